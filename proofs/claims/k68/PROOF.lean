import PyProof.Rows.All
import Wide.All
import OpenK.AllK
import PySem.Challenge.RW_goneday_k68_whole_holds_laid_and_lifted
open PySem.Str renaming ofString->Q6,ofString->Q9
open PySem.W renaming Frag->Q7,nsIn->Se,mg_none_of->Sv,findIn->Tb,emptyDict->Td,fnOf->Th,keepIn->Ts,instObj->TZ,mg_of->T8,methodCall_KW->U0,callWith_K->Vq,codeIn->Vt,cellsFrom_some->VA,plainGet->VH,isFn->VO,plainGet_of->VY,lookIn->V1,methodObj->Wb,hasDictIn->Wc,takerIn->WB,makesIn->WC,plainOver->Xn,handedIn->Xx,OpenLaw->XM,WalkO->X0
open List renaming length_map->Q8,map_cons->Rb,mem_cons->Rh,mem_map->Rj,getElem?_eq_some_iff->Rm,length_cons->Rq,getElem?_set_ne->Rr,getElem?_map->Rt,mem_cons_of_mem->Ru,length_append->Rv,mem_append->Ry,map_map->RB,mem_cons_self->RD,size_toArray->RE,mem_singleton->RF,getElem?_eq_getElem->RG,map_append->RH,mem_filter->RK,getElem?_set_self->RL,take_of_length_le->RM,mem_of_getElem?->RN,lookup_cons->RP,replicate->RR,map_nil->RX,append_nil->RY,mem_append_right->R0,length_filter_le->R1,take_succ->R4,foldl_cons->R6,find?_cons->R7,length_nil->R8,map->Sb,length_take->Sg,not_mem_nil->Sj,filter_cons->So,getElem?_append_left->Sq,filterMap_cons->Sr,nodup_cons->Ss,pairwise_cons->Su,getElem?_cons_succ->Sx,nil_append->Sy,cons_append->Sz,any_cons->SA,pairwise_map->SD,range->SE,getElem?_cons_zero->SS,getElem?_eq_none->S6,getElem?_append_right->Ta,getElem_mem->Ti,set_cons_zero->Tn,set_cons_succ->To,filter->Tr,getElem?_replicate->Tu,getElem?_nil->Tv,map_congr_left->Tx,mem_filterMap->TQ,find?_eq_none->TV,mem_append_left->T1,foldl_append->T6,any_eq_true->T9,ext_getElem->Ua,all_cons->Us,pairwise_iff_getElem->Uu,flatMap_append->UE,length_eq_zero_iff->UG,range_succ->UP,lookup->UR,drop_of_length_le->US,length_range->UU,append_assoc->UW,flatMap_cons->UY,length_singleton->U1,take_append_drop->U3,all_nil->U5,any_nil->U6,length_drop->Va,pairwise_append->Vb,mem_of_mem_take->Vc,mem_flatMap->Vd,getD_eq_getElem?_getD->Ve,perm_ext_iff_of_nodup->Vf,filter_sublist->Vh,drop_eq_getElem_cons->Vj,mem_of_find?_eq_some->Vm,getElem?_set_self'->Vv,getElem?_inj->Vw,nodup_append->Vy,getElem_inj->VG,length_replicate->VJ,filterMap_append->VM,any_map->VT,find?_some->VU,Nodup->VW,eq_nil_of_length_eq_zero->VX,getElem_of_mem->VZ,tail_cons->V2,contains_cons->V5,set_comm->V8,length_eraseIdx_of_lt->V9,find?_append->Wi,filterMap_eq_nil_iff->Wm,pairwise_singleton->WA,of_mem_zip->WD,length->WG,pairwise_lt_range->WH,filter_eq_nil_iff->WJ,mem_range->WK,map_eq_cons_iff->WW,mem_of_mem_drop->WX,map_take->WY,getElem?_range->WZ,filter_eq_self->W3,replicate_succ->W5,length_pos_iff->W6,toArray->Xf,append_of_mem->Xh,filter_append->Xi,getElem_range->Xj,any_eq_false->Xm,not_lt->Xv,all_eq_true->Xz,le_antisymm->XA,map_snd_zip->XE,take_length->XF,forIn_cons->XI,forIn_nil->XW,foldl_nil->XX,lt_trans->X3,sum_cons->X5
open PySem.PyData renaming str->Ra,int->Rg,strOk->Rz,eqv->RC,tuple->RV,canLay0->R3,list->Sw,canLayAll0->SQ,eqvAll->S5,none->Tq,depthAll->Vk,bool->VC,depth->Wq
open PySem.Heap renaming get?_push_of_some->Rc,lt_size->Rx,get?_push_size->RJ,get?_update_self->Tf,SameBut->T2,get?_update_other->Ue,size_push->Uw,get?_update_ne->W2,get?_push_ne->Xo,ExtBut->Yj
open Nat renaming le_refl->Rf,ne_of_lt->RI,le_trans->RS,zero_le->Sd,lt_of_lt_of_le->Sm,lt_succ_of_lt->SO,reduceAdd->S0,reduceSub->S4,le_succ->Tc,lt_succ_self->Tg,lt_or_ge->Tz,le_of_not_lt->TK,reduceLeDiff->Uc,le_of_lt->Uh,sub_self->Uj,zero_add->Uk,lt_irrefl->Um,add_zero->UA,reduceLT->UB,lt_of_le_of_lt->UQ,ne_of_gt->Vo,lt_trans->VS,le_of_succ_le->Wf,add_le_add_left->W4,min_eq_right->XG,min_eq_left->XT,le_of_eq->X8,le_total->Yb
open PySem.ScopeKind renaming function->Ri
open PySem renaming Spec->Rk,Scope->RQ,mem_of_lookup->Tw,boot_len->U7,Within->W8,Fin->Xg,MulOk->Xw,call->XJ
open Bool renaming false_ne_true->Rl,and_eq_true->Si,false_eq_true->SH,not_eq_true'->SR,true_and->SV,false_or->Tp,or_false->TH,true_eq_false->TX,not_eq_true->Ud,or_eq_true->Ul,not_false->Ux,not_true->UH,and_true->UI,eq_iff_iff->UM,false_and->UZ,not_eq_false->Xt,and_false->XU,and_comm->X6
open PySem.NameKind renaming free->RA,globalImplicit->Sa,free->SU,cell->VD
open Array renaming length_toList->RO,getD_eq_getD_getElem?->SN,getD->Ut,getElem?_eq_getElem->Uv,getElem?_toList->VL,perm_iff_toList_perm->Wa,getElem?_eq_none->WI,mem_toList_iff->WT,toList_append->W0,toList_push->Xq,toList_inj->XB,toList_map->XC,toList_zip->XD,toList->X7
open Int renaming emod_lt_of_pos->RT,emod_nonneg->R5,eq_ofNat_of_zero_le->SK,toNat_natCast->T5,reduceNeg->Uo,reducePow->Ur,reduceLT->UC,reduceLE->UD,le_refl->Vg,lt_trichotomy->Wh,zero_add->Wt,le_trans->Xk,le_antisymm->XR,max_le->XS,mul_one->Yf
open PySem.PassesOwn renaming never->RU
open PySem.Value renaming ref->RW,int->TN,none->TY,str->UK,bool->UL,type->U9,isInt_shape->Xl,isInt->Xu,isStrOf->XZ,bytes->Yc,float->Yd
open List.cons renaming injEq->RZ,inj->VF
open Sum renaming inr->R9,inl->Wn
open Option.some renaming inj->Sk,injEq->SM
open PySem.Heap.SameBut renaming update->Sn
open PySem.Obj renaming mapSeq->SF,data_mapFields->Tj,isFreed_of_fields->U2,cls_mapFields->Wg,putSet->Wk,mapFields->X2
open PySem.SeqAt renaming canLay_of_shaped->SG,shaped->VR,EqAt->XH
open PySem.PyData.tuple renaming injEq->SI
open PySem.PyData.str renaming injEq->SJ
open PySem.SetTable renaming below->SW,grown->Ub,orStandIn->Xd,sizeAbove->Xe,layClean->Xp,relaid->XQ,laid->X1,slot->X4
open PySem.PyData.int renaming injEq->SX
open PySem.Builtin.Int renaming intBits->SY
open PyProof.Rows renaming boot_sorted->S7,callWith_type1->U8,boot_max->VN,bubble->V0,boot_sum->WQ,boot_min->WR
open False renaming elim->S8
open True renaming intro->S9
open PySem.PyData.list renaming injEq->Te
open PySem.Around renaming under_plainId->Tt,under->Xa
open Function renaming comp->TJ
open Option renaming join_some->TL,join_none->TM,map_some->T3,map_none->T4,map_eq_some_iff->Ug,isSome_iff_exists->Uy,isSome_map->Vx,mem_toList->Vz,getD_none->Wo,isSome_some->Xc,bind->Yi
open PySem.F renaming slot_dict_get->TU,entry_dict_get->UT,slot_list_extend->Vr,plainAttrs_list->Vu,plain_extend_loop->Wl,type_list_extend->Wr,args_dict_get_2->Wu,args_dict_get_3->Wv,plainAttrs_dict->Ww,plain_list_iadd->Wy,type_dict_get->WM,plain_set_new->WN,slot_set_iter->WO
open PySem.PyData.bool renaming injEq->T7
open PyProof.Rows.F renaming plain_set_update_loop->Ui,entry_set_update_loop->Vs
open PySem.Builtin.List renaming listTooLong->Uz,listLengthHint->V3,listExtendWith->V4,listSameRef->Ws,listUpdate->Wx
open PySem.Txt renaming mul->UJ
open PySem.W.WData renaming int->UN,weightAll->Vi,list->Wj,layableAll->Xy,weight->X9
open ForInStep renaming yield->UO
open PySem.SetTable.below renaming go->UX
open Nat.succ renaming inj->U4
open PySem.Calls renaming call_function_entry->Vl,spliced_cons->Vp,callWith_builtin->VB,evalArgs_plain->VP,Name_function_global->V7,spliced_nil->We
open PySem.W.KasT renaming kasWp_bind->Vn
open Prod.mk renaming injEq->VE
open PySem.AutoSeq1 renaming list_extend_list_list_0->VI
open Or renaming inr->VQ,inl->WL
open PySem.Paired renaming length->V6,snoc->Yh
open PySem.Builtin.Dict renaming updateFrom->Wz
open PySem.Expr renaming Call->WE,Subscript->WS,BinOp->Yk
open PySem.SeqAt.RcAt renaming tuple_str->WU
open PySem.SeqAt.EqAt renaming str_tuple->WV,str_int->W7
open PySem.Flow renaming next->W9
open PySem.Code renaming isFrame->Xb,frames->Yg
open PySem.PyData.dict renaming injEq->Xr
open PySem.SetTable.probe renaming go->Xs
open PySem.Walks renaming list->XN
open PySem.Heap.DictOf renaming new->XO
open PyProof.Rows.IsTup renaming new->XY
open Prod renaming ext->Ya
open PySem.CmpOp renaming NotIn->Ye
open PySem.Heap.IsSliceOf renaming new->Yl
open PySem renaming PyData->Ys,Value->Yt,Addr->Yu,wpAny_bind->Yv,Shared->Yw,wpAny_pure->Yx,wpAny->Yy,starEach->Yz,Expr->YA,model->YB,sizeLine->YC,FuncData->YD,Program->YE,World->YF,Heap->YG,Stmt->YH,mainGlobals->YI,Around->YJ,foldedSetIterable->YL,backTo->YM,swapsWith->YN,compareOp->YO,cLine->YQ,wpAny_mono->YR,bootBuiltins->YS,behindInMarks->YU,wpAny_newObj_type->YV,wpAny_holding->YW,attributeBase->YX,sizeLine_eq->YY,cellsFrom->YZ,wpAny_call_entry->Y0,keywordEach->Y1,wpAny_truthy_bool->Y2,NameKind->Y3,Scope->Y4,wpAny_loadPart'->Y5,SetTable->Y6,codeAny_builtin->Y7,sysModules->Y8,tupleKind_room_in1->Za,wpAny_passesOwn->Zb,Keyword->Zc,backToKw->Zd,wpAny_setState_of->Ze,codeAny->Zf,codeAny_mono->Zg,wpAny_askSetting->Zh,wpAny_setEntries_of->Zi,wpAny_callSpecial?_slot->Zj,plainId_quiet->Zk,pyNext->Zl,wpAny_Call_Name_kw->Zm,scanBound->Zn,binaryOp->Zo,holding->Zp,rawInt->Zq,wpAny_setField->Zr,bindName->Zs,call_meets->Zt,swapsWithSole->Zu,swappedStores->Zv,wpAny_newList->Zx,sliceBounds->Zz,intKind->ZC,assignEach->ZD,wpAny_rule->ZE,wpAny_bindName->ZF,typeIs_str->ZG,setNext->ZH,wpAny_pyIter_list->ZI,assignInOrder->ZJ,wpAny_attempt->ZK,relayAll->ZL,tupleKind->ZM,standAt->ZO,PassesOwn->ZP,getMethod->ZQ,valueAt->ZR,builtinLookup_eq_fast->ZS,wpAny_execs_nil->ZT,letOwnedTupleGo->ZU,wpAny_ite_split->ZV,wpAny_fieldsOf->ZY,firstArgMember->ZZ,subscripted->Z0,wpAny_of_eq->Z1,DictEntry->Z2,pickOrder->Z3,wpAny_standAt->Z4,GenState->Z6,wpAny_comprehension_free->Z7,wpAny_isInstance->Z8
open PyProof.Rows renaming seqObj->YK,IntsAre->YT,assignInOrder_cons->Y9,envOfC->Zw,listUpdate_at->Zy,get?_update_seq->ZA,AllBare->ZN,entry_list_sort->ZW,slot_list_sort->ZX,assignInOrder_nil->Z5
theorem cp{p:Prop}[Decidable p](h:decide p=true:=by decide+kernel):p:=of_decide_eq_true h
theorem Ym{p:Prop}(h:p:=by decide):p:=h
theorem Yn{p:Prop}(h:p:=by omega):p:=h
theorem Yr{p:Prop}(h:p:=by simp):p:=h
theorem Yo{c:Prop}{h:Decidable c}(k:¬c){α:Sort u}{t e:α}:ite c t e=e:=if_neg k
theorem Yp{c:Prop}{h:Decidable c}(k:c){α:Sort u}{t e:α}:ite c t e=t:=if_pos k
abbrev Z9:=PySem.NameKind.local
set_option compiler.extract_closed false
def rzS:="↓oB ↓oE ↓oF ↓oG ↓oH ↓oI ↓oC ↓lP ↓nM ↓oN ↓oO ↓oP ↓oQ ↓oR ↓oT ↓nN ↓nO ↓nP ↓nQ ↓nR ↓nS ↓nT ↓nU ↓nV ↓nW ↓nX ↓nY ↓nZ ↓oe ↓oh ↓oi ↓oj ↓om ↓oo ↓oq ↓ot ↓oz ↓oA fB kF g6 jl jm gr iN kG kK kL jY kz dC cQ dI kR kT kU kW hZ lz lr kX dL jW kA gW gI cY gX jU kB kC kD kE gY nJ nK nL k6 lA j2 kY kZ k7 k8 k9 lh lq lB lC lE hV kM kN kO lN lK lL ic lM lJ lO lR lQ lT lU lV iW lW j5 lX l6 l4 l5 lZ mf l8 me jy mq jA mj mm mn mr mv mw my mx mz mB mC ig iZ mD ne_eq nA nB nE nF nG nz jq jr kP iO kJ kI kH hJ fC dH jR jS iF Rb RX Rq R8 RR Sz Sy RY S0 S4 UA Uk Uj SS Sx Tv Tn To SM exists_eq_left' exists_eq_left exists_and_left exists_and_right TL TM Sl.v.injEq Sl.o.injEq Sl.k.injEq SX T7 SJ SI Te RZ and_true true_and UB Uc exists_const decide_eq_true_eq UC UD Uo Ur SR decide_eq_false_iff_not and_assoc or_true true_or ↓reduceIte if_true if_false SH TX not_true_eq_false not_false_eq_true UH Ux ite_true ite_false eq_self exists_eq reduceCtorEq false_and and_false or_false false_or exists_false T3 T4 jk Us U5 SA U6 UI TH SV Tp dJ fD iT gy lF eV nk nq beq_self_eq_true j0 nh ni cJ sizeLine_eq"
def rzT (n : String) : Lean.MacroM (Lean.TSyntax `tactic) := do
 let ts : Array (Lean.TSyntax `Lean.Parser.Tactic.simpLemma) <- ((n.splitOn " ").toArray).mapM λs =>do
  if s.startsWith "↓" then
   let i := Lean.mkIdent (s.drop 1).toString.toName
   `(Lean.Parser.Tactic.simpLemma| ↓ $i:ident)
  else
   let i := Lean.mkIdent s.toName
   `(Lean.Parser.Tactic.simpLemma| $i:ident)
 `(tactic| simp only [$ts,*])
local macro_rules|`(command|def $i:declId $s:optDeclSig $v:declVal)=>`(command|noncomputable def $i:declId $s:optDeclSig $v:declVal)|`(command|abbrev $i:declId $s:optDeclSig $v:declVal)=>`(command|noncomputable abbrev $i:declId $s:optDeclSig $v:declVal)
noncomputable section
set_option Elab.async false
set_option linter.all false
set_option maxRecDepth 100000
set_option maxHeartbeats 0
set_option genSizeOf false
namespace L2
open PySem PySem.Spec PyProof.Rows
abbrev ah:=Sum Int Str
def pf:ah->Yt->Bool
 | .inl k,v=>Xu k v
 | .inr x,v=>XZ x v
def HJ(w:YF):ah->Int
 | .inl k=>hashInt k
 | .inr x=>hashStr w x
theorem jc:∀{k:ah}{v:Yt},pf k v=true->(∃i t,k=Wn i/\v=TN i t)\/(∃x t,k=R9 x/\v=UK x t)
 | .inl i,v,h=>by
  obtain⟨t,e⟩:=Xl (k:=i) (v:=v) h;exact .inl ⟨i,t,rfl,e⟩
 | .inr x,v,h=>by
  obtain⟨t,e⟩:=Value.isStrOf_shape (x:=x) (v:=v) h;exact .inr ⟨x,t,rfl,e⟩
theorem HK(i:Int)(t:Tok):pf (.inl i) (.int i t)=true:=by simp [pf,Xu]
theorem HL(x:Str)(t:Tok):pf (.inr x) (.str x t)=true:=by simp [pf,XZ]
theorem HM(a b:Int):decide ((Wn a:ah)=Wn b)=(a==b):=by
 by_cases e:a=b
 ·subst e;simp
 ·have h:¬(Wn a:ah)=Wn b:=λq=>e (Wn.inj q);rw [decide_eq_false h];exact(beq_eq_false_iff_ne.mpr e).symm
theorem HN(a b:Str):decide ((R9 a:ah)=R9 b)=decide (a=b):=by
 by_cases e:a=b
 ·subst e;simp
 ·have h:¬(R9 a:ah)=R9 b:=λq=>e (R9.inj q);rw [decide_eq_false h,decide_eq_false e]
theorem HP(a:Int)(b:Str):decide ((Wn a:ah)=R9 b)=false:=decide_eq_false (λq=>nomatch q)
theorem HQ(a:Str)(b:Int):decide ((R9 a:ah)=Wn b)=false:=decide_eq_false (λq=>nomatch q)
def bZ(prog:YE)(w:YF):PySem.KeyKind prog w ah where
 is:=pf
 hash:=HJ w
 inj:=λv a b ha hb=>by
  rcases jc ha with⟨i,t,rfl,rfl⟩ | ⟨x,t,rfl,rfl⟩
  ·rcases jc hb with⟨j,u,rfl,e⟩ | ⟨y,u,rfl,e⟩
   ·injection e with e1 _;rw [e1]
   ·exact nomatch e
  ·rcases jc hb with⟨j,u,rfl,e⟩ | ⟨y,u,rfl,e⟩
   ·exact nomatch e
   ·injection e with e1 _;rw [e1]
 byValue:=λk v h=>by
  rcases jc h with⟨i,t,rfl,rfl⟩ | ⟨x,t,rfl,rfl⟩ <;> rfl
 pyHash:=λhv h=>by
  rcases jc hv with⟨i,t,rfl,rfl⟩ | ⟨x,t,rfl,rfl⟩
  ·exact wpAny_pyHash_int h
  ·exact wpAny_pyHash_str h
 eqBool:=λhu hv h=>by
  rcases jc hu with⟨i,t,rfl,rfl⟩ | ⟨x,t,rfl,rfl⟩
  ·rcases jc hv with⟨j,u,rfl,rfl⟩ | ⟨y,u,rfl,rfl⟩
   ·rw [HM] at h;exact wpAny_eqBool_int h
   ·rw [HP] at h;exact XH.int_str i t y u _ _ _ _ h
  ·rcases jc hv with⟨j,u,rfl,rfl⟩ | ⟨y,u,rfl,rfl⟩
   ·rw [HQ] at h;exact W7 x t j u _ _ _ _ h
   ·rw [HN] at h;exact wpAny_eqBool_str h
 «strs»:=λk x t v h=>by
  rcases jc h with⟨i,u,rfl,e⟩ | ⟨y,u,rfl,e⟩
  ·exact nomatch e
  ·injection e with e1 _
   subst e1;cases v <;> rfl
theorem HR(prog:YE)(w:YF)(i:Int)(t:Tok):(bZ prog w).is (.inl i) (.int i t)=true:=HK i t
theorem HS(prog:YE)(w:YF)(x:Str)(t:Tok):(bZ prog w).is (.inr x) (.str x t)=true:=HL x t
inductive V where
 | non | bl (b:Bool) | int (i:Int) | str (x:Str) | byt (b:Array UInt8) | flt (b:UInt64) | ref (a:Yu) | ty (n:String)
 deriving DecidableEq
def aC:V->Yt->Prop
 | .non,u=>u=TY
 | .bl b,u=>u=UL b
 | .int i,u=>∃t,u=TN i t
 | .str x,u=>∃t,u=UK x t
 | .byt b,u=>∃t,u=Yc b t
 | .flt b,u=>∃t,u=Yd b t
 | .ref a,u=>u=RW a
 | .ty n,u=>u=U9 n
abbrev aH:List V->List Yt->Prop:=Paired aC
theorem aH.length{xs:List V}{us:List Yt}(r:aH xs us):xs.length=us.length:=V6 r
theorem aH.get:∀{xs:List V}{us:List Yt}{i:Nat}{x:V},aH xs us->xs[i]?=some x->∃u,us[i]?=some u/\aC x u
 | _,_,_,_,.nil,e=>by simp at e
 | _,_,0,_,.cons r _,e=>by simp at e;subst e;exact⟨_,rfl,r⟩
 | _,_,i+1,x,.cons _ t,e=>by
  obtain⟨u,h1,h2⟩:=aH.get (i:=i) (x:=x) t (by simpa using e);exact⟨u,by simpa using h1,h2⟩
theorem aH.append:∀{xs ys:List V}{us ws:List Yt},aH xs us->aH ys ws->aH (xs++ys) (us++ws)
 | _,_,_,_,.nil,s=>s
 | _,_,_,_,.cons r t,s=>.cons r (aH.append t s)
theorem aH.take:∀{xs:List V}{us:List Yt}(n:Nat),aH xs us->aH (xs.take n) (us.take n)
 | _,_,0,_=>.nil
 | _,_,_+1,.nil=>.nil
 | _,_,n+1,.cons r t=>.cons r (aH.take n t)
theorem aH.drop:∀{xs:List V}{us:List Yt}(n:Nat),aH xs us->aH (xs.drop n) (us.drop n)
 | _,_,0,r=>r
 | _,_,_+1,.nil=>.nil
 | _,_,n+1,.cons _ t=>aH.drop n t
def eG:Option V->Option Yt->Prop
 | some v,some u=>aC v u
 | none,none=>True
 | _,_=>False
def KV{κ:Type}:List (κ×V)->List (κ×Yt)->Prop:=Paired λ(p:κ×V) (q:κ×Yt)=>p.1=q.1/\aC p.2 q.2
def kV:ah->V
 | .inl i=>.int i
 | .inr x=>.str x
inductive HO where
 | lst (xs:List V)
 | tup (xs:List V)
 | dK (kvs:List (ah×V)) | dT (kvs:List (List ah×V))
 | set (S:Int->Bool) (n:Nat)
 | ins (C dx:Yu) (fs:List (Str×V))
 | own (x:Yu)
 | xd (fs:List (Str×V))
 | met (f x:Yu)
 | rng (lo hi:Int)
 | frz (o:Obj) (u:HO)
 | tbl (ps:Array Yt)
 | ext (φ:YG->Prop)
abbrev Hp:=Yu->Option HO
def ai(H:Hp)(a:Yu)(o:HO):Hp:=λb=>if b=a then some o else H b
theorem bh{H:Hp}{a:Yu}{o:HO}:ai H a o a=some o:=by unfold ai;rw [Yp rfl]
theorem az{H:Hp}{a b:Yu}{o:HO}(h:b≠a):ai H a o b=H b:=by unfold ai;rw [Yo h]
theorem Bc{H:Hp}{a:Yu}{o u:HO}:ai (ai H a o) a u=ai H a u:=by
 funext b;unfold ai;split <;> rfl
theorem HU{H:Hp}{a b:Yu}{o u:HO}(h:H a=some o)(h':H b=some u)(d:o≠u):a≠b:=by
 intro e;subst e;rw [h] at h';exact d (Sk h')
theorem eY{H:Hp}{a b:Yu}{o:HO}(h:H a=some o)(h':H b=none):a≠b:=by
 intro e;subst e;rw [h] at h';cases h'
section
variable (P:YE) (w:YF)
def cm(H:Hp)(h:YG)(a:Yu):HO->Prop
 | .lst xs=>xs.length<=YC/\∃(its:List Yt)(n:Nat),aH xs its/\h.get? a=some {cls:= .type "list",data:= .seq its.toArray n}
 | .tup xs=>xs.length<=YC/\∃its:List Yt,aH xs its/\IsTup h a its.toArray
 | .dK kvs=>kvs.length<=YC/\(a==Y8)=false/\∃vs,KV kvs vs/\h.DictOf (bZ P w) a vs
 | .dT kvs=>kvs.length<=YC/\(a==Y8)=false/\∃xs:List (List ah×Yu×Yt),
  Paired (λ(p:List ah×V) (q:List ah×Yu×Yt)=>p.1=q.1/\H q.2.1=some (.tup (p.1.map kV))/\aC p.2 q.2.2) kvs xs/\
  ∃o es ep,h.get? a=some o/\o.ExactDict/\o.data= .dict es ep/\es.toList=xs.map (entryOfKey (ZM (bZ P w)))/\(xs.map (·.1)).Nodup
 | .set S n=>h.SetOf (ZC P w) a S n
 | .ins C dx fs=>H dx=some (.own a)/\fs.length<=1000/\dx≠a/\h.get? a=some (TZ C dx)/\
  ∃mA,h.Ns1 dx mA/\(∀f,eG (fs.lookup f) (mA f))/\W8 mA (fs.map (·.1))
 | .own _=>∃o,h.get? a=some o
 | .xd fs=>∃mA,h.Ns1 a mA/\∀f,eG (fs.lookup f) (mA f)
 | .rng lo hi=>∃t u v,h.get? a=some {cls:= .type "range",data:= .fields #[.int lo t,.int hi u,.int 1 v]}
 | .frz o u=>h.get? a=some o/\cm H h a u
 | .tbl ps=>h.get? a=some {cls:= .none,data:= .fields ps}
 | .met f x=>h.get? a=some (Wb (.ref f) (.ref x))
 | .ext φ=>φ h/\(∃o,h.get? a=some o)/\∀h1 h2:YG,φ h1->(∀o,h1.get? a=some o->h2.get? a=some o)->φ h2
def bJ(H:Hp)(h:YG):Prop:=∀a o,H a=some o->cm P w H h a o
end
section
variable {P:YE} {w:YF} {H H':Hp} {h h':YG} {a:Yu} {o:HO}
theorem cm.lt(x:cm P w H h a o):a < h.objs.size:=by
 cases o with
 | lst xs=>obtain⟨_,_,_,_,e⟩:=x;exact Rx e
 | tup xs=>obtain⟨_,_,_,p⟩:=x;exact p.lt
 | dK kvs=>obtain⟨_,_,_,_,o,_,_,e,_⟩:=x;exact Rx e
 | dT kvs=>obtain⟨_,_,_,_,o,_,_,e,_⟩:=x;exact Rx e
 | set S n=>obtain⟨o,_,_,_,e,_⟩:=x;exact Rx e
 | ins C dx fs=>obtain⟨_,_,_,e,_⟩:=x;exact Rx e
 | own y=>obtain⟨_,e⟩:=x;exact Rx e
 | xd fs=>obtain⟨_,⟨_,_,_,e,_⟩,_⟩:=x;exact Rx e
 | rng lo hi=>obtain⟨_,_,_,e⟩:=x;exact Rx e
 | frz ob u=>obtain⟨e,_⟩:=x;exact Rx e
 | tbl ps=>exact Rx (show h.get? a=some _ from x)
 | met f y=>exact Rx (show h.get? a=some _ from x)
 | ext φ=>obtain⟨_,⟨_,e⟩,_⟩:=x;exact Rx e
theorem Paired.mapP{α β:Type}{F G:α->β->Prop}:∀{l₁:List α}{l₂:List β},Paired F l₁ l₂->(∀a b,F a b->G a b)->Paired G l₁ l₂
 | _,_,.nil,_=>.nil
 | _,_,.cons r t,f=>.cons (f _ _ r) (Paired.mapP t f)
theorem cm.stay(x:cm P w H h a o)(k:∀b u,(b=a\/H b=some (.own a))->h.get? b=some u->h'.get? b=some u)
 (ho:∀b,H b=some (.own a)->H' b=some (.own a))(ht:∀b xs,H b=some (.tup xs)->H' b=some (.tup xs)):cm P w H' h' a o:=by
 induction o with
 | lst xs=>obtain⟨z,its,n,r,e⟩:=x;exact⟨z,its,n,r,k _ _ (.inl rfl) e⟩
 | tup xs=>obtain⟨z,its,r,ob,e,c⟩:=x;exact⟨z,its,r,ob,k _ _ (.inl rfl) e,c⟩
 | dK kvs=>obtain⟨z,y,vs,r,ob,es,ep,e,c⟩:=x;exact⟨z,y,vs,r,ob,es,ep,k _ _ (.inl rfl) e,c⟩
 | dT kvs=>
  obtain⟨z,y,xs,r,ob,es,ep,e,c⟩:=x;exact⟨z,y,xs,Paired.mapP r λp q z=>⟨z.1,ht _ _ z.2.1,z.2.2⟩,ob,es,ep,k _ _ (.inl rfl) e,c⟩
 | set S n=>obtain⟨ob,es,ep,t,e,c⟩:=x;exact⟨ob,es,ep,t,k _ _ (.inl rfl) e,c⟩
 | ins C dx fs=>
  obtain⟨d,z,ne,e,mA,⟨od,es,ep,e2,c⟩,r⟩:=x;exact⟨ho _ d,z,ne,k _ _ (.inl rfl) e,mA,⟨od,es,ep,k _ _ (.inr d) e2,c⟩,r⟩
 | own y=>obtain⟨ob,e⟩:=x;exact⟨ob,k _ _ (.inl rfl) e⟩
 | xd fs=>obtain⟨mA,⟨od,es,ep,e,c⟩,r⟩:=x;exact⟨mA,⟨od,es,ep,k _ _ (.inl rfl) e,c⟩,r⟩
 | rng lo hi=>obtain⟨t,u,v,e⟩:=x;exact⟨t,u,v,k _ _ (.inl rfl) e⟩
 | frz ob u ih=>obtain⟨e,q⟩:=x;exact⟨k _ _ (.inl rfl) e,ih q⟩
 | tbl ps=>
  have e:h.get? a=some {cls:= .none,data:= .fields ps}:=x;show h'.get? a=some {cls:= .none,data:= .fields ps};exact k a _ (.inl rfl) e
 | met f y=>
  have e:h.get? a=some (Wb (.ref f) (.ref y)):=x;show h'.get? a=some (Wb (.ref f) (.ref y));exact k a _ (.inl rfl) e
 | ext φ=>obtain⟨p,⟨o,e⟩,st⟩:=x;exact⟨st _ _ p λo q=>k _ _ (.inl rfl) q,⟨o,k _ _ (.inl rfl) e⟩,st⟩
theorem bJ.lt(x:bJ P w H h)(e:H a=some o):a < h.objs.size:=(x a o e).lt
theorem bJ.fresh(x:bJ P w H h)(e:h.objs.size<=a):H a=none:=by
 cases q:H a with
 | none=>rfl
 | some u=>exact absurd (Sm (x.lt q) e) (Um _)
theorem bJ.kept(x:bJ P w H h)(k:∀b u,h.get? b=some u->h'.get? b=some u):bJ P w H h':=λa o e=>
 (x a o e).stay (λb u _ q=>k b u q) (λ_ q=>q) λ_ _ q=>q
theorem bJ.laid(x:bJ P w H h)(k:∀b u,h.get? b=some u->h'.get? b=some u)(hp:h.objs.size<=a)(new:cm P w (ai H a o) h' a o):bJ P w (ai H a o) h':=λb u e=>by
 have hn:=x.fresh hp;by_cases hb:b=a
 ·subst hb;rw [bh] at e;cases e;exact new
 ·rw [az hb] at e;exact(x b u e).stay (λc v _ q=>k c v q) (λc q=>by rw [az (eY q hn)];exact q) λc xs q=>by rw [az (eY q hn)];exact q
end
def Rd(H:Hp)(a:Yu)(u:HO):Prop:=H a=some u\/∃o,H a=some (.frz o u)
theorem Rd.ok{P:YE}{w:YF}{H:Hp}{h:YG}{a:Yu}{u:HO}(r:Rd H a u)(x:bJ P w H h):cm P w H h a u:=by
 rcases r with r | ⟨o,r⟩
 ·exact x a u r
 ·obtain⟨_,q⟩:=x a _ r;exact q
def qB:Option HO->Prop
 | some (.lst _)=>True
 | some (.dK _)=>True
 | some (.dT _)=>True
 | some (.set _ _)=>True
 | some (.ins _ _ _)=>True
 | some (.ext _)=>True
 | _=>False
section
variable {P:YE} {w:YF} {H:Hp} {h h':YG} {x e:Yu} {o':HO}
theorem bJ.write(ok:bJ P w H h)(mu:qB (H x))(he:e=x\/H e=some (.own x))(k:∀b u,b≠e->h.get? b=some u->h'.get? b=some u)(heo:∃u,h'.get? e=some u)
 (new:cm P w (ai H x o') h' x o'):bJ P w (ai H x o') h':=λb u q=>by
 have nown:∀c y,H c=some (.own y)->c≠x:=λc y r z=>by subst z;rw [r] at mu;exact mu
 have ntup:∀c xs,H c=some (.tup xs)->c≠x:=λc xs r z=>by subst z;rw [r] at mu;exact mu
 by_cases hb:b=x
 ·subst hb;rw [bh] at q;cases q;exact new
 ·rw [az hb] at q;by_cases hbe:b=e
  ·have q':H b=some (.own x):=by
    rcases he with z | z
    ·exact absurd (hbe.trans z) hb
    ·rw [hbe];exact z
   rw [q] at q';cases q';obtain⟨v,hv⟩:=heo;exact⟨v,by rw [hbe];exact hv⟩
  ·refine(ok b u q).stay (λc v hc r=>k c v ?_ r) (λc r=>by rw [az (nown c b r)];exact r) λc xs r=>by rw [az (ntup c xs r)];exact r
   rcases hc with rfl | hc
   ·exact hbe
   ·rintro rfl;rcases he with z | z
    ·exact nown c b hc z
    ·rw [hc] at z;cases z;exact hb rfl
end
structure Un (fs ex:List Yu) (H H':Hp) (h h':YG):Prop where
 keep:∀b o,h.get? b=some o->H b=none->b ∉ fs->b ∉ ex->h'.get? b=some o
 slot:∀b o,h.get? b=some o->H b=none->b∈fs->b ∉ ex->∃sl,h'.get? b=some {o with slots:=sl}
 free:∀b o,h.get? b=some o->H b=none->b ∉ ex->H' b=none
 there:∀b o,h.get? b=some o->b ∉ ex->∃o',h'.get? b=some o'
 tups:∀b xs,H b=some (.tup xs)->H' b=some (.tup xs)
 frzs:∀b o u,H b=some (.frz o u)->H' b=some (.frz o u)
 tbls:∀b ps,H b=some (.tbl ps)->∃more,H' b=some (.tbl (ps++more))
section
variable {fs fs' ex ex':List Yu} {H H1 H2:Hp} {h h1 h2 h':YG} {a x e:Yu} {o:HO}
theorem Un.any(u:Un fs ex H H1 h h1){b:Yu}{ob:Obj}(q:h.get? b=some ob)(n:H b=none)(hx:b ∉ ex):∃sl,h1.get? b=some {ob with slots:=sl}:=by
 by_cases hb:b∈fs
 ·exact u.slot b ob q n hb hx
 ·exact⟨ob.slots,u.keep b ob q n hb hx⟩
theorem Un.kept(k:∀b u,h.get? b=some u->h'.get? b=some u):Un fs ex H H h h':=
 ⟨λb ob q _ _ _=>k b ob q,λb ob q _ _ _=>⟨ob.slots,k b ob q⟩,λ_ _ _ n _=>n,λb ob q _=>⟨ob,k b ob q⟩,λ_ _ q=>q,λ_ _ _ q=>q,λ_ ps q=>⟨#[],by rw [q];simp⟩⟩
theorem Un.refl:Un fs ex H H h h:=Un.kept λ_ _ q=>q
theorem Un.laid(k:∀b u,h.get? b=some u->h'.get? b=some u)(hp:h.objs.size<=a)(hn:H a=none):Un fs ex H (ai H a o) h h' where
 keep:=λb u q _ _ _=>k b u q
 slot:=λb u q _ _ _=>⟨u.slots,k b u q⟩
 free:=λb u q n _=>by rw [az (RI (Sm (Rx q) hp))];exact n
 there:=λb u q _=>⟨u,k b u q⟩
 tups:=λb xs q=>by rw [az (eY q hn)];exact q
 frzs:=λb u xs q=>by rw [az (eY q hn)];exact q
 tbls:=λb ps q=>⟨#[],by rw [az (eY q hn),q];simp⟩
theorem Un.write(mu:qB (H x))(he:e=x\/H e=some (.own x))(k:∀b u,b≠e->h.get? b=some u->h'.get? b=some u)(heo:∃u,h'.get? e=some u):Un fs ex H (ai H x o) h h':=by
 have hx:∀b,H b=none->b≠x:=λb n z=>by subst z;rw [n] at mu;exact mu
 have hb:∀b,H b=none->b≠e:=λb n z=>by
  subst z;rcases he with r | r
  ·exact hx b n r
  ·rw [n] at r;cases r
 have hm:∀b u,H b=some u->¬qB (some u)->b≠x:=λb u q nm z=>by subst z;rw [q] at mu;exact nm mu
 refine⟨λb u q n _ _=>k b u (hb b n) q,λb u q n _ _=>⟨u.slots,k b u (hb b n) q⟩,λb u q n _=>by rw [az (hx b n)];exact n,λb u q _=>?_,
  λb xs q=>by rw [az (hm b _ q λz=>z)];exact q,λb u xs q=>by rw [az (hm b _ q λz=>z)];exact q,λb ps q=>⟨#[],by rw [az (hm b _ q λz=>z),q];simp⟩⟩
 by_cases hbe:b=e
 ·subst hbe;exact heo
 ·exact⟨u,k b u hbe q⟩
end
def trk(h:YG)(H:Hp):List Yu:=(SE h.objs.size).filter λa=>(H a).isSome
def jP(h:YG)(H:Hp):YG:=PySem.W.hideAll h (trk h H)
theorem HV(h:YG)(H:Hp):(jP h H).objs.size=h.objs.size:=PySem.W.hideAll_size _ _
theorem HW{h:YG}{H:Hp}{b:Yu}{o:Obj}(e:h.get? b=some o)(n:H b=none):(jP h H).get? b=some o:=
 PySem.W.hideAll_get _ e λhm=>by
  have q:(H b).isSome=true:=(RK.mp hm).2;rw [n] at q;simp at q
theorem HX{h:YG}{H:Hp}{b:Yu}{o:Obj}(e:(jP h H).get? b=some o):h.get? b=some o/\H b=none:=by
 have e':h.get? b=some o:=PySem.W.of_hideAll (trk h H) e;refine⟨e',?_⟩;cases q:H b with
 | none=>rfl
 | some x=>
  have hm:b∈trk h H:=RK.mpr ⟨WK.mpr (Rx e'),by simp [q]⟩;have z:(jP h H).get? b=none:=PySem.W.hideAll_none (trk h H) hm;rw [z] at e;cases e
def HY(g h:YG)(L:Yu):List (Yu×Obj):=(SE h.objs.size).filterMap λa=>if a=L\/(g.get? a).isSome=true then none else(h.get? a).map λo=>(a,o)
def rest(g h:YG)(L d:Yu):List (Yu×Obj):=(HY g h L).filter λp=>decide (p.1≠d)
structure Mod (K:Q7) (mg:Str->Option Yt) (base:YG):Prop where
 kin:K.In base
 glob:base.Ns YI mg
 blt:∃mb,base.Ns builtinsNs mb/\∀x:Str,x≠"__name__"->mb x=YS x
 nolimit:base.NoLimit
structure Cx where
 prog:YE
 w:YF
 K:Q7
 mg:Str->Option Yt
 base:YG
 A:YJ
 N:List Str
 s₀:Yw
 H₀:Hp
 env:Env
 outer:List Env
 stack:List Env
 ex:List Yu
 fn:Str->Bool
 calm:Bool
 pn:List (Yu×Obj)
 xe:Yt->Yw->Prop
def gG(l:List Env):List Yu:=l.filterMap (·.frame)
abbrev Cx.fs(X:Cx):List Yu:=gG X.outer
def qC(sc:Y4)(x:Str):Prop:=sc.names.lookup x=some .local\/sc.names.lookup x=some .cell\/sc.names.lookup x=some .free
def gP(sc:Y4)(x:Str):Prop:=sc.names.lookup x=some .local\/sc.names.lookup x=some .cell
def HZ(env:Env)(h:YG)(m:Str->Option Yt)(x:Str)(u:Yt):Prop:=
 (env.kindOf x=some .local/\m x=some u)\/((env.kindOf x=some .cell\/env.kindOf x=some .free)/\∃c,env.cells.lookup x=some c/\h.IsCell c (some u))
structure Cx.Ok (X:Cx):Prop where
 mod:Mod X.K X.mg X.base
 kind:X.env.scope.kind= .function
 glob:X.env.globals=YI
 blt:X.env.builtins=builtinsNs
 above:X.s₀.heap.objs.size<=X.env.locals
 inj:∀x y c,X.env.cells.lookup x=some c->X.env.cells.lookup y=some c->x=y
 has:∀x,(X.env.kindOf x=some .cell\/X.env.kindOf x=some .free)->∃c,X.env.cells.lookup x=some c
 cab:∀x c,X.fn x=true->X.env.cells.lookup x=some c->X.s₀.heap.objs.size<=c
 hd:X.calm=true->X.A.handled=none
 frames:X.A.frames=some X.stack
 stk:X.stack=X.outer\/(X.stack=X.env::X.outer/\X.env.frame=some X.env.locals)
 exf:∀b∈X.ex,b≠X.env.locals/\∀x c,X.env.cells.lookup x=some c->c≠b
 bs:∀b o,X.base.get? b=some o->X.s₀.heap.get? b=some o/\X.H₀ b=none
 bsz:X.base.objs.size<=X.s₀.heap.objs.size
 noex:∀b o,X.base.get? b=some o->b ∉ X.ex
 exfs:∀b∈X.ex,b ∉ X.fs
 funs:X.s₀.heap.FunFrames X.base X.outer
 frf:∀b∈X.fs,X.H₀ b=none
structure af (X:Cx) (aaa:List (Yu×Obj)) (σ:List (Option V)) (H:Hp) (s:Yw):Prop where
 ok:X.Ok
 os:s.os=X.s₀.os
 bare:ZN s.gens
 base:Un X.fs X.ex X.H₀ H X.s₀.heap s.heap
 loc:∃m,s.heap.Ns X.env.locals m/\∀(i:Nat)(x:Str)(v:V),X.N[i]?=some x->σ[i]?=some (some v)->qC X.env.scope x->∃u,aC v u/\HZ X.env s.heap m x u
 cell:∀x c,X.env.cells.lookup x=some c->∃v,s.heap.IsCell c v
 free:H X.env.locals=none
 freeC:∀x c,X.env.cells.lookup x=some c->H c=none
 pin:∀p∈X.pn++aaa,s.heap.get? p.1=some p.2/\H p.1=none/\p.1≠X.env.locals/\p.1 ∉ X.fs/\∀v,p.2.data≠ .cell v
 hok:bJ X.prog X.w H s.heap
 len:σ.length=X.N.length
section
variable {X:Cx} {aaa:List (Yu×Obj)} {σ:List (Option V)} {H H':Hp} {s:Yw} {h':YG}
theorem Cx.Ok.nofr(ok:X.Ok){b:Yu}{o:Obj}(e:X.base.get? b=some o):b ∉ X.fs:=λhb=>by
 have:=(ok.funs.mem hb).1;rw [e] at this;cases this
theorem af.bs(I:af X aaa σ H s):∀b o,X.base.get? b=some o->s.heap.get? b=some o/\H b=none:=λb o e=>
 ⟨I.base.keep b o (I.ok.bs b o e).1 (I.ok.bs b o e).2 (I.ok.nofr e) (I.ok.noex b o e),I.base.free b o (I.ok.bs b o e).1 (I.ok.bs b o e).2 (I.ok.noex b o e)⟩
theorem af.bk(I:af X aaa σ H s):∀b o,X.base.get? b=some o->s.heap.get? b=some o:=λb o e=>(I.bs b o e).1
theorem af.mod(I:af X aaa σ H s):Mod X.K X.mg X.base:=I.ok.mod
theorem af.kIn(I:af X aaa σ H s):X.K.In s.heap:=I.ok.mod.kin.keeps I.bk
theorem af.fr(I:af X aaa σ H s):∃m,Fr X.base X.env.locals s.heap m:=
 let ⟨m,hn,_⟩:=I.loc
 ⟨m,hn,I.bk,RS I.ok.bsz I.ok.above⟩
theorem af.lt(I:af X aaa σ H s):X.env.locals < s.heap.objs.size:=let ⟨_,hn,_⟩:=I.loc;hn.lt
theorem af.sz(I:af X aaa σ H s):X.s₀.heap.objs.size<=s.heap.objs.size:=RS I.ok.above (Uh I.lt)
theorem af.nofs(I:af X aaa σ H s){a:Yu}(h:s.heap.objs.size<=a):a ∉ X.fs:=λhb=>by
 obtain⟨_,o,ho,_⟩:=I.ok.funs.mem hb;exact absurd (Sm (Rx ho) (RS I.sz h)) (Um _)
theorem af.cne(I:af X aaa σ H s):∀x c,X.env.cells.lookup x=some c->c≠X.env.locals:=λx c e z=>by
 obtain⟨v,o,ho,hd⟩:=I.cell x c e;obtain⟨m,⟨o',es,ep,ho',hd',_⟩,_⟩:=I.loc;rw [z,ho'] at ho;cases ho;rw [hd'] at hd;cases hd
theorem af.funs(I:af X aaa σ H s):s.heap.FunFrames X.base X.outer:=by
 have all:∀(l:List Env),(∀b∈gG l,b∈X.fs)->X.s₀.heap.FunFrames X.base l->s.heap.FunFrames X.base l:=by
  intro l
  induction l with
  | nil=>intro _ _;trivial
  | cons env r ih=>
   intro hs hl;obtain⟨hk,⟨L,o,hf,hn,ho,hd⟩,hr⟩:=hl;have hL:L∈X.fs:=hs L (by unfold gG;rw [Sr,hf];exact RD);obtain⟨sl,e⟩:=I.base.slot L o ho (I.ok.frf L hL) hL λz=>I.ok.exfs L z hL;exact⟨hk,⟨L,_,hf,hn,e,hd⟩,ih (λb hb=>hs b (by unfold gG;rw [Sr,hf];exact Ru _ hb)) hr⟩
 exact all X.outer (λ_ hb=>hb) I.ok.funs
theorem af.stack(I:af X aaa σ H s):s.heap.FunFrames X.base X.stack:=by
 rcases I.ok.stk with e | ⟨e,hf⟩
 ·rw [e];exact I.funs
 ·rw [e];obtain⟨m,hn,_⟩:=I.loc;refine .cons (by rw [I.ok.kind];decide) hf hn ?_ I.funs;exact Heap.get?_none_of_le (RS I.ok.bsz I.ok.above)
theorem af.stkSub(I:af X aaa σ H s):∀b∈gG X.stack,b∈X.env.locals::X.fs:=λb hb=>by
 rcases I.ok.stk with e | ⟨e,hf⟩
 ·rw [e] at hb;exact Ru _ hb
 ·rw [e] at hb;unfold gG at hb;rw [Sr,hf] at hb;exact hb
theorem af.stkFree(I:af X aaa σ H s):∀b∈gG X.stack,H b=none:=λb hb=>by
 rcases Rh.mp (I.stkSub b hb) with e | hb
 ·rw [e];exact I.free
 ·obtain⟨_,o,ho,_⟩:=I.ok.funs.mem hb;exact I.base.free b o ho (I.ok.frf b hb) λz=>I.ok.exfs b z hb
theorem af.step{g':Array Z6}{t':Nat}{d':Drawn}{ch:List Yu}(I:af X aaa σ H s)
 (hch:∀b∈ch,(b∈X.ex\/X.s₀.heap.objs.size<=b)/\b≠X.env.locals/\(∀x c,X.env.cells.lookup x=some c->c≠b)/\∀p∈X.pn++aaa,p.1≠b)
 (keep:∀b o,b≠X.env.locals->b ∉ X.fs->b ∉ ch->s.heap.get? b=some o->H b=none->h'.get? b=some o)
 (slot:∀b o,b≠X.env.locals->b∈X.fs->b ∉ ch->s.heap.get? b=some o->H b=none->∃sl,h'.get? b=some {o with slots:=sl})(free:∀b o,b ∉ ch->s.heap.get? b=some o->H b=none->H' b=none)
 (there:∀b o,b ∉ ch->s.heap.get? b=some o->∃o',h'.get? b=some o')
 (tups:∀b xs,H b=some (.tup xs)->H' b=some (.tup xs))(frzs:∀b o u,H b=some (.frz o u)->H' b=some (.frz o u))(tbls:∀b ps,H b=some (.tbl ps)->∃more,H' b=some (.tbl (ps++more)))
 (ns:∀m,s.heap.Ns X.env.locals m->h'.Ns X.env.locals m)(hok:bJ X.prog X.w H' h')(hg:ZN g'):
 af X aaa σ H' {s with heap:=h',gens:=g',drawn:=d',toks:=t'}:=by
 have neL:∀b o,X.s₀.heap.get? b=some o->b≠X.env.locals:=λb o e=>RI (Sm (Rx e) I.ok.above);have neC:∀b o,X.s₀.heap.get? b=some o->b ∉ X.ex->b ∉ ch:=λb o e hx hb=>by
  rcases(hch b hb).1 with z | z
  ·exact hx z
  ·exact absurd (Sm (Rx e) z) (Um _)
 have cellK:∀x c,X.env.cells.lookup x=some c->∀v,s.heap.IsCell c v->h'.IsCell c v:=λx c e v uu1=>by
  obtain⟨o,ho,hd⟩:=uu1;have nch:c ∉ ch:=λz=>(hch c z).2.2.1 x c e rfl;by_cases hc:c∈X.fs
  ·obtain⟨sl,q⟩:=slot c o (I.cne x c e) hc nch ho (I.freeC x c e);exact⟨_,q,hd⟩
  ·exact⟨o,keep c o (I.cne x c e) hc nch ho (I.freeC x c e),hd⟩
 refine⟨I.ok,I.os,hg,⟨λb o e n hb hx=>?_,λb o e n hb hx=>?_,λb o e n hx=>?_,λb o e hx=>?_,λb xs e=>tups b xs (I.base.tups b xs e),λb o xs e=>frzs b o xs (I.base.frzs b o xs e),λb ps e=>?_⟩,?_,λx c e=>?_,?_,λx c e=>?_,λp hp=>?_,hok,I.len⟩
 ·exact keep b o (neL b o e) hb (neC b o e hx) (I.base.keep b o e n hb hx) (I.base.free b o e n hx)
 ·obtain⟨sl,e1⟩:=I.base.slot b o e n hb hx;obtain⟨sl',e2⟩:=slot b _ (neL b o e) hb (neC b o e hx) e1 (I.base.free b o e n hx);exact⟨sl',e2⟩
 ·obtain⟨o',e1⟩:=I.base.there b o e hx;exact free b o' (neC b o e hx) e1 (I.base.free b o e n hx)
 ·obtain⟨o',e1⟩:=I.base.there b o e hx;exact there b o' (neC b o e hx) e1
 ·obtain⟨m1,e1⟩:=I.base.tbls b ps e;obtain⟨m2,e2⟩:=tbls b _ e1;exact⟨m1++m2,by rw [e2,Array.append_assoc]⟩
 ·obtain⟨m,hn,hl⟩:=I.loc;refine⟨m,ns m hn,λi x v e1 e2 e3=>?_⟩;obtain⟨u,r,l⟩:=hl i x v e1 e2 e3;refine⟨u,r,?_⟩;rcases l with l | ⟨k,c,e,z⟩
  ·exact .inl l
  ·exact .inr ⟨k,c,e,cellK x c e _ z⟩
 ·obtain⟨v,z⟩:=I.cell x c e;exact⟨v,cellK x c e v z⟩
 ·obtain⟨m,⟨o,_,_,ho,_⟩,_⟩:=I.loc;exact free _ o (λz=>(hch _ z).2.1 rfl) ho I.free
 ·obtain⟨v,o,ho,hd⟩:=I.cell x c e;exact free c o (λz=>(hch c z).2.2.1 x c e rfl) ho (I.freeC x c e)
 ·obtain⟨e,n,ne,nf,d⟩:=I.pin p hp;have nch:p.1 ∉ ch:=λz=>(hch p.1 z).2.2.2 p hp rfl;exact⟨keep p.1 p.2 ne nf nch e n,free p.1 p.2 nch e n,ne,nf,d⟩
theorem af.un{t':Nat}(I:af X aaa σ H s)(u:Un X.fs [] H H' s.heap h')(hok:bJ X.prog X.w H' h'):af X aaa σ H' {s with heap:=h',toks:=t'}:=by
 obtain⟨m,⟨o,es,ep,ho,r⟩,_⟩:=id I.loc;obtain⟨sl,hL⟩:=u.any ho I.free Yr;exact I.step (g':=s.gens) (d':=s.drawn) (ch:=[]) (λ_ z=>nomatch z) (λb o _ hb _ e n=>u.keep b o e n hb Yr) (λb o _ hb _ e n=>u.slot b o e n hb Yr) (λb o _ e n=>u.free b o e n Yr) (λb o _ e=>u.there b o e Yr) u.tups u.frzs u.tbls (λm' hm=>by
  obtain⟨o',es',ep',ho',r'⟩:=hm;rw [ho] at ho';cases ho';exact⟨_,es',ep',hL,r'⟩) hok I.bare
theorem af.call{g':Array Z6}{t':Nat}{d':Drawn}{ch:List Yu}(I:af X aaa σ H s)(u:Un (gG X.stack) ch H H' s.heap h')(hok:bJ X.prog X.w H' h')(hg:ZN g')
 (hch:∀b∈ch,(b∈X.ex\/X.s₀.heap.objs.size<=b)/\b≠X.env.locals/\(∀x c,X.env.cells.lookup x=some c->c≠b)/\∀p∈X.pn++aaa,p.1≠b):
 af X aaa σ H' {s with heap:=h',gens:=g',drawn:=d',toks:=t'}:=by
 obtain⟨m,⟨o,es,ep,ho,r⟩,_⟩:=id I.loc;obtain⟨sl,hL⟩:=u.any ho I.free λz=>(hch _ z).2.1 rfl;exact I.step (ch:=ch) hch (λb o hL hb hc e n=>u.keep b o e n (λz=>(Rh.mp (I.stkSub b z)).elim hL hb) hc) (λb o _ _ hc e n=>u.any e n hc) (λb o hc e n=>u.free b o e n hc) (λb o hc e=>u.there b o e hc) u.tups u.frzs u.tbls (λm' hm=>by
  obtain⟨o',es',ep',ho',r'⟩:=hm;rw [ho] at ho';cases ho';exact⟨_,es',ep',hL,r'⟩) hok hg
theorem af.turned{t':Nat}{it:Yu}(I:af X aaa σ H s)(k:∀b o,b≠it->s.heap.get? b=some o->h'.get? b=some o)(hn:H it=none)(hL:it≠X.env.locals)
 (h1:it∈X.ex\/X.s₀.heap.objs.size<=it)(h2:∀x c,X.env.cells.lookup x=some c->c≠it)(h3:∀p∈X.pn++aaa,p.1≠it):af X aaa σ H {s with heap:=h',toks:=t'}:=by
 have nit:∀b u,H b=some u->b≠it:=λb u e z=>by rw [z,hn] at e;cases e
 refine I.step (g':=s.gens) (d':=s.drawn) (ch:=[it]) (λb hb=>?_) (λb o _ _ hc e _=>k b o (λz=>hc (by simp [z])) e) (λb o _ _ hc e _=>⟨o.slots,k b o (λz=>hc (by simp [z])) e⟩) (λ_ _ _ _ n=>n)
  (λb o hc e=>⟨o,k b o (λz=>hc (by simp [z])) e⟩) (λ_ _ e=>e) (λ_ _ _ e=>e) (λb ps e=>⟨#[],by rw [e];simp⟩) (λm hm=>?_) (λb u e=>?_) I.bare
 ·have e:b=it:=by simpa using hb
  subst e;exact⟨h1,hL,h2,h3⟩
 ·obtain⟨o,es,ep,ho,r⟩:=hm;exact⟨o,es,ep,k _ o (Ne.symm hL) ho,r⟩
 ·refine(I.hok b u e).stay (λc v hc q=>k c v ?_ q) (λ_ q=>q) λ_ _ q=>q;rcases hc with z | z
  ·rw [z];exact nit b u e
  ·exact nit c _ z
theorem af.tok(I:af X aaa σ H s)(t:Nat):af X aaa σ H {s with toks:=t}:=I.un (h':=s.heap) (t':=t) Un.refl I.hok
theorem af.kept{t':Nat}(I:af X aaa σ H s)(k:∀b u,s.heap.get? b=some u->h'.get? b=some u):af X aaa σ H {s with heap:=h',toks:=t'}:=I.un (Un.kept k) (I.hok.kept k)
theorem af.laid{a:Yu}{o:HO}{t':Nat}(I:af X aaa σ H s)(k:∀b u,s.heap.get? b=some u->h'.get? b=some u)(hp:s.heap.objs.size<=a)(new:cm X.prog X.w (ai H a o) h' a o):
 af X aaa σ (ai H a o) {s with heap:=h',toks:=t'}:=I.un (Un.laid k hp (I.hok.fresh hp)) (I.hok.laid k hp new)
theorem af.write{x e:Yu}{o:HO}{t':Nat}(I:af X aaa σ H s)(mu:qB (H x))(he:e=x\/H e=some (.own x))(k:∀b u,b≠e->s.heap.get? b=some u->h'.get? b=some u)(heo:∃u,h'.get? e=some u)
 (new:cm X.prog X.w (ai H x o) h' x o):af X aaa σ (ai H x o) {s with heap:=h',toks:=t'}:=I.un (Un.write mu he k heo) (I.hok.write mu he k heo new)
theorem af.weak{σ':List (Option V)}(I:af X aaa σ H s)(hl:σ'.length=σ.length)(w:∀(i:Nat) v,σ'[i]?=some (some v)->σ[i]?=some (some v)):af X aaa σ' H s:=
 ⟨I.ok,I.os,I.bare,I.base,let ⟨m,hn,hl'⟩:=I.loc;⟨m,hn,λi x v e1 e2 e3=>hl' i x v e1 (w i v e2) e3⟩,I.cell,I.free,I.freeC,I.pin,I.hok,hl.trans I.len⟩
theorem af.pins_of{pins':List (Yu×Obj)}(I:af X aaa σ H s)(h:∀p∈pins',s.heap.get? p.1=some p.2/\H p.1=none/\p.1≠X.env.locals/\p.1 ∉ X.fs/\∀v,p.2.data≠ .cell v):af X pins' σ H s:=
 ⟨I.ok,I.os,I.bare,I.base,I.loc,I.cell,I.free,I.freeC,λp hp=>(Ry.mp hp).elim (λz=>I.pin p (T1 _ z)) (h p),I.hok,I.len⟩
theorem Bd{N:List Str}(hN:N.Nodup){i j:Nat}{x:Str}(a:N[i]?=some x)(b:N[j]?=some x):i=j:=by
 obtain⟨h1,e1⟩:=Rm.mp a;obtain⟨h2,e2⟩:=Rm.mp b;exact(VG hN).mp (e1.trans e2.symm)
theorem Be{M:Model}{A:YJ}{E:Yt->Yw->Prop}{i:Nat}{x:Str}{v:V}{u:Yt}{Q:Unit->Yw->Prop}(I:af X aaa σ H s)(hN:X.N.Nodup)(hi:X.N[i]?=some x)(hx:gP X.env.scope x)(r:aC v u)
 (h:∀s',af X aaa (σ.set i (some v)) H s'->(∃a,T2 a s.heap s'.heap/\(a=X.env.locals\/X.env.cells.lookup x=some a))->Q () s')(hf:X.fn x=true\/X.env.scope.names.lookup x=some .local:=by first | exact .inl rfl | exact .inr rfl | assumption):Yy M A (storeName X.env x u) Q E s:=by
 obtain⟨m,hn,hl⟩:=id I.loc;have hcls:(X.env.scope.kind== .class || (X.env.scope.kind== .module && X.env.locals !=X.env.globals))=false:=by rw [I.ok.kind];rfl
 have hiσ:i < σ.length:=by rw [I.len];exact(Rm.mp hi).1
 have cne:=I.cne;have tracked:∀{a:Yu}{h':YG},(∃o,s.heap.get? a=some o/\H a=none)->T2 a s.heap h'->bJ X.prog X.w H h':=λ{a h'} ha hs b ob e=>by
  obtain⟨_,_,hfree⟩:=ha;refine(I.hok b ob e).stay (λc w' hc q=>(hs.2 c ?_).trans q) (λ_ q=>q) λ_ _ q=>q;rintro rfl;rcases hc with rfl | hc
  ·rw [hfree] at e;cases e
  ·rw [hfree] at hc;cases hc
 rcases hx with hk | hk
 ·refine wpAny_storeName_local hk hn (λh' hn' hs=>?_) hcls;obtain⟨oL,_,_,hoL,_⟩:=id hn;refine h _ ⟨I.ok,I.os,I.bare,⟨λb o e n hb hx=>?_,λb o e n hb hx=>?_,I.base.free,λb o e hx=>?_,I.base.tups,I.base.frzs,I.base.tbls⟩,⟨_,hn',λj y v' e1 e2 e3=>?_⟩,λy c e=>?_,I.free,I.freeC,λp hp=>?_,tracked ⟨oL,hoL,I.free⟩ hs,by simpa using I.len⟩ ⟨_,hs,.inl rfl⟩
  ·exact(hs.2 b (RI (Sm (Rx e) I.ok.above))).trans (I.base.keep b o e n hb hx)
  ·obtain⟨sl,e1⟩:=I.base.slot b o e n hb hx;exact⟨sl,(hs.2 b (RI (Sm (Rx e) I.ok.above))).trans e1⟩
  ·obtain⟨o',e1⟩:=I.base.there b o e hx;exact⟨o',(hs.2 b (RI (Sm (Rx e) I.ok.above))).trans e1⟩
  ·by_cases hj:j=i
   ·subst hj;rw [hi] at e1;cases e1;rw [RL hiσ] at e2;cases e2;exact⟨u,r,.inl ⟨hk,Yr⟩⟩
   ·rw [Rr (Ne.symm hj)] at e2;obtain⟨u',r',q⟩:=hl j y v' e1 e2 e3;refine⟨u',r',?_⟩;rcases q with⟨k,e⟩ | ⟨k,c,e,z⟩
    ·refine .inl ⟨k,?_⟩;have:y≠x:=λe=>hj (Bd hN e1 (e▸hi));simp [this,e]
    ·exact .inr ⟨k,c,e,z.sameBut hs (cne y c e)⟩
  ·obtain⟨w',z⟩:=I.cell y c e;exact⟨w',z.sameBut hs (cne y c e)⟩
  ·obtain⟨e,n,ne,nf,d⟩:=I.pin p hp;exact⟨(hs.2 p.1 ne).trans e,n,ne,nf,d⟩
 ·have hfn:X.fn x=true:=by
   rcases hf with z | z
   ·exact z
   ·rw [z] at hk;cases hk
  obtain⟨c,hc⟩:=I.ok.has x (.inl hk);obtain⟨w',z⟩:=I.cell x c hc;refine wpAny_storeName_cell I.ok.kind hk hc z (λh' hc' hs=>?_);obtain⟨oc,hoc,hocd⟩:=id z;refine h {s with heap:=h'} ⟨I.ok,I.os,I.bare,⟨λb o e n hb hx=>?_,λb o e n hb hx=>?_,I.base.free,λb o e hx=>?_,I.base.tups,I.base.frzs,I.base.tbls⟩,⟨m,hn.sameBut hs (Ne.symm (cne x c hc)),λj y v' e1 e2 e3=>?_⟩,λy c' e=>?_,I.free,I.freeC,λp hp=>?_,tracked ⟨oc,hoc,I.freeC x c hc⟩ hs,by simpa using I.len⟩ ⟨c,hs,.inr hc⟩
  ·exact(hs.2 b (RI (Sm (Rx e) (I.ok.cab x c hfn hc)))).trans (I.base.keep b o e n hb hx)
  ·obtain⟨sl,e1⟩:=I.base.slot b o e n hb hx;exact⟨sl,(hs.2 b (RI (Sm (Rx e) (I.ok.cab x c hfn hc)))).trans e1⟩
  ·obtain⟨o',e1⟩:=I.base.there b o e hx;exact⟨o',(hs.2 b (RI (Sm (Rx e) (I.ok.cab x c hfn hc)))).trans e1⟩
  ·by_cases hj:j=i
   ·subst hj;rw [hi] at e1;cases e1;rw [RL hiσ] at e2;cases e2;exact⟨u,r,.inr ⟨.inl hk,c,hc,hc'⟩⟩
   ·rw [Rr (Ne.symm hj)] at e2;obtain⟨u',r',q⟩:=hl j y v' e1 e2 e3;refine⟨u',r',?_⟩;rcases q with q | ⟨k,c',e,z'⟩
    ·exact .inl q
    ·refine .inr ⟨k,c',e,z'.sameBut hs ?_⟩;rintro rfl;exact hj (Bd hN e1 (I.ok.inj _ _ _ e hc▸hi))
  ·by_cases hcc:c'=c
   ·subst hcc;exact⟨_,hc'⟩
   ·obtain⟨w2,z2⟩:=I.cell y c' e;exact⟨w2,z2.sameBut hs hcc⟩
  ·obtain⟨e,n,ne,nf,d⟩:=I.pin p hp;refine⟨(hs.2 p.1 ?_).trans e,n,ne,nf,d⟩;intro q;rw [q,hoc] at e;have q':oc=p.2:=Sk e;exact d w' (by rw [<-q'];exact hocd)
theorem mR{M:Model}{A:YJ}{E:Yt->Yw->Prop}{i:Nat}{x:Str}{v:V}{u:Yt}{Q:Unit->Yw->Prop}(I:af X aaa σ H s)(hN:X.N.Nodup)(hi:X.N[i]?=some x)(hx:gP X.env.scope x)(r:aC v u)
 (h:∀s',af X aaa (σ.set i (some v)) H s'->Q () s')(hf:X.fn x=true\/X.env.scope.names.lookup x=some .local:=by first | exact .inl rfl | exact .inr rfl | assumption):Yy M A (storeName X.env x u) Q E s:=
 Be I hN hi hx r (λs' I' _=>h s' I') hf
theorem af.call'{s':Yw}{ch:List Yu}(I:af X aaa σ H s)(ho:s'.os=s.os)(u:Un (gG X.stack) ch H H' s.heap s'.heap)(hok:bJ X.prog X.w H' s'.heap)(hg:ZN s'.gens)
 (hch:∀b∈ch,(b∈X.ex\/X.s₀.heap.objs.size<=b)/\b≠X.env.locals/\(∀x c,X.env.cells.lookup x=some c->c≠b)/\∀p∈X.pn++aaa,p.1≠b):af X aaa σ H' s':=by
 obtain⟨h',g',d',t',o'⟩:=s';have e:o'=s.os:=ho;subst e;exact I.call (g':=g') (t':=t') (d':=d') u hok hg hch
end
abbrev XK:=Yt->Option Yu->Hp->Prop
abbrev St:=List (Option V)
abbrev VK:=V->Hp->Prop
abbrev TE:=St->Hp->VK->Prop
abbrev TT:=St->Hp->(Bool->Hp->Prop)->Prop
abbrev TA:=St->Hp->(List V->Hp->Prop)->Prop
structure jQ where
 nx:St->Hp->Prop
 rt:VK
 bk:St->Hp->Prop:=λ_ _=>False
 ct:St->Hp->Prop:=λ_ _=>False
abbrev TS:=jQ->St->Hp->Prop
inductive EP (X:Cx) (aaa:List (Yu×Obj)) (σ:St) (Q:VK) (u:Yt) (s':Yw):Prop
 | mk (v:V) (H':Hp):af X aaa σ H' s'->aC v u->Q v H'->EP X aaa σ Q u s'
inductive TP (X:Cx) (aaa:List (Yu×Obj)) (σ:St) (Q:Bool->Hp->Prop) (b:Bool) (s':Yw):Prop
 | mk (H':Hp):af X aaa σ H' s'->Q b H'->TP X aaa σ Q b s'
inductive AP (X:Cx) (aaa:List (Yu×Obj)) (σ:St) (Q:List V->Hp->Prop) (us:List Yt) (s':Yw):Prop
 | mk (vs:List V) (H':Hp):af X aaa σ H' s'->aH vs us->Q vs H'->AP X aaa σ Q us s'
def SP(X:Cx)(aaa:List (Yu×Obj))(D:jQ)(f:Flow)(s':Yw):Prop:=
 match f with
 | .next=>∃σ' H',af X aaa σ' H' s'/\D.nx σ' H'
 | .brk=>∃σ' H',af X aaa σ' H' s'/\D.bk σ' H'
 | .cont=>∃σ' H',af X aaa σ' H' s'/\D.ct σ' H'
 | .ret u=>∃v σ' H',af X aaa σ' H' s'/\aC v u/\D.rt v H'
def PE(X:Cx)(e:YA)(t:TE):Prop:=
 ∀(aaa:List (Yu×Obj))(s:Yw)(σ:St)(H:Hp)(Q:VK),af X aaa σ H s->t σ H Q->Yy (YB X.prog X.w) X.A (eval e X.env) (EP X aaa σ Q) X.xe s
def PT(X:Cx)(e:YA)(t:TT):Prop:=
 ∀(aaa:List (Yu×Obj))(s:Yw)(σ:St)(H:Hp)(Q:Bool->Hp->Prop),af X aaa σ H s->t σ H Q->Yy (YB X.prog X.w) X.A (isTrue e X.env (eval e X.env)) (TP X aaa σ Q) X.xe s
def PW(X:Cx)(e:YA)(t:TT):Prop:=
 ∀(whole:Sem Yt)(aaa:List (Yu×Obj))(s:Yw)(σ:St)(H:Hp)(Q:Bool->Hp->Prop),af X aaa σ H s->t σ H Q->Yy (YB X.prog X.w) X.A (isTrue e X.env whole) (TP X aaa σ Q) X.xe s
theorem PW.pt{X:Cx}{e:YA}{t:TT}(h:PW X e t):PT X e t:=h _
def PA(X:Cx)(es:List YA)(t:TA):Prop:=
 ∀(pos:Pos)(aaa:List (Yu×Obj))(s:Yw)(σ:St)(H:Hp)(Q:List V->Hp->Prop),af X aaa σ H s->t σ H Q->Yy (YB X.prog X.w) X.A (spliced (YM pos (Yz es X.env))) (AP X aaa σ Q) X.xe s
def PS(X:Cx)(st:YH)(t:TS):Prop:=
 ∀(aaa:List (Yu×Obj))(s:Yw)(σ:St)(H:Hp)(D:jQ),af X aaa σ H s->t D σ H->Yy (YB X.prog X.w) X.A (exec st X.env) (SP X aaa D) X.xe s
def bP(X:Cx)(st:List YH)(t:TS):Prop:=
 ∀(aaa:List (Yu×Obj))(s:Yw)(σ:St)(H:Hp)(D:jQ),af X aaa σ H s->t D σ H->Yy (YB X.prog X.w) X.A (execs st X.env) (SP X aaa D) X.xe s
theorem aA{α:Type}{t:Sem α}{Q Q':α->Yw->Prop}{M:Model}{A:YJ}{E:Yt->Yw->Prop}{s:Yw}(h:Yy M A t Q E s)(hQ:∀a s,Q a s->Q' a s):Yy M A t Q' E s:=YR h hQ λ_ _ x=>x
section
variable {X:Cx}
theorem QZ{a b:YA}{ta tb:TE}(ha:PE X a ta)(hb:PE X b tb){aaa:List (Yu×Obj)}{s:Yw}{σ:St}{H:Hp}{R:V->V->Hp->Prop}(I:af X aaa σ H s)(h:ta σ H λx H1=>tb σ H1 λy H2=>R x y H2)
 {α:Type}{Q:α->Yw->Prop}{f:Yt->Yt->Sem α}
 (hf:∀v u s2 x y H2,af X aaa σ H2 s2->aC x v->aC y u->R x y H2->Yy (YB X.prog X.w) X.A (f v u) Q X.xe s2):
 Yy (YB X.prog X.w) X.A (eval a X.env) (λv s₁=>Yy (YB X.prog X.w) X.A (eval b X.env) (λu s₂=>Yy (YB X.prog X.w) X.A (f v u) Q X.xe s₂) X.xe s₁) X.xe s:=by
 refine aA (ha aaa s σ H _ I h) λv s1 ⟨x,H1,I1,r1,q1⟩=>?_;refine aA (hb aaa s1 σ H1 _ I1 q1) λu s2 ⟨y,H2,I2,r2,q2⟩=>?_;exact hf v u s2 x y H2 I2 r1 r2 q2
def cA(i:Nat):TE:=λσ H Q=>∃v,σ[i]?=some (some v)/\Q v H
def tC(v:V):TE:=λ_ H Q=>Q v H
theorem vz{i:Nat}{x:Str}{pos:Pos}(hN:X.N[i]?=some x)(hv:qC X.env.scope x)(hd:(x==("__debug__":Str))=false:=by decide)(hcd:(x==("__classdict__":Str))=false:=by decide):PE X (.Name x pos) (cA i):=by
 intro aaa s σ H Q I h;obtain⟨v,e,h⟩:=h;obtain⟨m,hn,hl⟩:=I.loc;obtain⟨u,r,l⟩:=hl i x v hN e hv;have fin:EP X aaa σ Q u s:=⟨v,H,I,r,h⟩;rcases l with⟨hk,hm⟩ | ⟨hk,c,hc,hcell⟩
 ·exact wpAny_Name (wpAny_loadName_local I.ok.kind hk hn hm fin) hd
 ·rcases hk with hk | hk
  ·exact wpAny_Name (wpAny_loadName_cell I.ok.kind hk hc hcell fin) hd
  ·exact wpAny_Name (wpAny_loadName_free I.ok.kind hk hc hcell fin hcd) hd
theorem bK{i j pos}:PE X (.Constant (.int i) j pos) (tC (.int i)):=λ_ _ _ H _ I h=>wpAny_Constant_int ⟨.int i,H,I.tok _,⟨_,rfl⟩,h⟩
theorem Bf{b j pos}:PE X (.Constant (.bool b) j pos) (tC (.bl b)):=λ_ _ _ H _ I h=>Constant_bool ⟨.bl b,H,I,rfl,h⟩
theorem Ia{j pos}:PE X (.Constant .none j pos) (tC .non):=λ_ _ _ H _ I h=>Constant_none ⟨.non,H,I,rfl,h⟩
theorem vA{x j pos}:PE X (.Constant (.str x) j pos) (tC (.str x)):=λ_ _ _ H _ I h=>Calls.Constant_str ⟨.str x,H,I.tok _,⟨_,rfl⟩,h⟩
def Gl(X:Cx)(x:Str):Prop:=X.env.kindOf x=some .globalImplicit
theorem sg{E:Yt->Yw->Prop}{aaa:List (Yu×Obj)}{s:Yw}{σ:St}{H:Hp}{x:Str}{u:Yt}{pos:Pos}{Q:Yt->Yw->Prop}(I:af X aaa σ H s)(hg:Gl X x)(hm:X.mg x=some u)(h:Q u s)
 (hd:(x==("__debug__":Str))=false:=by decide):Yy (YB X.prog X.w) X.A (eval (.Name x pos) X.env) Q E s:=
 V7 I.ok.kind hg (Calls.loadGlobal_global (by rw [I.ok.glob];exact I.mod.glob.keeps I.bk) hm h) hd
theorem qD{E:Yt->Yw->Prop}{aaa:List (Yu×Obj)}{s:Yw}{σ:St}{H:Hp}{x:Str}{u:Yt}{pos:Pos}{Q:Yt->Yw->Prop}(I:af X aaa σ H s)(hg:Gl X x)(hm:X.mg x=none)(hv:YS x=some u)(h:Q u s)
 (hn:x≠"__name__":=by decide)(hd:(x==("__debug__":Str))=false:=by decide):Yy (YB X.prog X.w) X.A (eval (.Name x pos) X.env) Q E s:=by
 obtain⟨mb,h1,h2⟩:=I.mod.blt;exact V7 I.ok.kind hg (Calls.loadGlobal_builtin (by rw [I.ok.glob];exact I.mod.glob.keeps I.bk) hm (by rw [I.ok.blt];exact h1.keeps I.bk) ((h2 x hn).trans hv) h) hd
theorem ph{x:Str}{v:V}{u:Yt}{pos:Pos}(hg:Gl X x)(hm:X.mg x=some u)(r:aC v u)(hd:(x==("__debug__":Str))=false:=by decide):PE X (.Name x pos) (tC v):=
 λ_ _ _ H _ I h=>sg I hg hm ⟨v,H,I,r,h⟩ hd
variable {a b:YA} {ta tb:TE} {pos:Pos}
def PC(X:Cx)(op:CmpOp)(a b:YA)(t:TE):Prop:=
 ∀(aaa:List (Yu×Obj))(s:Yw)(σ:St)(H:Hp)(Q:VK),af X aaa σ H s->t σ H Q->
  Yy (YB X.prog X.w) X.A (eval a X.env) (λv s₁=>Yy (YB X.prog X.w) X.A (eval b X.env) (λu s₂=>Yy (YB X.prog X.w) X.A (YO op v u) (EP X aaa σ Q) X.xe s₂) X.xe s₁) X.xe s
theorem Ib(b:YA){op:CmpOp}(h:op≠ .In)(h2:op≠ .NotIn):YU op b=false:=by
 have e1:(op==CmpOp.In)=false:=by cases op <;> first | rfl | exact absurd rfl h
 have e2:(op==Ye)=false:=by cases op <;> first | rfl | exact absurd rfl h2
 cases b <;> simp [YU,e1,e2]
def Bg(ta:TE):TE:=λσ H Q=>ta σ H λx H1=>Q (.bl (!decide (x= .non))) H1
theorem aC.none_iff{x:V}{v:Yt}(r:aC x v):(v==TY)=decide (x= .non):=by
 cases x with
 | non=>cases r;rfl
 | bl _=>cases r;rfl
 | int _=>obtain⟨t,rfl⟩:=r;rfl
 | str _=>obtain⟨t,rfl⟩:=r;rfl
 | byt _=>obtain⟨t,rfl⟩:=r;rfl
 | flt _=>obtain⟨t,rfl⟩:=r;rfl
 | ref _=>cases r;rfl
 | ty _=>cases r;rfl
theorem Ic{j pos'}(ha:PE X a ta):PC X .IsNot a (.Constant .none j pos') (Bg ta):=by
 intro aaa s σ H Q I h;refine aA (ha aaa s σ H _ I h) λv s1 ⟨x,H1,I1,r1,q1⟩=>?_;exact Constant_none (isnot_none_gen ⟨.bl _,H1,I1,by rw [r1.none_iff];rfl,q1⟩)
def tB(t:TE):TT:=λσ H Q=>t σ H λx H1=>∃c,x= .bl c/\Q c H1
theorem pj{op:CmpOp}{t:TE}(h:PC X op a b t)(h1:YU op b=false:=by first | exact Ib _ Ym Ym | rfl):PT X (.Compare a [op] [b] pos) (tB t):=by
 intro aaa s σ H Q I hw;refine wpAny_isTrue_Compare1 (aA (h aaa s σ H _ I hw) λv s1 h1=>aA h1 λu s2 h2=>aA h2 λc s3 ⟨x,H1,I1,r1,q1⟩=>?_) h1;obtain⟨d,rfl,q⟩:=q1;cases r1;exact Y2 ⟨H1,I1,q⟩
theorem Bh{e:YA}{t:TE}(h:PE X e t)(he:∀whole,isTrue e X.env whole=(do let v<-whole;ZO e.pos;Zp [v] (truthy v)):=by intro _;rfl):PT X e (tB t):=by
 intro aaa s σ H Q I hw;refine isTrue_plain (aA (h aaa s σ H _ I hw) λv s1 ⟨x,H1,I1,r1,q1⟩=>?_) (he _);obtain⟨d,rfl,q⟩:=q1;cases r1;exact Y2 ⟨H1,I1,q⟩
variable {tA tB':TT} {rest:List YA}
def Bi(t u:TT):TT:=λσ H Q=>t σ H λc H1=>if c=true then u σ H1 Q else Q false H1
def Bj(t u:TT):TT:=λσ H Q=>t σ H λc H1=>if c=true then Q true H1 else u σ H1 Q
def Bk(t:TT):TT:=λσ H Q=>t σ H λc H1=>Q (!c) H1
theorem Bl(ha:PT X a tA):PW X (.BoolOp .And [a] pos) tA:=by
 intro wh aaa s σ H Q I h;refine isTrue_and (aA (ha aaa s σ H Q I h) λc s1 e=>?_);cases c with
 | true=>exact isTrue_and_nil e
 | false=>exact e
theorem Ie(ha:PT X a tA):PW X (.BoolOp .Or [a] pos) tA:=by
 intro wh aaa s σ H Q I h;refine isTrue_or (aA (ha aaa s σ H Q I h) λc s1 e=>?_);cases c with
 | false=>exact isTrue_or_nil e
 | true=>exact e
theorem Bm(ha:PT X a tA)(hb:PW X (.BoolOp .And (b::rest) pos) tB'):PW X (.BoolOp .And (a::b::rest) pos) (Bi tA tB'):=by
 intro wh aaa s σ H Q I h;refine isTrue_and (aA (ha aaa s σ H _ I h) λc s1 ⟨H1,I1,q1⟩=>?_);cases c with
 | true=>exact hb wh aaa s1 σ H1 Q I1 q1
 | false=>exact⟨H1,I1,q1⟩
theorem Ig(ha:PT X a tA)(hb:PW X (.BoolOp .Or (b::rest) pos) tB'):PW X (.BoolOp .Or (a::b::rest) pos) (Bj tA tB'):=by
 intro wh aaa s σ H Q I h;refine isTrue_or (aA (ha aaa s σ H _ I h) λc s1 ⟨H1,I1,q1⟩=>?_);cases c with
 | true=>exact⟨H1,I1,q1⟩
 | false=>exact hb wh aaa s1 σ H1 Q I1 q1
theorem Ih(ha:PT X a tA):PT X (.UnaryOp .Not a pos) (Bk tA):=by
 intro aaa s σ H Q I h;exact isTrue_not (aA (ha aaa s σ H (λc H1=>Q (!c) H1) I h) λc s1 uu9=>by obtain⟨H1,I1,q⟩:=uu9;exact⟨H1,I1,q⟩)
def Bn(ta tb:TE):TE:=λσ H Q=>ta σ H λx H1=>∃c,x= .bl c/\if c=true then tb σ H1 Q else Q (.bl false) H1
def Bo(ta tb:TE):TE:=λσ H Q=>ta σ H λx H1=>∃c,x= .bl c/\if c=true then Q (.bl true) H1 else tb σ H1 Q
theorem vB{op}{t:TE}(h:PE X a t):PE X (.BoolOp op [a] pos) t:=λaaa s σ H Q I hw=>BoolOp_one (h aaa s σ H Q I hw)
theorem Bp(ha:PE X a ta)(hb:PE X (.BoolOp .And (b::rest) pos) tb):PE X (.BoolOp .And (a::b::rest) pos) (Bn ta tb):=by
 intro aaa s σ H Q I h;refine BoolOp_and (aA (ha aaa s σ H _ I h) λv s1 ⟨x,H1,I1,r1,q1⟩=>?_);obtain⟨c,rfl,q1⟩:=q1;cases r1;refine Y2 ?_;cases c with
 | true=>exact hb aaa s1 σ H1 Q I1 q1
 | false=>exact⟨.bl false,H1,I1,rfl,q1⟩
theorem Bq(ha:PE X a ta)(hb:PE X (.BoolOp .Or (b::rest) pos) tb):PE X (.BoolOp .Or (a::b::rest) pos) (Bo ta tb):=by
 intro aaa s σ H Q I h;refine BoolOp_or (aA (ha aaa s σ H _ I h) λv s1 ⟨x,H1,I1,r1,q1⟩=>?_);obtain⟨c,rfl,q1⟩:=q1;cases r1;refine Y2 ?_;cases c with
 | false=>exact hb aaa s1 σ H1 Q I1 q1
 | true=>exact⟨.bl true,H1,I1,rfl,q1⟩
def Br(t:TT)(ta tb:TE):TE:=λσ H Q=>t σ H λc H1=>if c=true then ta σ H1 Q else tb σ H1 Q
theorem Bs{c:YA}(hc:PT X c tA)(ha:PE X a ta)(hb:PE X b tb):PE X (.IfExp c a b pos) (Br tA ta tb):=by
 intro aaa s σ H Q I h;refine wpAny_IfExp (aA (hc aaa s σ H _ I h) λd s1 ⟨H1,I1,q1⟩=>?_);cases d with
 | true=>exact ha aaa s1 σ H1 Q I1 q1
 | false=>exact hb aaa s1 σ H1 Q I1 q1
end
def bq(K:Q7)(H:Hp)(a:Yu)(xs:List V):Prop:=
 Rd H a (.lst xs)\/
  ∃(o:Obj)(its:Array Yt)(n:Nat),K.lookup a=some o/\o.cls= .type "list"/\o.dict=none/\o.data= .seq its n/\its.size<=YC/\aH xs its.toList
def bw(K:Q7)(H:Hp)(a:Yu)(xs:List V):Prop:=
 Rd H a (.tup xs)\/
  ∃(o:Obj)(its:Array Yt)(n:Nat),K.lookup a=some o/\o.cls= .type "tuple"/\o.data= .seq its n/\its.size<=YC/\aH xs its.toList
def Ii:Yt->Option V
 | .none=>some .non
 | .bool b=>some (.bl b)
 | .int i _=>some (.int i)
 | .str x _=>some (.str x)
 | .bytes b _=>some (.byt b)
 | .float b _=>some (.flt b)
 | .ref a=>some (.ref a)
 | .type n=>some (.ty n)
 | _=>none
theorem aC.abs{x:V}{u:Yt}(r:aC x u):Ii u=some x:=by
 cases x with
 | non=>cases r;rfl
 | bl _=>cases r;rfl
 | int _=>obtain⟨t,rfl⟩:=r;rfl
 | str _=>obtain⟨t,rfl⟩:=r;rfl
 | byt _=>obtain⟨t,rfl⟩:=r;rfl
 | flt _=>obtain⟨t,rfl⟩:=r;rfl
 | ref _=>cases r;rfl
 | ty _=>cases r;rfl
theorem aC.inj{x y:V}{u:Yt}(r:aC x u)(q:aC y u):x=y:=Sk (r.abs.symm.trans q.abs)
theorem aH.inj:∀{xs ys:List V}{us:List Yt},aH xs us->aH ys us->xs=ys
 | _,_,_,.nil,.nil=>rfl
 | _,_,_,.cons r t,.cons r' t'=>by rw [r.inj r',aH.inj t t']
section
variable {X:Cx} {aaa:List (Yu×Obj)} {σ:St} {H:Hp} {s:Yw} {a:Yu} {xs ys:List V}
theorem bq.of{K:Q7}(h:H a=some (.lst xs)):bq K H a xs:= .inl (.inl h)
theorem bw.of{K:Q7}(h:H a=some (.tup xs)):bw K H a xs:= .inl (.inl h)
theorem af.list(I:af X aaa σ H s)(h:bq X.K H a xs):∃its:List Yt,aH xs its/\PlainL s.heap a its.toArray/\xs.length<=YC:=by
 rcases h with h | ⟨o,its,n,hk,hc,hd,hs,hz,r⟩
 ·obtain⟨z,its,n,r,e⟩:=h.ok I.hok;exact⟨its,r,⟨_,n,e,rfl,rfl,rfl⟩,z⟩
 ·refine⟨its.toList,r,⟨o,n,I.kIn a o hk,hc,hd,by simpa using hs⟩,?_⟩;have e:=r.length;simp only [RO] at e;omega
theorem af.tuple(I:af X aaa σ H s)(h:bw X.K H a xs):∃its:List Yt,aH xs its/\IsTup s.heap a its.toArray/\xs.length<=YC:=by
 rcases h with h | ⟨o,its,n,hk,hc,hs,hz,r⟩
 ·obtain⟨z,its,r,p⟩:=h.ok I.hok;exact⟨its,r,p,z⟩
 ·refine⟨its.toList,r,⟨o,I.kIn a o hk,hc,n,by simpa using hs⟩,?_⟩;have e:=r.length;simp only [RO] at e;omega
theorem af.list_inj(I:af X aaa σ H s)(h:bq X.K H a xs)(h':bq X.K H a ys):xs=ys:=by
 obtain⟨its,r,⟨o,n,e,_,_,d⟩,_⟩:=I.list h;obtain⟨its',r',⟨o',n',e',_,_,d'⟩,_⟩:=I.list h';rw [e] at e';cases e';rw [d] at d';injection d' with d1 _
 have:its=its':=by simpa using congrArg X7 d1
 subst this;exact r.inj r'
theorem af.tuple_inj(I:af X aaa σ H s)(h:bw X.K H a xs)(h':bw X.K H a ys):xs=ys:=by
 obtain⟨its,r,⟨o,e,_,n,d⟩,_⟩:=I.tuple h;obtain⟨its',r',⟨o',e',_,n',d'⟩,_⟩:=I.tuple h';rw [e] at e';cases e';rw [d] at d';injection d' with d1 _
 have:its=its':=by simpa using congrArg X7 d1
 subst this;exact r.inj r'
end
abbrev Cx.wish(X:Cx)(E:Yt->Yw->Prop):Cx:={X with xe:=E}
abbrev Cx.nox(X:Cx):Cx:=X.wish λ_ _=>False
theorem Cx.Ok.wish{X:Cx}(ok:X.Ok)(E:Yt->Yw->Prop):(X.wish E).Ok:=
 ⟨ok.mod,ok.kind,ok.glob,ok.blt,ok.above,ok.inj,ok.has,ok.cab,ok.hd,ok.frames,ok.stk,ok.exf,ok.bs,ok.bsz,ok.noex,ok.exfs,ok.funs,ok.frf⟩
theorem Cx.Ok.unwish{X:Cx}{E:Yt->Yw->Prop}(ok:(X.wish E).Ok):X.Ok:=
 ⟨ok.mod,ok.kind,ok.glob,ok.blt,ok.above,ok.inj,ok.has,ok.cab,ok.hd,ok.frames,ok.stk,ok.exf,ok.bs,ok.bsz,ok.noex,ok.exfs,ok.funs,ok.frf⟩
section
variable {X:Cx} {aaa:List (Yu×Obj)} {σ:St} {H:Hp} {s:Yw} {E:Yt->Yw->Prop}
theorem af.wish(I:af X aaa σ H s)(E:Yt->Yw->Prop):af (X.wish E) aaa σ H s:=⟨I.ok.wish E,I.os,I.bare,I.base,I.loc,I.cell,I.free,I.freeC,I.pin,I.hok,I.len⟩
theorem af.unwish(I:af (X.wish E) aaa σ H s):af X aaa σ H s:=⟨I.ok.unwish,I.os,I.bare,I.base,I.loc,I.cell,I.free,I.freeC,I.pin,I.hok,I.len⟩
theorem SP.unwish{D:jQ}{f:Flow}{s':Yw}(h:SP (X.wish E) aaa D f s'):SP X aaa D f s':=by
 cases f with
 | next=>obtain⟨σ',H',I,q⟩:=h;exact⟨σ',H',I.unwish,q⟩
 | brk=>obtain⟨σ',H',I,q⟩:=h;exact⟨σ',H',I.unwish,q⟩
 | cont=>obtain⟨σ',H',I,q⟩:=h;exact⟨σ',H',I.unwish,q⟩
 | ret u=>obtain⟨v,σ',H',I,r,q⟩:=h;exact⟨v,σ',H',I.unwish,r,q⟩
theorem bP.nox{st:List YH}{t:TS}(h:bP X.nox st t):bP X st t:=λaaa s σ H D I hw=>
 YR (h aaa s σ H D (I.wish _) hw) (λ_ _ q=>q.unwish) λ_ _ z=>S8 z
end
section
variable {X:Cx} {st:YH} {rest:List YH} {t u:TS} {e:YA} {te:TE} {pos:Pos}
def Bt:TS:=λD σ H=>D.nx σ H
def vC(t u:TS):TS:=λD σ H=>t {D with nx:=u D} σ H
theorem pk:bP X [] Bt:=λ_ _ σ H _ I h=>ZT ⟨σ,H,I,h⟩
theorem cV(h1:PS X st t)(h2:bP X rest u):bP X (st::rest) (vC t u):=by
 intro aaa s σ H D I h;refine wpAny_execs_cons (aA (h1 aaa s σ H {D with nx:=u D} I h) λf s1 q=>?_);cases f with
 | next=>
  obtain⟨σ',H',I',q⟩:=q;exact h2 aaa s1 σ' H' D I' q
 | ret v=>exact q
 | brk=>exact q
 | cont=>exact q
theorem fy(h1:PS X st t):bP X [st] t:=by
 intro aaa s σ H D I h;refine wpAny_execs_cons (aA (h1 aaa s σ H D I h) λf s1 q=>?_);cases f with
 | next=>exact ZT q
 | ret v=>exact q
 | brk=>exact q
 | cont=>exact q
theorem af.quiet{aaa:List (Yu×Obj)}{σ:St}{H:Hp}{s:Yw}(I:af X aaa σ H s):interactive X.env=false:=by simp [interactive,I.ok.kind]
def Bu(te:TE):TS:=λD σ H=>te σ H λ_ H1=>D.nx σ H1
theorem sh(he:PE X e te)(hs:YN e none pos.line X.env=pure false:=by rfl):PS X (.Expr e pos) (Bu te):=by
 intro aaa s σ H D I h;exact wpAny_Expr_any (aA (he aaa s σ H _ I h) λv s1 uu13=>by obtain⟨x,H1,I1,r1,q1⟩:=uu13;exact⟨σ,H1,I1,q1⟩) I.quiet hs
def Bv(te:TE):TS:=λD σ H=>te σ H D.rt
theorem gc(he:PE X e te):PS X (.Return (some e) pos) (Bv te):=by
 intro aaa s σ H D I h;exact wpAny_Return_some (aA (he aaa s σ H _ I h) λv s1 uu14=>by obtain⟨x,H1,I1,r1,q1⟩:=uu14;exact⟨x,σ,H1,I1,r1,q1⟩)
def Bw(c:TT)(t u:TS):TS:=λD σ H=>c σ H λb H1=>if b=true then t D σ H1 else u D σ H1
theorem pq{c:YA}{a b:List YH}{tc:TT}(hc:PT X c tc)(ha:bP X a t)(hb:bP X b u):PS X (.If c a b pos) (Bw tc t u):=by
 intro aaa s σ H D I h;refine wpAny_If (aA (hc aaa s σ H _ I h) λd s1 ⟨H1,I1,q1⟩=>?_);cases d with
 | true=>exact ha aaa s1 σ H1 D I1 q1
 | false=>exact hb aaa s1 σ H1 D I1 q1
def Ij:TS:=λ_ _ _=>False
theorem Ik:PS X st Ij:=λ_ _ _ _ _ _ h=>h.elim
end
abbrev TG:=V->St->Hp->(St->Hp->Prop)->Prop
abbrev jd:=List V->St->Hp->(St->Hp->Prop)->Prop
def PG(X:Cx)(target:YA)(t:TG):Prop:=
 ∀(aaa:List (Yu×Obj))(s:Yw)(σ:St)(H:Hp)(v:V)(u:Yt)(Q:St->Hp->Prop),af X aaa σ H s->aC v u->t v σ H Q->
  Yy (YB X.prog X.w) X.A (assign target X.env u) (λ_ s'=>∃σ' H',af X aaa σ' H' s'/\Q σ' H') X.xe s
def sj(X:Cx)(ts:List YA)(t:jd):Prop:=
 ∀(aaa:List (Yu×Obj))(s:Yw)(σ:St)(H:Hp)(vs:List V)(us:List Yt)(Q:St->Hp->Prop),af X aaa σ H s->aH vs us->t vs σ H Q->
  Yy (YB X.prog X.w) X.A (ZJ ((ZD ts X.env).map (·.2)) us) (λ_ s'=>∃σ' H',af X aaa σ' H' s'/\Q σ' H') X.xe s
section
variable {X:Cx} {pos:Pos}
def gH(i:Nat):TG:=λv σ H Q=>Q (σ.set i (some v)) H
theorem aI{i:Nat}{x:Str}(hN:X.N.Nodup)(hi:X.N[i]?=some x)(hx:gP X.env.scope x)(hf:X.fn x=true\/X.env.scope.names.lookup x=some .local:=by first | exact .inl rfl | exact .inr rfl | assumption):PG X (.Name x pos) (gH i):=by
 intro aaa s σ H v u Q I r h;exact wpAny_assign_Name (mR I hN hi hx r (λs' I'=>⟨_,H,I',h⟩) hf)
def qE:jd:=λvs σ H Q=>vs=[]/\Q σ H
def kn(t:TG)(u:jd):jd:=λvs σ H Q=>∃v r,vs=v::r/\t v σ H λσ' H'=>u r σ' H' Q
theorem iB:sj X [] qE:=by
 intro aaa s σ H vs us Q I r h;obtain⟨e,h⟩:=h;subst e;cases r;exact Z5 ⟨σ,H,I,h⟩
theorem cB{e:YA}{es:List YA}{t:TG}{u:jd}(h1:PG X e t)(h2:sj X es u)
 (hs:(ZD (e::es) X.env).map (·.2)=assign e X.env::(ZD es X.env).map (·.2):=by rfl):sj X (e::es) (kn t u):=by
 intro aaa s σ H vs us Q I r h;obtain⟨v,vr,e1,h⟩:=h;subst e1;cases r with
 | cons r rr=>
  rw [hs];refine Y9 (aA (h1 aaa s σ H _ _ _ I r h) λ_ s1 ⟨σ1,H1,I1,q1⟩=>?_);exact h2 aaa s1 σ1 H1 _ _ Q I1 rr q1
def qF(K:Q7)(n:Nat)(t:jd):TG:=λv σ H Q=>∃a xs,v= .ref a/\bw K H a xs/\xs.length=n/\t xs σ H Q
theorem iC{es:List YA}{k:Nat}{t:jd}{n:Nat}(hc:X.calm=true)(h:sj X es t)
 (hn:(ZD es X.env).length=n:=by rfl)(hst:(ZD es X.env).findIdx? (·.1)=none:=by rfl):PG X (.Tuple es k pos) (qF X.K n t):=by
 intro aaa s σ H v u Q I r hw;obtain⟨a,xs,e1,hq,hl,hw⟩:=hw;subst e1;cases r;obtain⟨its,rv,ht,hz⟩:=I.tuple hq;refine assign_Tuple_tuple (I.ok.hd hc) ht (by simp [hn,<-hl,rv.length]) hst λh' hx=>?_;have I1:af X aaa σ H {s with heap:=h'}:=I.kept (t':=s.toks) λb o e=>hx b o (RI (Rx e)) e;exact h aaa _ σ H xs _ Q I1 (by simpa using rv) hw
def qG(te:TE)(g:TG):TS:=λD σ H=>te σ H λx H1=>g x σ H1 D.nx
theorem Il{tg e:YA}{te:TE}{g:TG}(he:PE X e te)(hg:PG X tg g)(hs:Zu [tg] e pos.line X.env=pure false:=by rfl)(hw:Zv [tg] e X.env=pure none:=by rfl)
 (h1:(ZD [tg] X.env).map (·.2)=[assign tg X.env]:=by rfl):PS X (.Assign [tg] e pos) (qG te g):=by
 intro aaa s σ H D I h;refine wpAny_Assign_stores (aA (he aaa s σ H _ I h) λv s1 ⟨x,H1,I1,r1,q1⟩=>?_) hs hw;rw [h1];exact aA (hg aaa s1 σ H1 x v _ I1 r1 q1) λ_ s2 q=>q
theorem eZ{i:Nat}{x:Str}{e:YA}{te:TE}{pos':Pos}(hN:X.N.Nodup)(hi:X.N[i]?=some x)(hx:gP X.env.scope x)(he:PE X e te)(hs:YN e (some (.Name x pos')) pos.line X.env=pure false:=by rfl)(hf:X.fn x=true\/X.env.scope.names.lookup x=some .local:=by first | exact .inl rfl | exact .inr rfl | assumption):
 PS X (.Assign [.Name x pos'] e pos) (qG te (gH i)):=by
 intro aaa s σ H D I h;refine wpAny_Assign_Name (aA (he aaa s σ H _ I h) λv s1 ⟨y,H1,I1,r1,q1⟩=>?_) hs;exact mR I1 hN hi hx r1 (λs2 I2=>⟨_,H1,I2,q1⟩) hf
def Bx(i j:Nat)(ta:TA):TS:=λD σ H=>ta σ H λvs H1=>∃v w,vs=[v,w]/\D.nx ((σ.set i (some v)).set j (some w)) H1
theorem Im{i j:Nat}{x y:Str}{a b:YA}{ta:TA}{px py pt:Pos}{kt k2 pt2}(hc:X.calm=true)(hN:X.N.Nodup)(hi:X.N[i]?=some x)(hj:X.N[j]?=some y)(hij:i≠j)
 (hx:X.env.scope.names.lookup x=some .local)(hy:X.env.scope.names.lookup y=some .local)(ha:PA X [a,b] ta)
 (hw:Zv [.Tuple [.Name x px,.Name y py] kt pt] (.Tuple [a,b] k2 pt2) X.env=pure (some [x,y]))
 (hs:Zu [.Tuple [.Name x px,.Name y py] kt pt] (.Tuple [a,b] k2 pt2) pos.line X.env=pure false:=by rfl):
 PS X (.Assign [.Tuple [.Name x px,.Name y py] kt pt] (.Tuple [a,b] k2 pt2) pos) (Bx i j ta):=by
 intro aaa s σ H D I h;rw [exec_Assign_arm];refine Yv (Z4 ?_);rw [hs];refine Yv (Yx ?_);rw [Yo Ym];refine Yv (Tuple_ (aA (ha _ aaa s σ H _ I h) λus s1 ⟨vs,H1,I1,r1,q1⟩=>?_));obtain⟨v,w,e1,q1⟩:=q1;subst e1;obtain⟨u1,u2,rfl,rv,rw'⟩:∃u1 u2,us=[u1,u2]/\aC v u1/\aC w u2:=by
  cases r1 with
  | cons p q=>
   cases q with
   | cons p' q'=>
    cases q';exact⟨_,_,rfl,p,p'⟩
 refine YV ?_ (by show 2<=YC;decide);have I2:af X aaa σ H1 {s1 with heap:=s1.heap.push {cls:= .type "tuple",data:= .seq [u1,u2].toArray}}:=I1.kept (t':=s1.toks) λb o e=>Rc _ e;rw [hw];refine Yv (Yx ?_);show Yy (YB X.prog X.w) X.A (do rule "assign.swapped-stores";let items<-unpackItems (.ref s1.heap.objs.size) 2 none;ZJ [λv=>Zs X.env y v,λv=>Zs X.env x v] items.reverse;pure W9) _ _ _;refine Yv (ZE (Yv (unpackItems_tuple (items:=#[u1,u2]) (I.ok.hd hc) (XY s1.heap _) λh' hx'=>?_)));have I3:=I2.kept (h':=h') (t':=s1.toks) λb o e=>hx' b o (RI (Rx e)) e;show Yy _ _ (ZJ [λv=>Zs X.env y v,λv=>Zs X.env x v] [u2,u1] >>=λ_=>pure W9) _ _ _;refine Yv (Y9 (ZF (mR I3 hN hj (.inl hy) rw' (λs2 I4=>?_) (.inr hy))));refine Y9 (ZF (mR I4 hN hi (.inl hx) rv (λs3 I5=>Z5 (Yx ?_)) (.inr hx)));rw [V8 _ _ (Ne.symm hij)] at I5;exact⟨_,H1,I5,q1⟩
def Io(c:TT)(tb:TS):TS:=λD σ H=>∃W:Nat->St->Hp->Prop,(∃m,W m σ H)/\∀m σ H,W m σ H->
 c σ H λb H1=>if b=true then ∃N:St->Hp->Prop,(∀σ' H',N σ' H'->∃m',m' < m/\W m' σ' H')/\tb {D with nx:=N,ct:=N,bk:=D.nx} σ H1 else D.nx σ H1
theorem By{c:YA}{body:List YH}{tc:TT}{tb:TS}(hp:ZP (YB X.prog X.w) X.A X.env X.xe)(hc:PT X c tc)(hb:bP X body tb):PS X (.While c body [] pos) (Io tc tb):=by
 intro aaa s σ H D I h;obtain⟨W,⟨m0,w0⟩,turn⟩:=h;refine wpAny_While (codeAny_whileLoop (λn s'=>∃σ' H',af X aaa σ' H' s'/\W n σ' H') ?_ m0 ⟨σ,H,I,w0⟩);rintro n s1 ⟨σ1,H1,I1,w1⟩;refine Zb hp (aA (hc aaa s1 σ1 H1 _ I1 (turn n σ1 H1 w1)) λb s2 ⟨H2,I2,q2⟩=>?_);cases b with
 | true=>
  obtain⟨N,hN,q2⟩:=q2;rw [Yp rfl];refine Zb hp (aA (hb aaa s2 σ1 H2 _ I2 q2) λf s3 q3=>?_);cases f with
  | next=>
   obtain⟨σ3,H3,I3,n3⟩:=q3;obtain⟨m',hm,w3⟩:=hN σ3 H3 n3;exact⟨m',hm,σ3,H3,I3,w3⟩
  | cont=>
   obtain⟨σ3,H3,I3,n3⟩:=q3;obtain⟨m',hm,w3⟩:=hN σ3 H3 n3;exact⟨m',hm,σ3,H3,I3,w3⟩
  | brk=>exact q3
  | ret v=>exact q3
 | false=>
  rw [Yo Rl];exact ZT ⟨σ1,H2,I2,q2⟩
end
structure It where
 go:Nat->Hp->Prop
 yld:Nat->Hp->V->Hp->Prop
 stop:Nat->Hp->Prop
def iD(X:Cx)(aaa:List (Yu×Obj))(H:Hp)(b:Yu):Prop:=
 H b=none/\b≠X.env.locals/\b ∉ X.fs/\(b∈X.ex\/X.s₀.heap.objs.size<=b)/\(∀x c,X.env.cells.lookup x=some c->c≠b)/\∀p∈X.pn++aaa,p.1≠b
theorem af.fpOk{X:Cx}{aaa:List (Yu×Obj)}{σ:St}{H H':Hp}{s:Yw}{b:Yu}(I:af X aaa σ H s)(hb:s.heap.objs.size<=b)(hn:H' b=none):iD X aaa H' b:=by
 refine⟨hn,Vo (Sm I.lt hb),I.nofs hb,.inr (RS I.sz hb),λx c e z=>?_,λp hp z=>?_⟩
 ·obtain⟨v,q⟩:=I.cell x c e;exact absurd (Sm q.lt (by rw [z];exact hb)) (Um _)
 ·exact absurd (Sm (Rx (I.pin p hp).1) (by rw [z];exact hb)) (Um _)
structure sk (P:YE) (w:YF) (K:Q7) (tg:YA) (J:It) (fp:List Yu) (it:Yu) (tn:Nat->YG->Prop):Prop where
 mem:it∈fp
 obj:∀i h,tn i h->∀b∈fp,∃o,h.get? b=some o/\∀v,o.data≠ .cell v
 keep:∀i h h',tn i h->(∀b∈fp,∀o,h.get? b=some o->h'.get? b=some o)->tn i h'
 item:∀(X:Cx),X.prog=P->X.w=w->X.K=K->X.calm=true->∀(i:Nat)(aaa:List (Yu×Obj))(s:Yw)(σ:St)(H:Hp)(E:Yt->Yw->Prop),af X aaa σ H s->(∀b∈fp,iD X aaa H b)->tn i s.heap->J.go i H->
  Yy (YB P w) X.A (Zl (.ref it)) (λr s1=>∃u,r=some u/\
   Yy (YB P w) X.A (ZU tg (.ref it) u) (λ_ s2=>∃x H',af X aaa σ H' s2/\aC x u/\J.yld i H x H'/\tn (i+1) s2.heap/\∀b∈fp,H' b=none) E s1) E s
 done:∀(X:Cx),X.prog=P->X.w=w->X.K=K->X.calm=true->∀(i:Nat)(aaa:List (Yu×Obj))(s:Yw)(σ:St)(H:Hp)(E:Yt->Yw->Prop),af X aaa σ H s->(∀b∈fp,iD X aaa H b)->tn i s.heap->J.stop i H->
  Yy (YB P w) X.A (Zl (.ref it)) (λr s1=>r=none/\af X aaa σ H s1) E s
 self:∀(A:YJ)(i:Nat)(s:Yw)(Q:Yt->Yw->Prop)(E:Yt->Yw->Prop),tn i s.heap->Q (.ref it) s->Yy (YB P w) A (pyIter (.ref it)) Q E s
abbrev TI:=St->Hp->(It->Hp->Prop)->Prop
def Bz(X:Cx)(aaa:List (Yu×Obj))(σ:St)(tg:YA)(R:It->Hp->Prop)(itv:Yt)(s2:Yw):Prop:=
 ∃(it:Yu)(fp:List Yu)(tn:Nat->YG->Prop)(J:It)(H':Hp),itv= .ref it/\af X aaa σ H' s2/\sk X.prog X.w X.K tg J fp it tn/\tn 0 s2.heap/\(∀b∈fp,iD X aaa H' b)/\R J H'
def PI(X:Cx)(tg iter:YA)(wi:TI):Prop:=
 ∀(aaa:List (Yu×Obj))(s:Yw)(σ:St)(H:Hp)(R:It->Hp->Prop),af X aaa σ H s->wi σ H R->
  Yy (YB X.prog X.w) X.A (eval iter X.env) (λv s1=>Yy (YB X.prog X.w) X.A (pyIter v) (Bz X aaa σ tg R) X.xe s1) X.xe s
theorem vD{M:Model}{A:YJ}{E:Yt->Yw->Prop}{s:Yw}{tg:YA}{it:Yu}{u:Yt}{o:Obj}{n:String}{vs:Array Yt}{Q:Unit->Yw->Prop}(ho:s.heap.get? it=some o)(hc:o.cls= .type n)(hd:o.data= .fields vs)
 (hn:["enumerate","zip","dict_itemiterator","dict_reverseitemiterator","odict_iterator","itertools.zip_longest","itertools.pairwise"].contains n=false)(hQ:Q () s):Yy M A (ZU tg (.ref it) u) Q E s:=by
 unfold ZU;cases tg <;> first
  | exact Yx hQ
  | (cases u <;> first
      | exact Yx hQ
      | (refine Yv (wpAny_load ho ?_)
         rw [hc,hd];show Yy M A (if (["enumerate","zip","dict_itemiterator","dict_reverseitemiterator","odict_iterator","itertools.zip_longest","itertools.pairwise"].contains n && vs[0]?==some (Zq _))=true then _ else _) Q E s;rw [Yo (by intro h;rw [hn,UZ] at h;cases h)];exact Yx hQ))
def pA(K:Q7)(a:Yu):It:=
 ⟨λi H=>∃xs x,bq K H a xs/\xs[i]?=some x,λi H x H'=>H'=H/\∀xs,bq K H a xs->xs[i]?=some x,λi H=>∃xs,bq K H a xs/\xs.length<=i⟩
def qH(K:Q7)(a:Yu):It:=
 ⟨λi H=>∃xs x,bw K H a xs/\xs[i]?=some x,λi H x H'=>H'=H/\∀xs,bw K H a xs->xs[i]?=some x,λi H=>∃xs,bw K H a xs/\xs.length<=i⟩
def je(lo:Int)(n:Nat):It:=⟨λi _=>i < n,λi H x H'=>H'=H/\x= .int (lo+i),λi _=>n<=i⟩
theorem Ip{P:YE}{w:YF}{K:Q7}{tg:YA}(a it:Yu):sk P w K tg (pA K a) [it] it (λi h=>h.IsListIter it a i) where
 mem:=Yr
 obj:=λi h st b hb=>by
  have e:b=it:=by simpa using hb
  subst e;obtain⟨o,e,c,d⟩:=st;exact⟨o,e,λv z=>by rw [d] at z;cases z⟩
 keep:=λi h h' st k=>st.at λo e=>k it Yr o e
 item:=by
  intro X hP hw hK hc i aaa s σ H E I hf st hg;subst hP hw hK;obtain⟨xs,x,hq,hx⟩:=hg;obtain⟨its,rv,p,hz⟩:=I.list hq;obtain⟨u,hu,ru⟩:=rv.get hx;obtain⟨f0,f1,f2,f3,f4,f5⟩:=hf it Yr;refine wpAny_pyNext_list_item st p.isList (x:=u) (by simpa using hu) λh' st' sb=>?_;have I1:af X aaa σ H {s with heap:=h'}:=I.turned (t':=s.toks) (λb o hb e=>(sb.2 b hb).trans e) f0 f1 f3 f4 f5;obtain⟨o,e,c,d⟩:=id st';exact⟨u,rfl,vD (s:={s with heap:=h'}) e c d Ym ⟨x,H,I1,ru,⟨rfl,λys hy=>by rw [I.list_inj hy hq];exact hx⟩,st',λb hb=>(hf b hb).1⟩⟩
 done:=by
  intro X hP hw hK hc i aaa s σ H E I hf st hg;subst hP hw hK;obtain⟨xs,hq,hx⟩:=hg;obtain⟨its,rv,p,hz⟩:=I.list hq;obtain⟨f0,f1,f2,f3,f4,f5⟩:=hf it Yr;have hl:=rv.length;exact wpAny_pyNext_list_end (I.ok.hd hc) st p.isList (by simp;omega) λh' eb=>⟨rfl,I.turned (t':=s.toks) (λb o hb e=>eb b o hb e) f0 f1 f3 f4 f5⟩
 self:=λ_ _ _ _ _ st h=>wpAny_pyIter_listiter st h
theorem Iq{P:YE}{w:YF}{K:Q7}{tg:YA}(a it:Yu):sk P w K tg (qH K a) [it] it (λi h=>h.IsTupleIter it a i) where
 mem:=Yr
 obj:=λi h st b hb=>by
  have e:b=it:=by simpa using hb
  subst e;obtain⟨o,e,c,d⟩:=st;exact⟨o,e,λv z=>by rw [d] at z;cases z⟩
 keep:=λi h h' st k=>st.at λo e=>k it Yr o e
 item:=by
  intro X hP hw hK hc i aaa s σ H E I hf st hg;subst hP hw hK;obtain⟨xs,x,hq,hx⟩:=hg;obtain⟨its,rv,p,hz⟩:=I.tuple hq;obtain⟨u,hu,ru⟩:=rv.get hx;obtain⟨f0,f1,f2,f3,f4,f5⟩:=hf it Yr;refine wpAny_pyNext_tuple_item st (show s.heap.IsTuple a its.toArray from p) (x:=u) (by simpa using hu) λh' st' sb=>?_;have I1:af X aaa σ H {s with heap:=h'}:=I.turned (t':=s.toks) (λb o hb e=>(sb.2 b hb).trans e) f0 f1 f3 f4 f5;obtain⟨o,e,c,d⟩:=id st';exact⟨u,rfl,vD (s:={s with heap:=h'}) e c d Ym ⟨x,H,I1,ru,⟨rfl,λys hy=>by rw [I.tuple_inj hy hq];exact hx⟩,st',λb hb=>(hf b hb).1⟩⟩
 done:=by
  intro X hP hw hK hc i aaa s σ H E I hf st hg;subst hP hw hK;obtain⟨xs,hq,hx⟩:=hg;obtain⟨its,rv,p,hz⟩:=I.tuple hq;obtain⟨f0,f1,f2,f3,f4,f5⟩:=hf it Yr;have hl:=rv.length;exact wpAny_pyNext_tuple_end (I.ok.hd hc) st (show s.heap.IsTuple a its.toArray from p) (by simp;omega) λh' eb=>⟨rfl,I.turned (t':=s.toks) (λb o hb e=>eb b o hb e) f0 f1 f3 f4 f5⟩
 self:=λ_ _ _ _ _ st h=>wpAny_pyIter_tupleiter st h
theorem Ir{P:YE}{w:YF}{K:Q7}{tg:YA}(it:Yu)(lo:Int)(n:Nat):sk P w K tg (je lo n) [it] it (λi h=>IsRangeIter h it (lo+(i:Nat)*1) ((n:Int) - (i:Nat)) 1) where
 mem:=Yr
 obj:=λi h st b hb=>by
  have e:b=it:=by simpa using hb
  subst e;exact⟨_,st,λv z=>by
   have z':Data.fields _=Data.cell v:=z;cases z'⟩
 keep:=λi h h' st k=>k it Yr _ st
 item:=by
  intro X hP hw hK hc i aaa s σ H E I hf st hg;subst hP hw hK;obtain⟨f0,f1,f2,f3,f4,f5⟩:=hf it Yr;have W:=Walks.range (prog:=X.prog) (w:=X.w) (I.ok.hd hc) it lo 1 n;refine W.item i s _ _ hg st λv h' tk hv st' kk=>?_;obtain⟨t,rfl⟩:=hv;have I1:af X aaa σ H {s with heap:=h',toks:=tk}:=I.turned (λb o hb e=>kk b o (by simpa using hb) e) f0 f1 f3 f4 f5;refine⟨_,rfl,vD (s:={s with heap:=h',toks:=tk}) (n:="range_iterator") st' rfl rfl Ym ⟨.int (lo+i),H,I1,⟨t,?_⟩,⟨rfl,rfl⟩,st',λb hb=>(hf b hb).1⟩⟩;rw [Yf]
 done:=by
  intro X hP hw hK hc i aaa s σ H E I hf st hg;subst hP hw hK;obtain⟨f0,f1,f2,f3,f4,f5⟩:=hf it Yr;exact wpAny_pyNext_range_end (I.ok.hd hc) st (by have:n<=i:=hg;omega) λh' eb=>⟨rfl,I.turned (t':=s.toks) (λb o hb e=>eb b o hb e) f0 f1 f3 f4 f5⟩
 self:=λ_ _ _ _ _ st h=>wpAny_pyIter_rangeiter st h
section
variable {X:Cx} {tg:YA}
def vE(K:Q7)(tl:TE):TI:=λσ H R=>tl σ H λx H1=>∃a,x= .ref a/\(∃xs,bq K H1 a xs)/\R (pA K a) H1
def vF(K:Q7)(tl:TE):TI:=λσ H R=>tl σ H λx H1=>∃a,x= .ref a/\(∃xs,bw K H1 a xs)/\R (qH K a) H1
theorem sr{l:YA}{tl:TE}(hl:PE X l tl):PI X tg l (vE X.K tl):=by
 intro aaa s σ H R I h;refine aA (hl aaa s σ H _ I h) λv s1 ⟨x,H1,I1,r1,q1⟩=>?_;obtain⟨a,e,⟨xs,hq⟩,q⟩:=q1;subst e;cases r1;obtain⟨its,rv,p,hz⟩:=I1.list hq;refine ZI p.isList ?_;refine⟨s1.heap.objs.size,[s1.heap.objs.size],_,_,H1,rfl,I1.kept (t':=s1.toks) λb o e=>Rc _ e,Ip a _,⟨_,RJ _ rfl,rfl,rfl⟩,λb hb=>?_,q⟩;have e:b=s1.heap.objs.size:=by simpa using hb
 subst e;exact I1.fpOk (Rf _) (I1.hok.fresh (Rf _))
theorem vG{l:YA}{tl:TE}(hl:PE X l tl):PI X tg l (vF X.K tl):=by
 intro aaa s σ H R I h;refine aA (hl aaa s σ H _ I h) λv s1 ⟨x,H1,I1,r1,q1⟩=>?_;obtain⟨a,e,⟨xs,hq⟩,q⟩:=q1;subst e;cases r1;obtain⟨its,rv,p,hz⟩:=I1.tuple hq;refine wpAny_pyIter_tuple (show s1.heap.IsTuple a its.toArray from p) ?_;refine⟨s1.heap.objs.size,[s1.heap.objs.size],_,_,H1,rfl,I1.kept (t':=s1.toks) λb o e=>Rc _ e,Iq a _,⟨_,RJ _ rfl,rfl,rfl⟩,λb hb=>?_,q⟩;have e:b=s1.heap.objs.size:=by simpa using hb
 subst e;exact I1.fpOk (Rf _) (I1.hok.fresh (Rf _))
theorem BA{aaa:List (Yu×Obj)}{σ:St}{H:Hp}{s:Yw}{R:It->Hp->Prop}{E:Yt->Yw->Prop}{lo hi:Int}{t u v:Tok}{tk:Nat}(I:af X aaa σ H s)(h1:-(2 ^ 62)<=lo)(h2:lo < 2 ^ 62)(h3:-(2 ^ 62)<=hi)(h4:hi < 2 ^ 62)
 (q:R (je lo (hi - lo).toNat) H):Yy (YB X.prog X.w) X.A (pyIter (.ref s.heap.objs.size)) (Bz X aaa σ tg R) E {s with heap:=s.heap.push {cls:= .type "range",data:= .fields #[.int lo t,.int hi u,.int 1 v]},toks:=tk}:=by
 refine wpAny_pyIter_range (IsRange.new ..) (small_one h1 h2 h3 h4) ?_;have I1:af X aaa σ H {s with heap:=s.heap.push {cls:= .type "range",data:= .fields #[.int lo t,.int hi u,.int 1 v]},toks:=tk}:=I.kept λb o e=>Rc _ e;refine⟨(s.heap.push {cls:= .type "range",data:= .fields #[.int lo t,.int hi u,.int 1 v]}).objs.size,[(s.heap.push {cls:= .type "range",data:= .fields #[.int lo t,.int hi u,.int 1 v]}).objs.size],_,_,H,rfl,
  I1.kept (t':=tk) λb o e=>Rc _ e,Ir _ lo (hi - lo).toNat,?_,λb hb=>?_,q⟩
 ·have e1:lo+((0:Nat):Int)*1=lo:=Yr
  have e2:(((hi - lo).toNat:Nat):Int) - ((0:Nat):Int)=Builtin.Range.rangeSize lo hi 1:=by rw [rangeSize_one];split <;> omega
  show IsRangeIter _ _ (lo+((0:Nat):Int)*1) ((((hi - lo).toNat:Nat):Int) - ((0:Nat):Int)) 1;rw [e1,e2];exact RJ _ rfl
 ·have e:b=(s.heap.push {cls:= .type "range",data:= .fields #[.int lo t,.int hi u,.int 1 v]}).objs.size:=by simpa using hb
  subst e;exact I1.fpOk (Rf _) (I1.hok.fresh (Rf _))
def vH(ta:TA):TI:=λσ H R=>ta σ H λvs H1=>∃j:Int,vs=[.int j]/\-(2 ^ 62)<=j/\j < 2 ^ 62/\R (je 0 j.toNat) H1
def vI(ta:TA):TI:=λσ H R=>ta σ H λvs H1=>∃i j:Int,vs=[.int i,.int j]/\(-(2 ^ 62)<=i/\i < 2 ^ 62/\-(2 ^ 62)<=j/\j < 2 ^ 62)/\R (je i (j - i).toNat) H1
theorem BB{a:YA}{ta:TA}{p pos:Pos}(hg:Gl X "range")(hm:X.mg "range"=none)(ha:PA X [a] ta)(hs:Yz [a] X.env=[(false,eval a X.env)]:=by rfl):PI X tg (.Call (.Name "range" p) [a] [] pos) (vH ta):=by
 intro aaa s σ H R I h;refine Call_ (qD I hg hm boot_range (U8 (aA (ha pos aaa s σ H _ I h) λus s1 ⟨vs,H1,I1,r1,q1⟩=>?_) hs rfl));obtain⟨j,e,q1,q2,q⟩:=q1;subst e;cases r1 with
 | cons r rr=>
  cases rr;obtain⟨t,rfl⟩:=r;exact call_range_1 (BA I1 Yn Yn q1 q2 (by simpa using q))
theorem BC{a b:YA}{ta:TA}{p pos:Pos}(hg:Gl X "range")(hm:X.mg "range"=none)(ha:PA X [a,b] ta)(hs:Yz [a,b] X.env=[(false,eval a X.env),(false,eval b X.env)]:=by rfl)(hs2:Yz [b] X.env=[(false,eval b X.env)]:=by rfl):
 PI X tg (.Call (.Name "range" p) [a,b] [] pos) (vI ta):=by
 intro aaa s σ H R I h;refine Call_ (qD I hg hm boot_range (U8 (aA (ha pos aaa s σ H _ I h) λus s1 ⟨vs,H1,I1,r1,q1⟩=>?_) (by rw [hs,hs2]) (by rw [hs2];rfl)));obtain⟨i,j,e,⟨q1,q2,q3,q4⟩,q⟩:=q1;subst e;cases r1 with
 | cons r rr=>
  cases rr with
  | cons r' rr=>
   cases rr;obtain⟨t,rfl⟩:=r;obtain⟨t',rfl⟩:=r';exact call_range_2 (BA I1 q1 q2 q3 q4 q)
def qI(wi:TI)(g:TG)(tb:TS):TS:=λD σ H=>wi σ H λJ H1=>∃W:Nat->Nat->St->Hp->Prop,(∃m,W 0 m σ H1)/\∀i m σ H,W i m σ H->
 (J.stop i H/\D.nx σ H)\/(J.go i H/\∃N:St->Hp->Prop,(∀σ' H',N σ' H'->∃m',m' < m/\W (i+1) m' σ' H')/\∀x H',J.yld i H x H'->g x σ H' λσ2 H2=>tb {D with nx:=N,ct:=N,bk:=D.nx} σ2 H2)
def qJ(fp:List Yu)(h:YG):List (Yu×Obj):=fp.filterMap λb=>(h.get? b).map λo=>(b,o)
theorem su{fp:List Yu}{h:YG}{b:Yu}{o:Obj}(hb:b∈fp)(e:h.get? b=some o):(b,o)∈qJ fp h:=TQ.mpr ⟨b,hb,by rw [e];rfl⟩
theorem Iu{fp:List Yu}{h:YG}{p:Yu×Obj}(hp:p∈qJ fp h):p.1∈fp/\h.get? p.1=some p.2:=by
 obtain⟨b,hb,e⟩:=TQ.mp hp;cases q:h.get? b with
 | none=>rw [q] at e;cases e
 | some o=>
  rw [q] at e;have e':(b,o)=p:=Sk e;subst e';exact⟨hb,q⟩
theorem af.pinned{aaa:List (Yu×Obj)}{σ:St}{H:Hp}{s:Yw}{fp:List Yu}(I:af X aaa σ H s)(hf:∀b∈fp,iD X aaa H b)(ho:∀b∈fp,∃o,s.heap.get? b=some o/\∀v,o.data≠ .cell v):af X (aaa++qJ fp s.heap) σ H s:=
 I.pins_of λp hp=>(Ry.mp hp).elim (λz=>I.pin p (R0 _ z)) λz=>by
  obtain⟨hb,e⟩:=Iu z;obtain⟨f0,f1,f2,_⟩:=hf p.1 hb;obtain⟨o,e',d⟩:=ho p.1 hb;rw [e] at e';cases e';exact⟨e,f0,f1,f2,d⟩
theorem af.unpinned{aaa pl:List (Yu×Obj)}{σ:St}{H:Hp}{s:Yw}(I:af X (aaa++pl) σ H s):af X aaa σ H s:=I.pins_of λp hp=>I.pin p (R0 _ (T1 _ hp))
theorem sA{iter:YA}{body:List YH}{wi:TI}{g:TG}{tb:TS}{pos:Pos}(hp:ZP (YB X.prog X.w) X.A X.env X.xe)(hc:X.calm=true)(hi:PI X tg iter wi)(hg:PG X tg g)(hb:bP X body tb)
 (hs:∀x,YL iter X.env x=pure x:=by intro _;rfl):PS X (.For tg iter body [] pos) (qI wi g tb):=by
 intro aaa s σ H D I h;refine wpAny_For (aA (hi aaa s σ H _ I h) λv s1 h1=>aA h1 λitv s2 h2=>?_) hs;obtain⟨it,fp,tn,J,H2,e,I2,T,st2,f2,W,⟨m0,w0⟩,turn⟩:=h2;subst e;have stat:∀{H':Hp},(∀b∈fp,H' b=none)->∀b∈fp,iD X aaa H' b:=λhn b hb=>⟨hn b hb,(f2 b hb).2⟩;refine codeAny_forLoop_any (λn s'=>∃i σ' H',af X aaa σ' H' s'/\tn i s'.heap/\(∀b∈fp,H' b=none)/\W i n σ' H') ?_ m0 ⟨0,σ,H2,I2,st2,λb hb=>(f2 b hb).1,w0⟩;rintro n s3 ⟨i,σ3,H3,I3,st3,fr3,w3⟩;rcases turn i n σ3 H3 w3 with⟨stop,qn⟩ | ⟨go,N,hN,step⟩
 ·refine Zb hp (aA (T.done X rfl rfl rfl hc i aaa s3 σ3 H3 X.xe I3 (stat fr3) st3 stop) λr s4 ⟨hr,I4⟩=>?_);subst hr;exact ZT ⟨σ3,H3,I4,qn⟩
 ·refine Zb hp (aA (T.item X rfl rfl rfl hc i aaa s3 σ3 H3 X.xe I3 (stat fr3) st3 go) λr s4 ⟨u,hr,h4⟩=>?_);subst hr;refine Zb hp (aA h4 λ_ s5 ⟨x,H5,I5,r5,y5,st5,fr5⟩=>?_);have I5':=I5.pinned (stat fr5) (T.obj _ _ st5);refine Zb hp (aA (hg _ s5 σ3 H5 x u _ I5' r5 (step x H5 y5)) λ_ s6 ⟨σ6,H6,I6,q6⟩=>?_);refine Zb hp (aA (hb _ s6 σ6 H6 _ I6 q6) λf s7 q7=>?_);have again:∀{σ7:St}{H7:Hp},af X (aaa++qJ fp s5.heap) σ7 H7 s7->N σ7 H7->∃m,m < n/\∃i σ' H',af X aaa σ' H' s7/\tn i s7.heap/\(∀b∈fp,H' b=none)/\W i m σ' H':=λ{σ7 H7} I7 n7=>by
   obtain⟨m',hm,w7⟩:=hN σ7 H7 n7;refine⟨m',hm,i+1,σ7,H7,I7.unpinned,T.keep _ _ _ st5 λb hb o e=>(I7.pin (b,o) (R0 _ (R0 _ (su hb e)))).1,λb hb=>?_,w7⟩;obtain⟨o,e,d⟩:=T.obj _ _ st5 b hb;exact(I7.pin (b,o) (R0 _ (R0 _ (su hb e)))).2.1
  cases f with
  | next=>obtain⟨σ7,H7,I7,n7⟩:=q7;exact again I7 n7
  | cont=>obtain⟨σ7,H7,I7,n7⟩:=q7;exact again I7 n7
  | brk=>obtain⟨σ7,H7,I7,q7⟩:=q7;exact⟨σ7,H7,I7.unpinned,q7⟩
  | ret v=>obtain⟨x7,σ7,H7,I7,r7,q7⟩:=q7;exact⟨x7,σ7,H7,I7.unpinned,r7,q7⟩
end
abbrev R2:=V->V->Hp->VK->Prop
def bN(X:Cx)(f:Yt->Yt->Sem Yt)(r:R2):Prop:=
 ∀(aaa:List (Yu×Obj))(s:Yw)(σ:St)(H:Hp)(x y:V)(v u:Yt)(Q:VK),af X aaa σ H s->aC x v->aC y u->r x y H Q->
  Yy (YB X.prog X.w) X.A (f v u) (EP X aaa σ Q) X.xe s
def vJ(X:Cx)(f:Yt->Sem Yt)(r:V->Hp->VK->Prop):Prop:=
 ∀(aaa:List (Yu×Obj))(s:Yw)(σ:St)(H:Hp)(x:V)(v:Yt)(Q:VK),af X aaa σ H s->aC x v->r x H Q->
  Yy (YB X.prog X.w) X.A (f v) (EP X aaa σ Q) X.xe s
def eJ(X:Cx)(f:Yt)(r:List V->Hp->VK->Prop):Prop:=
 ∀(aaa:List (Yu×Obj))(s:Yw)(σ:St)(H:Hp)(xs:List V)(us:List Yt)(Q:VK),af X aaa σ H s->aH xs us->r xs H Q->
  Yy (YB X.prog X.w) X.A (call f us) (EP X aaa σ Q) X.xe s
def Iw(X:Cx)(r:V->Hp->(Bool->Hp->Prop)->Prop):Prop:=
 ∀(aaa:List (Yu×Obj))(s:Yw)(σ:St)(H:Hp)(x:V)(v:Yt)(Q:Bool->Hp->Prop),af X aaa σ H s->aC x v->r x H Q->
  Yy (YB X.prog X.w) X.A (truthy v) (TP X aaa σ Q) X.xe s
def pB(r:R2)(ta tb:TE):TE:=λσ H Q=>ta σ H λx H1=>tb σ H1 λy H2=>r x y H2 Q
def BD(r:V->Hp->VK->Prop)(ta:TE):TE:=λσ H Q=>ta σ H λx H1=>r x H1 Q
def rI(C:Int->Int->Prop)(g:Int->Int->V):R2:=λx y H Q=>∃i j,x= .int i/\y= .int j/\C i j/\Q (g i j) H
def iE(g:Int->Int->V):R2:=λx y H Q=>∃i j,x= .int i/\y= .int j/\Q (g i j) H
def rU(g:Int->V):V->Hp->VK->Prop:=λx H Q=>∃i,x= .int i/\Q (g i) H
section
variable {X:Cx} {a b c:YA} {ta tb tc:TE} {pos:Pos}
theorem vK(ha:PE X a ta)(hb:PE X b tb){aaa:List (Yu×Obj)}{s:Yw}{σ:St}{H:Hp}{R:V->V->Hp->Prop}(I:af X aaa σ H s)
 (h:ta σ H λx H1=>tb σ H1 λy H2=>R x y H2){Q:Yt->Yw->Prop}{f:Yt->Yt->Sem Yt}
 (hf:∀v u s2 x y H2,af X aaa σ H2 s2->aC x v->aC y u->R x y H2->Yy (YB X.prog X.w) X.A (f v u) Q X.xe s2):
 Yy (YB X.prog X.w) X.A (eval a X.env) (λv s₁=>Yy (YB X.prog X.w) X.A (eval b X.env) (λu s₂=>Yy (YB X.prog X.w) X.A (f v u) Q X.xe s₂) X.xe s₁) X.xe s:=by
 refine aA (ha aaa s σ H _ I h) λv s1 ⟨x,H1,I1,r1,q1⟩=>?_;refine aA (hb aaa s1 σ H1 _ I1 q1) λu s2 ⟨y,H2,I2,r2,q2⟩=>?_;exact hf v u s2 x y H2 I2 r1 r2 q2
theorem bH{op:Operator}{r:R2}(ho:bN X (Zo op) r)(ha:PE X a ta)(hb:PE X b tb):PE X (.BinOp a op b pos) (pB r ta tb):=by
 intro aaa s σ H Q I h;exact wpAny_BinOp (vK ha hb I h λv u s2 x y H2 I2 rx ry q=>ho aaa s2 σ H2 x y v u Q I2 rx ry q)
theorem Iy{op:UnaryOp}{r:V->Hp->VK->Prop}(ho:vJ X (unaryOp op) r)(ha:PE X a ta):PE X (.UnaryOp op a pos) (BD r ta):=by
 intro aaa s σ H Q I h;exact UnaryOp_ (aA (ha aaa s σ H _ I h) λv s1 uu31=>by obtain⟨x,H1,I1,r1,q1⟩:=uu31;exact ho aaa s1 σ H1 x v Q I1 r1 q1)
theorem sC{f:Yt->Yt->Sem Yt}{C:Int->Int->Prop}{g:Int->Int->Int}
 (rule:∀(i j:Int) (t u:Tok) (s:Yw) (Q:Yt->Yw->Prop) (E:Yt->Yw->Prop),C i j->Q (.int (g i j) s.toks) {s with toks:=s.toks+1}->Yy (YB X.prog X.w) X.A (f (.int i t) (.int j u)) Q E s):
 bN X f (rI C λi j=>.int (g i j)):=by
 intro aaa s σ H x y v u Q I rx ry h;obtain⟨i,j,rfl,rfl,hc,q⟩:=h;obtain⟨t,rfl⟩:=rx;obtain⟨t',rfl⟩:=ry;exact rule i j t t' s _ _ hc ⟨.int (g i j),H,I.tok _,⟨_,rfl⟩,q⟩
theorem BE{f:Yt->Yt->Sem Yt}{g:Int->Int->Int}
 (rule:∀(i j:Int) (t u:Tok) (s:Yw) (Q:Yt->Yw->Prop) (E:Yt->Yw->Prop),Q (.int (g i j) s.toks) {s with toks:=s.toks+1}->Yy (YB X.prog X.w) X.A (f (.int i t) (.int j u)) Q E s):
 bN X f (iE λi j=>.int (g i j)):=by
 intro aaa s σ H x y v u Q I rx ry h;obtain⟨i,j,rfl,rfl,q⟩:=h;obtain⟨t,rfl⟩:=rx;obtain⟨t',rfl⟩:=ry;exact rule i j t t' s _ _ ⟨.int (g i j),H,I.tok _,⟨_,rfl⟩,q⟩
theorem sE{f:Yt->Yt->Sem Yt}{g:Int->Int->Bool}
 (rule:∀(i j:Int) (t u:Tok) (s:Yw) (Q:Yt->Yw->Prop) (E:Yt->Yw->Prop),Q (.bool (g i j)) s->Yy (YB X.prog X.w) X.A (f (.int i t) (.int j u)) Q E s):
 bN X f (iE λi j=>.bl (g i j)):=by
 intro aaa s σ H x y v u Q I rx ry h;obtain⟨i,j,rfl,rfl,q⟩:=h;obtain⟨t,rfl⟩:=rx;obtain⟨t',rfl⟩:=ry;exact rule i j t t' s _ _ ⟨.bl (g i j),H,I,rfl,q⟩
def jR(i j:Int):Prop:=0 < j/\j < 1073741824
def jS(i j:Int):Prop:=0<=j/\j<=1000000/\i.natAbs < 2 ^ 64
def iF(i j:Int):Prop:=(-(2 ^ 64) < i/\i < 2 ^ 64)\/(-(2 ^ 64) < j/\j < 2 ^ 64)
theorem iF.ok{i j:Int}(h:iF i j):IntMulOk i j:=by
 rcases h with⟨h1,h2⟩ | ⟨h1,h2⟩
 ·exact .of_left (intBits_le_64 h1 h2)
 ·exact .of_right (intBits_le_64 h1 h2)
theorem aX:bN X (Zo .Add) (iE λi j=>.int (i+j)):=BE λ_ _ _ _ _ _ _ q=>add_int q
theorem cP:bN X (Zo .Sub) (iE λi j=>.int (i - j)):=BE λ_ _ _ _ _ _ _ q=>sub_int q
theorem fz:bN X (Zo .Mult) (rI iF λi j=>.int (i*j)):=sC λ_ _ _ _ _ _ _ hc q=>mul_int q hc.ok
theorem dY:bN X (Zo .FloorDiv) (rI jR λi j=>.int (i / j)):=sC λi j _ _ _ _ _ hc q=>by
 have h1:(0:Int) < j:=hc.1;have h2:j < 1073741824:=hc.2;exact floordiv_int Yn (by rw [Int.fdiv_eq_ediv_of_nonneg i Yn];exact q) (.inl (PyProof.noPylong_small Yn))
theorem bI:bN X (Zo .Mod) (rI (λ_ j=>0 < j) λi j=>.int (i % j)):=sC λi j _ _ _ _ _ hc q=>by
 have h1:(0:Int) < j:=hc;exact mod_int' Yn (by rw [Int.fmod_eq_emod_of_nonneg i Yn];exact q)
theorem Iz:bN X (Zo .Pow) (rI jS λi j=>.int (i ^ j.toNat)):=sC λ_ _ _ _ _ _ _ hc q=>pow_int_small hc.1 hc.2.1 hc.2.2 q
theorem IA{f:Yt->Sem Yt}{g:Int->Int}
 (rule:∀(i:Int) (t:Tok) (s:Yw) (Q:Yt->Yw->Prop) (E:Yt->Yw->Prop),Q (.int (g i) s.toks) {s with toks:=s.toks+1}->Yy (YB X.prog X.w) X.A (f (.int i t)) Q E s):
 vJ X f (rU λi=>.int (g i)):=by
 intro aaa s σ H x v Q I rx h;obtain⟨i,rfl,q⟩:=h;obtain⟨t,rfl⟩:=rx;exact rule i t s _ _ ⟨.int (g i),H,I.tok _,⟨_,rfl⟩,q⟩
theorem IB:vJ X (unaryOp .USub) (rU λi=>.int (-i)):=IA λ_ _ _ _ _ q=>neg_int q
end
def mS:V->V->Bool
 | .non,.non=>true | .non,.int _=>true | .int _,.non=>true | .non,.bl _=>true | .bl _,.non=>true | .non,.str _=>true | .str _,.non=>true
 | .int _,.int _=>true | .bl _,.bl _=>true | .str _,.str _=>true | .byt _,.byt _=>true
 | .int _,.str _=>true | .str _,.int _=>true | .bl _,.str _=>true | .str _,.bl _=>true
 | _,_=>false
def BF:R2:=λx y H Q=>mS x y=true/\Q (.bl (decide (x=y))) H
def BG:R2:=λx y H Q=>mS x y=true/\Q (.bl (!decide (x=y))) H
theorem BH{i j:Int}:decide (V.int i=V.int j)=(i==j):=by
 rw [UM];simp
theorem BI{i j:Bool}:decide (V.bl i=V.bl j)=(i==j):=by
 rw [UM];simp
theorem BJ{i j:Str}:decide (V.str i=V.str j)=(i==j):=by
 rw [UM];simp
theorem BK{i j:Array UInt8}:decide (V.byt i=V.byt j)=(i.toList==j.toList):=by
 rw [UM];cases i;cases j;simp
section
variable {X:Cx} {a b c:YA} {ta tb tc:TE} {pos:Pos}
theorem bC{aaa:List (Yu×Obj)}{σ:St}{H:Hp}{s:Yw}{Q:VK}{k k':Bool}(I:af X aaa σ H s)(q:Q (.bl k) H)(e:k=k'):EP X aaa σ Q (.bool k') s:=by
 subst e;exact⟨.bl k,H,I,rfl,q⟩
theorem qK:bN X (YO .Eq) BF:=by
 intro aaa s σ H x y v u Q I rx ry h;obtain⟨hs,q⟩:=h;cases x with
 | non=>
  cases rx;cases y with
  | non=>cases ry;exact PySem.EqNone.eq_none_none (bC I q Yr)
  | bl j=>cases ry;exact PySem.EqNone.eq_none_bool (bC I q Yr)
  | int j=>obtain⟨t',rfl⟩:=ry;exact PySem.EqNone.eq_none_int (bC I q Yr)
  | str j=>obtain⟨t',rfl⟩:=ry;exact PySem.EqNone.eq_none_str (bC I q Yr)
  | _=>exact absurd (show false=true from hs) Rl
 | bl i=>
  cases rx;cases y with
  | non=>cases ry;exact PySem.EqNone.eq_bool_none (bC I q Yr)
  | bl j=>cases ry;exact eq_bool (bC I q BI)
  | str j=>obtain⟨t',rfl⟩:=ry;exact PySem.EqMixed.eq_bool_str (bC I q Yr)
  | _=>exact absurd (show false=true from hs) Rl
 | int i=>
  obtain⟨t,rfl⟩:=rx;cases y with
  | non=>cases ry;exact PySem.EqNone.eq_int_none (bC I q Yr)
  | int j=>obtain⟨t',rfl⟩:=ry;exact eq_int (bC I q BH)
  | str j=>obtain⟨t',rfl⟩:=ry;exact PySem.EqMixed.eq_int_str (bC I q Yr)
  | _=>exact absurd (show false=true from hs) Rl
 | str i=>
  obtain⟨t,rfl⟩:=rx;cases y with
  | non=>cases ry;exact PySem.EqNone.eq_str_none (bC I q Yr)
  | bl j=>cases ry;exact PySem.EqMixed.eq_str_bool (bC I q Yr)
  | int j=>obtain⟨t',rfl⟩:=ry;exact PySem.EqMixed.eq_str_int (bC I q Yr)
  | str j=>obtain⟨t',rfl⟩:=ry;exact eq_str (bC I q BJ)
  | _=>exact absurd (show false=true from hs) Rl
 | byt i=>
  obtain⟨t,rfl⟩:=rx;cases y with
  | byt j=>obtain⟨t',rfl⟩:=ry;exact PySem.W.eq_bytes (bC I q BK)
  | _=>exact absurd (show false=true from hs) Rl
 | _=>cases y <;> exact absurd (show false=true from hs) Rl
theorem IC:bN X (YO .NotEq) BG:=by
 intro aaa s σ H x y v u Q I rx ry h;obtain⟨hs,q⟩:=h;cases x with
 | non=>
  cases rx;cases y with
  | non=>cases ry;exact PySem.EqNone.ne_none_none (bC I q Yr)
  | bl j=>cases ry;exact PySem.EqNone.ne_none_bool (bC I q Yr)
  | int j=>obtain⟨t',rfl⟩:=ry;exact PySem.EqNone.ne_none_int (bC I q Yr)
  | str j=>obtain⟨t',rfl⟩:=ry;exact PySem.EqNone.ne_none_str (bC I q Yr)
  | _=>exact absurd (show false=true from hs) Rl
 | bl i=>
  cases rx;cases y with
  | non=>cases ry;exact PySem.EqNone.ne_bool_none (bC I q Yr)
  | bl j=>cases ry;exact ne_bool (bC I q (congrArg not BI))
  | str j=>obtain⟨t',rfl⟩:=ry;exact PySem.EqMixed.ne_bool_str (bC I q Yr)
  | _=>exact absurd (show false=true from hs) Rl
 | int i=>
  obtain⟨t,rfl⟩:=rx;cases y with
  | non=>cases ry;exact PySem.EqNone.ne_int_none (bC I q Yr)
  | int j=>obtain⟨t',rfl⟩:=ry;exact ne_int (bC I q (congrArg not BH))
  | str j=>obtain⟨t',rfl⟩:=ry;exact PySem.EqMixed.ne_int_str (bC I q Yr)
  | _=>exact absurd (show false=true from hs) Rl
 | str i=>
  obtain⟨t,rfl⟩:=rx;cases y with
  | non=>cases ry;exact PySem.EqNone.ne_str_none (bC I q Yr)
  | bl j=>cases ry;exact PySem.EqMixed.ne_str_bool (bC I q Yr)
  | int j=>obtain⟨t',rfl⟩:=ry;exact PySem.EqMixed.ne_str_int (bC I q Yr)
  | str j=>obtain⟨t',rfl⟩:=ry;exact ne_str (bC I q (congrArg not BJ))
  | _=>exact absurd (show false=true from hs) Rl
 | byt i=>
  obtain⟨t,rfl⟩:=rx;cases y with
  | byt j=>obtain⟨t',rfl⟩:=ry;exact PySem.W.ne_bytes (bC I q (congrArg not BK))
  | _=>exact absurd (show false=true from hs) Rl
 | _=>cases y <;> exact absurd (show false=true from hs) Rl
theorem mT:bN X (YO .Lt) (iE λi j=>.bl (decide (i < j))):=sE λ_ _ _ _ _ _ _ q=>lt_int q
theorem iG:bN X (YO .LtE) (iE λi j=>.bl (decide (i<=j))):=sE λ_ _ _ _ _ _ _ q=>le_int q
theorem ko:bN X (YO .Gt) (iE λi j=>.bl (decide (j < i))):=sE λ_ _ _ _ _ _ _ q=>gt_int q
theorem sF:bN X (YO .GtE) (iE λi j=>.bl (decide (j<=i))):=sE λ_ _ _ _ _ _ _ q=>ge_int q
theorem kq:bN X (YO .Is) (λx y H Q=>y= .non/\Q (.bl (decide (x= .non))) H):=by
 intro aaa s σ H x y v u Q I rx ry h;obtain⟨rfl,q⟩:=h;cases ry;refine is_none_gen (bC I q ?_);cases x <;> first
  | (cases rx;rfl)
  | (obtain⟨t,rfl⟩:=rx;rfl)
theorem BL:bN X (YO .IsNot) (λx y H Q=>y= .non/\Q (.bl (!decide (x= .non))) H):=by
 intro aaa s σ H x y v u Q I rx ry h;obtain⟨rfl,q⟩:=h;cases ry;refine isnot_none_gen (bC I q ?_);cases x <;> first
  | (cases rx;rfl)
  | (obtain⟨t,rfl⟩:=rx;rfl)
theorem aE(b:YA){op:CmpOp}(h:op≠ .In:=by decide)(h2:op≠ .NotIn:=by decide):YU op b=false:=by
 have e1:(op==CmpOp.In)=false:=by cases op <;> first | rfl | exact absurd rfl h
 have e2:(op==Ye)=false:=by cases op <;> first | rfl | exact absurd rfl h2
 cases b <;> simp [YU,e1,e2]
theorem sG{op:CmpOp}{r:R2}(ho:bN X (YO op) r)(ha:PE X a ta)(hb:PE X b tb)(hm:YU op b=false):PE X (.Compare a [op] [b] pos) (pB r ta tb):=by
 intro aaa s σ H Q I h;exact wpAny_Compare1 (vK ha hb I h λv u s2 x y H2 I2 rx ry q=>ho aaa s2 σ H2 x y v u Q I2 rx ry q) hm
def BM(t:TE):TT:=λσ H Q=>t σ H λx H'=>∃k,x= .bl k/\Q k H'
theorem mU{op:CmpOp}{r:R2}(ho:bN X (YO op) r)(ha:PE X a ta)(hb:PE X b tb)(hm:YU op b=false):PT X (.Compare a [op] [b] pos) (BM (pB r ta tb)):=by
 intro aaa s σ H Q I h;refine wpAny_isTrue_Compare1 (aA (ha aaa s σ H _ I h) λv s1 ⟨x,H1,I1,r1,q1⟩=>aA (hb aaa s1 σ H1 _ I1 q1) λu s2 ⟨y,H2,I2,r2,q2⟩=>
  aA (ho aaa s2 σ H2 x y v u _ I2 r1 r2 q2) λc s3 ⟨z,H3,I3,r3,k,e,q3⟩=>?_) hm
 subst e;cases r3;exact Y2 ⟨H3,I3,q3⟩
def BN(K:Q7)(x:V)(H:Hp)(k:Bool):Prop:=
 match x with
 | .non=>k=false
 | .bl b=>k=b
 | .int i=>k=(i !=0)
 | .str y=>y.length<=YC/\k=((y.length:Int) !=0)
 | .byt y=>y.size<=YC/\k=((y.size:Int) !=0)
 | .ref p=>(∃xs,bq K H p xs/\k=!xs.isEmpty)\/(∃xs,bw K H p xs/\k=!xs.isEmpty)\/∃kvs,H p=some (.dK kvs)/\k=!kvs.isEmpty
 | _=>False
theorem ID{κ:Type}{kvs:List (κ×V)}{vs:List (κ×Yt)}(r:KV kvs vs):(!vs.isEmpty)=!kvs.isEmpty:=by
 cases r <;> rfl
theorem BO{xs:List V}{its:List Yt}(r:aH xs its):(!its.toArray.isEmpty)=!xs.isEmpty:=by
 cases r <;> simp
theorem pC:(YC:Nat) < 2 ^ 63:=by rw [YY];decide
theorem IE:Iw X (λx H Q=>∃k,BN X.K x H k/\Q k H):=by
 intro aaa s σ H x v Q I rx h;obtain⟨k,e,q⟩:=h;have hl:=pC;have hs:YC=16777216:=YY;cases x with
 | non=>
  cases rx;have e':k=false:=e;subst e';exact truthy_none ⟨H,I,q⟩
 | bl b=>
  cases rx;have e':k=b:=e;subst e';exact Y2 ⟨H,I,q⟩
 | int i=>
  obtain⟨t,rfl⟩:=rx;have e':k=(i !=0):=e;subst e';exact PySem.P.truthy_int ⟨H,I,q⟩
 | str y=>
  obtain⟨t,rfl⟩:=rx;obtain⟨hy,e'⟩:y.length<=YC/\k=((y.length:Int) !=0):=e;subst e';exact PySem.P.truthy_str Yn ⟨H,I.tok _,q⟩
 | byt y=>
  obtain⟨t,rfl⟩:=rx;obtain⟨hy,e'⟩:y.size<=YC/\k=((y.size:Int) !=0):=e;subst e';exact PySem.W.truthy_bytes Yn ⟨H,I.tok _,q⟩
 | ref p=>
  cases rx;have e':(∃xs,bq X.K H p xs/\k=!xs.isEmpty)\/(∃xs,bw X.K H p xs/\k=!xs.isEmpty)\/∃kvs,H p=some (.dK kvs)/\k=!kvs.isEmpty:=e;rcases e' with⟨xs,hx,e'⟩ | ⟨xs,hx,e'⟩ | ⟨kvs,hx,e'⟩
  ·subst e';obtain⟨its,r,pl,hz⟩:=I.list hx;have hlen:=r.length;exact wpAny_truthy_list pl.isList (by simp only [RE];omega) ⟨H,I.tok _,by rw [BO r];exact q⟩
  ·subst e';obtain⟨its,r,pl,hz⟩:=I.tuple hx;have hlen:=r.length;exact truthy_tuple pl (by simp only [RE];omega) ⟨H,I.tok _,by rw [BO r];exact q⟩
  ·subst e';obtain⟨hz,hS,vs,r,m⟩:kvs.length<=YC/\(p==Y8)=false/\∃vs,KV kvs vs/\s.heap.DictOf (bZ X.prog X.w) p vs:=I.hok p _ hx;have hlen:kvs.length=vs.length:=V6 r;exact wpAny_truthy_dict hS m Yn ⟨H,I.tok _,by rw [ID r];exact q⟩
 | _=>exact(show False from e).elim
theorem IF(ha:PE X a ta)(he:∀whole,isTrue a X.env whole=(do let v<-whole;ZO a.pos;Zp [v] (truthy v))):
 PT X a (λσ H Q=>ta σ H λx H'=>∃k,BN X.K x H' k/\Q k H'):=by
 intro aaa s σ H Q I h;exact isTrue_plain (aA (ha aaa s σ H _ I h) λv s1 uu35=>by obtain⟨x,H1,I1,r1,q1⟩:=uu35;exact IE aaa s1 σ H1 x v Q I1 r1 q1) (he _)
theorem vL:bN X (Zo .Add) (λx y H Q=>∃i j,x= .str i/\y= .str j/\i.length+j.length<=YC/\Q (.str (i++j)) H):=by
 intro aaa s σ H x y v u Q I rx ry h;obtain⟨i,j,rfl,rfl,hz,q⟩:=h;obtain⟨t,rfl⟩:=rx;obtain⟨t',rfl⟩:=ry;exact add_str (λt' tk=>⟨.str (i++j),H,I.tok _,⟨_,rfl⟩,q⟩) hz
theorem fb{x:V}{us:List Yt}(r:aH [x] us):∃u,us=[u]/\aC x u:=by
 cases r with
 | cons r1 r2=>cases r2;exact⟨_,rfl,r1⟩
theorem BP{x y:V}{us:List Yt}(r:aH [x,y] us):∃u w',us=[u,w']/\aC x u/\aC y w':=by
 cases r with
 | cons r1 r2=>
  cases r2 with
  | cons r3 r4=>cases r4;exact⟨_,_,rfl,r1,r3⟩
theorem IG:eJ X (.builtin "abs") (λxs H Q=>∃i,xs=[.int i]/\Q (.int (if i < 0 then -i else i)) H):=by
 intro aaa s σ H xs us Q I r h;obtain⟨i,rfl,q⟩:=h;obtain⟨u,rfl,t,rfl⟩:=fb r;exact call_abs_int λu tk=>⟨.int (if i < 0 then -i else i),H,I.tok _,⟨_,rfl⟩,q⟩
theorem BQ(hc:X.calm=true):eJ X (.builtin "max") (λxs H Q=>∃i j,xs=[.int i,.int j]/\Q (.int (if j > i then j else i)) H):=by
 intro aaa s σ H xs us Q I r h;obtain⟨i,j,rfl,q⟩:=h;obtain⟨u,w',rfl,⟨t,rfl⟩,⟨t',rfl⟩⟩:=BP r;refine max_two_ints (I.ok.hd hc) λh' tk k=>⟨_,H,I.kept k,?_,q⟩;by_cases hj:j > i
 ·rw [Yp hj,Yp hj];exact⟨_,rfl⟩
 ·rw [Yo hj,Yo hj];exact⟨_,rfl⟩
theorem BR(hc:X.calm=true):eJ X (.builtin "min") (λxs H Q=>∃i j,xs=[.int i,.int j]/\Q (.int (if j < i then j else i)) H):=by
 intro aaa s σ H xs us Q I r h;obtain⟨i,j,rfl,q⟩:=h;obtain⟨u,w',rfl,⟨t,rfl⟩,⟨t',rfl⟩⟩:=BP r;refine min_two_ints (I.ok.hd hc) λh' tk k=>⟨_,H,I.kept k,?_,q⟩;by_cases hj:j < i
 ·rw [Yp hj,Yp hj];exact⟨_,rfl⟩
 ·rw [Yo hj,Yo hj];exact⟨_,rfl⟩
theorem sH:eJ X (.type "int") (λxs H Q=>(∃i,xs=[.int i]/\Q (.int i) H)\/∃k,xs=[.bl k]/\Q (.int (if k then 1 else 0)) H):=by
 intro aaa s σ H xs us Q I r h;rcases h with⟨i,rfl,q⟩ | ⟨k,rfl,q⟩
 ·obtain⟨u,rfl,t,rfl⟩:=fb r;exact call_int_int ⟨.int i,H,I,⟨_,rfl⟩,q⟩
 ·obtain⟨u,rfl,r1⟩:=fb r;cases r1;exact call_int_bool ⟨.int (if k then 1 else 0),H,I.tok _,⟨_,rfl⟩,q⟩
end
structure mV (h:YG) (x dx C:Yu) (mA:Str->Option Yt):Prop where
 obj:h.get? x=some (TZ C dx)
 ns:h.Ns1 dx mA
 ne:dx≠x
theorem IH{h:YG}{dx:Yu}{mA:Str->Option Yt}(n:h.Ns1 dx mA):∃od,h.get? dx=some od/\∀name,V1 name od=some (mA name):=by
 obtain⟨o,es,ep,ho,hd,hk,_,hm⟩:=n;refine⟨o,ho,λname=>?_⟩;have e:=hm name;unfold nsFind findBy at e;rw [<-Array.find?_toList] at e;unfold V1;rw [hd];dsimp only;split
 ·rename_i y q;rw [q] at e;exact congrArg some e
 ·rename_i q;rw [q] at e;have a:es.toList.any (·.refKey)=false:=by
   rw [Xm];intro y hy;obtain⟨z,t,hkey⟩:=hk y (WT.mp hy);simp [DictEntry.refKey,hkey]
  have a':¬es.toList.any (·.refKey)=true:=by rw [a];exact Rl
  rw [Yo a'];exact congrArg some e
theorem mV.look{h:YG}{x dx C:Yu}{mA:Str->Option Yt}(I:mV h x dx C mA):∃od,PySem.W.InstAt h x (TZ C dx) C (some od)/\∀name,V1 name od=some (mA name):=
 let ⟨od,ho,hl⟩:=IH I.ns
 ⟨od,⟨I.obj,rfl,rfl,ho⟩,hl⟩
section
variable {prog:YE} {w:YF} {A:YJ} {E:Yt->Yw->Prop} {s:Yw} {K:Q7} {x dx C f:Yu} {mA:Str->Option Yt} {name:Str} {v:Yt}
theorem II{expr:Bool}{Q:Yt->Yw->Prop}(X:K.In s.heap)(I:mV s.heap x dx C mA)(hg:VH K C name=true)(hh:Wc K C=true)
 (ha:Tb K (.ref C) name=some none)(hv:mA name=some v)(hv':Xx v=true)(h:Q v {s with toks:=s.toks+1}):
 Yy (YB prog w) A (getAttr (.ref x) name expr) Q E s:=by
 obtain⟨od,J,hl⟩:=I.look;exact PySem.W.get_value X J (VY hg).1 (PySem.W.findObj_own hh ha rfl (by rw [hl,hv])) hv' h
theorem IJ{pl:Sem Bool}{Q:Yt×List Yt->Yw->Prop}(X:K.In s.heap)(I:mV s.heap x dx C mA)(hg:VH K C name=true)
 (hf:Tb K (.ref C) name=some (some (.ref f)))(ht:VO K (.ref f)=true)(hv:mA name=none)(h:Q (.ref f,[.ref x]) s):
 Yy (YB prog w) A (ZQ (.ref x) name pl) Q E s:=by
 obtain⟨od,J,hl⟩:=I.look;exact PySem.W.method_fn X J (VY hg).1 (VY hg).2 hf (beq_iff_eq.mp ht) (by show(V1 name od).map (·.isSome)=some false;rw [hl,hv];rfl) h
theorem IK{ns:List Str}{Q:Unit->Yw->Prop}(X:K.In s.heap)(I:mV s.heap x dx C mA)
 (hs:Tb K (.ref C) "__setattr__"=some (some (.builtin "object.__setattr__")))(hp:Xn K C=true)(ht:WB K C name=some none)(hh:Wc K C=true)
 (hw:W8 mA ns)(hsz:ns.length<=YC)
 (h:∀h',mV h' x dx C (λy=>if y=name then some v else mA y)->T2 dx s.heap h'->Q () {s with heap:=h',toks:=s.toks+2}):
 Yy (YB prog w) A (setAttr (.ref x) name v) Q E s:=by
 obtain⟨od,J,hl⟩:=I.look;refine PySem.W.set_plain X J hs (PySem.W.osa_open (s:={s with toks:=s.toks+1}) (r:=none) X J hp ht λb=>?_);obtain⟨cd,hc,hd'⟩:=PySem.W.any_some hh;have hx:s.heap.get? x=some ⟨.ref C,some dx,.plain,#[]⟩:=I.obj;refine Yv (Yx (Yv (Yv (wpAny_loadPart hx (Yv (PySem.W.Looks.here (s:={s with toks:=s.toks+1}) (PySem.W.looks_clsIn X hc) ?_))))));rw [hd'];refine Yx (a:=some dx) (Yv (Yx (Yv ?_)));refine wpAny_nsSet1 (s:={s with toks:=s.toks+1}) I.ns λh' hn2 hs2=>?_;obtain⟨oD,esD,epD,hoD,hdD,hcD⟩:=hn2.count (W8.cons name v hw);refine Yv (wpAny_lookBehind hoD (by rw [hdD];exact pastItsLine_dict (RS hcD (by rw [Rq];omega))) ?_);exact Yx (h _ ⟨(hs2.2 _ (Ne.symm I.ne)).trans I.obj,hn2,I.ne⟩ hs2)
theorem IL{R:Result->Yw->Prop}{vs:List Yt}{kw:List (Str×Yt)}(X:K.In s.heap)(hm:WC K C=true)
 (hi:Tb K (.ref C) "__init__"=some (some (.ref f)))(hf:PySem.W.typeIn K (.ref f)=some (.type "function"))
 (h:Zf (YB prog w) (A.under (.builtin "type.__call__" ⟨.ref C::vs,kw⟩)) (.call (.ref f) ⟨.ref (s.heap.objs.size+1)::vs,kw⟩) (PySem.W.InitBack (s.heap.objs.size+1) R)
   {s with heap:=(s.heap.push Td).push (TZ C s.heap.objs.size)}):
 Zf (YB prog w) A (.call (.ref C) ⟨vs,kw⟩) R s:=by
 obtain⟨hh,g,d,t,os⟩:=s;exact PySem.W.make_core (PySem.W.makes_of X hm) (PySem.W.looks_findIn X hi) (λself=>PySem.W.bind_fn X self hf) (.inl rfl) h
end
def dE(f:Str)(v:V):List (Str×V)->List (Str×V)
 | []=>[(f,v)]
 | (g,x)::r=>if g=f then(g,v)::r else(g,x)::dE f v r
theorem BS(f g:Str)(v:V):∀fs:List (Str×V),(dE f v fs).lookup g=if g=f then some v else fs.lookup g
 | []=>by
  show UR g [(f,v)]=_;by_cases h:g=f
  ·have hb:(g==f)=true:=beq_iff_eq.mpr h;simp only [UR,hb,Yp h]
  ·have hb:(g==f)=false:=beq_eq_false_iff_ne.mpr h;simp only [UR,hb,Yo h]
 | (k,x)::r=>by
  have ih:=BS f g v r;rw [show dE f v ((k,x)::r)=(if k=f then(k,v)::r else(k,x)::dE f v r) from rfl];by_cases hk:k=f
  ·rw [Yp hk];by_cases h:g=k
   ·have hb:(g==k)=true:=beq_iff_eq.mpr h;simp only [UR,hb,Yp (h.trans hk)]
   ·have hb:(g==k)=false:=beq_eq_false_iff_ne.mpr h;simp only [UR,hb,Yo (λe:g=f=>h (e.trans hk.symm))]
  ·rw [Yo hk];by_cases h:g=k
   ·have hb:(g==k)=true:=beq_iff_eq.mpr h;simp only [UR,hb,Yo (λe:g=f=>hk (h.symm.trans e))]
   ·have hb:(g==k)=false:=beq_eq_false_iff_ne.mpr h;simp only [UR,hb];exact ih
theorem vM(f:Str)(v:V):∀fs:List (Str×V),f∈(dE f v fs).map (·.1)/\∀g,g∈fs.map (·.1)->g∈(dE f v fs).map (·.1)
 | []=>⟨by simp [dE],λg h=>by simp at h⟩
 | (k,x)::r=>by
  obtain⟨i1,i2⟩:=vM f v r;rw [show dE f v ((k,x)::r)=(if k=f then(k,v)::r else(k,x)::dE f v r) from rfl];by_cases hk:k=f
  ·rw [Yp hk];subst hk;exact⟨Yr,λg h=>by simpa using h⟩
  ·rw [Yo hk];refine⟨?_,λg h=>?_⟩
   ·rw [Rb];exact Ru _ i1
   ·rw [Rb] at h⊢;rcases Rh.mp h with e | e
    ·exact Rh.mpr (.inl e)
    ·exact Ru _ (i2 g e)
theorem BU(f:Str)(v:V):∀fs:List (Str×V),(dE f v fs).length<=fs.length+1
 | []=>by simp [dE]
 | (k,x)::r=>by
  have ih:=BU f v r;rw [show dE f v ((k,x)::r)=(if k=f then(k,v)::r else(k,x)::dE f v r) from rfl];by_cases hk:k=f
  ·rw [Yp hk,Rq,Rq];omega
  ·rw [Yo hk,Rq,Rq];omega
theorem eG.some_of{v:V}{o:Option Yt}(r:eG (some v) o):∃u,o=some u/\aC v u:=by
 cases o with
 | none=>exact(show False from r).elim
 | some u=>exact⟨u,rfl,r⟩
theorem eG.none_of{o:Option Yt}(r:eG none o):o=none:=by
 cases o with
 | none=>rfl
 | some u=>exact(show False from r).elim
theorem IM{v:V}{u:Yt}(r:aC v u):Xx u=true:=by
 cases v with
 | non=>cases (show u=TY from r);rfl
 | bl b=>cases (show u=UL b from r);rfl
 | int i=>obtain⟨t,e⟩:=(show ∃t,u=TN i t from r);cases e;rfl
 | str x=>obtain⟨t,e⟩:=(show ∃t,u=UK x t from r);cases e;rfl
 | byt b=>obtain⟨t,e⟩:=(show ∃t,u=Yc b t from r);cases e;rfl
 | flt b=>obtain⟨t,e⟩:=(show ∃t,u=Yd b t from r);cases e;rfl
 | ref a=>cases (show u=RW a from r);rfl
 | ty n=>cases (show u=U9 n from r);rfl
section
variable {P:YE} {w:YF} {H H':Hp} {h h':YG} {a C dx:Yu} {fs fs':List (Str×V)}
theorem vN(hok:bJ P w H h)(e:H a=some (.ins C dx fs)):∃mA,mV h a dx C mA/\(∀f,eG (fs.lookup f) (mA f))/\W8 mA (fs.map (·.1))/\fs.length<=1000/\H dx=some (.own a):=by
 obtain⟨d,z,ne,ob,mA,n,r,q⟩:=(show cm P w H h a (.ins C dx fs) from hok a _ e);exact⟨mA,⟨ob,n,ne⟩,r,q,z,d⟩
end
structure cW (K:Q7) (C:Yu):Prop where
 pg:VH K C Str.empty=true
 hd:Wc K C=true
 po:Xn K C=true
 sa:Tb K (.ref C) "__setattr__"=some (some (.builtin "object.__setattr__"))
theorem cW.get{K:Q7}{C:Yu}(c:cW K C)(f:Str):VH K C f=true:=c.pg
def NoAttr(K:Q7)(C:Yu)(f:Str):Prop:=Tb K (.ref C) f=some none
theorem NoAttr.taker{K:Q7}{C:Yu}{f:Str}(n:NoAttr K C f):WB K C f=some none:=by
 unfold WB;rw [show Tb K (.ref C) f=some none from n];rfl
structure gQ (K:Q7) (C:Yu) (m:Str) (f:Yu):Prop where
 at_:Tb K (.ref C) m=some (some (.ref f))
 fn:VO K (.ref f)=true
 kp:Ts K (.ref f)=true
section
variable {X:Cx} {aaa:List (Yu×Obj)} {σ:St} {H:Hp} {s:Yw} {a C dx:Yu} {fs:List (Str×V)} {f:Str} {v:V} {A:YJ} {E:Yt->Yw->Prop}
theorem IP{b:Bool}{Q:Yt->Yw->Prop}(I:af X aaa σ H s)(e:H a=some (.ins C dx fs))(c:cW X.K C)(n:NoAttr X.K C f)(l:fs.lookup f=some v)
 (h:∀u s',af X aaa σ H s'->aC v u->Q u s'):Yy (YB X.prog X.w) A (getAttr (.ref a) f b) Q E s:=by
 obtain⟨mA,O,r,_,_,_⟩:=vN I.hok e;obtain⟨u,hu,ru⟩:=eG.some_of (v:=v) (o:=mA f) (by rw [<-l];exact r f);exact II I.kIn O (c.get f) c.hd n hu (IM ru) (h u _ (I.tok _) ru)
theorem sI{m:Str}{g:Yu}{pl:Sem Bool}{Q:Yt×List Yt->Yw->Prop}(I:af X aaa σ H s)(e:H a=some (.ins C dx fs))(c:cW X.K C)(k:gQ X.K C m g)(l:fs.lookup m=none)
 (h:Q (.ref g,[.ref a]) s):Yy (YB X.prog X.w) A (ZQ (.ref a) m pl) Q E s:=by
 obtain⟨mA,O,r,_,_,_⟩:=vN I.hok e;have hn:mA m=none:=eG.none_of (by rw [<-l];exact r m);exact IJ I.kIn O (c.get m) k.at_ k.fn hn h
theorem IQ{y:V}{u:Yt}{Q:Unit->Yw->Prop}(I:af X aaa σ H s)(e:H a=some (.ins C dx fs))(c:cW X.K C)(n:NoAttr X.K C f)(hl:fs.length < 1000)(ry:aC y u)
 (h:∀s',af X aaa σ (ai H a (.ins C dx (dE f y fs))) s'->Q () s'):Yy (YB X.prog X.w) A (setAttr (.ref a) f u) Q E s:=by
 obtain⟨mA,O,r,wi,_,ho⟩:=vN I.hok e;have hz:(fs.map (·.1)).length<=YC:=by rw [Q8,YY];omega
 refine IK I.kIn O c.sa c.po n.taker c.hd wi hz λh' O' sb=>h _ ?_;have hd:∃o,h'.get? dx=some o:=let ⟨o,_,_,e',_⟩:=O'.ns;⟨o,e'⟩
 refine I.write (x:=a) (e:=dx) (by rw [e];exact S9) (.inr ho) (λb q hb z=>(sb.2 b hb).trans z) hd ?_;refine⟨by rw [az O.ne];exact ho,?_,O.ne,O'.obj,_,O'.ns,λg=>?_,λg hg=>?_⟩
 ·have:=BU f y fs;omega
 ·show eG ((dE f y fs).lookup g) (if g=f then some u else mA g);rw [BS];by_cases q:g=f
  ·rw [Yp q,Yp q];exact ry
  ·rw [Yo q,Yo q];exact r g
 ·by_cases q:g=f
  ·rw [q];exact(vM f y fs).1
  ·refine(vM f y fs).2 g (wi g λz=>hg ?_);show(if g=f then some u else mA g)=none;rw [Yo q];exact z
theorem af.made(I:af X aaa σ H s):af X aaa σ (ai (ai H s.heap.objs.size (.own (s.heap.objs.size+1))) (s.heap.objs.size+1) (.ins C s.heap.objs.size []))
 {s with heap:=(s.heap.push Td).push (TZ C s.heap.objs.size)}:=by
 have e1:(s.heap.push Td).get? s.heap.objs.size=some Td:=RJ s.heap rfl;have e2:((s.heap.push Td).push (TZ C s.heap.objs.size)).get? (s.heap.objs.size+1)=some (TZ C s.heap.objs.size):=by
  have:=RJ (s.heap.push Td) (o:=TZ C s.heap.objs.size) rfl
  rwa [Uw] at this
 have e3:(s.heap.push Td).Ns s.heap.objs.size (λ_=>none):=⟨Td,#[],_,e1,rfl,(λe he=>absurd he Yr),λ_=>rfl⟩;have I1:=I.laid (a:=s.heap.objs.size) (o:= .own (s.heap.objs.size+1)) (h':=s.heap.push Td) (t':=s.toks) (λb u q=>Rc _ q) (Rf _) ⟨_,e1⟩;refine I1.laid (a:=s.heap.objs.size+1) (o:= .ins C s.heap.objs.size []) (t':=s.toks) (λb u q=>Rc _ q) (X8 (Uw _ _)) ?_;have ne:s.heap.objs.size≠s.heap.objs.size+1:=RI (Tg _);refine⟨by rw [az ne,bh],Sd _,ne,e2,λ_=>none,(Heap.Ns1.of_empty e3).at λo q=>Rc _ q,λ_=>S9,λy hy=>absurd rfl hy⟩
theorem IS{prog:YE}{w:YF}{env:Env}{e:YA}{f:Str}{pos:Pos}{s:Yw}{Q:Yt->Yw->Prop}(hb:YX e f env (eval e env)=eval e env)
 (h:Yy (YB prog w) A (eval e env) (λo s₁=>Yy (YB prog w) A (getAttr o f true) Q E s₁) E s):Yy (YB prog w) A (eval (.Attribute e f pos) env) Q E s:=
 Attribute_any_ h (by rw [arm_eval_Attribute,hb])
end
def IT(K:Q7)(ta:TE)(f:Str):TE:=λσ H Q=>ta σ H λx H1=>∃a C dx fs v,x= .ref a/\H1 a=some (.ins C dx fs)/\cW K C/\NoAttr K C f/\fs.lookup f=some v/\Q v H1
def IU(K:Q7)(ta tv:TE)(f:Str):TS:=λD σ H=>tv σ H λy H1=>ta σ H1 λx H2=>∃a C dx fs,x= .ref a/\H2 a=some (.ins C dx fs)/\cW K C/\NoAttr K C f/\fs.length < 1000/\
 D.nx σ (ai H2 a (.ins C dx (dE f y fs)))
section
variable {X:Cx} {o e value:YA} {f:Str} {pos pos' tpos:Pos} {ta tv:TE}
theorem sJ(he:PE X e ta)(hb:YX e f X.env (eval e X.env)=eval e X.env):PE X (.Attribute e f pos) (IT X.K ta f):=by
 intro aaa s σ H Q I h;refine IS hb (aA (he aaa s σ H _ I h) λu s1 ⟨x,H1,I1,rx,a,C,dx,fs,v,ex,ea,c,n,l,q⟩=>?_);subst ex;obtain rfl:u=RW a:=rx;exact IP I1 ea c n l λu' s2 I2 ru=>⟨v,H1,I2,ru,q⟩
theorem vO(ha:PE X o ta)(hv:PE X value tv)(hs:YN value (some (.Attribute o f pos')) pos.line X.env=pure false):PS X (.Assign [.Attribute o f pos'] value pos) (IU X.K ta tv f):=by
 intro aaa s σ H D I h;refine plainObj_wpAny_Assign_Attribute (aA (hv aaa s σ H _ I h) λu s1 ⟨y,H1,I1,ry,q⟩=>aA (ha aaa s1 σ H1 _ I1 q) λov s2 ⟨x,H2,I2,rx,a,C,dx,fs,ex,ea,c,n,l,q2⟩=>?_) hs;subst ex;obtain rfl:ov=RW a:=rx;exact IQ I2 ea c n l ry λs3 I3=>⟨σ,_,I3,q2⟩
theorem Q0{pl:Sem Bool}{m:Str}{apos:Pos}{args:List YA}{aaa:List (Yu×Obj)}{s:Yw}{σ:St}{H:Hp}{Q:Yt->Yw->Prop}{te:TE}(he:PE X e te)(I:af X aaa σ H s)
 (h:te σ H λx H1=>∃a C dx fs g,x= .ref a/\H1 a=some (.ins C dx fs)/\cW X.K C/\gQ X.K C m g/\fs.lookup m=none/\
   ∀s1,af X aaa σ H1 s1->Yy (YB X.prog X.w) X.A (callWith pos (.ref g) [.ref a] (YM pos (Yz args X.env)) (Zd pos (Y1 [] X.env))) Q X.xe s1)
 (ht:eval (.Call (.Attribute e m apos) args [] pos) X.env=(do
   let ov<-eval e X.env
   ZO apos.atName
   let (f,first)<-Zp [ov] (ZQ ov m pl)
   callWith pos f first (YM pos (Yz args X.env)) (Zd pos (Y1 [] X.env)))):
 Yy (YB X.prog X.w) X.A (eval (.Call (.Attribute e m apos) args [] pos) X.env) Q X.xe s:=by
 refine U0 (pl:=pl) (aA (he aaa s σ H _ I h) λu s1 ⟨x,H1,I1,rx,a,C,dx,fs,g,ex,ea,c,k,l,q⟩=>?_) ht;subst ex;obtain rfl:u=RW a:=rx;exact sI I1 ea c k l (q s1 I1)
end
structure aY (k:Nat) (A:YJ):Prop where
 hd:A.handled=none
 dp:A.depth+3*k+5 < recursionLimit
 un:A.units+16*k+200 < YQ
theorem aY.mono{j k:Nat}{A:YJ}(r:aY k A)(h:j<=k):aY j A:=⟨r.hd,by have:=r.dp;omega,by have:=r.un;omega⟩
theorem aY.deeper{k:Nat}{A:YJ}(r:aY (k+1) A)(env:Env):aY k (A.deeper env):=
 ⟨r.hd,by have:=r.dp;show A.depth+1+3*k+5 < _;omega,by have:=r.un;show A.units+3+16*k+200 < _;omega⟩
theorem aY.in1{k:Nat}{A:YJ}(r:aY (k+1) A):aY k A.in1:=
 ⟨r.hd,by have:=r.dp;show A.depth+3*k+5 < _;omega,by have:=r.un;show A.units+1+16*k+200 < _;omega⟩
theorem IV{A:YJ}{C:Yu}{us:List Yt}{kw:List (Str×Yt)}:(A.under (.builtin "type.__call__" ⟨.ref C::us,kw⟩)).depth=A.depth+1:=by
 first | rfl | simp [Xa,Code.weight,Code.isCreation,Code.isGuard,Code.isCaller,Yg,Xb,guardIds]
theorem IW{A:YJ}{C:Yu}{us:List Yt}{kw:List (Str×Yt)}:(A.under (.builtin "type.__call__" ⟨.ref C::us,kw⟩)).units=A.units+1:=by
 first | rfl | simp [Xa,Code.cUnits,Yg,Xb]
theorem aY.make{k:Nat}{A:YJ}(r:aY (k+1) A)(C:Yu)(us:List Yt)(kw:List (Str×Yt)):aY k (A.under (.builtin "type.__call__" ⟨.ref C::us,kw⟩)):=
 ⟨r.hd,by have:=r.dp;rw [IV];omega,by have:=r.un;rw [IW];omega⟩
theorem aY.depth{k:Nat}{A:YJ}(r:aY k A):A.depth < recursionLimit:=by have:=r.dp;omega
theorem aY.units{k:Nat}{A:YJ}(r:aY k A):A.units+64 < YQ:=by have:=r.un;omega
theorem aY.units0{k:Nat}{A:YJ}(r:aY k A):A.units < YQ:=by have:=r.un;omega
def sL:TA:=λ_ H Q=>Q [] H
def BV(ta:TE)(tr:TA):TA:=λσ H Q=>ta σ H λx H1=>tr σ H1 λxs H2=>Q (x::xs) H2
section
variable {X:Cx} {e:YA} {es:List YA} {te:TE} {t:TA} {pos:Pos}
theorem cb:PA X [] sL:=λ_ _ _ _ H Q I h=>We ⟨[],H,I,.nil,h⟩
theorem bA(ha:PE X e te)(hr:PA X es t)(hs:Yz (e::es) X.env=(false,eval e X.env)::Yz es X.env:=by rfl):PA X (e::es) (BV te t):=by
 intro pos aaa s σ H Q I h;rw [hs];show Yy _ _ (spliced ((false,eval e X.env)::YM pos (Yz es X.env))) _ _ s;refine Vp (aA (ha aaa s σ H _ I h) λu s1 ⟨x,H1,I1,r1,q1⟩=>?_);exact aA (hr pos aaa s1 σ H1 _ I1 q1) λus s2 uu41=>by obtain⟨xs,H2,I2,r2,q2⟩:=uu41;exact⟨x::xs,H2,I2,.cons r1 r2,q2⟩
def BW(t:TA):TE:=λσ H Q=>t σ H λxs H1=>xs.length<=YC/\∀p,H1 p=none->Q (.ref p) (ai H1 p (.tup xs))
def BX(t:TA):TE:=λσ H Q=>t σ H λxs H1=>xs.length<=YC/\∀p,H1 p=none->Q (.ref p) (ai H1 p (.lst xs))
theorem BY{x1}(h:PA X es t):PE X (.Tuple es x1 pos) (BW t):=by
 intro aaa s σ H Q I hq;refine wpAny_Tuple_spliced (aA (h pos aaa s σ H _ I hq) λus s1 ⟨xs,H1,I1,r,z,q⟩=>⟨by rw [<-r.length];exact z,?_⟩);have hf:H1 s1.heap.objs.size=none:=I1.hok.fresh (Rf _);refine⟨.ref s1.heap.objs.size,ai H1 s1.heap.objs.size (.tup xs),I1.laid (t':=s1.toks) (λb u e=>Rc _ e) (Rf _) ?_,rfl,q _ hf⟩;exact⟨z,us,r,⟨_,RJ _ rfl,rfl,_,rfl⟩⟩
theorem IX(h:PA X es t):PE X (.List es pos) (BX t):=by
 intro aaa s σ H Q I hq;refine wpAny_List_spliced (aA (h pos aaa s σ H _ I hq) λus s1 ⟨xs,H1,I1,r,z,q⟩=>⟨by rw [<-r.length];exact z,?_⟩);have hf:H1 s1.heap.objs.size=none:=I1.hok.fresh (Rf _);refine⟨.ref s1.heap.objs.size,ai H1 s1.heap.objs.size (.lst xs),I1.laid (t':=s1.toks) (λb u e=>Rc _ e) (Rf _) ?_,rfl,q _ hf⟩;exact⟨z,us,0,r,RJ _ rfl⟩
end
abbrev Sp:=List V->Hp->VK->XK->Prop
abbrev fA:=List Env->Hp->Yw->XK->Yt->Yw->Prop
structure jf (P:YE) (w:YF) (K:Q7) (mg:Str->Option Yt) (base:YG) (A:YJ) (outer:List Env) (s:Yw) (H:Hp):Prop where
 frames:A.frames=some outer
 mod:Mod K mg base
 bs:∀b o,base.get? b=some o->s.heap.get? b=some o/\H b=none
 bsz:base.objs.size<=s.heap.objs.size
 funs:s.heap.FunFrames base outer
 frf:∀b∈gG outer,H b=none
 hok:bJ P w H s.heap
 bare:ZN s.gens
def CE(outer:List Env)(P:YE)(w:YF)(H:Hp)(s:Yw)(Q:VK)(u:Yt)(s':Yw):Prop:=
 ∃v H',s'.os=s.os/\ZN s'.gens/\Un (gG outer) [] H H' s.heap s'.heap/\bJ P w H' s'.heap/\aC v u/\Q v H'
def CR(CX:fA)(outer:List Env)(P:YE)(w:YF)(H:Hp)(s:Yw)(Q:VK)(E:XK)(r:Result)(s':Yw):Prop:=
 match r with
 | .ok (.ret u)=>CE outer P w H s Q u s'
 | .ok _=>False
 | .error e=>CX outer H s E e s'
structure aB (P:YE) (w:YF) (K:Q7) (mg:Str->Option Yt) (base:YG) (CX:fA) (k:Nat) (f:Yu) (fd:YD) (ps:List Str) (sp:Sp):Prop where
 len:∀vs H Q E,sp vs H Q E->vs.length=ps.length
 run:∀(A:YJ)(outer:List Env)(s:Yw)(H:Hp)(args:Args)(us:List Yt)(vs:List V)(Q:VK)(E:XK),aY k A->jf P w K mg base A outer s H->BindsTo s fd args (ps.zip us)->aH vs us->sp vs H Q E->
  Zf (YB P w) A (.call (.ref f) args) (CR CX outer P w H s Q E) s
theorem aB.imp{P:YE}{w:YF}{K:Q7}{mg:Str->Option Yt}{base:YG}{CX:fA}{k:Nat}{f:Yu}{fd:YD}{ps:List Str}{sp sp':Sp}(F:aB P w K mg base CX k f fd ps sp)
 (h:∀vs H Q E,sp' vs H Q E->sp vs H Q E):aB P w K mg base CX k f fd ps sp':=
 ⟨λvs H Q E q=>F.len vs H Q E (h _ _ _ _ q),λA outer s H args us vs Q E hr he hb hv hs=>F.run A outer s H args us vs Q E hr he hb hv (h _ _ _ _ hs)⟩
theorem jf.make{P:YE}{w:YF}{K:Q7}{mg:Str->Option Yt}{base:YG}{A:YJ}{outer:List Env}{s:Yw}{H:Hp}(e:jf P w K mg base A outer s H)(C:Yu)(us:List Yt)(kw:List (Str×Yt)):
 jf P w K mg base (A.under (.builtin "type.__call__" ⟨.ref C::us,kw⟩)) outer s H:=⟨by first | exact e.frames | (simpa [Xa,Code.envs,Xb,pushEnvs] using e.frames),e.mod,e.bs,e.bsz,e.funs,e.frf,e.hok,e.bare⟩
theorem jf.in1{P:YE}{w:YF}{K:Q7}{mg:Str->Option Yt}{base:YG}{A:YJ}{outer:List Env}{s:Yw}{H:Hp}(e:jf P w K mg base A outer s H):
 jf P w K mg base A.in1 outer s H:=⟨e.frames,e.mod,e.bs,e.bsz,e.funs,e.frf,e.hok,e.bare⟩
section
variable {X:Cx} {aaa:List (Yu×Obj)} {σ:St} {H:Hp} {s s':Yw}
theorem af.env0(I:af X aaa σ H s):jf X.prog X.w X.K X.mg X.base X.A X.stack s H:=
 ⟨I.ok.frames,I.ok.mod,I.bs,RS I.ok.bsz I.sz,I.stack,I.stkFree,I.hok,I.bare⟩
theorem af.after{Q:VK}{u:Yt}(I:af X aaa σ H s)(h:CE X.stack X.prog X.w H s Q u s'):EP X aaa σ Q u s':=by
 obtain⟨v,H',os,bare,un,hok,r,q⟩:=h;obtain⟨hh,g,d,t,os'⟩:=s';obtain rfl:os'=s.os:=os;exact⟨v,H',I.call (h':=hh) (g':=g) (d':=d) (t':=t) (ch:=[]) un hok bare (λb z=>absurd z Yr),r,q⟩
end
def sM(sp:Sp)(dvs:List V)(E:XK)(t:TA):TE:=λσ H Q=>t σ H λvs H1=>sp (vs++dvs) H1 Q E
def qL(C:Yu)(m:Str)(sp:Sp)(dvs:List V)(E:XK)(ta:TE)(t:TA):TE:=λσ H Q=>ta σ H λx H1=>∃a dx fs,x= .ref a/\H1 a=some (.ins C dx fs)/\fs.lookup m=none/\
 t σ H1 λvs H2=>sp (x::(vs++dvs)) H2 Q E
def BZ(C:Yu)(sp:Sp)(dvs:List V)(E:XK)(t:TA):TE:=λσ H Q=>t σ H λvs H1=>∀x dx,H1 x=none->H1 dx=none->dx≠x->
 sp (.ref x::(vs++dvs)) (ai (ai H1 dx (.own x)) x (.ins C dx [])) (λv H2=>v= .non/\Q (.ref x) H2) E
def dF(K:Q7)(fd:YD)(ps:List Str)(ds:List Yt):Prop:=
 ∀(s:Yw)(us:List Yt),K.In s.heap->(us++ds).length=ps.length->BindsTo s fd ⟨us,[]⟩ (ps.zip (us++ds))
theorem dF.all{K:Q7}{fd:YD}{ps:List Str}(h:∀us:List Yt,us.length=ps.length->bindArgs fd ⟨us,[]⟩=pure (ps.zip us)):dF K fd ps []:=λs us _ hl=>by
 rw [RY] at hl⊢;exact .of_eq (h us hl)
def iH(CX:fA)(X:Cx)(E:XK):Prop:=∀(aaa:List (Yu×Obj))(σ:St)(H:Hp)(s:Yw)(e:Yt)(s':Yw),af X aaa σ H s->CX X.stack H s E e s'->X.xe e s'
section
variable {X:Cx} {CX:fA} {k:Nat} {f C:Yu} {fd:YD} {ps:List Str} {sp:Sp} {dvs:List V} {ds:List Yt} {E:XK} {x m:Str} {p pos apos:Pos} {e o:YA} {es:List YA} {ta:TE} {t:TA}
theorem sN{aaa:List (Yu×Obj)}{σ:St}{H:Hp}{s:Yw}{Q:VK}{us:List Yt}{vs:List V}(F:aB X.prog X.w X.K X.mg X.base CX k f fd ps sp)(hr:aY k X.A)(hb:dF X.K fd ps ds)(hd:aH dvs ds)(hx:iH CX X E)
 (I:af X aaa σ H s)(r:aH vs us)(h:sp (vs++dvs) H Q E):Yy (YB X.prog X.w) X.A (call (.ref f) us) (EP X aaa σ Q) X.xe s:=by
 have r2:aH (vs++dvs) (us++ds):=r.append hd;have hl:(us++ds).length=ps.length:=by rw [<-r2.length];exact F.len _ _ _ _ h
 refine wpAny_call (Zg (F.run X.A X.stack s H ⟨us,[]⟩ (us++ds) (vs++dvs) Q E hr I.env0 (hb s us I.kIn hl) r2 h) λr s' hq=>?_);cases r with
 | error e=>exact hx aaa σ H s e s' I hq
 | ok fl=>
  cases fl with
  | ret u=>exact I.after hq
  | next=>exact S8 hq
  | brk=>exact S8 hq
  | cont=>exact S8 hq
theorem B0(F:aB X.prog X.w X.K X.mg X.base CX k f fd ps sp)(hr:aY k X.A)(hg:Gl X x)(hm:X.mg x=some (.ref f))(hk:Ts X.K (.ref f)=true)(hb:dF X.K fd ps ds)(hd:aH dvs ds)(hx:iH CX X E)
 (ha:PA X (e::es) t)(hdb:(x==("__debug__":Str))=false:=by decide)(he:Yz (e::es) X.env=(false,eval e X.env)::Yz es X.env:=by rfl)(hpl:(YM pos (Yz es X.env)).any (·.1)=false:=by rfl):
 PE X (.Call (.Name x p) (e::es) [] pos) (sM sp dvs E t):=by
 intro aaa s σ H Q I h;refine Zm (sg I hg hm ?_ hdb);refine Vq (h₀:=X.base) I.ok.mod.kin hk (aA (ha pos aaa s σ H _ I h) λus s1 ⟨vs,H1,I1,r,q⟩=>⟨I1.kIn,?_⟩) he hpl;exact sN F hr hb hd hx I1 r q
theorem B1{pl:Sem Bool}(he:PE X o ta)(c:cW X.K C)(hm:gQ X.K C m f)(F:aB X.prog X.w X.K X.mg X.base CX k f fd ps sp)(hr:aY k X.A)(hb:dF X.K fd ps ds)(hd:aH dvs ds)(hx:iH CX X E)(ha:PA X (e::es) t)
 (hst:Yz (e::es) X.env=(false,eval e X.env)::Yz es X.env:=by rfl)(hpl:(YM pos (Yz es X.env)).any (·.1)=false:=by rfl)
 (ht:eval (.Call (.Attribute o m apos) (e::es) [] pos) X.env=(do
   let ov<-eval o X.env
   ZO apos.atName
   let (f,first)<-Zp [ov] (ZQ ov m pl)
   callWith pos f first (YM pos (Yz (e::es) X.env)) (Zd pos (Y1 [] X.env))):=by rfl):
 PE X (.Call (.Attribute o m apos) (e::es) [] pos) (qL C m sp dvs E ta t):=by
 intro aaa s σ H Q I h;refine U0 (pl:=pl) (aA (he aaa s σ H _ I h) λu s1 ⟨x,H1,I1,rx,a,dx,fs,ex,ea,l,q⟩=>?_) ht;subst ex;obtain rfl:u=RW a:=rx;refine sI I1 ea c hm l ?_;refine Vq (first:=[.ref a]) (h₀:=X.base) I.ok.mod.kin hm.kp (aA (ha pos aaa s1 σ H1 _ I1 q) λus s2 ⟨vs,H2,I2,r,q2⟩=>⟨I2.kIn,?_⟩) hst hpl;exact sN (us:= .ref a::us) (vs:= .ref a::vs) F hr hb hd hx I2 (.cons rfl r) q2
theorem sO{pl:Sem Bool}(he:PE X o ta)(c:cW X.K C)(hm:gQ X.K C m f)(F:aB X.prog X.w X.K X.mg X.base CX k f fd ps sp)(hr:aY k X.A)(hb:dF X.K fd ps ds)(hd:aH dvs ds)(hx:iH CX X E)
 (ht:eval (.Call (.Attribute o m apos) [] [] pos) X.env=(do
   let ov<-eval o X.env
   ZO apos.atName
   let (f,first)<-Zp [ov] (ZQ ov m pl)
   callWith pos f first (YM pos (Yz [] X.env)) (Zd pos (Y1 [] X.env))):=by rfl):
 PE X (.Call (.Attribute o m apos) [] [] pos) (qL C m sp dvs E ta sL):=by
 intro aaa s σ H Q I h;refine U0 (pl:=pl) (aA (he aaa s σ H _ I h) λu s1 ⟨x,H1,I1,rx,a,dx,fs,ex,ea,l,q⟩=>?_) ht;subst ex;obtain rfl:u=RW a:=rx;refine sI I1 ea c hm l ?_;exact PySem.W.callWith_K0 (first:=[.ref a]) I1.kIn hm.kp (sN (us:=[.ref a]) (vs:=[.ref a]) F hr hb hd hx I1 (.cons rfl .nil) q)
structure Mk (K:Q7) (C f:Yu):Prop where
 makes:WC K C=true
 init:Tb K (.ref C) "__init__"=some (some (.ref f))
 fn:VO K (.ref f)=true
 kp:Ts K (.ref C)=true
theorem IY{aaa:List (Yu×Obj)}{σ:St}{H:Hp}{s:Yw}{Q:VK}{us:List Yt}{vs:List V}(M:Mk X.K C f)(F:aB X.prog X.w X.K X.mg X.base CX k f fd ps sp)(hr:aY (k+1) X.A)(hb:dF X.K fd ps ds)(hd:aH dvs ds)
 (hx:iH CX X E)(I:af X aaa σ H s)(r:aH vs us)
 (h:∀x dx,H x=none->H dx=none->dx≠x->sp (.ref x::(vs++dvs)) (ai (ai H dx (.own x)) x (.ins C dx [])) (λv H2=>v= .non/\Q (.ref x) H2) E):
 Yy (YB X.prog X.w) X.A (call (.ref C) us) (EP X aaa σ Q) X.xe s:=by
 have hq:=h (s.heap.objs.size+1) s.heap.objs.size (I.hok.fresh (Tc _)) (I.hok.fresh (Rf _)) (RI (Tg _));have I2:=af.made (C:=C) I;have r2:aH (V.ref (s.heap.objs.size+1)::(vs++dvs)) (RW (s.heap.objs.size+1)::(us++ds)):= .cons rfl (r.append hd);have hl:(RW (s.heap.objs.size+1)::us++ds).length=ps.length:=by
  have e:=r2.length;rw [F.len _ _ _ _ hq] at e;exact e.symm
 refine wpAny_call (IL (f:=f) I.kIn M.makes M.init (beq_iff_eq.mp M.fn) (Zg (F.run _ X.stack _ _ ⟨RW (s.heap.objs.size+1)::us,[]⟩ (RW (s.heap.objs.size+1)::(us++ds)) _ _ E (hr.make C us [])
  (I2.env0.make C us []) (hb _ (RW (s.heap.objs.size+1)::us) I2.kIn hl) r2 hq) λr s' hq'=>?_))
 cases r with
 | error e=>exact hx aaa σ _ _ e s' I2 hq'
 | ok fl=>
  cases fl with
  | ret u=>
   obtain⟨v,H',I3,rv,ev,q3⟩:=I2.after hq';subst ev;exact⟨rv,⟨V.ref (s.heap.objs.size+1),H',I3,rfl,q3⟩⟩
  | next=>exact S8 hq'
  | brk=>exact S8 hq'
  | cont=>exact S8 hq'
theorem sP(M:Mk X.K C f)(F:aB X.prog X.w X.K X.mg X.base CX k f fd ps sp)(hr:aY (k+1) X.A)(hg:Gl X x)(hm:X.mg x=some (.ref C))(hb:dF X.K fd ps ds)(hd:aH dvs ds)(hx:iH CX X E)
 (ha:PA X (e::es) t)(hdb:(x==("__debug__":Str))=false:=by decide)(he:Yz (e::es) X.env=(false,eval e X.env)::Yz es X.env:=by rfl)(hpl:(YM pos (Yz es X.env)).any (·.1)=false:=by rfl):
 PE X (.Call (.Name x p) (e::es) [] pos) (BZ C sp dvs E t):=by
 intro aaa s σ H Q I h;refine Zm (sg I hg hm ?_ hdb);refine Vq (h₀:=X.base) I.ok.mod.kin M.kp (aA (ha pos aaa s σ H _ I h) λus s1 ⟨vs,H1,I1,r,q⟩=>⟨I1.kIn,?_⟩) he hpl;exact IY M F hr hb hd hx I1 r q
end
section
variable {X:Cx} {CX:fA} {k:Nat} {f C:Yu} {fd:YD} {ps ks:List Str} {sp:Sp} {E:XK} {x m:Str} {p pos apos kpos:Pos} {e o:YA} {es:List YA} {kws:List Zc} {te ta:TE} {t tk:TA} {nm:Option Str}
variable {g:List Yt->List Yt->List Yt} {gV:List V->List V->List V}
end
structure aN (N P:List Str) (sc:Y4):Prop where
 kind:sc.kind= .function
 co:sc.isCoroutine=false
 gen:sc.isGenerator=false
 nd:N.Nodup
 pre:N.take P.length=P
 par:∀x∈P,sc.names.lookup x=some .local\/sc.names.lookup x=some .cell
 nofree:∀y∈sc.names,y.2≠ .free
theorem B2{kindOf:Str->Option Y3}{x:Str}:∀{binds:List (Str×Yt)}{m:Str->Option Yt},(∀v,(x,v)∉ binds)->bindL kindOf binds m x=m x
 | [],_,_=>rfl
 | (n,v)::r,m,h=>by
  unfold bindL;rw [B2 λw hw=>h w (Ru _ hw)];split
  ·have:x≠n:=by rintro rfl;exact h v RD
   simp [this]
  ·rfl
theorem B3{kindOf:Str->Option Y3}{x:Str}:∀{binds:List (Str×Yt)}{m:Str->Option Yt},(∀v,(x,v)∉ binds)->bindC kindOf binds m x=m x
 | [],_,_=>rfl
 | (n,v)::r,m,h=>by
  unfold bindC;rw [B3 λw hw=>h w (Ru _ hw)];split
  ·rfl
  ·have:x≠n:=by rintro rfl;exact h v RD
   simp [this]
theorem B4{kindOf:Str->Option Y3}{x:Str}{v:Yt}:∀{P:List Str}{vs:List Yt}{i:Nat}{m:Str->Option Yt},P.Nodup->P[i]?=some x->vs[i]?=some v->kindOf x=some .local->
 bindL kindOf (P.zip vs) m x=some v
 | [],_,_,_,_,h,_,_=>by simp at h
 | _::_,[],_,_,_,_,h,_=>by simp at h
 | p::P,w::vs,0,m,nd,h1,h2,hk=>by
  simp at h1 h2;subst h1;subst h2;show bindL kindOf ((p,w)::P.zip vs) m p=_;unfold bindL;rw [B2 λv hv=>(Ss.mp nd).1 (WD hv).1,Yp hk];simp
 | p::P,w::vs,i+1,m,nd,h1,h2,hk=>by
  show bindL kindOf ((p,w)::P.zip vs) m x=_;unfold bindL;exact B4 (i:=i) (Ss.mp nd).2 (by simpa using h1) (by simpa using h2) hk
theorem B5{kindOf:Str->Option Y3}{x:Str}{v:Yt}:∀{P:List Str}{vs:List Yt}{i:Nat}{m:Str->Option Yt},P.Nodup->P[i]?=some x->vs[i]?=some v->kindOf x≠some .local->
 bindC kindOf (P.zip vs) m x=some v
 | [],_,_,_,_,h,_,_=>by simp at h
 | _::_,[],_,_,_,_,h,_=>by simp at h
 | p::P,w::vs,0,m,nd,h1,h2,hk=>by
  simp at h1 h2;subst h1;subst h2;show bindC kindOf ((p,w)::P.zip vs) m p=_;unfold bindC;rw [B3 λv hv=>(Ss.mp nd).1 (WD hv).1,Yo hk];simp
 | p::P,w::vs,i+1,m,nd,h1,h2,hk=>by
  show bindC kindOf ((p,w)::P.zip vs) m x=_;unfold bindC;exact B5 (i:=i) (Ss.mp nd).2 (by simpa using h1) (by simpa using h2) hk
def start(N:List Str)(vs:List V):St:=vs.map some++RR (N.length - vs.length) none
def iI(CX:fA)(P:YE)(w:YF)(K:Q7)(mg:Str->Option Yt)(base:YG)(N:List Str)(qual:Str)(scope:Y4)(f:Yu)(cd:Yt)(A:YJ)(outer:List Env)(s:Yw)(H:Hp)(E:XK):Cx where
 prog:=P
 w:=w
 K:=K
 mg:=mg
 base:=base
 A:=A.deeper (Zw qual scope s.heap.objs.size f cd)
 N:=N
 s₀:=s
 H₀:=H
 env:=Zw qual scope s.heap.objs.size f cd
 outer:=outer
 stack:=Zw qual scope s.heap.objs.size f cd::outer
 ex:=[]
 calm:=true
 fn:=λ_=>true
 pn:=[]
 xe:=λe s'=>Yy (YB P w) (A.deeper (Zw qual scope s.heap.objs.size f cd)) (leaving (Zw qual scope s.heap.objs.size f cd) e) (λ_ s''=>CX outer H s E e s'') (λe' s''=>CX outer H s E e' s'') s'
theorem B6{sc:Y4}{n:Nat}{x:Str}(h:sc.names.lookup x=some .cell):∃c,(YZ n sc.names []).lookup x=some c:=by
 have q:=VA sc.names n [] (.inl h);exact Uy.mp q
theorem IZ{CX:fA}{P:YE}{w:YF}{K:Q7}{mg:Str->Option Yt}{base:YG}{N ps:List Str}{qual:Str}{scope:Y4}{f:Yu}{cd:Yt}{A:YJ}{outer:List Env}{s s1:Yw}{H:Hp}{E:XK}{us:List Yt}{vs:List V}
 (S:aN N ps scope)(hd:A.handled=none)(e0:jf P w K mg base A outer s H)(hl:vs.length=ps.length)(r:aH vs us)
 (x:InCallC s s.heap.objs.size (bindL (Zw qual scope s.heap.objs.size f cd).kindOf (ps.zip us) λ_=>none) (YZ (s.heap.objs.size+1) scope.names []) (bindC (Zw qual scope s.heap.objs.size f cd).kindOf (ps.zip us) λ_=>none) s1):
 af (iI CX P w K mg base N qual scope f cd A outer s H E) [] (start N vs) H s1:=by
 have hpl:ps.length<=N.length:=by have:=congrArg WG S.pre;rw [Sg] at this;omega
 obtain⟨h1,tk,rfl,hk⟩:=x.done;have noA:∀b:Yu,b ∉ (iI CX P w K mg base N qual scope f cd A outer s H E).ex:=λb z=>absurd (show b∈([]:List Yu) from z) Yr;refine⟨⟨e0.mod,S.kind,rfl,rfl,Rf _,λy z c h1 h2=>?_,λy hy=>?_,λy c _ h=>?_,λ_=>hd,Around.frames_deeper e0.frames,.inr ⟨rfl,rfl⟩,λb z=>absurd z (noA b),e0.bs,e0.bsz,λb _ _=>noA b,λb z=>absurd z (noA b),e0.funs,e0.frf⟩,
  rfl,e0.bare,Un.kept hk,⟨_,x.toInCall.ns,λi y v h1 h2 h3=>?_⟩,λy c h=>⟨_,x.cell y c h⟩,e0.hok.fresh (Rf _),λy c h=>?_,λp hp=>absurd (show p∈([]:List (Yu×Obj)) from hp) Yr,e0.hok.kept hk,?_⟩
 ·exact name_of_addr x.apart (Tw h1) (Tw h2)
 ·have hy:scope.names.lookup y=some .cell\/scope.names.lookup y=some .free:=hy;rcases hy with hy | hy
  ·exact B6 hy
  ·exact absurd rfl (S.nofree _ (Tw hy))
 ·exact Uh (x.above y c (Tw h))
 ·have hi:i < vs.length:=by
   unfold start at h2;by_cases hi:i < vs.length
   ·exact hi
   ·rw [Ta (by simpa using hi)] at h2;rw [Tu] at h2;split at h2 <;> cases h2
  have ha:vs[i]?=some v:=by
   unfold start at h2;rw [Sq (by simpa using hi),Rt] at h2;cases e:vs[i]? with
   | none=>rw [e] at h2;cases h2
   | some a=>rw [e] at h2;cases h2;rfl
  obtain⟨u,hu,rv⟩:=r.get ha;have hp:ps[i]?=some y:=by
   rw [<-S.pre,List.getElem?_take_of_lt Yn];exact h1
  have ndP:ps.Nodup:=by rw [<-S.pre];exact S.nd.sublist (List.take_sublist _ _)
  refine⟨u,rv,?_⟩;rcases S.par y (RN hp) with k | k
  ·exact .inl ⟨k,B4 ndP hp hu k⟩
  ·obtain⟨c,e⟩:=B6 (n:=s.heap.objs.size+1) k;refine .inr ⟨.inl k,c,e,?_⟩;have q:=x.cell y c e;rw [B5 ndP hp hu (by show scope.names.lookup y≠_;rw [k];decide)] at q;exact q
 ·exact e0.hok.fresh (Uh (x.above y c (Tw h)))
 ·unfold start;show _=N.length;rw [Rv,Q8,VJ];omega
theorem I0{CX:fA}{P:YE}{w:YF}{K:Q7}{mg:Str->Option Yt}{base:YG}{k:Nat}{f:Yu}{name qual:Str}{params:Arguments}{body:List YH}{scope:Y4}{dV kV doc pm cdv ct oc:Yt}{an od:Option Yu}
 {osl:Array (Option Yt)}{N ps:List Str}{sp:Sp}(lk:K.lookup f=some ⟨oc,od,.func (Th name qual params body scope dV kV doc pm an cdv ct),osl⟩)(hcd:Vt K cdv qual=true)(S:aN N ps scope)
 (len:∀vs H Q E,sp vs H Q E->vs.length=ps.length)
 (hbody:∀(A:YJ) (outer:List Env) (s:Yw) (H:Hp) (vs:List V) (Q:VK) (E:XK),aY k (A.deeper (Zw qual scope s.heap.objs.size f cdv))->sp vs H Q E->
   ∃t,bP (iI CX P w K mg base N qual scope f cdv A outer s H E) body t/\t {nx:=λ_ H'=>Q .non H',rt:=Q} (start N vs) H):
 aB P w K mg base CX (k+1) f (Th name qual params body scope dV kV doc pm an cdv ct) ps sp:=by
 refine⟨len,λA outer s H args us vs Q E hr e0 hb r hsp=>?_⟩;have hl:=len _ _ _ _ hsp;have KX:K.In s.heap:=e0.mod.kin.keeps λb o e=>(e0.bs b o e).1;have lim:s.heap.NoLimit:=e0.mod.nolimit.keeps λb o e=>(e0.bs b o e).1;have hkind:∀y∈ps.zip us,scope.names.lookup y.1=some .local\/(scope.names.lookup y.1=some .cell/\((YZ (s.heap.objs.size+1) scope.names []).lookup y.1).isSome=true):=λuu49 hy=>by
  obtain⟨n,v⟩:=uu49;rcases S.par n (WD hy).1 with q | q
  ·exact .inl q
  ·exact .inr ⟨q,VA _ _ _ (.inl q)⟩
 refine codeAny_call_function hr.depth (KX _ _ lk) rfl S.co S.gen rfl (PySem.W.codeRec_of KX hcd) (hb _ _ _ _ ?_);refine wpAny_newFunctionEnv_cells S.kind hkind λenv he s1 x=>?_;subst he;refine⟨lim.keeps x.toInCall.keep,codeAny_func ?_⟩;obtain⟨t,ht,hq⟩:=hbody A outer s H vs Q E (hr.deeper _) hsp;have I:af (iI CX P w K mg base N qual scope f cdv A outer s H E) [] (start N vs) H s1:=IZ S hr.hd e0 hl r x;refine YR (ht [] s1 (start N vs) H _ I hq) (λfl s' hs=>?_) λe s' hs=>hs;have fin:∀{σ':St}{H':Hp}{v:V}{u:Yt},af (iI CX P w K mg base N qual scope f cdv A outer s H E) [] σ' H' s'->aC v u->Q v H'->CE outer P w H s Q u s':=
  λ{σ' H' v u} J rv q=>⟨v,H',J.os,J.bare,J.base,J.hok,rv,q⟩
 cases fl with
 | ret u=>
  obtain⟨v,σ',H',J,rv,q⟩:=hs;exact fin J rv q
 | next=>
  obtain⟨σ',H',J,q⟩:=hs;exact fin (v:=V.non) (u:=TY) J rfl q
 | brk=>
  obtain⟨_,_,_,q⟩:=hs;exact S8 q
 | cont=>
  obtain⟨_,_,_,q⟩:=hs;exact S8 q
section
variable {X:Cx} {x:Str} {p pos:Pos} {e:YA} {es:List YA} {t:TA} {id T:String} {r:List V->Hp->VK->Prop}
def sQ(r:List V->Hp->VK->Prop)(t:TA):TE:=λσ H Q=>t σ H λvs H1=>r vs H1 Q
theorem eL(hc:eJ X (.builtin id) r)(hg:Gl X x)(hm:X.mg x=none)(hv:YS x=some (.builtin id))(ha:PA X (e::es) t)(hn:x≠"__name__":=by decide)(hdb:(x==("__debug__":Str))=false:=by decide)
 (he:Yz (e::es) X.env=(false,eval e X.env)::Yz es X.env:=by rfl)(hpl:(YM pos (Yz es X.env)).any (·.1)=false:=by rfl):PE X (.Call (.Name x p) (e::es) [] pos) (sQ r t):=by
 intro aaa s σ H Q I h;refine Zm (qD I hg hm hv ?_ hn hdb);exact PyProof.Rows.callWith_builtin1 (aA (ha pos aaa s σ H _ I h) λus s1 uu50=>by obtain⟨vs,H1,I1,r1,q1⟩:=uu50;exact hc aaa s1 σ H1 vs us Q I1 r1 q1) he hpl
theorem dZ(hc:eJ X (.type T) r)(hg:Gl X x)(hm:X.mg x=none)(hv:YS x=some (.type T))(ha:PA X (e::es) t)(hn:x≠"__name__":=by decide)(hdb:(x==("__debug__":Str))=false:=by decide)
 (he:Yz (e::es) X.env=(false,eval e X.env)::Yz es X.env:=by rfl)(hpl:(YM pos (Yz es X.env)).any (·.1)=false:=by rfl):PE X (.Call (.Name x p) (e::es) [] pos) (sQ r t):=by
 intro aaa s σ H Q I h;refine Zm (qD I hg hm hv ?_ hn hdb);exact U8 (aA (ha pos aaa s σ H _ I h) λus s1 uu51=>by obtain⟨vs,H1,I1,r1,q1⟩:=uu51;exact hc aaa s1 σ H1 vs us Q I1 r1 q1) he hpl
end
end L2
namespace HT
open PySem PyProof.Rows
theorem eqAt_int(A:YJ)(s:Yw)(a:Int)(t:Tok)(c:Int)(u:Tok):∃e,XH A s (.int a t) (.int c u) e/\(e=true↔a=c):=
 ⟨(a==c),XH.int_int a t c u,Yr⟩
theorem rcLt_int(A:YJ)(s:Yw)(a:Int)(t:Tok)(c:Int)(u:Tok)(prog:YE)(w:YF)(E:Yt->Yw->Prop)(Q:Yt->Yw->Prop)(h:Q (.bool (decide (a < c))) s):
 Yy (YB prog w) A (richCompare .Lt (.int a t) (.int c u)) Q E s:=
 (PyProof.Rows.lt_int h:Yy (YB prog w) A (YO .Lt (.int a t) (.int c u)) Q E s)
section
open PySem.SeqAt
open PySem.AutoSeq1 (wpAny_loadPart')
open PySem.MeetsSeq PySem.MeetsSeq2 PySem.MeetsSeq3
end
section
variable {prog:YE} {w:YF} {A:YJ} {E:Yt->Yw->Prop} {s:Yw}
def sIx(n d:Nat):Option Int->Nat
 | none=>d
 | some v=>if v < 0 then(v+(n:Int)).toNat else min v.toNat n
theorem sR(n d:Nat):sIx n d none=d:=rfl
theorem sIx_nat(n d k:Nat):sIx n d (some (k:Int))=min k n:=by
 show(if (k:Int) < 0 then((k:Int)+(n:Int)).toNat else min (k:Int).toNat n)=min k n;rw [Yo Yn,T5]
end
end HT
namespace L2
open PySem PySem.Spec PyProof.Rows
abbrev TO:=St->Hp->(Option Int->Hp->Prop)->Prop
def PO(X:Cx)(e:Option YA)(t:TO):Prop:=
 ∀(aaa:List (Yu×Obj))(s:Yw)(σ:St)(H:Hp)(Q:Option Int->Hp->Prop),af X aaa σ H s->t σ H Q->
  Yy (YB X.prog X.w) X.A (evalPart e X.env) (λu s'=>∃o H',af X aaa σ H' s'/\IsPart u o/\Q o H') X.xe s
def Ja:TO:=λ_ H Q=>Q none H
def Jb(t:TE):TO:=λσ H Q=>t σ H λx H1=>∃i,x= .int i/\Q (some i) H1
theorem Jc{ns:List Int}:∀{us:List Yt},aH (ns.map V.int) us->YT us ns:=by
 induction ns with
 | nil=>intro us r;rw [RX] at r;cases r;exact .nil
 | cons n ns ih=>
  intro us r;rw [Rb] at r;cases r with
  | cons r1 r2=>
   obtain⟨t,e⟩:=r1;subst e;exact .cons n t (ih r2)
section
variable {X:Cx} {e:YA} {te:TE} {lo hi:Option YA} {tl th:TO} {pos p2:Pos}
theorem Jd:PO X none Ja:=by
 intro aaa s σ H Q I h;rw [evalPart_none];exact Yx ⟨none,H,I,.none,h⟩
theorem Je(h:PE X e te):PO X (some e) (Jb te):=by
 intro aaa s σ H Q I hw;rw [evalPart_some];refine aA (h aaa s σ H _ I hw) λu s1 ⟨x,H1,I1,r1,q1⟩=>?_;obtain⟨i,rfl,q⟩:=q1;obtain⟨t,rfl⟩:=r1;exact⟨some i,H1,I1,.int i t,q⟩
def vP(X:Cx)(r:V->Option Int->Option Int->Hp->VK->Prop):Prop:=
 ∀(aaa:List (Yu×Obj))(s:Yw)(σ:St)(H:Hp)(x:V)(v vl vu:Yt)(lo hi:Option Int)(sl:Yu)(Q:VK),af X aaa σ H s->aC x v->s.heap.IsSliceOf sl vl vu .none->IsPart vl lo->IsPart vu hi->r x lo hi H Q->
  ∃T id,typeLookup (.type T) "__getitem__"=pure (some (.builtin id))/\s.TypeIs v T/\Yy (YB X.prog X.w) X.A (getItem v (.ref sl)) (EP X aaa σ Q) X.xe s
def Jf(r:V->Option Int->Option Int->Hp->VK->Prop)(te:TE)(tl th:TO):TE:=λσ H Q=>te σ H λx H1=>tl σ H1 λl H2=>th σ H2 λu H3=>r x l u H3 Q
theorem vQ{r:V->Option Int->Option Int->Hp->VK->Prop}(hr:vP X r)(he:PE X e te)(hl:PO X lo tl)(hu:PO X hi th):PE X (.Subscript e (.Slice lo hi none p2) pos) (Jf r te tl th):=by
 intro aaa s σ H Q I h;refine Subscript_ (aA (he aaa s σ H _ I h) λv s1 ⟨x,H1,I1,r1,q1⟩=>?_);refine wpAny_Slice (aA (hl aaa s1 σ H1 _ I1 q1) λvl s2 ⟨l,H2,I2,pl,q2⟩=>aA (hu aaa s2 σ H2 _ I2 q2) λvu s3 ⟨u,H3,I3,pu,q3⟩=>?_);rw [evalPart_none];refine Yx ?_;have I4:af X aaa σ H3 {s3 with heap:=s3.heap.push {cls:= .type "slice",data:= .fields #[vl,vu,.none]}}:=I3.kept (t':=s3.toks) λb ob q=>Rc _ q;obtain⟨T,id,hT,ht,hg⟩:=hr aaa {s3 with heap:=s3.heap.push {cls:= .type "slice",data:= .fields #[vl,vu,.none]}} σ H3 x v vl vu l u s3.heap.objs.size Q I4 r1 (Yl ..) pl pu q3;show Yy (YB X.prog X.w) X.A (subscriptTail e (.Slice lo hi none p2) v (.ref s3.heap.objs.size)) (EP X aaa σ Q) X.xe {s3 with heap:=s3.heap.push {cls:= .type "slice",data:= .fields #[vl,vu,.none]}};exact tail_any (ops:=[.ref s3.heap.objs.size,v]) ht hT hg (by with_unfolding_all rfl)
def pE(xs:List V)(lo hi:Option Int):List V:=(xs.drop (HT.sIx xs.length 0 lo)).take (HT.sIx xs.length xs.length hi - HT.sIx xs.length 0 lo)
theorem Jg(xs:List V)(lo hi:Option Int):(pE xs lo hi).length<=xs.length:=by
 unfold pE;rw [Sg,Va];omega
end
def jg(n:Nat)(i:Int):Option Nat:=if 0<=i then(if i < n then some i.toNat else none) else if -(n:Int)<=i then some (i+n).toNat else none
def atI{α:Type}(xs:List α)(i:Int):Option α:=(jg xs.length i).bind λj=>xs[j]?
theorem Jh{n:Nat}{i:Int}{j:Nat}(h:jg n i=some j):seqIndex? i n=some j/\j < n/\-(n:Int)<=i/\i < n:=by
 unfold jg at h;by_cases h0:0<=i
 ·rw [Yp h0] at h;by_cases h1:i < n
  ·rw [Yp h1] at h;have e:i.toNat=j:=Sk h;exact⟨by rw [seqIndex_of h0 h1,e],Yn,Yn,h1⟩
  ·rw [Yo h1] at h;cases h
 ·rw [Yo h0] at h;by_cases h1:-(n:Int)<=i
  ·rw [Yp h1] at h;have e:(i+n).toNat=j:=Sk h;exact⟨by rw [seqIndex_neg Yn h1,e],Yn,h1,Yn⟩
  ·rw [Yo h1] at h;cases h
theorem vR{α:Type}{xs:List α}{i:Int}{v:α}(h:atI xs i=some v):∃j,seqIndex? i xs.length=some j/\xs[j]?=some v/\j < xs.length/\-(xs.length:Int)<=i/\i < xs.length:=by
 unfold atI at h;cases e:jg xs.length i with
 | none=>rw [e] at h;cases h
 | some j=>
  rw [e] at h;obtain⟨h1,h2,h3,h4⟩:=Jh e;exact⟨j,h1,h,h2,h3,h4⟩
theorem iJ{α:Type}{xs:List α}{j:Nat}{v:α}(h:xs[j]?=some v):atI xs (j:Int)=some v:=by
 have hj:j < xs.length:=(Rm.mp h).1;have e:jg xs.length (j:Int)=some j:=by
  unfold jg;rw [Yp Yn,Yp Yn];simp
 unfold atI;rw [e];exact h
theorem B7{α:Type}(xs:List α)(v:α):atI (xs++[v]) (-1)=some v:=by
 have hl:(xs++[v]).length=xs.length+1:=Yr
 have e:jg (xs++[v]).length (-1)=some xs.length:=by
  unfold jg;rw [hl,Yo Ym,Yp Yn];congr 1;omega
 unfold atI;rw [e];show(xs++[v])[xs.length]?=some v;simp
def Ji(b:YA):Prop:=∀o i,Z0 b false o i=operate [o,i] (getItem o i)
def qM(X:Cx)(r:R2):Prop:=
 ∀(value slice:YA)(aaa:List (Yu×Obj))(s:Yw)(σ:St)(H:Hp)(x y:V)(v u:Yt)(Q:VK),af X aaa σ H s->aC x v->aC y u->r x y H Q->
  Z0 slice false v u=operate [v,u] (getItem v u)->Yy (YB X.prog X.w) X.A (subscriptTail value slice v u) (EP X aaa σ Q) X.xe s
def B8(X:Cx)(id:String)(r:V->List V->Hp->VK->Prop):Prop:=
 ∀(aaa:List (Yu×Obj))(s:Yw)(σ:St)(H:Hp)(x:V)(xs:List V)(v:Yt)(us:List Yt)(Q:VK),af X aaa σ H s->aC x v->aH xs us->r x xs H Q->
  Yy (YB X.prog X.w) X.A (call (.builtin id) (v::us)) (EP X aaa σ Q) X.xe s
section
variable {X:Cx} {a b:YA} {ta tb:TE} {pos:Pos}
theorem jT{r:R2}(hr:qM X r)(ha:PE X a ta)(hb:PE X b tb)(hs:Ji b):PE X (.Subscript a b pos) (pB r ta tb):=by
 intro aaa s σ H Q I h;exact Subscript_ (vK ha hb I h λv u s2 x y H2 I2 rx ry q=>hr a b aaa s2 σ H2 x y v u Q I2 rx ry q (hs _ _))
def vS(K:Q7):R2:=λx y H Q=>∃p xs i v,x= .ref p/\y= .int i/\bq K H p xs/\atI xs i=some v/\Q v H
def sS(K:Q7):R2:=λx y H Q=>∃p xs i v,x= .ref p/\y= .int i/\bw K H p xs/\atI xs i=some v/\Q v H
def B9:R2:=λx y H Q=>∃z i c,x= .str z/\y= .int i/\z.length<=YC/\atI z.cps.toList i=some c/\Q (.str ⟨#[c]⟩) H
theorem aS:qM X (vS X.K):=by
 intro value slice aaa s σ H x y v u Q I rx ry h hs;obtain⟨p,xs,i,z,rfl,rfl,hq,he,q⟩:=h;cases rx;obtain⟨t,rfl⟩:=ry;obtain⟨its,r,pl,hz⟩:=I.list hq;obtain⟨j,h1,h2,h3,h4,h5⟩:=vR he;obtain⟨w,ew,rw'⟩:=r.get h2;have hl:=r.length;have hn:=pC;have fin:EP X aaa σ Q w s:=⟨z,H,I,rw',q⟩;by_cases h0:0<=i
 ·have hj:i.toNat=j:=by
   rw [seqIndex_of h0 h5] at h1;exact Sk h1
  exact item_listR pl.isList h0 Yn (by rw [hj];simpa using ew) fin hs
 ·have hj:(i+(its.toArray.size:Int)).toNat=j:=by
   rw [seqIndex_neg Yn h4] at h1;rw [RE,<-hl];exact Sk h1
  exact subscriptTail_builtinR (x:=w) pl.isList.typeIs slot_list_getitem.lookup
   (wpAny_getItem_list_neg (Q:=λr s'=>r=w/\EP X aaa σ Q r s') pl.isList Yn (by rw [RE] <;> omega) Yn (by rw [hj];simpa using ew) ⟨rfl,fin⟩) hs
theorem aF:qM X (sS X.K):=by
 intro value slice aaa s σ H x y v u Q I rx ry h hs;obtain⟨p,xs,i,z,rfl,rfl,hq,he,q⟩:=h;cases rx;obtain⟨t,rfl⟩:=ry;obtain⟨its,r,pl,hz⟩:=I.tuple hq;obtain⟨j,h1,h2,h3,h4,h5⟩:=vR he;obtain⟨w,ew,rw'⟩:=r.get h2;have hl:=r.length;have hn:=pC;have fin:EP X aaa σ Q w s:=⟨z,H,I,rw',q⟩;exact subscriptTail_builtinR (x:=w) pl.typeIs slot_tuple_getitem.lookup
  (getItem_tuple (j:=j) (Q:=λr s'=>r=w/\EP X aaa σ Q r s') pl Yn Yn (by rw [RE,<-hl];exact h1) (by simpa using ew) ⟨rfl,fin⟩) hs
theorem vT:qM X B9:=by
 intro value slice aaa s σ H x y v u Q I rx ry h hs;obtain⟨z,i,c,rfl,rfl,hz,he,q⟩:=h;obtain⟨t,rfl⟩:=rx;obtain⟨t',rfl⟩:=ry;obtain⟨j,h1,h2,h3,h4,h5⟩:=vR he;have hl:z.cps.toList.length=z.length:=by simp [Str.length]
 rw [hl] at h1 h4 h5;have hn:=pC;exact tail_any (ZG s z t) slot_str_getitem.lookup (getItem_str (c:=c) (by
  have e1:decide (i < -(2 ^ 63:Int))=false:=decide_eq_false Yn;have e2:decide (i >= 2 ^ 63)=false:=decide_eq_false Yn;rw [e1,e2,TH]) (by rw [h1];simpa using h2) ⟨.str ⟨#[c]⟩,H,I.tok _,⟨_,rfl⟩,q⟩) hs
theorem Jj(lo hi:Option Int)(n:Nat):(Zz lo hi none n).1=((HT.sIx n 0 lo:Nat):Int)/\(Zz lo hi none n).2.1=((HT.sIx n n hi:Nat):Int)/\(Zz lo hi none n).2.2=1:=by
 refine⟨?_,?_,rfl⟩
 ·cases lo with
  | none=>simp [Zz,HT.sIx]
  | some i=>
   simp only [Zz,HT.sIx,Wo,show(1:Int) > 0 by decide,if_true];by_cases h:i < 0
   ·simp only [h,if_true] <;> omega
   ·simp only [h,if_false] <;> omega
 ·cases hi with
  | none=>simp [Zz,HT.sIx]
  | some i=>
   simp only [Zz,HT.sIx,Wo,show(1:Int) > 0 by decide,if_true];by_cases h:i < 0
   ·simp only [h,if_true] <;> omega
   ·simp only [h,if_false] <;> omega
theorem Jk(its:List Yt)(lo hi:Option Int):slicePick its.toArray lo hi none=((its.drop (HT.sIx its.length 0 lo)).take (HT.sIx its.length its.length hi - HT.sIx its.length 0 lo)).toArray:=by
 obtain⟨h1,h2,h3⟩:=Jj lo hi its.toArray.size;unfold slicePick;rw [h1,h2,h3];simp only [sliceRange_one,pick_run,RE] <;> rfl
def Jl(K:Q7):V->Option Int->Option Int->Hp->VK->Prop:=λx lo hi H Q=>∃a xs,x= .ref a/\bq K H a xs/\∀p,H p=none->Q (.ref p) (ai H p (.lst (pE xs lo hi)))
theorem Ca:vP X (Jl X.K):=by
 intro aaa s σ H x v vl vu lo hi sl Q I rx hs pl pu h;obtain⟨a,xs,rfl,hx,q⟩:=h;cases rx;obtain⟨its,r,ht,hz⟩:=I.list hx;have hlen:=r.length;refine⟨"list",_,slot_list_getitem.lookup,ht.isList.typeIs,?_⟩;refine wpAny_getItem_list_slice ht.isList hs pl pu .none Yr ?_ (by rw [RE] <;> omega);rw [Jk,<-hlen];refine⟨.ref s.heap.objs.size,_,I.laid (t':=s.toks) (o:= .lst (pE xs lo hi)) (λb ob q=>Rc _ q) (Rf _) ?_,rfl,q _ (I.hok.fresh (Rf _))⟩;exact⟨RS (Jg xs lo hi) hz,_,0,(r.drop (HT.sIx xs.length 0 lo)).take (HT.sIx xs.length xs.length hi - HT.sIx xs.length 0 lo),RJ _ rfl⟩
theorem sT:eJ X (.builtin "len") (λxs H Q=>∃p ys,xs=[.ref p]/\(bq X.K H p ys\/bw X.K H p ys)/\Q (.int ys.length) H):=by
 intro aaa s σ H xs us Q I r h;obtain⟨p,ys,rfl,hq,q⟩:=h;obtain⟨u,rfl,rx⟩:=fb r;cases rx;have hn:=pC;rcases hq with hq | hq
 ·obtain⟨its,r',pl,hz⟩:=I.list hq;have hlen:=r'.length;exact Calls.call_len_list pl.isList (by simp only [RE] <;> omega) ⟨.int ys.length,H,I.tok _,⟨s.toks+1,by rw [RE,hlen]⟩,q⟩
 ·obtain⟨its,r',pl,hz⟩:=I.tuple hq;have hlen:=r'.length;exact len_tuple pl (by simp only [RE] <;> omega) ⟨.int ys.length,H,I.tok _,⟨s.toks+1,by rw [RE,hlen]⟩,q⟩
theorem Cb:eJ X (.builtin "len") (λxs H Q=>∃z,xs=[.str z]/\z.length<=YC/\Q (.int z.length) H):=by
 intro aaa s σ H xs us Q I r h;obtain⟨z,rfl,hz,q⟩:=h;obtain⟨u,rfl,t,rfl⟩:=fb r;have hn:=pC;exact len_str Yn ⟨.int z.length,H,I.tok _,⟨_,rfl⟩,q⟩
theorem Jm:eJ X (.type "list") (λxs H Q=>∃p ys,xs=[.ref p]/\(bq X.K H p ys\/bw X.K H p ys)/\∀l,H l=none->Q (.ref l) (ai H l (.lst ys))):=by
 intro aaa s σ H xs us Q I r h;obtain⟨p,ys,rfl,hq,q⟩:=h;obtain⟨u,rfl,rx⟩:=fb r;cases rx;have fin:∀(its:List Yt),aH ys its->ys.length<=YC->∀(h':YG)(c':Nat),(∀b o',s.heap.get? b=some o'->h'.get? b=some o')->
  h'.get? s.heap.objs.size=some {cls:= .type "list",dict:=none,data:= .seq its.toArray c',slots:=#[]}->EP X aaa σ Q (.ref s.heap.objs.size) {s with heap:=h'}:=λits r' hz h' c' kp e=>
  ⟨.ref s.heap.objs.size,_,I.laid (t':=s.toks) kp (Rf _) (show cm X.prog X.w _ h' _ (.lst ys) from⟨hz,its,c',r',e⟩),rfl,q _ (I.hok.fresh (Rf _))⟩
 rcases hq with hq | hq
 ·obtain⟨its,r',pl,hz⟩:=I.list hq;have hlen:=r'.length;obtain⟨o,ho,hc,n,hd⟩:=pl.isList;exact call_list_seq p (.inl rfl) ho hc hd (λh' c' kp e=>fin its r' hz h' c' kp e) (by simp only [RE] <;> omega)
 ·obtain⟨its,r',pl,hz⟩:=I.tuple hq;have hlen:=r'.length;obtain⟨o,ho,hc,n,hd⟩:=pl;exact call_list_seq p (.inr rfl) ho hc hd (λh' c' kp e=>fin its r' hz h' c' kp e) (by simp only [RE] <;> omega)
theorem gS:eJ X (.type "tuple") (λxs H Q=>∃p ys,xs=[.ref p]/\((bq X.K H p ys/\∀l,H l=none->Q (.ref l) (ai H l (.tup ys)))\/(bw X.K H p ys/\Q (.ref p) H))):=by
 intro aaa s σ H xs us Q I r h;obtain⟨p,ys,rfl,h⟩:=h;obtain⟨u,rfl,rx⟩:=fb r;cases rx;rcases h with⟨hq,q⟩ | ⟨hq,q⟩
 ·obtain⟨its,r',pl,hz⟩:=I.list hq;have hlen:=r'.length;refine call_tuple_list pl.isList (λh' kp=>?_) (by simp only [RE] <;> omega);have I1:af X aaa σ H {s with heap:=h'}:=I.kept (t':=s.toks) kp;have I2:af X aaa σ (ai H h'.objs.size (.tup ys)) {s with heap:=h'.push {cls:= .type "tuple",data:= .seq its.toArray}}:=
   I1.laid (t':=s.toks) (λb o e=>Rc _ e) (Rf _) (show cm X.prog X.w _ _ _ (.tup ys) from⟨hz,its,r',XY _ _⟩)
  exact⟨.ref h'.objs.size,_,I2,rfl,q _ (I1.hok.fresh (Rf _))⟩
 ·obtain⟨its,r',pl,hz⟩:=I.tuple hq;exact call_tuple_same pl ⟨.ref p,H,I,rfl,q⟩
def Cc(K:Q7)(T:String)(x:V)(H:Hp):Prop:=match x with
 | .str _=>T="str"
 | .int _=>T="int"
 | .ref p=>(T="list"/\∃xs,bq K H p xs)\/(T="tuple"/\∃o,K.lookup p=some o/\o.cls= .type "tuple"/\o.dict=none)\/
  (T="dict"/\((∃kvs,H p=some (.dK kvs))\/∃kvs,H p=some (.dT kvs)))\/(T="set"/\∃S n,H p=some (.set S n))
 | _=>False
theorem Jn{aaa:List (Yu×Obj)}{σ:St}{H:Hp}{s:Yw}{T:String}{x:V}{v:Yt}(I:af X aaa σ H s)(r:aC x v)(ty:Cc X.K T x H):
 s.TypeIs v T/\∀a,v= .ref a->∃ob,s.heap.get? a=some ob/\ob.dict=none:=by
 cases x with
 | str z=>
  obtain⟨t,rfl⟩:=r;cases (show T="str" from ty);exact⟨ZG s z t,λ_ e=>nomatch e⟩
 | int i=>
  obtain⟨t,rfl⟩:=r;cases (show T="int" from ty);exact⟨typeIs_int s i t,λ_ e=>nomatch e⟩
 | ref p=>
  cases r;rcases ty with⟨rfl,xs,hq⟩ | ⟨rfl,o,hk,hc,hd⟩ | ⟨rfl,hk⟩ | ⟨rfl,S,n,hk⟩
  ·obtain⟨its,_,pl,_⟩:=I.list hq;refine⟨pl.isList.typeIs,λa e=>?_⟩;cases e;obtain⟨o,n,e,c,hd,_⟩:=pl;exact⟨o,e,hd⟩
  ·refine⟨⟨o,I.kIn p o hk,hc⟩,λa e=>?_⟩;cases e;exact⟨o,I.kIn _ o hk,hd⟩
  ·have z:∃o,s.heap.get? p=some o/\o.ExactDict:=by
    rcases hk with⟨kvs,hk⟩ | ⟨kvs,hk⟩
    ·obtain⟨_,_,_,_,o,_,_,e,ex,_⟩:=I.hok p _ hk;exact⟨o,e,ex⟩
    ·obtain⟨_,_,_,_,o,_,_,e,ex,_⟩:=I.hok p _ hk;exact⟨o,e,ex⟩
   obtain⟨o,e,ex⟩:=z;refine⟨⟨o,e,ex.1⟩,λa e2=>?_⟩;cases e2;exact⟨o,e,ex.2.1⟩
  ·obtain⟨o,_,_,_,e,ex,_⟩:=I.hok p _ hk;refine⟨⟨o,e,ex.1⟩,λa e2=>?_⟩;cases e2;exact⟨o,e,ex.2.1⟩
 | _=>exact S8 ty
def Jo(K:Q7)(T:String)(r:V->List V->Hp->VK->Prop)(to:TE)(t:TA):TE:=λσ H Q=>to σ H λx H1=>Cc K T x H1/\t σ H1 λxs H2=>r x xs H2 Q
variable {o e:YA} {es:List YA} {to:TE} {t:TA} {name:Str} {apos cpos:Pos} {T id:String} {r:V->List V->Hp->VK->Prop}
theorem sU(pa:PlainAttrs T)(slot:Slot T name id)(hty:typeOf (.builtin id)=pure (.type "method_descriptor"))(hm:B8 X id r)(ho:PE X o to)(ha:PA X (e::es) t)
 (hbase:YX o name X.env (eval o X.env)=eval o X.env:=by rfl)
 (hfew:((YM cpos (Yz (e::es) X.env)).all (λx=>!x.1) && (Zd cpos (Y1 [] X.env)).all (λx=>x.1.isSome)
   && decide ((e::es).length+([]:List Zc).length+(if ([]:List Zc).isEmpty then 0 else 1) < 30))=true:=by rfl)
 (hline:(apos.endLine==cpos.line)=true:=by rfl)(hs:Yz (e::es) X.env=(false,eval e X.env)::Yz es X.env:=by rfl)(hplain:(YM cpos (Yz es X.env)).any (·.1)=false:=by rfl):
 PE X (.Call (.Attribute o name apos) (e::es) [] cpos) (Jo X.K T r to t):=by
 intro aaa s σ H Q I h;refine wpAny_Call_method_late hbase hfew hline rfl (aA (ho aaa s σ H _ I h) λv s1 ⟨x,H1,I1,r1,ty,q1⟩=>?_);obtain⟨h1,h2⟩:=Jn I1 r1 ty;refine⟨T,id,pa,slot,hty,h1,h2,?_⟩;have hA:=ha cpos aaa s1 σ H1 _ I1 q1;rw [hs] at hA⊢;refine VB (by show(false || (YM cpos (Yz es X.env)).any (·.1))=false;rw [hplain] <;> rfl) (VP ?_);exact aA hA λus s2 uu57=>by obtain⟨vs,H2,I2,r2,q2⟩:=uu57;exact hm aaa s2 σ H2 x vs v us Q I2 r1 r2 q2
end
def vU(X:Cx)(id:String)(r:V->List V->Hp->VK->Prop):Prop:=
 ∀(aaa:List (Yu×Obj))(s:Yw)(σ:St)(H:Hp)(x:V)(xs:List V)(v:Yt)(us:List Yt)(Q:VK),af X aaa σ H s->aC x v->aH xs us->r x xs H Q->
  Yy (YB X.prog X.w) X.A (call (.builtin id) (v::us)) (EP X aaa σ Q) X.xe s
theorem aH.one:∀{x:V}{us:List Yt},aH [x] us->∃u,us=[u]/\aC x u
 | _,_,.cons r .nil=>⟨_,rfl,r⟩
section
variable {X:Cx} {aaa:List (Yu×Obj)} {σ:St} {H:Hp} {s:Yw} {l b:Yu} {xs ys zs:List V}
theorem af.lset{its its':List Yt}{n:Nat}{f:Array Yt->Array Yt}{t':Nat}(I:af X aaa σ H s)(hH:H l=some (.lst xs))
 (e:s.heap.get? l=some {cls:= .type "list",data:= .seq its.toArray n})(hf:f its.toArray=its'.toArray)(hv:aH ys its')(hz:ys.length<=YC):
 af X aaa σ (ai H l (.lst ys)) {s with heap:=s.heap.update l (SF f),toks:=t'}:=by
 have q:=PySem.IsL.update e f;rw [hf] at q;refine I.write (x:=l) (e:=l) (by rw [hH];exact trivial) (.inl rfl) (λb' u hb hu=>(Ue s.heap (SF f) (Ne.symm hb)).trans hu) ⟨_,q⟩ ?_;exact⟨hz,its',_,hv,q⟩
theorem af.lnew{its:List Yt}{t':Nat}(I:af X aaa σ H s)(hv:aH ys its)(hz:ys.length<=YC):
 af X aaa σ (ai H s.heap.objs.size (.lst ys)) {s with heap:=s.heap.push {cls:= .type "list",data:= .seq its.toArray},toks:=t'}:=
 I.laid (λ_ _ q=>Rc _ q) (Rf _) ⟨hz,its,0,hv,RJ _ rfl⟩
theorem af.fresh(I:af X aaa σ H s):H s.heap.objs.size=none:=I.hok.fresh (Rf _)
theorem af.lstM(I:af X aaa σ H s)(hH:H l=some (.lst xs)):xs.length<=YC/\∃(its:List Yt)(n:Nat),aH xs its/\xs.length=its.length/\s.heap.get? l=some {cls:= .type "list",data:= .seq its.toArray n}:=by
 obtain⟨z,its,n,r,e⟩:=I.hok l _ hH;exact⟨z,its,n,r,r.length,e⟩
theorem Cd{n:Nat}(h:n<=YC):Uz n=false:=by
 unfold Uz;exact decide_eq_false Yn
end
section
variable {X:Cx}
def Jp:V->List V->Hp->VK->Prop:=λx vs H Q=>∃l xs y,x= .ref l/\vs=[y]/\H l=some (.lst xs)/\xs.length < YC/\Q .non (ai H l (.lst (xs++[y])))
theorem Ce:vU X "list.append" Jp:=by
 intro aaa s σ H x vs v us Q I rx rv h;obtain⟨l,xs,y,rfl,rfl,hH,hz,q⟩:=h;cases rx;obtain⟨u,rfl,ru⟩:=rv.one;obtain⟨z,its,n,r,hl,e⟩:=I.lstM hH;refine Zt F.slot_list_append ⟨_,e,rfl⟩ F.entry_list_append (F.args_list_append_2 _ _) (PySem.list_append l its.toArray n u (by rw [RE];omega)) ⟨e,?_⟩;refine⟨.non,_,I.lset (its':=its++[u]) hH e Yr (r.append (.cons ru .nil)) ?_,rfl,q⟩;rw [Rv,U1];omega
def Jq:V->List V->Hp->VK->Prop:=λx vs H Q=>∃l b xs zs,x= .ref l/\vs=[.ref b]/\H l=some (.lst xs)/\H b=some (.lst zs)/\xs.length+zs.length<=YC/\Q .non (ai H l (.lst (xs++zs)))
theorem Jr:vU X "list.extend" Jq:=by
 intro aaa s σ H x vs v us Q I rx rv h;obtain⟨l,b,xs,zs,rfl,rfl,hH,hB,hz,q⟩:=h;cases rx;obtain⟨u,rfl,ru⟩:=rv.one;cases ru;obtain⟨z,its,n,r,hl,e⟩:=I.lstM hH;obtain⟨z2,its2,n2,r2,hl2,e2⟩:=I.lstM hB;have hsz:its.toArray.size+its2.toArray.size<=YC:=by rw [RE,RE];omega
 have hlong:¬(!its.toArray.isEmpty && Uz (its.toArray.size+its2.toArray.size))=true:=by
  rw [Cd hsz,XU];exact Rl
 refine Zt F.slot_list_extend ⟨_,e,rfl⟩ F.entry_list_extend (F.args_list_extend_2 _ _)
  (VI l its.toArray n b its2.toArray n2 hlong (by rw [RE];omega) Yn) ⟨e,e2,?_⟩
 refine⟨.non,_,I.lset (its':=its++its2) hH e Yr (r.append r2) ?_,rfl,q⟩;rw [Rv];omega
end
end L2
namespace Att
open PySem PySem.W PySem.Calls PyProof.Rows
theorem Js{P:Params}{h:YG}:∀(ns:List Int)(vs:List Yt),WellAll P h vs (ns.map UN)->YT vs ns:=by
 intro ns
 induction ns with
 | nil=>
  intro vs w;rw [RX] at w;cases w;exact .nil
 | cons n ns ih=>
  intro vs w;rw [Rb] at w;cases w with
  | cons a b=>
   cases a;exact .cons _ _ (ih _ b)
theorem Jt{l:OpenLaw}{n:Nat}(hn:l.most=some n){P:Params}{h:YG}{args:List WData}{vals:List Yt}
 (hpre:l.row.toRowW.claim.pre args=true)(hwl:WellAll P h vals args):
 ∃a vs ns,vals=[RW a]/\args=[Wj (ns.map UN)]/\h.get? a=some {cls:= .type "list",data:= .seq vs.toArray}/\YT vs ns/\ns.length<=n:=by
 have hsh:WShape.hasAll [] args [.list .int]=true:=(pre_splitW hpre).1;have hc:l.pre.holds [] {args:=args}=true:=(pre_splitW hpre).2;obtain⟨d,r,rfl,h1,h2⟩:=hasAllW_cons hsh;obtain rfl:=hasAllW_nil h2;obtain⟨xs,rfl,h3⟩:=hasW_list h1;obtain⟨ns,rfl⟩:=items_int h3;have hlen:ns.length<=n:=by
  unfold OpenLaw.pre at hc;have h4:(WTm.not (.lt (.lit (.int (n:Int))) (.len (.arg 0)))).holds [] {args:=[.list (ns.map .int)]}=true:=by
   have h4:=(holds_andW hc).1;rw [hn] at h4;exact h4
  have h5:=condW_of h4 (w_not (w_lt w_lit (w_len_list (w_arg rfl))));rw [Q8] at h5;refine TK λq=>?_;have q':(n:Int) < ((ns.length:Nat):Int):=Yn
  first
   | (rw [decide_eq_true q'] at h5;exact absurd h5 Ym)
   | (simp at h5;omega)
 cases hwl with
 | cons w1 w2=>
  cases w2;cases w1 with
  | list ho hall=>exact⟨_,_,ns,rfl,rfl,ho,Js ns _ hall,hlen⟩
theorem Ju(l:OpenLaw)(args:List WData):l.row.toRowW.claim.post args (.bool true) args=true:=
 postW_of (r:=l.row.toRowW) (X:=(true==true))
  (show WShape.has [] (.bool true) .bool=true by first | rfl | decide | simp [WShape.has,WShape.arms,WShape.armsAll])
  (show(WTm.eq .res (.lit (.bool true))).value [] {args:=args,res:=some (.bool true),after:=args}=some (.bool (true==true)) from w_eq_bool (w_res rfl) w_lit) rfl
end Att
namespace L2
open PySem PySem.Spec PyProof.Rows
theorem Cf:∀{vs:List Yt}{ns:List Int},YT vs ns->aH (ns.map V.int) vs
 | _,_,.nil=>.nil
 | _,_,.cons n t h=>.cons ⟨t,rfl⟩ (Cf h)
def sV(H:Hp):Prop:=∀b,H b=none\/∃o xs,H b=some (.frz o (.lst xs))
theorem Jv{P:YE}{w:YF}{K:Q7}{mg mb:Str->Option Yt}{CX:fA}{k:Nat}{fa a:Yu}{fd:YD}{x:Str}{sp:Sp}{s₁:Yw}{vs:List Yt}{ns:List Int}
 (KX:K.In s₁.heap)(hns:s₁.heap.Ns YI mg)(hb:s₁.heap.Ns builtinsNs mb)(hbb:∀x:Str,x≠"__name__"->mb x=YS x)(hlim:s₁.heap.NoLimit)(hg:s₁.gens=#[])
 (ha:s₁.heap.get? a=some {cls:= .type "list",data:= .seq vs.toArray})(hi:YT vs ns)(hl:ns.length<=YC)(hr:aY k callerA)
 (F:∀base:YG,K.In base->base.Ns YI mg->aB P w K mg base CX k fa fd [x] sp)(hbind:∀(s:Yw) (u:Yt),BindsTo s fd ⟨[u],[]⟩ [(x,u)])
 (hsp:∀H:Hp,sV H->bq K H a (ns.map V.int)->sp [.ref a] H (λv _=>v= .bl true) λ_ _ _=>False)
 (hCX:∀H e s',CX [] H s₁ (λ_ _ _=>False) e s'->False):
 Zf (YB P w) callerA (.call (.ref fa) ⟨[.ref a],[]⟩) (λr s'=>r= .ok (.ret (.bool true))/\OldK s₁.heap s'.heap/\s'.os=s₁.os/\ZN s'.gens) s₁:=by
 have rv:=Cf hi;have lenV:=hi.length;have core:∀H:Hp,sV H->bq K H a (ns.map V.int)->bJ P w H s₁.heap->(∀b,H b≠none->b=a)->(H a≠none->K.lookup a=none)->
  Zf (YB P w) callerA (.call (.ref fa) ⟨[.ref a],[]⟩) (λr s'=>r= .ok (.ret (.bool true))/\OldK s₁.heap s'.heap/\s'.os=s₁.os/\ZN s'.gens) s₁:=by
  intro H hO hS hok hA hK;have base_of:∀{b:Yu}{o:Obj},s₁.heap.get? b=some o->H b=none->(jP s₁.heap H).get? b=some o:=λe n=>HW e n;have noA:∀{b:Yu}{o:Obj}{es:Array Z2}{ep:Nat},s₁.heap.get? b=some o->o.data= .dict es ep->H b=none:=λ{b o es ep} e d=>by
   cases q:H b with
   | none=>rfl
   | some u=>
    have e':b=a:=hA b (by rw [q];simp);subst e';rw [ha] at e;cases e;have d':Data.seq vs.toArray _=Data.dict es ep:=d;cases d'
  have nsK:∀{b:Yu}{m:Str->Option Yt},s₁.heap.Ns b m->(jP s₁.heap H).Ns b m:=λ{b m} ⟨o,es,ep,e,d,r⟩=>⟨o,es,ep,base_of e (noA e d),d,r⟩;have hKb:K.In (jP s₁.heap H):=λb o e=>base_of (KX b o e) (by
   cases q:H b with
   | none=>rfl
   | some u=>
    have e':b=a:=hA b (by rw [q];simp);subst e';rw [hK (by rw [q];simp)] at e;cases e)
  have hM:Mod K mg (jP s₁.heap H):=⟨hKb,nsK hns,⟨mb,nsK hb,hbb⟩,let ⟨mc,h1,h2⟩:=hlim;⟨mc,nsK h1,h2⟩⟩;have e0:jf P w K mg (jP s₁.heap H) callerA [] s₁ H:=⟨rfl,hM,λb o e=>HX e,X8 (HV _ _),trivial,λb hb=>absurd (show b∈([]:List Yu) from hb) Yr,hok,.of_eq hg⟩;refine Zg ((F _ hKb (nsK hns)).run callerA [] s₁ H ⟨[.ref a],[]⟩ [.ref a] [.ref a] _ _ hr e0 (hbind s₁ (.ref a)) (.cons rfl .nil) (hsp H hO hS)) λr s' h=>?_;cases r with
  | error e=>exact(hCX H e s' h).elim
  | ok fl=>
   cases fl with
   | next=>exact S8 h
   | brk=>exact S8 h
   | cont=>exact S8 h
   | ret u=>
    obtain⟨v,H',os,bare,un,hok',r',q⟩:=h;have q':v= .bl true:=q;subst q';obtain rfl:u=UL true:=r';refine⟨rfl,OldK.of_keep λb o e=>?_,os,bare⟩;cases q:H b with
    | none=>exact un.keep b o e q (by intro z;exact absurd (show b∈([]:List Yu) from z) Yr) Yr
    | some u=>
     rcases hO b with z | ⟨ob,xs,z⟩
     ·rw [q] at z;cases z
     ·have z2:=un.frzs b ob _ z;obtain⟨e1,_⟩:=hok b _ z;obtain⟨e2,_⟩:=hok' b _ z2;rw [e] at e1;cases e1;exact e2
 cases hk:K.lookup a with
 | some o=>
  have e:=KX a o hk;rw [ha] at e;cases e;refine core (λ_=>none) (λ_=>.inl rfl) (.inr ⟨_,vs.toArray,_,hk,rfl,rfl,rfl,by rw [RE,lenV];exact hl,by simpa using rv⟩) (λb u z=>by have z':(none:Option HO)=some u:=z;cases z') (λb z=>absurd rfl z) λz=>absurd rfl z
 | none=>
  refine core (λb=>if b=a then some (.frz {cls:= .type "list",data:= .seq vs.toArray} (.lst (ns.map V.int))) else none) (λb=>?_) (.inl (.inr ⟨{cls:= .type "list",data:= .seq vs.toArray},Yp rfl⟩)) (λb u z=>?_) (λb z=>?_) λ_=>hk
  ·by_cases hb:b=a
   ·exact .inr ⟨_,_,Yp hb⟩
   ·exact .inl (Yo hb)
  ·by_cases hb:b=a
   ·have z':=(Yp hb).symm.trans z;cases z';subst hb;exact⟨ha,by rw [Q8];exact hl,vs,_,rv,ha⟩
   ·have z':=(Yo hb).symm.trans z;cases z'
  ·by_cases hb:b=a
   ·exact hb
   ·exact absurd (Yo hb) z
abbrev KOf{K:Q7}{h:YG}(_:K.In h):Q7:=K
def inClass(s:YH)(j:Nat):YH:=match s with
 | .ClassDef _ _ _ body _ _ _ _ _ _ _=>body.getD j (.Pass ⟨0,0,0,0⟩)
 | _=>.Pass ⟨0,0,0,0⟩
def jh(s:YH):Arguments:=match s with
 | .FunctionDef _ a _ _ _ _ _ _ _ _=>a
 | _=>{posonlyargs:=[],args:=[],vararg:=none,kwonlyargs:=[],kw_defaults:=[],kwarg:=none,defaults:=[]}
def fI(s:YH):List YH:=match s with
 | .FunctionDef _ _ b _ _ _ _ _ _ _=>b
 | _=>[]
def av(s:YH):Y4:=match s with
 | .FunctionDef _ _ _ _ _ _ sc _ _ _=>sc
 | _=>{kind:= .function,names:=[],isGenerator:=false,isCoroutine:=false}
abbrev CX0:fA:=λ_ _ _ _ _ _=>False
abbrev E0:XK:=λ_ _ _=>False
theorem gf{X:Cx}:iH CX0 X E0:=λ_ _ _ _ _ _ _ h=>h.elim
structure fc (K:Q7) (x qual:Str) (st:YH) (f:Yu) (fd:YD):Prop where
 ex:∃(oc:Yt)(od:Option Yu)(kV doc pm:Yt)(an:Option Yu)(cdv ct:Yt)(osl:Array (Option Yt)),
  fd=Th x qual (jh st) (fI st) (av st) .none kV doc pm an cdv ct/\K.lookup f=some ⟨oc,od,.func fd,osl⟩/\Vt K cdv qual=true
 kp:Ts K (.ref f)=true
section
variable {P:YE} {w:YF} {K:Q7} {mg:Str->Option Yt} {base:YG}
theorem fc.ok{x qual:Str}{st:YH}{f:Yu}{fd:YD}{N ps:List Str}{k:Nat}{sp:Sp}(F:fc K x qual st f fd)(S:aN N ps (av st))(len:∀vs H Q E,sp vs H Q E->vs.length=ps.length)
 (hbody:∀(cdv:Yt) (A:YJ) (outer:List Env) (s:Yw) (H:Hp) (vs:List V) (Q:VK) (E:XK),aY k (A.deeper (Zw qual (av st) s.heap.objs.size f cdv))->sp vs H Q E->
   ∃t,bP (iI CX0 P w K mg base N qual (av st) f cdv A outer s H E).nox (fI st) t/\t {nx:=λ_ H'=>Q .non H',rt:=Q} (start N vs) H):aB P w K mg base CX0 (k+1) f fd ps sp:=by
 obtain⟨oc,od,kV,doc,pm,an,cdv,ct,osl,rfl,lk,hcd⟩:=F.ex;refine I0 lk hcd S len λA outer s H vs Q E hr hsp=>?_;obtain⟨t,h,q⟩:=hbody cdv A outer s H vs Q E hr hsp;exact⟨t,h.nox,q⟩
theorem fc.binds{x qual:Str}{st:YH}{f:Yu}{fd:YD}{ps:List Str}(F:fc K x qual st f fd)
 (h:∀(kV doc pm:Yt) (an:Option Yu) (cdv ct:Yt) (us:List Yt),us.length=ps.length->bindArgs (Th x qual (jh st) (fI st) (av st) .none kV doc pm an cdv ct) ⟨us,[]⟩=pure (ps.zip us)):dF K fd ps []:=by
 obtain⟨oc,od,kV,doc,pm,an,cdv,ct,osl,rfl,lk,hcd⟩:=F.ex;exact .all (h kV doc pm an cdv ct)
theorem Cg{x qual:Str}{st:YH}{f:Yu}{oc:Yt}{od an:Option Yu}{osl:Array (Option Yt)}{kV doc pm cdv ct:Yt}(l:K.lookup f=some ⟨oc,od,.func (Th x qual (jh st) (fI st) (av st) .none kV doc pm an cdv ct),osl⟩)
 (c:Vt K cdv qual=true)(k:Ts K (.ref f)=true):fc K x qual st f (Th x qual (jh st) (fI st) (av st) .none kV doc pm an cdv ct):=⟨⟨oc,od,kV,doc,pm,an,cdv,ct,osl,rfl,l,c⟩,k⟩
end
section
variable {X:Cx}
theorem pv(i:Nat){x:Str}{pos:Pos}(hN:X.N[i]?=some x:=by rfl)(hv:qC X.env.scope x:=by first | exact WL rfl | exact VQ (WL rfl) | exact VQ (VQ rfl))(hd:(x==("__debug__":Str))=false:=by decide)
 (hcd:(x==("__classdict__":Str))=false:=by decide):PE X (.Name x pos) (cA i):=vz hN hv hd hcd
end
def ar(H H':Hp):Prop:=∀b o,H b=some o->H' b=some o
theorem ar.refl(H:Hp):ar H H:=λ_ _ h=>h
theorem ar.trans{H H1 H2:Hp}(a:ar H H1)(b:ar H1 H2):ar H H2:=λc o h=>b c o (a c o h)
theorem Jw(a b:Int):mS (.int a) (.int b)=true:=rfl
theorem Jx(a b:Str):mS (.str a) (.str b)=true:=rfl
theorem Jy(a b:Bool):mS (.bl a) (.bl b)=true:=rfl
theorem Jz(b:Int):mS .non (.int b)=true:=rfl
theorem JA(b:Int):mS (.int b) .non=true:=rfl
def gh(env:Env)(names:List (Str×Y3))(cs:List (Str×Yu)):List (Str×Yu):=
 names.foldl (λcs p=>if (p.2==SU)=true then(p.1,(env.cells.lookup p.1).getD 0)::cs else cs) cs
theorem Ci{scope:Y4}{env:Env}(h:∀y∈scope.names,y.2= .free->∃c,env.cells.lookup y.1=some c):closureFor scope env=pure (gh env scope.names []):=by
 unfold closureFor;have key:∀(l:List (Str×Y3))(cs:List (Str×Yu)),(∀y∈l,y.2= .free->∃c,env.cells.lookup y.1=some c)->
  (forIn l cs λ(x:Str×Y3) (r:List (Str×Yu))=>(if (x.2==SU)=true then do let a<-cellOf env x.1;pure (UO ((x.1,a)::r)) else pure (UO r):Sem (ForInStep (List (Str×Yu)))))=pure (gh env l cs):=by
  intro l
  induction l with
  | nil=>intro cs _;rfl
  | cons p r ih=>
   intro cs hl;rw [XI];by_cases hk:(p.2==SU)=true
   ·obtain⟨c,hc⟩:=hl p RD (by simpa using hk);rw [Yp hk];have e:cellOf env p.1=pure c:=by unfold cellOf;rw [hc]
    rw [e];simp only [pure_bind];rw [ih _ λy hy=>hl y (Ru _ hy)];unfold gh;rw [R6,Yp hk,hc];rfl
   ·rw [Yo hk];simp only [pure_bind];rw [ih _ λy hy=>hl y (Ru _ hy)];unfold gh;rw [R6,Yo hk]
 have:=key scope.names [] h;simp only [bind_pure];exact this
theorem vV{env:Env}:∀(l:List (Str×Y3))(cs:List (Str×Yu)){x:Str}{c:Yu},(∀y∈l,y.2= .free->∃c,env.cells.lookup y.1=some c)->(∀y d,cs.lookup y=some d->env.cells.lookup y=some d)->
 (gh env l cs).lookup x=some c->env.cells.lookup x=some c
 | [],cs,x,c,_,hc,h=>hc x c h
 | p::r,cs,x,c,hl,hc,h=>by
  unfold gh at h;rw [R6] at h;by_cases hk:(p.2==SU)=true
  ·rw [Yp hk] at h;refine vV r _ (λy hy=>hl y (Ru _ hy)) (λy d e=>?_) h;obtain⟨a,ha⟩:=hl p RD (by simpa using hk);rw [RP] at e;cases hx:y==p.1 with
   | true=>
    rw [hx] at e;have hy:y=p.1:=by simpa using hx
    rw [ha] at e;cases e;rw [hy];exact ha
   | false=>rw [hx] at e;exact hc y d e
  ·rw [Yo hk] at h;exact vV r cs (λy hy=>hl y (Ru _ hy)) hc h
theorem vW{env:Env}:∀(l:List (Str×Y3))(cs:List (Str×Yu)){x:Str},(∃c,cs.lookup x=some c)->∃c,(gh env l cs).lookup x=some c
 | [],cs,x,h=>h
 | p::r,cs,x,⟨c,h⟩=>by
  unfold gh;rw [R6];by_cases hk:(p.2==SU)=true
  ·rw [Yp hk];refine vW r _ ?_;rw [RP];cases hx:x==p.1 with
   | true=>exact⟨_,rfl⟩
   | false=>exact⟨c,h⟩
  ·rw [Yo hk];exact vW r cs ⟨c,h⟩
theorem vX{env:Env}:∀(l:List (Str×Y3))(cs:List (Str×Yu)){x:Str},(x,SU)∈l->∃c,(gh env l cs).lookup x=some c
 | [],_,_,h=>by simp at h
 | p::r,cs,x,h=>by
  unfold gh;rw [R6];rcases Rh.mp h with e | e
  ·subst e;rw [Yp (by rfl)];exact vW r _ ⟨(env.cells.lookup x).getD 0,by rw [RP];simp⟩
  ·exact vX r _ e
theorem JB{env:Env}{scope:Y4}{x:Str}(h:(relabel scope env).names.lookup x=some .cell\/(relabel scope env).names.lookup x=some .free):scope.names.lookup x=some .free\/scope.names.lookup x=some .cell:=by
 have key:∀(l:List (Str×Y3)),
  ((l.map λ(n,k)=>if (k==SU && env.scope.kind== .function && env.kindOf n==some .cell) then(n,VD) else(n,k)).lookup x=some .cell\/
  (l.map λ(n,k)=>if (k==SU && env.scope.kind== .function && env.kindOf n==some .cell) then(n,VD) else(n,k)).lookup x=some .free)->l.lookup x=some .free\/l.lookup x=some .cell:=by
  intro l
  induction l with
  | nil=>intro h;simp at h
  | cons p r ih=>
   obtain⟨n,k⟩:=p;intro h;rw [Rb] at h;rw [RP];by_cases hx:x=n
   ·subst hx;rw [beq_self_eq_true];by_cases hq:(k==SU && env.scope.kind== .function && env.kindOf x==some .cell)=true
    ·have:k= .free:=by simp only [Si,beq_iff_eq] at hq;exact hq.1.1
     subst this;exact .inl rfl
    ·simp only [Yo hq,RP,beq_self_eq_true] at h;exact h.symm
   ·have hb:(x==n)=false:=by simpa using hx
    rw [hb];refine ih ?_;by_cases hq:(k==SU && env.scope.kind== .function && env.kindOf n==some .cell)=true
    ·simpa only [Yp hq,RP,hb] using h
    ·simpa only [Yo hq,RP,hb] using h
 exact key scope.names h
theorem JC{env:Env}{scope:Y4}{x:Str}(h:scope.names.lookup x=some .cell\/scope.names.lookup x=some .free):(relabel scope env).names.lookup x=some .cell\/(relabel scope env).names.lookup x=some .free:=by
 have key:∀(l:List (Str×Y3)),l.lookup x=some .cell\/l.lookup x=some .free->
  ((l.map λ(n,k)=>if (k==SU && env.scope.kind== .function && env.kindOf n==some .cell) then(n,VD) else(n,k)).lookup x=some .cell\/
  (l.map λ(n,k)=>if (k==SU && env.scope.kind== .function && env.kindOf n==some .cell) then(n,VD) else(n,k)).lookup x=some .free):=by
  intro l
  induction l with
  | nil=>intro h;simp at h
  | cons p r ih=>
   obtain⟨n,k⟩:=p;intro h;rw [Rb];by_cases hx:x=n
   ·subst hx;rw [RP,beq_self_eq_true] at h;by_cases hq:(k==SU && env.scope.kind== .function && env.kindOf x==some .cell)=true
    ·left;simp only [Yp hq,RP,beq_self_eq_true]
    ·simp only [Yo hq,RP,beq_self_eq_true];exact h
   ·have hb:(x==n)=false:=by simpa using hx
    rw [RP,hb] at h;by_cases hq:(k==SU && env.scope.kind== .function && env.kindOf n==some .cell)=true
    ·simpa only [Yp hq,RP,hb] using ih h
    ·simpa only [Yo hq,RP,hb] using ih h
 exact key scope.names h
structure aZ (sc:Y4) (N N':List Str) (k:Nat) (fr:List Nat) (scope:Y4):Prop where
 kind:scope.kind= .function
 cell:∀y∈scope.names,y.2= .cell->scope.names.lookup y.1=some .cell
 names:∀y∈scope.names,y.2= .local->scope.names.lookup y.1=some .local
 nd:N'.Nodup
 slot:fr.map (λj=>N[j]?)=(N'.drop k).map some
 frees:∀x∈N'.drop k,scope.names.lookup x=some .free
 outer:∀y∈scope.names,y.2= .free->sc.names.lookup y.1=some .cell\/sc.names.lookup y.1=some .free
 outer':∀x∈N'.drop k,sc.names.lookup x=some .cell\/sc.names.lookup x=some .free
 len:N'.length=k+fr.length
theorem sW:∀(l:List (Str×Y3)){n:Nat}{a:List (Str×Yu)}{x:Str}{c:Yu},(YZ n l a).lookup x=some c->n<=c\/a.lookup x=some c
 | [],_,_,_,_,h=>.inr h
 | (y,k)::r,n,a,x,c,h=>by
  unfold YZ at h;split at h
  ·rcases sW r h with z | z
   ·exact .inl Yn
   ·rw [RP] at z;split at z
    ·exact .inl (by cases z;exact Rf _)
    ·exact .inr z
  ·exact sW r h
theorem vY:∀(l:List (Str×Y3)){n:Nat}{a:List (Str×Yu)}{x:Str}{c:Yu},l.lookup x=some .cell->(YZ n l a).lookup x=some c->n<=c
 | [],_,_,_,_,e,_=>nomatch e
 | (y,k)::r,n,a,x,c,e,h=>by
  unfold YZ at h;rw [RP] at e;cases hx:x==y with
  | true=>
   rw [hx] at e;cases e;have h:UR x (YZ (n+1) r ((y,n)::a))=some c:=h;rcases sW r h with z | z
   ·exact Wf z
   ·rw [RP,hx] at z;cases z;exact Rf _
  | false=>
   rw [hx] at e;split at h
   ·exact Wf (vY r e h)
   ·exact vY r e h
theorem vZ:∀(l:List (Str×Y3)){n:Nat}{a:List (Str×Yu)}{x:Str},(∀y∈l,y.2= .cell->y.1≠x)->(YZ n l a).lookup x=a.lookup x
 | [],_,_,_,_=>rfl
 | (y,k)::r,n,a,x,h=>by
  unfold YZ;split
  ·rename_i hk;rw [vZ r λz hz=>h z (Ru _ hz),RP];have:(x==y)=false:=by simpa using Ne.symm (h (y,k) RD (by simpa using hk))
   rw [this]
  ·exact vZ r λz hz=>h z (Ru _ hz)
theorem wa:∀(l:List (Str×Y3)){n:Nat}{a:List (Str×Yu)},(∀x c,a.lookup x=some c->c < n)->(∀x y c,a.lookup x=some c->a.lookup y=some c->x=y)->∀x y c,(YZ n l a).lookup x=some c->(YZ n l a).lookup y=some c->x=y
 | [],_,_,_,h=>h
 | (z,k)::r,n,a,hl,hi=>by
  unfold YZ;split
  ·have one:∀x c,((z,n)::a).lookup x=some c->x=z/\c=n\/c < n/\a.lookup x=some c:=λx c e=>by
    rw [RP] at e;cases hx:x==z with
    | true=>rw [hx] at e;cases e;exact .inl ⟨by simpa using hx,rfl⟩
    | false=>rw [hx] at e;exact .inr ⟨hl x c e,e⟩
   refine wa r (λx c e=>?_) λx y c e1 e2=>?_
   ·rcases one x c e with⟨_,z⟩ | ⟨z,_⟩
    ·rw [z];exact Tg _
    ·exact SO z
   ·rcases one x c e1 with⟨a1,b1⟩ | ⟨a1,b1⟩ <;> rcases one y c e2 with⟨a2,b2⟩ | ⟨a2,b2⟩
    ·rw [a1,a2]
    ·omega
    ·omega
    ·exact hi x y c b1 b2
  ·exact wa r hl hi
theorem wb:∀(l:List (Str×Y3)){h:YG}{a:List (Str×Yu)},(∀x c,a.lookup x=some c->∃v,h.IsCell c v)->∀x c,(YZ h.objs.size l a).lookup x=some c->∃v,(pushCells h l).IsCell c v
 | [],_,_,h=>h
 | (z,k)::r,h,a,ha=>by
  unfold YZ pushCells;split
  ·have:=wb r (h:=h.push {cls:= .type "cell",data:= .cell none}) (a:=(z,h.objs.size)::a) λx c e=>by
    rw [RP] at e;split at e
    ·cases e;exact⟨none,_,RJ _ rfl,rfl⟩
    ·obtain⟨v,q⟩:=ha x c e;exact⟨v,q.keeps λb o e=>Rc _ e⟩
   rwa [Uw] at this
  ·exact wb r ha
def sX(X:Cx)(scope:Y4)(C:Yu):List (Str×Yu):=YZ (C+1) scope.names (gh X.env scope.names [])
def bE(X:Cx)(scope:Y4)(N':List Str)(fp:List Yu)(C:Yu)(s:Yw)(H:Hp):Cx where
 prog:=X.prog
 w:=X.w
 K:=X.K
 mg:=X.mg
 base:=X.base
 A:=X.A
 N:=N'
 s₀:=s
 H₀:=H
 env:=compEnvC scope (sX X scope C) C X.env
 outer:=X.stack
 stack:=X.stack
 ex:=fp
 fn:=λx=>scope.names.lookup x==some .cell
 calm:=X.calm
 pn:=[]
 xe:=λ_ _=>False
def bx(k:Nat)(fr:List Nat)(σ:St):St:=RR k none++fr.map λj=>(σ[j]?).join
def kr(σ σ':St):Prop:=σ.length=σ'.length/\∀(i:Nat) v,σ[i]?=some (some v)->σ'[i]?=some (some v)
section
variable {X:Cx} {aaa:List (Yu×Obj)} {σ:St} {H:Hp} {s:Yw} {scope:Y4} {N':List Str} {k:Nat} {fr:List Nat} {fp:List Yu}
theorem wc(S:aZ X.env.scope X.N N' k fr scope)(I:af X aaa σ H s):∀x c,(gh X.env scope.names []).lookup x=some c->X.env.cells.lookup x=some c:=λx c e=>vV scope.names [] (λy hy e=>I.ok.has y.1 (S.outer y hy e)) (λ_ _ z=>by simp at z) e
theorem Cj(S:aZ X.env.scope X.N N' k fr scope)(I:af X aaa σ H s){x:Str}{c:Yu}(e:(sX X scope s.heap.objs.size).lookup x=some c):s.heap.objs.size < c\/X.env.cells.lookup x=some c:=
 (sW _ e).imp (λz=>z) λz=>wc S I x c z
theorem JD(S:aZ X.env.scope X.N N' k fr scope)(I:af X aaa σ H s)(hf:∀b∈fp,iD X aaa H b)(hlt:∀b∈fp,b < s.heap.objs.size):
 (bE X scope N' fp s.heap.objs.size s H).Ok:=by
 have hcl:=wc S I;refine⟨I.ok.mod,S.kind,I.ok.glob,I.ok.blt,Rf _,wa _ (λx c e=>?_) (λx y c h1 h2=>I.ok.inj x y c (hcl x c h1) (hcl y c h2)),λx hx=>Uy.mp (VA _ _ _ ?_),λx c h e=>Wf (vY _ (eq_of_beq h) e),I.ok.hd,I.ok.frames,.inl rfl,λb hb=>⟨RI (hlt b hb),λx c e=>?_⟩,
  I.bs,RS I.ok.bsz I.sz,λb o e hb=>?_,λb hb hb'=>?_,I.stack,I.stkFree⟩
 ·obtain⟨v,o,ho,_⟩:=I.cell x c (hcl x c e);exact SO (Rx ho)
 ·rcases JB hx with z | z
  ·exact .inr (Uy.mpr (vX _ _ (Tw z)))
  ·exact .inl z
 ·rcases Cj S I e with z | z
  ·exact λq=>absurd (hlt b hb) (by rw [<-q];exact Nat.lt_asymm z)
  ·exact(hf b hb).2.2.2.2.1 x c z
 ·rcases(hf b hb).2.2.2.1 with z | z
  ·exact I.ok.noex b o e z
  ·exact absurd (Sm (Rx e) (RS I.ok.bsz z)) (Um _)
 ·rcases Rh.mp (I.stkSub b hb') with z | z
  ·exact(hf b hb).2.1 z
  ·exact(hf b hb).2.2.1 z
theorem JE(S:aZ X.env.scope X.N N' k fr scope)(I:af X aaa σ H s)(hf:∀b∈fp,iD X aaa H b)(hlt:∀b∈fp,b < s.heap.objs.size){o:Obj}{h':YG}(e':h'=pushCells (s.heap.push o) scope.names)
 (hn:h'.Ns s.heap.objs.size (λ_=>none))(hk:∀b o,s.heap.get? b=some o->h'.get? b=some o):
 af (bE X scope N' fp s.heap.objs.size s H) [] (bx k fr σ) H {s with heap:=h'}:=by
 have hcl:=wc S I;refine⟨JD S I hf hlt,rfl,I.bare,Un.kept hk,⟨_,hn,λi x v h1 h2 h3=>?_⟩,λx c e=>?_,I.hok.fresh (Rf _),λx c e=>?_,λp hp=>absurd hp (by simp [bE]),I.hok.kept hk,?_⟩
 ·have hi:k<=i:=by
   rcases Tz i k with z | z
   ·exfalso;unfold bx at h2;rw [Sq (by simpa using z),Tu,Yp z] at h2;cases h2
   ·exact z
  have h2':(fr.map λj=>(σ[j]?).join)[i - k]?=some (some v):=by
   unfold bx at h2;rw [Ta (by simpa using hi)] at h2;simpa using h2
  have h1':(N'.drop k)[i - k]?=some x:=by
   rw [List.getElem?_drop,Nat.add_sub_cancel' hi];exact h1
  have hmem:x∈N'.drop k:=RN h1';have e2:(fr.map λj=>X.N[j]?)[i - k]?=some (some x):=by
   rw [S.slot,Rt,h1'];rfl
  obtain⟨j,hj,ej⟩:∃j,fr[i - k]?=some j/\X.N[j]?=some x:=by
   rw [Rt] at e2;cases e:fr[i - k]? with
   | none=>rw [e] at e2;cases e2
   | some j=>rw [e] at e2;exact⟨j,rfl,Sk e2⟩
  have hv:σ[j]?=some (some v):=by
   rw [Rt,hj] at h2';have h3':(σ[j]?).join=some v:=Sk h2';cases e:σ[j]? with
   | none=>rw [e] at h3';cases h3'
   | some o=>rw [e] at h3';rw [show o=some v from h3']
  obtain⟨m,hn0,hl⟩:=I.loc;have ho:=S.outer' x hmem;obtain⟨u,ru,lk⟩:=hl j x v ej hv (.inr ho);refine⟨u,ru,.inr ⟨JC (.inr (S.frees x hmem)),?_⟩⟩;rcases lk with⟨z,_⟩ | ⟨_,c,hc,hx⟩
  ·exfalso;rcases ho with ho | ho
   ·exact absurd (z.symm.trans ho) Yr
   ·exact absurd (z.symm.trans ho) Yr
  ·obtain⟨c',hc'⟩:=vX (env:=X.env) scope.names [] (Tw (S.frees x hmem));have:=hcl x c' hc';rw [hc] at this;cases this;obtain⟨o,ho,hd⟩:=hx;exact⟨c,(vZ _ λy hy ey ex=>by have q:=S.cell y hy ey;rw [ex,S.frees x hmem] at q;cases q).trans hc',o,hk c o ho,hd⟩
 ·subst e';have:=wb scope.names (h:=s.heap.push o) (a:=gh X.env scope.names []) (λx c e=>by
   obtain⟨v,q⟩:=I.cell x c (hcl x c e);exact⟨v,q.keeps λb o e=>Rc _ e⟩) x c
  rw [Uw] at this;exact this e
 ·rcases Cj S I e with z | z
  ·exact I.hok.fresh (Uh z)
  ·exact I.freeC x c z
 ·unfold bx;show _=N'.length;rw [Rv,VJ,Q8,S.len]
end
section
variable {prog:YE} {w:YF} {A:YJ} {E:Yt->Yw->Prop} {R:Result->Yw->Prop} {s:Yw}
theorem JF{elt target iter:YA}{ifs:List YA}{scope:Y4}{pos:Pos}{it acc:Yt}{env:Env}(I:Nat->Yw->Prop)
 (turn:∀n s,I n s->Yy (YB prog w) A (Zl it) (λr s₁=>match r with
  | none=>R (.ok .next) s₁
  | some v=>Yy (YB prog w) A (ZU target it v) (λ_ s₁'=>Yy (YB prog w) A (assign target env v) (λ_ s₂=>
   Yy (YB prog w) A (forIn ifs true λc r=>if r=true then do let ok<-isTrue c env (eval c env);pure (UO ok) else pure (UO r)) (λok s₃=>
    if ok=true then Yy (YB prog w) A (eval elt env) (λx s₄=>
     Yy (YB prog w) A (call (.builtin "list.append") [acc,x]) (λ_ s₅=>∃m,m < n/\I m s₅) (λ_ _=>False) s₄) (λ_ _=>False) s₃
    else ∃m,m < n/\I m s₃) (λ_ _=>False) s₂) (λ_ _=>False) s₁') (λ_ _=>False) s₁) (λ_ _=>False) s)
 (n:Nat)(h:I n s):
 Zf (YB prog w) A (.compLoop (.ListComp elt [⟨target,iter,ifs,0⟩] scope pos) 0 it acc env) R s:=by
 refine codeAny_loop rfl I (λn s hI=>?_) n h;show Yy _ A ((compTurn (.ListComp elt [⟨target,iter,ifs,0⟩] scope pos) 0 it acc env).onRaise (λx=>do noteFrame x env;theTreesLotGoes x)) _ _ s;refine wpAny_noted ?_;rw [compTurn_list];refine Yv (Z4 (Yv (YR (turn n s hI) (λr s₁ h₁=>?_) λ_ _ h'=>h'.elim)));cases r with
 | none=>exact Yx h₁
 | some v=>
  refine Yv (YR h₁ (λ_ s₁' h₁'=>?_) λ_ _ h'=>h'.elim);refine Yv (YR h₁' (λ_ s₂ h₂=>Yv (YR h₂ (λok s₃ h₃=>?_) λ_ _ h'=>h'.elim)) λ_ _ h'=>h'.elim);cases ok with
  | false=>exact Yx ⟨rfl,h₃⟩
  | true=>
   exact Yv (Yv (YR h₃ (λx s₄ h₄=>Yv (YR h₄ (λ_ s₅ h₅=>Yx (Yx ⟨rfl,h₅⟩)) λ_ _ h'=>h'.elim)) λ_ _ h'=>h'.elim))
end
def fJ(X:Cx)(ifs:List YA)(t:TT):Prop:=
 ∀(aaa:List (Yu×Obj))(s:Yw)(σ:St)(H:Hp)(Q:Bool->Hp->Prop),af X aaa σ H s->t σ H Q->
  Yy (YB X.prog X.w) X.A (forIn ifs true λc r=>if r=true then do let ok<-isTrue c X.env (eval c X.env);pure (UO ok) else pure (UO r)) (TP X aaa σ Q) X.xe s
def Ck:TT:=λ_ H Q=>Q true H
theorem Cm{X:Cx}:fJ X [] Ck:=λaaa s σ H Q I h=>wpAny_tests_nil ⟨H,I,h⟩
theorem d7{X:Cx}{c:YA}{t:TT}(h:PT X c t):fJ X [c] t:=λaaa s σ H Q I hq=>wpAny_tests_one (h aaa s σ H Q I hq)
theorem bJ.but{P:YE}{w:YF}{H:Hp}{h h':YG}{C:Yu}(x:bJ P w H h)(hC:H C=none)(k:∀b o,b≠C->h.get? b=some o->h'.get? b=some o):bJ P w H h':=λa o e=>by
 refine(x a o e).stay (λb u hb q=>k b u ?_ q) (λ_ q=>q) λ_ _ q=>q;intro z;subst z;rcases hb with z | z
 ·rw [<-z,hC] at e;cases e
 ·rw [hC] at z;cases z
theorem JG{M:Model}{A:YJ}{E:Yt->Yw->Prop}{s:Yw}{scope:Y4}{g:Yu}{cl:List (Str×Yu)}{qual:Str}{e:Env}{Q:Env->Yw->Prop}
 (hQ:∀h',h'=pushCells (s.heap.push {cls:= .type "dict",data:= .dict #[]}) scope.names->h'.Ns s.heap.objs.size (λ_=>none)->(∀b o,s.heap.get? b=some o->h'.get? b=some o)->
  Q (newEnv scope s.heap.objs.size g (YZ (s.heap.objs.size+1) scope.names cl) qual none .none (some e) builtinsNs) {s with heap:=h'}):
 Yy M A (newFunctionEnv scope g cl [] qual none .none (some e)) Q E s:=by
 simp only [newFunctionEnv,Xc,if_true];refine Yv (wpAny_alloc (Yv (wpAny_layCells _ (λname kind cells=>by cases hkc:kind==VD <;> simp [hkc]) _ _ _ _ ?_)));rw [show({s with heap:=s.heap.push {cls:= .type "dict",data:= .dict #[]}}:Yw).heap.objs.size=s.heap.objs.size+1 from Uw ..];rw [XW];exact Yv (Yx (Yx (hQ _ rfl ((Heap.Ns.new s.heap (.type "dict")).keeps (pushCells_keeps _ _)) λb o e=>pushCells_keeps _ _ b o (Rc _ e))))
def ku(wi:TI)(g:TG)(tc:TT)(te:TE)(k:Nat)(fr:List Nat):TE:=λσ H Q=>wi σ H λJ H1=>∀D,H1 D=none->∃W:Nat->Nat->Hp->Prop,(∃m,W 0 m (ai H1 D (.lst [])))/\∀i m H,W i m H->
 (J.stop i H/\Q (.ref D) H)\/(J.go i H/\∀x H',J.yld i H x H'->g x (bx k fr σ) H' λσ2 H2=>kr (bx k fr σ) σ2/\tc σ2 H2 λok H3=>
  if ok=true then te σ2 H3 λy H4=>∃ys,H4 D=some (.lst ys)/\ys.length < YC/\∃m',m' < m/\W (i+1) m' (ai H4 D (.lst (ys++[y])))
  else ∃m',m' < m/\W (i+1) m' H3)
section
variable {X:Cx} {tg iter elt:YA} {ifs:List YA} {scope:Y4} {N':List Str} {k:Nat} {fr:List Nat} {wi:TI} {g:TG} {tc:TT} {te:TE} {pos:Pos}
theorem Cn{use:Option (Yt->Sem Unit)}{Q':Yt->Yw->Prop}{aaa:List (Yu×Obj)}{s:Yw}{σ:St}{H:Hp}{Q:VK}(hc:X.calm=true)(S:aZ X.env.scope X.N N' k fr scope)(hi:PI X tg iter wi)
 (hg:∀fp C s H,PG (bE X scope N' fp C s H) tg g)(hf:∀fp C s H,fJ (bE X scope N' fp C s H) ifs tc)(he:∀fp C s H,PE (bE X scope N' fp C s H) elt te)
 (I:af X aaa σ H s)(h:ku wi g tc te k fr σ H Q)
 (hQ:∀D C s' H',C≠X.env.locals->af X aaa σ H' s'->(∀h',T2 C s'.heap h'->af X aaa σ H' {s' with heap:=h'})->Q (.ref D) H'->(∃m,s'.heap.Ns C m)->X.env.locals < C->H' C=none/\(∀x c,X.env.cells.lookup x=some c->c≠C)/\(∀p∈X.pn++aaa,p.1≠C)->compPost (YB X.prog X.w) X.A X.xe use Q' (.ref D) C (.ok .next) s'):
 Yy (YB X.prog X.w) X.A (eval iter X.env) (λx s₁=>Yy (YB X.prog X.w) X.A (pyIter x) (λit s₂=>Yy (YB X.prog X.w) X.A (newList []) (λacc s₃=>
  Yy (YB X.prog X.w) X.A (newFunctionEnv scope X.env.globals (gh X.env scope.names []) [] X.env.qual none .none (some X.env)) (λcenv s₄=>
   Zf (YB X.prog X.w) X.A (.compStart (.ListComp elt [⟨tg,iter,ifs,0⟩] scope pos) 0 it acc {cenv with scope:=relabel scope X.env}) (compPost (YB X.prog X.w) X.A X.xe use Q' acc cenv.locals) s₄) X.xe s₃) X.xe s₂) X.xe s₁) X.xe s:=by
 refine aA (hi aaa s σ H _ I h) λv s1 h1=>aA h1 λitv s2 h2=>?_;obtain⟨it,fp,tn,J,H2,e,I2,T,st2,f2,wW⟩:=h2;subst e;refine YV ?_;have hD0:H2 s2.heap.objs.size=none:=I2.hok.fresh (Rf _);obtain⟨W,⟨m0,w0⟩,turn⟩:=wW _ hD0;generalize hD:s2.heap.objs.size=D at*;have I3:af X aaa σ (ai H2 D (.lst [])) {s2 with heap:=s2.heap.push {cls:= .type "list",dict:=none,data:= .seq ([]:List Yt).toArray}}:=by
  have:=I2.lnew (ys:=[]) (its:=[]) (t':=s2.toks) .nil (Sd _);rw [hD] at this;exact this
 generalize hs3:({s2 with heap:=s2.heap.push {cls:= .type "list",dict:=none,data:= .seq ([]:List Yt).toArray}}:Yw)=s3 at*;have up23:∀b o,s2.heap.get? b=some o->s3.heap.get? b=some o:=λb o e=>by rw [<-hs3];exact Rc _ e
 have fpD:∀b∈fp,b≠D:=λb hb z=>by
  obtain⟨o,ho,_⟩:=T.obj _ _ st2 b hb;have:=Rx ho;rw [hD,z] at this;exact Um _ this
 have f3:∀b∈fp,iD X aaa (ai H2 D (.lst [])) b:=λb hb=>⟨by rw [az (fpD b hb)];exact(f2 b hb).1,(f2 b hb).2⟩;have st3:tn 0 s3.heap:=T.keep _ _ _ st2 λb hb o e=>up23 b o e;have lt3:∀b∈fp,b < s3.heap.objs.size:=λb hb=>by obtain⟨o,ho,_⟩:=T.obj _ _ st3 b hb;exact Rx ho
 refine JG λh₁ e₁ hns₁ up34=>?_;have I4:=JE S I3 f3 lt3 e₁ hns₁ up34;have st4:tn 0 h₁:=T.keep _ _ _ st3 λb hb o e=>up34 b o e;generalize hX':bE X scope N' fp s3.heap.objs.size s3 (ai H2 D (.lst []))=X' at*;have hg':PG X' tg g:=by rw [<-hX'];exact hg _ _ _ _
 have hf':fJ X' ifs tc:=by rw [<-hX'];exact hf _ _ _ _
 have he':PE X' elt te:=by rw [<-hX'];exact he _ _ _ _
 have eP:X'.prog=X.prog:=by rw [<-hX'];rfl
 have eW:X'.w=X.w:=by rw [<-hX'];rfl
 have eK:X'.K=X.K:=by rw [<-hX'];rfl
 have eA:X'.A=X.A:=by rw [<-hX'];rfl
 have eC:X'.calm=true:=by rw [<-hX'];exact hc
 have eE:X'.xe=λ_ _=>False:=by rw [<-hX'];rfl
 have eEnv:X'.env=compEnvC scope (sX X scope s3.heap.objs.size) s3.heap.objs.size X.env:=by rw [<-hX'];rfl
 have fpx:∀{H':Hp},(∀b∈fp,H' b=none)->∀b∈fp,iD X' [] H' b:=λ{H'} hn b hb=>by
  refine⟨hn b hb,?_,?_,.inl ?_,?_,?_⟩
  ·rw [eEnv];exact RI (lt3 b hb)
  ·have:=I4.ok.exfs b (by rw [<-hX'];exact hb);exact this
  ·rw [<-hX'];exact hb
  ·have:=I4.ok.exf b (by rw [<-hX'];exact hb);exact this.2
  ·intro p hp;rw [<-hX'] at hp;simp [bE] at hp
 have fin:∀(s':Yw)(H':Hp)(σ':St),af X' [] σ' H' s'->Q (.ref D) H'->compPost (YB X.prog X.w) X.A X.xe use Q' (.ref D) s3.heap.objs.size (.ok .next) s':=λs' H' σ' J q=>by
  have un:Un (gG X.stack) fp (ai H2 D (.lst [])) H' s3.heap s'.heap:=by have:=J.base;rw [<-hX'] at this;exact this
  have jos:s'.os=s3.os:=by have:=J.os;rw [<-hX'] at this;exact this
  have hC:H' s3.heap.objs.size=none:=by have:=J.free;rw [eEnv] at this;exact this
  have hok':bJ X.prog X.w H' s'.heap:=by have:=J.hok;rw [eP,eW] at this;exact this
  have fg:∀h',T2 s3.heap.objs.size s'.heap h'->af X aaa σ H' {s' with heap:=h'}:=λh' hs'=>by
   have un':Un (gG X.stack) fp (ai H2 D (.lst [])) H' s3.heap h':=
    ⟨λb o e n h1 h2=>hs'.extBut b o (RI (Rx e)) (un.keep b o e n h1 h2),λb o e n h1 h2=>by
     obtain⟨sl,z⟩:=un.slot b o e n h1 h2;exact⟨sl,hs'.extBut b _ (RI (Rx e)) z⟩,un.free,λb o e h2=>by
     obtain⟨o',z⟩:=un.there b o e h2;exact⟨o',hs'.extBut b o' (RI (Rx e)) z⟩,un.tups,un.frzs,un.tbls⟩
   exact af.call' (s':={s' with heap:=h'}) I3 jos un' (hok'.but hC hs'.extBut) J.bare λb hb=>⟨(f3 b hb).2.2.2.1,(f3 b hb).2.1,(f3 b hb).2.2.2.2.1,(f3 b hb).2.2.2.2.2⟩
  have nsC:∃m,s'.heap.Ns s3.heap.objs.size m:=by
   obtain⟨m,hn,_⟩:=J.loc;rw [eEnv] at hn;exact⟨m,hn⟩
  exact hQ D s3.heap.objs.size s' H' (Vo I3.lt) (fg s'.heap (.refl ..)) fg q nsC I3.lt
   ⟨hC,λx c e=>by obtain⟨v,o,ho,_⟩:=I3.cell x c e;exact RI (Rx ho),λp hp=>RI (Rx (I3.pin p hp).1)⟩
 have loop:∀s4:Yw,s4=({s3 with heap:=h₁}:Yw)->
  Zf (YB X.prog X.w) X.A (.compLoop (.ListComp elt [⟨tg,iter,ifs,0⟩] scope pos) 0 (.ref it) (.ref D) X'.env) (compPost (YB X.prog X.w) X.A X.xe use Q' (.ref D) s3.heap.objs.size) s4:=by
  rintro s4 rfl;refine JF (λn s'=>∃i H',af X' [] (bx k fr σ) H' s'/\tn i s'.heap/\(∀b∈fp,H' b=none)/\W i n H') ?_ m0 ⟨0,_,I4,st4,λb hb=>(f3 b hb).1,w0⟩;rintro n s5 ⟨i,H5,I5,st5,fr5,w5⟩;rcases turn i n H5 w5 with⟨stop,qn⟩ | ⟨go,step⟩
  ·have:=T.done X' eP eW eK eC i [] s5 _ H5 (λ_ _=>False) I5 (fpx fr5) st5 stop;rw [eA] at this;refine aA this λr s6 ⟨hr,I6⟩=>?_;subst hr;exact fin s6 H5 _ I6 qn
  ·have:=T.item X' eP eW eK eC i [] s5 _ H5 (λ_ _=>False) I5 (fpx fr5) st5 go;rw [eA] at this;refine aA this λr s6 ⟨u,hr,h6⟩=>?_;subst hr;refine aA h6 λ_ s7 ⟨x,H7,I7,r7,y7,st7,fr7⟩=>?_;have I7':=I7.pinned (fpx fr7) (T.obj _ _ st7);have h8:=hg' _ s7 _ H7 x u _ I7' r7 (step x H7 y7);rw [eP,eW,eA,eE] at h8;refine aA h8 λ_ s8 ⟨σ8,H8,I8,kp,q8⟩=>?_;have h9:=hf' _ s8 σ8 H8 _ I8 q8;rw [eP,eW,eA,eE] at h9;have again:∀{s9:Yw}{H9:Hp}{n':Nat},af X' ([]++qJ fp s7.heap) σ8 H9 s9->n' < n->W (i+1) n' H9->∃m,m < n/\∃i H',af X' [] (bx k fr σ) H' s9/\tn i s9.heap/\(∀b∈fp,H' b=none)/\W i m H':=λ{s9 H9 n'} I9 hn' w9=>by
    refine⟨n',hn',i+1,H9,I9.unpinned.weak kp.1 kp.2,T.keep _ _ _ st7 λb hb o e=>(I9.pin (b,o) (R0 _ (R0 _ (su hb e)))).1,λb hb=>?_,w9⟩;obtain⟨o,e,d⟩:=T.obj _ _ st7 b hb;exact(I9.pin (b,o) (R0 _ (R0 _ (su hb e)))).2.1
   refine aA h9 λok s9 ⟨H9,I9,q9⟩=>?_;cases ok with
   | false=>
    rw [Yo Rl] at q9;obtain⟨m',hm',w9⟩:=q9;rw [Yo Rl];exact again I9 hm' w9
   | true=>
    rw [Yp rfl] at q9;rw [Yp rfl];have h10:=he' _ s9 σ8 H9 _ I9 q9;rw [eP,eW,eA,eE] at h10;refine aA h10 λy s10 ⟨yv,H10,I10,r10,ys,hys,hz,m',hm',w10⟩=>?_;have h11:=Ce (X:=X') _ s10 σ8 H10 (.ref D) [yv] (.ref D) [y] (λ_ H'=>W (i+1) m' H') I10 rfl (.cons r10 .nil) ⟨D,ys,yv,rfl,rfl,hys,hz,w10⟩;rw [eP,eW,eA,eE] at h11;exact aA h11 λ_ s11 uu64=>by obtain⟨_,H11,I11,_,q11⟩:=uu64;exact again I11 hm' q11
 have hE:({newEnv scope s3.heap.objs.size X.env.globals (sX X scope s3.heap.objs.size) X.env.qual none .none (some X.env) builtinsNs with scope:=relabel scope X.env}:Env)=X'.env:=by
  rw [eEnv];rfl
 have goal:=codeAny_compStart_list (elt:=elt) (target:=tg) (iter:=iter) (ifs:=ifs) (rest:=[]) (scope:=scope) (pos:=pos) (loop _ rfl) (T.self X.A 0 _ _ _ st4 (loop _ rfl));rw [<-hE] at goal;exact goal
theorem qN(hc:X.calm=true)(S:aZ X.env.scope X.N N' k fr scope)(hi:PI X tg iter wi)
 (hg:∀fp C s H,PG (bE X scope N' fp C s H) tg g)(hf:∀fp C s H,fJ (bE X scope N' fp C s H) ifs tc)(he:∀fp C s H,PE (bE X scope N' fp C s H) elt te)
 (hs:∀x,YL iter X.env x=pure x:=by intro _;rfl):PE X (.ListComp elt [⟨tg,iter,ifs,0⟩] scope pos) (ku wi g tc te k fr):=by
 intro aaa s σ H Q I h;have hcell:∀y∈scope.names,y.2= .free->∃c,X.env.cells.lookup y.1=some c:=λy hy e=>I.ok.has y.1 (S.outer y hy e);rw [eval_ListComp];refine Z7 (use:=none) rfl hs (Ci hcell) S.kind S.names (Cn hc S hi hg hf he I h ?_);intro D C s' H' hC J fg q ns hlt _;obtain⟨m,hn⟩:=ns;exact⟨m,hn,λh' hs'=>⟨.ref D,H',fg h' hs',rfl,q⟩⟩
theorem JH{i:Nat}{x:Str}{pos' spos:Pos}(hN:X.N.Nodup)(hxi:X.N[i]?=some x)(hx:gP X.env.scope x)(hc:X.calm=true)(S:aZ X.env.scope X.N N' k fr scope)(hi:PI X tg iter wi)
 (hg:∀fp C s H,PG (bE X scope N' fp C s H) tg g)(hf:∀fp C s H,fJ (bE X scope N' fp C s H) ifs tc)(he:∀fp C s H,PE (bE X scope N' fp C s H) elt te)
 (hsw:YN (.ListComp elt [⟨tg,iter,ifs,0⟩] scope pos) (some (.Name x pos')) spos.line X.env=pure true)
 (hs:∀x,YL iter X.env x=pure x:=by intro _;rfl)(hfn:X.fn x=true\/X.env.scope.names.lookup x=some .local:=by first | exact .inl rfl | exact .inr rfl | assumption):
 PS X (.Assign [.Name x pos'] (.ListComp elt [⟨tg,iter,ifs,0⟩] scope pos) spos) (qG (ku wi g tc te k fr) (gH i)):=by
 intro aaa s σ H D I h;have hcell:∀y∈scope.names,y.2= .free->∃c,X.env.cells.lookup y.1=some c:=λy hy e=>I.ok.has y.1 (S.outer y hy e);rw [exec_Assign_Name_used _ _ _ _ hsw];refine Yv (Z4 (Yv ?_));show Yy _ X.A (do let _<-comprehension (.ListComp elt [⟨tg,iter,ifs,0⟩] scope pos) scope X.env _ (newList []) false (eval iter X.env) (some (assign (.Name x pos') X.env))) _ _ s;refine Yv (YR (Z7 (use:=some (assign (.Name x pos') X.env)) (Q:=λ_ s'=>∃σ' H',af X aaa σ' H' s'/\D.nx σ' H') rfl hs (Ci hcell) S.kind S.names (Cn hc S hi hg hf he I h ?_)) (λ_ s' hq=>Yx (Yx hq)) λ_ _ e=>e);intro D' C s' H' hC J fg q ns hlt ⟨c1,c2,c3⟩;obtain⟨m,hn⟩:=ns;show Yy _ X.A (assign (.Name x pos') X.env (.ref D')) _ _ _;refine wpAny_assign_Name (Be J hN hxi hx (v:= .ref D') rfl (λs2 J2 sb=>?_) hfn);obtain⟨a,sb,ha⟩:=sb;have hCa:C≠a:=by
  rcases ha with z | z
  ·rw [z];exact hC
  ·exact Ne.symm (c2 _ _ z)
 refine⟨m,hn.sameBut sb hCa,λh3 hs3=>⟨_,H',?_,q⟩⟩;exact J2.turned (t':=s2.toks) hs3.extBut c1 hC (.inr (RS J.ok.above (Uh hlt))) c2 c3
end
section
variable {X:Cx}
theorem Co(hc:X.calm=true):eJ X (.builtin "sum") (λxs H Q=>∃(a:Yu)(ns:List Int),xs=[.ref a]/\bq X.K H a (ns.map V.int)/\Q (.int ns.sum) H):=by
 intro aaa s σ H xs us Q I r h;obtain⟨a,ns,rfl,hl,q⟩:=h;obtain⟨u,rfl,rx⟩:=fb r;cases rx;obtain⟨its,rv,p,hz⟩:=I.list hl;have hi:YT its ns:=Jc rv;have hall:AllInts its.toArray:=hi.allInts;obtain⟨ys,hys⟩:=hall.items;have hn:numsOf its.toArray.toList=ns:=by rw [show its.toArray.toList=its from rfl,hi.numsOf]
 rw [hys,nums_intItems] at hn;have hl':=p.isList;rw [hys] at hl';refine sum_intListG (I.ok.hd hc) hl' λh' tk t' hk=>?_;refine⟨.int ns.sum,H,I.kept hk,⟨t',?_⟩,q⟩;rw [preSum_eq,RM Yr,hn]
end
end L2
namespace Att
open PySem PySem.W PySem.Calls PyProof.Rows
theorem JI{ns:List Int}(h:Xy [Wj (ns.map UN)]=true):∀n∈ns,SY n<=1048576:=by
 have h1:(Wj (ns.map UN)).layable=true:=by simpa [Xy] using h
 have h2:(Wj (ns.map UN)).weight<=1048576:=(PySem.W.layableW_iff.mp h1).2.2;have key:∀l:List Int,∀n∈l,SY n<=Vi (l.map UN):=by
  intro l
  induction l with
  | nil=>intro n hn;simp at hn
  | cons x r ih=>
   intro n hn;have e:Vi ((x::r).map UN)=SY x+1+Vi (r.map UN):=by
    rw [Rb,Vi,X9];rfl
   rw [e];rcases Rh.mp hn with z | z
   ·subst z;omega
   ·have:=ih n z;omega
 intro n hn;have e:(Wj (ns.map UN)).weight=Vi (ns.map UN):=by rw [X9]
 rw [e] at h2;exact RS (key ns n hn) h2
theorem attach_callB{l:OpenLaw}{n:Nat}{q:YE}{loose:List Str}{XP:(Str->Option Yt)->YG->Prop}{YP:YF->YG->Prop}{d:DefRec}
 (hn:l.most=some n)(hdf:d.params.defaults=[])
 (call:∀(w:YF) (s₀ s₁:Yw) (mg mb:Str->Option Yt) (fa:Yu) (o:Obj) (pm cd doc:Yt) (a:Yu) (vs:List Yt) (ns:List Int),
  Ground q loose [] XP w s₀ mg mb s₁.heap->YP w s₁.heap->
  s₁.heap.get? fa=some o->o.data= .func (docDef d.name d.params d.body d.scope pm cd doc)->s₁.heap.CodeRec cd d.name->mg d.name=some (.ref fa)->
  s₁.heap.get? a=some {cls:= .type "list",data:= .seq vs.toArray}->YT vs ns->ns.length<=n->(∀z∈ns,SY z<=1048576)->s₁.gens=#[]->
  Zf (YB l.prog w) callerA (.call (.ref fa) ⟨[.ref a],[]⟩) (λr s'=>r= .ok (.ret (.bool true))/\OldK s₁.heap s'.heap/\s'.os=s₁.os/\ZN s'.gens) s₁):
 WalkO q loose XP YP l.row.toRowW d [] (λf vs=>XJ f vs):=by
 intro w s₀ s₁ mg mb G Y fa o pm cd doc dV kV ho hd hcd hD hmg hg args vals as hpre hlay hrd hwl hlo;obtain rfl:dV= .none:=Dflts.none hD hdf;obtain rfl:kV= .none:=Dflts.noKw hD;obtain⟨a,vs,ns,rfl,rfl,hobj,hints,hlen⟩:=Jt hn hpre hwl;have hb:∀z∈ns,SY z<=1048576:=JI hlay;refine enter_call (Zg (call w s₀ s₁ mg mb fa o pm cd doc a vs ns G Y ho (fd_plain hd) hcd hmg hobj hints hlen hb hg) λr s' hq=>?_);obtain⟨rfl,h2,h3,h4⟩:=hq;exact⟨.inl ⟨.bool true,.bool true,[],rfl,λ_=>rfl,.bool true,Ju l _,λ_=>⟨List.Pairwise.nil,λ_ hm=>(nomatch hm)⟩⟩,h2,h3,h4⟩
end Att
namespace L2
open PySem PySem.Spec PyProof.Rows
theorem JJ{l:XM}{n k:Nat}{q:YE}{loose:List Str}{XP:(Str->Option Yt)->YG->Prop}{YP:YF->YG->Prop}{d:DefRec}{K:Params->Q7}{CX:YF->fA}{sp:YF->Sp}{x:Str}
 (hn:l.most=some n)(hn2:n<=YC)(hdf:d.params.defaults=[])(hr:aY k callerA)
 (hY:∀(w:YF) (h:YG),YP w h->(K w.params).In h)
 (F:∀(w:YF) (mg:Str->Option Yt) (fa:Yu) (h:YG),(K w.params).In h->h.Ns YI mg->mg d.name=some (.ref fa)->
  ∃fd:YD,(∀(s:Yw) (u:Yt),BindsTo s fd ⟨[u],[]⟩ [(x,u)])/\
   ∀base:YG,(K w.params).In base->base.Ns YI mg->aB l.prog w (K w.params) mg base (CX w) k fa fd [x] (sp w))
 (hsp:∀(w:YF) (H:Hp) (a:Yu) (ns:List Int),ns.length<=n->(∀z∈ns,SY z<=1048576)->sV H->bq (K w.params) H a (ns.map V.int)->sp w [.ref a] H (λv _=>v= .bl true) λ_ _ _=>False)
 (hCX:∀(w:YF) (H:Hp) (s:Yw) (e:Yt) (s':Yw),CX w [] H s (λ_ _ _=>False) e s'->False):
 X0 q loose XP YP l.row.toRowW d [] (λf vs=>XJ f vs):=by
 refine Att.attach_callB hn hdf λw s₀ s₁ mg mb fa o pm cd doc a vs ns G Y ho hd hcd hmg hobj hints hlen hb hg=>?_;have KX:=hY w _ Y;obtain⟨fd,hbi,hF⟩:=F w mg fa _ KX G.T.g hmg;exact Jv KX G.T.g G.T.b G.T.builtins G.T.nolimit hg hobj hints (RS hlen hn2) hr hF hbi (λH hO hS=>hsp w H a ns hlen hb hO hS) λH e s'=>hCX w H s₁ e s'
theorem walk_ofBK{l:XM}{n k:Nat}{q:YE}{loose:List Str}{XP:(Str->Option Yt)->YG->Prop}{YP:YF->YG->Prop}{d:DefRec}{K:Params->Q7}{CX:fA}{sp:Q7->Sp}{x:Str}
 (hn:l.most=some n)(hn2:n<=YC)(hdf:d.params.defaults=[])(hr:aY k callerA)
 (hY:∀(w:YF) (h:YG),YP w h->(K w.params).In h)
 (F:∀(w:YF) (mg:Str->Option Yt) (fa:Yu) (h:YG),(K w.params).In h->h.Ns YI mg->mg d.name=some (.ref fa)->
  ∃fd:YD,(∀(s:Yw) (u:Yt),BindsTo s fd ⟨[u],[]⟩ [(x,u)])/\
   ∀base:YG,(K w.params).In base->base.Ns YI mg->aB l.prog w (K w.params) mg base CX k fa fd [x] (sp (K w.params)))
 (hsp:∀(K:Q7) (H:Hp) (a:Yu) (ns:List Int),ns.length<=n->(∀z∈ns,SY z<=1048576)->sV H->bq K H a (ns.map V.int)->sp K [.ref a] H (λv _=>v= .bl true) λ_ _ _=>False)
 (hCX:∀(H:Hp) (s:Yw) (e:Yt) (s':Yw),CX [] H s (λ_ _ _=>False) e s'->False):
 X0 q loose XP YP l.row.toRowW d [] (λf vs=>XJ f vs):=
 JJ (K:=K) (CX:=λ_=>CX) (sp:=λw=>sp (K w.params)) hn hn2 hdf hr hY F (λw H a ns h1 hb h2 h3=>hsp (K w.params) H a ns h1 hb h2 h3) λ_ H s e s'=>hCX H s e s'
def pF(p:Yu)(H H':Hp):Prop:=∀b o,H b=some o->b≠p->H' b=some o
theorem ar.new{H:Hp}{p:Yu}{o:HO}(h:H p=none):ar H (ai H p o):=λb u e=>by rw [az (eY e h)];exact e
def FR(J:It)(g:TG)(tb:TS)(D:jQ)(σ:St)(H1:Hp):Prop:=∃W:Nat->Nat->St->Hp->Prop,(∃m,W 0 m σ H1)/\∀i m σ H,W i m σ H->
 (J.stop i H/\D.nx σ H)\/(J.go i H/\∃N:St->Hp->Prop,(∀σ' H',N σ' H'->∃m',m' < m/\W (i+1) m' σ' H')/\∀x H',J.yld i H x H'->g x σ H' λσ2 H2=>tb {D with nx:=N,ct:=N,bk:=D.nx} σ2 H2)
theorem JK{ta:TA}{g:TG}{tb:TS}:qI (vH ta) g tb=λD σ H=>ta σ H λvs H1=>∃j:Int,vs=[.int j]/\-(2 ^ 62)<=j/\j < 2 ^ 62/\FR (je 0 j.toNat) g tb D σ H1:=rfl
theorem JL{ta:TA}{g:TG}{tb:TS}:qI (vI ta) g tb=λD σ H=>ta σ H λvs H1=>∃i j:Int,vs=[.int i,.int j]/\(-(2 ^ 62)<=i/\i < 2 ^ 62/\-(2 ^ 62)<=j/\j < 2 ^ 62)/\FR (je i (j - i).toNat) g tb D σ H1:=rfl
theorem JM{K:Q7}{tl:TE}{g:TG}{tb:TS}:qI (vE K tl) g tb=λD σ H=>tl σ H λx H1=>∃a,x= .ref a/\(∃xs,bq K H1 a xs)/\FR (pA K a) g tb D σ H1:=rfl
theorem JN{K:Q7}{tl:TE}{g:TG}{tb:TS}:qI (vF K tl) g tb=λD σ H=>tl σ H λx H1=>∃a,x= .ref a/\(∃xs,bw K H1 a xs)/\FR (qH K a) g tb D σ H1:=rfl
def mW(J:It)(g:TG)(tc:TT)(te:TE)(k:Nat)(fr:List Nat)(σ:St)(H1:Hp)(Q:VK):Prop:=∀D,H1 D=none->∃W:Nat->Nat->Hp->Prop,(∃m,W 0 m (ai H1 D (.lst [])))/\∀i m H,W i m H->
 (J.stop i H/\Q (.ref D) H)\/(J.go i H/\∀x H',J.yld i H x H'->g x (bx k fr σ) H' λσ2 H2=>kr (bx k fr σ) σ2/\tc σ2 H2 λok H3=>
  if ok=true then te σ2 H3 λy H4=>∃ys,H4 D=some (.lst ys)/\ys.length < YC/\∃m',m' < m/\W (i+1) m' (ai H4 D (.lst (ys++[y])))
  else ∃m',m' < m/\W (i+1) m' H3)
theorem JO{ta:TA}{g:TG}{tc:TT}{te:TE}{k:Nat}{fr:List Nat}:ku (vH ta) g tc te k fr=λσ H Q=>ta σ H λvs H1=>∃j:Int,vs=[.int j]/\-(2 ^ 62)<=j/\j < 2 ^ 62/\mW (je 0 j.toNat) g tc te k fr σ H1 Q:=rfl
theorem JP{ta:TA}{g:TG}{tc:TT}{te:TE}{k:Nat}{fr:List Nat}:ku (vI ta) g tc te k fr=λσ H Q=>ta σ H λvs H1=>∃i j:Int,vs=[.int i,.int j]/\(-(2 ^ 62)<=i/\i < 2 ^ 62/\-(2 ^ 62)<=j/\j < 2 ^ 62)/\mW (je i (j - i).toNat) g tc te k fr σ H1 Q:=rfl
theorem JQ{K:Q7}{tl:TE}{g:TG}{tc:TT}{te:TE}{k:Nat}{fr:List Nat}:ku (vE K tl) g tc te k fr=λσ H Q=>tl σ H λx H1=>∃a,x= .ref a/\(∃xs,bq K H1 a xs)/\mW (pA K a) g tc te k fr σ H1 Q:=rfl
theorem JR{K:Q7}{tl:TE}{g:TG}{tc:TT}{te:TE}{k:Nat}{fr:List Nat}:ku (vF K tl) g tc te k fr=λσ H Q=>tl σ H λx H1=>∃a,x= .ref a/\(∃xs,bw K H1 a xs)/\mW (qH K a) g tc te k fr σ H1 Q:=rfl
theorem Cp{fr:List Nat}{σ:St}{v:Option V}:kr (bx 1 fr σ) ((bx 1 fr σ).set 0 v):=by
 refine⟨Yr,λi w h=>?_⟩;cases i with
 | zero=>simp [bx,RR] at h
 | succ i=>simpa [bx,RR] using h
theorem JS{lo:Int}{n:Nat}{te:TE}{fr:List Nat}{σ:St}{H:Hp}{Q:VK}(f:Nat->V)(hn:n<=1000000)
 (ht:∀(i:Nat) (H':Hp) (R:VK),i < n->ar H H'->(∀H'',ar H' H''->R (f i) H'')->te ((bx 1 fr σ).set 0 (some (.int (lo+i)))) H' R)
 (hq:∀D H',H D=none->ar H H'->H' D=some (.lst ((SE n).map f))->Q (.ref D) H'):mW (je lo n) (gH 0) Ck te 1 fr σ H Q:=by
 intro D hD;refine⟨λi m H'=>m=n - i/\i<=n/\ar H H'/\H' D=some (.lst ((SE i).map f)),⟨n,Yr,Sd _,ar.new hD,by rw [bh];rfl⟩,?_⟩;rintro i m H1 ⟨rfl,hi,s1,e1⟩;by_cases hlt:i < n
 ·refine .inr ⟨hlt,λx H' y=>?_⟩;obtain⟨e,y⟩:=y;subst e y;refine⟨Cp,?_⟩;show te _ _ _;refine ht i H' _ hlt s1 λH2 s2=>?_;refine⟨_,s2 D _ e1,?_,n - (i+1),Yn,rfl,hlt,?_,?_⟩
  ·rw [Q8,UU,YY];omega
  ·exact λb o h=>by rw [az (eY h hD)];exact s2 b o (s1 b o h)
  ·rw [bh,UP,RH];rfl
 ·have e:i=n:=Yn
  subst e;exact .inl ⟨Rf _,hq D H1 hD s1 e1⟩
theorem cxK{CX:fA}{P:YE}{w:YF}{K:Q7}{mg:Str->Option Yt}{base:YG}{N:List Str}{qual:Str}{scope:Y4}{f:Yu}{cd:Yt}{A:YJ}{outer:List Env}{s:Yw}{H:Hp}{E:XK}:(iI CX P w K mg base N qual scope f cd A outer s H E).K=K:=rfl
theorem cmK{X:Cx}{scope:Y4}{N':List Str}{fp:List Yu}{C:Yu}{s:Yw}{H:Hp}:(bE X scope N' fp C s H).K=X.K:=rfl
theorem ji{K:Q7}{p:Yu}{xs:List V}{i:Int}{v:V}{H:Hp}{Q:VK}(h:bw K H p xs)(hv:atI xs i=some v)(q:Q v H):sS K (.ref p) (.int i) H Q:=⟨p,xs,i,v,rfl,rfl,h,hv,q⟩
theorem JT{α:Type}{xs:List α}{i:Int}(h0:0<=i)(h1:i < xs.length):∃v,atI xs i=some v/\v∈xs:=by
 obtain⟨j,rfl⟩:=SK h0;have hj:j < xs.length:=Yn
 exact⟨xs[j],iJ (by simp [hj]),Ti hj⟩
theorem we{a b:Int}:(if b < a then b else a)=min a b:=by
 by_cases h:b < a
 ·rw [Yp h];omega
 ·rw [Yo h];omega
theorem sY:YS "int"=some (.type "int"):=cp
theorem gT:YS "tuple"=some (.type "tuple"):=cp
theorem JU:YS "list"=some (.type "list"):=cp
theorem JV:YS "dict"=some (.type "dict"):=cp
open PySem PySem.Spec PyProof.Rows PySem.W
section
variable {M:Model} {A:YJ} {E:Yt->Yw->Prop}
variable {nm q:Str} {C N:Yu} {bs bm:List Yt} {hdct:Bool} {sn:List Str} {sub:List Yt} {ab:Bool} {col:Option Bool} {dd:Option Yu} {k0 k1 k2 k3 k5:Option Yt} {newId:String}
variable {nm' q':Str} {C' N':Yu} {bs' bm':List Yt} {hdct':Bool} {sn':List Str} {sub':List Yt} {ab':Bool} {col':Option Bool} {dd':Option Yu} {k0' k1' k2' k3' k5':Option Yt} {newId':String}
end
section
variable {X:Cx}
theorem JW{bs:List Bool}{its:List Yt}(r:aH (bs.map V.bl) its):its=bs.map UL:=by
 induction bs generalizing its with
 | nil=>cases r;rfl
 | cons b bs ih=>
  rw [Rb] at r;cases r with
  | cons r1 r2=>
   rw [Rb,<-ih r2];exact congrArg (·::_) r1
theorem JX(bs:List Bool)(f:Nat->Bool)(h:∀i,i < bs.length->f i=bs.getD i true):(SE bs.length).any f=bs.any id:=by
 rw [UM,T9,T9];constructor
 ·rintro⟨i,hi,z⟩;have hi:=WK.mp hi;rw [h i hi,Ve,RG hi] at z;exact⟨_,Ti hi,z⟩
 ·rintro⟨b,hb,z⟩;obtain⟨i,hi,e⟩:=VZ hb;refine⟨i,WK.mpr hi,?_⟩;rw [h i hi,Ve,RG hi];show bs[i]=true;rw [e];exact z
theorem JY{bs:List Bool}{i:Nat}{v:Yt}(h:(bs.map UL).toArray[i]?=some v):v= .bool (bs.getD i true):=by
 have h':(bs.map UL)[i]?=some v:=by simpa using h
 rw [Rt] at h';cases e:bs[i]? with
 | none=>rw [e] at h';cases h'
 | some b=>
  rw [e] at h';rw [Ve,e];exact(Sk h').symm
theorem JZ{prog:YE}{w:YF}{A:YJ}{E:Yt->Yw->Prop}{s:Yw}{l:Yu}{items:Array Yt}{Q:Yt->Yw->Prop}(hl:s.heap.IsList l items)
 (h:∀s₂:Yw,s₂={s with heap:=s.heap.push {cls:= .type "list_iterator",data:= .fields #[.ref l,.int 0 0]}}->
  (s₂.heap.IsListIter s.heap.objs.size l 0/\s₂.heap.IsList l items)->l≠s.heap.objs.size->Q (.ref s.heap.objs.size) s₂):Yy (YB prog w) A (pyIter (.ref l)) Q E s:=by
 have hlt:l < s.heap.objs.size:=by obtain⟨_,e,_⟩:=hl;exact Rx e
 exact ZI hl (h _ rfl ⟨⟨_,RJ _ rfl,rfl,rfl⟩,hl.push _⟩ (RI hlt))
theorem J0(hc:X.calm=true):eJ X (.builtin "any") (λxs H Q=>∃(a:Yu)(bs:List Bool),xs=[.ref a]/\bq X.K H a (bs.map V.bl)/\Q (.bl (bs.any id)) H):=by
 intro aaa s σ H xs us Q I r h;obtain⟨a,bs,rfl,hl,q⟩:=h;obtain⟨u,rfl,rx⟩:=fb r;cases rx;obtain⟨its,rv,p,hz⟩:=I.list hl;have hi:=JW rv;subst hi;refine call_any_walk (JZ p.isList λs₂ e st A6=>?_);subst e;refine⟨_,_,_,_,_,_,λi=>bs.getD i true,rfl,XN (A:=X.A.in1) (I.ok.hd hc) _ a A6 _,st,λi v s' Q' E' hP hq=>by rw [JY hP];exact Y2 hq,λh' tk hk=>?_⟩;have e:=JX bs (λi=>bs.getD i true) λ_ _=>rfl;have e2:(Sb UL bs).toArray.size=bs.length:=Yr
 rw [e2,e];exact⟨.bl (bs.any id),H,I.kept (old_kept hk),rfl,q⟩
end
open PySem PySem.Spec PyProof.Rows PySem.W PySem.Calls PySem.Builtin.ObjectAttr PySem.Builtin PySem.Builtin.Getset_descriptor
section
variable {X:Cx}
abbrev cJ(d:Ys):Prop:=VR d=true
end
theorem J1:YS "any"=some (.builtin "any"):=cp
def J3(p:Yu)(h:YG):Prop:=∃(n:Int)(t:Tok)(k:Nat),h.get? p=some {cls:= .type "list",data:= .seq #[.int n t] k}
abbrev J4(p:Yu):HO:= .ext (J3 p)
abbrev J5:Ys:= .dict [(.none,.none)]
def J6(p:Yu)(h:YG):Prop:=∃(a b c:Int)(t u v:Tok)(k:Nat),h.get? p=some {cls:= .type "list",data:= .seq #[.int a t,.int b u,.int c v] k}
abbrev J7(p:Yu):HO:= .ext (J6 p)
abbrev J8:Ys:= .dict [(.none,.bool true)]
abbrev jj(ds:List Ys):Ys:= .dict [(.none,.list ds)]
abbrev fK(C:Yu)(kp ds:List Ys):Ys:= .dict [(.none,.tuple [.int (C:Int),.list kp,.list ds])]
abbrev Cq(kp ds:List Ys):Ys:= .dict [(.bool true,.tuple [.list kp,.list ds])]
abbrev Ex:=Yu->Prop
abbrev sZ:Hp:=λ_=>none
mutual
inductive Dt (K:Q7) (H:Hp) (O:Ex):V->Ys->Prop
 | non:Dt K H O .non .none
 | bl (b:Bool):Dt K H O (.bl b) (.bool b)
 | int (i:Int):Dt K H O (.int i) (.int i)
 | str (x:Str):Dt K H O (.str x) (.str x)
 | tup {a:Yu} {xs:List V} {ds:List Ys}:Rd H a (.tup xs)->¬O a->ak K H O xs ds->Dt K H O (.ref a) (.tuple ds)
 | tupK {a:Yu} {xs:List V} {ds:List Ys}:bw K sZ a xs->ak K H O xs ds->Dt K H O (.ref a) (.tuple ds)
 | lst {a:Yu} {xs:List V} {ds:List Ys}:Rd H a (.lst xs)->¬O a->ak K H O xs ds->Dt K H O (.ref a) (.list ds)
 | pack {p:Yu}:H p=some (J4 p)->¬O p->Dt K H O (.ref p) J5
 | purse {p:Yu}:H p=some (J7 p)->¬O p->Dt K H O (.ref p) J8
 | dct0 {a:Yu}:H a=some (.dK [])->¬O a->Dt K H O (.ref a) (.dict [])
 | obj {a C dx:Yu} {fs:List (Str×V)} {kp ds:List Ys}:H a=some (.ins C dx fs)->kp=fs.map (λp=>Ra p.1)->¬O a->ak K H O (fs.map (·.2)) ds->Dt K H O (.ref a) (fK C kp ds)
 | dic {a:Yu} {ob:Obj} {kv:List (ah×V)} {ks:List Str} {kp ds:List Ys}:H a=some (.frz ob (.dK kv))->kv.map (·.1)=ks.map R9->kp=ks.map Ra->¬O a->ak K H O (kv.map (·.2)) ds->Dt K H O (.ref a) (Cq kp ds)
 | scr {a:Yu} {xs:List V} {ds:List Ys}:(Rd H a (.lst xs)/\¬O a)\/bq K sZ a xs->ak K H O xs ds->Dt K H O (.ref a) (jj ds)
inductive ak (K:Q7) (H:Hp) (O:Ex):List V->List Ys->Prop
 | nil:ak K H O [] []
 | cons {v:V} {d:Ys} {vs:List V} {ds:List Ys}:Dt K H O v d->ak K H O vs ds->ak K H O (v::vs) (d::ds)
end
theorem Rd.same{H H':Hp}{a:Yu}{u:HO}(s:∀o,H a=some o->H' a=some o)(h:Rd H a u):Rd H' a u:=by
 rcases h with h | ⟨o,h⟩
 ·exact .inl (s _ h)
 ·exact .inr ⟨o,s _ h⟩
theorem Rd.trk{H:Hp}{a:Yu}{u:HO}(h:Rd H a u):H a≠none:=by
 rcases h with h | ⟨o,h⟩ <;> rw [h] <;> exact λz=>nomatch z
section
variable {K:Q7}
structure aM (H H':Hp) (O O':Ex):Prop where
 keep:∀b o,H b=some o->¬O b->H' b=some o
 out:∀b,H b≠none->¬O b->¬O' b
mutual
theorem Dt.step{H H':Hp}{O O':Ex}(S:aM H H' O O'):∀{v:V}{d:Ys},Dt K H O v d->Dt K H' O' v d
 | _,_,.non=>.non
 | _,_,.bl b=>.bl b
 | _,_,.int i=>.int i
 | _,_,.str x=>.str x
 | _,_,.tup h n r=>.tup (h.same λo e=>S.keep _ o e n) (S.out _ h.trk n) (ak.step S r)
 | _,_,.tupK h r=>.tupK h (ak.step S r)
 | _,_,.lst h n r=>.lst (h.same λo e=>S.keep _ o e n) (S.out _ h.trk n) (ak.step S r)
 | _,_,.pack h n=>.pack (S.keep _ _ h n) (S.out _ (by rw [h];exact λz=>nomatch z) n)
 | _,_,.purse h n=>.purse (S.keep _ _ h n) (S.out _ (by rw [h];exact λz=>nomatch z) n)
 | _,_,.dct0 h n=>.dct0 (S.keep _ _ h n) (S.out _ (by rw [h];exact λz=>nomatch z) n)
 | _,_,.obj h e n r=>.obj (S.keep _ _ h n) e (S.out _ (by rw [h];exact λz=>nomatch z) n) (ak.step S r)
 | _,_,.dic h e1 e2 n r=>.dic (S.keep _ _ h n) e1 e2 (S.out _ (by rw [h];exact λz=>nomatch z) n) (ak.step S r)
 | _,_,.scr h r=>.scr (h.imp (λh=>⟨h.1.same λo e=>S.keep _ o e h.2,S.out _ h.1.trk h.2⟩) id) (ak.step S r)
theorem ak.step{H H':Hp}{O O':Ex}(S:aM H H' O O'):∀{vs:List V}{ds:List Ys},ak K H O vs ds->ak K H' O' vs ds
 | _,_,.nil=>.nil
 | _,_,.cons h r=>.cons (Dt.step S h) (ak.step S r)
end
theorem aM.same{H H':Hp}{O:Ex}(s:ar H H'):aM H H' O O:=⟨λb o e _=>s b o e,λ_ _ n=>n⟩
theorem Dt.mono{H H':Hp}{O:Ex}{v:V}{d:Ys}(s:ar H H')(h:Dt K H O v d):Dt K H' O v d:=h.step (.same s)
theorem ak.mono{H H':Hp}{O:Ex}{v:List V}{d:List Ys}(s:ar H H')(h:ak K H O v d):ak K H' O v d:=h.step (.same s)
theorem ak.length{H:Hp}{O:Ex}:∀{vs:List V}{ds:List Ys},ak K H O vs ds->vs.length=ds.length
 | _,_,.nil=>rfl
 | _,_,.cons _ r=>by rw [Rq,Rq,ak.length r]
theorem ak.get{H:Hp}{O:Ex}:∀{vs:List V}{ds:List Ys}{i:Nat}{v:V},ak K H O vs ds->vs[i]?=some v->∃d,ds[i]?=some d/\Dt K H O v d
 | _,_,_,_,.nil,e=>by simp at e
 | _,_,0,_,.cons h _,e=>by simp at e;subst e;exact⟨_,rfl,h⟩
 | _,_,i+1,_,.cons _ r,e=>by simpa using ak.get (i:=i) r (by simpa using e)
theorem ak.getD{H:Hp}{O:Ex}:∀{vs:List V}{ds:List Ys}{i:Nat}{d:Ys},ak K H O vs ds->ds[i]?=some d->∃v,vs[i]?=some v/\Dt K H O v d
 | _,_,_,_,.nil,e=>by simp at e
 | _,_,0,_,.cons h _,e=>by simp at e;subst e;exact⟨_,rfl,h⟩
 | _,_,i+1,_,.cons _ r,e=>by simpa using ak.getD (i:=i) r (by simpa using e)
theorem ak.append{H:Hp}{O:Ex}:∀{vs ws:List V}{ds es:List Ys},ak K H O vs ds->ak K H O ws es->ak K H O (vs++ws) (ds++es)
 | _,_,_,_,.nil,s=>s
 | _,_,_,_,.cons h r,s=>.cons h (ak.append r s)
theorem ak.take{H:Hp}{O:Ex}:∀{vs:List V}{ds:List Ys}(n:Nat),ak K H O vs ds->ak K H O (vs.take n) (ds.take n)
 | _,_,0,_=>.nil
 | _,_,_+1,.nil=>.nil
 | _,_,n+1,.cons h r=>.cons h (ak.take n r)
theorem ak.drop{H:Hp}{O:Ex}:∀{vs:List V}{ds:List Ys}(n:Nat),ak K H O vs ds->ak K H O (vs.drop n) (ds.drop n)
 | _,_,0,r=>r
 | _,_,_+1,.nil=>.nil
 | _,_,n+1,.cons _ r=>ak.drop n r
theorem ak.ints{H:Hp}{O:Ex}:∀(ns:List Int),ak K H O (ns.map V.int) (ns.map Rg)
 | []=>.nil
 | n::r=>.cons (.int n) (ak.ints r)
inductive Sh (K:Q7) (H:Hp) (O:Ex):V->Ys->Prop
 | dt {v:V} {d:Ys}:Dt K H O v d->Sh K H O v d
 | own {l:Yu} {vs:List V} {ds:List Ys}:H l=some (.lst vs)->ak K H O vs ds->Sh K H O (.ref l) (.list ds)
theorem Sh.mono{H H':Hp}{O:Ex}{v:V}{d:Ys}(s:ar H H'):Sh K H O v d->Sh K H' O v d
 | .dt h=>.dt (h.mono s)
 | .own h r=>.own (s _ _ h) (r.mono s)
theorem Dt.all{H:Hp}{O:Ex}{v:V}{d:Ys}(h:Dt K H O v d):Dt K H (λ_=>False) v d:=h.step ⟨λ_ _ e _=>e,λ_ _ _ z=>z⟩
theorem ak.all{H:Hp}{O:Ex}{v:List V}{d:List Ys}(h:ak K H O v d):ak K H (λ_=>False) v d:=h.step ⟨λ_ _ e _=>e,λ_ _ _ z=>z⟩
theorem Sh.all{H:Hp}{O:Ex}{v:V}{d:Ys}:Sh K H O v d->Dt K H (λ_=>False) v d
 | .dt h=>h.all
 | .own h r=>.lst (.inl h) (λz=>z) r.all
theorem bw.of0{H:Hp}{a:Yu}{xs:List V}(h:bw K sZ a xs):bw K H a xs:=by
 rcases h with(h | ⟨o,h⟩) | h
 ·cases h
 ·cases h
 ·exact .inr h
theorem bq.of0{H:Hp}{a:Yu}{xs:List V}(h:bq K sZ a xs):bq K H a xs:=by
 rcases h with(h | ⟨o,h⟩) | h
 ·cases h
 ·cases h
 ·exact .inr h
theorem Sh.tup{H:Hp}{O:Ex}{v:V}{ds:List Ys}(h:Sh K H O v (.tuple ds)):∃a xs,v= .ref a/\bw K H a xs/\ak K H O xs ds:=by
 cases h with
 | dt h=>
  cases h with
  | tup h _ r=>exact⟨_,_,rfl,.inl h,r⟩
  | tupK h r=>exact⟨_,_,rfl,h.of0,r⟩
theorem Sh.lstR{H:Hp}{O:Ex}{v:V}{ds:List Ys}(h:Sh K H O v (.list ds)):∃a xs,v= .ref a/\Rd H a (.lst xs)/\ak K H O xs ds:=by
 cases h with
 | dt h=>
  cases h with
  | lst h _ r=>exact⟨_,_,rfl,h,r⟩
 | own h r=>exact⟨_,_,rfl,.inl h,r⟩
theorem Sh.lst{H:Hp}{O:Ex}{v:V}{ds:List Ys}(h:Sh K H O v (.list ds)):∃a xs,v= .ref a/\bq K H a xs/\ak K H O xs ds:=by
 obtain⟨a,xs,e,h,r⟩:=h.lstR;exact⟨a,xs,e,.inl h,r⟩
theorem Sh.scr{H:Hp}{O:Ex}{v:V}{ds:List Ys}(h:Sh K H O v (jj ds)):∃a xs,v= .ref a/\bq K H a xs/\ak K H O xs ds:=by
 cases h with
 | dt h=>
  cases h with
  | scr h r=>
   rcases h with h | h
   ·exact⟨_,_,rfl,.inl h.1,r⟩
   ·exact⟨_,_,rfl,h.of0,r⟩
theorem Sh.int{H:Hp}{O:Ex}{v:V}{i:Int}(h:Sh K H O v (.int i)):v= .int i:=by cases h with | dt h=>cases h;rfl
theorem Sh.bl{H:Hp}{O:Ex}{v:V}{i:Bool}(h:Sh K H O v (.bool i)):v= .bl i:=by cases h with | dt h=>cases h;rfl
theorem Sh.str{H:Hp}{O:Ex}{v:V}{i:Str}(h:Sh K H O v (.str i)):v= .str i:=by cases h with | dt h=>cases h;rfl
theorem Sh.non{H:Hp}{O:Ex}{v:V}(h:Sh K H O v .none):v= .non:=by cases h with | dt h=>cases h;rfl
def jk:Ys->Bool
 | .none | .bool _ | .int _ | .str _=>true
 | _=>false
end
section
variable {X:Cx} {aaa:List (Yu×Obj)} {σ:St} {H:Hp} {s:Yw}
mutual
theorem iK(I:af X aaa σ H s){O:Ex}:∀{v:V}{d:Ys}{u:Yt},Dt X.K H O v d->d.canLay0=true->aC v u->∃as,Reads s.heap u d as
 | _,_,_,.non,_,r=>by cases r;exact⟨_,Reads.none⟩
 | _,_,_,.bl b,_,r=>by cases r;exact⟨_,Reads.bool b⟩
 | _,_,_,.int i,_,r=>by obtain⟨t,rfl⟩:=r;exact⟨_,Reads.int i t⟩
 | _,_,_,.str x,_,r=>by obtain⟨t,rfl⟩:=r;exact⟨_,Reads.str x t⟩
 | _,_,_,.tup h _ hs,c,r=>by
  cases r;obtain⟨its,rv,⟨o,e,c',n,dd⟩,_⟩:=I.tuple (.inl h);obtain⟨as,q⟩:=tf I hs (by simpa [R3] using c) rv;exact⟨as,reads_tuple_at e c' dd (by simpa using q)⟩
 | _,_,_,.tupK h hs,c,r=>by
  cases r;obtain⟨its,rv,⟨o,e,c',n,dd⟩,_⟩:=I.tuple h.of0;obtain⟨as,q⟩:=tf I hs (by simpa [R3] using c) rv;exact⟨as,reads_tuple_at e c' dd (by simpa using q)⟩
 | _,_,_,.lst h _ hs,c,r=>by
  cases r;obtain⟨its,rv,⟨o,n,e,c',_,dd⟩,_⟩:=I.list (.inl h);obtain⟨as,q⟩:=tf I hs (by simpa [R3] using c) rv;exact⟨_,reads_list_at e c' dd (by simpa using q)⟩
 | _,_,_,.pack _ _,c,_=>by simp [R3] at c
 | _,_,_,.purse _ _,c,_=>by simp [R3] at c
 | _,_,_,.dct0 _ _,c,_=>by simp [R3] at c
 | _,_,_,.obj _ _ _ _,c,_=>by simp [R3] at c
 | _,_,_,.dic _ _ _ _ _,c,_=>by simp [R3] at c
 | _,_,_,.scr _ _,c,_=>by simp [R3] at c
theorem tf(I:af X aaa σ H s){O:Ex}:∀{vs:List V}{ds:List Ys}{us:List Yt},ak X.K H O vs ds->SQ ds=true->aH vs us->∃as,ReadsAll s.heap us ds as
 | _,_,_,.nil,_,r=>by cases r;exact⟨_,ReadsAll.nil⟩
 | _,_,_,.cons h hs,c,r=>by
  rw [SQ,Si] at c;cases r with
  | cons r1 r2=>
   obtain⟨as,q⟩:=iK I h c.1 r1;obtain⟨bs,p⟩:=tf I hs c.2 r2;exact⟨_,ReadsAll.cons q p⟩
end
end
inductive Sl where
 | v (d:Ys)
 | o (ds:List Ys)
 | k (kd:List (ah×Ys))
 | i (l C:Yu) (fd:List (Str×Ys))
 | r (l C g u:Yu) (fd:List (Str×Ys)) (gd ud:List (ah×Ys))
 | b (ds:List Ys)
abbrev Dl:=List (Option Sl)
inductive br (K:Q7) (H:Hp) (O:Ex):List (ah×V)->List (ah×Ys)->Prop
 | nil:br K H O [] []
 | cons {k:ah} {v:V} {d:Ys} {r:List (ah×V)} {s:List (ah×Ys)}:Dt K H O v d->br K H O r s->br K H O ((k,v)::r) ((k,d)::s)
theorem br.step{K:Q7}{H H':Hp}{O O':Ex}(S:aM H H' O O'){r:List (ah×V)}{s:List (ah×Ys)}(h:br K H O r s):br K H' O' r s:=by
 induction h with
 | nil=>exact .nil
 | cons a _ ih=>exact .cons (a.step S) ih
theorem br.mono{K:Q7}{H H':Hp}{O:Ex}(S:ar H H'){r:List (ah×V)}{s:List (ah×Ys)}(h:br K H O r s):br K H' O r s:=h.step (.same S)
def iL(K:Q7)(H:Hp)(O:Ex)(fs:List (Str×V))(fd:List (Str×Ys)):Prop:=fs.map (·.1)=fd.map (·.1)/\ak K H O (fs.map (·.2)) (fd.map (·.2))
def Sl.own:Sl->Prop
 | .v _=>False
 | .b _=>False
 | _=>True
abbrev cc:Str:=Q6 "gone"
abbrev dG:Str:=Q6 "used"
def wg(K:Q7)(H:Hp)(O0 O:Ex)(l C g u:Yu)(fd:List (Str×Ys))(gd ud:List (ah×Ys)):Prop:=∃dx fs og ou gv uv,H l=some (.ins C dx (fs++[(cc,.ref g),(dG,.ref u)]))/\iL K H O fs fd/\g≠u/\
 (O g/\¬O0 g/\H g=some (.frz og (.dK gv))/\br K H O gv gd)/\(O u/\¬O0 u/\H u=some (.frz ou (.dK uv))/\br K H O uv ud)
def gU(K:Q7)(H:Hp)(O0 O:Ex)(x:Option V):Option Sl->Prop
 | none=>True
 | some (.v d)=>∃v,x=some v/\Dt K H O v d
 | some (.o ds)=>∃l vs,x=some (.ref l)/\O l/\¬O0 l/\H l=some (.lst vs)/\ak K H O vs ds
 | some (.k kd)=>∃l kv,x=some (.ref l)/\O l/\¬O0 l/\H l=some (.dK kv)/\br K H O kv kd
 | some (.i l C fd)=>∃dx fs,x=some (.ref l)/\O l/\¬O0 l/\H l=some (.ins C dx fs)/\iL K H O fs fd
 | some (.r l C g u fd gd ud)=>x=some (.ref l)/\O l/\¬O0 l/\wg K H O0 O l C g u fd gd ud
 | some (.b ds)=>∃l vs,x=some (.ref l)/\O0 l/\H l=some (.lst vs)/\ak K H O vs ds
structure Wd (K:Q7) (H0:Hp) (O0:Ex) (H:Hp) (O:Ex) (σ:St) (δ:Dl):Prop where
 same:ar H0 H
 sub:∀l,O0 l->O l
 new:∀l,O l->O0 l\/H0 l=none
 trk:∀l,O l->H l≠none
 len:σ.length=δ.length
 sl:∀(i:Nat) y,δ[i]?=some y->gU K H O0 O ((σ[i]?).join) y
 dis:∀(i j:Nat) y z l,δ[i]?=some (some y)->y.own->δ[j]?=some (some z)->z.own->σ[i]?=some (some (.ref l))->σ[j]?=some (some (.ref l))->i=j
section
variable {K:Q7} {H0 H H':Hp} {O0 O:Ex} {σ:St} {δ:Dl}
theorem gU.mono{x:Option V}{y:Option Sl}(s:ar H H')(h:gU K H O0 O x y):gU K H' O0 O x y:=by
 cases y with
 | none=>exact S9
 | some y=>
  cases y with
  | v d=>
   obtain⟨v,e,r⟩:=h;exact⟨v,e,r.mono s⟩
  | o ds=>
   obtain⟨l,vs,e,a,b,c,r⟩:=h;exact⟨l,vs,e,a,b,s _ _ c,r.mono s⟩
  | k ds=>
   obtain⟨l,vs,e,a,b,c,r⟩:=h;exact⟨l,vs,e,a,b,s _ _ c,r.mono s⟩
  | i l C ds=>
   obtain⟨dx,vs,e,a,b,c,r1,r2⟩:=h;exact⟨dx,vs,e,a,b,s _ _ c,r1,r2.mono s⟩
  | r l C g u fd gd ud=>
   obtain⟨e,a,b,dx,fs,og,ou,gv,uv,c,⟨r1,r2⟩,ne,⟨g1,g2,g3,g4⟩,u1,u2,u3,u4⟩:=h;exact⟨e,a,b,dx,fs,og,ou,gv,uv,s _ _ c,⟨r1,r2.mono s⟩,ne,⟨g1,g2,s _ _ g3,g4.mono s⟩,u1,u2,s _ _ u3,u4.mono s⟩
  | b ds=>
   obtain⟨l,vs,e,a,c,r⟩:=h;exact⟨l,vs,e,a,s _ _ c,r.mono s⟩
theorem gU.go{O':Ex}{x:Option V}{y:Option Sl}(h:gU K H O0 O x y)(S:aM H H' O O')(kp:∀l o,y.any (λz=>match z with | .v _=>false | .b _=>false | _=>true)=true->x=some (.ref l)->O l->¬O0 l->H l=some o->O' l/\H' l=some o)
 (kp2:∀a o u,O a->¬O0 a->H a=some (.frz o u)->O' a/\H' a=some (.frz o u))(kp3:∀a o,O0 a->H a=some o->H' a=some o):gU K H' O0 O' x y:=by
 cases y with
 | none=>exact S9
 | some y=>
  cases y with
  | v d=>
   obtain⟨v,e,r⟩:=h;exact⟨v,e,r.step S⟩
  | o ds=>
   obtain⟨l,vs,e,a,b,c,r⟩:=h;exact⟨l,vs,e,(kp l _ rfl e a b c).1,b,(kp l _ rfl e a b c).2,r.step S⟩
  | k ds=>
   obtain⟨l,vs,e,a,b,c,r⟩:=h;exact⟨l,vs,e,(kp l _ rfl e a b c).1,b,(kp l _ rfl e a b c).2,r.step S⟩
  | i l C ds=>
   obtain⟨dx,vs,e,a,b,c,r1,r2⟩:=h;exact⟨dx,vs,e,(kp l _ rfl e a b c).1,b,(kp l _ rfl e a b c).2,r1,r2.step S⟩
  | r l C g u fd gd ud=>
   obtain⟨e,a,b,dx,fs,og,ou,gv,uv,c,⟨r1,r2⟩,ne,⟨g1,g2,g3,g4⟩,u1,u2,u3,u4⟩:=h;exact⟨e,(kp l _ rfl e a b c).1,b,dx,fs,og,ou,gv,uv,(kp l _ rfl e a b c).2,⟨r1,r2.step S⟩,ne,⟨(kp2 _ _ _ g1 g2 g3).1,g2,(kp2 _ _ _ g1 g2 g3).2,g4.step S⟩,(kp2 _ _ _ u1 u2 u3).1,u2,(kp2 _ _ _ u1 u2 u3).2,u4.step S⟩
  | b ds=>
   obtain⟨l,vs,e,a,c,r⟩:=h;exact⟨l,vs,e,a,kp3 _ _ a c,r.step S⟩
theorem Wd.mono(s:ar H H')(w:Wd K H0 O0 H O σ δ):Wd K H0 O0 H' O σ δ:=
 ⟨w.same.trans s,w.sub,w.new,λl h z=>(by
  cases e:H l with
  | none=>exact w.trk l h e
  | some o=>rw [s _ _ e] at z;cases z),w.len,λi y e=>(w.sl i y e).mono s,w.dis⟩
theorem fL{i:Nat}{v:V}(h:(σ[i]?).join=some v):σ[i]?=some (some v):=by
 cases q:σ[i]? with
 | none=>rw [q] at h;cases h
 | some o=>rw [q] at h;rw [show o=some v from h]
theorem Wd.val(w:Wd K H0 O0 H O σ δ){i:Nat}{d:Ys}(e:δ[i]?=some (some (.v d))):∃v,σ[i]?=some (some v)/\Dt K H O v d:=by
 obtain⟨v,h,r⟩:=w.sl i _ e;exact⟨v,fL h,r⟩
theorem Wd.own(w:Wd K H0 O0 H O σ δ){i:Nat}{ds:List Ys}(e:δ[i]?=some (some (.o ds))):∃l vs,σ[i]?=some (some (.ref l))/\O l/\¬O0 l/\H l=some (.lst vs)/\ak K H O vs ds:=by
 obtain⟨l,vs,h,r⟩:=w.sl i _ e;exact⟨l,vs,fL h,r⟩
theorem Wd.ownK(w:Wd K H0 O0 H O σ δ){i:Nat}{kd:List (ah×Ys)}(e:δ[i]?=some (some (.k kd))):∃l kv,σ[i]?=some (some (.ref l))/\O l/\¬O0 l/\H l=some (.dK kv)/\br K H O kv kd:=by
 obtain⟨l,vs,h,r⟩:=w.sl i _ e;exact⟨l,vs,fL h,r⟩
theorem Wd.ownI(w:Wd K H0 O0 H O σ δ){i:Nat}{l C:Yu}{fd:List (Str×Ys)}(e:δ[i]?=some (some (.i l C fd))):∃dx fs,σ[i]?=some (some (.ref l))/\O l/\¬O0 l/\H l=some (.ins C dx fs)/\iL K H O fs fd:=by
 obtain⟨dx,vs,h,r⟩:=w.sl i _ e;exact⟨dx,vs,fL h,r⟩
theorem Wd.adr(w:Wd K H0 O0 H O σ δ){i:Nat}{y:Sl}(e:δ[i]?=some (some y))(h:y.own):∃l,σ[i]?=some (some (.ref l))/\O l/\¬O0 l:=by
 match y,h,e with
 | .o ds,_,e=>obtain⟨l,vs,a,b,c,_⟩:=w.own e;exact⟨l,a,b,c⟩
 | .k ds,_,e=>obtain⟨l,vs,a,b,c,_⟩:=w.ownK e;exact⟨l,a,b,c⟩
 | .i l C ds,_,e=>obtain⟨dx,vs,a,b,c,_⟩:=w.ownI e;exact⟨l,a,b,c⟩
 | .r l C g u fd gd ud,_,e=>obtain⟨a,b,c,_⟩:=w.sl i _ e;exact⟨l,fL a,b,c⟩
theorem Wd.nofrz(w:Wd K H0 O0 H O σ δ){i:Nat}{y:Sl}{l:Yu}(e:δ[i]?=some (some y))(h:y.own)(hl:σ[i]?=some (some (.ref l)))(o:Obj)(u:HO):H l≠some (.frz o u):=by
 match y,h,e with
 | .o ds,_,e=>obtain⟨l',vs,a,b,c,d,_⟩:=w.own e;rw [hl] at a;cases a;rw [d];exact λz=>nomatch z
 | .k ds,_,e=>obtain⟨l',vs,a,b,c,d,_⟩:=w.ownK e;rw [hl] at a;cases a;rw [d];exact λz=>nomatch z
 | .i l C ds,_,e=>obtain⟨dx,vs,a,b,c,d,_⟩:=w.ownI e;rw [hl] at a;cases a;rw [d];exact λz=>nomatch z
 | .r l C g u fd gd ud,_,e=>obtain⟨a,b,c,_,_,_,_,_,_,d,_⟩:=w.sl i _ e;have a:=fL a;rw [hl] at a;cases a;rw [d];exact λz=>nomatch z
theorem Wd.set(w:Wd K H0 O0 H O σ δ){i:Nat}{v:V}{d:Ys}(h:Dt K H O v d):Wd K H0 O0 H O (σ.set i (some v)) (δ.set i (some (.v d))):=by
 refine⟨w.same,w.sub,w.new,w.trk,by simp [w.len],λj y e=>?_,λj k y z l e1 y1 e2 z2 e3 e4=>?_⟩
 ·by_cases hj:j=i
  ·subst hj;have hl:j < δ.length:=by
    have:=(Rm.mp e).1;simpa using this
   rw [RL hl] at e;cases e;rw [RL (by rw [w.len];exact hl)];exact⟨v,rfl,h⟩
  ·rw [Rr (Ne.symm hj)] at e⊢;exact w.sl j y e
 ·have ne:∀{j:Nat}{y:Sl},(δ.set i (some (.v d)))[j]?=some (some y)->y.own->j≠i:=λ{j y} e ho z=>by
   subst z;by_cases hl:j < δ.length
   ·rw [RL hl] at e;cases e;exact ho
   ·rw [S6 (by simpa using hl)] at e;cases e
  have n1:=ne e1 y1;have n2:=ne e2 z2;rw [Rr (Ne.symm n1)] at e1 e3;rw [Rr (Ne.symm n2)] at e2 e4;exact w.dis j k y z l e1 y1 e2 z2 e3 e4
theorem Wd.setY(w:Wd K H0 O0 H O σ δ){i:Nat}{p:Yu}{ho:HO}{y0:Sl}(hy:y0.own)(hp:H p=none)(h:∀O',aM H (ai H p ho) O O'->O' p->¬O0 p->gU K (ai H p ho) O0 O' (some (.ref p)) (some y0)):
 Wd K H0 O0 (ai H p ho) (λl=>O l\/l=p) (σ.set i (some (.ref p))) (δ.set i (some y0)):=by
 have sm:ar H (ai H p ho):=ar.new hp;have np:∀l,O l->l≠p:=λl hl z=>w.trk l hl (by rw [z];exact hp);have p0:H0 p=none:=by
  cases e:H0 p with
  | none=>rfl
  | some o=>rw [w.same _ _ e] at hp;cases hp
 have S:aM H (ai H p ho) O (λl=>O l\/l=p):=⟨λb o e _=>sm b o e,λb hb hn z=>z.elim hn λq=>hb (by rw [q];exact hp)⟩;have n0:¬O0 p:=λz=>np p (w.sub p z) rfl;refine⟨w.same.trans sm,λl z=>.inl (w.sub l z),λl z=>z.elim (w.new l) λq=>.inr (by rw [q];exact p0),λl z=>?_,by simp [w.len],λj y e=>?_,λj k y z l e1 y1 e2 z2 e3 e4=>?_⟩
 ·by_cases q:l=p
  ·rw [q,bh];exact λz=>nomatch z
  ·rw [az q];exact w.trk l (z.resolve_right q)
 ·by_cases hj:j=i
  ·subst hj;have hl:j < δ.length:=by
    have:=(Rm.mp e).1;simpa using this
   rw [RL hl] at e;cases e;rw [RL (by rw [w.len];exact hl)];exact h _ S (.inr rfl) n0
  ·rw [Rr (Ne.symm hj)] at e⊢;exact(w.sl j y e).go S (λl o _ _ a _ c=>⟨.inl a,sm _ _ c⟩) (λa o u a1 _ a3=>⟨.inl a1,sm _ _ a3⟩) λa o _ a3=>sm _ _ a3
 ·by_cases hj:j=i
  ·by_cases hk:k=i
   ·rw [hj,hk]
   ·exfalso;rw [hj] at e1 e3;have hl:i < σ.length:=by
     have:=(Rm.mp e3).1;simpa using this
    rw [RL hl] at e3;cases e3;rw [Rr (Ne.symm hk)] at e2 e4;obtain⟨l',x1,x2,_⟩:=w.adr e2 z2;rw [e4] at x1;cases x1;exact np _ x2 rfl
  ·by_cases hk:k=i
   ·exfalso;rw [hk] at e2 e4;have hl:i < σ.length:=by
     have:=(Rm.mp e4).1;simpa using this
    rw [RL hl] at e4;cases e4;rw [Rr (Ne.symm hj)] at e1 e3;obtain⟨l',x1,x2,_⟩:=w.adr e1 y1;rw [e3] at x1;cases x1;exact np _ x2 rfl
   ·rw [Rr (Ne.symm hj)] at e1 e3;rw [Rr (Ne.symm hk)] at e2 e4;exact w.dis j k _ _ l e1 y1 e2 z2 e3 e4
theorem Wd.setO(w:Wd K H0 O0 H O σ δ){i:Nat}{p:Yu}{vs:List V}{ds:List Ys}(hp:H p=none)(h:ak K H O vs ds):
 Wd K H0 O0 (ai H p (.lst vs)) (λl=>O l\/l=p) (σ.set i (some (.ref p))) (δ.set i (some (.o ds))):=
 w.setY trivial hp λO' S a b=>⟨p,vs,rfl,a,b,bh,h.step S⟩
theorem Wd.setK(w:Wd K H0 O0 H O σ δ){i:Nat}{p:Yu}{kv:List (ah×V)}{kd:List (ah×Ys)}(hp:H p=none)(h:br K H O kv kd):
 Wd K H0 O0 (ai H p (.dK kv)) (λl=>O l\/l=p) (σ.set i (some (.ref p))) (δ.set i (some (.k kd))):=
 w.setY trivial hp λO' S a b=>⟨p,kv,rfl,a,b,bh,h.step S⟩
theorem Wd.putY(w:Wd K H0 O0 H O σ δ){i:Nat}{l:Yu}{ho:HO}{y0 y1:Sl}(h0:y0.own)(h1:y1.own)(e:δ[i]?=some (some y0))(hl:σ[i]?=some (some (.ref l)))(h:aM H (ai H l ho) O O->O l->¬O0 l->gU K (ai H l ho) O0 O (some (.ref l)) (some y1)):
 Wd K H0 O0 (ai H l ho) O σ (δ.set i (some y1)):=by
 obtain⟨l',x1,x2,x3⟩:=w.adr e h0;rw [hl] at x1;cases x1;have l0:H0 l=none:=(w.new l x2).resolve_left x3;have S:aM H (ai H l ho) O O:=⟨λb o q n=>by rw [az (λz=>n (by rw [z];exact x2))];exact q,λ_ _ n=>n⟩;have li:i < δ.length:=(Rm.mp e).1;refine⟨λb o q=>by rw [az (λz=>by rw [z,l0] at q;cases q)];exact w.same b o q,w.sub,w.new,λb z=>?_,by simp [w.len],λj y q=>?_,λj k y z b e1 y1' e2 z2 e3 e4=>?_⟩
 ·by_cases q:b=l
  ·rw [q,bh];exact λz=>nomatch z
  ·rw [az q];exact w.trk b z
 ·by_cases hj:j=i
  ·subst hj;rw [RL li] at q;cases q;rw [hl];exact h S x2 x3
  ·rw [Rr (Ne.symm hj)] at q;refine(w.sl j y q).go S (λb o ho' e' a1 a2 a3=>⟨a1,?_⟩) (λb o u a1 a2 a3=>⟨a1,by rw [az (λz=>w.nofrz e h0 hl o u (by rw [<-z];exact a3))];exact a3⟩) λb o a1 a3=>by rw [az (λz=>x3 (by rw [<-z];exact a1))];exact a3
   have nb:b≠l:=λz=>by
    subst z
    match y,ho',q with
    | some z,ho',q=>exact hj (w.dis j i z y0 b q (by cases z <;> first | trivial | cases ho') e h0 (fL e') hl)
   rw [az nb];exact a3
 ·have fg:∀{j:Nat}{y:Sl},(δ.set i (some y1))[j]?=some (some y)->y.own->∃y',δ[j]?=some (some y')/\y'.own:=λ{j y} q hq=>by
   by_cases hj:j=i
   ·subst hj;exact⟨_,e,h0⟩
   ·rw [Rr (Ne.symm hj)] at q;exact⟨_,q,hq⟩
  obtain⟨_,q1,r1⟩:=fg e1 y1';obtain⟨_,q2,r2⟩:=fg e2 z2;exact w.dis j k _ _ b q1 r1 q2 r2 e3 e4
theorem Wd.putO(w:Wd K H0 O0 H O σ δ){i:Nat}{l:Yu}{vs us:List V}{ds es:List Ys}(e:δ[i]?=some (some (.o ds)))(hl:σ[i]?=some (some (.ref l)))(h:ak K H O us es):
 Wd K H0 O0 (ai H l (.lst us)) O σ (δ.set i (some (.o es))):=
 w.putY (y0:= .o ds) (y1:= .o es) trivial trivial e hl λS a b=>⟨l,us,rfl,a,b,bh,h.step S⟩
theorem Wd.putK(w:Wd K H0 O0 H O σ δ){i:Nat}{l:Yu}{kv:List (ah×V)}{kd kd':List (ah×Ys)}(e:δ[i]?=some (some (.k kd)))(hl:σ[i]?=some (some (.ref l)))(h:br K H O kv kd'):
 Wd K H0 O0 (ai H l (.dK kv)) O σ (δ.set i (some (.k kd'))):=
 w.putY (y0:= .k kd) (y1:= .k kd') trivial trivial e hl λS a b=>⟨l,kv,rfl,a,b,bh,h.step S⟩
end
abbrev DT:=Dl->(Ys->Prop)->Prop
abbrev DA:=Dl->(List Ys->Prop)->Prop
abbrev DB:=Dl->(Bool->Prop)->Prop
structure d8 where
 nx:Dl->Prop
 rt:Ys->Prop
 bk:Dl->Prop:=λ_=>False
 ct:Dl->Prop:=λ_=>False
abbrev DS:=d8->Dl->Prop
section
variable (K:Q7) (H0:Hp) (O0:Ex)
inductive up (t:DT) (σ:St) (H:Hp) (R:VK):Prop
 | mk (O:Ex) (δ:Dl) (Qd:Ys->Prop):Wd K H0 O0 H O σ δ->t δ Qd->(∀d v H',Qd d->ar H H'->Dt K H' O v d->R v H')->up t σ H R
inductive ti (t:DT) (σ:St) (H:Hp) (R:VK):Prop
 | mk (O:Ex) (δ:Dl) (Qd:Ys->Prop):Wd K H0 O0 H O σ δ->t δ Qd->(∀d v H',Qd d->ar H H'->Sh K H' O v d->R v H')->ti t σ H R
inductive gi (t:DA) (σ:St) (H:Hp) (R:List V->Hp->Prop):Prop
 | mk (O:Ex) (δ:Dl) (Qd:List Ys->Prop):Wd K H0 O0 H O σ δ->t δ Qd->(∀ds vs H',Qd ds->ar H H'->ak K H' O vs ds->R vs H')->gi t σ H R
inductive bO (t:DB) (σ:St) (H:Hp) (R:Bool->Hp->Prop):Prop
 | mk (O:Ex) (δ:Dl) (Qd:Bool->Prop):Wd K H0 O0 H O σ δ->t δ Qd->(∀b H',Qd b->ar H H'->R b H')->bO t σ H R
inductive bg (t:DS) (D:jQ) (σ:St) (H:Hp):Prop
 | mk (O:Ex) (δ:Dl) (E:d8):Wd K H0 O0 H O σ δ->t E δ->(∀O' δ' σ' H',E.nx δ'->Wd K H0 O0 H' O' σ' δ'->aM H H' O O'->D.nx σ' H')->(∀d v H',E.rt d->ar H0 H'->Dt K H' O0 v d->D.rt v H')->
 (∀O' δ' σ' H',E.bk δ'->Wd K H0 O0 H' O' σ' δ'->aM H H' O O'->D.bk σ' H')->(∀O' δ' σ' H',E.ct δ'->Wd K H0 O0 H' O' σ' δ'->aM H H' O O'->D.ct σ' H')->bg t D σ H
end
theorem PE.imp{X:Cx}{e:YA}{t u:TE}(h:PE X e t)(i:∀σ H Q,u σ H Q->t σ H Q):PE X e u:=λaaa s σ H Q I z=>h aaa s σ H Q I (i σ H Q z)
theorem PT.imp{X:Cx}{e:YA}{t u:TT}(h:PT X e t)(i:∀σ H Q,u σ H Q->t σ H Q):PT X e u:=λaaa s σ H Q I z=>h aaa s σ H Q I (i σ H Q z)
theorem PW.imp{X:Cx}{e:YA}{t u:TT}(h:PW X e t)(i:∀σ H Q,u σ H Q->t σ H Q):PW X e u:=λwh aaa s σ H Q I z=>h wh aaa s σ H Q I (i σ H Q z)
theorem PA.imp{X:Cx}{e:List YA}{t u:TA}(h:PA X e t)(i:∀σ H Q,u σ H Q->t σ H Q):PA X e u:=λpos aaa s σ H Q I z=>h pos aaa s σ H Q I (i σ H Q z)
theorem PS.imp{X:Cx}{e:YH}{t u:TS}(h:PS X e t)(i:∀D σ H,u D σ H->t D σ H):PS X e u:=λaaa s σ H D I z=>h aaa s σ H D I (i D σ H z)
theorem bP.imp{X:Cx}{e:List YH}{t u:TS}(h:bP X e t)(i:∀D σ H,u D σ H->t D σ H):bP X e u:=λaaa s σ H D I z=>h aaa s σ H D I (i D σ H z)
section
variable {X:Cx} {H0:Hp} {O0:Ex}
abbrev DE(X:Cx)(H0:Hp)(O0:Ex)(e:YA)(t:DT):Prop:=PE X e (up X.K H0 O0 t)
abbrev DF(X:Cx)(H0:Hp)(O0:Ex)(e:YA)(t:DT):Prop:=PE X e (ti X.K H0 O0 t)
theorem df{e:YA}{t:DT}(h:DE X H0 O0 e t):DF X H0 O0 e t:=h.imp λσ H Q uu65=>by obtain⟨O,δ,Qd,w,q,k⟩:=uu65;exact⟨O,δ,Qd,w,q,λd v H' a b c=>k d v H' a b (.dt c)⟩
def wj(Q:Ys->Prop):Option (Option Sl)->Prop
 | some (some (.v d))=>Q d
 | _=>False
def bU(i:Nat):DT:=λδ Q=>wj Q δ[i]?
theorem Cr{Q:Ys->Prop}{o:Option (Option Sl)}:wj Q o↔∃d,o=some (some (.v d))/\Q d:=by
 constructor
 ·intro h
  match o,h with
  | some (some (.v d)),h=>exact⟨d,rfl,h⟩
 ·rintro⟨d,rfl,h⟩;exact h
theorem J9{i:Nat}{δ:Dl}{Q:Ys->Prop}(h:bU i δ Q):∃d,δ[i]?=some (some (.v d))/\Q d:=Cr.mp h
def kz(i:Nat):DT:=λδ Q=>∃ds,δ[i]?=some (some (.o ds))/\Q (.list ds)
def dC(d:Ys):DT:=λ_ Q=>Q d
theorem dv(i:Nat){x:Str}{pos:Pos}(hN:X.N[i]?=some x:=by rfl)(hv:qC X.env.scope x:=by first | exact WL rfl | exact VQ (WL rfl) | exact VQ (VQ rfl))
 (hd:(x==("__debug__":Str))=false:=by decide)(hcd:(x==("__classdict__":Str))=false:=by decide):DE X H0 O0 (.Name x pos) (bU i):=
 (vz hN hv hd hcd).imp λσ H Q uu66=>by
  obtain⟨O,δ,Qd,w,dq,k⟩:=uu66;obtain⟨d,e,q⟩:=J9 dq;obtain⟨v,h,r⟩:=w.val e;exact⟨v,h,k d v H q (ar.refl _) r⟩
theorem dw(i:Nat){x:Str}{pos:Pos}(hN:X.N[i]?=some x:=by rfl)(hv:qC X.env.scope x:=by first | exact WL rfl | exact VQ (WL rfl) | exact VQ (VQ rfl))
 (hd:(x==("__debug__":Str))=false:=by decide)(hcd:(x==("__classdict__":Str))=false:=by decide):DF X H0 O0 (.Name x pos) (kz i):=
 (vz hN hv hd hcd).imp λσ H Q uu67=>by
  obtain⟨O,δ,Qd,w,⟨ds,e,q⟩,k⟩:=uu67;obtain⟨l,vs,h,_,_,r,rs⟩:=w.own e;exact⟨_,h,k _ _ H q (ar.refl _) (.own r rs)⟩
theorem dc{e:YA}{v:V}{d:Ys}(h:PE X e (tC v))(r:∀H O,Dt X.K H O v d):DE X H0 O0 e (dC d):=h.imp λσ H Q uu68=>by obtain⟨O,δ,Qd,w,q,k⟩:=uu68;exact k d v H q (ar.refl _) (r H O)
theorem ag{i j pos}:DE X H0 O0 (.Constant (.int i) j pos) (dC (.int i)):=dc bK λ_ _=>.int i
theorem qO{b j pos}:DE X H0 O0 (.Constant (.bool b) j pos) (dC (.bool b)):=dc Bf λ_ _=>.bl b
theorem eO{j pos}:DE X H0 O0 (.Constant .none j pos) (dC .none):=dc Ia λ_ _=>.non
theorem bj{x j pos}:DE X H0 O0 (.Constant (.str x) j pos) (dC (.str x)):=dc vA λ_ _=>.str x
def gW:DA:=λ_ Q=>Q []
def gI(t:DT)(u:DA):DA:=λδ Q=>t δ λd=>u δ λds=>Q (d::ds)
theorem aj:PA X [] (gi X.K H0 O0 gW):=cb.imp λσ H Q uu69=>by obtain⟨O,δ,Qd,w,q,k⟩:=uu69;exact k [] [] H q (ar.refl _) .nil
theorem aa{e:YA}{es:List YA}{t:DT}{u:DA}(h:DE X H0 O0 e t)(hs:PA X es (gi X.K H0 O0 u))(he:Yz (e::es) X.env=(false,eval e X.env)::Yz es X.env:=by rfl):PA X (e::es) (gi X.K H0 O0 (gI t u)):=
 (bA h hs he).imp λσ H Q uu70=>by obtain⟨O,δ,Qd,w,q,k⟩:=uu70;exact⟨O,δ,_,w,q,λd v H1 q1 s1 r1=>⟨O,δ,_,w.mono s1,q1,λds vs H2 q2 s2 r2=>k (d::ds) (v::vs) H2 q2 (s1.trans s2) (.cons (r1.mono s2) r2)⟩⟩
def kA(t:DA):DT:=λδ Q=>t δ λds=>ds.length<=YC/\Q (.tuple ds)
theorem wk{H:Hp}{O:Ex}{σ:St}{δ:Dl}{H1:Hp}{p:Yu}{K:Q7}(w:Wd K H0 O0 H O σ δ)(s:ar H H1)(hp:H1 p=none):¬O p:=λz=>(w.mono s).trk p z hp
theorem bF{es:List YA}{t:DA}{x1}{pos:Pos}(h:PA X es (gi X.K H0 O0 t)):DE X H0 O0 (.Tuple es x1 pos) (kA t):=
 (BY h).imp λσ H Q uu71=>by obtain⟨O,δ,Qd,w,q,k⟩:=uu71;exact⟨O,δ,_,w,q,λds vs H1 q1 s1 r1=>⟨by rw [r1.length];exact q1.1,λp hp=>k _ _ _ q1.2 (s1.trans (ar.new hp)) (.tup (.inl bh) (wk w s1 hp) (r1.mono (ar.new hp)))⟩⟩
end
theorem aM.refl(H:Hp)(O:Ex):aM H H O O:=⟨λ_ _ e _=>e,λ_ _ n=>n⟩
theorem aM.trans{H H1 H2:Hp}{O O1 O2:Ex}(a:aM H H1 O O1)(b:aM H1 H2 O1 O2):aM H H2 O O2:=by
 refine⟨λc o e n=>?_,λc e n=>?_⟩
 ·have h1:=a.keep c o e n;exact b.keep c o h1 (a.out c (by rw [e];exact λz=>nomatch z) n)
 ·cases q:H c with
  | none=>exact absurd q e
  | some o=>exact b.out c (by rw [a.keep c o q n];exact λz=>nomatch z) (a.out c e n)
section
variable {X:Cx} {H0:Hp} {O0:Ex}
def cK(K:Q7)(r:R2)(rd:Ys->Ys->(Ys->Prop)->Prop):Prop:=
 ∀(H:Hp)(O:Ex)(x y:V)(dx dy:Ys)(Qd:Ys->Prop)(R:VK),(∀l,O l->H l≠none)->Sh K H O x dx->Sh K H O y dy->rd dx dy Qd->(∀d v H',Qd d->ar H H'->Dt K H' O v d->R v H')->r x y H R
def cQ(rd:Ys->Ys->(Ys->Prop)->Prop)(ta tb:DT):DT:=λδ Q=>ta δ λx=>tb δ λy=>rd x y Q
theorem tj{K:Q7}{r:R2}{rd:Ys->Ys->(Ys->Prop)->Prop}{ta tb:DT}(hd:cK K r rd):∀σ H Q,up K H0 O0 (cQ rd ta tb) σ H Q->pB r (ti K H0 O0 ta) (ti K H0 O0 tb) σ H Q:=
 λσ H Q uu72=>by obtain⟨O,δ,Qd,w,q,k⟩:=uu72;exact⟨O,δ,_,w,q,λx v H1 q1 s1 r1=>⟨O,δ,_,w.mono s1,q1,λy u H2 q2 s2 r2=>hd H2 O v u x y Qd _ (w.mono (s1.trans s2)).trk (r1.mono s2) r2 q2 λd z H3 qd s3 r3=>k d z H3 qd (s1.trans (s2.trans s3)) r3⟩⟩
theorem aw{a b:YA}{ta tb:DT}{op:Operator}{r:R2}{rd:Ys->Ys->(Ys->Prop)->Prop}{pos:Pos}(ho:bN X (Zo op) r)(hd:cK X.K r rd)(ha:DF X H0 O0 a ta)(hb:DF X H0 O0 b tb):DE X H0 O0 (.BinOp a op b pos) (cQ rd ta tb):=(bH ho ha hb).imp (tj hd)
theorem cX{a b:YA}{ta tb:DT}{op:CmpOp}{r:R2}{rd:Ys->Ys->(Ys->Prop)->Prop}{pos:Pos}(ho:bN X (YO op) r)(hd:cK X.K r rd)(ha:DF X H0 O0 a ta)(hb:DF X H0 O0 b tb)(hm:YU op b=false):DE X H0 O0 (.Compare a [op] [b] pos) (cQ rd ta tb):=(sG ho ha hb hm).imp (tj hd)
def cY(t:DT):DB:=λδ Q=>t δ λd=>∃b,d= .bool b/\Q b
theorem aO{a b:YA}{ta tb:DT}{op:CmpOp}{r:R2}{rd:Ys->Ys->(Ys->Prop)->Prop}{pos:Pos}(ho:bN X (YO op) r)(hd:cK X.K r rd)(ha:DF X H0 O0 a ta)(hb:DF X H0 O0 b tb)(hm:YU op b=false):PT X (.Compare a [op] [b] pos) (bO X.K H0 O0 (cY (cQ rd ta tb))):=
 (mU ho ha hb hm).imp λσ H Q uu73=>by obtain⟨O,δ,Qd,w,q,k⟩:=uu73;exact tj hd σ H _ ⟨O,δ,_,w,q,λd v H' uu74 s r=>by obtain⟨b,e,qb⟩:=uu74;subst e;cases r;exact⟨b,rfl,k b H' qb s⟩⟩
theorem mX{e:YA}{t:DT}(h:DE X H0 O0 e t)(he:∀whole,isTrue e X.env whole=(do let v<-whole;ZO e.pos;Zp [v] (truthy v)):=by intro _;rfl):PT X e (bO X.K H0 O0 (cY t)):=
 (Bh h he).imp λσ H Q uu75=>by obtain⟨O,δ,Qd,w,q,k⟩:=uu75;exact⟨O,δ,_,w,q,λd v H' uu76 s r=>by obtain⟨b,e,qb⟩:=uu76;subst e;cases r;exact⟨b,rfl,k b H' qb s⟩⟩
def gX(t u:DB):DB:=λδ Q=>t δ λc=>if c=true then u δ Q else Q false
def jU(t u:DB):DB:=λδ Q=>t δ λc=>if c=true then Q true else u δ Q
def kB(t:DB):DB:=λδ Q=>t δ λc=>Q (!c)
theorem gJ{a:YA}{t:DB}{pos:Pos}(h:PT X a (bO X.K H0 O0 t)):PW X (.BoolOp .And [a] pos) (bO X.K H0 O0 t):=Bl h
theorem qP{a:YA}{t:DB}{pos:Pos}(h:PT X a (bO X.K H0 O0 t)):PW X (.BoolOp .Or [a] pos) (bO X.K H0 O0 t):=Ie h
theorem gm{a b:YA}{rest:List YA}{t u:DB}{pos:Pos}(h:PT X a (bO X.K H0 O0 t))(hb:PW X (.BoolOp .And (b::rest) pos) (bO X.K H0 O0 u)):PW X (.BoolOp .And (a::b::rest) pos) (bO X.K H0 O0 (gX t u)):=
 (Bm h hb).imp λσ H Q uu77=>by obtain⟨O,δ,Qd,w,q,k⟩:=uu77;exact⟨O,δ,_,w,q,λc H1 q1 s1=>by
  cases c with
  | true=>exact⟨O,δ,_,w.mono s1,q1,λb H2 q2 s2=>k b H2 q2 (s1.trans s2)⟩
  | false=>exact k false H1 q1 s1⟩
theorem qQ{a b:YA}{rest:List YA}{t u:DB}{pos:Pos}(h:PT X a (bO X.K H0 O0 t))(hb:PW X (.BoolOp .Or (b::rest) pos) (bO X.K H0 O0 u)):PW X (.BoolOp .Or (a::b::rest) pos) (bO X.K H0 O0 (jU t u)):=
 (Ig h hb).imp λσ H Q uu78=>by obtain⟨O,δ,Qd,w,q,k⟩:=uu78;exact⟨O,δ,_,w,q,λc H1 q1 s1=>by
  cases c with
  | false=>exact⟨O,δ,_,w.mono s1,q1,λb H2 q2 s2=>k b H2 q2 (s1.trans s2)⟩
  | true=>exact k true H1 q1 s1⟩
theorem wt{a:YA}{t:DB}{pos:Pos}(h:PT X a (bO X.K H0 O0 t)):PT X (.UnaryOp .Not a pos) (bO X.K H0 O0 (kB t)):=
 (Ih h).imp λσ H Q uu79=>by obtain⟨O,δ,Qd,w,q,k⟩:=uu79;exact⟨O,δ,_,w,q,λc H1 q1 s1=>k (!c) H1 q1 s1⟩
def kC(t u:DT):DT:=λδ Q=>t δ λd=>∃c,d= .bool c/\if c=true then u δ Q else Q (.bool false)
def kD(t u:DT):DT:=λδ Q=>t δ λd=>∃c,d= .bool c/\if c=true then Q (.bool true) else u δ Q
theorem jV{op}{a:YA}{t:DT}{pos:Pos}(h:DE X H0 O0 a t):DE X H0 O0 (.BoolOp op [a] pos) t:=vB h
theorem qR{a b:YA}{rest:List YA}{t u:DT}{pos:Pos}(h:DE X H0 O0 a t)(hb:DE X H0 O0 (.BoolOp .And (b::rest) pos) u):DE X H0 O0 (.BoolOp .And (a::b::rest) pos) (kC t u):=
 (Bp h hb).imp λσ H Q ⟨O,δ,Qd,w,q,k⟩=>⟨O,δ,_,w,q,λd v H1 uu81 s1 r=>by
  obtain⟨c,e,q1⟩:=uu81;subst e;cases r;refine⟨c,rfl,?_⟩;cases c with
  | true=>exact⟨O,δ,_,w.mono s1,q1,λd v H2 q2 s2 r2=>k d v H2 q2 (s1.trans s2) r2⟩
  | false=>exact k _ _ H1 q1 s1 (.bl false)⟩
theorem qS{a b:YA}{rest:List YA}{t u:DT}{pos:Pos}(h:DE X H0 O0 a t)(hb:DE X H0 O0 (.BoolOp .Or (b::rest) pos) u):DE X H0 O0 (.BoolOp .Or (a::b::rest) pos) (kD t u):=
 (Bq h hb).imp λσ H Q ⟨O,δ,Qd,w,q,k⟩=>⟨O,δ,_,w,q,λd v H1 uu83 s1 r=>by
  obtain⟨c,e,q1⟩:=uu83;subst e;cases r;refine⟨c,rfl,?_⟩;cases c with
  | false=>exact⟨O,δ,_,w.mono s1,q1,λd v H2 q2 s2 r2=>k d v H2 q2 (s1.trans s2) r2⟩
  | true=>exact k _ _ H1 q1 s1 (.bl true)⟩
def kE(c:DB)(t u:DT):DT:=λδ Q=>c δ λb=>if b=true then t δ Q else u δ Q
theorem qT{c a b:YA}{tc:DB}{t u:DT}{pos:Pos}(hc:PT X c (bO X.K H0 O0 tc))(ha:DE X H0 O0 a t)(hb:DE X H0 O0 b u):DE X H0 O0 (.IfExp c a b pos) (kE tc t u):=
 (Bs hc ha hb).imp λσ H Q uu84=>by obtain⟨O,δ,Qd,w,q,k⟩:=uu84;exact⟨O,δ,_,w,q,λc H1 q1 s1=>by
  cases c with
  | true=>exact⟨O,δ,_,w.mono s1,q1,λd v H2 q2 s2 r2=>k d v H2 q2 (s1.trans s2) r2⟩
  | false=>exact⟨O,δ,_,w.mono s1,q1,λd v H2 q2 s2 r2=>k d v H2 q2 (s1.trans s2) r2⟩⟩
inductive aU (K:Q7) (F:List Ys->(Ys->Prop)->Prop) (vs:List V) (H:Hp) (Q:VK) (E:XK):Prop
 | mk (O:Ex) (ds:List Ys) (Qd:Ys->Prop):(∀l,O l->H l≠none)->ak K H O vs ds->F ds Qd->(∀d v H',Qd d->ar H H'->Dt K H' O v d->Q v H')->aU K F vs H Q E
def gY(F:List Ys->(Ys->Prop)->Prop)(t:DA):DT:=λδ Q=>t δ λds=>F ds Q
theorem aK{K:Q7}{F:List Ys->(Ys->Prop)->Prop}{t:DA}{E:XK}:∀σ H Q,up K H0 O0 (gY F t) σ H Q->sM (aU K F) [] E (gi K H0 O0 t) σ H Q:=
 λσ H Q uu85=>by obtain⟨O,δ,Qd,w,q,k⟩:=uu85;exact⟨O,δ,_,w,q,λds vs H1 q1 s1 r1=>⟨O,ds,Qd,(w.mono s1).trk,by rw [RY];exact r1,q1,λd v H2 q2 s2 r2=>k d v H2 q2 (s1.trans s2) r2⟩⟩
inductive pG (K:Q7) (H:Hp) (O:Ex):List V->List Ys->Prop
 | nil:pG K H O [] []
 | cons {v:V} {d:Ys} {vs:List V} {ds:List Ys}:Sh K H O v d->pG K H O vs ds->pG K H O (v::vs) (d::ds)
inductive gZ (K:Q7) (H0:Hp) (O0:Ex) (t:DA) (σ:St) (H:Hp) (R:List V->Hp->Prop):Prop
 | mk (O:Ex) (δ:Dl) (Qd:List Ys->Prop):Wd K H0 O0 H O σ δ->t δ Qd->(∀ds vs H',Qd ds->ar H H'->pG K H' O vs ds->R vs H')->gZ K H0 O0 t σ H R
theorem bG:PA X [] (gZ X.K H0 O0 gW):=cb.imp λσ H Q uu86=>by obtain⟨O,δ,Qd,w,q,k⟩:=uu86;exact k [] [] H q (ar.refl _) .nil
theorem bz{e:YA}{es:List YA}{t:DT}{u:DA}(h:DF X H0 O0 e t)(hs:PA X es (gZ X.K H0 O0 u))(he:Yz (e::es) X.env=(false,eval e X.env)::Yz es X.env:=by rfl):PA X (e::es) (gZ X.K H0 O0 (gI t u)):=
 (bA h hs he).imp λσ H Q uu87=>by obtain⟨O,δ,Qd,w,q,k⟩:=uu87;exact⟨O,δ,_,w,q,λd v H1 q1 s1 r1=>⟨O,δ,_,w.mono s1,q1,λds vs H2 q2 s2 r2=>k (d::ds) (v::vs) H2 q2 (s1.trans s2) (.cons (r1.mono s2) r2)⟩⟩
def iM(K:Q7)(r:List V->Hp->VK->Prop)(rd:List Ys->(Ys->Prop)->Prop):Prop:=
 ∀(H:Hp)(O:Ex)(xs:List V)(ds:List Ys)(Qd:Ys->Prop)(R:VK),(∀l,O l->H l≠none)->pG K H O xs ds->rd ds Qd->(∀d v H',Qd d->ar H H'->Dt K H' O v d->R v H')->r xs H R
theorem cf{K:Q7}{r:List V->Hp->VK->Prop}{rd:List Ys->(Ys->Prop)->Prop}{t:DA}(hd:iM K r rd):∀σ H Q,up K H0 O0 (gY rd t) σ H Q->sQ r (gZ K H0 O0 t) σ H Q:=
 λσ H Q uu88=>by obtain⟨O,δ,Qd,w,q,k⟩:=uu88;exact⟨O,δ,_,w,q,λds vs H1 q1 s1 r1=>hd H1 O vs ds Qd _ (w.mono s1).trk r1 q1 λd v H2 q2 s2 r2=>k d v H2 q2 (s1.trans s2) r2⟩
def fB(t u:DS):DS:=λE δ=>t {E with nx:=u E} δ
theorem aq{st:YH}{rest:List YH}{t u:DS}(h:PS X st (bg X.K H0 O0 t))(h2:bP X rest (bg X.K H0 O0 u)):bP X (st::rest) (bg X.K H0 O0 (fB t u)):=
 (cV h h2).imp λD σ H uu89=>by obtain⟨O,δ,E,w,q,k1,k2,k3,k4⟩:=uu89;exact⟨O,δ,_,w,q,λO' δ' σ' H' z w' S=>⟨O',δ',E,w',z,λO2 δ2 σ2 H2 z2 w2 S2=>k1 O2 δ2 σ2 H2 z2 w2 (S.trans S2),k2,λO2 δ2 σ2 H2 z2 w2 S2=>k3 O2 δ2 σ2 H2 z2 w2 (S.trans S2),λO2 δ2 σ2 H2 z2 w2 S2=>k4 O2 δ2 σ2 H2 z2 w2 (S.trans S2)⟩,k2,k3,k4⟩
def kF:DS:=λE δ=>E.nx δ
theorem bQ:bP X [] (bg X.K H0 O0 kF):=pk.imp λD σ H uu90=>by obtain⟨O,δ,E,w,q,k1,k2,k3,k4⟩:=uu90;exact k1 O δ σ H q w (aM.refl _ _)
theorem ax{st:YH}{t:DS}(h:PS X st (bg X.K H0 O0 t)):bP X [st] (bg X.K H0 O0 t):=fy h
def gr(i:Nat)(t:DT):DS:=λE δ=>t δ λd=>E.nx (δ.set i (some (.v d)))
theorem bo{i:Nat}{x:Str}{e:YA}{t:DT}{pos pos':Pos}(hN:X.N.Nodup)(hi:X.N[i]?=some x)(hx:gP X.env.scope x)(he:DE X H0 O0 e t)(hs:YN e (some (.Name x pos')) pos.line X.env=pure false:=by rfl)(hf:X.fn x=true\/X.env.scope.names.lookup x=some .local:=by first | exact .inl rfl | exact .inr rfl | assumption):
 PS X (.Assign [.Name x pos'] e pos) (bg X.K H0 O0 (gr i t)):=
 (eZ hN hi hx he hs hf).imp λD σ H uu91=>by obtain⟨O,δ,E,w,q,k1,k2,k3,k4⟩:=uu91;exact⟨O,δ,_,w,q,λd v H1 q1 s1 r1=>k1 O _ _ H1 q1 ((w.mono s1).set r1) (.same s1)⟩
def jl(t:DT):DS:=λE δ=>t δ E.rt
theorem fg{K:Q7}{H:Hp}{O:Ex}{σ:St}{δ:Dl}(w:Wd K H0 O0 H O σ δ):aM H H O O0:=⟨λ_ _ e _=>e,λb _ n z=>n (w.sub b z)⟩
theorem bb{e:YA}{t:DT}{pos:Pos}(he:DE X H0 O0 e t):PS X (.Return (some e) pos) (bg X.K H0 O0 (jl t)):=
 (gc he).imp λD σ H uu92=>by obtain⟨O,δ,E,w,q,k1,k2,k3,k4⟩:=uu92;exact⟨O,δ,_,w,q,λd v H1 q1 s1 r1=>k2 d v H1 q1 (w.same.trans s1) (r1.step (fg (w.mono s1)))⟩
def jm(i:Nat):DS:=λE δ=>∃ds,δ[i]?=some (some (.o ds))/\E.rt (.list ds)
theorem pH{e:YA}{i:Nat}{pos:Pos}(he:PE X e (cA i)):PS X (.Return (some e) pos) (bg X.K H0 O0 (jm i)):=
 (gc he).imp λD σ H uu93=>by
  obtain⟨O,δ,E,w,⟨ds,e,q⟩,k1,k2,k3,k4⟩:=uu93;obtain⟨l,vs,h,a,b,c,r⟩:=w.own e;exact⟨_,h,k2 _ _ H q w.same (.lst (.inl c) b (r.step (fg w)))⟩
def g6(c:DB)(t u:DS):DS:=λE δ=>c δ λb=>if b=true then t E δ else u E δ
theorem bR{c:YA}{a b:List YH}{tc:DB}{t u:DS}{pos:Pos}(hc:PT X c (bO X.K H0 O0 tc))(ha:bP X a (bg X.K H0 O0 t))(hb:bP X b (bg X.K H0 O0 u)):PS X (.If c a b pos) (bg X.K H0 O0 (g6 tc t u)):=
 (pq hc ha hb).imp λD σ H uu94=>by obtain⟨O,δ,E,w,q,k1,k2,k3,k4⟩:=uu94;exact⟨O,δ,_,w,q,λc H1 q1 s1=>by
  have g:∀{t':DS},t' E δ->bg X.K H0 O0 t' D σ H1:=λz=>⟨O,δ,E,w.mono s1,z,λO2 δ2 σ2 H2 z2 w2 S2=>k1 O2 δ2 σ2 H2 z2 w2 (aM.trans (.same s1) S2),k2,λO2 δ2 σ2 H2 z2 w2 S2=>k3 O2 δ2 σ2 H2 z2 w2 (aM.trans (.same s1) S2),λO2 δ2 σ2 H2 z2 w2 S2=>k4 O2 δ2 σ2 H2 z2 w2 (aM.trans (.same s1) S2)⟩;cases c with
  | true=>exact g q1
  | false=>exact g q1⟩
inductive pI (K:Q7) (H0:Hp) (O0:Ex) (t:DA) (σ:St) (H:Hp) (R:VK):Prop
 | mk (O:Ex) (δ:Dl) (Qd:List Ys->Prop):Wd K H0 O0 H O σ δ->t δ Qd->(∀ds vs p H',Qd ds->ar H H'->H' p=none->ak K H' O vs ds->R (.ref p) (ai H' p (.lst vs)))->pI K H0 O0 t σ H R
abbrev FE(X:Cx)(H0:Hp)(O0:Ex)(e:YA)(t:DA):Prop:=PE X e (pI X.K H0 O0 t)
def dL(t:DA):DT:=λδ Q=>t δ λds=>Q (.list ds)
theorem fe{e:YA}{t:DA}(h:FE X H0 O0 e t):DE X H0 O0 e (dL t):=
 h.imp λσ H Q uu95=>by obtain⟨O,δ,Qd,w,q,k⟩:=uu95;exact⟨O,δ,_,w,q,λds vs p H1 q1 s1 hp r1=>k _ _ _ q1 (s1.trans (ar.new hp)) (.lst (.inl bh) (wk w s1 hp) (r1.mono (ar.new hp)))⟩
def jW(t:DA):DA:=λδ Q=>t δ λds=>ds.length<=YC/\Q ds
theorem cn{es:List YA}{t:DA}{pos:Pos}(h:PA X es (gi X.K H0 O0 t)):FE X H0 O0 (.List es pos) (jW t):=
 (IX h).imp λσ H Q uu96=>by obtain⟨O,δ,Qd,w,q,k⟩:=uu96;exact⟨O,δ,_,w,q,λds vs H1 q1 s1 r1=>⟨by rw [r1.length];exact q1.1,λp hp=>k _ _ _ _ q1.2 s1 hp r1⟩⟩
def iN(i:Nat)(t:DA):DS:=λE δ=>t δ λds=>E.nx (δ.set i (some (.o ds)))
theorem g7{i:Nat}{x:Str}{e:YA}{t:DA}{pos pos':Pos}(hN:X.N.Nodup)(hi:X.N[i]?=some x)(hx:gP X.env.scope x)(he:FE X H0 O0 e t)(hs:YN e (some (.Name x pos')) pos.line X.env=pure false:=by rfl)(hf:X.fn x=true\/X.env.scope.names.lookup x=some .local:=by first | exact .inl rfl | exact .inr rfl | assumption):
 PS X (.Assign [.Name x pos'] e pos) (bg X.K H0 O0 (iN i t)):=
 (eZ hN hi hx he hs hf).imp λD σ H ⟨O,δ,E,w,q,k1,k2,k3,k4⟩=>⟨O,δ,_,w,q,λds vs p H1 q1 s1 hp r1=>k1 _ _ _ _ q1 ((w.mono s1).setO hp r1)
  ⟨λb o e _=>(s1.trans (ar.new hp)) b o e,λb e n z=>z.elim n λy=>by
   cases q:H b with
   | none=>exact e q
   | some o=>have:=s1 _ _ q;rw [y,hp] at this;cases this⟩⟩
def kG(i:Nat)(t:DT):DS:=λE δ=>∃ds,δ[i]?=some (some (.o ds))/\t δ λd=>ds.length < YC/\E.nx (δ.set i (some (.o (ds++[d]))))
theorem hG{i:Nat}{o e:YA}{t:DT}{apos cpos pos:Pos}(ho:PE X o (cA i))(he:DE X H0 O0 e t)(hbase:YX o "append" X.env (eval o X.env)=eval o X.env:=by rfl)
 (hfew:((YM cpos (Yz [e] X.env)).all (λx=>!x.1) && (Zd cpos (Y1 [] X.env)).all (λx=>x.1.isSome) && decide ([e].length+([]:List Zc).length+(if ([]:List Zc).isEmpty then 0 else 1) < 30))=true:=by rfl)
 (hline:(apos.endLine==cpos.line)=true:=by rfl)(hst:Yz [e] X.env=(false,eval e X.env)::Yz [] X.env:=by rfl)(hplain:(YM cpos (Yz [] X.env)).any (·.1)=false:=by rfl)
 (hs:YN (.Call (.Attribute o "append" apos) [e] [] cpos) none pos.line X.env=pure false:=by rfl):PS X (.Expr (.Call (.Attribute o "append" apos) [e] [] cpos) pos) (bg X.K H0 O0 (kG i t)):=
 (sh (sU Vu PySem.F.slot_list_append PySem.F.type_list_append Ce ho (bA he cb hst) hbase hfew hline hst hplain) hs).imp λD σ H uu1=>by
  obtain⟨O,δ,E,w,⟨ds,e,q⟩,k1,k2,k3,k4⟩:=uu1;obtain⟨l,vs,h,a,b,c,r⟩:=w.own e;refine⟨_,h,.inl ⟨rfl,_,bq.of c⟩,O,δ,_,w,q,λd v H1 q1 s1 r1=>?_⟩;refine⟨l,vs,v,rfl,rfl,s1 _ _ c,by rw [r.length];exact q1.1,?_⟩;exact k1 _ _ _ _ q1.2 ((w.mono s1).putO (vs:=vs) e h ((r.mono s1).append (.cons r1 .nil))) ⟨λb' o' z n=>by rw [az (λy=>n (by rw [y];exact a))];exact s1 _ _ z,λ_ _ n=>n⟩
end
structure cZ (J:It) (P:Hp->Prop) (vs:List V):Prop where
 go:∀i H',P H'->i < vs.length->J.go i H'
 yl:∀i H' x H'',P H'->i < vs.length->J.yld i H' x H''->H''=H'/\vs[i]?=some x
 st:∀i H',P H'->vs.length<=i->J.stop i H'
def pJ(H1:Hp)(a:Yu)(H':Hp):Prop:=∀o,H1 a=some o->H' a=some o
theorem bq.keep{K:Q7}{H H':Hp}{a:Yu}{xs:List V}(s:pJ H a H')(h:bq K H a xs):bq K H' a xs:=by
 rcases h with(h | ⟨o,h⟩) | h
 ·exact .inl (.inl (s _ h))
 ·exact .inl (.inr ⟨o,s _ h⟩)
 ·exact .inr h
theorem bw.keep{K:Q7}{H H':Hp}{a:Yu}{xs:List V}(s:pJ H a H')(h:bw K H a xs):bw K H' a xs:=by
 rcases h with(h | ⟨o,h⟩) | h
 ·exact .inl (.inl (s _ h))
 ·exact .inl (.inr ⟨o,s _ h⟩)
 ·exact .inr h
theorem cZ.list{K:Q7}{H:Hp}{a:Yu}{vs:List V}(h:bq K H a vs):cZ (pA K a) (pJ H a) vs:=
 ⟨λi H' s hi=>⟨vs,vs[i],h.keep s,by simp [hi]⟩,λi H' x H'' s _ y=>⟨y.1,y.2 vs (h.keep s)⟩,λi H' s hi=>⟨vs,h.keep s,hi⟩⟩
theorem cZ.tup{K:Q7}{H:Hp}{a:Yu}{vs:List V}(h:bw K H a vs):cZ (qH K a) (pJ H a) vs:=
 ⟨λi H' s hi=>⟨vs,vs[i],h.keep s,by simp [hi]⟩,λi H' x H'' s _ y=>⟨y.1,y.2 vs (h.keep s)⟩,λi H' s hi=>⟨vs,h.keep s,hi⟩⟩
def jn(lo:Int)(n:Nat):List Ys:=(SE n).map λ(k:Nat)=>.int (lo+k)
theorem cZ.rng{lo:Int}{n:Nat}:cZ (je lo n) (λ_=>True) ((SE n).map λ(k:Nat)=>V.int (lo+k)):=by
 refine⟨λi H' s hi=>(by simpa using hi:i < n),λi H' x H'' s hi y=>⟨y.1,?_⟩,λi H' s hi=>(by simpa using hi:n<=i)⟩;obtain⟨_,rfl⟩:=y;have hn:i < n:=by simpa using hi
 simp [hn]
theorem ak.rng{K:Q7}{H:Hp}{O:Ex}{lo:Int}:∀(l:List Nat),ak K H O (l.map λ(k:Nat)=>V.int (lo+k)) (l.map λ(k:Nat)=>Rg (lo+k))
 | []=>.nil
 | n::r=>.cons (.int _) (ak.rng r)
abbrev DG:=Ys->Dl->(Dl->Prop)->Prop
def GD(K:Q7)(g:TG)(dg:DG):Prop:=∀(H0:Hp)(O0:Ex)(H:Hp)(O:Ex)(σ:St)(δ:Dl)(v:V)(x:Ys)(R:St->Hp->Prop)(Qd:Dl->Prop),Wd K H0 O0 H O σ δ->Dt K H O v x->dg x δ Qd->(∀δ' σ',Qd δ'->Wd K H0 O0 H O σ' δ'->R σ' H)->g v σ H R
def iO(i:Nat):DG:=λx δ Q=>Q (δ.set i (some (.v x)))
theorem aL{K:Q7}{i:Nat}:GD K (gH i) (iO i):=λH0 O0 H O σ δ v x R Qd w r q k=>k _ _ q (w.set r)
abbrev mY:=List Ys->Dl->(Dl->Prop)->Prop
def tm(K:Q7)(g:jd)(dg:mY):Prop:=∀(H0:Hp)(O0:Ex)(H:Hp)(O:Ex)(σ:St)(δ:Dl)(vs:List V)(xs:List Ys)(R:St->Hp->Prop)(Qd:Dl->Prop),Wd K H0 O0 H O σ δ->ak K H O vs xs->dg xs δ Qd->(∀δ' σ',Qd δ'->Wd K H0 O0 H O σ' δ'->R σ' H)->g vs σ H R
def kH:mY:=λxs δ Q=>xs=[]/\Q δ
def kI(t:DG)(u:mY):mY:=λxs δ Q=>∃x r,xs=x::r/\t x δ λδ'=>u r δ' Q
theorem iP{K:Q7}:tm K qE kH:=λH0 O0 H O σ δ vs xs R Qd w r uu2 k=>by obtain⟨e,q⟩:=uu2;subst e;cases r;exact⟨rfl,k _ _ q w⟩
theorem cC{K:Q7}{t:TG}{u:jd}{dt:DG}{du:mY}(h:GD K t dt)(h2:tm K u du):tm K (kn t u) (kI dt du):=λH0 O0 H O σ δ vs xs R Qd w r uu3 k=>by
 obtain⟨x,rr,e,q⟩:=uu3;subst e;cases r with
 | cons r1 r2=>exact⟨_,_,rfl,h H0 O0 H O σ δ _ _ _ _ w r1 q λδ' σ' q' w'=>h2 H0 O0 H O σ' δ' _ _ R Qd w' r2 q' k⟩
def kJ(n:Nat)(t:mY):DG:=λx δ Q=>∃xs,x= .tuple xs/\xs.length=n/\t xs δ Q
theorem iQ{K:Q7}{n:Nat}{t:jd}{dt:mY}(h:tm K t dt):GD K (qF K n t) (kJ n dt):=λH0 O0 H O σ δ v x R Qd w r uu4 k=>by
 obtain⟨xs,e,hl,q⟩:=uu4;subst e;obtain⟨a,vs,rfl,hs,rr⟩:=(Sh.dt r).tup;exact⟨a,vs,rfl,hs,by rw [rr.length];exact hl,h H0 O0 H O σ δ _ _ R Qd w rr q k⟩
section
variable {X:Cx} {H0:Hp} {O0:Ex}
def kK(t:DT)(g:DG):DS:=λE δ=>t δ λd=>g d δ E.nx
theorem Cs{tg e:YA}{t:DT}{g:TG}{dg:DG}{pos:Pos}(he:DE X H0 O0 e t)(hg:PG X tg g)(gd:GD X.K g dg)(hs:Zu [tg] e pos.line X.env=pure false:=by rfl)(hw:Zv [tg] e X.env=pure none:=by rfl)
 (h1:(ZD [tg] X.env).map (·.2)=[assign tg X.env]:=by rfl):PS X (.Assign [tg] e pos) (bg X.K H0 O0 (kK t dg)):=
 (Il he hg hs hw h1).imp λD σ H uu5=>by obtain⟨O,δ,E,w,q,k1,k2,k3,k4⟩:=uu5;exact⟨O,δ,_,w,q,λd v H1 q1 s1 r1=>gd H0 O0 H1 O σ δ v d _ _ (w.mono s1) r1 q1 λδ' σ' q' w'=>k1 O δ' σ' H1 q' w' (.same s1)⟩
def kL(i j:Nat)(t:DA):DS:=λE δ=>t δ λds=>∃x y,ds=[x,y]/\E.nx ((δ.set i (some (.v x))).set j (some (.v y)))
theorem Ct{i j:Nat}{x y:Str}{a b:YA}{ta:DA}{px py pt pos:Pos}{kt k2 pt2}(hc:X.calm=true)(hN:X.N.Nodup)(hi:X.N[i]?=some x)(hj:X.N[j]?=some y)(hij:i≠j)
 (hx:X.env.scope.names.lookup x=some .local)(hy:X.env.scope.names.lookup y=some .local)(ha:PA X [a,b] (gi X.K H0 O0 ta))
 (hw:Zv [.Tuple [.Name x px,.Name y py] kt pt] (.Tuple [a,b] k2 pt2) X.env=pure (some [x,y]))
 (hs:Zu [.Tuple [.Name x px,.Name y py] kt pt] (.Tuple [a,b] k2 pt2) pos.line X.env=pure false:=by rfl):
 PS X (.Assign [.Tuple [.Name x px,.Name y py] kt pt] (.Tuple [a,b] k2 pt2) pos) (bg X.K H0 O0 (kL i j ta)):=
 (Im hc hN hi hj hij hx hy ha hw hs).imp λD σ H uu6=>by obtain⟨O,δ,E,w,q,k1,k2,k3,k4⟩:=uu6;exact⟨O,δ,_,w,q,λds vs H1 uu7 s1 r1=>by
  obtain⟨d1,d2,e,q1⟩:=uu7;subst e;cases r1 with
  | cons r1 r2=>
   cases r2 with
   | cons r2 r3=>
    cases r3;exact⟨_,_,rfl,k1 _ _ _ _ q1 (((w.mono s1).set r1).set r2) (.same s1)⟩⟩
def hJ(g:DG)(tb:DS)(E:d8):List Ys->Dl->Prop
 | [],δ=>E.nx δ
 | x::xs,δ=>g x δ λδ2=>tb {E with nx:=hJ g tb E xs,ct:=hJ g tb E xs,bk:=E.nx} δ2
theorem Q1{K:Q7}{J:It}{P:Hp->Prop}{vs:List V}{xs:List Ys}{g:TG}{dg:DG}{tb:DS}{D:jQ}{E:d8}{σ:St}{H:Hp}{O:Ex}{δ:Dl}(S:cZ J P vs)(gd:GD K g dg)
 (hP:∀H' O',aM H H' O O'->P H')(r:ak K H O vs xs)(w:Wd K H0 O0 H O σ δ)(q:hJ dg tb E xs δ)
 (k1:∀O' δ' σ' H',E.nx δ'->Wd K H0 O0 H' O' σ' δ'->aM H H' O O'->D.nx σ' H')(k2:∀d v H',E.rt d->ar H0 H'->Dt K H' O0 v d->D.rt v H'):FR J g (bg K H0 O0 tb) D σ H:=by
 refine⟨λi m σ' H'=>∃O' δ',m=vs.length - i/\i<=vs.length/\Wd K H0 O0 H' O' σ' δ'/\aM H H' O O'/\hJ dg tb E (xs.drop i) δ',⟨vs.length,O,δ,Yr,Sd _,w,aM.refl _ _,by simpa using q⟩,?_⟩;rintro i m σ1 H1 ⟨O1,δ1,rfl,hi,w1,S1,q1⟩;by_cases hlt:i < vs.length
 ·refine .inr ⟨S.go i H1 (hP _ _ S1) hlt,λσ' H'=>∃O' δ',Wd K H0 O0 H' O' σ' δ'/\aM H H' O O'/\hJ dg tb E (xs.drop (i+1)) δ',λσ' H' uu8=>by obtain⟨O',δ',w',S',q'⟩:=uu8;exact⟨vs.length - (i+1),Yn,O',δ',rfl,hlt,w',S',q'⟩,λx H' y=>?_⟩;have yy:=S.yl i H1 x H' (hP _ _ S1) hlt y;clear y;obtain⟨e,y⟩:=yy;subst e;obtain⟨d,ed,rd⟩:=r.get y;have hd:xs.drop i=d::xs.drop (i+1):=by
   rw [Vj (h:=(Rm.mp ed).1),(Rm.mp ed).2]
  rw [hd] at q1;refine gd H0 O0 _ O1 σ1 δ1 x d _ _ w1 (rd.step S1) q1 λδ2 σ2 q2 w2=>?_;refine⟨O1,δ2,_,w2,q2,λO' δ' σ' H' z w' S'=>⟨O',δ',w',S1.trans S',z⟩,k2,λO' δ' σ' H' z w' S'=>k1 O' δ' σ' H' z w' (S1.trans S'),λO' δ' σ' H' z w' S'=>⟨O',δ',w',S1.trans S',z⟩⟩
 ·have e:i=vs.length:=Yn
  subst e;refine .inl ⟨S.st _ H1 (hP _ _ S1) (Rf _),?_⟩;rw [r.length,US (Rf _)] at q1;exact k1 O1 δ1 σ1 H1 q1 w1 S1
def jX(g:DG)(tb:DS)(E:d8)(xs:List Ys)(δ:Dl):Prop:=∃I:Nat->Dl->Prop,I 0 δ/\(∀i x δ,xs[i]?=some x->I i δ->g x δ λδ2=>tb {E with nx:=I (i+1),ct:=I (i+1),bk:=E.nx} δ2)/\∀δ,I xs.length δ->E.nx δ
theorem tq{K:Q7}{J:It}{P:Hp->Prop}{vs:List V}{xs:List Ys}{g:TG}{dg:DG}{tb:DS}{D:jQ}{E:d8}{σ:St}{H:Hp}{O:Ex}{δ:Dl}(S:cZ J P vs)(gd:GD K g dg)
 (hP:∀H' O',aM H H' O O'->P H')(r:ak K H O vs xs)(w:Wd K H0 O0 H O σ δ)(q:jX dg tb E xs δ)
 (k1:∀O' δ' σ' H',E.nx δ'->Wd K H0 O0 H' O' σ' δ'->aM H H' O O'->D.nx σ' H')(k2:∀d v H',E.rt d->ar H0 H'->Dt K H' O0 v d->D.rt v H'):FR J g (bg K H0 O0 tb) D σ H:=by
 obtain⟨Iv,q0,qs,qe⟩:=q;refine⟨λi m σ' H'=>∃O' δ',m=vs.length - i/\i<=vs.length/\Wd K H0 O0 H' O' σ' δ'/\aM H H' O O'/\Iv i δ',⟨vs.length,O,δ,Yr,Sd _,w,aM.refl _ _,q0⟩,?_⟩;rintro i m σ1 H1 ⟨O1,δ1,rfl,hi,w1,S1,q1⟩;by_cases hlt:i < vs.length
 ·refine .inr ⟨S.go i H1 (hP _ _ S1) hlt,λσ' H'=>∃O' δ',Wd K H0 O0 H' O' σ' δ'/\aM H H' O O'/\Iv (i+1) δ',λσ' H' uu9=>by obtain⟨O',δ',w',S',q'⟩:=uu9;exact⟨vs.length - (i+1),Yn,O',δ',rfl,hlt,w',S',q'⟩,λx H' y=>?_⟩;have yy:=S.yl i H1 x H' (hP _ _ S1) hlt y;clear y;obtain⟨e,y⟩:=yy;subst e;obtain⟨d,ed,rd⟩:=r.get y;refine gd H0 O0 _ O1 σ1 δ1 x d _ _ w1 (rd.step S1) (qs i d δ1 ed q1) λδ2 σ2 q2 w2=>?_;refine⟨O1,δ2,_,w2,q2,λO' δ' σ' H' z w' S'=>⟨O',δ',w',S1.trans S',z⟩,k2,λO' δ' σ' H' z w' S'=>k1 O' δ' σ' H' z w' (S1.trans S'),λO' δ' σ' H' z w' S'=>⟨O',δ',w',S1.trans S',z⟩⟩
 ·have e:i=vs.length:=Yn
  subst e;refine .inl ⟨S.st _ H1 (hP _ _ S1) (Rf _),?_⟩;rw [r.length] at q1;exact k1 O1 δ1 σ1 H1 (qe δ1 q1) w1 S1
def kM(t:DT)(g:DG)(tb:DS):DS:=λE δ=>t δ λd=>∃xs,d= .list xs/\jX g tb E xs δ
def kN(t:DT)(g:DG)(tb:DS):DS:=λE δ=>t δ λd=>∃xs,d= .tuple xs/\jX g tb E xs δ
def kO(t:DA)(g:DG)(tb:DS):DS:=λE δ=>t δ λds=>∃j:Int,ds=[.int j]/\-(2 ^ 62)<=j/\j < 2 ^ 62/\jX g tb E (jn 0 j.toNat) δ
section
variable {tg iter:YA} {body:List YH} {t:DT} {ta:DA} {g:TG} {dg:DG} {tb:DS} {pos p ps:Pos}
theorem iR(hp:ZP (YB X.prog X.w) X.A X.env X.xe)(hc:X.calm=true)(hi:DE X H0 O0 iter t)(hg:PG X tg g)(gd:GD X.K g dg)(hb:bP X body (bg X.K H0 O0 tb))(hs:∀x,YL iter X.env x=pure x:=by intro _;rfl):
 PS X (.For tg iter body [] pos) (bg X.K H0 O0 (kM t dg tb)):=
 (sA hp hc (sr hi) hg hb hs).imp λD σ H uu10=>by obtain⟨O,δ,E,w,q,k1,k2,k3,k4⟩:=uu10;exact⟨O,δ,_,w,q,λd v H1 uu11 s1 r1=>by
  obtain⟨xs,e,q1⟩:=uu11;subst e;cases r1 with
  | lst h n r=>
   refine⟨_,rfl,⟨_,.inl h⟩,tq (cZ.list (.inl h)) gd (λH' O' S o e=>S.keep _ _ e n) r (w.mono s1) q1 (λO' δ' σ' H' z w' S=>k1 O' δ' σ' H' z w' (aM.trans (.same s1) S)) k2⟩⟩
theorem pK(hp:ZP (YB X.prog X.w) X.A X.env X.xe)(hc:X.calm=true)(hi:DE X H0 O0 iter t)(hg:PG X tg g)(gd:GD X.K g dg)(hb:bP X body (bg X.K H0 O0 tb))(hs:∀x,YL iter X.env x=pure x:=by intro _;rfl):
 PS X (.For tg iter body [] pos) (bg X.K H0 O0 (kN t dg tb)):=
 (sA hp hc (vG hi) hg hb hs).imp λD σ H uu12=>by obtain⟨O,δ,E,w,q,k1,k2,k3,k4⟩:=uu12;exact⟨O,δ,_,w,q,λd v H1 uu13 s1 r1=>by
  obtain⟨xs,e,q1⟩:=uu13;subst e;cases r1 with
  | tup h n r=>
   refine⟨_,rfl,⟨_,.inl h⟩,tq (cZ.tup (.inl h)) gd (λH' O' S o e=>S.keep _ _ e n) r (w.mono s1) q1 (λO' δ' σ' H' z w' S=>k1 O' δ' σ' H' z w' (aM.trans (.same s1) S)) k2⟩
  | tupK h r=>
   refine⟨_,rfl,⟨_,h.of0⟩,tq (P:=λ_=>True) ⟨λi H' _ hi=>⟨_,_,h.of0,by simp [hi];rfl⟩,λi H' x H'' _ _ y=>⟨y.1,y.2 _ h.of0⟩,λi H' _ hi=>⟨_,h.of0,hi⟩⟩ gd (λ_ _ _=>trivial) r (w.mono s1) q1 (λO' δ' σ' H' z w' S=>k1 O' δ' σ' H' z w' (aM.trans (.same s1) S)) k2⟩⟩
theorem wu(hp:ZP (YB X.prog X.w) X.A X.env X.xe)(hc:X.calm=true){a:YA}(hgl:Gl X "range")(hm:X.mg "range"=none)(ha:PA X [a] (gi X.K H0 O0 ta))(hg:PG X tg g)(gd:GD X.K g dg)(hb:bP X body (bg X.K H0 O0 tb))
 (hst:Yz [a] X.env=[(false,eval a X.env)]:=by rfl)(hs:∀x,YL (.Call (.Name "range" p) [a] [] ps) X.env x=pure x:=by intro _;rfl):
 PS X (.For tg (.Call (.Name "range" p) [a] [] ps) body [] pos) (bg X.K H0 O0 (kO ta dg tb)):=
 (sA hp hc (BB hgl hm ha hst) hg hb hs).imp λD σ H uu14=>by obtain⟨O,δ,E,w,q,k1,k2,k3,k4⟩:=uu14;exact⟨O,δ,_,w,q,λds vs H1 uu15 s1 r1=>by
  obtain⟨j,e,b1,b2,q1⟩:=uu15;subst e;cases r1 with
  | cons r1 r2=>
   cases r2;cases r1;exact⟨j,rfl,b1,b2,tq cZ.rng gd (λ_ _ _=>trivial) (ak.rng _) (w.mono s1) q1 (λO' δ' σ' H' z w' S=>k1 O' δ' σ' H' z w' (aM.trans (.same s1) S)) k2⟩⟩
end
theorem Wd.letbe{K:Q7}{H:Hp}{O:Ex}{σ:St}{δ:Dl}(w:Wd K H0 O0 H O σ δ){i:Nat}{l:Yu}{y0:Sl}{d:Ys}(e:δ[i]?=some (some y0))(ho:y0.own)(h:σ[i]?=some (some (.ref l)))(hd:∀O',aM H H O O'->¬O' l->Dt K H O' (.ref l) d):
 ∃O',Wd K H0 O0 H O' σ (δ.set i (some (.v d)))/\aM H H O O':=by
 obtain⟨l',x1,a,b⟩:=w.adr e ho;rw [h] at x1;cases x1;have S:aM H H O (λx=>O x/\x≠l):=⟨λ_ _ z _=>z,λ_ _ n z=>n z.1⟩;have li:i < δ.length:=(Rm.mp e).1;have ne:∀{j:Nat}{y:Sl},(δ.set i (some (.v d)))[j]?=some (some y)->y.own->j≠i:=λ{j y} q hy z=>by
  subst z;rw [RL li] at q;cases q;exact hy
 refine⟨_,⟨w.same,λx z=>⟨w.sub x z,λy=>b (by rw [<-y];exact z)⟩,λx z=>w.new x z.1,λx z=>w.trk x z.1,by simp [w.len],λj y q=>?_,λj k y z l' e1 y1 e2 z2 e3 e4=>?_⟩,S⟩
 ·by_cases hj:j=i
  ·subst hj;rw [RL li] at q;cases q;exact⟨.ref l,by rw [h];rfl,hd _ S (λz=>z.2 rfl)⟩
  ·rw [Rr (Ne.symm hj)] at q;refine(w.sl j y q).go S (λb o ho' e' a1 a2 a3=>⟨⟨a1,λz=>?_⟩,a3⟩) (λb o u a1 a2 a3=>⟨⟨a1,λz=>w.nofrz e ho h o u (by rw [<-z];exact a3)⟩,a3⟩) λb o a1 a3=>a3;subst z
   match y,ho',q with
   | some z,ho',q=>exact hj (w.dis j i z y0 _ q (by cases z <;> first | trivial | cases ho') e ho (fL e') h)
 ·have n1:=ne e1 y1;have n2:=ne e2 z2;rw [Rr (Ne.symm n1)] at e1;rw [Rr (Ne.symm n2)] at e2;exact w.dis j k _ _ l' e1 y1 e2 z2 e3 e4
theorem Wd.freeze{K:Q7}{H:Hp}{O:Ex}{σ:St}{δ:Dl}(w:Wd K H0 O0 H O σ δ){i:Nat}{ds:List Ys}(e:δ[i]?=some (some (.o ds))):∃O',Wd K H0 O0 H O' σ (δ.set i (some (.v (.list ds))))/\aM H H O O':=by
 obtain⟨l,vs,h,a,b,c,r⟩:=w.own e;exact w.letbe (y0:= .o ds) e trivial h λO' S n=>.lst (.inl c) n (r.step S)
def jY(i:Nat)(t:DS):DS:=λE δ=>∃ds,δ[i]?=some (some (.o ds))/\t E (δ.set i (some (.v (.list ds))))
theorem Ka(i:Nat){st:YH}{t:DS}(h:PS X st (bg X.K H0 O0 t)):PS X st (bg X.K H0 O0 (jY i t)):=
 h.imp λD σ H uu16=>by
  obtain⟨O,δ,E,w,⟨ds,e,q⟩,k1,k2,k3,k4⟩:=uu16;obtain⟨O',w',S⟩:=w.freeze e;exact⟨O',_,E,w',q,λO2 δ2 σ2 H2 z2 w2 S2=>k1 O2 δ2 σ2 H2 z2 w2 (S.trans S2),k2,λO2 δ2 σ2 H2 z2 w2 S2=>k3 O2 δ2 σ2 H2 z2 w2 (S.trans S2),λO2 δ2 σ2 H2 z2 w2 S2=>k4 O2 δ2 σ2 H2 z2 w2 (S.trans S2)⟩
def dH(k:Nat)(fr:List Nat)(δ:Dl):Dl:=RR k none++fr.map λj=>(δ[j]?).join
def tu(g:DG)(tc:DB)(te:DT)(δ0:Dl):List Ys->List Ys->(List Ys->Prop)->Prop
 | [],acc,Q=>Q acc
 | x::xs,acc,Q=>g x δ0 λδ2=>tc δ2 λok=>if ok=true then te δ2 λy=>tu g tc te δ0 xs (acc++[y]) Q else tu g tc te δ0 xs acc Q
theorem Wd.comp{K:Q7}{H:Hp}{O:Ex}{σ:St}{δ:Dl}(w:Wd K H0 O0 H O σ δ){k:Nat}{fr:List Nat}(hf:fr.Nodup):Wd K H0 O0 H O (bx k fr σ) (dH k fr δ):=by
 have at1:∀{α:Type}(l:List (Option α))(i:Nat),(RR k none++fr.map λj=>(l[j]?).join)[i]?=if i < k then some none else(fr[i - k]?).map λj=>(l[j]?).join:=by
  intro α l i;by_cases h:i < k
  ·rw [Yp h,Sq (by simpa using h),Tu,Yp h]
  ·rw [Yo h,Ta (by simpa using TK h),Rt];simp
 have un:∀{α:Type}(l:List (Option α))(i:Nat)(x:α),(RR k none++fr.map λj=>(l[j]?).join)[i]?=some (some x)->∃j,fr[i - k]?=some j/\k<=i/\l[j]?=some (some x):=by
  intro α l i x h;rw [at1] at h;split at h
  ·cases h
  ·cases e:fr[i - k]? with
   | none=>rw [e] at h;cases h
   | some j=>
    rw [e] at h;refine⟨j,rfl,Yn,?_⟩;have h':(l[j]?).join=some x:=Sk h;cases q:l[j]? with
    | none=>rw [q] at h';cases h'
    | some o=>rw [q] at h';rw [show o=some x from h']
 refine⟨w.same,w.sub,w.new,w.trk,by simp [bx,dH],λi y e=>?_,λi j y z l e1 y1 e2 z2 e3 e4=>?_⟩
 ·match y,e with
  | none,_=>exact S9
  | some x,e=>
   obtain⟨j,hj,hk,ej⟩:=un δ i x e;have q:=w.sl j _ ej;have e2:((bx k fr σ)[i]?).join=(σ[j]?).join:=by
    unfold bx;rw [at1,Yo Yn,hj];rfl
   rw [e2];exact q
 ·obtain⟨a,ha,ka,ea⟩:=un δ i _ e1;obtain⟨b,hb,kb,eb⟩:=un δ j _ e2;obtain⟨a',ha',_,ea'⟩:=un σ i _ e3;obtain⟨b',hb',_,eb'⟩:=un σ j _ e4;rw [ha] at ha';cases ha';rw [hb] at hb';cases hb';have:=w.dis a b y z l ea y1 eb z2 ea' eb';subst this;have e5:=(Vw (l:=fr) (i:=i - k) (j:=j - k) (Rm.mp ha).1 hf).mp (by rw [ha,hb]);omega
theorem Q2{K:Q7}{J:It}{P:Hp->Prop}{vs:List V}{xs:List Ys}{g:TG}{dg:DG}{tc:TT}{dc:DB}{te:TE}{de:DT}{k:Nat}{fr:List Nat}{σ:St}{H:Hp}{O:Ex}{δ:Dl}{Qd:List Ys->Prop}{Q:VK}(S:cZ J P vs)(gd:GD K g dg)(hf:fr.Nodup)
 (hk:∀v:V,∀σ':St,∀H':Hp,∀R:St->Hp->Prop,g v (bx k fr σ) H' R->g v (bx k fr σ) H' λσ2 H2=>kr (bx k fr σ) σ2/\R σ2 H2)
 (hc:∀σ H Q,bO K H0 O0 dc σ H Q->tc σ H Q)(he:∀σ H Q,up K H0 O0 de σ H Q->te σ H Q)
 (hP:∀D H',H D=none->pF D H H'->P H')(r:ak K H O vs xs)(w:Wd K H0 O0 H O σ δ)(hz:vs.length<=YC)(q:tu dg dc de (dH k fr δ) xs [] Qd)
 (k1:∀ds us p H',Qd ds->ar H H'->H' p=none->ak K H' O us ds->Q (.ref p) (ai H' p (.lst us))):mW J g tc te k fr σ H Q:=by
 intro D hD;have w0:Wd K H0 O0 H O (bx k fr σ) (dH k fr δ):=w.comp hf;have nD:¬O D:=λz=>w.trk D z hD;have D0:H0 D=none:=by
  cases e:H0 D with
  | none=>rfl
  | some o=>rw [w.same _ _ e] at hD;cases hD
 have ex:∀H',pF D H H'->H' D≠none->Wd K H0 O0 H' (λa=>O a\/a=D) (bx k fr σ) (dH k fr δ):=λH' s' hd=>by
  have S':aM H H' O (λa=>O a\/a=D):=⟨λb o e _=>s' b o e (eY e hD),λb hb hn z=>z.elim hn λq=>hb (by rw [q];exact hD)⟩;refine⟨λb o e=>s' b o (w.same b o e) (λz=>by rw [z,D0] at e;cases e),λl z=>.inl (w.sub l z),λl z=>z.elim (w.new l) λq=>.inr (by rw [q];exact D0),λl z=>?_,w0.len,λj y e=>?_,w0.dis⟩
  ·by_cases ql:l=D
   ·rw [ql];exact hd
   ·have hl:=w.trk l (z.resolve_right ql);cases e:H l with
    | none=>exact absurd e hl
    | some o=>rw [s' l o e ql];exact λz=>nomatch z
  ·exact(w0.sl j y e).go S' (λl o _ _ a1 _ a3=>⟨.inl a1,s' _ _ a3 (λz=>nD (by rw [<-z];exact a1))⟩) (λa o u a1 _ a3=>⟨.inl a1,s' _ _ a3 (λz=>nD (by rw [<-z];exact a1))⟩) λa o a1 a3=>s' _ _ a3 (λz=>nD (by rw [<-z];exact w.sub _ a1))
 refine⟨λi m H'=>∃acc ys,m=vs.length - i/\i<=vs.length/\pF D H H'/\H' D=some (.lst ys)/\ys.length<=i/\ak K H' (λa=>O a\/a=D) ys acc/\tu dg dc de (dH k fr δ) (xs.drop i) acc Qd,⟨vs.length,[],[],Yr,Sd _,λb o e n=>by rw [az n];exact e,bh,Sd _,.nil,by simpa using q⟩,?_⟩;rintro i m H1 ⟨acc,ys,rfl,hi,s1,e1,hy,ra,q1⟩;by_cases hlt:i < vs.length
 ·refine .inr ⟨S.go i H1 (hP D H1 hD s1) hlt,λx H' y=>?_⟩;have yy:=S.yl i H1 x H' (hP D H1 hD s1) hlt y;clear y;obtain⟨e,y⟩:=yy;subst e;obtain⟨d,ed,rd⟩:=r.get y;have hd:xs.drop i=d::xs.drop (i+1):=by
   rw [Vj (h:=(Rm.mp ed).1),(Rm.mp ed).2]
  rw [hd] at q1;have w1:=ex _ s1 (by rw [e1];exact λz=>nomatch z);have S':aM H H' O (λa=>O a\/a=D):=⟨λb o e _=>s1 b o e (eY e hD),λb hb hn z=>z.elim hn λq=>hb (by rw [q];exact hD)⟩;refine hk x σ _ _ (gd H0 O0 _ _ _ _ x d _ _ w1 (rd.step S') q1 λδ2 σ2 q2 w2=>?_);refine hc σ2 _ _ ⟨_,δ2,_,w2,q2,λok H3 q3 s3=>?_⟩;cases ok with
  | true=>
   rw [Yp rfl];refine he σ2 H3 _ ⟨_,δ2,_,w2.mono s3,q3,λd' v H4 q4 s4 r4=>?_⟩;have e4:=s4 _ _ (s3 _ _ e1);have sD:aM H4 (ai H4 D (.lst (ys++[v]))) (λa=>O a\/a=D) (λa=>O a\/a=D):=⟨λb o e n=>by rw [az (λz=>n (.inr z))];exact e,λ_ _ n=>n⟩;refine⟨ys,e4,Yn,vs.length - (i+1),Yn,acc++[d'],ys++[v],rfl,hlt,λb o e n=>by rw [az n];exact s4 _ _ (s3 _ _ (s1 b o e n)),bh,by simpa using hy,?_,q4⟩;exact((ra.mono (s3.trans s4)).append (.cons r4 .nil)).step sD
  | false=>
   rw [Yo Ym];exact⟨vs.length - (i+1),Yn,acc,ys,rfl,hlt,λb o e n=>s3 _ _ (s1 b o e n),s3 _ _ e1,Yn,ra.mono s3,q3⟩
 ·have e:i=vs.length:=Yn
  subst e;refine .inl ⟨S.st _ H1 (hP D H1 hD s1) (Rf _),?_⟩;rw [r.length,US (Rf _)] at q1;have hrest:∃H2:Hp,H2 D=none/\ar H H2/\H1=ai H2 D (.lst ys):=by
   refine⟨λb=>if b=D then none else H1 b,Yr,λb o e=>?_,?_⟩
   ·have n:=eY e hD;show(if b=D then none else H1 b)=some o;rw [Yo n];exact s1 b o e n
   ·funext b;by_cases z:b=D
    ·rw [z,bh];exact e1
    ·rw [az z];show H1 b=if b=D then none else H1 b;rw [Yo z]
  obtain⟨H2,h2,s2,rfl⟩:=hrest;refine k1 acc ys D H2 q1 s2 h2 (ra.step ⟨λb o e n=>?_,λb _ n z=>n (.inl z)⟩);rw [az (λz=>n (.inr z))] at e;exact e
def hU(g:DG)(tc:DB)(te:DT)(δ0:Dl)(xs:List Ys)(Q:List Ys->Prop):Prop:=∃I:Nat->List Ys->Prop,I 0 []/\(∀i x acc,xs[i]?=some x->I i acc->g x δ0 λδ2=>tc δ2 λok=>if ok=true then te δ2 λy=>I (i+1) (acc++[y]) else I (i+1) acc)/\∀acc,I xs.length acc->Q acc
theorem pL{K:Q7}{J:It}{P:Hp->Prop}{vs:List V}{xs:List Ys}{g:TG}{dg:DG}{tc:TT}{dc:DB}{te:TE}{de:DT}{k:Nat}{fr:List Nat}{σ:St}{H:Hp}{O:Ex}{δ:Dl}{Qd:List Ys->Prop}{Q:VK}(S:cZ J P vs)(gd:GD K g dg)(hf:fr.Nodup)
 (hk:∀v:V,∀σ':St,∀H':Hp,∀R:St->Hp->Prop,g v (bx k fr σ) H' R->g v (bx k fr σ) H' λσ2 H2=>kr (bx k fr σ) σ2/\R σ2 H2)
 (hc:∀σ H Q,bO K H0 O0 dc σ H Q->tc σ H Q)(he:∀σ H Q,up K H0 O0 de σ H Q->te σ H Q)
 (hP:∀D H',H D=none->pF D H H'->P H')(r:ak K H O vs xs)(w:Wd K H0 O0 H O σ δ)(hz:vs.length<=YC)(q:hU dg dc de (dH k fr δ) xs Qd)
 (k1:∀ds us p H',Qd ds->ar H H'->H' p=none->ak K H' O us ds->Q (.ref p) (ai H' p (.lst us))):mW J g tc te k fr σ H Q:=by
 obtain⟨Iv,q0,qs,qe⟩:=q;intro D hD;have w0:Wd K H0 O0 H O (bx k fr σ) (dH k fr δ):=w.comp hf;have nD:¬O D:=λz=>w.trk D z hD;have D0:H0 D=none:=by
  cases e:H0 D with
  | none=>rfl
  | some o=>rw [w.same _ _ e] at hD;cases hD
 have ex:∀H',pF D H H'->H' D≠none->Wd K H0 O0 H' (λa=>O a\/a=D) (bx k fr σ) (dH k fr δ):=λH' s' hd=>by
  have S':aM H H' O (λa=>O a\/a=D):=⟨λb o e _=>s' b o e (eY e hD),λb hb hn z=>z.elim hn λq=>hb (by rw [q];exact hD)⟩;refine⟨λb o e=>s' b o (w.same b o e) (λz=>by rw [z,D0] at e;cases e),λl z=>.inl (w.sub l z),λl z=>z.elim (w.new l) λq=>.inr (by rw [q];exact D0),λl z=>?_,w0.len,λj y e=>?_,w0.dis⟩
  ·by_cases ql:l=D
   ·rw [ql];exact hd
   ·have hl:=w.trk l (z.resolve_right ql);cases e:H l with
    | none=>exact absurd e hl
    | some o=>rw [s' l o e ql];exact λz=>nomatch z
  ·exact(w0.sl j y e).go S' (λl o _ _ a1 _ a3=>⟨.inl a1,s' _ _ a3 (λz=>nD (by rw [<-z];exact a1))⟩) (λa o u a1 _ a3=>⟨.inl a1,s' _ _ a3 (λz=>nD (by rw [<-z];exact a1))⟩) λa o a1 a3=>s' _ _ a3 (λz=>nD (by rw [<-z];exact w.sub _ a1))
 refine⟨λi m H'=>∃acc ys,m=vs.length - i/\i<=vs.length/\pF D H H'/\H' D=some (.lst ys)/\ys.length<=i/\ak K H' (λa=>O a\/a=D) ys acc/\Iv i acc,⟨vs.length,[],[],Yr,Sd _,λb o e n=>by rw [az n];exact e,bh,Sd _,.nil,q0⟩,?_⟩;rintro i m H1 ⟨acc,ys,rfl,hi,s1,e1,hy,ra,q1⟩;by_cases hlt:i < vs.length
 ·refine .inr ⟨S.go i H1 (hP D H1 hD s1) hlt,λx H' y=>?_⟩;have yy:=S.yl i H1 x H' (hP D H1 hD s1) hlt y;clear y;obtain⟨e,y⟩:=yy;subst e;obtain⟨d,ed,rd⟩:=r.get y;have w1:=ex _ s1 (by rw [e1];exact λz=>nomatch z);have S':aM H H' O (λa=>O a\/a=D):=⟨λb o e _=>s1 b o e (eY e hD),λb hb hn z=>z.elim hn λq=>hb (by rw [q];exact hD)⟩;refine hk x σ _ _ (gd H0 O0 _ _ _ _ x d _ _ w1 (rd.step S') (qs i d acc ed q1) λδ2 σ2 q2 w2=>?_);refine hc σ2 _ _ ⟨_,δ2,_,w2,q2,λok H3 q3 s3=>?_⟩;cases ok with
  | true=>
   rw [Yp rfl];refine he σ2 H3 _ ⟨_,δ2,_,w2.mono s3,q3,λd' v H4 q4 s4 r4=>?_⟩;have e4:=s4 _ _ (s3 _ _ e1);have sD:aM H4 (ai H4 D (.lst (ys++[v]))) (λa=>O a\/a=D) (λa=>O a\/a=D):=⟨λb o e n=>by rw [az (λz=>n (.inr z))];exact e,λ_ _ n=>n⟩;refine⟨ys,e4,Yn,vs.length - (i+1),Yn,acc++[d'],ys++[v],rfl,hlt,λb o e n=>by rw [az n];exact s4 _ _ (s3 _ _ (s1 b o e n)),bh,by simpa using hy,?_,q4⟩;exact((ra.mono (s3.trans s4)).append (.cons r4 .nil)).step sD
  | false=>
   rw [Yo Ym];exact⟨vs.length - (i+1),Yn,acc,ys,rfl,hlt,λb o e n=>s3 _ _ (s1 b o e n),s3 _ _ e1,Yn,ra.mono s3,q3⟩
 ·have e:i=vs.length:=Yn
  subst e;refine .inl ⟨S.st _ H1 (hP D H1 hD s1) (Rf _),?_⟩;rw [r.length] at q1;have hrest:∃H2:Hp,H2 D=none/\ar H H2/\H1=ai H2 D (.lst ys):=by
   refine⟨λb=>if b=D then none else H1 b,Yr,λb o e=>?_,?_⟩
   ·have n:=eY e hD;show(if b=D then none else H1 b)=some o;rw [Yo n];exact s1 b o e n
   ·funext b;by_cases z:b=D
    ·rw [z,bh];exact e1
    ·rw [az z];show H1 b=if b=D then none else H1 b;rw [Yo z]
  obtain⟨H2,h2,s2,rfl⟩:=hrest;refine k1 acc ys D H2 (qe acc q1) s2 h2 (ra.step ⟨λb o e n=>?_,λb _ n z=>n (.inl z)⟩);rw [az (λz=>n (.inr z))] at e;exact e
def hV:DB:=λ_ Q=>Q true
def jo(g:TG)(k:Nat):Prop:=∀(fr:List Nat)(σ:St)(v:V)(H':Hp)(R:St->Hp->Prop),g v (bx k fr σ) H' R->g v (bx k fr σ) H' λσ2 H2=>kr (bx k fr σ) σ2/\R σ2 H2
theorem bS:jo (gH 0) 1:=λfr σ v H' R h=>⟨Cp,h⟩
def jq(t:DT)(g:DG)(tc:DB)(te:DT)(k:Nat)(fr:List Nat):DA:=λδ Q=>t δ λd=>∃xs,d= .list xs/\xs.length<=YC/\hU g tc te (dH k fr δ) xs Q
def jr(t:DT)(g:DG)(tc:DB)(te:DT)(k:Nat)(fr:List Nat):DA:=λδ Q=>t δ λd=>∃xs,d= .tuple xs/\xs.length<=YC/\hU g tc te (dH k fr δ) xs Q
def kP(ta:DA)(g:DG)(tc:DB)(te:DT)(k:Nat)(fr:List Nat):DA:=λδ Q=>ta δ λds=>∃j:Int,ds=[.int j]/\-(2 ^ 62)<=j/\j < YC/\hU g tc te (dH k fr δ) (jn 0 j.toNat) Q
section
variable {tg iter elt:YA} {ifs:List YA} {scope:Y4} {N':List Str} {k:Nat} {fr:List Nat} {g:TG} {dg:DG} {t:DT} {ta:DA} {tc:DB} {te:DT} {pos p ps:Pos}
theorem fh(hc:X.calm=true)(S:aZ X.env.scope X.N N' k fr scope)(hi:DF X H0 O0 iter t)(gd:GD X.K g dg)(hk:jo g k)(hfr:fr.Nodup)
 (hg:∀fp C s H,PG (bE X scope N' fp C s H) tg g)(hf:∀fp C s H,fJ (bE X scope N' fp C s H) ifs (bO X.K H0 O0 tc))(he:∀fp C s H,PE (bE X scope N' fp C s H) elt (up X.K H0 O0 te))
 (hs:∀x,YL iter X.env x=pure x:=by intro _;rfl):FE X H0 O0 (.ListComp elt [⟨tg,iter,ifs,0⟩] scope pos) (jq t dg tc te k fr):=
 (qN hc S (sr hi) hg hf he hs).imp λσ H Q uu17=>by obtain⟨O,δ,Qd,w,q,kk⟩:=uu17;exact⟨O,δ,_,w,q,λd v H1 uu18 s1 r1=>by
  obtain⟨xs,e,hz,q1⟩:=uu18;subst e;obtain⟨a,vs,rfl,hq,rr⟩:=r1.lst;refine⟨a,rfl,⟨_,hq⟩,λD hD=>pL (cZ.list hq) gd hfr (λv _ H' R h=>hk fr σ v H' R h) (λ_ _ _ z=>z) (λ_ _ _ z=>z) (λD H' hD s' o e=>s' _ _ e (eY e hD)) rr (w.mono s1) (by rw [rr.length];exact hz) q1 (λds us p H' z s' hp r'=>kk ds us p H' z (s1.trans s') hp r') D hD⟩⟩
theorem kQ(hc:X.calm=true)(S:aZ X.env.scope X.N N' k fr scope)(hi:DF X H0 O0 iter t)(gd:GD X.K g dg)(hk:jo g k)(hfr:fr.Nodup)
 (hg:∀fp C s H,PG (bE X scope N' fp C s H) tg g)(hf:∀fp C s H,fJ (bE X scope N' fp C s H) ifs (bO X.K H0 O0 tc))(he:∀fp C s H,PE (bE X scope N' fp C s H) elt (up X.K H0 O0 te))
 (hs:∀x,YL iter X.env x=pure x:=by intro _;rfl):FE X H0 O0 (.ListComp elt [⟨tg,iter,ifs,0⟩] scope pos) (jr t dg tc te k fr):=
 (qN hc S (vG hi) hg hf he hs).imp λσ H Q uu19=>by obtain⟨O,δ,Qd,w,q,kk⟩:=uu19;exact⟨O,δ,_,w,q,λd v H1 uu20 s1 r1=>by
  obtain⟨xs,e,hz,q1⟩:=uu20;subst e;obtain⟨a,vs,rfl,hq,rr⟩:=r1.tup;refine⟨a,rfl,⟨_,hq⟩,λD hD=>pL (cZ.tup hq) gd hfr (λv _ H' R h=>hk fr σ v H' R h) (λ_ _ _ z=>z) (λ_ _ _ z=>z) (λD H' hD s' o e=>s' _ _ e (eY e hD)) rr (w.mono s1) (by rw [rr.length];exact hz) q1 (λds us p H' z s' hp r'=>kk ds us p H' z (s1.trans s') hp r') D hD⟩⟩
theorem Cu(hc:X.calm=true){a:YA}(S:aZ X.env.scope X.N N' k fr scope)(hgl:Gl X "range")(hm:X.mg "range"=none)(ha:PA X [a] (gZ X.K H0 O0 ta))(gd:GD X.K g dg)(hk:jo g k)(hfr:fr.Nodup)
 (hg:∀fp C s H,PG (bE X scope N' fp C s H) tg g)(hf:∀fp C s H,fJ (bE X scope N' fp C s H) ifs (bO X.K H0 O0 tc))(he:∀fp C s H,PE (bE X scope N' fp C s H) elt (up X.K H0 O0 te))
 (hst:Yz [a] X.env=[(false,eval a X.env)]:=by rfl)(hs:∀x,YL (.Call (.Name "range" p) [a] [] ps) X.env x=pure x:=by intro _;rfl):
 FE X H0 O0 (.ListComp elt [⟨tg,(.Call (.Name "range" p) [a] [] ps),ifs,0⟩] scope pos) (kP ta dg tc te k fr):=
 (qN hc S (BB hgl hm ha hst) hg hf he hs).imp λσ H Q uu21=>by obtain⟨O,δ,Qd,w,q,kk⟩:=uu21;exact⟨O,δ,_,w,q,λds vs H1 uu22 s1 r1=>by
  obtain⟨j,e,b1,b2,q1⟩:=uu22;subst e;cases r1 with
  | cons r1 r2=>
   cases r2;cases r1.int;have hb:(YC:Int) < 2 ^ 62:=Ym
   exact⟨j,rfl,b1,Yn,λD hD=>pL (P:=λ_=>True) cZ.rng gd hfr (λv _ H' R h=>hk fr σ v H' R h) (λ_ _ _ z=>z) (λ_ _ _ z=>z) (λ_ _ _ _=>trivial) (ak.rng _) (w.mono s1) (by rw [Q8,UU];omega) q1 (λds us p H' z s' hp r'=>kk ds us p H' z (s1.trans s') hp r') D hD⟩⟩
end
end
section
variable {K:Q7}
def dI(g:Int->Int->Ys):Ys->Ys->(Ys->Prop)->Prop:=λx y Q=>∃i j,x= .int i/\y= .int j/\Q (g i j)
def kR(C:Int->Int->Prop)(g:Int->Int->Ys):Ys->Ys->(Ys->Prop)->Prop:=λx y Q=>∃i j,x= .int i/\y= .int j/\C i j/\Q (g i j)
theorem bf{g:Int->Int->Int}:cK K (iE λi j=>.int (g i j)) (dI λi j=>.int (g i j)):=λH O x y dx dy Qd R _ hx hy uu23 k=>by
 obtain⟨i,j,e1,e2,q⟩:=uu23;subst e1 e2;cases hx.int;cases hy.int;exact⟨i,j,rfl,rfl,k _ _ H q (ar.refl _) (.int _)⟩
theorem cq{g:Int->Int->Bool}:cK K (iE λi j=>.bl (g i j)) (dI λi j=>.bool (g i j)):=λH O x y dx dy Qd R _ hx hy uu24 k=>by
 obtain⟨i,j,e1,e2,q⟩:=uu24;subst e1 e2;cases hx.int;cases hy.int;exact⟨i,j,rfl,rfl,k _ _ H q (ar.refl _) (.bl _)⟩
theorem aR{C:Int->Int->Prop}{g:Int->Int->Int}:cK K (rI C λi j=>.int (g i j)) (kR C λi j=>.int (g i j)):=λH O x y dx dy Qd R _ hx hy uu25 k=>by
 obtain⟨i,j,e1,e2,c,q⟩:=uu25;subst e1 e2;cases hx.int;cases hy.int;exact⟨i,j,rfl,rfl,c,k _ _ H q (ar.refl _) (.int _)⟩
def Cv(K:Q7):R2:=λx y H Q=>∃O dx dy,Sh K H O x dx/\Sh K H O y dy/\cJ dx/\cJ dy/\Q (.bl (RC dx dy)) H
def Cw(K:Q7):R2:=λx y H Q=>∃O dx dy,Sh K H O x dx/\Sh K H O y dy/\cJ dx/\cJ dy/\Q (.bl (!RC dx dy)) H
theorem fM{X:Cx}(hu:X.A.units+64 < YQ):bN X (YO .Eq) (Cv X.K):=by
 intro aaa s σ H x y v u Q I rx ry h;obtain⟨O,dx,dy,hx,hy,sx,sy,q⟩:=h;obtain⟨as,ra⟩:=iK I hx.all (SG sx) rx;obtain⟨bs,rb⟩:=iK I hy.all (SG sy) ry;exact SeqAt.compareEq_shaped ra rb sx sy hu (bC I q rfl)
theorem wx{X:Cx}(hu:X.A.units+64 < YQ):bN X (YO .NotEq) (Cw X.K):=by
 intro aaa s σ H x y v u Q I rx ry h;obtain⟨O,dx,dy,hx,hy,sx,sy,q⟩:=h;obtain⟨as,ra⟩:=iK I hx.all (SG sx) rx;obtain⟨bs,rb⟩:=iK I hy.all (SG sy) ry;exact SeqAt.compareNe_shaped ra rb sx sy hu (bC I q rfl)
def kT:Ys->Ys->(Ys->Prop)->Prop:=λx y Q=>cJ x/\cJ y/\Q (.bool (RC x y))
def kU:Ys->Ys->(Ys->Prop)->Prop:=λx y Q=>cJ x/\cJ y/\Q (.bool (!RC x y))
theorem fN:cK K (Cv K) kT:=λH O x y dx dy Qd R _ hx hy uu26 k=>by obtain⟨a,b,q⟩:=uu26;exact⟨O,dx,dy,hx,hy,a,b,k _ _ H q (ar.refl _) (.bl _)⟩
theorem wy:cK K (Cw K) kU:=λH O x y dx dy Qd R _ hx hy uu27 k=>by obtain⟨a,b,q⟩:=uu27;exact⟨O,dx,dy,hx,hy,a,b,k _ _ H q (ar.refl _) (.bl _)⟩
def kW:Ys->Ys->(Ys->Prop)->Prop:=λx y Q=>∃ds i d,x= .list ds/\y= .int i/\atI ds i=some d/\Q d
def hZ:Ys->Ys->(Ys->Prop)->Prop:=λx y Q=>∃ds i d,x= .tuple ds/\y= .int i/\atI ds i=some d/\Q d
theorem ak.atI{H:Hp}{O:Ex}{vs:List V}{ds:List Ys}{i:Int}{d:Ys}(r:ak K H O vs ds)(e:L2.atI ds i=some d):∃v,L2.atI vs i=some v/\Dt K H O v d:=by
 unfold L2.atI at e⊢;rw [r.length];cases q:jg ds.length i with
 | none=>rw [q] at e;cases e
 | some j=>rw [q] at e;exact r.getD e
theorem aT:cK K (vS K) kW:=λH O x y dx dy Qd R _ hx hy uu28 k=>by
 obtain⟨ds,i,d,e1,e2,e3,q⟩:=uu28;subst e1 e2;obtain⟨a,vs,rfl,hs,r⟩:=hx.lst;cases hy.int;obtain⟨v,hv,rv⟩:=r.atI e3;exact⟨a,vs,i,v,rfl,rfl,hs,hv,k d v H q (ar.refl _) rv⟩
theorem aJ:cK K (sS K) hZ:=λH O x y dx dy Qd R _ hx hy uu29 k=>by
 obtain⟨ds,i,d,e1,e2,e3,q⟩:=uu29;subst e1 e2;obtain⟨a,vs,rfl,hs,r⟩:=hx.tup;cases hy.int;obtain⟨v,hv,rv⟩:=r.atI e3;exact⟨a,vs,i,v,rfl,rfl,hs,hv,k d v H q (ar.refl _) rv⟩
end
section
variable {X:Cx} {H0:Hp} {O0:Ex}
def Kb:R2:=λx y H Q=>∃l b xs zs,x= .ref l/\y= .ref b/\Rd H l (.lst xs)/\Rd H b (.lst zs)/\xs.length+zs.length<=YC/\∀p,H p=none->Q (.ref p) (ai H p (.lst (xs++zs)))
theorem Kc:bN X (Zo .Add) Kb:=by
 intro aaa s σ H x y v u Q I rx ry h;obtain⟨l,b,xs,zs,rfl,rfl,hH,hB,hz,q⟩:=h;cases rx;cases ry;obtain⟨z,its,n,r,e⟩:=hH.ok I.hok;obtain⟨z2,its2,n2,r2,e2⟩:=hB.ok I.hok;have l1:=r.length;have l2:=r2.length;refine PySem.P.add_list e e2 ?_ (by rw [RE,RE];omega);have ea:its.toArray++its2.toArray=(its++its2).toArray:=Yr
 rw [ea];exact⟨.ref _,_,I.lnew (t':=s.toks) (r.append r2) (by rw [Rv];omega),rfl,q _ I.fresh⟩
def kX(ta tb:DT):DA:=λδ Q=>ta δ λx=>tb δ λy=>∃xs ys,x= .list xs/\y= .list ys/\xs.length+ys.length<=YC/\Q (xs++ys)
theorem mZ{a b:YA}{ta tb:DT}{pos:Pos}(ha:DF X H0 O0 a ta)(hb:DF X H0 O0 b tb):FE X H0 O0 (.BinOp a .Add b pos) (kX ta tb):=
 (bH Kc ha hb).imp λσ H Q uu30=>by obtain⟨O,δ,Qd,w,q,k⟩:=uu30;exact⟨O,δ,_,w,q,λx v H1 q1 s1 r1=>⟨O,δ,_,w.mono s1,q1,λy u H2 uu31 s2 r2=>by
  obtain⟨xs,ys,e1,e2,hz,q2⟩:=uu31;subst e1 e2;obtain⟨a,vs,rfl,h1,d1⟩:=(r1.mono s2).lstR;obtain⟨b,us,rfl,h2,d2⟩:=r2.lstR;exact⟨a,b,vs,us,rfl,rfl,h1,h2,by rw [d1.length,d2.length];exact hz,λp hp=>k _ _ _ _ q2 (s1.trans s2) hp (d1.append d2)⟩⟩⟩
def eQ(xs:List Ys)(lo hi:Option Int):List Ys:=(xs.drop (HT.sIx xs.length 0 lo)).take (HT.sIx xs.length xs.length hi - HT.sIx xs.length 0 lo)
theorem ak.cut{K:Q7}{H:Hp}{O:Ex}{vs:List V}{ds:List Ys}(r:ak K H O vs ds)(lo hi:Option Int):ak K H O (pE vs lo hi) (eQ ds lo hi):=by
 unfold pE eQ;rw [r.length];exact(r.drop _).take _
abbrev DO:=Dl->(Option Int->Prop)->Prop
inductive jZ (K:Q7) (H0:Hp) (O0:Ex) (t:DO) (σ:St) (H:Hp) (R:Option Int->Hp->Prop):Prop
 | mk (O:Ex) (δ:Dl) (Qd:Option Int->Prop):Wd K H0 O0 H O σ δ->t δ Qd->(∀d H',Qd d->ar H H'->R d H')->jZ K H0 O0 t σ H R
def kY:DO:=λ_ Q=>Q none
def kZ(t:DT):DO:=λδ Q=>t δ λd=>∃i,d= .int i/\Q (some i)
theorem PO.imp{X:Cx}{e:Option YA}{t u:TO}(h:PO X e t)(i:∀σ H Q,u σ H Q->t σ H Q):PO X e u:=λaaa s σ H Q I z=>h aaa s σ H Q I (i σ H Q z)
theorem nc:PO X none (jZ X.K H0 O0 kY):=Jd.imp λσ H Q uu32=>by obtain⟨O,δ,Qd,w,q,k⟩:=uu32;exact k none H q (ar.refl _)
theorem iS{e:YA}{t:DT}(h:DE X H0 O0 e t):PO X (some e) (jZ X.K H0 O0 (kZ t)):=(Je h).imp λσ H Q uu33=>by obtain⟨O,δ,Qd,w,q,k⟩:=uu33;exact⟨O,δ,_,w,q,λd v H1 uu34 s1 r1=>by obtain⟨i,e,q1⟩:=uu34;subst e;cases r1;exact⟨i,rfl,k _ H1 q1 s1⟩⟩
def k6(t:DT)(tl th:DO):DA:=λδ Q=>t δ λd=>tl δ λl=>th δ λu=>∃xs,d= .list xs/\Q (eQ xs l u)
theorem qU{e:YA}{lo hi:Option YA}{t:DT}{tl th:DO}{pos p2:Pos}(h:DF X H0 O0 e t)(hl:PO X lo (jZ X.K H0 O0 tl))(hu:PO X hi (jZ X.K H0 O0 th)):FE X H0 O0 (.Subscript e (.Slice lo hi none p2) pos) (k6 t tl th):=
 (vQ Ca h hl hu).imp λσ H Q uu35=>by obtain⟨O,δ,Qd,w,q,k⟩:=uu35;exact⟨O,δ,_,w,q,λd v H1 q1 s1 r1=>⟨O,δ,_,w.mono s1,q1,λl H2 q2 s2=>⟨O,δ,_,w.mono (s1.trans s2),q2,λu H3 uu36 s3=>by
  obtain⟨xs,e,q3⟩:=uu36;subst e;obtain⟨a,vs,rfl,h1,d1⟩:=(r1.mono (s2.trans s3)).lst;exact⟨a,vs,rfl,h1,λp hp=>k _ _ _ _ q3 (s1.trans (s2.trans s3)) hp (d1.cut l u)⟩⟩⟩⟩
theorem ao{a b:YA}{ta tb:DT}{r:R2}{rd:Ys->Ys->(Ys->Prop)->Prop}{pos:Pos}(ho:qM X r)(hd:cK X.K r rd)(ha:DF X H0 O0 a ta)(hb:DF X H0 O0 b tb)(hs:∀v u,Z0 b false v u=operate [v,u] (getItem v u):=by intro _ _;rfl):DE X H0 O0 (.Subscript a b pos) (cQ rd ta tb):=(jT ho ha hb hs).imp (tj hd)
def k7:List Ys->(Ys->Prop)->Prop:=λds Q=>∃xs,(ds=[.list xs]\/ds=[.tuple xs])/\Q (.int xs.length)
def k8:List Ys->(Ys->Prop)->Prop:=λds Q=>∃xs,ds=[jj xs]/\Q (.int xs.length)
theorem wz{K:Q7}:iM K (λxs H Q=>∃p ys,xs=[.ref p]/\(bq K H p ys\/bw K H p ys)/\Q (.int ys.length) H) k7:=λH O xs ds Qd R _ hs uu37 k=>by
 obtain⟨ys,e,q⟩:=uu37;rcases e with e | e <;> subst e
 ·cases hs with
  | cons h r=>
   cases r;obtain⟨a,vs,rfl,h1,d1⟩:=h.lst;exact⟨a,vs,rfl,.inl h1,by rw [d1.length];exact k _ _ H q (ar.refl _) (.int _)⟩
 ·cases hs with
  | cons h r=>
   cases r;obtain⟨a,vs,rfl,h1,d1⟩:=h.tup;exact⟨a,vs,rfl,.inr h1,by rw [d1.length];exact k _ _ H q (ar.refl _) (.int _)⟩
theorem Kd{K:Q7}:iM K (λxs H Q=>∃p ys,xs=[.ref p]/\(bq K H p ys\/bw K H p ys)/\Q (.int ys.length) H) k8:=λH O xs ds Qd R _ hs uu38 k=>by
 obtain⟨ys,e,q⟩:=uu38;subst e;cases hs with
 | cons h r=>
  cases r;obtain⟨a,vs,rfl,h1,d1⟩:=h.scr;exact⟨a,vs,rfl,.inl h1,by rw [d1.length];exact k _ _ H q (ar.refl _) (.int _)⟩
def k9:List Ys->(Ys->Prop)->Prop:=λds Q=>∃xs,ds=[.list xs]/\Q (.tuple xs)
theorem ia{K:Q7}:iM K (λxs H Q=>∃p ys,xs=[.ref p]/\((bq K H p ys/\∀l,H l=none->Q (.ref l) (ai H l (.tup ys)))\/(bw K H p ys/\Q (.ref p) H))) k9:=λH O xs ds Qd R tr hs uu39 k=>by
 obtain⟨ys,e,q⟩:=uu39;subst e;cases hs with
 | cons h r=>
  cases r;obtain⟨a,vs,rfl,h1,d1⟩:=h.lst;exact⟨a,vs,rfl,.inl ⟨h1,λl hl=>k _ _ _ q (ar.new hl) (.tup (.inl bh) (λz=>tr l z hl) (d1.mono (ar.new hl)))⟩⟩
theorem ak.bools{K:Q7}{H:Hp}{O:Ex}:∀{bs:List Bool}{vs:List V},ak K H O vs (bs.map VC)->vs=bs.map V.bl
 | [],_,r=>by rw [RX] at r;cases r;rfl
 | b::bs,_,r=>by
  rw [Rb] at r;cases r with
  | cons h r=>cases h;rw [Rb,ak.bools r]
def lh(g:List Bool->Bool):List Ys->(Ys->Prop)->Prop:=λds Q=>∃bs:List Bool,ds=[.list (bs.map .bool)]/\Q (.bool (g bs))
theorem Ke{K:Q7}{g:List Bool->Bool}:iM K (λxs H Q=>∃(a:Yu)(bs:List Bool),xs=[.ref a]/\bq K H a (bs.map V.bl)/\Q (.bl (g bs)) H) (lh g):=λH O xs ds Qd R tr hs uu40 k=>by
 obtain⟨bs,e,q⟩:=uu40;subst e;cases hs with
 | cons h r=>
  cases r;obtain⟨a,vs,rfl,h1,d1⟩:=h.lst;cases d1.bools;exact⟨a,bs,rfl,h1,k _ _ H q (ar.refl _) (.bl _)⟩
def lq(g:Int->Int->Int):List Ys->(Ys->Prop)->Prop:=λds Q=>∃i j,ds=[.int i,.int j]/\Q (.int (g i j))
theorem wA{K:Q7}{g:Int->Int->Int}:iM K (λxs H Q=>∃i j,xs=[.int i,.int j]/\Q (.int (g i j)) H) (lq g):=λH O xs ds Qd R tr hs uu41 k=>by
 obtain⟨i,j,e,q⟩:=uu41;subst e;cases hs with
 | cons h r=>
  cases r with
  | cons h2 r=>
   cases r;cases h.int;cases h2.int;exact⟨i,j,rfl,k _ _ H q (ar.refl _) (.int _)⟩
end
section
variable {P:YE} {w:YF} {K:Q7} {mg:Str->Option Yt} {base:YG}
def fC(N:List Str)(ds:List Ys):Dl:=ds.map (λd=>some (.v d))++RR (N.length - ds.length) none
theorem Cy{H:Hp}{O:Ex}{N:List Str}{vs:List V}{ds:List Ys}(tr:∀l,O l->H l≠none)(r:ak K H O vs ds):Wd K H O H O (start N vs) (fC N ds):=by
 have hl:=r.length;have at1:∀(i:Nat) y,(fC N ds)[i]?=some y->(∃d,ds[i]?=some d/\y=some (.v d))\/y=none:=λi y e=>by
  unfold fC at e;by_cases h:i < ds.length
  ·rw [Sq (by simpa using h),Rt] at e;cases q:ds[i]? with
   | none=>rw [q] at e;cases e
   | some d=>rw [q] at e;exact .inl ⟨d,rfl,(Sk e).symm⟩
  ·rw [Ta (by simpa using TK h),Tu] at e;split at e
   ·exact .inr (Sk e).symm
   ·cases e
 refine⟨ar.refl _,λ_ z=>z,λ_ z=>.inl z,tr,by simp [start,fC,hl],λi y e=>?_,λi j ds' es l e1=>?_⟩
 ·rcases at1 i y e with⟨d,hd,rfl⟩ | rfl
  ·obtain⟨v,hv,rv⟩:=r.getD hd;refine⟨v,?_,rv⟩;unfold start;rw [Sq (by simpa using(Rm.mp hv).1),Rt,hv];rfl
  ·exact S9
 ·rcases at1 i _ e1 with⟨d,_,z⟩ | z
  ·cases z;intro h;exact h.elim
  ·cases z
theorem fc.okD{x qual:Str}{st:YH}{f:Yu}{fd:YD}{N ps:List Str}{k:Nat}{F:List Ys->(Ys->Prop)->Prop}(Fu:fc K x qual st f fd)(S:aN N ps (av st))(len:∀ds Q,F ds Q->ds.length=ps.length)
 (hbody:∀(cdv:Yt) (A:YJ) (outer:List Env) (s:Yw) (H:Hp) (O:Ex) (ds:List Ys) (Q:Ys->Prop) (E:XK),aY k (A.deeper (Zw qual (av st) s.heap.objs.size f cdv))->F ds Q->
  ∃t,bP (iI CX0 P w K mg base N qual (av st) f cdv A outer s H E).nox (fI st) (bg K H O t)/\t {nx:=λ_=>Q .none,rt:=Q} (fC N ds)):aB P w K mg base CX0 (k+1) f fd ps (aU K F):=by
 refine Fu.ok S (λvs H Q E h=>?_) (λcdv A outer s H vs Q E hr h=>?_)
 ·obtain⟨O,ds,Qd,_,r,q,_⟩:=h;rw [r.length];exact len _ _ q
 ·obtain⟨O,ds,Qd,tr,r,q,k⟩:=h;obtain⟨t,ht,q'⟩:=hbody cdv A outer s H O ds Qd E hr q;refine⟨_,ht,O,_,_,Cy tr r,q',λO' δ' σ' H' z w' S'=>?_,λd v H' z s' r'=>k d v H' z s' r',λ_ _ _ _ z=>z.elim,λ_ _ _ _ z=>z.elim⟩;exact k _ _ _ z w'.same .non
end
section
variable {X:Cx} {H0:Hp} {O0:Ex}
theorem eU:fJ X [] (bO X.K H0 O0 hV):=λaaa s σ H Q I h=>by
 obtain⟨O,δ,Qd,w,q,k⟩:=h;exact Cm aaa s σ H Q I (k true H q (ar.refl _))
def lr:Ys->Ys->(Ys->Prop)->Prop:=λx y Q=>∃i j,x= .str i/\y= .str j/\i.length+j.length<=YC/\Q (.str (i++j))
theorem wB{K:Q7}:cK K (λx y H Q=>∃i j,x= .str i/\y= .str j/\i.length+j.length<=YC/\Q (.str (i++j)) H) lr:=λH O x y dx dy Qd R tr hx hy uu42 k=>by
 obtain⟨i,j,e1,e2,hz,q⟩:=uu42;subst e1 e2;cases hx.str;cases hy.str;exact⟨i,j,rfl,rfl,hz,k _ _ H q (ar.refl _) (.str _)⟩
def lz:Ys->Ys->(Ys->Prop)->Prop:=λx y Q=>∃z i c,x= .str z/\y= .int i/\z.length<=YC/\atI z.cps.toList i=some c/\Q (.str ⟨#[c]⟩)
theorem wC{K:Q7}:cK K B9 lz:=λH O x y dx dy Qd R tr hx hy uu43 k=>by
 obtain⟨z,i,c,e1,e2,hz,e3,q⟩:=uu43;subst e1 e2;cases hx.str;cases hy.int;exact⟨z,i,c,rfl,rfl,hz,e3,k _ _ H q (ar.refl _) (.str _)⟩
def Kf:V->Option Int->Option Int->Hp->VK->Prop:=λx lo hi H Q=>∃z,x= .str z/\z.length<=YC/\Q (.str (Txt.slice z lo hi)) H
theorem Kg:vP X Kf:=by
 intro aaa s σ H x v vl vu lo hi sl Q I rx hs pl pu h;obtain⟨z,rfl,hz,q⟩:=h;obtain⟨t,rfl⟩:=rx;have e1:∃l:Option (Int×Tok),vl=partValue l/\l.map (·.1)=lo:=by
  cases pl with
  | none=>exact⟨none,rfl,rfl⟩
  | int i t=>exact⟨some (i,t),rfl,rfl⟩
 have e2:∃l:Option (Int×Tok),vu=partValue l/\l.map (·.1)=hi:=by
  cases pu with
  | none=>exact⟨none,rfl,rfl⟩
  | int i t=>exact⟨some (i,t),rfl,rfl⟩
 obtain⟨l,rfl,rfl⟩:=e1;obtain⟨u,rfl,rfl⟩:=e2;refine⟨"str",_,F.slot_str_getitem.lookup,ZG _ _ _,wpAny_getItem_str_slice (l:=l) (u:=u) (st:=none) hs rfl ?_⟩;exact post_val_or_str ⟨RS (Txt.slice_le z _ _) hz,λt' k=>⟨.str (Txt.slice z (l.map (·.1)) (u.map (·.1))),H,I.tok _,⟨_,rfl⟩,q⟩⟩
def lA(t:DT)(tl th:DO):DT:=λδ Q=>t δ λd=>tl δ λl=>th δ λu=>∃z,d= .str z/\z.length<=YC/\Q (.str (Txt.slice z l u))
theorem Cz{e:YA}{lo hi:Option YA}{t:DT}{tl th:DO}{pos p2:Pos}(h:DF X H0 O0 e t)(hl:PO X lo (jZ X.K H0 O0 tl))(hu:PO X hi (jZ X.K H0 O0 th)):DE X H0 O0 (.Subscript e (.Slice lo hi none p2) pos) (lA t tl th):=
 (vQ Kg h hl hu).imp λσ H Q uu44=>by obtain⟨O,δ,Qd,w,q,k⟩:=uu44;exact⟨O,δ,_,w,q,λd v H1 q1 s1 r1=>⟨O,δ,_,w.mono s1,q1,λl H2 q2 s2=>⟨O,δ,_,w.mono (s1.trans s2),q2,λu H3 uu45 s3=>by
  obtain⟨z,e,hz,q3⟩:=uu45;subst e;cases r1.str;exact⟨z,rfl,hz,k _ _ H3 q3 (s1.trans (s2.trans s3)) (.str _)⟩⟩⟩⟩
theorem Kh{K:Q7}{H:Hp}{O:Ex}:∀{ys:List Str}{vs:List V}{us:List Yt},ak K H O vs (ys.map Ra)->aH vs us->StrsAre us ys:=by
 intro ys
 induction ys with
 | nil=>intro vs us r rv;rw [RX] at r;cases r;cases rv;exact .nil
 | cons y ys ih=>
  intro vs us r rv;rw [Rb] at r;cases r with
  | cons h r=>
   cases h;cases rv with
   | cons r1 r2=>
    obtain⟨t,rfl⟩:=r1;exact .cons y t (ih r r2)
theorem Ki:B8 X "str.join" (λx xs H Q=>∃(O:Ex)(z:Str)(a:V)(ys:List Str),x= .str z/\xs=[a]/\Sh X.K H O a (.list (ys.map .str))/\(ys.map (·.length)).sum+ys.length*z.length<=16777216/\Q (.str (Txt.join z ys)) H):=by
 intro aaa s σ H x xs v us Q I rx rs h;obtain⟨O,z,a,ys,rfl,rfl,ha,hz,q⟩:=h;obtain⟨t,rfl⟩:=rx;obtain⟨u,rfl,ru⟩:=fb rs;obtain⟨l,vs,rfl,hl,dl⟩:=ha.lst;cases ru;obtain⟨its,rv,pl,_⟩:=I.list hl;exact join_list pl.isList (by simpa using Kh dl rv) hz λt' k=>⟨.str _,H,I.tok _,⟨_,rfl⟩,q⟩
def lB(to:DT)(t:DT):DT:=λδ Q=>to δ λx=>∃z:Str,x= .str z/\t δ λy=>∃(ys:List Str),y= .list (ys.map .str)/\(ys.map (·.length)).sum+ys.length*z.length<=16777216/\Q (.str (Txt.join z ys))
theorem Kj{o e:YA}{to t:DT}{apos cpos:Pos}(ho:DE X H0 O0 o to)(ha:DF X H0 O0 e t)(hbase:YX o "join" X.env (eval o X.env)=eval o X.env:=by rfl)
 (hfew:((YM cpos (Yz [e] X.env)).all (λx=>!x.1) && (Zd cpos (Y1 [] X.env)).all (λx=>x.1.isSome) && decide ([e].length+([]:List Zc).length+(if ([]:List Zc).isEmpty then 0 else 1) < 30))=true:=by rfl)
 (hline:(apos.endLine==cpos.line)=true:=by rfl)(hst:Yz [e] X.env=(false,eval e X.env)::Yz [] X.env:=by rfl)(hplain:(YM cpos (Yz [] X.env)).any (·.1)=false:=by rfl):
 DE X H0 O0 (.Call (.Attribute o "join" apos) [e] [] cpos) (lB to t):=
 (sU PySem.F.plainAttrs_str PySem.F.slot_str_join PySem.F.type_str_join Ki ho (bA ha cb hst) hbase hfew hline hst hplain).imp λσ H Q uu46=>by obtain⟨O,δ,Qd,w,q,k⟩:=uu46;exact⟨O,δ,_,w,q,λx v H1 uu47 s1 r1=>by
  obtain⟨z,e,q1⟩:=uu47;subst e;cases r1;exact⟨rfl,O,δ,_,w.mono s1,q1,λy u H2 uu48 s2 r2=>by obtain⟨ys,e,hz,q2⟩:=uu48;subst e;exact⟨O,z,u,ys,rfl,rfl,r2,hz,k _ _ H2 q2 (s1.trans s2) (.str _)⟩⟩⟩
def lC:List Ys->(Ys->Prop)->Prop:=λds Q=>(∃i,ds=[.int i]/\Q (.int i))\/∃b,ds=[.bool b]/\Q (.int (if b then 1 else 0))
theorem tw{K:Q7}:iM K (λxs H Q=>(∃i,xs=[.int i]/\Q (.int i) H)\/∃k,xs=[.bl k]/\Q (.int (if k then 1 else 0)) H) lC:=λH O xs ds Qd R tr hs h k=>by
 rcases h with⟨i,e,q⟩ | ⟨b,e,q⟩ <;> subst e
 ·cases hs with
  | cons h r=>cases r;cases h.int;exact .inl ⟨i,rfl,k _ _ H q (ar.refl _) (.int _)⟩
 ·cases hs with
  | cons h r=>cases r;cases h.bl;exact .inr ⟨b,rfl,k _ _ H q (ar.refl _) (.int _)⟩
def lE(t:DA):DA:=λδ Q=>t δ λds=>∃xs,(ds=[.list xs]\/ds=[.tuple xs])/\Q xs
theorem Kk{a:YA}{t:DA}{np p:Pos}(hg:Gl X "list")(hm:X.mg "list"=none)(hv:YS "list"=some (.type "list"))(ha:PA X [a] (gZ X.K H0 O0 t))(he:Yz [a] X.env=(false,eval a X.env)::Yz [] X.env:=by rfl)(hpl:(YM p (Yz [] X.env)).any (·.1)=false:=by rfl):FE X H0 O0 (.Call (.Name "list" np) [a] [] p) (lE t):=
 (dZ Jm hg hm hv ha (he:=he) (hpl:=hpl)).imp λσ H Q uu49=>by obtain⟨O,δ,Qd,w,q,k⟩:=uu49;exact⟨O,δ,_,w,q,λds vs H1 uu50 s1 r1=>by
  obtain⟨xs,e,q1⟩:=uu50;rcases e with e | e <;> subst e
  ·cases r1 with
   | cons h r=>
    cases r;obtain⟨a,us,rfl,h1,d1⟩:=h.lst;exact⟨a,us,rfl,.inl h1,λl hl=>k _ _ _ _ q1 s1 hl d1⟩
  ·cases r1 with
   | cons h r=>
    cases r;obtain⟨a,us,rfl,h1,d1⟩:=h.tup;exact⟨a,us,rfl,.inr h1,λl hl=>k _ _ _ _ q1 s1 hl d1⟩⟩
end
theorem dJ{α:Type}{a:α}{l:List α}:atI (a::l) 0=some a:=iJ (j:=0) rfl
theorem fD{α:Type}{a b:α}{l:List α}:atI (a::b::l) 1=some b:=iJ (j:=1) rfl
theorem iT{α:Type}{a b c:α}{l:List α}:atI (a::b::c::l) 2=some c:=iJ (j:=2) rfl
theorem gy{α:Type}{a b c d:α}{l:List α}:atI (a::b::c::d::l) 3=some d:=iJ (j:=3) rfl
theorem lF{α:Type}{a b c d e:α}{l:List α}:atI (a::b::c::d::e::l) 4=some e:=iJ (j:=4) rfl
theorem j0{i:Int}:cJ (.int i):=rfl
theorem nh{i:Bool}:cJ (.bool i):=rfl
theorem ni:cJ .none:=rfl
theorem eV{x y:Str}:RC (.str x) (.str y)=(x==y):=by simp [RC]
theorem nk{x y:Int}:RC (.int x) (.int y)=(x==y):=by simp [RC]
theorem nq{x y:Bool}:RC (.bool x) (.bool y)=(x==y):=by simp [RC]
theorem c7{x:Str}:cJ (.str x)↔Rz x=true:=by
 unfold cJ VR;simp [R3,Wq]
theorem sR{n d:Nat}:HT.sIx n d none=d:=rfl
theorem Kl{n d:Nat}{i:Int}(h0:0<=i)(h1:i<=n):HT.sIx n d (some i)=i.toNat:=by
 obtain⟨j,rfl⟩:=SK h0;rw [HT.sIx_nat,T5];omega
theorem Km{xs:List Ys}{i:Int}(h0:0<=i)(h1:i<=xs.length):eQ xs none (some i)=xs.take i.toNat:=by
 unfold eQ;rw [sR,Kl h0 h1];simp
theorem pM{lo:Int}{n i:Nat}{x:Ys}(h:(jn lo n)[i]?=some x):i < n/\x= .int (lo+i):=by
 unfold jn at h;rw [Rt] at h;by_cases hi:i < n
 ·rw [WZ hi] at h;exact⟨hi,(Sk h).symm⟩
 ·rw [S6 (by simpa using hi)] at h;cases h
theorem tD{lo:Int}{n:Nat}:(jn lo n).length=n:=by unfold jn;simp
section
variable {κ:Type} [DecidableEq κ]
def d9(kvs:List (κ×V))(k:κ):Option V:=(kvs.find? λkv=>decide (kv.1=k)).map (·.2)
def putK(kvs:List (κ×V))(k:κ)(v:V):List (κ×V):=
 if (kvs.any λkv=>decide (kv.1=k))=true then kvs.map (λkv=>if kv.1=k then(kv.1,v) else kv) else kvs++[(k,v)]
theorem qV{p:κ×V}{r:List (κ×V)}{k:κ}(e:p.1=k):d9 (p::r) k=some p.2:=by simp [d9,R7,e]
theorem pN{p:κ×V}{r:List (κ×V)}{k:κ}(e:¬p.1=k):d9 (p::r) k=d9 r k:=by simp [d9,R7,e]
theorem CA(k:κ):∀kvs:List (κ×V),(kvs.any λkv=>decide (kv.1=k))=(d9 kvs k).isSome
 | []=>rfl
 | p::r=>by
  rw [SA];by_cases e:p.1=k
  ·simp only [qV e,decide_eq_true e,Bool.true_or,Xc]
  ·rw [pN e,decide_eq_false e,Tp];exact CA k r
theorem wD(kvs:List (κ×V))(k:κ)(v:V):(putK kvs k v).length<=kvs.length+1:=by
 unfold putK;split
 ·rw [Q8];omega
 ·rw [Rv,Rq,R8];omega
theorem eG.isSome_eq{o:Option V}{u:Option Yt}(r:eG o u):o.isSome=u.isSome:=by
 cases o with
 | none=>cases u with
  | none=>rfl
  | some _=>exact(show False from r).elim
 | some _=>cases u with
  | none=>exact(show False from r).elim
  | some _=>rfl
theorem eG.getD{o:Option V}{u:Option Yt}{d:V}{d':Yt}(r:eG o u)(rd:aC d d'):aC (o.getD d) (u.getD d'):=by
 cases o with
 | none=>cases u with
  | none=>exact rd
  | some _=>exact(show False from r).elim
 | some _=>cases u with
  | none=>exact(show False from r).elim
  | some _=>exact r
theorem KV.val{kvs:List (κ×V)}{vs:List (κ×Yt)}(r:KV kvs vs)(k:κ):eG (d9 kvs k) (ZR vs k):=by
 unfold KV at r
 induction r with
 | nil=>exact S9
 | @cons p q ps qs h t ih=>
  obtain⟨h1,h2⟩:=h;by_cases e:p.1=k
  ·have e':q.1=k:=h1.symm.trans e;have b:ZR (q::qs) k=some q.2:=by simp [ZR,R7,e']
   rw [qV e,b];exact h2
  ·have e':¬q.1=k:=λz=>e (h1.trans z);have b:ZR (q::qs) k=ZR qs k:=by simp [ZR,R7,e']
   rw [pN e,b];exact ih
theorem KV.any{kvs:List (κ×V)}{vs:List (κ×Yt)}(r:KV kvs vs)(k:κ):(kvs.any λkv=>decide (kv.1=k))=vs.any λkv=>decide (kv.1=k):=by
 unfold KV at r
 induction r with
 | nil=>rfl
 | cons h t ih=>rw [SA,SA,ih,h.1]
theorem KV.repl{kvs:List (κ×V)}{vs:List (κ×Yt)}(r:KV kvs vs)(k:κ){y:V}{u:Yt}(ry:aC y u):
 KV (kvs.map λkv=>if kv.1=k then(kv.1,y) else kv) (vs.map λkv=>if kv.1=k then(kv.1,u) else kv):=by
 unfold KV at r⊢
 induction r with
 | nil=>exact .nil
 | @cons p q ps qs h t ih=>
  rw [Rb,Rb];refine .cons ?_ ih;obtain⟨h1,h2⟩:=h;by_cases e:p.1=k
  ·rw [Yp e,Yp (h1.symm.trans e)];exact⟨h1,ry⟩
  ·rw [Yo e,Yo (λz=>e (h1.trans z))];exact⟨h1,h2⟩
theorem KV.put{kvs:List (κ×V)}{vs:List (κ×Yt)}(r:KV kvs vs)(k:κ){y:V}{u:Yt}(ry:aC y u):KV (putK kvs k y) (stored vs k u):=by
 unfold putK stored;rw [r.any k];by_cases e:(vs.any λkv=>decide (kv.1=k))=true
 ·rw [Yp e,Yp e];exact r.repl k ry
 ·rw [Yo e,Yo e];exact Yh r ⟨rfl,ry⟩
theorem KV.keys{kvs:List (κ×V)}{vs:List (κ×Yt)}(r:KV kvs vs):kvs.map (·.1)=vs.map (·.1):=by
 unfold KV at r
 induction r with
 | nil=>rfl
 | cons h t ih=>rw [Rb,Rb,ih,h.1]
theorem KV.length{kvs:List (κ×V)}{vs:List (κ×Yt)}(r:KV kvs vs):kvs.length=vs.length:=V6 r
end
theorem j1{P:YE}{w:YF}{k:ah}{u:Yt}(r:aC (kV k) u):(bZ P w).is k u=true:=by
 cases k with
 | inl i=>obtain⟨t,e⟩:=(show ∃t,u=TN i t from r);subst e;exact HR P w i t
 | inr x=>obtain⟨t,e⟩:=(show ∃t,u=UK x t from r);subst e;exact HS P w x t
theorem CB{P:YE}{w:YF}:∀{ks:List ah}{us:List Yt},aH (ks.map kV) us->ItemsAre (bZ P w) ks us
 | [],_,r=>by rw [RX] at r;cases r;exact .nil
 | k::ks,_,r=>by
  rw [Rb] at r;cases r with
  | cons h t=>exact .cons (j1 h) (CB t)
abbrev KT(H:Hp):List (List ah×V)->List (List ah×Yu×Yt)->Prop:=Paired λp q=>p.1=q.1/\H q.2.1=some (.tup (p.1.map kV))/\aC p.2 q.2.2
theorem KT.val{H:Hp}{kvs:List (List ah×V)}{xs:List (List ah×Yu×Yt)}(r:KT H kvs xs)(k:List ah):eG (d9 kvs k) ((atKey xs k).map (·.2)):=by
 induction r with
 | nil=>exact S9
 | @cons p q ps qs h t ih=>
  obtain⟨h1,_,h2⟩:=h;by_cases e:p.1=k
  ·have e':q.1=k:=h1.symm.trans e;have b:atKey (q::qs) k=some q.2:=by simp [atKey,R7,e']
   rw [qV e,b];exact h2
  ·have e':¬q.1=k:=λz=>e (h1.trans z);have b:atKey (q::qs) k=atKey qs k:=by simp [atKey,R7,e']
   rw [pN e,b];exact ih
theorem KT.repl{H:Hp}{kvs:List (List ah×V)}{xs:List (List ah×Yu×Yt)}(r:KT H kvs xs)(k:List ah){y:V}{u:Yt}(ry:aC y u):
 KT H (kvs.map λkv=>if kv.1=k then(kv.1,y) else kv) (xs.map (putAt k u)):=by
 induction r with
 | nil=>exact .nil
 | @cons p q ps qs h t ih=>
  rw [Rb,Rb];refine .cons ?_ ih;obtain⟨h1,h2,h3⟩:=h;unfold putAt;by_cases e:p.1=k
  ·rw [Yp e,Yp (h1.symm.trans e)];exact⟨h1,h2,ry⟩
  ·rw [Yo e,Yo (λz=>e (h1.trans z))];exact⟨h1,h2,h3⟩
theorem KT.put{H:Hp}{kvs:List (List ah×V)}{xs:List (List ah×Yu×Yt)}(r:KT H kvs xs)(k:List ah){b:Yu}{y:V}{u:Yt}(hb:H b=some (.tup (k.map kV)))(ry:aC y u):
 KT H (putK kvs k y) (storedH xs k b u):=by
 have e:(kvs.any λkv=>decide (kv.1=k))=(atKey xs k).isSome:=by
  rw [CA,(r.val k).isSome_eq,Vx]
 unfold putK storedH;rw [e];by_cases q:(atKey xs k).isSome=true
 ·rw [Yp q,Yp q];exact r.repl k ry
 ·rw [Yo q,Yo q];exact Yh r ⟨rfl,hb,ry⟩
theorem KT.keeps{H H':Hp}{kvs:List (List ah×V)}{xs:List (List ah×Yu×Yt)}(r:KT H kvs xs)(ht:∀b ys,H b=some (.tup ys)->H' b=some (.tup ys)):KT H' kvs xs:=
 Paired.mapP r λ_ _ z=>⟨z.1,ht _ _ z.2.1,z.2.2⟩
section
variable {P:YE} {w:YF} {H:Hp} {h:YG} {a:Yu}
theorem CC{u:HO}(ok:bJ P w H h)(e:Rd H a u):cm P w H h a u:=e.ok ok
theorem iU{kvs:List (ah×V)}(ok:bJ P w H h)(e:Rd H a (.dK kvs)):kvs.length<=YC/\(a==Y8)=false/\∃vs,KV kvs vs/\h.DictOf (bZ P w) a vs:=
 show cm P w H h a (.dK kvs) from CC ok e
theorem CD{kvs:List (ah×V)}(ok:bJ P w H h)(e:H a=some (.dK kvs)):kvs.length<=YC/\(a==Y8)=false/\∃vs,KV kvs vs/\h.DictOf (bZ P w) a vs:=iU ok (.inl e)
theorem nt{ks:List ah}(ok:bJ P w H h)(e:H a=some (.tup (ks.map kV))):(ZM (bZ P w)).is h ks a:=by
 obtain⟨_,its,r,o,h1,h2,n,h3⟩:=(show cm P w H h a (.tup (ks.map kV)) from ok a _ e);exact⟨o,its.toArray,n,h1,h2,h3,by simpa using CB r⟩
theorem lG{kvs:List (List ah×V)}(ok:bJ P w H h)(e:Rd H a (.dT kvs)):kvs.length<=YC/\(a==Y8)=false/\
 ∃xs,KT H kvs xs/\h.DictOfH (ZM (bZ P w)) a xs:=by
 obtain⟨z,y,xs,r,o,es,ep,h1,h2,h3,h4,h5⟩:=(show cm P w H h a (.dT kvs) from CC ok e);refine⟨z,y,xs,r,o,es,ep,h1,h2,h3,h4,λx hx=>?_,h5⟩;have all:∀{l:List (List ah×V)}{m:List (List ah×Yu×Yt)},KT H l m->∀x∈m,(ZM (bZ P w)).is h x.1 x.2.1:=by
  intro l m q
  induction q with
  | nil=>intro x hx;exact nomatch hx
  | @cons p q ps qs hq t ih=>
   intro x hx;rcases Rh.mp hx with e | hx
   ·subst e;exact nt ok (by rw [<-hq.1];exact hq.2.1)
   ·exact ih x hx
 exact all r x hx
theorem Kn{kvs:List (List ah×V)}(ok:bJ P w H h)(e:H a=some (.dT kvs)):kvs.length<=YC/\(a==Y8)=false/\
 ∃xs,KT H kvs xs/\h.DictOfH (ZM (bZ P w)) a xs:=lG ok (.inl e)
end
def cD(H:Hp)(a:Yu)(y:V)(r:Option V):Prop:=
 (∃kvs k,Rd H a (.dK kvs)/\y=kV k/\r=d9 kvs k)\/∃kvs k b,Rd H a (.dT kvs)/\y= .ref b/\H b=some (.tup (k.map kV))/\r=d9 kvs k
def nv(H:Hp)(a:Yu)(y v:V)(H':Hp):Prop:=
 (∃kvs k,H a=some (.dK kvs)/\y=kV k/\kvs.length < YC/\H'=ai H a (.dK (putK kvs k v)))\/
 ∃kvs k b,H a=some (.dT kvs)/\y= .ref b/\H b=some (.tup (k.map kV))/\kvs.length < YC/\H'=ai H a (.dT (putK kvs k v))
theorem cD.k{H:Hp}{a:Yu}{kvs:List (ah×V)}{k:ah}(e:H a=some (.dK kvs)):cD H a (kV k) (d9 kvs k):= .inl ⟨kvs,k,.inl e,rfl,rfl⟩
theorem nv.k{H:Hp}{a:Yu}{kvs:List (ah×V)}{k:ah}{v:V}(e:H a=some (.dK kvs))(hl:kvs.length < YC):nv H a (kV k) v (ai H a (.dK (putK kvs k v))):= .inl ⟨kvs,k,e,rfl,hl,rfl⟩
section
variable {X:Cx} {aaa:List (Yu×Obj)} {σ:St} {H:Hp} {s:Yw} {a:Yu} {y v:V} {u r:Yt} {o:Option V} {A:YJ} {E:Yt->Yw->Prop}
theorem af.big(I:af X aaa σ H s):Y8 < s.heap.objs.size:=by
 have h:YI < s.heap.objs.size:=(I.mod.glob.keeps I.bk).lt;exact VS Ym h
theorem Ko{Q:Yt->Yw->Prop}(hu:A.units+1 < YQ)(I:af X aaa σ H s)(g:cD H a y (some v))(ry:aC y u)(h:∀w' s',af X aaa σ H s'->aC v w'->Q w' s'):
 Yy (YB X.prog X.w) A (getItem (.ref a) u) Q E s:=by
 rcases g with⟨kvs,k,e,ey,l⟩ | ⟨kvs,k,b,e,ey,eb,l⟩
 ·subst ey;obtain⟨z,hd,vs,rel,dd⟩:=iU I.hok e;obtain⟨w',hw,rw'⟩:=eG.some_of (v:=v) (o:=ZR vs k) (by rw [l];exact rel.val k);exact wpAny_getItem_of (j1 ry) dd.mapOf hw (h w' _ (I.tok _) rw')
 ·subst ey;cases (show u=RW b from ry);obtain⟨z,hd,xs,rel,dd⟩:=lG I.hok e;obtain⟨w',hw,rw'⟩:=eG.some_of (v:=v) (o:=(atKey xs k).map (·.2)) (by rw [l];exact rel.val k);obtain⟨p,hp,hp2⟩:=Ug.mp hw;refine wpAny_getItem_heap (Za hu) (nt I.hok eb) dd hp ?_;rw [hp2];exact h w' _ (I.tok _) rw'
theorem Kp{Q:Yt->Yw->Prop}(hu:A.units+1 < YQ)(I:af X aaa σ H s)(g:cD H a y o)(ry:aC y u)(h:∀s',af X aaa σ H s'->Q (.bool o.isSome) s'):
 Yy (YB X.prog X.w) A (YO .In u (.ref a)) Q E s:=by
 rcases g with⟨kvs,k,e,ey,l⟩ | ⟨kvs,k,b,e,ey,eb,l⟩
 ·subst ey;obtain⟨z,hd,vs,rel,dd⟩:=iU I.hok e;refine wpAny_in_of (j1 ry) hd dd.mapOf ?_;rw [<-(rel.val k).isSome_eq,<-l];exact h _ (I.tok _)
 ·subst ey;cases (show u=RW b from ry);obtain⟨z,hd,xs,rel,dd⟩:=lG I.hok e;refine wpAny_in_heap (Za hu) (nt I.hok eb) hd dd ?_;have q:=(rel.val k).isSome_eq;rw [Vx] at q;rw [<-q,<-l];exact h _ (I.tok _)
theorem Kq{Q:Yt->Yw->Prop}(hu:A.units+1 < YQ)(I:af X aaa σ H s)(g:cD H a y o)(ry:aC y u)(h:∀s',af X aaa σ H s'->Q (.bool (!o.isSome)) s'):
 Yy (YB X.prog X.w) A (YO .NotIn u (.ref a)) Q E s:=by
 rcases g with⟨kvs,k,e,ey,l⟩ | ⟨kvs,k,b,e,ey,eb,l⟩
 ·subst ey;obtain⟨z,hd,vs,rel,dd⟩:=iU I.hok e;refine wpAny_notIn_of (j1 ry) hd dd.mapOf ?_;rw [<-(rel.val k).isSome_eq,<-l];exact h _ (I.tok _)
 ·subst ey;cases (show u=RW b from ry);obtain⟨z,hd,xs,rel,dd⟩:=lG I.hok e;refine wpAny_notIn_heap (Za hu) (nt I.hok eb) hd dd ?_;have q:=(rel.val k).isSome_eq;rw [Vx] at q;rw [<-q,<-l];exact h _ (I.tok _)
theorem wF{h':YG}{t':Nat}{ob:HO}(I:af X aaa σ H s)(mu:qB (H a))(hs:T2 a s.heap h')(he:∃q,h'.get? a=some q)(new:cm X.prog X.w (ai H a ob) h' a ob):
 af X aaa σ (ai H a ob) {s with heap:=h',toks:=t'}:=
 I.write (x:=a) (e:=a) mu (.inl rfl) (λb q hb z=>(hs.2 b hb).trans z) he new
theorem wG{P:YE}{w:YF}{H':Hp}{h':YG}{kvs:List (ah×V)}{vs:List (ah×Yt)}(z:kvs.length<=YC)(hd:(a==Y8)=false)(rel:KV kvs vs)(dd:h'.DictOf (bZ P w) a vs):
 cm P w H' h' a (.dK kvs):=⟨z,hd,vs,rel,dd⟩
theorem Kr{H':Hp}{Q:Unit->Yw->Prop}(hu:A.units+1 < YQ)(I:af X aaa σ H s)(g:nv H a y v H')(ry:aC y u)(rv:aC v r)(h:∀s',af X aaa σ H' s'->Q () s'):
 Yy (YB X.prog X.w) A (setItem (.ref a) u r) Q E s:=by
 rcases g with⟨kvs,k,e,ey,l,eH⟩ | ⟨kvs,k,b,e,ey,eb,l,eH⟩
 ·subst ey eH;obtain⟨z,hd,vs,rel,dd⟩:=CD I.hok e;have hz:vs.length<=YC:=by rw [<-rel.length];exact z
  have hl:(putK kvs k v).length<=YC:=by have:=wD kvs k v;omega
  refine wpAny_setItem_pairs (hsz:=hz) (j1 ry) dd λh' dd' hs=>h _ ?_;have he:∃q,h'.get? a=some q:=let ⟨q,_,_,hq,_⟩:=dd';⟨q,hq⟩
  exact wF I (by rw [e];exact S9) hs he (wG hl hd (rel.put k rv) dd')
 ·subst ey eH;cases (show u=RW b from ry);obtain⟨z,hd,xs,rel,dd⟩:=Kn I.hok e;have hz:xs.length<=YC:=by rw [<-V6 rel];exact z
  have hl:(putK kvs k v).length<=YC:=by have:=wD kvs k v;omega
  refine wpAny_setItem_heap (hsz:=hz) (Za hu) (nt I.hok eb) dd λh' dd' hs=>h _ ?_;obtain⟨q,es,ep,hq,h2,h3,h4,_,h5⟩:=dd';refine wF I (by rw [e];exact S9) hs ⟨q,hq⟩ ⟨hl,hd,_,(rel.put k eb rv).keeps λc ys ec=>?_,q,es,ep,hq,h2,h3,h4,h5⟩;rw [az (HU ec e (λz=>nomatch z))];exact ec
end
def tE(i:YA):Prop:=∀ov iv,Z0 i false ov iv=operate [ov,iv] (getItem ov iv)
theorem Ks{prog:YE}{w:YF}{A:YJ}{E:Yt->Yw->Prop}{s:Yw}{env:Env}{value slice:YA}{pos:Pos}{T id:String}{Q:Yt->Yw->Prop}
 (hl:typeLookup (.type T) "__getitem__"=pure (some (.builtin id)))(hs:tE slice)
 (h:Yy (YB prog w) A (eval value env) (λo s₁=>Yy (YB prog w) A (eval slice env) (λi s₂=>s₂.TypeIs o T/\Yy (YB prog w) A (getItem o i) Q E s₂) E s₁) E s):
 Yy (YB prog w) A (eval (.Subscript value slice pos) env) Q E s:=by
 refine Subscript_ (YR h (λo s₁ h₁=>YR h₁ (λi s₂ h₂=>?_) λ_ _ x=>x) λ_ _ x=>x);obtain⟨hT,h₂⟩:=h₂;unfold subscriptTail;refine Yv ?_;rw [getitemInPython_of_ne hT.not_modules];refine Yv (wpAny_specialOf hT hl ?_);have fin:Yy (YB prog w) A (Z0 slice false o i) (λr s₃=>Yy (YB prog w) A (letTemporaryGo value o r >>=λ_=>pure r) Q E s₃) E s₂:=by
  rw [hs o i];exact wpAny_operating (YR h₂ (λr s₃ h₃=>Yv (wpAny_letTemporaryGo (Yx h₃))) λ_ _ x=>x)
 first
  | exact Yx (Yv fin)
  | exact Yv (Yx (Yv fin))
  | exact Yv fin
theorem Kt{X:Cx}{aaa:List (Yu×Obj)}{σ:St}{H:Hp}{s:Yw}{a:Yu}{y:V}{o:Option V}(I:af X aaa σ H s)(g:cD H a y o):s.TypeIs (.ref a) "dict":=by
 rcases g with⟨kvs,k,e,_,_⟩ | ⟨kvs,k,b,e,_,_,_⟩
 ·obtain⟨_,_,vs,_,dd⟩:=iU I.hok e;exact dd.typeIs
 ·obtain⟨_,_,xs,_,dd⟩:=lG I.hok e;exact dd.typeIs
def Ku(td ty:TE):TE:=λσ H Q=>td σ H λx H1=>ty σ H1 λy H2=>∃a v,x= .ref a/\cD H2 a y (some v)/\Q v H2
def Kv(ty td:TE):TE:=λσ H Q=>ty σ H λy H1=>td σ H1 λx H2=>∃a o,x= .ref a/\cD H2 a y o/\Q (.bl o.isSome) H2
def Kw(ty td:TE):TE:=λσ H Q=>ty σ H λy H1=>td σ H1 λx H2=>∃a o,x= .ref a/\cD H2 a y o/\Q (.bl (!o.isSome)) H2
def CF(td ty tv:TE):TS:=λD σ H=>tv σ H λv H1=>td σ H1 λx H2=>ty σ H2 λy H3=>∃a H4,x= .ref a/\nv H3 a y v H4/\D.nx σ H4
section
variable {X:Cx} {o i e value:YA} {pos pos' tpos:Pos} {td ty tv:TE}
theorem CG(hu:X.A.units+1 < YQ)(ho:PE X o td)(hi:PE X i ty)(hs:tE i):PE X (.Subscript o i pos) (Ku td ty):=by
 intro aaa s σ H Q I h;refine Ks PySem.F.slot_dict_getitem.lookup hs (aA (ho aaa s σ H _ I h) λu s1 ⟨x,H1,I1,rx,q1⟩=>aA (hi aaa s1 σ H1 _ I1 q1) λiv s2 ⟨y,H2,I2,ry,a,v,ex,g,q2⟩=>?_);subst ex;obtain rfl:u=RW a:=rx;exact⟨Kt I2 g,Ko hu I2 g ry λw' s3 I3 rw'=>⟨v,H2,I3,rw',q2⟩⟩
theorem CH(hu:X.A.units+1 < YQ)(hi:PE X i ty)(ho:PE X o td):PC X .In i o (Kv ty td):=by
 intro aaa s σ H Q I h;refine aA (hi aaa s σ H _ I h) λiv s1 ⟨y,H1,I1,ry,q1⟩=>aA (ho aaa s1 σ H1 _ I1 q1) λu s2 ⟨x,H2,I2,rx,a,ov,ex,g,q2⟩=>?_;subst ex;obtain rfl:u=RW a:=rx;exact Kp hu I2 g ry λs3 I3=>⟨.bl ov.isSome,H2,I3,rfl,q2⟩
theorem wH(hu:X.A.units+1 < YQ)(hi:PE X i ty)(ho:PE X o td):PC X .NotIn i o (Kw ty td):=by
 intro aaa s σ H Q I h;refine aA (hi aaa s σ H _ I h) λiv s1 ⟨y,H1,I1,ry,q1⟩=>aA (ho aaa s1 σ H1 _ I1 q1) λu s2 ⟨x,H2,I2,rx,a,ov,ex,g,q2⟩=>?_;subst ex;obtain rfl:u=RW a:=rx;exact Kq hu I2 g ry λs3 I3=>⟨.bl (!ov.isSome),H2,I3,rfl,q2⟩
theorem wI(hu:X.A.units+1 < YQ)(ho:PE X o td)(hi:PE X i ty)(hv:PE X value tv)(hs:YN value (some (.Subscript o i pos')) pos.line X.env=pure false):
 PS X (.Assign [.Subscript o i pos'] value pos) (CF td ty tv):=by
 intro aaa s σ H D I h;refine wpAny_Assign_Subscript (aA (hv aaa s σ H _ I h) λr s1 ⟨v,H1,I1,rv,q1⟩=>aA (ho aaa s1 σ H1 _ I1 q1) λu s2 ⟨x,H2,I2,rx,q2⟩=>aA (hi aaa s2 σ H2 _ I2 q2) λiv s3 ⟨y,H3,I3,ry,a,H4,ex,g,q3⟩=>?_) hs;subst ex;obtain rfl:u=RW a:=rx;exact Kr hu I3 g ry rv λs4 I4=>⟨σ,H4,I4,q3⟩
end
theorem wJ{P:YE}{w:YF}{H:Hp}(h:YG)(hb:Y8 < h.objs.size):cm P w H (h.push {cls:= .type "dict",data:= .dict #[]}) h.objs.size (.dK []):=
 ⟨Sd _,beq_eq_false_iff_ne.mpr (Ne.symm (RI hb)),[],.nil,XO h⟩
def Kx:TE:=λ_ H Q=>∀p,H p=none->Q (.ref p) (ai H p (.dK []))
section
variable {X:Cx} {pos:Pos}
theorem Ky:PE X (.Dict [] [] pos) Kx:=λaaa s σ H Q I h=>
 wpAny_Dict_empty ⟨.ref s.heap.objs.size,_,I.laid (a:=s.heap.objs.size) (o:= .dK []) (t':=s.toks) (λ_ _ q=>Rc _ q) (Rf _) (wJ s.heap I.big),rfl,h _ (I.hok.fresh (Rf _))⟩
end
def tF:List (TE×TE)->St->Hp->(List (V×V)->Hp->Prop)->Prop
 | [],_,H,Q=>Q [] H
 | (tk,tv)::r,σ,H,Q=>tk σ H λx H1=>tv σ H1 λy H2=>tF r σ H2 λps H3=>Q ((x,y)::ps) H3
abbrev VV:List (V×V)->List (Yt×Yt)->Prop:=Paired λp q=>aC p.1 q.1/\aC p.2 q.2
def qW(X:Cx)(pos:Pos)(keys:List (Option YA))(values:List YA)(trs:List (TE×TE)):Prop:=
 ∀(aaa:List (Yu×Obj))(s:Yw)(σ:St)(H:Hp)(Q:List (V×V)->Hp->Prop),af X aaa σ H s->tF trs σ H Q->
  Yy (YB X.prog X.w) X.A (evalPairs (pairTrees keys values X.env pos)) (λvs s'=>∃ps H',af X aaa σ H' s'/\VV ps vs/\Q ps H') X.xe s
theorem Kz{X:Cx}{pos:Pos}:qW X pos [] [] []:=λaaa s σ H Q I h=>pairTrees_nil_walk ⟨[],H,I,.nil,h⟩
theorem KA{X:Cx}{pos:Pos}{k v:YA}{ks:List (Option YA)}{vs:List YA}{tk tv:TE}{trs:List (TE×TE)}(hk:PE X k tk)(hv:PE X v tv)(hr:qW X pos ks vs trs):
 qW X pos (some k::ks) (v::vs) ((tk,tv)::trs):=λaaa s σ H Q I h=>
 pairTrees_cons_walk (aA (hk aaa s σ H _ I h) λu s1 ⟨x,H1,I1,rx,q1⟩=>aA (hv aaa s1 σ H1 _ I1 q1) λw2 s2 ⟨y,H2,I2,ry,q2⟩=>
  aA (hr aaa s2 σ H2 _ I2 q2) λws s3 uu62=>by obtain⟨ps,H3,I3,rel,q3⟩:=uu62;exact⟨(x,y)::ps,H3,I3,.cons ⟨rx,ry⟩ rel,q3⟩)
def iV(kvs more:List (ah×V)):List (ah×V):=more.foldl (λacc kv=>putK acc kv.1 kv.2) kvs
theorem KV.merge:∀{more:List (ah×V)}{rs:List (ah×Yt)}{kvs:List (ah×V)}{vs:List (ah×Yt)},KV more rs->KV kvs vs->KV (iV kvs more) (merged vs rs):=by
 intro more rs kvs vs r;unfold KV at r
 induction r generalizing kvs vs with
 | nil=>intro q;exact q
 | @cons p q ps qs h t ih=>
  intro r0;have e:KV (putK kvs p.1 p.2) (stored vs q.1 q.2):=by
   have:=r0.put p.1 h.2;rw [<-h.1];exact this
  exact ih e
theorem wK:∀(more kvs:List (ah×V)),(iV kvs more).length<=kvs.length+more.length
 | [],kvs=>by show kvs.length<=kvs.length+0;omega
 | p::r,kvs=>by
  have h1:=wK r (putK kvs p.1 p.2);have h2:=wD kvs p.1 p.2;show(iV (putK kvs p.1 p.2) r).length<=_;rw [Rq];omega
theorem CI{P:YE}{w:YF}:∀{kvs:List (ah×V)}{ws:List (Yt×Yt)},VV (kvs.map λkv=>(kV kv.1,kv.2)) ws->∃rs,Carries (bZ P w) ws rs/\KV kvs rs
 | [],_,r=>by rw [RX] at r;cases r;exact⟨[],S9,.nil⟩
 | p::kvs,_,r=>by
  rw [Rb] at r;cases r with
  | @cons a b as bs h t=>
   obtain⟨rs,c,q⟩:=CI (P:=P) (w:=w) t;obtain⟨b1,b2⟩:=b;exact⟨(p.1,b2)::rs,⟨j1 h.1,rfl,c⟩,.cons ⟨rfl,h.2⟩ q⟩
def KC(trs:List (TE×TE)):TE:=λσ H Q=>∀p,H p=none->tF trs σ (ai H p (.dK [])) λps H2=>H2 p=some (.dK [])/\∃kvs:List (ah×V),ps=kvs.map (λkv=>(kV kv.1,kv.2))/\kvs.length<=15/\Q (.ref p) (ai H2 p (.dK (iV [] kvs)))
theorem KD{X:Cx}{pos:Pos}{keys:List (Option YA)}{values:List YA}{trs:List (TE×TE)}(h:qW X pos keys values trs)(hall:keys.all (·.isSome)=true)(hl:keys.length=values.length)(h0:keys≠[])
 (h15:keys.length<=15):PE X (.Dict keys values pos) (KC trs):=by
 intro aaa s σ H Q I q;have hn:=I.hok.fresh (Rf s.heap.objs.size);have I1:=I.laid (a:=s.heap.objs.size) (o:= .dK []) (h':=s.heap.push {cls:= .type "dict",data:= .dict #[]}) (t':=s.toks) (λ_ _ q=>Rc _ q) (Rf _) (wJ s.heap I.big);refine wpAny_Dict_walk (knd:=bZ X.prog X.w) hall hl h0 h15 (aA (h aaa _ σ _ _ I1 (q _ hn)) λws s2 ⟨ps,H2,I2,rel,e,kvs,ep,lk,q2⟩=>?_);subst ep;obtain⟨rs,c,rk⟩:=CI (P:=X.prog) (w:=X.w) rel;obtain⟨z,hd,vs0,r0,dd⟩:=CD I2.hok e;cases r0;refine⟨rs,c,dd,λh' dd' hs=>⟨.ref s.heap.objs.size,_,?_,rfl,q2⟩⟩;have hz:(iV [] kvs).length<=YC:=by
  have h1:=wK kvs [];rw [R8] at h1;rw [YY];omega
 have he:∃q,h'.get? s.heap.objs.size=some q:=let ⟨q,_,_,hq,_⟩:=dd';⟨q,hq⟩
 exact wF I2 (by rw [e];exact S9) hs he (wG hz hd (rk.merge .nil) dd')
structure M1 (X:Cx) (o:YA) (m:Str) (apos:Pos) (e:YA) (cpos:Pos):Prop where
 base:YX o m X.env (eval o X.env)=eval o X.env
 few:((YM cpos (Yz [e] X.env)).all (λx=>!x.1) && (Zd cpos (Y1 [] X.env)).all (λx=>x.1.isSome)
  && decide (([e]:List YA).length+([]:List Zc).length+(if ([]:List Zc).isEmpty then 0 else 1) < 30))=true
 line:(apos.endLine==cpos.line)=true
 trees:YM cpos (Yz [e] X.env)=[(false,eval e X.env)]
structure M2 (X:Cx) (o:YA) (m:Str) (apos:Pos) (e f:YA) (cpos:Pos):Prop where
 base:YX o m X.env (eval o X.env)=eval o X.env
 few:((YM cpos (Yz [e,f] X.env)).all (λx=>!x.1) && (Zd cpos (Y1 [] X.env)).all (λx=>x.1.isSome)
  && decide (([e,f]:List YA).length+([]:List Zc).length+(if ([]:List Zc).isEmpty then 0 else 1) < 30))=true
 line:(apos.endLine==cpos.line)=true
 trees:YM cpos (Yz [e,f] X.env)=[(false,eval e X.env),(false,eval f X.env)]
def wL(H:Hp)(a:Yu):Prop:=(∃kvs,Rd H a (.dK kvs))\/∃kvs,Rd H a (.dT kvs)
theorem CJ{X:Cx}{aaa:List (Yu×Obj)}{σ:St}{H:Hp}{s:Yw}{a:Yu}(I:af X aaa σ H s)(d:wL H a):
 s.TypeIs (.ref a) "dict"/\(∀b,RW a= .ref b->∃ob,s.heap.get? b=some ob/\ob.dict=none)/\(a==Y8)=false:=by
 rcases d with⟨kvs,e⟩ | ⟨kvs,e⟩
 ·obtain⟨_,hd,vs,_,dd⟩:=iU I.hok e;refine⟨dd.typeIs,λb q=>?_,hd⟩;cases q;obtain⟨ob,_,_,h1,h2,_⟩:=dd;exact⟨ob,h1,h2.2.1⟩
 ·obtain⟨_,hd,xs,_,dd⟩:=lG I.hok e;refine⟨dd.typeIs,λb q=>?_,hd⟩;cases q;obtain⟨ob,_,_,h1,h2,_⟩:=dd;exact⟨ob,h1,h2.2.1⟩
section
variable {X:Cx} {aaa:List (Yu×Obj)} {σ:St} {H:Hp} {s:Yw} {a:Yu} {y d:V} {u r:Yt} {o:Option V} {A:YJ} {E:Yt->Yw->Prop}
theorem KH{Q:Yt->Yw->Prop}(hu:A.units+1 < YQ)(I:af X aaa σ H s)(g:cD H a y o)(ry:aC y u)(h:∀w' s',af X aaa σ H s'->aC (o.getD .non) w'->Q w' s'):
 Yy (YB X.prog X.w) A (call (.builtin "dict.get") [.ref a,u]) Q E s:=by
 rcases g with⟨kvs,k,e,ey,l⟩ | ⟨kvs,k,b,e,ey,eb,l⟩
 ·subst ey;obtain⟨z,hd,vs,rel,dd⟩:=iU I.hok e;refine call_meetsIn TU dd.typeIs UT (Wu _ _) (meets_dict_get (bZ X.prog X.w) a (j1 ry) hd) ⟨_,dd.mapOf,h _ _ (I.tok _) ?_⟩;rw [l];exact(rel.val k).getD rfl
 ·subst ey;cases (show u=RW b from ry);obtain⟨z,hd,xs,rel,dd⟩:=lG I.hok e;refine call_meetsIn TU dd.typeIs UT (Wu _ _) (meetsH_dict_get (ZM (bZ X.prog X.w)) a b hd) ⟨Za hu,k,xs,nt I.hok eb,dd,h _ _ (I.tok _) ?_⟩;rw [l];exact(rel.val k).getD rfl
theorem KI{Q:Yt->Yw->Prop}(hu:A.units+1 < YQ)(I:af X aaa σ H s)(g:cD H a y o)(ry:aC y u)(rd:aC d r)(h:∀w' s',af X aaa σ H s'->aC (o.getD d) w'->Q w' s'):
 Yy (YB X.prog X.w) A (call (.builtin "dict.get") [.ref a,u,r]) Q E s:=by
 rcases g with⟨kvs,k,e,ey,l⟩ | ⟨kvs,k,b,e,ey,eb,l⟩
 ·subst ey;obtain⟨z,hd,vs,rel,dd⟩:=iU I.hok e;refine call_meetsIn TU dd.typeIs UT (Wv _ _ _) (meets_dict_get_default (bZ X.prog X.w) a (j1 ry) hd r) ⟨_,dd.mapOf,h _ _ (I.tok _) ?_⟩;rw [l];exact(rel.val k).getD rd
 ·subst ey;cases (show u=RW b from ry);obtain⟨z,hd,xs,rel,dd⟩:=lG I.hok e;refine call_meetsIn TU dd.typeIs UT (Wv _ _ _) (meetsH_dict_get_default (ZM (bZ X.prog X.w)) a b hd r) ⟨Za hu,k,xs,nt I.hok eb,dd,h _ _ (I.tok _) ?_⟩;rw [l];exact(rel.val k).getD rd
end
def KJ(td ty:TE):TE:=λσ H Q=>td σ H λx H1=>∃a,x= .ref a/\wL H1 a/\ty σ H1 λy H2=>∃o,cD H2 a y o/\Q (o.getD .non) H2
def KL(td ty tx:TE):TE:=λσ H Q=>td σ H λx H1=>∃a,x= .ref a/\wL H1 a/\ty σ H1 λy H2=>tx σ H2 λz H3=>∃o,cD H3 a y o/\Q (o.getD z) H3
section
variable {X:Cx} {o e f:YA} {apos cpos:Pos} {td ty tx:TE}
theorem CK(hu:X.A.units+1 < YQ)(ho:PE X o td)(he:PE X e ty)(m:M1 X o "get" apos e cpos):PE X (.Call (.Attribute o "get" apos) [e] [] cpos) (KJ td ty):=by
 intro aaa s σ H Q I h;refine wpAny_Call_method m.base m.few m.line Ww TU WM (aA (ho aaa s σ H _ I h) λu s1 ⟨x,H1,I1,rx,a,ex,d,q1⟩=>?_);subst ex;obtain rfl:u=RW a:=rx;obtain⟨t1,t2,_⟩:=CJ I1 d;refine⟨t1,t2,?_⟩;rw [m.trees];refine VB rfl (VP (Vp (aA (he aaa s1 σ H1 _ I1 q1) λiv s2 ⟨y,H2,I2,ry,ov,g,q2⟩=>We ?_)));exact KH hu I2 g ry λw' s3 I3 rw'=>⟨_,H2,I3,rw',q2⟩
theorem KN(hu:X.A.units+1 < YQ)(ho:PE X o td)(he:PE X e ty)(hf:PE X f tx)(m:M2 X o "get" apos e f cpos):PE X (.Call (.Attribute o "get" apos) [e,f] [] cpos) (KL td ty tx):=by
 intro aaa s σ H Q I h;refine wpAny_Call_method m.base m.few m.line Ww TU WM (aA (ho aaa s σ H _ I h) λu s1 ⟨x,H1,I1,rx,a,ex,d,q1⟩=>?_);subst ex;obtain rfl:u=RW a:=rx;obtain⟨t1,t2,_⟩:=CJ I1 d;refine⟨t1,t2,?_⟩;rw [m.trees];refine VB rfl (VP (Vp (aA (he aaa s1 σ H1 _ I1 q1) λiv s2 ⟨y,H2,I2,ry,q2⟩=>
  Vp (aA (hf aaa s2 σ H2 _ I2 q2) λfv s3 ⟨z,H3,I3,rz,ov,g,q3⟩=>We ?_))))
 exact KI hu I3 g ry rz λw' s4 I4 rw'=>⟨_,H3,I4,rw',q3⟩
end
section
variable {X:Cx} {H0:Hp} {O0:Ex}
def litsOf:List YA->Option (List Ys)
 | []=>some []
 | .Constant (.int i) _ _::r=>(litsOf r).map (.int i::·)
 | .Constant (.str x) _ _::r=>(litsOf r).map (.str x::·)
 | _::_=>none
def j2(ds:List Ys):DA:=λ_ Q=>Q ds
theorem qX:∀{es:List YA}{ds:List Ys},litsOf es=some ds->PA X es (gi X.K H0 O0 (j2 ds))
 | [],ds,h=>by cases h;exact aj
 | e::r,ds,h=>by
  cases e with
  | Constant c j p=>
   cases c with
   | int i=>
    have h':(litsOf r).map (.int i::·)=some ds:=h;cases q:litsOf r with
    | none=>rw [q] at h';cases h'
    | some ms=>rw [q] at h';cases h';exact aa ag (qX q)
   | str x=>
    have h':(litsOf r).map (.str x::·)=some ds:=h;cases q:litsOf r with
    | none=>rw [q] at h';cases h'
    | some ms=>rw [q] at h';cases h';exact aa bj (qX q)
   | _=>cases h
  | _=>cases h
def litsE:YA->Option (List Ys)
 | .List es _=>litsOf es
 | _=>none
theorem KO{e:YA}{ds:List Ys}(h:litsE e=some ds):FE X H0 O0 e (jW (j2 ds)):=by
 cases e with
 | List es p=>exact cn (qX h)
 | _=>cases h
end
structure ck (n:Nat) (x:Str):Prop where
 ok:Rz x=true
 le:x.length<=n
theorem lH{x:Str}:Rz x=true↔∀c∈x.cps.toList,c < 0x110000:=by
 unfold Rz;rw [<-Array.all_toList,Xz];simp
theorem CM(x y:Str):(x++y).cps=x.cps++y.cps:=rfl
theorem CN(x y:Str):(x++y).length=x.length+y.length:=by
 show(x.cps++y.cps).size=_;rw [Array.size_append];rfl
theorem ck.append{a b:Nat}{x y:Str}(h:ck a x)(h':ck b y):ck (a+b) (x++y):=by
 refine⟨lH.mpr λc hc=>?_,by rw [CN];have:=h.le;have:=h'.le;omega⟩;rw [CM,W0] at hc;rcases Ry.mp hc with z | z
 ·exact lH.mp h.ok c z
 ·exact lH.mp h'.ok c z
theorem ck.mono{a b:Nat}{x:Str}(h:ck a x)(hb:a<=b):ck b x:=⟨h.ok,RS h.le hb⟩
theorem ck.slice{a:Nat}{x:Str}(h:ck a x)(l u:Option Int):ck a (Txt.slice x l u):=by
 refine⟨lH.mpr λc hc=>?_,RS (Txt.slice_le x l u) h.le⟩;unfold Txt.slice at hc;split at hc
 ·exact lH.mp h.ok c hc
 ·simp only [TQ] at hc;obtain⟨i,_,hi⟩:=hc;exact lH.mp h.ok c (by
   have:=Array.mem_of_getElem? hi;simpa using this)
theorem ck.chr{c:Nat}(h:c < 0x110000):ck 1 ⟨#[c]⟩:=⟨lH.mpr λd hd=>by
 have:d=c:=by simpa using hd
 rw [this];exact h,Rf _⟩
theorem ck.join:∀{ys:List Str},(∀y∈ys,ck 1 y)->ck ys.length (Txt.join "" ys):=by
 have key:∀ys:List Str,(∀y∈ys,ck 1 y)->ck ys.length (Str.join "" ys):=by
  intro ys
  induction ys with
  | nil=>intro _;exact⟨cp,cp⟩
  | cons y r ih=>
   intro h;cases r with
   | nil=>exact h y Yr
   | cons z r=>
    have a:=h y Yr;have b:=ih λw hw=>h w (by simp [hw]);have e:ck 0 ("":Str):=⟨cp,cp⟩;have:=(a.append e).append b;refine this.mono ?_;simp only [Rq];omega
 intro ys h;have e:Txt.join "" ys=Str.join "" ys:=StrLaws.glued_eq_join "" ys;rw [e];exact key ys h
def ib:Str:="abcdefghijklmnopqrstuvwxyz"
theorem KP:ib.cps.toList.length=26:=cp
theorem KQ:ib.cps.toList.Nodup:=cp
theorem KR:∀c∈ib.cps.toList,c < 0x110000:=cp
theorem qY{j:Int}(h0:0<=j)(h1:j < 26):∃c,atI ib.cps.toList j=some c/\ib.cps.toList[j.toNat]?=some c/\c < 0x110000:=by
 obtain⟨k,rfl⟩:=SK h0;have hk:k < ib.cps.toList.length:=by rw [KP];omega
 refine⟨ib.cps.toList[k],iJ (by simp [hk]),by simp [hk],KR _ (Ti hk)⟩
def fE(j:Int):Nat:=(ib.cps.toList[j.toNat]?).getD 0
theorem KS{j:Int}(h0:0<=j)(h1:j < 26):atI ib.cps.toList j=some (fE j)/\fE j < 0x110000:=by
 obtain⟨c,e1,e2,e3⟩:=qY h0 h1;have:fE j=c:=by unfold fE;rw [e2];rfl
 rw [this];exact⟨e1,e3⟩
theorem KU{i j:Int}(h0:0<=i)(h1:i < 26)(g0:0<=j)(g1:j < 26)(e:fE i=fE j):i=j:=by
 obtain⟨c,_,e2,_⟩:=qY h0 h1;obtain⟨d,_,e4,_⟩:=qY g0 g1;have a:fE i=c:=by unfold fE;rw [e2];rfl
 have b:fE j=d:=by unfold fE;rw [e4];rfl
 have cd:c=d:=by rw [<-a,<-b,e]
 subst cd;have hi:i.toNat < ib.cps.toList.length:=(Rm.mp e2).1;have:=(Vw (l:=ib.cps.toList) (i:=i.toNat) (j:=j.toNat) hi KQ).mp (by rw [e2,e4]);omega
structure cL (n:Nat) (d:Ys):Prop where
 can:d.canLay0=true
 dep:d.depth<=n
theorem cL.shp{n:Nat}{d:Ys}(h:cL n d)(hn:n<=64):VR d=true:=by
 unfold VR;rw [h.can,decide_eq_true (RS h.dep hn)];rfl
theorem cL.mono{n m:Nat}{d:Ys}(h:cL n d)(hn:n<=m):cL m d:=⟨h.can,RS h.dep hn⟩
theorem CO{x:Str}(h:Rz x=true):cL 1 (.str x):=⟨by simpa [R3] using h,by simp [Wq]⟩
theorem CQ{i:Int}:cL 1 (.int i):=⟨by simp [R3],by simp [Wq]⟩
theorem qZ{n:Nat}:∀{ds:List Ys},(∀d∈ds,cL n d)->SQ ds=true/\Vk ds<=n
 | [],_=>⟨by simp [SQ],by simp [Vk]⟩
 | d::r,h=>by
  obtain⟨a,b⟩:=qZ (ds:=r) λe he=>h e (by simp [he]);have c:=h d Yr;refine⟨by rw [SQ,c.can,a];rfl,?_⟩;rw [Vk];exact Nat.max_le.mpr ⟨c.dep,b⟩
theorem js{n:Nat}{ds:List Ys}(h:∀d∈ds,cL n d):cL (n+1) (.tuple ds):=by
 obtain⟨a,b⟩:=qZ h;refine⟨by simpa [R3] using a,?_⟩;rw [Wq];omega
def PU(X:Cx)(e:YA)(te:TE):Prop:=∀(i:Nat)(x:Str)(pos' spos:Pos)(hN:X.N.Nodup)(hxi:X.N[i]?=some x)(hx:gP X.env.scope x)(hsw:YN e (some (.Name x pos')) spos.line X.env=pure true)
 (hfn:X.fn x=true\/X.env.scope.names.lookup x=some .local),PS X (.Assign [.Name x pos'] e spos) (qG te (gH i))
theorem PU.imp{X:Cx}{e:YA}{t u:TE}(h:PU X e t)(i:∀σ H Q,u σ H Q->t σ H Q):PU X e u:=λi' x p1 p2 hN hxi hx hsw hfn=>(h i' x p1 p2 hN hxi hx hsw hfn).imp λD σ H z=>i σ H _ z
section
variable {X:Cx} {H0:Hp} {O0:Ex}
section
variable {tg iter elt:YA} {ifs:List YA} {scope:Y4} {N':List Str} {k:Nat} {fr:List Nat} {g:TG} {dg:DG} {t:DT} {ta:DA} {tc:DB} {te:DT} {pos p ps:Pos}
theorem CS{wi:TI}{tc:TT}{te:TE}(hc:X.calm=true)(S:aZ X.env.scope X.N N' k fr scope)(hi:PI X tg iter wi)
 (hg:∀fp C s H,PG (bE X scope N' fp C s H) tg g)(hf:∀fp C s H,fJ (bE X scope N' fp C s H) ifs tc)(he:∀fp C s H,PE (bE X scope N' fp C s H) elt te)
 (hs:∀x,YL iter X.env x=pure x:=by intro _;rfl):PU X (.ListComp elt [⟨tg,iter,ifs,0⟩] scope pos) (ku wi g tc te k fr):=
 λ_ _ _ _ hN hxi hx hsw hfn=>JH hN hxi hx hc S hi hg hf he hsw hs hfn
theorem wM(hc:X.calm=true)(S:aZ X.env.scope X.N N' k fr scope)(hi:DF X H0 O0 iter t)(gd:GD X.K g dg)(hk:jo g k)(hfr:fr.Nodup)
 (hg:∀fp C s H,PG (bE X scope N' fp C s H) tg g)(hf:∀fp C s H,fJ (bE X scope N' fp C s H) ifs (bO X.K H0 O0 tc))(he:∀fp C s H,PE (bE X scope N' fp C s H) elt (up X.K H0 O0 te))
 (hs:∀x,YL iter X.env x=pure x:=by intro _;rfl):PU X (.ListComp elt [⟨tg,iter,ifs,0⟩] scope pos) (pI X.K H0 O0 (jq t dg tc te k fr)):=
 (CS hc S (sr hi) hg hf he hs).imp λσ H Q uu69=>by obtain⟨O,δ,Qd,w,q,kk⟩:=uu69;exact⟨O,δ,_,w,q,λd v H1 uu70 s1 r1=>by
  obtain⟨xs,e,hz,q1⟩:=uu70;subst e;obtain⟨a,vs,rfl,hq,rr⟩:=r1.lst;refine⟨a,rfl,⟨_,hq⟩,λD hD=>pL (cZ.list hq) gd hfr (λv _ H' R h=>hk fr σ v H' R h) (λ_ _ _ z=>z) (λ_ _ _ z=>z) (λD H' hD s' o e=>s' _ _ e (eY e hD)) rr (w.mono s1) (by rw [rr.length];exact hz) q1 (λds us p H' z s' hp r'=>kk ds us p H' z (s1.trans s') hp r') D hD⟩⟩
end
theorem lI{i:Nat}{x:Str}{e:YA}{t:DA}{pos pos':Pos}(hN:X.N.Nodup)(hi:X.N[i]?=some x)(hx:gP X.env.scope x)(he:PU X e (pI X.K H0 O0 t))(hs:YN e (some (.Name x pos')) pos.line X.env=pure true:=by rfl)(hf:X.fn x=true\/X.env.scope.names.lookup x=some .local:=by first | exact .inl rfl | exact .inr rfl | assumption):
 PS X (.Assign [.Name x pos'] e pos) (bg X.K H0 O0 (gr i (dL t))):=
 (he _ _ _ _ hN hi hx hs hf).imp λD σ H ⟨O,δ,E,w,q,k1,k2,k3,k4⟩=>⟨O,δ,_,w,q,λds vs p H1 q1 s1 hp r1=>
  k1 O _ _ _ q1 ((w.mono (s1.trans (ar.new hp))).set (.lst (.inl bh) (wk w s1 hp) (r1.mono (ar.new hp)))) (.same (s1.trans (ar.new hp)))⟩
def lJ(ta:DA)(g:DG)(tc:DB)(te:DT)(k:Nat)(fr:List Nat):DA:=λδ Q=>ta δ λds=>∃i j:Int,ds=[.int i,.int j]/\-(2 ^ 62)<=i/\j - i < YC/\i < 2 ^ 62/\-(2 ^ 62)<=j/\j < 2 ^ 62/\hU g tc te (dH k fr δ) (jn i (j - i).toNat) Q
section
variable {tg iter elt:YA} {ifs:List YA} {scope:Y4} {N':List Str} {k:Nat} {fr:List Nat} {g:TG} {dg:DG} {t:DT} {ta:DA} {tc:DB} {te:DT} {pos p ps:Pos}
theorem KW(hc:X.calm=true){a b:YA}(S:aZ X.env.scope X.N N' k fr scope)(hgl:Gl X "range")(hm:X.mg "range"=none)(ha:PA X [a,b] (gZ X.K H0 O0 ta))(gd:GD X.K g dg)(hk:jo g k)(hfr:fr.Nodup)
 (hg:∀fp C s H,PG (bE X scope N' fp C s H) tg g)(hf:∀fp C s H,fJ (bE X scope N' fp C s H) ifs (bO X.K H0 O0 tc))(he:∀fp C s H,PE (bE X scope N' fp C s H) elt (up X.K H0 O0 te))
 (hst:Yz [a,b] X.env=[(false,eval a X.env),(false,eval b X.env)]:=by rfl)(hst2:Yz [b] X.env=[(false,eval b X.env)]:=by rfl)(hs:∀x,YL (.Call (.Name "range" p) [a,b] [] ps) X.env x=pure x:=by intro _;rfl):
 FE X H0 O0 (.ListComp elt [⟨tg,(.Call (.Name "range" p) [a,b] [] ps),ifs,0⟩] scope pos) (lJ ta dg tc te k fr):=
 (qN hc S (BC hgl hm ha hst hst2) hg hf he hs).imp λσ H Q uu72=>by obtain⟨O,δ,Qd,w,q,kk⟩:=uu72;exact⟨O,δ,_,w,q,λds vs H1 uu73 s1 r1=>by
  obtain⟨i,j,e,b1,b2,b3,b4,b5,q1⟩:=uu73;subst e;cases r1 with
  | cons r1 r2=>
   cases r2 with
   | cons r2 r3=>
    cases r3;cases r1.int;cases r2.int;exact⟨i,j,rfl,⟨b1,b3,b4,b5⟩,λD hD=>pL (P:=λ_=>True) cZ.rng gd hfr (λv _ H' R h=>hk fr σ v H' R h) (λ_ _ _ z=>z) (λ_ _ _ z=>z) (λ_ _ _ _=>trivial) (ak.rng _) (w.mono s1) (by rw [Q8,UU];omega) q1 (λds us p H' z s' hp r'=>kk ds us p H' z (s1.trans s') hp r') D hD⟩⟩
end
def wN(K:Q7)(neg:Bool):R2:=λx y H Q=>∃O dx ds dy,Sh K H O x dx/\Sh K H O y dy/\(dy= .list ds\/dy= .tuple ds)/\cJ dx/\SQ ds=true/\Q (.bl (if neg then !(ds.any λd=>RC d dx) else ds.any λd=>RC d dx)) H
theorem tG{A:YJ}{k:Nat}{xs:List Ys}{d:Ys}(hd:cJ d)(hr:aY k A):A.units+1+min (Vk xs) d.depth < YQ:=by
 have:=SeqAt.depth_of_shaped hd;have h1:min (Vk xs) d.depth<=d.depth:=Nat.min_le_right _ _;have:=hr.un;omega
theorem tH{k:Nat}(hr:aY k X.A):bN X (YO .In) (wN X.K false):=by
 intro aaa s σ H x y v u Q I rx ry h;obtain⟨O,dx,ds,dy,hx,hy,e,sx,sy,q⟩:=h;obtain⟨as,ra⟩:=iK I hx.all (SG sx) rx;rcases e with e | e <;> subst e
 ·obtain⟨bs,rb⟩:=iK I hy.all (by simpa [R3] using sy) ry;exact SeqAt.in_list_reads rb ra sy (SG sx) (tG sx hr) (bC I q rfl)
 ·obtain⟨bs,rb⟩:=iK I hy.all (by simpa [R3] using sy) ry;exact SeqAt.in_tuple_reads rb ra sy (SG sx) (tG sx hr) (bC I q rfl)
theorem wO{k:Nat}(hr:aY k X.A):bN X (YO .NotIn) (wN X.K true):=by
 intro aaa s σ H x y v u Q I rx ry h;obtain⟨O,dx,ds,dy,hx,hy,e,sx,sy,q⟩:=h;obtain⟨as,ra⟩:=iK I hx.all (SG sx) rx;rcases e with e | e <;> subst e
 ·obtain⟨bs,rb⟩:=iK I hy.all (by simpa [R3] using sy) ry;exact SeqAt.notIn_list_reads rb ra sy (SG sx) (tG sx hr) (bC I q rfl)
 ·obtain⟨bs,rb⟩:=iK I hy.all (by simpa [R3] using sy) ry;exact SeqAt.notIn_tuple_reads rb ra sy (SG sx) (tG sx hr) (bC I q rfl)
def lK(neg:Bool):Ys->Ys->(Ys->Prop)->Prop:=λx y Q=>∃ds,(y= .list ds\/y= .tuple ds)/\cJ x/\SQ ds=true/\Q (.bool (if neg then !(ds.any λd=>RC d x) else ds.any λd=>RC d x))
theorem ny{K:Q7}{neg:Bool}:cK K (wN K neg) (lK neg):=λH O x y dx dy Qd R _ hx hy uu74 k=>by obtain⟨ds,e,a,b,q⟩:=uu74;exact⟨O,dx,ds,dy,hx,hy,e,a,b,k _ _ H q (ar.refl _) (.bl _)⟩
def lL:List Ys->(Ys->Prop)->Prop:=λds Q=>∃z:Str,ds=[.str z]/\z.length<=YC/\Q (.int z.length)
theorem CT{K:Q7}:iM K (λxs H Q=>∃z,xs=[.str z]/\z.length<=YC/\Q (.int z.length) H) lL:=λH O xs ds Qd R _ hs uu75 k=>by
 obtain⟨z,e,hz,q⟩:=uu75;subst e;cases hs with
 | cons h r=>cases r;cases h.str;exact⟨z,rfl,hz,k _ _ H q (ar.refl _) (.int _)⟩
def dM(a b:Str):Bool:=decide (a.cps.toList<=b.cps.toList)
def jt(l:List Str):List Str:=l.mergeSort dM
theorem CU(a b c:Str)(h:dM a b=true)(h':dM b c=true):dM a c=true:=
 decide_eq_true (List.le_trans (of_decide_eq_true h) (of_decide_eq_true h'))
theorem KY(a b:Str):(dM a b || dM b a)=true:=by
 rcases List.le_total a.cps.toList b.cps.toList with h | h
 ·unfold dM;rw [decide_eq_true h];rfl
 ·unfold dM;rw [decide_eq_true h,Bool.or_true]
theorem CV{a b:Str}(h:a.cps.toList=b.cps.toList):a=b:=by
 cases a;cases b;congr 1;exact Array.ext' h
theorem wQ{a b:Str}(h:dM a b=true)(h':dM b a=true):a=b:=CV (XA (of_decide_eq_true h) (of_decide_eq_true h'))
theorem j3(l:List Str):(jt l).Perm l:=List.mergeSort_perm l dM
theorem CW(l:List Str):(jt l).Pairwise λa b=>dM a b=true:=List.pairwise_mergeSort CU KY l
theorem KZ{l m:List Str}(h:m.Perm l)(p:m.Pairwise λa b=>dM a b=true):m=jt l:=
 List.Perm.eq_of_pairwise (λa b _ _ x y=>wQ x y) p (CW l) (h.trans (j3 l).symm)
theorem CY:∀(p:Str)(l:List Str),risingS p l=true->(p::l).Pairwise λa b=>dM a b=true
 | p,[],_=>by simp
 | p,x::r,h=>by
  rw [risingS,Si,SR,ltCps_eq,decide_eq_false_iff_not] at h;have h1:dM p x=true:=decide_eq_true (Xv.mp h.1);have h2:=CY x r h.2;rw [Su];refine⟨λy hy=>?_,h2⟩;rcases Rh.mp hy with z | z
  ·rw [z];exact h1
  ·exact CU p x y h1 ((Su.mp h2).1 y z)
theorem K0:∀(l:List Str),sortedS l=true->l.Pairwise λa b=>dM a b=true
 | [],_=>.nil
 | x::r,h=>CY x r h
theorem K2:∀{ys:List Str}{us:List Yt},aH (ys.map V.str) us->StrsAre us ys:=by
 intro ys
 induction ys with
 | nil=>intro us rv;cases rv;exact .nil
 | cons y ys ih=>
  intro us rv;rw [Rb] at rv;cases rv with
  | cons r1 r2=>obtain⟨t,rfl⟩:=r1;exact .cons y t (ih r2)
theorem CZ:∀{ys:List Str}{us:List Yt},StrsAre us ys->aH (ys.map V.str) us
 | _,_,.nil=>.nil
 | _,_,.cons y t r=>.cons ⟨t,rfl⟩ (CZ r)
theorem ak.strs{K:Q7}{H:Hp}{O:Ex}:∀{ss:List Str}{vs:List V},ak K H O vs (ss.map Ra)->vs=ss.map V.str
 | [],_,r=>by rw [RX] at r;cases r;rfl
 | b::bs,_,r=>by
  rw [Rb] at r;cases r with
  | cons h r=>cases h;rw [Rb,ak.strs r]
theorem ak.ofStrs{K:Q7}{H:Hp}{O:Ex}:∀(ss:List Str),ak K H O (ss.map V.str) (ss.map Ra)
 | []=>.nil
 | s::r=>.cons (.str s) (ak.ofStrs r)
end
end L2
namespace PySem.SeqAt
open AutoSeq1 (wpAny_loadPart')
open MeetsSeq
theorem C0(l:Yu)(es:Array Z2)(n:Nat)(dd:Option Yu)(sl:Array (Option Yt))(b:Str)(u:Tok):
 Meets (Builtin.«dict.__eq__» ⟨[.ref l,.str b u],[]⟩) (λ_ R s=>s.heap.get? l=some {cls:= .type "dict",dict:=dd,data:= .dict es n,slots:=sl}/\R (.ok (.ret .notImplemented)) s):=
 .of_wp λprog w A R s h=>by obtain⟨hp,g,d,tk,os⟩:=s;obtain⟨hl,h⟩:=h;have f1:=F.sub_str_dict;wp_walk using Y5 hl;exact⟨_,rfl,h⟩
theorem C1(b:Str)(u:Tok)(l:Yu)(c:Yt)(es:Array Z2)(n:Nat)(dd:Option Yu)(sl:Array (Option Yt)):
 Meets (Builtin.«str.__eq__» ⟨[.str b u,.ref l],[]⟩) (λ_ R s=>s.heap.get? l=some {cls:=c,dict:=dd,data:= .dict es n,slots:=sl}/\R (.ok (.ret .notImplemented)) s):=
 .of_wp λprog w A R s h=>by obtain⟨hp,g,d,tk,os⟩:=s;obtain⟨hl,h⟩:=h;wp_walk using Y5 hl,wpAny_load hl;exact⟨_,rfl,h⟩
section
variable {A:YJ} {s:Yw}
theorem RcAt.dict_str{l:Yu}{es:Array Z2}{n:Nat}{o:Obj}(b:Str)(u:Tok)(ho:s.heap.get? l=some o)(hc:o.cls= .type "dict")(hd:o.data= .dict es n)(hu:A.units < YQ):RcAt A s (.ref l) (.str b u) false:=λprog w E Q h=>by
 obtain⟨cls,dd,data,sl⟩:=o;simp only at hc hd;subst hc hd;exact rc_eq_decline_or (k:=false) ⟨_,ho,rfl⟩ (ZG s b u) Ym F.sub_str_dict F.slot_dict_eq F.slot_str_eq_refl
  (λ_ hq=>Zt F.slot_dict_eq ⟨_,ho,rfl⟩ F.entry_dict_eq (F.args_dict_eq_2 _ _) (C0 l es n dd sl b u) ⟨ho,hq⟩)
  (λ_ hq=>Zt F.slot_str_eq_refl (ZG s b u) F.entry_str_eq (F.args_str_eq_2 _ _) (C1 b u l (.type "dict") es n dd sl) ⟨ho,hq⟩)
  (λ_ hq=>Z1 (rfl:isSame (.ref l) (.str b u)=pure false) hq) (.inr hu) h
theorem RcAt.str_dict{l:Yu}{es:Array Z2}{n:Nat}{o:Obj}(b:Str)(u:Tok)(ho:s.heap.get? l=some o)(hc:o.cls= .type "dict")(hd:o.data= .dict es n)(hu:A.units < YQ):RcAt A s (.str b u) (.ref l) false:=λprog w E Q h=>by
 obtain⟨cls,dd,data,sl⟩:=o;simp only at hc hd;subst hc hd;exact rc_eq_decline_or (k:=false) (ZG s b u) ⟨_,ho,rfl⟩ Ym F.sub_dict_str F.slot_str_eq F.slot_dict_eq_refl
  (λ_ hq=>Zt F.slot_str_eq (ZG s b u) F.entry_str_eq (F.args_str_eq_2 _ _) (C1 b u l (.type "dict") es n dd sl) ⟨ho,hq⟩)
  (λ_ hq=>Zt F.slot_dict_eq_refl ⟨_,ho,rfl⟩ F.entry_dict_eq (F.args_dict_eq_2 _ _) (C0 l es n dd sl b u) ⟨ho,hq⟩)
  (λ_ hq=>Z1 (rfl:isSame (.str b u) (.ref l)=pure false) hq) (.inr hu) h
theorem EqAt.str_dict{l:Yu}{es:Array Z2}{n:Nat}{o:Obj}(b:Str)(u:Tok)(ho:s.heap.get? l=some o)(hc:o.cls= .type "dict")(hd:o.data= .dict es n)(hu:A.units < YQ):EqAt A s (.str b u) (.ref l) false:=λprog w E Q h=>by
 unfold eqBool;refine YW ?_;refine ZV (λhab=>absurd (eq_of_beq hab) nofun) (λ_=>?_);exact Yv (RcAt.str_dict b u ho hc hd hu prog w E _ (Y2 h))
end
end PySem.SeqAt
namespace L2
open PySem PySem.Spec PyProof.Rows PySem.W
section
variable {X:Cx} {aaa:List (Yu×Obj)} {σ:St} {H:Hp} {s:Yw}
def dN:Ys->Bool
 | .dict [(.none,_)]=>false
 | _=>true
theorem K3(I:af X aaa σ H s){O:Ex}{v:V}{d:Ys}{u:Yt}(h:Dt X.K H O v d)(ht:dN d=true)(r:aC v u)(y:Str)(t:Tok)(hu:X.A.units < YQ):SeqAt.RcAt X.A s u (.str y t) (RC d (.str y)):=by
 cases h with
 | non=>cases (show u=TY from r);simpa [RC] using SeqAt.RcAt.none_str y t
 | bl b=>cases (show u=UL b from r);simpa [RC] using SeqAt.RcAt.bool_str b y t
 | int i=>obtain⟨k,e⟩:=(show ∃t,u=TN i t from r);cases e;simpa [RC] using SeqAt.RcAt.int_str i k y t
 | str x=>obtain⟨k,e⟩:=(show ∃t,u=UK x t from r);cases e;simpa [RC] using SeqAt.RcAt.str_str x k y t
 | @tup a xs ds h n rr=>
  cases (show u=RW a from r);obtain⟨its,rv,p,_⟩:=I.tuple (.inl h);simpa [RC] using WU y t (show s.heap.IsTuple a its.toArray from p) hu
 | @tupK a xs ds h rr=>
  cases (show u=RW a from r);obtain⟨its,rv,p,_⟩:=I.tuple h.of0;simpa [RC] using WU y t (show s.heap.IsTuple a its.toArray from p) hu
 | @lst a xs ds h n rr=>
  cases (show u=RW a from r);obtain⟨its,rv,p,_⟩:=I.list (.inl h);simpa [RC] using SeqAt.RcAt.list_str y t p.isList hu
 | pack h n=>exact absurd ht (by simp [dN])
 | purse h n=>exact absurd ht (by simp [dN])
 | scr h r=>exact absurd ht (by simp [dN])
 | obj h e n r=>exact absurd ht (by simp [dN])
 | @dct0 a h n=>
  cases (show u=RW a from r);obtain⟨_,_,_,_,o,es,ep,e,c,dd,_⟩:=(show cm X.prog X.w H s.heap a (.dK []) from I.hok a _ h);simpa [RC] using SeqAt.RcAt.dict_str y t e c.1 dd hu
 | @dic a ob kv ks kp ds h e1 e2 n rr=>
  cases (show u=RW a from r);obtain⟨_,_,_,_,o,es,ep,e,c,dd,_⟩:=(show cm X.prog X.w H s.heap a (.dK kv) from(I.hok a _ h).2);simpa [RC] using SeqAt.RcAt.dict_str y t e c.1 dd hu
theorem K4(I:af X aaa σ H s){A:YJ}{O:Ex}{v:V}{d:Ys}{u:Yt}(h:Dt X.K H O v d)(ht:dN d=true)(r:aC v u)(y:Str)(t:Tok)(hu:A.units < YQ):XH A s (.str y t) u (RC (.str y) d):=by
 cases h with
 | non=>cases (show u=TY from r);simpa [RC] using XH.str_none y t
 | bl b=>cases (show u=UL b from r);simpa [RC] using XH.str_bool y t b
 | int i=>obtain⟨k,e⟩:=(show ∃t,u=TN i t from r);cases e;simpa [RC] using W7 y t i k
 | str x=>obtain⟨k,e⟩:=(show ∃t,u=UK x t from r);cases e;simpa [RC] using XH.str_str y t x k
 | @tup a xs ds h n rr=>
  cases (show u=RW a from r);obtain⟨its,rv,p,_⟩:=I.tuple (.inl h);simpa [RC] using WV y t (show s.heap.IsTuple a its.toArray from p) hu
 | @tupK a xs ds h rr=>
  cases (show u=RW a from r);obtain⟨its,rv,p,_⟩:=I.tuple h.of0;simpa [RC] using WV y t (show s.heap.IsTuple a its.toArray from p) hu
 | @lst a xs ds h n rr=>
  cases (show u=RW a from r);obtain⟨its,rv,p,_⟩:=I.list (.inl h);simpa [RC] using XH.str_list y t p.isList hu
 | pack h n=>exact absurd ht (by simp [dN])
 | purse h n=>exact absurd ht (by simp [dN])
 | scr h r=>exact absurd ht (by simp [dN])
 | obj h e n r=>exact absurd ht (by simp [dN])
 | @dct0 a h n=>
  cases (show u=RW a from r);obtain⟨_,_,_,_,o,es,ep,e,c,dd,_⟩:=(show cm X.prog X.w H s.heap a (.dK []) from I.hok a _ h);simpa [RC] using XH.str_dict y t e c.1 dd hu
 | @dic a ob kv ks kp ds h e1 e2 n rr=>
  cases (show u=RW a from r);obtain⟨_,_,_,_,o,es,ep,e,c,dd,_⟩:=(show cm X.prog X.w H s.heap a (.dK kv) from(I.hok a _ h).2);simpa [RC] using XH.str_dict y t e c.1 dd hu
end
section
variable {X:Cx} {H0:Hp} {O0:Ex}
def C3(K:Q7):R2:=λx y H Q=>∃O dx z,Dt K H O x dx/\dN dx=true/\y= .str z/\Q (.bl (RC dx (.str z))) H
theorem dO{k:Nat}(hr:aY k X.A):bN X (YO .Eq) (C3 X.K):=by
 intro aaa s σ H x y v u Q I rx ry h;obtain⟨O,dx,z,hx,ht,rfl,q⟩:=h;obtain⟨t,rfl⟩:=ry;have hc:YO .Eq v (.str z t)=richCompare .Eq v (.str z t):=rfl;rw [hc];exact K3 I hx ht rx z t hr.units0 X.prog X.w X.xe _ (bC I q rfl)
def ic:Ys->Ys->(Ys->Prop)->Prop:=λx y Q=>∃z,y= .str z/\dN x=true/\Q (.bool (RC x (.str z)))
theorem dP{K:Q7}:cK K (C3 K) ic:=λH O x y dx dy Qd R _ hx hy uu76 k=>by
 obtain⟨z,e,ht,q⟩:=uu76;subst e;cases hy.str;exact⟨_,dx,z,hx.all,ht,rfl,k _ _ H q (ar.refl _) (.bl _)⟩
theorem K5(dx:Ys){its:List Yt}{zs:List Str}(hS:StrsAre its zs):its.any (λy=>RC (.str (strOf y)) dx)=zs.any λz=>RC (.str z) dx:=by
 induction hS with
 | nil=>rfl
 | cons y t r ih=>rw [SA,SA,ih];rfl
def C4(K:Q7):R2:=λx y H Q=>∃(O:Ex)(dx:Ys)(zs:List Str)(a:Yu),Dt K H O x dx/\dN dx=true/\y= .ref a/\bw K H a (zs.map V.str)/\Q (.bl (zs.any λz=>RC (.str z) dx)) H
theorem C5{k:Nat}(hr:aY k X.A):bN X (YO .In) (C4 X.K):=by
 intro aaa s σ H x y v u Q I rx ry h;obtain⟨O,dx,zs,a,hx,ht,rfl,ha,q⟩:=h;cases ry;obtain⟨its,rv,p,_⟩:=I.tuple ha;have hS:=K2 rv;have hl:=K5 dx hS;refine SeqAt.in_tupleAt (λy=>RC (.str (strOf y)) dx) (show s.heap.IsTuple a its.toArray from p) (λy hy=>?_) (by rw [List.any_toArray,hl];exact bC I q rfl);obtain⟨z,t,rfl⟩:=hS.all y (by simpa using hy);exact K4 I hx ht rx z t (by show X.A.units+1 < YQ;have:=hr.un;omega)
def lM:Ys->Ys->(Ys->Prop)->Prop:=λx y Q=>∃zs:List Str,y= .tuple (zs.map .str)/\dN x=true/\Q (.bool (zs.any λz=>RC (.str z) x))
theorem C6{K:Q7}:cK K (C4 K) lM:=λH O x y dx dy Qd R _ hx hy uu77 k=>by
 obtain⟨zs,e,ht,q⟩:=uu77;subst e;obtain⟨a,vs,rfl,hs,r⟩:=hy.tup;cases r.strs;exact⟨_,dx,zs,a,hx.all,ht,rfl,hs,k _ _ H q (ar.refl _) (.bl _)⟩
end
theorem C7{g:DG}{te:DT}{δ0:Dl}{xs:List Ys}{Q:List Ys->Prop}(f:Ys->Ys)
 (h:∀x∈xs,∀R:Ys->Prop,R (f x)->g x δ0 λδ2=>te δ2 R)(q:Q (xs.map f)):hU g hV te δ0 xs Q:=by
 refine⟨λi acc=>acc=(xs.take i).map f,rfl,?_,?_⟩
 ·rintro i x acc hx rfl;have:=h x (RN hx) (λy=>(xs.take i).map f++[y]=(xs.take (i+1)).map f) (by rw [R4,hx];simp);simpa [hV] using this
 ·rintro acc rfl;rw [RM (Rf _)];exact q
theorem K6{g:DG}{tc:DB}{te:DT}{δ0:Dl}{xs:List Ys}{Q:List Ys->Prop}(f:Ys->Option Ys)
 (h:∀x∈xs,∀(R:Ys->Prop) (S:Prop),(match f x with | some y=>R y | none=>S)->g x δ0 λδ2=>tc δ2 λok=>if ok=true then te δ2 R else S)(q:Q (xs.filterMap f)):hU g tc te δ0 xs Q:=by
 refine⟨λi acc=>acc=(xs.take i).filterMap f,rfl,?_,?_⟩
 ·rintro i x acc hx rfl;refine h x (RN hx) (λy=>(xs.take i).filterMap f++[y]=(xs.take (i+1)).filterMap f) ((xs.take i).filterMap f=(xs.take (i+1)).filterMap f) ?_;rw [R4,hx];cases e:f x with
  | none=>simp [e]
  | some y=>simp [e]
 ·rintro acc rfl;rw [RM (Rf _)];exact q
theorem nz{a b:Str}{P:List Str->Prop}:(∃zs,[Ra a,Ra b]=Sb Ra zs/\P zs)↔P [a,b]:=by
 refine⟨λ⟨zs,e,h⟩=>?_,λh=>⟨_,rfl,h⟩⟩
 match zs,e with
 | [x,y],e=>simp at e;rw [e.1,e.2];exact h
theorem nA{x:Str}:dN (.str x)=true:=rfl
theorem nB{x:Int}:dN (.int x)=true:=rfl
theorem nE{x:Bool}:dN (.bool x)=true:=rfl
theorem nF{x:List Ys}:dN (.tuple x)=true:=rfl
theorem nG{x:List Ys}:dN (.list x)=true:=rfl
def units:List Str:=["days","months","years"]
theorem nH{n:Nat}:∀d∈([]:List Ys),cL n d:=λd hd=>by simp at hd
theorem eo{n:Nat}{d:Ys}{r:List Ys}(h:cL n d)(hr:∀e∈r,cL n e):∀e∈d::r,cL n e:=λe he=>by
 rcases Rh.mp he with z | z
 ·rw [z];exact h
 ·exact hr e z
theorem fO{n:Nat}{x:Str}(h:Rz x=true)(hn:1<=n:=by decide):cL n (.str x):=(CO h).mono hn
theorem C8{n:Nat}{x:Int}(hn:1<=n:=by decide):cL n (.int x):=CQ.mono hn
theorem tI{n:Nat}{ms:List Str}(h:∀m∈ms,Rz m=true)(hn:1<=n:=by decide):∀d∈ms.map Ra,cL n d:=λd hd=>by
 obtain⟨m,hm,rfl⟩:=Rj.mp hd;exact(CO (h m hm)).mono hn
end L2
namespace PySem
open Builtin
open AutoSeq1 (wpAny_loadPart')
end PySem
namespace L2
open PySem PySem.Spec PyProof.Rows PySem.W
section
variable {X:Cx} {H0:Hp} {O0:Ex}
def lN(t:DT):DT:=λδ Q=>t δ λd=>∃i,d= .int i/\Q (.int (-i))
theorem K7{e:YA}{t:DT}{pos:Pos}(h:DE X H0 O0 e t):DE X H0 O0 (.UnaryOp .USub e pos) (lN t):=
 (Iy IB h).imp λσ H Q uu79=>by obtain⟨O,δ,Qd,w,q,k⟩:=uu79;exact⟨O,δ,_,w,q,λd v H1 uu80 s1 r1=>by obtain⟨i,e,q1⟩:=uu80;subst e;cases r1;exact⟨i,rfl,k _ _ H1 q1 s1 (.int _)⟩⟩
end
section
variable {x:Option YA} {n:Nat} {env:Env}
theorem K8{a b}:YN (.List a b) x n env=pure false:=rfl
theorem K9{a b c}:YN (.Tuple a b c) x n env=pure false:=rfl
theorem ju{a b c d}:YN (.BinOp a b c d) x n env=pure false:=rfl
theorem nI{a b c d}:YN (.Call a b c d) x n env=pure false:=rfl
theorem C9{a b c}:YN (.Subscript a b c) x n env=pure false:=rfl
theorem La{a b c}:YN (.BoolOp a b c) x n env=pure false:=rfl
theorem Lb{a b c d}:YN (.IfExp a b c d) x n env=pure false:=rfl
end
theorem nJ:(Q6 "paper"==Q6 "happens")=false:=cp
theorem nK:(Q6 "paper"==Q6 "rule")=false:=cp
theorem nL:(Q6 "paper"==Q6 "leave")=false:=cp
section
variable {X:Cx} {H0:Hp} {O0:Ex}
def lO:DS:=λ_ _=>False
theorem Lc{st:YH}:PS X st (bg X.K H0 O0 lO):=Ik.imp λD σ H uu81=>by obtain⟨O,δ,E,w,q,_,_,_,_⟩:=uu81;exact q.elim
end
section
variable {α:Type} {P:α->Prop}
theorem lP{a:Ys}{r:Dl}{P:Ys->Prop}:bU 0 (some (Sl.v a)::r) P=P a:=rfl
theorem nM{x:Option Sl}{r:Dl}{i:Nat}{P:Ys->Prop}:bU (i+1) (x::r) P=bU i r P:=rfl
theorem Q3{a:Ys}{l:Dl}{i:Nat}{P:Ys->Prop}:bU i (l.set i (some (Sl.v a))) P=(i < l.length/\P a):=by
 apply propext;show wj P _↔_;rw [Cr,Vv];constructor
 ·rintro⟨d,e,p⟩;by_cases h:i < l.length
  ·rw [RG h] at e;cases e;exact⟨h,p⟩
  ·rw [S6 Yn] at e;cases e
 ·rintro⟨h,p⟩;exact⟨a,by rw [RG h];rfl,p⟩
theorem nN{a:List Ys}{r:Dl}{P:List Ys->Prop}:(∃d,(some (Sl.o a)::r)[0]?=some (some (Sl.o d))/\P d)=P a:=Yr
theorem nO{x:Option Sl}{r:Dl}{i:Nat}{P:List Ys->Prop}:(∃d,(x::r)[i+1]?=some (some (Sl.o d))/\P d)=(∃d,r[i]?=some (some (Sl.o d))/\P d):=Yr
theorem nP{a:List Ys}{l:Dl}{i:Nat}{P:List Ys->Prop}:(∃d,(l.set i (some (Sl.o a)))[i]?=some (some (Sl.o d))/\P d)=(i < l.length/\P a):=by
 apply propext;rw [Vv];constructor
 ·rintro⟨d,e,p⟩;by_cases h:i < l.length
  ·rw [RG h] at e;cases e;exact⟨h,p⟩
  ·rw [S6 Yn] at e;cases e
 ·rintro⟨h,p⟩;exact⟨a,by rw [RG h];rfl,p⟩
theorem nQ{x:Option Sl}{l:Dl}{i j:Nat}{P:List Ys->Prop}(h:i≠j):(∃d,(l.set i x)[j]?=some (some (Sl.o d))/\P d)=(∃d,l[j]?=some (some (Sl.o d))/\P d):=by rw [Rr h]
theorem nR{a:Bool}{P:Bool->Prop}:(∃b,VC a= .bool b/\P b)=P a:=Yr
theorem nS{a:Int}{P:Int->Prop}:(∃b,Rg a= .int b/\P b)=P a:=Yr
theorem nT{a:Str}{P:Str->Prop}:(∃b,Ra a= .str b/\P b)=P a:=Yr
theorem nU{a:List Ys}{P:List Ys->Prop}:(∃b,RV a= .tuple b/\P b)=P a:=Yr
theorem nV{a:List Ys}{P:List Ys->Prop}:(∃b,Sw a= .list b/\P b)=P a:=Yr
theorem nW{a b:Int}{P:Int->Int->Prop}:(∃i j,Rg a= .int i/\Rg b= .int j/\P i j)=P a b:=Yr
theorem nX{a b:Str}{P:Str->Str->Prop}:(∃i j,Ra a= .str i/\Ra b= .str j/\P i j)=P a b:=Yr
theorem nY{a b:List Ys}{P:List Ys->List Ys->Prop}:(∃i j,Sw a= .list i/\Sw b= .list j/\P i j)=P a b:=Yr
theorem nZ{a:Ys}{r:List Ys}{P:Ys->List Ys->Prop}:(∃x y,a::r=x::y/\P x y)=P a r:=propext ⟨λuu82=>by obtain⟨_,_,e,p⟩:=uu82;cases e;exact p,λp=>⟨_,_,rfl,p⟩⟩
theorem oe{a b:Ys}{P:Ys->Ys->Prop}:(∃x y,[a,b]=[x,y]/\P x y)=P a b:=propext ⟨λuu83=>by obtain⟨_,_,e,p⟩:=uu83;cases e;exact p,λp=>⟨_,_,rfl,p⟩⟩
theorem oh{a:Ys}{r:List Ys}{P:Ys->Prop}:(∃ds i d,RV (a::r)= .tuple ds/\Rg 0= .int i/\atI ds i=some d/\P d)=P a:=by simp [dJ]
theorem oi{a b:Ys}{r:List Ys}{P:Ys->Prop}:(∃ds i d,RV (a::b::r)= .tuple ds/\Rg 1= .int i/\atI ds i=some d/\P d)=P b:=by simp [fD]
theorem oj{a b c:Ys}{r:List Ys}{P:Ys->Prop}:(∃ds i d,RV (a::b::c::r)= .tuple ds/\Rg 2= .int i/\atI ds i=some d/\P d)=P c:=by simp [iT]
theorem om{a b c e:Ys}{r:List Ys}{P:Ys->Prop}:(∃ds i d,RV (a::b::c::e::r)= .tuple ds/\Rg 3= .int i/\atI ds i=some d/\P d)=P e:=by simp [gy]
theorem oo{a:Ys}{r:List Ys}{P:Ys->Prop}:(∃ds i d,Sw (a::r)= .list ds/\Rg 0= .int i/\atI ds i=some d/\P d)=P a:=by simp [dJ]
theorem oq{a b:Ys}{r:List Ys}{P:Ys->Prop}:(∃ds i d,Sw (a::b::r)= .list ds/\Rg 1= .int i/\atI ds i=some d/\P d)=P b:=by simp [fD]
theorem ot{a b c:Ys}{r:List Ys}{P:Ys->Prop}:(∃ds i d,Sw (a::b::c::r)= .list ds/\Rg 2= .int i/\atI ds i=some d/\P d)=P c:=by simp [iT]
theorem oz{xs:List Ys}{k:Int}{P:Ys->Prop}:(∃ds i d,RV xs= .tuple ds/\Rg k= .int i/\atI ds i=some d/\P d)=(∃d,atI xs k=some d/\P d):=Yr
theorem oA{xs:List Ys}{k:Int}{P:Ys->Prop}:(∃ds i d,Sw xs= .list ds/\Rg k= .int i/\atI ds i=some d/\P d)=(∃d,atI xs k=some d/\P d):=Yr
end
theorem oB{w v:Str}{r:List Ys}{l:Dl}{Q:Bool->Prop}:cY (cQ ic (cQ hZ (bU 0) (dC (.int 0))) (dC (.str v))) (some (.v (.tuple (.str w::r)))::l) Q=Q (w==v):=by
 simp [cY,cQ,ic,hZ,lP,dC,dJ,dN,eV]
theorem oC{v:Str}{x:Option Sl}{l:Dl}{k:Nat}{Q:Bool->Prop}:cY (cQ ic (cQ hZ (bU 0) (dC (.int 0))) (dC (.str v))) (l.set (k+1) x) Q=cY (cQ ic (cQ hZ (bU 0) (dC (.int 0))) (dC (.str v))) l Q:=by
 simp only [cY,cQ,bU,dC,Rr (show k+1≠0 by omega)]
def jv:ah->Ys
 | .inl i=>.int i
 | .inr x=>.str x
def fj(kd:List (ah×Ys))(k:ah):Option Ys:=(kd.find? λp=>decide (p.1=k)).map (·.2)
def dh(kd:List (ah×Ys))(k:ah)(d:Ys):List (ah×Ys):=if (kd.any λp=>decide (p.1=k))=true then kd.map (λp=>if p.1=k then(p.1,d) else p) else kd++[(k,d)]
section
variable {K:Q7} {H:Hp} {O:Ex}
theorem Dt.key{v:V}{k:ah}(h:Dt K H O v (jv k)):v=kV k:=by
 cases k with
 | inl i=>cases h;rfl
 | inr x=>cases h;rfl
theorem br.val{kv:List (ah×V)}{kd:List (ah×Ys)}(h:br K H O kv kd)(k:ah):(d9 kv k=none/\fj kd k=none)\/∃v d,d9 kv k=some v/\fj kd k=some d/\Dt K H O v d:=by
 induction h with
 | nil=>exact .inl ⟨rfl,rfl⟩
 | @cons j v d r s a _ ih=>
  by_cases e:j=k
  ·exact .inr ⟨v,d,qV e,by simp [fj,R7,e],a⟩
  ·rw [pN e,show fj ((j,d)::s) k=fj s k by simp [fj,R7,e]];exact ih
theorem br.any{kv:List (ah×V)}{kd:List (ah×Ys)}(h:br K H O kv kd)(k:ah):(kv.any λp=>decide (p.1=k))=(kd.any λp=>decide (p.1=k)):=by
 induction h with
 | nil=>rfl
 | cons a _ ih=>simp only [SA,ih]
theorem br.length{kv:List (ah×V)}{kd:List (ah×Ys)}(h:br K H O kv kd):kv.length=kd.length:=by
 induction h with
 | nil=>rfl
 | cons a _ ih=>simp only [Rq,ih]
theorem br.append{kv kv':List (ah×V)}{kd kd':List (ah×Ys)}(h:br K H O kv kd)(h':br K H O kv' kd'):br K H O (kv++kv') (kd++kd'):=by
 induction h with
 | nil=>exact h'
 | cons a _ ih=>exact .cons a ih
theorem br.repl{kv:List (ah×V)}{kd:List (ah×Ys)}(h:br K H O kv kd)(k:ah){v:V}{d:Ys}(hv:Dt K H O v d):br K H O (kv.map λp=>if p.1=k then(p.1,v) else p) (kd.map λp=>if p.1=k then(p.1,d) else p):=by
 induction h with
 | nil=>exact .nil
 | @cons j u e r s a _ ih=>
  simp only [Rb];by_cases z:j=k
  ·rw [Yp z,Yp z];exact .cons hv ih
  ·rw [Yo z,Yo z];exact .cons a ih
theorem br.put{kv:List (ah×V)}{kd:List (ah×Ys)}(h:br K H O kv kd)(k:ah){v:V}{d:Ys}(hv:Dt K H O v d):br K H O (putK kv k v) (dh kd k d):=by
 unfold putK dh;rw [h.any k];split
 ·exact h.repl k hv
 ·exact h.append (.cons hv .nil)
end
section
variable {X:Cx} {H0:Hp} {O0:Ex}
abbrev j4:=Dl->(List (ah×Ys)->Prop)->Prop
inductive Dc (K:Q7) (H0:Hp) (O0:Ex) (t:j4) (σ:St) (H:Hp) (R:VK):Prop
 | mk (O:Ex) (δ:Dl) (Qd:List (ah×Ys)->Prop):Wd K H0 O0 H O σ δ->t δ Qd->(∀kd kv p H',Qd kd->ar H H'->H' p=none->br K H' O kv kd->R (.ref p) (ai H' p (.dK kv)))->Dc K H0 O0 t σ H R
abbrev KE(X:Cx)(H0:Hp)(O0:Ex)(e:YA)(t:j4):Prop:=PE X e (Dc X.K H0 O0 t)
def lQ:j4:=λ_ Q=>Q []
theorem tJ{pos:Pos}:KE X H0 O0 (.Dict [] [] pos) lQ:=Ky.imp λσ H Q uu84=>by obtain⟨O,δ,Qd,w,q,k⟩:=uu84;exact λp hp=>k [] [] p H q (ar.refl _) hp .nil
def lR(i:Nat)(t:j4):DS:=λE δ=>t δ λkd=>E.nx (δ.set i (some (.k kd)))
theorem q5{i:Nat}{x:Str}{e:YA}{t:j4}{pos pos':Pos}(hN:X.N.Nodup)(hi:X.N[i]?=some x)(hx:gP X.env.scope x)(he:KE X H0 O0 e t)(hs:YN e (some (.Name x pos')) pos.line X.env=pure false:=by rfl)(hf:X.fn x=true\/X.env.scope.names.lookup x=some .local:=by first | exact .inl rfl | exact .inr rfl | assumption):
 PS X (.Assign [.Name x pos'] e pos) (bg X.K H0 O0 (lR i t)):=
 (eZ hN hi hx he hs hf).imp λD σ H ⟨O,δ,E,w,q,k1,k2,k3,k4⟩=>⟨O,δ,_,w,q,λds vs p H1 q1 s1 hp r1=>k1 _ _ _ _ q1 ((w.mono s1).setK hp r1)
  ⟨λb o e _=>(s1.trans (ar.new hp)) b o e,λb e n z=>z.elim n λy=>by
   cases q:H b with
   | none=>exact e q
   | some o=>have:=s1 _ _ q;rw [y,hp] at this;cases this⟩⟩
def lT(i:Nat)(tk tv:DT):DS:=λE δ=>tv δ λd=>∃kd,δ[i]?=some (some (.k kd))/\tk δ λy=>∃k,y=jv k/\kd.length < YC/\E.nx (δ.set i (some (.k (dh kd k d))))
theorem tK{i:Nat}{o e v:YA}{tk tv:DT}{pos pos':Pos}(hu:X.A.units+64 < YQ)(ho:PE X o (cA i))(he:DE X H0 O0 e tk)(hv:DE X H0 O0 v tv)(hs:YN v (some (.Subscript o e pos')) pos.line X.env=pure false:=by rfl):
 PS X (.Assign [.Subscript o e pos'] v pos) (bg X.K H0 O0 (lT i tk tv)):=
 (wI Yn ho he hv hs).imp λD σ H ⟨O,δ,E,w,q,k1,k2,k3,k4⟩=>⟨O,δ,_,w,q,λd u H1 uu87 s1 r1=>by
  obtain⟨kd,e,qk⟩:=uu87;have w1:=w.mono s1;obtain⟨l,kv,h,a,b,c,r⟩:=w1.ownK e;refine⟨.ref l,h,O,δ,_,w1,qk,λy uy H2 ⟨k,ek,hl,q2⟩ s2 r2=>?_⟩;subst ek;obtain rfl:=r2.key;refine⟨l,_,rfl,nv.k (s2 _ _ c) (by rw [r.length];exact hl),k1 _ _ _ _ q2 ((w1.mono s2).putK e h ((r.mono s2).put k (r1.mono s2))) ⟨λb' o' z n=>?_,λ_ _ n=>n⟩⟩;rw [az (λy=>n (by rw [y];exact a))];exact(s1.trans s2) _ _ z⟩
def lU(i:Nat)(tk:DT):DT:=λδ Q=>∃kd,δ[i]?=some (some (.k kd))/\tk δ λy=>∃k d,y=jv k/\fj kd k=some d/\Q d
theorem br.got{K:Q7}{H:Hp}{O:Ex}{kv:List (ah×V)}{kd:List (ah×Ys)}(h:br K H O kv kd){k:ah}{d:Ys}(e:fj kd k=some d):∃v,d9 kv k=some v/\Dt K H O v d:=by
 rcases h.val k with⟨_,z⟩ | ⟨v,d',a,b,c⟩
 ·rw [e] at z;cases z
 ·rw [e] at b;cases b;exact⟨v,a,c⟩
theorem br.none{K:Q7}{H:Hp}{O:Ex}{kv:List (ah×V)}{kd:List (ah×Ys)}(h:br K H O kv kd){k:ah}:(d9 kv k).isSome=(fj kd k).isSome:=by
 rcases h.val k with⟨y,z⟩ | ⟨v,d',a,b,c⟩
 ·rw [y,z];rfl
 ·rw [a,b];rfl
theorem wR{i:Nat}{o e:YA}{tk:DT}{pos:Pos}(hu:X.A.units+64 < YQ)(ho:PE X o (cA i))(he:DE X H0 O0 e tk)(hs:tE e):DE X H0 O0 (.Subscript o e pos) (lU i tk):=
 (CG Yn ho he hs).imp λσ H Q uu89=>by
  obtain⟨O,δ,Qd,w,⟨kd,e,q⟩,k⟩:=uu89;obtain⟨l,kv,h,a,b,c,r⟩:=w.ownK e;refine⟨.ref l,h,O,δ,_,w,q,λy uy H2 ⟨ky,d,ek,ev,q2⟩ s2 r2=>?_⟩;subst ek;obtain rfl:=r2.key;obtain⟨v,hv,dv⟩:=r.got ev;exact⟨l,v,rfl,by rw [<-hv];exact cD.k (s2 _ _ c),k _ _ _ q2 s2 (dv.mono s2)⟩
def lV(i:Nat)(tk:DT):DT:=λδ Q=>∃kd,δ[i]?=some (some (.k kd))/\tk δ λy=>∃k,y=jv k/\Q ((fj kd k).getD .none)
theorem Ld{i:Nat}{o e:YA}{tk:DT}{apos cpos:Pos}(hu:X.A.units+64 < YQ)(ho:PE X o (cA i))(he:DE X H0 O0 e tk)(m:M1 X o "get" apos e cpos):DE X H0 O0 (.Call (.Attribute o "get" apos) [e] [] cpos) (lV i tk):=
 (CK Yn ho he m).imp λσ H Q uu91=>by
  obtain⟨O,δ,Qd,w,⟨kd,e,q⟩,k⟩:=uu91;obtain⟨l,kv,h,a,b,c,r⟩:=w.ownK e;refine⟨.ref l,h,l,rfl,.inl ⟨kv,.inl c⟩,O,δ,_,w,q,λy uy H2 ⟨ky,ek,q2⟩ s2 r2=>?_⟩;subst ek;obtain rfl:=r2.key;refine⟨_,cD.k (s2 _ _ c),k _ _ _ q2 s2 ?_⟩;rcases r.val ky with⟨y,z⟩ | ⟨v,d',a',b',c'⟩
  ·rw [y,z];exact .non
  ·rw [a',b'];exact c'.mono s2
def iW(neg:Bool)(i:Nat)(tk:DT):DT:=λδ Q=>tk δ λy=>∃k,y=jv k/\∃kd,δ[i]?=some (some (.k kd))/\Q (.bool (if neg then !(fj kd k).isSome else(fj kd k).isSome))
theorem Le{i:Nat}{o e:YA}{tk:DT}(hu:X.A.units+64 < YQ)(ho:PE X o (cA i))(he:DE X H0 O0 e tk):PC X .In e o (up X.K H0 O0 (iW false i tk)):=λaaa s σ H Q I ⟨O,δ,Qd,w,q,k⟩=>
 CH Yn he ho aaa s σ H Q I ⟨O,δ,_,w,q,λy uy H2 uu94 s2 r2=>by
  obtain⟨ky,ek,kd,e,q2⟩:=uu94;subst ek;obtain rfl:=r2.key;obtain⟨l,kv,h,a,b,c,r⟩:=(w.mono s2).ownK e;exact⟨.ref l,h,l,_,rfl,cD.k c,by rw [r.none];exact k _ _ _ q2 s2 (.bl _)⟩⟩
theorem Lf{i:Nat}{o e:YA}{tk:DT}(hu:X.A.units+64 < YQ)(ho:PE X o (cA i))(he:DE X H0 O0 e tk):PC X .NotIn e o (up X.K H0 O0 (iW true i tk)):=λaaa s σ H Q I ⟨O,δ,Qd,w,q,k⟩=>
 wH Yn he ho aaa s σ H Q I ⟨O,δ,_,w,q,λy uy H2 uu96 s2 r2=>by
  obtain⟨ky,ek,kd,e,q2⟩:=uu96;subst ek;obtain rfl:=r2.key;obtain⟨l,kv,h,a,b,c,r⟩:=(w.mono s2).ownK e;exact⟨.ref l,h,l,_,rfl,cD.k c,by rw [r.none];exact k _ _ _ q2 s2 (.bl _)⟩⟩
end
open PySem PySem.Spec PyProof.Rows PySem.W PySem.Calls
theorem Lg{prog:YE}{w:YF}{A:YJ}{E:Yt->Yw->Prop}{s:Yw}{T:String}{r d:Yu}{n:Nat}{P:Nat->Yt->Prop}{OK:YG->Prop}{ss:List Str}{Q:Yt->Yw->Prop}
 (K:KdlSrc prog w T r d n P OK)(hh:A.handled=none)(hok:OK s.heap)(hn:n < 64)(hP:∀vs:List Yt,vs.length=n->(∀j v,vs[j]?=some v->P j v)->StrsAre vs ss)
 (h:∀(h' h2:YG) (tk:Nat) (out:Array Yt) (e:Nat) (ss':List Str),(∀b o,s.heap.get? b=some o->h'.get? b=some o)->(∀b o,h'.get? b=some o->h2.get? b=some o)->h2.get? h'.objs.size=some (YK "list" out e)->StrsAre out.toList ss'->ss'.Perm ss->sortedS ss'=true->Q (.ref h'.objs.size) {s with heap:=h2,toks:=tk}):
 Yy (YB prog w) A (call (.builtin "sorted") [.ref r]) Q E s:=by
 refine Vl kind_sorted plain_sorted entry_sorted (args_sorted1 _) ?_;unfold Builtin.«sorted»;refine Yv (m:=checkCount "sorted" 1 1 _) (Yx ?_);refine Yv (kdu_collect (A:=A.in1) K hh hok (RS (Uh hn) Ym) λh' tk acc hk hacc=>?_);have hl:acc.toList.length=n:=by rw [RO];exact hacc.1
 refine Yv (Zx ?_);have hS:=hP acc.toList hl (λj v e=>hacc.2 j v (by rw [<-VL];exact e));have hoL:(h'.push (YK "list" acc.toList.toArray 0)).get? h'.objs.size=some (YK "list" acc.toList.toArray 0):=RJ _ rfl;refine Yv (YW (Y0 ZX ⟨_,hoL,rfl⟩ ZW (list_sort_treeK (s:={s with heap:=h'.push (YK "list" acc.toList.toArray 0),toks:=tk}) strKind_oneLt hoL hS.keysOf (λv₁ v₂ rest e=>keyKind_strs (by rw [<-e];exact hS)) (by rw [hl];exact hn) λst' a1 a2=>⟨_,rfl,?_⟩) (args_list_sort _)));obtain⟨ss',h1,h2,h3⟩:=sorted_out_str hS a1 a2;obtain⟨e,he⟩:=sortedHeap_at (n:=0) (vs:=acc.toList) (out:=(arrOf st').map (·.2)) hoL;refine Yx ⟨_,rfl,h h' _ tk _ e ss' hk (λb o q=>?_) he h1 h2 h3⟩;have hlt:b < h'.objs.size:=Rx q;rw [sortedHeap_old (RI hlt) (by rw [size_push'];exact SO hlt),Xo _ _ _ (RI hlt)];exact q
theorem Dd{P:YE}{w:YF}:∀{ss:List Str}{vs:List Yt},vs.length=ss.length->(∀(j:Nat)(v:Yt),vs[j]?=some v->∃x:Str,ss[j]?=some x/\(bZ P w).is (.inr x) v=true)->StrsAre vs ss
 | [],[],_,_=>.nil
 | x::ss,v::vs,hl,h=>by
  obtain⟨y,e,k⟩:=h 0 v rfl;cases e;rcases jc (k:= .inr x) (v:=v) k with⟨i,t,e,_⟩ | ⟨z,t,e,ev⟩
  ·cases e
  ·cases e;subst ev;exact .cons x t (Dd (by simpa using hl) λj v e=>h (j+1) v e)
theorem Lh{X:Cx}:eJ X (.builtin "sorted") (λxs H Q=>X.calm=true/\∃a kv ss,xs=[.ref a]/\Rd H a (.dK kv)/\kv.map (·.1)=ss.map R9/\ss.length < 64/\∀l,H l=none->Q (.ref l) (ai H l (.lst ((jt ss).map V.str)))):=by
 intro aaa s σ H xs us Q I r h;obtain⟨hc,a,kv,ss,rfl,ha,hk,h64,q⟩:=h;obtain⟨u,rfl,rx⟩:=fb r;cases rx;obtain⟨hz,lo,vs,rel,dd⟩:=iU I.hok ha;obtain⟨ep,da⟩:=dd.dictAt;have hlen:vs.length=ss.length:=by rw [<-rel.length,<-Q8 (f:=(·.1)),hk,Q8]
 refine Lg (ss:=ss) (kdl_dict (kvs:=vs) (ep:=ep) lo) (I.ok.hd hc) da Yn (λus hl hp=>Dd (P:=X.prog) (w:=X.w) Yn λj v e=>?_) λh' h2 tk out e ss' k1 k2 at2 s1 s2 s3=>?_
 ·obtain⟨k,x,ek,kk⟩:=hp j v e;have e1:(vs.map (·.1))[j]?=some k:=by rw [Rt,ek];rfl
  rw [<-rel.keys,hk,Rt] at e1;cases es:ss[j]? with
  | none=>rw [es] at e1;cases e1
  | some y=>rw [es] at e1;cases e1;exact⟨y,rfl,kk⟩
 ·have es:ss'=jt ss:=KZ s2 (K0 _ s3);subst es;have hl2:(jt ss).length=ss.length:=s2.length_eq;have I1:af X aaa σ H {s with heap:=h',toks:=tk}:=I.kept (t':=tk) k1;refine⟨.ref _,_,I1.laid (t':=tk) (o:= .lst ((jt ss).map V.str)) k2 (Rf _) ?_,rfl,q _ (I1.hok.fresh (Rf _))⟩;refine⟨by rw [Q8,hl2];exact RS (Uh h64) Ym,out.toList,e,CZ s1,?_⟩;rw [at2]
theorem br.keys{K:Q7}{H:Hp}{O:Ex}{kv:List (ah×V)}{kd:List (ah×Ys)}(h:br K H O kv kd):kv.map (·.1)=kd.map (·.1):=by
 induction h with
 | nil=>rfl
 | cons a _ ih=>simp only [Rb,ih]
section
variable {X:Cx} {H0:Hp} {O0:Ex}
def lW(i:Nat):DA:=λδ Q=>∃kd,δ[i]?=some (some (.k kd))/\∃ss:List Str,kd.map (·.1)=ss.map R9/\ss.length < 64/\Q ((jt ss).map .str)
theorem Df{i:Nat}{o:YA}{np p:Pos}(hc:X.calm=true)(hg:Gl X "sorted")(hm:X.mg "sorted"=none)(hv:YS "sorted"=some (.builtin "sorted"))(ho:PE X o (cA i))(he:Yz [o] X.env=(false,eval o X.env)::Yz [] X.env:=by rfl)(hpl:(YM p (Yz [] X.env)).any (·.1)=false:=by rfl):
 FE X H0 O0 (.Call (.Name "sorted" np) [o] [] p) (lW i):=
 (eL Lh hg hm hv (bA ho cb he) (he:=he) (hpl:=hpl)).imp λσ H Q uu0=>by
  obtain⟨O,δ,Qd,w,⟨kd,e,ss,ek,h64,q⟩,k⟩:=uu0;obtain⟨l,kv,h,a,b,c,r⟩:=w.ownK e;exact⟨.ref l,h,hc,l,kv,ss,rfl,.inl c,by rw [r.keys];exact ek,h64,λp hp=>k _ _ _ _ q (ar.refl _) hp (ak.ofStrs _)⟩
theorem Q4{i:Nat}{o e:YA}{tk:DT}{pos:Pos}(hu:X.A.units+64 < YQ)(ho:PE X o (cA i))(he:DE X H0 O0 e tk)(hm:YU .In o=false:=by rfl):PT X (.Compare e [.In] [o] pos) (bO X.K H0 O0 (cY (iW false i tk))):=
 (pj (Le hu ho he) hm).imp λσ H Q uu1=>by obtain⟨O,δ,Qd,w,q,k⟩:=uu1;exact⟨O,δ,_,w,q,λd v H' uu2 s r=>by obtain⟨b,e,qb⟩:=uu2;subst e;cases r;exact⟨b,rfl,k b H' qb s⟩⟩
theorem Li{i:Nat}{o e:YA}{tk:DT}{pos:Pos}(hu:X.A.units+64 < YQ)(ho:PE X o (cA i))(he:DE X H0 O0 e tk)(hm:YU .NotIn o=false:=by rfl):PT X (.Compare e [.NotIn] [o] pos) (bO X.K H0 O0 (cY (iW true i tk))):=
 (pj (Lf hu ho he) hm).imp λσ H Q uu3=>by obtain⟨O,δ,Qd,w,q,k⟩:=uu3;exact⟨O,δ,_,w,q,λd v H' uu4 s r=>by obtain⟨b,e,qb⟩:=uu4;subst e;cases r;exact⟨b,rfl,k b H' qb s⟩⟩
end
section
theorem oE{a:List (ah×Ys)}{r:Dl}{P:List (ah×Ys)->Prop}:(∃d,(some (Sl.k a)::r)[0]?=some (some (Sl.k d))/\P d)=P a:=Yr
theorem oF{x:Option Sl}{r:Dl}{i:Nat}{P:List (ah×Ys)->Prop}:(∃d,(x::r)[i+1]?=some (some (Sl.k d))/\P d)=(∃d,r[i]?=some (some (Sl.k d))/\P d):=Yr
theorem oG{a:List (ah×Ys)}{l:Dl}{i:Nat}{P:List (ah×Ys)->Prop}:(∃d,(l.set i (some (Sl.k a)))[i]?=some (some (Sl.k d))/\P d)=(i < l.length/\P a):=by
 apply propext;rw [Vv];constructor
 ·rintro⟨d,e,p⟩;by_cases h:i < l.length
  ·rw [RG h] at e;cases e;exact⟨h,p⟩
  ·rw [S6 Yn] at e;cases e
 ·rintro⟨h,p⟩;exact⟨a,by rw [RG h];rfl,p⟩
theorem oH{x:Option Sl}{l:Dl}{i j:Nat}{P:List (ah×Ys)->Prop}(h:i≠j):(∃d,(l.set i x)[j]?=some (some (Sl.k d))/\P d)=(∃d,l[j]?=some (some (Sl.k d))/\P d):=by rw [Rr h]
theorem oI{x:Str}{P:ah->Prop}:(∃k,Ra x=jv k/\P k)=P (.inr x):=propext ⟨λuu5=>by obtain⟨k,e,p⟩:=uu5;cases k with | inl i=>cases e | inr y=>cases e;exact p,λp=>⟨_,rfl,p⟩⟩
end
def dQ:Ys->Bool
 | .none=>true
 | _=>false
def j5:Ys->Ys->(Ys->Prop)->Prop:=λx y Q=>y= .none/\Q (.bool (dQ x))
def lX:Ys->Ys->(Ys->Prop)->Prop:=λx y Q=>y= .none/\Q (.bool (!dQ x))
theorem Sh.isN{K:Q7}{H:Hp}{O:Ex}{x:V}{d:Ys}(h:Sh K H O x d):decide (x= .non)=dQ d:=by
 cases h with
 | dt h=>cases h <;> simp [dQ]
 | _=>simp [dQ]
theorem lY{K:Q7}:cK K (λx y H Q=>y= .non/\Q (.bl (decide (x= .non))) H) j5:=λH O x y dx dy Qd R _ hx hy uu6 k=>by
 obtain⟨e,q⟩:=uu6;subst e;refine⟨hy.non,?_⟩;rw [hx.isN];exact k _ _ H q (ar.refl _) (.bl _)
theorem Dg{K:Q7}:cK K (λx y H Q=>y= .non/\Q (.bl (!decide (x= .non))) H) lX:=λH O x y dx dy Qd R _ hx hy uu7 k=>by
 obtain⟨e,q⟩:=uu7;subst e;refine⟨hy.non,?_⟩;rw [hx.isN];exact k _ _ H q (ar.refl _) (.bl _)
def lZ:List Ys->(Ys->Prop)->Prop:=λds Q=>∃i:Int,ds=[.int i]/\Q (.int (if i < 0 then -i else i))
theorem Lj{K:Q7}:iM K (λxs H Q=>∃i,xs=[.int i]/\Q (.int (if i < 0 then -i else i)) H) lZ:=λH O xs ds Qd R _ hs uu8 k=>by
 obtain⟨i,e,q⟩:=uu8;subst e;cases hs with
 | cons h r=>cases r;cases h.int;exact⟨i,rfl,k _ _ H q (ar.refl _) (.int _)⟩
def l4:Ys->Ys->(Ys->Prop)->Prop:=λx y Q=>∃ds i d,x=jj ds/\y= .int i/\atI ds i=some d/\Q d
theorem Ll{K:Q7}:cK K (vS K) l4:=λH O x y dx dy Qd R _ hx hy uu9 k=>by
 obtain⟨ds,i,d,e1,e2,e3,q⟩:=uu9;subst e1 e2;obtain⟨a,vs,rfl,hs,r⟩:=hx.scr;cases hy.int;obtain⟨v,hv,rv⟩:=r.atI e3;exact⟨a,vs,i,v,rfl,rfl,hs,hv,k d v H q (ar.refl _) rv⟩
section
variable {X:Cx} {H0:Hp} {O0:Ex}
def l5(t:DT)(tl th:DO):DA:=λδ Q=>t δ λd=>tl δ λl=>th δ λu=>∃xs,d=jj xs/\Q (eQ xs l u)
theorem Dh{e:YA}{lo hi:Option YA}{t:DT}{tl th:DO}{pos p2:Pos}(h:DF X H0 O0 e t)(hl:PO X lo (jZ X.K H0 O0 tl))(hu:PO X hi (jZ X.K H0 O0 th)):FE X H0 O0 (.Subscript e (.Slice lo hi none p2) pos) (l5 t tl th):=
 (vQ Ca h hl hu).imp λσ H Q uu10=>by obtain⟨O,δ,Qd,w,q,k⟩:=uu10;exact⟨O,δ,_,w,q,λd v H1 q1 s1 r1=>⟨O,δ,_,w.mono s1,q1,λl H2 q2 s2=>⟨O,δ,_,w.mono (s1.trans s2),q2,λu H3 uu11 s3=>by
  obtain⟨xs,e,q3⟩:=uu11;subst e;obtain⟨a,vs,rfl,h1,d1⟩:=(r1.mono (s2.trans s3)).scr;exact⟨a,vs,rfl,h1,λp hp=>k _ _ _ _ q3 (s1.trans (s2.trans s3)) hp (d1.cut l u)⟩⟩⟩⟩
end
theorem Di{X:Cx}:bN X (Zo .Mult) (λx y H Q=>∃(z:Str)(n:Int),x= .str z/\y= .int n/\MulOk z n/\Q (.str (Txt.mul z n)) H):=by
 intro aaa s σ H x y v u Q I rx ry h;obtain⟨z,n,rfl,rfl,hok,q⟩:=h;obtain⟨t,rfl⟩:=rx;obtain⟨t',rfl⟩:=ry;exact SB.mul hok λt' k=>⟨.str _,H,I.tok _,⟨_,rfl⟩,q⟩
def l6:Ys->Ys->(Ys->Prop)->Prop:=λx y Q=>∃(z:Str)(n:Int),x= .str z/\y= .int n/\MulOk z n/\Q (.str (Txt.mul z n))
theorem Dj{K:Q7}:cK K (λx y H Q=>∃(z:Str)(n:Int),x= .str z/\y= .int n/\MulOk z n/\Q (.str (Txt.mul z n)) H) l6:=λH O x y dx dy Qd R _ hx hy uu12 k=>by
 obtain⟨z,n,e1,e2,c,q⟩:=uu12;subst e1 e2;cases hx.str;cases hy.int;exact⟨z,n,rfl,rfl,c,k _ _ H q (ar.refl _) (.str _)⟩
structure Rw where
 w:Str
 n:Int
 nm:Str
 r:List Ys
def Rw.enc(x:Rw):Ys:= .tuple (.str x.w:: .int x.n:: .str x.nm::x.r)
def dR(ws:List Str)(day:Int)(x:Rw):Prop:=x.w∈ws/\x.n<=day
instance {ws:List Str} {day:Int} {x:Rw}:Decidable (dR ws day x):=by unfold dR;infer_instance
abbrev Ls:=List (Str×Rw)
def fF(L:Ls):List (ah×Ys):=L.map λp=>(.inr p.1,p.2.enc)
def di(L:Ls)(nm:Str):Option Rw:=(L.find? λp=>decide (p.1=nm)).map (·.2)
def tL(L:Ls)(nm:Str)(x:Rw):Ls:=if (L.any λp=>decide (p.1=nm))=true then L.map (λp=>if p.1=nm then(p.1,x) else p) else L++[(nm,x)]
theorem jw{a b:Str}:((R9 a:ah)=R9 b)↔a=b:=⟨λh=>by cases h;rfl,λh=>by rw [h]⟩
theorem rg(nm:Str):∀L:Ls,fj (fF L) (.inr nm)=(di L nm).map Rw.enc
 | []=>rfl
 | p::L=>by
  have ih:=rg nm L;unfold fj di fF at*;by_cases h:p.1=nm
  ·simp [R7,h]
  ·have h':¬((R9 p.1:ah)=R9 nm):=λz=>h (jw.mp z);simp only [Rb,R7,decide_eq_false h,decide_eq_false h'];exact ih
theorem tM(L:Ls)(nm:Str)(x:Rw):dh (fF L) (.inr nm) x.enc=fF (tL L nm x):=by
 have ha:(fF L).any (λp=>decide (p.1=(R9 nm:ah)))=L.any λp=>decide (p.1=nm):=by
  unfold fF;rw [VT];congr 1;funext p;simp only [TJ,jw]
 unfold dh tL;rw [ha];split
 ·unfold fF;rw [RB,RB];apply Tx;intro p _;simp only [TJ,jw];split <;> rfl
 ·unfold fF;simp
structure dj (ws:List Str) (day:Int) (xs:List Rw) (L:Ls):Prop where
 nd:(L.map (·.1)).Nodup
 it:∀p∈L,p.1=p.2.nm/\p.2∈xs/\dR ws day p.2/\∀y∈xs,dR ws day y->y.nm=p.1->y.n<=p.2.n
 al:∀y∈xs,dR ws day y->∃p∈L,p.1=y.nm
 le:L.length<=xs.length
theorem dj.nil(ws:List Str)(day:Int):dj ws day [] []:=⟨List.nodup_nil,(λp h=>by cases h),(λp h=>by cases h),Rf _⟩
theorem ri{L:Ls}{nm:Str}{y:Rw}(h:di L nm=some y):∃p∈L,p.1=nm/\p.2=y:=by
 unfold di at h;cases e:L.find? (λp=>decide (p.1=nm)) with
 | none=>rw [e] at h;cases h
 | some p=>
  rw [e] at h;cases h;exact⟨p,Vm e,by simpa using VU e,rfl⟩
theorem Dk{L:Ls}{nm:Str}(h:di L nm=none):∀p∈L,p.1≠nm:=by
 intro p hp e;unfold di at h;rw [Option.map_eq_none_iff,TV] at h;exact h p hp (by simpa using e)
section
variable {ws:List Str} {day:Int} {xs:List Rw} {L:Ls} {x:Rw}
theorem dj.skip(h:dj ws day xs L)(hx:¬dR ws day x):dj ws day (xs++[x]) L:=by
 refine⟨h.nd,λp hp=>?_,λy hy ho=>?_,by have:=h.le;simp;omega⟩
 ·obtain⟨a,b,c,d⟩:=h.it p hp;refine⟨a,by simp [b],c,λy hy ho e=>?_⟩;rcases Ry.mp hy with z | z
  ·exact d y z ho e
  ·rw [RF] at z;subst z;exact absurd ho hx
 ·rcases Ry.mp hy with z | z
  ·exact h.al y z ho
  ·rw [RF] at z;subst z;exact absurd ho hx
theorem dj.keep(h:dj ws day xs L){y0:Rw}(hl:di L x.nm=some y0)(hn:¬y0.n < x.n):dj ws day (xs++[x]) L:=by
 obtain⟨p0,hp0,e0,rfl⟩:=ri hl;have uq:∀p∈L,p.1=x.nm->p=p0:=λp hp e=>by
  have nd:=h.nd;clear h hl hn
  induction L with
  | nil=>cases hp
  | cons q L ih=>
   rw [Rb,Ss] at nd;rcases Rh.mp hp with a | a <;> rcases Rh.mp hp0 with b | b
   ·rw [a,b]
   ·exact absurd (Rj.mpr ⟨p0,b,by rw [e0,<-e,a]⟩) nd.1
   ·exact absurd (Rj.mpr ⟨p,a,by rw [e,<-e0,b]⟩) nd.1
   ·exact ih b a nd.2
 refine⟨h.nd,λp hp=>?_,λy hy ho=>?_,by have:=h.le;simp;omega⟩
 ·obtain⟨a,b,c,d⟩:=h.it p hp;refine⟨a,by simp [b],c,λy hy ho e=>?_⟩;rcases Ry.mp hy with z | z
  ·exact d y z ho e
  ·rw [RF] at z;subst z;rw [uq p hp e.symm];omega
 ·rcases Ry.mp hy with z | z
  ·exact h.al y z ho
  ·rw [RF] at z;subst z;exact⟨p0,hp0,e0⟩
theorem dj.put(h:dj ws day xs L)(ho:dR ws day x)(hl:∀y,di L x.nm=some y->y.n < x.n):dj ws day (xs++[x]) (tL L x.nm x):=by
 unfold tL;split
 ·rename_i ha;obtain⟨p0,hp0,e0⟩:=T9.mp ha;have e0:p0.1=x.nm:=of_decide_eq_true e0;have hmx:∀y∈xs,dR ws day y->y.nm=x.nm->y.n<=x.n:=λy hy ho' e=>by
   cases hk:di L x.nm with
   | none=>exact absurd e0 (Dk hk p0 hp0)
   | some z=>
    obtain⟨p,hp,ep,rfl⟩:=ri hk;have:=(h.it p hp).2.2.2 y hy ho' (by rw [ep];exact e);have:=hl _ hk;omega
  refine⟨?_,λp hp=>?_,λy hy ho'=>?_,by have:=h.le;simp;omega⟩
  ·rw [RB,show((λp:Str×Rw=>p.1)∘ λp=>if p.1=x.nm then(p.1,x) else p)=λp=>p.1 by funext p;simp only [TJ];split <;> rfl];exact h.nd
  ·obtain⟨q,hq,rfl⟩:=Rj.mp hp;by_cases z:q.1=x.nm
   ·rw [Yp z];refine⟨z,Yr,ho,λy hy ho' e=>?_⟩;rcases Ry.mp hy with m | m
    ·exact hmx y m ho' (by rw [e];exact z)
    ·rw [RF] at m;subst m;exact Vg _
   ·rw [Yo z];obtain⟨a,b,c,d⟩:=h.it q hq;refine⟨a,by simp [b],c,λy hy ho' e=>?_⟩;rcases Ry.mp hy with m | m
    ·exact d y m ho' e
    ·rw [RF] at m;subst m;exact absurd e.symm z
  ·rcases Ry.mp hy with m | m
   ·obtain⟨p,hp,e⟩:=h.al y m ho';refine⟨_,Rj.mpr ⟨p,hp,rfl⟩,?_⟩;split <;> exact e
   ·rw [RF] at m;subst m;refine⟨_,Rj.mpr ⟨p0,hp0,rfl⟩,?_⟩;rw [Yp e0];exact e0
 ·rename_i ha;have hno:∀p∈L,p.1≠x.nm:=λp hp e=>ha (T9.mpr ⟨p,hp,decide_eq_true e⟩);refine⟨?_,λp hp=>?_,λy hy ho'=>?_,by have:=h.le;simp;omega⟩
  ·rw [RH];refine Vy.mpr ⟨h.nd,Yr,λa ha' b hb=>?_⟩;simp only [Rb,RX,RF] at hb;obtain⟨p,hp,rfl⟩:=Rj.mp ha';rw [hb];exact hno p hp
  ·rcases Ry.mp hp with m | m
   ·obtain⟨a,b,c,d⟩:=h.it p m;refine⟨a,by simp [b],c,λy hy ho' e=>?_⟩;rcases Ry.mp hy with z | z
    ·exact d y z ho' e
    ·rw [RF] at z;subst z;exact absurd e.symm (hno p m)
   ·rw [RF] at m;subst m;refine⟨rfl,Yr,ho,λy hy ho' e=>?_⟩;rcases Ry.mp hy with z | z
    ·obtain⟨p,hp,e'⟩:=h.al y z ho';exact absurd (e'.trans e) (hno p hp)
    ·rw [RF] at z;subst z;exact Vg _
  ·rcases Ry.mp hy with m | m
   ·obtain⟨p,hp,e⟩:=h.al y m ho';exact⟨p,by simp [hp],e⟩
   ·rw [RF] at m;subst m;exact⟨(y.nm,y),Yr,rfl⟩
end
structure dA (ws:List Str) (day:Int) (xs res:List Rw):Prop where
 up:(res.map (·.nm)).Pairwise λa b=>dM a b=true
 nd:(res.map (·.nm)).Nodup
 it:∀x∈res,x∈xs/\dR ws day x/\∀y∈xs,dR ws day y->y.nm=x.nm->y.n<=x.n
 al:∀y∈xs,dR ws day y->∃x∈res,x.nm=y.nm
 le:res.length<=xs.length
theorem wU{L:Ls}{nm:Str}(h:nm∈L.map (·.1)):∃x,di L nm=some x:=by
 cases e:di L nm with
 | some x=>exact⟨x,rfl⟩
 | none=>
  obtain⟨p,hp,e'⟩:=Rj.mp h;exact absurd e' (Dk e p hp)
def oJ(L:Ls):List Rw:=(jt (L.map (·.1))).filterMap (di L)
theorem Dm{ws:List Str}{day:Int}{xs:List Rw}{L:Ls}(h:dj ws day xs L):(oJ L).map (·.nm)=jt (L.map (·.1)):=by
 unfold oJ;have key:∀l:List Str,(∀a∈l,a∈L.map (·.1))->(l.filterMap (di L)).map (·.nm)=l:=by
  intro l
  induction l with
  | nil=>intro _;rfl
  | cons a l ih=>
   intro hl;obtain⟨x,hx⟩:=wU (hl a Yr);obtain⟨p,hp,e,rfl⟩:=ri hx;rw [Sr,hx];show p.2.nm::_=_;rw [ih λb hb=>hl b (by simp [hb]),<-(h.it p hp).1,e]
 exact key _ λa ha=>(j3 _).mem_iff.mp ha
theorem dj.res{ws:List Str}{day:Int}{xs:List Rw}{L:Ls}(h:dj ws day xs L):dA ws day xs (oJ L):=by
 have hn:=Dm h;refine⟨by rw [hn];exact CW _,by rw [hn];exact(j3 _).nodup_iff.mpr h.nd,λx hx=>?_,λy hy ho=>?_,by rw [<-Q8 (f:=λx:Rw=>x.nm),hn,(j3 _).length_eq,Q8];exact h.le⟩
 ·obtain⟨a,ha,e⟩:=TQ.mp hx;obtain⟨p,hp,e1,rfl⟩:=ri e;obtain⟨b1,b2,b3,b4⟩:=h.it p hp;exact⟨b2,b3,λy hy ho e=>b4 y hy ho (by rw [b1];exact e)⟩
 ·obtain⟨p,hp,e⟩:=h.al y hy ho;have:p.1∈(oJ L).map (·.nm):=by rw [hn];exact(j3 _).mem_iff.mpr (Rj.mpr ⟨p,hp,rfl⟩)
  obtain⟨x,hx,e'⟩:=Rj.mp this;exact⟨x,hx,e'.trans e⟩
theorem Lm(t:Y6)(n:Nat):(t.orStandIn n).led=t.led:=by unfold Xd;split <;> rfl
theorem Ln(t:Y6)(es:Array (Int×Yt))(h:Int)(x:Yt):(layNew t es h x).2.1.led=t.led:=by
 unfold layNew;split
 ·exact Lm _ _
 ·rfl
theorem Lo(t:Y6)(es:Array (Int×Yt))(n:Nat):(ZL t es n).2.1.led=t.led:=by
 unfold ZL XQ X1;cases Xp (Xe n - 1) (es.map (·.1)) with
 | none=>rfl
 | some ow=>simp only [bind,Yi,pure];split <;> rfl
abbrev gz(w:YF):Bool:=w.params.followText "set-order"
section
variable {P:YE} {w:YF} {A:YJ} {E:Yt->Yw->Prop} {s:Yw}
theorem Lp(a:Yt){Q₁:Yt->Yw->Prop}
 (h:Q₁ (.ref s.heap.objs.size) {s with heap:=s.heap.push {cls:= .type "set",dict:=none,data:= .set #[] 0 (.fresh 0 0 (!gz w))}}):
 Zf (YB P w) A (.call (.builtin "set.__new__") ⟨[.type "set",a],[]⟩) (wants Q₁ E) s:=by
 refine codeAny_of_tree ?_;show Yy _ A.in1 (checkBuiltinCall "set.__new__" ⟨[.type "set",a],[]⟩ >>=λ_=>again (.builtin "set.__new__" ⟨[.type "set",a],[]⟩)) _ _ s;refine Yv (Z1 (PySem.F.newCall_set_1 a) (Yx ⟨Zk WN _,Y7 PySem.F.entry_set_new ?_⟩));rw [Tt WN _];unfold Builtin.«set.__new__» Builtin.Frozenset.newClass;have hsb:=sub_set_self;obtain⟨hp,g,d,tk,os⟩:=s;dsimp only
 wp_walk
 refine Zh (Yx ?_);dsimp only;simp only [newObj];exact Yv (wpAny_alloc (Yx (Yx h)))
end
theorem jx:Slot "set_iterator" "__next__" "set_iterator.__next__":=
 .of (owner:="set_iterator") (n:="__next__") (by rw [typeLookup_type,ZS];kernel_rfl) cp cp cp
  (by first | exact .inl cp | exact .inr cp) (by rw [isSubtype_type];kernel_rfl)
theorem tN:entryFor table "set_iterator.__next__"=some Builtin.«set_iterator.__next__»:=entryFor_of_tree (by kernel_rfl)
theorem Dp:Manifest.owners.lookup (String.ofList ['r','o','t','a','r','e','t','i','_','t','e','s'].reverse)=some Manifest.sig_set_iterator:=by kernel_rfl
theorem tO(a:Yt):argsOk "set_iterator.__next__" ⟨[a],[]⟩:=by
 unfold argsOk;rw [signature?_of (id:="set_iterator.__next__") (n:=['_','_','t','x','e','n','_','_']) (o:=['r','o','t','a','r','e','t','i','_','t','e','s']) (by kernel_rfl) Dp];kernel_rfl
theorem Lq:entryFor table "set.__iter__"=some Builtin.«frozenset.__iter__»:=entryFor_alias (id':="frozenset.__iter__") (by kernel_rfl) rfl cp (by kernel_rfl)
theorem wV{α:Type}:∀{l:List α}{i:Nat}(h:i < l.length),(l[i]::l.eraseIdx i).Perm l
 | a::l,0,h=>.refl _
 | a::l,i+1,h=>by
  have:=wV (l:=l) (i:=i) (by simpa using h);simp only [List.getElem_cons_succ,List.eraseIdx_cons_succ];exact(List.Perm.swap _ _ _).trans (this.cons a)
theorem Dq{α:Type}(next:Nat->Nat):∀(f k:Nat)(left:List α)(out:Array α),f=left.length->(pickOrder.go next f k left out).toList.Perm (out.toList++left)
 | 0,k,left,out,e=>by
  rw [VX e.symm];unfold pickOrder.go;simp
 | f+1,k,left,out,e=>by
  unfold pickOrder.go;have hlt:next k % left.length < left.length:=Nat.mod_lt _ Yn;rw [RG hlt];refine(Dq next f (k+1) _ _ (by rw [V9 hlt];omega)).trans ?_;rw [Xq,UW];exact List.Perm.append_left _ (wV hlt)
theorem Lr{α:Type}(next:Nat->Nat)(xs:Array α):(Z3 next xs).toList.Perm xs.toList:=by
 have:=Dq next xs.size 0 xs.toList #[] Yr;simpa [Z3] using this
section
variable {P:YE} {w:YF} {A:YJ} {E:Yt->Yw->Prop}
theorem Dr{α:Type}:∀(n:Nat)(xs:List α)(s:Yw)(Q:List α->Yw->Prop),n=xs.length->(∀ys d,ys.Perm xs->Q ys {s with drawn:=d})->Yy (YB P w) A (drawOrder n xs) Q E s
 | 0,xs,s,Q,e,q=>by
  rw [VX e.symm] at q⊢;unfold drawOrder;exact Yx (q [] s.drawn (.refl _))
 | n+1,[],s,Q,e,q=>by cases e
 | n+1,x::xs,s,Q,e,q=>by
  unfold drawOrder;refine Yv ?_;intro Γ p hΓ;refine⟨Yr,?_⟩;generalize hi:(YB P w).w.draws .order (s.drawn.get .order)% (x::xs).length=i;have hlt:i < (x::xs).length:=by rw [<-hi];exact Nat.mod_lt _ Yr
  have key:Yy (YB P w) A (match (x::xs)[i]? with | some y=>(do return y::(<-drawOrder n ((x::xs).eraseIdx i))) | none=>unsupported "internal:drawOrder") Q E {s with drawn:=s.drawn.bump .order}:=by
   rw [RG hlt];refine Yv (Dr n _ _ _ (by rw [V9 hlt];simp at e⊢;omega) λys d hp=>Yx (q _ d ?_));exact(hp.cons _).trans (wV hlt)
  exact key
end
def gA(h:YG)(it:Yu)(f:Yt)(i:Nat)(a:Yu)(n ep:Nat):Prop:=∃o,h.get? it=some o/\o.cls= .type "set_iterator"/\o.data= .fields #[f,.int i 0,.ref a,.int n 0,.int ep 0]
theorem gA.typeIs{s:Yw}{it f i a n ep}(x:gA s.heap it f i a n ep):s.TypeIs (.ref it) "set_iterator":=let ⟨o,h,c,_⟩:=x;⟨o,h,c⟩
section
variable {P:YE} {w:YF} {A:YJ} {E:Yt->Yw->Prop} {s:Yw} {a:Yu} {o:Obj} {es:Array (Int×Yt)} {ep:Nat} {t:Y6}
theorem Ds{slot i:Nat}{Q:Option (Yt×Nat)->Yw->Prop}(hb:gz w=true)(o1:s.heap.get? a=some o)(d1:o.data= .set es ep t)(f1:t.fits es.size=true)
 (h:Q (((Z3 (w.params.setOrder a ep) es)[i]?).map λe=>(e.2,slot)) s):Yy (YB P w) A (ZH a slot i ep) Q E s:=by
 unfold ZH setWalk setsByText;refine Yv (Ze o1 d1 f1 (Yv (Yv (Zh (Yx ?_)))));rw [Yp (show(YB P w).w.params.followText "set-order"=true from hb)];rw [Yo Yr];refine Yv (Yv (Ze o1 d1 f1 (Yv (Yv (Zh (Yx ?_))))));rw [Yp (show(YB P w).w.params.followText "set-order"=true from hb)];exact Yv (Zh (Yx (Yx h)))
theorem Lu{it:Yu}{slot slot' i:Nat}{x:Yt}{Q:Option Yt->Yw->Prop}(hit:gA s.heap it (.int slot 0) i a es.size ep)(o1:s.heap.get? a=some o)(d1:o.data= .set es ep t)(f1:t.fits es.size=true)
 (nx:∀E' Q',Q' (some (x,slot')) s->Yy (YB P w) A.in1 (ZH a slot i ep) Q' E' s)
 (hQ:∀h',gA h' it (.int slot' 0) (i+1) a es.size ep->T2 it s.heap h'->Q (some x) {s with heap:=h'}):Yy (YB P w) A (Zl (.ref it)) Q E s:=by
 obtain⟨u,u1,c1,e1⟩:=id hit;unfold Zl;refine Yv (ZK (Zj (name:=Q6 "__next__") hit.typeIs jx (Y0 jx hit.typeIs tN ?_ (tO _))));unfold Builtin.«set_iterator.__next__»;refine Yv (m:=slotArgs _ _ _) (Yx (Yv (ZY u1 e1 ?_)));show Yy _ _ (setEntries a >>=_) _ _ s;refine Yv (Zi o1 d1 f1 ?_);rw [Yo Yr];show Yy _ _ (ZH a ((slot:Int)).toNat ((i:Int)).toNat ((ep:Int)).toNat >>=_) _ _ s;simp only [T5];refine Yv (nx _ _ ?_);show Yy _ _ (setField (.ref it) 0 (Zq (slot':Int)) >>=_) _ _ s;refine Yv (Zr u1 e1 Yr ?_);have g1:=Tf (X2 (·.setIfInBounds 0 (Zq (slot':Int)))) u1 (U2 (Tj e1 _));have k1:=Tj e1 (·.setIfInBounds 0 (Zq (slot':Int)));refine Yv (Zr g1 k1 Yr (Yx ⟨x,rfl,Yx (hQ _ ?_ ((Sn ..).trans (Sn ..)))⟩));refine⟨_,Tf _ g1 (U2 (Tj k1 _)),(Wg ..).trans ((Wg ..).trans c1),?_⟩;rw [Tj k1];simp [Zq]
theorem Lv{it pl:Yu}{i k:Nat}{hk:Int}{x:Yt}{ol:Obj}{ps:Array Yt}{nl:Nat}{Q:Option Yt->Yw->Prop}(hit:gA s.heap it (.ref pl) i a es.size ep)(o1:s.heap.get? a=some o)(d1:o.data= .set es ep t)(f1:t.fits es.size=true)
 (l1:s.heap.get? pl=some ol)(l2:ol.data= .seq ps nl)(p1:ps[i]?=some (.int (k:Int) 0))(x1:es[k]?=some (hk,x))
 (hQ:∀h',gA h' it (.ref pl) (i+1) a es.size ep->T2 it s.heap h'->Q (some x) {s with heap:=h'}):Yy (YB P w) A (Zl (.ref it)) Q E s:=by
 obtain⟨u,u1,c1,e1⟩:=id hit;unfold Zl;refine Yv (ZK (Zj (name:=Q6 "__next__") hit.typeIs jx (Y0 jx hit.typeIs tN ?_ (tO _))));unfold Builtin.«set_iterator.__next__»;refine Yv (m:=slotArgs _ _ _) (Yx (Yv (ZY u1 e1 ?_)));show Yy _ _ (setEntries a >>=_) _ _ s;refine Yv (Zi o1 d1 f1 ?_);rw [Yo Yr];show Yy _ _ (seqItems? (.ref pl) >>=_) _ _ s;refine Yv (wpAny_seqItems l1 l2 ?_);simp only [T5,p1];refine Yv ?_;unfold setNextDrawn;refine Yv (Ze o1 d1 f1 ?_);simp only [T5];rw [Yo Yr,x1];refine Yx (Yv (Zr u1 e1 Yr (Yx ⟨x,rfl,Yx (hQ _ ?_ (Sn ..))⟩)));refine⟨_,Tf _ u1 (U2 (Tj e1 _)),(Wg ..).trans c1,?_⟩;rw [Tj e1];simp [Zq]
theorem Lw{it:Yu}{slot i:Nat}{Q:Option Yt->Yw->Prop}(hh:A.handled=none)(hit:gA s.heap it (.int slot 0) i a es.size ep)(o1:s.heap.get? a=some o)(d1:o.data= .set es ep t)(f1:t.fits es.size=true)
 (nx:∀E' Q',Q' none s->Yy (YB P w) A.in1 (ZH a slot i ep) Q' E' s)
 (hQ:∀h',Yj it s.heap h'->Q none {s with heap:=h'}):Yy (YB P w) A (Zl (.ref it)) Q E s:=by
 obtain⟨u,u1,c1,e1⟩:=id hit;unfold Zl;refine Yv (ZK (Zj (name:=Q6 "__next__") hit.typeIs jx (Y0 jx hit.typeIs tN ?_ (tO _))));unfold Builtin.«set_iterator.__next__»;refine Yv (m:=slotArgs _ _ _) (Yx (Yv (ZY u1 e1 ?_)));show Yy _ _ (setEntries a >>=_) _ _ s;refine Yv (Zi o1 d1 f1 ?_);rw [Yo Yr];show Yy _ _ (ZH a ((slot:Int)).toNat ((i:Int)).toNat ((ep:Int)).toNat >>=_) _ _ s;simp only [T5];refine Yv (nx _ _ ?_);show Yy _ _ (setField (.ref it) 2 .none >>=_) _ _ s;refine Yv (Zr u1 e1 Yr ?_);refine Yv (m:=newExc (.type "StopIteration") []) ?_;simp only [newExc,newTuple];refine Yv (YV ?_ (by size_fits));refine Yv (m:=ZZ _ _) (Z1 (a:=TY) (by first | rfl | (simp only [ZZ];rfl)) ?_);refine YV ?_ (by size_fits);simp only [raiseNew];refine Yv (wpAny_handled ?_);rw [show A.in1.handled=none from hh];refine Yv (Yx (wpAny_throw ?_));refine Yv (Z8 (T:="StopIteration") (b:=true) ⟨_,RJ _ rfl,rfl⟩ isSubtype_stop ?_);exact Yx (hQ _ (((Sn ..).extBut.push _).push _))
theorem Lx{it pl:Yu}{i:Nat}{ol:Obj}{ps:Array Yt}{nl:Nat}{Q:Option Yt->Yw->Prop}(hh:A.handled=none)(hit:gA s.heap it (.ref pl) i a es.size ep)(o1:s.heap.get? a=some o)(d1:o.data= .set es ep t)(f1:t.fits es.size=true)
 (l1:s.heap.get? pl=some ol)(l2:ol.data= .seq ps nl)(p1:ps[i]?=none)
 (hQ:∀h',Yj it s.heap h'->Q none {s with heap:=h'}):Yy (YB P w) A (Zl (.ref it)) Q E s:=by
 obtain⟨u,u1,c1,e1⟩:=id hit;unfold Zl;refine Yv (ZK (Zj (name:=Q6 "__next__") hit.typeIs jx (Y0 jx hit.typeIs tN ?_ (tO _))));unfold Builtin.«set_iterator.__next__»;refine Yv (m:=slotArgs _ _ _) (Yx (Yv (ZY u1 e1 ?_)));show Yy _ _ (setEntries a >>=_) _ _ s;refine Yv (Zi o1 d1 f1 ?_);rw [Yo Yr];show Yy _ _ (seqItems? (.ref pl) >>=_) _ _ s;refine Yv (wpAny_seqItems l1 l2 ?_);simp only [T5,p1];show Yy _ _ (setField (.ref it) 0 (Zq 0) >>=_) _ _ s;refine Yv (Zr u1 e1 Yr ?_);have g1:=Tf (X2 (·.setIfInBounds 0 (Zq 0))) u1 (U2 (Tj e1 _));have k1:=Tj e1 (·.setIfInBounds 0 (Zq 0));refine Yv (Zr g1 k1 Yr ?_);refine Yv (m:=newExc (.type "StopIteration") []) ?_;simp only [newExc,newTuple];refine Yv (YV ?_ (by size_fits));refine Yv (m:=ZZ _ _) (Z1 (a:=TY) (by first | rfl | (simp only [ZZ];rfl)) ?_);refine YV ?_ (by size_fits);simp only [raiseNew];refine Yv (wpAny_handled ?_);rw [show A.in1.handled=none from hh];refine Yv (Yx (wpAny_throw ?_));refine Yv (Z8 (T:="StopIteration") (b:=true) ⟨_,RJ _ rfl,rfl⟩ isSubtype_stop ?_);exact Yx (hQ _ ((((Sn ..).trans (Sn ..)).extBut.push _).push _))
end
theorem Du:Slot "set_iterator" "__iter__" "set_iterator.__iter__":=
 .of (owner:="set_iterator") (n:="__iter__") (by rw [typeLookup_type,ZS];kernel_rfl) cp cp cp
  (by first | exact .inl cp | exact .inr cp) (by rw [isSubtype_type];kernel_rfl)
theorem Ly:entryFor table "set_iterator.__iter__"=some Builtin.«dict_keyiterator.__iter__»:=entryFor_alias (id':="dict_keyiterator.__iter__") (by kernel_rfl) rfl cp (by kernel_rfl)
theorem Lz(a:Yt):argsOk "set_iterator.__iter__" ⟨[a],[]⟩:=by
 unfold argsOk;rw [signature?_of (id:="set_iterator.__iter__") (n:=['_','_','r','e','t','i','_','_']) (o:=['r','o','t','a','r','e','t','i','_','t','e','s']) (by kernel_rfl) Dp];kernel_rfl
theorem gA.at{h h':YG}{it f i a n ep}(x:gA h it f i a n ep)(e:∀o,h.get? it=some o->h'.get? it=some o):gA h' it f i a n ep:=let ⟨o,ho,r⟩:=x;⟨o,e _ ho,r⟩
section
variable {P:YE} {w:YF} {A:YJ} {E:Yt->Yw->Prop} {s:Yw} {a:Yu} {o:Obj} {es:Array (Int×Yt)} {ep:Nat} {t:Y6}
theorem Dv{it:Yu}{f:Yt}{i n:Nat}{Q:Yt->Yw->Prop}(hit:gA s.heap it f i a n ep)(h:Q (.ref it) s):Yy (YB P w) A (pyIter (.ref it)) Q E s:=by
 refine wpAny_pyIter_slot hit.typeIs Du (Y0 Du hit.typeIs Ly ?_ (Lz _));exact Yv (m:=slotArgs _ _ _) (Yx (Yx ⟨_,rfl,"set_iterator",_,hit.typeIs,jx.lookup,h⟩))
theorem Dw(hh:A.handled=none)(it:Yu)(hne:a≠it)(d1:o.data= .set es ep t)(f1:t.fits es.size=true)(vs:List Yt)(hl:vs.length=es.size)(sl:Nat->Nat)
 (nx:∀(s:Yw) (i:Nat) (h:i < vs.length) E' Q',s.heap.get? a=some o->Q' (some (vs[i],sl (i+1))) s->Yy (YB P w) A.in1 (ZH a (sl i) i ep) Q' E' s)
 (nd:∀(s:Yw) E' Q',s.heap.get? a=some o->Q' none s->Yy (YB P w) A.in1 (ZH a (sl es.size) es.size ep) Q' E' s):
 Walks P w A it [it,a] [it] es.size (λi v=>vs[i]?=some v) (λi h=>gA h it (.int (sl i:Nat) 0) i a es.size ep/\h.get? a=some o) where
 sub:=λb hb=>by rw [RF] at hb;simp [hb]
 frame:=λ_ _ _ st hk=>⟨st.1.at λo e=>hk it Yr o e,hk a Yr o st.2⟩
 item:=λi s Q E hi st hQ=>by
  have hi':i < vs.length:=Yn
  refine Lu st.1 st.2 d1 f1 (λE' Q' q=>nx s i hi' E' Q' st.2 q) λh' it' sb=>?_;exact hQ _ h' s.toks (by simp [hi']) ⟨it',by rw [sb.2 a hne];exact st.2⟩ λb u hb e=>sb.extBut b u (λz=>hb (by simp [z])) e
 done:=λs Q E st hQ=>Lw hh st.1 st.2 d1 f1 (λE' Q' q=>nd s E' Q' st.2 q) λh' he=>hQ h' s.toks λb u hb e=>he b u (λz=>hb (by simp [z])) e
 self:=λ_ _ _ _ st hQ=>Dv st.1 hQ
theorem LA(hh:A.handled=none)(it pl:Yu)(hne:a≠it)(hnp:pl≠it)(d1:o.data= .set es ep t)(f1:t.fits es.size=true)(vs:List Yt)(ks:List Nat){ol:Obj}{nl:Nat}(l2:ol.data= .seq (ks.map λ(k:Nat)=>TN (k:Int) 0).toArray nl)
 (hl:ks.length=es.size)(hv:∀i k:Nat,ks[i]?=some k->∃h x,es[k]?=some (h,x)/\vs[i]?=some x):
 Walks P w A it [it,a,pl] [it] es.size (λi v=>vs[i]?=some v) (λi h=>gA h it (.ref pl) i a es.size ep/\h.get? a=some o/\h.get? pl=some ol) where
 sub:=λb hb=>by rw [RF] at hb;simp [hb]
 frame:=λ_ _ _ st hk=>⟨st.1.at λo e=>hk it Yr o e,hk a Yr o st.2.1,hk pl Yr ol st.2.2⟩
 item:=λi s Q E hi st hQ=>by
  have hi':i < ks.length:=Yn
  obtain⟨h,x,e1,e2⟩:=hv i ks[i] (by simp [hi']);refine Lv st.1 st.2.1 d1 f1 st.2.2 l2 (k:=ks[i]) (by simp [hi']) e1 λh' it' sb=>?_;exact hQ _ h' s.toks e2 ⟨it',by rw [sb.2 a hne];exact st.2.1,by rw [sb.2 pl hnp];exact st.2.2⟩ λb u hb e=>sb.extBut b u (λz=>hb (by simp [z])) e
 done:=λs Q E st hQ=>Lx hh st.1 st.2.1 d1 f1 st.2.2 l2 (by simp [hl]) λh' he=>hQ h' s.toks λb u hb e=>he b u (λz=>hb (by simp [z])) e
 self:=λ_ _ _ _ st hQ=>Dv st.1 hQ
end
section
variable {P:YE} {w:YF} {A:YJ} {E:Yt->Yw->Prop} {s:Yw} {a:Yu}
theorem LB{Q:Bool->Yw->Prop}(hT:s.TypeIs (.ref a) "set")(h:Q false s):Yy (YB P w) A (V3 (.ref a)) Q E s:=by
 unfold V3;refine Yv (wpAny_specialOf hT PySem.F.slot_set_len.lookup ?_);generalize hid:("set.__len__":String)=id0
 wp_delta
 rw [show splitId id0=some ("set","__len__") from by subst hid;decide+kernel];subst hid;refine Yv (Z8 (T:="set") (b:=true) hT (by rw [isSubtype_type];kernel_rfl) ?_);refine ZV (λz=>absurd z Ym) (λ_=>?_);refine ZV (λ_=>?_) (λz=>absurd cp z);exact Yv (wpAny_typeOf hT (Yx h))
end
theorem af.drw{X:Cx}{aaa:List (Yu×Obj)}{σ:List (Option V)}{H:Hp}{s:Yw}{d:Drawn}(I:af X aaa σ H s):af X aaa σ H {s with drawn:=d}:=⟨I.ok,I.os,I.bare,I.base,I.loc,I.cell,I.free,I.freeC,I.pin,I.hok,I.len⟩
theorem LC:YS "set"=some (.type "set"):=cp
section
variable {X:Cx} {H0:Hp} {O0:Ex}
def l8(i:Nat)(t:DA):DS:=λE δ=>∃ds,δ[i]?=some (some (.o ds))/\t δ λes=>ds.length+es.length<=YC/\E.nx (δ.set i (some (.o (ds++es))))
theorem tP{i:Nat}{o e:YA}{t:DA}{apos cpos pos:Pos}(ho:PE X o (cA i))(he:FE X H0 O0 e t)(hbase:YX o "extend" X.env (eval o X.env)=eval o X.env:=by rfl)
 (hfew:((YM cpos (Yz [e] X.env)).all (λx=>!x.1) && (Zd cpos (Y1 [] X.env)).all (λx=>x.1.isSome) && decide ([e].length+([]:List Zc).length+(if ([]:List Zc).isEmpty then 0 else 1) < 30))=true:=by rfl)
 (hline:(apos.endLine==cpos.line)=true:=by rfl)(hst:Yz [e] X.env=(false,eval e X.env)::Yz [] X.env:=by rfl)(hplain:(YM cpos (Yz [] X.env)).any (·.1)=false:=by rfl)
 (hs:YN (.Call (.Attribute o "extend" apos) [e] [] cpos) none pos.line X.env=pure false:=by rfl):PS X (.Expr (.Call (.Attribute o "extend" apos) [e] [] cpos) pos) (bg X.K H0 O0 (l8 i t)):=
 (sh (sU Vu Vr Wr Jr ho (bA he cb hst) hbase hfew hline hst hplain) hs).imp λD σ H uu13=>by
  obtain⟨O,δ,E,w,⟨ds,e,q⟩,k1,k2,k3,k4⟩:=uu13;obtain⟨l,vs,h,a,b,c,r⟩:=w.own e;refine⟨_,h,.inl ⟨rfl,_,bq.of c⟩,O,δ,_,w,q,λes ws p H1 q1 s1 hp r1=>?_⟩;have hl:H1 l=some (.lst vs):=s1 _ _ c;have np:l≠p:=λz=>by rw [z,hp] at hl;cases hl
  have S2:ar H1 (ai H1 p (.lst ws)):=ar.new hp;refine⟨l,p,vs,ws,rfl,rfl,by rw [az np];exact hl,bh,by rw [r.length,r1.length];exact q1.1,?_⟩;exact k1 _ _ _ _ q1.2 (((w.mono s1).mono S2).putO (vs:=vs) e h (((r.mono s1).mono S2).append (r1.mono S2))) ⟨λb' o' z n=>by rw [az (λy=>n (by rw [y];exact a))];exact S2 _ _ (s1 _ _ z),λ_ _ n=>n⟩
end
theorem Dx:∀{ns:List Int}{us:List Yt},aH (ns.map V.int) us->YT us ns
 | [],_,r=>by rw [RX] at r;cases r;exact .nil
 | n::ns,_,r=>by
  rw [Rb] at r;cases r with
  | cons r1 r2=>obtain⟨t,rfl⟩:=r1;exact .cons n t (Dx r2)
theorem ak.intsL{K:Q7}{H:Hp}{O:Ex}:∀{ns:List Int}{vs:List V},ak K H O vs (ns.map Rg)->vs=ns.map V.int
 | [],_,r=>by rw [RX] at r;cases r;rfl
 | b::bs,_,r=>by
  rw [Rb] at r;cases r with
  | cons h r=>cases h;rw [Rb,ak.intsL r]
theorem Wd.frzK{K:Q7}{H0 H:Hp}{O0 O:Ex}{σ:St}{δ:Dl}(w:Wd K H0 O0 H O σ δ){i:Nat}{l:Yu}{y0:Sl}(e:δ[i]?=some (some y0))(ho:y0.own)(h:σ[i]?=some (some (.ref l)))(u:HO):
 ∃O',Wd K H0 O0 (ai H l u) O' σ (δ.set i none)/\aM H (ai H l u) O O'/\¬O' l:=by
 obtain⟨l',x1,a,b⟩:=w.adr e ho;rw [h] at x1;cases x1;have l0:H0 l=none:=(w.new l a).resolve_left b;have S:aM H (ai H l u) O (λx=>O x/\x≠l):=⟨λc q z n=>by rw [az (λy=>n (by rw [y];exact a))];exact z,λ_ _ n z=>n z.1⟩;have li:i < δ.length:=(Rm.mp e).1;have ne:∀{j:Nat}{y:Sl},(δ.set i none)[j]?=some (some y)->j≠i:=λ{j y} q z=>by
  subst z;rw [RL li] at q;cases q
 refine⟨_,⟨λc q z=>?_,λx z=>⟨w.sub x z,λy=>b (by rw [<-y];exact z)⟩,λx z=>w.new x z.1,λx z=>by rw [az z.2];exact w.trk x z.1,by simp [w.len],λj y q=>?_,λj k y z l' e1 y1 e2 z2 e3 e4=>?_⟩,S,λz=>z.2 rfl⟩
 ·have:c≠l:=λy=>by rw [y,l0] at z;cases z
  rw [az this];exact w.same c q z
 ·by_cases hj:j=i
  ·subst hj;rw [RL li] at q;cases q;exact S9
  ·rw [Rr (Ne.symm hj)] at q;refine(w.sl j y q).go S (λb o ho' e' a1 a2 a3=>?_) (λb o u a1 a2 a3=>by have nb:b≠l:=λz=>w.nofrz e ho h o u (by rw [<-z];exact a3);exact⟨⟨a1,nb⟩,by rw [az nb];exact a3⟩) λc o a1 a3=>by rw [az (λz=>b (by rw [<-z];exact a1))];exact a3
   have nb:b≠l:=λz=>by
    subst z
    match y,ho',q with
    | some z,ho',q=>exact hj (w.dis j i z y0 _ q (by cases z <;> first | trivial | cases ho') e ho (fL e') h)
   exact⟨⟨a1,nb⟩,by rw [az nb];exact a3⟩
 ·have n1:=ne e1;have n2:=ne e2;rw [Rr (Ne.symm n1)] at e1;rw [Rr (Ne.symm n2)] at e2;exact w.dis j k _ _ l' e1 y1 e2 z2 e3 e4
def jy:List (DT×DT)->Dl->(List (Ys×Ys)->Prop)->Prop
 | [],_,Q=>Q []
 | (a,b)::r,δ,Q=>a δ λx=>b δ λy=>jy r δ λps=>Q ((x,y)::ps)
inductive l9 (K:Q7) (H:Hp) (O:Ex):List (V×V)->List (Ys×Ys)->Prop
 | nil:l9 K H O [] []
 | cons {a b:V} {x y:Ys} {r s}:Dt K H O a x->Dt K H O b y->l9 K H O r s->l9 K H O ((a,b)::r) ((x,y)::s)
theorem Dy{K:Q7}{H0:Hp}{O0 O:Ex}{σ:St}{δ:Dl}:∀(trs:List (DT×DT)){H:Hp}{Qd:List (Ys×Ys)->Prop}{R:List (V×V)->Hp->Prop},Wd K H0 O0 H O σ δ->jy trs δ Qd->(∀ds vs H',Qd ds->ar H H'->l9 K H' O vs ds->R vs H')->tF (trs.map λp=>(up K H0 O0 p.1,up K H0 O0 p.2)) σ H R
 | [],H,Qd,R,w,q,k=>k [] [] H q (ar.refl _) .nil
 | (a,b)::r,H,Qd,R,w,q,k=>by
  refine⟨O,δ,_,w,q,λx v H1 q1 s1 r1=>⟨O,δ,_,w.mono s1,q1,λy u H2 q2 s2 r2=>?_⟩⟩;exact Dy r ((w.mono s1).mono s2) q2 λds vs H3 q3 s3 r3=>k _ _ H3 q3 ((s1.trans s2).trans s3) (.cons (r1.mono (s2.trans s3)) (r2.mono s3) r3)
theorem Dt.free{K:Q7}{H H':Hp}{O O':Ex}{v:V}{d:Ys}(h:Dt K H O v d)(s:jk d=true):Dt K H' O' v d:=by
 cases h <;> first | exact .non | exact .bl _ | exact .int _ | exact .str _ | cases s
theorem l9.kd{K:Q7}{H H':Hp}{O:Ex}:∀{kd:List (ah×Ys)}{ps:List (V×V)},l9 K H O ps (kd.map λp=>(jv p.1,p.2))->(∀p∈kd,jk p.2=true)->∃kv:List (ah×V),ps=kv.map (λp=>(kV p.1,p.2))/\br K H' O kv kd
 | [],_,h,_=>by cases h;exact⟨[],rfl,.nil⟩
 | p::kd,_,h,sc=>by
  cases h with
  | cons a b r=>
   obtain⟨kv,e,k⟩:=l9.kd r λq hq=>sc q (Ru _ hq);have:=a.key;exact⟨(p.1,_)::kv,by rw [e,this];rfl,.cons (b.free (sc p RD)) k⟩
theorem br.merge{K:Q7}{H:Hp}{O:Ex}{more:List (ah×V)}{md:List (ah×Ys)}(h:br K H O more md):∀{kv:List (ah×V)}{kd:List (ah×Ys)},br K H O kv kd->br K H O (iV kv more) (md.foldl (λa p=>dh a p.1 p.2) kd):=by
 induction h with
 | nil=>intro kv kd r;exact r
 | cons a _ ih=>intro kv kd r;exact ih (r.put _ a)
section
variable {X:Cx} {H0:Hp} {O0:Ex}
def me(trs:List (DT×DT)):j4:=λδ Q=>jy trs δ λps=>∃kd:List (ah×Ys),ps=kd.map (λp=>(jv p.1,p.2))/\kd.length<=15/\(∀p∈kd,jk p.2=true)/\Q (kd.foldl (λa p=>dh a p.1 p.2) [])
def tQ(X:Cx)(H0:Hp)(O0:Ex)(pos:Pos)(keys:List (Option YA))(values:List YA)(trs:List (DT×DT)):Prop:=qW X pos keys values (trs.map λp=>(up X.K H0 O0 p.1,up X.K H0 O0 p.2))
theorem LD{pos:Pos}:tQ X H0 O0 pos [] [] []:=Kz
theorem Dz{pos:Pos}{k v:YA}{ks:List (Option YA)}{vs:List YA}{tk tv:DT}{trs:List (DT×DT)}(hk:DE X H0 O0 k tk)(hv:DE X H0 O0 v tv)(hr:tQ X H0 O0 pos ks vs trs):tQ X H0 O0 pos (some k::ks) (v::vs) ((tk,tv)::trs):=KA hk hv hr
theorem LF{pos:Pos}{keys:List (Option YA)}{values:List YA}{trs:List (DT×DT)}(h:tQ X H0 O0 pos keys values trs)(hall:keys.all (·.isSome)=true:=by rfl)(hl:keys.length=values.length:=by rfl)(h0:keys≠[]:=by exact List.cons_ne_nil _ _)(h15:keys.length<=15:=by exact Nat.le_of_ble_eq_true rfl):KE X H0 O0 (.Dict keys values pos) (me trs):=
 (KD h hall hl h0 h15).imp λσ H Q ⟨O,δ,Qd,w,q,k⟩=>λp hp=>by
  refine Dy trs (w.mono (ar.new hp)) q λds vs H2 ⟨kd,e,n,sc,q2⟩ s2 r2=>?_;subst e;have hp2:H2 p=some (.dK []):=s2 _ _ bh;obtain⟨kv,e,r⟩:=l9.kd (H':=λb=>if b=p then none else H2 b) r2 sc;refine⟨hp2,kv,e,by rw [r.length];exact n,?_⟩;have eu:ai H2 p (.dK (iV [] kv))=ai (λb=>if b=p then none else H2 b) p (.dK (iV [] kv)):=by
   funext b;unfold ai;split
   ·rfl
   ·rename_i hb;exact(Yo hb).symm
  rw [eu];refine k _ _ p _ q2 (λb o z=>?_) (Yp rfl) (r.merge .nil);have:b≠p:=λy=>by rw [y,hp] at z;cases z
  show(if b=p then none else H2 b)=some o;rw [Yo this];exact s2 _ _ (by rw [az this];exact z)
def LG(i j k:Nat)(ta:TA):TS:=λD σ H=>ta σ H λvs H1=>∃v w z,vs=[v,w,z]/\D.nx (((σ.set i (some v)).set j (some w)).set k (some z)) H1
theorem LH{i j k:Nat}{x y z:Str}{a b c:YA}{ta:TA}{px py pz pt pos:Pos}{kt k2 pt2}(hc:X.calm=true)(hN:X.N.Nodup)(hi:X.N[i]?=some x)(hj:X.N[j]?=some y)(hk:X.N[k]?=some z)(hij:i≠j)(hik:i≠k)(hjk:j≠k)
 (hx:X.env.scope.names.lookup x=some .local)(hy:X.env.scope.names.lookup y=some .local)(hz:X.env.scope.names.lookup z=some .local)(ha:PA X [a,b,c] ta)
 (hw:Zv [.Tuple [.Name x px,.Name y py,.Name z pz] kt pt] (.Tuple [a,b,c] k2 pt2) X.env=pure (some [x,y,z]))
 (hs:Zu [.Tuple [.Name x px,.Name y py,.Name z pz] kt pt] (.Tuple [a,b,c] k2 pt2) pos.line X.env=pure false:=by rfl):
 PS X (.Assign [.Tuple [.Name x px,.Name y py,.Name z pz] kt pt] (.Tuple [a,b,c] k2 pt2) pos) (LG i j k ta):=by
 intro aaa s σ H D I h;rw [exec_Assign_arm];refine Yv (Z4 ?_);rw [hs];refine Yv (Yx ?_);rw [Yo Ym];refine Yv (Tuple_ (aA (ha _ aaa s σ H _ I h) λus s1 ⟨vs,H1,I1,r1,q1⟩=>?_));obtain⟨v,w,v3,e1,q1⟩:=q1;subst e1;obtain⟨u1,u2,u3,rfl,rv,rw2,rw3⟩:∃u1 u2 u3,us=[u1,u2,u3]/\aC v u1/\aC w u2/\aC v3 u3:=by
  cases r1 with
  | cons p q=>cases q with | cons p' q'=>cases q' with | cons p2 q2=>cases q2;exact⟨_,_,_,rfl,p,p',p2⟩
 refine YV ?_ (by show 3<=YC;decide);have I2:af X aaa σ H1 {s1 with heap:=s1.heap.push {cls:= .type "tuple",data:= .seq [u1,u2,u3].toArray}}:=I1.kept (t':=s1.toks) λb o e=>Rc _ e;rw [hw];refine Yv (Yx ?_);show Yy (YB X.prog X.w) X.A (do rule "assign.swapped-stores";let items<-unpackItems (.ref s1.heap.objs.size) 3 none;ZJ [λv=>Zs X.env z v,λv=>Zs X.env y v,λv=>Zs X.env x v] items.reverse;pure W9) _ _ _;refine Yv (ZE (Yv (unpackItems_tuple (items:=#[u1,u2,u3]) (I.ok.hd hc) (XY s1.heap _) λh' hx'=>?_)));have I3:=I2.kept (h':=h') (t':=s1.toks) λb o e=>hx' b o (RI (Rx e)) e;show Yy _ _ (ZJ [λv=>Zs X.env z v,λv=>Zs X.env y v,λv=>Zs X.env x v] [u3,u2,u1] >>=λ_=>pure W9) _ _ _;refine Yv (Y9 (ZF (mR I3 hN hk (.inl hz) rw3 (λs2 I4=>?_) (.inr hz))));refine Y9 (ZF (mR I4 hN hj (.inl hy) rw2 (λs3 I5=>?_) (.inr hy)));refine Y9 (ZF (mR I5 hN hi (.inl hx) rv (λs4 I6=>Z5 (Yx ?_)) (.inr hx)));rw [V8 _ _ (Ne.symm hij),V8 _ _ (Ne.symm hik),V8 _ _ (Ne.symm hjk)] at I6;exact⟨_,H1,I6,q1⟩
def mf(i j k:Nat)(t:DA):DS:=λE δ=>t δ λds=>∃x y z,ds=[x,y,z]/\E.nx (((δ.set i (some (.v x))).set j (some (.v y))).set k (some (.v z)))
theorem DC{i j k:Nat}{x y z:Str}{a b c:YA}{ta:DA}{px py pz pt pos:Pos}{kt k2 pt2}(hc:X.calm=true)(hN:X.N.Nodup)(hi:X.N[i]?=some x)(hj:X.N[j]?=some y)(hk:X.N[k]?=some z)(hij:i≠j)(hik:i≠k)(hjk:j≠k)
 (hx:X.env.scope.names.lookup x=some .local)(hy:X.env.scope.names.lookup y=some .local)(hz:X.env.scope.names.lookup z=some .local)(ha:PA X [a,b,c] (gi X.K H0 O0 ta))
 (hw:Zv [.Tuple [.Name x px,.Name y py,.Name z pz] kt pt] (.Tuple [a,b,c] k2 pt2) X.env=pure (some [x,y,z]))
 (hs:Zu [.Tuple [.Name x px,.Name y py,.Name z pz] kt pt] (.Tuple [a,b,c] k2 pt2) pos.line X.env=pure false:=by rfl):
 PS X (.Assign [.Tuple [.Name x px,.Name y py,.Name z pz] kt pt] (.Tuple [a,b,c] k2 pt2) pos) (bg X.K H0 O0 (mf i j k ta)):=
 (LH hc hN hi hj hk hij hik hjk hx hy hz ha hw hs).imp λD σ H uu17=>by obtain⟨O,δ,E,w,q,k1,k2,k3,k4⟩:=uu17;exact⟨O,δ,_,w,q,λds vs H1 uu18 s1 r1=>by
  obtain⟨d1,d2,d3,e,q1⟩:=uu18;subst e;cases r1 with
  | cons r1 r2=>cases r2 with | cons r2 r3=>cases r3 with | cons r3 r4=>cases r4;exact⟨_,_,_,rfl,k1 _ _ _ _ q1 ((((w.mono s1).set r1).set r2).set r3) (.same s1)⟩⟩
theorem oK{N':List Str}{k:Nat}{fr:List Nat}{scope:Y4}{iter elt tg:YA}{ifs:List YA}{t te:DT}{tc:DB}{g:TG}{dg:DG}{pos:Pos}(hc:X.calm=true)(S:aZ X.env.scope X.N N' k fr scope)(hi:DF X H0 O0 iter t)(gd:GD X.K g dg)(hk:jo g k)(hfr:fr.Nodup)
 (hg:∀fp C s H,PG (bE X scope N' fp C s H) tg g)(hf:∀fp C s H,fJ (bE X scope N' fp C s H) ifs (bO X.K H0 O0 tc))(he:∀fp C s H,PE (bE X scope N' fp C s H) elt (up X.K H0 O0 te))
 (hs:∀x,YL iter X.env x=pure x:=by intro _;rfl):PU X (.ListComp elt [⟨tg,iter,ifs,0⟩] scope pos) (pI X.K H0 O0 (jr t dg tc te k fr)):=
 (CS hc S (vG hi) hg hf he hs).imp λσ H Q uu19=>by obtain⟨O,δ,Qd,w,q,kk⟩:=uu19;exact⟨O,δ,_,w,q,λd v H1 uu20 s1 r1=>by
  obtain⟨xs,e,hz,q1⟩:=uu20;subst e;obtain⟨a,vs,rfl,hq,rr⟩:=r1.tup;refine⟨a,rfl,⟨_,hq⟩,λD hD=>pL (cZ.tup hq) gd hfr (λv _ H' R h=>hk fr σ v H' R h) (λ_ _ _ z=>z) (λ_ _ _ z=>z) (λD H' hD s' o e=>s' _ _ e (eY e hD)) rr (w.mono s1) (by rw [rr.length];exact hz) q1 (λds us p H' z s' hp r'=>kk ds us p H' z (s1.trans s') hp r') D hD⟩⟩
end
structure pO (n:Nat) (lt:Nat->Nat->Bool) (I:Yw->Prop) (cmp:Nat->Nat->(Bool->Yw->Prop)->Yw->Prop):Prop where
 as:∀i j C s,i < n->j < n->i≠j->I s->(∀s',I s'->C (lt i j) s')->cmp i j C s
structure jz (n:Nat) (lt:Nat->Nat->Bool):Prop where
 tot:∀i j,i < n->j < n->i≠j->lt i j=!lt j i
 tr:∀i j k,i < n->j < n->k < n->lt i j=true->lt j k=true->lt i k=true
structure bT (n:Nat) (p:Array Nat):Prop where
 perm:p.toList.Perm (SE n)
theorem bT.size{n:Nat}{p:Array Nat}(h:bT n p):p.size=n:=by rw [<-RO,h.perm.length_eq,UU]
theorem bT.lt{n:Nat}{p:Array Nat}(h:bT n p){k:Nat}(hk:k < n):p.getD k 0 < n:=by
 have hs:=h.size;have e:p.getD k 0=p[k]'Yn:=by simp [Ut,show k < p.size by omega]
 rw [e];have:=h.perm.mem_iff.mp (WT.mpr (Array.getElem_mem (show k < p.size by omega)));simpa using this
theorem bT.ne{n:Nat}{p:Array Nat}(h:bT n p){i j:Nat}(hi:i < n)(hj:j < n)(hij:i≠j):p.getD i 0≠p.getD j 0:=by
 have hs:=h.size;have nd:p.toList.Nodup:=h.perm.nodup_iff.mpr List.nodup_range;have ei:p.getD i 0=p.toList[i]'(by simp;omega):=by simp [Ut,show i < p.size by omega]
 have ej:p.getD j 0=p.toList[j]'(by simp;omega):=by simp [Ut,show j < p.size by omega]
 rw [ei,ej];intro e;exact hij ((VG nd).mp e)
theorem bT.bubble{n:Nat}{p:Array Nat}(h:bT n p)(a d:Nat):bT n (V0 p a d):=⟨(Wa.mp (bubble_perm p a d)).trans h.perm⟩
theorem bT.rev{n:Nat}{p:Array Nat}(h:bT n p)(i j:Nat):bT n (kas_rev p i j):=⟨(Wa.mp (mirror_perm p i j _)).trans h.perm⟩
theorem wX(n:Nat):bT n (Xf (SE n)):=⟨Yr⟩
def Up(lt:Nat->Nat->Bool)(p:Array Nat)(k:Nat):Prop:=∀i j,i < j->j < k->lt (p.getD i 0) (p.getD j 0)=true
section
variable {n:Nat} {lt:Nat->Nat->Bool} {I:Yw->Prop} {cmp:Nat->Nat->(Bool->Yw->Prop)->Yw->Prop}
theorem Up.snoc(T:jz n lt){p:Array Nat}(hp:bT n p){k:Nat}(hk:k < n)(h:Up lt p k)(h0:0 < k)(hl:lt (p.getD (k - 1) 0) (p.getD k 0)=true):Up lt p (k+1):=by
 intro i j hij hj;rcases Tz j k with z | z
 ·exact h i j hij z
 ·have:j=k:=Yn
  subst this;rcases Tz i (j - 1) with w | w
  ·exact T.tr _ _ _ (hp.lt Yn) (hp.lt Yn) (hp.lt hk) (h i (j - 1) w Yn) hl
  ·have:i=j - 1:=Yn
   subst this;exact hl
theorem wY(A:pO n lt I cmp)(T:jz n lt){p:Array Nat}(hp:bT n p){Q:Nat->Yw->Prop}:∀(f m:Nat)(s:Yw),1<=m->m+f=n->Up lt p m->I s->
 (∀k s',I s'->m<=k->k<=n->Up lt p k->(k < n->lt (p.getD k 0) (p.getD (k - 1) 0)=true)->Q k s')->(kas_asc p f m).kasWp cmp Q s
 | 0,m,s,h1,hf,hu,hI,q=>q m s hI (Rf _) Yn hu (λz=>by omega)
 | f+1,m,s,h1,hf,hu,hI,q=>by
  have hm:m < n:=Yn
  refine A.as _ _ _ s (hp.lt hm) (hp.lt Yn) (hp.ne hm Yn Yn) hI λs' hI'=>?_;cases hc:lt (p.getD m 0) (p.getD (m - 1) 0) with
  | true=>
   dsimp only;rw [Yp rfl];exact q m s' hI' (Rf _) Yn hu (λ_=>hc)
  | false=>
   dsimp only;rw [Yo Yr];have hl:lt (p.getD (m - 1) 0) (p.getD m 0)=true:=by rw [T.tot _ _ (hp.lt Yn) (hp.lt hm) (hp.ne Yn hm Yn),hc];rfl
   exact wY A T hp f (m+1) s' Yn Yn (hu.snoc T hp hm Yn hl) hI' λk s2 a b c d e=>q k s2 a Yn c d e
def Dn(lt:Nat->Nat->Bool)(p:Array Nat)(k:Nat):Prop:=∀i j,i < j->j < k->lt (p.getD j 0) (p.getD i 0)=true
theorem Dn.snoc(T:jz n lt){p:Array Nat}(hp:bT n p){k:Nat}(hk:k < n)(h:Dn lt p k)(h0:0 < k)(hl:lt (p.getD k 0) (p.getD (k - 1) 0)=true):Dn lt p (k+1):=by
 intro i j hij hj;rcases Tz j k with z | z
 ·exact h i j hij z
 ·have:j=k:=Yn
  subst this;rcases Tz i (j - 1) with w | w
  ·exact T.tr _ _ _ (hp.lt hk) (hp.lt Yn) (hp.lt Yn) hl (h i (j - 1) w Yn)
  ·have:i=j - 1:=Yn
   subst this;exact hl
theorem DD(A:pO n lt I cmp)(T:jz n lt){p:Array Nat}(hp:bT n p){Q:Array Nat×Nat×Nat->Yw->Prop}:∀(f m:Nat)(s:Yw),1<=m->m+f=n->Dn lt p m->I s->
 (∀k s',I s'->m<=k->k<=n->Dn lt p k->Q (p,k,0) s')->(kas_desc f p m 0).kasWp cmp Q s
 | 0,m,s,h1,hf,hu,hI,q=>q m s hI (Rf _) Yn hu
 | f+1,m,s,h1,hf,hu,hI,q=>by
  have hm:m < n:=Yn
  refine A.as _ _ _ s (hp.lt hm) (hp.lt Yn) (hp.ne hm Yn Yn) hI λs' hI'=>?_;cases hc:lt (p.getD m 0) (p.getD (m - 1) 0) with
  | true=>
   dsimp only;rw [Yp rfl,Yo Yr];exact DD A T hp f (m+1) s' Yn Yn (hu.snoc T hp hm Yn hc) hI' λk s2 a b c d=>q k s2 a Yn c d
  | false=>
   dsimp only;rw [Yo Yr];refine A.as _ _ _ s' (hp.lt Yn) (hp.lt hm) (hp.ne Yn hm Yn) hI' λs2 hI2=>?_;have hl:lt (p.getD (m - 1) 0) (p.getD m 0)=true:=by rw [T.tot _ _ (hp.lt Yn) (hp.lt hm) (hp.ne Yn hm Yn),hc];rfl
   rw [hl];dsimp only;rw [Yp rfl];exact q m s2 hI2 (Rf _) Yn hu
theorem DH{p:Array Nat}{j k:Nat}(hj:j<=p.size):(kas_rev p 0 j).getD k 0=if k < j then p.getD (j - 1 - k) 0 else p.getD k 0:=by
 have:=getElem?_mirror_all (xs:=p) (i:=0) (j:=j) hj k;unfold kas_rev;rw [SN,this];by_cases h:k < j
 ·simp [h,SN]
 ·simp [h,SN]
theorem Dn.rev{p:Array Nat}(hp:bT n p){k:Nat}(hk:k<=n)(h:Dn lt p k):Up lt (kas_rev p 0 k) k:=by
 intro i j hij hj;have hs:=hp.size;rw [DH Yn,DH Yn,Yp Yn,Yp hj];exact h _ _ Yn Yn
theorem LI(A:pO n lt I cmp)(T:jz n lt)(h2:2<=n){p:Array Nat}(hp:bT n p){Q:Nat×Array Nat->Yw->Prop}{s:Yw}(hI:I s)
 (q:∀k p' s',I s'->1<=k->k<=n->bT n p'->Up lt p' k->Q (k,p') s'):(kas_count n p).kasWp cmp Q s:=by
 unfold kas_count;rw [Vn];refine wY A T hp (n - 1) 1 s (Rf _) Yn (λi j a b=>by omega) hI λm s1 hI1 m1 m2 hu hs=>?_;by_cases hm:m=n
 ·subst hm;rw [Yp Yr];exact q m p s1 hI1 m1 (Rf _) hp hu
 ·rw [Yo (by simpa using hm)];by_cases hm1:m > 1
  ·rw [Yp hm1];refine A.as _ _ _ s1 (hp.lt Yn) (hp.lt Yn) (hp.ne Yn Yn Yn) hI1 λs2 hI2=>?_;rw [hu 0 (m - 1) Yn Yn];dsimp only;rw [Yp rfl];exact q m p s2 hI2 m1 Yn hp hu
  ·rw [Yo hm1];have:m=1:=Yn
   subst this;have h10:=hs Yn;unfold kas_descPart;rw [Vn];refine DD A T hp (n - (1+1)) (1+1) s1 Yn Yn (λi j a b=>?_) hI1 λk s2 hI2 k1 k2 hd=>?_
   ·have:i=0:=Yn
    have:j=1:=Yn
    subst_vars
    exact h10
   ·rw [Yo Yr];unfold kas_tail3;rw [Vn];have hp':=hp.rev 0 k;refine wY A T hp' (n - k) k s2 Yn Yn (hd.rev hp k2) hI2 λm s3 hI3 a b c d=>?_;exact q m _ s3 hI3 Yn b hp' c
theorem wZ(A:pO n lt I cmp)(T:jz n lt){p:Array Nat}(hp:bT n p){k:Nat}(hk:k < n)(hu:Up lt p k){Q:Nat->Yw->Prop}:∀(f l r:Nat)(s:Yw),r - l<=f->l<=r->r<=k->I s->
 (∀i,i < l->lt (p.getD i 0) (p.getD k 0)=true)->(∀i,r<=i->i < k->lt (p.getD k 0) (p.getD i 0)=true)->
 (∀l s',I s'->l<=k->(∀i,i < l->lt (p.getD i 0) (p.getD k 0)=true)->(∀i,l<=i->i < k->lt (p.getD k 0) (p.getD i 0)=true)->Q l s')->(kas_place p k f l r).kasWp cmp Q s
 | 0,l,r,s,hf,hlr,hrk,hI,h1,h2,q=>q l s hI Yn h1 (λi a b=>h2 i Yn b)
 | f+1,l,r,s,hf,hlr,hrk,hI,h1,h2,q=>by
  unfold kas_place;by_cases hge:l >= r
  ·rw [Yp hge];exact q l s hI Yn h1 (λi a b=>h2 i Yn b)
  ·rw [Yo hge];have hm:(l+r)/ 2 < k:=Yn
   refine A.as _ _ _ s (hp.lt hk) (hp.lt Yn) (hp.ne hk Yn Yn) hI λs' hI'=>?_;cases hc:lt (p.getD k 0) (p.getD ((l+r)/ 2) 0) with
   | true=>
    dsimp only;rw [Yp rfl];refine wZ A T hp hk hu f l ((l+r)/ 2) s' Yn Yn Yn hI' h1 (λi a b=>?_) q;rcases Tz ((l+r)/ 2) i with z | z
    ·exact T.tr _ _ _ (hp.lt hk) (hp.lt Yn) (hp.lt Yn) hc (hu _ _ z b)
    ·have:i=(l+r)/ 2:=Yn
     rw [this];exact hc
   | false=>
    dsimp only;rw [Yo Yr];have hl:lt (p.getD ((l+r)/ 2) 0) (p.getD k 0)=true:=by rw [T.tot _ _ (hp.lt Yn) (hp.lt hk) (hp.ne Yn hk Yn),hc];rfl
    refine wZ A T hp hk hu f ((l+r)/ 2+1) r s' Yn Yn hrk hI' (λi a=>?_) h2 q;rcases Tz i ((l+r)/ 2) with z | z
    ·exact T.tr _ _ _ (hp.lt Yn) (hp.lt Yn) (hp.lt hk) (hu _ _ z hm) hl
    ·have:i=(l+r)/ 2:=Yn
     rw [this];exact hl
theorem DI{p:Array Nat}{k d i:Nat}(hk:k < p.size)(hd:d<=k):(V0 p k d).getD i 0=if i=k - d then p.getD k 0 else if k - d < i/\i<=k then p.getD (i - 1) 0 else p.getD i 0:=by
 rw [SN,getElem?_bubble hk d hd i];by_cases h1:i=k - d
 ·rw [Yp h1,Yp h1,SN]
 ·rw [Yo h1,Yo h1];by_cases h2:k - d < i/\i<=k
  ·rw [Yp h2,Yp h2,SN]
  ·rw [Yo h2,Yo h2,SN]
theorem Up.ins(T:jz n lt){p:Array Nat}(hp:bT n p){k l:Nat}(hk:k < n)(hu:Up lt p k)(hl:l<=k)(h1:∀i,i < l->lt (p.getD i 0) (p.getD k 0)=true)(h2:∀i,l<=i->i < k->lt (p.getD k 0) (p.getD i 0)=true):Up lt (V0 p k (k - l)) (k+1):=by
 have hs:=hp.size;intro i j hij hj;rw [DI Yn Yn,DI Yn Yn];have e:k - (k - l)=l:=Yn
 rw [e];clear hs e hk;by_cases hi:i=l
 ·rw [Yp hi,Yo Yn,Yp Yn];exact h2 _ Yn Yn
 ·rw [Yo hi];by_cases hi2:l < i/\i<=k
  ·rw [Yp hi2,Yo Yn,Yp Yn];exact hu _ _ Yn Yn
  ·rw [Yo hi2];by_cases hj1:j=l
   ·rw [Yp hj1];exact h1 _ Yn
   ·rw [Yo hj1];by_cases hj2:l < j/\j<=k
    ·rw [Yp hj2];exact hu _ _ Yn Yn
    ·rw [Yo hj2];exact hu _ _ hij Yn
theorem DJ(A:pO n lt I cmp)(T:jz n lt){Q:Array Nat->Yw->Prop}:∀(f:Nat)(p:Array Nat)(k:Nat)(s:Yw),k+f=n->bT n p->Up lt p k->I s->(∀p' s',I s'->bT n p'->Up lt p' n->Q p' s')->(kas_bin f p k).kasWp cmp Q s
 | 0,p,k,s,hf,hp,hu,hI,q=>q p s hI hp (by rw [show n=k by omega];exact hu)
 | f+1,p,k,s,hf,hp,hu,hI,q=>by
  unfold kas_bin;rw [Vn];have hk:k < n:=Yn
  refine wZ A T hp hk hu k 0 k s Yn Yn (Rf _) hI (λi z=>by omega) (λi a b=>by omega) λl s' hI' hl h1 h2=>?_;exact DJ A T f _ (k+1) s' Yn (hp.bubble _ _) (hu.ins T hp hk hl h1 h2) hI' q
theorem LJ(A:pO n lt I cmp)(T:jz n lt)(h2:2<=n){Q:Array Nat->Yw->Prop}{s:Yw}(hI:I s)(q:∀p s',I s'->bT n p->Up lt p n->Q p s'):(kas_sort n).kasWp cmp Q s:=by
 unfold kas_sort;rw [Vn];refine LI A T h2 (wX n) hI λk p s1 hI1 k1 k2 hp hu=>?_;dsimp only;by_cases hk:k < n
 ·rw [Yp hk,show max k 1=k by omega];exact DJ A T (n - k) p k s1 Yn hp hu hI1 q
 ·rw [Yo hk];exact q p s1 hI1 hp (by rw [show n=k by omega];exact hu)
end
def aP(p q:Int×Str):Bool:=decide (p.1 < q.1) || (decide (p.1=q.1) && decide (p.2.cps.toList < q.2.cps.toList))
def iX(h:YG)(v:Yt)(p:Int×Str):Prop:=∃a o n t u,v= .ref a/\h.get? a=some o/\o.cls= .type "tuple"/\o.data= .seq #[.int p.1 t,.str p.2 u] n
section
variable {P:YE} {w:YF} {A:YJ} {E:Yt->Yw->Prop} {s:Yw}
theorem LK{v u:Yt}{p q:Int×Str}{Q:Bool->Yw->Prop}(hv:iX s.heap v p)(hu:iX s.heap u q)(h:Q (aP p q) s):Yy (YB P w) A (keyLt' (tuples' true) v u) Q E s:=by
 obtain⟨a,oa,na,t1,t2,rfl,ha,_,da⟩:=hv;obtain⟨b,ob,nb,t3,t4,rfl,hb,_,db⟩:=hu;refine kat_lt ha da hb db (kat_cons ((ZC P w).eqBool (intKind_is _ _ _ _) (intKind_is _ _ _ _) (kat_go (λe1=>?_) λe1=>?_)))
 ·have e1:p.1=q.1:=by simpa using e1
  refine kat_yes (kat_cons ((PySem.strKind P w).eqBool (strKind_is _ _ _ _) (strKind_is _ _ _ _) (kat_go (λe2=>?_) λe2=>?_)))
  ·have e2:p.2=q.2:=by simpa using e2
   refine kat_yes (kat_nil ?_);have:aP p q=false:=by unfold aP;rw [e1,e2];simp
   rw [this] at h;simpa using h
  ·have e2:p.2≠q.2:=by simpa using e2
   refine kat_no (kat_one _ _ ?_);have:aP p q=decide (p.2.cps.toList < q.2.cps.toList):=by unfold aP;simp [e1]
   rw [this] at h;exact lt_str h
 ·have e1:p.1≠q.1:=by simpa using e1
  refine kat_no ?_;show Yy _ _ (oneLt' true _ _) _ _ _;refine oneLt_int ?_;have:aP p q=decide (p.1 < q.1):=by unfold aP;simp [e1]
  rw [this] at h;exact h
theorem DK{n:Nat}{kp:Nat->Int×Str}(hd:∀i j,i < n->j < n->kp i=kp j->i=j):jz n λi j=>aP (kp i) (kp j):=by
 have tl:∀a b:Str,a≠b->(decide (a.cps.toList < b.cps.toList))=!decide (b.cps.toList < a.cps.toList):=λa b h=>by
  by_cases z:a.cps.toList < b.cps.toList
  ·rw [decide_eq_true z,decide_eq_false (List.lt_asymm z)];rfl
  ·have z2:b.cps.toList<=a.cps.toList:=Xv.mp z;have:b.cps.toList < a.cps.toList:=by
    rcases Classical.em (b.cps.toList < a.cps.toList) with y | y
    ·exact y
    ·exact absurd (CV (XA (Xv.mp y) z2)) h
   rw [decide_eq_false z,decide_eq_true this];rfl
 refine⟨λi j hi hj hij=>?_,λi j k hi hj hk h1 h2=>?_⟩
 ·have hne:kp i≠kp j:=λe=>hij (hd i j hi hj e);unfold aP;by_cases e:(kp i).1=(kp j).1
  ·have e2:(kp i).2≠(kp j).2:=λz=>hne (Ya e z);simp only [e,Int.lt_irrefl,decide_false,Tp,decide_true,SV];exact tl _ _ e2
  ·have e':(kp j).1≠(kp i).1:=λz=>e z.symm;simp only [e,e',decide_false,UZ,TH];by_cases z:(kp i).1 < (kp j).1
   ·rw [decide_eq_true z,decide_eq_false Yn];rfl
   ·rw [decide_eq_false z,decide_eq_true Yn];rfl
 ·unfold aP at h1 h2⊢;simp only [Ul,Si,decide_eq_true_eq] at h1 h2⊢;rcases h1 with h1 | ⟨h1,h1'⟩ <;> rcases h2 with h2 | ⟨h2,h2'⟩
  ·left;omega
  ·left;omega
  ·left;omega
  ·right;exact⟨h1.trans h2,X3 h1' h2'⟩
theorem DL{ks:List Yt}{kp:Nat->Int×Str}(hk:∀i v,ks[i]?=some v->iX s.heap v (kp i))(h2:2<=ks.length){Q:SortKind->Yw->Prop}(h:Q (tuples' true) s):Yy (YB P w) A (keyKind' ks.toArray) Q E s:=by
 have key:∀(ks:List Yt)(kp:Nat->Int×Str),(∀i v,ks[i]?=some v->iX s.heap v (kp i))->∃fs:List Yt,KatTups s.heap ks fs/\fs.length=ks.length/\∀v∈fs,∃n t,v=TN n t:=by
  intro ks
  induction ks with
  | nil=>intro kp _;exact⟨[],KatTups.nil,rfl,Yr⟩
  | cons v ks ih=>
   intro kp hk;obtain⟨fs,a,b,c⟩:=ih (λi=>kp (i+1)) λi v e=>hk (i+1) v (by simpa using e);obtain⟨ad,o,n,t,u,rfl,h1,h2,h3⟩:=hk 0 v rfl;refine⟨.int (kp 0).1 t::fs,KatTups.cons h1 h2 h3 rfl a,by simp [b],λx hx=>?_⟩;rcases Rh.mp hx with rfl | hx
   ·exact⟨_,_,rfl⟩
   ·exact c x hx
 obtain⟨fs,a,b,c⟩:=key ks kp hk;refine kat_kind (T:= .type "int") a Yn (λv hv=>?_) Ym h;obtain⟨n,t,rfl⟩:=c v hv;exact .now
theorem DM{n:Nat}{ks:List Yt}{kp:Nat->Int×Str}(hn:ks.length=n)(h2:2<=n)(hk:∀i v,ks[i]?=some v->iX s.heap v (kp i))(hd:∀i j,i < n->j < n->kp i=kp j->i=j){G:Array Nat->Yw->Prop}
 (q:∀p,bT n p->Up (λi j=>aP (kp i) (kp j)) p n->G p s):(kas_sort n).kasWp (kas_ask P w A (tuples' true) ks) G s:=by
 refine LJ (lt:=λi j=>aP (kp i) (kp j)) (I:=λs'=>s'=s) ⟨λi j C s' hi hj hij e c=>?_⟩ (DK hd) h2 rfl λp s' e hp hu=>by subst e;exact q p hp hu
 subst e;have ei:ks[i]?=some (ks.getD i .none):=by simp [show i < ks.length by omega]
 have ej:ks[j]?=some (ks.getD j .none):=by simp [show j < ks.length by omega]
 exact LK (hk i _ ei) (hk j _ ej) (c _ rfl)
def DN(kS D:Yu)(s:Yw)(out:List Yt)(C:Yw->Prop):Prop:=∀h' c,h'.get? D=some (YK "list" out.toArray c)->(∀b u,b≠kS->b≠D->s.heap.get? b=some u->h'.get? b=some u)->C {s with heap:=h'}
theorem rj{st:SortSt}{kS D:Yu}{ks out:List Yt}{e e1:Nat}{C:Xg->Yw->Prop}(hk:s.heap.get? kS=some (YK "list" ks.toArray e))(hD:s.heap.get? D=some (YK "list" #[] e1))(hne:kS≠D)(hf:failedOf st=none)
 (ho:(arrOf st).map (·.2)=out.toArray)(h64:out.length < 64)(hk64:ks.length < 64)(q:DN kS D s out (C (.done (.ret .none)))):Yy (YB P w) A (ksk_tail D false e1 (.ref kS) st) C E s:=by
 have hsl:YC=16777216:=YY;unfold ksk_tail;rw [ho];refine Yv (Zy hk rfl (Yv (wpAny_letGo ?_)) (by rw [RE];omega) (Sd _));have u1:=Sn s.heap kS (SF λ_=>(#[]:Array Yt));have hD1:(s.heap.update kS (SF λ_=>(#[]:Array Yt))).get? D=some (YK "list" #[] e1):=(u1.2 D (Ne.symm hne)).trans hD;refine Yv (seqEpoch_at (s:={s with heap:=s.heap.update kS (SF λ_=>(#[]:Array Yt))}) hD1 rfl ?_);rw [Yo Yr];refine Yv (Zy (s:={s with heap:=s.heap.update kS (SF λ_=>(#[]:Array Yt))}) hD1 rfl ?_ (Sd _) (by show out.toArray.size<=_;rw [RE];omega));have u2:=Sn (s.heap.update kS (SF λ_=>(#[]:Array Yt))) D (SF λ_=>out.toArray);rw [hf];simp only [bne_self_eq_false,SH,if_false];exact Yx (q _ _ (ZA hD1 λ_=>out.toArray) λb u n1 n2 z=>(u2.2 b n2).trans ((u1.2 b n1).trans z))
theorem LL{kS D:Yu}{vs ks:List Yt}{n e e1:Nat}{kp:Nat->Int×Str}{C:Xg->Yw->Prop}(hv:vs.length=n)(hn:ks.length=n)(h64:n < 64)(hks:s.heap.get? kS=some (YK "list" ks.toArray e))(hD:s.heap.get? D=some (YK "list" #[] e1))(hne:kS≠D)
 (hk:∀i v,ks[i]?=some v->iX s.heap v (kp i))(hd:∀i j,i < n->j < n->kp i=kp j->i=j)
 (q:∀p,bT n p->Up (λi j=>aP (kp i) (kp j)) p n->DN kS D s (p.toList.map λi=>vs.getD i .none) (C (.done (.ret .none)))):Yy (YB P w) A (ksk_end D false vs.toArray e1 (.ref kS) ks.toArray) C E s:=by
 unfold ksk_end;have hz:vs.toArray.size=n:=by rw [RE];exact hv
 by_cases h2:n < 2
 ·simp only [SH,if_false,hz,h2,if_true];refine Yv (Yx (Yv (Yx ?_)));refine rj hks hD hne rfl (out:=vs) ?_ Yn Yn ?_
  ·show(ks.toArray.zip vs.toArray).map (·.2)=vs.toArray;apply XB.mp;simp only [XC,XD];rw [XE Yn]
  ·have:=q _ (wX n) (λi j a b=>by omega);have e:((Xf (SE n)).toList.map λi=>vs.getD i TY)=vs:=by
    apply Ua (by simp [hv]);intro i a b;simp at a b⊢;rw [RG b];rfl
   rw [e] at this;exact this
 ·simp only [SH,if_false,hz,h2];refine Yv (DL hk Yn ?_);have hl:ks.length=vs.length:=Yn
  refine Yv (YR (kat_run (κ:=tuples' true) (E:=λ_ _=>False) (Q:=λst' s'=>s'=s/\∃p,bT n p/\Up (λi j=>aP (kp i) (kp j)) p n/\arrOf st'=p.map (kas_item (ks.toArray.zip vs.toArray))/\failedOf st'=none) (G:=λp s'=>s'=s/\bT n p/\Up (λi j=>aP (kp i) (kp j)) p n) hl Yn Yn
   (λp st' s' a b c d=>⟨d.1,p,d.2.1,d.2.2,b,c⟩) ?_) (λr s' hr=>?_) λ_ _ x=>x.elim)
  ·rw [hv];exact DM hn Yn hk hd λp a b=>⟨rfl,a,b⟩
  ·obtain⟨rfl,p,p1,p2,p3,p4⟩:=hr;refine rj hks hD hne p4 (kat_snds hl p3) ?_ Yn (q p p1 p2);rw [Q8,RO,p1.size];exact h64
end
section
variable {X:Cx} {aaa:List (Yu×Obj)} {σ:St} {H:Hp} {s:Yw}
theorem af.track{o:HO}{D:Yu}{ch:List Yu}{t':Nat}{h':YG}(I:af X aaa σ H s)(hD:D∈ch)(f:∀b∈ch,iD X aaa H b)(k:∀b u,b ∉ ch->s.heap.get? b=some u->h'.get? b=some u)(new:cm X.prog X.w (ai H D o) h' D o):af X aaa σ (ai H D o) {s with heap:=h',toks:=t'}:=by
 have nC:∀b u,H b=some u->b ∉ ch:=λb u e z=>by rw [(f b z).1] at e;cases e
 have nD:∀b u,H b=some u->b≠D:=λb u e z=>nC b u e (by rw [z];exact hD);refine I.step (g':=s.gens) (d':=s.drawn) (ch:=ch) (λb hb=>?_) (λb o _ _ hc e _=>k b o hc e) (λb o _ _ hc e _=>⟨o.slots,k b o hc e⟩) (λb o hc _ n=>by rw [az (λz=>hc (by rw [z];exact hD))];exact n)
  (λb o hc e=>⟨o,k b o hc e⟩) (λb xs e=>by rw [az (nD _ _ e)];exact e) (λb u xs e=>by rw [az (nD _ _ e)];exact e) (λb ps e=>⟨#[],by rw [az (nD _ _ e),e];simp⟩) (λm hm=>hm.at' λo e=>k _ o (λz=>(f _ z).2.1 rfl) e) (λb u e=>?_) I.bare
 ·obtain⟨f0,f1,f2,f3,f4,f5⟩:=f b hb;exact⟨f3,f1,f4,f5⟩
 ·by_cases hb:b=D
  ·subst hb;rw [bh] at e;cases e;exact new
  ·rw [az hb] at e;refine(I.hok b u e).stay (λc v hc q=>k c v (λz=>?_) q) (λc q=>by rw [az (nD _ _ q)];exact q) (λc xs q=>by rw [az (nD _ _ q)];exact q);rcases hc with r | r
   ·subst r;exact nC _ _ e z
   ·exact nC _ _ r z
theorem LM{k:Nat}{f:Yu}{fd:YD}{ps:List Str}{sp:Sp}{v:V}{u:Yt}{Q:VK}(Fk:aB X.prog X.w X.K X.mg X.base CX0 k f fd ps sp)(hr:aY k X.A.in1.in1)(hb:dF X.K fd ps [])(I:af X aaa σ H s)(r:aC v u)(h:sp [v] H Q E0):
 Yy (YB X.prog X.w) X.A.in1.in1 (call (.ref f) [u]) (EP X aaa σ Q) (λ_ _=>False) s:=by
 have r2:aH [v] [u]:= .cons r .nil;have hl:([u]++[]).length=ps.length:=by
  have:=Fk.len _ _ _ _ h;simpa using this
 have hb2:=hb s [u] I.kIn hl;rw [RY] at hb2;refine wpAny_call (Zg (Fk.run X.A.in1.in1 X.stack s H ⟨[u],[]⟩ [u] [v] Q E0 hr I.env0.in1.in1 hb2 r2 h) λr s' hq=>?_);cases r with
 | error e=>exact hq.elim
 | ok fl=>
  cases fl with
  | ret u=>exact I.after hq
  | next=>exact S8 hq
  | brk=>exact S8 hq
  | cont=>exact S8 hq
def mh(X:Cx)(aaa:List (Yu×Obj))(b:Yu):Prop:=b≠X.env.locals/\b ∉ X.fs/\(b∈X.ex\/X.s₀.heap.objs.size<=b)/\(∀x c,X.env.cells.lookup x=some c->c≠b)/\∀p∈X.pn++aaa,p.1≠b
theorem af.out(I:af X aaa σ H s){b:Yu}(hb:s.heap.objs.size<=b):mh X aaa b:=(I.fpOk (H':=H) hb (I.hok.fresh hb)).2
structure mi (X:Cx) (aaa:List (Yu×Obj)) (σ:St) (H:Hp) (O:Ex) (kS D:Yu) (e1:Nat) (kds:List Ys) (ks:List Yt) (s:Yw):Prop where
 ex:∃H' kvs e,af X (aaa++[(kS,YK "list" ks.toArray e),(D,YK "list" #[] e1)]) σ H' s/\ar H H'/\ak X.K H' O kvs kds/\aH kvs ks
theorem mi.push{O:Ex}{kS D:Yu}{e1:Nat}{kds:List Ys}{ks:List Yt}{H':Hp}{kvs:List V}{e:Nat}{h':YG}{kv:V}{kd:Ys}{k:Yt}(oS:mh X aaa kS)(oD:mh X aaa D)(hne:kS≠D)
 (I:af X (aaa++[(kS,YK "list" ks.toArray e),(D,YK "list" #[] e1)]) σ H' s)(hs:ar H H')(hk:ak X.K H' O kvs kds)(hv:aH kvs ks)(k1:Dt X.K H' O kv kd)(k2:aC kv k)
 (hu:∃e',h'.get? kS=some (YK "list" (ks++[k]).toArray e'))(kept:∀b u,b≠kS->s.heap.get? b=some u->h'.get? b=some u):mi X aaa σ H O kS D e1 (kds++[kd]) (ks++[k]) {s with heap:=h'}:=by
 obtain⟨e',hu⟩:=hu;have pS:=I.pin (kS,YK "list" ks.toArray e) Yr;have pD:=I.pin (D,YK "list" #[] e1) Yr;have I1:af X aaa σ H' s:=I.pins_of λp hp=>I.pin p (by simp only [Ry] at hp⊢;exact .inr (.inl hp));have I2:af X aaa σ H' {s with heap:=h'}:=I1.turned (t':=s.toks) (it:=kS) kept pS.2.1 oS.1 oS.2.2.1 oS.2.2.2.1 oS.2.2.2.2;refine⟨H',kvs++[kv],e',I2.pins_of λp hp=>?_,hs,hk.append (.cons k1 .nil),hv.append (.cons k2 .nil)⟩;rcases Ry.mp hp with z | z
 ·exact I2.pin p (R0 _ z)
 ·simp only [Rh,Sj,or_false] at z;rcases z with rfl | rfl
  ·exact⟨hu,pS.2.1,oS.1,oS.2.1,λv z=>by cases z⟩
  ·exact⟨kept _ _ (Ne.symm hne) pD.1,pD.2.1,oD.1,oD.2.1,λv z=>by cases z⟩
theorem DP{k:Nat}{f:Yu}{fd:YD}{ps:List Str}{F:List Ys->(Ys->Prop)->Prop}{O:Ex}{kS D:Yu}{e1:Nat}{kd:Ys->Ys}(Fk:aB X.prog X.w X.K X.mg X.base CX0 k f fd ps (aU X.K F))(hr:aY k X.A.in1.in1)(hb:dF X.K fd ps [])(trk:∀l,O l->H l≠none)
 (oS:mh X aaa kS)(oD:mh X aaa D)(hne:kS≠D){body:Yt->PUnit->Sem (ForInStep PUnit)}{E:Yt->Yw->Prop}
 (hbo:∀(x:Yt) (s:Yw) (Q':Yw->Prop),Yy (YB X.prog X.w) X.A.in1.in1 (call (.ref f) [x]) (λk s'=>Yy (YB X.prog X.w) X.A.in1.in1 (Wx (.ref kS) (·.push k)) (λ_ s''=>Q' s'') (λ_ _=>False) s') (λ_ _=>False) s->Yy (YB X.prog X.w) X.A.in1.in1 (body x ⟨⟩) (λr s'=>r= .yield ⟨⟩/\Q' s') E s):
 ∀(r:List Yt)(xr:List V)(dr:List Ys)(kds:List Ys)(ks:List Yt)(s:Yw)(Q:Yw->Prop),aH xr r->ak X.K H O xr dr->(∀d∈dr,∀R:Ys->Prop,R (kd d)->F [d] R)->mi X aaa σ H O kS D e1 kds ks s->ks.length+r.length < 64->
  (∀ks' s',mi X aaa σ H O kS D e1 (kds++dr.map kd) ks' s'->ks'.length=ks.length+r.length->Q s')->Yy (YB X.prog X.w) X.A.in1.in1 (forIn r PUnit.unit body) (λ_ s'=>Q s') E s
 | [],xr,dr,kds,ks,s,Q,hv,hd,hF,M,hl,q=>by
  cases hv;cases hd;rw [XW];exact Yx (q ks s (by rw [RX,RY];exact M) Yr)
 | x::r,xr,dr,kds,ks,s,Q,hv,hd,hF,M,hl,q=>by
  cases hv with
  | @cons v _ xr _ h1 h2=>
   cases hd with
   | @cons _ d _ dr g1 g2=>
    rw [XI];rw [Rq] at hl;obtain⟨H',kvs,e,I,hs,hk,hvk⟩:=M.ex;refine Yv (YR (hbo x s (λs'=>∃k,mi X aaa σ H O kS D e1 (kds++[kd d]) (ks++[k]) s') (YR (LM (Q:=λv2 H2=>ar H' H2/\Dt X.K H2 O v2 (kd d)) Fk hr hb I h1 ⟨O,[d],λy=>y=kd d,λl z e=>trk l z (by
     cases q:H l with
     | none=>rfl
     | some u=>rw [hs _ _ q] at e;cases e),.cons (g1.mono hs) .nil,hF d Yr _ rfl,λy v2 H2 e s2 r2=>by subst e;exact⟨s2,r2⟩⟩) (λkk s' hq=>?_) λ_ _ z=>z)) (λr' s' hq=>?_) λ_ _ z=>z)
    ·obtain⟨kv,H2,I2,rk,s2,dk⟩:=hq;have pS:=I2.pin (kS,YK "list" ks.toArray e) Yr;refine Zy pS.1 rfl ⟨kk,?_⟩ (by rw [RE];have:YC=16777216:=YY;omega) (by rw [Array.size_push,RE];have:YC=16777216:=YY;omega);have u1:=Sn s'.heap kS (SF (·.push kk));have gk:=ZA pS.1 (·.push kk);rw [show ks.toArray.push kk=(ks++[kk]).toArray by simp] at gk;exact mi.push oS oD hne I2 (hs.trans s2) (hk.mono s2) hvk dk rk ⟨_,gk⟩ λb u n z=>(u1.2 b n).trans z
    ·obtain⟨rfl,kk,M'⟩:=hq;refine DP Fk hr hb trk oS oD hne hbo r xr dr (kds++[kd d]) (ks++[kk]) s' Q h2 g2 (λy hy=>hF y (by simp [hy])) M' (by simp;omega) λks' s2 M2 l2=>q ks' s2 ?_ (by rw [l2];simp;omega);rw [Rb,<-List.singleton_append,<-UW];exact M2
def cE(p:Int×Str):Ys:= .tuple [.int p.1,.str p.2]
theorem w8{h:V}{u:Yt}{O:Ex}{p:Int×Str}(I:af X aaa σ H s)(d:Dt X.K H O h (cE p))(r:aC h u):iX s.heap u p:=by
 obtain⟨a,xs,rfl,hq,hd⟩:=(Sh.dt d).tup;cases r;obtain⟨its,rv,⟨o,e,c,n,dd⟩,_⟩:=I.tuple hq;cases hd with
 | cons g1 g2=>
  cases g2 with
  | cons g2 g3=>
   cases g3;cases g1;cases g2;cases rv with
   | cons r1 r2=>
    cases r2 with
    | cons r2 r3=>
     cases r3;obtain⟨t,rfl⟩:=r1;obtain⟨u,rfl⟩:=r2;exact⟨a,o,n,t,u,rfl,e,c,dd⟩
theorem ro{K:Q7}{H:Hp}{O:Ex}:∀{xs:List V}{ds:List Ys}{i:Nat}{d:Ys},ak K H O xs ds->ds[i]?=some d->∃x,xs[i]?=some x/\Dt K H O x d
 | _,_,0,d,.cons h r,e=>by simp at e;subst e;exact⟨_,rfl,h⟩
 | _,_,i+1,d,.cons h r,e=>by simp only [Sx] at e⊢;exact ro r e
theorem tR{xs:List V}{us:List Yt}:∀{i:Nat}{u:Yt},aH xs us->us[i]?=some u->∃x,xs[i]?=some x/\aC x u:=by
 intro i u h e;have hl:=h.length;have hi:i < us.length:=(Rm.mp e).1;obtain⟨u',e',r⟩:=h.get (show xs[i]?=some (xs[i]'Yn) by simp);rw [e] at e';cases e';exact⟨_,Yr,r⟩
theorem LN{O:Ex}{kS D:Yu}{e1:Nat}{kps:List (Int×Str)}{ks:List Yt}(M:mi X aaa σ H O kS D e1 (kps.map cE) ks s):(∀i v,ks[i]?=some v->iX s.heap v (kps.getD i (0,Q6 "")))/\ks.length=kps.length:=by
 obtain⟨H',kvs,e,I,hs,hk,hv⟩:=M.ex;have hl:ks.length=kps.length:=by rw [<-hv.length,hk.length,Q8]
 refine⟨λi v ei=>?_,hl⟩;have hi:i < kps.length:=by rw [<-hl];exact(Rm.mp ei).1
 obtain⟨x,ex,rx⟩:=tR hv ei;obtain⟨y,ey,dy⟩:=ro (i:=i) (d:=cE kps[i]) hk (by rw [Rt,RG hi];rfl);rw [ex] at ey;cases ey;have:kps.getD i (0,Q6 "")=kps[i]:=by simp [hi]
 rw [this];exact w8 I dy rx
theorem LO{k:Nat}{f:Yu}{fd:YD}{ps:List Str}{F:List Ys->(Ys->Prop)->Prop}{O:Ex}{D:Yu}{n0:Nat}{kf:Ys->Int×Str}{vs:List Yt}{xs:List V}{ds:List Ys}{Q:V->Hp->Prop}{C:Xg->Yw->Prop}{E:Yt->Yw->Prop}
 (Fk:aB X.prog X.w X.K X.mg X.base CX0 k f fd ps (aU X.K F))(hr:aY k X.A.in1.in1)(hb:dF X.K fd ps [])(trk:∀l,O l->H l≠none)(I:af X aaa σ H s)(oD:mh X aaa D)(hHD:H D=none)(hD:s.heap.get? D=some (YK "list" vs.toArray n0))
 (hv:aH xs vs)(hd:ak X.K H O xs ds)(hF:∀d∈ds,∀R:Ys->Prop,R (cE (kf d))->F [d] R)(h64:ds.length < 64)(nd:(ds.map kf).Nodup)
 (q:∀(H':Hp) (xs':List V) (ds':List Ys),ar H H'->H' D=none->ak X.K H' O xs' ds'->ds'.Perm ds->ds'.Pairwise (λa b=>aP (kf a) (kf b)=true)->Q (.ref D) (ai H' D (.lst xs')))
 (fin:∀s',EP X aaa σ Q (.ref D) s'->C (.done (.ret .none)) s'):Yy (YB X.prog X.w) X.A.in1.in1 (ksk_tree D (.ref f) false) C E s:=by
 have hsl:YC=16777216:=YY;have lv:vs.length=ds.length:=by rw [<-hv.length,hd.length]
 have lD:D < s.heap.objs.size:=Rx hD;unfold ksk_tree;refine Yv (listItems_at hD rfl (Yv (Zy hD rfl ?_ (by rw [RE];omega) (Sd _))));have u1:=Sn s.heap D (SF λ_=>(#[]:Array Yt));have g1:=ZA hD λ_=>(#[]:Array Yt);have I1:af X aaa σ H {s with heap:=s.heap.update D (SF λ_=>(#[]:Array Yt))}:=I.turned (t':=s.toks) (it:=D) (λb u n z=>(u1.2 b n).trans z) hHD oD.1 oD.2.2.1 oD.2.2.2.1 oD.2.2.2.2;generalize s.heap.update D (SF λ_=>(#[]:Array Yt))=h1 at*;generalize (if (#[]:Array Yt).size==vs.toArray.size then n0 else n0+1)=e1 at*;refine Yv (seqEpoch_at (s:={s with heap:=h1}) g1 rfl ?_);refine Yv (wpAny_newTuple ?_ (by show vs.length<=_;omega));have I2:af X aaa σ H {s with heap:=h1.push {cls:= .type "tuple",data:= .seq vs.toArray}}:=I1.kept (t':=s.toks) λb u z=>Rc _ z;have g2:(h1.push {cls:= .type "tuple",data:= .seq vs.toArray}).get? D=some (YK "list" #[] e1):=Rc _ g1;show Yy _ _ _ _ _ {s with heap:=h1.push {cls:= .type "tuple",data:= .seq vs.toArray}};generalize h1.push {cls:= .type "tuple",data:= .seq vs.toArray}=h2 at*;refine Yv (Zx (s:={s with heap:=h2}) ?_ (Sd _));have oS:mh X aaa h2.objs.size:=I2.out (Rf _);have hne:h2.objs.size≠D:=Vo (Rx g2);have I3:af X aaa σ H {s with heap:=h2.push (YK "list" #[] 0)}:=I2.kept (t':=s.toks) λb u z=>Rc _ z;have hS0:H h2.objs.size=none:=I2.hok.fresh (Rf _);have M0:mi X aaa σ H O h2.objs.size D e1 [] [] {s with heap:=h2.push (YK "list" #[] 0)}:=by
  refine⟨H,[],0,I3.pins_of λp hp=>?_,ar.refl _,.nil,.nil⟩;rcases Ry.mp hp with z | z
  ·exact I3.pin p (R0 _ z)
  ·simp only [Rh,Sj,or_false] at z;rcases z with rfl | rfl
   ·exact⟨RJ _ rfl,hS0,oS.1,oS.2.1,λv z=>by cases z⟩
   ·exact⟨Rc _ g2,hHD,oD.1,oD.2.1,λv z=>by cases z⟩
 refine YW ?_;unfold ksk_rest;refine Yv (ZE ?_);rw [List.forIn_toArray];refine Yv (DP (kd:=λd=>cE (kf d)) (E:=E) Fk hr hb trk oS oD hne (λx s' Q' hx=>?_) vs xs ds [] [] _ _ hv hd hF M0 (by simp;omega) λks s' M hkl=>?_)
 ·refine Yv (ZK (YR hx (λkk s2 hk=>?_) λ_ _ z=>z.elim));exact Yv (YR hk (λ_ s3 z=>Yx ⟨rfl,z⟩) λ_ _ z=>z.elim)
 ·rw [Sy,<-Function.comp_def,<-RB] at M;obtain⟨hk,hkn⟩:=LN M;rw [Q8] at hkn;obtain⟨H',kvs,e,I4,hs,_,_⟩:=M.ex;have pS:=I4.pin (h2.objs.size,YK "list" ks.toArray e) Yr;have pD:=I4.pin (D,YK "list" #[] e1) Yr;have I5:af X aaa σ H' s':=I4.pins_of λp hp=>I4.pin p (by simp only [Ry] at hp⊢;exact .inr (.inl hp));refine Yv (listItems_at pS.1 rfl ?_);refine LL (n:=ds.length) (kp:=λi=>(ds.map kf).getD i (0,Q6 "")) lv hkn h64 pS.1 pD.1 hne hk (λi j hi hj ee=>?_) λp pp pu h' c gD kept=>?_
  ·have e1':(ds.map kf).getD i (0,Q6 "")=(ds.map kf)[i]'(by simpa using hi):=by simp [hi]
   have e2':(ds.map kf).getD j (0,Q6 "")=(ds.map kf)[j]'(by simpa using hj):=by simp [hj]
   rw [e1',e2'] at ee;exact(VG nd).mp ee
  ·refine fin _ ⟨.ref D,ai H' D (.lst (p.toList.map λi=>xs.getD i .non)),?_,rfl,q H' _ (p.toList.map λi=>ds.getD i .none) hs pD.2.1 ?_ ?_ ?_⟩
   ·refine I5.track (t':=s'.toks) (ch:=[h2.objs.size,D]) Yr (λb hb=>?_) (λb u hb z=>kept b u (λy=>hb (by simp [y])) (λy=>hb (by simp [y])) z) ⟨?_,_,c,?_,gD⟩
    ·simp only [Rh,Sj,or_false] at hb;rcases hb with rfl | rfl
     ·exact⟨pS.2.1,oS⟩
     ·exact⟨pD.2.1,oD⟩
    ·rw [Q8,RO,pp.size];omega
    ·have:∀l:List Nat,(∀i∈l,i < ds.length)->aH (l.map λi=>xs.getD i .non) (l.map λi=>vs.getD i .none):=by
      intro l
      induction l with
      | nil=>intro _;exact .nil
      | cons a l ih=>
       intro hl;have ha:=hl a Yr;refine .cons ?_ (ih λi hi=>hl i (by simp [hi]));obtain⟨x,ex,rx⟩:=tR hv (show vs[a]?=some (vs[a]'Yn) by simp);have e1':xs.getD a .non=x:=by simp [ex]
       have e2':vs.getD a .none=vs[a]'Yn:=by simp [show a < vs.length by omega]
       show aC (xs.getD a .non) (vs.getD a .none);rw [e1',e2'];exact rx
     exact this _ λi hi=>by simpa using pp.perm.mem_iff.mp hi
   ·have:∀l:List Nat,(∀i∈l,i < ds.length)->ak X.K H' O (l.map λi=>xs.getD i .non) (l.map λi=>ds.getD i .none):=by
     intro l
     induction l with
     | nil=>intro _;exact .nil
     | cons a l ih=>
      intro hl;have ha:=hl a Yr;refine .cons ?_ (ih λi hi=>hl i (by simp [hi]));obtain⟨x,ex,dx⟩:=ro (i:=a) (d:=ds[a]) hd (by simp [ha]);have e1':xs.getD a .non=x:=by simp [ex]
      have e2':ds.getD a .none=ds[a]:=by simp [ha]
      show Dt X.K H' O (xs.getD a .non) (ds.getD a .none);rw [e1',e2'];exact dx.mono hs
    exact this _ λi hi=>by simpa using pp.perm.mem_iff.mp hi
   ·have h1:=pp.perm.map λi=>ds.getD i .none;have e:(SE ds.length).map (λi=>ds.getD i Tq)=ds:=by
     apply Ua Yr;intro i a b;simp at a b⊢;rw [RG b];rfl
    rw [e] at h1;exact h1
   ·rw [SD,Uu];intro i j hi hj hij;have:=pu i j hij (by rw [RO,pp.size] at hj;exact hj);have ei:p.getD i 0=p.toList[i]:=by simp [Ut,show i < p.size by simpa using hi]
    have ej:p.getD j 0=p.toList[j]:=by simp [Ut,show j < p.size by simpa using hj]
    rw [ei,ej] at this;have li:p.toList[i] < ds.length:=by simpa using pp.perm.mem_iff.mp (Ti hi)
    have lj:p.toList[j] < ds.length:=by simpa using pp.perm.mem_iff.mp (Ti hj)
    have ff:∀a,a < ds.length->(ds.map kf).getD a (0,Q6 "")=kf (ds.getD a .none):=λa ha=>by simp [ha]
    dsimp only at this;rw [ff _ li,ff _ lj] at this;exact this
theorem LP{k:Nat}{f l:Yu}{fd:YD}{ps:List Str}{F:List Ys->(Ys->Prop)->Prop}{O:Ex}{kf:Ys->Int×Str}{xs:List V}{ds:List Ys}{Q:VK}
 (hc:X.calm=true)(Fk:aB X.prog X.w X.K X.mg X.base CX0 k f fd ps (aU X.K F))(hr:aY k X.A.in1.in1)(hb:dF X.K fd ps [])(trk:∀l,O l->H l≠none)(I:af X aaa σ H s)(hq:bq X.K H l xs)
 (hd:ak X.K H O xs ds)(hF:∀d∈ds,∀R:Ys->Prop,R (cE (kf d))->F [d] R)(h64:ds.length < 64)(nd:(ds.map kf).Nodup)
 (q:∀(H':Hp) (p:Yu) (xs':List V) (ds':List Ys),ar H H'->H' p=none->ak X.K H' O xs' ds'->ds'.Perm ds->ds'.Pairwise (λa b=>aP (kf a) (kf b)=true)->Q (.ref p) (ai H' p (.lst xs'))):
 Yy (YB X.prog X.w) X.A (call (.builtin "sorted") [.ref l] [(Q6 "key",.ref f)]) (EP X aaa σ Q) X.xe s:=by
 have hsl:YC=16777216:=YY;obtain⟨vs,hv,pl,hz⟩:=I.list hq;have lv:vs.length=ds.length:=by rw [<-hv.length,hd.length]
 refine call_function_entry_kw kind_sorted plain_sorted entry_sorted (ksk_s1 _ _) ?_;unfold Builtin.«sorted»;refine Yv (m:=checkCount "sorted" 1 1 _) (Yx ?_);refine Yv (collect_list pl.isList ?_ Yn);have I1:af X aaa σ H {s with heap:=(s.heap.push (YK "list" #[] 0)).update s.heap.objs.size (SF (·++vs.toArray))}:=by
  refine I.kept (t':=s.toks) λb u z=>?_;have hlt:b < s.heap.objs.size:=Rx z;exact(W2 _ _ _ _ (RI hlt)).trans (Rc _ z)
 generalize (s.heap.push (YK "list" #[] 0)).update s.heap.objs.size (SF (·++vs.toArray))=h1 at*;refine Yv (Zx (s:={s with heap:=h1}) ?_ Yn);have I2:af X aaa σ H {s with heap:=h1.push (YK "list" vs.toArray 0)}:=I1.kept (t':=s.toks) λb u z=>Rc _ z;have gD:(h1.push (YK "list" vs.toArray 0)).get? h1.objs.size=some (YK "list" vs.toArray 0):=RJ _ rfl;refine Yv (YW (wpAny_call_entry_kw ZX ⟨_,gD,rfl⟩ ZW ?_ (ksk_l1 _ _)));rw [ksk_t1];refine LO (kf:=kf) Fk hr hb trk I2 (I1.out (Rf _)) (I1.hok.fresh (Rf _)) gD hv hd hF h64 nd (Q:=Q) (λH' xs' ds' a b c d e=>q H' _ xs' ds' a b c d e) λs' hs'=>?_;exact⟨_,rfl,Yx ⟨_,rfl,hs'⟩⟩
end
section
variable {P:YE} {w:YF} {A:YJ} {E:Yt->Yw->Prop} {s:Yw}
theorem LQ{D:Yu}{vs:List Yt}{n n0:Nat}{kp:Nat->Int×Str}{C:Xg->Yw->Prop}(hv:vs.length=n)(h64:n < 64)(hD:s.heap.get? D=some (YK "list" vs.toArray n0))(hk:∀i v,vs[i]?=some v->iX s.heap v (kp i)/\v≠ .ref D)(hd:∀i j,i < n->j < n->kp i=kp j->i=j)
 (q:∀p,bT n p->Up (λi j=>aP (kp i) (kp j)) p n->∀h' c,h'.get? D=some (YK "list" (p.toList.map λi=>vs.getD i .none).toArray c)->(∀b u,b≠D->s.heap.get? b=some u->h'.get? b=some u)->C (.done (.ret .none)) {s with heap:=h'}):
 Yy (YB P w) A (Builtin.«list.sort» ⟨[.ref D],[]⟩) C E s:=by
 have hsl:YC=16777216:=YY;rw [list_sort_plain];refine Yv (listItems_at hD rfl (Yv (Zy hD rfl ?_ (by rw [RE];omega) (Sd _))));have u1:=Sn s.heap D (SF λ_=>(#[]:Array Yt));have g1:=ZA hD λ_=>(#[]:Array Yt);have k1:∀b u,b≠D->s.heap.get? b=some u->(s.heap.update D (SF λ_=>(#[]:Array Yt))).get? b=some u:=λb u n z=>(u1.2 b n).trans z;generalize s.heap.update D (SF λ_=>(#[]:Array Yt))=h1 at*;generalize (if (#[]:Array Yt).size==vs.toArray.size then n0 else n0+1)=e1 at*;refine Yv (seqEpoch_at (s:={s with heap:=h1}) g1 rfl ?_);refine Yv (wpAny_newTuple ?_ (by show vs.length<=_;omega));refine Yv (Zx ?_ (Sd _));have g2:((h1.push {cls:= .type "tuple",data:= .seq vs.toArray}).push {cls:= .type "list",data:= .seq ([]:List Yt).toArray}).get? D=some (YK "list" #[] e1):=Rc _ (Rc _ g1);have k2:∀b u,b≠D->s.heap.get? b=some u->((h1.push {cls:= .type "tuple",data:= .seq vs.toArray}).push {cls:= .type "list",data:= .seq ([]:List Yt).toArray}).get? b=some u:=λb u n z=>Rc _ (Rc _ (k1 b u n z));show Yy _ _ _ _ _ {s with heap:=(h1.push {cls:= .type "tuple",data:= .seq vs.toArray}).push {cls:= .type "list",data:= .seq ([]:List Yt).toArray}};generalize (h1.push {cls:= .type "tuple",data:= .seq vs.toArray}).push {cls:= .type "list",data:= .seq ([]:List Yt).toArray}=h2 at*;refine YW ?_;have hz:vs.toArray.size=n:=by rw [RE];exact hv
 have last:∀(st:SortSt)(p:Array Nat),bT n p->Up (λi j=>aP (kp i) (kp j)) p n->failedOf st=none->(arrOf st).map (·.2)=(p.toList.map λi=>vs.getD i .none).toArray->
  Yy (YB P w) A (do
   let touched:=(<-seqEpoch D) !=e1
   Wx (.ref D) λ_=>(arrOf st).map (·.2)
   if let some e:=failedOf st then rule "list.sort.comparison-raised";throw e
   if touched then rule "list.sort.modified";raiseError "ValueError" "list modified during sort"
   ret .none) C E {s with heap:=h2}:=by
  intro st p p1 p2 hf ho;rw [ho,hf];refine Yv (seqEpoch_at (s:={s with heap:=h2}) g2 rfl ?_);refine Yv (Zy (s:={s with heap:=h2}) g2 rfl ?_ (Sd _) (by rw [RE,Q8,RO,p1.size];omega));simp only [bne_self_eq_false,SH,if_false];have u3:=Sn h2 D (SF λ_=>(p.toList.map λi=>vs.getD i TY).toArray);exact Yx (q p p1 p2 _ _ (ZA g2 λ_=>(p.toList.map λi=>vs.getD i TY).toArray) λb u n z=>(u3.2 b n).trans (k2 b u n z))
 by_cases h2':n < 2
 ·simp only [hz,h2',if_true];refine Yv (Yx (Yv (Yx ?_)));refine last _ (Xf (SE n)) (wX n) (λi j a b=>by omega) rfl ?_;show(vs.toArray.zip vs.toArray).map (·.2)=_;apply XB.mp;simp only [XC,XD];rw [XE Yn];apply Ua (by simp [hv]);intro i a b;simp at a b⊢;rw [RG a];rfl
 ·simp only [hz,h2',if_false];have hk2:∀i v,vs[i]?=some v->iX h2 v (kp i):=λi v e=>by
   obtain⟨⟨a,o,m,t,u,rfl,x1,x2,x3⟩,ne⟩:=hk i v e;exact⟨a,o,m,t,u,rfl,k2 a o (λz=>ne (by rw [z])) x1,x2,x3⟩
  refine Yv (DL (s:={s with heap:=h2}) hk2 Yn ?_);refine Yv (YR (kat_run (κ:=tuples' true) (ks:=vs) (s:={s with heap:=h2}) (E:=λ_ _=>False) (Q:=λst' s'=>s'={s with heap:=h2}/\∃p,bT n p/\Up (λi j=>aP (kp i) (kp j)) p n/\arrOf st'=p.map (kas_item (vs.toArray.zip vs.toArray))/\failedOf st'=none) (G:=λp s'=>s'={s with heap:=h2}/\bT n p/\Up (λi j=>aP (kp i) (kp j)) p n) rfl Yn Yn
   (λp st' s' a b c d=>⟨d.1,p,d.2.1,d.2.2,b,c⟩) ?_) (λr s' hr=>?_) λ_ _ x=>x.elim)
  ·rw [hv];exact DM (s:={s with heap:=h2}) hv Yn hk2 hd λp a b=>⟨rfl,a,b⟩
  ·obtain⟨rfl,p,p1,p2,p3,p4⟩:=hr;exact last _ p p1 p2 p4 (kat_snds rfl p3)
end
theorem LR{X:Cx}:eJ X (.builtin "sorted") (λxs H Q=>∃(p:Yu)(us:List V)(O:Ex)(ps:List (Int×Str)),xs=[.ref p]/\bq X.K H p us/\ak X.K H O us (ps.map cE)/\ps.length < 64/\ps.Nodup/\∀(l:Yu)(us':List V)(ps':List (Int×Str)),H l=none->ak X.K H O us' (ps'.map cE)->ps'.Perm ps->ps'.Pairwise (λa b=>aP a b=true)->Q (.ref l) (ai H l (.lst us'))):=by
 intro aaa s σ H xs ws Q I r h;obtain⟨l,us,O,ps,rfl,hq,hd,h64,nd,q⟩:=h;obtain⟨u,rfl,rx⟩:=fb r;cases rx;have hsl:YC=16777216:=YY;obtain⟨vs,hv,pl,hz⟩:=I.list hq;have lv:vs.length=ps.length:=by rw [<-hv.length,hd.length,Q8]
 refine Vl kind_sorted plain_sorted entry_sorted (args_sorted1 _) ?_;unfold Builtin.«sorted»;refine Yv (m:=checkCount "sorted" 1 1 _) (Yx ?_);refine Yv (collect_list pl.isList ?_ Yn);have I1:af X aaa σ H {s with heap:=(s.heap.push (YK "list" #[] 0)).update s.heap.objs.size (SF (·++vs.toArray))}:=by
  refine I.kept (t':=s.toks) λb u z=>?_;have hlt:b < s.heap.objs.size:=Rx z;exact(W2 _ _ _ _ (RI hlt)).trans (Rc _ z)
 generalize (s.heap.push (YK "list" #[] 0)).update s.heap.objs.size (SF (·++vs.toArray))=h1 at*;refine Yv (Zx (s:={s with heap:=h1}) ?_ Yn);have I2:af X aaa σ H {s with heap:=h1.push (YK "list" vs.toArray 0)}:=I1.kept (t':=s.toks) λb u z=>Rc _ z;have gD:(h1.push (YK "list" vs.toArray 0)).get? h1.objs.size=some (YK "list" vs.toArray 0):=RJ _ rfl;have hH:H h1.objs.size=none:=I1.hok.fresh (Rf _);have oD:mh X aaa h1.objs.size:=I1.out (Rf _);have isp:∀i v,vs[i]?=some v->iX (h1.push (YK "list" vs.toArray 0)) v (ps.getD i (0,Q6 ""))/\v≠ .ref h1.objs.size:=λi v ei=>by
  have hi:i < ps.length:=by rw [<-lv];exact(Rm.mp ei).1
  obtain⟨x,ex,rx⟩:=tR hv ei;obtain⟨y,ey,dy⟩:=ro (i:=i) (d:=cE ps[i]) hd (by rw [Rt,RG hi];rfl);rw [ex] at ey;cases ey;have e:ps.getD i (0,Q6 "")=ps[i]:=by simp [hi]
  rw [e];have a:=w8 I1 dy rx;refine⟨w8 I2 dy rx,λz=>?_⟩;obtain⟨ad,o,m,t,u,e1,e2,_⟩:=a;rw [e1] at z;cases z;exact absurd (Rx e2) (Um _)
 refine Yv (YW (Y0 ZX ⟨_,gD,rfl⟩ ZW ?_ (args_list_sort _)));refine LQ (s:={s with heap:=h1.push (YK "list" vs.toArray 0)}) (n:=ps.length) (kp:=λi=>ps.getD i (0,Q6 "")) lv h64 gD isp (λi j hi hj ee=>?_) λp pp pu h' c g kept=>?_
 ·have e1':ps.getD i (0,Q6 "")=ps[i]:=by simp [hi]
  have e2':ps.getD j (0,Q6 "")=ps[j]:=by simp [hj]
  rw [e1',e2'] at ee;exact(VG nd).mp ee
 ·have lt:∀i∈p.toList,i < ps.length:=λi hi=>by simpa using pp.perm.mem_iff.mp hi
  have dm:ak X.K H O (p.toList.map λi=>us.getD i .non) ((p.toList.map λi=>ps.getD i (0,Q6 "")).map cE):=by
   have:∀l:List Nat,(∀i∈l,i < ps.length)->ak X.K H O (l.map λi=>us.getD i .non) ((l.map λi=>ps.getD i (0,Q6 "")).map cE):=by
    intro l
    induction l with
    | nil=>intro _;exact .nil
    | cons a l ih=>
     intro hl;have ha:=hl a Yr;refine .cons ?_ (ih λi hi=>hl i (by simp [hi]));obtain⟨x,ex,dx⟩:=ro (i:=a) (d:=cE ps[a]) hd (by rw [Rt,RG ha];rfl);have e1':us.getD a .non=x:=by simp [ex]
     have e2':ps.getD a (0,Q6 "")=ps[a]:=by simp [ha]
     show Dt X.K H O (us.getD a .non) (cE (ps.getD a (0,Q6 "")));rw [e1',e2'];exact dx
   exact this _ lt
  have vm:aH (p.toList.map λi=>us.getD i .non) (p.toList.map λi=>vs.getD i .none):=by
   have:∀l:List Nat,(∀i∈l,i < ps.length)->aH (l.map λi=>us.getD i .non) (l.map λi=>vs.getD i .none):=by
    intro l
    induction l with
    | nil=>intro _;exact .nil
    | cons a l ih=>
     intro hl;have ha:=hl a Yr;refine .cons ?_ (ih λi hi=>hl i (by simp [hi]));obtain⟨x,ex,rx⟩:=tR hv (show vs[a]?=some (vs[a]'Yn) by simp);have e1':us.getD a .non=x:=by simp [ex]
     have e2':vs.getD a .none=vs[a]'Yn:=by simp [show a < vs.length by omega]
     show aC (us.getD a .non) (vs.getD a .none);rw [e1',e2'];exact rx
   exact this _ lt
  refine⟨_,rfl,Yx ⟨_,rfl,.ref h1.objs.size,ai H h1.objs.size (.lst (p.toList.map λi=>us.getD i .non)),?_,rfl,q _ _ (p.toList.map λi=>ps.getD i (0,Q6 "")) hH dm ?_ ?_⟩⟩
  ·refine I2.track (t':=s.toks) (ch:=[h1.objs.size]) Yr (λb hb=>?_) (λb u hb z=>kept b u (λy=>hb (by simp [y])) z) ⟨?_,_,c,vm,g⟩
   ·rw [RF] at hb;subst hb;exact⟨hH,oD⟩
   ·rw [Q8,RO,pp.size];omega
  ·have h1:=pp.perm.map λi=>ps.getD i (0,Q6 "");have e:(SE ps.length).map (λi=>ps.getD i (0,Q6 ""))=ps:=by
    apply Ua Yr;intro i a b;simp at a b⊢;rw [RG b];rfl
   rw [e] at h1;exact h1
  ·rw [SD,Uu];intro i j hi hj hij;have:=pu i j hij (by rw [RO,pp.size] at hj;exact hj);have ei:p.getD i 0=p.toList[i]:=by simp [Ut,show i < p.size by simpa using hi]
   have ej:p.getD j 0=p.toList[j]:=by simp [Ut,show j < p.size by simpa using hj]
   rw [ei,ej] at this;exact this
section
variable {X:Cx} {H0:Hp} {O0:Ex}
def mj(t:DA):DA:=λδ Q=>t δ λds=>∃ps:List (Int×Str),ds=[.list (ps.map cE)]/\ps.length < 64/\ps.Nodup/\∀ps':List (Int×Str),ps'.Perm ps->ps'.Pairwise (λa b=>aP a b=true)->Q (ps'.map cE)
theorem LS{a:YA}{t:DA}{np p:Pos}(hg:Gl X "sorted")(hm:X.mg "sorted"=none)(hv:YS "sorted"=some (.builtin "sorted"))(ha:PA X [a] (gZ X.K H0 O0 t))(he:Yz [a] X.env=(false,eval a X.env)::Yz [] X.env:=by rfl)(hpl:(YM p (Yz [] X.env)).any (·.1)=false:=by rfl):
 FE X H0 O0 (.Call (.Name "sorted" np) [a] [] p) (mj t):=
 (eL LR hg hm hv ha (he:=he) (hpl:=hpl)).imp λσ H Q uu21=>by obtain⟨O,δ,Qd,w,q,k⟩:=uu21;exact⟨O,δ,_,w,q,λds vs H1 uu22 s1 r1=>by
  obtain⟨ps,e,h64,nd,q1⟩:=uu22;subst e;cases r1 with
  | cons h r=>
   cases r;obtain⟨a,us,rfl,h1,d1⟩:=h.lst;exact⟨a,us,O,ps,rfl,h1,d1,h64,nd,λl us' ps' hl hd hp hs=>k _ _ _ _ (q1 ps' hp hs) s1 hl hd⟩⟩
def mm(F:List Ys->(Ys->Prop)->Prop)(kf:Ys->Int×Str)(t:DA):DA:=λδ Q=>t δ λds0=>∃ds,ds0=[.list ds]/\(∀d∈ds,∀R:Ys->Prop,R (cE (kf d))->F [d] R)/\ds.length < 64/\(ds.map kf).Nodup/\∀ds',ds'.Perm ds->ds'.Pairwise (λa b=>aP (kf a) (kf b)=true)->Q ds'
theorem DQ{a:YA}{t:DA}{np p gp kp:Pos}{g:Str}{k:Nat}{f:Yu}{fd:YD}{ps:List Str}{F:List Ys->(Ys->Prop)->Prop}(kf:Ys->Int×Str)(hc:X.calm=true)(Fk:aB X.prog X.w X.K X.mg X.base CX0 k f fd ps (aU X.K F))(hr:aY k X.A.in1.in1)(hb:dF X.K fd ps [])
 (hgg:Gl X g)(hgm:X.mg g=some (.ref f))(hg:Gl X "sorted")(hm:X.mg "sorted"=none)(hv:YS "sorted"=some (.builtin "sorted"))(ha:PA X [a] (gZ X.K H0 O0 t))(hdb:(g==("__debug__":Str))=false:=by decide)
 (he:YM p (Yz [a] X.env)=(false,eval a X.env)::YM p (Yz [] X.env):=by rfl)(hplain:(YM p (Yz [a] X.env)).any (·.1)=false:=by rfl):
 FE X H0 O0 (.Call (.Name "sorted" np) [a] [⟨some "key",.Name g gp,kp⟩] p) (mm F kf t):=by
 intro aaa s σ H Q I h;obtain⟨O,δ,Qd,w,q,kk⟩:=h;refine Zm (qD I hg hm hv ?_);refine callWith_kw (aA (ha p aaa s σ H (λvs H1=>∃ds0,ar H H1/\pG X.K H1 O vs ds0/\∃ds,ds0=[.list ds]/\(∀d∈ds,∀R:Ys->Prop,R (cE (kf d))->F [d] R)/\ds.length < 64/\(ds.map kf).Nodup/\∀ds',ds'.Perm ds->ds'.Pairwise (λa b=>aP (kf a) (kf b)=true)->Qd ds') I ⟨O,δ,_,w,q,λds0 vs H1 q1 s1 r1=>⟨ds0,s1,r1,q1⟩⟩) λus s1 hus=>?_) he hplain rfl rfl;obtain⟨vs,H1,I1,rv,ds0,s1',r1,ds,e,hF,h64,nd,q1⟩:=hus;subst e;refine kws_cons (sg I1 hgg hgm (kws_nil ?_) hdb);cases r1 with
 | cons h r=>
  cases r;obtain⟨ad,xs,rfl,hq,hd⟩:=h.lst;obtain⟨u,rfl,rx⟩:=fb rv;cases rx;exact LP (kf:=kf) hc Fk hr hb (w.mono s1').trk I1 hq hd hF h64 nd λH' l xs' ds' a b c d e=>kk _ _ _ _ (q1 ds' d e) (s1'.trans a) b c
end
section
open PySem.SeqAt
open PySem.AutoSeq1 (wpAny_loadPart')
open PySem.MeetsSeq PySem.MeetsSeq2 PySem.MeetsSeq3
theorem LU(l b:Yu)(n n2:Nat)(dd dd2:Option Yu)(sl sl2:Array (Option Yt))(p q:Int×Str)(t1 t2 t3 t4:Tok):
 Meets (Builtin.«tuple.__lt__» ⟨[.ref l,.ref b],[]⟩)
  (λ_ R s=>s.heap.get? l=some {cls:= .type "tuple",dict:=dd,data:= .seq #[.int p.1 t1,.str p.2 t2] n,slots:=sl}/\s.heap.get? b=some {cls:= .type "tuple",dict:=dd2,data:= .seq #[.int q.1 t3,.str q.2 t4] n2,slots:=sl2}/\
   R (.ok (.ret (.bool (aP p q)))) s):=
 .of_wp λprog w A R s h=>by
  obtain⟨hp,g,d,tk,os⟩:=s;obtain⟨hl,hb,h⟩:=h;have f2:=AutoSeq1.sub_tuple_tuple
  wp_walk using Y5 hl,Y5 hb,wpAny_forIn_list _ (λrest b s'=>b.1=none/\s'=⟨hp,g,d,tk,os⟩/\(rest=[(TN p.1 t1,TN q.1 t3),(UK p.2 t2,UK q.2 t4)]\/(rest=[(UK p.2 t2,UK q.2 t4)]/\p.1=q.1)\/(rest=[]/\p.1=q.1/\p.2=q.2))) _
  case turn=>
   rintro⟨y,x⟩ rest b s' ⟨hb',rfl,h3⟩;rcases h3 with h3 | ⟨h3,e1⟩ | ⟨h3,_⟩
   ·injection h3 with hyx hrest
    injection hyx with hy hx
    subst hy hx;obtain⟨e,he,hiff⟩:=HT.eqAt_int A.in1 ⟨hp,g,d,tk,os⟩ p.1 t1 q.1 t3;refine Yv (he prog w _ _ ?_);cases e with
    | true=>
     wp_walk
     exact⟨rfl,rfl,.inr (.inl ⟨hrest,hiff.mp rfl⟩)⟩
    | false=>
     have ne:p.1≠q.1:=λz=>absurd (hiff.mpr z) Rl;have hri:=HT.rcLt_int A.in1 ⟨hp,g,d,tk,os⟩ p.1 t1 q.1 t3 prog w;have hv:aP p q=decide (p.1 < q.1):=by unfold aP;simp [ne]
     rw [hv] at h
     wp_walk using hri
     exact⟨_,rfl,by simpa using h⟩
   ·injection h3 with hyx hrest
    injection hyx with hy hx
    subst hy hx;have he:=EqAt.str_str (A:=A.in1) (s:=⟨hp,g,d,tk,os⟩) p.2 t2 q.2 t4;refine Yv (he prog w _ _ ?_);cases e:(p.2==q.2) with
    | true=>
     wp_walk
     exact⟨rfl,rfl,.inr (.inr ⟨hrest,e1,eq_of_beq e⟩)⟩
    | false=>
     have hri:∀(E:Yt->Yw->Prop)(Q:Yt->Yw->Prop),Q (.bool (decide (p.2.cps.toList < q.2.cps.toList))) ⟨hp,g,d,tk,os⟩->Yy (YB prog w) A.in1 (richCompare .Lt (.str p.2 t2) (.str q.2 t4)) Q E ⟨hp,g,d,tk,os⟩:=λE Q z=>(lt_str z:Yy (YB prog w) A.in1 (YO .Lt (.str p.2 t2) (.str q.2 t4)) Q E _);have hv:aP p q=decide (p.2.cps.toList < q.2.cps.toList):=by unfold aP;simp [e1]
     rw [hv] at h
     wp_walk using hri
     exact⟨_,rfl,by simpa using h⟩
   ·cases h3
  case fin=>
   rintro⟨b1,b2⟩ s' ⟨hb',rfl,h3⟩;simp only at hb';subst hb';rcases h3 with h3 | ⟨h3,e1⟩ | ⟨h3,e1,e2⟩
   ·cases h3
   ·cases h3
   ·have hv:aP p q=false:=by unfold aP;rw [e1,e2];simp
    rw [hv] at h
    wp_walk
    exact⟨_,rfl,by simpa [Builtin.Tuple.tupleCompareSizes] using h⟩
  case h=>
   exact⟨rfl,rfl,.inl rfl⟩
end
def DR(K:Q7):R2:=λx y H Q=>∃a b p q,x= .ref a/\y= .ref b/\bw K H a [.int p.1,.str p.2]/\bw K H b [.int q.1,.str q.2]/\Q (.bl (aP p q)) H
theorem LV{X:Cx}(hu:X.A.units < YQ):bN X (YO .Lt) (DR X.K):=by
 intro aaa s σ H x y v u Q I rx ry h;obtain⟨a,b,p,q,rfl,rfl,ha,hb,z⟩:=h;cases rx;cases ry;obtain⟨its,r1,⟨⟨c1,d1,da1,s1⟩,o1,k1,n1,e1⟩,_⟩:=I.tuple ha;obtain⟨its2,r2,⟨⟨c2,d2,da2,s2⟩,o2,k2,n2,e2⟩,_⟩:=I.tuple hb;simp only at k1 e1 k2 e2;subst k1 e1 k2 e2;cases r1 with
 | cons x1 r1=>
  cases r1 with
  | cons x2 r1=>
   cases r1;obtain⟨t1,rfl⟩:=x1;obtain⟨t2,rfl⟩:=x2;cases r2 with
   | cons y1 r2=>
    cases r2 with
    | cons y2 r2=>
     cases r2;obtain⟨t3,rfl⟩:=y1;obtain⟨t4,rfl⟩:=y2;exact richCompare_meets_room (op:= .Lt) ⟨_,o1,rfl⟩ ⟨_,o2,rfl⟩ PySem.F.slot_tuple_lt PySem.F.entry_tuple_lt (PySem.F.args_tuple_lt_2 _ _) (LU a b n1 n2 d1 d2 s1 s2 p q t1 t2 t3 t4) ⟨o1,o2,(λx=>nomatch x),.bl (aP p q),H,I,rfl,z⟩ hu
def mn:Ys->Ys->(Ys->Prop)->Prop:=λx y Q=>∃p q:Int×Str,x=cE p/\y=cE q/\Q (.bool (aP p q))
theorem LW{K:Q7}:cK K (DR K) mn:=λH O x y dx dy Qd R _ hx hy uu23 k=>by
 obtain⟨p,q,e1,e2,z⟩:=uu23;subst e1 e2;obtain⟨a,xs,rfl,h1,g1⟩:=hx.tup;obtain⟨b,ys,rfl,h2,g2⟩:=hy.tup;cases g1 with
 | cons x1 g1=>
  cases g1 with
  | cons x2 g1=>
   cases g1;cases x1;cases x2;cases g2 with
   | cons y1 g2=>
    cases g2 with
    | cons y2 g2=>
     cases g2;cases y1;cases y2;exact⟨a,b,p,q,rfl,rfl,h1,h2,k _ _ H z (ar.refl _) (.bl _)⟩
section
variable {X:Cx} {H0:Hp} {O0:Ex}
def LX(tc:DB)(tb:DS):DS:=λE δ=>∃W:Nat->Dl->Prop,(∃m,W m δ)/\∀m δ,W m δ->tc δ λb=>if b=true then tb {E with nx:=λδ'=>∃m',m' < m/\W m' δ',ct:=λδ'=>∃m',m' < m/\W m' δ',bk:=E.nx} δ else E.nx δ
theorem xc{c:YA}{body:List YH}{tc:DB}{tb:DS}{pos:Pos}(hp:ZP (YB X.prog X.w) X.A X.env X.xe)(hc:PT X c (bO X.K H0 O0 tc))(hb:bP X body (bg X.K H0 O0 tb)):PS X (.While c body [] pos) (bg X.K H0 O0 (LX tc tb)):=
 (By hp hc hb).imp λD σ H uu24=>by
  obtain⟨O,δ,E,w,⟨W,⟨m0,w0⟩,st⟩,k1,k2,k3,k4⟩:=uu24;refine⟨λm σ' H'=>∃O' δ',Wd X.K H0 O0 H' O' σ' δ'/\aM H H' O O'/\W m δ',⟨m0,O,δ,w,aM.refl _ _,w0⟩,λm σ1 H1 ⟨O1,δ1,w1,S1,q1⟩=>⟨O1,δ1,_,w1,st m δ1 q1,λb H2 q2 s2=>?_⟩⟩;cases b with
  | false=>
   rw [Yo Yr] at q2⊢;exact k1 O1 δ1 σ1 H2 q2 (w1.mono s2) (S1.trans (.same s2))
  | true=>
   rw [Yp rfl] at q2⊢;refine⟨λσ' H'=>∃O' δ' m',m' < m/\Wd X.K H0 O0 H' O' σ' δ'/\aM H H' O O'/\W m' δ',λσ' H' uu26=>by obtain⟨O',δ',m',lt,w',S',q'⟩:=uu26;exact⟨m',lt,O',δ',w',S',q'⟩,O1,δ1,_,w1.mono s2,q2,?_,k2,?_,?_⟩
   ·rintro O' δ' σ' H' ⟨m',lt,q'⟩ w' S';exact⟨O',δ',m',lt,w',S1.trans ((aM.same s2).trans S'),q'⟩
   ·intro O' δ' σ' H' q' w' S';exact k1 O' δ' σ' H' q' w' (S1.trans ((aM.same s2).trans S'))
   ·rintro O' δ' σ' H' ⟨m',lt,q'⟩ w' S';exact⟨O',δ',m',lt,w',S1.trans ((aM.same s2).trans S'),q'⟩
theorem br.vals{K:Q7}{H:Hp}{O:Ex}{kv:List (ah×V)}{kd:List (ah×Ys)}(h:br K H O kv kd):ak K H O (kv.map (·.2)) (kd.map (·.2)):=by
 induction h with
 | nil=>exact .nil
 | cons a _ ih=>exact .cons a ih
abbrev dS(ks:List Str)(ds:List Ys):Ys:=Cq (ks.map .str) ds
def mq(i:Nat)(t:DS):DS:=λE δ=>∃kd,δ[i]?=some (some (.k kd))/\∃ks:List Str,kd.map (·.1)=ks.map R9/\t E (δ.set i (some (.v (dS ks (kd.map (·.2))))))
theorem cD.z{H:Hp}{a:Yu}{ob:Obj}{kvs:List (ah×V)}{k:ah}(e:H a=some (.frz ob (.dK kvs))):cD H a (kV k) (d9 kvs k):= .inl ⟨kvs,k,.inr ⟨ob,e⟩,rfl,rfl⟩
theorem af.fast{X:Cx}{aaa:List (Yu×Obj)}{σ:St}{H:Hp}{s:Yw}(I:af X aaa σ H s){a:Yu}{kv:List (ah×V)}(ha:H a=some (.dK kv)):∃o,af X aaa σ (ai H a (.frz o (.dK kv))) s:=by
 obtain⟨z,hd,vs,rel,o,es,ep,g,r1,r2,r3⟩:=I.hok a _ ha;exact⟨o,I.write (x:=a) (e:=a) (o:= .frz o (.dK kv)) (h':=s.heap) (t':=s.toks) (by rw [ha];exact S9) (.inl rfl) (λ_ _ _ q=>q) ⟨o,g⟩ ⟨g,z,hd,vs,rel,o,es,ep,g,r1,r2,r3⟩⟩
theorem LY{st:YH}{t:TS}(h:PS X st t)(i:Nat):PS X st (λD σ H=>∃a kv,σ[i]?=some (some (.ref a))/\H a=some (.dK kv)/\∀o,t D σ (ai H a (.frz o (.dK kv)))):=by
 intro aaa s σ H D I q;obtain⟨a,kv,_,ha,q⟩:=q;obtain⟨o,I2⟩:=I.fast ha;exact h aaa s σ _ D I2 (q o)
theorem Wd.tell{K:Q7}{H0 H:Hp}{O0 O:Ex}{σ:St}{δ:Dl}(w:Wd K H0 O0 H O σ δ){i:Nat}{v:V}{d:Ys}(h:σ[i]?=some (some v))(hd:Dt K H O v d):Wd K H0 O0 H O σ (δ.set i (some (.v d))):=by
 have li:i < δ.length:=by rw [<-w.len];exact(Rm.mp h).1
 have ne:∀{j:Nat}{y:Sl},(δ.set i (some (.v d)))[j]?=some (some y)->y.own->j≠i:=λ{j y} q hy z=>by
  subst z;rw [RL li] at q;cases q;exact hy
 refine⟨w.same,w.sub,w.new,w.trk,by simp [w.len],λj y q=>?_,λj k y z l' e1 y1 e2 z2 e3 e4=>?_⟩
 ·by_cases hj:j=i
  ·subst hj;rw [RL li] at q;cases q;exact⟨v,by rw [h];rfl,hd⟩
  ·rw [Rr (Ne.symm hj)] at q;exact w.sl j y q
 ·have n1:=ne e1 y1;have n2:=ne e2 z2;rw [Rr (Ne.symm n1)] at e1;rw [Rr (Ne.symm n2)] at e2;exact w.dis j k _ _ l' e1 y1 e2 z2 e3 e4
theorem xf(i:Nat){st:YH}{t:DS}(h:PS X st (bg X.K H0 O0 t)):PS X st (bg X.K H0 O0 (mq i t)):=
 (LY h i).imp λD σ H uu27=>by
  obtain⟨O,δ,E,w,⟨kd,e,ks,ek,q⟩,k1,k2,k3,k4⟩:=uu27;obtain⟨l,kv,h,a,b,c,r⟩:=w.ownK e;refine⟨l,kv,h,c,λo=>?_⟩;obtain⟨O',w',S,n⟩:=w.frzK (y0:= .k kd) e trivial h (.frz o (.dK kv));have w2:=w'.tell (d:=dS ks (kd.map (·.2))) h (.dic bh (by rw [r.keys];exact ek) rfl n (r.vals.step S));rw [List.set_set] at w2;exact⟨O',_,E,w2,q,λO2 δ2 σ2 H2 z2 w2 S2=>k1 O2 δ2 σ2 H2 z2 w2 (S.trans S2),k2,λO2 δ2 σ2 H2 z2 w2 S2=>k3 O2 δ2 σ2 H2 z2 w2 (S.trans S2),λO2 δ2 σ2 H2 z2 w2 S2=>k4 O2 δ2 σ2 H2 z2 w2 (S.trans S2)⟩
theorem pP:∀{a b:List Str},a.map Ra=b.map Ra->a=b
 | [],[],_=>rfl
 | [],_::_,h=>by cases h
 | _::_,[],h=>by cases h
 | x::a,y::b,h=>by
  simp only [Rb,RZ,SJ] at h;rw [h.1,pP h.2]
def aV:List Str->List Ys->Str->Option Ys
 | k::ks,d::ds,z=>if k=z then some d else aV ks ds z
 | _,_,_=>none
theorem rA{K:Q7}{H:Hp}{O:Ex}{z:Str}{d:Ys}:∀{kv:List (ah×V)}{ks:List Str}{ds:List Ys},kv.map (·.1)=ks.map R9->ak K H O (kv.map (·.2)) ds->aV ks ds z=some d->∃v,d9 kv (.inr z)=some v/\Dt K H O v d
 | [],[],ds,_,_,e=>by unfold aV at e;cases e
 | [],_::_,ds,h,_,_=>by cases h
 | _::_,[],ds,h,_,_=>by cases h
 | p::kv,k::ks,ds,h,hd,e=>by
  rw [Rb] at hd;cases hd with
  | cons h1 h2=>
   simp only [Rb,RZ] at h;obtain⟨p1,p2⟩:=p;obtain⟨rfl,h⟩:=h;unfold aV at e;by_cases hk:k=z
   ·rw [Yp hk] at e;cases e;exact⟨p2,qV (by rw [hk]),h1⟩
   ·rw [Yo hk] at e;obtain⟨v,a,b⟩:=rA h h2 e;exact⟨v,by rw [pN (λq=>hk (jw.mp q))];exact a,b⟩
def jA(to tk:DT):DT:=λδ Q=>to δ λx=>∃ks ds,x=dS ks ds/\tk δ λy=>∃z,y= .str z/\∃d,aV ks ds z=some d/\Q d
theorem DU{o e:YA}{to tk:DT}{pos:Pos}(hu:X.A.units+64 < YQ)(ho:DE X H0 O0 o to)(he:DE X H0 O0 e tk)(hs:tE e):DE X H0 O0 (.Subscript o e pos) (jA to tk):=
 (CG Yn ho he hs).imp λσ H Q uu28=>by
  obtain⟨O,δ,Qd,w,q,k⟩:=uu28;refine⟨O,δ,_,w,q,λx vx H1 ⟨ks,ds,ex,q1⟩ s1 r1=>?_⟩;subst ex;refine⟨O,δ,_,w.mono s1,q1,λy vy H2 ⟨z,ey,d,ed,q2⟩ s2 r2=>?_⟩;subst ey;cases r2;cases r1 with
  | @dic a ob kv ks' kp ds h e1 e2 n rr=>
   have ek:ks'=ks:=by
    have:ks'.map Ra=ks.map Ra:=e2.symm;exact pP this
   subst ek;obtain⟨v,hv,dv⟩:=rA e1 rr ed;exact⟨a,v,rfl,by rw [<-hv];exact cD.z (k:= .inr z) (s2 _ _ h),k _ _ _ q2 (s1.trans s2) (dv.mono s2)⟩
theorem ak.ofInts{K:Q7}{H:Hp}{O:Ex}:∀(ns:List Int),ak K H O (ns.map V.int) (ns.map Rg)
 | []=>.nil
 | n::ns=>.cons (.int n) (ak.ofInts ns)
def mr(t:DT)(g:DG)(tc:DB)(te:DT)(k:Nat)(fr:List Nat):DA:=λδ Q=>jq t g tc te k fr δ Q\/jr t g tc te k fr δ Q
theorem LZ{N':List Str}{k:Nat}{fr:List Nat}{scope:Y4}{iter elt tg:YA}{ifs:List YA}{t te:DT}{tc:DB}{g:TG}{dg:DG}{pos:Pos}(hc:X.calm=true)(S:aZ X.env.scope X.N N' k fr scope)(hi:DF X H0 O0 iter t)(gd:GD X.K g dg)(hk:jo g k)(hfr:fr.Nodup)
 (hg:∀fp C s H,PG (bE X scope N' fp C s H) tg g)(hf:∀fp C s H,fJ (bE X scope N' fp C s H) ifs (bO X.K H0 O0 tc))(he:∀fp C s H,PE (bE X scope N' fp C s H) elt (up X.K H0 O0 te))
 (hs:∀x,YL iter X.env x=pure x:=by intro _;rfl):FE X H0 O0 (.ListComp elt [⟨tg,iter,ifs,0⟩] scope pos) (mr t dg tc te k fr):=by
 intro aaa s σ H Q I h;obtain⟨O,δ,Qd,w,q,kk⟩:=h;rcases q with q | q
 ·exact fh hc S hi gd hk hfr hg hf he hs aaa s σ H Q I ⟨O,δ,Qd,w,q,kk⟩
 ·exact kQ hc S hi gd hk hfr hg hf he hs aaa s σ H Q I ⟨O,δ,Qd,w,q,kk⟩
end
theorem L1{fr:List Nat}{σ:St}{v u:Option V}:kr (bx 2 fr σ) (((bx 2 fr σ).set 0 v).set 1 u):=by
 refine⟨Yr,λi w h=>?_⟩
 match i with
 | 0=>simp [bx,RR] at h
 | 1=>simp [bx,RR] at h
 | i+2=>simpa [bx,RR] using h
theorem xh{K:Q7}{n:Nat}:jo (qF K n (kn (gH 0) (kn (gH 1) qE))) 2:=λfr σ v H' R uu31=>by obtain⟨a,xs,e,h1,h2,x,r,e1,y,r2,e2,e3,h⟩:=uu31;exact⟨a,xs,e,h1,h2,x,r,e1,y,r2,e2,e3,L1,h⟩
def dU(f:Str)(d:Ys):List (Str×Ys)->List (Str×Ys)
 | []=>[(f,d)]
 | (g,x)::r=>if g=f then(g,d)::r else(g,x)::dU f d r
theorem iL.put{K:Q7}{H:Hp}{O:Ex}{f:Str}{v:V}{d:Ys}(hv:Dt K H O v d):∀{fs:List (Str×V)}{fd:List (Str×Ys)},iL K H O fs fd->iL K H O (dE f v fs) (dU f d fd)
 | [],[],_=>⟨rfl,.cons hv .nil⟩
 | [],_::_,h=>by cases h.1
 | _::_,[],h=>by cases h.1
 | (g,x)::fs,(g',y)::fd,⟨h1,h2⟩=>by
  simp only [Rb,RZ] at h1;obtain⟨rfl,h1⟩:=h1;simp only [Rb] at h2;cases h2 with
  | cons a r=>
   unfold dE dU;by_cases e:g=f
   ·rw [Yp e,Yp e];exact⟨by simp only [Rb,h1],.cons hv r⟩
   ·rw [Yo e,Yo e];obtain⟨q1,q2⟩:=iL.put hv (fs:=fs) (fd:=fd) ⟨h1,r⟩;exact⟨by simp only [Rb,q1],.cons a q2⟩
section
variable {X:Cx} {H0:Hp} {O0:Ex}
def mv(C:Yu)(i:Nat)(f:Str)(t:DT):DS:=λE δ=>t δ λd=>∃l fd,δ[i]?=some (some (.i l C fd))/\fd.length < 1000/\E.nx (δ.set i (some (.i l C (dU f d fd))))
theorem fP{C:Yu}{i:Nat}{f:Str}{o e:YA}{t:DT}{pos pos':Pos}(hc:cW X.K C)(hn:NoAttr X.K C f)(ho:PE X o (cA i))(he:DE X H0 O0 e t)(hs:YN e (some (.Attribute o f pos')) pos.line X.env=pure false:=by rfl):
 PS X (.Assign [.Attribute o f pos'] e pos) (bg X.K H0 O0 (mv C i f t)):=
 (vO ho he hs).imp λD σ H ⟨O,δ,E,w,q,k1,k2,k3,k4⟩=>⟨O,δ,_,w,q,λd u H1 uu33 s1 r1=>by
  obtain⟨l,fd,e,hl,q1⟩:=uu33;have w1:=w.mono s1;obtain⟨dx,fs,h,a,b,c,r⟩:=w1.ownI e;have lf:fs.length=fd.length:=by have:=congrArg WG r.1;simpa using this
  refine⟨.ref l,h,l,C,dx,fs,rfl,c,hc,hn,by rw [lf];exact hl,k1 _ _ _ _ q1 (w1.putY (y0:= .i l C fd) (y1:= .i l C (dU f d fd)) trivial trivial e h λS a b=>⟨dx,_,rfl,a,b,bh,?_⟩) ⟨λb' o' z n=>?_,λ_ _ n=>n⟩⟩
  ·obtain⟨z1,z2⟩:=r.put (f:=f) r1;exact⟨z1,z2.step S⟩
  ·rw [az (λy=>n (by rw [y];exact a))];exact s1 _ _ z⟩
abbrev DV(C:Yu)(fd:List (Str×Ys)):Ys:=fK C (fd.map λp=>.str p.1) (fd.map (·.2))
inductive rB (K:Q7) (C:Yu) (F:List Ys->(Ys->Prop)->Prop) (vs:List V) (H:Hp) (Q:VK) (E:XK):Prop
 | mk (x dx:Yu) (vs':List V) (H1:Hp) (O:Ex) (ds:List Ys) (Qd:Ys->Prop):vs= .ref x::vs'->H=ai (ai H1 dx (.own x)) x (.ins C dx [])->H1 x=none->H1 dx=none->dx≠x->(∀l,O l->H1 l≠none)->ak K H1 O vs' ds->F ds Qd->
 (∀d H',Qd d->ar H1 H'->Dt K H' O (.ref x) d->Q .non H')->rB K C F vs H Q E
theorem xi{K:Q7}{C:Yu}{F:List Ys->(Ys->Prop)->Prop}{t:DA}{E:XK}:∀σ H Q,up K H0 O0 (gY F t) σ H Q->BZ C (rB K C F) [] E (gi K H0 O0 t) σ H Q:=
 λσ H Q uu34=>by obtain⟨O,δ,Qd,w,q,k⟩:=uu34;exact⟨O,δ,_,w,q,λds vs H1 q1 s1 r1 x dx hx hdx ne=>⟨x,dx,vs,H1,O,ds,Qd,by rw [RY],rfl,hx,hdx,ne,(w.mono s1).trk,r1,q1,λd H2 q2 s2 r2=>⟨rfl,k d _ H2 q2 (s1.trans s2) r2⟩⟩⟩
def tS(N:List Str)(l C:Yu)(ds:List Ys):Dl:=some (.i l C [])::(fC N (.none::ds)).tail
theorem L3{K:Q7}{H1:Hp}{O:Ex}{N:List Str}{vs:List V}{ds:List Ys}{x dx C:Yu}(tr:∀l,O l->H1 l≠none)(r:ak K H1 O vs ds)(hx:H1 x=none)(hdx:H1 dx=none)(ne:dx≠x):
 Wd K H1 O (ai (ai H1 dx (.own x)) x (.ins C dx [])) (λl=>O l\/l=x) (start N (.ref x::vs)) (tS N x C ds):=by
 have w0:=Cy (N:=N) tr (.cons .non r);have w1:=w0.mono (ar.new (o:=HO.own x) hdx);have hx1:(ai H1 dx (.own x)) x=none:=by rw [az (Ne.symm ne)];exact hx
 have:=w1.setY (i:=0) (p:=x) (ho:= .ins C dx []) (y0:= .i x C []) trivial hx1 λO' S a b=>⟨dx,[],rfl,a,b,bh,rfl,.nil⟩;exact this
end
section
variable {P:YE} {w:YF} {K:Q7} {mg:Str->Option Yt} {base:YG}
theorem fc.okI{x qual:Str}{st:YH}{f C:Yu}{fd:YD}{N ps:List Str}{k:Nat}{F:List Ys->(Ys->Prop)->Prop}(Fu:fc K x qual st f fd)(S:aN N ps (av st))(len:∀ds Q,F ds Q->ds.length+1=ps.length)
 (hbody:∀(cdv:Yt) (A:YJ) (outer:List Env) (s:Yw) (H H1:Hp) (O:Ex) (ds:List Ys) (Q:Ys->Prop) (E:XK) (l:Yu),aY k (A.deeper (Zw qual (av st) s.heap.objs.size f cdv))->F ds Q->
  ∃t,bP (iI CX0 P w K mg base N qual (av st) f cdv A outer s H E).nox (fI st) (bg K H1 O t)/\t {nx:=λδ=>∃fd,δ[0]?=some (some (.i l C fd))/\Q (DV C fd),rt:=λ_=>False} (tS N l C ds)):aB P w K mg base CX0 (k+1) f fd ps (rB K C F):=by
 refine Fu.ok S (λvs H Q E h=>?_) (λcdv A outer s H vs Q E hr h=>?_)
 ·obtain⟨x,dx,vs',H1,O,ds,Qd,rfl,_,_,_,_,_,r,q,_⟩:=h;rw [Rq,r.length];exact len _ _ q
 ·obtain⟨x,dx,vs',H1,O,ds,Qd,rfl,rfl,hx,hdx,ne,tr,r,q,k⟩:=h;obtain⟨t,ht,q'⟩:=hbody cdv A outer s _ H1 O ds Qd E x hr q;refine⟨_,ht,_,_,_,L3 tr r hx hdx ne,q',λO' δ' σ' H' z w' S'=>?_,λd v H' z s' r'=>z.elim,λ_ _ _ _ z=>z.elim,λ_ _ _ _ z=>z.elim⟩;obtain⟨fd,e,z⟩:=z;obtain⟨dx',fs,h,a,b,c,r1,r2⟩:=w'.ownI e;refine k _ _ z w'.same (.obj c ?_ b (r2.step ⟨λ_ _ y _=>y,λb' _ n z=>n (w'.sub b' z)⟩));rw [show(fd.map λp:Str×Ys=>Ra p.1)=(fd.map (·.1)).map Ra by rw [RB];rfl,<-r1,RB];rfl
end
theorem Dt.objI{K:Q7}{H:Hp}{O:Ex}{v:V}{C:Yu}{kp ds:List Ys}(h:Dt K H O v (fK C kp ds)):∃a dx fs,v= .ref a/\H a=some (.ins C dx fs)/\kp=fs.map (λp=>Ra p.1)/\ak K H O (fs.map (·.2)) ds:=by
 generalize e:fK C kp ds=x at h;cases h with
 | @obj a C' dx fs kp' ds' h1 h2 n r=>
  simp only [fK,Xr,RZ,VE,SI,SX,Te,and_true,true_and] at e;obtain⟨e1,e2,e3⟩:=e;have e1:C=C':=by exact_mod_cast e1
  subst e1 e2 e3;exact⟨a,dx,fs,rfl,h1,h2,r⟩
 | _=>first | cases e | simp [fK] at e
section
variable {X:Cx} {H0:Hp} {O0:Ex}
theorem DW{K:Q7}{H:Hp}{O:Ex}{f:Str}{d:Ys}:∀{fs:List (Str×V)}{ks:List Str}{ds:List Ys},fs.map (λp=>Ra p.1)=ks.map Ra->ak K H O (fs.map (·.2)) ds->aV ks ds f=some d->∃v,fs.lookup f=some v/\Dt K H O v d
 | [],[],ds,_,_,e=>by unfold aV at e;cases e
 | [],_::_,ds,h,_,_=>by cases h
 | _::_,[],ds,h,_,_=>by cases h
 | (g,x)::fs,k::ks,ds,h,hd,e=>by
  rw [Rb] at hd;cases hd with
  | cons h1 h2=>
   simp only [Rb,RZ,SJ] at h;obtain⟨rfl,h⟩:=h;unfold aV at e;rw [RP];by_cases hk:g=f
   ·rw [Yp hk] at e;cases e;subst hk;exact⟨x,Yr,h1⟩
   ·rw [Yo hk] at e;have:(f==g)=false:=by simpa using Ne.symm hk
    rw [this];exact DW h h2 e
def mw(C:Yu)(f:Str)(t:DT):DT:=λδ Q=>t δ λx=>∃ks ds d,x=fK C (ks.map .str) ds/\aV ks ds f=some d/\Q d
theorem cg{C:Yu}{f:Str}{e:YA}{t:DT}{pos:Pos}(hc:cW X.K C)(hn:NoAttr X.K C f)(he:DE X H0 O0 e t)(hb:YX e f X.env (eval e X.env)=eval e X.env:=by rfl):DE X H0 O0 (.Attribute e f pos) (mw C f t):=
 (sJ he hb).imp λσ H Q uu35=>by obtain⟨O,δ,Qd,w,q,k⟩:=uu35;exact⟨O,δ,_,w,q,λx v H1 uu36 s1 r1=>by
  obtain⟨ks,ds,d,ex,ed,q1⟩:=uu36;subst ex;obtain⟨a,dx,fs,rfl,h1,h2,r⟩:=r1.objI;obtain⟨v,hv,dv⟩:=DW h2.symm r ed;exact⟨a,C,dx,fs,v,rfl,h1,hc,hn,hv,k _ _ _ q1 s1 dv⟩⟩
end
def gB(xs:Array Nat):Prop:=xs.toList.Pairwise (· < ·)
theorem gB.lt{xs:Array Nat}(h:gB xs){i k:Nat}(hik:i < k)(hk:k < xs.size):xs[i]'Yn < xs[k]:=by
 have:=Uu.mp h i k (by simpa using(by omega:i < xs.size)) (by simpa using hk) hik;simpa using this
theorem L4{xs:Array Nat}(h:gB xs){j:Nat}:∀(f lo hi:Nat),hi - lo<=f->lo<=hi->hi<=xs.size->(∀k(hk:k < xs.size),k < lo->xs[k] < j)->(∀k(hk:k < xs.size),hi<=k->j<=xs[k])->
 lo<=UX xs j f lo hi/\UX xs j f lo hi<=hi/\(∀k(hk:k < xs.size),k < UX xs j f lo hi->xs[k] < j)/\(∀k(hk:k < xs.size),UX xs j f lo hi<=k->j<=xs[k]):=by
 intro f
 induction f with
 | zero=>
  intro lo hi a b c d e;obtain rfl:lo=hi:=Yn
  exact⟨Rf _,Rf _,d,e⟩
 | succ f ih=>
  intro lo hi a b c d e;unfold UX;by_cases hl:lo < hi
  ·rw [Yp hl];simp only;have hm:(lo+hi)/ 2 < xs.size:=Yn
   have eg:xs.getD ((lo+hi)/ 2) j=xs[(lo+hi)/ 2]:=by simp [Ut,hm]
   rw [eg];split
   ·rename_i hx;have d':∀k(hk:k < xs.size),k < (lo+hi)/ 2+1->xs[k] < j:=λk hk hlt=>by
     rcases Tz k ((lo+hi)/ 2) with z | z
     ·exact VS (h.lt z hm) hx
     ·obtain rfl:k=(lo+hi)/ 2:=Yn
      exact hx
    obtain⟨p,q,r,s⟩:=ih ((lo+hi)/ 2+1) hi Yn Yn c d' e;exact⟨Yn,q,r,s⟩
   ·rename_i hx;have e':∀k(hk:k < xs.size),(lo+hi)/ 2<=k->j<=xs[k]:=λk hk hge=>by
     rcases Tz ((lo+hi)/ 2) k with z | z
     ·exact RS (TK hx) (Uh (h.lt z hk))
     ·obtain rfl:k=(lo+hi)/ 2:=Yn
      exact TK hx
    obtain⟨p,q,r,s⟩:=ih lo ((lo+hi)/ 2) Yn Yn Yn d e';exact⟨p,Yn,r,s⟩
  ·rw [Yo hl];obtain rfl:lo=hi:=Yn
   exact⟨Rf _,Rf _,d,e⟩
theorem xj{xs:Array Nat}(h:gB xs)(j:Nat):SW xs j<=xs.size/\(∀k(hk:k < xs.size),k < SW xs j->xs[k] < j)/\(∀k(hk:k < xs.size),SW xs j<=k->j<=xs[k]):=by
 unfold SW;obtain⟨_,b,c,d⟩:=L4 h (j:=j) xs.size 0 xs.size Yn (Sd _) (Rf _) (λk hk z=>absurd z Yn) (λk hk z=>absurd hk Yn);exact⟨b,c,d⟩
theorem L5{xs:Array Nat}(h:gB xs){i:Nat}(hi:i < xs.size):SW xs (xs[i]+1)=i+1:=by
 obtain⟨a,b,c⟩:=xj h (xs[i]+1);apply Nat.le_antisymm
 ·refine TK λz=>?_;have:=b (i+1) Yn z;have:=h.lt (show i < i+1 by omega) (show i+1 < xs.size by omega);omega
 ·refine TK λz=>?_;have:=c i hi Yn;omega
theorem L6{xs:Array Nat}(h:gB xs):SW xs 0=0:=by
 obtain⟨a,b,c⟩:=xj h 0;refine Nat.eq_zero_of_not_pos λz=>?_;exact absurd (b 0 Yn z) Yn
theorem gB.ins{xs:Array Nat}(h:gB xs){j:Nat}(hj:xs[SW xs j]?≠some j):gB (SetTable.insertAt xs (SW xs j) j):=by
 obtain⟨a,b,c⟩:=xj h j;have h0:xs.toList.Pairwise (· < ·):=h;unfold gB;rw [SetTable.toList_insertAt];generalize SW xs j=p at*;rw [<-U3 p xs.toList,Vb] at h0;rw [Vb];have lt1:∀x∈xs.toList.take p,x < j:=λx hx=>by
  obtain⟨k,hk,rfl⟩:=VZ hx;rw [Sg] at hk;rw [List.getElem_take];have:=b k (by simp at hk;omega) Yn;simpa using this
 have lt2:∀x∈xs.toList.drop p,j < x:=λx hx=>by
  obtain⟨k,hk,rfl⟩:=VZ hx;rw [Va] at hk;rw [List.getElem_drop];have hs:p+k < xs.size:=by simp at hk;omega
  have h1:=c (p+k) hs Yn;have h2:xs[p+k]≠j:=λe=>by
   rcases Nat.eq_zero_or_pos k with z | z
   ·subst z;exact hj (by rw [Uv (show p < xs.size from hs)];exact congrArg some e)
   ·have:=c p Yn (Rf _);have:=h.lt (show p < p+k by omega) hs;omega
  have:j < xs[p+k]:=Yn
  simpa using this
 refine⟨h0.1,Su.mpr ⟨lt2,h0.2.1⟩,λx hx y hy=>?_⟩;rcases Rh.mp hy with e | hy
 ·rw [e];exact lt1 x hx
 ·exact h0.2.2 x hx y hy
theorem L7{t:Y6}{ha:Nat->Int}{h:Int}(hd:t.dummies=#[]):∀(f:Nat)(p:SetTable.Probe){j:Nat}{d:Option Nat},p.dummy=none->Xs t ha h f p=some (.empty j d)->d=none/\t.place[SW t.place j]?≠some j:=by
 intro f
 induction f with
 | zero=>intro p j d _ e;cases e
 | succ f ih=>
  intro p j d hp e;unfold Xs at e;have nd:∀k,SetTable.has t.dummies k=false:=λk=>by rw [hd];rfl
  have adv:(t.advance p).dummy=none:=by unfold SetTable.advance;split <;> exact hp
  cases hs:t.slot p.j with
  | empty=>
   rw [hs] at e;simp only [SM,SetTable.Met.empty.injEq] at e;obtain⟨rfl,rfl⟩:=e;refine⟨hp,λz=>?_⟩;unfold X4 at hs;simp only [z,beq_self_eq_true,if_true] at hs;cases hs
  | dummy=>
   unfold X4 at hs;simp only [nd] at hs;split at hs
   ·cases hs
   ·simp at hs
  | live i=>
   rw [hs] at e;simp only at e;split at e
   ·cases e
   ·exact ih _ adv e
structure eX (t:Y6):Prop where
 ris:gB t.place
 dum:t.dummies=#[]
theorem eX.fresh{f m:Nat}{l:Bool}:eX (.fresh f m l):=⟨.nil,rfl⟩
theorem L8(n:Nat):gB (Array.range n):=by
 unfold gB;rw [Array.toList_range];exact WH
theorem eX.standIn{t:Y6}{n:Nat}:eX (t.standIn n):=⟨L8 n,rfl⟩
theorem eX.orStandIn{t:Y6}{n:Nat}(h:eX t):eX (t.orStandIn n):=by
 unfold Xd;split
 ·exact h
 ·exact .standIn
theorem eX.layNew{t:Y6}(h:eX t)(es:Array (Int×Yt))(hs:Int)(x:Yt):eX (layNew t es hs x).2.1:=by
 unfold PySem.layNew;cases hf:t.freeSlot hs with
 | none=>exact .standIn
 | some q=>
  obtain⟨slot,wd⟩:=q;simp only;refine eX.orStandIn ?_;unfold SetTable.freeSlot at hf;split at hf
  ·rename_i j d hp;simp only [SM,VE] at hf;obtain⟨e1,e2⟩:=hf;obtain⟨rfl,nj⟩:=L7 h.dum _ _ (by rfl) hp;simp at e1;subst e1;unfold SetTable.put;refine⟨h.ris.ins nj,?_⟩;simp only [h.dum];rfl
  ·cases hf
theorem eX.relay{t:Y6}(h:eX t)(es:Array (Int×Yt))(n:Nat):eX (ZL t es n).2.1:=by
 unfold ZL;split
 ·rename_i t' order hr;dsimp only;split
  ·unfold XQ X1 at hr;cases hc:Xp (Xe n - 1) (es.map (·.1)) with
   | none=>rw [hc] at hr;cases hr
   | some ow=>
    rw [hc] at hr;simp only [bind,Yi,pure,SM,VE] at hr;obtain⟨e1,_⟩:=hr;subst e1;refine⟨?_,rfl⟩;unfold gB;simp only [List.toList_toArray];rw [SD];refine List.Pairwise.filterMap _ (λa a' hl b hb b' hb'=>?_) WH;cases h1:ow.getD a none with
    | none=>rw [h1] at hb;cases hb
    | some u=>
     cases h2:ow.getD a' none with
     | none=>rw [h2] at hb';cases hb'
     | some u'=>
      rw [h1] at hb;rw [h2] at hb';cases hb;cases hb';exact hl
  ·exact .standIn
 ·exact .standIn
structure L9 (P:YE) (w:YF) (o:Obj) (ss:List Int):Prop where
 ex:o.ExactSet
 da:∃es ep t,o.data= .set es ep t/\ElemsOf (ZC P w) es.toList/\(∃ss',YT (es.toList.map (·.2)) ss'/\ss'.Perm ss)/\es.size < Zn/\t.fits es.size=true/\(gz w=true\/t.led=true)/\eX t
def cR(P:YE)(w:YF)(h:YG)(a:Yu)(ss:List Int):Prop:=∃o,h.get? a=some o/\L9 P w o ss
theorem DX{k:Int}:∀{vs:List Yt}{ss:List Int},YT vs ss->((∃v∈vs,v.isInt k=true)↔k∈ss)
 | _,_,.nil=>by simp
 | _,_,.cons x t r=>by
  have ih:=DX (k:=k) r;constructor
  ·rintro⟨v,hv,e⟩;rcases Rh.mp hv with z | z
   ·subst z;obtain⟨u,e'⟩:=Xl e;cases e';exact RD
   ·exact Ru _ (ih.mp ⟨v,z,e⟩)
  ·intro hk;rcases Rh.mp hk with z | z
   ·subst z;exact⟨_,RD,by simp [Xu]⟩
   ·obtain⟨v,hv,e⟩:=ih.mpr z;exact⟨v,Ru _ hv,e⟩
theorem tT{vs vs':List Yt}(p:vs'.Perm vs):∀{ss:List Int},YT vs ss->∃ss',YT vs' ss'/\ss'.Perm ss:=by
 induction p with
 | nil=>intro ss h;exact⟨ss,h,.refl _⟩
 | cons x p ih=>
  intro ss h;cases h with
  | cons y t r=>obtain⟨s1,a,b⟩:=ih r;exact⟨y::s1,.cons y t a,b.cons y⟩
 | swap x y l=>
  intro ss h;cases h with
  | cons a t r=>cases r with | cons b u r=>exact⟨b::a::_,.cons b u (.cons a t r),.swap _ _ _⟩
 | trans p q ih1 ih2=>
  intro ss h;obtain⟨s1,a,b⟩:=ih2 h;obtain⟨s2,c,d⟩:=ih1 a;exact⟨s2,c,d.trans b⟩
theorem DY{x:Int}{t:Tok}:∀{vs:List Yt}{ss:List Int},YT vs ss->YT (vs++[.int x t]) (ss++[x])
 | _,_,.nil=>.cons x t .nil
 | _,_,.cons y u r=>.cons y u (DY r)
theorem rC:∀{vs:List Yt}{ss:List Int},YT vs ss->vs.length=ss.length
 | _,_,.nil=>rfl
 | _,_,.cons y u r=>by simp [rC r]
def cS(ss:List Int)(x:Int):List Int:=if x∈ss then ss else ss++[x]
section
variable {P:YE} {w:YF} {A:YJ} {E:Yt->Yw->Prop} {s:Yw}
theorem cR.mk{h:YG}{a:Yu}{o:Obj}{es es':Array (Int×Yt)}{ep:Nat}{t t':Y6}{ss:List Int}(o1:h.get? a=some o)(x1:o.ExactSet)(d1:o.data= .set es ep t)
 (el:ElemsOf (ZC P w) es'.toList)(sp:∃ss',YT (es'.toList.map (·.2)) ss'/\ss'.Perm ss)(b1:es'.size < Zn)(f1:t'.fits es'.size=true)(l1:gz w=true\/t'.led=true)(p1:eX t'):
 (h.update a (Wk es' t')).get? a=some {o with data:= .set es' (ep+1) t'}/\cR P w (h.update a (Wk es' t')) a ss:=by
 have g:(h.update a (Wk es' t')).get? a=some {o with data:= .set es' (ep+1) t'}:=by
  have z:=Tf (Wk es' t') o1 (by rw [putSet_of es' t' d1];rfl);rw [putSet_of es' t' d1] at z;exact z
 exact⟨g,_,g,x1,es',ep+1,t',rfl,el,sp,b1,f1,l1,p1⟩
theorem DZ{g:Bool->Sem Unit}(hg:∀(b:Bool) (s₁:Yw) (Q':Unit->Yw->Prop),Q' () s₁->Yy (YB P w) A (g b) Q' E s₁)
 {a:Yu}{o:Obj}{es:Array (Int×Yt)}{ep:Nat}{t:Y6}(o1:s.heap.get? a=some o)(x1:o.ExactSet)(d1:o.data= .set es ep t)
 {es1:Array (Int×Yt)}{t2:Y6}{ss:List Int}(el:ElemsOf (ZC P w) es1.toList)(sp:∃ss',YT (es1.toList.map (·.2)) ss'/\ss'.Perm ss)
 (b1:es1.size < Zn)(f2:t2.fits es1.size=true)(l2:gz w=true\/t2.led=true)(p2:eX t2){wd:Bool}{R:Option Bool->Yw->Prop}
 (h:∀h',T2 a s.heap h'->cR P w h' a ss->R (some true) {s with heap:=h'}):
 Yy (YB P w) A (do
  storeSet a es1 t2
  if (!wd && t2.tooFull)=true then do
   g (ZL t2 es1 (Ub es1.size)).2.2
   storeSet a (ZL t2 es1 (Ub es1.size)).1 (ZL t2 es1 (Ub es1.size)).2.1
   pure (some true)
   else pure (some true)) R E s:=by
 refine Yv (wpAny_storeSet_of o1 d1 ?_ (fits_of_scanBound b1));obtain⟨o2,S2⟩:=cR.mk (P:=P) o1 x1 d1 el sp b1 f2 l2 p2;have sb:=Sn s.heap a (Wk es1 t2);split
 ·have rp:=relayAll_perm t2 es1 (Ub es1.size);have rf:=relayAll_fits t2 es1 (Ub es1.size);have rl:=Lo t2 es1 (Ub es1.size);have rq:=p2.relay es1 (Ub es1.size);generalize ZL t2 es1 (Ub es1.size)=Z at rp rf rl rq⊢;obtain⟨es2,t3,gv⟩:=Z;dsimp only at rp rf rl rq⊢;have sz:es2.size=es1.size:=by rw [<-RO,rp.length_eq,RO]
  obtain⟨ss',q1,q2⟩:=sp;obtain⟨ss2,q3,q4⟩:=tT (rp.map (·.2)) q1;refine Yv (hg _ _ _ (Yv (wpAny_storeSet_of o2 rfl ?_ (fits_of_scanBound (by rw [sz];exact b1)))));obtain⟨_,S3⟩:=cR.mk (P:=P) (w:=w) (t':=t3) o2 x1 rfl (el.perm rp) ⟨ss2,q3,q4.trans q2⟩ (by rw [sz];exact b1) rf (by rw [rl];exact l2) rq;exact Yx (h _ (sb.trans (Sn _ a _)) S3)
 ·exact Yx (h _ sb S2)
theorem Ma{a:Yu}{ss:List Int}{x:Int}{tk:Tok}{Q:Bool->Yw->Prop}(hS:cR P w s.heap a ss)(hroom:ss.length+1 < Zn)
 (h:∀h' b,T2 a s.heap h'->cR P w h' a (cS ss x)->Q b {s with heap:=h'}):
 Yy (YB P w) A (setAddHashed a (.int x tk) (hashInt x)) Q E s:=by
 obtain⟨o,o1,x1,es,ep,t,d1,el,⟨ss',s1,s2⟩,b1,f1,l1,p1⟩:=hS;have hk:(ZC P w).is x (.int x tk)=true:=intKind_is _ _ _ _;have hsc:(TN x tk).scannable=true:=rfl;have ln:es.size=ss.length:=by rw [<-s2.length_eq,<-rC s1,Q8,RO]
 unfold setAddHashed setAddHashedIn;refine YW (Yv (Ze o1 d1 f1 ?_));dsimp only;rw [byScan_of hsc b1 el,Yp rfl];unfold setAddByScan;refine Yv (Yv (ZE (Yv (wpAny_setScan_of hk o1 d1 f1 el ?_))));have mem:(∃e∈es.toList,(ZC P w).is x e.2=true)↔x∈ss:=by
  rw [<-s2.mem_iff,<-DX s1];constructor
  ·rintro⟨e,he,q⟩;exact⟨e.2,Rj.mpr ⟨e,he,rfl⟩,q⟩
  ·rintro⟨v,hv,q⟩;obtain⟨e,he,rfl⟩:=Rj.mp hv;exact⟨e,he,q⟩
 cases hr:List.findIdx? (λe=>(ZC P w).is x e.2) es.toList with
 | some j=>
  obtain⟨hj,hp,_⟩:=List.findIdx?_eq_some_iff_getElem.mp hr;have hx:x∈ss:=mem.mp ⟨_,Ti hj,hp⟩;refine Yx (Yx ?_);have z:=h s.heap false (T2.refl a s.heap) (by unfold cS;rw [Yp hx];exact⟨o,o1,x1,es,ep,t,d1,el,⟨ss',s1,s2⟩,b1,f1,l1,p1⟩);have e:s={s with heap:=s.heap}:=by cases s;rfl
  rw [e];exact z
 | none=>
  dsimp only;have hx:x ∉ ss:=λz=>by
   obtain⟨e,he,q⟩:=mem.mpr z;have:=List.findIdx?_eq_none_iff.mp hr e he;rw [q] at this;cases this
  have eS:cS ss x=ss++[x]:=Yo hx;rw [eS] at h;have lp:=layNew_perm t es (hashInt x) (.int x tk);have lf:=layNew_fits t es (hashInt x) (.int x tk);have ll:=Ln t es (hashInt x) (.int x tk);have lt:=p1.layNew es (hashInt x) (.int x tk);generalize layNew t es (hashInt x) (.int x tk)=L at lp lf ll lt⊢;obtain⟨es1,t1,wd,gv⟩:=L;dsimp only at lp lf ll lt⊢;rw [Xq] at lp;have el1:ElemsOf (ZC P w) es1.toList:=(el.push hk hsc).perm lp;have sp1:∃ss',YT (es1.toList.map (·.2)) ss'/\ss'.Perm (ss++[x]):=by
   have s3:YT ((es.toList++[(hashInt x,TN x tk)]).map (·.2)) (ss'++[x]):=by
    rw [RH];exact DY s1
   obtain⟨s4,q1,q2⟩:=tT (lp.map (·.2)) s3;exact⟨s4,q1,q2.trans (s2.append_right _)⟩
  have n1:es1.size=es.size+1:=by rw [<-RO,lp.length_eq];simp
  have b2:es1.size < Zn:=Yn
  have l2:gz w=true\/t1.led=true:=by rw [ll];exact l1
  have gw:∀(b:Bool)(s₁:Yw)(Q':Unit->Yw->Prop),Q' () s₁->Yy (YB P w) A (match b with | true=>rule "set.scan.the-table-gave-way" | false=>pure ()) Q' E s₁:=
   λb s₁ Q' z=>by cases b <;> first | exact Yx z | exact ZE z
  refine Yv (gw _ _ _ ?_);split
  ·refine Yv ?_;rw [hashByValue_scannable 8 hsc];refine Yx ?_;rw [Yp (show plainKind (TN x tk)=true from rfl)];exact DZ gw o1 x1 d1 el1 sp1 b2 lf l2 lt λh' sb S'=>Yx (h h' true sb S')
  ·refine Yv (Yx ?_);rw [Yp rfl];exact DZ gw o1 x1 d1 el1 sp1 b2 lf l2 lt λh' sb S'=>Yx (h h' true sb S')
end
def j6(val:Nat->Int)(i:Nat):List Int:=((SE i).map val).foldl cS []
theorem D1(val:Nat->Int)(i:Nat):j6 val (i+1)=cS (j6 val i) (val i):=by
 unfold j6;rw [UP,RH,T6];rfl
theorem D2(val:Nat->Int):∀i,(j6 val i).length<=i
 | 0=>Rf _
 | i+1=>by
  have ih:=D2 val i;rw [D1];unfold cS;split
  ·omega
  ·simp;omega
theorem Mb{ss:List Int}{x:Int}(h:ss.Nodup):(cS ss x).Nodup:=by
 unfold cS;split
 ·exact h
 ·rename_i hx;refine Vy.mpr ⟨h,Yr,λa ha b hb=>?_⟩;rw [RF] at hb;subst hb;intro e;subst e;exact hx ha
theorem Mc{ss:List Int}{x y:Int}:y∈cS ss x↔y∈ss\/y=x:=by
 unfold cS;split
 ·rename_i hx;exact⟨.inl,λz=>z.elim id λe=>by subst e;exact hx⟩
 ·simp
theorem xk{y:Int}:∀{l ss:List Int},y∈l.foldl cS ss↔y∈ss\/y∈l
 | [],ss=>by simp
 | a::l,ss=>by rw [R6,xk,Mc,Rh];exact or_assoc
theorem xm:∀{l ss:List Int},ss.Nodup->(l.foldl cS ss).Nodup
 | [],_,h=>h
 | a::l,_,h=>by rw [R6];exact xm (Mb h)
theorem cR.stay{P:YE}{w:YF}{h h':YG}{a:Yu}{ss:List Int}(x:cR P w h a ss)(k:∀o,h.get? a=some o->h'.get? a=some o):cR P w h' a ss:=
 let ⟨o,e,r⟩:=x;⟨o,k o e,r⟩
section
variable {P:YE} {w:YF} {A:YJ} {R:Result->Yw->Prop} {I:Yu} {fp wr:List Yu} {G:Array Z6->Array Z6->Prop} {n:Nat} {Pv:Nat->Yt->Prop} {St:Nat->Yw->Prop}
theorem Md(W:WalksS P w A.in1 I fp wr G n Pv St)(S:Yu)(hSf:S ∉ fp)(val:Nat->Int)(hval:∀i v,Pv i v->∃t,v= .int (val i) t)(hb:n+1 < Zn):
 ∀(k i:Nat)(s:Yw),n - i=k->i<=n->St i s->cR P w s.heap S (j6 val i)->
  (∀s',Moved (S::wr) G s s'->cR P w s'.heap S (j6 val n)->R (.ok (.ret .none)) s')->Zf (YB P w) A (.builtin "set.update.loop" ⟨[.ref S,.ref I],[]⟩) R s:=by
 have sw:S ∉ wr:=λz=>hSf (W.sub _ z);have sub:∀b∈wr,b∈S::wr:=λb z=>Ru _ z;intro k
 induction k with
 | zero=>
  intro i s e1 e2 st hS q;obtain rfl:i=n:=Yn
  refine Y7 Vs ?_;rw [Tt Ui _];show Yy _ A.in1 (Zl (.ref I) >>=_) _ _ s;exact Yv (W.done s _ _ st λs' m=>Yx (q s' (m.mono sub) (hS.stay λo e=>m.heap S o sw e)))
 | succ k ih=>
  intro i s e1 e2 st hS q;have lt:i < n:=Yn
  refine Y7 Vs ?_;rw [Tt Ui _];show Yy _ A.in1 (Zl (.ref I) >>=_) _ _ s;refine Yv (W.item i s _ _ lt st λv s' hP st' m=>?_);obtain⟨t,rfl⟩:=hval i v hP;have hS':=hS.stay (h':=s'.heap) λo e=>m.heap S o sw e;show Yy _ A.in1 (Zp [TN (val i) t] (setAdd S (.int (val i) t)) >>=_) _ _ s';refine Yv (YW ?_);unfold setAdd;refine YW (Yv ((ZC P w).pyHash (k:=val i) (intKind_is _ _ _ _) ?_));have rm:(j6 val i).length+1 < Zn:=by have:=D2 val i;omega
  refine Ma (s:={s' with toks:=s'.toks+1}) hS' rm λh' b sb S2=>?_;rw [<-D1] at S2;refine Yx ⟨Zk Ui _,ih (i+1) _ Yn lt (W.frame _ s' _ _ st' (Tc _) λb hb o e=>?_) S2 λs2 m2 S3=>?_⟩
  ·rw [sb.2 b (λz:b=S=>hSf (by rw [<-z];exact hb))];exact e
  ·refine q s2 (Moved.trans W.gtrans ((m.mono sub).then_heap (Tc _) λb o hb e=>?_) m2) S3;rw [sb.2 b (λz:b=S=>hb (by rw [z];exact RD))];exact e
end
section
variable {P:YE} {w:YF} {A:YJ} {E:Yt->Yw->Prop} {s:Yw}
theorem cR.fresh{h:YG}{a:Yu}(e:h.get? a=some {cls:= .type "set",dict:=none,data:= .set #[] 0 (.fresh 0 0 (!gz w))}):cR P w h a []:=by
 refine⟨_,e,⟨rfl,rfl,rfl⟩,#[],0,_,rfl,λe he=>by simp at he,⟨[],.nil,.refl _⟩,Ym,rfl,?_,eX.fresh⟩;cases hb:gz w with
 | true=>exact .inl rfl
 | false=>exact .inr rfl
theorem Me{l:Yu}{items:Array Yt}{ss:List Int}{Q:Yt->Yw->Prop}
 (hh:A.handled=none)(hl:s.heap.IsList l items)(hi:YT items.toList ss)(hb:items.size+1 < Zn)
 (h:∀(h':YG) (tk:Nat),cR P w h' s.heap.objs.size (ss.foldl cS [])->(∀b o,s.heap.get? b=some o->h'.get? b=some o)->Q (.ref s.heap.objs.size) {s with heap:=h',toks:=tk}):
 Yy (YB P w) A (call (.type "set") [.ref l]) Q E s:=by
 obtain⟨c,tl,hmro⟩:=PySem.F.called_set.mro;have hmade:=PySem.F.called_set.made;have hsub:=PySem.F.called_set.sub;refine wpAny_call (codeAny_of_tree ?_);show Yy _ _ (callAny (.type "set") _) _ _ _;refine Yx ⟨Code.quiet_builtin _ cp,Y7 PySem.F.entry_type_call ?_⟩;rw [Around.under_plain (weight_type_call_type "set" [.ref l] []) rfl];have h1:=PySem.F.called_set.notType;have h2:=PySem.F.called_set.canCreate;have hct:=PySem.F.typeCall_set_1 (.ref l)
 repeat (any_goals (first | assumption | wp_step))
 generalize hob:({cls:= .type "set",dict:=none,data:= .set #[] 0 (.fresh 0 0 (!gz w))}:Obj)=ob;refine Zg (Lp (P:=P) (w:=w) (.ref l) (E:=E) (Q₁:=λu s₁=>u= .ref s.heap.objs.size/\s₁={s with heap:=s.heap.push ob}) (by subst hob;exact⟨rfl,rfl⟩)) λr s₁ hr=>?_;cases r with
 | error e=>exact hr
 | ok fl=>
  cases fl with
  | ret u=>
   obtain⟨rfl,rfl⟩:=hr;have hS:(s.heap.push ob).get? s.heap.objs.size=some ob:=RJ _ (by subst hob;rfl);have hT:Shared.TypeIs {s with heap:=s.heap.push ob} (.ref s.heap.objs.size) "set":=⟨_,hS,by subst hob;rfl⟩;have hli:=PySem.F.called_set.init.lookup;have hbi:=PySem.F.called_set.init.bind (.ref s.heap.objs.size)
   repeat (any_goals (first | assumption | wp_step))
   refine Zg (codeAny_call_builtin (R:=wants (λr s₂=>r= .none/\∃h' tk,s₂={s with heap:=h',toks:=tk}/\cR P w h' s.heap.objs.size (ss.foldl cS [])/\∀b o,s.heap.get? b=some o->h'.get? b=some o) E)
    PySem.F.called_set.init.plain PySem.F.entry_set_init (check_set_init_1 hT ?_)) λr₂ s₂ hr₂=>?_
   ·obtain⟨ol,o1,c1,nl,d1⟩:=hl;obtain⟨oc,od,oda,osl⟩:=ol;simp only at c1 d1;subst c1;subst d1;have o2:(s.heap.push ob).get? l=some {cls:= .type "list",dict:=od,data:= .seq items nl,slots:=osl}:=Rc _ o1;have q1:=PySem.F.sub_list_set;have q2:=PySem.F.sub_list_frozenset;have q3:(U9 "list"==U9 "dict")=false:=Ym
    have l1:(s.heap.push ob).IsList l items:=⟨_,o2,rfl,nl,rfl⟩;subst hob;unfold Builtin.«set.__init__» noKeywords Builtin.Frozenset.updateFrom;generalize hPI:pyIter=PI
    wp_walk
    subst hPI;refine ZI l1 ?_;refine Yv (wpAny_runValue ?_);have ll:l < s.heap.objs.size:=Rx o1;have sz:∀ob:Obj,(s.heap.push ob).objs.size=s.heap.objs.size+1:=λ_=>Uw _ _;have n1:∀ob:Obj,l≠(s.heap.push ob).objs.size:=λ_=>by rw [sz];exact RI (SO ll)
    have n2:∀ob:Obj,s.heap.objs.size ∉ [(s.heap.push ob).objs.size,l]:=λ_=>by
     rw [sz];simp only [Rh,Sj,or_false,not_or];exact⟨RI (Tg _),Vo ll⟩
    have hv:∀(i:Nat)(v:Yt),items[i]?=some v->∃t,v= .int ((λi:Nat=>(ss[i]?).getD 0) i) t:=λi v e=>by
     rw [<-VL] at e;have:∀{vs:List Yt}{ss:List Int},YT vs ss->∀(i:Nat)(v:Yt),vs[i]?=some v->∃t,v= .int ((ss[i]?).getD 0) t:=by
      intro vs ss x
      induction x with
      | nil=>intro i v e;simp at e
      | cons y t r ih=>
       intro i v e;cases i with
       | zero=>simp at e;exact⟨t,by rw [<-e];rfl⟩
       | succ i=>simp only [Sx] at e⊢;exact ih i v e
     exact this hi i v e
    have hm:j6 (λi=>(ss[i]?).getD 0) items.size=ss.foldl cS []:=by
     have e:items.size=ss.length:=by rw [<-rC hi,RO]
     unfold j6;rw [e];congr 1;apply Ua Yr;intro i a b;simp at a b⊢;rw [RG Yn];rfl
    refine Md (XN (show A.in1.in1.in1.handled=none by simp [hh]) _ l (n1 _) items).toS s.heap.objs.size (n2 _) _ hv hb (items.size - 0) 0 _ Yn (Sd _)
     ⟨⟨_,RJ _ rfl,rfl,rfl⟩,l1.push _⟩ ?hS0 ?hR
    case hS0=>
     exact cR.fresh (Rc _ hS)
    case hR=>
     intro s' m S';rw [hm] at S';obtain⟨h',g',d',tk',os'⟩:=s';obtain rfl:g'=s.gens:=m.gens;obtain rfl:d'=s.drawn:=m.drawn;obtain rfl:os'=s.os:=m.os;show Yy _ _ _ _ _ _;refine Yx (Yx ⟨rfl,h',tk',rfl,S',λb o e=>?_⟩);have hb1:b < s.heap.objs.size:=Rx e;refine m.heap b o ?_ (Rc _ (Rc _ e));rw [sz];simp only [Rh,Sj,or_false,not_or];exact⟨RI hb1,RI (SO hb1)⟩
   ·cases r₂ with
    | error e=>exact hr₂
    | ok fl₂=>
     cases fl₂ with
     | ret r=>
      obtain⟨rfl,h',tk,rfl,S',k'⟩:=hr₂
      repeat (any_goals (first | assumption | wp_step))
      exact h _ _ S' k'
     | _=>exact hr₂.elim
  | _=>exact hr.elim
end
section
variable {P:YE} {w:YF} {A:YJ} {E:Yt->Yw->Prop} {s:Yw} {a:Yu} {o:Obj} {es:Array (Int×Yt)} {ep:Nat} {t:Y6}
theorem D3{slot i:Nat}{Q:Option (Yt×Nat)->Yw->Prop}(hb:gz w=false)(o1:s.heap.get? a=some o)(d1:o.data= .set es ep t)(f1:t.fits es.size=true)(hd:(!t.plain && decide (es.size > 1))=false)(hl:t.led=true)
 (h:Q (match es[SW t.place slot]?,t.place[SW t.place slot]? with | some (_,x),some j=>some (x,j+1) | _,_=>none) s):Yy (YB P w) A (ZH a slot i ep) Q E s:=by
 unfold ZH setsByText;refine Yv (Ze o1 d1 f1 (Yv (Yv (Zh (Yx ?_)))));rw [Yo (show ¬(YB P w).w.params.followText "set-order"=true from by show ¬gz w=true;rw [hb];decide)];show Yy _ _ (if (!t.plain && decide (es.size > 1))=true then _ else _) _ _ _;rw [Yo (by rw [hd];decide)];refine Yv (m:=if (!t.led && !es.isEmpty)=true then unsupported "set:maker-not-led" else pure ()) ?_;rw [Yo (by simp [hl])];exact Yx (Yx h)
theorem Mf{ss:List Int}{Q:Yt->Yw->Prop}(hh:A.handled=none)(hS:cR P w s.heap a ss)
 (q:∀(I:Yu) (h1:YG) (d1:Drawn) (vs:List Yt) (fp wr:List Yu) (n:Nat) (St:Nat->YG->Prop),(∀b u,s.heap.get? b=some u->h1.get? b=some u)->(∃ss',YT vs ss'/\ss'.Perm ss)->n=ss.length->
  Walks P w A I fp wr n (λi v=>vs[i]?=some v) St->St 0 h1->(∀b∈fp,b=a\/s.heap.objs.size<=b)->(∀b∈wr,s.heap.objs.size<=b)->vs.length=n->(∀b∈fp,b < h1.objs.size)->Q (.ref I) {s with heap:=h1,drawn:=d1}):
 Yy (YB P w) A (pyIter (.ref a)) Q E s:=by
 obtain⟨o,o1,x1,es,ep,t,d1,el,⟨ss',s1,s2⟩,b1,f1,l1,p1⟩:=hS;have hT:s.TypeIs (.ref a) "set":=⟨o,o1,x1.1⟩;have la:a < s.heap.objs.size:=Rx o1;have ln:es.size=ss.length:=by rw [<-s2.length_eq,<-rC s1,Q8,RO]
 refine wpAny_pyIter_slot hT WO (Y0 WO hT Lq ?_ (PySem.F.args_set_iter_1 _));unfold Builtin.«frozenset.__iter__»;refine Yv (m:=Builtin.Frozenset.slot0 _ _) (Yx ?_);refine Yv (m:=Builtin.Frozenset.sizeOf a) (Yv (Zi o1 d1 f1 (Yx ?_)));refine Yv (m:=setDrawn a) ?_;unfold setDrawn setsByText;refine Yv (Ze o1 d1 f1 (Yv (Yv (Zh (Yx (Yx ?_))))));show Yy _ _ (if (!(gz w) && (!t.plain && decide (es.size > 1)))=true then _ else _) _ _ _;have lastly:∀(f:Yt)(h1:YG)(d:Drawn),h1.get? a=some o->(∀I h2,h2=h1.push {cls:= .type "set_iterator",data:= .fields #[f,.int (0:Nat) 0,.ref a,.int es.size 0,.int ep 0]}->I=h1.objs.size->Q (.ref I) {s with heap:=h2,drawn:=d})->
  Yy (YB P w) A.in1 (setEpoch a >>=λe=>newFields "set_iterator" [f,Zq 0,.ref a,Zq es.size,Zq e] >>=λv=>ret v)
   (λfin s'=>∃v,fin= .done (.ret v)/\∃T' r,s'.TypeIs v T'/\typeLookup (.type T') "__next__"=pure (some r)/\Q v s') E {s with heap:=h1,drawn:=d}:=by
  intro f h1 d e1 k;refine Yv (wpAny_setEpoch_of (s:={s with heap:=h1,drawn:=d}) e1 d1 f1 ?_);refine Yv (YV (Yx ?_));exact⟨_,rfl,"set_iterator",_,⟨_,RJ _ rfl,rfl⟩,jx.lookup,k _ _ rfl rfl⟩
 have szp:∀(h:YG)(ob:Obj),(h.push ob).objs.size=h.objs.size+1:=λ_ _=>Uw _ _;have n0:a≠s.heap.objs.size:=RI la;by_cases hdr:(!(gz w) && (!t.plain && decide (es.size > 1)))=true
 ·rw [Yp hdr];refine Yv (Dr es.size (SE es.size) s _ Yr λks d hp=>Yv (m:=newTuple _) (YV ?_ ?_))
  ·have lk:ks.length=es.size:=by rw [hp.length_eq,UU]
   refine lastly _ (s.heap.push _) d (Rc _ o1) λI h2 e2 eI=>?_;subst e2 eI;have k1:a≠(s.heap.push {cls:= .type "tuple",data:= .seq (ks.map λ(i:Nat)=>Zq i).toArray}).objs.size:=by rw [szp];exact RI (SO la)
   have k2:s.heap.objs.size≠(s.heap.push {cls:= .type "tuple",data:= .seq (ks.map λ(i:Nat)=>Zq i).toArray}).objs.size:=by rw [szp];exact RI (Tg _)
   have pm:(ks.map λk=>((es[k]?).map (·.2)).getD .none).Perm (es.toList.map (·.2)):=by
    refine(hp.map _).trans (.of_eq ?_);apply Ua Yr;intro i a b;simp at a b⊢;rw [Uv a];rfl
   obtain⟨ss2,q3,q4⟩:=tT pm s1;refine q _ _ d _ _ _ es.size _ (λb u e=>Rc _ (Rc _ e)) ⟨ss2,q3,q4.trans s2⟩ ln
    (LA hh _ _ k1 k2 d1 f1 _ ks rfl lk (λi k e=>?_)) ⟨⟨_,RJ _ rfl,rfl,rfl⟩,Rc _ (Rc _ o1),Rc _ (RJ _ rfl)⟩ (λb hb=>?_) (λb hb=>?_) (by simp [lk]) (λb hb=>?_)
   ·have hk:k < es.size:=by
     have:=hp.mem_iff.mp (RN e);simpa using this
    refine⟨es[k].1,es[k].2,by simp [hk],?_⟩;rw [Rt,e];simp [hk]
   ·simp only [Rh,Sj,or_false] at hb;rcases hb with rfl | rfl | rfl
    ·right;rw [szp];exact Tc _
    ·left;rfl
    ·right;exact Rf _
   ·rw [RF] at hb;rw [hb,szp];exact Tc _
   ·simp only [Rh,Sj,or_false] at hb;rw [szp,szp];rcases hb with rfl | rfl | rfl
    ·rw [szp];exact Tg _
    ·exact SO (SO la)
    ·exact SO (Tg _)
  ·unfold sizeOk;simp [hp.length_eq];have:Zn=4096:=rfl;have:YC=16777216:=by first | rfl | exact YY
   omega
 ·rw [Yo hdr];refine Yv (Yx ?_);have e0:s={s with heap:=s.heap,drawn:=s.drawn}:=by cases s;rfl
  show Yy _ _ _ _ _ {s with heap:=s.heap,drawn:=s.drawn};refine lastly _ s.heap s.drawn o1 λI h2 e2 eI=>?_;subst e2 eI;have fpa:∀b∈[s.heap.objs.size,a],b=a\/s.heap.objs.size<=b:=λb hb=>by
   simp only [Rh,Sj,or_false] at hb;rcases hb with rfl | rfl
   ·right;exact Rf _
   ·left;rfl
  have wra:∀b∈[s.heap.objs.size],s.heap.objs.size<=b:=λb hb=>by rw [RF] at hb;rw [hb];exact Rf _
  have fpl:∀(ob:Obj),∀b∈[s.heap.objs.size,a],b < (s.heap.push ob).objs.size:=λob b hb=>by
   rw [szp];simp only [Rh,Sj,or_false] at hb;rcases hb with rfl | rfl
   ·exact Tg _
   ·exact SO la
  cases hb:gz w with
  | true=>
   have pm:=Lr (w.params.setOrder a ep) es;obtain⟨ss2,q3,q4⟩:=tT (pm.map (·.2)) s1;have lp:((Z3 (w.params.setOrder a ep) es).toList.map (·.2)).length=es.size:=by rw [Q8,pm.length_eq,RO]
   refine q _ _ s.drawn _ _ _ es.size _ (λb u e=>Rc _ e) ⟨ss2,q3,q4.trans s2⟩ ln
    (Dw hh _ n0 d1 f1 _ lp (λ_=>0) (λs i hi E' Q' g z=>Ds hb g d1 f1 ?_) (λs E' Q' g z=>Ds hb g d1 f1 ?_)) ⟨⟨_,RJ _ rfl,rfl,rfl⟩,Rc _ o1⟩ fpa wra lp (fpl _)
   ·have hi':i < (Z3 (w.params.setOrder a ep) es).size:=by rw [<-RO,<-Q8 (f:=(·.2))];exact hi
    rw [Uv hi'];simpa using z
   ·have:(Z3 (w.params.setOrder a ep) es).size=es.size:=by rw [<-RO,pm.length_eq,RO]
    rw [WI Yn];exact z
  | false=>
   have hled:t.led=true:=by
    rcases l1 with l1 | l1
    ·rw [hb] at l1;cases l1
    ·exact l1
   have hcd:(!t.plain && decide (es.size > 1))=false:=by
    cases hx:(!t.plain && decide (es.size > 1)) with
    | false=>rfl
    | true=>exfalso;apply hdr;rw [hb,hx];rfl
   have hpl:t.place.size=es.size:=by
    simp only [SetTable.fits,Si,beq_iff_eq] at f1;exact f1.1
   have lp:(es.toList.map (·.2)).length=es.size:=by rw [Q8,RO]
   have bel:∀i,i<=es.size->SW t.place (if i=0 then 0 else t.place.getD (i - 1) 0+1)=i:=λi hi=>by
    by_cases h0:i=0
    ·rw [Yp h0,L6 p1.ris,h0]
    ·rw [Yo h0];have hlt:i - 1 < t.place.size:=Yn
     have eg:t.place.getD (i - 1) 0=t.place[i - 1]:=by simp [Ut,hlt]
     rw [eg,L5 p1.ris hlt];omega
   refine q _ _ s.drawn _ _ _ es.size _ (λb u e=>Rc _ e) ⟨ss',s1,s2⟩ ln
    (Dw hh _ n0 d1 f1 _ lp (λi=>if i=0 then 0 else t.place.getD (i - 1) 0+1) (λs i hi E' Q' g z=>D3 hb g d1 f1 hcd hled ?_) (λs E' Q' g z=>D3 hb g d1 f1 hcd hled ?_)) ⟨⟨_,RJ _ rfl,rfl,rfl⟩,Rc _ o1⟩ fpa wra lp (fpl _)
   ·have hi':i < es.size:=by rw [<-lp];exact hi
    rw [bel i Yn];have h1:es[i]?=some es[i]:=by simp [hi']
    have h2:t.place[i]?=some (t.place[i]'Yn):=by simp [show i < t.place.size by omega]
    rw [h1,h2];have eg:t.place.getD (i+1 - 1) 0=t.place[i]'Yn:=by simp [Ut,show i < t.place.size by omega]
    rw [Yo Yn,eg] at z;simpa using z
   ·rw [bel es.size (Rf _)];rw [WI Yn];exact z
end
section
variable {P:YE} {w:YF} {A:YJ} {E:Yt->Yw->Prop} {s:Yw} {a:Yu}
theorem Mg{ss:List Int}{R:Result->Yw->Prop}(hh:A.handled=none)(hS:cR P w s.heap a ss)(S:Yu)(hSa:S≠a)(res:Yt)(c₀:Nat)(l1:s.heap.get? S=some {cls:= .type "list",data:= .seq #[] c₀})(hn:ss.length<=4096)
 (hR:∀h' tk d acc c',(∀b u,b≠S->s.heap.get? b=some u->h'.get? b=some u)->h'.get? S=some {cls:= .type "list",dict:=none,data:= .seq acc c',slots:=#[]}->(∃ss',YT acc.toList ss'/\ss'.Perm ss)->R (.ok (.ret res)) {s with heap:=h',toks:=tk,drawn:=d}):
 Yy (YB P w) A.in1 (V4 (.ref S) (.ref a) res)
  (λfin s'=>match fin with | .done f=>R (.ok f) s' | .again c'=>c'.quiet=true/\Zf (YB P w) A c' R s') (λe s'=>R (.error e) s') s:=by
 obtain⟨o,o1,x1,rest⟩:=id hS;have hT:s.TypeIs (.ref a) "set":=⟨o,o1,x1.1⟩;have lS:S < s.heap.objs.size:=Rx l1;unfold V4;refine Yv (wpAny_typeOf hT ?_);have e1:Ws (.ref S) (.ref a)=false:=by simp [Ws,hSa]
 have e2:(U9 "set"==U9 "list")=false:=Ym
 have e3:(U9 "set"==U9 "tuple")=false:=Ym
 simp only [e1,e2,e3,TH,SH,if_false];refine Yv (Mf (A:=A.in1) hh hS λI h1 d1 vs fp wr n St k1 sv en W st hf hw hlv hfl=>?_);have nf:S ∉ fp:=λz=>by
  rcases hf S z with e | e
  ·exact hSa e
  ·exact absurd lS (Nat.not_lt.mpr e)
 have key:∀(h:YG)(c₁ tk:Nat),St 0 h->(∀b u,b≠S->s.heap.get? b=some u->h.get? b=some u)->
  h.get? S=some {cls:= .type "list",data:= .seq #[] c₁}->Zf (YB P w) A (.builtin "list.extend.loop" ⟨[.ref S,.ref I,res],[]⟩) R {s with heap:=h,toks:=tk,drawn:=d1}:=by
  intro h c₁ tk hst hk g;refine codeAny_extend_loopS W.toS (RS (by omega:n<=4096) Ym) S nf res n 0 _ #[] c₁ rfl (Sd _) hst g (ItemsOf.nil _) λs' acc c' m gq hacc=>?_;obtain⟨h',g',d',tk',os'⟩:=s';obtain rfl:g'=s.gens:=m.gens;obtain rfl:d'=d1:=m.drawn;obtain rfl:os'=s.os:=m.os;refine hR h' tk' d' acc c' (λb u hb e=>m.heap b u (λz=>?_) (hk b u hb e)) gq ?_
  ·rcases Rh.mp z with e' | z
   ·exact hb e'
   ·exact absurd (Rx e) (Nat.not_lt.mpr (hw b z))
  ·have ea:acc.toList=vs:=by
    apply List.ext_getElem?;intro i;rcases Tz i n with z | z
    ·have hz:i < acc.size:=by rw [hacc.1];exact z
     have:acc[i]?=some acc[i]:=Uv hz;rw [VL,this,hacc.2 i _ this]
    ·rw [S6 (by rw [RO,hacc.1];exact z),S6 Yn]
   rw [ea];exact sv
 have g1:=k1 S _ l1;refine Yv (YW (LB (s:={s with heap:=h1,drawn:=d1}) ⟨o,k1 a o o1,x1.1⟩ ?_));refine ZV (λ_=>?_) (λ_=>Yx ⟨Zk Wl _,key _ c₀ _ st (λb u _ e=>k1 b u e) g1⟩);refine Yv (ZE (Yv ?_));show Yy _ _ (updateSeq S (·.push .none) >>=λ_=>updateSeq S (·.pop)) _ _ {s with heap:=h1,drawn:=d1};refine Yv (wpAny_updateSeq g1 rfl ?_);have g2:=Tf (SF (·.push TY)) g1 rfl;refine wpAny_updateSeq (hz:=by seq_fits) g2 rfl ?_;have g3:=Tf (SF (·.pop)) g2 rfl;refine Yx ⟨Zk Wl _,key _ _ _ (W.frame 0 _ _ st λb hb u e=>?_) (λb u hb e=>?_) g3⟩
 ·have hbS:b≠S:=λz=>nf (z▸hb);exact(Ue _ _ (Ne.symm hbS)).trans ((Ue _ _ (Ne.symm hbS)).trans e)
 ·exact(Ue _ _ (Ne.symm hb)).trans ((Ue _ _ (Ne.symm hb)).trans (k1 b u e))
theorem Mh{ss:List Int}{R:List Yt->Yw->Prop}(hh:A.handled=none)(hS:cR P w s.heap a ss)(hn:ss.length<=4096)
 (h:∀(h':YG) (tk:Nat) (d:Drawn) (vs:List Yt),(∀b u,s.heap.get? b=some u->h'.get? b=some u)->(∃ss',YT vs ss'/\ss'.Perm ss)->R vs {s with heap:=h',toks:=tk,drawn:=d}):
 Yy (YB P w) A (collect (.ref a)) R E s:=by
 have la:a < s.heap.objs.size:=by obtain⟨o,o1,_⟩:=id hS;exact Rx o1
 unfold collect;refine Yv (wpAny_runValue (Y7 entry_proto_collect' ?_));rw [Tt PySem.F.plain_proto_collect _];refine Yv (m:=newList []) (YV ?_);refine Yx ⟨Zk Wy _,Y7 entry_list_iadd' ?_⟩;rw [Tt Wy _];have g1:(s.heap.push {cls:= .type "list",data:= .seq ([]:List Yt).toArray}).get? s.heap.objs.size=some {cls:= .type "list",data:= .seq #[]}:=RJ _ rfl;have key:=Mg (A:=A) (s:={s with heap:=s.heap.push {cls:= .type "list",data:= .seq ([]:List Yt).toArray}})
  (R:=λ(q:Result) (s':Yw)=>∃(h':YG)(tk:Nat)(d:Drawn)(acc:Array Yt)(c':Nat),q= .ok (.ret (.ref s.heap.objs.size))/\s'={s with heap:=h',toks:=tk,drawn:=d}/\
   (∀b u,s.heap.get? b=some u->h'.get? b=some u)/\h'.get? s.heap.objs.size=some {cls:= .type "list",dict:=none,data:= .seq acc c',slots:=#[]}/\(∃ss',YT acc.toList ss'/\ss'.Perm ss))
  hh (hS.stay λu e=>Rc _ e) s.heap.objs.size (Vo la) (.ref s.heap.objs.size) 0 g1 hn
  (λh' tk d acc c' hk g' hacc=>⟨h',tk,d,acc,c',rfl,rfl,λb u e=>hk b u (RI (Rx e)) (Rc _ e),g',hacc⟩)
 refine YR key (λfin s' x=>?_) λe s' x=>?_
 ·cases fin with
  | done f=>
   obtain⟨h',tk,d,acc,c',e,rfl,hk,g',hacc⟩:=x;cases e;exact Yv (m:=load s.heap.objs.size) (wpAny_load g' (Yx (h h' tk d acc.toList hk hacc)))
  | again c₁=>
   refine⟨x.1,Zg x.2 λq s₂ y=>?_⟩;obtain⟨h',tk,d,acc,c',rfl,rfl,hk,g',hacc⟩:=y;exact Yv (m:=load s.heap.objs.size) (wpAny_load g' (Yx (h h' tk d acc.toList hk hacc)))
 ·obtain⟨_,_,_,_,_,e',_⟩:=x;cases e'
theorem Mi{ss:List Int}{Q:Yt->Yw->Prop}(hh:A.handled=none)(hS:cR P w s.heap a ss)(hn:ss.length < 64)
 (h:∀(h' h2:YG) (tk:Nat) (d:Drawn) (out:Array Yt) (e:Nat) (ss':List Int),(∀b o,s.heap.get? b=some o->h'.get? b=some o)->(∀b o,h'.get? b=some o->h2.get? b=some o)->h2.get? h'.objs.size=some (YK "list" out e)->YT out.toList ss'->ss'.Perm ss->ss'.Pairwise (·<=·)->Q (.ref h'.objs.size) {s with heap:=h2,toks:=tk,drawn:=d}):
 Yy (YB P w) A (call (.builtin "sorted") [.ref a]) Q E s:=by
 refine Vl kind_sorted plain_sorted entry_sorted (args_sorted1 _) ?_;unfold Builtin.«sorted»;refine Yv (m:=checkCount "sorted" 1 1 _) (Yx ?_);refine Yv (Mh (A:=A.in1) hh hS Yn λh' tk d vs hk ⟨s1,sv,sp⟩=>?_);have hl:vs.length=ss.length:=by rw [rC sv,sp.length_eq]
 refine Yv (Zx ?_);have hoL:(h'.push (YK "list" vs.toArray 0)).get? h'.objs.size=some (YK "list" vs.toArray 0):=RJ _ rfl;refine Yv (YW (Y0 ZX ⟨_,hoL,rfl⟩ ZW (list_sort_tree (s:={s with heap:=h'.push (YK "list" vs.toArray 0),toks:=tk,drawn:=d}) hoL sv Yn λout ss' h1 h2 h3=>?_) (args_list_sort _)));obtain⟨e,he⟩:=sortedHeap_at (n:=0) (vs:=vs) (out:=out) hoL;refine⟨_,rfl,Yx ⟨_,rfl,h h' _ tk d _ e ss' hk (λb o q=>?_) he h1 (h2.trans sp) h3⟩⟩;have hlt:b < h'.objs.size:=Rx q;rw [sortedHeap_old (RI hlt) (by rw [size_push'];exact SO hlt),Xo _ _ _ (RI hlt)];exact q
end
def xp(P:YE)(w:YF)(a:Yu)(ss:List Int):HO:= .ext λh=>cR P w h a ss
theorem D4:∀{vs:List Yt}{ss:List Int},YT vs ss->aH (ss.map V.int) vs
 | _,_,.nil=>.nil
 | _,_,.cons y t r=>.cons ⟨t,rfl⟩ (D4 r)
theorem Mj{X:Cx}:eJ X (.type "set") (λxs H Q=>X.calm=true/\∃(p:Yu)(ss:List Int),xs=[.ref p]/\bq X.K H p (ss.map V.int)/\ss.length < 4000/\∀l,H l=none->Q (.ref l) (ai H l (xp X.prog X.w l (ss.foldl cS [])))):=by
 intro aaa s σ H xs us Q I r h;obtain⟨hc,p,ss,rfl,hq,h64,q⟩:=h;obtain⟨u,rfl,rx⟩:=fb r;cases rx;obtain⟨its,rv,pl,hz⟩:=I.list hq;have hlen:=rv.length;rw [Q8] at hlen;refine Me (I.ok.hd hc) pl.isList (by simpa using Dx rv) (by have:Zn=4096:=rfl;simp;omega) λh' tk S' k'=>?_;refine⟨.ref _,_,I.laid (t':=tk) (o:=xp X.prog X.w _ (ss.foldl cS [])) k' (Rf _) ?_,rfl,q _ (I.hok.fresh (Rf _))⟩;obtain⟨o,e,_⟩:=id S';exact⟨S',⟨o,e⟩,λh1 h2 x k=>x.stay k⟩
theorem Ml{X:Cx}:eJ X (.builtin "sorted") (λxs H Q=>X.calm=true/\∃(a:Yu)(ss:List Int),xs=[.ref a]/\H a=some (xp X.prog X.w a ss)/\ss.length < 64/\∀(ns:List Int)(l:Yu),ns.Perm ss->ns.Pairwise (·<=·)->H l=none->Q (.ref l) (ai H l (.lst (ns.map V.int)))):=by
 intro aaa s σ H xs us Q I r h;obtain⟨hc,a,ss,rfl,ha,h64,q⟩:=h;obtain⟨u,rfl,rx⟩:=fb r;cases rx;obtain⟨hS,_⟩:=I.hok a _ ha;refine Mi (I.ok.hd hc) hS h64 λh' h2 tk d out e ss' k1 k2 at2 s1 s2 s3=>?_;have hl2:ss'.length=ss.length:=s2.length_eq;have I1:af X aaa σ H {s with heap:=h',toks:=tk,drawn:=d}:=(I.kept (t':=tk) k1).drw;refine⟨.ref _,_,I1.laid (t':=tk) (o:= .lst (ss'.map V.int)) k2 (Rf _) ?_,rfl,q ss' _ s2 s3 (I1.hok.fresh (Rf _))⟩;refine⟨by rw [Q8,hl2];exact RS (Uh h64) Ym,out.toList,e,D4 s1,?_⟩;rw [at2]
section
variable {X:Cx} {H0:Hp} {O0:Ex}
def mx(t:DA):DA:=λδ Q=>t δ λds=>∃ss:List Int,ds=[.list (ss.map .int)]/\ss.length < 4000/\(ss.foldl cS []).length < 64/\∀ns:List Int,(∀z,z∈ns↔z∈ss)->ns.Pairwise (· < ·)->Q (ns.map .int)
theorem D5{a:YA}{t:DA}{np p np' p':Pos}(hc:X.calm=true)(hg:Gl X "sorted")(hm:X.mg "sorted"=none)(hv:YS "sorted"=some (.builtin "sorted"))(hg':Gl X "set")(hm':X.mg "set"=none)(ha:PA X [a] (gZ X.K H0 O0 t))
 (he:Yz [a] X.env=(false,eval a X.env)::Yz [] X.env:=by rfl)(hpl:(YM p' (Yz [] X.env)).any (·.1)=false:=by rfl)
 (he':Yz [.Call (.Name "set" np') [a] [] p'] X.env=(false,eval (.Call (.Name "set" np') [a] [] p') X.env)::Yz [] X.env:=by rfl)(hpl':(YM p (Yz [] X.env)).any (·.1)=false:=by rfl):
 FE X H0 O0 (.Call (.Name "sorted" np) [.Call (.Name "set" np') [a] [] p'] [] p) (mx t):=
 (eL Ml hg hm hv (bA (dZ Mj hg' hm' LC ha (he:=he) (hpl:=hpl)) cb he') (he:=he') (hpl:=hpl')).imp λσ H Q ⟨O,δ,Qd,w,q,k⟩=>⟨O,δ,_,w,q,λds vs H1 uu39 s1 r1=>by
  obtain⟨ss,e,h64,hl,q1⟩:=uu39;subst e;cases r1 with
  | cons h r=>
   cases r;obtain⟨a,us,rfl,h1,d1⟩:=h.lst;cases d1.intsL;refine⟨hc,a,ss,rfl,h1,h64,λl hl'=>⟨hc,l,_,rfl,bh,hl,λns l2 hp hs hl2=>?_⟩⟩;refine k _ _ _ _ (q1 ns (λz=>?_) ?_) (s1.trans (ar.new hl')) hl2 (ak.ofInts _)
   ·rw [hp.mem_iff,xk];simp
   ·have nd:ns.Nodup:=hp.nodup_iff.mpr (xm .nil);exact(List.Pairwise.and hs nd).imp λ{a b} z=>by
     obtain⟨z1,z2⟩:=z;omega⟩
end
def my:List Ys->(Ys->Prop)->Prop:=λds Q=>∃ns:List Int,ds=[.list (ns.map .int)]/\Q (.int ns.sum)
theorem Mm{K:Q7}:iM K (λxs H Q=>∃(a:Yu)(ns:List Int),xs=[.ref a]/\bq K H a (ns.map V.int)/\Q (.int ns.sum) H) my:=λH O xs ds Qd R tr hs uu40 k=>by
 obtain⟨ns,e,q⟩:=uu40;subst e;cases hs with
 | cons h r=>
  cases r;obtain⟨a,vs,rfl,h1,d1⟩:=h.lst;cases d1.intsL;exact⟨a,ns,rfl,h1,k _ _ H q (ar.refl _) (.int _)⟩
def Mo:V->List V->Hp->VK->Prop:=λx vs H Q=>∃l b xs zs,x= .ref l/\vs=[.ref b]/\H l=some (.lst xs)/\Rd H b (.lst zs)/\xs.length+zs.length<=YC/\Q .non (ai H l (.lst (xs++zs)))
theorem Mp{X:Cx}:vU X "list.extend" Mo:=by
 intro aaa s σ H x vs v us Q I rx rv h;obtain⟨l,b,xs,zs,rfl,rfl,hH,hB,hz,q⟩:=h;cases rx;obtain⟨u,rfl,ru⟩:=rv.one;cases ru;obtain⟨z,its,n,r,hl,e⟩:=I.lstM hH;obtain⟨z2,its2,n2,r2,e2⟩:=hB.ok I.hok;have hl2:=r2.length;have hsz:its.toArray.size+its2.toArray.size<=YC:=by rw [RE,RE];omega
 have hlong:¬(!its.toArray.isEmpty && Uz (its.toArray.size+its2.toArray.size))=true:=by
  rw [Cd hsz,XU];exact Rl
 refine Zt Vr ⟨_,e,rfl⟩ PySem.F.entry_list_extend (PySem.F.args_list_extend_2 _ _)
  (VI l its.toArray n b its2.toArray n2 hlong (by rw [RE];omega) Yn) ⟨e,e2,?_⟩
 refine⟨.non,_,I.lset (its':=its++its2) hH e Yr (r.append r2) ?_,rfl,q⟩;rw [Rv];omega
section
variable {X:Cx} {H0:Hp} {O0:Ex}
def mz(i:Nat)(t:DT):DS:=λE δ=>∃ds,δ[i]?=some (some (.o ds))/\t δ λd=>∃es,d= .list es/\ds.length+es.length<=YC/\E.nx (δ.set i (some (.o (ds++es))))
theorem xq{i:Nat}{o e:YA}{t:DT}{apos cpos pos:Pos}(ho:PE X o (cA i))(he:DE X H0 O0 e t)(hbase:YX o "extend" X.env (eval o X.env)=eval o X.env:=by rfl)
 (hfew:((YM cpos (Yz [e] X.env)).all (λx=>!x.1) && (Zd cpos (Y1 [] X.env)).all (λx=>x.1.isSome) && decide ([e].length+([]:List Zc).length+(if ([]:List Zc).isEmpty then 0 else 1) < 30))=true:=by rfl)
 (hline:(apos.endLine==cpos.line)=true:=by rfl)(hst:Yz [e] X.env=(false,eval e X.env)::Yz [] X.env:=by rfl)(hplain:(YM cpos (Yz [] X.env)).any (·.1)=false:=by rfl)
 (hs:YN (.Call (.Attribute o "extend" apos) [e] [] cpos) none pos.line X.env=pure false:=by rfl):PS X (.Expr (.Call (.Attribute o "extend" apos) [e] [] cpos) pos) (bg X.K H0 O0 (mz i t)):=
 (sh (sU Vu Vr Wr Mp ho (bA he cb hst) hbase hfew hline hst hplain) hs).imp λD σ H uu41=>by
  obtain⟨O,δ,E,w,⟨ds,e,q⟩,k1,k2,k3,k4⟩:=uu41;obtain⟨l,vs,h,a,b,c,r⟩:=w.own e;refine⟨_,h,.inl ⟨rfl,_,bq.of c⟩,O,δ,_,w,q,λd v H1 ⟨es,ed,q1,q2⟩ s1 r1=>?_⟩;subst ed;have hl:H1 l=some (.lst vs):=s1 _ _ c;cases r1 with
  | lst h1 n r1=>
   refine⟨l,_,vs,_,rfl,rfl,hl,h1,by rw [r.length,r1.length];exact q1,?_⟩;exact k1 _ _ _ _ q2 ((w.mono s1).putO (vs:=vs) e h ((r.mono s1).append r1)) ⟨λb' o' z n=>by rw [az (λy=>n (by rw [y];exact a))];exact s1 _ _ z,λ_ _ n=>n⟩
theorem D6{i:Nat}{x:Str}{e:YA}{t:DA}{pos pos':Pos}(hN:X.N.Nodup)(hi:X.N[i]?=some x)(hx:gP X.env.scope x)(he:PU X e (pI X.K H0 O0 t))(hs:YN e (some (.Name x pos')) pos.line X.env=pure true:=by rfl)(hf:X.fn x=true\/X.env.scope.names.lookup x=some .local:=by first | exact .inl rfl | exact .inr rfl | assumption):
 PS X (.Assign [.Name x pos'] e pos) (bg X.K H0 O0 (iN i t)):=
 (he _ _ _ _ hN hi hx hs hf).imp λD σ H ⟨O,δ,E,w,q,k1,k2,k3,k4⟩=>⟨O,δ,_,w,q,λds vs p H1 q1 s1 hp r1=>k1 _ _ _ _ q1 ((w.mono s1).setO hp r1)
  ⟨λb o e _=>(s1.trans (ar.new hp)) b o e,λb e n z=>z.elim n λy=>by
   cases q:H b with
   | none=>exact e q
   | some o=>have:=s1 _ _ q;rw [y,hp] at this;cases this⟩⟩
end
end L2
namespace Day
def ie(y:Int):Bool:=decide (y % 400=0) || (decide (y % 4=0) && !decide (y % 100=0))
def ld(y:Int):Int:=if ie y=true then 1 else 0
def xv:List Int:=[31,28,31,30,31,30,31,31,30,31,30,31]
def aW(y m:Int):Int:=if m=2/\ie y=true then 29 else xv.getD (m - 1).toNat 0
def lb(y:Int):Int:=(y - 1)/ 4 - (y - 1)/ 100+(y - 1)/ 400
def bD(y:Int):Int:=365*(y - 2000)+lb y - lb 2000
def aG(y m:Int):Int:=((SE (m - 1).toNat).map λ(i:Nat)=>aW y (1+(i:Int))).sum
def j7(y m n:Int):Int:=bD y+aG y m+n - 1
structure j8 (d y m n:Int):Prop where
 m1:1<=m
 m12:m<=12
 n1:1<=n
 nl:n<=aW y m
 eq:j7 y m n=d
theorem D7(y:Int):0<=ld y/\ld y<=1:=by unfold ld;split <;> omega
theorem rD(y:Int):ie y=true↔(y % 400=0\/(y % 4=0/\y % 100≠0)):=by
 unfold ie;simp
theorem xw(y:Int):bD (y+1)=bD y+365+ld y:=by
 unfold bD lb ld;by_cases h:ie y=true
 ·rw [Yp h];have:=(rD y).mp h;omega
 ·rw [Yo h];have:=mt (rD y).mpr h;omega
theorem D8{a b:Int}(h:a+1<=b):bD (a+1)<=bD b:=by
 unfold bD lb;omega
theorem tU(y:Int):aW y 2=28+ld y:=by
 unfold aW ld;by_cases h:ie y=true
 ·rw [Yp ⟨rfl,h⟩,Yp h];rfl
 ·rw [Yo (λz=>h z.2),Yo h];rfl
theorem xy{y m:Int}(h:m≠2):aW y m=xv.getD (m - 1).toNat 0:=by
 unfold aW;rw [Yo (λz=>h z.1)]
theorem rE(y:Int):aW y 1=31/\aW y 3=31/\aW y 4=30/\aW y 5=31/\aW y 6=30/\aW y 7=31/\aW y 8=31/\aW y 9=30/\aW y 10=31/\aW y 11=30/\aW y 12=31:=by
 refine⟨?_,?_,?_,?_,?_,?_,?_,?_,?_,?_,?_⟩ <;> (rw [xy Ym];rfl)
theorem tV{m:Int}(h1:1<=m)(h2:m<=12):m=1\/m=2\/m=3\/m=4\/m=5\/m=6\/m=7\/m=8\/m=9\/m=10\/m=11\/m=12:=by
 obtain⟨k,e⟩:=SK (show 0<=m - 1 by omega);have e:m=(k:Int)+1:=Yn
 have hk:k < 12:=Yn
 have key:∀k:Fin 12,((k.1:Nat):Int)+1=1\/((k.1:Nat):Int)+1=2\/((k.1:Nat):Int)+1=3\/((k.1:Nat):Int)+1=4\/((k.1:Nat):Int)+1=5\/((k.1:Nat):Int)+1=6\/((k.1:Nat):Int)+1=7\/((k.1:Nat):Int)+1=8\/((k.1:Nat):Int)+1=9\/((k.1:Nat):Int)+1=10\/((k.1:Nat):Int)+1=11\/((k.1:Nat):Int)+1=12:=cp
 rw [e];exact key ⟨k,hk⟩
theorem Mq{y m:Int}(h1:1<=m)(h2:m<=12):28<=aW y m/\aW y m<=31:=by
 obtain⟨m1,m3,m4,m5,m6,m7,m8,m9,m10,m11,m12⟩:=rE y;have m2:28<=aW y 2/\aW y 2<=31:=by
  have:=D7 y;rw [tU];clear m1 m3 m4 m5 m6 m7 m8 m9 m10 m11 m12 h1 h2;omega
 have k:∀{z:Int},z=31\/z=30->28<=z/\z<=31:=λh=>by rcases h with h | h <;> rw [h] <;> decide
 rcases tV h1 h2 with h | h | h | h | h | h | h | h | h | h | h | h <;> subst h
 ·exact k (.inl m1)
 ·exact m2
 ·exact k (.inl m3)
 ·exact k (.inr m4)
 ·exact k (.inl m5)
 ·exact k (.inr m6)
 ·exact k (.inl m7)
 ·exact k (.inl m8)
 ·exact k (.inr m9)
 ·exact k (.inl m10)
 ·exact k (.inr m11)
 ·exact k (.inl m12)
theorem rF(y:Int):aG y 1=0:=rfl
theorem eB{y m:Int}(h:1<=m):aG y (m+1)=aG y m+aW y m:=by
 unfold aG;have e:(m+1 - 1).toNat=(m - 1).toNat+1:=Yn
 rw [e,UP,RH,List.sum_append];have e2:(1:Int)+(((m - 1).toNat:Nat):Int)=m:=Yn
 simp only [Rb,RX,X5,List.sum_nil,e2];omega
theorem Mr{a b c:Int}(l:Int)(h:a+b=c):a+(b+l)=c+l:=Yn
theorem jB{a b c:Int}(l:Int)(h:a+b=c):a+l+b=c+l:=Yn
theorem tW(y:Int):aG y 1=0/\aG y 2=31/\aG y 3=59+ld y/\aG y 4=90+ld y/\aG y 5=120+ld y/\aG y 6=151+ld y/\aG y 7=181+ld y/\aG y 8=212+ld y/\aG y 9=243+ld y/\aG y 10=273+ld y/\aG y 11=304+ld y/\aG y 12=334+ld y/\aG y 13=365+ld y:=by
 obtain⟨m1,m3,m4,m5,m6,m7,m8,m9,m10,m11,m12⟩:=rE y;have e2:aG y 2=31:=by rw [show aG y 2=aG y 1+aW y 1 from eB (m:=1) Ym,m1];rfl
 have e3:aG y 3=59+ld y:=by rw [show aG y 3=aG y 2+aW y 2 from eB (m:=2) Ym,e2,tU];exact Mr _ rfl
 have e4:aG y 4=90+ld y:=by rw [show aG y 4=aG y 3+aW y 3 from eB (m:=3) Ym,e3,m3];exact jB _ rfl
 have e5:aG y 5=120+ld y:=by rw [show aG y 5=aG y 4+aW y 4 from eB (m:=4) Ym,e4,m4];exact jB _ rfl
 have e6:aG y 6=151+ld y:=by rw [show aG y 6=aG y 5+aW y 5 from eB (m:=5) Ym,e5,m5];exact jB _ rfl
 have e7:aG y 7=181+ld y:=by rw [show aG y 7=aG y 6+aW y 6 from eB (m:=6) Ym,e6,m6];exact jB _ rfl
 have e8:aG y 8=212+ld y:=by rw [show aG y 8=aG y 7+aW y 7 from eB (m:=7) Ym,e7,m7];exact jB _ rfl
 have e9:aG y 9=243+ld y:=by rw [show aG y 9=aG y 8+aW y 8 from eB (m:=8) Ym,e8,m8];exact jB _ rfl
 have e10:aG y 10=273+ld y:=by rw [show aG y 10=aG y 9+aW y 9 from eB (m:=9) Ym,e9,m9];exact jB _ rfl
 have e11:aG y 11=304+ld y:=by rw [show aG y 11=aG y 10+aW y 10 from eB (m:=10) Ym,e10,m10];exact jB _ rfl
 have e12:aG y 12=334+ld y:=by rw [show aG y 12=aG y 11+aW y 11 from eB (m:=11) Ym,e11,m11];exact jB _ rfl
 have e13:aG y 13=365+ld y:=by rw [show aG y 13=aG y 12+aW y 12 from eB (m:=12) Ym,e12,m12];exact jB _ rfl
 exact⟨rF y,e2,e3,e4,e5,e6,e7,e8,e9,e10,e11,e12,e13⟩
theorem D9{y m:Int}(h1:1<=m):∀k:Nat,m+k<=13->aG y m<=aG y (m+k)
 | 0,_=>by simp
 | k+1,h=>by
  have ih:=D9 (y:=y) h1 k Yn;have e:m+((k+1:Nat):Int)=(m+k)+1:=Yn
  rw [e,eB Yn];have:=Mq (y:=y) (m:=m+k) Yn Yn;omega
theorem xA{y m m':Int}(h1:1<=m)(h2:m<=m')(h3:m'<=13):aG y m<=aG y m':=by
 have:=D9 (y:=y) h1 (m' - m).toNat Yn;rw [show m+(((m' - m).toNat:Nat):Int)=m' by omega] at this;exact this
theorem xB{y m:Int}(h1:1<=m)(h2:m<=12):0<=aG y m/\aG y m+aW y m<=365+ld y:=by
 have a:=xA (y:=y) (m:=1) (m':=m) Ym h1 Yn;have b:=xA (y:=y) (m:=m+1) (m':=13) Yn Yn Ym;rw [eB h1] at b;have c:=(tW y).1;have e:=(tW y).2.2.2.2.2.2.2.2.2.2.2.2;omega
theorem Ea{y m m':Int}(h1:1<=m)(h2:m < m')(h3:m'<=12):aG y m+aW y m<=aG y m':=by
 have b:=xA (y:=y) (m:=m+1) (m':=m') Yn Yn Yn;rw [eB h1] at b;exact b
theorem j8.in{d y m n:Int}(h:j8 d y m n):bD y<=d/\d < bD (y+1):=by
 have:=xB (y:=y) h.m1 h.m12;have:=h.n1;have:=h.nl;have e:=h.eq;have:=xw y;unfold j7 at e;omega
theorem j8.uniq{d y m n y' m' n':Int}(h:j8 d y m n)(h':j8 d y' m' n'):y=y'/\m=m'/\n=n':=by
 have a:=h.in;have b:=h'.in;have ey:y=y':=by
  rcases Wh y y' with z | z | z
  ·have:=D8 (a:=y) (b:=y') Yn;omega
  ·exact z
  ·have:=D8 (a:=y') (b:=y) Yn;omega
 subst ey;have e:=h.eq;have e':=h'.eq;unfold j7 at e e';have em:m=m':=by
  rcases Wh m m' with z | z | z
  ·have:=Ea (y:=y) h.m1 z h'.m12;have:=h.nl;have:=h'.n1;omega
  ·exact z
  ·have:=Ea (y:=y) h'.m1 z h.m12;have:=h'.nl;have:=h.n1;omega
 subst em;exact⟨rfl,rfl,Yn⟩
def pQ(d:Int):Int:=
 if d < bD (2000+d*400 / 146097) then 2000+d*400 / 146097 - 1
 else if bD (2000+d*400 / 146097+1)<=d then 2000+d*400 / 146097+1
 else 2000+d*400 / 146097
theorem Ms(d:Int):bD (pQ d)<=d/\d < bD (pQ d+1):=by
 unfold pQ;have e:2000+d*400 / 146097 - 1+1=2000+d*400 / 146097:=Yn
 by_cases h:d < bD (2000+d*400 / 146097)
 ·rw [Yp h,e];refine⟨?_,h⟩;unfold bD lb at*;omega
 ·rw [Yo h];by_cases h2:bD (2000+d*400 / 146097+1)<=d
  ·rw [Yp h2];refine⟨h2,?_⟩;unfold bD lb at*;omega
  ·rw [Yo h2];omega
def pR(y m n k:Int):Int:=j7 ((y*12+m - 1+k)/ 12) ((y*12+m - 1+k)% 12+1) (min n (aW ((y*12+m - 1+k)/ 12) ((y*12+m - 1+k)% 12+1)))
theorem length_eq(y m:Int)(h1:1<=m)(h2:m<=12):(if m=2/\(y % 4≠0\/(y % 100=0/\y % 400≠0)) then(28:Int) else [31,29,31,30,31,30,31,31,30,31,30,31].getD (m - 1).toNat 0)=aW y m:=by
 by_cases h:m=2
 ·subst h;rw [tU];unfold ld;by_cases l:ie y=true
  ·rw [Yp l,Yo (by have:=(rD y).mp l;omega)];rfl
  ·rw [Yo l,Yp (by have:=mt (rD y).mpr l;omega)];rfl
 ·rw [xy h,Yo (λz=>h z.1)];rcases tV h1 h2 with z | z | z | z | z | z | z | z | z | z | z | z <;> subst z <;> first | rfl | exact absurd rfl h
def fst(M:Int):Int:=j7 (M / 12) (M % 12+1) 1
def Dn(M n:Int):Int:=fst M+n - 1
end Day
namespace L2
open PySem PySem.Spec PyProof.Rows PySem.W
def d2(m:Nat):List Nat:=[48+m / 10,48+m % 10]
def d4(y:Nat):List Nat:=[48+y / 1000,48+y / 100 % 10,48+y / 10 % 10,48+y % 10]
open PySem PySem.Spec PyProof.Rows PySem.W PySem.Calls
section
variable {X:Cx} {H0:Hp} {O0:Ex}
def ig(t:DT):DB:=λδ Q=>t δ λd=>∃ds,d= .list ds/\Q (!ds.isEmpty)
theorem tX{e:YA}{t:DT}(h:DE X H0 O0 e t)(he:∀whole,isTrue e X.env whole=(do let v<-whole;ZO e.pos;Zp [v] (truthy v)):=by intro _;rfl):PT X e (bO X.K H0 O0 (ig t)):=
 (IF h he).imp λσ H Q ⟨O,δ,Qd,w,q,k⟩=>⟨O,δ,_,w,q,λd v H' uu45 s r=>by
  obtain⟨ds,e,qb⟩:=uu45;subst e;obtain⟨a,vs,rfl,hs,r⟩:=(Sh.dt r).lst;refine⟨_,.inl ⟨vs,hs,rfl⟩,?_⟩;have:(!vs.isEmpty)=!ds.isEmpty:=by cases r <;> rfl
  rw [this];exact k _ H' qb s⟩
theorem tY{K:Q7}{H:Hp}{O:Ex}{z:Str}:∀{kv:List (ah×V)}{ks:List Str}{ds:List Ys},kv.map (·.1)=ks.map R9->ak K H O (kv.map (·.2)) ds->aV ks ds z=none->d9 kv (.inr z)=none
 | [],_,ds,_,_,e=>rfl
 | _::_,[],ds,h,_,_=>by cases h
 | p::kv,k::ks,ds,h,hd,e=>by
  rw [Rb] at hd;cases hd with
  | cons h1 h2=>
   simp only [Rb,RZ] at h;obtain⟨p1,p2⟩:=p;obtain⟨rfl,h⟩:=h;unfold aV at e;by_cases hk:k=z
   ·rw [Yp hk] at e;cases e
   ·rw [Yo hk] at e;rw [pN (λq=>hk (jw.mp q))];exact tY h h2 e
def mB(to tk:DT):DT:=λδ Q=>to δ λx=>∃ks ds,x=dS ks ds/\tk δ λy=>∃z,y= .str z/\Q ((aV ks ds z).getD .none)
theorem Mt{o e:YA}{to tk:DT}{apos cpos:Pos}(hu:X.A.units+64 < YQ)(ho:DE X H0 O0 o to)(he:DE X H0 O0 e tk)(m:M1 X o "get" apos e cpos):DE X H0 O0 (.Call (.Attribute o "get" apos) [e] [] cpos) (mB to tk):=
 (CK Yn ho he m).imp λσ H Q uu46=>by
  obtain⟨O,δ,Qd,w,q,k⟩:=uu46;refine⟨O,δ,_,w,q,λx vx H1 ⟨ks,ds,ex,q1⟩ s1 r1=>?_⟩;subst ex;cases r1 with
  | @dic a ob kv ks' kp ds h e1 e2 n rr=>
   have ek:ks'=ks:=by
    have:ks'.map Ra=ks.map Ra:=e2.symm;exact pP this
   subst ek;refine⟨a,rfl,.inl ⟨kv,.inr ⟨_,h⟩⟩,O,δ,_,w.mono s1,q1,λy vy H2 ⟨z,ey,q2⟩ s2 r2=>?_⟩;subst ey;cases r2;refine⟨_,cD.z (k:= .inr z) (s2 _ _ h),k _ _ _ q2 (s1.trans s2) ?_⟩;cases hd:aV ks' ds z with
   | none=>rw [tY e1 rr hd];exact .non
   | some d=>
    obtain⟨v,hv,dv⟩:=rA e1 rr hd;rw [hv];exact dv.mono s2
def mC(to tk tx:DT):DT:=λδ Q=>to δ λx=>∃ks ds,x=dS ks ds/\tk δ λy=>tx δ λu=>∃z,y= .str z/\Q ((aV ks ds z).getD u)
theorem Mu{o e f:YA}{to tk tx:DT}{apos cpos:Pos}(hu:X.A.units+64 < YQ)(ho:DE X H0 O0 o to)(he:DE X H0 O0 e tk)(hf:DE X H0 O0 f tx)(m:M2 X o "get" apos e f cpos):DE X H0 O0 (.Call (.Attribute o "get" apos) [e,f] [] cpos) (mC to tk tx):=
 (KN Yn ho he hf m).imp λσ H Q uu49=>by
  obtain⟨O,δ,Qd,w,q,k⟩:=uu49;refine⟨O,δ,_,w,q,λx vx H1 ⟨ks,ds,ex,q1⟩ s1 r1=>?_⟩;subst ex;cases r1 with
  | @dic a ob kv ks' kp ds h e1 e2 n rr=>
   have ek:ks'=ks:=by
    have:ks'.map Ra=ks.map Ra:=e2.symm;exact pP this
   subst ek;refine⟨a,rfl,.inl ⟨kv,.inr ⟨_,h⟩⟩,O,δ,_,w.mono s1,q1,λy vy H2 q2 s2 r2=>?_⟩;refine⟨O,δ,_,(w.mono s1).mono s2,q2,λu vu H3 ⟨z,ey,q3⟩ s3 r3=>?_⟩;subst ey;cases r2;refine⟨_,cD.z (k:= .inr z) (s3 _ _ (s2 _ _ h)),k _ _ _ q3 ((s1.trans s2).trans s3) ?_⟩;cases hd:aV ks' ds z with
   | none=>rw [tY e1 rr hd];exact r3
   | some d=>
    obtain⟨v,hv,dv⟩:=rA e1 rr hd;rw [hv];exact(dv.mono s2).mono s3
end
theorem Mv:typeLookup (.type "list") "keys"=pure none:=by rw [typeLookup_type,ZS];kernel_rfl
theorem Eb:entryFor table "dict.update.loop"=some Builtin.«dict.update.loop»:=entryFor_of_tree (by kernel_rfl)
theorem tZ:plainId "dict.update.loop"=true:=cp
section
variable {P:YE} {w:YF} {A:YJ} {E:Yt->Yw->Prop} {s:Yw}
theorem Mw{l:Yu}{o:Obj}{xs:Array Yt}{k:Nat}{Q:Option Yt->Yw->Prop}(hx:s.heap.get? l=some o)(hc:o.cls= .type "list")(hdat:o.data= .seq xs k)(hd:o.dict=none)(hA:A.handled=none)
 (h:∀(h':YG) (tk:Nat),(∀b u,s.heap.get? b=some u->h'.get? b=some u)->Q none {s with heap:=h',toks:=tk}):Yy (YB P w) A (getAttr? (.ref l) "keys") Q E s:=by
 obtain⟨c,dct,dat,sl⟩:=o;simp only at hc hdat hd;subst hc hdat hd;obtain⟨hp,g,d,tk,os⟩:=s;have hT:∀tk',(⟨hp,g,d,tk',os⟩:Yw).TypeIs (.ref l) "list":=λ_=>⟨_,hx,rfl⟩;have f1:=sub_AttributeError;have f3:=PySem.F.slot_list_getattribute.lookup;have f4:=PySem.F.slot_list_getattribute.bind (.ref l);have f5:=am_list_getattr_none;unfold getAttr? getAttrBy? getAttrBy
 repeat (any_goals (first | assumption | exact hT _ | ((with_reducible show Yy _ _ (call (Value.builtin "list.__getattribute__") _ _) _ _ _);refine Zt PySem.F.slot_list_getattribute (hT _) am_entry_list_getattribute (PySem.F.args_list_getattribute_2 _ _) (meets_getattribute_miss_list l xs k sl (Q6 "keys") _ Mv cp) ⟨hx,hA,λh' tk' e hx'=>?_⟩) | wp_step))
 obtain⟨t',u',he⟩:=hx'.there;show Yy _ _ (getattributeRaised _ _ _ _ _ _ _) _ _ _;unfold getattributeRaised
 repeat (any_goals (first | assumption | wp_step))
 exact h _ _ λb u e=>hx'.keeps b u e
end
def iY(val:Nat->ah×Yt)(i:Nat):List (ah×Yt):=((SE i).map val).foldl (λa p=>stored a p.1 p.2) []
theorem Ec(val:Nat->ah×Yt)(i:Nat):iY val (i+1)=stored (iY val i) (val i).1 (val i).2:=by
 unfold iY;rw [UP,RH,T6];rfl
theorem Mx{K:Type} [DecidableEq K](l:List (K×Yt))(k:K)(v:Yt):(stored l k v).length<=l.length+1:=by
 unfold stored;split <;> simp
theorem Ed(val:Nat->ah×Yt):∀i,(iY val i).length<=i
 | 0=>Rf _
 | i+1=>by
  have ih:=Ed val i;rw [Ec];have:=Mx (iY val i) (val i).1 (val i).2;omega
def rG(h:YG)(a:Yu)(x y:Yt):Prop:=∃o m,h.get? a=some o/\o.cls= .type "tuple"/\o.data= .seq #[x,y] m
section
variable {P:YE} {w:YF} {A:YJ} {R:Result->Yw->Prop} {I:Yu} {fp wr:List Yu} {G:Array Z6->Array Z6->Prop} {n:Nat} {Pv:Nat->Yt->Prop} {St:Nat->Yw->Prop}
theorem My(W:WalksS P w A.in1 I fp wr G n Pv St)(D:Yu)(hDf:D ∉ fp)(tp:Nat->Yu)(kv:Nat->Yt)(val:Nat->ah×Yt)(hval:∀i v,Pv i v->v= .ref (tp i))(hk:∀i,i < n->(bZ P w).is (val i).1 (kv i)=true)(hw:∀i,i < n->tp i ∉ D::wr)(hb:n<=YC):
 ∀(k i:Nat)(s:Yw),n - i=k->i<=n->St i s->s.heap.DictOf (bZ P w) D (iY val i)->(∀j,j < n->rG s.heap (tp j) (kv j) (val j).2)->
  (∀s',Moved (D::wr) G s s'->s'.heap.DictOf (bZ P w) D (iY val n)->R (.ok (.ret .none)) s')->∀t,Zf (YB P w) A (.builtin "dict.update.loop" ⟨[.ref D,.ref I,.int (i:Int) t,.none],[]⟩) R s:=by
 have sw:D ∉ wr:=λz=>hDf (W.sub _ z);have sub:∀b∈wr,b∈D::wr:=λb z=>Ru _ z;intro k
 induction k with
 | zero=>
  intro i s e1 e2 st hS hT q t;obtain rfl:i=n:=Yn
  refine Y7 Eb ?_;rw [Tt tZ _];show Yy _ A.in1 (Zl (.ref I) >>=_) _ _ s;exact Yv (W.done s _ _ st λs' m=>Yv (Yx (Yx (q s' (m.mono sub) (let ⟨o,es,ep,ho,r⟩:=hS;⟨o,es,ep,m.heap D o sw ho,r⟩)))))
 | succ k ih=>
  intro i s e1 e2 st hS hT q t;have lt:i < n:=Yn
  refine Y7 Eb ?_;rw [Tt tZ _];show Yy _ A.in1 (Zl (.ref I) >>=_) _ _ s;refine Yv (W.item i s _ _ lt st λv s' hP st' m=>?_);obtain rfl:=hval i v hP;have hS':s'.heap.DictOf (bZ P w) D (iY val i):=let ⟨o,es,ep,ho,r⟩:=hS;⟨o,es,ep,m.heap D o sw ho,r⟩
  have hT':∀j,j < n->rG s'.heap (tp j) (kv j) (val j).2:=λj hj=>let ⟨o,m2,ho,r⟩:=hT j hj;⟨o,m2,m.heap _ o (λz=>hw j hj (sub _ z)) ho,r⟩
  obtain⟨o,m2,ho,hc,hd⟩:=hT' i lt;show Yy _ A.in1 (Zp [RW (tp i)] _ >>=_) _ _ s';refine Yv (YW ?_);obtain⟨oc,od,oda,osl⟩:=o;simp only at hc hd;subst hc hd;have hTy:s'.TypeIs (.ref (tp i)) "tuple":=⟨_,ho,rfl⟩;refine Yv (wpAny_tryCatch ?_);unfold Builtin.Dict.pairItems;refine Yv (wpAny_typeOf hTy ?_);rw [Yp Ym];refine Yv (wpAny_seqItems ho rfl (Yx ?_));show Yy _ A.in1 (Zp [kv i,(val i).2] (dictSet D (kv i) (val i).2)) _ _ s';refine YW (wpAny_dictSet_pairs (hk i lt) hS' (λh' S2 sb=>?_) (by have:=Ed val i;omega));rw [<-Ec] at S2;refine Yx ⟨Zk tZ _,ih (i+1) _ Yn lt (W.frame _ s' _ _ st' (Tc _) λb hb o e=>?_) S2 (λj hj=>?_) (λs2 m2 S3=>?_) _⟩
  ·rw [sb.2 b (λz:b=D=>hDf (by rw [<-z];exact hb))];exact e
  ·obtain⟨o,m3,ho3,r⟩:=hT' j hj;exact⟨o,m3,by rw [sb.2 _ (λz=>hw j hj (by rw [z];exact RD))];exact ho3,r⟩
  ·refine q s2 (Moved.trans W.gtrans ((m.mono sub).then_heap (Tc _) λb o hb e=>?_) m2) S3;rw [sb.2 b (λz:b=D=>hb (by rw [z];exact RD))];exact e
end
section
variable {P:YE} {w:YF} {A:YJ} {E:Yt->Yw->Prop} {s:Yw}
theorem Mz{l:Yu}{items:Array Yt}{n:Nat}(tp:Nat->Yu)(kv:Nat->Yt)(val:Nat->ah×Yt){Q:Yt->Yw->Prop}
 (hh:A.handled=none)(hl:∃o k,s.heap.get? l=some o/\o.cls= .type "list"/\o.dict=none/\o.data= .seq items k)(hn:items.size=n)(hi:∀(i:Nat) (v:Yt),items[i]?=some v->v= .ref (tp i))(hk:∀i,i < n->(bZ P w).is (val i).1 (kv i)=true)(hT:∀i,i < n->rG s.heap (tp i) (kv i) (val i).2)(hb:n<=YC)
 (h:∀(h':YG) (tk:Nat),h'.DictOf (bZ P w) s.heap.objs.size (iY val n)->(∀b o,s.heap.get? b=some o->h'.get? b=some o)->Q (.ref s.heap.objs.size) {s with heap:=h',toks:=tk}):
 Yy (YB P w) A (call (.type "dict") [.ref l]) Q E s:=by
 refine callType_codes (Q₁:=λobj s₁=>obj= .ref s.heap.objs.size/\s₁={s with heap:=s.heap.push {cls:= .type "dict",data:= .dict #[]}}) PySem.F.kt_called_dict (PySem.F.kt_typeCall_dict_1 _) PySem.F.entry_dict_init (kt_code_dict_new _ ⟨rfl,rfl⟩) ?_;rintro obj s₁ ⟨rfl,rfl⟩;have hnew:(s.heap.push {cls:= .type "dict",data:= .dict #[]}).DictOf (bZ P w) s.heap.objs.size []:=XO s.heap;refine⟨hnew.typeIs,PySem.F.args_dict_init_2 _ _,?_⟩;unfold Builtin.«dict.__init__»;refine Yv ?_;unfold Builtin.Dict.selfAndRest;refine Yv (wpAny_notOrdered_dict hnew.typeIs ?_);show Yy _ _ (pure (s.heap.objs.size,[RW l])) _ _ _;refine Yx ?_;show Yy _ _ (Wz "dict.__init__" s.heap.objs.size (.ref l) [] .none) _ _ _;unfold Wz;obtain⟨o,k,ho,hc,hd,hdat⟩:=hl;have ho2:(s.heap.push {cls:= .type "dict",data:= .dict #[]}).get? l=some o:=Rc _ ho;refine Yv (wpAny_typeOf (T:="list") ⟨_,ho2,hc⟩ ?_);rw [Yp Ym];refine Yv (Mw (s:={s with heap:=s.heap.push {cls:= .type "dict",data:= .dict #[]}}) ho2 hc hdat hd ?_ λh' tk hk'=>?_)
 ·simp [hh]
 ·show Yy _ A.in1.in1 (rule _ >>=_) _ _ _;refine Yv (ZE ?_);have o3:h'.get? l=some o:=hk' l o ho2;have l1:h'.IsList l items:=⟨_,o3,hc,k,hdat⟩;have ll:l < s.heap.objs.size:=Rx ho;have nD:s.heap.objs.size < h'.objs.size:=by
   obtain⟨od,_,_,hod,_⟩:=hnew;exact Rx (hk' _ _ hod)
  refine Yv (ZI l1 ?_);refine Yx ⟨Zk tZ _,?_⟩;have tl:∀i,i < n->tp i < s.heap.objs.size:=λi hi=>by obtain⟨_,_,e,_⟩:=hT i hi;exact Rx e
  have hn2:items.size<=YC:=Yn
  subst hn;refine My (A:=A.in1) (XN (show A.in1.in1.handled=none by simp [hh]) _ l (RI (VS ll nD)) items).toS s.heap.objs.size (by simp only [Rh,Sj,or_false,not_or];exact⟨RI nD,Vo ll⟩) tp kv val hi hk ?A hn2 (items.size - 0) 0 _ Yn (Sd _)
   ⟨⟨_,RJ _ rfl,rfl,rfl⟩,l1.push _⟩ ?hS0 ?hT0 ?hR _
  case A=>
   intro i hi z;have t1:=tl i hi;simp only [Rh,Sj,or_false] at z;rcases z with z | z
   ·exact RI t1 z
   ·exact RI (VS t1 nD) z
  case hT0=>
   intro j hj;obtain⟨u,m,e,r⟩:=hT j hj;exact⟨u,m,Rc _ (hk' _ _ (Rc _ e)),r⟩
  case hS0=>
   obtain⟨od,es,ep,hod,r⟩:=hnew;exact⟨od,es,ep,Rc _ (hk' _ _ hod),r⟩
  case hR=>
   intro s' m S';obtain⟨h2,g',d',tk',os'⟩:=s';obtain rfl:g'=s.gens:=m.gens;obtain rfl:d'=s.drawn:=m.drawn;obtain rfl:os'=s.os:=m.os;refine⟨rfl,h h2 tk' S' λb u e=>?_⟩;have hb1:b < s.heap.objs.size:=Rx e;refine m.heap b u ?_ (Rc _ (hk' _ _ (Rc _ e)));simp only [Rh,Sj,or_false,not_or];exact⟨RI hb1,RI (VS hb1 nD)⟩
end
def xC(K:Q7)(H:Hp)(vs:List V)(kvs:List (ah×V)):Prop:=Paired (λv (p:ah×V)=>∃b,v= .ref b/\bw K H b [kV p.1,p.2]) vs kvs
theorem Ee{X:Cx}{aaa:List (Yu×Obj)}{σ:St}{H:Hp}{s:Yw}(I:af X aaa σ H s):∀{vs:List V}{kvs:List (ah×V)}{its:List Yt},xC X.K H vs kvs->aH vs its->
 ∃zs:List (Yu×Yt×ah×Yt),zs.length=its.length/\KV kvs (zs.map (·.2.2))/\its=zs.map (λz=>RW z.1)/\∀z∈zs,(bZ X.prog X.w).is z.2.2.1 z.2.1=true/\rG s.heap z.1 z.2.1 z.2.2.2
 | _,_,_,.nil,.nil=>⟨[],rfl,.nil,rfl,Yr⟩
 | _,_,_,.cons (b:=p) h t,.cons r rs=>by
  obtain⟨zs,e1,e2,e3,e4⟩:=Ee I t rs;obtain⟨b,rfl,hb⟩:=h;cases r;obtain⟨its2,r2,⟨o,ho,hc,n,hd⟩,_⟩:=I.tuple hb;cases r2 with
  | @cons _ u _ _ ru r3=>
   obtain⟨x,rfl,rx⟩:=fb r3;refine⟨(b,u,p.1,x)::zs,by simp [e1],.cons ⟨rfl,rx⟩ e2,by rw [e3];rfl,λz hz=>?_⟩;rcases Rh.mp hz with e | e
   ·subst e;exact⟨j1 ru,o,n,ho,hc,hd⟩
   ·exact e4 z e
theorem MA{X:Cx}:eJ X (.type "dict") (λxs H Q=>X.calm=true/\∃a vs kvs,xs=[.ref a]/\bq X.K H a vs/\xC X.K H vs kvs/\∀l,H l=none->Q (.ref l) (ai H l (.dK (iV [] kvs)))):=by
 intro aaa s σ H xs us Q I r h;obtain⟨hc,a,vs,kvs,rfl,ha,hp,q⟩:=h;obtain⟨u,rfl,rx⟩:=fb r;cases rx;obtain⟨its,rv,⟨o,n,ho,hcl,hdi,hda⟩,hz⟩:=I.list ha;obtain⟨zs,z1,z2,z3,z4⟩:=Ee I hp rv;have ln:vs.length=its.length:=rv.length;have hk:kvs.length=zs.length:=by rw [z2.length,Q8]
 let D:Yu×Yt×ah×Yt:=(0,.none,.inl 0,.none)
 have at_:∀i,i < its.length->∃z∈zs,(zs[i]?).getD D=z:=λi hi=>by
  rw [<-z1] at hi;exact⟨zs[i],Ti hi,by rw [RG hi];rfl⟩
 refine Mz (s:=s) (n:=its.length) (λi=>((zs[i]?).getD D).1) (λi=>((zs[i]?).getD D).2.1) (λi=>((zs[i]?).getD D).2.2) (I.ok.hd hc) ⟨o,n,ho,hcl,hdi,hda⟩ Yr (λi v e=>?_) (λi hi=>?_) (λi hi=>?_) Yn λh' tk dd kp=>?_
 ·rw [List.getElem?_toArray,z3,Rt] at e;cases hz':zs[i]? with
  | none=>rw [hz'] at e;cases e
  | some z=>rw [hz'] at e;cases e;rfl
 ·obtain⟨z,hz1,e⟩:=at_ i hi;show(bZ X.prog X.w).is ((zs[i]?).getD D).2.2.1 ((zs[i]?).getD D).2.1=true;rw [e];exact(z4 z hz1).1
 ·obtain⟨z,hz1,e⟩:=at_ i hi;show rG s.heap ((zs[i]?).getD D).1 ((zs[i]?).getD D).2.1 ((zs[i]?).getD D).2.2.2;rw [e];exact(z4 z hz1).2
 ·have em:iY (λi=>((zs[i]?).getD D).2.2) its.length=merged [] (zs.map (·.2.2)):=by
   unfold iY merged;congr 1;rw [<-z1];apply Ua Yr;intro i a b;simp at a b⊢;rw [RG Yn];rfl
  rw [em] at dd;have zl:(iV [] kvs).length<=YC:=by
   have h1:=wK kvs [];rw [R8] at h1;omega
  exact⟨.ref _,_,I.laid (t':=tk) (o:= .dK (iV [] kvs)) kp (Rf _) (wG zl (beq_eq_false_iff_ne.mpr (Ne.symm (RI I.big))) (z2.merge .nil) dd),rfl,q _ (I.hok.fresh (Rf _))⟩
section
variable {X:Cx} {H0:Hp} {O0:Ex}
def mD(t:DA):j4:=λδ Q=>t δ λds=>∃kd:List (ah×Ys),ds=[.list (kd.map λp=>.tuple [jv p.1,p.2])]/\Q (kd.foldl (λa p=>dh a p.1 p.2) [])
theorem Ef{K:Q7}{H:Hp}{O:Ex}:∀{us:List V}{kd:List (ah×Ys)},ak K H O us (kd.map λp=>.tuple [jv p.1,p.2])->∃kv,xC K H us kv/\br K H O kv kd
 | [],[],_=>⟨[],.nil,.nil⟩
 | _::_,(k,d)::kd,.cons h r=>by
  obtain⟨kv,h1,h2⟩:=Ef r;obtain⟨b,vs,rfl,hs,d2⟩:=(Sh.dt h).tup;cases d2 with
  | cons x1 x2=>
   cases x2 with
   | cons x2 x3=>
    cases x3;cases x1.key;exact⟨(k,_)::kv,.cons ⟨b,rfl,hs⟩ h1,.cons x2 h2⟩
theorem MB{a:YA}{t:DA}{np p:Pos}(hc:X.calm=true)(hg:Gl X "dict")(hm:X.mg "dict"=none)(ha:PA X [a] (gZ X.K H0 O0 t))(he:Yz [a] X.env=(false,eval a X.env)::Yz [] X.env:=by rfl)(hpl:(YM p (Yz [] X.env)).any (·.1)=false:=by rfl):KE X H0 O0 (.Call (.Name "dict" np) [a] [] p) (mD t):=
 (dZ MA hg hm JV ha (he:=he) (hpl:=hpl)).imp λσ H Q uu52=>by obtain⟨O,δ,Qd,w,q,k⟩:=uu52;exact⟨O,δ,_,w,q,λds vs H1 uu53 s1 r1=>by
  obtain⟨kd,e,q1⟩:=uu53;subst e;cases r1 with
  | cons h r=>
   cases r;obtain⟨a,us,rfl,h1,d1⟩:=h.lst;obtain⟨kv,p1,p2⟩:=Ef d1;exact⟨hc,a,us,kv,rfl,h1,p1,λl hl=>k _ _ _ _ q1 s1 hl (p2.merge .nil)⟩⟩
end
theorem Dt.dicE{K:Q7}{H:Hp}{O:Ex}{v:V}{ks:List Str}{ds:List Ys}(h:Dt K H O v (dS ks ds)):∃a ob kv,v= .ref a/\H a=some (.frz ob (.dK kv))/\kv.map (·.1)=ks.map R9/\¬O a/\ak K H O (kv.map (·.2)) ds:=by
 cases h with
 | @dic a ob kv ks' kp ds h e1 e2 n rr=>
  have ek:ks'=ks:=pP e2.symm;subst ek;exact⟨a,ob,kv,rfl,h,e1,n,rr⟩
theorem Eg{K:Q7}{H:Hp}{O:Ex}{z:Str}{kv:List (ah×V)}{ks:List Str}{ds:List Ys}(e1:kv.map (·.1)=ks.map R9)(r:ak K H O (kv.map (·.2)) ds):(d9 kv (.inr z)).isSome=(aV ks ds z).isSome:=by
 cases hd:aV ks ds z with
 | none=>rw [tY e1 r hd];rfl
 | some d=>
  obtain⟨v,hv,_⟩:=rA e1 r hd;rw [hv];rfl
section
variable {X:Cx} {H0:Hp} {O0:Ex}
def iZ(neg:Bool)(tk to:DT):DT:=λδ Q=>tk δ λy=>to δ λx=>∃z ks ds,y= .str z/\x=dS ks ds/\Q (.bool (if neg then !(aV ks ds z).isSome else(aV ks ds z).isSome))
theorem MC{o e:YA}{tk to:DT}(hu:X.A.units+64 < YQ)(ho:DE X H0 O0 o to)(he:DE X H0 O0 e tk):PC X .In e o (up X.K H0 O0 (iZ false tk to)):=λaaa s σ H Q I ⟨O,δ,Qd,w,q,k⟩=>
 CH Yn he ho aaa s σ H Q I ⟨O,δ,_,w,q,λy uy H2 q2 s2 r2=>⟨O,δ,_,w.mono s2,q2,λx ux H3 uu55 s3 r3=>by
  obtain⟨z,ks,ds,ey,ex,q3⟩:=uu55;subst ey ex;cases r2;obtain⟨a,ob,kv,rfl,h,e1,n,rr⟩:=r3.dicE;exact⟨a,_,rfl,cD.z (k:= .inr z) h,by rw [Eg e1 rr];exact k _ _ _ q3 (s2.trans s3) (.bl _)⟩⟩⟩
theorem MD{o e:YA}{tk to:DT}(hu:X.A.units+64 < YQ)(ho:DE X H0 O0 o to)(he:DE X H0 O0 e tk):PC X .NotIn e o (up X.K H0 O0 (iZ true tk to)):=λaaa s σ H Q I ⟨O,δ,Qd,w,q,k⟩=>
 wH Yn he ho aaa s σ H Q I ⟨O,δ,_,w,q,λy uy H2 q2 s2 r2=>⟨O,δ,_,w.mono s2,q2,λx ux H3 uu57 s3 r3=>by
  obtain⟨z,ks,ds,ey,ex,q3⟩:=uu57;subst ey ex;cases r2;obtain⟨a,ob,kv,rfl,h,e1,n,rr⟩:=r3.dicE;exact⟨a,_,rfl,cD.z (k:= .inr z) h,by rw [Eg e1 rr];exact k _ _ _ q3 (s2.trans s3) (.bl _)⟩⟩⟩
theorem Q5{o e:YA}{tk to:DT}{pos:Pos}(hu:X.A.units+64 < YQ)(ho:DE X H0 O0 o to)(he:DE X H0 O0 e tk)(hm:YU .In o=false:=by rfl):PT X (.Compare e [.In] [o] pos) (bO X.K H0 O0 (cY (iZ false tk to))):=
 (pj (MC hu ho he) hm).imp λσ H Q uu58=>by obtain⟨O,δ,Qd,w,q,k⟩:=uu58;exact⟨O,δ,_,w,q,λd v H' uu59 s r=>by obtain⟨b,e,qb⟩:=uu59;subst e;cases r;exact⟨b,rfl,k b H' qb s⟩⟩
theorem ME{o e:YA}{tk to:DT}{pos:Pos}(hu:X.A.units+64 < YQ)(ho:DE X H0 O0 o to)(he:DE X H0 O0 e tk)(hm:YU .NotIn o=false:=by rfl):PT X (.Compare e [.NotIn] [o] pos) (bO X.K H0 O0 (cY (iZ true tk to))):=
 (pj (MD hu ho he) hm).imp λσ H Q uu60=>by obtain⟨O,δ,Qd,w,q,k⟩:=uu60;exact⟨O,δ,_,w,q,λd v H' uu61 s r=>by obtain⟨b,e,qb⟩:=uu61;subst e;cases r;exact⟨b,rfl,k b H' qb s⟩⟩
theorem Sh.dicE{K:Q7}{H:Hp}{O:Ex}{v:V}{ks:List Str}{ds:List Ys}(h:Sh K H O v (dS ks ds)):Dt K H O v (dS ks ds):=by
 cases h with
 | dt h=>exact h
theorem Eh{X:Cx}{pos:Pos}:PE X (.Dict [] [] pos) (λ_ H Q=>∀p o,H p=none->Q (.ref p) (ai H p (.frz o (.dK [])))):=λaaa s σ H Q I h=>by
 have I1:=I.laid (a:=s.heap.objs.size) (o:= .dK []) (t':=s.toks) (λ_ _ q=>Rc _ q) (Rf _) (wJ s.heap I.big);obtain⟨o,I2⟩:=I1.fast bh;rw [Bc] at I2;exact wpAny_Dict_empty ⟨.ref s.heap.objs.size,_,I2,rfl,h _ o (I.hok.fresh (Rf _))⟩
end
mutual
def cM:Ys->Bool
 | .list ds=>fQ ds
 | .tuple ds=>fQ ds
 | .none=>true
 | .bool _=>true
 | .int _=>true
 | .str _=>true
 | _=>false
def fQ:List Ys->Bool
 | []=>true
 | d::ds=>cM d && fQ ds
end
def Gp(C:Yu)(H:Hp)(O O1:Ex):Prop:=∀a,O a->O1 a\/(∃o kv,H a=some (.frz o (.dK kv)))\/∃dx fs,H a=some (.ins C dx fs)
theorem Gp.ne{C:Yu}{H:Hp}{O O1:Ex}(g:Gp C H O O1){a:Yu}{u:HO}(h:Rd H a u)(n:¬O1 a)(h1:∀kv,u≠ .dK kv)(h2:∀dx fs,u≠ .ins C dx fs)(h3:∀o kv,u≠ .frz o (.dK kv)):¬O a:=λz=>by
 rcases g a z with q | ⟨o,kv,q⟩ | ⟨dx,fs,q⟩
 ·exact n q
 ·rcases h with h | ⟨o',h⟩ <;> rw [q] at h <;> cases h
  ·exact h3 _ _ rfl
  ·exact h1 _ rfl
 ·rcases h with h | ⟨o',h⟩ <;> rw [q] at h <;> cases h;exact h2 _ _ rfl
mutual
theorem Dt.cln{K:Q7}{C:Yu}{H:Hp}{O O1:Ex}(g:Gp C H O O1):∀{v:V}{d:Ys},Dt K H O1 v d->cM d=true->Dt K H O v d
 | _,_,.non,_=>.non
 | _,_,.bl b,_=>.bl b
 | _,_,.int i,_=>.int i
 | _,_,.str x,_=>.str x
 | _,_,.tup h n r,c=>.tup h (g.ne h n (λ_ z=>nomatch z) (λ_ _ z=>nomatch z) (λ_ _ z=>nomatch z)) (ak.cln g r (by simpa [cM] using c))
 | _,_,.tupK h r,c=>.tupK h (ak.cln g r (by simpa [cM] using c))
 | _,_,.lst h n r,c=>.lst h (g.ne h n (λ_ z=>nomatch z) (λ_ _ z=>nomatch z) (λ_ _ z=>nomatch z)) (ak.cln g r (by simpa [cM] using c))
 | _,_,.pack _ _,c=>by simp [cM] at c
 | _,_,.purse _ _,c=>by simp [cM] at c
 | _,_,.dct0 _ _,c=>by simp [cM] at c
 | _,_,.obj _ _ _ _,c=>by simp [cM] at c
 | _,_,.dic _ _ _ _ _,c=>by simp [cM] at c
 | _,_,.scr _ _,c=>by simp [cM] at c
theorem ak.cln{K:Q7}{C:Yu}{H:Hp}{O O1:Ex}(g:Gp C H O O1):∀{vs:List V}{ds:List Ys},ak K H O1 vs ds->fQ ds=true->ak K H O vs ds
 | _,_,.nil,_=>.nil
 | _,_,.cons h r,c=>by
  rw [fQ,Si] at c;exact .cons (Dt.cln g h c.1) (ak.cln g r c.2)
end
def xD(C:Yu)(d:Ys):Prop:=cM d=true\/∃C' kp ds,C'≠C/\d=fK C' kp ds/\fQ ds=true
theorem Dt.clnO{K:Q7}{C:Yu}{H:Hp}{O O1:Ex}(g:Gp C H O O1){v:V}{d:Ys}(h:Dt K H O1 v d)(c:xD C d):Dt K H O v d:=by
 rcases c with c | ⟨C',kp,ds,ne,rfl,c⟩
 ·exact h.cln g c
 ·generalize e:fK C' kp ds=x at h;cases h with
  | @obj a C2 dx fs kp' ds' h1 h2 n r=>
   simp only [fK,Xr,RZ,VE,SI,SX,Te,and_true,true_and] at e;obtain⟨e1,e2,e3⟩:=e;have e1:C'=C2:=by exact_mod_cast e1
   subst e1 e2 e3;refine .obj h1 h2 ?_ (r.cln g c);exact g.ne (.inl h1) n (λ_ z=>nomatch z) (λ_ _ z=>by cases z;exact ne rfl) (λ_ _ z=>nomatch z)
  | _=>first | cases e | simp [fK] at e
theorem bJ.thaw{P:YE}{w:YF}{H:Hp}{h:YG}(x:bJ P w H h){g:Yu}{o:Obj}{kv:List (ah×V)}(e:H g=some (.frz o (.dK kv))):bJ P w (ai H g (.dK kv)) h:=λb u q=>by
 by_cases hb:b=g
 ·subst hb;rw [bh] at q;cases q;obtain⟨_,z⟩:=x b _ e;exact z
 ·rw [az hb] at q;exact(x b u q).stay (λ_ _ _ r=>r) (λc r=>by rw [az (λz=>by rw [z,e] at r;cases r)];exact r) λc xs r=>by rw [az (λz=>by rw [z,e] at r;cases r)];exact r
theorem af.thaw{X:Cx}{aaa:List (Yu×Obj)}{σ:St}{H:Hp}{s:Yw}(I:af X aaa σ H s){g:Yu}{o:Obj}{kv:List (ah×V)}(e:H g=some (.frz o (.dK kv)))(hX:∀o u,X.H₀ g≠some (.frz o u)):af X aaa σ (ai H g (.dK kv)) s:=by
 have ne:∀{b:Yu},H b=none->b≠g:=λn z=>by rw [z,e] at n;cases n
 refine⟨I.ok,I.os,I.bare,⟨I.base.keep,I.base.slot,λb o' h1 h2 h3=>?_,I.base.there,λb xs q=>?_,λb o' u q=>?_,λb ps q=>?_⟩,I.loc,I.cell,?_,λx c q=>?_,λp hp=>?_,I.hok.thaw e,I.len⟩
 ·have:=I.base.free b o' h1 h2 h3;rw [az (ne this)];exact this
 ·have:=I.base.tups b xs q;rw [az (λz=>by rw [z,e] at this;cases this)];exact this
 ·have:=I.base.frzs b o' u q;rw [az (λz=>hX o' u (by rw [<-z];exact q))];exact this
 ·obtain⟨m,this⟩:=I.base.tbls b ps q;exact⟨m,by rw [az (λz=>by rw [z,e] at this;cases this)];exact this⟩
 ·rw [az (ne I.free)];exact I.free
 ·rw [az (ne (I.freeC x c q))];exact I.freeC x c q
 ·obtain⟨a,b,c⟩:=I.pin p hp;exact⟨a,by rw [az (ne b)];exact b,c⟩
section
variable {X:Cx} {CX:fA} {k:Nat} {f C:Yu} {fd:YD} {ps:List Str} {sp:Sp} {E:XK} {x m:Str} {p pos apos:Pos} {e o:YA} {es:List YA} {ta:TE} {t:TA}
def MF(X:Cx)(C:Yu)(m:Str)(sp:Sp)(E:XK)(ta:TE)(t:TA):TE:=λσ H Q=>ta σ H λx H1=>∃a dx fs,x= .ref a/\H1 a=some (.ins C dx fs)/\fs.lookup m=none/\
 t σ H1 λvs H2=>∃g u og ou gv uv,g≠u/\H2 g=some (.frz og (.dK gv))/\H2 u=some (.frz ou (.dK uv))/\(∀o z,X.H₀ g≠some (.frz o z))/\(∀o z,X.H₀ u≠some (.frz o z))/\
  sp (x::vs) (ai (ai H2 g (.dK gv)) u (.dK uv)) (λv H3=>∃gv' uv',H3 g=some (.dK gv')/\H3 u=some (.dK uv')/\∀og' ou',Q v (ai (ai H3 g (.frz og' (.dK gv'))) u (.frz ou' (.dK uv')))) E
theorem MG{pl:Sem Bool}(he:PE X o ta)(c:cW X.K C)(hm:gQ X.K C m f)(F:aB X.prog X.w X.K X.mg X.base CX k f fd ps sp)(hr:aY k X.A)(hb:dF X.K fd ps [])(hx:iH CX X E)(ha:PA X (e::es) t)
 (hst:Yz (e::es) X.env=(false,eval e X.env)::Yz es X.env:=by rfl)(hpl:(YM pos (Yz es X.env)).any (·.1)=false:=by rfl)
 (ht:eval (.Call (.Attribute o m apos) (e::es) [] pos) X.env=(do
  let ov<-eval o X.env
  ZO apos.atName
  let (f,first)<-Zp [ov] (ZQ ov m pl)
  callWith pos f first (YM pos (Yz (e::es) X.env)) (Zd pos (Y1 [] X.env))):=by rfl):
 PE X (.Call (.Attribute o m apos) (e::es) [] pos) (MF X C m sp E ta t):=by
 intro aaa s σ H Q I h;refine U0 (pl:=pl) (aA (he aaa s σ H _ I h) λu s1 ⟨x,H1,I1,rx,a,dx,fs,ex,ea,l,q⟩=>?_) ht;subst ex;obtain rfl:u=RW a:=rx;refine sI I1 ea c hm l ?_;refine Vq (first:=[.ref a]) (h₀:=X.base) I.ok.mod.kin hm.kp (aA (ha pos aaa s1 σ H1 _ I1 q) λus s2 ⟨vs,H2,I2,r,q2⟩=>⟨I2.kIn,?_⟩) hst hpl;obtain⟨g,u,og,ou,gv,uv,ne,hg,hu,xg,xu,q2⟩:=q2;have I3:=(I2.thaw hg xg).thaw (g:=u) (o:=ou) (kv:=uv) (by rw [az (Ne.symm ne)];exact hu) xu;refine aA (sN (us:= .ref a::us) (vs:= .ref a::vs) (dvs:=[]) (ds:=[]) F hr hb .nil hx I3 (.cons rfl r) (by rw [RY];exact q2)) λv s3 z=>?_;obtain⟨y,H4,I4,ry,gv',uv',g4,u4,q4⟩:=z;obtain⟨og',I5⟩:=I4.fast g4;obtain⟨ou',I6⟩:=I5.fast (a:=u) (kv:=uv') (by rw [az (Ne.symm ne)];exact u4);exact⟨y,_,I6,ry,q4 og' ou'⟩
end
section
variable {X:Cx} {H0:Hp} {O0:Ex}
theorem Ei{fs:List (Str×V)}{ks:List Str}{m:Str}(h:fs.map (λp=>Ra p.1)=ks.map Ra)(hm:m ∉ ks):fs.lookup m=none:=by
 have e:fs.map (·.1)=ks:=by
  apply pP;rw [<-h,RB];rfl
 subst e
 induction fs with
 | nil=>rfl
 | cons p fs ih=>
  obtain⟨g,x⟩:=p;simp only [Rb,Rh,not_or] at hm;rw [RP,show(m==g)=false by simpa using hm.1];exact ih (by rw [RB];rfl) hm.2
def pT(C:Yu)(m:Str)(F:List Ys->(Ys->Prop)->Prop)(to:DT)(t:DA):DT:=λδ Q=>to δ λx=>∃(ks:List Str)(ds:List Ys),x=fK C (ks.map .str) ds/\m ∉ ks/\t δ λes=>F (x::es) Q
theorem MH{K:Q7}{C:Yu}{m:Str}{F:List Ys->(Ys->Prop)->Prop}{to:DT}{t:DA}{E:XK}:∀σ H Q,up K H0 O0 (pT C m F to t) σ H Q->qL C m (aU K F) [] E (up K H0 O0 to) (gi K H0 O0 t) σ H Q:=
 λσ H Q uu64=>by obtain⟨O,δ,Qd,w,q,k⟩:=uu64;exact⟨O,δ,_,w,q,λx v H1 uu65 s1 r1=>by
  obtain⟨ks,ds,ex,hm,q1⟩:=uu65;have r0:=r1;subst ex;obtain⟨a,dx,fs,rfl,h1,h2,r⟩:=r1.objI;exact⟨a,dx,fs,rfl,h1,Ei h2.symm hm,O,δ,_,w.mono s1,q1,λes vs H2 q2 s2 r2=>⟨O,_,Qd,(w.mono (s1.trans s2)).trk,by rw [RY];exact .cons (r0.mono s2) r2,q2,λd v H3 q3 s3 r3=>k d v H3 q3 (s1.trans (s2.trans s3)) r3⟩⟩⟩
theorem t5{K:Q7}{C:Yu}{m:Str}{F:List Ys->(Ys->Prop)->Prop}{to:DT}{E:XK}:∀σ H Q,up K H0 O0 (pT C m F to gW) σ H Q->qL C m (aU K F) [] E (up K H0 O0 to) sL σ H Q:=
 λσ H Q uu66=>by obtain⟨O,δ,Qd,w,q,k⟩:=uu66;exact⟨O,δ,_,w,q,λx v H1 uu67 s1 r1=>by
  obtain⟨ks,ds,ex,hm,q1⟩:=uu67;have r0:=r1;subst ex;obtain⟨a,dx,fs,rfl,h1,h2,r⟩:=r1.objI;exact⟨a,dx,fs,rfl,h1,Ei h2.symm hm,O,_,Qd,(w.mono s1).trk,.cons r0 .nil,q1,λd v H3 q3 s3 r3=>k d v H3 q3 (s1.trans s3) r3⟩⟩
end
def oM:Dl->Bool
 | []=>true
 | some (.r _ _ _ _ _ _ _)::_=>false
 | _::r=>oM r
theorem Ej{l C g u:Yu}{fd:List (Str×Ys)}{gd ud:List (ah×Ys)}:∀{δ:Dl}{j:Nat},oM δ=true->δ[j]?≠some (some (.r l C g u fd gd ud))
 | [],_,_,z=>by simp at z
 | y::r,0,h,z=>by
  simp at z;subst z;simp [oM] at h
 | y::r,j+1,h,z=>by
  have h':oM r=true:=by
   unfold oM at h;split at h
   ·rename_i q;cases q
   ·cases h
   ·rename_i q;cases q;exact h
  exact Ej (δ:=r) (j:=j) h' (by simpa using z)
section
variable {K:Q7} {H0 H H':Hp} {O0 O:Ex} {σ:St} {δ:Dl}
theorem gU.goN{O':Ex}{x:Option V}{y:Option Sl}(h:gU K H O0 O x y)(nr:∀l C g u fd gd ud,y≠some (.r l C g u fd gd ud))(S:aM H H' O O')(kp:∀l o z,y=some z->z.own->x=some (.ref l)->O l->¬O0 l->H l=some o->O' l/\H' l=some o)(kp3:∀a o,O0 a->H a=some o->H' a=some o):gU K H' O0 O' x y:=by
 match y,h with
 | none,_=>exact S9
 | some (.v d),⟨v,e,r⟩=>exact⟨v,e,r.step S⟩
 | some (.o ds),⟨l,vs,e,a,b,c,r⟩=>exact⟨l,vs,e,(kp l _ _ rfl trivial e a b c).1,b,(kp l _ _ rfl trivial e a b c).2,r.step S⟩
 | some (.k ds),⟨l,vs,e,a,b,c,r⟩=>exact⟨l,vs,e,(kp l _ _ rfl trivial e a b c).1,b,(kp l _ _ rfl trivial e a b c).2,r.step S⟩
 | some (.i l C ds),⟨dx,vs,e,a,b,c,r1,r2⟩=>exact⟨dx,vs,e,(kp l _ _ rfl trivial e a b c).1,b,(kp l _ _ rfl trivial e a b c).2,r1,r2.step S⟩
 | some (.r l C g u fd gd ud),_=>exact absurd rfl (nr l C g u fd gd ud)
 | some (.b ds),⟨l,vs,e,a,c,r⟩=>exact⟨l,vs,e,a,kp3 _ _ a c,r.step S⟩
theorem MI{i j:Nat}(h:j≠i):(δ.set i none)[j]?=δ[j]?:=Rr (Ne.symm h)
theorem Wd.putR(w:Wd K H0 O0 H O σ δ){i:Nat}{l C g u:Yu}{fd:List (Str×Ys)}{gd ud gd' ud':List (ah×Ys)}{gv uv:List (ah×V)}{og ou:Obj}(e:δ[i]?=some (some (.r l C g u fd gd ud)))(nr:oM (δ.set i none)=true)(hg:br K H O gv gd')(hu:br K H O uv ud'):
 Wd K H0 O0 (ai (ai H g (.frz og (.dK gv))) u (.frz ou (.dK uv))) O σ (δ.set i (some (.r l C g u fd gd' ud')))/\aM H (ai (ai H g (.frz og (.dK gv))) u (.frz ou (.dK uv))) O O:=by
 obtain⟨x1,x2,x3,dx,fs,og0,ou0,gv0,uv0,hl,hf,ne,⟨g1,g2,g3,_⟩,u1,u2,u3,_⟩:=w.sl i _ e;have g0:H0 g=none:=(w.new g g1).resolve_left g2;have u0:H0 u=none:=(w.new u u1).resolve_left u2;have li:i < δ.length:=(Rm.mp e).1;have at_:∀{b:Yu},b≠g->b≠u->(ai (ai H g (.frz og (.dK gv))) u (.frz ou (.dK uv))) b=H b:=λh1 h2=>by rw [az h2,az h1]
 have S:aM H (ai (ai H g (.frz og (.dK gv))) u (.frz ou (.dK uv))) O O:=⟨λb o q n=>by rw [at_ (λz=>n (by rw [z];exact g1)) (λz=>n (by rw [z];exact u1))];exact q,λ_ _ n=>n⟩;have gg:(ai (ai H g (.frz og (.dK gv))) u (.frz ou (.dK uv))) g=some (.frz og (.dK gv)):=by rw [az ne,bh]
 have lg:l≠g:=λz=>by rw [z,g3] at hl;cases hl
 have lu:l≠u:=λz=>by rw [z,u3] at hl;cases hl
 refine⟨⟨λb o q=>by rw [at_ (λz=>by rw [z,g0] at q;cases q) (λz=>by rw [z,u0] at q;cases q)];exact w.same b o q,w.sub,w.new,λb z=>?_,by simp [w.len],λj y q=>?_,λj k y z b e1 y1' e2 z2 e3 e4=>?_⟩,S⟩
 ·by_cases q1:b=g
  ·rw [q1,gg];exact λz=>nomatch z
  ·by_cases q2:b=u
   ·rw [q2,bh];exact λz=>nomatch z
   ·rw [at_ q1 q2];exact w.trk b z
 ·by_cases hj:j=i
  ·subst hj;rw [RL li] at q;cases q;exact⟨x1,x2,x3,dx,fs,og,ou,gv,uv,by rw [at_ lg lu];exact hl,⟨hf.1,hf.2.step S⟩,ne,⟨g1,g2,gg,hg.step S⟩,u1,u2,bh,hu.step S⟩
  ·rw [Rr (Ne.symm hj)] at q;refine(w.sl j y q).goN (λl' C' g' u' fd' gd' ud' z=>?_) S (λb o z hz ho e' a1 a2 a3=>⟨a1,?_⟩) λb o a1 a3=>?_
   ·subst z;exact Ej nr (by rw [MI hj];exact q)
   ·subst hz;have nf:=w.nofrz q ho (fL e');rw [at_ (λz=>nf _ _ (by rw [z];exact g3)) (λz=>nf _ _ (by rw [z];exact u3))];exact a3
   ·rw [at_ (λz=>g2 (by rw [<-z];exact a1)) (λz=>u2 (by rw [<-z];exact a1))];exact a3
 ·have fg:∀{j:Nat}{y:Sl},(δ.set i (some (.r l C g u fd gd' ud')))[j]?=some (some y)->y.own->∃y',δ[j]?=some (some y')/\y'.own:=λ{j y} q hq=>by
   by_cases hj:j=i
   ·subst hj;exact⟨_,e,trivial⟩
   ·rw [Rr (Ne.symm hj)] at q;exact⟨_,q,hq⟩
  obtain⟨_,q1,r1⟩:=fg e1 y1';obtain⟨_,q2,r2⟩:=fg e2 z2;exact w.dis j k _ _ b q1 r1 q2 r2 e3 e4
theorem Wd.setR(w:Wd K H0 O0 H O σ δ){i:Nat}{O':Ex}{l C g u:Yu}{fd:List (Str×Ys)}{gd ud:List (ah×Ys)}(sm:ar H H')(sb:∀a,O a->O' a)(nw:∀a,O' a->O a\/H a=none)(tr:∀a,O' a->H' a≠none)(h1:O' l)(h2:¬O l)(R:wg K H' O O' l C g u fd gd ud):
 Wd K H0 O0 H' O' (σ.set i (some (.ref l))) (δ.set i (some (.r l C g u fd gd ud)))/\aM H H' O O':=by
 have S:aM H H' O O':=⟨λb o e _=>sm b o e,λb hb hn z=>(nw b z).elim hn hb⟩;have hl:H l=none:=(nw l h1).resolve_left h2;have none0:∀{a:Yu},H a=none->H0 a=none:=λ{a} h=>by
  cases e:H0 a with
  | none=>rfl
  | some o=>rw [w.same _ _ e] at h;cases h
 have n0:∀{a:Yu},¬O a->¬O0 a:=λh z=>h (w.sub _ z);refine⟨⟨w.same.trans sm,λa z=>sb a (w.sub a z),λa z=>(nw a z).elim (w.new a) λq=>.inr (none0 q),tr,by simp [w.len],λj y e=>?_,λj k y z a e1 y1 e2 z2 e3 e4=>?_⟩,S⟩
 ·by_cases hj:j=i
  ·subst hj;have li:j < δ.length:=by
    have:=(Rm.mp e).1;simpa using this
   rw [RL li] at e;cases e;rw [RL (by rw [w.len];exact li)];obtain⟨dx,fs,og,ou,gv,uv,r1,r2,r3,⟨a1,a2,a3⟩,b1,b2,b3⟩:=R;exact⟨rfl,h1,n0 h2,dx,fs,og,ou,gv,uv,r1,r2,r3,⟨a1,n0 a2,a3⟩,b1,n0 b2,b3⟩
  ·rw [Rr (Ne.symm hj)] at e⊢;exact(w.sl j y e).go S (λl o _ _ a _ c=>⟨sb _ a,sm _ _ c⟩) (λa o u a1 _ a3=>⟨sb _ a1,sm _ _ a3⟩) λa o _ a3=>sm _ _ a3
 ·have no:∀{j:Nat}{y:Sl},j≠i->δ[j]?=some (some y)->y.own->σ[j]?≠some (some (.ref l)):=λ{j y} _ e h z=>by
   obtain⟨l',x1,x2,_⟩:=w.adr e h;rw [z] at x1;cases x1;exact h2 x2
  by_cases hj:j=i
  ·by_cases hk:k=i
   ·rw [hj,hk]
   ·exfalso;rw [hj] at e3;have li:i < σ.length:=by
     have:=(Rm.mp e3).1;simpa using this
    rw [RL li] at e3;cases e3;rw [Rr (Ne.symm hk)] at e2 e4;exact no hk e2 z2 e4
  ·by_cases hk:k=i
   ·exfalso;rw [hk] at e4;have li:i < σ.length:=by
     have:=(Rm.mp e4).1;simpa using this
    rw [RL li] at e4;cases e4;rw [Rr (Ne.symm hj)] at e1 e3;exact no hj e1 y1 e3
   ·rw [Rr (Ne.symm hj)] at e1 e3;rw [Rr (Ne.symm hk)] at e2 e4;exact w.dis j k _ _ a e1 y1 e2 z2 e3 e4
end
def gC(m:Str)(ks:List Str):Bool:=ks.all (λk=>!(k==cc) && !(k==dG) && !(k==m)) && !(m==cc) && !(m==dG)
theorem xE{fs gs:List (Str×V)}{m:Str}(h:∀p∈fs,p.1≠m):(fs++gs).lookup m=gs.lookup m:=by
 induction fs with
 | nil=>rfl
 | cons p fs ih=>
  obtain⟨k,v⟩:=p;have hk:k≠m:=h (k,v) RD;rw [Sz,RP,show(m==k)=false by simpa using Ne.symm hk];exact ih λq hq=>h q (Ru _ hq)
theorem t6{K:Q7}{H:Hp}{O:Ex}{fs:List (Str×V)}{fd:List (Str×Ys)}{m:Str}(hf:iL K H O fs fd)(h:gC m (fd.map (·.1))=true):(∀p∈fs,p.1≠cc/\p.1≠dG/\p.1≠m)/\m≠cc/\m≠dG:=by
 unfold gC at h;simp only [Si,Xz,SR,beq_eq_false_iff_ne] at h;refine⟨λp hp=>?_,h.1.2,h.2⟩;have hm:p.1∈fd.map (·.1):=by rw [<-hf.1];exact List.mem_map_of_mem hp
 obtain⟨⟨a,b⟩,c⟩:=h.1.1 _ hm;exact⟨a,b,c⟩
theorem Ek:cc≠dG:=cp
section
variable {K:Q7} {H:Hp} {O:Ex} {fs:List (Str×V)} {fd:List (Str×Ys)} {m:Str} {g u:Yu}
theorem El(hf:iL K H O fs fd)(h:gC m (fd.map (·.1))=true):(fs++[(cc,V.ref g),(dG,V.ref u)]).lookup cc=some (.ref g):=by
 rw [xE λp hp=>((t6 hf h).1 p hp).1];simp [RP]
theorem MJ(hf:iL K H O fs fd)(h:gC m (fd.map (·.1))=true):(fs++[(cc,V.ref g),(dG,V.ref u)]).lookup dG=some (.ref u):=by
 rw [xE λp hp=>((t6 hf h).1 p hp).2.1,RP,show(dG==cc)=false by simpa using Ne.symm Ek];simp [RP]
theorem Em(hf:iL K H O fs fd)(h:gC m (fd.map (·.1))=true):(fs++[(cc,V.ref g),(dG,V.ref u)]).lookup m=none:=by
 obtain⟨a,b,c⟩:=t6 hf h;rw [xE λp hp=>(a p hp).2.2,RP,show(m==cc)=false by simpa using b,RP,show(m==dG)=false by simpa using c];rfl
end
inductive xF (K:Q7) (C:Yu) (vs:List V) (H:Hp) (Q:VK) (E:XK):Prop
 | mk (l dx:Yu) (fs:List (Str×V)) (g u:Yu) (gv uv:List (ah×V)) (a:Yu) (x:Str) (y z:V):vs=[.ref l,.ref a]->H l=some (.ins C dx fs)->fs.lookup cc=some (.ref g)->fs.lookup dG=some (.ref u)->g≠u->H g=some (.dK gv)->H u=some (.dK uv)->
 bw K H a [.str x,y,z]->gv.length < YC->uv.length < YC->((z= .non/\Q .non (ai H g (.dK (putK gv (.inr x) y))))\/∃s,z= .str s/\Q .non (ai (ai H g (.dK (putK gv (.inr x) y))) u (.dK (putK uv (.inr s) (.bl true)))))->xF K C vs H Q E
section
variable {X:Cx} {H0:Hp} {O0:Ex}
def xG(C:Yu)(i:Nat)(m:Str)(t:DT):DS:=λE δ=>∃l g u fd gd ud,δ[i]?=some (some (.r l C g u fd gd ud))/\oM (δ.set i none)=true/\gC m (fd.map (·.1))=true/\t δ λd=>∃x y z,d= .tuple [.str x,y,z]/\gd.length < YC/\ud.length < YC/\
 ((z= .none/\E.nx (δ.set i (some (.r l C g u fd (dh gd (.inr x) y) ud))))\/∃s,z= .str s/\E.nx (δ.set i (some (.r l C g u fd (dh gd (.inr x) y) (dh ud (.inr s) (.bool true))))))
theorem En{C f:Yu}{i k:Nat}{m:Str}{o e:YA}{t:DT}{fdt:YD}{ps:List Str}{pl:Sem Bool}{E:XK}{apos cpos pos:Pos}(hX:∀b,H0 b=none->∀o z,X.H₀ b≠some (.frz o z))(ho:PE X o (cA i))(c:cW X.K C)(hm:gQ X.K C m f)(F:aB X.prog X.w X.K X.mg X.base CX0 k f fdt ps (xF X.K C))(hr:aY k X.A)(hb:dF X.K fdt ps [])(hx:iH CX0 X E)
 (he:DE X H0 O0 e t)(hst:Yz [e] X.env=(false,eval e X.env)::Yz [] X.env:=by rfl)(hpl:(YM cpos (Yz [] X.env)).any (·.1)=false:=by rfl)
 (ht:eval (.Call (.Attribute o m apos) [e] [] cpos) X.env=(do
  let ov<-eval o X.env
  ZO apos.atName
  let (f,first)<-Zp [ov] (ZQ ov m pl)
  callWith cpos f first (YM cpos (Yz [e] X.env)) (Zd cpos (Y1 [] X.env))):=by rfl)
 (hs:YN (.Call (.Attribute o m apos) [e] [] cpos) none pos.line X.env=pure false:=by rfl):PS X (.Expr (.Call (.Attribute o m apos) [e] [] cpos) pos) (bg X.K H0 O0 (xG C i m t)):=
 (sh (MG (pl:=pl) ho c hm F hr hb hx (bA he cb hst) hst hpl ht) hs).imp λD σ H uu68=>by
  obtain⟨O,δ,E,w,⟨l,g,u,fd,gd,ud,ei,nr,rk,q⟩,k1,k2,k3,k4⟩:=uu68;obtain⟨x1,x2,x3,dx,fs,og,ou,gv,uv,hl,hf,ne,⟨g1,g2,g3,g4⟩,u1,u2,u3,u4⟩:=w.sl i _ ei;refine⟨_,fL x1,l,dx,_,rfl,hl,Em hf rk,O,δ,_,w,q,λd v H1 ⟨x,y,z,ed,l1,l2,q1⟩ s1 r1=>?_⟩;subst ed;obtain⟨a,xs,rfl,sq,rs⟩:=(Sh.dt r1).tup;have hxs:∃y' z',xs=[.str x,y',z']/\Dt X.K H1 O y' y/\Dt X.K H1 O z' z:=by
   cases rs with
   | cons a1 r=>
    cases r with
    | cons a2 r=>
     cases r with
     | cons a3 r=>
      cases r;cases a1;exact⟨_,_,rfl,a2,a3⟩
  obtain⟨y',z',rfl,dy,dz⟩:=hxs;have w1:=w.mono s1;have hl1:=s1 _ _ hl;have g31:=s1 _ _ g3;have u31:=s1 _ _ u3;have lg:l≠g:=λz=>by rw [z,g3] at hl;cases hl
  have lu:l≠u:=λz=>by rw [z,u3] at hl;cases hl
  have ug:u≠g:=Ne.symm ne;have g0:H0 g=none:=(w.new g g1).resolve_left g2;have u0:H0 u=none:=(w.new u u1).resolve_left u2;have sqk:bw X.K (ai (ai H1 g (.dK gv)) u (.dK uv)) a [.str x,y',z']:=by
   rcases sq with(h | ⟨ob,h⟩) | h
   ·exact .inl (.inl (by rw [az (λz=>by rw [z,u31] at h;cases h),az (λz=>by rw [z,g31] at h;cases h)];exact h))
   ·exact .inl (.inr ⟨ob,by rw [az (λz=>by rw [z,u31] at h;cases h),az (λz=>by rw [z,g31] at h;cases h)];exact h⟩)
   ·exact .inr h
  refine⟨g,u,og,ou,gv,uv,ne,g31,u31,hX g g0,hX u u0,l,dx,_,g,u,gv,uv,a,x,y',z',rfl,by rw [az lu,az lg];exact hl1,El hf rk,MJ hf rk,ne,by rw [az ne,bh],bh,sqk,by rw [g4.length];exact l1,by rw [u4.length];exact l2,?_⟩;rcases q1 with⟨rfl,q1⟩ | ⟨s,rfl,q1⟩
  ·cases dz;refine .inl ⟨rfl,putK gv (.inr x) y',uv,bh,by rw [az ug,bh],λog' ou'=>?_⟩;obtain⟨w2,S2⟩:=w1.putR (og:=og') (ou:=ou') (gv:=putK gv (.inr x) y') (uv:=uv) ei nr ((g4.mono s1).put (.inr x) dy) (u4.mono s1);have eh:ai (ai (ai (ai (ai H1 g (.dK gv)) u (.dK uv)) g (.dK (putK gv (.inr x) y'))) g (.frz og' (.dK (putK gv (.inr x) y')))) u (.frz ou' (.dK uv))=ai (ai H1 g (.frz og' (.dK (putK gv (.inr x) y')))) u (.frz ou' (.dK uv)):=by
    funext b;unfold ai;by_cases b1:b=u
    ·simp [b1]
    ·by_cases b2:b=g <;> simp [b1,b2]
   rw [eh];exact k1 _ _ _ _ q1 w2 (aM.trans (.same s1) S2)
  ·cases dz;refine .inr ⟨s,rfl,putK gv (.inr x) y',putK uv (.inr s) (.bl true),by rw [az ne,bh],bh,λog' ou'=>?_⟩;obtain⟨w2,S2⟩:=w1.putR (og:=og') (ou:=ou') (gv:=putK gv (.inr x) y') (uv:=putK uv (.inr s) (.bl true)) ei nr ((g4.mono s1).put (.inr x) dy) ((u4.mono s1).put (.inr s) (.bl true));have eh:ai (ai (ai (ai (ai (ai H1 g (.dK gv)) u (.dK uv)) g (.dK (putK gv (.inr x) y'))) u (.dK (putK uv (.inr s) (.bl true)))) g (.frz og' (.dK (putK gv (.inr x) y')))) u (.frz ou' (.dK (putK uv (.inr s) (.bl true))))=ai (ai H1 g (.frz og' (.dK (putK gv (.inr x) y')))) u (.frz ou' (.dK (putK uv (.inr s) (.bl true)))):=by
    funext b;unfold ai;by_cases b1:b=u
    ·simp [b1]
    ·by_cases b2:b=g <;> simp [b1,b2]
   rw [eh];exact k1 _ _ _ _ q1 w2 (aM.trans (.same s1) S2)
abbrev xH(C:Yu)(fd:List (Str×Ys))(gks uks:List Str)(gd ud:List (ah×Ys)):Ys:=fK C ((fd.map (·.1)++[cc,dG]).map .str) (fd.map (·.2)++[dS gks (gd.map (·.2)),dS uks (ud.map (·.2))])
def xI(C:Yu)(i:Nat)(m:Str)(F:List Ys->(Ys->Prop)->Prop)(t:DA):DT:=λδ Q=>∃l g u fd gd ud,δ[i]?=some (some (.r l C g u fd gd ud))/\gC m (fd.map (·.1))=true/\∃gks uks:List Str,gd.map (·.1)=gks.map R9/\ud.map (·.1)=uks.map R9/\
 t δ λes=>F (xH C fd gks uks gd ud::es) λd=>xD C d/\Q d
theorem MK{K:Q7}{C:Yu}{i:Nat}{m:Str}{F:List Ys->(Ys->Prop)->Prop}{t:DA}{E:XK}:∀σ H Q,up K H0 O0 (xI C i m F t) σ H Q->qL C m (aU K F) [] E (cA i) (gi K H0 O0 t) σ H Q:=
 λσ H Q uu70=>by
  obtain⟨O,δ,Qd,w,⟨l,g,u,fd,gd,ud,ei,rk,gks,uks,ek,eu,q⟩,k⟩:=uu70;obtain⟨x1,x2,x3,dx,fs,og,ou,gv,uv,hl,hf,ne,⟨g1,g2,g3,g4⟩,u1,u2,u3,u4⟩:=w.sl i _ ei;refine⟨_,fL x1,l,dx,_,rfl,hl,Em hf rk,O,δ,_,w,q,λes vs H1 q1 s1 r1=>?_⟩;have o1:aM H1 H1 O (λa=>O a/\a≠l/\a≠g/\a≠u):=⟨λ_ _ z _=>z,λ_ _ n z=>n z.1⟩;refine⟨λa=>O a/\a≠l/\a≠g/\a≠u,_,_,λa z=>(w.mono s1).trk a z.1,?_,q1,λd v H2 ⟨c2,q2⟩ s2 r2=>k d v H2 q2 (s1.trans s2) (r2.clnO (C:=C) (λa z=>?_) c2)⟩
  ·rw [RY];refine .cons (.obj (s1 _ _ hl) ?_ (λz=>z.2.1 rfl) ?_) (r1.step o1)
   ·rw [RH,RH,<-hf.1,RB];rfl
   ·rw [RH];refine((hf.2.mono s1).step o1).append (.cons (.dic (s1 _ _ g3) (by rw [g4.keys];exact ek) rfl (λz=>z.2.2.1 rfl) ((g4.vals.mono s1).step o1)) (.cons (.dic (s1 _ _ u3) (by rw [u4.keys];exact eu) rfl (λz=>z.2.2.2 rfl) ((u4.vals.mono s1).step o1)) .nil))
  ·by_cases a1:a=l
   ·exact .inr (.inr ⟨dx,_,by rw [a1];exact(s1.trans s2) _ _ hl⟩)
   ·by_cases a2:a=g
    ·exact .inr (.inl ⟨og,gv,by rw [a2];exact(s1.trans s2) _ _ g3⟩)
    ·by_cases a3:a=u
     ·exact .inr (.inl ⟨ou,uv,by rw [a3];exact(s1.trans s2) _ _ u3⟩)
     ·exact .inl ⟨z,a1,a2,a3⟩
def xJ(C:Yu)(i:Nat)(tk:DT):DT:=λδ Q=>tk δ λy=>∃z,y= .str z/\∃l g u fd gd ud,δ[i]?=some (some (.r l C g u fd gd ud))/\gC "mark" (fd.map (·.1))=true/\Q (.bool (!(fj gd (.inr z)).isSome))
theorem ML{C:Yu}{i:Nat}{o e:YA}{tk:DT}{pos:Pos}(hu:X.A.units+64 < YQ)(hc:cW X.K C)(hn:NoAttr X.K C cc)(ho:PE X o (cA i))(he:DE X H0 O0 e tk)(hbs:YX o cc X.env (eval o X.env)=eval o X.env:=by rfl):PC X .NotIn e (.Attribute o cc pos) (up X.K H0 O0 (xJ C i tk)):=λaaa s σ H Q I ⟨O,δ,Qd,w,q,k⟩=>
 wH Yn he (sJ ho hbs) aaa s σ H Q I ⟨O,δ,_,w,q,λy uy H2 uu73 s2 r2=>by
  obtain⟨z,ez,l,g,u,fd,gd,ud,ei,rk,q2⟩:=uu73;subst ez;cases r2;obtain⟨x1,x2,x3,dx,fs,og,ou,gv,uv,hl,hf,ne,⟨g1,g2,g3,g4⟩,u1,u2,u3,u4⟩:=(w.mono s2).sl i _ ei;exact⟨_,fL x1,l,C,dx,_,.ref g,rfl,hl,hc,hn,El hf rk,g,_,rfl,cD.z (k:= .inr z) g3,by rw [g4.none];exact k _ _ _ q2 s2 (.bl _)⟩⟩
theorem MM{C:Yu}{i:Nat}{o e:YA}{tk:DT}{pos pos':Pos}(hu:X.A.units+64 < YQ)(hc:cW X.K C)(hn:NoAttr X.K C cc)(ho:PE X o (cA i))(he:DE X H0 O0 e tk)(hbs:YX o cc X.env (eval o X.env)=eval o X.env:=by rfl)(hm:YU .NotIn (.Attribute o cc pos')=false:=by rfl):PT X (.Compare e [.NotIn] [.Attribute o cc pos'] pos) (bO X.K H0 O0 (cY (xJ C i tk))):=
 (pj (ML hu hc hn ho he hbs) hm).imp λσ H Q uu74=>by obtain⟨O,δ,Qd,w,q,k⟩:=uu74;exact⟨O,δ,_,w,q,λd v H' uu75 s r=>by obtain⟨b,e,qb⟩:=uu75;subst e;cases r;exact⟨b,rfl,k b H' qb s⟩⟩
end
section
variable {K:Q7}
inductive ub (K:Q7) (F:List Ys->List Ys->(Ys->Prop)->Prop) (vs:List V) (H:Hp) (Q:VK) (E:XK):Prop
 | mk (O:Ex) (vs':List V) (l:Yu) (ws:List V) (ds es:List Ys) (Qd:Ys->Prop):vs=vs'++[.ref l]->(∀a,O a->H a≠none)->ak K H O vs' ds->O l->H l=some (.lst ws)->ak K H O ws es->F ds es Qd->(∀d v H',Qd d->ar H H'->Dt K H' O v d->Q v H')->ub K F vs H Q E
def mE(N:List Str)(ds es:List Ys):Dl:=ds.map (λd=>some (.v d))++(some (.b es)::RR (N.length - (ds.length+1)) none)
theorem Eo{H:Hp}{O:Ex}{N:List Str}{vs ws:List V}{ds es:List Ys}{l:Yu}(tr:∀a,O a->H a≠none)(r:ak K H O vs ds)(ol:O l)(hl:H l=some (.lst ws))(rs:ak K H O ws es):Wd K H O H O (start N (vs++[.ref l])) (mE N ds es):=by
 have ln:=r.length;have at1:∀(i:Nat) y,(mE N ds es)[i]?=some y->(∃d,ds[i]?=some d/\y=some (.v d))\/(i=ds.length/\y=some (.b es))\/y=none:=λi y e=>by
  unfold mE at e;by_cases h:i < ds.length
  ·rw [Sq (by simpa using h),Rt] at e;cases q:ds[i]? with
   | none=>rw [q] at e;cases e
   | some d=>rw [q] at e;exact .inl ⟨d,rfl,(Sk e).symm⟩
  ·rw [Ta (by simpa using TK h),Q8,List.getElem?_cons] at e;split at e
   ·rename_i z;exact .inr (.inl ⟨Yn,(Sk e).symm⟩)
   ·rw [Tu] at e;split at e
    ·exact .inr (.inr (Sk e).symm)
    ·cases e
 refine⟨ar.refl _,λ_ z=>z,λ_ z=>.inl z,tr,by simp [start,mE,ln],λi y e=>?_,λi j ds' es l e1=>?_⟩
 ·rcases at1 i y e with⟨d,hd,rfl⟩ | ⟨rfl,rfl⟩ | rfl
  ·obtain⟨v,hv,rv⟩:=r.getD hd;refine⟨v,?_,rv⟩;have hi:=(Rm.mp hv).1;unfold start;rw [Sq (by simp;omega),Rt,Sq hi,hv];rfl
  ·refine⟨l,ws,?_,ol,hl,rs⟩;unfold start;rw [Sq (by simp;omega),Rt,Ta Yn,<-ln,Uj];rfl
  ·exact S9
 ·rcases at1 i _ e1 with⟨d,_,z⟩ | ⟨_,z⟩ | z
  ·cases z;intro h;exact h.elim
  ·cases z;intro h;exact h.elim
  ·cases z
end
section
variable {P:YE} {w:YF} {K:Q7} {mg:Str->Option Yt} {base:YG}
theorem fc.okB{x qual:Str}{st:YH}{f:Yu}{fd:YD}{N ps:List Str}{k:Nat}{F:List Ys->List Ys->(Ys->Prop)->Prop}(Fu:fc K x qual st f fd)(S:aN N ps (av st))(len:∀ds es Q,F ds es Q->ds.length+1=ps.length)
 (hbody:∀(cdv:Yt) (A:YJ) (outer:List Env) (s:Yw) (H:Hp) (O:Ex) (ds es:List Ys) (Q:Ys->Prop) (E:XK),aY k (A.deeper (Zw qual (av st) s.heap.objs.size f cdv))->(∀a,O a->H a≠none)->F ds es Q->
  ∃t,bP (iI CX0 P w K mg base N qual (av st) f cdv A outer s H E).nox (fI st) (bg K H O t)/\t {nx:=λ_=>Q .none,rt:=Q} (mE N ds es)):aB P w K mg base CX0 (k+1) f fd ps (ub K F):=by
 refine Fu.ok S (λvs H Q E h=>?_) (λcdv A outer s H vs Q E hr h=>?_)
 ·obtain⟨O,vs',l,ws,ds,es,Qd,rfl,_,r,_,_,_,q,_⟩:=h;rw [Rv,r.length];exact len _ _ _ q
 ·obtain⟨O,vs',l,ws,ds,es,Qd,rfl,tr,r,ol,hl,rs,q,k⟩:=h;obtain⟨t,ht,q'⟩:=hbody cdv A outer s H O ds es Qd E hr tr q;refine⟨_,ht,O,_,_,Eo tr r ol hl rs,q',λO' δ' σ' H' z w' S'=>?_,λd v H' z s' r'=>k d v H' z s' r',λ_ _ _ _ z=>z.elim,λ_ _ _ _ z=>z.elim⟩;exact k _ _ _ z w'.same .non
inductive uc (K:Q7) (C:Yu) (F:List Ys->List Ys->(List (Str×Ys)->List (ah×Ys)->List (ah×Ys)->Prop)->Prop) (vs:List V) (H:Hp) (Q:VK) (E:XK):Prop
 | mk (x dx:Yu) (vs':List V) (l:Yu) (ws:List V) (H1:Hp) (O:Ex) (ds es:List Ys) (Qd:List (Str×Ys)->List (ah×Ys)->List (ah×Ys)->Prop):vs= .ref x::(vs'++[.ref l])->H=ai (ai H1 dx (.own x)) x (.ins C dx [])->H1 x=none->H1 dx=none->dx≠x->
 (∀a,O a->H1 a≠none)->ak K H1 O vs' ds->O l->H1 l=some (.lst ws)->ak K H1 O ws es->F ds es Qd->
 (∀fd gd ud g u O' H',Qd fd gd ud->ar H1 H'->(∀a,O a->O' a)->(∀a,O' a->O a\/H1 a=none)->(∀a,O' a->H' a≠none)->O' x->¬O x->wg K H' O O' x C g u fd gd ud->Q .non H')->uc K C F vs H Q E
def xK(N:List Str)(l C:Yu)(ds es:List Ys):Dl:=some (.i l C [])::(mE N (.none::ds) es).tail
theorem MN{H1:Hp}{O:Ex}{N:List Str}{vs ws:List V}{ds es:List Ys}{x dx C l:Yu}(tr:∀l,O l->H1 l≠none)(r:ak K H1 O vs ds)(ol:O l)(hl:H1 l=some (.lst ws))(rs:ak K H1 O ws es)(hx:H1 x=none)(hdx:H1 dx=none)(ne:dx≠x):
 Wd K H1 O (ai (ai H1 dx (.own x)) x (.ins C dx [])) (λl=>O l\/l=x) (start N (.ref x::(vs++[.ref l]))) (xK N x C ds es):=by
 have w0:=Eo (N:=N) tr (.cons .non r) ol hl rs;have w1:=w0.mono (ar.new (o:=HO.own x) hdx);have hx1:(ai H1 dx (.own x)) x=none:=by rw [az (Ne.symm ne)];exact hx
 have:=w1.setY (i:=0) (p:=x) (ho:= .ins C dx []) (y0:= .i x C []) trivial hx1 λO' S a b=>⟨dx,[],rfl,a,b,bh,rfl,.nil⟩;exact this
theorem fc.okRn{x qual:Str}{st:YH}{f C:Yu}{fd:YD}{N ps:List Str}{k:Nat}{F:List Ys->List Ys->(List (Str×Ys)->List (ah×Ys)->List (ah×Ys)->Prop)->Prop}(Fu:fc K x qual st f fd)(S:aN N ps (av st))(len:∀ds es Q,F ds es Q->ds.length+2=ps.length)
 (hbody:∀(cdv:Yt) (A:YJ) (outer:List Env) (s:Yw) (H H1:Hp) (O:Ex) (ds es:List Ys) (Q:List (Str×Ys)->List (ah×Ys)->List (ah×Ys)->Prop) (E:XK) (l:Yu),aY k (A.deeper (Zw qual (av st) s.heap.objs.size f cdv))->(∀a,O a->H1 a≠none)->(∀b,H1 b=none->∀o z,H b≠some (.frz o z))->F ds es Q->
  ∃t,bP (iI CX0 P w K mg base N qual (av st) f cdv A outer s H E).nox (fI st) (bg K H1 O t)/\t {nx:=λδ=>∃g u fd gd ud,δ[0]?=some (some (.r l C g u fd gd ud))/\Q fd gd ud,rt:=λ_=>False} (xK N l C ds es)):aB P w K mg base CX0 (k+1) f fd ps (uc K C F):=by
 refine Fu.ok S (λvs H Q E h=>?_) (λcdv A outer s H vs Q E hr h=>?_)
 ·obtain⟨x,dx,vs',l,ws,H1,O,ds,es,Qd,rfl,_,_,_,_,_,r,_,_,_,q,_⟩:=h;have:=len _ _ _ q;rw [Rq,Rv,r.length,U1];omega
 ·obtain⟨x,dx,vs',l,ws,H1,O,ds,es,Qd,rfl,rfl,hx,hdx,ne,tr,r,ol,hl,rs,q,k⟩:=h;obtain⟨t,ht,q'⟩:=hbody cdv A outer s (ai (ai H1 dx (.own x)) x (.ins C dx [])) H1 O ds es Qd E x hr tr (λb hb o z=>by
   unfold ai;by_cases b1:b=x
   ·simp [b1]
   ·by_cases b2:b=dx
    ·simp [b1,b2,ne]
    ·simp [b1,b2,hb]) q
  refine⟨_,ht,_,_,_,MN tr r ol hl rs hx hdx ne,q',λO' δ' σ' H' z w' S'=>?_,λd v H' z s' r'=>z.elim,λ_ _ _ _ z=>z.elim,λ_ _ _ _ z=>z.elim⟩;obtain⟨g,u,fd,gd,ud,e,z⟩:=z;obtain⟨a1,a2,a3,R⟩:=w'.sl 0 _ e;exact k fd gd ud g u O' H' z w'.same w'.sub w'.new w'.trk a2 a3 R
end
section
variable {X:Cx} {H0:Hp} {O0:Ex}
def Ep(C:Yu)(i j:Nat)(F:List Ys->List Ys->(List (Str×Ys)->List (ah×Ys)->List (ah×Ys)->Prop)->Prop)(t1 t2:DT):DS:=λE δ=>t1 δ λd1=>t2 δ λd2=>∃es,δ[j]?=some (some (.b es))/\F [d1,d2] es λfd gd ud=>∀l g u,E.nx (δ.set i (some (.r l C g u fd gd ud)))
theorem Wd.lent{K:Q7}{H:Hp}{O:Ex}{σ:St}{δ:Dl}(w:Wd K H0 O0 H O σ δ){j:Nat}{es:List Ys}(e:δ[j]?=some (some (.b es))):∃l ws,σ[j]?=some (some (.ref l))/\O0 l/\H l=some (.lst ws)/\ak K H O ws es:=by
 obtain⟨l,ws,a,b,c,d⟩:=w.sl j _ e;exact⟨l,ws,fL a,b,c,d⟩
theorem MO{C f:Yu}{i j k:Nat}{x y:Str}{a b c:YA}{t1 t2:DT}{fdt:YD}{ps:List Str}{E:XK}{F:List Ys->List Ys->(List (Str×Ys)->List (ah×Ys)->List (ah×Ys)->Prop)->Prop}{p cpos pos pos':Pos}(hN:X.N.Nodup)(hi:X.N[i]?=some x)(hxl:gP X.env.scope x)
 (M:Mk X.K C f)(Fk:aB X.prog X.w X.K X.mg X.base CX0 k f fdt ps (uc X.K C F))(hr:aY (k+1) X.A)(hg:Gl X y)(hm:X.mg y=some (.ref C))(hb:dF X.K fdt ps [])(hx:iH CX0 X E)(ha:DE X H0 O0 a t1)(hb2:DE X H0 O0 b t2)(hcv:PE X c (cA j))
 (hdb:(y==("__debug__":Str))=false:=by decide)(he:Yz [a,b,c] X.env=(false,eval a X.env)::Yz [b,c] X.env:=by rfl)(he2:Yz [b,c] X.env=(false,eval b X.env)::Yz [c] X.env:=by rfl)(he3:Yz [c] X.env=(false,eval c X.env)::Yz [] X.env:=by rfl)(hpl:(YM cpos (Yz [b,c] X.env)).any (·.1)=false:=by rfl)
 (hs:YN (.Call (.Name y p) [a,b,c] [] cpos) (some (.Name x pos')) pos.line X.env=pure false:=by rfl)(hf:X.fn x=true\/X.env.scope.names.lookup x=some .local:=by first | exact .inl rfl | exact .inr rfl | assumption):
 PS X (.Assign [.Name x pos'] (.Call (.Name y p) [a,b,c] [] cpos) pos) (bg X.K H0 O0 (Ep C i j F t1 t2)):=
 (eZ hN hi hxl (sP M Fk hr hg hm hb .nil hx (bA ha (bA hb2 (bA hcv cb he3) he2) he) hdb he hpl) hs hf).imp λD σ H uu76=>by
  obtain⟨O,δ,E,w,q,k1,k2,k3,k4⟩:=uu76;refine⟨O,δ,_,w,q,λd1 v1 H1 q1 s1 r1=>⟨O,δ,_,w.mono s1,q1,λd2 v2 H2 ⟨es,ej,q2⟩ s2 r2=>?_⟩⟩;have w2:=w.mono (s1.trans s2);obtain⟨l,ws,h1,h2,h3,h4⟩:=w2.lent ej;refine⟨_,h1,λxx dx hxx hdx ne=>⟨xx,dx,[v1,v2],l,ws,H2,O,[d1,d2],es,_,rfl,rfl,hxx,hdx,ne,w2.trk,.cons (r1.mono s2) (.cons r2 .nil),w2.sub _ h2,h3,h4,q2,λfd gd ud g u O' H' qf sm sb nw tr o1 o2 R=>⟨rfl,?_⟩⟩⟩;obtain⟨w3,S3⟩:=w2.setR (i:=i) sm sb nw tr o1 o2 R;exact k1 _ _ _ _ (qf xx g u) w3 (aM.trans (.same (s1.trans s2)) S3)
def xM(C:Yu)(i:Nat)(t:DS):DS:=λE δ=>∃l fd,δ[i]?=some (some (.i l C fd))/\gC "mark" (fd.map (·.1))=true/\fd.length < 900/\∀g u,t E (δ.set i (some (.r l C g u fd [] [])))
theorem xN{f:Str}{v:V}:∀{fs:List (Str×V)},(∀p∈fs,p.1≠f)->dE f v fs=fs++[(f,v)]
 | [],_=>rfl
 | (g,x)::fs,h=>by
  rw [dE,Yo (h (g,x) RD),xN λp hp=>h p (Ru _ hp)];rfl
theorem MP{C:Yu}{i:Nat}{o1 o2:YA}{rest:List YH}{t:DS}{p1 p2 q1 q2 r1 r2:Pos}(hc:cW X.K C)(hn1:NoAttr X.K C cc)(hn2:NoAttr X.K C dG)(ho1:PE X o1 (cA i))(ho2:PE X o2 (cA i))(h:bP X rest (bg X.K H0 O0 t))
 (hs1:YN (.Dict [] [] p1) (some (.Attribute o1 cc q1)) r1.line X.env=pure false:=by rfl)(hs2:YN (.Dict [] [] p2) (some (.Attribute o2 dG q2)) r2.line X.env=pure false:=by rfl):
 bP X (.Assign [.Attribute o1 cc q1] (.Dict [] [] p1) r1:: .Assign [.Attribute o2 dG q2] (.Dict [] [] p2) r2::rest) (bg X.K H0 O0 (xM C i t)):=
 (cV (vO ho1 Eh hs1) (cV (vO ho2 Eh hs2) h)).imp λD σ H uu78=>by
  obtain⟨O,δ,E,w,⟨l,fd,ei,rk,hl,q⟩,k1,k2,k3,k4⟩:=uu78;obtain⟨dx,fs,x1,x2,x3,h1,hf⟩:=w.ownI ei;obtain⟨kk,_,_⟩:=t6 hf rk;have lf:fs.length=fd.length:=by have:=congrArg WG hf.1;simpa using this
  have li:i < δ.length:=(Rm.mp ei).1;intro g og hg;have lg:l≠g:=λz=>by rw [z,hg] at h1;cases h1
  refine⟨_,x1,l,C,dx,fs,rfl,by rw [az lg];exact h1,hc,hn1,Yn,?_⟩;rw [xN λp hp=>(kk p hp).1];intro u ou hu;have lu:l≠u:=λz=>by rw [z,bh] at hu;cases hu
  have gu:g≠u:=λz=>by rw [<-z,az (Ne.symm lg),bh] at hu;cases hu
  have hu0:H u=none:=by rw [az (Ne.symm lu),az (Ne.symm gu)] at hu;exact hu
  refine⟨_,x1,l,C,dx,fs++[(cc,.ref g)],rfl,by rw [az lu,bh],hc,hn2,by simp;omega,?_⟩;rw [xN λp hp=>(Ry.mp hp).elim (λz=>(kk p z).2.1) λz=>by
   simp only [RF] at z;subst z;exact Ek]
  rw [UW];have eh:ai (ai (ai (ai H g (.frz og (.dK []))) l (.ins C dx (fs++[(cc,.ref g)]))) u (.frz ou (.dK []))) l (.ins C dx (fs++([(cc,.ref g)]++[(dG,.ref u)])))=ai (ai (ai H g (.frz og (.dK []))) u (.frz ou (.dK []))) l (.ins C dx (fs++[(cc,.ref g),(dG,.ref u)])):=by
   funext b;unfold ai;by_cases b1:b=l
   ·simp [b1]
   ·by_cases b2:b=u <;> simp [b1,b2]
  rw [eh];have sm:ar H (ai (ai H g (.frz og (.dK []))) u (.frz ou (.dK []))):=(ar.new hg).trans (ar.new (by rw [az (Ne.symm gu)];exact hu0));have w1:=w.mono sm;have g0:H0 g=none:=by
   cases e:H0 g with
   | none=>rfl
   | some o=>rw [w.same _ _ e] at hg;cases hg
  have u0:H0 u=none:=by
   cases e:H0 u with
   | none=>rfl
   | some o=>rw [w.same _ _ e] at hu0;cases hu0
  have ng:¬O g:=λz=>w.trk g z hg;have nu:¬O u:=λz=>w.trk u z hu0;generalize hH2:ai (ai H g (.frz og (.dK []))) u (.frz ou (.dK []))=H2 at sm w1⊢;have g2:H2 g=some (.frz og (.dK [])):=by rw [<-hH2,az gu,bh]
  have u2:H2 u=some (.frz ou (.dK [])):=by rw [<-hH2,bh]
  have out:∀b,H b≠none->b≠g/\b≠u:=λb hb=>⟨λz=>hb (by rw [z];exact hg),λz=>hb (by rw [z];exact hu0)⟩;have S:aM H (ai H2 l (.ins C dx (fs++[(cc,.ref g),(dG,.ref u)]))) O (λa=>O a\/a=g\/a=u):=⟨λb o e n=>by rw [az (λz=>n (by rw [z];exact x2))];exact sm b o e,λb hb n z=>by
   rcases z with z | z | z
   ·exact n z
   ·exact(out b hb).1 z
   ·exact(out b hb).2 z⟩
  refine⟨λa=>O a\/a=g\/a=u,δ.set i (some (.r l C g u fd [] [])),E,⟨λb o e=>?_,λa z=>.inl (w.sub a z),λa z=>?_,λa z=>?_,by simp [w.len],λj y e=>?_,λj k y z a e1 y1 e2 z2 e3 e4=>?_⟩,q g u,λO2 δ2 σ2 H2 z2 w2 S2=>k1 O2 δ2 σ2 H2 z2 w2 (S.trans S2),k2,λO2 δ2 σ2 H2 z2 w2 S2=>k3 O2 δ2 σ2 H2 z2 w2 (S.trans S2),λO2 δ2 σ2 H2 z2 w2 S2=>k4 O2 δ2 σ2 H2 z2 w2 (S.trans S2)⟩
  ·have l0:H0 l=none:=(w.new l x2).resolve_left x3;rw [az (λz=>by rw [z,l0] at e;cases e)];exact w1.same b o e
  ·rcases z with z | z | z
   ·exact w.new a z
   ·rw [z];exact .inr g0
   ·rw [z];exact .inr u0
  ·by_cases al:a=l
   ·rw [al,bh];exact λz=>nomatch z
   ·rw [az al];rcases z with z | z | z
    ·exact w1.trk a z
    ·rw [z,g2];exact λz=>nomatch z
    ·rw [z,u2];exact λz=>nomatch z
  ·by_cases hj:j=i
   ·subst hj;rw [RL li] at e;cases e;exact⟨by rw [x1];rfl,.inl x2,x3,dx,fs,og,ou,[],[],bh,⟨hf.1,hf.2.step S⟩,gu,⟨.inr (.inl rfl),λz=>ng (w.sub _ z),by rw [az (Ne.symm lg)];exact g2,.nil⟩,.inr (.inr rfl),λz=>nu (w.sub _ z),by rw [az (Ne.symm lu)];exact u2,.nil⟩
   ·rw [Rr (Ne.symm hj)] at e;refine(w.sl j y e).go S (λb o ho' e' a1 a2 a3=>⟨.inl a1,?_⟩) (λb o z a1 a2 a3=>⟨.inl a1,?_⟩) λb o a1 a3=>?_
    ·have nb:b≠l:=λz=>by
      subst z
      match y,ho',e with
      | some z,ho',e=>exact hj (w.dis j i z _ b e (by cases z <;> first | trivial | cases ho') ei trivial (fL e') x1)
     rw [az nb];exact sm _ _ a3
    ·rw [az (λz=>by rw [z,h1] at a3;cases a3)];exact sm _ _ a3
    ·rw [az (λz=>x3 (by rw [<-z];exact a1))];exact sm _ _ a3
  ·have fg:∀{j:Nat}{y:Sl},(δ.set i (some (.r l C g u fd [] [])))[j]?=some (some y)->y.own->∃y',δ[j]?=some (some y')/\y'.own:=λ{j y} q hq=>by
    by_cases hj:j=i
    ·subst hj;exact⟨_,ei,trivial⟩
    ·rw [Rr (Ne.symm hj)] at q;exact⟨_,q,hq⟩
   obtain⟨_,q1,r1⟩:=fg e1 y1;obtain⟨_,q2,r2⟩:=fg e2 z2;exact w.dis j k _ _ a q1 r1 q2 r2 e3 e4
def ue(j:Nat)(dg:DG)(tb:DS):DS:=λE δ=>∃es,δ[j]?=some (some (.b es))/\jX dg tb E es δ
theorem MQ{j:Nat}{tg iter:YA}{g:TG}{dg:DG}{tb:DS}{body:List YH}{pos:Pos}(h0:∀a,O0 a->H0 a≠none)(hp:ZP (YB X.prog X.w) X.A X.env X.xe)(hc:X.calm=true)(hi:PE X iter (cA j))(hg:PG X tg g)(gd:GD X.K g dg)(hb:bP X body (bg X.K H0 O0 tb))(hs:∀x,YL iter X.env x=pure x:=by intro _;rfl):
 PS X (.For tg iter body [] pos) (bg X.K H0 O0 (ue j dg tb)):=
 (sA hp hc (sr hi) hg hb hs).imp λD σ H uu79=>by
  obtain⟨O,δ,E,w,⟨es,ej,Iv,q0,qs,qe⟩,k1,k2,k3,k4⟩:=uu79;obtain⟨l,vs,h1,h2,h3,r⟩:=w.lent ej;have hl0:H0 l=some (.lst vs):=by
   cases e:H0 l with
   | none=>exact absurd e (h0 l h2)
   | some o=>rw [w.same _ _ e] at h3;rw [h3]
  refine⟨_,h1,l,rfl,⟨vs,.inl (.inl h3)⟩,?_⟩;have S:cZ (pA X.K l) (λH'=>pJ H l H') vs:=cZ.list (.inl (.inl h3));have hP:∀H',ar H0 H'->pJ H l H':=λH' s o e=>by rw [h3] at e;cases e;exact s _ _ hl0
  refine⟨λi m σ' H'=>∃O' δ',m=vs.length - i/\i<=vs.length/\Wd X.K H0 O0 H' O' σ' δ'/\aM H H' O O'/\Iv i δ',⟨vs.length,O,δ,Yr,Sd _,w,aM.refl _ _,q0⟩,?_⟩;rintro i m σ1 H1 ⟨O1,δ1,rfl,hi,w1,S1,q1⟩;by_cases hlt:i < vs.length
  ·refine .inr ⟨S.go i H1 (hP _ w1.same) hlt,λσ' H'=>∃O' δ',Wd X.K H0 O0 H' O' σ' δ'/\aM H H' O O'/\Iv (i+1) δ',λσ' H' uu80=>by obtain⟨O',δ',w',S',q'⟩:=uu80;exact⟨vs.length - (i+1),Yn,O',δ',rfl,hlt,w',S',q'⟩,λx H' y=>?_⟩;have yy:=S.yl i H1 x H' (hP _ w1.same) hlt y;clear y;obtain⟨e,y⟩:=yy;subst e;obtain⟨d,ed,rd⟩:=r.get y;refine gd H0 O0 _ O1 σ1 δ1 x d _ _ w1 (rd.step S1) (qs i d δ1 ed q1) λδ2 σ2 q2 w2=>?_;refine⟨O1,δ2,_,w2,q2,λO' δ' σ' H' z w' S'=>⟨O',δ',w',S1.trans S',z⟩,k2,λO' δ' σ' H' z w' S'=>k1 O' δ' σ' H' z w' (S1.trans S'),λO' δ' σ' H' z w' S'=>⟨O',δ',w',S1.trans S',z⟩⟩
  ·have e:i=vs.length:=Yn
   subst e;refine .inl ⟨S.st _ H1 (hP _ w1.same) (Rf _),?_⟩;rw [r.length] at q1;exact k1 O1 δ1 σ1 H1 (qe δ1 q1) w1 S1
def Er(j:Nat)(F:List Ys->List Ys->(Ys->Prop)->Prop)(t1 t2 t3:DT):DT:=λδ Q=>t1 δ λd1=>t2 δ λd2=>t3 δ λd3=>∃es,δ[j]?=some (some (.o es))/\F [d1,d2,d3] es Q
theorem MR{f:Yu}{j k:Nat}{x:Str}{a b c y:YA}{t1 t2 t3:DT}{fdt:YD}{ps:List Str}{E:XK}{F:List Ys->List Ys->(Ys->Prop)->Prop}{p pos:Pos}
 (Fk:aB X.prog X.w X.K X.mg X.base CX0 k f fdt ps (ub X.K F))(hr:aY k X.A)(hg:Gl X x)(hm:X.mg x=some (.ref f))(hk:Ts X.K (.ref f)=true)(hb:dF X.K fdt ps [])(hx:iH CX0 X E)(ha:DE X H0 O0 a t1)(hb2:DE X H0 O0 b t2)(hc:DE X H0 O0 c t3)(hy:PE X y (cA j))
 (hdb:(x==("__debug__":Str))=false:=by decide)(he:Yz [a,b,c,y] X.env=(false,eval a X.env)::Yz [b,c,y] X.env:=by rfl)(he2:Yz [b,c,y] X.env=(false,eval b X.env)::Yz [c,y] X.env:=by rfl)(he3:Yz [c,y] X.env=(false,eval c X.env)::Yz [y] X.env:=by rfl)(he4:Yz [y] X.env=(false,eval y X.env)::Yz [] X.env:=by rfl)(hpl:(YM pos (Yz [b,c,y] X.env)).any (·.1)=false:=by rfl):
 DE X H0 O0 (.Call (.Name x p) [a,b,c,y] [] pos) (Er j F t1 t2 t3):=
 (B0 Fk hr hg hm hk hb .nil hx (bA ha (bA hb2 (bA hc (bA hy cb he4) he3) he2) he) hdb he hpl).imp λσ H Q uu81=>by
  obtain⟨O,δ,Qd,w,q,k⟩:=uu81;refine⟨O,δ,_,w,q,λd1 v1 H1 q1 s1 r1=>⟨O,δ,_,w.mono s1,q1,λd2 v2 H2 q2 s2 r2=>⟨O,δ,_,w.mono (s1.trans s2),q2,λd3 v3 H3 ⟨es,ej,q3⟩ s3 r3=>?_⟩⟩⟩;have w3:=w.mono (s1.trans (s2.trans s3));obtain⟨l,ws,h1,h2,h3,h4,h5⟩:=w3.own ej;exact⟨_,h1,O,[v1,v2,v3],l,ws,[d1,d2,d3],es,Qd,rfl,w3.trk,.cons (r1.mono (s2.trans s3)) (.cons (r2.mono s3) (.cons r3 .nil)),h2,h4,h5,q3,λd v H4 q4 s4 r4=>k d v H4 q4 (s1.trans (s2.trans (s3.trans s4))) r4⟩
end
section
variable {x y z w:Option Sl} {l:Dl} {i j k m:Nat} {P:Ys->Prop}
theorem oN:bU j ((x::l).set 0 y) P=bU j (y::l) P:=rfl
theorem oO:bU j ((x::l).set (i+1) y) P=bU j (x::l.set i y) P:=rfl
theorem oP:bU j (((x::l).set 0 y).set k z) P=bU j ((y::l).set k z) P:=rfl
theorem oQ:bU j (((x::l).set (i+1) y).set k z) P=bU j ((x::l.set i y).set k z) P:=rfl
theorem oR:bU j ((((x::l).set 0 y).set k z).set m w) P=bU j (((y::l).set k z).set m w) P:=rfl
theorem oT:bU j ((((x::l).set (i+1) y).set k z).set m w) P=bU j (((x::l.set i y).set k z).set m w) P:=rfl
end
section
variable {K:Q7} {mg:Str->Option Yt} {h:YG} {x q:Str} {st:YH} {f C:Yu} {fd:YD} {ps:List Str}
structure Fn (K:Q7) (mg:Str->Option Yt) (x:Str) (st:YH) (f:Yu) (fd:YD) (ps:List Str):Prop where
 F:fc K x x st f fd
 m:mg x=some (.ref f)
 b:dF K fd ps []
structure Mn (K:Q7) (x q:Str) (st:YH) (f:Yu) (fd:YD) (ps:List Str):Prop where
 F:fc K x q st f fd
 b:dF K fd ps []
structure DfT (K:Q7) (x:Str) (st:YH) (f:Yu) (fd:YD):Prop where
 a:Se K YI x=some (some (.ref f))
 F:fc K x x st f fd
structure DmT (K:Q7) (C:Yu) (x q:Str) (st:YH) (f:Yu) (fd:YD):Prop where
 a:Tb K (.ref C) x=some (some (.ref f))
 i:VO K (.ref f)=true
 F:fc K x q st f fd
structure uf (K:Q7) (C:Yu):Prop where
 c:cW K C
 m:WC K C=true
 k:Ts K (.ref C)=true
theorem DfT.of{oc:Yt}{od an:Option Yu}{osl:Array (Option Yt)}{kV doc pm cdv ct:Yt}(a:Se K YI x=some (some (.ref f)))(l:K.lookup f=some ⟨oc,od,.func (Th x x (jh st) (fI st) (av st) .none kV doc pm an cdv ct),osl⟩)
 (c:Vt K cdv x=true)(k:Ts K (.ref f)=true):DfT K x st f (Th x x (jh st) (fI st) (av st) .none kV doc pm an cdv ct):=⟨a,Cg l c k⟩
theorem DmT.of{oc:Yt}{od an:Option Yu}{osl:Array (Option Yt)}{kV doc pm cdv ct:Yt}(a:Tb K (.ref C) x=some (some (.ref f)))(i:VO K (.ref f)=true)(l:K.lookup f=some ⟨oc,od,.func (Th x q (jh st) (fI st) (av st) .none kV doc pm an cdv ct),osl⟩)
 (c:Vt K cdv q=true)(k:Ts K (.ref f)=true):DmT K C x q st f (Th x q (jh st) (fI st) (av st) .none kV doc pm an cdv ct):=⟨a,i,Cg l c k⟩
theorem DfT.fn(D:DfT K x st f fd)(X:K.In h)(G:h.Ns YI mg)(hb:∀(kV doc pm:Yt) (an:Option Yu) (cdv ct:Yt) (us:List Yt),us.length=ps.length->bindArgs (Th x x (jh st) (fI st) (av st) .none kV doc pm an cdv ct) ⟨us,[]⟩=pure (ps.zip us)):Fn K mg x st f fd ps:=⟨D.F,T8 X G D.a,D.F.binds hb⟩
theorem DmT.fn(D:DmT K C x q st f fd)(hb:∀(kV doc pm:Yt) (an:Option Yu) (cdv ct:Yt) (us:List Yt),us.length=ps.length->bindArgs (Th x q (jh st) (fI st) (av st) .none kV doc pm an cdv ct) ⟨us,[]⟩=pure (ps.zip us)):Mn K x q st f fd ps:=⟨D.F,D.F.binds hb⟩
theorem DmT.mt(D:DmT K C x q st f fd):gQ K C x f:=⟨D.a,D.i,D.F.kp⟩
theorem DmT.mkk(D:DmT K C "__init__" q st f fd)(c:uf K C):Mk K C f:=⟨c.m,D.a,D.i,c.k⟩
theorem Fn.kp(N:Fn K mg x st f fd ps):Ts K (.ref f)=true:=N.F.kp
end
section
variable {X:Cx} {k:Nat} {f:Yu} {fd:YD} {ps:List Str} {sp:Sp} {st:YH} {x:Str} {p pos:Pos} {e:YA} {es:List YA} {t:TA}
theorem aD(F:aB X.prog X.w X.K X.mg X.base CX0 k f fd ps sp)(hr:aY k X.A)(hg:Gl X x)(N:Fn X.K X.mg x st f fd ps)
 (ha:PA X (e::es) t)(hdb:(x==("__debug__":Str))=false:=by decide)(he:Yz (e::es) X.env=(false,eval e X.env)::Yz es X.env:=by rfl)(hpl:(YM pos (Yz es X.env)).any (·.1)=false:=by rfl):
 PE X (.Call (.Name x p) (e::es) [] pos) (sM sp [] E0 t):=B0 F hr hg N.m N.kp N.b .nil gf ha hdb he hpl
end
section
def Es(v:V):Prop:=(∃i,v= .int i)\/v= .non
def Et:R2:=λx y H Q=>∃a b kv kv',x= .ref a/\y= .ref b/\Rd H a (.dK kv)/\Rd H b (.dK kv')/\kv.length=kv'.length/\(∀p∈kv,Es p.2/\p∈kv')/\Q (.bl false) H
theorem Eu{A:YJ}{s:Yw}{kb:List (ah×Yt)}:∀{ka:List (ah×Yt)},(∀p∈ka,∃w,ZR kb p.1=some w/\XH A s p.2 w true)->KeqHits A s kb ka true
 | [],_=>.nil
 | (k,v)::r,h=>by
  obtain⟨w,hv,x⟩:=h (k,v) RD;exact .hit (e:=true) (b:=true) hv x (Eu λp hp=>h p (Ru _ hp))
theorem Ew{kv:List (ah×V)}{vs:List (ah×Yt)}(h:KV kv vs):(∀q∈vs,∃p∈kv,p.1=q.1/\aC p.2 q.2)/\(∀p∈kv,∃q∈vs,p.1=q.1/\aC p.2 q.2)/\kv.length=vs.length:=by
 induction h with
 | nil=>exact⟨λq h=>(nomatch h),λq h=>(nomatch h),rfl⟩
 | @cons p q kv vs h t ih=>
  obtain⟨a,b,c⟩:=ih;obtain⟨e1,r⟩:=h;have e1:p.1=q.1:=by first | exact e1 | exact e1.symm
  refine⟨λz hz=>?_,λz hz=>?_,by rw [Rq,Rq,c]⟩
  ·rcases Rh.mp hz with e | hz
   ·subst e;exact⟨p,RD,e1,r⟩
   ·obtain⟨y,hy,x⟩:=a z hz;exact⟨y,Ru _ hy,x⟩
  ·rcases Rh.mp hz with e | hz
   ·subst e;exact⟨q,RD,e1,r⟩
   ·obtain⟨y,hy,x⟩:=b z hz;exact⟨y,Ru _ hy,x⟩
theorem Ey{β:Type}:∀{l:List (ah×β)},(l.map (·.1)).Nodup->∀{a b},a∈l->b∈l->a.1=b.1->a=b
 | [],_,_,_,ha,_,_=>nomatch ha
 | x::l,nd,a,b,ha,hb,e=>by
  rw [Rb,Ss] at nd;rcases Rh.mp ha with ea | ha1 <;> rcases Rh.mp hb with eb | hb1
  ·rw [ea,eb]
  ·subst ea;exact absurd (Rj.mpr ⟨b,hb1,e.symm⟩) nd.1
  ·subst eb;exact absurd (Rj.mpr ⟨a,ha1,e⟩) nd.1
  ·exact Ey nd.2 ha1 hb1 e
theorem MS{X:Cx}(hu:X.A.units+64 < YQ):bN X (YO .NotEq) Et:=by
 intro aaa s σ H x y v u Q I rx ry h;obtain⟨a,b,kv,kv',rfl,rfl,ha,hb,ln,hm,q⟩:=h;cases rx;cases ry;obtain⟨_,da,vs,rel,dd⟩:=iU I.hok ha;obtain⟨_,db,vs',rel',dd'⟩:=iU I.hok hb;obtain⟨a1,a2,a3⟩:=Ew rel;obtain⟨b1,b2,b3⟩:=Ew rel';refine keq_ne (r:=true) da db dd dd' Yn (λ_=>Eu λp hp=>?_) ?_
 ·obtain⟨p0,hp0,e0,r0⟩:=a1 p hp;obtain⟨fl,hp1⟩:=hm p0 hp0;obtain⟨q1,hq1,e1,r1⟩:=b2 p0 hp1;obtain⟨_,_,_,_,_,_,_,_,nd⟩:=dd';refine⟨q1.2,?_,?_⟩
  ·unfold ZR;have:vs'.find? (λkv=>kv.1=p.1)=some q1:=by
    cases hf:vs'.find? (λkv=>kv.1=p.1) with
    | none=>exact absurd (TV.mp hf _ hq1) (by simp [<-e0,e1])
    | some w=>
     have w1:=Vm hf;have w2:=VU hf;simp only [decide_eq_true_eq] at w2;rw [Ey nd w1 hq1 (by rw [w2,<-e0,e1])]
   rw [this];rfl
  ·rcases fl with⟨i,fi⟩ | fi
   ·rw [fi] at r0 r1;obtain⟨t,r0⟩:=r0;obtain⟨t',r1⟩:=r1;rw [r0,r1];have:=keq_flat (A:=X.A.in1) (s:=s) (v:= .int i t) (y:= .int i t') (d:= .int i) (e:= .int i) (λh=>.int i t) (λh=>.int i t');simpa [RC] using this
   ·rw [fi] at r0 r1;have r0:p.2= .none:=r0;have r1:q1.2= .none:=r1;rw [r0,r1];have:=keq_flat (A:=X.A.in1) (s:=s) (v:= .none) (y:= .none) (d:= .none) (e:= .none) (λh=>.none) (λh=>.none);simpa [RC] using this
 ·have e:(!(vs.length==vs'.length && true))=false:=by rw [show vs.length=vs'.length by omega];simp
  rw [e];exact bC I q rfl
def pU:Option Int->Ys
 | none=>.none
 | some i=>.int i
def Ez:Ys->Ys->(Ys->Prop)->Prop:=λx y Q=>∃(k1 k2:Str)(o1 o2:Option Int),x=dS [k1,k2] [pU o1,pU o2]/\y=dS [k2,k1] [pU o2,pU o1]/\Q (.bool false)
theorem uh{K:Q7}{H:Hp}{O:Ex}{v:V}:∀{o:Option Int},Dt K H O v (pU o)->v=(match o with | none=>.non | some i=>.int i)
 | none,h=>by cases h;rfl
 | some i,h=>by cases h;rfl
theorem EA{o:Option Int}:Es (match o with | none=>.non | some i=>.int i):=by
 cases o with
 | none=>exact .inr rfl
 | some i=>exact .inl ⟨i,rfl⟩
theorem EB{kv:List (ah×V)}{a b:ah}(h:kv.map (·.1)=[a,b]):∃p1 p2 q1 q2,kv=[(p1,p2),(q1,q2)]:=by
 obtain⟨p,l,rfl,_,h⟩:=WW.mp h;obtain⟨r,l,rfl,_,h⟩:=WW.mp h;rw [List.map_eq_nil_iff.mp h];exact⟨p.1,p.2,r.1,r.2,rfl⟩
theorem EC{K:Q7}{H:Hp}{O:Ex}{v u:V}{d e:Ys}(h:ak K H O [v,u] [d,e]):Dt K H O v d/\Dt K H O u e:=by
 cases h with
 | cons r1 h=>cases h with
  | cons r2 _=>exact⟨r1,r2⟩
theorem MT{K:Q7}:cK K Et Ez:=λH O x y dx dy Qd R _ hx hy uu83 k=>by
 obtain⟨k1,k2,o1,o2,e1,e2,q⟩:=uu83;subst e1 e2;obtain⟨a,_,kv,rfl,h,e1,_,rr⟩:=hx.dicE.dicE;obtain⟨b,_,kv',rfl,h',e1',_,rr'⟩:=hy.dicE.dicE;obtain⟨p1,p2,p1',p2',rfl⟩:=EB e1;obtain⟨q1,q2,q1',q2',rfl⟩:=EB e1'
 ·simp only [Rb,RX,RZ,and_true] at e1 e1' rr rr';obtain⟨r1,r2⟩:=EC rr;obtain⟨r3,r4⟩:=EC rr';have s1:=uh r1;have s2:=uh r2;have s3:=uh r3;have s4:=uh r4
  try simp only at s1 s2 s3 s4
  obtain⟨rfl,rfl⟩:=e1;obtain⟨rfl,rfl⟩:=e1';clear r1 r2 r3 r4 rr rr';subst s1 s2 s3 s4;refine⟨a,b,_,_,rfl,rfl,.inr ⟨_,h⟩,.inr ⟨_,h'⟩,rfl,λp hp=>?_,k _ _ H q (ar.refl _) (.bl _)⟩;simp only [Rh,Sj,or_false] at hp⊢;rcases hp with rfl | rfl
  ·exact⟨EA,.inr rfl⟩
  ·exact⟨EA,.inl rfl⟩
end
theorem MU{fr:List Nat}{σ:St}{x y z:V}:kr (bx 3 fr σ) ((((bx 3 fr σ).set 0 (some x)).set 1 (some y)).set 2 (some z)):=by
 refine⟨Yr,λi v e=>?_⟩;have h:3<=i:=by
  rcases Tz i 3 with h | h
  ·exfalso;unfold bx at e;rw [Sq (by simpa using h),Tu,Yp h] at e;cases e
  ·exact h
 rw [Rr Yn,Rr Yn,Rr Yn];exact e
theorem MV{K:Q7}{n:Nat}:jo (qF K n (kn (gH 0) (kn (gH 1) (kn (gH 2) qE)))) 3:=λfr σ v H' R uu84=>by obtain⟨a,xs,e,h1,h2,x,r,e1,y,r2,e2,z,r3,e3,e4,h⟩:=uu84;exact⟨a,xs,e,h1,h2,x,r,e1,y,r2,e2,z,r3,e3,e4,MU,h⟩
section
variable {X:Cx} {H0:Hp} {O0:Ex}
theorem MW{e:YA}{t:TE}(h:PE X e t):PE X e (λσ H Q=>t σ H λv H1=>∃p kv H2,v= .ref p/\H1=ai H2 p (.dK kv)/\∀o,Q v (ai H2 p (.frz o (.dK kv)))):=by
 intro aaa s σ H Q I q;refine aA (h aaa s σ H _ I q) λu s1 ⟨v,H1,I1,r1,p,kv,H2,e1,e2,q1⟩=>?_;subst e1 e2;obtain⟨o,I2⟩:=I1.fast bh;rw [Bc] at I2;exact⟨_,_,I2,r1,q1 o⟩
def ED(t:j4):DT:=λδ Q=>t δ λkd=>∃ks:List Str,kd.map (·.1)=ks.map R9/\Q (dS ks (kd.map (·.2)))
theorem MX{e:YA}{t:j4}(h:KE X H0 O0 e t):DE X H0 O0 e (ED t):=(MW h).imp λσ H R ⟨O,δ,Qd,w,q,k⟩=>
 ⟨O,δ,_,w,q,λkd kv p H' uu87 s hp r=>by obtain⟨ks,ek,qd⟩:=uu87;exact⟨p,kv,H',rfl,rfl,λo=>k _ _ _ qd (s.trans (ar.new hp)) (.dic bh (by rw [r.keys];exact ek) rfl (λz=>w.trk p z (by
  cases e:H p with
  | none=>rfl
  | some o=>rw [s _ _ e] at hp;cases hp)) (r.vals.mono (ar.new hp)))⟩⟩
theorem MY(hc:X.calm=true):eJ X (.builtin "max") (λxs H Q=>∃i j k,xs=[.int i,.int j,.int k]/\Q (.int (max (max i j) k)) H):=by
 intro aaa s σ H xs us Q I r h;obtain⟨i,j,k,rfl,q⟩:=h;cases r with
 | cons r1 r=>
  cases r with
  | cons r2 r=>
   cases r with
   | cons r3 r=>
    cases r;obtain⟨t1,rfl⟩:=r1;obtain⟨t2,rfl⟩:=r2;obtain⟨t3,rfl⟩:=r3;refine max_three_ints (I.ok.hd hc) λh' tk kk=>⟨_,H,I.kept kk,?_,q⟩;by_cases h1:j > i <;> by_cases h2:k > j <;> by_cases h3:k > i <;> simp only [h1,h2,h3,if_true,if_false] <;> exact⟨_,by congr 1;omega⟩
def EF:List Ys->(Ys->Prop)->Prop:=λds Q=>∃i j k,ds=[.int i,.int j,.int k]/\Q (.int (max (max i j) k))
theorem MZ{K:Q7}:iM K (λxs H Q=>∃i j k,xs=[.int i,.int j,.int k]/\Q (.int (max (max i j) k)) H) EF:=λH O xs ds Qd R tr hs uu88 k=>by
 obtain⟨i,j,m,e,q⟩:=uu88;subst e;cases hs with
 | cons h r=>
  cases r with
  | cons h2 r=>
   cases r with
   | cons h3 r=>
    cases r;cases h.int;cases h2.int;cases h3.int;exact⟨i,j,m,rfl,k _ _ _ q (ar.refl _) (.int _)⟩
end
end L2
namespace K68
open PySem L2
def aQ(i:Nat):YH:=PySem.Challenge.pw_goneday_k68_whole_holds_laid_and_lifted.main.body.getD i (.Pass ⟨0,0,0,0⟩)
abbrev xO:YH:=aQ 8
abbrev xP:YH:=aQ 9
abbrev xQ:YH:=aQ 10
abbrev xR:YH:=aQ 11
abbrev xS:YH:=aQ 12
abbrev xT:YH:=aQ 13
abbrev ui:YH:=aQ 14
abbrev xU:YH:=aQ 15
abbrev uj:YH:=L2.inClass (aQ 17) 0
abbrev xV:YH:=aQ 18
abbrev uk:YH:=aQ 19
abbrev xW:YH:=aQ 20
abbrev um:YH:=aQ 21
abbrev rH:YH:=aQ 22
abbrev uo:YH:=aQ 23
abbrev ur:YH:=aQ 24
abbrev uu:YH:=aQ 26
abbrev uw:YH:=aQ 27
abbrev uz:YH:=aQ 28
abbrev xX:YH:=aQ 29
abbrev uA:YH:=aQ 30
abbrev xY:YH:=aQ 31
abbrev uB:YH:=aQ 32
abbrev uC:YH:=aQ 33
abbrev xZ:YH:=aQ 34
abbrev uD:YH:=aQ 36
abbrev y3:YH:=aQ 37
abbrev uE:YH:=aQ 38
abbrev uF:YH:=aQ 39
abbrev uG:YH:=aQ 40
abbrev y4:YH:=aQ 42
abbrev uH:YH:=aQ 43
abbrev rJ:YH:=aQ 44
abbrev y6:YH:=L2.inClass (aQ 46) 0
abbrev y8:YH:=L2.inClass (aQ 46) 1
abbrev y9:YH:=L2.inClass (aQ 46) 2
abbrev uI:YH:=L2.inClass (aQ 47) 0
abbrev Aa:YH:=L2.inClass (aQ 47) 1
abbrev Ab:YH:=L2.inClass (aQ 47) 2
abbrev pV:YH:=L2.inClass (aQ 47) 3
abbrev uJ:YH:=aQ 48
abbrev Ac:YH:=aQ 49
abbrev Ad:YH:=aQ 50
abbrev uK:YH:=aQ 51
abbrev Ae:YH:=aQ 52
abbrev uL:YH:=aQ 54
abbrev Af:YH:=aQ 55
abbrev rK:YH:=aQ 56
abbrev Ag:YH:=aQ 58
abbrev Ah:YH:=aQ 59
abbrev pW:YH:=aQ 60
abbrev Ai:YH:=aQ 61
abbrev Aj:YH:=aQ 62
abbrev uM:YH:=aQ 63
abbrev Ak:YH:=aQ 64
abbrev Al:YH:=aQ 65
abbrev uN:YH:=aQ 66
abbrev pX:YH:=aQ 67
abbrev Am:YH:=aQ 68
set_option genInjectivity false in
set_option genSizeOfSpec false in
structure cF where
 a_A:Yu
 d_A:YD
 a_B:Yu
 d_B:YD
 a_C:Yu
 d_C:YD
 a_D:Yu
 d_D:YD
 a_E:Yu
 d_E:YD
 a_F:Yu
 d_F:YD
 a_G:Yu
 d_G:YD
 a_H:Yu
 d_H:YD
 a_I:Yu
 d_I:YD
 a_J:Yu
 d_J:YD
 a_K:Yu
 d_K:YD
 a_L:Yu
 d_L:YD
 a_M:Yu
 d_M:YD
 a_N:Yu
 d_N:YD
 a_O:Yu
 d_O:YD
 a_P:Yu
 d_P:YD
 a_Q:Yu
 d_Q:YD
 a_R:Yu
 d_R:YD
 a_S:Yu
 d_S:YD
 a_T:Yu
 d_T:YD
 a_U:Yu
 d_U:YD
 a_V:Yu
 d_V:YD
 a_W:Yu
 d_W:YD
 a_X:Yu
 d_X:YD
 a_Y:Yu
 d_Y:YD
 a_Z:Yu
 d_Z:YD
 a_a:Yu
 d_a:YD
 a_b:Yu
 d_b:YD
 a_c:Yu
 d_c:YD
 a_d:Yu
 d_d:YD
 a_e:Yu
 d_e:YD
 a_f:Yu
 d_f:YD
 a_g:Yu
 d_g:YD
 a_h:Yu
 d_h:YD
 a_i:Yu
 d_i:YD
 a_j:Yu
 d_j:YD
 a_k:Yu
 d_k:YD
 a_l:Yu
 d_l:YD
 a_m:Yu
 d_m:YD
 a_n:Yu
 d_n:YD
 a_o:Yu
 d_o:YD
 a_p:Yu
 d_p:YD
 a_q:Yu
 d_q:YD
 a_r:Yu
 d_r:YD
 a_s:Yu
 d_s:YD
 a_t:Yu
 d_t:YD
 a_u:Yu
 d_u:YD
 a_v:Yu
 d_v:YD
 a_w:Yu
 d_w:YD
 a_x:Yu
 d_x:YD
 a_y:Yu
 d_y:YD
 a_z:Yu
 d_z:YD
 a_AA:Yu
 d_AA:YD
 a_AB:Yu
 d_AB:YD
 a_AC:Yu
 d_AC:YD
 a_AD:Yu
 d_AD:YD
 a_AE:Yu
 d_AE:YD
 a_AF:Yu
 d_AF:YD
 a_AG:Yu
 d_AG:YD
 u_MONTH_DAYS:Yt
 u_FIRST_YEAR:Yt
 u_ROUND_DAYS:Yt
 u_ROUND_YEARS:Yt
 u_NoPaper:Yu
 u_Paper:Yu
 u_Look:Yu
 u_Round:Yu
structure Txt (K:Q7) (mg:Str->Option Yt) (t:cF):Prop where
 F_A:Fn K mg "is_leap" xO t.a_A t.d_A ["year"]
 F_B:Fn K mg "month_length" xP t.a_B t.d_B ["year","month"]
 F_C:Fn K mg "leaps_before" xQ t.a_C t.d_C ["year"]
 F_D:Fn K mg "year_start" xR t.a_D t.d_D ["year"]
 F_E:Fn K mg "year_of" xS t.a_E t.d_E ["day"]
 F_F:Fn K mg "parts_of" xT t.a_F t.d_F ["day"]
 F_G:Fn K mg "number_of" ui t.a_G t.d_G ["year","month","day"]
 F_H:Fn K mg "later" xU t.a_H t.d_H ["day","many","unit"]
 F_I:Mn K "__init__" "Paper.__init__" uj t.a_I t.d_I ["self","deeds","name"]
 F_J:Fn K mg "place_of" xV t.a_J t.d_J ["deed"]
 F_K:Fn K mg "comings" uk t.a_K t.d_K ["deeds"]
 F_L:Fn K mg "coming_of" xW t.a_L t.d_L ["deeds","paper"]
 F_M:Fn K mg "papers" um t.a_M t.d_M ["deeds"]
 F_N:Fn K mg "maker_comings" rH t.a_N t.d_N ["deeds","coming"]
 F_O:Fn K mg "makers" uo t.a_O t.d_O ["deeds","paper"]
 F_P:Fn K mg "line_of" ur t.a_P t.d_P ["deeds","paper"]
 F_Q:Fn K mg "latest" uu t.a_Q t.d_Q ["deeds","words","day"]
 F_R:Fn K mg "rules_on" uw t.a_R t.d_R ["deeds","day"]
 F_S:Fn K mg "holds_on" uz t.a_S t.d_S ["deeds","day"]
 F_T:Fn K mg "is_told" xX t.a_T t.d_T ["target","coming"]
 F_U:Fn K mg "holding" uA t.a_U t.d_U ["holds","line"]
 F_V:Fn K mg "covering" xY t.a_V t.d_V ["deeds","day","paper"]
 F_W:Fn K mg "happened" uB t.a_W t.d_W ["paper","happening"]
 F_X:Fn K mg "base_of" uC t.a_X t.d_X ["paper","since","day"]
 F_Y:Fn K mg "reckoned" xZ t.a_Y t.d_Y ["paper","parts","day"]
 F_Z:Fn K mg "rules_over" uD t.a_Z t.d_Z ["paper","rules","day"]
 F_a:Fn K mg "has_gone" y3 t.a_a t.d_a ["gone","paper","day"]
 F_b:Fn K mg "staying" uE t.a_b t.d_b ["paper","rules","day","gone"]
 F_c:Fn K mg "going" uF t.a_c t.d_c ["paper","rules","day","gone"]
 F_d:Fn K mg "leave_rules" uG t.a_d t.d_d ["kind","rules"]
 F_e:Fn K mg "bases" y4 t.a_e t.d_e ["since","paper"]
 F_f:Fn K mg "reckonings" uH t.a_f t.d_f ["ready","parts"]
 F_g:Fn K mg "turning_days" rJ t.a_g t.d_g ["deeds"]
 F_h:Mn K "__init__" "Look.__init__" y6 t.a_h t.d_h ["self","day","paper","to_stay","to_go","bars","leave"]
 F_i:Mn K "lets_go" "Look.lets_go" y8 t.a_i t.d_i ["self"]
 F_j:Mn K "as_row" "Look.as_row" y9 t.a_j t.d_j ["self"]
 F_k:Mn K "__init__" "Round.__init__" uI t.a_k t.d_k ["self","deeds","day","done"]
 F_l:Mn K "mark" "Round.mark" Aa t.a_l t.d_l ["self","row"]
 F_m:Mn K "unused" "Round.unused" Ab t.a_m t.d_m ["self","kind"]
 F_n:Mn K "look" "Round.look" pV t.a_n t.d_n ["self","paper","line"]
 F_o:Fn K mg "shelf_of" uJ t.a_o t.d_o ["deeds"]
 F_p:Fn K mg "looks_on" Ac t.a_p t.d_p ["deeds","shelf","day","done"]
 F_q:Fn K mg "walk" Ad t.a_q t.d_q ["deeds","days","done"]
 F_r:Fn K mg "rows_of" uK t.a_r t.d_r ["looks"]
 F_s:Fn K mg "plan_looks" Ae t.a_s t.d_s ["deeds"]
 F_t:Fn K mg "plan" uL t.a_t t.d_t ["deeds"]
 F_u:Fn K mg "days_of" Af t.a_u t.d_u ["deeds"]
 F_v:Fn K mg "there" rK t.a_v t.d_v ["deeds","day"]
 F_w:Fn K mg "_law_cell" Ag t.a_w t.d_w ["_law_script","_law_k"]
 F_x:Fn K mg "_law_draws" Ah t.a_x t.d_x ["_law_cell_here","_law_many"]
 F_y:Fn K mg "_law_names" pW t.a_y t.d_y ["_law_xs"]
 F_z:Fn K mg "_law_ahead" Ai t.a_z t.d_z ["_law_year"]
 F_AA:Fn K mg "_law_long" Aj t.a_AA t.d_AA ["_law_year","_law_month"]
 F_AB:Fn K mg "_law_later" uM t.a_AB t.d_AB ["_law_day_here","_law_many","_law_unit"]
 F_AC:Fn K mg "_law_day" Ak t.a_AC t.d_AC ["_law_x","_law_far"]
 F_AD:Fn K mg "_law_holds" Al t.a_AD t.d_AD ["_law_names_here","_law_xs","_law_far"]
 F_AE:Fn K mg "_law_standing" uN t.a_AE t.d_AE ["_law_deeds","_law_day_here"]
 F_AF:Fn K mg "_law_right" pX t.a_AF t.d_AF ["_law_cell_here"]
 F_AG:Fn K mg "law" Am t.a_AG t.d_AG ["_law_script"]
 bt_AG:∀(s:Yw)(u:Yt),BindsTo s t.d_AG ⟨[u],[]⟩ [("_law_script",u)]
 c_MONTH_DAYS:mg "MONTH_DAYS"=some t.u_MONTH_DAYS
 e_MONTH_DAYS:∃a,t.u_MONTH_DAYS= .ref a/\∀H,bw K H a [V.int 31,V.int 28,V.int 31,V.int 30,V.int 31,V.int 30,V.int 31,V.int 31,V.int 30,V.int 31,V.int 30,V.int 31]
 c_FIRST_YEAR:mg "FIRST_YEAR"=some t.u_FIRST_YEAR
 r_FIRST_YEAR:aC (.int 2000) t.u_FIRST_YEAR
 c_ROUND_DAYS:mg "ROUND_DAYS"=some t.u_ROUND_DAYS
 r_ROUND_DAYS:aC (.int 146097) t.u_ROUND_DAYS
 c_ROUND_YEARS:mg "ROUND_YEARS"=some t.u_ROUND_YEARS
 r_ROUND_YEARS:aC (.int 400) t.u_ROUND_YEARS
 c_NoPaper:mg "NoPaper"=some (.ref t.u_NoPaper)
 c_Paper:mg "Paper"=some (.ref t.u_Paper)
 c_Look:mg "Look"=some (.ref t.u_Look)
 c_Round:mg "Round"=some (.ref t.u_Round)
 cl_Paper:cW K t.u_Paper
 mk_Paper:Mk K t.u_Paper t.a_I
 na_Paper_name:NoAttr K t.u_Paper "name"
 na_Paper_coming:NoAttr K t.u_Paper "coming"
 na_Paper_kind:NoAttr K t.u_Paper "kind"
 na_Paper_makers:NoAttr K t.u_Paper "makers"
 na_Paper_happenings:NoAttr K t.u_Paper "happenings"
 cl_Look:cW K t.u_Look
 mk_Look:Mk K t.u_Look t.a_h
 na_Look_day:NoAttr K t.u_Look "day"
 na_Look_paper:NoAttr K t.u_Look "paper"
 na_Look_to_stay:NoAttr K t.u_Look "to_stay"
 na_Look_to_go:NoAttr K t.u_Look "to_go"
 na_Look_bars:NoAttr K t.u_Look "bars"
 na_Look_leave:NoAttr K t.u_Look "leave"
 mt_Look_lets_go:gQ K t.u_Look "lets_go" t.a_i
 mt_Look_as_row:gQ K t.u_Look "as_row" t.a_j
 cl_Round:cW K t.u_Round
 mk_Round:Mk K t.u_Round t.a_k
 na_Round_day:NoAttr K t.u_Round "day"
 na_Round_rules:NoAttr K t.u_Round "rules"
 na_Round_holds:NoAttr K t.u_Round "holds"
 na_Round_leaves:NoAttr K t.u_Round "leaves"
 na_Round_gone:NoAttr K t.u_Round "gone"
 na_Round_used:NoAttr K t.u_Round "used"
 mt_Round_mark:gQ K t.u_Round "mark" t.a_l
 mt_Round_unused:gQ K t.u_Round "unused" t.a_m
 mt_Round_look:gQ K t.u_Round "look" t.a_n
 n_abs:mg "abs"=none
 n_any:mg "any"=none
 n_dict:mg "dict"=none
 n_int:mg "int"=none
 n_len:mg "len"=none
 n_list:mg "list"=none
 n_max:mg "max"=none
 n_min:mg "min"=none
 n_range:mg "range"=none
 n_set:mg "set"=none
 n_sorted:mg "sorted"=none
 n_sum:mg "sum"=none
 n_tuple:mg "tuple"=none
theorem M3:aN ["year"] ["year"] (av xO):=⟨rfl,rfl,rfl,cp,rfl,cp,cp⟩
theorem M4:aN ["year","month"] ["year","month"] (av xP):=⟨rfl,rfl,rfl,cp,rfl,cp,cp⟩
theorem EG:aN ["year","past"] ["year"] (av xQ):=⟨rfl,rfl,rfl,cp,rfl,cp,cp⟩
theorem M5:aN ["year"] ["year"] (av xR):=⟨rfl,rfl,rfl,cp,rfl,cp,cp⟩
theorem EH:aN ["day","year"] ["day"] (av xS):=⟨rfl,rfl,rfl,cp,rfl,cp,cp⟩
theorem pY:aN ["day","year","left","month"] ["day"] (av xT):=⟨rfl,rfl,rfl,cp,rfl,cp,cp⟩
theorem EI:aN ["year","month","day","before"] ["year","month","day"] (av ui):=⟨rfl,rfl,rfl,cp,rfl,cp,cp⟩
theorem pZ:aN ["day","many","unit","months","parts","place","year","month"] ["day","many","unit"] (av xU):=⟨rfl,rfl,rfl,cp,rfl,cp,cp⟩
theorem EJ:aN ["self","deeds","name","coming"] ["self","deeds","name"] (av uj):=⟨rfl,rfl,rfl,cp,rfl,cp,cp⟩
theorem M6:aN ["deed"] ["deed"] (av xV):=⟨rfl,rfl,rfl,cp,rfl,cp,cp⟩
theorem M7:aN ["deeds"] ["deeds"] (av uk):=⟨rfl,rfl,rfl,cp,rfl,cp,cp⟩
theorem EK:aN ["deeds","paper","deed"] ["deeds","paper"] (av xW):=⟨rfl,rfl,rfl,cp,rfl,cp,cp⟩
theorem M8:aN ["deeds"] ["deeds"] (av um):=⟨rfl,rfl,rfl,cp,rfl,cp,cp⟩
theorem EL:aN ["deeds","coming","named"] ["deeds","coming"] (av rH):=⟨rfl,rfl,rfl,cp,rfl,cp,cp⟩
theorem M9:aN ["deeds","paper"] ["deeds","paper"] (av uo):=⟨rfl,rfl,rfl,cp,rfl,cp,cp⟩
theorem uO:aN ["deeds","paper","line","place"] ["deeds","paper"] (av ur):=⟨rfl,rfl,rfl,cp,rfl,cp,cp⟩
theorem uP:aN ["deeds","words","day","found","deed","known"] ["deeds","words","day"] (av uu):=⟨rfl,rfl,rfl,cp,rfl,cp,cp⟩
theorem Na:aN ["deeds","day"] ["deeds","day"] (av uw):=⟨rfl,rfl,rfl,cp,rfl,cp,cp⟩
theorem Nb:aN ["deeds","day"] ["deeds","day"] (av uz):=⟨rfl,rfl,rfl,cp,rfl,cp,cp⟩
theorem Nc:aN ["target","coming"] ["target","coming"] (av xX):=⟨rfl,rfl,rfl,cp,rfl,cp,cp⟩
theorem p7:aN ["holds","line","names","hold","target","deep","reached"] ["holds","line"] (av uA):=⟨rfl,rfl,rfl,cp,rfl,cp,cp⟩
theorem Nd:aN ["deeds","day","paper"] ["deeds","day","paper"] (av xY):=⟨rfl,rfl,rfl,cp,rfl,cp,cp⟩
theorem Nf:aN ["paper","happening"] ["paper","happening"] (av uB):=⟨rfl,rfl,rfl,cp,rfl,cp,cp⟩
theorem EM:aN ["paper","since","day","days"] ["paper","since","day"] (av uC):=⟨rfl,rfl,rfl,cp,rfl,cp,cp⟩
theorem EN:aN ["paper","parts","day","base"] ["paper","parts","day"] (av xZ):=⟨rfl,rfl,rfl,cp,rfl,cp,cp⟩
theorem Ng:aN ["paper","rules","day"] ["paper","rules","day"] (av uD):=⟨rfl,rfl,rfl,cp,rfl,cp,cp⟩
theorem EO:aN ["gone","paper","day","went"] ["gone","paper","day"] (av y3):=⟨rfl,rfl,rfl,cp,rfl,cp,cp⟩
theorem p8:aN ["paper","rules","day","gone","left","calls","rule","parts","due"] ["paper","rules","day","gone"] (av uE):=⟨rfl,rfl,rfl,cp,rfl,cp,cp⟩
theorem p9:aN ["paper","rules","day","gone","away","calls","rule","parts","due"] ["paper","rules","day","gone"] (av uF):=⟨rfl,rfl,rfl,cp,rfl,cp,cp⟩
theorem Nh:aN ["kind","rules"] ["kind","rules"] (av uG):=⟨rfl,rfl,rfl,cp,rfl,cp,cp⟩
theorem ER:aN ["since","paper","days"] ["since","paper"] (av y4):=⟨rfl,rfl,rfl,cp,rfl,cp,cp⟩
theorem An:aN ["ready","parts","days","paper"] ["ready","parts"] (av uH):=⟨rfl,rfl,rfl,cp,rfl,cp,cp⟩
theorem uQ:aN ["deeds","ready","days","deed"] ["deeds"] (av rJ):=⟨rfl,rfl,rfl,cp,rfl,cp,cp⟩
theorem Ni:aN ["self","day","paper","to_stay","to_go","bars","leave"] ["self","day","paper","to_stay","to_go","bars","leave"] (av y6):=⟨rfl,rfl,rfl,cp,rfl,cp,cp⟩
theorem Nj:aN ["self"] ["self"] (av y8):=⟨rfl,rfl,rfl,cp,rfl,cp,cp⟩
theorem Nk:aN ["self"] ["self"] (av y9):=⟨rfl,rfl,rfl,cp,rfl,cp,cp⟩
theorem Ao:aN ["self","deeds","day","done","leaves","row"] ["self","deeds","day","done"] (av uI):=⟨rfl,rfl,rfl,cp,rfl,cp,cp⟩
theorem Nl:aN ["self","row"] ["self","row"] (av Aa):=⟨rfl,rfl,rfl,cp,rfl,cp,cp⟩
theorem ES:aN ["self","kind","deed"] ["self","kind"] (av Ab):=⟨rfl,rfl,rfl,cp,rfl,cp,cp⟩
theorem qa:aN ["self","paper","line","to_stay","to_go","asking","leave","bars"] ["self","paper","line"] (av pV):=⟨rfl,rfl,rfl,cp,rfl,cp,cp⟩
theorem Nm:aN ["deeds"] ["deeds"] (av uJ):=⟨rfl,rfl,rfl,cp,rfl,cp,cp⟩
theorem qc:aN ["deeds","shelf","day","done","here","told","paper","line","look"] ["deeds","shelf","day","done"] (av Ac):=⟨rfl,rfl,rfl,cp,rfl,cp,cp⟩
theorem qg:aN ["deeds","days","done","shelf","rows","told","day","looks"] ["deeds","days","done"] (av Ad):=⟨rfl,rfl,rfl,cp,rfl,cp,cp⟩
theorem Nn:aN ["looks"] ["looks"] (av uK):=⟨rfl,rfl,rfl,cp,rfl,cp,cp⟩
theorem Np:aN ["deeds"] ["deeds"] (av Ae):=⟨rfl,rfl,rfl,cp,rfl,cp,cp⟩
theorem Ap:aN ["deeds","rows","row"] ["deeds"] (av uL):=⟨rfl,rfl,rfl,cp,rfl,cp,cp⟩
theorem rL:aN ["deeds","days","paper","day","leave"] ["deeds"] (av Af):=⟨rfl,rfl,rfl,cp,rfl,cp,cp⟩
theorem Aq:aN ["deeds","day","days","come"] ["deeds","day"] (av rK):=⟨rfl,rfl,rfl,cp,rfl,cp,cp⟩
theorem uR:aN ["_law_script","_law_k","_law_state","_law_cell_here"] ["_law_script","_law_k"] (av Ag):=⟨rfl,rfl,rfl,cp,rfl,cp,cp⟩
theorem mF:aN ["_law_cell_here","_law_many","_law_found","_law_state","_law_digits","_law_k"] ["_law_cell_here","_law_many"] (av Ah):=⟨rfl,rfl,rfl,cp,rfl,cp,cp⟩
theorem oU:aN ["_law_xs","_law_letters","_law_stem","_law_at","_law_step","_law_tail","_law_found"] ["_law_xs"] (av pW):=⟨rfl,rfl,rfl,cp,rfl,cp,cp⟩
theorem ET:aN ["_law_year","_law_past"] ["_law_year"] (av Ai):=⟨rfl,rfl,rfl,cp,rfl,cp,cp⟩
theorem EU:aN ["_law_year","_law_month","_law_leap"] ["_law_year","_law_month"] (av Aj):=⟨rfl,rfl,rfl,cp,rfl,cp,cp⟩
theorem i3:aN ["_law_day_here","_law_many","_law_unit","_law_year","_law_month","_law_left","_law_more","_law_begin"] ["_law_day_here","_law_many","_law_unit"] (av uM):=⟨rfl,rfl,rfl,cp,rfl,cp,cp⟩
theorem Nq:aN ["_law_x","_law_far"] ["_law_x","_law_far"] (av Ak):=⟨rfl,rfl,rfl,cp,rfl,cp,cp⟩
theorem j9:aN ["_law_names_here","_law_xs","_law_far","_law_found","_law_k","_law_target","_law_deep","_law_days","_law_j","_law_day_here","_law_deed"] ["_law_names_here","_law_xs","_law_far"] (av Al):=⟨rfl,rfl,rfl,cp,rfl,cp,cp⟩
theorem Ar:aN ["_law_deeds","_law_day_here","_law_newest","_law_deed"] ["_law_deeds","_law_day_here"] (av uN):=⟨rfl,rfl,rfl,cp,rfl,cp,cp⟩
theorem fk:aN ["_law_cell_here","_law_xs","_law_ys","_law_zs","_law_names_here","_law_far","_law_come","_law_from_day","_law_many","_law_unit","_law_laid","_law_deeds","_law_begin","_law_till","_law_days","_law_went","_law_day_here","_law_turn","_law_some","_law_rows"] ["_law_cell_here"] (av pX):=⟨rfl,rfl,rfl,cp,rfl,cp,cp⟩
theorem EV:aN ["_law_script","_law_cell_here"] ["_law_script"] (av Am):=⟨rfl,rfl,rfl,cp,rfl,cp,cp⟩
theorem EW{α:Type}{us:List α}(h:us.length=1):∃a,us=[a]:=List.length_eq_one_iff.mp h
theorem EX{α:Type}{us:List α}(h0:us.length=2):∃a b,us=[a,b]:=by
 cases us with
 | nil=>cases h0
 | cons a us=>
  obtain⟨b,z0⟩:=EW (us:=us) (U4 h0);exact⟨a,b,by rw [z0]⟩
theorem EY{α:Type}{us:List α}(h0:us.length=3):∃a b c,us=[a,b,c]:=by
 cases us with
 | nil=>cases h0
 | cons a us=>
  obtain⟨b,c,z0⟩:=EX (us:=us) (U4 h0);exact⟨a,b,c,by rw [z0]⟩
theorem EZ{α:Type}{us:List α}(h0:us.length=4):∃a b c d,us=[a,b,c,d]:=by
 cases us with
 | nil=>cases h0
 | cons a us=>
  obtain⟨b,c,d,z0⟩:=EY (us:=us) (U4 h0);exact⟨a,b,c,d,by rw [z0]⟩
theorem E1{α:Type}{us:List α}(h0:us.length=5):∃a b c d p,us=[a,b,c,d,p]:=by
 cases us with
 | nil=>cases h0
 | cons a us=>
  obtain⟨b,c,d,p,z0⟩:=EZ (us:=us) (U4 h0);exact⟨a,b,c,d,p,by rw [z0]⟩
theorem E3{α:Type}{us:List α}(h0:us.length=6):∃a b c d p q,us=[a,b,c,d,p,q]:=by
 cases us with
 | nil=>cases h0
 | cons a us=>
  obtain⟨b,c,d,p,q,z0⟩:=E1 (us:=us) (U4 h0);exact⟨a,b,c,d,p,q,by rw [z0]⟩
theorem Nr{α:Type}{us:List α}(h0:us.length=7):∃a b c d p q r,us=[a,b,c,d,p,q,r]:=by
 cases us with
 | nil=>cases h0
 | cons a us=>
  obtain⟨b,c,d,p,q,r,z0⟩:=E3 (us:=us) (U4 h0);exact⟨a,b,c,d,p,q,r,by rw [z0]⟩
local macro_rules | `(tactic| walk_at "b")=>`(tactic| (intro _ _ _ _ _ _ us hl;first | (cases ls0 (us:=us) hl;rfl) | (obtain⟨a,e⟩:=EW (us:=us) hl;subst e;rfl) | (obtain⟨a,b,e⟩:=EX (us:=us) hl;subst e;rfl) | (obtain⟨a,b,c,e⟩:=EY (us:=us) hl;subst e;rfl) | (obtain⟨a,b,c,d,e⟩:=EZ (us:=us) hl;subst e;rfl) | (obtain⟨a,b,c,d,p,e⟩:=E1 (us:=us) hl;subst e;rfl) | (obtain⟨a,b,c,d,p,q,e⟩:=E3 (us:=us) hl;subst e;rfl) | (obtain⟨a,b,c,d,p,q,r,e⟩:=Nr (us:=us) hl;subst e;rfl)))
theorem txt_mk{K:Q7}{h:YG}{mg:Str->Option Yt}(X:K.In h)(G:h.Ns YI mg)
 {f0 f1 f2 f3 f4 f5 f6 f7 f8 f9 f10 f11 f12 f13 f14 f15 f16 f17 f18 f19 f20 f21 f22 f23 f24 f25 f26 f27 f28 f29 f30 f31 f32 f33 f34 f35 f36 f37 f38 f39 f40 f41 f42 f43 f44 f45 f46 f47 f48 f49 f50 f51 f52 f53 f54 f55 f56 f57 f58:Yu}{e0 e1 e2 e3 e4 e5 e6 e7 e8 e9 e10 e11 e12 e13 e14 e15 e16 e17 e18 e19 e20 e21 e22 e23 e24 e25 e26 e27 e28 e29 e30 e31 e32 e33 e34 e35 e36 e37 e38 e39 e40 e41 e42 e43 e44 e45 e46 e47 e48 e49 e50 e51 e52 e53 e54 e55 e56 e57 e58:YD}
 {u_NoPaper u_Paper u_Look u_Round:Yu}
 {u_FIRST_YEAR u_ROUND_DAYS u_ROUND_YEARS:Yt}
 {A_MONTH_DAYS:Yu}{dd_MONTH_DAYS:Option Yu}{its_MONTH_DAYS:Array Yt}{n_MONTH_DAYS:Nat}{sl_MONTH_DAYS:Array (Option Yt)}
 (a0:DfT K "is_leap" xO f0 e0)
 (a1:DfT K "month_length" xP f1 e1)
 (a2:DfT K "leaps_before" xQ f2 e2)
 (a3:DfT K "year_start" xR f3 e3)
 (a4:DfT K "year_of" xS f4 e4)
 (a5:DfT K "parts_of" xT f5 e5)
 (a6:DfT K "number_of" ui f6 e6)
 (a7:DfT K "later" xU f7 e7)
 (a8:DmT K u_Paper "__init__" "Paper.__init__" uj f8 e8)
 (a9:DfT K "place_of" xV f9 e9)
 (a10:DfT K "comings" uk f10 e10)
 (a11:DfT K "coming_of" xW f11 e11)
 (a12:DfT K "papers" um f12 e12)
 (a13:DfT K "maker_comings" rH f13 e13)
 (a14:DfT K "makers" uo f14 e14)
 (a15:DfT K "line_of" ur f15 e15)
 (a16:DfT K "latest" uu f16 e16)
 (a17:DfT K "rules_on" uw f17 e17)
 (a18:DfT K "holds_on" uz f18 e18)
 (a19:DfT K "is_told" xX f19 e19)
 (a20:DfT K "holding" uA f20 e20)
 (a21:DfT K "covering" xY f21 e21)
 (a22:DfT K "happened" uB f22 e22)
 (a23:DfT K "base_of" uC f23 e23)
 (a24:DfT K "reckoned" xZ f24 e24)
 (a25:DfT K "rules_over" uD f25 e25)
 (a26:DfT K "has_gone" y3 f26 e26)
 (a27:DfT K "staying" uE f27 e27)
 (a28:DfT K "going" uF f28 e28)
 (a29:DfT K "leave_rules" uG f29 e29)
 (a30:DfT K "bases" y4 f30 e30)
 (a31:DfT K "reckonings" uH f31 e31)
 (a32:DfT K "turning_days" rJ f32 e32)
 (a33:DmT K u_Look "__init__" "Look.__init__" y6 f33 e33)
 (a34:DmT K u_Look "lets_go" "Look.lets_go" y8 f34 e34)
 (a35:DmT K u_Look "as_row" "Look.as_row" y9 f35 e35)
 (a36:DmT K u_Round "__init__" "Round.__init__" uI f36 e36)
 (a37:DmT K u_Round "mark" "Round.mark" Aa f37 e37)
 (a38:DmT K u_Round "unused" "Round.unused" Ab f38 e38)
 (a39:DmT K u_Round "look" "Round.look" pV f39 e39)
 (a40:DfT K "shelf_of" uJ f40 e40)
 (a41:DfT K "looks_on" Ac f41 e41)
 (a42:DfT K "walk" Ad f42 e42)
 (a43:DfT K "rows_of" uK f43 e43)
 (a44:DfT K "plan_looks" Ae f44 e44)
 (a45:DfT K "plan" uL f45 e45)
 (a46:DfT K "days_of" Af f46 e46)
 (a47:DfT K "there" rK f47 e47)
 (a48:DfT K "_law_cell" Ag f48 e48)
 (a49:DfT K "_law_draws" Ah f49 e49)
 (a50:DfT K "_law_names" pW f50 e50)
 (a51:DfT K "_law_ahead" Ai f51 e51)
 (a52:DfT K "_law_long" Aj f52 e52)
 (a53:DfT K "_law_later" uM f53 e53)
 (a54:DfT K "_law_day" Ak f54 e54)
 (a55:DfT K "_law_holds" Al f55 e55)
 (a56:DfT K "_law_standing" uN f56 e56)
 (a57:DfT K "_law_right" pX f57 e57)
 (a58:DfT K "law" Am f58 e58)
 (x_MONTH_DAYS:Se K YI "MONTH_DAYS"=some (some (.ref A_MONTH_DAYS)))(y_MONTH_DAYS:K.lookup A_MONTH_DAYS=some ⟨.type "tuple",dd_MONTH_DAYS,.seq its_MONTH_DAYS n_MONTH_DAYS,sl_MONTH_DAYS⟩)(z_MONTH_DAYS:aH [V.int 31,V.int 28,V.int 31,V.int 30,V.int 31,V.int 30,V.int 31,V.int 31,V.int 30,V.int 31,V.int 30,V.int 31] its_MONTH_DAYS.toList)(w_MONTH_DAYS:its_MONTH_DAYS.size<=YC)
 (x_FIRST_YEAR:Se K YI "FIRST_YEAR"=some (some u_FIRST_YEAR))(r_FIRST_YEAR:aC (.int 2000) u_FIRST_YEAR)
 (x_ROUND_DAYS:Se K YI "ROUND_DAYS"=some (some u_ROUND_DAYS))(r_ROUND_DAYS:aC (.int 146097) u_ROUND_DAYS)
 (x_ROUND_YEARS:Se K YI "ROUND_YEARS"=some (some u_ROUND_YEARS))(r_ROUND_YEARS:aC (.int 400) u_ROUND_YEARS)
 (x_NoPaper:Se K YI "NoPaper"=some (some (.ref u_NoPaper)))
 (x_Paper:Se K YI "Paper"=some (some (.ref u_Paper)))
 (x_Look:Se K YI "Look"=some (some (.ref u_Look)))
 (x_Round:Se K YI "Round"=some (some (.ref u_Round)))
 (cl_Paper:uf K u_Paper)
 (na_Paper_name:NoAttr K u_Paper "name")
 (na_Paper_coming:NoAttr K u_Paper "coming")
 (na_Paper_kind:NoAttr K u_Paper "kind")
 (na_Paper_makers:NoAttr K u_Paper "makers")
 (na_Paper_happenings:NoAttr K u_Paper "happenings")
 (cl_Look:uf K u_Look)
 (na_Look_day:NoAttr K u_Look "day")
 (na_Look_paper:NoAttr K u_Look "paper")
 (na_Look_to_stay:NoAttr K u_Look "to_stay")
 (na_Look_to_go:NoAttr K u_Look "to_go")
 (na_Look_bars:NoAttr K u_Look "bars")
 (na_Look_leave:NoAttr K u_Look "leave")
 (cl_Round:uf K u_Round)
 (na_Round_day:NoAttr K u_Round "day")
 (na_Round_rules:NoAttr K u_Round "rules")
 (na_Round_holds:NoAttr K u_Round "holds")
 (na_Round_leaves:NoAttr K u_Round "leaves")
 (na_Round_gone:NoAttr K u_Round "gone")
 (na_Round_used:NoAttr K u_Round "used")
 (n_abs:Se K YI "abs"=some none)
 (n_any:Se K YI "any"=some none)
 (n_dict:Se K YI "dict"=some none)
 (n_int:Se K YI "int"=some none)
 (n_len:Se K YI "len"=some none)
 (n_list:Se K YI "list"=some none)
 (n_max:Se K YI "max"=some none)
 (n_min:Se K YI "min"=some none)
 (n_range:Se K YI "range"=some none)
 (n_set:Se K YI "set"=some none)
 (n_sorted:Se K YI "sorted"=some none)
 (n_sum:Se K YI "sum"=some none)
 (n_tuple:Se K YI "tuple"=some none):∃t:cF,Txt K mg t:=by
 refine⟨⟨f0,e0,f1,e1,f2,e2,f3,e3,f4,e4,f5,e5,f6,e6,f7,e7,f8,e8,f9,e9,f10,e10,f11,e11,f12,e12,f13,e13,f14,e14,f15,e15,f16,e16,f17,e17,f18,e18,f19,e19,f20,e20,f21,e21,f22,e22,f23,e23,f24,e24,f25,e25,f26,e26,f27,e27,f28,e28,f29,e29,f30,e30,f31,e31,f32,e32,f33,e33,f34,e34,f35,e35,f36,e36,f37,e37,f38,e38,f39,e39,f40,e40,f41,e41,f42,e42,f43,e43,f44,e44,f45,e45,f46,e46,f47,e47,f48,e48,f49,e49,f50,e50,f51,e51,f52,e52,f53,e53,f54,e54,f55,e55,f56,e56,f57,e57,f58,e58,.ref A_MONTH_DAYS,u_FIRST_YEAR,u_ROUND_DAYS,u_ROUND_YEARS,u_NoPaper,u_Paper,u_Look,u_Round⟩,?_⟩;have bl:∀(s:Yw)(u:Yt),BindsTo s e58 ⟨[u],[]⟩ [("_law_script",u)]:=λs v=>by
  obtain⟨oc,od,kV,doc,pm,an,cdv,ct,osl,rfl,_⟩:=a58.F.ex;exact .of_eq rfl
 exact⟨a0.fn X G (by walk_at "b"),a1.fn X G (by walk_at "b"),a2.fn X G (by walk_at "b"),a3.fn X G (by walk_at "b"),a4.fn X G (by walk_at "b"),a5.fn X G (by walk_at "b"),a6.fn X G (by walk_at "b"),a7.fn X G (by walk_at "b"),a8.fn (by walk_at "b"),a9.fn X G (by walk_at "b"),a10.fn X G (by walk_at "b"),a11.fn X G (by walk_at "b"),a12.fn X G (by walk_at "b"),a13.fn X G (by walk_at "b"),a14.fn X G (by walk_at "b"),a15.fn X G (by walk_at "b"),a16.fn X G (by walk_at "b"),a17.fn X G (by walk_at "b"),a18.fn X G (by walk_at "b"),a19.fn X G (by walk_at "b"),a20.fn X G (by walk_at "b"),a21.fn X G (by walk_at "b"),a22.fn X G (by walk_at "b"),a23.fn X G (by walk_at "b"),a24.fn X G (by walk_at "b"),a25.fn X G (by walk_at "b"),a26.fn X G (by walk_at "b"),a27.fn X G (by walk_at "b"),a28.fn X G (by walk_at "b"),a29.fn X G (by walk_at "b"),a30.fn X G (by walk_at "b"),a31.fn X G (by walk_at "b"),a32.fn X G (by walk_at "b"),a33.fn (by walk_at "b"),a34.fn (by walk_at "b"),a35.fn (by walk_at "b"),a36.fn (by walk_at "b"),a37.fn (by walk_at "b"),a38.fn (by walk_at "b"),a39.fn (by walk_at "b"),a40.fn X G (by walk_at "b"),a41.fn X G (by walk_at "b"),a42.fn X G (by walk_at "b"),a43.fn X G (by walk_at "b"),a44.fn X G (by walk_at "b"),a45.fn X G (by walk_at "b"),a46.fn X G (by walk_at "b"),a47.fn X G (by walk_at "b"),a48.fn X G (by walk_at "b"),a49.fn X G (by walk_at "b"),a50.fn X G (by walk_at "b"),a51.fn X G (by walk_at "b"),a52.fn X G (by walk_at "b"),a53.fn X G (by walk_at "b"),a54.fn X G (by walk_at "b"),a55.fn X G (by walk_at "b"),a56.fn X G (by walk_at "b"),a57.fn X G (by walk_at "b"),a58.fn X G (by walk_at "b"),bl,T8 X G x_MONTH_DAYS,⟨A_MONTH_DAYS,rfl,λH=>.inr ⟨_,_,_,y_MONTH_DAYS,rfl,rfl,w_MONTH_DAYS,z_MONTH_DAYS⟩⟩,T8 X G x_FIRST_YEAR,r_FIRST_YEAR,T8 X G x_ROUND_DAYS,r_ROUND_DAYS,T8 X G x_ROUND_YEARS,r_ROUND_YEARS,T8 X G x_NoPaper,T8 X G x_Paper,T8 X G x_Look,T8 X G x_Round,cl_Paper.c,a8.mkk cl_Paper,na_Paper_name,na_Paper_coming,na_Paper_kind,na_Paper_makers,na_Paper_happenings,cl_Look.c,a33.mkk cl_Look,na_Look_day,na_Look_paper,na_Look_to_stay,na_Look_to_go,na_Look_bars,na_Look_leave,a34.mt,a35.mt,cl_Round.c,a36.mkk cl_Round,na_Round_day,na_Round_rules,na_Round_holds,na_Round_leaves,na_Round_gone,na_Round_used,a37.mt,a38.mt,a39.mt,Sv X G n_abs,Sv X G n_any,Sv X G n_dict,Sv X G n_int,Sv X G n_len,Sv X G n_list,Sv X G n_max,Sv X G n_min,Sv X G n_range,Sv X G n_set,Sv X G n_sorted,Sv X G n_sum,Sv X G n_tuple⟩
local macro_rules | `(tactic| walk_at "o")=>`(tactic| first | exact WL rfl | exact VQ rfl)
theorem Yq{p:Prop}(h:p:=by walk_at "o"):p:=h
local macro_rules | `(tactic| walk_at "a") =>rzT "vC Bt Bw Bv Bu qG gH cA tC pB BD rI iE rU BF BG Jw Jx Jy Jz JA BM tB Bi Bj Bk Bn Bo Br sM BV sL sQ BW BX qF kn qE Bx JK JL JM JN JO JP JQ JR jR jS iF L2.start Rb RX Rq R8 RR Sz Sy RY S0 S4 UA Uk Uj SS Sx Tn To SM exists_eq_left' exists_eq_left exists_and_left exists_and_right V.int.injEq V.bl.injEq V.str.injEq V.ref.injEq RZ and_true true_and UB exists_const decide_eq_true_eq UC UD Uo Ur SR decide_eq_false_iff_not and_assoc bx TL Tv TM L2.cxK L2.cmK or_true true_or"
open Day
theorem E4:aZ (av ui) ["year","month","day","before"] ["other","year"] 1 [0] ⟨Ri,[ (Q9 ".0",Z9),(Q9 "other",Z9),(Q9 "month_length",Sa),(Q9 "year",RA)],false,false,[]⟩:=⟨rfl,cp,cp,cp,rfl,cp,cp,cp,rfl⟩
section
variable {P:YE} {w:YF} {K:Q7} {mg:Str->Option Yt} {base:YG} {t:cF}
def E5:Sp:=λvs H Q _=>∃(y:Int),vs=[.int y]/\Q (.bl (ie y)) H
theorem Nt(T:Txt K mg t):aB P w K mg base CX0 1 t.a_A t.d_A ["year"] E5:=by
 refine T.F_A.F.ok M3 (λvs H Q E h=>?_) (λcdv A outer s H vs Q E hr h=>?_)
 ·obtain⟨y,rfl,_⟩:=h;rfl
 ·obtain⟨y,rfl,k⟩:=h;refine⟨_,(fy (gc (Bq (sG qK (bH bI (pv 0) bK) bK (aE _)) (vB (Bp (sG qK (bH bI (pv 0) bK) bK (aE _)) (vB (sG IC (bH bI (pv 0) bK) bK (aE _)))))))),?_⟩;walk_at "a";have e:ie y=(decide (y % 400=0) || (decide (y % 4=0) && !decide (y % 100=0))):=rfl;rw [e] at k;by_cases h1:y % 400=0
  ·simpa [h1] using k
  ·by_cases h2:y % 4=0
   ·simpa [h1,h2] using k
   ·simpa [h1,h2] using k
def E6:Sp:=λvs H Q _=>∃(y m:Int),vs=[.int y,.int m]/\1<=m/\m<=12/\Q (.int (aW y m)) H
theorem As(T:Txt K mg t):aB P w K mg base CX0 2 t.a_B t.d_B ["year","month"] E6:=by
 have G_A:=@Nt P w _ _ base _ T;refine T.F_B.F.ok M4 (λvs H Q E h=>?_) (λcdv A outer s H vs Q E hr h=>?_)
 ·obtain⟨y,m,rfl,_⟩:=h;rfl
 ·obtain⟨y,m,rfl,h1,h2,k⟩:=h;obtain⟨a,ea,hM⟩:=T.e_MONTH_DAYS;have T_r:aC (.ref a) t.u_MONTH_DAYS:=ea;refine⟨_,(cV (pq (PW.pt (Bm (mU qK (pv 1) bK (aE _)) (Bl (Bh (aD G_A (hr.mono Ym) rfl T.F_A (bA (pv 0) cb)))))) (fy (gc bK)) pk)
   (fy (gc (jT aF (ph rfl T.c_MONTH_DAYS T_r) (bH cP (pv 1) bK) (λ_ _=>rfl))))),?_⟩
  walk_at "a";simp only [E5];walk_at "a";have fin:∀{v:Int},v=aW y m->Q (.int v) H:=λe=>by rw [e];exact k
  have tail:aW y m=xv.getD (m - 1).toNat 0->sS K (.ref a) (.int (m - 1)) H Q:=λe=>by
   refine⟨a,_,m - 1,.int (aW y m),rfl,rfl,hM H,?_,k⟩;rw [e];rcases tV h1 h2 with z | z | z | z | z | z | z | z | z | z | z | z <;> subst z <;> rfl
  by_cases hm:m=2
  ·rw [Yp hm];by_cases hl:ie y=true
   ·rw [Yp hl];exact fin (by unfold aW;rw [Yp ⟨hm,hl⟩])
   ·rw [Yo hl];exact tail (by unfold aW;rw [Yo (λz=>hl z.2)])
  ·rw [Yo hm];exact tail (xy hm)
def E7:Sp:=λvs H Q _=>∃(y:Int),vs=[.int y]/\Q (.int (lb y)) H
theorem Nu(T:Txt K mg t):aB P w K mg base CX0 1 t.a_C t.d_C ["year"] E7:=by
 refine T.F_C.F.ok EG (λvs H Q E h=>?_) (λcdv A outer s H vs Q E hr h=>?_)
 ·obtain⟨y,rfl,_⟩:=h;rfl
 ·obtain⟨y,rfl,k⟩:=h;refine⟨_,(cV (eZ (i:=1) EG.nd rfl Yq (bH cP (pv 0) bK))
   (fy (gc (bH aX (bH cP (bH dY (pv 1) bK) (bH dY (pv 1) bK)) (bH dY (pv 1) bK))))),?_⟩
  walk_at "a";exact k
def uS:Sp:=λvs H Q _=>∃(y:Int),vs=[.int y]/\Q (.int (bD y)) H
theorem Au(T:Txt K mg t):aB P w K mg base CX0 2 t.a_D t.d_D ["year"] uS:=by
 have G_C:=@Nu P w _ _ base _ T;refine T.F_D.F.ok M5 (λvs H Q E h=>?_) (λcdv A outer s H vs Q E hr h=>?_)
 ·obtain⟨y,rfl,_⟩:=h;rfl
 ·obtain⟨y,rfl,k⟩:=h;refine⟨_,(fy (gc (bH cP (bH aX (bH fz bK (bH cP (pv 0) (ph rfl T.c_FIRST_YEAR T.r_FIRST_YEAR))) (aD G_C (hr.mono Ym) rfl T.F_C (bA (pv 0) cb))) (aD G_C (hr.mono Ym) rfl T.F_C (bA (ph rfl T.c_FIRST_YEAR T.r_FIRST_YEAR) cb))))),?_⟩;walk_at "a";simp only [E7];walk_at "a";exact k
def E8:Sp:=λvs H Q _=>∃(d:Int),vs=[.int d]/\Q (.int (pQ d)) H
theorem Nv(T:Txt K mg t):aB P w K mg base CX0 3 t.a_E t.d_E ["day"] E8:=by
 have G_D:=@Au P w _ _ base _ T;refine T.F_E.F.ok EH (λvs H Q E h=>?_) (λcdv A outer s H vs Q E hr h=>?_)
 ·obtain⟨d,rfl,_⟩:=h;rfl
 ·obtain⟨d,rfl,k⟩:=h;refine⟨_,(cV (eZ (i:=1) EH.nd rfl Yq (bH aX (ph rfl T.c_FIRST_YEAR T.r_FIRST_YEAR) (bH dY (bH fz (pv 0) (ph rfl T.c_ROUND_YEARS T.r_ROUND_YEARS)) (ph rfl T.c_ROUND_DAYS T.r_ROUND_DAYS))))
   (cV (pq (mU ko (aD G_D (hr.mono Ym) rfl T.F_D (bA (pv 1) cb)) (pv 0) (aE _)) (fy (gc (bH cP (pv 1) bK))) pk)
   (cV (pq (mU iG (aD G_D (hr.mono Ym) rfl T.F_D (bA (bH aX (pv 1) bK) cb)) (pv 0) (aE _)) (fy (gc (bH aX (pv 1) bK))) pk)
   (fy (gc (pv 1)))))),?_⟩
  walk_at "a";simp only [uS];walk_at "a";unfold pQ at k;split
  ·rename_i h;rw [Yp h] at k;exact k
  ·rename_i h;rw [Yo h] at k;split
   ·rename_i h;rw [Yp h] at k;exact k
   ·rename_i h;rw [Yo h] at k;exact k
def Nw:Sp:=λvs H Q _=>∃(d:Int),vs=[.int d]/\∀(p:Yu)(H':Hp)(y m n:Int),j8 d y m n->ar H H'->H p=none->H' p=some (.tup [.int y,.int m,.int n])->Q (.ref p) H'
theorem Nx(T:Txt K mg t):aB P w K mg base CX0 4 t.a_F t.d_F ["day"] Nw:=by
 have G_E:=@Nv P w _ _ base _ T;have G_D:=@Au P w _ _ base _ T;have G_B:=@As P w _ _ base _ T;refine T.F_F.F.ok pY (λvs H Q E h=>?_) (λcdv A outer s H vs Q E hr h=>?_)
 ·obtain⟨d,rfl,_⟩:=h;rfl
 ·obtain⟨d,rfl,k⟩:=h;refine⟨_,(cV (eZ (i:=1) pY.nd rfl Yq (aD G_E (hr.mono Ym) rfl T.F_E (bA (pv 0) cb)))
   (cV (eZ (i:=2) pY.nd rfl Yq (bH cP (pv 0) (aD G_D (hr.mono Ym) rfl T.F_D (bA (pv 1) cb))))
   (cV (eZ (i:=3) pY.nd rfl Yq bK)
   (cV (By RU (mU sF (pv 2) (aD G_B (hr.mono Ym) rfl T.F_B (bA (pv 1) (bA (pv 3) cb))) (aE _)) (cV (eZ (i:=2) pY.nd rfl Yq (bH cP (pv 2) (aD G_B (hr.mono Ym) rfl T.F_B (bA (pv 1) (bA (pv 3) cb)))))
   (fy (eZ (i:=3) pY.nd rfl Yq (bH aX (pv 3) bK)))))
   (fy (gc (BY (bA (pv 1) (bA (pv 3) (bA (bH aX (pv 2) bK) cb)))))))))),?_⟩
  walk_at "a";simp only [E8];walk_at "a";simp only [uS];walk_at "a";have yo:=Ms d;generalize pQ d=y at*;refine⟨λm σ H'=>H'=H/\∃mo:Int,1<=mo/\mo<=12/\aG y mo<=d - bD y/\m=(12 - mo).toNat/\σ=[some (.int d),some (.int y),some (.int (d - bD y - aG y mo)),some (.int mo)],⟨11,rfl,1,Ym,Ym,?_,rfl,?_⟩,?_⟩
  ·rw [rF];omega
  ·rw [rF];simp
  ·rintro m σ H' ⟨rfl,mo,h1,h2,hb,rfl,rfl⟩;walk_at "a";simp only [E6];walk_at "a";refine⟨h1,h2,?_⟩;have ys:=xw y;have ba:=xB (y:=y) h1 h2;split
   ·rename_i hge;have lt12:mo < 12:=by
     by_cases z:mo < 12
     ·exact z
     ·have e:mo=12:=Yn
      subst e;have:=(tW y);have:=rE y;omega
    refine⟨_,λ_ _ h=>h,h1,h2,(12 - (mo+1)).toNat,Yn,rfl,mo+1,Yn,Yn,?_,rfl,?_⟩
    ·rw [eB h1];omega
    ·rw [eB h1,show d - bD y - (aG y mo+aW y mo)=d - bD y - aG y mo - aW y mo by omega]
   ·rename_i hlt;refine⟨by show 3<=YC;decide,λp hp=>?_⟩;refine k p _ y mo (d - bD y - aG y mo+1) ⟨h1,h2,Yn,Yn,by unfold j7;omega⟩ (ar.new hp) hp bh
def Ny:Sp:=λvs H Q _=>∃(y m n:Int),vs=[.int y,.int m,.int n]/\1<=m/\m<=12/\∀H',ar H H'->Q (.int (j7 y m n)) H'
theorem Nz(T:Txt K mg t):aB P w K mg base CX0 3 t.a_G t.d_G ["year","month","day"] Ny:=by
 have G_D:=@Au P w _ _ base _ T;have G_B:=@As P w _ _ base _ T;refine T.F_G.F.ok EI (λvs H Q E h=>?_) (λcdv A outer s H vs Q E hr h=>?_)
 ·obtain⟨y,m,n,rfl,_⟩:=h;rfl
 ·obtain⟨y,m,n,rfl,h1,h2,k⟩:=h;refine⟨_,(cV (eZ (i:=3) EI.nd rfl Yq (eL (Co rfl) rfl T.n_sum WQ (bA (qN rfl E4 (BC rfl T.n_range (bA bK (bA (pv 1) cb))) (λ_ _ _ _=>(aI (i:=0) E4.nd rfl Yq)) (λ_ _ _ _=>Cm) (λ_ _ _ _=>(aD G_B (hr.mono Ym) rfl T.F_B (bA (pv 1) (bA (pv 0) cb))))) cb)))
   (fy (gc (bH cP (bH aX (bH aX (aD G_D (hr.mono Ym) rfl T.F_D (bA (pv 0) cb)) (pv 3)) (pv 2)) bK)))),?_⟩
  walk_at "a";refine⟨Yn,Yn,?_⟩;refine JS (λi=>.int (aW y (1+(i:Int)))) Yn (λi H' R hi s1 hR=>?_) (λD H' hD s1 e1=>?_)
  ·walk_at "a";exact⟨_,_,rfl,Yn,Yn,hR H' (ar.refl _)⟩
  ·refine⟨D,rfl,(SE (m - 1).toNat).map λ(i:Nat)=>aW y (1+(i:Int)),bq.of (by rw [e1,RB];rfl),?_⟩;simp only [uS];walk_at "a";exact k H' s1
def mG(u:Str):Prop:=u="days"\/u="months"\/u="years"
def kc(d k:Int)(u:Str)(r:Int):Prop:=(u="days"/\r=d+k)\/(u="months"/\∃y m n,j8 d y m n/\r=pR y m n k)\/(u="years"/\∃y m n,j8 d y m n/\r=pR y m n (k*12))
theorem E9:¬(("months":Str)="days"):=cp
theorem Fb:¬(("years":Str)="days"):=cp
theorem Fc:¬(("months":Str)="years"):=cp
def NA:Sp:=λvs H Q _=>∃(d k:Int)(u:Str),vs=[.int d,.int k,.str u]/\mG u/\∀r H',kc d k u r->ar H H'->Q (.int r) H'
theorem NB(T:Txt K mg t):aB P w K mg base CX0 5 t.a_H t.d_H ["day","many","unit"] NA:=by
 have G_F:=@Nx P w _ _ base _ T;have G_B:=@As P w _ _ base _ T;have G_G:=@Nz P w _ _ base _ T;refine T.F_H.F.ok pZ (λvs H Q E h=>?_) (λcdv A outer s H vs Q E hr h=>?_)
 ·obtain⟨d,k,u,rfl,_⟩:=h;rfl
 ·obtain⟨d,mk,u,rfl,hu,k⟩:=h;refine⟨_,(cV (pq (mU qK (pv 2) vA (aE _)) (fy (gc (bH aX (pv 0) (pv 1)))) pk)
   (cV (eZ (i:=3) pZ.nd rfl Yq (Bs (mU qK (pv 2) vA (aE _)) (bH fz (pv 1) bK) (pv 1)))
   (cV (eZ (i:=4) pZ.nd rfl Yq (aD G_F (hr.mono Ym) rfl T.F_F (bA (pv 0) cb)))
   (cV (eZ (i:=5) pZ.nd rfl Yq (bH aX (bH cP (bH aX (bH fz (jT aF (pv 4) bK (λ_ _=>rfl)) bK) (jT aF (pv 4) bK (λ_ _=>rfl))) bK) (pv 3)))
   (cV (eZ (i:=6) pZ.nd rfl Yq (bH dY (pv 5) bK))
   (cV (eZ (i:=7) pZ.nd rfl Yq (bH aX (bH bI (pv 5) bK) bK))
   (fy (gc (aD G_G (hr.mono Ym) rfl T.F_G (bA (pv 6) (bA (pv 7) (bA (eL (BR rfl) rfl T.n_min WR (bA (jT aF (pv 4) bK (λ_ _=>rfl)) (bA (aD G_B (hr.mono Ym) rfl T.F_B (bA (pv 6) (bA (pv 7) cb))) cb))) cb)))))))))))),?_⟩
  walk_at "a";by_cases hd:u="days"
  ·rw [Yp hd];exact k _ H (.inl ⟨hd,rfl⟩) (ar.refl _)
  ·rw [Yo hd];by_cases hy:u="years"
   ·rw [Yp hy];refine⟨d,rfl,λp H' y m n D s1 _ e1=>?_⟩;refine ji (bw.of e1) rfl ⟨y,rfl,ji (bw.of e1) rfl ⟨m,rfl,ji (bw.of e1) rfl ?_⟩⟩;refine⟨_,_,rfl,Yn,Yn,n,rfl,_,rfl,_,_,_,rfl,Yn,Yn,λH2 s2=>?_⟩;exact k _ H2 (.inr (.inr ⟨hy,y,m,n,D,by unfold pR;rw [we]⟩)) (s1.trans s2)
   ·rw [Yo hy];have hm:u="months":=by rcases hu with z | z | z;exact absurd z hd;exact z;exact absurd z hy
    refine⟨d,rfl,λp H' y m n D s1 _ e1=>?_⟩;refine ji (bw.of e1) rfl ⟨y,rfl,ji (bw.of e1) rfl ⟨m,rfl,ji (bw.of e1) rfl ?_⟩⟩;refine⟨_,_,rfl,Yn,Yn,n,rfl,_,rfl,_,_,_,rfl,Yn,Yn,λH2 s2=>?_⟩;exact k _ H2 (.inr (.inl ⟨hm,y,m,n,D,by unfold pR;rw [we]⟩)) (s1.trans s2)
def F_H:List Ys->(Ys->Prop)->Prop:=λds Q=>∃(d i:Int)(u:Str),ds=[.int d,.int i,.str u]/\mG u/\∀r,kc d i u r->Q (.int r)
theorem Fd(T:Txt K mg t):aB P w K mg base CX0 5 t.a_H t.d_H ["day","many","unit"] (aU K F_H):=
 (NB T).imp λvs H Q E uu89=>by
  obtain⟨O,ds,Qd,tr,hs,⟨d,i,u,e,hu,q⟩,k⟩:=uu89;subst e;cases hs with
  | cons a r=>cases r with
   | cons b r=>cases r with
    | cons c r=>cases r;cases a;cases b;cases c;exact⟨d,i,u,rfl,hu,λz H' L s1=>k _ _ H' (q z L) s1 (.int _)⟩
theorem NC{d k:Int}{u:Str}{r r':Int}(h:kc d k u r)(h':kc d k u r'):r=r':=by
 rcases h with⟨e,h⟩ | ⟨e,y,m,n,D,h⟩ | ⟨e,y,m,n,D,h⟩ <;> rcases h' with⟨e',h'⟩ | ⟨e',y',m',n',D',h'⟩ | ⟨e',y',m',n',D',h'⟩
 ·rw [h,h']
 ·exact absurd (e'.symm.trans e) E9
 ·exact absurd (e'.symm.trans e) Fb
 ·exact absurd (e.symm.trans e') E9
 ·obtain⟨rfl,rfl,rfl⟩:=D.uniq D';rw [h,h']
 ·exact absurd (e.symm.trans e') Fc
 ·exact absurd (e.symm.trans e') Fb
 ·exact absurd (e'.symm.trans e) Fc
 ·obtain⟨rfl,rfl,rfl⟩:=D.uniq D';rw [h,h']
end
structure Pp where
 d:Int
 nm:Str
 kd:Str
 ms:List Str
def Pp.enc(p:Pp):Ys:= .tuple [.str (Q6 "paper"),.int p.d,.str p.nm,.str p.kd,.tuple (p.ms.map .str)]
def Pp.key(p:Pp):Int×Str:=(p.d,p.nm)
def gK:Ys->Int×Str
 | .tuple (_:: .int d:: .str n::_)=>(d,n)
 | _=>(0,Q6 "")
def Pp.lt(a b:Pp):Prop:=aP a.key b.key=true
instance (a b:Pp):Decidable (a.lt b):=by unfold Pp.lt;infer_instance
theorem ND(p:Int×Str):aP p p=false:=by unfold aP;simp [List.lt_irrefl]
theorem Fe{a b c:Int×Str}(h1:aP a b=true)(h2:aP b c=true):aP a c=true:=by
 unfold aP at h1 h2⊢;simp only [Ul,Si,decide_eq_true_eq] at h1 h2⊢;rcases h1 with h1 | ⟨h1,h1'⟩ <;> rcases h2 with h2 | ⟨h2,h2'⟩
 ·left;omega
 ·left;omega
 ·left;omega
 ·right;exact⟨h1.trans h2,X3 h1' h2'⟩
theorem uT{a b:Int×Str}(h:aP a b=true):¬aP b a=true:=λz=>by
 have:=Fe h z;rw [ND] at this;cases this
theorem NF{a b:Int×Str}(h:a≠b):aP a b=true\/aP b a=true:=by
 have T:=DK (n:=2) (kp:=λi=>if i=0 then a else b) (λi j hi hj e=>by
  have:i=0\/i=1:=Yn
  have:j=0\/j=1:=Yn
  rcases ‹i=0\/i=1› with rfl | rfl <;> rcases ‹j=0\/j=1› with rfl | rfl
  ·rfl
  ·exact absurd e h
  ·exact absurd e.symm h
  ·rfl)
 have:=T.tot 0 1 Yn Yn Yn;simp at this;cases hb:aP b a with
 | true=>exact .inr rfl
 | false=>rw [hb] at this;exact .inl (by simpa using this)
theorem Pp.lt_tr{a b c:Pp}(h1:a.lt b)(h2:b.lt c):a.lt c:=Fe h1 h2
theorem mH{α:Type}{r:α->α->Prop}(as:∀a b,r a b->¬r b a):∀{l1 l2:List α},l1.Perm l2->l1.Pairwise r->l2.Pairwise r->l1=l2
 | [],l2,p,_,_=>by rw [p.nil_eq]
 | a::l1,[],p,_,_=>by have:=p.length_eq;simp at this
 | a::l1,b::l2,p,h1,h2=>by
  have e:a=b:=by
   have m1:a∈b::l2:=p.mem_iff.mp Yr;have m2:b∈a::l1:=p.mem_iff.mpr Yr;rcases Rh.mp m1 with e | m1
   ·exact e
   ·rcases Rh.mp m2 with e | m2
    ·exact e.symm
    ·exact absurd ((Su.mp h1).1 b m2) (as _ _ ((Su.mp h2).1 a m1))
  subst e;rw [mH as ((List.perm_cons a).mp p) (Su.mp h1).2 (Su.mp h2).2]
def mI(x:Pp):List Pp->List Pp
 | []=>[x]
 | y::l=>if x.lt y then x::y::l else y::mI x l
def bB(ps:List Pp):List Pp:=ps.foldr mI []
theorem Av(x:Pp):∀l,(mI x l).Perm (x::l)
 | []=>.refl _
 | y::l=>by
  unfold mI;split
  ·exact .refl _
  ·exact((Av x l).cons y).trans (.swap x y l)
theorem jC:∀ps:List Pp,(bB ps).Perm ps
 | []=>.refl _
 | x::ps=>(Av x (bB ps)).trans ((jC ps).cons x)
theorem Ff{x:Pp}:∀{l:List Pp},(∀y∈l,y.nm≠x.nm)->l.Pairwise Pp.lt->(mI x l).Pairwise Pp.lt
 | [],_,_=>WA _ _
 | y::l,hn,h=>by
  have hp:=Su.mp h;unfold mI;split
  ·rename_i hl;refine Su.mpr ⟨λz hz=>?_,h⟩;rcases Rh.mp hz with e | e
   ·subst e;exact hl
   ·exact Pp.lt_tr hl (hp.1 z e)
  ·rename_i hl;refine Su.mpr ⟨λz hz=>?_,Ff (λz hz=>hn z (by simp [hz])) hp.2⟩;rcases Rh.mp ((Av x l).mem_iff.mp hz) with e | e
   ·subst e;rcases NF (a:=y.key) (b:=z.key) (λz=>hn y Yr (congrArg Prod.snd z)) with w | w
    ·exact w
    ·exact absurd w hl
   ·exact hp.1 z e
theorem qh:∀{ps:List Pp},(ps.map (·.nm)).Nodup->(bB ps).Pairwise Pp.lt
 | [],_=>.nil
 | x::ps,h=>by
  rw [Rb,Ss] at h;exact Ff (λy hy e=>h.1 (by rw [<-e];exact Rj.mpr ⟨y,(jC ps).mem_iff.mp hy,rfl⟩)) (qh h.2)
theorem ke{ps:List Pp}{x:Pp}:x∈bB ps↔x∈ps:=(jC ps).mem_iff
theorem jD{ps:List Pp}:(bB ps).length=ps.length:=(jC ps).length_eq
theorem Pp.asym(a b:Pp)(h:a.lt b):¬b.lt a:=uT h
theorem Fg{ps os:List Pp}(nd:(ps.map (·.nm)).Nodup)(hp:os.Perm ps)(hs:os.Pairwise Pp.lt):os=bB ps:=
 mH Pp.asym (hp.trans (jC ps).symm) hs (qh nd)
theorem Fh{ps qs:List Pp}(nd:(ps.map (·.nm)).Nodup)(h:qs.Perm ps):bB qs=bB ps:=
 Fg nd ((jC qs).trans h) (qh ((h.map _).nodup_iff.mpr nd))
theorem Aw{ps:List Pp}{f:Pp->Bool}(nd:(ps.map (·.nm)).Nodup):((ps.filter f).map (·.nm)).Nodup:=nd.sublist (Vh.map _)
theorem Fi{ps:List Pp}{f:Pp->Bool}(nd:(ps.map (·.nm)).Nodup):bB (ps.filter f)=(bB ps).filter f:=
 (Fg (Aw nd) ((jC ps).filter f) ((qh nd).sublist Vh)).symm
theorem NG{ps:List Pp}{ds:List Ys}(nd:(ps.map (·.nm)).Nodup)(hp:ds.Perm (ps.map Pp.enc))(hs:ds.Pairwise λa b=>aP (gK a) (gK b)=true):ds=(bB ps).map Pp.enc:=by
 refine mH (λa b h=>uT h) (hp.trans ((jC ps).symm.map _)) hs ?_;rw [SD];exact qh nd
theorem NH{ps:List Pp}(nd:(ps.map (·.nm)).Nodup){a b:Pp}(ha:a∈ps)(hb:b∈ps)(e:a.nm=b.nm):a=b:=by
 induction ps with
 | nil=>cases ha
 | cons x ps ih=>
  rw [Rb,Ss] at nd;rcases Rh.mp ha with ea | ha1 <;> rcases Rh.mp hb with eb | hb1
  ·rw [ea,eb]
  ·subst ea;exact absurd (Rj.mpr ⟨b,hb1,e.symm⟩) nd.1
  ·subst eb;exact absurd (Rj.mpr ⟨a,ha1,e⟩) nd.1
  ·exact ih nd.2 ha1 hb1
structure ij (ps:List Pp):Prop where
 ln:ps.length<=41
 nd:(ps.map (·.nm)).Nodup
 nm:∀p∈ps,Rz p.nm=true
 kd:∀p∈ps,Rz p.kd=true
 ms:∀p∈ps,(∀m∈p.ms,Rz m=true)/\p.ms.length<=50
theorem ij.perm{ps qs:List Pp}(g:ij ps)(h:qs.Perm ps):ij qs:=
 ⟨by rw [h.length_eq];exact g.ln,(h.map _).nodup_iff.mpr g.nd,λp hp=>g.nm p (h.mem_iff.mp hp),λp hp=>g.kd p (h.mem_iff.mp hp),λp hp=>g.ms p (h.mem_iff.mp hp)⟩
theorem ij.filter{ps:List Pp}(g:ij ps)(f:Pp->Bool):ij (ps.filter f):=
 ⟨RS (R1 _ _) g.ln,Aw g.nd,λp hp=>g.nm p (RK.mp hp).1,λp hp=>g.kd p (RK.mp hp).1,λp hp=>g.ms p (RK.mp hp).1⟩
def qi(c p:Pp):Bool:=c.ms.contains p.nm && aP p.key c.key
def dB(ps:List Pp)(c:Pp):List Pp:=(bB ps).filter (qi c)
inductive De where
 | pap (p:Pp)
 | oth (w:Str) (d:Int) (nm:Str) (r:List Ys)
def De.enc:De->Ys
 | .pap p=>p.enc
 | .oth w d nm r=>.tuple (.str w:: .int d:: .str nm::r)
def De.w:De->Str
 | .pap _=>Q6 "paper"
 | .oth w _ _ _=>w
def De.d:De->Int
 | .pap p=>p.d
 | .oth _ d _ _=>d
def De.nm:De->Str
 | .pap p=>p.nm
 | .oth _ _ nm _=>nm
def De.pp:De->Option Pp
 | .pap p=>some p
 | _=>none
def ay(xs:List De):List Pp:=xs.filterMap De.pp
structure gL (xs:List De):Prop where
 gp:ij (ay xs)
 np:∀w d nm r,De.oth w d nm r∈xs->w≠Q6 "paper"
 ln:xs.length<=41
 w:∀x∈xs,Rz x.w=true
 nm:∀x∈xs,Rz x.nm=true
theorem NI{xs:List De}{p:Pp}:p∈ay xs↔De.pap p∈xs:=by
 unfold ay;rw [TQ];constructor
 ·rintro⟨x,hx,e⟩;cases x with
  | pap q=>cases e;exact hx
  | oth w d nm r=>cases e
 ·intro h;exact⟨_,h,rfl⟩
theorem gL.perm{xs ys:List De}(g:gL xs)(h:ys.Perm xs):gL ys:=
 ⟨g.gp.perm (h.filterMap _),λw d nm r z=>g.np w d nm r (h.mem_iff.mp z),by rw [h.length_eq];exact g.ln,λx hx=>g.w x (h.mem_iff.mp hx),λx hx=>g.nm x (h.mem_iff.mp hx)⟩
theorem Fj(ps:List Pp):ay (ps.map De.pap)=ps:=by
 unfold ay;rw [List.filterMap_map];exact List.filterMap_some
theorem NJ(ps:List Pp):ps.map Pp.enc=(ps.map De.pap).map De.enc:=by rw [RB];rfl
theorem NK:Rz (Q6 "paper")=true:=cp
theorem gL.of{ps:List Pp}(g:ij ps):gL (ps.map De.pap):=by
 refine⟨by rw [Fj];exact g,λw d nm r h=>?_,by rw [Q8];exact g.ln,λx hx=>?_,λx hx=>?_⟩
 ·obtain⟨p,_,e⟩:=Rj.mp h;cases e
 ·obtain⟨p,_,rfl⟩:=Rj.mp hx;exact NK
 ·obtain⟨p,hp,rfl⟩:=Rj.mp hx;exact g.nm p hp
local macro_rules | `(tactic| walk_at "d") =>do let a <- rzT "fC Rb RX Rq R8 S0 S4 RR Sz Sy"; let b <- rzT rzS; `(tactic| ((try $a:tactic); $b:tactic))
theorem Fl:aZ (av uk) ["deeds"] ["deed"] 1 [] ⟨Ri,[(Q9 ".0",Z9),(Q9 "deed",Z9)],false,false,[]⟩:=⟨rfl,cp,cp,cp,rfl,cp,cp,cp,rfl⟩
theorem Fm:aZ (av um) ["deeds"] ["deed"] 1 [] ⟨Ri,[(Q9 ".0",Z9),(Q9 "deed",Z9)],false,false,[]⟩:=⟨rfl,cp,cp,cp,rfl,cp,cp,cp,rfl⟩
theorem Fo:aZ (av rH) ["deeds","coming","named"] ["deed","coming"] 1 [1] ⟨Ri,[ (Q9 ".0",Z9),(Q9 "deed",Z9),(Q9 "coming",RA)],false,false,[]⟩:=⟨rfl,cp,cp,cp,rfl,cp,cp,cp,rfl⟩
theorem Fp:aZ (av rH) ["deeds","coming","named"] ["deed","coming"] 1 [1] ⟨Ri,[ (Q9 ".0",Z9),(Q9 "deed",Z9),(Q9 "place_of",Sa),(Q9 "coming",RA)],false,false,[]⟩:=⟨rfl,cp,cp,cp,rfl,cp,cp,cp,rfl⟩
theorem Fq:aZ (av uo) ["deeds","paper"] ["deed"] 1 [] ⟨Ri,[(Q9 ".0",Z9),(Q9 "deed",Z9)],false,false,[]⟩:=⟨rfl,cp,cp,cp,rfl,cp,cp,cp,rfl⟩
section
variable {P:YE} {w:YF} {K:Q7} {mg:Str->Option Yt} {base:YG} {t:cF}
theorem cT{α:Type}{enc:α->Ys}{g:DG}{tc:DB}{te:DT}{δ0:Dl}{xs:List α}{Q:List Ys->Prop}(p:α->Bool)(f:α->Ys)
 (h:∀x∈xs,∀(R:Ys->Prop) (S:Prop),(if p x=true then R (f x) else S)->g (enc x) δ0 λδ2=>tc δ2 λok=>if ok=true then te δ2 R else S)(q:Q ((xs.filter p).map f)):hU g tc te δ0 (xs.map enc) Q:=by
 refine⟨λi acc=>acc=((xs.take i).filter p).map f,rfl,?_,?_⟩
 ·rintro i z acc hz rfl;rw [Rt] at hz;cases hz':xs[i]? with
  | none=>rw [hz'] at hz;cases hz
  | some x=>
   rw [hz'] at hz;cases hz;refine h x (RN hz') (λy=>((xs.take i).filter p).map f++[y]=((xs.take (i+1)).filter p).map f) (((xs.take i).filter p).map f=((xs.take (i+1)).filter p).map f) ?_;rw [R4,hz'];by_cases e:p x=true
   ·rw [Yp e];simp [e]
   ·rw [Yo e];simp [e]
 ·rintro acc rfl;rw [Q8,RM (Rf _)];exact q
theorem jE{α:Type}{enc:α->Ys}{g:DG}{tc:DB}{te:DT}{δ0:Dl}{xs:List α}{Q:List Ys->Prop}(p:α->Bool)(f:α->Ys)
 (h:∀x∈xs,∀(R:Ys->Prop) (S:Prop),(p x=true->R (f x))->(p x=false->S)->g (enc x) δ0 λδ2=>tc δ2 λok=>if ok=true then te δ2 R else S)(q:Q ((xs.filter p).map f)):hU g tc te δ0 (xs.map enc) Q:=
 cT p f (λx hx R S z=>h x hx R S (λe=>by rw [Yp e] at z;exact z) (λe=>by rw [Yo (by rw [e];exact Rl)] at z;exact z)) q
theorem ik{α:Type}(l:List α):l.filter (λ_=>true)=l:=W3.mpr λ_ _=>rfl
theorem bV{a b:Str}(h:a≠b):(a==b)=false:=by simpa using h
theorem NL{ws:List Str}{w:Str}:((ws.map Ra).any λd=>RC d (.str w))=ws.contains w:=by
 induction ws with
 | nil=>rfl
 | cons a ws ih=>
  rw [Rb,SA,ih,eV,V5];congr 1;by_cases h:a=w
  ·simp [h]
  ·rw [bV h,bV (Ne.symm h)]
theorem NM{ms:List Str}(h:∀m∈ms,Rz m=true):SQ (ms.map .str)=true:=(qZ (n:=1) (tI h)).1
def jF(f:Pp->Bool):De->Bool
 | .pap p=>f p
 | _=>false
theorem rM{f:Pp->Bool}:∀xs:List De,(xs.filter (jF f)).map De.enc=((ay xs).filter f).map Pp.enc
 | []=>rfl
 | .pap p::xs=>by
  have ih:=rM (f:=f) xs;show _=(Tr f (p::ay xs)).map Pp.enc;rw [So,So];by_cases h:f p=true
  ·rw [Yp h,Yp (show jF f (.pap p)=true from h),Rb,Rb,ih];rfl
  ·rw [Yo h,Yo (show ¬jF f (.pap p)=true from h),ih]
 | .oth w d nm r::xs=>by
  have ih:=rM (f:=f) xs;show _=(Tr f (ay xs)).map Pp.enc;rw [So,Yo (show ¬jF f (.oth w d nm r)=true from Rl),ih]
def Ax:List Ys->(Ys->Prop)->Prop:=λds Q=>∃p:De,ds=[p.enc]/\Q (cE (p.d,p.nm))
theorem Ay(T:Txt K mg t):aB P w K mg base CX0 1 t.a_J t.d_J ["deed"] (aU K Ax):=by
 refine T.F_J.F.okD M6 (λds Q h=>?_) (λ_ _ _ _ H O ds Q E hr h=>?_)
 ·obtain⟨p,rfl,_⟩:=h;rfl
 ·obtain⟨p,rfl,q⟩:=h;refine'⟨_,?A,?B⟩
  case A=>
   refine' ax ?C
   case' C=>refine' bb ?D
   case' D=>refine' bF ?E
   case' E=>refine' aa ?F ?G
   case F=>exact(ao aF aJ (df (dv 0)) (df ag))
   case' G=>refine' aa ?H aj
   case H=>exact(ao aF aJ (df (dv 0)) (df ag))
  case B=>
  clear hr T;cases p <;> simp only [De.enc,Pp.enc] <;> walk_at "d" <;> exact q
theorem NN{d:Ys}{ps:List Pp}(h:d∈ps.map Pp.enc)(R:Ys->Prop)(q:R (cE (gK d))):Ax [d] R:=by
 obtain⟨p,hp,rfl⟩:=Rj.mp h;exact⟨.pap p,rfl,q⟩
theorem Fs{ps:List Pp}(nd:(ps.map (·.nm)).Nodup):(ps.map Pp.key).Nodup:=by
 rw [VW,SD] at nd⊢;exact nd.imp λh e=>h (congrArg Prod.snd e)
def F_K:List Ys->(Ys->Prop)->Prop:=λds Q=>∃xs:List De,(ds=[.list (xs.map De.enc)]\/ds=[.tuple (xs.map De.enc)])/\gL xs/\Q (.list ((bB (ay xs)).map Pp.enc))
theorem Az(T:Txt K mg t):aB P w K mg base CX0 4 t.a_K t.d_K ["deeds"] (aU K F_K):=by
 have G_J:=@Ay P w _ _ base _ T;refine T.F_K.F.okD M7 (λds Q h=>?_) (λ_ _ _ _ H O ds Q E hr h=>?_)
 ·obtain⟨ps,h | h,_⟩:=h <;> subst h <;> rfl
 ·obtain⟨xs,e,gd,q⟩:=h;refine'⟨_,?A,?B⟩
  case A=>
   refine' ax ?C
   case' C=>refine' bb ?D
   case D=>exact(fe (DQ gK rfl G_J (aY.in1 (aY.in1 (hr.mono Ym))) T.F_J.b rfl T.F_J.m rfl T.n_sorted S7 (bz (df (fe (LZ rfl Fl (df (dv 0)) aL bS Ym (λ_ _ _ _=>(aI (i:=0) Fl.nd rfl Yq)) (λ_ _ _ _=>(d7 (aO (dO hr) dP (df (ao aF aJ (df (dv 0)) (df ag))) (df bj) (aE _)))) (λ_ _ _ _=>(dv 0))))) bG)))
  case B=>
  clear hr T G_J;have ln:=gd.ln;have pl:=gd.gp.ln;have step:∀x∈xs,∀(R:Ys->Prop)(S:Prop),(if jF (λ_=>true) x=true then R x.enc else S)->(if (x.w==Q6 "paper")=true then R x.enc else S):=λx hx R S h=>by
   cases x with
   | pap p=>exact h
   | oth w d nm r=>
    rw [show((De.oth w d nm r).w==Q6 "paper")=false from bV (gd.np w d nm r hx),Yo Rl];rw [Yo (show ¬jF (λ_=>true) (.oth w d nm r)=true from Rl)] at h;exact h
  have fin:∀ds':List Ys,ds'.Perm ((ay xs).map Pp.enc)->ds'.Pairwise (λa b=>aP (gK a) (gK b)=true)->Q (.list ds'):=λds' h1 h2=>by
   rw [NG gd.gp.nd h1 h2];exact q
  have tail:(∀d∈(ay xs).map Pp.enc,∀R:Ys->Prop,R (cE (gK d))->Ax [d] R)/\((ay xs).map Pp.enc).length < 64/\(((ay xs).map Pp.enc).map gK).Nodup:=by
   refine⟨λd hd R z=>NN hd R z,by rw [Q8];omega,?_⟩;rw [RB];exact Fs gd.gp.nd
  rcases e with e | e <;> subst e <;> walk_at "d"
  ·refine⟨by rw [Q8];omega,cT (jF λ_=>true) De.enc (λx hx R S h=>?_) ?_⟩
   ·have h:=step x hx R S h;cases x <;> simp only [De.enc,De.w,Pp.enc] at h⊢<;> walk_at "d" <;> exact h
   ·rw [rM,ik];exact⟨tail.1,tail.2.1,tail.2.2,fin⟩
  ·refine⟨by rw [Q8];omega,cT (jF λ_=>true) De.enc (λx hx R S h=>?_) ?_⟩
   ·have h:=step x hx R S h;cases x <;> simp only [De.enc,De.w,Pp.enc] at h⊢<;> walk_at "d" <;> exact h
   ·rw [rM,ik];exact⟨tail.1,tail.2.1,tail.2.2,fin⟩
def NO:List Ys->(Ys->Prop)->Prop:=λds Q=>∃(xs:List De)(c:Pp),ds=[.tuple (xs.map De.enc),.str c.nm]/\gL xs/\c∈ay xs/\Q c.enc
theorem AA(T:Txt K mg t):aB P w K mg base CX0 1 t.a_L t.d_L ["deeds","paper"] (aU K NO):=by
 refine T.F_L.F.okD EK (λds Q h=>?_) (λ_ _ _ _ H O ds Q E hr h=>?_)
 ·obtain⟨ps,c,rfl,_⟩:=h;rfl
 ·obtain⟨xs,c,rfl,gd,hc,q⟩:=h;refine'⟨_,?A,?B⟩
  case A=>
   refine' aq ?C ?D
   case C=>
    refine' pK RU rfl (dv 0) ?E aL ?F
    case E=>exact(aI (i:=2) EK.nd rfl Yq)
    case' F=>refine' ax ?G
    case' G=>refine' bR ?H ?I bQ
    case H=>exact(PW.pt (gm (aO (dO hr) dP (df (ao aF aJ (df (dv 2)) (df ag))) (df bj) (aE _)) (gJ (aO (fM hr.units) fN (df (ao aF aJ (df (dv 2)) (df ag))) (df (dv 1)) (aE _)))))
    case' I=>refine' ax ?J
    case J=>exact(bb (dv 2))
   case D=>refine' ax Lc
  case B=>
  clear hr T;walk_at "d";refine⟨λi δ=>(∀x∈ay (xs.take i),x.nm≠c.nm)/\∃o2,δ=[some (Sl.v (.tuple (xs.map De.enc))),some (Sl.v (.str c.nm)),o2],⟨by simp [ay],_,rfl⟩,?_,?_⟩
  ·rintro i z δ hz ⟨hn,o2,rfl⟩;rw [Rt] at hz;cases hz':xs[i]? with
   | none=>rw [hz'] at hz;cases hz
   | some x=>
    rw [hz'] at hz;cases hz;have hx:=RN hz';cases x with
    | pap p=>
     simp only [De.enc,Pp.enc];walk_at "d";refine⟨c7.mpr (gd.nm _ hx),c7.mpr (gd.gp.nm c hc),?_⟩;split
     ·rename_i h;have e:=NH gd.gp.nd (NI.mpr hx) hc (eq_of_beq h);subst e;exact q
     ·rename_i h;refine⟨λy hy=>?_,_,rfl⟩;rw [R4,hz'] at hy;unfold ay at hy;rw [VM] at hy;rcases Ry.mp hy with z | z
      ·exact hn y z
      ·have:y=p:=by simpa [De.pp] using z
       rw [this];exact λe=>h (by rw [e];exact beq_self_eq_true _)
    | oth w d nm r=>
     simp only [De.enc];walk_at "d";rw [bV (gd.np w d nm r hx),Yo Rl];refine⟨λy hy=>?_,_,rfl⟩;rw [R4,hz'] at hy;unfold ay at hy;rw [VM] at hy;rcases Ry.mp hy with z | z
     ·exact hn y z
     ·simp [De.pp] at z
  ·rintro δ ⟨hn,o2,rfl⟩;rw [Q8,RM (Rf _)] at hn;exact absurd rfl (hn c hc)
def F_M:List Ys->(Ys->Prop)->Prop:=λds Q=>∃xs:List De,ds=[.tuple (xs.map De.enc)]/\gL xs/\Q (.tuple (((bB (ay xs)).map (·.nm)).map .str))
theorem AB(T:Txt K mg t):aB P w K mg base CX0 5 t.a_M t.d_M ["deeds"] (aU K F_M):=by
 have G_K:=@Az P w _ _ base _ T;refine T.F_M.F.okD M8 (λds Q h=>?_) (λ_ _ _ _ H O ds Q E hr h=>?_)
 ·obtain⟨ps,rfl,_⟩:=h;rfl
 ·obtain⟨xs,rfl,gd,q⟩:=h;refine'⟨_,?A,?B⟩
  case A=>
   refine' ax ?C
   case' C=>refine' bb ?D
   case D=>exact(PE.imp (dZ gS rfl T.n_tuple gT (bz (df (fe (fh rfl Fm (df (PE.imp (aD G_K (hr.mono Ym) rfl T.F_K (aa (dv 0) aj)) aK)) aL bS Ym (λ_ _ _ _=>(aI (i:=0) Fm.nd rfl Yq)) (λ_ _ _ _=>eU) (λ_ _ _ _=>(ao aF aJ (df (dv 0)) (df ag)))))) bG)) (cf ia))
  case B=>
  clear hr T G_K;walk_at "d";refine⟨xs,.inr rfl,gd,_,rfl,by rw [Q8,jD];have:=gd.gp.ln;omega,cT (λ_=>true) (λp:Pp=>.str p.nm) (λx hx R S h=>?_) ?_⟩
  ·simp only [Pp.enc];walk_at "d";rw [Yp rfl] at h;exact h
  ·rw [ik];rw [RB] at q;exact q
def NP:List Ys->(Ys->Prop)->Prop:=λds Q=>∃(xs:List De)(c:Pp),ds=[.tuple (xs.map De.enc),c.enc]/\gL xs/\c∈ay xs/\Q (.list ((dB (ay xs) c).map Pp.enc))
theorem Ft(T:Txt K mg t):aB P w K mg base CX0 5 t.a_N t.d_N ["deeds","coming"] (aU K NP):=by
 have G_K:=@Az P w _ _ base _ T;have G_J:=@Ay P w _ _ base _ T;refine T.F_N.F.okD EL (λds Q h=>?_) (λ_ _ _ _ H O ds Q E hr h=>?_)
 ·obtain⟨ps,c,rfl,_⟩:=h;rfl
 ·obtain⟨xs,c,rfl,gd,hc,q⟩:=h;refine'⟨_,?A,?B⟩
  case A=>
   refine' aq ?C ?D
   case C=>exact(lI (i:=2) EL.nd rfl Yq (oK rfl Fo (df (dv 0)) aL bS Ym (λ_ _ _ _=>(aI (i:=0) Fo.nd rfl Yq)) (λ_ _ _ _=>(d7 (PW.pt (gm (aO (dO hr) dP (df (ao aF aJ (df (dv 0)) (df ag))) (df bj) (aE _)) (gJ (aO (tH hr) ny (df (ao aF aJ (df (dv 0)) (df ag))) (df (ao aF aJ (df (dv 1)) (df ag))) rfl)))))) (λ_ _ _ _=>(dv 0))))
   case' D=>refine' ax ?E
   case' E=>refine' bb ?F
   case F=>exact(PE.imp (aD G_K (hr.mono Ym) rfl T.F_K (aa (fe (fh rfl Fp (df (dv 2)) aL bS Ym (λ_ _ _ _=>(aI (i:=0) Fp.nd rfl Yq)) (λ_ _ _ _=>(d7 (aO (LV hr.units0) LW (df (PE.imp (aD G_J (hr.mono Ym) rfl T.F_J (aa (dv 0) aj)) aK)) (df (PE.imp (aD G_J (hr.mono Ym) rfl T.F_J (aa (dv 1) aj)) aK)) (aE _)))) (λ_ _ _ _=>(dv 0)))) aj)) aK)
  case B=>
  clear hr T G_K G_J;have ln:=gd.ln;have pl:=gd.gp.ln;obtain⟨hm1,hm2⟩:=gd.gp.ms c hc;walk_at "d";refine⟨by rw [Q8];omega,cT (jF λp=>c.ms.contains p.nm) De.enc (λx hx R S h=>?_) ?_⟩
  ·cases x with
   | pap p=>
    simp only [De.enc,Pp.enc];walk_at "d";refine⟨c7.mpr (gd.nm _ hx),NM hm1,?_⟩;rw [NL];exact h
   | oth w d nm r=>
    simp only [De.enc];walk_at "d";rw [bV (gd.np w d nm r hx),Yo Rl];rw [Yo (show ¬jF _ (.oth w d nm r)=true from Rl)] at h;exact h
  ·rw [rM];have fl:=R1 (λp:Pp=>c.ms.contains p.nm) (ay xs);refine⟨by rw [Q8];omega,cT (λp=>aP p.key c.key) Pp.enc (λx hx R S h=>?_) ?_⟩
   ·walk_at "d";exact⟨.pap x,rfl,.pap c,rfl,x.key,rfl,c.key,rfl,h⟩
   ·rw [NJ];refine⟨_,.inl rfl,gL.of ((gd.gp.filter _).filter _),?_⟩;rw [Fj,Fi (Aw gd.gp.nd),Fi gd.gp.nd,List.filter_filter];have e:(bB (ay xs)).filter (λa=>aP a.key c.key && c.ms.contains a.nm)=dB (ay xs) c:=by
     unfold dB qi;congr 1;funext a;rw [X6]
    rw [e];exact q
theorem AD{ps:List Pp}{c:Pp}(g:ij ps):(dB ps c).length<=41:=by
 unfold dB;have h1:=R1 (qi c) (bB ps);have h2:=jD (ps:=ps);have h3:=g.ln;omega
def F_O:List Ys->(Ys->Prop)->Prop:=λds Q=>∃(xs:List De)(c:Pp),ds=[.tuple (xs.map De.enc),.str c.nm]/\gL xs/\c∈ay xs/\Q (.tuple (((dB (ay xs) c).map (·.nm)).map .str))
theorem NQ(T:Txt K mg t):aB P w K mg base CX0 6 t.a_O t.d_O ["deeds","paper"] (aU K F_O):=by
 have G_N:=@Ft P w _ _ base _ T;have G_L:=@AA P w _ _ base _ T;refine T.F_O.F.okD M9 (λds Q h=>?_) (λ_ _ _ _ H O ds Q E hr h=>?_)
 ·obtain⟨ps,c,rfl,_⟩:=h;rfl
 ·obtain⟨xs,c,rfl,gd,hc,q⟩:=h;refine'⟨_,?A,?B⟩
  case A=>
   refine' ax ?C
   case' C=>refine' bb ?D
   case D=>exact(PE.imp (dZ gS rfl T.n_tuple gT (bz (df (fe (fh rfl Fq (df (PE.imp (aD G_N (hr.mono Ym) rfl T.F_N (aa (dv 0) (aa (PE.imp (aD G_L (hr.mono Ym) rfl T.F_L (aa (dv 0) (aa (dv 1) aj))) aK) aj))) aK)) aL bS Ym (λ_ _ _ _=>(aI (i:=0) Fq.nd rfl Yq)) (λ_ _ _ _=>eU) (λ_ _ _ _=>(ao aF aJ (df (dv 0)) (df ag)))))) bG)) (cf ia))
  case B=>
  clear hr T G_N G_L;walk_at "d";refine⟨xs,c,rfl,gd,hc,xs,c,rfl,gd,hc,⟨_,rfl,by rw [Q8];have:=AD (c:=c) gd.gp;omega,cT (λ_=>true) (λp:Pp=>.str p.nm) (λx hx R S h=>?_) ?_⟩⟩
  ·simp only [Pp.enc];walk_at "d";rw [Yp rfl] at h;exact h
  ·rw [ik];rw [RB] at q;exact q
end
local macro_rules | `(tactic| walk_at "e") =>rzT (rzS++" Sl.i.injEq exists_and_left")
theorem Fv:aZ (av uj) ["self","deeds","name","coming"] ["deed","name"] 1 [2] ⟨Ri,[ (Q9 ".0",Z9),(Q9 "deed",Z9),(Q9 "name",RA)],false,false,[]⟩:=⟨rfl,cp,cp,cp,rfl,cp,cp,cp,rfl⟩
theorem AE:aZ (av uB) ["paper","happening"] ["day","other","happening"] 2 [1] ⟨Ri,[ (Q9 ".0",Z9),(Q9 "day",Z9),(Q9 "other",Z9),(Q9 "happening",RA)],false,false,[]⟩:=⟨rfl,cp,cp,cp,rfl,cp,cp,cp,rfl⟩
section
variable {P:YE} {w:YF} {K:Q7} {mg:Str->Option Yt} {base:YG} {t:cF}
inductive cj where
 | com
 | fst (wd:Str)
 | lst (wd:Str)
def cj.enc:cj->Ys
 | .com=>.tuple [.str (Q6 "coming")]
 | .fst wd=>.tuple [.str (Q6 "first"),.str wd]
 | .lst wd=>.tuple [.str (Q6 "last"),.str wd]
def cj.Ok:cj->Prop
 | .com=>True
 | .fst wd=>Rz wd=true
 | .lst wd=>Rz wd=true
inductive Pt where
 | two (w kd:Str)
 | five (w kd:Str) (s:cj) (k:Int) (u:Str)
def Pt.enc:Pt->Ys
 | .two w kd=>.tuple [.str w,.str kd]
 | .five w kd s k u=>.tuple [.str w,.str kd,s.enc,.int k,.str u]
def KG(w:Str):Prop:=w=Q6 "keep"\/w=Q6 "gone"
def Pt.Ok:Pt->Prop
 | .two w kd=>¬KG w/\Rz w=true/\Rz kd=true
 | .five w kd s k u=>KG w/\Rz kd=true/\s.Ok/\0<=k/\k < 1000/\mG u
def De.isR:De->Bool
 | .oth w _ _ _=>w==Q6 "rule"
 | _=>false
def De.isE:De->Bool
 | .oth w _ _ _=>w==Q6 "rule" || w==Q6 "end"
 | _=>false
structure gM (xs:List De):Prop where
 gx:gL xs
 hp:∀d nm r,De.oth (Q6 "happens") d nm r∈xs->∃wd,r=[.str wd]/\Rz wd=true
 ru:∀d nm r,De.oth (Q6 "rule") d nm r∈xs->∃pt:Pt,r=[pt.enc]/\pt.Ok
 nd:xs.Nodup
 d0:∀x∈xs,0<=x.d/\x.d < 100000
 re:∀x∈xs,∀y∈xs,x.isE=true->y.isE=true->x.d=y.d->x.nm=y.nm->x=y
def mJ(nm:Str):De->Bool
 | .oth w _ n _=>w==Q6 "happens" && n==nm
 | _=>false
def AF:De->Int×Str
 | .oth _ d _ [.str wd]=>(d,wd)
 | x=>(x.d,Q6 "")
def fo(xs:List De)(nm:Str):List (Int×Str):=(xs.filter (mJ nm)).map AF
theorem NR{xs:List De}(g:gM xs)(nm:Str):(fo xs nm).Nodup:=by
 unfold fo;rw [VW,SD];refine List.Pairwise.imp_of_mem (λ{a b} ha hb h e=>?_) (g.nd.sublist Vh);obtain⟨a1,a2⟩:=RK.mp ha;obtain⟨b1,b2⟩:=RK.mp hb;cases a with
 | pap p=>cases a2
 | oth w d n r=>
  cases b with
  | pap p=>cases b2
  | oth w' d' n' r'=>
   simp only [mJ,Si,beq_iff_eq] at a2 b2;obtain⟨rfl,rfl⟩:=a2;obtain⟨rfl,rfl⟩:=b2;obtain⟨wd,rfl,_⟩:=g.hp _ _ _ a1;obtain⟨wd',rfl,_⟩:=g.hp _ _ _ b1;simp only [AF,VE] at e;exact h (by rw [e.1,e.2])
structure Rp where
 c:Pp
 ts:List Str
 hs:List (Int×Str)
def Rp.enc(C:Yu)(r:Rp):Ys:=DV C [(Q6 "name",.str r.c.nm),(Q6 "coming",.int r.c.d),(Q6 "kind",.str r.c.kd),(Q6 "makers",.tuple (r.ts.map .str)),(Q6 "happenings",.list (r.hs.map cE))]
open Classical in
def i4(l:List (Int×Str)):List (Int×Str):=if h:∃s:List (Int×Str),s.Perm l/\s.Pairwise (λa b=>aP a b=true) then h.choose else []
theorem AG{s l:List (Int×Str)}(h1:s.Perm l)(h2:s.Pairwise λa b=>aP a b=true):s=i4 l:=by
 unfold i4;have h:∃s:List (Int×Str),s.Perm l/\s.Pairwise (λa b=>aP a b=true):=⟨s,h1,h2⟩;rw [dif_pos h];exact mH (λa b z=>uT z) (h1.trans h.choose_spec.1.symm) h2 h.choose_spec.2
theorem NS{l l':List (Int×Str)}(p:l.Perm l'):i4 l=i4 l':=by
 by_cases h:∃s:List (Int×Str),s.Perm l/\s.Pairwise (λa b=>aP a b=true)
 ·obtain⟨s,h1,h2⟩:=h;rw [<-AG h1 h2,<-AG (h1.trans p) h2]
 ·have h':¬ ∃s:List (Int×Str),s.Perm l'/\s.Pairwise (λa b=>aP a b=true):=λ⟨s,h1,h2⟩=>h ⟨s,h1.trans p.symm,h2⟩;unfold i4;rw [dif_neg h,dif_neg h']
def bL(xs:List De)(c:Pp):Rp:=⟨c,(dB (ay xs) c).map (·.nm),i4 (fo xs c.nm)⟩
theorem jG{f g:Str}{d x:Ys}{r:List (Str×Ys)}(h:g≠f):dU f d ((g,x)::r)=(g,x)::dU f d r:=by rw [dU,Yo h]
theorem NT{a b:Ys}:dU (Q6 "coming") b (dU (Q6 "name") a [])=[(Q6 "name",a),(Q6 "coming",b)]:=by
 rw [show dU (Q6 "name") a []=[(Q6 "name",a)] from rfl,jG cp];rfl
theorem NU{a b c:Ys}:dU (Q6 "kind") c [(Q6 "name",a),(Q6 "coming",b)]=[(Q6 "name",a),(Q6 "coming",b),(Q6 "kind",c)]:=by
 rw [jG cp,jG cp];rfl
theorem NV{a b c d:Ys}:dU (Q6 "makers") d [(Q6 "name",a),(Q6 "coming",b),(Q6 "kind",c)]=[(Q6 "name",a),(Q6 "coming",b),(Q6 "kind",c),(Q6 "makers",d)]:=by
 rw [jG cp,jG cp,jG cp];rfl
theorem NW{a b c d e:Ys}:dU (Q6 "happenings") e [(Q6 "name",a),(Q6 "coming",b),(Q6 "kind",c),(Q6 "makers",d)]=[(Q6 "name",a),(Q6 "coming",b),(Q6 "kind",c),(Q6 "makers",d),(Q6 "happenings",e)]:=by
 rw [jG cp,jG cp,jG cp,jG cp];rfl
def NY(C:Yu):List Ys->(Ys->Prop)->Prop:=λds Q=>∃(xs:List De)(c:Pp),ds=[.tuple (xs.map De.enc),.str c.nm]/\gM xs/\c∈ay xs/\((∀z,z∈i4 (fo xs c.nm)↔z∈fo xs c.nm)->(i4 (fo xs c.nm)).Pairwise (λa b=>aP a b=true)->(i4 (fo xs c.nm)).length<=41->Q ((bL xs c).enc C))
theorem Fw(T:Txt K mg t):aB P w K mg base CX0 7 t.a_I t.d_I ["self","deeds","name"] (rB K t.u_Paper (NY t.u_Paper)):=by
 have G_L:=@AA P w _ _ base _ T;have G_O:=@NQ P w _ _ base _ T;refine T.F_I.F.okI EJ (λds Q h=>?_) (λcdv A outer s H H1 O ds Q E l hr h=>?_)
 ·obtain⟨xs,c,rfl,_⟩:=h;rfl
 ·obtain⟨xs,c,rfl,gd,hc,q⟩:=h;refine'⟨_,?A,?B⟩
  case A=>
   refine' aq ?C ?D
   case C=>exact(bo (i:=3) EJ.nd rfl Yq (PE.imp (aD G_L (hr.mono Ym) rfl T.F_L (aa (dv 1) (aa (dv 2) aj))) aK))
   case' D=>refine' aq ?E ?F
   case E=>exact(fP (C:=t.u_Paper) (i:=0) T.cl_Paper T.na_Paper_name (pv 0) (ao aF aJ (df (dv 3)) (df ag)))
   case' F=>refine' aq ?G ?H
   case G=>exact(fP (C:=t.u_Paper) (i:=0) T.cl_Paper T.na_Paper_coming (pv 0) (ao aF aJ (df (dv 3)) (df ag)))
   case' H=>refine' aq ?I ?J
   case I=>exact(fP (C:=t.u_Paper) (i:=0) T.cl_Paper T.na_Paper_kind (pv 0) (ao aF aJ (df (dv 3)) (df ag)))
   case' J=>refine' aq ?K ?L
   case K=>exact(fP (C:=t.u_Paper) (i:=0) T.cl_Paper T.na_Paper_makers (pv 0) (PE.imp (aD G_O (hr.mono Ym) rfl T.F_O (aa (dv 1) (aa (dv 2) aj))) aK))
   case' L=>refine' ax ?M
   case M=>exact(fP (C:=t.u_Paper) (i:=0) T.cl_Paper T.na_Paper_happenings (pv 0) (fe (LS rfl T.n_sorted S7 (bz (df (fe (kQ rfl Fv (df (dv 1)) aL bS Ym (λ_ _ _ _=>(aI (i:=0) Fv.nd rfl Yq)) (λ_ _ _ _=>(d7 (PW.pt (gm (aO (dO hr) dP (df (ao aF aJ (df (dv 0)) (df ag))) (df bj) (aE _)) (gJ (aO (fM hr.units) fN (df (ao aF aJ (df (dv 0)) (df ag))) (df (dv 1)) (aE _))))))) (λ_ _ _ _=>(bF (aa (ao aF aJ (df (dv 0)) (df ag)) (aa (ao aF aJ (df (dv 0)) (df ag)) aj))))))) bG))))
  case B=>
  clear hr T G_L G_O;simp only [tS,fC,Rb,RX,Sz,Sy,V2,Rq,R8,S0,S4,RR];walk_at "e";refine⟨xs,c,rfl,gd.gx,hc,?_⟩;simp only [Pp.enc];walk_at "e";simp only [NT,NU,NV,NW];have ln:=gd.gx.ln;have lt:∀n:Nat,n < 10->n < 1000:=λn h=>by omega
  refine⟨lt 1 Ym,lt 2 Ym,xs,c,rfl,gd.gx,hc,⟨lt 3 Ym,by rw [Q8];omega,jE (mJ c.nm) (λx=>cE (AF x)) (λx hx R S h1 h0=>?_) ?_⟩⟩
  ·cases x with
   | pap p=>
    simp only [De.enc,Pp.enc];walk_at "d";exact h0 rfl
   | oth w d nm r=>
    simp only [De.enc];walk_at "d";by_cases e:w=Q6 "happens"
    ·subst e;obtain⟨wd,rfl,_⟩:=gd.hp _ _ _ hx;rw [Yp (beq_self_eq_true _)];refine⟨c7.mpr (gd.gx.nm _ hx),c7.mpr (gd.gx.gp.nm c hc),?_⟩;split
     ·rename_i h2;exact⟨_,gy,h1 (by simp only [mJ,beq_self_eq_true,SV];exact h2)⟩
     ·rename_i h2;exact h0 (by simp only [mJ,beq_self_eq_true,SV];simpa using h2)
    ·rw [bV e,Yo Rl];exact h0 (by simp only [mJ,bV e,UZ])
  ·have hl:(fo xs c.nm).length<=41:=by
    unfold fo;rw [Q8];have:=R1 (mJ c.nm) xs;omega
   refine⟨fo xs c.nm,by unfold fo;rw [RB];rfl,Yn,NR gd c.nm,λhs h1 h2=>⟨lt 4 Ym,?_⟩⟩;have e:=AG h1 h2;have q:=q (λz=>by rw [<-e];exact h1.mem_iff) (by rw [<-e];exact h2) (by rw [<-e,h1.length_eq];exact hl);rw [e];exact q
def rN(hs:List (Int×Str)):Prop:=hs.length<=41/\∀z∈hs,Rz z.2=true
def i5(hs:List (Int×Str))(wd:Str):List Int:=(hs.filter λz=>z.2==wd).map (·.1)
def F_W(C:Yu):List Ys->(Ys->Prop)->Prop:=λds Q=>∃(r:Rp)(wd:Str),ds=[r.enc C,.str wd]/\rN r.hs/\Rz wd=true/\Q (.list ((i5 r.hs wd).map .int))
theorem NZ{a b c d e:Ys}:aV [Q6 "name",Q6 "coming",Q6 "kind",Q6 "makers",Q6 "happenings"] [a,b,c,d,e] (Q6 "happenings")=some e:=by
 simp only [aV];rw [Yo cp,Yo cp,Yo cp,Yo cp,Yp trivial]
theorem uU{a b c d e:Ys}:aV [Q6 "name",Q6 "coming",Q6 "kind",Q6 "makers",Q6 "happenings"] [a,b,c,d,e] (Q6 "coming")=some b:=by
 simp only [aV];rw [Yo cp,Yp trivial]
theorem uV{a b c d e:Ys}:aV [Q6 "name",Q6 "coming",Q6 "kind",Q6 "makers",Q6 "happenings"] [a,b,c,d,e] (Q6 "kind")=some c:=by
 simp only [aV];rw [Yo cp,Yo cp,Yp trivial]
theorem Fx(T:Txt K mg t):aB P w K mg base CX0 1 t.a_W t.d_W ["paper","happening"] (aU K (F_W t.u_Paper)):=by
 refine T.F_W.F.okD Nf (λds Q h=>?_) (λ_ _ _ _ H O ds Q E hr h=>?_)
 ·obtain⟨r,wd,rfl,_⟩:=h;rfl
 ·obtain⟨r,wd,rfl,⟨hl,hok⟩,wok,q⟩:=h;refine'⟨_,?A,?B⟩
  case A=>
   refine' ax ?C
   case' C=>refine' bb ?D
   case' D=>refine' fe ?E
   case E=>exact(fh rfl AE (df (cg (C:=t.u_Paper) T.cl_Paper T.na_Paper_happenings (dv 0))) (iQ (cC aL (cC aL iP))) xh Ym (λ_ _ _ _=>(iC (n:=2) rfl (cB (aI (i:=0) AE.nd rfl Yq) (cB (aI (i:=1) AE.nd rfl Yq) iB)))) (λ_ _ _ _=>(d7 (aO (fM hr.units) fN (df (dv 1)) (df (dv 2)) (aE _)))) (λ_ _ _ _=>(dv 0)))
  case B=>
  clear hr T;walk_at "d";refine⟨[Q6 "name",Q6 "coming",Q6 "kind",Q6 "makers",Q6 "happenings"],_,rfl,_,NZ,_,rfl,by rw [Q8];omega,cT (λz:Int×Str=>z.2==wd) (λz=>.int z.1) (λx hx R S h=>?_) ?_⟩
  ·simp only [cE];walk_at "d";exact⟨c7.mpr (hok x hx),c7.mpr wok,h⟩
  ·unfold i5 at q;rw [RB] at q;exact q
end
theorem Fy:aZ (av uu) ["deeds","words","day","found","deed","known"] ["name","found"] 1 [3] ⟨Ri,[ (Q9 ".0",Z9),(Q9 "name",Z9),(Q9 "found",RA)],false,false,[]⟩:=⟨rfl,cp,cp,cp,rfl,cp,cp,cp,rfl⟩
section
variable {P:YE} {w:YF} {K:Q7} {mg:Str->Option Yt} {base:YG} {t:cF}
def F_Q:List Ys->(Ys->Prop)->Prop:=λds Q=>∃(xs:List Rw)(ws:List Str)(n:Int),ds=[.tuple (xs.map Rw.enc),.tuple (ws.map .str),.int n]/\(∀x∈xs,Rz x.w=true)/\SQ (ws.map .str)=true/\xs.length < 64/\∀res,dA ws n xs res->Q (.list (res.map Rw.enc))
theorem uW{ws:List Str}{w:Str}:((ws.map Ra).any λd=>RC d (.str w))=decide (w∈ws):=by
 induction ws with
 | nil=>simp
 | cons a ws ih=>
  rw [Rb,SA,ih,eV];by_cases h:a=w
  ·simp [h]
  ·have h':(a==w)=false:=by simpa using h
   rw [h'];simp [Ne.symm h]
theorem Fz(T:Txt K mg t):aB P w K mg base CX0 1 t.a_Q t.d_Q ["deeds","words","day"] (aU K F_Q):=by
 refine T.F_Q.F.okD uP (λds Q h=>?_) (λ_ _ _ _ H O ds Q E hr h=>?_)
 ·obtain⟨xs,ws,n,rfl,_⟩:=h;rfl
 ·obtain⟨xs,ws,n,rfl,hw,hws,h64,q⟩:=h;refine'⟨_,?A,?B⟩
  case A=>
   refine' aq ?C ?D
   case C=>exact(q5 (i:=3) uP.nd rfl Yq tJ)
   case' D=>refine' aq ?E ?F
   case E=>
    refine' pK RU rfl (dv 0) ?G aL ?H
    case G=>exact(aI (i:=4) uP.nd rfl Yq)
    case' H=>refine' ax ?I
    case' I=>refine' bR ?J ?K bQ
    case J=>exact(PW.pt (gm (aO (tH hr) ny (df (ao aF aJ (df (dv 4)) (df ag))) (df (dv 1)) rfl) (gJ (aO iG cq (df (ao aF aJ (df (dv 4)) (df ag))) (df (dv 2)) (aE _)))))
    case' K=>refine' aq ?L ?M
    case L=>exact(bo (i:=5) uP.nd rfl Yq (Ld (i:=3) hr.units (pv 3) (ao aF aJ (df (dv 4)) (df ag)) ⟨rfl,rfl,rfl,rfl⟩))
    case' M=>refine' ax ?N
    case' N=>refine' bR ?O ?P bQ
    case O=>exact(PW.pt (qQ (aO kq lY (df (dv 5)) (df eO) (aE _)) (qP (aO mT cq (df (ao aF aJ (df (dv 5)) (df ag))) (df (ao aF aJ (df (dv 4)) (df ag))) (aE _)))))
    case' P=>refine' ax ?Q
    case Q=>exact(tK (i:=3) hr.units (pv 3) (ao aF aJ (df (dv 4)) (df ag)) (dv 4))
   case' F=>refine' ax ?R
   case' R=>refine' bb ?S
   case' S=>refine' fe ?T
   case T=>exact(fh rfl Fy (df (fe (Df (i:=3) rfl rfl T.n_sorted S7 (pv 3)))) aL bS Ym (λ_ _ _ _=>(aI (i:=0) Fy.nd rfl Yq)) (λ_ _ _ _=>eU) (λ_ _ _ _=>(wR (i:=1) hr.units (pv 1) (dv 0) (λ_ _=>rfl))))
  case B=>
  clear hr T;walk_at "d";refine⟨λi δ=>∃L o4 o5,dj ws n (xs.take i) L/\δ=[some (Sl.v (.tuple (xs.map Rw.enc))),some (Sl.v (.tuple (ws.map .str))),some (Sl.v (.int n)),some (Sl.k (fF L)),o4,o5],⟨[],_,_,dj.nil _ _,rfl⟩,?_,?_⟩
  ·rintro i x δ hx ⟨L,o4,o5,hL,rfl⟩;rw [Rt] at hx;cases hx':xs[i]? with
   | none=>rw [hx'] at hx;cases hx
   | some y=>
    rw [hx'] at hx;cases hx;have hy:y∈xs:=RN hx';have tk:xs.take (i+1)=xs.take i++[y]:=by rw [R4,hx'];rfl
    simp only [Rw.enc];walk_at "d";have hle:L.length < 64:=by have:=hL.le;rw [Sg] at this;omega
    have hk:(fF L).length < 16777216:=by unfold fF;rw [Q8];omega
    have en:RV (Ra y.w::Rg y.n::Ra y.nm::y.r)=y.enc:=rfl;refine⟨c7.mpr (hw y hy),hws,?_⟩;rw [uW];by_cases hin:y.w∈ws
    ·rw [Yp (decide_eq_true hin)];by_cases hn:y.n<=n
     ·rw [Yp hn,rg,en];cases hl:di L y.nm with
      | none=>
       rw [Yp (show dQ ((Option.map Rw.enc none).getD Tq)=true from rfl)];exact⟨hk,_,by rw [tk];exact hL.put ⟨hin,hn⟩ (λz e=>by rw [hl] at e;cases e),tM L y.nm y,_,rfl⟩
      | some z=>
       rw [Yo (by simp [dQ,Rw.enc])];refine⟨_,rfl,_,fD,_,rfl,?_⟩;split
       ·rename_i hlt;exact⟨hk,_,by rw [tk];exact hL.put ⟨hin,hn⟩ (λz' e=>by rw [hl] at e;cases e;exact hlt),tM L y.nm y,_,rfl⟩
       ·rename_i hlt;exact⟨L,by rw [tk];exact hL.keep hl hlt,rfl,_,rfl⟩
     ·rw [Yo hn];exact⟨L,by rw [tk];exact hL.skip (λz=>hn z.2),rfl,_,rfl⟩
    ·rw [Yo (by simpa using hin)];exact⟨L,by rw [tk];exact hL.skip (λz=>hin z.1),rfl,_,rfl⟩
  ·rintro δ ⟨L,o4,o5,hL,rfl⟩;walk_at "d";rw [Q8,RM (Rf _)] at hL;have hle:L.length < 64:=by have:=hL.le;omega
   refine⟨L.map (·.1),by unfold fF;rw [RB,RB];rfl,by rw [Q8];exact hle,by rw [Q8,(j3 _).length_eq,Q8];omega,?_⟩;refine C7 (λx=>match x with | .str nm=>((di L nm).map Rw.enc).getD .none | _=>.none) (λx hx R hR=>?_) ?_
   ·obtain⟨nm,hnm,rfl⟩:=Rj.mp hx;obtain⟨z,hz⟩:=wU ((j3 _).mem_iff.mp hnm);walk_at "d";refine⟨z.enc,by rw [rg,hz];rfl,?_⟩;have hR:R (((di L nm).map Rw.enc).getD .none):=hR;rw [hz] at hR;exact hR
   ·have e:∀l:List Str,(∀a∈l,a∈L.map (·.1))->(l.map Ra).map (λx=>match x with | .str nm=>((di L nm).map Rw.enc).getD .none | _=>.none)=(l.filterMap (di L)).map Rw.enc:=by
     intro l
     induction l with
     | nil=>intro _;rfl
     | cons a l ih=>
      intro hl;obtain⟨z,hz⟩:=wU (hl a Yr);rw [Rb,Rb,Sr,hz,ih λb hb=>hl b (by simp [hb])];simp [hz]
    rw [e _ λa ha=>(j3 _).mem_iff.mp ha];exact q _ hL.res
end
theorem FA:aZ (av uw) ["deeds","day"] ["deed"] 1 [] ⟨Ri,[(Q9 ".0",Z9),(Q9 "deed",Z9)],false,false,[]⟩:=⟨rfl,cp,cp,cp,rfl,cp,cp,cp,rfl⟩
section
variable {P:YE} {w:YF} {K:Q7} {mg:Str->Option Yt} {base:YG} {t:cF}
def iq:List Str:=["rule","end"]
def kg(res:List Rw):List Ys:=(res.filter λx=>x.w==Q6 "rule").map λx=>.tuple [.str x.nm,x.r.headD .none]
structure FC (xs:List Rw):Prop where
 st:∀x∈xs,Rz x.w=true
 ru:∀x∈xs,x.w=Q6 "rule"->∃p,x.r=[p]
 le:xs.length < 64
def N0:List Ys->(Ys->Prop)->Prop:=λds Q=>∃(xs:List Rw)(n:Int),ds=[.tuple (xs.map Rw.enc),.int n]/\FC xs/\∀res,dA iq n xs res->Q (.tuple (kg res))
theorem N1(T:Txt K mg t):aB P w K mg base CX0 2 t.a_R t.d_R ["deeds","day"] (aU K N0):=by
 have G_Q:=@Fz P w _ _ base _ T;refine T.F_R.F.okD Na (λds Q h=>?_) (λ_ _ _ _ H O ds Q E hr h=>?_)
 ·obtain⟨xs,n,rfl,_⟩:=h;rfl
 ·obtain⟨xs,n,rfl,ok,q⟩:=h;refine'⟨_,?A,?B⟩
  case A=>
   refine' ax ?C
   case' C=>generalize hG2:WE _ _ _ _=eg2
   refine' bb ?D
   case' D=>subst hG2
   exact(PE.imp (dZ gS rfl T.n_tuple gT (bz (df (fe (fh rfl FA (df (PE.imp (aD G_Q (hr.mono Ym) rfl T.F_Q (aa (dv 0) (aa (bF (aa bj (aa bj aj))) (aa (dv 1) aj)))) aK)) aL bS Ym (λ_ _ _ _=>(aI (i:=0) FA.nd rfl Yq)) (λ_ _ _ _=>(d7 (aO (dO hr) dP (df (ao aF aJ (df (dv 0)) (df ag))) (df bj) (aE _)))) (λ_ _ _ _=>(bF (aa (ao aF aJ (df (dv 0)) (df ag)) (aa (ao aF aJ (df (dv 0)) (df ag)) aj))))))) bG)) (cf ia))
  case B=>
  clear hr T G_Q;walk_at "d";refine⟨xs,iq,n,rfl,ok.st,cp,ok.le,λres hres=>⟨_,rfl,?_,?_⟩⟩
  ·rw [Q8];have:=hres.le;have:=ok.le;omega
  refine K6 (λx=>match x with | .tuple (.str w:: .int n:: .str nm::r)=>if (w==Q6 "rule")=true then some (.tuple [.str nm,r.headD .none]) else none | _=>none) (λx hx R S h=>?_) ?_
  ·obtain⟨y,hy,rfl⟩:=Rj.mp hx;simp only [Rw.enc] at h⊢;walk_at "d";by_cases hr:(y.w==Q6 "rule")=true
   ·rw [Yp hr] at h⊢;obtain⟨p,hp⟩:=ok.ru y (hres.it y hy).1 (eq_of_beq hr);rw [hp] at h⊢;exact⟨p,gy,h⟩
   ·rw [Yo hr] at h⊢;exact h
  ·have e:∀l:List Rw,(l.map Rw.enc).filterMap (λx=>match x with | .tuple (.str w:: .int n:: .str nm::r)=>if (w==Q6 "rule")=true then some (.tuple [.str nm,r.headD .none]) else none | _=>none)=kg l:=by
    intro l
    induction l with
    | nil=>rfl
    | cons a l ih=>
     rw [Rb,Sr,ih];unfold kg;simp only [Rw.enc,So];by_cases hr:(a.w==Q6 "rule")=true
     ·rw [Yp hr,Yp hr];rfl
     ·rw [Yo hr,Yo hr]
   rw [e];exact q res hres
theorem FD{s s':cj}(h:s.enc=s'.enc):s=s':=by
 have n1:Q6 "first"≠Q6 "last":=cp
 cases s <;> cases s' <;> simp only [cj.enc,SI,RZ,SJ,and_true,reduceCtorEq,and_false] at h
 ·rfl
 ·rw [h.2]
 ·exact absurd h.1 n1
 ·exact absurd h.1.symm n1
 ·rw [h.2]
theorem uX{a b:Pt}(h:a.enc=b.enc):a=b:=by
 cases a <;> cases b <;> simp only [Pt.enc,SI,RZ,SJ,SX,and_true,reduceCtorEq,and_false] at h
 ·rw [h.1,h.2]
 ·obtain⟨h1,h2,h3,h4,h5⟩:=h;rw [h1,h2,FD h3,h4,h5]
theorem FF{α β:Type}{f:α->β}:∀{l:List α},(l.map f).Nodup->∀{a b:α},a∈l->b∈l->f a=f b->a=b
 | x::l,nd,a,b,ha,hb,e=>by
  rw [Rb,Ss] at nd;rcases Rh.mp ha with ea | ha1 <;> rcases Rh.mp hb with eb | hb1
  ·rw [ea,eb]
  ·subst ea;exact absurd (Rj.mpr ⟨b,hb1,e.symm⟩) nd.1
  ·subst eb;exact absurd (Rj.mpr ⟨a,ha1,e⟩) nd.1
  ·exact FF nd.2 ha1 hb1 e
def De.rw:De->Rw
 | .pap p=>⟨Q6 "paper",p.d,p.nm,[.str p.kd,.tuple (p.ms.map .str)]⟩
 | .oth w d nm r=>⟨w,d,nm,r⟩
theorem De.rw_enc(x:De):x.rw.enc=x.enc:=by cases x <;> rfl
theorem AH(xs:List De):(xs.map De.rw).map Rw.enc=xs.map De.enc:=by
 rw [RB];congr 1;funext x;exact x.rw_enc
def AI(xs:List De)(n:Int)(z:Str×Pt):Prop:=∃d,d<=n/\De.oth (Q6 "rule") d z.1 [z.2.enc]∈xs/\∀x∈xs,x.isE=true->x.nm=z.1->x.d<=n->x.d<=d
def qj(a b:Str×Pt):Prop:=dM a.1 b.1=true/\a.1≠b.1
def iu(xs:List De)(n:Int)(L:List (Str×Pt)):Prop:=L.Pairwise qj/\∀z,z∈L↔AI xs n z
theorem N2(a b:Str×Pt)(h:qj a b):¬qj b a:=λz=>h.2 (wQ h.1 z.1)
theorem FG{L:List (Str×Pt)}(h:L.Pairwise qj):L.Nodup:=h.imp λ{a b} z e=>z.2 (by rw [e])
theorem N3{L M:List (Str×Pt)}(h1:L.Pairwise qj)(h2:M.Pairwise qj)(h:∀z,z∈L↔z∈M):L=M:=
 mH N2 ((Vf (FG h1) (FG h2)).mpr h) h1 h2
open Classical in
def dD(xs:List De)(n:Int):List (Str×Pt):=if h:∃L,iu xs n L then h.choose else []
theorem uY{xs:List De}{n:Int}{L:List (Str×Pt)}(h:iu xs n L):L=dD xs n:=by
 unfold dD;have e:∃L,iu xs n L:=⟨L,h⟩;rw [dif_pos e];exact N3 h.1 e.choose_spec.1 λz=>(h.2 z).trans (e.choose_spec.2 z).symm
def cN(z:Str×Pt):Ys:= .tuple [.str z.1,z.2.enc]
theorem N4{x:De}(np:x.rw.w∈iq)(hp:∀p,x≠ .pap p):x.isE=true:=by
 cases x with
 | pap p=>exact absurd rfl (hp p)
 | oth w d nm r=>
  have:w=Q6 "rule"\/w=Q6 "end":=by
   have h:w∈iq:=np;unfold iq at h;rcases Rh.mp h with e | h
   ·exact .inl e
   ·rcases Rh.mp h with e | h
    ·exact .inr e
    ·cases h
  rcases this with e | e
  ·simp [De.isE,e]
  ·simp [De.isE,e]
theorem FH{x:De}(h:x.isE=true):x.rw.w∈iq/\x.rw.nm=x.nm/\x.rw.n=x.d:=by
 cases x with
 | pap p=>cases h
 | oth w d nm r=>
  refine⟨?_,rfl,rfl⟩;simp only [De.isE,Ul,beq_iff_eq] at h;show w∈iq;unfold iq;rcases h with e | e
  ·rw [e];exact RD
  ·rw [e];exact Ru _ RD
theorem N5:Q6 "paper" ∉ iq:=cp
theorem FI{xs:List De}{n:Int}{res:List Rw}(g:gM xs)(h:dA iq n (xs.map De.rw) res):∃L,iu xs n L/\kg res=L.map cN:=by
 have from1:∀x∈res,x.w=Q6 "rule"->∃pt:Pt,pt.Ok/\x.r=[pt.enc]/\De.oth (Q6 "rule") x.n x.nm [pt.enc]∈xs:=λx hx hw=>by
  obtain⟨h1,_,_⟩:=h.it x hx;obtain⟨y,hy,rfl⟩:=Rj.mp h1;cases y with
  | pap p=>exact absurd hw (by show Q6 "paper"≠_;decide+kernel)
  | oth w d nm r=>
   have hw:w=Q6 "rule":=hw;subst hw;obtain⟨pt,e,ok⟩:=g.ru _ _ _ hy;subst e;exact⟨pt,ok,rfl,hy⟩
 have pick:∀l:List Rw,(∀x∈l,x∈res)->∃L:List (Str×Pt),kg l=L.map cN/\L.map (·.1)=(l.filter λx=>x.w==Q6 "rule").map (·.nm)/\∀z∈L,∃x∈l,x.w=Q6 "rule"/\x.nm=z.1/\x.r=[z.2.enc]:=by
  intro l
  induction l with
  | nil=>intro _;exact⟨[],rfl,rfl,Yr⟩
  | cons a l ih=>
   intro hl;obtain⟨L,e1,e2,e3⟩:=ih λx hx=>hl x (by simp [hx]);by_cases hr:(a.w==Q6 "rule")=true
   ·obtain⟨pt,_,er,_⟩:=from1 a (hl a Yr) (eq_of_beq hr);refine⟨(a.nm,pt)::L,?_,?_,?_⟩
    ·unfold kg at e1⊢;rw [So,Yp hr,Rb,Rb,e1,er];rfl
    ·rw [So,Yp hr,Rb,Rb,e2]
    ·intro z hz;rcases Rh.mp hz with rfl | hz
     ·exact⟨a,Yr,eq_of_beq hr,rfl,er⟩
     ·obtain⟨x,hx,h'⟩:=e3 z hz;exact⟨x,by simp [hx],h'⟩
   ·refine⟨L,?_,?_,?_⟩
    ·unfold kg at e1⊢;rw [So,Yo hr,e1]
    ·rw [So,Yo hr,e2]
    ·intro z hz;obtain⟨x,hx,h'⟩:=e3 z hz;exact⟨x,by simp [hx],h'⟩
 obtain⟨L,e1,e2,e3⟩:=pick res λ_ h=>h;have key:∀x∈res,∀pt:Pt,x.r=[pt.enc]->x.w=Q6 "rule"->AI xs n (x.nm,pt):=λx hx pt er hw=>by
  obtain⟨pt',_,er',hm⟩:=from1 x hx hw;obtain⟨h1,⟨_,h2⟩,h3⟩:=h.it x hx;rw [er] at er';rw [<-(VF er').1] at hm;refine⟨x.n,h2,hm,λy hy ye yn yd=>?_⟩;obtain⟨a,b,c⟩:=FH ye;have:=h3 y.rw (Rj.mpr ⟨y,hy,rfl⟩) ⟨a,by rw [c];exact yd⟩ (by rw [b];exact yn);rw [c] at this;exact this
 refine⟨L,⟨?_,λz=>⟨λhz=>?_,λhz=>?_⟩⟩,e1⟩
 ·have up:(L.map (·.1)).Pairwise λa b=>dM a b=true:=by
   rw [e2];exact h.up.sublist (Vh.map _)
  have nd:(L.map (·.1)).Nodup:=by
   rw [e2];exact h.nd.sublist (Vh.map _)
  rw [SD] at up;rw [VW,SD] at nd;exact up.and nd
 ·obtain⟨x,hx,hw,hn,hr⟩:=e3 z hz;have:=key x hx z.2 hr hw;rw [hn] at this;exact this
 ·obtain⟨d,hd,hm,hal⟩:=hz;have hmr:(De.oth (Q6 "rule") d z.1 [z.2.enc]).rw∈xs.map De.rw:=Rj.mpr ⟨_,hm,rfl⟩;have hok:dR iq n (De.oth (Q6 "rule") d z.1 [z.2.enc]).rw:=⟨RD,hd⟩;obtain⟨x,hx,xn⟩:=h.al _ hmr hok;have xn:x.nm=z.1:=xn;obtain⟨h1,⟨h2a,h2b⟩,h3⟩:=h.it x hx;obtain⟨y,hy,ey⟩:=Rj.mp h1;have hyE:y.isE=true:=N4 (by rw [ey];exact h2a) λp hp=>by
   rw [hp] at ey;rw [<-ey] at h2a;exact N5 h2a
  obtain⟨_,yb,yc⟩:=FH hyE;have dd:d<=x.n:=h3 _ hmr hok xn.symm;have dd2:x.n<=d:=by
   have:=hal y hy hyE (by rw [<-yb,ey];exact xn) (by rw [<-yc,ey];exact h2b);rw [<-yc,ey] at this;exact this
  have ee:y=De.oth (Q6 "rule") d z.1 [z.2.enc]:=g.re y hy _ hm hyE (by simp [De.isE]) (by rw [<-yc,ey];exact XR dd2 dd) (by rw [<-yb,ey];exact xn);subst ee;have hw:x.w=Q6 "rule":=by rw [<-ey];rfl
  have hr:x.r=[z.2.enc]:=by rw [<-ey];rfl
  have:z.1∈L.map (·.1):=by
   rw [e2];exact Rj.mpr ⟨x,RK.mpr ⟨hx,by rw [hw];exact beq_self_eq_true _⟩,xn⟩
  obtain⟨v,hv,vn⟩:=Rj.mp this;obtain⟨x',hx',hw',hn',hr'⟩:=e3 v hv;have exx:x'=x:=FF h.nd hx' hx (hn'.trans (vn.trans xn.symm));rw [exx,hr] at hr';have:v=z:=by
   obtain⟨v1,v2⟩:=v;obtain⟨z1,z2⟩:=z;have a1:v1=z1:=vn;have a2:z2.enc=v2.enc:=(VF hr').1;rw [a1,uX a2.symm]
  rw [<-this];exact hv
def N6:List Ys->(Ys->Prop)->Prop:=λds Q=>∃(xs:List De)(n:Int),ds=[.tuple (xs.map De.enc),.int n]/\gM xs/\(iu xs n (dD xs n)->(dD xs n).length<=41->Q (.tuple ((dD xs n).map cN)))
theorem FJ{xs:List De}(g:gM xs)(wok:∀w d nm r,De.oth w d nm r∈xs->Rz w=true):FC (xs.map De.rw):=by
 refine⟨λx hx=>?_,λx hx hw=>?_,?_⟩
 ·obtain⟨y,hy,rfl⟩:=Rj.mp hx;cases y with
  | pap p=>show Rz (Q6 "paper")=true;decide+kernel
  | oth w d nm r=>exact wok _ _ _ _ hy
 ·obtain⟨y,hy,rfl⟩:=Rj.mp hx;cases y with
  | pap p=>exact absurd hw (by show Q6 "paper"≠_;decide+kernel)
  | oth w d nm r=>
   have hw:w=Q6 "rule":=hw;subst hw;obtain⟨pt,e,_⟩:=g.ru _ _ _ hy;exact⟨_,e⟩
 ·rw [Q8];have:=g.gx.ln;omega
theorem N7(T:Txt K mg t):aB P w K mg base CX0 2 t.a_R t.d_R ["deeds","day"] (aU K N6):=
 (N1 T).imp λvs H Q E ⟨O,ds,Qd,tr,hs,⟨xs,n,e,g,q⟩,k⟩=>⟨O,ds,Qd,tr,hs,⟨xs.map De.rw,n,by rw [AH];exact e,FJ g (λw d nm r h=>g.gx.w _ h),λres hres=>by
  obtain⟨L,h1,h2⟩:=FI g hres;have e:=uY h1;rw [h2,e];refine q (by rw [<-e];exact h1) ?_;have hl:(kg res).length<=res.length:=by unfold kg;rw [Q8];exact R1 _ _
  have:=hres.le;rw [Q8] at this;rw [h2,Q8,e] at hl;have:=g.gx.ln;omega⟩,k⟩
end
theorem FK:aZ (av uC) ["paper","since","day","days"] ["other","day"] 1 [2] ⟨Ri,[ (Q9 ".0",Z9),(Q9 "other",Z9),(Q9 "day",RA)],false,false,[]⟩:=⟨rfl,cp,cp,cp,rfl,cp,cp,cp,rfl⟩
section
variable {P:YE} {w:YF} {K:Q7} {mg:Str->Option Yt} {base:YG} {t:cF}
open Classical in
def cu(d k:Int)(u:Str):Int:=if h:∃r,kc d k u r then h.choose else 0
theorem oV{d k:Int}{u:Str}{r:Int}(h:kc d k u r):r=cu d k u:=by
 unfold cu;rw [dif_pos ⟨r,h⟩];exact NC h (Exists.choose_spec (⟨r,h⟩:∃r,kc d k u r))
def bp:Option Int->Ys
 | none=>.none
 | some i=>.int i
def gN(r:Rp):Prop:=rN r.hs/\Rz r.c.kd=true/\r.ts.length<=41/\∀m∈r.ts,Rz m=true
def qm(r:Rp)(wd:Str)(n:Int):List Int:=(i5 r.hs wd).filter λz=>decide (z<=n)
def uZ(r:Rp)(n:Int):cj->Option Int
 | .com=>some r.c.d
 | .fst wd=>(qm r wd n).head?
 | .lst wd=>(qm r wd n).getLast?
theorem N8{l:List Int}{Q:Ys->Prop}(q:Q (bp l.head?)):if (!(l.map λz=>Rg z).isEmpty)=false then Q .none else ∃d,atI (l.map λz=>Rg z) 0=some d/\Q d:=by
 cases l with
 | nil=>rw [Yp (by rfl)];exact q
 | cons a l=>rw [Yo Yr];exact⟨.int a,dJ,q⟩
theorem B7{l:List Ys}{a:Ys}:atI (l++[a]) (-1)=some a:=by
 unfold atI jg;rw [Yo Yn,Yp (by rw [Rv,U1];omega)];rw [show((-1:Int)+((l++[a]).length:Nat)).toNat=l.length by rw [Rv,U1];omega];simp
theorem N9{l:List Int}{Q:Ys->Prop}(q:Q (bp l.getLast?)):if (!(l.map λz=>Rg z).isEmpty)=false then Q .none else ∃d,atI (l.map λz=>Rg z) (-1)=some d/\Q d:=by
 rcases List.eq_nil_or_concat l with e | ⟨l',a,e⟩
 ·subst e;rw [Yp (by rfl)];exact q
 ·rw [List.concat_eq_append] at e;subst e;rw [Yo Yr];refine⟨.int a,?_,?_⟩
  ·rw [RH];exact B7
  ·rw [List.getLast?_concat] at q;exact q
def Oa(C:Yu):List Ys->(Ys->Prop)->Prop:=λds Q=>∃(r:Rp)(s:cj)(n:Int),ds=[r.enc C,s.enc,.int n]/\s.Ok/\gN r/\Q (bp (uZ r n s))
theorem Ob(T:Txt K mg t):aB P w K mg base CX0 2 t.a_X t.d_X ["paper","since","day"] (aU K (Oa t.u_Paper)):=by
 have G_W:=@Fx P w _ _ base _ T;refine T.F_X.F.okD EM (λds Q h=>?_) (λ_ _ _ _ H O ds Q E hr h=>?_)
 ·obtain⟨r,s,n,rfl,_⟩:=h;rfl
 ·obtain⟨r,si,n,rfl,hsi,hh,q⟩:=h;refine'⟨_,?A,?B⟩
  case A=>
   refine' aq ?C ?D
   case C=>
    refine' bR ?E ?F bQ
    case E=>exact(aO (dO hr) dP (df (ao aF aJ (df (dv 1)) (df ag))) (df bj) (aE _))
    case' F=>refine' ax ?G
    case G=>exact(bb (cg (C:=t.u_Paper) T.cl_Paper T.na_Paper_coming (dv 0)))
   case' D=>refine' aq ?H ?I
   case H=>exact(lI (i:=3) EM.nd rfl Yq (wM rfl FK (df (PE.imp (aD G_W (hr.mono Ym) rfl T.F_W (aa (dv 0) (aa (ao aF aJ (df (dv 1)) (df ag)) aj))) aK)) aL bS Ym (λ_ _ _ _=>(aI (i:=0) FK.nd rfl Yq)) (λ_ _ _ _=>(d7 (aO iG cq (df (dv 0)) (df (dv 1)) (aE _)))) (λ_ _ _ _=>(dv 0))))
   case' I=>refine' aq ?J ?K
   case J=>
    refine' bR ?L ?M bQ
    case L=>exact(wt (tX (dv 3)))
    case M=>refine' ax (bb eO)
   case' K=>refine' ax ?N
   case' N=>refine' bb ?O
   case O=>exact(qT (aO (dO hr) dP (df (ao aF aJ (df (dv 1)) (df ag))) (df bj) (aE _)) (ao aS aT (df (dv 3)) (df ag)) (ao aS aT (df (dv 3)) (df (K7 ag))))
  case B=>
  clear hr T G_W;have dl:∀wd,(i5 r.hs wd).length<=41:=λwd=>by
   unfold i5;rw [Q8];exact RS (R1 _ _) hh.1.1
  cases si with
  | com=>
   simp only [cj.enc];walk_at "d";exact⟨[Q6 "name",Q6 "coming",Q6 "kind",Q6 "makers",Q6 "happenings"],_,rfl,_,uU,q⟩
  | fst wd=>
   simp only [cj.enc];walk_at "d";rw [bV (show Q6 "first"≠Q6 "coming" by decide+kernel),Yo Rl];have dl:=dl wd;refine⟨r,wd,rfl,hh.1,hsi,_,rfl,by rw [Q8];omega,cT (λz=>decide (z<=n)) (λz=>.int z) (λx hx R S h=>?_) ?_⟩
   ·walk_at "d";simpa using h
   ·have q:Q (bp (qm r wd n).head?):=q;unfold qm at q;exact N8 q
  | lst wd=>
   simp only [cj.enc];walk_at "d";rw [bV (show Q6 "last"≠Q6 "coming" by decide+kernel),Yo Rl];have dl:=dl wd;refine⟨r,wd,rfl,hh.1,hsi,_,rfl,by rw [Q8];omega,cT (λz=>decide (z<=n)) (λz=>.int z) (λx hx R S h=>?_) ?_⟩
   ·walk_at "d";simpa using h
   ·have q:Q (bp (qm r wd n).getLast?):=q;unfold qm at q;exact N9 q
def fR(r:Rp)(n:Int):Pt->Option Int
 | .five _ _ s k u=>(uZ r n s).map λb=>cu b k u
 | .two _ _=>none
def Oc(C:Yu):List Ys->(Ys->Prop)->Prop:=λds Q=>∃(r:Rp)(w kd:Str)(s:cj)(k:Int)(u:Str)(n:Int),ds=[r.enc C,(Pt.five w kd s k u).enc,.int n]/\s.Ok/\mG u/\gN r/\Q (bp (fR r n (.five w kd s k u)))
theorem FL(T:Txt K mg t):aB P w K mg base CX0 6 t.a_Y t.d_Y ["paper","parts","day"] (aU K (Oc t.u_Paper)):=by
 have G_X:=@Ob P w _ _ base _ T;have G_H:=@Fd P w _ _ base _ T;refine T.F_Y.F.okD EN (λds Q h=>?_) (λ_ _ _ _ H O ds Q E hr h=>?_)
 ·obtain⟨r,w,kd,s,k,u,n,rfl,_⟩:=h;rfl
 ·obtain⟨r,wo,kd,si,k,u,n,rfl,hsi,hu,hh,q⟩:=h;refine'⟨_,?A,?B⟩
  case A=>
   refine' aq ?C ?D
   case C=>
    refine' bo (i:=3) EN.nd rfl Yq ?E (hs:=nI)
    case E=>exact(PE.imp (aD G_X (hr.mono Ym) rfl T.F_X (aa (dv 0) (aa (ao aF aJ (df (dv 1)) (df ag)) (aa (dv 2) aj)))) aK)
   case' D=>refine' aq ?F ?G
   case F=>
    refine' bR ?H ?I bQ
    case H=>exact(aO kq lY (df (dv 3)) (df eO) (aE _))
    case I=>refine' ax (bb eO)
   case' G=>refine' ax ?J
   case' J=>refine' bb ?K
   case K=>exact(PE.imp (aD G_H (hr.mono Ym) rfl T.F_H (aa (dv 3) (aa (ao aF aJ (df (dv 1)) (df ag)) (aa (ao aF aJ (df (dv 1)) (df ag)) aj)))) aK)
  case B=>
  clear hr T G_X G_H;simp only [Pt.enc];walk_at "d";refine⟨r,si,n,rfl,hsi,hh,?_⟩;have q:Q (bp ((uZ r n si).map λb=>cu b k u)):=q;cases hb:uZ r n si with
  | none=>
   rw [hb] at q;simp only [bp,dQ];walk_at "d";exact q
  | some b=>
   rw [hb] at q;simp only [bp,dQ];walk_at "d";exact⟨b,k,u,rfl,hu,λx hx=>by rw [oV hx];exact q⟩
theorem FN{xs:List De}{c:Pp}(g:gM xs)(hc:c∈ay xs)(h1:∀z,z∈i4 (fo xs c.nm)↔z∈fo xs c.nm)(h3:(i4 (fo xs c.nm)).length<=41):gN (bL xs c):=by
 refine⟨⟨h3,λz hz=>?_⟩,g.gx.gp.kd c hc,?_,λm hm=>?_⟩
 ·have hz:=(h1 z).mp hz;unfold fo at hz;obtain⟨x,hx,e⟩:=Rj.mp hz;obtain⟨hx1,hx2⟩:=RK.mp hx;cases x with
  | pap p=>cases hx2
  | oth w d nm r=>
   simp only [mJ,Si,beq_iff_eq] at hx2;obtain⟨rfl,rfl⟩:=hx2;obtain⟨wd,rfl,hw⟩:=g.hp _ _ _ hx1;rw [<-e];exact hw
 ·show((dB (ay xs) c).map (·.nm)).length<=41;rw [Q8];exact AD g.gx.gp
 ·obtain⟨p,hp,rfl⟩:=Rj.mp hm;exact g.gx.gp.nm p (ke.mp (RK.mp hp).1)
end
theorem FO:aZ (av uD) ["paper","rules","day"] ["pair","paper"] 1 [0] ⟨Ri,[ (Q9 ".0",Z9),(Q9 "pair",Z9),(Q9 "paper",RA)],false,false,[]⟩:=⟨rfl,cp,cp,cp,rfl,cp,cp,cp,rfl⟩
theorem FP:aZ (av uE) ["paper","rules","day","gone","left","calls","rule","parts","due"] ["maker","gone","day"] 1 [3,2] ⟨Ri,[ (Q9 ".0",Z9),(Q9 "maker",Z9),(Q9 "has_gone",Sa),(Q9 "day",RA),(Q9 "gone",RA)],false,false,[]⟩:=⟨rfl,cp,cp,cp,rfl,cp,cp,cp,rfl⟩
theorem FQ:aZ (av uF) ["paper","rules","day","gone","away","calls","rule","parts","due"] ["maker","gone","day"] 1 [3,2] ⟨Ri,[ (Q9 ".0",Z9),(Q9 "maker",Z9),(Q9 "has_gone",Sa),(Q9 "day",RA),(Q9 "gone",RA)],false,false,[]⟩:=⟨rfl,cp,cp,cp,rfl,cp,cp,cp,rfl⟩
theorem AJ:aZ (av uG) ["kind","rules"] ["rule","parts","kind"] 2 [0] ⟨Ri,[ (Q9 ".0",Z9),(Q9 "rule",Z9),(Q9 "parts",Z9),(Q9 "kind",RA)],false,false,[]⟩:=⟨rfl,cp,cp,cp,rfl,cp,cp,cp,rfl⟩
section
variable {P:YE} {w:YF} {K:Q7} {mg:Str->Option Yt} {base:YG} {t:cF}
structure Gn where
 ks:List Str
 gs:List Int
def Gn.enc(g:Gn):Ys:=dS g.ks (g.gs.map .int)
def rO:List Str->List Int->Str->Option Int
 | k::ks,d::ds,z=>if k=z then some d else rO ks ds z
 | _,_,_=>none
theorem FT:∀(ks:List Str)(gs:List Int)(z:Str),aV ks (gs.map .int) z=(rO ks gs z).map .int
 | [],_,_=>rfl
 | _::_,[],_=>rfl
 | k::ks,g::gs,z=>by
  rw [Rb];unfold aV rO;by_cases h:k=z
  ·rw [Yp h,Yp h];rfl
  ·rw [Yo h,Yo h];exact FT ks gs z
def Gn.at(g:Gn)(z:Str):Option Int:=rO g.ks g.gs z
def Gn.has(g:Gn)(n:Int)(z:Str):Bool:=match g.at z with
 | some d=>decide (d<=n)
 | none=>false
def Od:List Ys->(Ys->Prop)->Prop:=λds Q=>∃(g:Gn)(z:Str)(n:Int),ds=[g.enc,.str z,.int n]/\Q (.bool (g.has n z))
theorem FU(T:Txt K mg t):aB P w K mg base CX0 1 t.a_a t.d_a ["gone","paper","day"] (aU K Od):=by
 refine T.F_a.F.okD EO (λds Q h=>?_) (λ_ _ _ _ H O ds Q E hr h=>?_)
 ·obtain⟨g,z,n,rfl,_⟩:=h;rfl
 ·obtain⟨g,z,n,rfl,q⟩:=h;refine'⟨_,?A,?B⟩
  case A=>
   refine' aq ?C ?D
   case C=>exact(bo (i:=3) EO.nd rfl Yq (Mt hr.units (dv 0) (dv 1) ⟨rfl,rfl,rfl,rfl⟩))
   case' D=>refine' ax ?E
   case' E=>refine' bb ?F
   case F=>exact(qR (cX BL Dg (df (dv 3)) (df eO) (aE _)) (jV (cX iG cq (df (dv 3)) (df (dv 2)) (aE _))))
  case B=>
  clear hr T;simp only [Gn.enc];walk_at "d";refine⟨g.ks,_,rfl,?_⟩;rw [FT];have q:Q (.bool (match g.at z with | some d=>decide (d<=n) | none=>false)):=q;unfold Gn.at at q;cases hd:rO g.ks g.gs z with
  | none=>
   rw [hd] at q;simp only [T4,Wo,dQ];walk_at "d";exact q
  | some d=>
   rw [hd] at q;simp only [T3,Option.getD_some,dQ];walk_at "d";exact q
theorem FV{a b c d e:Ys}:aV [Q6 "name",Q6 "coming",Q6 "kind",Q6 "makers",Q6 "happenings"] [a,b,c,d,e] (Q6 "makers")=some d:=by
 simp only [aV];rw [Yo cp,Yo cp,Yo cp,Yp trivial]
def Pt.wd:Pt->Str
 | .two w _=>w
 | .five w _ _ _ _=>w
def Pt.kd:Pt->Str
 | .two _ kd=>kd
 | .five _ kd _ _ _=>kd
theorem Pt.kdOk{p:Pt}(h:p.Ok):Rz p.kd=true:=by cases p with | two w kd=>exact h.2.2 | five w kd s k u=>exact h.2.1
theorem Pt.at1(p:Pt):∃l,p.enc= .tuple l/\atI l 1=some (.str p.kd):=by cases p <;> exact⟨_,rfl,fD⟩
def i6(L:List (Str×Pt)):Prop:=L.length<=41/\∀z∈L,z.2.Ok
def iw(r:Rp)(n:Int)(L:List (Str×Pt)):List (Str×Pt):=if r.c.d > n then [] else L.filter λz=>z.2.kd==r.c.kd
def Oe(C:Yu):List Ys->(Ys->Prop)->Prop:=λds Q=>∃(r:Rp)(L:List (Str×Pt))(n:Int),ds=[r.enc C,.tuple (L.map cN),.int n]/\gN r/\i6 L/\Q (.list ((iw r n L).map cN))
theorem FW(T:Txt K mg t):aB P w K mg base CX0 1 t.a_Z t.d_Z ["paper","rules","day"] (aU K (Oe t.u_Paper)):=by
 refine T.F_Z.F.okD Ng (λds Q h=>?_) (λ_ _ _ _ H O ds Q E hr h=>?_)
 ·obtain⟨r,L,n,rfl,_⟩:=h;rfl
 ·obtain⟨r,L,n,rfl,hr',hL,q⟩:=h;refine'⟨_,?A,?B⟩
  case A=>
   refine' aq ?C ?D
   case C=>
    refine' bR ?E ?F bQ
    case E=>exact(aO ko cq (df (cg (C:=t.u_Paper) T.cl_Paper T.na_Paper_coming (dv 0))) (df (dv 2)) (aE _))
    case' F=>refine' ax ?G
    case G=>exact(bb (fe (cn aj)))
   case' D=>refine' ax ?H
   case' H=>refine' bb ?I
   case' I=>refine' fe ?J
   case J=>exact(kQ rfl FO (df (dv 1)) aL bS Ym (λ_ _ _ _=>(aI (i:=0) FO.nd rfl Yq)) (λ_ _ _ _=>(d7 (aO (fM hr.units) fN (df (ao aF aJ (df (ao aF aJ (df (dv 0)) (df ag))) (df ag))) (df (cg (C:=t.u_Paper) T.cl_Paper T.na_Paper_kind (dv 1))) (aE _)))) (λ_ _ _ _=>(dv 0)))
  case B=>
  clear hr T;walk_at "d";refine⟨[Q6 "name",Q6 "coming",Q6 "kind",Q6 "makers",Q6 "happenings"],_,rfl,_,uU,r.c.d,rfl,?_⟩;unfold iw at q;by_cases hd:r.c.d > n
  ·rw [Yp hd] at q⊢;exact q
  ·rw [Yo hd] at q⊢;refine⟨by rw [Q8];have:=hL.1;omega,cT (λz:Str×Pt=>z.2.kd==r.c.kd) cN (λx hx R S h=>?_) q⟩;simp only [cN];obtain⟨l,e1,e2⟩:=Pt.at1 x.2;rw [e1];walk_at "d";refine⟨_,e2,[Q6 "name",Q6 "coming",Q6 "kind",Q6 "makers",Q6 "happenings"],_,rfl,_,uV,c7.mpr (Pt.kdOk (hL.2 x hx)),c7.mpr hr'.2.1,?_⟩;rw [eV];simp only [cN] at h;rw [e1] at h;exact h
def cv(z:Str×Ys):Ys:= .tuple [.str z.1,z.2]
def jH(r:Rp)(n:Int)(g:Gn):List Str:=r.ts.filter λm=>!g.has n m
def jI(r:Rp)(n:Int)(g:Gn):List Str:=r.ts.filter λm=>g.has n m
def fS(n:Int):Option Int->Bool
 | none=>true
 | some d=>decide (d > n)
def kh(r:Rp)(n:Int)(g:Gn):Pt->Option Ys
 | .five w kd s k u=>if w=Q6 "keep"/\fS n (fR r n (.five w kd s k u))=true then some (bp (fR r n (.five w kd s k u))) else none
 | .two w kd=>if w=Q6 "while" then(jH r n g).head?.map .str else none
def mK(r:Rp)(n:Int)(g:Gn):Pt->Option Ys
 | .five w kd s k u=>if w=Q6 "gone"/\fS n (fR r n (.five w kd s k u))=false then some (bp (fR r n (.five w kd s k u))) else none
 | .two w kd=>if w=Q6 "follow" then(jI r n g).head?.map .str else none
def u5(r:Rp)(n:Int)(g:Gn)(z:Str×Pt):List (Str×Ys):=((kh r n g z.2).map λb=>(z.1,b)).toList
def rP(r:Rp)(n:Int)(g:Gn)(z:Str×Pt):List (Str×Ys):=((mK r n g z.2).map λb=>(z.1,b)).toList
def fT(r:Rp)(n:Int)(g:Gn)(L:List (Str×Pt)):List (Str×Ys):=(iw r n L).flatMap (u5 r n g)
def fG(r:Rp)(n:Int)(g:Gn)(L:List (Str×Pt)):List (Str×Ys):=(iw r n L).flatMap (rP r n g)
theorem u7{α β:Type}{f:α->List β}(h:∀x,(f x).length<=1):∀l:List α,(l.flatMap f).length<=l.length
 | []=>by simp
 | x::l=>by
  rw [UY,Rv,Rq];have:=h x;have:=u7 h l;omega
theorem AK{α:Type}(o:Option α):o.toList.length<=1:=by cases o <;> simp
theorem FX{f:Str×Pt->Option Ys}(M:List (Str×Pt))(hM:M.length<=41):∃acc:Nat->List Ys,acc 0=[]/\(∀i,(acc i).length<=41)/\(∀i x,M[i]?=some x->f x=none->acc (i+1)=acc i)/\(∀i x,M[i]?=some x->∀b,f x=some b->acc (i+1)=acc i++[.tuple [.str x.1,b]])/\acc M.length=(M.flatMap λz=>((f z).map λb=>(z.1,b)).toList).map cv:=by
 refine⟨λi=>((M.take i).flatMap λz=>((f z).map λb=>(z.1,b)).toList).map cv,rfl,λi=>?_,λi x hx e=>?_,λi x hx b e=>?_,?_⟩
 ·show(Sb cv _).length<=41;rw [Q8];refine RS (u7 (λz=>AK _) _) ?_;rw [Sg];omega
 ·show Sb cv _=Sb cv _;rw [R4,hx,UE];simp [e]
 ·show Sb cv _=Sb cv _++_;rw [R4,hx,UE,RH];simp [e,cv]
 ·show Sb cv _=_;rw [RM (Rf _)]
theorem u9{r:Rp}{n:Int}{L:List (Str×Pt)}(h:i6 L):i6 (iw r n L):=by
 unfold iw;split
 ·exact⟨Yr,Yr⟩
 ·exact⟨RS (R1 _ _) h.1,λz hz=>h.2 z (RK.mp hz).1⟩
def qo(C:Yu)(r:Rp)(L:List (Str×Pt))(n:Int)(g:Gn)(ms:List Str)(a:List Ys)(δ:Dl):Prop:=∃(o6 o7 o8:Option Sl),δ=[some (Sl.v (Rp.enc C r)),some (Sl.v (RV (Sb cN L))),some (Sl.v (Rg n)),some (Sl.v g.enc),some (Sl.v (Sw (ms.map λm=>Ra m))),some (Sl.o a),o6,o7,o8]
def F_b(C:Yu):List Ys->(Ys->Prop)->Prop:=λds Q=>∃(r:Rp)(L:List (Str×Pt))(n:Int)(g:Gn),ds=[r.enc C,.tuple (L.map cN),.int n,g.enc]/\gN r/\i6 L/\Q (.tuple ((fT r n g L).map cv))
theorem Of(T:Txt K mg t):aB P w K mg base CX0 7 t.a_b t.d_b ["paper","rules","day","gone"] (aU K (F_b t.u_Paper)):=by
 have G_a:=@FU P w _ _ base _ T;have G_Z:=@FW P w _ _ base _ T;have G_Y:=@FL P w _ _ base _ T;refine T.F_b.F.okD p8 (λds Q h=>?_) (λ_ _ _ _ H O ds Q E hr h=>?_)
 ·obtain⟨r,L,n,g,rfl,_⟩:=h;rfl
 ·obtain⟨r,L,n,g,rfl,hr',hL,q⟩:=h;refine'⟨_,?A,?B⟩
  case A=>
   refine' aq ?C ?D
   case C=>exact(lI (i:=4) p8.nd rfl Yq (oK rfl FP (df (cg (C:=t.u_Paper) T.cl_Paper T.na_Paper_makers (dv 0))) aL bS Ym (λ_ _ _ _=>(aI (i:=0) FP.nd rfl Yq)) (λ_ _ _ _=>(d7 (wt (mX (PE.imp (aD G_a (hr.mono Ym) rfl T.F_a (aa (dv 1) (aa (dv 0) (aa (dv 2) aj)))) aK))))) (λ_ _ _ _=>(dv 0))))
   case' D=>refine' aq ?E ?F
   case E=>exact(g7 (i:=5) p8.nd rfl Yq (cn aj))
   case' F=>refine' aq ?G ?H
   case G=>
    refine' iR RU rfl (PE.imp (aD G_Z (hr.mono Ym) rfl T.F_Z (aa (dv 0) (aa (dv 1) (aa (dv 2) aj)))) aK) ?I (iQ (cC aL (cC aL iP))) ?J
    case I=>exact(iC (n:=2) rfl (cB (aI (i:=6) p8.nd rfl Yq) (cB (aI (i:=7) p8.nd rfl Yq) iB)))
    case' J=>refine' aq ?K ?L
    case K=>
     refine' bR ?M ?N bQ
     case M=>exact(aO (dO hr) dP (df (ao aF aJ (df (dv 7)) (df ag))) (df bj) (aE _))
     case' N=>refine' aq ?O ?P
     case O=>exact(bo (i:=8) p8.nd rfl Yq (PE.imp (aD G_Y (hr.mono Ym) rfl T.F_Y (aa (dv 0) (aa (dv 7) (aa (dv 2) aj)))) aK))
     case' P=>refine' ax ?Q
     case' Q=>refine' bR ?R ?S bQ
     case R=>exact(PW.pt (qQ (aO kq lY (df (dv 8)) (df eO) (aE _)) (qP (aO ko cq (df (dv 8)) (df (dv 2)) (aE _)))))
     case' S=>refine' ax ?T
     case T=>exact(hG (i:=5) (pv 5) (bF (aa (dv 6) (aa (dv 8) aj))))
    case' L=>refine' ax ?U
    case' U=>refine' bR ?V ?W bQ
    case V=>exact(PW.pt (gm (aO (dO hr) dP (df (ao aF aJ (df (dv 7)) (df ag))) (df bj) (aE _)) (gJ (tX (dv 4)))))
    case' W=>refine' ax ?X
    case' X=>refine' hG (i:=5) (pv 5) ?Y
    case Y=>exact(bF (aa (dv 6) (aa (ao aS aT (df (dv 4)) (df ag)) aj)))
   case' H=>refine' ax ?Z
   case Z=>exact(bb (PE.imp (dZ gS rfl T.n_tuple gT (bz (dw 5) bG)) (cf ia)))
  case B=>
  clear hr T G_a G_Z G_Y;walk_at "d";refine⟨[Q6 "name",Q6 "coming",Q6 "kind",Q6 "makers",Q6 "happenings"],_,rfl,_,FV,_,rfl,by rw [Q8];have:=hr'.2.2.1;omega,cT (λm=>!g.has n m) (λm=>.str m) (λx hx R S h=>?_) ?_⟩
  ·walk_at "d";exact⟨g,x,n,rfl,by simpa using h⟩
  ·refine⟨r,L,n,rfl,hr',hL,?_⟩;have ok:=u9 (r:=r) (n:=n) hL;walk_at "d";have q:Q (.tuple (((iw r n L).flatMap (u5 r n g)).map cv)):=q;generalize hM:iw r n L=M at ok q⊢;obtain⟨acc,a0,al,an,as,ae⟩:=FX (f:=λz:Str×Pt=>kh r n g z.2) M ok.1;generalize hE:d8.mk _ _ _ _=EE;have eN:=congrArg d8.nx hE;simp only at eN;clear hE;refine⟨λi=>qo t.u_Paper r L n g (jH r n g) (acc i),⟨none,none,none,by rw [a0];rfl⟩,?_,?_⟩
   ·rintro i z δ hz ⟨o6,o7,o8,rfl⟩;rw [Rt] at hz;cases hz':M[i]? with
    | none=>rw [hz'] at hz;cases hz
    | some x=>
     rw [hz'] at hz;cases hz;have xo:=ok.2 x (RN hz');have tl:=al i;have none_:=an i x hz';have some_:=as i x hz';obtain⟨nm,pt⟩:=x;simp only [cN];have fin:∀a(o6 o7 o8:Option Sl),acc (i+1)=a->qo t.u_Paper r L n g (jH r n g) (acc (i+1)) [some (Sl.v (Rp.enc t.u_Paper r)),some (Sl.v (RV (Sb cN L))),some (Sl.v (Rg n)),some (Sl.v g.enc),some (Sl.v (Sw ((jH r n g).map λm=>Ra m))),some (Sl.o a),o6,o7,o8]:=λa o6 o7 o8 e=>⟨o6,o7,o8,by rw [e]⟩;generalize qo t.u_Paper r L n g (jH r n g) (acc (i+1))=NX at fin⊢;clear eN;cases pt with
     | two w2 kd=>
      have k1:w2≠Q6 "keep":=λe=>xo.1 (.inl e);simp only [Pt.enc];generalize hD:fB (gr 8 _) _=TD;generalize hW:g6 (gX _ (ig _)) _ _=TW;walk_at "d";rw [bV k1,Yo Rl];clear hD;subst hW;walk_at "d";by_cases hw:w2=Q6 "while"
      ·subst hw;rw [Yp (beq_self_eq_true _)];cases hl:jH r n g with
       | nil=>
        rw [hl] at fin;rw [Yo Yr];exact fin _ _ _ _ (none_ (by show(if Q6 "while"=Q6 "while" then(jH r n g).head?.map Ra else none)=none;rw [Yp rfl,hl];rfl))
       | cons m l=>
        rw [hl] at fin;rw [Yp (by rfl)];exact⟨_,dJ,Yn,fin _ _ _ _ (some_ (.str m) (by show(if Q6 "while"=Q6 "while" then(jH r n g).head?.map Ra else none)=some _;rw [Yp rfl,hl];rfl))⟩
      ·rw [bV hw,Yo Rl];exact fin _ _ _ _ (none_ (by show(if w2=Q6 "while" then(jH r n g).head?.map Ra else none)=none;rw [Yo hw]))
     | five w2 kd si k u=>
      have k1:w2≠Q6 "while":=λe=>by rcases xo.1 with z | z <;> rw [z] at e <;> exact absurd e cp
      simp only [Pt.enc];generalize hW:g6 (gX _ (ig _)) _ _=TW;generalize hE2:d8.mk _ _ _ _=E2;have eN2:E2.nx=NX:=by rw [<-hE2]
      have pass:∀a(o8:Option Sl),acc (i+1)=a->TW E2 [some (Sl.v (Rp.enc t.u_Paper r)),some (Sl.v (RV (Sb cN L))),some (Sl.v (Rg n)),some (Sl.v g.enc),some (Sl.v (Sw ((jH r n g).map λm=>Ra m))),some (Sl.o a),some (Sl.v (Ra nm)),some (Sl.v (RV [Ra w2,Ra kd,si.enc,Rg k,Ra u])),o8]:=λa o8 e=>by
       subst hW;walk_at "d";rw [bV k1,Yo Rl,eN2];exact fin _ _ _ _ e
      clear hW hE2;walk_at "d";by_cases hw:w2=Q6 "keep"
      ·subst hw;rw [Yp (beq_self_eq_true _)];refine⟨r,Q6 "keep",kd,si,k,u,n,rfl,xo.2.2.1,xo.2.2.2.2.2,hr',?_⟩;have df:kh r n g (.five (Q6 "keep") kd si k u)=if Q6 "keep"=Q6 "keep"/\fS n (fR r n (.five (Q6 "keep") kd si k u))=true then some (bp (fR r n (.five (Q6 "keep") kd si k u))) else none:=rfl
       cases hd:fR r n (.five (Q6 "keep") kd si k u) with
       | none=>
        rw [hd] at df;simp only [bp,dQ];walk_at "d";refine⟨Yn,?_⟩;exact pass _ _ (some_ .none (by rw [df,Yp ⟨rfl,rfl⟩];rfl))
       | some d=>
        rw [hd] at df;simp only [bp,dQ];walk_at "d";by_cases hdn:n < d
        ·rw [Yp hdn];refine⟨Yn,?_⟩;exact pass _ _ (some_ (.int d) (by rw [df,Yp ⟨rfl,decide_eq_true hdn⟩];rfl))
        ·rw [Yo hdn];exact pass _ _ (none_ (by rw [df,Yo λz=>hdn (of_decide_eq_true z.2)]))
      ·rw [bV hw,Yo Rl];exact pass _ _ (none_ (by show(if w2=Q6 "keep"/\fS n (fR r n (.five w2 kd si k u))=true then some (bp (fR r n (.five w2 kd si k u))) else none)=none;rw [Yo λz=>hw z.1]))
   ·rintro δ ⟨o6,o7,o8,rfl⟩;rw [<-eN,Q8,ae];walk_at "d";exact q
def F_c(C:Yu):List Ys->(Ys->Prop)->Prop:=λds Q=>∃(r:Rp)(L:List (Str×Pt))(n:Int)(g:Gn),ds=[r.enc C,.tuple (L.map cN),.int n,g.enc]/\gN r/\i6 L/\Q (.tuple ((fG r n g L).map cv))
theorem Og(T:Txt K mg t):aB P w K mg base CX0 7 t.a_c t.d_c ["paper","rules","day","gone"] (aU K (F_c t.u_Paper)):=by
 have G_a:=@FU P w _ _ base _ T;have G_Z:=@FW P w _ _ base _ T;have G_Y:=@FL P w _ _ base _ T;refine T.F_c.F.okD p9 (λds Q h=>?_) (λ_ _ _ _ H O ds Q E hr h=>?_)
 ·obtain⟨r,L,n,g,rfl,_⟩:=h;rfl
 ·obtain⟨r,L,n,g,rfl,hr',hL,q⟩:=h;refine'⟨_,?A,?B⟩
  case A=>
   refine' aq ?C ?D
   case C=>exact(lI (i:=4) p9.nd rfl Yq (oK rfl FQ (df (cg (C:=t.u_Paper) T.cl_Paper T.na_Paper_makers (dv 0))) aL bS Ym (λ_ _ _ _=>(aI (i:=0) FQ.nd rfl Yq)) (λ_ _ _ _=>(d7 (mX (PE.imp (aD G_a (hr.mono Ym) rfl T.F_a (aa (dv 1) (aa (dv 0) (aa (dv 2) aj)))) aK)))) (λ_ _ _ _=>(dv 0))))
   case' D=>refine' aq ?E ?F
   case E=>exact(g7 (i:=5) p9.nd rfl Yq (cn aj))
   case' F=>refine' aq ?G ?H
   case G=>
    refine' iR RU rfl (PE.imp (aD G_Z (hr.mono Ym) rfl T.F_Z (aa (dv 0) (aa (dv 1) (aa (dv 2) aj)))) aK) ?I (iQ (cC aL (cC aL iP))) ?J
    case I=>exact(iC (n:=2) rfl (cB (aI (i:=6) p9.nd rfl Yq) (cB (aI (i:=7) p9.nd rfl Yq) iB)))
    case' J=>refine' aq ?K ?L
    case K=>
     refine' bR ?M ?N bQ
     case M=>exact(aO (dO hr) dP (df (ao aF aJ (df (dv 7)) (df ag))) (df bj) (aE _))
     case' N=>refine' aq ?O ?P
     case O=>exact(bo (i:=8) p9.nd rfl Yq (PE.imp (aD G_Y (hr.mono Ym) rfl T.F_Y (aa (dv 0) (aa (dv 7) (aa (dv 2) aj)))) aK))
     case' P=>refine' ax ?Q
     case' Q=>refine' bR ?R ?S bQ
     case R=>exact(PW.pt (gm (aO BL Dg (df (dv 8)) (df eO) (aE _)) (gJ (aO iG cq (df (dv 8)) (df (dv 2)) (aE _)))))
     case' S=>refine' ax ?T
     case T=>exact(hG (i:=5) (pv 5) (bF (aa (dv 6) (aa (dv 8) aj))))
    case' L=>refine' ax ?U
    case' U=>refine' bR ?V ?W bQ
    case V=>exact(PW.pt (gm (aO (dO hr) dP (df (ao aF aJ (df (dv 7)) (df ag))) (df bj) (aE _)) (gJ (tX (dv 4)))))
    case' W=>refine' ax ?X
    case' X=>refine' hG (i:=5) (pv 5) ?Y
    case Y=>exact(bF (aa (dv 6) (aa (ao aS aT (df (dv 4)) (df ag)) aj)))
   case' H=>refine' ax ?Z
   case Z=>exact(bb (PE.imp (dZ gS rfl T.n_tuple gT (bz (dw 5) bG)) (cf ia)))
  case B=>
  clear hr T G_a G_Z G_Y;walk_at "d";refine⟨[Q6 "name",Q6 "coming",Q6 "kind",Q6 "makers",Q6 "happenings"],_,rfl,_,FV,_,rfl,by rw [Q8];have:=hr'.2.2.1;omega,cT (λm=>g.has n m) (λm=>.str m) (λx hx R S h=>?_) ?_⟩
  ·walk_at "d";exact⟨g,x,n,rfl,by simpa using h⟩
  ·refine⟨r,L,n,rfl,hr',hL,?_⟩;have ok:=u9 (r:=r) (n:=n) hL;walk_at "d";have q:Q (.tuple (((iw r n L).flatMap (rP r n g)).map cv)):=q;generalize hM:iw r n L=M at ok q⊢;obtain⟨acc,a0,al,an,as,ae⟩:=FX (f:=λz:Str×Pt=>mK r n g z.2) M ok.1;generalize hE:d8.mk _ _ _ _=EE;have eN:=congrArg d8.nx hE;simp only at eN;clear hE;refine⟨λi=>qo t.u_Paper r L n g (jI r n g) (acc i),⟨none,none,none,by rw [a0];rfl⟩,?_,?_⟩
   ·rintro i z δ hz ⟨o6,o7,o8,rfl⟩;rw [Rt] at hz;cases hz':M[i]? with
    | none=>rw [hz'] at hz;cases hz
    | some x=>
     rw [hz'] at hz;cases hz;have xo:=ok.2 x (RN hz');have tl:=al i;have none_:=an i x hz';have some_:=as i x hz';obtain⟨nm,pt⟩:=x;simp only [cN];have fin:∀a(o6 o7 o8:Option Sl),acc (i+1)=a->qo t.u_Paper r L n g (jI r n g) (acc (i+1)) [some (Sl.v (Rp.enc t.u_Paper r)),some (Sl.v (RV (Sb cN L))),some (Sl.v (Rg n)),some (Sl.v g.enc),some (Sl.v (Sw ((jI r n g).map λm=>Ra m))),some (Sl.o a),o6,o7,o8]:=λa o6 o7 o8 e=>⟨o6,o7,o8,by rw [e]⟩;generalize qo t.u_Paper r L n g (jI r n g) (acc (i+1))=NX at fin⊢;clear eN;cases pt with
     | two w2 kd=>
      have k1:w2≠Q6 "gone":=λe=>xo.1 (.inr e);simp only [Pt.enc];generalize hD:fB (gr 8 _) _=TD;generalize hW:g6 (gX _ (ig _)) _ _=TW;walk_at "d";rw [bV k1,Yo Rl];clear hD;subst hW;walk_at "d";by_cases hw:w2=Q6 "follow"
      ·subst hw;rw [Yp (beq_self_eq_true _)];cases hl:jI r n g with
       | nil=>
        rw [hl] at fin;rw [Yo Yr];exact fin _ _ _ _ (none_ (by show(if Q6 "follow"=Q6 "follow" then(jI r n g).head?.map Ra else none)=none;rw [Yp rfl,hl];rfl))
       | cons m l=>
        rw [hl] at fin;rw [Yp (by rfl)];exact⟨_,dJ,Yn,fin _ _ _ _ (some_ (.str m) (by show(if Q6 "follow"=Q6 "follow" then(jI r n g).head?.map Ra else none)=some _;rw [Yp rfl,hl];rfl))⟩
      ·rw [bV hw,Yo Rl];exact fin _ _ _ _ (none_ (by show(if w2=Q6 "follow" then(jI r n g).head?.map Ra else none)=none;rw [Yo hw]))
     | five w2 kd si k u=>
      have k1:w2≠Q6 "follow":=λe=>by rcases xo.1 with z | z <;> rw [z] at e <;> exact absurd e cp
      simp only [Pt.enc];generalize hW:g6 (gX _ (ig _)) _ _=TW;generalize hE2:d8.mk _ _ _ _=E2;have eN2:E2.nx=NX:=by rw [<-hE2]
      have pass:∀a(o8:Option Sl),acc (i+1)=a->TW E2 [some (Sl.v (Rp.enc t.u_Paper r)),some (Sl.v (RV (Sb cN L))),some (Sl.v (Rg n)),some (Sl.v g.enc),some (Sl.v (Sw ((jI r n g).map λm=>Ra m))),some (Sl.o a),some (Sl.v (Ra nm)),some (Sl.v (RV [Ra w2,Ra kd,si.enc,Rg k,Ra u])),o8]:=λa o8 e=>by
       subst hW;walk_at "d";rw [bV k1,Yo Rl,eN2];exact fin _ _ _ _ e
      clear hW hE2;walk_at "d";by_cases hw:w2=Q6 "gone"
      ·subst hw;rw [Yp (beq_self_eq_true _)];refine⟨r,Q6 "gone",kd,si,k,u,n,rfl,xo.2.2.1,xo.2.2.2.2.2,hr',?_⟩;have df:mK r n g (.five (Q6 "gone") kd si k u)=if Q6 "gone"=Q6 "gone"/\fS n (fR r n (.five (Q6 "gone") kd si k u))=false then some (bp (fR r n (.five (Q6 "gone") kd si k u))) else none:=rfl
       cases hd:fR r n (.five (Q6 "gone") kd si k u) with
       | none=>
        rw [hd] at df;simp only [bp,dQ];walk_at "d";exact pass _ _ (none_ (by rw [df,Yo λz=>Bool.noConfusion (show true=false from z.2)]))
       | some d=>
        rw [hd] at df;simp only [bp,dQ];walk_at "d";by_cases hdn:d<=n
        ·rw [Yp hdn];refine⟨Yn,?_⟩;exact pass _ _ (some_ (.int d) (by rw [df,Yp ⟨rfl,decide_eq_false Yn⟩];rfl))
        ·rw [Yo hdn];exact pass _ _ (none_ (by rw [df,Yo λz=>hdn (by have:=of_decide_eq_false z.2;omega)]))
      ·rw [bV hw,Yo Rl];exact pass _ _ (none_ (by show(if w2=Q6 "gone"/\fS n (fR r n (.five w2 kd si k u))=false then some (bp (fR r n (.five w2 kd si k u))) else none)=none;rw [Yo λz=>hw z.1]))
   ·rintro δ ⟨o6,o7,o8,rfl⟩;rw [<-eN,Q8,ae];walk_at "d";exact q
def FY(kd:Str):Pt->Bool
 | .two w k=>w==Q6 "leave" && k==kd
 | _=>false
def fU(kd:Str)(L:List (Str×Pt)):List Str:=(L.filter λz=>FY kd z.2).map (·.1)
theorem Oh{a b:Str}:(a==b)=decide (a=b):=by
 by_cases h:a=b
 ·simp [h]
 ·rw [bV h,decide_eq_false h]
def Oi:List Ys->(Ys->Prop)->Prop:=λds Q=>∃(kd:Str)(L:List (Str×Pt)),ds=[.str kd,.tuple (L.map cN)]/\Rz kd=true/\i6 L/\Q (.list ((fU kd L).map .str))
theorem Oj{w:Str}(h:KG w):Rz w=true:=by rcases h with h | h <;> rw [h] <;> decide+kernel
theorem Ol{w:Str}(h:mG w):Rz w=true:=by rcases h with h | h | h <;> rw [h] <;> decide+kernel
theorem cj.lay{s:cj}(h:s.Ok):cL 2 s.enc:=by
 cases s with
 | com=>exact js (eo (fO cp) nH)
 | fst wd=>exact js (eo (fO cp) (eo (fO h) nH))
 | lst wd=>exact js (eo (fO cp) (eo (fO h) nH))
theorem Pt.lay{p:Pt}(h:p.Ok):cL 3 p.enc:=by
 cases p with
 | two w kd=>exact(js (n:=1) (eo (fO h.2.1) (eo (fO h.2.2) nH))).mono Ym
 | five w kd s k u=>exact js (eo (fO (Oj h.1)) (eo (fO h.2.1) (eo (cj.lay h.2.2.1) (eo C8 (eo (fO (Ol h.2.2.2.2.2)) nH)))))
theorem Om(T:Txt K mg t):aB P w K mg base CX0 1 t.a_d t.d_d ["kind","rules"] (aU K Oi):=by
 refine T.F_d.F.okD Nh (λds Q h=>?_) (λ_ _ _ _ H O ds Q E hr h=>?_)
 ·obtain⟨kd,L,rfl,_⟩:=h;rfl
 ·obtain⟨kd,L,rfl,hk,hL,q⟩:=h;refine'⟨_,?A,?B⟩
  case A=>
   refine' ax ?C
   case' C=>refine' bb ?D
   case' D=>refine' fe ?E
   case E=>exact(kQ rfl AJ (df (dv 1)) (iQ (cC aL (cC aL iP))) xh Ym (λ_ _ _ _=>(iC (n:=2) rfl (cB (aI (i:=0) AJ.nd rfl Yq) (cB (aI (i:=1) AJ.nd rfl Yq) iB)))) (λ_ _ _ _=>(d7 (aO (fM hr.units) fN (df (dv 1)) (df (bF (aa bj (aa (dv 2) aj)))) (aE _)))) (λ_ _ _ _=>(dv 0)))
  case B=>
  clear hr T;walk_at "d";refine⟨by rw [Q8];have:=hL.1;omega,cT (λz:Str×Pt=>FY kd z.2) (λz=>.str z.1) (λx hx R S h=>?_) ?_⟩
  ·have xo:=hL.2 x hx;obtain⟨nm,pt⟩:=x;have ly:=(Pt.lay xo).shp Ym;have ly2:VR (RV [Ra (Q6 "leave"),Ra kd])=true:=(js (n:=1) (eo (fO cp) (eo (fO hk) nH))).shp Ym;simp only [cN];cases pt with
   | two w2 kd2=>
    simp only [Pt.enc] at ly⊢;walk_at "d";refine⟨ly,ly2,?_⟩;have e:(RV [Ra w2,Ra kd2]).eqv (RV [Ra (Q6 "leave"),Ra kd])=(w2==Q6 "leave" && kd2==kd):=by simp [RC,S5,Oh]
    rw [e];exact h
   | five w2 kd2 si k u=>
    simp only [Pt.enc] at ly⊢;walk_at "d";refine⟨ly,ly2,?_⟩;rw [Yo (by simp [RC,S5])];exact h
  ·unfold fU at q;rw [RB] at q;exact q
theorem Oo{xs:List De}{n:Int}(g:gM xs)(h:iu xs n (dD xs n))(hl:(dD xs n).length<=41):i6 (dD xs n):=by
 refine⟨hl,λz hz=>?_⟩;obtain⟨d,_,hm,_⟩:=(h.2 z).mp hz;obtain⟨pt,e,ok⟩:=g.ru _ _ _ hm;rw [uX (VF e).1];exact ok
end
theorem FZ:aZ (av uH) ["ready","parts","days","paper"] ["base","parts"] 1 [1] ⟨Ri,[ (Q9 ".0",Z9),(Q9 "base",Z9),(Q9 "later",Sa),(Q9 "parts",RA)],false,false,[]⟩:=⟨rfl,cp,cp,cp,rfl,cp,cp,cp,rfl⟩
theorem F0:aZ (av rJ) ["deeds","ready","days","deed"] ["name","deeds"] 1 [0] ⟨Ri,[ (Q9 ".0",Z9),(Q9 "name",Z9),(Q9 "Paper",Sa),(Q9 "deeds",RA)],false,false,[]⟩:=⟨rfl,cp,cp,cp,rfl,cp,cp,cp,rfl⟩
theorem F1:aZ (av rJ) ["deeds","ready","days","deed"] ["deed"] 1 [] ⟨Ri,[(Q9 ".0",Z9),(Q9 "deed",Z9)],false,false,[]⟩:=⟨rfl,cp,cp,cp,rfl,cp,cp,cp,rfl⟩
section
variable {P:YE} {w:YF} {K:Q7} {mg:Str->Option Yt} {base:YG} {t:cF}
def va(r:Rp):cj->List Int
 | .com=>[r.c.d]
 | .fst wd=>(i5 r.hs wd).take 1
 | .lst wd=>i5 r.hs wd
theorem F2{r:Rp}(s:cj):(va r s).length<=r.hs.length+1:=by
 have fl:∀wd,(i5 r.hs wd).length<=r.hs.length:=λwd=>by
  unfold i5;rw [Q8];exact R1 _ _
 cases s with
 | com=>show 1<=_;omega
 | fst wd=>show((i5 r.hs wd).take 1).length<=_;rw [Sg];have:=fl wd;omega
 | lst wd=>have:=fl wd;show(i5 r.hs wd).length<=_;omega
theorem F3(xs:List Ys):eQ xs none (some 1)=xs.take 1:=by
 cases xs with
 | nil=>rfl
 | cons a l=>rw [Km Ym (by simp;omega)];rfl
def F_e(C:Yu):List Ys->(Ys->Prop)->Prop:=λds Q=>∃(s:cj)(r:Rp),ds=[s.enc,r.enc C]/\s.Ok/\rN r.hs/\Q (.list ((va r s).map .int))
theorem Oq(T:Txt K mg t):aB P w K mg base CX0 2 t.a_e t.d_e ["since","paper"] (aU K (F_e t.u_Paper)):=by
 have G_W:=@Fx P w _ _ base _ T;refine T.F_e.F.okD ER (λds Q h=>?_) (λ_ _ _ _ H O ds Q E hr h=>?_)
 ·obtain⟨s,r,rfl,_⟩:=h;rfl
 ·obtain⟨si,r,rfl,hsi,hh,q⟩:=h;refine'⟨_,?A,?B⟩
  case A=>
   refine' aq ?C ?D
   case C=>
    refine' bR ?E ?F bQ
    case E=>exact(aO (dO hr) dP (df (ao aF aJ (df (dv 0)) (df ag))) (df bj) (aE _))
    case' F=>refine' ax ?G
    case G=>exact(bb (fe (cn (aa (cg (C:=t.u_Paper) T.cl_Paper T.na_Paper_coming (dv 1)) aj))))
   case' D=>refine' aq ?H ?I
   case H=>exact(bo (i:=2) ER.nd rfl Yq (PE.imp (aD G_W (hr.mono Ym) rfl T.F_W (aa (dv 1) (aa (ao aF aJ (df (dv 0)) (df ag)) aj))) aK))
   case' I=>refine' ax ?J
   case' J=>refine' bb ?K
   case K=>exact(qT (aO (dO hr) dP (df (ao aF aJ (df (dv 0)) (df ag))) (df bj) (aE _)) (fe (qU (df (dv 2)) nc (iS ag))) (dv 2))
  case B=>
  clear hr T G_W;cases si with
  | com=>
   simp only [cj.enc];walk_at "d";exact⟨[Q6 "name",Q6 "coming",Q6 "kind",Q6 "makers",Q6 "happenings"],_,rfl,_,uU,q⟩
  | fst wd=>
   simp only [cj.enc];walk_at "d";rw [bV (show Q6 "first"≠Q6 "coming" by decide+kernel),Yo Rl];refine⟨r,wd,rfl,hh,hsi,_,rfl,?_⟩;rw [F3,<-WY];exact q
  | lst wd=>
   simp only [cj.enc];walk_at "d";rw [bV (show Q6 "last"≠Q6 "coming" by decide+kernel),Yo Rl];refine⟨r,wd,rfl,hh,hsi,?_⟩;show if (Q6 "last"==Q6 "first")=true then _ else _
   rw [bV (show Q6 "last"≠Q6 "first" by decide+kernel),Yo Rl];exact q
def ix(rs:List Rp)(kd:Str)(s:cj)(k:Int)(u:Str):List Int:=rs.flatMap λr=>if (r.c.kd==kd)=true then(va r s).map λb=>cu b k u else []
theorem Ot{m:Nat}{rs:List Rp}(h:∀r∈rs,r.hs.length<=m)(kd:Str)(s:cj)(k:Int)(u:Str):(ix rs kd s k u).length<=(m+1)*rs.length:=by
 unfold ix
 induction rs with
 | nil=>simp
 | cons r rs ih=>
  have ih:=ih λx hx=>h x (by simp [hx]);have hb:=F2 (r:=r) s;have h1:=h r Yr;rw [UY,Rv,Rq,Nat.mul_succ];split
  ·rw [Q8];omega
  ·simp only [R8];omega
def Ou(C:Yu):List Ys->(Ys->Prop)->Prop:=λds Q=>∃(rs:List Rp)(w kd:Str)(s:cj)(k:Int)(u:Str),ds=[.list (rs.map (Rp.enc C)),(Pt.five w kd s k u).enc]/\(Pt.five w kd s k u).Ok/\rs.length<=41/\(∀r∈rs,rN r.hs/\Rz r.c.kd=true)/\Q (.list ((ix rs kd s k u).map .int))
theorem Ov(T:Txt K mg t):aB P w K mg base CX0 6 t.a_f t.d_f ["ready","parts"] (aU K (Ou t.u_Paper)):=by
 have G_e:=@Oq P w _ _ base _ T;have G_H:=@Fd P w _ _ base _ T;refine T.F_f.F.okD An (λds Q h=>?_) (λ_ _ _ _ H O ds Q E hr h=>?_)
 ·obtain⟨rs,w,kd,s,k,u,rfl,_⟩:=h;rfl
 ·obtain⟨rs,wo,kd,si,k,u,rfl,ok,rl,hr',q⟩:=h;refine'⟨_,?A,?B⟩
  case A=>
   refine' aq ?C ?D
   case C=>exact(g7 (i:=2) An.nd rfl Yq (cn aj))
   case' D=>refine' aq ?E ?F
   case E=>
    refine' iR RU rfl (dv 0) ?G aL ?H
    case G=>exact(aI (i:=3) An.nd rfl Yq)
    case' H=>refine' ax ?I
    case' I=>refine' bR ?J ?K bQ
    case J=>exact(aO (fM hr.units) fN (df (cg (C:=t.u_Paper) T.cl_Paper T.na_Paper_kind (dv 3))) (df (ao aF aJ (df (dv 1)) (df ag))) (aE _))
    case' K=>refine' ax ?L
    case L=>exact(tP (i:=2) (pv 2) (fh rfl FZ (df (PE.imp (aD G_e (hr.mono Ym) rfl T.F_e (aa (ao aF aJ (df (dv 1)) (df ag)) (aa (dv 3) aj))) aK)) aL bS Ym (λ_ _ _ _=>(aI (i:=0) FZ.nd rfl Yq)) (λ_ _ _ _=>eU) (λ_ _ _ _=>(PE.imp (aD G_H (hr.mono Ym) rfl T.F_H (aa (dv 0) (aa (ao aF aJ (df (dv 1)) (df ag)) (aa (ao aF aJ (df (dv 1)) (df ag)) aj)))) aK))))
   case' F=>refine' ax ?M
   case M=>exact(pH (pv 2))
  case B=>
  clear hr T G_e G_H;walk_at "d";refine⟨λi δ=>∃o3,δ=[some (Sl.v (.list (rs.map (Rp.enc t.u_Paper)))),some (Sl.v (Pt.five wo kd si k u).enc),some (Sl.o ((ix (rs.take i) kd si k u).map .int)),o3],⟨_,rfl⟩,?_,?_⟩
  ·rintro i z δ hz ⟨o3,rfl⟩;rw [Rt] at hz;cases hz':rs[i]? with
   | none=>rw [hz'] at hz;cases hz
   | some r=>
    rw [hz'] at hz;cases hz;obtain⟨h1,h2⟩:=hr' r (RN hz');have bl:=F2 (r:=r) si;have h11:=h1.1;have il:(rs.take i).length<=41:=by rw [Sg];omega
    have rk:=Ot (m:=41) (rs:=rs.take i) (λx hx=>(hr' x (Vc hx)).1.1) kd si k u;have rk2:(41+1)*(rs.take i).length<=42*41:=Nat.mul_le_mul_left _ il;simp only [Pt.enc];walk_at "d";refine⟨[Q6 "name",Q6 "coming",Q6 "kind",Q6 "makers",Q6 "happenings"],_,rfl,_,uV,c7.mpr h2,c7.mpr ok.2.1,?_⟩;rw [eV];have ts:ix (rs.take (i+1)) kd si k u=ix (rs.take i) kd si k u++if (r.c.kd==kd)=true then(va r si).map λb=>cu b k u else []:=by
     unfold ix;rw [R4,hz',UE];simp
    split
    ·rename_i hk;rw [Yp hk] at ts;refine⟨si,r,rfl,ok.2.2.1,h1,_,rfl,by rw [Q8];omega,jE (λ_=>true) (λb=>.int (cu b k u)) (λb hb R S z1 _=>?_) ?_⟩
     ·walk_at "d";exact⟨b,k,u,rfl,ok.2.2.2.2.2,λx hx=>by rw [oV hx];exact z1 rfl⟩
     ·rw [ik];refine⟨by rw [Q8,Q8];omega,?_,_,rfl⟩;rw [ts,RH,RB];rfl
    ·rename_i hk;rw [Yo hk,RY] at ts;rw [ts];exact⟨rfl,_,rfl⟩
  ·rintro δ ⟨o3,rfl⟩;walk_at "d";rw [Q8,RM (Rf _)];exact q
def fV(xs:List De):List Rp:=(bB (ay xs)).map (bL xs)
def oW(x:De)(p:Str×cj×Int×Str):Prop:=∃d nm w,x= .oth (Q6 "rule") d nm [(Pt.five w p.1 p.2.1 p.2.2.1 p.2.2.2).enc]
theorem oW.uniq{x:De}{p q:Str×cj×Int×Str}(h:oW x p)(h':oW x q):p=q:=by
 obtain⟨d,nm,w,e⟩:=h;obtain⟨d',nm',w',e'⟩:=h';rw [e] at e';obtain⟨kd,s,k,u⟩:=p;obtain⟨kd',s',k',u'⟩:=q;simp only [De.oth.injEq,Pt.enc,RZ,SI,SJ,SX,and_true,true_and] at e';obtain⟨_,_,_,h1,h2,h3,h4⟩:=e';rw [h1,FD h2,h3,h4]
open Classical in
def bW(xs:List De)(x:De):List Int:=if h:∃p,oW x p then ix (fV xs) h.choose.1 h.choose.2.1 h.choose.2.2.1 h.choose.2.2.2 else []
theorem Ow{xs:List De}{x:De}{p:Str×cj×Int×Str}(h:oW x p):bW xs x=ix (fV xs) p.1 p.2.1 p.2.2.1 p.2.2.2:=by
 have e:∃p,oW x p:=⟨p,h⟩;unfold bW;rw [dif_pos e,h.uniq e.choose_spec]
theorem F4{xs:List De}{x:De}(h:∀p,¬oW x p):bW xs x=[]:=by
 unfold bW;rw [dif_neg λuu92=>by obtain⟨p,z⟩:=uu92;exact h p z]
theorem rQ(xs:List De)(d:Int)(nm w2 kd:Str)(s:cj)(k:Int)(u:Str):bW xs (.oth (Q6 "rule") d nm [(Pt.five w2 kd s k u).enc])=ix (fV xs) kd s k u:=Ow (p:=(kd,s,k,u)) ⟨d,nm,w2,rfl⟩
theorem Ox(xs:List De)(d:Int)(nm wo w2 kd:Str):bW xs (.oth wo d nm [(Pt.two w2 kd).enc])=[]:=F4 λp uu93=>by obtain⟨_,_,_,e⟩:=uu93;simp [Pt.enc] at e
theorem rR{xs:List De}{x:De}(h:x.isR=false):bW xs x=[]:=F4 λp uu94=>by obtain⟨_,_,_,e⟩:=uu94;rw [e] at h;simp [De.isR] at h
def fW(xs:List De):List Int:=xs.map De.d++xs.flatMap (bW xs)
def iy(xs:List De)(ns:List Int):Prop:=(∀z,z∈ns↔z∈fW xs)/\ns.Pairwise (· < ·)
theorem Oy{l m:List Int}(h1:l.Pairwise (· < ·))(h2:m.Pairwise (· < ·))(h:∀z,z∈l↔z∈m):l=m:=
 mH (λa b z=>by omega) ((Vf (h1.imp λz e=>by omega) (h2.imp λz e=>by omega)).mpr h) h1 h2
open Classical in
def eD(xs:List De):List Int:=if h:∃ns,iy xs ns then h.choose else []
theorem vb{xs:List De}{ns:List Int}(h:iy xs ns):ns=eD xs:=by
 unfold eD;have e:∃ns,iy xs ns:=⟨ns,h⟩;rw [dif_pos e];exact Oy h.2 e.choose_spec.2 λz=>(h.1 z).trans (e.choose_spec.1 z).symm
structure ki (xs:List De):Prop where
 ln:(fW xs).length < 4000
 fw:∃L:List Int,L.length < 64/\∀z∈fW xs,z∈L
theorem F5{l L:List Int}(nd:l.Nodup)(hm:∀z∈l,z∈L):l.length<=L.length:=by
 induction l generalizing L with
 | nil=>simp
 | cons a l ih=>
  rw [Ss] at nd;obtain⟨p,q,e⟩:=Xh (hm a Yr);have:=ih (L:=p++q) nd.2 λb hb=>by
   have hb':=hm b (by simp [hb]);rw [e] at hb';rcases Ry.mp hb' with z | z
   ·exact T1 _ z
   ·rcases Rh.mp z with z | z
    ·exact absurd (by rw [<-z];exact hb) nd.1
    ·exact R0 _ z
  rw [e,Rv,Rq,Rq];rw [Rv] at this;omega
theorem Oz{xs:List De}(g:gM xs)(h:∀c∈ay xs,gN (bL xs c)):∀r∈fV xs,rN r.hs/\Rz r.c.kd=true:=λr hr=>by
 obtain⟨c,hc,rfl⟩:=Rj.mp hr;have hc:=ke.mp hc;exact⟨(h c hc).1,g.gx.gp.kd c hc⟩
theorem OA{xs:List De}{i:Nat}{x:De}(h:xs[i]?=some x):(xs.map De.d++(xs.take (i+1)).flatMap (bW xs))=(xs.map De.d++(xs.take i).flatMap (bW xs))++bW xs x:=by
 rw [R4,h,UE,<-UW];simp
def OB:List Ys->(Ys->Prop)->Prop:=λds Q=>∃xs:List De,ds=[.tuple (xs.map De.enc)]/\gM xs/\((∀c∈ay xs,gN (bL xs c))->ki xs)/\(iy xs (eD xs)->(eD xs).length < 64->Q (.tuple ((eD xs).map .int)))
theorem OC(T:Txt K mg t):aB P w K mg base CX0 9 t.a_g t.d_g ["deeds"] (aU K OB):=by
 have G_I:=@Fw P w _ _ base _ T;have G_M:=@AB P w _ _ base _ T;have G_f:=@Ov P w _ _ base _ T;refine T.F_g.F.okD uQ (λds Q h=>?_) (λ_ _ _ _ H O ds Q E hr h=>?_)
 ·obtain⟨xs,rfl,_⟩:=h;rfl
 ·obtain⟨xs,rfl,gd,few,q⟩:=h;refine'⟨_,?A,?B⟩
  case A=>
   refine' aq ?C ?D
   case C=>exact(lI (i:=1) uQ.nd rfl Yq (oK rfl F0 (df (PE.imp (aD G_M (hr.mono Ym) rfl T.F_M (aa (dv 0) aj)) aK)) aL bS Ym (λ_ _ _ _=>(aI (i:=0) F0.nd rfl Yq)) (λ_ _ _ _=>eU) (λ_ _ _ _=>(PE.imp (sP T.mk_Paper G_I (hr.mono Ym) rfl T.c_Paper T.F_I.b .nil gf (aa (dv 1) (aa (dv 0) aj))) xi))))
   case' D=>refine' aq ?E ?F
   case E=>exact(D6 (i:=2) uQ.nd rfl Yq (oK rfl F1 (df (dv 0)) aL bS Ym (λ_ _ _ _=>(aI (i:=0) F1.nd rfl Yq)) (λ_ _ _ _=>eU) (λ_ _ _ _=>(ao aF aJ (df (dv 0)) (df ag)))))
   case' F=>refine' aq ?G ?H
   case G=>
    refine' pK RU rfl (dv 0) ?I aL ?J
    case I=>exact(aI (i:=3) uQ.nd rfl Yq)
    case' J=>refine' ax ?K
    case' K=>refine' bR ?L ?M bQ
    case L=>exact(PW.pt (gm (aO (dO hr) dP (df (ao aF aJ (df (dv 3)) (df ag))) (df bj) (aE _)) (gJ (aO (C5 hr) C6 (df (ao aF aJ (df (ao aF aJ (df (dv 3)) (df ag))) (df ag))) (df (bF (aa bj (aa bj aj)))) rfl))))
    case' M=>refine' ax ?N
    case N=>exact(xq (i:=2) (pv 2) (PE.imp (aD G_f (hr.mono Ym) rfl T.F_f (aa (dv 1) (aa (ao aF aJ (df (dv 3)) (df ag)) aj))) aK))
   case' H=>refine' ax ?O
   case O=>exact(bb (PE.imp (dZ gS rfl T.n_tuple gT (bz (df (fe (D5 rfl rfl T.n_sorted S7 rfl T.n_set (bz (dw 2) bG)))) bG)) (cf ia)))
  case B=>
  clear hr T G_I G_M G_f;walk_at "d";have ln:=gd.gx.ln;have ol:=jD (ps:=ay xs);have pl:=gd.gx.gp.ln;refine⟨xs,rfl,gd.gx,_,rfl,by rw [Q8,Q8];omega,?_⟩;refine⟨λi acc=>acc=((bB (ay xs)).take i).map (λc=>(bL xs c).enc t.u_Paper)/\∀c∈(bB (ay xs)).take i,gN (bL xs c),⟨rfl,Yr⟩,?_,?_⟩
  ·rintro i z acc hz ⟨rfl,hh⟩;rw [Rt,Rt] at hz;cases hz':(bB (ay xs))[i]? with
   | none=>rw [hz'] at hz;cases hz
   | some c=>
    rw [hz'] at hz;cases hz;walk_at "d";have hc:=ke.mp (RN hz');refine⟨xs,c,rfl,gd,hc,λh1 h2 h3=>⟨?_,λc' hc'=>?_⟩⟩
    ·rw [R4,hz',RH];rfl
    ·rw [R4,hz'] at hc';rcases Ry.mp hc' with y | y
     ·exact hh c' y
     ·have y:c'=c:=by simpa using y
      rw [y];exact FN gd hc h1 h3
  ·rintro acc ⟨rfl,hh⟩;simp only [Q8,XF] at hh⊢;have hh:∀c∈ay xs,gN (bL xs c):=λc hc=>hh c (ke.mpr hc);obtain⟨f1,L,f2,f3⟩:=few hh;have hok:=Oz gd hh;have re:(bB (ay xs)).map (λc=>(bL xs c).enc t.u_Paper)=(fV xs).map (Rp.enc t.u_Paper):=by unfold fV;rw [RB];rfl
   have rl:(fV xs).length<=41:=by unfold fV;rw [Q8];omega
   rw [re];refine⟨Yn,jE (λ_=>true) (λx:De=>.int x.d) (λx hx R S h1 _=>?_) ?_⟩
   ·cases x <;> simp only [De.enc,Pp.enc] <;> walk_at "d" <;> exact h1 rfl
   ·rw [ik];have bnd:∀i,(xs.map De.d++(xs.take i).flatMap (bW xs)).length<=(fW xs).length:=λi=>by
     unfold fW;rw [Rv,Rv];have:((xs.take i).flatMap (bW xs)).length<=(xs.flatMap (bW xs)).length:=by
      have e:xs.flatMap (bW xs)=(xs.take i).flatMap (bW xs)++(xs.drop i).flatMap (bW xs):=by rw [<-UE,U3]
      rw [e,Rv];omega
     omega
    refine⟨λi δ=>∃(o3:Option Sl),δ=[some (Sl.v (.tuple (xs.map De.enc))),some (Sl.v (.list ((fV xs).map (Rp.enc t.u_Paper)))),some (Sl.o ((xs.map De.d++(xs.take i).flatMap (bW xs)).map .int)),o3],⟨none,Yr⟩,?_,?_⟩
    ·rintro i z δ hz ⟨o3,rfl⟩;rw [Rt] at hz;cases hz':xs[i]? with
     | none=>rw [hz'] at hz;cases hz
     | some x=>
      rw [hz'] at hz;cases hz;have hx:=RN hz';have ts:=OA hz';have bd:=bnd i;have bd2:=bnd (i+1);rw [ts] at bd2;simp only [ts];generalize xs.map De.d++(xs.take i).flatMap (bW xs)=L0 at bd bd2⊢;cases x with
      | pap p=>
       simp only [De.enc,Pp.enc];walk_at "d";exact⟨by rw [rR rfl,RY],_,rfl⟩
      | oth wo d nm r=>
       simp only [De.enc];walk_at "d";by_cases hw:wo=Q6 "rule"
       ·subst hw;obtain⟨pt,rfl,ok⟩:=gd.ru _ _ _ hx;rw [Yp (beq_self_eq_true _)];cases pt with
        | two w2 kd=>
         refine⟨_,gy,_,rfl,_,dJ,rfl,?_⟩;rw [eV,eV,bV (λe=>ok.1 (.inl e.symm)),bV (λe=>ok.1 (.inr e.symm)),Yo Ym];exact⟨by rw [Ox,RY],_,rfl⟩
        | five w2 kd s k u=>
         refine⟨_,gy,_,rfl,_,dJ,rfl,?_⟩;have hk:((Ra (Q6 "keep")).eqv (Ra w2) || (Ra (Q6 "gone")).eqv (Ra w2))=true:=by
          rw [eV,eV];rcases ok.1 with e | e <;> rw [e] <;> decide+kernel
         rw [Yp hk];rw [rQ] at bd2⊢;rw [Rv] at bd2;exact⟨_,gy,fV xs,w2,kd,s,k,u,rfl,ok,rl,hok,_,rfl,by rw [Q8,Q8];omega,by rw [RH],_,rfl⟩
       ·rw [Yo (by simpa using hw)];have:bW xs (.oth wo d nm r)=[]:=rR (bV hw);rw [this,RY];exact⟨rfl,_,rfl⟩
    ·rintro δ ⟨o3,rfl⟩;rw [Q8,RM (Rf _)];have tl:xs.map De.d++xs.flatMap (bW xs)=fW xs:=rfl;rw [tl];walk_at "d";refine⟨fW xs,rfl,f1,?_,λns h1 h2=>?_⟩
     ·refine UQ (F5 (xm .nil) λz hz=>?_) f2;rw [xk] at hz;rcases hz with y | y
      ·cases y
      ·exact f3 z y
     ·have it:iy xs ns:=⟨h1,h2⟩;have e:=vb it;have lt:ns.length < 64:=UQ (F5 (h2.imp λz e=>by omega) λz hz=>f3 z ((h1 z).mp hz)) f2;rw [e] at it lt⊢;exact q it lt
end
theorem F6:aZ (av uz) ["deeds","day"] ["deed"] 1 [] ⟨Ri,[(Q9 ".0",Z9),(Q9 "deed",Z9)],false,false,[]⟩:=⟨rfl,cp,cp,cp,rfl,cp,cp,cp,rfl⟩
theorem F7:aZ (av uA) ["holds","line","names","hold","target","deep","reached"] ["coming","target"] 1 [4] ⟨Ri,[ (Q9 ".0",Z9),(Q9 "coming",Z9),(Q9 "is_told",Sa),(Q9 "target",RA)],false,false,[]⟩:=⟨rfl,cp,cp,cp,rfl,cp,cp,cp,rfl⟩
section
variable {P:YE} {w:YF} {K:Q7} {mg:Str->Option Yt} {base:YG} {t:cF}
def F8(a b:Rw):Prop:=dM a.nm b.nm=true/\a.nm≠b.nm
def Uq(ws:List Str)(n:Int)(xs:List Rw):Prop:=∀x∈xs,∀y∈xs,dR ws n x->dR ws n y->x.nm=y.nm->x.n=y.n->x=y
theorem vc{ws:List Str}{n:Int}{xs res:List Rw}(h:dA ws n xs res):res.Pairwise F8:=by
 have up:=h.up;have nd:=h.nd;rw [SD] at up;rw [VW,SD] at nd;exact up.and nd
theorem F9{ws:List Str}{n:Int}{xs r1 r2:List Rw}(u:Uq ws n xs)(h1:dA ws n xs r1)(h2:dA ws n xs r2)(x:Rw)(hx:x∈r1):x∈r2:=by
 obtain⟨a1,a2,a3⟩:=h1.it x hx;obtain⟨y,hy,yn⟩:=h2.al x a1 a2;obtain⟨b1,b2,b3⟩:=h2.it y hy;have e:x=y:=u x a1 y b1 a2 b2 yn.symm (XR (b3 x a1 a2 yn.symm) (a3 y b1 b2 yn));rw [e];exact hy
theorem OD{ws:List Str}{n:Int}{xs r1 r2:List Rw}(u:Uq ws n xs)(h1:dA ws n xs r1)(h2:dA ws n xs r2):r1=r2:=
 mH (r:=F8) (λa b h z=>h.2 (wQ h.1 z.1)) ((Vf ((vc h1).imp λz e=>z.2 (by rw [e])) ((vc h2).imp λz e=>z.2 (by rw [e]))).mpr λx=>⟨F9 u h1 h2 x,F9 u h2 h1 x⟩) (vc h1) (vc h2)
open Classical in
def vd(ws:List Str)(n:Int)(xs:List Rw):List Rw:=if h:∃r,dA ws n xs r then h.choose else []
theorem oX{ws:List Str}{n:Int}{xs r:List Rw}(u:Uq ws n xs)(h:dA ws n xs r):r=vd ws n xs:=by
 unfold vd;have e:∃r,dA ws n xs r:=⟨r,h⟩;rw [dif_pos e];exact OD u h e.choose_spec
def fq(ip:Bool)(tn:Str):Ys:= .tuple [.str (if ip=true then Q6 "paper" else Q6 "kind"),.str tn]
structure Hd where
 nm:Str
 ip:Bool
 tn:Str
 dp:Bool
def Hd.enc(h:Hd):Ys:= .tuple [.str h.nm,fq h.ip h.tn,.bool h.dp]
def De.isL:De->Bool
 | .oth w _ _ _=>w==Q6 "hold" || w==Q6 "lift"
 | _=>false
structure bX (xs:List De):Prop where
 gd:gM xs
 ho:∀d nm r,De.oth (Q6 "hold") d nm r∈xs->∃(ip:Bool)(tn:Str)(dp:Bool),r=[fq ip tn,.bool dp]/\Rz tn=true
 le:∀d nm r,De.oth (Q6 "leave") d nm r∈xs->∃kd,r=[.str kd]/\Rz kd=true
 rh:∀x∈xs,∀y∈xs,x.isL=true->y.isL=true->x.d=y.d->x.nm=y.nm->x=y
 lv:∀x∈xs,∀y∈xs,x.w=Q6 "leave"->y.w=Q6 "leave"->x.nm=y.nm->x=y
def cy:List Str:=["hold","lift"]
def rS:List Ys->Bool×Str×Bool
 | [.tuple [.str a,.str b],.bool c]=>(a==Q6 "paper",b,c)
 | _=>(false,Q6 "",false)
def rT(x:Rw):Hd:=⟨x.nm,(rS x.r).1,(rS x.r).2.1,(rS x.r).2.2⟩
theorem AL{x:Rw}{ip dp:Bool}{tn:Str}(h:x.r=[fq ip tn,.bool dp]):rT x=⟨x.nm,ip,tn,dp⟩:=by
 unfold rT;rw [h];cases ip with
 | true=>simp [fq,rS]
 | false=>simp [fq,rS,bV (show Q6 "kind"≠Q6 "paper" by decide+kernel)]
def mL(res:List Rw):List Hd:=(res.filter λx=>x.w==Q6 "hold").map rT
def cG(xs:List De)(n:Int):List Hd:=mL (vd cy n (xs.map De.rw))
theorem AM{w:Str}(h:w∈cy):w=Q6 "hold"\/w=Q6 "lift":=by
 unfold cy at h;rcases Rh.mp h with e | h
 ·exact .inl e
 ·rcases Rh.mp h with e | h
  ·exact .inr e
  ·cases h
theorem oY{xs:List De}{n:Int}(g:bX xs):Uq cy n (xs.map De.rw):=by
 intro x hx y hy ox oy e1 e2;obtain⟨a,ha,rfl⟩:=Rj.mp hx;obtain⟨b,hb,rfl⟩:=Rj.mp hy;have il:∀z:De,z.rw.w∈cy->z.isL=true/\z.rw.nm=z.nm/\z.rw.n=z.d:=λz hz=>by
  cases z with
  | pap p=>exact absurd (AM hz) (by show ¬(Q6 "paper"=_\/Q6 "paper"=_);decide+kernel)
  | oth w d nm r=>
   refine⟨?_,rfl,rfl⟩;have hz:w∈cy:=hz;rcases AM hz with e | e <;> simp [De.isL,e]
 obtain⟨a1,a2,a3⟩:=il a ox.1;obtain⟨b1,b2,b3⟩:=il b oy.1;rw [g.rh a ha b hb a1 b1 (by rw [<-a3,<-b3];exact e2) (by rw [<-a2,<-b2];exact e1)]
def rV(hs:List Hd):Prop:=hs.length<=41/\∀h∈hs,Rz h.tn=true
def OE:List Ys->(Ys->Prop)->Prop:=λds Q=>∃(xs:List De)(n:Int),ds=[.tuple (xs.map De.enc),.int n]/\bX xs/\(rV (cG xs n)->Q (.tuple ((cG xs n).map Hd.enc)))
theorem Ga(T:Txt K mg t):aB P w K mg base CX0 2 t.a_S t.d_S ["deeds","day"] (aU K OE):=by
 have G_Q:=@Fz P w _ _ base _ T;refine T.F_S.F.okD Nb (λds Q h=>?_) (λ_ _ _ _ H O ds Q E hr h=>?_)
 ·obtain⟨xs,n,rfl,_⟩:=h;rfl
 ·obtain⟨xs,n,rfl,g,q⟩:=h;refine'⟨_,?A,?B⟩
  case A=>
   refine' ax ?C
   case' C=>generalize hG2:WE _ _ _ _=eg2
   refine' bb ?D
   case' D=>subst hG2
   exact(PE.imp (dZ gS rfl T.n_tuple gT (bz (df (fe (fh rfl F6 (df (PE.imp (aD G_Q (hr.mono Ym) rfl T.F_Q (aa (dv 0) (aa (bF (aa bj (aa bj aj))) (aa (dv 1) aj)))) aK)) aL bS Ym (λ_ _ _ _=>(aI (i:=0) F6.nd rfl Yq)) (λ_ _ _ _=>(d7 (aO (dO hr) dP (df (ao aF aJ (df (dv 0)) (df ag))) (df bj) (aE _)))) (λ_ _ _ _=>(bF (aa (ao aF aJ (df (dv 0)) (df ag)) (aa (ao aF aJ (df (dv 0)) (df ag)) (aa (ao aF aJ (df (dv 0)) (df ag)) aj)))))))) bG)) (cf ia))
  case B=>
  clear hr T G_Q;have ok:=FJ g.gd (λw d nm r h=>g.gd.gx.w _ h);walk_at "d";refine⟨xs.map De.rw,cy,n,by rw [AH];rfl,ok.st,cp,ok.le,λres hres=>⟨_,rfl,?_,?_⟩⟩
  ·rw [Q8];have:=hres.le;have:=ok.le;omega
  have fm:∀x∈res,x.w=Q6 "hold"->∃(ip:Bool)(tn:Str)(dp:Bool),x.r=[fq ip tn,.bool dp]/\Rz tn=true:=λx hx hw=>by
   obtain⟨h1,_,_⟩:=hres.it x hx;obtain⟨y,hy,rfl⟩:=Rj.mp h1;cases y with
   | pap p=>exact absurd hw (by show Q6 "paper"≠_;decide+kernel)
   | oth w d nm r=>
    have hw:w=Q6 "hold":=hw;subst hw;exact g.ho _ _ _ hy
  have e:=oX (oY g) hres;have q:rV (mL res)->Q (.tuple ((mL res).map Hd.enc)):=by rw [e];exact q
  refine cT (enc:=Rw.enc) (λx=>x.w==Q6 "hold") (λx=>(rT x).enc) (λx hx R S h=>?_) ?_
  ·simp only [Rw.enc];walk_at "d";by_cases hr:(x.w==Q6 "hold")=true
   ·rw [Yp hr] at h⊢;obtain⟨ip,tn,dp,hp,_⟩:=fm x hx (eq_of_beq hr);rw [AL hp] at h;rw [hp];exact⟨_,gy,_,lF,h⟩
   ·rw [Yo hr] at h⊢;exact h
  ·have e2:(Tr (λx=>x.w==Q6 "hold") res).map (λx=>(rT x).enc)=(mL res).map Hd.enc:=by unfold mL;rw [RB];rfl
   rw [e2];refine q ⟨?_,λh hh=>?_⟩
   ·unfold mL;rw [Q8];have h1:=R1 (λx:Rw=>x.w==Q6 "hold") res;have h2:=hres.le;rw [Q8] at h2;have:=g.gd.gx.ln;omega
   ·obtain⟨x,hx,rfl⟩:=Rj.mp hh;obtain⟨hx1,hx2⟩:=RK.mp hx;obtain⟨ip,tn,dp,hp,hk⟩:=fm x hx1 (eq_of_beq hx2);rw [AL hp];exact hk
def gE(ip:Bool)(tn:Str)(c:Pp):Bool:=tn==if ip=true then c.nm else c.kd
def Gb:List Ys->(Ys->Prop)->Prop:=λds Q=>∃(ip:Bool)(tn:Str)(c:Pp),ds=[fq ip tn,c.enc]/\Rz tn=true/\Rz c.nm=true/\Rz c.kd=true/\Q (.bool (gE ip tn c))
theorem OF(T:Txt K mg t):aB P w K mg base CX0 1 t.a_T t.d_T ["target","coming"] (aU K Gb):=by
 refine T.F_T.F.okD Nc (λds Q h=>?_) (λ_ _ _ _ H O ds Q E hr h=>?_)
 ·obtain⟨ip,tn,c,rfl,_⟩:=h;rfl
 ·obtain⟨ip,tn,c,rfl,h1,h2,h3,q⟩:=h;refine'⟨_,?A,?B⟩
  case A=>
   refine' ax ?C
   case' C=>refine' bb ?D
   case D=>exact(cX (fM hr.units) fN (df (ao aF aJ (df (dv 0)) (df ag))) (df (qT (aO (dO hr) dP (df (ao aF aJ (df (dv 0)) (df ag))) (df bj) (aE _)) (ao aF aJ (df (dv 1)) (df ag)) (ao aF aJ (df (dv 1)) (df ag)))) (aE _))
  case B=>
  clear hr T;simp only [fq,Pp.enc];unfold gE at q;cases ip with
  | true=>
   walk_at "d";exact⟨c7.mpr h1,c7.mpr h2,q⟩
  | false=>
   walk_at "d";rw [Yo (show ¬(Q6 "kind"==Q6 "paper")=true by decide+kernel)];exact⟨c7.mpr h1,c7.mpr h3,q⟩
def qp(line:List Pp)(h:Hd):Bool:=(if h.dp=true then line else line.take 1).any (gE h.ip h.tn)
def ft(hs:List Hd)(line:List Pp):List Str:=(hs.filter (qp line)).map (·.nm)
def ve(line:List Pp):Prop:=line.length<=41/\∀c∈line,Rz c.nm=true/\Rz c.kd=true
def F_U:List Ys->(Ys->Prop)->Prop:=λds Q=>∃(hs:List Hd)(line:List Pp),ds=[.tuple (hs.map Hd.enc),.list (line.map Pp.enc)]/\rV hs/\ve line/\Q (.tuple ((ft hs line).map .str))
theorem Gd(T:Txt K mg t):aB P w K mg base CX0 2 t.a_U t.d_U ["holds","line"] (aU K F_U):=by
 have G_T:=@OF P w _ _ base _ T;refine T.F_U.F.okD p7 (λds Q h=>?_) (λ_ _ _ _ H O ds Q E hr h=>?_)
 ·obtain⟨hs,line,rfl,_⟩:=h;rfl
 ·obtain⟨hs,line,rfl,ho,lo,q⟩:=h;refine'⟨_,?A,?B⟩
  case A=>
   refine' aq ?C ?D
   case C=>exact(g7 (i:=2) p7.nd rfl Yq (cn aj))
   case' D=>refine' aq ?E ?F
   case E=>
    refine' pK RU rfl (dv 0) ?G (iQ (cC aL (cC aL (cC aL iP)))) ?H
    case G=>exact(iC (n:=3) rfl (cB (aI (i:=3) p7.nd rfl Yq) (cB (aI (i:=4) p7.nd rfl Yq) (cB (aI (i:=5) p7.nd rfl Yq) iB))))
    case' H=>refine' aq ?I ?J
    case I=>exact(bo (i:=6) p7.nd rfl Yq (qT (mX (dv 5)) (dv 1) (fe (qU (df (dv 1)) nc (iS ag)))))
    case' J=>refine' ax ?K
    case' K=>refine' bR ?L ?M bQ
    case L=>exact(mX (PE.imp (eL (J0 rfl) rfl T.n_any J1 (bz (df (fe (fh rfl F7 (df (dv 6)) aL bS Ym (λ_ _ _ _=>(aI (i:=0) F7.nd rfl Yq)) (λ_ _ _ _=>eU) (λ_ _ _ _=>(PE.imp (aD G_T (hr.mono Ym) rfl T.F_T (aa (dv 1) (aa (dv 0) aj))) aK))))) bG)) (cf Ke)))
    case' M=>refine' ax ?N
    case N=>exact(hG (i:=2) (pv 2) (dv 3))
   case' F=>refine' ax ?O
   case O=>exact(bb (PE.imp (dZ gS rfl T.n_tuple gT (bz (dw 2) bG)) (cf ia)))
  case B=>
  clear hr T G_T;have h41:=ho.1;have l41:=lo.1;walk_at "d";refine⟨λi δ=>∃o3 o4 o5 o6,δ=[some (Sl.v (.tuple (hs.map Hd.enc))),some (Sl.v (.list (line.map Pp.enc))),some (Sl.o ((ft (hs.take i) line).map .str)),o3,o4,o5,o6],⟨_,_,_,_,rfl⟩,?_,?_⟩
  ·rintro i z δ hz ⟨o3,o4,o5,o6,rfl⟩;rw [Rt] at hz;cases hz':hs[i]? with
   | none=>rw [hz'] at hz;cases hz
   | some h=>
    rw [hz'] at hz;cases hz;have hk:=ho.2 h (RN hz');have ts:ft (hs.take (i+1)) line=ft (hs.take i) line++if qp line h=true then [h.nm] else []:=by
     unfold ft;rw [R4,hz',Xi,RH];congr 1;by_cases e:qp line h=true
     ·simp [e]
     ·simp [e]
    have ll:(ft (hs.take i) line).length<=41:=by
     unfold ft;rw [Q8];have:=R1 (qp line) (hs.take i);rw [Sg] at this;omega
    have key:∀(l2:List Pp)(R:List Ys->Prop),(∀c∈l2,c∈line)->R ((l2.map (gE h.ip h.tn)).map .bool)->hU (iO 0) hV (gY Gb (gI (bU 1) (gI (bU 0) gW))) [none,some (Sl.v (fq h.ip h.tn))] (l2.map Pp.enc) R:=λl2 R hl hR=>by
     refine jE (λ_=>true) (λc=>.bool (gE h.ip h.tn c)) (λc hc R S h1 _=>?_) (by rw [ik];rw [RB] at hR;exact hR);walk_at "d";exact⟨h.ip,h.tn,c,rfl,hk,(lo.2 c (hl c hc)).1,(lo.2 c (hl c hc)).2,h1 rfl⟩
    simp only [Hd.enc];simp only [ts];have ec:qp line h=(if h.dp=true then line else line.take 1).any (gE h.ip h.tn):=rfl;rw [ec];generalize ft (hs.take i) line=A0 at ll;have fin:∀(l2:List Pp)(x:Option Sl),if (l2.map (gE h.ip h.tn)).any id=true then(A0.map Ra).length < 16777216/\A0.map Ra++[Ra h.nm]=(A0++if l2.any (gE h.ip h.tn)=true then [h.nm] else []).map Ra/\∃y,x=y else A0.map Ra=(A0++if l2.any (gE h.ip h.tn)=true then [h.nm] else []).map Ra/\∃y,x=y:=λl2 x=>by
     rw [VT];show if l2.any (gE h.ip h.tn)=true then _ else _
     split
     ·exact⟨by rw [Q8];omega,Yr,_,rfl⟩
     ·exact⟨Yr,_,rfl⟩
    cases hd:h.dp with
    | true=>
     walk_at "d";exact⟨by rw [Q8];omega,key line _ (λ_ h=>h) ⟨_,rfl,fin line _⟩⟩
    | false=>
     walk_at "d";rw [F3,<-WY];have lt:(line.take 1).length<=41:=by rw [Sg];omega
     exact⟨by rw [Q8];omega,key (line.take 1) _ (λ_ h=>Vc h) ⟨_,rfl,fin (line.take 1) _⟩⟩
  ·rintro δ ⟨o3,o4,o5,o6,rfl⟩;walk_at "d";rw [Q8,RM (Rf _)];exact q
end
theorem Ge:aZ (av ur) ["deeds","paper","line","place"] ["deed","line"] 1 [2] ⟨Ri,[ (Q9 ".0",Z9),(Q9 "deed",Z9),(Q9 "line",RA)],false,false,[]⟩:=⟨rfl,cp,cp,cp,rfl,cp,cp,cp,rfl⟩
section
variable {P:YE} {w:YF} {K:Q7} {mg:Str->Option Yt} {base:YG} {t:cF}
theorem Gf:∀{a b:List Str},S5 (a.map .str) (b.map .str)=true↔a=b
 | [],[]=>by simp [S5]
 | [],_::_=>by simp [S5]
 | _::_,[]=>by simp [S5]
 | x::a,y::b=>by
  rw [Rb,Rb,S5,Si,Gf,eV,beq_iff_eq,RZ]
theorem Gg{a b:Pp}:RC a.enc b.enc=true↔a=b:=by
 obtain⟨d,nm,kd,ms⟩:=a;obtain⟨d',nm',kd',ms'⟩:=b;simp only [Pp.enc,RC,S5,Si,Gf,Pp.mk.injEq,decide_eq_true_eq,beq_iff_eq,and_true,true_and]
def oZ(l:List Pp)(p:Pp):Bool:=(l.map Pp.enc).any λd=>RC d p.enc
theorem OG{l:List Pp}{p:Pp}:oZ l p=true↔p∈l:=by
 unfold oZ;rw [T9];constructor
 ·rintro⟨d,hd,e⟩;obtain⟨q,hq,rfl⟩:=Rj.mp hd;rw [<-Gg.mp e];exact hq
 ·intro h;exact⟨p.enc,Rj.mpr ⟨p,h,rfl⟩,Gg.mpr rfl⟩
def fX(ps line:List Pp)(c:Pp):List Pp:=(dB ps c).filter λp=>!oZ line p
def fY(ps:List Pp):Nat->List Pp->Nat->List Pp
 | 0,l,_=>l
 | f+1,l,i=>match l[i]? with
  | none=>l
  | some c=>fY ps f (l++fX ps l c) (i+1)
def cU(ps:List Pp)(c:Pp):List Pp:=fY ps ps.length [c] 0
theorem OH{ps l:List Pp}{i:Nat}(h:l.length<=i):∀f,fY ps f l i=l
 | 0=>rfl
 | f+1=>by rw [fY,S6 h]
structure pb (ps:List Pp) (c:Pp) (l:List Pp):Prop where
 nd:l.Nodup
 sb:∀p∈l,p∈ps
 hd:∃r,l=c::r
theorem vg{α:Type}:∀{l L:List α},l.Nodup->(∀z∈l,z∈L)->l.length<=L.length
 | [],_,_,_=>Sd _
 | a::l,L,nd,hm=>by
  rw [Ss] at nd;obtain⟨p,q,e⟩:=Xh (hm a Yr);have:=vg (l:=l) (L:=p++q) nd.2 λb hb=>by
   have hb':=hm b (by simp [hb]);rw [e] at hb';rcases Ry.mp hb' with z | z
   ·exact T1 _ z
   ·rcases Rh.mp z with z | z
    ·exact absurd (by rw [<-z];exact hb) nd.1
    ·exact R0 _ z
  rw [e,Rv,Rq,Rq];rw [Rv] at this;omega
theorem OI{ps:List Pp}(nd:(ps.map (·.nm)).Nodup):ps.Nodup:=by
 rw [VW,SD] at nd;exact nd.imp λh e=>h (by rw [e])
theorem OJ{ps:List Pp}(nd:(ps.map (·.nm)).Nodup)(c:Pp):(dB ps c).Nodup:=((jC ps).nodup_iff.mpr (OI nd)).sublist Vh
theorem Gh{ps:List Pp}{c p:Pp}(h:p∈dB ps c):p∈ps:=ke.mp (RK.mp h).1
theorem pb.next{ps:List Pp}(nd:(ps.map (·.nm)).Nodup){c:Pp}{l:List Pp}(h:pb ps c l)(d:Pp):pb ps c (l++fX ps l d):=by
 refine⟨Vy.mpr ⟨h.nd,(OJ nd d).sublist Vh,λa ha b hb e=>?_⟩,λp hp=>?_,?_⟩
 ·have:=(RK.mp hb).2;rw [SR,<-Ud] at this;exact this (OG.mpr (by rw [<-e];exact ha))
 ·rcases Ry.mp hp with z | z
  ·exact h.sb p z
  ·exact Gh (RK.mp z).1
 ·obtain⟨r,e⟩:=h.hd;exact⟨r++fX ps l d,by rw [e];rfl⟩
theorem Gi{ps:List Pp}(nd:(ps.map (·.nm)).Nodup){c:Pp}:∀(f:Nat){l:List Pp}(i:Nat),pb ps c l->pb ps c (fY ps f l i)
 | 0,_,_,h=>h
 | f+1,l,i,h=>by
  rw [fY];split
  ·exact h
  ·exact Gi nd f (i+1) (h.next nd _)
theorem OL{ps:List Pp}(nd:(ps.map (·.nm)).Nodup){c:Pp}(hc:c∈ps):pb ps c (cU ps c):=Gi nd _ _ ⟨Yr,by simpa using hc,[],rfl⟩
theorem Gj{ps:List Pp}(g:ij ps){c:Pp}(hc:c∈ps):ve (cU ps c):=by
 have h:=OL g.nd hc;have h1:=vg h.nd h.sb;have h2:=g.ln;exact⟨Yn,λp hp=>⟨g.nm p (h.sb p hp),g.kd p (h.sb p hp)⟩⟩
theorem Gk{ps:List Pp}(g:ij ps){c:Pp}(hc:c∈ps):cL 3 c.enc:=by
 obtain⟨h1,h2⟩:=g.ms c hc;exact js (eo (fO cp) (eo C8 (eo (fO (g.nm c hc)) (eo (fO (g.kd c hc)) (eo (js (n:=1) (tI h1)) nH)))))
def OM:List Ys->(Ys->Prop)->Prop:=λds Q=>∃(xs:List De)(c:Pp),ds=[.tuple (xs.map De.enc),.str c.nm]/\gL xs/\c∈ay xs/\Q (.list ((cU (ay xs) c).map Pp.enc))
theorem Gm(T:Txt K mg t):aB P w K mg base CX0 6 t.a_P t.d_P ["deeds","paper"] (aU K OM):=by
 have G_L:=@AA P w _ _ base _ T;have G_N:=@Ft P w _ _ base _ T;refine T.F_P.F.okD uO (λds Q h=>?_) (λ_ _ _ _ H O ds Q E hr h=>?_)
 ·obtain⟨xs,c,rfl,_⟩:=h;rfl
 ·obtain⟨xs,c,rfl,gd,hc,q⟩:=h;refine'⟨_,?A,?B⟩
  case A=>
   refine' aq ?C ?D
   case C=>exact(g7 (i:=2) uO.nd rfl Yq (cn (aa (PE.imp (aD G_L (hr.mono Ym) rfl T.F_L (aa (dv 0) (aa (dv 1) aj))) aK) aj)))
   case' D=>refine' aq ?E ?F
   case E=>exact(bo (i:=3) uO.nd rfl Yq ag)
   case' F=>refine' aq ?G ?H
   case G=>
    refine' xc RU ?I ?J
    case I=>exact(aO mT cq (df (dv 3)) (df (PE.imp (eL sT rfl T.n_len U7 (bz (dw 2) bG)) (cf wz))) (aE _))
    case' J=>refine' aq ?K ?L
    case K=>exact(tP (i:=2) (pv 2) (fh rfl Ge (df (PE.imp (aD G_N (hr.mono Ym) rfl T.F_N (aa (dv 0) (aa (ao aS aT (dw 2) (df (dv 3))) aj))) aK)) aL bS Ym (λ_ _ _ _=>(aI (i:=0) Ge.nd rfl Yq)) (λ_ _ _ _=>(d7 (aO (wO hr) ny (df (dv 0)) (dw 1) rfl))) (λ_ _ _ _=>(dv 0))))
    case' L=>refine' ax ?M
    case M=>exact(bo (i:=3) uO.nd rfl Yq (aw aX bf (df (dv 3)) (df ag)))
   case' H=>refine' ax ?N
   case N=>exact(pH (pv 2))
  case B=>
  clear hr T G_L G_N;have nd:=gd.gp.nd;have pl:=gd.gp.ln;walk_at "d";refine⟨xs,c,rfl,gd,hc,?_⟩;refine⟨λm δ=>∃(l:List Pp)(i f:Nat),pb (ay xs) c l/\i<=l.length/\m+i=(ay xs).length/\(ay xs).length<=f+i/\fY (ay xs) f l i=cU (ay xs) c/\δ=[some (Sl.v (.tuple (xs.map De.enc))),some (Sl.v (.str c.nm)),some (Sl.o (l.map Pp.enc)),some (Sl.v (.int (i:Int)))],⟨(ay xs).length,[c],0,(ay xs).length,⟨Yr,by simpa using hc,[],rfl⟩,Sd _,Yn,Yn,rfl,rfl⟩,?_⟩;rintro m δ ⟨l,i,f,hl,hi,hm,hf,ef,rfl⟩;have ll:=vg hl.nd hl.sb;walk_at "d";rw [Q8];by_cases hlt:i < l.length
  ·rw [Yp Yn];have hc':l[i]?=some l[i]:=RG hlt;have ho:=hl.next nd l[i];have lo:=vg ho.nd ho.sb;rw [Rv] at lo;refine⟨_,iJ (j:=i) (by rw [Rt,hc'];rfl),xs,l[i],rfl,gd,hl.sb _ (Ti hlt),_,rfl,by rw [Q8];have:=AD (c:=l[i]) gd.gp;omega,cT (λp=>!oZ l p) Pp.enc (λp hp R S h=>?_) ?_⟩
   ·walk_at "d";have ps:=Gh hp;refine⟨(Gk gd.gp ps).shp Ym,(qZ (n:=3) λd hd=>?_).1,by simpa [oZ] using h⟩;obtain⟨p',hp',rfl⟩:=Rj.mp hd;exact Gk gd.gp (hl.sb p' hp')
   ·have e:(Tr (λp=>!oZ l p) (dB (ay xs) l[i]))=fX (ay xs) l l[i]:=rfl;rw [e];cases f with
    | zero=>omega
    | succ f=>
     rw [fY,hc'] at ef;refine⟨by rw [Q8];omega,m - 1,Yn,_,ho,i+1,by rw [Rv];omega,Yn,f,Yn,ef,by rw [RH],Yn⟩
  ·rw [Yo Yn];rw [<-ef,OH Yn] at q;exact q
local macro_rules | `(tactic| walk_at "e") =>rzT (rzS++" Sl.i.injEq exists_and_left pT")
theorem jJ{f:Str}{d:Ys}:∀{l:List (Str×Ys)}{ks:List Str},l.map (·.1)=ks->ks.all (λk=>!(k==f))=true->dU f d l=l++[(f,d)]
 | [],_,_,_=>rfl
 | (g,x)::l,k::ks,h,hk=>by
  rw [Rb] at h;obtain⟨e1,e2⟩:=VF h;rw [Us,Si] at hk;have e1:g=k:=e1;rw [dU,Yo (λz=>by rw [<-e1,z] at hk;simp at hk),jJ e2 hk.2];rfl
 | _::_,[],h,_=>by cases h
def cw:List Str:=[Q6 "day",Q6 "paper",Q6 "to_stay",Q6 "to_go",Q6 "bars",Q6 "leave"]
abbrev Gq(C:Yu)(a b c d e f:Ys):Ys:=fK C (cw.map .str) [a,b,c,d,e,f]
def ON(C:Yu):List Ys->(Ys->Prop)->Prop:=λds Q=>∃a b c d e f,ds=[a,b,c,d,e,f]/\Q (Gq C a b c d e f)
theorem OO(T:Txt K mg t):aB P w K mg base CX0 1 t.a_h t.d_h ["self","day","paper","to_stay","to_go","bars","leave"] (rB K t.u_Look (ON t.u_Look)):=by
 refine T.F_h.F.okI Ni (λds Q h=>?_) (λcdv A outer s H H1 O ds Q E l hr h=>?_)
 ·obtain⟨a,b,c,d,e,f,rfl,_⟩:=h;rfl
 ·obtain⟨a,b,c,d,e,f,rfl,q⟩:=h;refine'⟨_,?A,?B⟩
  case A=>
   refine' aq ?C ?D
   case C=>exact(fP (C:=t.u_Look) (i:=0) T.cl_Look T.na_Look_day (pv 0) (dv 1))
   case' D=>refine' aq ?E ?F
   case E=>exact(fP (C:=t.u_Look) (i:=0) T.cl_Look T.na_Look_paper (pv 0) (dv 2))
   case' F=>refine' aq ?G ?H
   case G=>exact(fP (C:=t.u_Look) (i:=0) T.cl_Look T.na_Look_to_stay (pv 0) (dv 3))
   case' H=>refine' aq ?I ?J
   case I=>exact(fP (C:=t.u_Look) (i:=0) T.cl_Look T.na_Look_to_go (pv 0) (dv 4))
   case' J=>refine' aq ?K ?L
   case K=>exact(fP (C:=t.u_Look) (i:=0) T.cl_Look T.na_Look_bars (pv 0) (dv 5))
   case' L=>refine' ax ?M
   case M=>exact(fP (C:=t.u_Look) (i:=0) T.cl_Look T.na_Look_leave (pv 0) (dv 6))
  case B=>
  clear hr T;simp only [tS,fC,Rb,RX,Sz,Sy,V2,Rq,R8,S0,S4,RR];walk_at "e";rw [jJ (ks:=[]) rfl rfl,jJ (ks:=cw.take 1) rfl cp,jJ (ks:=cw.take 2) rfl cp,jJ (ks:=cw.take 3) rfl cp,jJ (ks:=cw.take 4) rfl cp,jJ (ks:=cw.take 5) rfl cp];have lt:∀n:Nat,n < 10->n < 1000:=λn h=>by omega
  exact⟨lt 1 Ym,lt 2 Ym,lt 3 Ym,lt 4 Ym,lt 5 Ym,q⟩
def i7:Option Str->Ys
 | none=>.none
 | some s=>.str s
structure Lk where
 d:Int
 nm:Str
 st:List (Str×Ys)
 go:List (Str×Ys)
 bars:List Ys
 lv:Option Str
def Lk.enc(C:Yu)(k:Lk):Ys:=Gq C (.int k.d) (.str k.nm) (.tuple (k.st.map cv)) (.tuple (k.go.map cv)) (.list k.bars) (i7 k.lv)
def Lk.lets(k:Lk):Bool:=decide (0 < k.go.length) && decide (k.bars.length=0)
structure Ro where
 nm:Str
 d:Int
 lv:Option Str
def Ro.enc(r:Ro):Ys:= .tuple [.str r.nm,.int r.d,i7 r.lv]
def Lk.row(k:Lk):Ro:=⟨k.nm,k.d,k.lv⟩
def kj(k:Lk):Prop:=k.st.length<=41/\k.go.length<=41/\k.bars.length<=200
theorem OP{a b c d e f:Ys}:aV cw [a,b,c,d,e,f] (Q6 "day")=some a:=by simp [cw,aV]
theorem OQ{a b c d e f:Ys}:aV cw [a,b,c,d,e,f] (Q6 "paper")=some b:=by
 simp only [cw,aV,Yo (show Q6 "day"≠Q6 "paper" by decide+kernel),if_true]
theorem OR{a b c d e f:Ys}:aV cw [a,b,c,d,e,f] (Q6 "to_go")=some d:=by
 simp only [cw,aV,Yo (show Q6 "day"≠Q6 "to_go" by decide+kernel),Yo (show Q6 "paper"≠Q6 "to_go" by decide+kernel),Yo (show Q6 "to_stay"≠Q6 "to_go" by decide+kernel),if_true]
theorem OS{a b c d e f:Ys}:aV cw [a,b,c,d,e,f] (Q6 "bars")=some e:=by
 simp only [cw,aV,Yo (show Q6 "day"≠Q6 "bars" by decide+kernel),Yo (show Q6 "paper"≠Q6 "bars" by decide+kernel),Yo (show Q6 "to_stay"≠Q6 "bars" by decide+kernel),Yo (show Q6 "to_go"≠Q6 "bars" by decide+kernel),if_true]
theorem OT{a b c d e f:Ys}:aV cw [a,b,c,d,e,f] (Q6 "leave")=some f:=by
 simp only [cw,aV,Yo (show Q6 "day"≠Q6 "leave" by decide+kernel),Yo (show Q6 "paper"≠Q6 "leave" by decide+kernel),Yo (show Q6 "to_stay"≠Q6 "leave" by decide+kernel),Yo (show Q6 "to_go"≠Q6 "leave" by decide+kernel),Yo (show Q6 "bars"≠Q6 "leave" by decide+kernel),if_true]
def OU(C:Yu):List Ys->(Ys->Prop)->Prop:=λds Q=>∃k:Lk,ds=[k.enc C]/\kj k/\Q (.bool k.lets)
theorem Gr(T:Txt K mg t):aB P w K mg base CX0 1 t.a_i t.d_i ["self"] (aU K (OU t.u_Look)):=by
 refine T.F_i.F.okD Nj (λds Q h=>?_) (λ_ _ _ _ H O ds Q E hr h=>?_)
 ·obtain⟨k,rfl,_⟩:=h;rfl
 ·obtain⟨k,rfl,⟨_,h1,h2⟩,q⟩:=h;refine'⟨_,?A,?B⟩
  case A=>
   refine' ax ?C
   case' C=>refine' bb ?D
   case D=>exact(qR (cX ko cq (df (PE.imp (eL sT rfl T.n_len U7 (bz (df (cg (C:=t.u_Look) T.cl_Look T.na_Look_to_go (dv 0))) bG)) (cf wz))) (df ag) (aE _)) (jV (cX (fM hr.units) fN (df (PE.imp (eL sT rfl T.n_len U7 (bz (df (cg (C:=t.u_Look) T.cl_Look T.na_Look_bars (dv 0))) bG)) (cf wz))) (df ag) (aE _))))
  case B=>
  clear hr T;simp only [Lk.enc];walk_at "d";refine⟨cw,_,rfl,_,OR,_,.inr rfl,?_⟩;have q:Q (.bool (decide (0 < k.go.length) && decide (k.bars.length=0))):=q;rw [Q8];by_cases h:0 < k.go.length
  ·rw [Yp Yn];refine⟨cw,_,rfl,_,OS,_,.inl rfl,?_⟩;rw [decide_eq_true h,SV] at q;rw [show((k.bars.length:Int)==0)=decide (k.bars.length=0) by
    by_cases e:k.bars.length=0
    ·simp [e]
    ·rw [decide_eq_false e];simp;exact λz=>e (by rw [z];rfl)]
   exact q
  ·rw [Yo Yn];rw [decide_eq_false h,UZ] at q;exact q
def OV(C:Yu):List Ys->(Ys->Prop)->Prop:=λds Q=>∃k:Lk,ds=[k.enc C]/\Q k.row.enc
theorem Gs(T:Txt K mg t):aB P w K mg base CX0 1 t.a_j t.d_j ["self"] (aU K (OV t.u_Look)):=by
 refine T.F_j.F.okD Nk (λds Q h=>?_) (λ_ _ _ _ H O ds Q E hr h=>?_)
 ·obtain⟨k,rfl,_⟩:=h;rfl
 ·obtain⟨k,rfl,q⟩:=h;refine'⟨_,?A,?B⟩
  case A=>
   refine' ax ?C
   case' C=>refine' bb ?D
   case' D=>refine' bF ?E
   case' E=>refine' aa ?F ?G
   case F=>exact(cg (C:=t.u_Look) T.cl_Look T.na_Look_paper (dv 0))
   case' G=>refine' aa ?H ?I
   case H=>exact(cg (C:=t.u_Look) T.cl_Look T.na_Look_day (dv 0))
   case' I=>refine' aa ?J aj
   case J=>exact(cg (C:=t.u_Look) T.cl_Look T.na_Look_leave (dv 0))
  case B=>
  clear hr T;simp only [Lk.enc];walk_at "d";exact⟨cw,_,rfl,_,OQ,cw,_,rfl,_,OP,cw,_,rfl,_,OT,q⟩
structure Rn where
 n:Int
 L:List (Str×Pt)
 hs:List Hd
 lvs:List Pp
 go:List (Str×Int)
 us:List Str
def jK(p:Pp):Ys:= .tuple [.str (Q6 "leave"),.int p.d,.str p.nm,.str p.kd]
def Rn.fd(R:Rn):List (Str×Ys):=[(Q6 "day",.int R.n),(Q6 "rules",.tuple (R.L.map cN)),(Q6 "holds",.tuple (R.hs.map Hd.enc)),(Q6 "leaves",.list (R.lvs.map jK))]
def fH(go:List (Str×Int)):List (ah×Ys):=go.map λp=>(R9 p.1,.int p.2)
def fZ(us:List Str):List (ah×Ys):=us.map λs=>(R9 s,.bool true)
def cz:List Str:=[Q6 "day",Q6 "rules",Q6 "holds",Q6 "leaves",Q6 "gone",Q6 "used"]
def Rn.gn(R:Rn):Gn:=⟨R.go.map (·.1),R.go.map (·.2)⟩
def Rn.enc(C:Yu)(R:Rn):Ys:=fK C (cz.map .str) [.int R.n,.tuple (R.L.map cN),.tuple (R.hs.map Hd.enc),.list (R.lvs.map jK),R.gn.enc,dS R.us (R.us.map λ_=>.bool true)]
theorem OW(C:Yu)(R:Rn):xH C R.fd (R.go.map (·.1)) R.us (fH R.go) (fZ R.us)=R.enc C:=by
 have e1:(fH R.go).map (·.2)=(R.go.map (·.2)).map Rg:=by unfold fH;rw [RB,RB];rfl
 have e2:(fZ R.us).map (·.2)=R.us.map λ_=>.bool true:=by unfold fZ;rw [RB];rfl
 unfold xH;rw [e1,e2];rfl
theorem Gu{a b c d e f:Ys}:aV cz [a,b,c,d,e,f] (Q6 "day")=some a/\aV cz [a,b,c,d,e,f] (Q6 "rules")=some b/\aV cz [a,b,c,d,e,f] (Q6 "holds")=some c/\aV cz [a,b,c,d,e,f] (Q6 "leaves")=some d/\aV cz [a,b,c,d,e,f] (Q6 "gone")=some e/\aV cz [a,b,c,d,e,f] (Q6 "used")=some f:=by
 have h:∀{x y:Str}{p q:Option Ys},x≠y->(if x=y then p else q)=q:=λh=>Yo h;refine⟨?_,?_,?_,?_,?_,?_⟩
 ·simp [cz,aV]
 ·simp only [cz,aV,h (show Q6 "day"≠Q6 "rules" by decide+kernel),if_true]
 ·simp only [cz,aV,h (show Q6 "day"≠Q6 "holds" by decide+kernel),h (show Q6 "rules"≠Q6 "holds" by decide+kernel),if_true]
 ·simp only [cz,aV,h (show Q6 "day"≠Q6 "leaves" by decide+kernel),h (show Q6 "rules"≠Q6 "leaves" by decide+kernel),h (show Q6 "holds"≠Q6 "leaves" by decide+kernel),if_true]
 ·simp only [cz,aV,h (show Q6 "day"≠Q6 "gone" by decide+kernel),h (show Q6 "rules"≠Q6 "gone" by decide+kernel),h (show Q6 "holds"≠Q6 "gone" by decide+kernel),h (show Q6 "leaves"≠Q6 "gone" by decide+kernel),if_true]
 ·simp only [cz,aV,h (show Q6 "day"≠Q6 "used" by decide+kernel),h (show Q6 "rules"≠Q6 "used" by decide+kernel),h (show Q6 "holds"≠Q6 "used" by decide+kernel),h (show Q6 "leaves"≠Q6 "used" by decide+kernel),h (show Q6 "gone"≠Q6 "used" by decide+kernel),if_true]
structure pd (R:Rn):Prop where
 rl:i6 R.L
 hd:rV R.hs
 ll:R.lvs.length<=41
 lk:∀p∈R.lvs,Rz p.kd=true
theorem Gv:∀(us:List Str)(z:Str),(aV us (us.map λ_=>VC true) z).isSome=us.contains z
 | [],_=>rfl
 | u::us,z=>by
  rw [Rb,aV,V5];by_cases h:u=z
  ·rw [Yp h,h];simp
  ·rw [Yo h,Gv us z,bV (λe=>h e.symm),Tp]
def qq(R:Rn)(kd:Str)(p:Pp):Bool:=p.kd==kd && !R.us.contains p.nm
def qt(R:Rn)(kd:Str):Option Str:=(R.lvs.find? (qq R kd)).map (·.nm)
def OX(C:Yu):List Ys->(Ys->Prop)->Prop:=λds Q=>∃(R:Rn)(kd:Str),ds=[R.enc C,.str kd]/\pd R/\Rz kd=true/\Q (i7 (qt R kd))
theorem OY(T:Txt K mg t):aB P w K mg base CX0 1 t.a_m t.d_m ["self","kind"] (aU K (OX t.u_Round)):=by
 refine T.F_m.F.okD ES (λds Q h=>?_) (λ_ _ _ _ H O ds Q E hr h=>?_)
 ·obtain⟨R,kd,rfl,_⟩:=h;rfl
 ·obtain⟨R,kd,rfl,g,hk,q⟩:=h;refine'⟨_,?A,?B⟩
  case A=>
   refine' aq ?C ?D
   case C=>
    refine' iR RU rfl (cg (C:=t.u_Round) T.cl_Round T.na_Round_leaves (dv 0)) ?E aL ?F
    case E=>exact(aI (i:=2) ES.nd rfl Yq)
    case' F=>refine' ax ?G
    case' G=>refine' bR ?H ?I bQ
    case H=>exact(PW.pt (gm (aO (fM hr.units) fN (df (ao aF aJ (df (dv 2)) (df ag))) (df (dv 1)) (aE _)) (gJ (ME hr.units (cg (C:=t.u_Round) T.cl_Round T.na_Round_used (dv 0)) (ao aF aJ (df (dv 2)) (df ag))))))
    case' I=>refine' ax ?J
    case J=>exact(bb (ao aF aJ (df (dv 2)) (df ag)))
   case D=>refine' ax (bb eO)
  case B=>
  clear hr T;obtain⟨_,_,_,x4,_,x6⟩:=Gu (a:= .int R.n) (b:= .tuple (R.L.map cN)) (c:= .tuple (R.hs.map Hd.enc)) (d:= .list (R.lvs.map jK)) (e:=R.gn.enc) (f:=dS R.us (R.us.map λ_=>.bool true));walk_at "d";refine⟨cz,_,rfl,_,x4,_,rfl,?_⟩;refine⟨λi δ=>(∀p∈R.lvs.take i,qq R kd p=false)/\∃o2,δ=[some (Sl.v (R.enc t.u_Round)),some (Sl.v (.str kd)),o2],⟨Yr,_,rfl⟩,?_,?_⟩
  ·rintro i z δ hz ⟨hn,o2,rfl⟩;rw [Rt] at hz;cases hz':R.lvs[i]? with
   | none=>rw [hz'] at hz;cases hz
   | some p=>
    rw [hz'] at hz;cases hz;have hp:=RN hz';have no:qq R kd p=false->∀p∈R.lvs.take (i+1),qq R kd p=false:=λh p' hp'=>by
     rw [R4,hz'] at hp';rcases Ry.mp hp' with z | z
     ·exact hn p' z
     ·have z:p'=p:=by simpa using z
      rw [z];exact h
    have yes:qq R kd p=true->Q (.str p.nm):=λh=>by
     have e:qt R kd=some p.nm:=by
      unfold qt;rw [show R.lvs=R.lvs.take i++p::R.lvs.drop (i+1) by
       have hi:=(Rm.mp hz').1;rw [<-(Rm.mp hz').2,<-Vj hi,U3]]
      rw [Wi,TV.mpr (λx hx=>by rw [hn x hx];simp),List.find?_cons_of_pos h];rfl
     rw [e] at q;exact q
    simp only [jK];walk_at "d";refine⟨c7.mpr (g.lk p hp),c7.mpr hk,?_⟩;unfold qq at no yes;by_cases h1:(p.kd==kd)=true
    ·rw [Yp h1];rw [h1,SV] at no yes;refine⟨cz,_,rfl,_,x6,_,_,rfl,?_⟩;rw [Gv];by_cases h2:R.us.contains p.nm=false
     ·rw [Yp h2];exact yes (by rw [h2];rfl)
     ·rw [Yo h2];exact⟨no (by rw [Xt] at h2;rw [h2];rfl),_,rfl⟩
    ·rw [Yo h1];exact⟨no (by rw [Ud] at h1;rw [h1];rfl),_,rfl⟩
  ·rintro δ ⟨hn,o2,rfl⟩;rw [Q8,RM (Rf _)] at hn;walk_at "d";have e:qt R kd=none:=by
    unfold qt;rw [TV.mpr (λx hx=>by rw [hn x hx];simp)];rfl
   rw [e] at q;exact q
end
local macro_rules | `(tactic| walk_at "g") =>rzT (rzS++" Sl.i.injEq exists_and_left pT")
theorem AN:aZ (av pV) ["self","paper","line","to_stay","to_go","asking","leave","bars"] ["rule","by"] 2 [] ⟨Ri,[ (Q9 ".0",Z9),(Q9 "rule",Z9),(Q9 "by",Z9)],false,false,[]⟩:=⟨rfl,cp,cp,cp,rfl,cp,cp,cp,rfl⟩
theorem Gw:aZ (av pV) ["self","paper","line","to_stay","to_go","asking","leave","bars"] ["hold"] 1 [] ⟨Ri,[(Q9 ".0",Z9),(Q9 "hold",Z9)],false,false,[]⟩:=⟨rfl,cp,cp,cp,rfl,cp,cp,cp,rfl⟩
theorem Gx:aZ (av pV) ["self","paper","line","to_stay","to_go","asking","leave","bars"] ["rule"] 1 [] ⟨Ri,[(Q9 ".0",Z9),(Q9 "rule",Z9)],false,false,[]⟩:=⟨rfl,cp,cp,cp,rfl,cp,cp,cp,rfl⟩
section
variable {P:YE} {w:YF} {K:Q7} {mg:Str->Option Yt} {base:YG} {t:cF}
def rW(z:Str×Ys):Ys:= .tuple [.str (Q6 "stays"),.str z.1,z.2]
def rX(h:Str):Ys:= .tuple [.str (Q6 "held"),.str h]
def qu(a:Str):Ys:= .tuple [.str (Q6 "lacks"),.str a]
def i8(R:Rn)(kd:Str):Option Str:=if (fU kd R.L).length=0 then none else qt R kd
def cO(R:Rn)(r:Rp)(line:List Pp):Lk where
 d:=R.n
 nm:=r.c.nm
 st:=fT r R.n R.gn R.L
 go:=fG r R.n R.gn R.L
 bars:=(fT r R.n R.gn R.L).map rW++(ft R.hs line).map rX++(if i8 R r.c.kd=none then(fU r.c.kd R.L).map qu else [])
 lv:=i8 R r.c.kd
theorem Gy{kd:Str}{L:List (Str×Pt)}(h:i6 L):(fU kd L).length<=41:=by
 unfold fU;rw [Q8];exact RS (R1 _ _) h.1
theorem Gz{hs:List Hd}{line:List Pp}(h:rV hs):(ft hs line).length<=41:=by
 unfold ft;rw [Q8];exact RS (R1 _ _) h.1
theorem AO{r:Rp}{n:Int}{g:Gn}{L:List (Str×Pt)}(h:i6 L):(fT r n g L).length<=41:=
 RS (u7 (λz=>AK _) _) (u9 h).1
theorem OZ{r:Rp}{n:Int}{g:Gn}{L:List (Str×Pt)}(h:i6 L):(fG r n g L).length<=41:=
 RS (u7 (λz=>AK _) _) (u9 h).1
theorem GA{R:Rn}{r:Rp}{line:List Pp}(g:pd R):kj (cO R r line):=by
 refine⟨AO g.rl,OZ g.rl,?_⟩;show(WG (_++_++_))<=200;have h1:=AO (r:=r) (n:=R.n) (g:=R.gn) g.rl;have h2:=Gz (line:=line) g.hd;have h3:=Gy (kd:=r.c.kd) g.rl;rw [Rv,Rv,Q8,Q8];split
 ·rw [Q8];omega
 ·simp only [R8];omega
theorem GB{a b c d e:Ys}:aV [Q6 "name",Q6 "coming",Q6 "kind",Q6 "makers",Q6 "happenings"] [a,b,c,d,e] (Q6 "name")=some a:=by simp [aV]
theorem O3:Q6 "unused" ∉ cz:=cp
def O4(CR CP CL:Yu):List Ys->(Ys->Prop)->Prop:=λds Q=>∃(R:Rn)(r:Rp)(line:List Pp),ds=[R.enc CR,r.enc CP,.list (line.map Pp.enc)]/\pd R/\gN r/\ve line/\Q ((cO R r line).enc CL)
theorem O5(T:Txt K mg t):aB P w K mg base CX0 8 t.a_n t.d_n ["self","paper","line"] (aU K (O4 t.u_Round t.u_Paper t.u_Look)):=by
 have G_b:=@Of P w _ _ base _ T;have G_c:=@Og P w _ _ base _ T;have G_d:=@Om P w _ _ base _ T;have G_m:=@OY P w _ _ base _ T;have G_U:=@Gd P w _ _ base _ T;have G_h:=@OO P w _ _ base _ T;refine T.F_n.F.okD qa (λds Q h=>?_) (λ_ _ _ _ H O ds Q E hr h=>?_)
 ·obtain⟨R,r,line,rfl,_⟩:=h;rfl
 ·obtain⟨R,r,line,rfl,g,hr',lo,q⟩:=h;refine'⟨_,?A,?B⟩
  case A=>
   refine' aq ?C ?D
   case C=>
    refine' bo (i:=3) qa.nd rfl Yq ?E (hs:=nI)
    case E=>exact(PE.imp (aD G_b (hr.mono Ym) rfl T.F_b (aa (dv 1) (aa (cg (C:=t.u_Round) T.cl_Round T.na_Round_rules (dv 0)) (aa (cg (C:=t.u_Round) T.cl_Round T.na_Round_day (dv 0)) (aa (cg (C:=t.u_Round) T.cl_Round T.na_Round_gone (dv 0)) aj))))) aK)
   case' D=>refine' aq ?F ?G
   case F=>
    refine' bo (i:=4) qa.nd rfl Yq ?H (hs:=nI)
    case H=>exact(PE.imp (aD G_c (hr.mono Ym) rfl T.F_c (aa (dv 1) (aa (cg (C:=t.u_Round) T.cl_Round T.na_Round_rules (dv 0)) (aa (cg (C:=t.u_Round) T.cl_Round T.na_Round_day (dv 0)) (aa (cg (C:=t.u_Round) T.cl_Round T.na_Round_gone (dv 0)) aj))))) aK)
   case' G=>refine' aq ?I ?J
   case I=>exact(bo (i:=5) qa.nd rfl Yq (PE.imp (aD G_d (hr.mono Ym) rfl T.F_d (aa (cg (C:=t.u_Paper) T.cl_Paper T.na_Paper_kind (dv 1)) (aa (cg (C:=t.u_Round) T.cl_Round T.na_Round_rules (dv 0)) aj))) aK))
   case' J=>refine' aq ?K ?L
   case K=>
    refine' bo (i:=6) qa.nd rfl Yq ?M (hs:=Lb)
    case M=>exact(qT (tX (dv 5)) (PE.imp (B1 (dv 0) T.cl_Round T.mt_Round_unused G_m (hr.mono Ym) T.F_m.b .nil gf (aa (cg (C:=t.u_Paper) T.cl_Paper T.na_Paper_kind (dv 1)) aj)) MH) eO)
   case' L=>refine' aq ?N ?O
   case N=>exact(D6 (i:=7) qa.nd rfl Yq (oK rfl AN (df (dv 3)) (iQ (cC aL (cC aL iP))) xh Ym (λ_ _ _ _=>(iC (n:=2) rfl (cB (aI (i:=0) AN.nd rfl Yq) (cB (aI (i:=1) AN.nd rfl Yq) iB)))) (λ_ _ _ _=>eU) (λ_ _ _ _=>(bF (aa bj (aa (dv 0) (aa (dv 1) aj)))))))
   case' O=>refine' aq ?P ?Q
   case P=>exact(tP (i:=7) (pv 7) (kQ rfl Gw (df (PE.imp (aD G_U (hr.mono Ym) rfl T.F_U (aa (cg (C:=t.u_Round) T.cl_Round T.na_Round_holds (dv 0)) (aa (dv 2) aj))) aK)) aL bS Ym (λ_ _ _ _=>(aI (i:=0) Gw.nd rfl Yq)) (λ_ _ _ _=>eU) (λ_ _ _ _=>(bF (aa bj (aa (dv 0) aj))))))
   case' Q=>refine' aq ?R ?S
   case R=>
    refine' bR ?T ?U bQ
    case T=>exact(aO kq lY (df (dv 6)) (df eO) (aE _))
    case' U=>refine' ax ?V
    case V=>exact(tP (i:=7) (pv 7) (fh rfl Gx (df (dv 5)) aL bS Ym (λ_ _ _ _=>(aI (i:=0) Gx.nd rfl Yq)) (λ_ _ _ _=>eU) (λ_ _ _ _=>(bF (aa bj (aa (dv 0) aj))))))
   case' S=>refine' ax ?W
   case' W=>refine' Ka 7 ?X
   case' X=>refine' bb ?Y
   case Y=>exact(PE.imp (sP T.mk_Look G_h (hr.mono Ym) rfl T.c_Look T.F_h.b .nil gf (aa (cg (C:=t.u_Round) T.cl_Round T.na_Round_day (dv 0)) (aa (cg (C:=t.u_Paper) T.cl_Paper T.na_Paper_name (dv 1)) (aa (dv 3) (aa (dv 4) (aa (dv 7) (aa (dv 6) aj))))))) xi)
  case B=>
  clear hr T G_b G_c G_d G_m G_U G_h;obtain⟨x1,x2,x3,x4,x5,x6⟩:=Gu (a:= .int R.n) (b:= .tuple (R.L.map cN)) (c:= .tuple (R.hs.map Hd.enc)) (d:= .list (R.lvs.map jK)) (e:=R.gn.enc) (f:=dS R.us (R.us.map λ_=>.bool true));have l1:=AO (r:=r) (n:=R.n) (g:=R.gn) g.rl;have l2:=Gz (line:=line) g.hd;have l3:=Gy (kd:=r.c.kd) g.rl;generalize hB:fB (iN 7 _) _=TB;have key:∀o,o=i8 R r.c.kd->TB {nx:=λx=>Q Tq,rt:=Q} [some (Sl.v (R.enc t.u_Round)),some (Sl.v (r.enc t.u_Paper)),some (Sl.v (.list (line.map Pp.enc))),some (Sl.v (.tuple ((fT r R.n R.gn R.L).map cv))),some (Sl.v (.tuple ((fG r R.n R.gn R.L).map cv))),some (Sl.v (.list ((fU r.c.kd R.L).map .str))),some (Sl.v (i7 o)),none]:=λo ho=>by
   subst hB;generalize hF:jY 7 _=TF;walk_at "g";refine⟨by rw [Q8];omega,jE (λ_=>true) rW (λz hz R' S h1 _=>?_) ?_⟩
   ·simp only [cv];walk_at "g";exact h1 rfl
   ·rw [ik];refine⟨cz,_,rfl,_,x3,R.hs,line,rfl,g.hd,lo,_,rfl,by rw [Q8];omega,jE (λ_=>true) rX (λz hz R' S h1 _=>?_) ?_⟩
    ·walk_at "g";exact h1 rfl
    ·rw [ik];have fin:∀bars,bars=(cO R r line).bars->TF {nx:=λx=>Q Tq,rt:=Q} [some (Sl.v (R.enc t.u_Round)),some (Sl.v (r.enc t.u_Paper)),some (Sl.v (.list (line.map Pp.enc))),some (Sl.v (.tuple ((fT r R.n R.gn R.L).map cv))),some (Sl.v (.tuple ((fG r R.n R.gn R.L).map cv))),some (Sl.v (.list ((fU r.c.kd R.L).map .str))),some (Sl.v (i7 o)),some (Sl.o bars)]:=λbars hb=>by
      subst hF;walk_at "g";refine⟨cz,_,rfl,_,x1,[Q6 "name",Q6 "coming",Q6 "kind",Q6 "makers",Q6 "happenings"],_,rfl,_,GB,_,_,_,_,_,_,rfl,?_⟩;rw [hb,ho];exact q
     refine⟨by rw [Q8,Q8];omega,?_⟩;have eb:(cO R r line).bars=(fT r R.n R.gn R.L).map rW++(ft R.hs line).map rX++(if i8 R r.c.kd=none then(fU r.c.kd R.L).map qu else []):=rfl;rw [<-ho] at eb;cases o with
     | none=>
      rw [Yp (by rfl)];refine⟨by rw [Q8];omega,jE (λ_=>true) qu (λz hz R' S h1 _=>?_) ?_⟩
      ·walk_at "g";exact h1 rfl
      ·rw [ik];refine⟨by rw [Rv,Q8,Q8,Q8];omega,fin _ ?_⟩;rw [eb,Yp rfl]
     | some v=>
      rw [Yo (by simp [dQ,i7])];refine fin _ ?_;rw [eb,Yo Yr,RY]
  walk_at "g";refine⟨cz,_,rfl,_,x2,cz,_,rfl,_,x1,cz,_,rfl,_,x5,r,R.L,R.n,R.gn,rfl,hr',g.rl,?_⟩;refine⟨cz,_,rfl,_,x2,cz,_,rfl,_,x1,cz,_,rfl,_,x5,r,R.L,R.n,R.gn,rfl,hr',g.rl,?_⟩;refine⟨[Q6 "name",Q6 "coming",Q6 "kind",Q6 "makers",Q6 "happenings"],_,rfl,_,uV,cz,_,rfl,_,x2,r.c.kd,R.L,rfl,hr'.2.1,g.rl,?_⟩;have key2:∀o,o=i8 R r.c.kd->TB {nx:=λx=>Q Tq,rt:=Q} [some (Sl.v (R.enc t.u_Round)),some (Sl.v (r.enc t.u_Paper)),some (Sl.v (.list (line.map Pp.enc))),some (Sl.v (.tuple ((fT r R.n R.gn R.L).map cv))),some (Sl.v (.tuple ((fG r R.n R.gn R.L).map cv))),some (Sl.v (.list ((fU r.c.kd R.L).map .str))),some (Sl.v (i7 o)),none]:=key;clear key;refine⟨_,rfl,?_⟩;unfold i8 at key2;by_cases h0:(fU r.c.kd R.L).length=0
  ·rw [Yo (by rw [UG] at h0;rw [h0];simp)];exact key2 none (by rw [Yp h0])
  ·rw [Yp (by rw [List.isEmpty_eq_false_iff];intro z;exact h0 (by rw [<-Q8 (f:=Ra),z];rfl))];exact⟨cz,⟨_,rfl⟩,O3,[Q6 "name",Q6 "coming",Q6 "kind",Q6 "makers",Q6 "happenings"],_,rfl,_,uV,R,r.c.kd,rfl,g,hr'.2.1,key2 _ (by rw [Yo h0])⟩
end
local macro_rules | `(tactic| walk_at "g") =>rzT (rzS++" Sl.i.injEq Sl.r.injEq Sl.b.injEq exists_and_left pT xI xG xM ue")
theorem GC:aZ (av uI) ["self","deeds","day","done","leaves","row"] ["deed","day"] 1 [2] ⟨Ri,[ (Q9 ".0",Z9),(Q9 "deed",Z9),(Q9 "day",RA)],false,false,[]⟩:=⟨rfl,cp,cp,cp,rfl,cp,cp,cp,rfl⟩
section
variable {P:YE} {w:YF} {K:Q7} {mg:Str->Option Yt} {base:YG} {t:cF}
theorem GF(T:Txt K mg t):aB P w K mg base CX0 1 t.a_l t.d_l ["self","row"] (xF K t.u_Round):=by
 refine T.F_l.F.ok Nl (λvs H Q E h=>?_) (λcdv A outer s H vs Q E hr h=>?_)
 ·obtain⟨l,dx,fs,g,u,gv,uv,a,x,y,z,rfl,_⟩:=h;rfl
 ·obtain⟨l,dx,fs,g,u,gv,uv,a,x,y,z,rfl,hl,lg,lu,ne,hg,hu,sq,n1,n2,q⟩:=h;have un:=hr.units;refine⟨_,cV (wI (UQ (W4 (by decide:1<=64) _) hr.units) (sJ (pv 0) rfl) (jT aF (pv 1) bK (λ_ _=>rfl)) (jT aF (pv 1) bK (λ_ _=>rfl)) rfl) (fy (pq (pj (Ic (jT aF (pv 1) bK (λ_ _=>rfl)))) (fy (wI (UQ (W4 (by decide:1<=64) _) hr.units) (sJ (pv 0) rfl) (jT aF (pv 1) bK (λ_ _=>rfl)) Bf rfl)) pk)),?_⟩;have gl:l≠g:=λe=>by rw [e,hg] at hl;cases hl
  have tk:∀{H':Hp},(∀b o,H b=some o->b≠g->H' b=some o)->bw K H' a [.str x,y,z]:=λ{H'} k=>by
   rcases sq with(h | ⟨ob,h⟩) | h
   ·exact .inl (.inl (k _ _ h (λe=>by rw [e,hg] at h;cases h)))
   ·exact .inl (.inr ⟨ob,k _ _ h (λe=>by rw [e,hg] at h;cases h)⟩)
   ·exact .inr h
  simp only [vC,CF];walk_at "a";refine ji sq fD ⟨_,rfl,l,_,dx,fs,_,rfl,hl,T.cl_Round,T.na_Round_gone,lg,ji sq dJ ⟨g,rfl,_,nv.k (k:= .inr x) hg n1,?_⟩⟩;have sq2:bw K (ai H g (.dK (putK gv (.inr x) y))) a [.str x,y,z]:=tk λb o e n=>by rw [az n];exact e
  simp only [Bg];walk_at "a";refine ji sq2 iT ?_;rcases q with⟨rfl,q⟩ | ⟨s,rfl,q⟩
  ·exact q
  ·rw [Yp (λz=>nomatch z)];refine⟨_,rfl,l,_,dx,fs,_,rfl,by rw [az gl];exact hl,T.cl_Round,T.na_Round_used,lu,?_⟩;walk_at "a";refine ji sq2 iT ⟨_,nv.k (k:= .inr s) (by rw [az (Ne.symm ne)];exact hu) n2,q⟩
def jL(go:List (Str×Int))(k:Str)(d:Int):List (Str×Int):=if (go.any λp=>decide (p.1=k))=true then go.map (λp=>if p.1=k then(p.1,d) else p) else go++[(k,d)]
def pe(us:List Str)(s:Str):List Str:=if us.contains s=true then us else us++[s]
theorem GG(go:List (Str×Int))(k:Str):((fH go).any λp=>decide (p.1=R9 k))=go.any λp=>decide (p.1=k):=by
 unfold fH;rw [VT];congr 1;funext p;simp only [TJ,decide_eq_decide];exact jw
theorem GH(go:List (Str×Int))(k:Str)(d:Int):dh (fH go) (.inr k) (.int d)=fH (jL go k d):=by
 unfold dh jL;rw [GG];split
 ·unfold fH;rw [RB,RB];apply Tx;intro p _;simp only [TJ];by_cases h:p.1=k
  ·rw [Yp (by rw [h]),Yp h]
  ·rw [Yo (λe=>h (jw.mp e)),Yo h]
 ·unfold fH;rw [RH];rfl
theorem O6(us:List Str)(k:Str):((fZ us).any λp=>decide (p.1=R9 k))=us.contains k:=by
 unfold fZ;rw [VT]
 induction us with
 | nil=>rfl
 | cons u us ih=>
  rw [SA,V5,ih];congr 1;simp only [TJ];by_cases h:u=k
  ·rw [h];simp
  ·rw [decide_eq_false (λe=>h (jw.mp e)),bV (λe=>h e.symm)]
theorem GI(us:List Str)(k:Str):dh (fZ us) (.inr k) (.bool true)=fZ (pe us k):=by
 unfold dh pe;rw [O6];split
 ·unfold fZ;rw [RB];apply Tx;intro p _;simp only [TJ];split <;> rfl
 ·unfold fZ;rw [RH];rfl
def bY(m:List (Str×Int)×List Str)(r:Ro):List (Str×Int)×List Str:=(jL m.1 r.nm r.d,match r.lv with
 | none=>m.2
 | some s=>pe m.2 s)
theorem GJ(go:List (Str×Int))(k:Str)(d:Int):(jL go k d).length<=go.length+1:=by
 unfold jL;split <;> simp
theorem GK(us:List Str)(k:Str):(pe us k).length<=us.length+1:=by
 unfold pe;split <;> simp
theorem AQ:∀(rs:List Ro)(m:List (Str×Int)×List Str),(rs.foldl bY m).1.length<=m.1.length+rs.length/\(rs.foldl bY m).2.length<=m.2.length+rs.length
 | [],m=>⟨Rf _,Rf _⟩
 | r::rs,m=>by
  obtain⟨h1,h2⟩:=AQ rs (bY m r);have a:(bY m r).1.length<=m.1.length+1:=GJ _ _ _;have b:(bY m r).2.length<=m.2.length+1:=by
   unfold bY;cases r.lv with
   | none=>exact Tc _
   | some s=>exact GK _ _
  rw [R6,Rq];exact⟨Yn,Yn⟩
def De.lv:De->Option Pp
 | .oth w d nm [.str kd]=>if (w==Q6 "leave")=true then some ⟨d,nm,kd,[]⟩ else none
 | _=>none
def qv(n:Int)(x:De):Bool:=x.w==Q6 "leave" && decide (x.d<=n)
def vh(xs:List De)(n:Int):List Pp:=bB ((xs.filterMap De.lv).filter λp=>decide (p.d<=n))
theorem GL{n:Int}:∀{xs:List De},(∀d nm r,De.oth (Q6 "leave") d nm r∈xs->∃kd,r=[.str kd]/\Rz kd=true)->(xs.filter (qv n)).map De.enc=((xs.filterMap De.lv).filter λp=>decide (p.d<=n)).map jK
 | [],_=>rfl
 | x::xs,h=>by
  have ih:=GL (n:=n) (xs:=xs) λd nm r z=>h d nm r (Ru _ z);by_cases hw:x.w=Q6 "leave"
  ·cases x with
   | pap p=>exact absurd hw (by show Q6 "paper"≠_;decide+kernel)
   | oth w d nm r=>
    have hw:w=Q6 "leave":=hw;subst hw;obtain⟨kd,rfl,_⟩:=h d nm r RD;have e1:De.lv (.oth (Q6 "leave") d nm [.str kd])=some ⟨d,nm,kd,[]⟩:=by simp [De.lv]
    have e2:qv n (.oth (Q6 "leave") d nm [.str kd])=decide (d<=n):=by
     show((Q6 "leave"==Q6 "leave") && decide (d<=n))=_;rw [beq_self_eq_true,SV]
    rw [Sr,e1,So,So,e2];by_cases hd:d<=n
    ·rw [Yp (by simpa using hd),Yp (by simpa using hd),Rb,Rb,ih];rfl
    ·rw [Yo (by simpa using hd),Yo (by simpa using hd),ih]
  ·have e1:De.lv x=none:=by
    cases x with
    | pap p=>rfl
    | oth w d nm r=>
     unfold De.lv;split
     ·rename_i e;cases e;rw [bV (show w≠Q6 "leave" from hw),Yo Rl]
     ·rfl
   have e2:qv n x=false:=by unfold qv;rw [bV hw,UZ]
   rw [Sr,e1,So,e2,Yo Rl,ih]
theorem O7{ps:List Pp}{ds:List Ys}(nd:(ps.map (·.nm)).Nodup)(hp:ds.Perm (ps.map jK))(hs:ds.Pairwise λa b=>aP (gK a) (gK b)=true):ds=(bB ps).map jK:=by
 refine mH (r:=λa b=>aP (gK a) (gK b)=true) (λa b z=>uT z) (hp.trans ((jC ps).map jK).symm) hs ?_;rw [SD];exact qh nd
theorem AR{xs:List De}{p:Pp}(h:p∈xs.filterMap De.lv):∃x∈xs,x= .oth (Q6 "leave") p.d p.nm [.str p.kd]:=by
 obtain⟨x,hx,e⟩:=TQ.mp h;cases x with
 | pap q=>cases e
 | oth w d nm r=>
  unfold De.lv at e;split at e
  ·rename_i e2;cases e2;split at e
   ·rename_i hw;cases e;exact⟨_,hx,by rw [eq_of_beq hw]⟩
   ·cases e
  ·cases e
theorem AS:∀{xs:List De},xs.Nodup->(∀x∈xs,∀y∈xs,x.w=Q6 "leave"->y.w=Q6 "leave"->x.nm=y.nm->x=y)->((xs.filterMap De.lv).map (·.nm)).Nodup
 | [],_,_=>by simp
 | x::xs,nd,h=>by
  rw [Ss] at nd;have ih:=AS nd.2 λa ha b hb=>h a (Ru _ ha) b (Ru _ hb);rw [Sr];cases e:De.lv x with
  | none=>exact ih
  | some p=>
   show(Sb (·.nm) (p::xs.filterMap De.lv)).Nodup;rw [Rb,Ss];refine⟨λhm=>?_,ih⟩;obtain⟨p',hp',en⟩:=Rj.mp hm;obtain⟨y,hy,ey⟩:=AR hp';obtain⟨x',hx',ex⟩:=AR (xs:=[x]) (p:=p) (by rw [Sr,e];simp);rw [RF] at hx';subst hx';have:=h x' RD y (Ru _ hy) (by rw [ex];rfl) (by rw [ey];rfl) (by rw [ex,ey];exact en.symm);rw [this] at nd;exact nd.1 hy
def bu(xs:List De)(n:Int)(rows:List Ro):Rn:=⟨n,dD xs n,cG xs n,vh xs n,(rows.foldl bY ([],[])).1,(rows.foldl bY ([],[])).2⟩
def O8:List Ys->List Ys->(List (Str×Ys)->List (ah×Ys)->List (ah×Ys)->Prop)->Prop:=λds es Q=>∃(xs:List De)(n:Int)(rows:List Ro),ds=[.tuple (xs.map De.enc),.int n]/\es=rows.map Ro.enc/\bX xs/\rows.length<=100000/\(pd (bu xs n rows)->Q (bu xs n rows).fd (fH (bu xs n rows).go) (fZ (bu xs n rows).us))
theorem AU(R:Rn):gC (Q6 "mark") (R.fd.map (·.1))=true:=by
 show gC (Q6 "mark") [Q6 "day",Q6 "rules",Q6 "holds",Q6 "leaves"]=true;decide+kernel
theorem O9(T:Txt K mg t):aB P w K mg base CX0 5 t.a_k t.d_k ["self","deeds","day","done"] (uc K t.u_Round O8):=by
 have G_R:=@N7 P w _ _ base _ T;have G_S:=@Ga P w _ _ base _ T;have G_J:=@Ay P w _ _ base _ T;have G_l:=@GF P w _ _ base _ T;refine T.F_k.F.okRn Ao (λds es Q h=>?_) (λcdv A outer s H H1 O ds es Q E l hr h0 hX h=>?_)
 ·obtain⟨xs,n,rows,rfl,_⟩:=h;rfl
 ·obtain⟨xs,n,rows,rfl,rfl,g,rl,q⟩:=h;refine'⟨_,?A,?B⟩
  case A=>
   refine' aq ?C ?D
   case C=>exact(fP (C:=t.u_Round) (i:=0) T.cl_Round T.na_Round_day (pv 0) (dv 2))
   case' D=>refine' aq ?E ?F
   case E=>exact(fP (C:=t.u_Round) (i:=0) T.cl_Round T.na_Round_rules (pv 0) (PE.imp (aD G_R (hr.mono Ym) rfl T.F_R (aa (dv 1) (aa (dv 2) aj))) aK))
   case' F=>refine' aq ?G ?H
   case G=>exact(fP (C:=t.u_Round) (i:=0) T.cl_Round T.na_Round_holds (pv 0) (PE.imp (aD G_S (hr.mono Ym) rfl T.F_S (aa (dv 1) (aa (dv 2) aj))) aK))
   case' H=>refine' aq ?I ?J
   case I=>exact(lI (i:=4) Ao.nd rfl Yq (oK rfl GC (df (dv 1)) aL bS Ym (λ_ _ _ _=>(aI (i:=0) GC.nd rfl Yq)) (λ_ _ _ _=>(d7 (PW.pt (gm (aO (dO hr) dP (df (ao aF aJ (df (dv 0)) (df ag))) (df bj) (aE _)) (gJ (aO iG cq (df (ao aF aJ (df (dv 0)) (df ag))) (df (dv 1)) (aE _))))))) (λ_ _ _ _=>(dv 0))))
   case' J=>refine' aq ?K ?L
   case K=>exact(fP (C:=t.u_Round) (i:=0) T.cl_Round T.na_Round_leaves (pv 0) (fe (DQ gK rfl G_J (aY.in1 (aY.in1 (hr.mono Ym))) T.F_J.b rfl T.F_J.m rfl T.n_sorted S7 (bz (df (dv 4)) bG))))
   case' L=>refine' MP (C:=t.u_Round) (i:=0) T.cl_Round T.na_Round_gone T.na_Round_used (pv 0) (pv 0) ?M
   case' M=>refine' ax ?N
   case' N=>refine' MQ (j:=3) h0 RU rfl (pv 3) ?O aL ?P
   case O=>exact(aI (i:=5) Ao.nd rfl Yq)
   case' P=>refine' ax ?Q
   case Q=>exact(En (C:=t.u_Round) (i:=0) hX (pv 0) T.cl_Round T.mt_Round_mark G_l (hr.mono Ym) T.F_l.b gf (dv 5))
  case B=>
  clear hr T G_R G_S G_J G_l h0 hX;simp only [xK,mE,Rb,RX,Sz,Sy,V2,Rq,R8,S0,S4,RR];have f1:∀a,dU (Q6 "day") a []=[(Q6 "day",a)]:=λa=>rfl;have f2:∀a b,dU (Q6 "rules") b [(Q6 "day",a)]=[(Q6 "day",a),(Q6 "rules",b)]:=λa b=>jJ (ks:=[Q6 "day"]) rfl cp;have f3:∀a b c,dU (Q6 "holds") c [(Q6 "day",a),(Q6 "rules",b)]=[(Q6 "day",a),(Q6 "rules",b),(Q6 "holds",c)]:=λa b c=>jJ (ks:=[Q6 "day",Q6 "rules"]) rfl cp;have f4:∀a b c d,dU (Q6 "leaves") d [(Q6 "day",a),(Q6 "rules",b),(Q6 "holds",c)]=[(Q6 "day",a),(Q6 "rules",b),(Q6 "holds",c),(Q6 "leaves",d)]:=λa b c d=>jJ (ks:=[Q6 "day",Q6 "rules",Q6 "holds"]) rfl cp;have lt:∀n:Nat,n < 10->n < 1000:=λn h=>by omega
  have lt9:∀n:Nat,n < 10->n < 900:=λn h=>by omega
  have xl:=g.gd.gx.ln;generalize hB:ue _ _ _=TB;walk_at "g";simp only [f1,f2,f3,f4];refine⟨xs,n,rfl,g.gd,λh1 h2=>⟨lt 1 Ym,xs,n,rfl,g,λh3=>⟨lt 2 Ym,by rw [Q8];omega,cT (qv n) De.enc (λx hx R S h=>?_) ?_⟩⟩⟩
  ·have h:if (x.w==Q6 "leave")=true then(if x.d<=n then R x.enc else S) else S:=by
    unfold qv at h;by_cases e1:(x.w==Q6 "leave")=true
    ·rw [Yp e1];rw [e1,SV] at h;by_cases e2:x.d<=n
     ·rw [Yp e2];rw [Yp (by simpa using e2)] at h;exact h
     ·rw [Yo e2];rw [Yo (by simpa using e2)] at h;exact h
    ·rw [Yo e1];rw [Ud] at e1;rw [e1,UZ,Yo Rl] at h;exact h
   cases x <;> simp only [De.enc,De.w,De.d,Pp.enc] at h⊢<;> walk_at "g" <;> exact h
  ·rw [GL g.le];have nd:(((xs.filterMap De.lv).filter λp=>decide (p.d<=n)).map (·.nm)).Nodup:=(AS g.gd.nd g.lv).sublist (Vh.map _);have ll:((xs.filterMap De.lv).filter λp=>decide (p.d<=n)).length<=41:=by
    have a:=R1 (λp:Pp=>decide (p.d<=n)) (xs.filterMap De.lv);have b:=List.length_filterMap_le De.lv xs;omega
   refine⟨λd hd R z=>?_,by rw [Q8];omega,?_,λds' h5 h6=>⟨lt 3 Ym,?_,lt9 4 Ym,λga ua=>?_⟩⟩
   ·obtain⟨p,hp,rfl⟩:=Rj.mp hd;exact⟨.oth (Q6 "leave") p.d p.nm [.str p.kd],rfl,z⟩
   ·rw [RB];exact Fs nd
   ·show gC (Q6 "mark") [Q6 "day",Q6 "rules",Q6 "holds",Q6 "leaves"]=true;decide+kernel
   ·rw [O7 nd h5 h6];have g5:pd (bu xs n rows):=by
     refine⟨Oo g.gd h1 h2,h3,?_,λp hp=>?_⟩
     ·show(bB _).length<=41;rw [jD];exact ll
     ·have hp:=(RK.mp (ke.mp hp)).1;obtain⟨x,hx,e⟩:=AR hp;obtain⟨kd,e2,h⟩:=g.le p.d p.nm [.str p.kd] (by rw [<-e];exact hx);simp only [RZ,SJ,and_true] at e2;rw [e2];exact h
    have q:=q g5;subst hB;walk_at "g";refine⟨λi δ=>∃o5,δ=[some (Sl.r l t.u_Round ga ua (bu xs n rows).fd (fH ((rows.take i).foldl bY ([],[])).1) (fZ ((rows.take i).foldl bY ([],[])).2)),some (Sl.v (RV (Sb De.enc xs))),some (Sl.v (Rg n)),some (Sl.b (Sb Ro.enc rows)),some (Sl.v (Sw (((xs.filterMap De.lv).filter λp=>decide (p.d<=n)).map jK))),o5],⟨none,rfl⟩,?_,?_⟩
    ·rintro i z δ hz ⟨o5,rfl⟩;rw [Rt] at hz;cases hz':rows[i]? with
     | none=>rw [hz'] at hz;cases hz
     | some r=>
      rw [hz'] at hz;cases hz;have ts:(rows.take (i+1)).foldl bY ([],[])=bY ((rows.take i).foldl bY ([],[])) r:=by
       rw [R4,hz',T6];rfl
      obtain⟨m1,m2⟩:=AQ (rows.take i) ([],[]);rw [Sg] at m1 m2;simp only [R8] at m1 m2;simp only [ts,Ro.enc];walk_at "g";generalize hM:(rows.take i).foldl bY ([],[])=M at m1 m2;refine⟨rfl,AU _,by unfold fH;rw [Q8];omega,by unfold fZ;rw [Q8];omega,?_⟩;have e1:(bY M r).1=jL M.1 r.nm r.d:=rfl;rw [e1,GH];cases hv:r.lv with
      | none=>
       have e2:(bY M r).2=M.2:=by unfold bY;rw [hv]
       rw [e2];exact .inl ⟨rfl,rfl,rfl,_,rfl⟩
      | some v=>
       have e2:(bY M r).2=pe M.2 v:=by unfold bY;rw [hv]
       rw [e2];exact .inr ⟨v,rfl,rfl,GI _ _,_,rfl⟩
    ·rintro δ ⟨o5,rfl⟩;rw [Q8,RM (Rf _)];exact⟨_,_,_,_,_,rfl,q⟩
end
local macro_rules | `(tactic| walk_at "g") =>rzT (rzS++" Sl.i.injEq Sl.r.injEq Sl.b.injEq exists_and_left pT xI xG xM ue Ep xJ Er")
theorem GN:aZ (av uJ) ["deeds"] ["name","deeds"] 1 [0] ⟨Ri,[ (Q9 ".0",Z9),(Q9 "name",Z9),(Q9 "Paper",Sa),(Q9 "line_of",Sa),(Q9 "deeds",RA)],false,false,[]⟩:=⟨rfl,cp,cp,cp,rfl,cp,cp,cp,rfl⟩
section
variable {P:YE} {w:YF} {K:Q7} {mg:Str->Option Yt} {base:YG} {t:cF}
theorem Pa(T:Txt K mg t):t.u_Look≠t.u_Round:=λe=>by
 have h1:=T.mk_Look.init;have h2:=T.mk_Round.init;rw [e,h2] at h1;have h3:t.a_k=t.a_h:=by injection h1 with h1;injection h1 with h1;injection h1
 obtain⟨_,_,_,_,_,_,_,_,_,e1,k1,_⟩:=T.F_h.F.ex;obtain⟨_,_,_,_,_,_,_,_,_,e2,k2,_⟩:=T.F_k.F.ex;rw [<-h3,k2] at k1;simp only [SM,Obj.mk.injEq,Data.func.injEq] at k1;have h4:t.d_k=t.d_h:=k1.2.2.1;rw [e1,e2] at h4;have h5:("Round.__init__":Str)="Look.__init__":=congrArg FuncData.qualname h4;exact absurd h5 cp
abbrev Sf:=Rp×List Pp
def Sf.enc(C:Yu)(s:Sf):Ys:= .tuple [s.1.enc C,.list (s.2.map Pp.enc)]
def cx(xs:List De):List Sf:=(bB (ay xs)).map λc=>(bL xs c,cU (ay xs) c)
def GO(s:Sf):Prop:=gN s.1/\ve s.2
def Pb(C:Yu):List Ys->(Ys->Prop)->Prop:=λds Q=>∃xs:List De,ds=[.tuple (xs.map De.enc)]/\gM xs/\((∀s∈cx xs,GO s)->Q (.list ((cx xs).map (Sf.enc C))))
theorem Pc(T:Txt K mg t):aB P w K mg base CX0 9 t.a_o t.d_o ["deeds"] (aU K (Pb t.u_Paper)):=by
 have G_I:=@Fw P w _ _ base _ T;have G_M:=@AB P w _ _ base _ T;have G_P:=@Gm P w _ _ base _ T;refine T.F_o.F.okD Nm (λds Q h=>?_) (λ_ _ _ _ H O ds Q E hr h=>?_)
 ·obtain⟨xs,rfl,_⟩:=h;rfl
 ·obtain⟨xs,rfl,gd,q⟩:=h;refine'⟨_,?A,?B⟩
  case A=>
   refine' ax ?C
   case' C=>refine' bb ?D
   case' D=>refine' fe ?E
   case E=>exact(kQ rfl GN (df (PE.imp (aD G_M (hr.mono Ym) rfl T.F_M (aa (dv 0) aj)) aK)) aL bS Ym (λ_ _ _ _=>(aI (i:=0) GN.nd rfl Yq)) (λ_ _ _ _=>eU) (λ_ _ _ _=>(bF (aa (PE.imp (sP T.mk_Paper G_I (hr.mono Ym) rfl T.c_Paper T.F_I.b .nil gf (aa (dv 1) (aa (dv 0) aj))) xi) (aa (PE.imp (aD G_P (hr.mono Ym) rfl T.F_P (aa (dv 1) (aa (dv 0) aj))) aK) aj)))))
  case B=>
  clear hr T G_I G_M G_P;walk_at "d";have ln:=gd.gx.ln;have ol:=jD (ps:=ay xs);have pl:=gd.gx.gp.ln;refine⟨xs,rfl,gd.gx,_,rfl,by rw [Q8,Q8];omega,?_⟩;refine⟨λi acc=>acc=((bB (ay xs)).take i).map (λc=>Sf.enc t.u_Paper (bL xs c,cU (ay xs) c))/\∀c∈(bB (ay xs)).take i,gN (bL xs c),⟨rfl,Yr⟩,?_,?_⟩
  ·rintro i z acc hz ⟨rfl,hh⟩;rw [Rt,Rt] at hz;cases hz':(bB (ay xs))[i]? with
   | none=>rw [hz'] at hz;cases hz
   | some c=>
    rw [hz'] at hz;cases hz;walk_at "d";have hc:=ke.mp (RN hz');refine⟨xs,c,rfl,gd,hc,λh1 h2 h3=>⟨xs,c,rfl,gd.gx,hc,?_,λc' hc'=>?_⟩⟩
    ·rw [R4,hz',RH];rfl
    ·rw [R4,hz'] at hc';rcases Ry.mp hc' with y | y
     ·exact hh c' y
     ·have y:c'=c:=by simpa using y
      rw [y];exact FN gd hc h1 h3
  ·rintro acc ⟨rfl,hh⟩;simp only [Q8,XF] at hh⊢;have e:(bB (ay xs)).map (λc=>Sf.enc t.u_Paper (bL xs c,cU (ay xs) c))=(cx xs).map (Sf.enc t.u_Paper):=by unfold cx;rw [RB];rfl
   rw [e];refine q λs hs=>?_;obtain⟨c,hc,rfl⟩:=Rj.mp hs;exact⟨hh c hc,Gj gd.gx.gp (ke.mp hc)⟩
abbrev jM:=List (Str×Int)×List Str
def gO(go:List (Str×Int))(z:Str):Bool:=go.any λp=>decide (p.1=z)
def Rn.at(R:Rn)(m:jM):Rn:={R with go:=m.1,us:=m.2}
def eF(R:Rn)(st:jM×List Lk)(s:Sf):jM×List Lk:=
 if (decide (s.1.c.d<=R.n) && !gO st.1.1 s.1.c.nm)=true then((if (cO (R.at st.1) s.1 s.2).lets=true then bY st.1 (cO (R.at st.1) s.1 s.2).row else st.1),st.2++[cO (R.at st.1) s.1 s.2]) else st
def i9(R:Rn)(ss:List Sf):jM×List Lk:=ss.foldl (eF R) ((R.go,R.us),[])
def iz(xs:List De)(n:Int)(rows:List Ro)(ss:List Sf):List Lk:=(i9 (bu xs n rows) ss).2
theorem AV:∀{ds:List Ys},(∀d∈ds,cM d=true)->fQ ds=true
 | [],_=>rfl
 | d::ds,h=>by
  rw [fQ,h d RD,AV λx hx=>h x (Ru _ hx)];rfl
theorem GP(o:Option Int):cM (bp o)=true:=by cases o <;> rfl
theorem Pd(o:Option Str):cM (i7 o)=true:=by cases o <;> rfl
theorem Pe{r:Rp}{n:Int}{g:Gn}{pt:Pt}{d:Ys}(h:kh r n g pt=some d):cM d=true:=by
 cases pt with
 | two w kd=>
  simp only [kh] at h;split at h
  ·rw [Ug] at h;obtain⟨s,_,rfl⟩:=h;rfl
  ·cases h
 | five w kd s k u=>
  simp only [kh] at h;split at h
  ·cases h;exact GP _
  ·cases h
theorem Pf{r:Rp}{n:Int}{g:Gn}{pt:Pt}{d:Ys}(h:mK r n g pt=some d):cM d=true:=by
 cases pt with
 | two w kd=>
  simp only [mK] at h;split at h
  ·rw [Ug] at h;obtain⟨s,_,rfl⟩:=h;rfl
  ·cases h
 | five w kd s k u=>
  simp only [mK] at h;split at h
  ·cases h;exact GP _
  ·cases h
theorem GQ{r:Rp}{n:Int}{g:Gn}{L:List (Str×Pt)}{z:Str×Ys}(h:z∈fT r n g L):cM z.2=true:=by
 obtain⟨y,_,hy⟩:=Vd.mp h;unfold u5 at hy;rw [Vz,Ug] at hy;obtain⟨b,hb,rfl⟩:=hy;exact Pe hb
theorem Pg{r:Rp}{n:Int}{g:Gn}{L:List (Str×Pt)}{z:Str×Ys}(h:z∈fG r n g L):cM z.2=true:=by
 obtain⟨y,_,hy⟩:=Vd.mp h;unfold rP at hy;rw [Vz,Ug] at hy;obtain⟨b,hb,rfl⟩:=hy;exact Pf hb
theorem GR{l:List (Str×Ys)}(h:∀z∈l,cM z.2=true):fQ (l.map cv)=true:=AV λd hd=>by
 obtain⟨z,hz,rfl⟩:=Rj.mp hd;show(true && (cM z.2 && true))=true;rw [h z hz];rfl
theorem Ph{CR CL:Yu}(ne:CL≠CR)(R:Rn)(r:Rp)(line:List Pp):xD CR ((cO R r line).enc CL):=by
 refine .inr ⟨CL,_,_,ne,rfl,?_⟩;have h1:fQ ((fT r R.n R.gn R.L).map cv)=true:=GR λz hz=>GQ hz;have h2:fQ ((fG r R.n R.gn R.L).map cv)=true:=GR λz hz=>Pg hz;have h3:fQ (cO R r line).bars=true:=AV λd hd=>by
  have hd:d∈(fT r R.n R.gn R.L).map rW++(ft R.hs line).map rX++(if i8 R r.c.kd=none then(fU r.c.kd R.L).map qu else []):=hd;rcases Ry.mp hd with hd | hd
  ·rcases Ry.mp hd with hd | hd
   ·obtain⟨z,hz,rfl⟩:=Rj.mp hd;show(true && (true && (cM z.2 && true)))=true;rw [GQ hz];rfl
   ·obtain⟨z,hz,rfl⟩:=Rj.mp hd;rfl
  ·split at hd
   ·obtain⟨z,hz,rfl⟩:=Rj.mp hd;rfl
   ·cases hd
 show(true && (true && (fQ ((fT r R.n R.gn R.L).map cv) && (fQ ((fG r R.n R.gn R.L).map cv) && (fQ (cO R r line).bars && (cM (i7 (cO R r line).lv) && true))))))=true;rw [h1,h2,h3,Pd];rfl
theorem Pj(R:Rn)(st:jM×List Lk)(s:Sf):(eF R st s).1.1.length<=st.1.1.length+1/\(eF R st s).1.2.length<=st.1.2.length+1/\(eF R st s).2.length<=st.2.length+1:=by
 unfold eF;split
 ·refine⟨?_,?_,Yr⟩
  ·show(if _ then _ else _:jM).1.length<=_;split
   ·exact GJ _ _ _
   ·exact Tc _
  ·show(if _ then _ else _:jM).2.length<=_;split
   ·unfold bY;cases (cO (R.at st.1) s.1 s.2).row.lv with
    | none=>exact Tc _
    | some v=>exact GK _ _
   ·exact Tc _
 ·exact⟨Tc _,Tc _,Tc _⟩
theorem AW(R:Rn):∀(ss:List Sf)(st:jM×List Lk),(ss.foldl (eF R) st).1.1.length<=st.1.1.length+ss.length/\(ss.foldl (eF R) st).1.2.length<=st.1.2.length+ss.length/\(ss.foldl (eF R) st).2.length<=st.2.length+ss.length
 | [],st=>⟨Rf _,Rf _,Rf _⟩
 | s::ss,st=>by
  obtain⟨h1,h2,h3⟩:=AW R ss (eF R st s);obtain⟨a1,a2,a3⟩:=Pj R st s;rw [R6,Rq];exact⟨Yn,Yn,Yn⟩
theorem GS(R:Rn)(g:pd R):∀(ss:List Sf)(st:jM×List Lk),(∀k∈st.2,kj k)->∀k∈(ss.foldl (eF R) st).2,kj k
 | [],st,h=>h
 | s::ss,st,h=>by
  rw [R6];refine GS R g ss _ λk hk=>?_;unfold eF at hk;split at hk
  ·rcases Ry.mp hk with z | z
   ·exact h k z
   ·rw [RF] at z;rw [z];exact GA ⟨g.rl,g.hd,g.ll,g.lk⟩
  ·exact h k hk
theorem Pk(go:List (Str×Int))(z:Str):(fj (fH go) (.inr z)).isSome=gO go z:=by
 unfold fj gO;rw [Vx,<-GG,UM,List.find?_isSome,T9]
theorem Pm(R:Rn):gC (Q6 "look") (R.fd.map (·.1))=true:=by
 show gC (Q6 "look") [Q6 "day",Q6 "rules",Q6 "holds",Q6 "leaves"]=true;decide+kernel
theorem GU:Q6 "lets_go" ∉ cw:=cp
theorem GV:Q6 "as_row" ∉ cw:=cp
def Pn(xs:List De)(ss:List Sf)(n:Int)(rows:List Ro)(l CR CP CL ga ua:Yu)(R:Rn)(st:jM×List Lk)(δ:Dl):Prop:=∃(o6 o7 o8:Option Sl),δ=[some (Sl.v (RV (Sb De.enc xs))),some (Sl.v (Sw (Sb (Sf.enc CP) ss))),some (Sl.v (Rg n)),some (Sl.b (Sb Ro.enc rows)),some (Sl.r l CR ga ua R.fd (fH st.1.1) (fZ st.1.2)),some (Sl.o (st.2.map (Lk.enc CL))),o6,o7,o8]
def Po(CP CL:Yu):List Ys->List Ys->(Ys->Prop)->Prop:=λds es Q=>∃(xs:List De)(ss:List Sf)(n:Int)(rows:List Ro),ds=[.tuple (xs.map De.enc),.list (ss.map (Sf.enc CP)),.int n]/\es=rows.map Ro.enc/\bX xs/\rows.length<=100000/\ss.length<=41/\(∀s∈ss,GO s)/\((∀k∈iz xs n rows ss,kj k)->Q (.list ((iz xs n rows ss).map (Lk.enc CL))))
theorem Pq(T:Txt K mg t):aB P w K mg base CX0 9 t.a_p t.d_p ["deeds","shelf","day","done"] (ub K (Po t.u_Paper t.u_Look)):=by
 have G_k:=@O9 P w _ _ base _ T;have G_l:=@GF P w _ _ base _ T;have G_n:=@O5 P w _ _ base _ T;have G_i:=@Gr P w _ _ base _ T;have G_j:=@Gs P w _ _ base _ T;have two:=Pa T;refine T.F_p.F.okB qc (λds es Q h=>?_) (λcdv A outer s H O ds es Q E hr h0 h=>?_)
 ·obtain⟨xs,ss,n,rows,rfl,_⟩:=h;rfl
 ·obtain⟨xs,ss,n,rows,rfl,rfl,g,rl,sl,so,q⟩:=h;have hX:∀b,H b=none->∀o z,H b≠some (.frz o z):=λb hb o z e=>by
   rw [hb] at e;cases e
  refine'⟨_,?A,?B⟩
  case A=>
   refine' aq ?C ?D
   case C=>exact(MO (C:=t.u_Round) (i:=4) (j:=3) qc.nd rfl Yq T.mk_Round G_k (hr.mono Ym) rfl T.c_Round T.F_k.b gf (dv 0) (dv 2) (pv 3))
   case' D=>refine' aq ?E ?F
   case E=>exact(g7 (i:=5) qc.nd rfl Yq (cn aj))
   case' F=>refine' aq ?G ?H
   case G=>
    refine' iR RU rfl (dv 1) ?I (iQ (cC aL (cC aL iP))) ?J
    case I=>exact(iC (n:=2) rfl (cB (aI (i:=6) qc.nd rfl Yq) (cB (aI (i:=7) qc.nd rfl Yq) iB)))
    case' J=>refine' ax ?K
    case' K=>refine' bR ?L ?M bQ
    case L=>exact(PW.pt (gm (aO iG cq (df (cg (C:=t.u_Paper) T.cl_Paper T.na_Paper_coming (dv 6))) (df (dv 2)) (aE _)) (gJ (MM (C:=t.u_Round) (i:=4) hr.units T.cl_Round T.na_Round_gone (pv 4) (cg (C:=t.u_Paper) T.cl_Paper T.na_Paper_name (dv 6))))))
    case' M=>refine' aq ?N ?O
    case N=>exact(bo (i:=8) qc.nd rfl Yq (PE.imp (B1 (pv 4) T.cl_Round T.mt_Round_look G_n (hr.mono Ym) T.F_n.b .nil gf (aa (dv 6) (aa (dv 7) aj))) MK))
    case' O=>refine' aq ?P ?Q
    case P=>exact(hG (i:=5) (pv 5) (dv 8))
    case' Q=>refine' ax ?R
    case' R=>refine' bR ?S ?T bQ
    case S=>exact(mX (PE.imp (sO (dv 8) T.cl_Look T.mt_Look_lets_go G_i (hr.mono Ym) T.F_i.b .nil gf) t5))
    case' T=>refine' ax ?U
    case U=>exact(En (C:=t.u_Round) (i:=4) hX (pv 4) T.cl_Round T.mt_Round_mark G_l (hr.mono Ym) T.F_l.b gf (PE.imp (sO (dv 8) T.cl_Look T.mt_Look_as_row G_j (hr.mono Ym) T.F_j.b .nil gf) t5))
   case' H=>refine' ax ?V
   case V=>exact(pH (pv 5))
  case B=>
  clear hr T G_k G_l G_n G_i G_j h0 hX;simp only [mE,Rb,RX,Sz,Sy,V2,Rq,R8,S0,S4,RR];walk_at "g";refine⟨xs,n,rows,rfl,rfl,g,rl,λgR l ga ua=>?_⟩;have q:Q (.list ((i9 (bu xs n rows) ss).2.map (Lk.enc t.u_Look))):=q (GS _ gR ss _ (λk hk=>nomatch hk));obtain⟨m1,m2⟩:=AQ rows ([],[]);have m1:(bu xs n rows).go.length<=100000:=by
   have:(bu xs n rows).go.length<=0+rows.length:=m1;omega
  have m2:(bu xs n rows).us.length<=100000:=by
   have:(bu xs n rows).us.length<=0+rows.length:=m2;omega
  generalize hE:d8.mk _ _ _ _=EE;have eN:EE.nx=jm 5 {nx:=λx=>Q Tq,rt:=Q}:=by rw [<-hE]
  have hn:(bu xs n rows).n=n:=rfl;clear hE rl;generalize bu xs n rows=R at*;refine⟨λi=>Pn xs ss n rows l t.u_Round t.u_Paper t.u_Look ga ua R (i9 R (ss.take i)),⟨none,none,none,rfl⟩,?_,?_⟩
  ·rintro i z δ hz ⟨o6,o7,o8,rfl⟩;rw [Rt] at hz;cases hz':ss[i]? with
   | none=>rw [hz'] at hz;cases hz
   | some s=>
    rw [hz'] at hz;cases hz;have ts:i9 R (ss.take (i+1))=eF R (i9 R (ss.take i)) s:=by
     unfold i9;rw [R4,hz',T6];rfl
    obtain⟨b1,b2,b3⟩:=AW R (ss.take i) ((R.go,R.us),[]);have b1:(i9 R (ss.take i)).1.1.length<=R.go.length+(ss.take i).length:=b1;have b2:(i9 R (ss.take i)).1.2.length<=R.us.length+(ss.take i).length:=b2;have b3:(i9 R (ss.take i)).2.length<=0+(ss.take i).length:=b3;rw [Sg] at b1 b2 b3;obtain⟨so1,so2⟩:=so s (RN hz');simp only [ts];generalize i9 R (ss.take i)=st at b1 b2 b3;simp only [Sf.enc];walk_at "g";have no:(decide (s.1.c.d<=R.n) && !gO st.1.1 s.1.c.nm)=false->eF R st s=st:=λh=>by
     unfold eF;rw [Yo (by rw [h];exact Rl)]
    refine⟨[Q6 "name",Q6 "coming",Q6 "kind",Q6 "makers",Q6 "happenings"],_,rfl,_,uU,_,rfl,?_⟩;by_cases hd:s.1.c.d<=n
    ·rw [Yp hd];refine⟨[Q6 "name",Q6 "coming",Q6 "kind",Q6 "makers",Q6 "happenings"],_,rfl,_,GB,_,rfl,AU R,?_⟩;rw [Pk];by_cases hg:gO st.1.1 s.1.c.nm=false
     ·rw [Yp hg];have eS:eF R st s=((if (cO (R.at st.1) s.1 s.2).lets=true then bY st.1 (cO (R.at st.1) s.1 s.2).row else st.1),st.2++[cO (R.at st.1) s.1 s.2]):=by
       unfold eF;rw [Yp (by rw [hn,decide_eq_true hd,hg];rfl)]
      have gR':pd (R.at st.1):=⟨gR.rl,gR.hd,gR.ll,gR.lk⟩;refine⟨Pm R,st.1.1.map (·.1),by unfold fH;rw [RB,RB];rfl,st.1.2,by unfold fZ;rw [RB];rfl,?_⟩;refine⟨R.at st.1,s.1,s.2,by rw [<-OW];rfl,gR',so1,so2,Ph two _ _ _,by rw [Q8];omega,cw,⟨_,rfl⟩,GU,cO (R.at st.1) s.1 s.2,rfl,GA gR',_,rfl,?_⟩;rw [eS];generalize cO (R.at st.1) s.1 s.2=k;by_cases hl:k.lets=true
      ·rw [Yp hl,Yp hl];refine⟨rfl,AU R,cw,⟨_,rfl⟩,GV,k,rfl,k.nm,.int k.d,i7 k.lv,rfl,by unfold fH;rw [Q8];omega,by unfold fZ;rw [Q8];omega,?_⟩;have e3:st.2.map (Lk.enc t.u_Look)++[k.enc t.u_Look]=(st.2++[k]).map (Lk.enc t.u_Look):=by rw [RH];rfl
       rw [GH,e3];cases hv:k.lv with
       | none=>
        have e2:bY st.1 k.row=(jL st.1.1 k.nm k.d,st.1.2):=by
         unfold bY;rw [show k.row.lv=none from hv];rfl
        exact .inl ⟨rfl,_,_,_,by rw [e2]⟩
       | some v=>
        have e2:bY st.1 k.row=(jL st.1.1 k.nm k.d,pe st.1.2 v):=by
         unfold bY;rw [show k.row.lv=some v from hv];rfl
        exact .inr ⟨v,rfl,_,_,_,by rw [GI,e2]⟩
      ·rw [Yo hl,Yo hl];exact⟨_,_,_,by rw [RH];rfl⟩
     ·rw [Yo hg,no (by rw [Xt] at hg;rw [hg,X6];rfl)];exact⟨_,_,_,rfl⟩
    ·rw [Yo hd,no (by rw [hn,decide_eq_false hd];rfl)];exact⟨_,_,_,rfl⟩
  ·rintro δ ⟨o6,o7,o8,rfl⟩;rw [eN,Q8,RM (Rf _)];walk_at "g";exact q
end
theorem GW:aZ (av uK) ["looks"] ["look"] 1 [] ⟨Ri,[(Q9 ".0",Z9),(Q9 "look",Z9)],false,false,[]⟩:=⟨rfl,cp,cp,cp,rfl,cp,cp,cp,rfl⟩
section
variable {P:YE} {w:YF} {K:Q7} {mg:Str->Option Yt} {base:YG} {t:cF}
def cH(ks:List Lk):List Ro:=(ks.filter Lk.lets).map Lk.row
def Pr(CL:Yu):List Ys->(Ys->Prop)->Prop:=λds Q=>∃ks:List Lk,ds=[.list (ks.map (Lk.enc CL))]/\(∀k∈ks,kj k)/\ks.length<=100000/\Q (.list ((cH ks).map Ro.enc))
theorem GX(T:Txt K mg t):aB P w K mg base CX0 2 t.a_r t.d_r ["looks"] (aU K (Pr t.u_Look)):=by
 have G_i:=@Gr P w _ _ base _ T;have G_j:=@Gs P w _ _ base _ T;refine T.F_r.F.okD Nn (λds Q h=>?_) (λ_ _ _ _ H O ds Q E hr h=>?_)
 ·obtain⟨ks,rfl,_⟩:=h;rfl
 ·obtain⟨ks,rfl,ok,le,q⟩:=h;refine'⟨_,?A,?B⟩
  case A=>
   refine' ax ?C
   case' C=>refine' bb ?D
   case' D=>refine' fe ?E
   case E=>exact(fh rfl GW (df (dv 0)) aL bS Ym (λ_ _ _ _=>(aI (i:=0) GW.nd rfl Yq)) (λ_ _ _ _=>(d7 (mX (PE.imp (sO (dv 0) T.cl_Look T.mt_Look_lets_go G_i (hr.mono Ym) T.F_i.b .nil gf) t5)))) (λ_ _ _ _=>(PE.imp (sO (dv 0) T.cl_Look T.mt_Look_as_row G_j (hr.mono Ym) T.F_j.b .nil gf) t5)))
  case B=>
  clear hr T G_i G_j;walk_at "g";refine⟨by rw [Q8];omega,cT Lk.lets (λk=>k.row.enc) (λk hk R S h=>?_) ?_⟩
  ·walk_at "g";refine⟨cw,⟨_,rfl⟩,GU,k,rfl,ok k hk,_,rfl,?_⟩;by_cases hl:k.lets=true
   ·rw [Yp hl] at h⊢;exact⟨cw,⟨_,rfl⟩,GV,k,rfl,h⟩
   ·rw [Yo hl] at h⊢;exact h
  ·have e:(ks.filter Lk.lets).map (λk=>k.row.enc)=(cH ks).map Ro.enc:=by unfold cH;rw [RB];rfl
   rw [e];exact q
def fu(xs:List De)(ss:List Sf)(st:List Ro×List Lk)(n:Int):List Ro×List Lk:=(st.1++cH (iz xs n st.1 ss),st.2++iz xs n st.1 ss)
def fx(xs:List De)(ss:List Sf)(ns:List Int):List Ro×List Lk:=ns.foldl (fu xs ss) ([],[])
theorem Pu{xs:List De}(g:gM xs):(cx xs).length<=41:=by
 unfold cx;rw [Q8,jD];exact g.gx.gp.ln
theorem Pw(xs:List De)(n:Int)(rows:List Ro)(ss:List Sf):(iz xs n rows ss).length<=ss.length:=by
 have h:=(AW (bu xs n rows) ss (((bu xs n rows).go,(bu xs n rows).us),[])).2.2;rw [R8,Uk] at h;exact h
theorem GY(ks:List Lk):(cH ks).length<=ks.length:=by
 unfold cH;rw [Q8];exact R1 _ _
theorem Px{xs:List De}{ss:List Sf}{ns:List Int}{i:Nat}{n:Int}(h:ns[i]?=some n):fx xs ss (ns.take (i+1))=fu xs ss (fx xs ss (ns.take i)) n:=by
 unfold fx;rw [R4,h,T6];rfl
def Py(xs:List De)(ss:List Sf)(ns:List Int)(CP CL:Yu)(i:Nat)(st:List Ro×List Lk)(δ:Dl):Prop:=∃(o6 o7:Option Sl),st.1.length<=41*i/\st.2.length<=41*i/\(∀k∈st.2,kj k)/\δ=[some (Sl.v (RV (Sb De.enc xs))),some (Sl.v (RV (Sb Rg ns))),some (Sl.v (Sw [])),some (Sl.v (Sw (ss.map (Sf.enc CP)))),some (Sl.o (st.1.map Ro.enc)),some (Sl.o (st.2.map (Lk.enc CL))),o6,o7]
def F_q(CL:Yu):List Ys->(Ys->Prop)->Prop:=λds Q=>∃(xs:List De)(ns:List Int),ds=[.tuple (xs.map De.enc),.tuple (ns.map .int),.list []]/\bX xs/\ns.length < 64/\((∀k∈(fx xs (cx xs) ns).2,kj k)->(fx xs (cx xs) ns).2.length<=100000->Q (.list ((fx xs (cx xs) ns).2.map (Lk.enc CL))))
theorem Pz(T:Txt K mg t):aB P w K mg base CX0 10 t.a_q t.d_q ["deeds","days","done"] (aU K (F_q t.u_Look)):=by
 have G_o:=@Pc P w _ _ base _ T;have G_p:=@Pq P w _ _ base _ T;have G_r:=@GX P w _ _ base _ T;refine T.F_q.F.okD qg (λds Q h=>?_) (λ_ _ _ _ H O ds Q E hr h=>?_)
 ·obtain⟨xs,ns,rfl,_⟩:=h;rfl
 ·obtain⟨xs,ns,rfl,g,nl,q⟩:=h;refine'⟨_,?A,?B⟩
  case A=>
   refine' aq ?C ?D
   case C=>exact(bo (i:=3) qg.nd rfl Yq (PE.imp (aD G_o (hr.mono Ym) rfl T.F_o (aa (dv 0) aj)) aK))
   case' D=>refine' aq ?E ?F
   case E=>exact(g7 (i:=4) qg.nd rfl Yq (Kk rfl T.n_list JU (bz (df (dv 2)) bG)))
   case' F=>refine' aq ?G ?H
   case G=>exact(g7 (i:=5) qg.nd rfl Yq (cn aj))
   case' H=>refine' aq ?I ?J
   case I=>
    refine' pK RU rfl (dv 1) ?K aL ?L
    case K=>exact(aI (i:=6) qg.nd rfl Yq)
    case' L=>refine' aq ?M ?N
    case M=>exact(bo (i:=7) qg.nd rfl Yq (MR (j:=4) G_p (hr.mono Ym) rfl T.F_p.m T.F_p.kp T.F_p.b gf (dv 0) (dv 3) (dv 6) (pv 4)))
    case' N=>refine' aq ?O ?P
    case O=>exact(xq (i:=4) (pv 4) (PE.imp (aD G_r (hr.mono Ym) rfl T.F_r (aa (dv 7) aj)) aK))
    case' P=>refine' ax ?Q
    case Q=>exact(xq (i:=5) (pv 5) (dv 7))
   case' J=>refine' ax ?R
   case R=>exact(pH (pv 5))
  case B=>
  clear hr T G_o G_p G_r;walk_at "g";refine⟨xs,rfl,g.gd,λso=>?_⟩;have sl:=Pu g.gd;generalize cx xs=ss at*;generalize hE:d8.mk _ _ _ _=EE;have eN:EE.nx=jm 5 {nx:=λx=>Q Tq,rt:=Q}:=by rw [<-hE]
  clear hE;refine⟨λi=>Py xs ss ns t.u_Paper t.u_Look i (fx xs ss (ns.take i)),⟨none,none,Sd _,Sd _,(λk hk=>nomatch hk),rfl⟩,?_,?_⟩
  ·rintro i z δ hz ⟨o6,o7,l1,l2,ok,rfl⟩;rw [Rt] at hz;cases hz':ns[i]? with
   | none=>rw [hz'] at hz;cases hz
   | some n=>
    rw [hz'] at hz;cases hz;have hi:=(Rm.mp hz').1;simp only [Px hz'];generalize fx xs ss (ns.take i)=st at*;walk_at "g";have k1:=Pw xs n st.1 ss;have k2:=GY (iz xs n st.1 ss);refine⟨xs,ss,n,st.1,rfl,rfl,g,Yn,sl,so,λkok=>⟨iz xs n st.1 ss,rfl,kok,Yn,_,rfl,by rw [Q8,Q8];omega,_,rfl,by rw [Q8,Q8];omega,?_⟩⟩;have a1:(fu xs ss st n).1.length<=41*(i+1):=by
     show(st.1++_).length<=_;rw [Rv];omega
    have a2:(fu xs ss st n).2.length<=41*(i+1):=by
     show(st.2++_).length<=_;rw [Rv];omega
    refine⟨_,_,a1,a2,λk hk=>?_,by rw [<-RH,<-RH];rfl⟩;rcases Ry.mp hk with z | z
    ·exact ok k z
    ·exact kok k z
  ·rintro δ ⟨o6,o7,l1,l2,ok,rfl⟩;rw [Q8,RM (Rf _)] at l2 ok;rw [eN,Q8,RM (Rf _)];walk_at "g";exact q ok Yn
def PB(CL:Yu):List Ys->(Ys->Prop)->Prop:=λds Q=>∃xs:List De,ds=[.tuple (xs.map De.enc)]/\bX xs/\ki xs/\((∀k∈(fx xs (cx xs) (eD xs)).2,kj k)->(fx xs (cx xs) (eD xs)).2.length<=100000->Q (.list ((fx xs (cx xs) (eD xs)).2.map (Lk.enc CL))))
theorem PD(T:Txt K mg t):aB P w K mg base CX0 11 t.a_s t.d_s ["deeds"] (aU K (PB t.u_Look)):=by
 have G_q:=@Pz P w _ _ base _ T;have G_g:=@OC P w _ _ base _ T;refine T.F_s.F.okD Np (λds Q h=>?_) (λ_ _ _ _ H O ds Q E hr h=>?_)
 ·obtain⟨xs,rfl,_⟩:=h;rfl
 ·obtain⟨xs,rfl,g,few,q⟩:=h;refine'⟨_,?A,?B⟩
  case A=>
   refine' ax ?C
   case' C=>refine' bb ?D
   case D=>exact(PE.imp (aD G_q (hr.mono Ym) rfl T.F_q (aa (dv 0) (aa (PE.imp (aD G_g (hr.mono Ym) rfl T.F_g (aa (dv 0) aj)) aK) (aa (fe (cn aj)) aj)))) aK)
  case B=>
  clear hr T G_q G_g;walk_at "g";exact⟨xs,rfl,g.gd,λ_=>few,λ_ tl=>⟨xs,eD xs,rfl,g,tl,q⟩⟩
end
theorem GZ:aZ (av uL) ["deeds","rows","row"] ["name","rows"] 1 [1] ⟨Ri,[ (Q9 ".0",Z9),(Q9 "name",Z9),(Q9 "rows",RA)],false,false,[]⟩:=⟨rfl,cp,cp,cp,rfl,cp,cp,cp,rfl⟩
theorem G0:aZ (av rK) ["deeds","day","days","come"] ["coming","day"] 1 [1] ⟨Ri,[ (Q9 ".0",Z9),(Q9 "coming",Z9),(Q9 "day",RA)],false,false,[]⟩:=⟨rfl,cp,cp,cp,rfl,cp,cp,cp,rfl⟩
theorem G1:aZ (av rK) ["deeds","day","days","come"] ["name","day","days"] 1 [1,2] ⟨Ri,[ (Q9 ".0",Z9),(Q9 "name",Z9),(Q9 "day",RA),(Q9 "days",RA)],false,false,[]⟩:=⟨rfl,cp,cp,cp,rfl,cp,cp,cp,rfl⟩
section
variable {P:YE} {w:YF} {K:Q7} {mg:Str->Option Yt} {base:YG} {t:cF}
def dW{α:Type}(m:List (Str×α))(k:Str)(v:α):List (Str×α):=if (m.any λp=>decide (p.1=k))=true then m.map (λp=>if p.1=k then(p.1,v) else p) else m++[(k,v)]
def gF{α:Type}(f:α->Ys)(m:List (Str×α)):List (ah×Ys):=m.map λp=>(R9 p.1,f p.2)
def ja{α:Type}(m:List (Str×α))(z:Str):Option α:=(m.find? λp=>decide (p.1=z)).map (·.2)
theorem G2{α:Type}(f:α->Ys)(m:List (Str×α))(k:Str)(v:α):dh (gF f m) (.inr k) (f v)=gF f (dW m k v):=by
 have e:((gF f m).any λp=>decide (p.1=R9 k))=m.any λp=>decide (p.1=k):=by
  unfold gF;rw [VT];congr 1;funext p;simp only [TJ,decide_eq_decide];exact jw
 unfold dh dW;rw [e];split
 ·unfold gF;rw [RB,RB];apply Tx;intro p _;simp only [TJ];by_cases h:p.1=k
  ·rw [Yp (by rw [h]),Yp h]
  ·rw [Yo (λe=>h (jw.mp e)),Yo h]
 ·unfold gF;rw [RH];rfl
theorem PF{α:Type}(m:List (Str×α))(k:Str)(v:α):(dW m k v).length<=m.length+1:=by
 unfold dW;split <;> simp
theorem PH{α:Type}(m:List (Str×α))(k:Str)(v:α)(z:Str):ja (dW m k v) z=if k=z then some v else ja m z:=by
 unfold dW ja;by_cases h:(m.any λp=>decide (p.1=k))=true
 ·rw [Yp h]
  induction m with
  | nil=>cases h
  | cons p m ih=>
   rw [Rb,R7,R7];by_cases hp:p.1=k
   ·rw [Yp hp];by_cases hz:k=z
    ·rw [Yp hz,hp,hz];simp
    ·rw [Yo hz];have e1:decide (p.1=z)=false:=decide_eq_false (λe=>hz (by rw [<-hp,e]));simp only [e1];have key:∀l:List (Str×α),(l.map λp=>if p.1=k then(p.1,v) else p).find? (λp=>decide (p.1=z))=l.find? λp=>decide (p.1=z):=λl=>by
      induction l with
      | nil=>rfl
      | cons a l ih=>
       rw [Rb,R7,R7,ih];by_cases ha:a.1=k
       ·rw [Yp ha];have e2:decide (a.1=z)=false:=decide_eq_false (λe=>hz (by rw [<-ha,e]));simp only [e2]
       ·rw [Yo ha]
     rw [key]
   ·rw [Yo hp];rw [SA,decide_eq_false hp,Tp] at h;have ih:=ih h;by_cases hz:p.1=z
    ·rw [decide_eq_true hz,Yo (λe=>hp (by rw [hz,e]))]
    ·simp only [decide_eq_false hz];exact ih
 ·rw [Yo h,Wi];have no:∀p∈m,p.1≠k:=λp hp e=>h (T9.mpr ⟨p,hp,by rw [e];simp⟩);by_cases hz:k=z
  ·rw [Yp hz,TV.mpr (λp hp=>by rw [<-hz];simpa using no p hp),hz];simp
  ·rw [Yo hz,R7,decide_eq_false hz];simp
theorem vi{α:Type}(f:α->Ys):∀(m:List (Str×α))(z:Str),aV (m.map (·.1)) (m.map λp=>f p.2) z=(ja m z).map f
 | [],_=>rfl
 | p::m,z=>by
  have ih:=vi f m z;unfold ja at ih⊢;rw [Rb,Rb,aV,R7];by_cases h:p.1=z
  ·rw [Yp h,decide_eq_true h];rfl
  ·rw [Yo h,decide_eq_false h];exact ih
theorem G3{α:Type}(f:α->Ys)(m:List (Str×α)):(gF f m).map (·.1)=(m.map (·.1)).map R9:=by
 unfold gF;rw [RB,RB];rfl
theorem G4{α:Type}(f:α->Ys)(m:List (Str×α)):(gF f m).map (·.2)=m.map λp=>f p.2:=by
 unfold gF;rw [RB];rfl
def mM(rs:List Ro):List (Str×Ro):=rs.foldl (λm r=>dW m r.nm r) []
theorem AX{α β:Type}(kf:β->Str)(vf:β->α):∀(rs:List β)(m:List (Str×α)),(rs.foldl (λm r=>dW m (kf r) (vf r)) m).length<=m.length+rs.length
 | [],m=>Rf _
 | r::rs,m=>by
  have h:=AX kf vf rs (dW m (kf r) (vf r));have h2:=PF m (kf r) (vf r);rw [R6,Rq];omega
theorem AY{α β:Type}(kf:β->Str)(vf:β->α)(z:Str):∀(rs:List β)(m:List (Str×α)),ja (rs.foldl (λm r=>dW m (kf r) (vf r)) m) z=rs.foldl (λo r=>if kf r=z then some (vf r) else o) (ja m z)
 | [],m=>rfl
 | r::rs,m=>by
  rw [R6,R6,AY kf vf z rs,PH]
def km(xs:List De):List Ro:=cH (fx xs (cx xs) (eD xs)).2
structure Pl where
 nm:Str
 d:Option Int
 lv:Option Str
def Pl.enc(p:Pl):Ys:= .tuple [.str p.nm,bp p.d,i7 p.lv]
def Ro.pl(r:Ro):Pl:=⟨r.nm,some r.d,r.lv⟩
def mN(rs:List Ro)(z:Str):Option Ro:=rs.foldl (λo r=>if r.nm=z then some r else o) none
def cI(xs:List De):List Pl:=(bB (ay xs)).map λc=>((mN (km xs) c.nm).map Ro.pl).getD ⟨c.nm,none,none⟩
def F_t:List Ys->(Ys->Prop)->Prop:=λds Q=>∃xs:List De,ds=[.tuple (xs.map De.enc)]/\bX xs/\ki xs/\Q (.tuple ((cI xs).map Pl.enc))
theorem G5(T:Txt K mg t):aB P w K mg base CX0 12 t.a_t t.d_t ["deeds"] (aU K F_t):=by
 have G_s:=@PD P w _ _ base _ T;have G_r:=@GX P w _ _ base _ T;have G_M:=@AB P w _ _ base _ T;refine T.F_t.F.okD Ap (λds Q h=>?_) (λ_ _ _ _ H O ds Q E hr h=>?_)
 ·obtain⟨xs,rfl,_⟩:=h;rfl
 ·obtain⟨xs,rfl,g,few,q⟩:=h;refine'⟨_,?A,?B⟩
  case A=>
   refine' aq ?C ?D
   case C=>exact(q5 (i:=1) Ap.nd rfl Yq tJ)
   case' D=>refine' aq ?E ?F
   case E=>
    refine' iR RU rfl (PE.imp (aD G_r (hr.mono Ym) rfl T.F_r (aa (PE.imp (aD G_s (hr.mono Ym) rfl T.F_s (aa (dv 0) aj)) aK) aj)) aK) ?G aL ?H
    case G=>exact(aI (i:=2) Ap.nd rfl Yq)
    case' H=>refine' ax ?I
    case I=>exact(tK (i:=1) hr.units (pv 1) (ao aF aJ (df (dv 2)) (df ag)) (dv 2))
   case' F=>refine' ax ?J
   case' J=>refine' xf 1 ?K
   case' K=>refine' bb ?L
   case L=>exact(PE.imp (dZ gS rfl T.n_tuple gT (bz (df (fe (kQ rfl GZ (df (PE.imp (aD G_M (hr.mono Ym) rfl T.F_M (aa (dv 0) aj)) aK)) aL bS Ym (λ_ _ _ _=>(aI (i:=0) GZ.nd rfl Yq)) (λ_ _ _ _=>eU) (λ_ _ _ _=>(Mu hr.units (dv 1) (dv 0) (bF (aa (dv 0) (aa eO (aa eO aj)))) ⟨rfl,rfl,rfl,rfl⟩))))) bG)) (cf ia))
  case B=>
  clear hr T G_s G_r G_M;walk_at "g";refine⟨xs,rfl,g,few,λkok kl=>⟨_,rfl,kok,kl,_,rfl,?_⟩⟩;have rl:(km xs).length<=100000:=RS (GY _) kl;have q:Q (.tuple ((bB (ay xs)).map λc=>(((mN (km xs) c.nm).map Ro.pl).getD ⟨c.nm,none,none⟩).enc)):=by
   have q:Q (.tuple ((cI xs).map Pl.enc)):=q;unfold cI at q;rw [RB] at q;exact q
  have eR:cH (fx xs (cx xs) (eD xs)).2=km xs:=rfl;rw [eR];clear kok kl few eR;generalize km xs=rs at*;refine⟨λi δ=>∃o2,δ=[some (Sl.v (RV (Sb De.enc xs))),some (Sl.k (gF Ro.enc (mM (rs.take i)))),o2],⟨none,rfl⟩,?_,?_⟩
  ·rintro i z δ hz ⟨o2,rfl⟩;rw [Rt] at hz;cases hz':rs[i]? with
   | none=>rw [hz'] at hz;cases hz
   | some r=>
    rw [hz'] at hz;cases hz;have ts:mM (rs.take (i+1))=dW (mM (rs.take i)) r.nm r:=by
     unfold mM;rw [R4,hz',T6];rfl
    have ml:(mM (rs.take i)).length<=0+(rs.take i).length:=AX (λr:Ro=>r.nm) (λr=>r) (rs.take i) [];rw [Sg] at ml;simp only [ts];generalize mM (rs.take i)=M at*;simp only [Ro.enc];walk_at "g";exact⟨by unfold gF;rw [Q8];omega,G2 Ro.enc M r.nm r,_,rfl⟩
  ·rintro δ ⟨o2,rfl⟩;rw [Q8,RM (Rf _)];have ma:∀z,ja (mM rs) z=mN rs z:=λz=>AY (λr:Ro=>r.nm) (λr=>r) z rs [];generalize mM rs=M at*;walk_at "g";have pl:=g.gd.gx.gp.ln;refine⟨M.map (·.1),G3 _ _,xs,rfl,g.gd.gx,_,rfl,by rw [Q8,Q8,jD];omega,?_⟩;rw [G4];refine jE (λ_=>true) (λz=>(((mN rs z).map Ro.pl).getD ⟨z,none,none⟩).enc) (λz hz R S h1 _=>?_) ?_
   ·walk_at "g";have h:=h1 rfl;refine⟨_,_,rfl,?_⟩;rw [vi Ro.enc,ma]
    revert h
    cases mN rs z with
    | none=>exact id
    | some r=>exact id
   ·rw [ik,RB];exact q
def rY(xs:List De):List (Str×Option Int):=(cI xs).foldl (λm p=>dW m p.nm p.d) []
def AZ{α:Type}(f:α->Ys)(m:List (Str×α)):Ys:=dS (m.map (·.1)) (m.map λp=>f p.2)
def PJ:List Ys->(Ys->Prop)->Prop:=λds Q=>∃xs:List De,ds=[.tuple (xs.map De.enc)]/\bX xs/\ki xs/\Q (AZ bp (rY xs))
theorem PK{xs:List De}(g:bX xs):(cI xs).length<=41:=by
 unfold cI;rw [Q8,jD];exact g.gd.gx.gp.ln
theorem PL(T:Txt K mg t):aB P w K mg base CX0 13 t.a_u t.d_u ["deeds"] (aU K PJ):=by
 have G_t:=@G5 P w _ _ base _ T;refine T.F_u.F.okD rL (λds Q h=>?_) (λ_ _ _ _ H O ds Q E hr h=>?_)
 ·obtain⟨xs,rfl,_⟩:=h;rfl
 ·obtain⟨xs,rfl,g,few,q⟩:=h;refine'⟨_,?A,?B⟩
  case A=>
   refine' aq ?C ?D
   case C=>exact(q5 (i:=1) rL.nd rfl Yq tJ)
   case' D=>refine' aq ?E ?F
   case E=>
    refine' pK RU rfl (PE.imp (aD G_t (hr.mono Ym) rfl T.F_t (aa (dv 0) aj)) aK) ?G (iQ (cC aL (cC aL (cC aL iP)))) ?H
    case G=>exact(iC (n:=3) rfl (cB (aI (i:=2) rL.nd rfl Yq) (cB (aI (i:=3) rL.nd rfl Yq) (cB (aI (i:=4) rL.nd rfl Yq) iB))))
    case' H=>refine' ax ?I
    case I=>exact(tK (i:=1) hr.units (pv 1) (dv 2) (dv 3))
   case' F=>refine' ax ?J
   case' J=>refine' xf 1 ?K
   case K=>exact(bb (dv 1))
  case B=>
  clear hr T G_t;walk_at "g";have pl:=PK g;have q:Q (AZ bp ((cI xs).foldl (λm p=>dW m p.nm p.d) [])):=q;refine⟨xs,rfl,g,few,_,rfl,?_⟩;generalize cI xs=ps at*;refine⟨λi δ=>∃(o2 o3 o4:Option Sl),δ=[some (Sl.v (RV (Sb De.enc xs))),some (Sl.k (gF bp ((ps.take i).foldl (λm p=>dW m p.nm p.d) []))),o2,o3,o4],⟨none,none,none,rfl⟩,?_,?_⟩
  ·rintro i z δ hz ⟨o2,o3,o4,rfl⟩;rw [Rt] at hz;cases hz':ps[i]? with
   | none=>rw [hz'] at hz;cases hz
   | some r=>
    rw [hz'] at hz;cases hz;have ts:(ps.take (i+1)).foldl (λm p=>dW m p.nm p.d) []=dW ((ps.take i).foldl (λm p=>dW m p.nm p.d) []) r.nm r.d:=by
     rw [R4,hz',T6];rfl
    have ml:((ps.take i).foldl (λm p=>dW m p.nm p.d) []).length<=0+(ps.take i).length:=AX (λr:Pl=>r.nm) (λr=>r.d) (ps.take i) [];rw [Sg] at ml;simp only [ts];generalize (ps.take i).foldl (λm p=>dW m p.nm p.d) []=M at*;simp only [Pl.enc];walk_at "g";refine⟨by unfold gF;rw [Q8];omega,G2 bp M r.nm r.d,?_⟩;exact⟨_,rfl⟩
  ·rintro δ ⟨o2,o3,o4,rfl⟩;rw [Q8,RM (Rf _)];generalize ps.foldl (λm p=>dW m p.nm p.d) []=M at*;walk_at "g";refine⟨M.map (·.1),G3 _ _,?_⟩;rw [G4];exact q
def mO(ps:List Pl)(z:Str):Option (Option Int):=ps.foldl (λo p=>if p.nm=z then some p.d else o) none
def qw(n:Int):Option (Option Int)->Bool
 | some (some d)=>decide (d > n)
 | _=>true
theorem G6{z:Str}:∀(rs:List Ro)(o:Option Ro),(∀r,o=some r->r.nm=z)->∀r,rs.foldl (λo r=>if r.nm=z then some r else o) o=some r->r.nm=z
 | [],o,h,r,e=>h r e
 | a::rs,o,h,r,e=>by
  rw [R6] at e;refine G6 rs _ (λr' e'=>?_) r e;by_cases ha:a.nm=z
  ·rw [Yp ha] at e';cases e';exact ha
  ·rw [Yo ha] at e';exact h r' e'
theorem G7{z:Str}:∀(ps:List Pl)(o:Option (Option Int)),(o.isSome=true\/∃p∈ps,p.nm=z)->(ps.foldl (λo p=>if p.nm=z then some p.d else o) o).isSome=true
 | [],o,h=>by
  rcases h with h | ⟨p,hp,_⟩
  ·exact h
  ·cases hp
 | a::ps,o,h=>by
  rw [R6];refine G7 ps _ ?_;by_cases ha:a.nm=z
  ·rw [Yp ha];exact .inl rfl
  ·rw [Yo ha];rcases h with h | ⟨p,hp,e⟩
   ·exact .inl h
   ·rcases Rh.mp hp with y | y
    ·exact absurd (by rw [<-y];exact e) ha
    ·exact .inr ⟨p,y,e⟩
theorem PM{xs:List De}{c:Pp}(h:c∈bB (ay xs)):∃p∈cI xs,p.nm=c.nm:=by
 refine⟨_,Rj.mpr ⟨c,h,rfl⟩,?_⟩;cases e:mN (km xs) c.nm with
 | none=>rfl
 | some r=>exact G6 _ none (λr h=>nomatch h) r e
theorem PN{xs:List De}{c:Pp}(h:c∈bB (ay xs)):∃o,ja (rY xs) c.nm=some o/\mO (cI xs) c.nm=some o:=by
 have e:ja (rY xs) c.nm=mO (cI xs) c.nm:=AY (λr:Pl=>r.nm) (λr=>r.d) c.nm (cI xs) [];have s:(mO (cI xs) c.nm).isSome=true:=G7 (cI xs) none (.inr (PM h));obtain⟨o,ho⟩:=Uy.mp s;exact⟨o,e.trans ho,ho⟩
def jN(xs:List De)(n:Int):List Str:=(((bB (ay xs)).filter λc=>decide (c.d<=n)).map (·.nm)).filter λz=>qw n (mO (cI xs) z)
theorem PQ{xs:List De}{n:Int}{Q:Ys->Prop}(q:Q (.tuple ((jN xs n).map .str))):hU (iO 0) (jU (cY (cQ j5 (jA (bU 2) (bU 0)) (dC Tq))) (cY (cQ (dI λi j=>VC (decide (j < i))) (jA (bU 2) (bU 0)) (bU 1)))) (bU 0) [none,some (Sl.v (Rg n)),some (Sl.v (AZ bp (rY xs)))] ((Tr (λc:Pp=>decide (c.d<=n)) (bB (ay xs))).map (λc=>Ra c.nm)) λds=>Q (RV ds):=by
 have e1:(Tr (λc:Pp=>decide (c.d<=n)) (bB (ay xs))).map (λc=>Ra c.nm)=((Tr (λc:Pp=>decide (c.d<=n)) (bB (ay xs))).map (·.nm)).map Ra:=by rw [RB];rfl
 rw [e1];have key:∀z∈(Tr (λc:Pp=>decide (c.d<=n)) (bB (ay xs))).map (·.nm),∃o,ja (rY xs) z=some o/\mO (cI xs) z=some o:=λz hz=>by
  obtain⟨c,hc,rfl⟩:=Rj.mp hz;exact PN (RK.mp hc).1
 have q:Q (.tuple ((((Tr (λc:Pp=>decide (c.d<=n)) (bB (ay xs))).map (·.nm)).filter λz=>qw n (mO (cI xs) z)).map .str)):=q;generalize (Tr (λc:Pp=>decide (c.d<=n)) (bB (ay xs))).map (·.nm)=cs at*;refine cT (enc:=Ra) (λz=>qw n (mO (cI xs) z)) Ra (λz hz R S h=>?_) q;obtain⟨o,h1,h2⟩:=key z hz;rw [h2] at h;walk_at "g";refine⟨_,_,rfl,bp o,by rw [vi bp,h1];rfl,?_⟩;cases o with
 | none=>
  rw [Yp (by rfl)];rw [Yp (by rfl)] at h;exact h
 | some d=>
  rw [Yo (by simp [dQ,bp])];refine⟨_,_,rfl,bp (some d),by rw [vi bp,h1];rfl,d,rfl,?_⟩;by_cases hd:n < d
  ·rw [Yp hd];rw [Yp (show qw n (some (some d))=true from decide_eq_true hd)] at h;exact h
  ·rw [Yo hd];rw [Yo (show ¬qw n (some (some d))=true by rw [show qw n (some (some d))=false from decide_eq_false hd];exact Rl)] at h;exact h
def F_v:List Ys->(Ys->Prop)->Prop:=λds Q=>∃(xs:List De)(n:Int),ds=[.tuple (xs.map De.enc),.int n]/\bX xs/\ki xs/\Q (.tuple ((jN xs n).map .str))
theorem PR(T:Txt K mg t):aB P w K mg base CX0 14 t.a_v t.d_v ["deeds","day"] (aU K F_v):=by
 have G_u:=@PL P w _ _ base _ T;have G_K:=@Az P w _ _ base _ T;refine T.F_v.F.okD Aq (λds Q h=>?_) (λ_ _ _ _ H O ds Q E hr h=>?_)
 ·obtain⟨xs,n,rfl,_⟩:=h;rfl
 ·obtain⟨xs,n,rfl,g,few,q⟩:=h;refine'⟨_,?A,?B⟩
  case A=>
   refine' aq ?C ?D
   case C=>exact(bo (i:=2) Aq.nd rfl Yq (PE.imp (aD G_u (hr.mono Ym) rfl T.F_u (aa (dv 0) aj)) aK))
   case' D=>refine' aq ?E ?F
   case E=>exact(lI (i:=3) Aq.nd rfl Yq (wM rfl G0 (df (PE.imp (aD G_K (hr.mono Ym) rfl T.F_K (aa (dv 0) aj)) aK)) aL bS Ym (λ_ _ _ _=>(aI (i:=0) G0.nd rfl Yq)) (λ_ _ _ _=>(d7 (aO iG cq (df (ao aF aJ (df (dv 0)) (df ag))) (df (dv 1)) (aE _)))) (λ_ _ _ _=>(ao aF aJ (df (dv 0)) (df ag)))))
   case' F=>refine' ax ?G
   case' G=>refine' bb ?H
   case H=>exact(PE.imp (dZ gS rfl T.n_tuple gT (bz (df (fe (fh rfl G1 (df (dv 3)) aL bS Ym (λ_ _ _ _=>(aI (i:=0) G1.nd rfl Yq)) (λ_ _ _ _=>(d7 (PW.pt (qQ (aO kq lY (df (DU hr.units (dv 2) (dv 0) (λ_ _=>rfl))) (df eO) (aE _)) (qP (aO ko cq (df (DU hr.units (dv 2) (dv 0) (λ_ _=>rfl))) (df (dv 1)) (aE _))))))) (λ_ _ _ _=>(dv 0))))) bG)) (cf ia))
  case B=>
  clear hr T G_u G_K;walk_at "g";have pl:=g.gd.gx.gp.ln;refine⟨xs,rfl,g,few,xs,.inr rfl,g.gd.gx,_,rfl,by rw [Q8,jD];omega,?_⟩;refine cT (enc:=Pp.enc) (λc=>decide (c.d<=n)) (λc=>.str c.nm) (λc hc R S h=>?_) ?_
  ·simp only [Pp.enc];walk_at "g";by_cases hd:c.d<=n
   ·rw [Yp hd];rw [Yp (by simpa using hd)] at h;exact h
   ·rw [Yo hd];rw [Yo (by simpa using hd)] at h;exact h
  ·have fl:=R1 (λc:Pp=>decide (c.d<=n)) (bB (ay xs));rw [jD] at fl;exact⟨by rw [Q8];omega,PQ q⟩
end
section
variable {xs ys:List De}
theorem bX.perm(g:bX xs)(h:ys.Perm xs):bX ys:=by
 obtain⟨⟨gx,d2,d3,d4,d5,d6⟩,n2,n3,n4,n5⟩:=g;exact⟨⟨gx.perm h,λd nm r z=>d2 d nm r (h.mem_iff.mp z),λd nm r z=>d3 d nm r (h.mem_iff.mp z),h.nodup_iff.mpr d4,λx hx=>d5 x (h.mem_iff.mp hx),λx hx y hy=>d6 x (h.mem_iff.mp hx) y (h.mem_iff.mp hy)⟩,λd nm r z=>n2 d nm r (h.mem_iff.mp z),λd nm r z=>n3 d nm r (h.mem_iff.mp z),λx hx y hy=>n4 x (h.mem_iff.mp hx) y (h.mem_iff.mp hy),λx hx y hy=>n5 x (h.mem_iff.mp hx) y (h.mem_iff.mp hy)⟩
theorem A1(h:ys.Perm xs):(ay ys).Perm (ay xs):=h.filterMap _
theorem rZ(g:bX xs)(h:ys.Perm xs):bB (ay ys)=bB (ay xs):=Fh g.gd.gx.gp.nd (A1 h)
theorem G8(g:bX xs)(h:ys.Perm xs)(c:Pp):dB (ay ys) c=dB (ay xs) c:=by
 unfold dB;rw [rZ g h]
theorem G9{ps qs:List Pp}(h:∀c,dB qs c=dB ps c):∀(f:Nat)(l:List Pp)(i:Nat),fY qs f l i=fY ps f l i
 | 0,_,_=>rfl
 | f+1,l,i=>by
  unfold fY;cases l[i]? with
  | none=>rfl
  | some c=>
   show fY qs f (l++fX qs l c) (i+1)=fY ps f (l++fX ps l c) (i+1);rw [show fX qs l c=fX ps l c by unfold fX;rw [h],G9 h f]
theorem Ha(g:bX xs)(h:ys.Perm xs)(c:Pp):cU (ay ys) c=cU (ay xs) c:=by
 unfold cU;rw [(A1 h).length_eq];exact G9 (G8 g h) _ _ _
theorem Hb(g:bX xs)(h:ys.Perm xs)(c:Pp):bL ys c=bL xs c:=by
 unfold bL;rw [G8 g h,NS (l:=fo ys c.nm) (l':=fo xs c.nm) ((h.filter _).map _)]
theorem PV(h:ys.Perm xs)(n:Int):dD ys n=dD xs n:=by
 have e:∀L,iu ys n L↔iu xs n L:=λL=>by
  unfold iu AI;simp only [h.mem_iff]
 by_cases z:∃L,iu xs n L
 ·obtain⟨L,z⟩:=z;rw [<-uY z,<-uY ((e L).mpr z)]
 ·have z':¬ ∃L,iu ys n L:=λ⟨L,y⟩=>z ⟨L,(e L).mp y⟩;unfold dD;rw [dif_neg z,dif_neg z']
theorem Hc{ws:List Str}{n:Int}{us vs:List Rw}(h:vs.Perm us){res:List Rw}(z:dA ws n us res):dA ws n vs res:=
 ⟨z.up,z.nd,λx hx=>let ⟨a,b,c⟩:=z.it x hx;⟨h.mem_iff.mpr a,b,λy hy=>c y (h.mem_iff.mp hy)⟩,λy hy=>z.al y (h.mem_iff.mp hy),by rw [h.length_eq];exact z.le⟩
theorem He(g:bX xs)(h:ys.Perm xs)(n:Int):cG ys n=cG xs n:=by
 unfold cG;have p:(ys.map De.rw).Perm (xs.map De.rw):=h.map _;by_cases z:∃r,dA cy n (xs.map De.rw) r
 ·obtain⟨r,z⟩:=z;rw [<-oX (oY g) z,<-oX (oY (g.perm h)) (Hc p z)]
 ·have z':¬ ∃r,dA cy n (ys.map De.rw) r:=λ⟨r,y⟩=>z ⟨r,Hc p.symm y⟩;unfold vd;rw [dif_neg z,dif_neg z']
theorem PX(g:bX xs)(h:ys.Perm xs)(n:Int):vh ys n=vh xs n:=by
 unfold vh;exact Fh ((AS g.gd.nd g.lv).sublist (Vh.map _)) ((h.filterMap _).filter _)
theorem PY(g:bX xs)(h:ys.Perm xs)(n:Int)(rows:List Ro):bu ys n rows=bu xs n rows:=by
 unfold bu;rw [PV h,He g h,PX g h]
theorem PZ(g:bX xs)(h:ys.Perm xs):cx ys=cx xs:=by
 unfold cx;rw [rZ g h];refine Tx λc _=>?_;rw [Hb g h,Ha g h]
theorem P0(g:bX xs)(h:ys.Perm xs)(ss:List Sf)(ns:List Int):fx ys ss ns=fx xs ss ns:=by
 have e:fu ys ss=fu xs ss:=by
  funext st n;unfold fu iz;rw [PY g h]
 unfold fx;rw [e]
theorem P1(g:bX xs)(h:ys.Perm xs):fV ys=fV xs:=by
 unfold fV;rw [rZ g h];exact Tx λc _=>Hb g h c
theorem P2(g:bX xs)(h:ys.Perm xs):bW ys=bW xs:=by
 funext x;unfold bW;rw [P1 g h]
theorem A2(g:bX xs)(h:ys.Perm xs):(fW ys).Perm (fW xs):=by
 unfold fW;rw [P2 g h];exact(h.map _).append (h.flatMap_right _)
theorem P4(g:bX xs)(h:ys.Perm xs):eD ys=eD xs:=by
 have e:∀ns,iy ys ns↔iy xs ns:=λns=>by
  unfold iy;simp only [(A2 g h).mem_iff]
 by_cases z:∃ns,iy xs ns
 ·obtain⟨ns,z⟩:=z;rw [<-vb z,<-vb ((e ns).mpr z)]
 ·have z':¬ ∃ns,iy ys ns:=λ⟨L,y⟩=>z ⟨L,(e L).mp y⟩;unfold eD;rw [dif_neg z,dif_neg z']
theorem Hf(g:bX xs)(h:ys.Perm xs):cI ys=cI xs:=by
 unfold cI km;rw [rZ g h,PZ g h,P4 g h,P0 g h]
theorem P5(g:bX xs)(h:ys.Perm xs)(n:Int):jN ys n=jN xs n:=by
 unfold jN;rw [rZ g h,Hf g h]
theorem ki.perm(f:ki xs)(g:bX xs)(h:ys.Perm xs):ki ys:=by
 obtain⟨a,L,b,c⟩:=f;exact⟨by rw [(A2 g h).length_eq];exact a,L,b,λz hz=>c z ((A2 g h).mem_iff.mp hz)⟩
end
theorem Hg:aZ (av pW) ["_law_xs","_law_letters","_law_stem","_law_at","_law_step","_law_tail","_law_found"] ["_law_x","_law_letters"] 1 [1] ⟨Ri,[ (Q9 ".0",Z9),(Q9 "_law_x",Z9),(Q9 "_law_letters",RA)],false,false,[]⟩:=⟨rfl,cp,cp,cp,rfl,cp,cp,cp,rfl⟩
theorem Hh:aZ (av pW) ["_law_xs","_law_letters","_law_stem","_law_at","_law_step","_law_tail","_law_found"] ["_law_k","_law_stem","_law_letters","_law_at","_law_xs","_law_step"] 1 [2,1,3,0,4] ⟨Ri,[ (Q9 ".0",Z9),(Q9 "_law_k",Z9),(Q9 "_law_at",RA),(Q9 "_law_letters",RA),(Q9 "_law_stem",RA),(Q9 "_law_step",RA),(Q9 "_law_xs",RA)],false,false,[]⟩:=⟨rfl,cp,cp,cp,rfl,cp,cp,cp,rfl⟩
theorem Hi:aZ (av pW) ["_law_xs","_law_letters","_law_stem","_law_at","_law_step","_law_tail","_law_found"] ["_law_k","_law_found","_law_tail"] 1 [6,5] ⟨Ri,[ (Q9 ".0",Z9),(Q9 "_law_k",Z9),(Q9 "_law_found",RA),(Q9 "_law_tail",RA)],false,false,[]⟩:=⟨rfl,cp,cp,cp,rfl,cp,cp,cp,rfl⟩
section
variable {P:YE} {w:YF} {K:Q7} {mg:Str->Option Yt} {base:YG} {t:cF}
theorem P6{g:DG}{tb:DS}{E:d8}{xs:List Ys}{δf:Int->Dl}{C D p q X:Prop} [Decidable C] [Decidable D]{d1 d2 d3:Int}(hp:p)(hq:q)(hX:X)(key:∀dg,jX g tb E xs (δf dg)):
 if C then p/\q/\jX g tb E xs (δf d1) else X/\if D then p/\q/\jX g tb E xs (δf d2) else p/\q/\jX g tb E xs (δf d3):=by
 split
 ·exact⟨hp,hq,key _⟩
 ·refine⟨hX,?_⟩;split
  ·exact⟨hp,hq,key _⟩
  ·exact⟨hp,hq,key _⟩
def P7:List Ys->(Ys->Prop)->Prop:=λds Q=>∃(ns:List Int)(k:Int),ds=[jj (ns.map .int),.int k]/\0<=k/\k<=1000/\∀c:Int,Q (.int c)
theorem P8(T:Txt K mg t):aB P w K mg base CX0 1 t.a_w t.d_w ["_law_script","_law_k"] (aU K P7):=by
 refine T.F_w.F.okD uR (λds Q h=>?_) (λ_ _ _ _ H O ds Q E hr h=>?_)
 ·obtain⟨ns,k,rfl,_⟩:=h;rfl
 ·obtain⟨ns,k,rfl,k0,k1,q⟩:=h;refine'⟨_,?A,?B⟩
  case A=>
   refine' aq ?C ?D
   case C=>
    refine' bR ?E ?F bQ
    case E=>exact(aO mT cq (df (dv 1)) (df (PE.imp (eL sT rfl T.n_len U7 (bz (df (dv 0)) bG)) (cf Kd))) (aE _))
    case' F=>refine' ax ?G
    case G=>exact(bb (ao aS Ll (df (dv 0)) (df (dv 1))))
   case' D=>refine' aq ?H ?I
   case H=>
    refine' bo (i:=2) uR.nd rfl Yq ?J (hs:=ju)
    case J=>exact(aw bI aR (df (aw fz aR (df ag) (df (aw aX bf (df (aw aX bf (df (aw fz aR (df (dv 1)) (df (dv 1)))) (df (aw fz aR (df ag) (df (dv 1)))))) (df ag))))) (df ag))
   case' I=>refine' aq ?K ?L
   case K=>
    refine' iR RU rfl (fe (Dh (df (dv 0)) nc (iS ag))) ?M aL ?N
    case M=>exact(aI (i:=3) uR.nd rfl Yq)
    case' N=>refine' ax ?O
    case' O=>refine' bo (i:=2) uR.nd rfl Yq ?P (hs:=ju)
    case P=>exact(aw bI aR (df (aw aX bf (df (aw fz aR (df (dv 2)) (df ag))) (df (dv 3)))) (df ag))
   case' L=>refine' ax ?Q
   case Q=>exact(bb (dv 2))
  case B=>
  clear hr T;walk_at "d";refine⟨_,rfl,?_⟩;rw [Q8];split
  ·rename_i hlt;obtain⟨j,rfl⟩:=SK k0;have hj:j < ns.length:=Yn
   exact⟨_,rfl,.int ns[j],iJ (by simp [hj]),q _⟩
  ·refine⟨.inl ⟨Yn,Yn⟩,_,rfl,λi δ=>∃(st:Int)(o:Option Sl),δ=[some (Sl.v (jj (ns.map .int))),some (Sl.v (.int k)),some (Sl.v (.int st)),o],⟨_,_,rfl⟩,?_,?_⟩
   ·rintro i x δ hx ⟨st,o,rfl⟩;have hm:=RN hx;unfold eQ at hm;have hm2:=WX (Vc hm);obtain⟨c,_,rfl⟩:=Rj.mp hm2;walk_at "d";exact⟨_,rfl⟩
   ·rintro δ ⟨st,o,rfl⟩;walk_at "d";exact q _
def P9:List Ys->(Ys->Prop)->Prop:=λds Q=>∃c m:Int,ds=[.int c,.int m]/\0<=m/\m<=64/\∀ns:List Int,(ns.length:Int)=m->(∀z∈ns,0<=z/\z < 2000000000)->Q (.list (ns.map .int))
theorem Qa(T:Txt K mg t):aB P w K mg base CX0 1 t.a_x t.d_x ["_law_cell_here","_law_many"] (aU K P9):=by
 refine T.F_x.F.okD mF (λds Q h=>?_) (λ_ _ _ _ H O ds Q E hr h=>?_)
 ·obtain⟨c,m,rfl,_⟩:=h;rfl
 ·obtain⟨c,m,rfl,m0,m1,q⟩:=h;refine'⟨_,?A,?B⟩
  case A=>
   refine' aq ?C ?D
   case C=>exact(g7 (i:=2) mF.nd rfl Yq (cn aj))
   case' D=>refine' aq ?E ?F
   case E=>
    refine' bo (i:=3) mF.nd rfl Yq ?G (hs:=ju)
    case G=>exact(aw bI aR (df (aw fz aR (df (aw aX bf (df (aw bI aR (df (dv 0)) (df ag))) (df ag))) (df ag))) (df ag))
   case' F=>refine' aq ?H ?I
   case H=>exact(bo (i:=4) mF.nd rfl Yq ag)
   case' I=>refine' aq ?J ?K
   case J=>
    refine' bR ?L ?M bQ
    case L=>exact(PW.pt (qQ (aO mT cq (df (dv 0)) (df ag) (aE _)) (qP (aO sF cq (df (dv 0)) (df (aw Iz aR (df ag) (df ag))) (aE _)))))
    case' M=>refine' ax ?N
    case N=>exact(bo (i:=4) mF.nd rfl Yq (PE.imp (eL IG rfl T.n_abs PyProof.Rows.boot_abs (bz (df (dv 0)) bG)) (cf Lj)))
   case' K=>refine' aq ?O ?P
   case O=>
    refine' wu RU rfl rfl T.n_range (aa (dv 1) aj) ?Q aL ?R
    case Q=>exact(aI (i:=5) mF.nd rfl Yq)
    case' R=>refine' aq ?S ?T
    case S=>
     generalize hG15:Yk _ _ _ _=eg15;refine' bo (i:=3) mF.nd rfl Yq ?U (hs:=by subst hG15;exact ju)
     case' U=>subst hG15
     exact(aw bI aR (df (aw aX bf (df (aw aX bf (df (aw fz aR (df (dv 3)) (df (aw aX bf (df (aw bI aR (df (dv 3)) (df ag))) (df ag))))) (df (aw fz aR (df ag) (df (dv 5)))))) (df ag))) (df ag))
    case' T=>refine' aq ?V ?W
    case V=>
     refine' hG (i:=2) (pv 2) ?X
     case' X=>refine' ao aS aT (df ?Y) ?Z
     case Y=>exact(fe (cn (aa (dv 3) (aa (aw bI aR (df (dv 4)) (df ag)) aj))))
     case Z=>exact(df (PE.imp (dZ sH rfl T.n_int sY (bz (df (cX ko cq (df (dv 4)) (df ag) (aE _))) bG)) (cf tw)))
    case' W=>refine' ax ?a
    case a=>exact(bo (i:=4) mF.nd rfl Yq (aw dY aR (df (dv 4)) (df ag)))
   case' P=>refine' ax ?b
   case b=>exact(pH (pv 2))
  case B=>
  clear hr T;walk_at "d";have bx:0<=(c % 1999999973+31)*765432101 % 1999999973/\(c % 1999999973+31)*765432101 % 1999999973 < 1999999973:=⟨R5 _ Ym,RT _ Ym⟩;generalize (c % 1999999973+31)*765432101 % 1999999973=st at*;have b1:-4611686018427387904<=m:=Yn
  have b2:m < 4611686018427387904:=Yn
  refine P6 (δf:=λdg=>[some (Sl.v (.int c)),some (Sl.v (.int m)),some (Sl.o []),some (Sl.v (.int st)),some (Sl.v (.int dg)),none]) b1 b2 Ym ?c
  case c=>
   intro dg;refine⟨λi δ=>∃(ns:List Int)(st dg:Int)(o:Option Sl),ns.length=i/\(∀z∈ns,0<=z/\z < 2000000000)/\0<=st/\st < 1999999973/\δ=[some (Sl.v (.int c)),some (Sl.v (.int m)),some (Sl.o (ns.map .int)),some (Sl.v (.int st)),some (Sl.v (.int dg)),o],⟨[],st,dg,none,rfl,Yr,bx.1,bx.2,rfl⟩,?_,?_⟩
   ·rintro i x δ hx ⟨ns,st,dg,o,hl,hn,s0,s1,rfl⟩;obtain⟨hi,rfl⟩:=pM hx;clear bx;walk_at "d";have n0:0<=(st*(st % 65521+40487)+7*(0+(i:Int))+5)% 1999999973:=R5 _ Ym;have n1:(st*(st % 65521+40487)+7*(0+(i:Int))+5)% 1999999973 < 1999999973:=RT _ Ym;generalize (st*(st % 65521+40487)+7*(0+(i:Int))+5)% 1999999973=nx at*;have d0:0<=dg % 1000000:=R5 _ Ym;have d1:dg % 1000000 < 1000000:=RT _ Ym;obtain⟨z,hz,z0,z1⟩:∃z:Int,atI [Rg nx,Rg (dg % 1000000)] (if 0 < dg then 1 else 0)=some (.int z)/\0<=z/\z < 2000000000:=by
     split
     ·exact⟨_,fD,d0,Yn⟩
     ·exact⟨_,dJ,n0,Yn⟩
    refine⟨.inl ⟨Yn,Yn⟩,.int z,hz,by rw [Q8];omega,ns++[z],by simp [hl],λy hy=>?_,nx,n0,n1,Yr,rfl,_,rfl⟩;rcases Ry.mp hy with h | h
    ·exact hn y h
    ·rw [RF] at h;rw [h];exact⟨z0,z1⟩
   ·rintro δ ⟨ns,st,dg,o,hl,hn,s0,s1,rfl⟩;walk_at "d";have hm:(ns.length:Int)=m:=by rw [hl];unfold jn;simp;omega
    exact q ns hm hn
theorem Qb{c:Nat}{n:Int}(h0:0<=n):(UJ ⟨#[c]⟩ n).cps.toList=RR n.toNat c:=by
 have key:∀(k:Nat)(a:Array Nat),((RR k #[c]).foldl (·++·) a).toList=a.toList++RR k c:=by
  intro k
  induction k with
  | zero=>intro a;simp
  | succ k ih=>intro a;rw [W5,R6,ih];simp [W5]
 unfold UJ;split
 ·rw [show n.toNat=0 by omega];rfl
 ·split
  ·rename_i h;have:n=1:=by
    rw [show(⟨#[c]⟩:Str).length=1 from rfl] at h;simpa using h
   subst this;rfl
  ·show((RR n.toNat #[c]).foldl (·++·) #[]).toList=_;rw [key];rfl
theorem mul_one{c:Nat}(hc:c < 0x110000){n:Int}(h0:0<=n)(h1:n<=50):Xw ⟨#[c]⟩ n/\ck n.toNat (UJ ⟨#[c]⟩ n):=by
 have lc:(⟨#[c]⟩:Str).length=1:=rfl;constructor
 ·refine⟨by simp;omega,λa b=>?_,λa b=>?_⟩
  ·rw [lc];have:(2 ^ 63 - 1:Int)/ n >= 1:=by rw [ge_iff_le,Int.le_ediv_iff_mul_le Yn];omega
   omega
  ·rw [lc];obtain⟨k,rfl⟩:=SK h0;rw [Nat.one_mul];unfold PySem.Builtin.Str.tooLong;simp;have:YC=16777216:=by first | rfl | decide | exact YY
   omega
 ·have l:=Qb (c:=c) h0;refine⟨lH.mpr λd hd=>?_,?_⟩
  ·rw [l] at hd;rw [(List.mem_replicate.mp hd).2];exact hc
  ·show(UJ ⟨#[c]⟩ n).cps.size<=_;rw [<-RO,l,VJ];exact Rf _
theorem rj{tl:Str}(h:tl=⟨#[]⟩\/∃c,c < 0x110000/\tl=⟨#[c]⟩){n:Int}(h0:0<=n)(h1:n<=2):Xw tl n/\ck 2 (UJ tl n):=by
 rcases h with rfl | ⟨c,hc,rfl⟩
 ·have e:UJ ⟨#[]⟩ n=⟨#[]⟩:=by
   unfold UJ;split
   ·rfl
   ·rw [Yp (by show(n==1 || true)=true;simp)]
  rw [e];exact⟨⟨by simp;omega,λ_ z=>(by rw [show(n==1 || (⟨#[]⟩:Str).length==0)=true by show(n==1 || true)=true;simp] at z;cases z),λ_ z=>(by rw [show(n==1 || (⟨#[]⟩:Str).length==0)=true by show(n==1 || true)=true;simp] at z;cases z)⟩,cp,by show 0<=2;decide⟩
 ·obtain⟨a,b⟩:=mul_one hc h0 Yn;exact⟨a,b.mono Yn⟩
def A3(ss:List Str):Prop:=∀s∈ss,ck 20 s
def mP(st:Str)(at0 fs sp:Int)(k:Nat):Str:=Txt.slice st none (some at0)++⟨#[fE ((fs+sp*(0+(k:Int)))% 26)]⟩++Txt.slice st (some at0) none
theorem Qc{st:Str}{at0 fs sp:Int}{a b:Nat}{u v:Str}(h:mP st at0 fs sp a++u=mP st at0 fs sp b++v):fE ((fs+sp*(0+(a:Int)))% 26)=fE ((fs+sp*(0+(b:Int)))% 26):=by
 have z:=congrArg (λs:Str=>s.cps.toList) h;unfold mP at z;simp only [CM,W0,UW] at z;have z:=List.append_cancel_left z;exact(VF z).1
theorem Qe{xs:List Ys}{k:Int}(h0:0<=k)(h1:k<=7):(eQ xs (some 3) (some (3+k))).length<=7:=by
 obtain⟨j,rfl⟩:=SK h0;unfold eQ;rw [show(3:Int)+(j:Int)=((3+j:Nat):Int) by omega,show(3:Int)=((3:Nat):Int) from rfl,HT.sIx_nat,HT.sIx_nat,Sg];omega
theorem Hj{ns:List Int}{a b:Option Int}{d:Ys}(h:d∈eQ (ns.map .int) a b):∃n,d= .int n:=by
 unfold eQ at h;obtain⟨n,_,e⟩:=Rj.mp (WX (Vc h));exact⟨n,e.symm⟩
theorem iA{α:Type}{l:List α}{n:Nat}(h:l.length=n+1):∃a r,l=a::r/\r.length=n:=by
 cases l with
 | nil=>cases h
 | cons a r=>exact⟨a,r,rfl,U4 h⟩
theorem A4{α:Type}{ns:List α}(h:ns.length=12):∃a b c d e f g i j k l m,ns=[a,b,c,d,e,f,g,i,j,k,l,m]:=by
 obtain⟨a,s1,rfl,h1⟩:=iA h;obtain⟨b,s2,rfl,h2⟩:=iA h1;obtain⟨c,s3,rfl,h3⟩:=iA h2;obtain⟨d,s4,rfl,h4⟩:=iA h3;obtain⟨e,s5,rfl,h5⟩:=iA h4;obtain⟨f,s6,rfl,h6⟩:=iA h5;obtain⟨g,s7,rfl,h7⟩:=iA h6;obtain⟨i,s8,rfl,h8⟩:=iA h7;obtain⟨j,s9,rfl,h9⟩:=iA h8;obtain⟨k,s10,rfl,h10⟩:=iA h9;obtain⟨l,s11,rfl,h11⟩:=iA h10;obtain⟨m,s12,rfl,h12⟩:=iA h11;rw [UG.mp h12];exact⟨_,_,_,_,_,_,_,_,_,_,_,_,rfl⟩
def Qf:List Ys->(Ys->Prop)->Prop:=λds Q=>∃zs:List Int,ds=[.list (zs.map .int)]/\zs.length=12/\(∀z∈zs,0<=z/\z < 2000000000)/\∀ss:List Str,ss.length=12->A3 ss->ss.Nodup->Q (.list (ss.map .str))
theorem Qg{sx:Int}(h0:0<=sx)(h1:sx < 6):∃sp:Int,atI [Rg 1,Rg 3,Rg 5,Rg 7,Rg 9,Rg 11] sx=some (.int sp)/\sp∈[(1:Int),3,5,7,9,11]:=by
 obtain⟨k,rfl⟩:=SK h0;have hk:k < [(1:Int),3,5,7,9,11].length:=Int.ofNat_lt.mp h1;exact⟨[(1:Int),3,5,7,9,11][k],iJ (xs:=[(1:Int),3,5,7,9,11].map Rg) (by rw [Rt,RG hk];rfl),Ti hk⟩
theorem Qh{z sp:Int}{a b:Nat}(h:sp∈[(1:Int),3,5,7,9,11])(lt:a < b)(hb:b < 12):(z+sp*(0+(a:Int)))% 26≠(z+sp*(0+(b:Int)))% 26:=λe=>by
 have e:=Int.emod_eq_emod_iff_emod_sub_eq_zero.mp e;have e:(sp*((b:Int) - a))% 26=0:=by
  have z1:z+sp*(0+(a:Int)) - (z+sp*(0+(b:Int)))=-(sp*((b:Int) - a)):=by
   rw [Wt,Wt,Int.mul_sub];omega
  rw [z1] at e;exact Int.emod_eq_zero_of_dvd (Int.dvd_neg.mp (Int.dvd_of_emod_eq_zero e))
 obtain⟨k,rfl⟩:∃k:Nat,b=a+1+k:=⟨b - (a+1),Yn⟩;have hk:k < 11:=Yn
 rw [show((a+1+k:Nat):Int) - a=((k:Nat):Int)+1 by omega] at e
 revert e
 have dec:∀s∈[(1:Int),3,5,7,9,11],∀k:Fin 11,¬(s*((k.1:Int)+1))% 26=0:=Ym
 exact dec sp h ⟨k,hk⟩
theorem Qi(T:Txt K mg t):aB P w K mg base CX0 1 t.a_y t.d_y ["_law_xs"] (aU K Qf):=by
 refine T.F_y.F.okD oU (λds Q h=>?_) (λ_ _ _ _ H O ds Q E hr h=>?_)
 ·obtain⟨zs,rfl,_⟩:=h;rfl
 ·obtain⟨zs,rfl,zl,zn,q⟩:=h;refine'⟨_,?A,?B⟩
  case A=>
   refine' aq ?C ?D
   case C=>exact(bo (i:=1) oU.nd rfl Yq bj)
   case' D=>refine' aq ?E ?F
   case E=>
    generalize hG4:WE _ _ _ _=eg4;refine' bo (i:=2) oU.nd rfl Yq ?G (hs:=by subst hG4;exact nI)
    case' G=>subst hG4
    exact(Kj bj (df (fe (fh rfl Hg (df (fe (qU (df (dv 0)) (iS ag) (iS (aw aX bf (df ag) (df (aw bI aR (df (ao aS aT (df (dv 0)) (df ag))) (df ag)))))))) aL bS Ym (λ_ _ _ _=>(aI (i:=0) Hg.nd rfl Yq)) (λ_ _ _ _=>eU) (λ_ _ _ _=>(ao vT wC (df (dv 1)) (df (aw bI aR (df (dv 0)) (df ag)))))))))
   case' F=>refine' aq ?H ?I
   case H=>
    refine' bo (i:=3) oU.nd rfl Yq ?J (hs:=ju)
    case J=>exact(aw bI aR (df (ao aS aT (df (dv 0)) (df ag))) (df (aw aX bf (df (PE.imp (eL Cb rfl T.n_len U7 (bz (df (dv 2)) bG)) (cf CT))) (df ag))))
   case' I=>refine' aq ?K ?L
   case K=>
    generalize hE10_0:Expr.List _ _=ee10_0;exact(bo (i:=4) oU.nd rfl Yq (ao aS aT (df (fe (KO (ds:=[.int 1,.int 3,.int 5,.int 7,.int 9,.int 11]) (by first | (subst hE10_0;rfl))))) (df (aw bI aR (df (aw dY aR (df (ao aS aT (df (dv 0)) (df ag))) (df ag))) (df ag)))))
   case' L=>refine' aq ?M ?N
   case M=>
    refine' bo (i:=5) oU.nd rfl Yq ?O (hs:=ju)
    case O=>exact(aw Di Dj (df (ao vT wC (df (dv 1)) (df (aw bI aR (df (aw dY aR (df (ao aS aT (df (dv 0)) (df ag))) (df ag))) (df ag))))) (df (PE.imp (dZ sH rfl T.n_int sY (bz (df (cX mT cq (df (PE.imp (eL Cb rfl T.n_len U7 (bz (df (dv 2)) bG)) (cf CT))) (df ag) (aE _))) bG)) (cf tw))))
   case' N=>refine' aq ?P ?Q
   case P=>exact(bo (i:=6) oU.nd rfl Yq (fe (Cu rfl Hh rfl T.n_range (bz (df ag) bG) aL bS Ym (λ_ _ _ _=>(aI (i:=0) Hh.nd rfl Yq)) (λ_ _ _ _=>eU) (λ_ _ _ _=>(aw vL wB (df (aw vL wB (df (Cz (df (dv 1)) nc (iS (dv 3)))) (df (ao vT wC (df (dv 2)) (df (aw bI aR (df (aw aX bf (df (ao aS aT (df (dv 4)) (df ag))) (df (aw fz aR (df (dv 5)) (df (dv 0)))))) (df ag))))))) (df (Cz (df (dv 1)) (iS (dv 3)) nc)))))))
   case' Q=>refine' ax ?R
   case' R=>refine' bb ?S
   case' S=>refine' fe ?T
   case T=>exact(Cu rfl Hi rfl T.n_range (bz (df ag) bG) aL bS Ym (λ_ _ _ _=>(aI (i:=0) Hi.nd rfl Yq)) (λ_ _ _ _=>eU) (λ_ _ _ _=>(aw vL wB (df (ao aS aT (df (dv 1)) (df (dv 0)))) (df (aw Di Dj (df (dv 2)) (df (aw bI aR (df (dv 0)) (df ag))))))))
  case B=>
  clear hr T;have ci:∀{a b:Option Int}{d:Ys},d∈eQ (zs.map .int) a b->∃n,d= .int n:=λh=>Hj h;obtain⟨z0,z1,z2,z3,z4,z5,z6,z7,z8,z9,z10,z11,rfl⟩:=A4 zl;have h0:=(zn z0 Yr).1;have h1:=(zn z1 Yr).1;have h2:=(zn z2 Yr);clear zn zl;walk_at "d";have cl:=Qe (xs:=[Rg z0,Rg z1,Rg z2,Rg z3,Rg z4,Rg z5,Rg z6,Rg z7,Rg z8,Rg z9,Rg z10,Rg z11]) (k:=z0 % 8) Yn Yn;refine⟨Yn,λi acc=>∃ys:List Str,acc=ys.map .str/\ys.length=i/\∀y∈ys,ck 1 y,⟨[],rfl,rfl,Yr⟩,?_,?_⟩
  ·rintro i z acc hz ⟨ys,rfl,hl,hg⟩;obtain⟨n,rfl⟩:=ci (RN hz);walk_at "d";have n0:0<=n % 26:=R5 _ Ym;have n1:n % 26 < 26:=RT _ Ym;obtain⟨x,e1,_,x1⟩:=qY n0 n1;refine⟨cp,x,e1,ys++[⟨#[x]⟩],by rw [RH];rfl,by simp [hl],λz hz=>?_⟩;rcases Ry.mp hz with h | h
   ·exact hg z h
   ·rw [RF] at h;rw [h];exact ck.chr x1
  ·rintro acc ⟨ys,rfl,hl,hg⟩;have gj:=ck.join hg;have sl:(ys.map λx=>x.length).sum<=ys.length:=by
    clear hl gj
    induction ys with
    | nil=>simp
    | cons y ys ih=>
     rw [Rb,X5,Rq];have:=(hg y Yr).le;have:=ih λz hz=>hg z (by simp [hz]);omega
   have l7:ys.length<=7:=Yn
   refine⟨ys,rfl,?_⟩;generalize hst:Txt.join (Q6 "") ys=st;have gs:ck 7 st:=by rw [<-hst];exact gj.mono l7
   have e0:(Q6 "").length=0:=cp
   have gl:=gs.le;have s7:=RS sl l7;clear hl sl cl h0 gj hg l7 hst;generalize hat:z1 % ((st.length:Int)+1)=at0;have a0:0<=at0:=by rw [<-hat];exact R5 _ Yn
   have a1:at0 < (st.length:Int)+1:=by rw [<-hat];exact RT _ Yn
   clear hat h1;obtain⟨sp,hsp,p6⟩:=Qg (sx:=z2 / 26 % 6) (R5 _ Ym) (RT _ Ym);have p0:0<=sp/\sp<=11:=by
    have dec:∀s∈[(1:Int),3,5,7,9,11],0<=s/\s<=11:=Ym
    exact dec sp p6
   obtain⟨p0,p1⟩:=p0;obtain⟨xt,et,_,xt1⟩:=qY (j:=z1 / 8 % 26) (R5 _ Ym) (RT _ Ym);refine⟨by rw [e0];omega,Yn,Yn,_,hsp,cp,xt,et,Yn,?_⟩;have tb:Xw ⟨#[xt]⟩ (if (st.length:Int) < 6 then 1 else 0)/\(Txt.mul ⟨#[xt]⟩ (if (st.length:Int) < 6 then 1 else 0)=⟨#[]⟩\/∃c,c < 0x110000/\Txt.mul ⟨#[xt]⟩ (if (st.length:Int) < 6 then 1 else 0)=⟨#[c]⟩):=by
    split
    ·exact⟨(mul_one xt1 Ym Ym).1,.inr ⟨xt,xt1,rfl⟩⟩
    ·exact⟨(mul_one xt1 Ym Ym).1,.inl rfl⟩
   obtain⟨t1,t2⟩:=tb;generalize Txt.mul ⟨#[xt]⟩ (if (st.length:Int) < 6 then 1 else 0)=tl at*;have g1:=gs.slice none (some at0);have g2:=gs.slice (some at0) none;have abr:∀i:Nat,fE ((z2+sp*(0+(i:Int)))% 26) < 0x110000/\atI ib.cps.toList ((z2+sp*(0+(i:Int)))% 26)=some (fE ((z2+sp*(0+(i:Int)))% 26)):=λi=>(KS (R5 _ Ym) (RT _ Ym)).symm;refine⟨t1,Ym,λi acc=>acc=((SE i).map λ(k:Nat)=>mP st at0 z2 sp k).map .str,rfl,?_,?_⟩
   ·rintro i z acc hz rfl;obtain⟨hi,rfl⟩:=pM hz;walk_at "d";obtain⟨x1,e1⟩:=abr i;have lx:(⟨#[fE ((z2+sp*(0+(i:Int)))% 26)]⟩:Str).length=1:=rfl;have l1:=g1.le;have l2:=g2.le;have ga:=(g1.append (ck.chr x1)).append g2;have gal:=ga.le;refine⟨Yn,.inl ⟨Yn,Yn⟩,cp,_,e1,by rw [lx];omega,Yn,by rw [CN,lx];omega,?_⟩;rw [UP,RH,RH];rfl
   ·rintro acc rfl;rw [tD];refine⟨Ym,λi acc=>acc=((SE i).map λ(k:Nat)=>mP st at0 z2 sp k++Txt.mul tl ((0+(k:Int))% 3)).map .str,rfl,?_,?_⟩
    ·rintro i z acc hz rfl;obtain⟨hi,rfl⟩:=pM hz;have hi:i < 12:=hi;have ga:=((g1.append (ck.chr (abr i).1)).append g2).le;obtain⟨m1,m2⟩:=rj t2 (n:=(0+(i:Int))% 3) Yn Yn;have ml:=m2.le;have hat:atI (((SE (Int.toNat 12)).map λ(k:Nat)=>mP st at0 z2 sp k).map Ra) (0+(i:Int))=some (.str (mP st at0 z2 sp i)):=by
      rw [Wt];exact iJ (by rw [Rt,Rt,WZ (by exact hi)];rfl)
     walk_at "d";have ga:(mP st at0 z2 sp i).length<=7+1+7:=ga;refine⟨_,hat,m1,_,rfl,Yn,?_⟩;rw [UP,RH,RH];rfl
    ·rintro acc rfl;rw [tD];refine q _ Yr (λz hz=>?_) ?_
     ·obtain⟨k,hk,rfl⟩:=Rj.mp hz;have hk:k < 12:=by simpa using hk
      exact(((g1.append (ck.chr (abr k).1)).append g2).append (rj t2 Yn Yn).2).mono Yn
     ·rw [VW,SD];refine Uu.mpr λa b ha hb lt e=>?_;rw [Xj,Xj] at e;have hb:b < 12:=by simpa using hb
      have e2:=Qc e;exact Qh p6 lt hb (KU (R5 _ Ym) (RT _ Ym) (R5 _ Ym) (RT _ Ym) e2)
end
theorem Hk:aZ (av uM) ["_law_day_here","_law_many","_law_unit","_law_year","_law_month","_law_left","_law_more","_law_begin"] ["_law_k","_law_year"] 1 [3] ⟨Ri,[ (Q9 ".0",Z9),(Q9 "_law_k",Z9),(Q9 "_law_long",Sa),(Q9 "_law_year",RA)],false,false,[]⟩:=⟨rfl,cp,cp,cp,rfl,cp,cp,cp,rfl⟩
section
variable {P:YE} {w:YF} {K:Q7} {mg:Str->Option Yt} {base:YG} {t:cF}
def A5:List Ys->(Ys->Prop)->Prop:=λds Q=>∃y m:Int,ds=[.int y,.int m]/\1<=m/\m<=12/\Q (.int (aW y m))
theorem Qj(T:Txt K mg t):aB P w K mg base CX0 1 t.a_AA t.d_AA ["_law_year","_law_month"] (aU K A5):=by
 refine T.F_AA.F.okD EU (λds Q h=>?_) (λ_ _ _ _ H O ds Q E hr h=>?_)
 ·obtain⟨y,m,rfl,_⟩:=h;rfl
 ·obtain⟨y,m,rfl,m1,m2,q⟩:=h;refine'⟨_,?A,?B⟩
  case A=>
   refine' aq ?C ?D
   case C=>
    generalize hG2:WE _ _ _ _=eg2;refine' bo (i:=2) EU.nd rfl Yq ?E (hs:=by subst hG2;exact nI)
    case' E=>subst hG2
    exact(PE.imp (dZ sH rfl T.n_int sY (bz (df (qS (cX (fM hr.units) fN (df (aw bI aR (df (dv 0)) (df ag))) (df ag) (aE _)) (jV (qR (cX (fM hr.units) fN (df (aw bI aR (df (dv 0)) (df ag))) (df ag) (aE _)) (jV (cX (wx hr.units) wy (df (aw bI aR (df (dv 0)) (df ag))) (df ag) (aE _))))))) bG)) (cf tw))
   case' D=>refine' ax ?F
   case' F=>generalize hG5:WS _ _ _=eg5
   refine' bb ?G
   case' G=>subst hG5
   refine' ao aS aT (df ?H) ?I
   case H=>
    refine' fe ?J
    case' J=>refine' cn ?K
    case' K=>refine' aa ag ?L
    case' L=>refine' aa ?M ?N
    case M=>exact(aw aX bf (df ag) (df (dv 2)))
    case N=>refine' qX (ds:=[.int 31,.int 30,.int 31,.int 30,.int 31,.int 31,.int 30,.int 31,.int 30,.int 31]) (by rfl)
   case I=>exact(df (aw cP bf (df (dv 1)) (df ag)))
  case B=>
  clear hr T;walk_at "d";have ma:=rE y;have key:∀l2:Int,l2=aW y 2->∃d,atI [Rg 31,Rg l2,Rg 31,Rg 30,Rg 31,Rg 30,Rg 31,Rg 31,Rg 30,Rg 31,Rg 30,Rg 31] (m - 1)=some d/\Q d:=λl2 e=>by
   obtain⟨a1,a3,a4,a5,a6,a7,a8,a9,a10,a11,a12⟩:=ma;rcases tV m1 m2 with z | z | z | z | z | z | z | z | z | z | z | z <;> subst z
   ·rw [a1] at q;exact⟨_,rfl,q⟩
   ·rw [<-e] at q;exact⟨_,rfl,q⟩
   ·rw [a3] at q;exact⟨_,rfl,q⟩
   ·rw [a4] at q;exact⟨_,rfl,q⟩
   ·rw [a5] at q;exact⟨_,rfl,q⟩
   ·rw [a6] at q;exact⟨_,rfl,q⟩
   ·rw [a7] at q;exact⟨_,rfl,q⟩
   ·rw [a8] at q;exact⟨_,rfl,q⟩
   ·rw [a9] at q;exact⟨_,rfl,q⟩
   ·rw [a10] at q;exact⟨_,rfl,q⟩
   ·rw [a11] at q;exact⟨_,rfl,q⟩
   ·rw [a12] at q;exact⟨_,rfl,q⟩
  have e2:=tU y;unfold ld at e2;have li:=rD y;split
  ·rename_i h;have h:=eq_of_beq h;exact key _ (by rw [e2,Yp (li.mpr (.inl h))])
  ·rename_i h;have h:¬y % 400=0:=λe=>h (by rw [e];rfl);split
   ·rename_i h4;have h4:=eq_of_beq h4;by_cases h100:y % 100=0
    ·have nl:¬ie y=true:=λz=>by rcases li.mp z with z | z;exact h z;exact z.2 h100
     have nb:¬(y % 100==0)=false:=by rw [h100];decide
     exact key _ (by rw [e2,Yo nl,Yo nb])
    ·exact key _ (by rw [e2,Yp (show ie y=true from li.mpr (.inr ⟨h4,h100⟩)),Yp (show(y % 100==0)=false by simpa using h100)])
   ·rename_i h4;have h4:¬y % 4=0:=λe=>h4 (by rw [e];rfl);exact key _ (by rw [e2,Yo (λz=>by rcases li.mp z with z | z;exact h z;exact h4 z.1)])
def Hl:List Ys->(Ys->Prop)->Prop:=λds Q=>∃y:Int,ds=[.int y]/\Q (.int (bD y))
theorem Qk(T:Txt K mg t):aB P w K mg base CX0 1 t.a_z t.d_z ["_law_year"] (aU K Hl):=by
 refine T.F_z.F.okD ET (λds Q h=>?_) (λ_ _ _ _ H O ds Q E hr h=>?_)
 ·obtain⟨y,rfl,_⟩:=h;rfl
 ·obtain⟨y,rfl,q⟩:=h;refine'⟨_,?A,?B⟩
  case A=>
   refine' aq ?C ?D
   case C=>
    generalize hG2:Yk _ _ _ _=eg2;refine' bo (i:=1) ET.nd rfl Yq ?E (hs:=by subst hG2;exact ju)
    case' E=>subst hG2
    exact(aw aX bf (df (aw cP bf (df (aw dY aR (df (aw cP bf (df (dv 0)) (df ag))) (df ag))) (df (aw dY aR (df (aw cP bf (df (dv 0)) (df ag))) (df ag))))) (df (aw dY aR (df (aw cP bf (df (dv 0)) (df ag))) (df ag))))
   case' D=>refine' ax ?F
   case' F=>refine' bb ?G
   case G=>exact(aw aX bf (df (aw fz aR (df (aw cP bf (df (dv 0)) (df ag))) (df ag))) (df (dv 1)))
  case B=>
  clear hr T;walk_at "d";have e:(y - 2000)*365+((y - 1997)/ 4 - (y - 1901)/ 100+(y - 1601)/ 400)=bD y:=by
   unfold bD lb;omega
  rw [e];exact q
def Ql:List Ys->(Ys->Prop)->Prop:=λds Q=>∃x f:Int,ds=[.int x,.int f]/\(f=0\/f=1)/\∀z:Int,0<=z->z < 60000->Q (.int z)
theorem Hm(T:Txt K mg t):aB P w K mg base CX0 1 t.a_AC t.d_AC ["_law_x","_law_far"] (aU K Ql):=by
 refine T.F_AC.F.okD Nq (λds Q h=>?_) (λ_ _ _ _ H O ds Q E hr h=>?_)
 ·obtain⟨x,f,rfl,_⟩:=h;rfl
 ·obtain⟨x,f,rfl,hf,q⟩:=h;refine'⟨_,?A,?B⟩
  case A=>
   refine' ax ?C
   case' C=>refine' bb ?D
   case D=>exact(aw bI aR (df (dv 0)) (df (ao aS aT (df (fe (cn (aa ag (aa ag aj))))) (df (dv 1)))))
  case B=>
  clear hr T;walk_at "d";rcases hf with rfl | rfl
  ·exact⟨_,dJ,60,rfl,Ym,q _ (R5 _ Ym) (Int.lt_trans (RT _ Ym) Ym)⟩
  ·exact⟨_,fD,60000,rfl,Ym,q _ (R5 _ Ym) (RT _ Ym)⟩
def Qm:List Ys->(Ys->Prop)->Prop:=λds Q=>∃(d k:Int)(u:Str),ds=[.int d,.int k,.str u]/\mG u/\0<=d/\Q (.int (cu d k u))
theorem Qn(k:Int)(h:0<=k):bD (2000+k)<=366*k:=by
 unfold bD lb;omega
theorem Qo(T:Txt K mg t):aB P w K mg base CX0 2 t.a_AB t.d_AB ["_law_day_here","_law_many","_law_unit"] (aU K Qm):=by
 have G_z:=@Qk P w _ _ base _ T;have G_AA:=@Qj P w _ _ base _ T;refine T.F_AB.F.okD i3 (λds Q h=>?_) (λ_ _ _ _ H O ds Q E hr h=>?_)
 ·obtain⟨d,k,u,rfl,_⟩:=h;rfl
 ·obtain⟨d,k,u,rfl,hu,d0,q⟩:=h;refine'⟨_,?A,?B⟩
  case A=>
   refine' aq ?C ?D
   case C=>
    refine' bR ?E ?F bQ
    case E=>exact(aO (dO hr) dP (df (dv 2)) (df bj) (aE _))
    case' F=>refine' ax ?G
    case G=>exact(bb (aw aX bf (df (dv 0)) (df (dv 1))))
   case' D=>refine' aq ?H ?I
   case H=>exact(Cs (bF (aa (aw aX bf (df ag) (df (aw dY aR (df (dv 0)) (df ag)))) (aa ag aj))) (iC (n:=2) rfl (cB (aI (i:=3) i3.nd rfl Yq) (cB (aI (i:=4) i3.nd rfl Yq) iB))) (iQ (cC aL (cC aL iP))))
   case' I=>refine' aq ?J ?K
   case J=>
    refine' xc RU ?L ?M
    case L=>exact(aO iG cq (df (PE.imp (aD G_z (hr.mono Ym) rfl T.F_z (aa (aw aX bf (df (dv 3)) (df ag)) aj)) aK)) (df (dv 0)) (aE _))
    case' M=>refine' ax ?N
    case N=>exact(bo (i:=3) i3.nd rfl Yq (aw aX bf (df (dv 3)) (df ag)))
   case' K=>refine' aq ?O ?P
   case O=>exact(bo (i:=5) i3.nd rfl Yq (aw cP bf (df (dv 0)) (df (PE.imp (aD G_z (hr.mono Ym) rfl T.F_z (aa (dv 3) aj)) aK))))
   case' P=>refine' aq ?Q ?R
   case Q=>
    refine' xc RU ?S ?T
    case S=>exact(aO sF cq (df (dv 5)) (df (PE.imp (aD G_AA (hr.mono Ym) rfl T.F_AA (aa (dv 3) (aa (dv 4) aj))) aK)) (aE _))
    case' T=>refine' aq ?U ?V
    case U=>exact(bo (i:=5) i3.nd rfl Yq (aw cP bf (df (dv 5)) (df (PE.imp (aD G_AA (hr.mono Ym) rfl T.F_AA (aa (dv 3) (aa (dv 4) aj))) aK))))
    case' V=>refine' ax ?W
    case W=>exact(bo (i:=4) i3.nd rfl Yq (aw aX bf (df (dv 4)) (df ag)))
   case' R=>refine' aq ?X ?Y
   case X=>
    refine' bo (i:=6) i3.nd rfl Yq ?Z (hs:=ju)
    case Z=>exact(aw aX bf (df (aw cP bf (df (dv 4)) (df ag))) (df (aw fz aR (df (dv 1)) (df (ao aS aT (df (fe (cn (aa ag (aa ag aj))))) (df (PE.imp (dZ sH rfl T.n_int sY (bz (df (cX (dO hr) dP (df (dv 2)) (df bj) (aE _))) bG)) (cf tw))))))))
   case' Y=>refine' aq ?a ?b
   case a=>exact(Cs (bF (aa (aw aX bf (df (dv 3)) (df (aw dY aR (df (dv 6)) (df ag)))) (aa (aw aX bf (df (aw bI aR (df (dv 6)) (df ag))) (df ag)) aj))) (iC (n:=2) rfl (cB (aI (i:=3) i3.nd rfl Yq) (cB (aI (i:=4) i3.nd rfl Yq) iB))) (iQ (cC aL (cC aL iP))))
   case' b=>refine' aq ?c ?d
   case c=>
    refine' bo (i:=7) i3.nd rfl Yq ?e (hs:=ju)
    case e=>exact(aw aX bf (df (PE.imp (aD G_z (hr.mono Ym) rfl T.F_z (aa (dv 3) aj)) aK)) (df (PE.imp (eL (Co rfl) rfl T.n_sum WQ (bz (df (fe (KW rfl Hk rfl T.n_range (bz (df ag) (bz (df (dv 4)) bG)) aL bS Ym (λ_ _ _ _=>(aI (i:=0) Hk.nd rfl Yq)) (λ_ _ _ _=>eU) (λ_ _ _ _=>(PE.imp (aD G_AA (hr.mono Ym) rfl T.F_AA (aa (dv 1) (aa (dv 0) aj))) aK))))) bG)) (cf Mm))))
   case' d=>refine' ax ?f
   case' f=>refine' bb ?g
   case g=>exact(aw aX bf (df (dv 7)) (df (PE.imp (eL (BR rfl) rfl T.n_min WR (bz (df (dv 5)) (bz (df (aw cP bf (df (PE.imp (aD G_AA (hr.mono Ym) rfl T.F_AA (aa (dv 3) (aa (dv 4) aj))) aK)) (df ag))) bG))) (cf wA))))
  case B=>
  clear hr T G_z G_AA;walk_at "d";have le1:=λ{r:Int} (h:kc d k u r)=>oV h;by_cases hd:u=Q6 "days"
  ·rw [Yp (by rw [hd];exact beq_self_eq_true _),le1 (.inl ⟨hd,rfl⟩)];exact q
  ·rw [bV hd,Yo Rl];have y0:=Qn (d / 366) Yn;refine⟨λm δ=>∃y:Int,2000<=y/\bD y<=d/\m=(d - bD y).toNat/\δ=[some (Sl.v (Rg d)),some (Sl.v (Rg k)),some (Sl.v (Ra u)),some (Sl.v (Rg y)),some (Sl.v (Rg 1)),none,none,none],⟨_,2000+d / 366,Yn,Yn,rfl,rfl⟩,?_⟩;rintro m δ ⟨y,hy,hyd,rfl,rfl⟩;clear y0;have ys:=xw y;have l01:=D7 y;walk_at "d";refine⟨_,rfl,_,rfl,?_⟩;by_cases hs:bD (y+1)<=d
   ·rw [Yp hs];exact⟨_,Yn,y+1,Yn,hs,rfl,rfl⟩
   ·rw [Yo hs];refine⟨_,rfl,_,rfl,?_⟩;refine⟨λm δ=>∃mo:Int,1<=mo/\mo<=12/\aG y mo<=d - bD y/\m=(12 - mo).toNat/\δ=[some (Sl.v (Rg d)),some (Sl.v (Rg k)),some (Sl.v (Ra u)),some (Sl.v (Rg y)),some (Sl.v (Rg mo)),some (Sl.v (Rg (d - bD y - aG y mo))),none,none],⟨_,1,Ym,Ym,by rw [rF];omega,rfl,by rw [rF,Int.sub_zero]⟩,?_⟩;rintro m δ ⟨mo,m1,m12,hb,rfl,rfl⟩;have ba:=xB (y:=y) m1 m12;walk_at "d";refine⟨y,mo,rfl,m1,m12,_,rfl,?_⟩;by_cases hm:aW y mo<=d - bD y - aG y mo
    ·rw [Yp hm];have lt12:mo < 12:=by
      by_cases z:mo < 12
      ·exact z
      ·have e:mo=12:=Yn
       subst e;have:=(tW y);have:=rE y;omega
     refine⟨y,mo,rfl,m1,m12,_,rfl,_,?_,mo+1,Yn,Yn,?_,rfl,rfl,?_⟩
     ·omega
     ·rw [eB m1];omega
     ·rw [eB m1];omega
    ·rw [Yo hm];have D:j8 d y mo (d - bD y - aG y mo+1):=⟨m1,m12,Yn,Yn,by unfold j7;omega⟩;have fin:∀x:Int,kc d k u (pR y mo (d - bD y - aG y mo+1) (k*x))->Hl [Rg (y+(mo - 1+k*x)/ 12)] λx_1=>(mo - 1+k*x)% 12+1 - 1 < ((16777216:Nat):Int)/\-4611686018427387904<=(mo - 1+k*x)% 12+1/\(mo - 1+k*x)% 12+1 < 4611686018427387904/\hU (iO 0) hV (gY A5 (gI (bU 1) (gI (bU 0) gW))) [none,some (Sl.v (Rg (y+(mo - 1+k*x)/ 12)))] (jn 1 ((mo - 1+k*x)% 12+1 - 1).toNat) λds=>∃ns:List Int,ds=Sb Rg ns/\∃i,x_1=Rg i/\A5 [Rg (y+(mo - 1+k*x)/ 12),Rg ((mo - 1+k*x)% 12+1)] λx=>∃i_1,x=Rg i_1/\Q (Rg (i+ns.sum+if i_1 - 1 < d - bD y - aG y mo then i_1 - 1 else d - bD y - aG y mo)):=λx hx=>by
      generalize hkx:k*x=kx at hx⊢;have e1:(y*12+mo - 1+kx)/ 12=y+(mo - 1+kx)/ 12:=Yn
      have e2:(y*12+mo - 1+kx)% 12=(mo - 1+kx)% 12:=Yn
      have e3:=le1 hx;unfold pR at e3;rw [e1,e2] at e3;have b1:0<=(mo - 1+kx)% 12:=R5 _ Ym;have b2:(mo - 1+kx)% 12 < 12:=RT _ Ym;clear e1 e2 hx hkx D ys l01 hs ba hb hm hyd hy d0 m1 m12;generalize y+(mo - 1+kx)/ 12=Y at*;generalize (mo - 1+kx)% 12=M at*;have s16:((16777216:Nat):Int)=16777216:=rfl;refine⟨_,rfl,Yn,Yn,Yn,?_⟩;refine C7 (λx=>match x with | .int i=>.int (aW Y i) | _=>.none) (λx hx R hR=>?_) ?_
      ·obtain⟨i,hi⟩:=List.getElem?_of_mem hx;obtain⟨hlt,rfl⟩:=pM hi;walk_at "d";exact⟨Y,1+(i:Int),rfl,Yn,Yn,hR⟩
      ·refine⟨(SE (M+1 - 1).toNat).map λ(i:Nat)=>aW Y (1+(i:Int)),by unfold jn;rw [RB,RB];rfl,_,rfl,Y,M+1,rfl,Yn,Yn,_,rfl,?_⟩;have e4:bD Y+aG Y (M+1)+(if aW Y (M+1) - 1 < d - bD y - aG y mo then aW Y (M+1) - 1 else d - bD y - aG y mo)=cu d k u:=by
        rw [<-e3,we];unfold j7;omega
       have q':Q (.int (cu d k u)):=q;rw [<-e4] at q';exact q'
     have z:u=Q6 "months"\/u=Q6 "years":=by
      rcases hu with z | z | z
      ·exact absurd z hd
      ·exact .inl z
      ·exact .inr z
     rcases z with z | z
     ·rw [Yo (by rw [z];decide+kernel)];exact⟨_,dJ,_,rfl,.inr ⟨Ym,Ym⟩,fin 1 (.inr (.inl ⟨z,y,mo,_,D,by rw [Yf]⟩))⟩
     ·rw [Yp (by rw [z];decide+kernel)];exact⟨_,fD,_,rfl,.inr ⟨Ym,Ym⟩,fin 12 (.inr (.inr ⟨z,y,mo,_,D,rfl⟩))⟩
theorem vj{ms:List Int}{m:Nat}{k:Int}(ml:ms.length=m)(h0:0<=k)(h1:k < (m:Int)):∃z,atI (ms.map Rg) k=some (.int z):=by
 obtain⟨v,e,hv⟩:=JT (xs:=ms.map Rg) (i:=k) h0 (by rw [Q8];omega);obtain⟨z,_,rfl⟩:=Rj.mp hv;exact⟨z,e⟩
structure bM where
 n0:Str
 n1:Str
 n2:Str
 n3:Str
 n4:Str
 n5:Str
 n6:Str
 n7:Str
 n8:Str
 n9:Str
 n10:Str
 n11:Str
def bM.l(n:bM):List Str:=[n.n0,n.n1,n.n2,n.n3,n.n4,n.n5,n.n6,n.n7,n.n8,n.n9,n.n10,n.n11]
def bM.hn(n:bM)(k:Nat):Str:=if k=0 then n.n5 else if k=1 then n.n6 else n.n7
def HT(n:bM)(ip:Bool)(tn:Str)(dp:Bool):Prop:=(ip=true/\tn=n.n0)\/(ip=false/\tn=n.n3)\/(dp=true/\(ip=true/\tn=n.n1\/ip=false/\tn=n.n4))
def HD(n:bM)(k:Nat)(x:De):Prop:=∃d:Int,0<=d/\d < 60000/\(x= .oth (Q6 "lift") d (n.hn k) []\/∃ip tn dp,x= .oth (Q6 "hold") d (n.hn k) [fq ip tn,.bool dp]/\HT n ip tn dp)
def A6(n:bM)(a0 a1 a2:Ys)(i:Nat)(δ:Dl):Prop:=∃(ls:List De)(o4 o5 o6 o7 o8 o9 o10:Option Sl),(∀x∈ls,∃k,k < i/\HD n k x)/\ls.Pairwise (λx y=>¬(x.d=y.d/\x.nm=y.nm))/\ls.length<=5*i/\δ=[some (.v a0),some (.v a1),some (.v a2),some (.o (ls.map De.enc)),o4,o5,o6,o7,o8,o9,o10]
def Qp(n:bM)(k:Nat)(a0 a1 a2 T D:Ys)(j:Nat)(δ:Dl):Prop:=∃(ls:List De)(ds:List Int)(o8 o9 o10:Option Sl),(∀x∈ls,∃k',k' < k+1/\HD n k' x)/\ls.Pairwise (λx y=>¬(x.d=y.d/\x.nm=y.nm))/\(∀x∈ls,x.nm=n.hn k->x.d∈ds)/\ls.length<=5*k+j/\ds.length<=j/\δ=[some (.v a0),some (.v a1),some (.v a2),some (.o (ls.map De.enc)),some (.v (.int k)),some (.v T),some (.v D),some (.o (ds.map .int)),o8,o9,o10]
theorem Qq{n:bM}(nd:n.l.Nodup){a b:Nat}(ha:a < 3)(hb:b < 3)(e:n.hn a=n.hn b):a=b:=by
 have g:∀{i j:Nat}{x y:Str},n.l[i]?=some x->n.l[j]?=some y->x=y->i=j:=λ{i j x y} h1 h2 e=>(Vw (Rm.mp h1).1 nd).mp (by rw [h1,h2,e]);have at3:∀k,k < 3->n.l[5+k]?=some (n.hn k):=λk hk=>by
  match k,hk with
  | 0,_=>rfl
  | 1,_=>rfl
  | 2,_=>rfl
 have:=g (at3 a ha) (at3 b hb) e;omega
theorem Hn{n:bM}{k:Nat}(hk:k < 3):atI [Ra n.n0,Ra n.n1,Ra n.n2,Ra n.n3,Ra n.n4,Ra n.n5,Ra n.n6,Ra n.n7,Ra n.n8,Ra n.n9,Ra n.n10,Ra n.n11] (5+(k:Int))=some (.str (n.hn k)):=by
 match k,hk with
 | 0,_=>rfl
 | 1,_=>rfl
 | 2,_=>rfl
theorem Qr(n:bM)(z:Int):∃ip tn,atI [RV [Ra (Q6 "paper"),Ra n.n0],RV [Ra (Q6 "kind"),Ra n.n3],RV [Ra (Q6 "paper"),Ra n.n1],RV [Ra (Q6 "kind"),Ra n.n4]] (z % 4)=some (fq ip tn)/\∀dp:Bool,(1 < z % 4->dp=true)->HT n ip tn dp:=by
 have h0:0<=z % 4:=R5 _ Ym;have h1:z % 4 < 4:=RT _ Ym;generalize z % 4=m at*;have:m=0\/m=1\/m=2\/m=3:=Yn
 rcases this with rfl | rfl | rfl | rfl
 ·exact⟨true,n.n0,rfl,λdp _=>.inl ⟨rfl,rfl⟩⟩
 ·exact⟨false,n.n3,rfl,λdp _=>.inr (.inl ⟨rfl,rfl⟩)⟩
 ·exact⟨true,n.n1,rfl,λdp h=>.inr (.inr ⟨h Ym,.inl ⟨rfl,rfl⟩⟩)⟩
 ·exact⟨false,n.n4,rfl,λdp h=>.inr (.inr ⟨h Ym,.inr ⟨rfl,rfl⟩⟩)⟩
theorem HD.nm{n:bM}{k:Nat}{x:De}(h:HD n k x):x.nm=n.hn k:=by
 obtain⟨d,_,_,e | ⟨_,_,_,e,_⟩⟩:=h <;> subst e <;> rfl
def Qs:List Ys->(Ys->Prop)->Prop:=λds Q=>∃(n:bM)(xs:List Int)(f:Int),ds=[.list (n.l.map .str),.list (xs.map .int),.int f]/\xs.length=16/\(f=0\/f=1)/\n.l.Nodup/\A3 n.l/\∀ls:List De,(∀x∈ls,∃k,k < 3/\HD n k x)->ls.Pairwise (λx y=>¬(x.d=y.d/\x.nm=y.nm))->ls.length<=15->Q (.list (ls.map De.enc))
theorem Qt(T:Txt K mg t):aB P w K mg base CX0 2 t.a_AD t.d_AD ["_law_names_here","_law_xs","_law_far"] (aU K Qs):=by
 have G_AC:=@Hm P w _ _ base _ T;refine T.F_AD.F.okD j9 (λds Q h=>?_) (λ_ _ _ _ H O ds Q E hr h=>?_)
 ·obtain⟨n,xs,f,rfl,_⟩:=h;rfl
 ·obtain⟨n,xs,f,rfl,xl,hf,nd,so,q⟩:=h;refine'⟨_,?A,?B⟩
  case A=>
   refine' aq ?C ?D
   case C=>exact(g7 (i:=3) j9.nd rfl Yq (cn aj))
   case' D=>refine' aq ?E ?F
   case E=>
    refine' wu RU rfl rfl T.n_range (aa (aw aX bf (df ag) (df (aw bI aR (df (ao aS aT (df (dv 1)) (df ag))) (df ag)))) aj) ?G aL ?H
    case G=>exact(aI (i:=4) j9.nd rfl Yq)
    case' H=>refine' aq ?I ?J
    case I=>
     generalize hG6:WS _ _ _=eg6;refine' bo (i:=5) j9.nd rfl Yq ?K (hs:=by subst hG6;exact C9)
     case' K=>subst hG6
     refine' ao aS aT (df ?L) ?M
     case L=>
      refine' fe ?N
      case' N=>refine' cn ?O
      case' O=>refine' aa ?P ?Q
      case P=>exact(bF (aa bj (aa (ao aS aT (df (dv 0)) (df ag)) aj)))
      case' Q=>refine' aa ?R ?S
      case R=>exact(bF (aa bj (aa (ao aS aT (df (dv 0)) (df ag)) aj)))
      case' S=>refine' aa ?T ?U
      case T=>exact(bF (aa bj (aa (ao aS aT (df (dv 0)) (df ag)) aj)))
      case' U=>refine' aa ?V aj
      case V=>exact(bF (aa bj (aa (ao aS aT (df (dv 0)) (df ag)) aj)))
     case M=>exact(df (aw bI aR (df (ao aS aT (df (dv 1)) (df (aw aX bf (df ag) (df (dv 4)))))) (df ag)))
    case' J=>refine' aq ?W ?X
    case W=>
     refine' bo (i:=6) j9.nd rfl Yq ?Y (hs:=La)
     case Y=>exact(qS (cX ko cq (df (aw bI aR (df (ao aS aT (df (dv 1)) (df (aw aX bf (df ag) (df (dv 4)))))) (df ag))) (df ag) (aE _)) (jV (cX (fM hr.units) fN (df (aw bI aR (df (aw dY aR (df (ao aS aT (df (dv 1)) (df (aw aX bf (df ag) (df (dv 4)))))) (df ag))) (df ag))) (df ag) (aE _))))
    case' X=>refine' aq ?Z ?a
    case Z=>exact(g7 (i:=7) j9.nd rfl Yq (cn aj))
    case' a=>refine' ax ?b
    case' b=>refine' wu RU rfl rfl T.n_range (aa (aw bI aR (df (ao aS aT (df (dv 1)) (df (aw aX bf (df ag) (df (dv 4)))))) (df ag)) aj) ?c aL ?d
    case c=>exact(aI (i:=8) j9.nd rfl Yq)
    case' d=>refine' aq ?e ?f
    case e=>
     generalize hG27:WE _ _ _ _=eg27;refine' bo (i:=9) j9.nd rfl Yq ?g (hs:=by subst hG27;exact nI)
     case' g=>subst hG27
     exact(PE.imp (aD G_AC (hr.mono Ym) rfl T.F_AC (aa (aw aX bf (df (aw dY aR (df (ao aS aT (df (dv 1)) (df (aw aX bf (df ag) (df (aw bI aR (df (aw aX bf (df (aw fz aR (df ag) (df (dv 4)))) (df (dv 8)))) (df ag))))))) (df (aw aX bf (df ag) (df (dv 8)))))) (df (aw fz aR (df ag) (df (dv 8))))) (aa (dv 2) aj))) aK)
    case' f=>refine' ax ?h
    case' h=>refine' bR ?i ?j bQ
    case i=>exact(aO (wO hr) ny (df (dv 9)) (dw 7) rfl)
    case' j=>refine' aq ?k ?l
    case k=>exact(hG (i:=7) (pv 7) (dv 9))
    case' l=>refine' aq ?m ?n
    case m=>
     refine' bo (i:=10) j9.nd rfl Yq ?o (hs:=K9)
     case' o=>refine' bF ?p
     case' p=>refine' aa bj ?q
     case' q=>refine' aa (dv 9) ?r
     case' r=>refine' aa ?s ?t
     case s=>exact(ao aS aT (df (dv 0)) (df (aw aX bf (df ag) (df (dv 4)))))
     case' t=>refine' aa (dv 5) ?u
     case u=>refine' aa (dv 6) aj
    case' n=>refine' ax ?v
    case' v=>refine' hG (i:=3) (pv 3) ?w
    case' w=>refine' ao aS aT (df ?x) ?y
    case x=>
     refine' fe ?z
     case' z=>refine' cn ?A0
     case' A0=>refine' aa (dv 10) ?A1
     case' A1=>refine' aa ?A2 aj
     case' A2=>refine' bF ?A3
     case' A3=>refine' aa bj ?A4
     case' A4=>refine' aa (dv 9) ?A5
     case' A5=>refine' aa ?A6 aj
     case A6=>exact(ao aS aT (df (dv 0)) (df (aw aX bf (df ag) (df (dv 4)))))
    case y=>exact(df (aw bI aR (df (aw dY aR (df (aw dY aR (df (ao aS aT (df (dv 1)) (df (aw aX bf (df ag) (df (dv 4)))))) (df ag))) (df (aw aX bf (df ag) (df (dv 8)))))) (df ag)))
   case' F=>refine' ax ?A7
   case A7=>exact(pH (pv 3))
  case B=>
  clear hr T G_AC;generalize hnl:Sw (n.l.map Ra)=nl;walk_at "d";obtain⟨z0,e0⟩:=vj (k:=0) xl Ym Ym;refine⟨_,e0,z0,rfl,Yn,Yn,?_⟩;refine⟨A6 n nl (.list (xs.map .int)) (.int f),⟨[],none,none,none,none,none,none,none,Yr,.nil,Rf _,rfl⟩,?_,?_⟩
  ·rintro i z δ hz ⟨ls,o4,o5,o6,o7,o8,o9,o10,hl,pw,ll,rfl⟩;obtain⟨hi,rfl⟩:=pM hz;have hi:i < 3:=Yn
   clear hz;generalize hB:fB (iN 7 _) _=TB;subst hnl;simp only [bM.l,Rb,RX];walk_at "d";obtain⟨z1,e1⟩:=vj (k:=1+(0+(i:Int))) xl Yn Yn;obtain⟨ip,tn,eT,hT⟩:=Qr n z1;rw [Wt] at*;generalize hE:d8.mk _ _ _ _=EE;have eN:=congrArg d8.nx hE;simp only at eN;clear hE;have key:∀dp:Bool,HT n ip tn dp->TB EE [some (Sl.v (Sw [Ra n.n0,Ra n.n1,Ra n.n2,Ra n.n3,Ra n.n4,Ra n.n5,Ra n.n6,Ra n.n7,Ra n.n8,Ra n.n9,Ra n.n10,Ra n.n11])),some (Sl.v (Sw (Sb Rg xs))),some (Sl.v (Rg f)),some (Sl.o (Sb De.enc ls)),some (Sl.v (Rg i)),some (Sl.v (fq ip tn)),some (Sl.v (VC dp)),o7,o8,o9,o10]:=λdp hdp=>by
    subst hB;walk_at "d";obtain⟨z4,e4⟩:=vj (k:=4+(i:Int)) xl Yn Yn;have m6:0<=z4 % 6:=R5 _ Ym;have m7:z4 % 6 < 6:=RT _ Ym;have en:(Sw [Ra n.n0,Ra n.n1,Ra n.n2,Ra n.n3,Ra n.n4,Ra n.n5,Ra n.n6,Ra n.n7,Ra n.n8,Ra n.n9,Ra n.n10,Ra n.n11])=Sw (n.l.map .str):=rfl;refine⟨_,e4,z4,rfl,Yn,Yn,?_⟩;refine⟨Qp n i (.list [Ra n.n0,Ra n.n1,Ra n.n2,Ra n.n3,Ra n.n4,Ra n.n5,Ra n.n6,Ra n.n7,Ra n.n8,Ra n.n9,Ra n.n10,Ra n.n11]) (.list (xs.map .int)) (.int f) (fq ip tn) (.bool dp),⟨ls,[],o8,o9,o10,λx hx=>?_,pw,λx hx e=>?_,ll,Rf _,rfl⟩,?_,?_⟩
    ·obtain⟨k',a,b⟩:=hl x hx;exact⟨k',Yn,b⟩
    ·obtain⟨k',a,b⟩:=hl x hx;exact absurd (Qq nd Yn hi (b.nm▸e)) Yn
    ·rintro j z δ hz ⟨ls,ds,o8,o9,o10,hl,pw,hd,ll,dl,rfl⟩;obtain⟨hj,rfl⟩:=pM hz;have hj:j < 6:=Yn
     clear hz eN;walk_at "d";obtain⟨z7,e7⟩:=vj (k:=7+(2*(i:Int)+(0+(j:Int)))% 8) xl Yn Yn;refine⟨_,e7,z7,rfl,Yn,Yn,_,_,rfl,hf,λd d0 d1=>⟨j0,(qZ (n:=1) λx hx=>by obtain⟨y,_,rfl⟩:=Rj.mp hx;exact CQ).1,?_⟩⟩;split
     ·rename_i hno;have nin:d ∉ ds:=λh=>by
       have:=Xm.mp hno (.int d) (Rj.mpr ⟨d,h,rfl⟩);simp [RC] at this
      have dl6:(ds.map Rg).length < 16777216:=by rw [Q8];omega
      refine⟨dl6,_,Hn hi,_,Hn hi,_,e4,z4,rfl,Yn,Yn,?_⟩;obtain⟨x,ex,hx,xd⟩:∃x:De,atI [RV [Ra (Q6 "hold"),Rg d,Ra (n.hn i),fq ip tn,VC dp],RV [Ra (Q6 "lift"),Rg d,Ra (n.hn i)]] (z4 / 8 / (1+(0+(j:Int)))% 2)=some x.enc/\HD n i x/\x.d=d:=by
       have b0:=R5 (z4 / 8 / (1+(0+(j:Int)))) (show(2:Int)≠0 by decide);have b1:=RT (z4 / 8 / (1+(0+(j:Int)))) (show(0:Int) < 2 by decide);generalize z4 / 8 / (1+(0+(j:Int)))% 2=m at*;have:m=0\/m=1:=Yn
       rcases this with rfl | rfl
       ·exact⟨.oth (Q6 "hold") d (n.hn i) [fq ip tn,.bool dp],rfl,⟨d,d0,d1,.inr ⟨ip,tn,dp,rfl,hdp⟩⟩,rfl⟩
       ·exact⟨.oth (Q6 "lift") d (n.hn i) [],rfl,⟨d,d0,d1,.inl rfl⟩,rfl⟩
      refine⟨_,ex,by rw [Q8];omega,ls++[x],ds++[d],_,_,_,λy hy=>?_,Vb.mpr ⟨pw,WA _ _,λa ha b hb=>?_⟩,λy hy e=>?_,by rw [Rv];show _+1<=_;omega,by rw [Rv];show _+1<=_;omega,by rw [RH,RH];rfl⟩
      ·rcases Ry.mp hy with h | h
       ·exact hl y h
       ·rw [RF.mp h];exact⟨i,Tg _,hx⟩
      ·rw [RF.mp hb];rintro⟨e1,e2⟩;exact nin (by rw [<-xd,<-e1];exact hd a ha (by rw [e2,hx.nm]))
      ·rcases Ry.mp hy with h | h
       ·exact T1 _ (hd y h e)
       ·rw [RF.mp h,xd];exact R0 _ (RF.mpr rfl)
     ·exact⟨ls,ds,_,_,_,hl,pw,hd,Yn,Yn,rfl⟩
    ·rintro δ ⟨ls,ds,o8,o9,o10,hl,pw,hd,ll,dl,rfl⟩;rw [tD] at ll;rw [<-eN];exact⟨ls,_,_,_,_,_,_,_,hl,pw,Yn,rfl⟩
   refine⟨_,e1,z1,rfl,_,eT,_,e1,z1,rfl,?_⟩;split
   ·exact key true (hT true λ_=>rfl)
   ·rename_i h;exact⟨_,e1,z1,rfl,key _ (hT _ λh'=>absurd h' h)⟩
  ·rintro δ ⟨ls,o4,o5,o6,o7,o8,o9,o10,hl,pw,ll,rfl⟩;rw [tD] at hl ll;walk_at "d";exact q ls (λx hx=>let ⟨k,a,b⟩:=hl x hx;⟨k,Yn,b⟩) pw Yn
end
theorem Ho:aZ (av uN) ["_law_deeds","_law_day_here","_law_newest","_law_deed"] ["_law_name","_law_newest"] 1 [2] ⟨Ri,[ (Q9 ".0",Z9),(Q9 "_law_name",Z9),(Q9 "_law_newest",RA)],false,false,[]⟩:=⟨rfl,cp,cp,cp,rfl,cp,cp,cp,rfl⟩
section
variable {P:YE} {w:YF} {K:Q7} {mg:Str->Option Yt} {base:YG} {t:cF}
def sd(res:List Rw):List Str:=(res.filter λx=>x.w==Q6 "hold").map (·.nm)
def Hq:List Ys->(Ys->Prop)->Prop:=λds Q=>∃(xs:List Rw)(n:Int),ds=[.list (xs.map Rw.enc),.int n]/\(∀x∈xs,Rz x.w=true)/\xs.length < 64/\∀res,dA cy n xs res->Q (.tuple ((sd res).map .str))
theorem Qu(T:Txt K mg t):aB P w K mg base CX0 1 t.a_AE t.d_AE ["_law_deeds","_law_day_here"] (aU K Hq):=by
 refine T.F_AE.F.okD Ar (λds Q h=>?_) (λ_ _ _ _ H O ds Q E hr h=>?_)
 ·obtain⟨xs,n,rfl,_⟩:=h;rfl
 ·obtain⟨xs,n,rfl,hw,h64,q⟩:=h;refine'⟨_,?A,?B⟩
  case A=>
   refine' aq ?C ?D
   case C=>exact(q5 (i:=2) Ar.nd rfl Yq tJ)
   case' D=>refine' aq ?E ?F
   case E=>
    refine' iR RU rfl (dv 0) ?G aL ?H
    case G=>exact(aI (i:=3) Ar.nd rfl Yq)
    case' H=>refine' ax ?I
    case' I=>refine' bR ?J ?K bQ
    case J=>exact(PW.pt (gm (aO (C5 hr) C6 (df (ao aF aJ (df (dv 3)) (df ag))) (df (bF (aa bj (aa bj aj)))) rfl) (gJ (aO iG cq (df (ao aF aJ (df (dv 3)) (df ag))) (df (dv 1)) (aE _)))))
    case' K=>refine' ax ?L
    case' L=>refine' bR ?M ?N bQ
    case M=>exact(PW.pt (qQ (Li (i:=2) hr.units (pv 2) (ao aF aJ (df (dv 3)) (df ag))) (qP (aO mT cq (df (ao aF aJ (df (wR (i:=2) hr.units (pv 2) (ao aF aJ (df (dv 3)) (df ag)) (λ_ _=>rfl))) (df ag))) (df (ao aF aJ (df (dv 3)) (df ag))) (aE _)))))
    case' N=>refine' ax ?O
    case O=>exact(tK (i:=2) hr.units (pv 2) (ao aF aJ (df (dv 3)) (df ag)) (dv 3))
   case' F=>refine' ax ?P
   case' P=>refine' bb ?Q
   case Q=>exact(PE.imp (dZ gS rfl T.n_tuple gT (bz (df (fe (fh rfl Ho (df (fe (Df (i:=2) rfl rfl T.n_sorted S7 (pv 2)))) aL bS Ym (λ_ _ _ _=>(aI (i:=0) Ho.nd rfl Yq)) (λ_ _ _ _=>(d7 (aO (dO hr) dP (df (ao aF aJ (df (wR (i:=1) hr.units (pv 1) (dv 0) (λ_ _=>rfl))) (df ag))) (df bj) (aE _)))) (λ_ _ _ _=>(dv 0))))) bG)) (cf ia))
  case B=>
  clear hr T;walk_at "d";refine⟨λi δ=>∃L o3,dj cy n (xs.take i) L/\δ=[some (Sl.v (.list (xs.map Rw.enc))),some (Sl.v (.int n)),some (Sl.k (fF L)),o3],⟨[],_,dj.nil _ _,rfl⟩,?_,?_⟩
  ·rintro i x δ hx ⟨L,o3,hL,rfl⟩;rw [Rt] at hx;cases hx':xs[i]? with
   | none=>rw [hx'] at hx;cases hx
   | some y=>
    rw [hx'] at hx;cases hx;have hy:y∈xs:=RN hx';have tk:xs.take (i+1)=xs.take i++[y]:=by rw [R4,hx'];rfl
    simp only [Rw.enc];walk_at "d";have hle:L.length < 64:=by have:=hL.le;rw [Sg] at this;omega
    have hk:(fF L).length < 16777216:=by unfold fF;rw [Q8];omega
    have en:RV (Ra y.w::Rg y.n::Ra y.nm::y.r)=y.enc:=rfl;rw [en];by_cases hin:(Q6 "hold"==y.w || Q6 "lift"==y.w)=true
    ·have hin':y.w∈cy:=by
      rcases Bool.or_eq_true_iff.mp hin with z | z
      ·rw [<-eq_of_beq z];exact RD
      ·rw [<-eq_of_beq z];exact Ru _ RD
     rw [Yp hin];by_cases hn:y.n<=n
     ·rw [Yp hn,rg];cases hl:di L y.nm with
      | none=>
       rw [Yp (by rfl)];exact⟨hk,_,by rw [tk];exact hL.put ⟨hin',hn⟩ (λz e=>by rw [hl] at e;cases e),tM L y.nm y,_,rfl⟩
      | some z=>
       rw [Yo Yr];refine⟨_,rfl,_,rfl,_,fD,_,rfl,?_⟩;split
       ·rename_i hlt;exact⟨hk,_,by rw [tk];exact hL.put ⟨hin',hn⟩ (λz' e=>by rw [hl] at e;cases e;exact hlt),tM L y.nm y,_,rfl⟩
       ·rename_i hlt;exact⟨L,by rw [tk];exact hL.keep hl hlt,rfl,_,rfl⟩
     ·rw [Yo hn];exact⟨L,by rw [tk];exact hL.skip (λz=>hn z.2),rfl,_,rfl⟩
    ·rw [Yo hin];have no:¬dR cy n y:=λz=>hin (by rcases AM z.1 with e | e <;> rw [e] <;> decide+kernel);exact⟨L,by rw [tk];exact hL.skip no,rfl,_,rfl⟩
  ·rintro δ ⟨L,o3,hL,rfl⟩;walk_at "d";rw [Q8,RM (Rf _)] at hL;have hle:L.length < 64:=by have:=hL.le;omega
   have rn:=Dm hL;refine⟨L.map (·.1),by unfold fF;rw [RB,RB];rfl,by rw [Q8];exact hle,by rw [Q8,(j3 _).length_eq,Q8];omega,?_⟩;rw [<-rn,RB];refine cT (enc:=Ra ∘ λx:Rw=>x.nm) (λx:Rw=>x.w==Q6 "hold") (λx=>.str x.nm) (λx hx R S h=>?_) ?_
   ·have hx2:di L x.nm=some x:=by
     obtain⟨a,ha,e⟩:=TQ.mp hx;obtain⟨p,hp,e1,e2⟩:=ri e;have ea:a=x.nm:=by rw [<-e1,(hL.it p hp).1,e2]
     rw [<-ea];exact e
    simp only [TJ];walk_at "d";rw [rg,hx2];refine⟨_,rfl,_,rfl,_,dJ,rfl,?_⟩;rw [eV];exact h
   ·have e2:(Tr (λx:Rw=>x.w==Q6 "hold") (oJ L)).map (λx:Rw=>Ra x.nm)=(sd (oJ L)).map .str:=by unfold sd;rw [RB];rfl
    rw [e2];exact q _ hL.res
def Hr:List Ys->(Ys->Prop)->Prop:=λds Q=>∃(xs:List De)(n:Int)(c:Pp),ds=[.tuple (xs.map De.enc),.int n,.str c.nm]/\bX xs/\c∈ay xs/\Q (.tuple ((ft (cG xs n) (cU (ay xs) c)).map .str))
theorem Qv(T:Txt K mg t):aB P w K mg base CX0 7 t.a_V t.d_V ["deeds","day","paper"] (aU K Hr):=by
 have G_S:=@Ga P w _ _ base _ T;have G_P:=@Gm P w _ _ base _ T;have G_U:=@Gd P w _ _ base _ T;refine T.F_V.F.okD Nd (λds Q h=>?_) (λ_ _ _ _ H O ds Q E hr h=>?_)
 ·obtain⟨xs,n,c,rfl,_⟩:=h;rfl
 ·obtain⟨xs,n,c,rfl,g,hc,q⟩:=h;refine'⟨_,?A,?B⟩
  case A=>
   refine' ax ?C
   case' C=>refine' bb ?D
   case D=>exact(PE.imp (aD G_U (hr.mono Ym) rfl T.F_U (aa (PE.imp (aD G_S (hr.mono Ym) rfl T.F_S (aa (dv 0) (aa (dv 1) aj))) aK) (aa (PE.imp (aD G_P (hr.mono Ym) rfl T.F_P (aa (dv 0) (aa (dv 2) aj))) aK) aj))) aK)
  case B=>
  clear hr T G_S G_P G_U;walk_at "d";exact⟨xs,n,rfl,g,λhok=>⟨xs,c,rfl,g.gd.gx,hc,_,_,rfl,hok,Gj g.gd.gx.gp hc,q⟩⟩
end
section
structure au where
 n:bM
 come:Int
 fr:Int
 d1:Int
 k:Int
 u:Str
 kp:Option Int
 ls:List De
structure au.Ok (a:au):Prop where
 nd:a.n.l.Nodup
 so:A3 a.n.l
 c0:1<=a.come/\a.come<=60000
 f0:0<=a.fr/\a.fr < 60000
 d0:0<=a.d1/\a.d1 < a.come
 k0:0<=a.k/\a.k < 1000
 un:mG a.u
 kk:∀K,a.kp=some K->0<=K/\K < 1000
 hd:∀x∈a.ls,∃k,k < 3/\HD a.n k x
 pw:a.ls.Pairwise λx y=>¬(x.d=y.d/\x.nm=y.nm)
 ll:a.ls.length<=15
def au.p0(a:au):Pp:=⟨a.come,a.n.n0,a.n.n3,[a.n.n1]⟩
def au.p1(a:au):Pp:=⟨a.d1,a.n.n1,a.n.n4,[]⟩
def au.t8(a:au):Pt:= .five (Q6 "gone") a.n.n3 .com a.k a.u
def au.t9(a:au)(K:Int):Pt:= .five (Q6 "keep") a.n.n3 .com K (Q6 "days")
def au.r8(a:au):De:= .oth (Q6 "rule") a.fr a.n.n8 [a.t8.enc]
def au.r9(a:au)(K:Int):De:= .oth (Q6 "rule") 0 a.n.n9 [(a.t9 K).enc]
def au.kl(a:au):List De:=a.kp.toList.map a.r9
def au.bs(a:au):List De:= .pap a.p0:: .pap a.p1::a.r8::(a.kl++a.ls)
theorem qx{a:au}{x:De}:x∈a.kl↔∃K,a.kp=some K/\x=a.r9 K:=by
 unfold au.kl;rw [Rj];constructor
 ·rintro⟨K,hK,rfl⟩;exact⟨K,Vz.mp hK,rfl⟩
 ·rintro⟨K,e,rfl⟩;exact⟨K,Vz.mpr e,rfl⟩
theorem dX{a:au}{x:De}:x∈a.bs↔x= .pap a.p0\/x= .pap a.p1\/x=a.r8\/(∃K,a.kp=some K/\x=a.r9 K)\/x∈a.ls:=by
 unfold au.bs;rw [Rh,Rh,Rh,Ry,qx]
theorem HD.cs{n:bM}{k:Nat}{x:De}(h:HD n k x):(0<=x.d/\x.d < 60000)/\x.nm=n.hn k/\x.isL=true/\(x.w=Q6 "hold"\/x.w=Q6 "lift")/\∃w d r,x= .oth w d (n.hn k) r/\(w=Q6 "lift"/\r=[]\/w=Q6 "hold"/\∃ip tn dp,r=[fq ip tn,.bool dp]/\HT n ip tn dp):=by
 obtain⟨d,d0,d1,e | ⟨ip,tn,dp,e,ht⟩⟩:=h
 ·subst e;exact⟨⟨d0,d1⟩,rfl,by simp [De.isL],.inr rfl,_,_,_,rfl,.inl ⟨rfl,rfl⟩⟩
 ·subst e;exact⟨⟨d0,d1⟩,rfl,by simp [De.isL],.inl rfl,_,_,_,rfl,.inr ⟨rfl,ip,tn,dp,rfl,ht⟩⟩
theorem au.Ok.st{a:au}(o:a.Ok){s:Str}(h:s∈a.n.l):Rz s=true:=(o.so s h).ok
theorem Hs(n:bM)(k:Nat):n.hn k∈n.l:=by
 unfold bM.hn bM.l;split
 ·simp
 ·split <;> simp
theorem HT.ok{n:bM}{ip dp:Bool}{tn:Str}(h:HT n ip tn dp):tn∈n.l:=by
 unfold bM.l;rcases h with h | h | ⟨_,h | h⟩ <;> rw [h.2] <;> simp
theorem jO{n:bM}(nd:n.l.Nodup){i j:Nat}{x y:Str}(h1:n.l[i]?=some x)(h2:n.l[j]?=some y)(ne:i≠j):x≠y:=λe=>
 ne ((Vw (Rm.mp h1).1 nd).mp (by rw [h1,h2,e]))
theorem qy:Q6 "rule"≠Q6 "hold"/\Q6 "rule"≠Q6 "lift"/\Q6 "rule"≠Q6 "happens"/\Q6 "rule"≠Q6 "leave"/\Q6 "rule"≠Q6 "paper"/\Q6 "hold"≠Q6 "happens"/\Q6 "lift"≠Q6 "happens"/\Q6 "hold"≠Q6 "leave"/\Q6 "lift"≠Q6 "leave"/\Q6 "hold"≠Q6 "paper"/\Q6 "lift"≠Q6 "paper"/\Q6 "lift"≠Q6 "hold"/\Q6 "rule"≠Q6 "end"/\Q6 "hold"≠Q6 "end"/\Q6 "lift"≠Q6 "end":=cp
theorem Qw{a:au}(o:a.Ok):a.ls.filterMap De.pp=[]:=Wm.mpr λx hx=>by
 obtain⟨k,_,h⟩:=o.hd x hx;obtain⟨_,_,_,_,w,d,r,e,_⟩:=h.cs;rw [e];rfl
theorem vk{a:au}(o:a.Ok):ay a.bs=[a.p0,a.p1]:=by
 unfold ay au.bs;rw [Sr,Sr,Sr,VM,Qw o];have:a.kl.filterMap De.pp=[]:=Wm.mpr λx hx=>by
  obtain⟨K,_,e⟩:=qx.mp hx;rw [e];rfl
 rw [this];rfl
theorem Qx{a:au}(o:a.Ok):a.t8.Ok:=⟨.inr rfl,o.st (by unfold bM.l;simp),trivial,o.k0.1,o.k0.2,o.un⟩
theorem Qy{a:au}(o:a.Ok){K:Int}(h:a.kp=some K):(a.t9 K).Ok:=⟨.inl rfl,o.st (by unfold bM.l;simp),trivial,(o.kk K h).1,(o.kk K h).2,.inl rfl⟩
theorem Qz{l:List De}(h:l.Pairwise λx y=>¬(x.d=y.d/\x.nm=y.nm)){x y:De}(hx:x∈l)(hy:y∈l)(e:x.d=y.d/\x.nm=y.nm):x=y:=by
 induction l with
 | nil=>cases hx
 | cons z l ih=>
  rw [Su] at h;rcases Rh.mp hx with e1 | h1 <;> rcases Rh.mp hy with e2 | h2
  ·rw [e1,e2]
  ·exact absurd (by rw [<-e1];exact e) (h.1 y h2)
  ·exact absurd (by rw [<-e2];exact⟨e.1.symm,e.2.symm⟩) (h.1 x h1)
  ·exact ih h.2 h1 h2
theorem jb{a:au}(o:a.Ok):bX a.bs:=by
 obtain⟨r1,r2,r3,r4,r5,r6,r7,r8,r9,r10,r11,r12,r13,r14,r15⟩:=qy;have n01:a.n.n0≠a.n.n1:=jO o.nd (i:=0) (j:=1) rfl rfl Ym;have n89:a.n.n8≠a.n.n9:=jO o.nd (i:=8) (j:=9) rfl rfl Ym;have kl1:a.kl.length<=1:=by unfold au.kl;rw [Q8];cases a.kp <;> simp
 have gp:ij (ay a.bs):=by
  rw [vk o];refine⟨by show 2<=41;decide,?_,?_,?_,?_⟩
  ·simp [au.p0,au.p1,n01]
  all_goals
   intro p hp;simp only [Rh,Sj,or_false] at hp;rcases hp with rfl | rfl
  ·exact o.st (by unfold au.p0 bM.l;simp)
  ·exact o.st (by unfold au.p1 bM.l;simp)
  ·exact o.st (by unfold au.p0 bM.l;simp)
  ·exact o.st (by unfold au.p1 bM.l;simp)
  ·refine⟨λm hm=>?_,by simp [au.p0]⟩;have:m=a.n.n1:=by simpa [au.p0] using hm
   rw [this];exact o.st (by unfold bM.l;simp)
  ·exact⟨λm hm=>by simp [au.p1] at hm,by simp [au.p1]⟩
 have oth:∀{w:Str}{d:Int}{nm:Str}{r:List Ys},De.oth w d nm r∈a.bs->(w=Q6 "rule"/\((d=a.fr/\nm=a.n.n8/\r=[a.t8.enc])\/∃K,a.kp=some K/\d=0/\nm=a.n.n9/\r=[(a.t9 K).enc]))\/(De.oth w d nm r∈a.ls/\(w=Q6 "lift"/\r=[]\/w=Q6 "hold"/\∃ip tn dp,r=[fq ip tn,.bool dp]/\HT a.n ip tn dp)):=λ{w d nm r} h=>by
  rcases dX.mp h with e | e | e | ⟨K,hK,e⟩ | e
  ·cases e
  ·cases e
  ·unfold au.r8 at e;cases e;exact .inl ⟨rfl,.inl ⟨rfl,rfl,rfl⟩⟩
  ·unfold au.r9 at e;cases e;exact .inl ⟨rfl,.inr ⟨K,hK,rfl,rfl,rfl⟩⟩
  ·obtain⟨k,_,hh⟩:=o.hd _ e;obtain⟨_,_,_,_,w',d',r',e',z⟩:=hh.cs;cases e';exact .inr ⟨e,z⟩
 have dd:∀x∈a.bs,0<=x.d/\x.d < 100000:=λx hx=>by
  have c:=o.c0;have f:=o.f0;have d:=o.d0;rcases dX.mp hx with e | e | e | ⟨K,hK,e⟩ | e
  ·rw [e];show 0<=a.come/\a.come < 100000;omega
  ·rw [e];show 0<=a.d1/\a.d1 < 100000;omega
  ·rw [e];show 0<=a.fr/\a.fr < 100000;omega
  ·rw [e];exact⟨Vg _,by show(0:Int) < 100000;decide⟩
  ·obtain⟨k,_,hh⟩:=o.hd _ e;have:=hh.cs.1;omega
 refine⟨⟨⟨gp,λw d nm r h=>?_,?_,λx hx=>?_,λx hx=>?_⟩,λd nm r h=>?_,λd nm r h=>?_,?_,dd,λx hx y hy ex ey e1 e2=>?_⟩,λd nm r h=>?_,λd nm r h=>?_,λx hx y hy ex ey e1 e2=>?_,λx hx y hy ex ey e1=>?_⟩
 ·rcases oth h with⟨e,_⟩ | ⟨_,⟨e,_⟩ | ⟨e,_⟩⟩ <;> rw [e]
  ·exact r5
  ·exact r11
  ·exact r10
 ·unfold au.bs;rw [Rq,Rq,Rq,Rv];have:=o.ll;omega
 ·rcases dX.mp hx with e | e | e | ⟨K,hK,e⟩ | e
  ·rw [e];show Rz (Q6 "paper")=true;decide+kernel
  ·rw [e];show Rz (Q6 "paper")=true;decide+kernel
  ·rw [e];show Rz (Q6 "rule")=true;decide+kernel
  ·rw [e];show Rz (Q6 "rule")=true;decide+kernel
  ·obtain⟨k,_,hh⟩:=o.hd _ e;rcases hh.cs.2.2.2.1 with z | z <;> rw [z] <;> decide+kernel
 ·rcases dX.mp hx with e | e | e | ⟨K,hK,e⟩ | e
  ·rw [e];exact o.st (by show a.n.n0∈_;unfold bM.l;simp)
  ·rw [e];exact o.st (by show a.n.n1∈_;unfold bM.l;simp)
  ·rw [e];exact o.st (by show a.n.n8∈_;unfold bM.l;simp)
  ·rw [e];exact o.st (by show a.n.n9∈_;unfold bM.l;simp)
  ·obtain⟨k,_,hh⟩:=o.hd _ e;rw [hh.cs.2.1];exact o.st (Hs _ _)
 ·rcases oth h with⟨e,_⟩ | ⟨_,⟨e,_⟩ | ⟨e,_⟩⟩
  ·exact absurd e.symm r3
  ·exact absurd e.symm r7
  ·exact absurd e.symm r6
 ·rcases oth h with⟨_,⟨_,_,e⟩ | ⟨K,hK,_,_,e⟩⟩ | ⟨_,⟨e,_⟩ | ⟨e,_⟩⟩
  ·exact⟨_,e,Qx o⟩
  ·exact⟨_,e,Qy o hK⟩
  ·exact absurd e r2
  ·exact absurd e r1
 ·have lnd:a.ls.Nodup:=o.pw.imp λ{x y} h e=>h (by rw [e];exact⟨rfl,rfl⟩);have nol:∀x∈a.ls,x.isL=true:=λx hx=>by obtain⟨k,_,hh⟩:=o.hd _ hx;exact hh.cs.2.2.1
  have no8:∀{d nm r},De.oth (Q6 "rule") d nm r ∉ a.ls:=λ{d nm r} hx=>by
   have:=nol _ hx;simp [De.isL,r1,r2] at this
  unfold au.bs;refine Ss.mpr ⟨λh=>?_,Ss.mpr ⟨λh=>?_,Ss.mpr ⟨λh=>?_,Vy.mpr ⟨?_,lnd,λx hx y hy e=>?_⟩⟩⟩⟩
  ·simp only [Rh,Ry,qx] at h;rcases h with e | e | ⟨K,_,e⟩ | e
   ·have:a.n.n0=a.n.n1:=congrArg De.nm e;exact n01 this
   ·cases e
   ·cases e
   ·have:=nol _ e;cases this
  ·simp only [Rh,Ry,qx] at h;rcases h with e | ⟨K,_,e⟩ | e
   ·cases e
   ·cases e
   ·have:=nol _ e;cases this
  ·simp only [Ry,qx] at h;rcases h with⟨K,_,e⟩ | e
   ·have:a.n.n8=a.n.n9:=congrArg De.nm e;exact n89 this
   ·exact no8 e
  ·unfold au.kl;cases a.kp <;> simp
  ·obtain⟨K,_,ex⟩:=qx.mp hx;rw [<-e,ex] at hy;exact no8 hy
 ·have cs:∀z∈a.bs,z.isE=true->z=a.r8\/∃K,a.kp=some K/\z=a.r9 K:=λz hz ez=>by
   rcases dX.mp hz with e | e | e | e | e
   ·rw [e] at ez;cases ez
   ·rw [e] at ez;cases ez
   ·exact .inl e
   ·exact .inr e
   ·obtain⟨k,_,hh⟩:=o.hd _ e;obtain⟨_,_,_,hw,w,d,r,e',_⟩:=hh.cs;rw [e'] at ez hw;have hw:w=_\/w=_:=hw;simp only [De.isE,Ul,beq_iff_eq] at ez;rcases hw with z | z <;> rcases ez with y | y <;> rw [z] at y
    ·exact absurd y.symm r1
    ·exact absurd y r14
    ·exact absurd y.symm r2
    ·exact absurd y r15
  rcases cs x hx ex with e | ⟨K,hK,e⟩ <;> rcases cs y hy ey with e' | ⟨K',hK',e'⟩
  ·rw [e,e']
  ·rw [e,e'] at e2;exact absurd e2 n89
  ·rw [e,e'] at e2;exact absurd e2.symm n89
  ·rw [hK] at hK';cases hK';rw [e,e']
 ·rcases oth h with⟨e,_⟩ | ⟨_,⟨e,_⟩ | ⟨_,ip,tn,dp,e,ht⟩⟩
  ·exact absurd e.symm r1
  ·exact absurd e.symm r12
  ·exact⟨ip,tn,dp,e,o.st ht.ok⟩
 ·rcases oth h with⟨e,_⟩ | ⟨_,⟨e,_⟩ | ⟨e,_⟩⟩
  ·exact absurd e.symm r4
  ·exact absurd e.symm r9
  ·exact absurd e.symm r8
 ·have cs:∀z∈a.bs,z.isL=true->z∈a.ls:=λz hz ez=>by
   rcases dX.mp hz with e | e | e | ⟨K,_,e⟩ | e
   ·rw [e] at ez;cases ez
   ·rw [e] at ez;cases ez
   ·rw [e] at ez;simp [De.isL,au.r8,r1,r2] at ez
   ·rw [e] at ez;simp [De.isL,au.r9,r1,r2] at ez
   ·exact e
  exact Qz o.pw (cs x hx ex) (cs y hy ey) ⟨e1,e2⟩
 ·exfalso;rcases dX.mp hx with e | e | e | ⟨K,_,e⟩ | e
  ·rw [e] at ex;revert ex;show Q6 "paper"≠_;decide+kernel
  ·rw [e] at ex;revert ex;show Q6 "paper"≠_;decide+kernel
  ·rw [e] at ex;exact r4 ex
  ·rw [e] at ex;exact r4 ex
  ·obtain⟨k,_,hh⟩:=o.hd _ e;rcases hh.cs.2.2.2.1 with z | z <;> rw [z] at ex
   ·exact r8 ex
   ·exact r9 ex
end
section
theorem QA{p q:Pp}(h:q.d < p.d):¬p.lt q:=by
 unfold Pp.lt aP Pp.key;simp only [Ul,Si,decide_eq_true_eq];rintro(z | ⟨z,_⟩) <;> omega
theorem se{a:au}(o:a.Ok):bB (ay a.bs)=[a.p1,a.p0]:=by
 rw [vk o];show mI a.p0 [a.p1]=_;unfold mI;rw [Yo (QA (show a.d1 < a.come from o.d0.2))];rfl
theorem QB{a:au}(o:a.Ok):dB (ay a.bs) a.p0=[a.p1]:=by
 have n01:a.n.n1≠a.n.n0:=jO o.nd (i:=1) (j:=0) rfl rfl Ym;have l1:aP a.p1.key a.p0.key=true:=by
  unfold aP;simp only [Ul,decide_eq_true_eq];exact .inl o.d0.2
 unfold dB;rw [se o,So,Yp (by unfold qi;rw [l1];simp [au.p0,au.p1]),So,Yo (by unfold qi;simp [au.p0,Ne.symm n01])];rfl
theorem QC{a:au}(o:a.Ok):dB (ay a.bs) a.p1=[]:=by
 unfold dB;exact WJ.mpr λp hp=>by unfold qi;simp [au.p1]
theorem QD{a:au}(o:a.Ok):cU (ay a.bs) a.p0=[a.p0,a.p1]:=by
 have n01:a.n.n0≠a.n.n1:=jO o.nd (i:=0) (j:=1) rfl rfl Ym;have e1:fX (ay a.bs) [a.p0] a.p0=[a.p1]:=by
  unfold fX;rw [QB o,So,Yp ?_]
  ·rfl
  ·unfold oZ;simp [au.p0,au.p1,Pp.enc,RC,S5,n01]
 have e2:fX (ay a.bs) [a.p0,a.p1] a.p1=[]:=by unfold fX;rw [QC o];rfl
 unfold cU;rw [show(ay a.bs).length=2 by rw [vk o];rfl];show fY (ay a.bs) 1 ([a.p0]++fX (ay a.bs) [a.p0] a.p0) 1=_;rw [e1];show fY (ay a.bs) 0 ([a.p0,a.p1]++fX (ay a.bs) [a.p0,a.p1] a.p1) 2=_;rw [e2];rfl
theorem vo(ws:List Str)(n:Int)(xs:List Rw):∃L,dj ws n xs L:=by
 have key:∀l:List Rw,∃L,dj ws n l.reverse L:=by
  intro l
  induction l with
  | nil=>exact⟨[],dj.nil _ _⟩
  | cons x l ih=>
   obtain⟨L,h⟩:=ih;rw [List.reverse_cons];by_cases ho:dR ws n x
   ·cases hl:di L x.nm with
    | none=>exact⟨_,h.put ho λy e=>by rw [hl] at e;cases e⟩
    | some y=>
     by_cases hn:y.n < x.n
     ·exact⟨_,h.put ho λy' e=>by rw [hl] at e;cases e;exact hn⟩
     ·exact⟨L,h.keep hl hn⟩
   ·exact⟨L,h.skip ho⟩
 have:=key xs.reverse
 rwa [List.reverse_reverse] at this
theorem QE{xs:List De}(g:gM xs)(n:Int):iu xs n (dD xs n):=by
 obtain⟨L,hL⟩:=vo iq n (xs.map De.rw);obtain⟨M,hM,_⟩:=FI g hL.res;rw [<-uY hM];exact hM
theorem QF(l:List Int):∃ns:List Int,(∀z,z∈ns↔z∈l)/\ns.Pairwise (· < ·):=by
 induction l with
 | nil=>exact⟨[],λz=>Iff.rfl,.nil⟩
 | cons x l ih=>
  obtain⟨ns,h1,h2⟩:=ih;refine⟨ns.filter (λz=>decide (z < x))++x::ns.filter (λz=>decide (x < z)),λz=>?_,Vb.mpr ⟨h2.filter _,Su.mpr ⟨λy hy=>?_,h2.filter _⟩,λy hy w hw=>?_⟩⟩
  ·rw [Ry,Rh,RK,RK,Rh,<-h1];simp only [decide_eq_true_eq];constructor
   ·rintro(⟨h,_⟩ | h | ⟨h,_⟩)
    ·exact .inr h
    ·exact .inl h
    ·exact .inr h
   ·rintro(h | h)
    ·exact .inr (.inl h)
    ·rcases Wh z x with y | y | y
     ·exact .inl ⟨h,y⟩
     ·exact .inr (.inl y)
     ·exact .inr (.inr ⟨h,y⟩)
  ·have:=(RK.mp hy).2;exact of_decide_eq_true this
  ·have y1:y < x:=of_decide_eq_true (RK.mp hy).2;rcases Rh.mp hw with e | hw
   ·rw [e];exact y1
   ·have:x < w:=of_decide_eq_true (RK.mp hw).2;omega
theorem Ht(xs:List De):iy xs (eD xs):=by
 obtain⟨ns,h1,h2⟩:=QF (fW xs);have h:iy xs ns:=⟨h1,h2⟩;rw [<-vb h];exact h
theorem vp{a:au}(o:a.Ok)(k:Int)(u:Str):ix (fV a.bs) a.n.n3 .com k u=[cu a.come k u]:=by
 have n34:a.n.n4≠a.n.n3:=jO o.nd (i:=4) (j:=3) rfl rfl Ym;unfold ix fV;rw [se o,Rb,Rb,RX,UY,UY,List.flatMap_nil];rw [Yo (by show ¬(a.n.n4==a.n.n3)=true;rw [bV n34];decide),Yp (by show(a.n.n3==a.n.n3)=true;simp)];rfl
theorem Hu{a:au}(o:a.Ok){x:De}(hx:x∈a.bs):bW a.bs x=[]\/(x=a.r8/\bW a.bs x=[cu a.come a.k a.u])\/∃K,a.kp=some K/\x=a.r9 K/\bW a.bs x=[a.come+K]:=by
 rcases dX.mp hx with e | e | e | ⟨K,hK,e⟩ | e
 ·rw [e];exact .inl (rR rfl)
 ·rw [e];exact .inl (rR rfl)
 ·exact .inr (.inl ⟨e,by rw [e];unfold au.r8 au.t8;rw [rQ,vp o]⟩)
 ·exact .inr (.inr ⟨K,hK,e,by rw [e];unfold au.r9 au.t9;rw [rQ,vp o,oV (.inl ⟨rfl,rfl⟩)]⟩)
 ·obtain⟨k,_,hh⟩:=o.hd _ e;obtain⟨_,_,_,hw,w,d,r,e',_⟩:=hh.cs;obtain⟨r1,r2,_⟩:=qy;refine .inl (rR ?_);rw [e'] at hw⊢;have hw:w=_\/w=_:=hw;rcases hw with z | z <;> rw [z] <;> simp [De.isR,Ne.symm r1,Ne.symm r2]
theorem QG{a:au}(o:a.Ok):bW a.bs a.r8=[cu a.come a.k a.u]:=by unfold au.r8 au.t8;rw [rQ,vp o]
theorem QH{a:au}(o:a.Ok)(K:Int):bW a.bs (a.r9 K)=[a.come+K]:=by unfold au.r9 au.t9;rw [rQ,vp o,oV (.inl ⟨rfl,rfl⟩)]
theorem A7{a:au}(o:a.Ok){z:Int}:z∈eD a.bs↔(∃x∈a.bs,x.d=z)\/z=cu a.come a.k a.u\/∃K,a.kp=some K/\z=a.come+K:=by
 rw [(Ht a.bs).1];unfold fW;rw [Ry,Rj,Vd];constructor
 ·rintro(h | ⟨x,hx,h⟩)
  ·exact .inl h
  ·rcases Hu o hx with e | ⟨_,e⟩ | ⟨K,hK,_,e⟩
   ·rw [e] at h;cases h
   ·rw [e] at h;exact .inr (.inl (by simpa using h))
   ·rw [e] at h;exact .inr (.inr ⟨K,hK,by simpa using h⟩)
 ·rintro(h | h | ⟨K,hK,h⟩)
  ·exact .inl h
  ·exact .inr ⟨_,dX.mpr (.inr (.inr (.inl rfl))),by rw [QG o,h];exact RF.mpr rfl⟩
  ·exact .inr ⟨_,dX.mpr (.inr (.inr (.inr (.inl ⟨K,hK,rfl⟩)))),by rw [QH o,h];exact RF.mpr rfl⟩
theorem Hv{a:au}(o:a.Ok):a.bs.length<=19:=by
 have kl1:a.kl.length<=1:=by unfold au.kl;rw [Q8];cases a.kp <;> simp
 unfold au.bs;rw [Rq,Rq,Rq,Rv];have:=o.ll;omega
theorem QI{a:au}(o:a.Ok):ki a.bs:=by
 have h1:∀l:List De,(∀x∈l,(bW a.bs x).length<=1)->(l.flatMap (bW a.bs)).length<=l.length:=by
  intro l
  induction l with
  | nil=>intro _;exact Rf _
  | cons x l ih=>
   intro h;rw [UY,Rv,Rq];have:=ih λy hy=>h y (Ru _ hy);have:=h x RD;omega
 have h2:=h1 a.bs λx hx=>by
  rcases Hu o hx with e | ⟨_,e⟩ | ⟨K,_,_,e⟩ <;> rw [e] <;> simp
 have h3:=Hv o;have tl:(fW a.bs).length < 64:=by
  unfold fW;rw [Rv,Q8];omega
 exact⟨Yn,fW a.bs,tl,λz hz=>hz⟩
end
section
theorem qz{a:au}(o:a.Ok){m:Int}{z:Str×Pt}:z∈dD a.bs m↔(z=(a.n.n8,a.t8)/\a.fr<=m)\/∃K,a.kp=some K/\z=(a.n.n9,a.t9 K)/\0<=m:=by
 have g:=jb o;have n89:a.n.n8≠a.n.n9:=jO o.nd (i:=8) (j:=9) rfl rfl Ym;obtain⟨r1,r2,_⟩:=qy;have cs:∀{d:Int}{nm:Str}{pt:Pt},De.oth (Q6 "rule") d nm [pt.enc]∈a.bs->(d=a.fr/\nm=a.n.n8/\pt=a.t8)\/∃K,a.kp=some K/\d=0/\nm=a.n.n9/\pt=a.t9 K:=λ{d nm pt} h=>by
  rcases dX.mp h with e | e | e | ⟨K,hK,e⟩ | e
  ·cases e
  ·cases e
  ·unfold au.r8 at e;simp only [De.oth.injEq,RZ,and_true,true_and] at e;exact .inl ⟨e.1,e.2.1,uX e.2.2⟩
  ·unfold au.r9 at e;simp only [De.oth.injEq,RZ,and_true,true_and] at e;exact .inr ⟨K,hK,e.1,e.2.1,uX e.2.2⟩
  ·obtain⟨k,_,hh⟩:=o.hd _ e;rcases hh.cs.2.2.2.1 with z | z
   ·exact absurd z r1
   ·exact absurd z r2
 rw [(QE g.gd m).2];constructor
 ·rintro⟨d,hd,hm,_⟩;rcases cs hm with⟨e1,e2,e3⟩ | ⟨K,hK,e1,e2,e3⟩
  ·exact .inl ⟨Ya e2 e3,by rw [<-e1];exact hd⟩
  ·exact .inr ⟨K,hK,Ya e2 e3,by rw [<-e1];exact hd⟩
 ·have one:∀{d:Int}{nm:Str}{r:List Ys},De.oth (Q6 "rule") d nm r∈a.bs->∀x∈a.bs,x.isE=true->x.nm=nm->x.d<=d:=λ{d nm r} h x hx ex en=>by
   have e8:∀z∈a.bs,z.isE=true->z=a.r8\/∃K,a.kp=some K/\z=a.r9 K:=λz hz ez=>by
    rcases dX.mp hz with e | e | e | e | e
    ·rw [e] at ez;cases ez
    ·rw [e] at ez;cases ez
    ·exact .inl e
    ·exact .inr e
    ·obtain⟨k,_,hh⟩:=o.hd _ e;obtain⟨_,_,_,hw,w,d,r,e',_⟩:=hh.cs;rw [e'] at ez hw;have hw:w=_\/w=_:=hw;simp only [De.isE,Ul,beq_iff_eq] at ez;obtain⟨_,_,_,_,_,_,_,_,_,_,_,_,_,r14,r15⟩:=qy;rcases hw with z | z <;> rcases ez with y | y <;> rw [z] at y
     ·exact absurd y.symm r1
     ·exact absurd y r14
     ·exact absurd y.symm r2
     ·exact absurd y r15
   have h8:=e8 _ h (by simp [De.isE]);rcases e8 x hx ex with e | ⟨K,hK,e⟩ <;> rcases h8 with e' | ⟨K',hK',e'⟩
   ·rw [e,<-e'];exact Vg _
   ·have z:nm=a.n.n9:=congrArg De.nm e';rw [e,z] at en;exact absurd en n89
   ·have z:nm=a.n.n8:=congrArg De.nm e';rw [e,z] at en;exact absurd en.symm n89
   ·rw [hK] at hK';cases hK';rw [e,<-e'];exact Vg _
  rintro(⟨rfl,h⟩ | ⟨K,hK,rfl,h⟩)
  ·have hm:a.r8∈a.bs:=dX.mpr (.inr (.inr (.inl rfl)));exact⟨a.fr,h,hm,λx hx ex en _=>one hm x hx ex en⟩
  ·have hm:a.r9 K∈a.bs:=dX.mpr (.inr (.inr (.inr (.inl ⟨K,hK,rfl⟩))));exact⟨0,h,hm,λx hx ex en _=>one hm x hx ex en⟩
theorem A8{r:Rp}{m:Int}{L:List (Str×Pt)}{f:Pt->Option Ys}:((iw r m L).flatMap λz=>((f z.2).map λb=>(z.1,b)).toList)≠[]↔r.c.d<=m/\∃z∈L,z.2.kd=r.c.kd/\∃b,f z.2=some b:=by
 rw [<-W6,List.length_pos_iff_exists_mem];unfold iw;constructor
 ·rintro⟨y,hy⟩;obtain⟨z,hz,h⟩:=Vd.mp hy;split at hz
  ·cases hz
  ·rename_i hd;obtain⟨z1,z2⟩:=RK.mp hz;cases hf:f z.2 with
   | none=>rw [hf] at h;cases h
   | some b=>exact⟨Yn,z,z1,eq_of_beq z2,b,hf⟩
 ·rintro⟨hd,z,hz,hk,b,hf⟩;refine⟨(z.1,b),Vd.mpr ⟨z,?_,by rw [hf];exact RF.mpr rfl⟩⟩;rw [Yo Yn];exact RK.mpr ⟨hz,by rw [hk];exact beq_self_eq_true _⟩
theorem QJ{a:au}(o:a.Ok){m:Int}{g:Gn}(h0:a.come<=m):fG (bL a.bs a.p0) m g (dD a.bs m)≠[]↔a.fr<=m/\cu a.come a.k a.u<=m:=by
 have nkg:Q6 "keep"≠Q6 "gone":=cp
 unfold fG rP;rw [A8];constructor
 ·rintro⟨_,z,hz,hk,b,hb⟩;rcases(qz o).mp hz with⟨rfl,h⟩ | ⟨K,hK,rfl,h⟩
  ·refine⟨h,?_⟩;have hb:(if Q6 "gone"=Q6 "gone"/\fS m (some (cu a.come a.k a.u))=false then _ else none)=some b:=hb;by_cases hl:fS m (some (cu a.come a.k a.u))=false
   ·have:¬(cu a.come a.k a.u > m):=by simpa [fS] using hl
    omega
   ·rw [Yo (λz=>hl z.2)] at hb;cases hb
  ·have hb:mK (bL a.bs a.p0) m g (.five (Q6 "keep") a.n.n3 .com K (Q6 "days"))=some b:=hb;simp only [mK] at hb;rw [Yo (λz=>nkg z.1)] at hb;cases hb
 ·rintro⟨h1,h2⟩;refine⟨h0,(a.n.n8,a.t8),(qz o).mpr (.inl ⟨rfl,h1⟩),rfl,bp (some (cu a.come a.k a.u)),?_⟩;show(if Q6 "gone"=Q6 "gone"/\fS m (some (cu a.come a.k a.u))=false then _ else none)=_;rw [Yp ⟨rfl,by simp [fS];omega⟩];rfl
theorem QK{a:au}(o:a.Ok){m:Int}{g:Gn}(h0:a.come<=m):fT (bL a.bs a.p0) m g (dD a.bs m)=[]↔∀K,a.kp=some K->a.come+K<=m:=by
 have nkg:Q6 "gone"≠Q6 "keep":=cp
 have c0:=o.c0;rw [<-Decidable.not_iff_not];unfold fT u5;show(_≠[])↔_;rw [A8 (f:=kh (bL a.bs a.p0) m g)];constructor
 ·rintro⟨_,z,hz,hk,b,hb⟩ hall;rcases(qz o).mp hz with⟨rfl,h⟩ | ⟨K,hK,rfl,h⟩
  ·have hb:kh (bL a.bs a.p0) m g (.five (Q6 "gone") a.n.n3 .com a.k a.u)=some b:=hb;simp only [kh] at hb;rw [Yo (λz=>nkg z.1)] at hb;cases hb
  ·have hb:(if Q6 "keep"=Q6 "keep"/\fS m (some (cu a.come K (Q6 "days")))=true then _ else none)=some b:=hb;have hl:=oV (d:=a.come) (k:=K) (u:=Q6 "days") (.inl ⟨rfl,rfl⟩);rw [<-hl] at hb;rw [Yo (λz=>by have:=hall K hK;have z:=z.2;simp [fS] at z;omega)] at hb;cases hb
 ·intro hn;have:∃K,a.kp=some K/\¬a.come+K<=m:=by
   cases hk:a.kp with
   | none=>exact absurd (λK e=>by rw [hk] at e;cases e) hn
   | some K=>
    by_cases h:a.come+K<=m
    ·exact absurd (λK' e=>by rw [hk] at e;cases e;exact h) hn
    ·exact⟨K,rfl,h⟩
  obtain⟨K,hK,h⟩:=this;have hl:=oV (d:=a.come) (k:=K) (u:=Q6 "days") (.inl ⟨rfl,rfl⟩);refine⟨h0,(a.n.n9,a.t9 K),(qz o).mpr (.inr ⟨K,hK,rfl,Yn⟩),rfl,bp (some (a.come+K)),?_⟩;show(if Q6 "keep"=Q6 "keep"/\fS m (some (cu a.come K (Q6 "days")))=true then some (bp (some (cu a.come K (Q6 "days")))) else none)=_;rw [<-hl,Yp ⟨rfl,by simp [fS];omega⟩]
theorem Hw{a:au}(o:a.Ok)(m:Int):ft (cG a.bs m) (cU (ay a.bs) a.p0)=(cG a.bs m).map (·.nm):=by
 unfold ft;rw [W3.mpr λh hh=>?_];rw [QD o];have gb:=jb o;obtain⟨L,hL⟩:=vo cy m (a.bs.map De.rw);have lat:=hL.res;rw [show cG a.bs m=mL (oJ L) by unfold cG;rw [<-oX (oY gb) lat]] at hh;obtain⟨x,hx,rfl⟩:=Rj.mp hh;obtain⟨x1,x2⟩:=RK.mp hx;obtain⟨y1,_,_⟩:=lat.it x x1;obtain⟨y,hy,rfl⟩:=Rj.mp y1;have x2:=eq_of_beq x2;obtain⟨r1,r2,r3,r4,r5,r6,r7,r8,r9,r10,r11,r12,_⟩:=qy;have hls:y∈a.ls:=by
  rcases dX.mp hy with e | e | e | ⟨K,hK,e⟩ | e
  ·rw [e] at x2;exact absurd x2 (by show Q6 "paper"≠_;decide+kernel)
  ·rw [e] at x2;exact absurd x2 (by show Q6 "paper"≠_;decide+kernel)
  ·rw [e] at x2;exact absurd x2 r1
  ·rw [e] at x2;exact absurd x2 r1
  ·exact e
 obtain⟨k,_,hh2⟩:=o.hd _ hls;obtain⟨_,_,_,_,w,d,r,e',z⟩:=hh2.cs;subst e';have x2:w=Q6 "hold":=x2;rcases z with⟨z,_⟩ | ⟨_,ip,tn,dp,er,ht⟩
 ·rw [x2] at z;exact absurd z.symm r12
 ·rw [AL (show(De.oth w d (a.n.hn k) r).rw.r=_ from er)];unfold qp;rcases ht with⟨h1,h2⟩ | ⟨h1,h2⟩ | ⟨hdp,⟨h1,h2⟩ | ⟨h1,h2⟩⟩
  ·rw [h1,h2];cases dp <;> simp [gE,au.p0]
  ·rw [h1,h2];cases dp <;> simp [gE,au.p0]
  ·rw [h1,h2,hdp];simp [gE,au.p1]
  ·rw [h1,h2,hdp];simp [gE,au.p1]
def au.okP(a:au)(m:Int):Prop:=a.come<=m/\a.fr<=m/\cu a.come a.k a.u<=m/\(∀K,a.kp=some K->a.come+K<=m)/\cG a.bs m=[]
theorem Hx{a:au}(o:a.Ok){m:Int}(kd:Str):fU kd (dD a.bs m)=[]:=by
 unfold fU;rw [WJ.mpr λz hz=>?_]
 ·rfl
 ·rcases(qz o).mp hz with⟨rfl,_⟩ | ⟨K,_,rfl,_⟩ <;> exact Rl
theorem QL{a:au}(o:a.Ok){m:Int}{R:Rn}(hL:R.L=dD a.bs m)(r:Rp)(l:List Pp):(cO R r l).lv=none:=by
 show i8 R r.c.kd=none;unfold i8;rw [hL,Hx o];rfl
theorem Hy{a:au}(o:a.Ok){m:Int}{R:Rn}(h0:a.come<=m)(hn:R.n=m)(hL:R.L=dD a.bs m)(hh:R.hs=cG a.bs m):(cO R (bL a.bs a.p0) (cU (ay a.bs) a.p0)).lets=true↔a.okP m:=by
 have gx:=QJ o (m:=m) (g:=R.gn) h0;have sx:=QK o (m:=m) (g:=R.gn) h0;unfold Lk.lets;rw [Si,decide_eq_true_eq,decide_eq_true_eq];show 0 < (fG (bL a.bs a.p0) R.n R.gn R.L).length/\((fT (bL a.bs a.p0) R.n R.gn R.L).map rW++(ft R.hs (cU (ay a.bs) a.p0)).map rX++(if i8 R (bL a.bs a.p0).c.kd=none then(fU (bL a.bs a.p0).c.kd R.L).map qu else [])).length=0↔_;rw [hn,hL,hh,Hx o,Hw o,W6,gx];have e:(if i8 R (bL a.bs a.p0).c.kd=none then([]:List Str).map qu else []).length=0:=by split <;> rfl
 rw [Rv,Rv,Q8,Q8,Q8,e];unfold au.okP;rw [<-sx];constructor
 ·rintro⟨⟨g1,g2⟩,h⟩;exact⟨h0,g1,g2,UG.mp Yn,UG.mp Yn⟩
 ·rintro⟨_,g1,g2,g3,g4⟩;rw [g3,g4];exact⟨⟨g1,g2⟩,rfl⟩
theorem QM{a:au}(o:a.Ok){m:Int}{R:Rn}(hL:R.L=dD a.bs m)(l:List Pp):(cO R (bL a.bs a.p1) l).lets=false:=by
 have n34:a.n.n3≠a.n.n4:=jO o.nd (i:=3) (j:=4) rfl rfl Ym;have:fG (bL a.bs a.p1) R.n R.gn R.L=[]:=by
  by_cases h:fG (bL a.bs a.p1) R.n R.gn R.L=[]
  ·exact h
  ·exfalso;unfold fG rP at h;obtain⟨_,z,hz,hk,_⟩:=A8.mp h;rw [hL] at hz;rcases(qz o).mp hz with⟨rfl,_⟩ | ⟨K,_,rfl,_⟩
   ·exact n34 hk
   ·exact n34 hk
 unfold Lk.lets;show(decide (0 < (fG (bL a.bs a.p1) R.n R.gn R.L).length) && _)=false;rw [this];rfl
end
section
theorem QN{a:au}(o:a.Ok):cx a.bs=[(bL a.bs a.p1,cU (ay a.bs) a.p1),(bL a.bs a.p0,cU (ay a.bs) a.p0)]:=by
 unfold cx;rw [se o];rfl
theorem sf(k l:List Lk):cH (k++l)=cH k++cH l:=by
 unfold cH;rw [Xi,RH]
theorem Hz{k:Lk}(h:k.lets=false):cH [k]=[]:=by
 unfold cH;rw [So,Yo (by rw [h];decide)];rfl
theorem QO{k:Lk}(h:k.lets=true):cH [k]=[k.row]:=by
 unfold cH;rw [So,Yp h];rfl
theorem QP{a:au}(o:a.Ok)(m:Int)(rows:List Ro):(gO (rows.foldl bY ([],[])).1 a.n.n0=true->cH (iz a.bs m rows (cx a.bs))=[])/\(gO (rows.foldl bY ([],[])).1 a.n.n0=false->(a.okP m->cH (iz a.bs m rows (cx a.bs))=[⟨a.n.n0,m,none⟩])/\(¬a.okP m->cH (iz a.bs m rows (cx a.bs))=[])):=by
 have hL:(bu a.bs m rows).L=dD a.bs m:=rfl;unfold iz i9;rw [QN o,R6,R6,XX];have e1:∃K1,cH K1=[]/\eF (bu a.bs m rows) (((bu a.bs m rows).go,(bu a.bs m rows).us),[]) (bL a.bs a.p1,cU (ay a.bs) a.p1)=(((bu a.bs m rows).go,(bu a.bs m rows).us),K1):=by
  unfold eF;split
  ·have l1:=QM o (R:=(bu a.bs m rows).at ((bu a.bs m rows).go,(bu a.bs m rows).us)) hL (cU (ay a.bs) a.p1);refine⟨[cO ((bu a.bs m rows).at ((bu a.bs m rows).go,(bu a.bs m rows).us)) (bL a.bs a.p1) (cU (ay a.bs) a.p1)],Hz l1,?_⟩;rw [Yo (by rw [l1];decide)];rfl
  ·exact⟨[],rfl,rfl⟩
 obtain⟨K1,k1,e1⟩:=e1;rw [e1];have hg:(bu a.bs m rows).go=(rows.foldl bY ([],[])).1:=rfl;unfold eF;refine⟨λhin=>?_,λhin=>⟨λok=>?_,λnok=>?_⟩⟩
 ·rw [Yo (by show ¬(_ && !gO (bu a.bs m rows).go a.n.n0)=true;rw [hg,hin];simp)];exact k1
 ·have ok':=ok;obtain⟨h0,_⟩:=ok;have l0:=(Hy o (R:=(bu a.bs m rows).at ((bu a.bs m rows).go,(bu a.bs m rows).us)) h0 rfl hL rfl).mpr ok';rw [Yp (by show(decide (a.come<=m) && !gO (bu a.bs m rows).go a.n.n0)=true;rw [hg,hin];simpa using h0)];show cH (K1++[_])=_;rw [sf,k1,QO l0,Sy];show [(⟨a.n.n0,m,(cO _ _ _).lv⟩:Ro)]=_;rw [QL o (R:=(bu a.bs m rows).at ((bu a.bs m rows).go,(bu a.bs m rows).us)) hL]
 ·split
  ·rename_i h;have h0:a.come<=m:=by
    have h:(decide (a.come<=m) && _)=true:=h;rw [Si,decide_eq_true_eq] at h;exact h.1
   have l0:(cO ((bu a.bs m rows).at ((bu a.bs m rows).go,(bu a.bs m rows).us)) (bL a.bs a.p0) (cU (ay a.bs) a.p0)).lets=false:=by
    rw [<-Ud,Hy o (R:=(bu a.bs m rows).at ((bu a.bs m rows).go,(bu a.bs m rows).us)) h0 rfl hL rfl];exact nok
   show cH (K1++[_])=_;rw [sf,k1,Hz l0];rfl
  ·exact k1
open Classical in
def au.okB(a:au)(m:Int):Bool:=decide (a.okP m)
open Classical in
theorem mQ{a:au}{m:Int}:a.okB m=true↔a.okP m:=by unfold au.okB;exact decide_eq_true_iff
def qA(a:au)(w:Option Int):List Ro:=(w.map λm=>(⟨a.n.n0,m,none⟩:Ro)).toList
theorem vq{a:au}(o:a.Ok):∀(ns:List Int)(st:List Ro×List Lk)(w:Option Int),st.1=qA a w->cH st.2=qA a w->cH (ns.foldl (fu a.bs (cx a.bs)) st).2=qA a (w.or (ns.find? a.okB))
 | [],st,w,h1,h2=>by rw [XX,h2,List.find?_nil,Option.or_none]
 | m::ns,st,w,h1,h2=>by
  have dr:=QP o m st.1;rw [R6];cases w with
  | some d=>
   have hin:gO (st.1.foldl bY ([],[])).1 a.n.n0=true:=by
    rw [h1];show gO (jL [] a.n.n0 d) a.n.n0=true;simp [jL,gO]
   have e:=dr.1 hin;have:=vq o ns (fu a.bs (cx a.bs) st m) (some d) (by unfold fu;rw [e,h1,RY]) (by unfold fu;rw [sf,e,h2,RY]);rw [this];rfl
  | none=>
   have hin:gO (st.1.foldl bY ([],[])).1 a.n.n0=false:=by rw [h1];rfl
   have e:=dr.2 hin;by_cases ok:a.okP m
   ·have e:=e.1 ok;have:=vq o ns (fu a.bs (cx a.bs) st m) (some m) (by unfold fu;rw [e,h1];rfl) (by unfold fu;rw [sf,e,h2];rfl);rw [this,R7,mQ.mpr ok];rfl
   ·have e:=e.2 ok;have nb:a.okB m=false:=by rw [<-Ud,mQ];exact ok
    have:=vq o ns (fu a.bs (cx a.bs) st m) none (by unfold fu;rw [e,h1];rfl) (by unfold fu;rw [sf,e,h2];rfl);rw [this,R7,nb]
def au.went(a:au):Option Int:=(eD a.bs).find? a.okB
theorem HA{a:au}(o:a.Ok):cI a.bs=[⟨a.n.n1,none,none⟩,⟨a.n.n0,a.went,none⟩]:=by
 have n01:a.n.n0≠a.n.n1:=jO o.nd (i:=0) (j:=1) rfl rfl Ym;have e:km a.bs=qA a a.went:=by
  unfold km fx;rw [vq o _ ([],[]) none rfl rfl];rfl
 unfold cI;rw [se o,e,Rb,Rb,RX];cases hw:a.went with
 | none=>rfl
 | some m=>
  have l1:mN (qA a (some m)) a.p1.nm=none:=by
   show(if a.n.n0=a.n.n1 then _ else none)=none;rw [Yo n01]
  have l0:mN (qA a (some m)) a.p0.nm=some ⟨a.n.n0,m,none⟩:=by
   show(if a.n.n0=a.n.n0 then _ else none)=_;rw [Yp rfl]
  rw [l1,l0];rfl
theorem A9{a:au}(o:a.Ok)(n:Int):a.n.n0∈jN a.bs n↔a.come<=n/\(a.went=none\/∃m,a.went=some m/\n < m):=by
 have n01:a.n.n1≠a.n.n0:=jO o.nd (i:=1) (j:=0) rfl rfl Ym;have ld:mO (cI a.bs) a.n.n0=some a.went:=by
  rw [HA o];show(if a.n.n0=a.n.n0 then some a.went else _)=_;rw [Yp rfl]
 unfold jN;rw [RK,ld,Rj,se o];constructor
 ·rintro⟨⟨c,hc,e⟩,h⟩;obtain⟨c1,c2⟩:=RK.mp hc;simp only [Rh,Sj,or_false] at c1;rcases c1 with rfl | rfl
  ·exact absurd e n01
  ·refine⟨of_decide_eq_true c2,?_⟩;cases hw:a.went with
   | none=>exact .inl rfl
   | some m=>rw [hw] at h;exact .inr ⟨m,rfl,of_decide_eq_true h⟩
 ·rintro⟨h0,h⟩;refine⟨⟨a.p0,RK.mpr ⟨Yr,decide_eq_true h0⟩,rfl⟩,?_⟩;rcases h with h | ⟨m,h,hm⟩
  ·rw [h];rfl
  ·rw [h];exact decide_eq_true hm
theorem Ba{a:au}(o:a.Ok){x:De}(hx:x∈a.bs)(h:x.rw.w∈cy):x∈a.ls/\x.rw.n=x.d:=by
 obtain⟨r1,r2,_⟩:=qy;have np:¬Q6 "paper"∈cy:=cp
 have nr:¬Q6 "rule"∈cy:=cp
 rcases dX.mp hx with e | e | e | ⟨K,hK,e⟩ | e
 ·rw [e] at h;exact absurd h np
 ·rw [e] at h;exact absurd h np
 ·rw [e] at h;exact absurd h nr
 ·rw [e] at h;exact absurd h nr
 ·exact⟨e,by cases x <;> rfl⟩
theorem QQ{a:au}(o:a.Ok){c t:Int}(h:∀x∈a.ls,x.d<=t↔x.d<=c):cG a.bs c=cG a.bs t:=by
 have g:=jb o;have key:∀{c t:Int},(∀x∈a.ls,x.d<=t↔x.d<=c)->∀res,dA cy t (a.bs.map De.rw) res->dA cy c (a.bs.map De.rw) res:=λ{c t} h res z=>by
  have ok:∀y∈a.bs.map De.rw,dR cy t y↔dR cy c y:=λy hy=>by
   obtain⟨x,hx,rfl⟩:=Rj.mp hy;unfold dR;constructor
   ·rintro⟨w1,w2⟩;have xl:=Ba o hx w1;exact⟨w1,by rw [xl.2] at w2⊢;exact(h x xl.1).mp w2⟩
   ·rintro⟨w1,w2⟩;have xl:=Ba o hx w1;exact⟨w1,by rw [xl.2] at w2⊢;exact(h x xl.1).mpr w2⟩
  exact⟨z.up,z.nd,λx hx=>let ⟨u1,u2,u3⟩:=z.it x hx;⟨u1,(ok x u1).mp u2,λy hy oy=>u3 y hy ((ok y hy).mpr oy)⟩,λy hy oy=>z.al y hy ((ok y hy).mpr oy),z.le⟩
 obtain⟨L,hL⟩:=vo cy t (a.bs.map De.rw);unfold cG;rw [<-oX (oY g) hL.res,<-oX (oY g) (key h _ hL.res)]
theorem QR{A B:List Int}{p:Int->Bool}(hA:A.Pairwise (· < ·))(hB:B.Pairwise (· < ·))(h1:∀c∈B,p c=true->c∈A)(h2:∀t∈A,p t=true->∃c∈B,p c=true/\c<=t):A.find? p=B.find? p:=by
 have least:∀{l:List Int},l.Pairwise (· < ·)->∀{m:Int},l.find? p=some m->m∈l/\p m=true/\∀y∈l,p y=true->m<=y:=λ{l} hl {m} e=>by
  refine⟨Vm e,VU e,λy hy py=>?_⟩
  induction l with
  | nil=>cases e
  | cons x l ih=>
   rw [Su] at hl;rw [R7] at e;cases hx:p x with
   | true=>
    rw [hx] at e;cases e;rcases Rh.mp hy with z | z
    ·rw [z];exact Vg _
    ·exact Int.le_of_lt (hl.1 y z)
   | false=>
    rw [hx] at e;rcases Rh.mp hy with z | z
    ·rw [z,hx] at py;cases py
    ·exact ih hl.2 e z
 cases ea:A.find? p with
 | none=>
  cases eb:B.find? p with
  | none=>rfl
  | some c=>
   obtain⟨c1,c2,_⟩:=least hB eb;exact absurd c2 (TV.mp ea c (h1 c c1 c2))
 | some m=>
  obtain⟨a1,a2,a3⟩:=least hA ea;obtain⟨c,c1,c2,c3⟩:=h2 m a1 a2;cases eb:B.find? p with
  | none=>exact absurd c2 (TV.mp eb c c1)
  | some d=>
   obtain⟨b1,b2,b3⟩:=least hB eb;have x1:=b3 c c1 c2;have x2:=a3 d (h1 d b1 b2) b2;rw [show m=d by omega]
end
local macro_rules | `(tactic| walk_at "h") =>rzT (rzS++" true_and EF Ez ED")
theorem HB:aZ (av pX) ["_law_cell_here","_law_xs","_law_ys","_law_zs","_law_names_here","_law_far","_law_come","_law_from_day","_law_many","_law_unit","_law_laid","_law_deeds","_law_begin","_law_till","_law_days","_law_went","_law_day_here","_law_turn","_law_some","_law_rows"] ["_law_deed"] 1 [] ⟨Ri,[(Q9 ".0",Z9),(Q9 "_law_deed",Z9)],false,false,[]⟩:=⟨rfl,cp,cp,cp,rfl,cp,cp,cp,rfl⟩
theorem vt:aZ (av pX) ["_law_cell_here","_law_xs","_law_ys","_law_zs","_law_names_here","_law_far","_law_come","_law_from_day","_law_many","_law_unit","_law_laid","_law_deeds","_law_begin","_law_till","_law_days","_law_went","_law_day_here","_law_turn","_law_some","_law_rows"] ["_law_paper","_law_day_here","_law_leave"] 3 [] ⟨Ri,[ (Q9 ".0",Z9),(Q9 "_law_paper",Z9),(Q9 "_law_day_here",Z9),(Q9 "_law_leave",Z9)],false,false,[]⟩:=⟨rfl,cp,cp,cp,rfl,cp,cp,cp,rfl⟩
theorem HC:aZ (av pX) ["_law_cell_here","_law_xs","_law_ys","_law_zs","_law_names_here","_law_far","_law_come","_law_from_day","_law_many","_law_unit","_law_laid","_law_deeds","_law_begin","_law_till","_law_days","_law_went","_law_day_here","_law_turn","_law_some","_law_rows"] ["_law_day_here"] 1 [] ⟨Ri,[(Q9 ".0",Z9),(Q9 "_law_day_here",Z9)],false,false,[]⟩:=⟨rfl,cp,cp,cp,rfl,cp,cp,cp,rfl⟩
section
variable {P:YE} {w:YF} {K:Q7} {mg:Str->Option Yt} {base:YG} {t:cF}
theorem QS{ss:List Str}(h:ss.length=12):∃n:bM,n.l=ss:=by
 obtain⟨a,b,c,d,e,f,g,i,j,k,l,m,rfl⟩:=A4 h;exact⟨⟨a,b,c,d,e,f,g,i,j,k,l,m⟩,rfl⟩
def au.B(a:au):Int:=max (max a.come a.fr) (cu a.come a.k a.u)
def au.T(a:au):Int:=match a.kp with
 | none=>0
 | some K=>a.come+K
theorem HE:∀(ss acc:List Int),(ss.foldl cS acc).length<=acc.length+ss.length
 | [],acc=>Rf _
 | z::ss,acc=>by
  rw [R6,Rq];have h1:=HE ss (cS acc z);have h2:(cS acc z).length<=acc.length+1:=by unfold cS;split <;> simp
  omega
theorem HF(M:Int):∀l:List Int,∃c∈M::l,∀y∈M::l,y<=c
 | []=>⟨M,RD,λy hy=>by simp at hy;omega⟩
 | z::l=>by
  obtain⟨c,hc,h⟩:=HF M l;by_cases hz:z<=c
  ·refine⟨c,?_,λy hy=>?_⟩
   ·rcases Rh.mp hc with e | e
    ·rw [e];exact RD
    ·exact Ru _ (Ru _ e)
   ·rcases Rh.mp hy with e | e
    ·rw [e];exact h M RD
    ·rcases Rh.mp e with e | e
     ·rw [e];exact hz
     ·exact h y (Ru _ e)
  ·refine⟨z,Ru _ RD,λy hy=>?_⟩;have hM:=h M RD;rcases Rh.mp hy with e | e
   ·rw [e];omega
   ·rcases Rh.mp e with e | e
    ·rw [e];exact Vg _
    ·have:=h y (Ru _ e);omega
theorem vv{a:au}(o:a.Ok)(m:Int):max a.B a.T<=m↔a.come<=m/\a.fr<=m/\cu a.come a.k a.u<=m/\∀K,a.kp=some K->a.come+K<=m:=by
 have c0:=o.c0.1;unfold au.B au.T;rw [XS,XS,XS];cases hk:a.kp with
 | none=>exact⟨λh=>⟨h.1.1.1,h.1.1.2,h.1.2,λK e=>by cases e⟩,λh=>⟨⟨⟨h.1,h.2.1⟩,h.2.2.1⟩,show(0:Int)<=m from Xk (Xk (show(0:Int)<=1 by decide) c0) h.1⟩⟩
 | some K=>exact⟨λh=>⟨h.1.1.1,h.1.1.2,h.1.2,λK' e=>by cases e;exact h.2⟩,λh=>⟨⟨⟨h.1,h.2.1⟩,h.2.2.1⟩,h.2.2.2 K rfl⟩⟩
theorem QT{a:au}(o:a.Ok){cs:List Int}(hm:∀z,z∈cs↔z∈a.ls.map De.d++[a.B,max a.B a.T])(hs:cs.Pairwise λx y=>x < y):cs.find? a.okB=a.went:=by
 have bt:a.B∈eD a.bs:=by
  rw [A7 o];have:a.B=a.come\/a.B=a.fr\/a.B=cu a.come a.k a.u:=by unfold au.B;omega
  rcases this with e | e | e
  ·exact .inl ⟨_,dX.mpr (.inl rfl),e.symm⟩
  ·exact .inl ⟨_,dX.mpr (.inr (.inr (.inl rfl))),e.symm⟩
  ·exact .inr (.inl e)
 have mt:max a.B a.T∈eD a.bs:=by
  rcases Int.le_total a.T a.B with h | h
  ·rw [Int.max_eq_left h];exact bt
  ·rw [Int.max_eq_right h];cases hk:a.kp with
   | none=>
    have z:a.T=0:=by unfold au.T;rw [hk]
    have c0:=o.c0;have:a.B >= a.come:=by unfold au.B;omega
    omega
   | some K=>
    have z:a.T=a.come+K:=by unfold au.T;rw [hk]
    exact(A7 o).mpr (.inr (.inr ⟨K,hk,z⟩))
 refine(QR (Ht a.bs).2 hs (λc hc _=>?_) λt _ pt=>?_).symm
 ·rcases Ry.mp ((hm c).mp hc) with h | h
  ·obtain⟨x,hx,e⟩:=Rj.mp h;exact(A7 o).mpr (.inl ⟨x,dX.mpr (.inr (.inr (.inr (.inr hx)))),e⟩)
  ·simp only [Rh,Sj,or_false] at h;rcases h with e | e
   ·rw [e];exact bt
   ·rw [e];exact mt
 ·obtain⟨p1,p2,p3,p4,p5⟩:=mQ.mp pt;have hM:=(vv o t).mpr ⟨p1,p2,p3,p4⟩;obtain⟨c,hc,aQ⟩:=HF (max a.B a.T) ((a.ls.map De.d).filter λz=>decide (z<=t));have ct:c<=t:=by
   rcases Rh.mp hc with e | e
   ·rw [e];exact hM
   ·exact of_decide_eq_true (RK.mp e).2
  refine⟨c,(hm c).mpr ?_,mQ.mpr ?_,ct⟩
  ·rcases Rh.mp hc with e | e
   ·rw [e];exact R0 _ Yr
   ·exact T1 _ (RK.mp e).1
  ·obtain⟨h1,h2,h3,h4⟩:=(vv o c).mp (aQ _ RD);refine⟨h1,h2,h3,h4,?_⟩;rw [QQ o (c:=c) (t:=t) λx hx=>⟨λh=>aQ _ (Ru _ (RK.mpr ⟨Rj.mpr ⟨x,hx,rfl⟩,decide_eq_true h⟩)),λh=>by omega⟩];exact p5
theorem QU{xs:List De}{k:Nat}:eQ (xs.map De.enc) none (some (k:Int))=(xs.take k).map De.enc:=by
 unfold eQ;rw [HT.sIx_nat,sR,List.drop_zero,Nat.sub_zero,<-WY,Q8];congr 1;rcases Yb k xs.length with z | z
 ·rw [XT z]
 ·rw [XG z,RM (Rf _),RM z]
theorem QV{xs:List De}{k:Nat}:eQ (xs.map De.enc) (some (k:Int)) none=(xs.drop k).map De.enc:=by
 unfold eQ;rw [HT.sIx_nat,sR,RM (by rw [Va];exact Rf _),<-List.map_drop,Q8];congr 1;rcases Yb k xs.length with z | z
 ·rw [XT z]
 ·rw [XG z,US (Rf _),US z]
mutual
theorem HG:∀d:Ys,d.canLay0=true->RC d d=true
 | .none,_=>by simp [RC]
 | .bool _,_ | .int _,_ | .str _,_=>by simp [RC]
 | .list xs,h=>by rw [RC];exact Bb xs (by simpa [R3] using h)
 | .tuple xs,h=>by rw [RC];exact Bb xs (by simpa [R3] using h)
 | .dict _,h=>by simp [R3] at h
theorem Bb:∀ds:List Ys,SQ ds=true->S5 ds ds=true
 | [],_=>by simp [S5]
 | d::ds,h=>by
  rw [SQ,Si] at h;rw [S5,HG d h.1,Bb ds h.2];rfl
end
theorem vw{o:Option Int}:pU o=bp o:=by cases o <;> rfl
theorem HH{a:au}(o:a.Ok){m:Int}{res:List Rw}(h:dA cy m (a.ls.map De.rw) res):sd res=(cG a.bs m).map (·.nm):=by
 have g:=jb o;have bl:a.ls.length<=a.bs.length:=by
  unfold au.bs;rw [Rq,Rq,Rq,Rv];omega
 have up:∀y∈a.bs.map De.rw,dR cy m y->y∈a.ls.map De.rw:=λy hy oy=>by
  obtain⟨x,hx,rfl⟩:=Rj.mp hy;exact Rj.mpr ⟨x,(Ba o hx oy.1).1,rfl⟩
 have dn:∀y∈a.ls.map De.rw,y∈a.bs.map De.rw:=λy hy=>by
  obtain⟨x,hx,rfl⟩:=Rj.mp hy;exact Rj.mpr ⟨x,dX.mpr (.inr (.inr (.inr (.inr hx)))),rfl⟩
 have z:dA cy m (a.bs.map De.rw) res:=⟨h.up,h.nd,λx hx=>let ⟨u1,u2,u3⟩:=h.it x hx;⟨dn x u1,u2,λy hy oy=>u3 y (up y hy oy) oy⟩,λy hy oy=>h.al y (up y hy oy) oy,by have:=h.le;rw [Q8] at this⊢;omega⟩;unfold cG;rw [<-oX (oY g) z];unfold sd mL;rw [RB];refine Tx λx _=>?_;rfl
theorem QW{a:au}(o:a.Ok)(m:Int):cL 2 (.tuple (((cG a.bs m).map (·.nm)).map .str)):=by
 obtain⟨L,hL⟩:=vo cy m (a.ls.map De.rw);rw [<-HH o hL.res];refine js (tI λz hz=>?_);obtain⟨x,hx,rfl⟩:=Rj.mp hz;obtain⟨h1,_,_⟩:=hL.res.it x (RK.mp hx).1;obtain⟨y,hy,rfl⟩:=Rj.mp h1;obtain⟨k,_,hh⟩:=o.hd _ hy;obtain⟨_,hn,_⟩:=hh.cs;rw [show y.rw.nm=y.nm by cases y <;> rfl,hn];exact o.st (Hs _ _)
theorem HI{a:au}(o:a.Ok)(d:Int){R:Ys->Prop}(h:cL 2 (.tuple (((cG a.bs d).map (·.nm)).map .str))->R (.tuple (((cG a.bs d).map (·.nm)).map .str))):Hq [.list (a.ls.map De.enc),.int d] R:=by
 have ll:=o.ll;refine⟨a.ls.map De.rw,d,by rw [AH],λx hx=>?_,by rw [Q8];omega,λres hres=>?_⟩
 ·obtain⟨y,hy,rfl⟩:=Rj.mp hx;obtain⟨k,_,hh⟩:=o.hd _ hy;rw [show y.rw.w=y.w by cases y <;> rfl];rcases hh.cs.2.2.2.1 with z | z <;> rw [z] <;> decide+kernel
 ·rw [HH o hres];exact h (QW o d)
def QX:List Ys->(Ys->Prop)->Prop:=λds Q=>∃c:Int,ds=[.int c]/\Q (.bool true)
theorem QY(T:Txt K mg t):aB P w K mg base CX0 15 t.a_AF t.d_AF ["_law_cell_here"] (aU K QX):=by
 have G_x:=@Qa P w _ _ base _ T;have G_y:=@Qi P w _ _ base _ T;have G_AC:=@Hm P w _ _ base _ T;have G_AD:=@Qt P w _ _ base _ T;have G_AB:=@Qo P w _ _ base _ T;have G_AE:=@Qu P w _ _ base _ T;have G_t:=@G5 P w _ _ base _ T;have G_v:=@PR P w _ _ base _ T;have G_V:=@Qv P w _ _ base _ T;refine T.F_AF.F.okD fk (λds Q h=>?_) (λ_ _ _ _ H O ds Q E hr h=>?_)
 ·obtain⟨c,rfl,_⟩:=h;rfl
 ·obtain⟨c,rfl,q⟩:=h;refine'⟨_,?A,?B⟩
  case A=>
   refine' aq ?C ?D
   case C=>exact(DC (i:=1) (j:=2) (k:=3) rfl fk.nd rfl rfl rfl Ym Ym Ym rfl rfl rfl (aa (PE.imp (aD G_x (hr.mono Ym) rfl T.F_x (aa (dv 0) (aa ag aj))) aK) (aa (PE.imp (aD G_x (hr.mono Ym) rfl T.F_x (aa (aw aX bf (df (aw dY aR (df (dv 0)) (df ag))) (df ag)) (aa ag aj))) aK) (aa (PE.imp (aD G_x (hr.mono Ym) rfl T.F_x (aa (aw aX bf (df (aw dY aR (df (dv 0)) (df ag))) (df ag)) (aa ag aj))) aK) aj))) (by rfl))
   case' D=>refine' aq ?E ?F
   case E=>exact(Ct (i:=4) (j:=5) rfl fk.nd rfl rfl Ym rfl rfl (aa (PE.imp (aD G_y (hr.mono Ym) rfl T.F_y (aa (dv 3) aj)) aK) (aa (aw bI aR (df (ao aS aT (df (dv 1)) (df ag))) (df ag)) aj)) (by rfl))
   case' F=>refine' aq ?G ?H
   case G=>exact(DC (i:=6) (j:=7) (k:=8) rfl fk.nd rfl rfl rfl Ym Ym Ym rfl rfl rfl (aa (aw aX bf (df (PE.imp (aD G_AC (hr.mono Ym) rfl T.F_AC (aa (ao aS aT (df (dv 1)) (df ag)) (aa (dv 5) aj))) aK)) (df ag)) (aa (PE.imp (aD G_AC (hr.mono Ym) rfl T.F_AC (aa (ao aS aT (df (dv 1)) (df ag)) (aa (dv 5) aj))) aK) (aa (aw bI aR (df (ao aS aT (df (dv 1)) (df ag))) (df (ao aS aT (df (fe (cn (aa ag (aa ag aj))))) (df (dv 5))))) aj))) (by rfl))
   case' H=>refine' aq ?I ?J
   case I=>
    generalize hG8:WS _ _ _=eg8;refine' bo (i:=9) fk.nd rfl Yq ?K (hs:=by subst hG8;exact C9)
    case' K=>subst hG8
    refine' ao aS aT (df ?L) ?M
    case L=>exact(fe (cn (qX (ds:=[.str "days",.str "months",.str "years"]) (by rfl))))
    case M=>exact(df (aw bI aR (df (ao aS aT (df (dv 1)) (df ag))) (df (ao aS aT (df (fe (cn (aa ag (aa ag aj))))) (df (dv 5))))))
   case' J=>refine' aq ?N ?O
   case N=>exact(bo (i:=10) fk.nd rfl Yq (PE.imp (aD G_AD (hr.mono Ym) rfl T.F_AD (aa (dv 4) (aa (dv 2) (aa (dv 5) aj)))) aK))
   case' O=>refine' aq ?P ?Q
   case P=>
    refine' g7 (i:=11) fk.nd rfl Yq ?R (hs:=K8)
    case' R=>refine' cn ?S
    case' S=>refine' aa ?T aj
    case' T=>refine' bF ?U
    case' U=>refine' aa bj ?V
    case' V=>refine' aa (dv 6) ?W
    case' W=>refine' aa ?X ?Y
    case X=>exact(ao aS aT (df (dv 4)) (df ag))
    case' Y=>refine' aa ?Z ?a
    case Z=>exact(ao aS aT (df (dv 4)) (df ag))
    case' a=>refine' aa ?b aj
    case b=>exact(bF (aa (ao aS aT (df (dv 4)) (df ag)) aj))
   case' Q=>refine' aq ?c ?d
   case c=>
    refine' hG (i:=11) (pv 11) ?e
    case' e=>refine' bF ?f
    case' f=>refine' aa bj ?g
    case' g=>refine' aa ?h ?i
    case h=>exact(aw bI aR (df (PE.imp (aD G_AC (hr.mono Ym) rfl T.F_AC (aa (ao aS aT (df (dv 1)) (df ag)) (aa (dv 5) aj))) aK)) (df (dv 6)))
    case' i=>refine' aa ?j ?k
    case j=>exact(ao aS aT (df (dv 4)) (df ag))
    case' k=>refine' aa ?l ?m
    case l=>exact(ao aS aT (df (dv 4)) (df ag))
    case m=>refine' aa (bF aj) aj
   case' d=>refine' aq ?n ?o
   case n=>
    refine' hG (i:=11) (pv 11) ?p
    case' p=>refine' bF ?q
    case' q=>refine' aa bj ?r
    case' r=>refine' aa (dv 7) ?s
    case' s=>refine' aa ?t ?u
    case t=>exact(ao aS aT (df (dv 4)) (df ag))
    case' u=>refine' aa ?v aj
    case' v=>refine' bF ?w
    case' w=>refine' aa bj ?x
    case' x=>refine' aa ?y ?z
    case y=>exact(ao aS aT (df (dv 4)) (df ag))
    case' z=>refine' aa ?A0 ?A1
    case A0=>exact(bF (aa bj aj))
    case' A1=>refine' aa (dv 8) ?A2
    case A2=>refine' aa (dv 9) aj
   case' o=>refine' aq ?A3 ?A4
   case A3=>exact(Ct (i:=12) (j:=13) rfl fk.nd rfl rfl Ym rfl rfl (aa (PE.imp (eL (MY rfl) rfl T.n_max VN (bz (df (dv 6)) (bz (df (dv 7)) (bz (df (PE.imp (aD G_AB (hr.mono Ym) rfl T.F_AB (aa (dv 6) (aa (dv 8) (aa (dv 9) aj)))) aK)) bG)))) (cf MZ)) (aa ag aj)) (by rfl))
   case' A4=>refine' aq ?A5 ?A6
   case A5=>
    refine' bR ?A7 ?A8 bQ
    case A7=>exact(aO (fM hr.units) fN (df (aw bI aR (df (ao aS aT (df (dv 1)) (df ag))) (df ag))) (df ag) (aE _))
    case' A8=>refine' aq ?A9 ?AA
    case A9=>
     refine' hG (i:=11) (pv 11) ?AB
     case' AB=>refine' bF ?AC
     case' AC=>refine' aa bj ?AD
     case' AD=>refine' aa ag ?AE
     case' AE=>refine' aa ?AF ?AG
     case AF=>exact(ao aS aT (df (dv 4)) (df ag))
     case' AG=>refine' aa ?AH aj
     case' AH=>refine' bF ?AI
     case' AI=>refine' aa bj ?AJ
     case' AJ=>refine' aa ?AK ?AL
     case AK=>exact(ao aS aT (df (dv 4)) (df ag))
     case' AL=>refine' aa ?AM ?AN
     case AM=>exact(bF (aa bj aj))
     case' AN=>refine' aa ?AO ?AP
     case AO=>exact(aw bI aR (df (ao aS aT (df (dv 1)) (df ag))) (df ag))
     case AP=>refine' aa bj aj
    case' AA=>refine' ax ?AQ
    case' AQ=>refine' bo (i:=13) fk.nd rfl Yq ?AR (hs:=ju)
    case AR=>exact(aw aX bf (df (dv 6)) (df (aw bI aR (df (ao aS aT (df (dv 1)) (df ag))) (df ag))))
   case' A6=>refine' aq ?AS ?AT
   case AS=>exact(lI (i:=14) fk.nd rfl Yq (wM rfl HB (df (dv 10)) aL bS Ym (λ_ _ _ _=>(aI (i:=0) HB.nd rfl Yq)) (λ_ _ _ _=>eU) (λ_ _ _ _=>(ao aF aJ (df (dv 0)) (df ag)))))
   case' AT=>refine' aq ?AU ?AV
   case AU=>exact(bo (i:=15) fk.nd rfl Yq eO)
   case' AV=>refine' aq ?AW ?AX
   case AW=>
    refine' iR RU rfl (fe (D5 rfl rfl T.n_sorted S7 rfl T.n_set (bz (df (fe (mZ (df (dv 14)) (df (fe (cn (aa (dv 12) (aa (PE.imp (eL (BQ rfl) rfl T.n_max VN (bz (df (dv 12)) (bz (df (dv 13)) bG))) (cf wA)) aj)))))))) bG))) ?AY aL ?AZ
    case AY=>exact(aI (i:=16) fk.nd rfl Yq)
    case' AZ=>refine' ax ?Aa
    case' Aa=>refine' bR ?Ab ?Ac bQ
    case Ab=>exact(PW.pt (gm (aO kq lY (df (dv 15)) (df eO) (aE _)) (gm (aO sF cq (df (dv 16)) (df (PE.imp (eL (BQ rfl) rfl T.n_max VN (bz (df (dv 12)) (bz (df (dv 13)) bG))) (cf wA))) (aE _)) (gJ (aO (fM hr.units) fN (df (PE.imp (aD G_AE (hr.mono Ym) rfl T.F_AE (aa (dv 10) (aa (dv 16) aj))) aK)) (df (bF aj)) (aE _))))))
    case' Ac=>refine' ax ?Ad
    case Ad=>exact(bo (i:=15) fk.nd rfl Yq (dv 16))
   case' AX=>refine' aq ?Ae ?Af
   case Ae=>exact(bo (i:=17) fk.nd rfl Yq (aw bI aR (df (ao aS aT (df (dv 1)) (df ag))) (df ag)))
   case' Af=>refine' aq ?Ag ?Ah
   case Ag=>
    refine' bo (i:=18) fk.nd rfl Yq ?Ai (hs:=nI)
    case Ai=>exact(PE.imp (dZ gS rfl T.n_tuple gT (bz (df (fe (mZ (df (fe (qU (df (fe (mZ (dw 11) (df (dv 10))))) (iS (dv 17)) nc))) (df (fe (qU (df (fe (mZ (dw 11) (df (dv 10))))) nc (iS (dv 17)))))))) bG)) (cf ia))
   case' Ah=>refine' aq ?Aj ?Ak
   case Aj=>exact(q5 (i:=19) fk.nd rfl Yq (MB rfl rfl T.n_dict (bz (df (fe (kQ rfl vt (df (PE.imp (aD G_t (hr.mono Ym) rfl T.F_t (aa (dv 18) aj)) aK)) (iQ (cC aL (cC aL (cC aL iP)))) MV Ym (λ_ _ _ _=>(iC (n:=3) rfl (cB (aI (i:=0) vt.nd rfl Yq) (cB (aI (i:=1) vt.nd rfl Yq) (cB (aI (i:=2) vt.nd rfl Yq) iB))))) (λ_ _ _ _=>eU) (λ_ _ _ _=>(bF (aa (dv 0) (aa (dv 1) aj))))))) bG)))
   case' Ak=>refine' aq ?Al ?Am
   case Al=>
    refine' xf 19 ?An
    case' An=>refine' bR ?Ao ?Ap bQ
    case Ao=>exact(aO (MS hr.units) MT (df (dv 19)) (df (MX (LF (Dz (ao aS aT (df (dv 4)) (df ag)) (dv 15) (Dz (ao aS aT (df (dv 4)) (df ag)) eO LD))))) (aE _))
    case Ap=>refine' ax (bb qO)
   case' Am=>refine' aq ?Aq ?Ar
   case Aq=>
    refine' iR RU rfl (fe (mZ (df (fe (mZ (df (dv 14)) (df (fe (fh rfl HC (df (dv 14)) aL bS Ym (λ_ _ _ _=>(aI (i:=0) HC.nd rfl Yq)) (λ_ _ _ _=>(d7 (aO ko cq (df (dv 0)) (df ag) (aE _)))) (λ_ _ _ _=>(aw cP bf (df (dv 0)) (df ag))))))))) (df (fe (cn (aa (dv 12) aj)))))) ?As aL ?At
    case As=>exact(aI (i:=16) fk.nd rfl Yq)
    case' At=>refine' aq ?Au ?Av
    case Au=>
     refine' bR ?Aw ?Ax bQ
     case Aw=>exact(aO (wx hr.units) wy (df (PE.imp (aD G_V (hr.mono Ym) rfl T.F_V (aa (dv 18) (aa (dv 16) (aa (ao aS aT (df (dv 4)) (df ag)) aj)))) aK)) (df (PE.imp (aD G_AE (hr.mono Ym) rfl T.F_AE (aa (dv 10) (aa (dv 16) aj))) aK)) (aE _))
     case Ax=>refine' ax (bb qO)
    case' Av=>refine' ax ?Ay
    case' Ay=>refine' bR ?Az ?B0 bQ
    case Az=>exact(aO (wx hr.units) wy (df (cX (tH hr) ny (df (ao aS aT (df (dv 4)) (df ag))) (df (PE.imp (aD G_v (hr.mono Ym) rfl T.F_v (aa (dv 18) (aa (dv 16) aj))) aK)) rfl)) (df (qR (cX iG cq (df (dv 6)) (df (dv 16)) (aE _)) (jV (qS (cX kq lY (df (dv 15)) (df eO) (aE _)) (jV (cX mT cq (df (dv 16)) (df (dv 15)) (aE _))))))) (aE _))
    case B0=>refine' ax (bb qO)
   case' Ar=>refine' ax ?B1
   case' B1=>refine' bb ?B2
   case B2=>exact(qS (cX kq lY (df (dv 15)) (df eO) (aE _)) (qS (cX (fM hr.units) fN (df (dv 15)) (df (dv 6)) (aE _)) (jV (qR (cX (tH hr) ny (df (ao aS aT (df (dv 4)) (df ag))) (df (PE.imp (aD G_v (hr.mono Ym) rfl T.F_v (aa (dv 18) (aa (aw cP bf (df (dv 15)) (df ag)) aj))) aK)) rfl) (jV (cX (wO hr) ny (df (ao aS aT (df (dv 4)) (df ag))) (df (PE.imp (aD G_v (hr.mono Ym) rfl T.F_v (aa (dv 18) (aa (dv 15) aj))) aK)) rfl))))))
  case B=>
  clear hr T G_x G_y G_AC G_AD G_AB G_AE G_t G_v G_V;generalize hB:fB (gr 14 _) _=TB;generalize hA:fB (gr 9 _) _=TA;generalize hE:d8.mk _ _ _ _=EE;have eR:=congrArg d8.rt hE;simp only at eR;clear hE;have key:∀(a:au)(x8:Int)(v0 v2 v3 v5 v7 v8 v9:Ys)(xs:List Ys),a.Ok->atI xs 8=some (.int x8)->TB EE [some (.v v0),some (.v (.list xs)),some (.v v2),some (.v v3),some (.v (.list (a.n.l.map .str))),some (.v v5),some (.v (.int a.come)),some (.v v7),some (.v v8),some (.v v9),some (.v (.list (a.ls.map De.enc))),some (.o ((.pap a.p0:: .pap a.p1::a.r8::a.kl).map De.enc)),some (.v (.int a.B)),some (.v (.int a.T)),none,none,none,none,none,none]:=by
   intro a x8 v0 v2 v3 v5 v7 v8 v9 xs o ex8;subst hB;generalize hC:fB (gr 17 _) _=TC;walk_at "h";have ll:=o.ll;have lm:(Sb De.enc a.ls).length=a.ls.length:=Q8 _;have eM:Unit->(if a.T > a.B then a.T else a.B)=max a.B a.T:=λ_=>by split <;> omega
   refine⟨Yn,jE (λ_=>true) (λx:De=>.int x.d) (λx hx R S h1 _=>?_) ?_⟩
   ·cases x <;> simp only [De.enc,Pp.enc] <;> walk_at "h" <;> exact h1 rfl
   rw [ik,eM ()];refine⟨by rw [Q8];omega,a.ls.map De.d++[a.B,max a.B a.T],by rw [RH,RB];rfl,by rw [Rv,Q8];show _+2 < 4000;omega,UQ (HE _ _) (by rw [Rv,Q8];show 0+(_+2) < 64;omega),λcs hm hs=>?_⟩;have wq:=QT o hm hs;refine⟨λi δ=>∃o16:Option Sl,δ=[some (.v v0),some (.v (.list xs)),some (.v v2),some (.v v3),some (.v (.list (a.n.l.map .str))),some (.v v5),some (.v (.int a.come)),some (.v v7),some (.v v8),some (.v v9),some (.v (.list (a.ls.map De.enc))),some (.o ((De.pap a.p0).enc::(De.pap a.p1).enc::a.r8.enc::Sb De.enc a.kl)),some (.v (.int a.B)),some (.v (.int a.T)),some (.v (.list (a.ls.map λx=>.int x.d))),some (.v (bp ((cs.take i).find? a.okB))),o16,none,none,none],⟨none,rfl⟩,?_,?_⟩
   ·rintro i z δ hz ⟨o16,rfl⟩;rw [Rt] at hz;cases hz':cs[i]? with
    | none=>rw [hz'] at hz;cases hz
    | some d=>
     rw [hz'] at hz;cases hz;have tk:(cs.take (i+1)).find? a.okB=((cs.take i).find? a.okB).or (if a.okB d=true then some d else none):=by
      rw [R4,hz',Wi];congr 1;show List.find? a.okB [d]=_;rw [R7];cases a.okB d <;> rfl
     walk_at "h";simp only [tk];rw [eM ()];cases hf:(cs.take i).find? a.okB with
     | some m=>
      rw [Yo (by simp [dQ,bp])];exact⟨rfl,_,rfl⟩
     | none=>
      rw [Yp (by rfl)];by_cases hM:max a.B a.T<=d
      ·rw [Yp hM];refine HI o d λly=>⟨ly.shp Ym,Ym,?_⟩;by_cases hh:cG a.bs d=[]
       ·have ok:a.okB d=true:=mQ.mpr (by
         obtain⟨h1,h2,h3,h4⟩:=(vv o d).mp hM;exact⟨h1,h2,h3,h4,hh⟩)
        rw [hh,Yp (by rfl),ok];exact⟨rfl,_,rfl⟩
       ·have nok:a.okB d=false:=by rw [<-Ud,mQ];exact λz=>hh z.2.2.2.2
        rw [Yo (by cases e:cG a.bs d with | nil=>exact absurd e hh | cons x l=>simp [RC,S5]),nok];exact⟨rfl,_,rfl⟩
      ·have nok:a.okB d=false:=by
        rw [<-Ud,mQ];exact λz=>hM ((vv o d).mpr ⟨z.1,z.2.1,z.2.2.1,z.2.2.2.1⟩)
       rw [Yo hM,nok];exact⟨rfl,_,rfl⟩
   ·rintro δ ⟨o16,rfl⟩;rw [Q8,RM (Rf _),wq];subst hC;generalize hD:fB _ (jl _)=TD;walk_at "h";refine⟨_,ex8,x8,rfl,?_⟩;have kl1:a.kl.length<=1:=by unfold au.kl;rw [Q8];cases a.kp <;> simp
    have eb:(De.pap a.p0).enc::(De.pap a.p1).enc::a.r8.enc::(Sb De.enc a.kl++Sb De.enc a.ls)=a.bs.map De.enc:=by unfold au.bs;rw [Rb,Rb,Rb,RH]
    have bl:=Hv o;rw [eb];obtain⟨tn,ht⟩:=SK (R5 x8 (show(7:Int)≠0 by decide));have t7:=RT x8 (show(0:Int) < 7 by decide);rw [ht] at t7⊢;rw [QV,QU,<-RH];have pm:(a.bs.drop tn++a.bs.take tn).Perm a.bs:=by
     have:=List.perm_append_comm (l₁:=a.bs.drop tn) (l₂:=a.bs.take tn)
     rwa [U3] at this
    have pl:=pm.length_eq;generalize a.bs.drop tn++a.bs.take tn=ys at pm pl⊢;have g:=(jb o).perm pm;have fw:=(QI o).perm (jb o) pm;refine⟨by rw [Q8,Q8];omega,by rw [Q8,Q8];omega,by rw [Q8,Q8,Va,Sg];omega,ys,rfl,g,fw,_,rfl,?_⟩;rw [Hf (jb o) pm,HA o];have n01:a.n.n1≠a.n.n0:=jO o.nd (i:=1) (j:=0) rfl rfl Ym;refine⟨by show 2<=16777216;decide,jE (λ_=>true) (λp:Pl=>.tuple [.str p.nm,bp p.d]) (λp hp R S h1 _=>?_) ?_⟩
    ·simp only [Pl.enc];walk_at "h";exact h1 rfl
    have f1:([((R9 a.n.n1:ah),Tq),(R9 a.n.n0,bp a.went)]).foldl (λm p=>dh m p.1 p.2) []=[(R9 a.n.n1,Tq),(R9 a.n.n0,bp a.went)]:=by
     simp [dh,n01]
    have f2:([((R9 a.n.n0:ah),bp a.went),(R9 a.n.n1,Tq)]).foldl (λm p=>dh m p.1 p.2) []=[(R9 a.n.n0,bp a.went),(R9 a.n.n1,Tq)]:=by
     simp [dh,Ne.symm n01]
    refine⟨[(R9 a.n.n1,.none),(R9 a.n.n0,bp a.went)],rfl,[a.n.n1,a.n.n0],by rw [f1];rfl,_,rfl,_,rfl,[(R9 a.n.n0,bp a.went),(R9 a.n.n1,.none)],rfl,by show 2<=15;decide,?_,[a.n.n0,a.n.n1],by rw [f2];rfl,a.n.n1,a.n.n0,none,a.went,by rw [f1,vw,vw];rfl,by rw [f2,vw,vw];rfl,?_⟩
    ·intro p hp;simp only [Rh,Sj,or_false] at hp;rcases hp with rfl | rfl
     ·cases a.went <;> rfl
     ·rfl
    rw [f1];subst hD;walk_at "h";have fl:=R1 (λx:De=>decide (0 < x.d)) a.ls;refine⟨by rw [Q8];omega,cT (enc:=λx:De=>Rg x.d) (λx=>decide (0 < x.d)) (λx=>.int (x.d - 1)) (λx hx R S h=>?_) ?_⟩
    ·walk_at "h";simpa using h
    refine⟨by rw [Q8,Q8];omega,by rw [Rv,Q8,Q8];omega,?_⟩;have el:∀z∈Sb (λx:De=>Rg x.d) a.ls++Sb (λx:De=>Rg (x.d - 1)) (Tr (λx:De=>decide (0 < x.d)) a.ls)++[Rg a.B],∃d,z= .int d:=λz hz=>by
     rcases Ry.mp hz with hz | hz
     ·rcases Ry.mp hz with hz | hz <;> obtain⟨x,_,rfl⟩:=Rj.mp hz <;> exact⟨_,rfl⟩
     ·exact⟨_,RF.mp hz⟩
    generalize Sb (λx:De=>Rg x.d) a.ls++Sb (λx:De=>Rg (x.d - 1)) (Tr (λx:De=>decide (0 < x.d)) a.ls)++[Rg a.B]=dl at el⊢;generalize hR:jl _=TR;have m0:a.p0∈ay ys:=(A1 pm).mem_iff.mpr (by rw [vk o];exact RD);have s0:Rz a.n.n0=true:=o.st (by unfold bM.l;simp);have cov:∀(d:Int){R:Ys->Prop},R (.tuple (((cG a.bs d).map (·.nm)).map .str))->Hr [.tuple (ys.map De.enc),.int d,.str a.n.n0] R:=λd R h=>by
     refine⟨ys,d,a.p0,rfl,g,m0,?_⟩;rw [He (jb o) pm,Ha (jb o) pm,Hw o];exact h
    have thr:∀(d:Int){R:Ys->Prop},(cL 2 (.tuple ((jN a.bs d).map .str))->R (.tuple ((jN a.bs d).map .str)))->F_v [.tuple (ys.map De.enc),.int d] R:=λd R h=>by
     refine⟨ys,d,rfl,g,fw,?_⟩;rw [P5 (jb o) pm];exact h (js (tI λz hz=>by
      obtain⟨c,hc,rfl⟩:=Rj.mp (RK.mp hz).1;exact(jb o).gd.gx.gp.nm c (ke.mp (RK.mp hc).1)))
    refine⟨λi δ=>∃o16:Option Sl,δ=[some (.v v0),some (.v (.list xs)),some (.v v2),some (.v v3),some (.v (.list (a.n.l.map .str))),some (.v v5),some (.v (.int a.come)),some (.v v7),some (.v v8),some (.v v9),some (.v (.list (a.ls.map De.enc))),some (.o ((De.pap a.p0).enc::(De.pap a.p1).enc::a.r8.enc::Sb De.enc a.kl)),some (.v (.int a.B)),some (.v (.int a.T)),some (.v (.list (a.ls.map λx=>.int x.d))),some (.v (bp a.went)),o16,some (.v (.int tn)),some (.v (.tuple (ys.map De.enc))),some (.v (dS [a.n.n1,a.n.n0] [Tq,bp a.went]))],⟨_,rfl⟩,?_,?_⟩
    ·rintro i z δ hz ⟨o16,rfl⟩;obtain⟨d,rfl⟩:=el z (RN hz);clear hR;walk_at "h";refine⟨_,rfl,cov d (HI o d λly=>⟨ly.shp Ym,ly.shp Ym,?_⟩)⟩;rw [HG _ ly.can,Yo Ym];refine⟨_,rfl,thr d λly2=>⟨_,.inr rfl,c7.mpr s0,by simpa [R3] using ly2.can,?_⟩⟩;rw [uW];have tb:=A9 o d;by_cases h0:a.come<=d
     ·rw [Yp h0];cases hw:a.went with
      | none=>
       rw [Yp (by rfl),decide_eq_true (tb.mpr ⟨h0,.inl hw⟩),Yo Ym];exact⟨_,rfl⟩
      | some m=>
       rw [Yo (by simp [dQ,bp])];refine⟨m,rfl,?_⟩;have e:decide (a.n.n0∈jN a.bs d)=decide (d < m):=by
        rw [decide_eq_decide,tb,hw];constructor
        ·rintro⟨_,h | ⟨m',h,h'⟩⟩
         ·cases h
         ·cases h;exact h'
        ·exact λh=>⟨h0,.inr ⟨m,rfl,h⟩⟩
       rw [e,Yo Yr];exact⟨_,rfl⟩
     ·rw [Yo h0,decide_eq_false (λz=>h0 (tb.mp z).1),Yo Ym];exact⟨_,rfl⟩
    ·rintro δ ⟨o16,rfl⟩;subst hR;walk_at "h";have qr:EE.rt (.bool true):=by rw [<-eR];exact q
     cases hw:a.went with
     | none=>rw [Yp (by rfl)];exact qr
     | some m=>
      have wm:a.come<=m:=(mQ.mp (VU hw)).1;rw [Yo (by simp [dQ,bp])];refine⟨j0,?_⟩;by_cases hc:m=a.come
      ·rw [hc,Yp (by simp [RC,bp])];exact qr
      ·rw [Yo (by simp [RC,bp,hc])];refine⟨_,rfl,m,rfl,thr (m - 1) λly2=>⟨_,.inr rfl,c7.mpr s0,by simpa [R3] using ly2.can,?_⟩⟩;rw [uW,Yp (decide_eq_true ((A9 o (m - 1)).mpr ⟨Yn,.inr ⟨m,hw,Yn⟩⟩))];refine⟨_,rfl,thr m λly3=>⟨_,.inr rfl,c7.mpr s0,by simpa [R3] using ly3.can,?_⟩⟩;rw [uW,decide_eq_false (λz=>?_)]
       ·exact qr
       ·rcases((A9 o m).mp z).2 with h | ⟨m',h,h'⟩
        ·rw [hw] at h;cases h
        ·rw [hw] at h;cases h;omega
  walk_at "h";refine⟨c,12,rfl,Ym,Ym,λxs xl xn=>⟨c / 7+3,16,rfl,Ym,Ym,λys yl yn=>⟨c / 11+5,12,rfl,Ym,Ym,λzs zl zn=>⟨zs,rfl,Yn,zn,λss sl so nd=>?_⟩⟩⟩⟩;obtain⟨n,rfl⟩:=QS sl;obtain⟨x0,x1,x2,x3,x4,x5,x6,x7,x8,x9,x10,x11,rfl⟩:=A4 (ns:=xs) Yn;clear zl zn sl xl xn yn;simp only [Rb,RX];walk_at "h";have f01:x0 % 2=0\/x0 % 2=1:=Yn
  obtain⟨q1,eq1,q10,q11⟩:∃q:Int,atI [Rg 30,Rg 900] (x0 % 2)=some (.int q)/\0 < q/\q<=900:=by
   rcases f01 with h | h <;> rw [h]
   ·exact⟨30,rfl,Ym,Ym⟩
   ·exact⟨900,rfl,Ym,Ym⟩
  obtain⟨q2,eq2,q20⟩:∃q:Int,atI [Rg 1,Rg 3] (x0 % 2)=some (.int q)/\(q=1\/q=3):=by
   rcases f01 with h | h <;> rw [h]
   ·exact⟨1,rfl,.inl rfl⟩
   ·exact⟨3,rfl,.inr rfl⟩
  obtain⟨u,eu,hu⟩:∃u:Str,atI [Ra (Q6 "days"),Ra (Q6 "months"),Ra (Q6 "years")] (x4 % q2)=some (.str u)/\mG u:=by
   have b0:0<=x4 % q2:=R5 _ Yn;have b1:x4 % q2 < q2:=RT _ Yn;generalize x4 % q2=m at*;have:m=0\/m=1\/m=2:=Yn
   rcases this with rfl | rfl | rfl
   ·exact⟨_,rfl,.inl rfl⟩
   ·exact⟨_,rfl,.inr (.inl rfl)⟩
   ·exact⟨_,rfl,.inr (.inr rfl)⟩
  refine⟨_,_,rfl,f01,λi i0 i1=>⟨_,rfl,_,_,rfl,f01,λfr f0 f1=>⟨_,eq1,q1,rfl,q10,?_⟩⟩⟩;subst hA;walk_at "h";refine⟨_,eq2,q2,rfl,Yn,_,eu,n,ys,x0 % 2,rfl,Yn,f01,nd,so,λls hl pw ll=>⟨_,rfl,_,rfl,_,rfl,_,rfl,_,_,rfl,f01,λe e0 e1=>⟨_,rfl,Yn,_,rfl,_,rfl,_,rfl,_,rfl,i+1,x3 % q1,u,rfl,hu,Yn,_,rfl,_,rfl,x6,rfl,?_⟩⟩⟩;have c1:1<=i+1/\i+1<=60000:=⟨Yn,Yn⟩;clear f01 eq1 eq2 eu;have b0:0<=e % (i+1):=R5 _ Yn;have b1:e % (i+1) < i+1:=RT _ Yn;have b2:0<=x3 % q1:=R5 _ (Int.ne_of_gt q10);have b3:x3 % q1 < 1000:=Int.lt_of_lt_of_le (RT _ q10) (Xk q11 Ym);have b4:0<=x7 % 1000:=R5 _ Ym;have b5:x7 % 1000 < 1000:=RT _ Ym;split
  ·exact⟨_,rfl,_,rfl,_,rfl,x7,rfl,_,rfl,x7,rfl,key ⟨n,i+1,fr,e % (i+1),x3 % q1,u,some (x7 % 1000),ls⟩ x8 _ _ _ _ _ _ _ _ ⟨nd,so,c1,⟨f0,f1⟩,⟨b0,b1⟩,⟨b2,b3⟩,hu,λK hK=>by cases hK;exact⟨b4,b5⟩,hl,pw,ll⟩ rfl⟩
  ·exact key ⟨n,i+1,fr,e % (i+1),x3 % q1,u,none,ls⟩ x8 _ _ _ _ _ _ _ _ ⟨nd,so,c1,⟨f0,f1⟩,⟨b0,b1⟩,⟨b2,b3⟩,hu,λK hK=>(by cases hK),hl,pw,ll⟩ rfl
def F_AG:List Ys->(Ys->Prop)->Prop:=λds Q=>∃ns:List Int,ds=[jj (ns.map .int)]/\ns.length<=63/\(∀z∈ns,SY z<=1048576)/\Q (.bool true)
def sp_law(K:Q7):Sp:=aU K F_AG
theorem start_law{K:Q7}{H:Hp}{a:Yu}{ns:List Int}(hl:ns.length<=63)(hb:∀z∈ns,SY z<=1048576)(hS:bq K H a (ns.map V.int)):sp_law K [.ref a] H (λv _=>v= .bl true) λ_ _ _=>False:=
 ⟨λ_=>False,[jj (ns.map .int)],λd=>d= .bool true,λ_ z=>z.elim,.cons (.scr (by
  rcases hS with h | h
  ·exact .inl ⟨h,λz=>z⟩
  ·exact .inr (.inr h)) (ak.ints ns)) .nil,⟨ns,rfl,hl,hb,rfl⟩,λd v H' e _ r=>by subst e;cases r;rfl⟩
theorem ok_law(T:Txt K mg t):aB P w K mg base CX0 20 t.a_AG t.d_AG ["_law_script"] (sp_law K):=by
 have G_w:=@P8 P w _ _ base _ T;have G_AF:=@QY P w _ _ base _ T;refine T.F_AG.F.okD EV (λds Q h=>?_) (λ_ _ _ _ H O ds Q E hr h=>?_)
 ·obtain⟨ns,rfl,_⟩:=h;rfl
 ·obtain⟨ns,rfl,nl,_,q⟩:=h;refine'⟨_,?A,?B⟩
  case A=>
   refine' aq ?C ?D
   case C=>
    refine' iR RU rfl (fe (mZ (df (fe (cn (aa (PE.imp (aD G_w (hr.mono Ym) rfl T.F_w (aa (dv 0) (aa ag aj))) aK) aj)))) (df (fe (Dh (df (dv 0)) (iS ag) (iS ag)))))) ?E aL ?F
    case E=>exact(aI (i:=1) EV.nd rfl Yq)
    case' F=>refine' ax ?G
    case' G=>refine' bR ?H ?I bQ
    case H=>exact(wt (mX (PE.imp (aD G_AF (hr.mono Ym) rfl T.F_AF (aa (dv 1) aj)) aK)))
    case I=>refine' ax (bb qO)
   case D=>refine' ax (bb qO)
  case B=>
  clear hr T G_w G_AF;walk_at "h";refine⟨ns,0,rfl,Ym,Ym,λc=>⟨_,rfl,?_,λi δ=>∃o1:Option Sl,δ=[some (Sl.v (jj (Sb Rg ns))),o1],⟨_,rfl⟩,?_,?_⟩⟩
  ·unfold eQ;rw [Sg,Va,Q8];omega
  ·rintro i z δ hz ⟨o1,rfl⟩;have:∃d,z= .int d:=by
    rcases Rh.mp (RN hz) with e | e
    ·exact⟨_,e⟩
    ·exact Hj e
   obtain⟨d,rfl⟩:=this;walk_at "h";refine⟨d,rfl,true,rfl,?_⟩;rw [Yo Ym];exact⟨_,rfl⟩
  ·rintro δ ⟨o1,rfl⟩;walk_at "h";exact q
end
end K68
namespace PySem.W.Fast
def tw14691238900972427835:=0
def tw6006359144074041059:=0
def tw5747525445932136862:=0
def tw2781663866569905607:=0
def tw1972354101485631666:=0
def tw17174417521267019838:=0
def tw18431851333716799007:=0
def tw10192365666813728914:=0
def tw6951231811708053641:=0
def tw3508019856972633274:=0
def tw13237574609784381882:=0
def tw11419860405801989481:=0
def tw11005442680579394583:=0
def tw10074856660472217928:=0
def tw13011129467356574259:=0
def tw9532179512372792728:=0
def tw17992674429372435994:=0
def tw13924499339566984126:=0
def tw17156792634414260328:=0
def tw8843034303042455442:=0
def tw7017606483214413686:=0
def tw10388611711417259987:=0
def tw5318458218132325175:=0
def tw16367888805864462001:=0
def tw14293351943736149096:=0
def tw3704933866520320575:=0
def tw1807601180351717744:=0
def tw3442634989196985115:=0
def tw13621967705279726259:=0
def tw5999967064562422977:=0
def tw13907629552308662586:=0
def tw5852415839896549346:=0
def tw9998736820800641742:=0
def tw16868862389826202446:=0
def tw13275164443795196591:=0
def tw1837820735302267036:=0
def tw17346344658240776409:=0
def tw14955321116295678441:=0
def tw4956779537783525461:=0
def tw10154777072297503111:=0
def tw14684319329903946920:=0
def tw14011638871937399652:=0
def tw8562337768092491630:=0
def tw6779962995642353461:=0
def tw11017812567797684071:=0
def tw16261675314851494899:=0
def tw2155504898383959347:=0
def tw1549732193587899483:=0
def tw1838264202408105238:=0
def tw6845851613186639446:=0
def tw13981896589054675379:=0
def tw18238232575767809697:=0
def tw7340278303190398643:=0
def tw6981736703251305741:=0
def tw15775538795486288828:=0
def tw12399297088714255140:=0
def tw1540253573692694874:=0
def tw10707207104676538688:=0
def tw2401379635618151511:=0
def tw7885897729001797883:=0
def tw8967952835460210164:=0
def tw12991397272739586624:=0
def tw5130589005920767994:=0
def tw6849243289654981416:=0
def tw2181983244549942566:=0
def tw14517326665280970960:=0
def tw3950635006603477944:=0
def tw15789212684715543648:=0
def tw4195653909525967555:=0
def tw13797102902335811905:=0
def tw12729267958186720558:=0
def tw10552060389079304327:=0
def tw5412024126092114448:=0
def tw11924073495406848960:=0
def tw8626238286888041386:=0
def tw11891238084830455370:=0
def tw13441153274954788310:=0
def tw10371040279999338565:=0
def tw11654223866920335024:=0
def tw4672886699804137014:=0
def tw9092303463377931480:=0
def tw18017053374033703684:=0
def tw986162514152424997:=0
def tw2120914834162094628:=0
def tw9485635318217732125:=0
def tw7060552074029468142:=0
def tw7727198298795505116:=0
def tw15978392145339568059:=0
def tw1629860448015316999:=0
def tw889192343781225943:=0
def tw14277772174308657679:=0
def tw1384882532990879314:=0
def tw9934512225097665653:=0
def tw11838737153870638679:=0
def tw15905537575910104250:=0
def tw13744011610316066382:=0
def tw11559085975538562285:=0
def tw12922161971986993854:=0
def tw5875730502331883487:=0
def tw12384373384892118791:=0
def tw5006402013766097246:=0
def tw8641741131502338935:=0
def tw7262731169098868947:=0
def tw840916618785499799:=0
def tw10226445689122942688:=0
def tw10408517413074781623:=0
def tw7454185113564840870:=0
def tw1046876138743550911:=0
def tw16551226994204281751:=0
def tw17722637242853860799:=0
def tw15138733678503003212:=0
def tw18404001530501667441:=0
def tw919027675852787134:=0
def tw4319428227875445439:=0
def tw7033306293067407546:=0
def tw9333711101473504421:=0
def tw3423010129981331190:=0
def tw12348988317364593448:=0
def tw12235970254449021588:=0
def tw17187259906073849323:=0
def tw12995064896229137007:=0
def tw10167792974290605428:=0
def tw14902883045235938898:=0
def tw15120118764163142984:=0
def tw10066786273615483217:=0
def tw8279333048564161024:=0
def tw13923519869380158652:=0
def tw16762234544294481865:=0
def tw15346851781093323109:=0
def tw5033073742795946003:=0
def tw13338013657831570599:=0
def tw3967086841299926862:=0
def tw4195345592504377976:=0
def tw6444782003707602439:=0
def tw2928213034120997367:=0
def tw2397637212085674432:=0
def tw12457484575685391985:=0
def tw2736150829355503272:=0
def tw16495507288666109156:=0
def tw4582053776602400385:=0
def tw15580728436218964475:=0
def tw13052723576897669469:=0
def tw9409136618313913233:=0
def tw2522833010212112301:=0
def tw18008367308581082970:=0
def tw15004011718446267136:=0
def tw17992042921159543727:=0
def tw3619996799018292785:=0
def tw5784537712671338831:=0
def tw5211603618324875228:=0
def tw3540950829645934863:=0
def tw8559089700118343606:=0
def tw4586253548882400803:=0
def tw5073477945873313533:=0
def tw8066875221644588460:=0
def tw1739803024894574346:=0
def tw8924479129980209399:=0
def tw6314036023062743919:=0
def tw12007204082578079244:=0
def tw12069268326347337261:=0
def tw12213188556338026688:=0
def tw9817069216654197758:=0
def tw9384155730378704581:=0
def tw11626451874987535376:=0
def tw1029198357355204778:=0
def tw17137869476911976287:=0
def tw8083420552912605935:=0
def tw8944331558603578187:=0
def tw9529084877678811130:=0
def tw4730739335741304295:=0
def tw12106009034080933678:=0
def tw640325875638271503:=0
def tw1832051557722458014:=0
def tw16313915970674126343:=0
def tw12173992501915822591:=0
def tw16912730026762093532:=0
def tw4663489688904286441:=0
def tw10495795212175405611:=0
def tw10616074847111500454:=0
def tw1154112821405282090:=0
def tw17802989834111939187:=0
def tw12963279567259930374:=0
def tw15822126356292651461:=0
def tw7111497078819405434:=0
def tw3816143935671038429:=0
def tw18209899734094169809:=0
def tw12690799283451208385:=0
def tw9767021544187701710:=0
def tw3450809846848689217:=0
def tw10063646872597965972:=0
def tw7718857700793939707:=0
def tw11188471011106051777:=0
def tw9702280064842387206:=0
def tw6742022426693958675:=0
def tw6577042838853994444:=0
def tw2538297021907711858:=0
def tw10700502978515605778:=0
def tw8165356099310967219:=0
def tw1833601137296635457:=0
def tw14242703413075238001:=0
def tw15894379988687612860:=0
def tw5225520924429152305:=0
def tw15116990570560682411:=0
def tw14885632525825553212:=0
def tw17810677901686244473:=0
def tw5228643887948242636:=0
def tw3861202344075830975:=0
def tw3802029430411190998:=0
def tw16384573665053557865:=0
def tw14138891496742673834:=0
def tw4231214627103506486:=0
def tw6351468206881192240:=0
def tw13998096165596615594:=0
def tw1266798615888641519:=0
def tw14729214335276517565:=0
def tw7740332938503319683:=0
def tw11417066258396210963:=0
def tw3956281672867046793:=0
def tw9310051031229963412:=0
def tw14160517037266761116:=0
def tw764092090655534798:=0
def tw15239457272950061955:=0
def tw12316945996257699000:=0
def tw13341547678236502000:=0
def tw15832707153735544233:=0
def tw12165053734091823770:=0
def tw12992177654496556150:=0
def tw9017057763011761859:=0
def tw8643475469966545831:=0
def tw15489121856159915414:=0
def tw12829516508710774646:=0
def tw2734352811826512869:=0
def tw2929600191929961952:=0
def tw3531666809230815644:=0
def tw2750058780108948012:=0
def tw7310731183390545515:=0
def tw6789282781094281946:=0
def tw3669025778288025775:=0
def tw13663650935246811634:=0
def tw2011869803774247892:=0
def tw10601237625317171401:=0
def tw8724991796317982017:=0
def tw6853500806689739566:=0
def tw12669347009539436829:=0
def tw5812539704293481796:=0
def tw13245355076877018884:=0
def tw3699717328783372532:=0
def tw17390471203823642585:=0
def tw7039099674660136272:=0
def tw18086436746310636923:=0
def tw16262566042905492440:=0
def tw864455992092291868:=0
def tw3802076942580454814:=0
def tw14374974519125374928:=0
def tw1302825702881090079:=0
def tw1063515048198800492:=0
def tw5086380171376201147:=0
def tw3124586380684858368:=0
def tw711579603215606563:=0
def tw5233102266026677094:=0
def tw3188783788599309492:=0
def tw14064721516078584481:=0
def tw12707098896200884875:=0
def tw7852430168008999089:=0
def tw16981979040975288315:=0
def tw13540173750929705150:=0
def tw12035508715502979747:=0
def tw14941481540644316450:=0
def tw8787278883717601407:=0
def tw7232005845748146744:=0
def tw17449444088445344995:=0
def tw66757215640572226:=0
def tw4047340154445837593:=0
def tw7277252911412236736:=0
def tw8426653237599805189:=0
def tw14565706134830797076:=0
def tw14241928476106473768:=0
def tw12174543231283731824:=0
def tw7440701656774986402:=0
def tw6405506373786910882:=0
def tw9071284338273717133:=0
def tw7897538769989472495:=0
def tw6084640993525351496:=0
def tw5192117280688197285:=0
def tw12412600891256793470:=0
def tw10287531046864354221:=0
def tw8477069909520865542:=0
def tw4365810937727841065:=0
def tw17501227338233865827:=0
def tw16968991554980173985:=0
def tw16866417068427322173:=0
def tw9202348087861588011:=0
def tw17114468453966062319:=0
def tw721561028110526529:=0
def tw2080730604669649222:=0
def tw2051886311710092149:=0
def tw15468768142878900150:=0
def tw10661065387116988357:=0
def tw9959259820140820585:=0
def tw9958572010494234661:=0
def tw9867407594742015592:=0
def tw9413200902800710499:=0
def tw9399663509403513018:=0
def tw9314169837963315002:=0
def tw9257731180560754604:=0
def tw9167092803403945350:=0
def tw9141033804985147365:=0
def tw9063505169186800784:=0
def tw8223157689385326185:=0
def tw8058942091073634382:=0
def tw8043850938702334296:=0
def tw7951304711789988892:=0
def tw7822807941260772243:=0
def tw7679343359061077344:=0
def tw7600361571102617288:=0
def tw7396492582506081218:=0
def tw7252006953539960737:=0
def tw6698481707589024176:=0
def tw6632907922335300685:=0
def tw6530335096478340999:=0
def tw5952477626680093005:=0
def tw4956147713254757940:=0
def tw4767282492424989550:=0
def tw4463082972972447693:=0
def tw4450304348912250164:=0
def tw4115150143764781774:=0
def tw405402766277353209:=0
def tw3940950967849618423:=0
def tw3793957873054839154:=0
def tw3752706121027354742:=0
def tw3712159654730053279:=0
def tw3631992603804291386:=0
def tw3605782139533054784:=0
def tw3584334132443995502:=0
def tw3551596011057358133:=0
def tw3281466398239124519:=0
def tw3103386387510028262:=0
def tw2694631489139185399:=0
def tw2568043732172122057:=0
def tw2473642588224447475:=0
def tw2333405588588695595:=0
def tw2290634721132334157:=0
def tw2270571339377924760:=0
def tw2002319337240906918:=0
def tw1986207899647797313:=0
def tw1965426356533849148:=0
def tw1898477058569013402:=0
def tw18353539028072183704:=0
def tw18230639119738064259:=0
def tw18168314875038555571:=0
def tw18027390875204886627:=0
def tw17845228461701864612:=0
def tw17733813778718136131:=0
def tw17534008993948118174:=0
def tw17516015788087622833:=0
def tw17222468127352111078:=0
def tw17111674699419484766:=0
def tw17109813178933860224:=0
def tw16592852769329580966:=0
def tw16421723906179208456:=0
def tw16257933316569356236:=0
def tw15830463380042174406:=0
def tw15656190574566182503:=0
def tw15603318240843860032:=0
def tw15593018000090667789:=0
def tw15443056864633432448:=0
def tw15341325896443613367:=0
def tw15039076830954183792:=0
def tw15009712168025326270:=0
def tw14908954959224042594:=0
def tw14902563771880746725:=0
def tw14843176101848280603:=0
def tw14782557745458283875:=0
def tw1430326608805277343:=0
def tw14298885308736173165:=0
def tw14211925058514673916:=0
def tw14208128385155102869:=0
def tw13788591933214127497:=0
def tw13497813755286018538:=0
def tw13093071876325873993:=0
def tw1298785955964461095:=0
def tw12853938975517267599:=0
def tw12589716935140631500:=0
def tw12446957004664964867:=0
def tw12385947678670417166:=0
def tw12115706803264484495:=0
def tw11671555634009669461:=0
def tw11643328806761877339:=0
def tw11591994503112771659:=0
def tw11535556962673891478:=0
def tw10997000503106593701:=0
def tw10980255412797430741:=0
def tw10924893365359694995:=0
def tw10919334286003954504:=0
def tw10657592674144228489:=0
def tw10398361881181148025:=0
def tw10362497549026476149:=0
def tw10224879188688018478:=0
end PySem.W.Fast
open PySem PySem.W PyProof.Rows
local macro_rules | `(tactic| walk_at "f")=>`(tactic| (refine' L2.DfT.of ?a ?l ?c ?k;(case a=>k_is);(case l=>k_is);(case c=>k_is);(case k=>k_is)))
local macro_rules | `(tactic| walk_at "m")=>`(tactic| (refine' L2.DmT.of ?a ?i ?l ?c ?k;(case a=>k_is);(case i=>k_is);(case l=>k_is);(case c=>k_is);(case k=>k_is)))
local macro_rules | `(tactic| walk_at "c")=>`(tactic| (refine'⟨⟨?a,?i,?l,?c⟩,?m,?k⟩;(case a=>k_is);(case i=>k_is);(case l=>k_is);(case c=>k_is);(case m=>k_is);(case k=>k_is)))
set_option maxRecDepth 100000 in
theorem PySem.Challenge.cw_goneday_k68_whole_holds_laid_and_lifted_holds : PySem.Challenge.rw_goneday_k68_whole_holds_laid_and_lifted.Holds := by
 w_on;o_law;k_head;(case hw=>w_witness2)
 k_fill
 refine L2.walk_ofBK (l:=PySem.Challenge.rw_goneday_k68_whole_holds_laid_and_lifted) (n:=63) (k:=20) (x:="_law_script") (CX:=L2.CX0) (sp:=K68.sp_law) rfl Ym rfl ⟨rfl,Ym,Ym⟩ (λw h Y=>PySem.W.kIn_of Y) ?F ?S ?C
 case F=>
  intro w mg fa h KX G hmg;have T:∃t,K68.Txt (L2.KOf KX) mg t:=by
   dsimp only [L2.KOf];refine' K68.txt_mk KX G ?za ?zb ?zc ?zd ?ze ?zf ?zg ?zh ?zi ?zj ?zk ?zl ?zm ?zn ?zo ?zp ?zq ?zr ?zs ?zt ?zu ?zv ?zw ?zx ?zy ?zz ?zA ?zB ?zC ?zD ?zE ?zF ?zG ?zH ?zI ?zJ ?zK ?zL ?zM ?zN ?zO ?zP ?zQ ?zR ?zS ?zT ?zU ?zV ?zW ?zX ?zY ?zZ ?ya ?yb ?yc ?yd ?ye ?yf ?yg ?yh ?yi ?yj ?yk ?yl ?ym ?yn ?yo ?yp ?yq ?yr ?ys ?yt ?yu ?yv ?yw ?yx ?yy ?yz ?yA ?yB ?yC ?yD ?yE ?yF ?yG ?yH ?yI ?yJ ?yK ?yL ?yM ?yN ?yO ?yP ?yQ ?yR ?yS ?yT ?yU ?yV ?yW ?yX ?yY ?yZ ?xa ?xb
   (case za | zb | zc | zd | ze | zf | zg | zh | zj | zk | zl | zm | zn | zo | zp | zq | zr | zs | zt | zu | zv | zw | zx | zy | zz | zA | zB | zC | zD | zE | zF | zG | zO | zP | zQ | zR | zS | zT | zU | zV | zW | zX | zY | zZ | ya | yb | yc | yd | ye | yf | yg=>walk_at "f")
   (case yh | yi=>k_is)
   (case yj=>first | (repeat (first | exact .nil | refine .cons ⟨_,rfl⟩ ?_)))
   (case yk=>decide)
   (case yl=>k_is)
   (case ym=>exact⟨_,rfl⟩)
   (case yn=>k_is)
   (case yo=>exact⟨_,rfl⟩)
   (case yp=>k_is)
   (case yq=>exact⟨_,rfl⟩)
   (case yr | ys | yt | yu=>k_is)
   (case yv=>walk_at "c")
   (case yw | yx | yy | yz | yA=>unfold L2.NoAttr;k_is)
   (case yB=>walk_at "c")
   (case yC | yD | yE | yF | yG | yH=>unfold L2.NoAttr;k_is)
   (case yI=>walk_at "c")
   (case yJ | yK | yL | yM | yN | yO=>unfold L2.NoAttr;k_is)
   (case yP | yQ | yR | yS | yT | yU | yV | yW | yX | yY | yZ | xa | xb=>k_is)
   (case zi | zH | zI | zJ | zK | zL | zM | zN=>walk_at "m")
  obtain⟨t,T⟩:=T;have e0:=hmg.symm.trans T.F_AG.m;cases e0;exact⟨t.d_AG,T.bt_AG,λbase kb nb=>K68.ok_law T⟩
 case S=>exact λK H a ns hl hb hO hS=>K68.start_law hl hb hS
 case C=>exact λ_ _ _ _ z=>z
