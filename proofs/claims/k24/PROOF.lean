import PyProof.Rows.All
import Wide.All
import OpenK.AllK
import PySem.Challenge.RW_goneday_k24_whatever_the_order
open PySem.Str renaming ofString->QM,ofString->QP
open PySem.W renaming Frag->QN,nsIn->RS,mg_none_of->RZ,findIn->SW,keepIn->SX,emptyDict->SY,fnOf->S6,instObj->TH,mg_of->TV,methodCall_KW->UT,callWith_K->Vb,codeIn->Vj,cellsFrom_some->Vo,plainGet->Vu,isFn->Vz,plainGet_of->VF,lookIn->VI,methodObj->V3,hasDictIn->V5,takerIn->Wy,makesIn->Wz,callWith_K0->WU,plainOver->Xf,handedIn->Xr,OpenLaw->XC,WalkO->XO
open List renaming length_map->QO,map_cons->QR,mem_cons->QX,getElem?_eq_some_iff->QZ,length_cons->Q0,getElem?_map->Q1,length_append->Q2,size_toArray->Q4,mem_map->Q5,getElem?_set_ne->Q6,replicate->Q8,mem_append->Q9,mem_singleton->Ra,map_map->Rc,map_append->Rf,not_mem_nil->Rh,mem_cons_of_mem->Ri,getElem?_set_self->Rk,take_of_length_le->Rl,mem_of_getElem?->Rm,getElem?_eq_getElem->Rv,lookup_cons->Rx,length_take->RA,length_filter_le->RB,mem_cons_self->RC,append_nil->RF,mem_filter->RH,filter_cons->RI,length_nil->RJ,take_succ->RL,map_nil->RO,foldl_cons->RP,getElem?_cons_succ->RQ,mem_append_right->RR,map->RU,getElem?_append_left->RV,nil_append->RY,find?_cons->R1,cons_append->R4,any_cons->R5,pairwise_map->Sa,getElem?_append_right->Si,getElem?_cons_zero->Sj,pairwise_cons->So,nodup_cons->Sq,filterMap_cons->Ss,getElem?_eq_none->Sv,range->SE,replicate_succ->SG,set_cons_zero->SM,set_cons_succ->SN,getElem?_nil->S0,map_congr_left->S4,length_singleton->S5,getElem_mem->S8,length_drop->Ts,take_append_drop->Tz,map_take->TU,all_cons->TZ,getElem?_replicate->T1,any_eq_true->T2,filter->T6,sum_cons->Ue,flatten_cons->Ui,foldl_append->Uj,mem_of_mem_take->Us,ext_getElem->Uv,all_nil->Ux,any_nil->Uy,flatMap_append->Uz,mem_filterMap->UE,lookup->UJ,drop_of_length_le->UK,append_assoc->UO,length_range->UP,mem_append_left->UX,pairwise_append->UY,getD_eq_getElem?_getD->UZ,perm_ext_iff_of_nodup->U0,filter_sublist->U1,drop_eq_getElem_cons->U4,pairwise_iff_getElem->U9,find?_eq_none->Vd,length_filterMap_le->Vi,pairwise_singleton->Vl,getElem_inj->Vt,length_replicate->Vw,filterMap_append->Vy,any_map->VC,Nodup->VD,eq_nil_of_length_eq_zero->VE,getElem_of_mem->VG,tail_cons->VJ,length->VM,contains_cons->VQ,filter_append->VR,length_eraseIdx_of_lt->VY,map_drop->V0,any_eq_false->V4,nodup_append->V8,flatMap_cons->V9,mem_of_find?_eq_some->Wc,all_eq_true->Wk,getElem?_set_self'->Wu,length_eq_zero_iff->Wx,of_mem_zip->WA,range_succ->WB,pairwise_lt_range->WE,mem_range->WH,perm_append_comm->WN,mem_of_mem_drop->WS,getElem?_of_mem->WT,filterMap_map->W5,toArray->W9,filter_filter->Xb,append_of_mem->Xc,find?_append->Xn,not_lt->Xq,le_antisymm->Xt,map_snd_zip->Xw,take_length->Xx,mem_flatMap->Xy,foldl->Xz,forIn_cons->XA,forIn_nil->XI,take_zero->XJ,lt_trans->XS
open Nat renaming le_refl->QQ,le_trans->Rj,ne_of_lt->Rz,zero_le->RD,lt_of_lt_of_le->RX,le_succ->Sg,lt_succ_of_lt->Sk,reduceAdd->SA,reduceSub->SD,lt_succ_self->SR,lt_irrefl->SS,lt_or_ge->S7,le_of_not_lt->Tt,reduceLeDiff->Tu,le_of_lt->TJ,ne_of_gt->TK,sub_self->TM,zero_add->TN,add_zero->T8,reduceLT->T9,le_succ_of_le->UR,lt_of_le_of_lt->Vh,add_le_add->VL,eq_zero_or_pos->VO,le_of_succ_le->V7,min_le_right->Wi,succ_le_succ->Wq,mul_le_mul_left->WW,add_le_add_left->WX,le_of_eq->W2,min_eq_left->XE,lt_trans->XY,mul_succ->XZ
open PySem.Heap renaming get?_push_of_some->QS,lt_size->Q7,get?_push_size->Rb,get?_update_self->SJ,SameBut->Tp,size_push->Tw,get?_update_other->T5,ExtBut->WD,get?_update_ne->WV,get?_push_ne->Xg
open PySem.PyData renaming strOk->QT,str->QU,eqv->Rg,int->Rq,tuple->Ry,canLay0->RK,canLayAll0->Sx,list->SK,eqvAll->SV,bool->UL,none->UN,depth->UU,depthAll->U5
open Bool renaming false_ne_true->QV,and_eq_true->RW,false_eq_true->R6,not_eq_true'->Sm,true_and->Sr,false_or->SU,true_eq_false->Tb,not_eq_true->Te,or_false->Tf,not_false->T4,not_true->Ug,and_true->Uh,eq_iff_iff->UG,false_and->US,or_eq_true->U8,not_eq_false->Wa,and_false->XH,and_comm->XU
open PySem.ScopeKind renaming function->QW
open PySem renaming Spec->QY,Scope->Rt,boot_len->R0,mem_of_lookup->To,Within->W0,Fin->Xa,call->XB
open PySem.NameKind renaming free->Q3,globalImplicit->Rr,free->Sy,cell->Vr,cell->WY
open Array renaming length_toList->Ru,getD_eq_getD_getElem?->Sw,getD->Um,getElem?_eq_getElem->Uo,getElem?_toList->Vx,perm_iff_toList_perm->VZ,toList_inj->Wm,getElem?_eq_none->WG,mem_toList_iff->WO,toList_push->Xi,toList_map->Xu,toList_zip->Xv,toList->XW
open PySem.Value renaming ref->RE,none->SH,int->Tv,str->UB,bool->UC,type->UD,isInt_shape->Xe,isInt->Xp,isStrOf->XN,bytes->X0,float->X1
open List.cons renaming injEq->RG,inj->V1
open PySem.PassesOwn renaming never->RM
open PySem.Heap.SameBut renaming update->RN
open Option.some renaming inj->RT,injEq->Sb
open PySem.PyData.int renaming injEq->R3
open PySem.PyData.tuple renaming injEq->R7
open PySem.PyData.str renaming injEq->R8
open Int renaming toNat_natCast->R9,eq_ofNat_of_zero_le->SO,emod_lt_of_pos->Td,emod_nonneg->TQ,reduceNeg->TX,reducePow->TY,reduceLT->Ua,reduceLE->Ub,fdiv_eq_ediv_of_nonneg->VU,fmod_eq_emod_of_nonneg->VV,lt_trichotomy->Xl,le_antisymm->XF,le_refl->X5
open PySem.Obj renaming mapSeq->Sd,data_mapFields->SF,isFreed_of_fields->Uc,cls_mapFields->Vn,putSet->We,mapFields->XR
open PySem.SeqAt renaming canLay_of_shaped->Se,shaped->Tq
open Sum renaming inr->Sn,inl->Wh
open PySem.Builtin.Int renaming intBits->Su
open PySem.SetTable renaming below->Sz,grown->T3,orStandIn->W7,sizeAbove->W8,layClean->Xh,relaid->XD,laid->XQ,slot->XT
open PySem.PyData.list renaming injEq->SI
open False renaming elim->SQ
open Option renaming join_some->S9,join_none->Ta,map_some->Tj,map_none->Tn,map_eq_some_iff->Tr,isSome_iff_exists->Ut,isSome_map->Vm,getD_none->Wj,isSome_some->W6,mem_toList->Xo,bind->X6
open PyProof.Rows renaming boot_sorted->Tc,callWith_type1->Ti,slot_tuple_getitem->TC,bubble->VH,boot_sum->WM,boot_min->X7,boot_max->X8
open True renaming intro->Tg
open PySem.PyData.bool renaming injEq->Th
open PySem.F renaming slot_dict_get->Tx,plainAttrs_list->UA,entry_dict_get->UM,args_tuple_add_2->Vc,slot_list_extend->Ve,entry_tuple_add->Vk,slot_tuple_add->Vp,plain_extend_loop->Wf,type_list_extend->Wl,slot_list_insert->Wo,args_dict_get_2->Wr,args_dict_get_3->Ws,plainAttrs_dict->Wt,plain_list_iadd->Ww,type_dict_get->WJ,plain_set_new->WK,slot_set_iter->WL
open PySem.Builtin.List renaming listTooLong->TL,listFitsIndex->Ud,listLengthHint->VN,listExtendWith->VP,listSameRef->Wn,listUpdate->Wv
open Function renaming comp->TR
open PyProof.Rows.F renaming plain_set_update_loop->T7,entry_set_update_loop->Vf
open PySem.Builtin.Slice renaming slicePlaces->Uk,sliceAdjust->U2,sliceApplied->VW
open PySem.Around renaming under_plainId->Ul,under->W3
open PySem.Builtin.SmallTypes renaming nextOf->Ur
open PySem.Builtin.Tuple renaming tupleExact->Uu,tupleItemsOf->VX
open PySem.AutoSeq1 renaming wpAny_loadPart'->Uw,list_extend_list_list_0->Vv
open PySem.W.WData renaming int->UH,weightAll->U3,list->Wb,layableAll->Xs,weight->XX
open ForInStep renaming yield->UI
open PySem.SetTable.below renaming go->UQ
open PySem.Expr renaming Subscript->UW,BinOp->Wg,List->Xd,Tuple->XG,Call->Ya
open PySem.Calls renaming call_function_entry->U6,spliced_cons->Va,callWith_builtin->Vq,evalArgs_plain->VA,Name_function_global->VT,spliced_nil->V6
open PySem.W.KasT renaming kasWp_bind->U7
open Nat.succ renaming inj->Vg
open Prod.mk renaming injEq->Vs
open Or renaming inr->VB,inl->WI
open PySem.Paired renaming length->VS,snoc->X4
open PySem.Txt renaming mul->V2
open PyProof renaming noPylong_small->WC
open PySem.SeqAt.RcAt renaming tuple_str->WQ
open PySem.SeqAt.EqAt renaming str_tuple->WR,str_int->WZ
open PySem.Code renaming isFrame->W4,frames->X3
open PySem.PyData.dict renaming injEq->Xj
open PySem.SetTable.probe renaming go->Xk
open List.Sublist renaming refl->Xm
open PyProof.Rows.IsTup renaming new->XM
open PySem.CmpOp renaming NotIn->X2
open PySem.Walks renaming list->X9
open PySem renaming PyData->Yi,Value->Yj,wpAny_bind->Yk,Addr->Yl,Shared->Ym,wpAny_pure->Yn,wpAny->Yo,starEach->Yp,model->Yq,Expr->Yr,FuncData->Ys,sizeLine->Yt,Program->Yu,World->Yv,Heap->Yw,Stmt->Yx,mainGlobals->Yy,Around->Yz,foldedSetIterable->YA,backTo->YC,swapsWith->YD,wpAny_newObj_type->YE,compareOp->YF,wpAny_call_entry->YG,wpAny_callSpecial?_slot->YH,bootBuiltins->YI,wpAny_mono->YJ,cLine->YL,sizeLine_eq->YM,wpAny_holding->YN,behindInMarks->YO,attributeBase->YQ,cellsFrom->YR,keywordEach->YS,wpAny_truthy_bool->YT,binaryOp->YU,NameKind->YV,Scope->YW,wpAny_loadPart'->YX,SetTable->YY,wpAny_setField->YZ,sysModules->Y0,rawInt->Y1,wpAny_Call_Name_kw->Y2,tupleKind_room_in1->Y3,wpAny_passesOwn->Y4,Keyword->Y5,backToKw->Y6,wpAny_setState_of->Y7,call_meets->Y8,codeAny_mono->Y9,wpAny_askSetting->Za,wpAny_setEntries_of->Zb,codeAny->Zc,pyNext->Zd,codeAny_builtin->Ze,scanBound->Zf,wpAny_field->Zg,firstArgMember->Zh,PassesOwn->Zi,wpAny_newList->Zk,wpAny_attempt->Zl,getItem->Zn,sliceBounds->Zo,wpAny_pyIter_tuple->Zq,intKind->Zr,holding->Zs,assignEach->Zt,setNext->Zu,wpAny_pyIter_enum->Zv,wpAny_of_eq->Zw,plainId_quiet->Zx,relayAll->Zy,wpAny_isInstance->Zz,tupleKind->ZA,standAt->ZD,getMethod->ZE,wpAny_execs_nil->ZF,letOwnedTupleGo->ZG,wpAny_typeOf->ZH,typeIs_str->ZI,wpAny_rule->ZJ,wpAny_ite_split->ZK,wpAny_fieldsOf->ZN,wpAny_seqItems->ZO,subscripted->ZP,DictEntry->ZQ,pickOrder->ZR,wpAny_letOwnedTupleGo_enum->ZS,wpAny_pyIter_list->ZT,noFill_tuple_add->ZU,wpAny_comprehension_free->ZV,GenState->ZW
open PyProof.Rows renaming seqObj->YB,IntsAre->YK,envOfC->Zj,listUpdate_at->Zm,get?_update_seq->Zp,AllBare->ZC,entry_list_sort->ZL,slot_list_sort->ZM
theorem Yb{p:Prop}[Decidable p](h:decide p=true:=by decide+kernel):p:=of_decide_eq_true h
theorem Yc{p:Prop}(h:p:=by decide):p:=h
theorem Yd{p:Prop}(h:p:=by omega):p:=h
theorem Yh{p:Prop}(h:p:=by simp):p:=h
theorem Ye{c:Prop}{h:Decidable c}(k:¬c){α:Sort u}{t e:α}:ite c t e=e:=if_neg k
theorem Yf{c:Prop}{h:Decidable c}(k:c){α:Sort u}{t e:α}:ite c t e=t:=if_pos k
abbrev ZX:=PySem.NameKind.local
set_option compiler.extract_closed false
def rzS:="↓mT ↓mV ↓mW ↓mX ↓mY ↓mU ↓kC ↓mr ↓nv ↓ny ↓nz ↓nA ↓nB ↓nE ↓mw ↓mx ↓my ↓mz ↓mB ↓mC ↓mD ↓mE ↓mF ↓mG ↓mH ↓mI ↓mJ ↓mK ↓mL ↓mM ↓mN ↓mO ↓mP ↓mQ ↓mR ↓mS fR jf iA jO iz hG iB jP jT jh jH dC cC dI jZ j0 j1 j2 gJ ki kh j4 j3 dL jg jI gC g9 c7 jJ jd jK jL jM jN gE mi mj mq j7 jk j5 j6 j8 j9 kc ke kg kj km hJ jU jV jW kr kA kq gK kz kx kB kE kD kF kG kH kI jm kJ kN kL kM kK kO kT iK kP kQ kR kU kW kX kY k7 k8 k9 lh lq k6 lr lx lA lB lz h7 mf mh ne_eq l7 l8 l9 md me l5 l6 iE iF jj iD jS jR jQ gH eG dh gr i7 gX QR RO Q0 RJ Q8 R4 RY RF SA SD T8 TN TM Sj RQ S0 SM SN Sb exists_eq_left' exists_eq_left exists_and_left exists_and_right S9 Ta Sl.v.injEq Sl.o.injEq Sl.k.injEq R3 Th R8 R7 SI RG and_true true_and T9 Tu exists_const decide_eq_true_eq Ua Ub TX TY Sm decide_eq_false_iff_not and_assoc or_true true_or ↓reduceIte if_true if_false R6 Tb not_true_eq_false not_false_eq_true Ug T4 ite_true ite_false eq_self exists_eq reduceCtorEq false_and and_false or_false false_or exists_false Tj Tn TZ Ux R5 Uy Uh Tf Sr SU dH eJ hV fC kn dP lX beq_self_eq_true lU lV lW cy sizeLine_eq"
def rzT (n : String) : Lean.MacroM (Lean.TSyntax `tactic) := do
 let ts : Array (Lean.TSyntax `Lean.Parser.Tactic.simpLemma) <- ((n.splitOn " ").toArray).mapM λs =>do
  if s.startsWith "↓" then
   let i := Lean.mkIdent (s.drop 1).toString.toName
   `(Lean.Parser.Tactic.simpLemma| ↓ $i:ident)
  else
   let i := Lean.mkIdent s.toName
   `(Lean.Parser.Tactic.simpLemma| $i:ident)
 `(tactic| simp only [$ts,*])
local macro_rules|`(command|def $i:declId $s:optDeclSig $v:declVal)=>`(command|noncomputable def $i:declId $s:optDeclSig $v:declVal)|`(command|abbrev $i:declId $s:optDeclSig $v:declVal)=>`(command|noncomputable abbrev $i:declId $s:optDeclSig $v:declVal)
noncomputable section
set_option Elab.async false
set_option linter.all false
set_option maxRecDepth 100000
set_option maxHeartbeats 0
set_option genSizeOf false
namespace _L
open PySem PySem.Spec PyProof.Rows
abbrev aq:=Sum Int Str
def oM:aq->Yj->Bool
 | .inl k,v=>Xp k v
 | .inr x,v=>XN x v
def G5(w:Yv):aq->Int
 | .inl k=>hashInt k
 | .inr x=>hashStr w x
theorem iZ:∀{k:aq}{v:Yj},oM k v=true->(∃i t,k=Wh i/\v=Tv i t)\/(∃x t,k=Sn x/\v=UB x t)
 | .inl i,v,h=>by
  obtain⟨t,e⟩:=Xe (k:=i) (v:=v) h;exact .inl ⟨i,t,rfl,e⟩
 | .inr x,v,h=>by
  obtain⟨t,e⟩:=Value.isStrOf_shape (x:=x) (v:=v) h;exact .inr ⟨x,t,rfl,e⟩
theorem G6(i:Int)(t:Tok):oM (.inl i) (.int i t)=true:=by simp [oM,Xp]
theorem G7(x:Str)(t:Tok):oM (.inr x) (.str x t)=true:=by simp [oM,XN]
theorem G8(a b:Int):decide ((Wh a:aq)=Wh b)=(a==b):=by
 by_cases e:a=b
 ·subst e;simp
 ·have h:¬(Wh a:aq)=Wh b:=λq=>e (Wh.inj q);rw [decide_eq_false h];exact(beq_eq_false_iff_ne.mpr e).symm
theorem G9(a b:Str):decide ((Sn a:aq)=Sn b)=decide (a=b):=by
 by_cases e:a=b
 ·subst e;simp
 ·have h:¬(Sn a:aq)=Sn b:=λq=>e (Sn.inj q);rw [decide_eq_false h,decide_eq_false e]
theorem Ha(a:Int)(b:Str):decide ((Wh a:aq)=Sn b)=false:=decide_eq_false (λq=>nomatch q)
theorem Hb(a:Str)(b:Int):decide ((Sn a:aq)=Wh b)=false:=decide_eq_false (λq=>nomatch q)
def dF(prog:Yu)(w:Yv):PySem.KeyKind prog w aq where
 is:=oM
 hash:=G5 w
 inj:=λv a b ha hb=>by
  rcases iZ ha with⟨i,t,rfl,rfl⟩ | ⟨x,t,rfl,rfl⟩
  ·rcases iZ hb with⟨j,u,rfl,e⟩ | ⟨y,u,rfl,e⟩
   ·injection e with e1 _;rw [e1]
   ·exact nomatch e
  ·rcases iZ hb with⟨j,u,rfl,e⟩ | ⟨y,u,rfl,e⟩
   ·exact nomatch e
   ·injection e with e1 _;rw [e1]
 byValue:=λk v h=>by
  rcases iZ h with⟨i,t,rfl,rfl⟩ | ⟨x,t,rfl,rfl⟩ <;> rfl
 pyHash:=λhv h=>by
  rcases iZ hv with⟨i,t,rfl,rfl⟩ | ⟨x,t,rfl,rfl⟩
  ·exact wpAny_pyHash_int h
  ·exact wpAny_pyHash_str h
 eqBool:=λhu hv h=>by
  rcases iZ hu with⟨i,t,rfl,rfl⟩ | ⟨x,t,rfl,rfl⟩
  ·rcases iZ hv with⟨j,u,rfl,rfl⟩ | ⟨y,u,rfl,rfl⟩
   ·rw [G8] at h;exact wpAny_eqBool_int h
   ·rw [Ha] at h;exact SeqAt.EqAt.int_str i t y u _ _ _ _ h
  ·rcases iZ hv with⟨j,u,rfl,rfl⟩ | ⟨y,u,rfl,rfl⟩
   ·rw [Hb] at h;exact WZ x t j u _ _ _ _ h
   ·rw [G9] at h;exact wpAny_eqBool_str h
 «strs»:=λk x t v h=>by
  rcases iZ h with⟨i,u,rfl,e⟩ | ⟨y,u,rfl,e⟩
  ·exact nomatch e
  ·injection e with e1 _
   subst e1;cases v <;> rfl
theorem Hc(prog:Yu)(w:Yv)(i:Int)(t:Tok):(dF prog w).is (.inl i) (.int i t)=true:=G6 i t
theorem He(prog:Yu)(w:Yv)(x:Str)(t:Tok):(dF prog w).is (.inr x) (.str x t)=true:=G7 x t
inductive V where
 | non | bl (b:Bool) | int (i:Int) | str (x:Str) | byt (b:Array UInt8) | flt (b:UInt64) | ref (a:Yl) | ty (n:String)
 deriving DecidableEq
def aJ:V->Yj->Prop
 | .non,u=>u=SH
 | .bl b,u=>u=UC b
 | .int i,u=>∃t,u=Tv i t
 | .str x,u=>∃t,u=UB x t
 | .byt b,u=>∃t,u=X0 b t
 | .flt b,u=>∃t,u=X1 b t
 | .ref a,u=>u=RE a
 | .ty n,u=>u=UD n
abbrev aI:List V->List Yj->Prop:=Paired aJ
theorem aI.length{xs:List V}{us:List Yj}(r:aI xs us):xs.length=us.length:=VS r
theorem aI.get:∀{xs:List V}{us:List Yj}{i:Nat}{x:V},aI xs us->xs[i]?=some x->∃u,us[i]?=some u/\aJ x u
 | _,_,_,_,.nil,e=>by simp at e
 | _,_,0,_,.cons r _,e=>by simp at e;subst e;exact⟨_,rfl,r⟩
 | _,_,i+1,x,.cons _ t,e=>by
  obtain⟨u,h1,h2⟩:=aI.get (i:=i) (x:=x) t (by simpa using e);exact⟨u,by simpa using h1,h2⟩
theorem aI.append:∀{xs ys:List V}{us ws:List Yj},aI xs us->aI ys ws->aI (xs++ys) (us++ws)
 | _,_,_,_,.nil,s=>s
 | _,_,_,_,.cons r t,s=>.cons r (aI.append t s)
theorem aI.take:∀{xs:List V}{us:List Yj}(n:Nat),aI xs us->aI (xs.take n) (us.take n)
 | _,_,0,_=>.nil
 | _,_,_+1,.nil=>.nil
 | _,_,n+1,.cons r t=>.cons r (aI.take n t)
theorem aI.drop:∀{xs:List V}{us:List Yj}(n:Nat),aI xs us->aI (xs.drop n) (us.drop n)
 | _,_,0,r=>r
 | _,_,_+1,.nil=>.nil
 | _,_,n+1,.cons _ t=>aI.drop n t
def dN:Option V->Option Yj->Prop
 | some v,some u=>aJ v u
 | none,none=>True
 | _,_=>False
def KV{κ:Type}:List (κ×V)->List (κ×Yj)->Prop:=Paired λ(p:κ×V) (q:κ×Yj)=>p.1=q.1/\aJ p.2 q.2
def kV:aq->V
 | .inl i=>.int i
 | .inr x=>.str x
inductive HO where
 | lst (xs:List V)
 | tup (xs:List V)
 | dK (kvs:List (aq×V)) | dT (kvs:List (List aq×V))
 | set (S:Int->Bool) (n:Nat)
 | ins (C dx:Yl) (fs:List (Str×V))
 | own (x:Yl)
 | xd (fs:List (Str×V))
 | met (f x:Yl)
 | rng (lo hi:Int)
 | frz (o:Obj) (u:HO)
 | tbl (ps:Array Yj)
 | ext (φ:Yw->Prop)
abbrev Hp:=Yl->Option HO
def ah(H:Hp)(a:Yl)(o:HO):Hp:=λb=>if b=a then some o else H b
theorem bq{H:Hp}{a:Yl}{o:HO}:ah H a o a=some o:=by unfold ah;rw [Yf rfl]
theorem az{H:Hp}{a b:Yl}{o:HO}(h:b≠a):ah H a o b=H b:=by unfold ah;rw [Ye h]
theorem Hf{H:Hp}{a:Yl}{o u:HO}:ah (ah H a o) a u=ah H a u:=by
 funext b;unfold ah;split <;> rfl
theorem Hg{H:Hp}{a b:Yl}{o u:HO}(h:H a=some o)(h':H b=some u)(d:o≠u):a≠b:=by
 intro e;subst e;rw [h] at h';exact d (RT h')
theorem dY{H:Hp}{a b:Yl}{o:HO}(h:H a=some o)(h':H b=none):a≠b:=by
 intro e;subst e;rw [h] at h';cases h'
section
variable (P:Yu) (w:Yv)
def cj(H:Hp)(h:Yw)(a:Yl):HO->Prop
 | .lst xs=>xs.length<=Yt/\∃(its:List Yj)(n:Nat),aI xs its/\h.get? a=some {cls:= .type "list",data:= .seq its.toArray n}
 | .tup xs=>xs.length<=Yt/\∃its:List Yj,aI xs its/\IsTup h a its.toArray
 | .dK kvs=>kvs.length<=Yt/\(a==Y0)=false/\∃vs,KV kvs vs/\h.DictOf (dF P w) a vs
 | .dT kvs=>kvs.length<=Yt/\(a==Y0)=false/\∃xs:List (List aq×Yl×Yj),
  Paired (λ(p:List aq×V) (q:List aq×Yl×Yj)=>p.1=q.1/\H q.2.1=some (.tup (p.1.map kV))/\aJ p.2 q.2.2) kvs xs/\
  ∃o es ep,h.get? a=some o/\o.ExactDict/\o.data= .dict es ep/\es.toList=xs.map (entryOfKey (ZA (dF P w)))/\(xs.map (·.1)).Nodup
 | .set S n=>h.SetOf (Zr P w) a S n
 | .ins C dx fs=>H dx=some (.own a)/\fs.length<=1000/\dx≠a/\h.get? a=some (TH C dx)/\
  ∃mA,h.Ns1 dx mA/\(∀f,dN (fs.lookup f) (mA f))/\W0 mA (fs.map (·.1))
 | .own _=>∃o,h.get? a=some o
 | .xd fs=>∃mA,h.Ns1 a mA/\∀f,dN (fs.lookup f) (mA f)
 | .rng lo hi=>∃t u v,h.get? a=some {cls:= .type "range",data:= .fields #[.int lo t,.int hi u,.int 1 v]}
 | .frz o u=>h.get? a=some o/\cj H h a u
 | .tbl ps=>h.get? a=some {cls:= .none,data:= .fields ps}
 | .met f x=>h.get? a=some (V3 (.ref f) (.ref x))
 | .ext φ=>φ h/\(∃o,h.get? a=some o)/\∀h1 h2:Yw,φ h1->(∀o,h1.get? a=some o->h2.get? a=some o)->φ h2
def bK(H:Hp)(h:Yw):Prop:=∀a o,H a=some o->cj P w H h a o
end
section
variable {P:Yu} {w:Yv} {H H':Hp} {h h':Yw} {a:Yl} {o:HO}
theorem cj.lt(x:cj P w H h a o):a < h.objs.size:=by
 cases o with
 | lst xs=>obtain⟨_,_,_,_,e⟩:=x;exact Q7 e
 | tup xs=>obtain⟨_,_,_,p⟩:=x;exact p.lt
 | dK kvs=>obtain⟨_,_,_,_,o,_,_,e,_⟩:=x;exact Q7 e
 | dT kvs=>obtain⟨_,_,_,_,o,_,_,e,_⟩:=x;exact Q7 e
 | set S n=>obtain⟨o,_,_,_,e,_⟩:=x;exact Q7 e
 | ins C dx fs=>obtain⟨_,_,_,e,_⟩:=x;exact Q7 e
 | own y=>obtain⟨_,e⟩:=x;exact Q7 e
 | xd fs=>obtain⟨_,⟨_,_,_,e,_⟩,_⟩:=x;exact Q7 e
 | rng lo hi=>obtain⟨_,_,_,e⟩:=x;exact Q7 e
 | frz ob u=>obtain⟨e,_⟩:=x;exact Q7 e
 | tbl ps=>exact Q7 (show h.get? a=some _ from x)
 | met f y=>exact Q7 (show h.get? a=some _ from x)
 | ext φ=>obtain⟨_,⟨_,e⟩,_⟩:=x;exact Q7 e
theorem Paired.mapP{α β:Type}{F G:α->β->Prop}:∀{l₁:List α}{l₂:List β},Paired F l₁ l₂->(∀a b,F a b->G a b)->Paired G l₁ l₂
 | _,_,.nil,_=>.nil
 | _,_,.cons r t,f=>.cons (f _ _ r) (Paired.mapP t f)
theorem cj.stay(x:cj P w H h a o)(k:∀b u,(b=a\/H b=some (.own a))->h.get? b=some u->h'.get? b=some u)
 (ho:∀b,H b=some (.own a)->H' b=some (.own a))(ht:∀b xs,H b=some (.tup xs)->H' b=some (.tup xs)):cj P w H' h' a o:=by
 induction o with
 | lst xs=>obtain⟨z,its,n,r,e⟩:=x;exact⟨z,its,n,r,k _ _ (.inl rfl) e⟩
 | tup xs=>obtain⟨z,its,r,ob,e,c⟩:=x;exact⟨z,its,r,ob,k _ _ (.inl rfl) e,c⟩
 | dK kvs=>obtain⟨z,y,vs,r,ob,es,ep,e,c⟩:=x;exact⟨z,y,vs,r,ob,es,ep,k _ _ (.inl rfl) e,c⟩
 | dT kvs=>
  obtain⟨z,y,xs,r,ob,es,ep,e,c⟩:=x;exact⟨z,y,xs,Paired.mapP r λp q z=>⟨z.1,ht _ _ z.2.1,z.2.2⟩,ob,es,ep,k _ _ (.inl rfl) e,c⟩
 | set S n=>obtain⟨ob,es,ep,t,e,c⟩:=x;exact⟨ob,es,ep,t,k _ _ (.inl rfl) e,c⟩
 | ins C dx fs=>
  obtain⟨d,z,ne,e,mA,⟨od,es,ep,e2,c⟩,r⟩:=x;exact⟨ho _ d,z,ne,k _ _ (.inl rfl) e,mA,⟨od,es,ep,k _ _ (.inr d) e2,c⟩,r⟩
 | own y=>obtain⟨ob,e⟩:=x;exact⟨ob,k _ _ (.inl rfl) e⟩
 | xd fs=>obtain⟨mA,⟨od,es,ep,e,c⟩,r⟩:=x;exact⟨mA,⟨od,es,ep,k _ _ (.inl rfl) e,c⟩,r⟩
 | rng lo hi=>obtain⟨t,u,v,e⟩:=x;exact⟨t,u,v,k _ _ (.inl rfl) e⟩
 | frz ob u ih=>obtain⟨e,q⟩:=x;exact⟨k _ _ (.inl rfl) e,ih q⟩
 | tbl ps=>
  have e:h.get? a=some {cls:= .none,data:= .fields ps}:=x;show h'.get? a=some {cls:= .none,data:= .fields ps};exact k a _ (.inl rfl) e
 | met f y=>
  have e:h.get? a=some (V3 (.ref f) (.ref y)):=x;show h'.get? a=some (V3 (.ref f) (.ref y));exact k a _ (.inl rfl) e
 | ext φ=>obtain⟨p,⟨o,e⟩,st⟩:=x;exact⟨st _ _ p λo q=>k _ _ (.inl rfl) q,⟨o,k _ _ (.inl rfl) e⟩,st⟩
theorem bK.lt(x:bK P w H h)(e:H a=some o):a < h.objs.size:=(x a o e).lt
theorem bK.fresh(x:bK P w H h)(e:h.objs.size<=a):H a=none:=by
 cases q:H a with
 | none=>rfl
 | some u=>exact absurd (RX (x.lt q) e) (SS _)
theorem bK.kept(x:bK P w H h)(k:∀b u,h.get? b=some u->h'.get? b=some u):bK P w H h':=λa o e=>
 (x a o e).stay (λb u _ q=>k b u q) (λ_ q=>q) λ_ _ q=>q
theorem bK.laid(x:bK P w H h)(k:∀b u,h.get? b=some u->h'.get? b=some u)(hp:h.objs.size<=a)(new:cj P w (ah H a o) h' a o):bK P w (ah H a o) h':=λb u e=>by
 have hn:=x.fresh hp;by_cases hb:b=a
 ·subst hb;rw [bq] at e;cases e;exact new
 ·rw [az hb] at e;exact(x b u e).stay (λc v _ q=>k c v q) (λc q=>by rw [az (dY q hn)];exact q) λc xs q=>by rw [az (dY q hn)];exact q
end
def Rd(H:Hp)(a:Yl)(u:HO):Prop:=H a=some u\/∃o,H a=some (.frz o u)
theorem Rd.ok{P:Yu}{w:Yv}{H:Hp}{h:Yw}{a:Yl}{u:HO}(r:Rd H a u)(x:bK P w H h):cj P w H h a u:=by
 rcases r with r | ⟨o,r⟩
 ·exact x a u r
 ·obtain⟨_,q⟩:=x a _ r;exact q
def p8:Option HO->Prop
 | some (.lst _)=>True
 | some (.dK _)=>True
 | some (.dT _)=>True
 | some (.set _ _)=>True
 | some (.ins _ _ _)=>True
 | some (.ext _)=>True
 | _=>False
section
variable {P:Yu} {w:Yv} {H:Hp} {h h':Yw} {x e:Yl} {o':HO}
theorem bK.write(ok:bK P w H h)(mu:p8 (H x))(he:e=x\/H e=some (.own x))(k:∀b u,b≠e->h.get? b=some u->h'.get? b=some u)(heo:∃u,h'.get? e=some u)
 (new:cj P w (ah H x o') h' x o'):bK P w (ah H x o') h':=λb u q=>by
 have nown:∀c y,H c=some (.own y)->c≠x:=λc y r z=>by subst z;rw [r] at mu;exact mu
 have ntup:∀c xs,H c=some (.tup xs)->c≠x:=λc xs r z=>by subst z;rw [r] at mu;exact mu
 by_cases hb:b=x
 ·subst hb;rw [bq] at q;cases q;exact new
 ·rw [az hb] at q;by_cases hbe:b=e
  ·have q':H b=some (.own x):=by
    rcases he with z | z
    ·exact absurd (hbe.trans z) hb
    ·rw [hbe];exact z
   rw [q] at q';cases q';obtain⟨v,hv⟩:=heo;exact⟨v,by rw [hbe];exact hv⟩
  ·refine(ok b u q).stay (λc v hc r=>k c v ?_ r) (λc r=>by rw [az (nown c b r)];exact r) λc xs r=>by rw [az (ntup c xs r)];exact r
   rcases hc with rfl | hc
   ·exact hbe
   ·rintro rfl;rcases he with z | z
    ·exact nown c b hc z
    ·rw [hc] at z;cases z;exact hb rfl
end
structure Un (fs ex:List Yl) (H H':Hp) (h h':Yw):Prop where
 keep:∀b o,h.get? b=some o->H b=none->b ∉ fs->b ∉ ex->h'.get? b=some o
 slot:∀b o,h.get? b=some o->H b=none->b∈fs->b ∉ ex->∃sl,h'.get? b=some {o with slots:=sl}
 free:∀b o,h.get? b=some o->H b=none->b ∉ ex->H' b=none
 there:∀b o,h.get? b=some o->b ∉ ex->∃o',h'.get? b=some o'
 tups:∀b xs,H b=some (.tup xs)->H' b=some (.tup xs)
 frzs:∀b o u,H b=some (.frz o u)->H' b=some (.frz o u)
 tbls:∀b ps,H b=some (.tbl ps)->∃more,H' b=some (.tbl (ps++more))
section
variable {fs fs' ex ex':List Yl} {H H1 H2:Hp} {h h1 h2 h':Yw} {a x e:Yl} {o:HO}
theorem Un.any(u:Un fs ex H H1 h h1){b:Yl}{ob:Obj}(q:h.get? b=some ob)(n:H b=none)(hx:b ∉ ex):∃sl,h1.get? b=some {ob with slots:=sl}:=by
 by_cases hb:b∈fs
 ·exact u.slot b ob q n hb hx
 ·exact⟨ob.slots,u.keep b ob q n hb hx⟩
theorem Un.kept(k:∀b u,h.get? b=some u->h'.get? b=some u):Un fs ex H H h h':=
 ⟨λb ob q _ _ _=>k b ob q,λb ob q _ _ _=>⟨ob.slots,k b ob q⟩,λ_ _ _ n _=>n,λb ob q _=>⟨ob,k b ob q⟩,λ_ _ q=>q,λ_ _ _ q=>q,λ_ ps q=>⟨#[],by rw [q];simp⟩⟩
theorem Un.refl:Un fs ex H H h h:=Un.kept λ_ _ q=>q
theorem Un.laid(k:∀b u,h.get? b=some u->h'.get? b=some u)(hp:h.objs.size<=a)(hn:H a=none):Un fs ex H (ah H a o) h h' where
 keep:=λb u q _ _ _=>k b u q
 slot:=λb u q _ _ _=>⟨u.slots,k b u q⟩
 free:=λb u q n _=>by rw [az (Rz (RX (Q7 q) hp))];exact n
 there:=λb u q _=>⟨u,k b u q⟩
 tups:=λb xs q=>by rw [az (dY q hn)];exact q
 frzs:=λb u xs q=>by rw [az (dY q hn)];exact q
 tbls:=λb ps q=>⟨#[],by rw [az (dY q hn),q];simp⟩
theorem Un.write(mu:p8 (H x))(he:e=x\/H e=some (.own x))(k:∀b u,b≠e->h.get? b=some u->h'.get? b=some u)(heo:∃u,h'.get? e=some u):Un fs ex H (ah H x o) h h':=by
 have hx:∀b,H b=none->b≠x:=λb n z=>by subst z;rw [n] at mu;exact mu
 have hb:∀b,H b=none->b≠e:=λb n z=>by
  subst z;rcases he with r | r
  ·exact hx b n r
  ·rw [n] at r;cases r
 have hm:∀b u,H b=some u->¬p8 (some u)->b≠x:=λb u q nm z=>by subst z;rw [q] at mu;exact nm mu
 refine⟨λb u q n _ _=>k b u (hb b n) q,λb u q n _ _=>⟨u.slots,k b u (hb b n) q⟩,λb u q n _=>by rw [az (hx b n)];exact n,λb u q _=>?_,
  λb xs q=>by rw [az (hm b _ q λz=>z)];exact q,λb u xs q=>by rw [az (hm b _ q λz=>z)];exact q,λb ps q=>⟨#[],by rw [az (hm b _ q λz=>z),q];simp⟩⟩
 by_cases hbe:b=e
 ·subst hbe;exact heo
 ·exact⟨u,k b u hbe q⟩
end
def trk(h:Yw)(H:Hp):List Yl:=(SE h.objs.size).filter λa=>(H a).isSome
def jD(h:Yw)(H:Hp):Yw:=PySem.W.hideAll h (trk h H)
theorem Hh(h:Yw)(H:Hp):(jD h H).objs.size=h.objs.size:=PySem.W.hideAll_size _ _
theorem Hi{h:Yw}{H:Hp}{b:Yl}{o:Obj}(e:h.get? b=some o)(n:H b=none):(jD h H).get? b=some o:=
 PySem.W.hideAll_get _ e λhm=>by
  have q:(H b).isSome=true:=(RH.mp hm).2;rw [n] at q;simp at q
theorem Hj{h:Yw}{H:Hp}{b:Yl}{o:Obj}(e:(jD h H).get? b=some o):h.get? b=some o/\H b=none:=by
 have e':h.get? b=some o:=PySem.W.of_hideAll (trk h H) e;refine⟨e',?_⟩;cases q:H b with
 | none=>rfl
 | some x=>
  have hm:b∈trk h H:=RH.mpr ⟨WH.mpr (Q7 e'),by simp [q]⟩;have z:(jD h H).get? b=none:=PySem.W.hideAll_none (trk h H) hm;rw [z] at e;cases e
def Hk(g h:Yw)(L:Yl):List (Yl×Obj):=(SE h.objs.size).filterMap λa=>if a=L\/(g.get? a).isSome=true then none else(h.get? a).map λo=>(a,o)
def rest(g h:Yw)(L d:Yl):List (Yl×Obj):=(Hk g h L).filter λp=>decide (p.1≠d)
structure Mod (K:QN) (mg:Str->Option Yj) (base:Yw):Prop where
 kin:K.In base
 glob:base.Ns Yy mg
 blt:∃mb,base.Ns builtinsNs mb/\∀x:Str,x≠"__name__"->mb x=YI x
 nolimit:base.NoLimit
structure Cx where
 prog:Yu
 w:Yv
 K:QN
 mg:Str->Option Yj
 base:Yw
 A:Yz
 N:List Str
 s₀:Ym
 H₀:Hp
 env:Env
 outer:List Env
 stack:List Env
 ex:List Yl
 fn:Str->Bool
 calm:Bool
 pn:List (Yl×Obj)
 xe:Yj->Ym->Prop
def gi(l:List Env):List Yl:=l.filterMap (·.frame)
abbrev Cx.fs(X:Cx):List Yl:=gi X.outer
def p9(sc:YW)(x:Str):Prop:=sc.names.lookup x=some .local\/sc.names.lookup x=some .cell\/sc.names.lookup x=some .free
def gW(sc:YW)(x:Str):Prop:=sc.names.lookup x=some .local\/sc.names.lookup x=some .cell
def Hl(env:Env)(h:Yw)(m:Str->Option Yj)(x:Str)(u:Yj):Prop:=
 (env.kindOf x=some .local/\m x=some u)\/((env.kindOf x=some .cell\/env.kindOf x=some .free)/\∃c,env.cells.lookup x=some c/\h.IsCell c (some u))
structure Cx.Ok (X:Cx):Prop where
 mod:Mod X.K X.mg X.base
 kind:X.env.scope.kind= .function
 glob:X.env.globals=Yy
 blt:X.env.builtins=builtinsNs
 above:X.s₀.heap.objs.size<=X.env.locals
 inj:∀x y c,X.env.cells.lookup x=some c->X.env.cells.lookup y=some c->x=y
 has:∀x,(X.env.kindOf x=some .cell\/X.env.kindOf x=some .free)->∃c,X.env.cells.lookup x=some c
 cab:∀x c,X.fn x=true->X.env.cells.lookup x=some c->X.s₀.heap.objs.size<=c
 hd:X.calm=true->X.A.handled=none
 frames:X.A.frames=some X.stack
 stk:X.stack=X.outer\/(X.stack=X.env::X.outer/\X.env.frame=some X.env.locals)
 exf:∀b∈X.ex,b≠X.env.locals/\∀x c,X.env.cells.lookup x=some c->c≠b
 bs:∀b o,X.base.get? b=some o->X.s₀.heap.get? b=some o/\X.H₀ b=none
 bsz:X.base.objs.size<=X.s₀.heap.objs.size
 noex:∀b o,X.base.get? b=some o->b ∉ X.ex
 exfs:∀b∈X.ex,b ∉ X.fs
 funs:X.s₀.heap.FunFrames X.base X.outer
 frf:∀b∈X.fs,X.H₀ b=none
structure ag (X:Cx) (ZY:List (Yl×Obj)) (σ:List (Option V)) (H:Hp) (s:Ym):Prop where
 ok:X.Ok
 os:s.os=X.s₀.os
 bare:ZC s.gens
 base:Un X.fs X.ex X.H₀ H X.s₀.heap s.heap
 loc:∃m,s.heap.Ns X.env.locals m/\∀(i:Nat)(x:Str)(v:V),X.N[i]?=some x->σ[i]?=some (some v)->p9 X.env.scope x->∃u,aJ v u/\Hl X.env s.heap m x u
 cell:∀x c,X.env.cells.lookup x=some c->∃v,s.heap.IsCell c v
 free:H X.env.locals=none
 freeC:∀x c,X.env.cells.lookup x=some c->H c=none
 pin:∀p∈X.pn++ZY,s.heap.get? p.1=some p.2/\H p.1=none/\p.1≠X.env.locals/\p.1 ∉ X.fs/\∀v,p.2.data≠ .cell v
 hok:bK X.prog X.w H s.heap
 len:σ.length=X.N.length
section
variable {X:Cx} {ZY:List (Yl×Obj)} {σ:List (Option V)} {H H':Hp} {s:Ym} {h':Yw}
theorem Cx.Ok.nofr(ok:X.Ok){b:Yl}{o:Obj}(e:X.base.get? b=some o):b ∉ X.fs:=λhb=>by
 have:=(ok.funs.mem hb).1;rw [e] at this;cases this
theorem ag.bs(I:ag X ZY σ H s):∀b o,X.base.get? b=some o->s.heap.get? b=some o/\H b=none:=λb o e=>
 ⟨I.base.keep b o (I.ok.bs b o e).1 (I.ok.bs b o e).2 (I.ok.nofr e) (I.ok.noex b o e),I.base.free b o (I.ok.bs b o e).1 (I.ok.bs b o e).2 (I.ok.noex b o e)⟩
theorem ag.bk(I:ag X ZY σ H s):∀b o,X.base.get? b=some o->s.heap.get? b=some o:=λb o e=>(I.bs b o e).1
theorem ag.mod(I:ag X ZY σ H s):Mod X.K X.mg X.base:=I.ok.mod
theorem ag.kIn(I:ag X ZY σ H s):X.K.In s.heap:=I.ok.mod.kin.keeps I.bk
theorem ag.fr(I:ag X ZY σ H s):∃m,Fr X.base X.env.locals s.heap m:=
 let ⟨m,hn,_⟩:=I.loc
 ⟨m,hn,I.bk,Rj I.ok.bsz I.ok.above⟩
theorem ag.lt(I:ag X ZY σ H s):X.env.locals < s.heap.objs.size:=let ⟨_,hn,_⟩:=I.loc;hn.lt
theorem ag.sz(I:ag X ZY σ H s):X.s₀.heap.objs.size<=s.heap.objs.size:=Rj I.ok.above (TJ I.lt)
theorem ag.nofs(I:ag X ZY σ H s){a:Yl}(h:s.heap.objs.size<=a):a ∉ X.fs:=λhb=>by
 obtain⟨_,o,ho,_⟩:=I.ok.funs.mem hb;exact absurd (RX (Q7 ho) (Rj I.sz h)) (SS _)
theorem ag.cne(I:ag X ZY σ H s):∀x c,X.env.cells.lookup x=some c->c≠X.env.locals:=λx c e z=>by
 obtain⟨v,o,ho,hd⟩:=I.cell x c e;obtain⟨m,⟨o',es,ep,ho',hd',_⟩,_⟩:=I.loc;rw [z,ho'] at ho;cases ho;rw [hd'] at hd;cases hd
theorem ag.funs(I:ag X ZY σ H s):s.heap.FunFrames X.base X.outer:=by
 have all:∀(l:List Env),(∀b∈gi l,b∈X.fs)->X.s₀.heap.FunFrames X.base l->s.heap.FunFrames X.base l:=by
  intro l
  induction l with
  | nil=>intro _ _;trivial
  | cons env r ih=>
   intro hs hl;obtain⟨hk,⟨L,o,hf,hn,ho,hd⟩,hr⟩:=hl;have hL:L∈X.fs:=hs L (by unfold gi;rw [Ss,hf];exact RC);obtain⟨sl,e⟩:=I.base.slot L o ho (I.ok.frf L hL) hL λz=>I.ok.exfs L z hL;exact⟨hk,⟨L,_,hf,hn,e,hd⟩,ih (λb hb=>hs b (by unfold gi;rw [Ss,hf];exact Ri _ hb)) hr⟩
 exact all X.outer (λ_ hb=>hb) I.ok.funs
theorem ag.stack(I:ag X ZY σ H s):s.heap.FunFrames X.base X.stack:=by
 rcases I.ok.stk with e | ⟨e,hf⟩
 ·rw [e];exact I.funs
 ·rw [e];obtain⟨m,hn,_⟩:=I.loc;refine .cons (by rw [I.ok.kind];decide) hf hn ?_ I.funs;exact Heap.get?_none_of_le (Rj I.ok.bsz I.ok.above)
theorem ag.stkSub(I:ag X ZY σ H s):∀b∈gi X.stack,b∈X.env.locals::X.fs:=λb hb=>by
 rcases I.ok.stk with e | ⟨e,hf⟩
 ·rw [e] at hb;exact Ri _ hb
 ·rw [e] at hb;unfold gi at hb;rw [Ss,hf] at hb;exact hb
theorem ag.stkFree(I:ag X ZY σ H s):∀b∈gi X.stack,H b=none:=λb hb=>by
 rcases QX.mp (I.stkSub b hb) with e | hb
 ·rw [e];exact I.free
 ·obtain⟨_,o,ho,_⟩:=I.ok.funs.mem hb;exact I.base.free b o ho (I.ok.frf b hb) λz=>I.ok.exfs b z hb
theorem ag.step{g':Array ZW}{t':Nat}{d':Drawn}{ch:List Yl}(I:ag X ZY σ H s)
 (hch:∀b∈ch,(b∈X.ex\/X.s₀.heap.objs.size<=b)/\b≠X.env.locals/\(∀x c,X.env.cells.lookup x=some c->c≠b)/\∀p∈X.pn++ZY,p.1≠b)
 (keep:∀b o,b≠X.env.locals->b ∉ X.fs->b ∉ ch->s.heap.get? b=some o->H b=none->h'.get? b=some o)
 (slot:∀b o,b≠X.env.locals->b∈X.fs->b ∉ ch->s.heap.get? b=some o->H b=none->∃sl,h'.get? b=some {o with slots:=sl})(free:∀b o,b ∉ ch->s.heap.get? b=some o->H b=none->H' b=none)
 (there:∀b o,b ∉ ch->s.heap.get? b=some o->∃o',h'.get? b=some o')
 (tups:∀b xs,H b=some (.tup xs)->H' b=some (.tup xs))(frzs:∀b o u,H b=some (.frz o u)->H' b=some (.frz o u))(tbls:∀b ps,H b=some (.tbl ps)->∃more,H' b=some (.tbl (ps++more)))
 (ns:∀m,s.heap.Ns X.env.locals m->h'.Ns X.env.locals m)(hok:bK X.prog X.w H' h')(hg:ZC g'):
 ag X ZY σ H' {s with heap:=h',gens:=g',drawn:=d',toks:=t'}:=by
 have neL:∀b o,X.s₀.heap.get? b=some o->b≠X.env.locals:=λb o e=>Rz (RX (Q7 e) I.ok.above);have neC:∀b o,X.s₀.heap.get? b=some o->b ∉ X.ex->b ∉ ch:=λb o e hx hb=>by
  rcases(hch b hb).1 with z | z
  ·exact hx z
  ·exact absurd (RX (Q7 e) z) (SS _)
 have cellK:∀x c,X.env.cells.lookup x=some c->∀v,s.heap.IsCell c v->h'.IsCell c v:=λx c e v uu1=>by
  obtain⟨o,ho,hd⟩:=uu1;have nch:c ∉ ch:=λz=>(hch c z).2.2.1 x c e rfl;by_cases hc:c∈X.fs
  ·obtain⟨sl,q⟩:=slot c o (I.cne x c e) hc nch ho (I.freeC x c e);exact⟨_,q,hd⟩
  ·exact⟨o,keep c o (I.cne x c e) hc nch ho (I.freeC x c e),hd⟩
 refine⟨I.ok,I.os,hg,⟨λb o e n hb hx=>?_,λb o e n hb hx=>?_,λb o e n hx=>?_,λb o e hx=>?_,λb xs e=>tups b xs (I.base.tups b xs e),λb o xs e=>frzs b o xs (I.base.frzs b o xs e),λb ps e=>?_⟩,?_,λx c e=>?_,?_,λx c e=>?_,λp hp=>?_,hok,I.len⟩
 ·exact keep b o (neL b o e) hb (neC b o e hx) (I.base.keep b o e n hb hx) (I.base.free b o e n hx)
 ·obtain⟨sl,e1⟩:=I.base.slot b o e n hb hx;obtain⟨sl',e2⟩:=slot b _ (neL b o e) hb (neC b o e hx) e1 (I.base.free b o e n hx);exact⟨sl',e2⟩
 ·obtain⟨o',e1⟩:=I.base.there b o e hx;exact free b o' (neC b o e hx) e1 (I.base.free b o e n hx)
 ·obtain⟨o',e1⟩:=I.base.there b o e hx;exact there b o' (neC b o e hx) e1
 ·obtain⟨m1,e1⟩:=I.base.tbls b ps e;obtain⟨m2,e2⟩:=tbls b _ e1;exact⟨m1++m2,by rw [e2,Array.append_assoc]⟩
 ·obtain⟨m,hn,hl⟩:=I.loc;refine⟨m,ns m hn,λi x v e1 e2 e3=>?_⟩;obtain⟨u,r,l⟩:=hl i x v e1 e2 e3;refine⟨u,r,?_⟩;rcases l with l | ⟨k,c,e,z⟩
  ·exact .inl l
  ·exact .inr ⟨k,c,e,cellK x c e _ z⟩
 ·obtain⟨v,z⟩:=I.cell x c e;exact⟨v,cellK x c e v z⟩
 ·obtain⟨m,⟨o,_,_,ho,_⟩,_⟩:=I.loc;exact free _ o (λz=>(hch _ z).2.1 rfl) ho I.free
 ·obtain⟨v,o,ho,hd⟩:=I.cell x c e;exact free c o (λz=>(hch c z).2.2.1 x c e rfl) ho (I.freeC x c e)
 ·obtain⟨e,n,ne,nf,d⟩:=I.pin p hp;have nch:p.1 ∉ ch:=λz=>(hch p.1 z).2.2.2 p hp rfl;exact⟨keep p.1 p.2 ne nf nch e n,free p.1 p.2 nch e n,ne,nf,d⟩
theorem ag.un{t':Nat}(I:ag X ZY σ H s)(u:Un X.fs [] H H' s.heap h')(hok:bK X.prog X.w H' h'):ag X ZY σ H' {s with heap:=h',toks:=t'}:=by
 obtain⟨m,⟨o,es,ep,ho,r⟩,_⟩:=id I.loc;obtain⟨sl,hL⟩:=u.any ho I.free Yh;exact I.step (g':=s.gens) (d':=s.drawn) (ch:=[]) (λ_ z=>nomatch z) (λb o _ hb _ e n=>u.keep b o e n hb Yh) (λb o _ hb _ e n=>u.slot b o e n hb Yh) (λb o _ e n=>u.free b o e n Yh) (λb o _ e=>u.there b o e Yh) u.tups u.frzs u.tbls (λm' hm=>by
  obtain⟨o',es',ep',ho',r'⟩:=hm;rw [ho] at ho';cases ho';exact⟨_,es',ep',hL,r'⟩) hok I.bare
theorem ag.call{g':Array ZW}{t':Nat}{d':Drawn}{ch:List Yl}(I:ag X ZY σ H s)(u:Un (gi X.stack) ch H H' s.heap h')(hok:bK X.prog X.w H' h')(hg:ZC g')
 (hch:∀b∈ch,(b∈X.ex\/X.s₀.heap.objs.size<=b)/\b≠X.env.locals/\(∀x c,X.env.cells.lookup x=some c->c≠b)/\∀p∈X.pn++ZY,p.1≠b):
 ag X ZY σ H' {s with heap:=h',gens:=g',drawn:=d',toks:=t'}:=by
 obtain⟨m,⟨o,es,ep,ho,r⟩,_⟩:=id I.loc;obtain⟨sl,hL⟩:=u.any ho I.free λz=>(hch _ z).2.1 rfl;exact I.step (ch:=ch) hch (λb o hL hb hc e n=>u.keep b o e n (λz=>(QX.mp (I.stkSub b z)).elim hL hb) hc) (λb o _ _ hc e n=>u.any e n hc) (λb o hc e n=>u.free b o e n hc) (λb o hc e=>u.there b o e hc) u.tups u.frzs u.tbls (λm' hm=>by
  obtain⟨o',es',ep',ho',r'⟩:=hm;rw [ho] at ho';cases ho';exact⟨_,es',ep',hL,r'⟩) hok hg
theorem ag.turned{t':Nat}{it:Yl}(I:ag X ZY σ H s)(k:∀b o,b≠it->s.heap.get? b=some o->h'.get? b=some o)(hn:H it=none)(hL:it≠X.env.locals)
 (h1:it∈X.ex\/X.s₀.heap.objs.size<=it)(h2:∀x c,X.env.cells.lookup x=some c->c≠it)(h3:∀p∈X.pn++ZY,p.1≠it):ag X ZY σ H {s with heap:=h',toks:=t'}:=by
 have nit:∀b u,H b=some u->b≠it:=λb u e z=>by rw [z,hn] at e;cases e
 refine I.step (g':=s.gens) (d':=s.drawn) (ch:=[it]) (λb hb=>?_) (λb o _ _ hc e _=>k b o (λz=>hc (by simp [z])) e) (λb o _ _ hc e _=>⟨o.slots,k b o (λz=>hc (by simp [z])) e⟩) (λ_ _ _ _ n=>n)
  (λb o hc e=>⟨o,k b o (λz=>hc (by simp [z])) e⟩) (λ_ _ e=>e) (λ_ _ _ e=>e) (λb ps e=>⟨#[],by rw [e];simp⟩) (λm hm=>?_) (λb u e=>?_) I.bare
 ·have e:b=it:=by simpa using hb
  subst e;exact⟨h1,hL,h2,h3⟩
 ·obtain⟨o,es,ep,ho,r⟩:=hm;exact⟨o,es,ep,k _ o (Ne.symm hL) ho,r⟩
 ·refine(I.hok b u e).stay (λc v hc q=>k c v ?_ q) (λ_ q=>q) λ_ _ q=>q;rcases hc with z | z
  ·rw [z];exact nit b u e
  ·exact nit c _ z
theorem ag.tok(I:ag X ZY σ H s)(t:Nat):ag X ZY σ H {s with toks:=t}:=I.un (h':=s.heap) (t':=t) Un.refl I.hok
theorem ag.kept{t':Nat}(I:ag X ZY σ H s)(k:∀b u,s.heap.get? b=some u->h'.get? b=some u):ag X ZY σ H {s with heap:=h',toks:=t'}:=I.un (Un.kept k) (I.hok.kept k)
theorem ag.laid{a:Yl}{o:HO}{t':Nat}(I:ag X ZY σ H s)(k:∀b u,s.heap.get? b=some u->h'.get? b=some u)(hp:s.heap.objs.size<=a)(new:cj X.prog X.w (ah H a o) h' a o):
 ag X ZY σ (ah H a o) {s with heap:=h',toks:=t'}:=I.un (Un.laid k hp (I.hok.fresh hp)) (I.hok.laid k hp new)
theorem ag.write{x e:Yl}{o:HO}{t':Nat}(I:ag X ZY σ H s)(mu:p8 (H x))(he:e=x\/H e=some (.own x))(k:∀b u,b≠e->s.heap.get? b=some u->h'.get? b=some u)(heo:∃u,h'.get? e=some u)
 (new:cj X.prog X.w (ah H x o) h' x o):ag X ZY σ (ah H x o) {s with heap:=h',toks:=t'}:=I.un (Un.write mu he k heo) (I.hok.write mu he k heo new)
theorem ag.weak{σ':List (Option V)}(I:ag X ZY σ H s)(hl:σ'.length=σ.length)(w:∀(i:Nat) v,σ'[i]?=some (some v)->σ[i]?=some (some v)):ag X ZY σ' H s:=
 ⟨I.ok,I.os,I.bare,I.base,let ⟨m,hn,hl'⟩:=I.loc;⟨m,hn,λi x v e1 e2 e3=>hl' i x v e1 (w i v e2) e3⟩,I.cell,I.free,I.freeC,I.pin,I.hok,hl.trans I.len⟩
theorem ag.pins_of{pins':List (Yl×Obj)}(I:ag X ZY σ H s)(h:∀p∈pins',s.heap.get? p.1=some p.2/\H p.1=none/\p.1≠X.env.locals/\p.1 ∉ X.fs/\∀v,p.2.data≠ .cell v):ag X pins' σ H s:=
 ⟨I.ok,I.os,I.bare,I.base,I.loc,I.cell,I.free,I.freeC,λp hp=>(Q9.mp hp).elim (λz=>I.pin p (UX _ z)) (h p),I.hok,I.len⟩
theorem AD{N:List Str}(hN:N.Nodup){i j:Nat}{x:Str}(a:N[i]?=some x)(b:N[j]?=some x):i=j:=by
 obtain⟨h1,e1⟩:=QZ.mp a;obtain⟨h2,e2⟩:=QZ.mp b;exact(Vt hN).mp (e1.trans e2.symm)
theorem AE{M:Model}{A:Yz}{E:Yj->Ym->Prop}{i:Nat}{x:Str}{v:V}{u:Yj}{Q:Unit->Ym->Prop}(I:ag X ZY σ H s)(hN:X.N.Nodup)(hi:X.N[i]?=some x)(hx:gW X.env.scope x)(r:aJ v u)
 (h:∀s',ag X ZY (σ.set i (some v)) H s'->(∃a,Tp a s.heap s'.heap/\(a=X.env.locals\/X.env.cells.lookup x=some a))->Q () s')(hf:X.fn x=true\/X.env.scope.names.lookup x=some .local:=by first | exact .inl rfl | exact .inr rfl | assumption):Yo M A (storeName X.env x u) Q E s:=by
 obtain⟨m,hn,hl⟩:=id I.loc;have hcls:(X.env.scope.kind== .class || (X.env.scope.kind== .module && X.env.locals !=X.env.globals))=false:=by rw [I.ok.kind];rfl
 have hiσ:i < σ.length:=by rw [I.len];exact(QZ.mp hi).1
 have cne:=I.cne;have tracked:∀{a:Yl}{h':Yw},(∃o,s.heap.get? a=some o/\H a=none)->Tp a s.heap h'->bK X.prog X.w H h':=λ{a h'} ha hs b ob e=>by
  obtain⟨_,_,hfree⟩:=ha;refine(I.hok b ob e).stay (λc w' hc q=>(hs.2 c ?_).trans q) (λ_ q=>q) λ_ _ q=>q;rintro rfl;rcases hc with rfl | hc
  ·rw [hfree] at e;cases e
  ·rw [hfree] at hc;cases hc
 rcases hx with hk | hk
 ·refine wpAny_storeName_local hk hn (λh' hn' hs=>?_) hcls;obtain⟨oL,_,_,hoL,_⟩:=id hn;refine h _ ⟨I.ok,I.os,I.bare,⟨λb o e n hb hx=>?_,λb o e n hb hx=>?_,I.base.free,λb o e hx=>?_,I.base.tups,I.base.frzs,I.base.tbls⟩,⟨_,hn',λj y v' e1 e2 e3=>?_⟩,λy c e=>?_,I.free,I.freeC,λp hp=>?_,tracked ⟨oL,hoL,I.free⟩ hs,by simpa using I.len⟩ ⟨_,hs,.inl rfl⟩
  ·exact(hs.2 b (Rz (RX (Q7 e) I.ok.above))).trans (I.base.keep b o e n hb hx)
  ·obtain⟨sl,e1⟩:=I.base.slot b o e n hb hx;exact⟨sl,(hs.2 b (Rz (RX (Q7 e) I.ok.above))).trans e1⟩
  ·obtain⟨o',e1⟩:=I.base.there b o e hx;exact⟨o',(hs.2 b (Rz (RX (Q7 e) I.ok.above))).trans e1⟩
  ·by_cases hj:j=i
   ·subst hj;rw [hi] at e1;cases e1;rw [Rk hiσ] at e2;cases e2;exact⟨u,r,.inl ⟨hk,Yh⟩⟩
   ·rw [Q6 (Ne.symm hj)] at e2;obtain⟨u',r',q⟩:=hl j y v' e1 e2 e3;refine⟨u',r',?_⟩;rcases q with⟨k,e⟩ | ⟨k,c,e,z⟩
    ·refine .inl ⟨k,?_⟩;have:y≠x:=λe=>hj (AD hN e1 (e▸hi));simp [this,e]
    ·exact .inr ⟨k,c,e,z.sameBut hs (cne y c e)⟩
  ·obtain⟨w',z⟩:=I.cell y c e;exact⟨w',z.sameBut hs (cne y c e)⟩
  ·obtain⟨e,n,ne,nf,d⟩:=I.pin p hp;exact⟨(hs.2 p.1 ne).trans e,n,ne,nf,d⟩
 ·have hfn:X.fn x=true:=by
   rcases hf with z | z
   ·exact z
   ·rw [z] at hk;cases hk
  obtain⟨c,hc⟩:=I.ok.has x (.inl hk);obtain⟨w',z⟩:=I.cell x c hc;refine wpAny_storeName_cell I.ok.kind hk hc z (λh' hc' hs=>?_);obtain⟨oc,hoc,hocd⟩:=id z;refine h {s with heap:=h'} ⟨I.ok,I.os,I.bare,⟨λb o e n hb hx=>?_,λb o e n hb hx=>?_,I.base.free,λb o e hx=>?_,I.base.tups,I.base.frzs,I.base.tbls⟩,⟨m,hn.sameBut hs (Ne.symm (cne x c hc)),λj y v' e1 e2 e3=>?_⟩,λy c' e=>?_,I.free,I.freeC,λp hp=>?_,tracked ⟨oc,hoc,I.freeC x c hc⟩ hs,by simpa using I.len⟩ ⟨c,hs,.inr hc⟩
  ·exact(hs.2 b (Rz (RX (Q7 e) (I.ok.cab x c hfn hc)))).trans (I.base.keep b o e n hb hx)
  ·obtain⟨sl,e1⟩:=I.base.slot b o e n hb hx;exact⟨sl,(hs.2 b (Rz (RX (Q7 e) (I.ok.cab x c hfn hc)))).trans e1⟩
  ·obtain⟨o',e1⟩:=I.base.there b o e hx;exact⟨o',(hs.2 b (Rz (RX (Q7 e) (I.ok.cab x c hfn hc)))).trans e1⟩
  ·by_cases hj:j=i
   ·subst hj;rw [hi] at e1;cases e1;rw [Rk hiσ] at e2;cases e2;exact⟨u,r,.inr ⟨.inl hk,c,hc,hc'⟩⟩
   ·rw [Q6 (Ne.symm hj)] at e2;obtain⟨u',r',q⟩:=hl j y v' e1 e2 e3;refine⟨u',r',?_⟩;rcases q with q | ⟨k,c',e,z'⟩
    ·exact .inl q
    ·refine .inr ⟨k,c',e,z'.sameBut hs ?_⟩;rintro rfl;exact hj (AD hN e1 (I.ok.inj _ _ _ e hc▸hi))
  ·by_cases hcc:c'=c
   ·subst hcc;exact⟨_,hc'⟩
   ·obtain⟨w2,z2⟩:=I.cell y c' e;exact⟨w2,z2.sameBut hs hcc⟩
  ·obtain⟨e,n,ne,nf,d⟩:=I.pin p hp;refine⟨(hs.2 p.1 ?_).trans e,n,ne,nf,d⟩;intro q;rw [q,hoc] at e;have q':oc=p.2:=RT e;exact d w' (by rw [<-q'];exact hocd)
theorem AF{M:Model}{A:Yz}{E:Yj->Ym->Prop}{i:Nat}{x:Str}{v:V}{u:Yj}{Q:Unit->Ym->Prop}(I:ag X ZY σ H s)(hN:X.N.Nodup)(hi:X.N[i]?=some x)(hx:gW X.env.scope x)(r:aJ v u)
 (h:∀s',ag X ZY (σ.set i (some v)) H s'->Q () s')(hf:X.fn x=true\/X.env.scope.names.lookup x=some .local:=by first | exact .inl rfl | exact .inr rfl | assumption):Yo M A (storeName X.env x u) Q E s:=
 AE I hN hi hx r (λs' I' _=>h s' I') hf
theorem ag.call'{s':Ym}{ch:List Yl}(I:ag X ZY σ H s)(ho:s'.os=s.os)(u:Un (gi X.stack) ch H H' s.heap s'.heap)(hok:bK X.prog X.w H' s'.heap)(hg:ZC s'.gens)
 (hch:∀b∈ch,(b∈X.ex\/X.s₀.heap.objs.size<=b)/\b≠X.env.locals/\(∀x c,X.env.cells.lookup x=some c->c≠b)/\∀p∈X.pn++ZY,p.1≠b):ag X ZY σ H' s':=by
 obtain⟨h',g',d',t',o'⟩:=s';have e:o'=s.os:=ho;subst e;exact I.call (g':=g') (t':=t') (d':=d') u hok hg hch
end
abbrev XK:=Yj->Option Yl->Hp->Prop
abbrev St:=List (Option V)
abbrev VK:=V->Hp->Prop
abbrev TE:=St->Hp->VK->Prop
abbrev TT:=St->Hp->(Bool->Hp->Prop)->Prop
abbrev TA:=St->Hp->(List V->Hp->Prop)->Prop
structure i3 where
 nx:St->Hp->Prop
 rt:VK
 bk:St->Hp->Prop:=λ_ _=>False
 ct:St->Hp->Prop:=λ_ _=>False
abbrev TS:=i3->St->Hp->Prop
def EP(X:Cx)(ZY:List (Yl×Obj))(σ:St)(Q:VK)(u:Yj)(s':Ym):Prop:=∃v H',ag X ZY σ H' s'/\aJ v u/\Q v H'
def TP(X:Cx)(ZY:List (Yl×Obj))(σ:St)(Q:Bool->Hp->Prop)(b:Bool)(s':Ym):Prop:=∃H',ag X ZY σ H' s'/\Q b H'
def AP(X:Cx)(ZY:List (Yl×Obj))(σ:St)(Q:List V->Hp->Prop)(us:List Yj)(s':Ym):Prop:=∃vs H',ag X ZY σ H' s'/\aI vs us/\Q vs H'
def SP(X:Cx)(ZY:List (Yl×Obj))(D:i3)(f:Flow)(s':Ym):Prop:=
 match f with
 | .next=>∃σ' H',ag X ZY σ' H' s'/\D.nx σ' H'
 | .brk=>∃σ' H',ag X ZY σ' H' s'/\D.bk σ' H'
 | .cont=>∃σ' H',ag X ZY σ' H' s'/\D.ct σ' H'
 | .ret u=>∃v σ' H',ag X ZY σ' H' s'/\aJ v u/\D.rt v H'
def PE(X:Cx)(e:Yr)(t:TE):Prop:=
 ∀(ZY:List (Yl×Obj))(s:Ym)(σ:St)(H:Hp)(Q:VK),ag X ZY σ H s->t σ H Q->Yo (Yq X.prog X.w) X.A (eval e X.env) (EP X ZY σ Q) X.xe s
def PT(X:Cx)(e:Yr)(t:TT):Prop:=
 ∀(ZY:List (Yl×Obj))(s:Ym)(σ:St)(H:Hp)(Q:Bool->Hp->Prop),ag X ZY σ H s->t σ H Q->Yo (Yq X.prog X.w) X.A (isTrue e X.env (eval e X.env)) (TP X ZY σ Q) X.xe s
def PW(X:Cx)(e:Yr)(t:TT):Prop:=
 ∀(whole:Sem Yj)(ZY:List (Yl×Obj))(s:Ym)(σ:St)(H:Hp)(Q:Bool->Hp->Prop),ag X ZY σ H s->t σ H Q->Yo (Yq X.prog X.w) X.A (isTrue e X.env whole) (TP X ZY σ Q) X.xe s
theorem PW.pt{X:Cx}{e:Yr}{t:TT}(h:PW X e t):PT X e t:=h _
def PA(X:Cx)(es:List Yr)(t:TA):Prop:=
 ∀(pos:Pos)(ZY:List (Yl×Obj))(s:Ym)(σ:St)(H:Hp)(Q:List V->Hp->Prop),ag X ZY σ H s->t σ H Q->Yo (Yq X.prog X.w) X.A (spliced (YC pos (Yp es X.env))) (AP X ZY σ Q) X.xe s
def PS(X:Cx)(st:Yx)(t:TS):Prop:=
 ∀(ZY:List (Yl×Obj))(s:Ym)(σ:St)(H:Hp)(D:i3),ag X ZY σ H s->t D σ H->Yo (Yq X.prog X.w) X.A (exec st X.env) (SP X ZY D) X.xe s
def bP(X:Cx)(st:List Yx)(t:TS):Prop:=
 ∀(ZY:List (Yl×Obj))(s:Ym)(σ:St)(H:Hp)(D:i3),ag X ZY σ H s->t D σ H->Yo (Yq X.prog X.w) X.A (execs st X.env) (SP X ZY D) X.xe s
theorem aB{α:Type}{t:Sem α}{Q Q':α->Ym->Prop}{M:Model}{A:Yz}{E:Yj->Ym->Prop}{s:Ym}(h:Yo M A t Q E s)(hQ:∀a s,Q a s->Q' a s):Yo M A t Q' E s:=YJ h hQ λ_ _ x=>x
section
variable {X:Cx}
theorem QG{a b:Yr}{ta tb:TE}(ha:PE X a ta)(hb:PE X b tb){ZY:List (Yl×Obj)}{s:Ym}{σ:St}{H:Hp}{R:V->V->Hp->Prop}(I:ag X ZY σ H s)(h:ta σ H λx H1=>tb σ H1 λy H2=>R x y H2)
 {α:Type}{Q:α->Ym->Prop}{f:Yj->Yj->Sem α}
 (hf:∀v u s2 x y H2,ag X ZY σ H2 s2->aJ x v->aJ y u->R x y H2->Yo (Yq X.prog X.w) X.A (f v u) Q X.xe s2):
 Yo (Yq X.prog X.w) X.A (eval a X.env) (λv s₁=>Yo (Yq X.prog X.w) X.A (eval b X.env) (λu s₂=>Yo (Yq X.prog X.w) X.A (f v u) Q X.xe s₂) X.xe s₁) X.xe s:=by
 refine aB (ha ZY s σ H _ I h) λv s1 ⟨x,H1,I1,r1,q1⟩=>?_;refine aB (hb ZY s1 σ H1 _ I1 q1) λu s2 ⟨y,H2,I2,r2,q2⟩=>?_;exact hf v u s2 x y H2 I2 r1 r2 q2
def cJ(i:Nat):TE:=λσ H Q=>∃v,σ[i]?=some (some v)/\Q v H
def tC(v:V):TE:=λ_ H Q=>Q v H
theorem uG{i:Nat}{x:Str}{pos:Pos}(hN:X.N[i]?=some x)(hv:p9 X.env.scope x)(hd:(x==("__debug__":Str))=false:=by decide)(hcd:(x==("__classdict__":Str))=false:=by decide):PE X (.Name x pos) (cJ i):=by
 intro ZY s σ H Q I h;obtain⟨v,e,h⟩:=h;obtain⟨m,hn,hl⟩:=I.loc;obtain⟨u,r,l⟩:=hl i x v hN e hv;have fin:EP X ZY σ Q u s:=⟨v,H,I,r,h⟩;rcases l with⟨hk,hm⟩ | ⟨hk,c,hc,hcell⟩
 ·exact wpAny_Name (wpAny_loadName_local I.ok.kind hk hn hm fin) hd
 ·rcases hk with hk | hk
  ·exact wpAny_Name (wpAny_loadName_cell I.ok.kind hk hc hcell fin) hd
  ·exact wpAny_Name (wpAny_loadName_free I.ok.kind hk hc hcell fin hcd) hd
theorem bL{i j pos}:PE X (.Constant (.int i) j pos) (tC (.int i)):=λ_ _ _ H _ I h=>wpAny_Constant_int ⟨.int i,H,I.tok _,⟨_,rfl⟩,h⟩
theorem AG{b j pos}:PE X (.Constant (.bool b) j pos) (tC (.bl b)):=λ_ _ _ H _ I h=>Constant_bool ⟨.bl b,H,I,rfl,h⟩
theorem Hm{j pos}:PE X (.Constant .none j pos) (tC .non):=λ_ _ _ H _ I h=>Constant_none ⟨.non,H,I,rfl,h⟩
theorem uH{x j pos}:PE X (.Constant (.str x) j pos) (tC (.str x)):=λ_ _ _ H _ I h=>Calls.Constant_str ⟨.str x,H,I.tok _,⟨_,rfl⟩,h⟩
def Gl(X:Cx)(x:Str):Prop:=X.env.kindOf x=some .globalImplicit
theorem qa{E:Yj->Ym->Prop}{ZY:List (Yl×Obj)}{s:Ym}{σ:St}{H:Hp}{x:Str}{u:Yj}{pos:Pos}{Q:Yj->Ym->Prop}(I:ag X ZY σ H s)(hg:Gl X x)(hm:X.mg x=some u)(h:Q u s)
 (hd:(x==("__debug__":Str))=false:=by decide):Yo (Yq X.prog X.w) X.A (eval (.Name x pos) X.env) Q E s:=
 VT I.ok.kind hg (Calls.loadGlobal_global (by rw [I.ok.glob];exact I.mod.glob.keeps I.bk) hm h) hd
theorem nO{E:Yj->Ym->Prop}{ZY:List (Yl×Obj)}{s:Ym}{σ:St}{H:Hp}{x:Str}{u:Yj}{pos:Pos}{Q:Yj->Ym->Prop}(I:ag X ZY σ H s)(hg:Gl X x)(hm:X.mg x=none)(hv:YI x=some u)(h:Q u s)
 (hn:x≠"__name__":=by decide)(hd:(x==("__debug__":Str))=false:=by decide):Yo (Yq X.prog X.w) X.A (eval (.Name x pos) X.env) Q E s:=by
 obtain⟨mb,h1,h2⟩:=I.mod.blt;exact VT I.ok.kind hg (Calls.loadGlobal_builtin (by rw [I.ok.glob];exact I.mod.glob.keeps I.bk) hm (by rw [I.ok.blt];exact h1.keeps I.bk) ((h2 x hn).trans hv) h) hd
theorem oN{x:Str}{v:V}{u:Yj}{pos:Pos}(hg:Gl X x)(hm:X.mg x=some u)(r:aJ v u)(hd:(x==("__debug__":Str))=false:=by decide):PE X (.Name x pos) (tC v):=
 λ_ _ _ H _ I h=>qa I hg hm ⟨v,H,I,r,h⟩ hd
variable {a b:Yr} {ta tb:TE} {pos:Pos}
def PC(X:Cx)(op:CmpOp)(a b:Yr)(t:TE):Prop:=
 ∀(ZY:List (Yl×Obj))(s:Ym)(σ:St)(H:Hp)(Q:VK),ag X ZY σ H s->t σ H Q->
  Yo (Yq X.prog X.w) X.A (eval a X.env) (λv s₁=>Yo (Yq X.prog X.w) X.A (eval b X.env) (λu s₂=>Yo (Yq X.prog X.w) X.A (YF op v u) (EP X ZY σ Q) X.xe s₂) X.xe s₁) X.xe s
theorem Hn(b:Yr){op:CmpOp}(h:op≠ .In)(h2:op≠ .NotIn):YO op b=false:=by
 have e1:(op==CmpOp.In)=false:=by cases op <;> first | rfl | exact absurd rfl h
 have e2:(op==X2)=false:=by cases op <;> first | rfl | exact absurd rfl h2
 cases b <;> simp [YO,e1,e2]
def AH(ta:TE):TE:=λσ H Q=>ta σ H λx H1=>Q (.bl (!decide (x= .non))) H1
theorem aJ.none_iff{x:V}{v:Yj}(r:aJ x v):(v==SH)=decide (x= .non):=by
 cases x with
 | non=>cases r;rfl
 | bl _=>cases r;rfl
 | int _=>obtain⟨t,rfl⟩:=r;rfl
 | str _=>obtain⟨t,rfl⟩:=r;rfl
 | byt _=>obtain⟨t,rfl⟩:=r;rfl
 | flt _=>obtain⟨t,rfl⟩:=r;rfl
 | ref _=>cases r;rfl
 | ty _=>cases r;rfl
theorem Ho{j pos'}(ha:PE X a ta):PC X .IsNot a (.Constant .none j pos') (AH ta):=by
 intro ZY s σ H Q I h;refine aB (ha ZY s σ H _ I h) λv s1 ⟨x,H1,I1,r1,q1⟩=>?_;exact Constant_none (isnot_none_gen ⟨.bl _,H1,I1,by rw [r1.none_iff];rfl,q1⟩)
def tB(t:TE):TT:=λσ H Q=>t σ H λx H1=>∃c,x= .bl c/\Q c H1
theorem rE{op:CmpOp}{t:TE}(h:PC X op a b t)(h1:YO op b=false:=by first | exact Hn _ Yc Yc | rfl):PT X (.Compare a [op] [b] pos) (tB t):=by
 intro ZY s σ H Q I hw;refine wpAny_isTrue_Compare1 (aB (h ZY s σ H _ I hw) λv s1 h1=>aB h1 λu s2 h2=>aB h2 λc s3 ⟨x,H1,I1,r1,q1⟩=>?_) h1;obtain⟨d,rfl,q⟩:=q1;cases r1;exact YT ⟨H1,I1,q⟩
theorem AI{e:Yr}{t:TE}(h:PE X e t)(he:∀whole,isTrue e X.env whole=(do let v<-whole;ZD e.pos;Zs [v] (truthy v)):=by intro _;rfl):PT X e (tB t):=by
 intro ZY s σ H Q I hw;refine isTrue_plain (aB (h ZY s σ H _ I hw) λv s1 ⟨x,H1,I1,r1,q1⟩=>?_) (he _);obtain⟨d,rfl,q⟩:=q1;cases r1;exact YT ⟨H1,I1,q⟩
variable {tA tB':TT} {rest:List Yr}
def AJ(t u:TT):TT:=λσ H Q=>t σ H λc H1=>if c=true then u σ H1 Q else Q false H1
def AK(t u:TT):TT:=λσ H Q=>t σ H λc H1=>if c=true then Q true H1 else u σ H1 Q
def AL(t:TT):TT:=λσ H Q=>t σ H λc H1=>Q (!c) H1
theorem AM(ha:PT X a tA):PW X (.BoolOp .And [a] pos) tA:=by
 intro wh ZY s σ H Q I h;refine isTrue_and (aB (ha ZY s σ H Q I h) λc s1 e=>?_);cases c with
 | true=>exact isTrue_and_nil e
 | false=>exact e
theorem Hq(ha:PT X a tA):PW X (.BoolOp .Or [a] pos) tA:=by
 intro wh ZY s σ H Q I h;refine isTrue_or (aB (ha ZY s σ H Q I h) λc s1 e=>?_);cases c with
 | false=>exact isTrue_or_nil e
 | true=>exact e
theorem AN(ha:PT X a tA)(hb:PW X (.BoolOp .And (b::rest) pos) tB'):PW X (.BoolOp .And (a::b::rest) pos) (AJ tA tB'):=by
 intro wh ZY s σ H Q I h;refine isTrue_and (aB (ha ZY s σ H _ I h) λc s1 ⟨H1,I1,q1⟩=>?_);cases c with
 | true=>exact hb wh ZY s1 σ H1 Q I1 q1
 | false=>exact⟨H1,I1,q1⟩
theorem Hr(ha:PT X a tA)(hb:PW X (.BoolOp .Or (b::rest) pos) tB'):PW X (.BoolOp .Or (a::b::rest) pos) (AK tA tB'):=by
 intro wh ZY s σ H Q I h;refine isTrue_or (aB (ha ZY s σ H _ I h) λc s1 ⟨H1,I1,q1⟩=>?_);cases c with
 | true=>exact⟨H1,I1,q1⟩
 | false=>exact hb wh ZY s1 σ H1 Q I1 q1
theorem Hs(ha:PT X a tA):PT X (.UnaryOp .Not a pos) (AL tA):=by
 intro ZY s σ H Q I h;exact isTrue_not (ha ZY s σ H (λc H1=>Q (!c) H1) I h)
def AO(ta tb:TE):TE:=λσ H Q=>ta σ H λx H1=>∃c,x= .bl c/\if c=true then tb σ H1 Q else Q (.bl false) H1
def AQ(ta tb:TE):TE:=λσ H Q=>ta σ H λx H1=>∃c,x= .bl c/\if c=true then Q (.bl true) H1 else tb σ H1 Q
theorem uI{op}{t:TE}(h:PE X a t):PE X (.BoolOp op [a] pos) t:=λZY s σ H Q I hw=>BoolOp_one (h ZY s σ H Q I hw)
theorem AR(ha:PE X a ta)(hb:PE X (.BoolOp .And (b::rest) pos) tb):PE X (.BoolOp .And (a::b::rest) pos) (AO ta tb):=by
 intro ZY s σ H Q I h;refine BoolOp_and (aB (ha ZY s σ H _ I h) λv s1 ⟨x,H1,I1,r1,q1⟩=>?_);obtain⟨c,rfl,q1⟩:=q1;cases r1;refine YT ?_;cases c with
 | true=>exact hb ZY s1 σ H1 Q I1 q1
 | false=>exact⟨.bl false,H1,I1,rfl,q1⟩
theorem AS(ha:PE X a ta)(hb:PE X (.BoolOp .Or (b::rest) pos) tb):PE X (.BoolOp .Or (a::b::rest) pos) (AQ ta tb):=by
 intro ZY s σ H Q I h;refine BoolOp_or (aB (ha ZY s σ H _ I h) λv s1 ⟨x,H1,I1,r1,q1⟩=>?_);obtain⟨c,rfl,q1⟩:=q1;cases r1;refine YT ?_;cases c with
 | false=>exact hb ZY s1 σ H1 Q I1 q1
 | true=>exact⟨.bl true,H1,I1,rfl,q1⟩
def AU(t:TT)(ta tb:TE):TE:=λσ H Q=>t σ H λc H1=>if c=true then ta σ H1 Q else tb σ H1 Q
theorem AV{c:Yr}(hc:PT X c tA)(ha:PE X a ta)(hb:PE X b tb):PE X (.IfExp c a b pos) (AU tA ta tb):=by
 intro ZY s σ H Q I h;refine wpAny_IfExp (aB (hc ZY s σ H _ I h) λd s1 ⟨H1,I1,q1⟩=>?_);cases d with
 | true=>exact ha ZY s1 σ H1 Q I1 q1
 | false=>exact hb ZY s1 σ H1 Q I1 q1
end
def bo(K:QN)(H:Hp)(a:Yl)(xs:List V):Prop:=
 Rd H a (.lst xs)\/
  ∃(o:Obj)(its:Array Yj)(n:Nat),K.lookup a=some o/\o.cls= .type "list"/\o.dict=none/\o.data= .seq its n/\its.size<=Yt/\aI xs its.toList
def aZ(K:QN)(H:Hp)(a:Yl)(xs:List V):Prop:=
 Rd H a (.tup xs)\/
  ∃(o:Obj)(its:Array Yj)(n:Nat),K.lookup a=some o/\o.cls= .type "tuple"/\o.data= .seq its n/\its.size<=Yt/\aI xs its.toList
def Ht:Yj->Option V
 | .none=>some .non
 | .bool b=>some (.bl b)
 | .int i _=>some (.int i)
 | .str x _=>some (.str x)
 | .bytes b _=>some (.byt b)
 | .float b _=>some (.flt b)
 | .ref a=>some (.ref a)
 | .type n=>some (.ty n)
 | _=>none
theorem aJ.abs{x:V}{u:Yj}(r:aJ x u):Ht u=some x:=by
 cases x with
 | non=>cases r;rfl
 | bl _=>cases r;rfl
 | int _=>obtain⟨t,rfl⟩:=r;rfl
 | str _=>obtain⟨t,rfl⟩:=r;rfl
 | byt _=>obtain⟨t,rfl⟩:=r;rfl
 | flt _=>obtain⟨t,rfl⟩:=r;rfl
 | ref _=>cases r;rfl
 | ty _=>cases r;rfl
theorem aJ.inj{x y:V}{u:Yj}(r:aJ x u)(q:aJ y u):x=y:=RT (r.abs.symm.trans q.abs)
theorem aI.inj:∀{xs ys:List V}{us:List Yj},aI xs us->aI ys us->xs=ys
 | _,_,_,.nil,.nil=>rfl
 | _,_,_,.cons r t,.cons r' t'=>by rw [r.inj r',aI.inj t t']
section
variable {X:Cx} {ZY:List (Yl×Obj)} {σ:St} {H:Hp} {s:Ym} {a:Yl} {xs ys:List V}
theorem bo.of{K:QN}(h:H a=some (.lst xs)):bo K H a xs:= .inl (.inl h)
theorem aZ.of{K:QN}(h:H a=some (.tup xs)):aZ K H a xs:= .inl (.inl h)
theorem ag.list(I:ag X ZY σ H s)(h:bo X.K H a xs):∃its:List Yj,aI xs its/\PlainL s.heap a its.toArray/\xs.length<=Yt:=by
 rcases h with h | ⟨o,its,n,hk,hc,hd,hs,hz,r⟩
 ·obtain⟨z,its,n,r,e⟩:=h.ok I.hok;exact⟨its,r,⟨_,n,e,rfl,rfl,rfl⟩,z⟩
 ·refine⟨its.toList,r,⟨o,n,I.kIn a o hk,hc,hd,by simpa using hs⟩,?_⟩;have e:=r.length;simp only [Ru] at e;omega
theorem ag.tuple(I:ag X ZY σ H s)(h:aZ X.K H a xs):∃its:List Yj,aI xs its/\IsTup s.heap a its.toArray/\xs.length<=Yt:=by
 rcases h with h | ⟨o,its,n,hk,hc,hs,hz,r⟩
 ·obtain⟨z,its,r,p⟩:=h.ok I.hok;exact⟨its,r,p,z⟩
 ·refine⟨its.toList,r,⟨o,I.kIn a o hk,hc,n,by simpa using hs⟩,?_⟩;have e:=r.length;simp only [Ru] at e;omega
theorem ag.list_inj(I:ag X ZY σ H s)(h:bo X.K H a xs)(h':bo X.K H a ys):xs=ys:=by
 obtain⟨its,r,⟨o,n,e,_,_,d⟩,_⟩:=I.list h;obtain⟨its',r',⟨o',n',e',_,_,d'⟩,_⟩:=I.list h';rw [e] at e';cases e';rw [d] at d';injection d' with d1 _
 have:its=its':=by simpa using congrArg XW d1
 subst this;exact r.inj r'
theorem ag.tuple_inj(I:ag X ZY σ H s)(h:aZ X.K H a xs)(h':aZ X.K H a ys):xs=ys:=by
 obtain⟨its,r,⟨o,e,_,n,d⟩,_⟩:=I.tuple h;obtain⟨its',r',⟨o',e',_,n',d'⟩,_⟩:=I.tuple h';rw [e] at e';cases e';rw [d] at d';injection d' with d1 _
 have:its=its':=by simpa using congrArg XW d1
 subst this;exact r.inj r'
end
abbrev Cx.wish(X:Cx)(E:Yj->Ym->Prop):Cx:={X with xe:=E}
abbrev Cx.nox(X:Cx):Cx:=X.wish λ_ _=>False
theorem Cx.Ok.wish{X:Cx}(ok:X.Ok)(E:Yj->Ym->Prop):(X.wish E).Ok:=
 ⟨ok.mod,ok.kind,ok.glob,ok.blt,ok.above,ok.inj,ok.has,ok.cab,ok.hd,ok.frames,ok.stk,ok.exf,ok.bs,ok.bsz,ok.noex,ok.exfs,ok.funs,ok.frf⟩
theorem Cx.Ok.unwish{X:Cx}{E:Yj->Ym->Prop}(ok:(X.wish E).Ok):X.Ok:=
 ⟨ok.mod,ok.kind,ok.glob,ok.blt,ok.above,ok.inj,ok.has,ok.cab,ok.hd,ok.frames,ok.stk,ok.exf,ok.bs,ok.bsz,ok.noex,ok.exfs,ok.funs,ok.frf⟩
section
variable {X:Cx} {ZY:List (Yl×Obj)} {σ:St} {H:Hp} {s:Ym} {E:Yj->Ym->Prop}
theorem ag.wish(I:ag X ZY σ H s)(E:Yj->Ym->Prop):ag (X.wish E) ZY σ H s:=⟨I.ok.wish E,I.os,I.bare,I.base,I.loc,I.cell,I.free,I.freeC,I.pin,I.hok,I.len⟩
theorem ag.unwish(I:ag (X.wish E) ZY σ H s):ag X ZY σ H s:=⟨I.ok.unwish,I.os,I.bare,I.base,I.loc,I.cell,I.free,I.freeC,I.pin,I.hok,I.len⟩
theorem SP.unwish{D:i3}{f:Flow}{s':Ym}(h:SP (X.wish E) ZY D f s'):SP X ZY D f s':=by
 cases f with
 | next=>obtain⟨σ',H',I,q⟩:=h;exact⟨σ',H',I.unwish,q⟩
 | brk=>obtain⟨σ',H',I,q⟩:=h;exact⟨σ',H',I.unwish,q⟩
 | cont=>obtain⟨σ',H',I,q⟩:=h;exact⟨σ',H',I.unwish,q⟩
 | ret u=>obtain⟨v,σ',H',I,r,q⟩:=h;exact⟨v,σ',H',I.unwish,r,q⟩
theorem bP.nox{st:List Yx}{t:TS}(h:bP X.nox st t):bP X st t:=λZY s σ H D I hw=>
 YJ (h ZY s σ H D (I.wish _) hw) (λ_ _ q=>q.unwish) λ_ _ z=>SQ z
end
section
variable {X:Cx} {st:Yx} {rest:List Yx} {t u:TS} {e:Yr} {te:TE} {pos:Pos}
def AW:TS:=λD σ H=>D.nx σ H
def uJ(t u:TS):TS:=λD σ H=>t {D with nx:=u D} σ H
theorem oO:bP X [] AW:=λ_ _ σ H _ I h=>ZF ⟨σ,H,I,h⟩
theorem cN(h1:PS X st t)(h2:bP X rest u):bP X (st::rest) (uJ t u):=by
 intro ZY s σ H D I h;refine wpAny_execs_cons (aB (h1 ZY s σ H {D with nx:=u D} I h) λf s1 q=>?_);cases f with
 | next=>
  obtain⟨σ',H',I',q⟩:=q;exact h2 ZY s1 σ' H' D I' q
 | ret v=>exact q
 | brk=>exact q
 | cont=>exact q
theorem eX(h1:PS X st t):bP X [st] t:=by
 intro ZY s σ H D I h;refine wpAny_execs_cons (aB (h1 ZY s σ H D I h) λf s1 q=>?_);cases f with
 | next=>exact ZF q
 | ret v=>exact q
 | brk=>exact q
 | cont=>exact q
theorem ag.quiet{ZY:List (Yl×Obj)}{σ:St}{H:Hp}{s:Ym}(I:ag X ZY σ H s):interactive X.env=false:=by simp [interactive,I.ok.kind]
def AX(te:TE):TS:=λD σ H=>te σ H λ_ H1=>D.nx σ H1
theorem qc(he:PE X e te)(hs:YD e none pos.line X.env=pure false:=by rfl):PS X (.Expr e pos) (AX te):=by
 intro ZY s σ H D I h;exact wpAny_Expr_any (aB (he ZY s σ H _ I h) λv s1 uu12=>by obtain⟨x,H1,I1,r1,q1⟩:=uu12;exact⟨σ,H1,I1,q1⟩) I.quiet hs
def AY(te:TE):TS:=λD σ H=>te σ H D.rt
theorem fL(he:PE X e te):PS X (.Return (some e) pos) (AY te):=by
 intro ZY s σ H D I h;exact wpAny_Return_some (aB (he ZY s σ H _ I h) λv s1 uu13=>by obtain⟨x,H1,I1,r1,q1⟩:=uu13;exact⟨x,σ,H1,I1,r1,q1⟩)
def AZ(c:TT)(t u:TS):TS:=λD σ H=>c σ H λb H1=>if b=true then t D σ H1 else u D σ H1
theorem oP{c:Yr}{a b:List Yx}{tc:TT}(hc:PT X c tc)(ha:bP X a t)(hb:bP X b u):PS X (.If c a b pos) (AZ tc t u):=by
 intro ZY s σ H D I h;refine wpAny_If (aB (hc ZY s σ H _ I h) λd s1 ⟨H1,I1,q1⟩=>?_);cases d with
 | true=>exact ha ZY s1 σ H1 D I1 q1
 | false=>exact hb ZY s1 σ H1 D I1 q1
def Hu:TS:=λ_ _ _=>False
theorem Hv:PS X st Hu:=λ_ _ _ _ _ _ h=>h.elim
end
abbrev TG:=V->St->Hp->(St->Hp->Prop)->Prop
abbrev i4:=List V->St->Hp->(St->Hp->Prop)->Prop
def PG(X:Cx)(target:Yr)(t:TG):Prop:=
 ∀(ZY:List (Yl×Obj))(s:Ym)(σ:St)(H:Hp)(v:V)(u:Yj)(Q:St->Hp->Prop),ag X ZY σ H s->aJ v u->t v σ H Q->
  Yo (Yq X.prog X.w) X.A (assign target X.env u) (λ_ s'=>∃σ' H',ag X ZY σ' H' s'/\Q σ' H') X.xe s
def rF(X:Cx)(ts:List Yr)(t:i4):Prop:=
 ∀(ZY:List (Yl×Obj))(s:Ym)(σ:St)(H:Hp)(vs:List V)(us:List Yj)(Q:St->Hp->Prop),ag X ZY σ H s->aI vs us->t vs σ H Q->
  Yo (Yq X.prog X.w) X.A (assignInOrder ((Zt ts X.env).map (·.2)) us) (λ_ s'=>∃σ' H',ag X ZY σ' H' s'/\Q σ' H') X.xe s
section
variable {X:Cx} {pos:Pos}
def i5(i:Nat):TG:=λv σ H Q=>Q (σ.set i (some v)) H
theorem aK{i:Nat}{x:Str}(hN:X.N.Nodup)(hi:X.N[i]?=some x)(hx:gW X.env.scope x)(hf:X.fn x=true\/X.env.scope.names.lookup x=some .local:=by first | exact .inl rfl | exact .inr rfl | assumption):PG X (.Name x pos) (i5 i):=by
 intro ZY s σ H v u Q I r h;exact wpAny_assign_Name (AF I hN hi hx r (λs' I'=>⟨_,H,I',h⟩) hf)
def rG:i4:=λvs σ H Q=>vs=[]/\Q σ H
def qg(t:TG)(u:i4):i4:=λvs σ H Q=>∃v r,vs=v::r/\t v σ H λσ' H'=>u r σ' H' Q
theorem gj:rF X [] rG:=by
 intro ZY s σ H vs us Q I r h;obtain⟨e,h⟩:=h;subst e;cases r;exact assignInOrder_nil ⟨σ,H,I,h⟩
theorem bZ{e:Yr}{es:List Yr}{t:TG}{u:i4}(h1:PG X e t)(h2:rF X es u)
 (hs:(Zt (e::es) X.env).map (·.2)=assign e X.env::(Zt es X.env).map (·.2):=by rfl):rF X (e::es) (qg t u):=by
 intro ZY s σ H vs us Q I r h;obtain⟨v,vr,e1,h⟩:=h;subst e1;cases r with
 | cons r rr=>
  rw [hs];refine assignInOrder_cons (aB (h1 ZY s σ H _ _ _ I r h) λ_ s1 ⟨σ1,H1,I1,q1⟩=>?_);exact h2 ZY s1 σ1 H1 _ _ Q I1 rr q1
def rH(K:QN)(n:Nat)(t:i4):TG:=λv σ H Q=>∃a xs,v= .ref a/\aZ K H a xs/\xs.length=n/\t xs σ H Q
theorem gm{es:List Yr}{k:Nat}{t:i4}{n:Nat}(hc:X.calm=true)(h:rF X es t)
 (hn:(Zt es X.env).length=n:=by rfl)(hst:(Zt es X.env).findIdx? (·.1)=none:=by rfl):PG X (.Tuple es k pos) (rH X.K n t):=by
 intro ZY s σ H v u Q I r hw;obtain⟨a,xs,e1,hq,hl,hw⟩:=hw;subst e1;cases r;obtain⟨its,rv,ht,hz⟩:=I.tuple hq;refine assign_Tuple_tuple (I.ok.hd hc) ht (by simp [hn,<-hl,rv.length]) hst λh' hx=>?_;have I1:ag X ZY σ H {s with heap:=h'}:=I.kept (t':=s.toks) λb o e=>hx b o (Rz (Q7 e)) e;exact h ZY _ σ H xs _ Q I1 (by simpa using rv) hw
def qh(te:TE)(g:TG):TS:=λD σ H=>te σ H λx H1=>g x σ H1 D.nx
theorem Hw{tg e:Yr}{te:TE}{g:TG}(he:PE X e te)(hg:PG X tg g)(hs:swapsWithSole [tg] e pos.line X.env=pure false:=by rfl)(hw:swappedStores [tg] e X.env=pure none:=by rfl)
 (h1:(Zt [tg] X.env).map (·.2)=[assign tg X.env]:=by rfl):PS X (.Assign [tg] e pos) (qh te g):=by
 intro ZY s σ H D I h;refine wpAny_Assign_stores (aB (he ZY s σ H _ I h) λv s1 ⟨x,H1,I1,r1,q1⟩=>?_) hs hw;rw [h1];exact aB (hg ZY s1 σ H1 x v _ I1 r1 q1) λ_ s2 q=>q
theorem dZ{i:Nat}{x:Str}{e:Yr}{te:TE}{pos':Pos}(hN:X.N.Nodup)(hi:X.N[i]?=some x)(hx:gW X.env.scope x)(he:PE X e te)(hs:YD e (some (.Name x pos')) pos.line X.env=pure false:=by rfl)(hf:X.fn x=true\/X.env.scope.names.lookup x=some .local:=by first | exact .inl rfl | exact .inr rfl | assumption):
 PS X (.Assign [.Name x pos'] e pos) (qh te (i5 i)):=by
 intro ZY s σ H D I h;refine wpAny_Assign_Name (aB (he ZY s σ H _ I h) λv s1 ⟨y,H1,I1,r1,q1⟩=>?_) hs;exact AF I1 hN hi hx r1 (λs2 I2=>⟨_,H1,I2,q1⟩) hf
def Hx(c:TT)(tb:TS):TS:=λD σ H=>∃W:Nat->St->Hp->Prop,(∃m,W m σ H)/\∀m σ H,W m σ H->
 c σ H λb H1=>if b=true then ∃N:St->Hp->Prop,(∀σ' H',N σ' H'->∃m',m' < m/\W m' σ' H')/\tb {D with nx:=N,ct:=N,bk:=D.nx} σ H1 else D.nx σ H1
theorem A1{c:Yr}{body:List Yx}{tc:TT}{tb:TS}(hp:Zi (Yq X.prog X.w) X.A X.env X.xe)(hc:PT X c tc)(hb:bP X body tb):PS X (.While c body [] pos) (Hx tc tb):=by
 intro ZY s σ H D I h;obtain⟨W,⟨m0,w0⟩,turn⟩:=h;refine wpAny_While (codeAny_whileLoop (λn s'=>∃σ' H',ag X ZY σ' H' s'/\W n σ' H') ?_ m0 ⟨σ,H,I,w0⟩);rintro n s1 ⟨σ1,H1,I1,w1⟩;refine Y4 hp (aB (hc ZY s1 σ1 H1 _ I1 (turn n σ1 H1 w1)) λb s2 ⟨H2,I2,q2⟩=>?_);cases b with
 | true=>
  obtain⟨N,hN,q2⟩:=q2;rw [Yf rfl];refine Y4 hp (aB (hb ZY s2 σ1 H2 _ I2 q2) λf s3 q3=>?_);cases f with
  | next=>
   obtain⟨σ3,H3,I3,n3⟩:=q3;obtain⟨m',hm,w3⟩:=hN σ3 H3 n3;exact⟨m',hm,σ3,H3,I3,w3⟩
  | cont=>
   obtain⟨σ3,H3,I3,n3⟩:=q3;obtain⟨m',hm,w3⟩:=hN σ3 H3 n3;exact⟨m',hm,σ3,H3,I3,w3⟩
  | brk=>exact q3
  | ret v=>exact q3
 | false=>
  rw [Ye QV];exact ZF ⟨σ1,H2,I2,q2⟩
end
structure It where
 go:Nat->Hp->Prop
 yld:Nat->Hp->V->Hp->Prop
 stop:Nat->Hp->Prop
def ik(X:Cx)(ZY:List (Yl×Obj))(H:Hp)(b:Yl):Prop:=
 H b=none/\b≠X.env.locals/\b ∉ X.fs/\(b∈X.ex\/X.s₀.heap.objs.size<=b)/\(∀x c,X.env.cells.lookup x=some c->c≠b)/\∀p∈X.pn++ZY,p.1≠b
theorem ag.fpOk{X:Cx}{ZY:List (Yl×Obj)}{σ:St}{H H':Hp}{s:Ym}{b:Yl}(I:ag X ZY σ H s)(hb:s.heap.objs.size<=b)(hn:H' b=none):ik X ZY H' b:=by
 refine⟨hn,TK (RX I.lt hb),I.nofs hb,.inr (Rj I.sz hb),λx c e z=>?_,λp hp z=>?_⟩
 ·obtain⟨v,q⟩:=I.cell x c e;exact absurd (RX q.lt (by rw [z];exact hb)) (SS _)
 ·exact absurd (RX (Q7 (I.pin p hp).1) (by rw [z];exact hb)) (SS _)
structure oQ (P:Yu) (w:Yv) (K:QN) (tg:Yr) (J:It) (fp:List Yl) (it:Yl) (tn:Nat->Yw->Prop):Prop where
 mem:it∈fp
 obj:∀i h,tn i h->∀b∈fp,∃o,h.get? b=some o/\∀v,o.data≠ .cell v
 keep:∀i h h',tn i h->(∀b∈fp,∀o,h.get? b=some o->h'.get? b=some o)->tn i h'
 item:∀(X:Cx),X.prog=P->X.w=w->X.K=K->X.calm=true->∀(i:Nat)(ZY:List (Yl×Obj))(s:Ym)(σ:St)(H:Hp)(E:Yj->Ym->Prop),ag X ZY σ H s->(∀b∈fp,ik X ZY H b)->tn i s.heap->J.go i H->
  Yo (Yq P w) X.A (Zd (.ref it)) (λr s1=>∃u,r=some u/\
   Yo (Yq P w) X.A (ZG tg (.ref it) u) (λ_ s2=>∃x H',ag X ZY σ H' s2/\aJ x u/\J.yld i H x H'/\tn (i+1) s2.heap/\∀b∈fp,H' b=none) E s1) E s
 done:∀(X:Cx),X.prog=P->X.w=w->X.K=K->X.calm=true->∀(i:Nat)(ZY:List (Yl×Obj))(s:Ym)(σ:St)(H:Hp)(E:Yj->Ym->Prop),ag X ZY σ H s->(∀b∈fp,ik X ZY H b)->tn i s.heap->J.stop i H->
  Yo (Yq P w) X.A (Zd (.ref it)) (λr s1=>r=none/\ag X ZY σ H s1) E s
 self:∀(A:Yz)(i:Nat)(s:Ym)(Q:Yj->Ym->Prop)(E:Yj->Ym->Prop),tn i s.heap->Q (.ref it) s->Yo (Yq P w) A (pyIter (.ref it)) Q E s
abbrev TI:=St->Hp->(It->Hp->Prop)->Prop
def A2(X:Cx)(ZY:List (Yl×Obj))(σ:St)(tg:Yr)(R:It->Hp->Prop)(itv:Yj)(s2:Ym):Prop:=
 ∃(it:Yl)(fp:List Yl)(tn:Nat->Yw->Prop)(J:It)(H':Hp),itv= .ref it/\ag X ZY σ H' s2/\oQ X.prog X.w X.K tg J fp it tn/\tn 0 s2.heap/\(∀b∈fp,ik X ZY H' b)/\R J H'
def PI(X:Cx)(tg iter:Yr)(wi:TI):Prop:=
 ∀(ZY:List (Yl×Obj))(s:Ym)(σ:St)(H:Hp)(R:It->Hp->Prop),ag X ZY σ H s->wi σ H R->
  Yo (Yq X.prog X.w) X.A (eval iter X.env) (λv s1=>Yo (Yq X.prog X.w) X.A (pyIter v) (A2 X ZY σ tg R) X.xe s1) X.xe s
theorem uK{M:Model}{A:Yz}{E:Yj->Ym->Prop}{s:Ym}{tg:Yr}{it:Yl}{u:Yj}{o:Obj}{n:String}{vs:Array Yj}{Q:Unit->Ym->Prop}(ho:s.heap.get? it=some o)(hc:o.cls= .type n)(hd:o.data= .fields vs)
 (hn:["enumerate","zip","dict_itemiterator","dict_reverseitemiterator","odict_iterator","itertools.zip_longest","itertools.pairwise"].contains n=false)(hQ:Q () s):Yo M A (ZG tg (.ref it) u) Q E s:=by
 unfold ZG;cases tg <;> first
  | exact Yn hQ
  | (cases u <;> first
      | exact Yn hQ
      | (refine Yk (wpAny_load ho ?_)
         rw [hc,hd];show Yo M A (if (["enumerate","zip","dict_itemiterator","dict_reverseitemiterator","odict_iterator","itertools.zip_longest","itertools.pairwise"].contains n && vs[0]?==some (Y1 _))=true then _ else _) Q E s;rw [Ye (by intro h;rw [hn,US] at h;cases h)];exact Yn hQ))
def oR(K:QN)(a:Yl):It:=
 ⟨λi H=>∃xs x,bo K H a xs/\xs[i]?=some x,λi H x H'=>H'=H/\∀xs,bo K H a xs->xs[i]?=some x,λi H=>∃xs,bo K H a xs/\xs.length<=i⟩
def qi(K:QN)(a:Yl):It:=
 ⟨λi H=>∃xs x,aZ K H a xs/\xs[i]?=some x,λi H x H'=>H'=H/\∀xs,aZ K H a xs->xs[i]?=some x,λi H=>∃xs,aZ K H a xs/\xs.length<=i⟩
def i6(lo:Int)(n:Nat):It:=⟨λi _=>i < n,λi H x H'=>H'=H/\x= .int (lo+i),λi _=>n<=i⟩
theorem Hy{P:Yu}{w:Yv}{K:QN}{tg:Yr}(a it:Yl):oQ P w K tg (oR K a) [it] it (λi h=>h.IsListIter it a i) where
 mem:=Yh
 obj:=λi h st b hb=>by
  have e:b=it:=by simpa using hb
  subst e;obtain⟨o,e,c,d⟩:=st;exact⟨o,e,λv z=>by rw [d] at z;cases z⟩
 keep:=λi h h' st k=>st.at λo e=>k it Yh o e
 item:=by
  intro X hP hw hK hc i ZY s σ H E I hf st hg;subst hP hw hK;obtain⟨xs,x,hq,hx⟩:=hg;obtain⟨its,rv,p,hz⟩:=I.list hq;obtain⟨u,hu,ru⟩:=rv.get hx;obtain⟨f0,f1,f2,f3,f4,f5⟩:=hf it Yh;refine wpAny_pyNext_list_item st p.isList (x:=u) (by simpa using hu) λh' st' sb=>?_;have I1:ag X ZY σ H {s with heap:=h'}:=I.turned (t':=s.toks) (λb o hb e=>(sb.2 b hb).trans e) f0 f1 f3 f4 f5;obtain⟨o,e,c,d⟩:=id st';exact⟨u,rfl,uK (s:={s with heap:=h'}) e c d Yc ⟨x,H,I1,ru,⟨rfl,λys hy=>by rw [I.list_inj hy hq];exact hx⟩,st',λb hb=>(hf b hb).1⟩⟩
 done:=by
  intro X hP hw hK hc i ZY s σ H E I hf st hg;subst hP hw hK;obtain⟨xs,hq,hx⟩:=hg;obtain⟨its,rv,p,hz⟩:=I.list hq;obtain⟨f0,f1,f2,f3,f4,f5⟩:=hf it Yh;have hl:=rv.length;exact wpAny_pyNext_list_end (I.ok.hd hc) st p.isList (by simp;omega) λh' eb=>⟨rfl,I.turned (t':=s.toks) (λb o hb e=>eb b o hb e) f0 f1 f3 f4 f5⟩
 self:=λ_ _ _ _ _ st h=>wpAny_pyIter_listiter st h
theorem Hz{P:Yu}{w:Yv}{K:QN}{tg:Yr}(a it:Yl):oQ P w K tg (qi K a) [it] it (λi h=>h.IsTupleIter it a i) where
 mem:=Yh
 obj:=λi h st b hb=>by
  have e:b=it:=by simpa using hb
  subst e;obtain⟨o,e,c,d⟩:=st;exact⟨o,e,λv z=>by rw [d] at z;cases z⟩
 keep:=λi h h' st k=>st.at λo e=>k it Yh o e
 item:=by
  intro X hP hw hK hc i ZY s σ H E I hf st hg;subst hP hw hK;obtain⟨xs,x,hq,hx⟩:=hg;obtain⟨its,rv,p,hz⟩:=I.tuple hq;obtain⟨u,hu,ru⟩:=rv.get hx;obtain⟨f0,f1,f2,f3,f4,f5⟩:=hf it Yh;refine wpAny_pyNext_tuple_item st (show s.heap.IsTuple a its.toArray from p) (x:=u) (by simpa using hu) λh' st' sb=>?_;have I1:ag X ZY σ H {s with heap:=h'}:=I.turned (t':=s.toks) (λb o hb e=>(sb.2 b hb).trans e) f0 f1 f3 f4 f5;obtain⟨o,e,c,d⟩:=id st';exact⟨u,rfl,uK (s:={s with heap:=h'}) e c d Yc ⟨x,H,I1,ru,⟨rfl,λys hy=>by rw [I.tuple_inj hy hq];exact hx⟩,st',λb hb=>(hf b hb).1⟩⟩
 done:=by
  intro X hP hw hK hc i ZY s σ H E I hf st hg;subst hP hw hK;obtain⟨xs,hq,hx⟩:=hg;obtain⟨its,rv,p,hz⟩:=I.tuple hq;obtain⟨f0,f1,f2,f3,f4,f5⟩:=hf it Yh;have hl:=rv.length;exact wpAny_pyNext_tuple_end (I.ok.hd hc) st (show s.heap.IsTuple a its.toArray from p) (by simp;omega) λh' eb=>⟨rfl,I.turned (t':=s.toks) (λb o hb e=>eb b o hb e) f0 f1 f3 f4 f5⟩
 self:=λ_ _ _ _ _ st h=>wpAny_pyIter_tupleiter st h
theorem HA{P:Yu}{w:Yv}{K:QN}{tg:Yr}(it:Yl)(lo:Int)(n:Nat):oQ P w K tg (i6 lo n) [it] it (λi h=>IsRangeIter h it (lo+(i:Nat)*1) ((n:Int) - (i:Nat)) 1) where
 mem:=Yh
 obj:=λi h st b hb=>by
  have e:b=it:=by simpa using hb
  subst e;exact⟨_,st,λv z=>by
   have z':Data.fields _=Data.cell v:=z;cases z'⟩
 keep:=λi h h' st k=>k it Yh _ st
 item:=by
  intro X hP hw hK hc i ZY s σ H E I hf st hg;subst hP hw hK;obtain⟨f0,f1,f2,f3,f4,f5⟩:=hf it Yh;have W:=Walks.range (prog:=X.prog) (w:=X.w) (I.ok.hd hc) it lo 1 n;refine W.item i s _ _ hg st λv h' tk hv st' kk=>?_;obtain⟨t,rfl⟩:=hv;have I1:ag X ZY σ H {s with heap:=h',toks:=tk}:=I.turned (λb o hb e=>kk b o (by simpa using hb) e) f0 f1 f3 f4 f5;refine⟨_,rfl,uK (s:={s with heap:=h',toks:=tk}) (n:="range_iterator") st' rfl rfl Yc ⟨.int (lo+i),H,I1,⟨t,?_⟩,⟨rfl,rfl⟩,st',λb hb=>(hf b hb).1⟩⟩;rw [Int.mul_one]
 done:=by
  intro X hP hw hK hc i ZY s σ H E I hf st hg;subst hP hw hK;obtain⟨f0,f1,f2,f3,f4,f5⟩:=hf it Yh;exact wpAny_pyNext_range_end (I.ok.hd hc) st (by have:n<=i:=hg;omega) λh' eb=>⟨rfl,I.turned (t':=s.toks) (λb o hb e=>eb b o hb e) f0 f1 f3 f4 f5⟩
 self:=λ_ _ _ _ _ st h=>wpAny_pyIter_rangeiter st h
section
variable {X:Cx} {tg:Yr}
def uL(K:QN)(tl:TE):TI:=λσ H R=>tl σ H λx H1=>∃a,x= .ref a/\(∃xs,bo K H1 a xs)/\R (oR K a) H1
def uM(K:QN)(tl:TE):TI:=λσ H R=>tl σ H λx H1=>∃a,x= .ref a/\(∃xs,aZ K H1 a xs)/\R (qi K a) H1
theorem rJ{l:Yr}{tl:TE}(hl:PE X l tl):PI X tg l (uL X.K tl):=by
 intro ZY s σ H R I h;refine aB (hl ZY s σ H _ I h) λv s1 ⟨x,H1,I1,r1,q1⟩=>?_;obtain⟨a,e,⟨xs,hq⟩,q⟩:=q1;subst e;cases r1;obtain⟨its,rv,p,hz⟩:=I1.list hq;refine ZT p.isList ?_;refine⟨s1.heap.objs.size,[s1.heap.objs.size],_,_,H1,rfl,I1.kept (t':=s1.toks) λb o e=>QS _ e,Hy a _,⟨_,Rb _ rfl,rfl,rfl⟩,λb hb=>?_,q⟩;have e:b=s1.heap.objs.size:=by simpa using hb
 subst e;exact I1.fpOk (QQ _) (I1.hok.fresh (QQ _))
theorem uN{l:Yr}{tl:TE}(hl:PE X l tl):PI X tg l (uM X.K tl):=by
 intro ZY s σ H R I h;refine aB (hl ZY s σ H _ I h) λv s1 ⟨x,H1,I1,r1,q1⟩=>?_;obtain⟨a,e,⟨xs,hq⟩,q⟩:=q1;subst e;cases r1;obtain⟨its,rv,p,hz⟩:=I1.tuple hq;refine Zq (show s1.heap.IsTuple a its.toArray from p) ?_;refine⟨s1.heap.objs.size,[s1.heap.objs.size],_,_,H1,rfl,I1.kept (t':=s1.toks) λb o e=>QS _ e,Hz a _,⟨_,Rb _ rfl,rfl,rfl⟩,λb hb=>?_,q⟩;have e:b=s1.heap.objs.size:=by simpa using hb
 subst e;exact I1.fpOk (QQ _) (I1.hok.fresh (QQ _))
theorem A3{ZY:List (Yl×Obj)}{σ:St}{H:Hp}{s:Ym}{R:It->Hp->Prop}{E:Yj->Ym->Prop}{lo hi:Int}{t u v:Tok}{tk:Nat}(I:ag X ZY σ H s)(h1:-(2 ^ 62)<=lo)(h2:lo < 2 ^ 62)(h3:-(2 ^ 62)<=hi)(h4:hi < 2 ^ 62)
 (q:R (i6 lo (hi - lo).toNat) H):Yo (Yq X.prog X.w) X.A (pyIter (.ref s.heap.objs.size)) (A2 X ZY σ tg R) E {s with heap:=s.heap.push {cls:= .type "range",data:= .fields #[.int lo t,.int hi u,.int 1 v]},toks:=tk}:=by
 refine wpAny_pyIter_range (IsRange.new ..) (small_one h1 h2 h3 h4) ?_;have I1:ag X ZY σ H {s with heap:=s.heap.push {cls:= .type "range",data:= .fields #[.int lo t,.int hi u,.int 1 v]},toks:=tk}:=I.kept λb o e=>QS _ e;refine⟨(s.heap.push {cls:= .type "range",data:= .fields #[.int lo t,.int hi u,.int 1 v]}).objs.size,[(s.heap.push {cls:= .type "range",data:= .fields #[.int lo t,.int hi u,.int 1 v]}).objs.size],_,_,H,rfl,
  I1.kept (t':=tk) λb o e=>QS _ e,HA _ lo (hi - lo).toNat,?_,λb hb=>?_,q⟩
 ·have e1:lo+((0:Nat):Int)*1=lo:=Yh
  have e2:(((hi - lo).toNat:Nat):Int) - ((0:Nat):Int)=Builtin.Range.rangeSize lo hi 1:=by rw [rangeSize_one];split <;> omega
  show IsRangeIter _ _ (lo+((0:Nat):Int)*1) ((((hi - lo).toNat:Nat):Int) - ((0:Nat):Int)) 1;rw [e1,e2];exact Rb _ rfl
 ·have e:b=(s.heap.push {cls:= .type "range",data:= .fields #[.int lo t,.int hi u,.int 1 v]}).objs.size:=by simpa using hb
  subst e;exact I1.fpOk (QQ _) (I1.hok.fresh (QQ _))
def uO(ta:TA):TI:=λσ H R=>ta σ H λvs H1=>∃j:Int,vs=[.int j]/\-(2 ^ 62)<=j/\j < 2 ^ 62/\R (i6 0 j.toNat) H1
def uP(ta:TA):TI:=λσ H R=>ta σ H λvs H1=>∃i j:Int,vs=[.int i,.int j]/\(-(2 ^ 62)<=i/\i < 2 ^ 62/\-(2 ^ 62)<=j/\j < 2 ^ 62)/\R (i6 i (j - i).toNat) H1
theorem uQ{a:Yr}{ta:TA}{p pos:Pos}(hg:Gl X "range")(hm:X.mg "range"=none)(ha:PA X [a] ta)(hs:Yp [a] X.env=[(false,eval a X.env)]:=by rfl):PI X tg (.Call (.Name "range" p) [a] [] pos) (uO ta):=by
 intro ZY s σ H R I h;refine Call_ (nO I hg hm boot_range (Ti (aB (ha pos ZY s σ H _ I h) λus s1 ⟨vs,H1,I1,r1,q1⟩=>?_) hs rfl));obtain⟨j,e,q1,q2,q⟩:=q1;subst e;cases r1 with
 | cons r rr=>
  cases rr;obtain⟨t,rfl⟩:=r;exact call_range_1 (A3 I1 Yd Yd q1 q2 (by simpa using q))
theorem HB{a b:Yr}{ta:TA}{p pos:Pos}(hg:Gl X "range")(hm:X.mg "range"=none)(ha:PA X [a,b] ta)(hs:Yp [a,b] X.env=[(false,eval a X.env),(false,eval b X.env)]:=by rfl)(hs2:Yp [b] X.env=[(false,eval b X.env)]:=by rfl):
 PI X tg (.Call (.Name "range" p) [a,b] [] pos) (uP ta):=by
 intro ZY s σ H R I h;refine Call_ (nO I hg hm boot_range (Ti (aB (ha pos ZY s σ H _ I h) λus s1 ⟨vs,H1,I1,r1,q1⟩=>?_) (by rw [hs,hs2]) (by rw [hs2];rfl)));obtain⟨i,j,e,⟨q1,q2,q3,q4⟩,q⟩:=q1;subst e;cases r1 with
 | cons r rr=>
  cases rr with
  | cons r' rr=>
   cases rr;obtain⟨t,rfl⟩:=r;obtain⟨t',rfl⟩:=r';exact call_range_2 (A3 I1 q1 q2 q3 q4 q)
def qj(wi:TI)(g:TG)(tb:TS):TS:=λD σ H=>wi σ H λJ H1=>∃W:Nat->Nat->St->Hp->Prop,(∃m,W 0 m σ H1)/\∀i m σ H,W i m σ H->
 (J.stop i H/\D.nx σ H)\/(J.go i H/\∃N:St->Hp->Prop,(∀σ' H',N σ' H'->∃m',m' < m/\W (i+1) m' σ' H')/\∀x H',J.yld i H x H'->g x σ H' λσ2 H2=>tb {D with nx:=N,ct:=N,bk:=D.nx} σ2 H2)
def qm(fp:List Yl)(h:Yw):List (Yl×Obj):=fp.filterMap λb=>(h.get? b).map λo=>(b,o)
theorem rK{fp:List Yl}{h:Yw}{b:Yl}{o:Obj}(hb:b∈fp)(e:h.get? b=some o):(b,o)∈qm fp h:=UE.mpr ⟨b,hb,by rw [e];rfl⟩
theorem HC{fp:List Yl}{h:Yw}{p:Yl×Obj}(hp:p∈qm fp h):p.1∈fp/\h.get? p.1=some p.2:=by
 obtain⟨b,hb,e⟩:=UE.mp hp;cases q:h.get? b with
 | none=>rw [q] at e;cases e
 | some o=>
  rw [q] at e;have e':(b,o)=p:=RT e;subst e';exact⟨hb,q⟩
theorem ag.pinned{ZY:List (Yl×Obj)}{σ:St}{H:Hp}{s:Ym}{fp:List Yl}(I:ag X ZY σ H s)(hf:∀b∈fp,ik X ZY H b)(ho:∀b∈fp,∃o,s.heap.get? b=some o/\∀v,o.data≠ .cell v):ag X (ZY++qm fp s.heap) σ H s:=
 I.pins_of λp hp=>(Q9.mp hp).elim (λz=>I.pin p (RR _ z)) λz=>by
  obtain⟨hb,e⟩:=HC z;obtain⟨f0,f1,f2,_⟩:=hf p.1 hb;obtain⟨o,e',d⟩:=ho p.1 hb;rw [e] at e';cases e';exact⟨e,f0,f1,f2,d⟩
theorem ag.unpinned{ZY pl:List (Yl×Obj)}{σ:St}{H:Hp}{s:Ym}(I:ag X (ZY++pl) σ H s):ag X ZY σ H s:=I.pins_of λp hp=>I.pin p (RR _ (UX _ hp))
theorem oT{iter:Yr}{body:List Yx}{wi:TI}{g:TG}{tb:TS}{pos:Pos}(hp:Zi (Yq X.prog X.w) X.A X.env X.xe)(hc:X.calm=true)(hi:PI X tg iter wi)(hg:PG X tg g)(hb:bP X body tb)
 (hs:∀x,YA iter X.env x=pure x:=by intro _;rfl):PS X (.For tg iter body [] pos) (qj wi g tb):=by
 intro ZY s σ H D I h;refine wpAny_For (aB (hi ZY s σ H _ I h) λv s1 h1=>aB h1 λitv s2 h2=>?_) hs;obtain⟨it,fp,tn,J,H2,e,I2,T,st2,f2,W,⟨m0,w0⟩,turn⟩:=h2;subst e;have stat:∀{H':Hp},(∀b∈fp,H' b=none)->∀b∈fp,ik X ZY H' b:=λhn b hb=>⟨hn b hb,(f2 b hb).2⟩;refine codeAny_forLoop_any (λn s'=>∃i σ' H',ag X ZY σ' H' s'/\tn i s'.heap/\(∀b∈fp,H' b=none)/\W i n σ' H') ?_ m0 ⟨0,σ,H2,I2,st2,λb hb=>(f2 b hb).1,w0⟩;rintro n s3 ⟨i,σ3,H3,I3,st3,fr3,w3⟩;rcases turn i n σ3 H3 w3 with⟨stop,qn⟩ | ⟨go,N,hN,step⟩
 ·refine Y4 hp (aB (T.done X rfl rfl rfl hc i ZY s3 σ3 H3 X.xe I3 (stat fr3) st3 stop) λr s4 ⟨hr,I4⟩=>?_);subst hr;exact ZF ⟨σ3,H3,I4,qn⟩
 ·refine Y4 hp (aB (T.item X rfl rfl rfl hc i ZY s3 σ3 H3 X.xe I3 (stat fr3) st3 go) λr s4 ⟨u,hr,h4⟩=>?_);subst hr;refine Y4 hp (aB h4 λ_ s5 ⟨x,H5,I5,r5,y5,st5,fr5⟩=>?_);have I5':=I5.pinned (stat fr5) (T.obj _ _ st5);refine Y4 hp (aB (hg _ s5 σ3 H5 x u _ I5' r5 (step x H5 y5)) λ_ s6 ⟨σ6,H6,I6,q6⟩=>?_);refine Y4 hp (aB (hb _ s6 σ6 H6 _ I6 q6) λf s7 q7=>?_);have again:∀{σ7:St}{H7:Hp},ag X (ZY++qm fp s5.heap) σ7 H7 s7->N σ7 H7->∃m,m < n/\∃i σ' H',ag X ZY σ' H' s7/\tn i s7.heap/\(∀b∈fp,H' b=none)/\W i m σ' H':=λ{σ7 H7} I7 n7=>by
   obtain⟨m',hm,w7⟩:=hN σ7 H7 n7;refine⟨m',hm,i+1,σ7,H7,I7.unpinned,T.keep _ _ _ st5 λb hb o e=>(I7.pin (b,o) (RR _ (RR _ (rK hb e)))).1,λb hb=>?_,w7⟩;obtain⟨o,e,d⟩:=T.obj _ _ st5 b hb;exact(I7.pin (b,o) (RR _ (RR _ (rK hb e)))).2.1
  cases f with
  | next=>obtain⟨σ7,H7,I7,n7⟩:=q7;exact again I7 n7
  | cont=>obtain⟨σ7,H7,I7,n7⟩:=q7;exact again I7 n7
  | brk=>obtain⟨σ7,H7,I7,q7⟩:=q7;exact⟨σ7,H7,I7.unpinned,q7⟩
  | ret v=>obtain⟨x7,σ7,H7,I7,r7,q7⟩:=q7;exact⟨x7,σ7,H7,I7.unpinned,r7,q7⟩
end
abbrev R2:=V->V->Hp->VK->Prop
def bG(X:Cx)(f:Yj->Yj->Sem Yj)(r:R2):Prop:=
 ∀(ZY:List (Yl×Obj))(s:Ym)(σ:St)(H:Hp)(x y:V)(v u:Yj)(Q:VK),ag X ZY σ H s->aJ x v->aJ y u->r x y H Q->
  Yo (Yq X.prog X.w) X.A (f v u) (EP X ZY σ Q) X.xe s
def uR(X:Cx)(f:Yj->Sem Yj)(r:V->Hp->VK->Prop):Prop:=
 ∀(ZY:List (Yl×Obj))(s:Ym)(σ:St)(H:Hp)(x:V)(v:Yj)(Q:VK),ag X ZY σ H s->aJ x v->r x H Q->
  Yo (Yq X.prog X.w) X.A (f v) (EP X ZY σ Q) X.xe s
def d7(X:Cx)(f:Yj)(r:List V->Hp->VK->Prop):Prop:=
 ∀(ZY:List (Yl×Obj))(s:Ym)(σ:St)(H:Hp)(xs:List V)(us:List Yj)(Q:VK),ag X ZY σ H s->aI xs us->r xs H Q->
  Yo (Yq X.prog X.w) X.A (call f us) (EP X ZY σ Q) X.xe s
def HD(X:Cx)(r:V->Hp->(Bool->Hp->Prop)->Prop):Prop:=
 ∀(ZY:List (Yl×Obj))(s:Ym)(σ:St)(H:Hp)(x:V)(v:Yj)(Q:Bool->Hp->Prop),ag X ZY σ H s->aJ x v->r x H Q->
  Yo (Yq X.prog X.w) X.A (truthy v) (TP X ZY σ Q) X.xe s
def oU(r:R2)(ta tb:TE):TE:=λσ H Q=>ta σ H λx H1=>tb σ H1 λy H2=>r x y H2 Q
def A4(r:V->Hp->VK->Prop)(ta:TE):TE:=λσ H Q=>ta σ H λx H1=>r x H1 Q
def rI(C:Int->Int->Prop)(g:Int->Int->V):R2:=λx y H Q=>∃i j,x= .int i/\y= .int j/\C i j/\Q (g i j) H
def iq(g:Int->Int->V):R2:=λx y H Q=>∃i j,x= .int i/\y= .int j/\Q (g i j) H
def rU(g:Int->V):V->Hp->VK->Prop:=λx H Q=>∃i,x= .int i/\Q (g i) H
section
variable {X:Cx} {a b c:Yr} {ta tb tc:TE} {pos:Pos}
theorem uS(ha:PE X a ta)(hb:PE X b tb){ZY:List (Yl×Obj)}{s:Ym}{σ:St}{H:Hp}{R:V->V->Hp->Prop}(I:ag X ZY σ H s)
 (h:ta σ H λx H1=>tb σ H1 λy H2=>R x y H2){Q:Yj->Ym->Prop}{f:Yj->Yj->Sem Yj}
 (hf:∀v u s2 x y H2,ag X ZY σ H2 s2->aJ x v->aJ y u->R x y H2->Yo (Yq X.prog X.w) X.A (f v u) Q X.xe s2):
 Yo (Yq X.prog X.w) X.A (eval a X.env) (λv s₁=>Yo (Yq X.prog X.w) X.A (eval b X.env) (λu s₂=>Yo (Yq X.prog X.w) X.A (f v u) Q X.xe s₂) X.xe s₁) X.xe s:=by
 refine aB (ha ZY s σ H _ I h) λv s1 ⟨x,H1,I1,r1,q1⟩=>?_;refine aB (hb ZY s1 σ H1 _ I1 q1) λu s2 ⟨y,H2,I2,r2,q2⟩=>?_;exact hf v u s2 x y H2 I2 r1 r2 q2
theorem bE{op:Operator}{r:R2}(ho:bG X (YU op) r)(ha:PE X a ta)(hb:PE X b tb):PE X (.BinOp a op b pos) (oU r ta tb):=by
 intro ZY s σ H Q I h;exact wpAny_BinOp (uS ha hb I h λv u s2 x y H2 I2 rx ry q=>ho ZY s2 σ H2 x y v u Q I2 rx ry q)
theorem HE{op:UnaryOp}{r:V->Hp->VK->Prop}(ho:uR X (unaryOp op) r)(ha:PE X a ta):PE X (.UnaryOp op a pos) (A4 r ta):=by
 intro ZY s σ H Q I h;exact UnaryOp_ (aB (ha ZY s σ H _ I h) λv s1 uu29=>by obtain⟨x,H1,I1,r1,q1⟩:=uu29;exact ho ZY s1 σ H1 x v Q I1 r1 q1)
theorem rL{f:Yj->Yj->Sem Yj}{C:Int->Int->Prop}{g:Int->Int->Int}
 (rule:∀(i j:Int) (t u:Tok) (s:Ym) (Q:Yj->Ym->Prop) (E:Yj->Ym->Prop),C i j->Q (.int (g i j) s.toks) {s with toks:=s.toks+1}->Yo (Yq X.prog X.w) X.A (f (.int i t) (.int j u)) Q E s):
 bG X f (rI C λi j=>.int (g i j)):=by
 intro ZY s σ H x y v u Q I rx ry h;obtain⟨i,j,rfl,rfl,hc,q⟩:=h;obtain⟨t,rfl⟩:=rx;obtain⟨t',rfl⟩:=ry;exact rule i j t t' s _ _ hc ⟨.int (g i j),H,I.tok _,⟨_,rfl⟩,q⟩
theorem A5{f:Yj->Yj->Sem Yj}{g:Int->Int->Int}
 (rule:∀(i j:Int) (t u:Tok) (s:Ym) (Q:Yj->Ym->Prop) (E:Yj->Ym->Prop),Q (.int (g i j) s.toks) {s with toks:=s.toks+1}->Yo (Yq X.prog X.w) X.A (f (.int i t) (.int j u)) Q E s):
 bG X f (iq λi j=>.int (g i j)):=by
 intro ZY s σ H x y v u Q I rx ry h;obtain⟨i,j,rfl,rfl,q⟩:=h;obtain⟨t,rfl⟩:=rx;obtain⟨t',rfl⟩:=ry;exact rule i j t t' s _ _ ⟨.int (g i j),H,I.tok _,⟨_,rfl⟩,q⟩
theorem rM{f:Yj->Yj->Sem Yj}{g:Int->Int->Bool}
 (rule:∀(i j:Int) (t u:Tok) (s:Ym) (Q:Yj->Ym->Prop) (E:Yj->Ym->Prop),Q (.bool (g i j)) s->Yo (Yq X.prog X.w) X.A (f (.int i t) (.int j u)) Q E s):
 bG X f (iq λi j=>.bl (g i j)):=by
 intro ZY s σ H x y v u Q I rx ry h;obtain⟨i,j,rfl,rfl,q⟩:=h;obtain⟨t,rfl⟩:=rx;obtain⟨t',rfl⟩:=ry;exact rule i j t t' s _ _ ⟨.bl (g i j),H,I,rfl,q⟩
def gr(i j:Int):Prop:=0 < j/\j < 1073741824
def i7(i j:Int):Prop:=0<=j/\j<=1000000/\i.natAbs < 2 ^ 64
def gX(i j:Int):Prop:=(-(2 ^ 64) < i/\i < 2 ^ 64)\/(-(2 ^ 64) < j/\j < 2 ^ 64)
theorem gX.ok{i j:Int}(h:gX i j):IntMulOk i j:=by
 rcases h with⟨h1,h2⟩ | ⟨h1,h2⟩
 ·exact .of_left (intBits_le_64 h1 h2)
 ·exact .of_right (intBits_le_64 h1 h2)
theorem bA:bG X (YU .Add) (iq λi j=>.int (i+j)):=A5 λ_ _ _ _ _ _ _ q=>add_int q
theorem eY:bG X (YU .Sub) (iq λi j=>.int (i - j)):=A5 λ_ _ _ _ _ _ _ q=>sub_int q
theorem d8:bG X (YU .Mult) (rI gX λi j=>.int (i*j)):=rL λ_ _ _ _ _ _ _ hc q=>mul_int q hc.ok
theorem cO:bG X (YU .FloorDiv) (rI gr λi j=>.int (i / j)):=rL λi j _ _ _ _ _ hc q=>by
 have h1:(0:Int) < j:=hc.1;have h2:j < 1073741824:=hc.2;exact floordiv_int Yd (by rw [VU i Yd];exact q) (.inl (WC Yd))
theorem aW:bG X (YU .Mod) (rI (λ_ j=>0 < j) λi j=>.int (i % j)):=rL λi j _ _ _ _ _ hc q=>by
 have h1:(0:Int) < j:=hc;exact mod_int' Yd (by rw [VV i Yd];exact q)
theorem A6:bG X (YU .Pow) (rI i7 λi j=>.int (i ^ j.toNat)):=rL λ_ _ _ _ _ _ _ hc q=>pow_int_small hc.1 hc.2.1 hc.2.2 q
theorem HF{f:Yj->Sem Yj}{g:Int->Int}
 (rule:∀(i:Int) (t:Tok) (s:Ym) (Q:Yj->Ym->Prop) (E:Yj->Ym->Prop),Q (.int (g i) s.toks) {s with toks:=s.toks+1}->Yo (Yq X.prog X.w) X.A (f (.int i t)) Q E s):
 uR X f (rU λi=>.int (g i)):=by
 intro ZY s σ H x v Q I rx h;obtain⟨i,rfl,q⟩:=h;obtain⟨t,rfl⟩:=rx;exact rule i t s _ _ ⟨.int (g i),H,I.tok _,⟨_,rfl⟩,q⟩
theorem HG:uR X (unaryOp .USub) (rU λi=>.int (-i)):=HF λ_ _ _ _ _ q=>neg_int q
end
def uT:V->V->Bool
 | .non,.non=>true | .non,.int _=>true | .int _,.non=>true | .non,.bl _=>true | .bl _,.non=>true | .non,.str _=>true | .str _,.non=>true
 | .int _,.int _=>true | .bl _,.bl _=>true | .str _,.str _=>true | .byt _,.byt _=>true
 | .int _,.str _=>true | .str _,.int _=>true | .bl _,.str _=>true | .str _,.bl _=>true
 | _,_=>false
def A7:R2:=λx y H Q=>uT x y=true/\Q (.bl (decide (x=y))) H
def A8:R2:=λx y H Q=>uT x y=true/\Q (.bl (!decide (x=y))) H
theorem A9{i j:Int}:decide (V.int i=V.int j)=(i==j):=by
 rw [UG];simp
theorem Ba{i j:Bool}:decide (V.bl i=V.bl j)=(i==j):=by
 rw [UG];simp
theorem Bb{i j:Str}:decide (V.str i=V.str j)=(i==j):=by
 rw [UG];simp
theorem Bc{i j:Array UInt8}:decide (V.byt i=V.byt j)=(i.toList==j.toList):=by
 rw [UG];cases i;cases j;simp
section
variable {X:Cx} {a b c:Yr} {ta tb tc:TE} {pos:Pos}
theorem bD{ZY:List (Yl×Obj)}{σ:St}{H:Hp}{s:Ym}{Q:VK}{k k':Bool}(I:ag X ZY σ H s)(q:Q (.bl k) H)(e:k=k'):EP X ZY σ Q (.bool k') s:=by
 subst e;exact⟨.bl k,H,I,rfl,q⟩
theorem qo:bG X (YF .Eq) A7:=by
 intro ZY s σ H x y v u Q I rx ry h;obtain⟨hs,q⟩:=h;cases x with
 | non=>
  cases rx;cases y with
  | non=>cases ry;exact PySem.EqNone.eq_none_none (bD I q Yh)
  | bl j=>cases ry;exact PySem.EqNone.eq_none_bool (bD I q Yh)
  | int j=>obtain⟨t',rfl⟩:=ry;exact PySem.EqNone.eq_none_int (bD I q Yh)
  | str j=>obtain⟨t',rfl⟩:=ry;exact PySem.EqNone.eq_none_str (bD I q Yh)
  | _=>exact absurd (show false=true from hs) QV
 | bl i=>
  cases rx;cases y with
  | non=>cases ry;exact PySem.EqNone.eq_bool_none (bD I q Yh)
  | bl j=>cases ry;exact eq_bool (bD I q Ba)
  | str j=>obtain⟨t',rfl⟩:=ry;exact PySem.EqMixed.eq_bool_str (bD I q Yh)
  | _=>exact absurd (show false=true from hs) QV
 | int i=>
  obtain⟨t,rfl⟩:=rx;cases y with
  | non=>cases ry;exact PySem.EqNone.eq_int_none (bD I q Yh)
  | int j=>obtain⟨t',rfl⟩:=ry;exact eq_int (bD I q A9)
  | str j=>obtain⟨t',rfl⟩:=ry;exact PySem.EqMixed.eq_int_str (bD I q Yh)
  | _=>exact absurd (show false=true from hs) QV
 | str i=>
  obtain⟨t,rfl⟩:=rx;cases y with
  | non=>cases ry;exact PySem.EqNone.eq_str_none (bD I q Yh)
  | bl j=>cases ry;exact PySem.EqMixed.eq_str_bool (bD I q Yh)
  | int j=>obtain⟨t',rfl⟩:=ry;exact PySem.EqMixed.eq_str_int (bD I q Yh)
  | str j=>obtain⟨t',rfl⟩:=ry;exact eq_str (bD I q Bb)
  | _=>exact absurd (show false=true from hs) QV
 | byt i=>
  obtain⟨t,rfl⟩:=rx;cases y with
  | byt j=>obtain⟨t',rfl⟩:=ry;exact PySem.W.eq_bytes (bD I q Bc)
  | _=>exact absurd (show false=true from hs) QV
 | _=>cases y <;> exact absurd (show false=true from hs) QV
theorem HH:bG X (YF .NotEq) A8:=by
 intro ZY s σ H x y v u Q I rx ry h;obtain⟨hs,q⟩:=h;cases x with
 | non=>
  cases rx;cases y with
  | non=>cases ry;exact PySem.EqNone.ne_none_none (bD I q Yh)
  | bl j=>cases ry;exact PySem.EqNone.ne_none_bool (bD I q Yh)
  | int j=>obtain⟨t',rfl⟩:=ry;exact PySem.EqNone.ne_none_int (bD I q Yh)
  | str j=>obtain⟨t',rfl⟩:=ry;exact PySem.EqNone.ne_none_str (bD I q Yh)
  | _=>exact absurd (show false=true from hs) QV
 | bl i=>
  cases rx;cases y with
  | non=>cases ry;exact PySem.EqNone.ne_bool_none (bD I q Yh)
  | bl j=>cases ry;exact ne_bool (bD I q (congrArg not Ba))
  | str j=>obtain⟨t',rfl⟩:=ry;exact PySem.EqMixed.ne_bool_str (bD I q Yh)
  | _=>exact absurd (show false=true from hs) QV
 | int i=>
  obtain⟨t,rfl⟩:=rx;cases y with
  | non=>cases ry;exact PySem.EqNone.ne_int_none (bD I q Yh)
  | int j=>obtain⟨t',rfl⟩:=ry;exact ne_int (bD I q (congrArg not A9))
  | str j=>obtain⟨t',rfl⟩:=ry;exact PySem.EqMixed.ne_int_str (bD I q Yh)
  | _=>exact absurd (show false=true from hs) QV
 | str i=>
  obtain⟨t,rfl⟩:=rx;cases y with
  | non=>cases ry;exact PySem.EqNone.ne_str_none (bD I q Yh)
  | bl j=>cases ry;exact PySem.EqMixed.ne_str_bool (bD I q Yh)
  | int j=>obtain⟨t',rfl⟩:=ry;exact PySem.EqMixed.ne_str_int (bD I q Yh)
  | str j=>obtain⟨t',rfl⟩:=ry;exact ne_str (bD I q (congrArg not Bb))
  | _=>exact absurd (show false=true from hs) QV
 | byt i=>
  obtain⟨t,rfl⟩:=rx;cases y with
  | byt j=>obtain⟨t',rfl⟩:=ry;exact PySem.W.ne_bytes (bD I q (congrArg not Bc))
  | _=>exact absurd (show false=true from hs) QV
 | _=>cases y <;> exact absurd (show false=true from hs) QV
theorem rN:bG X (YF .Lt) (iq λi j=>.bl (decide (i < j))):=rM λ_ _ _ _ _ _ _ q=>lt_int q
theorem lP:bG X (YF .LtE) (iq λi j=>.bl (decide (i<=j))):=rM λ_ _ _ _ _ _ _ q=>le_int q
theorem jE:bG X (YF .Gt) (iq λi j=>.bl (decide (j < i))):=rM λ_ _ _ _ _ _ _ q=>gt_int q
theorem Bd:bG X (YF .GtE) (iq λi j=>.bl (decide (j<=i))):=rM λ_ _ _ _ _ _ _ q=>ge_int q
theorem qp:bG X (YF .Is) (λx y H Q=>y= .non/\Q (.bl (decide (x= .non))) H):=by
 intro ZY s σ H x y v u Q I rx ry h;obtain⟨rfl,q⟩:=h;cases ry;refine is_none_gen (bD I q ?_);cases x <;> first
  | (cases rx;rfl)
  | (obtain⟨t,rfl⟩:=rx;rfl)
theorem Be:bG X (YF .IsNot) (λx y H Q=>y= .non/\Q (.bl (!decide (x= .non))) H):=by
 intro ZY s σ H x y v u Q I rx ry h;obtain⟨rfl,q⟩:=h;cases ry;refine isnot_none_gen (bD I q ?_);cases x <;> first
  | (cases rx;rfl)
  | (obtain⟨t,rfl⟩:=rx;rfl)
theorem aF(b:Yr){op:CmpOp}(h:op≠ .In:=by decide)(h2:op≠ .NotIn:=by decide):YO op b=false:=by
 have e1:(op==CmpOp.In)=false:=by cases op <;> first | rfl | exact absurd rfl h
 have e2:(op==X2)=false:=by cases op <;> first | rfl | exact absurd rfl h2
 cases b <;> simp [YO,e1,e2]
theorem rO{op:CmpOp}{r:R2}(ho:bG X (YF op) r)(ha:PE X a ta)(hb:PE X b tb)(hm:YO op b=false):PE X (.Compare a [op] [b] pos) (oU r ta tb):=by
 intro ZY s σ H Q I h;exact wpAny_Compare1 (uS ha hb I h λv u s2 x y H2 I2 rx ry q=>ho ZY s2 σ H2 x y v u Q I2 rx ry q) hm
def Bf(t:TE):TT:=λσ H Q=>t σ H λx H'=>∃k,x= .bl k/\Q k H'
theorem nP{op:CmpOp}{r:R2}(ho:bG X (YF op) r)(ha:PE X a ta)(hb:PE X b tb)(hm:YO op b=false):PT X (.Compare a [op] [b] pos) (Bf (oU r ta tb)):=by
 intro ZY s σ H Q I h;refine wpAny_isTrue_Compare1 (aB (ha ZY s σ H _ I h) λv s1 ⟨x,H1,I1,r1,q1⟩=>aB (hb ZY s1 σ H1 _ I1 q1) λu s2 ⟨y,H2,I2,r2,q2⟩=>
  aB (ho ZY s2 σ H2 x y v u _ I2 r1 r2 q2) λc s3 ⟨z,H3,I3,r3,k,e,q3⟩=>?_) hm
 subst e;cases r3;exact YT ⟨H3,I3,q3⟩
def Bg(K:QN)(x:V)(H:Hp)(k:Bool):Prop:=
 match x with
 | .non=>k=false
 | .bl b=>k=b
 | .int i=>k=(i !=0)
 | .str y=>y.length<=Yt/\k=((y.length:Int) !=0)
 | .byt y=>y.size<=Yt/\k=((y.size:Int) !=0)
 | .ref p=>(∃xs,bo K H p xs/\k=!xs.isEmpty)\/(∃xs,aZ K H p xs/\k=!xs.isEmpty)\/∃kvs,H p=some (.dK kvs)/\k=!kvs.isEmpty
 | _=>False
theorem HI{κ:Type}{kvs:List (κ×V)}{vs:List (κ×Yj)}(r:KV kvs vs):(!vs.isEmpty)=!kvs.isEmpty:=by
 cases r <;> rfl
theorem Bh{xs:List V}{its:List Yj}(r:aI xs its):(!its.toArray.isEmpty)=!xs.isEmpty:=by
 cases r <;> simp
theorem qq:(Yt:Nat) < 2 ^ 63:=by rw [YM];decide
theorem HJ:HD X (λx H Q=>∃k,Bg X.K x H k/\Q k H):=by
 intro ZY s σ H x v Q I rx h;obtain⟨k,e,q⟩:=h;have hl:=qq;have hs:Yt=16777216:=YM;cases x with
 | non=>
  cases rx;have e':k=false:=e;subst e';exact truthy_none ⟨H,I,q⟩
 | bl b=>
  cases rx;have e':k=b:=e;subst e';exact YT ⟨H,I,q⟩
 | int i=>
  obtain⟨t,rfl⟩:=rx;have e':k=(i !=0):=e;subst e';exact PySem.P.truthy_int ⟨H,I,q⟩
 | str y=>
  obtain⟨t,rfl⟩:=rx;obtain⟨hy,e'⟩:y.length<=Yt/\k=((y.length:Int) !=0):=e;subst e';exact PySem.P.truthy_str Yd ⟨H,I.tok _,q⟩
 | byt y=>
  obtain⟨t,rfl⟩:=rx;obtain⟨hy,e'⟩:y.size<=Yt/\k=((y.size:Int) !=0):=e;subst e';exact PySem.W.truthy_bytes Yd ⟨H,I.tok _,q⟩
 | ref p=>
  cases rx;have e':(∃xs,bo X.K H p xs/\k=!xs.isEmpty)\/(∃xs,aZ X.K H p xs/\k=!xs.isEmpty)\/∃kvs,H p=some (.dK kvs)/\k=!kvs.isEmpty:=e;rcases e' with⟨xs,hx,e'⟩ | ⟨xs,hx,e'⟩ | ⟨kvs,hx,e'⟩
  ·subst e';obtain⟨its,r,pl,hz⟩:=I.list hx;have hlen:=r.length;exact wpAny_truthy_list pl.isList (by simp only [Q4];omega) ⟨H,I.tok _,by rw [Bh r];exact q⟩
  ·subst e';obtain⟨its,r,pl,hz⟩:=I.tuple hx;have hlen:=r.length;exact truthy_tuple pl (by simp only [Q4];omega) ⟨H,I.tok _,by rw [Bh r];exact q⟩
  ·subst e';obtain⟨hz,hS,vs,r,m⟩:kvs.length<=Yt/\(p==Y0)=false/\∃vs,KV kvs vs/\s.heap.DictOf (dF X.prog X.w) p vs:=I.hok p _ hx;have hlen:kvs.length=vs.length:=VS r;exact wpAny_truthy_dict hS m Yd ⟨H,I.tok _,by rw [HI r];exact q⟩
 | _=>exact(show False from e).elim
theorem HK(ha:PE X a ta)(he:∀whole,isTrue a X.env whole=(do let v<-whole;ZD a.pos;Zs [v] (truthy v))):
 PT X a (λσ H Q=>ta σ H λx H'=>∃k,Bg X.K x H' k/\Q k H'):=by
 intro ZY s σ H Q I h;exact isTrue_plain (aB (ha ZY s σ H _ I h) λv s1 uu33=>by obtain⟨x,H1,I1,r1,q1⟩:=uu33;exact HJ ZY s1 σ H1 x v Q I1 r1 q1) (he _)
theorem Bi:bG X (YU .Add) (λx y H Q=>∃i j,x= .str i/\y= .str j/\i.length+j.length<=Yt/\Q (.str (i++j)) H):=by
 intro ZY s σ H x y v u Q I rx ry h;obtain⟨i,j,rfl,rfl,hz,q⟩:=h;obtain⟨t,rfl⟩:=rx;obtain⟨t',rfl⟩:=ry;exact add_str (λt' tk=>⟨.str (i++j),H,I.tok _,⟨_,rfl⟩,q⟩) hz
theorem fo{x:V}{us:List Yj}(r:aI [x] us):∃u,us=[u]/\aJ x u:=by
 cases r with
 | cons r1 r2=>cases r2;exact⟨_,rfl,r1⟩
theorem uU{x y:V}{us:List Yj}(r:aI [x,y] us):∃u w',us=[u,w']/\aJ x u/\aJ y w':=by
 cases r with
 | cons r1 r2=>
  cases r2 with
  | cons r3 r4=>cases r4;exact⟨_,_,rfl,r1,r3⟩
theorem HL:d7 X (.builtin "abs") (λxs H Q=>∃i,xs=[.int i]/\Q (.int (if i < 0 then -i else i)) H):=by
 intro ZY s σ H xs us Q I r h;obtain⟨i,rfl,q⟩:=h;obtain⟨u,rfl,t,rfl⟩:=fo r;exact call_abs_int λu tk=>⟨.int (if i < 0 then -i else i),H,I.tok _,⟨_,rfl⟩,q⟩
theorem HM(hc:X.calm=true):d7 X (.builtin "max") (λxs H Q=>∃i j,xs=[.int i,.int j]/\Q (.int (if j > i then j else i)) H):=by
 intro ZY s σ H xs us Q I r h;obtain⟨i,j,rfl,q⟩:=h;obtain⟨u,w',rfl,⟨t,rfl⟩,⟨t',rfl⟩⟩:=uU r;refine max_two_ints (I.ok.hd hc) λh' tk k=>⟨_,H,I.kept k,?_,q⟩;by_cases hj:j > i
 ·rw [Yf hj,Yf hj];exact⟨_,rfl⟩
 ·rw [Ye hj,Ye hj];exact⟨_,rfl⟩
theorem HN(hc:X.calm=true):d7 X (.builtin "min") (λxs H Q=>∃i j,xs=[.int i,.int j]/\Q (.int (if j < i then j else i)) H):=by
 intro ZY s σ H xs us Q I r h;obtain⟨i,j,rfl,q⟩:=h;obtain⟨u,w',rfl,⟨t,rfl⟩,⟨t',rfl⟩⟩:=uU r;refine min_two_ints (I.ok.hd hc) λh' tk k=>⟨_,H,I.kept k,?_,q⟩;by_cases hj:j < i
 ·rw [Yf hj,Yf hj];exact⟨_,rfl⟩
 ·rw [Ye hj,Ye hj];exact⟨_,rfl⟩
theorem qr:d7 X (.type "int") (λxs H Q=>(∃i,xs=[.int i]/\Q (.int i) H)\/∃k,xs=[.bl k]/\Q (.int (if k then 1 else 0)) H):=by
 intro ZY s σ H xs us Q I r h;rcases h with⟨i,rfl,q⟩ | ⟨k,rfl,q⟩
 ·obtain⟨u,rfl,t,rfl⟩:=fo r;exact call_int_int ⟨.int i,H,I,⟨_,rfl⟩,q⟩
 ·obtain⟨u,rfl,r1⟩:=fo r;cases r1;exact call_int_bool ⟨.int (if k then 1 else 0),H,I.tok _,⟨_,rfl⟩,q⟩
theorem HP:d7 X (.builtin "divmod") (λxs H Q=>∃i j,xs=[.int i,.int j]/\gr i j/\∀p,H p=none->Q (.ref p) (ah H p (.tup [.int (i / j),.int (i % j)]))):=by
 intro ZY s σ H xs us Q I r h;obtain⟨i,j,rfl,⟨h1,h2⟩,q⟩:=h;obtain⟨u,w',rfl,⟨t,rfl⟩,⟨t',rfl⟩⟩:=uU r;refine divmod_int Yd ?_ (.inl (WC Yd));rw [VU i Yd,VV i Yd];have hn:H s.heap.objs.size=none:=I.hok.fresh (QQ _);refine⟨.ref s.heap.objs.size,_,?_,rfl,q _ hn⟩;refine I.laid (λb o e=>QS _ e) (QQ _) ⟨by simp only [Q0,RJ];rw [YM];decide,[.int (i / j) s.toks,.int (i % j) (s.toks+1)],.cons ⟨_,rfl⟩ (.cons ⟨_,rfl⟩ .nil),?_⟩;exact⟨_,Rb s.heap rfl,rfl,0,rfl⟩
end
structure nQ (h:Yw) (x dx C:Yl) (mA:Str->Option Yj):Prop where
 obj:h.get? x=some (TH C dx)
 ns:h.Ns1 dx mA
 ne:dx≠x
theorem HQ{h:Yw}{dx:Yl}{mA:Str->Option Yj}(n:h.Ns1 dx mA):∃od,h.get? dx=some od/\∀name,VI name od=some (mA name):=by
 obtain⟨o,es,ep,ho,hd,hk,_,hm⟩:=n;refine⟨o,ho,λname=>?_⟩;have e:=hm name;unfold nsFind findBy at e;rw [<-Array.find?_toList] at e;unfold VI;rw [hd];dsimp only;split
 ·rename_i y q;rw [q] at e;exact congrArg some e
 ·rename_i q;rw [q] at e;have a:es.toList.any (·.refKey)=false:=by
   rw [V4];intro y hy;obtain⟨z,t,hkey⟩:=hk y (WO.mp hy);simp [DictEntry.refKey,hkey]
  have a':¬es.toList.any (·.refKey)=true:=by rw [a];exact QV
  rw [Ye a'];exact congrArg some e
theorem nQ.look{h:Yw}{x dx C:Yl}{mA:Str->Option Yj}(I:nQ h x dx C mA):∃od,PySem.W.InstAt h x (TH C dx) C (some od)/\∀name,VI name od=some (mA name):=
 let ⟨od,ho,hl⟩:=HQ I.ns
 ⟨od,⟨I.obj,rfl,rfl,ho⟩,hl⟩
section
variable {prog:Yu} {w:Yv} {A:Yz} {E:Yj->Ym->Prop} {s:Ym} {K:QN} {x dx C f:Yl} {mA:Str->Option Yj} {name:Str} {v:Yj}
theorem HR{expr:Bool}{Q:Yj->Ym->Prop}(X:K.In s.heap)(I:nQ s.heap x dx C mA)(hg:Vu K C name=true)(hh:V5 K C=true)
 (ha:SW K (.ref C) name=some none)(hv:mA name=some v)(hv':Xr v=true)(h:Q v {s with toks:=s.toks+1}):
 Yo (Yq prog w) A (getAttr (.ref x) name expr) Q E s:=by
 obtain⟨od,J,hl⟩:=I.look;exact PySem.W.get_value X J (VF hg).1 (PySem.W.findObj_own hh ha rfl (by rw [hl,hv])) hv' h
theorem HS{pl:Sem Bool}{Q:Yj×List Yj->Ym->Prop}(X:K.In s.heap)(I:nQ s.heap x dx C mA)(hg:Vu K C name=true)
 (hf:SW K (.ref C) name=some (some (.ref f)))(ht:Vz K (.ref f)=true)(hv:mA name=none)(h:Q (.ref f,[.ref x]) s):
 Yo (Yq prog w) A (ZE (.ref x) name pl) Q E s:=by
 obtain⟨od,J,hl⟩:=I.look;exact PySem.W.method_fn X J (VF hg).1 (VF hg).2 hf (beq_iff_eq.mp ht) (by show(VI name od).map (·.isSome)=some false;rw [hl,hv];rfl) h
theorem HU{ns:List Str}{Q:Unit->Ym->Prop}(X:K.In s.heap)(I:nQ s.heap x dx C mA)
 (hs:SW K (.ref C) "__setattr__"=some (some (.builtin "object.__setattr__")))(hp:Xf K C=true)(ht:Wy K C name=some none)(hh:V5 K C=true)
 (hw:W0 mA ns)(hsz:ns.length<=Yt)
 (h:∀h',nQ h' x dx C (λy=>if y=name then some v else mA y)->Tp dx s.heap h'->Q () {s with heap:=h',toks:=s.toks+2}):
 Yo (Yq prog w) A (setAttr (.ref x) name v) Q E s:=by
 obtain⟨od,J,hl⟩:=I.look;refine PySem.W.set_plain X J hs (PySem.W.osa_open (s:={s with toks:=s.toks+1}) (r:=none) X J hp ht λb=>?_);obtain⟨cd,hc,hd'⟩:=PySem.W.any_some hh;have hx:s.heap.get? x=some ⟨.ref C,some dx,.plain,#[]⟩:=I.obj;refine Yk (Yn (Yk (Yk (wpAny_loadPart hx (Yk (PySem.W.Looks.here (s:={s with toks:=s.toks+1}) (PySem.W.looks_clsIn X hc) ?_))))));rw [hd'];refine Yn (a:=some dx) (Yk (Yn (Yk ?_)));refine wpAny_nsSet1 (s:={s with toks:=s.toks+1}) I.ns λh' hn2 hs2=>?_;obtain⟨oD,esD,epD,hoD,hdD,hcD⟩:=hn2.count (W0.cons name v hw);refine Yk (wpAny_lookBehind hoD (by rw [hdD];exact pastItsLine_dict (Rj hcD (by rw [Q0];omega))) ?_);exact Yn (h _ ⟨(hs2.2 _ (Ne.symm I.ne)).trans I.obj,hn2,I.ne⟩ hs2)
theorem HV{R:Result->Ym->Prop}{vs:List Yj}{kw:List (Str×Yj)}(X:K.In s.heap)(hm:Wz K C=true)
 (hi:SW K (.ref C) "__init__"=some (some (.ref f)))(hf:PySem.W.typeIn K (.ref f)=some (.type "function"))
 (h:Zc (Yq prog w) (A.under (.builtin "type.__call__" ⟨.ref C::vs,kw⟩)) (.call (.ref f) ⟨.ref (s.heap.objs.size+1)::vs,kw⟩) (PySem.W.InitBack (s.heap.objs.size+1) R)
   {s with heap:=(s.heap.push SY).push (TH C s.heap.objs.size)}):
 Zc (Yq prog w) A (.call (.ref C) ⟨vs,kw⟩) R s:=by
 obtain⟨hh,g,d,t,os⟩:=s;exact PySem.W.make_core (PySem.W.makes_of X hm) (PySem.W.looks_findIn X hi) (λself=>PySem.W.bind_fn X self hf) (.inl rfl) h
end
def cY(f:Str)(v:V):List (Str×V)->List (Str×V)
 | []=>[(f,v)]
 | (g,x)::r=>if g=f then(g,v)::r else(g,x)::cY f v r
theorem Bj(f g:Str)(v:V):∀fs:List (Str×V),(cY f v fs).lookup g=if g=f then some v else fs.lookup g
 | []=>by
  show UJ g [(f,v)]=_;by_cases h:g=f
  ·have hb:(g==f)=true:=beq_iff_eq.mpr h;simp only [UJ,hb,Yf h]
  ·have hb:(g==f)=false:=beq_eq_false_iff_ne.mpr h;simp only [UJ,hb,Ye h]
 | (k,x)::r=>by
  have ih:=Bj f g v r;rw [show cY f v ((k,x)::r)=(if k=f then(k,v)::r else(k,x)::cY f v r) from rfl];by_cases hk:k=f
  ·rw [Yf hk];by_cases h:g=k
   ·have hb:(g==k)=true:=beq_iff_eq.mpr h;simp only [UJ,hb,Yf (h.trans hk)]
   ·have hb:(g==k)=false:=beq_eq_false_iff_ne.mpr h;simp only [UJ,hb,Ye (λe:g=f=>h (e.trans hk.symm))]
  ·rw [Ye hk];by_cases h:g=k
   ·have hb:(g==k)=true:=beq_iff_eq.mpr h;simp only [UJ,hb,Ye (λe:g=f=>hk (h.symm.trans e))]
   ·have hb:(g==k)=false:=beq_eq_false_iff_ne.mpr h;simp only [UJ,hb];exact ih
theorem uV(f:Str)(v:V):∀fs:List (Str×V),f∈(cY f v fs).map (·.1)/\∀g,g∈fs.map (·.1)->g∈(cY f v fs).map (·.1)
 | []=>⟨by simp [cY],λg h=>by simp at h⟩
 | (k,x)::r=>by
  obtain⟨i1,i2⟩:=uV f v r;rw [show cY f v ((k,x)::r)=(if k=f then(k,v)::r else(k,x)::cY f v r) from rfl];by_cases hk:k=f
  ·rw [Yf hk];subst hk;exact⟨Yh,λg h=>by simpa using h⟩
  ·rw [Ye hk];refine⟨?_,λg h=>?_⟩
   ·rw [QR];exact Ri _ i1
   ·rw [QR] at h⊢;rcases QX.mp h with e | e
    ·exact QX.mpr (.inl e)
    ·exact Ri _ (i2 g e)
theorem Bk(f:Str)(v:V):∀fs:List (Str×V),(cY f v fs).length<=fs.length+1
 | []=>by simp [cY]
 | (k,x)::r=>by
  have ih:=Bk f v r;rw [show cY f v ((k,x)::r)=(if k=f then(k,v)::r else(k,x)::cY f v r) from rfl];by_cases hk:k=f
  ·rw [Yf hk,Q0,Q0];omega
  ·rw [Ye hk,Q0,Q0];omega
theorem dN.some_of{v:V}{o:Option Yj}(r:dN (some v) o):∃u,o=some u/\aJ v u:=by
 cases o with
 | none=>exact(show False from r).elim
 | some u=>exact⟨u,rfl,r⟩
theorem dN.none_of{o:Option Yj}(r:dN none o):o=none:=by
 cases o with
 | none=>rfl
 | some u=>exact(show False from r).elim
theorem HW{v:V}{u:Yj}(r:aJ v u):Xr u=true:=by
 cases v with
 | non=>cases (show u=SH from r);rfl
 | bl b=>cases (show u=UC b from r);rfl
 | int i=>obtain⟨t,e⟩:=(show ∃t,u=Tv i t from r);cases e;rfl
 | str x=>obtain⟨t,e⟩:=(show ∃t,u=UB x t from r);cases e;rfl
 | byt b=>obtain⟨t,e⟩:=(show ∃t,u=X0 b t from r);cases e;rfl
 | flt b=>obtain⟨t,e⟩:=(show ∃t,u=X1 b t from r);cases e;rfl
 | ref a=>cases (show u=RE a from r);rfl
 | ty n=>cases (show u=UD n from r);rfl
section
variable {P:Yu} {w:Yv} {H H':Hp} {h h':Yw} {a C dx:Yl} {fs fs':List (Str×V)}
theorem uW(hok:bK P w H h)(e:H a=some (.ins C dx fs)):∃mA,nQ h a dx C mA/\(∀f,dN (fs.lookup f) (mA f))/\W0 mA (fs.map (·.1))/\fs.length<=1000/\H dx=some (.own a):=by
 obtain⟨d,z,ne,ob,mA,n,r,q⟩:=(show cj P w H h a (.ins C dx fs) from hok a _ e);exact⟨mA,⟨ob,n,ne⟩,r,q,z,d⟩
end
structure cQ (K:QN) (C:Yl):Prop where
 pg:Vu K C Str.empty=true
 hd:V5 K C=true
 po:Xf K C=true
 sa:SW K (.ref C) "__setattr__"=some (some (.builtin "object.__setattr__"))
theorem cQ.get{K:QN}{C:Yl}(c:cQ K C)(f:Str):Vu K C f=true:=c.pg
def NoAttr(K:QN)(C:Yl)(f:Str):Prop:=SW K (.ref C) f=some none
theorem NoAttr.taker{K:QN}{C:Yl}{f:Str}(n:NoAttr K C f):Wy K C f=some none:=by
 unfold Wy;rw [show SW K (.ref C) f=some none from n];rfl
structure gY (K:QN) (C:Yl) (m:Str) (f:Yl):Prop where
 at_:SW K (.ref C) m=some (some (.ref f))
 fn:Vz K (.ref f)=true
 kp:SX K (.ref f)=true
section
variable {X:Cx} {ZY:List (Yl×Obj)} {σ:St} {H:Hp} {s:Ym} {a C dx:Yl} {fs:List (Str×V)} {f:Str} {v:V} {A:Yz} {E:Yj->Ym->Prop}
theorem HX{b:Bool}{Q:Yj->Ym->Prop}(I:ag X ZY σ H s)(e:H a=some (.ins C dx fs))(c:cQ X.K C)(n:NoAttr X.K C f)(l:fs.lookup f=some v)
 (h:∀u s',ag X ZY σ H s'->aJ v u->Q u s'):Yo (Yq X.prog X.w) A (getAttr (.ref a) f b) Q E s:=by
 obtain⟨mA,O,r,_,_,_⟩:=uW I.hok e;obtain⟨u,hu,ru⟩:=dN.some_of (v:=v) (o:=mA f) (by rw [<-l];exact r f);exact HR I.kIn O (c.get f) c.hd n hu (HW ru) (h u _ (I.tok _) ru)
theorem rP{m:Str}{g:Yl}{pl:Sem Bool}{Q:Yj×List Yj->Ym->Prop}(I:ag X ZY σ H s)(e:H a=some (.ins C dx fs))(c:cQ X.K C)(k:gY X.K C m g)(l:fs.lookup m=none)
 (h:Q (.ref g,[.ref a]) s):Yo (Yq X.prog X.w) A (ZE (.ref a) m pl) Q E s:=by
 obtain⟨mA,O,r,_,_,_⟩:=uW I.hok e;have hn:mA m=none:=dN.none_of (by rw [<-l];exact r m);exact HS I.kIn O (c.get m) k.at_ k.fn hn h
theorem HY{y:V}{u:Yj}{Q:Unit->Ym->Prop}(I:ag X ZY σ H s)(e:H a=some (.ins C dx fs))(c:cQ X.K C)(n:NoAttr X.K C f)(hl:fs.length < 1000)(ry:aJ y u)
 (h:∀s',ag X ZY σ (ah H a (.ins C dx (cY f y fs))) s'->Q () s'):Yo (Yq X.prog X.w) A (setAttr (.ref a) f u) Q E s:=by
 obtain⟨mA,O,r,wi,_,ho⟩:=uW I.hok e;have hz:(fs.map (·.1)).length<=Yt:=by rw [QO,YM];omega
 refine HU I.kIn O c.sa c.po n.taker c.hd wi hz λh' O' sb=>h _ ?_;have hd:∃o,h'.get? dx=some o:=let ⟨o,_,_,e',_⟩:=O'.ns;⟨o,e'⟩
 refine I.write (x:=a) (e:=dx) (by rw [e];exact Tg) (.inr ho) (λb q hb z=>(sb.2 b hb).trans z) hd ?_;refine⟨by rw [az O.ne];exact ho,?_,O.ne,O'.obj,_,O'.ns,λg=>?_,λg hg=>?_⟩
 ·have:=Bk f y fs;omega
 ·show dN ((cY f y fs).lookup g) (if g=f then some u else mA g);rw [Bj];by_cases q:g=f
  ·rw [Yf q,Yf q];exact ry
  ·rw [Ye q,Ye q];exact r g
 ·by_cases q:g=f
  ·rw [q];exact(uV f y fs).1
  ·refine(uV f y fs).2 g (wi g λz=>hg ?_);show(if g=f then some u else mA g)=none;rw [Ye q];exact z
theorem ag.made(I:ag X ZY σ H s):ag X ZY σ (ah (ah H s.heap.objs.size (.own (s.heap.objs.size+1))) (s.heap.objs.size+1) (.ins C s.heap.objs.size []))
 {s with heap:=(s.heap.push SY).push (TH C s.heap.objs.size)}:=by
 have e1:(s.heap.push SY).get? s.heap.objs.size=some SY:=Rb s.heap rfl;have e2:((s.heap.push SY).push (TH C s.heap.objs.size)).get? (s.heap.objs.size+1)=some (TH C s.heap.objs.size):=by
  have:=Rb (s.heap.push SY) (o:=TH C s.heap.objs.size) rfl
  rwa [Tw] at this
 have e3:(s.heap.push SY).Ns s.heap.objs.size (λ_=>none):=⟨SY,#[],_,e1,rfl,(λe he=>absurd he Yh),λ_=>rfl⟩;have I1:=I.laid (a:=s.heap.objs.size) (o:= .own (s.heap.objs.size+1)) (h':=s.heap.push SY) (t':=s.toks) (λb u q=>QS _ q) (QQ _) ⟨_,e1⟩;refine I1.laid (a:=s.heap.objs.size+1) (o:= .ins C s.heap.objs.size []) (t':=s.toks) (λb u q=>QS _ q) (W2 (Tw _ _)) ?_;have ne:s.heap.objs.size≠s.heap.objs.size+1:=Rz (SR _);refine⟨by rw [az ne,bq],RD _,ne,e2,λ_=>none,(Heap.Ns1.of_empty e3).at λo q=>QS _ q,λ_=>Tg,λy hy=>absurd rfl hy⟩
theorem HZ{prog:Yu}{w:Yv}{env:Env}{e:Yr}{f:Str}{pos:Pos}{s:Ym}{Q:Yj->Ym->Prop}(hb:YQ e f env (eval e env)=eval e env)
 (h:Yo (Yq prog w) A (eval e env) (λo s₁=>Yo (Yq prog w) A (getAttr o f true) Q E s₁) E s):Yo (Yq prog w) A (eval (.Attribute e f pos) env) Q E s:=
 Attribute_any_ h (by rw [arm_eval_Attribute,hb])
end
def Ia(K:QN)(ta:TE)(f:Str):TE:=λσ H Q=>ta σ H λx H1=>∃a C dx fs v,x= .ref a/\H1 a=some (.ins C dx fs)/\cQ K C/\NoAttr K C f/\fs.lookup f=some v/\Q v H1
def Ib(K:QN)(ta tv:TE)(f:Str):TS:=λD σ H=>tv σ H λy H1=>ta σ H1 λx H2=>∃a C dx fs,x= .ref a/\H2 a=some (.ins C dx fs)/\cQ K C/\NoAttr K C f/\fs.length < 1000/\
 D.nx σ (ah H2 a (.ins C dx (cY f y fs)))
section
variable {X:Cx} {o e value:Yr} {f:Str} {pos pos' tpos:Pos} {ta tv:TE}
theorem rQ(he:PE X e ta)(hb:YQ e f X.env (eval e X.env)=eval e X.env):PE X (.Attribute e f pos) (Ia X.K ta f):=by
 intro ZY s σ H Q I h;refine HZ hb (aB (he ZY s σ H _ I h) λu s1 ⟨x,H1,I1,rx,a,C,dx,fs,v,ex,ea,c,n,l,q⟩=>?_);subst ex;obtain rfl:u=RE a:=rx;exact HX I1 ea c n l λu' s2 I2 ru=>⟨v,H1,I2,ru,q⟩
theorem uX(ha:PE X o ta)(hv:PE X value tv)(hs:YD value (some (.Attribute o f pos')) pos.line X.env=pure false):PS X (.Assign [.Attribute o f pos'] value pos) (Ib X.K ta tv f):=by
 intro ZY s σ H D I h;refine plainObj_wpAny_Assign_Attribute (aB (hv ZY s σ H _ I h) λu s1 ⟨y,H1,I1,ry,q⟩=>aB (ha ZY s1 σ H1 _ I1 q) λov s2 ⟨x,H2,I2,rx,a,C,dx,fs,ex,ea,c,n,l,q2⟩=>?_) hs;subst ex;obtain rfl:ov=RE a:=rx;exact HY I2 ea c n l ry λs3 I3=>⟨σ,_,I3,q2⟩
theorem QH{pl:Sem Bool}{m:Str}{apos:Pos}{args:List Yr}{ZY:List (Yl×Obj)}{s:Ym}{σ:St}{H:Hp}{Q:Yj->Ym->Prop}{te:TE}(he:PE X e te)(I:ag X ZY σ H s)
 (h:te σ H λx H1=>∃a C dx fs g,x= .ref a/\H1 a=some (.ins C dx fs)/\cQ X.K C/\gY X.K C m g/\fs.lookup m=none/\
   ∀s1,ag X ZY σ H1 s1->Yo (Yq X.prog X.w) X.A (callWith pos (.ref g) [.ref a] (YC pos (Yp args X.env)) (Y6 pos (YS [] X.env))) Q X.xe s1)
 (ht:eval (.Call (.Attribute e m apos) args [] pos) X.env=(do
   let ov<-eval e X.env
   ZD apos.atName
   let (f,first)<-Zs [ov] (ZE ov m pl)
   callWith pos f first (YC pos (Yp args X.env)) (Y6 pos (YS [] X.env)))):
 Yo (Yq X.prog X.w) X.A (eval (.Call (.Attribute e m apos) args [] pos) X.env) Q X.xe s:=by
 refine UT (pl:=pl) (aB (he ZY s σ H _ I h) λu s1 ⟨x,H1,I1,rx,a,C,dx,fs,g,ex,ea,c,k,l,q⟩=>?_) ht;subst ex;obtain rfl:u=RE a:=rx;exact rP I1 ea c k l (q s1 I1)
end
structure bp (k:Nat) (A:Yz):Prop where
 hd:A.handled=none
 dp:A.depth+3*k+5 < recursionLimit
 un:A.units+16*k+200 < YL
theorem bp.mono{j k:Nat}{A:Yz}(r:bp k A)(h:j<=k):bp j A:=⟨r.hd,by have:=r.dp;omega,by have:=r.un;omega⟩
theorem bp.deeper{k:Nat}{A:Yz}(r:bp (k+1) A)(env:Env):bp k (A.deeper env):=
 ⟨r.hd,by have:=r.dp;show A.depth+1+3*k+5 < _;omega,by have:=r.un;show A.units+3+16*k+200 < _;omega⟩
theorem bp.in1{k:Nat}{A:Yz}(r:bp (k+1) A):bp k A.in1:=
 ⟨r.hd,by have:=r.dp;show A.depth+3*k+5 < _;omega,by have:=r.un;show A.units+1+16*k+200 < _;omega⟩
theorem Ic{A:Yz}{C:Yl}{us:List Yj}{kw:List (Str×Yj)}:(A.under (.builtin "type.__call__" ⟨.ref C::us,kw⟩)).depth=A.depth+1:=by
 first | rfl | simp [W3,Code.weight,Code.isCreation,Code.isGuard,Code.isCaller,X3,W4,guardIds]
theorem Ie{A:Yz}{C:Yl}{us:List Yj}{kw:List (Str×Yj)}:(A.under (.builtin "type.__call__" ⟨.ref C::us,kw⟩)).units=A.units+1:=by
 first | rfl | simp [W3,Code.cUnits,X3,W4]
theorem bp.make{k:Nat}{A:Yz}(r:bp (k+1) A)(C:Yl)(us:List Yj)(kw:List (Str×Yj)):bp k (A.under (.builtin "type.__call__" ⟨.ref C::us,kw⟩)):=
 ⟨r.hd,by have:=r.dp;rw [Ic];omega,by have:=r.un;rw [Ie];omega⟩
theorem bp.depth{k:Nat}{A:Yz}(r:bp k A):A.depth < recursionLimit:=by have:=r.dp;omega
theorem bp.units{k:Nat}{A:Yz}(r:bp k A):A.units+64 < YL:=by have:=r.un;omega
theorem bp.units0{k:Nat}{A:Yz}(r:bp k A):A.units < YL:=by have:=r.un;omega
def oV:TA:=λ_ H Q=>Q [] H
def Bl(ta:TE)(tr:TA):TA:=λσ H Q=>ta σ H λx H1=>tr σ H1 λxs H2=>Q (x::xs) H2
section
variable {X:Cx} {e:Yr} {es:List Yr} {te:TE} {t:TA} {pos:Pos}
theorem b7:PA X [] oV:=λ_ _ _ _ H Q I h=>V6 ⟨[],H,I,.nil,h⟩
theorem bw(ha:PE X e te)(hr:PA X es t)(hs:Yp (e::es) X.env=(false,eval e X.env)::Yp es X.env:=by rfl):PA X (e::es) (Bl te t):=by
 intro pos ZY s σ H Q I h;rw [hs];show Yo _ _ (spliced ((false,eval e X.env)::YC pos (Yp es X.env))) _ _ s;refine Va (aB (ha ZY s σ H _ I h) λu s1 ⟨x,H1,I1,r1,q1⟩=>?_);exact aB (hr pos ZY s1 σ H1 _ I1 q1) λus s2 uu39=>by obtain⟨xs,H2,I2,r2,q2⟩:=uu39;exact⟨x::xs,H2,I2,.cons r1 r2,q2⟩
def Bm(t:TA):TE:=λσ H Q=>t σ H λxs H1=>xs.length<=Yt/\∀p,H1 p=none->Q (.ref p) (ah H1 p (.tup xs))
def Bn(t:TA):TE:=λσ H Q=>t σ H λxs H1=>xs.length<=Yt/\∀p,H1 p=none->Q (.ref p) (ah H1 p (.lst xs))
theorem Bo{x1}(h:PA X es t):PE X (.Tuple es x1 pos) (Bm t):=by
 intro ZY s σ H Q I hq;refine wpAny_Tuple_spliced (aB (h pos ZY s σ H _ I hq) λus s1 ⟨xs,H1,I1,r,z,q⟩=>⟨by rw [<-r.length];exact z,?_⟩);have hf:H1 s1.heap.objs.size=none:=I1.hok.fresh (QQ _);refine⟨.ref s1.heap.objs.size,ah H1 s1.heap.objs.size (.tup xs),I1.laid (t':=s1.toks) (λb u e=>QS _ e) (QQ _) ?_,rfl,q _ hf⟩;exact⟨z,us,r,⟨_,Rb _ rfl,rfl,_,rfl⟩⟩
theorem Ig(h:PA X es t):PE X (.List es pos) (Bn t):=by
 intro ZY s σ H Q I hq;refine wpAny_List_spliced (aB (h pos ZY s σ H _ I hq) λus s1 ⟨xs,H1,I1,r,z,q⟩=>⟨by rw [<-r.length];exact z,?_⟩);have hf:H1 s1.heap.objs.size=none:=I1.hok.fresh (QQ _);refine⟨.ref s1.heap.objs.size,ah H1 s1.heap.objs.size (.lst xs),I1.laid (t':=s1.toks) (λb u e=>QS _ e) (QQ _) ?_,rfl,q _ hf⟩;exact⟨z,us,0,r,Rb _ rfl⟩
end
abbrev Sp:=List V->Hp->VK->XK->Prop
abbrev eZ:=List Env->Hp->Ym->XK->Yj->Ym->Prop
structure i8 (P:Yu) (w:Yv) (K:QN) (mg:Str->Option Yj) (base:Yw) (A:Yz) (outer:List Env) (s:Ym) (H:Hp):Prop where
 frames:A.frames=some outer
 mod:Mod K mg base
 bs:∀b o,base.get? b=some o->s.heap.get? b=some o/\H b=none
 bsz:base.objs.size<=s.heap.objs.size
 funs:s.heap.FunFrames base outer
 frf:∀b∈gi outer,H b=none
 hok:bK P w H s.heap
 bare:ZC s.gens
def CE(outer:List Env)(P:Yu)(w:Yv)(H:Hp)(s:Ym)(Q:VK)(u:Yj)(s':Ym):Prop:=
 ∃v H',s'.os=s.os/\ZC s'.gens/\Un (gi outer) [] H H' s.heap s'.heap/\bK P w H' s'.heap/\aJ v u/\Q v H'
def CR(CX:eZ)(outer:List Env)(P:Yu)(w:Yv)(H:Hp)(s:Ym)(Q:VK)(E:XK)(r:Result)(s':Ym):Prop:=
 match r with
 | .ok (.ret u)=>CE outer P w H s Q u s'
 | .ok _=>False
 | .error e=>CX outer H s E e s'
structure aA (P:Yu) (w:Yv) (K:QN) (mg:Str->Option Yj) (base:Yw) (CX:eZ) (k:Nat) (f:Yl) (fd:Ys) (ps:List Str) (sp:Sp):Prop where
 len:∀vs H Q E,sp vs H Q E->vs.length=ps.length
 run:∀(A:Yz)(outer:List Env)(s:Ym)(H:Hp)(args:Args)(us:List Yj)(vs:List V)(Q:VK)(E:XK),bp k A->i8 P w K mg base A outer s H->BindsTo s fd args (ps.zip us)->aI vs us->sp vs H Q E->
  Zc (Yq P w) A (.call (.ref f) args) (CR CX outer P w H s Q E) s
theorem aA.imp{P:Yu}{w:Yv}{K:QN}{mg:Str->Option Yj}{base:Yw}{CX:eZ}{k:Nat}{f:Yl}{fd:Ys}{ps:List Str}{sp sp':Sp}(F:aA P w K mg base CX k f fd ps sp)
 (h:∀vs H Q E,sp' vs H Q E->sp vs H Q E):aA P w K mg base CX k f fd ps sp':=
 ⟨λvs H Q E q=>F.len vs H Q E (h _ _ _ _ q),λA outer s H args us vs Q E hr he hb hv hs=>F.run A outer s H args us vs Q E hr he hb hv (h _ _ _ _ hs)⟩
theorem i8.make{P:Yu}{w:Yv}{K:QN}{mg:Str->Option Yj}{base:Yw}{A:Yz}{outer:List Env}{s:Ym}{H:Hp}(e:i8 P w K mg base A outer s H)(C:Yl)(us:List Yj)(kw:List (Str×Yj)):
 i8 P w K mg base (A.under (.builtin "type.__call__" ⟨.ref C::us,kw⟩)) outer s H:=⟨by first | exact e.frames | (simpa [W3,Code.envs,W4,pushEnvs] using e.frames),e.mod,e.bs,e.bsz,e.funs,e.frf,e.hok,e.bare⟩
theorem i8.in1{P:Yu}{w:Yv}{K:QN}{mg:Str->Option Yj}{base:Yw}{A:Yz}{outer:List Env}{s:Ym}{H:Hp}(e:i8 P w K mg base A outer s H):
 i8 P w K mg base A.in1 outer s H:=⟨e.frames,e.mod,e.bs,e.bsz,e.funs,e.frf,e.hok,e.bare⟩
section
variable {X:Cx} {ZY:List (Yl×Obj)} {σ:St} {H:Hp} {s s':Ym}
theorem ag.env0(I:ag X ZY σ H s):i8 X.prog X.w X.K X.mg X.base X.A X.stack s H:=
 ⟨I.ok.frames,I.ok.mod,I.bs,Rj I.ok.bsz I.sz,I.stack,I.stkFree,I.hok,I.bare⟩
theorem ag.after{Q:VK}{u:Yj}(I:ag X ZY σ H s)(h:CE X.stack X.prog X.w H s Q u s'):EP X ZY σ Q u s':=by
 obtain⟨v,H',os,bare,un,hok,r,q⟩:=h;obtain⟨hh,g,d,t,os'⟩:=s';obtain rfl:os'=s.os:=os;exact⟨v,H',I.call (h':=hh) (g':=g) (d':=d) (t':=t) (ch:=[]) un hok bare (λb z=>absurd z Yh),r,q⟩
end
def oW(sp:Sp)(dvs:List V)(E:XK)(t:TA):TE:=λσ H Q=>t σ H λvs H1=>sp (vs++dvs) H1 Q E
def qt(C:Yl)(m:Str)(sp:Sp)(dvs:List V)(E:XK)(ta:TE)(t:TA):TE:=λσ H Q=>ta σ H λx H1=>∃a dx fs,x= .ref a/\H1 a=some (.ins C dx fs)/\fs.lookup m=none/\
 t σ H1 λvs H2=>sp (x::(vs++dvs)) H2 Q E
def Bp(C:Yl)(sp:Sp)(dvs:List V)(E:XK)(t:TA):TE:=λσ H Q=>t σ H λvs H1=>∀x dx,H1 x=none->H1 dx=none->dx≠x->
 sp (.ref x::(vs++dvs)) (ah (ah H1 dx (.own x)) x (.ins C dx [])) (λv H2=>v= .non/\Q (.ref x) H2) E
def cS(K:QN)(fd:Ys)(ps:List Str)(ds:List Yj):Prop:=
 ∀(s:Ym)(us:List Yj),K.In s.heap->(us++ds).length=ps.length->BindsTo s fd ⟨us,[]⟩ (ps.zip (us++ds))
theorem cS.all{K:QN}{fd:Ys}{ps:List Str}(h:∀us:List Yj,us.length=ps.length->bindArgs fd ⟨us,[]⟩=pure (ps.zip us)):cS K fd ps []:=λs us _ hl=>by
 rw [RF] at hl⊢;exact .of_eq (h us hl)
def gZ(CX:eZ)(X:Cx)(E:XK):Prop:=∀(ZY:List (Yl×Obj))(σ:St)(H:Hp)(s:Ym)(e:Yj)(s':Ym),ag X ZY σ H s->CX X.stack H s E e s'->X.xe e s'
section
variable {X:Cx} {CX:eZ} {k:Nat} {f C:Yl} {fd:Ys} {ps:List Str} {sp:Sp} {dvs:List V} {ds:List Yj} {E:XK} {x m:Str} {p pos apos:Pos} {e o:Yr} {es:List Yr} {ta:TE} {t:TA}
theorem qu{ZY:List (Yl×Obj)}{σ:St}{H:Hp}{s:Ym}{Q:VK}{us:List Yj}{vs:List V}(F:aA X.prog X.w X.K X.mg X.base CX k f fd ps sp)(hr:bp k X.A)(hb:cS X.K fd ps ds)(hd:aI dvs ds)(hx:gZ CX X E)
 (I:ag X ZY σ H s)(r:aI vs us)(h:sp (vs++dvs) H Q E):Yo (Yq X.prog X.w) X.A (call (.ref f) us) (EP X ZY σ Q) X.xe s:=by
 have r2:aI (vs++dvs) (us++ds):=r.append hd;have hl:(us++ds).length=ps.length:=by rw [<-r2.length];exact F.len _ _ _ _ h
 refine wpAny_call (Y9 (F.run X.A X.stack s H ⟨us,[]⟩ (us++ds) (vs++dvs) Q E hr I.env0 (hb s us I.kIn hl) r2 h) λr s' hq=>?_);cases r with
 | error e=>exact hx ZY σ H s e s' I hq
 | ok fl=>
  cases fl with
  | ret u=>exact I.after hq
  | next=>exact SQ hq
  | brk=>exact SQ hq
  | cont=>exact SQ hq
theorem Bq(F:aA X.prog X.w X.K X.mg X.base CX k f fd ps sp)(hr:bp k X.A)(hg:Gl X x)(hm:X.mg x=some (.ref f))(hk:SX X.K (.ref f)=true)(hb:cS X.K fd ps ds)(hd:aI dvs ds)(hx:gZ CX X E)
 (ha:PA X (e::es) t)(hdb:(x==("__debug__":Str))=false:=by decide)(he:Yp (e::es) X.env=(false,eval e X.env)::Yp es X.env:=by rfl)(hpl:(YC pos (Yp es X.env)).any (·.1)=false:=by rfl):
 PE X (.Call (.Name x p) (e::es) [] pos) (oW sp dvs E t):=by
 intro ZY s σ H Q I h;refine Y2 (qa I hg hm ?_ hdb);refine Vb (h₀:=X.base) I.ok.mod.kin hk (aB (ha pos ZY s σ H _ I h) λus s1 ⟨vs,H1,I1,r,q⟩=>⟨I1.kIn,?_⟩) he hpl;exact qu F hr hb hd hx I1 r q
theorem Ih(F:aA X.prog X.w X.K X.mg X.base CX k f fd ps sp)(hr:bp k X.A)(hg:Gl X x)(hm:X.mg x=some (.ref f))(hk:SX X.K (.ref f)=true)(hb:cS X.K fd ps ds)(hd:aI dvs ds)(hx:gZ CX X E)
 (hdb:(x==("__debug__":Str))=false:=by decide):PE X (.Call (.Name x p) [] [] pos) (oW sp dvs E oV):=by
 intro ZY s σ H Q I h;refine Y2 (qa I hg hm ?_ hdb);exact WU I.kIn hk (qu (us:=[]) F hr hb hd hx I .nil h)
theorem Br{pl:Sem Bool}(he:PE X o ta)(c:cQ X.K C)(hm:gY X.K C m f)(F:aA X.prog X.w X.K X.mg X.base CX k f fd ps sp)(hr:bp k X.A)(hb:cS X.K fd ps ds)(hd:aI dvs ds)(hx:gZ CX X E)(ha:PA X (e::es) t)
 (hst:Yp (e::es) X.env=(false,eval e X.env)::Yp es X.env:=by rfl)(hpl:(YC pos (Yp es X.env)).any (·.1)=false:=by rfl)
 (ht:eval (.Call (.Attribute o m apos) (e::es) [] pos) X.env=(do
   let ov<-eval o X.env
   ZD apos.atName
   let (f,first)<-Zs [ov] (ZE ov m pl)
   callWith pos f first (YC pos (Yp (e::es) X.env)) (Y6 pos (YS [] X.env))):=by rfl):
 PE X (.Call (.Attribute o m apos) (e::es) [] pos) (qt C m sp dvs E ta t):=by
 intro ZY s σ H Q I h;refine UT (pl:=pl) (aB (he ZY s σ H _ I h) λu s1 ⟨x,H1,I1,rx,a,dx,fs,ex,ea,l,q⟩=>?_) ht;subst ex;obtain rfl:u=RE a:=rx;refine rP I1 ea c hm l ?_;refine Vb (first:=[.ref a]) (h₀:=X.base) I.ok.mod.kin hm.kp (aB (ha pos ZY s1 σ H1 _ I1 q) λus s2 ⟨vs,H2,I2,r,q2⟩=>⟨I2.kIn,?_⟩) hst hpl;exact qu (us:= .ref a::us) (vs:= .ref a::vs) F hr hb hd hx I2 (.cons rfl r) q2
theorem rR{pl:Sem Bool}(he:PE X o ta)(c:cQ X.K C)(hm:gY X.K C m f)(F:aA X.prog X.w X.K X.mg X.base CX k f fd ps sp)(hr:bp k X.A)(hb:cS X.K fd ps ds)(hd:aI dvs ds)(hx:gZ CX X E)
 (ht:eval (.Call (.Attribute o m apos) [] [] pos) X.env=(do
   let ov<-eval o X.env
   ZD apos.atName
   let (f,first)<-Zs [ov] (ZE ov m pl)
   callWith pos f first (YC pos (Yp [] X.env)) (Y6 pos (YS [] X.env))):=by rfl):
 PE X (.Call (.Attribute o m apos) [] [] pos) (qt C m sp dvs E ta oV):=by
 intro ZY s σ H Q I h;refine UT (pl:=pl) (aB (he ZY s σ H _ I h) λu s1 ⟨x,H1,I1,rx,a,dx,fs,ex,ea,l,q⟩=>?_) ht;subst ex;obtain rfl:u=RE a:=rx;refine rP I1 ea c hm l ?_;exact WU (first:=[.ref a]) I1.kIn hm.kp (qu (us:=[.ref a]) (vs:=[.ref a]) F hr hb hd hx I1 (.cons rfl .nil) q)
structure Mk (K:QN) (C f:Yl):Prop where
 makes:Wz K C=true
 init:SW K (.ref C) "__init__"=some (some (.ref f))
 fn:Vz K (.ref f)=true
 kp:SX K (.ref C)=true
theorem Ii{ZY:List (Yl×Obj)}{σ:St}{H:Hp}{s:Ym}{Q:VK}{us:List Yj}{vs:List V}(M:Mk X.K C f)(F:aA X.prog X.w X.K X.mg X.base CX k f fd ps sp)(hr:bp (k+1) X.A)(hb:cS X.K fd ps ds)(hd:aI dvs ds)
 (hx:gZ CX X E)(I:ag X ZY σ H s)(r:aI vs us)
 (h:∀x dx,H x=none->H dx=none->dx≠x->sp (.ref x::(vs++dvs)) (ah (ah H dx (.own x)) x (.ins C dx [])) (λv H2=>v= .non/\Q (.ref x) H2) E):
 Yo (Yq X.prog X.w) X.A (call (.ref C) us) (EP X ZY σ Q) X.xe s:=by
 have hq:=h (s.heap.objs.size+1) s.heap.objs.size (I.hok.fresh (Sg _)) (I.hok.fresh (QQ _)) (Rz (SR _));have I2:=ag.made (C:=C) I;have r2:aI (V.ref (s.heap.objs.size+1)::(vs++dvs)) (RE (s.heap.objs.size+1)::(us++ds)):= .cons rfl (r.append hd);have hl:(RE (s.heap.objs.size+1)::us++ds).length=ps.length:=by
  have e:=r2.length;rw [F.len _ _ _ _ hq] at e;exact e.symm
 refine wpAny_call (HV (f:=f) I.kIn M.makes M.init (beq_iff_eq.mp M.fn) (Y9 (F.run _ X.stack _ _ ⟨RE (s.heap.objs.size+1)::us,[]⟩ (RE (s.heap.objs.size+1)::(us++ds)) _ _ E (hr.make C us [])
  (I2.env0.make C us []) (hb _ (RE (s.heap.objs.size+1)::us) I2.kIn hl) r2 hq) λr s' hq'=>?_))
 cases r with
 | error e=>exact hx ZY σ _ _ e s' I2 hq'
 | ok fl=>
  cases fl with
  | ret u=>
   obtain⟨v,H',I3,rv,ev,q3⟩:=I2.after hq';subst ev;exact⟨rv,⟨V.ref (s.heap.objs.size+1),H',I3,rfl,q3⟩⟩
  | next=>exact SQ hq'
  | brk=>exact SQ hq'
  | cont=>exact SQ hq'
theorem rS(M:Mk X.K C f)(F:aA X.prog X.w X.K X.mg X.base CX k f fd ps sp)(hr:bp (k+1) X.A)(hg:Gl X x)(hm:X.mg x=some (.ref C))(hb:cS X.K fd ps ds)(hd:aI dvs ds)(hx:gZ CX X E)
 (ha:PA X (e::es) t)(hdb:(x==("__debug__":Str))=false:=by decide)(he:Yp (e::es) X.env=(false,eval e X.env)::Yp es X.env:=by rfl)(hpl:(YC pos (Yp es X.env)).any (·.1)=false:=by rfl):
 PE X (.Call (.Name x p) (e::es) [] pos) (Bp C sp dvs E t):=by
 intro ZY s σ H Q I h;refine Y2 (qa I hg hm ?_ hdb);refine Vb (h₀:=X.base) I.ok.mod.kin M.kp (aB (ha pos ZY s σ H _ I h) λus s1 ⟨vs,H1,I1,r,q⟩=>⟨I1.kIn,?_⟩) he hpl;exact Ii M F hr hb hd hx I1 r q
end
section
variable {X:Cx} {CX:eZ} {k:Nat} {f C:Yl} {fd:Ys} {ps ks:List Str} {sp:Sp} {E:XK} {x m:Str} {p pos apos kpos:Pos} {e o:Yr} {es:List Yr} {kws:List Y5} {te ta:TE} {t tk:TA} {nm:Option Str}
variable {g:List Yj->List Yj->List Yj} {gV:List V->List V->List V}
end
structure aO (N P:List Str) (sc:YW):Prop where
 kind:sc.kind= .function
 co:sc.isCoroutine=false
 gen:sc.isGenerator=false
 nd:N.Nodup
 pre:N.take P.length=P
 par:∀x∈P,sc.names.lookup x=some .local\/sc.names.lookup x=some .cell
 nofree:∀y∈sc.names,y.2≠ .free
theorem Bs{kindOf:Str->Option YV}{x:Str}:∀{binds:List (Str×Yj)}{m:Str->Option Yj},(∀v,(x,v)∉ binds)->bindL kindOf binds m x=m x
 | [],_,_=>rfl
 | (n,v)::r,m,h=>by
  unfold bindL;rw [Bs λw hw=>h w (Ri _ hw)];split
  ·have:x≠n:=by rintro rfl;exact h v RC
   simp [this]
  ·rfl
theorem Bt{kindOf:Str->Option YV}{x:Str}:∀{binds:List (Str×Yj)}{m:Str->Option Yj},(∀v,(x,v)∉ binds)->bindC kindOf binds m x=m x
 | [],_,_=>rfl
 | (n,v)::r,m,h=>by
  unfold bindC;rw [Bt λw hw=>h w (Ri _ hw)];split
  ·rfl
  ·have:x≠n:=by rintro rfl;exact h v RC
   simp [this]
theorem Bu{kindOf:Str->Option YV}{x:Str}{v:Yj}:∀{P:List Str}{vs:List Yj}{i:Nat}{m:Str->Option Yj},P.Nodup->P[i]?=some x->vs[i]?=some v->kindOf x=some .local->
 bindL kindOf (P.zip vs) m x=some v
 | [],_,_,_,_,h,_,_=>by simp at h
 | _::_,[],_,_,_,_,h,_=>by simp at h
 | p::P,w::vs,0,m,nd,h1,h2,hk=>by
  simp at h1 h2;subst h1;subst h2;show bindL kindOf ((p,w)::P.zip vs) m p=_;unfold bindL;rw [Bs λv hv=>(Sq.mp nd).1 (WA hv).1,Yf hk];simp
 | p::P,w::vs,i+1,m,nd,h1,h2,hk=>by
  show bindL kindOf ((p,w)::P.zip vs) m x=_;unfold bindL;exact Bu (i:=i) (Sq.mp nd).2 (by simpa using h1) (by simpa using h2) hk
theorem Bv{kindOf:Str->Option YV}{x:Str}{v:Yj}:∀{P:List Str}{vs:List Yj}{i:Nat}{m:Str->Option Yj},P.Nodup->P[i]?=some x->vs[i]?=some v->kindOf x≠some .local->
 bindC kindOf (P.zip vs) m x=some v
 | [],_,_,_,_,h,_,_=>by simp at h
 | _::_,[],_,_,_,_,h,_=>by simp at h
 | p::P,w::vs,0,m,nd,h1,h2,hk=>by
  simp at h1 h2;subst h1;subst h2;show bindC kindOf ((p,w)::P.zip vs) m p=_;unfold bindC;rw [Bt λv hv=>(Sq.mp nd).1 (WA hv).1,Ye hk];simp
 | p::P,w::vs,i+1,m,nd,h1,h2,hk=>by
  show bindC kindOf ((p,w)::P.zip vs) m x=_;unfold bindC;exact Bv (i:=i) (Sq.mp nd).2 (by simpa using h1) (by simpa using h2) hk
def start(N:List Str)(vs:List V):St:=vs.map some++Q8 (N.length - vs.length) none
def iu(CX:eZ)(P:Yu)(w:Yv)(K:QN)(mg:Str->Option Yj)(base:Yw)(N:List Str)(qual:Str)(scope:YW)(f:Yl)(cd:Yj)(A:Yz)(outer:List Env)(s:Ym)(H:Hp)(E:XK):Cx where
 prog:=P
 w:=w
 K:=K
 mg:=mg
 base:=base
 A:=A.deeper (Zj qual scope s.heap.objs.size f cd)
 N:=N
 s₀:=s
 H₀:=H
 env:=Zj qual scope s.heap.objs.size f cd
 outer:=outer
 stack:=Zj qual scope s.heap.objs.size f cd::outer
 ex:=[]
 calm:=true
 fn:=λ_=>true
 pn:=[]
 xe:=λe s'=>Yo (Yq P w) (A.deeper (Zj qual scope s.heap.objs.size f cd)) (leaving (Zj qual scope s.heap.objs.size f cd) e) (λ_ s''=>CX outer H s E e s'') (λe' s''=>CX outer H s E e' s'') s'
theorem Bw{sc:YW}{n:Nat}{x:Str}(h:sc.names.lookup x=some .cell):∃c,(YR n sc.names []).lookup x=some c:=by
 have q:=Vo sc.names n [] (.inl h);exact Ut.mp q
theorem Ij{CX:eZ}{P:Yu}{w:Yv}{K:QN}{mg:Str->Option Yj}{base:Yw}{N ps:List Str}{qual:Str}{scope:YW}{f:Yl}{cd:Yj}{A:Yz}{outer:List Env}{s s1:Ym}{H:Hp}{E:XK}{us:List Yj}{vs:List V}
 (S:aO N ps scope)(hd:A.handled=none)(e0:i8 P w K mg base A outer s H)(hl:vs.length=ps.length)(r:aI vs us)
 (x:InCallC s s.heap.objs.size (bindL (Zj qual scope s.heap.objs.size f cd).kindOf (ps.zip us) λ_=>none) (YR (s.heap.objs.size+1) scope.names []) (bindC (Zj qual scope s.heap.objs.size f cd).kindOf (ps.zip us) λ_=>none) s1):
 ag (iu CX P w K mg base N qual scope f cd A outer s H E) [] (start N vs) H s1:=by
 have hpl:ps.length<=N.length:=by have:=congrArg VM S.pre;rw [RA] at this;omega
 obtain⟨h1,tk,rfl,hk⟩:=x.done;have noA:∀b:Yl,b ∉ (iu CX P w K mg base N qual scope f cd A outer s H E).ex:=λb z=>absurd (show b∈([]:List Yl) from z) Yh;refine⟨⟨e0.mod,S.kind,rfl,rfl,QQ _,λy z c h1 h2=>?_,λy hy=>?_,λy c _ h=>?_,λ_=>hd,Around.frames_deeper e0.frames,.inr ⟨rfl,rfl⟩,λb z=>absurd z (noA b),e0.bs,e0.bsz,λb _ _=>noA b,λb z=>absurd z (noA b),e0.funs,e0.frf⟩,
  rfl,e0.bare,Un.kept hk,⟨_,x.toInCall.ns,λi y v h1 h2 h3=>?_⟩,λy c h=>⟨_,x.cell y c h⟩,e0.hok.fresh (QQ _),λy c h=>?_,λp hp=>absurd (show p∈([]:List (Yl×Obj)) from hp) Yh,e0.hok.kept hk,?_⟩
 ·exact name_of_addr x.apart (To h1) (To h2)
 ·have hy:scope.names.lookup y=some .cell\/scope.names.lookup y=some .free:=hy;rcases hy with hy | hy
  ·exact Bw hy
  ·exact absurd rfl (S.nofree _ (To hy))
 ·exact TJ (x.above y c (To h))
 ·have hi:i < vs.length:=by
   unfold start at h2;by_cases hi:i < vs.length
   ·exact hi
   ·rw [Si (by simpa using hi)] at h2;rw [T1] at h2;split at h2 <;> cases h2
  have ha:vs[i]?=some v:=by
   unfold start at h2;rw [RV (by simpa using hi),Q1] at h2;cases e:vs[i]? with
   | none=>rw [e] at h2;cases h2
   | some a=>rw [e] at h2;cases h2;rfl
  obtain⟨u,hu,rv⟩:=r.get ha;have hp:ps[i]?=some y:=by
   rw [<-S.pre,List.getElem?_take_of_lt Yd];exact h1
  have ndP:ps.Nodup:=by rw [<-S.pre];exact S.nd.sublist (List.take_sublist _ _)
  refine⟨u,rv,?_⟩;rcases S.par y (Rm hp) with k | k
  ·exact .inl ⟨k,Bu ndP hp hu k⟩
  ·obtain⟨c,e⟩:=Bw (n:=s.heap.objs.size+1) k;refine .inr ⟨.inl k,c,e,?_⟩;have q:=x.cell y c e;rw [Bv ndP hp hu (by show scope.names.lookup y≠_;rw [k];decide)] at q;exact q
 ·exact e0.hok.fresh (TJ (x.above y c (To h)))
 ·unfold start;show _=N.length;rw [Q2,QO,Vw];omega
theorem Ik{CX:eZ}{P:Yu}{w:Yv}{K:QN}{mg:Str->Option Yj}{base:Yw}{k:Nat}{f:Yl}{name qual:Str}{params:Arguments}{body:List Yx}{scope:YW}{dV kV doc pm cdv ct oc:Yj}{an od:Option Yl}
 {osl:Array (Option Yj)}{N ps:List Str}{sp:Sp}(lk:K.lookup f=some ⟨oc,od,.func (S6 name qual params body scope dV kV doc pm an cdv ct),osl⟩)(hcd:Vj K cdv qual=true)(S:aO N ps scope)
 (len:∀vs H Q E,sp vs H Q E->vs.length=ps.length)
 (hbody:∀(A:Yz) (outer:List Env) (s:Ym) (H:Hp) (vs:List V) (Q:VK) (E:XK),bp k (A.deeper (Zj qual scope s.heap.objs.size f cdv))->sp vs H Q E->
   ∃t,bP (iu CX P w K mg base N qual scope f cdv A outer s H E) body t/\t {nx:=λ_ H'=>Q .non H',rt:=Q} (start N vs) H):
 aA P w K mg base CX (k+1) f (S6 name qual params body scope dV kV doc pm an cdv ct) ps sp:=by
 refine⟨len,λA outer s H args us vs Q E hr e0 hb r hsp=>?_⟩;have hl:=len _ _ _ _ hsp;have KX:K.In s.heap:=e0.mod.kin.keeps λb o e=>(e0.bs b o e).1;have lim:s.heap.NoLimit:=e0.mod.nolimit.keeps λb o e=>(e0.bs b o e).1;have hkind:∀y∈ps.zip us,scope.names.lookup y.1=some .local\/(scope.names.lookup y.1=some .cell/\((YR (s.heap.objs.size+1) scope.names []).lookup y.1).isSome=true):=λuu47 hy=>by
  obtain⟨n,v⟩:=uu47;rcases S.par n (WA hy).1 with q | q
  ·exact .inl q
  ·exact .inr ⟨q,Vo _ _ _ (.inl q)⟩
 refine codeAny_call_function hr.depth (KX _ _ lk) rfl S.co S.gen rfl (PySem.W.codeRec_of KX hcd) (hb _ _ _ _ ?_);refine wpAny_newFunctionEnv_cells S.kind hkind λenv he s1 x=>?_;subst he;refine⟨lim.keeps x.toInCall.keep,codeAny_func ?_⟩;obtain⟨t,ht,hq⟩:=hbody A outer s H vs Q E (hr.deeper _) hsp;have I:ag (iu CX P w K mg base N qual scope f cdv A outer s H E) [] (start N vs) H s1:=Ij S hr.hd e0 hl r x;refine YJ (ht [] s1 (start N vs) H _ I hq) (λfl s' hs=>?_) λe s' hs=>hs;have fin:∀{σ':St}{H':Hp}{v:V}{u:Yj},ag (iu CX P w K mg base N qual scope f cdv A outer s H E) [] σ' H' s'->aJ v u->Q v H'->CE outer P w H s Q u s':=
  λ{σ' H' v u} J rv q=>⟨v,H',J.os,J.bare,J.base,J.hok,rv,q⟩
 cases fl with
 | ret u=>
  obtain⟨v,σ',H',J,rv,q⟩:=hs;exact fin J rv q
 | next=>
  obtain⟨σ',H',J,q⟩:=hs;exact fin (v:=V.non) (u:=SH) J rfl q
 | brk=>
  obtain⟨_,_,_,q⟩:=hs;exact SQ q
 | cont=>
  obtain⟨_,_,_,q⟩:=hs;exact SQ q
section
variable {X:Cx} {x:Str} {p pos:Pos} {e:Yr} {es:List Yr} {t:TA} {id T:String} {r:List V->Hp->VK->Prop}
def rT(r:List V->Hp->VK->Prop)(t:TA):TE:=λσ H Q=>t σ H λvs H1=>r vs H1 Q
theorem bU(hc:d7 X (.builtin id) r)(hg:Gl X x)(hm:X.mg x=none)(hv:YI x=some (.builtin id))(ha:PA X (e::es) t)(hn:x≠"__name__":=by decide)(hdb:(x==("__debug__":Str))=false:=by decide)
 (he:Yp (e::es) X.env=(false,eval e X.env)::Yp es X.env:=by rfl)(hpl:(YC pos (Yp es X.env)).any (·.1)=false:=by rfl):PE X (.Call (.Name x p) (e::es) [] pos) (rT r t):=by
 intro ZY s σ H Q I h;refine Y2 (nO I hg hm hv ?_ hn hdb);exact PyProof.Rows.callWith_builtin1 (aB (ha pos ZY s σ H _ I h) λus s1 uu48=>by obtain⟨vs,H1,I1,r1,q1⟩:=uu48;exact hc ZY s1 σ H1 vs us Q I1 r1 q1) he hpl
theorem cT(hc:d7 X (.type T) r)(hg:Gl X x)(hm:X.mg x=none)(hv:YI x=some (.type T))(ha:PA X (e::es) t)(hn:x≠"__name__":=by decide)(hdb:(x==("__debug__":Str))=false:=by decide)
 (he:Yp (e::es) X.env=(false,eval e X.env)::Yp es X.env:=by rfl)(hpl:(YC pos (Yp es X.env)).any (·.1)=false:=by rfl):PE X (.Call (.Name x p) (e::es) [] pos) (rT r t):=by
 intro ZY s σ H Q I h;refine Y2 (nO I hg hm hv ?_ hn hdb);exact Ti (aB (ha pos ZY s σ H _ I h) λus s1 uu49=>by obtain⟨vs,H1,I1,r1,q1⟩:=uu49;exact hc ZY s1 σ H1 vs us Q I1 r1 q1) he hpl
end
end _L
namespace HT
open PySem PyProof.Rows
theorem eqAt_int(A:Yz)(s:Ym)(a:Int)(t:Tok)(c:Int)(u:Tok):∃e,SeqAt.EqAt A s (.int a t) (.int c u) e/\(e=true↔a=c):=
 ⟨(a==c),SeqAt.EqAt.int_int a t c u,Yh⟩
theorem rcLt_int(A:Yz)(s:Ym)(a:Int)(t:Tok)(c:Int)(u:Tok)(prog:Yu)(w:Yv)(E:Yj->Ym->Prop)(Q:Yj->Ym->Prop)(h:Q (.bool (decide (a < c))) s):
 Yo (Yq prog w) A (richCompare .Lt (.int a t) (.int c u)) Q E s:=
 (PyProof.Rows.lt_int h:Yo (Yq prog w) A (YF .Lt (.int a t) (.int c u)) Q E s)
section
open PySem.SeqAt
open PySem.AutoSeq1 (wpAny_loadPart')
open PySem.MeetsSeq PySem.MeetsSeq2 PySem.MeetsSeq3
end
section
variable {prog:Yu} {w:Yv} {A:Yz} {E:Yj->Ym->Prop} {s:Ym}
theorem cat_tup{t b:Yl}{vs ws:List Yj}{Q:Yj->Ym->Prop}(ht:IsTup s.heap t vs.toArray)(hb:IsTup s.heap b ws.toArray)(hv:vs≠[])
 (h1:ws=[]->Q (.ref t) s)(h2:ws≠[]->Q (.ref s.heap.objs.size) {s with heap:=s.heap.push {cls:= .type "tuple",data:= .seq (vs++ws).toArray}})
 (hsz:vs.length+ws.length<=Yt):Yo (Yq prog w) A (YU .Add (.ref t) (.ref b)) Q E s:=by
 obtain⟨⟨cls,dd,data,sl⟩,ho,hc,n,hd⟩:=id ht;obtain⟨⟨cls2,dd2,data2,sl2⟩,ho2,hc2,n2,hd2⟩:=id hb;simp only at hc hd hc2 hd2;subst hc hd hc2 hd2;have e:vs.toArray++ws.toArray=(vs++ws).toArray:=Yh
 by_cases hw:ws=[]
 ·exact concat_meets ⟨_,ho,rfl⟩ ⟨_,ho2,rfl⟩ ZU seq_tuple_add Vp Vk (Vc _ _)
   (tuple_addW1 t b vs.toArray ws.toArray n n2 dd dd2 sl sl2 (by simpa using hv) (by simp [hw])) ⟨ho,ho2,h1 hw⟩
 ·refine concat_meets ⟨_,ho,rfl⟩ ⟨_,ho2,rfl⟩ ZU seq_tuple_add Vp Vk (Vc _ _)
   (tuple_addW2 t b vs.toArray ws.toArray n n2 dd dd2 sl sl2 (by simpa using hv) (by simpa using hw) (by rw [Q4,Q4];exact hsz)) ⟨ho,ho2,?_⟩
  rw [e];exact h2 hw
def sIx(n d:Nat):Option Int->Nat
 | none=>d
 | some v=>if v < 0 then(v+(n:Int)).toNat else min v.toNat n
theorem rV(n d:Nat):sIx n d none=d:=rfl
theorem sIx_nat(n d k:Nat):sIx n d (some (k:Int))=min k n:=by
 show(if (k:Int) < 0 then((k:Int)+(n:Int)).toNat else min (k:Int).toNat n)=min k n;rw [Ye Yd,R9]
theorem Il(n d:Nat)(hd:d<=n)(o:Option Int):sIx n d o<=n:=by
 cases o with
 | none=>exact hd
 | some v=>
  show(if v < 0 then(v+(n:Int)).toNat else min v.toNat n)<=n;by_cases hv:v < 0
  ·rw [Yf hv];omega
  ·rw [Ye hv];exact Wi _ _
theorem Bx(v:Int)(n d:Nat):(if v < 0 then max (v+(n:Int)) 0 else min v (n:Int))=((sIx n d (some v):Nat):Int):=by
 show(if v < 0 then max (v+(n:Int)) 0 else min v (n:Int))=(((if v < 0 then(v+(n:Int)).toNat else min v.toNat n):Nat):Int);by_cases hv:v < 0
 ·simp only [Yf hv];omega
 ·simp only [Ye hv];omega
theorem Im(lo hi:Option Int)(n:Nat):U2 lo hi 1 (n:Int)=(((sIx n 0 lo:Nat):Int),((sIx n n hi:Nat):Int)):=by
 have h1:¬((1:Int) < 0):=Yd
 unfold U2;simp only [h1,if_false];refine Prod.ext ?_ ?_
 ·cases lo with
  | none=>rfl
  | some v=>exact Bx v n 0
 ·cases hi with
  | none=>rfl
  | some v=>exact Bx v n n
theorem Io(i j:Nat):Uk (i:Int) (j:Int) 1=j - i:=by
 unfold Uk;have h1:(1:Int) > 0:=Yd
 simp only [h1,if_true,Int.ediv_one];split <;> omega
theorem By{v:Yj}{o:Option Int}{Q:Option Int->Ym->Prop}(p:IsPart v o)(h:Q o s):Yo (Yq prog w) A (Builtin.Slice.slicePartIndex v) Q E s:=by
 cases p with
 | none=>exact slicePart_none h
 | int i t=>exact slicePart_int h
theorem sliceApplied_gen{sl:Yl}{vl vu:Yj}{lo hi:Option Int}{n:Nat}{Q:Int×Int×Nat->Ym->Prop}(hs:s.heap.IsSliceOf sl vl vu .none)(pl:IsPart vl lo)(pu:IsPart vu hi)
 (h:Q (((sIx n 0 lo:Nat):Int),1,sIx n n hi - sIx n 0 lo) s):Yo (Yq prog w) A (VW (.ref sl) (pure (n:Int))) Q E s:=by
 obtain⟨os,hos,hcs,hds⟩:=id hs;unfold VW Builtin.Slice.sliceFields;refine Yk (Yk (Zg hos hds (x:=vl) rfl (Yk (Zg hos hds (x:=vu) rfl (Yk (Zg hos hds (x:= .none) rfl (Yn ?_)))))));refine Yk (slicePart_none ?_);show Yo _ _ (if ((1:Int)==0)=true then _ else _) _ _ s;rw [Ye Yc];refine Yk (By pl (Yk (By pu (Yk (Yn ?_)))));show Yo _ _ (match U2 lo hi 1 (n:Int) with | (lo,hi)=>pure (lo,(1:Int),Uk lo hi 1)) _ _ s;rw [Im lo hi n];show Yo _ _ (pure (((sIx n 0 lo:Nat):Int),(1:Int),Uk ((sIx n 0 lo:Nat):Int) ((sIx n n hi:Nat):Int) 1)) _ _ s;rw [Io];exact Yn h
theorem Ip(xs:Array Yj)(i k:Nat):((SE k).filterMap λ(m:Nat)=>xs[((i:Int)+(m:Int)*1).toNat]?).toArray=((xs.toList.drop i).take k).toArray:=by
 have e:(λ(m:Nat)=>xs[((i:Int)+(m:Int)*1).toNat]?)=λm=>xs[i+m]?:=by
  funext m;have:((i:Int)+(m:Int)*1).toNat=i+m:=Yd
  rw [this]
 rw [e];have:=pick_run xs i k;rw [W5] at this;have e2:((λx=>xs[x]?)∘ λx=>i+x)=λm=>xs[i+m]?:=rfl;rw [e2] at this;rw [this]
theorem getItem_tuple_cut{t sl:Yl}{items:Array Yj}{vl vu:Yj}{lo hi:Option Int}{Q:Yj->Ym->Prop}(ht:IsTup s.heap t items)(hs:s.heap.IsSliceOf sl vl vu .none)(pl:IsPart vl lo)(pu:IsPart vu hi)
 (hw:¬(sIx items.size 0 lo=0/\sIx items.size items.size hi=items.size))
 (h:Q (.ref s.heap.objs.size) {s with heap:=s.heap.push {cls:= .type "tuple",data:= .seq ((items.toList.drop (sIx items.size 0 lo)).take (sIx items.size items.size hi - sIx items.size 0 lo)).toArray}})
 (hsz:items.size<=Yt):Yo (Yq prog w) A (Zn (.ref t) (.ref sl)) Q E s:=by
 have htake:sizeOk (.seq ((items.toList.drop (sIx items.size 0 lo)).take (sIx items.size items.size hi - sIx items.size 0 lo)).toArray):=by
  show((items.toList.drop (sIx items.size 0 lo)).take (sIx items.size items.size hi - sIx items.size 0 lo)).toArray.size<=Yt;rw [Q4,RA,Ts,Ru];omega
 have hj:sIx items.size items.size hi<=items.size:=Il _ _ (QQ _) hi;obtain⟨os,hos,hcs,hds⟩:=id hs;have hTs:s.TypeIs (.ref sl) "slice":=⟨os,hos,hcs⟩;unfold Zn
 try with_reducible refine YN ?_
 first | refine Yk (Yn ?_) | skip
 refine Yk (wpAny_sequenceKey ht.typeIs Yc ?_);refine Yk (YH (name:=QM "__getitem__") ht.typeIs TC
  (YG TC ht.typeIs entry_tuple_getitem ?_ (args_tuple_getitem _ _)))
 show Yo _ _ (VX (.ref t) >>=_) _ _ s;refine Yk (tupleItemsOf_ ht ?_);refine Yk (ZH hTs ?_);rw [Yf Yc];refine Yk (sliceApplied_gen hs pl pu ?_);have hno:¬((((sIx items.size 0 lo:Nat):Int)==0 && (1:Int)==1 && (sIx items.size items.size hi - sIx items.size 0 lo)==items.size)=true):=by
  intro q;rw [RW,RW] at q;have q1:((sIx items.size 0 lo:Nat):Int)=0:=eq_of_beq q.1.1;have q2:sIx items.size items.size hi - sIx items.size 0 lo=items.size:=eq_of_beq q.2;exact hw ⟨Yd,Yd⟩
 show Yo _ _ (if (((sIx items.size 0 lo:Nat):Int)==0 && (1:Int)==1 && (sIx items.size items.size hi - sIx items.size 0 lo)==items.size)=true then _ else _) _ _ s;rw [Ye hno,Ip]
 first
  | exact Yk (m:=Uu _) (YE (Yn ⟨_,rfl,Yn h⟩) htake)
  | exact Yk (m:=Uu _) (YE (Yk (Yn (Yn ⟨_,rfl,Yn h⟩))) htake)
  | exact Yk (Yk (m:=Uu _) (YE (Yn (Yn ⟨_,rfl,Yn h⟩)) htake))
  | exact Yk (Yk (m:=Uu _) (YE (Yn ⟨_,rfl,Yn h⟩) htake))
end
end HT
namespace _L
open PySem PySem.Spec PyProof.Rows
abbrev TO:=St->Hp->(Option Int->Hp->Prop)->Prop
def PO(X:Cx)(e:Option Yr)(t:TO):Prop:=
 ∀(ZY:List (Yl×Obj))(s:Ym)(σ:St)(H:Hp)(Q:Option Int->Hp->Prop),ag X ZY σ H s->t σ H Q->
  Yo (Yq X.prog X.w) X.A (evalPart e X.env) (λu s'=>∃o H',ag X ZY σ H' s'/\IsPart u o/\Q o H') X.xe s
def Iq:TO:=λ_ H Q=>Q none H
def Ir(t:TE):TO:=λσ H Q=>t σ H λx H1=>∃i,x= .int i/\Q (some i) H1
theorem Iu{ns:List Int}:∀{us:List Yj},aI (ns.map V.int) us->YK us ns:=by
 induction ns with
 | nil=>intro us r;rw [RO] at r;cases r;exact .nil
 | cons n ns ih=>
  intro us r;rw [QR] at r;cases r with
  | cons r1 r2=>
   obtain⟨t,e⟩:=r1;subst e;exact .cons n t (ih r2)
section
variable {X:Cx} {e:Yr} {te:TE} {lo hi:Option Yr} {tl th:TO} {pos p2:Pos}
theorem Iw:PO X none Iq:=by
 intro ZY s σ H Q I h;rw [evalPart_none];exact Yn ⟨none,H,I,.none,h⟩
theorem Iy(h:PE X e te):PO X (some e) (Ir te):=by
 intro ZY s σ H Q I hw;rw [evalPart_some];refine aB (h ZY s σ H _ I hw) λu s1 ⟨x,H1,I1,r1,q1⟩=>?_;obtain⟨i,rfl,q⟩:=q1;obtain⟨t,rfl⟩:=r1;exact⟨some i,H1,I1,.int i t,q⟩
def rW(X:Cx)(r:V->Option Int->Option Int->Hp->VK->Prop):Prop:=
 ∀(ZY:List (Yl×Obj))(s:Ym)(σ:St)(H:Hp)(x:V)(v vl vu:Yj)(lo hi:Option Int)(sl:Yl)(Q:VK),ag X ZY σ H s->aJ x v->s.heap.IsSliceOf sl vl vu .none->IsPart vl lo->IsPart vu hi->r x lo hi H Q->
  ∃T id,typeLookup (.type T) "__getitem__"=pure (some (.builtin id))/\s.TypeIs v T/\Yo (Yq X.prog X.w) X.A (Zn v (.ref sl)) (EP X ZY σ Q) X.xe s
def Iz(r:V->Option Int->Option Int->Hp->VK->Prop)(te:TE)(tl th:TO):TE:=λσ H Q=>te σ H λx H1=>tl σ H1 λl H2=>th σ H2 λu H3=>r x l u H3 Q
theorem uY{r:V->Option Int->Option Int->Hp->VK->Prop}(hr:rW X r)(he:PE X e te)(hl:PO X lo tl)(hu:PO X hi th):PE X (.Subscript e (.Slice lo hi none p2) pos) (Iz r te tl th):=by
 intro ZY s σ H Q I h;refine Subscript_ (aB (he ZY s σ H _ I h) λv s1 ⟨x,H1,I1,r1,q1⟩=>?_);refine wpAny_Slice (aB (hl ZY s1 σ H1 _ I1 q1) λvl s2 ⟨l,H2,I2,pl,q2⟩=>aB (hu ZY s2 σ H2 _ I2 q2) λvu s3 ⟨u,H3,I3,pu,q3⟩=>?_);rw [evalPart_none];refine Yn ?_;have I4:ag X ZY σ H3 {s3 with heap:=s3.heap.push {cls:= .type "slice",data:= .fields #[vl,vu,.none]}}:=I3.kept (t':=s3.toks) λb ob q=>QS _ q;obtain⟨T,id,hT,ht,hg⟩:=hr ZY {s3 with heap:=s3.heap.push {cls:= .type "slice",data:= .fields #[vl,vu,.none]}} σ H3 x v vl vu l u s3.heap.objs.size Q I4 r1 (Heap.IsSliceOf.new ..) pl pu q3;show Yo (Yq X.prog X.w) X.A (subscriptTail e (.Slice lo hi none p2) v (.ref s3.heap.objs.size)) (EP X ZY σ Q) X.xe {s3 with heap:=s3.heap.push {cls:= .type "slice",data:= .fields #[vl,vu,.none]}};exact tail_any (ops:=[.ref s3.heap.objs.size,v]) ht hT hg (by with_unfolding_all rfl)
def jF(xs:List V)(lo hi:Option Int):List V:=(xs.drop (HT.sIx xs.length 0 lo)).take (HT.sIx xs.length xs.length hi - HT.sIx xs.length 0 lo)
theorem Bz(xs:List V)(lo hi:Option Int):(jF xs lo hi).length<=xs.length:=by
 unfold jF;rw [RA,Ts];omega
def IA(K:QN):V->Option Int->Option Int->Hp->VK->Prop:=λx lo hi H Q=>∃a xs,x= .ref a/\aZ K H a xs/\
 ¬(HT.sIx xs.length 0 lo=0/\HT.sIx xs.length xs.length hi=xs.length)/\∀p,H p=none->Q (.ref p) (ah H p (.tup (jF xs lo hi)))
theorem IB:rW X (IA X.K):=by
 intro ZY s σ H x v vl vu lo hi sl Q I rx hs pl pu h;obtain⟨a,xs,rfl,hx,hw,q⟩:=h;cases rx;obtain⟨its,r,ht,hz⟩:=I.tuple hx;have hlen:its.toArray.size=xs.length:=by rw [Q4];exact r.length.symm
 refine⟨"tuple",_,TC.lookup,ht.typeIs,?_⟩;refine HT.getItem_tuple_cut ht hs pl pu (by rw [hlen];exact hw) ?_ (by rw [hlen];exact hz);rw [hlen];refine⟨.ref s.heap.objs.size,_,I.laid (t':=s.toks) (o:= .tup (jF xs lo hi)) (λb ob q=>QS _ q) (QQ _) ?_,rfl,q _ (I.hok.fresh (QQ _))⟩;exact⟨Rj (Bz xs lo hi) hz,_,(r.drop (HT.sIx xs.length 0 lo)).take (HT.sIx xs.length xs.length hi - HT.sIx xs.length 0 lo),XM _ _⟩
def uZ(K:QN):R2:=λx y H Q=>∃a b xs ys,x= .ref a/\y= .ref b/\aZ K H a xs/\aZ K H b ys/\xs≠[]/\xs.length+ys.length<=Yt/\
 (ys=[]->Q (.ref a) H)/\(ys≠[]->∀p,H p=none->Q (.ref p) (ah H p (.tup (xs++ys))))
theorem aI.nil_iff{xs:List V}{us:List Yj}(r:aI xs us):us=[]↔xs=[]:=by
 cases r with
 | nil=>simp
 | cons _ _=>simp
theorem IC:bG X (YU .Add) (uZ X.K):=by
 intro ZY s σ H x y v u Q I rx ry h;obtain⟨a,b,xs,ys,rfl,rfl,ha,hb,hx,hz,q1,q2⟩:=h;cases rx;cases ry;obtain⟨its,r1,p1,_⟩:=I.tuple ha;obtain⟨its2,r2,p2,_⟩:=I.tuple hb;refine HT.cat_tup p1 p2 (λz=>hx (r1.nil_iff.mp z)) (λz=>⟨.ref a,H,I,rfl,q1 (r2.nil_iff.mp z)⟩) (λz=>?_) (by rw [<-r1.length,<-r2.length];exact hz);refine⟨.ref s.heap.objs.size,_,I.laid (t':=s.toks) (o:= .tup (xs++ys)) (λb ob q=>QS _ q) (QQ _) ?_,rfl,q2 (λw=>z (r2.nil_iff.mpr w)) _ (I.hok.fresh (QQ _))⟩;exact⟨by rw [Q2];exact hz,_,r1.append r2,XM _ _⟩
end
def i9(n:Nat)(i:Int):Option Nat:=if 0<=i then(if i < n then some i.toNat else none) else if -(n:Int)<=i then some (i+n).toNat else none
def atI{α:Type}(xs:List α)(i:Int):Option α:=(i9 xs.length i).bind λj=>xs[j]?
theorem ID{n:Nat}{i:Int}{j:Nat}(h:i9 n i=some j):seqIndex? i n=some j/\j < n/\-(n:Int)<=i/\i < n:=by
 unfold i9 at h;by_cases h0:0<=i
 ·rw [Yf h0] at h;by_cases h1:i < n
  ·rw [Yf h1] at h;have e:i.toNat=j:=RT h;exact⟨by rw [seqIndex_of h0 h1,e],Yd,Yd,h1⟩
  ·rw [Ye h1] at h;cases h
 ·rw [Ye h0] at h;by_cases h1:-(n:Int)<=i
  ·rw [Yf h1] at h;have e:(i+n).toNat=j:=RT h;exact⟨by rw [seqIndex_neg Yd h1,e],Yd,h1,Yd⟩
  ·rw [Ye h1] at h;cases h
theorem u5{α:Type}{xs:List α}{i:Int}{v:α}(h:atI xs i=some v):∃j,seqIndex? i xs.length=some j/\xs[j]?=some v/\j < xs.length/\-(xs.length:Int)<=i/\i < xs.length:=by
 unfold atI at h;cases e:i9 xs.length i with
 | none=>rw [e] at h;cases h
 | some j=>
  rw [e] at h;obtain⟨h1,h2,h3,h4⟩:=ID e;exact⟨j,h1,h,h2,h3,h4⟩
theorem fM{α:Type}{xs:List α}{j:Nat}{v:α}(h:xs[j]?=some v):atI xs (j:Int)=some v:=by
 have hj:j < xs.length:=(QZ.mp h).1;have e:i9 xs.length (j:Int)=some j:=by
  unfold i9;rw [Yf Yd,Yf Yd];simp
 unfold atI;rw [e];exact h
theorem BA{α:Type}(xs:List α)(v:α):atI (xs++[v]) (-1)=some v:=by
 have hl:(xs++[v]).length=xs.length+1:=Yh
 have e:i9 (xs++[v]).length (-1)=some xs.length:=by
  unfold i9;rw [hl,Ye Yc,Yf Yd];congr 1;omega
 unfold atI;rw [e];show(xs++[v])[xs.length]?=some v;simp
def IE(b:Yr):Prop:=∀o i,ZP b false o i=operate [o,i] (Zn o i)
def qv(X:Cx)(r:R2):Prop:=
 ∀(value slice:Yr)(ZY:List (Yl×Obj))(s:Ym)(σ:St)(H:Hp)(x y:V)(v u:Yj)(Q:VK),ag X ZY σ H s->aJ x v->aJ y u->r x y H Q->
  ZP slice false v u=operate [v,u] (Zn v u)->Yo (Yq X.prog X.w) X.A (subscriptTail value slice v u) (EP X ZY σ Q) X.xe s
def IF(X:Cx)(id:String)(r:V->List V->Hp->VK->Prop):Prop:=
 ∀(ZY:List (Yl×Obj))(s:Ym)(σ:St)(H:Hp)(x:V)(xs:List V)(v:Yj)(us:List Yj)(Q:VK),ag X ZY σ H s->aJ x v->aI xs us->r x xs H Q->
  Yo (Yq X.prog X.w) X.A (call (.builtin id) (v::us)) (EP X ZY σ Q) X.xe s
section
variable {X:Cx} {a b:Yr} {ta tb:TE} {pos:Pos}
theorem jG{r:R2}(hr:qv X r)(ha:PE X a ta)(hb:PE X b tb)(hs:IE b):PE X (.Subscript a b pos) (oU r ta tb):=by
 intro ZY s σ H Q I h;exact Subscript_ (uS ha hb I h λv u s2 x y H2 I2 rx ry q=>hr a b ZY s2 σ H2 x y v u Q I2 rx ry q (hs _ _))
def va(K:QN):R2:=λx y H Q=>∃p xs i v,x= .ref p/\y= .int i/\bo K H p xs/\atI xs i=some v/\Q v H
def rX(K:QN):R2:=λx y H Q=>∃p xs i v,x= .ref p/\y= .int i/\aZ K H p xs/\atI xs i=some v/\Q v H
def BB:R2:=λx y H Q=>∃z i c,x= .str z/\y= .int i/\z.length<=Yt/\atI z.cps.toList i=some c/\Q (.str ⟨#[c]⟩) H
theorem aP:qv X (va X.K):=by
 intro value slice ZY s σ H x y v u Q I rx ry h hs;obtain⟨p,xs,i,z,rfl,rfl,hq,he,q⟩:=h;cases rx;obtain⟨t,rfl⟩:=ry;obtain⟨its,r,pl,hz⟩:=I.list hq;obtain⟨j,h1,h2,h3,h4,h5⟩:=u5 he;obtain⟨w,ew,rw'⟩:=r.get h2;have hl:=r.length;have hn:=qq;have fin:EP X ZY σ Q w s:=⟨z,H,I,rw',q⟩;by_cases h0:0<=i
 ·have hj:i.toNat=j:=by
   rw [seqIndex_of h0 h5] at h1;exact RT h1
  exact item_listR pl.isList h0 Yd (by rw [hj];simpa using ew) fin hs
 ·have hj:(i+(its.toArray.size:Int)).toNat=j:=by
   rw [seqIndex_neg Yd h4] at h1;rw [Q4,<-hl];exact RT h1
  exact subscriptTail_builtinR (x:=w) pl.isList.typeIs slot_list_getitem.lookup
   (wpAny_getItem_list_neg (Q:=λr s'=>r=w/\EP X ZY σ Q r s') pl.isList Yd (by rw [Q4] <;> omega) Yd (by rw [hj];simpa using ew) ⟨rfl,fin⟩) hs
theorem aG:qv X (rX X.K):=by
 intro value slice ZY s σ H x y v u Q I rx ry h hs;obtain⟨p,xs,i,z,rfl,rfl,hq,he,q⟩:=h;cases rx;obtain⟨t,rfl⟩:=ry;obtain⟨its,r,pl,hz⟩:=I.tuple hq;obtain⟨j,h1,h2,h3,h4,h5⟩:=u5 he;obtain⟨w,ew,rw'⟩:=r.get h2;have hl:=r.length;have hn:=qq;have fin:EP X ZY σ Q w s:=⟨z,H,I,rw',q⟩;exact subscriptTail_builtinR (x:=w) pl.typeIs slot_tuple_getitem.lookup
  (getItem_tuple (j:=j) (Q:=λr s'=>r=w/\EP X ZY σ Q r s') pl Yd Yd (by rw [Q4,<-hl];exact h1) (by simpa using ew) ⟨rfl,fin⟩) hs
theorem BC:qv X BB:=by
 intro value slice ZY s σ H x y v u Q I rx ry h hs;obtain⟨z,i,c,rfl,rfl,hz,he,q⟩:=h;obtain⟨t,rfl⟩:=rx;obtain⟨t',rfl⟩:=ry;obtain⟨j,h1,h2,h3,h4,h5⟩:=u5 he;have hl:z.cps.toList.length=z.length:=by simp [Str.length]
 rw [hl] at h1 h4 h5;have hn:=qq;exact tail_any (ZI s z t) slot_str_getitem.lookup (getItem_str (c:=c) (by
  have e1:decide (i < -(2 ^ 63:Int))=false:=decide_eq_false Yd;have e2:decide (i >= 2 ^ 63)=false:=decide_eq_false Yd;rw [e1,e2,Tf]) (by rw [h1];simpa using h2) ⟨.str ⟨#[c]⟩,H,I.tok _,⟨_,rfl⟩,q⟩) hs
theorem IG(lo hi:Option Int)(n:Nat):(Zo lo hi none n).1=((HT.sIx n 0 lo:Nat):Int)/\(Zo lo hi none n).2.1=((HT.sIx n n hi:Nat):Int)/\(Zo lo hi none n).2.2=1:=by
 refine⟨?_,?_,rfl⟩
 ·cases lo with
  | none=>simp [Zo,HT.sIx]
  | some i=>
   simp only [Zo,HT.sIx,Wj,show(1:Int) > 0 by decide,if_true];by_cases h:i < 0
   ·simp only [h,if_true] <;> omega
   ·simp only [h,if_false] <;> omega
 ·cases hi with
  | none=>simp [Zo,HT.sIx]
  | some i=>
   simp only [Zo,HT.sIx,Wj,show(1:Int) > 0 by decide,if_true];by_cases h:i < 0
   ·simp only [h,if_true] <;> omega
   ·simp only [h,if_false] <;> omega
theorem IH(its:List Yj)(lo hi:Option Int):slicePick its.toArray lo hi none=((its.drop (HT.sIx its.length 0 lo)).take (HT.sIx its.length its.length hi - HT.sIx its.length 0 lo)).toArray:=by
 obtain⟨h1,h2,h3⟩:=IG lo hi its.toArray.size;unfold slicePick;rw [h1,h2,h3];simp only [sliceRange_one,pick_run,Q4] <;> rfl
def II(K:QN):V->Option Int->Option Int->Hp->VK->Prop:=λx lo hi H Q=>∃a xs,x= .ref a/\bo K H a xs/\∀p,H p=none->Q (.ref p) (ah H p (.lst (jF xs lo hi)))
theorem BD:rW X (II X.K):=by
 intro ZY s σ H x v vl vu lo hi sl Q I rx hs pl pu h;obtain⟨a,xs,rfl,hx,q⟩:=h;cases rx;obtain⟨its,r,ht,hz⟩:=I.list hx;have hlen:=r.length;refine⟨"list",_,slot_list_getitem.lookup,ht.isList.typeIs,?_⟩;refine wpAny_getItem_list_slice ht.isList hs pl pu .none Yh ?_ (by rw [Q4] <;> omega);rw [IH,<-hlen];refine⟨.ref s.heap.objs.size,_,I.laid (t':=s.toks) (o:= .lst (jF xs lo hi)) (λb ob q=>QS _ q) (QQ _) ?_,rfl,q _ (I.hok.fresh (QQ _))⟩;exact⟨Rj (Bz xs lo hi) hz,_,0,(r.drop (HT.sIx xs.length 0 lo)).take (HT.sIx xs.length xs.length hi - HT.sIx xs.length 0 lo),Rb _ rfl⟩
theorem dO:d7 X (.builtin "len") (λxs H Q=>∃p ys,xs=[.ref p]/\(bo X.K H p ys\/aZ X.K H p ys)/\Q (.int ys.length) H):=by
 intro ZY s σ H xs us Q I r h;obtain⟨p,ys,rfl,hq,q⟩:=h;obtain⟨u,rfl,rx⟩:=fo r;cases rx;have hn:=qq;rcases hq with hq | hq
 ·obtain⟨its,r',pl,hz⟩:=I.list hq;have hlen:=r'.length;exact Calls.call_len_list pl.isList (by simp only [Q4] <;> omega) ⟨.int ys.length,H,I.tok _,⟨s.toks+1,by rw [Q4,hlen]⟩,q⟩
 ·obtain⟨its,r',pl,hz⟩:=I.tuple hq;have hlen:=r'.length;exact len_tuple pl (by simp only [Q4] <;> omega) ⟨.int ys.length,H,I.tok _,⟨s.toks+1,by rw [Q4,hlen]⟩,q⟩
theorem IJ:d7 X (.type "list") (λxs H Q=>∃p ys,xs=[.ref p]/\(bo X.K H p ys\/aZ X.K H p ys)/\∀l,H l=none->Q (.ref l) (ah H l (.lst ys))):=by
 intro ZY s σ H xs us Q I r h;obtain⟨p,ys,rfl,hq,q⟩:=h;obtain⟨u,rfl,rx⟩:=fo r;cases rx;have fin:∀(its:List Yj),aI ys its->ys.length<=Yt->∀(h':Yw)(c':Nat),(∀b o',s.heap.get? b=some o'->h'.get? b=some o')->
  h'.get? s.heap.objs.size=some {cls:= .type "list",dict:=none,data:= .seq its.toArray c',slots:=#[]}->EP X ZY σ Q (.ref s.heap.objs.size) {s with heap:=h'}:=λits r' hz h' c' kp e=>
  ⟨.ref s.heap.objs.size,_,I.laid (t':=s.toks) kp (QQ _) (show cj X.prog X.w _ h' _ (.lst ys) from⟨hz,its,c',r',e⟩),rfl,q _ (I.hok.fresh (QQ _))⟩
 rcases hq with hq | hq
 ·obtain⟨its,r',pl,hz⟩:=I.list hq;have hlen:=r'.length;obtain⟨o,ho,hc,n,hd⟩:=pl.isList;exact call_list_seq p (.inl rfl) ho hc hd (λh' c' kp e=>fin its r' hz h' c' kp e) (by simp only [Q4] <;> omega)
 ·obtain⟨its,r',pl,hz⟩:=I.tuple hq;have hlen:=r'.length;obtain⟨o,ho,hc,n,hd⟩:=pl;exact call_list_seq p (.inr rfl) ho hc hd (λh' c' kp e=>fin its r' hz h' c' kp e) (by simp only [Q4] <;> omega)
theorem fN:d7 X (.type "tuple") (λxs H Q=>∃p ys,xs=[.ref p]/\((bo X.K H p ys/\∀l,H l=none->Q (.ref l) (ah H l (.tup ys)))\/(aZ X.K H p ys/\Q (.ref p) H))):=by
 intro ZY s σ H xs us Q I r h;obtain⟨p,ys,rfl,h⟩:=h;obtain⟨u,rfl,rx⟩:=fo r;cases rx;rcases h with⟨hq,q⟩ | ⟨hq,q⟩
 ·obtain⟨its,r',pl,hz⟩:=I.list hq;have hlen:=r'.length;refine call_tuple_list pl.isList (λh' kp=>?_) (by simp only [Q4] <;> omega);have I1:ag X ZY σ H {s with heap:=h'}:=I.kept (t':=s.toks) kp;have I2:ag X ZY σ (ah H h'.objs.size (.tup ys)) {s with heap:=h'.push {cls:= .type "tuple",data:= .seq its.toArray}}:=
   I1.laid (t':=s.toks) (λb o e=>QS _ e) (QQ _) (show cj X.prog X.w _ _ _ (.tup ys) from⟨hz,its,r',XM _ _⟩)
  exact⟨.ref h'.objs.size,_,I2,rfl,q _ (I1.hok.fresh (QQ _))⟩
 ·obtain⟨its,r',pl,hz⟩:=I.tuple hq;exact call_tuple_same pl ⟨.ref p,H,I,rfl,q⟩
def BE(K:QN)(T:String)(x:V)(H:Hp):Prop:=match x with
 | .str _=>T="str"
 | .int _=>T="int"
 | .ref p=>(T="list"/\∃xs,bo K H p xs)\/(T="tuple"/\∃o,K.lookup p=some o/\o.cls= .type "tuple"/\o.dict=none)\/
  (T="dict"/\((∃kvs,H p=some (.dK kvs))\/∃kvs,H p=some (.dT kvs)))\/(T="set"/\∃S n,H p=some (.set S n))
 | _=>False
theorem IK{ZY:List (Yl×Obj)}{σ:St}{H:Hp}{s:Ym}{T:String}{x:V}{v:Yj}(I:ag X ZY σ H s)(r:aJ x v)(ty:BE X.K T x H):
 s.TypeIs v T/\∀a,v= .ref a->∃ob,s.heap.get? a=some ob/\ob.dict=none:=by
 cases x with
 | str z=>
  obtain⟨t,rfl⟩:=r;cases (show T="str" from ty);exact⟨ZI s z t,λ_ e=>nomatch e⟩
 | int i=>
  obtain⟨t,rfl⟩:=r;cases (show T="int" from ty);exact⟨typeIs_int s i t,λ_ e=>nomatch e⟩
 | ref p=>
  cases r;rcases ty with⟨rfl,xs,hq⟩ | ⟨rfl,o,hk,hc,hd⟩ | ⟨rfl,hk⟩ | ⟨rfl,S,n,hk⟩
  ·obtain⟨its,_,pl,_⟩:=I.list hq;refine⟨pl.isList.typeIs,λa e=>?_⟩;cases e;obtain⟨o,n,e,c,hd,_⟩:=pl;exact⟨o,e,hd⟩
  ·refine⟨⟨o,I.kIn p o hk,hc⟩,λa e=>?_⟩;cases e;exact⟨o,I.kIn _ o hk,hd⟩
  ·have z:∃o,s.heap.get? p=some o/\o.ExactDict:=by
    rcases hk with⟨kvs,hk⟩ | ⟨kvs,hk⟩
    ·obtain⟨_,_,_,_,o,_,_,e,ex,_⟩:=I.hok p _ hk;exact⟨o,e,ex⟩
    ·obtain⟨_,_,_,_,o,_,_,e,ex,_⟩:=I.hok p _ hk;exact⟨o,e,ex⟩
   obtain⟨o,e,ex⟩:=z;refine⟨⟨o,e,ex.1⟩,λa e2=>?_⟩;cases e2;exact⟨o,e,ex.2.1⟩
  ·obtain⟨o,_,_,_,e,ex,_⟩:=I.hok p _ hk;refine⟨⟨o,e,ex.1⟩,λa e2=>?_⟩;cases e2;exact⟨o,e,ex.2.1⟩
 | _=>exact SQ ty
def IL(K:QN)(T:String)(r:V->List V->Hp->VK->Prop)(to:TE)(t:TA):TE:=λσ H Q=>to σ H λx H1=>BE K T x H1/\t σ H1 λxs H2=>r x xs H2 Q
variable {o e:Yr} {es:List Yr} {to:TE} {t:TA} {name:Str} {apos cpos:Pos} {T id:String} {r:V->List V->Hp->VK->Prop}
theorem rY(pa:PlainAttrs T)(slot:Slot T name id)(hty:typeOf (.builtin id)=pure (.type "method_descriptor"))(hm:IF X id r)(ho:PE X o to)(ha:PA X (e::es) t)
 (hbase:YQ o name X.env (eval o X.env)=eval o X.env:=by rfl)
 (hfew:((YC cpos (Yp (e::es) X.env)).all (λx=>!x.1) && (Y6 cpos (YS [] X.env)).all (λx=>x.1.isSome)
   && decide ((e::es).length+([]:List Y5).length+(if ([]:List Y5).isEmpty then 0 else 1) < 30))=true:=by rfl)
 (hline:(apos.endLine==cpos.line)=true:=by rfl)(hs:Yp (e::es) X.env=(false,eval e X.env)::Yp es X.env:=by rfl)(hplain:(YC cpos (Yp es X.env)).any (·.1)=false:=by rfl):
 PE X (.Call (.Attribute o name apos) (e::es) [] cpos) (IL X.K T r to t):=by
 intro ZY s σ H Q I h;refine wpAny_Call_method_late hbase hfew hline rfl (aB (ho ZY s σ H _ I h) λv s1 ⟨x,H1,I1,r1,ty,q1⟩=>?_);obtain⟨h1,h2⟩:=IK I1 r1 ty;refine⟨T,id,pa,slot,hty,h1,h2,?_⟩;have hA:=ha cpos ZY s1 σ H1 _ I1 q1;rw [hs] at hA⊢;refine Vq (by show(false || (YC cpos (Yp es X.env)).any (·.1))=false;rw [hplain] <;> rfl) (VA ?_);exact aB hA λus s2 uu55=>by obtain⟨vs,H2,I2,r2,q2⟩:=uu55;exact hm ZY s2 σ H2 x vs v us Q I2 r1 r2 q2
end
def rZ(X:Cx)(id:String)(r:V->List V->Hp->VK->Prop):Prop:=
 ∀(ZY:List (Yl×Obj))(s:Ym)(σ:St)(H:Hp)(x:V)(xs:List V)(v:Yj)(us:List Yj)(Q:VK),ag X ZY σ H s->aJ x v->aI xs us->r x xs H Q->
  Yo (Yq X.prog X.w) X.A (call (.builtin id) (v::us)) (EP X ZY σ Q) X.xe s
theorem aI.one:∀{x:V}{us:List Yj},aI [x] us->∃u,us=[u]/\aJ x u
 | _,_,.cons r .nil=>⟨_,rfl,r⟩
theorem aI.rep{xs:List V}{us:List Yj}(h:aI xs us):∀k:Nat,aI (Q8 k xs).flatten (Q8 k us).flatten
 | 0=>.nil
 | k+1=>by
  rw [SG,SG,Ui,Ui];exact aI.append h (aI.rep h k)
theorem BF(its:List Yj):∀(k:Nat)(acc:List Yj),
 Xz (λx1 x2=>x1++x2) acc.toArray (Q8 k its.toArray)=(acc++(Q8 k its).flatten).toArray
 | 0,acc=>by simp
 | k+1,acc=>by
  have e:acc.toArray++its.toArray=(acc++its).toArray:=Yh
  have e2:(acc++its)++(Q8 k its).flatten=acc++(Q8 (k+1) its).flatten:=by
   rw [SG,Ui,UO]
  rw [<-e2,<-BF its k (acc++its),<-e,SG,RP]
section
variable {X:Cx} {ZY:List (Yl×Obj)} {σ:St} {H:Hp} {s:Ym} {l b:Yl} {xs ys zs:List V}
theorem ag.lset{its its':List Yj}{n:Nat}{f:Array Yj->Array Yj}{t':Nat}(I:ag X ZY σ H s)(hH:H l=some (.lst xs))
 (e:s.heap.get? l=some {cls:= .type "list",data:= .seq its.toArray n})(hf:f its.toArray=its'.toArray)(hv:aI ys its')(hz:ys.length<=Yt):
 ag X ZY σ (ah H l (.lst ys)) {s with heap:=s.heap.update l (Sd f),toks:=t'}:=by
 have q:=PySem.IsL.update e f;rw [hf] at q;refine I.write (x:=l) (e:=l) (by rw [hH];exact trivial) (.inl rfl) (λb' u hb hu=>(T5 s.heap (Sd f) (Ne.symm hb)).trans hu) ⟨_,q⟩ ?_;exact⟨hz,its',_,hv,q⟩
theorem ag.lnew{its:List Yj}{t':Nat}(I:ag X ZY σ H s)(hv:aI ys its)(hz:ys.length<=Yt):
 ag X ZY σ (ah H s.heap.objs.size (.lst ys)) {s with heap:=s.heap.push {cls:= .type "list",data:= .seq its.toArray},toks:=t'}:=
 I.laid (λ_ _ q=>QS _ q) (QQ _) ⟨hz,its,0,hv,Rb _ rfl⟩
theorem ag.fresh(I:ag X ZY σ H s):H s.heap.objs.size=none:=I.hok.fresh (QQ _)
theorem ag.lstM(I:ag X ZY σ H s)(hH:H l=some (.lst xs)):xs.length<=Yt/\∃(its:List Yj)(n:Nat),aI xs its/\xs.length=its.length/\s.heap.get? l=some {cls:= .type "list",data:= .seq its.toArray n}:=by
 obtain⟨z,its,n,r,e⟩:=I.hok l _ hH;exact⟨z,its,n,r,r.length,e⟩
theorem vb{n:Nat}(h:n<=Yt):TL n=false:=by
 unfold TL;exact decide_eq_false Yd
end
section
variable {X:Cx}
def IM:V->List V->Hp->VK->Prop:=λx vs H Q=>∃l xs y,x= .ref l/\vs=[y]/\H l=some (.lst xs)/\xs.length < Yt/\Q .non (ah H l (.lst (xs++[y])))
theorem BG:rZ X "list.append" IM:=by
 intro ZY s σ H x vs v us Q I rx rv h;obtain⟨l,xs,y,rfl,rfl,hH,hz,q⟩:=h;cases rx;obtain⟨u,rfl,ru⟩:=rv.one;obtain⟨z,its,n,r,hl,e⟩:=I.lstM hH;refine Y8 F.slot_list_append ⟨_,e,rfl⟩ F.entry_list_append (F.args_list_append_2 _ _) (PySem.list_append l its.toArray n u (by rw [Q4];omega)) ⟨e,?_⟩;refine⟨.non,_,I.lset (its':=its++[u]) hH e Yh (r.append (.cons ru .nil)) ?_,rfl,q⟩;rw [Q2,S5];omega
def IP:V->List V->Hp->VK->Prop:=λx vs H Q=>∃l b xs zs,x= .ref l/\vs=[.ref b]/\H l=some (.lst xs)/\H b=some (.lst zs)/\xs.length+zs.length<=Yt/\Q .non (ah H l (.lst (xs++zs)))
theorem IQ:rZ X "list.extend" IP:=by
 intro ZY s σ H x vs v us Q I rx rv h;obtain⟨l,b,xs,zs,rfl,rfl,hH,hB,hz,q⟩:=h;cases rx;obtain⟨u,rfl,ru⟩:=rv.one;cases ru;obtain⟨z,its,n,r,hl,e⟩:=I.lstM hH;obtain⟨z2,its2,n2,r2,hl2,e2⟩:=I.lstM hB;have hsz:its.toArray.size+its2.toArray.size<=Yt:=by rw [Q4,Q4];omega
 have hlong:¬(!its.toArray.isEmpty && TL (its.toArray.size+its2.toArray.size))=true:=by
  rw [vb hsz,XH];exact QV
 refine Y8 F.slot_list_extend ⟨_,e,rfl⟩ F.entry_list_extend (F.args_list_extend_2 _ _)
  (Vv l its.toArray n b its2.toArray n2 hlong (by rw [Q4];omega) Yd) ⟨e,e2,?_⟩
 refine⟨.non,_,I.lset (its':=its++its2) hH e Yh (r.append r2) ?_,rfl,q⟩;rw [Q2];omega
def IS:R2:=λx y H Q=>∃l k xs,x= .ref l/\y= .int k/\H l=some (.lst xs)/\-(2 ^ 63)<=k/\k < 2 ^ 63/\xs.length*k.toNat<=Yt/\
 ∀p,H p=none->Q (.ref p) (ah H p (.lst (Q8 k.toNat xs).flatten))
theorem IT{α:Type}(xs:List α)(k:Nat):(Q8 k xs).flatten.length=k*xs.length:=by
 induction k with
 | zero=>simp
 | succ k ih=>rw [SG,Ui,Q2,ih,Nat.succ_mul,Nat.add_comm]
theorem IU:bG X (YU .Mult) IS:=by
 intro ZY s σ H x y v u Q I rx ry h;obtain⟨l,k,xs,rfl,rfl,hH,h1,h2,hz,q⟩:=h;cases rx;obtain⟨t,rfl⟩:=ry;obtain⟨z,its,n,r,hl,e⟩:=I.lstM hH;have hlen:its.toArray.size*k.toNat<=Yt:=by rw [Q4,<-hl];exact hz
 have hcap:¬its.toArray.size*k.toNat > (2 ^ 63 - 1)/ 8:=by
  have:(Yt:Nat)<=(2 ^ 63 - 1)/ 8:=Yc
  omega
 have hfit:¬(!Ud k)=true:=by
  rw [fitsIndex_both h1 h2];exact QV
 have hlong:¬TL (its.toArray.size*k.toNat)=true:=by
  rw [vb hlen];exact QV
 have hnew:Xz (λx1 x2=>x1++x2) #[] (Q8 (if its.toArray.isEmpty=true then 0 else k.toNat) its.toArray)=(Q8 k.toNat its).flatten.toArray:=by
  have f0:∀m:Nat,Xz (λx1 x2=>x1++x2) #[] (Q8 m its.toArray)=(Q8 m its).flatten.toArray:=λm=>by
   have:=BF its m [];rw [RY] at this;exact this
  rw [f0];cases its with
  | nil=>simp
  | cons a r'=>rw [Ye Yh]
 refine wpAny_binaryOp_repeat_ref (T:="list") (U:="int") Yc ⟨_,e,rfl⟩ (λs'=>typeIs_int s' k t) noFill_list_mul F.fills_int_mul F.slot_int_rmul repeat_list F.slot_int_index.lookup
  (Y8 F.slot_int_rmul (typeIs_int s k t) F.entry_int_rmul (F.args_int_rmul_2 _ _) (int___rmul___int_list k t l its.toArray n)
    ⟨e,rfl,⟨_,e,rfl⟩,Y8 F.slot_list_mul ⟨_,e,rfl⟩ F.entry_list_mul (F.args_list_mul_2 _ _) (AutoListH.list___mul___list_int_3 l its.toArray n k t hfit hcap hlong) ⟨e,?_⟩⟩)
 rw [hnew];exact⟨.ref _,_,I.lnew (t':=s.toks) (r.rep k.toNat) (by rw [IT,Nat.mul_comm];exact hz),rfl,q _ I.fresh⟩
end
end _L
namespace Att
open PySem PySem.W PySem.Calls PyProof.Rows
theorem IV{P:Params}{h:Yw}:∀(ns:List Int)(vs:List Yj),WellAll P h vs (ns.map UH)->YK vs ns:=by
 intro ns
 induction ns with
 | nil=>
  intro vs w;rw [RO] at w;cases w;exact .nil
 | cons n ns ih=>
  intro vs w;rw [QR] at w;cases w with
  | cons a b=>
   cases a;exact .cons _ _ (ih _ b)
theorem IW{l:OpenLaw}{n:Nat}(hn:l.most=some n){P:Params}{h:Yw}{args:List WData}{vals:List Yj}
 (hpre:l.row.toRowW.claim.pre args=true)(hwl:WellAll P h vals args):
 ∃a vs ns,vals=[RE a]/\args=[Wb (ns.map UH)]/\h.get? a=some {cls:= .type "list",data:= .seq vs.toArray}/\YK vs ns/\ns.length<=n:=by
 have hsh:WShape.hasAll [] args [.list .int]=true:=(pre_splitW hpre).1;have hc:l.pre.holds [] {args:=args}=true:=(pre_splitW hpre).2;obtain⟨d,r,rfl,h1,h2⟩:=hasAllW_cons hsh;obtain rfl:=hasAllW_nil h2;obtain⟨xs,rfl,h3⟩:=hasW_list h1;obtain⟨ns,rfl⟩:=items_int h3;have hlen:ns.length<=n:=by
  unfold OpenLaw.pre at hc;have h4:(WTm.not (.lt (.lit (.int (n:Int))) (.len (.arg 0)))).holds [] {args:=[.list (ns.map .int)]}=true:=by
   have h4:=(holds_andW hc).1;rw [hn] at h4;exact h4
  have h5:=condW_of h4 (w_not (w_lt w_lit (w_len_list (w_arg rfl))));rw [QO] at h5;refine Tt λq=>?_;have q':(n:Int) < ((ns.length:Nat):Int):=Yd
  first
   | (rw [decide_eq_true q'] at h5;exact absurd h5 Yc)
   | (simp at h5;omega)
 cases hwl with
 | cons w1 w2=>
  cases w2;cases w1 with
  | list ho hall=>exact⟨_,_,ns,rfl,rfl,ho,IV ns _ hall,hlen⟩
theorem IX(l:OpenLaw)(args:List WData):l.row.toRowW.claim.post args (.bool true) args=true:=
 postW_of (r:=l.row.toRowW) (X:=(true==true))
  (show WShape.has [] (.bool true) .bool=true by first | rfl | decide | simp [WShape.has,WShape.arms,WShape.armsAll])
  (show(WTm.eq .res (.lit (.bool true))).value [] {args:=args,res:=some (.bool true),after:=args}=some (.bool (true==true)) from w_eq_bool (w_res rfl) w_lit) rfl
end Att
namespace _L
open PySem PySem.Spec PyProof.Rows
theorem BH:∀{vs:List Yj}{ns:List Int},YK vs ns->aI (ns.map V.int) vs
 | _,_,.nil=>.nil
 | _,_,.cons n t h=>.cons ⟨t,rfl⟩ (BH h)
def sd(H:Hp):Prop:=∀b,H b=none\/∃o xs,H b=some (.frz o (.lst xs))
theorem IY{P:Yu}{w:Yv}{K:QN}{mg mb:Str->Option Yj}{CX:eZ}{k:Nat}{fa a:Yl}{fd:Ys}{x:Str}{sp:Sp}{s₁:Ym}{vs:List Yj}{ns:List Int}
 (KX:K.In s₁.heap)(hns:s₁.heap.Ns Yy mg)(hb:s₁.heap.Ns builtinsNs mb)(hbb:∀x:Str,x≠"__name__"->mb x=YI x)(hlim:s₁.heap.NoLimit)(hg:s₁.gens=#[])
 (ha:s₁.heap.get? a=some {cls:= .type "list",data:= .seq vs.toArray})(hi:YK vs ns)(hl:ns.length<=Yt)(hr:bp k callerA)
 (F:∀base:Yw,K.In base->base.Ns Yy mg->aA P w K mg base CX k fa fd [x] sp)(hbind:∀(s:Ym) (u:Yj),BindsTo s fd ⟨[u],[]⟩ [(x,u)])
 (hsp:∀H:Hp,sd H->bo K H a (ns.map V.int)->sp [.ref a] H (λv _=>v= .bl true) λ_ _ _=>False)
 (hCX:∀H e s',CX [] H s₁ (λ_ _ _=>False) e s'->False):
 Zc (Yq P w) callerA (.call (.ref fa) ⟨[.ref a],[]⟩) (λr s'=>r= .ok (.ret (.bool true))/\OldK s₁.heap s'.heap/\s'.os=s₁.os/\ZC s'.gens) s₁:=by
 have rv:=BH hi;have lenV:=hi.length;have core:∀H:Hp,sd H->bo K H a (ns.map V.int)->bK P w H s₁.heap->(∀b,H b≠none->b=a)->(H a≠none->K.lookup a=none)->
  Zc (Yq P w) callerA (.call (.ref fa) ⟨[.ref a],[]⟩) (λr s'=>r= .ok (.ret (.bool true))/\OldK s₁.heap s'.heap/\s'.os=s₁.os/\ZC s'.gens) s₁:=by
  intro H hO hS hok hA hK;have base_of:∀{b:Yl}{o:Obj},s₁.heap.get? b=some o->H b=none->(jD s₁.heap H).get? b=some o:=λe n=>Hi e n;have noA:∀{b:Yl}{o:Obj}{es:Array ZQ}{ep:Nat},s₁.heap.get? b=some o->o.data= .dict es ep->H b=none:=λ{b o es ep} e d=>by
   cases q:H b with
   | none=>rfl
   | some u=>
    have e':b=a:=hA b (by rw [q];simp);subst e';rw [ha] at e;cases e;have d':Data.seq vs.toArray _=Data.dict es ep:=d;cases d'
  have nsK:∀{b:Yl}{m:Str->Option Yj},s₁.heap.Ns b m->(jD s₁.heap H).Ns b m:=λ{b m} ⟨o,es,ep,e,d,r⟩=>⟨o,es,ep,base_of e (noA e d),d,r⟩;have hKb:K.In (jD s₁.heap H):=λb o e=>base_of (KX b o e) (by
   cases q:H b with
   | none=>rfl
   | some u=>
    have e':b=a:=hA b (by rw [q];simp);subst e';rw [hK (by rw [q];simp)] at e;cases e)
  have hM:Mod K mg (jD s₁.heap H):=⟨hKb,nsK hns,⟨mb,nsK hb,hbb⟩,let ⟨mc,h1,h2⟩:=hlim;⟨mc,nsK h1,h2⟩⟩;have e0:i8 P w K mg (jD s₁.heap H) callerA [] s₁ H:=⟨rfl,hM,λb o e=>Hj e,W2 (Hh _ _),trivial,λb hb=>absurd (show b∈([]:List Yl) from hb) Yh,hok,.of_eq hg⟩;refine Y9 ((F _ hKb (nsK hns)).run callerA [] s₁ H ⟨[.ref a],[]⟩ [.ref a] [.ref a] _ _ hr e0 (hbind s₁ (.ref a)) (.cons rfl .nil) (hsp H hO hS)) λr s' h=>?_;cases r with
  | error e=>exact(hCX H e s' h).elim
  | ok fl=>
   cases fl with
   | next=>exact SQ h
   | brk=>exact SQ h
   | cont=>exact SQ h
   | ret u=>
    obtain⟨v,H',os,bare,un,hok',r',q⟩:=h;have q':v= .bl true:=q;subst q';obtain rfl:u=UC true:=r';refine⟨rfl,OldK.of_keep λb o e=>?_,os,bare⟩;cases q:H b with
    | none=>exact un.keep b o e q (by intro z;exact absurd (show b∈([]:List Yl) from z) Yh) Yh
    | some u=>
     rcases hO b with z | ⟨ob,xs,z⟩
     ·rw [q] at z;cases z
     ·have z2:=un.frzs b ob _ z;obtain⟨e1,_⟩:=hok b _ z;obtain⟨e2,_⟩:=hok' b _ z2;rw [e] at e1;cases e1;exact e2
 cases hk:K.lookup a with
 | some o=>
  have e:=KX a o hk;rw [ha] at e;cases e;refine core (λ_=>none) (λ_=>.inl rfl) (.inr ⟨_,vs.toArray,_,hk,rfl,rfl,rfl,by rw [Q4,lenV];exact hl,by simpa using rv⟩) (λb u z=>by have z':(none:Option HO)=some u:=z;cases z') (λb z=>absurd rfl z) λz=>absurd rfl z
 | none=>
  refine core (λb=>if b=a then some (.frz {cls:= .type "list",data:= .seq vs.toArray} (.lst (ns.map V.int))) else none) (λb=>?_) (.inl (.inr ⟨{cls:= .type "list",data:= .seq vs.toArray},Yf rfl⟩)) (λb u z=>?_) (λb z=>?_) λ_=>hk
  ·by_cases hb:b=a
   ·exact .inr ⟨_,_,Yf hb⟩
   ·exact .inl (Ye hb)
  ·by_cases hb:b=a
   ·have z':=(Yf hb).symm.trans z;cases z';subst hb;exact⟨ha,by rw [QO];exact hl,vs,_,rv,ha⟩
   ·have z':=(Ye hb).symm.trans z;cases z'
  ·by_cases hb:b=a
   ·exact hb
   ·exact absurd (Ye hb) z
abbrev KOf{K:QN}{h:Yw}(_:K.In h):QN:=K
def inClass(s:Yx)(j:Nat):Yx:=match s with
 | .ClassDef _ _ _ body _ _ _ _ _ _ _=>body.getD j (.Pass ⟨0,0,0,0⟩)
 | _=>.Pass ⟨0,0,0,0⟩
def ja(s:Yx):Arguments:=match s with
 | .FunctionDef _ a _ _ _ _ _ _ _ _=>a
 | _=>{posonlyargs:=[],args:=[],vararg:=none,kwonlyargs:=[],kw_defaults:=[],kwarg:=none,defaults:=[]}
def fq(s:Yx):List Yx:=match s with
 | .FunctionDef _ _ b _ _ _ _ _ _ _=>b
 | _=>[]
def av(s:Yx):YW:=match s with
 | .FunctionDef _ _ _ _ _ _ sc _ _ _=>sc
 | _=>{kind:= .function,names:=[],isGenerator:=false,isCoroutine:=false}
abbrev CX0:eZ:=λ_ _ _ _ _ _=>False
abbrev E0:XK:=λ_ _ _=>False
theorem ft{X:Cx}:gZ CX0 X E0:=λ_ _ _ _ _ _ _ h=>h.elim
structure d9 (K:QN) (x qual:Str) (st:Yx) (f:Yl) (fd:Ys):Prop where
 ex:∃(oc:Yj)(od:Option Yl)(kV doc pm:Yj)(an:Option Yl)(cdv ct:Yj)(osl:Array (Option Yj)),
  fd=S6 x qual (ja st) (fq st) (av st) .none kV doc pm an cdv ct/\K.lookup f=some ⟨oc,od,.func fd,osl⟩/\Vj K cdv qual=true
 kp:SX K (.ref f)=true
section
variable {P:Yu} {w:Yv} {K:QN} {mg:Str->Option Yj} {base:Yw}
theorem d9.ok{x qual:Str}{st:Yx}{f:Yl}{fd:Ys}{N ps:List Str}{k:Nat}{sp:Sp}(F:d9 K x qual st f fd)(S:aO N ps (av st))(len:∀vs H Q E,sp vs H Q E->vs.length=ps.length)
 (hbody:∀(cdv:Yj) (A:Yz) (outer:List Env) (s:Ym) (H:Hp) (vs:List V) (Q:VK) (E:XK),bp k (A.deeper (Zj qual (av st) s.heap.objs.size f cdv))->sp vs H Q E->
   ∃t,bP (iu CX0 P w K mg base N qual (av st) f cdv A outer s H E).nox (fq st) t/\t {nx:=λ_ H'=>Q .non H',rt:=Q} (start N vs) H):aA P w K mg base CX0 (k+1) f fd ps sp:=by
 obtain⟨oc,od,kV,doc,pm,an,cdv,ct,osl,rfl,lk,hcd⟩:=F.ex;refine Ik lk hcd S len λA outer s H vs Q E hr hsp=>?_;obtain⟨t,h,q⟩:=hbody cdv A outer s H vs Q E hr hsp;exact⟨t,h.nox,q⟩
theorem d9.binds{x qual:Str}{st:Yx}{f:Yl}{fd:Ys}{ps:List Str}(F:d9 K x qual st f fd)
 (h:∀(kV doc pm:Yj) (an:Option Yl) (cdv ct:Yj) (us:List Yj),us.length=ps.length->bindArgs (S6 x qual (ja st) (fq st) (av st) .none kV doc pm an cdv ct) ⟨us,[]⟩=pure (ps.zip us)):cS K fd ps []:=by
 obtain⟨oc,od,kV,doc,pm,an,cdv,ct,osl,rfl,lk,hcd⟩:=F.ex;exact .all (h kV doc pm an cdv ct)
theorem BI{x qual:Str}{st:Yx}{f:Yl}{oc:Yj}{od an:Option Yl}{osl:Array (Option Yj)}{kV doc pm cdv ct:Yj}(l:K.lookup f=some ⟨oc,od,.func (S6 x qual (ja st) (fq st) (av st) .none kV doc pm an cdv ct),osl⟩)
 (c:Vj K cdv qual=true)(k:SX K (.ref f)=true):d9 K x qual st f (S6 x qual (ja st) (fq st) (av st) .none kV doc pm an cdv ct):=⟨⟨oc,od,kV,doc,pm,an,cdv,ct,osl,rfl,l,c⟩,k⟩
end
section
variable {X:Cx}
theorem pv(i:Nat){x:Str}{pos:Pos}(hN:X.N[i]?=some x:=by rfl)(hv:p9 X.env.scope x:=by first | exact WI rfl | exact VB (WI rfl) | exact VB (VB rfl))(hd:(x==("__debug__":Str))=false:=by decide)
 (hcd:(x==("__classdict__":Str))=false:=by decide):PE X (.Name x pos) (cJ i):=uG hN hv hd hcd
end
def au(H H':Hp):Prop:=∀b o,H b=some o->H' b=some o
theorem au.refl(H:Hp):au H H:=λ_ _ h=>h
theorem au.trans{H H1 H2:Hp}(a:au H H1)(b:au H1 H2):au H H2:=λc o h=>b c o (a c o h)
def fO(env:Env)(names:List (Str×YV))(cs:List (Str×Yl)):List (Str×Yl):=
 names.foldl (λcs p=>if (p.2==Sy)=true then(p.1,(env.cells.lookup p.1).getD 0)::cs else cs) cs
theorem BJ{scope:YW}{env:Env}(h:∀y∈scope.names,y.2= .free->∃c,env.cells.lookup y.1=some c):closureFor scope env=pure (fO env scope.names []):=by
 unfold closureFor;have key:∀(l:List (Str×YV))(cs:List (Str×Yl)),(∀y∈l,y.2= .free->∃c,env.cells.lookup y.1=some c)->
  (forIn l cs λ(x:Str×YV) (r:List (Str×Yl))=>(if (x.2==Sy)=true then do let a<-cellOf env x.1;pure (UI ((x.1,a)::r)) else pure (UI r):Sem (ForInStep (List (Str×Yl)))))=pure (fO env l cs):=by
  intro l
  induction l with
  | nil=>intro cs _;rfl
  | cons p r ih=>
   intro cs hl;rw [XA];by_cases hk:(p.2==Sy)=true
   ·obtain⟨c,hc⟩:=hl p RC (by simpa using hk);rw [Yf hk];have e:cellOf env p.1=pure c:=by unfold cellOf;rw [hc]
    rw [e];simp only [pure_bind];rw [ih _ λy hy=>hl y (Ri _ hy)];unfold fO;rw [RP,Yf hk,hc];rfl
   ·rw [Ye hk];simp only [pure_bind];rw [ih _ λy hy=>hl y (Ri _ hy)];unfold fO;rw [RP,Ye hk]
 have:=key scope.names [] h;simp only [bind_pure];exact this
theorem vc{env:Env}:∀(l:List (Str×YV))(cs:List (Str×Yl)){x:Str}{c:Yl},(∀y∈l,y.2= .free->∃c,env.cells.lookup y.1=some c)->(∀y d,cs.lookup y=some d->env.cells.lookup y=some d)->
 (fO env l cs).lookup x=some c->env.cells.lookup x=some c
 | [],cs,x,c,_,hc,h=>hc x c h
 | p::r,cs,x,c,hl,hc,h=>by
  unfold fO at h;rw [RP] at h;by_cases hk:(p.2==Sy)=true
  ·rw [Yf hk] at h;refine vc r _ (λy hy=>hl y (Ri _ hy)) (λy d e=>?_) h;obtain⟨a,ha⟩:=hl p RC (by simpa using hk);rw [Rx] at e;cases hx:y==p.1 with
   | true=>
    rw [hx] at e;have hy:y=p.1:=by simpa using hx
    rw [ha] at e;cases e;rw [hy];exact ha
   | false=>rw [hx] at e;exact hc y d e
  ·rw [Ye hk] at h;exact vc r cs (λy hy=>hl y (Ri _ hy)) hc h
theorem vd{env:Env}:∀(l:List (Str×YV))(cs:List (Str×Yl)){x:Str},(∃c,cs.lookup x=some c)->∃c,(fO env l cs).lookup x=some c
 | [],cs,x,h=>h
 | p::r,cs,x,⟨c,h⟩=>by
  unfold fO;rw [RP];by_cases hk:(p.2==Sy)=true
  ·rw [Yf hk];refine vd r _ ?_;rw [Rx];cases hx:x==p.1 with
   | true=>exact⟨_,rfl⟩
   | false=>exact⟨c,h⟩
  ·rw [Ye hk];exact vd r cs ⟨c,h⟩
theorem ve{env:Env}:∀(l:List (Str×YV))(cs:List (Str×Yl)){x:Str},(x,Sy)∈l->∃c,(fO env l cs).lookup x=some c
 | [],_,_,h=>by simp at h
 | p::r,cs,x,h=>by
  unfold fO;rw [RP];rcases QX.mp h with e | e
  ·subst e;rw [Yf (by rfl)];exact vd r _ ⟨(env.cells.lookup x).getD 0,by rw [Rx];simp⟩
  ·exact ve r _ e
theorem IZ{env:Env}{scope:YW}{x:Str}(h:(relabel scope env).names.lookup x=some .cell\/(relabel scope env).names.lookup x=some .free):scope.names.lookup x=some .free\/scope.names.lookup x=some .cell:=by
 have key:∀(l:List (Str×YV)),
  ((l.map λ(n,k)=>if (k==Sy && env.scope.kind== .function && env.kindOf n==some .cell) then(n,Vr) else(n,k)).lookup x=some .cell\/
  (l.map λ(n,k)=>if (k==Sy && env.scope.kind== .function && env.kindOf n==some .cell) then(n,Vr) else(n,k)).lookup x=some .free)->l.lookup x=some .free\/l.lookup x=some .cell:=by
  intro l
  induction l with
  | nil=>intro h;simp at h
  | cons p r ih=>
   obtain⟨n,k⟩:=p;intro h;rw [QR] at h;rw [Rx];by_cases hx:x=n
   ·subst hx;rw [beq_self_eq_true];by_cases hq:(k==Sy && env.scope.kind== .function && env.kindOf x==some .cell)=true
    ·have:k= .free:=by simp only [RW,beq_iff_eq] at hq;exact hq.1.1
     subst this;exact .inl rfl
    ·simp only [Ye hq,Rx,beq_self_eq_true] at h;exact h.symm
   ·have hb:(x==n)=false:=by simpa using hx
    rw [hb];refine ih ?_;by_cases hq:(k==Sy && env.scope.kind== .function && env.kindOf n==some .cell)=true
    ·simpa only [Yf hq,Rx,hb] using h
    ·simpa only [Ye hq,Rx,hb] using h
 exact key scope.names h
theorem vg{env:Env}{scope:YW}{x:Str}(h:scope.names.lookup x=some .cell\/scope.names.lookup x=some .free):(relabel scope env).names.lookup x=some .cell\/(relabel scope env).names.lookup x=some .free:=by
 have key:∀(l:List (Str×YV)),l.lookup x=some .cell\/l.lookup x=some .free->
  ((l.map λ(n,k)=>if (k==Sy && env.scope.kind== .function && env.kindOf n==some .cell) then(n,Vr) else(n,k)).lookup x=some .cell\/
  (l.map λ(n,k)=>if (k==Sy && env.scope.kind== .function && env.kindOf n==some .cell) then(n,Vr) else(n,k)).lookup x=some .free):=by
  intro l
  induction l with
  | nil=>intro h;simp at h
  | cons p r ih=>
   obtain⟨n,k⟩:=p;intro h;rw [QR];by_cases hx:x=n
   ·subst hx;rw [Rx,beq_self_eq_true] at h;by_cases hq:(k==Sy && env.scope.kind== .function && env.kindOf x==some .cell)=true
    ·left;simp only [Yf hq,Rx,beq_self_eq_true]
    ·simp only [Ye hq,Rx,beq_self_eq_true];exact h
   ·have hb:(x==n)=false:=by simpa using hx
    rw [Rx,hb] at h;by_cases hq:(k==Sy && env.scope.kind== .function && env.kindOf n==some .cell)=true
    ·simpa only [Yf hq,Rx,hb] using ih h
    ·simpa only [Ye hq,Rx,hb] using ih h
 exact key scope.names h
structure bb (sc:YW) (N N':List Str) (k:Nat) (fr:List Nat) (scope:YW):Prop where
 kind:scope.kind= .function
 cell:∀y∈scope.names,y.2= .cell->scope.names.lookup y.1=some .cell
 names:∀y∈scope.names,y.2= .local->scope.names.lookup y.1=some .local
 nd:N'.Nodup
 slot:fr.map (λj=>N[j]?)=(N'.drop k).map some
 frees:∀x∈N'.drop k,scope.names.lookup x=some .free
 outer:∀y∈scope.names,y.2= .free->sc.names.lookup y.1=some .cell\/sc.names.lookup y.1=some .free
 outer':∀x∈N'.drop k,sc.names.lookup x=some .cell\/sc.names.lookup x=some .free
 len:N'.length=k+fr.length
theorem bb.rel{sc:YW}{N N':List Str}{k:Nat}{fr:List Nat}{scope:YW}{e:Env}(S:bb sc N N' k fr scope):bb (relabel sc e) N N' k fr scope:=
 ⟨S.kind,S.cell,S.names,S.nd,S.slot,S.frees,λy h1 h2=>vg (S.outer y h1 h2),λx h=>vg (S.outer' x h),S.len⟩
theorem se:∀(l:List (Str×YV)){n:Nat}{a:List (Str×Yl)}{x:Str}{c:Yl},(YR n l a).lookup x=some c->n<=c\/a.lookup x=some c
 | [],_,_,_,_,h=>.inr h
 | (y,k)::r,n,a,x,c,h=>by
  unfold YR at h;split at h
  ·rcases se r h with z | z
   ·exact .inl Yd
   ·rw [Rx] at z;split at z
    ·exact .inl (by cases z;exact QQ _)
    ·exact .inr z
  ·exact se r h
theorem vh:∀(l:List (Str×YV)){n:Nat}{a:List (Str×Yl)}{x:Str}{c:Yl},l.lookup x=some .cell->(YR n l a).lookup x=some c->n<=c
 | [],_,_,_,_,e,_=>nomatch e
 | (y,k)::r,n,a,x,c,e,h=>by
  unfold YR at h;rw [Rx] at e;cases hx:x==y with
  | true=>
   rw [hx] at e;cases e;have h:UJ x (YR (n+1) r ((y,n)::a))=some c:=h;rcases se r h with z | z
   ·exact V7 z
   ·rw [Rx,hx] at z;cases z;exact QQ _
  | false=>
   rw [hx] at e;split at h
   ·exact V7 (vh r e h)
   ·exact vh r e h
theorem vi:∀(l:List (Str×YV)){n:Nat}{a:List (Str×Yl)}{x:Str},(∀y∈l,y.2= .cell->y.1≠x)->(YR n l a).lookup x=a.lookup x
 | [],_,_,_,_=>rfl
 | (y,k)::r,n,a,x,h=>by
  unfold YR;split
  ·rename_i hk;rw [vi r λz hz=>h z (Ri _ hz),Rx];have:(x==y)=false:=by simpa using Ne.symm (h (y,k) RC (by simpa using hk))
   rw [this]
  ·exact vi r λz hz=>h z (Ri _ hz)
theorem vj:∀(l:List (Str×YV)){n:Nat}{a:List (Str×Yl)},(∀x c,a.lookup x=some c->c < n)->(∀x y c,a.lookup x=some c->a.lookup y=some c->x=y)->∀x y c,(YR n l a).lookup x=some c->(YR n l a).lookup y=some c->x=y
 | [],_,_,_,h=>h
 | (z,k)::r,n,a,hl,hi=>by
  unfold YR;split
  ·have one:∀x c,((z,n)::a).lookup x=some c->x=z/\c=n\/c < n/\a.lookup x=some c:=λx c e=>by
    rw [Rx] at e;cases hx:x==z with
    | true=>rw [hx] at e;cases e;exact .inl ⟨by simpa using hx,rfl⟩
    | false=>rw [hx] at e;exact .inr ⟨hl x c e,e⟩
   refine vj r (λx c e=>?_) λx y c e1 e2=>?_
   ·rcases one x c e with⟨_,z⟩ | ⟨z,_⟩
    ·rw [z];exact SR _
    ·exact Sk z
   ·rcases one x c e1 with⟨a1,b1⟩ | ⟨a1,b1⟩ <;> rcases one y c e2 with⟨a2,b2⟩ | ⟨a2,b2⟩
    ·rw [a1,a2]
    ·omega
    ·omega
    ·exact hi x y c b1 b2
  ·exact vj r hl hi
theorem vk:∀(l:List (Str×YV)){h:Yw}{a:List (Str×Yl)},(∀x c,a.lookup x=some c->∃v,h.IsCell c v)->∀x c,(YR h.objs.size l a).lookup x=some c->∃v,(pushCells h l).IsCell c v
 | [],_,_,h=>h
 | (z,k)::r,h,a,ha=>by
  unfold YR pushCells;split
  ·have:=vk r (h:=h.push {cls:= .type "cell",data:= .cell none}) (a:=(z,h.objs.size)::a) λx c e=>by
    rw [Rx] at e;split at e
    ·cases e;exact⟨none,_,Rb _ rfl,rfl⟩
    ·obtain⟨v,q⟩:=ha x c e;exact⟨v,q.keeps λb o e=>QS _ e⟩
   rwa [Tw] at this
  ·exact vk r ha
def sf(X:Cx)(scope:YW)(C:Yl):List (Str×Yl):=YR (C+1) scope.names (fO X.env scope.names [])
def bF(X:Cx)(scope:YW)(N':List Str)(fp:List Yl)(C:Yl)(s:Ym)(H:Hp):Cx where
 prog:=X.prog
 w:=X.w
 K:=X.K
 mg:=X.mg
 base:=X.base
 A:=X.A
 N:=N'
 s₀:=s
 H₀:=H
 env:=compEnvC scope (sf X scope C) C X.env
 outer:=X.stack
 stack:=X.stack
 ex:=fp
 fn:=λx=>scope.names.lookup x==some .cell
 calm:=X.calm
 pn:=[]
 xe:=λ_ _=>False
def bB(k:Nat)(fr:List Nat)(σ:St):St:=Q8 k none++fr.map λj=>(σ[j]?).join
def nR(σ σ':St):Prop:=σ.length=σ'.length/\∀(i:Nat) v,σ[i]?=some (some v)->σ'[i]?=some (some v)
section
variable {X:Cx} {ZY:List (Yl×Obj)} {σ:St} {H:Hp} {s:Ym} {scope:YW} {N':List Str} {k:Nat} {fr:List Nat} {fp:List Yl}
theorem vo(S:bb X.env.scope X.N N' k fr scope)(I:ag X ZY σ H s):∀x c,(fO X.env scope.names []).lookup x=some c->X.env.cells.lookup x=some c:=λx c e=>vc scope.names [] (λy hy e=>I.ok.has y.1 (S.outer y hy e)) (λ_ _ z=>by simp at z) e
theorem BK(S:bb X.env.scope X.N N' k fr scope)(I:ag X ZY σ H s){x:Str}{c:Yl}(e:(sf X scope s.heap.objs.size).lookup x=some c):s.heap.objs.size < c\/X.env.cells.lookup x=some c:=
 (se _ e).imp (λz=>z) λz=>vo S I x c z
theorem I0(S:bb X.env.scope X.N N' k fr scope)(I:ag X ZY σ H s)(hf:∀b∈fp,ik X ZY H b)(hlt:∀b∈fp,b < s.heap.objs.size):
 (bF X scope N' fp s.heap.objs.size s H).Ok:=by
 have hcl:=vo S I;refine⟨I.ok.mod,S.kind,I.ok.glob,I.ok.blt,QQ _,vj _ (λx c e=>?_) (λx y c h1 h2=>I.ok.inj x y c (hcl x c h1) (hcl y c h2)),λx hx=>Ut.mp (Vo _ _ _ ?_),λx c h e=>V7 (vh _ (eq_of_beq h) e),I.ok.hd,I.ok.frames,.inl rfl,λb hb=>⟨Rz (hlt b hb),λx c e=>?_⟩,
  I.bs,Rj I.ok.bsz I.sz,λb o e hb=>?_,λb hb hb'=>?_,I.stack,I.stkFree⟩
 ·obtain⟨v,o,ho,_⟩:=I.cell x c (hcl x c e);exact Sk (Q7 ho)
 ·rcases IZ hx with z | z
  ·exact .inr (Ut.mpr (ve _ _ (To z)))
  ·exact .inl z
 ·rcases BK S I e with z | z
  ·exact λq=>absurd (hlt b hb) (by rw [<-q];exact Nat.lt_asymm z)
  ·exact(hf b hb).2.2.2.2.1 x c z
 ·rcases(hf b hb).2.2.2.1 with z | z
  ·exact I.ok.noex b o e z
  ·exact absurd (RX (Q7 e) (Rj I.ok.bsz z)) (SS _)
 ·rcases QX.mp (I.stkSub b hb') with z | z
  ·exact(hf b hb).2.1 z
  ·exact(hf b hb).2.2.1 z
theorem Ja(S:bb X.env.scope X.N N' k fr scope)(I:ag X ZY σ H s)(hf:∀b∈fp,ik X ZY H b)(hlt:∀b∈fp,b < s.heap.objs.size){o:Obj}{h':Yw}(e':h'=pushCells (s.heap.push o) scope.names)
 (hn:h'.Ns s.heap.objs.size (λ_=>none))(hk:∀b o,s.heap.get? b=some o->h'.get? b=some o):
 ag (bF X scope N' fp s.heap.objs.size s H) [] (bB k fr σ) H {s with heap:=h'}:=by
 have hcl:=vo S I;refine⟨I0 S I hf hlt,rfl,I.bare,Un.kept hk,⟨_,hn,λi x v h1 h2 h3=>?_⟩,λx c e=>?_,I.hok.fresh (QQ _),λx c e=>?_,λp hp=>absurd hp (by simp [bF]),I.hok.kept hk,?_⟩
 ·have hi:k<=i:=by
   rcases S7 i k with z | z
   ·exfalso;unfold bB at h2;rw [RV (by simpa using z),T1,Yf z] at h2;cases h2
   ·exact z
  have h2':(fr.map λj=>(σ[j]?).join)[i - k]?=some (some v):=by
   unfold bB at h2;rw [Si (by simpa using hi)] at h2;simpa using h2
  have h1':(N'.drop k)[i - k]?=some x:=by
   rw [List.getElem?_drop,Nat.add_sub_cancel' hi];exact h1
  have hmem:x∈N'.drop k:=Rm h1';have e2:(fr.map λj=>X.N[j]?)[i - k]?=some (some x):=by
   rw [S.slot,Q1,h1'];rfl
  obtain⟨j,hj,ej⟩:∃j,fr[i - k]?=some j/\X.N[j]?=some x:=by
   rw [Q1] at e2;cases e:fr[i - k]? with
   | none=>rw [e] at e2;cases e2
   | some j=>rw [e] at e2;exact⟨j,rfl,RT e2⟩
  have hv:σ[j]?=some (some v):=by
   rw [Q1,hj] at h2';have h3':(σ[j]?).join=some v:=RT h2';cases e:σ[j]? with
   | none=>rw [e] at h3';cases h3'
   | some o=>rw [e] at h3';rw [show o=some v from h3']
  obtain⟨m,hn0,hl⟩:=I.loc;have ho:=S.outer' x hmem;obtain⟨u,ru,lk⟩:=hl j x v ej hv (.inr ho);refine⟨u,ru,.inr ⟨vg (.inr (S.frees x hmem)),?_⟩⟩;rcases lk with⟨z,_⟩ | ⟨_,c,hc,hx⟩
  ·exfalso;rcases ho with ho | ho
   ·exact absurd (z.symm.trans ho) Yh
   ·exact absurd (z.symm.trans ho) Yh
  ·obtain⟨c',hc'⟩:=ve (env:=X.env) scope.names [] (To (S.frees x hmem));have:=hcl x c' hc';rw [hc] at this;cases this;obtain⟨o,ho,hd⟩:=hx;exact⟨c,(vi _ λy hy ey ex=>by have q:=S.cell y hy ey;rw [ex,S.frees x hmem] at q;cases q).trans hc',o,hk c o ho,hd⟩
 ·subst e';have:=vk scope.names (h:=s.heap.push o) (a:=fO X.env scope.names []) (λx c e=>by
   obtain⟨v,q⟩:=I.cell x c (hcl x c e);exact⟨v,q.keeps λb o e=>QS _ e⟩) x c
  rw [Tw] at this;exact this e
 ·rcases BK S I e with z | z
  ·exact I.hok.fresh (TJ z)
  ·exact I.freeC x c z
 ·unfold bB;show _=N'.length;rw [Q2,Vw,QO,S.len]
end
section
variable {prog:Yu} {w:Yv} {A:Yz} {E:Yj->Ym->Prop} {R:Result->Ym->Prop} {s:Ym}
theorem Jb{elt target iter:Yr}{ifs:List Yr}{scope:YW}{pos:Pos}{it acc:Yj}{env:Env}(I:Nat->Ym->Prop)
 (turn:∀n s,I n s->Yo (Yq prog w) A (Zd it) (λr s₁=>match r with
  | none=>R (.ok .next) s₁
  | some v=>Yo (Yq prog w) A (ZG target it v) (λ_ s₁'=>Yo (Yq prog w) A (assign target env v) (λ_ s₂=>
   Yo (Yq prog w) A (forIn ifs true λc r=>if r=true then do let ok<-isTrue c env (eval c env);pure (UI ok) else pure (UI r)) (λok s₃=>
    if ok=true then Yo (Yq prog w) A (eval elt env) (λx s₄=>
     Yo (Yq prog w) A (call (.builtin "list.append") [acc,x]) (λ_ s₅=>∃m,m < n/\I m s₅) (λ_ _=>False) s₄) (λ_ _=>False) s₃
    else ∃m,m < n/\I m s₃) (λ_ _=>False) s₂) (λ_ _=>False) s₁') (λ_ _=>False) s₁) (λ_ _=>False) s)
 (n:Nat)(h:I n s):
 Zc (Yq prog w) A (.compLoop (.ListComp elt [⟨target,iter,ifs,0⟩] scope pos) 0 it acc env) R s:=by
 refine codeAny_loop rfl I (λn s hI=>?_) n h;show Yo _ A ((compTurn (.ListComp elt [⟨target,iter,ifs,0⟩] scope pos) 0 it acc env).onRaise (λx=>do noteFrame x env;theTreesLotGoes x)) _ _ s;refine wpAny_noted ?_;rw [compTurn_list];refine Yk (wpAny_standAt (Yk (YJ (turn n s hI) (λr s₁ h₁=>?_) λ_ _ h'=>h'.elim)));cases r with
 | none=>exact Yn h₁
 | some v=>
  refine Yk (YJ h₁ (λ_ s₁' h₁'=>?_) λ_ _ h'=>h'.elim);refine Yk (YJ h₁' (λ_ s₂ h₂=>Yk (YJ h₂ (λok s₃ h₃=>?_) λ_ _ h'=>h'.elim)) λ_ _ h'=>h'.elim);cases ok with
  | false=>exact Yn ⟨rfl,h₃⟩
  | true=>
   exact Yk (Yk (YJ h₃ (λx s₄ h₄=>Yk (YJ h₄ (λ_ s₅ h₅=>Yn (Yn ⟨rfl,h₅⟩)) λ_ _ h'=>h'.elim)) λ_ _ h'=>h'.elim))
end
def fu(X:Cx)(ifs:List Yr)(t:TT):Prop:=
 ∀(ZY:List (Yl×Obj))(s:Ym)(σ:St)(H:Hp)(Q:Bool->Hp->Prop),ag X ZY σ H s->t σ H Q->
  Yo (Yq X.prog X.w) X.A (forIn ifs true λc r=>if r=true then do let ok<-isTrue c X.env (eval c X.env);pure (UI ok) else pure (UI r)) (TP X ZY σ Q) X.xe s
def BL:TT:=λ_ H Q=>Q true H
theorem BM{X:Cx}:fu X [] BL:=λZY s σ H Q I h=>wpAny_tests_nil ⟨H,I,h⟩
theorem cZ{X:Cx}{c:Yr}{t:TT}(h:PT X c t):fu X [c] t:=λZY s σ H Q I hq=>wpAny_tests_one (h ZY s σ H Q I hq)
theorem bK.but{P:Yu}{w:Yv}{H:Hp}{h h':Yw}{C:Yl}(x:bK P w H h)(hC:H C=none)(k:∀b o,b≠C->h.get? b=some o->h'.get? b=some o):bK P w H h':=λa o e=>by
 refine(x a o e).stay (λb u hb q=>k b u ?_ q) (λ_ q=>q) λ_ _ q=>q;intro z;subst z;rcases hb with z | z
 ·rw [<-z,hC] at e;cases e
 ·rw [hC] at z;cases z
theorem Jc{M:Model}{A:Yz}{E:Yj->Ym->Prop}{s:Ym}{scope:YW}{g:Yl}{cl:List (Str×Yl)}{qual:Str}{e:Env}{Q:Env->Ym->Prop}
 (hQ:∀h',h'=pushCells (s.heap.push {cls:= .type "dict",data:= .dict #[]}) scope.names->h'.Ns s.heap.objs.size (λ_=>none)->(∀b o,s.heap.get? b=some o->h'.get? b=some o)->
  Q (newEnv scope s.heap.objs.size g (YR (s.heap.objs.size+1) scope.names cl) qual none .none (some e) builtinsNs) {s with heap:=h'}):
 Yo M A (newFunctionEnv scope g cl [] qual none .none (some e)) Q E s:=by
 simp only [newFunctionEnv,W6,if_true];refine Yk (wpAny_alloc (Yk (wpAny_layCells _ (λname kind cells=>by cases hkc:kind==Vr <;> simp [hkc]) _ _ _ _ ?_)));rw [show({s with heap:=s.heap.push {cls:= .type "dict",data:= .dict #[]}}:Ym).heap.objs.size=s.heap.objs.size+1 from Tw ..];rw [XI];exact Yk (Yn (Yn (hQ _ rfl ((Heap.Ns.new s.heap (.type "dict")).keeps (pushCells_keeps _ _)) λb o e=>pushCells_keeps _ _ b o (QS _ e))))
def lQ(wi:TI)(g:TG)(tc:TT)(te:TE)(k:Nat)(fr:List Nat):TE:=λσ H Q=>wi σ H λJ H1=>∀D,H1 D=none->∃W:Nat->Nat->Hp->Prop,(∃m,W 0 m (ah H1 D (.lst [])))/\∀i m H,W i m H->
 (J.stop i H/\Q (.ref D) H)\/(J.go i H/\∀x H',J.yld i H x H'->g x (bB k fr σ) H' λσ2 H2=>nR (bB k fr σ) σ2/\tc σ2 H2 λok H3=>
  if ok=true then te σ2 H3 λy H4=>∃ys,H4 D=some (.lst ys)/\ys.length < Yt/\∃m',m' < m/\W (i+1) m' (ah H4 D (.lst (ys++[y])))
  else ∃m',m' < m/\W (i+1) m' H3)
section
variable {X:Cx} {tg iter elt:Yr} {ifs:List Yr} {scope:YW} {N':List Str} {k:Nat} {fr:List Nat} {wi:TI} {g:TG} {tc:TT} {te:TE} {pos:Pos}
theorem BN{use:Option (Yj->Sem Unit)}{Q':Yj->Ym->Prop}{ZY:List (Yl×Obj)}{s:Ym}{σ:St}{H:Hp}{Q:VK}(hc:X.calm=true)(S:bb X.env.scope X.N N' k fr scope)(hi:PI X tg iter wi)
 (hg:∀fp C s H,PG (bF X scope N' fp C s H) tg g)(hf:∀fp C s H,fu (bF X scope N' fp C s H) ifs tc)(he:∀fp C s H,PE (bF X scope N' fp C s H) elt te)
 (I:ag X ZY σ H s)(h:lQ wi g tc te k fr σ H Q)
 (hQ:∀D C s' H',C≠X.env.locals->ag X ZY σ H' s'->(∀h',Tp C s'.heap h'->ag X ZY σ H' {s' with heap:=h'})->Q (.ref D) H'->(∃m,s'.heap.Ns C m)->X.env.locals < C->H' C=none/\(∀x c,X.env.cells.lookup x=some c->c≠C)/\(∀p∈X.pn++ZY,p.1≠C)->compPost (Yq X.prog X.w) X.A X.xe use Q' (.ref D) C (.ok .next) s'):
 Yo (Yq X.prog X.w) X.A (eval iter X.env) (λx s₁=>Yo (Yq X.prog X.w) X.A (pyIter x) (λit s₂=>Yo (Yq X.prog X.w) X.A (newList []) (λacc s₃=>
  Yo (Yq X.prog X.w) X.A (newFunctionEnv scope X.env.globals (fO X.env scope.names []) [] X.env.qual none .none (some X.env)) (λcenv s₄=>
   Zc (Yq X.prog X.w) X.A (.compStart (.ListComp elt [⟨tg,iter,ifs,0⟩] scope pos) 0 it acc {cenv with scope:=relabel scope X.env}) (compPost (Yq X.prog X.w) X.A X.xe use Q' acc cenv.locals) s₄) X.xe s₃) X.xe s₂) X.xe s₁) X.xe s:=by
 refine aB (hi ZY s σ H _ I h) λv s1 h1=>aB h1 λitv s2 h2=>?_;obtain⟨it,fp,tn,J,H2,e,I2,T,st2,f2,wW⟩:=h2;subst e;refine YE ?_;have hD0:H2 s2.heap.objs.size=none:=I2.hok.fresh (QQ _);obtain⟨W,⟨m0,w0⟩,turn⟩:=wW _ hD0;generalize hD:s2.heap.objs.size=D at*;have I3:ag X ZY σ (ah H2 D (.lst [])) {s2 with heap:=s2.heap.push {cls:= .type "list",dict:=none,data:= .seq ([]:List Yj).toArray}}:=by
  have:=I2.lnew (ys:=[]) (its:=[]) (t':=s2.toks) .nil (RD _);rw [hD] at this;exact this
 generalize hs3:({s2 with heap:=s2.heap.push {cls:= .type "list",dict:=none,data:= .seq ([]:List Yj).toArray}}:Ym)=s3 at*;have up23:∀b o,s2.heap.get? b=some o->s3.heap.get? b=some o:=λb o e=>by rw [<-hs3];exact QS _ e
 have fpD:∀b∈fp,b≠D:=λb hb z=>by
  obtain⟨o,ho,_⟩:=T.obj _ _ st2 b hb;have:=Q7 ho;rw [hD,z] at this;exact SS _ this
 have f3:∀b∈fp,ik X ZY (ah H2 D (.lst [])) b:=λb hb=>⟨by rw [az (fpD b hb)];exact(f2 b hb).1,(f2 b hb).2⟩;have st3:tn 0 s3.heap:=T.keep _ _ _ st2 λb hb o e=>up23 b o e;have lt3:∀b∈fp,b < s3.heap.objs.size:=λb hb=>by obtain⟨o,ho,_⟩:=T.obj _ _ st3 b hb;exact Q7 ho
 refine Jc λh₁ e₁ hns₁ up34=>?_;have I4:=Ja S I3 f3 lt3 e₁ hns₁ up34;have st4:tn 0 h₁:=T.keep _ _ _ st3 λb hb o e=>up34 b o e;generalize hX':bF X scope N' fp s3.heap.objs.size s3 (ah H2 D (.lst []))=X' at*;have hg':PG X' tg g:=by rw [<-hX'];exact hg _ _ _ _
 have hf':fu X' ifs tc:=by rw [<-hX'];exact hf _ _ _ _
 have he':PE X' elt te:=by rw [<-hX'];exact he _ _ _ _
 have eP:X'.prog=X.prog:=by rw [<-hX'];rfl
 have eW:X'.w=X.w:=by rw [<-hX'];rfl
 have eK:X'.K=X.K:=by rw [<-hX'];rfl
 have eA:X'.A=X.A:=by rw [<-hX'];rfl
 have eC:X'.calm=true:=by rw [<-hX'];exact hc
 have eE:X'.xe=λ_ _=>False:=by rw [<-hX'];rfl
 have eEnv:X'.env=compEnvC scope (sf X scope s3.heap.objs.size) s3.heap.objs.size X.env:=by rw [<-hX'];rfl
 have fpx:∀{H':Hp},(∀b∈fp,H' b=none)->∀b∈fp,ik X' [] H' b:=λ{H'} hn b hb=>by
  refine⟨hn b hb,?_,?_,.inl ?_,?_,?_⟩
  ·rw [eEnv];exact Rz (lt3 b hb)
  ·have:=I4.ok.exfs b (by rw [<-hX'];exact hb);exact this
  ·rw [<-hX'];exact hb
  ·have:=I4.ok.exf b (by rw [<-hX'];exact hb);exact this.2
  ·intro p hp;rw [<-hX'] at hp;simp [bF] at hp
 have fin:∀(s':Ym)(H':Hp)(σ':St),ag X' [] σ' H' s'->Q (.ref D) H'->compPost (Yq X.prog X.w) X.A X.xe use Q' (.ref D) s3.heap.objs.size (.ok .next) s':=λs' H' σ' J q=>by
  have un:Un (gi X.stack) fp (ah H2 D (.lst [])) H' s3.heap s'.heap:=by have:=J.base;rw [<-hX'] at this;exact this
  have jos:s'.os=s3.os:=by have:=J.os;rw [<-hX'] at this;exact this
  have hC:H' s3.heap.objs.size=none:=by have:=J.free;rw [eEnv] at this;exact this
  have hok':bK X.prog X.w H' s'.heap:=by have:=J.hok;rw [eP,eW] at this;exact this
  have eB:∀h',Tp s3.heap.objs.size s'.heap h'->ag X ZY σ H' {s' with heap:=h'}:=λh' hs'=>by
   have un':Un (gi X.stack) fp (ah H2 D (.lst [])) H' s3.heap h':=
    ⟨λb o e n h1 h2=>hs'.extBut b o (Rz (Q7 e)) (un.keep b o e n h1 h2),λb o e n h1 h2=>by
     obtain⟨sl,z⟩:=un.slot b o e n h1 h2;exact⟨sl,hs'.extBut b _ (Rz (Q7 e)) z⟩,un.free,λb o e h2=>by
     obtain⟨o',z⟩:=un.there b o e h2;exact⟨o',hs'.extBut b o' (Rz (Q7 e)) z⟩,un.tups,un.frzs,un.tbls⟩
   exact ag.call' (s':={s' with heap:=h'}) I3 jos un' (hok'.but hC hs'.extBut) J.bare λb hb=>⟨(f3 b hb).2.2.2.1,(f3 b hb).2.1,(f3 b hb).2.2.2.2.1,(f3 b hb).2.2.2.2.2⟩
  have nsC:∃m,s'.heap.Ns s3.heap.objs.size m:=by
   obtain⟨m,hn,_⟩:=J.loc;rw [eEnv] at hn;exact⟨m,hn⟩
  exact hQ D s3.heap.objs.size s' H' (TK I3.lt) (eB s'.heap (.refl ..)) eB q nsC I3.lt
   ⟨hC,λx c e=>by obtain⟨v,o,ho,_⟩:=I3.cell x c e;exact Rz (Q7 ho),λp hp=>Rz (Q7 (I3.pin p hp).1)⟩
 have loop:∀s4:Ym,s4=({s3 with heap:=h₁}:Ym)->
  Zc (Yq X.prog X.w) X.A (.compLoop (.ListComp elt [⟨tg,iter,ifs,0⟩] scope pos) 0 (.ref it) (.ref D) X'.env) (compPost (Yq X.prog X.w) X.A X.xe use Q' (.ref D) s3.heap.objs.size) s4:=by
  rintro s4 rfl;refine Jb (λn s'=>∃i H',ag X' [] (bB k fr σ) H' s'/\tn i s'.heap/\(∀b∈fp,H' b=none)/\W i n H') ?_ m0 ⟨0,_,I4,st4,λb hb=>(f3 b hb).1,w0⟩;rintro n s5 ⟨i,H5,I5,st5,fr5,w5⟩;rcases turn i n H5 w5 with⟨stop,qn⟩ | ⟨go,step⟩
  ·have:=T.done X' eP eW eK eC i [] s5 _ H5 (λ_ _=>False) I5 (fpx fr5) st5 stop;rw [eA] at this;refine aB this λr s6 ⟨hr,I6⟩=>?_;subst hr;exact fin s6 H5 _ I6 qn
  ·have:=T.item X' eP eW eK eC i [] s5 _ H5 (λ_ _=>False) I5 (fpx fr5) st5 go;rw [eA] at this;refine aB this λr s6 ⟨u,hr,h6⟩=>?_;subst hr;refine aB h6 λ_ s7 ⟨x,H7,I7,r7,y7,st7,fr7⟩=>?_;have I7':=I7.pinned (fpx fr7) (T.obj _ _ st7);have h8:=hg' _ s7 _ H7 x u _ I7' r7 (step x H7 y7);rw [eP,eW,eA,eE] at h8;refine aB h8 λ_ s8 ⟨σ8,H8,I8,kp,q8⟩=>?_;have h9:=hf' _ s8 σ8 H8 _ I8 q8;rw [eP,eW,eA,eE] at h9;have again:∀{s9:Ym}{H9:Hp}{n':Nat},ag X' ([]++qm fp s7.heap) σ8 H9 s9->n' < n->W (i+1) n' H9->∃m,m < n/\∃i H',ag X' [] (bB k fr σ) H' s9/\tn i s9.heap/\(∀b∈fp,H' b=none)/\W i m H':=λ{s9 H9 n'} I9 hn' w9=>by
    refine⟨n',hn',i+1,H9,I9.unpinned.weak kp.1 kp.2,T.keep _ _ _ st7 λb hb o e=>(I9.pin (b,o) (RR _ (RR _ (rK hb e)))).1,λb hb=>?_,w9⟩;obtain⟨o,e,d⟩:=T.obj _ _ st7 b hb;exact(I9.pin (b,o) (RR _ (RR _ (rK hb e)))).2.1
   refine aB h9 λok s9 ⟨H9,I9,q9⟩=>?_;cases ok with
   | false=>
    rw [Ye QV] at q9;obtain⟨m',hm',w9⟩:=q9;rw [Ye QV];exact again I9 hm' w9
   | true=>
    rw [Yf rfl] at q9;rw [Yf rfl];have h10:=he' _ s9 σ8 H9 _ I9 q9;rw [eP,eW,eA,eE] at h10;refine aB h10 λy s10 ⟨yv,H10,I10,r10,ys,hys,hz,m',hm',w10⟩=>?_;have h11:=BG (X:=X') _ s10 σ8 H10 (.ref D) [yv] (.ref D) [y] (λ_ H'=>W (i+1) m' H') I10 rfl (.cons r10 .nil) ⟨D,ys,yv,rfl,rfl,hys,hz,w10⟩;rw [eP,eW,eA,eE] at h11;exact aB h11 λ_ s11 uu62=>by obtain⟨_,H11,I11,_,q11⟩:=uu62;exact again I11 hm' q11
 have hE:({newEnv scope s3.heap.objs.size X.env.globals (sf X scope s3.heap.objs.size) X.env.qual none .none (some X.env) builtinsNs with scope:=relabel scope X.env}:Env)=X'.env:=by
  rw [eEnv];rfl
 have goal:=codeAny_compStart_list (elt:=elt) (target:=tg) (iter:=iter) (ifs:=ifs) (rest:=[]) (scope:=scope) (pos:=pos) (loop _ rfl) (T.self X.A 0 _ _ _ st4 (loop _ rfl));rw [<-hE] at goal;exact goal
theorem sh(hc:X.calm=true)(S:bb X.env.scope X.N N' k fr scope)(hi:PI X tg iter wi)
 (hg:∀fp C s H,PG (bF X scope N' fp C s H) tg g)(hf:∀fp C s H,fu (bF X scope N' fp C s H) ifs tc)(he:∀fp C s H,PE (bF X scope N' fp C s H) elt te)
 (hs:∀x,YA iter X.env x=pure x:=by intro _;rfl):PE X (.ListComp elt [⟨tg,iter,ifs,0⟩] scope pos) (lQ wi g tc te k fr):=by
 intro ZY s σ H Q I h;have hcell:∀y∈scope.names,y.2= .free->∃c,X.env.cells.lookup y.1=some c:=λy hy e=>I.ok.has y.1 (S.outer y hy e);rw [eval_ListComp];refine ZV (use:=none) rfl hs (BJ hcell) S.kind S.names (BN hc S hi hg hf he I h ?_);intro D C s' H' hC J eB q ns hlt _;obtain⟨m,hn⟩:=ns;exact⟨m,hn,λh' hs'=>⟨.ref D,H',eB h' hs',rfl,q⟩⟩
theorem Jd{i:Nat}{x:Str}{pos' spos:Pos}(hN:X.N.Nodup)(hxi:X.N[i]?=some x)(hx:gW X.env.scope x)(hc:X.calm=true)(S:bb X.env.scope X.N N' k fr scope)(hi:PI X tg iter wi)
 (hg:∀fp C s H,PG (bF X scope N' fp C s H) tg g)(hf:∀fp C s H,fu (bF X scope N' fp C s H) ifs tc)(he:∀fp C s H,PE (bF X scope N' fp C s H) elt te)
 (hsw:YD (.ListComp elt [⟨tg,iter,ifs,0⟩] scope pos) (some (.Name x pos')) spos.line X.env=pure true)
 (hs:∀x,YA iter X.env x=pure x:=by intro _;rfl)(hfn:X.fn x=true\/X.env.scope.names.lookup x=some .local:=by first | exact .inl rfl | exact .inr rfl | assumption):
 PS X (.Assign [.Name x pos'] (.ListComp elt [⟨tg,iter,ifs,0⟩] scope pos) spos) (qh (lQ wi g tc te k fr) (i5 i)):=by
 intro ZY s σ H D I h;have hcell:∀y∈scope.names,y.2= .free->∃c,X.env.cells.lookup y.1=some c:=λy hy e=>I.ok.has y.1 (S.outer y hy e);rw [exec_Assign_Name_used _ _ _ _ hsw];refine Yk (wpAny_standAt (Yk ?_));show Yo _ X.A (do let _<-comprehension (.ListComp elt [⟨tg,iter,ifs,0⟩] scope pos) scope X.env _ (newList []) false (eval iter X.env) (some (assign (.Name x pos') X.env))) _ _ s;refine Yk (YJ (ZV (use:=some (assign (.Name x pos') X.env)) (Q:=λ_ s'=>∃σ' H',ag X ZY σ' H' s'/\D.nx σ' H') rfl hs (BJ hcell) S.kind S.names (BN hc S hi hg hf he I h ?_)) (λ_ s' hq=>Yn (Yn hq)) λ_ _ e=>e);intro D' C s' H' hC J eB q ns hlt ⟨c1,c2,c3⟩;obtain⟨m,hn⟩:=ns;show Yo _ X.A (assign (.Name x pos') X.env (.ref D')) _ _ _;refine wpAny_assign_Name (AE J hN hxi hx (v:= .ref D') rfl (λs2 J2 sb=>?_) hfn);obtain⟨a,sb,ha⟩:=sb;have hCa:C≠a:=by
  rcases ha with z | z
  ·rw [z];exact hC
  ·exact Ne.symm (c2 _ _ z)
 refine⟨m,hn.sameBut sb hCa,λh3 hs3=>⟨_,H',?_,q⟩⟩;exact J2.turned (t':=s2.toks) hs3.extBut c1 hC (.inr (Rj J.ok.above (TJ hlt))) c2 c3
end
section
variable {X:Cx}
theorem BO(hc:X.calm=true):d7 X (.builtin "sum") (λxs H Q=>∃(a:Yl)(ns:List Int),xs=[.ref a]/\bo X.K H a (ns.map V.int)/\Q (.int ns.sum) H):=by
 intro ZY s σ H xs us Q I r h;obtain⟨a,ns,rfl,hl,q⟩:=h;obtain⟨u,rfl,rx⟩:=fo r;cases rx;obtain⟨its,rv,p,hz⟩:=I.list hl;have hi:YK its ns:=Iu rv;have hall:AllInts its.toArray:=hi.allInts;obtain⟨ys,hys⟩:=hall.items;have hn:numsOf its.toArray.toList=ns:=by rw [show its.toArray.toList=its from rfl,hi.numsOf]
 rw [hys,nums_intItems] at hn;have hl':=p.isList;rw [hys] at hl';refine sum_intListG (I.ok.hd hc) hl' λh' tk t' hk=>?_;refine⟨.int ns.sum,H,I.kept hk,⟨t',?_⟩,q⟩;rw [preSum_eq,Rl Yh,hn]
end
end _L
namespace Att
open PySem PySem.W PySem.Calls PyProof.Rows
theorem Je{ns:List Int}(h:Xs [Wb (ns.map UH)]=true):∀n∈ns,Su n<=1048576:=by
 have h1:(Wb (ns.map UH)).layable=true:=by simpa [Xs] using h
 have h2:(Wb (ns.map UH)).weight<=1048576:=(PySem.W.layableW_iff.mp h1).2.2;have key:∀l:List Int,∀n∈l,Su n<=U3 (l.map UH):=by
  intro l
  induction l with
  | nil=>intro n hn;simp at hn
  | cons x r ih=>
   intro n hn;have e:U3 ((x::r).map UH)=Su x+1+U3 (r.map UH):=by
    rw [QR,U3,XX];rfl
   rw [e];rcases QX.mp hn with z | z
   ·subst z;omega
   ·have:=ih n z;omega
 intro n hn;have e:(Wb (ns.map UH)).weight=U3 (ns.map UH):=by rw [XX]
 rw [e] at h2;exact Rj (key ns n hn) h2
theorem attach_callB{l:OpenLaw}{n:Nat}{q:Yu}{loose:List Str}{XP:(Str->Option Yj)->Yw->Prop}{YP:Yv->Yw->Prop}{d:DefRec}
 (hn:l.most=some n)(hdf:d.params.defaults=[])
 (call:∀(w:Yv) (s₀ s₁:Ym) (mg mb:Str->Option Yj) (fa:Yl) (o:Obj) (pm cd doc:Yj) (a:Yl) (vs:List Yj) (ns:List Int),
  Ground q loose [] XP w s₀ mg mb s₁.heap->YP w s₁.heap->
  s₁.heap.get? fa=some o->o.data= .func (docDef d.name d.params d.body d.scope pm cd doc)->s₁.heap.CodeRec cd d.name->mg d.name=some (.ref fa)->
  s₁.heap.get? a=some {cls:= .type "list",data:= .seq vs.toArray}->YK vs ns->ns.length<=n->(∀z∈ns,Su z<=1048576)->s₁.gens=#[]->
  Zc (Yq l.prog w) callerA (.call (.ref fa) ⟨[.ref a],[]⟩) (λr s'=>r= .ok (.ret (.bool true))/\OldK s₁.heap s'.heap/\s'.os=s₁.os/\ZC s'.gens) s₁):
 WalkO q loose XP YP l.row.toRowW d [] (λf vs=>XB f vs):=by
 intro w s₀ s₁ mg mb G Y fa o pm cd doc dV kV ho hd hcd hD hmg hg args vals as hpre hlay hrd hwl hlo;obtain rfl:dV= .none:=Dflts.none hD hdf;obtain rfl:kV= .none:=Dflts.noKw hD;obtain⟨a,vs,ns,rfl,rfl,hobj,hints,hlen⟩:=IW hn hpre hwl;have hb:∀z∈ns,Su z<=1048576:=Je hlay;refine enter_call (Y9 (call w s₀ s₁ mg mb fa o pm cd doc a vs ns G Y ho (fd_plain hd) hcd hmg hobj hints hlen hb hg) λr s' hq=>?_);obtain⟨rfl,h2,h3,h4⟩:=hq;exact⟨.inl ⟨.bool true,.bool true,[],rfl,λ_=>rfl,.bool true,IX l _,λ_=>⟨List.Pairwise.nil,λ_ hm=>(nomatch hm)⟩⟩,h2,h3,h4⟩
end Att
namespace _L
open PySem PySem.Spec PyProof.Rows
theorem Jf{l:XC}{n k:Nat}{q:Yu}{loose:List Str}{XP:(Str->Option Yj)->Yw->Prop}{YP:Yv->Yw->Prop}{d:DefRec}{K:Params->QN}{CX:Yv->eZ}{sp:Yv->Sp}{x:Str}
 (hn:l.most=some n)(hn2:n<=Yt)(hdf:d.params.defaults=[])(hr:bp k callerA)
 (hY:∀(w:Yv) (h:Yw),YP w h->(K w.params).In h)
 (F:∀(w:Yv) (mg:Str->Option Yj) (fa:Yl) (h:Yw),(K w.params).In h->h.Ns Yy mg->mg d.name=some (.ref fa)->
  ∃fd:Ys,(∀(s:Ym) (u:Yj),BindsTo s fd ⟨[u],[]⟩ [(x,u)])/\
   ∀base:Yw,(K w.params).In base->base.Ns Yy mg->aA l.prog w (K w.params) mg base (CX w) k fa fd [x] (sp w))
 (hsp:∀(w:Yv) (H:Hp) (a:Yl) (ns:List Int),ns.length<=n->(∀z∈ns,Su z<=1048576)->sd H->bo (K w.params) H a (ns.map V.int)->sp w [.ref a] H (λv _=>v= .bl true) λ_ _ _=>False)
 (hCX:∀(w:Yv) (H:Hp) (s:Ym) (e:Yj) (s':Ym),CX w [] H s (λ_ _ _=>False) e s'->False):
 XO q loose XP YP l.row.toRowW d [] (λf vs=>XB f vs):=by
 refine Att.attach_callB hn hdf λw s₀ s₁ mg mb fa o pm cd doc a vs ns G Y ho hd hcd hmg hobj hints hlen hb hg=>?_;have KX:=hY w _ Y;obtain⟨fd,hbi,hF⟩:=F w mg fa _ KX G.T.g hmg;exact IY KX G.T.g G.T.b G.T.builtins G.T.nolimit hg hobj hints (Rj hlen hn2) hr hF hbi (λH hO hS=>hsp w H a ns hlen hb hO hS) λH e s'=>hCX w H s₁ e s'
theorem walk_ofBK{l:XC}{n k:Nat}{q:Yu}{loose:List Str}{XP:(Str->Option Yj)->Yw->Prop}{YP:Yv->Yw->Prop}{d:DefRec}{K:Params->QN}{CX:eZ}{sp:QN->Sp}{x:Str}
 (hn:l.most=some n)(hn2:n<=Yt)(hdf:d.params.defaults=[])(hr:bp k callerA)
 (hY:∀(w:Yv) (h:Yw),YP w h->(K w.params).In h)
 (F:∀(w:Yv) (mg:Str->Option Yj) (fa:Yl) (h:Yw),(K w.params).In h->h.Ns Yy mg->mg d.name=some (.ref fa)->
  ∃fd:Ys,(∀(s:Ym) (u:Yj),BindsTo s fd ⟨[u],[]⟩ [(x,u)])/\
   ∀base:Yw,(K w.params).In base->base.Ns Yy mg->aA l.prog w (K w.params) mg base CX k fa fd [x] (sp (K w.params)))
 (hsp:∀(K:QN) (H:Hp) (a:Yl) (ns:List Int),ns.length<=n->(∀z∈ns,Su z<=1048576)->sd H->bo K H a (ns.map V.int)->sp K [.ref a] H (λv _=>v= .bl true) λ_ _ _=>False)
 (hCX:∀(H:Hp) (s:Ym) (e:Yj) (s':Ym),CX [] H s (λ_ _ _=>False) e s'->False):
 XO q loose XP YP l.row.toRowW d [] (λf vs=>XB f vs):=
 Jf (K:=K) (CX:=λ_=>CX) (sp:=λw=>sp (K w.params)) hn hn2 hdf hr hY F (λw H a ns h1 hb h2 h3=>hsp (K w.params) H a ns h1 hb h2 h3) λ_ H s e s'=>hCX H s e s'
def oX(p:Yl)(H H':Hp):Prop:=∀b o,H b=some o->b≠p->H' b=some o
theorem au.new{H:Hp}{p:Yl}{o:HO}(h:H p=none):au H (ah H p o):=λb u e=>by rw [az (dY e h)];exact e
def FR(J:It)(g:TG)(tb:TS)(D:i3)(σ:St)(H1:Hp):Prop:=∃W:Nat->Nat->St->Hp->Prop,(∃m,W 0 m σ H1)/\∀i m σ H,W i m σ H->
 (J.stop i H/\D.nx σ H)\/(J.go i H/\∃N:St->Hp->Prop,(∀σ' H',N σ' H'->∃m',m' < m/\W (i+1) m' σ' H')/\∀x H',J.yld i H x H'->g x σ H' λσ2 H2=>tb {D with nx:=N,ct:=N,bk:=D.nx} σ2 H2)
theorem Jg{ta:TA}{g:TG}{tb:TS}:qj (uO ta) g tb=λD σ H=>ta σ H λvs H1=>∃j:Int,vs=[.int j]/\-(2 ^ 62)<=j/\j < 2 ^ 62/\FR (i6 0 j.toNat) g tb D σ H1:=rfl
theorem Jh{ta:TA}{g:TG}{tb:TS}:qj (uP ta) g tb=λD σ H=>ta σ H λvs H1=>∃i j:Int,vs=[.int i,.int j]/\(-(2 ^ 62)<=i/\i < 2 ^ 62/\-(2 ^ 62)<=j/\j < 2 ^ 62)/\FR (i6 i (j - i).toNat) g tb D σ H1:=rfl
theorem Ji{K:QN}{tl:TE}{g:TG}{tb:TS}:qj (uL K tl) g tb=λD σ H=>tl σ H λx H1=>∃a,x= .ref a/\(∃xs,bo K H1 a xs)/\FR (oR K a) g tb D σ H1:=rfl
theorem Jj{K:QN}{tl:TE}{g:TG}{tb:TS}:qj (uM K tl) g tb=λD σ H=>tl σ H λx H1=>∃a,x= .ref a/\(∃xs,aZ K H1 a xs)/\FR (qi K a) g tb D σ H1:=rfl
def nS(J:It)(g:TG)(tc:TT)(te:TE)(k:Nat)(fr:List Nat)(σ:St)(H1:Hp)(Q:VK):Prop:=∀D,H1 D=none->∃W:Nat->Nat->Hp->Prop,(∃m,W 0 m (ah H1 D (.lst [])))/\∀i m H,W i m H->
 (J.stop i H/\Q (.ref D) H)\/(J.go i H/\∀x H',J.yld i H x H'->g x (bB k fr σ) H' λσ2 H2=>nR (bB k fr σ) σ2/\tc σ2 H2 λok H3=>
  if ok=true then te σ2 H3 λy H4=>∃ys,H4 D=some (.lst ys)/\ys.length < Yt/\∃m',m' < m/\W (i+1) m' (ah H4 D (.lst (ys++[y])))
  else ∃m',m' < m/\W (i+1) m' H3)
theorem Jk{ta:TA}{g:TG}{tc:TT}{te:TE}{k:Nat}{fr:List Nat}:lQ (uO ta) g tc te k fr=λσ H Q=>ta σ H λvs H1=>∃j:Int,vs=[.int j]/\-(2 ^ 62)<=j/\j < 2 ^ 62/\nS (i6 0 j.toNat) g tc te k fr σ H1 Q:=rfl
theorem Jl{ta:TA}{g:TG}{tc:TT}{te:TE}{k:Nat}{fr:List Nat}:lQ (uP ta) g tc te k fr=λσ H Q=>ta σ H λvs H1=>∃i j:Int,vs=[.int i,.int j]/\(-(2 ^ 62)<=i/\i < 2 ^ 62/\-(2 ^ 62)<=j/\j < 2 ^ 62)/\nS (i6 i (j - i).toNat) g tc te k fr σ H1 Q:=rfl
theorem Jm{K:QN}{tl:TE}{g:TG}{tc:TT}{te:TE}{k:Nat}{fr:List Nat}:lQ (uL K tl) g tc te k fr=λσ H Q=>tl σ H λx H1=>∃a,x= .ref a/\(∃xs,bo K H1 a xs)/\nS (oR K a) g tc te k fr σ H1 Q:=rfl
theorem Jn{K:QN}{tl:TE}{g:TG}{tc:TT}{te:TE}{k:Nat}{fr:List Nat}:lQ (uM K tl) g tc te k fr=λσ H Q=>tl σ H λx H1=>∃a,x= .ref a/\(∃xs,aZ K H1 a xs)/\nS (qi K a) g tc te k fr σ H1 Q:=rfl
theorem BP{fr:List Nat}{σ:St}{v:Option V}:nR (bB 1 fr σ) ((bB 1 fr σ).set 0 v):=by
 refine⟨Yh,λi w h=>?_⟩;cases i with
 | zero=>simp [bB,Q8] at h
 | succ i=>simpa [bB,Q8] using h
theorem Jo{lo:Int}{n:Nat}{te:TE}{fr:List Nat}{σ:St}{H:Hp}{Q:VK}(f:Nat->V)(hn:n<=1000000)
 (ht:∀(i:Nat) (H':Hp) (R:VK),i < n->au H H'->(∀H'',au H' H''->R (f i) H'')->te ((bB 1 fr σ).set 0 (some (.int (lo+i)))) H' R)
 (hq:∀D H',H D=none->au H H'->H' D=some (.lst ((SE n).map f))->Q (.ref D) H'):nS (i6 lo n) (i5 0) BL te 1 fr σ H Q:=by
 intro D hD;refine⟨λi m H'=>m=n - i/\i<=n/\au H H'/\H' D=some (.lst ((SE i).map f)),⟨n,Yh,RD _,au.new hD,by rw [bq];rfl⟩,?_⟩;rintro i m H1 ⟨rfl,hi,s1,e1⟩;by_cases hlt:i < n
 ·refine .inr ⟨hlt,λx H' y=>?_⟩;obtain⟨e,y⟩:=y;subst e y;refine⟨BP,?_⟩;show te _ _ _;refine ht i H' _ hlt s1 λH2 s2=>?_;refine⟨_,s2 D _ e1,?_,n - (i+1),Yd,rfl,hlt,?_,?_⟩
  ·rw [QO,UP,YM];omega
  ·exact λb o h=>by rw [az (dY h hD)];exact s2 b o (s1 b o h)
  ·rw [bq,WB,Rf];rfl
 ·have e:i=n:=Yd
  subst e;exact .inl ⟨QQ _,hq D H1 hD s1 e1⟩
theorem cxK{CX:eZ}{P:Yu}{w:Yv}{K:QN}{mg:Str->Option Yj}{base:Yw}{N:List Str}{qual:Str}{scope:YW}{f:Yl}{cd:Yj}{A:Yz}{outer:List Env}{s:Ym}{H:Hp}{E:XK}:(iu CX P w K mg base N qual scope f cd A outer s H E).K=K:=rfl
theorem cmK{X:Cx}{scope:YW}{N':List Str}{fp:List Yl}{C:Yl}{s:Ym}{H:Hp}:(bF X scope N' fp C s H).K=X.K:=rfl
theorem jb{K:QN}{p:Yl}{xs:List V}{i:Int}{v:V}{H:Hp}{Q:VK}(h:aZ K H p xs)(hv:atI xs i=some v)(q:Q v H):rX K (.ref p) (.int i) H Q:=⟨p,xs,i,v,rfl,rfl,h,hv,q⟩
theorem qw{α:Type}{xs:List α}{i:Int}(h0:0<=i)(h1:i < xs.length):∃v,atI xs i=some v/\v∈xs:=by
 obtain⟨j,rfl⟩:=SO h0;have hj:j < xs.length:=Yd
 exact⟨xs[j],fM (by simp [hj]),S8 hj⟩
theorem BQ{a b:Int}:(if b < a then b else a)=min a b:=by
 by_cases h:b < a
 ·rw [Yf h];omega
 ·rw [Ye h];omega
theorem Jp:YI "divmod"=some (.builtin "divmod"):=Yb
theorem qx:YI "int"=some (.type "int"):=Yb
theorem fP:YI "tuple"=some (.type "tuple"):=Yb
theorem Jq:YI "list"=some (.type "list"):=Yb
open PySem PySem.Spec PyProof.Rows PySem.W
section
variable {M:Model} {A:Yz} {E:Yj->Ym->Prop}
variable {nm q:Str} {C N:Yl} {bs bm:List Yj} {hdct:Bool} {sn:List Str} {sub:List Yj} {ab:Bool} {col:Option Bool} {dd:Option Yl} {k0 k1 k2 k3 k5:Option Yj} {newId:String}
variable {nm' q':Str} {C' N':Yl} {bs' bm':List Yj} {hdct':Bool} {sn':List Str} {sub':List Yj} {ab':Bool} {col':Option Bool} {dd':Option Yl} {k0' k1' k2' k3' k5':Option Yj} {newId':String}
end
section
variable {X:Cx}
theorem Jr{bs:List Bool}{its:List Yj}(r:aI (bs.map V.bl) its):its=bs.map UC:=by
 induction bs generalizing its with
 | nil=>cases r;rfl
 | cons b bs ih=>
  rw [QR] at r;cases r with
  | cons r1 r2=>
   rw [QR,<-ih r2];exact congrArg (·::_) r1
theorem Js(bs:List Bool)(f:Nat->Bool)(h:∀i,i < bs.length->f i=bs.getD i true):(SE bs.length).any f=bs.any id:=by
 rw [UG,T2,T2];constructor
 ·rintro⟨i,hi,z⟩;have hi:=WH.mp hi;rw [h i hi,UZ,Rv hi] at z;exact⟨_,S8 hi,z⟩
 ·rintro⟨b,hb,z⟩;obtain⟨i,hi,e⟩:=VG hb;refine⟨i,WH.mpr hi,?_⟩;rw [h i hi,UZ,Rv hi];show bs[i]=true;rw [e];exact z
theorem Jt{bs:List Bool}{i:Nat}{v:Yj}(h:(bs.map UC).toArray[i]?=some v):v= .bool (bs.getD i true):=by
 have h':(bs.map UC)[i]?=some v:=by simpa using h
 rw [Q1] at h';cases e:bs[i]? with
 | none=>rw [e] at h';cases h'
 | some b=>
  rw [e] at h';rw [UZ,e];exact(RT h').symm
theorem Ju{prog:Yu}{w:Yv}{A:Yz}{E:Yj->Ym->Prop}{s:Ym}{l:Yl}{items:Array Yj}{Q:Yj->Ym->Prop}(hl:s.heap.IsList l items)
 (h:∀s₂:Ym,s₂={s with heap:=s.heap.push {cls:= .type "list_iterator",data:= .fields #[.ref l,.int 0 0]}}->
  (s₂.heap.IsListIter s.heap.objs.size l 0/\s₂.heap.IsList l items)->l≠s.heap.objs.size->Q (.ref s.heap.objs.size) s₂):Yo (Yq prog w) A (pyIter (.ref l)) Q E s:=by
 have hlt:l < s.heap.objs.size:=by obtain⟨_,e,_⟩:=hl;exact Q7 e
 exact ZT hl (h _ rfl ⟨⟨_,Rb _ rfl,rfl,rfl⟩,hl.push _⟩ (Rz hlt))
theorem vp(hc:X.calm=true):d7 X (.builtin "any") (λxs H Q=>∃(a:Yl)(bs:List Bool),xs=[.ref a]/\bo X.K H a (bs.map V.bl)/\Q (.bl (bs.any id)) H):=by
 intro ZY s σ H xs us Q I r h;obtain⟨a,bs,rfl,hl,q⟩:=h;obtain⟨u,rfl,rx⟩:=fo r;cases rx;obtain⟨its,rv,p,hz⟩:=I.list hl;have hi:=Jr rv;subst hi;refine call_any_walk (Ju p.isList λs₂ e st hlI=>?_);subst e;refine⟨_,_,_,_,_,_,λi=>bs.getD i true,rfl,X9 (A:=X.A.in1) (I.ok.hd hc) _ a hlI _,st,λi v s' Q' E' hP hq=>by rw [Jt hP];exact YT hq,λh' tk hk=>?_⟩;have e:=Js bs (λi=>bs.getD i true) λ_ _=>rfl;have e2:(RU UC bs).toArray.size=bs.length:=Yh
 rw [e2,e];exact⟨.bl (bs.any id),H,I.kept (old_kept hk),rfl,q⟩
end
open PySem PySem.Spec PyProof.Rows PySem.W PySem.Calls PySem.Builtin.ObjectAttr PySem.Builtin PySem.Builtin.Getset_descriptor
section
variable {X:Cx}
abbrev cy(d:Yi):Prop:=Tq d=true
end
theorem vq:YI "any"=some (.builtin "any"):=Yb
def Jv(p:Yl)(h:Yw):Prop:=∃(n:Int)(t:Tok)(k:Nat),h.get? p=some {cls:= .type "list",data:= .seq #[.int n t] k}
abbrev Jw(p:Yl):HO:= .ext (Jv p)
abbrev Jx:Yi:= .dict [(.none,.none)]
def Jy(p:Yl)(h:Yw):Prop:=∃(a b c:Int)(t u v:Tok)(k:Nat),h.get? p=some {cls:= .type "list",data:= .seq #[.int a t,.int b u,.int c v] k}
abbrev Jz(p:Yl):HO:= .ext (Jy p)
abbrev JA:Yi:= .dict [(.none,.bool true)]
abbrev fQ(ds:List Yi):Yi:= .dict [(.none,.list ds)]
abbrev fx(C:Yl)(kp ds:List Yi):Yi:= .dict [(.none,.tuple [.int (C:Int),.list kp,.list ds])]
abbrev BR(kp ds:List Yi):Yi:= .dict [(.bool true,.tuple [.list kp,.list ds])]
abbrev Ex:=Yl->Prop
abbrev sj:Hp:=λ_=>none
mutual
inductive Dt (K:QN) (H:Hp) (O:Ex):V->Yi->Prop
 | non:Dt K H O .non .none
 | bl (b:Bool):Dt K H O (.bl b) (.bool b)
 | int (i:Int):Dt K H O (.int i) (.int i)
 | str (x:Str):Dt K H O (.str x) (.str x)
 | tup {a:Yl} {xs:List V} {ds:List Yi}:Rd H a (.tup xs)->¬O a->ai K H O xs ds->Dt K H O (.ref a) (.tuple ds)
 | tupK {a:Yl} {xs:List V} {ds:List Yi}:aZ K sj a xs->ai K H O xs ds->Dt K H O (.ref a) (.tuple ds)
 | lst {a:Yl} {xs:List V} {ds:List Yi}:Rd H a (.lst xs)->¬O a->ai K H O xs ds->Dt K H O (.ref a) (.list ds)
 | pack {p:Yl}:H p=some (Jw p)->¬O p->Dt K H O (.ref p) Jx
 | purse {p:Yl}:H p=some (Jz p)->¬O p->Dt K H O (.ref p) JA
 | dct0 {a:Yl}:H a=some (.dK [])->¬O a->Dt K H O (.ref a) (.dict [])
 | obj {a C dx:Yl} {fs:List (Str×V)} {kp ds:List Yi}:H a=some (.ins C dx fs)->kp=fs.map (λp=>QU p.1)->¬O a->ai K H O (fs.map (·.2)) ds->Dt K H O (.ref a) (fx C kp ds)
 | dic {a:Yl} {ob:Obj} {kv:List (aq×V)} {ks:List Str} {kp ds:List Yi}:H a=some (.frz ob (.dK kv))->kv.map (·.1)=ks.map Sn->kp=ks.map QU->¬O a->ai K H O (kv.map (·.2)) ds->Dt K H O (.ref a) (BR kp ds)
 | scr {a:Yl} {xs:List V} {ds:List Yi}:(Rd H a (.lst xs)/\¬O a)\/bo K sj a xs->ai K H O xs ds->Dt K H O (.ref a) (fQ ds)
inductive ai (K:QN) (H:Hp) (O:Ex):List V->List Yi->Prop
 | nil:ai K H O [] []
 | cons {v:V} {d:Yi} {vs:List V} {ds:List Yi}:Dt K H O v d->ai K H O vs ds->ai K H O (v::vs) (d::ds)
end
theorem Rd.same{H H':Hp}{a:Yl}{u:HO}(s:∀o,H a=some o->H' a=some o)(h:Rd H a u):Rd H' a u:=by
 rcases h with h | ⟨o,h⟩
 ·exact .inl (s _ h)
 ·exact .inr ⟨o,s _ h⟩
theorem Rd.trk{H:Hp}{a:Yl}{u:HO}(h:Rd H a u):H a≠none:=by
 rcases h with h | ⟨o,h⟩ <;> rw [h] <;> exact λz=>nomatch z
section
variable {K:QN}
structure aH (H H':Hp) (O O':Ex):Prop where
 keep:∀b o,H b=some o->¬O b->H' b=some o
 out:∀b,H b≠none->¬O b->¬O' b
mutual
theorem Dt.step{H H':Hp}{O O':Ex}(S:aH H H' O O'):∀{v:V}{d:Yi},Dt K H O v d->Dt K H' O' v d
 | _,_,.non=>.non
 | _,_,.bl b=>.bl b
 | _,_,.int i=>.int i
 | _,_,.str x=>.str x
 | _,_,.tup h n r=>.tup (h.same λo e=>S.keep _ o e n) (S.out _ h.trk n) (ai.step S r)
 | _,_,.tupK h r=>.tupK h (ai.step S r)
 | _,_,.lst h n r=>.lst (h.same λo e=>S.keep _ o e n) (S.out _ h.trk n) (ai.step S r)
 | _,_,.pack h n=>.pack (S.keep _ _ h n) (S.out _ (by rw [h];exact λz=>nomatch z) n)
 | _,_,.purse h n=>.purse (S.keep _ _ h n) (S.out _ (by rw [h];exact λz=>nomatch z) n)
 | _,_,.dct0 h n=>.dct0 (S.keep _ _ h n) (S.out _ (by rw [h];exact λz=>nomatch z) n)
 | _,_,.obj h e n r=>.obj (S.keep _ _ h n) e (S.out _ (by rw [h];exact λz=>nomatch z) n) (ai.step S r)
 | _,_,.dic h e1 e2 n r=>.dic (S.keep _ _ h n) e1 e2 (S.out _ (by rw [h];exact λz=>nomatch z) n) (ai.step S r)
 | _,_,.scr h r=>.scr (h.imp (λh=>⟨h.1.same λo e=>S.keep _ o e h.2,S.out _ h.1.trk h.2⟩) id) (ai.step S r)
theorem ai.step{H H':Hp}{O O':Ex}(S:aH H H' O O'):∀{vs:List V}{ds:List Yi},ai K H O vs ds->ai K H' O' vs ds
 | _,_,.nil=>.nil
 | _,_,.cons h r=>.cons (Dt.step S h) (ai.step S r)
end
theorem aH.same{H H':Hp}{O:Ex}(s:au H H'):aH H H' O O:=⟨λb o e _=>s b o e,λ_ _ n=>n⟩
theorem Dt.mono{H H':Hp}{O:Ex}{v:V}{d:Yi}(s:au H H')(h:Dt K H O v d):Dt K H' O v d:=h.step (.same s)
theorem ai.mono{H H':Hp}{O:Ex}{v:List V}{d:List Yi}(s:au H H')(h:ai K H O v d):ai K H' O v d:=h.step (.same s)
theorem ai.length{H:Hp}{O:Ex}:∀{vs:List V}{ds:List Yi},ai K H O vs ds->vs.length=ds.length
 | _,_,.nil=>rfl
 | _,_,.cons _ r=>by rw [Q0,Q0,ai.length r]
theorem ai.get{H:Hp}{O:Ex}:∀{vs:List V}{ds:List Yi}{i:Nat}{v:V},ai K H O vs ds->vs[i]?=some v->∃d,ds[i]?=some d/\Dt K H O v d
 | _,_,_,_,.nil,e=>by simp at e
 | _,_,0,_,.cons h _,e=>by simp at e;subst e;exact⟨_,rfl,h⟩
 | _,_,i+1,_,.cons _ r,e=>by simpa using ai.get (i:=i) r (by simpa using e)
theorem ai.getD{H:Hp}{O:Ex}:∀{vs:List V}{ds:List Yi}{i:Nat}{d:Yi},ai K H O vs ds->ds[i]?=some d->∃v,vs[i]?=some v/\Dt K H O v d
 | _,_,_,_,.nil,e=>by simp at e
 | _,_,0,_,.cons h _,e=>by simp at e;subst e;exact⟨_,rfl,h⟩
 | _,_,i+1,_,.cons _ r,e=>by simpa using ai.getD (i:=i) r (by simpa using e)
theorem ai.append{H:Hp}{O:Ex}:∀{vs ws:List V}{ds es:List Yi},ai K H O vs ds->ai K H O ws es->ai K H O (vs++ws) (ds++es)
 | _,_,_,_,.nil,s=>s
 | _,_,_,_,.cons h r,s=>.cons h (ai.append r s)
theorem ai.take{H:Hp}{O:Ex}:∀{vs:List V}{ds:List Yi}(n:Nat),ai K H O vs ds->ai K H O (vs.take n) (ds.take n)
 | _,_,0,_=>.nil
 | _,_,_+1,.nil=>.nil
 | _,_,n+1,.cons h r=>.cons h (ai.take n r)
theorem ai.drop{H:Hp}{O:Ex}:∀{vs:List V}{ds:List Yi}(n:Nat),ai K H O vs ds->ai K H O (vs.drop n) (ds.drop n)
 | _,_,0,r=>r
 | _,_,_+1,.nil=>.nil
 | _,_,n+1,.cons _ r=>ai.drop n r
theorem ai.ints{H:Hp}{O:Ex}:∀(ns:List Int),ai K H O (ns.map V.int) (ns.map Rq)
 | []=>.nil
 | n::r=>.cons (.int n) (ai.ints r)
inductive Sh (K:QN) (H:Hp) (O:Ex):V->Yi->Prop
 | dt {v:V} {d:Yi}:Dt K H O v d->Sh K H O v d
 | own {l:Yl} {vs:List V} {ds:List Yi}:H l=some (.lst vs)->ai K H O vs ds->Sh K H O (.ref l) (.list ds)
theorem Sh.mono{H H':Hp}{O:Ex}{v:V}{d:Yi}(s:au H H'):Sh K H O v d->Sh K H' O v d
 | .dt h=>.dt (h.mono s)
 | .own h r=>.own (s _ _ h) (r.mono s)
theorem Dt.all{H:Hp}{O:Ex}{v:V}{d:Yi}(h:Dt K H O v d):Dt K H (λ_=>False) v d:=h.step ⟨λ_ _ e _=>e,λ_ _ _ z=>z⟩
theorem ai.all{H:Hp}{O:Ex}{v:List V}{d:List Yi}(h:ai K H O v d):ai K H (λ_=>False) v d:=h.step ⟨λ_ _ e _=>e,λ_ _ _ z=>z⟩
theorem Sh.all{H:Hp}{O:Ex}{v:V}{d:Yi}:Sh K H O v d->Dt K H (λ_=>False) v d
 | .dt h=>h.all
 | .own h r=>.lst (.inl h) (λz=>z) r.all
theorem aZ.of0{H:Hp}{a:Yl}{xs:List V}(h:aZ K sj a xs):aZ K H a xs:=by
 rcases h with(h | ⟨o,h⟩) | h
 ·cases h
 ·cases h
 ·exact .inr h
theorem bo.of0{H:Hp}{a:Yl}{xs:List V}(h:bo K sj a xs):bo K H a xs:=by
 rcases h with(h | ⟨o,h⟩) | h
 ·cases h
 ·cases h
 ·exact .inr h
theorem Sh.tup{H:Hp}{O:Ex}{v:V}{ds:List Yi}(h:Sh K H O v (.tuple ds)):∃a xs,v= .ref a/\aZ K H a xs/\ai K H O xs ds:=by
 cases h with
 | dt h=>
  cases h with
  | tup h _ r=>exact⟨_,_,rfl,.inl h,r⟩
  | tupK h r=>exact⟨_,_,rfl,h.of0,r⟩
theorem Sh.lstR{H:Hp}{O:Ex}{v:V}{ds:List Yi}(h:Sh K H O v (.list ds)):∃a xs,v= .ref a/\Rd H a (.lst xs)/\ai K H O xs ds:=by
 cases h with
 | dt h=>
  cases h with
  | lst h _ r=>exact⟨_,_,rfl,h,r⟩
 | own h r=>exact⟨_,_,rfl,.inl h,r⟩
theorem Sh.lst{H:Hp}{O:Ex}{v:V}{ds:List Yi}(h:Sh K H O v (.list ds)):∃a xs,v= .ref a/\bo K H a xs/\ai K H O xs ds:=by
 obtain⟨a,xs,e,h,r⟩:=h.lstR;exact⟨a,xs,e,.inl h,r⟩
theorem Sh.scr{H:Hp}{O:Ex}{v:V}{ds:List Yi}(h:Sh K H O v (fQ ds)):∃a xs,v= .ref a/\bo K H a xs/\ai K H O xs ds:=by
 cases h with
 | dt h=>
  cases h with
  | scr h r=>
   rcases h with h | h
   ·exact⟨_,_,rfl,.inl h.1,r⟩
   ·exact⟨_,_,rfl,h.of0,r⟩
theorem Sh.int{H:Hp}{O:Ex}{v:V}{i:Int}(h:Sh K H O v (.int i)):v= .int i:=by cases h with | dt h=>cases h;rfl
theorem Sh.bl{H:Hp}{O:Ex}{v:V}{i:Bool}(h:Sh K H O v (.bool i)):v= .bl i:=by cases h with | dt h=>cases h;rfl
theorem Sh.str{H:Hp}{O:Ex}{v:V}{i:Str}(h:Sh K H O v (.str i)):v= .str i:=by cases h with | dt h=>cases h;rfl
theorem Sh.non{H:Hp}{O:Ex}{v:V}(h:Sh K H O v .none):v= .non:=by cases h with | dt h=>cases h;rfl
end
section
variable {X:Cx} {ZY:List (Yl×Obj)} {σ:St} {H:Hp} {s:Ym}
mutual
theorem iw(I:ag X ZY σ H s){O:Ex}:∀{v:V}{d:Yi}{u:Yj},Dt X.K H O v d->d.canLay0=true->aJ v u->∃as,Reads s.heap u d as
 | _,_,_,.non,_,r=>by cases r;exact⟨_,Reads.none⟩
 | _,_,_,.bl b,_,r=>by cases r;exact⟨_,Reads.bool b⟩
 | _,_,_,.int i,_,r=>by obtain⟨t,rfl⟩:=r;exact⟨_,Reads.int i t⟩
 | _,_,_,.str x,_,r=>by obtain⟨t,rfl⟩:=r;exact⟨_,Reads.str x t⟩
 | _,_,_,.tup h _ hs,c,r=>by
  cases r;obtain⟨its,rv,⟨o,e,c',n,dd⟩,_⟩:=I.tuple (.inl h);obtain⟨as,q⟩:=sk I hs (by simpa [RK] using c) rv;exact⟨as,reads_tuple_at e c' dd (by simpa using q)⟩
 | _,_,_,.tupK h hs,c,r=>by
  cases r;obtain⟨its,rv,⟨o,e,c',n,dd⟩,_⟩:=I.tuple h.of0;obtain⟨as,q⟩:=sk I hs (by simpa [RK] using c) rv;exact⟨as,reads_tuple_at e c' dd (by simpa using q)⟩
 | _,_,_,.lst h _ hs,c,r=>by
  cases r;obtain⟨its,rv,⟨o,n,e,c',_,dd⟩,_⟩:=I.list (.inl h);obtain⟨as,q⟩:=sk I hs (by simpa [RK] using c) rv;exact⟨_,reads_list_at e c' dd (by simpa using q)⟩
 | _,_,_,.pack _ _,c,_=>by simp [RK] at c
 | _,_,_,.purse _ _,c,_=>by simp [RK] at c
 | _,_,_,.dct0 _ _,c,_=>by simp [RK] at c
 | _,_,_,.obj _ _ _ _,c,_=>by simp [RK] at c
 | _,_,_,.dic _ _ _ _ _,c,_=>by simp [RK] at c
 | _,_,_,.scr _ _,c,_=>by simp [RK] at c
theorem sk(I:ag X ZY σ H s){O:Ex}:∀{vs:List V}{ds:List Yi}{us:List Yj},ai X.K H O vs ds->Sx ds=true->aI vs us->∃as,ReadsAll s.heap us ds as
 | _,_,_,.nil,_,r=>by cases r;exact⟨_,ReadsAll.nil⟩
 | _,_,_,.cons h hs,c,r=>by
  rw [Sx,RW] at c;cases r with
  | cons r1 r2=>
   obtain⟨as,q⟩:=iw I h c.1 r1;obtain⟨bs,p⟩:=sk I hs c.2 r2;exact⟨_,ReadsAll.cons q p⟩
end
end
inductive Sl where
 | v (d:Yi)
 | o (ds:List Yi)
 | k (kd:List (aq×Yi))
 | i (l C:Yl) (fd:List (Str×Yi))
 | r (l C g u:Yl) (fd:List (Str×Yi)) (gd ud:List (aq×Yi))
 | b (ds:List Yi)
abbrev Dl:=List (Option Sl)
inductive bC (K:QN) (H:Hp) (O:Ex):List (aq×V)->List (aq×Yi)->Prop
 | nil:bC K H O [] []
 | cons {k:aq} {v:V} {d:Yi} {r:List (aq×V)} {s:List (aq×Yi)}:Dt K H O v d->bC K H O r s->bC K H O ((k,v)::r) ((k,d)::s)
theorem bC.step{K:QN}{H H':Hp}{O O':Ex}(S:aH H H' O O'){r:List (aq×V)}{s:List (aq×Yi)}(h:bC K H O r s):bC K H' O' r s:=by
 induction h with
 | nil=>exact .nil
 | cons a _ ih=>exact .cons (a.step S) ih
theorem bC.mono{K:QN}{H H':Hp}{O:Ex}(S:au H H'){r:List (aq×V)}{s:List (aq×Yi)}(h:bC K H O r s):bC K H' O r s:=h.step (.same S)
def ix(K:QN)(H:Hp)(O:Ex)(fs:List (Str×V))(fd:List (Str×Yi)):Prop:=fs.map (·.1)=fd.map (·.1)/\ai K H O (fs.map (·.2)) (fd.map (·.2))
def Sl.own:Sl->Prop
 | .v _=>False
 | .b _=>False
 | _=>True
abbrev cb:Str:=QM "gone"
abbrev c0:Str:=QM "used"
def vt(K:QN)(H:Hp)(O0 O:Ex)(l C g u:Yl)(fd:List (Str×Yi))(gd ud:List (aq×Yi)):Prop:=∃dx fs og ou gv uv,H l=some (.ins C dx (fs++[(cb,.ref g),(c0,.ref u)]))/\ix K H O fs fd/\g≠u/\
 (O g/\¬O0 g/\H g=some (.frz og (.dK gv))/\bC K H O gv gd)/\(O u/\¬O0 u/\H u=some (.frz ou (.dK uv))/\bC K H O uv ud)
def g8(K:QN)(H:Hp)(O0 O:Ex)(x:Option V):Option Sl->Prop
 | none=>True
 | some (.v d)=>∃v,x=some v/\Dt K H O v d
 | some (.o ds)=>∃l vs,x=some (.ref l)/\O l/\¬O0 l/\H l=some (.lst vs)/\ai K H O vs ds
 | some (.k kd)=>∃l kv,x=some (.ref l)/\O l/\¬O0 l/\H l=some (.dK kv)/\bC K H O kv kd
 | some (.i l C fd)=>∃dx fs,x=some (.ref l)/\O l/\¬O0 l/\H l=some (.ins C dx fs)/\ix K H O fs fd
 | some (.r l C g u fd gd ud)=>x=some (.ref l)/\O l/\¬O0 l/\vt K H O0 O l C g u fd gd ud
 | some (.b ds)=>∃l vs,x=some (.ref l)/\O0 l/\H l=some (.lst vs)/\ai K H O vs ds
structure Wd (K:QN) (H0:Hp) (O0:Ex) (H:Hp) (O:Ex) (σ:St) (δ:Dl):Prop where
 same:au H0 H
 sub:∀l,O0 l->O l
 new:∀l,O l->O0 l\/H0 l=none
 trk:∀l,O l->H l≠none
 len:σ.length=δ.length
 sl:∀(i:Nat) y,δ[i]?=some y->g8 K H O0 O ((σ[i]?).join) y
 dis:∀(i j:Nat) y z l,δ[i]?=some (some y)->y.own->δ[j]?=some (some z)->z.own->σ[i]?=some (some (.ref l))->σ[j]?=some (some (.ref l))->i=j
section
variable {K:QN} {H0 H H':Hp} {O0 O:Ex} {σ:St} {δ:Dl}
theorem g8.mono{x:Option V}{y:Option Sl}(s:au H H')(h:g8 K H O0 O x y):g8 K H' O0 O x y:=by
 match y,h with
 | none,_=>exact Tg
 | some (.v d),⟨v,e,r⟩=>exact⟨v,e,r.mono s⟩
 | some (.o ds),⟨l,vs,e,a,b,c,r⟩=>exact⟨l,vs,e,a,b,s _ _ c,r.mono s⟩
 | some (.k ds),⟨l,vs,e,a,b,c,r⟩=>exact⟨l,vs,e,a,b,s _ _ c,r.mono s⟩
 | some (.i l C ds),⟨dx,vs,e,a,b,c,r1,r2⟩=>exact⟨dx,vs,e,a,b,s _ _ c,r1,r2.mono s⟩
 | some (.r l C g u fd gd ud),⟨e,a,b,dx,fs,og,ou,gv,uv,c,⟨r1,r2⟩,ne,⟨g1,g2,g3,g4⟩,u1,u2,u3,u4⟩=>exact⟨e,a,b,dx,fs,og,ou,gv,uv,s _ _ c,⟨r1,r2.mono s⟩,ne,⟨g1,g2,s _ _ g3,g4.mono s⟩,u1,u2,s _ _ u3,u4.mono s⟩
 | some (.b ds),⟨l,vs,e,a,c,r⟩=>exact⟨l,vs,e,a,s _ _ c,r.mono s⟩
theorem g8.go{O':Ex}{x:Option V}{y:Option Sl}(h:g8 K H O0 O x y)(S:aH H H' O O')(kp:∀l o,y.any (λz=>match z with | .v _=>false | .b _=>false | _=>true)=true->x=some (.ref l)->O l->¬O0 l->H l=some o->O' l/\H' l=some o)
 (kp2:∀a o u,O a->¬O0 a->H a=some (.frz o u)->O' a/\H' a=some (.frz o u))(kp3:∀a o,O0 a->H a=some o->H' a=some o):g8 K H' O0 O' x y:=by
 match y,h with
 | none,_=>exact Tg
 | some (.v d),⟨v,e,r⟩=>exact⟨v,e,r.step S⟩
 | some (.o ds),⟨l,vs,e,a,b,c,r⟩=>exact⟨l,vs,e,(kp l _ rfl e a b c).1,b,(kp l _ rfl e a b c).2,r.step S⟩
 | some (.k ds),⟨l,vs,e,a,b,c,r⟩=>exact⟨l,vs,e,(kp l _ rfl e a b c).1,b,(kp l _ rfl e a b c).2,r.step S⟩
 | some (.i l C ds),⟨dx,vs,e,a,b,c,r1,r2⟩=>exact⟨dx,vs,e,(kp l _ rfl e a b c).1,b,(kp l _ rfl e a b c).2,r1,r2.step S⟩
 | some (.r l C g u fd gd ud),⟨e,a,b,dx,fs,og,ou,gv,uv,c,⟨r1,r2⟩,ne,⟨g1,g2,g3,g4⟩,u1,u2,u3,u4⟩=>exact⟨e,(kp l _ rfl e a b c).1,b,dx,fs,og,ou,gv,uv,(kp l _ rfl e a b c).2,⟨r1,r2.step S⟩,ne,⟨(kp2 _ _ _ g1 g2 g3).1,g2,(kp2 _ _ _ g1 g2 g3).2,g4.step S⟩,(kp2 _ _ _ u1 u2 u3).1,u2,(kp2 _ _ _ u1 u2 u3).2,u4.step S⟩
 | some (.b ds),⟨l,vs,e,a,c,r⟩=>exact⟨l,vs,e,a,kp3 _ _ a c,r.step S⟩
theorem Wd.mono(s:au H H')(w:Wd K H0 O0 H O σ δ):Wd K H0 O0 H' O σ δ:=
 ⟨w.same.trans s,w.sub,w.new,λl h z=>(by
  cases e:H l with
  | none=>exact w.trk l h e
  | some o=>rw [s _ _ e] at z;cases z),w.len,λi y e=>(w.sl i y e).mono s,w.dis⟩
theorem fy{i:Nat}{v:V}(h:(σ[i]?).join=some v):σ[i]?=some (some v):=by
 cases q:σ[i]? with
 | none=>rw [q] at h;cases h
 | some o=>rw [q] at h;rw [show o=some v from h]
theorem Wd.val(w:Wd K H0 O0 H O σ δ){i:Nat}{d:Yi}(e:δ[i]?=some (some (.v d))):∃v,σ[i]?=some (some v)/\Dt K H O v d:=by
 obtain⟨v,h,r⟩:=w.sl i _ e;exact⟨v,fy h,r⟩
theorem Wd.own(w:Wd K H0 O0 H O σ δ){i:Nat}{ds:List Yi}(e:δ[i]?=some (some (.o ds))):∃l vs,σ[i]?=some (some (.ref l))/\O l/\¬O0 l/\H l=some (.lst vs)/\ai K H O vs ds:=by
 obtain⟨l,vs,h,r⟩:=w.sl i _ e;exact⟨l,vs,fy h,r⟩
theorem Wd.ownK(w:Wd K H0 O0 H O σ δ){i:Nat}{kd:List (aq×Yi)}(e:δ[i]?=some (some (.k kd))):∃l kv,σ[i]?=some (some (.ref l))/\O l/\¬O0 l/\H l=some (.dK kv)/\bC K H O kv kd:=by
 obtain⟨l,vs,h,r⟩:=w.sl i _ e;exact⟨l,vs,fy h,r⟩
theorem Wd.ownI(w:Wd K H0 O0 H O σ δ){i:Nat}{l C:Yl}{fd:List (Str×Yi)}(e:δ[i]?=some (some (.i l C fd))):∃dx fs,σ[i]?=some (some (.ref l))/\O l/\¬O0 l/\H l=some (.ins C dx fs)/\ix K H O fs fd:=by
 obtain⟨dx,vs,h,r⟩:=w.sl i _ e;exact⟨dx,vs,fy h,r⟩
theorem Wd.adr(w:Wd K H0 O0 H O σ δ){i:Nat}{y:Sl}(e:δ[i]?=some (some y))(h:y.own):∃l,σ[i]?=some (some (.ref l))/\O l/\¬O0 l:=by
 match y,h,e with
 | .o ds,_,e=>obtain⟨l,vs,a,b,c,_⟩:=w.own e;exact⟨l,a,b,c⟩
 | .k ds,_,e=>obtain⟨l,vs,a,b,c,_⟩:=w.ownK e;exact⟨l,a,b,c⟩
 | .i l C ds,_,e=>obtain⟨dx,vs,a,b,c,_⟩:=w.ownI e;exact⟨l,a,b,c⟩
 | .r l C g u fd gd ud,_,e=>obtain⟨a,b,c,_⟩:=w.sl i _ e;exact⟨l,fy a,b,c⟩
theorem Wd.nofrz(w:Wd K H0 O0 H O σ δ){i:Nat}{y:Sl}{l:Yl}(e:δ[i]?=some (some y))(h:y.own)(hl:σ[i]?=some (some (.ref l)))(o:Obj)(u:HO):H l≠some (.frz o u):=by
 match y,h,e with
 | .o ds,_,e=>obtain⟨l',vs,a,b,c,d,_⟩:=w.own e;rw [hl] at a;cases a;rw [d];exact λz=>nomatch z
 | .k ds,_,e=>obtain⟨l',vs,a,b,c,d,_⟩:=w.ownK e;rw [hl] at a;cases a;rw [d];exact λz=>nomatch z
 | .i l C ds,_,e=>obtain⟨dx,vs,a,b,c,d,_⟩:=w.ownI e;rw [hl] at a;cases a;rw [d];exact λz=>nomatch z
 | .r l C g u fd gd ud,_,e=>obtain⟨a,b,c,_,_,_,_,_,_,d,_⟩:=w.sl i _ e;have a:=fy a;rw [hl] at a;cases a;rw [d];exact λz=>nomatch z
theorem Wd.set(w:Wd K H0 O0 H O σ δ){i:Nat}{v:V}{d:Yi}(h:Dt K H O v d):Wd K H0 O0 H O (σ.set i (some v)) (δ.set i (some (.v d))):=by
 refine⟨w.same,w.sub,w.new,w.trk,by simp [w.len],λj y e=>?_,λj k y z l e1 y1 e2 z2 e3 e4=>?_⟩
 ·by_cases hj:j=i
  ·subst hj;have hl:j < δ.length:=by
    have:=(QZ.mp e).1;simpa using this
   rw [Rk hl] at e;cases e;rw [Rk (by rw [w.len];exact hl)];exact⟨v,rfl,h⟩
  ·rw [Q6 (Ne.symm hj)] at e⊢;exact w.sl j y e
 ·have ne:∀{j:Nat}{y:Sl},(δ.set i (some (.v d)))[j]?=some (some y)->y.own->j≠i:=λ{j y} e ho z=>by
   subst z;by_cases hl:j < δ.length
   ·rw [Rk hl] at e;cases e;exact ho
   ·rw [Sv (by simpa using hl)] at e;cases e
  have n1:=ne e1 y1;have n2:=ne e2 z2;rw [Q6 (Ne.symm n1)] at e1 e3;rw [Q6 (Ne.symm n2)] at e2 e4;exact w.dis j k y z l e1 y1 e2 z2 e3 e4
theorem Wd.setY(w:Wd K H0 O0 H O σ δ){i:Nat}{p:Yl}{ho:HO}{y0:Sl}(hy:y0.own)(hp:H p=none)(h:∀O',aH H (ah H p ho) O O'->O' p->¬O0 p->g8 K (ah H p ho) O0 O' (some (.ref p)) (some y0)):
 Wd K H0 O0 (ah H p ho) (λl=>O l\/l=p) (σ.set i (some (.ref p))) (δ.set i (some y0)):=by
 have sm:au H (ah H p ho):=au.new hp;have np:∀l,O l->l≠p:=λl hl z=>w.trk l hl (by rw [z];exact hp);have p0:H0 p=none:=by
  cases e:H0 p with
  | none=>rfl
  | some o=>rw [w.same _ _ e] at hp;cases hp
 have S:aH H (ah H p ho) O (λl=>O l\/l=p):=⟨λb o e _=>sm b o e,λb hb hn z=>z.elim hn λq=>hb (by rw [q];exact hp)⟩;have n0:¬O0 p:=λz=>np p (w.sub p z) rfl;refine⟨w.same.trans sm,λl z=>.inl (w.sub l z),λl z=>z.elim (w.new l) λq=>.inr (by rw [q];exact p0),λl z=>?_,by simp [w.len],λj y e=>?_,λj k y z l e1 y1 e2 z2 e3 e4=>?_⟩
 ·by_cases q:l=p
  ·rw [q,bq];exact λz=>nomatch z
  ·rw [az q];exact w.trk l (z.resolve_right q)
 ·by_cases hj:j=i
  ·subst hj;have hl:j < δ.length:=by
    have:=(QZ.mp e).1;simpa using this
   rw [Rk hl] at e;cases e;rw [Rk (by rw [w.len];exact hl)];exact h _ S (.inr rfl) n0
  ·rw [Q6 (Ne.symm hj)] at e⊢;exact(w.sl j y e).go S (λl o _ _ a _ c=>⟨.inl a,sm _ _ c⟩) (λa o u a1 _ a3=>⟨.inl a1,sm _ _ a3⟩) λa o _ a3=>sm _ _ a3
 ·by_cases hj:j=i
  ·by_cases hk:k=i
   ·rw [hj,hk]
   ·exfalso;rw [hj] at e1 e3;have hl:i < σ.length:=by
     have:=(QZ.mp e3).1;simpa using this
    rw [Rk hl] at e3;cases e3;rw [Q6 (Ne.symm hk)] at e2 e4;obtain⟨l',x1,x2,_⟩:=w.adr e2 z2;rw [e4] at x1;cases x1;exact np _ x2 rfl
  ·by_cases hk:k=i
   ·exfalso;rw [hk] at e2 e4;have hl:i < σ.length:=by
     have:=(QZ.mp e4).1;simpa using this
    rw [Rk hl] at e4;cases e4;rw [Q6 (Ne.symm hj)] at e1 e3;obtain⟨l',x1,x2,_⟩:=w.adr e1 y1;rw [e3] at x1;cases x1;exact np _ x2 rfl
   ·rw [Q6 (Ne.symm hj)] at e1 e3;rw [Q6 (Ne.symm hk)] at e2 e4;exact w.dis j k _ _ l e1 y1 e2 z2 e3 e4
theorem Wd.setO(w:Wd K H0 O0 H O σ δ){i:Nat}{p:Yl}{vs:List V}{ds:List Yi}(hp:H p=none)(h:ai K H O vs ds):
 Wd K H0 O0 (ah H p (.lst vs)) (λl=>O l\/l=p) (σ.set i (some (.ref p))) (δ.set i (some (.o ds))):=
 w.setY trivial hp λO' S a b=>⟨p,vs,rfl,a,b,bq,h.step S⟩
theorem Wd.setK(w:Wd K H0 O0 H O σ δ){i:Nat}{p:Yl}{kv:List (aq×V)}{kd:List (aq×Yi)}(hp:H p=none)(h:bC K H O kv kd):
 Wd K H0 O0 (ah H p (.dK kv)) (λl=>O l\/l=p) (σ.set i (some (.ref p))) (δ.set i (some (.k kd))):=
 w.setY trivial hp λO' S a b=>⟨p,kv,rfl,a,b,bq,h.step S⟩
theorem Wd.putY(w:Wd K H0 O0 H O σ δ){i:Nat}{l:Yl}{ho:HO}{y0 y1:Sl}(h0:y0.own)(h1:y1.own)(e:δ[i]?=some (some y0))(hl:σ[i]?=some (some (.ref l)))(h:aH H (ah H l ho) O O->O l->¬O0 l->g8 K (ah H l ho) O0 O (some (.ref l)) (some y1)):
 Wd K H0 O0 (ah H l ho) O σ (δ.set i (some y1)):=by
 obtain⟨l',x1,x2,x3⟩:=w.adr e h0;rw [hl] at x1;cases x1;have l0:H0 l=none:=(w.new l x2).resolve_left x3;have S:aH H (ah H l ho) O O:=⟨λb o q n=>by rw [az (λz=>n (by rw [z];exact x2))];exact q,λ_ _ n=>n⟩;have li:i < δ.length:=(QZ.mp e).1;refine⟨λb o q=>by rw [az (λz=>by rw [z,l0] at q;cases q)];exact w.same b o q,w.sub,w.new,λb z=>?_,by simp [w.len],λj y q=>?_,λj k y z b e1 y1' e2 z2 e3 e4=>?_⟩
 ·by_cases q:b=l
  ·rw [q,bq];exact λz=>nomatch z
  ·rw [az q];exact w.trk b z
 ·by_cases hj:j=i
  ·subst hj;rw [Rk li] at q;cases q;rw [hl];exact h S x2 x3
  ·rw [Q6 (Ne.symm hj)] at q;refine(w.sl j y q).go S (λb o ho' e' a1 a2 a3=>⟨a1,?_⟩) (λb o u a1 a2 a3=>⟨a1,by rw [az (λz=>w.nofrz e h0 hl o u (by rw [<-z];exact a3))];exact a3⟩) λb o a1 a3=>by rw [az (λz=>x3 (by rw [<-z];exact a1))];exact a3
   have nb:b≠l:=λz=>by
    subst z
    match y,ho',q with
    | some z,ho',q=>exact hj (w.dis j i z y0 b q (by cases z <;> first | trivial | cases ho') e h0 (fy e') hl)
   rw [az nb];exact a3
 ·have eB:∀{j:Nat}{y:Sl},(δ.set i (some y1))[j]?=some (some y)->y.own->∃y',δ[j]?=some (some y')/\y'.own:=λ{j y} q hq=>by
   by_cases hj:j=i
   ·subst hj;exact⟨_,e,h0⟩
   ·rw [Q6 (Ne.symm hj)] at q;exact⟨_,q,hq⟩
  obtain⟨_,q1,r1⟩:=eB e1 y1';obtain⟨_,q2,r2⟩:=eB e2 z2;exact w.dis j k _ _ b q1 r1 q2 r2 e3 e4
theorem Wd.putO(w:Wd K H0 O0 H O σ δ){i:Nat}{l:Yl}{vs us:List V}{ds es:List Yi}(e:δ[i]?=some (some (.o ds)))(hl:σ[i]?=some (some (.ref l)))(h:ai K H O us es):
 Wd K H0 O0 (ah H l (.lst us)) O σ (δ.set i (some (.o es))):=
 w.putY (y0:= .o ds) (y1:= .o es) trivial trivial e hl λS a b=>⟨l,us,rfl,a,b,bq,h.step S⟩
theorem Wd.putK(w:Wd K H0 O0 H O σ δ){i:Nat}{l:Yl}{kv:List (aq×V)}{kd kd':List (aq×Yi)}(e:δ[i]?=some (some (.k kd)))(hl:σ[i]?=some (some (.ref l)))(h:bC K H O kv kd'):
 Wd K H0 O0 (ah H l (.dK kv)) O σ (δ.set i (some (.k kd'))):=
 w.putY (y0:= .k kd) (y1:= .k kd') trivial trivial e hl λS a b=>⟨l,kv,rfl,a,b,bq,h.step S⟩
end
abbrev DT:=Dl->(Yi->Prop)->Prop
abbrev DA:=Dl->(List Yi->Prop)->Prop
abbrev DB:=Dl->(Bool->Prop)->Prop
structure fz where
 nx:Dl->Prop
 rt:Yi->Prop
 bk:Dl->Prop:=λ_=>False
 ct:Dl->Prop:=λ_=>False
abbrev DS:=fz->Dl->Prop
section
variable (K:QN) (H0:Hp) (O0:Ex)
def up(t:DT):TE:=λσ H R=>∃O δ Qd,Wd K H0 O0 H O σ δ/\t δ Qd/\∀d v H',Qd d->au H H'->Dt K H' O v d->R v H'
def vv(t:DT):TE:=λσ H R=>∃O δ Qd,Wd K H0 O0 H O σ δ/\t δ Qd/\∀d v H',Qd d->au H H'->Sh K H' O v d->R v H'
def gA(t:DA):TA:=λσ H R=>∃O δ Qd,Wd K H0 O0 H O σ δ/\t δ Qd/\∀ds vs H',Qd ds->au H H'->ai K H' O vs ds->R vs H'
def bV(t:DB):TT:=λσ H R=>∃O δ Qd,Wd K H0 O0 H O σ δ/\t δ Qd/\∀b H',Qd b->au H H'->R b H'
def bh(t:DS):TS:=λD σ H=>∃O δ E,Wd K H0 O0 H O σ δ/\t E δ/\(∀O' δ' σ' H',E.nx δ'->Wd K H0 O0 H' O' σ' δ'->aH H H' O O'->D.nx σ' H')/\(∀d v H',E.rt d->au H0 H'->Dt K H' O0 v d->D.rt v H')/\
 (∀O' δ' σ' H',E.bk δ'->Wd K H0 O0 H' O' σ' δ'->aH H H' O O'->D.bk σ' H')/\(∀O' δ' σ' H',E.ct δ'->Wd K H0 O0 H' O' σ' δ'->aH H H' O O'->D.ct σ' H')
end
theorem PE.imp{X:Cx}{e:Yr}{t u:TE}(h:PE X e t)(i:∀σ H Q,u σ H Q->t σ H Q):PE X e u:=λZY s σ H Q I z=>h ZY s σ H Q I (i σ H Q z)
theorem PT.imp{X:Cx}{e:Yr}{t u:TT}(h:PT X e t)(i:∀σ H Q,u σ H Q->t σ H Q):PT X e u:=λZY s σ H Q I z=>h ZY s σ H Q I (i σ H Q z)
theorem PW.imp{X:Cx}{e:Yr}{t u:TT}(h:PW X e t)(i:∀σ H Q,u σ H Q->t σ H Q):PW X e u:=λwh ZY s σ H Q I z=>h wh ZY s σ H Q I (i σ H Q z)
theorem PA.imp{X:Cx}{e:List Yr}{t u:TA}(h:PA X e t)(i:∀σ H Q,u σ H Q->t σ H Q):PA X e u:=λpos ZY s σ H Q I z=>h pos ZY s σ H Q I (i σ H Q z)
theorem PS.imp{X:Cx}{e:Yx}{t u:TS}(h:PS X e t)(i:∀D σ H,u D σ H->t D σ H):PS X e u:=λZY s σ H D I z=>h ZY s σ H D I (i D σ H z)
theorem bP.imp{X:Cx}{e:List Yx}{t u:TS}(h:bP X e t)(i:∀D σ H,u D σ H->t D σ H):bP X e u:=λZY s σ H D I z=>h ZY s σ H D I (i D σ H z)
section
variable {X:Cx} {H0:Hp} {O0:Ex}
abbrev DE(X:Cx)(H0:Hp)(O0:Ex)(e:Yr)(t:DT):Prop:=PE X e (up X.K H0 O0 t)
abbrev DF(X:Cx)(H0:Hp)(O0:Ex)(e:Yr)(t:DT):Prop:=PE X e (vv X.K H0 O0 t)
theorem df{e:Yr}{t:DT}(h:DE X H0 O0 e t):DF X H0 O0 e t:=h.imp λσ H Q uu63=>by obtain⟨O,δ,Qd,w,q,k⟩:=uu63;exact⟨O,δ,Qd,w,q,λd v H' a b c=>k d v H' a b (.dt c)⟩
def vw(Q:Yi->Prop):Option (Option Sl)->Prop
 | some (some (.v d))=>Q d
 | _=>False
def b0(i:Nat):DT:=λδ Q=>vw Q δ[i]?
theorem BS{Q:Yi->Prop}{o:Option (Option Sl)}:vw Q o↔∃d,o=some (some (.v d))/\Q d:=by
 constructor
 ·intro h
  match o,h with
  | some (some (.v d)),h=>exact⟨d,rfl,h⟩
 ·rintro⟨d,rfl,h⟩;exact h
theorem JB{i:Nat}{δ:Dl}{Q:Yi->Prop}(h:b0 i δ Q):∃d,δ[i]?=some (some (.v d))/\Q d:=BS.mp h
def jH(i:Nat):DT:=λδ Q=>∃ds,δ[i]?=some (some (.o ds))/\Q (.list ds)
def dC(d:Yi):DT:=λ_ Q=>Q d
theorem dv(i:Nat){x:Str}{pos:Pos}(hN:X.N[i]?=some x:=by rfl)(hv:p9 X.env.scope x:=by first | exact WI rfl | exact VB (WI rfl) | exact VB (VB rfl))
 (hd:(x==("__debug__":Str))=false:=by decide)(hcd:(x==("__classdict__":Str))=false:=by decide):DE X H0 O0 (.Name x pos) (b0 i):=
 (uG hN hv hd hcd).imp λσ H Q uu64=>by
  obtain⟨O,δ,Qd,w,dq,k⟩:=uu64;obtain⟨d,e,q⟩:=JB dq;obtain⟨v,h,r⟩:=w.val e;exact⟨v,h,k d v H q (au.refl _) r⟩
theorem dw(i:Nat){x:Str}{pos:Pos}(hN:X.N[i]?=some x:=by rfl)(hv:p9 X.env.scope x:=by first | exact WI rfl | exact VB (WI rfl) | exact VB (VB rfl))
 (hd:(x==("__debug__":Str))=false:=by decide)(hcd:(x==("__classdict__":Str))=false:=by decide):DF X H0 O0 (.Name x pos) (jH i):=
 (uG hN hv hd hcd).imp λσ H Q uu65=>by
  obtain⟨O,δ,Qd,w,⟨ds,e,q⟩,k⟩:=uu65;obtain⟨l,vs,h,_,_,r,rs⟩:=w.own e;exact⟨_,h,k _ _ H q (au.refl _) (.own r rs)⟩
theorem dc{e:Yr}{v:V}{d:Yi}(h:PE X e (tC v))(r:∀H O,Dt X.K H O v d):DE X H0 O0 e (dC d):=h.imp λσ H Q uu66=>by obtain⟨O,δ,Qd,w,q,k⟩:=uu66;exact k d v H q (au.refl _) (r H O)
theorem af{i j pos}:DE X H0 O0 (.Constant (.int i) j pos) (dC (.int i)):=dc bL λ_ _=>.int i
theorem vz{b j pos}:DE X H0 O0 (.Constant (.bool b) j pos) (dC (.bool b)):=dc AG λ_ _=>.bl b
theorem gB{j pos}:DE X H0 O0 (.Constant .none j pos) (dC .none):=dc Hm λ_ _=>.non
theorem aX{x j pos}:DE X H0 O0 (.Constant (.str x) j pos) (dC (.str x)):=dc uH λ_ _=>.str x
def gC:DA:=λ_ Q=>Q []
def g9(t:DT)(u:DA):DA:=λδ Q=>t δ λd=>u δ λds=>Q (d::ds)
theorem aj:PA X [] (gA X.K H0 O0 gC):=b7.imp λσ H Q uu67=>by obtain⟨O,δ,Qd,w,q,k⟩:=uu67;exact k [] [] H q (au.refl _) .nil
theorem aa{e:Yr}{es:List Yr}{t:DT}{u:DA}(h:DE X H0 O0 e t)(hs:PA X es (gA X.K H0 O0 u))(he:Yp (e::es) X.env=(false,eval e X.env)::Yp es X.env:=by rfl):PA X (e::es) (gA X.K H0 O0 (g9 t u)):=
 (bw h hs he).imp λσ H Q uu68=>by obtain⟨O,δ,Qd,w,q,k⟩:=uu68;exact⟨O,δ,_,w,q,λd v H1 q1 s1 r1=>⟨O,δ,_,w.mono s1,q1,λds vs H2 q2 s2 r2=>k (d::ds) (v::vs) H2 q2 (s1.trans s2) (.cons (r1.mono s2) r2)⟩⟩
def jI(t:DA):DT:=λδ Q=>t δ λds=>ds.length<=Yt/\Q (.tuple ds)
theorem sr{H:Hp}{O:Ex}{σ:St}{δ:Dl}{H1:Hp}{p:Yl}{K:QN}(w:Wd K H0 O0 H O σ δ)(s:au H H1)(hp:H1 p=none):¬O p:=λz=>(w.mono s).trk p z hp
theorem bH{es:List Yr}{t:DA}{x1}{pos:Pos}(h:PA X es (gA X.K H0 O0 t)):DE X H0 O0 (.Tuple es x1 pos) (jI t):=
 (Bo h).imp λσ H Q uu69=>by obtain⟨O,δ,Qd,w,q,k⟩:=uu69;exact⟨O,δ,_,w,q,λds vs H1 q1 s1 r1=>⟨by rw [r1.length];exact q1.1,λp hp=>k _ _ _ q1.2 (s1.trans (au.new hp)) (.tup (.inl bq) (sr w s1 hp) (r1.mono (au.new hp)))⟩⟩
end
theorem aH.refl(H:Hp)(O:Ex):aH H H O O:=⟨λ_ _ e _=>e,λ_ _ n=>n⟩
theorem aH.trans{H H1 H2:Hp}{O O1 O2:Ex}(a:aH H H1 O O1)(b:aH H1 H2 O1 O2):aH H H2 O O2:=by
 refine⟨λc o e n=>?_,λc e n=>?_⟩
 ·have h1:=a.keep c o e n;exact b.keep c o h1 (a.out c (by rw [e];exact λz=>nomatch z) n)
 ·cases q:H c with
  | none=>exact absurd q e
  | some o=>exact b.out c (by rw [a.keep c o q n];exact λz=>nomatch z) (a.out c e n)
section
variable {X:Cx} {H0:Hp} {O0:Ex}
def cw(K:QN)(r:R2)(rd:Yi->Yi->(Yi->Prop)->Prop):Prop:=
 ∀(H:Hp)(O:Ex)(x y:V)(dx dy:Yi)(Qd:Yi->Prop)(R:VK),(∀l,O l->H l≠none)->Sh K H O x dx->Sh K H O y dy->rd dx dy Qd->(∀d v H',Qd d->au H H'->Dt K H' O v d->R v H')->r x y H R
def cC(rd:Yi->Yi->(Yi->Prop)->Prop)(ta tb:DT):DT:=λδ Q=>ta δ λx=>tb δ λy=>rd x y Q
theorem su{K:QN}{r:R2}{rd:Yi->Yi->(Yi->Prop)->Prop}{ta tb:DT}(hd:cw K r rd):∀σ H Q,up K H0 O0 (cC rd ta tb) σ H Q->oU r (vv K H0 O0 ta) (vv K H0 O0 tb) σ H Q:=
 λσ H Q uu70=>by obtain⟨O,δ,Qd,w,q,k⟩:=uu70;exact⟨O,δ,_,w,q,λx v H1 q1 s1 r1=>⟨O,δ,_,w.mono s1,q1,λy u H2 q2 s2 r2=>hd H2 O v u x y Qd _ (w.mono (s1.trans s2)).trk (r1.mono s2) r2 q2 λd z H3 qd s3 r3=>k d z H3 qd (s1.trans (s2.trans s3)) r3⟩⟩
theorem ar{a b:Yr}{ta tb:DT}{op:Operator}{r:R2}{rd:Yi->Yi->(Yi->Prop)->Prop}{pos:Pos}(ho:bG X (YU op) r)(hd:cw X.K r rd)(ha:DF X H0 O0 a ta)(hb:DF X H0 O0 b tb):DE X H0 O0 (.BinOp a op b pos) (cC rd ta tb):=(bE ho ha hb).imp (su hd)
theorem dG{a b:Yr}{ta tb:DT}{op:CmpOp}{r:R2}{rd:Yi->Yi->(Yi->Prop)->Prop}{pos:Pos}(ho:bG X (YF op) r)(hd:cw X.K r rd)(ha:DF X H0 O0 a ta)(hb:DF X H0 O0 b tb)(hm:YO op b=false):DE X H0 O0 (.Compare a [op] [b] pos) (cC rd ta tb):=(rO ho ha hb hm).imp (su hd)
def c7(t:DT):DB:=λδ Q=>t δ λd=>∃b,d= .bool b/\Q b
theorem aQ{a b:Yr}{ta tb:DT}{op:CmpOp}{r:R2}{rd:Yi->Yi->(Yi->Prop)->Prop}{pos:Pos}(ho:bG X (YF op) r)(hd:cw X.K r rd)(ha:DF X H0 O0 a ta)(hb:DF X H0 O0 b tb)(hm:YO op b=false):PT X (.Compare a [op] [b] pos) (bV X.K H0 O0 (c7 (cC rd ta tb))):=
 (nP ho ha hb hm).imp λσ H Q uu71=>by obtain⟨O,δ,Qd,w,q,k⟩:=uu71;exact su hd σ H _ ⟨O,δ,_,w,q,λd v H' uu72 s r=>by obtain⟨b,e,qb⟩:=uu72;subst e;cases r;exact⟨b,rfl,k b H' qb s⟩⟩
theorem jc{e:Yr}{t:DT}(h:DE X H0 O0 e t)(he:∀whole,isTrue e X.env whole=(do let v<-whole;ZD e.pos;Zs [v] (truthy v)):=by intro _;rfl):PT X e (bV X.K H0 O0 (c7 t)):=
 (AI h he).imp λσ H Q uu73=>by obtain⟨O,δ,Qd,w,q,k⟩:=uu73;exact⟨O,δ,_,w,q,λd v H' uu74 s r=>by obtain⟨b,e,qb⟩:=uu74;subst e;cases r;exact⟨b,rfl,k b H' qb s⟩⟩
def jJ(t u:DB):DB:=λδ Q=>t δ λc=>if c=true then u δ Q else Q false
def jd(t u:DB):DB:=λδ Q=>t δ λc=>if c=true then Q true else u δ Q
def jK(t:DB):DB:=λδ Q=>t δ λc=>Q (!c)
theorem fA{a:Yr}{t:DB}{pos:Pos}(h:PT X a (bV X.K H0 O0 t)):PW X (.BoolOp .And [a] pos) (bV X.K H0 O0 t):=AM h
theorem sA{a:Yr}{t:DB}{pos:Pos}(h:PT X a (bV X.K H0 O0 t)):PW X (.BoolOp .Or [a] pos) (bV X.K H0 O0 t):=Hq h
theorem fB{a b:Yr}{rest:List Yr}{t u:DB}{pos:Pos}(h:PT X a (bV X.K H0 O0 t))(hb:PW X (.BoolOp .And (b::rest) pos) (bV X.K H0 O0 u)):PW X (.BoolOp .And (a::b::rest) pos) (bV X.K H0 O0 (jJ t u)):=
 (AN h hb).imp λσ H Q uu75=>by obtain⟨O,δ,Qd,w,q,k⟩:=uu75;exact⟨O,δ,_,w,q,λc H1 q1 s1=>by
  cases c with
  | true=>exact⟨O,δ,_,w.mono s1,q1,λb H2 q2 s2=>k b H2 q2 (s1.trans s2)⟩
  | false=>exact k false H1 q1 s1⟩
theorem sC{a b:Yr}{rest:List Yr}{t u:DB}{pos:Pos}(h:PT X a (bV X.K H0 O0 t))(hb:PW X (.BoolOp .Or (b::rest) pos) (bV X.K H0 O0 u)):PW X (.BoolOp .Or (a::b::rest) pos) (bV X.K H0 O0 (jd t u)):=
 (Hr h hb).imp λσ H Q uu76=>by obtain⟨O,δ,Qd,w,q,k⟩:=uu76;exact⟨O,δ,_,w,q,λc H1 q1 s1=>by
  cases c with
  | false=>exact⟨O,δ,_,w.mono s1,q1,λb H2 q2 s2=>k b H2 q2 (s1.trans s2)⟩
  | true=>exact k true H1 q1 s1⟩
theorem oY{a:Yr}{t:DB}{pos:Pos}(h:PT X a (bV X.K H0 O0 t)):PT X (.UnaryOp .Not a pos) (bV X.K H0 O0 (jK t)):=
 (Hs h).imp λσ H Q uu77=>by obtain⟨O,δ,Qd,w,q,k⟩:=uu77;exact⟨O,δ,_,w,q,λc H1 q1 s1=>k (!c) H1 q1 s1⟩
def jL(t u:DT):DT:=λδ Q=>t δ λd=>∃c,d= .bool c/\if c=true then u δ Q else Q (.bool false)
def jM(t u:DT):DT:=λδ Q=>t δ λd=>∃c,d= .bool c/\if c=true then Q (.bool true) else u δ Q
theorem qy{op}{a:Yr}{t:DT}{pos:Pos}(h:DE X H0 O0 a t):DE X H0 O0 (.BoolOp op [a] pos) t:=uI h
theorem qz{a b:Yr}{rest:List Yr}{t u:DT}{pos:Pos}(h:DE X H0 O0 a t)(hb:DE X H0 O0 (.BoolOp .And (b::rest) pos) u):DE X H0 O0 (.BoolOp .And (a::b::rest) pos) (jL t u):=
 (AR h hb).imp λσ H Q ⟨O,δ,Qd,w,q,k⟩=>⟨O,δ,_,w,q,λd v H1 uu79 s1 r=>by
  obtain⟨c,e,q1⟩:=uu79;subst e;cases r;refine⟨c,rfl,?_⟩;cases c with
  | true=>exact⟨O,δ,_,w.mono s1,q1,λd v H2 q2 s2 r2=>k d v H2 q2 (s1.trans s2) r2⟩
  | false=>exact k _ _ H1 q1 s1 (.bl false)⟩
theorem JC{a b:Yr}{rest:List Yr}{t u:DT}{pos:Pos}(h:DE X H0 O0 a t)(hb:DE X H0 O0 (.BoolOp .Or (b::rest) pos) u):DE X H0 O0 (.BoolOp .Or (a::b::rest) pos) (jM t u):=
 (AS h hb).imp λσ H Q ⟨O,δ,Qd,w,q,k⟩=>⟨O,δ,_,w,q,λd v H1 uu81 s1 r=>by
  obtain⟨c,e,q1⟩:=uu81;subst e;cases r;refine⟨c,rfl,?_⟩;cases c with
  | false=>exact⟨O,δ,_,w.mono s1,q1,λd v H2 q2 s2 r2=>k d v H2 q2 (s1.trans s2) r2⟩
  | true=>exact k _ _ H1 q1 s1 (.bl true)⟩
def jN(c:DB)(t u:DT):DT:=λδ Q=>c δ λb=>if b=true then t δ Q else u δ Q
theorem qA{c a b:Yr}{tc:DB}{t u:DT}{pos:Pos}(hc:PT X c (bV X.K H0 O0 tc))(ha:DE X H0 O0 a t)(hb:DE X H0 O0 b u):DE X H0 O0 (.IfExp c a b pos) (jN tc t u):=
 (AV hc ha hb).imp λσ H Q uu82=>by obtain⟨O,δ,Qd,w,q,k⟩:=uu82;exact⟨O,δ,_,w,q,λc H1 q1 s1=>by
  cases c with
  | true=>exact⟨O,δ,_,w.mono s1,q1,λd v H2 q2 s2 r2=>k d v H2 q2 (s1.trans s2) r2⟩
  | false=>exact⟨O,δ,_,w.mono s1,q1,λd v H2 q2 s2 r2=>k d v H2 q2 (s1.trans s2) r2⟩⟩
def aV(K:QN)(F:List Yi->(Yi->Prop)->Prop):Sp:=λvs H Q _=>∃O ds Qd,(∀l,O l->H l≠none)/\ai K H O vs ds/\F ds Qd/\∀d v H',Qd d->au H H'->Dt K H' O v d->Q v H'
def gE(F:List Yi->(Yi->Prop)->Prop)(t:DA):DT:=λδ Q=>t δ λds=>F ds Q
theorem aN{K:QN}{F:List Yi->(Yi->Prop)->Prop}{t:DA}{E:XK}:∀σ H Q,up K H0 O0 (gE F t) σ H Q->oW (aV K F) [] E (gA K H0 O0 t) σ H Q:=
 λσ H Q uu83=>by obtain⟨O,δ,Qd,w,q,k⟩:=uu83;exact⟨O,δ,_,w,q,λds vs H1 q1 s1 r1=>⟨O,ds,Qd,(w.mono s1).trk,by rw [RF];exact r1,q1,λd v H2 q2 s2 r2=>k d v H2 q2 (s1.trans s2) r2⟩⟩
inductive oZ (K:QN) (H:Hp) (O:Ex):List V->List Yi->Prop
 | nil:oZ K H O [] []
 | cons {v:V} {d:Yi} {vs:List V} {ds:List Yi}:Sh K H O v d->oZ K H O vs ds->oZ K H O (v::vs) (d::ds)
def iy(K:QN)(H0:Hp)(O0:Ex)(t:DA):TA:=λσ H R=>∃O δ Qd,Wd K H0 O0 H O σ δ/\t δ Qd/\∀ds vs H',Qd ds->au H H'->oZ K H' O vs ds->R vs H'
theorem br:PA X [] (iy X.K H0 O0 gC):=b7.imp λσ H Q uu84=>by obtain⟨O,δ,Qd,w,q,k⟩:=uu84;exact k [] [] H q (au.refl _) .nil
theorem bj{e:Yr}{es:List Yr}{t:DT}{u:DA}(h:DF X H0 O0 e t)(hs:PA X es (iy X.K H0 O0 u))(he:Yp (e::es) X.env=(false,eval e X.env)::Yp es X.env:=by rfl):PA X (e::es) (iy X.K H0 O0 (g9 t u)):=
 (bw h hs he).imp λσ H Q uu85=>by obtain⟨O,δ,Qd,w,q,k⟩:=uu85;exact⟨O,δ,_,w,q,λd v H1 q1 s1 r1=>⟨O,δ,_,w.mono s1,q1,λds vs H2 q2 s2 r2=>k (d::ds) (v::vs) H2 q2 (s1.trans s2) (.cons (r1.mono s2) r2)⟩⟩
def je(K:QN)(r:List V->Hp->VK->Prop)(rd:List Yi->(Yi->Prop)->Prop):Prop:=
 ∀(H:Hp)(O:Ex)(xs:List V)(ds:List Yi)(Qd:Yi->Prop)(R:VK),(∀l,O l->H l≠none)->oZ K H O xs ds->rd ds Qd->(∀d v H',Qd d->au H H'->Dt K H' O v d->R v H')->r xs H R
theorem bz{K:QN}{r:List V->Hp->VK->Prop}{rd:List Yi->(Yi->Prop)->Prop}{t:DA}(hd:je K r rd):∀σ H Q,up K H0 O0 (gE rd t) σ H Q->rT r (iy K H0 O0 t) σ H Q:=
 λσ H Q uu86=>by obtain⟨O,δ,Qd,w,q,k⟩:=uu86;exact⟨O,δ,_,w,q,λds vs H1 q1 s1 r1=>hd H1 O vs ds Qd _ (w.mono s1).trk r1 q1 λd v H2 q2 s2 r2=>k d v H2 q2 (s1.trans s2) r2⟩
def fR(t u:DS):DS:=λE δ=>t {E with nx:=u E} δ
theorem ao{st:Yx}{rest:List Yx}{t u:DS}(h:PS X st (bh X.K H0 O0 t))(h2:bP X rest (bh X.K H0 O0 u)):bP X (st::rest) (bh X.K H0 O0 (fR t u)):=
 (cN h h2).imp λD σ H uu87=>by obtain⟨O,δ,E,w,q,k1,k2,k3,k4⟩:=uu87;exact⟨O,δ,_,w,q,λO' δ' σ' H' z w' S=>⟨O',δ',E,w',z,λO2 δ2 σ2 H2 z2 w2 S2=>k1 O2 δ2 σ2 H2 z2 w2 (S.trans S2),k2,λO2 δ2 σ2 H2 z2 w2 S2=>k3 O2 δ2 σ2 H2 z2 w2 (S.trans S2),λO2 δ2 σ2 H2 z2 w2 S2=>k4 O2 δ2 σ2 H2 z2 w2 (S.trans S2)⟩,k2,k3,k4⟩
def jf:DS:=λE δ=>E.nx δ
theorem bI:bP X [] (bh X.K H0 O0 jf):=oO.imp λD σ H uu88=>by obtain⟨O,δ,E,w,q,k1,k2,k3,k4⟩:=uu88;exact k1 O δ σ H q w (aH.refl _ _)
theorem aw{st:Yx}{t:DS}(h:PS X st (bh X.K H0 O0 t)):bP X [st] (bh X.K H0 O0 t):=eX h
def hG(i:Nat)(t:DT):DS:=λE δ=>t δ λd=>E.nx (δ.set i (some (.v d)))
theorem bf{i:Nat}{x:Str}{e:Yr}{t:DT}{pos pos':Pos}(hN:X.N.Nodup)(hi:X.N[i]?=some x)(hx:gW X.env.scope x)(he:DE X H0 O0 e t)(hs:YD e (some (.Name x pos')) pos.line X.env=pure false:=by rfl)(hf:X.fn x=true\/X.env.scope.names.lookup x=some .local:=by first | exact .inl rfl | exact .inr rfl | assumption):
 PS X (.Assign [.Name x pos'] e pos) (bh X.K H0 O0 (hG i t)):=
 (dZ hN hi hx he hs hf).imp λD σ H uu89=>by obtain⟨O,δ,E,w,q,k1,k2,k3,k4⟩:=uu89;exact⟨O,δ,_,w,q,λd v H1 q1 s1 r1=>k1 O _ _ H1 q1 ((w.mono s1).set r1) (.same s1)⟩
def jO(t:DT):DS:=λE δ=>t δ E.rt
theorem eB{K:QN}{H:Hp}{O:Ex}{σ:St}{δ:Dl}(w:Wd K H0 O0 H O σ δ):aH H H O O0:=⟨λ_ _ e _=>e,λb _ n z=>n (w.sub b z)⟩
theorem aR{e:Yr}{t:DT}{pos:Pos}(he:DE X H0 O0 e t):PS X (.Return (some e) pos) (bh X.K H0 O0 (jO t)):=
 (fL he).imp λD σ H uu90=>by obtain⟨O,δ,E,w,q,k1,k2,k3,k4⟩:=uu90;exact⟨O,δ,_,w,q,λd v H1 q1 s1 r1=>k2 d v H1 q1 (w.same.trans s1) (r1.step (eB (w.mono s1)))⟩
def iz(i:Nat):DS:=λE δ=>∃ds,δ[i]?=some (some (.o ds))/\E.rt (.list ds)
theorem qB{e:Yr}{i:Nat}{pos:Pos}(he:PE X e (cJ i)):PS X (.Return (some e) pos) (bh X.K H0 O0 (iz i)):=
 (fL he).imp λD σ H uu91=>by
  obtain⟨O,δ,E,w,⟨ds,e,q⟩,k1,k2,k3,k4⟩:=uu91;obtain⟨l,vs,h,a,b,c,r⟩:=w.own e;exact⟨_,h,k2 _ _ H q w.same (.lst (.inl c) b (r.step (eB w)))⟩
def iA(c:DB)(t u:DS):DS:=λE δ=>c δ λb=>if b=true then t E δ else u E δ
theorem bJ{c:Yr}{a b:List Yx}{tc:DB}{t u:DS}{pos:Pos}(hc:PT X c (bV X.K H0 O0 tc))(ha:bP X a (bh X.K H0 O0 t))(hb:bP X b (bh X.K H0 O0 u)):PS X (.If c a b pos) (bh X.K H0 O0 (iA tc t u)):=
 (oP hc ha hb).imp λD σ H uu92=>by obtain⟨O,δ,E,w,q,k1,k2,k3,k4⟩:=uu92;exact⟨O,δ,_,w,q,λc H1 q1 s1=>by
  have g:∀{t':DS},t' E δ->bh X.K H0 O0 t' D σ H1:=λz=>⟨O,δ,E,w.mono s1,z,λO2 δ2 σ2 H2 z2 w2 S2=>k1 O2 δ2 σ2 H2 z2 w2 (aH.trans (.same s1) S2),k2,λO2 δ2 σ2 H2 z2 w2 S2=>k3 O2 δ2 σ2 H2 z2 w2 (aH.trans (.same s1) S2),λO2 δ2 σ2 H2 z2 w2 S2=>k4 O2 δ2 σ2 H2 z2 w2 (aH.trans (.same s1) S2)⟩;cases c with
  | true=>exact g q1
  | false=>exact g q1⟩
def pb(K:QN)(H0:Hp)(O0:Ex)(t:DA):TE:=λσ H R=>∃O δ Qd,Wd K H0 O0 H O σ δ/\t δ Qd/\∀ds vs p H',Qd ds->au H H'->H' p=none->ai K H' O vs ds->R (.ref p) (ah H' p (.lst vs))
abbrev FE(X:Cx)(H0:Hp)(O0:Ex)(e:Yr)(t:DA):Prop:=PE X e (pb X.K H0 O0 t)
def dL(t:DA):DT:=λδ Q=>t δ λds=>Q (.list ds)
theorem fe{e:Yr}{t:DA}(h:FE X H0 O0 e t):DE X H0 O0 e (dL t):=
 h.imp λσ H Q uu93=>by obtain⟨O,δ,Qd,w,q,k⟩:=uu93;exact⟨O,δ,_,w,q,λds vs p H1 q1 s1 hp r1=>k _ _ _ q1 (s1.trans (au.new hp)) (.lst (.inl bq) (sr w s1 hp) (r1.mono (au.new hp)))⟩
def jg(t:DA):DA:=λδ Q=>t δ λds=>ds.length<=Yt/\Q ds
theorem bW{es:List Yr}{t:DA}{pos:Pos}(h:PA X es (gA X.K H0 O0 t)):FE X H0 O0 (.List es pos) (jg t):=
 (Ig h).imp λσ H Q uu94=>by obtain⟨O,δ,Qd,w,q,k⟩:=uu94;exact⟨O,δ,_,w,q,λds vs H1 q1 s1 r1=>⟨by rw [r1.length];exact q1.1,λp hp=>k _ _ _ _ q1.2 s1 hp r1⟩⟩
def iB(i:Nat)(t:DA):DS:=λE δ=>t δ λds=>E.nx (δ.set i (some (.o ds)))
theorem iC{i:Nat}{x:Str}{e:Yr}{t:DA}{pos pos':Pos}(hN:X.N.Nodup)(hi:X.N[i]?=some x)(hx:gW X.env.scope x)(he:FE X H0 O0 e t)(hs:YD e (some (.Name x pos')) pos.line X.env=pure false:=by rfl)(hf:X.fn x=true\/X.env.scope.names.lookup x=some .local:=by first | exact .inl rfl | exact .inr rfl | assumption):
 PS X (.Assign [.Name x pos'] e pos) (bh X.K H0 O0 (iB i t)):=
 (dZ hN hi hx he hs hf).imp λD σ H ⟨O,δ,E,w,q,k1,k2,k3,k4⟩=>⟨O,δ,_,w,q,λds vs p H1 q1 s1 hp r1=>k1 _ _ _ _ q1 ((w.mono s1).setO hp r1)
  ⟨λb o e _=>(s1.trans (au.new hp)) b o e,λb e n z=>z.elim n λy=>by
   cases q:H b with
   | none=>exact e q
   | some o=>have:=s1 _ _ q;rw [y,hp] at this;cases this⟩⟩
def jP(i:Nat)(t:DT):DS:=λE δ=>∃ds,δ[i]?=some (some (.o ds))/\t δ λd=>ds.length < Yt/\E.nx (δ.set i (some (.o (ds++[d]))))
theorem lR{i:Nat}{o e:Yr}{t:DT}{apos cpos pos:Pos}(ho:PE X o (cJ i))(he:DE X H0 O0 e t)(hbase:YQ o "append" X.env (eval o X.env)=eval o X.env:=by rfl)
 (hfew:((YC cpos (Yp [e] X.env)).all (λx=>!x.1) && (Y6 cpos (YS [] X.env)).all (λx=>x.1.isSome) && decide ([e].length+([]:List Y5).length+(if ([]:List Y5).isEmpty then 0 else 1) < 30))=true:=by rfl)
 (hline:(apos.endLine==cpos.line)=true:=by rfl)(hst:Yp [e] X.env=(false,eval e X.env)::Yp [] X.env:=by rfl)(hplain:(YC cpos (Yp [] X.env)).any (·.1)=false:=by rfl)
 (hs:YD (.Call (.Attribute o "append" apos) [e] [] cpos) none pos.line X.env=pure false:=by rfl):PS X (.Expr (.Call (.Attribute o "append" apos) [e] [] cpos) pos) (bh X.K H0 O0 (jP i t)):=
 (qc (rY UA PySem.F.slot_list_append PySem.F.type_list_append BG ho (bw he b7 hst) hbase hfew hline hst hplain) hs).imp λD σ H uu96=>by
  obtain⟨O,δ,E,w,⟨ds,e,q⟩,k1,k2,k3,k4⟩:=uu96;obtain⟨l,vs,h,a,b,c,r⟩:=w.own e;refine⟨_,h,.inl ⟨rfl,_,bo.of c⟩,O,δ,_,w,q,λd v H1 q1 s1 r1=>?_⟩;refine⟨l,vs,v,rfl,rfl,s1 _ _ c,by rw [r.length];exact q1.1,?_⟩;exact k1 _ _ _ _ q1.2 ((w.mono s1).putO (vs:=vs) e h ((r.mono s1).append (.cons r1 .nil))) ⟨λb' o' z n=>by rw [az (λy=>n (by rw [y];exact a))];exact s1 _ _ z,λ_ _ n=>n⟩
end
structure cU (J:It) (P:Hp->Prop) (vs:List V):Prop where
 go:∀i H',P H'->i < vs.length->J.go i H'
 yl:∀i H' x H'',P H'->i < vs.length->J.yld i H' x H''->H''=H'/\vs[i]?=some x
 st:∀i H',P H'->vs.length<=i->J.stop i H'
def pd(H1:Hp)(a:Yl)(H':Hp):Prop:=∀o,H1 a=some o->H' a=some o
theorem bo.keep{K:QN}{H H':Hp}{a:Yl}{xs:List V}(s:pd H a H')(h:bo K H a xs):bo K H' a xs:=by
 rcases h with(h | ⟨o,h⟩) | h
 ·exact .inl (.inl (s _ h))
 ·exact .inl (.inr ⟨o,s _ h⟩)
 ·exact .inr h
theorem aZ.keep{K:QN}{H H':Hp}{a:Yl}{xs:List V}(s:pd H a H')(h:aZ K H a xs):aZ K H' a xs:=by
 rcases h with(h | ⟨o,h⟩) | h
 ·exact .inl (.inl (s _ h))
 ·exact .inl (.inr ⟨o,s _ h⟩)
 ·exact .inr h
theorem cU.list{K:QN}{H:Hp}{a:Yl}{vs:List V}(h:bo K H a vs):cU (oR K a) (pd H a) vs:=
 ⟨λi H' s hi=>⟨vs,vs[i],h.keep s,by simp [hi]⟩,λi H' x H'' s _ y=>⟨y.1,y.2 vs (h.keep s)⟩,λi H' s hi=>⟨vs,h.keep s,hi⟩⟩
theorem cU.tup{K:QN}{H:Hp}{a:Yl}{vs:List V}(h:aZ K H a vs):cU (qi K a) (pd H a) vs:=
 ⟨λi H' s hi=>⟨vs,vs[i],h.keep s,by simp [hi]⟩,λi H' x H'' s _ y=>⟨y.1,y.2 vs (h.keep s)⟩,λi H' s hi=>⟨vs,h.keep s,hi⟩⟩
def nT(lo:Int)(n:Nat):List Yi:=(SE n).map λ(k:Nat)=>.int (lo+k)
theorem cU.rng{lo:Int}{n:Nat}:cU (i6 lo n) (λ_=>True) ((SE n).map λ(k:Nat)=>V.int (lo+k)):=by
 refine⟨λi H' s hi=>(by simpa using hi:i < n),λi H' x H'' s hi y=>⟨y.1,?_⟩,λi H' s hi=>(by simpa using hi:n<=i)⟩;obtain⟨_,rfl⟩:=y;have hn:i < n:=by simpa using hi
 simp [hn]
theorem ai.rng{K:QN}{H:Hp}{O:Ex}{lo:Int}:∀(l:List Nat),ai K H O (l.map λ(k:Nat)=>V.int (lo+k)) (l.map λ(k:Nat)=>Rq (lo+k))
 | []=>.nil
 | n::r=>.cons (.int _) (ai.rng r)
abbrev DG:=Yi->Dl->(Dl->Prop)->Prop
def GD(K:QN)(g:TG)(dg:DG):Prop:=∀(H0:Hp)(O0:Ex)(H:Hp)(O:Ex)(σ:St)(δ:Dl)(v:V)(x:Yi)(R:St->Hp->Prop)(Qd:Dl->Prop),Wd K H0 O0 H O σ δ->Dt K H O v x->dg x δ Qd->(∀δ' σ',Qd δ'->Wd K H0 O0 H O σ' δ'->R σ' H)->g v σ H R
def iD(i:Nat):DG:=λx δ Q=>Q (δ.set i (some (.v x)))
theorem aL{K:QN}{i:Nat}:GD K (i5 i) (iD i):=λH0 O0 H O σ δ v x R Qd w r q k=>k _ _ q (w.set r)
abbrev nU:=List Yi->Dl->(Dl->Prop)->Prop
def sE(K:QN)(g:i4)(dg:nU):Prop:=∀(H0:Hp)(O0:Ex)(H:Hp)(O:Ex)(σ:St)(δ:Dl)(vs:List V)(xs:List Yi)(R:St->Hp->Prop)(Qd:Dl->Prop),Wd K H0 O0 H O σ δ->ai K H O vs xs->dg xs δ Qd->(∀δ' σ',Qd δ'->Wd K H0 O0 H O σ' δ'->R σ' H)->g vs σ H R
def jQ:nU:=λxs δ Q=>xs=[]/\Q δ
def jR(t:DG)(u:nU):nU:=λxs δ Q=>∃x r,xs=x::r/\t x δ λδ'=>u r δ' Q
theorem gF{K:QN}:sE K rG jQ:=λH0 O0 H O σ δ vs xs R Qd w r uu0 k=>by obtain⟨e,q⟩:=uu0;subst e;cases r;exact⟨rfl,k _ _ q w⟩
theorem b5{K:QN}{t:TG}{u:i4}{dt:DG}{du:nU}(h:GD K t dt)(h2:sE K u du):sE K (qg t u) (jR dt du):=λH0 O0 H O σ δ vs xs R Qd w r uu1 k=>by
 obtain⟨x,rr,e,q⟩:=uu1;subst e;cases r with
 | cons r1 r2=>exact⟨_,_,rfl,h H0 O0 H O σ δ _ _ _ _ w r1 q λδ' σ' q' w'=>h2 H0 O0 H O σ' δ' _ _ R Qd w' r2 q' k⟩
def jS(n:Nat)(t:nU):DG:=λx δ Q=>∃xs,x= .tuple xs/\xs.length=n/\t xs δ Q
theorem gG{K:QN}{n:Nat}{t:i4}{dt:nU}(h:sE K t dt):GD K (rH K n t) (jS n dt):=λH0 O0 H O σ δ v x R Qd w r uu2 k=>by
 obtain⟨xs,e,hl,q⟩:=uu2;subst e;obtain⟨a,vs,rfl,hs,rr⟩:=(Sh.dt r).tup;exact⟨a,vs,rfl,hs,by rw [rr.length];exact hl,h H0 O0 H O σ δ _ _ R Qd w rr q k⟩
section
variable {X:Cx} {H0:Hp} {O0:Ex}
def jT(t:DT)(g:DG):DS:=λE δ=>t δ λd=>g d δ E.nx
theorem BU{tg e:Yr}{t:DT}{g:TG}{dg:DG}{pos:Pos}(he:DE X H0 O0 e t)(hg:PG X tg g)(gd:GD X.K g dg)(hs:swapsWithSole [tg] e pos.line X.env=pure false:=by rfl)(hw:swappedStores [tg] e X.env=pure none:=by rfl)
 (h1:(Zt [tg] X.env).map (·.2)=[assign tg X.env]:=by rfl):PS X (.Assign [tg] e pos) (bh X.K H0 O0 (jT t dg)):=
 (Hw he hg hs hw h1).imp λD σ H uu3=>by obtain⟨O,δ,E,w,q,k1,k2,k3,k4⟩:=uu3;exact⟨O,δ,_,w,q,λd v H1 q1 s1 r1=>gd H0 O0 H1 O σ δ v d _ _ (w.mono s1) r1 q1 λδ' σ' q' w'=>k1 O δ' σ' H1 q' w' (.same s1)⟩
def gH(g:DG)(tb:DS)(E:fz):List Yi->Dl->Prop
 | [],δ=>E.nx δ
 | x::xs,δ=>g x δ λδ2=>tb {E with nx:=gH g tb E xs,ct:=gH g tb E xs,bk:=E.nx} δ2
theorem QI{K:QN}{J:It}{P:Hp->Prop}{vs:List V}{xs:List Yi}{g:TG}{dg:DG}{tb:DS}{D:i3}{E:fz}{σ:St}{H:Hp}{O:Ex}{δ:Dl}(S:cU J P vs)(gd:GD K g dg)
 (hP:∀H' O',aH H H' O O'->P H')(r:ai K H O vs xs)(w:Wd K H0 O0 H O σ δ)(q:gH dg tb E xs δ)
 (k1:∀O' δ' σ' H',E.nx δ'->Wd K H0 O0 H' O' σ' δ'->aH H H' O O'->D.nx σ' H')(k2:∀d v H',E.rt d->au H0 H'->Dt K H' O0 v d->D.rt v H'):FR J g (bh K H0 O0 tb) D σ H:=by
 refine⟨λi m σ' H'=>∃O' δ',m=vs.length - i/\i<=vs.length/\Wd K H0 O0 H' O' σ' δ'/\aH H H' O O'/\gH dg tb E (xs.drop i) δ',⟨vs.length,O,δ,Yh,RD _,w,aH.refl _ _,by simpa using q⟩,?_⟩;rintro i m σ1 H1 ⟨O1,δ1,rfl,hi,w1,S1,q1⟩;by_cases hlt:i < vs.length
 ·refine .inr ⟨S.go i H1 (hP _ _ S1) hlt,λσ' H'=>∃O' δ',Wd K H0 O0 H' O' σ' δ'/\aH H H' O O'/\gH dg tb E (xs.drop (i+1)) δ',λσ' H' uu4=>by obtain⟨O',δ',w',S',q'⟩:=uu4;exact⟨vs.length - (i+1),Yd,O',δ',rfl,hlt,w',S',q'⟩,λx H' y=>?_⟩;have yy:=S.yl i H1 x H' (hP _ _ S1) hlt y;clear y;obtain⟨e,y⟩:=yy;subst e;obtain⟨d,ed,rd⟩:=r.get y;have hd:xs.drop i=d::xs.drop (i+1):=by
   rw [U4 (h:=(QZ.mp ed).1),(QZ.mp ed).2]
  rw [hd] at q1;refine gd H0 O0 _ O1 σ1 δ1 x d _ _ w1 (rd.step S1) q1 λδ2 σ2 q2 w2=>?_;refine⟨O1,δ2,_,w2,q2,λO' δ' σ' H' z w' S'=>⟨O',δ',w',S1.trans S',z⟩,k2,λO' δ' σ' H' z w' S'=>k1 O' δ' σ' H' z w' (S1.trans S'),λO' δ' σ' H' z w' S'=>⟨O',δ',w',S1.trans S',z⟩⟩
 ·have e:i=vs.length:=Yd
  subst e;refine .inl ⟨S.st _ H1 (hP _ _ S1) (QQ _),?_⟩;rw [r.length,UK (QQ _)] at q1;exact k1 O1 δ1 σ1 H1 q1 w1 S1
def gI(g:DG)(tb:DS)(E:fz)(xs:List Yi)(δ:Dl):Prop:=∃I:Nat->Dl->Prop,I 0 δ/\(∀i x δ,xs[i]?=some x->I i δ->g x δ λδ2=>tb {E with nx:=I (i+1),ct:=I (i+1),bk:=E.nx} δ2)/\∀δ,I xs.length δ->E.nx δ
theorem sF{K:QN}{J:It}{P:Hp->Prop}{vs:List V}{xs:List Yi}{g:TG}{dg:DG}{tb:DS}{D:i3}{E:fz}{σ:St}{H:Hp}{O:Ex}{δ:Dl}(S:cU J P vs)(gd:GD K g dg)
 (hP:∀H' O',aH H H' O O'->P H')(r:ai K H O vs xs)(w:Wd K H0 O0 H O σ δ)(q:gI dg tb E xs δ)
 (k1:∀O' δ' σ' H',E.nx δ'->Wd K H0 O0 H' O' σ' δ'->aH H H' O O'->D.nx σ' H')(k2:∀d v H',E.rt d->au H0 H'->Dt K H' O0 v d->D.rt v H'):FR J g (bh K H0 O0 tb) D σ H:=by
 obtain⟨Iv,q0,qs,qe⟩:=q;refine⟨λi m σ' H'=>∃O' δ',m=vs.length - i/\i<=vs.length/\Wd K H0 O0 H' O' σ' δ'/\aH H H' O O'/\Iv i δ',⟨vs.length,O,δ,Yh,RD _,w,aH.refl _ _,q0⟩,?_⟩;rintro i m σ1 H1 ⟨O1,δ1,rfl,hi,w1,S1,q1⟩;by_cases hlt:i < vs.length
 ·refine .inr ⟨S.go i H1 (hP _ _ S1) hlt,λσ' H'=>∃O' δ',Wd K H0 O0 H' O' σ' δ'/\aH H H' O O'/\Iv (i+1) δ',λσ' H' uu5=>by obtain⟨O',δ',w',S',q'⟩:=uu5;exact⟨vs.length - (i+1),Yd,O',δ',rfl,hlt,w',S',q'⟩,λx H' y=>?_⟩;have yy:=S.yl i H1 x H' (hP _ _ S1) hlt y;clear y;obtain⟨e,y⟩:=yy;subst e;obtain⟨d,ed,rd⟩:=r.get y;refine gd H0 O0 _ O1 σ1 δ1 x d _ _ w1 (rd.step S1) (qs i d δ1 ed q1) λδ2 σ2 q2 w2=>?_;refine⟨O1,δ2,_,w2,q2,λO' δ' σ' H' z w' S'=>⟨O',δ',w',S1.trans S',z⟩,k2,λO' δ' σ' H' z w' S'=>k1 O' δ' σ' H' z w' (S1.trans S'),λO' δ' σ' H' z w' S'=>⟨O',δ',w',S1.trans S',z⟩⟩
 ·have e:i=vs.length:=Yd
  subst e;refine .inl ⟨S.st _ H1 (hP _ _ S1) (QQ _),?_⟩;rw [r.length] at q1;exact k1 O1 δ1 σ1 H1 (qe δ1 q1) w1 S1
def jU(t:DT)(g:DG)(tb:DS):DS:=λE δ=>t δ λd=>∃xs,d= .list xs/\gI g tb E xs δ
def jV(t:DT)(g:DG)(tb:DS):DS:=λE δ=>t δ λd=>∃xs,d= .tuple xs/\gI g tb E xs δ
def jW(t:DA)(g:DG)(tb:DS):DS:=λE δ=>t δ λds=>∃j:Int,ds=[.int j]/\-(2 ^ 62)<=j/\j < 2 ^ 62/\gI g tb E (nT 0 j.toNat) δ
section
variable {tg iter:Yr} {body:List Yx} {t:DT} {ta:DA} {g:TG} {dg:DG} {tb:DS} {pos p ps:Pos}
theorem nV(hp:Zi (Yq X.prog X.w) X.A X.env X.xe)(hc:X.calm=true)(hi:DE X H0 O0 iter t)(hg:PG X tg g)(gd:GD X.K g dg)(hb:bP X body (bh X.K H0 O0 tb))(hs:∀x,YA iter X.env x=pure x:=by intro _;rfl):
 PS X (.For tg iter body [] pos) (bh X.K H0 O0 (jU t dg tb)):=
 (oT hp hc (rJ hi) hg hb hs).imp λD σ H uu6=>by obtain⟨O,δ,E,w,q,k1,k2,k3,k4⟩:=uu6;exact⟨O,δ,_,w,q,λd v H1 uu7 s1 r1=>by
  obtain⟨xs,e,q1⟩:=uu7;subst e;cases r1 with
  | lst h n r=>
   refine⟨_,rfl,⟨_,.inl h⟩,sF (cU.list (.inl h)) gd (λH' O' S o e=>S.keep _ _ e n) r (w.mono s1) q1 (λO' δ' σ' H' z w' S=>k1 O' δ' σ' H' z w' (aH.trans (.same s1) S)) k2⟩⟩
theorem pe(hp:Zi (Yq X.prog X.w) X.A X.env X.xe)(hc:X.calm=true)(hi:DE X H0 O0 iter t)(hg:PG X tg g)(gd:GD X.K g dg)(hb:bP X body (bh X.K H0 O0 tb))(hs:∀x,YA iter X.env x=pure x:=by intro _;rfl):
 PS X (.For tg iter body [] pos) (bh X.K H0 O0 (jV t dg tb)):=
 (oT hp hc (uN hi) hg hb hs).imp λD σ H uu8=>by obtain⟨O,δ,E,w,q,k1,k2,k3,k4⟩:=uu8;exact⟨O,δ,_,w,q,λd v H1 uu9 s1 r1=>by
  obtain⟨xs,e,q1⟩:=uu9;subst e;cases r1 with
  | tup h n r=>
   refine⟨_,rfl,⟨_,.inl h⟩,sF (cU.tup (.inl h)) gd (λH' O' S o e=>S.keep _ _ e n) r (w.mono s1) q1 (λO' δ' σ' H' z w' S=>k1 O' δ' σ' H' z w' (aH.trans (.same s1) S)) k2⟩
  | tupK h r=>
   refine⟨_,rfl,⟨_,h.of0⟩,sF (P:=λ_=>True) ⟨λi H' _ hi=>⟨_,_,h.of0,by simp [hi];rfl⟩,λi H' x H'' _ _ y=>⟨y.1,y.2 _ h.of0⟩,λi H' _ hi=>⟨_,h.of0,hi⟩⟩ gd (λ_ _ _=>trivial) r (w.mono s1) q1 (λO' δ' σ' H' z w' S=>k1 O' δ' σ' H' z w' (aH.trans (.same s1) S)) k2⟩⟩
theorem BV(hp:Zi (Yq X.prog X.w) X.A X.env X.xe)(hc:X.calm=true){a:Yr}(hgl:Gl X "range")(hm:X.mg "range"=none)(ha:PA X [a] (gA X.K H0 O0 ta))(hg:PG X tg g)(gd:GD X.K g dg)(hb:bP X body (bh X.K H0 O0 tb))
 (hst:Yp [a] X.env=[(false,eval a X.env)]:=by rfl)(hs:∀x,YA (.Call (.Name "range" p) [a] [] ps) X.env x=pure x:=by intro _;rfl):
 PS X (.For tg (.Call (.Name "range" p) [a] [] ps) body [] pos) (bh X.K H0 O0 (jW ta dg tb)):=
 (oT hp hc (uQ hgl hm ha hst) hg hb hs).imp λD σ H uu10=>by obtain⟨O,δ,E,w,q,k1,k2,k3,k4⟩:=uu10;exact⟨O,δ,_,w,q,λds vs H1 uu11 s1 r1=>by
  obtain⟨j,e,b1,b2,q1⟩:=uu11;subst e;cases r1 with
  | cons r1 r2=>
   cases r2;cases r1;exact⟨j,rfl,b1,b2,sF cU.rng gd (λ_ _ _=>trivial) (ai.rng _) (w.mono s1) q1 (λO' δ' σ' H' z w' S=>k1 O' δ' σ' H' z w' (aH.trans (.same s1) S)) k2⟩⟩
end
theorem Wd.letbe{K:QN}{H:Hp}{O:Ex}{σ:St}{δ:Dl}(w:Wd K H0 O0 H O σ δ){i:Nat}{l:Yl}{y0:Sl}{d:Yi}(e:δ[i]?=some (some y0))(ho:y0.own)(h:σ[i]?=some (some (.ref l)))(hd:∀O',aH H H O O'->¬O' l->Dt K H O' (.ref l) d):
 ∃O',Wd K H0 O0 H O' σ (δ.set i (some (.v d)))/\aH H H O O':=by
 obtain⟨l',x1,a,b⟩:=w.adr e ho;rw [h] at x1;cases x1;have S:aH H H O (λx=>O x/\x≠l):=⟨λ_ _ z _=>z,λ_ _ n z=>n z.1⟩;have li:i < δ.length:=(QZ.mp e).1;have ne:∀{j:Nat}{y:Sl},(δ.set i (some (.v d)))[j]?=some (some y)->y.own->j≠i:=λ{j y} q hy z=>by
  subst z;rw [Rk li] at q;cases q;exact hy
 refine⟨_,⟨w.same,λx z=>⟨w.sub x z,λy=>b (by rw [<-y];exact z)⟩,λx z=>w.new x z.1,λx z=>w.trk x z.1,by simp [w.len],λj y q=>?_,λj k y z l' e1 y1 e2 z2 e3 e4=>?_⟩,S⟩
 ·by_cases hj:j=i
  ·subst hj;rw [Rk li] at q;cases q;exact⟨.ref l,by rw [h];rfl,hd _ S (λz=>z.2 rfl)⟩
  ·rw [Q6 (Ne.symm hj)] at q;refine(w.sl j y q).go S (λb o ho' e' a1 a2 a3=>⟨⟨a1,λz=>?_⟩,a3⟩) (λb o u a1 a2 a3=>⟨⟨a1,λz=>w.nofrz e ho h o u (by rw [<-z];exact a3)⟩,a3⟩) λb o a1 a3=>a3;subst z
   match y,ho',q with
   | some z,ho',q=>exact hj (w.dis j i z y0 _ q (by cases z <;> first | trivial | cases ho') e ho (fy e') h)
 ·have n1:=ne e1 y1;have n2:=ne e2 z2;rw [Q6 (Ne.symm n1)] at e1;rw [Q6 (Ne.symm n2)] at e2;exact w.dis j k _ _ l' e1 y1 e2 z2 e3 e4
theorem Wd.freeze{K:QN}{H:Hp}{O:Ex}{σ:St}{δ:Dl}(w:Wd K H0 O0 H O σ δ){i:Nat}{ds:List Yi}(e:δ[i]?=some (some (.o ds))):∃O',Wd K H0 O0 H O' σ (δ.set i (some (.v (.list ds))))/\aH H H O O':=by
 obtain⟨l,vs,h,a,b,c,r⟩:=w.own e;exact w.letbe (y0:= .o ds) e trivial h λO' S n=>.lst (.inl c) n (r.step S)
def jh(i:Nat)(t:DS):DS:=λE δ=>∃ds,δ[i]?=some (some (.o ds))/\t E (δ.set i (some (.v (.list ds))))
theorem JD(i:Nat){st:Yx}{t:DS}(h:PS X st (bh X.K H0 O0 t)):PS X st (bh X.K H0 O0 (jh i t)):=
 h.imp λD σ H uu12=>by
  obtain⟨O,δ,E,w,⟨ds,e,q⟩,k1,k2,k3,k4⟩:=uu12;obtain⟨O',w',S⟩:=w.freeze e;exact⟨O',_,E,w',q,λO2 δ2 σ2 H2 z2 w2 S2=>k1 O2 δ2 σ2 H2 z2 w2 (S.trans S2),k2,λO2 δ2 σ2 H2 z2 w2 S2=>k3 O2 δ2 σ2 H2 z2 w2 (S.trans S2),λO2 δ2 σ2 H2 z2 w2 S2=>k4 O2 δ2 σ2 H2 z2 w2 (S.trans S2)⟩
def dh(k:Nat)(fr:List Nat)(δ:Dl):Dl:=Q8 k none++fr.map λj=>(δ[j]?).join
def sG(g:DG)(tc:DB)(te:DT)(δ0:Dl):List Yi->List Yi->(List Yi->Prop)->Prop
 | [],acc,Q=>Q acc
 | x::xs,acc,Q=>g x δ0 λδ2=>tc δ2 λok=>if ok=true then te δ2 λy=>sG g tc te δ0 xs (acc++[y]) Q else sG g tc te δ0 xs acc Q
theorem Wd.comp{K:QN}{H:Hp}{O:Ex}{σ:St}{δ:Dl}(w:Wd K H0 O0 H O σ δ){k:Nat}{fr:List Nat}(hf:fr.Nodup):Wd K H0 O0 H O (bB k fr σ) (dh k fr δ):=by
 have at1:∀{α:Type}(l:List (Option α))(i:Nat),(Q8 k none++fr.map λj=>(l[j]?).join)[i]?=if i < k then some none else(fr[i - k]?).map λj=>(l[j]?).join:=by
  intro α l i;by_cases h:i < k
  ·rw [Yf h,RV (by simpa using h),T1,Yf h]
  ·rw [Ye h,Si (by simpa using Tt h),Q1];simp
 have un:∀{α:Type}(l:List (Option α))(i:Nat)(x:α),(Q8 k none++fr.map λj=>(l[j]?).join)[i]?=some (some x)->∃j,fr[i - k]?=some j/\k<=i/\l[j]?=some (some x):=by
  intro α l i x h;rw [at1] at h;split at h
  ·cases h
  ·cases e:fr[i - k]? with
   | none=>rw [e] at h;cases h
   | some j=>
    rw [e] at h;refine⟨j,rfl,Yd,?_⟩;have h':(l[j]?).join=some x:=RT h;cases q:l[j]? with
    | none=>rw [q] at h';cases h'
    | some o=>rw [q] at h';rw [show o=some x from h']
 refine⟨w.same,w.sub,w.new,w.trk,by simp [bB,dh],λi y e=>?_,λi j y z l e1 y1 e2 z2 e3 e4=>?_⟩
 ·match y,e with
  | none,_=>exact Tg
  | some x,e=>
   obtain⟨j,hj,hk,ej⟩:=un δ i x e;have q:=w.sl j _ ej;have e2:((bB k fr σ)[i]?).join=(σ[j]?).join:=by
    unfold bB;rw [at1,Ye Yd,hj];rfl
   rw [e2];exact q
 ·obtain⟨a,ha,ka,ea⟩:=un δ i _ e1;obtain⟨b,hb,kb,eb⟩:=un δ j _ e2;obtain⟨a',ha',_,ea'⟩:=un σ i _ e3;obtain⟨b',hb',_,eb'⟩:=un σ j _ e4;rw [ha] at ha';cases ha';rw [hb] at hb';cases hb';have:=w.dis a b y z l ea y1 eb z2 ea' eb';subst this;have e5:=(List.getElem?_inj (l:=fr) (i:=i - k) (j:=j - k) (QZ.mp ha).1 hf).mp (by rw [ha,hb]);omega
theorem QJ{K:QN}{J:It}{P:Hp->Prop}{vs:List V}{xs:List Yi}{g:TG}{dg:DG}{tc:TT}{dc:DB}{te:TE}{de:DT}{k:Nat}{fr:List Nat}{σ:St}{H:Hp}{O:Ex}{δ:Dl}{Qd:List Yi->Prop}{Q:VK}(S:cU J P vs)(gd:GD K g dg)(hf:fr.Nodup)
 (hk:∀v:V,∀σ':St,∀H':Hp,∀R:St->Hp->Prop,g v (bB k fr σ) H' R->g v (bB k fr σ) H' λσ2 H2=>nR (bB k fr σ) σ2/\R σ2 H2)
 (hc:∀σ H Q,bV K H0 O0 dc σ H Q->tc σ H Q)(he:∀σ H Q,up K H0 O0 de σ H Q->te σ H Q)
 (hP:∀D H',H D=none->oX D H H'->P H')(r:ai K H O vs xs)(w:Wd K H0 O0 H O σ δ)(hz:vs.length<=Yt)(q:sG dg dc de (dh k fr δ) xs [] Qd)
 (k1:∀ds us p H',Qd ds->au H H'->H' p=none->ai K H' O us ds->Q (.ref p) (ah H' p (.lst us))):nS J g tc te k fr σ H Q:=by
 intro D hD;have w0:Wd K H0 O0 H O (bB k fr σ) (dh k fr δ):=w.comp hf;have nD:¬O D:=λz=>w.trk D z hD;have D0:H0 D=none:=by
  cases e:H0 D with
  | none=>rfl
  | some o=>rw [w.same _ _ e] at hD;cases hD
 have ex:∀H',oX D H H'->H' D≠none->Wd K H0 O0 H' (λa=>O a\/a=D) (bB k fr σ) (dh k fr δ):=λH' s' hd=>by
  have S':aH H H' O (λa=>O a\/a=D):=⟨λb o e _=>s' b o e (dY e hD),λb hb hn z=>z.elim hn λq=>hb (by rw [q];exact hD)⟩;refine⟨λb o e=>s' b o (w.same b o e) (λz=>by rw [z,D0] at e;cases e),λl z=>.inl (w.sub l z),λl z=>z.elim (w.new l) λq=>.inr (by rw [q];exact D0),λl z=>?_,w0.len,λj y e=>?_,w0.dis⟩
  ·by_cases ql:l=D
   ·rw [ql];exact hd
   ·have hl:=w.trk l (z.resolve_right ql);cases e:H l with
    | none=>exact absurd e hl
    | some o=>rw [s' l o e ql];exact λz=>nomatch z
  ·exact(w0.sl j y e).go S' (λl o _ _ a1 _ a3=>⟨.inl a1,s' _ _ a3 (λz=>nD (by rw [<-z];exact a1))⟩) (λa o u a1 _ a3=>⟨.inl a1,s' _ _ a3 (λz=>nD (by rw [<-z];exact a1))⟩) λa o a1 a3=>s' _ _ a3 (λz=>nD (by rw [<-z];exact w.sub _ a1))
 refine⟨λi m H'=>∃acc ys,m=vs.length - i/\i<=vs.length/\oX D H H'/\H' D=some (.lst ys)/\ys.length<=i/\ai K H' (λa=>O a\/a=D) ys acc/\sG dg dc de (dh k fr δ) (xs.drop i) acc Qd,⟨vs.length,[],[],Yh,RD _,λb o e n=>by rw [az n];exact e,bq,RD _,.nil,by simpa using q⟩,?_⟩;rintro i m H1 ⟨acc,ys,rfl,hi,s1,e1,hy,ra,q1⟩;by_cases hlt:i < vs.length
 ·refine .inr ⟨S.go i H1 (hP D H1 hD s1) hlt,λx H' y=>?_⟩;have yy:=S.yl i H1 x H' (hP D H1 hD s1) hlt y;clear y;obtain⟨e,y⟩:=yy;subst e;obtain⟨d,ed,rd⟩:=r.get y;have hd:xs.drop i=d::xs.drop (i+1):=by
   rw [U4 (h:=(QZ.mp ed).1),(QZ.mp ed).2]
  rw [hd] at q1;have w1:=ex _ s1 (by rw [e1];exact λz=>nomatch z);have S':aH H H' O (λa=>O a\/a=D):=⟨λb o e _=>s1 b o e (dY e hD),λb hb hn z=>z.elim hn λq=>hb (by rw [q];exact hD)⟩;refine hk x σ _ _ (gd H0 O0 _ _ _ _ x d _ _ w1 (rd.step S') q1 λδ2 σ2 q2 w2=>?_);refine hc σ2 _ _ ⟨_,δ2,_,w2,q2,λok H3 q3 s3=>?_⟩;cases ok with
  | true=>
   rw [Yf rfl];refine he σ2 H3 _ ⟨_,δ2,_,w2.mono s3,q3,λd' v H4 q4 s4 r4=>?_⟩;have e4:=s4 _ _ (s3 _ _ e1);have sD:aH H4 (ah H4 D (.lst (ys++[v]))) (λa=>O a\/a=D) (λa=>O a\/a=D):=⟨λb o e n=>by rw [az (λz=>n (.inr z))];exact e,λ_ _ n=>n⟩;refine⟨ys,e4,Yd,vs.length - (i+1),Yd,acc++[d'],ys++[v],rfl,hlt,λb o e n=>by rw [az n];exact s4 _ _ (s3 _ _ (s1 b o e n)),bq,by simpa using hy,?_,q4⟩;exact((ra.mono (s3.trans s4)).append (.cons r4 .nil)).step sD
  | false=>
   rw [Ye Yc];exact⟨vs.length - (i+1),Yd,acc,ys,rfl,hlt,λb o e n=>s3 _ _ (s1 b o e n),s3 _ _ e1,Yd,ra.mono s3,q3⟩
 ·have e:i=vs.length:=Yd
  subst e;refine .inl ⟨S.st _ H1 (hP D H1 hD s1) (QQ _),?_⟩;rw [r.length,UK (QQ _)] at q1;have hrest:∃H2:Hp,H2 D=none/\au H H2/\H1=ah H2 D (.lst ys):=by
   refine⟨λb=>if b=D then none else H1 b,Yh,λb o e=>?_,?_⟩
   ·have n:=dY e hD;show(if b=D then none else H1 b)=some o;rw [Ye n];exact s1 b o e n
   ·funext b;by_cases z:b=D
    ·rw [z,bq];exact e1
    ·rw [az z];show H1 b=if b=D then none else H1 b;rw [Ye z]
  obtain⟨H2,h2,s2,rfl⟩:=hrest;refine k1 acc ys D H2 q1 s2 h2 (ra.step ⟨λb o e n=>?_,λb _ n z=>n (.inl z)⟩);rw [az (λz=>n (.inr z))] at e;exact e
def ji(g:DG)(tc:DB)(te:DT)(δ0:Dl)(xs:List Yi)(Q:List Yi->Prop):Prop:=∃I:Nat->List Yi->Prop,I 0 []/\(∀i x acc,xs[i]?=some x->I i acc->g x δ0 λδ2=>tc δ2 λok=>if ok=true then te δ2 λy=>I (i+1) (acc++[y]) else I (i+1) acc)/\∀acc,I xs.length acc->Q acc
theorem pf{K:QN}{J:It}{P:Hp->Prop}{vs:List V}{xs:List Yi}{g:TG}{dg:DG}{tc:TT}{dc:DB}{te:TE}{de:DT}{k:Nat}{fr:List Nat}{σ:St}{H:Hp}{O:Ex}{δ:Dl}{Qd:List Yi->Prop}{Q:VK}(S:cU J P vs)(gd:GD K g dg)(hf:fr.Nodup)
 (hk:∀v:V,∀σ':St,∀H':Hp,∀R:St->Hp->Prop,g v (bB k fr σ) H' R->g v (bB k fr σ) H' λσ2 H2=>nR (bB k fr σ) σ2/\R σ2 H2)
 (hc:∀σ H Q,bV K H0 O0 dc σ H Q->tc σ H Q)(he:∀σ H Q,up K H0 O0 de σ H Q->te σ H Q)
 (hP:∀D H',H D=none->oX D H H'->P H')(r:ai K H O vs xs)(w:Wd K H0 O0 H O σ δ)(hz:vs.length<=Yt)(q:ji dg dc de (dh k fr δ) xs Qd)
 (k1:∀ds us p H',Qd ds->au H H'->H' p=none->ai K H' O us ds->Q (.ref p) (ah H' p (.lst us))):nS J g tc te k fr σ H Q:=by
 obtain⟨Iv,q0,qs,qe⟩:=q;intro D hD;have w0:Wd K H0 O0 H O (bB k fr σ) (dh k fr δ):=w.comp hf;have nD:¬O D:=λz=>w.trk D z hD;have D0:H0 D=none:=by
  cases e:H0 D with
  | none=>rfl
  | some o=>rw [w.same _ _ e] at hD;cases hD
 have ex:∀H',oX D H H'->H' D≠none->Wd K H0 O0 H' (λa=>O a\/a=D) (bB k fr σ) (dh k fr δ):=λH' s' hd=>by
  have S':aH H H' O (λa=>O a\/a=D):=⟨λb o e _=>s' b o e (dY e hD),λb hb hn z=>z.elim hn λq=>hb (by rw [q];exact hD)⟩;refine⟨λb o e=>s' b o (w.same b o e) (λz=>by rw [z,D0] at e;cases e),λl z=>.inl (w.sub l z),λl z=>z.elim (w.new l) λq=>.inr (by rw [q];exact D0),λl z=>?_,w0.len,λj y e=>?_,w0.dis⟩
  ·by_cases ql:l=D
   ·rw [ql];exact hd
   ·have hl:=w.trk l (z.resolve_right ql);cases e:H l with
    | none=>exact absurd e hl
    | some o=>rw [s' l o e ql];exact λz=>nomatch z
  ·exact(w0.sl j y e).go S' (λl o _ _ a1 _ a3=>⟨.inl a1,s' _ _ a3 (λz=>nD (by rw [<-z];exact a1))⟩) (λa o u a1 _ a3=>⟨.inl a1,s' _ _ a3 (λz=>nD (by rw [<-z];exact a1))⟩) λa o a1 a3=>s' _ _ a3 (λz=>nD (by rw [<-z];exact w.sub _ a1))
 refine⟨λi m H'=>∃acc ys,m=vs.length - i/\i<=vs.length/\oX D H H'/\H' D=some (.lst ys)/\ys.length<=i/\ai K H' (λa=>O a\/a=D) ys acc/\Iv i acc,⟨vs.length,[],[],Yh,RD _,λb o e n=>by rw [az n];exact e,bq,RD _,.nil,q0⟩,?_⟩;rintro i m H1 ⟨acc,ys,rfl,hi,s1,e1,hy,ra,q1⟩;by_cases hlt:i < vs.length
 ·refine .inr ⟨S.go i H1 (hP D H1 hD s1) hlt,λx H' y=>?_⟩;have yy:=S.yl i H1 x H' (hP D H1 hD s1) hlt y;clear y;obtain⟨e,y⟩:=yy;subst e;obtain⟨d,ed,rd⟩:=r.get y;have w1:=ex _ s1 (by rw [e1];exact λz=>nomatch z);have S':aH H H' O (λa=>O a\/a=D):=⟨λb o e _=>s1 b o e (dY e hD),λb hb hn z=>z.elim hn λq=>hb (by rw [q];exact hD)⟩;refine hk x σ _ _ (gd H0 O0 _ _ _ _ x d _ _ w1 (rd.step S') (qs i d acc ed q1) λδ2 σ2 q2 w2=>?_);refine hc σ2 _ _ ⟨_,δ2,_,w2,q2,λok H3 q3 s3=>?_⟩;cases ok with
  | true=>
   rw [Yf rfl];refine he σ2 H3 _ ⟨_,δ2,_,w2.mono s3,q3,λd' v H4 q4 s4 r4=>?_⟩;have e4:=s4 _ _ (s3 _ _ e1);have sD:aH H4 (ah H4 D (.lst (ys++[v]))) (λa=>O a\/a=D) (λa=>O a\/a=D):=⟨λb o e n=>by rw [az (λz=>n (.inr z))];exact e,λ_ _ n=>n⟩;refine⟨ys,e4,Yd,vs.length - (i+1),Yd,acc++[d'],ys++[v],rfl,hlt,λb o e n=>by rw [az n];exact s4 _ _ (s3 _ _ (s1 b o e n)),bq,by simpa using hy,?_,q4⟩;exact((ra.mono (s3.trans s4)).append (.cons r4 .nil)).step sD
  | false=>
   rw [Ye Yc];exact⟨vs.length - (i+1),Yd,acc,ys,rfl,hlt,λb o e n=>s3 _ _ (s1 b o e n),s3 _ _ e1,Yd,ra.mono s3,q3⟩
 ·have e:i=vs.length:=Yd
  subst e;refine .inl ⟨S.st _ H1 (hP D H1 hD s1) (QQ _),?_⟩;rw [r.length] at q1;have hrest:∃H2:Hp,H2 D=none/\au H H2/\H1=ah H2 D (.lst ys):=by
   refine⟨λb=>if b=D then none else H1 b,Yh,λb o e=>?_,?_⟩
   ·have n:=dY e hD;show(if b=D then none else H1 b)=some o;rw [Ye n];exact s1 b o e n
   ·funext b;by_cases z:b=D
    ·rw [z,bq];exact e1
    ·rw [az z];show H1 b=if b=D then none else H1 b;rw [Ye z]
  obtain⟨H2,h2,s2,rfl⟩:=hrest;refine k1 acc ys D H2 (qe acc q1) s2 h2 (ra.step ⟨λb o e n=>?_,λb _ n z=>n (.inl z)⟩);rw [az (λz=>n (.inr z))] at e;exact e
def hJ:DB:=λ_ Q=>Q true
def jX(g:TG)(k:Nat):Prop:=∀(fr:List Nat)(σ:St)(v:V)(H':Hp)(R:St->Hp->Prop),g v (bB k fr σ) H' R->g v (bB k fr σ) H' λσ2 H2=>nR (bB k fr σ) σ2/\R σ2 H2
theorem bM:jX (i5 0) 1:=λfr σ v H' R h=>⟨BP,h⟩
def iE(t:DT)(g:DG)(tc:DB)(te:DT)(k:Nat)(fr:List Nat):DA:=λδ Q=>t δ λd=>∃xs,d= .list xs/\xs.length<=Yt/\ji g tc te (dh k fr δ) xs Q
def iF(t:DT)(g:DG)(tc:DB)(te:DT)(k:Nat)(fr:List Nat):DA:=λδ Q=>t δ λd=>∃xs,d= .tuple xs/\xs.length<=Yt/\ji g tc te (dh k fr δ) xs Q
def jj(ta:DA)(g:DG)(tc:DB)(te:DT)(k:Nat)(fr:List Nat):DA:=λδ Q=>ta δ λds=>∃j:Int,ds=[.int j]/\-(2 ^ 62)<=j/\j < Yt/\ji g tc te (dh k fr δ) (nT 0 j.toNat) Q
section
variable {tg iter elt:Yr} {ifs:List Yr} {scope:YW} {N':List Str} {k:Nat} {fr:List Nat} {g:TG} {dg:DG} {t:DT} {ta:DA} {tc:DB} {te:DT} {pos p ps:Pos}
theorem eD(hc:X.calm=true)(S:bb X.env.scope X.N N' k fr scope)(hi:DF X H0 O0 iter t)(gd:GD X.K g dg)(hk:jX g k)(hfr:fr.Nodup)
 (hg:∀fp C s H,PG (bF X scope N' fp C s H) tg g)(hf:∀fp C s H,fu (bF X scope N' fp C s H) ifs (bV X.K H0 O0 tc))(he:∀fp C s H,PE (bF X scope N' fp C s H) elt (up X.K H0 O0 te))
 (hs:∀x,YA iter X.env x=pure x:=by intro _;rfl):FE X H0 O0 (.ListComp elt [⟨tg,iter,ifs,0⟩] scope pos) (iE t dg tc te k fr):=
 (sh hc S (rJ hi) hg hf he hs).imp λσ H Q uu13=>by obtain⟨O,δ,Qd,w,q,kk⟩:=uu13;exact⟨O,δ,_,w,q,λd v H1 uu14 s1 r1=>by
  obtain⟨xs,e,hz,q1⟩:=uu14;subst e;obtain⟨a,vs,rfl,hq,rr⟩:=r1.lst;refine⟨a,rfl,⟨_,hq⟩,λD hD=>pf (cU.list hq) gd hfr (λv _ H' R h=>hk fr σ v H' R h) (λ_ _ _ z=>z) (λ_ _ _ z=>z) (λD H' hD s' o e=>s' _ _ e (dY e hD)) rr (w.mono s1) (by rw [rr.length];exact hz) q1 (λds us p H' z s' hp r'=>kk ds us p H' z (s1.trans s') hp r') D hD⟩⟩
theorem jY(hc:X.calm=true)(S:bb X.env.scope X.N N' k fr scope)(hi:DF X H0 O0 iter t)(gd:GD X.K g dg)(hk:jX g k)(hfr:fr.Nodup)
 (hg:∀fp C s H,PG (bF X scope N' fp C s H) tg g)(hf:∀fp C s H,fu (bF X scope N' fp C s H) ifs (bV X.K H0 O0 tc))(he:∀fp C s H,PE (bF X scope N' fp C s H) elt (up X.K H0 O0 te))
 (hs:∀x,YA iter X.env x=pure x:=by intro _;rfl):FE X H0 O0 (.ListComp elt [⟨tg,iter,ifs,0⟩] scope pos) (iF t dg tc te k fr):=
 (sh hc S (uN hi) hg hf he hs).imp λσ H Q uu15=>by obtain⟨O,δ,Qd,w,q,kk⟩:=uu15;exact⟨O,δ,_,w,q,λd v H1 uu16 s1 r1=>by
  obtain⟨xs,e,hz,q1⟩:=uu16;subst e;obtain⟨a,vs,rfl,hq,rr⟩:=r1.tup;refine⟨a,rfl,⟨_,hq⟩,λD hD=>pf (cU.tup hq) gd hfr (λv _ H' R h=>hk fr σ v H' R h) (λ_ _ _ z=>z) (λ_ _ _ z=>z) (λD H' hD s' o e=>s' _ _ e (dY e hD)) rr (w.mono s1) (by rw [rr.length];exact hz) q1 (λds us p H' z s' hp r'=>kk ds us p H' z (s1.trans s') hp r') D hD⟩⟩
theorem JE(hc:X.calm=true){a:Yr}(S:bb X.env.scope X.N N' k fr scope)(hgl:Gl X "range")(hm:X.mg "range"=none)(ha:PA X [a] (iy X.K H0 O0 ta))(gd:GD X.K g dg)(hk:jX g k)(hfr:fr.Nodup)
 (hg:∀fp C s H,PG (bF X scope N' fp C s H) tg g)(hf:∀fp C s H,fu (bF X scope N' fp C s H) ifs (bV X.K H0 O0 tc))(he:∀fp C s H,PE (bF X scope N' fp C s H) elt (up X.K H0 O0 te))
 (hst:Yp [a] X.env=[(false,eval a X.env)]:=by rfl)(hs:∀x,YA (.Call (.Name "range" p) [a] [] ps) X.env x=pure x:=by intro _;rfl):
 FE X H0 O0 (.ListComp elt [⟨tg,(.Call (.Name "range" p) [a] [] ps),ifs,0⟩] scope pos) (jj ta dg tc te k fr):=
 (sh hc S (uQ hgl hm ha hst) hg hf he hs).imp λσ H Q uu17=>by obtain⟨O,δ,Qd,w,q,kk⟩:=uu17;exact⟨O,δ,_,w,q,λds vs H1 uu18 s1 r1=>by
  obtain⟨j,e,b1,b2,q1⟩:=uu18;subst e;cases r1 with
  | cons r1 r2=>
   cases r2;cases r1.int;have hb:(Yt:Int) < 2 ^ 62:=Yc
   exact⟨j,rfl,b1,Yd,λD hD=>pf (P:=λ_=>True) cU.rng gd hfr (λv _ H' R h=>hk fr σ v H' R h) (λ_ _ _ z=>z) (λ_ _ _ z=>z) (λ_ _ _ _=>trivial) (ai.rng _) (w.mono s1) (by rw [QO,UP];omega) q1 (λds us p H' z s' hp r'=>kk ds us p H' z (s1.trans s') hp r') D hD⟩⟩
end
end
section
variable {K:QN}
def dI(g:Int->Int->Yi):Yi->Yi->(Yi->Prop)->Prop:=λx y Q=>∃i j,x= .int i/\y= .int j/\Q (g i j)
def jZ(C:Int->Int->Prop)(g:Int->Int->Yi):Yi->Yi->(Yi->Prop)->Prop:=λx y Q=>∃i j,x= .int i/\y= .int j/\C i j/\Q (g i j)
theorem bN{g:Int->Int->Int}:cw K (iq λi j=>.int (g i j)) (dI λi j=>.int (g i j)):=λH O x y dx dy Qd R _ hx hy uu19 k=>by
 obtain⟨i,j,e1,e2,q⟩:=uu19;subst e1 e2;cases hx.int;cases hy.int;exact⟨i,j,rfl,rfl,k _ _ H q (au.refl _) (.int _)⟩
theorem di{g:Int->Int->Bool}:cw K (iq λi j=>.bl (g i j)) (dI λi j=>.bool (g i j)):=λH O x y dx dy Qd R _ hx hy uu20 k=>by
 obtain⟨i,j,e1,e2,q⟩:=uu20;subst e1 e2;cases hx.int;cases hy.int;exact⟨i,j,rfl,rfl,k _ _ H q (au.refl _) (.bl _)⟩
theorem aD{C:Int->Int->Prop}{g:Int->Int->Int}:cw K (rI C λi j=>.int (g i j)) (jZ C λi j=>.int (g i j)):=λH O x y dx dy Qd R _ hx hy uu21 k=>by
 obtain⟨i,j,e1,e2,c,q⟩:=uu21;subst e1 e2;cases hx.int;cases hy.int;exact⟨i,j,rfl,rfl,c,k _ _ H q (au.refl _) (.int _)⟩
def BW(K:QN):R2:=λx y H Q=>∃O dx dy,Sh K H O x dx/\Sh K H O y dy/\cy dx/\cy dy/\Q (.bl (Rg dx dy)) H
def BX(K:QN):R2:=λx y H Q=>∃O dx dy,Sh K H O x dx/\Sh K H O y dy/\cy dx/\cy dy/\Q (.bl (!Rg dx dy)) H
theorem cD{X:Cx}(hu:X.A.units+64 < YL):bG X (YF .Eq) (BW X.K):=by
 intro ZY s σ H x y v u Q I rx ry h;obtain⟨O,dx,dy,hx,hy,sx,sy,q⟩:=h;obtain⟨as,ra⟩:=iw I hx.all (Se sx) rx;obtain⟨bs,rb⟩:=iw I hy.all (Se sy) ry;exact SeqAt.compareEq_shaped ra rb sx sy hu (bD I q rfl)
theorem JF{X:Cx}(hu:X.A.units+64 < YL):bG X (YF .NotEq) (BX X.K):=by
 intro ZY s σ H x y v u Q I rx ry h;obtain⟨O,dx,dy,hx,hy,sx,sy,q⟩:=h;obtain⟨as,ra⟩:=iw I hx.all (Se sx) rx;obtain⟨bs,rb⟩:=iw I hy.all (Se sy) ry;exact SeqAt.compareNe_shaped ra rb sx sy hu (bD I q rfl)
def j0:Yi->Yi->(Yi->Prop)->Prop:=λx y Q=>cy x/\cy y/\Q (.bool (Rg x y))
def j1:Yi->Yi->(Yi->Prop)->Prop:=λx y Q=>cy x/\cy y/\Q (.bool (!Rg x y))
theorem cE:cw K (BW K) j0:=λH O x y dx dy Qd R _ hx hy uu22 k=>by obtain⟨a,b,q⟩:=uu22;exact⟨O,dx,dy,hx,hy,a,b,k _ _ H q (au.refl _) (.bl _)⟩
theorem JG:cw K (BX K) j1:=λH O x y dx dy Qd R _ hx hy uu23 k=>by obtain⟨a,b,q⟩:=uu23;exact⟨O,dx,dy,hx,hy,a,b,k _ _ H q (au.refl _) (.bl _)⟩
def j2:Yi->Yi->(Yi->Prop)->Prop:=λx y Q=>∃ds i d,x= .list ds/\y= .int i/\atI ds i=some d/\Q d
def gJ:Yi->Yi->(Yi->Prop)->Prop:=λx y Q=>∃ds i d,x= .tuple ds/\y= .int i/\atI ds i=some d/\Q d
theorem ai.atI{H:Hp}{O:Ex}{vs:List V}{ds:List Yi}{i:Int}{d:Yi}(r:ai K H O vs ds)(e:_L.atI ds i=some d):∃v,_L.atI vs i=some v/\Dt K H O v d:=by
 unfold _L.atI at e⊢;rw [r.length];cases q:i9 ds.length i with
 | none=>rw [q] at e;cases e
 | some j=>rw [q] at e;exact r.getD e
theorem aS:cw K (va K) j2:=λH O x y dx dy Qd R _ hx hy uu24 k=>by
 obtain⟨ds,i,d,e1,e2,e3,q⟩:=uu24;subst e1 e2;obtain⟨a,vs,rfl,hs,r⟩:=hx.lst;cases hy.int;obtain⟨v,hv,rv⟩:=r.atI e3;exact⟨a,vs,i,v,rfl,rfl,hs,hv,k d v H q (au.refl _) rv⟩
theorem aM:cw K (rX K) gJ:=λH O x y dx dy Qd R _ hx hy uu25 k=>by
 obtain⟨ds,i,d,e1,e2,e3,q⟩:=uu25;subst e1 e2;obtain⟨a,vs,rfl,hs,r⟩:=hx.tup;cases hy.int;obtain⟨v,hv,rv⟩:=r.atI e3;exact⟨a,vs,i,v,rfl,rfl,hs,hv,k d v H q (au.refl _) rv⟩
end
section
variable {X:Cx} {H0:Hp} {O0:Ex}
def JH:R2:=λx y H Q=>∃l b xs zs,x= .ref l/\y= .ref b/\Rd H l (.lst xs)/\Rd H b (.lst zs)/\xs.length+zs.length<=Yt/\∀p,H p=none->Q (.ref p) (ah H p (.lst (xs++zs)))
theorem JI:bG X (YU .Add) JH:=by
 intro ZY s σ H x y v u Q I rx ry h;obtain⟨l,b,xs,zs,rfl,rfl,hH,hB,hz,q⟩:=h;cases rx;cases ry;obtain⟨z,its,n,r,e⟩:=hH.ok I.hok;obtain⟨z2,its2,n2,r2,e2⟩:=hB.ok I.hok;have l1:=r.length;have l2:=r2.length;refine PySem.P.add_list e e2 ?_ (by rw [Q4,Q4];omega);have ea:its.toArray++its2.toArray=(its++its2).toArray:=Yh
 rw [ea];exact⟨.ref _,_,I.lnew (t':=s.toks) (r.append r2) (by rw [Q2];omega),rfl,q _ I.fresh⟩
def j3(ta tb:DT):DA:=λδ Q=>ta δ λx=>tb δ λy=>∃xs ys,x= .list xs/\y= .list ys/\xs.length+ys.length<=Yt/\Q (xs++ys)
theorem nW{a b:Yr}{ta tb:DT}{pos:Pos}(ha:DF X H0 O0 a ta)(hb:DF X H0 O0 b tb):FE X H0 O0 (.BinOp a .Add b pos) (j3 ta tb):=
 (bE JI ha hb).imp λσ H Q uu26=>by obtain⟨O,δ,Qd,w,q,k⟩:=uu26;exact⟨O,δ,_,w,q,λx v H1 q1 s1 r1=>⟨O,δ,_,w.mono s1,q1,λy u H2 uu27 s2 r2=>by
  obtain⟨xs,ys,e1,e2,hz,q2⟩:=uu27;subst e1 e2;obtain⟨a,vs,rfl,h1,d1⟩:=(r1.mono s2).lstR;obtain⟨b,us,rfl,h2,d2⟩:=r2.lstR;exact⟨a,b,vs,us,rfl,rfl,h1,h2,by rw [d1.length,d2.length];exact hz,λp hp=>k _ _ _ _ q2 (s1.trans s2) hp (d1.append d2)⟩⟩⟩
def j4:Yi->Yi->(Yi->Prop)->Prop:=λx y Q=>∃xs ys,x= .tuple xs/\y= .tuple ys/\xs≠[]/\xs.length+ys.length<=Yt/\Q (.tuple (xs++ys))
theorem JJ{K:QN}:cw K (uZ K) j4:=λH O x y dx dy Qd R tr hx hy uu28 k=>by
 obtain⟨xs,ys,e1,e2,hn,hz,q⟩:=uu28;subst e1 e2;have hx0:=hx;obtain⟨a,vs,rfl,h1,d1⟩:=hx.tup;obtain⟨b,us,rfl,h2,d2⟩:=hy.tup;refine⟨a,b,vs,us,rfl,rfl,h1,h2,λz=>?_,by rw [d1.length,d2.length];exact hz,λz=>?_,λ_ p hp=>?_⟩
 ·subst z;cases d1;exact hn rfl
 ·subst z;cases d2;rw [RF] at q;cases hx0 with
  | dt hx0=>exact k _ _ H q (au.refl _) hx0
 ·exact k _ _ _ q (au.new hp) (.tup (.inl bq) (λz=>tr p z hp) ((d1.append d2).mono (au.new hp)))
def cV(xs:List Yi)(lo hi:Option Int):List Yi:=(xs.drop (HT.sIx xs.length 0 lo)).take (HT.sIx xs.length xs.length hi - HT.sIx xs.length 0 lo)
theorem ai.cut{K:QN}{H:Hp}{O:Ex}{vs:List V}{ds:List Yi}(r:ai K H O vs ds)(lo hi:Option Int):ai K H O (jF vs lo hi) (cV ds lo hi):=by
 unfold jF cV;rw [r.length];exact(r.drop _).take _
abbrev DO:=Dl->(Option Int->Prop)->Prop
def lT(K:QN)(H0:Hp)(O0:Ex)(t:DO):TO:=λσ H R=>∃O δ Qd,Wd K H0 O0 H O σ δ/\t δ Qd/\∀d H',Qd d->au H H'->R d H'
def j5:DO:=λ_ Q=>Q none
def j6(t:DT):DO:=λδ Q=>t δ λd=>∃i,d= .int i/\Q (some i)
theorem PO.imp{X:Cx}{e:Option Yr}{t u:TO}(h:PO X e t)(i:∀σ H Q,u σ H Q->t σ H Q):PO X e u:=λZY s σ H Q I z=>h ZY s σ H Q I (i σ H Q z)
theorem hU:PO X none (lT X.K H0 O0 j5):=Iw.imp λσ H Q uu29=>by obtain⟨O,δ,Qd,w,q,k⟩:=uu29;exact k none H q (au.refl _)
theorem cq{e:Yr}{t:DT}(h:DE X H0 O0 e t):PO X (some e) (lT X.K H0 O0 (j6 t)):=(Iy h).imp λσ H Q uu30=>by obtain⟨O,δ,Qd,w,q,k⟩:=uu30;exact⟨O,δ,_,w,q,λd v H1 uu31 s1 r1=>by obtain⟨i,e,q1⟩:=uu31;subst e;cases r1;exact⟨i,rfl,k _ H1 q1 s1⟩⟩
def j7(t:DT)(tl th:DO):DA:=λδ Q=>t δ λd=>tl δ λl=>th δ λu=>∃xs,d= .list xs/\Q (cV xs l u)
theorem iG{e:Yr}{lo hi:Option Yr}{t:DT}{tl th:DO}{pos p2:Pos}(h:DF X H0 O0 e t)(hl:PO X lo (lT X.K H0 O0 tl))(hu:PO X hi (lT X.K H0 O0 th)):FE X H0 O0 (.Subscript e (.Slice lo hi none p2) pos) (j7 t tl th):=
 (uY BD h hl hu).imp λσ H Q uu32=>by obtain⟨O,δ,Qd,w,q,k⟩:=uu32;exact⟨O,δ,_,w,q,λd v H1 q1 s1 r1=>⟨O,δ,_,w.mono s1,q1,λl H2 q2 s2=>⟨O,δ,_,w.mono (s1.trans s2),q2,λu H3 uu33 s3=>by
  obtain⟨xs,e,q3⟩:=uu33;subst e;obtain⟨a,vs,rfl,h1,d1⟩:=(r1.mono (s2.trans s3)).lst;exact⟨a,vs,rfl,h1,λp hp=>k _ _ _ _ q3 (s1.trans (s2.trans s3)) hp (d1.cut l u)⟩⟩⟩⟩
theorem ak{a b:Yr}{ta tb:DT}{r:R2}{rd:Yi->Yi->(Yi->Prop)->Prop}{pos:Pos}(ho:qv X r)(hd:cw X.K r rd)(ha:DF X H0 O0 a ta)(hb:DF X H0 O0 b tb)(hs:∀v u,ZP b false v u=operate [v,u] (Zn v u):=by intro _ _;rfl):DE X H0 O0 (.Subscript a b pos) (cC rd ta tb):=(jG ho ha hb hs).imp (su hd)
def j8:List Yi->(Yi->Prop)->Prop:=λds Q=>∃xs,(ds=[.list xs]\/ds=[.tuple xs])/\Q (.int xs.length)
def j9:List Yi->(Yi->Prop)->Prop:=λds Q=>∃xs,ds=[fQ xs]/\Q (.int xs.length)
theorem eF{K:QN}:je K (λxs H Q=>∃p ys,xs=[.ref p]/\(bo K H p ys\/aZ K H p ys)/\Q (.int ys.length) H) j8:=λH O xs ds Qd R _ hs uu34 k=>by
 obtain⟨ys,e,q⟩:=uu34;rcases e with e | e <;> subst e
 ·cases hs with
  | cons h r=>
   cases r;obtain⟨a,vs,rfl,h1,d1⟩:=h.lst;exact⟨a,vs,rfl,.inl h1,by rw [d1.length];exact k _ _ H q (au.refl _) (.int _)⟩
 ·cases hs with
  | cons h r=>
   cases r;obtain⟨a,vs,rfl,h1,d1⟩:=h.tup;exact⟨a,vs,rfl,.inr h1,by rw [d1.length];exact k _ _ H q (au.refl _) (.int _)⟩
theorem JK{K:QN}:je K (λxs H Q=>∃p ys,xs=[.ref p]/\(bo K H p ys\/aZ K H p ys)/\Q (.int ys.length) H) j9:=λH O xs ds Qd R _ hs uu35 k=>by
 obtain⟨ys,e,q⟩:=uu35;subst e;cases hs with
 | cons h r=>
  cases r;obtain⟨a,vs,rfl,h1,d1⟩:=h.scr;exact⟨a,vs,rfl,.inl h1,by rw [d1.length];exact k _ _ H q (au.refl _) (.int _)⟩
def kc:List Yi->(Yi->Prop)->Prop:=λds Q=>∃xs,ds=[.list xs]/\Q (.tuple xs)
theorem fS{K:QN}:je K (λxs H Q=>∃p ys,xs=[.ref p]/\((bo K H p ys/\∀l,H l=none->Q (.ref l) (ah H l (.tup ys)))\/(aZ K H p ys/\Q (.ref p) H))) kc:=λH O xs ds Qd R tr hs uu36 k=>by
 obtain⟨ys,e,q⟩:=uu36;subst e;cases hs with
 | cons h r=>
  cases r;obtain⟨a,vs,rfl,h1,d1⟩:=h.lst;exact⟨a,vs,rfl,.inl ⟨h1,λl hl=>k _ _ _ q (au.new hl) (.tup (.inl bq) (λz=>tr l z hl) (d1.mono (au.new hl)))⟩⟩
theorem ai.bools{K:QN}{H:Hp}{O:Ex}:∀{bs:List Bool}{vs:List V},ai K H O vs (bs.map UL)->vs=bs.map V.bl
 | [],_,r=>by rw [RO] at r;cases r;rfl
 | b::bs,_,r=>by
  rw [QR] at r;cases r with
  | cons h r=>cases h;rw [QR,ai.bools r]
def ke(g:List Bool->Bool):List Yi->(Yi->Prop)->Prop:=λds Q=>∃bs:List Bool,ds=[.list (bs.map .bool)]/\Q (.bool (g bs))
theorem vA{K:QN}{g:List Bool->Bool}:je K (λxs H Q=>∃(a:Yl)(bs:List Bool),xs=[.ref a]/\bo K H a (bs.map V.bl)/\Q (.bl (g bs)) H) (ke g):=λH O xs ds Qd R tr hs uu37 k=>by
 obtain⟨bs,e,q⟩:=uu37;subst e;cases hs with
 | cons h r=>
  cases r;obtain⟨a,vs,rfl,h1,d1⟩:=h.lst;cases d1.bools;exact⟨a,bs,rfl,h1,k _ _ H q (au.refl _) (.bl _)⟩
def kg(g:Int->Int->Int):List Yi->(Yi->Prop)->Prop:=λds Q=>∃i j,ds=[.int i,.int j]/\Q (.int (g i j))
theorem JL{K:QN}{g:Int->Int->Int}:je K (λxs H Q=>∃i j,xs=[.int i,.int j]/\Q (.int (g i j)) H) (kg g):=λH O xs ds Qd R tr hs uu38 k=>by
 obtain⟨i,j,e,q⟩:=uu38;subst e;cases hs with
 | cons h r=>
  cases r with
  | cons h2 r=>
   cases r;cases h.int;cases h2.int;exact⟨i,j,rfl,k _ _ H q (au.refl _) (.int _)⟩
end
section
variable {P:Yu} {w:Yv} {K:QN} {mg:Str->Option Yj} {base:Yw}
def eG(N:List Str)(ds:List Yi):Dl:=ds.map (λd=>some (.v d))++Q8 (N.length - ds.length) none
theorem BY{H:Hp}{O:Ex}{N:List Str}{vs:List V}{ds:List Yi}(tr:∀l,O l->H l≠none)(r:ai K H O vs ds):Wd K H O H O (start N vs) (eG N ds):=by
 have hl:=r.length;have at1:∀(i:Nat) y,(eG N ds)[i]?=some y->(∃d,ds[i]?=some d/\y=some (.v d))\/y=none:=λi y e=>by
  unfold eG at e;by_cases h:i < ds.length
  ·rw [RV (by simpa using h),Q1] at e;cases q:ds[i]? with
   | none=>rw [q] at e;cases e
   | some d=>rw [q] at e;exact .inl ⟨d,rfl,(RT e).symm⟩
  ·rw [Si (by simpa using Tt h),T1] at e;split at e
   ·exact .inr (RT e).symm
   ·cases e
 refine⟨au.refl _,λ_ z=>z,λ_ z=>.inl z,tr,by simp [start,eG,hl],λi y e=>?_,λi j ds' es l e1=>?_⟩
 ·rcases at1 i y e with⟨d,hd,rfl⟩ | rfl
  ·obtain⟨v,hv,rv⟩:=r.getD hd;refine⟨v,?_,rv⟩;unfold start;rw [RV (by simpa using(QZ.mp hv).1),Q1,hv];rfl
  ·exact Tg
 ·rcases at1 i _ e1 with⟨d,_,z⟩ | z
  ·cases z;intro h;exact h.elim
  ·cases z
theorem d9.okD{x qual:Str}{st:Yx}{f:Yl}{fd:Ys}{N ps:List Str}{k:Nat}{F:List Yi->(Yi->Prop)->Prop}(Fu:d9 K x qual st f fd)(S:aO N ps (av st))(len:∀ds Q,F ds Q->ds.length=ps.length)
 (hbody:∀(cdv:Yj) (A:Yz) (outer:List Env) (s:Ym) (H:Hp) (O:Ex) (ds:List Yi) (Q:Yi->Prop) (E:XK),bp k (A.deeper (Zj qual (av st) s.heap.objs.size f cdv))->F ds Q->
  ∃t,bP (iu CX0 P w K mg base N qual (av st) f cdv A outer s H E).nox (fq st) (bh K H O t)/\t {nx:=λ_=>Q .none,rt:=Q} (eG N ds)):aA P w K mg base CX0 (k+1) f fd ps (aV K F):=by
 refine Fu.ok S (λvs H Q E h=>?_) (λcdv A outer s H vs Q E hr h=>?_)
 ·obtain⟨O,ds,Qd,_,r,q,_⟩:=h;rw [r.length];exact len _ _ q
 ·obtain⟨O,ds,Qd,tr,r,q,k⟩:=h;obtain⟨t,ht,q'⟩:=hbody cdv A outer s H O ds Qd E hr q;refine⟨_,ht,O,_,_,BY tr r,q',λO' δ' σ' H' z w' S'=>?_,λd v H' z s' r'=>k d v H' z s' r',λ_ _ _ _ z=>z.elim,λ_ _ _ _ z=>z.elim⟩;exact k _ _ _ z w'.same .non
end
section
variable {X:Cx} {H0:Hp} {O0:Ex}
theorem dj:fu X [] (bV X.K H0 O0 hJ):=λZY s σ H Q I h=>by
 obtain⟨O,δ,Qd,w,q,k⟩:=h;exact BM ZY s σ H Q I (k true H q (au.refl _))
def kh:Yi->Yi->(Yi->Prop)->Prop:=λx y Q=>∃i j,x= .str i/\y= .str j/\i.length+j.length<=Yt/\Q (.str (i++j))
theorem BZ{K:QN}:cw K (λx y H Q=>∃i j,x= .str i/\y= .str j/\i.length+j.length<=Yt/\Q (.str (i++j)) H) kh:=λH O x y dx dy Qd R tr hx hy uu39 k=>by
 obtain⟨i,j,e1,e2,hz,q⟩:=uu39;subst e1 e2;cases hx.str;cases hy.str;exact⟨i,j,rfl,rfl,hz,k _ _ H q (au.refl _) (.str _)⟩
def ki:Yi->Yi->(Yi->Prop)->Prop:=λx y Q=>∃z i c,x= .str z/\y= .int i/\z.length<=Yt/\atI z.cps.toList i=some c/\Q (.str ⟨#[c]⟩)
theorem B0{K:QN}:cw K BB ki:=λH O x y dx dy Qd R tr hx hy uu40 k=>by
 obtain⟨z,i,c,e1,e2,hz,e3,q⟩:=uu40;subst e1 e2;cases hx.str;cases hy.int;exact⟨z,i,c,rfl,rfl,hz,e3,k _ _ H q (au.refl _) (.str _)⟩
theorem JM{K:QN}{F:List Yi->(Yi->Prop)->Prop}{E:XK}:∀σ H Q,up K H0 O0 (gE F gC) σ H Q->oW (aV K F) [] E oV σ H Q:=
 λσ H Q uu41=>by obtain⟨O,δ,Qd,w,q,k⟩:=uu41;exact⟨O,[],Qd,w.trk,.nil,q,λd v H2 q2 s2 r2=>k d v H2 q2 s2 r2⟩
def kj:List Yi->(Yi->Prop)->Prop:=λds Q=>(∃i,ds=[.int i]/\Q (.int i))\/∃b,ds=[.bool b]/\Q (.int (if b then 1 else 0))
theorem qC{K:QN}:je K (λxs H Q=>(∃i,xs=[.int i]/\Q (.int i) H)\/∃k,xs=[.bl k]/\Q (.int (if k then 1 else 0)) H) kj:=λH O xs ds Qd R tr hs h k=>by
 rcases h with⟨i,e,q⟩ | ⟨b,e,q⟩ <;> subst e
 ·cases hs with
  | cons h r=>cases r;cases h.int;exact .inl ⟨i,rfl,k _ _ H q (au.refl _) (.int _)⟩
 ·cases hs with
  | cons h r=>cases r;cases h.bl;exact .inr ⟨b,rfl,k _ _ H q (au.refl _) (.int _)⟩
def km(t:DA):DA:=λδ Q=>t δ λds=>∃xs,(ds=[.list xs]\/ds=[.tuple xs])/\Q xs
theorem JN{a:Yr}{t:DA}{np p:Pos}(hg:Gl X "list")(hm:X.mg "list"=none)(hv:YI "list"=some (.type "list"))(ha:PA X [a] (iy X.K H0 O0 t))(he:Yp [a] X.env=(false,eval a X.env)::Yp [] X.env:=by rfl)(hpl:(YC p (Yp [] X.env)).any (·.1)=false:=by rfl):FE X H0 O0 (.Call (.Name "list" np) [a] [] p) (km t):=
 (cT IJ hg hm hv ha (he:=he) (hpl:=hpl)).imp λσ H Q uu42=>by obtain⟨O,δ,Qd,w,q,k⟩:=uu42;exact⟨O,δ,_,w,q,λds vs H1 uu43 s1 r1=>by
  obtain⟨xs,e,q1⟩:=uu43;rcases e with e | e <;> subst e
  ·cases r1 with
   | cons h r=>
    cases r;obtain⟨a,us,rfl,h1,d1⟩:=h.lst;exact⟨a,us,rfl,.inl h1,λl hl=>k _ _ _ _ q1 s1 hl d1⟩
  ·cases r1 with
   | cons h r=>
    cases r;obtain⟨a,us,rfl,h1,d1⟩:=h.tup;exact⟨a,us,rfl,.inr h1,λl hl=>k _ _ _ _ q1 s1 hl d1⟩⟩
end
theorem dH{α:Type}{a:α}{l:List α}:atI (a::l) 0=some a:=fM (j:=0) rfl
theorem eJ{α:Type}{a b:α}{l:List α}:atI (a::b::l) 1=some b:=fM (j:=1) rfl
theorem hV{α:Type}{a b c:α}{l:List α}:atI (a::b::c::l) 2=some c:=fM (j:=2) rfl
theorem fC{α:Type}{a b c d:α}{l:List α}:atI (a::b::c::d::l) 3=some d:=fM (j:=3) rfl
theorem kn{α:Type}{a b c d e:α}{l:List α}:atI (a::b::c::d::e::l) 4=some e:=fM (j:=4) rfl
theorem lU{i:Int}:cy (.int i):=rfl
theorem lV{i:Bool}:cy (.bool i):=rfl
theorem lW:cy .none:=rfl
theorem dP{x y:Str}:Rg (.str x) (.str y)=(x==y):=by simp [Rg]
theorem lX{x y:Int}:Rg (.int x) (.int y)=(x==y):=by simp [Rg]
theorem cK{x:Str}:cy (.str x)↔QT x=true:=by
 unfold cy Tq;simp [RK,UU]
theorem rV{n d:Nat}:HT.sIx n d none=d:=rfl
theorem sH{n d:Nat}{i:Int}(h0:0<=i)(h1:i<=n):HT.sIx n d (some i)=i.toNat:=by
 obtain⟨j,rfl⟩:=SO h0;rw [HT.sIx_nat,R9];omega
theorem sI{xs:List Yi}{i:Int}(h0:0<=i)(h1:i<=xs.length):cV xs none (some i)=xs.take i.toNat:=by
 unfold cV;rw [rV,sH h0 h1];simp
theorem B1{xs:List Yi}{i:Int}(h0:0<=i)(h1:i<=xs.length):cV xs (some i) none=xs.drop i.toNat:=by
 unfold cV;rw [rV,sH h0 h1,Rl (by rw [Ts];exact QQ _)]
theorem qD{lo:Int}{n i:Nat}{x:Yi}(h:(nT lo n)[i]?=some x):i < n/\x= .int (lo+i):=by
 unfold nT at h;rw [Q1] at h;by_cases hi:i < n
 ·rw [List.getElem?_range hi] at h;exact⟨hi,(RT h).symm⟩
 ·rw [Sv (by simpa using hi)] at h;cases h
theorem vB{lo:Int}{n:Nat}:(nT lo n).length=n:=by unfold nT;simp
section
variable {κ:Type} [DecidableEq κ]
def dJ(kvs:List (κ×V))(k:κ):Option V:=(kvs.find? λkv=>decide (kv.1=k)).map (·.2)
def putK(kvs:List (κ×V))(k:κ)(v:V):List (κ×V):=
 if (kvs.any λkv=>decide (kv.1=k))=true then kvs.map (λkv=>if kv.1=k then(kv.1,v) else kv) else kvs++[(k,v)]
theorem qE{p:κ×V}{r:List (κ×V)}{k:κ}(e:p.1=k):dJ (p::r) k=some p.2:=by simp [dJ,R1,e]
theorem ph{p:κ×V}{r:List (κ×V)}{k:κ}(e:¬p.1=k):dJ (p::r) k=dJ r k:=by simp [dJ,R1,e]
theorem B2(k:κ):∀kvs:List (κ×V),(kvs.any λkv=>decide (kv.1=k))=(dJ kvs k).isSome
 | []=>rfl
 | p::r=>by
  rw [R5];by_cases e:p.1=k
  ·simp only [qE e,decide_eq_true e,Bool.true_or,W6]
  ·rw [ph e,decide_eq_false e,SU];exact B2 k r
theorem B3(kvs:List (κ×V))(k:κ)(v:V):(putK kvs k v).length<=kvs.length+1:=by
 unfold putK;split
 ·rw [QO];omega
 ·rw [Q2,Q0,RJ];omega
theorem dN.isSome_eq{o:Option V}{u:Option Yj}(r:dN o u):o.isSome=u.isSome:=by
 cases o with
 | none=>cases u with
  | none=>rfl
  | some _=>exact(show False from r).elim
 | some _=>cases u with
  | none=>exact(show False from r).elim
  | some _=>rfl
theorem dN.getD{o:Option V}{u:Option Yj}{d:V}{d':Yj}(r:dN o u)(rd:aJ d d'):aJ (o.getD d) (u.getD d'):=by
 cases o with
 | none=>cases u with
  | none=>exact rd
  | some _=>exact(show False from r).elim
 | some _=>cases u with
  | none=>exact(show False from r).elim
  | some _=>exact r
theorem KV.val{kvs:List (κ×V)}{vs:List (κ×Yj)}(r:KV kvs vs)(k:κ):dN (dJ kvs k) (valueAt vs k):=by
 unfold KV at r
 induction r with
 | nil=>exact Tg
 | @cons p q ps qs h t ih=>
  obtain⟨h1,h2⟩:=h;by_cases e:p.1=k
  ·have e':q.1=k:=h1.symm.trans e;have b:valueAt (q::qs) k=some q.2:=by simp [valueAt,R1,e']
   rw [qE e,b];exact h2
  ·have e':¬q.1=k:=λz=>e (h1.trans z);have b:valueAt (q::qs) k=valueAt qs k:=by simp [valueAt,R1,e']
   rw [ph e,b];exact ih
theorem KV.any{kvs:List (κ×V)}{vs:List (κ×Yj)}(r:KV kvs vs)(k:κ):(kvs.any λkv=>decide (kv.1=k))=vs.any λkv=>decide (kv.1=k):=by
 unfold KV at r
 induction r with
 | nil=>rfl
 | cons h t ih=>rw [R5,R5,ih,h.1]
theorem KV.repl{kvs:List (κ×V)}{vs:List (κ×Yj)}(r:KV kvs vs)(k:κ){y:V}{u:Yj}(ry:aJ y u):
 KV (kvs.map λkv=>if kv.1=k then(kv.1,y) else kv) (vs.map λkv=>if kv.1=k then(kv.1,u) else kv):=by
 unfold KV at r⊢
 induction r with
 | nil=>exact .nil
 | @cons p q ps qs h t ih=>
  rw [QR,QR];refine .cons ?_ ih;obtain⟨h1,h2⟩:=h;by_cases e:p.1=k
  ·rw [Yf e,Yf (h1.symm.trans e)];exact⟨h1,ry⟩
  ·rw [Ye e,Ye (λz=>e (h1.trans z))];exact⟨h1,h2⟩
theorem KV.put{kvs:List (κ×V)}{vs:List (κ×Yj)}(r:KV kvs vs)(k:κ){y:V}{u:Yj}(ry:aJ y u):KV (putK kvs k y) (stored vs k u):=by
 unfold putK stored;rw [r.any k];by_cases e:(vs.any λkv=>decide (kv.1=k))=true
 ·rw [Yf e,Yf e];exact r.repl k ry
 ·rw [Ye e,Ye e];exact X4 r ⟨rfl,ry⟩
theorem KV.keys{kvs:List (κ×V)}{vs:List (κ×Yj)}(r:KV kvs vs):kvs.map (·.1)=vs.map (·.1):=by
 unfold KV at r
 induction r with
 | nil=>rfl
 | cons h t ih=>rw [QR,QR,ih,h.1]
theorem KV.length{kvs:List (κ×V)}{vs:List (κ×Yj)}(r:KV kvs vs):kvs.length=vs.length:=VS r
end
theorem nX{P:Yu}{w:Yv}{k:aq}{u:Yj}(r:aJ (kV k) u):(dF P w).is k u=true:=by
 cases k with
 | inl i=>obtain⟨t,e⟩:=(show ∃t,u=Tv i t from r);subst e;exact Hc P w i t
 | inr x=>obtain⟨t,e⟩:=(show ∃t,u=UB x t from r);subst e;exact He P w x t
theorem B4{P:Yu}{w:Yv}:∀{ks:List aq}{us:List Yj},aI (ks.map kV) us->ItemsAre (dF P w) ks us
 | [],_,r=>by rw [RO] at r;cases r;exact .nil
 | k::ks,_,r=>by
  rw [QR] at r;cases r with
  | cons h t=>exact .cons (nX h) (B4 t)
abbrev KT(H:Hp):List (List aq×V)->List (List aq×Yl×Yj)->Prop:=Paired λp q=>p.1=q.1/\H q.2.1=some (.tup (p.1.map kV))/\aJ p.2 q.2.2
theorem KT.val{H:Hp}{kvs:List (List aq×V)}{xs:List (List aq×Yl×Yj)}(r:KT H kvs xs)(k:List aq):dN (dJ kvs k) ((atKey xs k).map (·.2)):=by
 induction r with
 | nil=>exact Tg
 | @cons p q ps qs h t ih=>
  obtain⟨h1,_,h2⟩:=h;by_cases e:p.1=k
  ·have e':q.1=k:=h1.symm.trans e;have b:atKey (q::qs) k=some q.2:=by simp [atKey,R1,e']
   rw [qE e,b];exact h2
  ·have e':¬q.1=k:=λz=>e (h1.trans z);have b:atKey (q::qs) k=atKey qs k:=by simp [atKey,R1,e']
   rw [ph e,b];exact ih
theorem KT.repl{H:Hp}{kvs:List (List aq×V)}{xs:List (List aq×Yl×Yj)}(r:KT H kvs xs)(k:List aq){y:V}{u:Yj}(ry:aJ y u):
 KT H (kvs.map λkv=>if kv.1=k then(kv.1,y) else kv) (xs.map (putAt k u)):=by
 induction r with
 | nil=>exact .nil
 | @cons p q ps qs h t ih=>
  rw [QR,QR];refine .cons ?_ ih;obtain⟨h1,h2,h3⟩:=h;unfold putAt;by_cases e:p.1=k
  ·rw [Yf e,Yf (h1.symm.trans e)];exact⟨h1,h2,ry⟩
  ·rw [Ye e,Ye (λz=>e (h1.trans z))];exact⟨h1,h2,h3⟩
theorem KT.put{H:Hp}{kvs:List (List aq×V)}{xs:List (List aq×Yl×Yj)}(r:KT H kvs xs)(k:List aq){b:Yl}{y:V}{u:Yj}(hb:H b=some (.tup (k.map kV)))(ry:aJ y u):
 KT H (putK kvs k y) (storedH xs k b u):=by
 have e:(kvs.any λkv=>decide (kv.1=k))=(atKey xs k).isSome:=by
  rw [B2,(r.val k).isSome_eq,Vm]
 unfold putK storedH;rw [e];by_cases q:(atKey xs k).isSome=true
 ·rw [Yf q,Yf q];exact r.repl k ry
 ·rw [Ye q,Ye q];exact X4 r ⟨rfl,hb,ry⟩
theorem KT.keeps{H H':Hp}{kvs:List (List aq×V)}{xs:List (List aq×Yl×Yj)}(r:KT H kvs xs)(ht:∀b ys,H b=some (.tup ys)->H' b=some (.tup ys)):KT H' kvs xs:=
 Paired.mapP r λ_ _ z=>⟨z.1,ht _ _ z.2.1,z.2.2⟩
section
variable {P:Yu} {w:Yv} {H:Hp} {h:Yw} {a:Yl}
theorem B5{u:HO}(ok:bK P w H h)(e:Rd H a u):cj P w H h a u:=e.ok ok
theorem ko{kvs:List (aq×V)}(ok:bK P w H h)(e:Rd H a (.dK kvs)):kvs.length<=Yt/\(a==Y0)=false/\∃vs,KV kvs vs/\h.DictOf (dF P w) a vs:=
 show cj P w H h a (.dK kvs) from B5 ok e
theorem JO{kvs:List (aq×V)}(ok:bK P w H h)(e:H a=some (.dK kvs)):kvs.length<=Yt/\(a==Y0)=false/\∃vs,KV kvs vs/\h.DictOf (dF P w) a vs:=ko ok (.inl e)
theorem nY{ks:List aq}(ok:bK P w H h)(e:H a=some (.tup (ks.map kV))):(ZA (dF P w)).is h ks a:=by
 obtain⟨_,its,r,o,h1,h2,n,h3⟩:=(show cj P w H h a (.tup (ks.map kV)) from ok a _ e);exact⟨o,its.toArray,n,h1,h2,h3,by simpa using B4 r⟩
theorem lY{kvs:List (List aq×V)}(ok:bK P w H h)(e:Rd H a (.dT kvs)):kvs.length<=Yt/\(a==Y0)=false/\
 ∃xs,KT H kvs xs/\h.DictOfH (ZA (dF P w)) a xs:=by
 obtain⟨z,y,xs,r,o,es,ep,h1,h2,h3,h4,h5⟩:=(show cj P w H h a (.dT kvs) from B5 ok e);refine⟨z,y,xs,r,o,es,ep,h1,h2,h3,h4,λx hx=>?_,h5⟩;have all:∀{l:List (List aq×V)}{m:List (List aq×Yl×Yj)},KT H l m->∀x∈m,(ZA (dF P w)).is h x.1 x.2.1:=by
  intro l m q
  induction q with
  | nil=>intro x hx;exact nomatch hx
  | @cons p q ps qs hq t ih=>
   intro x hx;rcases QX.mp hx with e | hx
   ·subst e;exact nY ok (by rw [<-hq.1];exact hq.2.1)
   ·exact ih x hx
 exact all r x hx
theorem JP{kvs:List (List aq×V)}(ok:bK P w H h)(e:H a=some (.dT kvs)):kvs.length<=Yt/\(a==Y0)=false/\
 ∃xs,KT H kvs xs/\h.DictOfH (ZA (dF P w)) a xs:=lY ok (.inl e)
end
def cF(H:Hp)(a:Yl)(y:V)(r:Option V):Prop:=
 (∃kvs k,Rd H a (.dK kvs)/\y=kV k/\r=dJ kvs k)\/∃kvs k b,Rd H a (.dT kvs)/\y= .ref b/\H b=some (.tup (k.map kV))/\r=dJ kvs k
def nZ(H:Hp)(a:Yl)(y v:V)(H':Hp):Prop:=
 (∃kvs k,H a=some (.dK kvs)/\y=kV k/\kvs.length < Yt/\H'=ah H a (.dK (putK kvs k v)))\/
 ∃kvs k b,H a=some (.dT kvs)/\y= .ref b/\H b=some (.tup (k.map kV))/\kvs.length < Yt/\H'=ah H a (.dT (putK kvs k v))
theorem cF.k{H:Hp}{a:Yl}{kvs:List (aq×V)}{k:aq}(e:H a=some (.dK kvs)):cF H a (kV k) (dJ kvs k):= .inl ⟨kvs,k,.inl e,rfl,rfl⟩
theorem nZ.k{H:Hp}{a:Yl}{kvs:List (aq×V)}{k:aq}{v:V}(e:H a=some (.dK kvs))(hl:kvs.length < Yt):nZ H a (kV k) v (ah H a (.dK (putK kvs k v))):= .inl ⟨kvs,k,e,rfl,hl,rfl⟩
section
variable {X:Cx} {ZY:List (Yl×Obj)} {σ:St} {H:Hp} {s:Ym} {a:Yl} {y v:V} {u r:Yj} {o:Option V} {A:Yz} {E:Yj->Ym->Prop}
theorem ag.big(I:ag X ZY σ H s):Y0 < s.heap.objs.size:=by
 have h:Yy < s.heap.objs.size:=(I.mod.glob.keeps I.bk).lt;exact XY Yc h
theorem JQ{Q:Yj->Ym->Prop}(hu:A.units+1 < YL)(I:ag X ZY σ H s)(g:cF H a y (some v))(ry:aJ y u)(h:∀w' s',ag X ZY σ H s'->aJ v w'->Q w' s'):
 Yo (Yq X.prog X.w) A (Zn (.ref a) u) Q E s:=by
 rcases g with⟨kvs,k,e,ey,l⟩ | ⟨kvs,k,b,e,ey,eb,l⟩
 ·subst ey;obtain⟨z,hd,vs,rel,dd⟩:=ko I.hok e;obtain⟨w',hw,rw'⟩:=dN.some_of (v:=v) (o:=valueAt vs k) (by rw [l];exact rel.val k);exact wpAny_getItem_of (nX ry) dd.mapOf hw (h w' _ (I.tok _) rw')
 ·subst ey;cases (show u=RE b from ry);obtain⟨z,hd,xs,rel,dd⟩:=lY I.hok e;obtain⟨w',hw,rw'⟩:=dN.some_of (v:=v) (o:=(atKey xs k).map (·.2)) (by rw [l];exact rel.val k);obtain⟨p,hp,hp2⟩:=Tr.mp hw;refine wpAny_getItem_heap (Y3 hu) (nY I.hok eb) dd hp ?_;rw [hp2];exact h w' _ (I.tok _) rw'
theorem JR{Q:Yj->Ym->Prop}(hu:A.units+1 < YL)(I:ag X ZY σ H s)(g:cF H a y o)(ry:aJ y u)(h:∀s',ag X ZY σ H s'->Q (.bool o.isSome) s'):
 Yo (Yq X.prog X.w) A (YF .In u (.ref a)) Q E s:=by
 rcases g with⟨kvs,k,e,ey,l⟩ | ⟨kvs,k,b,e,ey,eb,l⟩
 ·subst ey;obtain⟨z,hd,vs,rel,dd⟩:=ko I.hok e;refine wpAny_in_of (nX ry) hd dd.mapOf ?_;rw [<-(rel.val k).isSome_eq,<-l];exact h _ (I.tok _)
 ·subst ey;cases (show u=RE b from ry);obtain⟨z,hd,xs,rel,dd⟩:=lY I.hok e;refine wpAny_in_heap (Y3 hu) (nY I.hok eb) hd dd ?_;have q:=(rel.val k).isSome_eq;rw [Vm] at q;rw [<-q,<-l];exact h _ (I.tok _)
theorem JS{Q:Yj->Ym->Prop}(hu:A.units+1 < YL)(I:ag X ZY σ H s)(g:cF H a y o)(ry:aJ y u)(h:∀s',ag X ZY σ H s'->Q (.bool (!o.isSome)) s'):
 Yo (Yq X.prog X.w) A (YF .NotIn u (.ref a)) Q E s:=by
 rcases g with⟨kvs,k,e,ey,l⟩ | ⟨kvs,k,b,e,ey,eb,l⟩
 ·subst ey;obtain⟨z,hd,vs,rel,dd⟩:=ko I.hok e;refine wpAny_notIn_of (nX ry) hd dd.mapOf ?_;rw [<-(rel.val k).isSome_eq,<-l];exact h _ (I.tok _)
 ·subst ey;cases (show u=RE b from ry);obtain⟨z,hd,xs,rel,dd⟩:=lY I.hok e;refine wpAny_notIn_heap (Y3 hu) (nY I.hok eb) hd dd ?_;have q:=(rel.val k).isSome_eq;rw [Vm] at q;rw [<-q,<-l];exact h _ (I.tok _)
theorem B6{h':Yw}{t':Nat}{ob:HO}(I:ag X ZY σ H s)(mu:p8 (H a))(hs:Tp a s.heap h')(he:∃q,h'.get? a=some q)(new:cj X.prog X.w (ah H a ob) h' a ob):
 ag X ZY σ (ah H a ob) {s with heap:=h',toks:=t'}:=
 I.write (x:=a) (e:=a) mu (.inl rfl) (λb q hb z=>(hs.2 b hb).trans z) he new
theorem JT{P:Yu}{w:Yv}{H':Hp}{h':Yw}{kvs:List (aq×V)}{vs:List (aq×Yj)}(z:kvs.length<=Yt)(hd:(a==Y0)=false)(rel:KV kvs vs)(dd:h'.DictOf (dF P w) a vs):
 cj P w H' h' a (.dK kvs):=⟨z,hd,vs,rel,dd⟩
theorem JU{H':Hp}{Q:Unit->Ym->Prop}(hu:A.units+1 < YL)(I:ag X ZY σ H s)(g:nZ H a y v H')(ry:aJ y u)(rv:aJ v r)(h:∀s',ag X ZY σ H' s'->Q () s'):
 Yo (Yq X.prog X.w) A (setItem (.ref a) u r) Q E s:=by
 rcases g with⟨kvs,k,e,ey,l,eH⟩ | ⟨kvs,k,b,e,ey,eb,l,eH⟩
 ·subst ey eH;obtain⟨z,hd,vs,rel,dd⟩:=JO I.hok e;have hz:vs.length<=Yt:=by rw [<-rel.length];exact z
  have hl:(putK kvs k v).length<=Yt:=by have:=B3 kvs k v;omega
  refine wpAny_setItem_pairs (hsz:=hz) (nX ry) dd λh' dd' hs=>h _ ?_;have he:∃q,h'.get? a=some q:=let ⟨q,_,_,hq,_⟩:=dd';⟨q,hq⟩
  exact B6 I (by rw [e];exact Tg) hs he (JT hl hd (rel.put k rv) dd')
 ·subst ey eH;cases (show u=RE b from ry);obtain⟨z,hd,xs,rel,dd⟩:=JP I.hok e;have hz:xs.length<=Yt:=by rw [<-VS rel];exact z
  have hl:(putK kvs k v).length<=Yt:=by have:=B3 kvs k v;omega
  refine wpAny_setItem_heap (hsz:=hz) (Y3 hu) (nY I.hok eb) dd λh' dd' hs=>h _ ?_;obtain⟨q,es,ep,hq,h2,h3,h4,_,h5⟩:=dd';refine B6 I (by rw [e];exact Tg) hs ⟨q,hq⟩ ⟨hl,hd,_,(rel.put k eb rv).keeps λc ys ec=>?_,q,es,ep,hq,h2,h3,h4,h5⟩;rw [az (Hg ec e (λz=>nomatch z))];exact ec
end
def sJ(i:Yr):Prop:=∀ov iv,ZP i false ov iv=operate [ov,iv] (Zn ov iv)
theorem JV{prog:Yu}{w:Yv}{A:Yz}{E:Yj->Ym->Prop}{s:Ym}{env:Env}{value slice:Yr}{pos:Pos}{T id:String}{Q:Yj->Ym->Prop}
 (hl:typeLookup (.type T) "__getitem__"=pure (some (.builtin id)))(hs:sJ slice)
 (h:Yo (Yq prog w) A (eval value env) (λo s₁=>Yo (Yq prog w) A (eval slice env) (λi s₂=>s₂.TypeIs o T/\Yo (Yq prog w) A (Zn o i) Q E s₂) E s₁) E s):
 Yo (Yq prog w) A (eval (.Subscript value slice pos) env) Q E s:=by
 refine Subscript_ (YJ h (λo s₁ h₁=>YJ h₁ (λi s₂ h₂=>?_) λ_ _ x=>x) λ_ _ x=>x);obtain⟨hT,h₂⟩:=h₂;unfold subscriptTail;refine Yk ?_;rw [getitemInPython_of_ne hT.not_modules];refine Yk (wpAny_specialOf hT hl ?_);have fin:Yo (Yq prog w) A (ZP slice false o i) (λr s₃=>Yo (Yq prog w) A (letTemporaryGo value o r >>=λ_=>pure r) Q E s₃) E s₂:=by
  rw [hs o i];exact wpAny_operating (YJ h₂ (λr s₃ h₃=>Yk (wpAny_letTemporaryGo (Yn h₃))) λ_ _ x=>x)
 first
  | exact Yn (Yk fin)
  | exact Yk (Yn (Yk fin))
  | exact Yk fin
theorem JW{X:Cx}{ZY:List (Yl×Obj)}{σ:St}{H:Hp}{s:Ym}{a:Yl}{y:V}{o:Option V}(I:ag X ZY σ H s)(g:cF H a y o):s.TypeIs (.ref a) "dict":=by
 rcases g with⟨kvs,k,e,_,_⟩ | ⟨kvs,k,b,e,_,_,_⟩
 ·obtain⟨_,_,vs,_,dd⟩:=ko I.hok e;exact dd.typeIs
 ·obtain⟨_,_,xs,_,dd⟩:=lY I.hok e;exact dd.typeIs
def JX(td ty:TE):TE:=λσ H Q=>td σ H λx H1=>ty σ H1 λy H2=>∃a v,x= .ref a/\cF H2 a y (some v)/\Q v H2
def JY(ty td:TE):TE:=λσ H Q=>ty σ H λy H1=>td σ H1 λx H2=>∃a o,x= .ref a/\cF H2 a y o/\Q (.bl o.isSome) H2
def JZ(ty td:TE):TE:=λσ H Q=>ty σ H λy H1=>td σ H1 λx H2=>∃a o,x= .ref a/\cF H2 a y o/\Q (.bl (!o.isSome)) H2
def B7(td ty tv:TE):TS:=λD σ H=>tv σ H λv H1=>td σ H1 λx H2=>ty σ H2 λy H3=>∃a H4,x= .ref a/\nZ H3 a y v H4/\D.nx σ H4
section
variable {X:Cx} {o i e value:Yr} {pos pos' tpos:Pos} {td ty tv:TE}
theorem B8(hu:X.A.units+1 < YL)(ho:PE X o td)(hi:PE X i ty)(hs:sJ i):PE X (.Subscript o i pos) (JX td ty):=by
 intro ZY s σ H Q I h;refine JV PySem.F.slot_dict_getitem.lookup hs (aB (ho ZY s σ H _ I h) λu s1 ⟨x,H1,I1,rx,q1⟩=>aB (hi ZY s1 σ H1 _ I1 q1) λiv s2 ⟨y,H2,I2,ry,a,v,ex,g,q2⟩=>?_);subst ex;obtain rfl:u=RE a:=rx;exact⟨JW I2 g,JQ hu I2 g ry λw' s3 I3 rw'=>⟨v,H2,I3,rw',q2⟩⟩
theorem J0(hu:X.A.units+1 < YL)(hi:PE X i ty)(ho:PE X o td):PC X .In i o (JY ty td):=by
 intro ZY s σ H Q I h;refine aB (hi ZY s σ H _ I h) λiv s1 ⟨y,H1,I1,ry,q1⟩=>aB (ho ZY s1 σ H1 _ I1 q1) λu s2 ⟨x,H2,I2,rx,a,ov,ex,g,q2⟩=>?_;subst ex;obtain rfl:u=RE a:=rx;exact JR hu I2 g ry λs3 I3=>⟨.bl ov.isSome,H2,I3,rfl,q2⟩
theorem B9(hu:X.A.units+1 < YL)(hi:PE X i ty)(ho:PE X o td):PC X .NotIn i o (JZ ty td):=by
 intro ZY s σ H Q I h;refine aB (hi ZY s σ H _ I h) λiv s1 ⟨y,H1,I1,ry,q1⟩=>aB (ho ZY s1 σ H1 _ I1 q1) λu s2 ⟨x,H2,I2,rx,a,ov,ex,g,q2⟩=>?_;subst ex;obtain rfl:u=RE a:=rx;exact JS hu I2 g ry λs3 I3=>⟨.bl (!ov.isSome),H2,I3,rfl,q2⟩
theorem vC(hu:X.A.units+1 < YL)(ho:PE X o td)(hi:PE X i ty)(hv:PE X value tv)(hs:YD value (some (.Subscript o i pos')) pos.line X.env=pure false):
 PS X (.Assign [.Subscript o i pos'] value pos) (B7 td ty tv):=by
 intro ZY s σ H D I h;refine wpAny_Assign_Subscript (aB (hv ZY s σ H _ I h) λr s1 ⟨v,H1,I1,rv,q1⟩=>aB (ho ZY s1 σ H1 _ I1 q1) λu s2 ⟨x,H2,I2,rx,q2⟩=>aB (hi ZY s2 σ H2 _ I2 q2) λiv s3 ⟨y,H3,I3,ry,a,H4,ex,g,q3⟩=>?_) hs;subst ex;obtain rfl:u=RE a:=rx;exact JU hu I3 g ry rv λs4 I4=>⟨σ,H4,I4,q3⟩
end
theorem Ca{P:Yu}{w:Yv}{H:Hp}(h:Yw)(hb:Y0 < h.objs.size):cj P w H (h.push {cls:= .type "dict",data:= .dict #[]}) h.objs.size (.dK []):=
 ⟨RD _,beq_eq_false_iff_ne.mpr (Ne.symm (Rz hb)),[],.nil,Heap.DictOf.new h⟩
def J1:TE:=λ_ H Q=>∀p,H p=none->Q (.ref p) (ah H p (.dK []))
section
variable {X:Cx} {pos:Pos}
theorem J3:PE X (.Dict [] [] pos) J1:=λZY s σ H Q I h=>
 wpAny_Dict_empty ⟨.ref s.heap.objs.size,_,I.laid (a:=s.heap.objs.size) (o:= .dK []) (t':=s.toks) (λ_ _ q=>QS _ q) (QQ _) (Ca s.heap I.big),rfl,h _ (I.hok.fresh (QQ _))⟩
end
structure M1 (X:Cx) (o:Yr) (m:Str) (apos:Pos) (e:Yr) (cpos:Pos):Prop where
 base:YQ o m X.env (eval o X.env)=eval o X.env
 few:((YC cpos (Yp [e] X.env)).all (λx=>!x.1) && (Y6 cpos (YS [] X.env)).all (λx=>x.1.isSome)
  && decide (([e]:List Yr).length+([]:List Y5).length+(if ([]:List Y5).isEmpty then 0 else 1) < 30))=true
 line:(apos.endLine==cpos.line)=true
 trees:YC cpos (Yp [e] X.env)=[(false,eval e X.env)]
structure M2 (X:Cx) (o:Yr) (m:Str) (apos:Pos) (e f:Yr) (cpos:Pos):Prop where
 base:YQ o m X.env (eval o X.env)=eval o X.env
 few:((YC cpos (Yp [e,f] X.env)).all (λx=>!x.1) && (Y6 cpos (YS [] X.env)).all (λx=>x.1.isSome)
  && decide (([e,f]:List Yr).length+([]:List Y5).length+(if ([]:List Y5).isEmpty then 0 else 1) < 30))=true
 line:(apos.endLine==cpos.line)=true
 trees:YC cpos (Yp [e,f] X.env)=[(false,eval e X.env),(false,eval f X.env)]
def vD(H:Hp)(a:Yl):Prop:=(∃kvs,Rd H a (.dK kvs))\/∃kvs,Rd H a (.dT kvs)
theorem Cb{X:Cx}{ZY:List (Yl×Obj)}{σ:St}{H:Hp}{s:Ym}{a:Yl}(I:ag X ZY σ H s)(d:vD H a):
 s.TypeIs (.ref a) "dict"/\(∀b,RE a= .ref b->∃ob,s.heap.get? b=some ob/\ob.dict=none)/\(a==Y0)=false:=by
 rcases d with⟨kvs,e⟩ | ⟨kvs,e⟩
 ·obtain⟨_,hd,vs,_,dd⟩:=ko I.hok e;refine⟨dd.typeIs,λb q=>?_,hd⟩;cases q;obtain⟨ob,_,_,h1,h2,_⟩:=dd;exact⟨ob,h1,h2.2.1⟩
 ·obtain⟨_,hd,xs,_,dd⟩:=lY I.hok e;refine⟨dd.typeIs,λb q=>?_,hd⟩;cases q;obtain⟨ob,_,_,h1,h2,_⟩:=dd;exact⟨ob,h1,h2.2.1⟩
section
variable {X:Cx} {ZY:List (Yl×Obj)} {σ:St} {H:Hp} {s:Ym} {a:Yl} {y d:V} {u r:Yj} {o:Option V} {A:Yz} {E:Yj->Ym->Prop}
theorem J4{Q:Yj->Ym->Prop}(hu:A.units+1 < YL)(I:ag X ZY σ H s)(g:cF H a y o)(ry:aJ y u)(h:∀w' s',ag X ZY σ H s'->aJ (o.getD .non) w'->Q w' s'):
 Yo (Yq X.prog X.w) A (call (.builtin "dict.get") [.ref a,u]) Q E s:=by
 rcases g with⟨kvs,k,e,ey,l⟩ | ⟨kvs,k,b,e,ey,eb,l⟩
 ·subst ey;obtain⟨z,hd,vs,rel,dd⟩:=ko I.hok e;refine call_meetsIn Tx dd.typeIs UM (Wr _ _) (meets_dict_get (dF X.prog X.w) a (nX ry) hd) ⟨_,dd.mapOf,h _ _ (I.tok _) ?_⟩;rw [l];exact(rel.val k).getD rfl
 ·subst ey;cases (show u=RE b from ry);obtain⟨z,hd,xs,rel,dd⟩:=lY I.hok e;refine call_meetsIn Tx dd.typeIs UM (Wr _ _) (meetsH_dict_get (ZA (dF X.prog X.w)) a b hd) ⟨Y3 hu,k,xs,nY I.hok eb,dd,h _ _ (I.tok _) ?_⟩;rw [l];exact(rel.val k).getD rfl
theorem J5{Q:Yj->Ym->Prop}(hu:A.units+1 < YL)(I:ag X ZY σ H s)(g:cF H a y o)(ry:aJ y u)(rd:aJ d r)(h:∀w' s',ag X ZY σ H s'->aJ (o.getD d) w'->Q w' s'):
 Yo (Yq X.prog X.w) A (call (.builtin "dict.get") [.ref a,u,r]) Q E s:=by
 rcases g with⟨kvs,k,e,ey,l⟩ | ⟨kvs,k,b,e,ey,eb,l⟩
 ·subst ey;obtain⟨z,hd,vs,rel,dd⟩:=ko I.hok e;refine call_meetsIn Tx dd.typeIs UM (Ws _ _ _) (meets_dict_get_default (dF X.prog X.w) a (nX ry) hd r) ⟨_,dd.mapOf,h _ _ (I.tok _) ?_⟩;rw [l];exact(rel.val k).getD rd
 ·subst ey;cases (show u=RE b from ry);obtain⟨z,hd,xs,rel,dd⟩:=lY I.hok e;refine call_meetsIn Tx dd.typeIs UM (Ws _ _ _) (meetsH_dict_get_default (ZA (dF X.prog X.w)) a b hd r) ⟨Y3 hu,k,xs,nY I.hok eb,dd,h _ _ (I.tok _) ?_⟩;rw [l];exact(rel.val k).getD rd
end
def J6(td ty:TE):TE:=λσ H Q=>td σ H λx H1=>∃a,x= .ref a/\vD H1 a/\ty σ H1 λy H2=>∃o,cF H2 a y o/\Q (o.getD .non) H2
def J7(td ty tx:TE):TE:=λσ H Q=>td σ H λx H1=>∃a,x= .ref a/\vD H1 a/\ty σ H1 λy H2=>tx σ H2 λz H3=>∃o,cF H3 a y o/\Q (o.getD z) H3
section
variable {X:Cx} {o e f:Yr} {apos cpos:Pos} {td ty tx:TE}
theorem Cc(hu:X.A.units+1 < YL)(ho:PE X o td)(he:PE X e ty)(m:M1 X o "get" apos e cpos):PE X (.Call (.Attribute o "get" apos) [e] [] cpos) (J6 td ty):=by
 intro ZY s σ H Q I h;refine wpAny_Call_method m.base m.few m.line Wt Tx WJ (aB (ho ZY s σ H _ I h) λu s1 ⟨x,H1,I1,rx,a,ex,d,q1⟩=>?_);subst ex;obtain rfl:u=RE a:=rx;obtain⟨t1,t2,_⟩:=Cb I1 d;refine⟨t1,t2,?_⟩;rw [m.trees];refine Vq rfl (VA (Va (aB (he ZY s1 σ H1 _ I1 q1) λiv s2 ⟨y,H2,I2,ry,ov,g,q2⟩=>V6 ?_)));exact J4 hu I2 g ry λw' s3 I3 rw'=>⟨_,H2,I3,rw',q2⟩
theorem J8(hu:X.A.units+1 < YL)(ho:PE X o td)(he:PE X e ty)(hf:PE X f tx)(m:M2 X o "get" apos e f cpos):PE X (.Call (.Attribute o "get" apos) [e,f] [] cpos) (J7 td ty tx):=by
 intro ZY s σ H Q I h;refine wpAny_Call_method m.base m.few m.line Wt Tx WJ (aB (ho ZY s σ H _ I h) λu s1 ⟨x,H1,I1,rx,a,ex,d,q1⟩=>?_);subst ex;obtain rfl:u=RE a:=rx;obtain⟨t1,t2,_⟩:=Cb I1 d;refine⟨t1,t2,?_⟩;rw [m.trees];refine Vq rfl (VA (Va (aB (he ZY s1 σ H1 _ I1 q1) λiv s2 ⟨y,H2,I2,ry,q2⟩=>
  Va (aB (hf ZY s2 σ H2 _ I2 q2) λfv s3 ⟨z,H3,I3,rz,ov,g,q3⟩=>V6 ?_))))
 exact J5 hu I3 g ry rz λw' s4 I4 rw'=>⟨_,H3,I4,rw',q3⟩
end
section
variable {X:Cx} {H0:Hp} {O0:Ex}
def litsOf:List Yr->Option (List Yi)
 | []=>some []
 | .Constant (.int i) _ _::r=>(litsOf r).map (.int i::·)
 | .Constant (.str x) _ _::r=>(litsOf r).map (.str x::·)
 | _::_=>none
def jk(ds:List Yi):DA:=λ_ Q=>Q ds
theorem lZ:∀{es:List Yr}{ds:List Yi},litsOf es=some ds->PA X es (gA X.K H0 O0 (jk ds))
 | [],ds,h=>by cases h;exact aj
 | e::r,ds,h=>by
  cases e with
  | Constant c j p=>
   cases c with
   | int i=>
    have h':(litsOf r).map (.int i::·)=some ds:=h;cases q:litsOf r with
    | none=>rw [q] at h';cases h'
    | some ms=>rw [q] at h';cases h';exact aa af (lZ q)
   | str x=>
    have h':(litsOf r).map (.str x::·)=some ds:=h;cases q:litsOf r with
    | none=>rw [q] at h';cases h'
    | some ms=>rw [q] at h';cases h';exact aa aX (lZ q)
   | _=>cases h
  | _=>cases h
def litsE:Yr->Option (List Yi)
 | .List es _=>litsOf es
 | _=>none
theorem vE{e:Yr}{ds:List Yi}(h:litsE e=some ds):FE X H0 O0 e (jg (jk ds)):=by
 cases e with
 | List es p=>exact bW (lZ h)
 | _=>cases h
theorem J9{e:Yr}{ds:List Yi}{x:Option Yr}{n:Nat}{env:Env}(h:litsE e=some ds):YD e x n env=pure false:=by
 cases e with
 | List es p=>rfl
 | _=>cases h
end
structure l4 (n:Nat) (x:Str):Prop where
 ok:QT x=true
 le:x.length<=n
theorem qF{x:Str}:QT x=true↔∀c∈x.cps.toList,c < 0x110000:=by
 unfold QT;rw [<-Array.all_toList,Wk];simp
theorem Ka(x y:Str):(x++y).cps=x.cps++y.cps:=rfl
theorem Cd(x y:Str):(x++y).length=x.length+y.length:=by
 show(x.cps++y.cps).size=_;rw [Array.size_append];rfl
theorem l4.append{a b:Nat}{x y:Str}(h:l4 a x)(h':l4 b y):l4 (a+b) (x++y):=by
 refine⟨qF.mpr λc hc=>?_,by rw [Cd];have:=h.le;have:=h'.le;omega⟩;rw [Ka,Array.toList_append] at hc;rcases Q9.mp hc with z | z
 ·exact qF.mp h.ok c z
 ·exact qF.mp h'.ok c z
theorem l4.chr{c:Nat}(h:c < 0x110000):l4 1 ⟨#[c]⟩:=⟨qF.mpr λd hd=>by
 have:d=c:=by simpa using hd
 rw [this];exact h,QQ _⟩
def pj:Str:="abcdefghijklmnopqrstuvwxyz"
theorem Kb:pj.cps.toList.length=26:=Yb
theorem Kc:∀c∈pj.cps.toList,c < 0x110000:=Yb
theorem Ce{j:Int}(h0:0<=j)(h1:j < 26):∃c,atI pj.cps.toList j=some c/\pj.cps.toList[j.toNat]?=some c/\c < 0x110000:=by
 obtain⟨k,rfl⟩:=SO h0;have hk:k < pj.cps.toList.length:=by rw [Kb];omega
 refine⟨pj.cps.toList[k],fM (by simp [hk]),by simp [hk],Kc _ (S8 hk)⟩
structure bQ (n:Nat) (d:Yi):Prop where
 can:d.canLay0=true
 dep:d.depth<=n
theorem bQ.shp{n:Nat}{d:Yi}(h:bQ n d)(hn:n<=64):Tq d=true:=by
 unfold Tq;rw [h.can,decide_eq_true (Rj h.dep hn)];rfl
theorem bQ.mono{n m:Nat}{d:Yi}(h:bQ n d)(hn:n<=m):bQ m d:=⟨h.can,Rj h.dep hn⟩
theorem iH{x:Str}(h:QT x=true):bQ 1 (.str x):=⟨by simpa [RK] using h,by simp [UU]⟩
theorem qG{i:Int}:bQ 1 (.int i):=⟨by simp [RK],by simp [UU]⟩
theorem Kd{i:Bool}:bQ 1 (.bool i):=⟨by simp [RK],by simp [UU]⟩
theorem qH{n:Nat}:∀{ds:List Yi},(∀d∈ds,bQ n d)->Sx ds=true/\U5 ds<=n
 | [],_=>⟨by simp [Sx],by simp [U5]⟩
 | d::r,h=>by
  obtain⟨a,b⟩:=qH (ds:=r) λe he=>h e (by simp [he]);have c:=h d Yh;refine⟨by rw [Sx,c.can,a];rfl,?_⟩;rw [U5];exact Nat.max_le.mpr ⟨c.dep,b⟩
theorem fc{n:Nat}{ds:List Yi}(h:∀d∈ds,bQ n d):bQ (n+1) (.tuple ds):=by
 obtain⟨a,b⟩:=qH h;refine⟨by simpa [RK] using a,?_⟩;rw [UU];omega
def PU(X:Cx)(e:Yr)(te:TE):Prop:=∀(i:Nat)(x:Str)(pos' spos:Pos)(hN:X.N.Nodup)(hxi:X.N[i]?=some x)(hx:gW X.env.scope x)(hsw:YD e (some (.Name x pos')) spos.line X.env=pure true)
 (hfn:X.fn x=true\/X.env.scope.names.lookup x=some .local),PS X (.Assign [.Name x pos'] e spos) (qh te (i5 i))
theorem PU.imp{X:Cx}{e:Yr}{t u:TE}(h:PU X e t)(i:∀σ H Q,u σ H Q->t σ H Q):PU X e u:=λi' x p1 p2 hN hxi hx hsw hfn=>(h i' x p1 p2 hN hxi hx hsw hfn).imp λD σ H z=>i σ H _ z
section
variable {X:Cx} {H0:Hp} {O0:Ex}
section
variable {tg iter elt:Yr} {ifs:List Yr} {scope:YW} {N':List Str} {k:Nat} {fr:List Nat} {g:TG} {dg:DG} {t:DT} {ta:DA} {tc:DB} {te:DT} {pos p ps:Pos}
theorem vF{wi:TI}{tc:TT}{te:TE}(hc:X.calm=true)(S:bb X.env.scope X.N N' k fr scope)(hi:PI X tg iter wi)
 (hg:∀fp C s H,PG (bF X scope N' fp C s H) tg g)(hf:∀fp C s H,fu (bF X scope N' fp C s H) ifs tc)(he:∀fp C s H,PE (bF X scope N' fp C s H) elt te)
 (hs:∀x,YA iter X.env x=pure x:=by intro _;rfl):PU X (.ListComp elt [⟨tg,iter,ifs,0⟩] scope pos) (lQ wi g tc te k fr):=
 λ_ _ _ _ hN hxi hx hsw hfn=>Jd hN hxi hx hc S hi hg hf he hsw hs hfn
theorem sL(hc:X.calm=true)(S:bb X.env.scope X.N N' k fr scope)(hi:DF X H0 O0 iter t)(gd:GD X.K g dg)(hk:jX g k)(hfr:fr.Nodup)
 (hg:∀fp C s H,PG (bF X scope N' fp C s H) tg g)(hf:∀fp C s H,fu (bF X scope N' fp C s H) ifs (bV X.K H0 O0 tc))(he:∀fp C s H,PE (bF X scope N' fp C s H) elt (up X.K H0 O0 te))
 (hs:∀x,YA iter X.env x=pure x:=by intro _;rfl):PU X (.ListComp elt [⟨tg,iter,ifs,0⟩] scope pos) (pb X.K H0 O0 (iE t dg tc te k fr)):=
 (vF hc S (rJ hi) hg hf he hs).imp λσ H Q uu58=>by obtain⟨O,δ,Qd,w,q,kk⟩:=uu58;exact⟨O,δ,_,w,q,λd v H1 uu59 s1 r1=>by
  obtain⟨xs,e,hz,q1⟩:=uu59;subst e;obtain⟨a,vs,rfl,hq,rr⟩:=r1.lst;refine⟨a,rfl,⟨_,hq⟩,λD hD=>pf (cU.list hq) gd hfr (λv _ H' R h=>hk fr σ v H' R h) (λ_ _ _ z=>z) (λ_ _ _ z=>z) (λD H' hD s' o e=>s' _ _ e (dY e hD)) rr (w.mono s1) (by rw [rr.length];exact hz) q1 (λds us p H' z s' hp r'=>kk ds us p H' z (s1.trans s') hp r') D hD⟩⟩
theorem Cf(hc:X.calm=true){a:Yr}(S:bb X.env.scope X.N N' k fr scope)(hgl:Gl X "range")(hm:X.mg "range"=none)(ha:PA X [a] (iy X.K H0 O0 ta))(gd:GD X.K g dg)(hk:jX g k)(hfr:fr.Nodup)
 (hg:∀fp C s H,PG (bF X scope N' fp C s H) tg g)(hf:∀fp C s H,fu (bF X scope N' fp C s H) ifs (bV X.K H0 O0 tc))(he:∀fp C s H,PE (bF X scope N' fp C s H) elt (up X.K H0 O0 te))
 (hst:Yp [a] X.env=[(false,eval a X.env)]:=by rfl)(hs:∀x,YA (.Call (.Name "range" p) [a] [] ps) X.env x=pure x:=by intro _;rfl):
 PU X (.ListComp elt [⟨tg,(.Call (.Name "range" p) [a] [] ps),ifs,0⟩] scope pos) (pb X.K H0 O0 (jj ta dg tc te k fr)):=
 (vF hc S (uQ hgl hm ha hst) hg hf he hs).imp λσ H Q uu60=>by obtain⟨O,δ,Qd,w,q,kk⟩:=uu60;exact⟨O,δ,_,w,q,λds vs H1 uu61 s1 r1=>by
  obtain⟨j,e,b1,b2,q1⟩:=uu61;subst e;cases r1 with
  | cons r1 r2=>
   cases r2;cases r1.int;have hb:(Yt:Int) < 2 ^ 62:=Yc
   exact⟨j,rfl,b1,Yd,λD hD=>pf (P:=λ_=>True) cU.rng gd hfr (λv _ H' R h=>hk fr σ v H' R h) (λ_ _ _ z=>z) (λ_ _ _ z=>z) (λ_ _ _ _=>trivial) (ai.rng _) (w.mono s1) (by rw [QO,UP];omega) q1 (λds us p H' z s' hp r'=>kk ds us p H' z (s1.trans s') hp r') D hD⟩⟩
end
theorem hW{i:Nat}{x:Str}{e:Yr}{t:DA}{pos pos':Pos}(hN:X.N.Nodup)(hi:X.N[i]?=some x)(hx:gW X.env.scope x)(he:PU X e (pb X.K H0 O0 t))(hs:YD e (some (.Name x pos')) pos.line X.env=pure true:=by rfl)(hf:X.fn x=true\/X.env.scope.names.lookup x=some .local:=by first | exact .inl rfl | exact .inr rfl | assumption):
 PS X (.Assign [.Name x pos'] e pos) (bh X.K H0 O0 (hG i (dL t))):=
 (he _ _ _ _ hN hi hx hs hf).imp λD σ H ⟨O,δ,E,w,q,k1,k2,k3,k4⟩=>⟨O,δ,_,w,q,λds vs p H1 q1 s1 hp r1=>
  k1 O _ _ _ q1 ((w.mono (s1.trans (au.new hp))).set (.lst (.inl bq) (sr w s1 hp) (r1.mono (au.new hp)))) (.same (s1.trans (au.new hp)))⟩
def vG(K:QN)(neg:Bool):R2:=λx y H Q=>∃O dx ds dy,Sh K H O x dx/\Sh K H O y dy/\(dy= .list ds\/dy= .tuple ds)/\cy dx/\Sx ds=true/\Q (.bl (if neg then !(ds.any λd=>Rg d dx) else ds.any λd=>Rg d dx)) H
theorem sM{A:Yz}{k:Nat}{xs:List Yi}{d:Yi}(hd:cy d)(hr:bp k A):A.units+1+min (U5 xs) d.depth < YL:=by
 have:=SeqAt.depth_of_shaped hd;have h1:min (U5 xs) d.depth<=d.depth:=Wi _ _;have:=hr.un;omega
theorem Cg{k:Nat}(hr:bp k X.A):bG X (YF .In) (vG X.K false):=by
 intro ZY s σ H x y v u Q I rx ry h;obtain⟨O,dx,ds,dy,hx,hy,e,sx,sy,q⟩:=h;obtain⟨as,ra⟩:=iw I hx.all (Se sx) rx;rcases e with e | e <;> subst e
 ·obtain⟨bs,rb⟩:=iw I hy.all (by simpa [RK] using sy) ry;exact SeqAt.in_list_reads rb ra sy (Se sx) (sM sx hr) (bD I q rfl)
 ·obtain⟨bs,rb⟩:=iw I hy.all (by simpa [RK] using sy) ry;exact SeqAt.in_tuple_reads rb ra sy (Se sx) (sM sx hr) (bD I q rfl)
theorem Ke{k:Nat}(hr:bp k X.A):bG X (YF .NotIn) (vG X.K true):=by
 intro ZY s σ H x y v u Q I rx ry h;obtain⟨O,dx,ds,dy,hx,hy,e,sx,sy,q⟩:=h;obtain⟨as,ra⟩:=iw I hx.all (Se sx) rx;rcases e with e | e <;> subst e
 ·obtain⟨bs,rb⟩:=iw I hy.all (by simpa [RK] using sy) ry;exact SeqAt.notIn_list_reads rb ra sy (Se sx) (sM sx hr) (bD I q rfl)
 ·obtain⟨bs,rb⟩:=iw I hy.all (by simpa [RK] using sy) ry;exact SeqAt.notIn_tuple_reads rb ra sy (Se sx) (sM sx hr) (bD I q rfl)
def kq(neg:Bool):Yi->Yi->(Yi->Prop)->Prop:=λx y Q=>∃ds,(y= .list ds\/y= .tuple ds)/\cy x/\Sx ds=true/\Q (.bool (if neg then !(ds.any λd=>Rg d x) else ds.any λd=>Rg d x))
theorem vH{K:QN}{neg:Bool}:cw K (vG K neg) (kq neg):=λH O x y dx dy Qd R _ hx hy uu63 k=>by obtain⟨ds,e,a,b,q⟩:=uu63;exact⟨O,dx,ds,dy,hx,hy,e,a,b,k _ _ H q (au.refl _) (.bl _)⟩
theorem Kf{prog:Yu}{w:Yv}{A:Yz}{E:Yj->Ym->Prop}{s:Ym}{t sl:Yl}{items:Array Yj}{vl vu:Yj}{lo hi:Option Int}{Q:Yj->Ym->Prop}(ht:IsTup s.heap t items)(hs:s.heap.IsSliceOf sl vl vu .none)(pl:IsPart vl lo)(pu:IsPart vu hi)
 (hw:HT.sIx items.size 0 lo=0/\HT.sIx items.size items.size hi=items.size)(h:Q (.ref t) s):Yo (Yq prog w) A (Zn (.ref t) (.ref sl)) Q E s:=by
 obtain⟨os,hos,hcs,hds⟩:=id hs;have hTs:s.TypeIs (.ref sl) "slice":=⟨os,hos,hcs⟩;unfold Zn
 try with_reducible refine YN ?_
 first | refine Yk (Yn ?_) | skip
 refine Yk (wpAny_sequenceKey ht.typeIs Yc ?_);refine Yk (YH (name:=QM "__getitem__") ht.typeIs TC
  (YG TC ht.typeIs PyProof.Rows.entry_tuple_getitem ?_ (PyProof.Rows.args_tuple_getitem _ _)))
 show Yo _ _ (VX (.ref t) >>=_) _ _ s;refine Yk (tupleItemsOf_ ht ?_);refine Yk (ZH hTs ?_);rw [Yf Yc];refine Yk (HT.sliceApplied_gen hs pl pu ?_);show Yo _ _ (if (((HT.sIx items.size 0 lo:Nat):Int)==0 && (1:Int)==1 && (HT.sIx items.size items.size hi - HT.sIx items.size 0 lo)==items.size)=true then _ else _) _ _ s;rw [Yf (by rw [hw.1,hw.2];simp)];unfold Builtin.Tuple.tupleIsExact;refine Yk (Yk (ZH ht.typeIs (Yn ?_)));rw [Yf Yc];exact Yk (ZJ (Yn ⟨_,rfl,Yn h⟩))
def Kg(K:QN):V->Option Int->Option Int->Hp->VK->Prop:=λx lo hi H Q=>∃a xs,x= .ref a/\aZ K H a xs/\
 ((HT.sIx xs.length 0 lo=0/\HT.sIx xs.length xs.length hi=xs.length)->Q x H)/\(¬(HT.sIx xs.length 0 lo=0/\HT.sIx xs.length xs.length hi=xs.length)->∀p,H p=none->Q (.ref p) (ah H p (.tup (jF xs lo hi))))
theorem Kh:rW X (Kg X.K):=by
 intro ZY s σ H x v vl vu lo hi sl Q I rx hs pl pu h;obtain⟨a,xs,rfl,hx,q1,q2⟩:=h;by_cases hw:HT.sIx xs.length 0 lo=0/\HT.sIx xs.length xs.length hi=xs.length
 ·cases rx;obtain⟨its,r,ht,hz⟩:=I.tuple hx;have hlen:its.toArray.size=xs.length:=by rw [Q4];exact r.length.symm
  refine⟨"tuple",_,TC.lookup,ht.typeIs,?_⟩;exact Kf ht hs pl pu (by rw [hlen];exact hw) ⟨.ref a,H,I,rfl,q1 hw⟩
 ·exact IB ZY s σ H _ v vl vu lo hi sl Q I rx hs pl pu ⟨a,xs,rfl,hx,hw,q2 hw⟩
theorem Ki{xs:List Yi}{l u:Option Int}(h:HT.sIx xs.length 0 l=0/\HT.sIx xs.length xs.length u=xs.length):cV xs l u=xs:=by
 unfold cV;rw [h.1,h.2];simp
def kr(t:DT)(tl th:DO):DT:=λδ Q=>t δ λd=>tl δ λl=>th δ λu=>∃xs,d= .tuple xs/\Q (.tuple (cV xs l u))
theorem n8{e:Yr}{lo hi:Option Yr}{t:DT}{tl th:DO}{pos p2:Pos}(h:DF X H0 O0 e t)(hl:PO X lo (lT X.K H0 O0 tl))(hu:PO X hi (lT X.K H0 O0 th)):DE X H0 O0 (.Subscript e (.Slice lo hi none p2) pos) (kr t tl th):=
 (uY Kh h hl hu).imp λσ H Q ⟨O,δ,Qd,w,q,k⟩=>⟨O,δ,_,w,q,λd v H1 q1 s1 r1=>⟨O,δ,_,w.mono s1,q1,λl H2 q2 s2=>⟨O,δ,_,w.mono (s1.trans s2),q2,λu H3 uu65 s3=>by
  obtain⟨xs,e,q3⟩:=uu65;subst e;have r3:=r1.mono (s2.trans s3);have r4:=r3;obtain⟨a,vs,rfl,h1,d1⟩:=r4.tup;refine⟨a,vs,rfl,h1,λhw=>?_,λ_ p hp=>k _ _ _ q3 (s1.trans (s2.trans (s3.trans (au.new hp)))) (.tup (.inl bq) (sr w (s1.trans (s2.trans s3)) hp) ((d1.cut l u).mono (au.new hp)))⟩;rw [d1.length] at hw;rw [Ki hw] at q3;cases r3 with
  | dt r3=>exact k _ _ _ q3 (s1.trans (s2.trans s3)) r3⟩⟩⟩
def dn(a b:Str):Bool:=decide (a.cps.toList<=b.cps.toList)
def fg(l:List Str):List Str:=l.mergeSort dn
theorem Ci(a b c:Str)(h:dn a b=true)(h':dn b c=true):dn a c=true:=
 decide_eq_true (List.le_trans (of_decide_eq_true h) (of_decide_eq_true h'))
theorem Kj(a b:Str):(dn a b || dn b a)=true:=by
 rcases List.le_total a.cps.toList b.cps.toList with h | h
 ·unfold dn;rw [decide_eq_true h];rfl
 ·unfold dn;rw [decide_eq_true h,Bool.or_true]
theorem Cj{a b:Str}(h:a.cps.toList=b.cps.toList):a=b:=by
 cases a;cases b;congr 1;exact Array.ext' h
theorem vI{a b:Str}(h:dn a b=true)(h':dn b a=true):a=b:=Cj (Xt (of_decide_eq_true h) (of_decide_eq_true h'))
theorem ku(l:List Str):(fg l).Perm l:=List.mergeSort_perm l dn
theorem Ck(l:List Str):(fg l).Pairwise λa b=>dn a b=true:=List.pairwise_mergeSort Ci Kj l
theorem Cm{l m:List Str}(h:m.Perm l)(p:m.Pairwise λa b=>dn a b=true):m=fg l:=
 List.Perm.eq_of_pairwise (λa b _ _ x y=>vI x y) p (Ck l) (h.trans (ku l).symm)
theorem Cn:∀(p:Str)(l:List Str),risingS p l=true->(p::l).Pairwise λa b=>dn a b=true
 | p,[],_=>by simp
 | p,x::r,h=>by
  rw [risingS,RW,Sm,ltCps_eq,decide_eq_false_iff_not] at h;have h1:dn p x=true:=decide_eq_true (Xq.mp h.1);have h2:=Cn x r h.2;rw [So];refine⟨λy hy=>?_,h2⟩;rcases QX.mp hy with z | z
  ·rw [z];exact h1
  ·exact Ci p x y h1 ((So.mp h2).1 y z)
theorem Co:∀(l:List Str),sortedS l=true->l.Pairwise λa b=>dn a b=true
 | [],_=>.nil
 | x::r,h=>Cn x r h
theorem Cp:∀{ys:List Str}{us:List Yj},aI (ys.map V.str) us->StrsAre us ys:=by
 intro ys
 induction ys with
 | nil=>intro us rv;cases rv;exact .nil
 | cons y ys ih=>
  intro us rv;rw [QR] at rv;cases rv with
  | cons r1 r2=>obtain⟨t,rfl⟩:=r1;exact .cons y t (ih r2)
theorem vJ:∀{ys:List Str}{us:List Yj},StrsAre us ys->aI (ys.map V.str) us
 | _,_,.nil=>.nil
 | _,_,.cons y t r=>.cons ⟨t,rfl⟩ (vJ r)
theorem Kk:d7 X (.builtin "sorted") (λxs H Q=>∃p ss,xs=[.ref p]/\bo X.K H p (ss.map V.str)/\ss.length < 64/\∀l,H l=none->Q (.ref l) (ah H l (.lst ((fg ss).map V.str)))):=by
 intro ZY s σ H xs us Q I r h;obtain⟨p,ss,rfl,hq,h64,q⟩:=h;obtain⟨u,rfl,rx⟩:=fo r;cases rx;obtain⟨its,rv,pl,hz⟩:=I.list hq;have hlen:=rv.length;rw [QO] at hlen;refine sorted_strs pl.isList (Cp rv) Yd λout ss' a1 a2 a3=>?_;obtain⟨e,he⟩:=sortedAll_at s.heap its out;have es:ss'=fg ss:=Cm a2 (Co _ a3);subst es;have hl2:(fg ss).length=ss.length:=a2.length_eq;refine⟨.ref _,_,I.laid (t':=s.toks) (o:= .lst ((fg ss).map V.str)) (λb ob q=>sortedAll_old q) (Sg _) ?_,rfl,q _ (I.hok.fresh (Sg _))⟩;refine⟨by rw [QO,hl2];exact Rj (TJ h64) Yc,out.toList,e,vJ a1,?_⟩;rw [he]
theorem ai.strs{K:QN}{H:Hp}{O:Ex}:∀{ss:List Str}{vs:List V},ai K H O vs (ss.map QU)->vs=ss.map V.str
 | [],_,r=>by rw [RO] at r;cases r;rfl
 | b::bs,_,r=>by
  rw [QR] at r;cases r with
  | cons h r=>cases h;rw [QR,ai.strs r]
theorem ai.ofStrs{K:QN}{H:Hp}{O:Ex}:∀(ss:List Str),ai K H O (ss.map V.str) (ss.map QU)
 | []=>.nil
 | s::r=>.cons (.str s) (ai.ofStrs r)
def kx(t:DA):DA:=λδ Q=>t δ λds=>∃ss:List Str,ds=[.list (ss.map .str)]/\ss.length < 64/\Q ((fg ss).map .str)
theorem Kl{a:Yr}{t:DA}{np p:Pos}(hg:Gl X "sorted")(hm:X.mg "sorted"=none)(hv:YI "sorted"=some (.builtin "sorted"))(ha:PA X [a] (iy X.K H0 O0 t))(he:Yp [a] X.env=(false,eval a X.env)::Yp [] X.env:=by rfl)(hpl:(YC p (Yp [] X.env)).any (·.1)=false:=by rfl):FE X H0 O0 (.Call (.Name "sorted" np) [a] [] p) (kx t):=
 (bU Kk hg hm hv ha (he:=he) (hpl:=hpl)).imp λσ H Q uu66=>by obtain⟨O,δ,Qd,w,q,k⟩:=uu66;exact⟨O,δ,_,w,q,λds vs H1 uu67 s1 r1=>by
  obtain⟨ss,e,h64,q1⟩:=uu67;subst e;cases r1 with
  | cons h r=>
   cases r;obtain⟨a,us,rfl,h1,d1⟩:=h.lst;cases d1.strs;exact⟨a,ss,rfl,h1,h64,λl hl=>k _ _ _ _ q1 s1 hl (ai.ofStrs _)⟩⟩
end
end _L
namespace PySem.SeqAt
open AutoSeq1 (wpAny_loadPart')
open MeetsSeq
theorem Cq(l:Yl)(es:Array ZQ)(n:Nat)(dd:Option Yl)(sl:Array (Option Yj))(b:Str)(u:Tok):
 Meets (Builtin.«dict.__eq__» ⟨[.ref l,.str b u],[]⟩) (λ_ R s=>s.heap.get? l=some {cls:= .type "dict",dict:=dd,data:= .dict es n,slots:=sl}/\R (.ok (.ret .notImplemented)) s):=
 .of_wp λprog w A R s h=>by obtain⟨hp,g,d,tk,os⟩:=s;obtain⟨hl,h⟩:=h;have f1:=F.sub_str_dict;wp_walk using YX hl;exact⟨_,rfl,h⟩
theorem Cr(b:Str)(u:Tok)(l:Yl)(c:Yj)(es:Array ZQ)(n:Nat)(dd:Option Yl)(sl:Array (Option Yj)):
 Meets (Builtin.«str.__eq__» ⟨[.str b u,.ref l],[]⟩) (λ_ R s=>s.heap.get? l=some {cls:=c,dict:=dd,data:= .dict es n,slots:=sl}/\R (.ok (.ret .notImplemented)) s):=
 .of_wp λprog w A R s h=>by obtain⟨hp,g,d,tk,os⟩:=s;obtain⟨hl,h⟩:=h;wp_walk using YX hl,wpAny_load hl;exact⟨_,rfl,h⟩
section
variable {A:Yz} {s:Ym}
theorem RcAt.dict_str{l:Yl}{es:Array ZQ}{n:Nat}{o:Obj}(b:Str)(u:Tok)(ho:s.heap.get? l=some o)(hc:o.cls= .type "dict")(hd:o.data= .dict es n)(hu:A.units < YL):RcAt A s (.ref l) (.str b u) false:=λprog w E Q h=>by
 obtain⟨cls,dd,data,sl⟩:=o;simp only at hc hd;subst hc hd;exact rc_eq_decline_or (k:=false) ⟨_,ho,rfl⟩ (ZI s b u) Yc F.sub_str_dict F.slot_dict_eq F.slot_str_eq_refl
  (λ_ hq=>Y8 F.slot_dict_eq ⟨_,ho,rfl⟩ F.entry_dict_eq (F.args_dict_eq_2 _ _) (Cq l es n dd sl b u) ⟨ho,hq⟩)
  (λ_ hq=>Y8 F.slot_str_eq_refl (ZI s b u) F.entry_str_eq (F.args_str_eq_2 _ _) (Cr b u l (.type "dict") es n dd sl) ⟨ho,hq⟩)
  (λ_ hq=>Zw (rfl:isSame (.ref l) (.str b u)=pure false) hq) (.inr hu) h
theorem RcAt.str_dict{l:Yl}{es:Array ZQ}{n:Nat}{o:Obj}(b:Str)(u:Tok)(ho:s.heap.get? l=some o)(hc:o.cls= .type "dict")(hd:o.data= .dict es n)(hu:A.units < YL):RcAt A s (.str b u) (.ref l) false:=λprog w E Q h=>by
 obtain⟨cls,dd,data,sl⟩:=o;simp only at hc hd;subst hc hd;exact rc_eq_decline_or (k:=false) (ZI s b u) ⟨_,ho,rfl⟩ Yc F.sub_dict_str F.slot_str_eq F.slot_dict_eq_refl
  (λ_ hq=>Y8 F.slot_str_eq (ZI s b u) F.entry_str_eq (F.args_str_eq_2 _ _) (Cr b u l (.type "dict") es n dd sl) ⟨ho,hq⟩)
  (λ_ hq=>Y8 F.slot_dict_eq_refl ⟨_,ho,rfl⟩ F.entry_dict_eq (F.args_dict_eq_2 _ _) (Cq l es n dd sl b u) ⟨ho,hq⟩)
  (λ_ hq=>Zw (rfl:isSame (.str b u) (.ref l)=pure false) hq) (.inr hu) h
theorem EqAt.str_dict{l:Yl}{es:Array ZQ}{n:Nat}{o:Obj}(b:Str)(u:Tok)(ho:s.heap.get? l=some o)(hc:o.cls= .type "dict")(hd:o.data= .dict es n)(hu:A.units < YL):EqAt A s (.str b u) (.ref l) false:=λprog w E Q h=>by
 unfold eqBool;refine YN ?_;refine ZK (λhab=>absurd (eq_of_beq hab) nofun) (λ_=>?_);exact Yk (RcAt.str_dict b u ho hc hd hu prog w E _ (YT h))
end
end PySem.SeqAt
namespace _L
open PySem PySem.Spec PyProof.Rows PySem.W
section
variable {X:Cx} {ZY:List (Yl×Obj)} {σ:St} {H:Hp} {s:Ym}
def dA:Yi->Bool
 | .dict [(.none,_)]=>false
 | _=>true
theorem Km(I:ag X ZY σ H s){O:Ex}{v:V}{d:Yi}{u:Yj}(h:Dt X.K H O v d)(ht:dA d=true)(r:aJ v u)(y:Str)(t:Tok)(hu:X.A.units < YL):SeqAt.RcAt X.A s u (.str y t) (Rg d (.str y)):=by
 cases h with
 | non=>cases (show u=SH from r);simpa [Rg] using SeqAt.RcAt.none_str y t
 | bl b=>cases (show u=UC b from r);simpa [Rg] using SeqAt.RcAt.bool_str b y t
 | int i=>obtain⟨k,e⟩:=(show ∃t,u=Tv i t from r);cases e;simpa [Rg] using SeqAt.RcAt.int_str i k y t
 | str x=>obtain⟨k,e⟩:=(show ∃t,u=UB x t from r);cases e;simpa [Rg] using SeqAt.RcAt.str_str x k y t
 | @tup a xs ds h n rr=>
  cases (show u=RE a from r);obtain⟨its,rv,p,_⟩:=I.tuple (.inl h);simpa [Rg] using WQ y t (show s.heap.IsTuple a its.toArray from p) hu
 | @tupK a xs ds h rr=>
  cases (show u=RE a from r);obtain⟨its,rv,p,_⟩:=I.tuple h.of0;simpa [Rg] using WQ y t (show s.heap.IsTuple a its.toArray from p) hu
 | @lst a xs ds h n rr=>
  cases (show u=RE a from r);obtain⟨its,rv,p,_⟩:=I.list (.inl h);simpa [Rg] using SeqAt.RcAt.list_str y t p.isList hu
 | pack h n=>exact absurd ht (by simp [dA])
 | purse h n=>exact absurd ht (by simp [dA])
 | scr h r=>exact absurd ht (by simp [dA])
 | obj h e n r=>exact absurd ht (by simp [dA])
 | @dct0 a h n=>
  cases (show u=RE a from r);obtain⟨_,_,_,_,o,es,ep,e,c,dd,_⟩:=(show cj X.prog X.w H s.heap a (.dK []) from I.hok a _ h);simpa [Rg] using SeqAt.RcAt.dict_str y t e c.1 dd hu
 | @dic a ob kv ks kp ds h e1 e2 n rr=>
  cases (show u=RE a from r);obtain⟨_,_,_,_,o,es,ep,e,c,dd,_⟩:=(show cj X.prog X.w H s.heap a (.dK kv) from(I.hok a _ h).2);simpa [Rg] using SeqAt.RcAt.dict_str y t e c.1 dd hu
theorem Kn(I:ag X ZY σ H s){A:Yz}{O:Ex}{v:V}{d:Yi}{u:Yj}(h:Dt X.K H O v d)(ht:dA d=true)(r:aJ v u)(y:Str)(t:Tok)(hu:A.units < YL):SeqAt.EqAt A s (.str y t) u (Rg (.str y) d):=by
 cases h with
 | non=>cases (show u=SH from r);simpa [Rg] using SeqAt.EqAt.str_none y t
 | bl b=>cases (show u=UC b from r);simpa [Rg] using SeqAt.EqAt.str_bool y t b
 | int i=>obtain⟨k,e⟩:=(show ∃t,u=Tv i t from r);cases e;simpa [Rg] using WZ y t i k
 | str x=>obtain⟨k,e⟩:=(show ∃t,u=UB x t from r);cases e;simpa [Rg] using SeqAt.EqAt.str_str y t x k
 | @tup a xs ds h n rr=>
  cases (show u=RE a from r);obtain⟨its,rv,p,_⟩:=I.tuple (.inl h);simpa [Rg] using WR y t (show s.heap.IsTuple a its.toArray from p) hu
 | @tupK a xs ds h rr=>
  cases (show u=RE a from r);obtain⟨its,rv,p,_⟩:=I.tuple h.of0;simpa [Rg] using WR y t (show s.heap.IsTuple a its.toArray from p) hu
 | @lst a xs ds h n rr=>
  cases (show u=RE a from r);obtain⟨its,rv,p,_⟩:=I.list (.inl h);simpa [Rg] using SeqAt.EqAt.str_list y t p.isList hu
 | pack h n=>exact absurd ht (by simp [dA])
 | purse h n=>exact absurd ht (by simp [dA])
 | scr h r=>exact absurd ht (by simp [dA])
 | obj h e n r=>exact absurd ht (by simp [dA])
 | @dct0 a h n=>
  cases (show u=RE a from r);obtain⟨_,_,_,_,o,es,ep,e,c,dd,_⟩:=(show cj X.prog X.w H s.heap a (.dK []) from I.hok a _ h);simpa [Rg] using SeqAt.EqAt.str_dict y t e c.1 dd hu
 | @dic a ob kv ks kp ds h e1 e2 n rr=>
  cases (show u=RE a from r);obtain⟨_,_,_,_,o,es,ep,e,c,dd,_⟩:=(show cj X.prog X.w H s.heap a (.dK kv) from(I.hok a _ h).2);simpa [Rg] using SeqAt.EqAt.str_dict y t e c.1 dd hu
end
section
variable {X:Cx} {H0:Hp} {O0:Ex}
def Cs(K:QN):R2:=λx y H Q=>∃O dx z,Dt K H O x dx/\dA dx=true/\y= .str z/\Q (.bl (Rg dx (.str z))) H
theorem cz{k:Nat}(hr:bp k X.A):bG X (YF .Eq) (Cs X.K):=by
 intro ZY s σ H x y v u Q I rx ry h;obtain⟨O,dx,z,hx,ht,rfl,q⟩:=h;obtain⟨t,rfl⟩:=ry;have hc:YF .Eq v (.str z t)=richCompare .Eq v (.str z t):=rfl;rw [hc];exact Km I hx ht rx z t hr.units0 X.prog X.w X.xe _ (bD I q rfl)
def gK:Yi->Yi->(Yi->Prop)->Prop:=λx y Q=>∃z,y= .str z/\dA x=true/\Q (.bool (Rg x (.str z)))
theorem cA{K:QN}:cw K (Cs K) gK:=λH O x y dx dy Qd R _ hx hy uu68 k=>by
 obtain⟨z,e,ht,q⟩:=uu68;subst e;cases hy.str;exact⟨_,dx,z,hx.all,ht,rfl,k _ _ H q (au.refl _) (.bl _)⟩
theorem Ko(dx:Yi){its:List Yj}{zs:List Str}(hS:StrsAre its zs):its.any (λy=>Rg (.str (strOf y)) dx)=zs.any λz=>Rg (.str z) dx:=by
 induction hS with
 | nil=>rfl
 | cons y t r ih=>rw [R5,R5,ih];rfl
def Ct(K:QN):R2:=λx y H Q=>∃(O:Ex)(dx:Yi)(zs:List Str)(a:Yl),Dt K H O x dx/\dA dx=true/\y= .ref a/\aZ K H a (zs.map V.str)/\Q (.bl (zs.any λz=>Rg (.str z) dx)) H
theorem n9{k:Nat}(hr:bp k X.A):bG X (YF .In) (Ct X.K):=by
 intro ZY s σ H x y v u Q I rx ry h;obtain⟨O,dx,zs,a,hx,ht,rfl,ha,q⟩:=h;cases ry;obtain⟨its,rv,p,_⟩:=I.tuple ha;have hS:=Cp rv;have hl:=Ko dx hS;refine SeqAt.in_tupleAt (λy=>Rg (.str (strOf y)) dx) (show s.heap.IsTuple a its.toArray from p) (λy hy=>?_) (by rw [List.any_toArray,hl];exact bD I q rfl);obtain⟨z,t,rfl⟩:=hS.all y (by simpa using hy);exact Kn I hx ht rx z t (by show X.A.units+1 < YL;have:=hr.un;omega)
def kz:Yi->Yi->(Yi->Prop)->Prop:=λx y Q=>∃zs:List Str,y= .tuple (zs.map .str)/\dA x=true/\Q (.bool (zs.any λz=>Rg (.str z) x))
theorem oe{K:QN}:cw K (Ct K) kz:=λH O x y dx dy Qd R _ hx hy uu69 k=>by
 obtain⟨zs,e,ht,q⟩:=uu69;subst e;obtain⟨a,vs,rfl,hs,r⟩:=hy.tup;cases r.strs;exact⟨_,dx,zs,a,hx.all,ht,rfl,hs,k _ _ H q (au.refl _) (.bl _)⟩
end
theorem Kp{g:DG}{te:DT}{δ0:Dl}{xs:List Yi}{Q:List Yi->Prop}(f:Yi->Yi)
 (h:∀x∈xs,∀R:Yi->Prop,R (f x)->g x δ0 λδ2=>te δ2 R)(q:Q (xs.map f)):ji g hJ te δ0 xs Q:=by
 refine⟨λi acc=>acc=(xs.take i).map f,rfl,?_,?_⟩
 ·rintro i x acc hx rfl;have:=h x (Rm hx) (λy=>(xs.take i).map f++[y]=(xs.take (i+1)).map f) (by rw [RL,hx];simp);simpa [hJ] using this
 ·rintro acc rfl;rw [Rl (QQ _)];exact q
theorem Kq{g:DG}{tc:DB}{te:DT}{δ0:Dl}{xs:List Yi}{Q:List Yi->Prop}(f:Yi->Option Yi)
 (h:∀x∈xs,∀(R:Yi->Prop) (S:Prop),(match f x with | some y=>R y | none=>S)->g x δ0 λδ2=>tc δ2 λok=>if ok=true then te δ2 R else S)(q:Q (xs.filterMap f)):ji g tc te δ0 xs Q:=by
 refine⟨λi acc=>acc=(xs.take i).filterMap f,rfl,?_,?_⟩
 ·rintro i x acc hx rfl;refine h x (Rm hx) (λy=>(xs.take i).filterMap f++[y]=(xs.take (i+1)).filterMap f) ((xs.take i).filterMap f=(xs.take (i+1)).filterMap f) ?_;rw [RL,hx];cases e:f x with
  | none=>simp [e]
  | some y=>simp [e]
 ·rintro acc rfl;rw [Rl (QQ _)];exact q
theorem l5{a b:Str}{P:List Str->Prop}:(∃zs,[QU a,QU b]=RU QU zs/\P zs)↔P [a,b]:=by
 refine⟨λ⟨zs,e,h⟩=>?_,λh=>⟨_,rfl,h⟩⟩
 match zs,e with
 | [x,y],e=>simp at e;rw [e.1,e.2];exact h
theorem l6{a b c:Str}{P:List Str->Prop}:(∃zs,[QU a,QU b,QU c]=RU QU zs/\P zs)↔P [a,b,c]:=by
 refine⟨λ⟨zs,e,h⟩=>?_,λh=>⟨_,rfl,h⟩⟩
 match zs,e with
 | [x,y,z],e=>simp at e;rw [e.1,e.2.1,e.2.2];exact h
theorem l7{x:Str}:dA (.str x)=true:=rfl
theorem l8{x:Int}:dA (.int x)=true:=rfl
theorem l9{x:Bool}:dA (.bool x)=true:=rfl
theorem md{x:List Yi}:dA (.tuple x)=true:=rfl
theorem me{x:List Yi}:dA (.list x)=true:=rfl
def units:List Str:=["days","months","years"]
theorem fD{n:Nat}:∀d∈([]:List Yi),bQ n d:=λd hd=>by simp at hd
theorem bS{n:Nat}{d:Yi}{r:List Yi}(h:bQ n d)(hr:∀e∈r,bQ n e):∀e∈d::r,bQ n e:=λe he=>by
 rcases QX.mp he with z | z
 ·rw [z];exact h
 ·exact hr e z
theorem fE{n:Nat}{x:Str}(h:QT x=true)(hn:1<=n:=by decide):bQ n (.str x):=(iH h).mono hn
theorem Cu{n:Nat}{x:Int}(hn:1<=n:=by decide):bQ n (.int x):=qG.mono hn
theorem sN{n:Nat}{ms:List Str}(h:∀m∈ms,QT m=true)(hn:1<=n:=by decide):∀d∈ms.map QU,bQ n d:=λd hd=>by
 obtain⟨m,hm,rfl⟩:=Q5.mp hd;exact(iH (h m hm)).mono hn
theorem mf{a b c:Yi}{l:List Yi}:cV (a::b::c::l) (some 3) none=l:=by
 rw [B1 Yc (by simp only [Q0];omega)];rfl
theorem mh{a b c:Yi}{l:List Yi}:cV (a::b::c::l) (some 1) (some 3)=[b,c]:=by
 unfold cV;rw [sH Yc (by simp only [Q0];omega),sH Yc (by simp only [Q0];omega)];rfl
end _L
namespace PySem
open Builtin
open AutoSeq1 (wpAny_loadPart')
end PySem
namespace _L
open PySem PySem.Spec PyProof.Rows PySem.W
section
variable {X:Cx} {H0:Hp} {O0:Ex}
def kA(t:DT):DT:=λδ Q=>t δ λd=>∃i,d= .int i/\Q (.int (-i))
theorem Kr{e:Yr}{t:DT}{pos:Pos}(h:DE X H0 O0 e t):DE X H0 O0 (.UnaryOp .USub e pos) (kA t):=
 (HE HG h).imp λσ H Q uu72=>by obtain⟨O,δ,Qd,w,q,k⟩:=uu72;exact⟨O,δ,_,w,q,λd v H1 uu73 s1 r1=>by obtain⟨i,e,q1⟩:=uu73;subst e;cases r1;exact⟨i,rfl,k _ _ H1 q1 s1 (.int _)⟩⟩
end
section
variable {x:Option Yr} {n:Nat} {env:Env}
theorem Ks{a b}:YD (.List a b) x n env=pure false:=rfl
theorem iI{a b c d}:YD (.BinOp a b c d) x n env=pure false:=rfl
theorem qI{a b c d}:YD (.Call a b c d) x n env=pure false:=rfl
theorem oh{a b c}:YD (.Subscript a b c) x n env=pure false:=rfl
theorem Kt{a b c}:YD (.BoolOp a b c) x n env=pure false:=rfl
theorem Ku{a b c d}:YD (.IfExp a b c d) x n env=pure false:=rfl
end
theorem mi:(QM "paper"==QM "happens")=false:=Yb
theorem mj:(QM "paper"==QM "rule")=false:=Yb
theorem mq:(QM "paper"==QM "leave")=false:=Yb
section
variable {X:Cx} {H0:Hp} {O0:Ex}
def kB:DS:=λ_ _=>False
theorem Kv{st:Yx}:PS X st (bh X.K H0 O0 kB):=Hv.imp λD σ H uu74=>by obtain⟨O,δ,E,w,q,_⟩:=uu74;exact q.elim
end
section
variable {α:Type} {P:α->Prop}
theorem kC{a:Yi}{r:Dl}{P:Yi->Prop}:b0 0 (some (Sl.v a)::r) P=P a:=rfl
theorem mr{x:Option Sl}{r:Dl}{i:Nat}{P:Yi->Prop}:b0 (i+1) (x::r) P=b0 i r P:=rfl
theorem QK{a:Yi}{l:Dl}{i:Nat}{P:Yi->Prop}:b0 i (l.set i (some (Sl.v a))) P=(i < l.length/\P a):=by
 apply propext;show vw P _↔_;rw [BS,Wu];constructor
 ·rintro⟨d,e,p⟩;by_cases h:i < l.length
  ·rw [Rv h] at e;cases e;exact⟨h,p⟩
  ·rw [Sv Yd] at e;cases e
 ·rintro⟨h,p⟩;exact⟨a,by rw [Rv h];rfl,p⟩
theorem mw{a:List Yi}{r:Dl}{P:List Yi->Prop}:(∃d,(some (Sl.o a)::r)[0]?=some (some (Sl.o d))/\P d)=P a:=Yh
theorem mx{x:Option Sl}{r:Dl}{i:Nat}{P:List Yi->Prop}:(∃d,(x::r)[i+1]?=some (some (Sl.o d))/\P d)=(∃d,r[i]?=some (some (Sl.o d))/\P d):=Yh
theorem my{a:List Yi}{l:Dl}{i:Nat}{P:List Yi->Prop}:(∃d,(l.set i (some (Sl.o a)))[i]?=some (some (Sl.o d))/\P d)=(i < l.length/\P a):=by
 apply propext;rw [Wu];constructor
 ·rintro⟨d,e,p⟩;by_cases h:i < l.length
  ·rw [Rv h] at e;cases e;exact⟨h,p⟩
  ·rw [Sv Yd] at e;cases e
 ·rintro⟨h,p⟩;exact⟨a,by rw [Rv h];rfl,p⟩
theorem mz{x:Option Sl}{l:Dl}{i j:Nat}{P:List Yi->Prop}(h:i≠j):(∃d,(l.set i x)[j]?=some (some (Sl.o d))/\P d)=(∃d,l[j]?=some (some (Sl.o d))/\P d):=by rw [Q6 h]
theorem mB{a:Bool}{P:Bool->Prop}:(∃b,UL a= .bool b/\P b)=P a:=Yh
theorem mC{a:Int}{P:Int->Prop}:(∃b,Rq a= .int b/\P b)=P a:=Yh
theorem mD{a:Str}{P:Str->Prop}:(∃b,QU a= .str b/\P b)=P a:=Yh
theorem mE{a:List Yi}{P:List Yi->Prop}:(∃b,Ry a= .tuple b/\P b)=P a:=Yh
theorem mF{a:List Yi}{P:List Yi->Prop}:(∃b,SK a= .list b/\P b)=P a:=Yh
theorem mG{a b:Int}{P:Int->Int->Prop}:(∃i j,Rq a= .int i/\Rq b= .int j/\P i j)=P a b:=Yh
theorem mH{a b:Str}{P:Str->Str->Prop}:(∃i j,QU a= .str i/\QU b= .str j/\P i j)=P a b:=Yh
theorem mI{a b:List Yi}{P:List Yi->List Yi->Prop}:(∃i j,Ry a= .tuple i/\Ry b= .tuple j/\P i j)=P a b:=Yh
theorem mJ{a b:List Yi}{P:List Yi->List Yi->Prop}:(∃i j,SK a= .list i/\SK b= .list j/\P i j)=P a b:=Yh
theorem mK{a:Yi}{r:List Yi}{P:Yi->List Yi->Prop}:(∃x y,a::r=x::y/\P x y)=P a r:=propext ⟨λuu75=>by obtain⟨_,_,e,p⟩:=uu75;cases e;exact p,λp=>⟨_,_,rfl,p⟩⟩
theorem mL{a:Yi}{r:List Yi}{P:Yi->Prop}:(∃ds i d,Ry (a::r)= .tuple ds/\Rq 0= .int i/\atI ds i=some d/\P d)=P a:=by simp [dH]
theorem mM{a b:Yi}{r:List Yi}{P:Yi->Prop}:(∃ds i d,Ry (a::b::r)= .tuple ds/\Rq 1= .int i/\atI ds i=some d/\P d)=P b:=by simp [eJ]
theorem mN{a b c:Yi}{r:List Yi}{P:Yi->Prop}:(∃ds i d,Ry (a::b::c::r)= .tuple ds/\Rq 2= .int i/\atI ds i=some d/\P d)=P c:=by simp [hV]
theorem mO{a b c e:Yi}{r:List Yi}{P:Yi->Prop}:(∃ds i d,Ry (a::b::c::e::r)= .tuple ds/\Rq 3= .int i/\atI ds i=some d/\P d)=P e:=by simp [fC]
theorem mP{a b:Yi}{r:List Yi}{P:Yi->Prop}:(∃ds i d,SK (a::b::r)= .list ds/\Rq 1= .int i/\atI ds i=some d/\P d)=P b:=by simp [eJ]
theorem mQ{a b c:Yi}{r:List Yi}{P:Yi->Prop}:(∃ds i d,SK (a::b::c::r)= .list ds/\Rq 2= .int i/\atI ds i=some d/\P d)=P c:=by simp [hV]
theorem mR{xs:List Yi}{k:Int}{P:Yi->Prop}:(∃ds i d,Ry xs= .tuple ds/\Rq k= .int i/\atI ds i=some d/\P d)=(∃d,atI xs k=some d/\P d):=Yh
theorem mS{xs:List Yi}{k:Int}{P:Yi->Prop}:(∃ds i d,SK xs= .list ds/\Rq k= .int i/\atI ds i=some d/\P d)=(∃d,atI xs k=some d/\P d):=Yh
end
theorem mT{w v:Str}{r:List Yi}{l:Dl}{Q:Bool->Prop}:c7 (cC gK (cC gJ (b0 0) (dC (.int 0))) (dC (.str v))) (some (.v (.tuple (.str w::r)))::l) Q=Q (w==v):=by
 simp [c7,cC,gK,gJ,kC,dC,dH,dA,dP]
theorem mU{v:Str}{x:Option Sl}{l:Dl}{k:Nat}{Q:Bool->Prop}:c7 (cC gK (cC gJ (b0 0) (dC (.int 0))) (dC (.str v))) (l.set (k+1) x) Q=c7 (cC gK (cC gJ (b0 0) (dC (.int 0))) (dC (.str v))) l Q:=by
 simp only [c7,cC,b0,dC,Q6 (show k+1≠0 by omega)]
def qJ:aq->Yi
 | .inl i=>.int i
 | .inr x=>.str x
def fF(kd:List (aq×Yi))(k:aq):Option Yi:=(kd.find? λp=>decide (p.1=k)).map (·.2)
def fT(kd:List (aq×Yi))(k:aq)(d:Yi):List (aq×Yi):=if (kd.any λp=>decide (p.1=k))=true then kd.map (λp=>if p.1=k then(p.1,d) else p) else kd++[(k,d)]
section
variable {K:QN} {H:Hp} {O:Ex}
theorem Dt.key{v:V}{k:aq}(h:Dt K H O v (qJ k)):v=kV k:=by
 cases k with
 | inl i=>cases h;rfl
 | inr x=>cases h;rfl
theorem bC.val{kv:List (aq×V)}{kd:List (aq×Yi)}(h:bC K H O kv kd)(k:aq):(dJ kv k=none/\fF kd k=none)\/∃v d,dJ kv k=some v/\fF kd k=some d/\Dt K H O v d:=by
 induction h with
 | nil=>exact .inl ⟨rfl,rfl⟩
 | @cons j v d r s a _ ih=>
  by_cases e:j=k
  ·exact .inr ⟨v,d,qE e,by simp [fF,R1,e],a⟩
  ·rw [ph e,show fF ((j,d)::s) k=fF s k by simp [fF,R1,e]];exact ih
theorem bC.any{kv:List (aq×V)}{kd:List (aq×Yi)}(h:bC K H O kv kd)(k:aq):(kv.any λp=>decide (p.1=k))=(kd.any λp=>decide (p.1=k)):=by
 induction h with
 | nil=>rfl
 | cons a _ ih=>simp only [R5,ih]
theorem bC.length{kv:List (aq×V)}{kd:List (aq×Yi)}(h:bC K H O kv kd):kv.length=kd.length:=by
 induction h with
 | nil=>rfl
 | cons a _ ih=>simp only [Q0,ih]
theorem bC.append{kv kv':List (aq×V)}{kd kd':List (aq×Yi)}(h:bC K H O kv kd)(h':bC K H O kv' kd'):bC K H O (kv++kv') (kd++kd'):=by
 induction h with
 | nil=>exact h'
 | cons a _ ih=>exact .cons a ih
theorem bC.repl{kv:List (aq×V)}{kd:List (aq×Yi)}(h:bC K H O kv kd)(k:aq){v:V}{d:Yi}(hv:Dt K H O v d):bC K H O (kv.map λp=>if p.1=k then(p.1,v) else p) (kd.map λp=>if p.1=k then(p.1,d) else p):=by
 induction h with
 | nil=>exact .nil
 | @cons j u e r s a _ ih=>
  simp only [QR];by_cases z:j=k
  ·rw [Yf z,Yf z];exact .cons hv ih
  ·rw [Ye z,Ye z];exact .cons a ih
theorem bC.put{kv:List (aq×V)}{kd:List (aq×Yi)}(h:bC K H O kv kd)(k:aq){v:V}{d:Yi}(hv:Dt K H O v d):bC K H O (putK kv k v) (fT kd k d):=by
 unfold putK fT;rw [h.any k];split
 ·exact h.repl k hv
 ·exact h.append (.cons hv .nil)
end
section
variable {X:Cx} {H0:Hp} {O0:Ex}
abbrev qK:=Dl->(List (aq×Yi)->Prop)->Prop
def Kw(K:QN)(H0:Hp)(O0:Ex)(t:qK):TE:=λσ H R=>∃O δ Qd,Wd K H0 O0 H O σ δ/\t δ Qd/\∀kd kv p H',Qd kd->au H H'->H' p=none->bC K H' O kv kd->R (.ref p) (ah H' p (.dK kv))
abbrev KE(X:Cx)(H0:Hp)(O0:Ex)(e:Yr)(t:qK):Prop:=PE X e (Kw X.K H0 O0 t)
def kD:qK:=λ_ Q=>Q []
theorem vK{pos:Pos}:KE X H0 O0 (.Dict [] [] pos) kD:=J3.imp λσ H Q uu76=>by obtain⟨O,δ,Qd,w,q,k⟩:=uu76;exact λp hp=>k [] [] p H q (au.refl _) hp .nil
def kE(i:Nat)(t:qK):DS:=λE δ=>t δ λkd=>E.nx (δ.set i (some (.k kd)))
theorem vL{i:Nat}{x:Str}{e:Yr}{t:qK}{pos pos':Pos}(hN:X.N.Nodup)(hi:X.N[i]?=some x)(hx:gW X.env.scope x)(he:KE X H0 O0 e t)(hs:YD e (some (.Name x pos')) pos.line X.env=pure false:=by rfl)(hf:X.fn x=true\/X.env.scope.names.lookup x=some .local:=by first | exact .inl rfl | exact .inr rfl | assumption):
 PS X (.Assign [.Name x pos'] e pos) (bh X.K H0 O0 (kE i t)):=
 (dZ hN hi hx he hs hf).imp λD σ H ⟨O,δ,E,w,q,k1,k2,k3,k4⟩=>⟨O,δ,_,w,q,λds vs p H1 q1 s1 hp r1=>k1 _ _ _ _ q1 ((w.mono s1).setK hp r1)
  ⟨λb o e _=>(s1.trans (au.new hp)) b o e,λb e n z=>z.elim n λy=>by
   cases q:H b with
   | none=>exact e q
   | some o=>have:=s1 _ _ q;rw [y,hp] at this;cases this⟩⟩
def kF(i:Nat)(tk tv:DT):DS:=λE δ=>tv δ λd=>∃kd,δ[i]?=some (some (.k kd))/\tk δ λy=>∃k,y=qJ k/\kd.length < Yt/\E.nx (δ.set i (some (.k (fT kd k d))))
theorem vM{i:Nat}{o e v:Yr}{tk tv:DT}{pos pos':Pos}(hu:X.A.units+64 < YL)(ho:PE X o (cJ i))(he:DE X H0 O0 e tk)(hv:DE X H0 O0 v tv)(hs:YD v (some (.Subscript o e pos')) pos.line X.env=pure false:=by rfl):
 PS X (.Assign [.Subscript o e pos'] v pos) (bh X.K H0 O0 (kF i tk tv)):=
 (vC Yd ho he hv hs).imp λD σ H ⟨O,δ,E,w,q,k1,k2,k3,k4⟩=>⟨O,δ,_,w,q,λd u H1 uu79 s1 r1=>by
  obtain⟨kd,e,qk⟩:=uu79;have w1:=w.mono s1;obtain⟨l,kv,h,a,b,c,r⟩:=w1.ownK e;refine⟨.ref l,h,O,δ,_,w1,qk,λy uy H2 ⟨k,ek,hl,q2⟩ s2 r2=>?_⟩;subst ek;obtain rfl:=r2.key;refine⟨l,_,rfl,nZ.k (s2 _ _ c) (by rw [r.length];exact hl),k1 _ _ _ _ q2 ((w1.mono s2).putK e h ((r.mono s2).put k (r1.mono s2))) ⟨λb' o' z n=>?_,λ_ _ n=>n⟩⟩;rw [az (λy=>n (by rw [y];exact a))];exact(s1.trans s2) _ _ z⟩
def kG(i:Nat)(tk:DT):DT:=λδ Q=>∃kd,δ[i]?=some (some (.k kd))/\tk δ λy=>∃k d,y=qJ k/\fF kd k=some d/\Q d
theorem bC.got{K:QN}{H:Hp}{O:Ex}{kv:List (aq×V)}{kd:List (aq×Yi)}(h:bC K H O kv kd){k:aq}{d:Yi}(e:fF kd k=some d):∃v,dJ kv k=some v/\Dt K H O v d:=by
 rcases h.val k with⟨_,z⟩ | ⟨v,d',a,b,c⟩
 ·rw [e] at z;cases z
 ·rw [e] at b;cases b;exact⟨v,a,c⟩
theorem bC.none{K:QN}{H:Hp}{O:Ex}{kv:List (aq×V)}{kd:List (aq×Yi)}(h:bC K H O kv kd){k:aq}:(dJ kv k).isSome=(fF kd k).isSome:=by
 rcases h.val k with⟨y,z⟩ | ⟨v,d',a,b,c⟩
 ·rw [y,z];rfl
 ·rw [a,b];rfl
theorem Kx{i:Nat}{o e:Yr}{tk:DT}{pos:Pos}(hu:X.A.units+64 < YL)(ho:PE X o (cJ i))(he:DE X H0 O0 e tk)(hs:sJ e):DE X H0 O0 (.Subscript o e pos) (kG i tk):=
 (B8 Yd ho he hs).imp λσ H Q uu81=>by
  obtain⟨O,δ,Qd,w,⟨kd,e,q⟩,k⟩:=uu81;obtain⟨l,kv,h,a,b,c,r⟩:=w.ownK e;refine⟨.ref l,h,O,δ,_,w,q,λy uy H2 ⟨ky,d,ek,ev,q2⟩ s2 r2=>?_⟩;subst ek;obtain rfl:=r2.key;obtain⟨v,hv,dv⟩:=r.got ev;exact⟨l,v,rfl,by rw [<-hv];exact cF.k (s2 _ _ c),k _ _ _ q2 s2 (dv.mono s2)⟩
def kH(i:Nat)(tk:DT):DT:=λδ Q=>∃kd,δ[i]?=some (some (.k kd))/\tk δ λy=>∃k,y=qJ k/\Q ((fF kd k).getD .none)
theorem Ky{i:Nat}{o e:Yr}{tk:DT}{apos cpos:Pos}(hu:X.A.units+64 < YL)(ho:PE X o (cJ i))(he:DE X H0 O0 e tk)(m:M1 X o "get" apos e cpos):DE X H0 O0 (.Call (.Attribute o "get" apos) [e] [] cpos) (kH i tk):=
 (Cc Yd ho he m).imp λσ H Q uu83=>by
  obtain⟨O,δ,Qd,w,⟨kd,e,q⟩,k⟩:=uu83;obtain⟨l,kv,h,a,b,c,r⟩:=w.ownK e;refine⟨.ref l,h,l,rfl,.inl ⟨kv,.inl c⟩,O,δ,_,w,q,λy uy H2 ⟨ky,ek,q2⟩ s2 r2=>?_⟩;subst ek;obtain rfl:=r2.key;refine⟨_,cF.k (s2 _ _ c),k _ _ _ q2 s2 ?_⟩;rcases r.val ky with⟨y,z⟩ | ⟨v,d',a',b',c'⟩
  ·rw [y,z];exact .non
  ·rw [a',b'];exact c'.mono s2
end
open PySem PySem.Spec PyProof.Rows PySem.W PySem.Calls
theorem Kz{prog:Yu}{w:Yv}{A:Yz}{E:Yj->Ym->Prop}{s:Ym}{T:String}{r d:Yl}{n:Nat}{P:Nat->Yj->Prop}{OK:Yw->Prop}{ss:List Str}{Q:Yj->Ym->Prop}
 (K:KdlSrc prog w T r d n P OK)(hh:A.handled=none)(hok:OK s.heap)(hn:n < 64)(hP:∀vs:List Yj,vs.length=n->(∀j v,vs[j]?=some v->P j v)->StrsAre vs ss)
 (h:∀(h' h2:Yw) (tk:Nat) (out:Array Yj) (e:Nat) (ss':List Str),(∀b o,s.heap.get? b=some o->h'.get? b=some o)->(∀b o,h'.get? b=some o->h2.get? b=some o)->h2.get? h'.objs.size=some (YB "list" out e)->StrsAre out.toList ss'->ss'.Perm ss->sortedS ss'=true->Q (.ref h'.objs.size) {s with heap:=h2,toks:=tk}):
 Yo (Yq prog w) A (call (.builtin "sorted") [.ref r]) Q E s:=by
 refine U6 kind_sorted plain_sorted entry_sorted (args_sorted1 _) ?_;unfold Builtin.«sorted»;refine Yk (m:=checkCount "sorted" 1 1 _) (Yn ?_);refine Yk (kdu_collect (A:=A.in1) K hh hok (Rj (TJ hn) Yc) λh' tk acc hk hacc=>?_);have hl:acc.toList.length=n:=by rw [Ru];exact hacc.1
 refine Yk (Zk ?_);have hS:=hP acc.toList hl (λj v e=>hacc.2 j v (by rw [<-Vx];exact e));have hoL:(h'.push (YB "list" acc.toList.toArray 0)).get? h'.objs.size=some (YB "list" acc.toList.toArray 0):=Rb _ rfl;refine Yk (YN (YG ZM ⟨_,hoL,rfl⟩ ZL (list_sort_treeK (s:={s with heap:=h'.push (YB "list" acc.toList.toArray 0),toks:=tk}) strKind_oneLt hoL hS.keysOf (λv₁ v₂ rest e=>keyKind_strs (by rw [<-e];exact hS)) (by rw [hl];exact hn) λst' a1 a2=>⟨_,rfl,?_⟩) (args_list_sort _)));obtain⟨ss',h1,h2,h3⟩:=sorted_out_str hS a1 a2;obtain⟨e,he⟩:=sortedHeap_at (n:=0) (vs:=acc.toList) (out:=(arrOf st').map (·.2)) hoL;refine Yn ⟨_,rfl,h h' _ tk _ e ss' hk (λb o q=>?_) he h1 h2 h3⟩;have hlt:b < h'.objs.size:=Q7 q;rw [sortedHeap_old (Rz hlt) (by rw [size_push'];exact Sk hlt),Xg _ _ _ (Rz hlt)];exact q
theorem Cv{P:Yu}{w:Yv}:∀{ss:List Str}{vs:List Yj},vs.length=ss.length->(∀(j:Nat)(v:Yj),vs[j]?=some v->∃x:Str,ss[j]?=some x/\(dF P w).is (.inr x) v=true)->StrsAre vs ss
 | [],[],_,_=>.nil
 | x::ss,v::vs,hl,h=>by
  obtain⟨y,e,k⟩:=h 0 v rfl;cases e;rcases iZ (k:= .inr x) (v:=v) k with⟨i,t,e,_⟩ | ⟨z,t,e,ev⟩
  ·cases e
  ·cases e;subst ev;exact .cons x t (Cv (by simpa using hl) λj v e=>h (j+1) v e)
theorem KA{X:Cx}:d7 X (.builtin "sorted") (λxs H Q=>X.calm=true/\∃a kv ss,xs=[.ref a]/\Rd H a (.dK kv)/\kv.map (·.1)=ss.map Sn/\ss.length < 64/\∀l,H l=none->Q (.ref l) (ah H l (.lst ((fg ss).map V.str)))):=by
 intro ZY s σ H xs us Q I r h;obtain⟨hc,a,kv,ss,rfl,ha,hk,h64,q⟩:=h;obtain⟨u,rfl,rx⟩:=fo r;cases rx;obtain⟨hz,lo,vs,rel,dd⟩:=ko I.hok ha;obtain⟨ep,da⟩:=dd.dictAt;have hlen:vs.length=ss.length:=by rw [<-rel.length,<-QO (f:=(·.1)),hk,QO]
 refine Kz (ss:=ss) (kdl_dict (kvs:=vs) (ep:=ep) lo) (I.ok.hd hc) da Yd (λus hl hp=>Cv (P:=X.prog) (w:=X.w) Yd λj v e=>?_) λh' h2 tk out e ss' k1 k2 at2 s1 s2 s3=>?_
 ·obtain⟨k,x,ek,kk⟩:=hp j v e;have e1:(vs.map (·.1))[j]?=some k:=by rw [Q1,ek];rfl
  rw [<-rel.keys,hk,Q1] at e1;cases es:ss[j]? with
  | none=>rw [es] at e1;cases e1
  | some y=>rw [es] at e1;cases e1;exact⟨y,rfl,kk⟩
 ·have es:ss'=fg ss:=Cm s2 (Co _ s3);subst es;have hl2:(fg ss).length=ss.length:=s2.length_eq;have I1:ag X ZY σ H {s with heap:=h',toks:=tk}:=I.kept (t':=tk) k1;refine⟨.ref _,_,I1.laid (t':=tk) (o:= .lst ((fg ss).map V.str)) k2 (QQ _) ?_,rfl,q _ (I1.hok.fresh (QQ _))⟩;refine⟨by rw [QO,hl2];exact Rj (TJ h64) Yc,out.toList,e,vJ s1,?_⟩;rw [at2]
theorem bC.keys{K:QN}{H:Hp}{O:Ex}{kv:List (aq×V)}{kd:List (aq×Yi)}(h:bC K H O kv kd):kv.map (·.1)=kd.map (·.1):=by
 induction h with
 | nil=>rfl
 | cons a _ ih=>simp only [QR,ih]
section
variable {X:Cx} {H0:Hp} {O0:Ex}
def kI(i:Nat):DA:=λδ Q=>∃kd,δ[i]?=some (some (.k kd))/\∃ss:List Str,kd.map (·.1)=ss.map Sn/\ss.length < 64/\Q ((fg ss).map .str)
theorem KC{i:Nat}{o:Yr}{np p:Pos}(hc:X.calm=true)(hg:Gl X "sorted")(hm:X.mg "sorted"=none)(hv:YI "sorted"=some (.builtin "sorted"))(ho:PE X o (cJ i))(he:Yp [o] X.env=(false,eval o X.env)::Yp [] X.env:=by rfl)(hpl:(YC p (Yp [] X.env)).any (·.1)=false:=by rfl):
 FE X H0 O0 (.Call (.Name "sorted" np) [o] [] p) (kI i):=
 (bU KA hg hm hv (bw ho b7 he) (he:=he) (hpl:=hpl)).imp λσ H Q uu85=>by
  obtain⟨O,δ,Qd,w,⟨kd,e,ss,ek,h64,q⟩,k⟩:=uu85;obtain⟨l,kv,h,a,b,c,r⟩:=w.ownK e;exact⟨.ref l,h,hc,l,kv,ss,rfl,.inl c,by rw [r.keys];exact ek,h64,λp hp=>k _ _ _ _ q (au.refl _) hp (ai.ofStrs _)⟩
end
section
theorem mV{a:List (aq×Yi)}{r:Dl}{P:List (aq×Yi)->Prop}:(∃d,(some (Sl.k a)::r)[0]?=some (some (Sl.k d))/\P d)=P a:=Yh
theorem mW{x:Option Sl}{r:Dl}{i:Nat}{P:List (aq×Yi)->Prop}:(∃d,(x::r)[i+1]?=some (some (Sl.k d))/\P d)=(∃d,r[i]?=some (some (Sl.k d))/\P d):=Yh
theorem mX{x:Option Sl}{l:Dl}{i j:Nat}{P:List (aq×Yi)->Prop}(h:i≠j):(∃d,(l.set i x)[j]?=some (some (Sl.k d))/\P d)=(∃d,l[j]?=some (some (Sl.k d))/\P d):=by rw [Q6 h]
theorem mY{x:Str}{P:aq->Prop}:(∃k,QU x=qJ k/\P k)=P (.inr x):=propext ⟨λuu86=>by obtain⟨k,e,p⟩:=uu86;cases k with | inl i=>cases e | inr y=>cases e;exact p,λp=>⟨_,rfl,p⟩⟩
end
def eM:Yi->Bool
 | .none=>true
 | _=>false
def jm:Yi->Yi->(Yi->Prop)->Prop:=λx y Q=>y= .none/\Q (.bool (eM x))
def kJ:Yi->Yi->(Yi->Prop)->Prop:=λx y Q=>y= .none/\Q (.bool (!eM x))
theorem Sh.isN{K:QN}{H:Hp}{O:Ex}{x:V}{d:Yi}(h:Sh K H O x d):decide (x= .non)=eM d:=by
 cases h with
 | dt h=>cases h <;> simp [eM]
 | _=>simp [eM]
theorem qL{K:QN}:cw K (λx y H Q=>y= .non/\Q (.bl (decide (x= .non))) H) jm:=λH O x y dx dy Qd R _ hx hy uu87 k=>by
 obtain⟨e,q⟩:=uu87;subst e;refine⟨hy.non,?_⟩;rw [hx.isN];exact k _ _ H q (au.refl _) (.bl _)
theorem Cw{K:QN}:cw K (λx y H Q=>y= .non/\Q (.bl (!decide (x= .non))) H) kJ:=λH O x y dx dy Qd R _ hx hy uu88 k=>by
 obtain⟨e,q⟩:=uu88;subst e;refine⟨hy.non,?_⟩;rw [hx.isN];exact k _ _ H q (au.refl _) (.bl _)
def kK:List Yi->(Yi->Prop)->Prop:=λds Q=>∃i:Int,ds=[.int i]/\Q (.int (if i < 0 then -i else i))
theorem KD{K:QN}:je K (λxs H Q=>∃i,xs=[.int i]/\Q (.int (if i < 0 then -i else i)) H) kK:=λH O xs ds Qd R _ hs uu89 k=>by
 obtain⟨i,e,q⟩:=uu89;subst e;cases hs with
 | cons h r=>cases r;cases h.int;exact⟨i,rfl,k _ _ H q (au.refl _) (.int _)⟩
def kL:Yi->Yi->(Yi->Prop)->Prop:=λx y Q=>∃ds i d,x=fQ ds/\y= .int i/\atI ds i=some d/\Q d
theorem KH{K:QN}:cw K (va K) kL:=λH O x y dx dy Qd R _ hx hy uu90 k=>by
 obtain⟨ds,i,d,e1,e2,e3,q⟩:=uu90;subst e1 e2;obtain⟨a,vs,rfl,hs,r⟩:=hx.scr;cases hy.int;obtain⟨v,hv,rv⟩:=r.atI e3;exact⟨a,vs,i,v,rfl,rfl,hs,hv,k d v H q (au.refl _) rv⟩
section
variable {X:Cx} {H0:Hp} {O0:Ex}
def kM(t:DT)(tl th:DO):DA:=λδ Q=>t δ λd=>tl δ λl=>th δ λu=>∃xs,d=fQ xs/\Q (cV xs l u)
theorem KI{e:Yr}{lo hi:Option Yr}{t:DT}{tl th:DO}{pos p2:Pos}(h:DF X H0 O0 e t)(hl:PO X lo (lT X.K H0 O0 tl))(hu:PO X hi (lT X.K H0 O0 th)):FE X H0 O0 (.Subscript e (.Slice lo hi none p2) pos) (kM t tl th):=
 (uY BD h hl hu).imp λσ H Q uu91=>by obtain⟨O,δ,Qd,w,q,k⟩:=uu91;exact⟨O,δ,_,w,q,λd v H1 q1 s1 r1=>⟨O,δ,_,w.mono s1,q1,λl H2 q2 s2=>⟨O,δ,_,w.mono (s1.trans s2),q2,λu H3 uu92 s3=>by
  obtain⟨xs,e,q3⟩:=uu92;subst e;obtain⟨a,vs,rfl,h1,d1⟩:=(r1.mono (s2.trans s3)).scr;exact⟨a,vs,rfl,h1,λp hp=>k _ _ _ _ q3 (s1.trans (s2.trans s3)) hp (d1.cut l u)⟩⟩⟩⟩
end
theorem Cy{X:Cx}:bG X (YU .Mult) (λx y H Q=>∃(z:Str)(n:Int),x= .str z/\y= .int n/\MulOk z n/\Q (.str (Txt.mul z n)) H):=by
 intro ZY s σ H x y v u Q I rx ry h;obtain⟨z,n,rfl,rfl,hok,q⟩:=h;obtain⟨t,rfl⟩:=rx;obtain⟨t',rfl⟩:=ry;exact SB.mul hok λt' k=>⟨.str _,H,I.tok _,⟨_,rfl⟩,q⟩
def kN:Yi->Yi->(Yi->Prop)->Prop:=λx y Q=>∃(z:Str)(n:Int),x= .str z/\y= .int n/\MulOk z n/\Q (.str (Txt.mul z n))
theorem Cz{K:QN}:cw K (λx y H Q=>∃(z:Str)(n:Int),x= .str z/\y= .int n/\MulOk z n/\Q (.str (Txt.mul z n)) H) kN:=λH O x y dx dy Qd R _ hx hy uu93 k=>by
 obtain⟨z,n,e1,e2,c,q⟩:=uu93;subst e1 e2;cases hx.str;cases hy.int;exact⟨z,n,rfl,rfl,c,k _ _ H q (au.refl _) (.str _)⟩
structure Rw where
 w:Str
 n:Int
 nm:Str
 r:List Yi
def Rw.enc(x:Rw):Yi:= .tuple (.str x.w:: .int x.n:: .str x.nm::x.r)
def fU(ws:List Str)(day:Int)(x:Rw):Prop:=x.w∈ws/\x.n<=day
instance {ws:List Str} {day:Int} {x:Rw}:Decidable (fU ws day x):=by unfold fU;infer_instance
abbrev Ls:=List (Str×Rw)
def hZ(L:Ls):List (aq×Yi):=L.map λp=>(.inr p.1,p.2.enc)
def dQ(L:Ls)(nm:Str):Option Rw:=(L.find? λp=>decide (p.1=nm)).map (·.2)
def sO(L:Ls)(nm:Str)(x:Rw):Ls:=if (L.any λp=>decide (p.1=nm))=true then L.map (λp=>if p.1=nm then(p.1,x) else p) else L++[(nm,x)]
theorem jn{a b:Str}:((Sn a:aq)=Sn b)↔a=b:=⟨λh=>by cases h;rfl,λh=>by rw [h]⟩
theorem vN(nm:Str):∀L:Ls,fF (hZ L) (.inr nm)=(dQ L nm).map Rw.enc
 | []=>rfl
 | p::L=>by
  have ih:=vN nm L;unfold fF dQ hZ at*;by_cases h:p.1=nm
  ·simp [R1,h]
  ·have h':¬((Sn p.1:aq)=Sn nm):=λz=>h (jn.mp z);simp only [QR,R1,decide_eq_false h,decide_eq_false h'];exact ih
theorem CA(L:Ls)(nm:Str)(x:Rw):fT (hZ L) (.inr nm) x.enc=hZ (sO L nm x):=by
 have ha:(hZ L).any (λp=>decide (p.1=(Sn nm:aq)))=L.any λp=>decide (p.1=nm):=by
  unfold hZ;rw [VC];congr 1;funext p;simp only [TR,jn]
 unfold fT sO;rw [ha];split
 ·unfold hZ;rw [Rc,Rc];apply S4;intro p _;simp only [TR,jn];split <;> rfl
 ·unfold hZ;simp
structure fh (ws:List Str) (day:Int) (xs:List Rw) (L:Ls):Prop where
 nd:(L.map (·.1)).Nodup
 it:∀p∈L,p.1=p.2.nm/\p.2∈xs/\fU ws day p.2/\∀y∈xs,fU ws day y->y.nm=p.1->y.n<=p.2.n
 al:∀y∈xs,fU ws day y->∃p∈L,p.1=y.nm
 le:L.length<=xs.length
theorem fh.nil(ws:List Str)(day:Int):fh ws day [] []:=⟨List.nodup_nil,(λp h=>by cases h),(λp h=>by cases h),QQ _⟩
theorem sP{L:Ls}{nm:Str}{y:Rw}(h:dQ L nm=some y):∃p∈L,p.1=nm/\p.2=y:=by
 unfold dQ at h;cases e:L.find? (λp=>decide (p.1=nm)) with
 | none=>rw [e] at h;cases h
 | some p=>
  rw [e] at h;cases h;exact⟨p,Wc e,by simpa using List.find?_some e,rfl⟩
theorem CB{L:Ls}{nm:Str}(h:dQ L nm=none):∀p∈L,p.1≠nm:=by
 intro p hp e;unfold dQ at h;rw [Option.map_eq_none_iff,Vd] at h;exact h p hp (by simpa using e)
section
variable {ws:List Str} {day:Int} {xs:List Rw} {L:Ls} {x:Rw}
theorem fh.skip(h:fh ws day xs L)(hx:¬fU ws day x):fh ws day (xs++[x]) L:=by
 refine⟨h.nd,λp hp=>?_,λy hy ho=>?_,by have:=h.le;simp;omega⟩
 ·obtain⟨a,b,c,d⟩:=h.it p hp;refine⟨a,by simp [b],c,λy hy ho e=>?_⟩;rcases Q9.mp hy with z | z
  ·exact d y z ho e
  ·rw [Ra] at z;subst z;exact absurd ho hx
 ·rcases Q9.mp hy with z | z
  ·exact h.al y z ho
  ·rw [Ra] at z;subst z;exact absurd ho hx
theorem fh.keep(h:fh ws day xs L){y0:Rw}(hl:dQ L x.nm=some y0)(hn:¬y0.n < x.n):fh ws day (xs++[x]) L:=by
 obtain⟨p0,hp0,e0,rfl⟩:=sP hl;have uq:∀p∈L,p.1=x.nm->p=p0:=λp hp e=>by
  have nd:=h.nd;clear h hl hn
  induction L with
  | nil=>cases hp
  | cons q L ih=>
   rw [QR,Sq] at nd;rcases QX.mp hp with a | a <;> rcases QX.mp hp0 with b | b
   ·rw [a,b]
   ·exact absurd (Q5.mpr ⟨p0,b,by rw [e0,<-e,a]⟩) nd.1
   ·exact absurd (Q5.mpr ⟨p,a,by rw [e,<-e0,b]⟩) nd.1
   ·exact ih b a nd.2
 refine⟨h.nd,λp hp=>?_,λy hy ho=>?_,by have:=h.le;simp;omega⟩
 ·obtain⟨a,b,c,d⟩:=h.it p hp;refine⟨a,by simp [b],c,λy hy ho e=>?_⟩;rcases Q9.mp hy with z | z
  ·exact d y z ho e
  ·rw [Ra] at z;subst z;rw [uq p hp e.symm];omega
 ·rcases Q9.mp hy with z | z
  ·exact h.al y z ho
  ·rw [Ra] at z;subst z;exact⟨p0,hp0,e0⟩
theorem fh.put(h:fh ws day xs L)(ho:fU ws day x)(hl:∀y,dQ L x.nm=some y->y.n < x.n):fh ws day (xs++[x]) (sO L x.nm x):=by
 unfold sO;split
 ·rename_i ha;obtain⟨p0,hp0,e0⟩:=T2.mp ha;have e0:p0.1=x.nm:=of_decide_eq_true e0;have hmx:∀y∈xs,fU ws day y->y.nm=x.nm->y.n<=x.n:=λy hy ho' e=>by
   cases hk:dQ L x.nm with
   | none=>exact absurd e0 (CB hk p0 hp0)
   | some z=>
    obtain⟨p,hp,ep,rfl⟩:=sP hk;have:=(h.it p hp).2.2.2 y hy ho' (by rw [ep];exact e);have:=hl _ hk;omega
  refine⟨?_,λp hp=>?_,λy hy ho'=>?_,by have:=h.le;simp;omega⟩
  ·rw [Rc,show((λp:Str×Rw=>p.1)∘ λp=>if p.1=x.nm then(p.1,x) else p)=λp=>p.1 by funext p;simp only [TR];split <;> rfl];exact h.nd
  ·obtain⟨q,hq,rfl⟩:=Q5.mp hp;by_cases z:q.1=x.nm
   ·rw [Yf z];refine⟨z,Yh,ho,λy hy ho' e=>?_⟩;rcases Q9.mp hy with m | m
    ·exact hmx y m ho' (by rw [e];exact z)
    ·rw [Ra] at m;subst m;exact X5 _
   ·rw [Ye z];obtain⟨a,b,c,d⟩:=h.it q hq;refine⟨a,by simp [b],c,λy hy ho' e=>?_⟩;rcases Q9.mp hy with m | m
    ·exact d y m ho' e
    ·rw [Ra] at m;subst m;exact absurd e.symm z
  ·rcases Q9.mp hy with m | m
   ·obtain⟨p,hp,e⟩:=h.al y m ho';refine⟨_,Q5.mpr ⟨p,hp,rfl⟩,?_⟩;split <;> exact e
   ·rw [Ra] at m;subst m;refine⟨_,Q5.mpr ⟨p0,hp0,rfl⟩,?_⟩;rw [Yf e0];exact e0
 ·rename_i ha;have hno:∀p∈L,p.1≠x.nm:=λp hp e=>ha (T2.mpr ⟨p,hp,decide_eq_true e⟩);refine⟨?_,λp hp=>?_,λy hy ho'=>?_,by have:=h.le;simp;omega⟩
  ·rw [Rf];refine V8.mpr ⟨h.nd,Yh,λa ha' b hb=>?_⟩;simp only [QR,RO,Ra] at hb;obtain⟨p,hp,rfl⟩:=Q5.mp ha';rw [hb];exact hno p hp
  ·rcases Q9.mp hp with m | m
   ·obtain⟨a,b,c,d⟩:=h.it p m;refine⟨a,by simp [b],c,λy hy ho' e=>?_⟩;rcases Q9.mp hy with z | z
    ·exact d y z ho' e
    ·rw [Ra] at z;subst z;exact absurd e.symm (hno p m)
   ·rw [Ra] at m;subst m;refine⟨rfl,Yh,ho,λy hy ho' e=>?_⟩;rcases Q9.mp hy with z | z
    ·obtain⟨p,hp,e'⟩:=h.al y z ho';exact absurd (e'.trans e) (hno p hp)
    ·rw [Ra] at z;subst z;exact X5 _
  ·rcases Q9.mp hy with m | m
   ·obtain⟨p,hp,e⟩:=h.al y m ho';exact⟨p,by simp [hp],e⟩
   ·rw [Ra] at m;subst m;exact⟨(y.nm,y),Yh,rfl⟩
end
structure fi (ws:List Str) (day:Int) (xs res:List Rw):Prop where
 up:(res.map (·.nm)).Pairwise λa b=>dn a b=true
 nd:(res.map (·.nm)).Nodup
 it:∀x∈res,x∈xs/\fU ws day x/\∀y∈xs,fU ws day y->y.nm=x.nm->y.n<=x.n
 al:∀y∈xs,fU ws day y->∃x∈res,x.nm=y.nm
 le:res.length<=xs.length
theorem vO{L:Ls}{nm:Str}(h:nm∈L.map (·.1)):∃x,dQ L nm=some x:=by
 cases e:dQ L nm with
 | some x=>exact⟨x,rfl⟩
 | none=>
  obtain⟨p,hp,e'⟩:=Q5.mp h;exact absurd e' (CB e p hp)
def sQ(L:Ls):List Rw:=(fg (L.map (·.1))).filterMap (dQ L)
theorem KJ{ws:List Str}{day:Int}{xs:List Rw}{L:Ls}(h:fh ws day xs L):(sQ L).map (·.nm)=fg (L.map (·.1)):=by
 unfold sQ;have key:∀l:List Str,(∀a∈l,a∈L.map (·.1))->(l.filterMap (dQ L)).map (·.nm)=l:=by
  intro l
  induction l with
  | nil=>intro _;rfl
  | cons a l ih=>
   intro hl;obtain⟨x,hx⟩:=vO (hl a Yh);obtain⟨p,hp,e,rfl⟩:=sP hx;rw [Ss,hx];show p.2.nm::_=_;rw [ih λb hb=>hl b (by simp [hb]),<-(h.it p hp).1,e]
 exact key _ λa ha=>(ku _).mem_iff.mp ha
theorem fh.res{ws:List Str}{day:Int}{xs:List Rw}{L:Ls}(h:fh ws day xs L):fi ws day xs (sQ L):=by
 have hn:=KJ h;refine⟨by rw [hn];exact Ck _,by rw [hn];exact(ku _).nodup_iff.mpr h.nd,λx hx=>?_,λy hy ho=>?_,by rw [<-QO (f:=λx:Rw=>x.nm),hn,(ku _).length_eq,QO];exact h.le⟩
 ·obtain⟨a,ha,e⟩:=UE.mp hx;obtain⟨p,hp,e1,rfl⟩:=sP e;obtain⟨b1,b2,b3,b4⟩:=h.it p hp;exact⟨b2,b3,λy hy ho e=>b4 y hy ho (by rw [b1];exact e)⟩
 ·obtain⟨p,hp,e⟩:=h.al y hy ho;have:p.1∈(sQ L).map (·.nm):=by rw [hn];exact(ku _).mem_iff.mpr (Q5.mpr ⟨p,hp,rfl⟩)
  obtain⟨x,hx,e'⟩:=Q5.mp this;exact⟨x,hx,e'.trans e⟩
theorem KL(t:YY)(n:Nat):(t.orStandIn n).led=t.led:=by unfold W7;split <;> rfl
theorem KN(t:YY)(es:Array (Int×Yj))(h:Int)(x:Yj):(layNew t es h x).2.1.led=t.led:=by
 unfold layNew;split
 ·exact KL _ _
 ·rfl
theorem KO(t:YY)(es:Array (Int×Yj))(n:Nat):(Zy t es n).2.1.led=t.led:=by
 unfold Zy XD XQ;cases Xh (W8 n - 1) (es.map (·.1)) with
 | none=>rfl
 | some ow=>simp only [bind,X6,pure];split <;> rfl
abbrev fV(w:Yv):Bool:=w.params.followText "set-order"
section
variable {P:Yu} {w:Yv} {A:Yz} {E:Yj->Ym->Prop} {s:Ym}
theorem KP(a:Yj){Q₁:Yj->Ym->Prop}
 (h:Q₁ (.ref s.heap.objs.size) {s with heap:=s.heap.push {cls:= .type "set",dict:=none,data:= .set #[] 0 (.fresh 0 0 (!fV w))}}):
 Zc (Yq P w) A (.call (.builtin "set.__new__") ⟨[.type "set",a],[]⟩) (wants Q₁ E) s:=by
 refine codeAny_of_tree ?_;show Yo _ A.in1 (checkBuiltinCall "set.__new__" ⟨[.type "set",a],[]⟩ >>=λ_=>again (.builtin "set.__new__" ⟨[.type "set",a],[]⟩)) _ _ s;refine Yk (Zw (PySem.F.newCall_set_1 a) (Yn ⟨Zx WK _,Ze PySem.F.entry_set_new ?_⟩));rw [Ul WK _];unfold Builtin.«set.__new__» Builtin.Frozenset.newClass;have hsb:=sub_set_self;obtain⟨hp,g,d,tk,os⟩:=s;dsimp only
 wp_walk
 refine Za (Yn ?_);dsimp only;simp only [newObj];exact Yk (wpAny_alloc (Yn (Yn h)))
end
theorem jo:Slot "set_iterator" "__next__" "set_iterator.__next__":=
 .of (owner:="set_iterator") (n:="__next__") (by rw [typeLookup_type,builtinLookup_eq_fast];kernel_rfl) Yb Yb Yb
  (by first | exact .inl Yb | exact .inr Yb) (by rw [isSubtype_type];kernel_rfl)
theorem sR:entryFor table "set_iterator.__next__"=some Builtin.«set_iterator.__next__»:=entryFor_of_tree (by kernel_rfl)
theorem CC:Manifest.owners.lookup (String.ofList ['r','o','t','a','r','e','t','i','_','t','e','s'].reverse)=some Manifest.sig_set_iterator:=by kernel_rfl
theorem sS(a:Yj):argsOk "set_iterator.__next__" ⟨[a],[]⟩:=by
 unfold argsOk;rw [signature?_of (id:="set_iterator.__next__") (n:=['_','_','t','x','e','n','_','_']) (o:=['r','o','t','a','r','e','t','i','_','t','e','s']) (by kernel_rfl) CC];kernel_rfl
theorem KQ:entryFor table "set.__iter__"=some Builtin.«frozenset.__iter__»:=entryFor_alias (id':="frozenset.__iter__") (by kernel_rfl) rfl Yb (by kernel_rfl)
theorem vP{α:Type}:∀{l:List α}{i:Nat}(h:i < l.length),(l[i]::l.eraseIdx i).Perm l
 | a::l,0,h=>.refl _
 | a::l,i+1,h=>by
  have:=vP (l:=l) (i:=i) (by simpa using h);simp only [List.getElem_cons_succ,List.eraseIdx_cons_succ];exact(List.Perm.swap _ _ _).trans (this.cons a)
theorem CD{α:Type}(next:Nat->Nat):∀(f k:Nat)(left:List α)(out:Array α),f=left.length->(pickOrder.go next f k left out).toList.Perm (out.toList++left)
 | 0,k,left,out,e=>by
  rw [VE e.symm];unfold pickOrder.go;simp
 | f+1,k,left,out,e=>by
  unfold pickOrder.go;have hlt:next k % left.length < left.length:=Nat.mod_lt _ Yd;rw [Rv hlt];refine(CD next f (k+1) _ _ (by rw [VY hlt];omega)).trans ?_;rw [Xi,UO];exact List.Perm.append_left _ (vP hlt)
theorem KR{α:Type}(next:Nat->Nat)(xs:Array α):(ZR next xs).toList.Perm xs.toList:=by
 have:=CD next xs.size 0 xs.toList #[] Yh;simpa [ZR] using this
section
variable {P:Yu} {w:Yv} {A:Yz} {E:Yj->Ym->Prop}
theorem CF{α:Type}:∀(n:Nat)(xs:List α)(s:Ym)(Q:List α->Ym->Prop),n=xs.length->(∀ys d,ys.Perm xs->Q ys {s with drawn:=d})->Yo (Yq P w) A (drawOrder n xs) Q E s
 | 0,xs,s,Q,e,q=>by
  rw [VE e.symm] at q⊢;unfold drawOrder;exact Yn (q [] s.drawn (.refl _))
 | n+1,[],s,Q,e,q=>by cases e
 | n+1,x::xs,s,Q,e,q=>by
  unfold drawOrder;refine Yk ?_;intro Γ p hΓ;refine⟨Yh,?_⟩;generalize hi:(Yq P w).w.draws .order (s.drawn.get .order)% (x::xs).length=i;have hlt:i < (x::xs).length:=by rw [<-hi];exact Nat.mod_lt _ Yh
  have key:Yo (Yq P w) A (match (x::xs)[i]? with | some y=>(do return y::(<-drawOrder n ((x::xs).eraseIdx i))) | none=>unsupported "internal:drawOrder") Q E {s with drawn:=s.drawn.bump .order}:=by
   rw [Rv hlt];refine Yk (CF n _ _ _ (by rw [VY hlt];simp at e⊢;omega) λys d hp=>Yn (q _ d ?_));exact(hp.cons _).trans (vP hlt)
  exact key
end
def fW(h:Yw)(it:Yl)(f:Yj)(i:Nat)(a:Yl)(n ep:Nat):Prop:=∃o,h.get? it=some o/\o.cls= .type "set_iterator"/\o.data= .fields #[f,.int i 0,.ref a,.int n 0,.int ep 0]
theorem fW.typeIs{s:Ym}{it f i a n ep}(x:fW s.heap it f i a n ep):s.TypeIs (.ref it) "set_iterator":=let ⟨o,h,c,_⟩:=x;⟨o,h,c⟩
section
variable {P:Yu} {w:Yv} {A:Yz} {E:Yj->Ym->Prop} {s:Ym} {a:Yl} {o:Obj} {es:Array (Int×Yj)} {ep:Nat} {t:YY}
theorem CG{slot i:Nat}{Q:Option (Yj×Nat)->Ym->Prop}(hb:fV w=true)(o1:s.heap.get? a=some o)(d1:o.data= .set es ep t)(f1:t.fits es.size=true)
 (h:Q (((ZR (w.params.setOrder a ep) es)[i]?).map λe=>(e.2,slot)) s):Yo (Yq P w) A (Zu a slot i ep) Q E s:=by
 unfold Zu setWalk setsByText;refine Yk (Y7 o1 d1 f1 (Yk (Yk (Za (Yn ?_)))));rw [Yf (show(Yq P w).w.params.followText "set-order"=true from hb)];rw [Ye Yh];refine Yk (Yk (Y7 o1 d1 f1 (Yk (Yk (Za (Yn ?_))))));rw [Yf (show(Yq P w).w.params.followText "set-order"=true from hb)];exact Yk (Za (Yn (Yn h)))
theorem KS{it:Yl}{slot slot' i:Nat}{x:Yj}{Q:Option Yj->Ym->Prop}(hit:fW s.heap it (.int slot 0) i a es.size ep)(o1:s.heap.get? a=some o)(d1:o.data= .set es ep t)(f1:t.fits es.size=true)
 (nx:∀E' Q',Q' (some (x,slot')) s->Yo (Yq P w) A.in1 (Zu a slot i ep) Q' E' s)
 (hQ:∀h',fW h' it (.int slot' 0) (i+1) a es.size ep->Tp it s.heap h'->Q (some x) {s with heap:=h'}):Yo (Yq P w) A (Zd (.ref it)) Q E s:=by
 obtain⟨u,u1,c1,e1⟩:=id hit;unfold Zd;refine Yk (Zl (YH (name:=QM "__next__") hit.typeIs jo (YG jo hit.typeIs sR ?_ (sS _))));unfold Builtin.«set_iterator.__next__»;refine Yk (m:=slotArgs _ _ _) (Yn (Yk (ZN u1 e1 ?_)));show Yo _ _ (setEntries a >>=_) _ _ s;refine Yk (Zb o1 d1 f1 ?_);rw [Ye Yh];show Yo _ _ (Zu a ((slot:Int)).toNat ((i:Int)).toNat ((ep:Int)).toNat >>=_) _ _ s;simp only [R9];refine Yk (nx _ _ ?_);show Yo _ _ (setField (.ref it) 0 (Y1 (slot':Int)) >>=_) _ _ s;refine Yk (YZ u1 e1 Yh ?_);have g1:=SJ (XR (·.setIfInBounds 0 (Y1 (slot':Int)))) u1 (Uc (SF e1 _));have k1:=SF e1 (·.setIfInBounds 0 (Y1 (slot':Int)));refine Yk (YZ g1 k1 Yh (Yn ⟨x,rfl,Yn (hQ _ ?_ ((RN ..).trans (RN ..)))⟩));refine⟨_,SJ _ g1 (Uc (SF k1 _)),(Vn ..).trans ((Vn ..).trans c1),?_⟩;rw [SF k1];simp [Y1]
theorem KU{it pl:Yl}{i k:Nat}{hk:Int}{x:Yj}{ol:Obj}{ps:Array Yj}{nl:Nat}{Q:Option Yj->Ym->Prop}(hit:fW s.heap it (.ref pl) i a es.size ep)(o1:s.heap.get? a=some o)(d1:o.data= .set es ep t)(f1:t.fits es.size=true)
 (l1:s.heap.get? pl=some ol)(l2:ol.data= .seq ps nl)(p1:ps[i]?=some (.int (k:Int) 0))(x1:es[k]?=some (hk,x))
 (hQ:∀h',fW h' it (.ref pl) (i+1) a es.size ep->Tp it s.heap h'->Q (some x) {s with heap:=h'}):Yo (Yq P w) A (Zd (.ref it)) Q E s:=by
 obtain⟨u,u1,c1,e1⟩:=id hit;unfold Zd;refine Yk (Zl (YH (name:=QM "__next__") hit.typeIs jo (YG jo hit.typeIs sR ?_ (sS _))));unfold Builtin.«set_iterator.__next__»;refine Yk (m:=slotArgs _ _ _) (Yn (Yk (ZN u1 e1 ?_)));show Yo _ _ (setEntries a >>=_) _ _ s;refine Yk (Zb o1 d1 f1 ?_);rw [Ye Yh];show Yo _ _ (seqItems? (.ref pl) >>=_) _ _ s;refine Yk (ZO l1 l2 ?_);simp only [R9,p1];refine Yk ?_;unfold setNextDrawn;refine Yk (Y7 o1 d1 f1 ?_);simp only [R9];rw [Ye Yh,x1];refine Yn (Yk (YZ u1 e1 Yh (Yn ⟨x,rfl,Yn (hQ _ ?_ (RN ..))⟩)));refine⟨_,SJ _ u1 (Uc (SF e1 _)),(Vn ..).trans c1,?_⟩;rw [SF e1];simp [Y1]
theorem KW{it:Yl}{slot i:Nat}{Q:Option Yj->Ym->Prop}(hh:A.handled=none)(hit:fW s.heap it (.int slot 0) i a es.size ep)(o1:s.heap.get? a=some o)(d1:o.data= .set es ep t)(f1:t.fits es.size=true)
 (nx:∀E' Q',Q' none s->Yo (Yq P w) A.in1 (Zu a slot i ep) Q' E' s)
 (hQ:∀h',WD it s.heap h'->Q none {s with heap:=h'}):Yo (Yq P w) A (Zd (.ref it)) Q E s:=by
 obtain⟨u,u1,c1,e1⟩:=id hit;unfold Zd;refine Yk (Zl (YH (name:=QM "__next__") hit.typeIs jo (YG jo hit.typeIs sR ?_ (sS _))));unfold Builtin.«set_iterator.__next__»;refine Yk (m:=slotArgs _ _ _) (Yn (Yk (ZN u1 e1 ?_)));show Yo _ _ (setEntries a >>=_) _ _ s;refine Yk (Zb o1 d1 f1 ?_);rw [Ye Yh];show Yo _ _ (Zu a ((slot:Int)).toNat ((i:Int)).toNat ((ep:Int)).toNat >>=_) _ _ s;simp only [R9];refine Yk (nx _ _ ?_);show Yo _ _ (setField (.ref it) 2 .none >>=_) _ _ s;refine Yk (YZ u1 e1 Yh ?_);refine Yk (m:=newExc (.type "StopIteration") []) ?_;simp only [newExc,newTuple];refine Yk (YE ?_ (by size_fits));refine Yk (m:=Zh _ _) (Zw (a:=SH) (by first | rfl | (simp only [Zh];rfl)) ?_);refine YE ?_ (by size_fits);simp only [raiseNew];refine Yk (wpAny_handled ?_);rw [show A.in1.handled=none from hh];refine Yk (Yn (wpAny_throw ?_));refine Yk (Zz (T:="StopIteration") (b:=true) ⟨_,Rb _ rfl,rfl⟩ isSubtype_stop ?_);exact Yn (hQ _ (((RN ..).extBut.push _).push _))
theorem KY{it pl:Yl}{i:Nat}{ol:Obj}{ps:Array Yj}{nl:Nat}{Q:Option Yj->Ym->Prop}(hh:A.handled=none)(hit:fW s.heap it (.ref pl) i a es.size ep)(o1:s.heap.get? a=some o)(d1:o.data= .set es ep t)(f1:t.fits es.size=true)
 (l1:s.heap.get? pl=some ol)(l2:ol.data= .seq ps nl)(p1:ps[i]?=none)
 (hQ:∀h',WD it s.heap h'->Q none {s with heap:=h'}):Yo (Yq P w) A (Zd (.ref it)) Q E s:=by
 obtain⟨u,u1,c1,e1⟩:=id hit;unfold Zd;refine Yk (Zl (YH (name:=QM "__next__") hit.typeIs jo (YG jo hit.typeIs sR ?_ (sS _))));unfold Builtin.«set_iterator.__next__»;refine Yk (m:=slotArgs _ _ _) (Yn (Yk (ZN u1 e1 ?_)));show Yo _ _ (setEntries a >>=_) _ _ s;refine Yk (Zb o1 d1 f1 ?_);rw [Ye Yh];show Yo _ _ (seqItems? (.ref pl) >>=_) _ _ s;refine Yk (ZO l1 l2 ?_);simp only [R9,p1];show Yo _ _ (setField (.ref it) 0 (Y1 0) >>=_) _ _ s;refine Yk (YZ u1 e1 Yh ?_);have g1:=SJ (XR (·.setIfInBounds 0 (Y1 0))) u1 (Uc (SF e1 _));have k1:=SF e1 (·.setIfInBounds 0 (Y1 0));refine Yk (YZ g1 k1 Yh ?_);refine Yk (m:=newExc (.type "StopIteration") []) ?_;simp only [newExc,newTuple];refine Yk (YE ?_ (by size_fits));refine Yk (m:=Zh _ _) (Zw (a:=SH) (by first | rfl | (simp only [Zh];rfl)) ?_);refine YE ?_ (by size_fits);simp only [raiseNew];refine Yk (wpAny_handled ?_);rw [show A.in1.handled=none from hh];refine Yk (Yn (wpAny_throw ?_));refine Yk (Zz (T:="StopIteration") (b:=true) ⟨_,Rb _ rfl,rfl⟩ isSubtype_stop ?_);exact Yn (hQ _ ((((RN ..).trans (RN ..)).extBut.push _).push _))
end
theorem CH:Slot "set_iterator" "__iter__" "set_iterator.__iter__":=
 .of (owner:="set_iterator") (n:="__iter__") (by rw [typeLookup_type,builtinLookup_eq_fast];kernel_rfl) Yb Yb Yb
  (by first | exact .inl Yb | exact .inr Yb) (by rw [isSubtype_type];kernel_rfl)
theorem KZ:entryFor table "set_iterator.__iter__"=some Builtin.«dict_keyiterator.__iter__»:=entryFor_alias (id':="dict_keyiterator.__iter__") (by kernel_rfl) rfl Yb (by kernel_rfl)
theorem K0(a:Yj):argsOk "set_iterator.__iter__" ⟨[a],[]⟩:=by
 unfold argsOk;rw [signature?_of (id:="set_iterator.__iter__") (n:=['_','_','r','e','t','i','_','_']) (o:=['r','o','t','a','r','e','t','i','_','t','e','s']) (by kernel_rfl) CC];kernel_rfl
theorem fW.at{h h':Yw}{it f i a n ep}(x:fW h it f i a n ep)(e:∀o,h.get? it=some o->h'.get? it=some o):fW h' it f i a n ep:=let ⟨o,ho,r⟩:=x;⟨o,e _ ho,r⟩
section
variable {P:Yu} {w:Yv} {A:Yz} {E:Yj->Ym->Prop} {s:Ym} {a:Yl} {o:Obj} {es:Array (Int×Yj)} {ep:Nat} {t:YY}
theorem CI{it:Yl}{f:Yj}{i n:Nat}{Q:Yj->Ym->Prop}(hit:fW s.heap it f i a n ep)(h:Q (.ref it) s):Yo (Yq P w) A (pyIter (.ref it)) Q E s:=by
 refine wpAny_pyIter_slot hit.typeIs CH (YG CH hit.typeIs KZ ?_ (K0 _));exact Yk (m:=slotArgs _ _ _) (Yn (Yn ⟨_,rfl,"set_iterator",_,hit.typeIs,jo.lookup,h⟩))
theorem CJ(hh:A.handled=none)(it:Yl)(hne:a≠it)(d1:o.data= .set es ep t)(f1:t.fits es.size=true)(vs:List Yj)(hl:vs.length=es.size)(sl:Nat->Nat)
 (nx:∀(s:Ym) (i:Nat) (h:i < vs.length) E' Q',s.heap.get? a=some o->Q' (some (vs[i],sl (i+1))) s->Yo (Yq P w) A.in1 (Zu a (sl i) i ep) Q' E' s)
 (nd:∀(s:Ym) E' Q',s.heap.get? a=some o->Q' none s->Yo (Yq P w) A.in1 (Zu a (sl es.size) es.size ep) Q' E' s):
 Walks P w A it [it,a] [it] es.size (λi v=>vs[i]?=some v) (λi h=>fW h it (.int (sl i:Nat) 0) i a es.size ep/\h.get? a=some o) where
 sub:=λb hb=>by rw [Ra] at hb;simp [hb]
 frame:=λ_ _ _ st hk=>⟨st.1.at λo e=>hk it Yh o e,hk a Yh o st.2⟩
 item:=λi s Q E hi st hQ=>by
  have hi':i < vs.length:=Yd
  refine KS st.1 st.2 d1 f1 (λE' Q' q=>nx s i hi' E' Q' st.2 q) λh' it' sb=>?_;exact hQ _ h' s.toks (by simp [hi']) ⟨it',by rw [sb.2 a hne];exact st.2⟩ λb u hb e=>sb.extBut b u (λz=>hb (by simp [z])) e
 done:=λs Q E st hQ=>KW hh st.1 st.2 d1 f1 (λE' Q' q=>nd s E' Q' st.2 q) λh' he=>hQ h' s.toks λb u hb e=>he b u (λz=>hb (by simp [z])) e
 self:=λ_ _ _ _ st hQ=>CI st.1 hQ
theorem K1(hh:A.handled=none)(it pl:Yl)(hne:a≠it)(hnp:pl≠it)(d1:o.data= .set es ep t)(f1:t.fits es.size=true)(vs:List Yj)(ks:List Nat){ol:Obj}{nl:Nat}(l2:ol.data= .seq (ks.map λ(k:Nat)=>Tv (k:Int) 0).toArray nl)
 (hl:ks.length=es.size)(hv:∀i k:Nat,ks[i]?=some k->∃h x,es[k]?=some (h,x)/\vs[i]?=some x):
 Walks P w A it [it,a,pl] [it] es.size (λi v=>vs[i]?=some v) (λi h=>fW h it (.ref pl) i a es.size ep/\h.get? a=some o/\h.get? pl=some ol) where
 sub:=λb hb=>by rw [Ra] at hb;simp [hb]
 frame:=λ_ _ _ st hk=>⟨st.1.at λo e=>hk it Yh o e,hk a Yh o st.2.1,hk pl Yh ol st.2.2⟩
 item:=λi s Q E hi st hQ=>by
  have hi':i < ks.length:=Yd
  obtain⟨h,x,e1,e2⟩:=hv i ks[i] (by simp [hi']);refine KU st.1 st.2.1 d1 f1 st.2.2 l2 (k:=ks[i]) (by simp [hi']) e1 λh' it' sb=>?_;exact hQ _ h' s.toks e2 ⟨it',by rw [sb.2 a hne];exact st.2.1,by rw [sb.2 pl hnp];exact st.2.2⟩ λb u hb e=>sb.extBut b u (λz=>hb (by simp [z])) e
 done:=λs Q E st hQ=>KY hh st.1 st.2.1 d1 f1 st.2.2 l2 (by simp [hl]) λh' he=>hQ h' s.toks λb u hb e=>he b u (λz=>hb (by simp [z])) e
 self:=λ_ _ _ _ st hQ=>CI st.1 hQ
end
section
variable {P:Yu} {w:Yv} {A:Yz} {E:Yj->Ym->Prop} {s:Ym} {a:Yl}
theorem K2{Q:Bool->Ym->Prop}(hT:s.TypeIs (.ref a) "set")(h:Q false s):Yo (Yq P w) A (VN (.ref a)) Q E s:=by
 unfold VN;refine Yk (wpAny_specialOf hT PySem.F.slot_set_len.lookup ?_);generalize hid:("set.__len__":String)=id0
 wp_delta
 rw [show splitId id0=some ("set","__len__") from by subst hid;decide+kernel];subst hid;refine Yk (Zz (T:="set") (b:=true) hT (by rw [isSubtype_type];kernel_rfl) ?_);refine ZK (λz=>absurd z Yc) (λ_=>?_);refine ZK (λ_=>?_) (λz=>absurd Yb z);exact Yk (ZH hT (Yn h))
end
theorem ag.drw{X:Cx}{ZY:List (Yl×Obj)}{σ:List (Option V)}{H:Hp}{s:Ym}{d:Drawn}(I:ag X ZY σ H s):ag X ZY σ H {s with drawn:=d}:=⟨I.ok,I.os,I.bare,I.base,I.loc,I.cell,I.free,I.freeC,I.pin,I.hok,I.len⟩
theorem K3:YI "set"=some (.type "set"):=Yb
section
variable {X:Cx} {H0:Hp} {O0:Ex}
def kO(i:Nat)(t:DA):DS:=λE δ=>∃ds,δ[i]?=some (some (.o ds))/\t δ λes=>ds.length+es.length<=Yt/\E.nx (δ.set i (some (.o (ds++es))))
theorem sT{i:Nat}{o e:Yr}{t:DA}{apos cpos pos:Pos}(ho:PE X o (cJ i))(he:FE X H0 O0 e t)(hbase:YQ o "extend" X.env (eval o X.env)=eval o X.env:=by rfl)
 (hfew:((YC cpos (Yp [e] X.env)).all (λx=>!x.1) && (Y6 cpos (YS [] X.env)).all (λx=>x.1.isSome) && decide ([e].length+([]:List Y5).length+(if ([]:List Y5).isEmpty then 0 else 1) < 30))=true:=by rfl)
 (hline:(apos.endLine==cpos.line)=true:=by rfl)(hst:Yp [e] X.env=(false,eval e X.env)::Yp [] X.env:=by rfl)(hplain:(YC cpos (Yp [] X.env)).any (·.1)=false:=by rfl)
 (hs:YD (.Call (.Attribute o "extend" apos) [e] [] cpos) none pos.line X.env=pure false:=by rfl):PS X (.Expr (.Call (.Attribute o "extend" apos) [e] [] cpos) pos) (bh X.K H0 O0 (kO i t)):=
 (qc (rY UA Ve Wl IQ ho (bw he b7 hst) hbase hfew hline hst hplain) hs).imp λD σ H uu94=>by
  obtain⟨O,δ,E,w,⟨ds,e,q⟩,k1,k2,k3,k4⟩:=uu94;obtain⟨l,vs,h,a,b,c,r⟩:=w.own e;refine⟨_,h,.inl ⟨rfl,_,bo.of c⟩,O,δ,_,w,q,λes ws p H1 q1 s1 hp r1=>?_⟩;have hl:H1 l=some (.lst vs):=s1 _ _ c;have np:l≠p:=λz=>by rw [z,hp] at hl;cases hl
  have S2:au H1 (ah H1 p (.lst ws)):=au.new hp;refine⟨l,p,vs,ws,rfl,rfl,by rw [az np];exact hl,bq,by rw [r.length,r1.length];exact q1.1,?_⟩;exact k1 _ _ _ _ q1.2 (((w.mono s1).mono S2).putO (vs:=vs) e h (((r.mono s1).mono S2).append (r1.mono S2))) ⟨λb' o' z n=>by rw [az (λy=>n (by rw [y];exact a))];exact S2 _ _ (s1 _ _ z),λ_ _ n=>n⟩
end
theorem CK:∀{ns:List Int}{us:List Yj},aI (ns.map V.int) us->YK us ns
 | [],_,r=>by rw [RO] at r;cases r;exact .nil
 | n::ns,_,r=>by
  rw [QR] at r;cases r with
  | cons r1 r2=>obtain⟨t,rfl⟩:=r1;exact .cons n t (CK r2)
theorem ai.intsL{K:QN}{H:Hp}{O:Ex}:∀{ns:List Int}{vs:List V},ai K H O vs (ns.map Rq)->vs=ns.map V.int
 | [],_,r=>by rw [RO] at r;cases r;rfl
 | b::bs,_,r=>by
  rw [QR] at r;cases r with
  | cons h r=>cases h;rw [QR,ai.intsL r]
theorem Wd.frzK{K:QN}{H0 H:Hp}{O0 O:Ex}{σ:St}{δ:Dl}(w:Wd K H0 O0 H O σ δ){i:Nat}{l:Yl}{y0:Sl}(e:δ[i]?=some (some y0))(ho:y0.own)(h:σ[i]?=some (some (.ref l)))(u:HO):
 ∃O',Wd K H0 O0 (ah H l u) O' σ (δ.set i none)/\aH H (ah H l u) O O'/\¬O' l:=by
 obtain⟨l',x1,a,b⟩:=w.adr e ho;rw [h] at x1;cases x1;have l0:H0 l=none:=(w.new l a).resolve_left b;have S:aH H (ah H l u) O (λx=>O x/\x≠l):=⟨λc q z n=>by rw [az (λy=>n (by rw [y];exact a))];exact z,λ_ _ n z=>n z.1⟩;have li:i < δ.length:=(QZ.mp e).1;have ne:∀{j:Nat}{y:Sl},(δ.set i none)[j]?=some (some y)->j≠i:=λ{j y} q z=>by
  subst z;rw [Rk li] at q;cases q
 refine⟨_,⟨λc q z=>?_,λx z=>⟨w.sub x z,λy=>b (by rw [<-y];exact z)⟩,λx z=>w.new x z.1,λx z=>by rw [az z.2];exact w.trk x z.1,by simp [w.len],λj y q=>?_,λj k y z l' e1 y1 e2 z2 e3 e4=>?_⟩,S,λz=>z.2 rfl⟩
 ·have:c≠l:=λy=>by rw [y,l0] at z;cases z
  rw [az this];exact w.same c q z
 ·by_cases hj:j=i
  ·subst hj;rw [Rk li] at q;cases q;exact Tg
  ·rw [Q6 (Ne.symm hj)] at q;refine(w.sl j y q).go S (λb o ho' e' a1 a2 a3=>?_) (λb o u a1 a2 a3=>by have nb:b≠l:=λz=>w.nofrz e ho h o u (by rw [<-z];exact a3);exact⟨⟨a1,nb⟩,by rw [az nb];exact a3⟩) λc o a1 a3=>by rw [az (λz=>b (by rw [<-z];exact a1))];exact a3
   have nb:b≠l:=λz=>by
    subst z
    match y,ho',q with
    | some z,ho',q=>exact hj (w.dis j i z y0 _ q (by cases z <;> first | trivial | cases ho') e ho (fy e') h)
   exact⟨⟨a1,nb⟩,by rw [az nb];exact a3⟩
 ·have n1:=ne e1;have n2:=ne e2;rw [Q6 (Ne.symm n1)] at e1;rw [Q6 (Ne.symm n2)] at e2;exact w.dis j k _ _ l' e1 y1 e2 z2 e3 e4
section
variable {X:Cx} {H0:Hp} {O0:Ex}
theorem mZ{N':List Str}{k:Nat}{fr:List Nat}{scope:YW}{iter elt tg:Yr}{ifs:List Yr}{t te:DT}{tc:DB}{g:TG}{dg:DG}{pos:Pos}(hc:X.calm=true)(S:bb X.env.scope X.N N' k fr scope)(hi:DF X H0 O0 iter t)(gd:GD X.K g dg)(hk:jX g k)(hfr:fr.Nodup)
 (hg:∀fp C s H,PG (bF X scope N' fp C s H) tg g)(hf:∀fp C s H,fu (bF X scope N' fp C s H) ifs (bV X.K H0 O0 tc))(he:∀fp C s H,PE (bF X scope N' fp C s H) elt (up X.K H0 O0 te))
 (hs:∀x,YA iter X.env x=pure x:=by intro _;rfl):PU X (.ListComp elt [⟨tg,iter,ifs,0⟩] scope pos) (pb X.K H0 O0 (iF t dg tc te k fr)):=
 (vF hc S (uN hi) hg hf he hs).imp λσ H Q uu95=>by obtain⟨O,δ,Qd,w,q,kk⟩:=uu95;exact⟨O,δ,_,w,q,λd v H1 uu96 s1 r1=>by
  obtain⟨xs,e,hz,q1⟩:=uu96;subst e;obtain⟨a,vs,rfl,hq,rr⟩:=r1.tup;refine⟨a,rfl,⟨_,hq⟩,λD hD=>pf (cU.tup hq) gd hfr (λv _ H' R h=>hk fr σ v H' R h) (λ_ _ _ z=>z) (λ_ _ _ z=>z) (λD H' hD s' o e=>s' _ _ e (dY e hD)) rr (w.mono s1) (by rw [rr.length];exact hz) q1 (λds us p H' z s' hp r'=>kk ds us p H' z (s1.trans s') hp r') D hD⟩⟩
end
structure pk (n:Nat) (lt:Nat->Nat->Bool) (I:Ym->Prop) (cmp:Nat->Nat->(Bool->Ym->Prop)->Ym->Prop):Prop where
 as:∀i j C s,i < n->j < n->i≠j->I s->(∀s',I s'->C (lt i j) s')->cmp i j C s
structure jq (n:Nat) (lt:Nat->Nat->Bool):Prop where
 tot:∀i j,i < n->j < n->i≠j->lt i j=!lt j i
 tr:∀i j k,i < n->j < n->k < n->lt i j=true->lt j k=true->lt i k=true
structure bT (n:Nat) (p:Array Nat):Prop where
 perm:p.toList.Perm (SE n)
theorem bT.size{n:Nat}{p:Array Nat}(h:bT n p):p.size=n:=by rw [<-Ru,h.perm.length_eq,UP]
theorem bT.lt{n:Nat}{p:Array Nat}(h:bT n p){k:Nat}(hk:k < n):p.getD k 0 < n:=by
 have hs:=h.size;have e:p.getD k 0=p[k]'Yd:=by simp [Um,show k < p.size by omega]
 rw [e];have:=h.perm.mem_iff.mp (WO.mpr (Array.getElem_mem (show k < p.size by omega)));simpa using this
theorem bT.ne{n:Nat}{p:Array Nat}(h:bT n p){i j:Nat}(hi:i < n)(hj:j < n)(hij:i≠j):p.getD i 0≠p.getD j 0:=by
 have hs:=h.size;have nd:p.toList.Nodup:=h.perm.nodup_iff.mpr List.nodup_range;have ei:p.getD i 0=p.toList[i]'(by simp;omega):=by simp [Um,show i < p.size by omega]
 have ej:p.getD j 0=p.toList[j]'(by simp;omega):=by simp [Um,show j < p.size by omega]
 rw [ei,ej];intro e;exact hij ((Vt nd).mp e)
theorem bT.bubble{n:Nat}{p:Array Nat}(h:bT n p)(a d:Nat):bT n (VH p a d):=⟨(VZ.mp (bubble_perm p a d)).trans h.perm⟩
theorem bT.rev{n:Nat}{p:Array Nat}(h:bT n p)(i j:Nat):bT n (kas_rev p i j):=⟨(VZ.mp (mirror_perm p i j _)).trans h.perm⟩
theorem vQ(n:Nat):bT n (W9 (SE n)):=⟨Yh⟩
def Up(lt:Nat->Nat->Bool)(p:Array Nat)(k:Nat):Prop:=∀i j,i < j->j < k->lt (p.getD i 0) (p.getD j 0)=true
section
variable {n:Nat} {lt:Nat->Nat->Bool} {I:Ym->Prop} {cmp:Nat->Nat->(Bool->Ym->Prop)->Ym->Prop}
theorem Up.snoc(T:jq n lt){p:Array Nat}(hp:bT n p){k:Nat}(hk:k < n)(h:Up lt p k)(h0:0 < k)(hl:lt (p.getD (k - 1) 0) (p.getD k 0)=true):Up lt p (k+1):=by
 intro i j hij hj;rcases S7 j k with z | z
 ·exact h i j hij z
 ·have:j=k:=Yd
  subst this;rcases S7 i (j - 1) with w | w
  ·exact T.tr _ _ _ (hp.lt Yd) (hp.lt Yd) (hp.lt hk) (h i (j - 1) w Yd) hl
  ·have:i=j - 1:=Yd
   subst this;exact hl
theorem vR(A:pk n lt I cmp)(T:jq n lt){p:Array Nat}(hp:bT n p){Q:Nat->Ym->Prop}:∀(f m:Nat)(s:Ym),1<=m->m+f=n->Up lt p m->I s->
 (∀k s',I s'->m<=k->k<=n->Up lt p k->(k < n->lt (p.getD k 0) (p.getD (k - 1) 0)=true)->Q k s')->(kas_asc p f m).kasWp cmp Q s
 | 0,m,s,h1,hf,hu,hI,q=>q m s hI (QQ _) Yd hu (λz=>by omega)
 | f+1,m,s,h1,hf,hu,hI,q=>by
  have hm:m < n:=Yd
  refine A.as _ _ _ s (hp.lt hm) (hp.lt Yd) (hp.ne hm Yd Yd) hI λs' hI'=>?_;cases hc:lt (p.getD m 0) (p.getD (m - 1) 0) with
  | true=>
   dsimp only;rw [Yf rfl];exact q m s' hI' (QQ _) Yd hu (λ_=>hc)
  | false=>
   dsimp only;rw [Ye Yh];have hl:lt (p.getD (m - 1) 0) (p.getD m 0)=true:=by rw [T.tot _ _ (hp.lt Yd) (hp.lt hm) (hp.ne Yd hm Yd),hc];rfl
   exact vR A T hp f (m+1) s' Yd Yd (hu.snoc T hp hm Yd hl) hI' λk s2 a b c d e=>q k s2 a Yd c d e
def Dn(lt:Nat->Nat->Bool)(p:Array Nat)(k:Nat):Prop:=∀i j,i < j->j < k->lt (p.getD j 0) (p.getD i 0)=true
theorem Dn.snoc(T:jq n lt){p:Array Nat}(hp:bT n p){k:Nat}(hk:k < n)(h:Dn lt p k)(h0:0 < k)(hl:lt (p.getD k 0) (p.getD (k - 1) 0)=true):Dn lt p (k+1):=by
 intro i j hij hj;rcases S7 j k with z | z
 ·exact h i j hij z
 ·have:j=k:=Yd
  subst this;rcases S7 i (j - 1) with w | w
  ·exact T.tr _ _ _ (hp.lt hk) (hp.lt Yd) (hp.lt Yd) hl (h i (j - 1) w Yd)
  ·have:i=j - 1:=Yd
   subst this;exact hl
theorem CM(A:pk n lt I cmp)(T:jq n lt){p:Array Nat}(hp:bT n p){Q:Array Nat×Nat×Nat->Ym->Prop}:∀(f m:Nat)(s:Ym),1<=m->m+f=n->Dn lt p m->I s->
 (∀k s',I s'->m<=k->k<=n->Dn lt p k->Q (p,k,0) s')->(kas_desc f p m 0).kasWp cmp Q s
 | 0,m,s,h1,hf,hu,hI,q=>q m s hI (QQ _) Yd hu
 | f+1,m,s,h1,hf,hu,hI,q=>by
  have hm:m < n:=Yd
  refine A.as _ _ _ s (hp.lt hm) (hp.lt Yd) (hp.ne hm Yd Yd) hI λs' hI'=>?_;cases hc:lt (p.getD m 0) (p.getD (m - 1) 0) with
  | true=>
   dsimp only;rw [Yf rfl,Ye Yh];exact CM A T hp f (m+1) s' Yd Yd (hu.snoc T hp hm Yd hc) hI' λk s2 a b c d=>q k s2 a Yd c d
  | false=>
   dsimp only;rw [Ye Yh];refine A.as _ _ _ s' (hp.lt Yd) (hp.lt hm) (hp.ne Yd hm Yd) hI' λs2 hI2=>?_;have hl:lt (p.getD (m - 1) 0) (p.getD m 0)=true:=by rw [T.tot _ _ (hp.lt Yd) (hp.lt hm) (hp.ne Yd hm Yd),hc];rfl
   rw [hl];dsimp only;rw [Yf rfl];exact q m s2 hI2 (QQ _) Yd hu
theorem CN{p:Array Nat}{j k:Nat}(hj:j<=p.size):(kas_rev p 0 j).getD k 0=if k < j then p.getD (j - 1 - k) 0 else p.getD k 0:=by
 have:=getElem?_mirror_all (xs:=p) (i:=0) (j:=j) hj k;unfold kas_rev;rw [Sw,this];by_cases h:k < j
 ·simp [h,Sw]
 ·simp [h,Sw]
theorem Dn.rev{p:Array Nat}(hp:bT n p){k:Nat}(hk:k<=n)(h:Dn lt p k):Up lt (kas_rev p 0 k) k:=by
 intro i j hij hj;have hs:=hp.size;rw [CN Yd,CN Yd,Yf Yd,Yf hj];exact h _ _ Yd Yd
theorem K4(A:pk n lt I cmp)(T:jq n lt)(h2:2<=n){p:Array Nat}(hp:bT n p){Q:Nat×Array Nat->Ym->Prop}{s:Ym}(hI:I s)
 (q:∀k p' s',I s'->1<=k->k<=n->bT n p'->Up lt p' k->Q (k,p') s'):(kas_count n p).kasWp cmp Q s:=by
 unfold kas_count;rw [U7];refine vR A T hp (n - 1) 1 s (QQ _) Yd (λi j a b=>by omega) hI λm s1 hI1 m1 m2 hu hs=>?_;by_cases hm:m=n
 ·subst hm;rw [Yf Yh];exact q m p s1 hI1 m1 (QQ _) hp hu
 ·rw [Ye (by simpa using hm)];by_cases hm1:m > 1
  ·rw [Yf hm1];refine A.as _ _ _ s1 (hp.lt Yd) (hp.lt Yd) (hp.ne Yd Yd Yd) hI1 λs2 hI2=>?_;rw [hu 0 (m - 1) Yd Yd];dsimp only;rw [Yf rfl];exact q m p s2 hI2 m1 Yd hp hu
  ·rw [Ye hm1];have:m=1:=Yd
   subst this;have h10:=hs Yd;unfold kas_descPart;rw [U7];refine CM A T hp (n - (1+1)) (1+1) s1 Yd Yd (λi j a b=>?_) hI1 λk s2 hI2 k1 k2 hd=>?_
   ·have:i=0:=Yd
    have:j=1:=Yd
    subst_vars
    exact h10
   ·rw [Ye Yh];unfold kas_tail3;rw [U7];have hp':=hp.rev 0 k;refine vR A T hp' (n - k) k s2 Yd Yd (hd.rev hp k2) hI2 λm s3 hI3 a b c d=>?_;exact q m _ s3 hI3 Yd b hp' c
theorem vS(A:pk n lt I cmp)(T:jq n lt){p:Array Nat}(hp:bT n p){k:Nat}(hk:k < n)(hu:Up lt p k){Q:Nat->Ym->Prop}:∀(f l r:Nat)(s:Ym),r - l<=f->l<=r->r<=k->I s->
 (∀i,i < l->lt (p.getD i 0) (p.getD k 0)=true)->(∀i,r<=i->i < k->lt (p.getD k 0) (p.getD i 0)=true)->
 (∀l s',I s'->l<=k->(∀i,i < l->lt (p.getD i 0) (p.getD k 0)=true)->(∀i,l<=i->i < k->lt (p.getD k 0) (p.getD i 0)=true)->Q l s')->(kas_place p k f l r).kasWp cmp Q s
 | 0,l,r,s,hf,hlr,hrk,hI,h1,h2,q=>q l s hI Yd h1 (λi a b=>h2 i Yd b)
 | f+1,l,r,s,hf,hlr,hrk,hI,h1,h2,q=>by
  unfold kas_place;by_cases hge:l >= r
  ·rw [Yf hge];exact q l s hI Yd h1 (λi a b=>h2 i Yd b)
  ·rw [Ye hge];have hm:(l+r)/ 2 < k:=Yd
   refine A.as _ _ _ s (hp.lt hk) (hp.lt Yd) (hp.ne hk Yd Yd) hI λs' hI'=>?_;cases hc:lt (p.getD k 0) (p.getD ((l+r)/ 2) 0) with
   | true=>
    dsimp only;rw [Yf rfl];refine vS A T hp hk hu f l ((l+r)/ 2) s' Yd Yd Yd hI' h1 (λi a b=>?_) q;rcases S7 ((l+r)/ 2) i with z | z
    ·exact T.tr _ _ _ (hp.lt hk) (hp.lt Yd) (hp.lt Yd) hc (hu _ _ z b)
    ·have:i=(l+r)/ 2:=Yd
     rw [this];exact hc
   | false=>
    dsimp only;rw [Ye Yh];have hl:lt (p.getD ((l+r)/ 2) 0) (p.getD k 0)=true:=by rw [T.tot _ _ (hp.lt Yd) (hp.lt hk) (hp.ne Yd hk Yd),hc];rfl
    refine vS A T hp hk hu f ((l+r)/ 2+1) r s' Yd Yd hrk hI' (λi a=>?_) h2 q;rcases S7 i ((l+r)/ 2) with z | z
    ·exact T.tr _ _ _ (hp.lt Yd) (hp.lt Yd) (hp.lt hk) (hu _ _ z hm) hl
    ·have:i=(l+r)/ 2:=Yd
     rw [this];exact hl
theorem CO{p:Array Nat}{k d i:Nat}(hk:k < p.size)(hd:d<=k):(VH p k d).getD i 0=if i=k - d then p.getD k 0 else if k - d < i/\i<=k then p.getD (i - 1) 0 else p.getD i 0:=by
 rw [Sw,getElem?_bubble hk d hd i];by_cases h1:i=k - d
 ·rw [Yf h1,Yf h1,Sw]
 ·rw [Ye h1,Ye h1];by_cases h2:k - d < i/\i<=k
  ·rw [Yf h2,Yf h2,Sw]
  ·rw [Ye h2,Ye h2,Sw]
theorem Up.ins(T:jq n lt){p:Array Nat}(hp:bT n p){k l:Nat}(hk:k < n)(hu:Up lt p k)(hl:l<=k)(h1:∀i,i < l->lt (p.getD i 0) (p.getD k 0)=true)(h2:∀i,l<=i->i < k->lt (p.getD k 0) (p.getD i 0)=true):Up lt (VH p k (k - l)) (k+1):=by
 have hs:=hp.size;intro i j hij hj;rw [CO Yd Yd,CO Yd Yd];have e:k - (k - l)=l:=Yd
 rw [e];by_cases hi:i=l
 ·rw [Yf hi,Ye Yd,Yf Yd];exact h2 _ Yd Yd
 ·rw [Ye hi];by_cases hi2:l < i/\i<=k
  ·rw [Yf hi2,Ye Yd,Yf Yd];exact hu _ _ Yd Yd
  ·rw [Ye hi2];by_cases hj1:j=l
   ·rw [Yf hj1];exact h1 _ Yd
   ·rw [Ye hj1];by_cases hj2:l < j/\j<=k
    ·rw [Yf hj2];exact hu _ _ Yd Yd
    ·rw [Ye hj2];exact hu _ _ hij Yd
theorem CQ(A:pk n lt I cmp)(T:jq n lt){Q:Array Nat->Ym->Prop}:∀(f:Nat)(p:Array Nat)(k:Nat)(s:Ym),k+f=n->bT n p->Up lt p k->I s->(∀p' s',I s'->bT n p'->Up lt p' n->Q p' s')->(kas_bin f p k).kasWp cmp Q s
 | 0,p,k,s,hf,hp,hu,hI,q=>q p s hI hp (by rw [show n=k by omega];exact hu)
 | f+1,p,k,s,hf,hp,hu,hI,q=>by
  unfold kas_bin;rw [U7];have hk:k < n:=Yd
  refine vS A T hp hk hu k 0 k s Yd Yd (QQ _) hI (λi z=>by omega) (λi a b=>by omega) λl s' hI' hl h1 h2=>?_;exact CQ A T f _ (k+1) s' Yd (hp.bubble _ _) (hu.ins T hp hk hl h1 h2) hI' q
theorem K5(A:pk n lt I cmp)(T:jq n lt)(h2:2<=n){Q:Array Nat->Ym->Prop}{s:Ym}(hI:I s)(q:∀p s',I s'->bT n p->Up lt p n->Q p s'):(kas_sort n).kasWp cmp Q s:=by
 unfold kas_sort;rw [U7];refine K4 A T h2 (vQ n) hI λk p s1 hI1 k1 k2 hp hu=>?_;dsimp only;by_cases hk:k < n
 ·rw [Yf hk,show max k 1=k by omega];exact CQ A T (n - k) p k s1 Yd hp hu hI1 q
 ·rw [Ye hk];exact q p s1 hI1 hp (by rw [show n=k by omega];exact hu)
end
def aY(p q:Int×Str):Bool:=decide (p.1 < q.1) || (decide (p.1=q.1) && decide (p.2.cps.toList < q.2.cps.toList))
def iJ(h:Yw)(v:Yj)(p:Int×Str):Prop:=∃a o n t u,v= .ref a/\h.get? a=some o/\o.cls= .type "tuple"/\o.data= .seq #[.int p.1 t,.str p.2 u] n
section
variable {P:Yu} {w:Yv} {A:Yz} {E:Yj->Ym->Prop} {s:Ym}
theorem K6{v u:Yj}{p q:Int×Str}{Q:Bool->Ym->Prop}(hv:iJ s.heap v p)(hu:iJ s.heap u q)(h:Q (aY p q) s):Yo (Yq P w) A (keyLt' (tuples' true) v u) Q E s:=by
 obtain⟨a,oa,na,t1,t2,rfl,ha,_,da⟩:=hv;obtain⟨b,ob,nb,t3,t4,rfl,hb,_,db⟩:=hu;refine kat_lt ha da hb db (kat_cons ((Zr P w).eqBool (intKind_is _ _ _ _) (intKind_is _ _ _ _) (kat_go (λe1=>?_) λe1=>?_)))
 ·have e1:p.1=q.1:=by simpa using e1
  refine kat_yes (kat_cons ((PySem.strKind P w).eqBool (strKind_is _ _ _ _) (strKind_is _ _ _ _) (kat_go (λe2=>?_) λe2=>?_)))
  ·have e2:p.2=q.2:=by simpa using e2
   refine kat_yes (kat_nil ?_);have:aY p q=false:=by unfold aY;rw [e1,e2];simp
   rw [this] at h;simpa using h
  ·have e2:p.2≠q.2:=by simpa using e2
   refine kat_no (kat_one _ _ ?_);have:aY p q=decide (p.2.cps.toList < q.2.cps.toList):=by unfold aY;simp [e1]
   rw [this] at h;exact lt_str h
 ·have e1:p.1≠q.1:=by simpa using e1
  refine kat_no ?_;show Yo _ _ (oneLt' true _ _) _ _ _;refine oneLt_int ?_;have:aY p q=decide (p.1 < q.1):=by unfold aY;simp [e1]
  rw [this] at h;exact h
theorem CS{n:Nat}{kp:Nat->Int×Str}(hd:∀i j,i < n->j < n->kp i=kp j->i=j):jq n λi j=>aY (kp i) (kp j):=by
 have tl:∀a b:Str,a≠b->(decide (a.cps.toList < b.cps.toList))=!decide (b.cps.toList < a.cps.toList):=λa b h=>by
  by_cases z:a.cps.toList < b.cps.toList
  ·rw [decide_eq_true z,decide_eq_false (List.lt_asymm z)];rfl
  ·have z2:b.cps.toList<=a.cps.toList:=Xq.mp z;have:b.cps.toList < a.cps.toList:=by
    rcases Classical.em (b.cps.toList < a.cps.toList) with y | y
    ·exact y
    ·exact absurd (Cj (Xt (Xq.mp y) z2)) h
   rw [decide_eq_false z,decide_eq_true this];rfl
 refine⟨λi j hi hj hij=>?_,λi j k hi hj hk h1 h2=>?_⟩
 ·have hne:kp i≠kp j:=λe=>hij (hd i j hi hj e);unfold aY;by_cases e:(kp i).1=(kp j).1
  ·have e2:(kp i).2≠(kp j).2:=λz=>hne (Prod.ext e z);simp only [e,Int.lt_irrefl,decide_false,SU,decide_true,Sr];exact tl _ _ e2
  ·have e':(kp j).1≠(kp i).1:=λz=>e z.symm;simp only [e,e',decide_false,US,Tf];by_cases z:(kp i).1 < (kp j).1
   ·rw [decide_eq_true z,decide_eq_false Yd];rfl
   ·rw [decide_eq_false z,decide_eq_true Yd];rfl
 ·unfold aY at h1 h2⊢;simp only [U8,RW,decide_eq_true_eq] at h1 h2⊢;rcases h1 with h1 | ⟨h1,h1'⟩ <;> rcases h2 with h2 | ⟨h2,h2'⟩
  ·left;omega
  ·left;omega
  ·left;omega
  ·right;exact⟨h1.trans h2,XS h1' h2'⟩
theorem CT{ks:List Yj}{kp:Nat->Int×Str}(hk:∀i v,ks[i]?=some v->iJ s.heap v (kp i))(h2:2<=ks.length){Q:SortKind->Ym->Prop}(h:Q (tuples' true) s):Yo (Yq P w) A (keyKind' ks.toArray) Q E s:=by
 have key:∀(ks:List Yj)(kp:Nat->Int×Str),(∀i v,ks[i]?=some v->iJ s.heap v (kp i))->∃fs:List Yj,KatTups s.heap ks fs/\fs.length=ks.length/\∀v∈fs,∃n t,v=Tv n t:=by
  intro ks
  induction ks with
  | nil=>intro kp _;exact⟨[],KatTups.nil,rfl,Yh⟩
  | cons v ks ih=>
   intro kp hk;obtain⟨fs,a,b,c⟩:=ih (λi=>kp (i+1)) λi v e=>hk (i+1) v (by simpa using e);obtain⟨ad,o,n,t,u,rfl,h1,h2,h3⟩:=hk 0 v rfl;refine⟨.int (kp 0).1 t::fs,KatTups.cons h1 h2 h3 rfl a,by simp [b],λx hx=>?_⟩;rcases QX.mp hx with rfl | hx
   ·exact⟨_,_,rfl⟩
   ·exact c x hx
 obtain⟨fs,a,b,c⟩:=key ks kp hk;refine kat_kind (T:= .type "int") a Yd (λv hv=>?_) Yc h;obtain⟨n,t,rfl⟩:=c v hv;exact .now
theorem CU{n:Nat}{ks:List Yj}{kp:Nat->Int×Str}(hn:ks.length=n)(h2:2<=n)(hk:∀i v,ks[i]?=some v->iJ s.heap v (kp i))(hd:∀i j,i < n->j < n->kp i=kp j->i=j){G:Array Nat->Ym->Prop}
 (q:∀p,bT n p->Up (λi j=>aY (kp i) (kp j)) p n->G p s):(kas_sort n).kasWp (kas_ask P w A (tuples' true) ks) G s:=by
 refine K5 (lt:=λi j=>aY (kp i) (kp j)) (I:=λs'=>s'=s) ⟨λi j C s' hi hj hij e c=>?_⟩ (CS hd) h2 rfl λp s' e hp hu=>by subst e;exact q p hp hu
 subst e;have ei:ks[i]?=some (ks.getD i .none):=by simp [show i < ks.length by omega]
 have ej:ks[j]?=some (ks.getD j .none):=by simp [show j < ks.length by omega]
 exact K6 (hk i _ ei) (hk j _ ej) (c _ rfl)
def CV(kS D:Yl)(s:Ym)(out:List Yj)(C:Ym->Prop):Prop:=∀h' c,h'.get? D=some (YB "list" out.toArray c)->(∀b u,b≠kS->b≠D->s.heap.get? b=some u->h'.get? b=some u)->C {s with heap:=h'}
theorem CW{st:SortSt}{kS D:Yl}{ks out:List Yj}{e e1:Nat}{C:Xa->Ym->Prop}(hk:s.heap.get? kS=some (YB "list" ks.toArray e))(hD:s.heap.get? D=some (YB "list" #[] e1))(hne:kS≠D)(hf:failedOf st=none)
 (ho:(arrOf st).map (·.2)=out.toArray)(h64:out.length < 64)(hk64:ks.length < 64)(q:CV kS D s out (C (.done (.ret .none)))):Yo (Yq P w) A (ksk_tail D false e1 (.ref kS) st) C E s:=by
 have hsl:Yt=16777216:=YM;unfold ksk_tail;rw [ho];refine Yk (Zm hk rfl (Yk (wpAny_letGo ?_)) (by rw [Q4];omega) (RD _));have u1:=RN s.heap kS (Sd λ_=>(#[]:Array Yj));have hD1:(s.heap.update kS (Sd λ_=>(#[]:Array Yj))).get? D=some (YB "list" #[] e1):=(u1.2 D (Ne.symm hne)).trans hD;refine Yk (seqEpoch_at (s:={s with heap:=s.heap.update kS (Sd λ_=>(#[]:Array Yj))}) hD1 rfl ?_);rw [Ye Yh];refine Yk (Zm (s:={s with heap:=s.heap.update kS (Sd λ_=>(#[]:Array Yj))}) hD1 rfl ?_ (RD _) (by show out.toArray.size<=_;rw [Q4];omega));have u2:=RN (s.heap.update kS (Sd λ_=>(#[]:Array Yj))) D (Sd λ_=>out.toArray);rw [hf];simp only [bne_self_eq_false,R6,if_false];exact Yn (q _ _ (Zp hD1 λ_=>out.toArray) λb u n1 n2 z=>(u2.2 b n2).trans ((u1.2 b n1).trans z))
theorem K7{kS D:Yl}{vs ks:List Yj}{n e e1:Nat}{kp:Nat->Int×Str}{C:Xa->Ym->Prop}(hv:vs.length=n)(hn:ks.length=n)(h64:n < 64)(hks:s.heap.get? kS=some (YB "list" ks.toArray e))(hD:s.heap.get? D=some (YB "list" #[] e1))(hne:kS≠D)
 (hk:∀i v,ks[i]?=some v->iJ s.heap v (kp i))(hd:∀i j,i < n->j < n->kp i=kp j->i=j)
 (q:∀p,bT n p->Up (λi j=>aY (kp i) (kp j)) p n->CV kS D s (p.toList.map λi=>vs.getD i .none) (C (.done (.ret .none)))):Yo (Yq P w) A (ksk_end D false vs.toArray e1 (.ref kS) ks.toArray) C E s:=by
 unfold ksk_end;have hz:vs.toArray.size=n:=by rw [Q4];exact hv
 by_cases h2:n < 2
 ·simp only [R6,if_false,hz,h2,if_true];refine Yk (Yn (Yk (Yn ?_)));refine CW hks hD hne rfl (out:=vs) ?_ Yd Yd ?_
  ·show(ks.toArray.zip vs.toArray).map (·.2)=vs.toArray;apply Wm.mp;simp only [Xu,Xv];rw [Xw Yd]
  ·have:=q _ (vQ n) (λi j a b=>by omega);have e:((W9 (SE n)).toList.map λi=>vs.getD i SH)=vs:=by
    apply Uv (by simp [hv]);intro i a b;simp at a b⊢;rw [Rv b];rfl
   rw [e] at this;exact this
 ·simp only [R6,if_false,hz,h2];refine Yk (CT hk Yd ?_);have hl:ks.length=vs.length:=Yd
  refine Yk (YJ (kat_run (κ:=tuples' true) (E:=λ_ _=>False) (Q:=λst' s'=>s'=s/\∃p,bT n p/\Up (λi j=>aY (kp i) (kp j)) p n/\arrOf st'=p.map (kas_item (ks.toArray.zip vs.toArray))/\failedOf st'=none) (G:=λp s'=>s'=s/\bT n p/\Up (λi j=>aY (kp i) (kp j)) p n) hl Yd Yd
   (λp st' s' a b c d=>⟨d.1,p,d.2.1,d.2.2,b,c⟩) ?_) (λr s' hr=>?_) λ_ _ x=>x.elim)
  ·rw [hv];exact CU hn Yd hk hd λp a b=>⟨rfl,a,b⟩
  ·obtain⟨rfl,p,p1,p2,p3,p4⟩:=hr;refine CW hks hD hne p4 (kat_snds hl p3) ?_ Yd (q p p1 p2);rw [QO,Ru,p1.size];exact h64
end
section
variable {X:Cx} {ZY:List (Yl×Obj)} {σ:St} {H:Hp} {s:Ym}
theorem ag.track{o:HO}{D:Yl}{ch:List Yl}{t':Nat}{h':Yw}(I:ag X ZY σ H s)(hD:D∈ch)(f:∀b∈ch,ik X ZY H b)(k:∀b u,b ∉ ch->s.heap.get? b=some u->h'.get? b=some u)(new:cj X.prog X.w (ah H D o) h' D o):ag X ZY σ (ah H D o) {s with heap:=h',toks:=t'}:=by
 have nC:∀b u,H b=some u->b ∉ ch:=λb u e z=>by rw [(f b z).1] at e;cases e
 have nD:∀b u,H b=some u->b≠D:=λb u e z=>nC b u e (by rw [z];exact hD);refine I.step (g':=s.gens) (d':=s.drawn) (ch:=ch) (λb hb=>?_) (λb o _ _ hc e _=>k b o hc e) (λb o _ _ hc e _=>⟨o.slots,k b o hc e⟩) (λb o hc _ n=>by rw [az (λz=>hc (by rw [z];exact hD))];exact n)
  (λb o hc e=>⟨o,k b o hc e⟩) (λb xs e=>by rw [az (nD _ _ e)];exact e) (λb u xs e=>by rw [az (nD _ _ e)];exact e) (λb ps e=>⟨#[],by rw [az (nD _ _ e),e];simp⟩) (λm hm=>hm.at' λo e=>k _ o (λz=>(f _ z).2.1 rfl) e) (λb u e=>?_) I.bare
 ·obtain⟨f0,f1,f2,f3,f4,f5⟩:=f b hb;exact⟨f3,f1,f4,f5⟩
 ·by_cases hb:b=D
  ·subst hb;rw [bq] at e;cases e;exact new
  ·rw [az hb] at e;refine(I.hok b u e).stay (λc v hc q=>k c v (λz=>?_) q) (λc q=>by rw [az (nD _ _ q)];exact q) (λc xs q=>by rw [az (nD _ _ q)];exact q);rcases hc with r | r
   ·subst r;exact nC _ _ e z
   ·exact nC _ _ r z
theorem K8{k:Nat}{f:Yl}{fd:Ys}{ps:List Str}{sp:Sp}{v:V}{u:Yj}{Q:VK}(Fk:aA X.prog X.w X.K X.mg X.base CX0 k f fd ps sp)(hr:bp k X.A.in1.in1)(hb:cS X.K fd ps [])(I:ag X ZY σ H s)(r:aJ v u)(h:sp [v] H Q E0):
 Yo (Yq X.prog X.w) X.A.in1.in1 (call (.ref f) [u]) (EP X ZY σ Q) (λ_ _=>False) s:=by
 have r2:aI [v] [u]:= .cons r .nil;have hl:([u]++[]).length=ps.length:=by
  have:=Fk.len _ _ _ _ h;simpa using this
 have hb2:=hb s [u] I.kIn hl;rw [RF] at hb2;refine wpAny_call (Y9 (Fk.run X.A.in1.in1 X.stack s H ⟨[u],[]⟩ [u] [v] Q E0 hr I.env0.in1.in1 hb2 r2 h) λr s' hq=>?_);cases r with
 | error e=>exact hq.elim
 | ok fl=>
  cases fl with
  | ret u=>exact I.after hq
  | next=>exact SQ hq
  | brk=>exact SQ hq
  | cont=>exact SQ hq
def nc(X:Cx)(ZY:List (Yl×Obj))(b:Yl):Prop:=b≠X.env.locals/\b ∉ X.fs/\(b∈X.ex\/X.s₀.heap.objs.size<=b)/\(∀x c,X.env.cells.lookup x=some c->c≠b)/\∀p∈X.pn++ZY,p.1≠b
theorem ag.out(I:ag X ZY σ H s){b:Yl}(hb:s.heap.objs.size<=b):nc X ZY b:=(I.fpOk (H':=H) hb (I.hok.fresh hb)).2
structure nk (X:Cx) (ZY:List (Yl×Obj)) (σ:St) (H:Hp) (O:Ex) (kS D:Yl) (e1:Nat) (kds:List Yi) (ks:List Yj) (s:Ym):Prop where
 ex:∃H' kvs e,ag X (ZY++[(kS,YB "list" ks.toArray e),(D,YB "list" #[] e1)]) σ H' s/\au H H'/\ai X.K H' O kvs kds/\aI kvs ks
theorem nk.push{O:Ex}{kS D:Yl}{e1:Nat}{kds:List Yi}{ks:List Yj}{H':Hp}{kvs:List V}{e:Nat}{h':Yw}{kv:V}{kd:Yi}{k:Yj}(oS:nc X ZY kS)(oD:nc X ZY D)(hne:kS≠D)
 (I:ag X (ZY++[(kS,YB "list" ks.toArray e),(D,YB "list" #[] e1)]) σ H' s)(hs:au H H')(hk:ai X.K H' O kvs kds)(hv:aI kvs ks)(k1:Dt X.K H' O kv kd)(k2:aJ kv k)
 (hu:∃e',h'.get? kS=some (YB "list" (ks++[k]).toArray e'))(kept:∀b u,b≠kS->s.heap.get? b=some u->h'.get? b=some u):nk X ZY σ H O kS D e1 (kds++[kd]) (ks++[k]) {s with heap:=h'}:=by
 obtain⟨e',hu⟩:=hu;have pS:=I.pin (kS,YB "list" ks.toArray e) Yh;have pD:=I.pin (D,YB "list" #[] e1) Yh;have I1:ag X ZY σ H' s:=I.pins_of λp hp=>I.pin p (by simp only [Q9] at hp⊢;exact .inr (.inl hp));have I2:ag X ZY σ H' {s with heap:=h'}:=I1.turned (t':=s.toks) (it:=kS) kept pS.2.1 oS.1 oS.2.2.1 oS.2.2.2.1 oS.2.2.2.2;refine⟨H',kvs++[kv],e',I2.pins_of λp hp=>?_,hs,hk.append (.cons k1 .nil),hv.append (.cons k2 .nil)⟩;rcases Q9.mp hp with z | z
 ·exact I2.pin p (RR _ z)
 ·simp only [QX,Rh,or_false] at z;rcases z with rfl | rfl
  ·exact⟨hu,pS.2.1,oS.1,oS.2.1,λv z=>by cases z⟩
  ·exact⟨kept _ _ (Ne.symm hne) pD.1,pD.2.1,oD.1,oD.2.1,λv z=>by cases z⟩
theorem CY{k:Nat}{f:Yl}{fd:Ys}{ps:List Str}{F:List Yi->(Yi->Prop)->Prop}{O:Ex}{kS D:Yl}{e1:Nat}{kd:Yi->Yi}(Fk:aA X.prog X.w X.K X.mg X.base CX0 k f fd ps (aV X.K F))(hr:bp k X.A.in1.in1)(hb:cS X.K fd ps [])(trk:∀l,O l->H l≠none)
 (oS:nc X ZY kS)(oD:nc X ZY D)(hne:kS≠D){body:Yj->PUnit->Sem (ForInStep PUnit)}{E:Yj->Ym->Prop}
 (hbo:∀(x:Yj) (s:Ym) (Q':Ym->Prop),Yo (Yq X.prog X.w) X.A.in1.in1 (call (.ref f) [x]) (λk s'=>Yo (Yq X.prog X.w) X.A.in1.in1 (Wv (.ref kS) (·.push k)) (λ_ s''=>Q' s'') (λ_ _=>False) s') (λ_ _=>False) s->Yo (Yq X.prog X.w) X.A.in1.in1 (body x ⟨⟩) (λr s'=>r= .yield ⟨⟩/\Q' s') E s):
 ∀(r:List Yj)(xr:List V)(dr:List Yi)(kds:List Yi)(ks:List Yj)(s:Ym)(Q:Ym->Prop),aI xr r->ai X.K H O xr dr->(∀d∈dr,∀R:Yi->Prop,R (kd d)->F [d] R)->nk X ZY σ H O kS D e1 kds ks s->ks.length+r.length < 64->
  (∀ks' s',nk X ZY σ H O kS D e1 (kds++dr.map kd) ks' s'->ks'.length=ks.length+r.length->Q s')->Yo (Yq X.prog X.w) X.A.in1.in1 (forIn r PUnit.unit body) (λ_ s'=>Q s') E s
 | [],xr,dr,kds,ks,s,Q,hv,hd,hF,M,hl,q=>by
  cases hv;cases hd;rw [XI];exact Yn (q ks s (by rw [RO,RF];exact M) Yh)
 | x::r,xr,dr,kds,ks,s,Q,hv,hd,hF,M,hl,q=>by
  cases hv with
  | @cons v _ xr _ h1 h2=>
   cases hd with
   | @cons _ d _ dr g1 g2=>
    rw [XA];rw [Q0] at hl;obtain⟨H',kvs,e,I,hs,hk,hvk⟩:=M.ex;refine Yk (YJ (hbo x s (λs'=>∃k,nk X ZY σ H O kS D e1 (kds++[kd d]) (ks++[k]) s') (YJ (K8 (Q:=λv2 H2=>au H' H2/\Dt X.K H2 O v2 (kd d)) Fk hr hb I h1 ⟨O,[d],λy=>y=kd d,λl z e=>trk l z (by
     cases q:H l with
     | none=>rfl
     | some u=>rw [hs _ _ q] at e;cases e),.cons (g1.mono hs) .nil,hF d Yh _ rfl,λy v2 H2 e s2 r2=>by subst e;exact⟨s2,r2⟩⟩) (λkk s' hq=>?_) λ_ _ z=>z)) (λr' s' hq=>?_) λ_ _ z=>z)
    ·obtain⟨kv,H2,I2,rk,s2,dk⟩:=hq;have pS:=I2.pin (kS,YB "list" ks.toArray e) Yh;refine Zm pS.1 rfl ⟨kk,?_⟩ (by rw [Q4];have:Yt=16777216:=YM;omega) (by rw [Array.size_push,Q4];have:Yt=16777216:=YM;omega);have u1:=RN s'.heap kS (Sd (·.push kk));have gk:=Zp pS.1 (·.push kk);rw [show ks.toArray.push kk=(ks++[kk]).toArray by simp] at gk;exact nk.push oS oD hne I2 (hs.trans s2) (hk.mono s2) hvk dk rk ⟨_,gk⟩ λb u n z=>(u1.2 b n).trans z
    ·obtain⟨rfl,kk,M'⟩:=hq;refine CY Fk hr hb trk oS oD hne hbo r xr dr (kds++[kd d]) (ks++[kk]) s' Q h2 g2 (λy hy=>hF y (by simp [hy])) M' (by simp;omega) λks' s2 M2 l2=>q ks' s2 ?_ (by rw [l2];simp;omega);rw [QR,<-List.singleton_append,<-UO];exact M2
def cx(p:Int×Str):Yi:= .tuple [.int p.1,.str p.2]
theorem vT{h:V}{u:Yj}{O:Ex}{p:Int×Str}(I:ag X ZY σ H s)(d:Dt X.K H O h (cx p))(r:aJ h u):iJ s.heap u p:=by
 obtain⟨a,xs,rfl,hq,hd⟩:=(Sh.dt d).tup;cases r;obtain⟨its,rv,⟨o,e,c,n,dd⟩,_⟩:=I.tuple hq;cases hd with
 | cons g1 g2=>
  cases g2 with
  | cons g2 g3=>
   cases g3;cases g1;cases g2;cases rv with
   | cons r1 r2=>
    cases r2 with
    | cons r2 r3=>
     cases r3;obtain⟨t,rfl⟩:=r1;obtain⟨u,rfl⟩:=r2;exact⟨a,o,n,t,u,rfl,e,c,dd⟩
theorem qM{K:QN}{H:Hp}{O:Ex}:∀{xs:List V}{ds:List Yi}{i:Nat}{d:Yi},ai K H O xs ds->ds[i]?=some d->∃x,xs[i]?=some x/\Dt K H O x d
 | _,_,0,d,.cons h r,e=>by simp at e;subst e;exact⟨_,rfl,h⟩
 | _,_,i+1,d,.cons h r,e=>by simp only [RQ] at e⊢;exact qM r e
theorem sU{xs:List V}{us:List Yj}:∀{i:Nat}{u:Yj},aI xs us->us[i]?=some u->∃x,xs[i]?=some x/\aJ x u:=by
 intro i u h e;have hl:=h.length;have hi:i < us.length:=(QZ.mp e).1;obtain⟨u',e',r⟩:=h.get (show xs[i]?=some (xs[i]'Yd) by simp);rw [e] at e';cases e';exact⟨_,Yh,r⟩
theorem K9{O:Ex}{kS D:Yl}{e1:Nat}{kps:List (Int×Str)}{ks:List Yj}(M:nk X ZY σ H O kS D e1 (kps.map cx) ks s):(∀i v,ks[i]?=some v->iJ s.heap v (kps.getD i (0,QM "")))/\ks.length=kps.length:=by
 obtain⟨H',kvs,e,I,hs,hk,hv⟩:=M.ex;have hl:ks.length=kps.length:=by rw [<-hv.length,hk.length,QO]
 refine⟨λi v ei=>?_,hl⟩;have hi:i < kps.length:=by rw [<-hl];exact(QZ.mp ei).1
 obtain⟨x,ex,rx⟩:=sU hv ei;obtain⟨y,ey,dy⟩:=qM (i:=i) (d:=cx kps[i]) hk (by rw [Q1,Rv hi];rfl);rw [ex] at ey;cases ey;have:kps.getD i (0,QM "")=kps[i]:=by simp [hi]
 rw [this];exact vT I dy rx
theorem La{k:Nat}{f:Yl}{fd:Ys}{ps:List Str}{F:List Yi->(Yi->Prop)->Prop}{O:Ex}{D:Yl}{n0:Nat}{kf:Yi->Int×Str}{vs:List Yj}{xs:List V}{ds:List Yi}{Q:V->Hp->Prop}{C:Xa->Ym->Prop}{E:Yj->Ym->Prop}
 (Fk:aA X.prog X.w X.K X.mg X.base CX0 k f fd ps (aV X.K F))(hr:bp k X.A.in1.in1)(hb:cS X.K fd ps [])(trk:∀l,O l->H l≠none)(I:ag X ZY σ H s)(oD:nc X ZY D)(hHD:H D=none)(hD:s.heap.get? D=some (YB "list" vs.toArray n0))
 (hv:aI xs vs)(hd:ai X.K H O xs ds)(hF:∀d∈ds,∀R:Yi->Prop,R (cx (kf d))->F [d] R)(h64:ds.length < 64)(nd:(ds.map kf).Nodup)
 (q:∀(H':Hp) (xs':List V) (ds':List Yi),au H H'->H' D=none->ai X.K H' O xs' ds'->ds'.Perm ds->ds'.Pairwise (λa b=>aY (kf a) (kf b)=true)->Q (.ref D) (ah H' D (.lst xs')))
 (fin:∀s',EP X ZY σ Q (.ref D) s'->C (.done (.ret .none)) s'):Yo (Yq X.prog X.w) X.A.in1.in1 (ksk_tree D (.ref f) false) C E s:=by
 have hsl:Yt=16777216:=YM;have lv:vs.length=ds.length:=by rw [<-hv.length,hd.length]
 have lD:D < s.heap.objs.size:=Q7 hD;unfold ksk_tree;refine Yk (listItems_at hD rfl (Yk (Zm hD rfl ?_ (by rw [Q4];omega) (RD _))));have u1:=RN s.heap D (Sd λ_=>(#[]:Array Yj));have g1:=Zp hD λ_=>(#[]:Array Yj);have I1:ag X ZY σ H {s with heap:=s.heap.update D (Sd λ_=>(#[]:Array Yj))}:=I.turned (t':=s.toks) (it:=D) (λb u n z=>(u1.2 b n).trans z) hHD oD.1 oD.2.2.1 oD.2.2.2.1 oD.2.2.2.2;generalize s.heap.update D (Sd λ_=>(#[]:Array Yj))=h1 at*;generalize (if (#[]:Array Yj).size==vs.toArray.size then n0 else n0+1)=e1 at*;refine Yk (seqEpoch_at (s:={s with heap:=h1}) g1 rfl ?_);refine Yk (wpAny_newTuple ?_ (by show vs.length<=_;omega));have I2:ag X ZY σ H {s with heap:=h1.push {cls:= .type "tuple",data:= .seq vs.toArray}}:=I1.kept (t':=s.toks) λb u z=>QS _ z;have g2:(h1.push {cls:= .type "tuple",data:= .seq vs.toArray}).get? D=some (YB "list" #[] e1):=QS _ g1;show Yo _ _ _ _ _ {s with heap:=h1.push {cls:= .type "tuple",data:= .seq vs.toArray}};generalize h1.push {cls:= .type "tuple",data:= .seq vs.toArray}=h2 at*;refine Yk (Zk (s:={s with heap:=h2}) ?_ (RD _));have oS:nc X ZY h2.objs.size:=I2.out (QQ _);have hne:h2.objs.size≠D:=TK (Q7 g2);have I3:ag X ZY σ H {s with heap:=h2.push (YB "list" #[] 0)}:=I2.kept (t':=s.toks) λb u z=>QS _ z;have hS0:H h2.objs.size=none:=I2.hok.fresh (QQ _);have M0:nk X ZY σ H O h2.objs.size D e1 [] [] {s with heap:=h2.push (YB "list" #[] 0)}:=by
  refine⟨H,[],0,I3.pins_of λp hp=>?_,au.refl _,.nil,.nil⟩;rcases Q9.mp hp with z | z
  ·exact I3.pin p (RR _ z)
  ·simp only [QX,Rh,or_false] at z;rcases z with rfl | rfl
   ·exact⟨Rb _ rfl,hS0,oS.1,oS.2.1,λv z=>by cases z⟩
   ·exact⟨QS _ g2,hHD,oD.1,oD.2.1,λv z=>by cases z⟩
 refine YN ?_;unfold ksk_rest;refine Yk (ZJ ?_);rw [List.forIn_toArray];refine Yk (CY (kd:=λd=>cx (kf d)) (E:=E) Fk hr hb trk oS oD hne (λx s' Q' hx=>?_) vs xs ds [] [] _ _ hv hd hF M0 (by simp;omega) λks s' M hkl=>?_)
 ·refine Yk (Zl (YJ hx (λkk s2 hk=>?_) λ_ _ z=>z.elim));exact Yk (YJ hk (λ_ s3 z=>Yn ⟨rfl,z⟩) λ_ _ z=>z.elim)
 ·rw [RY,<-Function.comp_def,<-Rc] at M;obtain⟨hk,hkn⟩:=K9 M;rw [QO] at hkn;obtain⟨H',kvs,e,I4,hs,_,_⟩:=M.ex;have pS:=I4.pin (h2.objs.size,YB "list" ks.toArray e) Yh;have pD:=I4.pin (D,YB "list" #[] e1) Yh;have I5:ag X ZY σ H' s':=I4.pins_of λp hp=>I4.pin p (by simp only [Q9] at hp⊢;exact .inr (.inl hp));refine Yk (listItems_at pS.1 rfl ?_);refine K7 (n:=ds.length) (kp:=λi=>(ds.map kf).getD i (0,QM "")) lv hkn h64 pS.1 pD.1 hne hk (λi j hi hj ee=>?_) λp pp pu h' c gD kept=>?_
  ·have e1':(ds.map kf).getD i (0,QM "")=(ds.map kf)[i]'(by simpa using hi):=by simp [hi]
   have e2':(ds.map kf).getD j (0,QM "")=(ds.map kf)[j]'(by simpa using hj):=by simp [hj]
   rw [e1',e2'] at ee;exact(Vt nd).mp ee
  ·refine fin _ ⟨.ref D,ah H' D (.lst (p.toList.map λi=>xs.getD i .non)),?_,rfl,q H' _ (p.toList.map λi=>ds.getD i .none) hs pD.2.1 ?_ ?_ ?_⟩
   ·refine I5.track (t':=s'.toks) (ch:=[h2.objs.size,D]) Yh (λb hb=>?_) (λb u hb z=>kept b u (λy=>hb (by simp [y])) (λy=>hb (by simp [y])) z) ⟨?_,_,c,?_,gD⟩
    ·simp only [QX,Rh,or_false] at hb;rcases hb with rfl | rfl
     ·exact⟨pS.2.1,oS⟩
     ·exact⟨pD.2.1,oD⟩
    ·rw [QO,Ru,pp.size];omega
    ·have:∀l:List Nat,(∀i∈l,i < ds.length)->aI (l.map λi=>xs.getD i .non) (l.map λi=>vs.getD i .none):=by
      intro l
      induction l with
      | nil=>intro _;exact .nil
      | cons a l ih=>
       intro hl;have ha:=hl a Yh;refine .cons ?_ (ih λi hi=>hl i (by simp [hi]));obtain⟨x,ex,rx⟩:=sU hv (show vs[a]?=some (vs[a]'Yd) by simp);have e1':xs.getD a .non=x:=by simp [ex]
       have e2':vs.getD a .none=vs[a]'Yd:=by simp [show a < vs.length by omega]
       show aJ (xs.getD a .non) (vs.getD a .none);rw [e1',e2'];exact rx
     exact this _ λi hi=>by simpa using pp.perm.mem_iff.mp hi
   ·have:∀l:List Nat,(∀i∈l,i < ds.length)->ai X.K H' O (l.map λi=>xs.getD i .non) (l.map λi=>ds.getD i .none):=by
     intro l
     induction l with
     | nil=>intro _;exact .nil
     | cons a l ih=>
      intro hl;have ha:=hl a Yh;refine .cons ?_ (ih λi hi=>hl i (by simp [hi]));obtain⟨x,ex,dx⟩:=qM (i:=a) (d:=ds[a]) hd (by simp [ha]);have e1':xs.getD a .non=x:=by simp [ex]
      have e2':ds.getD a .none=ds[a]:=by simp [ha]
      show Dt X.K H' O (xs.getD a .non) (ds.getD a .none);rw [e1',e2'];exact dx.mono hs
    exact this _ λi hi=>by simpa using pp.perm.mem_iff.mp hi
   ·have h1:=pp.perm.map λi=>ds.getD i .none;have e:(SE ds.length).map (λi=>ds.getD i UN)=ds:=by
     apply Uv Yh;intro i a b;simp at a b⊢;rw [Rv b];rfl
    rw [e] at h1;exact h1
   ·rw [Sa,U9];intro i j hi hj hij;have:=pu i j hij (by rw [Ru,pp.size] at hj;exact hj);have ei:p.getD i 0=p.toList[i]:=by simp [Um,show i < p.size by simpa using hi]
    have ej:p.getD j 0=p.toList[j]:=by simp [Um,show j < p.size by simpa using hj]
    rw [ei,ej] at this;have li:p.toList[i] < ds.length:=by simpa using pp.perm.mem_iff.mp (S8 hi)
    have lj:p.toList[j] < ds.length:=by simpa using pp.perm.mem_iff.mp (S8 hj)
    have ff:∀a,a < ds.length->(ds.map kf).getD a (0,QM "")=kf (ds.getD a .none):=λa ha=>by simp [ha]
    dsimp only at this;rw [ff _ li,ff _ lj] at this;exact this
theorem Lb{k:Nat}{f l:Yl}{fd:Ys}{ps:List Str}{F:List Yi->(Yi->Prop)->Prop}{O:Ex}{kf:Yi->Int×Str}{xs:List V}{ds:List Yi}{Q:VK}
 (hc:X.calm=true)(Fk:aA X.prog X.w X.K X.mg X.base CX0 k f fd ps (aV X.K F))(hr:bp k X.A.in1.in1)(hb:cS X.K fd ps [])(trk:∀l,O l->H l≠none)(I:ag X ZY σ H s)(hq:bo X.K H l xs)
 (hd:ai X.K H O xs ds)(hF:∀d∈ds,∀R:Yi->Prop,R (cx (kf d))->F [d] R)(h64:ds.length < 64)(nd:(ds.map kf).Nodup)
 (q:∀(H':Hp) (p:Yl) (xs':List V) (ds':List Yi),au H H'->H' p=none->ai X.K H' O xs' ds'->ds'.Perm ds->ds'.Pairwise (λa b=>aY (kf a) (kf b)=true)->Q (.ref p) (ah H' p (.lst xs'))):
 Yo (Yq X.prog X.w) X.A (call (.builtin "sorted") [.ref l] [(QM "key",.ref f)]) (EP X ZY σ Q) X.xe s:=by
 have hsl:Yt=16777216:=YM;obtain⟨vs,hv,pl,hz⟩:=I.list hq;have lv:vs.length=ds.length:=by rw [<-hv.length,hd.length]
 refine call_function_entry_kw kind_sorted plain_sorted entry_sorted (ksk_s1 _ _) ?_;unfold Builtin.«sorted»;refine Yk (m:=checkCount "sorted" 1 1 _) (Yn ?_);refine Yk (collect_list pl.isList ?_ Yd);have I1:ag X ZY σ H {s with heap:=(s.heap.push (YB "list" #[] 0)).update s.heap.objs.size (Sd (·++vs.toArray))}:=by
  refine I.kept (t':=s.toks) λb u z=>?_;have hlt:b < s.heap.objs.size:=Q7 z;exact(WV _ _ _ _ (Rz hlt)).trans (QS _ z)
 generalize (s.heap.push (YB "list" #[] 0)).update s.heap.objs.size (Sd (·++vs.toArray))=h1 at*;refine Yk (Zk (s:={s with heap:=h1}) ?_ Yd);have I2:ag X ZY σ H {s with heap:=h1.push (YB "list" vs.toArray 0)}:=I1.kept (t':=s.toks) λb u z=>QS _ z;have gD:(h1.push (YB "list" vs.toArray 0)).get? h1.objs.size=some (YB "list" vs.toArray 0):=Rb _ rfl;refine Yk (YN (wpAny_call_entry_kw ZM ⟨_,gD,rfl⟩ ZL ?_ (ksk_l1 _ _)));rw [ksk_t1];refine La (kf:=kf) Fk hr hb trk I2 (I1.out (QQ _)) (I1.hok.fresh (QQ _)) gD hv hd hF h64 nd (Q:=Q) (λH' xs' ds' a b c d e=>q H' _ xs' ds' a b c d e) λs' hs'=>?_;exact⟨_,rfl,Yn ⟨_,rfl,hs'⟩⟩
end
section
variable {P:Yu} {w:Yv} {A:Yz} {E:Yj->Ym->Prop} {s:Ym}
theorem Lc{D:Yl}{vs:List Yj}{n n0:Nat}{kp:Nat->Int×Str}{C:Xa->Ym->Prop}(hv:vs.length=n)(h64:n < 64)(hD:s.heap.get? D=some (YB "list" vs.toArray n0))(hk:∀i v,vs[i]?=some v->iJ s.heap v (kp i)/\v≠ .ref D)(hd:∀i j,i < n->j < n->kp i=kp j->i=j)
 (q:∀p,bT n p->Up (λi j=>aY (kp i) (kp j)) p n->∀h' c,h'.get? D=some (YB "list" (p.toList.map λi=>vs.getD i .none).toArray c)->(∀b u,b≠D->s.heap.get? b=some u->h'.get? b=some u)->C (.done (.ret .none)) {s with heap:=h'}):
 Yo (Yq P w) A (Builtin.«list.sort» ⟨[.ref D],[]⟩) C E s:=by
 have hsl:Yt=16777216:=YM;rw [list_sort_plain];refine Yk (listItems_at hD rfl (Yk (Zm hD rfl ?_ (by rw [Q4];omega) (RD _))));have u1:=RN s.heap D (Sd λ_=>(#[]:Array Yj));have g1:=Zp hD λ_=>(#[]:Array Yj);have k1:∀b u,b≠D->s.heap.get? b=some u->(s.heap.update D (Sd λ_=>(#[]:Array Yj))).get? b=some u:=λb u n z=>(u1.2 b n).trans z;generalize s.heap.update D (Sd λ_=>(#[]:Array Yj))=h1 at*;generalize (if (#[]:Array Yj).size==vs.toArray.size then n0 else n0+1)=e1 at*;refine Yk (seqEpoch_at (s:={s with heap:=h1}) g1 rfl ?_);refine Yk (wpAny_newTuple ?_ (by show vs.length<=_;omega));refine Yk (Zk ?_ (RD _));have g2:((h1.push {cls:= .type "tuple",data:= .seq vs.toArray}).push {cls:= .type "list",data:= .seq ([]:List Yj).toArray}).get? D=some (YB "list" #[] e1):=QS _ (QS _ g1);have k2:∀b u,b≠D->s.heap.get? b=some u->((h1.push {cls:= .type "tuple",data:= .seq vs.toArray}).push {cls:= .type "list",data:= .seq ([]:List Yj).toArray}).get? b=some u:=λb u n z=>QS _ (QS _ (k1 b u n z));show Yo _ _ _ _ _ {s with heap:=(h1.push {cls:= .type "tuple",data:= .seq vs.toArray}).push {cls:= .type "list",data:= .seq ([]:List Yj).toArray}};generalize (h1.push {cls:= .type "tuple",data:= .seq vs.toArray}).push {cls:= .type "list",data:= .seq ([]:List Yj).toArray}=h2 at*;refine YN ?_;have hz:vs.toArray.size=n:=by rw [Q4];exact hv
 have last:∀(st:SortSt)(p:Array Nat),bT n p->Up (λi j=>aY (kp i) (kp j)) p n->failedOf st=none->(arrOf st).map (·.2)=(p.toList.map λi=>vs.getD i .none).toArray->
  Yo (Yq P w) A (do
   let touched:=(<-seqEpoch D) !=e1
   Wv (.ref D) λ_=>(arrOf st).map (·.2)
   if let some e:=failedOf st then rule "list.sort.comparison-raised";throw e
   if touched then rule "list.sort.modified";raiseError "ValueError" "list modified during sort"
   ret .none) C E {s with heap:=h2}:=by
  intro st p p1 p2 hf ho;rw [ho,hf];refine Yk (seqEpoch_at (s:={s with heap:=h2}) g2 rfl ?_);refine Yk (Zm (s:={s with heap:=h2}) g2 rfl ?_ (RD _) (by rw [Q4,QO,Ru,p1.size];omega));simp only [bne_self_eq_false,R6,if_false];have u3:=RN h2 D (Sd λ_=>(p.toList.map λi=>vs.getD i SH).toArray);exact Yn (q p p1 p2 _ _ (Zp g2 λ_=>(p.toList.map λi=>vs.getD i SH).toArray) λb u n z=>(u3.2 b n).trans (k2 b u n z))
 by_cases h2':n < 2
 ·simp only [hz,h2',if_true];refine Yk (Yn (Yk (Yn ?_)));refine last _ (W9 (SE n)) (vQ n) (λi j a b=>by omega) rfl ?_;show(vs.toArray.zip vs.toArray).map (·.2)=_;apply Wm.mp;simp only [Xu,Xv];rw [Xw Yd];apply Uv (by simp [hv]);intro i a b;simp at a b⊢;rw [Rv a];rfl
 ·simp only [hz,h2',if_false];have hk2:∀i v,vs[i]?=some v->iJ h2 v (kp i):=λi v e=>by
   obtain⟨⟨a,o,m,t,u,rfl,x1,x2,x3⟩,ne⟩:=hk i v e;exact⟨a,o,m,t,u,rfl,k2 a o (λz=>ne (by rw [z])) x1,x2,x3⟩
  refine Yk (CT (s:={s with heap:=h2}) hk2 Yd ?_);refine Yk (YJ (kat_run (κ:=tuples' true) (ks:=vs) (s:={s with heap:=h2}) (E:=λ_ _=>False) (Q:=λst' s'=>s'={s with heap:=h2}/\∃p,bT n p/\Up (λi j=>aY (kp i) (kp j)) p n/\arrOf st'=p.map (kas_item (vs.toArray.zip vs.toArray))/\failedOf st'=none) (G:=λp s'=>s'={s with heap:=h2}/\bT n p/\Up (λi j=>aY (kp i) (kp j)) p n) rfl Yd Yd
   (λp st' s' a b c d=>⟨d.1,p,d.2.1,d.2.2,b,c⟩) ?_) (λr s' hr=>?_) λ_ _ x=>x.elim)
  ·rw [hv];exact CU (s:={s with heap:=h2}) hv Yd hk2 hd λp a b=>⟨rfl,a,b⟩
  ·obtain⟨rfl,p,p1,p2,p3,p4⟩:=hr;exact last _ p p1 p2 p4 (kat_snds rfl p3)
end
theorem Ld{X:Cx}:d7 X (.builtin "sorted") (λxs H Q=>∃(p:Yl)(us:List V)(O:Ex)(ps:List (Int×Str)),xs=[.ref p]/\bo X.K H p us/\ai X.K H O us (ps.map cx)/\ps.length < 64/\ps.Nodup/\∀(l:Yl)(us':List V)(ps':List (Int×Str)),H l=none->ai X.K H O us' (ps'.map cx)->ps'.Perm ps->ps'.Pairwise (λa b=>aY a b=true)->Q (.ref l) (ah H l (.lst us'))):=by
 intro ZY s σ H xs ws Q I r h;obtain⟨l,us,O,ps,rfl,hq,hd,h64,nd,q⟩:=h;obtain⟨u,rfl,rx⟩:=fo r;cases rx;have hsl:Yt=16777216:=YM;obtain⟨vs,hv,pl,hz⟩:=I.list hq;have lv:vs.length=ps.length:=by rw [<-hv.length,hd.length,QO]
 refine U6 kind_sorted plain_sorted entry_sorted (args_sorted1 _) ?_;unfold Builtin.«sorted»;refine Yk (m:=checkCount "sorted" 1 1 _) (Yn ?_);refine Yk (collect_list pl.isList ?_ Yd);have I1:ag X ZY σ H {s with heap:=(s.heap.push (YB "list" #[] 0)).update s.heap.objs.size (Sd (·++vs.toArray))}:=by
  refine I.kept (t':=s.toks) λb u z=>?_;have hlt:b < s.heap.objs.size:=Q7 z;exact(WV _ _ _ _ (Rz hlt)).trans (QS _ z)
 generalize (s.heap.push (YB "list" #[] 0)).update s.heap.objs.size (Sd (·++vs.toArray))=h1 at*;refine Yk (Zk (s:={s with heap:=h1}) ?_ Yd);have I2:ag X ZY σ H {s with heap:=h1.push (YB "list" vs.toArray 0)}:=I1.kept (t':=s.toks) λb u z=>QS _ z;have gD:(h1.push (YB "list" vs.toArray 0)).get? h1.objs.size=some (YB "list" vs.toArray 0):=Rb _ rfl;have hH:H h1.objs.size=none:=I1.hok.fresh (QQ _);have oD:nc X ZY h1.objs.size:=I1.out (QQ _);have isp:∀i v,vs[i]?=some v->iJ (h1.push (YB "list" vs.toArray 0)) v (ps.getD i (0,QM ""))/\v≠ .ref h1.objs.size:=λi v ei=>by
  have hi:i < ps.length:=by rw [<-lv];exact(QZ.mp ei).1
  obtain⟨x,ex,rx⟩:=sU hv ei;obtain⟨y,ey,dy⟩:=qM (i:=i) (d:=cx ps[i]) hd (by rw [Q1,Rv hi];rfl);rw [ex] at ey;cases ey;have e:ps.getD i (0,QM "")=ps[i]:=by simp [hi]
  rw [e];have a:=vT I1 dy rx;refine⟨vT I2 dy rx,λz=>?_⟩;obtain⟨ad,o,m,t,u,e1,e2,_⟩:=a;rw [e1] at z;cases z;exact absurd (Q7 e2) (SS _)
 refine Yk (YN (YG ZM ⟨_,gD,rfl⟩ ZL ?_ (args_list_sort _)));refine Lc (s:={s with heap:=h1.push (YB "list" vs.toArray 0)}) (n:=ps.length) (kp:=λi=>ps.getD i (0,QM "")) lv h64 gD isp (λi j hi hj ee=>?_) λp pp pu h' c g kept=>?_
 ·have e1':ps.getD i (0,QM "")=ps[i]:=by simp [hi]
  have e2':ps.getD j (0,QM "")=ps[j]:=by simp [hj]
  rw [e1',e2'] at ee;exact(Vt nd).mp ee
 ·have lt:∀i∈p.toList,i < ps.length:=λi hi=>by simpa using pp.perm.mem_iff.mp hi
  have dm:ai X.K H O (p.toList.map λi=>us.getD i .non) ((p.toList.map λi=>ps.getD i (0,QM "")).map cx):=by
   have:∀l:List Nat,(∀i∈l,i < ps.length)->ai X.K H O (l.map λi=>us.getD i .non) ((l.map λi=>ps.getD i (0,QM "")).map cx):=by
    intro l
    induction l with
    | nil=>intro _;exact .nil
    | cons a l ih=>
     intro hl;have ha:=hl a Yh;refine .cons ?_ (ih λi hi=>hl i (by simp [hi]));obtain⟨x,ex,dx⟩:=qM (i:=a) (d:=cx ps[a]) hd (by rw [Q1,Rv ha];rfl);have e1':us.getD a .non=x:=by simp [ex]
     have e2':ps.getD a (0,QM "")=ps[a]:=by simp [ha]
     show Dt X.K H O (us.getD a .non) (cx (ps.getD a (0,QM "")));rw [e1',e2'];exact dx
   exact this _ lt
  have vm:aI (p.toList.map λi=>us.getD i .non) (p.toList.map λi=>vs.getD i .none):=by
   have:∀l:List Nat,(∀i∈l,i < ps.length)->aI (l.map λi=>us.getD i .non) (l.map λi=>vs.getD i .none):=by
    intro l
    induction l with
    | nil=>intro _;exact .nil
    | cons a l ih=>
     intro hl;have ha:=hl a Yh;refine .cons ?_ (ih λi hi=>hl i (by simp [hi]));obtain⟨x,ex,rx⟩:=sU hv (show vs[a]?=some (vs[a]'Yd) by simp);have e1':us.getD a .non=x:=by simp [ex]
     have e2':vs.getD a .none=vs[a]'Yd:=by simp [show a < vs.length by omega]
     show aJ (us.getD a .non) (vs.getD a .none);rw [e1',e2'];exact rx
   exact this _ lt
  refine⟨_,rfl,Yn ⟨_,rfl,.ref h1.objs.size,ah H h1.objs.size (.lst (p.toList.map λi=>us.getD i .non)),?_,rfl,q _ _ (p.toList.map λi=>ps.getD i (0,QM "")) hH dm ?_ ?_⟩⟩
  ·refine I2.track (t':=s.toks) (ch:=[h1.objs.size]) Yh (λb hb=>?_) (λb u hb z=>kept b u (λy=>hb (by simp [y])) z) ⟨?_,_,c,vm,g⟩
   ·rw [Ra] at hb;subst hb;exact⟨hH,oD⟩
   ·rw [QO,Ru,pp.size];omega
  ·have h1:=pp.perm.map λi=>ps.getD i (0,QM "");have e:(SE ps.length).map (λi=>ps.getD i (0,QM ""))=ps:=by
    apply Uv Yh;intro i a b;simp at a b⊢;rw [Rv b];rfl
   rw [e] at h1;exact h1
  ·rw [Sa,U9];intro i j hi hj hij;have:=pu i j hij (by rw [Ru,pp.size] at hj;exact hj);have ei:p.getD i 0=p.toList[i]:=by simp [Um,show i < p.size by simpa using hi]
   have ej:p.getD j 0=p.toList[j]:=by simp [Um,show j < p.size by simpa using hj]
   rw [ei,ej] at this;exact this
section
variable {X:Cx} {H0:Hp} {O0:Ex}
def kP(t:DA):DA:=λδ Q=>t δ λds=>∃ps:List (Int×Str),ds=[.list (ps.map cx)]/\ps.length < 64/\ps.Nodup/\∀ps':List (Int×Str),ps'.Perm ps->ps'.Pairwise (λa b=>aY a b=true)->Q (ps'.map cx)
theorem Le{a:Yr}{t:DA}{np p:Pos}(hg:Gl X "sorted")(hm:X.mg "sorted"=none)(hv:YI "sorted"=some (.builtin "sorted"))(ha:PA X [a] (iy X.K H0 O0 t))(he:Yp [a] X.env=(false,eval a X.env)::Yp [] X.env:=by rfl)(hpl:(YC p (Yp [] X.env)).any (·.1)=false:=by rfl):
 FE X H0 O0 (.Call (.Name "sorted" np) [a] [] p) (kP t):=
 (bU Ld hg hm hv ha (he:=he) (hpl:=hpl)).imp λσ H Q uu0=>by obtain⟨O,δ,Qd,w,q,k⟩:=uu0;exact⟨O,δ,_,w,q,λds vs H1 uu1 s1 r1=>by
  obtain⟨ps,e,h64,nd,q1⟩:=uu1;subst e;cases r1 with
  | cons h r=>
   cases r;obtain⟨a,us,rfl,h1,d1⟩:=h.lst;exact⟨a,us,O,ps,rfl,h1,d1,h64,nd,λl us' ps' hl hd hp hs=>k _ _ _ _ (q1 ps' hp hs) s1 hl hd⟩⟩
def kQ(F:List Yi->(Yi->Prop)->Prop)(kf:Yi->Int×Str)(t:DA):DA:=λδ Q=>t δ λds0=>∃ds,ds0=[.list ds]/\(∀d∈ds,∀R:Yi->Prop,R (cx (kf d))->F [d] R)/\ds.length < 64/\(ds.map kf).Nodup/\∀ds',ds'.Perm ds->ds'.Pairwise (λa b=>aY (kf a) (kf b)=true)->Q ds'
theorem CZ{a:Yr}{t:DA}{np p gp kp:Pos}{g:Str}{k:Nat}{f:Yl}{fd:Ys}{ps:List Str}{F:List Yi->(Yi->Prop)->Prop}(kf:Yi->Int×Str)(hc:X.calm=true)(Fk:aA X.prog X.w X.K X.mg X.base CX0 k f fd ps (aV X.K F))(hr:bp k X.A.in1.in1)(hb:cS X.K fd ps [])
 (hgg:Gl X g)(hgm:X.mg g=some (.ref f))(hg:Gl X "sorted")(hm:X.mg "sorted"=none)(hv:YI "sorted"=some (.builtin "sorted"))(ha:PA X [a] (iy X.K H0 O0 t))(hdb:(g==("__debug__":Str))=false:=by decide)
 (he:YC p (Yp [a] X.env)=(false,eval a X.env)::YC p (Yp [] X.env):=by rfl)(hplain:(YC p (Yp [a] X.env)).any (·.1)=false:=by rfl):
 FE X H0 O0 (.Call (.Name "sorted" np) [a] [⟨some "key",.Name g gp,kp⟩] p) (kQ F kf t):=by
 intro ZY s σ H Q I h;obtain⟨O,δ,Qd,w,q,kk⟩:=h;refine Y2 (nO I hg hm hv ?_);refine callWith_kw (aB (ha p ZY s σ H (λvs H1=>∃ds0,au H H1/\oZ X.K H1 O vs ds0/\∃ds,ds0=[.list ds]/\(∀d∈ds,∀R:Yi->Prop,R (cx (kf d))->F [d] R)/\ds.length < 64/\(ds.map kf).Nodup/\∀ds',ds'.Perm ds->ds'.Pairwise (λa b=>aY (kf a) (kf b)=true)->Qd ds') I ⟨O,δ,_,w,q,λds0 vs H1 q1 s1 r1=>⟨ds0,s1,r1,q1⟩⟩) λus s1 hus=>?_) he hplain rfl rfl;obtain⟨vs,H1,I1,rv,ds0,s1',r1,ds,e,hF,h64,nd,q1⟩:=hus;subst e;refine kws_cons (qa I1 hgg hgm (kws_nil ?_) hdb);cases r1 with
 | cons h r=>
  cases r;obtain⟨ad,xs,rfl,hq,hd⟩:=h.lst;obtain⟨u,rfl,rx⟩:=fo rv;cases rx;exact Lb (kf:=kf) hc Fk hr hb (w.mono s1').trk I1 hq hd hF h64 nd λH' l xs' ds' a b c d e=>kk _ _ _ _ (q1 ds' d e) (s1'.trans a) b c
end
section
open PySem.SeqAt
open PySem.AutoSeq1 (wpAny_loadPart')
open PySem.MeetsSeq PySem.MeetsSeq2 PySem.MeetsSeq3
theorem Lf(l b:Yl)(n n2:Nat)(dd dd2:Option Yl)(sl sl2:Array (Option Yj))(p q:Int×Str)(t1 t2 t3 t4:Tok):
 Meets (Builtin.«tuple.__lt__» ⟨[.ref l,.ref b],[]⟩)
  (λ_ R s=>s.heap.get? l=some {cls:= .type "tuple",dict:=dd,data:= .seq #[.int p.1 t1,.str p.2 t2] n,slots:=sl}/\s.heap.get? b=some {cls:= .type "tuple",dict:=dd2,data:= .seq #[.int q.1 t3,.str q.2 t4] n2,slots:=sl2}/\
   R (.ok (.ret (.bool (aY p q)))) s):=
 .of_wp λprog w A R s h=>by
  obtain⟨hp,g,d,tk,os⟩:=s;obtain⟨hl,hb,h⟩:=h;have f2:=AutoSeq1.sub_tuple_tuple
  wp_walk using YX hl,YX hb,wpAny_forIn_list _ (λrest b s'=>b.1=none/\s'=⟨hp,g,d,tk,os⟩/\(rest=[(Tv p.1 t1,Tv q.1 t3),(UB p.2 t2,UB q.2 t4)]\/(rest=[(UB p.2 t2,UB q.2 t4)]/\p.1=q.1)\/(rest=[]/\p.1=q.1/\p.2=q.2))) _
  case turn=>
   rintro⟨y,x⟩ rest b s' ⟨hb',rfl,h3⟩;rcases h3 with h3 | ⟨h3,e1⟩ | ⟨h3,_⟩
   ·injection h3 with hyx hrest
    injection hyx with hy hx
    subst hy hx;obtain⟨e,he,hiff⟩:=HT.eqAt_int A.in1 ⟨hp,g,d,tk,os⟩ p.1 t1 q.1 t3;refine Yk (he prog w _ _ ?_);cases e with
    | true=>
     wp_walk
     exact⟨rfl,rfl,.inr (.inl ⟨hrest,hiff.mp rfl⟩)⟩
    | false=>
     have ne:p.1≠q.1:=λz=>absurd (hiff.mpr z) QV;have hri:=HT.rcLt_int A.in1 ⟨hp,g,d,tk,os⟩ p.1 t1 q.1 t3 prog w;have hv:aY p q=decide (p.1 < q.1):=by unfold aY;simp [ne]
     rw [hv] at h
     wp_walk using hri
     exact⟨_,rfl,by simpa using h⟩
   ·injection h3 with hyx hrest
    injection hyx with hy hx
    subst hy hx;have he:=EqAt.str_str (A:=A.in1) (s:=⟨hp,g,d,tk,os⟩) p.2 t2 q.2 t4;refine Yk (he prog w _ _ ?_);cases e:(p.2==q.2) with
    | true=>
     wp_walk
     exact⟨rfl,rfl,.inr (.inr ⟨hrest,e1,eq_of_beq e⟩)⟩
    | false=>
     have hri:∀(E:Yj->Ym->Prop)(Q:Yj->Ym->Prop),Q (.bool (decide (p.2.cps.toList < q.2.cps.toList))) ⟨hp,g,d,tk,os⟩->Yo (Yq prog w) A.in1 (richCompare .Lt (.str p.2 t2) (.str q.2 t4)) Q E ⟨hp,g,d,tk,os⟩:=λE Q z=>(lt_str z:Yo (Yq prog w) A.in1 (YF .Lt (.str p.2 t2) (.str q.2 t4)) Q E _);have hv:aY p q=decide (p.2.cps.toList < q.2.cps.toList):=by unfold aY;simp [e1]
     rw [hv] at h
     wp_walk using hri
     exact⟨_,rfl,by simpa using h⟩
   ·cases h3
  case fin=>
   rintro⟨b1,b2⟩ s' ⟨hb',rfl,h3⟩;simp only at hb';subst hb';rcases h3 with h3 | ⟨h3,e1⟩ | ⟨h3,e1,e2⟩
   ·cases h3
   ·cases h3
   ·have hv:aY p q=false:=by unfold aY;rw [e1,e2];simp
    rw [hv] at h
    wp_walk
    exact⟨_,rfl,by simpa [Builtin.Tuple.tupleCompareSizes] using h⟩
  case h=>
   exact⟨rfl,rfl,.inl rfl⟩
end
def C0(K:QN):R2:=λx y H Q=>∃a b p q,x= .ref a/\y= .ref b/\aZ K H a [.int p.1,.str p.2]/\aZ K H b [.int q.1,.str q.2]/\Q (.bl (aY p q)) H
theorem Lg{X:Cx}(hu:X.A.units < YL):bG X (YF .Lt) (C0 X.K):=by
 intro ZY s σ H x y v u Q I rx ry h;obtain⟨a,b,p,q,rfl,rfl,ha,hb,z⟩:=h;cases rx;cases ry;obtain⟨its,r1,⟨⟨c1,d1,da1,s1⟩,o1,k1,n1,e1⟩,_⟩:=I.tuple ha;obtain⟨its2,r2,⟨⟨c2,d2,da2,s2⟩,o2,k2,n2,e2⟩,_⟩:=I.tuple hb;simp only at k1 e1 k2 e2;subst k1 e1 k2 e2;cases r1 with
 | cons x1 r1=>
  cases r1 with
  | cons x2 r1=>
   cases r1;obtain⟨t1,rfl⟩:=x1;obtain⟨t2,rfl⟩:=x2;cases r2 with
   | cons y1 r2=>
    cases r2 with
    | cons y2 r2=>
     cases r2;obtain⟨t3,rfl⟩:=y1;obtain⟨t4,rfl⟩:=y2;exact richCompare_meets_room (op:= .Lt) ⟨_,o1,rfl⟩ ⟨_,o2,rfl⟩ PySem.F.slot_tuple_lt PySem.F.entry_tuple_lt (PySem.F.args_tuple_lt_2 _ _) (Lf a b n1 n2 d1 d2 s1 s2 p q t1 t2 t3 t4) ⟨o1,o2,(λx=>nomatch x),.bl (aY p q),H,I,rfl,z⟩ hu
def kR:Yi->Yi->(Yi->Prop)->Prop:=λx y Q=>∃p q:Int×Str,x=cx p/\y=cx q/\Q (.bool (aY p q))
theorem Lh{K:QN}:cw K (C0 K) kR:=λH O x y dx dy Qd R _ hx hy uu2 k=>by
 obtain⟨p,q,e1,e2,z⟩:=uu2;subst e1 e2;obtain⟨a,xs,rfl,h1,g1⟩:=hx.tup;obtain⟨b,ys,rfl,h2,g2⟩:=hy.tup;cases g1 with
 | cons x1 g1=>
  cases g1 with
  | cons x2 g1=>
   cases g1;cases x1;cases x2;cases g2 with
   | cons y1 g2=>
    cases g2 with
    | cons y2 g2=>
     cases g2;cases y1;cases y2;exact⟨a,b,p,q,rfl,rfl,h1,h2,k _ _ H z (au.refl _) (.bl _)⟩
section
variable {X:Cx} {H0:Hp} {O0:Ex}
def Li(tc:DB)(tb:DS):DS:=λE δ=>∃W:Nat->Dl->Prop,(∃m,W m δ)/\∀m δ,W m δ->tc δ λb=>if b=true then tb {E with nx:=λδ'=>∃m',m' < m/\W m' δ',ct:=λδ'=>∃m',m' < m/\W m' δ',bk:=E.nx} δ else E.nx δ
theorem Lj{c:Yr}{body:List Yx}{tc:DB}{tb:DS}{pos:Pos}(hp:Zi (Yq X.prog X.w) X.A X.env X.xe)(hc:PT X c (bV X.K H0 O0 tc))(hb:bP X body (bh X.K H0 O0 tb)):PS X (.While c body [] pos) (bh X.K H0 O0 (Li tc tb)):=
 (A1 hp hc hb).imp λD σ H uu3=>by
  obtain⟨O,δ,E,w,⟨W,⟨m0,w0⟩,st⟩,k1,k2,k3,k4⟩:=uu3;refine⟨λm σ' H'=>∃O' δ',Wd X.K H0 O0 H' O' σ' δ'/\aH H H' O O'/\W m δ',⟨m0,O,δ,w,aH.refl _ _,w0⟩,λm σ1 H1 ⟨O1,δ1,w1,S1,q1⟩=>⟨O1,δ1,_,w1,st m δ1 q1,λb H2 q2 s2=>?_⟩⟩;cases b with
  | false=>
   rw [Ye Yh] at q2⊢;exact k1 O1 δ1 σ1 H2 q2 (w1.mono s2) (S1.trans (.same s2))
  | true=>
   rw [Yf rfl] at q2⊢;refine⟨λσ' H'=>∃O' δ' m',m' < m/\Wd X.K H0 O0 H' O' σ' δ'/\aH H H' O O'/\W m' δ',λσ' H' uu5=>by obtain⟨O',δ',m',lt,w',S',q'⟩:=uu5;exact⟨m',lt,O',δ',w',S',q'⟩,O1,δ1,_,w1.mono s2,q2,?_,k2,?_,?_⟩
   ·rintro O' δ' σ' H' ⟨m',lt,q'⟩ w' S';exact⟨O',δ',m',lt,w',S1.trans ((aH.same s2).trans S'),q'⟩
   ·intro O' δ' σ' H' q' w' S';exact k1 O' δ' σ' H' q' w' (S1.trans ((aH.same s2).trans S'))
   ·rintro O' δ' σ' H' ⟨m',lt,q'⟩ w' S';exact⟨O',δ',m',lt,w',S1.trans ((aH.same s2).trans S'),q'⟩
theorem bC.vals{K:QN}{H:Hp}{O:Ex}{kv:List (aq×V)}{kd:List (aq×Yi)}(h:bC K H O kv kd):ai K H O (kv.map (·.2)) (kd.map (·.2)):=by
 induction h with
 | nil=>exact .nil
 | cons a _ ih=>exact .cons a ih
abbrev fX(ks:List Str)(ds:List Yi):Yi:=BR (ks.map .str) ds
def kT(i:Nat)(t:DS):DS:=λE δ=>∃kd,δ[i]?=some (some (.k kd))/\∃ks:List Str,kd.map (·.1)=ks.map Sn/\t E (δ.set i (some (.v (fX ks (kd.map (·.2))))))
theorem cF.z{H:Hp}{a:Yl}{ob:Obj}{kvs:List (aq×V)}{k:aq}(e:H a=some (.frz ob (.dK kvs))):cF H a (kV k) (dJ kvs k):= .inl ⟨kvs,k,.inr ⟨ob,e⟩,rfl,rfl⟩
theorem ag.fast{X:Cx}{ZY:List (Yl×Obj)}{σ:St}{H:Hp}{s:Ym}(I:ag X ZY σ H s){a:Yl}{kv:List (aq×V)}(ha:H a=some (.dK kv)):∃o,ag X ZY σ (ah H a (.frz o (.dK kv))) s:=by
 obtain⟨z,hd,vs,rel,o,es,ep,g,r1,r2,r3⟩:=I.hok a _ ha;exact⟨o,I.write (x:=a) (e:=a) (o:= .frz o (.dK kv)) (h':=s.heap) (t':=s.toks) (by rw [ha];exact Tg) (.inl rfl) (λ_ _ _ q=>q) ⟨o,g⟩ ⟨g,z,hd,vs,rel,o,es,ep,g,r1,r2,r3⟩⟩
theorem Ll{st:Yx}{t:TS}(h:PS X st t)(i:Nat):PS X st (λD σ H=>∃a kv,σ[i]?=some (some (.ref a))/\H a=some (.dK kv)/\∀o,t D σ (ah H a (.frz o (.dK kv)))):=by
 intro ZY s σ H D I q;obtain⟨a,kv,_,ha,q⟩:=q;obtain⟨o,I2⟩:=I.fast ha;exact h ZY s σ _ D I2 (q o)
theorem Wd.tell{K:QN}{H0 H:Hp}{O0 O:Ex}{σ:St}{δ:Dl}(w:Wd K H0 O0 H O σ δ){i:Nat}{v:V}{d:Yi}(h:σ[i]?=some (some v))(hd:Dt K H O v d):Wd K H0 O0 H O σ (δ.set i (some (.v d))):=by
 have li:i < δ.length:=by rw [<-w.len];exact(QZ.mp h).1
 have ne:∀{j:Nat}{y:Sl},(δ.set i (some (.v d)))[j]?=some (some y)->y.own->j≠i:=λ{j y} q hy z=>by
  subst z;rw [Rk li] at q;cases q;exact hy
 refine⟨w.same,w.sub,w.new,w.trk,by simp [w.len],λj y q=>?_,λj k y z l' e1 y1 e2 z2 e3 e4=>?_⟩
 ·by_cases hj:j=i
  ·subst hj;rw [Rk li] at q;cases q;exact⟨v,by rw [h];rfl,hd⟩
  ·rw [Q6 (Ne.symm hj)] at q;exact w.sl j y q
 ·have n1:=ne e1 y1;have n2:=ne e2 z2;rw [Q6 (Ne.symm n1)] at e1;rw [Q6 (Ne.symm n2)] at e2;exact w.dis j k _ _ l' e1 y1 e2 z2 e3 e4
theorem C1(i:Nat){st:Yx}{t:DS}(h:PS X st (bh X.K H0 O0 t)):PS X st (bh X.K H0 O0 (kT i t)):=
 (Ll h i).imp λD σ H uu6=>by
  obtain⟨O,δ,E,w,⟨kd,e,ks,ek,q⟩,k1,k2,k3,k4⟩:=uu6;obtain⟨l,kv,h,a,b,c,r⟩:=w.ownK e;refine⟨l,kv,h,c,λo=>?_⟩;obtain⟨O',w',S,n⟩:=w.frzK (y0:= .k kd) e trivial h (.frz o (.dK kv));have w2:=w'.tell (d:=fX ks (kd.map (·.2))) h (.dic bq (by rw [r.keys];exact ek) rfl n (r.vals.step S));rw [List.set_set] at w2;exact⟨O',_,E,w2,q,λO2 δ2 σ2 H2 z2 w2 S2=>k1 O2 δ2 σ2 H2 z2 w2 (S.trans S2),k2,λO2 δ2 σ2 H2 z2 w2 S2=>k3 O2 δ2 σ2 H2 z2 w2 (S.trans S2),λO2 δ2 σ2 H2 z2 w2 S2=>k4 O2 δ2 σ2 H2 z2 w2 (S.trans S2)⟩
theorem pq:∀{a b:List Str},a.map QU=b.map QU->a=b
 | [],[],_=>rfl
 | [],_::_,h=>by cases h
 | _::_,[],h=>by cases h
 | x::a,y::b,h=>by
  simp only [QR,RG,R8] at h;rw [h.1,pq h.2]
def bg:List Str->List Yi->Str->Option Yi
 | k::ks,d::ds,z=>if k=z then some d else bg ks ds z
 | _,_,_=>none
theorem qN{K:QN}{H:Hp}{O:Ex}{z:Str}{d:Yi}:∀{kv:List (aq×V)}{ks:List Str}{ds:List Yi},kv.map (·.1)=ks.map Sn->ai K H O (kv.map (·.2)) ds->bg ks ds z=some d->∃v,dJ kv (.inr z)=some v/\Dt K H O v d
 | [],[],ds,_,_,e=>by unfold bg at e;cases e
 | [],_::_,ds,h,_,_=>by cases h
 | _::_,[],ds,h,_,_=>by cases h
 | p::kv,k::ks,ds,h,hd,e=>by
  rw [QR] at hd;cases hd with
  | cons h1 h2=>
   simp only [QR,RG] at h;obtain⟨p1,p2⟩:=p;obtain⟨rfl,h⟩:=h;unfold bg at e;by_cases hk:k=z
   ·rw [Yf hk] at e;cases e;exact⟨p2,qE (by rw [hk]),h1⟩
   ·rw [Ye hk] at e;obtain⟨v,a,b⟩:=qN h h2 e;exact⟨v,by rw [ph (λq=>hk (jn.mp q))];exact a,b⟩
def iK(to tk:DT):DT:=λδ Q=>to δ λx=>∃ks ds,x=fX ks ds/\tk δ λy=>∃z,y= .str z/\∃d,bg ks ds z=some d/\Q d
theorem C3{o e:Yr}{to tk:DT}{pos:Pos}(hu:X.A.units+64 < YL)(ho:DE X H0 O0 o to)(he:DE X H0 O0 e tk)(hs:sJ e):DE X H0 O0 (.Subscript o e pos) (iK to tk):=
 (B8 Yd ho he hs).imp λσ H Q uu7=>by
  obtain⟨O,δ,Qd,w,q,k⟩:=uu7;refine⟨O,δ,_,w,q,λx vx H1 ⟨ks,ds,ex,q1⟩ s1 r1=>?_⟩;subst ex;refine⟨O,δ,_,w.mono s1,q1,λy vy H2 ⟨z,ey,d,ed,q2⟩ s2 r2=>?_⟩;subst ey;cases r2;cases r1 with
  | @dic a ob kv ks' kp ds h e1 e2 n rr=>
   have ek:ks'=ks:=by
    have:ks'.map QU=ks.map QU:=e2.symm;exact pq this
   subst ek;obtain⟨v,hv,dv⟩:=qN e1 rr ed;exact⟨a,v,rfl,by rw [<-hv];exact cF.z (k:= .inr z) (s2 _ _ h),k _ _ _ q2 (s1.trans s2) (dv.mono s2)⟩
theorem ai.ofInts{K:QN}{H:Hp}{O:Ex}:∀(ns:List Int),ai K H O (ns.map V.int) (ns.map Rq)
 | []=>.nil
 | n::ns=>.cons (.int n) (ai.ofInts ns)
def kU(t:DT)(g:DG)(tc:DB)(te:DT)(k:Nat)(fr:List Nat):DA:=λδ Q=>iE t g tc te k fr δ Q\/iF t g tc te k fr δ Q
theorem Lm{N':List Str}{k:Nat}{fr:List Nat}{scope:YW}{iter elt tg:Yr}{ifs:List Yr}{t te:DT}{tc:DB}{g:TG}{dg:DG}{pos:Pos}(hc:X.calm=true)(S:bb X.env.scope X.N N' k fr scope)(hi:DF X H0 O0 iter t)(gd:GD X.K g dg)(hk:jX g k)(hfr:fr.Nodup)
 (hg:∀fp C s H,PG (bF X scope N' fp C s H) tg g)(hf:∀fp C s H,fu (bF X scope N' fp C s H) ifs (bV X.K H0 O0 tc))(he:∀fp C s H,PE (bF X scope N' fp C s H) elt (up X.K H0 O0 te))
 (hs:∀x,YA iter X.env x=pure x:=by intro _;rfl):FE X H0 O0 (.ListComp elt [⟨tg,iter,ifs,0⟩] scope pos) (kU t dg tc te k fr):=by
 intro ZY s σ H Q I h;obtain⟨O,δ,Qd,w,q,kk⟩:=h;rcases q with q | q
 ·exact eD hc S hi gd hk hfr hg hf he hs ZY s σ H Q I ⟨O,δ,Qd,w,q,kk⟩
 ·exact jY hc S hi gd hk hfr hg hf he hs ZY s σ H Q I ⟨O,δ,Qd,w,q,kk⟩
end
theorem Ln{fr:List Nat}{σ:St}{v u:Option V}:nR (bB 2 fr σ) (((bB 2 fr σ).set 0 v).set 1 u):=by
 refine⟨Yh,λi w h=>?_⟩
 match i with
 | 0=>simp [bB,Q8] at h
 | 1=>simp [bB,Q8] at h
 | i+2=>simpa [bB,Q8] using h
theorem vU{K:QN}{n:Nat}:jX (rH K n (qg (i5 0) (qg (i5 1) rG))) 2:=λfr σ v H' R uu10=>by obtain⟨a,xs,e,h1,h2,x,r,e1,y,r2,e2,e3,h⟩:=uu10;exact⟨a,xs,e,h1,h2,x,r,e1,y,r2,e2,e3,Ln,h⟩
def C4(K:QN):R2:=λx y H Q=>∃a b xs ys,x= .ref a/\y= .ref b/\aZ K H a xs/\aZ K H b ys/\xs.length+ys.length<=Yt/\(xs=[]->Q (.ref b) H)/\(xs≠[]->uZ K x y H Q)
theorem C5{X:Cx}:bG X (YU .Add) (C4 X.K):=by
 intro ZY s σ H x y v u Q I rx ry h;obtain⟨a,b,xs,ys,rfl,rfl,ha,hb,hz,q0,q1⟩:=h;by_cases hx:xs=[]
 ·subst hx;cases rx;cases ry;obtain⟨its,r1,⟨⟨c1,d1,da1,s1⟩,o1,k1,n1,e1⟩,_⟩:=I.tuple ha;obtain⟨its2,r2,⟨⟨c2,d2,da2,s2⟩,o2,k2,n2,e2⟩,_⟩:=I.tuple hb;simp only at k1 e1 k2 e2;subst k1 e1 k2 e2;cases r1;exact concat_meets ⟨_,o1,rfl⟩ ⟨_,o2,rfl⟩ ZU seq_tuple_add Vp Vk (Vc _ _)
   (tuple_addW0 a b _ its2.toArray n1 n2 d1 d2 s1 s2 Yh) ⟨o1,o2,.ref b,H,I,rfl,q0 rfl⟩
 ·exact IC ZY s σ H _ _ v u Q I rx ry (q1 hx)
def kW:Yi->Yi->(Yi->Prop)->Prop:=λx y Q=>∃xs ys,x= .tuple xs/\y= .tuple ys/\xs.length+ys.length<=Yt/\Q (.tuple (xs++ys))
theorem C6{K:QN}:cw K (C4 K) kW:=λH O x y dx dy Qd R tr hx hy uu11 k=>by
 obtain⟨xs,ys,e1,e2,hz,q⟩:=uu11;subst e1 e2;have hx0:=hx;have hy0:=hy;obtain⟨a,vs,rfl,h1,d1⟩:=hx.tup;obtain⟨b,us,rfl,h2,d2⟩:=hy.tup;refine⟨a,b,vs,us,rfl,rfl,h1,h2,by rw [d1.length,d2.length];exact hz,λz=>?_,λz=>?_⟩
 ·subst z;cases d1;rw [RY] at q;cases hy0 with
  | dt hy0=>exact k _ _ H q (au.refl _) hy0
 ·exact JJ H O _ _ _ _ Qd R tr hx0 hy0 ⟨xs,ys,rfl,rfl,λe=>z (by subst e;cases d1;rfl),hz,q⟩ k
def dB(f:Str)(d:Yi):List (Str×Yi)->List (Str×Yi)
 | []=>[(f,d)]
 | (g,x)::r=>if g=f then(g,d)::r else(g,x)::dB f d r
theorem ix.put{K:QN}{H:Hp}{O:Ex}{f:Str}{v:V}{d:Yi}(hv:Dt K H O v d):∀{fs:List (Str×V)}{fd:List (Str×Yi)},ix K H O fs fd->ix K H O (cY f v fs) (dB f d fd)
 | [],[],_=>⟨rfl,.cons hv .nil⟩
 | [],_::_,h=>by cases h.1
 | _::_,[],h=>by cases h.1
 | (g,x)::fs,(g',y)::fd,⟨h1,h2⟩=>by
  simp only [QR,RG] at h1;obtain⟨rfl,h1⟩:=h1;simp only [QR] at h2;cases h2 with
  | cons a r=>
   unfold cY dB;by_cases e:g=f
   ·rw [Yf e,Yf e];exact⟨by simp only [QR,h1],.cons hv r⟩
   ·rw [Ye e,Ye e];obtain⟨q1,q2⟩:=ix.put hv (fs:=fs) (fd:=fd) ⟨h1,r⟩;exact⟨by simp only [QR,q1],.cons a q2⟩
section
variable {X:Cx} {H0:Hp} {O0:Ex}
def kX(C:Yl)(i:Nat)(f:Str)(t:DT):DS:=λE δ=>t δ λd=>∃l fd,δ[i]?=some (some (.i l C fd))/\fd.length < 1000/\E.nx (δ.set i (some (.i l C (dB f d fd))))
theorem fG{C:Yl}{i:Nat}{f:Str}{o e:Yr}{t:DT}{pos pos':Pos}(hc:cQ X.K C)(hn:NoAttr X.K C f)(ho:PE X o (cJ i))(he:DE X H0 O0 e t)(hs:YD e (some (.Attribute o f pos')) pos.line X.env=pure false:=by rfl):
 PS X (.Assign [.Attribute o f pos'] e pos) (bh X.K H0 O0 (kX C i f t)):=
 (uX ho he hs).imp λD σ H ⟨O,δ,E,w,q,k1,k2,k3,k4⟩=>⟨O,δ,_,w,q,λd u H1 uu13 s1 r1=>by
  obtain⟨l,fd,e,hl,q1⟩:=uu13;have w1:=w.mono s1;obtain⟨dx,fs,h,a,b,c,r⟩:=w1.ownI e;have lf:fs.length=fd.length:=by have:=congrArg VM r.1;simpa using this
  refine⟨.ref l,h,l,C,dx,fs,rfl,c,hc,hn,by rw [lf];exact hl,k1 _ _ _ _ q1 (w1.putY (y0:= .i l C fd) (y1:= .i l C (dB f d fd)) trivial trivial e h λS a b=>⟨dx,_,rfl,a,b,bq,?_⟩) ⟨λb' o' z n=>?_,λ_ _ n=>n⟩⟩
  ·obtain⟨z1,z2⟩:=r.put (f:=f) r1;exact⟨z1,z2.step S⟩
  ·rw [az (λy=>n (by rw [y];exact a))];exact s1 _ _ z⟩
abbrev C7(C:Yl)(fd:List (Str×Yi)):Yi:=fx C (fd.map λp=>.str p.1) (fd.map (·.2))
def sV(K:QN)(C:Yl)(F:List Yi->(Yi->Prop)->Prop):Sp:=λvs H Q _=>∃x dx vs' H1 O ds Qd,vs= .ref x::vs'/\H=ah (ah H1 dx (.own x)) x (.ins C dx [])/\H1 x=none/\H1 dx=none/\dx≠x/\(∀l,O l->H1 l≠none)/\ai K H1 O vs' ds/\F ds Qd/\
 ∀d H',Qd d->au H1 H'->Dt K H' O (.ref x) d->Q .non H'
theorem vV{K:QN}{C:Yl}{F:List Yi->(Yi->Prop)->Prop}{t:DA}{E:XK}:∀σ H Q,up K H0 O0 (gE F t) σ H Q->Bp C (sV K C F) [] E (gA K H0 O0 t) σ H Q:=
 λσ H Q uu14=>by obtain⟨O,δ,Qd,w,q,k⟩:=uu14;exact⟨O,δ,_,w,q,λds vs H1 q1 s1 r1 x dx hx hdx ne=>⟨x,dx,vs,H1,O,ds,Qd,by rw [RF],rfl,hx,hdx,ne,(w.mono s1).trk,r1,q1,λd H2 q2 s2 r2=>⟨rfl,k d _ H2 q2 (s1.trans s2) r2⟩⟩⟩
def sW(N:List Str)(l C:Yl)(ds:List Yi):Dl:=some (.i l C [])::(eG N (.none::ds)).tail
theorem Lo{K:QN}{H1:Hp}{O:Ex}{N:List Str}{vs:List V}{ds:List Yi}{x dx C:Yl}(tr:∀l,O l->H1 l≠none)(r:ai K H1 O vs ds)(hx:H1 x=none)(hdx:H1 dx=none)(ne:dx≠x):
 Wd K H1 O (ah (ah H1 dx (.own x)) x (.ins C dx [])) (λl=>O l\/l=x) (start N (.ref x::vs)) (sW N x C ds):=by
 have w0:=BY (N:=N) tr (.cons .non r);have w1:=w0.mono (au.new (o:=HO.own x) hdx);have hx1:(ah H1 dx (.own x)) x=none:=by rw [az (Ne.symm ne)];exact hx
 have:=w1.setY (i:=0) (p:=x) (ho:= .ins C dx []) (y0:= .i x C []) trivial hx1 λO' S a b=>⟨dx,[],rfl,a,b,bq,rfl,.nil⟩;exact this
end
section
variable {P:Yu} {w:Yv} {K:QN} {mg:Str->Option Yj} {base:Yw}
theorem d9.okI{x qual:Str}{st:Yx}{f C:Yl}{fd:Ys}{N ps:List Str}{k:Nat}{F:List Yi->(Yi->Prop)->Prop}(Fu:d9 K x qual st f fd)(S:aO N ps (av st))(len:∀ds Q,F ds Q->ds.length+1=ps.length)
 (hbody:∀(cdv:Yj) (A:Yz) (outer:List Env) (s:Ym) (H H1:Hp) (O:Ex) (ds:List Yi) (Q:Yi->Prop) (E:XK) (l:Yl),bp k (A.deeper (Zj qual (av st) s.heap.objs.size f cdv))->F ds Q->
  ∃t,bP (iu CX0 P w K mg base N qual (av st) f cdv A outer s H E).nox (fq st) (bh K H1 O t)/\t {nx:=λδ=>∃fd,δ[0]?=some (some (.i l C fd))/\Q (C7 C fd),rt:=λ_=>False} (sW N l C ds)):aA P w K mg base CX0 (k+1) f fd ps (sV K C F):=by
 refine Fu.ok S (λvs H Q E h=>?_) (λcdv A outer s H vs Q E hr h=>?_)
 ·obtain⟨x,dx,vs',H1,O,ds,Qd,rfl,_,_,_,_,_,r,q,_⟩:=h;rw [Q0,r.length];exact len _ _ q
 ·obtain⟨x,dx,vs',H1,O,ds,Qd,rfl,rfl,hx,hdx,ne,tr,r,q,k⟩:=h;obtain⟨t,ht,q'⟩:=hbody cdv A outer s _ H1 O ds Qd E x hr q;refine⟨_,ht,_,_,_,Lo tr r hx hdx ne,q',λO' δ' σ' H' z w' S'=>?_,λd v H' z s' r'=>z.elim,λ_ _ _ _ z=>z.elim,λ_ _ _ _ z=>z.elim⟩;obtain⟨fd,e,z⟩:=z;obtain⟨dx',fs,h,a,b,c,r1,r2⟩:=w'.ownI e;refine k _ _ z w'.same (.obj c ?_ b (r2.step ⟨λ_ _ y _=>y,λb' _ n z=>n (w'.sub b' z)⟩));rw [show(fd.map λp:Str×Yi=>QU p.1)=(fd.map (·.1)).map QU by rw [Rc];rfl,<-r1,Rc];rfl
end
theorem Dt.objI{K:QN}{H:Hp}{O:Ex}{v:V}{C:Yl}{kp ds:List Yi}(h:Dt K H O v (fx C kp ds)):∃a dx fs,v= .ref a/\H a=some (.ins C dx fs)/\kp=fs.map (λp=>QU p.1)/\ai K H O (fs.map (·.2)) ds:=by
 generalize e:fx C kp ds=x at h;cases h with
 | @obj a C' dx fs kp' ds' h1 h2 n r=>
  simp only [fx,Xj,RG,Vs,R7,R3,SI,and_true,true_and] at e;obtain⟨e1,e2,e3⟩:=e;have e1:C=C':=by exact_mod_cast e1
  subst e1 e2 e3;exact⟨a,dx,fs,rfl,h1,h2,r⟩
 | _=>first | cases e | simp [fx] at e
section
variable {X:Cx} {H0:Hp} {O0:Ex}
theorem C8{K:QN}{H:Hp}{O:Ex}{f:Str}{d:Yi}:∀{fs:List (Str×V)}{ks:List Str}{ds:List Yi},fs.map (λp=>QU p.1)=ks.map QU->ai K H O (fs.map (·.2)) ds->bg ks ds f=some d->∃v,fs.lookup f=some v/\Dt K H O v d
 | [],[],ds,_,_,e=>by unfold bg at e;cases e
 | [],_::_,ds,h,_,_=>by cases h
 | _::_,[],ds,h,_,_=>by cases h
 | (g,x)::fs,k::ks,ds,h,hd,e=>by
  rw [QR] at hd;cases hd with
  | cons h1 h2=>
   simp only [QR,RG,R8] at h;obtain⟨rfl,h⟩:=h;unfold bg at e;rw [Rx];by_cases hk:g=f
   ·rw [Yf hk] at e;cases e;subst hk;exact⟨x,Yh,h1⟩
   ·rw [Ye hk] at e;have:(f==g)=false:=by simpa using Ne.symm hk
    rw [this];exact C8 h h2 e
def kY(C:Yl)(f:Str)(t:DT):DT:=λδ Q=>t δ λx=>∃ks ds d,x=fx C (ks.map .str) ds/\bg ks ds f=some d/\Q d
theorem cc{C:Yl}{f:Str}{e:Yr}{t:DT}{pos:Pos}(hc:cQ X.K C)(hn:NoAttr X.K C f)(he:DE X H0 O0 e t)(hb:YQ e f X.env (eval e X.env)=eval e X.env:=by rfl):DE X H0 O0 (.Attribute e f pos) (kY C f t):=
 (rQ he hb).imp λσ H Q uu15=>by obtain⟨O,δ,Qd,w,q,k⟩:=uu15;exact⟨O,δ,_,w,q,λx v H1 uu16 s1 r1=>by
  obtain⟨ks,ds,d,ex,ed,q1⟩:=uu16;subst ex;obtain⟨a,dx,fs,rfl,h1,h2,r⟩:=r1.objI;obtain⟨v,hv,dv⟩:=C8 h2.symm r ed;exact⟨a,C,dx,fs,v,rfl,h1,hc,hn,hv,k _ _ _ q1 s1 dv⟩⟩
end
def fY(xs:Array Nat):Prop:=xs.toList.Pairwise (· < ·)
theorem fY.lt{xs:Array Nat}(h:fY xs){i k:Nat}(hik:i < k)(hk:k < xs.size):xs[i]'Yd < xs[k]:=by
 have:=U9.mp h i k (by simpa using(by omega:i < xs.size)) (by simpa using hk) hik;simpa using this
theorem Lp{xs:Array Nat}(h:fY xs){j:Nat}:∀(f lo hi:Nat),hi - lo<=f->lo<=hi->hi<=xs.size->(∀k(hk:k < xs.size),k < lo->xs[k] < j)->(∀k(hk:k < xs.size),hi<=k->j<=xs[k])->
 lo<=UQ xs j f lo hi/\UQ xs j f lo hi<=hi/\(∀k(hk:k < xs.size),k < UQ xs j f lo hi->xs[k] < j)/\(∀k(hk:k < xs.size),UQ xs j f lo hi<=k->j<=xs[k]):=by
 intro f
 induction f with
 | zero=>
  intro lo hi a b c d e;obtain rfl:lo=hi:=Yd
  exact⟨QQ _,QQ _,d,e⟩
 | succ f ih=>
  intro lo hi a b c d e;unfold UQ;by_cases hl:lo < hi
  ·rw [Yf hl];simp only;have hm:(lo+hi)/ 2 < xs.size:=Yd
   have eg:xs.getD ((lo+hi)/ 2) j=xs[(lo+hi)/ 2]:=by simp [Um,hm]
   rw [eg];split
   ·rename_i hx;have d':∀k(hk:k < xs.size),k < (lo+hi)/ 2+1->xs[k] < j:=λk hk hlt=>by
     rcases S7 k ((lo+hi)/ 2) with z | z
     ·exact XY (h.lt z hm) hx
     ·obtain rfl:k=(lo+hi)/ 2:=Yd
      exact hx
    obtain⟨p,q,r,s⟩:=ih ((lo+hi)/ 2+1) hi Yd Yd c d' e;exact⟨Yd,q,r,s⟩
   ·rename_i hx;have e':∀k(hk:k < xs.size),(lo+hi)/ 2<=k->j<=xs[k]:=λk hk hge=>by
     rcases S7 ((lo+hi)/ 2) k with z | z
     ·exact Rj (Tt hx) (TJ (h.lt z hk))
     ·obtain rfl:k=(lo+hi)/ 2:=Yd
      exact Tt hx
    obtain⟨p,q,r,s⟩:=ih lo ((lo+hi)/ 2) Yd Yd Yd d e';exact⟨p,Yd,r,s⟩
  ·rw [Ye hl];obtain rfl:lo=hi:=Yd
   exact⟨QQ _,QQ _,d,e⟩
theorem vW{xs:Array Nat}(h:fY xs)(j:Nat):Sz xs j<=xs.size/\(∀k(hk:k < xs.size),k < Sz xs j->xs[k] < j)/\(∀k(hk:k < xs.size),Sz xs j<=k->j<=xs[k]):=by
 unfold Sz;obtain⟨_,b,c,d⟩:=Lp h (j:=j) xs.size 0 xs.size Yd (RD _) (QQ _) (λk hk z=>absurd z Yd) (λk hk z=>absurd hk Yd);exact⟨b,c,d⟩
theorem Lq{xs:Array Nat}(h:fY xs){i:Nat}(hi:i < xs.size):Sz xs (xs[i]+1)=i+1:=by
 obtain⟨a,b,c⟩:=vW h (xs[i]+1);apply Nat.le_antisymm
 ·refine Tt λz=>?_;have:=b (i+1) Yd z;have:=h.lt (show i < i+1 by omega) (show i+1 < xs.size by omega);omega
 ·refine Tt λz=>?_;have:=c i hi Yd;omega
theorem Lr{xs:Array Nat}(h:fY xs):Sz xs 0=0:=by
 obtain⟨a,b,c⟩:=vW h 0;refine Nat.eq_zero_of_not_pos λz=>?_;exact absurd (b 0 Yd z) Yd
theorem fY.ins{xs:Array Nat}(h:fY xs){j:Nat}(hj:xs[Sz xs j]?≠some j):fY (SetTable.insertAt xs (Sz xs j) j):=by
 obtain⟨a,b,c⟩:=vW h j;have h0:xs.toList.Pairwise (· < ·):=h;unfold fY;rw [SetTable.toList_insertAt];generalize Sz xs j=p at*;rw [<-Tz p xs.toList,UY] at h0;rw [UY];have lt1:∀x∈xs.toList.take p,x < j:=λx hx=>by
  obtain⟨k,hk,rfl⟩:=VG hx;rw [RA] at hk;rw [List.getElem_take];have:=b k (by simp at hk;omega) Yd;simpa using this
 have lt2:∀x∈xs.toList.drop p,j < x:=λx hx=>by
  obtain⟨k,hk,rfl⟩:=VG hx;rw [Ts] at hk;rw [List.getElem_drop];have hs:p+k < xs.size:=by simp at hk;omega
  have h1:=c (p+k) hs Yd;have h2:xs[p+k]≠j:=λe=>by
   rcases VO k with z | z
   ·subst z;exact hj (by rw [Uo (show p < xs.size from hs)];exact congrArg some e)
   ·have:=c p Yd (QQ _);have:=h.lt (show p < p+k by omega) hs;omega
  have:j < xs[p+k]:=Yd
  simpa using this
 refine⟨h0.1,So.mpr ⟨lt2,h0.2.1⟩,λx hx y hy=>?_⟩;rcases QX.mp hy with e | hy
 ·rw [e];exact lt1 x hx
 ·exact h0.2.2 x hx y hy
theorem Lu{t:YY}{ha:Nat->Int}{h:Int}(hd:t.dummies=#[]):∀(f:Nat)(p:SetTable.Probe){j:Nat}{d:Option Nat},p.dummy=none->Xk t ha h f p=some (.empty j d)->d=none/\t.place[Sz t.place j]?≠some j:=by
 intro f
 induction f with
 | zero=>intro p j d _ e;cases e
 | succ f ih=>
  intro p j d hp e;unfold Xk at e;have nd:∀k,SetTable.has t.dummies k=false:=λk=>by rw [hd];rfl
  have adv:(t.advance p).dummy=none:=by unfold SetTable.advance;split <;> exact hp
  cases hs:t.slot p.j with
  | empty=>
   rw [hs] at e;simp only [Sb,SetTable.Met.empty.injEq] at e;obtain⟨rfl,rfl⟩:=e;refine⟨hp,λz=>?_⟩;unfold XT at hs;simp only [z,beq_self_eq_true,if_true] at hs;cases hs
  | dummy=>
   unfold XT at hs;simp only [nd] at hs;split at hs
   ·cases hs
   ·simp at hs
  | live i=>
   rw [hs] at e;simp only at e;split at e
   ·cases e
   ·exact ih _ adv e
structure dR (t:YY):Prop where
 ris:fY t.place
 dum:t.dummies=#[]
theorem dR.fresh{f m:Nat}{l:Bool}:dR (.fresh f m l):=⟨.nil,rfl⟩
theorem Lv(n:Nat):fY (Array.range n):=by
 unfold fY;rw [Array.toList_range];exact WE
theorem dR.standIn{t:YY}{n:Nat}:dR (t.standIn n):=⟨Lv n,rfl⟩
theorem dR.orStandIn{t:YY}{n:Nat}(h:dR t):dR (t.orStandIn n):=by
 unfold W7;split
 ·exact h
 ·exact .standIn
theorem dR.layNew{t:YY}(h:dR t)(es:Array (Int×Yj))(hs:Int)(x:Yj):dR (layNew t es hs x).2.1:=by
 unfold PySem.layNew;cases hf:t.freeSlot hs with
 | none=>exact .standIn
 | some q=>
  obtain⟨slot,wd⟩:=q;simp only;refine dR.orStandIn ?_;unfold SetTable.freeSlot at hf;split at hf
  ·rename_i j d hp;simp only [Sb,Vs] at hf;obtain⟨e1,e2⟩:=hf;obtain⟨rfl,nj⟩:=Lu h.dum _ _ (by rfl) hp;simp at e1;subst e1;unfold SetTable.put;refine⟨h.ris.ins nj,?_⟩;simp only [h.dum];rfl
  ·cases hf
theorem dR.relay{t:YY}(h:dR t)(es:Array (Int×Yj))(n:Nat):dR (Zy t es n).2.1:=by
 unfold Zy;split
 ·rename_i t' order hr;dsimp only;split
  ·unfold XD XQ at hr;cases hc:Xh (W8 n - 1) (es.map (·.1)) with
   | none=>rw [hc] at hr;cases hr
   | some ow=>
    rw [hc] at hr;simp only [bind,X6,pure,Sb,Vs] at hr;obtain⟨e1,_⟩:=hr;subst e1;refine⟨?_,rfl⟩;unfold fY;simp only [List.toList_toArray];rw [Sa];refine List.Pairwise.filterMap _ (λa a' hl b hb b' hb'=>?_) WE;cases h1:ow.getD a none with
    | none=>rw [h1] at hb;cases hb
    | some u=>
     cases h2:ow.getD a' none with
     | none=>rw [h2] at hb';cases hb'
     | some u'=>
      rw [h1] at hb;rw [h2] at hb';cases hb;cases hb';exact hl
  ·exact .standIn
 ·exact .standIn
structure Lw (P:Yu) (w:Yv) (o:Obj) (ss:List Int):Prop where
 ex:o.ExactSet
 da:∃es ep t,o.data= .set es ep t/\ElemsOf (Zr P w) es.toList/\(∃ss',YK (es.toList.map (·.2)) ss'/\ss'.Perm ss)/\es.size < Zf/\t.fits es.size=true/\(fV w=true\/t.led=true)/\dR t
def cL(P:Yu)(w:Yv)(h:Yw)(a:Yl)(ss:List Int):Prop:=∃o,h.get? a=some o/\Lw P w o ss
theorem C9{k:Int}:∀{vs:List Yj}{ss:List Int},YK vs ss->((∃v∈vs,v.isInt k=true)↔k∈ss)
 | _,_,.nil=>by simp
 | _,_,.cons x t r=>by
  have ih:=C9 (k:=k) r;constructor
  ·rintro⟨v,hv,e⟩;rcases QX.mp hv with z | z
   ·subst z;obtain⟨u,e'⟩:=Xe e;cases e';exact RC
   ·exact Ri _ (ih.mp ⟨v,z,e⟩)
  ·intro hk;rcases QX.mp hk with z | z
   ·subst z;exact⟨_,RC,by simp [Xp]⟩
   ·obtain⟨v,hv,e⟩:=ih.mpr z;exact⟨v,Ri _ hv,e⟩
theorem sX{vs vs':List Yj}(p:vs'.Perm vs):∀{ss:List Int},YK vs ss->∃ss',YK vs' ss'/\ss'.Perm ss:=by
 induction p with
 | nil=>intro ss h;exact⟨ss,h,.refl _⟩
 | cons x p ih=>
  intro ss h;cases h with
  | cons y t r=>obtain⟨s1,a,b⟩:=ih r;exact⟨y::s1,.cons y t a,b.cons y⟩
 | swap x y l=>
  intro ss h;cases h with
  | cons a t r=>cases r with | cons b u r=>exact⟨b::a::_,.cons b u (.cons a t r),.swap _ _ _⟩
 | trans p q ih1 ih2=>
  intro ss h;obtain⟨s1,a,b⟩:=ih2 h;obtain⟨s2,c,d⟩:=ih1 a;exact⟨s2,c,d.trans b⟩
theorem Dc{x:Int}{t:Tok}:∀{vs:List Yj}{ss:List Int},YK vs ss->YK (vs++[.int x t]) (ss++[x])
 | _,_,.nil=>.cons x t .nil
 | _,_,.cons y u r=>.cons y u (Dc r)
theorem qO:∀{vs:List Yj}{ss:List Int},YK vs ss->vs.length=ss.length
 | _,_,.nil=>rfl
 | _,_,.cons y u r=>by simp [qO r]
def dS(ss:List Int)(x:Int):List Int:=if x∈ss then ss else ss++[x]
section
variable {P:Yu} {w:Yv} {A:Yz} {E:Yj->Ym->Prop} {s:Ym}
theorem cL.mk{h:Yw}{a:Yl}{o:Obj}{es es':Array (Int×Yj)}{ep:Nat}{t t':YY}{ss:List Int}(o1:h.get? a=some o)(x1:o.ExactSet)(d1:o.data= .set es ep t)
 (el:ElemsOf (Zr P w) es'.toList)(sp:∃ss',YK (es'.toList.map (·.2)) ss'/\ss'.Perm ss)(b1:es'.size < Zf)(f1:t'.fits es'.size=true)(l1:fV w=true\/t'.led=true)(p1:dR t'):
 (h.update a (We es' t')).get? a=some {o with data:= .set es' (ep+1) t'}/\cL P w (h.update a (We es' t')) a ss:=by
 have g:(h.update a (We es' t')).get? a=some {o with data:= .set es' (ep+1) t'}:=by
  have z:=SJ (We es' t') o1 (by rw [putSet_of es' t' d1];rfl);rw [putSet_of es' t' d1] at z;exact z
 exact⟨g,_,g,x1,es',ep+1,t',rfl,el,sp,b1,f1,l1,p1⟩
theorem Dd{g:Bool->Sem Unit}(hg:∀(b:Bool) (s₁:Ym) (Q':Unit->Ym->Prop),Q' () s₁->Yo (Yq P w) A (g b) Q' E s₁)
 {a:Yl}{o:Obj}{es:Array (Int×Yj)}{ep:Nat}{t:YY}(o1:s.heap.get? a=some o)(x1:o.ExactSet)(d1:o.data= .set es ep t)
 {es1:Array (Int×Yj)}{t2:YY}{ss:List Int}(el:ElemsOf (Zr P w) es1.toList)(sp:∃ss',YK (es1.toList.map (·.2)) ss'/\ss'.Perm ss)
 (b1:es1.size < Zf)(f2:t2.fits es1.size=true)(l2:fV w=true\/t2.led=true)(p2:dR t2){wd:Bool}{R:Option Bool->Ym->Prop}
 (h:∀h',Tp a s.heap h'->cL P w h' a ss->R (some true) {s with heap:=h'}):
 Yo (Yq P w) A (do
  storeSet a es1 t2
  if (!wd && t2.tooFull)=true then do
   g (Zy t2 es1 (T3 es1.size)).2.2
   storeSet a (Zy t2 es1 (T3 es1.size)).1 (Zy t2 es1 (T3 es1.size)).2.1
   pure (some true)
   else pure (some true)) R E s:=by
 refine Yk (wpAny_storeSet_of o1 d1 ?_ (fits_of_scanBound b1));obtain⟨o2,S2⟩:=cL.mk (P:=P) o1 x1 d1 el sp b1 f2 l2 p2;have sb:=RN s.heap a (We es1 t2);split
 ·have rp:=relayAll_perm t2 es1 (T3 es1.size);have rf:=relayAll_fits t2 es1 (T3 es1.size);have rl:=KO t2 es1 (T3 es1.size);have rq:=p2.relay es1 (T3 es1.size);generalize Zy t2 es1 (T3 es1.size)=Z at rp rf rl rq⊢;obtain⟨es2,t3,gv⟩:=Z;dsimp only at rp rf rl rq⊢;have sz:es2.size=es1.size:=by rw [<-Ru,rp.length_eq,Ru]
  obtain⟨ss',q1,q2⟩:=sp;obtain⟨ss2,q3,q4⟩:=sX (rp.map (·.2)) q1;refine Yk (hg _ _ _ (Yk (wpAny_storeSet_of o2 rfl ?_ (fits_of_scanBound (by rw [sz];exact b1)))));obtain⟨_,S3⟩:=cL.mk (P:=P) (w:=w) (t':=t3) o2 x1 rfl (el.perm rp) ⟨ss2,q3,q4.trans q2⟩ (by rw [sz];exact b1) rf (by rw [rl];exact l2) rq;exact Yn (h _ (sb.trans (RN _ a _)) S3)
 ·exact Yn (h _ sb S2)
theorem Lx{a:Yl}{ss:List Int}{x:Int}{tk:Tok}{Q:Bool->Ym->Prop}(hS:cL P w s.heap a ss)(hroom:ss.length+1 < Zf)
 (h:∀h' b,Tp a s.heap h'->cL P w h' a (dS ss x)->Q b {s with heap:=h'}):
 Yo (Yq P w) A (setAddHashed a (.int x tk) (hashInt x)) Q E s:=by
 obtain⟨o,o1,x1,es,ep,t,d1,el,⟨ss',s1,s2⟩,b1,f1,l1,p1⟩:=hS;have hk:(Zr P w).is x (.int x tk)=true:=intKind_is _ _ _ _;have hsc:(Tv x tk).scannable=true:=rfl;have ln:es.size=ss.length:=by rw [<-s2.length_eq,<-qO s1,QO,Ru]
 unfold setAddHashed setAddHashedIn;refine YN (Yk (Y7 o1 d1 f1 ?_));dsimp only;rw [byScan_of hsc b1 el,Yf rfl];unfold setAddByScan;refine Yk (Yk (ZJ (Yk (wpAny_setScan_of hk o1 d1 f1 el ?_))));have mem:(∃e∈es.toList,(Zr P w).is x e.2=true)↔x∈ss:=by
  rw [<-s2.mem_iff,<-C9 s1];constructor
  ·rintro⟨e,he,q⟩;exact⟨e.2,Q5.mpr ⟨e,he,rfl⟩,q⟩
  ·rintro⟨v,hv,q⟩;obtain⟨e,he,rfl⟩:=Q5.mp hv;exact⟨e,he,q⟩
 cases hr:List.findIdx? (λe=>(Zr P w).is x e.2) es.toList with
 | some j=>
  obtain⟨hj,hp,_⟩:=List.findIdx?_eq_some_iff_getElem.mp hr;have hx:x∈ss:=mem.mp ⟨_,S8 hj,hp⟩;refine Yn (Yn ?_);have z:=h s.heap false (Tp.refl a s.heap) (by unfold dS;rw [Yf hx];exact⟨o,o1,x1,es,ep,t,d1,el,⟨ss',s1,s2⟩,b1,f1,l1,p1⟩);have e:s={s with heap:=s.heap}:=by cases s;rfl
  rw [e];exact z
 | none=>
  dsimp only;have hx:x ∉ ss:=λz=>by
   obtain⟨e,he,q⟩:=mem.mpr z;have:=List.findIdx?_eq_none_iff.mp hr e he;rw [q] at this;cases this
  have eS:dS ss x=ss++[x]:=Ye hx;rw [eS] at h;have lp:=layNew_perm t es (hashInt x) (.int x tk);have lf:=layNew_fits t es (hashInt x) (.int x tk);have ll:=KN t es (hashInt x) (.int x tk);have lt:=p1.layNew es (hashInt x) (.int x tk);generalize layNew t es (hashInt x) (.int x tk)=L at lp lf ll lt⊢;obtain⟨es1,t1,wd,gv⟩:=L;dsimp only at lp lf ll lt⊢;rw [Xi] at lp;have el1:ElemsOf (Zr P w) es1.toList:=(el.push hk hsc).perm lp;have sp1:∃ss',YK (es1.toList.map (·.2)) ss'/\ss'.Perm (ss++[x]):=by
   have s3:YK ((es.toList++[(hashInt x,Tv x tk)]).map (·.2)) (ss'++[x]):=by
    rw [Rf];exact Dc s1
   obtain⟨s4,q1,q2⟩:=sX (lp.map (·.2)) s3;exact⟨s4,q1,q2.trans (s2.append_right _)⟩
  have n1:es1.size=es.size+1:=by rw [<-Ru,lp.length_eq];simp
  have b2:es1.size < Zf:=Yd
  have l2:fV w=true\/t1.led=true:=by rw [ll];exact l1
  have gw:∀(b:Bool)(s₁:Ym)(Q':Unit->Ym->Prop),Q' () s₁->Yo (Yq P w) A (match b with | true=>rule "set.scan.the-table-gave-way" | false=>pure ()) Q' E s₁:=
   λb s₁ Q' z=>by cases b <;> first | exact Yn z | exact ZJ z
  refine Yk (gw _ _ _ ?_);split
  ·refine Yk ?_;rw [hashByValue_scannable 8 hsc];refine Yn ?_;rw [Yf (show plainKind (Tv x tk)=true from rfl)];exact Dd gw o1 x1 d1 el1 sp1 b2 lf l2 lt λh' sb S'=>Yn (h h' true sb S')
  ·refine Yk (Yn ?_);rw [Yf rfl];exact Dd gw o1 x1 d1 el1 sp1 b2 lf l2 lt λh' sb S'=>Yn (h h' true sb S')
end
def kZ(val:Nat->Int)(i:Nat):List Int:=((SE i).map val).foldl dS []
theorem Df(val:Nat->Int)(i:Nat):kZ val (i+1)=dS (kZ val i) (val i):=by
 unfold kZ;rw [WB,Rf,Uj];rfl
theorem Dg(val:Nat->Int):∀i,(kZ val i).length<=i
 | 0=>QQ _
 | i+1=>by
  have ih:=Dg val i;rw [Df];unfold dS;split
  ·omega
  ·simp;omega
theorem Ly{ss:List Int}{x:Int}(h:ss.Nodup):(dS ss x).Nodup:=by
 unfold dS;split
 ·exact h
 ·rename_i hx;refine V8.mpr ⟨h,Yh,λa ha b hb=>?_⟩;rw [Ra] at hb;subst hb;intro e;subst e;exact hx ha
theorem Lz{ss:List Int}{x y:Int}:y∈dS ss x↔y∈ss\/y=x:=by
 unfold dS;split
 ·rename_i hx;exact⟨.inl,λz=>z.elim id λe=>by subst e;exact hx⟩
 ·simp
theorem vX{y:Int}:∀{l ss:List Int},y∈l.foldl dS ss↔y∈ss\/y∈l
 | [],ss=>by simp
 | a::l,ss=>by rw [RP,vX,Lz,QX];exact or_assoc
theorem vY:∀{l ss:List Int},ss.Nodup->(l.foldl dS ss).Nodup
 | [],_,h=>h
 | a::l,_,h=>by rw [RP];exact vY (Ly h)
theorem cL.stay{P:Yu}{w:Yv}{h h':Yw}{a:Yl}{ss:List Int}(x:cL P w h a ss)(k:∀o,h.get? a=some o->h'.get? a=some o):cL P w h' a ss:=
 let ⟨o,e,r⟩:=x;⟨o,k o e,r⟩
section
variable {P:Yu} {w:Yv} {A:Yz} {R:Result->Ym->Prop} {I:Yl} {fp wr:List Yl} {G:Array ZW->Array ZW->Prop} {n:Nat} {Pv:Nat->Yj->Prop} {St:Nat->Ym->Prop}
theorem LA(W:WalksS P w A.in1 I fp wr G n Pv St)(S:Yl)(hSf:S ∉ fp)(val:Nat->Int)(hval:∀i v,Pv i v->∃t,v= .int (val i) t)(hb:n+1 < Zf):
 ∀(k i:Nat)(s:Ym),n - i=k->i<=n->St i s->cL P w s.heap S (kZ val i)->
  (∀s',Moved (S::wr) G s s'->cL P w s'.heap S (kZ val n)->R (.ok (.ret .none)) s')->Zc (Yq P w) A (.builtin "set.update.loop" ⟨[.ref S,.ref I],[]⟩) R s:=by
 have sw:S ∉ wr:=λz=>hSf (W.sub _ z);have sub:∀b∈wr,b∈S::wr:=λb z=>Ri _ z;intro k
 induction k with
 | zero=>
  intro i s e1 e2 st hS q;obtain rfl:i=n:=Yd
  refine Ze Vf ?_;rw [Ul T7 _];show Yo _ A.in1 (Zd (.ref I) >>=_) _ _ s;exact Yk (W.done s _ _ st λs' m=>Yn (q s' (m.mono sub) (hS.stay λo e=>m.heap S o sw e)))
 | succ k ih=>
  intro i s e1 e2 st hS q;have lt:i < n:=Yd
  refine Ze Vf ?_;rw [Ul T7 _];show Yo _ A.in1 (Zd (.ref I) >>=_) _ _ s;refine Yk (W.item i s _ _ lt st λv s' hP st' m=>?_);obtain⟨t,rfl⟩:=hval i v hP;have hS':=hS.stay (h':=s'.heap) λo e=>m.heap S o sw e;show Yo _ A.in1 (Zs [Tv (val i) t] (setAdd S (.int (val i) t)) >>=_) _ _ s';refine Yk (YN ?_);unfold setAdd;refine YN (Yk ((Zr P w).pyHash (k:=val i) (intKind_is _ _ _ _) ?_));have rm:(kZ val i).length+1 < Zf:=by have:=Dg val i;omega
  refine Lx (s:={s' with toks:=s'.toks+1}) hS' rm λh' b sb S2=>?_;rw [<-Df] at S2;refine Yn ⟨Zx T7 _,ih (i+1) _ Yd lt (W.frame _ s' _ _ st' (Sg _) λb hb o e=>?_) S2 λs2 m2 S3=>?_⟩
  ·rw [sb.2 b (λz:b=S=>hSf (by rw [<-z];exact hb))];exact e
  ·refine q s2 (Moved.trans W.gtrans ((m.mono sub).then_heap (Sg _) λb o hb e=>?_) m2) S3;rw [sb.2 b (λz:b=S=>hb (by rw [z];exact RC))];exact e
end
section
variable {P:Yu} {w:Yv} {A:Yz} {E:Yj->Ym->Prop} {s:Ym}
theorem cL.fresh{h:Yw}{a:Yl}(e:h.get? a=some {cls:= .type "set",dict:=none,data:= .set #[] 0 (.fresh 0 0 (!fV w))}):cL P w h a []:=by
 refine⟨_,e,⟨rfl,rfl,rfl⟩,#[],0,_,rfl,λe he=>by simp at he,⟨[],.nil,.refl _⟩,Yc,rfl,?_,dR.fresh⟩;cases hb:fV w with
 | true=>exact .inl rfl
 | false=>exact .inr rfl
theorem LB{l:Yl}{items:Array Yj}{ss:List Int}{Q:Yj->Ym->Prop}
 (hh:A.handled=none)(hl:s.heap.IsList l items)(hi:YK items.toList ss)(hb:items.size+1 < Zf)
 (h:∀(h':Yw) (tk:Nat),cL P w h' s.heap.objs.size (ss.foldl dS [])->(∀b o,s.heap.get? b=some o->h'.get? b=some o)->Q (.ref s.heap.objs.size) {s with heap:=h',toks:=tk}):
 Yo (Yq P w) A (call (.type "set") [.ref l]) Q E s:=by
 obtain⟨c,tl,hmro⟩:=PySem.F.called_set.mro;have hmade:=PySem.F.called_set.made;have hsub:=PySem.F.called_set.sub;refine wpAny_call (codeAny_of_tree ?_);show Yo _ _ (callAny (.type "set") _) _ _ _;refine Yn ⟨Code.quiet_builtin _ Yb,Ze PySem.F.entry_type_call ?_⟩;rw [Around.under_plain (weight_type_call_type "set" [.ref l] []) rfl];have h1:=PySem.F.called_set.notType;have h2:=PySem.F.called_set.canCreate;have hct:=PySem.F.typeCall_set_1 (.ref l)
 repeat (any_goals (first | assumption | wp_step))
 generalize hob:({cls:= .type "set",dict:=none,data:= .set #[] 0 (.fresh 0 0 (!fV w))}:Obj)=ob;refine Y9 (KP (P:=P) (w:=w) (.ref l) (E:=E) (Q₁:=λu s₁=>u= .ref s.heap.objs.size/\s₁={s with heap:=s.heap.push ob}) (by subst hob;exact⟨rfl,rfl⟩)) λr s₁ hr=>?_;cases r with
 | error e=>exact hr
 | ok fl=>
  cases fl with
  | ret u=>
   obtain⟨rfl,rfl⟩:=hr;have hS:(s.heap.push ob).get? s.heap.objs.size=some ob:=Rb _ (by subst hob;rfl);have hT:Shared.TypeIs {s with heap:=s.heap.push ob} (.ref s.heap.objs.size) "set":=⟨_,hS,by subst hob;rfl⟩;have hli:=PySem.F.called_set.init.lookup;have hbi:=PySem.F.called_set.init.bind (.ref s.heap.objs.size)
   repeat (any_goals (first | assumption | wp_step))
   refine Y9 (codeAny_call_builtin (R:=wants (λr s₂=>r= .none/\∃h' tk,s₂={s with heap:=h',toks:=tk}/\cL P w h' s.heap.objs.size (ss.foldl dS [])/\∀b o,s.heap.get? b=some o->h'.get? b=some o) E)
    PySem.F.called_set.init.plain PySem.F.entry_set_init (check_set_init_1 hT ?_)) λr₂ s₂ hr₂=>?_
   ·obtain⟨ol,o1,c1,nl,d1⟩:=hl;obtain⟨oc,od,oda,osl⟩:=ol;simp only at c1 d1;subst c1;subst d1;have o2:(s.heap.push ob).get? l=some {cls:= .type "list",dict:=od,data:= .seq items nl,slots:=osl}:=QS _ o1;have q1:=PySem.F.sub_list_set;have q2:=PySem.F.sub_list_frozenset;have q3:(UD "list"==UD "dict")=false:=Yc
    have l1:(s.heap.push ob).IsList l items:=⟨_,o2,rfl,nl,rfl⟩;subst hob;unfold Builtin.«set.__init__» noKeywords Builtin.Frozenset.updateFrom;generalize hPI:pyIter=PI
    wp_walk
    subst hPI;refine ZT l1 ?_;refine Yk (wpAny_runValue ?_);have ll:l < s.heap.objs.size:=Q7 o1;have sz:∀ob:Obj,(s.heap.push ob).objs.size=s.heap.objs.size+1:=λ_=>Tw _ _;have n1:∀ob:Obj,l≠(s.heap.push ob).objs.size:=λ_=>by rw [sz];exact Rz (Sk ll)
    have n2:∀ob:Obj,s.heap.objs.size ∉ [(s.heap.push ob).objs.size,l]:=λ_=>by
     rw [sz];simp only [QX,Rh,or_false,not_or];exact⟨Rz (SR _),TK ll⟩
    have hv:∀(i:Nat)(v:Yj),items[i]?=some v->∃t,v= .int ((λi:Nat=>(ss[i]?).getD 0) i) t:=λi v e=>by
     rw [<-Vx] at e;have:∀{vs:List Yj}{ss:List Int},YK vs ss->∀(i:Nat)(v:Yj),vs[i]?=some v->∃t,v= .int ((ss[i]?).getD 0) t:=by
      intro vs ss x
      induction x with
      | nil=>intro i v e;simp at e
      | cons y t r ih=>
       intro i v e;cases i with
       | zero=>simp at e;exact⟨t,by rw [<-e];rfl⟩
       | succ i=>simp only [RQ] at e⊢;exact ih i v e
     exact this hi i v e
    have hm:kZ (λi=>(ss[i]?).getD 0) items.size=ss.foldl dS []:=by
     have e:items.size=ss.length:=by rw [<-qO hi,Ru]
     unfold kZ;rw [e];congr 1;apply Uv Yh;intro i a b;simp at a b⊢;rw [Rv Yd];rfl
    refine LA (X9 (show A.in1.in1.in1.handled=none by simp [hh]) _ l (n1 _) items).toS s.heap.objs.size (n2 _) _ hv hb (items.size - 0) 0 _ Yd (RD _)
     ⟨⟨_,Rb _ rfl,rfl,rfl⟩,l1.push _⟩ ?hS0 ?hR
    case hS0=>
     exact cL.fresh (QS _ hS)
    case hR=>
     intro s' m S';rw [hm] at S';obtain⟨h',g',d',tk',os'⟩:=s';obtain rfl:g'=s.gens:=m.gens;obtain rfl:d'=s.drawn:=m.drawn;obtain rfl:os'=s.os:=m.os;show Yo _ _ _ _ _ _;refine Yn (Yn ⟨rfl,h',tk',rfl,S',λb o e=>?_⟩);have hb1:b < s.heap.objs.size:=Q7 e;refine m.heap b o ?_ (QS _ (QS _ e));rw [sz];simp only [QX,Rh,or_false,not_or];exact⟨Rz hb1,Rz (Sk hb1)⟩
   ·cases r₂ with
    | error e=>exact hr₂
    | ok fl₂=>
     cases fl₂ with
     | ret r=>
      obtain⟨rfl,h',tk,rfl,S',k'⟩:=hr₂
      repeat (any_goals (first | assumption | wp_step))
      exact h _ _ S' k'
     | _=>exact hr₂.elim
  | _=>exact hr.elim
end
section
variable {P:Yu} {w:Yv} {A:Yz} {E:Yj->Ym->Prop} {s:Ym} {a:Yl} {o:Obj} {es:Array (Int×Yj)} {ep:Nat} {t:YY}
theorem Dh{slot i:Nat}{Q:Option (Yj×Nat)->Ym->Prop}(hb:fV w=false)(o1:s.heap.get? a=some o)(d1:o.data= .set es ep t)(f1:t.fits es.size=true)(hd:(!t.plain && decide (es.size > 1))=false)(hl:t.led=true)
 (h:Q (match es[Sz t.place slot]?,t.place[Sz t.place slot]? with | some (_,x),some j=>some (x,j+1) | _,_=>none) s):Yo (Yq P w) A (Zu a slot i ep) Q E s:=by
 unfold Zu setsByText;refine Yk (Y7 o1 d1 f1 (Yk (Yk (Za (Yn ?_)))));rw [Ye (show ¬(Yq P w).w.params.followText "set-order"=true from by show ¬fV w=true;rw [hb];decide)];show Yo _ _ (if (!t.plain && decide (es.size > 1))=true then _ else _) _ _ _;rw [Ye (by rw [hd];decide)];refine Yk (m:=if (!t.led && !es.isEmpty)=true then unsupported "set:maker-not-led" else pure ()) ?_;rw [Ye (by simp [hl])];exact Yn (Yn h)
theorem LC{ss:List Int}{Q:Yj->Ym->Prop}(hh:A.handled=none)(hS:cL P w s.heap a ss)
 (q:∀(I:Yl) (h1:Yw) (d1:Drawn) (vs:List Yj) (fp wr:List Yl) (n:Nat) (St:Nat->Yw->Prop),(∀b u,s.heap.get? b=some u->h1.get? b=some u)->(∃ss',YK vs ss'/\ss'.Perm ss)->n=ss.length->
  Walks P w A I fp wr n (λi v=>vs[i]?=some v) St->St 0 h1->(∀b∈fp,b=a\/s.heap.objs.size<=b)->(∀b∈wr,s.heap.objs.size<=b)->vs.length=n->(∀b∈fp,b < h1.objs.size)->Q (.ref I) {s with heap:=h1,drawn:=d1}):
 Yo (Yq P w) A (pyIter (.ref a)) Q E s:=by
 obtain⟨o,o1,x1,es,ep,t,d1,el,⟨ss',s1,s2⟩,b1,f1,l1,p1⟩:=hS;have hT:s.TypeIs (.ref a) "set":=⟨o,o1,x1.1⟩;have la:a < s.heap.objs.size:=Q7 o1;have ln:es.size=ss.length:=by rw [<-s2.length_eq,<-qO s1,QO,Ru]
 refine wpAny_pyIter_slot hT WL (YG WL hT KQ ?_ (PySem.F.args_set_iter_1 _));unfold Builtin.«frozenset.__iter__»;refine Yk (m:=Builtin.Frozenset.slot0 _ _) (Yn ?_);refine Yk (m:=Builtin.Frozenset.sizeOf a) (Yk (Zb o1 d1 f1 (Yn ?_)));refine Yk (m:=setDrawn a) ?_;unfold setDrawn setsByText;refine Yk (Y7 o1 d1 f1 (Yk (Yk (Za (Yn (Yn ?_))))));show Yo _ _ (if (!(fV w) && (!t.plain && decide (es.size > 1)))=true then _ else _) _ _ _;have lastly:∀(f:Yj)(h1:Yw)(d:Drawn),h1.get? a=some o->(∀I h2,h2=h1.push {cls:= .type "set_iterator",data:= .fields #[f,.int (0:Nat) 0,.ref a,.int es.size 0,.int ep 0]}->I=h1.objs.size->Q (.ref I) {s with heap:=h2,drawn:=d})->
  Yo (Yq P w) A.in1 (setEpoch a >>=λe=>newFields "set_iterator" [f,Y1 0,.ref a,Y1 es.size,Y1 e] >>=λv=>ret v)
   (λfin s'=>∃v,fin= .done (.ret v)/\∃T' r,s'.TypeIs v T'/\typeLookup (.type T') "__next__"=pure (some r)/\Q v s') E {s with heap:=h1,drawn:=d}:=by
  intro f h1 d e1 k;refine Yk (wpAny_setEpoch_of (s:={s with heap:=h1,drawn:=d}) e1 d1 f1 ?_);refine Yk (YE (Yn ?_));exact⟨_,rfl,"set_iterator",_,⟨_,Rb _ rfl,rfl⟩,jo.lookup,k _ _ rfl rfl⟩
 have szp:∀(h:Yw)(ob:Obj),(h.push ob).objs.size=h.objs.size+1:=λ_ _=>Tw _ _;have n0:a≠s.heap.objs.size:=Rz la;by_cases hdr:(!(fV w) && (!t.plain && decide (es.size > 1)))=true
 ·rw [Yf hdr];refine Yk (CF es.size (SE es.size) s _ Yh λks d hp=>Yk (m:=newTuple _) (YE ?_ ?_))
  ·have lk:ks.length=es.size:=by rw [hp.length_eq,UP]
   refine lastly _ (s.heap.push _) d (QS _ o1) λI h2 e2 eI=>?_;subst e2 eI;have k1:a≠(s.heap.push {cls:= .type "tuple",data:= .seq (ks.map λ(i:Nat)=>Y1 i).toArray}).objs.size:=by rw [szp];exact Rz (Sk la)
   have k2:s.heap.objs.size≠(s.heap.push {cls:= .type "tuple",data:= .seq (ks.map λ(i:Nat)=>Y1 i).toArray}).objs.size:=by rw [szp];exact Rz (SR _)
   have pm:(ks.map λk=>((es[k]?).map (·.2)).getD .none).Perm (es.toList.map (·.2)):=by
    refine(hp.map _).trans (.of_eq ?_);apply Uv Yh;intro i a b;simp at a b⊢;rw [Uo a];rfl
   obtain⟨ss2,q3,q4⟩:=sX pm s1;refine q _ _ d _ _ _ es.size _ (λb u e=>QS _ (QS _ e)) ⟨ss2,q3,q4.trans s2⟩ ln
    (K1 hh _ _ k1 k2 d1 f1 _ ks rfl lk (λi k e=>?_)) ⟨⟨_,Rb _ rfl,rfl,rfl⟩,QS _ (QS _ o1),QS _ (Rb _ rfl)⟩ (λb hb=>?_) (λb hb=>?_) (by simp [lk]) (λb hb=>?_)
   ·have hk:k < es.size:=by
     have:=hp.mem_iff.mp (Rm e);simpa using this
    refine⟨es[k].1,es[k].2,by simp [hk],?_⟩;rw [Q1,e];simp [hk]
   ·simp only [QX,Rh,or_false] at hb;rcases hb with rfl | rfl | rfl
    ·right;rw [szp];exact Sg _
    ·left;rfl
    ·right;exact QQ _
   ·rw [Ra] at hb;rw [hb,szp];exact Sg _
   ·simp only [QX,Rh,or_false] at hb;rw [szp,szp];rcases hb with rfl | rfl | rfl
    ·rw [szp];exact SR _
    ·exact Sk (Sk la)
    ·exact Sk (SR _)
  ·unfold sizeOk;simp [hp.length_eq];have:Zf=4096:=rfl;have:Yt=16777216:=by first | rfl | exact YM
   omega
 ·rw [Ye hdr];refine Yk (Yn ?_);have e0:s={s with heap:=s.heap,drawn:=s.drawn}:=by cases s;rfl
  show Yo _ _ _ _ _ {s with heap:=s.heap,drawn:=s.drawn};refine lastly _ s.heap s.drawn o1 λI h2 e2 eI=>?_;subst e2 eI;have fpa:∀b∈[s.heap.objs.size,a],b=a\/s.heap.objs.size<=b:=λb hb=>by
   simp only [QX,Rh,or_false] at hb;rcases hb with rfl | rfl
   ·right;exact QQ _
   ·left;rfl
  have wra:∀b∈[s.heap.objs.size],s.heap.objs.size<=b:=λb hb=>by rw [Ra] at hb;rw [hb];exact QQ _
  have fpl:∀(ob:Obj),∀b∈[s.heap.objs.size,a],b < (s.heap.push ob).objs.size:=λob b hb=>by
   rw [szp];simp only [QX,Rh,or_false] at hb;rcases hb with rfl | rfl
   ·exact SR _
   ·exact Sk la
  cases hb:fV w with
  | true=>
   have pm:=KR (w.params.setOrder a ep) es;obtain⟨ss2,q3,q4⟩:=sX (pm.map (·.2)) s1;have lp:((ZR (w.params.setOrder a ep) es).toList.map (·.2)).length=es.size:=by rw [QO,pm.length_eq,Ru]
   refine q _ _ s.drawn _ _ _ es.size _ (λb u e=>QS _ e) ⟨ss2,q3,q4.trans s2⟩ ln
    (CJ hh _ n0 d1 f1 _ lp (λ_=>0) (λs i hi E' Q' g z=>CG hb g d1 f1 ?_) (λs E' Q' g z=>CG hb g d1 f1 ?_)) ⟨⟨_,Rb _ rfl,rfl,rfl⟩,QS _ o1⟩ fpa wra lp (fpl _)
   ·have hi':i < (ZR (w.params.setOrder a ep) es).size:=by rw [<-Ru,<-QO (f:=(·.2))];exact hi
    rw [Uo hi'];simpa using z
   ·have:(ZR (w.params.setOrder a ep) es).size=es.size:=by rw [<-Ru,pm.length_eq,Ru]
    rw [WG Yd];exact z
  | false=>
   have hled:t.led=true:=by
    rcases l1 with l1 | l1
    ·rw [hb] at l1;cases l1
    ·exact l1
   have hcd:(!t.plain && decide (es.size > 1))=false:=by
    cases hx:(!t.plain && decide (es.size > 1)) with
    | false=>rfl
    | true=>exfalso;apply hdr;rw [hb,hx];rfl
   have hpl:t.place.size=es.size:=by
    simp only [SetTable.fits,RW,beq_iff_eq] at f1;exact f1.1
   have lp:(es.toList.map (·.2)).length=es.size:=by rw [QO,Ru]
   have bel:∀i,i<=es.size->Sz t.place (if i=0 then 0 else t.place.getD (i - 1) 0+1)=i:=λi hi=>by
    by_cases h0:i=0
    ·rw [Yf h0,Lr p1.ris,h0]
    ·rw [Ye h0];have hlt:i - 1 < t.place.size:=Yd
     have eg:t.place.getD (i - 1) 0=t.place[i - 1]:=by simp [Um,hlt]
     rw [eg,Lq p1.ris hlt];omega
   refine q _ _ s.drawn _ _ _ es.size _ (λb u e=>QS _ e) ⟨ss',s1,s2⟩ ln
    (CJ hh _ n0 d1 f1 _ lp (λi=>if i=0 then 0 else t.place.getD (i - 1) 0+1) (λs i hi E' Q' g z=>Dh hb g d1 f1 hcd hled ?_) (λs E' Q' g z=>Dh hb g d1 f1 hcd hled ?_)) ⟨⟨_,Rb _ rfl,rfl,rfl⟩,QS _ o1⟩ fpa wra lp (fpl _)
   ·have hi':i < es.size:=by rw [<-lp];exact hi
    rw [bel i Yd];have h1:es[i]?=some es[i]:=by simp [hi']
    have h2:t.place[i]?=some (t.place[i]'Yd):=by simp [show i < t.place.size by omega]
    rw [h1,h2];have eg:t.place.getD (i+1 - 1) 0=t.place[i]'Yd:=by simp [Um,show i < t.place.size by omega]
    rw [Ye Yd,eg] at z;simpa using z
   ·rw [bel es.size (QQ _)];rw [WG Yd];exact z
end
section
variable {P:Yu} {w:Yv} {A:Yz} {E:Yj->Ym->Prop} {s:Ym} {a:Yl}
theorem LD{ss:List Int}{R:Result->Ym->Prop}(hh:A.handled=none)(hS:cL P w s.heap a ss)(S:Yl)(hSa:S≠a)(res:Yj)(c₀:Nat)(l1:s.heap.get? S=some {cls:= .type "list",data:= .seq #[] c₀})(hn:ss.length<=4096)
 (hR:∀h' tk d acc c',(∀b u,b≠S->s.heap.get? b=some u->h'.get? b=some u)->h'.get? S=some {cls:= .type "list",dict:=none,data:= .seq acc c',slots:=#[]}->(∃ss',YK acc.toList ss'/\ss'.Perm ss)->R (.ok (.ret res)) {s with heap:=h',toks:=tk,drawn:=d}):
 Yo (Yq P w) A.in1 (VP (.ref S) (.ref a) res)
  (λfin s'=>match fin with | .done f=>R (.ok f) s' | .again c'=>c'.quiet=true/\Zc (Yq P w) A c' R s') (λe s'=>R (.error e) s') s:=by
 obtain⟨o,o1,x1,rest⟩:=id hS;have hT:s.TypeIs (.ref a) "set":=⟨o,o1,x1.1⟩;have lS:S < s.heap.objs.size:=Q7 l1;unfold VP;refine Yk (ZH hT ?_);have e1:Wn (.ref S) (.ref a)=false:=by simp [Wn,hSa]
 have e2:(UD "set"==UD "list")=false:=Yc
 have e3:(UD "set"==UD "tuple")=false:=Yc
 simp only [e1,e2,e3,Tf,R6,if_false];refine Yk (LC (A:=A.in1) hh hS λI h1 d1 vs fp wr n St k1 sv en W st hf hw hlv hfl=>?_);have nf:S ∉ fp:=λz=>by
  rcases hf S z with e | e
  ·exact hSa e
  ·exact absurd lS (Nat.not_lt.mpr e)
 have key:∀(h:Yw)(c₁ tk:Nat),St 0 h->(∀b u,b≠S->s.heap.get? b=some u->h.get? b=some u)->
  h.get? S=some {cls:= .type "list",data:= .seq #[] c₁}->Zc (Yq P w) A (.builtin "list.extend.loop" ⟨[.ref S,.ref I,res],[]⟩) R {s with heap:=h,toks:=tk,drawn:=d1}:=by
  intro h c₁ tk hst hk g;refine codeAny_extend_loopS W.toS (Rj (by omega:n<=4096) Yc) S nf res n 0 _ #[] c₁ rfl (RD _) hst g (ItemsOf.nil _) λs' acc c' m gq hacc=>?_;obtain⟨h',g',d',tk',os'⟩:=s';obtain rfl:g'=s.gens:=m.gens;obtain rfl:d'=d1:=m.drawn;obtain rfl:os'=s.os:=m.os;refine hR h' tk' d' acc c' (λb u hb e=>m.heap b u (λz=>?_) (hk b u hb e)) gq ?_
  ·rcases QX.mp z with e' | z
   ·exact hb e'
   ·exact absurd (Q7 e) (Nat.not_lt.mpr (hw b z))
  ·have ea:acc.toList=vs:=by
    apply List.ext_getElem?;intro i;rcases S7 i n with z | z
    ·have hz:i < acc.size:=by rw [hacc.1];exact z
     have:acc[i]?=some acc[i]:=Uo hz;rw [Vx,this,hacc.2 i _ this]
    ·rw [Sv (by rw [Ru,hacc.1];exact z),Sv Yd]
   rw [ea];exact sv
 have g1:=k1 S _ l1;refine Yk (YN (K2 (s:={s with heap:=h1,drawn:=d1}) ⟨o,k1 a o o1,x1.1⟩ ?_));refine ZK (λ_=>?_) (λ_=>Yn ⟨Zx Wf _,key _ c₀ _ st (λb u _ e=>k1 b u e) g1⟩);refine Yk (ZJ (Yk ?_));show Yo _ _ (updateSeq S (·.push .none) >>=λ_=>updateSeq S (·.pop)) _ _ {s with heap:=h1,drawn:=d1};refine Yk (wpAny_updateSeq g1 rfl ?_);have g2:=SJ (Sd (·.push SH)) g1 rfl;refine wpAny_updateSeq (hz:=by seq_fits) g2 rfl ?_;have g3:=SJ (Sd (·.pop)) g2 rfl;refine Yn ⟨Zx Wf _,key _ _ _ (W.frame 0 _ _ st λb hb u e=>?_) (λb u hb e=>?_) g3⟩
 ·have hbS:b≠S:=λz=>nf (z▸hb);exact(T5 _ _ (Ne.symm hbS)).trans ((T5 _ _ (Ne.symm hbS)).trans e)
 ·exact(T5 _ _ (Ne.symm hb)).trans ((T5 _ _ (Ne.symm hb)).trans (k1 b u e))
theorem LF{ss:List Int}{R:List Yj->Ym->Prop}(hh:A.handled=none)(hS:cL P w s.heap a ss)(hn:ss.length<=4096)
 (h:∀(h':Yw) (tk:Nat) (d:Drawn) (vs:List Yj),(∀b u,s.heap.get? b=some u->h'.get? b=some u)->(∃ss',YK vs ss'/\ss'.Perm ss)->R vs {s with heap:=h',toks:=tk,drawn:=d}):
 Yo (Yq P w) A (collect (.ref a)) R E s:=by
 have la:a < s.heap.objs.size:=by obtain⟨o,o1,_⟩:=id hS;exact Q7 o1
 unfold collect;refine Yk (wpAny_runValue (Ze entry_proto_collect' ?_));rw [Ul PySem.F.plain_proto_collect _];refine Yk (m:=newList []) (YE ?_);refine Yn ⟨Zx Ww _,Ze entry_list_iadd' ?_⟩;rw [Ul Ww _];have g1:(s.heap.push {cls:= .type "list",data:= .seq ([]:List Yj).toArray}).get? s.heap.objs.size=some {cls:= .type "list",data:= .seq #[]}:=Rb _ rfl;have key:=LD (A:=A) (s:={s with heap:=s.heap.push {cls:= .type "list",data:= .seq ([]:List Yj).toArray}})
  (R:=λ(q:Result) (s':Ym)=>∃(h':Yw)(tk:Nat)(d:Drawn)(acc:Array Yj)(c':Nat),q= .ok (.ret (.ref s.heap.objs.size))/\s'={s with heap:=h',toks:=tk,drawn:=d}/\
   (∀b u,s.heap.get? b=some u->h'.get? b=some u)/\h'.get? s.heap.objs.size=some {cls:= .type "list",dict:=none,data:= .seq acc c',slots:=#[]}/\(∃ss',YK acc.toList ss'/\ss'.Perm ss))
  hh (hS.stay λu e=>QS _ e) s.heap.objs.size (TK la) (.ref s.heap.objs.size) 0 g1 hn
  (λh' tk d acc c' hk g' hacc=>⟨h',tk,d,acc,c',rfl,rfl,λb u e=>hk b u (Rz (Q7 e)) (QS _ e),g',hacc⟩)
 refine YJ key (λfin s' x=>?_) λe s' x=>?_
 ·cases fin with
  | done f=>
   obtain⟨h',tk,d,acc,c',e,rfl,hk,g',hacc⟩:=x;cases e;exact Yk (m:=load s.heap.objs.size) (wpAny_load g' (Yn (h h' tk d acc.toList hk hacc)))
  | again c₁=>
   refine⟨x.1,Y9 x.2 λq s₂ y=>?_⟩;obtain⟨h',tk,d,acc,c',rfl,rfl,hk,g',hacc⟩:=y;exact Yk (m:=load s.heap.objs.size) (wpAny_load g' (Yn (h h' tk d acc.toList hk hacc)))
 ·obtain⟨_,_,_,_,_,e',_⟩:=x;cases e'
theorem LG{ss:List Int}{Q:Yj->Ym->Prop}(hh:A.handled=none)(hS:cL P w s.heap a ss)(hn:ss.length < 64)
 (h:∀(h' h2:Yw) (tk:Nat) (d:Drawn) (out:Array Yj) (e:Nat) (ss':List Int),(∀b o,s.heap.get? b=some o->h'.get? b=some o)->(∀b o,h'.get? b=some o->h2.get? b=some o)->h2.get? h'.objs.size=some (YB "list" out e)->YK out.toList ss'->ss'.Perm ss->ss'.Pairwise (·<=·)->Q (.ref h'.objs.size) {s with heap:=h2,toks:=tk,drawn:=d}):
 Yo (Yq P w) A (call (.builtin "sorted") [.ref a]) Q E s:=by
 refine U6 kind_sorted plain_sorted entry_sorted (args_sorted1 _) ?_;unfold Builtin.«sorted»;refine Yk (m:=checkCount "sorted" 1 1 _) (Yn ?_);refine Yk (LF (A:=A.in1) hh hS Yd λh' tk d vs hk ⟨s1,sv,sp⟩=>?_);have hl:vs.length=ss.length:=by rw [qO sv,sp.length_eq]
 refine Yk (Zk ?_);have hoL:(h'.push (YB "list" vs.toArray 0)).get? h'.objs.size=some (YB "list" vs.toArray 0):=Rb _ rfl;refine Yk (YN (YG ZM ⟨_,hoL,rfl⟩ ZL (list_sort_tree (s:={s with heap:=h'.push (YB "list" vs.toArray 0),toks:=tk,drawn:=d}) hoL sv Yd λout ss' h1 h2 h3=>?_) (args_list_sort _)));obtain⟨e,he⟩:=sortedHeap_at (n:=0) (vs:=vs) (out:=out) hoL;refine⟨_,rfl,Yn ⟨_,rfl,h h' _ tk d _ e ss' hk (λb o q=>?_) he h1 (h2.trans sp) h3⟩⟩;have hlt:b < h'.objs.size:=Q7 q;rw [sortedHeap_old (Rz hlt) (by rw [size_push'];exact Sk hlt),Xg _ _ _ (Rz hlt)];exact q
end
def vZ(P:Yu)(w:Yv)(a:Yl)(ss:List Int):HO:= .ext λh=>cL P w h a ss
theorem Di:∀{vs:List Yj}{ss:List Int},YK vs ss->aI (ss.map V.int) vs
 | _,_,.nil=>.nil
 | _,_,.cons y t r=>.cons ⟨t,rfl⟩ (Di r)
theorem LH{X:Cx}:d7 X (.type "set") (λxs H Q=>X.calm=true/\∃(p:Yl)(ss:List Int),xs=[.ref p]/\bo X.K H p (ss.map V.int)/\ss.length < 4000/\∀l,H l=none->Q (.ref l) (ah H l (vZ X.prog X.w l (ss.foldl dS [])))):=by
 intro ZY s σ H xs us Q I r h;obtain⟨hc,p,ss,rfl,hq,h64,q⟩:=h;obtain⟨u,rfl,rx⟩:=fo r;cases rx;obtain⟨its,rv,pl,hz⟩:=I.list hq;have hlen:=rv.length;rw [QO] at hlen;refine LB (I.ok.hd hc) pl.isList (by simpa using CK rv) (by have:Zf=4096:=rfl;simp;omega) λh' tk S' k'=>?_;refine⟨.ref _,_,I.laid (t':=tk) (o:=vZ X.prog X.w _ (ss.foldl dS [])) k' (QQ _) ?_,rfl,q _ (I.hok.fresh (QQ _))⟩;obtain⟨o,e,_⟩:=id S';exact⟨S',⟨o,e⟩,λh1 h2 x k=>x.stay k⟩
theorem LI{X:Cx}:d7 X (.builtin "sorted") (λxs H Q=>X.calm=true/\∃(a:Yl)(ss:List Int),xs=[.ref a]/\H a=some (vZ X.prog X.w a ss)/\ss.length < 64/\∀(ns:List Int)(l:Yl),ns.Perm ss->ns.Pairwise (·<=·)->H l=none->Q (.ref l) (ah H l (.lst (ns.map V.int)))):=by
 intro ZY s σ H xs us Q I r h;obtain⟨hc,a,ss,rfl,ha,h64,q⟩:=h;obtain⟨u,rfl,rx⟩:=fo r;cases rx;obtain⟨hS,_⟩:=I.hok a _ ha;refine LG (I.ok.hd hc) hS h64 λh' h2 tk d out e ss' k1 k2 at2 s1 s2 s3=>?_;have hl2:ss'.length=ss.length:=s2.length_eq;have I1:ag X ZY σ H {s with heap:=h',toks:=tk,drawn:=d}:=(I.kept (t':=tk) k1).drw;refine⟨.ref _,_,I1.laid (t':=tk) (o:= .lst (ss'.map V.int)) k2 (QQ _) ?_,rfl,q ss' _ s2 s3 (I1.hok.fresh (QQ _))⟩;refine⟨by rw [QO,hl2];exact Rj (TJ h64) Yc,out.toList,e,Di s1,?_⟩;rw [at2]
section
variable {X:Cx} {H0:Hp} {O0:Ex}
def k6(t:DA):DA:=λδ Q=>t δ λds=>∃ss:List Int,ds=[.list (ss.map .int)]/\ss.length < 4000/\(ss.foldl dS []).length < 64/\∀ns:List Int,(∀z,z∈ns↔z∈ss)->ns.Pairwise (· < ·)->Q (ns.map .int)
theorem LJ{a:Yr}{t:DA}{np p np' p':Pos}(hc:X.calm=true)(hg:Gl X "sorted")(hm:X.mg "sorted"=none)(hv:YI "sorted"=some (.builtin "sorted"))(hg':Gl X "set")(hm':X.mg "set"=none)(ha:PA X [a] (iy X.K H0 O0 t))
 (he:Yp [a] X.env=(false,eval a X.env)::Yp [] X.env:=by rfl)(hpl:(YC p' (Yp [] X.env)).any (·.1)=false:=by rfl)
 (he':Yp [.Call (.Name "set" np') [a] [] p'] X.env=(false,eval (.Call (.Name "set" np') [a] [] p') X.env)::Yp [] X.env:=by rfl)(hpl':(YC p (Yp [] X.env)).any (·.1)=false:=by rfl):
 FE X H0 O0 (.Call (.Name "sorted" np) [.Call (.Name "set" np') [a] [] p'] [] p) (k6 t):=
 (bU LI hg hm hv (bw (cT LH hg' hm' K3 ha (he:=he) (hpl:=hpl)) b7 he') (he:=he') (hpl:=hpl')).imp λσ H Q ⟨O,δ,Qd,w,q,k⟩=>⟨O,δ,_,w,q,λds vs H1 uu19 s1 r1=>by
  obtain⟨ss,e,h64,hl,q1⟩:=uu19;subst e;cases r1 with
  | cons h r=>
   cases r;obtain⟨a,us,rfl,h1,d1⟩:=h.lst;cases d1.intsL;refine⟨hc,a,ss,rfl,h1,h64,λl hl'=>⟨hc,l,_,rfl,bq,hl,λns l2 hp hs hl2=>?_⟩⟩;refine k _ _ _ _ (q1 ns (λz=>?_) ?_) (s1.trans (au.new hl')) hl2 (ai.ofInts _)
   ·rw [hp.mem_iff,vX];simp
   ·have nd:ns.Nodup:=hp.nodup_iff.mpr (vY .nil);exact(List.Pairwise.and hs nd).imp λ{a b} z=>by
     obtain⟨z1,z2⟩:=z;omega⟩
end
def v8(K:QN)(a:Yl):It:=
 ⟨λi H=>∃xs x,bo K H a xs/\xs[i]?=some x,λi H x H'=>∃p v,H p=none/\x= .ref p/\H'=ah H p (.tup [.int (i:Int),v])/\∀xs,bo K H a xs->xs[i]?=some v,λi H=>∃xs,bo K H a xs/\xs.length<=i⟩
theorem LK{P:Yu}{w:Yv}{K:QN}{elts:List Yr}{k0}{pos:Pos}(a it e:Yl)(hei:e≠it):oQ P w K (.Tuple elts k0 pos) (v8 K a) [e,it] e (λi h=>(∃old,IsEnum h e it (i:Int) old)/\h.IsListIter it a i) where
 mem:=Yh
 obj:=λi h st b hb=>by
  simp only [QX,Rh,or_false] at hb;obtain⟨⟨old,he⟩,o,eo,c,d⟩:=st;rcases hb with rfl | rfl
  ·exact⟨_,he,λv z=>by cases z⟩
  ·exact⟨o,eo,λv z=>by rw [d] at z;cases z⟩
 keep:=λi h h' st k=>⟨let ⟨old,he⟩:=st.1;⟨old,k e Yh _ he⟩,st.2.at λo q=>k it Yh o q⟩
 item:=by
  intro X hP hw hK hc i ZY s σ H E I hf st hg;subst hP hw hK;obtain⟨xs,x,hq,hx⟩:=hg;obtain⟨its,rv,p,hz⟩:=I.list hq;obtain⟨u,hu,ru⟩:=rv.get hx;obtain⟨⟨old,he⟩,hit⟩:=st;refine wpAny_pyNext_enum_item he hit p.isList (x:=u) (by simpa using hu) hei λh' ho hit' hT hsz hk=>?_;have hT0:H s.heap.objs.size=none:=I.hok.fresh (QQ _);have lte:e < s.heap.objs.size:=Q7 he;have lti:it < s.heap.objs.size:=by obtain⟨_,q,_⟩:=hit;exact Q7 q
  have I1:ag X ZY σ (ah H s.heap.objs.size (.tup [.int (i:Int),x])) {s with heap:=h',toks:=s.toks+1}:=by
   refine I.track (t':=s.toks+1) (ch:=[s.heap.objs.size,e,it]) Yh (λb hb=>?_) (λb v hb q=>hk b v (λz=>hb (by simp [z])) (λz=>hb (by simp [z])) q) ?_
   ·rcases QX.mp hb with z | z
    ·rw [z];exact I.fpOk (QQ _) hT0
    ·exact hf b z
   ·exact⟨by rw [YM,Q0,Q0,RJ];decide,[.int (i:Int) s.toks,u],.cons ⟨_,rfl⟩ (.cons ru .nil),_,hT,rfl,0,rfl⟩
  refine⟨_,rfl,ZS ho λh2 he2 sb=>?_⟩;obtain⟨f0,f1,f2,f3,f4,f5⟩:=hf e Yh;have ne:s.heap.objs.size≠e:=TK lte;have I2:ag X ZY σ (ah H s.heap.objs.size (.tup [.int (i:Int),x])) {s with heap:=h2,toks:=s.toks+1}:=I1.turned (t':=s.toks+1) (λb o hb q=>(sb.2 b hb).trans q) (by rw [az (Ne.symm ne)];exact f0) f1 f3 f4 f5;refine⟨.ref s.heap.objs.size,_,I2,rfl,⟨_,x,hT0,rfl,rfl,λys hy=>by rw [I.list_inj hy hq];exact hx⟩,⟨⟨_,by simpa using he2⟩,hit'.at λo q=>(sb.2 it (Ne.symm hei)).trans q⟩,λb hb=>?_⟩;rw [az λz=>?_]
  ·exact(hf b hb).1
  ·simp only [QX,Rh,or_false] at hb;rcases hb with y | y
   ·rw [<-z,y] at lte;exact SS _ lte
   ·rw [<-z,y] at lti;exact SS _ lti
 done:=by
  intro X hP hw hK hc i ZY s σ H E I hf st hg;subst hP hw hK;obtain⟨xs,hq,hx⟩:=hg;obtain⟨its,rv,p,hz⟩:=I.list hq;obtain⟨⟨old,he⟩,hit⟩:=st;obtain⟨f0,f1,f2,f3,f4,f5⟩:=hf it Yh;have hl:=rv.length;exact wpAny_pyNext_enum_end (I.ok.hd hc) he hit p.isList (by simp;omega) λh' eb=>⟨rfl,I.turned (t':=s.toks) (λb o hb e=>eb b o hb e) f0 f1 f3 f4 f5⟩
 self:=λA i s Q E st h=>by
  obtain⟨⟨old,he⟩,_⟩:=st;exact Zv he h
def LL(K:QN)(ta:TA):TI:=λσ H R=>ta σ H λvs H1=>∃a xs,vs=[.ref a]/\Rd H1 a (.lst xs)/\R (v8 K a) H1
theorem LM{X:Cx}{elts:List Yr}{k0}{tp:Pos}{a:Yr}{ta:TA}{p pos:Pos}(hg:Gl X "enumerate")(hm:X.mg "enumerate"=none)(ha:PA X [a] ta)(hs:Yp [a] X.env=[(false,eval a X.env)]:=by rfl):PI X (.Tuple elts k0 tp) (.Call (.Name "enumerate" p) [a] [] pos) (LL X.K ta):=by
 intro ZY s σ H R I h;refine Call_ (nO I hg hm boot_enumerate (Ti (aB (ha pos ZY s σ H _ I h) λus s1 ⟨vs,H1,I1,r1,q1⟩=>?_) hs rfl));obtain⟨b,xs,e,hr,q⟩:=q1;subst e;cases r1 with
 | cons r rr=>
  cases rr;cases r;have ho:∃(its:List Yj)(n:Nat),s1.heap.get? b=some {cls:= .type "list",dict:=none,data:= .seq its.toArray n,slots:=#[]}:=by
   rcases hr with hr | ⟨o,hr⟩
   ·obtain⟨_,its,n,_,z⟩:=I1.hok b _ hr;exact⟨its,n,z⟩
   ·obtain⟨_,_,its,n,_,z⟩:=I1.hok b _ hr;exact⟨its,n,z⟩
  obtain⟨its,n,ho⟩:=ho;refine call_enumerate_1 ho λh' he hit hsz hk=>Zv he ?_;have I2:ag X ZY σ H1 {s1 with heap:=h'}:=I1.kept (t':=s1.toks) hk;refine⟨s1.heap.objs.size+1,[s1.heap.objs.size+1,s1.heap.objs.size],_,_,H1,rfl,I2,LK b s1.heap.objs.size (s1.heap.objs.size+1) (TK (SR _)),⟨⟨_,he⟩,hit⟩,λc hc=>?_,q⟩;simp only [QX,Rh,or_false] at hc;rcases hc with rfl | rfl
  ·exact I1.fpOk (Sg _) (I1.hok.fresh (Sg _))
  ·exact I1.fpOk (QQ _) (I1.hok.fresh (QQ _))
def gL:Nat->List Yi->List Yi
 | _,[]=>[]
 | k,x::r=>.tuple [.int (k:Int),x]::gL (k+1) r
theorem qP:∀(k:Nat)(xs:List Yi),(gL k xs).length=xs.length
 | _,[]=>rfl
 | k,x::r=>by rw [gL,Q0,qP,Q0]
theorem px:∀(k:Nat)(xs:List Yi)(i:Nat),(gL k xs)[i]?=(xs[i]?).map λx=>.tuple [.int ((k+i:Nat):Int),x]
 | _,[],i=>by simp [gL]
 | k,x::r,0=>by simp [gL]
 | k,x::r,i+1=>by
  rw [gL,RQ,RQ,px (k+1) r i,show k+1+i=k+(i+1) by omega]
theorem LN{K:QN}{H0:Hp}{O0:Ex}{a:Yl}{vs:List V}{xs:List Yi}{g:TG}{dg:DG}{tb:DS}{D:i3}{E:fz}{σ:St}{H:Hp}{O:Ex}{δ:Dl}(hr:Rd H a (.lst vs))(ho:¬O a)(gd:GD K g dg)
 (r:ai K H O vs xs)(w:Wd K H0 O0 H O σ δ)(q:gI dg tb E (gL 0 xs) δ)
 (k1:∀O' δ' σ' H',E.nx δ'->Wd K H0 O0 H' O' σ' δ'->aH H H' O O'->D.nx σ' H')(k2:∀d v H',E.rt d->au H0 H'->Dt K H' O0 v d->D.rt v H'):FR (v8 K a) g (bh K H0 O0 tb) D σ H:=by
 obtain⟨Iv,q0,qs,qe⟩:=q;have hl:=r.length;have sq:∀H' O',aH H H' O O'->bo K H' a vs:=λH' O' S=>.inl (hr.same λo e=>S.keep _ o e ho);refine⟨λi m σ' H'=>∃O' δ',m=vs.length - i/\i<=vs.length/\Wd K H0 O0 H' O' σ' δ'/\aH H H' O O'/\Iv i δ',⟨vs.length,O,δ,Yh,RD _,w,aH.refl _ _,q0⟩,?_⟩;rintro i m σ1 H1 ⟨O1,δ1,rfl,hi,w1,S1,q1⟩;by_cases hlt:i < vs.length
 ·refine .inr ⟨⟨vs,vs[i],sq _ _ S1,by simp [hlt]⟩,λσ' H'=>∃O' δ',Wd K H0 O0 H' O' σ' δ'/\aH H H' O O'/\Iv (i+1) δ',λσ' H' uu21=>by obtain⟨O',δ',w',S',q'⟩:=uu21;exact⟨vs.length - (i+1),Yd,O',δ',rfl,hlt,w',S',q'⟩,λx H' y=>?_⟩;obtain⟨p,v,hp,rfl,rfl,hv⟩:=y;obtain⟨d,ed,rd⟩:=r.get (hv vs (sq _ _ S1));have sm:au H1 (ah H1 p (.tup [.int (i:Int),v])):=au.new hp;have w2:=w1.mono sm;have np:¬O1 p:=λz=>w1.trk p z hp;have dt:Dt K (ah H1 p (.tup [.int (i:Int),v])) O1 (.ref p) (.tuple [.int (i:Int),d]):= .tup (.inl bq) np (.cons (.int _) (.cons ((rd.step S1).mono sm) .nil));have S2:aH H (ah H1 p (.tup [.int (i:Int),v])) O O1:=S1.trans (.same sm);have e2:(gL 0 xs)[i]?=some (.tuple [.int (i:Int),d]):=by rw [px,ed];simp
  refine gd H0 O0 _ O1 σ1 δ1 _ _ _ _ w2 dt (qs i _ δ1 e2 q1) λδ2 σ2 q2 w2=>?_;exact⟨O1,δ2,_,w2,q2,λO' δ' σ' H' z w' S'=>⟨O',δ',w',S2.trans S',z⟩,k2,λO' δ' σ' H' z w' S'=>k1 O' δ' σ' H' z w' (S2.trans S'),λO' δ' σ' H' z w' S'=>⟨O',δ',w',S2.trans S',z⟩⟩
 ·have e:i=vs.length:=Yd
  subst e;refine .inl ⟨⟨vs,sq _ _ S1,QQ _⟩,?_⟩;rw [hl,<-qP 0 xs] at q1;exact k1 O1 δ1 σ1 H1 (qe δ1 q1) w1 S1
section
variable {X:Cx} {H0:Hp} {O0:Ex}
def k7(t:DA)(g:DG)(tb:DS):DS:=λE δ=>t δ λds=>∃xs,ds=[.list xs]/\gI g tb E (gL 0 xs) δ
theorem Dj{elts:List Yr}{k0}{tp:Pos}{a:Yr}{body:List Yx}{p pos pos':Pos}{ta:DA}{g:TG}{dg:DG}{tb:DS}(hp:Zi (Yq X.prog X.w) X.A X.env X.xe)(hc:X.calm=true)(hgl:Gl X "enumerate")(hm:X.mg "enumerate"=none)(ha:PA X [a] (gA X.K H0 O0 ta))(hg:PG X (.Tuple elts k0 tp) g)(gd:GD X.K g dg)(hb:bP X body (bh X.K H0 O0 tb))
 (hst:Yp [a] X.env=[(false,eval a X.env)]:=by rfl)(hs:∀x,YA (.Call (.Name "enumerate" p) [a] [] pos') X.env x=pure x:=by intro _;rfl):
 PS X (.For (.Tuple elts k0 tp) (.Call (.Name "enumerate" p) [a] [] pos') body [] pos) (bh X.K H0 O0 (k7 ta dg tb)):=
 (oT hp hc (LM hgl hm ha hst) hg hb hs).imp λD σ H uu22=>by obtain⟨O,δ,E,w,q,k1,k2,k3,k4⟩:=uu22;exact⟨O,δ,_,w,q,λds vs H1 uu23 s1 r1=>by
  obtain⟨xs,e,q1⟩:=uu23;subst e;cases r1 with
  | cons h r=>
   cases r;cases h with
   | lst h n r=>
    exact⟨_,_,rfl,h,LN h n gd r (w.mono s1) q1 (λO' δ' σ' H' z w' S=>k1 O' δ' σ' H' z w' (aH.trans (.same s1) S)) k2⟩⟩
end
def k8:List Yi->(Yi->Prop)->Prop:=λds Q=>∃i j:Int,ds=[.int i,.int j]/\gr i j/\Q (.tuple [.int (i / j),.int (i % j)])
theorem LO{K:QN}:je K (λxs H Q=>∃i j,xs=[.int i,.int j]/\gr i j/\∀p,H p=none->Q (.ref p) (ah H p (.tup [.int (i / j),.int (i % j)]))) k8:=λH O xs ds Qd R tr hs uu24 k=>by
 obtain⟨i,j,e,c,q⟩:=uu24;subst e;cases hs with
 | cons h r=>cases r with
  | cons h2 r=>
   cases r;cases h.int;cases h2.int;exact⟨i,j,rfl,c,λp hp=>k _ _ _ q (au.new hp) (.tup (.inl bq) (λz=>tr p z hp) (.cons (.int _) (.cons (.int _) .nil)))⟩
def k9:List Yi->(Yi->Prop)->Prop:=λds Q=>∃ns:List Int,ds=[.list (ns.map .int)]/\Q (.int ns.sum)
theorem LP{K:QN}:je K (λxs H Q=>∃(a:Yl)(ns:List Int),xs=[.ref a]/\bo K H a (ns.map V.int)/\Q (.int ns.sum) H) k9:=λH O xs ds Qd R tr hs uu25 k=>by
 obtain⟨ns,e,q⟩:=uu25;subst e;cases hs with
 | cons h r=>
  cases r;obtain⟨a,vs,rfl,h1,d1⟩:=h.lst;cases d1.intsL;exact⟨a,ns,rfl,h1,k _ _ H q (au.refl _) (.int _)⟩
def v9(c:Int->Int->Prop):R2:=λx y H Q=>∃i j,x= .int i/\y= .int j/\c i j/\∀r:Int,Q (.int r) H
theorem Dk{X:Cx}:bG X (YU .RShift) (v9 λ_ j=>0<=j):=by
 intro ZY s σ H x y v u Q I rx ry h;obtain⟨i,j,rfl,rfl,c,q⟩:=h;obtain⟨t,rfl⟩:=rx;obtain⟨t',rfl⟩:=ry;by_cases hb:j >= ((Su i:Nat):Int)
 ·exact PySem.AutoIntOps.rshift_1 Yd hb ⟨.int _,H,I.tok _,⟨_,rfl⟩,q _⟩
 ·exact PySem.AutoIntOps.rshift_2 Yd hb ⟨.int _,H,I.tok _,⟨_,rfl⟩,q _⟩
theorem Dm{X:Cx}:bG X (YU .BitAnd) (v9 λ_ _=>True):=by
 intro ZY s σ H x y v u Q I rx ry h;obtain⟨i,j,rfl,rfl,c,q⟩:=h;obtain⟨t,rfl⟩:=rx;obtain⟨t',rfl⟩:=ry;exact and_int ⟨.int _,H,I.tok _,⟨_,rfl⟩,q _⟩
def lh(c:Int->Int->Prop):Yi->Yi->(Yi->Prop)->Prop:=λx y Q=>∃i j:Int,x= .int i/\y= .int j/\c i j/\∀r:Int,Q (.int r)
theorem sY{K:QN}{c:Int->Int->Prop}:cw K (v9 c) (lh c):=λH O x y dx dy Qd R tr hx hy uu26 k=>by
 obtain⟨i,j,e1,e2,h,q⟩:=uu26;subst e1 e2;cases hx.int;cases hy.int;exact⟨i,j,rfl,rfl,h,λr=>k _ _ H (q r) (au.refl _) (.int _)⟩
section
variable {X:Cx} {H0:Hp} {O0:Ex}
def lq(n:Nat)(t:DA):DA:=λδ Q=>t δ λds=>ds.length<=1000/\Q (Q8 n ds).flatten
theorem ai.rep{K:QN}{H:Hp}{O:Ex}{vs:List V}{ds:List Yi}(h:ai K H O vs ds):∀n:Nat,ai K H O (Q8 n vs).flatten (Q8 n ds).flatten
 | 0=>.nil
 | n+1=>by rw [SG,SG,Ui,Ui];exact h.append (ai.rep h n)
theorem wa{n:Nat}(hn:n<=1000){e:Yr}{t:DA}{j}{pos cp:Pos}(h:FE X H0 O0 e t):FE X H0 O0 (.BinOp e .Mult (.Constant (.int (n:Int)) j cp) pos) (lq n t):=
 (bE IU h bL).imp λσ H Q ⟨O,δ,Qd,w,q,k⟩=>⟨O,δ,_,w,q,λds vs p H1 q1 s1 hp r1=>by
  refine⟨p,n,vs,rfl,rfl,bq,Yd,Yd,?_,λp' hp'=>?_⟩
  ·have h1:=r1.length;have h2:(Yt:Nat)=16777216:=Yc
   have h3:=q1.1;rw [R9];have h4:vs.length*n<=1000*1000:=Nat.mul_le_mul Yd hn;omega
  ·rw [R9];exact k _ _ p' _ q1.2 (s1.trans (au.new hp)) hp' ((r1.rep n).mono (au.new hp))⟩
end
def LQ:V->List V->Hp->VK->Prop:=λx vs H Q=>∃l b xs zs,x= .ref l/\vs=[.ref b]/\H l=some (.lst xs)/\Rd H b (.lst zs)/\xs.length+zs.length<=Yt/\Q .non (ah H l (.lst (xs++zs)))
theorem LR{X:Cx}:rZ X "list.extend" LQ:=by
 intro ZY s σ H x vs v us Q I rx rv h;obtain⟨l,b,xs,zs,rfl,rfl,hH,hB,hz,q⟩:=h;cases rx;obtain⟨u,rfl,ru⟩:=rv.one;cases ru;obtain⟨z,its,n,r,hl,e⟩:=I.lstM hH;obtain⟨z2,its2,n2,r2,e2⟩:=hB.ok I.hok;have hl2:=r2.length;have hsz:its.toArray.size+its2.toArray.size<=Yt:=by rw [Q4,Q4];omega
 have hlong:¬(!its.toArray.isEmpty && TL (its.toArray.size+its2.toArray.size))=true:=by
  rw [vb hsz,XH];exact QV
 refine Y8 Ve ⟨_,e,rfl⟩ PySem.F.entry_list_extend (PySem.F.args_list_extend_2 _ _)
  (Vv l its.toArray n b its2.toArray n2 hlong (by rw [Q4];omega) Yd) ⟨e,e2,?_⟩
 refine⟨.non,_,I.lset (its':=its++its2) hH e Yh (r.append r2) ?_,rfl,q⟩;rw [Q2];omega
section
variable {X:Cx} {H0:Hp} {O0:Ex}
def lr(i:Nat)(t:DT):DS:=λE δ=>∃ds,δ[i]?=some (some (.o ds))/\t δ λd=>∃es,d= .list es/\ds.length+es.length<=Yt/\E.nx (δ.set i (some (.o (ds++es))))
theorem wb{i:Nat}{o e:Yr}{t:DT}{apos cpos pos:Pos}(ho:PE X o (cJ i))(he:DE X H0 O0 e t)(hbase:YQ o "extend" X.env (eval o X.env)=eval o X.env:=by rfl)
 (hfew:((YC cpos (Yp [e] X.env)).all (λx=>!x.1) && (Y6 cpos (YS [] X.env)).all (λx=>x.1.isSome) && decide ([e].length+([]:List Y5).length+(if ([]:List Y5).isEmpty then 0 else 1) < 30))=true:=by rfl)
 (hline:(apos.endLine==cpos.line)=true:=by rfl)(hst:Yp [e] X.env=(false,eval e X.env)::Yp [] X.env:=by rfl)(hplain:(YC cpos (Yp [] X.env)).any (·.1)=false:=by rfl)
 (hs:YD (.Call (.Attribute o "extend" apos) [e] [] cpos) none pos.line X.env=pure false:=by rfl):PS X (.Expr (.Call (.Attribute o "extend" apos) [e] [] cpos) pos) (bh X.K H0 O0 (lr i t)):=
 (qc (rY UA Ve Wl LR ho (bw he b7 hst) hbase hfew hline hst hplain) hs).imp λD σ H uu28=>by
  obtain⟨O,δ,E,w,⟨ds,e,q⟩,k1,k2,k3,k4⟩:=uu28;obtain⟨l,vs,h,a,b,c,r⟩:=w.own e;refine⟨_,h,.inl ⟨rfl,_,bo.of c⟩,O,δ,_,w,q,λd v H1 ⟨es,ed,q1,q2⟩ s1 r1=>?_⟩;subst ed;have hl:H1 l=some (.lst vs):=s1 _ _ c;cases r1 with
  | lst h1 n r1=>
   refine⟨l,_,vs,_,rfl,rfl,hl,h1,by rw [r.length,r1.length];exact q1,?_⟩;exact k1 _ _ _ _ q2 ((w.mono s1).putO (vs:=vs) e h ((r.mono s1).append r1)) ⟨λb' o' z n=>by rw [az (λy=>n (by rw [y];exact a))];exact s1 _ _ z,λ_ _ n=>n⟩
theorem Dp{i:Nat}{x:Str}{e:Yr}{t:DA}{pos pos':Pos}(hN:X.N.Nodup)(hi:X.N[i]?=some x)(hx:gW X.env.scope x)(he:PU X e (pb X.K H0 O0 t))(hs:YD e (some (.Name x pos')) pos.line X.env=pure true:=by rfl)(hf:X.fn x=true\/X.env.scope.names.lookup x=some .local:=by first | exact .inl rfl | exact .inr rfl | assumption):
 PS X (.Assign [.Name x pos'] e pos) (bh X.K H0 O0 (iB i t)):=
 (he _ _ _ _ hN hi hx hs hf).imp λD σ H ⟨O,δ,E,w,q,k1,k2,k3,k4⟩=>⟨O,δ,_,w,q,λds vs p H1 q1 s1 hp r1=>k1 _ _ _ _ q1 ((w.mono s1).setO hp r1)
  ⟨λb o e _=>(s1.trans (au.new hp)) b o e,λb e n z=>z.elim n λy=>by
   cases q:H b with
   | none=>exact e q
   | some o=>have:=s1 _ _ q;rw [y,hp] at this;cases this⟩⟩
end
end _L
namespace Day
def iL(y:Int):Bool:=decide (y % 400=0) || (decide (y % 4=0) && !decide (y % 100=0))
def ld(y:Int):Int:=if iL y=true then 1 else 0
def wc:List Int:=[31,28,31,30,31,30,31,31,30,31,30,31]
def bt(y m:Int):Int:=if m=2/\iL y=true then 29 else wc.getD (m - 1).toNat 0
def lb(y:Int):Int:=(y - 1)/ 4 - (y - 1)/ 100+(y - 1)/ 400
def cf(y:Int):Int:=365*(y - 2000)+lb y - lb 2000
def aT(y m:Int):Int:=((SE (m - 1).toNat).map λ(i:Nat)=>bt y (1+(i:Int))).sum
def oj(y m n:Int):Int:=cf y+aT y m+n - 1
structure nq (d y m n:Int):Prop where
 m1:1<=m
 m12:m<=12
 n1:1<=n
 nl:n<=bt y m
 eq:oj y m n=d
theorem LS(y:Int):0<=ld y/\ld y<=1:=by unfold ld;split <;> omega
theorem qQ(y:Int):iL y=true↔(y % 400=0\/(y % 4=0/\y % 100≠0)):=by
 unfold iL;simp
theorem Dq(y:Int):cf (y+1)=cf y+365+ld y:=by
 unfold cf lb ld;by_cases h:iL y=true
 ·rw [Yf h];have:=(qQ y).mp h;omega
 ·rw [Ye h];have:=mt (qQ y).mpr h;omega
theorem Ds{a b:Int}(h:a+1<=b):cf (a+1)<=cf b:=by
 unfold cf lb;omega
theorem we(y:Int):bt y 2=28+ld y:=by
 unfold bt ld;by_cases h:iL y=true
 ·rw [Yf ⟨rfl,h⟩,Yf h];rfl
 ·rw [Ye (λz=>h z.2),Ye h];rfl
theorem wg{y m:Int}(h:m≠2):bt y m=wc.getD (m - 1).toNat 0:=by
 unfold bt;rw [Ye (λz=>h z.1)]
theorem wj(y:Int):bt y 1=31/\bt y 3=31/\bt y 4=30/\bt y 5=31/\bt y 6=30/\bt y 7=31/\bt y 8=31/\bt y 9=30/\bt y 10=31/\bt y 11=30/\bt y 12=31:=by
 refine⟨?_,?_,?_,?_,?_,?_,?_,?_,?_,?_,?_⟩ <;> (rw [wg Yc];rfl)
theorem wk{m:Int}(h1:1<=m)(h2:m<=12):m=1\/m=2\/m=3\/m=4\/m=5\/m=6\/m=7\/m=8\/m=9\/m=10\/m=11\/m=12:=by
 obtain⟨k,e⟩:=SO (show 0<=m - 1 by omega);have e:m=(k:Int)+1:=Yd
 have hk:k < 12:=Yd
 have key:∀k:Fin 12,((k.1:Nat):Int)+1=1\/((k.1:Nat):Int)+1=2\/((k.1:Nat):Int)+1=3\/((k.1:Nat):Int)+1=4\/((k.1:Nat):Int)+1=5\/((k.1:Nat):Int)+1=6\/((k.1:Nat):Int)+1=7\/((k.1:Nat):Int)+1=8\/((k.1:Nat):Int)+1=9\/((k.1:Nat):Int)+1=10\/((k.1:Nat):Int)+1=11\/((k.1:Nat):Int)+1=12:=Yb
 rw [e];exact key ⟨k,hk⟩
theorem LU{y m:Int}(h1:1<=m)(h2:m<=12):28<=bt y m/\bt y m<=31:=by
 obtain⟨m1,m3,m4,m5,m6,m7,m8,m9,m10,m11,m12⟩:=wj y;have m2:28<=bt y 2/\bt y 2<=31:=by
  have:=LS y;rw [we];clear m1 m3 m4 m5 m6 m7 m8 m9 m10 m11 m12 h1 h2;omega
 have k:∀{z:Int},z=31\/z=30->28<=z/\z<=31:=λh=>by rcases h with h | h <;> rw [h] <;> decide
 rcases wk h1 h2 with h | h | h | h | h | h | h | h | h | h | h | h <;> subst h
 ·exact k (.inl m1)
 ·exact m2
 ·exact k (.inl m3)
 ·exact k (.inr m4)
 ·exact k (.inl m5)
 ·exact k (.inr m6)
 ·exact k (.inl m7)
 ·exact k (.inl m8)
 ·exact k (.inr m9)
 ·exact k (.inl m10)
 ·exact k (.inr m11)
 ·exact k (.inl m12)
theorem wm(y:Int):aT y 1=0:=rfl
theorem eO{y m:Int}(h:1<=m):aT y (m+1)=aT y m+bt y m:=by
 unfold aT;have e:(m+1 - 1).toNat=(m - 1).toNat+1:=Yd
 rw [e,WB,Rf,List.sum_append];have e2:(1:Int)+(((m - 1).toNat:Nat):Int)=m:=Yd
 simp only [QR,RO,Ue,List.sum_nil,e2];omega
theorem LV{a b c:Int}(l:Int)(h:a+b=c):a+(b+l)=c+l:=Yd
theorem jr{a b c:Int}(l:Int)(h:a+b=c):a+l+b=c+l:=Yd
theorem wq(y:Int):aT y 1=0/\aT y 2=31/\aT y 3=59+ld y/\aT y 4=90+ld y/\aT y 5=120+ld y/\aT y 6=151+ld y/\aT y 7=181+ld y/\aT y 8=212+ld y/\aT y 9=243+ld y/\aT y 10=273+ld y/\aT y 11=304+ld y/\aT y 12=334+ld y/\aT y 13=365+ld y:=by
 obtain⟨m1,m3,m4,m5,m6,m7,m8,m9,m10,m11,m12⟩:=wj y;have e2:aT y 2=31:=by rw [show aT y 2=aT y 1+bt y 1 from eO (m:=1) Yc,m1];rfl
 have e3:aT y 3=59+ld y:=by rw [show aT y 3=aT y 2+bt y 2 from eO (m:=2) Yc,e2,we];exact LV _ rfl
 have e4:aT y 4=90+ld y:=by rw [show aT y 4=aT y 3+bt y 3 from eO (m:=3) Yc,e3,m3];exact jr _ rfl
 have e5:aT y 5=120+ld y:=by rw [show aT y 5=aT y 4+bt y 4 from eO (m:=4) Yc,e4,m4];exact jr _ rfl
 have e6:aT y 6=151+ld y:=by rw [show aT y 6=aT y 5+bt y 5 from eO (m:=5) Yc,e5,m5];exact jr _ rfl
 have e7:aT y 7=181+ld y:=by rw [show aT y 7=aT y 6+bt y 6 from eO (m:=6) Yc,e6,m6];exact jr _ rfl
 have e8:aT y 8=212+ld y:=by rw [show aT y 8=aT y 7+bt y 7 from eO (m:=7) Yc,e7,m7];exact jr _ rfl
 have e9:aT y 9=243+ld y:=by rw [show aT y 9=aT y 8+bt y 8 from eO (m:=8) Yc,e8,m8];exact jr _ rfl
 have e10:aT y 10=273+ld y:=by rw [show aT y 10=aT y 9+bt y 9 from eO (m:=9) Yc,e9,m9];exact jr _ rfl
 have e11:aT y 11=304+ld y:=by rw [show aT y 11=aT y 10+bt y 10 from eO (m:=10) Yc,e10,m10];exact jr _ rfl
 have e12:aT y 12=334+ld y:=by rw [show aT y 12=aT y 11+bt y 11 from eO (m:=11) Yc,e11,m11];exact jr _ rfl
 have e13:aT y 13=365+ld y:=by rw [show aT y 13=aT y 12+bt y 12 from eO (m:=12) Yc,e12,m12];exact jr _ rfl
 exact⟨wm y,e2,e3,e4,e5,e6,e7,e8,e9,e10,e11,e12,e13⟩
theorem Du{y m:Int}(h1:1<=m):∀k:Nat,m+k<=13->aT y m<=aT y (m+k)
 | 0,_=>by simp
 | k+1,h=>by
  have ih:=Du (y:=y) h1 k Yd;have e:m+((k+1:Nat):Int)=(m+k)+1:=Yd
  rw [e,eO Yd];have:=LU (y:=y) (m:=m+k) Yd Yd;omega
theorem wt{y m m':Int}(h1:1<=m)(h2:m<=m')(h3:m'<=13):aT y m<=aT y m':=by
 have:=Du (y:=y) h1 (m' - m).toNat Yd;rw [show m+(((m' - m).toNat:Nat):Int)=m' by omega] at this;exact this
theorem Dv{y m:Int}(h1:1<=m)(h2:m<=12):0<=aT y m/\aT y m+bt y m<=365+ld y:=by
 have a:=wt (y:=y) (m:=1) (m':=m) Yc h1 Yd;have b:=wt (y:=y) (m:=m+1) (m':=13) Yd Yd Yc;rw [eO h1] at b;have c:=(wq y).1;have e:=(wq y).2.2.2.2.2.2.2.2.2.2.2.2;omega
theorem Dw{y m m':Int}(h1:1<=m)(h2:m < m')(h3:m'<=12):aT y m+bt y m<=aT y m':=by
 have b:=wt (y:=y) (m:=m+1) (m':=m') Yd Yd Yd;rw [eO h1] at b;exact b
theorem nq.in{d y m n:Int}(h:nq d y m n):cf y<=d/\d < cf (y+1):=by
 have:=Dv (y:=y) h.m1 h.m12;have:=h.n1;have:=h.nl;have e:=h.eq;have:=Dq y;unfold oj at e;omega
theorem nq.uniq{d y m n y' m' n':Int}(h:nq d y m n)(h':nq d y' m' n'):y=y'/\m=m'/\n=n':=by
 have a:=h.in;have b:=h'.in;have ey:y=y':=by
  rcases Xl y y' with z | z | z
  ·have:=Ds (a:=y) (b:=y') Yd;omega
  ·exact z
  ·have:=Ds (a:=y') (b:=y) Yd;omega
 subst ey;have e:=h.eq;have e':=h'.eq;unfold oj at e e';have em:m=m':=by
  rcases Xl m m' with z | z | z
  ·have:=Dw (y:=y) h.m1 z h'.m12;have:=h.nl;have:=h'.n1;omega
  ·exact z
  ·have:=Dw (y:=y) h'.m1 z h.m12;have:=h'.nl;have:=h.n1;omega
 subst em;exact⟨rfl,rfl,Yd⟩
def pz(d:Int):Int:=
 if d < cf (2000+d*400 / 146097) then 2000+d*400 / 146097 - 1
 else if cf (2000+d*400 / 146097+1)<=d then 2000+d*400 / 146097+1
 else 2000+d*400 / 146097
theorem LW(d:Int):cf (pz d)<=d/\d < cf (pz d+1):=by
 unfold pz;have e:2000+d*400 / 146097 - 1+1=2000+d*400 / 146097:=Yd
 by_cases h:d < cf (2000+d*400 / 146097)
 ·rw [Yf h,e];refine⟨?_,h⟩;unfold cf lb at*;omega
 ·rw [Ye h];by_cases h2:cf (2000+d*400 / 146097+1)<=d
  ·rw [Yf h2];refine⟨h2,?_⟩;unfold cf lb at*;omega
  ·rw [Ye h2];omega
def sZ(y m n k:Int):Int:=oj ((y*12+m - 1+k)/ 12) ((y*12+m - 1+k)% 12+1) (min n (bt ((y*12+m - 1+k)/ 12) ((y*12+m - 1+k)% 12+1)))
theorem LX(y:Int):365*(y - 2000)+(y - 2000+3)/ 4 - (y - 2000+99)/ 100+(y - 2000+399)/ 400=cf y:=by
 unfold cf lb;omega
theorem length_eq(y m:Int)(h1:1<=m)(h2:m<=12):(if m=2/\(y % 4≠0\/(y % 100=0/\y % 400≠0)) then(28:Int) else [31,29,31,30,31,30,31,31,30,31,30,31].getD (m - 1).toNat 0)=bt y m:=by
 by_cases h:m=2
 ·subst h;rw [we];unfold ld;by_cases l:iL y=true
  ·rw [Yf l,Ye (by have:=(qQ y).mp l;omega)];rfl
  ·rw [Ye l,Yf (by have:=mt (qQ y).mpr l;omega)];rfl
 ·rw [wg h,Ye (λz=>h z.1)];rcases wk h1 h2 with z | z | z | z | z | z | z | z | z | z | z | z <;> subst z <;> first | rfl | exact absurd rfl h
def fst(M:Int):Int:=oj (M / 12) (M % 12+1) 1
def Dn(M n:Int):Int:=fst M+n - 1
end Day
namespace _L
open PySem PySem.Spec PyProof.Rows PySem.W
def d2(m:Nat):List Nat:=[48+m / 10,48+m % 10]
def d4(y:Nat):List Nat:=[48+y / 1000,48+y / 100 % 10,48+y / 10 % 10,48+y % 10]
open PySem PySem.Spec PyProof.Rows PySem.W PySem.Calls
section
variable {prog:Yu} {w:Yv} {A:Yz} {E:Yj->Ym->Prop} {s:Ym}
theorem LY{j t:Yl}{i:Nat}{its:Array Yj}{x:Yj}{Q:Yj->Ym->Prop}(hi:s.heap.IsTupleIter j t i)(ht:s.heap.IsTuple t its)(hx:its[i]?=some x)
 (k:∀h2,h2.IsTupleIter j t (i+1)->Tp j s.heap h2->Q x {s with heap:=h2}):Yo (Yq prog w) A (Ur (.ref j)) Q E s:=by
 obtain⟨oi,e1,c1,d1⟩:=id hi;obtain⟨ot,e2,_,n2,d2⟩:=ht;unfold Ur;refine Yk (YH (name:=QM "__next__") hi.typeIs F.slot_tuple_iterator_next (YG F.slot_tuple_iterator_next hi.typeIs F.entry_tuple_iterator_next ?_ (F.args_tuple_iterator_next_1 _)))
 (show Yo _ _ (field (.ref j) 0 >>=_) _ _ s);refine Yk (Zg e1 d1 (x:= .ref t) rfl ?_)
 (show Yo _ _ (if (RE t==SH)=true then _ else _) _ _ s);rw [Ye (show ¬((RE t==SH)=true) from QV)]
 (show Yo _ _ (field (.ref j) 1 >>=_) _ _ s);refine Yk (Zg e1 d1 (x:= .int i 0) rfl ?_)
 (show Yo _ _ (seqItems? (.ref t) >>=_) _ _ s);refine Yk (ZO e2 d2 ?_)
 simp only [R9,hx];refine Yk (YZ e1 d1 Yh (Yn ⟨x,rfl,Yn (k _ ?_ (RN ..))⟩));exact⟨_,SJ _ e1 (Uc (SF d1 _)),(Vn ..).trans c1,by rw [SF d1];simp [Y1]⟩
theorem Dx{j t:Yl}{i:Nat}{its:Array Yj}{Q:Yj->Ym->Prop}(hh:A.handled=none)(hi:s.heap.IsTupleIter j t i)(ht:s.heap.IsTuple t its)(hx:its[i]?=none)
 (k:∀h2 e,WD j s.heap h2->(∃o,h2.get? e=some o/\o.cls= .type "StopIteration")->E (.ref e) {s with heap:=h2}):Yo (Yq prog w) A (Ur (.ref j)) Q E s:=by
 obtain⟨oi,e1,c1,d1⟩:=id hi;obtain⟨ot,e2,_,n2,d2⟩:=ht;unfold Ur;refine Yk (YH (name:=QM "__next__") hi.typeIs F.slot_tuple_iterator_next (YG F.slot_tuple_iterator_next hi.typeIs F.entry_tuple_iterator_next ?_ (F.args_tuple_iterator_next_1 _)))
 (show Yo _ _ (field (.ref j) 0 >>=_) _ _ s);refine Yk (Zg e1 d1 (x:= .ref t) rfl ?_)
 (show Yo _ _ (if (RE t==SH)=true then _ else _) _ _ s);rw [Ye (show ¬((RE t==SH)=true) from QV)]
 (show Yo _ _ (field (.ref j) 1 >>=_) _ _ s);refine Yk (Zg e1 d1 (x:= .int i 0) rfl ?_)
 (show Yo _ _ (seqItems? (.ref t) >>=_) _ _ s);refine Yk (ZO e2 d2 ?_)
 simp only [R9,hx];refine Yk (ZJ (Yk (YZ e1 d1 Yh ?_)))
 (show Yo _ _ (newExc (.type "StopIteration") [] >>=_) _ _ _);refine Yk ?_;simp only [newExc,newTuple]
 refine Yk (YE ?_ (by size_fits));refine Yk (m:=Zh _ _) (Zw (a:=SH) (by first | rfl | (simp only [Zh];rfl)) ?_);refine YE ?_ (by size_fits);simp only [raiseNew];refine Yk (wpAny_handled ?_)
 first | rw [show A.in1.handled=none from hh] | rw [hh]
 refine Yk (Yn (wpAny_throw ?_));exact k _ _ (((RN ..).extBut.push _).push _) ⟨_,Rb _ rfl,rfl⟩
end
def fZ{α:Type}(xs:List α)(n:Nat)(y:α):List α:=xs.take n++y::xs.drop n
theorem Dy{α:Type}(xs:List α)(n:Nat)(y:α):(fZ xs n y).Perm (y::xs):=by
 unfold fZ;refine List.perm_middle.trans ?_;rw [Tz]
theorem LZ{α β:Type}(f:α->β)(xs:List α)(n:Nat)(y:α):(fZ xs n y).map f=fZ (xs.map f) n (f y):=by
 unfold fZ;rw [Rf,QR,TU,V0]
theorem L1{α:Type}(xs:List α)(n:Nat)(y:α):(fZ xs n y).length=xs.length+1:=(Dy xs n y).length_eq
def L3:V->List V->Hp->VK->Prop:=λx vs H Q=>∃l xs y,∃n:Nat,x= .ref l/\vs=[.int (n:Int),y]/\H l=some (.lst xs)/\n<=xs.length/\xs.length < 1000000/\Q .non (ah H l (.lst (fZ xs n y)))
theorem L4(l:List Yj)(k:Nat)(y:Yj):(l.toArray.extract 0 k).push y++l.toArray.extract k=(fZ l k y).toArray:=by
 apply Wm.mp;simp;unfold fZ;congr 2;exact Rl Yh
theorem L5{X:Cx}:rZ X "list.insert" L3:=by
 intro ZY s σ H x vs v us Q I rx rv h;obtain⟨l,xs,y,n,rfl,rfl,hH,hn,hz,q⟩:=h;cases rx;cases rv with
 | cons r1 r2=>
  obtain⟨u,rfl,ru⟩:=fo r2;obtain⟨t,rfl⟩:=r1;obtain⟨z,its,m,r,hl,e⟩:=I.lstM hH;have ef:Ud (n:Int)=true:=by
   unfold Ud;simp;omega
  have sl:(1000000:Nat)<=Yt:=Yc
  have hsz:its.toArray.size<=Yt:=by rw [Q4];exact Rj Yd sl
  have hfi:¬(!Ud (n:Int))=true:=by rw [ef];decide
  generalize hni:(n:Int)=ni at hfi ef⊢;refine Y8 Wo ⟨_,e,rfl⟩ PySem.F.entry_list_insert (PySem.F.args_list_insert_3 _ _ _) (PySem.AutoSeq1.list_insert_list_int_val_1 l its.toArray m ni t u hfi hsz) ⟨e,?_⟩;refine⟨.non,_,I.lset (its':=fZ its n u) hH e ?_ ((r.take n).append (.cons ru (r.drop n))) ?_,rfl,q⟩
  ·show(its.toArray.extract 0 (if ni < 0 then(ni+(its.toArray.size:Int)).toNat else min ni.toNat its.toArray.size)).push u++its.toArray.extract (if ni < 0 then(ni+(its.toArray.size:Int)).toNat else min ni.toNat its.toArray.size)=_;subst hni;rw [Ye Yd,Q4,R9,XE Yd];have:=L4 its n u;simp only [Q4] at this;exact this
  ·show(fZ xs n y).length<=Yt;rw [L1];exact Rj Yd sl
section
variable {X:Cx} {H0:Hp} {O0:Ex}
theorem ai.takeN{K:QN}{H:Hp}{O:Ex}:∀{vs:List V}{ds:List Yi}(n:Nat),ai K H O vs ds->ai K H O (vs.take n) (ds.take n)
 | _,_,0,_=>by rw [XJ,XJ];exact .nil
 | _,_,n+1,.nil=>.nil
 | _,_,n+1,.cons a r=>.cons a (ai.takeN n r)
theorem ai.dropN{K:QN}{H:Hp}{O:Ex}:∀{vs:List V}{ds:List Yi}(n:Nat),ai K H O vs ds->ai K H O (vs.drop n) (ds.drop n)
 | _,_,0,r=>r
 | _,_,n+1,.nil=>.nil
 | _,_,n+1,.cons a r=>ai.dropN n r
def lx(i:Nat)(t1 t2:DT):DS:=λE δ=>∃ds,δ[i]?=some (some (.o ds))/\t1 δ λa=>t2 δ λd=>∃n:Nat,a= .int (n:Int)/\n<=ds.length/\ds.length < 1000000/\E.nx (δ.set i (some (.o (fZ ds n d))))
theorem L6{i:Nat}{o e e2:Yr}{t1 t2:DT}{apos cpos pos:Pos}(ho:PE X o (cJ i))(he:DE X H0 O0 e t1)(he2:DE X H0 O0 e2 t2)(hbase:YQ o "insert" X.env (eval o X.env)=eval o X.env:=by rfl)
 (hfew:((YC cpos (Yp [e,e2] X.env)).all (λx=>!x.1) && (Y6 cpos (YS [] X.env)).all (λx=>x.1.isSome) && decide ([e,e2].length+([]:List Y5).length+(if ([]:List Y5).isEmpty then 0 else 1) < 30))=true:=by rfl)
 (hline:(apos.endLine==cpos.line)=true:=by rfl)(hst:Yp [e,e2] X.env=(false,eval e X.env)::Yp [e2] X.env:=by rfl)(hst2:Yp [e2] X.env=(false,eval e2 X.env)::Yp [] X.env:=by rfl)(hplain:(YC cpos (Yp [e2] X.env)).any (·.1)=false:=by rfl)
 (hs:YD (.Call (.Attribute o "insert" apos) [e,e2] [] cpos) none pos.line X.env=pure false:=by rfl):PS X (.Expr (.Call (.Attribute o "insert" apos) [e,e2] [] cpos) pos) (bh X.K H0 O0 (lx i t1 t2)):=
 (qc (rY UA Wo PySem.F.type_list_insert L5 ho (bw he (bw he2 b7 hst2) hst) hbase hfew hline hst hplain) hs).imp λD σ H uu31=>by
  obtain⟨O,δ,E,w,⟨ds,e,q⟩,k1,k2,k3,k4⟩:=uu31;obtain⟨l,vs,h,a,b,c,r⟩:=w.own e;refine⟨_,h,.inl ⟨rfl,_,bo.of c⟩,O,δ,_,w,q,λx vx H1 q1 s1 r1=>?_⟩;refine⟨O,δ,_,w.mono s1,q1,λd v H2 q2 s2 r2=>?_⟩;obtain⟨n,rfl,hn,hz,q2⟩:=q2;cases r1;have rl:=r.length;have S:=s1.trans s2;refine⟨l,vs,v,n,rfl,rfl,S _ _ c,Yd,Yd,?_⟩;exact k1 _ _ _ _ q2 ((w.mono S).putO (vs:=vs) e h (((r.mono S).takeN n).append (.cons r2 ((r.mono S).dropN n)))) ⟨λb' o' z n=>by rw [az (λy=>n (by rw [y];exact a))];exact S _ _ z,λ_ _ n=>n⟩
def lz(t:DT):DB:=λδ Q=>t δ λd=>∃ds,d= .list ds/\Q (!ds.isEmpty)
theorem tf{e:Yr}{t:DT}(h:DE X H0 O0 e t)(he:∀whole,isTrue e X.env whole=(do let v<-whole;ZD e.pos;Zs [v] (truthy v)):=by intro _;rfl):PT X e (bV X.K H0 O0 (lz t)):=
 (HK h he).imp λσ H Q ⟨O,δ,Qd,w,q,k⟩=>⟨O,δ,_,w,q,λd v H' uu33 s r=>by
  obtain⟨ds,e,qb⟩:=uu33;subst e;obtain⟨a,vs,rfl,hs,r⟩:=(Sh.dt r).lst;refine⟨_,.inl ⟨vs,hs,rfl⟩,?_⟩;have:(!vs.isEmpty)=!ds.isEmpty:=by cases r <;> rfl
  rw [this];exact k _ H' qb s⟩
theorem ti{K:QN}{H:Hp}{O:Ex}{z:Str}:∀{kv:List (aq×V)}{ks:List Str}{ds:List Yi},kv.map (·.1)=ks.map Sn->ai K H O (kv.map (·.2)) ds->bg ks ds z=none->dJ kv (.inr z)=none
 | [],_,ds,_,_,e=>rfl
 | _::_,[],ds,h,_,_=>by cases h
 | p::kv,k::ks,ds,h,hd,e=>by
  rw [QR] at hd;cases hd with
  | cons h1 h2=>
   simp only [QR,RG] at h;obtain⟨p1,p2⟩:=p;obtain⟨rfl,h⟩:=h;unfold bg at e;by_cases hk:k=z
   ·rw [Yf hk] at e;cases e
   ·rw [Ye hk] at e;rw [ph (λq=>hk (jn.mp q))];exact ti h h2 e
def lA(to tk:DT):DT:=λδ Q=>to δ λx=>∃ks ds,x=fX ks ds/\tk δ λy=>∃z,y= .str z/\Q ((bg ks ds z).getD .none)
theorem L7{o e:Yr}{to tk:DT}{apos cpos:Pos}(hu:X.A.units+64 < YL)(ho:DE X H0 O0 o to)(he:DE X H0 O0 e tk)(m:M1 X o "get" apos e cpos):DE X H0 O0 (.Call (.Attribute o "get" apos) [e] [] cpos) (lA to tk):=
 (Cc Yd ho he m).imp λσ H Q uu34=>by
  obtain⟨O,δ,Qd,w,q,k⟩:=uu34;refine⟨O,δ,_,w,q,λx vx H1 ⟨ks,ds,ex,q1⟩ s1 r1=>?_⟩;subst ex;cases r1 with
  | @dic a ob kv ks' kp ds h e1 e2 n rr=>
   have ek:ks'=ks:=by
    have:ks'.map QU=ks.map QU:=e2.symm;exact pq this
   subst ek;refine⟨a,rfl,.inl ⟨kv,.inr ⟨_,h⟩⟩,O,δ,_,w.mono s1,q1,λy vy H2 ⟨z,ey,q2⟩ s2 r2=>?_⟩;subst ey;cases r2;refine⟨_,cF.z (k:= .inr z) (s2 _ _ h),k _ _ _ q2 (s1.trans s2) ?_⟩;cases hd:bg ks' ds z with
   | none=>rw [ti e1 rr hd];exact .non
   | some d=>
    obtain⟨v,hv,dv⟩:=qN e1 rr hd;rw [hv];exact dv.mono s2
def lB(to tk tx:DT):DT:=λδ Q=>to δ λx=>∃ks ds,x=fX ks ds/\tk δ λy=>tx δ λu=>∃z,y= .str z/\Q ((bg ks ds z).getD u)
theorem L8{o e f:Yr}{to tk tx:DT}{apos cpos:Pos}(hu:X.A.units+64 < YL)(ho:DE X H0 O0 o to)(he:DE X H0 O0 e tk)(hf:DE X H0 O0 f tx)(m:M2 X o "get" apos e f cpos):DE X H0 O0 (.Call (.Attribute o "get" apos) [e,f] [] cpos) (lB to tk tx):=
 (J8 Yd ho he hf m).imp λσ H Q uu37=>by
  obtain⟨O,δ,Qd,w,q,k⟩:=uu37;refine⟨O,δ,_,w,q,λx vx H1 ⟨ks,ds,ex,q1⟩ s1 r1=>?_⟩;subst ex;cases r1 with
  | @dic a ob kv ks' kp ds h e1 e2 n rr=>
   have ek:ks'=ks:=by
    have:ks'.map QU=ks.map QU:=e2.symm;exact pq this
   subst ek;refine⟨a,rfl,.inl ⟨kv,.inr ⟨_,h⟩⟩,O,δ,_,w.mono s1,q1,λy vy H2 q2 s2 r2=>?_⟩;refine⟨O,δ,_,(w.mono s1).mono s2,q2,λu vu H3 ⟨z,ey,q3⟩ s3 r3=>?_⟩;subst ey;cases r2;refine⟨_,cF.z (k:= .inr z) (s3 _ _ (s2 _ _ h)),k _ _ _ q3 ((s1.trans s2).trans s3) ?_⟩;cases hd:bg ks' ds z with
   | none=>rw [ti e1 rr hd];exact r3
   | some d=>
    obtain⟨v,hv,dv⟩:=qN e1 rr hd;rw [hv];exact(dv.mono s2).mono s3
end
theorem Dt.dicE{K:QN}{H:Hp}{O:Ex}{v:V}{ks:List Str}{ds:List Yi}(h:Dt K H O v (fX ks ds)):∃a ob kv,v= .ref a/\H a=some (.frz ob (.dK kv))/\kv.map (·.1)=ks.map Sn/\¬O a/\ai K H O (kv.map (·.2)) ds:=by
 cases h with
 | @dic a ob kv ks' kp ds h e1 e2 n rr=>
  have ek:ks'=ks:=pq e2.symm;subst ek;exact⟨a,ob,kv,rfl,h,e1,n,rr⟩
theorem Dz{K:QN}{H:Hp}{O:Ex}{z:Str}{kv:List (aq×V)}{ks:List Str}{ds:List Yi}(e1:kv.map (·.1)=ks.map Sn)(r:ai K H O (kv.map (·.2)) ds):(dJ kv (.inr z)).isSome=(bg ks ds z).isSome:=by
 cases hd:bg ks ds z with
 | none=>rw [ti e1 r hd];rfl
 | some d=>
  obtain⟨v,hv,_⟩:=qN e1 r hd;rw [hv];rfl
section
variable {X:Cx} {H0:Hp} {O0:Ex}
def h7(neg:Bool)(tk to:DT):DT:=λδ Q=>tk δ λy=>to δ λx=>∃z ks ds,y= .str z/\x=fX ks ds/\Q (.bool (if neg then !(bg ks ds z).isSome else(bg ks ds z).isSome))
theorem L9{o e:Yr}{tk to:DT}(hu:X.A.units+64 < YL)(ho:DE X H0 O0 o to)(he:DE X H0 O0 e tk):PC X .In e o (up X.K H0 O0 (h7 false tk to)):=λZY s σ H Q I ⟨O,δ,Qd,w,q,k⟩=>
 J0 Yd he ho ZY s σ H Q I ⟨O,δ,_,w,q,λy uy H2 q2 s2 r2=>⟨O,δ,_,w.mono s2,q2,λx ux H3 uu41 s3 r3=>by
  obtain⟨z,ks,ds,ey,ex,q3⟩:=uu41;subst ey ex;cases r2;obtain⟨a,ob,kv,rfl,h,e1,n,rr⟩:=r3.dicE;exact⟨a,_,rfl,cF.z (k:= .inr z) h,by rw [Dz e1 rr];exact k _ _ _ q3 (s2.trans s3) (.bl _)⟩⟩⟩
theorem Ma{o e:Yr}{tk to:DT}(hu:X.A.units+64 < YL)(ho:DE X H0 O0 o to)(he:DE X H0 O0 e tk):PC X .NotIn e o (up X.K H0 O0 (h7 true tk to)):=λZY s σ H Q I ⟨O,δ,Qd,w,q,k⟩=>
 B9 Yd he ho ZY s σ H Q I ⟨O,δ,_,w,q,λy uy H2 q2 s2 r2=>⟨O,δ,_,w.mono s2,q2,λx ux H3 uu43 s3 r3=>by
  obtain⟨z,ks,ds,ey,ex,q3⟩:=uu43;subst ey ex;cases r2;obtain⟨a,ob,kv,rfl,h,e1,n,rr⟩:=r3.dicE;exact⟨a,_,rfl,cF.z (k:= .inr z) h,by rw [Dz e1 rr];exact k _ _ _ q3 (s2.trans s3) (.bl _)⟩⟩⟩
theorem QL{o e:Yr}{tk to:DT}{pos:Pos}(hu:X.A.units+64 < YL)(ho:DE X H0 O0 o to)(he:DE X H0 O0 e tk)(hm:YO .In o=false:=by rfl):PT X (.Compare e [.In] [o] pos) (bV X.K H0 O0 (c7 (h7 false tk to))):=
 (rE (L9 hu ho he) hm).imp λσ H Q uu44=>by obtain⟨O,δ,Qd,w,q,k⟩:=uu44;exact⟨O,δ,_,w,q,λd v H' uu45 s r=>by obtain⟨b,e,qb⟩:=uu45;subst e;cases r;exact⟨b,rfl,k b H' qb s⟩⟩
theorem Mb{o e:Yr}{tk to:DT}{pos:Pos}(hu:X.A.units+64 < YL)(ho:DE X H0 O0 o to)(he:DE X H0 O0 e tk)(hm:YO .NotIn o=false:=by rfl):PT X (.Compare e [.NotIn] [o] pos) (bV X.K H0 O0 (c7 (h7 true tk to))):=
 (rE (Ma hu ho he) hm).imp λσ H Q uu46=>by obtain⟨O,δ,Qd,w,q,k⟩:=uu46;exact⟨O,δ,_,w,q,λd v H' uu47 s r=>by obtain⟨b,e,qb⟩:=uu47;subst e;cases r;exact⟨b,rfl,k b H' qb s⟩⟩
theorem DC{X:Cx}{pos:Pos}:PE X (.Dict [] [] pos) (λ_ H Q=>∀p o,H p=none->Q (.ref p) (ah H p (.frz o (.dK [])))):=λZY s σ H Q I h=>by
 have I1:=I.laid (a:=s.heap.objs.size) (o:= .dK []) (t':=s.toks) (λ_ _ q=>QS _ q) (QQ _) (Ca s.heap I.big);obtain⟨o,I2⟩:=I1.fast bq;rw [Hf] at I2;exact wpAny_Dict_empty ⟨.ref s.heap.objs.size,_,I2,rfl,h _ o (I.hok.fresh (QQ _))⟩
end
mutual
def cG:Yi->Bool
 | .list ds=>fH ds
 | .tuple ds=>fH ds
 | .none=>true
 | .bool _=>true
 | .int _=>true
 | .str _=>true
 | _=>false
def fH:List Yi->Bool
 | []=>true
 | d::ds=>cG d && fH ds
end
def Gp(C:Yl)(H:Hp)(O O1:Ex):Prop:=∀a,O a->O1 a\/(∃o kv,H a=some (.frz o (.dK kv)))\/∃dx fs,H a=some (.ins C dx fs)
theorem Gp.ne{C:Yl}{H:Hp}{O O1:Ex}(g:Gp C H O O1){a:Yl}{u:HO}(h:Rd H a u)(n:¬O1 a)(h1:∀kv,u≠ .dK kv)(h2:∀dx fs,u≠ .ins C dx fs)(h3:∀o kv,u≠ .frz o (.dK kv)):¬O a:=λz=>by
 rcases g a z with q | ⟨o,kv,q⟩ | ⟨dx,fs,q⟩
 ·exact n q
 ·rcases h with h | ⟨o',h⟩ <;> rw [q] at h <;> cases h
  ·exact h3 _ _ rfl
  ·exact h1 _ rfl
 ·rcases h with h | ⟨o',h⟩ <;> rw [q] at h <;> cases h;exact h2 _ _ rfl
mutual
theorem Dt.cln{K:QN}{C:Yl}{H:Hp}{O O1:Ex}(g:Gp C H O O1):∀{v:V}{d:Yi},Dt K H O1 v d->cG d=true->Dt K H O v d
 | _,_,.non,_=>.non
 | _,_,.bl b,_=>.bl b
 | _,_,.int i,_=>.int i
 | _,_,.str x,_=>.str x
 | _,_,.tup h n r,c=>.tup h (g.ne h n (λ_ z=>nomatch z) (λ_ _ z=>nomatch z) (λ_ _ z=>nomatch z)) (ai.cln g r (by simpa [cG] using c))
 | _,_,.tupK h r,c=>.tupK h (ai.cln g r (by simpa [cG] using c))
 | _,_,.lst h n r,c=>.lst h (g.ne h n (λ_ z=>nomatch z) (λ_ _ z=>nomatch z) (λ_ _ z=>nomatch z)) (ai.cln g r (by simpa [cG] using c))
 | _,_,.pack _ _,c=>by simp [cG] at c
 | _,_,.purse _ _,c=>by simp [cG] at c
 | _,_,.dct0 _ _,c=>by simp [cG] at c
 | _,_,.obj _ _ _ _,c=>by simp [cG] at c
 | _,_,.dic _ _ _ _ _,c=>by simp [cG] at c
 | _,_,.scr _ _,c=>by simp [cG] at c
theorem ai.cln{K:QN}{C:Yl}{H:Hp}{O O1:Ex}(g:Gp C H O O1):∀{vs:List V}{ds:List Yi},ai K H O1 vs ds->fH ds=true->ai K H O vs ds
 | _,_,.nil,_=>.nil
 | _,_,.cons h r,c=>by
  rw [fH,RW] at c;exact .cons (Dt.cln g h c.1) (ai.cln g r c.2)
end
def wu(C:Yl)(d:Yi):Prop:=cG d=true\/∃C' kp ds,C'≠C/\d=fx C' kp ds/\fH ds=true
theorem Dt.clnO{K:QN}{C:Yl}{H:Hp}{O O1:Ex}(g:Gp C H O O1){v:V}{d:Yi}(h:Dt K H O1 v d)(c:wu C d):Dt K H O v d:=by
 rcases c with c | ⟨C',kp,ds,ne,rfl,c⟩
 ·exact h.cln g c
 ·generalize e:fx C' kp ds=x at h;cases h with
  | @obj a C2 dx fs kp' ds' h1 h2 n r=>
   simp only [fx,Xj,RG,Vs,R7,R3,SI,and_true,true_and] at e;obtain⟨e1,e2,e3⟩:=e;have e1:C'=C2:=by exact_mod_cast e1
   subst e1 e2 e3;refine .obj h1 h2 ?_ (r.cln g c);exact g.ne (.inl h1) n (λ_ z=>nomatch z) (λ_ _ z=>by cases z;exact ne rfl) (λ_ _ z=>nomatch z)
  | _=>first | cases e | simp [fx] at e
theorem bK.thaw{P:Yu}{w:Yv}{H:Hp}{h:Yw}(x:bK P w H h){g:Yl}{o:Obj}{kv:List (aq×V)}(e:H g=some (.frz o (.dK kv))):bK P w (ah H g (.dK kv)) h:=λb u q=>by
 by_cases hb:b=g
 ·subst hb;rw [bq] at q;cases q;obtain⟨_,z⟩:=x b _ e;exact z
 ·rw [az hb] at q;exact(x b u q).stay (λ_ _ _ r=>r) (λc r=>by rw [az (λz=>by rw [z,e] at r;cases r)];exact r) λc xs r=>by rw [az (λz=>by rw [z,e] at r;cases r)];exact r
theorem ag.thaw{X:Cx}{ZY:List (Yl×Obj)}{σ:St}{H:Hp}{s:Ym}(I:ag X ZY σ H s){g:Yl}{o:Obj}{kv:List (aq×V)}(e:H g=some (.frz o (.dK kv)))(hX:∀o u,X.H₀ g≠some (.frz o u)):ag X ZY σ (ah H g (.dK kv)) s:=by
 have ne:∀{b:Yl},H b=none->b≠g:=λn z=>by rw [z,e] at n;cases n
 refine⟨I.ok,I.os,I.bare,⟨I.base.keep,I.base.slot,λb o' h1 h2 h3=>?_,I.base.there,λb xs q=>?_,λb o' u q=>?_,λb ps q=>?_⟩,I.loc,I.cell,?_,λx c q=>?_,λp hp=>?_,I.hok.thaw e,I.len⟩
 ·have:=I.base.free b o' h1 h2 h3;rw [az (ne this)];exact this
 ·have:=I.base.tups b xs q;rw [az (λz=>by rw [z,e] at this;cases this)];exact this
 ·have:=I.base.frzs b o' u q;rw [az (λz=>hX o' u (by rw [<-z];exact q))];exact this
 ·obtain⟨m,this⟩:=I.base.tbls b ps q;exact⟨m,by rw [az (λz=>by rw [z,e] at this;cases this)];exact this⟩
 ·rw [az (ne I.free)];exact I.free
 ·rw [az (ne (I.freeC x c q))];exact I.freeC x c q
 ·obtain⟨a,b,c⟩:=I.pin p hp;exact⟨a,by rw [az (ne b)];exact b,c⟩
section
variable {X:Cx} {CX:eZ} {k:Nat} {f C:Yl} {fd:Ys} {ps:List Str} {sp:Sp} {E:XK} {x m:Str} {p pos apos:Pos} {e o:Yr} {es:List Yr} {ta:TE} {t:TA}
def Mc(X:Cx)(C:Yl)(m:Str)(sp:Sp)(E:XK)(ta:TE)(t:TA):TE:=λσ H Q=>ta σ H λx H1=>∃a dx fs,x= .ref a/\H1 a=some (.ins C dx fs)/\fs.lookup m=none/\
 t σ H1 λvs H2=>∃g u og ou gv uv,g≠u/\H2 g=some (.frz og (.dK gv))/\H2 u=some (.frz ou (.dK uv))/\(∀o z,X.H₀ g≠some (.frz o z))/\(∀o z,X.H₀ u≠some (.frz o z))/\
  sp (x::vs) (ah (ah H2 g (.dK gv)) u (.dK uv)) (λv H3=>∃gv' uv',H3 g=some (.dK gv')/\H3 u=some (.dK uv')/\∀og' ou',Q v (ah (ah H3 g (.frz og' (.dK gv'))) u (.frz ou' (.dK uv')))) E
theorem Md{pl:Sem Bool}(he:PE X o ta)(c:cQ X.K C)(hm:gY X.K C m f)(F:aA X.prog X.w X.K X.mg X.base CX k f fd ps sp)(hr:bp k X.A)(hb:cS X.K fd ps [])(hx:gZ CX X E)(ha:PA X (e::es) t)
 (hst:Yp (e::es) X.env=(false,eval e X.env)::Yp es X.env:=by rfl)(hpl:(YC pos (Yp es X.env)).any (·.1)=false:=by rfl)
 (ht:eval (.Call (.Attribute o m apos) (e::es) [] pos) X.env=(do
  let ov<-eval o X.env
  ZD apos.atName
  let (f,first)<-Zs [ov] (ZE ov m pl)
  callWith pos f first (YC pos (Yp (e::es) X.env)) (Y6 pos (YS [] X.env))):=by rfl):
 PE X (.Call (.Attribute o m apos) (e::es) [] pos) (Mc X C m sp E ta t):=by
 intro ZY s σ H Q I h;refine UT (pl:=pl) (aB (he ZY s σ H _ I h) λu s1 ⟨x,H1,I1,rx,a,dx,fs,ex,ea,l,q⟩=>?_) ht;subst ex;obtain rfl:u=RE a:=rx;refine rP I1 ea c hm l ?_;refine Vb (first:=[.ref a]) (h₀:=X.base) I.ok.mod.kin hm.kp (aB (ha pos ZY s1 σ H1 _ I1 q) λus s2 ⟨vs,H2,I2,r,q2⟩=>⟨I2.kIn,?_⟩) hst hpl;obtain⟨g,u,og,ou,gv,uv,ne,hg,hu,xg,xu,q2⟩:=q2;have I3:=(I2.thaw hg xg).thaw (g:=u) (o:=ou) (kv:=uv) (by rw [az (Ne.symm ne)];exact hu) xu;refine aB (qu (us:= .ref a::us) (vs:= .ref a::vs) (dvs:=[]) (ds:=[]) F hr hb .nil hx I3 (.cons rfl r) (by rw [RF];exact q2)) λv s3 z=>?_;obtain⟨y,H4,I4,ry,gv',uv',g4,u4,q4⟩:=z;obtain⟨og',I5⟩:=I4.fast g4;obtain⟨ou',I6⟩:=I5.fast (a:=u) (kv:=uv') (by rw [az (Ne.symm ne)];exact u4);exact⟨y,_,I6,ry,q4 og' ou'⟩
end
section
variable {X:Cx} {H0:Hp} {O0:Ex}
theorem DD{fs:List (Str×V)}{ks:List Str}{m:Str}(h:fs.map (λp=>QU p.1)=ks.map QU)(hm:m ∉ ks):fs.lookup m=none:=by
 have e:fs.map (·.1)=ks:=by
  apply pq;rw [<-h,Rc];rfl
 subst e
 induction fs with
 | nil=>rfl
 | cons p fs ih=>
  obtain⟨g,x⟩:=p;simp only [QR,QX,not_or] at hm;rw [Rx,show(m==g)=false by simpa using hm.1];exact ih (by rw [Rc];rfl) hm.2
def pA(C:Yl)(m:Str)(F:List Yi->(Yi->Prop)->Prop)(to:DT)(t:DA):DT:=λδ Q=>to δ λx=>∃(ks:List Str)(ds:List Yi),x=fx C (ks.map .str) ds/\m ∉ ks/\t δ λes=>F (x::es) Q
theorem Me{K:QN}{C:Yl}{m:Str}{F:List Yi->(Yi->Prop)->Prop}{to:DT}{t:DA}{E:XK}:∀σ H Q,up K H0 O0 (pA C m F to t) σ H Q->qt C m (aV K F) [] E (up K H0 O0 to) (gA K H0 O0 t) σ H Q:=
 λσ H Q uu50=>by obtain⟨O,δ,Qd,w,q,k⟩:=uu50;exact⟨O,δ,_,w,q,λx v H1 uu51 s1 r1=>by
  obtain⟨ks,ds,ex,hm,q1⟩:=uu51;have r0:=r1;subst ex;obtain⟨a,dx,fs,rfl,h1,h2,r⟩:=r1.objI;exact⟨a,dx,fs,rfl,h1,DD h2.symm hm,O,δ,_,w.mono s1,q1,λes vs H2 q2 s2 r2=>⟨O,_,Qd,(w.mono (s1.trans s2)).trk,by rw [RF];exact .cons (r0.mono s2) r2,q2,λd v H3 q3 s3 r3=>k d v H3 q3 (s1.trans (s2.trans s3)) r3⟩⟩⟩
theorem tj{K:QN}{C:Yl}{m:Str}{F:List Yi->(Yi->Prop)->Prop}{to:DT}{E:XK}:∀σ H Q,up K H0 O0 (pA C m F to gC) σ H Q->qt C m (aV K F) [] E (up K H0 O0 to) oV σ H Q:=
 λσ H Q uu52=>by obtain⟨O,δ,Qd,w,q,k⟩:=uu52;exact⟨O,δ,_,w,q,λx v H1 uu53 s1 r1=>by
  obtain⟨ks,ds,ex,hm,q1⟩:=uu53;have r0:=r1;subst ex;obtain⟨a,dx,fs,rfl,h1,h2,r⟩:=r1.objI;exact⟨a,dx,fs,rfl,h1,DD h2.symm hm,O,_,Qd,(w.mono s1).trk,.cons r0 .nil,q1,λd v H3 q3 s3 r3=>k d v H3 q3 (s1.trans s3) r3⟩⟩
end
def om:Dl->Bool
 | []=>true
 | some (.r _ _ _ _ _ _ _)::_=>false
 | _::r=>om r
theorem DH{l C g u:Yl}{fd:List (Str×Yi)}{gd ud:List (aq×Yi)}:∀{δ:Dl}{j:Nat},om δ=true->δ[j]?≠some (some (.r l C g u fd gd ud))
 | [],_,_,z=>by simp at z
 | y::r,0,h,z=>by
  simp at z;subst z;simp [om] at h
 | y::r,j+1,h,z=>by
  have h':om r=true:=by
   unfold om at h;split at h
   ·rename_i q;cases q
   ·cases h
   ·rename_i q;cases q;exact h
  exact DH (δ:=r) (j:=j) h' (by simpa using z)
section
variable {K:QN} {H0 H H':Hp} {O0 O:Ex} {σ:St} {δ:Dl}
theorem g8.goN{O':Ex}{x:Option V}{y:Option Sl}(h:g8 K H O0 O x y)(nr:∀l C g u fd gd ud,y≠some (.r l C g u fd gd ud))(S:aH H H' O O')(kp:∀l o z,y=some z->z.own->x=some (.ref l)->O l->¬O0 l->H l=some o->O' l/\H' l=some o)(kp3:∀a o,O0 a->H a=some o->H' a=some o):g8 K H' O0 O' x y:=by
 match y,h with
 | none,_=>exact Tg
 | some (.v d),⟨v,e,r⟩=>exact⟨v,e,r.step S⟩
 | some (.o ds),⟨l,vs,e,a,b,c,r⟩=>exact⟨l,vs,e,(kp l _ _ rfl trivial e a b c).1,b,(kp l _ _ rfl trivial e a b c).2,r.step S⟩
 | some (.k ds),⟨l,vs,e,a,b,c,r⟩=>exact⟨l,vs,e,(kp l _ _ rfl trivial e a b c).1,b,(kp l _ _ rfl trivial e a b c).2,r.step S⟩
 | some (.i l C ds),⟨dx,vs,e,a,b,c,r1,r2⟩=>exact⟨dx,vs,e,(kp l _ _ rfl trivial e a b c).1,b,(kp l _ _ rfl trivial e a b c).2,r1,r2.step S⟩
 | some (.r l C g u fd gd ud),_=>exact absurd rfl (nr l C g u fd gd ud)
 | some (.b ds),⟨l,vs,e,a,c,r⟩=>exact⟨l,vs,e,a,kp3 _ _ a c,r.step S⟩
theorem Mf{i j:Nat}(h:j≠i):(δ.set i none)[j]?=δ[j]?:=Q6 (Ne.symm h)
theorem Wd.putR(w:Wd K H0 O0 H O σ δ){i:Nat}{l C g u:Yl}{fd:List (Str×Yi)}{gd ud gd' ud':List (aq×Yi)}{gv uv:List (aq×V)}{og ou:Obj}(e:δ[i]?=some (some (.r l C g u fd gd ud)))(nr:om (δ.set i none)=true)(hg:bC K H O gv gd')(hu:bC K H O uv ud'):
 Wd K H0 O0 (ah (ah H g (.frz og (.dK gv))) u (.frz ou (.dK uv))) O σ (δ.set i (some (.r l C g u fd gd' ud')))/\aH H (ah (ah H g (.frz og (.dK gv))) u (.frz ou (.dK uv))) O O:=by
 obtain⟨x1,x2,x3,dx,fs,og0,ou0,gv0,uv0,hl,hf,ne,⟨g1,g2,g3,_⟩,u1,u2,u3,_⟩:=w.sl i _ e;have g0:H0 g=none:=(w.new g g1).resolve_left g2;have u0:H0 u=none:=(w.new u u1).resolve_left u2;have li:i < δ.length:=(QZ.mp e).1;have at_:∀{b:Yl},b≠g->b≠u->(ah (ah H g (.frz og (.dK gv))) u (.frz ou (.dK uv))) b=H b:=λh1 h2=>by rw [az h2,az h1]
 have S:aH H (ah (ah H g (.frz og (.dK gv))) u (.frz ou (.dK uv))) O O:=⟨λb o q n=>by rw [at_ (λz=>n (by rw [z];exact g1)) (λz=>n (by rw [z];exact u1))];exact q,λ_ _ n=>n⟩;have gg:(ah (ah H g (.frz og (.dK gv))) u (.frz ou (.dK uv))) g=some (.frz og (.dK gv)):=by rw [az ne,bq]
 have lg:l≠g:=λz=>by rw [z,g3] at hl;cases hl
 have lu:l≠u:=λz=>by rw [z,u3] at hl;cases hl
 refine⟨⟨λb o q=>by rw [at_ (λz=>by rw [z,g0] at q;cases q) (λz=>by rw [z,u0] at q;cases q)];exact w.same b o q,w.sub,w.new,λb z=>?_,by simp [w.len],λj y q=>?_,λj k y z b e1 y1' e2 z2 e3 e4=>?_⟩,S⟩
 ·by_cases q1:b=g
  ·rw [q1,gg];exact λz=>nomatch z
  ·by_cases q2:b=u
   ·rw [q2,bq];exact λz=>nomatch z
   ·rw [at_ q1 q2];exact w.trk b z
 ·by_cases hj:j=i
  ·subst hj;rw [Rk li] at q;cases q;exact⟨x1,x2,x3,dx,fs,og,ou,gv,uv,by rw [at_ lg lu];exact hl,⟨hf.1,hf.2.step S⟩,ne,⟨g1,g2,gg,hg.step S⟩,u1,u2,bq,hu.step S⟩
  ·rw [Q6 (Ne.symm hj)] at q;refine(w.sl j y q).goN (λl' C' g' u' fd' gd' ud' z=>?_) S (λb o z hz ho e' a1 a2 a3=>⟨a1,?_⟩) λb o a1 a3=>?_
   ·subst z;exact DH nr (by rw [Mf hj];exact q)
   ·subst hz;have nf:=w.nofrz q ho (fy e');rw [at_ (λz=>nf _ _ (by rw [z];exact g3)) (λz=>nf _ _ (by rw [z];exact u3))];exact a3
   ·rw [at_ (λz=>g2 (by rw [<-z];exact a1)) (λz=>u2 (by rw [<-z];exact a1))];exact a3
 ·have eB:∀{j:Nat}{y:Sl},(δ.set i (some (.r l C g u fd gd' ud')))[j]?=some (some y)->y.own->∃y',δ[j]?=some (some y')/\y'.own:=λ{j y} q hq=>by
   by_cases hj:j=i
   ·subst hj;exact⟨_,e,trivial⟩
   ·rw [Q6 (Ne.symm hj)] at q;exact⟨_,q,hq⟩
  obtain⟨_,q1,r1⟩:=eB e1 y1';obtain⟨_,q2,r2⟩:=eB e2 z2;exact w.dis j k _ _ b q1 r1 q2 r2 e3 e4
theorem Wd.setR(w:Wd K H0 O0 H O σ δ){i:Nat}{O':Ex}{l C g u:Yl}{fd:List (Str×Yi)}{gd ud:List (aq×Yi)}(sm:au H H')(sb:∀a,O a->O' a)(nw:∀a,O' a->O a\/H a=none)(tr:∀a,O' a->H' a≠none)(h1:O' l)(h2:¬O l)(R:vt K H' O O' l C g u fd gd ud):
 Wd K H0 O0 H' O' (σ.set i (some (.ref l))) (δ.set i (some (.r l C g u fd gd ud)))/\aH H H' O O':=by
 have S:aH H H' O O':=⟨λb o e _=>sm b o e,λb hb hn z=>(nw b z).elim hn hb⟩;have hl:H l=none:=(nw l h1).resolve_left h2;have none0:∀{a:Yl},H a=none->H0 a=none:=λ{a} h=>by
  cases e:H0 a with
  | none=>rfl
  | some o=>rw [w.same _ _ e] at h;cases h
 have n0:∀{a:Yl},¬O a->¬O0 a:=λh z=>h (w.sub _ z);refine⟨⟨w.same.trans sm,λa z=>sb a (w.sub a z),λa z=>(nw a z).elim (w.new a) λq=>.inr (none0 q),tr,by simp [w.len],λj y e=>?_,λj k y z a e1 y1 e2 z2 e3 e4=>?_⟩,S⟩
 ·by_cases hj:j=i
  ·subst hj;have li:j < δ.length:=by
    have:=(QZ.mp e).1;simpa using this
   rw [Rk li] at e;cases e;rw [Rk (by rw [w.len];exact li)];obtain⟨dx,fs,og,ou,gv,uv,r1,r2,r3,⟨a1,a2,a3⟩,b1,b2,b3⟩:=R;exact⟨rfl,h1,n0 h2,dx,fs,og,ou,gv,uv,r1,r2,r3,⟨a1,n0 a2,a3⟩,b1,n0 b2,b3⟩
  ·rw [Q6 (Ne.symm hj)] at e⊢;exact(w.sl j y e).go S (λl o _ _ a _ c=>⟨sb _ a,sm _ _ c⟩) (λa o u a1 _ a3=>⟨sb _ a1,sm _ _ a3⟩) λa o _ a3=>sm _ _ a3
 ·have no:∀{j:Nat}{y:Sl},j≠i->δ[j]?=some (some y)->y.own->σ[j]?≠some (some (.ref l)):=λ{j y} _ e h z=>by
   obtain⟨l',x1,x2,_⟩:=w.adr e h;rw [z] at x1;cases x1;exact h2 x2
  by_cases hj:j=i
  ·by_cases hk:k=i
   ·rw [hj,hk]
   ·exfalso;rw [hj] at e3;have li:i < σ.length:=by
     have:=(QZ.mp e3).1;simpa using this
    rw [Rk li] at e3;cases e3;rw [Q6 (Ne.symm hk)] at e2 e4;exact no hk e2 z2 e4
  ·by_cases hk:k=i
   ·exfalso;rw [hk] at e4;have li:i < σ.length:=by
     have:=(QZ.mp e4).1;simpa using this
    rw [Rk li] at e4;cases e4;rw [Q6 (Ne.symm hj)] at e1 e3;exact no hj e1 y1 e3
   ·rw [Q6 (Ne.symm hj)] at e1 e3;rw [Q6 (Ne.symm hk)] at e2 e4;exact w.dis j k _ _ a e1 y1 e2 z2 e3 e4
end
def gb(m:Str)(ks:List Str):Bool:=ks.all (λk=>!(k==cb) && !(k==c0) && !(k==m)) && !(m==cb) && !(m==c0)
theorem wx{fs gs:List (Str×V)}{m:Str}(h:∀p∈fs,p.1≠m):(fs++gs).lookup m=gs.lookup m:=by
 induction fs with
 | nil=>rfl
 | cons p fs ih=>
  obtain⟨k,v⟩:=p;have hk:k≠m:=h (k,v) RC;rw [R4,Rx,show(m==k)=false by simpa using Ne.symm hk];exact ih λq hq=>h q (Ri _ hq)
theorem tm{K:QN}{H:Hp}{O:Ex}{fs:List (Str×V)}{fd:List (Str×Yi)}{m:Str}(hf:ix K H O fs fd)(h:gb m (fd.map (·.1))=true):(∀p∈fs,p.1≠cb/\p.1≠c0/\p.1≠m)/\m≠cb/\m≠c0:=by
 unfold gb at h;simp only [RW,Wk,Sm,beq_eq_false_iff_ne] at h;refine⟨λp hp=>?_,h.1.2,h.2⟩;have hm:p.1∈fd.map (·.1):=by rw [<-hf.1];exact List.mem_map_of_mem hp
 obtain⟨⟨a,b⟩,c⟩:=h.1.1 _ hm;exact⟨a,b,c⟩
theorem DI:cb≠c0:=Yb
section
variable {K:QN} {H:Hp} {O:Ex} {fs:List (Str×V)} {fd:List (Str×Yi)} {m:Str} {g u:Yl}
theorem DJ(hf:ix K H O fs fd)(h:gb m (fd.map (·.1))=true):(fs++[(cb,V.ref g),(c0,V.ref u)]).lookup cb=some (.ref g):=by
 rw [wx λp hp=>((tm hf h).1 p hp).1];simp [Rx]
theorem Mg(hf:ix K H O fs fd)(h:gb m (fd.map (·.1))=true):(fs++[(cb,V.ref g),(c0,V.ref u)]).lookup c0=some (.ref u):=by
 rw [wx λp hp=>((tm hf h).1 p hp).2.1,Rx,show(c0==cb)=false by simpa using Ne.symm DI];simp [Rx]
theorem DK(hf:ix K H O fs fd)(h:gb m (fd.map (·.1))=true):(fs++[(cb,V.ref g),(c0,V.ref u)]).lookup m=none:=by
 obtain⟨a,b,c⟩:=tm hf h;rw [wx λp hp=>(a p hp).2.2,Rx,show(m==cb)=false by simpa using b,Rx,show(m==c0)=false by simpa using c];rfl
end
def DL(K:QN)(C:Yl):Sp:=λvs H Q _=>∃l dx fs g u gv uv a x y z,vs=[.ref l,.ref a]/\H l=some (.ins C dx fs)/\fs.lookup cb=some (.ref g)/\fs.lookup c0=some (.ref u)/\g≠u/\H g=some (.dK gv)/\H u=some (.dK uv)/\
 aZ K H a [.str x,y,z]/\gv.length < Yt/\uv.length < Yt/\((z= .non/\Q .non (ah H g (.dK (putK gv (.inr x) y))))\/∃s,z= .str s/\Q .non (ah (ah H g (.dK (putK gv (.inr x) y))) u (.dK (putK uv (.inr s) (.bl true)))))
section
variable {X:Cx} {H0:Hp} {O0:Ex}
def wy(C:Yl)(i:Nat)(m:Str)(t:DT):DS:=λE δ=>∃l g u fd gd ud,δ[i]?=some (some (.r l C g u fd gd ud))/\om (δ.set i none)=true/\gb m (fd.map (·.1))=true/\t δ λd=>∃x y z,d= .tuple [.str x,y,z]/\gd.length < Yt/\ud.length < Yt/\
 ((z= .none/\E.nx (δ.set i (some (.r l C g u fd (fT gd (.inr x) y) ud))))\/∃s,z= .str s/\E.nx (δ.set i (some (.r l C g u fd (fT gd (.inr x) y) (fT ud (.inr s) (.bool true))))))
theorem DM{C f:Yl}{i k:Nat}{m:Str}{o e:Yr}{t:DT}{fdt:Ys}{ps:List Str}{pl:Sem Bool}{E:XK}{apos cpos pos:Pos}(hX:∀b,H0 b=none->∀o z,X.H₀ b≠some (.frz o z))(ho:PE X o (cJ i))(c:cQ X.K C)(hm:gY X.K C m f)(F:aA X.prog X.w X.K X.mg X.base CX0 k f fdt ps (DL X.K C))(hr:bp k X.A)(hb:cS X.K fdt ps [])(hx:gZ CX0 X E)
 (he:DE X H0 O0 e t)(hst:Yp [e] X.env=(false,eval e X.env)::Yp [] X.env:=by rfl)(hpl:(YC cpos (Yp [] X.env)).any (·.1)=false:=by rfl)
 (ht:eval (.Call (.Attribute o m apos) [e] [] cpos) X.env=(do
  let ov<-eval o X.env
  ZD apos.atName
  let (f,first)<-Zs [ov] (ZE ov m pl)
  callWith cpos f first (YC cpos (Yp [e] X.env)) (Y6 cpos (YS [] X.env))):=by rfl)
 (hs:YD (.Call (.Attribute o m apos) [e] [] cpos) none pos.line X.env=pure false:=by rfl):PS X (.Expr (.Call (.Attribute o m apos) [e] [] cpos) pos) (bh X.K H0 O0 (wy C i m t)):=
 (qc (Md (pl:=pl) ho c hm F hr hb hx (bw he b7 hst) hst hpl ht) hs).imp λD σ H uu54=>by
  obtain⟨O,δ,E,w,⟨l,g,u,fd,gd,ud,ei,nr,rk,q⟩,k1,k2,k3,k4⟩:=uu54;obtain⟨x1,x2,x3,dx,fs,og,ou,gv,uv,hl,hf,ne,⟨g1,g2,g3,g4⟩,u1,u2,u3,u4⟩:=w.sl i _ ei;refine⟨_,fy x1,l,dx,_,rfl,hl,DK hf rk,O,δ,_,w,q,λd v H1 ⟨x,y,z,ed,l1,l2,q1⟩ s1 r1=>?_⟩;subst ed;obtain⟨a,xs,rfl,sq,rs⟩:=(Sh.dt r1).tup;have hxs:∃y' z',xs=[.str x,y',z']/\Dt X.K H1 O y' y/\Dt X.K H1 O z' z:=by
   cases rs with
   | cons a1 r=>
    cases r with
    | cons a2 r=>
     cases r with
     | cons a3 r=>
      cases r;cases a1;exact⟨_,_,rfl,a2,a3⟩
  obtain⟨y',z',rfl,dy,dz⟩:=hxs;have w1:=w.mono s1;have hl1:=s1 _ _ hl;have g31:=s1 _ _ g3;have u31:=s1 _ _ u3;have lg:l≠g:=λz=>by rw [z,g3] at hl;cases hl
  have lu:l≠u:=λz=>by rw [z,u3] at hl;cases hl
  have ug:u≠g:=Ne.symm ne;have g0:H0 g=none:=(w.new g g1).resolve_left g2;have u0:H0 u=none:=(w.new u u1).resolve_left u2;have sqk:aZ X.K (ah (ah H1 g (.dK gv)) u (.dK uv)) a [.str x,y',z']:=by
   rcases sq with(h | ⟨ob,h⟩) | h
   ·exact .inl (.inl (by rw [az (λz=>by rw [z,u31] at h;cases h),az (λz=>by rw [z,g31] at h;cases h)];exact h))
   ·exact .inl (.inr ⟨ob,by rw [az (λz=>by rw [z,u31] at h;cases h),az (λz=>by rw [z,g31] at h;cases h)];exact h⟩)
   ·exact .inr h
  refine⟨g,u,og,ou,gv,uv,ne,g31,u31,hX g g0,hX u u0,l,dx,_,g,u,gv,uv,a,x,y',z',rfl,by rw [az lu,az lg];exact hl1,DJ hf rk,Mg hf rk,ne,by rw [az ne,bq],bq,sqk,by rw [g4.length];exact l1,by rw [u4.length];exact l2,?_⟩;rcases q1 with⟨rfl,q1⟩ | ⟨s,rfl,q1⟩
  ·cases dz;refine .inl ⟨rfl,putK gv (.inr x) y',uv,bq,by rw [az ug,bq],λog' ou'=>?_⟩;obtain⟨w2,S2⟩:=w1.putR (og:=og') (ou:=ou') (gv:=putK gv (.inr x) y') (uv:=uv) ei nr ((g4.mono s1).put (.inr x) dy) (u4.mono s1);have eh:ah (ah (ah (ah (ah H1 g (.dK gv)) u (.dK uv)) g (.dK (putK gv (.inr x) y'))) g (.frz og' (.dK (putK gv (.inr x) y')))) u (.frz ou' (.dK uv))=ah (ah H1 g (.frz og' (.dK (putK gv (.inr x) y')))) u (.frz ou' (.dK uv)):=by
    funext b;unfold ah;by_cases b1:b=u
    ·simp [b1]
    ·by_cases b2:b=g <;> simp [b1,b2]
   rw [eh];exact k1 _ _ _ _ q1 w2 (aH.trans (.same s1) S2)
  ·cases dz;refine .inr ⟨s,rfl,putK gv (.inr x) y',putK uv (.inr s) (.bl true),by rw [az ne,bq],bq,λog' ou'=>?_⟩;obtain⟨w2,S2⟩:=w1.putR (og:=og') (ou:=ou') (gv:=putK gv (.inr x) y') (uv:=putK uv (.inr s) (.bl true)) ei nr ((g4.mono s1).put (.inr x) dy) ((u4.mono s1).put (.inr s) (.bl true));have eh:ah (ah (ah (ah (ah (ah H1 g (.dK gv)) u (.dK uv)) g (.dK (putK gv (.inr x) y'))) u (.dK (putK uv (.inr s) (.bl true)))) g (.frz og' (.dK (putK gv (.inr x) y')))) u (.frz ou' (.dK (putK uv (.inr s) (.bl true))))=ah (ah H1 g (.frz og' (.dK (putK gv (.inr x) y')))) u (.frz ou' (.dK (putK uv (.inr s) (.bl true)))):=by
    funext b;unfold ah;by_cases b1:b=u
    ·simp [b1]
    ·by_cases b2:b=g <;> simp [b1,b2]
   rw [eh];exact k1 _ _ _ _ q1 w2 (aH.trans (.same s1) S2)
abbrev wz(C:Yl)(fd:List (Str×Yi))(gks uks:List Str)(gd ud:List (aq×Yi)):Yi:=fx C ((fd.map (·.1)++[cb,c0]).map .str) (fd.map (·.2)++[fX gks (gd.map (·.2)),fX uks (ud.map (·.2))])
def wA(C:Yl)(i:Nat)(m:Str)(F:List Yi->(Yi->Prop)->Prop)(t:DA):DT:=λδ Q=>∃l g u fd gd ud,δ[i]?=some (some (.r l C g u fd gd ud))/\gb m (fd.map (·.1))=true/\∃gks uks:List Str,gd.map (·.1)=gks.map Sn/\ud.map (·.1)=uks.map Sn/\
 t δ λes=>F (wz C fd gks uks gd ud::es) λd=>wu C d/\Q d
theorem Mh{K:QN}{C:Yl}{i:Nat}{m:Str}{F:List Yi->(Yi->Prop)->Prop}{t:DA}{E:XK}:∀σ H Q,up K H0 O0 (wA C i m F t) σ H Q->qt C m (aV K F) [] E (cJ i) (gA K H0 O0 t) σ H Q:=
 λσ H Q uu56=>by
  obtain⟨O,δ,Qd,w,⟨l,g,u,fd,gd,ud,ei,rk,gks,uks,ek,eu,q⟩,k⟩:=uu56;obtain⟨x1,x2,x3,dx,fs,og,ou,gv,uv,hl,hf,ne,⟨g1,g2,g3,g4⟩,u1,u2,u3,u4⟩:=w.sl i _ ei;refine⟨_,fy x1,l,dx,_,rfl,hl,DK hf rk,O,δ,_,w,q,λes vs H1 q1 s1 r1=>?_⟩;have o1:aH H1 H1 O (λa=>O a/\a≠l/\a≠g/\a≠u):=⟨λ_ _ z _=>z,λ_ _ n z=>n z.1⟩;refine⟨λa=>O a/\a≠l/\a≠g/\a≠u,_,_,λa z=>(w.mono s1).trk a z.1,?_,q1,λd v H2 ⟨c2,q2⟩ s2 r2=>k d v H2 q2 (s1.trans s2) (r2.clnO (C:=C) (λa z=>?_) c2)⟩
  ·rw [RF];refine .cons (.obj (s1 _ _ hl) ?_ (λz=>z.2.1 rfl) ?_) (r1.step o1)
   ·rw [Rf,Rf,<-hf.1,Rc];rfl
   ·rw [Rf];refine((hf.2.mono s1).step o1).append (.cons (.dic (s1 _ _ g3) (by rw [g4.keys];exact ek) rfl (λz=>z.2.2.1 rfl) ((g4.vals.mono s1).step o1)) (.cons (.dic (s1 _ _ u3) (by rw [u4.keys];exact eu) rfl (λz=>z.2.2.2 rfl) ((u4.vals.mono s1).step o1)) .nil))
  ·by_cases a1:a=l
   ·exact .inr (.inr ⟨dx,_,by rw [a1];exact(s1.trans s2) _ _ hl⟩)
   ·by_cases a2:a=g
    ·exact .inr (.inl ⟨og,gv,by rw [a2];exact(s1.trans s2) _ _ g3⟩)
    ·by_cases a3:a=u
     ·exact .inr (.inl ⟨ou,uv,by rw [a3];exact(s1.trans s2) _ _ u3⟩)
     ·exact .inl ⟨z,a1,a2,a3⟩
def wB(C:Yl)(i:Nat)(tk:DT):DT:=λδ Q=>tk δ λy=>∃z,y= .str z/\∃l g u fd gd ud,δ[i]?=some (some (.r l C g u fd gd ud))/\gb "mark" (fd.map (·.1))=true/\Q (.bool (!(fF gd (.inr z)).isSome))
theorem Mi{C:Yl}{i:Nat}{o e:Yr}{tk:DT}{pos:Pos}(hu:X.A.units+64 < YL)(hc:cQ X.K C)(hn:NoAttr X.K C cb)(ho:PE X o (cJ i))(he:DE X H0 O0 e tk)(hbs:YQ o cb X.env (eval o X.env)=eval o X.env:=by rfl):PC X .NotIn e (.Attribute o cb pos) (up X.K H0 O0 (wB C i tk)):=λZY s σ H Q I ⟨O,δ,Qd,w,q,k⟩=>
 B9 Yd he (rQ ho hbs) ZY s σ H Q I ⟨O,δ,_,w,q,λy uy H2 uu59 s2 r2=>by
  obtain⟨z,ez,l,g,u,fd,gd,ud,ei,rk,q2⟩:=uu59;subst ez;cases r2;obtain⟨x1,x2,x3,dx,fs,og,ou,gv,uv,hl,hf,ne,⟨g1,g2,g3,g4⟩,u1,u2,u3,u4⟩:=(w.mono s2).sl i _ ei;exact⟨_,fy x1,l,C,dx,_,.ref g,rfl,hl,hc,hn,DJ hf rk,g,_,rfl,cF.z (k:= .inr z) g3,by rw [g4.none];exact k _ _ _ q2 s2 (.bl _)⟩⟩
theorem Mj{C:Yl}{i:Nat}{o e:Yr}{tk:DT}{pos pos':Pos}(hu:X.A.units+64 < YL)(hc:cQ X.K C)(hn:NoAttr X.K C cb)(ho:PE X o (cJ i))(he:DE X H0 O0 e tk)(hbs:YQ o cb X.env (eval o X.env)=eval o X.env:=by rfl)(hm:YO .NotIn (.Attribute o cb pos')=false:=by rfl):PT X (.Compare e [.NotIn] [.Attribute o cb pos'] pos) (bV X.K H0 O0 (c7 (wB C i tk))):=
 (rE (Mi hu hc hn ho he hbs) hm).imp λσ H Q uu60=>by obtain⟨O,δ,Qd,w,q,k⟩:=uu60;exact⟨O,δ,_,w,q,λd v H' uu61 s r=>by obtain⟨b,e,qb⟩:=uu61;subst e;cases r;exact⟨b,rfl,k b H' qb s⟩⟩
end
section
variable {K:QN}
def wC(K:QN)(F:List Yi->List Yi->(Yi->Prop)->Prop):Sp:=λvs H Q _=>∃O vs' l ws ds es Qd,vs=vs'++[.ref l]/\(∀a,O a->H a≠none)/\ai K H O vs' ds/\O l/\H l=some (.lst ws)/\ai K H O ws es/\F ds es Qd/\∀d v H',Qd d->au H H'->Dt K H' O v d->Q v H'
def nt(N:List Str)(ds es:List Yi):Dl:=ds.map (λd=>some (.v d))++(some (.b es)::Q8 (N.length - (ds.length+1)) none)
theorem DN{H:Hp}{O:Ex}{N:List Str}{vs ws:List V}{ds es:List Yi}{l:Yl}(tr:∀a,O a->H a≠none)(r:ai K H O vs ds)(ol:O l)(hl:H l=some (.lst ws))(rs:ai K H O ws es):Wd K H O H O (start N (vs++[.ref l])) (nt N ds es):=by
 have ln:=r.length;have at1:∀(i:Nat) y,(nt N ds es)[i]?=some y->(∃d,ds[i]?=some d/\y=some (.v d))\/(i=ds.length/\y=some (.b es))\/y=none:=λi y e=>by
  unfold nt at e;by_cases h:i < ds.length
  ·rw [RV (by simpa using h),Q1] at e;cases q:ds[i]? with
   | none=>rw [q] at e;cases e
   | some d=>rw [q] at e;exact .inl ⟨d,rfl,(RT e).symm⟩
  ·rw [Si (by simpa using Tt h),QO,List.getElem?_cons] at e;split at e
   ·rename_i z;exact .inr (.inl ⟨Yd,(RT e).symm⟩)
   ·rw [T1] at e;split at e
    ·exact .inr (.inr (RT e).symm)
    ·cases e
 refine⟨au.refl _,λ_ z=>z,λ_ z=>.inl z,tr,by simp [start,nt,ln],λi y e=>?_,λi j ds' es l e1=>?_⟩
 ·rcases at1 i y e with⟨d,hd,rfl⟩ | ⟨rfl,rfl⟩ | rfl
  ·obtain⟨v,hv,rv⟩:=r.getD hd;refine⟨v,?_,rv⟩;have hi:=(QZ.mp hv).1;unfold start;rw [RV (by simp;omega),Q1,RV hi,hv];rfl
  ·refine⟨l,ws,?_,ol,hl,rs⟩;unfold start;rw [RV (by simp;omega),Q1,Si Yd,<-ln,TM];rfl
  ·exact Tg
 ·rcases at1 i _ e1 with⟨d,_,z⟩ | ⟨_,z⟩ | z
  ·cases z;intro h;exact h.elim
  ·cases z;intro h;exact h.elim
  ·cases z
end
section
variable {P:Yu} {w:Yv} {K:QN} {mg:Str->Option Yj} {base:Yw}
theorem d9.okB{x qual:Str}{st:Yx}{f:Yl}{fd:Ys}{N ps:List Str}{k:Nat}{F:List Yi->List Yi->(Yi->Prop)->Prop}(Fu:d9 K x qual st f fd)(S:aO N ps (av st))(len:∀ds es Q,F ds es Q->ds.length+1=ps.length)
 (hbody:∀(cdv:Yj) (A:Yz) (outer:List Env) (s:Ym) (H:Hp) (O:Ex) (ds es:List Yi) (Q:Yi->Prop) (E:XK),bp k (A.deeper (Zj qual (av st) s.heap.objs.size f cdv))->(∀a,O a->H a≠none)->F ds es Q->
  ∃t,bP (iu CX0 P w K mg base N qual (av st) f cdv A outer s H E).nox (fq st) (bh K H O t)/\t {nx:=λ_=>Q .none,rt:=Q} (nt N ds es)):aA P w K mg base CX0 (k+1) f fd ps (wC K F):=by
 refine Fu.ok S (λvs H Q E h=>?_) (λcdv A outer s H vs Q E hr h=>?_)
 ·obtain⟨O,vs',l,ws,ds,es,Qd,rfl,_,r,_,_,_,q,_⟩:=h;rw [Q2,r.length];exact len _ _ _ q
 ·obtain⟨O,vs',l,ws,ds,es,Qd,rfl,tr,r,ol,hl,rs,q,k⟩:=h;obtain⟨t,ht,q'⟩:=hbody cdv A outer s H O ds es Qd E hr tr q;refine⟨_,ht,O,_,_,DN tr r ol hl rs,q',λO' δ' σ' H' z w' S'=>?_,λd v H' z s' r'=>k d v H' z s' r',λ_ _ _ _ z=>z.elim,λ_ _ _ _ z=>z.elim⟩;exact k _ _ _ z w'.same .non
def wD(K:QN)(C:Yl)(F:List Yi->List Yi->(List (Str×Yi)->List (aq×Yi)->List (aq×Yi)->Prop)->Prop):Sp:=λvs H Q _=>∃x dx vs' l ws H1 O ds es Qd,vs= .ref x::(vs'++[.ref l])/\H=ah (ah H1 dx (.own x)) x (.ins C dx [])/\H1 x=none/\H1 dx=none/\dx≠x/\
 (∀a,O a->H1 a≠none)/\ai K H1 O vs' ds/\O l/\H1 l=some (.lst ws)/\ai K H1 O ws es/\F ds es Qd/\
 ∀fd gd ud g u O' H',Qd fd gd ud->au H1 H'->(∀a,O a->O' a)->(∀a,O' a->O a\/H1 a=none)->(∀a,O' a->H' a≠none)->O' x->¬O x->vt K H' O O' x C g u fd gd ud->Q .non H'
def wF(N:List Str)(l C:Yl)(ds es:List Yi):Dl:=some (.i l C [])::(nt N (.none::ds) es).tail
theorem Ml{H1:Hp}{O:Ex}{N:List Str}{vs ws:List V}{ds es:List Yi}{x dx C l:Yl}(tr:∀l,O l->H1 l≠none)(r:ai K H1 O vs ds)(ol:O l)(hl:H1 l=some (.lst ws))(rs:ai K H1 O ws es)(hx:H1 x=none)(hdx:H1 dx=none)(ne:dx≠x):
 Wd K H1 O (ah (ah H1 dx (.own x)) x (.ins C dx [])) (λl=>O l\/l=x) (start N (.ref x::(vs++[.ref l]))) (wF N x C ds es):=by
 have w0:=DN (N:=N) tr (.cons .non r) ol hl rs;have w1:=w0.mono (au.new (o:=HO.own x) hdx);have hx1:(ah H1 dx (.own x)) x=none:=by rw [az (Ne.symm ne)];exact hx
 have:=w1.setY (i:=0) (p:=x) (ho:= .ins C dx []) (y0:= .i x C []) trivial hx1 λO' S a b=>⟨dx,[],rfl,a,b,bq,rfl,.nil⟩;exact this
theorem d9.okRn{x qual:Str}{st:Yx}{f C:Yl}{fd:Ys}{N ps:List Str}{k:Nat}{F:List Yi->List Yi->(List (Str×Yi)->List (aq×Yi)->List (aq×Yi)->Prop)->Prop}(Fu:d9 K x qual st f fd)(S:aO N ps (av st))(len:∀ds es Q,F ds es Q->ds.length+2=ps.length)
 (hbody:∀(cdv:Yj) (A:Yz) (outer:List Env) (s:Ym) (H H1:Hp) (O:Ex) (ds es:List Yi) (Q:List (Str×Yi)->List (aq×Yi)->List (aq×Yi)->Prop) (E:XK) (l:Yl),bp k (A.deeper (Zj qual (av st) s.heap.objs.size f cdv))->(∀a,O a->H1 a≠none)->(∀b,H1 b=none->∀o z,H b≠some (.frz o z))->F ds es Q->
  ∃t,bP (iu CX0 P w K mg base N qual (av st) f cdv A outer s H E).nox (fq st) (bh K H1 O t)/\t {nx:=λδ=>∃g u fd gd ud,δ[0]?=some (some (.r l C g u fd gd ud))/\Q fd gd ud,rt:=λ_=>False} (wF N l C ds es)):aA P w K mg base CX0 (k+1) f fd ps (wD K C F):=by
 refine Fu.ok S (λvs H Q E h=>?_) (λcdv A outer s H vs Q E hr h=>?_)
 ·obtain⟨x,dx,vs',l,ws,H1,O,ds,es,Qd,rfl,_,_,_,_,_,r,_,_,_,q,_⟩:=h;have:=len _ _ _ q;rw [Q0,Q2,r.length,S5];omega
 ·obtain⟨x,dx,vs',l,ws,H1,O,ds,es,Qd,rfl,rfl,hx,hdx,ne,tr,r,ol,hl,rs,q,k⟩:=h;obtain⟨t,ht,q'⟩:=hbody cdv A outer s (ah (ah H1 dx (.own x)) x (.ins C dx [])) H1 O ds es Qd E x hr tr (λb hb o z=>by
   unfold ah;by_cases b1:b=x
   ·simp [b1]
   ·by_cases b2:b=dx
    ·simp [b1,b2,ne]
    ·simp [b1,b2,hb]) q
  refine⟨_,ht,_,_,_,Ml tr r ol hl rs hx hdx ne,q',λO' δ' σ' H' z w' S'=>?_,λd v H' z s' r'=>z.elim,λ_ _ _ _ z=>z.elim,λ_ _ _ _ z=>z.elim⟩;obtain⟨g,u,fd,gd,ud,e,z⟩:=z;obtain⟨a1,a2,a3,R⟩:=w'.sl 0 _ e;exact k fd gd ud g u O' H' z w'.same w'.sub w'.new w'.trk a2 a3 R
end
section
variable {X:Cx} {H0:Hp} {O0:Ex}
def DP(C:Yl)(i j:Nat)(F:List Yi->List Yi->(List (Str×Yi)->List (aq×Yi)->List (aq×Yi)->Prop)->Prop)(t1 t2:DT):DS:=λE δ=>t1 δ λd1=>t2 δ λd2=>∃es,δ[j]?=some (some (.b es))/\F [d1,d2] es λfd gd ud=>∀l g u,E.nx (δ.set i (some (.r l C g u fd gd ud)))
theorem Wd.lent{K:QN}{H:Hp}{O:Ex}{σ:St}{δ:Dl}(w:Wd K H0 O0 H O σ δ){j:Nat}{es:List Yi}(e:δ[j]?=some (some (.b es))):∃l ws,σ[j]?=some (some (.ref l))/\O0 l/\H l=some (.lst ws)/\ai K H O ws es:=by
 obtain⟨l,ws,a,b,c,d⟩:=w.sl j _ e;exact⟨l,ws,fy a,b,c,d⟩
theorem Mm{C f:Yl}{i j k:Nat}{x y:Str}{a b c:Yr}{t1 t2:DT}{fdt:Ys}{ps:List Str}{E:XK}{F:List Yi->List Yi->(List (Str×Yi)->List (aq×Yi)->List (aq×Yi)->Prop)->Prop}{p cpos pos pos':Pos}(hN:X.N.Nodup)(hi:X.N[i]?=some x)(hxl:gW X.env.scope x)
 (M:Mk X.K C f)(Fk:aA X.prog X.w X.K X.mg X.base CX0 k f fdt ps (wD X.K C F))(hr:bp (k+1) X.A)(hg:Gl X y)(hm:X.mg y=some (.ref C))(hb:cS X.K fdt ps [])(hx:gZ CX0 X E)(ha:DE X H0 O0 a t1)(hb2:DE X H0 O0 b t2)(hcv:PE X c (cJ j))
 (hdb:(y==("__debug__":Str))=false:=by decide)(he:Yp [a,b,c] X.env=(false,eval a X.env)::Yp [b,c] X.env:=by rfl)(he2:Yp [b,c] X.env=(false,eval b X.env)::Yp [c] X.env:=by rfl)(he3:Yp [c] X.env=(false,eval c X.env)::Yp [] X.env:=by rfl)(hpl:(YC cpos (Yp [b,c] X.env)).any (·.1)=false:=by rfl)
 (hs:YD (.Call (.Name y p) [a,b,c] [] cpos) (some (.Name x pos')) pos.line X.env=pure false:=by rfl)(hf:X.fn x=true\/X.env.scope.names.lookup x=some .local:=by first | exact .inl rfl | exact .inr rfl | assumption):
 PS X (.Assign [.Name x pos'] (.Call (.Name y p) [a,b,c] [] cpos) pos) (bh X.K H0 O0 (DP C i j F t1 t2)):=
 (dZ hN hi hxl (rS M Fk hr hg hm hb .nil hx (bw ha (bw hb2 (bw hcv b7 he3) he2) he) hdb he hpl) hs hf).imp λD σ H uu62=>by
  obtain⟨O,δ,E,w,q,k1,k2,k3,k4⟩:=uu62;refine⟨O,δ,_,w,q,λd1 v1 H1 q1 s1 r1=>⟨O,δ,_,w.mono s1,q1,λd2 v2 H2 ⟨es,ej,q2⟩ s2 r2=>?_⟩⟩;have w2:=w.mono (s1.trans s2);obtain⟨l,ws,h1,h2,h3,h4⟩:=w2.lent ej;refine⟨_,h1,λxx dx hxx hdx ne=>⟨xx,dx,[v1,v2],l,ws,H2,O,[d1,d2],es,_,rfl,rfl,hxx,hdx,ne,w2.trk,.cons (r1.mono s2) (.cons r2 .nil),w2.sub _ h2,h3,h4,q2,λfd gd ud g u O' H' qf sm sb nw tr o1 o2 R=>⟨rfl,?_⟩⟩⟩;obtain⟨w3,S3⟩:=w2.setR (i:=i) sm sb nw tr o1 o2 R;exact k1 _ _ _ _ (qf xx g u) w3 (aH.trans (.same (s1.trans s2)) S3)
def wG(C:Yl)(i:Nat)(t:DS):DS:=λE δ=>∃l fd,δ[i]?=some (some (.i l C fd))/\gb "mark" (fd.map (·.1))=true/\fd.length < 900/\∀g u,t E (δ.set i (some (.r l C g u fd [] [])))
theorem wH{f:Str}{v:V}:∀{fs:List (Str×V)},(∀p∈fs,p.1≠f)->cY f v fs=fs++[(f,v)]
 | [],_=>rfl
 | (g,x)::fs,h=>by
  rw [cY,Ye (h (g,x) RC),wH λp hp=>h p (Ri _ hp)];rfl
theorem Mo{C:Yl}{i:Nat}{o1 o2:Yr}{rest:List Yx}{t:DS}{p1 p2 q1 q2 r1 r2:Pos}(hc:cQ X.K C)(hn1:NoAttr X.K C cb)(hn2:NoAttr X.K C c0)(ho1:PE X o1 (cJ i))(ho2:PE X o2 (cJ i))(h:bP X rest (bh X.K H0 O0 t))
 (hs1:YD (.Dict [] [] p1) (some (.Attribute o1 cb q1)) r1.line X.env=pure false:=by rfl)(hs2:YD (.Dict [] [] p2) (some (.Attribute o2 c0 q2)) r2.line X.env=pure false:=by rfl):
 bP X (.Assign [.Attribute o1 cb q1] (.Dict [] [] p1) r1:: .Assign [.Attribute o2 c0 q2] (.Dict [] [] p2) r2::rest) (bh X.K H0 O0 (wG C i t)):=
 (cN (uX ho1 DC hs1) (cN (uX ho2 DC hs2) h)).imp λD σ H uu64=>by
  obtain⟨O,δ,E,w,⟨l,fd,ei,rk,hl,q⟩,k1,k2,k3,k4⟩:=uu64;obtain⟨dx,fs,x1,x2,x3,h1,hf⟩:=w.ownI ei;obtain⟨kk,_,_⟩:=tm hf rk;have lf:fs.length=fd.length:=by have:=congrArg VM hf.1;simpa using this
  have li:i < δ.length:=(QZ.mp ei).1;intro g og hg;have lg:l≠g:=λz=>by rw [z,hg] at h1;cases h1
  refine⟨_,x1,l,C,dx,fs,rfl,by rw [az lg];exact h1,hc,hn1,Yd,?_⟩;rw [wH λp hp=>(kk p hp).1];intro u ou hu;have lu:l≠u:=λz=>by rw [z,bq] at hu;cases hu
  have gu:g≠u:=λz=>by rw [<-z,az (Ne.symm lg),bq] at hu;cases hu
  have hu0:H u=none:=by rw [az (Ne.symm lu),az (Ne.symm gu)] at hu;exact hu
  refine⟨_,x1,l,C,dx,fs++[(cb,.ref g)],rfl,by rw [az lu,bq],hc,hn2,by simp;omega,?_⟩;rw [wH λp hp=>(Q9.mp hp).elim (λz=>(kk p z).2.1) λz=>by
   simp only [Ra] at z;subst z;exact DI]
  rw [UO];have eh:ah (ah (ah (ah H g (.frz og (.dK []))) l (.ins C dx (fs++[(cb,.ref g)]))) u (.frz ou (.dK []))) l (.ins C dx (fs++([(cb,.ref g)]++[(c0,.ref u)])))=ah (ah (ah H g (.frz og (.dK []))) u (.frz ou (.dK []))) l (.ins C dx (fs++[(cb,.ref g),(c0,.ref u)])):=by
   funext b;unfold ah;by_cases b1:b=l
   ·simp [b1]
   ·by_cases b2:b=u <;> simp [b1,b2]
  rw [eh];have sm:au H (ah (ah H g (.frz og (.dK []))) u (.frz ou (.dK []))):=(au.new hg).trans (au.new (by rw [az (Ne.symm gu)];exact hu0));have w1:=w.mono sm;have g0:H0 g=none:=by
   cases e:H0 g with
   | none=>rfl
   | some o=>rw [w.same _ _ e] at hg;cases hg
  have u0:H0 u=none:=by
   cases e:H0 u with
   | none=>rfl
   | some o=>rw [w.same _ _ e] at hu0;cases hu0
  have ng:¬O g:=λz=>w.trk g z hg;have nu:¬O u:=λz=>w.trk u z hu0;generalize hH2:ah (ah H g (.frz og (.dK []))) u (.frz ou (.dK []))=H2 at sm w1⊢;have g2:H2 g=some (.frz og (.dK [])):=by rw [<-hH2,az gu,bq]
  have u2:H2 u=some (.frz ou (.dK [])):=by rw [<-hH2,bq]
  have out:∀b,H b≠none->b≠g/\b≠u:=λb hb=>⟨λz=>hb (by rw [z];exact hg),λz=>hb (by rw [z];exact hu0)⟩;have S:aH H (ah H2 l (.ins C dx (fs++[(cb,.ref g),(c0,.ref u)]))) O (λa=>O a\/a=g\/a=u):=⟨λb o e n=>by rw [az (λz=>n (by rw [z];exact x2))];exact sm b o e,λb hb n z=>by
   rcases z with z | z | z
   ·exact n z
   ·exact(out b hb).1 z
   ·exact(out b hb).2 z⟩
  refine⟨λa=>O a\/a=g\/a=u,δ.set i (some (.r l C g u fd [] [])),E,⟨λb o e=>?_,λa z=>.inl (w.sub a z),λa z=>?_,λa z=>?_,by simp [w.len],λj y e=>?_,λj k y z a e1 y1 e2 z2 e3 e4=>?_⟩,q g u,λO2 δ2 σ2 H2 z2 w2 S2=>k1 O2 δ2 σ2 H2 z2 w2 (S.trans S2),k2,λO2 δ2 σ2 H2 z2 w2 S2=>k3 O2 δ2 σ2 H2 z2 w2 (S.trans S2),λO2 δ2 σ2 H2 z2 w2 S2=>k4 O2 δ2 σ2 H2 z2 w2 (S.trans S2)⟩
  ·have l0:H0 l=none:=(w.new l x2).resolve_left x3;rw [az (λz=>by rw [z,l0] at e;cases e)];exact w1.same b o e
  ·rcases z with z | z | z
   ·exact w.new a z
   ·rw [z];exact .inr g0
   ·rw [z];exact .inr u0
  ·by_cases al:a=l
   ·rw [al,bq];exact λz=>nomatch z
   ·rw [az al];rcases z with z | z | z
    ·exact w1.trk a z
    ·rw [z,g2];exact λz=>nomatch z
    ·rw [z,u2];exact λz=>nomatch z
  ·by_cases hj:j=i
   ·subst hj;rw [Rk li] at e;cases e;exact⟨by rw [x1];rfl,.inl x2,x3,dx,fs,og,ou,[],[],bq,⟨hf.1,hf.2.step S⟩,gu,⟨.inr (.inl rfl),λz=>ng (w.sub _ z),by rw [az (Ne.symm lg)];exact g2,.nil⟩,.inr (.inr rfl),λz=>nu (w.sub _ z),by rw [az (Ne.symm lu)];exact u2,.nil⟩
   ·rw [Q6 (Ne.symm hj)] at e;refine(w.sl j y e).go S (λb o ho' e' a1 a2 a3=>⟨.inl a1,?_⟩) (λb o z a1 a2 a3=>⟨.inl a1,?_⟩) λb o a1 a3=>?_
    ·have nb:b≠l:=λz=>by
      subst z
      match y,ho',e with
      | some z,ho',e=>exact hj (w.dis j i z _ b e (by cases z <;> first | trivial | cases ho') ei trivial (fy e') x1)
     rw [az nb];exact sm _ _ a3
    ·rw [az (λz=>by rw [z,h1] at a3;cases a3)];exact sm _ _ a3
    ·rw [az (λz=>x3 (by rw [<-z];exact a1))];exact sm _ _ a3
  ·have eB:∀{j:Nat}{y:Sl},(δ.set i (some (.r l C g u fd [] [])))[j]?=some (some y)->y.own->∃y',δ[j]?=some (some y')/\y'.own:=λ{j y} q hq=>by
    by_cases hj:j=i
    ·subst hj;exact⟨_,ei,trivial⟩
    ·rw [Q6 (Ne.symm hj)] at q;exact⟨_,q,hq⟩
   obtain⟨_,q1,r1⟩:=eB e1 y1;obtain⟨_,q2,r2⟩:=eB e2 z2;exact w.dis j k _ _ a q1 r1 q2 r2 e3 e4
def tq(j:Nat)(dg:DG)(tb:DS):DS:=λE δ=>∃es,δ[j]?=some (some (.b es))/\gI dg tb E es δ
theorem Mp{j:Nat}{tg iter:Yr}{g:TG}{dg:DG}{tb:DS}{body:List Yx}{pos:Pos}(h0:∀a,O0 a->H0 a≠none)(hp:Zi (Yq X.prog X.w) X.A X.env X.xe)(hc:X.calm=true)(hi:PE X iter (cJ j))(hg:PG X tg g)(gd:GD X.K g dg)(hb:bP X body (bh X.K H0 O0 tb))(hs:∀x,YA iter X.env x=pure x:=by intro _;rfl):
 PS X (.For tg iter body [] pos) (bh X.K H0 O0 (tq j dg tb)):=
 (oT hp hc (rJ hi) hg hb hs).imp λD σ H uu65=>by
  obtain⟨O,δ,E,w,⟨es,ej,Iv,q0,qs,qe⟩,k1,k2,k3,k4⟩:=uu65;obtain⟨l,vs,h1,h2,h3,r⟩:=w.lent ej;have hl0:H0 l=some (.lst vs):=by
   cases e:H0 l with
   | none=>exact absurd e (h0 l h2)
   | some o=>rw [w.same _ _ e] at h3;rw [h3]
  refine⟨_,h1,l,rfl,⟨vs,.inl (.inl h3)⟩,?_⟩;have S:cU (oR X.K l) (λH'=>pd H l H') vs:=cU.list (.inl (.inl h3));have hP:∀H',au H0 H'->pd H l H':=λH' s o e=>by rw [h3] at e;cases e;exact s _ _ hl0
  refine⟨λi m σ' H'=>∃O' δ',m=vs.length - i/\i<=vs.length/\Wd X.K H0 O0 H' O' σ' δ'/\aH H H' O O'/\Iv i δ',⟨vs.length,O,δ,Yh,RD _,w,aH.refl _ _,q0⟩,?_⟩;rintro i m σ1 H1 ⟨O1,δ1,rfl,hi,w1,S1,q1⟩;by_cases hlt:i < vs.length
  ·refine .inr ⟨S.go i H1 (hP _ w1.same) hlt,λσ' H'=>∃O' δ',Wd X.K H0 O0 H' O' σ' δ'/\aH H H' O O'/\Iv (i+1) δ',λσ' H' uu66=>by obtain⟨O',δ',w',S',q'⟩:=uu66;exact⟨vs.length - (i+1),Yd,O',δ',rfl,hlt,w',S',q'⟩,λx H' y=>?_⟩;have yy:=S.yl i H1 x H' (hP _ w1.same) hlt y;clear y;obtain⟨e,y⟩:=yy;subst e;obtain⟨d,ed,rd⟩:=r.get y;refine gd H0 O0 _ O1 σ1 δ1 x d _ _ w1 (rd.step S1) (qs i d δ1 ed q1) λδ2 σ2 q2 w2=>?_;refine⟨O1,δ2,_,w2,q2,λO' δ' σ' H' z w' S'=>⟨O',δ',w',S1.trans S',z⟩,k2,λO' δ' σ' H' z w' S'=>k1 O' δ' σ' H' z w' (S1.trans S'),λO' δ' σ' H' z w' S'=>⟨O',δ',w',S1.trans S',z⟩⟩
  ·have e:i=vs.length:=Yd
   subst e;refine .inl ⟨S.st _ H1 (hP _ w1.same) (QQ _),?_⟩;rw [r.length] at q1;exact k1 O1 δ1 σ1 H1 (qe δ1 q1) w1 S1
def DQ(j:Nat)(F:List Yi->List Yi->(Yi->Prop)->Prop)(t1 t2 t3:DT):DT:=λδ Q=>t1 δ λd1=>t2 δ λd2=>t3 δ λd3=>∃es,δ[j]?=some (some (.o es))/\F [d1,d2,d3] es Q
theorem Mq{f:Yl}{j k:Nat}{x:Str}{a b c y:Yr}{t1 t2 t3:DT}{fdt:Ys}{ps:List Str}{E:XK}{F:List Yi->List Yi->(Yi->Prop)->Prop}{p pos:Pos}
 (Fk:aA X.prog X.w X.K X.mg X.base CX0 k f fdt ps (wC X.K F))(hr:bp k X.A)(hg:Gl X x)(hm:X.mg x=some (.ref f))(hk:SX X.K (.ref f)=true)(hb:cS X.K fdt ps [])(hx:gZ CX0 X E)(ha:DE X H0 O0 a t1)(hb2:DE X H0 O0 b t2)(hc:DE X H0 O0 c t3)(hy:PE X y (cJ j))
 (hdb:(x==("__debug__":Str))=false:=by decide)(he:Yp [a,b,c,y] X.env=(false,eval a X.env)::Yp [b,c,y] X.env:=by rfl)(he2:Yp [b,c,y] X.env=(false,eval b X.env)::Yp [c,y] X.env:=by rfl)(he3:Yp [c,y] X.env=(false,eval c X.env)::Yp [y] X.env:=by rfl)(he4:Yp [y] X.env=(false,eval y X.env)::Yp [] X.env:=by rfl)(hpl:(YC pos (Yp [b,c,y] X.env)).any (·.1)=false:=by rfl):
 DE X H0 O0 (.Call (.Name x p) [a,b,c,y] [] pos) (DQ j F t1 t2 t3):=
 (Bq Fk hr hg hm hk hb .nil hx (bw ha (bw hb2 (bw hc (bw hy b7 he4) he3) he2) he) hdb he hpl).imp λσ H Q uu67=>by
  obtain⟨O,δ,Qd,w,q,k⟩:=uu67;refine⟨O,δ,_,w,q,λd1 v1 H1 q1 s1 r1=>⟨O,δ,_,w.mono s1,q1,λd2 v2 H2 q2 s2 r2=>⟨O,δ,_,w.mono (s1.trans s2),q2,λd3 v3 H3 ⟨es,ej,q3⟩ s3 r3=>?_⟩⟩⟩;have w3:=w.mono (s1.trans (s2.trans s3));obtain⟨l,ws,h1,h2,h3,h4,h5⟩:=w3.own ej;exact⟨_,h1,O,[v1,v2,v3],l,ws,[d1,d2,d3],es,Qd,rfl,w3.trk,.cons (r1.mono (s2.trans s3)) (.cons (r2.mono s3) (.cons r3 .nil)),h2,h4,h5,q3,λd v H4 q4 s4 r4=>k d v H4 q4 (s1.trans (s2.trans (s3.trans s4))) r4⟩
end
section
variable {x y z w:Option Sl} {l:Dl} {i j k m:Nat} {P:Yi->Prop}
theorem nv:b0 j ((x::l).set 0 y) P=b0 j (y::l) P:=rfl
theorem ny:b0 j ((x::l).set (i+1) y) P=b0 j (x::l.set i y) P:=rfl
theorem nz:b0 j (((x::l).set 0 y).set k z) P=b0 j ((y::l).set k z) P:=rfl
theorem nA:b0 j (((x::l).set (i+1) y).set k z) P=b0 j ((x::l.set i y).set k z) P:=rfl
theorem nB:b0 j ((((x::l).set 0 y).set k z).set m w) P=b0 j (((y::l).set k z).set m w) P:=rfl
theorem nE:b0 j ((((x::l).set (i+1) y).set k z).set m w) P=b0 j (((x::l.set i y).set k z).set m w) P:=rfl
end
section
variable {K:QN} {mg:Str->Option Yj} {h:Yw} {x q:Str} {st:Yx} {f C:Yl} {fd:Ys} {ps:List Str}
structure Fn (K:QN) (mg:Str->Option Yj) (x:Str) (st:Yx) (f:Yl) (fd:Ys) (ps:List Str):Prop where
 F:d9 K x x st f fd
 m:mg x=some (.ref f)
 b:cS K fd ps []
structure Mn (K:QN) (x q:Str) (st:Yx) (f:Yl) (fd:Ys) (ps:List Str):Prop where
 F:d9 K x q st f fd
 b:cS K fd ps []
structure DfT (K:QN) (x:Str) (st:Yx) (f:Yl) (fd:Ys):Prop where
 a:RS K Yy x=some (some (.ref f))
 F:d9 K x x st f fd
structure DmT (K:QN) (C:Yl) (x q:Str) (st:Yx) (f:Yl) (fd:Ys):Prop where
 a:SW K (.ref C) x=some (some (.ref f))
 i:Vz K (.ref f)=true
 F:d9 K x q st f fd
structure tu (K:QN) (C:Yl):Prop where
 c:cQ K C
 m:Wz K C=true
 k:SX K (.ref C)=true
theorem DfT.of{oc:Yj}{od an:Option Yl}{osl:Array (Option Yj)}{kV doc pm cdv ct:Yj}(a:RS K Yy x=some (some (.ref f)))(l:K.lookup f=some ⟨oc,od,.func (S6 x x (ja st) (fq st) (av st) .none kV doc pm an cdv ct),osl⟩)
 (c:Vj K cdv x=true)(k:SX K (.ref f)=true):DfT K x st f (S6 x x (ja st) (fq st) (av st) .none kV doc pm an cdv ct):=⟨a,BI l c k⟩
theorem DmT.of{oc:Yj}{od an:Option Yl}{osl:Array (Option Yj)}{kV doc pm cdv ct:Yj}(a:SW K (.ref C) x=some (some (.ref f)))(i:Vz K (.ref f)=true)(l:K.lookup f=some ⟨oc,od,.func (S6 x q (ja st) (fq st) (av st) .none kV doc pm an cdv ct),osl⟩)
 (c:Vj K cdv q=true)(k:SX K (.ref f)=true):DmT K C x q st f (S6 x q (ja st) (fq st) (av st) .none kV doc pm an cdv ct):=⟨a,i,BI l c k⟩
theorem DfT.fn(D:DfT K x st f fd)(X:K.In h)(G:h.Ns Yy mg)(hb:∀(kV doc pm:Yj) (an:Option Yl) (cdv ct:Yj) (us:List Yj),us.length=ps.length->bindArgs (S6 x x (ja st) (fq st) (av st) .none kV doc pm an cdv ct) ⟨us,[]⟩=pure (ps.zip us)):Fn K mg x st f fd ps:=⟨D.F,TV X G D.a,D.F.binds hb⟩
theorem DmT.fn(D:DmT K C x q st f fd)(hb:∀(kV doc pm:Yj) (an:Option Yl) (cdv ct:Yj) (us:List Yj),us.length=ps.length->bindArgs (S6 x q (ja st) (fq st) (av st) .none kV doc pm an cdv ct) ⟨us,[]⟩=pure (ps.zip us)):Mn K x q st f fd ps:=⟨D.F,D.F.binds hb⟩
theorem DmT.mt(D:DmT K C x q st f fd):gY K C x f:=⟨D.a,D.i,D.F.kp⟩
theorem DmT.mkk(D:DmT K C "__init__" q st f fd)(c:tu K C):Mk K C f:=⟨c.m,D.a,D.i,c.k⟩
theorem Fn.kp(N:Fn K mg x st f fd ps):SX K (.ref f)=true:=N.F.kp
end
section
variable {X:Cx} {k:Nat} {f:Yl} {fd:Ys} {ps:List Str} {sp:Sp} {st:Yx} {x:Str} {p pos:Pos} {e:Yr} {es:List Yr} {t:TA}
theorem aE(F:aA X.prog X.w X.K X.mg X.base CX0 k f fd ps sp)(hr:bp k X.A)(hg:Gl X x)(N:Fn X.K X.mg x st f fd ps)
 (ha:PA X (e::es) t)(hdb:(x==("__debug__":Str))=false:=by decide)(he:Yp (e::es) X.env=(false,eval e X.env)::Yp es X.env:=by rfl)(hpl:(YC pos (Yp es X.env)).any (·.1)=false:=by rfl):
 PE X (.Call (.Name x p) (e::es) [] pos) (oW sp [] E0 t):=Bq F hr hg N.m N.kp N.b .nil ft ha hdb he hpl
end
theorem Mr{prog:Yu}{w:Yv}{A:Yz}(hh:A.handled=none)(it t:Yl)(hne:t≠it)(its:Array Yj):Draws prog w A it [it,t] its.size (λi v=>its[i]?=some v) (λi h=>h.IsTupleIter it t i/\h.IsTuple t its) where
 live:=λ_ _ st=>let ⟨o,ho,_⟩:=st.1;⟨o,ho⟩
 frame:=λ_ _ _ st hk=>⟨let ⟨o,e,r⟩:=st.1;⟨o,hk it Yh o e,r⟩,let ⟨o,e,r⟩:=st.2;⟨o,hk t Yh o e,r⟩⟩
 item:=λi s Q E hi st hQ=>by
  refine LY st.1 st.2 (x:=its[i]) (by simp [hi]) λh' hit' hs'=>?_;refine hQ _ h' s.toks (by simp [hi]) ⟨hit',?_⟩ hs';obtain⟨o,e,r⟩:=st.2;exact⟨o,(hs'.2 t hne).trans e,r⟩
 done:=λs Q E st hE=>Dx hh st.1 st.2 Yh hE
def tw(K:QN)(a:Yl):It:=
 ⟨λi H=>∃xs x,aZ K H a xs/\xs[i]?=some x,λi H x H'=>∃p v,H p=none/\x= .ref p/\H'=ah H p (.tup [.int (i:Int),v])/\∀xs,aZ K H a xs->xs[i]?=some v,λi H=>∃xs,aZ K H a xs/\xs.length<=i⟩
theorem Ms(l:Yl)(items:Array Yj)(n:Nat)(dct:Option Yl)(sl:Array (Option Yj)):
 Meets (Builtin.«enumerate.__new__» ⟨[.type "enumerate",.ref l],[]⟩) (λ_ R s=>s.heap.get? l=some {cls:= .type "tuple",dict:=dct,data:= .seq items n,slots:=sl}/\
  R (.ok (.ret (.ref (s.heap.push {cls:= .type "tuple_iterator",data:= .fields #[.ref l,.int 0 0]}).objs.size)))
   {s with heap:=(s.heap.push {cls:= .type "tuple_iterator",data:= .fields #[.ref l,.int 0 0]}).push {cls:= .type "enumerate",data:= .fields #[.none,.bool false,.ref s.heap.objs.size,Y1 0,.none,.none]}}):=
 .of_wp λprog w A R s h=>by
  obtain⟨hp,g,d,tk,os⟩:=s;obtain⟨hl,h⟩:=h;have hsub:=sub_enumerate;have hL:Heap.IsTuple (Shared.heap ⟨hp,g,d,tk,os⟩) l items:=⟨_,hl,rfl,n,rfl⟩
  wp_walk using Uw hl
  refine wpAny_stack_any λst=>Yn ?_;split
  ·rename_i c _ _ _ _ _;cases (c==UD "enumerate")
   ·wp_walk using Uw hl,Zq hL
    exact⟨_,rfl,h⟩
   ·wp_walk using Uw hl,Zq hL
    exact⟨_,rfl,h⟩
  ·wp_walk using Uw hl,Zq hL
   exact⟨_,rfl,h⟩
theorem Mt{prog:Yu}{w:Yv}{A:Yz}{E:Yj->Ym->Prop}{s:Ym}{l:Yl}{items:Array Yj}{Q:Yj->Ym->Prop}(hL:s.heap.IsTuple l items)
 (h:∀h',IsEnum h' (s.heap.objs.size+1) s.heap.objs.size 0 .none->h'.IsTupleIter s.heap.objs.size l 0->h'.objs.size=s.heap.objs.size+2->
  (∀b o,s.heap.get? b=some o->h'.get? b=some o)->Q (.ref (s.heap.objs.size+1)) {s with heap:=h'}):
 Yo (Yq prog w) A (call (.type "enumerate") [.ref l]) Q E s:=by
 obtain⟨⟨c,dct,dt,sl⟩,hl,hc,n,hd⟩:=hL
 replace hc:c= .type "tuple":=hc
 replace hd:dt= .seq items n:=hd
 subst hc hd;refine callType_new F.called_enumerate Yc (F.typeCall_enumerate_1 _) (F.newCall_enumerate_1 _) (λobj=>F.args_object_init_2 obj _) F.entry_enumerate_new
  (Ms l items n dct sl) ⟨hl,?_⟩
 have hz:(s.heap.push {cls:= .type "tuple_iterator",data:= .fields #[.ref l,.int 0 0]}).objs.size=s.heap.objs.size+1:=Tw ..;show _/\_;rw [hz];have he:IsEnum ((s.heap.push {cls:= .type "tuple_iterator",data:= .fields #[.ref l,.int 0 0]}).push
  {cls:= .type "enumerate",data:= .fields #[.none,.bool false,.ref s.heap.objs.size,Y1 0,.none,.none]}) (s.heap.objs.size+1) s.heap.objs.size 0 .none:=by
  have:=Rb (s.heap.push {cls:= .type "tuple_iterator",data:= .fields #[.ref l,.int 0 0]})
   (o:={cls:= .type "enumerate",data:= .fields #[.none,.bool false,.ref s.heap.objs.size,Y1 0,.none,.none]}) rfl
  rw [hz] at this;exact this
 refine⟨⟨_,he,rfl⟩,h _ he ⟨_,QS _ (Rb _ rfl),rfl,rfl⟩ (by rw [Tw,hz]) λb o x=>QS _ (QS _ x)⟩
theorem Mu{prog:Yu}{w:Yv}{A:Yz}{E:Yj->Ym->Prop}{s:Ym}{e it l:Yl}{i:Nat}{items:Array Yj}{old:Yj}{Q:Option Yj->Ym->Prop}(hh:A.handled=none)
 (he:IsEnum s.heap e it i old)(hit:s.heap.IsTupleIter it l i)(hl:s.heap.IsTuple l items)(hx:items[i]?=none)
 (hQ:∀h',WD it s.heap h'->Q none {s with heap:=h'}):Yo (Yq prog w) A (Zd (.ref e)) Q E s:=by
 have hT:s.TypeIs (.ref e) "enumerate":=⟨_,he,rfl⟩;unfold Zd;refine Yk (Zl (YH (name:=QM "__next__") hT F.slot_enumerate_next
  (YG F.slot_enumerate_next hT F.entry_enumerate_next ?_ (F.args_enumerate_next_1 _))))
 show Yo _ _ (field (.ref e) 2 >>=_) _ _ _;refine Yk (Zg he rfl (x:= .ref it) rfl ?_);refine Yk (Dx hh hit hl hx λh' x he' hx'=>?_);obtain⟨o,ho,hc⟩:=hx';refine Yk (Zz (T:="StopIteration") (b:=true) ⟨o,ho,hc⟩ isSubtype_stop ?_);exact Yn (hQ _ he')
theorem Mv{P:Yu}{w:Yv}{K:QN}{elts:List Yr}{k0}{pos:Pos}(a it e:Yl)(hei:e≠it)(hai:a≠it)(hea:e≠a):oQ P w K (.Tuple elts k0 pos) (tw K a) [e,it] e (λi h=>(∃old,IsEnum h e it (i:Int) old)/\h.IsTupleIter it a i) where
 mem:=Yh
 obj:=λi h st b hb=>by
  simp only [QX,Rh,or_false] at hb;obtain⟨⟨old,he⟩,o,eo,c,d⟩:=st;rcases hb with rfl | rfl
  ·exact⟨_,he,λv z=>by cases z⟩
  ·exact⟨o,eo,λv z=>by rw [d] at z;cases z⟩
 keep:=λi h h' st k=>⟨let ⟨old,he⟩:=st.1;⟨old,k e Yh _ he⟩,let ⟨o,q,r⟩:=st.2;⟨o,k it Yh o q,r⟩⟩
 item:=by
  intro X hP hw hK hc i ZY s σ H E I hf st hg;subst hP hw hK;obtain⟨xs,x,hq,hx⟩:=hg;obtain⟨its,rv,p,hz⟩:=I.tuple hq;obtain⟨u,hu,ru⟩:=rv.get hx;obtain⟨⟨old,he⟩,hit⟩:=st;have hp:s.heap.IsTuple a its.toArray:=p;have hlt:i < its.toArray.size:=by
   have:=(QZ.mp hu).1;simpa using this
  refine wpAny_pyNext_enum_itemD (Mr (A:=X.A.in1) (I.ok.hd hc) it a hai its.toArray) he ⟨hit,hp⟩ hlt hei (by simp [hei,hea]) λx' h' tk hx' ho hst hT hsz hk=>?_;obtain rfl:x'=u:=by
   have:its.toArray[i]?=some u:=by simpa using hu
   rw [this] at hx';exact(RT hx').symm
  obtain⟨hit',_⟩:=hst;have hT0:H s.heap.objs.size=none:=I.hok.fresh (QQ _);have lte:e < s.heap.objs.size:=Q7 he;have lti:it < s.heap.objs.size:=by obtain⟨_,q,_⟩:=hit;exact Q7 q
  have I1:ag X ZY σ (ah H s.heap.objs.size (.tup [.int (i:Int),x])) {s with heap:=h',toks:=tk+1}:=by
   refine I.track (t':=tk+1) (ch:=[s.heap.objs.size,e,it]) Yh (λb hb=>?_) (λb v hb q=>hk b v (λz=>hb (by simp [z])) (λz=>hb (by simp [z])) q) ?_
   ·rcases QX.mp hb with z | z
    ·rw [z];exact I.fpOk (QQ _) hT0
    ·exact hf b z
   ·exact⟨by rw [YM,Q0,Q0,RJ];decide,[.int (i:Int) tk,x'],.cons ⟨_,rfl⟩ (.cons ru .nil),_,hT,rfl,0,rfl⟩
  refine⟨_,rfl,ZS ho λh2 he2 sb=>?_⟩;obtain⟨f0,f1,f2,f3,f4,f5⟩:=hf e Yh;have ne:s.heap.objs.size≠e:=TK lte;have I2:ag X ZY σ (ah H s.heap.objs.size (.tup [.int (i:Int),x])) {s with heap:=h2,toks:=tk+1}:=I1.turned (t':=tk+1) (λb o hb q=>(sb.2 b hb).trans q) (by rw [az (Ne.symm ne)];exact f0) f1 f3 f4 f5;refine⟨.ref s.heap.objs.size,_,I2,rfl,⟨_,x,hT0,rfl,rfl,λys hy=>?_⟩,⟨⟨_,by simpa using he2⟩,let ⟨o,q,r⟩:=hit';⟨o,(sb.2 it (Ne.symm hei)).trans q,r⟩⟩,λb hb=>?_⟩
  ·have e2:ys=xs:=I.tuple_inj hy hq;rw [e2];exact hx
  ·rw [az λz=>?_]
   ·exact(hf b hb).1
   ·simp only [QX,Rh,or_false] at hb;rcases hb with y | y
    ·rw [<-z,y] at lte;exact SS _ lte
    ·rw [<-z,y] at lti;exact SS _ lti
 done:=by
  intro X hP hw hK hc i ZY s σ H E I hf st hg;subst hP hw hK;obtain⟨xs,hq,hx⟩:=hg;obtain⟨its,rv,p,hz⟩:=I.tuple hq;obtain⟨⟨old,he⟩,hit⟩:=st;obtain⟨f0,f1,f2,f3,f4,f5⟩:=hf it Yh;have hl:=rv.length;exact Mu (I.ok.hd hc) he hit (show s.heap.IsTuple a its.toArray from p) (by simp;omega) λh' eb=>⟨rfl,I.turned (t':=s.toks) (λb o hb e=>eb b o hb e) f0 f1 f3 f4 f5⟩
 self:=λA i s Q E st h=>by
  obtain⟨⟨old,he⟩,_⟩:=st;exact Zv he h
def Mw(K:QN)(ta:TA):TI:=λσ H R=>ta σ H λvs H1=>∃a xs,vs=[.ref a]/\aZ K H1 a xs/\R (tw K a) H1
theorem Mx{X:Cx}{elts:List Yr}{k0}{tp:Pos}{a:Yr}{ta:TA}{p pos:Pos}(hg:Gl X "enumerate")(hm:X.mg "enumerate"=none)(ha:PA X [a] ta)(hs:Yp [a] X.env=[(false,eval a X.env)]:=by rfl):PI X (.Tuple elts k0 tp) (.Call (.Name "enumerate" p) [a] [] pos) (Mw X.K ta):=by
 intro ZY s σ H R I h;refine Call_ (nO I hg hm boot_enumerate (Ti (aB (ha pos ZY s σ H _ I h) λus s1 ⟨vs,H1,I1,r1,q1⟩=>?_) hs rfl));obtain⟨b,xs,e,hr,q⟩:=q1;subst e;cases r1 with
 | cons r rr=>
  cases rr;cases r;obtain⟨its,rv,p,hz⟩:=I1.tuple hr;have hp:s1.heap.IsTuple b its.toArray:=p;have lb:b < s1.heap.objs.size:=by obtain⟨o,e,_⟩:=hp;exact Q7 e
  refine Mt hp λh' he hit hsz hk=>Zv he ?_;have I2:ag X ZY σ H1 {s1 with heap:=h'}:=I1.kept (t':=s1.toks) hk;refine⟨s1.heap.objs.size+1,[s1.heap.objs.size+1,s1.heap.objs.size],_,_,H1,rfl,I2,Mv b s1.heap.objs.size (s1.heap.objs.size+1) (TK (SR _)) (Rz lb) (TK (Sk lb)),⟨⟨_,he⟩,hit⟩,λc hc=>?_,q⟩;simp only [QX,Rh,or_false] at hc;rcases hc with rfl | rfl
  ·exact I1.fpOk (Sg _) (I1.hok.fresh (Sg _))
  ·exact I1.fpOk (QQ _) (I1.hok.fresh (QQ _))
theorem My{K:QN}{H0:Hp}{O0:Ex}{a:Yl}{vs:List V}{xs:List Yi}{g:TG}{dg:DG}{tb:DS}{D:i3}{E:fz}{σ:St}{H:Hp}{O:Ex}{δ:Dl}(hs:∀H' O',aH H H' O O'->aZ K H' a vs)(gd:GD K g dg)
 (r:ai K H O vs xs)(w:Wd K H0 O0 H O σ δ)(q:gI dg tb E (gL 0 xs) δ)
 (k1:∀O' δ' σ' H',E.nx δ'->Wd K H0 O0 H' O' σ' δ'->aH H H' O O'->D.nx σ' H')(k2:∀d v H',E.rt d->au H0 H'->Dt K H' O0 v d->D.rt v H'):FR (tw K a) g (bh K H0 O0 tb) D σ H:=by
 obtain⟨Iv,q0,qs,qe⟩:=q;have hl:=r.length;have sq:=hs;refine⟨λi m σ' H'=>∃O' δ',m=vs.length - i/\i<=vs.length/\Wd K H0 O0 H' O' σ' δ'/\aH H H' O O'/\Iv i δ',⟨vs.length,O,δ,Yh,RD _,w,aH.refl _ _,q0⟩,?_⟩;rintro i m σ1 H1 ⟨O1,δ1,rfl,hi,w1,S1,q1⟩;by_cases hlt:i < vs.length
 ·refine .inr ⟨⟨vs,vs[i],sq _ _ S1,by simp [hlt]⟩,λσ' H'=>∃O' δ',Wd K H0 O0 H' O' σ' δ'/\aH H H' O O'/\Iv (i+1) δ',λσ' H' uu70=>by obtain⟨O',δ',w',S',q'⟩:=uu70;exact⟨vs.length - (i+1),Yd,O',δ',rfl,hlt,w',S',q'⟩,λx H' y=>?_⟩;obtain⟨p,v,hp,rfl,rfl,hv⟩:=y;obtain⟨d,ed,rd⟩:=r.get (hv vs (sq _ _ S1));have sm:au H1 (ah H1 p (.tup [.int (i:Int),v])):=au.new hp;have w2:=w1.mono sm;have np:¬O1 p:=λz=>w1.trk p z hp;have dt:Dt K (ah H1 p (.tup [.int (i:Int),v])) O1 (.ref p) (.tuple [.int (i:Int),d]):= .tup (.inl bq) np (.cons (.int _) (.cons ((rd.step S1).mono sm) .nil));have S2:aH H (ah H1 p (.tup [.int (i:Int),v])) O O1:=S1.trans (.same sm);have e2:(gL 0 xs)[i]?=some (.tuple [.int (i:Int),d]):=by rw [px,ed];simp
  refine gd H0 O0 _ O1 σ1 δ1 _ _ _ _ w2 dt (qs i _ δ1 e2 q1) λδ2 σ2 q2 w2=>?_;exact⟨O1,δ2,_,w2,q2,λO' δ' σ' H' z w' S'=>⟨O',δ',w',S2.trans S',z⟩,k2,λO' δ' σ' H' z w' S'=>k1 O' δ' σ' H' z w' (S2.trans S'),λO' δ' σ' H' z w' S'=>⟨O',δ',w',S2.trans S',z⟩⟩
 ·have e:i=vs.length:=Yd
  subst e;refine .inl ⟨⟨vs,sq _ _ S1,QQ _⟩,?_⟩;rw [hl,<-qP 0 xs] at q1;exact k1 O1 δ1 σ1 H1 (qe δ1 q1) w1 S1
section
variable {X:Cx} {H0:Hp} {O0:Ex}
def DR(t:DA)(g:DG)(tb:DS):DS:=λE δ=>t δ λds=>∃xs,ds=[.tuple xs]/\gI g tb E (gL 0 xs) δ
theorem Mz{elts:List Yr}{k0}{tp:Pos}{a:Yr}{body:List Yx}{p pos pos':Pos}{ta:DA}{g:TG}{dg:DG}{tb:DS}(hp:Zi (Yq X.prog X.w) X.A X.env X.xe)(hc:X.calm=true)(hgl:Gl X "enumerate")(hm:X.mg "enumerate"=none)(ha:PA X [a] (gA X.K H0 O0 ta))(hg:PG X (.Tuple elts k0 tp) g)(gd:GD X.K g dg)(hb:bP X body (bh X.K H0 O0 tb))
 (hst:Yp [a] X.env=[(false,eval a X.env)]:=by rfl)(hs:∀x,YA (.Call (.Name "enumerate" p) [a] [] pos') X.env x=pure x:=by intro _;rfl):
 PS X (.For (.Tuple elts k0 tp) (.Call (.Name "enumerate" p) [a] [] pos') body [] pos) (bh X.K H0 O0 (DR ta dg tb)):=
 (oT hp hc (Mx hgl hm ha hst) hg hb hs).imp λD σ H uu71=>by obtain⟨O,δ,E,w,q,k1,k2,k3,k4⟩:=uu71;exact⟨O,δ,_,w,q,λds vs H1 uu72 s1 r1=>by
  obtain⟨xs,e,q1⟩:=uu72;subst e;cases r1 with
  | cons h r=>
   cases r;have fin:∀(p:Yl)(us:List V),aZ X.K H1 p us->(∀H' O',aH H1 H' O O'->aZ X.K H' p us)->ai X.K H1 O us xs->∃a ys,[V.ref p]=[V.ref a]/\aZ X.K H1 a ys/\FR (tw X.K a) g (bh X.K H0 O0 tb) D σ H1:=λp us hq hs rr=>⟨p,us,rfl,hq,My hs gd rr (w.mono s1) q1 (λO' δ' σ' H' z w' S=>k1 O' δ' σ' H' z w' (aH.trans (.same s1) S)) k2⟩;cases h with
   | tup h n r=>exact fin _ _ (.inl h) (λH' O' S=>.inl (h.same λo e=>S.keep _ o e n)) r
   | tupK h r=>
    rcases h with(h | ⟨o,h⟩) | h
    ·cases h
    ·cases h
    ·exact fin _ _ (.inr h) (λH' O' S=>.inr h) r⟩
end
end _L
namespace _K
open PySem _L
def aU(i:Nat):Yx:=PySem.Challenge.pw_goneday_k24_whatever_the_order.main.body.getD i (.Pass ⟨0,0,0,0⟩)
abbrev wI:Yx:=aU 8
abbrev wJ:Yx:=aU 9
abbrev wK:Yx:=aU 10
abbrev wL:Yx:=aU 11
abbrev wM:Yx:=aU 12
abbrev wN:Yx:=aU 13
abbrev tD:Yx:=aU 14
abbrev wO:Yx:=aU 15
abbrev tE:Yx:=_L.inClass (aU 17) 0
abbrev wQ:Yx:=aU 18
abbrev tF:Yx:=aU 19
abbrev wR:Yx:=aU 20
abbrev tG:Yx:=aU 21
abbrev qR:Yx:=aU 22
abbrev tH:Yx:=aU 23
abbrev tI:Yx:=aU 24
abbrev tJ:Yx:=aU 26
abbrev tK:Yx:=aU 27
abbrev tL:Yx:=aU 28
abbrev wU:Yx:=aU 29
abbrev tM:Yx:=aU 30
abbrev tN:Yx:=aU 31
abbrev tO:Yx:=aU 32
abbrev wV:Yx:=aU 33
abbrev tP:Yx:=aU 35
abbrev wX:Yx:=aU 36
abbrev tQ:Yx:=aU 37
abbrev tR:Yx:=aU 38
abbrev tS:Yx:=aU 39
abbrev wY:Yx:=aU 41
abbrev tT:Yx:=aU 42
abbrev qS:Yx:=aU 43
abbrev wZ:Yx:=_L.inClass (aU 45) 0
abbrev xi:Yx:=_L.inClass (aU 45) 1
abbrev xj:Yx:=_L.inClass (aU 45) 2
abbrev tU:Yx:=_L.inClass (aU 46) 0
abbrev xk:Yx:=_L.inClass (aU 46) 1
abbrev xm:Yx:=_L.inClass (aU 46) 2
abbrev pB:Yx:=_L.inClass (aU 46) 3
abbrev tV:Yx:=aU 47
abbrev xp:Yx:=aU 48
abbrev xq:Yx:=aU 49
abbrev tW:Yx:=aU 50
abbrev xt:Yx:=aU 51
abbrev tX:Yx:=aU 53
abbrev xv:Yx:=aU 54
abbrev qT:Yx:=aU 55
abbrev xy:Yx:=aU 57
abbrev xA:Yx:=aU 58
abbrev pC:Yx:=aU 59
abbrev xB:Yx:=aU 60
abbrev xC:Yx:=aU 61
abbrev xD:Yx:=aU 62
abbrev xE:Yx:=aU 63
abbrev xF:Yx:=aU 64
abbrev xG:Yx:=aU 65
abbrev tY:Yx:=aU 66
abbrev xH:Yx:=aU 67
abbrev xI:Yx:=aU 68
abbrev tZ:Yx:=aU 69
abbrev xJ:Yx:=aU 70
abbrev xK:Yx:=aU 71
abbrev t6:Yx:=aU 72
abbrev oo:Yx:=aU 73
set_option genInjectivity false in
set_option genSizeOfSpec false in
structure cg where
 a_A:Yl
 d_A:Ys
 a_B:Yl
 d_B:Ys
 a_C:Yl
 d_C:Ys
 a_D:Yl
 d_D:Ys
 a_E:Yl
 d_E:Ys
 a_F:Yl
 d_F:Ys
 a_G:Yl
 d_G:Ys
 a_H:Yl
 d_H:Ys
 a_I:Yl
 d_I:Ys
 a_J:Yl
 d_J:Ys
 a_K:Yl
 d_K:Ys
 a_L:Yl
 d_L:Ys
 a_M:Yl
 d_M:Ys
 a_N:Yl
 d_N:Ys
 a_O:Yl
 d_O:Ys
 a_P:Yl
 d_P:Ys
 a_Q:Yl
 d_Q:Ys
 a_R:Yl
 d_R:Ys
 a_S:Yl
 d_S:Ys
 a_T:Yl
 d_T:Ys
 a_U:Yl
 d_U:Ys
 a_V:Yl
 d_V:Ys
 a_W:Yl
 d_W:Ys
 a_X:Yl
 d_X:Ys
 a_Y:Yl
 d_Y:Ys
 a_Z:Yl
 d_Z:Ys
 a_a:Yl
 d_a:Ys
 a_b:Yl
 d_b:Ys
 a_c:Yl
 d_c:Ys
 a_d:Yl
 d_d:Ys
 a_e:Yl
 d_e:Ys
 a_f:Yl
 d_f:Ys
 a_g:Yl
 d_g:Ys
 a_h:Yl
 d_h:Ys
 a_i:Yl
 d_i:Ys
 a_j:Yl
 d_j:Ys
 a_k:Yl
 d_k:Ys
 a_l:Yl
 d_l:Ys
 a_m:Yl
 d_m:Ys
 a_n:Yl
 d_n:Ys
 a_o:Yl
 d_o:Ys
 a_p:Yl
 d_p:Ys
 a_q:Yl
 d_q:Ys
 a_r:Yl
 d_r:Ys
 a_s:Yl
 d_s:Ys
 a_t:Yl
 d_t:Ys
 a_u:Yl
 d_u:Ys
 a_v:Yl
 d_v:Ys
 a_w:Yl
 d_w:Ys
 a_x:Yl
 d_x:Ys
 a_y:Yl
 d_y:Ys
 a_z:Yl
 d_z:Ys
 a_AA:Yl
 d_AA:Ys
 a_AB:Yl
 d_AB:Ys
 a_AC:Yl
 d_AC:Ys
 a_AD:Yl
 d_AD:Ys
 a_AE:Yl
 d_AE:Ys
 a_AF:Yl
 d_AF:Ys
 a_AG:Yl
 d_AG:Ys
 a_AH:Yl
 d_AH:Ys
 a_AI:Yl
 d_AI:Ys
 a_AJ:Yl
 d_AJ:Ys
 a_AK:Yl
 d_AK:Ys
 a_AL:Yl
 d_AL:Ys
 u_MONTH_DAYS:Yj
 u_FIRST_YEAR:Yj
 u_ROUND_DAYS:Yj
 u_ROUND_YEARS:Yj
 u_NoPaper:Yl
 u_Paper:Yl
 u_Look:Yl
 u_Round:Yl
structure Txt (K:QN) (mg:Str->Option Yj) (t:cg):Prop where
 F_A:Fn K mg "is_leap" wI t.a_A t.d_A ["year"]
 F_B:Fn K mg "month_length" wJ t.a_B t.d_B ["year","month"]
 F_C:Fn K mg "leaps_before" wK t.a_C t.d_C ["year"]
 F_D:Fn K mg "year_start" wL t.a_D t.d_D ["year"]
 F_E:Fn K mg "year_of" wM t.a_E t.d_E ["day"]
 F_F:Fn K mg "parts_of" wN t.a_F t.d_F ["day"]
 F_G:Fn K mg "number_of" tD t.a_G t.d_G ["year","month","day"]
 F_H:Fn K mg "later" wO t.a_H t.d_H ["day","many","unit"]
 F_I:Mn K "__init__" "Paper.__init__" tE t.a_I t.d_I ["self","deeds","name"]
 F_J:Fn K mg "place_of" wQ t.a_J t.d_J ["deed"]
 F_K:Fn K mg "comings" tF t.a_K t.d_K ["deeds"]
 F_L:Fn K mg "coming_of" wR t.a_L t.d_L ["deeds","paper"]
 F_M:Fn K mg "papers" tG t.a_M t.d_M ["deeds"]
 F_N:Fn K mg "maker_comings" qR t.a_N t.d_N ["deeds","coming"]
 F_O:Fn K mg "makers" tH t.a_O t.d_O ["deeds","paper"]
 F_P:Fn K mg "line_of" tI t.a_P t.d_P ["deeds","paper"]
 F_Q:Fn K mg "latest" tJ t.a_Q t.d_Q ["deeds","words","day"]
 F_R:Fn K mg "rules_on" tK t.a_R t.d_R ["deeds","day"]
 F_S:Fn K mg "holds_on" tL t.a_S t.d_S ["deeds","day"]
 F_T:Fn K mg "is_told" wU t.a_T t.d_T ["target","coming"]
 F_U:Fn K mg "holding" tM t.a_U t.d_U ["holds","line"]
 F_V:Fn K mg "happened" tN t.a_V t.d_V ["paper","happening"]
 F_W:Fn K mg "base_of" tO t.a_W t.d_W ["paper","since","day"]
 F_X:Fn K mg "reckoned" wV t.a_X t.d_X ["paper","parts","day"]
 F_Y:Fn K mg "rules_over" tP t.a_Y t.d_Y ["paper","rules","day"]
 F_Z:Fn K mg "has_gone" wX t.a_Z t.d_Z ["gone","paper","day"]
 F_a:Fn K mg "staying" tQ t.a_a t.d_a ["paper","rules","day","gone"]
 F_b:Fn K mg "going" tR t.a_b t.d_b ["paper","rules","day","gone"]
 F_c:Fn K mg "leave_rules" tS t.a_c t.d_c ["kind","rules"]
 F_d:Fn K mg "bases" wY t.a_d t.d_d ["since","paper"]
 F_e:Fn K mg "reckonings" tT t.a_e t.d_e ["ready","parts"]
 F_f:Fn K mg "turning_days" qS t.a_f t.d_f ["deeds"]
 F_g:Mn K "__init__" "Look.__init__" wZ t.a_g t.d_g ["self","day","paper","to_stay","to_go","bars","leave"]
 F_h:Mn K "lets_go" "Look.lets_go" xi t.a_h t.d_h ["self"]
 F_i:Mn K "as_row" "Look.as_row" xj t.a_i t.d_i ["self"]
 F_j:Mn K "__init__" "Round.__init__" tU t.a_j t.d_j ["self","deeds","day","done"]
 F_k:Mn K "mark" "Round.mark" xk t.a_k t.d_k ["self","row"]
 F_l:Mn K "unused" "Round.unused" xm t.a_l t.d_l ["self","kind"]
 F_m:Mn K "look" "Round.look" pB t.a_m t.d_m ["self","paper","line"]
 F_n:Fn K mg "shelf_of" tV t.a_n t.d_n ["deeds"]
 F_o:Fn K mg "looks_on" xp t.a_o t.d_o ["deeds","shelf","day","done"]
 F_p:Fn K mg "walk" xq t.a_p t.d_p ["deeds","days","done"]
 F_q:Fn K mg "rows_of" tW t.a_q t.d_q ["looks"]
 F_r:Fn K mg "plan_looks" xt t.a_r t.d_r ["deeds"]
 F_s:Fn K mg "plan" tX t.a_s t.d_s ["deeds"]
 F_t:Fn K mg "days_of" xv t.a_t t.d_t ["deeds"]
 F_u:Fn K mg "there" qT t.a_u t.d_u ["deeds","day"]
 F_v:Fn K mg "_law_cell" xy t.a_v t.d_v ["_law_script","_law_k"]
 F_w:Fn K mg "_law_numbers" xA t.a_w t.d_w ["_law_cell_here","_law_many"]
 F_x:Fn K mg "_law_pool" pC t.a_x t.d_x ["_law_x","_law_many"]
 F_y:Fn K mg "_law_first" xB t.a_y t.d_y ["_law_year"]
 F_z:Fn K mg "_law_lengths" xC t.a_z t.d_z ["_law_year"]
 F_AA:Fn K mg "_law_day" xD t.a_AA t.d_AA ["_law_x","_law_far_here"]
 F_AB:Fn K mg "_law_since" xE t.a_AB t.d_AB ["_law_x","_law_words"]
 F_AC:Fn K mg "_law_parts" xF t.a_AC t.d_AC ["_law_xs","_law_kinds","_law_words","_law_far_here"]
 F_AD:Fn K mg "_law_quarrel" xG t.a_AD t.d_AD ["_law_one","_law_other"]
 F_AE:Fn K mg "_law_deed" tY t.a_AE t.d_AE ["_law_sort","_law_xs","_law_pools_here","_law_far_here"]
 F_AF:Fn K mg "_law_pools" xH t.a_AF t.d_AF ["_law_x"]
 F_AG:Fn K mg "_law_sorts" xI t.a_AG t.d_AG []
 F_AH:Fn K mg "_law_deeds" tZ t.a_AH t.d_AH ["_law_script","_law_at","_law_far_here"]
 F_AI:Fn K mg "_law_far" xJ t.a_AI t.d_AI ["_law_script","_law_at"]
 F_AJ:Fn K mg "_law_mixed" xK t.a_AJ t.d_AJ ["_law_deeds_here","_law_number"]
 F_AK:Fn K mg "_law_all" t6 t.a_AK t.d_AK ["_law_deeds_here","_law_days"]
 F_AL:Fn K mg "law" oo t.a_AL t.d_AL ["_law_script"]
 bt_AL:∀(s:Ym)(u:Yj),BindsTo s t.d_AL ⟨[u],[]⟩ [("_law_script",u)]
 c_MONTH_DAYS:mg "MONTH_DAYS"=some t.u_MONTH_DAYS
 e_MONTH_DAYS:∃a,t.u_MONTH_DAYS= .ref a/\∀H,aZ K H a [V.int 31,V.int 28,V.int 31,V.int 30,V.int 31,V.int 30,V.int 31,V.int 31,V.int 30,V.int 31,V.int 30,V.int 31]
 c_FIRST_YEAR:mg "FIRST_YEAR"=some t.u_FIRST_YEAR
 r_FIRST_YEAR:aJ (.int 2000) t.u_FIRST_YEAR
 c_ROUND_DAYS:mg "ROUND_DAYS"=some t.u_ROUND_DAYS
 r_ROUND_DAYS:aJ (.int 146097) t.u_ROUND_DAYS
 c_ROUND_YEARS:mg "ROUND_YEARS"=some t.u_ROUND_YEARS
 r_ROUND_YEARS:aJ (.int 400) t.u_ROUND_YEARS
 c_NoPaper:mg "NoPaper"=some (.ref t.u_NoPaper)
 c_Paper:mg "Paper"=some (.ref t.u_Paper)
 c_Look:mg "Look"=some (.ref t.u_Look)
 c_Round:mg "Round"=some (.ref t.u_Round)
 cl_Paper:cQ K t.u_Paper
 mk_Paper:Mk K t.u_Paper t.a_I
 na_Paper_name:NoAttr K t.u_Paper "name"
 na_Paper_coming:NoAttr K t.u_Paper "coming"
 na_Paper_kind:NoAttr K t.u_Paper "kind"
 na_Paper_makers:NoAttr K t.u_Paper "makers"
 na_Paper_happenings:NoAttr K t.u_Paper "happenings"
 cl_Look:cQ K t.u_Look
 mk_Look:Mk K t.u_Look t.a_g
 na_Look_day:NoAttr K t.u_Look "day"
 na_Look_paper:NoAttr K t.u_Look "paper"
 na_Look_to_stay:NoAttr K t.u_Look "to_stay"
 na_Look_to_go:NoAttr K t.u_Look "to_go"
 na_Look_bars:NoAttr K t.u_Look "bars"
 na_Look_leave:NoAttr K t.u_Look "leave"
 mt_Look_lets_go:gY K t.u_Look "lets_go" t.a_h
 mt_Look_as_row:gY K t.u_Look "as_row" t.a_i
 cl_Round:cQ K t.u_Round
 mk_Round:Mk K t.u_Round t.a_j
 na_Round_day:NoAttr K t.u_Round "day"
 na_Round_rules:NoAttr K t.u_Round "rules"
 na_Round_holds:NoAttr K t.u_Round "holds"
 na_Round_leaves:NoAttr K t.u_Round "leaves"
 na_Round_gone:NoAttr K t.u_Round "gone"
 na_Round_used:NoAttr K t.u_Round "used"
 mt_Round_mark:gY K t.u_Round "mark" t.a_k
 mt_Round_unused:gY K t.u_Round "unused" t.a_l
 mt_Round_look:gY K t.u_Round "look" t.a_m
 n_abs:mg "abs"=none
 n_any:mg "any"=none
 n_divmod:mg "divmod"=none
 n_enumerate:mg "enumerate"=none
 n_int:mg "int"=none
 n_len:mg "len"=none
 n_list:mg "list"=none
 n_max:mg "max"=none
 n_min:mg "min"=none
 n_range:mg "range"=none
 n_set:mg "set"=none
 n_sorted:mg "sorted"=none
 n_sum:mg "sum"=none
 n_tuple:mg "tuple"=none
theorem MA:aO ["year"] ["year"] (av wI):=⟨rfl,rfl,rfl,Yb,rfl,Yb,Yb⟩
theorem MB:aO ["year","month"] ["year","month"] (av wJ):=⟨rfl,rfl,rfl,Yb,rfl,Yb,Yb⟩
theorem DU:aO ["year","past"] ["year"] (av wK):=⟨rfl,rfl,rfl,Yb,rfl,Yb,Yb⟩
theorem MC:aO ["year"] ["year"] (av wL):=⟨rfl,rfl,rfl,Yb,rfl,Yb,Yb⟩
theorem DV:aO ["day","year"] ["day"] (av wM):=⟨rfl,rfl,rfl,Yb,rfl,Yb,Yb⟩
theorem pE:aO ["day","year","left","month"] ["day"] (av wN):=⟨rfl,rfl,rfl,Yb,rfl,Yb,Yb⟩
theorem DW:aO ["year","month","day","before"] ["year","month","day"] (av tD):=⟨rfl,rfl,rfl,Yb,rfl,Yb,Yb⟩
theorem pF:aO ["day","many","unit","months","parts","place","year","month"] ["day","many","unit"] (av wO):=⟨rfl,rfl,rfl,Yb,rfl,Yb,Yb⟩
theorem DX:aO ["self","deeds","name","coming"] ["self","deeds","name"] (av tE):=⟨rfl,rfl,rfl,Yb,rfl,Yb,Yb⟩
theorem MD:aO ["deed"] ["deed"] (av wQ):=⟨rfl,rfl,rfl,Yb,rfl,Yb,Yb⟩
theorem ME:aO ["deeds"] ["deeds"] (av tF):=⟨rfl,rfl,rfl,Yb,rfl,Yb,Yb⟩
theorem DY:aO ["deeds","paper","deed"] ["deeds","paper"] (av wR):=⟨rfl,rfl,rfl,Yb,rfl,Yb,Yb⟩
theorem MF:aO ["deeds"] ["deeds"] (av tG):=⟨rfl,rfl,rfl,Yb,rfl,Yb,Yb⟩
theorem DZ:aO ["deeds","coming","named"] ["deeds","coming"] (av qR):=⟨rfl,rfl,rfl,Yb,rfl,Yb,Yb⟩
theorem MG:aO ["deeds","paper"] ["deeds","paper"] (av tH):=⟨rfl,rfl,rfl,Yb,rfl,Yb,Yb⟩
theorem t7:aO ["deeds","paper","line","place"] ["deeds","paper"] (av tI):=⟨rfl,rfl,rfl,Yb,rfl,Yb,Yb⟩
theorem t8:aO ["deeds","words","day","found","deed","known"] ["deeds","words","day"] (av tJ):=⟨rfl,rfl,rfl,Yb,rfl,Yb,Yb⟩
theorem MH:aO ["deeds","day"] ["deeds","day"] (av tK):=⟨rfl,rfl,rfl,Yb,rfl,Yb,Yb⟩
theorem MI:aO ["deeds","day"] ["deeds","day"] (av tL):=⟨rfl,rfl,rfl,Yb,rfl,Yb,Yb⟩
theorem MJ:aO ["target","coming"] ["target","coming"] (av wU):=⟨rfl,rfl,rfl,Yb,rfl,Yb,Yb⟩
theorem pG:aO ["holds","line","names","hold","target","deep","reached"] ["holds","line"] (av tM):=⟨rfl,rfl,rfl,Yb,rfl,Yb,Yb⟩
theorem MK:aO ["paper","happening"] ["paper","happening"] (av tN):=⟨rfl,rfl,rfl,Yb,rfl,Yb,Yb⟩
theorem D1:aO ["paper","since","day","days"] ["paper","since","day"] (av tO):=⟨rfl,rfl,rfl,Yb,rfl,Yb,Yb⟩
theorem D2:aO ["paper","parts","day","base"] ["paper","parts","day"] (av wV):=⟨rfl,rfl,rfl,Yb,rfl,Yb,Yb⟩
theorem ML:aO ["paper","rules","day"] ["paper","rules","day"] (av tP):=⟨rfl,rfl,rfl,Yb,rfl,Yb,Yb⟩
theorem D3:aO ["gone","paper","day","went"] ["gone","paper","day"] (av wX):=⟨rfl,rfl,rfl,Yb,rfl,Yb,Yb⟩
theorem pH:aO ["paper","rules","day","gone","left","calls","rule","parts","due"] ["paper","rules","day","gone"] (av tQ):=⟨rfl,rfl,rfl,Yb,rfl,Yb,Yb⟩
theorem pI:aO ["paper","rules","day","gone","away","calls","rule","parts","due"] ["paper","rules","day","gone"] (av tR):=⟨rfl,rfl,rfl,Yb,rfl,Yb,Yb⟩
theorem MM:aO ["kind","rules"] ["kind","rules"] (av tS):=⟨rfl,rfl,rfl,Yb,rfl,Yb,Yb⟩
theorem D4:aO ["since","paper","days"] ["since","paper"] (av wY):=⟨rfl,rfl,rfl,Yb,rfl,Yb,Yb⟩
theorem xM:aO ["ready","parts","days","paper"] ["ready","parts"] (av tT):=⟨rfl,rfl,rfl,Yb,rfl,Yb,Yb⟩
theorem ub:aO ["deeds","ready","days","deed"] ["deeds"] (av qS):=⟨rfl,rfl,rfl,Yb,rfl,Yb,Yb⟩
theorem MN:aO ["self","day","paper","to_stay","to_go","bars","leave"] ["self","day","paper","to_stay","to_go","bars","leave"] (av wZ):=⟨rfl,rfl,rfl,Yb,rfl,Yb,Yb⟩
theorem MO:aO ["self"] ["self"] (av xi):=⟨rfl,rfl,rfl,Yb,rfl,Yb,Yb⟩
theorem MP:aO ["self"] ["self"] (av xj):=⟨rfl,rfl,rfl,Yb,rfl,Yb,Yb⟩
theorem xN:aO ["self","deeds","day","done","leaves","row"] ["self","deeds","day","done"] (av tU):=⟨rfl,rfl,rfl,Yb,rfl,Yb,Yb⟩
theorem MQ:aO ["self","row"] ["self","row"] (av xk):=⟨rfl,rfl,rfl,Yb,rfl,Yb,Yb⟩
theorem D5:aO ["self","kind","deed"] ["self","kind"] (av xm):=⟨rfl,rfl,rfl,Yb,rfl,Yb,Yb⟩
theorem pJ:aO ["self","paper","line","to_stay","to_go","asking","leave","bars"] ["self","paper","line"] (av pB):=⟨rfl,rfl,rfl,Yb,rfl,Yb,Yb⟩
theorem MR:aO ["deeds"] ["deeds"] (av tV):=⟨rfl,rfl,rfl,Yb,rfl,Yb,Yb⟩
theorem pK:aO ["deeds","shelf","day","done","here","told","paper","line","look"] ["deeds","shelf","day","done"] (av xp):=⟨rfl,rfl,rfl,Yb,rfl,Yb,Yb⟩
theorem pL:aO ["deeds","days","done","shelf","rows","told","day","looks"] ["deeds","days","done"] (av xq):=⟨rfl,rfl,rfl,Yb,rfl,Yb,Yb⟩
theorem MS:aO ["looks"] ["looks"] (av tW):=⟨rfl,rfl,rfl,Yb,rfl,Yb,Yb⟩
theorem MT:aO ["deeds"] ["deeds"] (av xt):=⟨rfl,rfl,rfl,Yb,rfl,Yb,Yb⟩
theorem xO:aO ["deeds","rows","row"] ["deeds"] (av tX):=⟨rfl,rfl,rfl,Yb,rfl,Yb,Yb⟩
theorem qU:aO ["deeds","days","paper","day","leave"] ["deeds"] (av xv):=⟨rfl,rfl,rfl,Yb,rfl,Yb,Yb⟩
theorem xP:aO ["deeds","day","days","come"] ["deeds","day"] (av qT):=⟨rfl,rfl,rfl,Yb,rfl,Yb,Yb⟩
theorem uc:aO ["_law_script","_law_k","_law_state","_law_cell_here"] ["_law_script","_law_k"] (av xy):=⟨rfl,rfl,rfl,Yb,rfl,Yb,Yb⟩
theorem nF:aO ["_law_cell_here","_law_many","_law_found","_law_state","_law_digits","_law_k"] ["_law_cell_here","_law_many"] (av xA):=⟨rfl,rfl,rfl,Yb,rfl,Yb,Yb⟩
theorem nG:aO ["_law_x","_law_many","_law_letters","_law_words","_law_size","_law_at","_law_stem","_law_ends"] ["_law_x","_law_many"] (av pC):=⟨rfl,rfl,rfl,Yb,rfl,Yb,Yb⟩
theorem D6:aO ["_law_year","_law_past"] ["_law_year"] (av xB):=⟨rfl,rfl,rfl,Yb,rfl,Yb,Yb⟩
theorem D7:aO ["_law_year","_law_leap"] ["_law_year"] (av xC):=⟨rfl,rfl,rfl,Yb,rfl,Yb,Yb⟩
theorem xQ:aO ["_law_x","_law_far_here","_law_month","_law_ahead"] ["_law_x","_law_far_here"] (av xD):=⟨rfl,rfl,rfl,Yb,rfl,Yb,Yb⟩
theorem MU:aO ["_law_x","_law_words"] ["_law_x","_law_words"] (av xE):=⟨rfl,rfl,rfl,Yb,rfl,Yb,Yb⟩
theorem oq:aO ["_law_xs","_law_kinds","_law_words","_law_far_here","_law_kind","_law_sort","_law_unit","_law_many"] ["_law_xs","_law_kinds","_law_words","_law_far_here"] (av xF):=⟨rfl,rfl,rfl,Yb,rfl,Yb,Yb⟩
theorem MV:aO ["_law_one","_law_other"] ["_law_one","_law_other"] (av xG):=⟨rfl,rfl,rfl,Yb,rfl,Yb,Yb⟩
theorem nH:aO ["_law_sort","_law_xs","_law_pools_here","_law_far_here","_law_names","_law_kinds","_law_words","_law_rules","_law_day_here","_law_some","_law_target"] ["_law_sort","_law_xs","_law_pools_here","_law_far_here"] (av tY):=⟨rfl,rfl,rfl,Yb,rfl,Yb,Yb⟩
theorem D8:aO ["_law_x","_law_names"] ["_law_x"] (av xH):=⟨rfl,rfl,rfl,Yb,rfl,Yb,Yb⟩
theorem D9:aO ["_law_found"] [] (av xI):=⟨rfl,rfl,rfl,Yb,rfl,Yb,Yb⟩
theorem lC:aO ["_law_script","_law_at","_law_far_here","_law_head","_law_pools_here","_law_found","_law_k","_law_sort","_law_xs","_law_deed_here","_law_turn"] ["_law_script","_law_at","_law_far_here"] (av tZ):=⟨rfl,rfl,rfl,Yb,rfl,Yb,Yb⟩
theorem MW:aO ["_law_script","_law_at"] ["_law_script","_law_at"] (av xJ):=⟨rfl,rfl,rfl,Yb,rfl,Yb,Yb⟩
theorem pM:aO ["_law_deeds_here","_law_number","_law_found","_law_k","_law_deed_here","_law_at"] ["_law_deeds_here","_law_number"] (av xK):=⟨rfl,rfl,rfl,Yb,rfl,Yb,Yb⟩
theorem MX:aO ["_law_deeds_here","_law_days"] ["_law_deeds_here","_law_days"] (av t6):=⟨rfl,rfl,rfl,Yb,rfl,Yb,Yb⟩
theorem gc:aO ["_law_script","_law_deeds_here","_law_xs","_law_more","_law_at","_law_days","_law_sets","_law_due","_law_number","_law_turn","_law_k","_law_some"] ["_law_script"] (av oo):=⟨rfl,rfl,rfl,Yb,rfl,Yb,Yb⟩
theorem MY{α:Type}{us:List α}(h:us.length=0):us=[]:=Wx.mp h
theorem Ea{α:Type}{us:List α}(h:us.length=1):∃a,us=[a]:=List.length_eq_one_iff.mp h
theorem Eb{α:Type}{us:List α}(h0:us.length=2):∃a b,us=[a,b]:=by
 cases us with
 | nil=>cases h0
 | cons a us=>
  obtain⟨b,z0⟩:=Ea (us:=us) (Vg h0);exact⟨a,b,by rw [z0]⟩
theorem Ec{α:Type}{us:List α}(h0:us.length=3):∃a b c,us=[a,b,c]:=by
 cases us with
 | nil=>cases h0
 | cons a us=>
  obtain⟨b,c,z0⟩:=Eb (us:=us) (Vg h0);exact⟨a,b,c,by rw [z0]⟩
theorem Ed{α:Type}{us:List α}(h0:us.length=4):∃a b c d,us=[a,b,c,d]:=by
 cases us with
 | nil=>cases h0
 | cons a us=>
  obtain⟨b,c,d,z0⟩:=Ec (us:=us) (Vg h0);exact⟨a,b,c,d,by rw [z0]⟩
theorem Ee{α:Type}{us:List α}(h0:us.length=5):∃a b c d p,us=[a,b,c,d,p]:=by
 cases us with
 | nil=>cases h0
 | cons a us=>
  obtain⟨b,c,d,p,z0⟩:=Ed (us:=us) (Vg h0);exact⟨a,b,c,d,p,by rw [z0]⟩
theorem Ef{α:Type}{us:List α}(h0:us.length=6):∃a b c d p q,us=[a,b,c,d,p,q]:=by
 cases us with
 | nil=>cases h0
 | cons a us=>
  obtain⟨b,c,d,p,q,z0⟩:=Ee (us:=us) (Vg h0);exact⟨a,b,c,d,p,q,by rw [z0]⟩
theorem MZ{α:Type}{us:List α}(h0:us.length=7):∃a b c d p q r,us=[a,b,c,d,p,q,r]:=by
 cases us with
 | nil=>cases h0
 | cons a us=>
  obtain⟨b,c,d,p,q,r,z0⟩:=Ef (us:=us) (Vg h0);exact⟨a,b,c,d,p,q,r,by rw [z0]⟩
local macro_rules | `(tactic| walk_at "b")=>`(tactic| (intro _ _ _ _ _ _ us hl;first | (cases MY (us:=us) hl;rfl) | (obtain⟨a,e⟩:=Ea (us:=us) hl;subst e;rfl) | (obtain⟨a,b,e⟩:=Eb (us:=us) hl;subst e;rfl) | (obtain⟨a,b,c,e⟩:=Ec (us:=us) hl;subst e;rfl) | (obtain⟨a,b,c,d,e⟩:=Ed (us:=us) hl;subst e;rfl) | (obtain⟨a,b,c,d,p,e⟩:=Ee (us:=us) hl;subst e;rfl) | (obtain⟨a,b,c,d,p,q,e⟩:=Ef (us:=us) hl;subst e;rfl) | (obtain⟨a,b,c,d,p,q,r,e⟩:=MZ (us:=us) hl;subst e;rfl)))
theorem txt_mk{K:QN}{h:Yw}{mg:Str->Option Yj}(X:K.In h)(G:h.Ns Yy mg)
 {f0 f1 f2 f3 f4 f5 f6 f7 f8 f9 f10 f11 f12 f13 f14 f15 f16 f17 f18 f19 f20 f21 f22 f23 f24 f25 f26 f27 f28 f29 f30 f31 f32 f33 f34 f35 f36 f37 f38 f39 f40 f41 f42 f43 f44 f45 f46 f47 f48 f49 f50 f51 f52 f53 f54 f55 f56 f57 f58 f59 f60 f61 f62 f63:Yl}{e0 e1 e2 e3 e4 e5 e6 e7 e8 e9 e10 e11 e12 e13 e14 e15 e16 e17 e18 e19 e20 e21 e22 e23 e24 e25 e26 e27 e28 e29 e30 e31 e32 e33 e34 e35 e36 e37 e38 e39 e40 e41 e42 e43 e44 e45 e46 e47 e48 e49 e50 e51 e52 e53 e54 e55 e56 e57 e58 e59 e60 e61 e62 e63:Ys}
 {u_NoPaper u_Paper u_Look u_Round:Yl}
 {u_FIRST_YEAR u_ROUND_DAYS u_ROUND_YEARS:Yj}
 {A_MONTH_DAYS:Yl}{dd_MONTH_DAYS:Option Yl}{its_MONTH_DAYS:Array Yj}{n_MONTH_DAYS:Nat}{sl_MONTH_DAYS:Array (Option Yj)}
 (a0:DfT K "is_leap" wI f0 e0)
 (a1:DfT K "month_length" wJ f1 e1)
 (a2:DfT K "leaps_before" wK f2 e2)
 (a3:DfT K "year_start" wL f3 e3)
 (a4:DfT K "year_of" wM f4 e4)
 (a5:DfT K "parts_of" wN f5 e5)
 (a6:DfT K "number_of" tD f6 e6)
 (a7:DfT K "later" wO f7 e7)
 (a8:DmT K u_Paper "__init__" "Paper.__init__" tE f8 e8)
 (a9:DfT K "place_of" wQ f9 e9)
 (a10:DfT K "comings" tF f10 e10)
 (a11:DfT K "coming_of" wR f11 e11)
 (a12:DfT K "papers" tG f12 e12)
 (a13:DfT K "maker_comings" qR f13 e13)
 (a14:DfT K "makers" tH f14 e14)
 (a15:DfT K "line_of" tI f15 e15)
 (a16:DfT K "latest" tJ f16 e16)
 (a17:DfT K "rules_on" tK f17 e17)
 (a18:DfT K "holds_on" tL f18 e18)
 (a19:DfT K "is_told" wU f19 e19)
 (a20:DfT K "holding" tM f20 e20)
 (a21:DfT K "happened" tN f21 e21)
 (a22:DfT K "base_of" tO f22 e22)
 (a23:DfT K "reckoned" wV f23 e23)
 (a24:DfT K "rules_over" tP f24 e24)
 (a25:DfT K "has_gone" wX f25 e25)
 (a26:DfT K "staying" tQ f26 e26)
 (a27:DfT K "going" tR f27 e27)
 (a28:DfT K "leave_rules" tS f28 e28)
 (a29:DfT K "bases" wY f29 e29)
 (a30:DfT K "reckonings" tT f30 e30)
 (a31:DfT K "turning_days" qS f31 e31)
 (a32:DmT K u_Look "__init__" "Look.__init__" wZ f32 e32)
 (a33:DmT K u_Look "lets_go" "Look.lets_go" xi f33 e33)
 (a34:DmT K u_Look "as_row" "Look.as_row" xj f34 e34)
 (a35:DmT K u_Round "__init__" "Round.__init__" tU f35 e35)
 (a36:DmT K u_Round "mark" "Round.mark" xk f36 e36)
 (a37:DmT K u_Round "unused" "Round.unused" xm f37 e37)
 (a38:DmT K u_Round "look" "Round.look" pB f38 e38)
 (a39:DfT K "shelf_of" tV f39 e39)
 (a40:DfT K "looks_on" xp f40 e40)
 (a41:DfT K "walk" xq f41 e41)
 (a42:DfT K "rows_of" tW f42 e42)
 (a43:DfT K "plan_looks" xt f43 e43)
 (a44:DfT K "plan" tX f44 e44)
 (a45:DfT K "days_of" xv f45 e45)
 (a46:DfT K "there" qT f46 e46)
 (a47:DfT K "_law_cell" xy f47 e47)
 (a48:DfT K "_law_numbers" xA f48 e48)
 (a49:DfT K "_law_pool" pC f49 e49)
 (a50:DfT K "_law_first" xB f50 e50)
 (a51:DfT K "_law_lengths" xC f51 e51)
 (a52:DfT K "_law_day" xD f52 e52)
 (a53:DfT K "_law_since" xE f53 e53)
 (a54:DfT K "_law_parts" xF f54 e54)
 (a55:DfT K "_law_quarrel" xG f55 e55)
 (a56:DfT K "_law_deed" tY f56 e56)
 (a57:DfT K "_law_pools" xH f57 e57)
 (a58:DfT K "_law_sorts" xI f58 e58)
 (a59:DfT K "_law_deeds" tZ f59 e59)
 (a60:DfT K "_law_far" xJ f60 e60)
 (a61:DfT K "_law_mixed" xK f61 e61)
 (a62:DfT K "_law_all" t6 f62 e62)
 (a63:DfT K "law" oo f63 e63)
 (x_MONTH_DAYS:RS K Yy "MONTH_DAYS"=some (some (.ref A_MONTH_DAYS)))(y_MONTH_DAYS:K.lookup A_MONTH_DAYS=some ⟨.type "tuple",dd_MONTH_DAYS,.seq its_MONTH_DAYS n_MONTH_DAYS,sl_MONTH_DAYS⟩)(z_MONTH_DAYS:aI [V.int 31,V.int 28,V.int 31,V.int 30,V.int 31,V.int 30,V.int 31,V.int 31,V.int 30,V.int 31,V.int 30,V.int 31] its_MONTH_DAYS.toList)(w_MONTH_DAYS:its_MONTH_DAYS.size<=Yt)
 (x_FIRST_YEAR:RS K Yy "FIRST_YEAR"=some (some u_FIRST_YEAR))(r_FIRST_YEAR:aJ (.int 2000) u_FIRST_YEAR)
 (x_ROUND_DAYS:RS K Yy "ROUND_DAYS"=some (some u_ROUND_DAYS))(r_ROUND_DAYS:aJ (.int 146097) u_ROUND_DAYS)
 (x_ROUND_YEARS:RS K Yy "ROUND_YEARS"=some (some u_ROUND_YEARS))(r_ROUND_YEARS:aJ (.int 400) u_ROUND_YEARS)
 (x_NoPaper:RS K Yy "NoPaper"=some (some (.ref u_NoPaper)))
 (x_Paper:RS K Yy "Paper"=some (some (.ref u_Paper)))
 (x_Look:RS K Yy "Look"=some (some (.ref u_Look)))
 (x_Round:RS K Yy "Round"=some (some (.ref u_Round)))
 (cl_Paper:tu K u_Paper)
 (na_Paper_name:NoAttr K u_Paper "name")
 (na_Paper_coming:NoAttr K u_Paper "coming")
 (na_Paper_kind:NoAttr K u_Paper "kind")
 (na_Paper_makers:NoAttr K u_Paper "makers")
 (na_Paper_happenings:NoAttr K u_Paper "happenings")
 (cl_Look:tu K u_Look)
 (na_Look_day:NoAttr K u_Look "day")
 (na_Look_paper:NoAttr K u_Look "paper")
 (na_Look_to_stay:NoAttr K u_Look "to_stay")
 (na_Look_to_go:NoAttr K u_Look "to_go")
 (na_Look_bars:NoAttr K u_Look "bars")
 (na_Look_leave:NoAttr K u_Look "leave")
 (cl_Round:tu K u_Round)
 (na_Round_day:NoAttr K u_Round "day")
 (na_Round_rules:NoAttr K u_Round "rules")
 (na_Round_holds:NoAttr K u_Round "holds")
 (na_Round_leaves:NoAttr K u_Round "leaves")
 (na_Round_gone:NoAttr K u_Round "gone")
 (na_Round_used:NoAttr K u_Round "used")
 (n_abs:RS K Yy "abs"=some none)
 (n_any:RS K Yy "any"=some none)
 (n_divmod:RS K Yy "divmod"=some none)
 (n_enumerate:RS K Yy "enumerate"=some none)
 (n_int:RS K Yy "int"=some none)
 (n_len:RS K Yy "len"=some none)
 (n_list:RS K Yy "list"=some none)
 (n_max:RS K Yy "max"=some none)
 (n_min:RS K Yy "min"=some none)
 (n_range:RS K Yy "range"=some none)
 (n_set:RS K Yy "set"=some none)
 (n_sorted:RS K Yy "sorted"=some none)
 (n_sum:RS K Yy "sum"=some none)
 (n_tuple:RS K Yy "tuple"=some none):∃t:cg,Txt K mg t:=by
 refine⟨⟨f0,e0,f1,e1,f2,e2,f3,e3,f4,e4,f5,e5,f6,e6,f7,e7,f8,e8,f9,e9,f10,e10,f11,e11,f12,e12,f13,e13,f14,e14,f15,e15,f16,e16,f17,e17,f18,e18,f19,e19,f20,e20,f21,e21,f22,e22,f23,e23,f24,e24,f25,e25,f26,e26,f27,e27,f28,e28,f29,e29,f30,e30,f31,e31,f32,e32,f33,e33,f34,e34,f35,e35,f36,e36,f37,e37,f38,e38,f39,e39,f40,e40,f41,e41,f42,e42,f43,e43,f44,e44,f45,e45,f46,e46,f47,e47,f48,e48,f49,e49,f50,e50,f51,e51,f52,e52,f53,e53,f54,e54,f55,e55,f56,e56,f57,e57,f58,e58,f59,e59,f60,e60,f61,e61,f62,e62,f63,e63,.ref A_MONTH_DAYS,u_FIRST_YEAR,u_ROUND_DAYS,u_ROUND_YEARS,u_NoPaper,u_Paper,u_Look,u_Round⟩,?_⟩;have bl:∀(s:Ym)(u:Yj),BindsTo s e63 ⟨[u],[]⟩ [("_law_script",u)]:=λs v=>by
  obtain⟨oc,od,kV,doc,pm,an,cdv,ct,osl,rfl,_⟩:=a63.F.ex;exact .of_eq rfl
 exact⟨a0.fn X G (by walk_at "b"),a1.fn X G (by walk_at "b"),a2.fn X G (by walk_at "b"),a3.fn X G (by walk_at "b"),a4.fn X G (by walk_at "b"),a5.fn X G (by walk_at "b"),a6.fn X G (by walk_at "b"),a7.fn X G (by walk_at "b"),a8.fn (by walk_at "b"),a9.fn X G (by walk_at "b"),a10.fn X G (by walk_at "b"),a11.fn X G (by walk_at "b"),a12.fn X G (by walk_at "b"),a13.fn X G (by walk_at "b"),a14.fn X G (by walk_at "b"),a15.fn X G (by walk_at "b"),a16.fn X G (by walk_at "b"),a17.fn X G (by walk_at "b"),a18.fn X G (by walk_at "b"),a19.fn X G (by walk_at "b"),a20.fn X G (by walk_at "b"),a21.fn X G (by walk_at "b"),a22.fn X G (by walk_at "b"),a23.fn X G (by walk_at "b"),a24.fn X G (by walk_at "b"),a25.fn X G (by walk_at "b"),a26.fn X G (by walk_at "b"),a27.fn X G (by walk_at "b"),a28.fn X G (by walk_at "b"),a29.fn X G (by walk_at "b"),a30.fn X G (by walk_at "b"),a31.fn X G (by walk_at "b"),a32.fn (by walk_at "b"),a33.fn (by walk_at "b"),a34.fn (by walk_at "b"),a35.fn (by walk_at "b"),a36.fn (by walk_at "b"),a37.fn (by walk_at "b"),a38.fn (by walk_at "b"),a39.fn X G (by walk_at "b"),a40.fn X G (by walk_at "b"),a41.fn X G (by walk_at "b"),a42.fn X G (by walk_at "b"),a43.fn X G (by walk_at "b"),a44.fn X G (by walk_at "b"),a45.fn X G (by walk_at "b"),a46.fn X G (by walk_at "b"),a47.fn X G (by walk_at "b"),a48.fn X G (by walk_at "b"),a49.fn X G (by walk_at "b"),a50.fn X G (by walk_at "b"),a51.fn X G (by walk_at "b"),a52.fn X G (by walk_at "b"),a53.fn X G (by walk_at "b"),a54.fn X G (by walk_at "b"),a55.fn X G (by walk_at "b"),a56.fn X G (by walk_at "b"),a57.fn X G (by walk_at "b"),a58.fn X G (by walk_at "b"),a59.fn X G (by walk_at "b"),a60.fn X G (by walk_at "b"),a61.fn X G (by walk_at "b"),a62.fn X G (by walk_at "b"),a63.fn X G (by walk_at "b"),bl,TV X G x_MONTH_DAYS,⟨A_MONTH_DAYS,rfl,λH=>.inr ⟨_,_,_,y_MONTH_DAYS,rfl,rfl,w_MONTH_DAYS,z_MONTH_DAYS⟩⟩,TV X G x_FIRST_YEAR,r_FIRST_YEAR,TV X G x_ROUND_DAYS,r_ROUND_DAYS,TV X G x_ROUND_YEARS,r_ROUND_YEARS,TV X G x_NoPaper,TV X G x_Paper,TV X G x_Look,TV X G x_Round,cl_Paper.c,a8.mkk cl_Paper,na_Paper_name,na_Paper_coming,na_Paper_kind,na_Paper_makers,na_Paper_happenings,cl_Look.c,a32.mkk cl_Look,na_Look_day,na_Look_paper,na_Look_to_stay,na_Look_to_go,na_Look_bars,na_Look_leave,a33.mt,a34.mt,cl_Round.c,a35.mkk cl_Round,na_Round_day,na_Round_rules,na_Round_holds,na_Round_leaves,na_Round_gone,na_Round_used,a36.mt,a37.mt,a38.mt,RZ X G n_abs,RZ X G n_any,RZ X G n_divmod,RZ X G n_enumerate,RZ X G n_int,RZ X G n_len,RZ X G n_list,RZ X G n_max,RZ X G n_min,RZ X G n_range,RZ X G n_set,RZ X G n_sorted,RZ X G n_sum,RZ X G n_tuple⟩
local macro_rules | `(tactic| walk_at "o")=>`(tactic| first | exact WI rfl | exact VB rfl)
theorem Yg{p:Prop}(h:p:=by walk_at "o"):p:=h
local macro_rules | `(tactic| walk_at "a") =>rzT "uJ AW AZ AY AX qh i5 cJ tC oU A4 rI iq rU A7 A8 uT Bf tB AJ AK AL AO AQ AU oW Bl oV rT Bm Bn rH qg rG Jg Jh Ji Jj Jk Jl Jm Jn gr i7 gX _L.start QR RO Q0 RJ Q8 R4 RY RF SA SD T8 TN TM Sj RQ SM SN Sb exists_eq_left' exists_eq_left exists_and_left exists_and_right V.int.injEq V.bl.injEq V.str.injEq V.ref.injEq RG and_true true_and T9 exists_const decide_eq_true_eq Ua Ub TX TY Sm decide_eq_false_iff_not and_assoc bB S9 S0 Ta _L.cxK _L.cmK or_true true_or"
open Day
theorem Eg:bb (av tD) ["year","month","day","before"] ["other","year"] 1 [0] ⟨QW,[ (QP ".0",ZX),(QP "other",ZX),(QP "month_length",Rr),(QP "year",Q3)],false,false,[]⟩:=⟨rfl,Yb,Yb,Yb,rfl,Yb,Yb,Yb,rfl⟩
section
variable {P:Yu} {w:Yv} {K:QN} {mg:Str->Option Yj} {base:Yw} {t:cg}
def Eh:Sp:=λvs H Q _=>∃(y:Int),vs=[.int y]/\Q (.bl (iL y)) H
theorem M3(T:Txt K mg t):aA P w K mg base CX0 1 t.a_A t.d_A ["year"] Eh:=by
 refine T.F_A.F.ok MA (λvs H Q E h=>?_) (λcdv A outer s H vs Q E hr h=>?_)
 ·obtain⟨y,rfl,_⟩:=h;rfl
 ·obtain⟨y,rfl,k⟩:=h;refine⟨_,(eX (fL (AS (rO qo (bE aW (pv 0) bL) bL (aF _)) (uI (AR (rO qo (bE aW (pv 0) bL) bL (aF _)) (uI (rO HH (bE aW (pv 0) bL) bL (aF _)))))))),?_⟩;walk_at "a";have e:iL y=(decide (y % 400=0) || (decide (y % 4=0) && !decide (y % 100=0))):=rfl;rw [e] at k;by_cases h1:y % 400=0
  ·simpa [h1] using k
  ·by_cases h2:y % 4=0
   ·simpa [h1,h2] using k
   ·simpa [h1,h2] using k
def Ei:Sp:=λvs H Q _=>∃(y m:Int),vs=[.int y,.int m]/\1<=m/\m<=12/\Q (.int (bt y m)) H
theorem xR(T:Txt K mg t):aA P w K mg base CX0 2 t.a_B t.d_B ["year","month"] Ei:=by
 have G_A:=@M3 P w _ _ base _ T;refine T.F_B.F.ok MB (λvs H Q E h=>?_) (λcdv A outer s H vs Q E hr h=>?_)
 ·obtain⟨y,m,rfl,_⟩:=h;rfl
 ·obtain⟨y,m,rfl,h1,h2,k⟩:=h;obtain⟨a,ea,hM⟩:=T.e_MONTH_DAYS;have T_r:aJ (.ref a) t.u_MONTH_DAYS:=ea;refine⟨_,(cN (oP (PW.pt (AN (nP qo (pv 1) bL (aF _)) (AM (AI (aE G_A (hr.mono Yc) rfl T.F_A (bw (pv 0) b7)))))) (eX (fL bL)) oO)
   (eX (fL (jG aG (oN rfl T.c_MONTH_DAYS T_r) (bE eY (pv 1) bL) (λ_ _=>rfl))))),?_⟩
  walk_at "a";simp only [Eh];walk_at "a";have fin:∀{v:Int},v=bt y m->Q (.int v) H:=λe=>by rw [e];exact k
  have tail:bt y m=wc.getD (m - 1).toNat 0->rX K (.ref a) (.int (m - 1)) H Q:=λe=>by
   refine⟨a,_,m - 1,.int (bt y m),rfl,rfl,hM H,?_,k⟩;rw [e];rcases wk h1 h2 with z | z | z | z | z | z | z | z | z | z | z | z <;> subst z <;> rfl
  by_cases hm:m=2
  ·rw [Yf hm];by_cases hl:iL y=true
   ·rw [Yf hl];exact fin (by unfold bt;rw [Yf ⟨hm,hl⟩])
   ·rw [Ye hl];exact tail (by unfold bt;rw [Ye (λz=>hl z.2)])
  ·rw [Ye hm];exact tail (wg hm)
def Ej:Sp:=λvs H Q _=>∃(y:Int),vs=[.int y]/\Q (.int (lb y)) H
theorem M4(T:Txt K mg t):aA P w K mg base CX0 1 t.a_C t.d_C ["year"] Ej:=by
 refine T.F_C.F.ok DU (λvs H Q E h=>?_) (λcdv A outer s H vs Q E hr h=>?_)
 ·obtain⟨y,rfl,_⟩:=h;rfl
 ·obtain⟨y,rfl,k⟩:=h;refine⟨_,(cN (dZ (i:=1) DU.nd rfl Yg (bE eY (pv 0) bL))
   (eX (fL (bE bA (bE eY (bE cO (pv 1) bL) (bE cO (pv 1) bL)) (bE cO (pv 1) bL))))),?_⟩
  walk_at "a";exact k
def ue:Sp:=λvs H Q _=>∃(y:Int),vs=[.int y]/\Q (.int (cf y)) H
theorem xS(T:Txt K mg t):aA P w K mg base CX0 2 t.a_D t.d_D ["year"] ue:=by
 have G_C:=@M4 P w _ _ base _ T;refine T.F_D.F.ok MC (λvs H Q E h=>?_) (λcdv A outer s H vs Q E hr h=>?_)
 ·obtain⟨y,rfl,_⟩:=h;rfl
 ·obtain⟨y,rfl,k⟩:=h;refine⟨_,(eX (fL (bE eY (bE bA (bE d8 bL (bE eY (pv 0) (oN rfl T.c_FIRST_YEAR T.r_FIRST_YEAR))) (aE G_C (hr.mono Yc) rfl T.F_C (bw (pv 0) b7))) (aE G_C (hr.mono Yc) rfl T.F_C (bw (oN rfl T.c_FIRST_YEAR T.r_FIRST_YEAR) b7))))),?_⟩;walk_at "a";simp only [Ej];walk_at "a";exact k
def Ek:Sp:=λvs H Q _=>∃(d:Int),vs=[.int d]/\Q (.int (pz d)) H
theorem M5(T:Txt K mg t):aA P w K mg base CX0 3 t.a_E t.d_E ["day"] Ek:=by
 have G_D:=@xS P w _ _ base _ T;refine T.F_E.F.ok DV (λvs H Q E h=>?_) (λcdv A outer s H vs Q E hr h=>?_)
 ·obtain⟨d,rfl,_⟩:=h;rfl
 ·obtain⟨d,rfl,k⟩:=h;refine⟨_,(cN (dZ (i:=1) DV.nd rfl Yg (bE bA (oN rfl T.c_FIRST_YEAR T.r_FIRST_YEAR) (bE cO (bE d8 (pv 0) (oN rfl T.c_ROUND_YEARS T.r_ROUND_YEARS)) (oN rfl T.c_ROUND_DAYS T.r_ROUND_DAYS))))
   (cN (oP (nP jE (aE G_D (hr.mono Yc) rfl T.F_D (bw (pv 1) b7)) (pv 0) (aF _)) (eX (fL (bE eY (pv 1) bL))) oO)
   (cN (oP (nP lP (aE G_D (hr.mono Yc) rfl T.F_D (bw (bE bA (pv 1) bL) b7)) (pv 0) (aF _)) (eX (fL (bE bA (pv 1) bL))) oO)
   (eX (fL (pv 1)))))),?_⟩
  walk_at "a";simp only [ue];walk_at "a";unfold pz at k;split
  ·rename_i h;rw [Yf h] at k;exact k
  ·rename_i h;rw [Ye h] at k;split
   ·rename_i h;rw [Yf h] at k;exact k
   ·rename_i h;rw [Ye h] at k;exact k
def M6:Sp:=λvs H Q _=>∃(d:Int),vs=[.int d]/\∀(p:Yl)(H':Hp)(y m n:Int),nq d y m n->au H H'->H p=none->H' p=some (.tup [.int y,.int m,.int n])->Q (.ref p) H'
theorem M7(T:Txt K mg t):aA P w K mg base CX0 4 t.a_F t.d_F ["day"] M6:=by
 have G_E:=@M5 P w _ _ base _ T;have G_D:=@xS P w _ _ base _ T;have G_B:=@xR P w _ _ base _ T;refine T.F_F.F.ok pE (λvs H Q E h=>?_) (λcdv A outer s H vs Q E hr h=>?_)
 ·obtain⟨d,rfl,_⟩:=h;rfl
 ·obtain⟨d,rfl,k⟩:=h;refine⟨_,(cN (dZ (i:=1) pE.nd rfl Yg (aE G_E (hr.mono Yc) rfl T.F_E (bw (pv 0) b7)))
   (cN (dZ (i:=2) pE.nd rfl Yg (bE eY (pv 0) (aE G_D (hr.mono Yc) rfl T.F_D (bw (pv 1) b7))))
   (cN (dZ (i:=3) pE.nd rfl Yg bL)
   (cN (A1 RM (nP Bd (pv 2) (aE G_B (hr.mono Yc) rfl T.F_B (bw (pv 1) (bw (pv 3) b7))) (aF _)) (cN (dZ (i:=2) pE.nd rfl Yg (bE eY (pv 2) (aE G_B (hr.mono Yc) rfl T.F_B (bw (pv 1) (bw (pv 3) b7)))))
   (eX (dZ (i:=3) pE.nd rfl Yg (bE bA (pv 3) bL)))))
   (eX (fL (Bo (bw (pv 1) (bw (pv 3) (bw (bE bA (pv 2) bL) b7)))))))))),?_⟩
  walk_at "a";simp only [Ek];walk_at "a";simp only [ue];walk_at "a";have yo:=LW d;generalize pz d=y at*;refine⟨λm σ H'=>H'=H/\∃mo:Int,1<=mo/\mo<=12/\aT y mo<=d - cf y/\m=(12 - mo).toNat/\σ=[some (.int d),some (.int y),some (.int (d - cf y - aT y mo)),some (.int mo)],⟨11,rfl,1,Yc,Yc,?_,rfl,?_⟩,?_⟩
  ·rw [wm];omega
  ·rw [wm];simp
  ·rintro m σ H' ⟨rfl,mo,h1,h2,hb,rfl,rfl⟩;walk_at "a";simp only [Ei];walk_at "a";refine⟨h1,h2,?_⟩;have ys:=Dq y;have ba:=Dv (y:=y) h1 h2;split
   ·rename_i hge;have lt12:mo < 12:=by
     by_cases z:mo < 12
     ·exact z
     ·have e:mo=12:=Yd
      subst e;have:=(wq y);have:=wj y;omega
    refine⟨_,λ_ _ h=>h,h1,h2,(12 - (mo+1)).toNat,Yd,rfl,mo+1,Yd,Yd,?_,rfl,?_⟩
    ·rw [eO h1];omega
    ·rw [eO h1,show d - cf y - (aT y mo+bt y mo)=d - cf y - aT y mo - bt y mo by omega]
   ·rename_i hlt;refine⟨by show 3<=Yt;decide,λp hp=>?_⟩;refine k p _ y mo (d - cf y - aT y mo+1) ⟨h1,h2,Yd,Yd,by unfold oj;omega⟩ (au.new hp) hp bq
def M8:Sp:=λvs H Q _=>∃(y m n:Int),vs=[.int y,.int m,.int n]/\1<=m/\m<=12/\∀H',au H H'->Q (.int (oj y m n)) H'
theorem M9(T:Txt K mg t):aA P w K mg base CX0 3 t.a_G t.d_G ["year","month","day"] M8:=by
 have G_D:=@xS P w _ _ base _ T;have G_B:=@xR P w _ _ base _ T;refine T.F_G.F.ok DW (λvs H Q E h=>?_) (λcdv A outer s H vs Q E hr h=>?_)
 ·obtain⟨y,m,n,rfl,_⟩:=h;rfl
 ·obtain⟨y,m,n,rfl,h1,h2,k⟩:=h;refine⟨_,(cN (dZ (i:=3) DW.nd rfl Yg (bU (BO rfl) rfl T.n_sum WM (bw (sh rfl Eg (HB rfl T.n_range (bw bL (bw (pv 1) b7))) (λ_ _ _ _=>(aK (i:=0) Eg.nd rfl Yg)) (λ_ _ _ _=>BM) (λ_ _ _ _=>(aE G_B (hr.mono Yc) rfl T.F_B (bw (pv 1) (bw (pv 0) b7))))) b7)))
   (eX (fL (bE eY (bE bA (bE bA (aE G_D (hr.mono Yc) rfl T.F_D (bw (pv 0) b7)) (pv 3)) (pv 2)) bL)))),?_⟩
  walk_at "a";refine⟨Yd,Yd,?_⟩;refine Jo (λi=>.int (bt y (1+(i:Int)))) Yd (λi H' R hi s1 hR=>?_) (λD H' hD s1 e1=>?_)
  ·walk_at "a";exact⟨_,_,rfl,Yd,Yd,hR H' (au.refl _)⟩
  ·refine⟨D,rfl,(SE (m - 1).toNat).map λ(i:Nat)=>bt y (1+(i:Int)),bo.of (by rw [e1,Rc];rfl),?_⟩;simp only [ue];walk_at "a";exact k H' s1
def oz(u:Str):Prop:=u="days"\/u="months"\/u="years"
def oA(d k:Int)(u:Str)(r:Int):Prop:=(u="days"/\r=d+k)\/(u="months"/\∃y m n,nq d y m n/\r=sZ y m n k)\/(u="years"/\∃y m n,nq d y m n/\r=sZ y m n (k*12))
theorem El:¬(("months":Str)="days"):=Yb
theorem Em:¬(("years":Str)="days"):=Yb
theorem En:¬(("months":Str)="years"):=Yb
def Na:Sp:=λvs H Q _=>∃(d k:Int)(u:Str),vs=[.int d,.int k,.str u]/\oz u/\∀r H',oA d k u r->au H H'->Q (.int r) H'
theorem Nb(T:Txt K mg t):aA P w K mg base CX0 5 t.a_H t.d_H ["day","many","unit"] Na:=by
 have G_F:=@M7 P w _ _ base _ T;have G_B:=@xR P w _ _ base _ T;have G_G:=@M9 P w _ _ base _ T;refine T.F_H.F.ok pF (λvs H Q E h=>?_) (λcdv A outer s H vs Q E hr h=>?_)
 ·obtain⟨d,k,u,rfl,_⟩:=h;rfl
 ·obtain⟨d,mk,u,rfl,hu,k⟩:=h;refine⟨_,(cN (oP (nP qo (pv 2) uH (aF _)) (eX (fL (bE bA (pv 0) (pv 1)))) oO)
   (cN (dZ (i:=3) pF.nd rfl Yg (AV (nP qo (pv 2) uH (aF _)) (bE d8 (pv 1) bL) (pv 1)))
   (cN (dZ (i:=4) pF.nd rfl Yg (aE G_F (hr.mono Yc) rfl T.F_F (bw (pv 0) b7)))
   (cN (dZ (i:=5) pF.nd rfl Yg (bE bA (bE eY (bE bA (bE d8 (jG aG (pv 4) bL (λ_ _=>rfl)) bL) (jG aG (pv 4) bL (λ_ _=>rfl))) bL) (pv 3)))
   (cN (dZ (i:=6) pF.nd rfl Yg (bE cO (pv 5) bL))
   (cN (dZ (i:=7) pF.nd rfl Yg (bE bA (bE aW (pv 5) bL) bL))
   (eX (fL (aE G_G (hr.mono Yc) rfl T.F_G (bw (pv 6) (bw (pv 7) (bw (bU (HN rfl) rfl T.n_min X7 (bw (jG aG (pv 4) bL (λ_ _=>rfl)) (bw (aE G_B (hr.mono Yc) rfl T.F_B (bw (pv 6) (bw (pv 7) b7))) b7))) b7)))))))))))),?_⟩
  walk_at "a";by_cases hd:u="days"
  ·rw [Yf hd];exact k _ H (.inl ⟨hd,rfl⟩) (au.refl _)
  ·rw [Ye hd];by_cases hy:u="years"
   ·rw [Yf hy];refine⟨d,rfl,λp H' y m n D s1 _ e1=>?_⟩;refine jb (aZ.of e1) rfl ⟨y,rfl,jb (aZ.of e1) rfl ⟨m,rfl,jb (aZ.of e1) rfl ?_⟩⟩;refine⟨_,_,rfl,Yd,Yd,n,rfl,_,rfl,_,_,_,rfl,Yd,Yd,λH2 s2=>?_⟩;exact k _ H2 (.inr (.inr ⟨hy,y,m,n,D,by unfold sZ;rw [BQ]⟩)) (s1.trans s2)
   ·rw [Ye hy];have hm:u="months":=by rcases hu with z | z | z;exact absurd z hd;exact z;exact absurd z hy
    refine⟨d,rfl,λp H' y m n D s1 _ e1=>?_⟩;refine jb (aZ.of e1) rfl ⟨y,rfl,jb (aZ.of e1) rfl ⟨m,rfl,jb (aZ.of e1) rfl ?_⟩⟩;refine⟨_,_,rfl,Yd,Yd,n,rfl,_,rfl,_,_,_,rfl,Yd,Yd,λH2 s2=>?_⟩;exact k _ H2 (.inr (.inl ⟨hm,y,m,n,D,by unfold sZ;rw [BQ]⟩)) (s1.trans s2)
def F_H:List Yi->(Yi->Prop)->Prop:=λds Q=>∃(d i:Int)(u:Str),ds=[.int d,.int i,.str u]/\oz u/\∀r,oA d i u r->Q (.int r)
theorem Eo(T:Txt K mg t):aA P w K mg base CX0 5 t.a_H t.d_H ["day","many","unit"] (aV K F_H):=
 (Nb T).imp λvs H Q E uu73=>by
  obtain⟨O,ds,Qd,tr,hs,⟨d,i,u,e,hu,q⟩,k⟩:=uu73;subst e;cases hs with
  | cons a r=>cases r with
   | cons b r=>cases r with
    | cons c r=>cases r;cases a;cases b;cases c;exact⟨d,i,u,rfl,hu,λz H' L s1=>k _ _ H' (q z L) s1 (.int _)⟩
theorem Nc{d k:Int}{u:Str}{r r':Int}(h:oA d k u r)(h':oA d k u r'):r=r':=by
 rcases h with⟨e,h⟩ | ⟨e,y,m,n,D,h⟩ | ⟨e,y,m,n,D,h⟩ <;> rcases h' with⟨e',h'⟩ | ⟨e',y',m',n',D',h'⟩ | ⟨e',y',m',n',D',h'⟩
 ·rw [h,h']
 ·exact absurd (e'.symm.trans e) El
 ·exact absurd (e'.symm.trans e) Em
 ·exact absurd (e.symm.trans e') El
 ·obtain⟨rfl,rfl,rfl⟩:=D.uniq D';rw [h,h']
 ·exact absurd (e.symm.trans e') En
 ·exact absurd (e.symm.trans e') Em
 ·exact absurd (e'.symm.trans e) En
 ·obtain⟨rfl,rfl,rfl⟩:=D.uniq D';rw [h,h']
end
structure Pp where
 d:Int
 nm:Str
 kd:Str
 ms:List Str
def Pp.enc(p:Pp):Yi:= .tuple [.str (QM "paper"),.int p.d,.str p.nm,.str p.kd,.tuple (p.ms.map .str)]
def Pp.key(p:Pp):Int×Str:=(p.d,p.nm)
def gM:Yi->Int×Str
 | .tuple (_:: .int d:: .str n::_)=>(d,n)
 | _=>(0,QM "")
def Pp.lt(a b:Pp):Prop:=aY a.key b.key=true
instance (a b:Pp):Decidable (a.lt b):=by unfold Pp.lt;infer_instance
theorem Nd(p:Int×Str):aY p p=false:=by unfold aY;simp [List.lt_irrefl]
theorem Ep{a b c:Int×Str}(h1:aY a b=true)(h2:aY b c=true):aY a c=true:=by
 unfold aY at h1 h2⊢;simp only [U8,RW,decide_eq_true_eq] at h1 h2⊢;rcases h1 with h1 | ⟨h1,h1'⟩ <;> rcases h2 with h2 | ⟨h2,h2'⟩
 ·left;omega
 ·left;omega
 ·left;omega
 ·right;exact⟨h1.trans h2,XS h1' h2'⟩
theorem uf{a b:Int×Str}(h:aY a b=true):¬aY b a=true:=λz=>by
 have:=Ep h z;rw [Nd] at this;cases this
theorem Nf{a b:Int×Str}(h:a≠b):aY a b=true\/aY b a=true:=by
 have T:=CS (n:=2) (kp:=λi=>if i=0 then a else b) (λi j hi hj e=>by
  have:i=0\/i=1:=Yd
  have:j=0\/j=1:=Yd
  rcases ‹i=0\/i=1› with rfl | rfl <;> rcases ‹j=0\/j=1› with rfl | rfl
  ·rfl
  ·exact absurd e h
  ·exact absurd e.symm h
  ·rfl)
 have:=T.tot 0 1 Yd Yd Yd;simp at this;cases hb:aY b a with
 | true=>exact .inr rfl
 | false=>rw [hb] at this;exact .inl (by simpa using this)
theorem Pp.lt_tr{a b c:Pp}(h1:a.lt b)(h2:b.lt c):a.lt c:=Ep h1 h2
theorem nI{α:Type}{r:α->α->Prop}(as:∀a b,r a b->¬r b a):∀{l1 l2:List α},l1.Perm l2->l1.Pairwise r->l2.Pairwise r->l1=l2
 | [],l2,p,_,_=>by rw [p.nil_eq]
 | a::l1,[],p,_,_=>by have:=p.length_eq;simp at this
 | a::l1,b::l2,p,h1,h2=>by
  have e:a=b:=by
   have m1:a∈b::l2:=p.mem_iff.mp Yh;have m2:b∈a::l1:=p.mem_iff.mpr Yh;rcases QX.mp m1 with e | m1
   ·exact e
   ·rcases QX.mp m2 with e | m2
    ·exact e.symm
    ·exact absurd ((So.mp h1).1 b m2) (as _ _ ((So.mp h2).1 a m1))
  subst e;rw [nI as ((List.perm_cons a).mp p) (So.mp h1).2 (So.mp h2).2]
def pN(x:Pp):List Pp->List Pp
 | []=>[x]
 | y::l=>if x.lt y then x::y::l else y::pN x l
def bu(ps:List Pp):List Pp:=ps.foldr pN []
theorem xT(x:Pp):∀l,(pN x l).Perm (x::l)
 | []=>.refl _
 | y::l=>by
  unfold pN;split
  ·exact .refl _
  ·exact((xT x l).cons y).trans (.swap x y l)
theorem iM:∀ps:List Pp,(bu ps).Perm ps
 | []=>.refl _
 | x::ps=>(xT x (bu ps)).trans ((iM ps).cons x)
theorem Er{x:Pp}:∀{l:List Pp},(∀y∈l,y.nm≠x.nm)->l.Pairwise Pp.lt->(pN x l).Pairwise Pp.lt
 | [],_,_=>Vl _ _
 | y::l,hn,h=>by
  have hp:=So.mp h;unfold pN;split
  ·rename_i hl;refine So.mpr ⟨λz hz=>?_,h⟩;rcases QX.mp hz with e | e
   ·subst e;exact hl
   ·exact Pp.lt_tr hl (hp.1 z e)
  ·rename_i hl;refine So.mpr ⟨λz hz=>?_,Er (λz hz=>hn z (by simp [hz])) hp.2⟩;rcases QX.mp ((xT x l).mem_iff.mp hz) with e | e
   ·subst e;rcases Nf (a:=y.key) (b:=z.key) (λz=>hn y Yh (congrArg Prod.snd z)) with w | w
    ·exact w
    ·exact absurd w hl
   ·exact hp.1 z e
theorem pO:∀{ps:List Pp},(ps.map (·.nm)).Nodup->(bu ps).Pairwise Pp.lt
 | [],_=>.nil
 | x::ps,h=>by
  rw [QR,Sq] at h;exact Er (λy hy e=>h.1 (by rw [<-e];exact Q5.mpr ⟨y,(iM ps).mem_iff.mp hy,rfl⟩)) (pO h.2)
theorem iN{ps:List Pp}{x:Pp}:x∈bu ps↔x∈ps:=(iM ps).mem_iff
theorem iO{ps:List Pp}:(bu ps).length=ps.length:=(iM ps).length_eq
theorem Pp.asym(a b:Pp)(h:a.lt b):¬b.lt a:=uf h
theorem Es{ps os:List Pp}(nd:(ps.map (·.nm)).Nodup)(hp:os.Perm ps)(hs:os.Pairwise Pp.lt):os=bu ps:=
 nI Pp.asym (hp.trans (iM ps).symm) hs (pO nd)
theorem Et{ps qs:List Pp}(nd:(ps.map (·.nm)).Nodup)(h:qs.Perm ps):bu qs=bu ps:=
 Es nd ((iM qs).trans h) (pO ((h.map _).nodup_iff.mpr nd))
theorem xU{ps:List Pp}{f:Pp->Bool}(nd:(ps.map (·.nm)).Nodup):((ps.filter f).map (·.nm)).Nodup:=nd.sublist (U1.map _)
theorem Eu{ps:List Pp}{f:Pp->Bool}(nd:(ps.map (·.nm)).Nodup):bu (ps.filter f)=(bu ps).filter f:=
 (Es (xU nd) ((iM ps).filter f) ((pO nd).sublist U1)).symm
theorem Ng{ps:List Pp}{ds:List Yi}(nd:(ps.map (·.nm)).Nodup)(hp:ds.Perm (ps.map Pp.enc))(hs:ds.Pairwise λa b=>aY (gM a) (gM b)=true):ds=(bu ps).map Pp.enc:=by
 refine nI (λa b h=>uf h) (hp.trans ((iM ps).symm.map _)) hs ?_;rw [Sa];exact pO nd
theorem Nh{ps:List Pp}(nd:(ps.map (·.nm)).Nodup){a b:Pp}(ha:a∈ps)(hb:b∈ps)(e:a.nm=b.nm):a=b:=by
 induction ps with
 | nil=>cases ha
 | cons x ps ih=>
  rw [QR,Sq] at nd;rcases QX.mp ha with ea | ha1 <;> rcases QX.mp hb with eb | hb1
  ·rw [ea,eb]
  ·subst ea;exact absurd (Q5.mpr ⟨b,hb1,e.symm⟩) nd.1
  ·subst eb;exact absurd (Q5.mpr ⟨a,ha1,e⟩) nd.1
  ·exact ih nd.2 ha1 hb1
structure iP (ps:List Pp):Prop where
 ln:ps.length<=41
 nd:(ps.map (·.nm)).Nodup
 nm:∀p∈ps,QT p.nm=true
 kd:∀p∈ps,QT p.kd=true
 ms:∀p∈ps,(∀m∈p.ms,QT m=true)/\p.ms.length<=50
theorem iP.perm{ps qs:List Pp}(g:iP ps)(h:qs.Perm ps):iP qs:=
 ⟨by rw [h.length_eq];exact g.ln,(h.map _).nodup_iff.mpr g.nd,λp hp=>g.nm p (h.mem_iff.mp hp),λp hp=>g.kd p (h.mem_iff.mp hp),λp hp=>g.ms p (h.mem_iff.mp hp)⟩
theorem iP.filter{ps:List Pp}(g:iP ps)(f:Pp->Bool):iP (ps.filter f):=
 ⟨Rj (RB _ _) g.ln,xU g.nd,λp hp=>g.nm p (RH.mp hp).1,λp hp=>g.kd p (RH.mp hp).1,λp hp=>g.ms p (RH.mp hp).1⟩
def xV(c p:Pp):Bool:=c.ms.contains p.nm && aY p.key c.key
def eQ(ps:List Pp)(c:Pp):List Pp:=(bu ps).filter (xV c)
inductive De where
 | pap (p:Pp)
 | oth (w:Str) (d:Int) (nm:Str) (r:List Yi)
def De.enc:De->Yi
 | .pap p=>p.enc
 | .oth w d nm r=>.tuple (.str w:: .int d:: .str nm::r)
def De.w:De->Str
 | .pap _=>QM "paper"
 | .oth w _ _ _=>w
def De.d:De->Int
 | .pap p=>p.d
 | .oth _ d _ _=>d
def De.nm:De->Str
 | .pap p=>p.nm
 | .oth _ _ nm _=>nm
def De.pp:De->Option Pp
 | .pap p=>some p
 | _=>none
def aC(xs:List De):List Pp:=xs.filterMap De.pp
structure gN (xs:List De):Prop where
 gp:iP (aC xs)
 np:∀w d nm r,De.oth w d nm r∈xs->w≠QM "paper"
 ln:xs.length<=41
 w:∀x∈xs,QT x.w=true
 nm:∀x∈xs,QT x.nm=true
theorem Ew{xs:List De}{p:Pp}:p∈aC xs↔De.pap p∈xs:=by
 unfold aC;rw [UE];constructor
 ·rintro⟨x,hx,e⟩;cases x with
  | pap q=>cases e;exact hx
  | oth w d nm r=>cases e
 ·intro h;exact⟨_,h,rfl⟩
theorem gN.perm{xs ys:List De}(g:gN xs)(h:ys.Perm xs):gN ys:=
 ⟨g.gp.perm (h.filterMap _),λw d nm r z=>g.np w d nm r (h.mem_iff.mp z),by rw [h.length_eq];exact g.ln,λx hx=>g.w x (h.mem_iff.mp hx),λx hx=>g.nm x (h.mem_iff.mp hx)⟩
theorem Ey(ps:List Pp):aC (ps.map De.pap)=ps:=by
 unfold aC;rw [W5];exact List.filterMap_some
theorem Ni(ps:List Pp):ps.map Pp.enc=(ps.map De.pap).map De.enc:=by rw [Rc];rfl
theorem xW:QT (QM "paper")=true:=Yb
theorem gN.of{ps:List Pp}(g:iP ps):gN (ps.map De.pap):=by
 refine⟨by rw [Ey];exact g,λw d nm r h=>?_,by rw [QO];exact g.ln,λx hx=>?_,λx hx=>?_⟩
 ·obtain⟨p,_,e⟩:=Q5.mp h;cases e
 ·obtain⟨p,_,rfl⟩:=Q5.mp hx;exact xW
 ·obtain⟨p,hp,rfl⟩:=Q5.mp hx;exact g.nm p hp
local macro_rules | `(tactic| walk_at "d") =>do let a <- rzT "eG QR RO Q0 RJ SA SD Q8 R4 RY"; let b <- rzT rzS; `(tactic| ((try $a:tactic); $b:tactic))
theorem Ez:bb (av tF) ["deeds"] ["deed"] 1 [] ⟨QW,[(QP ".0",ZX),(QP "deed",ZX)],false,false,[]⟩:=⟨rfl,Yb,Yb,Yb,rfl,Yb,Yb,Yb,rfl⟩
theorem EA:bb (av tG) ["deeds"] ["deed"] 1 [] ⟨QW,[(QP ".0",ZX),(QP "deed",ZX)],false,false,[]⟩:=⟨rfl,Yb,Yb,Yb,rfl,Yb,Yb,Yb,rfl⟩
theorem EB:bb (av qR) ["deeds","coming","named"] ["deed","coming"] 1 [1] ⟨QW,[ (QP ".0",ZX),(QP "deed",ZX),(QP "coming",Q3)],false,false,[]⟩:=⟨rfl,Yb,Yb,Yb,rfl,Yb,Yb,Yb,rfl⟩
theorem EC:bb (av qR) ["deeds","coming","named"] ["deed","coming"] 1 [1] ⟨QW,[ (QP ".0",ZX),(QP "deed",ZX),(QP "place_of",Rr),(QP "coming",Q3)],false,false,[]⟩:=⟨rfl,Yb,Yb,Yb,rfl,Yb,Yb,Yb,rfl⟩
theorem ED:bb (av tH) ["deeds","paper"] ["deed"] 1 [] ⟨QW,[(QP ".0",ZX),(QP "deed",ZX)],false,false,[]⟩:=⟨rfl,Yb,Yb,Yb,rfl,Yb,Yb,Yb,rfl⟩
section
variable {P:Yu} {w:Yv} {K:QN} {mg:Str->Option Yj} {base:Yw} {t:cg}
theorem cW{α:Type}{enc:α->Yi}{g:DG}{tc:DB}{te:DT}{δ0:Dl}{xs:List α}{Q:List Yi->Prop}(p:α->Bool)(f:α->Yi)
 (h:∀x∈xs,∀(R:Yi->Prop) (S:Prop),(if p x=true then R (f x) else S)->g (enc x) δ0 λδ2=>tc δ2 λok=>if ok=true then te δ2 R else S)(q:Q ((xs.filter p).map f)):ji g tc te δ0 (xs.map enc) Q:=by
 refine⟨λi acc=>acc=((xs.take i).filter p).map f,rfl,?_,?_⟩
 ·rintro i z acc hz rfl;rw [Q1] at hz;cases hz':xs[i]? with
  | none=>rw [hz'] at hz;cases hz
  | some x=>
   rw [hz'] at hz;cases hz;refine h x (Rm hz') (λy=>((xs.take i).filter p).map f++[y]=((xs.take (i+1)).filter p).map f) (((xs.take i).filter p).map f=((xs.take (i+1)).filter p).map f) ?_;rw [RL,hz'];by_cases e:p x=true
   ·rw [Yf e];simp [e]
   ·rw [Ye e];simp [e]
 ·rintro acc rfl;rw [QO,Rl (QQ _)];exact q
theorem iQ{α:Type}{enc:α->Yi}{g:DG}{tc:DB}{te:DT}{δ0:Dl}{xs:List α}{Q:List Yi->Prop}(p:α->Bool)(f:α->Yi)
 (h:∀x∈xs,∀(R:Yi->Prop) (S:Prop),(p x=true->R (f x))->(p x=false->S)->g (enc x) δ0 λδ2=>tc δ2 λok=>if ok=true then te δ2 R else S)(q:Q ((xs.filter p).map f)):ji g tc te δ0 (xs.map enc) Q:=
 cW p f (λx hx R S z=>h x hx R S (λe=>by rw [Yf e] at z;exact z) (λe=>by rw [Ye (by rw [e];exact QV)] at z;exact z)) q
theorem fI{α:Type}(l:List α):l.filter (λ_=>true)=l:=List.filter_eq_self.mpr λ_ _=>rfl
theorem bR{a b:Str}(h:a≠b):(a==b)=false:=by simpa using h
theorem Nj{ws:List Str}{w:Str}:((ws.map QU).any λd=>Rg d (.str w))=ws.contains w:=by
 induction ws with
 | nil=>rfl
 | cons a ws ih=>
  rw [QR,R5,ih,dP,VQ];congr 1;by_cases h:a=w
  ·simp [h]
  ·rw [bR h,bR (Ne.symm h)]
theorem Nk{ms:List Str}(h:∀m∈ms,QT m=true):Sx (ms.map .str)=true:=(qH (n:=1) (sN h)).1
def iR(f:Pp->Bool):De->Bool
 | .pap p=>f p
 | _=>false
theorem pP{f:Pp->Bool}:∀xs:List De,(xs.filter (iR f)).map De.enc=((aC xs).filter f).map Pp.enc
 | []=>rfl
 | .pap p::xs=>by
  have ih:=pP (f:=f) xs;show _=(T6 f (p::aC xs)).map Pp.enc;rw [RI,RI];by_cases h:f p=true
  ·rw [Yf h,Yf (show iR f (.pap p)=true from h),QR,QR,ih];rfl
  ·rw [Ye h,Ye (show ¬iR f (.pap p)=true from h),ih]
 | .oth w d nm r::xs=>by
  have ih:=pP (f:=f) xs;show _=(T6 f (aC xs)).map Pp.enc;rw [RI,Ye (show ¬iR f (.oth w d nm r)=true from QV),ih]
def xX:List Yi->(Yi->Prop)->Prop:=λds Q=>∃p:De,ds=[p.enc]/\Q (cx (p.d,p.nm))
theorem xY(T:Txt K mg t):aA P w K mg base CX0 1 t.a_J t.d_J ["deed"] (aV K xX):=by
 refine T.F_J.F.okD MD (λds Q h=>?_) (λ_ _ _ _ H O ds Q E hr h=>?_)
 ·obtain⟨p,rfl,_⟩:=h;rfl
 ·obtain⟨p,rfl,q⟩:=h;refine'⟨_,?A,?B⟩
  case A=>
   refine' aw ?C
   case' C=>refine' aR ?D
   case' D=>refine' bH ?E
   case' E=>refine' aa ?F ?G
   case F=>exact(ak aG aM (df (dv 0)) (df af))
   case' G=>refine' aa ?H aj
   case H=>exact(ak aG aM (df (dv 0)) (df af))
  case B=>
  clear hr T;cases p <;> simp only [De.enc,Pp.enc] <;> walk_at "d" <;> exact q
theorem Nl{d:Yi}{ps:List Pp}(h:d∈ps.map Pp.enc)(R:Yi->Prop)(q:R (cx (gM d))):xX [d] R:=by
 obtain⟨p,hp,rfl⟩:=Q5.mp h;exact⟨.pap p,rfl,q⟩
theorem EF{ps:List Pp}(nd:(ps.map (·.nm)).Nodup):(ps.map Pp.key).Nodup:=by
 rw [VD,Sa] at nd⊢;exact nd.imp λh e=>h (congrArg Prod.snd e)
def F_K:List Yi->(Yi->Prop)->Prop:=λds Q=>∃xs:List De,(ds=[.list (xs.map De.enc)]\/ds=[.tuple (xs.map De.enc)])/\gN xs/\Q (.list ((bu (aC xs)).map Pp.enc))
theorem xZ(T:Txt K mg t):aA P w K mg base CX0 4 t.a_K t.d_K ["deeds"] (aV K F_K):=by
 have G_J:=@xY P w _ _ base _ T;refine T.F_K.F.okD ME (λds Q h=>?_) (λ_ _ _ _ H O ds Q E hr h=>?_)
 ·obtain⟨ps,h | h,_⟩:=h <;> subst h <;> rfl
 ·obtain⟨xs,e,gd,q⟩:=h;refine'⟨_,?A,?B⟩
  case A=>
   refine' aw ?C
   case' C=>refine' aR ?D
   case D=>exact(fe (CZ gM rfl G_J (bp.in1 (bp.in1 (hr.mono Yc))) T.F_J.b rfl T.F_J.m rfl T.n_sorted Tc (bj (df (fe (Lm rfl Ez (df (dv 0)) aL bM Yc (λ_ _ _ _=>(aK (i:=0) Ez.nd rfl Yg)) (λ_ _ _ _=>(cZ (aQ (cz hr) cA (df (ak aG aM (df (dv 0)) (df af))) (df aX) (aF _)))) (λ_ _ _ _=>(dv 0))))) br)))
  case B=>
  clear hr T G_J;have ln:=gd.ln;have pl:=gd.gp.ln;have step:∀x∈xs,∀(R:Yi->Prop)(S:Prop),(if iR (λ_=>true) x=true then R x.enc else S)->(if (x.w==QM "paper")=true then R x.enc else S):=λx hx R S h=>by
   cases x with
   | pap p=>exact h
   | oth w d nm r=>
    rw [show((De.oth w d nm r).w==QM "paper")=false from bR (gd.np w d nm r hx),Ye QV];rw [Ye (show ¬iR (λ_=>true) (.oth w d nm r)=true from QV)] at h;exact h
  have fin:∀ds':List Yi,ds'.Perm ((aC xs).map Pp.enc)->ds'.Pairwise (λa b=>aY (gM a) (gM b)=true)->Q (.list ds'):=λds' h1 h2=>by
   rw [Ng gd.gp.nd h1 h2];exact q
  have tail:(∀d∈(aC xs).map Pp.enc,∀R:Yi->Prop,R (cx (gM d))->xX [d] R)/\((aC xs).map Pp.enc).length < 64/\(((aC xs).map Pp.enc).map gM).Nodup:=by
   refine⟨λd hd R z=>Nl hd R z,by rw [QO];omega,?_⟩;rw [Rc];exact EF gd.gp.nd
  rcases e with e | e <;> subst e <;> walk_at "d"
  ·refine⟨by rw [QO];omega,cW (iR λ_=>true) De.enc (λx hx R S h=>?_) ?_⟩
   ·have h:=step x hx R S h;cases x <;> simp only [De.enc,De.w,Pp.enc] at h⊢<;> walk_at "d" <;> exact h
   ·rw [pP,fI];exact⟨tail.1,tail.2.1,tail.2.2,fin⟩
  ·refine⟨by rw [QO];omega,cW (iR λ_=>true) De.enc (λx hx R S h=>?_) ?_⟩
   ·have h:=step x hx R S h;cases x <;> simp only [De.enc,De.w,Pp.enc] at h⊢<;> walk_at "d" <;> exact h
   ·rw [pP,fI];exact⟨tail.1,tail.2.1,tail.2.2,fin⟩
def Nm:List Yi->(Yi->Prop)->Prop:=λds Q=>∃(xs:List De)(c:Pp),ds=[.tuple (xs.map De.enc),.str c.nm]/\gN xs/\c∈aC xs/\Q c.enc
theorem x9(T:Txt K mg t):aA P w K mg base CX0 1 t.a_L t.d_L ["deeds","paper"] (aV K Nm):=by
 refine T.F_L.F.okD DY (λds Q h=>?_) (λ_ _ _ _ H O ds Q E hr h=>?_)
 ·obtain⟨ps,c,rfl,_⟩:=h;rfl
 ·obtain⟨xs,c,rfl,gd,hc,q⟩:=h;refine'⟨_,?A,?B⟩
  case A=>
   refine' ao ?C ?D
   case C=>
    refine' pe RM rfl (dv 0) ?E aL ?F
    case E=>exact(aK (i:=2) DY.nd rfl Yg)
    case' F=>refine' aw ?G
    case' G=>refine' bJ ?H ?I bI
    case H=>exact(PW.pt (fB (aQ (cz hr) cA (df (ak aG aM (df (dv 2)) (df af))) (df aX) (aF _)) (fA (aQ (cD hr.units) cE (df (ak aG aM (df (dv 2)) (df af))) (df (dv 1)) (aF _)))))
    case' I=>refine' aw ?J
    case J=>exact(aR (dv 2))
   case D=>refine' aw Kv
  case B=>
  clear hr T;walk_at "d";refine⟨λi δ=>(∀x∈aC (xs.take i),x.nm≠c.nm)/\∃o2,δ=[some (Sl.v (.tuple (xs.map De.enc))),some (Sl.v (.str c.nm)),o2],⟨by simp [aC],_,rfl⟩,?_,?_⟩
  ·rintro i z δ hz ⟨hn,o2,rfl⟩;rw [Q1] at hz;cases hz':xs[i]? with
   | none=>rw [hz'] at hz;cases hz
   | some x=>
    rw [hz'] at hz;cases hz;have hx:=Rm hz';cases x with
    | pap p=>
     simp only [De.enc,Pp.enc];walk_at "d";refine⟨cK.mpr (gd.nm _ hx),cK.mpr (gd.gp.nm c hc),?_⟩;split
     ·rename_i h;have e:=Nh gd.gp.nd (Ew.mpr hx) hc (eq_of_beq h);subst e;exact q
     ·rename_i h;refine⟨λy hy=>?_,_,rfl⟩;rw [RL,hz'] at hy;unfold aC at hy;rw [Vy] at hy;rcases Q9.mp hy with z | z
      ·exact hn y z
      ·have:y=p:=by simpa [De.pp] using z
       rw [this];exact λe=>h (by rw [e];exact beq_self_eq_true _)
    | oth w d nm r=>
     simp only [De.enc];walk_at "d";rw [bR (gd.np w d nm r hx),Ye QV];refine⟨λy hy=>?_,_,rfl⟩;rw [RL,hz'] at hy;unfold aC at hy;rw [Vy] at hy;rcases Q9.mp hy with z | z
     ·exact hn y z
     ·simp [De.pp] at z
  ·rintro δ ⟨hn,o2,rfl⟩;rw [QO,Rl (QQ _)] at hn;exact absurd rfl (hn c hc)
def F_M:List Yi->(Yi->Prop)->Prop:=λds Q=>∃xs:List De,ds=[.tuple (xs.map De.enc)]/\gN xs/\Q (.tuple (((bu (aC xs)).map (·.nm)).map .str))
theorem y9(T:Txt K mg t):aA P w K mg base CX0 5 t.a_M t.d_M ["deeds"] (aV K F_M):=by
 have G_K:=@xZ P w _ _ base _ T;refine T.F_M.F.okD MF (λds Q h=>?_) (λ_ _ _ _ H O ds Q E hr h=>?_)
 ·obtain⟨ps,rfl,_⟩:=h;rfl
 ·obtain⟨xs,rfl,gd,q⟩:=h;refine'⟨_,?A,?B⟩
  case A=>
   refine' aw ?C
   case' C=>refine' aR ?D
   case D=>exact(PE.imp (cT fN rfl T.n_tuple fP (bj (df (fe (eD rfl EA (df (PE.imp (aE G_K (hr.mono Yc) rfl T.F_K (aa (dv 0) aj)) aN)) aL bM Yc (λ_ _ _ _=>(aK (i:=0) EA.nd rfl Yg)) (λ_ _ _ _=>dj) (λ_ _ _ _=>(ak aG aM (df (dv 0)) (df af)))))) br)) (bz fS))
  case B=>
  clear hr T G_K;walk_at "d";refine⟨xs,.inr rfl,gd,_,rfl,by rw [QO,iO];have:=gd.gp.ln;omega,cW (λ_=>true) (λp:Pp=>.str p.nm) (λx hx R S h=>?_) ?_⟩
  ·simp only [Pp.enc];walk_at "d";rw [Yf rfl] at h;exact h
  ·rw [fI];rw [Rc] at q;exact q
def Nn:List Yi->(Yi->Prop)->Prop:=λds Q=>∃(xs:List De)(c:Pp),ds=[.tuple (xs.map De.enc),c.enc]/\gN xs/\c∈aC xs/\Q (.list ((eQ (aC xs) c).map Pp.enc))
theorem EG(T:Txt K mg t):aA P w K mg base CX0 5 t.a_N t.d_N ["deeds","coming"] (aV K Nn):=by
 have G_K:=@xZ P w _ _ base _ T;have G_J:=@xY P w _ _ base _ T;refine T.F_N.F.okD DZ (λds Q h=>?_) (λ_ _ _ _ H O ds Q E hr h=>?_)
 ·obtain⟨ps,c,rfl,_⟩:=h;rfl
 ·obtain⟨xs,c,rfl,gd,hc,q⟩:=h;refine'⟨_,?A,?B⟩
  case A=>
   refine' ao ?C ?D
   case C=>exact(hW (i:=2) DZ.nd rfl Yg (mZ rfl EB (df (dv 0)) aL bM Yc (λ_ _ _ _=>(aK (i:=0) EB.nd rfl Yg)) (λ_ _ _ _=>(cZ (PW.pt (fB (aQ (cz hr) cA (df (ak aG aM (df (dv 0)) (df af))) (df aX) (aF _)) (fA (aQ (Cg hr) vH (df (ak aG aM (df (dv 0)) (df af))) (df (ak aG aM (df (dv 1)) (df af))) rfl)))))) (λ_ _ _ _=>(dv 0))))
   case' D=>refine' aw ?E
   case' E=>refine' aR ?F
   case F=>exact(PE.imp (aE G_K (hr.mono Yc) rfl T.F_K (aa (fe (eD rfl EC (df (dv 2)) aL bM Yc (λ_ _ _ _=>(aK (i:=0) EC.nd rfl Yg)) (λ_ _ _ _=>(cZ (aQ (Lg hr.units0) Lh (df (PE.imp (aE G_J (hr.mono Yc) rfl T.F_J (aa (dv 0) aj)) aN)) (df (PE.imp (aE G_J (hr.mono Yc) rfl T.F_J (aa (dv 1) aj)) aN)) (aF _)))) (λ_ _ _ _=>(dv 0)))) aj)) aN)
  case B=>
  clear hr T G_K G_J;have ln:=gd.ln;have pl:=gd.gp.ln;obtain⟨hm1,hm2⟩:=gd.gp.ms c hc;walk_at "d";refine⟨by rw [QO];omega,cW (iR λp=>c.ms.contains p.nm) De.enc (λx hx R S h=>?_) ?_⟩
  ·cases x with
   | pap p=>
    simp only [De.enc,Pp.enc];walk_at "d";refine⟨cK.mpr (gd.nm _ hx),Nk hm1,?_⟩;rw [Nj];exact h
   | oth w d nm r=>
    simp only [De.enc];walk_at "d";rw [bR (gd.np w d nm r hx),Ye QV];rw [Ye (show ¬iR _ (.oth w d nm r)=true from QV)] at h;exact h
  ·rw [pP];have fl:=RB (λp:Pp=>c.ms.contains p.nm) (aC xs);refine⟨by rw [QO];omega,cW (λp=>aY p.key c.key) Pp.enc (λx hx R S h=>?_) ?_⟩
   ·walk_at "d";exact⟨.pap x,rfl,.pap c,rfl,x.key,rfl,c.key,rfl,h⟩
   ·rw [Ni];refine⟨_,.inl rfl,gN.of ((gd.gp.filter _).filter _),?_⟩;rw [Ey,Eu (xU gd.gp.nd),Eu gd.gp.nd,Xb];have e:(bu (aC xs)).filter (λa=>aY a.key c.key && c.ms.contains a.nm)=eQ (aC xs) c:=by
     unfold eQ xV;congr 1;funext a;rw [XU]
    rw [e];exact q
theorem z3{ps:List Pp}{c:Pp}(g:iP ps):(eQ ps c).length<=41:=by
 unfold eQ;have h1:=RB (xV c) (bu ps);have h2:=iO (ps:=ps);have h3:=g.ln;omega
def F_O:List Yi->(Yi->Prop)->Prop:=λds Q=>∃(xs:List De)(c:Pp),ds=[.tuple (xs.map De.enc),.str c.nm]/\gN xs/\c∈aC xs/\Q (.tuple (((eQ (aC xs) c).map (·.nm)).map .str))
theorem Np(T:Txt K mg t):aA P w K mg base CX0 6 t.a_O t.d_O ["deeds","paper"] (aV K F_O):=by
 have G_N:=@EG P w _ _ base _ T;have G_L:=@x9 P w _ _ base _ T;refine T.F_O.F.okD MG (λds Q h=>?_) (λ_ _ _ _ H O ds Q E hr h=>?_)
 ·obtain⟨ps,c,rfl,_⟩:=h;rfl
 ·obtain⟨xs,c,rfl,gd,hc,q⟩:=h;refine'⟨_,?A,?B⟩
  case A=>
   refine' aw ?C
   case' C=>refine' aR ?D
   case D=>exact(PE.imp (cT fN rfl T.n_tuple fP (bj (df (fe (eD rfl ED (df (PE.imp (aE G_N (hr.mono Yc) rfl T.F_N (aa (dv 0) (aa (PE.imp (aE G_L (hr.mono Yc) rfl T.F_L (aa (dv 0) (aa (dv 1) aj))) aN) aj))) aN)) aL bM Yc (λ_ _ _ _=>(aK (i:=0) ED.nd rfl Yg)) (λ_ _ _ _=>dj) (λ_ _ _ _=>(ak aG aM (df (dv 0)) (df af)))))) br)) (bz fS))
  case B=>
  clear hr T G_N G_L;walk_at "d";refine⟨xs,c,rfl,gd,hc,xs,c,rfl,gd,hc,⟨_,rfl,by rw [QO];have:=z3 (c:=c) gd.gp;omega,cW (λ_=>true) (λp:Pp=>.str p.nm) (λx hx R S h=>?_) ?_⟩⟩
  ·simp only [Pp.enc];walk_at "d";rw [Yf rfl] at h;exact h
  ·rw [fI];rw [Rc] at q;exact q
end
local macro_rules | `(tactic| walk_at "e") =>rzT (rzS++" Sl.i.injEq exists_and_left")
theorem EH:bb (av tE) ["self","deeds","name","coming"] ["deed","name"] 1 [2] ⟨QW,[ (QP ".0",ZX),(QP "deed",ZX),(QP "name",Q3)],false,false,[]⟩:=⟨rfl,Yb,Yb,Yb,rfl,Yb,Yb,Yb,rfl⟩
theorem z4:bb (av tN) ["paper","happening"] ["day","other","happening"] 2 [1] ⟨QW,[ (QP ".0",ZX),(QP "day",ZX),(QP "other",ZX),(QP "happening",Q3)],false,false,[]⟩:=⟨rfl,Yb,Yb,Yb,rfl,Yb,Yb,Yb,rfl⟩
section
variable {P:Yu} {w:Yv} {K:QN} {mg:Str->Option Yj} {base:Yw} {t:cg}
inductive bX where
 | com
 | fst (wd:Str)
 | lst (wd:Str)
def bX.enc:bX->Yi
 | .com=>.tuple [.str (QM "coming")]
 | .fst wd=>.tuple [.str (QM "first"),.str wd]
 | .lst wd=>.tuple [.str (QM "last"),.str wd]
def bX.Ok:bX->Prop
 | .com=>True
 | .fst wd=>QT wd=true
 | .lst wd=>QT wd=true
inductive Pt where
 | two (w kd:Str)
 | five (w kd:Str) (s:bX) (k:Int) (u:Str)
def Pt.enc:Pt->Yi
 | .two w kd=>.tuple [.str w,.str kd]
 | .five w kd s k u=>.tuple [.str w,.str kd,s.enc,.int k,.str u]
def KG(w:Str):Prop:=w=QM "keep"\/w=QM "gone"
def Pt.Ok:Pt->Prop
 | .two w kd=>¬KG w/\QT w=true/\QT kd=true
 | .five w kd s k u=>KG w/\QT kd=true/\s.Ok/\0<=k/\k < 1000/\oz u
def De.isR:De->Bool
 | .oth w _ _ _=>w==QM "rule"
 | _=>false
def De.isH:De->Bool
 | .oth w _ _ _=>w==QM "happens"
 | _=>false
def De.isE:De->Bool
 | .oth w _ _ _=>w==QM "rule" || w==QM "end"
 | _=>false
structure ia (xs:List De):Prop where
 gx:gN xs
 hp:∀d nm r,De.oth (QM "happens") d nm r∈xs->∃wd,r=[.str wd]/\QT wd=true
 ru:∀d nm r,De.oth (QM "rule") d nm r∈xs->∃pt:Pt,r=[pt.enc]/\pt.Ok
 nd:xs.Nodup
 d0:∀x∈xs,0<=x.d/\x.d < 100000
 re:∀x∈xs,∀y∈xs,x.isE=true->y.isE=true->x.d=y.d->x.nm=y.nm->x=y
def dD(nm:Str):De->Bool
 | .oth w _ n _=>w==QM "happens" && n==nm
 | _=>false
def z5:De->Int×Str
 | .oth _ d _ [.str wd]=>(d,wd)
 | x=>(x.d,QM "")
def dU(xs:List De)(nm:Str):List (Int×Str):=(xs.filter (dD nm)).map z5
theorem Nq{xs:List De}(g:ia xs)(nm:Str):(dU xs nm).Nodup:=by
 unfold dU;rw [VD,Sa];refine List.Pairwise.imp_of_mem (λ{a b} ha hb h e=>?_) (g.nd.sublist U1);obtain⟨a1,a2⟩:=RH.mp ha;obtain⟨b1,b2⟩:=RH.mp hb;cases a with
 | pap p=>cases a2
 | oth w d n r=>
  cases b with
  | pap p=>cases b2
  | oth w' d' n' r'=>
   simp only [dD,RW,beq_iff_eq] at a2 b2;obtain⟨rfl,rfl⟩:=a2;obtain⟨rfl,rfl⟩:=b2;obtain⟨wd,rfl,_⟩:=g.hp _ _ _ a1;obtain⟨wd',rfl,_⟩:=g.hp _ _ _ b1;simp only [z5,Vs] at e;exact h (by rw [e.1,e.2])
structure Rp where
 c:Pp
 ts:List Str
 hs:List (Int×Str)
def Rp.enc(C:Yl)(r:Rp):Yi:=C7 C [(QM "name",.str r.c.nm),(QM "coming",.int r.c.d),(QM "kind",.str r.c.kd),(QM "makers",.tuple (r.ts.map .str)),(QM "happenings",.list (r.hs.map cx))]
open Classical in
def gO(l:List (Int×Str)):List (Int×Str):=if h:∃s:List (Int×Str),s.Perm l/\s.Pairwise (λa b=>aY a b=true) then h.choose else []
theorem z6{s l:List (Int×Str)}(h1:s.Perm l)(h2:s.Pairwise λa b=>aY a b=true):s=gO l:=by
 unfold gO;have h:∃s:List (Int×Str),s.Perm l/\s.Pairwise (λa b=>aY a b=true):=⟨s,h1,h2⟩;rw [dif_pos h];exact nI (λa b z=>uf z) (h1.trans h.choose_spec.1.symm) h2 h.choose_spec.2
theorem Nr{l l':List (Int×Str)}(p:l.Perm l'):gO l=gO l':=by
 by_cases h:∃s:List (Int×Str),s.Perm l/\s.Pairwise (λa b=>aY a b=true)
 ·obtain⟨s,h1,h2⟩:=h;rw [<-z6 h1 h2,<-z6 (h1.trans p) h2]
 ·have h':¬ ∃s:List (Int×Str),s.Perm l'/\s.Pairwise (λa b=>aY a b=true):=λ⟨s,h1,h2⟩=>h ⟨s,h1.trans p.symm,h2⟩;unfold gO;rw [dif_neg h,dif_neg h']
def eT(xs:List De)(c:Pp):Rp:=⟨c,(eQ (aC xs) c).map (·.nm),gO (dU xs c.nm)⟩
theorem js{f g:Str}{d x:Yi}{r:List (Str×Yi)}(h:g≠f):dB f d ((g,x)::r)=(g,x)::dB f d r:=by rw [dB,Ye h]
theorem Nt{a b:Yi}:dB (QM "coming") b (dB (QM "name") a [])=[(QM "name",a),(QM "coming",b)]:=by
 rw [show dB (QM "name") a []=[(QM "name",a)] from rfl,js Yb];rfl
theorem Nu{a b c:Yi}:dB (QM "kind") c [(QM "name",a),(QM "coming",b)]=[(QM "name",a),(QM "coming",b),(QM "kind",c)]:=by
 rw [js Yb,js Yb];rfl
theorem Nv{a b c d:Yi}:dB (QM "makers") d [(QM "name",a),(QM "coming",b),(QM "kind",c)]=[(QM "name",a),(QM "coming",b),(QM "kind",c),(QM "makers",d)]:=by
 rw [js Yb,js Yb,js Yb];rfl
theorem Nw{a b c d e:Yi}:dB (QM "happenings") e [(QM "name",a),(QM "coming",b),(QM "kind",c),(QM "makers",d)]=[(QM "name",a),(QM "coming",b),(QM "kind",c),(QM "makers",d),(QM "happenings",e)]:=by
 rw [js Yb,js Yb,js Yb,js Yb];rfl
def Nx(C:Yl):List Yi->(Yi->Prop)->Prop:=λds Q=>∃(xs:List De)(c:Pp),ds=[.tuple (xs.map De.enc),.str c.nm]/\ia xs/\c∈aC xs/\((∀z,z∈gO (dU xs c.nm)↔z∈dU xs c.nm)->(gO (dU xs c.nm)).Pairwise (λa b=>aY a b=true)->(gO (dU xs c.nm)).length<=41->Q ((eT xs c).enc C))
theorem EI(T:Txt K mg t):aA P w K mg base CX0 7 t.a_I t.d_I ["self","deeds","name"] (sV K t.u_Paper (Nx t.u_Paper)):=by
 have G_L:=@x9 P w _ _ base _ T;have G_O:=@Np P w _ _ base _ T;refine T.F_I.F.okI DX (λds Q h=>?_) (λcdv A outer s H H1 O ds Q E l hr h=>?_)
 ·obtain⟨xs,c,rfl,_⟩:=h;rfl
 ·obtain⟨xs,c,rfl,gd,hc,q⟩:=h;refine'⟨_,?A,?B⟩
  case A=>
   refine' ao ?C ?D
   case C=>exact(bf (i:=3) DX.nd rfl Yg (PE.imp (aE G_L (hr.mono Yc) rfl T.F_L (aa (dv 1) (aa (dv 2) aj))) aN))
   case' D=>refine' ao ?E ?F
   case E=>exact(fG (C:=t.u_Paper) (i:=0) T.cl_Paper T.na_Paper_name (pv 0) (ak aG aM (df (dv 3)) (df af)))
   case' F=>refine' ao ?G ?H
   case G=>exact(fG (C:=t.u_Paper) (i:=0) T.cl_Paper T.na_Paper_coming (pv 0) (ak aG aM (df (dv 3)) (df af)))
   case' H=>refine' ao ?I ?J
   case I=>exact(fG (C:=t.u_Paper) (i:=0) T.cl_Paper T.na_Paper_kind (pv 0) (ak aG aM (df (dv 3)) (df af)))
   case' J=>refine' ao ?K ?L
   case K=>exact(fG (C:=t.u_Paper) (i:=0) T.cl_Paper T.na_Paper_makers (pv 0) (PE.imp (aE G_O (hr.mono Yc) rfl T.F_O (aa (dv 1) (aa (dv 2) aj))) aN))
   case' L=>refine' aw ?M
   case M=>exact(fG (C:=t.u_Paper) (i:=0) T.cl_Paper T.na_Paper_happenings (pv 0) (fe (Le rfl T.n_sorted Tc (bj (df (fe (jY rfl EH (df (dv 1)) aL bM Yc (λ_ _ _ _=>(aK (i:=0) EH.nd rfl Yg)) (λ_ _ _ _=>(cZ (PW.pt (fB (aQ (cz hr) cA (df (ak aG aM (df (dv 0)) (df af))) (df aX) (aF _)) (fA (aQ (cD hr.units) cE (df (ak aG aM (df (dv 0)) (df af))) (df (dv 1)) (aF _))))))) (λ_ _ _ _=>(bH (aa (ak aG aM (df (dv 0)) (df af)) (aa (ak aG aM (df (dv 0)) (df af)) aj))))))) br))))
  case B=>
  clear hr T G_L G_O;simp only [sW,eG,QR,RO,R4,RY,VJ,Q0,RJ,SA,SD,Q8];walk_at "e";refine⟨xs,c,rfl,gd.gx,hc,?_⟩;simp only [Pp.enc];walk_at "e";simp only [Nt,Nu,Nv,Nw];have ln:=gd.gx.ln;have lt:∀n:Nat,n < 10->n < 1000:=λn h=>by omega
  refine⟨lt 1 Yc,lt 2 Yc,xs,c,rfl,gd.gx,hc,⟨lt 3 Yc,by rw [QO];omega,iQ (dD c.nm) (λx=>cx (z5 x)) (λx hx R S h1 h0=>?_) ?_⟩⟩
  ·cases x with
   | pap p=>
    simp only [De.enc,Pp.enc];walk_at "d";exact h0 rfl
   | oth w d nm r=>
    simp only [De.enc];walk_at "d";by_cases e:w=QM "happens"
    ·subst e;obtain⟨wd,rfl,_⟩:=gd.hp _ _ _ hx;rw [Yf (beq_self_eq_true _)];refine⟨cK.mpr (gd.gx.nm _ hx),cK.mpr (gd.gx.gp.nm c hc),?_⟩;split
     ·rename_i h2;exact⟨_,fC,h1 (by simp only [dD,beq_self_eq_true,Sr];exact h2)⟩
     ·rename_i h2;exact h0 (by simp only [dD,beq_self_eq_true,Sr];simpa using h2)
    ·rw [bR e,Ye QV];exact h0 (by simp only [dD,bR e,US])
  ·have hl:(dU xs c.nm).length<=41:=by
    unfold dU;rw [QO];have:=RB (dD c.nm) xs;omega
   refine⟨dU xs c.nm,by unfold dU;rw [Rc];rfl,Yd,Nq gd c.nm,λhs h1 h2=>⟨lt 4 Yc,?_⟩⟩;have e:=z6 h1 h2;have q:=q (λz=>by rw [<-e];exact h1.mem_iff) (by rw [<-e];exact h2) (by rw [<-e,h1.length_eq];exact hl);rw [e];exact q
def qV(hs:List (Int×Str)):Prop:=hs.length<=41/\∀z∈hs,QT z.2=true
def dW(hs:List (Int×Str))(wd:Str):List Int:=(hs.filter λz=>z.2==wd).map (·.1)
def F_V(C:Yl):List Yi->(Yi->Prop)->Prop:=λds Q=>∃(r:Rp)(wd:Str),ds=[r.enc C,.str wd]/\qV r.hs/\QT wd=true/\Q (.list ((dW r.hs wd).map .int))
theorem Ny{a b c d e:Yi}:bg [QM "name",QM "coming",QM "kind",QM "makers",QM "happenings"] [a,b,c,d,e] (QM "happenings")=some e:=by
 simp only [bg];rw [Ye Yb,Ye Yb,Ye Yb,Ye Yb,Yf trivial]
theorem uh{a b c d e:Yi}:bg [QM "name",QM "coming",QM "kind",QM "makers",QM "happenings"] [a,b,c,d,e] (QM "coming")=some b:=by
 simp only [bg];rw [Ye Yb,Yf trivial]
theorem ui{a b c d e:Yi}:bg [QM "name",QM "coming",QM "kind",QM "makers",QM "happenings"] [a,b,c,d,e] (QM "kind")=some c:=by
 simp only [bg];rw [Ye Yb,Ye Yb,Yf trivial]
theorem EJ(T:Txt K mg t):aA P w K mg base CX0 1 t.a_V t.d_V ["paper","happening"] (aV K (F_V t.u_Paper)):=by
 refine T.F_V.F.okD MK (λds Q h=>?_) (λ_ _ _ _ H O ds Q E hr h=>?_)
 ·obtain⟨r,wd,rfl,_⟩:=h;rfl
 ·obtain⟨r,wd,rfl,⟨hl,hok⟩,wok,q⟩:=h;refine'⟨_,?A,?B⟩
  case A=>
   refine' aw ?C
   case' C=>refine' aR ?D
   case' D=>refine' fe ?E
   case E=>exact(eD rfl z4 (df (cc (C:=t.u_Paper) T.cl_Paper T.na_Paper_happenings (dv 0))) (gG (b5 aL (b5 aL gF))) vU Yc (λ_ _ _ _=>(gm (n:=2) rfl (bZ (aK (i:=0) z4.nd rfl Yg) (bZ (aK (i:=1) z4.nd rfl Yg) gj)))) (λ_ _ _ _=>(cZ (aQ (cD hr.units) cE (df (dv 1)) (df (dv 2)) (aF _)))) (λ_ _ _ _=>(dv 0)))
  case B=>
  clear hr T;walk_at "d";refine⟨[QM "name",QM "coming",QM "kind",QM "makers",QM "happenings"],_,rfl,_,Ny,_,rfl,by rw [QO];omega,cW (λz:Int×Str=>z.2==wd) (λz=>.int z.1) (λx hx R S h=>?_) ?_⟩
  ·simp only [cx];walk_at "d";exact⟨cK.mpr (hok x hx),cK.mpr wok,h⟩
  ·unfold dW at q;rw [Rc] at q;exact q
end
theorem EK:bb (av tJ) ["deeds","words","day","found","deed","known"] ["name","found"] 1 [3] ⟨QW,[ (QP ".0",ZX),(QP "name",ZX),(QP "found",Q3)],false,false,[]⟩:=⟨rfl,Yb,Yb,Yb,rfl,Yb,Yb,Yb,rfl⟩
section
variable {P:Yu} {w:Yv} {K:QN} {mg:Str->Option Yj} {base:Yw} {t:cg}
def F_Q:List Yi->(Yi->Prop)->Prop:=λds Q=>∃(xs:List Rw)(ws:List Str)(n:Int),ds=[.tuple (xs.map Rw.enc),.tuple (ws.map .str),.int n]/\(∀x∈xs,QT x.w=true)/\Sx (ws.map .str)=true/\xs.length < 64/\∀res,fi ws n xs res->Q (.list (res.map Rw.enc))
theorem Nz{ws:List Str}{w:Str}:((ws.map QU).any λd=>Rg d (.str w))=decide (w∈ws):=by
 induction ws with
 | nil=>simp
 | cons a ws ih=>
  rw [QR,R5,ih,dP];by_cases h:a=w
  ·simp [h]
  ·have h':(a==w)=false:=by simpa using h
   rw [h'];simp [Ne.symm h]
theorem EL(T:Txt K mg t):aA P w K mg base CX0 1 t.a_Q t.d_Q ["deeds","words","day"] (aV K F_Q):=by
 refine T.F_Q.F.okD t8 (λds Q h=>?_) (λ_ _ _ _ H O ds Q E hr h=>?_)
 ·obtain⟨xs,ws,n,rfl,_⟩:=h;rfl
 ·obtain⟨xs,ws,n,rfl,hw,hws,h64,q⟩:=h;refine'⟨_,?A,?B⟩
  case A=>
   refine' ao ?C ?D
   case C=>exact(vL (i:=3) t8.nd rfl Yg vK)
   case' D=>refine' ao ?E ?F
   case E=>
    refine' pe RM rfl (dv 0) ?G aL ?H
    case G=>exact(aK (i:=4) t8.nd rfl Yg)
    case' H=>refine' aw ?I
    case' I=>refine' bJ ?J ?K bI
    case J=>exact(PW.pt (fB (aQ (Cg hr) vH (df (ak aG aM (df (dv 4)) (df af))) (df (dv 1)) rfl) (fA (aQ lP di (df (ak aG aM (df (dv 4)) (df af))) (df (dv 2)) (aF _)))))
    case' K=>refine' ao ?L ?M
    case L=>exact(bf (i:=5) t8.nd rfl Yg (Ky (i:=3) hr.units (pv 3) (ak aG aM (df (dv 4)) (df af)) ⟨rfl,rfl,rfl,rfl⟩))
    case' M=>refine' aw ?N
    case' N=>refine' bJ ?O ?P bI
    case O=>exact(PW.pt (sC (aQ qp qL (df (dv 5)) (df gB) (aF _)) (sA (aQ rN di (df (ak aG aM (df (dv 5)) (df af))) (df (ak aG aM (df (dv 4)) (df af))) (aF _)))))
    case' P=>refine' aw ?Q
    case Q=>exact(vM (i:=3) hr.units (pv 3) (ak aG aM (df (dv 4)) (df af)) (dv 4))
   case' F=>refine' aw ?R
   case' R=>refine' aR ?S
   case' S=>refine' fe ?T
   case T=>exact(eD rfl EK (df (fe (KC (i:=3) rfl rfl T.n_sorted Tc (pv 3)))) aL bM Yc (λ_ _ _ _=>(aK (i:=0) EK.nd rfl Yg)) (λ_ _ _ _=>dj) (λ_ _ _ _=>(Kx (i:=1) hr.units (pv 1) (dv 0) (λ_ _=>rfl))))
  case B=>
  clear hr T;walk_at "d";refine⟨λi δ=>∃L o4 o5,fh ws n (xs.take i) L/\δ=[some (Sl.v (.tuple (xs.map Rw.enc))),some (Sl.v (.tuple (ws.map .str))),some (Sl.v (.int n)),some (Sl.k (hZ L)),o4,o5],⟨[],_,_,fh.nil _ _,rfl⟩,?_,?_⟩
  ·rintro i x δ hx ⟨L,o4,o5,hL,rfl⟩;rw [Q1] at hx;cases hx':xs[i]? with
   | none=>rw [hx'] at hx;cases hx
   | some y=>
    rw [hx'] at hx;cases hx;have hy:y∈xs:=Rm hx';have tk:xs.take (i+1)=xs.take i++[y]:=by rw [RL,hx'];rfl
    simp only [Rw.enc];walk_at "d";have hle:L.length < 64:=by have:=hL.le;rw [RA] at this;omega
    have hk:(hZ L).length < 16777216:=by unfold hZ;rw [QO];omega
    have en:Ry (QU y.w::Rq y.n::QU y.nm::y.r)=y.enc:=rfl;refine⟨cK.mpr (hw y hy),hws,?_⟩;rw [Nz];by_cases hin:y.w∈ws
    ·rw [Yf (decide_eq_true hin)];by_cases hn:y.n<=n
     ·rw [Yf hn,vN,en];cases hl:dQ L y.nm with
      | none=>
       rw [Yf (show eM ((Option.map Rw.enc none).getD UN)=true from rfl)];exact⟨hk,_,by rw [tk];exact hL.put ⟨hin,hn⟩ (λz e=>by rw [hl] at e;cases e),CA L y.nm y,_,rfl⟩
      | some z=>
       rw [Ye (by simp [eM,Rw.enc])];refine⟨_,rfl,_,eJ,_,rfl,?_⟩;split
       ·rename_i hlt;exact⟨hk,_,by rw [tk];exact hL.put ⟨hin,hn⟩ (λz' e=>by rw [hl] at e;cases e;exact hlt),CA L y.nm y,_,rfl⟩
       ·rename_i hlt;exact⟨L,by rw [tk];exact hL.keep hl hlt,rfl,_,rfl⟩
     ·rw [Ye hn];exact⟨L,by rw [tk];exact hL.skip (λz=>hn z.2),rfl,_,rfl⟩
    ·rw [Ye (by simpa using hin)];exact⟨L,by rw [tk];exact hL.skip (λz=>hin z.1),rfl,_,rfl⟩
  ·rintro δ ⟨L,o4,o5,hL,rfl⟩;walk_at "d";rw [QO,Rl (QQ _)] at hL;have hle:L.length < 64:=by have:=hL.le;omega
   refine⟨L.map (·.1),by unfold hZ;rw [Rc,Rc];rfl,by rw [QO];exact hle,by rw [QO,(ku _).length_eq,QO];omega,?_⟩;refine Kp (λx=>match x with | .str nm=>((dQ L nm).map Rw.enc).getD .none | _=>.none) (λx hx R hR=>?_) ?_
   ·obtain⟨nm,hnm,rfl⟩:=Q5.mp hx;obtain⟨z,hz⟩:=vO ((ku _).mem_iff.mp hnm);walk_at "d";refine⟨z.enc,by rw [vN,hz];rfl,?_⟩;have hR:R (((dQ L nm).map Rw.enc).getD .none):=hR;rw [hz] at hR;exact hR
   ·have e:∀l:List Str,(∀a∈l,a∈L.map (·.1))->(l.map QU).map (λx=>match x with | .str nm=>((dQ L nm).map Rw.enc).getD .none | _=>.none)=(l.filterMap (dQ L)).map Rw.enc:=by
     intro l
     induction l with
     | nil=>intro _;rfl
     | cons a l ih=>
      intro hl;obtain⟨z,hz⟩:=vO (hl a Yh);rw [QR,QR,Ss,hz,ih λb hb=>hl b (by simp [hb])];simp [hz]
    rw [e _ λa ha=>(ku _).mem_iff.mp ha];exact q _ hL.res
end
theorem EM:bb (av tK) ["deeds","day"] ["deed"] 1 [] ⟨QW,[(QP ".0",ZX),(QP "deed",ZX)],false,false,[]⟩:=⟨rfl,Yb,Yb,Yb,rfl,Yb,Yb,Yb,rfl⟩
section
variable {P:Yu} {w:Yv} {K:QN} {mg:Str->Option Yj} {base:Yw} {t:cg}
def iS:List Str:=["rule","end"]
def lE(res:List Rw):List Yi:=(res.filter λx=>x.w==QM "rule").map λx=>.tuple [.str x.nm,x.r.headD .none]
structure EN (xs:List Rw):Prop where
 st:∀x∈xs,QT x.w=true
 ru:∀x∈xs,x.w=QM "rule"->∃p,x.r=[p]
 le:xs.length < 64
def NA:List Yi->(Yi->Prop)->Prop:=λds Q=>∃(xs:List Rw)(n:Int),ds=[.tuple (xs.map Rw.enc),.int n]/\EN xs/\∀res,fi iS n xs res->Q (.tuple (lE res))
theorem NB(T:Txt K mg t):aA P w K mg base CX0 2 t.a_R t.d_R ["deeds","day"] (aV K NA):=by
 have G_Q:=@EL P w _ _ base _ T;refine T.F_R.F.okD MH (λds Q h=>?_) (λ_ _ _ _ H O ds Q E hr h=>?_)
 ·obtain⟨xs,n,rfl,_⟩:=h;rfl
 ·obtain⟨xs,n,rfl,ok,q⟩:=h;refine'⟨_,?A,?B⟩
  case A=>
   refine' aw ?C
   case' C=>generalize hG2:Ya _ _ _ _=eg2
   refine' aR ?D
   case' D=>subst hG2
   exact(PE.imp (cT fN rfl T.n_tuple fP (bj (df (fe (eD rfl EM (df (PE.imp (aE G_Q (hr.mono Yc) rfl T.F_Q (aa (dv 0) (aa (bH (aa aX (aa aX aj))) (aa (dv 1) aj)))) aN)) aL bM Yc (λ_ _ _ _=>(aK (i:=0) EM.nd rfl Yg)) (λ_ _ _ _=>(cZ (aQ (cz hr) cA (df (ak aG aM (df (dv 0)) (df af))) (df aX) (aF _)))) (λ_ _ _ _=>(bH (aa (ak aG aM (df (dv 0)) (df af)) (aa (ak aG aM (df (dv 0)) (df af)) aj))))))) br)) (bz fS))
  case B=>
  clear hr T G_Q;walk_at "d";refine⟨xs,iS,n,rfl,ok.st,Yb,ok.le,λres hres=>⟨_,rfl,?_,?_⟩⟩
  ·rw [QO];have:=hres.le;have:=ok.le;omega
  refine Kq (λx=>match x with | .tuple (.str w:: .int n:: .str nm::r)=>if (w==QM "rule")=true then some (.tuple [.str nm,r.headD .none]) else none | _=>none) (λx hx R S h=>?_) ?_
  ·obtain⟨y,hy,rfl⟩:=Q5.mp hx;simp only [Rw.enc] at h⊢;walk_at "d";by_cases hr:(y.w==QM "rule")=true
   ·rw [Yf hr] at h⊢;obtain⟨p,hp⟩:=ok.ru y (hres.it y hy).1 (eq_of_beq hr);rw [hp] at h⊢;exact⟨p,fC,h⟩
   ·rw [Ye hr] at h⊢;exact h
  ·have e:∀l:List Rw,(l.map Rw.enc).filterMap (λx=>match x with | .tuple (.str w:: .int n:: .str nm::r)=>if (w==QM "rule")=true then some (.tuple [.str nm,r.headD .none]) else none | _=>none)=lE l:=by
    intro l
    induction l with
    | nil=>rfl
    | cons a l ih=>
     rw [QR,Ss,ih];unfold lE;simp only [Rw.enc,RI];by_cases hr:(a.w==QM "rule")=true
     ·rw [Yf hr,Yf hr];rfl
     ·rw [Ye hr,Ye hr]
   rw [e];exact q res hres
theorem EO{s s':bX}(h:s.enc=s'.enc):s=s':=by
 have n1:QM "first"≠QM "last":=Yb
 cases s <;> cases s' <;> simp only [bX.enc,R7,RG,R8,and_true,reduceCtorEq,and_false] at h
 ·rfl
 ·rw [h.2]
 ·exact absurd h.1 n1
 ·exact absurd h.1.symm n1
 ·rw [h.2]
theorem ER{a b:Pt}(h:a.enc=b.enc):a=b:=by
 cases a <;> cases b <;> simp only [Pt.enc,R7,RG,R8,R3,and_true,reduceCtorEq,and_false] at h
 ·rw [h.1,h.2]
 ·obtain⟨h1,h2,h3,h4,h5⟩:=h;rw [h1,h2,EO h3,h4,h5]
theorem ES{α β:Type}{f:α->β}:∀{l:List α},(l.map f).Nodup->∀{a b:α},a∈l->b∈l->f a=f b->a=b
 | x::l,nd,a,b,ha,hb,e=>by
  rw [QR,Sq] at nd;rcases QX.mp ha with ea | ha1 <;> rcases QX.mp hb with eb | hb1
  ·rw [ea,eb]
  ·subst ea;exact absurd (Q5.mpr ⟨b,hb1,e.symm⟩) nd.1
  ·subst eb;exact absurd (Q5.mpr ⟨a,ha1,e⟩) nd.1
  ·exact ES nd.2 ha1 hb1 e
def De.rw:De->Rw
 | .pap p=>⟨QM "paper",p.d,p.nm,[.str p.kd,.tuple (p.ms.map .str)]⟩
 | .oth w d nm r=>⟨w,d,nm,r⟩
theorem De.rw_enc(x:De):x.rw.enc=x.enc:=by cases x <;> rfl
theorem ET(xs:List De):(xs.map De.rw).map Rw.enc=xs.map De.enc:=by
 rw [Rc];congr 1;funext x;exact x.rw_enc
def z7(xs:List De)(n:Int)(z:Str×Pt):Prop:=∃d,d<=n/\De.oth (QM "rule") d z.1 [z.2.enc]∈xs/\∀x∈xs,x.isE=true->x.nm=z.1->x.d<=n->x.d<=d
def pQ(a b:Str×Pt):Prop:=dn a.1 b.1=true/\a.1≠b.1
def iT(xs:List De)(n:Int)(L:List (Str×Pt)):Prop:=L.Pairwise pQ/\∀z,z∈L↔z7 xs n z
theorem NC(a b:Str×Pt)(h:pQ a b):¬pQ b a:=λz=>h.2 (vI h.1 z.1)
theorem EU{L:List (Str×Pt)}(h:L.Pairwise pQ):L.Nodup:=h.imp λ{a b} z e=>z.2 (by rw [e])
theorem ND{L M:List (Str×Pt)}(h1:L.Pairwise pQ)(h2:M.Pairwise pQ)(h:∀z,z∈L↔z∈M):L=M:=
 nI NC ((U0 (EU h1) (EU h2)).mpr h) h1 h2
open Classical in
def ib(xs:List De)(n:Int):List (Str×Pt):=if h:∃L,iT xs n L then h.choose else []
theorem z9{xs:List De}{n:Int}{L:List (Str×Pt)}(h:iT xs n L):L=ib xs n:=by
 unfold ib;have e:∃L,iT xs n L:=⟨L,h⟩;rw [dif_pos e];exact ND h.1 e.choose_spec.1 λz=>(h.2 z).trans (e.choose_spec.2 z).symm
def cX(z:Str×Pt):Yi:= .tuple [.str z.1,z.2.enc]
theorem NF{x:De}(np:x.rw.w∈iS)(hp:∀p,x≠ .pap p):x.isE=true:=by
 cases x with
 | pap p=>exact absurd rfl (hp p)
 | oth w d nm r=>
  have:w=QM "rule"\/w=QM "end":=by
   have h:w∈iS:=np;unfold iS at h;rcases QX.mp h with e | h
   ·exact .inl e
   ·rcases QX.mp h with e | h
    ·exact .inr e
    ·cases h
  rcases this with e | e
  ·simp [De.isE,e]
  ·simp [De.isE,e]
theorem EV{x:De}(h:x.isE=true):x.rw.w∈iS/\x.rw.nm=x.nm/\x.rw.n=x.d:=by
 cases x with
 | pap p=>cases h
 | oth w d nm r=>
  refine⟨?_,rfl,rfl⟩;simp only [De.isE,U8,beq_iff_eq] at h;show w∈iS;unfold iS;rcases h with e | e
  ·rw [e];exact RC
  ·rw [e];exact Ri _ RC
theorem NG:QM "paper" ∉ iS:=Yb
theorem NH{xs:List De}{n:Int}{res:List Rw}(g:ia xs)(h:fi iS n (xs.map De.rw) res):∃L,iT xs n L/\lE res=L.map cX:=by
 have from1:∀x∈res,x.w=QM "rule"->∃pt:Pt,pt.Ok/\x.r=[pt.enc]/\De.oth (QM "rule") x.n x.nm [pt.enc]∈xs:=λx hx hw=>by
  obtain⟨h1,_,_⟩:=h.it x hx;obtain⟨y,hy,rfl⟩:=Q5.mp h1;cases y with
  | pap p=>exact absurd hw (by show QM "paper"≠_;decide+kernel)
  | oth w d nm r=>
   have hw:w=QM "rule":=hw;subst hw;obtain⟨pt,e,ok⟩:=g.ru _ _ _ hy;subst e;exact⟨pt,ok,rfl,hy⟩
 have pick:∀l:List Rw,(∀x∈l,x∈res)->∃L:List (Str×Pt),lE l=L.map cX/\L.map (·.1)=(l.filter λx=>x.w==QM "rule").map (·.nm)/\∀z∈L,∃x∈l,x.w=QM "rule"/\x.nm=z.1/\x.r=[z.2.enc]:=by
  intro l
  induction l with
  | nil=>intro _;exact⟨[],rfl,rfl,Yh⟩
  | cons a l ih=>
   intro hl;obtain⟨L,e1,e2,e3⟩:=ih λx hx=>hl x (by simp [hx]);by_cases hr:(a.w==QM "rule")=true
   ·obtain⟨pt,_,er,_⟩:=from1 a (hl a Yh) (eq_of_beq hr);refine⟨(a.nm,pt)::L,?_,?_,?_⟩
    ·unfold lE at e1⊢;rw [RI,Yf hr,QR,QR,e1,er];rfl
    ·rw [RI,Yf hr,QR,QR,e2]
    ·intro z hz;rcases QX.mp hz with rfl | hz
     ·exact⟨a,Yh,eq_of_beq hr,rfl,er⟩
     ·obtain⟨x,hx,h'⟩:=e3 z hz;exact⟨x,by simp [hx],h'⟩
   ·refine⟨L,?_,?_,?_⟩
    ·unfold lE at e1⊢;rw [RI,Ye hr,e1]
    ·rw [RI,Ye hr,e2]
    ·intro z hz;obtain⟨x,hx,h'⟩:=e3 z hz;exact⟨x,by simp [hx],h'⟩
 obtain⟨L,e1,e2,e3⟩:=pick res λ_ h=>h;have key:∀x∈res,∀pt:Pt,x.r=[pt.enc]->x.w=QM "rule"->z7 xs n (x.nm,pt):=λx hx pt er hw=>by
  obtain⟨pt',_,er',hm⟩:=from1 x hx hw;obtain⟨h1,⟨_,h2⟩,h3⟩:=h.it x hx;rw [er] at er';rw [<-(V1 er').1] at hm;refine⟨x.n,h2,hm,λy hy ye yn yd=>?_⟩;obtain⟨a,b,c⟩:=EV ye;have:=h3 y.rw (Q5.mpr ⟨y,hy,rfl⟩) ⟨a,by rw [c];exact yd⟩ (by rw [b];exact yn);rw [c] at this;exact this
 refine⟨L,⟨?_,λz=>⟨λhz=>?_,λhz=>?_⟩⟩,e1⟩
 ·have up:(L.map (·.1)).Pairwise λa b=>dn a b=true:=by
   rw [e2];exact h.up.sublist (U1.map _)
  have nd:(L.map (·.1)).Nodup:=by
   rw [e2];exact h.nd.sublist (U1.map _)
  rw [Sa] at up;rw [VD,Sa] at nd;exact up.and nd
 ·obtain⟨x,hx,hw,hn,hr⟩:=e3 z hz;have:=key x hx z.2 hr hw;rw [hn] at this;exact this
 ·obtain⟨d,hd,hm,hal⟩:=hz;have hmr:(De.oth (QM "rule") d z.1 [z.2.enc]).rw∈xs.map De.rw:=Q5.mpr ⟨_,hm,rfl⟩;have hok:fU iS n (De.oth (QM "rule") d z.1 [z.2.enc]).rw:=⟨RC,hd⟩;obtain⟨x,hx,xn⟩:=h.al _ hmr hok;have xn:x.nm=z.1:=xn;obtain⟨h1,⟨h2a,h2b⟩,h3⟩:=h.it x hx;obtain⟨y,hy,ey⟩:=Q5.mp h1;have hyE:y.isE=true:=NF (by rw [ey];exact h2a) λp hp=>by
   rw [hp] at ey;rw [<-ey] at h2a;exact NG h2a
  obtain⟨_,yb,yc⟩:=EV hyE;have dd:d<=x.n:=h3 _ hmr hok xn.symm;have dd2:x.n<=d:=by
   have:=hal y hy hyE (by rw [<-yb,ey];exact xn) (by rw [<-yc,ey];exact h2b);rw [<-yc,ey] at this;exact this
  have ee:y=De.oth (QM "rule") d z.1 [z.2.enc]:=g.re y hy _ hm hyE (by simp [De.isE]) (by rw [<-yc,ey];exact XF dd2 dd) (by rw [<-yb,ey];exact xn);subst ee;have hw:x.w=QM "rule":=by rw [<-ey];rfl
  have hr:x.r=[z.2.enc]:=by rw [<-ey];rfl
  have:z.1∈L.map (·.1):=by
   rw [e2];exact Q5.mpr ⟨x,RH.mpr ⟨hx,by rw [hw];exact beq_self_eq_true _⟩,xn⟩
  obtain⟨v,hv,vn⟩:=Q5.mp this;obtain⟨x',hx',hw',hn',hr'⟩:=e3 v hv;have exx:x'=x:=ES h.nd hx' hx (hn'.trans (vn.trans xn.symm));rw [exx,hr] at hr';have:v=z:=by
   obtain⟨v1,v2⟩:=v;obtain⟨z1,z2⟩:=z;have a1:v1=z1:=vn;have a2:z2.enc=v2.enc:=(V1 hr').1;rw [a1,ER a2.symm]
  rw [<-this];exact hv
def NI:List Yi->(Yi->Prop)->Prop:=λds Q=>∃(xs:List De)(n:Int),ds=[.tuple (xs.map De.enc),.int n]/\ia xs/\(iT xs n (ib xs n)->(ib xs n).length<=41->Q (.tuple ((ib xs n).map cX)))
theorem EW{xs:List De}(g:ia xs)(wok:∀w d nm r,De.oth w d nm r∈xs->QT w=true):EN (xs.map De.rw):=by
 refine⟨λx hx=>?_,λx hx hw=>?_,?_⟩
 ·obtain⟨y,hy,rfl⟩:=Q5.mp hx;cases y with
  | pap p=>show QT (QM "paper")=true;decide+kernel
  | oth w d nm r=>exact wok _ _ _ _ hy
 ·obtain⟨y,hy,rfl⟩:=Q5.mp hx;cases y with
  | pap p=>exact absurd hw (by show QM "paper"≠_;decide+kernel)
  | oth w d nm r=>
   have hw:w=QM "rule":=hw;subst hw;obtain⟨pt,e,_⟩:=g.ru _ _ _ hy;exact⟨_,e⟩
 ·rw [QO];have:=g.gx.ln;omega
theorem NJ(T:Txt K mg t):aA P w K mg base CX0 2 t.a_R t.d_R ["deeds","day"] (aV K NI):=
 (NB T).imp λvs H Q E ⟨O,ds,Qd,tr,hs,⟨xs,n,e,g,q⟩,k⟩=>⟨O,ds,Qd,tr,hs,⟨xs.map De.rw,n,by rw [ET];exact e,EW g (λw d nm r h=>g.gx.w _ h),λres hres=>by
  obtain⟨L,h1,h2⟩:=NH g hres;have e:=z9 h1;rw [h2,e];refine q (by rw [<-e];exact h1) ?_;have hl:(lE res).length<=res.length:=by unfold lE;rw [QO];exact RB _ _
  have:=hres.le;rw [QO] at this;rw [h2,QO,e] at hl;have:=g.gx.ln;omega⟩,k⟩
end
theorem EX:bb (av tO) ["paper","since","day","days"] ["other","day"] 1 [2] ⟨QW,[ (QP ".0",ZX),(QP "other",ZX),(QP "day",Q3)],false,false,[]⟩:=⟨rfl,Yb,Yb,Yb,rfl,Yb,Yb,Yb,rfl⟩
section
variable {P:Yu} {w:Yv} {K:QN} {mg:Str->Option Yj} {base:Yw} {t:cg}
open Classical in
def jt(d k:Int)(u:Str):Int:=if h:∃r,oA d k u r then h.choose else 0
theorem EY{d k:Int}{u:Str}{r:Int}(h:oA d k u r):r=jt d k u:=by
 unfold jt;rw [dif_pos ⟨r,h⟩];exact Nc h (Exists.choose_spec (⟨r,h⟩:∃r,oA d k u r))
def bY:Option Int->Yi
 | none=>.none
 | some i=>.int i
def gP(r:Rp):Prop:=qV r.hs/\QT r.c.kd=true/\r.ts.length<=41/\∀m∈r.ts,QT m=true
def pR(r:Rp)(wd:Str)(n:Int):List Int:=(dW r.hs wd).filter λz=>decide (z<=n)
def uj(r:Rp)(n:Int):bX->Option Int
 | .com=>some r.c.d
 | .fst wd=>(pR r wd n).head?
 | .lst wd=>(pR r wd n).getLast?
theorem NK{l:List Int}{Q:Yi->Prop}(q:Q (bY l.head?)):if (!(l.map λz=>Rq z).isEmpty)=false then Q .none else ∃d,atI (l.map λz=>Rq z) 0=some d/\Q d:=by
 cases l with
 | nil=>rw [Yf (by rfl)];exact q
 | cons a l=>rw [Ye Yh];exact⟨.int a,dH,q⟩
theorem BA{l:List Yi}{a:Yi}:atI (l++[a]) (-1)=some a:=by
 unfold atI i9;rw [Ye Yd,Yf (by rw [Q2,S5];omega)];rw [show((-1:Int)+((l++[a]).length:Nat)).toNat=l.length by rw [Q2,S5];omega];simp
theorem NL{l:List Int}{Q:Yi->Prop}(q:Q (bY l.getLast?)):if (!(l.map λz=>Rq z).isEmpty)=false then Q .none else ∃d,atI (l.map λz=>Rq z) (-1)=some d/\Q d:=by
 rcases List.eq_nil_or_concat l with e | ⟨l',a,e⟩
 ·subst e;rw [Yf (by rfl)];exact q
 ·rw [List.concat_eq_append] at e;subst e;rw [Ye Yh];refine⟨.int a,?_,?_⟩
  ·rw [Rf];exact BA
  ·rw [List.getLast?_concat] at q;exact q
def NM(C:Yl):List Yi->(Yi->Prop)->Prop:=λds Q=>∃(r:Rp)(s:bX)(n:Int),ds=[r.enc C,s.enc,.int n]/\s.Ok/\gP r/\Q (bY (uj r n s))
theorem NN(T:Txt K mg t):aA P w K mg base CX0 2 t.a_W t.d_W ["paper","since","day"] (aV K (NM t.u_Paper)):=by
 have G_V:=@EJ P w _ _ base _ T;refine T.F_W.F.okD D1 (λds Q h=>?_) (λ_ _ _ _ H O ds Q E hr h=>?_)
 ·obtain⟨r,s,n,rfl,_⟩:=h;rfl
 ·obtain⟨r,si,n,rfl,hsi,hh,q⟩:=h;refine'⟨_,?A,?B⟩
  case A=>
   refine' ao ?C ?D
   case C=>
    refine' bJ ?E ?F bI
    case E=>exact(aQ (cz hr) cA (df (ak aG aM (df (dv 1)) (df af))) (df aX) (aF _))
    case' F=>refine' aw ?G
    case G=>exact(aR (cc (C:=t.u_Paper) T.cl_Paper T.na_Paper_coming (dv 0)))
   case' D=>refine' ao ?H ?I
   case H=>exact(hW (i:=3) D1.nd rfl Yg (sL rfl EX (df (PE.imp (aE G_V (hr.mono Yc) rfl T.F_V (aa (dv 0) (aa (ak aG aM (df (dv 1)) (df af)) aj))) aN)) aL bM Yc (λ_ _ _ _=>(aK (i:=0) EX.nd rfl Yg)) (λ_ _ _ _=>(cZ (aQ lP di (df (dv 0)) (df (dv 1)) (aF _)))) (λ_ _ _ _=>(dv 0))))
   case' I=>refine' ao ?J ?K
   case J=>
    refine' bJ ?L ?M bI
    case L=>exact(oY (tf (dv 3)))
    case M=>refine' aw (aR gB)
   case' K=>refine' aw ?N
   case' N=>refine' aR ?O
   case O=>exact(qA (aQ (cz hr) cA (df (ak aG aM (df (dv 1)) (df af))) (df aX) (aF _)) (ak aP aS (df (dv 3)) (df af)) (ak aP aS (df (dv 3)) (df (Kr af))))
  case B=>
  clear hr T G_V;have dl:∀wd,(dW r.hs wd).length<=41:=λwd=>by
   unfold dW;rw [QO];exact Rj (RB _ _) hh.1.1
  cases si with
  | com=>
   simp only [bX.enc];walk_at "d";exact⟨[QM "name",QM "coming",QM "kind",QM "makers",QM "happenings"],_,rfl,_,uh,q⟩
  | fst wd=>
   simp only [bX.enc];walk_at "d";rw [bR (show QM "first"≠QM "coming" by decide+kernel),Ye QV];have dl:=dl wd;refine⟨r,wd,rfl,hh.1,hsi,_,rfl,by rw [QO];omega,cW (λz=>decide (z<=n)) (λz=>.int z) (λx hx R S h=>?_) ?_⟩
   ·walk_at "d";simpa using h
   ·have q:Q (bY (pR r wd n).head?):=q;unfold pR at q;exact NK q
  | lst wd=>
   simp only [bX.enc];walk_at "d";rw [bR (show QM "last"≠QM "coming" by decide+kernel),Ye QV];have dl:=dl wd;refine⟨r,wd,rfl,hh.1,hsi,_,rfl,by rw [QO];omega,cW (λz=>decide (z<=n)) (λz=>.int z) (λx hx R S h=>?_) ?_⟩
   ·walk_at "d";simpa using h
   ·have q:Q (bY (pR r wd n).getLast?):=q;unfold pR at q;exact NL q
def fJ(r:Rp)(n:Int):Pt->Option Int
 | .five _ _ s k u=>(uj r n s).map λb=>jt b k u
 | .two _ _=>none
def NO(C:Yl):List Yi->(Yi->Prop)->Prop:=λds Q=>∃(r:Rp)(w kd:Str)(s:bX)(k:Int)(u:Str)(n:Int),ds=[r.enc C,(Pt.five w kd s k u).enc,.int n]/\s.Ok/\oz u/\gP r/\Q (bY (fJ r n (.five w kd s k u)))
theorem EZ(T:Txt K mg t):aA P w K mg base CX0 6 t.a_X t.d_X ["paper","parts","day"] (aV K (NO t.u_Paper)):=by
 have G_W:=@NN P w _ _ base _ T;have G_H:=@Eo P w _ _ base _ T;refine T.F_X.F.okD D2 (λds Q h=>?_) (λ_ _ _ _ H O ds Q E hr h=>?_)
 ·obtain⟨r,w,kd,s,k,u,n,rfl,_⟩:=h;rfl
 ·obtain⟨r,wo,kd,si,k,u,n,rfl,hsi,hu,hh,q⟩:=h;refine'⟨_,?A,?B⟩
  case A=>
   refine' ao ?C ?D
   case C=>
    refine' bf (i:=3) D2.nd rfl Yg ?E (hs:=qI)
    case E=>exact(PE.imp (aE G_W (hr.mono Yc) rfl T.F_W (aa (dv 0) (aa (ak aG aM (df (dv 1)) (df af)) (aa (dv 2) aj)))) aN)
   case' D=>refine' ao ?F ?G
   case F=>
    refine' bJ ?H ?I bI
    case H=>exact(aQ qp qL (df (dv 3)) (df gB) (aF _))
    case I=>refine' aw (aR gB)
   case' G=>refine' aw ?J
   case' J=>refine' aR ?K
   case K=>exact(PE.imp (aE G_H (hr.mono Yc) rfl T.F_H (aa (dv 3) (aa (ak aG aM (df (dv 1)) (df af)) (aa (ak aG aM (df (dv 1)) (df af)) aj)))) aN)
  case B=>
  clear hr T G_W G_H;simp only [Pt.enc];walk_at "d";refine⟨r,si,n,rfl,hsi,hh,?_⟩;have q:Q (bY ((uj r n si).map λb=>jt b k u)):=q;cases hb:uj r n si with
  | none=>
   rw [hb] at q;simp only [bY,eM];walk_at "d";exact q
  | some b=>
   rw [hb] at q;simp only [bY,eM];walk_at "d";exact⟨b,k,u,rfl,hu,λx hx=>by rw [EY hx];exact q⟩
theorem E1{xs:List De}{c:Pp}(g:ia xs)(hc:c∈aC xs)(h1:∀z,z∈gO (dU xs c.nm)↔z∈dU xs c.nm)(h3:(gO (dU xs c.nm)).length<=41):gP (eT xs c):=by
 refine⟨⟨h3,λz hz=>?_⟩,g.gx.gp.kd c hc,?_,λm hm=>?_⟩
 ·have hz:=(h1 z).mp hz;unfold dU at hz;obtain⟨x,hx,e⟩:=Q5.mp hz;obtain⟨hx1,hx2⟩:=RH.mp hx;cases x with
  | pap p=>cases hx2
  | oth w d nm r=>
   simp only [dD,RW,beq_iff_eq] at hx2;obtain⟨rfl,rfl⟩:=hx2;obtain⟨wd,rfl,hw⟩:=g.hp _ _ _ hx1;rw [<-e];exact hw
 ·show((eQ (aC xs) c).map (·.nm)).length<=41;rw [QO];exact z3 g.gx.gp
 ·obtain⟨p,hp,rfl⟩:=Q5.mp hm;exact g.gx.gp.nm p (iN.mp (RH.mp hp).1)
end
theorem E2:bb (av tP) ["paper","rules","day"] ["pair","paper"] 1 [0] ⟨QW,[ (QP ".0",ZX),(QP "pair",ZX),(QP "paper",Q3)],false,false,[]⟩:=⟨rfl,Yb,Yb,Yb,rfl,Yb,Yb,Yb,rfl⟩
theorem E3:bb (av tQ) ["paper","rules","day","gone","left","calls","rule","parts","due"] ["maker","gone","day"] 1 [3,2] ⟨QW,[ (QP ".0",ZX),(QP "maker",ZX),(QP "has_gone",Rr),(QP "day",Q3),(QP "gone",Q3)],false,false,[]⟩:=⟨rfl,Yb,Yb,Yb,rfl,Yb,Yb,Yb,rfl⟩
theorem E4:bb (av tR) ["paper","rules","day","gone","away","calls","rule","parts","due"] ["maker","gone","day"] 1 [3,2] ⟨QW,[ (QP ".0",ZX),(QP "maker",ZX),(QP "has_gone",Rr),(QP "day",Q3),(QP "gone",Q3)],false,false,[]⟩:=⟨rfl,Yb,Yb,Yb,rfl,Yb,Yb,Yb,rfl⟩
theorem Aa:bb (av tS) ["kind","rules"] ["rule","parts","kind"] 2 [0] ⟨QW,[ (QP ".0",ZX),(QP "rule",ZX),(QP "parts",ZX),(QP "kind",Q3)],false,false,[]⟩:=⟨rfl,Yb,Yb,Yb,rfl,Yb,Yb,Yb,rfl⟩
section
variable {P:Yu} {w:Yv} {K:QN} {mg:Str->Option Yj} {base:Yw} {t:cg}
structure Gn where
 ks:List Str
 gs:List Int
def Gn.enc(g:Gn):Yi:=fX g.ks (g.gs.map .int)
def qW:List Str->List Int->Str->Option Int
 | k::ks,d::ds,z=>if k=z then some d else qW ks ds z
 | _,_,_=>none
theorem E5:∀(ks:List Str)(gs:List Int)(z:Str),bg ks (gs.map .int) z=(qW ks gs z).map .int
 | [],_,_=>rfl
 | _::_,[],_=>rfl
 | k::ks,g::gs,z=>by
  rw [QR];unfold bg qW;by_cases h:k=z
  ·rw [Yf h,Yf h];rfl
  ·rw [Ye h,Ye h];exact E5 ks gs z
def Gn.at(g:Gn)(z:Str):Option Int:=qW g.ks g.gs z
def Gn.has(g:Gn)(n:Int)(z:Str):Bool:=match g.at z with
 | some d=>decide (d<=n)
 | none=>false
def NP:List Yi->(Yi->Prop)->Prop:=λds Q=>∃(g:Gn)(z:Str)(n:Int),ds=[g.enc,.str z,.int n]/\Q (.bool (g.has n z))
theorem E6(T:Txt K mg t):aA P w K mg base CX0 1 t.a_Z t.d_Z ["gone","paper","day"] (aV K NP):=by
 refine T.F_Z.F.okD D3 (λds Q h=>?_) (λ_ _ _ _ H O ds Q E hr h=>?_)
 ·obtain⟨g,z,n,rfl,_⟩:=h;rfl
 ·obtain⟨g,z,n,rfl,q⟩:=h;refine'⟨_,?A,?B⟩
  case A=>
   refine' ao ?C ?D
   case C=>exact(bf (i:=3) D3.nd rfl Yg (L7 hr.units (dv 0) (dv 1) ⟨rfl,rfl,rfl,rfl⟩))
   case' D=>refine' aw ?E
   case' E=>refine' aR ?F
   case F=>exact(qz (dG Be Cw (df (dv 3)) (df gB) (aF _)) (qy (dG lP di (df (dv 3)) (df (dv 2)) (aF _))))
  case B=>
  clear hr T;simp only [Gn.enc];walk_at "d";refine⟨g.ks,_,rfl,?_⟩;rw [E5];have q:Q (.bool (match g.at z with | some d=>decide (d<=n) | none=>false)):=q;unfold Gn.at at q;cases hd:qW g.ks g.gs z with
  | none=>
   rw [hd] at q;simp only [Tn,Wj,eM];walk_at "d";exact q
  | some d=>
   rw [hd] at q;simp only [Tj,Option.getD_some,eM];walk_at "d";exact q
theorem E7{a b c d e:Yi}:bg [QM "name",QM "coming",QM "kind",QM "makers",QM "happenings"] [a,b,c,d,e] (QM "makers")=some d:=by
 simp only [bg];rw [Ye Yb,Ye Yb,Ye Yb,Yf trivial]
def Pt.wd:Pt->Str
 | .two w _=>w
 | .five w _ _ _ _=>w
def Pt.kd:Pt->Str
 | .two _ kd=>kd
 | .five _ kd _ _ _=>kd
theorem Pt.kdOk{p:Pt}(h:p.Ok):QT p.kd=true:=by cases p with | two w kd=>exact h.2.2 | five w kd s k u=>exact h.2.1
theorem Pt.at1(p:Pt):∃l,p.enc= .tuple l/\atI l 1=some (.str p.kd):=by cases p <;> exact⟨_,rfl,eJ⟩
def iU(L:List (Str×Pt)):Prop:=L.length<=41/\∀z∈L,z.2.Ok
def ju(r:Rp)(n:Int)(L:List (Str×Pt)):List (Str×Pt):=if r.c.d > n then [] else L.filter λz=>z.2.kd==r.c.kd
def NQ(C:Yl):List Yi->(Yi->Prop)->Prop:=λds Q=>∃(r:Rp)(L:List (Str×Pt))(n:Int),ds=[r.enc C,.tuple (L.map cX),.int n]/\gP r/\iU L/\Q (.list ((ju r n L).map cX))
theorem E8(T:Txt K mg t):aA P w K mg base CX0 1 t.a_Y t.d_Y ["paper","rules","day"] (aV K (NQ t.u_Paper)):=by
 refine T.F_Y.F.okD ML (λds Q h=>?_) (λ_ _ _ _ H O ds Q E hr h=>?_)
 ·obtain⟨r,L,n,rfl,_⟩:=h;rfl
 ·obtain⟨r,L,n,rfl,hr',hL,q⟩:=h;refine'⟨_,?A,?B⟩
  case A=>
   refine' ao ?C ?D
   case C=>
    refine' bJ ?E ?F bI
    case E=>exact(aQ jE di (df (cc (C:=t.u_Paper) T.cl_Paper T.na_Paper_coming (dv 0))) (df (dv 2)) (aF _))
    case' F=>refine' aw ?G
    case G=>exact(aR (fe (bW aj)))
   case' D=>refine' aw ?H
   case' H=>refine' aR ?I
   case' I=>refine' fe ?J
   case J=>exact(jY rfl E2 (df (dv 1)) aL bM Yc (λ_ _ _ _=>(aK (i:=0) E2.nd rfl Yg)) (λ_ _ _ _=>(cZ (aQ (cD hr.units) cE (df (ak aG aM (df (ak aG aM (df (dv 0)) (df af))) (df af))) (df (cc (C:=t.u_Paper) T.cl_Paper T.na_Paper_kind (dv 1))) (aF _)))) (λ_ _ _ _=>(dv 0)))
  case B=>
  clear hr T;walk_at "d";refine⟨[QM "name",QM "coming",QM "kind",QM "makers",QM "happenings"],_,rfl,_,uh,r.c.d,rfl,?_⟩;unfold ju at q;by_cases hd:r.c.d > n
  ·rw [Yf hd] at q⊢;exact q
  ·rw [Ye hd] at q⊢;refine⟨by rw [QO];have:=hL.1;omega,cW (λz:Str×Pt=>z.2.kd==r.c.kd) cX (λx hx R S h=>?_) q⟩;simp only [cX];obtain⟨l,e1,e2⟩:=Pt.at1 x.2;rw [e1];walk_at "d";refine⟨_,e2,[QM "name",QM "coming",QM "kind",QM "makers",QM "happenings"],_,rfl,_,ui,cK.mpr (Pt.kdOk (hL.2 x hx)),cK.mpr hr'.2.1,?_⟩;rw [dP];simp only [cX] at h;rw [e1] at h;exact h
def ck(z:Str×Yi):Yi:= .tuple [.str z.1,z.2]
def lF(r:Rp)(n:Int)(g:Gn):List Str:=r.ts.filter λm=>!g.has n m
def lG(r:Rp)(n:Int)(g:Gn):List Str:=r.ts.filter λm=>g.has n m
def pT(n:Int):Option Int->Bool
 | none=>true
 | some d=>decide (d > n)
def pU(r:Rp)(n:Int)(g:Gn):Pt->Option Yi
 | .five w kd s k u=>if w=QM "keep"/\pT n (fJ r n (.five w kd s k u))=true then some (bY (fJ r n (.five w kd s k u))) else none
 | .two w kd=>if w=QM "while" then(lF r n g).head?.map .str else none
def pV(r:Rp)(n:Int)(g:Gn):Pt->Option Yi
 | .five w kd s k u=>if w=QM "gone"/\pT n (fJ r n (.five w kd s k u))=false then some (bY (fJ r n (.five w kd s k u))) else none
 | .two w kd=>if w=QM "follow" then(lG r n g).head?.map .str else none
def Ab(r:Rp)(n:Int)(g:Gn)(z:Str×Pt):List (Str×Yi):=((pU r n g z.2).map λb=>(z.1,b)).toList
def Ac(r:Rp)(n:Int)(g:Gn)(z:Str×Pt):List (Str×Yi):=((pV r n g z.2).map λb=>(z.1,b)).toList
def ic(r:Rp)(n:Int)(g:Gn)(L:List (Str×Pt)):List (Str×Yi):=(ju r n L).flatMap (Ab r n g)
def lH(r:Rp)(n:Int)(g:Gn)(L:List (Str×Pt)):List (Str×Yi):=(ju r n L).flatMap (Ac r n g)
theorem uk{α β:Type}{f:α->List β}(h:∀x,(f x).length<=1):∀l:List α,(l.flatMap f).length<=l.length
 | []=>by simp
 | x::l=>by
  rw [V9,Q2,Q0];have:=h x;have:=uk h l;omega
theorem Ad{α:Type}(o:Option α):o.toList.length<=1:=by cases o <;> simp
theorem E9{f:Str×Pt->Option Yi}(M:List (Str×Pt))(hM:M.length<=41):∃acc:Nat->List Yi,acc 0=[]/\(∀i,(acc i).length<=41)/\(∀i x,M[i]?=some x->f x=none->acc (i+1)=acc i)/\(∀i x,M[i]?=some x->∀b,f x=some b->acc (i+1)=acc i++[.tuple [.str x.1,b]])/\acc M.length=(M.flatMap λz=>((f z).map λb=>(z.1,b)).toList).map ck:=by
 refine⟨λi=>((M.take i).flatMap λz=>((f z).map λb=>(z.1,b)).toList).map ck,rfl,λi=>?_,λi x hx e=>?_,λi x hx b e=>?_,?_⟩
 ·show(RU ck _).length<=41;rw [QO];refine Rj (uk (λz=>Ad _) _) ?_;rw [RA];omega
 ·show RU ck _=RU ck _;rw [RL,hx,Uz];simp [e]
 ·show RU ck _=RU ck _++_;rw [RL,hx,Uz,Rf];simp [e,ck]
 ·show RU ck _=_;rw [Rl (QQ _)]
theorem um{r:Rp}{n:Int}{L:List (Str×Pt)}(h:iU L):iU (ju r n L):=by
 unfold ju;split
 ·exact⟨Yh,Yh⟩
 ·exact⟨Rj (RB _ _) h.1,λz hz=>h.2 z (RH.mp hz).1⟩
def pW(C:Yl)(r:Rp)(L:List (Str×Pt))(n:Int)(g:Gn)(ms:List Str)(a:List Yi)(δ:Dl):Prop:=∃(o6 o7 o8:Option Sl),δ=[some (Sl.v (Rp.enc C r)),some (Sl.v (Ry (RU cX L))),some (Sl.v (Rq n)),some (Sl.v g.enc),some (Sl.v (SK (ms.map λm=>QU m))),some (Sl.o a),o6,o7,o8]
def F_a(C:Yl):List Yi->(Yi->Prop)->Prop:=λds Q=>∃(r:Rp)(L:List (Str×Pt))(n:Int)(g:Gn),ds=[r.enc C,.tuple (L.map cX),.int n,g.enc]/\gP r/\iU L/\Q (.tuple ((ic r n g L).map ck))
theorem NR(T:Txt K mg t):aA P w K mg base CX0 7 t.a_a t.d_a ["paper","rules","day","gone"] (aV K (F_a t.u_Paper)):=by
 have G_Z:=@E6 P w _ _ base _ T;have G_Y:=@E8 P w _ _ base _ T;have G_X:=@EZ P w _ _ base _ T;refine T.F_a.F.okD pH (λds Q h=>?_) (λ_ _ _ _ H O ds Q E hr h=>?_)
 ·obtain⟨r,L,n,g,rfl,_⟩:=h;rfl
 ·obtain⟨r,L,n,g,rfl,hr',hL,q⟩:=h;refine'⟨_,?A,?B⟩
  case A=>
   refine' ao ?C ?D
   case C=>exact(hW (i:=4) pH.nd rfl Yg (mZ rfl E3 (df (cc (C:=t.u_Paper) T.cl_Paper T.na_Paper_makers (dv 0))) aL bM Yc (λ_ _ _ _=>(aK (i:=0) E3.nd rfl Yg)) (λ_ _ _ _=>(cZ (oY (jc (PE.imp (aE G_Z (hr.mono Yc) rfl T.F_Z (aa (dv 1) (aa (dv 0) (aa (dv 2) aj)))) aN))))) (λ_ _ _ _=>(dv 0))))
   case' D=>refine' ao ?E ?F
   case E=>exact(iC (i:=5) pH.nd rfl Yg (bW aj))
   case' F=>refine' ao ?G ?H
   case G=>
    refine' nV RM rfl (PE.imp (aE G_Y (hr.mono Yc) rfl T.F_Y (aa (dv 0) (aa (dv 1) (aa (dv 2) aj)))) aN) ?I (gG (b5 aL (b5 aL gF))) ?J
    case I=>exact(gm (n:=2) rfl (bZ (aK (i:=6) pH.nd rfl Yg) (bZ (aK (i:=7) pH.nd rfl Yg) gj)))
    case' J=>refine' ao ?K ?L
    case K=>
     refine' bJ ?M ?N bI
     case M=>exact(aQ (cz hr) cA (df (ak aG aM (df (dv 7)) (df af))) (df aX) (aF _))
     case' N=>refine' ao ?O ?P
     case O=>exact(bf (i:=8) pH.nd rfl Yg (PE.imp (aE G_X (hr.mono Yc) rfl T.F_X (aa (dv 0) (aa (dv 7) (aa (dv 2) aj)))) aN))
     case' P=>refine' aw ?Q
     case' Q=>refine' bJ ?R ?S bI
     case R=>exact(PW.pt (sC (aQ qp qL (df (dv 8)) (df gB) (aF _)) (sA (aQ jE di (df (dv 8)) (df (dv 2)) (aF _)))))
     case' S=>refine' aw ?T
     case T=>exact(lR (i:=5) (pv 5) (bH (aa (dv 6) (aa (dv 8) aj))))
    case' L=>refine' aw ?U
    case' U=>refine' bJ ?V ?W bI
    case V=>exact(PW.pt (fB (aQ (cz hr) cA (df (ak aG aM (df (dv 7)) (df af))) (df aX) (aF _)) (fA (tf (dv 4)))))
    case' W=>refine' aw ?X
    case' X=>refine' lR (i:=5) (pv 5) ?Y
    case Y=>exact(bH (aa (dv 6) (aa (ak aP aS (df (dv 4)) (df af)) aj)))
   case' H=>refine' aw ?Z
   case Z=>exact(aR (PE.imp (cT fN rfl T.n_tuple fP (bj (dw 5) br)) (bz fS)))
  case B=>
  clear hr T G_Z G_Y G_X;walk_at "d";refine⟨[QM "name",QM "coming",QM "kind",QM "makers",QM "happenings"],_,rfl,_,E7,_,rfl,by rw [QO];have:=hr'.2.2.1;omega,cW (λm=>!g.has n m) (λm=>.str m) (λx hx R S h=>?_) ?_⟩
  ·walk_at "d";exact⟨g,x,n,rfl,by simpa using h⟩
  ·refine⟨r,L,n,rfl,hr',hL,?_⟩;have ok:=um (r:=r) (n:=n) hL;walk_at "d";have q:Q (.tuple (((ju r n L).flatMap (Ab r n g)).map ck)):=q;generalize hM:ju r n L=M at ok q⊢;obtain⟨acc,a0,al,an,as,ae⟩:=E9 (f:=λz:Str×Pt=>pU r n g z.2) M ok.1;generalize hE:fz.mk _ _ _ _=EE;have eN:=congrArg fz.nx hE;simp only at eN;clear hE;refine⟨λi=>pW t.u_Paper r L n g (lF r n g) (acc i),⟨none,none,none,by rw [a0];rfl⟩,?_,?_⟩
   ·rintro i z δ hz ⟨o6,o7,o8,rfl⟩;rw [Q1] at hz;cases hz':M[i]? with
    | none=>rw [hz'] at hz;cases hz
    | some x=>
     rw [hz'] at hz;cases hz;have xo:=ok.2 x (Rm hz');have tl:=al i;have none_:=an i x hz';have some_:=as i x hz';obtain⟨nm,pt⟩:=x;simp only [cX];have fin:∀a(o6 o7 o8:Option Sl),acc (i+1)=a->pW t.u_Paper r L n g (lF r n g) (acc (i+1)) [some (Sl.v (Rp.enc t.u_Paper r)),some (Sl.v (Ry (RU cX L))),some (Sl.v (Rq n)),some (Sl.v g.enc),some (Sl.v (SK ((lF r n g).map λm=>QU m))),some (Sl.o a),o6,o7,o8]:=λa o6 o7 o8 e=>⟨o6,o7,o8,by rw [e]⟩;generalize pW t.u_Paper r L n g (lF r n g) (acc (i+1))=NX at fin⊢;clear eN;cases pt with
     | two w2 kd=>
      have k1:w2≠QM "keep":=λe=>xo.1 (.inl e);simp only [Pt.enc];walk_at "d";rw [bR k1,Ye QV];by_cases hw:w2=QM "while"
      ·subst hw;rw [Yf (beq_self_eq_true _)];cases hl:lF r n g with
       | nil=>
        rw [hl] at fin;rw [Ye Yh];exact fin _ _ _ _ (none_ (by show(if QM "while"=QM "while" then(lF r n g).head?.map QU else none)=none;rw [Yf rfl,hl];rfl))
       | cons m l=>
        rw [hl] at fin;rw [Yf (by rfl)];exact⟨_,dH,Yd,fin _ _ _ _ (some_ (.str m) (by show(if QM "while"=QM "while" then(lF r n g).head?.map QU else none)=some _;rw [Yf rfl,hl];rfl))⟩
      ·rw [bR hw,Ye QV];exact fin _ _ _ _ (none_ (by show(if w2=QM "while" then(lF r n g).head?.map QU else none)=none;rw [Ye hw]))
     | five w2 kd si k u=>
      have k1:w2≠QM "while":=λe=>by rcases xo.1 with z | z <;> rw [z] at e <;> exact absurd e Yb
      simp only [Pt.enc];walk_at "d";by_cases hw:w2=QM "keep"
      ·subst hw;rw [Yf (beq_self_eq_true _)];refine⟨r,QM "keep",kd,si,k,u,n,rfl,xo.2.2.1,xo.2.2.2.2.2,hr',?_⟩;have df:pU r n g (.five (QM "keep") kd si k u)=if QM "keep"=QM "keep"/\pT n (fJ r n (.five (QM "keep") kd si k u))=true then some (bY (fJ r n (.five (QM "keep") kd si k u))) else none:=rfl
       cases hd:fJ r n (.five (QM "keep") kd si k u) with
       | none=>
        rw [hd] at df;simp only [bY,eM];walk_at "d";refine⟨Yd,?_⟩;rw [bR (show QM "keep"≠QM "while" by decide+kernel),Ye QV];exact fin _ _ _ _ (some_ .none (by rw [df,Yf ⟨rfl,rfl⟩];rfl))
       | some d=>
        rw [hd] at df;simp only [bY,eM];walk_at "d";by_cases hdn:n < d
        ·rw [Yf hdn];refine⟨Yd,?_⟩;rw [bR (show QM "keep"≠QM "while" by decide+kernel),Ye QV];exact fin _ _ _ _ (some_ (.int d) (by rw [df,Yf ⟨rfl,decide_eq_true hdn⟩];rfl))
        ·rw [Ye hdn];rw [bR (show QM "keep"≠QM "while" by decide+kernel),Ye QV];exact fin _ _ _ _ (none_ (by rw [df,Ye λz=>hdn (of_decide_eq_true z.2)]))
      ·rw [bR hw,Ye QV,bR k1,Ye QV];exact fin _ _ _ _ (none_ (by show(if w2=QM "keep"/\pT n (fJ r n (.five w2 kd si k u))=true then some (bY (fJ r n (.five w2 kd si k u))) else none)=none;rw [Ye λz=>hw z.1]))
   ·rintro δ ⟨o6,o7,o8,rfl⟩;rw [<-eN,QO,ae];walk_at "d";exact q
def F_b(C:Yl):List Yi->(Yi->Prop)->Prop:=λds Q=>∃(r:Rp)(L:List (Str×Pt))(n:Int)(g:Gn),ds=[r.enc C,.tuple (L.map cX),.int n,g.enc]/\gP r/\iU L/\Q (.tuple ((lH r n g L).map ck))
theorem NS(T:Txt K mg t):aA P w K mg base CX0 7 t.a_b t.d_b ["paper","rules","day","gone"] (aV K (F_b t.u_Paper)):=by
 have G_Z:=@E6 P w _ _ base _ T;have G_Y:=@E8 P w _ _ base _ T;have G_X:=@EZ P w _ _ base _ T;refine T.F_b.F.okD pI (λds Q h=>?_) (λ_ _ _ _ H O ds Q E hr h=>?_)
 ·obtain⟨r,L,n,g,rfl,_⟩:=h;rfl
 ·obtain⟨r,L,n,g,rfl,hr',hL,q⟩:=h;refine'⟨_,?A,?B⟩
  case A=>
   refine' ao ?C ?D
   case C=>exact(hW (i:=4) pI.nd rfl Yg (mZ rfl E4 (df (cc (C:=t.u_Paper) T.cl_Paper T.na_Paper_makers (dv 0))) aL bM Yc (λ_ _ _ _=>(aK (i:=0) E4.nd rfl Yg)) (λ_ _ _ _=>(cZ (jc (PE.imp (aE G_Z (hr.mono Yc) rfl T.F_Z (aa (dv 1) (aa (dv 0) (aa (dv 2) aj)))) aN)))) (λ_ _ _ _=>(dv 0))))
   case' D=>refine' ao ?E ?F
   case E=>exact(iC (i:=5) pI.nd rfl Yg (bW aj))
   case' F=>refine' ao ?G ?H
   case G=>
    refine' nV RM rfl (PE.imp (aE G_Y (hr.mono Yc) rfl T.F_Y (aa (dv 0) (aa (dv 1) (aa (dv 2) aj)))) aN) ?I (gG (b5 aL (b5 aL gF))) ?J
    case I=>exact(gm (n:=2) rfl (bZ (aK (i:=6) pI.nd rfl Yg) (bZ (aK (i:=7) pI.nd rfl Yg) gj)))
    case' J=>refine' ao ?K ?L
    case K=>
     refine' bJ ?M ?N bI
     case M=>exact(aQ (cz hr) cA (df (ak aG aM (df (dv 7)) (df af))) (df aX) (aF _))
     case' N=>refine' ao ?O ?P
     case O=>exact(bf (i:=8) pI.nd rfl Yg (PE.imp (aE G_X (hr.mono Yc) rfl T.F_X (aa (dv 0) (aa (dv 7) (aa (dv 2) aj)))) aN))
     case' P=>refine' aw ?Q
     case' Q=>refine' bJ ?R ?S bI
     case R=>exact(PW.pt (fB (aQ Be Cw (df (dv 8)) (df gB) (aF _)) (fA (aQ lP di (df (dv 8)) (df (dv 2)) (aF _)))))
     case' S=>refine' aw ?T
     case T=>exact(lR (i:=5) (pv 5) (bH (aa (dv 6) (aa (dv 8) aj))))
    case' L=>refine' aw ?U
    case' U=>refine' bJ ?V ?W bI
    case V=>exact(PW.pt (fB (aQ (cz hr) cA (df (ak aG aM (df (dv 7)) (df af))) (df aX) (aF _)) (fA (tf (dv 4)))))
    case' W=>refine' aw ?X
    case' X=>refine' lR (i:=5) (pv 5) ?Y
    case Y=>exact(bH (aa (dv 6) (aa (ak aP aS (df (dv 4)) (df af)) aj)))
   case' H=>refine' aw ?Z
   case Z=>exact(aR (PE.imp (cT fN rfl T.n_tuple fP (bj (dw 5) br)) (bz fS)))
  case B=>
  clear hr T G_Z G_Y G_X;walk_at "d";refine⟨[QM "name",QM "coming",QM "kind",QM "makers",QM "happenings"],_,rfl,_,E7,_,rfl,by rw [QO];have:=hr'.2.2.1;omega,cW (λm=>g.has n m) (λm=>.str m) (λx hx R S h=>?_) ?_⟩
  ·walk_at "d";exact⟨g,x,n,rfl,by simpa using h⟩
  ·refine⟨r,L,n,rfl,hr',hL,?_⟩;have ok:=um (r:=r) (n:=n) hL;walk_at "d";have q:Q (.tuple (((ju r n L).flatMap (Ac r n g)).map ck)):=q;generalize hM:ju r n L=M at ok q⊢;obtain⟨acc,a0,al,an,as,ae⟩:=E9 (f:=λz:Str×Pt=>pV r n g z.2) M ok.1;generalize hE:fz.mk _ _ _ _=EE;have eN:=congrArg fz.nx hE;simp only at eN;clear hE;refine⟨λi=>pW t.u_Paper r L n g (lG r n g) (acc i),⟨none,none,none,by rw [a0];rfl⟩,?_,?_⟩
   ·rintro i z δ hz ⟨o6,o7,o8,rfl⟩;rw [Q1] at hz;cases hz':M[i]? with
    | none=>rw [hz'] at hz;cases hz
    | some x=>
     rw [hz'] at hz;cases hz;have xo:=ok.2 x (Rm hz');have tl:=al i;have none_:=an i x hz';have some_:=as i x hz';obtain⟨nm,pt⟩:=x;simp only [cX];have fin:∀a(o6 o7 o8:Option Sl),acc (i+1)=a->pW t.u_Paper r L n g (lG r n g) (acc (i+1)) [some (Sl.v (Rp.enc t.u_Paper r)),some (Sl.v (Ry (RU cX L))),some (Sl.v (Rq n)),some (Sl.v g.enc),some (Sl.v (SK ((lG r n g).map λm=>QU m))),some (Sl.o a),o6,o7,o8]:=λa o6 o7 o8 e=>⟨o6,o7,o8,by rw [e]⟩;generalize pW t.u_Paper r L n g (lG r n g) (acc (i+1))=NX at fin⊢;clear eN;cases pt with
     | two w2 kd=>
      have k1:w2≠QM "gone":=λe=>xo.1 (.inr e);simp only [Pt.enc];walk_at "d";rw [bR k1,Ye QV];by_cases hw:w2=QM "follow"
      ·subst hw;rw [Yf (beq_self_eq_true _)];cases hl:lG r n g with
       | nil=>
        rw [hl] at fin;rw [Ye Yh];exact fin _ _ _ _ (none_ (by show(if QM "follow"=QM "follow" then(lG r n g).head?.map QU else none)=none;rw [Yf rfl,hl];rfl))
       | cons m l=>
        rw [hl] at fin;rw [Yf (by rfl)];exact⟨_,dH,Yd,fin _ _ _ _ (some_ (.str m) (by show(if QM "follow"=QM "follow" then(lG r n g).head?.map QU else none)=some _;rw [Yf rfl,hl];rfl))⟩
      ·rw [bR hw,Ye QV];exact fin _ _ _ _ (none_ (by show(if w2=QM "follow" then(lG r n g).head?.map QU else none)=none;rw [Ye hw]))
     | five w2 kd si k u=>
      have k1:w2≠QM "follow":=λe=>by rcases xo.1 with z | z <;> rw [z] at e <;> exact absurd e Yb
      simp only [Pt.enc];walk_at "d";by_cases hw:w2=QM "gone"
      ·subst hw;rw [Yf (beq_self_eq_true _)];refine⟨r,QM "gone",kd,si,k,u,n,rfl,xo.2.2.1,xo.2.2.2.2.2,hr',?_⟩;have df:pV r n g (.five (QM "gone") kd si k u)=if QM "gone"=QM "gone"/\pT n (fJ r n (.five (QM "gone") kd si k u))=false then some (bY (fJ r n (.five (QM "gone") kd si k u))) else none:=rfl
       cases hd:fJ r n (.five (QM "gone") kd si k u) with
       | none=>
        rw [hd] at df;simp only [bY,eM];walk_at "d";rw [bR (show QM "gone"≠QM "follow" by decide+kernel),Ye QV];exact fin _ _ _ _ (none_ (by rw [df,Ye λz=>Bool.noConfusion (show true=false from z.2)]))
       | some d=>
        rw [hd] at df;simp only [bY,eM];walk_at "d";by_cases hdn:d<=n
        ·rw [Yf hdn];refine⟨Yd,?_⟩;rw [bR (show QM "gone"≠QM "follow" by decide+kernel),Ye QV];exact fin _ _ _ _ (some_ (.int d) (by rw [df,Yf ⟨rfl,decide_eq_false Yd⟩];rfl))
        ·rw [Ye hdn];rw [bR (show QM "gone"≠QM "follow" by decide+kernel),Ye QV];exact fin _ _ _ _ (none_ (by rw [df,Ye λz=>hdn (by have:=of_decide_eq_false z.2;omega)]))
      ·rw [bR hw,Ye QV,bR k1,Ye QV];exact fin _ _ _ _ (none_ (by show(if w2=QM "gone"/\pT n (fJ r n (.five w2 kd si k u))=false then some (bY (fJ r n (.five w2 kd si k u))) else none)=none;rw [Ye λz=>hw z.1]))
   ·rintro δ ⟨o6,o7,o8,rfl⟩;rw [<-eN,QO,ae];walk_at "d";exact q
def Fb(kd:Str):Pt->Bool
 | .two w k=>w==QM "leave" && k==kd
 | _=>false
def ie(kd:Str)(L:List (Str×Pt)):List Str:=(L.filter λz=>Fb kd z.2).map (·.1)
theorem NT{a b:Str}:(a==b)=decide (a=b):=by
 by_cases h:a=b
 ·simp [h]
 ·rw [bR h,decide_eq_false h]
def NU:List Yi->(Yi->Prop)->Prop:=λds Q=>∃(kd:Str)(L:List (Str×Pt)),ds=[.str kd,.tuple (L.map cX)]/\QT kd=true/\iU L/\Q (.list ((ie kd L).map .str))
theorem NV{w:Str}(h:KG w):QT w=true:=by rcases h with h | h <;> rw [h] <;> decide+kernel
theorem NW{w:Str}(h:oz w):QT w=true:=by rcases h with h | h | h <;> rw [h] <;> decide+kernel
theorem bX.lay{s:bX}(h:s.Ok):bQ 2 s.enc:=by
 cases s with
 | com=>exact fc (bS (fE Yb) fD)
 | fst wd=>exact fc (bS (fE Yb) (bS (fE h) fD))
 | lst wd=>exact fc (bS (fE Yb) (bS (fE h) fD))
theorem Pt.lay{p:Pt}(h:p.Ok):bQ 3 p.enc:=by
 cases p with
 | two w kd=>exact(fc (n:=1) (bS (fE h.2.1) (bS (fE h.2.2) fD))).mono Yc
 | five w kd s k u=>exact fc (bS (fE (NV h.1)) (bS (fE h.2.1) (bS (bX.lay h.2.2.1) (bS Cu (bS (fE (NW h.2.2.2.2.2)) fD)))))
theorem NY(T:Txt K mg t):aA P w K mg base CX0 1 t.a_c t.d_c ["kind","rules"] (aV K NU):=by
 refine T.F_c.F.okD MM (λds Q h=>?_) (λ_ _ _ _ H O ds Q E hr h=>?_)
 ·obtain⟨kd,L,rfl,_⟩:=h;rfl
 ·obtain⟨kd,L,rfl,hk,hL,q⟩:=h;refine'⟨_,?A,?B⟩
  case A=>
   refine' aw ?C
   case' C=>refine' aR ?D
   case' D=>refine' fe ?E
   case E=>exact(jY rfl Aa (df (dv 1)) (gG (b5 aL (b5 aL gF))) vU Yc (λ_ _ _ _=>(gm (n:=2) rfl (bZ (aK (i:=0) Aa.nd rfl Yg) (bZ (aK (i:=1) Aa.nd rfl Yg) gj)))) (λ_ _ _ _=>(cZ (aQ (cD hr.units) cE (df (dv 1)) (df (bH (aa aX (aa (dv 2) aj)))) (aF _)))) (λ_ _ _ _=>(dv 0)))
  case B=>
  clear hr T;walk_at "d";refine⟨by rw [QO];have:=hL.1;omega,cW (λz:Str×Pt=>Fb kd z.2) (λz=>.str z.1) (λx hx R S h=>?_) ?_⟩
  ·have xo:=hL.2 x hx;obtain⟨nm,pt⟩:=x;have ly:=(Pt.lay xo).shp Yc;have ly2:Tq (Ry [QU (QM "leave"),QU kd])=true:=(fc (n:=1) (bS (fE Yb) (bS (fE hk) fD))).shp Yc;simp only [cX];cases pt with
   | two w2 kd2=>
    simp only [Pt.enc] at ly⊢;walk_at "d";refine⟨ly,ly2,?_⟩;have e:(Ry [QU w2,QU kd2]).eqv (Ry [QU (QM "leave"),QU kd])=(w2==QM "leave" && kd2==kd):=by simp [Rg,SV,NT]
    rw [e];exact h
   | five w2 kd2 si k u=>
    simp only [Pt.enc] at ly⊢;walk_at "d";refine⟨ly,ly2,?_⟩;rw [Ye (by simp [Rg,SV])];exact h
  ·unfold ie at q;rw [Rc] at q;exact q
theorem NZ{xs:List De}{n:Int}(g:ia xs)(h:iT xs n (ib xs n))(hl:(ib xs n).length<=41):iU (ib xs n):=by
 refine⟨hl,λz hz=>?_⟩;obtain⟨d,_,hm,_⟩:=(h.2 z).mp hz;obtain⟨pt,e,ok⟩:=g.ru _ _ _ hm;rw [ER (V1 e).1];exact ok
end
theorem Fc:bb (av tT) ["ready","parts","days","paper"] ["base","parts"] 1 [1] ⟨QW,[ (QP ".0",ZX),(QP "base",ZX),(QP "later",Rr),(QP "parts",Q3)],false,false,[]⟩:=⟨rfl,Yb,Yb,Yb,rfl,Yb,Yb,Yb,rfl⟩
theorem Fd:bb (av qS) ["deeds","ready","days","deed"] ["name","deeds"] 1 [0] ⟨QW,[ (QP ".0",ZX),(QP "name",ZX),(QP "Paper",Rr),(QP "deeds",Q3)],false,false,[]⟩:=⟨rfl,Yb,Yb,Yb,rfl,Yb,Yb,Yb,rfl⟩
theorem Fe:bb (av qS) ["deeds","ready","days","deed"] ["deed"] 1 [] ⟨QW,[(QP ".0",ZX),(QP "deed",ZX)],false,false,[]⟩:=⟨rfl,Yb,Yb,Yb,rfl,Yb,Yb,Yb,rfl⟩
section
variable {P:Yu} {w:Yv} {K:QN} {mg:Str->Option Yj} {base:Yw} {t:cg}
def oB(r:Rp):bX->List Int
 | .com=>[r.c.d]
 | .fst wd=>(dW r.hs wd).take 1
 | .lst wd=>dW r.hs wd
theorem Ff{r:Rp}(s:bX):(oB r s).length<=r.hs.length+1:=by
 have fl:∀wd,(dW r.hs wd).length<=r.hs.length:=λwd=>by
  unfold dW;rw [QO];exact RB _ _
 cases s with
 | com=>show 1<=_;omega
 | fst wd=>show((dW r.hs wd).take 1).length<=_;rw [RA];have:=fl wd;omega
 | lst wd=>have:=fl wd;show(dW r.hs wd).length<=_;omega
theorem uo(xs:List Yi):cV xs none (some 1)=xs.take 1:=by
 cases xs with
 | nil=>rfl
 | cons a l=>rw [sI Yc (by simp;omega)];rfl
def F_d(C:Yl):List Yi->(Yi->Prop)->Prop:=λds Q=>∃(s:bX)(r:Rp),ds=[s.enc,r.enc C]/\s.Ok/\qV r.hs/\Q (.list ((oB r s).map .int))
theorem N0(T:Txt K mg t):aA P w K mg base CX0 2 t.a_d t.d_d ["since","paper"] (aV K (F_d t.u_Paper)):=by
 have G_V:=@EJ P w _ _ base _ T;refine T.F_d.F.okD D4 (λds Q h=>?_) (λ_ _ _ _ H O ds Q E hr h=>?_)
 ·obtain⟨s,r,rfl,_⟩:=h;rfl
 ·obtain⟨si,r,rfl,hsi,hh,q⟩:=h;refine'⟨_,?A,?B⟩
  case A=>
   refine' ao ?C ?D
   case C=>
    refine' bJ ?E ?F bI
    case E=>exact(aQ (cz hr) cA (df (ak aG aM (df (dv 0)) (df af))) (df aX) (aF _))
    case' F=>refine' aw ?G
    case G=>exact(aR (fe (bW (aa (cc (C:=t.u_Paper) T.cl_Paper T.na_Paper_coming (dv 1)) aj))))
   case' D=>refine' ao ?H ?I
   case H=>exact(bf (i:=2) D4.nd rfl Yg (PE.imp (aE G_V (hr.mono Yc) rfl T.F_V (aa (dv 1) (aa (ak aG aM (df (dv 0)) (df af)) aj))) aN))
   case' I=>refine' aw ?J
   case' J=>refine' aR ?K
   case K=>exact(qA (aQ (cz hr) cA (df (ak aG aM (df (dv 0)) (df af))) (df aX) (aF _)) (fe (iG (df (dv 2)) hU (cq af))) (dv 2))
  case B=>
  clear hr T G_V;cases si with
  | com=>
   simp only [bX.enc];walk_at "d";exact⟨[QM "name",QM "coming",QM "kind",QM "makers",QM "happenings"],_,rfl,_,uh,q⟩
  | fst wd=>
   simp only [bX.enc];walk_at "d";rw [bR (show QM "first"≠QM "coming" by decide+kernel),Ye QV];refine⟨r,wd,rfl,hh,hsi,_,rfl,?_⟩;rw [uo,<-TU];exact q
  | lst wd=>
   simp only [bX.enc];walk_at "d";rw [bR (show QM "last"≠QM "coming" by decide+kernel),Ye QV];refine⟨r,wd,rfl,hh,hsi,?_⟩;show if (QM "last"==QM "first")=true then _ else _
   rw [bR (show QM "last"≠QM "first" by decide+kernel),Ye QV];exact q
def ig(rs:List Rp)(kd:Str)(s:bX)(k:Int)(u:Str):List Int:=rs.flatMap λr=>if (r.c.kd==kd)=true then(oB r s).map λb=>jt b k u else []
theorem N1{m:Nat}{rs:List Rp}(h:∀r∈rs,r.hs.length<=m)(kd:Str)(s:bX)(k:Int)(u:Str):(ig rs kd s k u).length<=(m+1)*rs.length:=by
 unfold ig
 induction rs with
 | nil=>simp
 | cons r rs ih=>
  have ih:=ih λx hx=>h x (by simp [hx]);have hb:=Ff (r:=r) s;have h1:=h r Yh;rw [V9,Q2,Q0,XZ];split
  ·rw [QO];omega
  ·simp only [RJ];omega
def N2(C:Yl):List Yi->(Yi->Prop)->Prop:=λds Q=>∃(rs:List Rp)(w kd:Str)(s:bX)(k:Int)(u:Str),ds=[.list (rs.map (Rp.enc C)),(Pt.five w kd s k u).enc]/\(Pt.five w kd s k u).Ok/\rs.length<=41/\(∀r∈rs,qV r.hs/\QT r.c.kd=true)/\Q (.list ((ig rs kd s k u).map .int))
theorem N3(T:Txt K mg t):aA P w K mg base CX0 6 t.a_e t.d_e ["ready","parts"] (aV K (N2 t.u_Paper)):=by
 have G_d:=@N0 P w _ _ base _ T;have G_H:=@Eo P w _ _ base _ T;refine T.F_e.F.okD xM (λds Q h=>?_) (λ_ _ _ _ H O ds Q E hr h=>?_)
 ·obtain⟨rs,w,kd,s,k,u,rfl,_⟩:=h;rfl
 ·obtain⟨rs,wo,kd,si,k,u,rfl,ok,rl,hr',q⟩:=h;refine'⟨_,?A,?B⟩
  case A=>
   refine' ao ?C ?D
   case C=>exact(iC (i:=2) xM.nd rfl Yg (bW aj))
   case' D=>refine' ao ?E ?F
   case E=>
    refine' nV RM rfl (dv 0) ?G aL ?H
    case G=>exact(aK (i:=3) xM.nd rfl Yg)
    case' H=>refine' aw ?I
    case' I=>refine' bJ ?J ?K bI
    case J=>exact(aQ (cD hr.units) cE (df (cc (C:=t.u_Paper) T.cl_Paper T.na_Paper_kind (dv 3))) (df (ak aG aM (df (dv 1)) (df af))) (aF _))
    case' K=>refine' aw ?L
    case L=>exact(sT (i:=2) (pv 2) (eD rfl Fc (df (PE.imp (aE G_d (hr.mono Yc) rfl T.F_d (aa (ak aG aM (df (dv 1)) (df af)) (aa (dv 3) aj))) aN)) aL bM Yc (λ_ _ _ _=>(aK (i:=0) Fc.nd rfl Yg)) (λ_ _ _ _=>dj) (λ_ _ _ _=>(PE.imp (aE G_H (hr.mono Yc) rfl T.F_H (aa (dv 0) (aa (ak aG aM (df (dv 1)) (df af)) (aa (ak aG aM (df (dv 1)) (df af)) aj)))) aN))))
   case' F=>refine' aw ?M
   case M=>exact(qB (pv 2))
  case B=>
  clear hr T G_d G_H;walk_at "d";refine⟨λi δ=>∃o3,δ=[some (Sl.v (.list (rs.map (Rp.enc t.u_Paper)))),some (Sl.v (Pt.five wo kd si k u).enc),some (Sl.o ((ig (rs.take i) kd si k u).map .int)),o3],⟨_,rfl⟩,?_,?_⟩
  ·rintro i z δ hz ⟨o3,rfl⟩;rw [Q1] at hz;cases hz':rs[i]? with
   | none=>rw [hz'] at hz;cases hz
   | some r=>
    rw [hz'] at hz;cases hz;obtain⟨h1,h2⟩:=hr' r (Rm hz');have bl:=Ff (r:=r) si;have h11:=h1.1;have il:(rs.take i).length<=41:=by rw [RA];omega
    have rk:=N1 (m:=41) (rs:=rs.take i) (λx hx=>(hr' x (Us hx)).1.1) kd si k u;have rk2:(41+1)*(rs.take i).length<=42*41:=WW _ il;simp only [Pt.enc];walk_at "d";refine⟨[QM "name",QM "coming",QM "kind",QM "makers",QM "happenings"],_,rfl,_,ui,cK.mpr h2,cK.mpr ok.2.1,?_⟩;rw [dP];have ts:ig (rs.take (i+1)) kd si k u=ig (rs.take i) kd si k u++if (r.c.kd==kd)=true then(oB r si).map λb=>jt b k u else []:=by
     unfold ig;rw [RL,hz',Uz];simp
    split
    ·rename_i hk;rw [Yf hk] at ts;refine⟨si,r,rfl,ok.2.2.1,h1,_,rfl,by rw [QO];omega,iQ (λ_=>true) (λb=>.int (jt b k u)) (λb hb R S z1 _=>?_) ?_⟩
     ·walk_at "d";exact⟨b,k,u,rfl,ok.2.2.2.2.2,λx hx=>by rw [EY hx];exact z1 rfl⟩
     ·rw [fI];refine⟨by rw [QO,QO];omega,?_,_,rfl⟩;rw [ts,Rf,Rc];rfl
    ·rename_i hk;rw [Ye hk,RF] at ts;rw [ts];exact⟨rfl,_,rfl⟩
  ·rintro δ ⟨o3,rfl⟩;walk_at "d";rw [QO,Rl (QQ _)];exact q
def cM(xs:List De):List Rp:=(bu (aC xs)).map (eT xs)
def oC(x:De)(p:Str×bX×Int×Str):Prop:=∃d nm w,x= .oth (QM "rule") d nm [(Pt.five w p.1 p.2.1 p.2.2.1 p.2.2.2).enc]
theorem oC.uniq{x:De}{p q:Str×bX×Int×Str}(h:oC x p)(h':oC x q):p=q:=by
 obtain⟨d,nm,w,e⟩:=h;obtain⟨d',nm',w',e'⟩:=h';rw [e] at e';obtain⟨kd,s,k,u⟩:=p;obtain⟨kd',s',k',u'⟩:=q;simp only [De.oth.injEq,Pt.enc,RG,R7,R8,R3,and_true,true_and] at e';obtain⟨_,_,_,h1,h2,h3,h4⟩:=e';rw [h1,EO h2,h3,h4]
open Classical in
def cm(xs:List De)(x:De):List Int:=if h:∃p,oC x p then ig (cM xs) h.choose.1 h.choose.2.1 h.choose.2.2.1 h.choose.2.2.2 else []
theorem N4{xs:List De}{x:De}{p:Str×bX×Int×Str}(h:oC x p):cm xs x=ig (cM xs) p.1 p.2.1 p.2.2.1 p.2.2.2:=by
 have e:∃p,oC x p:=⟨p,h⟩;unfold cm;rw [dif_pos e,h.uniq e.choose_spec]
theorem Fg{xs:List De}{x:De}(h:∀p,¬oC x p):cm xs x=[]:=by
 unfold cm;rw [dif_neg λuu76=>by obtain⟨p,z⟩:=uu76;exact h p z]
theorem Fh(xs:List De)(d:Int)(nm w2 kd:Str)(s:bX)(k:Int)(u:Str):cm xs (.oth (QM "rule") d nm [(Pt.five w2 kd s k u).enc])=ig (cM xs) kd s k u:=N4 (p:=(kd,s,k,u)) ⟨d,nm,w2,rfl⟩
theorem Fi(xs:List De)(d:Int)(nm wo w2 kd:Str):cm xs (.oth wo d nm [(Pt.two w2 kd).enc])=[]:=Fg λp uu77=>by obtain⟨_,_,_,e⟩:=uu77;simp [Pt.enc] at e
theorem Ae{xs:List De}{x:De}(h:x.isR=false):cm xs x=[]:=Fg λp uu78=>by obtain⟨_,_,_,e⟩:=uu78;rw [e] at h;simp [De.isR] at h
def gQ(xs:List De):List Int:=xs.map De.d++xs.flatMap (cm xs)
def jv(xs:List De)(ns:List Int):Prop:=(∀z,z∈ns↔z∈gQ xs)/\ns.Pairwise (· < ·)
theorem N5{l m:List Int}(h1:l.Pairwise (· < ·))(h2:m.Pairwise (· < ·))(h:∀z,z∈l↔z∈m):l=m:=
 nI (λa b z=>by omega) ((U0 (h1.imp λz e=>by omega) (h2.imp λz e=>by omega)).mpr h) h1 h2
open Classical in
def eU(xs:List De):List Int:=if h:∃ns,jv xs ns then h.choose else []
theorem Af{xs:List De}{ns:List Int}(h:jv xs ns):ns=eU xs:=by
 unfold eU;have e:∃ns,jv xs ns:=⟨ns,h⟩;rw [dif_pos e];exact N5 h.2 e.choose_spec.2 λz=>(h.1 z).trans (e.choose_spec.1 z).symm
structure oE (xs:List De):Prop where
 ln:(gQ xs).length < 4000
 fw:∃L:List Int,L.length < 64/\∀z∈gQ xs,z∈L
theorem Fj{l L:List Int}(nd:l.Nodup)(hm:∀z∈l,z∈L):l.length<=L.length:=by
 induction l generalizing L with
 | nil=>simp
 | cons a l ih=>
  rw [Sq] at nd;obtain⟨p,q,e⟩:=Xc (hm a Yh);have:=ih (L:=p++q) nd.2 λb hb=>by
   have hb':=hm b (by simp [hb]);rw [e] at hb';rcases Q9.mp hb' with z | z
   ·exact UX _ z
   ·rcases QX.mp z with z | z
    ·exact absurd (by rw [<-z];exact hb) nd.1
    ·exact RR _ z
  rw [e,Q2,Q0,Q0];rw [Q2] at this;omega
theorem N6{xs:List De}(g:ia xs)(h:∀c∈aC xs,gP (eT xs c)):∀r∈cM xs,qV r.hs/\QT r.c.kd=true:=λr hr=>by
 obtain⟨c,hc,rfl⟩:=Q5.mp hr;have hc:=iN.mp hc;exact⟨(h c hc).1,g.gx.gp.kd c hc⟩
theorem N7{xs:List De}{i:Nat}{x:De}(h:xs[i]?=some x):(xs.map De.d++(xs.take (i+1)).flatMap (cm xs))=(xs.map De.d++(xs.take i).flatMap (cm xs))++cm xs x:=by
 rw [RL,h,Uz,<-UO];simp
def N8:List Yi->(Yi->Prop)->Prop:=λds Q=>∃xs:List De,ds=[.tuple (xs.map De.enc)]/\ia xs/\((∀c∈aC xs,gP (eT xs c))->oE xs)/\(jv xs (eU xs)->(eU xs).length < 64->Q (.tuple ((eU xs).map .int)))
theorem Fl(T:Txt K mg t):aA P w K mg base CX0 9 t.a_f t.d_f ["deeds"] (aV K N8):=by
 have G_I:=@EI P w _ _ base _ T;have G_M:=@y9 P w _ _ base _ T;have G_e:=@N3 P w _ _ base _ T;refine T.F_f.F.okD ub (λds Q h=>?_) (λ_ _ _ _ H O ds Q E hr h=>?_)
 ·obtain⟨xs,rfl,_⟩:=h;rfl
 ·obtain⟨xs,rfl,gd,few,q⟩:=h;refine'⟨_,?A,?B⟩
  case A=>
   refine' ao ?C ?D
   case C=>exact(hW (i:=1) ub.nd rfl Yg (mZ rfl Fd (df (PE.imp (aE G_M (hr.mono Yc) rfl T.F_M (aa (dv 0) aj)) aN)) aL bM Yc (λ_ _ _ _=>(aK (i:=0) Fd.nd rfl Yg)) (λ_ _ _ _=>dj) (λ_ _ _ _=>(PE.imp (rS T.mk_Paper G_I (hr.mono Yc) rfl T.c_Paper T.F_I.b .nil ft (aa (dv 1) (aa (dv 0) aj))) vV))))
   case' D=>refine' ao ?E ?F
   case E=>exact(Dp (i:=2) ub.nd rfl Yg (mZ rfl Fe (df (dv 0)) aL bM Yc (λ_ _ _ _=>(aK (i:=0) Fe.nd rfl Yg)) (λ_ _ _ _=>dj) (λ_ _ _ _=>(ak aG aM (df (dv 0)) (df af)))))
   case' F=>refine' ao ?G ?H
   case G=>
    refine' pe RM rfl (dv 0) ?I aL ?J
    case I=>exact(aK (i:=3) ub.nd rfl Yg)
    case' J=>refine' aw ?K
    case' K=>refine' bJ ?L ?M bI
    case L=>exact(PW.pt (fB (aQ (cz hr) cA (df (ak aG aM (df (dv 3)) (df af))) (df aX) (aF _)) (fA (aQ (n9 hr) oe (df (ak aG aM (df (ak aG aM (df (dv 3)) (df af))) (df af))) (df (bH (aa aX (aa aX aj)))) rfl))))
    case' M=>refine' aw ?N
    case N=>exact(wb (i:=2) (pv 2) (PE.imp (aE G_e (hr.mono Yc) rfl T.F_e (aa (dv 1) (aa (ak aG aM (df (dv 3)) (df af)) aj))) aN))
   case' H=>refine' aw ?O
   case O=>exact(aR (PE.imp (cT fN rfl T.n_tuple fP (bj (df (fe (LJ rfl rfl T.n_sorted Tc rfl T.n_set (bj (dw 2) br)))) br)) (bz fS)))
  case B=>
  clear hr T G_I G_M G_e;walk_at "d";have ln:=gd.gx.ln;have ol:=iO (ps:=aC xs);have pl:=gd.gx.gp.ln;refine⟨xs,rfl,gd.gx,_,rfl,by rw [QO,QO];omega,?_⟩;refine⟨λi acc=>acc=((bu (aC xs)).take i).map (λc=>(eT xs c).enc t.u_Paper)/\∀c∈(bu (aC xs)).take i,gP (eT xs c),⟨rfl,Yh⟩,?_,?_⟩
  ·rintro i z acc hz ⟨rfl,hh⟩;rw [Q1,Q1] at hz;cases hz':(bu (aC xs))[i]? with
   | none=>rw [hz'] at hz;cases hz
   | some c=>
    rw [hz'] at hz;cases hz;walk_at "d";have hc:=iN.mp (Rm hz');refine⟨xs,c,rfl,gd,hc,λh1 h2 h3=>⟨?_,λc' hc'=>?_⟩⟩
    ·rw [RL,hz',Rf];rfl
    ·rw [RL,hz'] at hc';rcases Q9.mp hc' with y | y
     ·exact hh c' y
     ·have y:c'=c:=by simpa using y
      rw [y];exact E1 gd hc h1 h3
  ·rintro acc ⟨rfl,hh⟩;simp only [QO,Xx] at hh⊢;have hh:∀c∈aC xs,gP (eT xs c):=λc hc=>hh c (iN.mpr hc);obtain⟨f1,L,f2,f3⟩:=few hh;have hok:=N6 gd hh;have re:(bu (aC xs)).map (λc=>(eT xs c).enc t.u_Paper)=(cM xs).map (Rp.enc t.u_Paper):=by unfold cM;rw [Rc];rfl
   have rl:(cM xs).length<=41:=by unfold cM;rw [QO];omega
   rw [re];refine⟨Yd,iQ (λ_=>true) (λx:De=>.int x.d) (λx hx R S h1 _=>?_) ?_⟩
   ·cases x <;> simp only [De.enc,Pp.enc] <;> walk_at "d" <;> exact h1 rfl
   ·rw [fI];have bnd:∀i,(xs.map De.d++(xs.take i).flatMap (cm xs)).length<=(gQ xs).length:=λi=>by
     unfold gQ;rw [Q2,Q2];have:((xs.take i).flatMap (cm xs)).length<=(xs.flatMap (cm xs)).length:=by
      have e:xs.flatMap (cm xs)=(xs.take i).flatMap (cm xs)++(xs.drop i).flatMap (cm xs):=by rw [<-Uz,Tz]
      rw [e,Q2];omega
     omega
    refine⟨λi δ=>∃(o3:Option Sl),δ=[some (Sl.v (.tuple (xs.map De.enc))),some (Sl.v (.list ((cM xs).map (Rp.enc t.u_Paper)))),some (Sl.o ((xs.map De.d++(xs.take i).flatMap (cm xs)).map .int)),o3],⟨none,Yh⟩,?_,?_⟩
    ·rintro i z δ hz ⟨o3,rfl⟩;rw [Q1] at hz;cases hz':xs[i]? with
     | none=>rw [hz'] at hz;cases hz
     | some x=>
      rw [hz'] at hz;cases hz;have hx:=Rm hz';have ts:=N7 hz';have bd:=bnd i;have bd2:=bnd (i+1);rw [ts] at bd2;simp only [ts];generalize xs.map De.d++(xs.take i).flatMap (cm xs)=L0 at bd bd2⊢;cases x with
      | pap p=>
       simp only [De.enc,Pp.enc];walk_at "d";exact⟨by rw [Ae rfl,RF],_,rfl⟩
      | oth wo d nm r=>
       simp only [De.enc];walk_at "d";by_cases hw:wo=QM "rule"
       ·subst hw;obtain⟨pt,rfl,ok⟩:=gd.ru _ _ _ hx;rw [Yf (beq_self_eq_true _)];cases pt with
        | two w2 kd=>
         refine⟨_,fC,_,rfl,_,dH,rfl,?_⟩;rw [dP,dP,bR (λe=>ok.1 (.inl e.symm)),bR (λe=>ok.1 (.inr e.symm)),Ye Yc];exact⟨by rw [Fi,RF],_,rfl⟩
        | five w2 kd s k u=>
         refine⟨_,fC,_,rfl,_,dH,rfl,?_⟩;have hk:((QU (QM "keep")).eqv (QU w2) || (QU (QM "gone")).eqv (QU w2))=true:=by
          rw [dP,dP];rcases ok.1 with e | e <;> rw [e] <;> decide+kernel
         rw [Yf hk];rw [Fh] at bd2⊢;rw [Q2] at bd2;exact⟨_,fC,cM xs,w2,kd,s,k,u,rfl,ok,rl,hok,_,rfl,by rw [QO,QO];omega,by rw [Rf],_,rfl⟩
       ·rw [Ye (by simpa using hw)];have:cm xs (.oth wo d nm r)=[]:=Ae (bR hw);rw [this,RF];exact⟨rfl,_,rfl⟩
    ·rintro δ ⟨o3,rfl⟩;rw [QO,Rl (QQ _)];have tl:xs.map De.d++xs.flatMap (cm xs)=gQ xs:=rfl;rw [tl];walk_at "d";refine⟨gQ xs,rfl,f1,?_,λns h1 h2=>?_⟩
     ·refine Vh (Fj (vY .nil) λz hz=>?_) f2;rw [vX] at hz;rcases hz with y | y
      ·cases y
      ·exact f3 z y
     ·have it:jv xs ns:=⟨h1,h2⟩;have e:=Af it;have lt:ns.length < 64:=Vh (Fj (h2.imp λz e=>by omega) λz hz=>f3 z ((h1 z).mp hz)) f2;rw [e] at it lt⊢;exact q it lt
end
theorem Fm:bb (av tL) ["deeds","day"] ["deed"] 1 [] ⟨QW,[(QP ".0",ZX),(QP "deed",ZX)],false,false,[]⟩:=⟨rfl,Yb,Yb,Yb,rfl,Yb,Yb,Yb,rfl⟩
theorem Fo:bb (av tM) ["holds","line","names","hold","target","deep","reached"] ["coming","target"] 1 [4] ⟨QW,[ (QP ".0",ZX),(QP "coming",ZX),(QP "is_told",Rr),(QP "target",Q3)],false,false,[]⟩:=⟨rfl,Yb,Yb,Yb,rfl,Yb,Yb,Yb,rfl⟩
section
variable {P:Yu} {w:Yv} {K:QN} {mg:Str->Option Yj} {base:Yw} {t:cg}
def Fp(a b:Rw):Prop:=dn a.nm b.nm=true/\a.nm≠b.nm
def Uq(ws:List Str)(n:Int)(xs:List Rw):Prop:=∀x∈xs,∀y∈xs,fU ws n x->fU ws n y->x.nm=y.nm->x.n=y.n->x=y
theorem ur{ws:List Str}{n:Int}{xs res:List Rw}(h:fi ws n xs res):res.Pairwise Fp:=by
 have up:=h.up;have nd:=h.nd;rw [Sa] at up;rw [VD,Sa] at nd;exact up.and nd
theorem Fq{ws:List Str}{n:Int}{xs r1 r2:List Rw}(u:Uq ws n xs)(h1:fi ws n xs r1)(h2:fi ws n xs r2)(x:Rw)(hx:x∈r1):x∈r2:=by
 obtain⟨a1,a2,a3⟩:=h1.it x hx;obtain⟨y,hy,yn⟩:=h2.al x a1 a2;obtain⟨b1,b2,b3⟩:=h2.it y hy;have e:x=y:=u x a1 y b1 a2 b2 yn.symm (XF (b3 x a1 a2 yn.symm) (a3 y b1 b2 yn));rw [e];exact hy
theorem N9{ws:List Str}{n:Int}{xs r1 r2:List Rw}(u:Uq ws n xs)(h1:fi ws n xs r1)(h2:fi ws n xs r2):r1=r2:=
 nI (r:=Fp) (λa b h z=>h.2 (vI h.1 z.1)) ((U0 ((ur h1).imp λz e=>z.2 (by rw [e])) ((ur h2).imp λz e=>z.2 (by rw [e]))).mpr λx=>⟨Fq u h1 h2 x,Fq u h2 h1 x⟩) (ur h1) (ur h2)
open Classical in
def uu(ws:List Str)(n:Int)(xs:List Rw):List Rw:=if h:∃r,fi ws n xs r then h.choose else []
theorem Ag{ws:List Str}{n:Int}{xs r:List Rw}(u:Uq ws n xs)(h:fi ws n xs r):r=uu ws n xs:=by
 unfold uu;have e:∃r,fi ws n xs r:=⟨r,h⟩;rw [dif_pos e];exact N9 u h e.choose_spec
def gf(ip:Bool)(tn:Str):Yi:= .tuple [.str (if ip=true then QM "paper" else QM "kind"),.str tn]
structure Hd where
 nm:Str
 ip:Bool
 tn:Str
 dp:Bool
def Hd.enc(h:Hd):Yi:= .tuple [.str h.nm,gf h.ip h.tn,.bool h.dp]
def De.isL:De->Bool
 | .oth w _ _ _=>w==QM "hold" || w==QM "lift"
 | _=>false
structure bO (xs:List De):Prop where
 gd:ia xs
 ho:∀d nm r,De.oth (QM "hold") d nm r∈xs->∃(ip:Bool)(tn:Str)(dp:Bool),r=[gf ip tn,.bool dp]/\QT tn=true
 le:∀d nm r,De.oth (QM "leave") d nm r∈xs->∃kd,r=[.str kd]/\QT kd=true
 rh:∀x∈xs,∀y∈xs,x.isL=true->y.isL=true->x.d=y.d->x.nm=y.nm->x=y
 lv:∀x∈xs,∀y∈xs,x.w=QM "leave"->y.w=QM "leave"->x.nm=y.nm->x=y
def lI:List Str:=["hold","lift"]
def qX(x:Rw):Hd:=match x.r with
 | [.tuple [.str a,.str b],.bool c]=>⟨x.nm,a==QM "paper",b,c⟩
 | _=>⟨x.nm,false,QM "",false⟩
theorem Fs{x:Rw}{ip dp:Bool}{tn:Str}(h:x.r=[gf ip tn,.bool dp]):qX x=⟨x.nm,ip,tn,dp⟩:=by
 unfold qX;rw [h];cases ip with
 | true=>simp [gf]
 | false=>simp [gf,bR (show QM "kind"≠QM "paper" by decide+kernel)]
def pX(res:List Rw):List Hd:=(res.filter λx=>x.w==QM "hold").map qX
def pY(xs:List De)(n:Int):List Hd:=pX (uu lI n (xs.map De.rw))
theorem Ft{w:Str}(h:w∈lI):w=QM "hold"\/w=QM "lift":=by
 unfold lI at h;rcases QX.mp h with e | h
 ·exact .inl e
 ·rcases QX.mp h with e | h
  ·exact .inr e
  ·cases h
theorem Ah{xs:List De}{n:Int}(g:bO xs):Uq lI n (xs.map De.rw):=by
 intro x hx y hy ox oy e1 e2;obtain⟨a,ha,rfl⟩:=Q5.mp hx;obtain⟨b,hb,rfl⟩:=Q5.mp hy;have il:∀z:De,z.rw.w∈lI->z.isL=true/\z.rw.nm=z.nm/\z.rw.n=z.d:=λz hz=>by
  cases z with
  | pap p=>exact absurd (Ft hz) (by show ¬(QM "paper"=_\/QM "paper"=_);decide+kernel)
  | oth w d nm r=>
   refine⟨?_,rfl,rfl⟩;have hz:w∈lI:=hz;rcases Ft hz with e | e <;> simp [De.isL,e]
 obtain⟨a1,a2,a3⟩:=il a ox.1;obtain⟨b1,b2,b3⟩:=il b oy.1;rw [g.rh a ha b hb a1 b1 (by rw [<-a3,<-b3];exact e2) (by rw [<-a2,<-b2];exact e1)]
def qY(hs:List Hd):Prop:=hs.length<=41/\∀h∈hs,QT h.tn=true
def Oa:List Yi->(Yi->Prop)->Prop:=λds Q=>∃(xs:List De)(n:Int),ds=[.tuple (xs.map De.enc),.int n]/\bO xs/\(qY (pY xs n)->Q (.tuple ((pY xs n).map Hd.enc)))
theorem Ob(T:Txt K mg t):aA P w K mg base CX0 2 t.a_S t.d_S ["deeds","day"] (aV K Oa):=by
 have G_Q:=@EL P w _ _ base _ T;refine T.F_S.F.okD MI (λds Q h=>?_) (λ_ _ _ _ H O ds Q E hr h=>?_)
 ·obtain⟨xs,n,rfl,_⟩:=h;rfl
 ·obtain⟨xs,n,rfl,g,q⟩:=h;refine'⟨_,?A,?B⟩
  case A=>
   refine' aw ?C
   case' C=>generalize hG2:Ya _ _ _ _=eg2
   refine' aR ?D
   case' D=>subst hG2
   exact(PE.imp (cT fN rfl T.n_tuple fP (bj (df (fe (eD rfl Fm (df (PE.imp (aE G_Q (hr.mono Yc) rfl T.F_Q (aa (dv 0) (aa (bH (aa aX (aa aX aj))) (aa (dv 1) aj)))) aN)) aL bM Yc (λ_ _ _ _=>(aK (i:=0) Fm.nd rfl Yg)) (λ_ _ _ _=>(cZ (aQ (cz hr) cA (df (ak aG aM (df (dv 0)) (df af))) (df aX) (aF _)))) (λ_ _ _ _=>(bH (aa (ak aG aM (df (dv 0)) (df af)) (aa (ak aG aM (df (dv 0)) (df af)) (aa (ak aG aM (df (dv 0)) (df af)) aj)))))))) br)) (bz fS))
  case B=>
  clear hr T G_Q;have ok:=EW g.gd (λw d nm r h=>g.gd.gx.w _ h);walk_at "d";refine⟨xs.map De.rw,lI,n,by rw [ET];rfl,ok.st,Yb,ok.le,λres hres=>⟨_,rfl,?_,?_⟩⟩
  ·rw [QO];have:=hres.le;have:=ok.le;omega
  have fm:∀x∈res,x.w=QM "hold"->∃(ip:Bool)(tn:Str)(dp:Bool),x.r=[gf ip tn,.bool dp]/\QT tn=true:=λx hx hw=>by
   obtain⟨h1,_,_⟩:=hres.it x hx;obtain⟨y,hy,rfl⟩:=Q5.mp h1;cases y with
   | pap p=>exact absurd hw (by show QM "paper"≠_;decide+kernel)
   | oth w d nm r=>
    have hw:w=QM "hold":=hw;subst hw;exact g.ho _ _ _ hy
  have e:=Ag (Ah g) hres;have q:qY (pX res)->Q (.tuple ((pX res).map Hd.enc)):=by rw [e];exact q
  refine cW (enc:=Rw.enc) (λx=>x.w==QM "hold") (λx=>(qX x).enc) (λx hx R S h=>?_) ?_
  ·simp only [Rw.enc];walk_at "d";by_cases hr:(x.w==QM "hold")=true
   ·rw [Yf hr] at h⊢;obtain⟨ip,tn,dp,hp,_⟩:=fm x hx (eq_of_beq hr);rw [Fs hp] at h;rw [hp];exact⟨_,fC,_,kn,h⟩
   ·rw [Ye hr] at h⊢;exact h
  ·have e2:(T6 (λx=>x.w==QM "hold") res).map (λx=>(qX x).enc)=(pX res).map Hd.enc:=by unfold pX;rw [Rc];rfl
   rw [e2];refine q ⟨?_,λh hh=>?_⟩
   ·unfold pX;rw [QO];have h1:=RB (λx:Rw=>x.w==QM "hold") res;have h2:=hres.le;rw [QO] at h2;have:=g.gd.gx.ln;omega
   ·obtain⟨x,hx,rfl⟩:=Q5.mp hh;obtain⟨hx1,hx2⟩:=RH.mp hx;obtain⟨ip,tn,dp,hp,hk⟩:=fm x hx1 (eq_of_beq hx2);rw [Fs hp];exact hk
def jw(ip:Bool)(tn:Str)(c:Pp):Bool:=tn==if ip=true then c.nm else c.kd
def Fv:List Yi->(Yi->Prop)->Prop:=λds Q=>∃(ip:Bool)(tn:Str)(c:Pp),ds=[gf ip tn,c.enc]/\QT tn=true/\QT c.nm=true/\QT c.kd=true/\Q (.bool (jw ip tn c))
theorem Oc(T:Txt K mg t):aA P w K mg base CX0 1 t.a_T t.d_T ["target","coming"] (aV K Fv):=by
 refine T.F_T.F.okD MJ (λds Q h=>?_) (λ_ _ _ _ H O ds Q E hr h=>?_)
 ·obtain⟨ip,tn,c,rfl,_⟩:=h;rfl
 ·obtain⟨ip,tn,c,rfl,h1,h2,h3,q⟩:=h;refine'⟨_,?A,?B⟩
  case A=>
   refine' aw ?C
   case' C=>refine' aR ?D
   case D=>exact(dG (cD hr.units) cE (df (ak aG aM (df (dv 0)) (df af))) (df (qA (aQ (cz hr) cA (df (ak aG aM (df (dv 0)) (df af))) (df aX) (aF _)) (ak aG aM (df (dv 1)) (df af)) (ak aG aM (df (dv 1)) (df af)))) (aF _))
  case B=>
  clear hr T;simp only [gf,Pp.enc];unfold jw at q;cases ip with
  | true=>
   walk_at "d";exact⟨cK.mpr h1,cK.mpr h2,q⟩
  | false=>
   walk_at "d";rw [Ye (show ¬(QM "kind"==QM "paper")=true by decide+kernel)];exact⟨cK.mpr h1,cK.mpr h3,q⟩
def qZ(line:List Pp)(h:Hd):Bool:=(if h.dp=true then line else line.take 1).any (jw h.ip h.tn)
def gS(hs:List Hd)(line:List Pp):List Str:=(hs.filter (qZ line)).map (·.nm)
def uw(line:List Pp):Prop:=line.length<=41/\∀c∈line,QT c.nm=true/\QT c.kd=true
def F_U:List Yi->(Yi->Prop)->Prop:=λds Q=>∃(hs:List Hd)(line:List Pp),ds=[.tuple (hs.map Hd.enc),.list (line.map Pp.enc)]/\qY hs/\uw line/\Q (.tuple ((gS hs line).map .str))
theorem Od(T:Txt K mg t):aA P w K mg base CX0 2 t.a_U t.d_U ["holds","line"] (aV K F_U):=by
 have G_T:=@Oc P w _ _ base _ T;refine T.F_U.F.okD pG (λds Q h=>?_) (λ_ _ _ _ H O ds Q E hr h=>?_)
 ·obtain⟨hs,line,rfl,_⟩:=h;rfl
 ·obtain⟨hs,line,rfl,ho,lo,q⟩:=h;refine'⟨_,?A,?B⟩
  case A=>
   refine' ao ?C ?D
   case C=>exact(iC (i:=2) pG.nd rfl Yg (bW aj))
   case' D=>refine' ao ?E ?F
   case E=>
    refine' pe RM rfl (dv 0) ?G (gG (b5 aL (b5 aL (b5 aL gF)))) ?H
    case G=>exact(gm (n:=3) rfl (bZ (aK (i:=3) pG.nd rfl Yg) (bZ (aK (i:=4) pG.nd rfl Yg) (bZ (aK (i:=5) pG.nd rfl Yg) gj))))
    case' H=>refine' ao ?I ?J
    case I=>exact(bf (i:=6) pG.nd rfl Yg (qA (jc (dv 5)) (dv 1) (fe (iG (df (dv 1)) hU (cq af)))))
    case' J=>refine' aw ?K
    case' K=>refine' bJ ?L ?M bI
    case L=>exact(jc (PE.imp (bU (vp rfl) rfl T.n_any vq (bj (df (fe (eD rfl Fo (df (dv 6)) aL bM Yc (λ_ _ _ _=>(aK (i:=0) Fo.nd rfl Yg)) (λ_ _ _ _=>dj) (λ_ _ _ _=>(PE.imp (aE G_T (hr.mono Yc) rfl T.F_T (aa (dv 1) (aa (dv 0) aj))) aN))))) br)) (bz vA)))
    case' M=>refine' aw ?N
    case N=>exact(lR (i:=2) (pv 2) (dv 3))
   case' F=>refine' aw ?O
   case O=>exact(aR (PE.imp (cT fN rfl T.n_tuple fP (bj (dw 2) br)) (bz fS)))
  case B=>
  clear hr T G_T;have h41:=ho.1;have l41:=lo.1;walk_at "d";refine⟨λi δ=>∃o3 o4 o5 o6,δ=[some (Sl.v (.tuple (hs.map Hd.enc))),some (Sl.v (.list (line.map Pp.enc))),some (Sl.o ((gS (hs.take i) line).map .str)),o3,o4,o5,o6],⟨_,_,_,_,rfl⟩,?_,?_⟩
  ·rintro i z δ hz ⟨o3,o4,o5,o6,rfl⟩;rw [Q1] at hz;cases hz':hs[i]? with
   | none=>rw [hz'] at hz;cases hz
   | some h=>
    rw [hz'] at hz;cases hz;have hk:=ho.2 h (Rm hz');have ts:gS (hs.take (i+1)) line=gS (hs.take i) line++if qZ line h=true then [h.nm] else []:=by
     unfold gS;rw [RL,hz',VR,Rf];congr 1;by_cases e:qZ line h=true
     ·simp [e]
     ·simp [e]
    have ll:(gS (hs.take i) line).length<=41:=by
     unfold gS;rw [QO];have:=RB (qZ line) (hs.take i);rw [RA] at this;omega
    have key:∀(l2:List Pp)(R:List Yi->Prop),(∀c∈l2,c∈line)->R ((l2.map (jw h.ip h.tn)).map .bool)->ji (iD 0) hJ (gE Fv (g9 (b0 1) (g9 (b0 0) gC))) [none,some (Sl.v (gf h.ip h.tn))] (l2.map Pp.enc) R:=λl2 R hl hR=>by
     refine iQ (λ_=>true) (λc=>.bool (jw h.ip h.tn c)) (λc hc R S h1 _=>?_) (by rw [fI];rw [Rc] at hR;exact hR);walk_at "d";exact⟨h.ip,h.tn,c,rfl,hk,(lo.2 c (hl c hc)).1,(lo.2 c (hl c hc)).2,h1 rfl⟩
    simp only [Hd.enc];simp only [ts];have ec:qZ line h=(if h.dp=true then line else line.take 1).any (jw h.ip h.tn):=rfl;rw [ec];generalize gS (hs.take i) line=A0 at ll;have fin:∀(l2:List Pp)(x:Option Sl),if (l2.map (jw h.ip h.tn)).any id=true then(A0.map QU).length < 16777216/\A0.map QU++[QU h.nm]=(A0++if l2.any (jw h.ip h.tn)=true then [h.nm] else []).map QU/\∃y,x=y else A0.map QU=(A0++if l2.any (jw h.ip h.tn)=true then [h.nm] else []).map QU/\∃y,x=y:=λl2 x=>by
     rw [VC];show if l2.any (jw h.ip h.tn)=true then _ else _
     split
     ·exact⟨by rw [QO];omega,Yh,_,rfl⟩
     ·exact⟨Yh,_,rfl⟩
    cases hd:h.dp with
    | true=>
     walk_at "d";exact⟨by rw [QO];omega,key line _ (λ_ h=>h) ⟨_,rfl,fin line _⟩⟩
    | false=>
     walk_at "d";rw [uo,<-TU];have lt:(line.take 1).length<=41:=by rw [RA];omega
     exact⟨by rw [QO];omega,key (line.take 1) _ (λ_ h=>Us h) ⟨_,rfl,fin (line.take 1) _⟩⟩
  ·rintro δ ⟨o3,o4,o5,o6,rfl⟩;walk_at "d";rw [QO,Rl (QQ _)];exact q
theorem Oe{g:DG}{tb:DS}{E:fz}{xs:List Yi}{δf:Int->Dl}{C D p q X:Prop} [Decidable C] [Decidable D]{d1 d2 d3:Int}(hp:p)(hq:q)(hX:X)(key:∀dg,gI g tb E xs (δf dg)):
 if C then p/\q/\gI g tb E xs (δf d1) else X/\if D then p/\q/\gI g tb E xs (δf d2) else p/\q/\gI g tb E xs (δf d3):=by
 split
 ·exact⟨hp,hq,key _⟩
 ·refine⟨hX,?_⟩;split
  ·exact⟨hp,hq,key _⟩
  ·exact⟨hp,hq,key _⟩
def Fw:List Yi->(Yi->Prop)->Prop:=λds Q=>∃(ns:List Int)(k:Int),ds=[fQ (ns.map .int),.int k]/\0<=k/\k<=1000/\∀c:Int,Q (.int c)
theorem Ai(T:Txt K mg t):aA P w K mg base CX0 1 t.a_v t.d_v ["_law_script","_law_k"] (aV K Fw):=by
 refine T.F_v.F.okD uc (λds Q h=>?_) (λ_ _ _ _ H O ds Q E hr h=>?_)
 ·obtain⟨ns,k,rfl,_⟩:=h;rfl
 ·obtain⟨ns,k,rfl,k0,k1,q⟩:=h;refine'⟨_,?A,?B⟩
  case A=>
   refine' ao ?C ?D
   case C=>
    refine' bJ ?E ?F bI
    case E=>exact(aQ rN di (df (dv 1)) (df (PE.imp (bU dO rfl T.n_len R0 (bj (df (dv 0)) br)) (bz JK))) (aF _))
    case' F=>refine' aw ?G
    case G=>exact(aR (ak aP KH (df (dv 0)) (df (dv 1))))
   case' D=>refine' ao ?H ?I
   case H=>
    refine' bf (i:=2) uc.nd rfl Yg ?J (hs:=iI)
    case J=>exact(ar aW aD (df (ar d8 aD (df af) (df (ar bA bN (df (ar bA bN (df (ar d8 aD (df (dv 1)) (df (dv 1)))) (df (ar d8 aD (df af) (df (dv 1)))))) (df af))))) (df af))
   case' I=>refine' ao ?K ?L
   case K=>
    refine' nV RM rfl (fe (KI (df (dv 0)) hU (cq af))) ?M aL ?N
    case M=>exact(aK (i:=3) uc.nd rfl Yg)
    case' N=>refine' aw ?O
    case' O=>refine' bf (i:=2) uc.nd rfl Yg ?P (hs:=iI)
    case P=>exact(ar aW aD (df (ar bA bN (df (ar d8 aD (df (dv 2)) (df af))) (df (dv 3)))) (df af))
   case' L=>refine' aw ?Q
   case Q=>exact(aR (dv 2))
  case B=>
  clear hr T;walk_at "d";refine⟨_,rfl,?_⟩;rw [QO];split
  ·rename_i hlt;obtain⟨j,rfl⟩:=SO k0;have hj:j < ns.length:=Yd
   exact⟨_,rfl,.int ns[j],fM (by simp [hj]),q _⟩
  ·refine⟨.inl ⟨Yd,Yd⟩,_,rfl,λi δ=>∃(st:Int)(o:Option Sl),δ=[some (Sl.v (fQ (ns.map .int))),some (Sl.v (.int k)),some (Sl.v (.int st)),o],⟨_,_,rfl⟩,?_,?_⟩
   ·rintro i x δ hx ⟨st,o,rfl⟩;have hm:=Rm hx;unfold cV at hm;have hm2:=WS (Us hm);obtain⟨c,_,rfl⟩:=Q5.mp hm2;walk_at "d";exact⟨_,rfl⟩
   ·rintro δ ⟨st,o,rfl⟩;walk_at "d";exact q _
def Fx:List Yi->(Yi->Prop)->Prop:=λds Q=>∃c m:Int,ds=[.int c,.int m]/\0<=m/\m<=64/\∀ns:List Int,(ns.length:Int)=m->(∀z∈ns,0<=z/\z < 2000000000)->Q (.list (ns.map .int))
theorem Aj(T:Txt K mg t):aA P w K mg base CX0 1 t.a_w t.d_w ["_law_cell_here","_law_many"] (aV K Fx):=by
 refine T.F_w.F.okD nF (λds Q h=>?_) (λ_ _ _ _ H O ds Q E hr h=>?_)
 ·obtain⟨c,m,rfl,_⟩:=h;rfl
 ·obtain⟨c,m,rfl,m0,m1,q⟩:=h;refine'⟨_,?A,?B⟩
  case A=>
   refine' ao ?C ?D
   case C=>exact(iC (i:=2) nF.nd rfl Yg (bW aj))
   case' D=>refine' ao ?E ?F
   case E=>
    refine' bf (i:=3) nF.nd rfl Yg ?G (hs:=iI)
    case G=>exact(ar aW aD (df (ar d8 aD (df (ar bA bN (df (ar aW aD (df (dv 0)) (df af))) (df af))) (df af))) (df af))
   case' F=>refine' ao ?H ?I
   case H=>exact(bf (i:=4) nF.nd rfl Yg af)
   case' I=>refine' ao ?J ?K
   case J=>
    refine' bJ ?L ?M bI
    case L=>exact(PW.pt (sC (aQ rN di (df (dv 0)) (df af) (aF _)) (sA (aQ Bd di (df (dv 0)) (df (ar A6 aD (df af) (df af))) (aF _)))))
    case' M=>refine' aw ?N
    case N=>exact(bf (i:=4) nF.nd rfl Yg (PE.imp (bU HL rfl T.n_abs PyProof.Rows.boot_abs (bj (df (dv 0)) br)) (bz KD)))
   case' K=>refine' ao ?O ?P
   case O=>
    refine' BV RM rfl rfl T.n_range (aa (dv 1) aj) ?Q aL ?R
    case Q=>exact(aK (i:=5) nF.nd rfl Yg)
    case' R=>refine' ao ?S ?T
    case S=>
     generalize hG15:Wg _ _ _ _=eg15;refine' bf (i:=3) nF.nd rfl Yg ?U (hs:=by subst hG15;exact iI)
     case' U=>subst hG15
     exact(ar aW aD (df (ar bA bN (df (ar bA bN (df (ar d8 aD (df (dv 3)) (df (ar bA bN (df (ar aW aD (df (dv 3)) (df af))) (df af))))) (df (ar d8 aD (df af) (df (dv 5)))))) (df af))) (df af))
    case' T=>refine' ao ?V ?W
    case V=>
     refine' lR (i:=2) (pv 2) ?X
     case' X=>refine' ak aP aS (df ?Y) ?Z
     case Y=>exact(fe (bW (aa (dv 3) (aa (ar aW aD (df (dv 4)) (df af)) aj))))
     case Z=>exact(df (PE.imp (cT qr rfl T.n_int qx (bj (df (dG jE di (df (dv 4)) (df af) (aF _))) br)) (bz qC)))
    case' W=>refine' aw ?a
    case a=>exact(bf (i:=4) nF.nd rfl Yg (ar cO aD (df (dv 4)) (df af)))
   case' P=>refine' aw ?b
   case b=>exact(qB (pv 2))
  case B=>
  clear hr T;walk_at "d";have bB:0<=(c % 1999999913+41)*674506081 % 1999999913/\(c % 1999999913+41)*674506081 % 1999999913 < 1999999913:=⟨TQ _ Yc,Td _ Yc⟩;generalize (c % 1999999913+41)*674506081 % 1999999913=st at*;have b1:-4611686018427387904<=m:=Yd
  have b2:m < 4611686018427387904:=Yd
  refine Oe (δf:=λdg=>[some (Sl.v (.int c)),some (Sl.v (.int m)),some (Sl.o []),some (Sl.v (.int st)),some (Sl.v (.int dg)),none]) b1 b2 Yc ?c
  case c=>
   intro dg;refine⟨λi δ=>∃(ns:List Int)(st dg:Int)(o:Option Sl),ns.length=i/\(∀z∈ns,0<=z/\z < 2000000000)/\0<=st/\st < 1999999913/\δ=[some (Sl.v (.int c)),some (Sl.v (.int m)),some (Sl.o (ns.map .int)),some (Sl.v (.int st)),some (Sl.v (.int dg)),o],⟨[],st,dg,none,rfl,Yh,bB.1,bB.2,rfl⟩,?_,?_⟩
   ·rintro i x δ hx ⟨ns,st,dg,o,hl,hn,s0,s1,rfl⟩;obtain⟨hi,rfl⟩:=qD hx;clear bB;walk_at "d";have n0:0<=(st*(st % 64921+39119)+11*(0+(i:Int))+3)% 1999999913:=TQ _ Yc;have n1:(st*(st % 64921+39119)+11*(0+(i:Int))+3)% 1999999913 < 1999999913:=Td _ Yc;generalize (st*(st % 64921+39119)+11*(0+(i:Int))+3)% 1999999913=nx at*;have d0:0<=dg % 1000000:=TQ _ Yc;have d1:dg % 1000000 < 1000000:=Td _ Yc;obtain⟨z,hz,z0,z1⟩:∃z:Int,atI [Rq nx,Rq (dg % 1000000)] (if 0 < dg then 1 else 0)=some (.int z)/\0<=z/\z < 2000000000:=by
     split
     ·exact⟨_,eJ,d0,Yd⟩
     ·exact⟨_,dH,n0,Yd⟩
    refine⟨.inl ⟨Yd,Yd⟩,.int z,hz,by rw [QO];omega,ns++[z],by simp [hl],λy hy=>?_,nx,n0,n1,Yh,rfl,_,rfl⟩;rcases Q9.mp hy with h | h
    ·exact hn y h
    ·rw [Ra] at h;rw [h];exact⟨z0,z1⟩
   ·rintro δ ⟨ns,st,dg,o,hl,hn,s0,s1,rfl⟩;walk_at "d";have hm:(ns.length:Int)=m:=by rw [hl];unfold nT;simp;omega
    exact q ns hm hn
end
theorem Fy:bb (av pC) ["_law_x","_law_many","_law_letters","_law_words","_law_size","_law_at","_law_stem","_law_ends"] ["_law_k","_law_words","_law_x"] 1 [3,0] ⟨QW,[ (QP ".0",ZX),(QP "_law_k",ZX),(QP "len",Rr),(QP "_law_words",Q3),(QP "_law_x",Q3)],false,false,[]⟩:=⟨rfl,Yb,Yb,Yb,rfl,Yb,Yb,Yb,rfl⟩
theorem Fz:bb (av pC) ["_law_x","_law_many","_law_letters","_law_words","_law_size","_law_at","_law_stem","_law_ends"] ["_law_k","_law_letters","_law_x"] 1 [2,0] ⟨QW,[ (QP ".0",ZX),(QP "_law_k",ZX),(QP "_law_letters",Q3),(QP "_law_x",Q3)],false,false,[]⟩:=⟨rfl,Yb,Yb,Yb,rfl,Yb,Yb,Yb,rfl⟩
theorem FA:bb (av pC) ["_law_x","_law_many","_law_letters","_law_words","_law_size","_law_at","_law_stem","_law_ends"] ["_law_one","_law_stem","_law_at","_law_size"] 1 [6,5,4] ⟨QW,[ (QP ".0",ZX),(QP "_law_one",ZX),(QP "_law_at",Q3),(QP "_law_size",Q3),(QP "_law_stem",Q3)],false,false,[]⟩:=⟨rfl,Yb,Yb,Yb,rfl,Yb,Yb,Yb,rfl⟩
section
variable {P:Yu} {w:Yv} {K:QN} {mg:Str->Option Yj} {base:Yw} {t:cg}
theorem q5{c:DB}{t r:DS}{E:fz}{δ:Dl}(h:∀R,R=r->c δ λb=>if b=true then t {E with nx:=R E} δ else R E δ):fR (iA c t jf) r E δ:=h r rfl
theorem Of{c:Nat}{n:Int}(h0:0<=n):(V2 ⟨#[c]⟩ n).cps.toList=Q8 n.toNat c:=by
 have key:∀(k:Nat)(a:Array Nat),((Q8 k #[c]).foldl (·++·) a).toList=a.toList++Q8 k c:=by
  intro k
  induction k with
  | zero=>intro a;simp
  | succ k ih=>intro a;rw [SG,RP,ih];simp [SG]
 unfold V2;split
 ·rw [show n.toNat=0 by omega];rfl
 ·split
  ·rename_i h;have:n=1:=by
    rw [show(⟨#[c]⟩:Str).length=1 from rfl] at h;simpa using h
   subst this;rfl
  ·show((Q8 n.toNat #[c]).foldl (·++·) #[]).toList=_;rw [key];rfl
theorem mul_one{c:Nat}(hc:c < 0x110000){n:Int}(h0:0<=n)(h1:n<=50):PySem.MulOk ⟨#[c]⟩ n/\l4 n.toNat (V2 ⟨#[c]⟩ n):=by
 have lc:(⟨#[c]⟩:Str).length=1:=rfl;constructor
 ·refine⟨by simp;omega,λa b=>?_,λa b=>?_⟩
  ·rw [lc];have:(2 ^ 63 - 1:Int)/ n >= 1:=by rw [ge_iff_le,Int.le_ediv_iff_mul_le Yd];omega
   omega
  ·rw [lc];obtain⟨k,rfl⟩:=SO h0;rw [Nat.one_mul];unfold PySem.Builtin.Str.tooLong;simp;have:Yt=16777216:=by first | rfl | decide | exact YM
   omega
 ·have l:=Of (c:=c) h0;refine⟨qF.mpr λd hd=>?_,?_⟩
  ·rw [l] at hd;rw [(List.mem_replicate.mp hd).2];exact hc
  ·show(V2 ⟨#[c]⟩ n).cps.size<=_;rw [<-Ru,l,Vw];exact QQ _
def Og:List Yi->(Yi->Prop)->Prop:=λds Q=>∃y:Int,ds=[.int y]/\Q (.int (cf y))
theorem Oh(T:Txt K mg t):aA P w K mg base CX0 1 t.a_y t.d_y ["_law_year"] (aV K Og):=by
 refine T.F_y.F.okD D6 (λds Q h=>?_) (λ_ _ _ _ H O ds Q E hr h=>?_)
 ·obtain⟨y,rfl,_⟩:=h;rfl
 ·obtain⟨y,rfl,q⟩:=h;refine'⟨_,?A,?B⟩
  case A=>
   refine' ao ?C ?D
   case C=>exact(bf (i:=1) D6.nd rfl Yg (ar eY bN (df (dv 0)) (df af)))
   case' D=>refine' aw ?E
   case' E=>generalize hG4:Wg _ _ _ _=eg4
   refine' aR ?F
   case' F=>subst hG4
   exact(ar bA bN (df (ar eY bN (df (ar bA bN (df (ar d8 aD (df (dv 1)) (df af))) (df (ar cO aD (df (ar bA bN (df (dv 1)) (df af))) (df af))))) (df (ar cO aD (df (ar bA bN (df (dv 1)) (df af))) (df af))))) (df (ar cO aD (df (ar bA bN (df (dv 1)) (df af))) (df af))))
  case B=>
  clear hr T;walk_at "d";have e:(y - 2000)*365+(y - 2000+3)/ 4 - (y - 2000+99)/ 100+(y - 2000+399)/ 400=cf y:=by rw [<-LX y];omega
  rw [e];exact q
def rg(y:Int):List Int:=[31,28+ld y,31,30,31,30,31,31,30,31,30,31]
def Oi:List Yi->(Yi->Prop)->Prop:=λds Q=>∃y:Int,ds=[.int y]/\Q (.list ((rg y).map .int))
theorem Oj(T:Txt K mg t):aA P w K mg base CX0 1 t.a_z t.d_z ["_law_year"] (aV K Oi):=by
 refine T.F_z.F.okD D7 (λds Q h=>?_) (λ_ _ _ _ H O ds Q E hr h=>?_)
 ·obtain⟨y,rfl,_⟩:=h;rfl
 ·obtain⟨y,rfl,q⟩:=h;refine'⟨_,?A,?B⟩
  case A=>
   refine' ao ?C ?D
   case C=>
    refine' bf (i:=1) D7.nd rfl Yg ?E (hs:=Kt)
    case E=>exact(JC (dG (cD hr.units) cE (df (ar aW aD (df (dv 0)) (df af))) (df af) (aF _)) (qy (qz (dG (cD hr.units) cE (df (ar aW aD (df (dv 0)) (df af))) (df af) (aF _)) (qy (dG jE di (df (ar aW aD (df (dv 0)) (df af))) (df af) (aF _))))))
   case' D=>refine' aw ?F
   case' F=>generalize hG5:Xd _ _=eg5
   refine' aR ?G
   case' G=>subst hG5
   refine' fe ?H
   case' H=>refine' bW ?I
   case' I=>refine' aa af ?J
   case' J=>refine' aa ?K ?L
   case K=>exact(ar bA bN (df af) (df (PE.imp (cT qr rfl T.n_int qx (bj (df (dv 1)) br)) (bz qC))))
   case L=>refine' lZ (ds:=[.int 31,.int 30,.int 31,.int 30,.int 31,.int 31,.int 30,.int 31,.int 30,.int 31]) (by rfl)
  case B=>
  clear hr T;walk_at "d";have l1:=qQ y;have hl:∀b:Bool,iL y=b->ld y=if b=true then 1 else 0:=λb e=>by unfold ld;rw [e]
  have fin:∀v:Int,v=ld y->Q (.list ([31,28+v,31,30,31,30,31,31,30,31,30,31].map .int)):=λv e=>by rw [e];exact q
  split
  ·rename_i h;have h:y % 400=0:=by simpa using h
   exact fin 1 (by rw [hl true (l1.mpr (.inl h))];rfl)
  ·rename_i h;have h:¬y % 400=0:=by simpa using h
   split
   ·rename_i h4;have h4:y % 4=0:=by simpa using h4
    by_cases h1:0 < y % 100
    ·rw [Yf h1];exact fin 1 (by rw [hl true (l1.mpr (.inr ⟨h4,Yd⟩))];rfl)
    ·rw [Ye h1];exact fin 0 (by rw [hl false (by rw [<-Te,l1];omega)];rfl)
   ·rename_i h4;have h4:¬y % 4=0:=by simpa using h4
    exact fin 0 (by rw [hl false (by rw [<-Te,l1];omega)];rfl)
theorem FC:∀{l:List Int},(∀z∈l,z<=31)->l.sum<=31*(l.length:Int)
 | [],_=>by simp
 | a::l,h=>by
  have ih:=FC λz hz=>h z (Ri _ hz);have:=h a RC;rw [Ue,Q0];omega
theorem Ol(y:Int)(m:Nat):((rg y).take m).sum<=31*(m:Int):=by
 have h:∀z∈(rg y).take m,z<=31:=λz hz=>by
  have hz:=Us hz;have l0:ld y<=1:=by unfold ld;split <;> omega
  unfold rg at hz;simp only [QX,Rh,or_false] at hz;omega
 have:=FC h;rw [RA] at this;omega
def Ak:List Str:=["paper","rule","keep","gone","coming","days","first","last","kind","deep","end","hold","lift","leave","while","follow","happens","none","never","months","there","plan"]
theorem Om:∀z∈Ak,QT z=true:=by
 intro z hz;have a:Ak.all QT=true:=Yb
 exact Wk.mp a z hz
def Oo:List Yi->(Yi->Prop)->Prop:=λds Q=>∃x m:Int,ds=[.int x,.int m]/\0<=m/\m<=50/\∀ss:List Str,(ss.length:Int)=m->(∀z∈ss,QT z=true)->Q (.list (ss.map .str))
theorem Oq(T:Txt K mg t):aA P w K mg base CX0 1 t.a_x t.d_x ["_law_x","_law_many"] (aV K Oo):=by
 refine T.F_x.F.okD nG (λds Q h=>?_) (λ_ _ _ _ H O ds Q E hr h=>?_)
 ·obtain⟨x,m,rfl,_⟩:=h;rfl
 ·obtain⟨x,m,rfl,m0,m1,q⟩:=h;refine'⟨_,?A,?B⟩
  case A=>
   refine' ao ?C ?D
   case C=>exact(bf (i:=2) nG.nd rfl Yg aX)
   case' D=>refine' ao ?E ?F
   case E=>
    generalize hE4_0:Xd _ _=ee4_0;exact bf (i:=3) nG.nd rfl Yg (fe (vE (ds:=[.str "paper",.str "rule",.str "keep",.str "gone",.str "coming",.str "days",.str "first",.str "last",.str "kind",.str "deep",.str "end",.str "hold",.str "lift"]) (by first | (subst hE4_0;rfl)))) (hs:=J9 (ds:=[.str "paper",.str "rule",.str "keep",.str "gone",.str "coming",.str "days",.str "first",.str "last",.str "kind",.str "deep",.str "end",.str "hold",.str "lift"]) (by first | (subst hE4_0;rfl)))
   case' F=>refine' ao ?G ?H
   case G=>
    generalize hE6_0:Xd _ _=ee6_0;exact(bf (i:=3) nG.nd rfl Yg (fe (nW (df (dv 3)) (df (fe (vE (ds:=[.str "leave",.str "while",.str "follow",.str "happens",.str "none",.str "never",.str "months",.str "there",.str "plan"]) (by first | (subst hE6_0;rfl))))))))
   case' H=>refine' ao ?I ?J
   case I=>
    refine' bJ ?K ?L bI
    case K=>exact(aQ (cD hr.units) cE (df (ar aW aD (df (ar cO aD (df (dv 0)) (df af))) (df af))) (df af) (aF _))
    case' L=>refine' aw ?M
    case' M=>refine' aR ?N
    case' N=>refine' fe ?O
    case O=>exact(JE rfl Fy rfl T.n_range (bj (df (dv 1)) br) aL bM Yc (λ_ _ _ _=>(aK (i:=0) Fy.nd rfl Yg)) (λ_ _ _ _=>dj) (λ_ _ _ _=>(ak aP aS (df (dv 1)) (df (ar aW aD (df (ar bA bN (df (ar cO aD (df (dv 2)) (df af))) (df (dv 0)))) (df (PE.imp (bU dO rfl T.n_len R0 (bj (df (dv 1)) br)) (bz eF))))))))
   case' J=>refine' ao ?P ?Q
   case P=>exact(bf (i:=4) nG.nd rfl Yg (ar bA bN (df af) (df (ar aW aD (df (dv 0)) (df af)))))
   case' Q=>refine' ao ?R ?S
   case R=>exact(bf (i:=5) nG.nd rfl Yg (ar aW aD (df (ar cO aD (df (dv 0)) (df af))) (df (dv 4))))
   case' S=>refine' ao ?T ?U
   case T=>
    refine' bf (i:=6) nG.nd rfl Yg ?V (hs:=oh)
    case V=>exact(ak BC B0 (df (dv 2)) (df (ar aW aD (df (ar cO aD (df (dv 0)) (df af))) (df af))))
   case' U=>refine' ao ?W ?X
   case W=>exact(hW (i:=7) nG.nd rfl Yg (Cf rfl Fz rfl T.n_range (bj (df (dv 1)) br) aL bM Yc (λ_ _ _ _=>(aK (i:=0) Fz.nd rfl Yg)) (λ_ _ _ _=>dj) (λ_ _ _ _=>(ak BC B0 (df (dv 1)) (df (ar aW aD (df (ar bA bN (df (ar cO aD (df (dv 2)) (df af))) (df (ar d8 aD (df af) (df (dv 0)))))) (df af)))))))
   case' X=>refine' aw ?Y
   case' Y=>refine' aR ?Z
   case' Z=>refine' fe ?a
   case a=>exact(eD rfl FA (df (dv 7)) aL bM Yc (λ_ _ _ _=>(aK (i:=0) FA.nd rfl Yg)) (λ_ _ _ _=>dj) (λ_ _ _ _=>(ar Bi BZ (df (ar Bi BZ (df (ar Cy Cz (df (dv 1)) (df (dv 2)))) (df (dv 0)))) (df (ar Cy Cz (df (dv 1)) (df (ar eY bN (df (ar eY bN (df (dv 3)) (df (dv 2)))) (df af))))))))
  case B=>
  clear hr T;walk_at "d";split
  ·refine⟨Yd,by have:(16777216:Nat)=(16777216:Int):=rfl;omega,?_⟩;refine⟨λi acc=>∃ys:List Str,acc=ys.map .str/\ys.length=i/\∀y∈ys,QT y=true,⟨[],rfl,rfl,Yh⟩,?_,?_⟩
   ·rintro i z acc hz ⟨ys,rfl,hl,hg⟩;obtain⟨hi,rfl⟩:=qD hz;walk_at "d";obtain⟨v,e1,m1⟩:=qw (xs:=Ak.map QU) (i:=(x / 344+(0+(i:Int)))% 22) Yd (by show _ < (22:Int);omega);obtain⟨nm,hnm,rfl⟩:=Q5.mp m1;refine⟨Yc,_,e1,ys++[nm],by rw [Rf];rfl,by simp [hl],λy hy=>?_⟩;rcases Q9.mp hy with h | h
    ·exact hg y h
    ·rw [Ra] at h;rw [h];exact Om nm hnm
   ·rintro acc ⟨ys,rfl,hl,hg⟩;rw [vB] at hl;exact q ys Yd hg
  ·refine⟨Yd,Yb,?_⟩;obtain⟨c,e1,_,c1⟩:=Ce (j:=x / 64 % 26) Yd Yd;refine⟨c,e1,Yd,by have:(16777216:Nat)=(16777216:Int):=rfl;omega,?_⟩;generalize hsz:1+x % 8=sz;have s0:1<=sz:=Yd
   have s1:sz<=8:=Yd
   generalize hat:x / 8 % sz=at0;have a0:0<=at0:=by rw [<-hat];exact TQ _ Yd
   have a1:at0 < sz:=by rw [<-hat];exact Td _ Yd
   clear hsz hat;refine⟨λi acc=>∃ys:List Nat,acc=ys.map (λy=>.str ⟨#[y]⟩)/\ys.length=i/\∀y∈ys,y < 0x110000,⟨[],rfl,rfl,Yh⟩,?_,?_⟩
   ·rintro i z acc hz ⟨ys,rfl,hl,hg⟩;obtain⟨hi,rfl⟩:=qD hz;walk_at "d";obtain⟨y,g1,_,y1⟩:=Ce (j:=(x / 1664+5*(0+(i:Int)))% 26) Yd Yd;refine⟨Yb,y,g1,ys++[y],by rw [Rf];rfl,by simp [hl],λz hz=>?_⟩;rcases Q9.mp hz with h | h
    ·exact hg z h
    ·rw [Ra] at h;rw [h];exact y1
   ·rintro acc ⟨ys,rfl,hl,hg⟩;rw [vB] at hl;refine⟨by rw [QO];omega,?_⟩;refine⟨λi acc=>∃zs:List Str,acc=zs.map .str/\zs.length=i/\∀y∈zs,QT y=true,⟨[],rfl,rfl,Yh⟩,?_,?_⟩
    ·rintro i z acc hz ⟨zs,rfl,hl2,hg2⟩;rw [Q1] at hz;cases hz':ys[i]? with
     | none=>rw [hz'] at hz;cases hz
     | some y=>
      rw [hz'] at hz;cases hz;walk_at "d";obtain⟨mo,gg⟩:=mul_one c1 a0 Yd;obtain⟨mo2,gg2⟩:=mul_one c1 (n:=sz - at0 - 1) Yd Yd;have ly:(⟨#[y]⟩:Str).length=1:=rfl;have l1:=gg.le;have l2:=gg2.le;refine⟨mo,by rw [ly];omega,mo2,by rw [Cd,ly];omega,zs++[_],by rw [Rf];rfl,by simp [hl2],λz hz=>?_⟩;rcases Q9.mp hz with h | h
      ·exact hg2 z h
      ·rw [Ra] at h;rw [h];exact((gg.append (l4.chr (hg y (Rm hz')))).append gg2).ok
    ·rintro acc ⟨zs,rfl,hl2,hg2⟩;rw [QO] at hl2;exact q zs Yd hg2
theorem atI_c5{α:Type}{a b c d e f:α}{l:List α}:atI (a::b::c::d::e::f::l) 5=some f:=fM (j:=5) rfl
theorem atI_c6{α:Type}{a b c d e f g:α}{l:List α}:atI (a::b::c::d::e::f::g::l) 6=some g:=fM (j:=6) rfl
theorem atI_c7{α:Type}{a b c d e f g h:α}{l:List α}:atI (a::b::c::d::e::f::g::h::l) 7=some h:=fM (j:=7) rfl
theorem atI_c8{α:Type}{a b c d e f g h i:α}{l:List α}:atI (a::b::c::d::e::f::g::h::i::l) 8=some i:=fM (j:=8) rfl
def FD:List Yi->(Yi->Prop)->Prop:=λds Q=>∃(x:Int)(b:Bool),ds=[.int x,.bool b]/\0<=x/\∀d:Int,0<=d/\d < 100000->Q (.int d)
theorem day_iff{x:Int}{b:Bool}{Q:Yi->Prop}:FD [.int x,.bool b] Q↔0<=x/\∀d:Int,0<=d/\d < 100000->Q (.int d):=by
 constructor
 ·rintro⟨_,_,e,h,q⟩;simp only [RG,R3,and_true] at e;rw [e.1];exact⟨h,q⟩
 ·rintro⟨h,q⟩;exact⟨x,b,rfl,h,q⟩
theorem cell_iff{ns:List Int}{k:Int}{Q:Yi->Prop}:Fw [fQ (ns.map .int),.int k] Q↔(0<=k/\k<=1000/\∀c:Int,Q (.int c)):=by
 constructor
 ·rintro⟨ns',k',e,a,b,q⟩;simp only [RG,R3,and_true] at e;rw [e.2];exact⟨a,b,q⟩
 ·rintro⟨a,b,q⟩;exact⟨ns,k,rfl,a,b,q⟩
theorem numbers_iff{c m:Int}{Q:Yi->Prop}:Fx [.int c,.int m] Q↔(0<=m/\m<=64/\∀ns:List Int,(ns.length:Int)=m->(∀z∈ns,0<=z/\z < 2000000000)->Q (.list (ns.map .int))):=by
 constructor
 ·rintro⟨c',m',e,a,b,q⟩;simp only [RG,R3,and_true] at e;obtain⟨rfl,rfl⟩:=e;exact⟨a,b,q⟩
 ·rintro⟨a,b,q⟩;exact⟨c,m,rfl,a,b,q⟩
local macro_rules | `(tactic| walk_at "g") =>rzT (rzS++" _K.atI_c5 _K.atI_c6 _K.atI_c7 _K.atI_c8 _K.day_iff _K.cell_iff _K.numbers_iff true_and")
theorem Ot(T:Txt K mg t):aA P w K mg base CX0 2 t.a_AA t.d_AA ["_law_x","_law_far_here"] (aV K FD):=by
 have G_y:=@Oh P w _ _ base _ T;have G_z:=@Oj P w _ _ base _ T;refine T.F_AA.F.okD xQ (λds Q h=>?_) (λ_ _ _ _ H O ds Q E hr h=>?_)
 ·obtain⟨x,b,rfl,_⟩:=h;rfl
 ·obtain⟨x,b,rfl,x0,q⟩:=h;refine'⟨_,?A,?B⟩
  case A=>
   refine' ao ?C ?D
   case C=>
    refine' bJ ?E ?F bI
    case E=>exact(oY (jc (dv 1)))
    case' F=>refine' aw ?G
    case G=>exact(aR (ar aW aD (df (dv 0)) (df af)))
   case' D=>refine' ao ?H ?I
   case H=>
    refine' bJ ?J ?K bI
    case J=>exact(aQ (cD hr.units) cE (df (ar aW aD (df (ar cO aD (df (dv 0)) (df af))) (df af))) (df af) (aF _))
    case' K=>refine' aw ?L
    case L=>exact(aR (ar aW aD (df (ar cO aD (df (dv 0)) (df af))) (df af)))
   case' I=>refine' ao ?M ?N
   case M=>exact(bf (i:=2) xQ.nd rfl Yg (ar aW aD (df (ar cO aD (df (dv 0)) (df af))) (df af)))
   case' N=>refine' ao ?O ?P
   case O=>
    generalize hG12:Wg _ _ _ _=eg12;refine' bf (i:=3) xQ.nd rfl Yg ?Q (hs:=by subst hG12;exact iI)
    case' Q=>subst hG12
    exact(ar bA bN (df (PE.imp (aE G_y (hr.mono Yc) rfl T.F_y (aa (ar bA bN (df af) (df (ar cO aD (df (dv 2)) (df af)))) aj)) aN)) (df (PE.imp (bU (BO rfl) rfl T.n_sum WM (bj (df (fe (iG (df (PE.imp (aE G_z (hr.mono Yc) rfl T.F_z (aa (ar bA bN (df af) (df (ar cO aD (df (dv 2)) (df af)))) aj)) aN)) hU (cq (ar aW aD (df (dv 2)) (df af)))))) br)) (bz LP))))
   case' P=>refine' aw ?R
   case' R=>refine' aR ?S
   case S=>exact(PE.imp (bU (HM rfl) rfl T.n_max X8 (bj (df af) (bj (df (ar bA bN (df (ar eY bN (df (dv 3)) (df af))) (df (ar aW aD (df (dv 0)) (df af))))) br))) (bz JL))
  case B=>
  clear hr T G_y G_z;walk_at "d";split
  ·exact q _ Yd
  ·split
   ·exact q _ Yd
   ·have e12:x / 6 % 3280 % 12=((x / 6 % 3280 % 12).toNat:Int):=Yd
    rw [e12];have sl:=Ol (2000+x / 6 % 3280 / 12) (x / 6 % 3280 % 12).toNat;have ys:cf (2000+x / 6 % 3280 / 12)+31*(((x / 6 % 3280 % 12).toNat:Nat):Int) < 100000:=by
     unfold cf lb;omega
    refine⟨_,rfl,_,rfl,_,rfl,(rg (2000+x / 6 % 3280 / 12)).take (x / 6 % 3280 % 12).toNat,?_,_,rfl,?_⟩
    ·rw [sI Yd (by rw [QO];show _<=((12:Nat):Int);omega),R9,TU]
    ·split
     ·exact q _ Yd
     ·exact q 0 Yd
def FF:List Yi->(Yi->Prop)->Prop:=λds Q=>∃(x:Int)(a b:Str),ds=[.int x,.list [.str a,.str b]]/\QT a=true/\QT b=true/\∀s:bX,s.Ok->Q s.enc
theorem Ou(T:Txt K mg t):aA P w K mg base CX0 1 t.a_AB t.d_AB ["_law_x","_law_words"] (aV K FF):=by
 refine T.F_AB.F.okD MU (λds Q h=>?_) (λ_ _ _ _ H O ds Q E hr h=>?_)
 ·obtain⟨x,a,b,rfl,_⟩:=h;rfl
 ·obtain⟨x,a,b,rfl,ha,hb,q⟩:=h;refine'⟨_,?A,?B⟩
  case A=>
   refine' aw ?C
   case' C=>generalize hG2:UW _ _ _=eg2
   refine' aR ?D
   case' D=>subst hG2
   refine' ak aP aS (df ?E) ?F
   case E=>
    refine' fe ?G
    case' G=>refine' bW ?H
    case' H=>refine' aa ?I ?J
    case I=>exact(bH (aa aX aj))
    case' J=>refine' aa ?K ?L
    case K=>
     refine' bH ?M
     case' M=>refine' aa aX ?N
     case' N=>refine' aa ?O aj
     case' O=>refine' ak aP aS (df (dv 1)) ?P
     case P=>exact(df (ar aW aD (df (ar cO aD (df (dv 0)) (df af))) (df af)))
    case' L=>refine' aa ?Q aj
    case' Q=>refine' bH ?R
    case' R=>refine' aa aX ?S
    case' S=>refine' aa ?T aj
    case' T=>refine' ak aP aS (df (dv 1)) ?U
    case U=>exact(df (ar aW aD (df (ar cO aD (df (dv 0)) (df af))) (df af)))
   case F=>exact(df (ar aW aD (df (dv 0)) (df af)))
  case B=>
  clear hr T;walk_at "d";obtain⟨v,e1,mv⟩:=qw (xs:=[QU a,QU b]) (i:=x / 3 % 2) Yd (by show _ < ((2:Nat):Int);omega);have hv:∃wd,v= .str wd/\QT wd=true:=by
   simp only [QX,Rh,or_false] at mv;rcases mv with rfl | rfl
   ·exact⟨_,rfl,ha⟩
   ·exact⟨_,rfl,hb⟩
  obtain⟨wd,rfl,hwd⟩:=hv;refine⟨_,e1,_,e1,?_⟩;obtain⟨v,e2,mv⟩:=qw (xs:=[Ry [QU (QM "coming")],Ry [QU (QM "first"),QU wd],Ry [QU (QM "last"),QU wd]]) (i:=x % 3) Yd (by show _ < ((3:Nat):Int);omega);refine⟨_,e2,?_⟩;simp only [QX,Rh,or_false] at mv;rcases mv with rfl | rfl | rfl
  ·exact q .com trivial
  ·exact q (.fst wd) hwd
  ·exact q (.lst wd) hwd
theorem lJ(ss:List Str){i:Int}(h0:0<=i)(h1:i < ss.length):∃nm∈ss,atI (ss.map QU) i=some (.str nm):=by
 obtain⟨v,e,m⟩:=qw (xs:=ss.map QU) h0 (by rw [QO];exact h1);obtain⟨nm,hn,rfl⟩:=Q5.mp m;exact⟨nm,hn,e⟩
theorem Ov:∀z∈([QM "while",QM "follow",QM "leave"]:List Str),¬KG z/\QT z=true:=by
 intro z hz;simp only [QX,Rh,or_false] at hz;rcases hz with rfl | rfl | rfl <;> exact⟨λh=>by rcases h with h | h <;> exact absurd h Yb,Yb⟩
theorem FG:∀z∈([QM "days",QM "months",QM "years"]:List Str),oz z:=by
 intro z hz;simp only [QX,Rh,or_false] at hz;exact hz
theorem Ow:∀z∈([QM "keep",QM "gone"]:List Str),KG z:=by
 intro z hz;simp only [QX,Rh,or_false] at hz;exact hz
def Ox:List Yi->(Yi->Prop)->Prop:=λds Q=>∃(x0 x1 x2 x3 x4 x5 x6 x7 x8:Int)(a b c d e:Str)(f:Bool),ds=[.list [.int x0,.int x1,.int x2,.int x3,.int x4,.int x5,.int x6,.int x7,.int x8],.list [.str a,.str b,.str c],.list [.str d,.str e],.bool f]/\(∀z∈[a,b,c,d,e],QT z=true)/\∀pt:Pt,pt.Ok->Q pt.enc
theorem Oy(T:Txt K mg t):aA P w K mg base CX0 2 t.a_AC t.d_AC ["_law_xs","_law_kinds","_law_words","_law_far_here"] (aV K Ox):=by
 have G_AB:=@Ou P w _ _ base _ T;refine T.F_AC.F.okD oq (λds Q h=>?_) (λ_ _ _ _ H O ds Q E hr h=>?_)
 ·obtain⟨x0,x1,x2,x3,x4,x5,x6,x7,x8,a,b,c,d,e,f,rfl,_⟩:=h;rfl
 ·obtain⟨x0,x1,x2,x3,x4,x5,x6,x7,x8,a,b,c,d,e,f,rfl,hok,q⟩:=h;refine'⟨_,?A,?B⟩
  case A=>
   refine' ao ?C ?D
   case C=>
    refine' bf (i:=4) oq.nd rfl Yg ?E (hs:=oh)
    case' E=>refine' ak aP aS (df (dv 1)) ?F
    case F=>exact(df (ar aW aD (df (ar aW aD (df (ak aP aS (df (dv 0)) (df af))) (df af))) (df (PE.imp (bU dO rfl T.n_len R0 (bj (df (dv 1)) br)) (bz eF)))))
   case' D=>refine' ao ?G ?H
   case G=>exact(bf (i:=5) oq.nd rfl Yg (ar aW aD (df (ak aP aS (df (dv 0)) (df af))) (df af)))
   case' H=>refine' ao ?I ?J
   case I=>
    refine' bJ ?K ?L bI
    case K=>exact(aQ jE di (df (dv 5)) (df af) (aF _))
    case' L=>refine' aw ?M
    case' M=>refine' aR ?N
    case' N=>refine' bH ?O
    case' O=>refine' aa ?P ?Q
    case P=>
     refine' ak aP aS (df ?R) ?S
     case R=>exact(fe (bW (lZ (ds:=[.str "while",.str "follow",.str "leave"]) (by rfl))))
     case S=>exact(df (ar eY bN (df (dv 5)) (df af)))
    case Q=>refine' aa (dv 4) aj
   case' J=>refine' ao ?T ?U
   case T=>
    generalize hG19:UW _ _ _=eg19;refine' bf (i:=6) oq.nd rfl Yg ?V (hs:=by subst hG19;exact oh)
    case' V=>subst hG19
    refine' ak aP aS (df ?W) ?X
    case W=>exact(fe (bW (lZ (ds:=[.str "days",.str "months",.str "years"]) (by rfl))))
    case X=>exact(df (ar aW aD (df (ak aP aS (df (dv 0)) (df af))) (df af)))
   case' U=>refine' ao ?Y ?Z
   case Y=>
    generalize hG23:UW _ _ _=eg23;refine' bf (i:=7) oq.nd rfl Yg ?a (hs:=by subst hG23;exact oh)
    case' a=>subst hG23
    refine' ak aP aS (df ?b) ?c
    case b=>
     refine' fe ?d
     case' d=>refine' bW ?e
     case' e=>refine' aa ?f ?g
     case f=>exact(ar aW aD (df (ak aP aS (df (dv 0)) (df af))) (df af))
     case' g=>refine' aa ?h aj
     case h=>exact(ar aW aD (df (ak aP aS (df (dv 0)) (df af))) (df af))
    case c=>exact(df (PE.imp (cT qr rfl T.n_int qx (bj (df (dG (cD hr.units) cE (df (ar aW aD (df (ak aP aS (df (dv 0)) (df af))) (df af))) (df af) (aF _))) br)) (bz qC)))
   case' Z=>refine' ao ?i ?j
   case i=>
    refine' bJ ?k ?l bI
    case k=>exact(oY (jc (dv 3)))
    case' l=>refine' ao ?m ?n
    case m=>
     generalize hG35:UW _ _ _=eg35;refine' bf (i:=6) oq.nd rfl Yg ?o (hs:=by subst hG35;exact oh)
     case' o=>subst hG35
     refine' ak aP aS (df ?p) ?q
     case p=>exact(fe (bW (lZ (ds:=[.str "days",.str "days",.str "months"]) (by rfl))))
     case q=>exact(df (ar aW aD (df (ak aP aS (df (dv 0)) (df af))) (df af)))
    case' n=>refine' aw ?r
    case' r=>generalize hG39:UW _ _ _=eg39
    refine' bf (i:=7) oq.nd rfl Yg ?s (hs:=by subst hG39;exact oh)
    case' s=>subst hG39
    refine' ak aP aS (df ?t) ?u
    case t=>
     refine' fe ?v
     case' v=>refine' bW ?w
     case' w=>refine' aa ?x ?y
     case x=>exact(ar aW aD (df (ak aP aS (df (dv 0)) (df af))) (df af))
     case' y=>refine' aa ?z aj
     case z=>exact(ar aW aD (df (ak aP aS (df (dv 0)) (df af))) (df af))
    case u=>exact(df (PE.imp (cT qr rfl T.n_int qx (bj (df (dG (cz hr) cA (df (dv 6)) (df aX) (aF _))) br)) (bz qC)))
   case' j=>refine' aw ?A0
   case' A0=>refine' aR ?A1
   case' A1=>refine' bH ?A2
   case' A2=>refine' aa ?A3 ?A4
   case A3=>exact(ak aP aS (df (fe (bW (aa aX (aa aX aj))))) (df (ar aW aD (df (dv 5)) (df af))))
   case' A4=>refine' aa (dv 4) ?A5
   case' A5=>refine' aa ?A6 ?A7
   case A6=>exact(PE.imp (aE G_AB (hr.mono Yc) rfl T.F_AB (aa (ak aP aS (df (dv 0)) (df af)) (aa (dv 2) aj))) aN)
   case' A7=>refine' aa (dv 7) ?A8
   case A8=>refine' aa (dv 6) aj
  case B=>
  clear hr T G_AB;walk_at "d";obtain⟨kd,hkd,ek⟩:=lJ [a,b,c] (i:=x2 % 3 % 3) Yd (by show _ < ((3:Nat):Int);omega);have kok:QT kd=true:=hok kd (by
   simp only [QX,Rh,or_false] at hkd⊢;rcases hkd with h | h | h <;> simp [h])
  refine⟨Yc,_,ek,?_⟩;split
  ·obtain⟨wo,hw,ew⟩:=lJ [QM "while",QM "follow",QM "leave"] (i:=x3 % 8 - 5) Yd (by show _ < ((3:Nat):Int);omega);obtain⟨w1,w2⟩:=Ov wo hw;exact⟨_,ew,q (.two wo kd) ⟨w1,w2,kok⟩⟩
  ·have fin:∀(k:Int)(u:Str),0<=k->k < 1000->oz u->∃d_7,atI [QU (QM "keep"),QU (QM "gone")] (x3 % 8 % 2)=some d_7/\FF [.int x7,SK [QU d,QU e]] λd=>Q (Ry [d_7,.str kd,d,.int k,.str u]):=λk u k0 k1 hu=>by
    obtain⟨wo,hw,ew⟩:=lJ [QM "keep",QM "gone"] (i:=x3 % 8 % 2) Yd (by show _ < ((2:Nat):Int);omega);exact⟨_,ew,x7,d,e,rfl,hok d Yh,hok e Yh,λs hs=>q (.five wo kd s k u) ⟨Ow wo hw,kok,hs,k0,k1,hu⟩⟩
   obtain⟨u,hu,eu⟩:=lJ [QM "days",QM "months",QM "years"] (i:=x4 % 3) Yd (by show _ < ((3:Nat):Int);omega);refine⟨_,eu,?_⟩;have two:∀(p r:Int)(b:Bool),0<=p->p < 1000->0<=r->r < 1000->∃k,atI [Rq p,Rq r] (if b=true then 1 else 0)=some (.int k)/\0<=k/\k < 1000:=λp r b p0 p1 r0 r1=>by
    cases b
    ·exact⟨p,dH,p0,p1⟩
    ·exact⟨r,eJ,r0,r1⟩
   walk_at "g";obtain⟨k,hk,k0,k1⟩:=two (x5 % 30) (x5 % 1000) (x6 % 4==0) Yd Yd Yd Yd;refine⟨_,hk,?_⟩;split
   ·obtain⟨u,hu,eu⟩:=lJ [QM "days",QM "days",QM "months"] (i:=x4 % 3) Yd (by show _ < ((3:Nat):Int);omega);refine⟨_,eu,rfl,?_⟩;obtain⟨k,hk,k0,k1⟩:=two (x5 % 21) (x5 % 2) ((QU u).eqv (QU (QM "months"))) Yd Yd Yd Yd;exact⟨_,hk,fin k u k0 k1 (FG u (by
     simp only [QX,Rh,or_false] at hu⊢;rcases hu with h | h | h <;> simp [h]))⟩
   ·exact fin k u k0 k1 (FG u hu)
structure jx (x:De):Prop where
 d0:0<=x.d/\x.d < 100000
 nm:QT x.nm=true
 w:QT x.w=true
 ly:bQ 6 x.enc
 pp:∀p,x= .pap p->QT p.kd=true/\(∀m∈p.ms,QT m=true)/\p.ms.length<=50
 np:∀w d nm r,x= .oth w d nm r->w≠QM "paper"
 hp:∀d nm r,x= .oth (QM "happens") d nm r->∃wd,r=[.str wd]/\QT wd=true
 ru:∀d nm r,x= .oth (QM "rule") d nm r->∃pt:Pt,r=[pt.enc]/\pt.Ok
 ho:∀d nm r,x= .oth (QM "hold") d nm r->∃(ip:Bool)(tn:Str)(dp:Bool),r=[gf ip tn,.bool dp]/\QT tn=true
 le:∀d nm r,x= .oth (QM "leave") d nm r->∃kd,r=[.str kd]/\QT kd=true
 rl:∀w d nm r,x= .oth w d nm r->r.length<=5
def gT(x y:De):Prop:=x≠y/\(∀p q,x= .pap p->y= .pap q->p.nm≠q.nm)/\(x.isE=true->y.isE=true->¬(x.d=y.d/\x.nm=y.nm))/\(x.isL=true->y.isL=true->¬(x.d=y.d/\x.nm=y.nm))/\(x.w=QM "leave"->y.w=QM "leave"->x.nm≠y.nm)
def De.r:De->List Yi
 | .pap p=>[.str p.kd,.tuple (p.ms.map .str)]
 | .oth _ _ _ r=>r
theorem nJ(x:De):x.enc= .tuple (.str x.w:: .int x.d:: .str x.nm::x.r):=by cases x <;> rfl
theorem Oz(x:De):x.isE=true↔x.w=QM "rule"\/x.w=QM "end":=by
 cases x with
 | pap p=>exact⟨λh=>(nomatch h),λh=>absurd h (by show ¬(QM "paper"=_\/QM "paper"=_);decide+kernel)⟩
 | oth w d nm r=>simp [De.isE,De.w]
theorem OA(x:De):x.isL=true↔x.w=QM "hold"\/x.w=QM "lift":=by
 cases x with
 | pap p=>exact⟨λh=>(nomatch h),λh=>absurd h (by show ¬(QM "paper"=_\/QM "paper"=_);decide+kernel)⟩
 | oth w d nm r=>simp [De.isL,De.w]
mutual
theorem Al:∀d:Yi,d.canLay0=true->Rg d d=true
 | .none,_=>by simp [Rg]
 | .bool _,_ | .int _,_ | .str _,_=>by simp [Rg]
 | .list xs,h=>by rw [Rg];exact Am xs (by simpa [RK] using h)
 | .tuple xs,h=>by rw [Rg];exact Am xs (by simpa [RK] using h)
 | .dict _,h=>by simp [RK] at h
theorem Am:∀ds:List Yi,Sx ds=true->SV ds ds=true
 | [],_=>by simp [SV]
 | d::ds,h=>by
  rw [Sx,RW] at h;rw [SV,Al d h.1,Am ds h.2];rfl
end
theorem FH{a b:Int}{s u:Str}:Rg (.tuple [.int a,.str s]) (.tuple [.int b,.str u])=false->¬(a=b/\s=u):=by
 rintro h ⟨rfl,rfl⟩;simp [Rg,SV] at h
def OB:List Yi->(Yi->Prop)->Prop:=λds Q=>∃x y:De,ds=[x.enc,y.enc]/\jx x/\jx y/\∀b:Bool,(b=false->gT x y)->Q (.bool b)
theorem FI(T:Txt K mg t):aA P w K mg base CX0 1 t.a_AD t.d_AD ["_law_one","_law_other"] (aV K OB):=by
 refine T.F_AD.F.okD MV (λds Q h=>?_) (λ_ _ _ _ H O ds Q E hr h=>?_)
 ·obtain⟨x,y,rfl,_⟩:=h;rfl
 ·obtain⟨x,y,rfl,gx,gy,q⟩:=h;refine'⟨_,?A,?B⟩
  case A=>
   refine' ao ?C ?D
   case C=>
    refine' bJ ?E ?F bI
    case E=>exact(aQ (cD hr.units) cE (df (dv 0)) (df (dv 1)) (aF _))
    case F=>refine' aw (aR vz)
   case' D=>refine' ao ?G ?H
   case G=>
    refine' bJ ?I ?J bI
    case I=>exact(PW.pt (fB (aQ (n9 hr) oe (df (ak aG aM (df (dv 0)) (df af))) (df (bH (aa aX (aa aX aj)))) rfl) (fA (aQ (n9 hr) oe (df (ak aG aM (df (dv 1)) (df af))) (df (bH (aa aX (aa aX aj)))) rfl))))
    case' J=>refine' aw ?K
    case' K=>refine' aR ?L
    case L=>exact(dG (cD hr.units) cE (df (n8 (df (dv 0)) (cq af) (cq af))) (df (n8 (df (dv 1)) (cq af) (cq af))) (aF _))
   case' H=>refine' ao ?M ?N
   case M=>
    refine' bJ ?O ?P bI
    case O=>exact(PW.pt (fB (aQ (n9 hr) oe (df (ak aG aM (df (dv 0)) (df af))) (df (bH (aa aX (aa aX aj)))) rfl) (fA (aQ (n9 hr) oe (df (ak aG aM (df (dv 1)) (df af))) (df (bH (aa aX (aa aX aj)))) rfl))))
    case' P=>refine' aw ?Q
    case' Q=>refine' aR ?R
    case R=>exact(dG (cD hr.units) cE (df (n8 (df (dv 0)) (cq af) (cq af))) (df (n8 (df (dv 1)) (cq af) (cq af))) (aF _))
   case' N=>refine' aw ?S
   case' S=>refine' aR ?T
   case T=>exact(qz (dG (cD hr.units) cE (df (ak aG aM (df (dv 0)) (df af))) (df (ak aG aM (df (dv 1)) (df af))) (aF _)) (qz (dG (n9 hr) oe (df (ak aG aM (df (dv 0)) (df af))) (df (bH (aa aX (aa aX aj)))) rfl) (qy (dG (cD hr.units) cE (df (ak aG aM (df (dv 0)) (df af))) (df (ak aG aM (df (dv 1)) (df af))) (aF _)))))
  case B=>
  clear hr T;have ex:=gx.ly.shp Yc;have ey:=gy.ly.shp Yc;have ne:(x.enc).eqv y.enc=false->x≠y:=λh e=>by rw [e,Al _ gy.ly.can] at h;cases h
  have two:∀z:De,QT z.nm=true->Tq (Ry [Rq z.d,QU z.nm])=true:=λz hz=>(fc (n:=1) λy hy=>by
   simp only [QX,Rh,or_false] at hy;rcases hy with rfl | rfl
   ·exact qG
   ·exact iH hz).shp Yc
  have tx:=two x gx.nm;have ty:=two y gy.nm;have ax:=cK.mpr gx.w;have ay:=cK.mpr gy.w;have bx:=cK.mpr gx.nm;have by':=cK.mpr gy.nm
  rw [nJ] at ex;rw [nJ] at ey;have pw:∀z:De,∀p,z= .pap p->z.w=QM "paper":=λz p e=>by rw [e];rfl
  have eE:=Oz;have eL:=OA;have q:∀b:Bool,(b=false->(x.enc).eqv y.enc=false/\(x.w=QM "paper"->y.w=QM "paper"->x.nm≠y.nm)/\((x.w=QM "rule"\/x.w=QM "end")->(y.w=QM "rule"\/y.w=QM "end")->¬(x.d=y.d/\x.nm=y.nm))/\((x.w=QM "hold"\/x.w=QM "lift")->(y.w=QM "hold"\/y.w=QM "lift")->¬(x.d=y.d/\x.nm=y.nm))/\(x.w=QM "leave"->y.w=QM "leave"->x.nm≠y.nm))->Q (.bool b):=λb h=>q b λe=>by
   obtain⟨h1,h2,h3,h4,h5⟩:=h e;refine⟨ne h1,λp q e1 e2=>?_,λa b=>h3 ((eE x).mp a) ((eE y).mp b),λa b=>h4 ((eL x).mp a) ((eL y).mp b),h5⟩;have h2:=h2 (pw x p e1) (pw y q e2);rw [e1,e2] at h2;exact h2
  clear ne pw eE eL two gx gy;rw [nJ,nJ] at q;rw [nJ,nJ];generalize x.w=xw at*;generalize y.w=yw at*;generalize x.d=xd at*;generalize y.d=yd at*;generalize x.nm=xn at*;generalize y.nm=yn at*;generalize x.r=xr at*;generalize y.r=yr at*;walk_at "d";refine⟨ex,ey,?_⟩;clear ex ey;split
  ·exact q true (λe=>by cases e)
  ·rename_i hn;rw [Te] at hn;have E':∀z:Str,(QM "rule"==z || QM "end"==z)=true↔(z=QM "rule"\/z=QM "end"):=λz=>by
    rw [U8,beq_iff_eq,beq_iff_eq];exact⟨λh=>h.imp Eq.symm Eq.symm,λh=>h.imp Eq.symm Eq.symm⟩
   have L':∀z:Str,(QM "hold"==z || QM "lift"==z)=true↔(z=QM "hold"\/z=QM "lift"):=λz=>by
    rw [U8,beq_iff_eq,beq_iff_eq];exact⟨λh=>h.imp Eq.symm Eq.symm,λh=>h.imp Eq.symm Eq.symm⟩
   have nw:∀{z:Str},(z=QM "rule"\/z=QM "end")\/(z=QM "hold"\/z=QM "lift")->z≠QM "paper"/\z≠QM "leave":=λ{z} h=>by
    rcases h with(h | h) | (h | h) <;> subst h <;> decide+kernel
   have cut:(xw=QM "rule"\/xw=QM "end")\/(xw=QM "hold"\/xw=QM "lift")->Q (UL ((Ry [Rq xd,QU xn]).eqv (Ry [Rq yd,QU yn]))):=λhx=>q _ λe=>⟨hn,λa=>absurd a (nw hx).1,λ_ _=>FH e,λ_ _=>FH e,λa=>absurd a (nw hx).2⟩;have tl:¬((xw=QM "rule"\/xw=QM "end")/\(yw=QM "rule"\/yw=QM "end"))->¬((xw=QM "hold"\/xw=QM "lift")/\(yw=QM "hold"\/yw=QM "lift"))->Tq (QU xw)=true/\Tq (QU yw)=true/\(if (xw==yw)=true then(if (QM "paper"==xw || QM "leave"==xw)=true then Tq (QU xn)=true/\Tq (QU yn)=true/\Q (UL (xn==yn)) else Q (UL false)) else Q (UL false)):=λhE hL=>by
    refine⟨ax,ay,?_⟩;split
    ·rename_i h;split
     ·exact⟨bx,by',q _ λe=>⟨hn,λ_ _=>by simpa using e,λa b=>absurd ⟨a,b⟩ hE,λa b=>absurd ⟨a,b⟩ hL,λ_ _=>by simpa using e⟩⟩
     ·rename_i h2;exact q _ λ_=>⟨hn,λa=>absurd (by rw [a];simp) h2,λa b=>absurd ⟨a,b⟩ hE,λa b=>absurd ⟨a,b⟩ hL,λa=>absurd (by rw [a];simp) h2⟩
    ·rename_i h;exact q _ λ_=>⟨hn,λa b=>absurd (by rw [a,b];simp) h,λa b=>absurd ⟨a,b⟩ hE,λa b=>absurd ⟨a,b⟩ hL,λa b=>absurd (by rw [a,b];simp) h⟩
   clear q ax ay bx by'
   split
   ·rename_i h1;split
    ·exact⟨tx,ty,cut (.inl ((E' _).mp h1))⟩
    ·rename_i h2;split
     ·rename_i h3;split
      ·exact⟨tx,ty,cut (.inl ((E' _).mp h1))⟩
      ·rename_i h4;exact tl (λz=>h2 ((E' _).mpr z.2)) (λz=>h4 ((L' _).mpr z.2))
     ·rename_i h3;exact tl (λz=>h2 ((E' _).mpr z.2)) (λz=>h3 ((L' _).mpr z.1))
   ·rename_i h1;split
    ·rename_i h3;split
     ·exact⟨tx,ty,cut (.inr ((L' _).mp h3))⟩
     ·rename_i h4;exact tl (λz=>h1 ((E' _).mpr z.1)) (λz=>h4 ((L' _).mpr z.2))
    ·rename_i h3;exact tl (λz=>h1 ((E' _).mpr z.1)) (λz=>h3 ((L' _).mpr z.1))
def OC:List Yi->(Yi->Prop)->Prop:=λds Q=>∃x:Int,ds=[.int x]/\∀n0 n1 n2 n3 n4 n5 n6:Str,(∀z∈[n0,n1,n2,n3,n4,n5,n6],QT z=true)->Q (.tuple [.list [.str n0,.str n1,.str n2,.str n3,.str n4,.str n5],.list [.str n1,.str n2,.str n3],.list [.str n2,.str n3],.list [.str n2,.str n3,.str n4,.str n5,.str n6]])
theorem OD(T:Txt K mg t):aA P w K mg base CX0 2 t.a_AF t.d_AF ["_law_x"] (aV K OC):=by
 have G_x:=@Oq P w _ _ base _ T;refine T.F_AF.F.okD D8 (λds Q h=>?_) (λ_ _ _ _ H O ds Q E hr h=>?_)
 ·obtain⟨x,rfl,_⟩:=h;rfl
 ·obtain⟨x,rfl,q⟩:=h;refine'⟨_,?A,?B⟩
  case A=>
   refine' ao ?C ?D
   case C=>exact(bf (i:=1) D8.nd rfl Yg (PE.imp (aE G_x (hr.mono Yc) rfl T.F_x (aa (dv 0) (aa af aj))) aN))
   case' D=>refine' aw ?E
   case' E=>generalize hG4:XG _ _ _=eg4
   refine' aR ?F
   case' F=>subst hG4
   refine' bH ?G
   case' G=>refine' aa ?H ?I
   case H=>exact(fe (iG (df (dv 1)) hU (cq af)))
   case' I=>refine' aa ?J ?K
   case J=>exact(fe (iG (df (dv 1)) (cq af) (cq af)))
   case' K=>refine' aa ?L ?M
   case L=>exact(fe (iG (df (dv 1)) (cq af) (cq af)))
   case' M=>refine' aa ?N aj
   case N=>exact(fe (iG (df (dv 1)) (cq af) (cq af)))
  case B=>
  clear hr T G_x;walk_at "d";refine⟨x,7,rfl,Yd,Yd,λss sl sok=>?_⟩;obtain⟨n0,n1,n2,n3,n4,n5,n6,rfl⟩:∃a b c d e f g,ss=[a,b,c,d,e,f,g]:=by
   match ss,(show ss.length=7 by omega) with
   | [a,b,c,d,e,f,g],_=>exact⟨_,_,_,_,_,_,_,rfl⟩
  walk_at "d";exact q n0 n1 n2 n3 n4 n5 n6 sok
def ij:List Str:=[QM "paper",QM "paper",QM "paper",QM "paper",QM "paper",QM "rule",QM "rule",QM "rule",QM "rule",QM "rule",QM "happens",QM "happens",QM "happens",QM "hold",QM "hold",QM "end",QM "lift",QM "leave",QM "leave"]
def OE:List Yi->(Yi->Prop)->Prop:=λds Q=>ds=[]/\Q (.list (ij.map .str))
theorem OF(T:Txt K mg t):aA P w K mg base CX0 1 t.a_AG t.d_AG [] (aV K OE):=by
 refine T.F_AG.F.okD D9 (λds Q h=>?_) (λ_ _ _ _ H O ds Q E hr h=>?_)
 ·obtain⟨rfl,_⟩:=h;rfl
 ·obtain⟨rfl,q⟩:=h;refine'⟨_,?A,?B⟩
  case A=>
   refine' ao ?C ?D
   case C=>
    generalize hG2:Wg _ _ _ _=eg2;refine' bf (i:=0) D9.nd rfl Yg ?E (hs:=by subst hG2;exact iI)
    case' E=>subst hG2
    refine' fe ?F
    case' F=>refine' nW (df ?G) (df ?H)
    case G=>
     refine' fe ?I
     case' I=>refine' nW (df ?J) (df ?K)
     case J=>exact(fe (wa (n:=5) Yc (bW (aa aX aj))))
     case K=>exact(fe (wa (n:=5) Yc (bW (aa aX aj))))
    case H=>exact(fe (wa (n:=3) Yc (bW (aa aX aj))))
   case' D=>refine' aw ?L
   case' L=>generalize hE11_0:Xd _ _=ee11_0
   exact(aR (fe (nW (df (dv 0)) (df (fe (vE (ds:=[.str "hold",.str "hold",.str "end",.str "lift",.str "leave",.str "leave"]) (by first | (subst hE11_0;rfl))))))))
  case B=>
  clear hr T;walk_at "d";refine⟨?_,?_,?_,q⟩
  ·show(10:Nat)<=16777216;decide
  ·show(13:Nat)<=16777216;decide
  ·show(13:Nat)<=16777210;decide
end
local macro_rules | `(tactic| walk_at "g") =>rzT (rzS++" _K.atI_c5 _K.atI_c6 _K.atI_c7 _K.atI_c8 _K.day_iff _K.cell_iff _K.numbers_iff true_and")
theorem FJ:bb (av tY) ["_law_sort","_law_xs","_law_pools_here","_law_far_here","_law_names","_law_kinds","_law_words","_law_rules","_law_day_here","_law_some","_law_target"] ["_law_k","_law_names","_law_xs"] 1 [4,1] ⟨QW,[ (QP ".0",ZX),(QP "_law_k",ZX),(QP "_law_names",Q3),(QP "_law_xs",Q3)],false,false,[]⟩:=⟨rfl,Yb,Yb,Yb,rfl,Yb,Yb,Yb,rfl⟩
section
variable {P:Yu} {w:Yv} {K:QN} {mg:Str->Option Yj} {base:Yw} {t:cg}
theorem OG{a b:Str}(ha:QT a=true)(hb:QT b=true):bQ 2 (.tuple [.str a,.str b]):=fc (bS (iH ha) (bS (iH hb) fD))
theorem FK{w nm:Str}{d:Int}{r:List Yi}(hw:QT w=true)(hn:QT nm=true)(hr:∀y∈r,bQ 5 y):bQ 6 (.tuple (.str w:: .int d:: .str nm::r)):=
 fc (bS ((iH hw).mono Yc) (bS (qG.mono Yc) (bS ((iH hn).mono Yc) hr)))
structure OH (w:Str) (r:List Yi):Prop where
 np:w≠QM "paper"
 hp:w=QM "happens"->∃wd,r=[.str wd]/\QT wd=true
 ru:w=QM "rule"->∃pt:Pt,r=[pt.enc]/\pt.Ok
 ho:w=QM "hold"->∃(ip:Bool)(tn:Str)(dp:Bool),r=[gf ip tn,.bool dp]/\QT tn=true
 le:w=QM "leave"->∃kd,r=[.str kd]/\QT kd=true
 ln:r.length<=5
theorem ri{w nm:Str}{d:Int}{r:List Yi}(d0:0<=d/\d < 100000)(hw:QT w=true)(hn:QT nm=true)(hr:∀y∈r,bQ 5 y)(o:OH w r):jx (.oth w d nm r):=by
 refine⟨d0,hn,hw,FK hw hn hr,λp e=>(by cases e),λw' d' nm' r' e=>(by cases e;exact o.np),λd' nm' r' e=>(by cases e;exact o.hp rfl),λd' nm' r' e=>(by cases e;exact o.ru rfl),λd' nm' r' e=>(by cases e;exact o.ho rfl),λd' nm' r' e=>(by cases e;exact o.le rfl),λw' d' nm' r' e=>(by cases e;exact o.ln)⟩
theorem OI{p:Pp}(d0:0<=p.d/\p.d < 100000)(hn:QT p.nm=true)(hk:QT p.kd=true)(hm:∀m∈p.ms,QT m=true)(hl:p.ms.length<=50):jx (.pap p):=by
 refine⟨d0,hn,xW,FK xW hn (bS ((iH hk).mono Yc) (bS ((fc (sN (n:=1) hm)).mono Yc) fD)),λp' e=>(by cases e;exact⟨hk,hm,hl⟩),λw' d' nm' r' e=>(by cases e),λd' nm' r' e=>(by cases e),λd' nm' r' e=>(by cases e),λd' nm' r' e=>(by cases e),λd' nm' r' e=>(by cases e),λw' d' nm' r' e=>(by cases e)⟩
theorem OJ:∀z∈ij,QT z=true:=by
 intro z hz;have h:z∈([QM "paper",QM "rule",QM "happens",QM "hold",QM "end",QM "lift",QM "leave"]:List Str):=by
  simp only [ij,QX,Rh,or_false] at hz⊢;rcases hz with h | h | h | h | h | h | h | h | h | h | h | h | h | h | h | h | h | h | h <;> simp only [h,true_or,or_true]
 simp only [QX,Rh,or_false] at h;rcases h with rfl | rfl | rfl | rfl | rfl | rfl | rfl <;> decide+kernel
theorem OL(ss:List Str)(lo hi:Option Int):∃ms:List Str,cV (ss.map QU) lo hi=ms.map .str/\(∀m∈ms,m∈ss)/\ms.length<=ss.length:=by
 unfold cV;rw [<-V0,<-TU];exact⟨_,rfl,λm hm=>WS (Us hm),by rw [RA,Ts];omega⟩
def An(n0 n1 n2 n3 n4 n5 n6:Str):Yi:= .tuple [.list [.str n0,.str n1,.str n2,.str n3,.str n4,.str n5],.list [.str n1,.str n2,.str n3],.list [.str n2,.str n3],.list [.str n2,.str n3,.str n4,.str n5,.str n6]]
def OM:List Yi->(Yi->Prop)->Prop:=λds Q=>∃(so:Str)(x0 x1 x2 x3 x4 x5 x6 x7 x8:Int)(n0 n1 n2 n3 n4 n5 n6:Str)(f:Bool),ds=[.str so,.list [.int x0,.int x1,.int x2,.int x3,.int x4,.int x5,.int x6,.int x7,.int x8],An n0 n1 n2 n3 n4 n5 n6,.bool f]/\so∈ij/\0<=x0/\(∀z∈[n0,n1,n2,n3,n4,n5,n6],QT z=true)/\∀x:De,jx x->x.w=so->Q x.enc
theorem ON(T:Txt K mg t):aA P w K mg base CX0 3 t.a_AE t.d_AE ["_law_sort","_law_xs","_law_pools_here","_law_far_here"] (aV K OM):=by
 have G_AA:=@Ot P w _ _ base _ T;have G_AC:=@Oy P w _ _ base _ T;refine T.F_AE.F.okD nH (λds Q h=>?_) (λ_ _ _ _ H O ds Q E hr h=>?_)
 ·obtain⟨so,x0,x1,x2,x3,x4,x5,x6,x7,x8,n0,n1,n2,n3,n4,n5,n6,f,rfl,_⟩:=h;rfl
 ·obtain⟨so,x0,x1,x2,x3,x4,x5,x6,x7,x8,n0,n1,n2,n3,n4,n5,n6,f,rfl,hso,h0,hok,q⟩:=h;refine'⟨_,?A,?B⟩
  case A=>
   refine' ao ?C ?D
   case C=>exact(BU (dv 2) (gm (n:=4) rfl (bZ (aK (i:=4) nH.nd rfl Yg) (bZ (aK (i:=5) nH.nd rfl Yg) (bZ (aK (i:=6) nH.nd rfl Yg) (bZ (aK (i:=7) nH.nd rfl Yg) gj))))) (gG (b5 aL (b5 aL (b5 aL (b5 aL gF))))))
   case' D=>refine' ao ?E ?F
   case E=>exact(bf (i:=8) nH.nd rfl Yg (PE.imp (aE G_AA (hr.mono Yc) rfl T.F_AA (aa (ak aP aS (df (dv 1)) (df af)) (aa (dv 3) aj))) aN))
   case' F=>refine' ao ?G ?H
   case G=>
    refine' bJ ?I ?J bI
    case I=>exact(aQ (cz hr) cA (df (dv 0)) (df aX) (aF _))
    case' J=>refine' ao ?K ?L
    case K=>exact(hW (i:=9) nH.nd rfl Yg (Cf rfl FJ rfl T.n_range (bj (df (PE.imp (bU dO rfl T.n_len R0 (bj (df (dv 4)) br)) (bz eF))) br) aL bM Yc (λ_ _ _ _=>(aK (i:=0) FJ.nd rfl Yg)) (λ_ _ _ _=>(cZ (PW.pt (fB (aQ (cD hr.units) cE (df (ar Dm sY (df (ar Dk sY (df (ak aP aS (df (dv 2)) (df af))) (df (dv 0)))) (df af))) (df af) (aF _)) (fA (aQ (cD hr.units) cE (df (ar Dm sY (df (ar Dk sY (df (ak aP aS (df (dv 2)) (df af))) (df (dv 0)))) (df af))) (df af) (aF _))))))) (λ_ _ _ _=>(ak aP aS (df (dv 1)) (df (dv 0))))))
    case' L=>refine' aw ?M
    case' M=>generalize hG10:XG _ _ _=eg10
    refine' aR ?N
    case' N=>subst hG10
    refine' bH ?O
    case' O=>refine' aa aX ?P
    case' P=>refine' aa (dv 8) ?Q
    case' Q=>refine' aa ?R ?S
    case R=>
     refine' ak aP aS (df (dv 4)) ?T
     case T=>exact(df (ar aW aD (df (ak aP aS (df (dv 1)) (df af))) (df (PE.imp (bU dO rfl T.n_len R0 (bj (df (dv 4)) br)) (bz eF)))))
    case' S=>refine' aa ?U ?V
    case U=>
     refine' ak aP aS (df (dv 5)) ?W
     case W=>exact(df (ar aW aD (df (ar aW aD (df (ak aP aS (df (dv 1)) (df af))) (df af))) (df (PE.imp (bU dO rfl T.n_len R0 (bj (df (dv 5)) br)) (bz eF)))))
    case' V=>refine' aa ?X aj
    case X=>exact(PE.imp (cT fN rfl T.n_tuple fP (bj (df (fe (iG (df (fe (Kl rfl T.n_sorted Tc (bj (df (dv 9)) br)))) hU (cq af)))) br)) (bz fS))
   case' H=>refine' ao ?Y ?Z
   case Y=>
    refine' bJ ?a ?b bI
    case a=>exact(aQ (cz hr) cA (df (dv 0)) (df aX) (aF _))
    case' b=>refine' aw ?c
    case' c=>refine' aR ?d
    case' d=>refine' bH ?e
    case' e=>refine' aa aX ?f
    case' f=>refine' aa (dv 8) ?g
    case' g=>refine' aa ?h ?i
    case h=>
     refine' ak aP aS (df (dv 4)) ?j
     case j=>exact(df (ar aW aD (df (ak aP aS (df (dv 1)) (df af))) (df (PE.imp (bU dO rfl T.n_len R0 (bj (df (dv 4)) br)) (bz eF)))))
    case' i=>refine' aa ?k aj
    case' k=>refine' ak aP aS (df (dv 6)) ?l
    case l=>exact(df (ar aW aD (df (ak aP aS (df (dv 1)) (df af))) (df af)))
   case' Z=>refine' ao ?m ?n
   case m=>
    refine' bJ ?o ?p bI
    case o=>exact(aQ (cz hr) cA (df (dv 0)) (df aX) (aF _))
    case' p=>refine' aw ?q
    case' q=>refine' aR ?r
    case' r=>refine' bH ?s
    case' s=>refine' aa aX ?t
    case' t=>refine' aa (dv 8) ?u
    case' u=>refine' aa ?v ?w
    case v=>
     refine' ak aP aS (df (dv 7)) ?x
     case x=>exact(df (ar aW aD (df (ak aP aS (df (dv 1)) (df af))) (df (PE.imp (bU dO rfl T.n_len R0 (bj (df (dv 7)) br)) (bz eF)))))
    case' w=>refine' aa ?y aj
    case y=>exact(PE.imp (aE G_AC (hr.mono Yc) rfl T.F_AC (aa (dv 1) (aa (dv 5) (aa (dv 6) (aa (dv 3) aj))))) aN)
   case' n=>refine' ao ?z ?A0
   case z=>
    refine' bJ ?A1 ?A2 bI
    case A1=>exact(aQ (cz hr) cA (df (dv 0)) (df aX) (aF _))
    case' A2=>refine' ao ?A3 ?A4
    case A3=>
     generalize hG59:UW _ _ _=eg59;refine' bf (i:=10) nH.nd rfl Yg ?A5 (hs:=by subst hG59;exact oh)
     case' A5=>subst hG59
     refine' ak aP aS (df ?A6) ?A7
     case A6=>
      refine' fe ?A8
      case' A8=>refine' bW ?A9
      case' A9=>refine' aa ?AA ?AB
      case AA=>
       refine' bH ?AC
       case' AC=>refine' aa aX ?AD
       case' AD=>refine' aa ?AE aj
       case' AE=>refine' ak aP aS (df (dv 4)) ?AF
       case AF=>exact(df (ar aW aD (df (ak aP aS (df (dv 1)) (df af))) (df (PE.imp (bU dO rfl T.n_len R0 (bj (df (dv 4)) br)) (bz eF)))))
      case' AB=>refine' aa ?AG aj
      case' AG=>refine' bH ?AH
      case' AH=>refine' aa aX ?AI
      case' AI=>refine' aa ?AJ aj
      case' AJ=>refine' ak aP aS (df (dv 5)) ?AK
      case AK=>exact(df (ar aW aD (df (ak aP aS (df (dv 1)) (df af))) (df (PE.imp (bU dO rfl T.n_len R0 (bj (df (dv 5)) br)) (bz eF)))))
     case A7=>exact(df (ar aW aD (df (ak aP aS (df (dv 1)) (df af))) (df af)))
    case' A4=>refine' aw ?AL
    case' AL=>generalize hG81:XG _ _ _=eg81
    refine' aR ?AM
    case' AM=>subst hG81
    refine' bH ?AN
    case' AN=>refine' aa aX ?AO
    case' AO=>refine' aa (dv 8) ?AP
    case' AP=>refine' aa ?AQ ?AR
    case AQ=>
     refine' ak aP aS (df (dv 7)) ?AS
     case AS=>exact(df (ar aW aD (df (ak aP aS (df (dv 1)) (df af))) (df af)))
    case' AR=>refine' aa (dv 10) ?AT
    case' AT=>refine' aa ?AU aj
    case AU=>exact(dG (cD hr.units) cE (df (ar aW aD (df (ak aP aS (df (dv 1)) (df af))) (df af))) (df af) (aF _))
   case' A0=>refine' ao ?AV ?AW
   case AV=>
    refine' bJ ?AX ?AY bI
    case AX=>exact(aQ (cz hr) cA (df (dv 0)) (df aX) (aF _))
    case' AY=>refine' aw ?AZ
    case' AZ=>refine' aR ?Aa
    case' Aa=>refine' bH ?Ab
    case' Ab=>refine' aa aX ?Ac
    case' Ac=>refine' aa (dv 8) ?Ad
    case' Ad=>refine' aa ?Ae ?Af
    case Ae=>
     refine' ak aP aS (df (dv 4)) ?Ag
     case Ag=>exact(df (ar aW aD (df (ak aP aS (df (dv 1)) (df af))) (df (PE.imp (bU dO rfl T.n_len R0 (bj (df (dv 4)) br)) (bz eF)))))
    case' Af=>refine' aa ?Ah aj
    case' Ah=>refine' ak aP aS (df (dv 5)) ?Ai
    case Ai=>exact(df (ar aW aD (df (ar aW aD (df (ak aP aS (df (dv 1)) (df af))) (df af))) (df (PE.imp (bU dO rfl T.n_len R0 (bj (df (dv 5)) br)) (bz eF)))))
   case' AW=>refine' aw ?Aj
   case' Aj=>refine' aR ?Ak
   case' Ak=>refine' bH ?Al
   case' Al=>refine' aa (dv 0) ?Am
   case' Am=>refine' aa (dv 8) ?An
   case' An=>refine' aa ?Ao aj
   case' Ao=>refine' ak aP aS (df (dv 7)) ?Ap
   case Ap=>exact(df (ar aW aD (df (ak aP aS (df (dv 1)) (df af))) (df (ak aP aS (df (fe (bW (aa (PE.imp (bU dO rfl T.n_len R0 (bj (df (dv 7)) br)) (bz eF)) (aa af aj))))) (df (PE.imp (cT qr rfl T.n_int qx (bj (df (dG (cz hr) cA (df (dv 0)) (df aX) (aF _))) br)) (bz qC)))))))
  case B=>
  clear hr T G_AA G_AC;simp only [An];generalize hB:fR (iA _ _ _) _=TB;walk_at "g";refine⟨h0,λd d0=>?_⟩;subst hB;have six:∀i:Int,0<=i->i < 6->∃nm,atI [QU n0,QU n1,QU n2,QU n3,QU n4,QU n5] i=some (.str nm)/\QT nm=true:=λi i0 i1=>by
   obtain⟨nm,hm,e⟩:=lJ [n0,n1,n2,n3,n4,n5] i0 (show i < ((6:Nat):Int) by omega);exact⟨nm,e,hok nm (by simp only [QX,Rh,or_false] at hm⊢;rcases hm with h | h | h | h | h | h <;> simp only [h,true_or,or_true])⟩
  have thr:∀i:Int,0<=i->i < 3->∃nm,atI [QU n1,QU n2,QU n3] i=some (.str nm)/\QT nm=true:=λi i0 i1=>by
   obtain⟨nm,hm,e⟩:=lJ [n1,n2,n3] i0 (show i < ((3:Nat):Int) by omega);exact⟨nm,e,hok nm (by simp only [QX,Rh,or_false] at hm⊢;rcases hm with h | h | h <;> simp only [h,true_or,or_true])⟩
  have fiv:∀i:Int,0<=i->i < 5->∃nm,atI [QU n2,QU n3,QU n4,QU n5,QU n6] i=some (.str nm)/\QT nm=true:=λi i0 i1=>by
   obtain⟨nm,hm,e⟩:=lJ [n2,n3,n4,n5,n6] i0 (show i < ((5:Nat):Int) by omega);exact⟨nm,e,hok nm (by simp only [QX,Rh,or_false] at hm⊢;rcases hm with h | h | h | h | h <;> simp only [h,true_or,or_true])⟩
  have l1:∀{s:Str},QT s=true->bQ 5 (.str s):=λh=>(iH h).mono Yc;refine q5 λR hR=>?_;walk_at "g";split
  ·rename_i e;refine⟨Yc,Yc,λi acc=>∃ss:List Str,acc=ss.map .str/\ss.length<=i/\∀z∈ss,QT z=true,⟨[],rfl,QQ _,Yh⟩,?_,?_⟩
   ·rintro i z acc hz ⟨ss,rfl,sl,sok⟩;obtain⟨hi,rfl⟩:=qD hz;have hi:i < 6:=hi;obtain⟨nm,en,hn⟩:=six (0+(i:Int)) Yd Yd;walk_at "d";have no:∃ss_1:List Str,RU QU ss=RU QU ss_1/\ss_1.length<=i+1/\∀(z:Str),z∈ss_1->QT z=true:=⟨ss,rfl,Yd,sok⟩;refine⟨⟨_,rfl⟩,Yd,λ_ r=>?_⟩;split
    ·refine⟨⟨_,rfl⟩,Yd,λ_ r=>?_⟩;split
     ·refine⟨_,en,ss++[nm],by rw [Rf];rfl,by rw [Q2,S5];omega,λz hz=>?_⟩;rcases Q9.mp hz with h | h
      ·exact sok z h
      ·rw [Ra] at h;rw [h];exact hn
     ·exact no
    ·exact no
   ·rintro acc ⟨ss,rfl,sl,sok⟩;rw [vB] at sl;have sl:ss.length<=6:=sl;obtain⟨nm,en,hn⟩:=six (x1 % 6) Yd Yd;obtain⟨kd,ek,hk⟩:=thr (x2 % 3 % 3) Yd Yd;refine⟨Yc,_,en,Yc,_,ek,ss,rfl,Yd,?_⟩;obtain⟨ms,em,m1,m2⟩:=OL (fg ss) none (some 4);have sp:=ku ss;rw [em];exact q (.pap ⟨d,nm,kd,ms⟩) (OI d0 hn hk (λm hm=>sok m (sp.mem_iff.mp (m1 m hm))) (by rw [sp.length_eq] at m2;show ms.length<=50;omega)) (eq_of_beq e).symm
  ·rename_i ep;subst hR;refine q5 λR hR=>?_;walk_at "g";split
   ·rename_i e;obtain⟨nm,en,hn⟩:=six (x1 % 6) Yd Yd;obtain⟨kd,hk,ek⟩:=lJ [n2,n3] (i:=x2 % 2) Yd (by show _ < ((2:Nat):Int);omega);have hk:QT kd=true:=hok kd (by simp only [QX,Rh,or_false] at hk⊢;rcases hk with h | h <;> simp only [h,true_or,or_true]);exact⟨Yc,_,en,_,ek,q (.oth (QM "happens") d nm [.str kd]) (ri d0 Yb hn (bS (l1 hk) fD) ⟨Yb,λ_=>⟨kd,rfl,hk⟩,λh=>absurd h Yb,λh=>absurd h Yb,λh=>absurd h Yb,Yh⟩) (eq_of_beq e).symm⟩
   ·rename_i eh;subst hR;refine q5 λR hR=>?_;walk_at "g";split
    ·rename_i e;obtain⟨nm,en,hn⟩:=fiv (x1 % 5) Yd Yd;refine⟨Yc,_,en,x0,x1,x2,x3,x4,x5,x6,x7,x8,n1,n2,n3,n2,n3,f,rfl,λz hz=>hok z ?_,λpt hpt=>?_⟩
     ·simp only [QX,Rh,or_false] at hz⊢;rcases hz with h | h | h | h | h <;> simp only [h,true_or,or_true]
     ·exact q (.oth (QM "rule") d nm [pt.enc]) (ri d0 Yb hn (bS ((Pt.lay hpt).mono Yc) fD) ⟨Yb,λh=>absurd h Yb,λ_=>⟨pt,rfl,hpt⟩,λh=>absurd h Yb,λh=>absurd h Yb,Yh⟩) (eq_of_beq e).symm
    ·rename_i er;subst hR;refine q5 λR hR=>?_;walk_at "g";split
     ·rename_i e;obtain⟨nm,en,hn⟩:=six (x2 % 6) Yd Yd;obtain⟨kd,ek,hk⟩:=thr (x2 % 3) Yd Yd;obtain⟨ho,eo,hh⟩:=fiv (x1 % 2) Yd Yd;obtain⟨v,ev,hv⟩:=qw (xs:=[Ry [QU (QM "paper"),.str nm],Ry [QU (QM "kind"),.str kd]]) (i:=x3 % 2) Yd (by show _ < ((2:Nat):Int);omega);have lv:∃(ip:Bool)(z:Str),v=gf ip z/\QT z=true:=by
       simp only [QX,Rh,or_false] at hv;rcases hv with rfl | rfl
       ·exact⟨true,nm,rfl,hn⟩
       ·exact⟨false,kd,rfl,hk⟩
      obtain⟨ip,z,rfl,hz⟩:=lv;have ly:bQ 5 (gf ip z):=(OG (by cases ip <;> decide+kernel) hz).mono Yc;exact⟨Yc,_,en,Yc,_,ek,_,ev,_,eo,q (.oth (QM "hold") d ho [gf ip z,.bool (x4 % 2==0)]) (ri d0 Yb hh (bS ly (bS (Kd.mono Yc) fD)) ⟨Yb,λh=>absurd h Yb,λh=>absurd h Yb,λ_=>⟨ip,z,_,rfl,hz⟩,λh=>absurd h Yb,Yh⟩) (eq_of_beq e).symm⟩
     ·rename_i eo;subst hR;refine q5 λR hR=>?_;walk_at "g";split
      ·rename_i e;obtain⟨nm,en,hn⟩:=six (x1 % 6) Yd Yd;obtain⟨kd,ek,hk⟩:=thr (x2 % 3 % 3) Yd Yd;exact⟨Yc,_,en,Yc,_,ek,q (.oth (QM "leave") d nm [.str kd]) (ri d0 Yb hn (bS (l1 hk) fD) ⟨Yb,λh=>absurd h Yb,λh=>absurd h Yb,λh=>absurd h Yb,λ_=>⟨kd,rfl,hk⟩,Yh⟩) (eq_of_beq e).symm⟩
      ·rename_i el;have fin:∀m:Int,0 < m->m<=5->∃x_1,atI [QU n2,QU n3,QU n4,QU n5,QU n6] (x1 % m)=some x_1/\Q (Ry [QU so,Rq d,x_1]):=λm m0 m5=>by
        obtain⟨nm,en,hn⟩:=fiv (x1 % m) (TQ _ Yd) (Int.lt_of_lt_of_le (Td _ m0) m5);exact⟨_,en,q (.oth so d nm []) (ri d0 (OJ so hso) hn fD ⟨λh=>ep (by rw [h];rfl),λh=>absurd (by rw [h];rfl) eh,λh=>absurd (by rw [h];rfl) er,λh=>absurd (by rw [h];rfl) eo,λh=>absurd (by rw [h];rfl) el,Yh⟩) rfl⟩
       subst hR;walk_at "g";split
       ·exact⟨_,eJ,2,rfl,Yc,fin 2 Yc Yc⟩
       ·exact⟨_,dH,5,rfl,Yc,fin 5 Yc Yc⟩
end
theorem FL:bb (av tZ) ["_law_script","_law_at","_law_far_here","_law_head","_law_pools_here","_law_found","_law_k","_law_sort","_law_xs","_law_deed_here","_law_turn"] ["_law_other","_law_deed_here"] 1 [9] ⟨QW,[ (QP ".0",ZX),(QP "_law_other",ZX),(QP "_law_quarrel",Rr),(QP "_law_deed_here",Q3)],false,false,[]⟩:=⟨rfl,Yb,Yb,Yb,rfl,Yb,Yb,Yb,rfl⟩
section
variable {P:Yu} {w:Yv} {K:QN} {mg:Str->Option Yj} {base:Yw} {t:cg}
theorem FN{ns:List Int}(h:(ns.length:Int)=4):∃a b c d,ns=[a,b,c,d]:=by
 match ns,(show ns.length=4 by omega) with
 | [a,b,c,d],_=>exact⟨_,_,_,_,rfl⟩
theorem OO{ns:List Int}(h:(ns.length:Int)=9):∃a0 a1 a2 a3 a4 a5 a6 a7 a8,ns=[a0,a1,a2,a3,a4,a5,a6,a7,a8]:=by
 match ns,(show ns.length=9 by omega) with
 | [a0,a1,a2,a3,a4,a5,a6,a7,a8],_=>exact⟨_,_,_,_,_,_,_,_,_,rfl⟩
theorem FO{f:De->Bool}{s:Str}(h:∀x,f x=true->x.w=s):∀xs:List De,(xs.filter f).length<=((xs.map De.w).filter (·==s)).length
 | []=>QQ _
 | x::xs=>by
  have ih:=FO h xs;rw [RI,QR,RI];by_cases hf:f x=true
  ·rw [Yf hf,Yf (by rw [h x hf];exact beq_self_eq_true _)];exact Wq ih
  ·rw [Ye hf];split
   ·exact UR ih
   ·exact ih
theorem Ao{f:De->Bool}{s:Str}{n:Nat}{xs:List De}(sl:(xs.map De.w).Sublist ij)(hn:(ij.filter (·==s)).length=n)(h:∀x,f x=true->x.w=s):(xs.filter f).length<=n:=by
 rw [<-hn];exact Rj (FO h xs) (sl.filter _).length_le
theorem gT.symm{x y:De}(h:gT x y):gT y x:=⟨λe=>h.1 e.symm,λp q e1 e2 e=>h.2.1 q p e2 e1 e.symm,λa b e=>h.2.2.1 b a ⟨e.1.symm,e.2.symm⟩,λa b e=>h.2.2.2.1 b a ⟨e.1.symm,e.2.symm⟩,λa b e=>h.2.2.2.2 b a e.symm⟩
structure Dr (np nr nh:Nat) (xs:List De):Prop where
 it:∀x∈xs,jx x
 pw:xs.Pairwise gT
 ln:xs.length<=20
 cP:(aC xs).length<=np
 cR:(xs.filter De.isR).length<=nr
 cH:(xs.filter De.isH).length<=nh
theorem Dr.of{xs:List De}(it:∀x∈xs,jx x)(pw:xs.Pairwise gT)(sl:(xs.map De.w).Sublist ij):Dr 5 5 3 xs/\xs.length<=19:=by
 have ln:xs.length<=19:=by have:=sl.length_le;rwa [QO] at this
 have pl:(aC xs).length<=5:=by
  have h1:=Ao (f:=iR λ_=>true) sl (n:=5) (s:=QM "paper") Yb (λx hx=>by cases x with | pap p=>rfl | oth=>cases hx);have h2:=congrArg VM (pP (f:=λ_=>true) xs);rw [fI,QO,QO] at h2;omega
 refine⟨⟨it,pw,Yd,pl,?_,?_⟩,ln⟩
 ·exact Ao sl (s:=QM "rule") Yb (λx hx=>by cases x with | pap p=>cases hx | oth w d nm r=>exact eq_of_beq hx)
 ·exact Ao sl (s:=QM "happens") Yb (λx hx=>by cases x with | pap p=>cases hx | oth w d nm r=>exact eq_of_beq hx)
theorem Dr.perm{np nr nh:Nat}{xs ys:List De}(d:Dr np nr nh xs)(h:ys.Perm xs):Dr np nr nh ys:=
 ⟨λx hx=>d.it x (h.mem_iff.mp hx),(h.pairwise_iff λz=>z.symm).mpr d.pw,by rw [h.length_eq];exact d.ln,by unfold aC;rw [(h.filterMap _).length_eq];exact d.cP,by rw [(h.filter _).length_eq];exact d.cR,by rw [(h.filter _).length_eq];exact d.cH⟩
theorem Dr.good{np nr nh:Nat}{xs:List De}(h:Dr np nr nh xs):bO xs:=by
 have it:=h.it;have pw:=h.pw;have ln:=h.ln;clear h;have pg:∀p∈aC xs,jx (.pap p):=λp hp=>it _ (Ew.mp hp);have pl:(aC xs).length<=xs.length:=Vi De.pp xs;have two:∀{A:De->De->Prop},(∀x y,gT x y->¬A x y)->(∀x y,A x y->A y x)->∀x∈xs,∀y∈xs,A x y->x=y:=λ{A} h sy x hx y hy a=>by
  clear it pg pl ln
  induction xs with
  | nil=>cases hx
  | cons z xs ih=>
   rw [So] at pw;rcases QX.mp hx with e1 | h1
   ·rcases QX.mp hy with e2 | h2
    ·rw [e1,e2]
    ·exact absurd (by rw [<-e1];exact a) (h z y (pw.1 y h2))
   ·rcases QX.mp hy with e2 | h2
    ·exact absurd (by rw [<-e2];exact sy _ _ a) (h z x (pw.1 x h1))
    ·exact ih pw.2 h1 h2
 refine⟨⟨⟨⟨Yd,?_,λp hp=>(pg p hp).nm,λp hp=>((pg p hp).pp p rfl).1,λp hp=>((pg p hp).pp p rfl).2⟩,λw d nm r h=>(it _ h).np w d nm r rfl,Yd,λx hx=>(it x hx).w,λx hx=>(it x hx).nm⟩,λd nm r h=>(it _ h).hp d nm r rfl,λd nm r h=>(it _ h).ru d nm r rfl,pw.imp λh=>h.1,λx hx=>(it x hx).d0,λx hx y hy a1 a2 a3 a4=>?_⟩,λd nm r h=>(it _ h).ho d nm r rfl,λd nm r h=>(it _ h).le d nm r rfl,λx hx y hy a1 a2 a3 a4=>?_,λx hx y hy a1 a2 a3=>?_⟩
 ·rw [VD,Sa];refine pw.filterMap De.pp λa b h p hp q hq=>?_;cases a with
  | oth=>cases hp
  | pap p'=>
   cases b with
   | oth=>cases hq
   | pap q'=>cases hp;cases hq;exact h.2.1 _ _ rfl rfl
 ·exact two (A:=λx y=>x.isE=true/\y.isE=true/\x.d=y.d/\x.nm=y.nm) (λx y h a=>h.2.2.1 a.1 a.2.1 a.2.2) (λx y a=>⟨a.2.1,a.1,a.2.2.1.symm,a.2.2.2.symm⟩) x hx y hy ⟨a1,a2,a3,a4⟩
 ·exact two (A:=λx y=>x.isL=true/\y.isL=true/\x.d=y.d/\x.nm=y.nm) (λx y h a=>h.2.2.2.1 a.1 a.2.1 a.2.2) (λx y a=>⟨a.2.1,a.1,a.2.2.1.symm,a.2.2.2.symm⟩) x hx y hy ⟨a1,a2,a3,a4⟩
 ·exact two (A:=λx y=>x.w=QM "leave"/\y.w=QM "leave"/\x.nm=y.nm) (λx y h a=>h.2.2.2.2 a.1 a.2.1 a.2.2) (λx y a=>⟨a.2.1,a.1,a.2.2.symm⟩) x hx y hy ⟨a1,a2,a3⟩
theorem OP(l:List (Int×Str)):(gO l).length<=l.length:=by
 unfold gO;split
 ·rename_i h;exact W2 h.choose_spec.1.length_eq
 ·exact RD _
theorem FP{α:Type}{p q:α->Bool}(h:∀x,p x=true->q x=true):∀xs:List α,(xs.filter p).length+((xs.filter λx=>!p x).filter q).length<=(xs.filter q).length
 | []=>QQ _
 | x::xs=>by
  have ih:=FP h xs;by_cases hp:p x=true
  ·rw [RI,Yf hp,RI,Ye (by rw [hp];exact QV),RI,Yf (h x hp),Q0,Q0];omega
  ·rw [RI,Ye hp,RI,Yf (by rw [Te] at hp;rw [hp];rfl),RI,RI];by_cases hq:q x=true
   ·rw [Yf hq,Yf hq,Q0,Q0];omega
   ·rw [Ye hq,Ye hq];exact ih
theorem Ap{nm:Str}{x:De}(h:dD nm x=true):x.isH=true/\x.nm=nm:=by
 cases x with
 | pap p=>cases h
 | oth w d n r=>
  simp only [dD,RW,beq_iff_eq] at h;exact⟨by simp [De.isH,h.1],h.2⟩
theorem FQ:∀{nms:List Str},nms.Nodup->∀xs:List De,(nms.map λnm=>(xs.filter (dD nm)).length).sum<=(xs.filter De.isH).length
 | [],_,_=>RD _
 | nm::nms,nd,xs=>by
  rw [Sq] at nd;have ih:=FQ nd.2 (xs.filter λx=>!dD nm x);have sp:=FP (p:=dD nm) (q:=De.isH) (λx h=>(Ap h).1) xs;have e:(nms.map λnm'=>((xs.filter λx=>!dD nm x).filter (dD nm')).length)=nms.map λnm'=>(xs.filter (dD nm')).length:=by
   refine S4 λnm' hn=>?_;rw [Xb];congr 2;funext x;by_cases h:dD nm' x=true
   ·have h2:dD nm x=false:=by
     rw [<-Te];intro z;exact nd.1 (by rw [<-(Ap z).2,(Ap h).2];exact hn)
    rw [h,h2];rfl
   ·rw [Te] at h;rw [h];rfl
  rw [e] at ih;rw [QR,Ue];omega
theorem rj{α β:Type}{f:α->List β}{g:α->Nat}:∀{l:List α},(∀x∈l,(f x).length<=g x)->(l.flatMap f).length<=(l.map g).sum
 | [],_=>RD _
 | x::l,h=>by
  have ih:=rj (f:=f) (g:=g) (l:=l) λy hy=>h y (Ri _ hy);have h1:=h x RC;rw [V9,Q2,QR,Ue];omega
theorem FT{α:Type}:∀l:List α,(l.map λ_=>1).sum=l.length
 | []=>rfl
 | _::l=>by rw [QR,Ue,FT l,Q0];omega
theorem OQ{np nr nh:Nat}{xs:List De}(h:Dr np nr nh xs)(kd:Str)(s:bX)(k:Int)(u:Str):(ig (cM xs) kd s k u).length<=max np nh:=by
 have rl:(cM xs).length=(aC xs).length:=by unfold cM;rw [QO,iO]
 have c1:=h.cP;have c3:=h.cH;have hap:∀wd:Str,((cM xs).map λr=>(dW r.hs wd).length).sum<=nh:=λwd=>by
  have nd:((bu (aC xs)).map (·.nm)).Nodup:=((iM _).map _).nodup_iff.mpr h.good.gd.gx.gp.nd;have hs:=FQ nd xs;have le:((cM xs).map λr=>(dW r.hs wd).length).sum<=(((bu (aC xs)).map (·.nm)).map λnm=>(xs.filter (dD nm)).length).sum:=by
   unfold cM;rw [Rc,Rc];generalize bu (aC xs)=cs
   induction cs with
   | nil=>exact QQ _
   | cons c cs ih=>
    rw [QR,QR,Ue,Ue];have h1:(dW (eT xs c).hs wd).length<=(xs.filter (dD c.nm)).length:=by
     unfold dW;rw [QO];refine Rj (RB _ _) (Rj (OP _) ?_);unfold dU;rw [QO];exact QQ _
    exact VL h1 ih
  omega
 unfold ig;cases s with
 | com=>
  have:=rj (f:=λr:Rp=>if (r.c.kd==kd)=true then(oB r .com).map λb=>jt b k u else []) (g:=λ_=>1) (l:=cM xs) (λr _=>by
   split
   ·rw [QO];exact QQ _
   ·exact RD _)
  rw [FT] at this;omega
 | fst wd=>
  have:=rj (f:=λr:Rp=>if (r.c.kd==kd)=true then(oB r (.fst wd)).map λb=>jt b k u else []) (g:=λr=>(dW r.hs wd).length) (l:=cM xs) (λr _=>by
   split
   ·rw [QO];show((dW r.hs wd).take 1).length<=_;rw [RA];omega
   ·exact RD _)
  have:=hap wd;omega
 | lst wd=>
  have:=rj (f:=λr:Rp=>if (r.c.kd==kd)=true then(oB r (.lst wd)).map λb=>jt b k u else []) (g:=λr=>(dW r.hs wd).length) (l:=cM xs) (λr _=>by
   split
   ·rw [QO];exact QQ _
   ·exact RD _)
  have:=hap wd;omega
theorem OR{np nr nh:Nat}{xs:List De}(h:Dr np nr nh xs){x:De}(hx:x∈xs):(cm xs x).length<=if x.isR=true then max np nh else 0:=by
 by_cases e:cm xs x=[]
 ·rw [e];exact RD _
 ·have hr:x.isR=true:=by
   rw [<-Wa];exact λz=>e (Ae z)
  rw [Yf hr];cases x with
  | pap p=>cases hr
  | oth wo d nm r=>
   have hw:wo=QM "rule":=eq_of_beq hr;subst hw;obtain⟨pt,rfl,ok⟩:=(h.it _ hx).ru d nm r rfl;cases pt with
   | two w2 kd=>exact absurd (Fi _ _ _ _ _ _) e
   | five w2 kd s k u=>
    rw [Fh];exact OQ h kd s k u
theorem FU(m:Nat):∀xs:List De,(xs.map λx=>if x.isR=true then m else 0).sum=m*(xs.filter De.isR).length
 | []=>rfl
 | x::xs=>by
  rw [QR,Ue,FU m xs,RI];split
  ·rw [Q0,XZ];omega
  ·omega
theorem Dr.few{np nr nh:Nat}{xs:List De}(h:Dr np nr nh xs)(hn:20+max np nh*nr < 64):oE xs:=by
 have fb:=rj (f:=cm xs) (l:=xs) λx hx=>OR h hx;rw [FU] at fb;have ln:=h.ln;have mm:=WW (max np nh) h.cR;have tl:(gQ xs).length < 64:=by
  unfold gQ;rw [Q2,QO];omega
 exact⟨Yd,gQ xs,tl,λz hz=>hz⟩
def OS:List Yi->(Yi->Prop)->Prop:=λds Q=>∃(ns:List Int)(k:Int)(f:Bool),ds=[fQ (ns.map .int),.int k,.bool f]/\0<=k/\k<=100/\∀xs,Dr 5 5 3 xs->xs.length<=19->Q (.tuple (xs.map De.enc))
def OT(v0 v1 v2 v3 v4:Yi)(i:Nat)(δ:Dl):Prop:=∃(xs:List De)(o6 o7 o8 o9:Option Sl),(xs.map De.w).Sublist (ij.take i)/\(∀x∈xs,jx x)/\xs.Pairwise gT/\δ=[some (Sl.v v0),some (Sl.v v1),some (Sl.v v2),some (Sl.v v3),some (Sl.v v4),some (Sl.o (xs.map De.enc)),o6,o7,o8,o9,none]
theorem OU(T:Txt K mg t):aA P w K mg base CX0 4 t.a_AH t.d_AH ["_law_script","_law_at","_law_far_here"] (aV K OS):=by
 have G_v:=@Ai P w _ _ base _ T;have G_w:=@Aj P w _ _ base _ T;have G_AF:=@OD P w _ _ base _ T;have G_AG:=@OF P w _ _ base _ T;have G_AE:=@ON P w _ _ base _ T;have G_AD:=@FI P w _ _ base _ T;refine T.F_AH.F.okD lC (λds Q h=>?_) (λ_ _ _ _ H O ds Q E hr h=>?_)
 ·obtain⟨ns,k,f,rfl,_⟩:=h;rfl
 ·obtain⟨ns,k,f,rfl,k0,k1,q⟩:=h;refine'⟨_,?A,?B⟩
  case A=>
   refine' ao ?C ?D
   case C=>exact(bf (i:=3) lC.nd rfl Yg (PE.imp (aE G_w (hr.mono Yc) rfl T.F_w (aa (PE.imp (aE G_v (hr.mono Yc) rfl T.F_v (aa (dv 0) (aa (dv 1) aj))) aN) (aa af aj))) aN))
   case' D=>refine' ao ?E ?F
   case E=>exact(bf (i:=4) lC.nd rfl Yg (PE.imp (aE G_AF (hr.mono Yc) rfl T.F_AF (aa (ak aP aS (df (dv 3)) (df af)) aj)) aN))
   case' F=>refine' ao ?G ?H
   case G=>exact(iC (i:=5) lC.nd rfl Yg (bW aj))
   case' H=>refine' ao ?I ?J
   case I=>
    refine' Dj RM rfl rfl T.n_enumerate (aa (PE.imp (Ih G_AG (hr.mono Yc) rfl T.F_AG.m T.F_AG.kp T.F_AG.b .nil ft) JM) aj) ?K (gG (b5 aL (b5 aL gF))) ?L
    case K=>exact(gm (n:=2) rfl (bZ (aK (i:=6) lC.nd rfl Yg) (bZ (aK (i:=7) lC.nd rfl Yg) gj)))
    case' L=>refine' ao ?M ?N
    case M=>
     refine' bf (i:=8) lC.nd rfl Yg ?O (hs:=qI)
     case O=>exact(PE.imp (aE G_w (hr.mono Yc) rfl T.F_w (aa (PE.imp (aE G_v (hr.mono Yc) rfl T.F_v (aa (dv 0) (aa (ar bA bN (df (ar bA bN (df (dv 1)) (df af))) (df (dv 6))) aj))) aN) (aa af aj))) aN)
    case' N=>refine' ao ?P ?Q
    case P=>exact(bf (i:=9) lC.nd rfl Yg (PE.imp (aE G_AE (hr.mono Yc) rfl T.F_AE (aa (dv 7) (aa (dv 8) (aa (dv 4) (aa (dv 2) aj))))) aN))
    case' Q=>refine' aw ?R
    case' R=>refine' bJ ?S ?T bI
    case S=>exact(PW.pt (fB (aQ jE di (df (ar aW aD (df (ak aP aS (df (dv 8)) (df af))) (df af))) (df af) (aF _)) (fA (oY (jc (PE.imp (bU (vp rfl) rfl T.n_any vq (bj (df (fe (eD rfl FL (dw 5) aL bM Yc (λ_ _ _ _=>(aK (i:=0) FL.nd rfl Yg)) (λ_ _ _ _=>dj) (λ_ _ _ _=>(PE.imp (aE G_AD (hr.mono Yc) rfl T.F_AD (aa (dv 1) (aa (dv 0) aj))) aN))))) br)) (bz vA)))))))
    case' T=>refine' aw ?U
    case U=>exact(lR (i:=5) (pv 5) (dv 9))
   case' J=>refine' ao ?V ?W
   case V=>
    refine' bf (i:=10) lC.nd rfl Yg ?X (hs:=iI)
    case X=>exact(ar aW aD (df (ak aP aS (df (dv 3)) (df af))) (df (ar bA bN (df (PE.imp (bU dO rfl T.n_len R0 (bj (dw 5) br)) (bz eF))) (df af))))
   case' W=>refine' aw ?Y
   case' Y=>refine' aR ?Z
   case Z=>exact(PE.imp (cT fN rfl T.n_tuple fP (bj (df (fe (nW (df (fe (iG (dw 5) (cq (dv 10)) hU))) (df (fe (iG (dw 5) hU (cq (dv 10)))))))) br)) (bz fS))
  case B=>
  clear hr T G_v G_w G_AF G_AG G_AE G_AD;walk_at "g";refine⟨k0,Yd,λc ms ml mn=>?_⟩;obtain⟨a,b,c2,d,rfl⟩:=FN ml;have c20:=(mn c2 Yh).1;clear ml mn;refine⟨_,eJ,b,rfl,λn0 n1 n2 n3 n4 n5 n6 nok=>⟨rfl,_,rfl,?_⟩⟩;refine⟨OT (fQ (ns.map .int)) (.int k) (.bool f) (.list ([a,b,c2,d].map .int)) (An n0 n1 n2 n3 n4 n5 n6),⟨[],_,_,_,_,List.nil_sublist _,Yh,.nil,rfl⟩,?_,?_⟩
  ·rintro i z δ hz ⟨xs,o6,o7,o8,o9,sl,hg,hp,rfl⟩;rw [px,Q1] at hz;cases hz':ij[i]? with
   | none=>rw [hz'] at hz;cases hz
   | some so=>
    rw [hz'] at hz;cases hz;have hi:i < 19:=(QZ.mp hz').1;walk_at "g";refine⟨Yd,Yd,λc1 ys yl yn=>?_⟩;obtain⟨y0,y1,y2,y3,y4,y5,y6,y7,y8,rfl⟩:=OO yl;have y00:=(yn y0 Yh).1;clear yl yn;refine⟨so,y0,y1,y2,y3,y4,y5,y6,y7,y8,n0,n1,n2,n3,n4,n5,n6,f,rfl,Rm hz',y00,nok,λx gx hw=>?_⟩;walk_at "g";have ts:ij.take (i+1)=ij.take i++[so]:=by rw [RL,hz'];rfl
    have sl1:(xs.map De.w).Sublist (ij.take (i+1)):=by rw [ts];exact sl.trans (List.sublist_append_left _ _)
    have xl:xs.length<=19:=by have:=sl1.length_le;rw [QO,RA] at this;exact Rj this (Wi _ _)
    split
    ·refine⟨by rw [QO];omega,λi acc=>∃bs:List Bool,acc=bs.map .bool/\bs.length=i/\∀j:Nat,bs[j]?=some false->∀y,xs[j]?=some y->gT x y,⟨[],rfl,rfl,Yh⟩,?_,?_⟩
     ·rintro j z acc hz ⟨bs,rfl,bl,hb⟩;rw [Q1] at hz;cases hy':xs[j]? with
      | none=>rw [hy'] at hz;cases hz
      | some y=>
       rw [hy'] at hz;cases hz;walk_at "d";refine⟨x,y,rfl,gx,hg y (Rm hy'),λb hb2=>⟨bs++[b],by rw [Rf];rfl,by rw [Q2,bl];rfl,λn hn y' hy2=>?_⟩⟩;rcases S7 n bs.length with h | h
       ·rw [RV h] at hn;exact hb n hn y' hy2
       ·rw [Si h] at hn;have n0:n - bs.length=0:=by
         rcases VO (n - bs.length) with h0 | h0
         ·exact h0
         ·rw [Sv (by rw [S5];omega)] at hn;cases hn
        rw [n0] at hn;have ek:n=j:=Yd
        rw [ek,hy'] at hy2;cases hy2;exact hb2 (by simpa using hn)
     ·rintro acc ⟨bs,rfl,bl,hb⟩;rw [QO] at bl;refine⟨bs,rfl,?_⟩;split
      ·rename_i hany;have hno:∀y∈xs,gT x y:=λy hy=>by
        obtain⟨j,hj⟩:=WT hy;have jl:j < bs.length:=by rw [bl];exact(QZ.mp hj).1
        refine hb j ?_ y hj;have:bs[j]=false:=by simpa using V4.mp hany bs[j] (S8 jl)
        rw [Rv jl,this]
       refine⟨by rw [QO];omega,xs++[x],_,_,_,_,?_,λy hy=>?_,UY.mpr ⟨hp,Vl _ _,λu hu v hv=>?_⟩,by rw [Rf];rfl⟩
       ·rw [ts,Rf,QR,RO,hw];exact sl.append (Xm _)
       ·rcases Q9.mp hy with h | h
        ·exact hg y h
        ·rw [Ra] at h;rw [h];exact gx
       ·rw [Ra] at hv;rw [hv];exact(hno u hu).symm
      ·exact⟨xs,_,_,_,_,sl1,hg,hp,rfl⟩
    ·exact⟨xs,_,_,_,_,sl1,hg,hp,rfl⟩
  ·rintro δ ⟨xs,o6,o7,o8,o9,sl,hg,hp,rfl⟩;walk_at "d";rw [qP,QO,Rl (QQ _)] at sl;have lm:(RU De.enc xs).length=xs.length:=QO _;have xl:xs.length<=19:=by have:=sl.length_le;rwa [QO] at this
   refine⟨Yd,?_⟩;generalize htn:c2 % (((RU De.enc xs).length:Int)+1)=tn;have t0:0<=tn:=by rw [<-htn];exact TQ _ Yd
   have t1:tn < ((RU De.enc xs).length:Int)+1:=by rw [<-htn];exact Td _ Yd
   rw [B1 t0 Yd,sI t0 Yd];refine⟨by rw [Ts,RA];omega,?_⟩;rw [<-V0,<-TU,<-Rf];have dr:=Dr.of hg hp sl;have pm:(xs.drop tn.toNat++xs.take tn.toNat).Perm xs:=by
    have:=WN (l₁:=xs.drop tn.toNat) (l₂:=xs.take tn.toNat)
    rwa [Tz] at this
   exact q _ (dr.1.perm pm) (by rw [pm.length_eq];exact dr.2)
end
theorem FV:bb (av tI) ["deeds","paper","line","place"] ["deed","line"] 1 [2] ⟨QW,[ (QP ".0",ZX),(QP "deed",ZX),(QP "line",Q3)],false,false,[]⟩:=⟨rfl,Yb,Yb,Yb,rfl,Yb,Yb,Yb,rfl⟩
section
variable {P:Yu} {w:Yv} {K:QN} {mg:Str->Option Yj} {base:Yw} {t:cg}
theorem FW:∀{a b:List Str},SV (a.map .str) (b.map .str)=true↔a=b
 | [],[]=>by simp [SV]
 | [],_::_=>by simp [SV]
 | _::_,[]=>by simp [SV]
 | x::a,y::b=>by
  rw [QR,QR,SV,RW,FW,dP,beq_iff_eq,RG]
theorem FX{a b:Pp}:Rg a.enc b.enc=true↔a=b:=by
 obtain⟨d,nm,kd,ms⟩:=a;obtain⟨d',nm',kd',ms'⟩:=b;simp only [Pp.enc,Rg,SV,RW,FW,Pp.mk.injEq,decide_eq_true_eq,beq_iff_eq,and_true,true_and]
def pZ(l:List Pp)(p:Pp):Bool:=(l.map Pp.enc).any λd=>Rg d p.enc
theorem OV{l:List Pp}{p:Pp}:pZ l p=true↔p∈l:=by
 unfold pZ;rw [T2];constructor
 ·rintro⟨d,hd,e⟩;obtain⟨q,hq,rfl⟩:=Q5.mp hd;rw [<-FX.mp e];exact hq
 ·intro h;exact⟨p.enc,Q5.mpr ⟨p,h,rfl⟩,FX.mpr rfl⟩
def lK(ps line:List Pp)(c:Pp):List Pp:=(eQ ps c).filter λp=>!pZ line p
def gU(ps:List Pp):Nat->List Pp->Nat->List Pp
 | 0,l,_=>l
 | f+1,l,i=>match l[i]? with
  | none=>l
  | some c=>gU ps f (l++lK ps l c) (i+1)
def jy(ps:List Pp)(c:Pp):List Pp:=gU ps ps.length [c] 0
theorem OW{ps l:List Pp}{i:Nat}(h:l.length<=i):∀f,gU ps f l i=l
 | 0=>rfl
 | f+1=>by rw [gU,Sv h]
structure oF (ps:List Pp) (c:Pp) (l:List Pp):Prop where
 nd:l.Nodup
 sb:∀p∈l,p∈ps
 hd:∃r,l=c::r
theorem uz{α:Type}:∀{l L:List α},l.Nodup->(∀z∈l,z∈L)->l.length<=L.length
 | [],_,_,_=>RD _
 | a::l,L,nd,hm=>by
  rw [Sq] at nd;obtain⟨p,q,e⟩:=Xc (hm a Yh);have:=uz (l:=l) (L:=p++q) nd.2 λb hb=>by
   have hb':=hm b (by simp [hb]);rw [e] at hb';rcases Q9.mp hb' with z | z
   ·exact UX _ z
   ·rcases QX.mp z with z | z
    ·exact absurd (by rw [<-z];exact hb) nd.1
    ·exact RR _ z
  rw [e,Q2,Q0,Q0];rw [Q2] at this;omega
theorem OX{ps:List Pp}(nd:(ps.map (·.nm)).Nodup):ps.Nodup:=by
 rw [VD,Sa] at nd;exact nd.imp λh e=>h (by rw [e])
theorem OY{ps:List Pp}(nd:(ps.map (·.nm)).Nodup)(c:Pp):(eQ ps c).Nodup:=((iM ps).nodup_iff.mpr (OX nd)).sublist U1
theorem FY{ps:List Pp}{c p:Pp}(h:p∈eQ ps c):p∈ps:=iN.mp (RH.mp h).1
theorem oF.next{ps:List Pp}(nd:(ps.map (·.nm)).Nodup){c:Pp}{l:List Pp}(h:oF ps c l)(d:Pp):oF ps c (l++lK ps l d):=by
 refine⟨V8.mpr ⟨h.nd,(OY nd d).sublist U1,λa ha b hb e=>?_⟩,λp hp=>?_,?_⟩
 ·have:=(RH.mp hb).2;rw [Sm,<-Te] at this;exact this (OV.mpr (by rw [<-e];exact ha))
 ·rcases Q9.mp hp with z | z
  ·exact h.sb p z
  ·exact FY (RH.mp z).1
 ·obtain⟨r,e⟩:=h.hd;exact⟨r++lK ps l d,by rw [e];rfl⟩
theorem FZ{ps:List Pp}(nd:(ps.map (·.nm)).Nodup){c:Pp}:∀(f:Nat){l:List Pp}(i:Nat),oF ps c l->oF ps c (gU ps f l i)
 | 0,_,_,h=>h
 | f+1,l,i,h=>by
  rw [gU];split
  ·exact h
  ·exact FZ nd f (i+1) (h.next nd _)
theorem OZ{ps:List Pp}(nd:(ps.map (·.nm)).Nodup){c:Pp}(hc:c∈ps):oF ps c (jy ps c):=FZ nd _ _ ⟨Yh,by simpa using hc,[],rfl⟩
theorem O3{ps:List Pp}(g:iP ps){c:Pp}(hc:c∈ps):uw (jy ps c):=by
 have h:=OZ g.nd hc;have h1:=uz h.nd h.sb;have h2:=g.ln;exact⟨Yd,λp hp=>⟨g.nm p (h.sb p hp),g.kd p (h.sb p hp)⟩⟩
theorem F0{ps:List Pp}(g:iP ps){c:Pp}(hc:c∈ps):bQ 3 c.enc:=by
 obtain⟨h1,h2⟩:=g.ms c hc;exact fc (bS (fE Yb) (bS Cu (bS (fE (g.nm c hc)) (bS (fE (g.kd c hc)) (bS (fc (n:=1) (sN h1)) fD)))))
def O4:List Yi->(Yi->Prop)->Prop:=λds Q=>∃(xs:List De)(c:Pp),ds=[.tuple (xs.map De.enc),.str c.nm]/\gN xs/\c∈aC xs/\Q (.list ((jy (aC xs) c).map Pp.enc))
theorem O5(T:Txt K mg t):aA P w K mg base CX0 6 t.a_P t.d_P ["deeds","paper"] (aV K O4):=by
 have G_L:=@x9 P w _ _ base _ T;have G_N:=@EG P w _ _ base _ T;refine T.F_P.F.okD t7 (λds Q h=>?_) (λ_ _ _ _ H O ds Q E hr h=>?_)
 ·obtain⟨xs,c,rfl,_⟩:=h;rfl
 ·obtain⟨xs,c,rfl,gd,hc,q⟩:=h;refine'⟨_,?A,?B⟩
  case A=>
   refine' ao ?C ?D
   case C=>exact(iC (i:=2) t7.nd rfl Yg (bW (aa (PE.imp (aE G_L (hr.mono Yc) rfl T.F_L (aa (dv 0) (aa (dv 1) aj))) aN) aj)))
   case' D=>refine' ao ?E ?F
   case E=>exact(bf (i:=3) t7.nd rfl Yg af)
   case' F=>refine' ao ?G ?H
   case G=>
    refine' Lj RM ?I ?J
    case I=>exact(aQ rN di (df (dv 3)) (df (PE.imp (bU dO rfl T.n_len R0 (bj (dw 2) br)) (bz eF))) (aF _))
    case' J=>refine' ao ?K ?L
    case K=>exact(sT (i:=2) (pv 2) (eD rfl FV (df (PE.imp (aE G_N (hr.mono Yc) rfl T.F_N (aa (dv 0) (aa (ak aP aS (dw 2) (df (dv 3))) aj))) aN)) aL bM Yc (λ_ _ _ _=>(aK (i:=0) FV.nd rfl Yg)) (λ_ _ _ _=>(cZ (aQ (Ke hr) vH (df (dv 0)) (dw 1) rfl))) (λ_ _ _ _=>(dv 0))))
    case' L=>refine' aw ?M
    case M=>exact(bf (i:=3) t7.nd rfl Yg (ar bA bN (df (dv 3)) (df af)))
   case' H=>refine' aw ?N
   case N=>exact(qB (pv 2))
  case B=>
  clear hr T G_L G_N;have nd:=gd.gp.nd;have pl:=gd.gp.ln;walk_at "d";refine⟨xs,c,rfl,gd,hc,?_⟩;refine⟨λm δ=>∃(l:List Pp)(i f:Nat),oF (aC xs) c l/\i<=l.length/\m+i=(aC xs).length/\(aC xs).length<=f+i/\gU (aC xs) f l i=jy (aC xs) c/\δ=[some (Sl.v (.tuple (xs.map De.enc))),some (Sl.v (.str c.nm)),some (Sl.o (l.map Pp.enc)),some (Sl.v (.int (i:Int)))],⟨(aC xs).length,[c],0,(aC xs).length,⟨Yh,by simpa using hc,[],rfl⟩,RD _,Yd,Yd,rfl,rfl⟩,?_⟩;rintro m δ ⟨l,i,f,hl,hi,hm,hf,ef,rfl⟩;have ll:=uz hl.nd hl.sb;walk_at "d";rw [QO];by_cases hlt:i < l.length
  ·rw [Yf Yd];have hc':l[i]?=some l[i]:=Rv hlt;have ho:=hl.next nd l[i];have lo:=uz ho.nd ho.sb;rw [Q2] at lo;refine⟨_,fM (j:=i) (by rw [Q1,hc'];rfl),xs,l[i],rfl,gd,hl.sb _ (S8 hlt),_,rfl,by rw [QO];have:=z3 (c:=l[i]) gd.gp;omega,cW (λp=>!pZ l p) Pp.enc (λp hp R S h=>?_) ?_⟩
   ·walk_at "d";have ps:=FY hp;refine⟨(F0 gd.gp ps).shp Yc,(qH (n:=3) λd hd=>?_).1,by simpa [pZ] using h⟩;obtain⟨p',hp',rfl⟩:=Q5.mp hd;exact F0 gd.gp (hl.sb p' hp')
   ·have e:(T6 (λp=>!pZ l p) (eQ (aC xs) l[i]))=lK (aC xs) l l[i]:=rfl;rw [e];cases f with
    | zero=>omega
    | succ f=>
     rw [gU,hc'] at ef;refine⟨by rw [QO];omega,m - 1,Yd,_,ho,i+1,by rw [Q2];omega,Yd,f,Yd,ef,by rw [Rf],Yd⟩
  ·rw [Ye Yd];rw [<-ef,OW Yd] at q;exact q
local macro_rules | `(tactic| walk_at "e") =>rzT (rzS++" Sl.i.injEq exists_and_left pA")
theorem jz{f:Str}{d:Yi}:∀{l:List (Str×Yi)}{ks:List Str},l.map (·.1)=ks->ks.all (λk=>!(k==f))=true->dB f d l=l++[(f,d)]
 | [],_,_,_=>rfl
 | (g,x)::l,k::ks,h,hk=>by
  rw [QR] at h;obtain⟨e1,e2⟩:=V1 h;rw [TZ,RW] at hk;have e1:g=k:=e1;rw [dB,Ye (λz=>by rw [<-e1,z] at hk;simp at hk),jz e2 hk.2];rfl
 | _::_,[],h,_=>by cases h
def cn:List Str:=[QM "day",QM "paper",QM "to_stay",QM "to_go",QM "bars",QM "leave"]
abbrev F1(C:Yl)(a b c d e f:Yi):Yi:=fx C (cn.map .str) [a,b,c,d,e,f]
def O6(C:Yl):List Yi->(Yi->Prop)->Prop:=λds Q=>∃a b c d e f,ds=[a,b,c,d,e,f]/\Q (F1 C a b c d e f)
theorem O7(T:Txt K mg t):aA P w K mg base CX0 1 t.a_g t.d_g ["self","day","paper","to_stay","to_go","bars","leave"] (sV K t.u_Look (O6 t.u_Look)):=by
 refine T.F_g.F.okI MN (λds Q h=>?_) (λcdv A outer s H H1 O ds Q E l hr h=>?_)
 ·obtain⟨a,b,c,d,e,f,rfl,_⟩:=h;rfl
 ·obtain⟨a,b,c,d,e,f,rfl,q⟩:=h;refine'⟨_,?A,?B⟩
  case A=>
   refine' ao ?C ?D
   case C=>exact(fG (C:=t.u_Look) (i:=0) T.cl_Look T.na_Look_day (pv 0) (dv 1))
   case' D=>refine' ao ?E ?F
   case E=>exact(fG (C:=t.u_Look) (i:=0) T.cl_Look T.na_Look_paper (pv 0) (dv 2))
   case' F=>refine' ao ?G ?H
   case G=>exact(fG (C:=t.u_Look) (i:=0) T.cl_Look T.na_Look_to_stay (pv 0) (dv 3))
   case' H=>refine' ao ?I ?J
   case I=>exact(fG (C:=t.u_Look) (i:=0) T.cl_Look T.na_Look_to_go (pv 0) (dv 4))
   case' J=>refine' ao ?K ?L
   case K=>exact(fG (C:=t.u_Look) (i:=0) T.cl_Look T.na_Look_bars (pv 0) (dv 5))
   case' L=>refine' aw ?M
   case M=>exact(fG (C:=t.u_Look) (i:=0) T.cl_Look T.na_Look_leave (pv 0) (dv 6))
  case B=>
  clear hr T;simp only [sW,eG,QR,RO,R4,RY,VJ,Q0,RJ,SA,SD,Q8];walk_at "e";rw [jz (ks:=[]) rfl rfl,jz (ks:=cn.take 1) rfl Yb,jz (ks:=cn.take 2) rfl Yb,jz (ks:=cn.take 3) rfl Yb,jz (ks:=cn.take 4) rfl Yb,jz (ks:=cn.take 5) rfl Yb];have lt:∀n:Nat,n < 10->n < 1000:=λn h=>by omega
  exact⟨lt 1 Yc,lt 2 Yc,lt 3 Yc,lt 4 Yc,lt 5 Yc,q⟩
def iV:Option Str->Yi
 | none=>.none
 | some s=>.str s
structure Lk where
 d:Int
 nm:Str
 st:List (Str×Yi)
 go:List (Str×Yi)
 bars:List Yi
 lv:Option Str
def Lk.enc(C:Yl)(k:Lk):Yi:=F1 C (.int k.d) (.str k.nm) (.tuple (k.st.map ck)) (.tuple (k.go.map ck)) (.list k.bars) (iV k.lv)
def Lk.lets(k:Lk):Bool:=decide (0 < k.go.length) && decide (k.bars.length=0)
structure Ro where
 nm:Str
 d:Int
 lv:Option Str
def Ro.enc(r:Ro):Yi:= .tuple [.str r.nm,.int r.d,iV r.lv]
def Lk.row(k:Lk):Ro:=⟨k.nm,k.d,k.lv⟩
def lL(k:Lk):Prop:=k.st.length<=41/\k.go.length<=41/\k.bars.length<=200
theorem O8{a b c d e f:Yi}:bg cn [a,b,c,d,e,f] (QM "day")=some a:=by simp [cn,bg]
theorem O9{a b c d e f:Yi}:bg cn [a,b,c,d,e,f] (QM "paper")=some b:=by
 simp only [cn,bg,Ye (show QM "day"≠QM "paper" by decide+kernel),if_true]
theorem Pa{a b c d e f:Yi}:bg cn [a,b,c,d,e,f] (QM "to_go")=some d:=by
 simp only [cn,bg,Ye (show QM "day"≠QM "to_go" by decide+kernel),Ye (show QM "paper"≠QM "to_go" by decide+kernel),Ye (show QM "to_stay"≠QM "to_go" by decide+kernel),if_true]
theorem Pb{a b c d e f:Yi}:bg cn [a,b,c,d,e,f] (QM "bars")=some e:=by
 simp only [cn,bg,Ye (show QM "day"≠QM "bars" by decide+kernel),Ye (show QM "paper"≠QM "bars" by decide+kernel),Ye (show QM "to_stay"≠QM "bars" by decide+kernel),Ye (show QM "to_go"≠QM "bars" by decide+kernel),if_true]
theorem Pc{a b c d e f:Yi}:bg cn [a,b,c,d,e,f] (QM "leave")=some f:=by
 simp only [cn,bg,Ye (show QM "day"≠QM "leave" by decide+kernel),Ye (show QM "paper"≠QM "leave" by decide+kernel),Ye (show QM "to_stay"≠QM "leave" by decide+kernel),Ye (show QM "to_go"≠QM "leave" by decide+kernel),Ye (show QM "bars"≠QM "leave" by decide+kernel),if_true]
def Pd(C:Yl):List Yi->(Yi->Prop)->Prop:=λds Q=>∃k:Lk,ds=[k.enc C]/\lL k/\Q (.bool k.lets)
theorem F2(T:Txt K mg t):aA P w K mg base CX0 1 t.a_h t.d_h ["self"] (aV K (Pd t.u_Look)):=by
 refine T.F_h.F.okD MO (λds Q h=>?_) (λ_ _ _ _ H O ds Q E hr h=>?_)
 ·obtain⟨k,rfl,_⟩:=h;rfl
 ·obtain⟨k,rfl,⟨_,h1,h2⟩,q⟩:=h;refine'⟨_,?A,?B⟩
  case A=>
   refine' aw ?C
   case' C=>refine' aR ?D
   case D=>exact(qz (dG jE di (df (PE.imp (bU dO rfl T.n_len R0 (bj (df (cc (C:=t.u_Look) T.cl_Look T.na_Look_to_go (dv 0))) br)) (bz eF))) (df af) (aF _)) (qy (dG (cD hr.units) cE (df (PE.imp (bU dO rfl T.n_len R0 (bj (df (cc (C:=t.u_Look) T.cl_Look T.na_Look_bars (dv 0))) br)) (bz eF))) (df af) (aF _))))
  case B=>
  clear hr T;simp only [Lk.enc];walk_at "d";refine⟨cn,_,rfl,_,Pa,_,.inr rfl,?_⟩;have q:Q (.bool (decide (0 < k.go.length) && decide (k.bars.length=0))):=q;rw [QO];by_cases h:0 < k.go.length
  ·rw [Yf Yd];refine⟨cn,_,rfl,_,Pb,_,.inl rfl,?_⟩;rw [decide_eq_true h,Sr] at q;rw [show((k.bars.length:Int)==0)=decide (k.bars.length=0) by
    by_cases e:k.bars.length=0
    ·simp [e]
    ·rw [decide_eq_false e];simp;exact λz=>e (by rw [z];rfl)]
   exact q
  ·rw [Ye Yd];rw [decide_eq_false h,US] at q;exact q
def Pe(C:Yl):List Yi->(Yi->Prop)->Prop:=λds Q=>∃k:Lk,ds=[k.enc C]/\Q k.row.enc
theorem F3(T:Txt K mg t):aA P w K mg base CX0 1 t.a_i t.d_i ["self"] (aV K (Pe t.u_Look)):=by
 refine T.F_i.F.okD MP (λds Q h=>?_) (λ_ _ _ _ H O ds Q E hr h=>?_)
 ·obtain⟨k,rfl,_⟩:=h;rfl
 ·obtain⟨k,rfl,q⟩:=h;refine'⟨_,?A,?B⟩
  case A=>
   refine' aw ?C
   case' C=>refine' aR ?D
   case' D=>refine' bH ?E
   case' E=>refine' aa ?F ?G
   case F=>exact(cc (C:=t.u_Look) T.cl_Look T.na_Look_paper (dv 0))
   case' G=>refine' aa ?H ?I
   case H=>exact(cc (C:=t.u_Look) T.cl_Look T.na_Look_day (dv 0))
   case' I=>refine' aa ?J aj
   case J=>exact(cc (C:=t.u_Look) T.cl_Look T.na_Look_leave (dv 0))
  case B=>
  clear hr T;simp only [Lk.enc];walk_at "d";exact⟨cn,_,rfl,_,O9,cn,_,rfl,_,O8,cn,_,rfl,_,Pc,q⟩
structure Rn where
 n:Int
 L:List (Str×Pt)
 hs:List Hd
 lvs:List Pp
 go:List (Str×Int)
 us:List Str
def jA(p:Pp):Yi:= .tuple [.str (QM "leave"),.int p.d,.str p.nm,.str p.kd]
def Rn.fd(R:Rn):List (Str×Yi):=[(QM "day",.int R.n),(QM "rules",.tuple (R.L.map cX)),(QM "holds",.tuple (R.hs.map Hd.enc)),(QM "leaves",.list (R.lvs.map jA))]
def fj(go:List (Str×Int)):List (aq×Yi):=go.map λp=>(Sn p.1,.int p.2)
def fK(us:List Str):List (aq×Yi):=us.map λs=>(Sn s,.bool true)
def cu:List Str:=[QM "day",QM "rules",QM "holds",QM "leaves",QM "gone",QM "used"]
def Rn.gn(R:Rn):Gn:=⟨R.go.map (·.1),R.go.map (·.2)⟩
def Rn.enc(C:Yl)(R:Rn):Yi:=fx C (cu.map .str) [.int R.n,.tuple (R.L.map cX),.tuple (R.hs.map Hd.enc),.list (R.lvs.map jA),R.gn.enc,fX R.us (R.us.map λ_=>.bool true)]
theorem Pf(C:Yl)(R:Rn):wz C R.fd (R.go.map (·.1)) R.us (fj R.go) (fK R.us)=R.enc C:=by
 have e1:(fj R.go).map (·.2)=(R.go.map (·.2)).map Rq:=by unfold fj;rw [Rc,Rc];rfl
 have e2:(fK R.us).map (·.2)=R.us.map λ_=>.bool true:=by unfold fK;rw [Rc];rfl
 unfold wz;rw [e1,e2];rfl
theorem F4{a b c d e f:Yi}:bg cu [a,b,c,d,e,f] (QM "day")=some a/\bg cu [a,b,c,d,e,f] (QM "rules")=some b/\bg cu [a,b,c,d,e,f] (QM "holds")=some c/\bg cu [a,b,c,d,e,f] (QM "leaves")=some d/\bg cu [a,b,c,d,e,f] (QM "gone")=some e/\bg cu [a,b,c,d,e,f] (QM "used")=some f:=by
 have h:∀{x y:Str}{p q:Option Yi},x≠y->(if x=y then p else q)=q:=λh=>Ye h;refine⟨?_,?_,?_,?_,?_,?_⟩
 ·simp [cu,bg]
 ·simp only [cu,bg,h (show QM "day"≠QM "rules" by decide+kernel),if_true]
 ·simp only [cu,bg,h (show QM "day"≠QM "holds" by decide+kernel),h (show QM "rules"≠QM "holds" by decide+kernel),if_true]
 ·simp only [cu,bg,h (show QM "day"≠QM "leaves" by decide+kernel),h (show QM "rules"≠QM "leaves" by decide+kernel),h (show QM "holds"≠QM "leaves" by decide+kernel),if_true]
 ·simp only [cu,bg,h (show QM "day"≠QM "gone" by decide+kernel),h (show QM "rules"≠QM "gone" by decide+kernel),h (show QM "holds"≠QM "gone" by decide+kernel),h (show QM "leaves"≠QM "gone" by decide+kernel),if_true]
 ·simp only [cu,bg,h (show QM "day"≠QM "used" by decide+kernel),h (show QM "rules"≠QM "used" by decide+kernel),h (show QM "holds"≠QM "used" by decide+kernel),h (show QM "leaves"≠QM "used" by decide+kernel),h (show QM "gone"≠QM "used" by decide+kernel),if_true]
structure oG (R:Rn):Prop where
 rl:iU R.L
 hd:qY R.hs
 ll:R.lvs.length<=41
 lk:∀p∈R.lvs,QT p.kd=true
theorem F5:∀(us:List Str)(z:Str),(bg us (us.map λ_=>UL true) z).isSome=us.contains z
 | [],_=>rfl
 | u::us,z=>by
  rw [QR,bg,VQ];by_cases h:u=z
  ·rw [Yf h,h];simp
  ·rw [Ye h,F5 us z,bR (λe=>h e.symm),SU]
def p5(R:Rn)(kd:Str)(p:Pp):Bool:=p.kd==kd && !R.us.contains p.nm
def oH(R:Rn)(kd:Str):Option Str:=(R.lvs.find? (p5 R kd)).map (·.nm)
def Pg(C:Yl):List Yi->(Yi->Prop)->Prop:=λds Q=>∃(R:Rn)(kd:Str),ds=[R.enc C,.str kd]/\oG R/\QT kd=true/\Q (iV (oH R kd))
theorem Ph(T:Txt K mg t):aA P w K mg base CX0 1 t.a_l t.d_l ["self","kind"] (aV K (Pg t.u_Round)):=by
 refine T.F_l.F.okD D5 (λds Q h=>?_) (λ_ _ _ _ H O ds Q E hr h=>?_)
 ·obtain⟨R,kd,rfl,_⟩:=h;rfl
 ·obtain⟨R,kd,rfl,g,hk,q⟩:=h;refine'⟨_,?A,?B⟩
  case A=>
   refine' ao ?C ?D
   case C=>
    refine' nV RM rfl (cc (C:=t.u_Round) T.cl_Round T.na_Round_leaves (dv 0)) ?E aL ?F
    case E=>exact(aK (i:=2) D5.nd rfl Yg)
    case' F=>refine' aw ?G
    case' G=>refine' bJ ?H ?I bI
    case H=>exact(PW.pt (fB (aQ (cD hr.units) cE (df (ak aG aM (df (dv 2)) (df af))) (df (dv 1)) (aF _)) (fA (Mb hr.units (cc (C:=t.u_Round) T.cl_Round T.na_Round_used (dv 0)) (ak aG aM (df (dv 2)) (df af))))))
    case' I=>refine' aw ?J
    case J=>exact(aR (ak aG aM (df (dv 2)) (df af)))
   case D=>refine' aw (aR gB)
  case B=>
  clear hr T;obtain⟨_,_,_,x4,_,x6⟩:=F4 (a:= .int R.n) (b:= .tuple (R.L.map cX)) (c:= .tuple (R.hs.map Hd.enc)) (d:= .list (R.lvs.map jA)) (e:=R.gn.enc) (f:=fX R.us (R.us.map λ_=>.bool true));walk_at "d";refine⟨cu,_,rfl,_,x4,_,rfl,?_⟩;refine⟨λi δ=>(∀p∈R.lvs.take i,p5 R kd p=false)/\∃o2,δ=[some (Sl.v (R.enc t.u_Round)),some (Sl.v (.str kd)),o2],⟨Yh,_,rfl⟩,?_,?_⟩
  ·rintro i z δ hz ⟨hn,o2,rfl⟩;rw [Q1] at hz;cases hz':R.lvs[i]? with
   | none=>rw [hz'] at hz;cases hz
   | some p=>
    rw [hz'] at hz;cases hz;have hp:=Rm hz';have no:p5 R kd p=false->∀p∈R.lvs.take (i+1),p5 R kd p=false:=λh p' hp'=>by
     rw [RL,hz'] at hp';rcases Q9.mp hp' with z | z
     ·exact hn p' z
     ·have z:p'=p:=by simpa using z
      rw [z];exact h
    have yes:p5 R kd p=true->Q (.str p.nm):=λh=>by
     have e:oH R kd=some p.nm:=by
      unfold oH;rw [show R.lvs=R.lvs.take i++p::R.lvs.drop (i+1) by
       have hi:=(QZ.mp hz').1;rw [<-(QZ.mp hz').2,<-U4 hi,Tz]]
      rw [Xn,Vd.mpr (λx hx=>by rw [hn x hx];simp),List.find?_cons_of_pos h];rfl
     rw [e] at q;exact q
    simp only [jA];walk_at "d";refine⟨cK.mpr (g.lk p hp),cK.mpr hk,?_⟩;unfold p5 at no yes;by_cases h1:(p.kd==kd)=true
    ·rw [Yf h1];rw [h1,Sr] at no yes;refine⟨cu,_,rfl,_,x6,_,_,rfl,?_⟩;rw [F5];by_cases h2:R.us.contains p.nm=false
     ·rw [Yf h2];exact yes (by rw [h2];rfl)
     ·rw [Ye h2];exact⟨no (by rw [Wa] at h2;rw [h2];rfl),_,rfl⟩
    ·rw [Ye h1];exact⟨no (by rw [Te] at h1;rw [h1];rfl),_,rfl⟩
  ·rintro δ ⟨hn,o2,rfl⟩;rw [QO,Rl (QQ _)] at hn;walk_at "d";have e:oH R kd=none:=by
    unfold oH;rw [Vd.mpr (λx hx=>by rw [hn x hx];simp)];rfl
   rw [e] at q;exact q
end
local macro_rules | `(tactic| walk_at "h") =>rzT (rzS++" Sl.i.injEq exists_and_left pA")
theorem Aq:bb (av pB) ["self","paper","line","to_stay","to_go","asking","leave","bars"] ["rule","by"] 2 [] ⟨QW,[ (QP ".0",ZX),(QP "rule",ZX),(QP "by",ZX)],false,false,[]⟩:=⟨rfl,Yb,Yb,Yb,rfl,Yb,Yb,Yb,rfl⟩
theorem F6:bb (av pB) ["self","paper","line","to_stay","to_go","asking","leave","bars"] ["hold"] 1 [] ⟨QW,[(QP ".0",ZX),(QP "hold",ZX)],false,false,[]⟩:=⟨rfl,Yb,Yb,Yb,rfl,Yb,Yb,Yb,rfl⟩
theorem F7:bb (av pB) ["self","paper","line","to_stay","to_go","asking","leave","bars"] ["rule"] 1 [] ⟨QW,[(QP ".0",ZX),(QP "rule",ZX)],false,false,[]⟩:=⟨rfl,Yb,Yb,Yb,rfl,Yb,Yb,Yb,rfl⟩
section
variable {P:Yu} {w:Yv} {K:QN} {mg:Str->Option Yj} {base:Yw} {t:cg}
def uA(z:Str×Yi):Yi:= .tuple [.str (QM "stays"),.str z.1,z.2]
def uB(h:Str):Yi:= .tuple [.str (QM "held"),.str h]
def uC(a:Str):Yi:= .tuple [.str (QM "lacks"),.str a]
def lM(R:Rn)(kd:Str):Option Str:=if (ie kd R.L).length=0 then none else oH R kd
def eV(R:Rn)(r:Rp)(line:List Pp):Lk where
 d:=R.n
 nm:=r.c.nm
 st:=ic r R.n R.gn R.L
 go:=lH r R.n R.gn R.L
 bars:=(ic r R.n R.gn R.L).map uA++(gS R.hs line).map uB++(if lM R r.c.kd=none then(ie r.c.kd R.L).map uC else [])
 lv:=lM R r.c.kd
theorem F8{kd:Str}{L:List (Str×Pt)}(h:iU L):(ie kd L).length<=41:=by
 unfold ie;rw [QO];exact Rj (RB _ _) h.1
theorem F9{hs:List Hd}{line:List Pp}(h:qY hs):(gS hs line).length<=41:=by
 unfold gS;rw [QO];exact Rj (RB _ _) h.1
theorem Ar{r:Rp}{n:Int}{g:Gn}{L:List (Str×Pt)}(h:iU L):(ic r n g L).length<=41:=
 Rj (uk (λz=>Ad _) _) (um h).1
theorem Pj{r:Rp}{n:Int}{g:Gn}{L:List (Str×Pt)}(h:iU L):(lH r n g L).length<=41:=
 Rj (uk (λz=>Ad _) _) (um h).1
theorem Ga{R:Rn}{r:Rp}{line:List Pp}(g:oG R):lL (eV R r line):=by
 refine⟨Ar g.rl,Pj g.rl,?_⟩;show(VM (_++_++_))<=200;have h1:=Ar (r:=r) (n:=R.n) (g:=R.gn) g.rl;have h2:=F9 (line:=line) g.hd;have h3:=F8 (kd:=r.c.kd) g.rl;rw [Q2,Q2,QO,QO];split
 ·rw [QO];omega
 ·simp only [RJ];omega
theorem Gb{a b c d e:Yi}:bg [QM "name",QM "coming",QM "kind",QM "makers",QM "happenings"] [a,b,c,d,e] (QM "name")=some a:=by simp [bg]
theorem Pk:QM "unused" ∉ cu:=Yb
def Pm(CR CP CL:Yl):List Yi->(Yi->Prop)->Prop:=λds Q=>∃(R:Rn)(r:Rp)(line:List Pp),ds=[R.enc CR,r.enc CP,.list (line.map Pp.enc)]/\oG R/\gP r/\uw line/\Q ((eV R r line).enc CL)
theorem Pn(T:Txt K mg t):aA P w K mg base CX0 8 t.a_m t.d_m ["self","paper","line"] (aV K (Pm t.u_Round t.u_Paper t.u_Look)):=by
 have G_a:=@NR P w _ _ base _ T;have G_b:=@NS P w _ _ base _ T;have G_c:=@NY P w _ _ base _ T;have G_l:=@Ph P w _ _ base _ T;have G_U:=@Od P w _ _ base _ T;have G_g:=@O7 P w _ _ base _ T;refine T.F_m.F.okD pJ (λds Q h=>?_) (λ_ _ _ _ H O ds Q E hr h=>?_)
 ·obtain⟨R,r,line,rfl,_⟩:=h;rfl
 ·obtain⟨R,r,line,rfl,g,hr',lo,q⟩:=h;refine'⟨_,?A,?B⟩
  case A=>
   refine' ao ?C ?D
   case C=>
    refine' bf (i:=3) pJ.nd rfl Yg ?E (hs:=qI)
    case E=>exact(PE.imp (aE G_a (hr.mono Yc) rfl T.F_a (aa (dv 1) (aa (cc (C:=t.u_Round) T.cl_Round T.na_Round_rules (dv 0)) (aa (cc (C:=t.u_Round) T.cl_Round T.na_Round_day (dv 0)) (aa (cc (C:=t.u_Round) T.cl_Round T.na_Round_gone (dv 0)) aj))))) aN)
   case' D=>refine' ao ?F ?G
   case F=>
    refine' bf (i:=4) pJ.nd rfl Yg ?H (hs:=qI)
    case H=>exact(PE.imp (aE G_b (hr.mono Yc) rfl T.F_b (aa (dv 1) (aa (cc (C:=t.u_Round) T.cl_Round T.na_Round_rules (dv 0)) (aa (cc (C:=t.u_Round) T.cl_Round T.na_Round_day (dv 0)) (aa (cc (C:=t.u_Round) T.cl_Round T.na_Round_gone (dv 0)) aj))))) aN)
   case' G=>refine' ao ?I ?J
   case I=>exact(bf (i:=5) pJ.nd rfl Yg (PE.imp (aE G_c (hr.mono Yc) rfl T.F_c (aa (cc (C:=t.u_Paper) T.cl_Paper T.na_Paper_kind (dv 1)) (aa (cc (C:=t.u_Round) T.cl_Round T.na_Round_rules (dv 0)) aj))) aN))
   case' J=>refine' ao ?K ?L
   case K=>
    refine' bf (i:=6) pJ.nd rfl Yg ?M (hs:=Ku)
    case M=>exact(qA (tf (dv 5)) (PE.imp (Br (dv 0) T.cl_Round T.mt_Round_unused G_l (hr.mono Yc) T.F_l.b .nil ft (aa (cc (C:=t.u_Paper) T.cl_Paper T.na_Paper_kind (dv 1)) aj)) Me) gB)
   case' L=>refine' ao ?N ?O
   case N=>exact(Dp (i:=7) pJ.nd rfl Yg (mZ rfl Aq (df (dv 3)) (gG (b5 aL (b5 aL gF))) vU Yc (λ_ _ _ _=>(gm (n:=2) rfl (bZ (aK (i:=0) Aq.nd rfl Yg) (bZ (aK (i:=1) Aq.nd rfl Yg) gj)))) (λ_ _ _ _=>dj) (λ_ _ _ _=>(bH (aa aX (aa (dv 0) (aa (dv 1) aj)))))))
   case' O=>refine' ao ?P ?Q
   case P=>exact(sT (i:=7) (pv 7) (jY rfl F6 (df (PE.imp (aE G_U (hr.mono Yc) rfl T.F_U (aa (cc (C:=t.u_Round) T.cl_Round T.na_Round_holds (dv 0)) (aa (dv 2) aj))) aN)) aL bM Yc (λ_ _ _ _=>(aK (i:=0) F6.nd rfl Yg)) (λ_ _ _ _=>dj) (λ_ _ _ _=>(bH (aa aX (aa (dv 0) aj))))))
   case' Q=>refine' ao ?R ?S
   case R=>
    refine' bJ ?T ?U bI
    case T=>exact(aQ qp qL (df (dv 6)) (df gB) (aF _))
    case' U=>refine' aw ?V
    case V=>exact(sT (i:=7) (pv 7) (eD rfl F7 (df (dv 5)) aL bM Yc (λ_ _ _ _=>(aK (i:=0) F7.nd rfl Yg)) (λ_ _ _ _=>dj) (λ_ _ _ _=>(bH (aa aX (aa (dv 0) aj))))))
   case' S=>refine' aw ?W
   case' W=>refine' JD 7 ?X
   case' X=>refine' aR ?Y
   case Y=>exact(PE.imp (rS T.mk_Look G_g (hr.mono Yc) rfl T.c_Look T.F_g.b .nil ft (aa (cc (C:=t.u_Round) T.cl_Round T.na_Round_day (dv 0)) (aa (cc (C:=t.u_Paper) T.cl_Paper T.na_Paper_name (dv 1)) (aa (dv 3) (aa (dv 4) (aa (dv 7) (aa (dv 6) aj))))))) vV)
  case B=>
  clear hr T G_a G_b G_c G_l G_U G_g;obtain⟨x1,x2,x3,x4,x5,x6⟩:=F4 (a:= .int R.n) (b:= .tuple (R.L.map cX)) (c:= .tuple (R.hs.map Hd.enc)) (d:= .list (R.lvs.map jA)) (e:=R.gn.enc) (f:=fX R.us (R.us.map λ_=>.bool true));have l1:=Ar (r:=r) (n:=R.n) (g:=R.gn) g.rl;have l2:=F9 (line:=line) g.hd;have l3:=F8 (kd:=r.c.kd) g.rl;generalize hB:fR (iB 7 _) _=TB;have key:∀o,o=lM R r.c.kd->TB {nx:=λx=>Q UN,rt:=Q} [some (Sl.v (R.enc t.u_Round)),some (Sl.v (r.enc t.u_Paper)),some (Sl.v (.list (line.map Pp.enc))),some (Sl.v (.tuple ((ic r R.n R.gn R.L).map ck))),some (Sl.v (.tuple ((lH r R.n R.gn R.L).map ck))),some (Sl.v (.list ((ie r.c.kd R.L).map .str))),some (Sl.v (iV o)),none]:=λo ho=>by
   subst hB;generalize hF:jh 7 _=TF;walk_at "h";refine⟨by rw [QO];omega,iQ (λ_=>true) uA (λz hz R' S h1 _=>?_) ?_⟩
   ·simp only [ck];walk_at "h";exact h1 rfl
   ·rw [fI];refine⟨cu,_,rfl,_,x3,R.hs,line,rfl,g.hd,lo,_,rfl,by rw [QO];omega,iQ (λ_=>true) uB (λz hz R' S h1 _=>?_) ?_⟩
    ·walk_at "h";exact h1 rfl
    ·rw [fI];have fin:∀bars,bars=(eV R r line).bars->TF {nx:=λx=>Q UN,rt:=Q} [some (Sl.v (R.enc t.u_Round)),some (Sl.v (r.enc t.u_Paper)),some (Sl.v (.list (line.map Pp.enc))),some (Sl.v (.tuple ((ic r R.n R.gn R.L).map ck))),some (Sl.v (.tuple ((lH r R.n R.gn R.L).map ck))),some (Sl.v (.list ((ie r.c.kd R.L).map .str))),some (Sl.v (iV o)),some (Sl.o bars)]:=λbars hb=>by
      subst hF;walk_at "h";refine⟨cu,_,rfl,_,x1,[QM "name",QM "coming",QM "kind",QM "makers",QM "happenings"],_,rfl,_,Gb,_,_,_,_,_,_,rfl,?_⟩;rw [hb,ho];exact q
     refine⟨by rw [QO,QO];omega,?_⟩;have eb:(eV R r line).bars=(ic r R.n R.gn R.L).map uA++(gS R.hs line).map uB++(if lM R r.c.kd=none then(ie r.c.kd R.L).map uC else []):=rfl;rw [<-ho] at eb;cases o with
     | none=>
      rw [Yf (by rfl)];refine⟨by rw [QO];omega,iQ (λ_=>true) uC (λz hz R' S h1 _=>?_) ?_⟩
      ·walk_at "h";exact h1 rfl
      ·rw [fI];refine⟨by rw [Q2,QO,QO,QO];omega,fin _ ?_⟩;rw [eb,Yf rfl]
     | some v=>
      rw [Ye (by simp [eM,iV])];refine fin _ ?_;rw [eb,Ye Yh,RF]
  walk_at "h";refine⟨cu,_,rfl,_,x2,cu,_,rfl,_,x1,cu,_,rfl,_,x5,r,R.L,R.n,R.gn,rfl,hr',g.rl,?_⟩;refine⟨cu,_,rfl,_,x2,cu,_,rfl,_,x1,cu,_,rfl,_,x5,r,R.L,R.n,R.gn,rfl,hr',g.rl,?_⟩;refine⟨[QM "name",QM "coming",QM "kind",QM "makers",QM "happenings"],_,rfl,_,ui,cu,_,rfl,_,x2,r.c.kd,R.L,rfl,hr'.2.1,g.rl,?_⟩;have key2:∀o,o=lM R r.c.kd->TB {nx:=λx=>Q UN,rt:=Q} [some (Sl.v (R.enc t.u_Round)),some (Sl.v (r.enc t.u_Paper)),some (Sl.v (.list (line.map Pp.enc))),some (Sl.v (.tuple ((ic r R.n R.gn R.L).map ck))),some (Sl.v (.tuple ((lH r R.n R.gn R.L).map ck))),some (Sl.v (.list ((ie r.c.kd R.L).map .str))),some (Sl.v (iV o)),none]:=key;clear key;refine⟨_,rfl,?_⟩;unfold lM at key2;by_cases h0:(ie r.c.kd R.L).length=0
  ·rw [Ye (by rw [Wx] at h0;rw [h0];simp)];exact key2 none (by rw [Yf h0])
  ·rw [Yf (by rw [List.isEmpty_eq_false_iff];intro z;exact h0 (by rw [<-QO (f:=QU),z];rfl))];exact⟨cu,⟨_,rfl⟩,Pk,[QM "name",QM "coming",QM "kind",QM "makers",QM "happenings"],_,rfl,_,ui,R,r.c.kd,rfl,g,hr'.2.1,key2 _ (by rw [Ye h0])⟩
end
local macro_rules | `(tactic| walk_at "h") =>rzT (rzS++" Sl.i.injEq Sl.r.injEq Sl.b.injEq exists_and_left pA wA wy wG tq")
theorem Gd:bb (av tU) ["self","deeds","day","done","leaves","row"] ["deed","day"] 1 [2] ⟨QW,[ (QP ".0",ZX),(QP "deed",ZX),(QP "day",Q3)],false,false,[]⟩:=⟨rfl,Yb,Yb,Yb,rfl,Yb,Yb,Yb,rfl⟩
section
variable {P:Yu} {w:Yv} {K:QN} {mg:Str->Option Yj} {base:Yw} {t:cg}
theorem Ge(T:Txt K mg t):aA P w K mg base CX0 1 t.a_k t.d_k ["self","row"] (DL K t.u_Round):=by
 refine T.F_k.F.ok MQ (λvs H Q E h=>?_) (λcdv A outer s H vs Q E hr h=>?_)
 ·obtain⟨l,dx,fs,g,u,gv,uv,a,x,y,z,rfl,_⟩:=h;rfl
 ·obtain⟨l,dx,fs,g,u,gv,uv,a,x,y,z,rfl,hl,lg,lu,ne,hg,hu,sq,n1,n2,q⟩:=h;have un:=hr.units;refine⟨_,cN (vC (Vh (WX (by decide:1<=64) _) hr.units) (rQ (pv 0) rfl) (jG aG (pv 1) bL (λ_ _=>rfl)) (jG aG (pv 1) bL (λ_ _=>rfl)) rfl) (eX (oP (rE (Ho (jG aG (pv 1) bL (λ_ _=>rfl)))) (eX (vC (Vh (WX (by decide:1<=64) _) hr.units) (rQ (pv 0) rfl) (jG aG (pv 1) bL (λ_ _=>rfl)) AG rfl)) oO)),?_⟩;have gl:l≠g:=λe=>by rw [e,hg] at hl;cases hl
  have tk:∀{H':Hp},(∀b o,H b=some o->b≠g->H' b=some o)->aZ K H' a [.str x,y,z]:=λ{H'} k=>by
   rcases sq with(h | ⟨ob,h⟩) | h
   ·exact .inl (.inl (k _ _ h (λe=>by rw [e,hg] at h;cases h)))
   ·exact .inl (.inr ⟨ob,k _ _ h (λe=>by rw [e,hg] at h;cases h)⟩)
   ·exact .inr h
  simp only [uJ,B7];walk_at "a";refine jb sq eJ ⟨_,rfl,l,_,dx,fs,_,rfl,hl,T.cl_Round,T.na_Round_gone,lg,jb sq dH ⟨g,rfl,_,nZ.k (k:= .inr x) hg n1,?_⟩⟩;have sq2:aZ K (ah H g (.dK (putK gv (.inr x) y))) a [.str x,y,z]:=tk λb o e n=>by rw [az n];exact e
  simp only [AH];walk_at "a";refine jb sq2 hV ?_;rcases q with⟨rfl,q⟩ | ⟨s,rfl,q⟩
  ·exact q
  ·rw [Yf (λz=>nomatch z)];refine⟨_,rfl,l,_,dx,fs,_,rfl,by rw [az gl];exact hl,T.cl_Round,T.na_Round_used,lu,?_⟩;walk_at "a";refine jb sq2 hV ⟨_,nZ.k (k:= .inr s) (by rw [az (Ne.symm ne)];exact hu) n2,q⟩
def nK(go:List (Str×Int))(k:Str)(d:Int):List (Str×Int):=if (go.any λp=>decide (p.1=k))=true then go.map (λp=>if p.1=k then(p.1,d) else p) else go++[(k,d)]
def oI(us:List Str)(s:Str):List Str:=if us.contains s=true then us else us++[s]
theorem Gf(go:List (Str×Int))(k:Str):((fj go).any λp=>decide (p.1=Sn k))=go.any λp=>decide (p.1=k):=by
 unfold fj;rw [VC];congr 1;funext p;simp only [TR,decide_eq_decide];exact jn
theorem Gg(go:List (Str×Int))(k:Str)(d:Int):fT (fj go) (.inr k) (.int d)=fj (nK go k d):=by
 unfold fT nK;rw [Gf];split
 ·unfold fj;rw [Rc,Rc];apply S4;intro p _;simp only [TR];by_cases h:p.1=k
  ·rw [Yf (by rw [h]),Yf h]
  ·rw [Ye (λe=>h (jn.mp e)),Ye h]
 ·unfold fj;rw [Rf];rfl
theorem Po(us:List Str)(k:Str):((fK us).any λp=>decide (p.1=Sn k))=us.contains k:=by
 unfold fK;rw [VC]
 induction us with
 | nil=>rfl
 | cons u us ih=>
  rw [R5,VQ,ih];congr 1;simp only [TR];by_cases h:u=k
  ·rw [h];simp
  ·rw [decide_eq_false (λe=>h (jn.mp e)),bR (λe=>h e.symm)]
theorem Gh(us:List Str)(k:Str):fT (fK us) (.inr k) (.bool true)=fK (oI us k):=by
 unfold fT oI;rw [Po];split
 ·unfold fK;rw [Rc];apply S4;intro p _;simp only [TR];split <;> rfl
 ·unfold fK;rw [Rf];rfl
def cv(m:List (Str×Int)×List Str)(r:Ro):List (Str×Int)×List Str:=(nK m.1 r.nm r.d,match r.lv with
 | none=>m.2
 | some s=>oI m.2 s)
theorem Gi(go:List (Str×Int))(k:Str)(d:Int):(nK go k d).length<=go.length+1:=by
 unfold nK;split <;> simp
theorem Gj(us:List Str)(k:Str):(oI us k).length<=us.length+1:=by
 unfold oI;split <;> simp
theorem As:∀(rs:List Ro)(m:List (Str×Int)×List Str),(rs.foldl cv m).1.length<=m.1.length+rs.length/\(rs.foldl cv m).2.length<=m.2.length+rs.length
 | [],m=>⟨QQ _,QQ _⟩
 | r::rs,m=>by
  obtain⟨h1,h2⟩:=As rs (cv m r);have a:(cv m r).1.length<=m.1.length+1:=Gi _ _ _;have b:(cv m r).2.length<=m.2.length+1:=by
   unfold cv;cases r.lv with
   | none=>exact Sg _
   | some s=>exact Gj _ _
  rw [RP,Q0];exact⟨Yd,Yd⟩
def De.lv:De->Option Pp
 | .oth w d nm [.str kd]=>if (w==QM "leave")=true then some ⟨d,nm,kd,[]⟩ else none
 | _=>none
def p6(n:Int)(x:De):Bool:=x.w==QM "leave" && decide (x.d<=n)
def rn(xs:List De)(n:Int):List Pp:=bu ((xs.filterMap De.lv).filter λp=>decide (p.d<=n))
theorem Gk{n:Int}:∀{xs:List De},(∀d nm r,De.oth (QM "leave") d nm r∈xs->∃kd,r=[.str kd]/\QT kd=true)->(xs.filter (p6 n)).map De.enc=((xs.filterMap De.lv).filter λp=>decide (p.d<=n)).map jA
 | [],_=>rfl
 | x::xs,h=>by
  have ih:=Gk (n:=n) (xs:=xs) λd nm r z=>h d nm r (Ri _ z);by_cases hw:x.w=QM "leave"
  ·cases x with
   | pap p=>exact absurd hw (by show QM "paper"≠_;decide+kernel)
   | oth w d nm r=>
    have hw:w=QM "leave":=hw;subst hw;obtain⟨kd,rfl,_⟩:=h d nm r RC;have e1:De.lv (.oth (QM "leave") d nm [.str kd])=some ⟨d,nm,kd,[]⟩:=by simp [De.lv]
    have e2:p6 n (.oth (QM "leave") d nm [.str kd])=decide (d<=n):=by
     show((QM "leave"==QM "leave") && decide (d<=n))=_;rw [beq_self_eq_true,Sr]
    rw [Ss,e1,RI,RI,e2];by_cases hd:d<=n
    ·rw [Yf (by simpa using hd),Yf (by simpa using hd),QR,QR,ih];rfl
    ·rw [Ye (by simpa using hd),Ye (by simpa using hd),ih]
  ·have e1:De.lv x=none:=by
    cases x with
    | pap p=>rfl
    | oth w d nm r=>
     unfold De.lv;split
     ·rename_i e;cases e;rw [bR (show w≠QM "leave" from hw),Ye QV]
     ·rfl
   have e2:p6 n x=false:=by unfold p6;rw [bR hw,US]
   rw [Ss,e1,RI,e2,Ye QV,ih]
theorem Pq{ps:List Pp}{ds:List Yi}(nd:(ps.map (·.nm)).Nodup)(hp:ds.Perm (ps.map jA))(hs:ds.Pairwise λa b=>aY (gM a) (gM b)=true):ds=(bu ps).map jA:=by
 refine nI (r:=λa b=>aY (gM a) (gM b)=true) (λa b z=>uf z) (hp.trans ((iM ps).map jA).symm) hs ?_;rw [Sa];exact pO nd
theorem uD{xs:List De}{p:Pp}(h:p∈xs.filterMap De.lv):∃x∈xs,x= .oth (QM "leave") p.d p.nm [.str p.kd]:=by
 obtain⟨x,hx,e⟩:=UE.mp h;cases x with
 | pap q=>cases e
 | oth w d nm r=>
  unfold De.lv at e;split at e
  ·rename_i e2;cases e2;split at e
   ·rename_i hw;cases e;exact⟨_,hx,by rw [eq_of_beq hw]⟩
   ·cases e
  ·cases e
theorem Au:∀{xs:List De},xs.Nodup->(∀x∈xs,∀y∈xs,x.w=QM "leave"->y.w=QM "leave"->x.nm=y.nm->x=y)->((xs.filterMap De.lv).map (·.nm)).Nodup
 | [],_,_=>by simp
 | x::xs,nd,h=>by
  rw [Sq] at nd;have ih:=Au nd.2 λa ha b hb=>h a (Ri _ ha) b (Ri _ hb);rw [Ss];cases e:De.lv x with
  | none=>exact ih
  | some p=>
   show(RU (·.nm) (p::xs.filterMap De.lv)).Nodup;rw [QR,Sq];refine⟨λhm=>?_,ih⟩;obtain⟨p',hp',en⟩:=Q5.mp hm;obtain⟨y,hy,ey⟩:=uD hp';obtain⟨x',hx',ex⟩:=uD (xs:=[x]) (p:=p) (by rw [Ss,e];simp);rw [Ra] at hx';subst hx';have:=h x' RC y (Ri _ hy) (by rw [ex];rfl) (by rw [ey];rfl) (by rw [ex,ey];exact en.symm);rw [this] at nd;exact nd.1 hy
def cI(xs:List De)(n:Int)(rows:List Ro):Rn:=⟨n,ib xs n,pY xs n,rn xs n,(rows.foldl cv ([],[])).1,(rows.foldl cv ([],[])).2⟩
def Pr:List Yi->List Yi->(List (Str×Yi)->List (aq×Yi)->List (aq×Yi)->Prop)->Prop:=λds es Q=>∃(xs:List De)(n:Int)(rows:List Ro),ds=[.tuple (xs.map De.enc),.int n]/\es=rows.map Ro.enc/\bO xs/\rows.length<=100000/\(oG (cI xs n rows)->Q (cI xs n rows).fd (fj (cI xs n rows).go) (fK (cI xs n rows).us))
theorem Av(R:Rn):gb (QM "mark") (R.fd.map (·.1))=true:=by
 show gb (QM "mark") [QM "day",QM "rules",QM "holds",QM "leaves"]=true;decide+kernel
theorem Pu(T:Txt K mg t):aA P w K mg base CX0 5 t.a_j t.d_j ["self","deeds","day","done"] (wD K t.u_Round Pr):=by
 have G_R:=@NJ P w _ _ base _ T;have G_S:=@Ob P w _ _ base _ T;have G_J:=@xY P w _ _ base _ T;have G_k:=@Ge P w _ _ base _ T;refine T.F_j.F.okRn xN (λds es Q h=>?_) (λcdv A outer s H H1 O ds es Q E l hr h0 hX h=>?_)
 ·obtain⟨xs,n,rows,rfl,_⟩:=h;rfl
 ·obtain⟨xs,n,rows,rfl,rfl,g,rl,q⟩:=h;refine'⟨_,?A,?B⟩
  case A=>
   refine' ao ?C ?D
   case C=>exact(fG (C:=t.u_Round) (i:=0) T.cl_Round T.na_Round_day (pv 0) (dv 2))
   case' D=>refine' ao ?E ?F
   case E=>exact(fG (C:=t.u_Round) (i:=0) T.cl_Round T.na_Round_rules (pv 0) (PE.imp (aE G_R (hr.mono Yc) rfl T.F_R (aa (dv 1) (aa (dv 2) aj))) aN))
   case' F=>refine' ao ?G ?H
   case G=>exact(fG (C:=t.u_Round) (i:=0) T.cl_Round T.na_Round_holds (pv 0) (PE.imp (aE G_S (hr.mono Yc) rfl T.F_S (aa (dv 1) (aa (dv 2) aj))) aN))
   case' H=>refine' ao ?I ?J
   case I=>exact(hW (i:=4) xN.nd rfl Yg (mZ rfl Gd (df (dv 1)) aL bM Yc (λ_ _ _ _=>(aK (i:=0) Gd.nd rfl Yg)) (λ_ _ _ _=>(cZ (PW.pt (fB (aQ (cz hr) cA (df (ak aG aM (df (dv 0)) (df af))) (df aX) (aF _)) (fA (aQ lP di (df (ak aG aM (df (dv 0)) (df af))) (df (dv 1)) (aF _))))))) (λ_ _ _ _=>(dv 0))))
   case' J=>refine' ao ?K ?L
   case K=>exact(fG (C:=t.u_Round) (i:=0) T.cl_Round T.na_Round_leaves (pv 0) (fe (CZ gM rfl G_J (bp.in1 (bp.in1 (hr.mono Yc))) T.F_J.b rfl T.F_J.m rfl T.n_sorted Tc (bj (df (dv 4)) br))))
   case' L=>refine' Mo (C:=t.u_Round) (i:=0) T.cl_Round T.na_Round_gone T.na_Round_used (pv 0) (pv 0) ?M
   case' M=>refine' aw ?N
   case' N=>refine' Mp (j:=3) h0 RM rfl (pv 3) ?O aL ?P
   case O=>exact(aK (i:=5) xN.nd rfl Yg)
   case' P=>refine' aw ?Q
   case Q=>exact(DM (C:=t.u_Round) (i:=0) hX (pv 0) T.cl_Round T.mt_Round_mark G_k (hr.mono Yc) T.F_k.b ft (dv 5))
  case B=>
  clear hr T G_R G_S G_J G_k h0 hX;simp only [wF,nt,QR,RO,R4,RY,VJ,Q0,RJ,SA,SD,Q8];have f1:∀a,dB (QM "day") a []=[(QM "day",a)]:=λa=>rfl;have f2:∀a b,dB (QM "rules") b [(QM "day",a)]=[(QM "day",a),(QM "rules",b)]:=λa b=>jz (ks:=[QM "day"]) rfl Yb;have f3:∀a b c,dB (QM "holds") c [(QM "day",a),(QM "rules",b)]=[(QM "day",a),(QM "rules",b),(QM "holds",c)]:=λa b c=>jz (ks:=[QM "day",QM "rules"]) rfl Yb;have f4:∀a b c d,dB (QM "leaves") d [(QM "day",a),(QM "rules",b),(QM "holds",c)]=[(QM "day",a),(QM "rules",b),(QM "holds",c),(QM "leaves",d)]:=λa b c d=>jz (ks:=[QM "day",QM "rules",QM "holds"]) rfl Yb;have lt:∀n:Nat,n < 10->n < 1000:=λn h=>by omega
  have lt9:∀n:Nat,n < 10->n < 900:=λn h=>by omega
  have xl:=g.gd.gx.ln;generalize hB:tq _ _ _=TB;walk_at "h";simp only [f1,f2,f3,f4];refine⟨xs,n,rfl,g.gd,λh1 h2=>⟨lt 1 Yc,xs,n,rfl,g,λh3=>⟨lt 2 Yc,by rw [QO];omega,cW (p6 n) De.enc (λx hx R S h=>?_) ?_⟩⟩⟩
  ·have h:if (x.w==QM "leave")=true then(if x.d<=n then R x.enc else S) else S:=by
    unfold p6 at h;by_cases e1:(x.w==QM "leave")=true
    ·rw [Yf e1];rw [e1,Sr] at h;by_cases e2:x.d<=n
     ·rw [Yf e2];rw [Yf (by simpa using e2)] at h;exact h
     ·rw [Ye e2];rw [Ye (by simpa using e2)] at h;exact h
    ·rw [Ye e1];rw [Te] at e1;rw [e1,US,Ye QV] at h;exact h
   cases x <;> simp only [De.enc,De.w,De.d,Pp.enc] at h⊢<;> walk_at "h" <;> exact h
  ·rw [Gk g.le];have nd:(((xs.filterMap De.lv).filter λp=>decide (p.d<=n)).map (·.nm)).Nodup:=(Au g.gd.nd g.lv).sublist (U1.map _);have ll:((xs.filterMap De.lv).filter λp=>decide (p.d<=n)).length<=41:=by
    have a:=RB (λp:Pp=>decide (p.d<=n)) (xs.filterMap De.lv);have b:=Vi De.lv xs;omega
   refine⟨λd hd R z=>?_,by rw [QO];omega,?_,λds' h5 h6=>⟨lt 3 Yc,?_,lt9 4 Yc,λga ua=>?_⟩⟩
   ·obtain⟨p,hp,rfl⟩:=Q5.mp hd;exact⟨.oth (QM "leave") p.d p.nm [.str p.kd],rfl,z⟩
   ·rw [Rc];exact EF nd
   ·show gb (QM "mark") [QM "day",QM "rules",QM "holds",QM "leaves"]=true;decide+kernel
   ·rw [Pq nd h5 h6];have g5:oG (cI xs n rows):=by
     refine⟨NZ g.gd h1 h2,h3,?_,λp hp=>?_⟩
     ·show(bu _).length<=41;rw [iO];exact ll
     ·have hp:=(RH.mp (iN.mp hp)).1;obtain⟨x,hx,e⟩:=uD hp;obtain⟨kd,e2,h⟩:=g.le p.d p.nm [.str p.kd] (by rw [<-e];exact hx);simp only [RG,R8,and_true] at e2;rw [e2];exact h
    have q:=q g5;subst hB;walk_at "h";refine⟨λi δ=>∃o5,δ=[some (Sl.r l t.u_Round ga ua (cI xs n rows).fd (fj ((rows.take i).foldl cv ([],[])).1) (fK ((rows.take i).foldl cv ([],[])).2)),some (Sl.v (Ry (RU De.enc xs))),some (Sl.v (Rq n)),some (Sl.b (RU Ro.enc rows)),some (Sl.v (SK (((xs.filterMap De.lv).filter λp=>decide (p.d<=n)).map jA))),o5],⟨none,rfl⟩,?_,?_⟩
    ·rintro i z δ hz ⟨o5,rfl⟩;rw [Q1] at hz;cases hz':rows[i]? with
     | none=>rw [hz'] at hz;cases hz
     | some r=>
      rw [hz'] at hz;cases hz;have ts:(rows.take (i+1)).foldl cv ([],[])=cv ((rows.take i).foldl cv ([],[])) r:=by
       rw [RL,hz',Uj];rfl
      obtain⟨m1,m2⟩:=As (rows.take i) ([],[]);rw [RA] at m1 m2;simp only [RJ] at m1 m2;simp only [ts,Ro.enc];walk_at "h";generalize hM:(rows.take i).foldl cv ([],[])=M at m1 m2;refine⟨rfl,Av _,by unfold fj;rw [QO];omega,by unfold fK;rw [QO];omega,?_⟩;have e1:(cv M r).1=nK M.1 r.nm r.d:=rfl;rw [e1,Gg];cases hv:r.lv with
      | none=>
       have e2:(cv M r).2=M.2:=by unfold cv;rw [hv]
       rw [e2];exact .inl ⟨rfl,rfl,rfl,_,rfl⟩
      | some v=>
       have e2:(cv M r).2=oI M.2 v:=by unfold cv;rw [hv]
       rw [e2];exact .inr ⟨v,rfl,rfl,Gh _ _,_,rfl⟩
    ·rintro δ ⟨o5,rfl⟩;rw [QO,Rl (QQ _)];exact⟨_,_,_,_,_,rfl,q⟩
end
local macro_rules | `(tactic| walk_at "h") =>rzT (rzS++" Sl.i.injEq Sl.r.injEq Sl.b.injEq exists_and_left pA wA wy wG tq DP wB DQ")
theorem Gm:bb (av tV) ["deeds"] ["name","deeds"] 1 [0] ⟨QW,[ (QP ".0",ZX),(QP "name",ZX),(QP "Paper",Rr),(QP "line_of",Rr),(QP "deeds",Q3)],false,false,[]⟩:=⟨rfl,Yb,Yb,Yb,rfl,Yb,Yb,Yb,rfl⟩
section
variable {P:Yu} {w:Yv} {K:QN} {mg:Str->Option Yj} {base:Yw} {t:cg}
theorem Pw(T:Txt K mg t):t.u_Look≠t.u_Round:=λe=>by
 have h1:=T.mk_Look.init;have h2:=T.mk_Round.init;rw [e,h2] at h1;have h3:t.a_j=t.a_g:=by injection h1 with h1;injection h1 with h1;injection h1
 obtain⟨_,_,_,_,_,_,_,_,_,e1,k1,_⟩:=T.F_g.F.ex;obtain⟨_,_,_,_,_,_,_,_,_,e2,k2,_⟩:=T.F_j.F.ex;rw [<-h3,k2] at k1;simp only [Sb,Obj.mk.injEq,Data.func.injEq] at k1;have h4:t.d_j=t.d_g:=k1.2.2.1;rw [e1,e2] at h4;have h5:("Round.__init__":Str)="Look.__init__":=congrArg FuncData.qualname h4;exact absurd h5 Yb
abbrev Sf:=Rp×List Pp
def Sf.enc(C:Yl)(s:Sf):Yi:= .tuple [s.1.enc C,.list (s.2.map Pp.enc)]
def dM(xs:List De):List Sf:=(bu (aC xs)).map λc=>(eT xs c,jy (aC xs) c)
def Gq(s:Sf):Prop:=gP s.1/\uw s.2
def Px(C:Yl):List Yi->(Yi->Prop)->Prop:=λds Q=>∃xs:List De,ds=[.tuple (xs.map De.enc)]/\ia xs/\((∀s∈dM xs,Gq s)->Q (.list ((dM xs).map (Sf.enc C))))
theorem Py(T:Txt K mg t):aA P w K mg base CX0 9 t.a_n t.d_n ["deeds"] (aV K (Px t.u_Paper)):=by
 have G_I:=@EI P w _ _ base _ T;have G_M:=@y9 P w _ _ base _ T;have G_P:=@O5 P w _ _ base _ T;refine T.F_n.F.okD MR (λds Q h=>?_) (λ_ _ _ _ H O ds Q E hr h=>?_)
 ·obtain⟨xs,rfl,_⟩:=h;rfl
 ·obtain⟨xs,rfl,gd,q⟩:=h;refine'⟨_,?A,?B⟩
  case A=>
   refine' aw ?C
   case' C=>refine' aR ?D
   case' D=>refine' fe ?E
   case E=>exact(jY rfl Gm (df (PE.imp (aE G_M (hr.mono Yc) rfl T.F_M (aa (dv 0) aj)) aN)) aL bM Yc (λ_ _ _ _=>(aK (i:=0) Gm.nd rfl Yg)) (λ_ _ _ _=>dj) (λ_ _ _ _=>(bH (aa (PE.imp (rS T.mk_Paper G_I (hr.mono Yc) rfl T.c_Paper T.F_I.b .nil ft (aa (dv 1) (aa (dv 0) aj))) vV) (aa (PE.imp (aE G_P (hr.mono Yc) rfl T.F_P (aa (dv 1) (aa (dv 0) aj))) aN) aj)))))
  case B=>
  clear hr T G_I G_M G_P;walk_at "d";have ln:=gd.gx.ln;have ol:=iO (ps:=aC xs);have pl:=gd.gx.gp.ln;refine⟨xs,rfl,gd.gx,_,rfl,by rw [QO,QO];omega,?_⟩;refine⟨λi acc=>acc=((bu (aC xs)).take i).map (λc=>Sf.enc t.u_Paper (eT xs c,jy (aC xs) c))/\∀c∈(bu (aC xs)).take i,gP (eT xs c),⟨rfl,Yh⟩,?_,?_⟩
  ·rintro i z acc hz ⟨rfl,hh⟩;rw [Q1,Q1] at hz;cases hz':(bu (aC xs))[i]? with
   | none=>rw [hz'] at hz;cases hz
   | some c=>
    rw [hz'] at hz;cases hz;walk_at "d";have hc:=iN.mp (Rm hz');refine⟨xs,c,rfl,gd,hc,λh1 h2 h3=>⟨xs,c,rfl,gd.gx,hc,?_,λc' hc'=>?_⟩⟩
    ·rw [RL,hz',Rf];rfl
    ·rw [RL,hz'] at hc';rcases Q9.mp hc' with y | y
     ·exact hh c' y
     ·have y:c'=c:=by simpa using y
      rw [y];exact E1 gd hc h1 h3
  ·rintro acc ⟨rfl,hh⟩;simp only [QO,Xx] at hh⊢;have e:(bu (aC xs)).map (λc=>Sf.enc t.u_Paper (eT xs c,jy (aC xs) c))=(dM xs).map (Sf.enc t.u_Paper):=by unfold dM;rw [Rc];rfl
   rw [e];refine q λs hs=>?_;obtain⟨c,hc,rfl⟩:=Q5.mp hs;exact⟨hh c hc,O3 gd.gx.gp (iN.mp hc)⟩
abbrev iW:=List (Str×Int)×List Str
def ro(go:List (Str×Int))(z:Str):Bool:=go.any λp=>decide (p.1=z)
def Rn.at(R:Rn)(m:iW):Rn:={R with go:=m.1,us:=m.2}
def dX(R:Rn)(st:iW×List Lk)(s:Sf):iW×List Lk:=
 if (decide (s.1.c.d<=R.n) && !ro st.1.1 s.1.c.nm)=true then((if (eV (R.at st.1) s.1 s.2).lets=true then cv st.1 (eV (R.at st.1) s.1 s.2).row else st.1),st.2++[eV (R.at st.1) s.1 s.2]) else st
def jB(R:Rn)(ss:List Sf):iW×List Lk:=ss.foldl (dX R) ((R.go,R.us),[])
def nL(xs:List De)(n:Int)(rows:List Ro)(ss:List Sf):List Lk:=(jB (cI xs n rows) ss).2
theorem Aw:∀{ds:List Yi},(∀d∈ds,cG d=true)->fH ds=true
 | [],_=>rfl
 | d::ds,h=>by
  rw [fH,h d RC,Aw λx hx=>h x (Ri _ hx)];rfl
theorem Gr(o:Option Int):cG (bY o)=true:=by cases o <;> rfl
theorem Pz(o:Option Str):cG (iV o)=true:=by cases o <;> rfl
theorem PB{r:Rp}{n:Int}{g:Gn}{pt:Pt}{d:Yi}(h:pU r n g pt=some d):cG d=true:=by
 cases pt with
 | two w kd=>
  simp only [pU] at h;split at h
  ·rw [Tr] at h;obtain⟨s,_,rfl⟩:=h;rfl
  ·cases h
 | five w kd s k u=>
  simp only [pU] at h;split at h
  ·cases h;exact Gr _
  ·cases h
theorem PD{r:Rp}{n:Int}{g:Gn}{pt:Pt}{d:Yi}(h:pV r n g pt=some d):cG d=true:=by
 cases pt with
 | two w kd=>
  simp only [pV] at h;split at h
  ·rw [Tr] at h;obtain⟨s,_,rfl⟩:=h;rfl
  ·cases h
 | five w kd s k u=>
  simp only [pV] at h;split at h
  ·cases h;exact Gr _
  ·cases h
theorem Gs{r:Rp}{n:Int}{g:Gn}{L:List (Str×Pt)}{z:Str×Yi}(h:z∈ic r n g L):cG z.2=true:=by
 obtain⟨y,_,hy⟩:=Xy.mp h;unfold Ab at hy;rw [Xo,Tr] at hy;obtain⟨b,hb,rfl⟩:=hy;exact PB hb
theorem PF{r:Rp}{n:Int}{g:Gn}{L:List (Str×Pt)}{z:Str×Yi}(h:z∈lH r n g L):cG z.2=true:=by
 obtain⟨y,_,hy⟩:=Xy.mp h;unfold Ac at hy;rw [Xo,Tr] at hy;obtain⟨b,hb,rfl⟩:=hy;exact PD hb
theorem Gu{l:List (Str×Yi)}(h:∀z∈l,cG z.2=true):fH (l.map ck)=true:=Aw λd hd=>by
 obtain⟨z,hz,rfl⟩:=Q5.mp hd;show(true && (cG z.2 && true))=true;rw [h z hz];rfl
theorem PH{CR CL:Yl}(ne:CL≠CR)(R:Rn)(r:Rp)(line:List Pp):wu CR ((eV R r line).enc CL):=by
 refine .inr ⟨CL,_,_,ne,rfl,?_⟩;have h1:fH ((ic r R.n R.gn R.L).map ck)=true:=Gu λz hz=>Gs hz;have h2:fH ((lH r R.n R.gn R.L).map ck)=true:=Gu λz hz=>PF hz;have h3:fH (eV R r line).bars=true:=Aw λd hd=>by
  have hd:d∈(ic r R.n R.gn R.L).map uA++(gS R.hs line).map uB++(if lM R r.c.kd=none then(ie r.c.kd R.L).map uC else []):=hd;rcases Q9.mp hd with hd | hd
  ·rcases Q9.mp hd with hd | hd
   ·obtain⟨z,hz,rfl⟩:=Q5.mp hd;show(true && (true && (cG z.2 && true)))=true;rw [Gs hz];rfl
   ·obtain⟨z,hz,rfl⟩:=Q5.mp hd;rfl
  ·split at hd
   ·obtain⟨z,hz,rfl⟩:=Q5.mp hd;rfl
   ·cases hd
 show(true && (true && (fH ((ic r R.n R.gn R.L).map ck) && (fH ((lH r R.n R.gn R.L).map ck) && (fH (eV R r line).bars && (cG (iV (eV R r line).lv) && true))))))=true;rw [h1,h2,h3,Pz];rfl
theorem PJ(R:Rn)(st:iW×List Lk)(s:Sf):(dX R st s).1.1.length<=st.1.1.length+1/\(dX R st s).1.2.length<=st.1.2.length+1/\(dX R st s).2.length<=st.2.length+1:=by
 unfold dX;split
 ·refine⟨?_,?_,Yh⟩
  ·show(if _ then _ else _:iW).1.length<=_;split
   ·exact Gi _ _ _
   ·exact Sg _
  ·show(if _ then _ else _:iW).2.length<=_;split
   ·unfold cv;cases (eV (R.at st.1) s.1 s.2).row.lv with
    | none=>exact Sg _
    | some v=>exact Gj _ _
   ·exact Sg _
 ·exact⟨Sg _,Sg _,Sg _⟩
theorem Ax(R:Rn):∀(ss:List Sf)(st:iW×List Lk),(ss.foldl (dX R) st).1.1.length<=st.1.1.length+ss.length/\(ss.foldl (dX R) st).1.2.length<=st.1.2.length+ss.length/\(ss.foldl (dX R) st).2.length<=st.2.length+ss.length
 | [],st=>⟨QQ _,QQ _,QQ _⟩
 | s::ss,st=>by
  obtain⟨h1,h2,h3⟩:=Ax R ss (dX R st s);obtain⟨a1,a2,a3⟩:=PJ R st s;rw [RP,Q0];exact⟨Yd,Yd,Yd⟩
theorem Gv(R:Rn)(g:oG R):∀(ss:List Sf)(st:iW×List Lk),(∀k∈st.2,lL k)->∀k∈(ss.foldl (dX R) st).2,lL k
 | [],st,h=>h
 | s::ss,st,h=>by
  rw [RP];refine Gv R g ss _ λk hk=>?_;unfold dX at hk;split at hk
  ·rcases Q9.mp hk with z | z
   ·exact h k z
   ·rw [Ra] at z;rw [z];exact Ga ⟨g.rl,g.hd,g.ll,g.lk⟩
  ·exact h k hk
theorem PK(go:List (Str×Int))(z:Str):(fF (fj go) (.inr z)).isSome=ro go z:=by
 unfold fF ro;rw [Vm,<-Gf,UG,List.find?_isSome,T2]
theorem PL(R:Rn):gb (QM "look") (R.fd.map (·.1))=true:=by
 show gb (QM "look") [QM "day",QM "rules",QM "holds",QM "leaves"]=true;decide+kernel
theorem Gw:QM "lets_go" ∉ cn:=Yb
theorem Gx:QM "as_row" ∉ cn:=Yb
def PM(xs:List De)(ss:List Sf)(n:Int)(rows:List Ro)(l CR CP CL ga ua:Yl)(R:Rn)(st:iW×List Lk)(δ:Dl):Prop:=∃(o6 o7 o8:Option Sl),δ=[some (Sl.v (Ry (RU De.enc xs))),some (Sl.v (SK (RU (Sf.enc CP) ss))),some (Sl.v (Rq n)),some (Sl.b (RU Ro.enc rows)),some (Sl.r l CR ga ua R.fd (fj st.1.1) (fK st.1.2)),some (Sl.o (st.2.map (Lk.enc CL))),o6,o7,o8]
def PN(CP CL:Yl):List Yi->List Yi->(Yi->Prop)->Prop:=λds es Q=>∃(xs:List De)(ss:List Sf)(n:Int)(rows:List Ro),ds=[.tuple (xs.map De.enc),.list (ss.map (Sf.enc CP)),.int n]/\es=rows.map Ro.enc/\bO xs/\rows.length<=100000/\ss.length<=41/\(∀s∈ss,Gq s)/\((∀k∈nL xs n rows ss,lL k)->Q (.list ((nL xs n rows ss).map (Lk.enc CL))))
theorem PQ(T:Txt K mg t):aA P w K mg base CX0 9 t.a_o t.d_o ["deeds","shelf","day","done"] (wC K (PN t.u_Paper t.u_Look)):=by
 have G_j:=@Pu P w _ _ base _ T;have G_k:=@Ge P w _ _ base _ T;have G_m:=@Pn P w _ _ base _ T;have G_h:=@F2 P w _ _ base _ T;have G_i:=@F3 P w _ _ base _ T;have two:=Pw T;refine T.F_o.F.okB pK (λds es Q h=>?_) (λcdv A outer s H O ds es Q E hr h0 h=>?_)
 ·obtain⟨xs,ss,n,rows,rfl,_⟩:=h;rfl
 ·obtain⟨xs,ss,n,rows,rfl,rfl,g,rl,sl,so,q⟩:=h;have hX:∀b,H b=none->∀o z,H b≠some (.frz o z):=λb hb o z e=>by
   rw [hb] at e;cases e
  refine'⟨_,?A,?B⟩
  case A=>
   refine' ao ?C ?D
   case C=>exact(Mm (C:=t.u_Round) (i:=4) (j:=3) pK.nd rfl Yg T.mk_Round G_j (hr.mono Yc) rfl T.c_Round T.F_j.b ft (dv 0) (dv 2) (pv 3))
   case' D=>refine' ao ?E ?F
   case E=>exact(iC (i:=5) pK.nd rfl Yg (bW aj))
   case' F=>refine' ao ?G ?H
   case G=>
    refine' nV RM rfl (dv 1) ?I (gG (b5 aL (b5 aL gF))) ?J
    case I=>exact(gm (n:=2) rfl (bZ (aK (i:=6) pK.nd rfl Yg) (bZ (aK (i:=7) pK.nd rfl Yg) gj)))
    case' J=>refine' aw ?K
    case' K=>refine' bJ ?L ?M bI
    case L=>exact(PW.pt (fB (aQ lP di (df (cc (C:=t.u_Paper) T.cl_Paper T.na_Paper_coming (dv 6))) (df (dv 2)) (aF _)) (fA (Mj (C:=t.u_Round) (i:=4) hr.units T.cl_Round T.na_Round_gone (pv 4) (cc (C:=t.u_Paper) T.cl_Paper T.na_Paper_name (dv 6))))))
    case' M=>refine' ao ?N ?O
    case N=>exact(bf (i:=8) pK.nd rfl Yg (PE.imp (Br (pv 4) T.cl_Round T.mt_Round_look G_m (hr.mono Yc) T.F_m.b .nil ft (aa (dv 6) (aa (dv 7) aj))) Mh))
    case' O=>refine' ao ?P ?Q
    case P=>exact(lR (i:=5) (pv 5) (dv 8))
    case' Q=>refine' aw ?R
    case' R=>refine' bJ ?S ?T bI
    case S=>exact(jc (PE.imp (rR (dv 8) T.cl_Look T.mt_Look_lets_go G_h (hr.mono Yc) T.F_h.b .nil ft) tj))
    case' T=>refine' aw ?U
    case U=>exact(DM (C:=t.u_Round) (i:=4) hX (pv 4) T.cl_Round T.mt_Round_mark G_k (hr.mono Yc) T.F_k.b ft (PE.imp (rR (dv 8) T.cl_Look T.mt_Look_as_row G_i (hr.mono Yc) T.F_i.b .nil ft) tj))
   case' H=>refine' aw ?V
   case V=>exact(qB (pv 5))
  case B=>
  clear hr T G_j G_k G_m G_h G_i h0 hX;simp only [nt,QR,RO,R4,RY,VJ,Q0,RJ,SA,SD,Q8];walk_at "h";refine⟨xs,n,rows,rfl,rfl,g,rl,λgR l ga ua=>?_⟩;have q:Q (.list ((jB (cI xs n rows) ss).2.map (Lk.enc t.u_Look))):=q (Gv _ gR ss _ (λk hk=>nomatch hk));obtain⟨m1,m2⟩:=As rows ([],[]);have m1:(cI xs n rows).go.length<=100000:=by
   have:(cI xs n rows).go.length<=0+rows.length:=m1;omega
  have m2:(cI xs n rows).us.length<=100000:=by
   have:(cI xs n rows).us.length<=0+rows.length:=m2;omega
  generalize hE:fz.mk _ _ _ _=EE;have eN:EE.nx=iz 5 {nx:=λx=>Q UN,rt:=Q}:=by rw [<-hE]
  have hn:(cI xs n rows).n=n:=rfl;clear hE rl;generalize cI xs n rows=R at*;refine⟨λi=>PM xs ss n rows l t.u_Round t.u_Paper t.u_Look ga ua R (jB R (ss.take i)),⟨none,none,none,rfl⟩,?_,?_⟩
  ·rintro i z δ hz ⟨o6,o7,o8,rfl⟩;rw [Q1] at hz;cases hz':ss[i]? with
   | none=>rw [hz'] at hz;cases hz
   | some s=>
    rw [hz'] at hz;cases hz;have ts:jB R (ss.take (i+1))=dX R (jB R (ss.take i)) s:=by
     unfold jB;rw [RL,hz',Uj];rfl
    obtain⟨b1,b2,b3⟩:=Ax R (ss.take i) ((R.go,R.us),[]);have b1:(jB R (ss.take i)).1.1.length<=R.go.length+(ss.take i).length:=b1;have b2:(jB R (ss.take i)).1.2.length<=R.us.length+(ss.take i).length:=b2;have b3:(jB R (ss.take i)).2.length<=0+(ss.take i).length:=b3;rw [RA] at b1 b2 b3;obtain⟨so1,so2⟩:=so s (Rm hz');simp only [ts];generalize jB R (ss.take i)=st at b1 b2 b3;simp only [Sf.enc];walk_at "h";have no:(decide (s.1.c.d<=R.n) && !ro st.1.1 s.1.c.nm)=false->dX R st s=st:=λh=>by
     unfold dX;rw [Ye (by rw [h];exact QV)]
    refine⟨[QM "name",QM "coming",QM "kind",QM "makers",QM "happenings"],_,rfl,_,uh,_,rfl,?_⟩;by_cases hd:s.1.c.d<=n
    ·rw [Yf hd];refine⟨[QM "name",QM "coming",QM "kind",QM "makers",QM "happenings"],_,rfl,_,Gb,_,rfl,Av R,?_⟩;rw [PK];by_cases hg:ro st.1.1 s.1.c.nm=false
     ·rw [Yf hg];have eS:dX R st s=((if (eV (R.at st.1) s.1 s.2).lets=true then cv st.1 (eV (R.at st.1) s.1 s.2).row else st.1),st.2++[eV (R.at st.1) s.1 s.2]):=by
       unfold dX;rw [Yf (by rw [hn,decide_eq_true hd,hg];rfl)]
      have gR':oG (R.at st.1):=⟨gR.rl,gR.hd,gR.ll,gR.lk⟩;refine⟨PL R,st.1.1.map (·.1),by unfold fj;rw [Rc,Rc];rfl,st.1.2,by unfold fK;rw [Rc];rfl,?_⟩;refine⟨R.at st.1,s.1,s.2,by rw [<-Pf];rfl,gR',so1,so2,PH two _ _ _,by rw [QO];omega,cn,⟨_,rfl⟩,Gw,eV (R.at st.1) s.1 s.2,rfl,Ga gR',_,rfl,?_⟩;rw [eS];generalize eV (R.at st.1) s.1 s.2=k;by_cases hl:k.lets=true
      ·rw [Yf hl,Yf hl];refine⟨rfl,Av R,cn,⟨_,rfl⟩,Gx,k,rfl,k.nm,.int k.d,iV k.lv,rfl,by unfold fj;rw [QO];omega,by unfold fK;rw [QO];omega,?_⟩;have e3:st.2.map (Lk.enc t.u_Look)++[k.enc t.u_Look]=(st.2++[k]).map (Lk.enc t.u_Look):=by rw [Rf];rfl
       rw [Gg,e3];cases hv:k.lv with
       | none=>
        have e2:cv st.1 k.row=(nK st.1.1 k.nm k.d,st.1.2):=by
         unfold cv;rw [show k.row.lv=none from hv];rfl
        exact .inl ⟨rfl,_,_,_,by rw [e2]⟩
       | some v=>
        have e2:cv st.1 k.row=(nK st.1.1 k.nm k.d,oI st.1.2 v):=by
         unfold cv;rw [show k.row.lv=some v from hv];rfl
        exact .inr ⟨v,rfl,_,_,_,by rw [Gh,e2]⟩
      ·rw [Ye hl,Ye hl];exact⟨_,_,_,by rw [Rf];rfl⟩
     ·rw [Ye hg,no (by rw [Wa] at hg;rw [hg,XU];rfl)];exact⟨_,_,_,rfl⟩
    ·rw [Ye hd,no (by rw [hn,decide_eq_false hd];rfl)];exact⟨_,_,_,rfl⟩
  ·rintro δ ⟨o6,o7,o8,rfl⟩;rw [eN,QO,Rl (QQ _)];walk_at "h";exact q
end
theorem Gy:bb (av tW) ["looks"] ["look"] 1 [] ⟨QW,[(QP ".0",ZX),(QP "look",ZX)],false,false,[]⟩:=⟨rfl,Yb,Yb,Yb,rfl,Yb,Yb,Yb,rfl⟩
section
variable {P:Yu} {w:Yv} {K:QN} {mg:Str->Option Yj} {base:Yw} {t:cg}
def lN(ks:List Lk):List Ro:=(ks.filter Lk.lets).map Lk.row
def PR(CL:Yl):List Yi->(Yi->Prop)->Prop:=λds Q=>∃ks:List Lk,ds=[.list (ks.map (Lk.enc CL))]/\(∀k∈ks,lL k)/\ks.length<=100000/\Q (.list ((lN ks).map Ro.enc))
theorem Gz(T:Txt K mg t):aA P w K mg base CX0 2 t.a_q t.d_q ["looks"] (aV K (PR t.u_Look)):=by
 have G_h:=@F2 P w _ _ base _ T;have G_i:=@F3 P w _ _ base _ T;refine T.F_q.F.okD MS (λds Q h=>?_) (λ_ _ _ _ H O ds Q E hr h=>?_)
 ·obtain⟨ks,rfl,_⟩:=h;rfl
 ·obtain⟨ks,rfl,ok,le,q⟩:=h;refine'⟨_,?A,?B⟩
  case A=>
   refine' aw ?C
   case' C=>refine' aR ?D
   case' D=>refine' fe ?E
   case E=>exact(eD rfl Gy (df (dv 0)) aL bM Yc (λ_ _ _ _=>(aK (i:=0) Gy.nd rfl Yg)) (λ_ _ _ _=>(cZ (jc (PE.imp (rR (dv 0) T.cl_Look T.mt_Look_lets_go G_h (hr.mono Yc) T.F_h.b .nil ft) tj)))) (λ_ _ _ _=>(PE.imp (rR (dv 0) T.cl_Look T.mt_Look_as_row G_i (hr.mono Yc) T.F_i.b .nil ft) tj)))
  case B=>
  clear hr T G_h G_i;walk_at "h";refine⟨by rw [QO];omega,cW Lk.lets (λk=>k.row.enc) (λk hk R S h=>?_) ?_⟩
  ·walk_at "h";refine⟨cn,⟨_,rfl⟩,Gw,k,rfl,ok k hk,_,rfl,?_⟩;by_cases hl:k.lets=true
   ·rw [Yf hl] at h⊢;exact⟨cn,⟨_,rfl⟩,Gx,k,rfl,h⟩
   ·rw [Ye hl] at h⊢;exact h
  ·have e:(ks.filter Lk.lets).map (λk=>k.row.enc)=(lN ks).map Ro.enc:=by unfold lN;rw [Rc];rfl
   rw [e];exact q
def nM(xs:List De)(ss:List Sf)(st:List Ro×List Lk)(n:Int):List Ro×List Lk:=(st.1++lN (nL xs n st.1 ss),st.2++nL xs n st.1 ss)
def fk(xs:List De)(ss:List Sf)(ns:List Int):List Ro×List Lk:=ns.foldl (nM xs ss) ([],[])
theorem PV{xs:List De}(g:ia xs):(dM xs).length<=41:=by
 unfold dM;rw [QO,iO];exact g.gx.gp.ln
theorem PX(xs:List De)(n:Int)(rows:List Ro)(ss:List Sf):(nL xs n rows ss).length<=ss.length:=by
 have h:=(Ax (cI xs n rows) ss (((cI xs n rows).go,(cI xs n rows).us),[])).2.2;rw [RJ,TN] at h;exact h
theorem GA(ks:List Lk):(lN ks).length<=ks.length:=by
 unfold lN;rw [QO];exact RB _ _
theorem PY{xs:List De}{ss:List Sf}{ns:List Int}{i:Nat}{n:Int}(h:ns[i]?=some n):fk xs ss (ns.take (i+1))=nM xs ss (fk xs ss (ns.take i)) n:=by
 unfold fk;rw [RL,h,Uj];rfl
def PZ(xs:List De)(ss:List Sf)(ns:List Int)(CP CL:Yl)(i:Nat)(st:List Ro×List Lk)(δ:Dl):Prop:=∃(o6 o7:Option Sl),st.1.length<=41*i/\st.2.length<=41*i/\(∀k∈st.2,lL k)/\δ=[some (Sl.v (Ry (RU De.enc xs))),some (Sl.v (Ry (RU Rq ns))),some (Sl.v (SK [])),some (Sl.v (SK (ss.map (Sf.enc CP)))),some (Sl.o (st.1.map Ro.enc)),some (Sl.o (st.2.map (Lk.enc CL))),o6,o7]
def F_p(CL:Yl):List Yi->(Yi->Prop)->Prop:=λds Q=>∃(xs:List De)(ns:List Int),ds=[.tuple (xs.map De.enc),.tuple (ns.map .int),.list []]/\bO xs/\ns.length < 64/\((∀k∈(fk xs (dM xs) ns).2,lL k)->(fk xs (dM xs) ns).2.length<=100000->Q (.list ((fk xs (dM xs) ns).2.map (Lk.enc CL))))
theorem P0(T:Txt K mg t):aA P w K mg base CX0 10 t.a_p t.d_p ["deeds","days","done"] (aV K (F_p t.u_Look)):=by
 have G_n:=@Py P w _ _ base _ T;have G_o:=@PQ P w _ _ base _ T;have G_q:=@Gz P w _ _ base _ T;refine T.F_p.F.okD pL (λds Q h=>?_) (λ_ _ _ _ H O ds Q E hr h=>?_)
 ·obtain⟨xs,ns,rfl,_⟩:=h;rfl
 ·obtain⟨xs,ns,rfl,g,nl,q⟩:=h;refine'⟨_,?A,?B⟩
  case A=>
   refine' ao ?C ?D
   case C=>exact(bf (i:=3) pL.nd rfl Yg (PE.imp (aE G_n (hr.mono Yc) rfl T.F_n (aa (dv 0) aj)) aN))
   case' D=>refine' ao ?E ?F
   case E=>exact(iC (i:=4) pL.nd rfl Yg (JN rfl T.n_list Jq (bj (df (dv 2)) br)))
   case' F=>refine' ao ?G ?H
   case G=>exact(iC (i:=5) pL.nd rfl Yg (bW aj))
   case' H=>refine' ao ?I ?J
   case I=>
    refine' pe RM rfl (dv 1) ?K aL ?L
    case K=>exact(aK (i:=6) pL.nd rfl Yg)
    case' L=>refine' ao ?M ?N
    case M=>exact(bf (i:=7) pL.nd rfl Yg (Mq (j:=4) G_o (hr.mono Yc) rfl T.F_o.m T.F_o.kp T.F_o.b ft (dv 0) (dv 3) (dv 6) (pv 4)))
    case' N=>refine' ao ?O ?P
    case O=>exact(wb (i:=4) (pv 4) (PE.imp (aE G_q (hr.mono Yc) rfl T.F_q (aa (dv 7) aj)) aN))
    case' P=>refine' aw ?Q
    case Q=>exact(wb (i:=5) (pv 5) (dv 7))
   case' J=>refine' aw ?R
   case R=>exact(qB (pv 5))
  case B=>
  clear hr T G_n G_o G_q;walk_at "h";refine⟨xs,rfl,g.gd,λso=>?_⟩;have sl:=PV g.gd;generalize dM xs=ss at*;generalize hE:fz.mk _ _ _ _=EE;have eN:EE.nx=iz 5 {nx:=λx=>Q UN,rt:=Q}:=by rw [<-hE]
  clear hE;refine⟨λi=>PZ xs ss ns t.u_Paper t.u_Look i (fk xs ss (ns.take i)),⟨none,none,RD _,RD _,(λk hk=>nomatch hk),rfl⟩,?_,?_⟩
  ·rintro i z δ hz ⟨o6,o7,l1,l2,ok,rfl⟩;rw [Q1] at hz;cases hz':ns[i]? with
   | none=>rw [hz'] at hz;cases hz
   | some n=>
    rw [hz'] at hz;cases hz;have hi:=(QZ.mp hz').1;simp only [PY hz'];generalize fk xs ss (ns.take i)=st at*;walk_at "h";have k1:=PX xs n st.1 ss;have k2:=GA (nL xs n st.1 ss);refine⟨xs,ss,n,st.1,rfl,rfl,g,Yd,sl,so,λkok=>⟨nL xs n st.1 ss,rfl,kok,Yd,_,rfl,by rw [QO,QO];omega,_,rfl,by rw [QO,QO];omega,?_⟩⟩;have a1:(nM xs ss st n).1.length<=41*(i+1):=by
     show(st.1++_).length<=_;rw [Q2];omega
    have a2:(nM xs ss st n).2.length<=41*(i+1):=by
     show(st.2++_).length<=_;rw [Q2];omega
    refine⟨_,_,a1,a2,λk hk=>?_,by rw [<-Rf,<-Rf];rfl⟩;rcases Q9.mp hk with z | z
    ·exact ok k z
    ·exact kok k z
  ·rintro δ ⟨o6,o7,l1,l2,ok,rfl⟩;rw [QO,Rl (QQ _)] at l2 ok;rw [eN,QO,Rl (QQ _)];walk_at "h";exact q ok Yd
def P1(CL:Yl):List Yi->(Yi->Prop)->Prop:=λds Q=>∃xs:List De,ds=[.tuple (xs.map De.enc)]/\bO xs/\oE xs/\((∀k∈(fk xs (dM xs) (eU xs)).2,lL k)->(fk xs (dM xs) (eU xs)).2.length<=100000->Q (.list ((fk xs (dM xs) (eU xs)).2.map (Lk.enc CL))))
theorem P2(T:Txt K mg t):aA P w K mg base CX0 11 t.a_r t.d_r ["deeds"] (aV K (P1 t.u_Look)):=by
 have G_p:=@P0 P w _ _ base _ T;have G_f:=@Fl P w _ _ base _ T;refine T.F_r.F.okD MT (λds Q h=>?_) (λ_ _ _ _ H O ds Q E hr h=>?_)
 ·obtain⟨xs,rfl,_⟩:=h;rfl
 ·obtain⟨xs,rfl,g,few,q⟩:=h;refine'⟨_,?A,?B⟩
  case A=>
   refine' aw ?C
   case' C=>refine' aR ?D
   case D=>exact(PE.imp (aE G_p (hr.mono Yc) rfl T.F_p (aa (dv 0) (aa (PE.imp (aE G_f (hr.mono Yc) rfl T.F_f (aa (dv 0) aj)) aN) (aa (fe (bW aj)) aj)))) aN)
  case B=>
  clear hr T G_p G_f;walk_at "h";exact⟨xs,rfl,g.gd,λ_=>few,λ_ tl=>⟨xs,eU xs,rfl,g,tl,q⟩⟩
end
theorem GB:bb (av tX) ["deeds","rows","row"] ["name","rows"] 1 [1] ⟨QW,[ (QP ".0",ZX),(QP "name",ZX),(QP "rows",Q3)],false,false,[]⟩:=⟨rfl,Yb,Yb,Yb,rfl,Yb,Yb,Yb,rfl⟩
theorem GC:bb (av qT) ["deeds","day","days","come"] ["coming","day"] 1 [1] ⟨QW,[ (QP ".0",ZX),(QP "coming",ZX),(QP "day",Q3)],false,false,[]⟩:=⟨rfl,Yb,Yb,Yb,rfl,Yb,Yb,Yb,rfl⟩
theorem GF:bb (av qT) ["deeds","day","days","come"] ["name","day","days"] 1 [1,2] ⟨QW,[ (QP ".0",ZX),(QP "name",ZX),(QP "day",Q3),(QP "days",Q3)],false,false,[]⟩:=⟨rfl,Yb,Yb,Yb,rfl,Yb,Yb,Yb,rfl⟩
section
variable {P:Yu} {w:Yv} {K:QN} {mg:Str->Option Yj} {base:Yw} {t:cg}
def dE{α:Type}(m:List (Str×α))(k:Str)(v:α):List (Str×α):=if (m.any λp=>decide (p.1=k))=true then m.map (λp=>if p.1=k then(p.1,v) else p) else m++[(k,v)]
def gh{α:Type}(f:α->Yi)(m:List (Str×α)):List (aq×Yi):=m.map λp=>(Sn p.1,f p.2)
def iX{α:Type}(m:List (Str×α))(z:Str):Option α:=(m.find? λp=>decide (p.1=z)).map (·.2)
theorem GG{α:Type}(f:α->Yi)(m:List (Str×α))(k:Str)(v:α):fT (gh f m) (.inr k) (f v)=gh f (dE m k v):=by
 have e:((gh f m).any λp=>decide (p.1=Sn k))=m.any λp=>decide (p.1=k):=by
  unfold gh;rw [VC];congr 1;funext p;simp only [TR,decide_eq_decide];exact jn
 unfold fT dE;rw [e];split
 ·unfold gh;rw [Rc,Rc];apply S4;intro p _;simp only [TR];by_cases h:p.1=k
  ·rw [Yf (by rw [h]),Yf h]
  ·rw [Ye (λe=>h (jn.mp e)),Ye h]
 ·unfold gh;rw [Rf];rfl
theorem P4{α:Type}(m:List (Str×α))(k:Str)(v:α):(dE m k v).length<=m.length+1:=by
 unfold dE;split <;> simp
theorem P5{α:Type}(m:List (Str×α))(k:Str)(v:α)(z:Str):iX (dE m k v) z=if k=z then some v else iX m z:=by
 unfold dE iX;by_cases h:(m.any λp=>decide (p.1=k))=true
 ·rw [Yf h]
  induction m with
  | nil=>cases h
  | cons p m ih=>
   rw [QR,R1,R1];by_cases hp:p.1=k
   ·rw [Yf hp];by_cases hz:k=z
    ·rw [Yf hz,hp,hz];simp
    ·rw [Ye hz];have e1:decide (p.1=z)=false:=decide_eq_false (λe=>hz (by rw [<-hp,e]));simp only [e1];have key:∀l:List (Str×α),(l.map λp=>if p.1=k then(p.1,v) else p).find? (λp=>decide (p.1=z))=l.find? λp=>decide (p.1=z):=λl=>by
      induction l with
      | nil=>rfl
      | cons a l ih=>
       rw [QR,R1,R1,ih];by_cases ha:a.1=k
       ·rw [Yf ha];have e2:decide (a.1=z)=false:=decide_eq_false (λe=>hz (by rw [<-ha,e]));simp only [e2]
       ·rw [Ye ha]
     rw [key]
   ·rw [Ye hp];rw [R5,decide_eq_false hp,SU] at h;have ih:=ih h;by_cases hz:p.1=z
    ·rw [decide_eq_true hz,Ye (λe=>hp (by rw [hz,e]))]
    ·simp only [decide_eq_false hz];exact ih
 ·rw [Ye h,Xn];have no:∀p∈m,p.1≠k:=λp hp e=>h (T2.mpr ⟨p,hp,by rw [e];simp⟩);by_cases hz:k=z
  ·rw [Yf hz,Vd.mpr (λp hp=>by rw [<-hz];simpa using no p hp),hz];simp
  ·rw [Ye hz,R1,decide_eq_false hz];simp
theorem uE{α:Type}(f:α->Yi):∀(m:List (Str×α))(z:Str),bg (m.map (·.1)) (m.map λp=>f p.2) z=(iX m z).map f
 | [],_=>rfl
 | p::m,z=>by
  have ih:=uE f m z;unfold iX at ih⊢;rw [QR,QR,bg,R1];by_cases h:p.1=z
  ·rw [Yf h,decide_eq_true h];rfl
  ·rw [Ye h,decide_eq_false h];exact ih
theorem GH{α:Type}(f:α->Yi)(m:List (Str×α)):(gh f m).map (·.1)=(m.map (·.1)).map Sn:=by
 unfold gh;rw [Rc,Rc];rfl
theorem GI{α:Type}(f:α->Yi)(m:List (Str×α)):(gh f m).map (·.2)=m.map λp=>f p.2:=by
 unfold gh;rw [Rc];rfl
def nN(rs:List Ro):List (Str×Ro):=rs.foldl (λm r=>dE m r.nm r) []
theorem Ay{α β:Type}(kf:β->Str)(vf:β->α):∀(rs:List β)(m:List (Str×α)),(rs.foldl (λm r=>dE m (kf r) (vf r)) m).length<=m.length+rs.length
 | [],m=>QQ _
 | r::rs,m=>by
  have h:=Ay kf vf rs (dE m (kf r) (vf r));have h2:=P4 m (kf r) (vf r);rw [RP,Q0];omega
theorem Az{α β:Type}(kf:β->Str)(vf:β->α)(z:Str):∀(rs:List β)(m:List (Str×α)),iX (rs.foldl (λm r=>dE m (kf r) (vf r)) m) z=rs.foldl (λo r=>if kf r=z then some (vf r) else o) (iX m z)
 | [],m=>rfl
 | r::rs,m=>by
  rw [RP,RP,Az kf vf z rs,P5]
def jC(xs:List De):List Ro:=lN (fk xs (dM xs) (eU xs)).2
structure Pl where
 nm:Str
 d:Option Int
 lv:Option Str
def Pl.enc(p:Pl):Yi:= .tuple [.str p.nm,bY p.d,iV p.lv]
def Ro.pl(r:Ro):Pl:=⟨r.nm,some r.d,r.lv⟩
def oJ(rs:List Ro)(z:Str):Option Ro:=rs.foldl (λo r=>if r.nm=z then some r else o) none
def cB(xs:List De):List Pl:=(bu (aC xs)).map λc=>((oJ (jC xs) c.nm).map Ro.pl).getD ⟨c.nm,none,none⟩
def F_s:List Yi->(Yi->Prop)->Prop:=λds Q=>∃xs:List De,ds=[.tuple (xs.map De.enc)]/\bO xs/\oE xs/\Q (.tuple ((cB xs).map Pl.enc))
theorem GJ(T:Txt K mg t):aA P w K mg base CX0 12 t.a_s t.d_s ["deeds"] (aV K F_s):=by
 have G_r:=@P2 P w _ _ base _ T;have G_q:=@Gz P w _ _ base _ T;have G_M:=@y9 P w _ _ base _ T;refine T.F_s.F.okD xO (λds Q h=>?_) (λ_ _ _ _ H O ds Q E hr h=>?_)
 ·obtain⟨xs,rfl,_⟩:=h;rfl
 ·obtain⟨xs,rfl,g,few,q⟩:=h;refine'⟨_,?A,?B⟩
  case A=>
   refine' ao ?C ?D
   case C=>exact(vL (i:=1) xO.nd rfl Yg vK)
   case' D=>refine' ao ?E ?F
   case E=>
    refine' nV RM rfl (PE.imp (aE G_q (hr.mono Yc) rfl T.F_q (aa (PE.imp (aE G_r (hr.mono Yc) rfl T.F_r (aa (dv 0) aj)) aN) aj)) aN) ?G aL ?H
    case G=>exact(aK (i:=2) xO.nd rfl Yg)
    case' H=>refine' aw ?I
    case I=>exact(vM (i:=1) hr.units (pv 1) (ak aG aM (df (dv 2)) (df af)) (dv 2))
   case' F=>refine' aw ?J
   case' J=>refine' C1 1 ?K
   case' K=>refine' aR ?L
   case L=>exact(PE.imp (cT fN rfl T.n_tuple fP (bj (df (fe (jY rfl GB (df (PE.imp (aE G_M (hr.mono Yc) rfl T.F_M (aa (dv 0) aj)) aN)) aL bM Yc (λ_ _ _ _=>(aK (i:=0) GB.nd rfl Yg)) (λ_ _ _ _=>dj) (λ_ _ _ _=>(L8 hr.units (dv 1) (dv 0) (bH (aa (dv 0) (aa gB (aa gB aj)))) ⟨rfl,rfl,rfl,rfl⟩))))) br)) (bz fS))
  case B=>
  clear hr T G_r G_q G_M;walk_at "h";refine⟨xs,rfl,g,few,λkok kl=>⟨_,rfl,kok,kl,_,rfl,?_⟩⟩;have rl:(jC xs).length<=100000:=Rj (GA _) kl;have q:Q (.tuple ((bu (aC xs)).map λc=>(((oJ (jC xs) c.nm).map Ro.pl).getD ⟨c.nm,none,none⟩).enc)):=by
   have q:Q (.tuple ((cB xs).map Pl.enc)):=q;unfold cB at q;rw [Rc] at q;exact q
  have eR:lN (fk xs (dM xs) (eU xs)).2=jC xs:=rfl;rw [eR];clear kok kl few eR;generalize jC xs=rs at*;refine⟨λi δ=>∃o2,δ=[some (Sl.v (Ry (RU De.enc xs))),some (Sl.k (gh Ro.enc (nN (rs.take i)))),o2],⟨none,rfl⟩,?_,?_⟩
  ·rintro i z δ hz ⟨o2,rfl⟩;rw [Q1] at hz;cases hz':rs[i]? with
   | none=>rw [hz'] at hz;cases hz
   | some r=>
    rw [hz'] at hz;cases hz;have ts:nN (rs.take (i+1))=dE (nN (rs.take i)) r.nm r:=by
     unfold nN;rw [RL,hz',Uj];rfl
    have ml:(nN (rs.take i)).length<=0+(rs.take i).length:=Ay (λr:Ro=>r.nm) (λr=>r) (rs.take i) [];rw [RA] at ml;simp only [ts];generalize nN (rs.take i)=M at*;simp only [Ro.enc];walk_at "h";exact⟨by unfold gh;rw [QO];omega,GG Ro.enc M r.nm r,_,rfl⟩
  ·rintro δ ⟨o2,rfl⟩;rw [QO,Rl (QQ _)];have ma:∀z,iX (nN rs) z=oJ rs z:=λz=>Az (λr:Ro=>r.nm) (λr=>r) z rs [];generalize nN rs=M at*;walk_at "h";have pl:=g.gd.gx.gp.ln;refine⟨M.map (·.1),GH _ _,xs,rfl,g.gd.gx,_,rfl,by rw [QO,QO,iO];omega,?_⟩;rw [GI];refine iQ (λ_=>true) (λz=>(((oJ rs z).map Ro.pl).getD ⟨z,none,none⟩).enc) (λz hz R S h1 _=>?_) ?_
   ·walk_at "h";have h:=h1 rfl;refine⟨_,_,rfl,?_⟩;rw [uE Ro.enc,ma]
    revert h
    cases oJ rs z with
    | none=>exact id
    | some r=>exact id
   ·rw [fI,Rc];exact q
def rA(xs:List De):List (Str×Option Int):=(cB xs).foldl (λm p=>dE m p.nm p.d) []
def AA{α:Type}(f:α->Yi)(m:List (Str×α)):Yi:=fX (m.map (·.1)) (m.map λp=>f p.2)
def P6:List Yi->(Yi->Prop)->Prop:=λds Q=>∃xs:List De,ds=[.tuple (xs.map De.enc)]/\bO xs/\oE xs/\Q (AA bY (rA xs))
theorem P7{xs:List De}(g:bO xs):(cB xs).length<=41:=by
 unfold cB;rw [QO,iO];exact g.gd.gx.gp.ln
theorem P8(T:Txt K mg t):aA P w K mg base CX0 13 t.a_t t.d_t ["deeds"] (aV K P6):=by
 have G_s:=@GJ P w _ _ base _ T;refine T.F_t.F.okD qU (λds Q h=>?_) (λ_ _ _ _ H O ds Q E hr h=>?_)
 ·obtain⟨xs,rfl,_⟩:=h;rfl
 ·obtain⟨xs,rfl,g,few,q⟩:=h;refine'⟨_,?A,?B⟩
  case A=>
   refine' ao ?C ?D
   case C=>exact(vL (i:=1) qU.nd rfl Yg vK)
   case' D=>refine' ao ?E ?F
   case E=>
    refine' pe RM rfl (PE.imp (aE G_s (hr.mono Yc) rfl T.F_s (aa (dv 0) aj)) aN) ?G (gG (b5 aL (b5 aL (b5 aL gF)))) ?H
    case G=>exact(gm (n:=3) rfl (bZ (aK (i:=2) qU.nd rfl Yg) (bZ (aK (i:=3) qU.nd rfl Yg) (bZ (aK (i:=4) qU.nd rfl Yg) gj))))
    case' H=>refine' aw ?I
    case I=>exact(vM (i:=1) hr.units (pv 1) (dv 2) (dv 3))
   case' F=>refine' aw ?J
   case' J=>refine' C1 1 ?K
   case K=>exact(aR (dv 1))
  case B=>
  clear hr T G_s;walk_at "h";have pl:=P7 g;have q:Q (AA bY ((cB xs).foldl (λm p=>dE m p.nm p.d) [])):=q;refine⟨xs,rfl,g,few,_,rfl,?_⟩;generalize cB xs=ps at*;refine⟨λi δ=>∃(o2 o3 o4:Option Sl),δ=[some (Sl.v (Ry (RU De.enc xs))),some (Sl.k (gh bY ((ps.take i).foldl (λm p=>dE m p.nm p.d) []))),o2,o3,o4],⟨none,none,none,rfl⟩,?_,?_⟩
  ·rintro i z δ hz ⟨o2,o3,o4,rfl⟩;rw [Q1] at hz;cases hz':ps[i]? with
   | none=>rw [hz'] at hz;cases hz
   | some r=>
    rw [hz'] at hz;cases hz;have ts:(ps.take (i+1)).foldl (λm p=>dE m p.nm p.d) []=dE ((ps.take i).foldl (λm p=>dE m p.nm p.d) []) r.nm r.d:=by
     rw [RL,hz',Uj];rfl
    have ml:((ps.take i).foldl (λm p=>dE m p.nm p.d) []).length<=0+(ps.take i).length:=Ay (λr:Pl=>r.nm) (λr=>r.d) (ps.take i) [];rw [RA] at ml;simp only [ts];generalize (ps.take i).foldl (λm p=>dE m p.nm p.d) []=M at*;simp only [Pl.enc];walk_at "h";refine⟨by unfold gh;rw [QO];omega,GG bY M r.nm r.d,?_⟩;exact⟨_,rfl⟩
  ·rintro δ ⟨o2,o3,o4,rfl⟩;rw [QO,Rl (QQ _)];generalize ps.foldl (λm p=>dE m p.nm p.d) []=M at*;walk_at "h";refine⟨M.map (·.1),GH _ _,?_⟩;rw [GI];exact q
def oK(ps:List Pl)(z:Str):Option (Option Int):=ps.foldl (λo p=>if p.nm=z then some p.d else o) none
def p7(n:Int):Option (Option Int)->Bool
 | some (some d)=>decide (d > n)
 | _=>true
theorem AB{z:Str}:∀(rs:List Ro)(o:Option Ro),(∀r,o=some r->r.nm=z)->∀r,rs.foldl (λo r=>if r.nm=z then some r else o) o=some r->r.nm=z
 | [],o,h,r,e=>h r e
 | a::rs,o,h,r,e=>by
  rw [RP] at e;refine AB rs _ (λr' e'=>?_) r e;by_cases ha:a.nm=z
  ·rw [Yf ha] at e';cases e';exact ha
  ·rw [Ye ha] at e';exact h r' e'
theorem GK{z:Str}:∀(ps:List Pl)(o:Option (Option Int)),(o.isSome=true\/∃p∈ps,p.nm=z)->(ps.foldl (λo p=>if p.nm=z then some p.d else o) o).isSome=true
 | [],o,h=>by
  rcases h with h | ⟨p,hp,_⟩
  ·exact h
  ·cases hp
 | a::ps,o,h=>by
  rw [RP];refine GK ps _ ?_;by_cases ha:a.nm=z
  ·rw [Yf ha];exact .inl rfl
  ·rw [Ye ha];rcases h with h | ⟨p,hp,e⟩
   ·exact .inl h
   ·rcases QX.mp hp with y | y
    ·exact absurd (by rw [<-y];exact e) ha
    ·exact .inr ⟨p,y,e⟩
theorem P9{xs:List De}{c:Pp}(h:c∈bu (aC xs)):∃p∈cB xs,p.nm=c.nm:=by
 refine⟨_,Q5.mpr ⟨c,h,rfl⟩,?_⟩;cases e:oJ (jC xs) c.nm with
 | none=>rfl
 | some r=>exact AB _ none (λr h=>nomatch h) r e
theorem Qa{xs:List De}{c:Pp}(h:c∈bu (aC xs)):∃o,iX (rA xs) c.nm=some o/\oK (cB xs) c.nm=some o:=by
 have e:iX (rA xs) c.nm=oK (cB xs) c.nm:=Az (λr:Pl=>r.nm) (λr=>r.d) c.nm (cB xs) [];have s:(oK (cB xs) c.nm).isSome=true:=GK (cB xs) none (.inr (P9 h));obtain⟨o,ho⟩:=Ut.mp s;exact⟨o,e.trans ho,ho⟩
def lO(xs:List De)(n:Int):List Str:=(((bu (aC xs)).filter λc=>decide (c.d<=n)).map (·.nm)).filter λz=>p7 n (oK (cB xs) z)
theorem Qb{xs:List De}{n:Int}{Q:Yi->Prop}(q:Q (.tuple ((lO xs n).map .str))):ji (iD 0) (jd (c7 (cC jm (iK (b0 2) (b0 0)) (dC UN))) (c7 (cC (dI λi j=>UL (decide (j < i))) (iK (b0 2) (b0 0)) (b0 1)))) (b0 0) [none,some (Sl.v (Rq n)),some (Sl.v (AA bY (rA xs)))] ((T6 (λc:Pp=>decide (c.d<=n)) (bu (aC xs))).map (λc=>QU c.nm)) λds=>Q (Ry ds):=by
 have e1:(T6 (λc:Pp=>decide (c.d<=n)) (bu (aC xs))).map (λc=>QU c.nm)=((T6 (λc:Pp=>decide (c.d<=n)) (bu (aC xs))).map (·.nm)).map QU:=by rw [Rc];rfl
 rw [e1];have key:∀z∈(T6 (λc:Pp=>decide (c.d<=n)) (bu (aC xs))).map (·.nm),∃o,iX (rA xs) z=some o/\oK (cB xs) z=some o:=λz hz=>by
  obtain⟨c,hc,rfl⟩:=Q5.mp hz;exact Qa (RH.mp hc).1
 have q:Q (.tuple ((((T6 (λc:Pp=>decide (c.d<=n)) (bu (aC xs))).map (·.nm)).filter λz=>p7 n (oK (cB xs) z)).map .str)):=q;generalize (T6 (λc:Pp=>decide (c.d<=n)) (bu (aC xs))).map (·.nm)=cs at*;refine cW (enc:=QU) (λz=>p7 n (oK (cB xs) z)) QU (λz hz R S h=>?_) q;obtain⟨o,h1,h2⟩:=key z hz;rw [h2] at h;walk_at "h";refine⟨_,_,rfl,bY o,by rw [uE bY,h1];rfl,?_⟩;cases o with
 | none=>
  rw [Yf (by rfl)];rw [Yf (by rfl)] at h;exact h
 | some d=>
  rw [Ye (by simp [eM,bY])];refine⟨_,_,rfl,bY (some d),by rw [uE bY,h1];rfl,d,rfl,?_⟩;by_cases hd:n < d
  ·rw [Yf hd];rw [Yf (show p7 n (some (some d))=true from decide_eq_true hd)] at h;exact h
  ·rw [Ye hd];rw [Ye (show ¬p7 n (some (some d))=true by rw [show p7 n (some (some d))=false from decide_eq_false hd];exact QV)] at h;exact h
def F_u:List Yi->(Yi->Prop)->Prop:=λds Q=>∃(xs:List De)(n:Int),ds=[.tuple (xs.map De.enc),.int n]/\bO xs/\oE xs/\Q (.tuple ((lO xs n).map .str))
theorem Qc(T:Txt K mg t):aA P w K mg base CX0 14 t.a_u t.d_u ["deeds","day"] (aV K F_u):=by
 have G_t:=@P8 P w _ _ base _ T;have G_K:=@xZ P w _ _ base _ T;refine T.F_u.F.okD xP (λds Q h=>?_) (λ_ _ _ _ H O ds Q E hr h=>?_)
 ·obtain⟨xs,n,rfl,_⟩:=h;rfl
 ·obtain⟨xs,n,rfl,g,few,q⟩:=h;refine'⟨_,?A,?B⟩
  case A=>
   refine' ao ?C ?D
   case C=>exact(bf (i:=2) xP.nd rfl Yg (PE.imp (aE G_t (hr.mono Yc) rfl T.F_t (aa (dv 0) aj)) aN))
   case' D=>refine' ao ?E ?F
   case E=>exact(hW (i:=3) xP.nd rfl Yg (sL rfl GC (df (PE.imp (aE G_K (hr.mono Yc) rfl T.F_K (aa (dv 0) aj)) aN)) aL bM Yc (λ_ _ _ _=>(aK (i:=0) GC.nd rfl Yg)) (λ_ _ _ _=>(cZ (aQ lP di (df (ak aG aM (df (dv 0)) (df af))) (df (dv 1)) (aF _)))) (λ_ _ _ _=>(ak aG aM (df (dv 0)) (df af)))))
   case' F=>refine' aw ?G
   case' G=>refine' aR ?H
   case H=>exact(PE.imp (cT fN rfl T.n_tuple fP (bj (df (fe (eD rfl GF (df (dv 3)) aL bM Yc (λ_ _ _ _=>(aK (i:=0) GF.nd rfl Yg)) (λ_ _ _ _=>(cZ (PW.pt (sC (aQ qp qL (df (C3 hr.units (dv 2) (dv 0) (λ_ _=>rfl))) (df gB) (aF _)) (sA (aQ jE di (df (C3 hr.units (dv 2) (dv 0) (λ_ _=>rfl))) (df (dv 1)) (aF _))))))) (λ_ _ _ _=>(dv 0))))) br)) (bz fS))
  case B=>
  clear hr T G_t G_K;walk_at "h";have pl:=g.gd.gx.gp.ln;refine⟨xs,rfl,g,few,xs,.inr rfl,g.gd.gx,_,rfl,by rw [QO,iO];omega,?_⟩;refine cW (enc:=Pp.enc) (λc=>decide (c.d<=n)) (λc=>.str c.nm) (λc hc R S h=>?_) ?_
  ·simp only [Pp.enc];walk_at "h";by_cases hd:c.d<=n
   ·rw [Yf hd];rw [Yf (by simpa using hd)] at h;exact h
   ·rw [Ye hd];rw [Ye (by simpa using hd)] at h;exact h
  ·have fl:=RB (λc:Pp=>decide (c.d<=n)) (bu (aC xs));rw [iO] at fl;exact⟨by rw [QO];omega,Qb q⟩
end
section
variable {xs ys:List De}
theorem bO.perm(g:bO xs)(h:ys.Perm xs):bO ys:=by
 obtain⟨⟨gx,d2,d3,d4,d5,d6⟩,n2,n3,n4,n5⟩:=g;exact⟨⟨gx.perm h,λd nm r z=>d2 d nm r (h.mem_iff.mp z),λd nm r z=>d3 d nm r (h.mem_iff.mp z),h.nodup_iff.mpr d4,λx hx=>d5 x (h.mem_iff.mp hx),λx hx y hy=>d6 x (h.mem_iff.mp hx) y (h.mem_iff.mp hy)⟩,λd nm r z=>n2 d nm r (h.mem_iff.mp z),λd nm r z=>n3 d nm r (h.mem_iff.mp z),λx hx y hy=>n4 x (h.mem_iff.mp hx) y (h.mem_iff.mp hy),λx hx y hy=>n5 x (h.mem_iff.mp hx) y (h.mem_iff.mp hy)⟩
theorem GL(h:ys.Perm xs):(aC ys).Perm (aC xs):=h.filterMap _
theorem rB(g:bO xs)(h:ys.Perm xs):bu (aC ys)=bu (aC xs):=Et g.gd.gx.gp.nd (GL h)
theorem GN(g:bO xs)(h:ys.Perm xs)(c:Pp):eQ (aC ys) c=eQ (aC xs) c:=by
 unfold eQ;rw [rB g h]
theorem GO{ps qs:List Pp}(h:∀c,eQ qs c=eQ ps c):∀(f:Nat)(l:List Pp)(i:Nat),gU qs f l i=gU ps f l i
 | 0,_,_=>rfl
 | f+1,l,i=>by
  unfold gU;cases l[i]? with
  | none=>rfl
  | some c=>
   show gU qs f (l++lK qs l c) (i+1)=gU ps f (l++lK ps l c) (i+1);rw [show lK qs l c=lK ps l c by unfold lK;rw [h],GO h f]
theorem Qe(g:bO xs)(h:ys.Perm xs)(c:Pp):jy (aC ys) c=jy (aC xs) c:=by
 unfold jy;rw [(GL h).length_eq];exact GO (GN g h) _ _ _
theorem GP(g:bO xs)(h:ys.Perm xs)(c:Pp):eT ys c=eT xs c:=by
 unfold eT;rw [GN g h,Nr (l:=dU ys c.nm) (l':=dU xs c.nm) ((h.filter _).map _)]
theorem Qf(h:ys.Perm xs)(n:Int):ib ys n=ib xs n:=by
 have e:∀L,iT ys n L↔iT xs n L:=λL=>by
  unfold iT z7;simp only [h.mem_iff]
 by_cases z:∃L,iT xs n L
 ·obtain⟨L,z⟩:=z;rw [<-z9 z,<-z9 ((e L).mpr z)]
 ·have z':¬ ∃L,iT ys n L:=λ⟨L,y⟩=>z ⟨L,(e L).mp y⟩;unfold ib;rw [dif_neg z,dif_neg z']
theorem GQ{ws:List Str}{n:Int}{us vs:List Rw}(h:vs.Perm us){res:List Rw}(z:fi ws n us res):fi ws n vs res:=
 ⟨z.up,z.nd,λx hx=>let ⟨a,b,c⟩:=z.it x hx;⟨h.mem_iff.mpr a,b,λy hy=>c y (h.mem_iff.mp hy)⟩,λy hy=>z.al y (h.mem_iff.mp hy),by rw [h.length_eq];exact z.le⟩
theorem Qg(g:bO xs)(h:ys.Perm xs)(n:Int):pY ys n=pY xs n:=by
 unfold pY;have p:(ys.map De.rw).Perm (xs.map De.rw):=h.map _;by_cases z:∃r,fi lI n (xs.map De.rw) r
 ·obtain⟨r,z⟩:=z;rw [<-Ag (Ah g) z,<-Ag (Ah (g.perm h)) (GQ p z)]
 ·have z':¬ ∃r,fi lI n (ys.map De.rw) r:=λ⟨r,y⟩=>z ⟨r,GQ p.symm y⟩;unfold uu;rw [dif_neg z,dif_neg z']
theorem Qh(g:bO xs)(h:ys.Perm xs)(n:Int):rn ys n=rn xs n:=by
 unfold rn;exact Et ((Au g.gd.nd g.lv).sublist (U1.map _)) ((h.filterMap _).filter _)
theorem Qi(g:bO xs)(h:ys.Perm xs)(n:Int)(rows:List Ro):cI ys n rows=cI xs n rows:=by
 unfold cI;rw [Qf h,Qg g h,Qh g h]
theorem Qj(g:bO xs)(h:ys.Perm xs):dM ys=dM xs:=by
 unfold dM;rw [rB g h];refine S4 λc _=>?_;rw [GP g h,Qe g h]
theorem Qk(g:bO xs)(h:ys.Perm xs)(ss:List Sf)(ns:List Int):fk ys ss ns=fk xs ss ns:=by
 have e:nM ys ss=nM xs ss:=by
  funext st n;unfold nM nL;rw [Qi g h]
 unfold fk;rw [e]
theorem Ql(g:bO xs)(h:ys.Perm xs):cM ys=cM xs:=by
 unfold cM;rw [rB g h];exact S4 λc _=>GP g h c
theorem Qm(g:bO xs)(h:ys.Perm xs):cm ys=cm xs:=by
 funext x;unfold cm;rw [Ql g h]
theorem Qn(g:bO xs)(h:ys.Perm xs):(gQ ys).Perm (gQ xs):=by
 unfold gQ;rw [Qm g h];exact(h.map _).append (h.flatMap_right _)
theorem GR(g:bO xs)(h:ys.Perm xs):eU ys=eU xs:=by
 have e:∀ns,jv ys ns↔jv xs ns:=λns=>by
  unfold jv;simp only [(Qn g h).mem_iff]
 by_cases z:∃ns,jv xs ns
 ·obtain⟨ns,z⟩:=z;rw [<-Af z,<-Af ((e ns).mpr z)]
 ·have z':¬ ∃ns,jv ys ns:=λ⟨L,y⟩=>z ⟨L,(e L).mp y⟩;unfold eU;rw [dif_neg z,dif_neg z']
theorem GS(g:bO xs)(h:ys.Perm xs):cB ys=cB xs:=by
 unfold cB jC;rw [rB g h,Qj g h,GR g h,Qk g h]
theorem Qo(g:bO xs)(h:ys.Perm xs)(n:Int):lO ys n=lO xs n:=by
 unfold lO;rw [rB g h,GS g h]
end
local macro_rules | `(tactic| walk_at "g") =>rzT (rzS++" _K.atI_c5 _K.atI_c6 _K.atI_c7 _K.atI_c8 _K.day_iff _K.cell_iff _K.numbers_iff true_and DR")
theorem GU:bb (av t6) ["_law_deeds_here","_law_days"] ["_law_day_here","_law_deeds_here"] 1 [0] ⟨QW,[ (QP ".0",ZX),(QP "_law_day_here",ZX),(QP "there",Rr),(QP "_law_deeds_here",Q3)],false,false,[]⟩:=⟨rfl,Yb,Yb,Yb,rfl,Yb,Yb,Yb,rfl⟩
section
variable {P:Yu} {w:Yv} {K:QN} {mg:Str->Option Yj} {base:Yw} {t:cg}
def Qp:List Yi->(Yi->Prop)->Prop:=λds Q=>∃(xs:List De)(n:Int),ds=[.tuple (xs.map De.enc),.int n]/\xs.length<=20/\∀ys:List De,ys.Perm xs->Q (.tuple (ys.map De.enc))
theorem Qq(T:Txt K mg t):aA P w K mg base CX0 1 t.a_AJ t.d_AJ ["_law_deeds_here","_law_number"] (aV K Qp):=by
 refine T.F_AJ.F.okD pM (λds Q h=>?_) (λ_ _ _ _ H O ds Q E hr h=>?_)
 ·obtain⟨xs,n,rfl,_⟩:=h;rfl
 ·obtain⟨xs,n,rfl,xl,q⟩:=h;refine'⟨_,?A,?B⟩
  case A=>
   refine' ao ?C ?D
   case C=>exact(iC (i:=2) pM.nd rfl Yg (bW aj))
   case' D=>refine' ao ?E ?F
   case E=>
    refine' Mz RM rfl rfl T.n_enumerate (aa (dv 0) aj) ?G (gG (b5 aL (b5 aL gF))) ?H
    case G=>exact(gm (n:=2) rfl (bZ (aK (i:=3) pM.nd rfl Yg) (bZ (aK (i:=4) pM.nd rfl Yg) gj)))
    case' H=>refine' ao ?I ?J
    case I=>exact(BU (PE.imp (bU HP rfl T.n_divmod Jp (bj (df (dv 1)) (bj (df (ar bA bN (df (dv 3)) (df af))) br))) (bz LO)) (gm (n:=2) rfl (bZ (aK (i:=1) pM.nd rfl Yg) (bZ (aK (i:=5) pM.nd rfl Yg) gj))) (gG (b5 aL (b5 aL gF))))
    case' J=>refine' aw ?K
    case K=>exact(L6 (i:=2) (pv 2) (dv 5) (dv 4))
   case' F=>refine' aw ?L
   case L=>exact(aR (PE.imp (cT fN rfl T.n_tuple fP (bj (dw 2) br)) (bz fS)))
  case B=>
  clear hr T;walk_at "g";refine⟨λi δ=>∃(ys:List De)(m:Int)(o3 o4 o5:Option Sl),ys.Perm (xs.take i)/\δ=[some (Sl.v (Ry (RU De.enc xs))),some (Sl.v (Rq m)),some (Sl.o (ys.map De.enc)),o3,o4,o5],⟨[],n,none,none,none,.refl _,rfl⟩,?_,?_⟩
  ·rintro i z δ hz ⟨ys,m,o3,o4,o5,pm,rfl⟩;rw [px,Q1] at hz;cases hz':xs[i]? with
   | none=>rw [hz'] at hz;cases hz
   | some x=>
    rw [hz'] at hz;cases hz;have hi:=(QZ.mp hz').1;have yl:ys.length=i:=by
     rw [pm.length_eq,RA];omega
    walk_at "g";have m0:0<=m % ((i:Int)+1):=TQ _ Yd;have m1:m % ((i:Int)+1) < (i:Int)+1:=Td _ Yd;have pm2:(fZ ys (m % ((i:Int)+1)).toNat x).Perm (xs.take (i+1)):=by
     rw [RL,hz'];exact(Dy _ _ _).trans ((pm.cons x).trans (WN (l₁:=[x]) (l₂:=xs.take i)))
    exact⟨Yd,Yd,(m % ((i:Int)+1)).toNat,Yd,by rw [QO];omega,by rw [QO];omega,fZ ys (m % ((i:Int)+1)).toNat x,pm2,(LZ _ _ _ _).symm,_,rfl⟩
  ·rintro δ ⟨ys,m,o3,o4,o5,pm,rfl⟩;rw [qP,QO,Rl (QQ _)] at pm;walk_at "g";exact q ys pm
def Qr:List Yi->(Yi->Prop)->Prop:=λds Q=>∃(xs:List De)(ns:List Int),ds=[.tuple (xs.map De.enc),.list (ns.map .int)]/\ns.length<=100/\bO xs/\oE xs/\Q (.list (.tuple ((eU xs).map .int):: .tuple ((cB xs).map Pl.enc)::ns.map λn=>.tuple ((lO xs n).map .str)))
theorem Qs(T:Txt K mg t):aA P w K mg base CX0 15 t.a_AK t.d_AK ["_law_deeds_here","_law_days"] (aV K Qr):=by
 have G_f:=@Fl P w _ _ base _ T;have G_s:=@GJ P w _ _ base _ T;have G_u:=@Qc P w _ _ base _ T;refine T.F_AK.F.okD MX (λds Q h=>?_) (λ_ _ _ _ H O ds Q E hr h=>?_)
 ·obtain⟨xs,ns,rfl,_⟩:=h;rfl
 ·obtain⟨xs,ns,rfl,nl,g,fw,q⟩:=h;refine'⟨_,?A,?B⟩
  case A=>
   refine' aw ?C
   case' C=>refine' aR ?D
   case' D=>refine' fe ?E
   case' E=>refine' nW (df ?F) (df ?G)
   case F=>
    refine' fe ?H
    case' H=>refine' bW ?I
    case' I=>refine' aa ?J ?K
    case J=>exact(PE.imp (aE G_f (hr.mono Yc) rfl T.F_f (aa (dv 0) aj)) aN)
    case' K=>refine' aa ?L aj
    case L=>exact(PE.imp (aE G_s (hr.mono Yc) rfl T.F_s (aa (dv 0) aj)) aN)
   case' G=>refine' fe ?M
   case M=>exact(eD rfl GU (df (dv 1)) aL bM Yc (λ_ _ _ _=>(aK (i:=0) GU.nd rfl Yg)) (λ_ _ _ _=>dj) (λ_ _ _ _=>(PE.imp (aE G_u (hr.mono Yc) rfl T.F_u (aa (dv 1) (aa (dv 0) aj))) aN)))
  case B=>
  clear hr T G_f G_s G_u;walk_at "g";refine⟨xs,rfl,g.gd,λ_=>fw,λ_ tl=>⟨xs,rfl,g,fw,by rw [QO];omega,iQ (λ_=>true) (λn:Int=>.tuple ((lO xs n).map .str)) (λn hn R S h1 _=>?_) ?_⟩⟩
  ·walk_at "g";exact⟨xs,n,rfl,g,fw,h1 rfl⟩
  ·rw [fI];exact⟨by rw [QO];omega,q⟩
end
section
def uF(k:Lk):Prop:=∀v,k.lv=some v->QT v=true
theorem GV{R:Rn}(h:∀p∈R.lvs,QT p.nm=true):∀(ss:List Sf)(st:iW×List Lk),(∀k∈st.2,uF k)->∀k∈(ss.foldl (dX R) st).2,uF k
 | [],st,z=>z
 | s::ss,st,z=>by
  rw [RP];refine GV h ss _ λk hk=>?_;unfold dX at hk;split at hk
  ·rcases Q9.mp hk with y | y
   ·exact z k y
   ·rw [Ra] at y;subst y;intro v hv;have hv:lM (R.at st.1) s.1.c.kd=some v:=hv;unfold lM at hv;split at hv
    ·cases hv
    ·unfold oH at hv;rw [Tr] at hv;obtain⟨p,hp,rfl⟩:=hv;exact h p (Wc hp)
  ·exact z k hk
theorem Qt{xs:List De}(g:bO xs)(n:Int):∀p∈rn xs n,QT p.nm=true:=λp hp=>by
 have hp:=(RH.mp (iN.mp hp)).1;obtain⟨x,hx,e⟩:=uD hp;have:=g.gd.gx.nm x hx;rw [e] at this;exact this
theorem GW{xs:List De}(g:bO xs)(ss:List Sf):∀(ns:List Int)(st:List Ro×List Lk),(∀k∈st.2,uF k)->∀k∈(ns.foldl (nM xs ss) st).2,uF k
 | [],_,h=>h
 | n::ns,st,h=>by
  rw [RP];refine GW g ss ns _ λk hk=>?_;rcases Q9.mp hk with y | y
  ·exact h k y
  ·exact GV (R:=cI xs n st.1) (Qt g n) ss (((cI xs n st.1).go,(cI xs n st.1).us),[]) (λk hk=>nomatch hk) k y
theorem GX{z:Str}:∀(rs:List Ro)(o:Option Ro)(r:Ro),rs.foldl (λo r=>if r.nm=z then some r else o) o=some r->r∈rs\/o=some r
 | [],o,r,e=>.inr e
 | a::rs,o,r,e=>by
  rw [RP] at e;rcases GX rs _ r e with h | h
  ·exact .inl (Ri _ h)
  ·by_cases ha:a.nm=z
   ·rw [Yf ha] at h;cases h;exact .inl RC
   ·rw [Ye ha] at h;exact .inr h
theorem Qu{xs:List De}(g:bO xs):∀p∈cB xs,QT p.nm=true/\∀v,p.lv=some v->QT v=true:=λp hp=>by
 obtain⟨c,hc,rfl⟩:=Q5.mp hp;have hn:=g.gd.gx.gp.nm c (iN.mp hc);cases e:oJ (jC xs) c.nm with
 | none=>exact⟨hn,λv h=>nomatch h⟩
 | some r=>
  refine⟨?_,λv hv=>?_⟩
  ·show QT r.nm=true;rw [AB _ none (λr h=>nomatch h) r e];exact hn
  ·have hm:r∈jC xs:=(GX _ _ r e).resolve_right (λh=>nomatch h);unfold jC lN at hm;obtain⟨k,hk,rfl⟩:=Q5.mp hm;exact GW g (dM xs) (eU xs) ([],[]) (λk hk=>nomatch hk) k (RH.mp hk).1 v hv
theorem GY:bQ 1 .none:=⟨by simp [RK],by simp [UU]⟩
theorem Qv{ps:List Pl}(h:∀p∈ps,QT p.nm=true/\∀v,p.lv=some v->QT v=true):bQ 3 (.tuple (ps.map Pl.enc)):=by
 refine fc λd hd=>?_;obtain⟨p,hp,rfl⟩:=Q5.mp hd;obtain⟨h1,h2⟩:=h p hp;refine fc (bS (iH h1) (bS ?_ (bS ?_ fD)))
 ·cases p.d with
  | none=>exact GY
  | some d=>exact qG
 ·cases e:p.lv with
  | none=>exact GY
  | some v=>exact iH (h2 v e)
theorem Qw(ns:List Int):bQ 2 (.tuple (ns.map .int)):=fc λd hd=>by
 obtain⟨n,_,rfl⟩:=Q5.mp hd;exact qG
theorem Qx{xs:List De}(g:bO xs)(n:Int):bQ 2 (.tuple ((lO xs n).map .str)):=fc (sN λz hz=>by
 obtain⟨c,hc,rfl⟩:=Q5.mp (RH.mp hz).1;exact g.gd.gx.gp.nm c (iN.mp (RH.mp hc).1))
theorem Qy{n:Nat}{ds:List Yi}(h:∀d∈ds,bQ n d):bQ (n+1) (.list ds):=by
 obtain⟨a,b⟩:=qH h;refine⟨by simpa [RK] using a,?_⟩;rw [UU];omega
def iY(xs:List De)(ns:List Int):Yi:= .list (.tuple ((eU xs).map .int):: .tuple ((cB xs).map Pl.enc)::ns.map λn=>.tuple ((lO xs n).map .str))
theorem Qz{xs:List De}(g:bO xs)(ns:List Int):bQ 4 (iY xs ns):=by
 refine Qy λd hd=>?_;rcases QX.mp hd with e | hd
 ·rw [e];exact(Qw _).mono Yc
 rcases QX.mp hd with e | hd
 ·rw [e];exact Qv (Qu g)
 ·obtain⟨n,_,rfl⟩:=Q5.mp hd;exact(Qx g n).mono Yc
theorem QA{xs ys:List De}(g:bO xs)(h:ys.Perm xs)(ns:List Int):iY ys ns=iY xs ns:=by
 unfold iY;rw [GR g h,GS g h];congr 3;exact S4 λn _=>by rw [Qo g h]
end
theorem GZ:bb (av oo) ["_law_script","_law_deeds_here","_law_xs","_law_more","_law_at","_law_days","_law_sets","_law_due","_law_number","_law_turn","_law_k","_law_some"] ["_law_deed_here"] 1 [] ⟨QW,[(QP ".0",ZX),(QP "_law_deed_here",ZX)],false,false,[]⟩:=⟨rfl,Yb,Yb,Yb,rfl,Yb,Yb,Yb,rfl⟩
theorem G0:bb (av oo) ["_law_script","_law_deeds_here","_law_xs","_law_more","_law_at","_law_days","_law_sets","_law_due","_law_number","_law_turn","_law_k","_law_some"] ["_law_deed_here","_law_deeds_here"] 1 [1] ⟨QW,[ (QP ".0",ZX),(QP "_law_deed_here",WY),(QP "any",Rr),(QP "_law_deeds_here",Q3)],false,false,[]⟩:=⟨rfl,Yb,Yb,Yb,rfl,Yb,Yb,Yb,rfl⟩
theorem G1:bb ⟨QW,[ (QP ".0",ZX),(QP "_law_deed_here",WY),(QP "any",Rr),(QP "_law_deeds_here",Q3)],false,false,[]⟩ ["_law_deed_here","_law_deeds_here"] ["_law_other","_law_deed_here"] 1 [0] ⟨QW,[ (QP ".0",ZX),(QP "_law_other",ZX),(QP "_law_quarrel",Rr),(QP "_law_deed_here",Q3)],false,false,[]⟩:=⟨rfl,Yb,Yb,Yb,rfl,Yb,Yb,Yb,rfl⟩
theorem G2:bb (av oo) ["_law_script","_law_deeds_here","_law_xs","_law_more","_law_at","_law_days","_law_sets","_law_due","_law_number","_law_turn","_law_k","_law_some"] ["_law_deed_here"] 1 [] ⟨QW,[(QP ".0",ZX),(QP "_law_deed_here",ZX)],false,false,[]⟩:=⟨rfl,Yb,Yb,Yb,rfl,Yb,Yb,Yb,rfl⟩
theorem G3:bb (av oo) ["_law_script","_law_deeds_here","_law_xs","_law_more","_law_at","_law_days","_law_sets","_law_due","_law_number","_law_turn","_law_k","_law_some"] ["_law_some","_law_days"] 1 [5] ⟨QW,[ (QP ".0",ZX),(QP "_law_some",ZX),(QP "_law_all",Rr),(QP "_law_days",Q3)],false,false,[]⟩:=⟨rfl,Yb,Yb,Yb,rfl,Yb,Yb,Yb,rfl⟩
section
variable {P:Yu} {w:Yv} {K:QN} {mg:Str->Option Yj} {base:Yw} {t:cg}
def QB:List Yi->(Yi->Prop)->Prop:=λds Q=>∃(ns:List Int)(k:Int),ds=[fQ (ns.map .int),.int k]/\0<=k/\k<=100/\∀b:Bool,Q (.bool b)
theorem QC(T:Txt K mg t):aA P w K mg base CX0 2 t.a_AI t.d_AI ["_law_script","_law_at"] (aV K QB):=by
 have G_v:=@Ai P w _ _ base _ T;have G_w:=@Aj P w _ _ base _ T;refine T.F_AI.F.okD MW (λds Q h=>?_) (λ_ _ _ _ H O ds Q E hr h=>?_)
 ·obtain⟨ns,k,rfl,_⟩:=h;rfl
 ·obtain⟨ns,k,rfl,k0,k1,q⟩:=h;refine'⟨_,?A,?B⟩
  case A=>
   refine' aw ?C
   case' C=>refine' aR ?D
   case D=>exact(dG (cD hr.units) cE (df (ar aW aD (df (ak aP aS (df (PE.imp (aE G_w (hr.mono Yc) rfl T.F_w (aa (PE.imp (aE G_v (hr.mono Yc) rfl T.F_v (aa (dv 0) (aa (dv 1) aj))) aN) (aa af aj))) aN)) (df af))) (df af))) (df af) (aF _))
  case B=>
  clear hr T G_v G_w;walk_at "g";refine⟨Yd,Yd,λc ms ml mn=>?_⟩;obtain⟨a0,a1,a2,a3,rfl⟩:=FN ml;walk_at "d";exact q _
theorem QD{ns:List Int}(h:(ns.length:Int)=6):∃a b c d e f,ns=[a,b,c,d,e,f]:=by
 match ns,(show ns.length=6 by omega) with
 | [a,b,c,d,e,f],_=>exact⟨_,_,_,_,_,_,rfl⟩
theorem Dr.sub{np nr nh:Nat}{xs ys:List De}(d:Dr np nr nh xs)(h:ys.Sublist xs):Dr (np+1) (nr+1) (nh+1) ys:=
 ⟨λx hx=>d.it x (h.mem hx),d.pw.sublist h,Rj h.length_le d.ln,UR (Rj (h.filterMap _).length_le d.cP),UR (Rj (h.filter _).length_le d.cR),UR (Rj (h.filter _).length_le d.cH)⟩
theorem Dr.add{np nr nh:Nat}{xs:List De}(d:Dr np nr nh xs)(xl:xs.length<=19){z:De}(gz:jx z)(h:∀x∈xs,gT z x):Dr (np+1) (nr+1) (nh+1) (xs++[z]):=by
 refine⟨λx hx=>?_,UY.mpr ⟨d.pw,Vl _ _,λa ha b hb=>?_⟩,by rw [Q2];exact Wq xl,?_,?_,?_⟩
 ·rcases Q9.mp hx with y | y
  ·exact d.it x y
  ·rw [Ra.mp y];exact gz
 ·rw [Ra.mp hb];exact(h a ha).symm
 ·unfold aC;rw [Vy,Q2];exact VL d.cP (Vi _ _)
 ·rw [VR,Q2];exact VL d.cR (RB _ _)
 ·rw [VR,Q2];exact VL d.cH (RB _ _)
theorem QE{xs:List De}{k:Nat}(h:k<=xs.length):cV (xs.map De.enc) none (some (k:Int))=(xs.take k).map De.enc:=by
 rw [sI Yd (by rw [QO];omega),TU];rfl
theorem QF{xs:List De}{k:Nat}:cV (xs.map De.enc) (some ((k:Int)+1)) none=(xs.drop (k+1)).map De.enc:=by
 unfold cV;rw [show((k:Int)+1)=((k+1:Nat):Int) from rfl,HT.sIx_nat,rV,Rl (by rw [Ts];exact QQ _),<-V0,QO];congr 1;rcases Nat.le_total (k+1) xs.length with z | z
 ·rw [XE z]
 ·rw [Nat.min_eq_right z,UK (QQ _),UK z]
def rC(z:List De):Yi:= .tuple (z.map De.enc)
def G4(v0 v1 v2 v3 v4 v5 v6 v7:Yi)(δ:Dl):Prop:=∃(m:Int)(o9 o10 o11:Option Sl),δ=[some (.v v0),some (.v v1),some (.v v2),some (.v v3),some (.v v4),some (.v v5),some (.v v6),some (.v v7),some (.v (.int m)),o9,o10,o11]
def rD(x:De):Bool:=[QM "paper",QM "happens",QM "rule"].any λz=>z==x.w
def F_AL:List Yi->(Yi->Prop)->Prop:=λds Q=>∃ns:List Int,ds=[fQ (ns.map .int)]/\ns.length<=63/\(∀z∈ns,Su z<=1048576)/\Q (.bool true)
def sp_law(K:QN):Sp:=aV K F_AL
theorem start_law{K:QN}{H:Hp}{a:Yl}{ns:List Int}(hl:ns.length<=63)(hb:∀z∈ns,Su z<=1048576)(hS:bo K H a (ns.map V.int)):sp_law K [.ref a] H (λv _=>v= .bl true) λ_ _ _=>False:=
 ⟨λ_=>False,[fQ (ns.map .int)],λd=>d= .bool true,λ_ z=>z.elim,.cons (.scr (by
  rcases hS with h | h
  ·exact .inl ⟨h,λz=>z⟩
  ·exact .inr (.inr h)) (ai.ints ns)) .nil,⟨ns,rfl,hl,hb,rfl⟩,λd v H' e _ r=>by subst e;cases r;rfl⟩
theorem ok_law(T:Txt K mg t):aA P w K mg base CX0 20 t.a_AL t.d_AL ["_law_script"] (sp_law K):=by
 have G_v:=@Ai P w _ _ base _ T;have G_w:=@Aj P w _ _ base _ T;have G_AH:=@OU P w _ _ base _ T;have G_AI:=@QC P w _ _ base _ T;have G_AD:=@FI P w _ _ base _ T;have G_AJ:=@Qq P w _ _ base _ T;have G_AK:=@Qs P w _ _ base _ T;refine T.F_AL.F.okD gc (λds Q h=>?_) (λ_ _ _ _ H O ds Q E hr h=>?_)
 ·obtain⟨ns,rfl,_⟩:=h;rfl
 ·obtain⟨ns,rfl,_,_,q⟩:=h;refine'⟨_,?A,?B⟩
  case A=>
   refine' ao ?C ?D
   case C=>
    refine' bf (i:=1) gc.nd rfl Yg ?E (hs:=qI)
    case E=>exact(PE.imp (aE G_AH (hr.mono Yc) rfl T.F_AH (aa (dv 0) (aa af (aa (PE.imp (aE G_AI (hr.mono Yc) rfl T.F_AI (aa (dv 0) (aa af aj))) aN) aj)))) aN)
   case' D=>refine' ao ?F ?G
   case F=>exact(bf (i:=2) gc.nd rfl Yg (PE.imp (aE G_w (hr.mono Yc) rfl T.F_w (aa (PE.imp (aE G_v (hr.mono Yc) rfl T.F_v (aa (dv 0) (aa af aj))) aN) (aa af aj))) aN))
   case' G=>refine' ao ?H ?I
   case H=>exact(hW (i:=3) gc.nd rfl Yg (mZ rfl GZ (df (PE.imp (aE G_AH (hr.mono Yc) rfl T.F_AH (aa (dv 0) (aa af (aa (PE.imp (aE G_AI (hr.mono Yc) rfl T.F_AI (aa (dv 0) (aa af aj))) aN) aj)))) aN)) aL bM Yc (λ_ _ _ _=>(aK (i:=0) GZ.nd rfl Yg)) (λ_ _ _ _=>(cZ (aQ (n9 hr) oe (df (ak aG aM (df (dv 0)) (df af))) (df (bH (lZ (ds:=[.str "paper",.str "happens",.str "rule"]) (by rfl)))) rfl))) (λ_ _ _ _=>(dv 0))))
   case' I=>refine' ao ?J ?K
   case J=>exact(hW (i:=3) gc.nd rfl Yg (sL rfl G0 (df (dv 3)) aL bM Yc (λ_ _ _ _=>(aK (i:=0) G0.nd rfl Yg)) (λ_ _ _ _=>(cZ (oY (jc (PE.imp (bU (vp rfl) rfl T.n_any vq (bj (df (fe (jY rfl G1.rel (df (dv 1)) aL bM Yc (λ_ _ _ _=>(aK (i:=0) G1.nd rfl Yg)) (λ_ _ _ _=>dj) (λ_ _ _ _=>(PE.imp (aE G_AD (hr.mono Yc) rfl T.F_AD (aa (dv 1) (aa (dv 0) aj))) aN))))) br)) (bz vA)))))) (λ_ _ _ _=>(dv 0))))
   case' K=>refine' ao ?L ?M
   case L=>
    refine' bf (i:=4) gc.nd rfl Yg ?N (hs:=iI)
    case N=>exact(ar aW aD (df (ak aP aS (df (dv 2)) (df af))) (df (ar bA bN (df (PE.imp (bU dO rfl T.n_len R0 (bj (df (dv 1)) br)) (bz eF))) (df af))))
   case' M=>refine' ao ?O ?P
   case O=>
    refine' bf (i:=5) gc.nd rfl Yg ?Q (hs:=iI)
    case' Q=>refine' fe ?R
    case' R=>refine' nW (df ?S) (df ?T)
    case S=>
     refine' fe ?U
     case U=>exact(jY rfl G2 (df (n8 (df (dv 1)) hU (cq af))) aL bM Yc (λ_ _ _ _=>(aK (i:=0) G2.nd rfl Yg)) (λ_ _ _ _=>dj) (λ_ _ _ _=>(ak aG aM (df (dv 0)) (df af))))
    case T=>exact(fe (bW (aa (ar aW aD (df (ak aP aS (df (dv 2)) (df af))) (df af)) aj)))
   case' P=>refine' ao ?V ?W
   case V=>
    refine' bf (i:=6) gc.nd rfl Yg ?X (hs:=Ks)
    case' X=>refine' fe ?Y
    case' Y=>refine' bW ?Z
    case' Z=>refine' aa (dv 1) ?a
    case' a=>refine' aa ?b ?c
    case b=>
     refine' ar C5 C6 (df ?d) (df ?e)
     case d=>exact(n8 (df (dv 1)) hU (cq (dv 4)))
     case e=>exact(n8 (df (dv 1)) (cq (ar bA bN (df (dv 4)) (df af))) hU)
    case' c=>refine' aa ?f aj
    case' f=>refine' ar C5 C6 (df (dv 1)) (df ?g)
    case g=>exact(PE.imp (cT fN rfl T.n_tuple fP (bj (df (fe (iG (df (dv 3)) hU (cq af)))) br)) (bz fS))
   case' W=>refine' ao ?h ?i
   case h=>exact(hW (i:=7) gc.nd rfl Yg (sL rfl G3 (df (dv 6)) aL bM Yc (λ_ _ _ _=>(aK (i:=0) G3.nd rfl Yg)) (λ_ _ _ _=>dj) (λ_ _ _ _=>(PE.imp (aE G_AK (hr.mono Yc) rfl T.F_AK (aa (dv 0) (aa (dv 1) aj))) aN))))
   case' i=>refine' ao ?j ?k
   case j=>
    generalize hG38:Wg _ _ _ _=eg38;refine' bf (i:=8) gc.nd rfl Yg ?l (hs:=by subst hG38;exact iI)
    case' l=>subst hG38
    exact(ar bA bN (df (ar bA bN (df (ar d8 aD (df (ar d8 aD (df (ak aP aS (df (dv 2)) (df af))) (df af))) (df af))) (df (ar d8 aD (df (ak aP aS (df (dv 2)) (df af))) (df af))))) (df (ak aP aS (df (dv 2)) (df af))))
   case' k=>refine' ao ?m ?n
   case m=>
    refine' BV RM rfl rfl T.n_range (aa af aj) ?o aL ?p
    case o=>exact(aK (i:=9) gc.nd rfl Yg)
    case' p=>refine' aw ?q
    case' q=>refine' Dj RM rfl rfl T.n_enumerate (aa (dv 6) aj) ?r (gG (b5 aL (b5 aL gF))) ?s
    case r=>exact(gm (n:=2) rfl (bZ (aK (i:=10) gc.nd rfl Yg) (bZ (aK (i:=11) gc.nd rfl Yg) gj)))
    case' s=>refine' ao ?t ?u
    case t=>
     refine' bf (i:=8) gc.nd rfl Yg ?v (hs:=iI)
     case v=>exact(ar aW aD (df (ar d8 aD (df (dv 8)) (df af))) (df (ar bA bN (df (ar A6 aD (df af) (df af))) (df af))))
    case' u=>refine' aw ?w
    case' w=>refine' bJ ?x ?y bI
    case x=>exact(aQ (JF hr.units) JG (df (PE.imp (aE G_AK (hr.mono Yc) rfl T.F_AK (aa (PE.imp (aE G_AJ (hr.mono Yc) rfl T.F_AJ (aa (dv 11) (aa (dv 8) aj))) aN) (aa (dv 5) aj))) aN)) (df (ak aP aS (df (dv 7)) (df (dv 10)))) (aF _))
    case y=>refine' aw (aR vz)
   case n=>refine' aw (aR vz)
  case B=>
  clear hr T G_v G_w G_AH G_AI G_AD G_AJ G_AK;generalize hA:fR (hG 4 _) _=TA;walk_at "g";refine⟨ns,0,rfl,Yc,Yc,λb1=>⟨ns,0,b1,rfl,Yc,Yc,λxs dr xl=>λc ms ml mn=>?_⟩⟩;obtain⟨m0,m1,m2,m3,m4,m5,rfl⟩:=QD ml;clear ml mn;refine⟨ns,0,rfl,Yc,Yc,λb2=>⟨ns,21,b2,rfl,Yc,Yc,λys dr' yl=>⟨_,rfl,by rw [QO];omega,?_⟩⟩⟩;refine cW (enc:=De.enc) rD De.enc (λx hx R S h=>?_) ?_
  ·rw [nJ];walk_at "g";rw [nJ] at h;simpa [rD] using h
  ·have fl:=RB rD ys;refine⟨by rw [QO];omega,λi acc=>∃zs:List De,acc=zs.map De.enc/\zs.length<=i/\∀z∈zs,z∈ys.filter rD/\∀x∈xs,gT z x,⟨[],rfl,QQ _,Yh⟩,?_,?_⟩
   ·rintro i z acc hz ⟨zs,rfl,zl,hq⟩;rw [Q1] at hz;cases hz':(ys.filter rD)[i]? with
    | none=>rw [hz'] at hz;cases hz
    | some y=>
     rw [hz'] at hz;cases hz;have hy:=Rm hz';walk_at "g";refine⟨by rw [QO];omega,λi acc=>∃bs:List Bool,acc=bs.map .bool/\bs.length=i/\∀j:Nat,bs[j]?=some false->∀x,xs[j]?=some x->gT y x,⟨[],rfl,rfl,Yh⟩,?_,?_⟩
     ·rintro j z acc hz ⟨bs,rfl,bl,hb⟩;rw [Q1] at hz;cases hx':xs[j]? with
      | none=>rw [hx'] at hz;cases hz
      | some x=>
       rw [hx'] at hz;cases hz;walk_at "d";refine⟨y,x,rfl,dr'.it y (RH.mp hy).1,dr.it x (Rm hx'),λb hb2=>⟨bs++[b],by rw [Rf];rfl,by rw [Q2,bl];rfl,λn hn x' hx2=>?_⟩⟩;rcases S7 n bs.length with h | h
       ·rw [RV h] at hn;exact hb n hn x' hx2
       ·rw [Si h] at hn;have n0:n - bs.length=0:=by
         rcases VO (n - bs.length) with h0 | h0
         ·exact h0
         ·rw [Sv (by rw [S5];omega)] at hn;cases hn
        rw [n0] at hn;have ek:n=j:=Yd
        rw [ek,hx'] at hx2;cases hx2;exact hb2 (by simpa using hn)
     ·rintro acc ⟨bs,rfl,bl,hb⟩;rw [QO] at bl;refine⟨bs,rfl,?_⟩;split
      ·rename_i hany;refine⟨zs++[y],by rw [Rf];rfl,by rw [Q2];exact Wq zl,λz hz=>?_⟩;rcases Q9.mp hz with h | h
       ·exact hq z h
       ·rw [Ra.mp h];refine⟨hy,λx hx=>?_⟩;obtain⟨j,hj⟩:=WT hx;have jl:j < bs.length:=by rw [bl];exact(QZ.mp hj).1
        refine hb j ?_ x hj;have:bs[j]=false:=by simpa using V4.mp hany bs[j] (S8 jl)
        rw [Rv jl,this]
      ·exact⟨zs,rfl,UR zl,hq⟩
   ·rintro acc ⟨zs,rfl,zl,hq⟩;rw [QO] at zl;have lm:(RU De.enc xs).length=xs.length:=QO _;subst hA;generalize hB:fR (hG 8 _) _=TB;walk_at "g";have d2:Dr 6 6 4 (xs++zs.take 1):=by
     cases zs with
     | nil=>rw [show xs++([]:List De).take 1=xs from RF _];exact dr.sub (.refl _)
     | cons z zs=>exact dr.add xl (dr'.it z (RH.mp (hq z RC).1).1) (hq z RC).2
    obtain⟨a,ha⟩:=SO (TQ m0 (show((RU De.enc xs).length:Int)+1≠0 by omega));have al:=Td m0 (show(0:Int) < ((RU De.enc xs).length:Int)+1 by omega);rw [ha] at al⊢;have d1:Dr 6 6 4 (xs.take a++xs.drop (a+1)):=dr.sub (by
     have:=List.Sublist.append (Xm (xs.take a)) (List.drop_sublist_drop_left xs (Sg a))
     rwa [Tz] at this)
    have d0:Dr 6 6 4 xs:=dr.sub (.refl _);rw [uo,uo,QE Yd,QF,<-TU,<-TU,<-Rf,<-Rf];refine⟨Yd,by rw [QO,RA];omega,iQ (λ_=>true) (λx:De=>.int x.d) (λx hx R S h1 _=>?_) ?_⟩
    ·cases x <;> simp only [De.enc,Pp.enc] <;> walk_at "g" <;> exact h1 rfl
    rw [fI,show(xs.take 1).map (λx:De=>Rq x.d)++[Rq (m1 % 100)]=((xs.take 1).map De.d++[m1 % 100]).map Rq by rw [Rf,Rc];rfl];have tl:((xs.take 1).map De.d++[m1 % 100]).length<=2:=by rw [Q2,QO,RA];show _+1<=2;omega
    generalize (xs.take 1).map De.d++[m1 % 100]=dys at*;have sg:∀z∈[xs,xs.take a++xs.drop (a+1),xs++zs.take 1],Dr 6 6 4 z:=by
     intro z hz;simp only [QX,Rh,or_false] at hz;rcases hz with rfl | rfl | rfl
     ·exact d0
     ·exact d1
     ·exact d2
    refine⟨by rw [QO,RA];omega,by rw [QO,QO,RA,Ts];omega,by rw [QO,QO,RA];omega,?_⟩;rw [show [Ry (RU De.enc xs),Ry (RU De.enc (List.take a xs++List.drop (a+1) xs)),Ry (RU De.enc (xs++List.take 1 zs))]=[xs,xs.take a++xs.drop (a+1),xs++zs.take 1].map rC from rfl];have sl:[xs,xs.take a++xs.drop (a+1),xs++zs.take 1].length=3:=rfl;generalize [xs,xs.take a++xs.drop (a+1),xs++zs.take 1]=sts at*;clear d0 d1 d2 hq fl zl;generalize zs.map De.enc=zz;generalize xs.map De.enc=xx at*;refine iQ (λ_=>true) (λz=>iY z dys) (λz hz R S h1 _=>?_) ?_
    ·unfold rC;walk_at "g";exact⟨z,dys,rfl,Yd,(sg z hz).good,(sg z hz).few Yc,h1 rfl⟩
    rw [fI];subst hB;walk_at "g";generalize fQ (RU Rq ns)=v0;generalize SK [Rq m0,Rq m1,Rq m2,Rq m3,Rq m4,Rq m5]=v2;refine⟨λi=>G4 v0 (.tuple xx) v2 (.list zz) (.int a) (.list (dys.map .int)) (.list (sts.map rC)) (.list (sts.map λz=>iY z dys)),⟨_,none,none,none,rfl⟩,?_,?_⟩
    ·rintro i z δ hz ⟨m,o9,o10,o11,rfl⟩;obtain⟨hi,rfl⟩:=qD hz;clear hz;walk_at "g";refine⟨λi=>G4 v0 (.tuple xx) v2 (.list zz) (.int a) (.list (dys.map .int)) (.list (sts.map rC)) (.list (sts.map λz=>iY z dys)),⟨m,_,_,_,rfl⟩,?_,λδ h=>h⟩;rintro k z δ hz ⟨m,o9,o10,o11,rfl⟩;rw [px,Q1] at hz;cases hs:sts[k]? with
     | none=>rw [hs] at hz;cases hz
     | some y=>
      rw [hs] at hz;cases hz;have dy:=sg y (Rm hs);unfold rC;walk_at "g";have gy:=dy.good;have ly:=Qz gy dys;refine⟨Yc,Yb,y,_,rfl,dy.ln,λys' pm=>⟨ys',dys,rfl,Yd,gy.perm pm,(dy.perm pm).few Yc,iY y dys,fM (by rw [Q1,hs];rfl),?_⟩⟩;show Tq (iY ys' dys)=true/\_/\if (iY ys' dys).eqv (iY y dys)=false then _ else _
      rw [QA gy pm,Al _ ly.can,Ye Yc];exact⟨ly.shp Yc,ly.shp Yc,_,_,_,_,rfl⟩
    ·rintro δ ⟨m,o9,o10,o11,rfl⟩;walk_at "g";exact q
end
end _K
namespace PySem.W.Fast
def tw12464375948353926796:=0
def tw4187440506625194203:=0
def tw14127881214359559474:=0
def tw11204913709637894390:=0
def tw15021986810142294063:=0
def tw7739164521694022885:=0
def tw11497386573775018039:=0
def tw7554510468900617593:=0
def tw6319017272396354088:=0
def tw2465301866415196850:=0
def tw6888091446521220786:=0
def tw5629968645723090682:=0
def tw1993311544822194047:=0
def tw4251093428752369488:=0
def tw5286432591400678369:=0
def tw18246116665543450544:=0
def tw9481946664503014106:=0
def tw2376134048324907777:=0
def tw16924103988556281886:=0
def tw2262874131786603370:=0
def tw2708218899257786039:=0
def tw1080870184228819070:=0
def tw2036339184510777209:=0
def tw3299967935516640493:=0
def tw2462872670261008500:=0
def tw2805591875521993913:=0
def tw13647907101462154307:=0
def tw4670287255314822836:=0
def tw16181459509943242654:=0
def tw7797279088193235307:=0
def tw13157387342745210956:=0
def tw10847153105895401000:=0
def tw9651073606363304735:=0
def tw18002170104257800412:=0
def tw2483932608035115334:=0
def tw734091315854710161:=0
def tw15114941909671628452:=0
def tw8581775804404282133:=0
def tw4384268352274154808:=0
def tw5755934552001595942:=0
def tw4868966649653733780:=0
def tw95479477918198621:=0
def tw1343609196247235512:=0
def tw14803878950620873735:=0
def tw733191192132164646:=0
def tw5764224671172328984:=0
def tw5715648870062478607:=0
def tw2601312592918950731:=0
def tw13211939313193403531:=0
def tw15303746574431421027:=0
def tw9526732301338700222:=0
def tw2482863407891829003:=0
def tw5576405331513602141:=0
def tw1669567619312645669:=0
def tw6694068135701243317:=0
def tw14437639974638038788:=0
def tw11817343846720540178:=0
def tw13955669794373199859:=0
def tw1576954208823637196:=0
def tw7429176963447603030:=0
def tw1455623770585238860:=0
def tw8674478414327598991:=0
def tw13870322837355734744:=0
def tw9067815649368090207:=0
def tw4984925428951070320:=0
def tw9217315749999418753:=0
def tw5783890666380387676:=0
def tw7214623857315456096:=0
def tw15599488156804031420:=0
def tw12306344432445604813:=0
def tw4104750062716041243:=0
def tw382077209708962083:=0
def tw10027380756270197929:=0
def tw11984401405397129303:=0
def tw7252303903217897103:=0
def tw7339785671083406939:=0
def tw10308825280371688266:=0
def tw5835035044822714456:=0
def tw15200022287636528395:=0
def tw6821865688887370326:=0
def tw4053205105532984738:=0
def tw1110492060330875198:=0
def tw14576162071451691757:=0
def tw8240701228918172925:=0
def tw4338425009800231784:=0
def tw10273389844105260044:=0
def tw2910468753184108608:=0
def tw18346473848502303278:=0
def tw10111540336378738620:=0
def tw1945930709126559487:=0
def tw3084230125289366556:=0
def tw3798858947081752511:=0
def tw1434027024658712230:=0
def tw17859918114419823588:=0
def tw13137829400470321335:=0
def tw15916420710087940267:=0
def tw15800478720375201352:=0
def tw16875944447962926439:=0
def tw13376251027598762303:=0
def tw240031256368454998:=0
def tw4332976546202831258:=0
def tw760562180385349249:=0
def tw5837355170920638911:=0
def tw963347951689542118:=0
def tw6334811529975142188:=0
def tw1979690427175715888:=0
def tw564060770680330350:=0
def tw1211797420479797047:=0
def tw10102442810759847717:=0
def tw12936090321242273974:=0
def tw906736811274291031:=0
def tw10132424799868028149:=0
def tw2327096004970122808:=0
def tw10344850688709512703:=0
def tw4636173573606702071:=0
def tw11884025314275608443:=0
def tw9441153684221611161:=0
def tw7812690990654924866:=0
def tw5917927443841625233:=0
def tw4644611432053199447:=0
def tw14283465080404244601:=0
def tw13616014155737258715:=0
def tw6843716092536427757:=0
def tw4214159366016988735:=0
def tw4504935490828546760:=0
def tw11426016240699080733:=0
def tw9846112983706193924:=0
def tw15686079514699914221:=0
def tw326248933532362352:=0
def tw12356720294289789983:=0
def tw13957162535091881767:=0
def tw17143599385206137864:=0
def tw9896978907818741470:=0
def tw17357630637676393296:=0
def tw9922991954523875173:=0
def tw8487338502692672411:=0
def tw17513663898584727690:=0
def tw6476730908284098447:=0
def tw931408166184912482:=0
def tw10756251573179401913:=0
def tw11168109082128733711:=0
def tw9515054337688247072:=0
def tw15301226555497397263:=0
def tw10084663396551638669:=0
def tw11680173637258486431:=0
def tw11884145993234061722:=0
def tw4372534062147026573:=0
def tw4465389956199582467:=0
def tw5388244998949874598:=0
def tw14731272188597769948:=0
def tw13298985025767604914:=0
def tw15944681126563210563:=0
def tw5433704119728176857:=0
def tw5121374287298898962:=0
def tw7423307437287315352:=0
def tw15290706509925775856:=0
def tw9776789175283964985:=0
def tw7164090617731996487:=0
def tw7148093074988770630:=0
def tw1639477727448533885:=0
def tw16834881856968790352:=0
def tw9157348896765205255:=0
def tw7796900222656430174:=0
def tw15584126858607619873:=0
def tw4149148743220249157:=0
def tw1282528154404030740:=0
def tw11375265826791549615:=0
def tw1699053409498470815:=0
def tw12749998247207067687:=0
def tw17518115393171570158:=0
def tw6979182042919353465:=0
def tw8403568219429504344:=0
def tw12465069479479532199:=0
def tw7402460666881562774:=0
def tw11313086083970033160:=0
def tw1866803984249142594:=0
def tw1749544675794531520:=0
def tw1665483639040966390:=0
def tw9184331232976016371:=0
def tw4117957384293466610:=0
def tw16327342953119754543:=0
def tw16729551016666297359:=0
def tw14614623901810476006:=0
def tw18025896634393964183:=0
def tw1136426504521738273:=0
def tw5809111475457880548:=0
def tw17808446096414831410:=0
def tw14492172625154615844:=0
def tw14723661592079965587:=0
def tw5292354479094345897:=0
def tw12873072286957662992:=0
def tw4738431933203867764:=0
def tw8769575489778029003:=0
def tw5770529689659985465:=0
def tw18176283181809672165:=0
def tw5880736773050428686:=0
def tw16725381109386413693:=0
def tw7873485275837403250:=0
def tw4333681831846093814:=0
def tw7485579720857767722:=0
def tw3722581989304087106:=0
def tw13233123452545006247:=0
def tw11357843016109592346:=0
def tw6940089372871264556:=0
def tw8652577061312263173:=0
def tw7478417271658327552:=0
def tw3107610109861243051:=0
def tw1904426386152105144:=0
def tw1641394626754230080:=0
def tw16349779985652242967:=0
def tw16114062136172489998:=0
def tw11571029988941794878:=0
def tw302009653107204363:=0
def tw2815856326425515922:=0
def tw7225144950167306619:=0
def tw6305034468505000134:=0
def tw6241773211029046518:=0
def tw8195256997891539835:=0
def tw591752657346557203:=0
def tw1524398173287258980:=0
def tw3403468947441528433:=0
def tw987051333278563159:=0
def tw7366583521996042696:=0
def tw636562022871652212:=0
def tw18264415379915247838:=0
def tw3571807883441094569:=0
def tw16640864531338768450:=0
def tw15966042677313161082:=0
def tw9047599693469780847:=0
def tw7204494955991428237:=0
def tw16734472834808837764:=0
def tw1026095015029136699:=0
def tw8513137077298998497:=0
def tw15070226108376767929:=0
def tw1355504661094845348:=0
def tw3765573701128939261:=0
def tw9258903646629641563:=0
def tw8936153198229205298:=0
def tw9679490492868930912:=0
def tw17274254473920687272:=0
def tw8174199695807268178:=0
def tw15269435804919488338:=0
def tw13162459866362155410:=0
def tw7922418168823282974:=0
def tw9476489205183142109:=0
def tw4509529712366956965:=0
def tw2652409427197675774:=0
def tw18214984104002909104:=0
def tw8105822824337053473:=0
def tw17827201697684344740:=0
def tw578766836930968980:=0
def tw16829373584840589779:=0
def tw18260089031923815927:=0
def tw11296114049946606732:=0
def tw11397783203608924817:=0
def tw16901872762261728363:=0
def tw10450669988090523756:=0
def tw14420080318276260831:=0
def tw9806846565818001382:=0
def tw3637634239461716006:=0
def tw7354110948312800189:=0
def tw346752660299314107:=0
def tw5036573278660277527:=0
def tw7361171721322893128:=0
def tw8890218619666569411:=0
def tw3241476759752417803:=0
def tw11980432383058970697:=0
def tw16996518848118063487:=0
def tw9978174354415378501:=0
def tw15990729277041505679:=0
def tw14929769094244992246:=0
def tw16930032286419489163:=0
def tw15870066801049510180:=0
def tw14494133638956329001:=0
def tw17664041970647510996:=0
def tw13891046216946434200:=0
def tw365661960560642889:=0
def tw16788936364643761838:=0
def tw16320694275472386354:=0
def tw10024017079624904678:=0
def tw16706966475041631027:=0
def tw8225239144968963799:=0
def tw14541499896740481859:=0
def tw13777263017400288411:=0
def tw12983590884969799783:=0
def tw10638963979234653642:=0
def tw12872786426586176091:=0
def tw5961354386030926560:=0
def tw17229083715970156251:=0
def tw6346225570437974481:=0
def tw17130452224582008052:=0
def tw11285829074214942647:=0
def tw2487742989183931992:=0
def tw5968654888024938901:=0
def tw4363806979994782248:=0
def tw203731337228450928:=0
def tw1794446787378195884:=0
def tw6134230048330437987:=0
def tw16868735794533464394:=0
def tw8956482206699354269:=0
def tw8045096370614063479:=0
def tw24113752122244630:=0
def tw15100186067755605045:=0
def tw13472037604913091835:=0
def tw10531923836413058837:=0
def tw8058493847361861961:=0
def tw7345426627155658843:=0
def tw45118533557067713:=0
def tw3972377066621251504:=0
def tw2129125411525027416:=0
def tw7360733435786777491:=0
def tw6386008195560431527:=0
def tw8237765902873381801:=0
def tw543329843393007710:=0
def tw4308603993159260877:=0
def tw3672802249223818178:=0
def tw17556531961084071943:=0
def tw9964033480008061746:=0
def tw9916505187778522958:=0
def tw987061490273505007:=0
def tw9834852895420949992:=0
def tw9714470735684002333:=0
def tw9556163263391812015:=0
def tw9156751444809048173:=0
def tw908853150194181287:=0
def tw908242749228785960:=0
def tw8888238693026107375:=0
def tw8755890141629766680:=0
def tw8444274877802128641:=0
def tw8258935041862943952:=0
def tw7897465393201869277:=0
def tw7363676758443360763:=0
def tw7348323819183787758:=0
def tw7343783994775499844:=0
def tw73339701175595509:=0
def tw7212155477000671475:=0
def tw714198026113756155:=0
def tw7059763341368261422:=0
def tw689318457283076445:=0
def tw6625493347852207657:=0
def tw6555205634798296180:=0
def tw6228642742488868453:=0
def tw6142984336958746247:=0
def tw6134925960246501808:=0
def tw6011120620467355396:=0
def tw593025257742150581:=0
def tw5788100167802451257:=0
def tw5629603259186447626:=0
def tw5515142833939632818:=0
def tw5360119666933432196:=0
def tw5304151820440214414:=0
def tw5302079760472333954:=0
def tw5300261140066744902:=0
def tw4759138089891529241:=0
def tw4644526321226657359:=0
def tw461875491284864935:=0
def tw4575655812038337020:=0
def tw4571525294197559849:=0
def tw4518431937253289437:=0
def tw4501759901014772771:=0
def tw4437212825353762188:=0
def tw423823392986973182:=0
def tw4004760556395657516:=0
def tw3984742088881761578:=0
def tw3874006347700442515:=0
def tw3555135196363797720:=0
def tw3485906760064332925:=0
def tw3065949678613213535:=0
def tw3060224851413605879:=0
def tw2765794549769733014:=0
def tw2653732471364014894:=0
def tw2533781902215273216:=0
def tw2275900025011910334:=0
def tw18305523814894448589:=0
def tw18243862386985471460:=0
def tw17824523184557449582:=0
def tw17617871648860320000:=0
def tw17506112437202586537:=0
def tw17289828372636195115:=0
def tw17249235541112735738:=0
def tw17213493143779338937:=0
def tw17071529124064031145:=0
def tw16813195012918760732:=0
def tw16564216952851172730:=0
def tw16415073548054270891:=0
def tw15695968608839466863:=0
def tw15412495046246465496:=0
def tw152966903842238214:=0
def tw15233871592775614140:=0
def tw14841723282506827761:=0
def tw14685086214699759777:=0
def tw14251551204492807942:=0
def tw1412629029456740187:=0
def tw13987311625640924622:=0
def tw13746223888958103455:=0
def tw13574594125259090763:=0
def tw13224810791847109396:=0
def tw13023892338593475782:=0
def tw12980168479121772830:=0
def tw12974637442627401073:=0
def tw12953136795176955548:=0
def tw12904592588831354015:=0
def tw12694165466075499691:=0
def tw12574901727264692341:=0
def tw12571201153621330501:=0
def tw12225826586389876125:=0
def tw12116194142247258342:=0
def tw1206659750452236270:=0
def tw11634220735917870381:=0
def tw1159174114500398696:=0
def tw11471515091426271865:=0
def tw1134390435481203603:=0
def tw11196240776001187464:=0
def tw1104619940277838403:=0
def tw11002916642043533889:=0
def tw10932052651419066939:=0
def tw10869409439282593927:=0
def tw1079928118648568600:=0
def tw10726961322151387502:=0
def tw10618955712591342682:=0
def tw10516714795978442709:=0
def tw10478256121547399427:=0
def tw10433615198419203317:=0
def tw10375341301281520054:=0
def tw10276913361324552278:=0
def tw10083081788133722353:=0
end PySem.W.Fast
open PySem PySem.W PyProof.Rows
local macro_rules | `(tactic| walk_at "f")=>`(tactic| (refine' _L.DfT.of ?a ?l ?c ?k;(case a=>k_is);(case l=>k_is);(case c=>k_is);(case k=>k_is)))
local macro_rules | `(tactic| walk_at "m")=>`(tactic| (refine' _L.DmT.of ?a ?i ?l ?c ?k;(case a=>k_is);(case i=>k_is);(case l=>k_is);(case c=>k_is);(case k=>k_is)))
local macro_rules | `(tactic| walk_at "c")=>`(tactic| (refine'⟨⟨?a,?i,?l,?c⟩,?m,?k⟩;(case a=>k_is);(case i=>k_is);(case l=>k_is);(case c=>k_is);(case m=>k_is);(case k=>k_is)))
set_option maxRecDepth 100000 in
theorem PySem.Challenge.cw_goneday_k24_whatever_the_order_holds : PySem.Challenge.rw_goneday_k24_whatever_the_order.Holds := by
 w_on;o_law;k_head;(case hw=>w_witness2)
 k_fill
 refine _L.walk_ofBK (l:=PySem.Challenge.rw_goneday_k24_whatever_the_order) (n:=63) (k:=20) (x:="_law_script") (CX:=_L.CX0) (sp:=_K.sp_law) rfl Yc rfl ⟨rfl,Yc,Yc⟩ (λw h Y=>PySem.W.kIn_of Y) ?F ?S ?C
 case F=>
  intro w mg fa h KX G hmg;have T:∃t,_K.Txt (_L.KOf KX) mg t:=by
   dsimp only [_L.KOf];refine' _K.txt_mk KX G ?za ?zb ?zc ?zd ?ze ?zf ?zg ?zh ?zi ?zj ?zk ?zl ?zm ?zn ?zo ?zp ?zq ?zr ?zs ?zt ?zu ?zv ?zw ?zx ?zy ?zz ?zA ?zB ?zC ?zD ?zE ?zF ?zG ?zH ?zI ?zJ ?zK ?zL ?zM ?zN ?zO ?zP ?zQ ?zR ?zS ?zT ?zU ?zV ?zW ?zX ?zY ?zZ ?ya ?yb ?yc ?yd ?ye ?yf ?yg ?yh ?yi ?yj ?yk ?yl ?ym ?yn ?yo ?yp ?yq ?yr ?ys ?yt ?yu ?yv ?yw ?yx ?yy ?yz ?yA ?yB ?yC ?yD ?yE ?yF ?yG ?yH ?yI ?yJ ?yK ?yL ?yM ?yN ?yO ?yP ?yQ ?yR ?yS ?yT ?yU ?yV ?yW ?yX ?yY ?yZ ?xa ?xb ?xc ?xd ?xe ?xf ?xg ?xh
   (case za | zb | zc | zd | ze | zf | zg | zh | zj | zk | zl | zm | zn | zo | zp | zq | zr | zs | zt | zu | zv | zw | zx | zy | zz | zA | zB | zC | zD | zE | zF | zN | zO | zP | zQ | zR | zS | zT | zU | zV | zW | zX | zY | zZ | ya | yb | yc | yd | ye | yf | yg | yh | yi | yj | yk | yl=>walk_at "f")
   (case ym | yn=>k_is)
   (case yo=>first | (repeat (first | exact .nil | refine .cons ⟨_,rfl⟩ ?_)))
   (case yp=>decide)
   (case yq=>k_is)
   (case yr=>exact⟨_,rfl⟩)
   (case ys=>k_is)
   (case yt=>exact⟨_,rfl⟩)
   (case yu=>k_is)
   (case yv=>exact⟨_,rfl⟩)
   (case yw | yx | yy | yz=>k_is)
   (case yA=>walk_at "c")
   (case yB | yC | yD | yE | yF=>unfold _L.NoAttr;k_is)
   (case yG=>walk_at "c")
   (case yH | yI | yJ | yK | yL | yM=>unfold _L.NoAttr;k_is)
   (case yN=>walk_at "c")
   (case yO | yP | yQ | yR | yS | yT=>unfold _L.NoAttr;k_is)
   (case yU | yV | yW | yX | yY | yZ | xa | xb | xc | xd | xe | xf | xg | xh=>k_is)
   (case zi | zG | zH | zI | zJ | zK | zL | zM=>walk_at "m")
  obtain⟨t,T⟩:=T;have e0:=hmg.symm.trans T.F_AL.m;cases e0;exact⟨t.d_AL,T.bt_AL,λbase kb nb=>_K.ok_law T⟩
 case S=>exact λK H a ns hl hb hO hS=>_K.start_law hl hb hS
 case C=>exact λ_ _ _ _ z=>z
