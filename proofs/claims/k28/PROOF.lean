import PyProof.Rows.All
import Wide.All
import OpenK.AllK
import PySem.Challenge.RW_goneday_k28_whole_the_first_clash
open PySem.Str renaming ofString->T4,ofString->T7
open PySem.W renaming Frag->T5,nsIn->U4,mg_none_of->Vb,findIn->We,keepIn->Wf,emptyDict->Wg,fnOf->Wk,instObj->WL,mg_of->WW,methodCall_KW->XR,callWith_K->X9,codeIn->Yi,cellsFrom_some->Yn,plainGet->Yt,isFn->YA,plainGet_of->YG,lookIn->YJ,methodObj->YZ,hasDictIn->Y0,takerIn->Zm,makesIn->Zn,callWith_K0->ZN,plainOver->Z7,handedIn->Tr,OpenLaw->To,WalkO->oo
open List renaming length_map->T6,map_cons->T9,mem_cons->Ud,mem_map->Ug,getElem?_eq_some_iff->Uj,length_cons->Uk,getElem?_map->Ul,mem_append->Um,map_map->Uo,mem_singleton->Ur,getElem?_set_ne->Us,size_toArray->Uu,mem_filter->Uv,length_append->Ux,replicate->Uz,map_append->UA,mem_cons_of_mem->UD,mem_cons_self->UG,not_mem_nil->UI,mem_of_getElem?->UJ,getElem?_set_self->UK,take_of_length_le->UL,getElem?_eq_getElem->UM,foldl_cons->UO,filter_cons->UP,map->UR,lookup_cons->US,length_filter_le->UU,append_nil->UX,take_succ->UZ,length_take->U6,mem_append_right->U7,length_nil->U8,map_nil->U9,pairwise_cons->Vd,nil_append->Vf,getElem?_cons_succ->Vg,append_assoc->Vi,find?_cons->Vj,pairwise_map->Vk,getElem?_append_left->Vm,range->Vo,cons_append->Vr,any_cons->Vs,foldl_append->Vt,nodup_cons->Vz,mem_flatMap->VC,filterMap_cons->VL,map_congr_left->VN,getElem?_cons_zero->VS,getElem?_append_right->VT,replicate_succ->V1,mem_map_of_mem->V2,getElem?_eq_none->V6,getElem_mem->Wa,pairwise_append->Wc,flatMap_append->Wi,set_cons_zero->Wm,set_cons_succ->Wn,mem_of_mem_take->Ws,getElem?_nil->Wu,flatMap_cons->Wv,getD_eq_getElem?_getD->WB,any_eq_true->WD,length_singleton->WI,mem_append_left->WN,nodup_append->WT,filter_congr->WV,getElem?_replicate->WY,filter->W5,filter_append->W9,sum_cons->Xe,all_cons->Xh,flatten_cons->Xi,length_drop->Xq,all_eq_true->Xr,ext_getElem->Xs,mem_filterMap->Xz,append_of_mem->XD,lookup->XF,eq_nil_of_length_eq_zero->XI,length_range->XJ,reverse_cons->XM,mem_of_head?->XO,mem_range->XQ,take_append_drop->XS,all_nil->aaj,any_nil->XU,filterMap_append->XW,perm_ext_iff_of_nodup->XZ,getElem_of_mem->X0,filter_sublist->X1,drop_eq_getElem_cons->X3,pairwise_iff_getElem->X7,any_map->Yc,find?_eq_none->Yd,map_take->Yr,getElem_inj->Ys,flatMap_def->Yw,length_replicate->Yx,Nodup->YD,mem_of_mem_drop->YE,mem_of_getLast?->YF,filter_eq_self->YI,tail_cons->YL,length->YM,filterMap_map->YN,contains_cons->YR,filter_filter->YS,length_eraseIdx_of_lt->YV,length_filterMap_le->Zd,getElem?_set_self'->Zh,length_eq_zero_iff->Zk,pairwise_singleton->Zl,of_mem_zip->Zo,range_succ->Zp,filter_map->Zq,drop_of_length_le->Zr,pairwise_lt_range->Zu,filter_eq_nil_iff->Zw,nodup_nil->Zz,getElem?_of_mem->ZL,length_reverse->ZO,toArray->Z1,any_eq_false->Z6,find?_append->oK,not_lt->Rz,le_antisymm->Su,map_snd_zip->pf,take_length->oj,isEmpty_map->Ss,foldl->S8,forIn_cons->Sd,forIn_nil->SF,lt_trans->Sn,map_drop->oB
open Nat renaming le_refl->T8,le_trans->UN,ne_of_lt->UQ,zero_le->UY,lt_of_lt_of_le->Vh,lt_succ_of_lt->VE,le_succ->VI,lt_irrefl->V3,reduceAdd->V4,reduceSub->V5,lt_succ_self->V9,lt_or_ge->WA,le_of_not_lt->WC,le_of_lt->WM,ne_of_gt->WO,reduceLeDiff->W2,sub_self->W7,zero_add->W8,add_zero->Xu,reduceLT->Xv,lt_of_le_of_lt->Yh,le_of_succ_le->Y2,min_le_right->Y9,mul_le_mul_left->ZQ,add_le_add_left->ZR,le_of_eq->ZU,eq_zero_or_pos->Z3,lt_trans->SH,mul_succ->Tu
open PySem.Heap renaming get?_push_of_some->Ua,lt_size->Ut,get?_push_size->UE,get?_update_other->Vv,get?_update_self->VA,SameBut->Wz,size_push->WH,ExtBut->Zt,get?_update_ne->ZP,get?_push_ne->Z8
open PySem.PyData renaming str->Ub,strOk->Uc,int->Uy,eqv->UB,tuple->UC,canLay0->Va,canLayAll0->VP,list->VQ,eqvAll->VX,bool->W4,none->XH,depthAll->X4,depth->Yb
open Bool renaming false_ne_true->Ue,and_eq_true->U0,false_eq_true->Vl,not_eq_true'->Vp,true_and->VV,not_eq_true->V0,or_false->Wo,false_or->Wq,true_eq_false->WK,not_true->WX,false_and->WZ,eq_iff_iff->Xb,not_eq_false->Xj,not_false->aak,and_true->aaU,or_eq_true->XC,and_false->YK,and_comm->ZM
open PySem.ScopeKind renaming function->Uh
open PySem renaming Spec->aaW,Scope->cmK,boot_len->U5,mem_of_lookup->Wy,Within->ZT,Fin->Z2,call->Ri
open PySem.NameKind renaming free->Uw,globalImplicit->U1,free->VU,cell->Yp
open Array renaming length_toList->UH,getD_eq_getD_getElem?->VO,getD->Xl,getElem?_eq_getElem->Xm,getElem?_toList->Yy,perm_iff_toList_perm->YW,getElem?_eq_none->Zv,mem_toList_iff->ZF,toList_push->oZ,toList_inj->XT,toList_map->Xp,toList_zip->pE,toList->pe
open PySem.Value renaming ref->UW,none->Vy,int->Ww,bool->W3,type->Xk,str->Xo,isInt_shape->Z5,isInt->S4,isStrOf->TL,bytes->T3,float->Sy
open List.cons renaming injEq->U2,inj->YX
open PySem.PassesOwn renaming never->U3
open PySem.Heap.SameBut renaming update->Vc
open Option.some renaming inj->Ve,injEq->VF
open Option renaming map_eq_some_iff->Vn,join_some->WE,join_none->WG,map_some->WR,map_none->WS,isSome_iff_exists->Ya,isSome_map->Yk,mem_toList->Ym,getD_none->Za,isSome_some->ZY,bind->oH
open PySem.PyData.int renaming injEq->Vq
open PySem.Obj renaming mapSeq->Vu,data_mapFields->VZ,isFreed_of_fields->Xc,cls_mapFields->Yl,putSet->Y6,mapFields->TV
open PySem.SeqAt renaming canLay_of_shaped->Vw,shaped->Wl,EqAt->O5
open PySem.PyData.tuple renaming injEq->Vx
open PySem.PyData.str renaming injEq->VB
open Int renaming toNat_natCast->VD,eq_ofNat_of_zero_le->Wt,emod_lt_of_pos->Xa,reduceNeg->Xf,reducePow->Xg,reduceLT->Xw,reduceLE->Xx,emod_nonneg->XE,lt_trichotomy->Y3,le_refl->Zs,le_antisymm->pj,ediv_one->oC,ne_of_lt->oP
open Sum renaming inr->VG,inl->Y8
open PySem.Builtin.Slice renaming slicePlaces->VH,sliceAdjust->Wj,sliceApplied->Xd,sliceFields->Y4
open PySem.Builtin.Tuple renaming tupleExact->VJ,tupleItemsOf->XY
open PySem.Builtin.Int renaming intBits->VM
open PyProof.Rows renaming slot_tuple_getitem->VR,boot_sorted->V7,callWith_type1->Wx,entry_tuple_getitem->Yv,args_tuple_getitem->Yz,bubble->YH,boot_max->ZD,boot_sum->ZE,boot_min->TZ
open PySem.SetTable renaming below->VW,grown->W0,orStandIn->ZZ,sizeAbove->Z0,layClean->Z9,relaid->TR,laid->oF,slot->TX
open True renaming intro->VY
open False renaming elim->V8
open PySem.Around renaming under_plainId->Wb,under->ZV
open PySem.PyData.list renaming injEq->Wh
open Function renaming comp->Wr
open PySem.F renaming slot_dict_get->WJ,entry_dict_get->XG,slot_list_extend->Ye,plainAttrs_list->Yj,plain_extend_loop->Y7,type_list_extend->Zb,args_dict_get_2->Ze,args_dict_get_3->Zf,plainAttrs_dict->Zg,plain_list_iadd->Zj,type_dict_get->Zy,plain_set_new->ZA,slot_set_iter->ZC
open PySem.Builtin.List renaming listTooLong->WQ,listLengthHint->YO,listExtendWith->YQ,listSameRef->Zc,listUpdate->Zi,listFitsIndex->aaz
open PySem.PyData.bool renaming injEq->WU
open PyProof.Rows.F renaming plain_set_update_loop->W6,entry_set_update_loop->Yf
open PySem.Builtin.SmallTypes renaming nextOf->Xn
open PySem.AutoSeq1 renaming wpAny_loadPart'->Xt,list_extend_list_list_0->Yu
open PySem.W.WData renaming int->XA,weightAll->X2,list->Y5,layableAll->oh,weight->TJ
open ForInStep renaming yield->XB
open PySem.SetTable.below renaming go->XN
open PySem.Expr renaming Subscript->XX,BinOp->ZJ,Tuple->ZK,List->Z4,Call->Xy
open PySem.Calls renaming call_function_entry->X5,spliced_cons->X8,callWith_builtin->Yo,evalArgs_plain->YB,Name_function_global->YU,spliced_nil->Y1
open PySem.W.KasT renaming kasWp_bind->X6
open Nat.succ renaming inj->Yg
open Prod.mk renaming injEq->Yq
open Or renaming inr->YC,inl->Zx
open PySem.Paired renaming length->YT,snoc->Te
open PySem.Txt renaming mul->YY
open PySem.Walks renaming list->ZG
open PySem.SeqAt.RcAt renaming tuple_str->ZH
open PySem.SeqAt.EqAt renaming str_tuple->ZI,str_int->ZS
open PySem.Code renaming isFrame->ZW,frames->SE
open PySem.Heap.IsSliceOf renaming new->ZX
open PySem.PyData.dict renaming injEq->SU
open PySem.SetTable.probe renaming go->nT
open Prod renaming snd->RL
open PyProof.Rows.IsTup renaming new->SA
open PySem.CmpOp renaming NotIn->TC
open List.Sublist renaming refl->TY
open PySem.Heap.DictOf renaming new->Ui
open PySem renaming PyData->J4,wpAny_bind->JY,Value->JK,Addr->J7,Shared->K9,wpAny_pure->Kd,starEach->Ke,wpAny->KS,FuncData->L7,model->Kc,Expr->L8,sizeLine->LB,Program->M8,World->LZ,Stmt->Kk,Heap->LO,mainGlobals->LX,Around->Lu,wpAny_newObj_type->MG,foldedSetIterable->Me,bootBuiltins->M9,backTo->LR,swapsWith->M3,wpAny_call_entry->N6,compareOp->M6,wpAny_callSpecial?_slot->Nu,wpAny_holding->Mh,wpAny_mono->MB,wpAny_truthy_bool->Nr,cLine->Ll,behindInMarks->NC,sizeLine_eq->My,cellsFrom->MT,attributeBase->Nn,Scope->MC,NameKind->Ma,codeAny_builtin->OA,keywordEach->Nb,wpAny_Call_Name_kw->P0,wpAny_field->Ng,wpAny_loadPart'->Qy,binaryOp->Mw,SetTable->OI,plainId_quiet->OL,pyNext->MN,wpAny_setField->Om,sysModules->Nj,rawInt->MR,tupleKind_room_in1->Pu,wpAny_passesOwn->Pg,codeAny->Mo,wpAny_setState_of->Q5,getItem->N7,wpAny_seqItems->PK,backToKw->NP,codeAny_mono->OZ,wpAny_askSetting->QS,wpAny_setEntries_of->Qg,Keyword->Nf,call_meets->OF,scanBound->Nw,holding->NO,firstArgMember->QN,PassesOwn->OO,wpAny_newList->QP,wpAny_attempt->QR,sliceBounds->PV,wpAny_of_eq->PQ,wpAny_updateSeq->QV,wpAny_pyIter_tuple->RN,wpAny_typeOf->QG,intKind->O8,standAt->O6,assignEach->PJ,wpAny_rule->P4,setNext->Nx,wpAny_tryCatch->Qn,wpAny_pyIter_enum->Qv,subscripted->QL,relayAll->Ow,wpAny_isInstance->RR,tupleKind->PM,getMethod->Pj,seqItems?->Pn,wpAny_execs_nil->Qs,letOwnedTupleGo->RB,typeIs_str->Q4,wpAny_ite_split->RV,wpAny_fieldsOf->RW,wpAny_letGo->QU,DictEntry->Rq,pickOrder->QA,wpAny_letOwnedTupleGo_enum->SS,wpAny_pyIter_list->Ru,wpAny_sequenceKey->RZ,wpAny_comprehension_free->n9,GenState->SD
open PyProof.Rows renaming seqObj->LW,IntsAre->Lx,envOfC->NM,listUpdate_at->QK,get?_update_seq->QY,AllBare->OP,entry_list_sort->R0,slicePart_none->RJ,slot_list_sort->RA,subscriptTail->RU
open PySem.W renaming kia_one->OS
theorem Kg{p:Prop}[Decidable p](h:decide p=true:=by decide+kernel):p:=of_decide_eq_true h
theorem KL{p:Prop}(h:p:=by decide):p:=h
theorem J1{p:Prop}(h:p:=by omega):p:=h
theorem KJ{p:Prop}(h:p:=by simp):p:=h
theorem JS{c:Prop}{h:Decidable c}(k:¬c){α:Sort u}{t e:α}:ite c t e=e:=if_neg k
theorem KI{c:Prop}{h:Decidable c}(k:c){α:Sort u}{t e:α}:ite c t e=t:=if_pos k
abbrev LG:=PySem.NameKind.local
set_option compiler.extract_closed false
set_option autoImplicit true
set_option relaxedAutoImplicit true
def Of:="↓aam ↓aav ↓pk ↓pq ↓px ↓ph ↓mi ↓aaH ↓pB ↓pC ↓aal ↓pF ↓pG ↓pH ↓oE ↓aaB ↓oG ↓aaR ↓oJ ↓aad ↓oM ↓oN ↓oO ↓aaL ↓oQ ↓oR ↓oT ↓oU ↓oV ↓oW ↓oX ↓oY ↓aaa ↓pd ↓aaG gQ kh gi lq jI iM jJ lr lB kn kX dC cW dI lG ku lH lI iR lU lT lJ dL ki kY iJ iK eX iL ke kZ k6 k7 k8 k9 ib oz oA aaF lM kC lK lL lN lO lP lQ lR kA lV lW iQ lC lE lF l7 md me l6 iT l9 l8 mh mq mj mr mw mx my mz mB mG mE mF mD mH mN mK mL mM mO mQ jR mS mT mU mV mR mW mX mY iV nc ni nk jo om aaA ne_eq n8 acQ oe aah aao nZ jL jM kq jK lA lz lx iP fQ eY j5 j6 jc T9 U9 Uk U8 Uz Vr Vf UX V4 V5 Xu W8 W7 VS Vg Wu Wm Wn VF exists_eq_left' exists_eq_left exists_and_left exists_and_right WE WG Sl.v.injEq Sl.o.injEq Sl.k.injEq Vq WU VB Vx Wh U2 and_true true_and Xv W2 exists_const decide_eq_true_eq Xw Xx Xf Xg Vp decide_eq_false_iff_not and_assoc or_true true_or ↓reduceIte if_true if_false Vl WK not_true_eq_false not_false_eq_true WX aak ite_true ite_false eq_self exists_eq reduceCtorEq false_and and_false or_false false_or exists_false WR WS Xh aaj Vs XU aaU Wo VV Wq cK fJ jk gS lX fu lY beq_self_eq_true jN aac nU dh sizeLine_eq"
def Ny (n : String) : Lean.MacroM (Lean.TSyntax `tactic) := do
 let ts : Array (Lean.TSyntax `Lean.Parser.Tactic.simpLemma) <- ((n.splitOn " ").toArray).mapM λs =>do
  if s.startsWith "↓" then
   let i := Lean.mkIdent (s.drop 1).toString.toName
   `(Lean.Parser.Tactic.simpLemma| ↓ $i:ident)
  else
   let i := Lean.mkIdent s.toName
   `(Lean.Parser.Tactic.simpLemma| $i:ident)
 `(tactic| simp only [$ts,*])
local macro_rules|`(command|def $i:declId $s:optDeclSig $v:declVal)=>`(command|noncomputable def $i:declId $s:optDeclSig $v:declVal)|`(command|abbrev $i:declId $s:optDeclSig $v:declVal)=>`(command|noncomputable abbrev $i:declId $s:optDeclSig $v:declVal)
noncomputable section
set_option Elab.async false
set_option linter.all false
set_option maxRecDepth 100000
set_option maxHeartbeats 0
set_option genSizeOf false
namespace L2
open PySem PySem.Spec PyProof.Rows
abbrev Fa:=List J4->(J4->Prop)->Prop
abbrev ao:=Sum Int Str
def pX:ao->JK->Bool
 | .inl k,v=>S4 k v
 | .inr x,v=>TL x v
def JH(w:LZ):ao->Int
 | .inl k=>hashInt k
 | .inr x=>hashStr w x
theorem jy:∀{k:ao}{v:JK},pX k v=true->(∃i t,k=Y8 i/\v=Ww i t)\/(∃x t,k=VG x/\v=Xo x t)
 | .inl i,v,h=>by
  obtain⟨t,e⟩:=Z5 (k:=i) (v:=v) h;exact .inl ⟨i,t,rfl,e⟩
 | .inr x,v,h=>by
  obtain⟨t,e⟩:=Value.isStrOf_shape (x:=x) (v:=v) h;exact .inr ⟨x,t,rfl,e⟩
theorem JI(i:Int)(t:Tok):pX (.inl i) (.int i t)=true:=by simp[pX,S4]
theorem JJ(x:Str)(t:Tok):pX (.inr x) (.str x t)=true:=by simp[pX,TL]
theorem aa6(a b:Int):decide ((Y8 a:ao)=Y8 b)=(a==b):=by
 by_cases e:a=b
 ·subst e;simp
 ·have h:¬(Y8 a:ao)=Y8 b:=λq=>e (Y8.inj q);rw[decide_eq_false h];exact(beq_eq_false_iff_ne.mpr e).symm
theorem JL(a b:Str):decide ((VG a:ao)=VG b)=decide (a=b):=by
 by_cases e:a=b
 ·subst e;simp
 ·have h:¬(VG a:ao)=VG b:=λq=>e (VG.inj q);rw[decide_eq_false h,decide_eq_false e]
theorem JM(a:Int)(b:Str):decide ((Y8 a:ao)=VG b)=false:=decide_eq_false (λq=>nomatch q)
theorem JN(a:Str)(b:Int):decide ((VG a:ao)=Y8 b)=false:=decide_eq_false (λq=>nomatch q)
def eV(prog:M8)(w:LZ):PySem.KeyKind prog w ao where
 is:=pX
 hash:=JH w
 inj:=λv a b ha hb=>by
  rcases jy ha with⟨i,t,rfl,rfl⟩|⟨x,t,rfl,rfl⟩
  ·rcases jy hb with⟨j,u,rfl,e⟩|⟨y,u,rfl,e⟩
   ·injection e with e1 _;rw[e1]
   ·exact nomatch e
  ·rcases jy hb with⟨j,u,rfl,e⟩|⟨y,u,rfl,e⟩
   ·exact nomatch e
   ·injection e with e1 _;rw[e1]
 byValue:=λk v h=>by
  rcases jy h with⟨i,t,rfl,rfl⟩|⟨x,t,rfl,rfl⟩<;>rfl
 pyHash:=λhv h=>by
  rcases jy hv with⟨i,t,rfl,rfl⟩|⟨x,t,rfl,rfl⟩
  ·exact wpAny_pyHash_int h
  ·exact wpAny_pyHash_str h
 eqBool:=λhu hv h=>by
  rcases jy hu with⟨i,t,rfl,rfl⟩|⟨x,t,rfl,rfl⟩
  ·rcases jy hv with⟨j,u,rfl,rfl⟩|⟨y,u,rfl,rfl⟩
   ·rw[aa6]at h;exact wpAny_eqBool_int h
   ·rw[JM]at h;exact O5.int_str i t y u _ _ _ _ h
  ·rcases jy hv with⟨j,u,rfl,rfl⟩|⟨y,u,rfl,rfl⟩
   ·rw[JN]at h;exact ZS x t j u _ _ _ _ h
   ·rw[JL]at h;exact wpAny_eqBool_str h
 «strs»:=λk x t v h=>by
  rcases jy h with⟨i,u,rfl,e⟩|⟨y,u,rfl,e⟩
  ·exact nomatch e
  ·injection e with e1 _
   subst e1;cases v<;>rfl
theorem JO(prog:M8)(w:LZ)(i:Int)(t:Tok):(eV prog w).is (.inl i) (.int i t)=true:=JI i t
theorem JP(prog:M8)(w:LZ)(x:Str)(t:Tok):(eV prog w).is (.inr x) (.str x t)=true:=JJ x t
inductive V where
 |non|bl (b:Bool)|int (i:Int)|str (x:Str)|byt (b:Array UInt8)|flt (b:UInt64)|ref (a:J7)|ty (n:String)
 deriving DecidableEq
def aN:V->JK->Prop
 | .non,u=>u=Vy
 | .bl b,u=>u=W3 b
 | .int i,u=>∃t,u=Ww i t
 | .str x,u=>∃t,u=Xo x t
 | .byt b,u=>∃t,u=T3 b t
 | .flt b,u=>∃t,u=Sy b t
 | .ref a,u=>u=UW a
 | .ty n,u=>u=Xk n
abbrev aL:List V->List JK->Prop:=Paired aN
theorem aL.length(r:aL xs us):xs.length=us.length:=YT r
theorem aL.get:∀{xs:List V}{us:List JK}{i:Nat}{x:V},aL xs us->xs[i]?=some x->∃u,us[i]?=some u/\aN x u
 |_,_,_,_,.nil,e=>by simp at e
 |_,_,0,_,.cons r _,e=>by simp at e;subst e;exact⟨_,rfl,r⟩
 |_,_,i+1,x,.cons _ t,e=>by
  obtain⟨u,h1,h2⟩:=aL.get (i:=i) (x:=x) t (by simpa using e);exact⟨u,by simpa using h1,h2⟩
theorem aL.append:∀{xs ys:List V}{us ws:List JK},aL xs us->aL ys ws->aL (xs++ys) (us++ws)
 |_,_,_,_,.nil,s=>s
 |_,_,_,_,.cons r t,s=>.cons r (aL.append t s)
theorem aL.take:∀{xs:List V}{us:List JK}(n:Nat),aL xs us->aL (xs.take n) (us.take n)
 |_,_,0,_=>.nil
 |_,_,_+1,.nil=>.nil
 |_,_,n+1,.cons r t=>.cons r (aL.take n t)
theorem aL.drop:∀{xs:List V}{us:List JK}(n:Nat),aL xs us->aL (xs.drop n) (us.drop n)
 |_,_,0,r=>r
 |_,_,_+1,.nil=>.nil
 |_,_,n+1,.cons _ t=>aL.drop n t
def fk:Option V->Option JK->Prop
 |some v,some u=>aN v u
 |none,none=>True
 |_,_=>False
def KV{κ:Type}:List (κ×V)->List (κ×JK)->Prop:=Paired λ(p:κ×V) (q:κ×JK)=>p.1=q.1/\aN p.2 q.2
def kV:ao->V
 | .inl i=>.int i
 | .inr x=>.str x
inductive HO where
 |lst (xs:List V)
 |tup (xs:List V)
 |dK (kvs:List (ao×V))|dT (kvs:List (List ao×V))
 |set (S:Int->Bool) (n:Nat)
 |ins (C dx:J7) (fs:List (Str×V))
 |own (x:J7)
 |xd (fs:List (Str×V))
 |met (f x:J7)
 |rng (lo hi:Int)
 |frz (o:Obj) (u:HO)
 |tbl (ps:Array JK)
 |ext (φ:LO->Prop)
abbrev Hp:=J7->Option HO
def ah(H:Hp)(a:J7)(o:HO):Hp:=λb=>if b=a then some o else H b
theorem bF:ah H a o a=some o:=by unfold ah;rw[KI rfl]
theorem aD(h:b≠a):ah H a o b=H b:=by unfold ah;rw[JS h]
theorem JQ:ah (ah H a o) a u=ah H a u:=by
 funext b;unfold ah;split<;>rfl
theorem JR{H:Hp}(h:H a=some o)(h':H b=some u)(d:o≠u):a≠b:=by
 intro e;subst e;rw[h]at h';exact d (Ve h')
theorem fC{H:Hp}(h:H a=some o)(h':H b=none):a≠b:=by
 intro e;subst e;rw[h]at h';cases h'
section
variable(P:M8)(w:LZ)
def cz(H:Hp)(h:LO)(a:J7):HO->Prop
 | .lst xs=>xs.length<=LB/\∃(its:List JK)(n:Nat),aL xs its/\h.get? a=some {cls:= .type "list",data:= .seq its.toArray n}
 | .tup xs=>xs.length<=LB/\∃its:List JK,aL xs its/\IsTup h a its.toArray
 | .dK kvs=>kvs.length<=LB/\(a==Nj)=false/\∃vs,KV kvs vs/\h.DictOf (eV P w) a vs
 | .dT kvs=>kvs.length<=LB/\(a==Nj)=false/\∃xs:List (List ao×J7×JK),
  Paired (λ(p:List ao×V) (q:List ao×J7×JK)=>p.1=q.1/\H q.2.1=some (.tup (p.1.map kV))/\aN p.2 q.2.2) kvs xs/\
  ∃o es ep,h.get? a=some o/\o.ExactDict/\o.data= .dict es ep/\es.toList=xs.map (entryOfKey (PM (eV P w)))/\(xs.map (·.1)).Nodup
 | .set S n=>h.SetOf (O8 P w) a S n
 | .ins C dx fs=>H dx=some (.own a)/\fs.length<=1000/\dx≠a/\h.get? a=some (WL C dx)/\
  ∃mA,h.Ns1 dx mA/\(∀f,fk (fs.lookup f) (mA f))/\ZT mA (fs.map (·.1))
 | .own _=>∃o,h.get? a=some o
 | .xd fs=>∃mA,h.Ns1 a mA/\∀f,fk (fs.lookup f) (mA f)
 | .rng lo hi=>∃t u v,h.get? a=some {cls:= .type "range",data:= .fields #[.int lo t,.int hi u,.int 1 v]}
 | .frz o u=>h.get? a=some o/\cz H h a u
 | .tbl ps=>h.get? a=some {cls:= .none,data:= .fields ps}
 | .met f x=>h.get? a=some (YZ (.ref f) (.ref x))
 | .ext φ=>φ h/\(∃o,h.get? a=some o)/\∀h1 h2:LO,φ h1->(∀o,h1.get? a=some o->h2.get? a=some o)->φ h2
def bV(H:Hp)(h:LO):Prop:=∀a o,H a=some o->cz P w H h a o
end
section
variable{P:M8}{w:LZ}{H H':Hp}{h h':LO}{a:J7}{o:HO}
theorem cz.lt(x:cz P w H h a o):a < h.objs.size:=by
 cases o with
 |lst xs=>obtain⟨_,_,_,_,e⟩:=x;exact Ut e
 |tup xs=>obtain⟨_,_,_,p⟩:=x;exact p.lt
 |dK kvs=>obtain⟨_,_,_,_,o,_,_,e,_⟩:=x;exact Ut e
 |dT kvs=>obtain⟨_,_,_,_,o,_,_,e,_⟩:=x;exact Ut e
 |set S n=>obtain⟨o,_,_,_,e,_⟩:=x;exact Ut e
 |ins C dx fs=>obtain⟨_,_,_,e,_⟩:=x;exact Ut e
 |own y=>obtain⟨_,e⟩:=x;exact Ut e
 |xd fs=>obtain⟨_,⟨_,_,_,e,_⟩,_⟩:=x;exact Ut e
 |rng lo hi=>obtain⟨_,_,_,e⟩:=x;exact Ut e
 |frz ob u=>obtain⟨e,_⟩:=x;exact Ut e
 |tbl ps=>exact Ut (show h.get? a=some _ from x)
 |met f y=>exact Ut (show h.get? a=some _ from x)
 |ext φ=>obtain⟨_,⟨_,e⟩,_⟩:=x;exact Ut e
theorem Paired.mapP{α β:Type}{F G:α->β->Prop}:∀{l₁:List α}{l₂:List β},Paired F l₁ l₂->(∀a b,F a b->G a b)->Paired G l₁ l₂
 |_,_,.nil,_=>.nil
 |_,_,.cons r t,f=>.cons (f _ _ r) (Paired.mapP t f)
theorem cz.stay(x:cz P w H h a o)(k:∀b u,(b=a\/H b=some (.own a))->h.get? b=some u->h'.get? b=some u)
 (ho:∀b,H b=some (.own a)->H' b=some (.own a))(ht:∀b xs,H b=some (.tup xs)->H' b=some (.tup xs)):cz P w H' h' a o:=by
 induction o with
 |lst xs=>obtain⟨z,its,n,r,e⟩:=x;exact⟨z,its,n,r,k _ _ (.inl rfl) e⟩
 |tup xs=>obtain⟨z,its,r,ob,e,c⟩:=x;exact⟨z,its,r,ob,k _ _ (.inl rfl) e,c⟩
 |dK kvs=>obtain⟨z,y,vs,r,ob,es,ep,e,c⟩:=x;exact⟨z,y,vs,r,ob,es,ep,k _ _ (.inl rfl) e,c⟩
 |dT kvs=>
  obtain⟨z,y,xs,r,ob,es,ep,e,c⟩:=x;exact⟨z,y,xs,Paired.mapP r λp q z=>⟨z.1,ht _ _ z.2.1,z.2.2⟩,ob,es,ep,k _ _ (.inl rfl) e,c⟩
 |set S n=>obtain⟨ob,es,ep,t,e,c⟩:=x;exact⟨ob,es,ep,t,k _ _ (.inl rfl) e,c⟩
 |ins C dx fs=>
  obtain⟨d,z,ne,e,mA,⟨od,es,ep,e2,c⟩,r⟩:=x;exact⟨ho _ d,z,ne,k _ _ (.inl rfl) e,mA,⟨od,es,ep,k _ _ (.inr d) e2,c⟩,r⟩
 |own y=>obtain⟨ob,e⟩:=x;exact⟨ob,k _ _ (.inl rfl) e⟩
 |xd fs=>obtain⟨mA,⟨od,es,ep,e,c⟩,r⟩:=x;exact⟨mA,⟨od,es,ep,k _ _ (.inl rfl) e,c⟩,r⟩
 |rng lo hi=>obtain⟨t,u,v,e⟩:=x;exact⟨t,u,v,k _ _ (.inl rfl) e⟩
 |frz ob u ih=>obtain⟨e,q⟩:=x;exact⟨k _ _ (.inl rfl) e,ih q⟩
 |tbl ps=>
  have e:h.get? a=some {cls:= .none,data:= .fields ps}:=x;show h'.get? a=some {cls:= .none,data:= .fields ps};exact k a _ (.inl rfl) e
 |met f y=>
  have e:h.get? a=some (YZ (.ref f) (.ref y)):=x;show h'.get? a=some (YZ (.ref f) (.ref y));exact k a _ (.inl rfl) e
 |ext φ=>obtain⟨p,⟨o,e⟩,st⟩:=x;exact⟨st _ _ p λo q=>k _ _ (.inl rfl) q,⟨o,k _ _ (.inl rfl) e⟩,st⟩
theorem bV.lt(x:bV P w H h)(e:H a=some o):a < h.objs.size:=(x a o e).lt
theorem bV.fresh(x:bV P w H h)(e:h.objs.size<=a):H a=none:=by
 cases q:H a with
 |none=>rfl
 |some u=>exact absurd (Vh (x.lt q) e) (V3 _)
theorem bV.kept(x:bV P w H h)(k:∀b u,h.get? b=some u->h'.get? b=some u):bV P w H h':=λa o e=>
 (x a o e).stay (λb u _ q=>k b u q) (λ_ q=>q) λ_ _ q=>q
theorem bV.laid(x:bV P w H h)(k:∀b u,h.get? b=some u->h'.get? b=some u)(hp:h.objs.size<=a)(new:cz P w (ah H a o) h' a o):bV P w (ah H a o) h':=λb u e=>by
 have hn:=x.fresh hp;by_cases hb:b=a
 ·subst hb;rw[bF]at e;cases e;exact new
 ·rw[aD hb]at e;exact(x b u e).stay (λc v _ q=>k c v q) (λc q=>by rw[aD (fC q hn)];exact q) λc xs q=>by rw[aD (fC q hn)];exact q
end
def Rd(H:Hp)(a:J7)(u:HO):Prop:=H a=some u\/∃o,H a=some (.frz o u)
theorem Rd.ok(r:Rd H a u)(x:bV P w H h):cz P w H h a u:=by
 rcases r with r|⟨o,r⟩
 ·exact x a u r
 ·obtain⟨_,q⟩:=x a _ r;exact q
def q5:Option HO->Prop
 |some (.lst _)=>True
 |some (.dK _)=>True
 |some (.dT _)=>True
 |some (.set _ _)=>True
 |some (.ins _ _ _)=>True
 |some (.ext _)=>True
 |_=>False
theorem bV.write(ok:bV P w H h)(mu:q5 (H x))(he:e=x\/H e=some (.own x))(k:∀b u,b≠e->h.get? b=some u->h'.get? b=some u)(heo:∃u,h'.get? e=some u)
 (new:cz P w (ah H x o') h' x o'):bV P w (ah H x o') h':=λb u q=>by
 have nown:∀c y,H c=some (.own y)->c≠x:=λc y r z=>by subst z;rw[r]at mu;exact mu
 have ntup:∀c xs,H c=some (.tup xs)->c≠x:=λc xs r z=>by subst z;rw[r]at mu;exact mu
 by_cases hb:b=x
 ·subst hb;rw[bF]at q;cases q;exact new
 ·rw[aD hb]at q;by_cases hbe:b=e
  ·have q':H b=some (.own x):=by
    rcases he with z|z
    ·exact absurd (hbe.trans z) hb
    ·rw[hbe];exact z
   rw[q]at q';cases q';obtain⟨v,hv⟩:=heo;exact⟨v,by rw[hbe];exact hv⟩
  ·refine(ok b u q).stay (λc v hc r=>k c v ?_ r) (λc r=>by rw[aD (nown c b r)];exact r) λc xs r=>by rw[aD (ntup c xs r)];exact r
   rcases hc with rfl|hc
   ·exact hbe
   ·rintro rfl;rcases he with z|z
    ·exact nown c b hc z
    ·rw[hc]at z;cases z;exact hb rfl
structure Un (fs ex:List J7) (H H':Hp) (h h':LO):Prop where
 keep:∀b o,h.get? b=some o->H b=none->b∉fs->b∉ex->h'.get? b=some o
 slot:∀b o,h.get? b=some o->H b=none->b∈fs->b∉ex->∃sl,h'.get? b=some {o with slots:=sl}
 free:∀b o,h.get? b=some o->H b=none->b∉ex->H' b=none
 there:∀b o,h.get? b=some o->b∉ex->∃o',h'.get? b=some o'
 tups:∀b xs,H b=some (.tup xs)->H' b=some (.tup xs)
 frzs:∀b o u,H b=some (.frz o u)->H' b=some (.frz o u)
 tbls:∀b ps,H b=some (.tbl ps)->∃more,H' b=some (.tbl (ps++more))
section
variable{fs fs' ex ex':List J7}{H H1 H2:Hp}{h h1 h2 h':LO}{a x e:J7}{o:HO}
theorem Un.any(u:Un fs ex H H1 h h1)(q:h.get? b=some ob)(n:H b=none)(hx:b∉ex):∃sl,h1.get? b=some {ob with slots:=sl}:=by
 by_cases hb:b∈fs
 ·exact u.slot b ob q n hb hx
 ·exact⟨ob.slots,u.keep b ob q n hb hx⟩
theorem Un.kept(k:∀b u,h.get? b=some u->h'.get? b=some u):Un fs ex H H h h':=
 ⟨λb ob q _ _ _=>k b ob q,λb ob q _ _ _=>⟨ob.slots,k b ob q⟩,λ_ _ _ n _=>n,λb ob q _=>⟨ob,k b ob q⟩,λ_ _ q=>q,λ_ _ _ q=>q,λ_ ps q=>⟨#[],by rw[q];simp⟩⟩
theorem Un.refl:Un fs ex H H h h:=Un.kept λ_ _ q=>q
theorem Un.laid(k:∀b u,h.get? b=some u->h'.get? b=some u)(hp:h.objs.size<=a)(hn:H a=none):Un fs ex H (ah H a o) h h' where
 keep:=λb u q _ _ _=>k b u q
 slot:=λb u q _ _ _=>⟨u.slots,k b u q⟩
 free:=λb u q n _=>by rw[aD (UQ (Vh (Ut q) hp))];exact n
 there:=λb u q _=>⟨u,k b u q⟩
 tups:=λb xs q=>by rw[aD (fC q hn)];exact q
 frzs:=λb u xs q=>by rw[aD (fC q hn)];exact q
 tbls:=λb ps q=>⟨#[],by rw[aD (fC q hn),q];simp⟩
theorem Un.write(mu:q5 (H x))(he:e=x\/H e=some (.own x))(k:∀b u,b≠e->h.get? b=some u->h'.get? b=some u)(heo:∃u,h'.get? e=some u):Un fs ex H (ah H x o) h h':=by
 have hx:∀b,H b=none->b≠x:=λb n z=>by subst z;rw[n]at mu;exact mu
 have hb:∀b,H b=none->b≠e:=λb n z=>by
  subst z;rcases he with r|r
  ·exact hx b n r
  ·rw[n]at r;cases r
 have hm:∀b u,H b=some u->¬q5 (some u)->b≠x:=λb u q nm z=>by subst z;rw[q]at mu;exact nm mu
 refine⟨λb u q n _ _=>k b u (hb b n) q,λb u q n _ _=>⟨u.slots,k b u (hb b n) q⟩,λb u q n _=>by rw[aD (hx b n)];exact n,λb u q _=>?_,
  λb xs q=>by rw[aD (hm b _ q λz=>z)];exact q,λb u xs q=>by rw[aD (hm b _ q λz=>z)];exact q,λb ps q=>⟨#[],by rw[aD (hm b _ q λz=>z),q];simp⟩⟩
 by_cases hbe:b=e
 ·subst hbe;exact heo
 ·exact⟨u,k b u hbe q⟩
end
def trk(h:LO)(H:Hp):List J7:=(Vo h.objs.size).filter λa=>(H a).isSome
def j3(h:LO)(H:Hp):LO:=PySem.W.hideAll h (trk h H)
theorem aa0(h:LO)(H:Hp):(j3 h H).objs.size=h.objs.size:=PySem.W.hideAll_size _ _
theorem JT{h:LO}{H:Hp}(e:h.get? b=some o)(n:H b=none):(j3 h H).get? b=some o:=
 PySem.W.hideAll_get _ e λhm=>by
  have q:(H b).isSome=true:=(Uv.mp hm).2;rw[n]at q;simp at q
theorem JU(e:(j3 h H).get? b=some o):h.get? b=some o/\H b=none:=by
 have e':h.get? b=some o:=PySem.W.of_hideAll (trk h H) e;refine⟨e',?_⟩;cases q:H b with
 |none=>rfl
 |some x=>
  have hm:b∈trk h H:=Uv.mpr ⟨XQ.mpr (Ut e'),by simp[q]⟩;have z:(j3 h H).get? b=none:=PySem.W.hideAll_none (trk h H) hm;rw[z]at e;cases e
def JV(g h:LO)(L:J7):List (J7×Obj):=(Vo h.objs.size).filterMap λa=>if a=L\/(g.get? a).isSome=true then none else(h.get? a).map λo=>(a,o)
def rest(g h:LO)(L d:J7):List (J7×Obj):=(JV g h L).filter λp=>decide (p.1≠d)
structure Mod (Z:T5) (mg:Str->Option JK) (base:LO):Prop where
 kin:Z.In base
 glob:base.Ns LX mg
 blt:∃mb,base.Ns builtinsNs mb/\∀x:Str,x≠"__name__"->mb x=M9 x
 nolimit:base.NoLimit
structure Cx where
 prog:M8
 w:LZ
 K:T5
 mg:Str->Option JK
 base:LO
 A:Lu
 N:List Str
 s₀:K9
 H₀:Hp
 env:Env
 outer:List Env
 stack:List Env
 ex:List J7
 fn:Str->Bool
 calm:Bool
 pn:List (J7×Obj)
 xe:JK->K9->Prop
def h7(l:List Env):List J7:=l.filterMap (·.frame)
abbrev Cx.fs(X:Cx):List J7:=h7 X.outer
def rg(sc:MC)(x:Str):Prop:=sc.names.lookup x=some .local\/sc.names.lookup x=some .cell\/sc.names.lookup x=some .free
def iD(sc:MC)(x:Str):Prop:=sc.names.lookup x=some .local\/sc.names.lookup x=some .cell
def JW(env:Env)(h:LO)(m:Str->Option JK)(x:Str)(u:JK):Prop:=
 (env.kindOf x=some .local/\m x=some u)\/((env.kindOf x=some .cell\/env.kindOf x=some .free)/\∃c,env.cells.lookup x=some c/\h.IsCell c (some u))
structure Cx.Ok (X:Cx):Prop where
 mod:Mod X.K X.mg X.base
 kind:X.env.scope.kind= .function
 glob:X.env.globals=LX
 blt:X.env.builtins=builtinsNs
 above:X.s₀.heap.objs.size<=X.env.locals
 inj:∀x y c,X.env.cells.lookup x=some c->X.env.cells.lookup y=some c->x=y
 has:∀x,(X.env.kindOf x=some .cell\/X.env.kindOf x=some .free)->∃c,X.env.cells.lookup x=some c
 cab:∀x c,X.fn x=true->X.env.cells.lookup x=some c->X.s₀.heap.objs.size<=c
 hd:X.calm=true->X.A.handled=none
 frames:X.A.frames=some X.stack
 stk:X.stack=X.outer\/(X.stack=X.env::X.outer/\X.env.frame=some X.env.locals)
 exf:∀b∈X.ex,b≠X.env.locals/\∀x c,X.env.cells.lookup x=some c->c≠b
 bs:∀b o,X.base.get? b=some o->X.s₀.heap.get? b=some o/\X.H₀ b=none
 bsz:X.base.objs.size<=X.s₀.heap.objs.size
 noex:∀b o,X.base.get? b=some o->b∉X.ex
 exfs:∀b∈X.ex,b∉X.fs
 funs:X.s₀.heap.FunFrames X.base X.outer
 frf:∀b∈X.fs,X.H₀ b=none
structure ag (X:Cx) (acT:List (J7×Obj)) (U:List (Option V)) (H:Hp) (s:K9):Prop where
 ok:X.Ok
 os:s.os=X.s₀.os
 bare:OP s.gens
 base:Un X.fs X.ex X.H₀ H X.s₀.heap s.heap
 loc:∃m,s.heap.Ns X.env.locals m/\∀(i:Nat)(x:Str)(v:V),X.N[i]?=some x->U[i]?=some (some v)->rg X.env.scope x->∃u,aN v u/\JW X.env s.heap m x u
 cell:∀x c,X.env.cells.lookup x=some c->∃v,s.heap.IsCell c v
 free:H X.env.locals=none
 freeC:∀x c,X.env.cells.lookup x=some c->H c=none
 pin:∀p∈X.pn++acT,s.heap.get? p.1=some p.2/\H p.1=none/\p.1≠X.env.locals/\p.1∉X.fs/\∀v,p.2.data≠ .cell v
 hok:bV X.prog X.w H s.heap
 len:U.length=X.N.length
section
variable{X:Cx}{acT:List (J7×Obj)}{U:List (Option V)}{H H':Hp}{s:K9}{h':LO}
theorem Cx.Ok.nofr(ok:X.Ok){b:J7}{o:Obj}(e:X.base.get? b=some o):b∉X.fs:=λhb=>by
 have:=(ok.funs.mem hb).1;rw[e]at this;cases this
theorem ag.bs(I:ag X acT U H s):∀b o,X.base.get? b=some o->s.heap.get? b=some o/\H b=none:=λb o e=>
 ⟨I.base.keep b o (I.ok.bs b o e).1 (I.ok.bs b o e).2 (I.ok.nofr e) (I.ok.noex b o e),I.base.free b o (I.ok.bs b o e).1 (I.ok.bs b o e).2 (I.ok.noex b o e)⟩
theorem ag.bk(I:ag X acT U H s):∀b o,X.base.get? b=some o->s.heap.get? b=some o:=λb o e=>(I.bs b o e).1
theorem ag.mod(I:ag X acT U H s):Mod X.K X.mg X.base:=I.ok.mod
theorem ag.kIn(I:ag X acT U H s):X.K.In s.heap:=I.ok.mod.kin.keeps I.bk
theorem ag.fr(I:ag X acT U H s):∃m,Fr X.base X.env.locals s.heap m:=
 let ⟨m,hn,_⟩:=I.loc
 ⟨m,hn,I.bk,UN I.ok.bsz I.ok.above⟩
theorem ag.lt(I:ag X acT U H s):X.env.locals < s.heap.objs.size:=let ⟨_,hn,_⟩:=I.loc;hn.lt
theorem ag.sz(I:ag X acT U H s):X.s₀.heap.objs.size<=s.heap.objs.size:=UN I.ok.above (WM I.lt)
theorem ag.nofs(I:ag X acT U H s){a:J7}(h:s.heap.objs.size<=a):a∉X.fs:=λhb=>by
 obtain⟨_,o,ho,_⟩:=I.ok.funs.mem hb;exact absurd (Vh (Ut ho) (UN I.sz h)) (V3 _)
theorem ag.cne(I:ag X acT U H s):∀x c,X.env.cells.lookup x=some c->c≠X.env.locals:=λx c e z=>by
 obtain⟨v,o,ho,hd⟩:=I.cell x c e;obtain⟨m,⟨o',es,ep,ho',hd',_⟩,_⟩:=I.loc;rw[z,ho']at ho;cases ho;rw[hd']at hd;cases hd
theorem ag.funs(I:ag X acT U H s):s.heap.FunFrames X.base X.outer:=by
 have all:∀(l:List Env),(∀b∈h7 l,b∈X.fs)->X.s₀.heap.FunFrames X.base l->s.heap.FunFrames X.base l:=by
  intro l
  induction l with
  |nil=>intro _ _;trivial
  |cons env r ih=>
   intro hs hl;obtain⟨hk,⟨L,o,hf,hn,ho,hd⟩,hr⟩:=hl;have hL:L∈X.fs:=hs L (by unfold h7;rw[VL,hf];exact UG);obtain⟨sl,e⟩:=I.base.slot L o ho (I.ok.frf L hL) hL λz=>I.ok.exfs L z hL;exact⟨hk,⟨L,_,hf,hn,e,hd⟩,ih (λb hb=>hs b (by unfold h7;rw[VL,hf];exact UD _ hb)) hr⟩
 exact all X.outer (λ_ hb=>hb) I.ok.funs
theorem ag.stack(I:ag X acT U H s):s.heap.FunFrames X.base X.stack:=by
 rcases I.ok.stk with e|⟨e,hf⟩
 ·rw[e];exact I.funs
 ·rw[e];obtain⟨m,hn,_⟩:=I.loc;refine .cons (by rw[I.ok.kind];decide) hf hn ?_ I.funs;exact Heap.get?_none_of_le (UN I.ok.bsz I.ok.above)
theorem ag.stkSub(I:ag X acT U H s):∀b∈h7 X.stack,b∈X.env.locals::X.fs:=λb hb=>by
 rcases I.ok.stk with e|⟨e,hf⟩
 ·rw[e]at hb;exact UD _ hb
 ·rw[e]at hb;unfold h7 at hb;rw[VL,hf]at hb;exact hb
theorem ag.stkFree(I:ag X acT U H s):∀b∈h7 X.stack,H b=none:=λb hb=>by
 rcases Ud.mp (I.stkSub b hb) with e|hb
 ·rw[e];exact I.free
 ·obtain⟨_,o,ho,_⟩:=I.ok.funs.mem hb;exact I.base.free b o ho (I.ok.frf b hb) λz=>I.ok.exfs b z hb
theorem ag.step{g':Array SD}{t':Nat}{d':Drawn}{ch:List J7}(I:ag X acT U H s)
 (hch:∀b∈ch,(b∈X.ex\/X.s₀.heap.objs.size<=b)/\b≠X.env.locals/\(∀x c,X.env.cells.lookup x=some c->c≠b)/\∀p∈X.pn++acT,p.1≠b)
 (keep:∀b o,b≠X.env.locals->b∉X.fs->b∉ch->s.heap.get? b=some o->H b=none->h'.get? b=some o)
 (slot:∀b o,b≠X.env.locals->b∈X.fs->b∉ch->s.heap.get? b=some o->H b=none->∃sl,h'.get? b=some {o with slots:=sl})(free:∀b o,b∉ch->s.heap.get? b=some o->H b=none->H' b=none)
 (there:∀b o,b∉ch->s.heap.get? b=some o->∃o',h'.get? b=some o')
 (tups:∀b xs,H b=some (.tup xs)->H' b=some (.tup xs))(frzs:∀b o u,H b=some (.frz o u)->H' b=some (.frz o u))(tbls:∀b ps,H b=some (.tbl ps)->∃more,H' b=some (.tbl (ps++more)))
 (ns:∀m,s.heap.Ns X.env.locals m->h'.Ns X.env.locals m)(hok:bV X.prog X.w H' h')(hg:OP g'):
 ag X acT U H' {s with heap:=h',gens:=g',drawn:=d',toks:=t'}:=by
 have neL:∀b o,X.s₀.heap.get? b=some o->b≠X.env.locals:=λb o e=>UQ (Vh (Ut e) I.ok.above);have neC:∀b o,X.s₀.heap.get? b=some o->b∉X.ex->b∉ch:=λb o e hx hb=>by
  rcases(hch b hb).1 with z|z
  ·exact hx z
  ·exact absurd (Vh (Ut e) z) (V3 _)
 have cellK:∀x c,X.env.cells.lookup x=some c->∀v,s.heap.IsCell c v->h'.IsCell c v:=λx c e v uu=>by
  obtain⟨o,ho,hd⟩:=uu;have nch:c∉ch:=λz=>(hch c z).2.2.1 x c e rfl;by_cases hc:c∈X.fs
  ·obtain⟨sl,q⟩:=slot c o (I.cne x c e) hc nch ho (I.freeC x c e);exact⟨_,q,hd⟩
  ·exact⟨o,keep c o (I.cne x c e) hc nch ho (I.freeC x c e),hd⟩
 refine⟨I.ok,I.os,hg,⟨λb o e n hb hx=>?_,λb o e n hb hx=>?_,λb o e n hx=>?_,λb o e hx=>?_,λb xs e=>tups b xs (I.base.tups b xs e),λb o xs e=>frzs b o xs (I.base.frzs b o xs e),λb ps e=>?_⟩,?_,λx c e=>?_,?_,λx c e=>?_,λp hp=>?_,hok,I.len⟩
 ·exact keep b o (neL b o e) hb (neC b o e hx) (I.base.keep b o e n hb hx) (I.base.free b o e n hx)
 ·obtain⟨sl,e1⟩:=I.base.slot b o e n hb hx;obtain⟨sl',e2⟩:=slot b _ (neL b o e) hb (neC b o e hx) e1 (I.base.free b o e n hx);exact⟨sl',e2⟩
 ·obtain⟨o',e1⟩:=I.base.there b o e hx;exact free b o' (neC b o e hx) e1 (I.base.free b o e n hx)
 ·obtain⟨o',e1⟩:=I.base.there b o e hx;exact there b o' (neC b o e hx) e1
 ·obtain⟨m1,e1⟩:=I.base.tbls b ps e;obtain⟨m2,e2⟩:=tbls b _ e1;exact⟨m1++m2,by rw[e2,Array.append_assoc]⟩
 ·obtain⟨m,hn,hl⟩:=I.loc;refine⟨m,ns m hn,λi x v e1 e2 e3=>?_⟩;obtain⟨u,r,l⟩:=hl i x v e1 e2 e3;refine⟨u,r,?_⟩;rcases l with l|⟨k,c,e,z⟩
  ·exact .inl l
  ·exact .inr ⟨k,c,e,cellK x c e _ z⟩
 ·obtain⟨v,z⟩:=I.cell x c e;exact⟨v,cellK x c e v z⟩
 ·obtain⟨m,⟨o,_,_,ho,_⟩,_⟩:=I.loc;exact free _ o (λz=>(hch _ z).2.1 rfl) ho I.free
 ·obtain⟨v,o,ho,hd⟩:=I.cell x c e;exact free c o (λz=>(hch c z).2.2.1 x c e rfl) ho (I.freeC x c e)
 ·obtain⟨e,n,ne,nf,d⟩:=I.pin p hp;have nch:p.1∉ch:=λz=>(hch p.1 z).2.2.2 p hp rfl;exact⟨keep p.1 p.2 ne nf nch e n,free p.1 p.2 nch e n,ne,nf,d⟩
theorem ag.un(I:ag X acT U H s)(u:Un X.fs [] H H' s.heap h')(hok:bV X.prog X.w H' h'):ag X acT U H' {s with heap:=h',toks:=t'}:=by
 obtain⟨m,⟨o,es,ep,ho,r⟩,_⟩:=id I.loc;obtain⟨sl,hL⟩:=u.any ho I.free KJ;exact I.step (g':=s.gens) (d':=s.drawn) (ch:=[]) (λ_ z=>nomatch z) (λb o _ hb _ e n=>u.keep b o e n hb KJ) (λb o _ hb _ e n=>u.slot b o e n hb KJ) (λb o _ e n=>u.free b o e n KJ) (λb o _ e=>u.there b o e KJ) u.tups u.frzs u.tbls (λm' hm=>by
  obtain⟨o',es',ep',ho',r'⟩:=hm;rw[ho]at ho';cases ho';exact⟨_,es',ep',hL,r'⟩) hok I.bare
theorem ag.call(I:ag X acT U H s)(u:Un (h7 X.stack) ch H H' s.heap h')(hok:bV X.prog X.w H' h')(hg:OP g')
 (hch:∀b∈ch,(b∈X.ex\/X.s₀.heap.objs.size<=b)/\b≠X.env.locals/\(∀x c,X.env.cells.lookup x=some c->c≠b)/\∀p∈X.pn++acT,p.1≠b):
 ag X acT U H' {s with heap:=h',gens:=g',drawn:=d',toks:=t'}:=by
 obtain⟨m,⟨o,es,ep,ho,r⟩,_⟩:=id I.loc;obtain⟨sl,hL⟩:=u.any ho I.free λz=>(hch _ z).2.1 rfl;exact I.step (ch:=ch) hch (λb o hL hb hc e n=>u.keep b o e n (λz=>(Ud.mp (I.stkSub b z)).elim hL hb) hc) (λb o _ _ hc e n=>u.any e n hc) (λb o hc e n=>u.free b o e n hc) (λb o hc e=>u.there b o e hc) u.tups u.frzs u.tbls (λm' hm=>by
  obtain⟨o',es',ep',ho',r'⟩:=hm;rw[ho]at ho';cases ho';exact⟨_,es',ep',hL,r'⟩) hok hg
theorem ag.turned(I:ag X acT U H s)(k:∀b o,b≠it->s.heap.get? b=some o->h'.get? b=some o)(hn:H it=none)(hL:it≠X.env.locals)
 (h1:it∈X.ex\/X.s₀.heap.objs.size<=it)(h2:∀x c,X.env.cells.lookup x=some c->c≠it)(h3:∀p∈X.pn++acT,p.1≠it):ag X acT U H {s with heap:=h',toks:=t'}:=by
 have nit:∀b u,H b=some u->b≠it:=λb u e z=>by rw[z,hn]at e;cases e
 refine I.step (g':=s.gens) (d':=s.drawn) (ch:=[it]) (λb hb=>?_) (λb o _ _ hc e _=>k b o (λz=>hc (by simp[z])) e) (λb o _ _ hc e _=>⟨o.slots,k b o (λz=>hc (by simp[z])) e⟩) (λ_ _ _ _ n=>n)
  (λb o hc e=>⟨o,k b o (λz=>hc (by simp[z])) e⟩) (λ_ _ e=>e) (λ_ _ _ e=>e) (λb ps e=>⟨#[],by rw[e];simp⟩) (λm hm=>?_) (λb u e=>?_) I.bare
 ·have e:b=it:=by simpa using hb
  subst e;exact⟨h1,hL,h2,h3⟩
 ·obtain⟨o,es,ep,ho,r⟩:=hm;exact⟨o,es,ep,k _ o (Ne.symm hL) ho,r⟩
 ·refine(I.hok b u e).stay (λc v hc q=>k c v ?_ q) (λ_ q=>q) λ_ _ q=>q;rcases hc with z|z
  ·rw[z];exact nit b u e
  ·exact nit c _ z
theorem ag.tok(I:ag X acT U H s)(t:Nat):ag X acT U H {s with toks:=t}:=I.un (h':=s.heap) (t':=t) Un.refl I.hok
theorem ag.kept(I:ag X acT U H s)(k:∀b u,s.heap.get? b=some u->h'.get? b=some u):ag X acT U H {s with heap:=h',toks:=t'}:=I.un (Un.kept k) (I.hok.kept k)
theorem ag.laid{a:J7}{t':Nat}(I:ag X acT U H s)(k:∀b u,s.heap.get? b=some u->h'.get? b=some u)(hp:s.heap.objs.size<=a)(new:cz X.prog X.w (ah H a o) h' a o):
 ag X acT U (ah H a o) {s with heap:=h',toks:=t'}:=I.un (Un.laid k hp (I.hok.fresh hp)) (I.hok.laid k hp new)
theorem ag.write(I:ag X acT U H s)(mu:q5 (H x))(he:e=x\/H e=some (.own x))(k:∀b u,b≠e->s.heap.get? b=some u->h'.get? b=some u)(heo:∃u,h'.get? e=some u)
 (new:cz X.prog X.w (ah H x o) h' x o):ag X acT U (ah H x o) {s with heap:=h',toks:=t'}:=I.un (Un.write mu he k heo) (I.hok.write mu he k heo new)
theorem ag.weak{U':List (Option V)}(I:ag X acT U H s)(hl:U'.length=U.length)(w:∀(i:Nat) v,U'[i]?=some (some v)->U[i]?=some (some v)):ag X acT U' H s:=
 ⟨I.ok,I.os,I.bare,I.base,let ⟨m,hn,hl'⟩:=I.loc;⟨m,hn,λi x v e1 e2 e3=>hl' i x v e1 (w i v e2) e3⟩,I.cell,I.free,I.freeC,I.pin,I.hok,hl.trans I.len⟩
theorem ag.pins_of(I:ag X acT U H s)(h:∀p∈pins',s.heap.get? p.1=some p.2/\H p.1=none/\p.1≠X.env.locals/\p.1∉X.fs/\∀v,p.2.data≠ .cell v):ag X pins' U H s:=
 ⟨I.ok,I.os,I.bare,I.base,I.loc,I.cell,I.free,I.freeC,λp hp=>(Um.mp hp).elim (λz=>I.pin p (WN _ z)) (h p),I.hok,I.len⟩
theorem B0{N:List Str}(hN:N.Nodup){i j:Nat}{x:Str}(a:N[i]?=some x)(b:N[j]?=some x):i=j:=by
 obtain⟨h1,e1⟩:=Uj.mp a;obtain⟨h2,e2⟩:=Uj.mp b;exact(Ys hN).mp (e1.trans e2.symm)
theorem B3{Q:Unit->K9->Prop}(I:ag X acT U H s)(hN:X.N.Nodup)(hi:X.N[i]?=some x)(hx:iD X.env.scope x)(r:aN v u)
 (h:∀s',ag X acT (U.set i (some v)) H s'->(∃a,Wz a s.heap s'.heap/\(a=X.env.locals\/X.env.cells.lookup x=some a))->Q () s')(hf:X.fn x=true\/X.env.scope.names.lookup x=some .local:=by first|exact .inl rfl|exact .inr rfl|assumption):KS M A (storeName X.env x u) Q E s:=by
 obtain⟨m,hn,hl⟩:=id I.loc;have hcls:(X.env.scope.kind== .class || (X.env.scope.kind== .module && X.env.locals !=X.env.globals))=false:=by rw[I.ok.kind];rfl
 have hiσ:i < U.length:=by rw[I.len];exact(Uj.mp hi).1
 have cne:=I.cne;have tracked:∀{a:J7}{h':LO},(∃o,s.heap.get? a=some o/\H a=none)->Wz a s.heap h'->bV X.prog X.w H h':=λ{a h'} ha hs b ob e=>by
  obtain⟨_,_,hfree⟩:=ha;refine(I.hok b ob e).stay (λc w' hc q=>(hs.2 c ?_).trans q) (λ_ q=>q) λ_ _ q=>q;rintro rfl;rcases hc with rfl|hc
  ·rw[hfree]at e;cases e
  ·rw[hfree]at hc;cases hc
 rcases hx with hk|hk
 ·refine wpAny_storeName_local hk hn (λh' hn' hs=>?_) hcls;obtain⟨oL,_,_,hoL,_⟩:=id hn;refine h _ ⟨I.ok,I.os,I.bare,⟨λb o e n hb hx=>?_,λb o e n hb hx=>?_,I.base.free,λb o e hx=>?_,I.base.tups,I.base.frzs,I.base.tbls⟩,⟨_,hn',λj y v' e1 e2 e3=>?_⟩,λy c e=>?_,I.free,I.freeC,λp hp=>?_,tracked ⟨oL,hoL,I.free⟩ hs,by simpa using I.len⟩ ⟨_,hs,.inl rfl⟩
  ·exact(hs.2 b (UQ (Vh (Ut e) I.ok.above))).trans (I.base.keep b o e n hb hx)
  ·obtain⟨sl,e1⟩:=I.base.slot b o e n hb hx;exact⟨sl,(hs.2 b (UQ (Vh (Ut e) I.ok.above))).trans e1⟩
  ·obtain⟨o',e1⟩:=I.base.there b o e hx;exact⟨o',(hs.2 b (UQ (Vh (Ut e) I.ok.above))).trans e1⟩
  ·by_cases hj:j=i
   ·subst hj;rw[hi]at e1;cases e1;rw[UK hiσ]at e2;cases e2;exact⟨u,r,.inl ⟨hk,KJ⟩⟩
   ·rw[Us (Ne.symm hj)]at e2;obtain⟨u',r',q⟩:=hl j y v' e1 e2 e3;refine⟨u',r',?_⟩;rcases q with⟨k,e⟩|⟨k,c,e,z⟩
    ·refine .inl ⟨k,?_⟩;have:y≠x:=λe=>hj (B0 hN e1 (e▸hi));simp[this,e]
    ·exact .inr ⟨k,c,e,z.sameBut hs (cne y c e)⟩
  ·obtain⟨w',z⟩:=I.cell y c e;exact⟨w',z.sameBut hs (cne y c e)⟩
  ·obtain⟨e,n,ne,nf,d⟩:=I.pin p hp;exact⟨(hs.2 p.1 ne).trans e,n,ne,nf,d⟩
 ·have hfn:X.fn x=true:=by
   rcases hf with z|z
   ·exact z
   ·rw[z]at hk;cases hk
  obtain⟨c,hc⟩:=I.ok.has x (.inl hk);obtain⟨w',z⟩:=I.cell x c hc;refine wpAny_storeName_cell I.ok.kind hk hc z (λh' hc' hs=>?_);obtain⟨oc,hoc,hocd⟩:=id z;refine h {s with heap:=h'} ⟨I.ok,I.os,I.bare,⟨λb o e n hb hx=>?_,λb o e n hb hx=>?_,I.base.free,λb o e hx=>?_,I.base.tups,I.base.frzs,I.base.tbls⟩,⟨m,hn.sameBut hs (Ne.symm (cne x c hc)),λj y v' e1 e2 e3=>?_⟩,λy c' e=>?_,I.free,I.freeC,λp hp=>?_,tracked ⟨oc,hoc,I.freeC x c hc⟩ hs,by simpa using I.len⟩ ⟨c,hs,.inr hc⟩
  ·exact(hs.2 b (UQ (Vh (Ut e) (I.ok.cab x c hfn hc)))).trans (I.base.keep b o e n hb hx)
  ·obtain⟨sl,e1⟩:=I.base.slot b o e n hb hx;exact⟨sl,(hs.2 b (UQ (Vh (Ut e) (I.ok.cab x c hfn hc)))).trans e1⟩
  ·obtain⟨o',e1⟩:=I.base.there b o e hx;exact⟨o',(hs.2 b (UQ (Vh (Ut e) (I.ok.cab x c hfn hc)))).trans e1⟩
  ·by_cases hj:j=i
   ·subst hj;rw[hi]at e1;cases e1;rw[UK hiσ]at e2;cases e2;exact⟨u,r,.inr ⟨.inl hk,c,hc,hc'⟩⟩
   ·rw[Us (Ne.symm hj)]at e2;obtain⟨u',r',q⟩:=hl j y v' e1 e2 e3;refine⟨u',r',?_⟩;rcases q with q|⟨k,c',e,z'⟩
    ·exact .inl q
    ·refine .inr ⟨k,c',e,z'.sameBut hs ?_⟩;rintro rfl;exact hj (B0 hN e1 (I.ok.inj _ _ _ e hc▸hi))
  ·by_cases hcc:c'=c
   ·subst hcc;exact⟨_,hc'⟩
   ·obtain⟨w2,z2⟩:=I.cell y c' e;exact⟨w2,z2.sameBut hs hcc⟩
  ·obtain⟨e,n,ne,nf,d⟩:=I.pin p hp;refine⟨(hs.2 p.1 ?_).trans e,n,ne,nf,d⟩;intro q;rw[q,hoc]at e;have q':oc=p.2:=Ve e;exact d w' (by rw[<-q'];exact hocd)
theorem B4{Q:Unit->K9->Prop}(I:ag X acT U H s)(hN:X.N.Nodup)(hi:X.N[i]?=some x)(hx:iD X.env.scope x)(r:aN v u)
 (h:∀s',ag X acT (U.set i (some v)) H s'->Q () s')(hf:X.fn x=true\/X.env.scope.names.lookup x=some .local:=by first|exact .inl rfl|exact .inr rfl|assumption):KS M A (storeName X.env x u) Q E s:=
 B3 I hN hi hx r (λs' I' _=>h s' I') hf
theorem ag.call'{s':K9}(I:ag X acT U H s)(ho:s'.os=s.os)(u:Un (h7 X.stack) ch H H' s.heap s'.heap)(hok:bV X.prog X.w H' s'.heap)(hg:OP s'.gens)
 (hch:∀b∈ch,(b∈X.ex\/X.s₀.heap.objs.size<=b)/\b≠X.env.locals/\(∀x c,X.env.cells.lookup x=some c->c≠b)/\∀p∈X.pn++acT,p.1≠b):ag X acT U H' s':=by
 obtain⟨h',g',d',t',o'⟩:=s';have e:o'=s.os:=ho;subst e;exact I.call (g':=g') (t':=t') (d':=d') u hok hg hch
end
abbrev XK:=JK->Option J7->Hp->Prop
abbrev St:=List (Option V)
abbrev VK:=V->Hp->Prop
abbrev TE:=St->Hp->VK->Prop
abbrev TT:=St->Hp->(Bool->Hp->Prop)->Prop
abbrev TA:=St->Hp->(List V->Hp->Prop)->Prop
structure i9 where
 nx:St->Hp->Prop
 rt:VK
 bk:St->Hp->Prop:=λ_ _=>False
 ct:St->Hp->Prop:=λ_ _=>False
abbrev TS:=i9->St->Hp->Prop
inductive EP(X:Cx)(acT:List (J7×Obj))(U:St)(Q:VK)(u:JK)(s':K9):Prop
 |mk (v:V) (H':Hp):ag X acT U H' s'->aN v u->Q v H'->EP X acT U Q u s'
inductive TP(X:Cx)(acT:List (J7×Obj))(U:St)(Q:Bool->Hp->Prop)(b:Bool)(s':K9):Prop
 |mk (H':Hp):ag X acT U H' s'->Q b H'->TP X acT U Q b s'
inductive AP(X:Cx)(acT:List (J7×Obj))(U:St)(Q:List V->Hp->Prop)(us:List JK)(s':K9):Prop
 |mk (vs:List V) (H':Hp):ag X acT U H' s'->aL vs us->Q vs H'->AP X acT U Q us s'
def SP(X:Cx)(acT:List (J7×Obj))(D:i9)(f:Flow)(s':K9):Prop:=
 match f with
 | .next=>∃U' H',ag X acT U' H' s'/\D.nx U' H'
 | .brk=>∃U' H',ag X acT U' H' s'/\D.bk U' H'
 | .cont=>∃U' H',ag X acT U' H' s'/\D.ct U' H'
 | .ret u=>∃v U' H',ag X acT U' H' s'/\aN v u/\D.rt v H'
def PE(X:Cx)(e:L8)(t:TE):Prop:=
 ∀(acT:List (J7×Obj))(s:K9)(U:St)(H:Hp)(Q:VK),ag X acT U H s->t U H Q->KS (Kc X.prog X.w) X.A (eval e X.env) (EP X acT U Q) X.xe s
def PT(X:Cx)(e:L8)(t:TT):Prop:=
 ∀(acT:List (J7×Obj))(s:K9)(U:St)(H:Hp)(Q:Bool->Hp->Prop),ag X acT U H s->t U H Q->KS (Kc X.prog X.w) X.A (isTrue e X.env (eval e X.env)) (TP X acT U Q) X.xe s
def PW(X:Cx)(e:L8)(t:TT):Prop:=
 ∀(whole:Sem JK)(acT:List (J7×Obj))(s:K9)(U:St)(H:Hp)(Q:Bool->Hp->Prop),ag X acT U H s->t U H Q->KS (Kc X.prog X.w) X.A (isTrue e X.env whole) (TP X acT U Q) X.xe s
theorem PW.pt(h:PW X e t):PT X e t:=h _
def PA(X:Cx)(es:List L8)(t:TA):Prop:=
 ∀(pos:Pos)(acT:List (J7×Obj))(s:K9)(U:St)(H:Hp)(Q:List V->Hp->Prop),ag X acT U H s->t U H Q->KS (Kc X.prog X.w) X.A (spliced (LR pos (Ke es X.env))) (AP X acT U Q) X.xe s
def PS(X:Cx)(st:Kk)(t:TS):Prop:=
 ∀(acT:List (J7×Obj))(s:K9)(U:St)(H:Hp)(D:i9),ag X acT U H s->t D U H->KS (Kc X.prog X.w) X.A (exec st X.env) (SP X acT D) X.xe s
def b0(X:Cx)(st:List Kk)(t:TS):Prop:=
 ∀(acT:List (J7×Obj))(s:K9)(U:St)(H:Hp)(D:i9),ag X acT U H s->t D U H->KS (Kc X.prog X.w) X.A (execs st X.env) (SP X acT D) X.xe s
theorem aE{α:Type}{t:Sem α}{Q Q':α->K9->Prop}{M:Model}{A:Lu}{E:JK->K9->Prop}{s:K9}(h:KS M A t Q E s)(hQ:∀a s,Q a s->Q' a s):KS M A t Q' E s:=MB h hQ λ_ _ x=>x
section
variable{X:Cx}
theorem KOf{a b:L8}{ta tb:TE}(ha:PE X a ta)(hb:PE X b tb){acT:List (J7×Obj)}{s:K9}{U:St}{H:Hp}{R:V->V->Hp->Prop}(I:ag X acT U H s)(h:ta U H λx H1=>tb U H1 λy H2=>R x y H2)
 {α:Type}{Q:α->K9->Prop}{f:JK->JK->Sem α}
 (hf:∀v u s2 x y H2,ag X acT U H2 s2->aN x v->aN y u->R x y H2->KS (Kc X.prog X.w) X.A (f v u) Q X.xe s2):
 KS (Kc X.prog X.w) X.A (eval a X.env) (λv s₁=>KS (Kc X.prog X.w) X.A (eval b X.env) (λu s₂=>KS (Kc X.prog X.w) X.A (f v u) Q X.xe s₂) X.xe s₁) X.xe s:=by
 refine aE (ha acT s U H _ I h) λv s1 ⟨x,H1,I1,r1,q1⟩=>?_;refine aE (hb acT s1 U H1 _ I1 q1) λu s2 ⟨y,H2,I2,r2,q2⟩=>?_;exact hf v u s2 x y H2 I2 r1 r2 q2
def dR(i:Nat):TE:=λU H Q=>∃v,U[i]?=some (some v)/\Q v H
def tC(v:V):TE:=λ_ H Q=>Q v H
theorem v7{i:Nat}{x:Str}{pos:Pos}(hN:X.N[i]?=some x)(hv:rg X.env.scope x)(hd:(x==("__debug__":Str))=false:=by decide)(hcd:(x==("__classdict__":Str))=false:=by decide):PE X (.Name x pos) (dR i):=by
 intro acT s U H Q I h;obtain⟨v,e,h⟩:=h;obtain⟨m,hn,hl⟩:=I.loc;obtain⟨u,r,l⟩:=hl i x v hN e hv;have fin:EP X acT U Q u s:=⟨v,H,I,r,h⟩;rcases l with⟨hk,hm⟩|⟨hk,c,hc,hcell⟩
 ·exact wpAny_Name (wpAny_loadName_local I.ok.kind hk hn hm fin) hd
 ·rcases hk with hk|hk
  ·exact wpAny_Name (wpAny_loadName_cell I.ok.kind hk hc hcell fin) hd
  ·exact wpAny_Name (wpAny_loadName_free I.ok.kind hk hc hcell fin hcd) hd
theorem bT:PE X (.Constant (.int i) j pos) (tC (.int i)):=λ_ _ _ H _ I h=>wpAny_Constant_int ⟨.int i,H,I.tok _,⟨_,rfl⟩,h⟩
theorem B5:PE X (.Constant (.bool b) j pos) (tC (.bl b)):=λ_ _ _ H _ I h=>Constant_bool ⟨.bl b,H,I,rfl,h⟩
theorem B6:PE X (.Constant .none j pos) (tC .non):=λ_ _ _ H _ I h=>Constant_none ⟨.non,H,I,rfl,h⟩
theorem v8:PE X (.Constant (.str x) j pos) (tC (.str x)):=λ_ _ _ H _ I h=>Calls.Constant_str ⟨.str x,H,I.tok _,⟨_,rfl⟩,h⟩
def Gl(X:Cx)(x:Str):Prop:=X.env.kindOf x=some .globalImplicit
theorem ri{E:JK->K9->Prop}{acT:List (J7×Obj)}{s:K9}{U:St}{x:Str}{u:JK}{Q:JK->K9->Prop}(I:ag X acT U H s)(hg:Gl X x)(hm:X.mg x=some u)(h:Q u s)
 (hd:(x==("__debug__":Str))=false:=by decide):KS (Kc X.prog X.w) X.A (eval (.Name x pos) X.env) Q E s:=
 YU I.ok.kind hg (Calls.loadGlobal_global (by rw[I.ok.glob];exact I.mod.glob.keeps I.bk) hm h) hd
theorem j4{E:JK->K9->Prop}{acT:List (J7×Obj)}{s:K9}{U:St}{H:Hp}{x:Str}{u:JK}{pos:Pos}{Q:JK->K9->Prop}(I:ag X acT U H s)(hg:Gl X x)(hm:X.mg x=none)(hv:M9 x=some u)(h:Q u s)
 (hn:x≠"__name__":=by decide)(hd:(x==("__debug__":Str))=false:=by decide):KS (Kc X.prog X.w) X.A (eval (.Name x pos) X.env) Q E s:=by
 obtain⟨mb,h1,h2⟩:=I.mod.blt;exact YU I.ok.kind hg (Calls.loadGlobal_builtin (by rw[I.ok.glob];exact I.mod.glob.keeps I.bk) hm (by rw[I.ok.blt];exact h1.keeps I.bk) ((h2 x hn).trans hv) h) hd
theorem pY(hg:Gl X x)(hm:X.mg x=some u)(r:aN v u)(hd:(x==("__debug__":Str))=false:=by decide):PE X (.Name x pos) (tC v):=
 λ_ _ _ H _ I h=>ri I hg hm ⟨v,H,I,r,h⟩ hd
theorem kR{x:Str}{v:V}{u:JK}{pos:Pos}(hg:Gl X x)(hm:X.mg x=none)(hv:M9 x=some u)(r:aN v u)(hn:x≠"__name__":=by decide)(hd:(x==("__debug__":Str))=false:=by decide):PE X (.Name x pos) (tC v):=
 λ_ _ _ H _ I h=>j4 I hg hm hv ⟨v,H,I,r,h⟩ hn hd
variable{a b:L8}{ta tb:TE}{pos:Pos}
def PC(X:Cx)(op:CmpOp)(a b:L8)(t:TE):Prop:=
 ∀(acT:List (J7×Obj))(s:K9)(U:St)(H:Hp)(Q:VK),ag X acT U H s->t U H Q->
  KS (Kc X.prog X.w) X.A (eval a X.env) (λv s₁=>KS (Kc X.prog X.w) X.A (eval b X.env) (λu s₂=>KS (Kc X.prog X.w) X.A (M6 op v u) (EP X acT U Q) X.xe s₂) X.xe s₁) X.xe s
theorem JX(b:L8)(h:op≠ .In)(h2:op≠ .NotIn):NC op b=false:=by
 have e1:(op==CmpOp.In)=false:=by cases op<;>first|rfl|exact absurd rfl h
 have e2:(op==TC)=false:=by cases op<;>first|rfl|exact absurd rfl h2
 cases b<;>simp[NC,e1,e2]
def B7(ta:TE):TE:=λU H Q=>ta U H λx H1=>Q (.bl (!decide (x= .non))) H1
theorem aN.none_iff(r:aN x v):(v==Vy)=decide (x= .non):=by
 cases x with
 |non=>cases r;rfl
 |bl _=>cases r;rfl
 |int _=>obtain⟨t,rfl⟩:=r;rfl
 |str _=>obtain⟨t,rfl⟩:=r;rfl
 |byt _=>obtain⟨t,rfl⟩:=r;rfl
 |flt _=>obtain⟨t,rfl⟩:=r;rfl
 |ref _=>cases r;rfl
 |ty _=>cases r;rfl
theorem aa5(ha:PE X a ta):PC X .IsNot a (.Constant .none j pos') (B7 ta):=by
 intro acT s U H Q I h;refine aE (ha acT s U H _ I h) λv s1 ⟨x,H1,I1,r1,q1⟩=>?_;exact Constant_none (isnot_none_gen ⟨.bl _,H1,I1,by rw[r1.none_iff];rfl,q1⟩)
def tB(t:TE):TT:=λU H Q=>t U H λx H1=>∃c,x= .bl c/\Q c H1
theorem ti(h:PC X op a b t)(h1:NC op b=false:=by first|exact JX _ KL KL|rfl):PT X (.Compare a [op] [b] pos) (tB t):=by
 intro acT s U H Q I hw;refine wpAny_isTrue_Compare1 (aE (h acT s U H _ I hw) λv s1 h1=>aE h1 λu s2 h2=>aE h2 λc s3 ⟨x,H1,I1,r1,q1⟩=>?_) h1;obtain⟨d,rfl,q⟩:=q1;cases r1;exact Nr ⟨H1,I1,q⟩
theorem B8(h:PE X e t)(he:∀whole,isTrue e X.env whole=(do let v<-whole;O6 e.pos;NO [v] (truthy v)):=by intro _;rfl):PT X e (tB t):=by
 intro acT s U H Q I hw;refine isTrue_plain (aE (h acT s U H _ I hw) λv s1 ⟨x,H1,I1,r1,q1⟩=>?_) (he _);obtain⟨d,rfl,q⟩:=q1;cases r1;exact Nr ⟨H1,I1,q⟩
variable{tA tB':TT}{rest:List L8}
def B9(t u:TT):TT:=λU H Q=>t U H λc H1=>if c=true then u U H1 Q else Q false H1
def Ca(t u:TT):TT:=λU H Q=>t U H λc H1=>if c=true then Q true H1 else u U H1 Q
def Cb(t:TT):TT:=λU H Q=>t U H λc H1=>Q (!c) H1
theorem Cc(ha:PT X a tA):PW X (.BoolOp .And [a] pos) tA:=by
 intro wh acT s U H Q I h;refine isTrue_and (aE (ha acT s U H Q I h) λc s1 e=>?_);cases c with
 |true=>exact isTrue_and_nil e
 |false=>exact e
theorem JZ(ha:PT X a tA):PW X (.BoolOp .Or [a] pos) tA:=by
 intro wh acT s U H Q I h;refine isTrue_or (aE (ha acT s U H Q I h) λc s1 e=>?_);cases c with
 |false=>exact isTrue_or_nil e
 |true=>exact e
theorem Cd(ha:PT X a tA)(hb:PW X (.BoolOp .And (b::rest) pos) tB'):PW X (.BoolOp .And (a::b::rest) pos) (B9 tA tB'):=by
 intro wh acT s U H Q I h;refine isTrue_and (aE (ha acT s U H _ I h) λc s1 ⟨H1,I1,q1⟩=>?_);cases c with
 |true=>exact hb wh acT s1 U H1 Q I1 q1
 |false=>exact⟨H1,I1,q1⟩
theorem J0(ha:PT X a tA)(hb:PW X (.BoolOp .Or (b::rest) pos) tB'):PW X (.BoolOp .Or (a::b::rest) pos) (Ca tA tB'):=by
 intro wh acT s U H Q I h;refine isTrue_or (aE (ha acT s U H _ I h) λc s1 ⟨H1,I1,q1⟩=>?_);cases c with
 |true=>exact⟨H1,I1,q1⟩
 |false=>exact hb wh acT s1 U H1 Q I1 q1
theorem aaZ(ha:PT X a tA):PT X (.UnaryOp .Not a pos) (Cb tA):=by
 intro acT s U H Q I h;exact isTrue_not (aE (ha acT s U H (λc H1=>Q (!c) H1) I h) λc s1 uu=>by obtain⟨H1,I1,q⟩:=uu;exact⟨H1,I1,q⟩)
def Ce(ta tb:TE):TE:=λU H Q=>ta U H λx H1=>∃c,x= .bl c/\if c=true then tb U H1 Q else Q (.bl false) H1
def Cf(ta tb:TE):TE:=λU H Q=>ta U H λx H1=>∃c,x= .bl c/\if c=true then Q (.bl true) H1 else tb U H1 Q
def Cg(ta:TE):TE:=λU H Q=>ta U H λx H1=>∃c,x= .bl c/\Q (.bl (!c)) H1
theorem v9(h:PE X a t):PE X (.BoolOp op [a] pos) t:=λacT s U H Q I hw=>BoolOp_one (h acT s U H Q I hw)
theorem Ci(ha:PE X a ta)(hb:PE X (.BoolOp .And (b::rest) pos) tb):PE X (.BoolOp .And (a::b::rest) pos) (Ce ta tb):=by
 intro acT s U H Q I h;refine BoolOp_and (aE (ha acT s U H _ I h) λv s1 ⟨x,H1,I1,r1,q1⟩=>?_);obtain⟨c,rfl,q1⟩:=q1;cases r1;refine Nr ?_;cases c with
 |true=>exact hb acT s1 U H1 Q I1 q1
 |false=>exact⟨.bl false,H1,I1,rfl,q1⟩
theorem Cj(ha:PE X a ta)(hb:PE X (.BoolOp .Or (b::rest) pos) tb):PE X (.BoolOp .Or (a::b::rest) pos) (Cf ta tb):=by
 intro acT s U H Q I h;refine BoolOp_or (aE (ha acT s U H _ I h) λv s1 ⟨x,H1,I1,r1,q1⟩=>?_);obtain⟨c,rfl,q1⟩:=q1;cases r1;refine Nr ?_;cases c with
 |false=>exact hb acT s1 U H1 Q I1 q1
 |true=>exact⟨.bl true,H1,I1,rfl,q1⟩
theorem J3(ha:PE X a ta):PE X (.UnaryOp .Not a pos) (Cg ta):=by
 intro acT s U H Q I h;refine UnaryOp_ (aE (ha acT s U H _ I h) λv s1 ⟨x,H1,I1,r1,q1⟩=>?_);obtain⟨c,rfl,q1⟩:=q1;cases r1;exact not_of (Nr ⟨.bl (!c),H1,I1,rfl,q1⟩)
def Ck(t:TT)(ta tb:TE):TE:=λU H Q=>t U H λc H1=>if c=true then ta U H1 Q else tb U H1 Q
theorem Cm(hc:PT X c tA)(ha:PE X a ta)(hb:PE X b tb):PE X (.IfExp c a b pos) (Ck tA ta tb):=by
 intro acT s U H Q I h;refine wpAny_IfExp (aE (hc acT s U H _ I h) λd s1 ⟨H1,I1,q1⟩=>?_);cases d with
 |true=>exact ha acT s1 U H1 Q I1 q1
 |false=>exact hb acT s1 U H1 Q I1 q1
end
def bA(Z:T5)(H:Hp)(a:J7)(xs:List V):Prop:=
 Rd H a (.lst xs)\/
  ∃(o:Obj)(its:Array JK)(n:Nat),Z.lookup a=some o/\o.cls= .type "list"/\o.dict=none/\o.data= .seq its n/\its.size<=LB/\aL xs its.toList
def br(Z:T5)(H:Hp)(a:J7)(xs:List V):Prop:=
 Rd H a (.tup xs)\/
  ∃(o:Obj)(its:Array JK)(n:Nat),Z.lookup a=some o/\o.cls= .type "tuple"/\o.data= .seq its n/\its.size<=LB/\aL xs its.toList
def aa4:JK->Option V
 | .none=>some .non
 | .bool b=>some (.bl b)
 | .int i _=>some (.int i)
 | .str x _=>some (.str x)
 | .bytes b _=>some (.byt b)
 | .float b _=>some (.flt b)
 | .ref a=>some (.ref a)
 | .type n=>some (.ty n)
 |_=>none
theorem aN.abs(r:aN x u):aa4 u=some x:=by
 cases x with
 |non=>cases r;rfl
 |bl _=>cases r;rfl
 |int _=>obtain⟨t,rfl⟩:=r;rfl
 |str _=>obtain⟨t,rfl⟩:=r;rfl
 |byt _=>obtain⟨t,rfl⟩:=r;rfl
 |flt _=>obtain⟨t,rfl⟩:=r;rfl
 |ref _=>cases r;rfl
 |ty _=>cases r;rfl
theorem aN.inj(r:aN x u)(q:aN y u):x=y:=Ve (r.abs.symm.trans q.abs)
theorem aL.inj:∀{xs ys:List V}{us:List JK},aL xs us->aL ys us->xs=ys
 |_,_,_,.nil,.nil=>rfl
 |_,_,_,.cons r t,.cons r' t'=>by rw[r.inj r',aL.inj t t']
section
variable{X:Cx}{acT:List (J7×Obj)}{U:St}{H:Hp}{s:K9}{a:J7}{xs ys:List V}
theorem bA.of(h:H a=some (.lst xs)):bA Z H a xs:= .inl (.inl h)
theorem br.of(h:H a=some (.tup xs)):br Z H a xs:= .inl (.inl h)
theorem ag.list(I:ag X acT U H s)(h:bA X.K H a xs):∃its:List JK,aL xs its/\PlainL s.heap a its.toArray/\xs.length<=LB:=by
 rcases h with h|⟨o,its,n,hk,hc,hd,hs,hz,r⟩
 ·obtain⟨z,its,n,r,e⟩:=h.ok I.hok;exact⟨its,r,⟨_,n,e,rfl,rfl,rfl⟩,z⟩
 ·refine⟨its.toList,r,⟨o,n,I.kIn a o hk,hc,hd,by simpa using hs⟩,?_⟩;have e:=r.length;simp only[UH]at e;omega
theorem ag.tuple(I:ag X acT U H s)(h:br X.K H a xs):∃its:List JK,aL xs its/\IsTup s.heap a its.toArray/\xs.length<=LB:=by
 rcases h with h|⟨o,its,n,hk,hc,hs,hz,r⟩
 ·obtain⟨z,its,r,p⟩:=h.ok I.hok;exact⟨its,r,p,z⟩
 ·refine⟨its.toList,r,⟨o,I.kIn a o hk,hc,n,by simpa using hs⟩,?_⟩;have e:=r.length;simp only[UH]at e;omega
theorem ag.list_inj(I:ag X acT U H s)(h:bA X.K H a xs)(h':bA X.K H a ys):xs=ys:=by
 obtain⟨its,r,⟨o,n,e,_,_,d⟩,_⟩:=I.list h;obtain⟨its',r',⟨o',n',e',_,_,d'⟩,_⟩:=I.list h';rw[e]at e';cases e';rw[d]at d';injection d' with d1 _
 have:its=its':=by simpa using congrArg pe d1
 subst this;exact r.inj r'
theorem ag.tuple_inj(I:ag X acT U H s)(h:br X.K H a xs)(h':br X.K H a ys):xs=ys:=by
 obtain⟨its,r,⟨o,e,_,n,d⟩,_⟩:=I.tuple h;obtain⟨its',r',⟨o',e',_,n',d'⟩,_⟩:=I.tuple h';rw[e]at e';cases e';rw[d]at d';injection d' with d1 _
 have:its=its':=by simpa using congrArg pe d1
 subst this;exact r.inj r'
end
abbrev Cx.wish(X:Cx)(E:JK->K9->Prop):Cx:={X with xe:=E}
abbrev Cx.nox(X:Cx):Cx:=X.wish λ_ _=>False
theorem Cx.Ok.wish{X:Cx}(ok:X.Ok)(E:JK->K9->Prop):(X.wish E).Ok:=
 ⟨ok.mod,ok.kind,ok.glob,ok.blt,ok.above,ok.inj,ok.has,ok.cab,ok.hd,ok.frames,ok.stk,ok.exf,ok.bs,ok.bsz,ok.noex,ok.exfs,ok.funs,ok.frf⟩
theorem Cx.Ok.unwish{X:Cx}(ok:(X.wish E).Ok):X.Ok:=
 ⟨ok.mod,ok.kind,ok.glob,ok.blt,ok.above,ok.inj,ok.has,ok.cab,ok.hd,ok.frames,ok.stk,ok.exf,ok.bs,ok.bsz,ok.noex,ok.exfs,ok.funs,ok.frf⟩
section
variable{X:Cx}{acT:List (J7×Obj)}{U:St}{H:Hp}{s:K9}{E:JK->K9->Prop}
theorem ag.wish(I:ag X acT U H s)(E:JK->K9->Prop):ag (X.wish E) acT U H s:=⟨I.ok.wish E,I.os,I.bare,I.base,I.loc,I.cell,I.free,I.freeC,I.pin,I.hok,I.len⟩
theorem ag.unwish(I:ag (X.wish E) acT U H s):ag X acT U H s:=⟨I.ok.unwish,I.os,I.bare,I.base,I.loc,I.cell,I.free,I.freeC,I.pin,I.hok,I.len⟩
theorem SP.unwish(h:SP (X.wish E) acT D f s'):SP X acT D f s':=by
 cases f with
 |next=>obtain⟨U',H',I,q⟩:=h;exact⟨U',H',I.unwish,q⟩
 |brk=>obtain⟨U',H',I,q⟩:=h;exact⟨U',H',I.unwish,q⟩
 |cont=>obtain⟨U',H',I,q⟩:=h;exact⟨U',H',I.unwish,q⟩
 |ret u=>obtain⟨v,U',H',I,r,q⟩:=h;exact⟨v,U',H',I.unwish,r,q⟩
theorem b0.nox{st:List Kk}{t:TS}(h:b0 X.nox st t):b0 X st t:=λacT s U H D I hw=>
 MB (h acT s U H D (I.wish _) hw) (λ_ _ q=>q.unwish) λ_ _ z=>V8 z
end
section
variable{X:Cx}{st:Kk}{rest:List Kk}{t u:TS}{e:L8}{te:TE}{pos:Pos}
def Cn:TS:=λD U H=>D.nx U H
def wa(t u:TS):TS:=λD U H=>t {D with nx:=u D} U H
theorem pZ:b0 X [] Cn:=λ_ _ U H _ I h=>Qs ⟨U,H,I,h⟩
theorem dS(h1:PS X st t)(h2:b0 X rest u):b0 X (st::rest) (wa t u):=by
 intro acT s U H D I h;refine wpAny_execs_cons (aE (h1 acT s U H {D with nx:=u D} I h) λf s1 q=>?_);cases f with
 |next=>
  obtain⟨U',H',I',q⟩:=q;exact h2 acT s1 U' H' D I' q
 |ret v=>exact q
 |brk=>exact q
 |cont=>exact q
theorem fN(h1:PS X st t):b0 X [st] t:=by
 intro acT s U H D I h;refine wpAny_execs_cons (aE (h1 acT s U H D I h) λf s1 q=>?_);cases f with
 |next=>exact Qs q
 |ret v=>exact q
 |brk=>exact q
 |cont=>exact q
theorem ag.quiet{acT:List (J7×Obj)}{U:St}{s:K9}(I:ag X acT U H s):interactive X.env=false:=by simp[interactive,I.ok.kind]
def Co(te:TE):TS:=λD U H=>te U H λ_ H1=>D.nx U H1
theorem tj(he:PE X e te)(hs:M3 e none pos.line X.env=pure false:=by rfl):PS X (.Expr e pos) (Co te):=by
 intro acT s U H D I h;exact wpAny_Expr_any (aE (he acT s U H _ I h) λv s1 uu=>by obtain⟨x,H1,I1,r1,q1⟩:=uu;exact⟨U,H1,I1,q1⟩) I.quiet hs
def Cp(te:TE):TS:=λD U H=>te U H D.rt
theorem gL(he:PE X e te):PS X (.Return (some e) pos) (Cp te):=by
 intro acT s U H D I h;exact wpAny_Return_some (aE (he acT s U H _ I h) λv s1 uu=>by obtain⟨x,H1,I1,r1,q1⟩:=uu;exact⟨x,U,H1,I1,r1,q1⟩)
def Cq(c:TT)(t u:TS):TS:=λD U H=>c U H λb H1=>if b=true then t D U H1 else u D U H1
theorem p5(hc:PT X c tc)(ha:b0 X a t)(hb:b0 X b u):PS X (.If c a b pos) (Cq tc t u):=by
 intro acT s U H D I h;refine wpAny_If (aE (hc acT s U H _ I h) λd s1 ⟨H1,I1,q1⟩=>?_);cases d with
 |true=>exact ha acT s1 U H1 D I1 q1
 |false=>exact hb acT s1 U H1 D I1 q1
def J5:TS:=λ_ _ _=>False
theorem J6:PS X st J5:=λ_ _ _ _ _ _ h=>h.elim
end
abbrev TG:=V->St->Hp->(St->Hp->Prop)->Prop
abbrev jz:=List V->St->Hp->(St->Hp->Prop)->Prop
def PG(X:Cx)(target:L8)(t:TG):Prop:=
 ∀(acT:List (J7×Obj))(s:K9)(U:St)(H:Hp)(v:V)(u:JK)(Q:St->Hp->Prop),ag X acT U H s->aN v u->t v U H Q->
  KS (Kc X.prog X.w) X.A (assign target X.env u) (λ_ s'=>∃U' H',ag X acT U' H' s'/\Q U' H') X.xe s
def tm(X:Cx)(ts:List L8)(t:jz):Prop:=
 ∀(acT:List (J7×Obj))(s:K9)(U:St)(H:Hp)(vs:List V)(us:List JK)(Q:St->Hp->Prop),ag X acT U H s->aL vs us->t vs U H Q->
  KS (Kc X.prog X.w) X.A (assignInOrder ((PJ ts X.env).map (·.2)) us) (λ_ s'=>∃U' H',ag X acT U' H' s'/\Q U' H') X.xe s
section
variable{X:Cx}{pos:Pos}
def jA(i:Nat):TG:=λv U H Q=>Q (U.set i (some v)) H
theorem aQ(hN:X.N.Nodup)(hi:X.N[i]?=some x)(hx:iD X.env.scope x)(hf:X.fn x=true\/X.env.scope.names.lookup x=some .local:=by first|exact .inl rfl|exact .inr rfl|assumption):PG X (.Name x pos) (jA i):=by
 intro acT s U H v u Q I r h;exact wpAny_assign_Name (B4 I hN hi hx r (λs' I'=>⟨_,H,I',h⟩) hf)
def tq:jz:=λvs U H Q=>vs=[]/\Q U H
def rj(t:TG)(u:jz):jz:=λvs U H Q=>∃v r,vs=v::r/\t v U H λU' H'=>u r U' H' Q
theorem iE:tm X [] tq:=by
 intro acT s U H vs us Q I r h;obtain⟨e,h⟩:=h;subst e;cases r;exact assignInOrder_nil ⟨U,H,I,h⟩
theorem cF(h1:PG X e t)(h2:tm X es u)
 (hs:(PJ (e::es) X.env).map (·.2)=assign e X.env::(PJ es X.env).map (·.2):=by rfl):tm X (e::es) (rj t u):=by
 intro acT s U H vs us Q I r h;obtain⟨v,vr,e1,h⟩:=h;subst e1;cases r with
 |cons r rr=>
  rw[hs];refine assignInOrder_cons (aE (h1 acT s U H _ _ _ I r h) λ_ s1 ⟨σ1,H1,I1,q1⟩=>?_);exact h2 acT s1 σ1 H1 _ _ Q I1 rr q1
def tu(Z:T5)(n:Nat)(t:jz):TG:=λv U H Q=>∃a xs,v= .ref a/\br Z H a xs/\xs.length=n/\t xs U H Q
theorem iF{es:List L8}{k:Nat}{t:jz}{n:Nat}(hc:X.calm=true)(h:tm X es t)
 (hn:(PJ es X.env).length=n:=by rfl)(hst:(PJ es X.env).findIdx? (·.1)=none:=by rfl):PG X (.Tuple es k pos) (tu X.K n t):=by
 intro acT s U H v u Q I r hw;obtain⟨a,xs,e1,hq,hl,hw⟩:=hw;subst e1;cases r;obtain⟨its,rv,ht,hz⟩:=I.tuple hq;refine assign_Tuple_tuple (I.ok.hd hc) ht (by simp[hn,<-hl,rv.length]) hst λh' hx=>?_;have I1:ag X acT U H {s with heap:=h'}:=I.kept (t':=s.toks) λb o e=>hx b o (UQ (Ut e)) e;exact h acT _ U H xs _ Q I1 (by simpa using rv) hw
def rn(te:TE)(g:TG):TS:=λD U H=>te U H λx H1=>g x U H1 D.nx
theorem aa7{tg e:L8}{te:TE}{g:TG}(he:PE X e te)(hg:PG X tg g)(hs:swapsWithSole [tg] e pos.line X.env=pure false:=by rfl)(hw:swappedStores [tg] e X.env=pure none:=by rfl)
 (h1:(PJ [tg] X.env).map (·.2)=[assign tg X.env]:=by rfl):PS X (.Assign [tg] e pos) (rn te g):=by
 intro acT s U H D I h;refine wpAny_Assign_stores (aE (he acT s U H _ I h) λv s1 ⟨x,H1,I1,r1,q1⟩=>?_) hs hw;rw[h1];exact aE (hg acT s1 U H1 x v _ I1 r1 q1) λ_ s2 q=>q
theorem fD{i:Nat}{x:Str}{e:L8}{te:TE}{pos':Pos}(hN:X.N.Nodup)(hi:X.N[i]?=some x)(hx:iD X.env.scope x)(he:PE X e te)(hs:M3 e (some (.Name x pos')) pos.line X.env=pure false:=by rfl)(hf:X.fn x=true\/X.env.scope.names.lookup x=some .local:=by first|exact .inl rfl|exact .inr rfl|assumption):
 PS X (.Assign [.Name x pos'] e pos) (rn te (jA i)):=by
 intro acT s U H D I h;refine wpAny_Assign_Name (aE (he acT s U H _ I h) λv s1 ⟨y,H1,I1,r1,q1⟩=>?_) hs;exact B4 I1 hN hi hx r1 (λs2 I2=>⟨_,H1,I2,q1⟩) hf
def J8(c:TT)(tb:TS):TS:=λD U H=>∃W:Nat->St->Hp->Prop,(∃m,W m U H)/\∀m U H,W m U H->
 c U H λb H1=>if b=true then ∃N:St->Hp->Prop,(∀U' H',N U' H'->∃m',m' < m/\W m' U' H')/\tb {D with nx:=N,ct:=N,bk:=D.nx} U H1 else D.nx U H1
theorem Cr(hp:OO (Kc X.prog X.w) X.A X.env X.xe)(hc:PT X c tc)(hb:b0 X body tb):PS X (.While c body [] pos) (J8 tc tb):=by
 intro acT s U H D I h;obtain⟨W,⟨m0,w0⟩,turn⟩:=h;refine wpAny_While (codeAny_whileLoop (λn s'=>∃U' H',ag X acT U' H' s'/\W n U' H') ?_ m0 ⟨U,H,I,w0⟩);rintro n s1 ⟨σ1,H1,I1,w1⟩;refine Pg hp (aE (hc acT s1 σ1 H1 _ I1 (turn n σ1 H1 w1)) λb s2 ⟨H2,I2,q2⟩=>?_);cases b with
 |true=>
  obtain⟨N,hN,q2⟩:=q2;rw[KI rfl];refine Pg hp (aE (hb acT s2 σ1 H2 _ I2 q2) λf s3 q3=>?_);cases f with
  |next=>
   obtain⟨σ3,H3,I3,n3⟩:=q3;obtain⟨m',hm,w3⟩:=hN σ3 H3 n3;exact⟨m',hm,σ3,H3,I3,w3⟩
  |cont=>
   obtain⟨σ3,H3,I3,n3⟩:=q3;obtain⟨m',hm,w3⟩:=hN σ3 H3 n3;exact⟨m',hm,σ3,H3,I3,w3⟩
  |brk=>exact q3
  |ret v=>exact q3
 |false=>
  rw[JS Ue];exact Qs ⟨σ1,H2,I2,q2⟩
end
structure It where
 go:Nat->Hp->Prop
 yld:Nat->Hp->V->Hp->Prop
 stop:Nat->Hp->Prop
def ja(X:Cx)(acT:List (J7×Obj))(H:Hp)(b:J7):Prop:=
 H b=none/\b≠X.env.locals/\b∉X.fs/\(b∈X.ex\/X.s₀.heap.objs.size<=b)/\(∀x c,X.env.cells.lookup x=some c->c≠b)/\∀p∈X.pn++acT,p.1≠b
theorem ag.fpOk{acT:List (J7×Obj)}{U:St}{H H':Hp}{s:K9}{b:J7}(I:ag X acT U H s)(hb:s.heap.objs.size<=b)(hn:H' b=none):ja X acT H' b:=by
 refine⟨hn,WO (Vh I.lt hb),I.nofs hb,.inr (UN I.sz hb),λx c e z=>?_,λp hp z=>?_⟩
 ·obtain⟨v,q⟩:=I.cell x c e;exact absurd (Vh q.lt (by rw[z];exact hb)) (V3 _)
 ·exact absurd (Vh (Ut (I.pin p hp).1) (by rw[z];exact hb)) (V3 _)
structure p6 (P:M8) (w:LZ) (Z:T5) (tg:L8) (J:It) (fp:List J7) (it:J7) (tn:Nat->LO->Prop):Prop where
 mem:it∈fp
 obj:∀i h,tn i h->∀b∈fp,∃o,h.get? b=some o/\∀v,o.data≠ .cell v
 keep:∀i h h',tn i h->(∀b∈fp,∀o,h.get? b=some o->h'.get? b=some o)->tn i h'
 item:∀(X:Cx),X.prog=P->X.w=w->X.K=Z->X.calm=true->∀(i:Nat)(acT:List (J7×Obj))(s:K9)(U:St)(H:Hp)(E:JK->K9->Prop),ag X acT U H s->(∀b∈fp,ja X acT H b)->tn i s.heap->J.go i H->
  KS (Kc P w) X.A (MN (.ref it)) (λr s1=>∃u,r=some u/\
   KS (Kc P w) X.A (RB tg (.ref it) u) (λ_ s2=>∃x H',ag X acT U H' s2/\aN x u/\J.yld i H x H'/\tn (i+1) s2.heap/\∀b∈fp,H' b=none) E s1) E s
 done:∀(X:Cx),X.prog=P->X.w=w->X.K=Z->X.calm=true->∀(i:Nat)(acT:List (J7×Obj))(s:K9)(U:St)(H:Hp)(E:JK->K9->Prop),ag X acT U H s->(∀b∈fp,ja X acT H b)->tn i s.heap->J.stop i H->
  KS (Kc P w) X.A (MN (.ref it)) (λr s1=>r=none/\ag X acT U H s1) E s
 self:∀(A:Lu)(i:Nat)(s:K9)(Q:JK->K9->Prop)(E:JK->K9->Prop),tn i s.heap->Q (.ref it) s->KS (Kc P w) A (pyIter (.ref it)) Q E s
abbrev TI:=St->Hp->(It->Hp->Prop)->Prop
def Cs(X:Cx)(acT:List (J7×Obj))(U:St)(tg:L8)(R:It->Hp->Prop)(itv:JK)(s2:K9):Prop:=
 ∃(it:J7)(fp:List J7)(tn:Nat->LO->Prop)(J:It)(H':Hp),itv= .ref it/\ag X acT U H' s2/\p6 X.prog X.w X.K tg J fp it tn/\tn 0 s2.heap/\(∀b∈fp,ja X acT H' b)/\R J H'
def PI(X:Cx)(tg iter:L8)(wi:TI):Prop:=
 ∀(acT:List (J7×Obj))(s:K9)(U:St)(H:Hp)(R:It->Hp->Prop),ag X acT U H s->wi U H R->
  KS (Kc X.prog X.w) X.A (eval iter X.env) (λv s1=>KS (Kc X.prog X.w) X.A (pyIter v) (Cs X acT U tg R) X.xe s1) X.xe s
theorem wb{s:K9}{Q:Unit->K9->Prop}(ho:s.heap.get? it=some o)(hc:o.cls= .type n)(hd:o.data= .fields vs)
 (hn:["enumerate","zip","dict_itemiterator","dict_reverseitemiterator","odict_iterator","itertools.zip_longest","itertools.pairwise"].contains n=false)(hQ:Q () s):KS M A (RB tg (.ref it) u) Q E s:=by
 unfold RB;cases tg<;>first
  |exact Kd hQ
  | (cases u<;>first
      |exact Kd hQ
      | (refine JY (wpAny_load ho ?_)
         rw[hc,hd];show KS M A (if (["enumerate","zip","dict_itemiterator","dict_reverseitemiterator","odict_iterator","itertools.zip_longest","itertools.pairwise"].contains n && vs[0]?==some (MR _))=true then _ else _) Q E s;rw[JS (by intro h;rw[hn,WZ]at h;cases h)];exact Kd hQ))
def p7(Z:T5)(a:J7):It:=
 ⟨λi H=>∃xs x,bA Z H a xs/\xs[i]?=some x,λi H x H'=>H'=H/\∀xs,bA Z H a xs->xs[i]?=some x,λi H=>∃xs,bA Z H a xs/\xs.length<=i⟩
def ro(Z:T5)(a:J7):It:=
 ⟨λi H=>∃xs x,br Z H a xs/\xs[i]?=some x,λi H x H'=>H'=H/\∀xs,br Z H a xs->xs[i]?=some x,λi H=>∃xs,br Z H a xs/\xs.length<=i⟩
def jB(lo:Int)(n:Nat):It:=⟨λi _=>i < n,λi H x H'=>H'=H/\x= .int (lo+i),λi _=>n<=i⟩
theorem J9(a it:J7):p6 P w Z tg (p7 Z a) [it] it (λi h=>h.IsListIter it a i) where
 mem:=KJ
 obj:=λi h st b hb=>by
  have e:b=it:=by simpa using hb
  subst e;obtain⟨o,e,c,d⟩:=st;exact⟨o,e,λv z=>by rw[d]at z;cases z⟩
 keep:=λi h h' st k=>st.at λo e=>k it KJ o e
 item:=by
  intro X hP hw hK hc i acT s U H E I hf st hg;subst hP hw hK;obtain⟨xs,x,hq,hx⟩:=hg;obtain⟨its,rv,p,hz⟩:=I.list hq;obtain⟨u,hu,ru⟩:=rv.get hx;obtain⟨f0,f1,f2,f3,f4,f5⟩:=hf it KJ;refine wpAny_pyNext_list_item st p.isList (x:=u) (by simpa using hu) λh' st' sb=>?_;have I1:ag X acT U H {s with heap:=h'}:=I.turned (t':=s.toks) (λb o hb e=>(sb.2 b hb).trans e) f0 f1 f3 f4 f5;obtain⟨o,e,c,d⟩:=id st';exact⟨u,rfl,wb (s:={s with heap:=h'}) e c d KL ⟨x,H,I1,ru,⟨rfl,λys hy=>by rw[I.list_inj hy hq];exact hx⟩,st',λb hb=>(hf b hb).1⟩⟩
 done:=by
  intro X hP hw hK hc i acT s U H E I hf st hg;subst hP hw hK;obtain⟨xs,hq,hx⟩:=hg;obtain⟨its,rv,p,hz⟩:=I.list hq;obtain⟨f0,f1,f2,f3,f4,f5⟩:=hf it KJ;have hl:=rv.length;exact wpAny_pyNext_list_end (I.ok.hd hc) st p.isList (by simp;omega) λh' eb=>⟨rfl,I.turned (t':=s.toks) (λb o hb e=>eb b o hb e) f0 f1 f3 f4 f5⟩
 self:=λ_ _ _ _ _ st h=>wpAny_pyIter_listiter st h
theorem Ka(a it:J7):p6 P w Z tg (ro Z a) [it] it (λi h=>h.IsTupleIter it a i) where
 mem:=KJ
 obj:=λi h st b hb=>by
  have e:b=it:=by simpa using hb
  subst e;obtain⟨o,e,c,d⟩:=st;exact⟨o,e,λv z=>by rw[d]at z;cases z⟩
 keep:=λi h h' st k=>st.at λo e=>k it KJ o e
 item:=by
  intro X hP hw hK hc i acT s U H E I hf st hg;subst hP hw hK;obtain⟨xs,x,hq,hx⟩:=hg;obtain⟨its,rv,p,hz⟩:=I.tuple hq;obtain⟨u,hu,ru⟩:=rv.get hx;obtain⟨f0,f1,f2,f3,f4,f5⟩:=hf it KJ;refine wpAny_pyNext_tuple_item st (show s.heap.IsTuple a its.toArray from p) (x:=u) (by simpa using hu) λh' st' sb=>?_;have I1:ag X acT U H {s with heap:=h'}:=I.turned (t':=s.toks) (λb o hb e=>(sb.2 b hb).trans e) f0 f1 f3 f4 f5;obtain⟨o,e,c,d⟩:=id st';exact⟨u,rfl,wb (s:={s with heap:=h'}) e c d KL ⟨x,H,I1,ru,⟨rfl,λys hy=>by rw[I.tuple_inj hy hq];exact hx⟩,st',λb hb=>(hf b hb).1⟩⟩
 done:=by
  intro X hP hw hK hc i acT s U H E I hf st hg;subst hP hw hK;obtain⟨xs,hq,hx⟩:=hg;obtain⟨its,rv,p,hz⟩:=I.tuple hq;obtain⟨f0,f1,f2,f3,f4,f5⟩:=hf it KJ;have hl:=rv.length;exact wpAny_pyNext_tuple_end (I.ok.hd hc) st (show s.heap.IsTuple a its.toArray from p) (by simp;omega) λh' eb=>⟨rfl,I.turned (t':=s.toks) (λb o hb e=>eb b o hb e) f0 f1 f3 f4 f5⟩
 self:=λ_ _ _ _ _ st h=>wpAny_pyIter_tupleiter st h
theorem Kb(it:J7)(lo:Int)(n:Nat):p6 P w Z tg (jB lo n) [it] it (λi h=>IsRangeIter h it (lo+(i:Nat)*1) ((n:Int) - (i:Nat)) 1) where
 mem:=KJ
 obj:=λi h st b hb=>by
  have e:b=it:=by simpa using hb
  subst e;exact⟨_,st,λv z=>by
   have z':Data.fields _=Data.cell v:=z;cases z'⟩
 keep:=λi h h' st k=>k it KJ _ st
 item:=by
  intro X hP hw hK hc i acT s U H E I hf st hg;subst hP hw hK;obtain⟨f0,f1,f2,f3,f4,f5⟩:=hf it KJ;have W:=Walks.range (prog:=X.prog) (w:=X.w) (I.ok.hd hc) it lo 1 n;refine W.item i s _ _ hg st λv h' tk hv st' kk=>?_;obtain⟨t,rfl⟩:=hv;have I1:ag X acT U H {s with heap:=h',toks:=tk}:=I.turned (λb o hb e=>kk b o (by simpa using hb) e) f0 f1 f3 f4 f5;refine⟨_,rfl,wb (s:={s with heap:=h',toks:=tk}) (n:="range_iterator") st' rfl rfl KL ⟨.int (lo+i),H,I1,⟨t,?_⟩,⟨rfl,rfl⟩,st',λb hb=>(hf b hb).1⟩⟩;rw[Int.mul_one]
 done:=by
  intro X hP hw hK hc i acT s U H E I hf st hg;subst hP hw hK;obtain⟨f0,f1,f2,f3,f4,f5⟩:=hf it KJ;exact wpAny_pyNext_range_end (I.ok.hd hc) st (by have:n<=i:=hg;omega) λh' eb=>⟨rfl,I.turned (t':=s.toks) (λb o hb e=>eb b o hb e) f0 f1 f3 f4 f5⟩
 self:=λ_ _ _ _ _ st h=>wpAny_pyIter_rangeiter st h
section
variable{X:Cx}{tg:L8}
def wc(Z:T5)(tl:TE):TI:=λU H R=>tl U H λx H1=>∃a,x= .ref a/\(∃xs,bA Z H1 a xs)/\R (p7 Z a) H1
def we(Z:T5)(tl:TE):TI:=λU H R=>tl U H λx H1=>∃a,x= .ref a/\(∃xs,br Z H1 a xs)/\R (ro Z a) H1
theorem tw(hl:PE X l tl):PI X tg l (wc X.K tl):=by
 intro acT s U H R I h;refine aE (hl acT s U H _ I h) λv s1 ⟨x,H1,I1,r1,q1⟩=>?_;obtain⟨a,e,⟨xs,hq⟩,q⟩:=q1;subst e;cases r1;obtain⟨its,rv,p,hz⟩:=I1.list hq;refine Ru p.isList ?_;refine⟨s1.heap.objs.size,[s1.heap.objs.size],_,_,H1,rfl,I1.kept (t':=s1.toks) λb o e=>Ua _ e,J9 a _,⟨_,UE _ rfl,rfl,rfl⟩,λb hb=>?_,q⟩;have e:b=s1.heap.objs.size:=by simpa using hb
 subst e;exact I1.fpOk (T8 _) (I1.hok.fresh (T8 _))
theorem wg(hl:PE X l tl):PI X tg l (we X.K tl):=by
 intro acT s U H R I h;refine aE (hl acT s U H _ I h) λv s1 ⟨x,H1,I1,r1,q1⟩=>?_;obtain⟨a,e,⟨xs,hq⟩,q⟩:=q1;subst e;cases r1;obtain⟨its,rv,p,hz⟩:=I1.tuple hq;refine RN (show s1.heap.IsTuple a its.toArray from p) ?_;refine⟨s1.heap.objs.size,[s1.heap.objs.size],_,_,H1,rfl,I1.kept (t':=s1.toks) λb o e=>Ua _ e,Ka a _,⟨_,UE _ rfl,rfl,rfl⟩,λb hb=>?_,q⟩;have e:b=s1.heap.objs.size:=by simpa using hb
 subst e;exact I1.fpOk (T8 _) (I1.hok.fresh (T8 _))
theorem Ct{acT:List (J7×Obj)}{U:St}{s:K9}{R:It->Hp->Prop}{E:JK->K9->Prop}{lo hi:Int}{t u v:Tok}{tk:Nat}(I:ag X acT U H s)(h1:-(2 ^ 62)<=lo)(h2:lo < 2 ^ 62)(h3:-(2 ^ 62)<=hi)(h4:hi < 2 ^ 62)
 (q:R (jB lo (hi - lo).toNat) H):KS (Kc X.prog X.w) X.A (pyIter (.ref s.heap.objs.size)) (Cs X acT U tg R) E {s with heap:=s.heap.push {cls:= .type "range",data:= .fields #[.int lo t,.int hi u,.int 1 v]},toks:=tk}:=by
 refine wpAny_pyIter_range (IsRange.new ..) (small_one h1 h2 h3 h4) ?_;have I1:ag X acT U H {s with heap:=s.heap.push {cls:= .type "range",data:= .fields #[.int lo t,.int hi u,.int 1 v]},toks:=tk}:=I.kept λb o e=>Ua _ e;refine⟨(s.heap.push {cls:= .type "range",data:= .fields #[.int lo t,.int hi u,.int 1 v]}).objs.size,[(s.heap.push {cls:= .type "range",data:= .fields #[.int lo t,.int hi u,.int 1 v]}).objs.size],_,_,H,rfl,
  I1.kept (t':=tk) λb o e=>Ua _ e,Kb _ lo (hi - lo).toNat,?_,λb hb=>?_,q⟩
 ·have e1:lo+((0:Nat):Int)*1=lo:=KJ
  have e2:(((hi - lo).toNat:Nat):Int) - ((0:Nat):Int)=Builtin.Range.rangeSize lo hi 1:=by rw[rangeSize_one];split<;>omega
  show IsRangeIter _ _ (lo+((0:Nat):Int)*1) ((((hi - lo).toNat:Nat):Int) - ((0:Nat):Int)) 1;rw[e1,e2];exact UE _ rfl
 ·have e:b=(s.heap.push {cls:= .type "range",data:= .fields #[.int lo t,.int hi u,.int 1 v]}).objs.size:=by simpa using hb
  subst e;exact I1.fpOk (T8 _) (I1.hok.fresh (T8 _))
def wj(ta:TA):TI:=λU H R=>ta U H λvs H1=>∃j:Int,vs=[.int j]/\-(2 ^ 62)<=j/\j < 2 ^ 62/\R (jB 0 j.toNat) H1
def wk(ta:TA):TI:=λU H R=>ta U H λvs H1=>∃i j:Int,vs=[.int i,.int j]/\(-(2 ^ 62)<=i/\i < 2 ^ 62/\-(2 ^ 62)<=j/\j < 2 ^ 62)/\R (jB i (j - i).toNat) H1
theorem wm(hg:Gl X "range")(hm:X.mg "range"=none)(ha:PA X [a] ta)(hs:Ke [a] X.env=[(false,eval a X.env)]:=by rfl):PI X tg (.Call (.Name "range" p) [a] [] pos) (wj ta):=by
 intro acT s U H R I h;refine Call_ (j4 I hg hm boot_range (Wx (aE (ha pos acT s U H _ I h) λus s1 ⟨vs,H1,I1,r1,q1⟩=>?_) hs rfl));obtain⟨j,e,q1,q2,q⟩:=q1;subst e;cases r1 with
 |cons r rr=>
  cases rr;obtain⟨t,rfl⟩:=r;exact call_range_1 (Ct I1 J1 J1 q1 q2 (by simpa using q))
theorem abd{a b:L8}{ta:TA}{p pos:Pos}(hg:Gl X "range")(hm:X.mg "range"=none)(ha:PA X [a,b] ta)(hs:Ke [a,b] X.env=[(false,eval a X.env),(false,eval b X.env)]:=by rfl)(hs2:Ke [b] X.env=[(false,eval b X.env)]:=by rfl):
 PI X tg (.Call (.Name "range" p) [a,b] [] pos) (wk ta):=by
 intro acT s U H R I h;refine Call_ (j4 I hg hm boot_range (Wx (aE (ha pos acT s U H _ I h) λus s1 ⟨vs,H1,I1,r1,q1⟩=>?_) (by rw[hs,hs2]) (by rw[hs2];rfl)));obtain⟨i,j,e,⟨q1,q2,q3,q4⟩,q⟩:=q1;subst e;cases r1 with
 |cons r rr=>
  cases rr with
  |cons r' rr=>
   cases rr;obtain⟨t,rfl⟩:=r;obtain⟨t',rfl⟩:=r';exact call_range_2 (Ct I1 q1 q2 q3 q4 q)
def rA(wi:TI)(g:TG)(tb:TS):TS:=λD U H=>wi U H λJ H1=>∃W:Nat->Nat->St->Hp->Prop,(∃m,W 0 m U H1)/\∀i m U H,W i m U H->
 (J.stop i H/\D.nx U H)\/(J.go i H/\∃N:St->Hp->Prop,(∀U' H',N U' H'->∃m',m' < m/\W (i+1) m' U' H')/\∀x H',J.yld i H x H'->g x U H' λσ2 H2=>tb {D with nx:=N,ct:=N,bk:=D.nx} σ2 H2)
def rB(fp:List J7)(h:LO):List (J7×Obj):=fp.filterMap λb=>(h.get? b).map λo=>(b,o)
theorem tD{h:LO}(hb:b∈fp)(e:h.get? b=some o):(b,o)∈rB fp h:=Xz.mpr ⟨b,hb,by rw[e];rfl⟩
theorem aa9(hp:p∈rB fp h):p.1∈fp/\h.get? p.1=some p.2:=by
 obtain⟨b,hb,e⟩:=Xz.mp hp;cases q:h.get? b with
 |none=>rw[q]at e;cases e
 |some o=>
  rw[q]at e;have e':(b,o)=p:=Ve e;subst e';exact⟨hb,q⟩
theorem ag.pinned{acT:List (J7×Obj)}{U:St}{s:K9}{fp:List J7}(I:ag X acT U H s)(hf:∀b∈fp,ja X acT H b)(ho:∀b∈fp,∃o,s.heap.get? b=some o/\∀v,o.data≠ .cell v):ag X (acT++rB fp s.heap) U H s:=
 I.pins_of λp hp=>(Um.mp hp).elim (λz=>I.pin p (U7 _ z)) λz=>by
  obtain⟨hb,e⟩:=aa9 z;obtain⟨f0,f1,f2,_⟩:=hf p.1 hb;obtain⟨o,e',d⟩:=ho p.1 hb;rw[e]at e';cases e';exact⟨e,f0,f1,f2,d⟩
theorem ag.unpinned{acT pl:List (J7×Obj)}{U:St}{s:K9}(I:ag X (acT++pl) U H s):ag X acT U H s:=I.pins_of λp hp=>I.pin p (U7 _ (WN _ hp))
theorem p8(hp:OO (Kc X.prog X.w) X.A X.env X.xe)(hc:X.calm=true)(hi:PI X tg iter wi)(hg:PG X tg g)(hb:b0 X body tb)
 (hs:∀x,Me iter X.env x=pure x:=by intro _;rfl):PS X (.For tg iter body [] pos) (rA wi g tb):=by
 intro acT s U H D I h;refine wpAny_For (aE (hi acT s U H _ I h) λv s1 h1=>aE h1 λitv s2 h2=>?_) hs;obtain⟨it,fp,tn,J,H2,e,I2,T,st2,f2,W,⟨m0,w0⟩,turn⟩:=h2;subst e;have stat:∀{H':Hp},(∀b∈fp,H' b=none)->∀b∈fp,ja X acT H' b:=λhn b hb=>⟨hn b hb,(f2 b hb).2⟩;refine codeAny_forLoop_any (λn s'=>∃i U' H',ag X acT U' H' s'/\tn i s'.heap/\(∀b∈fp,H' b=none)/\W i n U' H') ?_ m0 ⟨0,U,H2,I2,st2,λb hb=>(f2 b hb).1,w0⟩;rintro n s3 ⟨i,σ3,H3,I3,st3,fr3,w3⟩;rcases turn i n σ3 H3 w3 with⟨stop,qn⟩|⟨go,N,hN,step⟩
 ·refine Pg hp (aE (T.done X rfl rfl rfl hc i acT s3 σ3 H3 X.xe I3 (stat fr3) st3 stop) λr s4 ⟨hr,I4⟩=>?_);subst hr;exact Qs ⟨σ3,H3,I4,qn⟩
 ·refine Pg hp (aE (T.item X rfl rfl rfl hc i acT s3 σ3 H3 X.xe I3 (stat fr3) st3 go) λr s4 ⟨u,hr,h4⟩=>?_);subst hr;refine Pg hp (aE h4 λ_ s5 ⟨x,H5,I5,r5,y5,st5,fr5⟩=>?_);have I5':=I5.pinned (stat fr5) (T.obj _ _ st5);refine Pg hp (aE (hg _ s5 σ3 H5 x u _ I5' r5 (step x H5 y5)) λ_ s6 ⟨σ6,H6,I6,q6⟩=>?_);refine Pg hp (aE (hb _ s6 σ6 H6 _ I6 q6) λf s7 q7=>?_);have again:∀{σ7:St}{H7:Hp},ag X (acT++rB fp s5.heap) σ7 H7 s7->N σ7 H7->∃m,m < n/\∃i U' H',ag X acT U' H' s7/\tn i s7.heap/\(∀b∈fp,H' b=none)/\W i m U' H':=λ{σ7 H7} I7 n7=>by
   obtain⟨m',hm,w7⟩:=hN σ7 H7 n7;refine⟨m',hm,i+1,σ7,H7,I7.unpinned,T.keep _ _ _ st5 λb hb o e=>(I7.pin (b,o) (U7 _ (U7 _ (tD hb e)))).1,λb hb=>?_,w7⟩;obtain⟨o,e,d⟩:=T.obj _ _ st5 b hb;exact(I7.pin (b,o) (U7 _ (U7 _ (tD hb e)))).2.1
  cases f with
  |next=>obtain⟨σ7,H7,I7,n7⟩:=q7;exact again I7 n7
  |cont=>obtain⟨σ7,H7,I7,n7⟩:=q7;exact again I7 n7
  |brk=>obtain⟨σ7,H7,I7,q7⟩:=q7;exact⟨σ7,H7,I7.unpinned,q7⟩
  |ret v=>obtain⟨x7,σ7,H7,I7,r7,q7⟩:=q7;exact⟨x7,σ7,H7,I7.unpinned,r7,q7⟩
end
abbrev R2:=V->V->Hp->VK->Prop
def bU(X:Cx)(f:JK->JK->Sem JK)(r:R2):Prop:=
 ∀(acT:List (J7×Obj))(s:K9)(U:St)(H:Hp)(x y:V)(v u:JK)(Q:VK),ag X acT U H s->aN x v->aN y u->r x y H Q->
  KS (Kc X.prog X.w) X.A (f v u) (EP X acT U Q) X.xe s
def wq(X:Cx)(f:JK->Sem JK)(r:V->Hp->VK->Prop):Prop:=
 ∀(acT:List (J7×Obj))(s:K9)(U:St)(H:Hp)(x:V)(v:JK)(Q:VK),ag X acT U H s->aN x v->r x H Q->
  KS (Kc X.prog X.w) X.A (f v) (EP X acT U Q) X.xe s
def fo(X:Cx)(f:JK)(r:List V->Hp->VK->Prop):Prop:=
 ∀(acT:List (J7×Obj))(s:K9)(U:St)(H:Hp)(xs:List V)(us:List JK)(Q:VK),ag X acT U H s->aL xs us->r xs H Q->
  KS (Kc X.prog X.w) X.A (call f us) (EP X acT U Q) X.xe s
def aba(X:Cx)(r:V->Hp->(Bool->Hp->Prop)->Prop):Prop:=
 ∀(acT:List (J7×Obj))(s:K9)(U:St)(H:Hp)(x:V)(v:JK)(Q:Bool->Hp->Prop),ag X acT U H s->aN x v->r x H Q->
  KS (Kc X.prog X.w) X.A (truthy v) (TP X acT U Q) X.xe s
def p9(r:R2)(ta tb:TE):TE:=λU H Q=>ta U H λx H1=>tb U H1 λy H2=>r x y H2 Q
def Cu(r:V->Hp->VK->Prop)(ta:TE):TE:=λU H Q=>ta U H λx H1=>r x H1 Q
def rI(C:Int->Int->Prop)(g:Int->Int->V):R2:=λx y H Q=>∃i j,x= .int i/\y= .int j/\C i j/\Q (g i j) H
def jb(g:Int->Int->V):R2:=λx y H Q=>∃i j,x= .int i/\y= .int j/\Q (g i j) H
def rU(g:Int->V):V->Hp->VK->Prop:=λx H Q=>∃i,x= .int i/\Q (g i) H
theorem wt(ha:PE X a ta)(hb:PE X b tb){acT:List (J7×Obj)}{s:K9}{U:St}{R:V->V->Hp->Prop}(I:ag X acT U H s)
 (h:ta U H λx H1=>tb U H1 λy H2=>R x y H2){f:JK->JK->Sem JK}
 (hf:∀v u s2 x y H2,ag X acT U H2 s2->aN x v->aN y u->R x y H2->KS (Kc X.prog X.w) X.A (f v u) Q X.xe s2):
 KS (Kc X.prog X.w) X.A (eval a X.env) (λv s₁=>KS (Kc X.prog X.w) X.A (eval b X.env) (λu s₂=>KS (Kc X.prog X.w) X.A (f v u) Q X.xe s₂) X.xe s₁) X.xe s:=by
 refine aE (ha acT s U H _ I h) λv s1 ⟨x,H1,I1,r1,q1⟩=>?_;refine aE (hb acT s1 U H1 _ I1 q1) λu s2 ⟨y,H2,I2,r2,q2⟩=>?_;exact hf v u s2 x y H2 I2 r1 r2 q2
theorem bR(ho:bU X (Mw op) r)(ha:PE X a ta)(hb:PE X b tb):PE X (.BinOp a op b pos) (p9 r ta tb):=by
 intro acT s U H Q I h;exact wpAny_BinOp (wt ha hb I h λv u s2 x y H2 I2 rx ry q=>ho acT s2 U H2 x y v u Q I2 rx ry q)
theorem Cv(ho:wq X (unaryOp op) r)(ha:PE X a ta):PE X (.UnaryOp op a pos) (Cu r ta):=by
 intro acT s U H Q I h;exact UnaryOp_ (aE (ha acT s U H _ I h) λv s1 uu=>by obtain⟨x,H1,I1,r1,q1⟩:=uu;exact ho acT s1 U H1 x v Q I1 r1 q1)
theorem tE{f:JK->JK->Sem JK}{C:Int->Int->Prop}{g:Int->Int->Int}
 (rule:∀(i j:Int) (t u:Tok) (s:K9) (Q:JK->K9->Prop) (E:JK->K9->Prop),C i j->Q (.int (g i j) s.toks) {s with toks:=s.toks+1}->KS (Kc X.prog X.w) X.A (f (.int i t) (.int j u)) Q E s):
 bU X f (rI C λi j=>.int (g i j)):=by
 intro acT s U H x y v u Q I rx ry h;obtain⟨i,j,rfl,rfl,hc,q⟩:=h;obtain⟨t,rfl⟩:=rx;obtain⟨t',rfl⟩:=ry;exact rule i j t t' s _ _ hc ⟨.int (g i j),H,I.tok _,⟨_,rfl⟩,q⟩
theorem Cw{f:JK->JK->Sem JK}{g:Int->Int->Int}
 (rule:∀(i j:Int) (t u:Tok) (s:K9) (Q:JK->K9->Prop) (E:JK->K9->Prop),Q (.int (g i j) s.toks) {s with toks:=s.toks+1}->KS (Kc X.prog X.w) X.A (f (.int i t) (.int j u)) Q E s):
 bU X f (jb λi j=>.int (g i j)):=by
 intro acT s U H x y v u Q I rx ry h;obtain⟨i,j,rfl,rfl,q⟩:=h;obtain⟨t,rfl⟩:=rx;obtain⟨t',rfl⟩:=ry;exact rule i j t t' s _ _ ⟨.int (g i j),H,I.tok _,⟨_,rfl⟩,q⟩
theorem tF{f:JK->JK->Sem JK}{g:Int->Int->Bool}
 (rule:∀(i j:Int) (t u:Tok) (s:K9) (Q:JK->K9->Prop) (E:JK->K9->Prop),Q (.bool (g i j)) s->KS (Kc X.prog X.w) X.A (f (.int i t) (.int j u)) Q E s):
 bU X f (jb λi j=>.bl (g i j)):=by
 intro acT s U H x y v u Q I rx ry h;obtain⟨i,j,rfl,rfl,q⟩:=h;obtain⟨t,rfl⟩:=rx;obtain⟨t',rfl⟩:=ry;exact rule i j t t' s _ _ ⟨.bl (g i j),H,I,rfl,q⟩
def j5(i j:Int):Prop:=0 < j/\j < 1073741824
def j6(i j:Int):Prop:=0<=j/\j<=1000000/\i.natAbs < 2 ^ 64
def jc(i j:Int):Prop:=(-(2 ^ 64) < i/\i < 2 ^ 64)\/(-(2 ^ 64) < j/\j < 2 ^ 64)
theorem jc.ok(h:jc i j):IntMulOk i j:=by
 rcases h with⟨h1,h2⟩|⟨h1,h2⟩
 ·exact .of_left (intBits_le_64 h1 h2)
 ·exact .of_right (intBits_le_64 h1 h2)
theorem bO:bU X (Mw .Add) (jb λi j=>.int (i+j)):=Cw λ_ _ _ _ _ _ _ q=>add_int q
theorem fE:bU X (Mw .Sub) (jb λi j=>.int (i - j)):=Cw λ_ _ _ _ _ _ _ q=>sub_int q
theorem gM:bU X (Mw .Mult) (rI jc λi j=>.int (i*j)):=tE λ_ _ _ _ _ _ _ hc q=>mul_int q hc.ok
theorem c0:bU X (Mw .FloorDiv) (rI j5 λi j=>.int (i / j)):=tE λi j _ _ _ _ _ hc q=>by
 have h1:(0:Int) < j:=hc.1;have h2:j < 1073741824:=hc.2;exact floordiv_int J1 (by rw[Int.fdiv_eq_ediv_of_nonneg i J1];exact q) (.inl (PyProof.noPylong_small J1))
theorem bj:bU X (Mw .Mod) (rI (λ_ j=>0 < j) λi j=>.int (i % j)):=tE λi j _ _ _ _ _ hc q=>by
 have h1:(0:Int) < j:=hc;exact mod_int' J1 (by rw[Int.fmod_eq_emod_of_nonneg i J1];exact q)
theorem Cy:bU X (Mw .Pow) (rI j6 λi j=>.int (i ^ j.toNat)):=tE λ_ _ _ _ _ _ _ hc q=>pow_int_small hc.1 hc.2.1 hc.2.2 q
theorem Kf{f:JK->Sem JK}{g:Int->Int}
 (rule:∀(i:Int) (t:Tok) (s:K9) (Q:JK->K9->Prop) (E:JK->K9->Prop),Q (.int (g i) s.toks) {s with toks:=s.toks+1}->KS (Kc X.prog X.w) X.A (f (.int i t)) Q E s):
 wq X f (rU λi=>.int (g i)):=by
 intro acT s U H x v Q I rx h;obtain⟨i,rfl,q⟩:=h;obtain⟨t,rfl⟩:=rx;exact rule i t s _ _ ⟨.int (g i),H,I.tok _,⟨_,rfl⟩,q⟩
theorem Cz:wq X (unaryOp .USub) (rU λi=>.int (-i)):=Kf λ_ _ _ _ _ q=>neg_int q
def nH:V->V->Bool
 | .non,.non=>true | .non,.int _=>true | .int _,.non=>true | .non,.bl _=>true | .bl _,.non=>true | .non,.str _=>true | .str _,.non=>true
 | .int _,.int _=>true | .bl _,.bl _=>true | .str _,.str _=>true | .byt _,.byt _=>true
 | .int _,.str _=>true | .str _,.int _=>true | .bl _,.str _=>true | .str _,.bl _=>true
 |_,_=>false
def CA:R2:=λx y H Q=>nH x y=true/\Q (.bl (decide (x=y))) H
def CB:R2:=λx y H Q=>nH x y=true/\Q (.bl (!decide (x=y))) H
theorem CC:decide (V.int i=V.int j)=(i==j):=by
 rw[Xb];simp
theorem CD:decide (V.bl i=V.bl j)=(i==j):=by
 rw[Xb];simp
theorem CF:decide (V.str i=V.str j)=(i==j):=by
 rw[Xb];simp
theorem CG:decide (V.byt i=V.byt j)=(i.toList==j.toList):=by
 rw[Xb];cases i;cases j;simp
theorem bP{acT:List (J7×Obj)}{U:St}{s:K9}{Q:VK}{k k':Bool}(I:ag X acT U H s)(q:Q (.bl k) H)(e:k=k'):EP X acT U Q (.bool k') s:=by
 subst e;exact⟨.bl k,H,I,rfl,q⟩
theorem rC:bU X (M6 .Eq) CA:=by
 intro acT s U H x y v u Q I rx ry h;obtain⟨hs,q⟩:=h;cases x with
 |non=>
  cases rx;cases y with
  |non=>cases ry;exact PySem.EqNone.eq_none_none (bP I q KJ)
  |bl j=>cases ry;exact PySem.EqNone.eq_none_bool (bP I q KJ)
  |int j=>obtain⟨t',rfl⟩:=ry;exact PySem.EqNone.eq_none_int (bP I q KJ)
  |str j=>obtain⟨t',rfl⟩:=ry;exact PySem.EqNone.eq_none_str (bP I q KJ)
  |_=>exact absurd (show false=true from hs) Ue
 |bl i=>
  cases rx;cases y with
  |non=>cases ry;exact PySem.EqNone.eq_bool_none (bP I q KJ)
  |bl j=>cases ry;exact eq_bool (bP I q CD)
  |str j=>obtain⟨t',rfl⟩:=ry;exact PySem.EqMixed.eq_bool_str (bP I q KJ)
  |_=>exact absurd (show false=true from hs) Ue
 |int i=>
  obtain⟨t,rfl⟩:=rx;cases y with
  |non=>cases ry;exact PySem.EqNone.eq_int_none (bP I q KJ)
  |int j=>obtain⟨t',rfl⟩:=ry;exact eq_int (bP I q CC)
  |str j=>obtain⟨t',rfl⟩:=ry;exact PySem.EqMixed.eq_int_str (bP I q KJ)
  |_=>exact absurd (show false=true from hs) Ue
 |str i=>
  obtain⟨t,rfl⟩:=rx;cases y with
  |non=>cases ry;exact PySem.EqNone.eq_str_none (bP I q KJ)
  |bl j=>cases ry;exact PySem.EqMixed.eq_str_bool (bP I q KJ)
  |int j=>obtain⟨t',rfl⟩:=ry;exact PySem.EqMixed.eq_str_int (bP I q KJ)
  |str j=>obtain⟨t',rfl⟩:=ry;exact eq_str (bP I q CF)
  |_=>exact absurd (show false=true from hs) Ue
 |byt i=>
  obtain⟨t,rfl⟩:=rx;cases y with
  |byt j=>obtain⟨t',rfl⟩:=ry;exact PySem.W.eq_bytes (bP I q CG)
  |_=>exact absurd (show false=true from hs) Ue
 |_=>cases y<;>exact absurd (show false=true from hs) Ue
theorem aaX:bU X (M6 .NotEq) CB:=by
 intro acT s U H x y v u Q I rx ry h;obtain⟨hs,q⟩:=h;cases x with
 |non=>
  cases rx;cases y with
  |non=>cases ry;exact PySem.EqNone.ne_none_none (bP I q KJ)
  |bl j=>cases ry;exact PySem.EqNone.ne_none_bool (bP I q KJ)
  |int j=>obtain⟨t',rfl⟩:=ry;exact PySem.EqNone.ne_none_int (bP I q KJ)
  |str j=>obtain⟨t',rfl⟩:=ry;exact PySem.EqNone.ne_none_str (bP I q KJ)
  |_=>exact absurd (show false=true from hs) Ue
 |bl i=>
  cases rx;cases y with
  |non=>cases ry;exact PySem.EqNone.ne_bool_none (bP I q KJ)
  |bl j=>cases ry;exact ne_bool (bP I q (congrArg not CD))
  |str j=>obtain⟨t',rfl⟩:=ry;exact PySem.EqMixed.ne_bool_str (bP I q KJ)
  |_=>exact absurd (show false=true from hs) Ue
 |int i=>
  obtain⟨t,rfl⟩:=rx;cases y with
  |non=>cases ry;exact PySem.EqNone.ne_int_none (bP I q KJ)
  |int j=>obtain⟨t',rfl⟩:=ry;exact ne_int (bP I q (congrArg not CC))
  |str j=>obtain⟨t',rfl⟩:=ry;exact PySem.EqMixed.ne_int_str (bP I q KJ)
  |_=>exact absurd (show false=true from hs) Ue
 |str i=>
  obtain⟨t,rfl⟩:=rx;cases y with
  |non=>cases ry;exact PySem.EqNone.ne_str_none (bP I q KJ)
  |bl j=>cases ry;exact PySem.EqMixed.ne_str_bool (bP I q KJ)
  |int j=>obtain⟨t',rfl⟩:=ry;exact PySem.EqMixed.ne_str_int (bP I q KJ)
  |str j=>obtain⟨t',rfl⟩:=ry;exact ne_str (bP I q (congrArg not CF))
  |_=>exact absurd (show false=true from hs) Ue
 |byt i=>
  obtain⟨t,rfl⟩:=rx;cases y with
  |byt j=>obtain⟨t',rfl⟩:=ry;exact PySem.W.ne_bytes (bP I q (congrArg not CG))
  |_=>exact absurd (show false=true from hs) Ue
 |_=>cases y<;>exact absurd (show false=true from hs) Ue
theorem tG:bU X (M6 .Lt) (jb λi j=>.bl (decide (i < j))):=tF λ_ _ _ _ _ _ _ q=>lt_int q
theorem j7:bU X (M6 .LtE) (jb λi j=>.bl (decide (i<=j))):=tF λ_ _ _ _ _ _ _ q=>le_int q
theorem j8:bU X (M6 .Gt) (jb λi j=>.bl (decide (j < i))):=tF λ_ _ _ _ _ _ _ q=>gt_int q
theorem wu:bU X (M6 .GtE) (jb λi j=>.bl (decide (j<=i))):=tF λ_ _ _ _ _ _ _ q=>ge_int q
theorem kT:bU X (M6 .Is) (λx y H Q=>y= .non/\Q (.bl (decide (x= .non))) H):=by
 intro acT s U H x y v u Q I rx ry h;obtain⟨rfl,q⟩:=h;cases ry;refine is_none_gen (bP I q ?_);cases x<;>first
  | (cases rx;rfl)
  | (obtain⟨t,rfl⟩:=rx;rfl)
theorem rD:bU X (M6 .IsNot) (λx y H Q=>y= .non/\Q (.bl (!decide (x= .non))) H):=by
 intro acT s U H x y v u Q I rx ry h;obtain⟨rfl,q⟩:=h;cases ry;refine isnot_none_gen (bP I q ?_);cases x<;>first
  | (cases rx;rfl)
  | (obtain⟨t,rfl⟩:=rx;rfl)
theorem aC(b:L8)(h:op≠ .In:=by decide)(h2:op≠ .NotIn:=by decide):NC op b=false:=by
 have e1:(op==CmpOp.In)=false:=by cases op<;>first|rfl|exact absurd rfl h
 have e2:(op==TC)=false:=by cases op<;>first|rfl|exact absurd rfl h2
 cases b<;>simp[NC,e1,e2]
theorem tH(ho:bU X (M6 op) r)(ha:PE X a ta)(hb:PE X b tb)(hm:NC op b=false):PE X (.Compare a [op] [b] pos) (p9 r ta tb):=by
 intro acT s U H Q I h;exact wpAny_Compare1 (wt ha hb I h λv u s2 x y H2 I2 rx ry q=>ho acT s2 U H2 x y v u Q I2 rx ry q) hm
def CH(t:TE):TT:=λU H Q=>t U H λx H'=>∃k,x= .bl k/\Q k H'
theorem nI(ho:bU X (M6 op) r)(ha:PE X a ta)(hb:PE X b tb)(hm:NC op b=false):PT X (.Compare a [op] [b] pos) (CH (p9 r ta tb)):=by
 intro acT s U H Q I h;refine wpAny_isTrue_Compare1 (aE (ha acT s U H _ I h) λv s1 ⟨x,H1,I1,r1,q1⟩=>aE (hb acT s1 U H1 _ I1 q1) λu s2 ⟨y,H2,I2,r2,q2⟩=>
  aE (ho acT s2 U H2 x y v u _ I2 r1 r2 q2) λc s3 ⟨z,H3,I3,r3,k,e,q3⟩=>?_) hm
 subst e;cases r3;exact Nr ⟨H3,I3,q3⟩
def CI(Z:T5)(x:V)(H:Hp)(k:Bool):Prop:=
 match x with
 | .non=>k=false
 | .bl b=>k=b
 | .int i=>k=(i !=0)
 | .str y=>y.length<=LB/\k=((y.length:Int) !=0)
 | .byt y=>y.size<=LB/\k=((y.size:Int) !=0)
 | .ref p=>(∃xs,bA Z H p xs/\k=!xs.isEmpty)\/(∃xs,br Z H p xs/\k=!xs.isEmpty)\/∃kvs,H p=some (.dK kvs)/\k=!kvs.isEmpty
 |_=>False
theorem Kh{κ:Type}{kvs:List (κ×V)}{vs:List (κ×JK)}(r:KV kvs vs):(!vs.isEmpty)=!kvs.isEmpty:=by
 cases r<;>rfl
theorem CJ(r:aL xs its):(!its.toArray.isEmpty)=!xs.isEmpty:=by
 cases r<;>simp
theorem rE:(LB:Nat) < 2 ^ 63:=by rw[My];decide
theorem Ki:aba X (λx H Q=>∃k,CI X.K x H k/\Q k H):=by
 intro acT s U H x v Q I rx h;obtain⟨k,e,q⟩:=h;have hl:=rE;have hs:LB=16777216:=My;cases x with
 |non=>
  cases rx;have e':k=false:=e;subst e';exact truthy_none ⟨H,I,q⟩
 |bl b=>
  cases rx;have e':k=b:=e;subst e';exact Nr ⟨H,I,q⟩
 |int i=>
  obtain⟨t,rfl⟩:=rx;have e':k=(i !=0):=e;subst e';exact PySem.P.truthy_int ⟨H,I,q⟩
 |str y=>
  obtain⟨t,rfl⟩:=rx;obtain⟨hy,e'⟩:y.length<=LB/\k=((y.length:Int) !=0):=e;subst e';exact PySem.P.truthy_str J1 ⟨H,I.tok _,q⟩
 |byt y=>
  obtain⟨t,rfl⟩:=rx;obtain⟨hy,e'⟩:y.size<=LB/\k=((y.size:Int) !=0):=e;subst e';exact PySem.W.truthy_bytes J1 ⟨H,I.tok _,q⟩
 |ref p=>
  cases rx;have e':(∃xs,bA X.K H p xs/\k=!xs.isEmpty)\/(∃xs,br X.K H p xs/\k=!xs.isEmpty)\/∃kvs,H p=some (.dK kvs)/\k=!kvs.isEmpty:=e;rcases e' with⟨xs,hx,e'⟩|⟨xs,hx,e'⟩|⟨kvs,hx,e'⟩
  ·subst e';obtain⟨its,r,pl,hz⟩:=I.list hx;have hlen:=r.length;exact wpAny_truthy_list pl.isList (by simp only[Uu];omega) ⟨H,I.tok _,by rw[CJ r];exact q⟩
  ·subst e';obtain⟨its,r,pl,hz⟩:=I.tuple hx;have hlen:=r.length;exact truthy_tuple pl (by simp only[Uu];omega) ⟨H,I.tok _,by rw[CJ r];exact q⟩
  ·subst e';obtain⟨hz,hS,vs,r,m⟩:kvs.length<=LB/\(p==Nj)=false/\∃vs,KV kvs vs/\s.heap.DictOf (eV X.prog X.w) p vs:=I.hok p _ hx;have hlen:kvs.length=vs.length:=YT r;exact wpAny_truthy_dict hS m J1 ⟨H,I.tok _,by rw[Kh r];exact q⟩
 |_=>exact(show False from e).elim
theorem CK(ha:PE X a ta)(he:∀whole,isTrue a X.env whole=(do let v<-whole;O6 a.pos;NO [v] (truthy v))):
 PT X a (λU H Q=>ta U H λx H'=>∃k,CI X.K x H' k/\Q k H'):=by
 intro acT s U H Q I h;exact isTrue_plain (aE (ha acT s U H _ I h) λv s1 uu=>by obtain⟨x,H1,I1,r1,q1⟩:=uu;exact Ki acT s1 U H1 x v Q I1 r1 q1) (he _)
theorem CM:bU X (Mw .Add) (λx y H Q=>∃i j,x= .str i/\y= .str j/\i.length+j.length<=LB/\Q (.str (i++j)) H):=by
 intro acT s U H x y v u Q I rx ry h;obtain⟨i,j,rfl,rfl,hz,q⟩:=h;obtain⟨t,rfl⟩:=rx;obtain⟨t',rfl⟩:=ry;exact add_str (λt' tk=>⟨.str (i++j),H,I.tok _,⟨_,rfl⟩,q⟩) hz
theorem fO(r:aL [x] us):∃u,us=[u]/\aN x u:=by
 cases r with
 |cons r1 r2=>cases r2;exact⟨_,rfl,r1⟩
theorem wx(r:aL [x,y] us):∃u w',us=[u,w']/\aN x u/\aN y w':=by
 cases r with
 |cons r1 r2=>
  cases r2 with
  |cons r3 r4=>cases r4;exact⟨_,_,rfl,r1,r3⟩
theorem Kj:fo X (.builtin "abs") (λxs H Q=>∃i,xs=[.int i]/\Q (.int (if i < 0 then -i else i)) H):=by
 intro acT s U H xs us Q I r h;obtain⟨i,rfl,q⟩:=h;obtain⟨u,rfl,t,rfl⟩:=fO r;exact call_abs_int λu tk=>⟨.int (if i < 0 then -i else i),H,I.tok _,⟨_,rfl⟩,q⟩
theorem abi(hc:X.calm=true):fo X (.builtin "max") (λxs H Q=>∃i j,xs=[.int i,.int j]/\Q (.int (if j > i then j else i)) H):=by
 intro acT s U H xs us Q I r h;obtain⟨i,j,rfl,q⟩:=h;obtain⟨u,w',rfl,⟨t,rfl⟩,⟨t',rfl⟩⟩:=wx r;refine max_two_ints (I.ok.hd hc) λh' tk k=>⟨_,H,I.kept k,?_,q⟩;by_cases hj:j > i
 ·rw[KI hj,KI hj];exact⟨_,rfl⟩
 ·rw[JS hj,JS hj];exact⟨_,rfl⟩
theorem Kl(hc:X.calm=true):fo X (.builtin "min") (λxs H Q=>∃i j,xs=[.int i,.int j]/\Q (.int (if j < i then j else i)) H):=by
 intro acT s U H xs us Q I r h;obtain⟨i,j,rfl,q⟩:=h;obtain⟨u,w',rfl,⟨t,rfl⟩,⟨t',rfl⟩⟩:=wx r;refine min_two_ints (I.ok.hd hc) λh' tk k=>⟨_,H,I.kept k,?_,q⟩;by_cases hj:j < i
 ·rw[KI hj,KI hj];exact⟨_,rfl⟩
 ·rw[JS hj,JS hj];exact⟨_,rfl⟩
theorem rF:fo X (.type "int") (λxs H Q=>(∃i,xs=[.int i]/\Q (.int i) H)\/∃k,xs=[.bl k]/\Q (.int (if k then 1 else 0)) H):=by
 intro acT s U H xs us Q I r h;rcases h with⟨i,rfl,q⟩|⟨k,rfl,q⟩
 ·obtain⟨u,rfl,t,rfl⟩:=fO r;exact call_int_int ⟨.int i,H,I,⟨_,rfl⟩,q⟩
 ·obtain⟨u,rfl,r1⟩:=fO r;cases r1;exact call_int_bool ⟨.int (if k then 1 else 0),H,I.tok _,⟨_,rfl⟩,q⟩
structure nJ (h:LO) (x dx C:J7) (mA:Str->Option JK):Prop where
 obj:h.get? x=some (WL C dx)
 ns:h.Ns1 dx mA
 ne:dx≠x
theorem CX0{h:LO}(n:h.Ns1 dx mA):∃od,h.get? dx=some od/\∀name,YJ name od=some (mA name):=by
 obtain⟨o,es,ep,ho,hd,hk,_,hm⟩:=n;refine⟨o,ho,λname=>?_⟩;have e:=hm name;unfold nsFind findBy at e;rw[<-Array.find?_toList]at e;unfold YJ;rw[hd];dsimp only;split
 ·rename_i y q;rw[q]at e;exact congrArg some e
 ·rename_i q;rw[q]at e;have a:es.toList.any (·.refKey)=false:=by
   rw[Z6];intro y hy;obtain⟨z,t,hkey⟩:=hk y (ZF.mp hy);simp[DictEntry.refKey,hkey]
  have a':¬es.toList.any (·.refKey)=true:=by rw[a];exact Ue
  rw[JS a'];exact congrArg some e
theorem nJ.look(I:nJ h x dx C mA):∃od,PySem.W.InstAt h x (WL C dx) C (some od)/\∀name,YJ name od=some (mA name):=
 let ⟨od,ho,hl⟩:=CX0 I.ns
 ⟨od,⟨I.obj,rfl,rfl,ho⟩,hl⟩
section
variable{prog:M8}{w:LZ}{A:Lu}{E:JK->K9->Prop}{s:K9}{Z:T5}{x dx C f:J7}{mA:Str->Option JK}{name:Str}{v:JK}
theorem Kn{Q:JK->K9->Prop}(X:Z.In s.heap)(I:nJ s.heap x dx C mA)(hg:Yt Z C name=true)(hh:Y0 Z C=true)
 (ha:We Z (.ref C) name=some none)(hv:mA name=some v)(hv':Tr v=true)(h:Q v {s with toks:=s.toks+1}):
 KS (Kc prog w) A (getAttr (.ref x) name expr) Q E s:=by
 obtain⟨od,J,hl⟩:=I.look;exact PySem.W.get_value X J (YG hg).1 (PySem.W.findObj_own hh ha rfl (by rw[hl,hv])) hv' h
theorem Ko{Q:JK×List JK->K9->Prop}(X:Z.In s.heap)(I:nJ s.heap x dx C mA)(hg:Yt Z C name=true)
 (hf:We Z (.ref C) name=some (some (.ref f)))(ht:YA Z (.ref f)=true)(hv:mA name=none)(h:Q (.ref f,[.ref x]) s):
 KS (Kc prog w) A (Pj (.ref x) name pl) Q E s:=by
 obtain⟨od,J,hl⟩:=I.look;exact PySem.W.method_fn X J (YG hg).1 (YG hg).2 hf (beq_iff_eq.mp ht) (by show(YJ name od).map (·.isSome)=some false;rw[hl,hv];rfl) h
theorem Kp{Q:Unit->K9->Prop}(X:Z.In s.heap)(I:nJ s.heap x dx C mA)
 (hs:We Z (.ref C) "__setattr__"=some (some (.builtin "object.__setattr__")))(hp:Z7 Z C=true)(ht:Zm Z C name=some none)(hh:Y0 Z C=true)
 (hw:ZT mA ns)(hsz:ns.length<=LB)
 (h:∀h',nJ h' x dx C (λy=>if y=name then some v else mA y)->Wz dx s.heap h'->Q () {s with heap:=h',toks:=s.toks+2}):
 KS (Kc prog w) A (setAttr (.ref x) name v) Q E s:=by
 obtain⟨od,J,hl⟩:=I.look;refine PySem.W.set_plain X J hs (PySem.W.osa_open (s:={s with toks:=s.toks+1}) (r:=none) X J hp ht λb=>?_);obtain⟨cd,hc,hd'⟩:=PySem.W.any_some hh;have hx:s.heap.get? x=some ⟨.ref C,some dx,.plain,#[]⟩:=I.obj;refine JY (Kd (JY (JY (wpAny_loadPart hx (JY (PySem.W.Looks.here (s:={s with toks:=s.toks+1}) (PySem.W.looks_clsIn X hc) ?_))))));rw[hd'];refine Kd (a:=some dx) (JY (Kd (JY ?_)));refine wpAny_nsSet1 (s:={s with toks:=s.toks+1}) I.ns λh' hn2 hs2=>?_;obtain⟨oD,esD,epD,hoD,hdD,hcD⟩:=hn2.count (ZT.cons name v hw);refine JY (wpAny_lookBehind hoD (by rw[hdD];exact pastItsLine_dict (UN hcD (by rw[Uk];omega))) ?_);exact Kd (h _ ⟨(hs2.2 _ (Ne.symm I.ne)).trans I.obj,hn2,I.ne⟩ hs2)
theorem Kq{R:Result->K9->Prop}{vs:List JK}{kw:List (Str×JK)}(X:Z.In s.heap)(hm:Zn Z C=true)
 (hi:We Z (.ref C) "__init__"=some (some (.ref f)))(hf:PySem.W.typeIn Z (.ref f)=some (.type "function"))
 (h:Mo (Kc prog w) (A.under (.builtin "type.__call__" ⟨.ref C::vs,kw⟩)) (.call (.ref f) ⟨.ref (s.heap.objs.size+1)::vs,kw⟩) (PySem.W.InitBack (s.heap.objs.size+1) R)
   {s with heap:=(s.heap.push Wg).push (WL C s.heap.objs.size)}):
 Mo (Kc prog w) A (.call (.ref C) ⟨vs,kw⟩) R s:=by
 obtain⟨hh,g,d,t,os⟩:=s;exact PySem.W.make_core (PySem.W.makes_of X hm) (PySem.W.looks_findIn X hi) (λself=>PySem.W.bind_fn X self hf) (.inl rfl) h
end
def eB(f:Str)(v:V):List (Str×V)->List (Str×V)
 | []=>[(f,v)]
 | (g,x)::r=>if g=f then(g,v)::r else(g,x)::eB f v r
theorem CN(f g:Str)(v:V):∀fs:List (Str×V),(eB f v fs).lookup g=if g=f then some v else fs.lookup g
 | []=>by
  show XF g [(f,v)]=_;by_cases h:g=f
  ·have hb:(g==f)=true:=beq_iff_eq.mpr h;simp only[XF,hb,KI h]
  ·have hb:(g==f)=false:=beq_eq_false_iff_ne.mpr h;simp only[XF,hb,JS h]
 | (k,x)::r=>by
  have ih:=CN f g v r;rw[show eB f v ((k,x)::r)=(if k=f then(k,v)::r else(k,x)::eB f v r) from rfl];by_cases hk:k=f
  ·rw[KI hk];by_cases h:g=k
   ·have hb:(g==k)=true:=beq_iff_eq.mpr h;simp only[XF,hb,KI (h.trans hk)]
   ·have hb:(g==k)=false:=beq_eq_false_iff_ne.mpr h;simp only[XF,hb,JS (λe:g=f=>h (e.trans hk.symm))]
  ·rw[JS hk];by_cases h:g=k
   ·have hb:(g==k)=true:=beq_iff_eq.mpr h;simp only[XF,hb,JS (λe:g=f=>hk (h.symm.trans e))]
   ·have hb:(g==k)=false:=beq_eq_false_iff_ne.mpr h;simp only[XF,hb];exact ih
theorem wy(f:Str)(v:V):∀fs:List (Str×V),f∈(eB f v fs).map (·.1)/\∀g,g∈fs.map (·.1)->g∈(eB f v fs).map (·.1)
 | []=>⟨by simp[eB],λg h=>by simp at h⟩
 | (k,x)::r=>by
  obtain⟨i1,i2⟩:=wy f v r;rw[show eB f v ((k,x)::r)=(if k=f then(k,v)::r else(k,x)::eB f v r) from rfl];by_cases hk:k=f
  ·rw[KI hk];subst hk;exact⟨KJ,λg h=>by simpa using h⟩
  ·rw[JS hk];refine⟨?_,λg h=>?_⟩
   ·rw[T9];exact UD _ i1
   ·rw[T9]at h⊢;rcases Ud.mp h with e|e
    ·exact Ud.mpr (.inl e)
    ·exact UD _ (i2 g e)
theorem CO(f:Str)(v:V):∀fs:List (Str×V),(eB f v fs).length<=fs.length+1
 | []=>by simp[eB]
 | (k,x)::r=>by
  have ih:=CO f v r;rw[show eB f v ((k,x)::r)=(if k=f then(k,v)::r else(k,x)::eB f v r) from rfl];by_cases hk:k=f
  ·rw[KI hk,Uk,Uk];omega
  ·rw[JS hk,Uk,Uk];omega
theorem fk.some_of(r:fk (some v) o):∃u,o=some u/\aN v u:=by
 cases o with
 |none=>exact(show False from r).elim
 |some u=>exact⟨u,rfl,r⟩
theorem fk.none_of(r:fk none o):o=none:=by
 cases o with
 |none=>rfl
 |some u=>exact(show False from r).elim
theorem Kr(r:aN v u):Tr u=true:=by
 cases v with
 |non=>cases (show u=Vy from r);rfl
 |bl b=>cases (show u=W3 b from r);rfl
 |int i=>obtain⟨t,e⟩:=(show ∃t,u=Ww i t from r);cases e;rfl
 |str x=>obtain⟨t,e⟩:=(show ∃t,u=Xo x t from r);cases e;rfl
 |byt b=>obtain⟨t,e⟩:=(show ∃t,u=T3 b t from r);cases e;rfl
 |flt b=>obtain⟨t,e⟩:=(show ∃t,u=Sy b t from r);cases e;rfl
 |ref a=>cases (show u=UW a from r);rfl
 |ty n=>cases (show u=Xk n from r);rfl
theorem wz(hok:bV P w H h)(e:H a=some (.ins C dx fs)):∃mA,nJ h a dx C mA/\(∀f,fk (fs.lookup f) (mA f))/\ZT mA (fs.map (·.1))/\fs.length<=1000/\H dx=some (.own a):=by
 obtain⟨d,z,ne,ob,mA,n,r,q⟩:=(show cz P w H h a (.ins C dx fs) from hok a _ e);exact⟨mA,⟨ob,n,ne⟩,r,q,z,d⟩
structure dU (Z:T5) (C:J7):Prop where
 pg:Yt Z C Str.empty=true
 hd:Y0 Z C=true
 po:Z7 Z C=true
 sa:We Z (.ref C) "__setattr__"=some (some (.builtin "object.__setattr__"))
theorem dU.get(c:dU Z C)(f:Str):Yt Z C f=true:=c.pg
def NoAttr(Z:T5)(C:J7)(f:Str):Prop:=We Z (.ref C) f=some none
theorem NoAttr.taker(n:NoAttr Z C f):Zm Z C f=some none:=by
 unfold Zm;rw[show We Z (.ref C) f=some none from n];rfl
structure iG (Z:T5) (C:J7) (m:Str) (f:J7):Prop where
 at_:We Z (.ref C) m=some (some (.ref f))
 fn:YA Z (.ref f)=true
 kp:Wf Z (.ref f)=true
section
variable{X:Cx}{acT:List (J7×Obj)}{U:St}{H:Hp}{s:K9}{a C dx:J7}{fs:List (Str×V)}{f:Str}{v:V}{A:Lu}{E:JK->K9->Prop}
theorem Ks{b:Bool}{Q:JK->K9->Prop}(I:ag X acT U H s)(e:H a=some (.ins C dx fs))(c:dU X.K C)(n:NoAttr X.K C f)(l:fs.lookup f=some v)
 (h:∀u s',ag X acT U H s'->aN v u->Q u s'):KS (Kc X.prog X.w) A (getAttr (.ref a) f b) Q E s:=by
 obtain⟨mA,O,r,_,_,_⟩:=wz I.hok e;obtain⟨u,hu,ru⟩:=fk.some_of (v:=v) (o:=mA f) (by rw[<-l];exact r f);exact Kn I.kIn O (c.get f) c.hd n hu (Kr ru) (h u _ (I.tok _) ru)
theorem tI{m:Str}{g:J7}{pl:Sem Bool}{Q:JK×List JK->K9->Prop}(I:ag X acT U H s)(e:H a=some (.ins C dx fs))(c:dU X.K C)(k:iG X.K C m g)(l:fs.lookup m=none)
 (h:Q (.ref g,[.ref a]) s):KS (Kc X.prog X.w) A (Pj (.ref a) m pl) Q E s:=by
 obtain⟨mA,O,r,_,_,_⟩:=wz I.hok e;have hn:mA m=none:=fk.none_of (by rw[<-l];exact r m);exact Ko I.kIn O (c.get m) k.at_ k.fn hn h
theorem Kt{u:JK}{Q:Unit->K9->Prop}(I:ag X acT U H s)(e:H a=some (.ins C dx fs))(c:dU X.K C)(n:NoAttr X.K C f)(hl:fs.length < 1000)(ry:aN y u)
 (h:∀s',ag X acT U (ah H a (.ins C dx (eB f y fs))) s'->Q () s'):KS (Kc X.prog X.w) A (setAttr (.ref a) f u) Q E s:=by
 obtain⟨mA,O,r,wi,_,ho⟩:=wz I.hok e;have hz:(fs.map (·.1)).length<=LB:=by rw[T6,My];omega
 refine Kp I.kIn O c.sa c.po n.taker c.hd wi hz λh' O' sb=>h _ ?_;have hd:∃o,h'.get? dx=some o:=let ⟨o,_,_,e',_⟩:=O'.ns;⟨o,e'⟩
 refine I.write (x:=a) (e:=dx) (by rw[e];exact VY) (.inr ho) (λb q hb z=>(sb.2 b hb).trans z) hd ?_;refine⟨by rw[aD O.ne];exact ho,?_,O.ne,O'.obj,_,O'.ns,λg=>?_,λg hg=>?_⟩
 ·have:=CO f y fs;omega
 ·show fk ((eB f y fs).lookup g) (if g=f then some u else mA g);rw[CN];by_cases q:g=f
  ·rw[KI q,KI q];exact ry
  ·rw[JS q,JS q];exact r g
 ·by_cases q:g=f
  ·rw[q];exact(wy f y fs).1
  ·refine(wy f y fs).2 g (wi g λz=>hg ?_);show(if g=f then some u else mA g)=none;rw[JS q];exact z
theorem ag.made(I:ag X acT U H s):ag X acT U (ah (ah H s.heap.objs.size (.own (s.heap.objs.size+1))) (s.heap.objs.size+1) (.ins C s.heap.objs.size []))
 {s with heap:=(s.heap.push Wg).push (WL C s.heap.objs.size)}:=by
 have e1:(s.heap.push Wg).get? s.heap.objs.size=some Wg:=UE s.heap rfl;have e2:((s.heap.push Wg).push (WL C s.heap.objs.size)).get? (s.heap.objs.size+1)=some (WL C s.heap.objs.size):=by
  have:=UE (s.heap.push Wg) (o:=WL C s.heap.objs.size) rfl
  rwa [WH]at this
 have e3:(s.heap.push Wg).Ns s.heap.objs.size (λ_=>none):=⟨Wg,#[],_,e1,rfl,(λe he=>absurd he KJ),λ_=>rfl⟩;have I1:=I.laid (a:=s.heap.objs.size) (o:= .own (s.heap.objs.size+1)) (h':=s.heap.push Wg) (t':=s.toks) (λb u q=>Ua _ q) (T8 _) ⟨_,e1⟩;refine I1.laid (a:=s.heap.objs.size+1) (o:= .ins C s.heap.objs.size []) (t':=s.toks) (λb u q=>Ua _ q) (ZU (WH _ _)) ?_;have ne:s.heap.objs.size≠s.heap.objs.size+1:=UQ (V9 _);refine⟨by rw[aD ne,bF],UY _,ne,e2,λ_=>none,(Heap.Ns1.of_empty e3).at λo q=>Ua _ q,λ_=>VY,λy hy=>absurd rfl hy⟩
theorem Ku{f:Str}{s:K9}(hb:Nn e f env (eval e env)=eval e env)
 (h:KS (Kc prog w) A (eval e env) (λo s₁=>KS (Kc prog w) A (getAttr o f true) Q E s₁) E s):KS (Kc prog w) A (eval (.Attribute e f pos) env) Q E s:=
 Attribute_any_ h (by rw[arm_eval_Attribute,hb])
end
def Kv(Z:T5)(ta:TE)(f:Str):TE:=λU H Q=>ta U H λx H1=>∃a C dx fs v,x= .ref a/\H1 a=some (.ins C dx fs)/\dU Z C/\NoAttr Z C f/\fs.lookup f=some v/\Q v H1
def Kw(Z:T5)(ta tv:TE)(f:Str):TS:=λD U H=>tv U H λy H1=>ta U H1 λx H2=>∃a C dx fs,x= .ref a/\H2 a=some (.ins C dx fs)/\dU Z C/\NoAttr Z C f/\fs.length < 1000/\
 D.nx U (ah H2 a (.ins C dx (eB f y fs)))
theorem tJ(he:PE X e ta)(hb:Nn e f X.env (eval e X.env)=eval e X.env):PE X (.Attribute e f pos) (Kv X.K ta f):=by
 intro acT s U H Q I h;refine Ku hb (aE (he acT s U H _ I h) λu s1 ⟨x,H1,I1,rx,a,C,dx,fs,v,ex,ea,c,n,l,q⟩=>?_);subst ex;obtain rfl:u=UW a:=rx;exact Ks I1 ea c n l λu' s2 I2 ru=>⟨v,H1,I2,ru,q⟩
theorem wA(ha:PE X o ta)(hv:PE X value tv)(hs:M3 value (some (.Attribute o f pos')) pos.line X.env=pure false):PS X (.Assign [.Attribute o f pos'] value pos) (Kw X.K ta tv f):=by
 intro acT s U H D I h;refine plainObj_wpAny_Assign_Attribute (aE (hv acT s U H _ I h) λu s1 ⟨y,H1,I1,ry,q⟩=>aE (ha acT s1 U H1 _ I1 q) λov s2 ⟨x,H2,I2,rx,a,C,dx,fs,ex,ea,c,n,l,q2⟩=>?_) hs;subst ex;obtain rfl:ov=UW a:=rx;exact Kt I2 ea c n l ry λs3 I3=>⟨U,_,I3,q2⟩
theorem aaC{pl:Sem Bool}{m:Str}{args:List L8}{acT:List (J7×Obj)}{s:K9}{U:St}{Q:JK->K9->Prop}{te:TE}(he:PE X e te)(I:ag X acT U H s)
 (h:te U H λx H1=>∃a C dx fs g,x= .ref a/\H1 a=some (.ins C dx fs)/\dU X.K C/\iG X.K C m g/\fs.lookup m=none/\
   ∀s1,ag X acT U H1 s1->KS (Kc X.prog X.w) X.A (callWith pos (.ref g) [.ref a] (LR pos (Ke args X.env)) (NP pos (Nb [] X.env))) Q X.xe s1)
 (ht:eval (.Call (.Attribute e m apos) args [] pos) X.env=(do
   let ov<-eval e X.env
   O6 apos.atName
   let (f,first)<-NO [ov] (Pj ov m pl)
   callWith pos f first (LR pos (Ke args X.env)) (NP pos (Nb [] X.env)))):
 KS (Kc X.prog X.w) X.A (eval (.Call (.Attribute e m apos) args [] pos) X.env) Q X.xe s:=by
 refine XR (pl:=pl) (aE (he acT s U H _ I h) λu s1 ⟨x,H1,I1,rx,a,C,dx,fs,g,ex,ea,c,k,l,q⟩=>?_) ht;subst ex;obtain rfl:u=UW a:=rx;exact tI I1 ea c k l (q s1 I1)
structure bz (k:Nat) (A:Lu):Prop where
 hd:A.handled=none
 dp:A.depth+3*k+5 < recursionLimit
 un:A.units+16*k+200 < Ll
theorem bz.mono(r:bz k A)(h:j<=k):bz j A:=⟨r.hd,by have:=r.dp;omega,by have:=r.un;omega⟩
theorem bz.deeper(r:bz (k+1) A)(env:Env):bz k (A.deeper env):=
 ⟨r.hd,by have:=r.dp;show A.depth+1+3*k+5 < _;omega,by have:=r.un;show A.units+3+16*k+200 < _;omega⟩
theorem bz.in1(r:bz (k+1) A):bz k A.in1:=
 ⟨r.hd,by have:=r.dp;show A.depth+3*k+5 < _;omega,by have:=r.un;show A.units+1+16*k+200 < _;omega⟩
theorem Kx{A:Lu}:(A.under (.builtin "type.__call__" ⟨.ref C::us,kw⟩)).depth=A.depth+1:=by
 first|rfl|simp[ZV,Code.weight,Code.isCreation,Code.isGuard,Code.isCaller,SE,ZW,guardIds]
theorem Ky{A:Lu}:(A.under (.builtin "type.__call__" ⟨.ref C::us,kw⟩)).units=A.units+1:=by
 first|rfl|simp[ZV,Code.cUnits,SE,ZW]
theorem bz.make(r:bz (k+1) A)(C:J7)(us:List JK)(kw:List (Str×JK)):bz k (A.under (.builtin "type.__call__" ⟨.ref C::us,kw⟩)):=
 ⟨r.hd,by have:=r.dp;rw[Kx];omega,by have:=r.un;rw[Ky];omega⟩
theorem bz.depth(r:bz k A):A.depth < recursionLimit:=by have:=r.dp;omega
theorem bz.units(r:bz k A):A.units+64 < Ll:=by have:=r.un;omega
theorem bz.units0(r:bz k A):A.units < Ll:=by have:=r.un;omega
def qa:TA:=λ_ H Q=>Q [] H
def CQ(ta:TE)(tr:TA):TA:=λU H Q=>ta U H λx H1=>tr U H1 λxs H2=>Q (x::xs) H2
theorem cA:PA X [] qa:=λ_ _ _ _ H Q I h=>Y1 ⟨[],H,I,.nil,h⟩
theorem bJ(ha:PE X e te)(hr:PA X es t)(hs:Ke (e::es) X.env=(false,eval e X.env)::Ke es X.env:=by rfl):PA X (e::es) (CQ te t):=by
 intro pos acT s U H Q I h;rw[hs];show KS _ _ (spliced ((false,eval e X.env)::LR pos (Ke es X.env))) _ _ s;refine X8 (aE (ha acT s U H _ I h) λu s1 ⟨x,H1,I1,r1,q1⟩=>?_);exact aE (hr pos acT s1 U H1 _ I1 q1) λus s2 uu=>by obtain⟨xs,H2,I2,r2,q2⟩:=uu;exact⟨x::xs,H2,I2,.cons r1 r2,q2⟩
def CS(t:TA):TE:=λU H Q=>t U H λxs H1=>xs.length<=LB/\∀p,H1 p=none->Q (.ref p) (ah H1 p (.tup xs))
def CT(t:TA):TE:=λU H Q=>t U H λxs H1=>xs.length<=LB/\∀p,H1 p=none->Q (.ref p) (ah H1 p (.lst xs))
theorem CU(h:PA X es t):PE X (.Tuple es x1 pos) (CS t):=by
 intro acT s U H Q I hq;refine wpAny_Tuple_spliced (aE (h pos acT s U H _ I hq) λus s1 ⟨xs,H1,I1,r,z,q⟩=>⟨by rw[<-r.length];exact z,?_⟩);have hf:H1 s1.heap.objs.size=none:=I1.hok.fresh (T8 _);refine⟨.ref s1.heap.objs.size,ah H1 s1.heap.objs.size (.tup xs),I1.laid (t':=s1.toks) (λb u e=>Ua _ e) (T8 _) ?_,rfl,q _ hf⟩;exact⟨z,us,r,⟨_,UE _ rfl,rfl,_,rfl⟩⟩
theorem Kz(h:PA X es t):PE X (.List es pos) (CT t):=by
 intro acT s U H Q I hq;refine wpAny_List_spliced (aE (h pos acT s U H _ I hq) λus s1 ⟨xs,H1,I1,r,z,q⟩=>⟨by rw[<-r.length];exact z,?_⟩);have hf:H1 s1.heap.objs.size=none:=I1.hok.fresh (T8 _);refine⟨.ref s1.heap.objs.size,ah H1 s1.heap.objs.size (.lst xs),I1.laid (t':=s1.toks) (λb u e=>Ua _ e) (T8 _) ?_,rfl,q _ hf⟩;exact⟨z,us,0,r,UE _ rfl⟩
abbrev Sp:=List V->Hp->VK->XK->Prop
abbrev fF:=List Env->Hp->K9->XK->JK->K9->Prop
structure jC (P:M8) (w:LZ) (Z:T5) (mg:Str->Option JK) (base:LO) (A:Lu) (outer:List Env) (s:K9) (H:Hp):Prop where
 frames:A.frames=some outer
 mod:Mod Z mg base
 bs:∀b o,base.get? b=some o->s.heap.get? b=some o/\H b=none
 bsz:base.objs.size<=s.heap.objs.size
 funs:s.heap.FunFrames base outer
 frf:∀b∈h7 outer,H b=none
 hok:bV P w H s.heap
 bare:OP s.gens
def CE(outer:List Env)(P:M8)(w:LZ)(H:Hp)(s:K9)(Q:VK)(u:JK)(s':K9):Prop:=
 ∃v H',s'.os=s.os/\OP s'.gens/\Un (h7 outer) [] H H' s.heap s'.heap/\bV P w H' s'.heap/\aN v u/\Q v H'
def CR(CX:fF)(outer:List Env)(P:M8)(w:LZ)(H:Hp)(s:K9)(Q:VK)(E:XK)(r:Result)(s':K9):Prop:=
 match r with
 | .ok (.ret u)=>CE outer P w H s Q u s'
 | .ok _=>False
 | .error e=>CX outer H s E e s'
structure aB (P:M8) (w:LZ) (Z:T5) (mg:Str->Option JK) (base:LO) (CX:fF) (k:Nat) (f:J7) (fd:L7) (ps:List Str) (sp:Sp):Prop where
 len:∀vs H Q E,sp vs H Q E->vs.length=ps.length
 run:∀(A:Lu)(outer:List Env)(s:K9)(H:Hp)(args:Args)(us:List JK)(vs:List V)(Q:VK)(E:XK),bz k A->jC P w Z mg base A outer s H->BindsTo s fd args (ps.zip us)->aL vs us->sp vs H Q E->
  Mo (Kc P w) A (.call (.ref f) args) (CR CX outer P w H s Q E) s
theorem aB.mono(F:aB P w Z mg base CX j f fd ps sp)(h:j<=k):
 aB P w Z mg base CX k f fd ps sp:=⟨F.len,λA outer s H args us vs Q E hr=>F.run A outer s H args us vs Q E (hr.mono h)⟩
theorem aB.imp{sp sp':Sp}(F:aB P w Z mg base CX k f fd ps sp)
 (h:∀vs H Q E,sp' vs H Q E->sp vs H Q E):aB P w Z mg base CX k f fd ps sp':=
 ⟨λvs H Q E q=>F.len vs H Q E (h _ _ _ _ q),λA outer s H args us vs Q E hr he hb hv hs=>F.run A outer s H args us vs Q E hr he hb hv (h _ _ _ _ hs)⟩
theorem jC.make(e:jC P w Z mg base A outer s H)(C:J7)(us:List JK)(kw:List (Str×JK)):
 jC P w Z mg base (A.under (.builtin "type.__call__" ⟨.ref C::us,kw⟩)) outer s H:=⟨by first|exact e.frames | (simpa [ZV,Code.envs,ZW,pushEnvs]using e.frames),e.mod,e.bs,e.bsz,e.funs,e.frf,e.hok,e.bare⟩
theorem jC.in1(e:jC P w Z mg base A outer s H):
 jC P w Z mg base A.in1 outer s H:=⟨e.frames,e.mod,e.bs,e.bsz,e.funs,e.frf,e.hok,e.bare⟩
section
variable{X:Cx}{acT:List (J7×Obj)}{U:St}{H:Hp}{s s':K9}
theorem ag.env0(I:ag X acT U H s):jC X.prog X.w X.K X.mg X.base X.A X.stack s H:=
 ⟨I.ok.frames,I.ok.mod,I.bs,UN I.ok.bsz I.sz,I.stack,I.stkFree,I.hok,I.bare⟩
theorem ag.after{Q:VK}{u:JK}(I:ag X acT U H s)(h:CE X.stack X.prog X.w H s Q u s'):EP X acT U Q u s':=by
 obtain⟨v,H',os,bare,un,hok,r,q⟩:=h;obtain⟨hh,g,d,t,os'⟩:=s';obtain rfl:os'=s.os:=os;exact⟨v,H',I.call (h':=hh) (g':=g) (d':=d) (t':=t) (ch:=[]) un hok bare (λb z=>absurd z KJ),r,q⟩
end
def qc(sp:Sp)(dvs:List V)(E:XK)(t:TA):TE:=λU H Q=>t U H λvs H1=>sp (vs++dvs) H1 Q E
def rG(C:J7)(m:Str)(sp:Sp)(dvs:List V)(E:XK)(ta:TE)(t:TA):TE:=λU H Q=>ta U H λx H1=>∃a dx fs,x= .ref a/\H1 a=some (.ins C dx fs)/\fs.lookup m=none/\
 t U H1 λvs H2=>sp (x::(vs++dvs)) H2 Q E
def CV(C:J7)(sp:Sp)(dvs:List V)(E:XK)(t:TA):TE:=λU H Q=>t U H λvs H1=>∀x dx,H1 x=none->H1 dx=none->dx≠x->
 sp (.ref x::(vs++dvs)) (ah (ah H1 dx (.own x)) x (.ins C dx [])) (λv H2=>v= .non/\Q (.ref x) H2) E
def dW(Z:T5)(fd:L7)(ps:List Str)(ds:List JK):Prop:=
 ∀(s:K9)(us:List JK),Z.In s.heap->(us++ds).length=ps.length->BindsTo s fd ⟨us,[]⟩ (ps.zip (us++ds))
theorem dW.all{ps:List Str}(h:∀us:List JK,us.length=ps.length->bindArgs fd ⟨us,[]⟩=pure (ps.zip us)):dW Z fd ps []:=λs us _ hl=>by
 rw[UX]at hl⊢;exact .of_eq (h us hl)
def iH(CX:fF)(X:Cx)(E:XK):Prop:=∀(acT:List (J7×Obj))(U:St)(H:Hp)(s:K9)(e:JK)(s':K9),ag X acT U H s->CX X.stack H s E e s'->X.xe e s'
section
variable{X:Cx}{CX:fF}{k:Nat}{f C:J7}{fd:L7}{ps:List Str}{sp:Sp}{dvs:List V}{ds:List JK}{E:XK}{x m:Str}{p pos apos:Pos}{e o:L8}{es:List L8}{ta:TE}{t:TA}
theorem rH{acT:List (J7×Obj)}{U:St}{s:K9}{Q:VK}{us:List JK}{vs:List V}(F:aB X.prog X.w X.K X.mg X.base CX k f fd ps sp)(hr:bz k X.A)(hb:dW X.K fd ps ds)(hd:aL dvs ds)(hx:iH CX X E)
 (I:ag X acT U H s)(r:aL vs us)(h:sp (vs++dvs) H Q E):KS (Kc X.prog X.w) X.A (call (.ref f) us) (EP X acT U Q) X.xe s:=by
 have r2:aL (vs++dvs) (us++ds):=r.append hd;have hl:(us++ds).length=ps.length:=by rw[<-r2.length];exact F.len _ _ _ _ h
 refine wpAny_call (OZ (F.run X.A X.stack s H ⟨us,[]⟩ (us++ds) (vs++dvs) Q E hr I.env0 (hb s us I.kIn hl) r2 h) λr s' hq=>?_);cases r with
 |error e=>exact hx acT U H s e s' I hq
 |ok fl=>
  cases fl with
  |ret u=>exact I.after hq
  |next=>exact V8 hq
  |brk=>exact V8 hq
  |cont=>exact V8 hq
theorem CW(F:aB X.prog X.w X.K X.mg X.base CX k f fd ps sp)(hr:bz k X.A)(hg:Gl X x)(hm:X.mg x=some (.ref f))(hk:Wf X.K (.ref f)=true)(hb:dW X.K fd ps ds)(hd:aL dvs ds)(hx:iH CX X E)
 (ha:PA X (e::es) t)(hdb:(x==("__debug__":Str))=false:=by decide)(he:Ke (e::es) X.env=(false,eval e X.env)::Ke es X.env:=by rfl)(hpl:(LR pos (Ke es X.env)).any (·.1)=false:=by rfl):
 PE X (.Call (.Name x p) (e::es) [] pos) (qc sp dvs E t):=by
 intro acT s U H Q I h;refine P0 (ri I hg hm ?_ hdb);refine X9 (h₀:=X.base) I.ok.mod.kin hk (aE (ha pos acT s U H _ I h) λus s1 ⟨vs,H1,I1,r,q⟩=>⟨I1.kIn,?_⟩) he hpl;exact rH F hr hb hd hx I1 r q
theorem KA(F:aB X.prog X.w X.K X.mg X.base CX k f fd ps sp)(hr:bz k X.A)(hg:Gl X x)(hm:X.mg x=some (.ref f))(hk:Wf X.K (.ref f)=true)(hb:dW X.K fd ps ds)(hd:aL dvs ds)(hx:iH CX X E)
 (hdb:(x==("__debug__":Str))=false:=by decide):PE X (.Call (.Name x p) [] [] pos) (qc sp dvs E qa):=by
 intro acT s U H Q I h;refine P0 (ri I hg hm ?_ hdb);exact ZN I.kIn hk (rH (us:=[]) F hr hb hd hx I .nil h)
theorem CY{pl:Sem Bool}(he:PE X o ta)(c:dU X.K C)(hm:iG X.K C m f)(F:aB X.prog X.w X.K X.mg X.base CX k f fd ps sp)(hr:bz k X.A)(hb:dW X.K fd ps ds)(hd:aL dvs ds)(hx:iH CX X E)(ha:PA X (e::es) t)
 (hst:Ke (e::es) X.env=(false,eval e X.env)::Ke es X.env:=by rfl)(hpl:(LR pos (Ke es X.env)).any (·.1)=false:=by rfl)
 (ht:eval (.Call (.Attribute o m apos) (e::es) [] pos) X.env=(do
   let ov<-eval o X.env
   O6 apos.atName
   let (f,first)<-NO [ov] (Pj ov m pl)
   callWith pos f first (LR pos (Ke (e::es) X.env)) (NP pos (Nb [] X.env))):=by rfl):
 PE X (.Call (.Attribute o m apos) (e::es) [] pos) (rG C m sp dvs E ta t):=by
 intro acT s U H Q I h;refine XR (pl:=pl) (aE (he acT s U H _ I h) λu s1 ⟨x,H1,I1,rx,a,dx,fs,ex,ea,l,q⟩=>?_) ht;subst ex;obtain rfl:u=UW a:=rx;refine tI I1 ea c hm l ?_;refine X9 (first:=[.ref a]) (h₀:=X.base) I.ok.mod.kin hm.kp (aE (ha pos acT s1 U H1 _ I1 q) λus s2 ⟨vs,H2,I2,r,q2⟩=>⟨I2.kIn,?_⟩) hst hpl;exact rH (us:= .ref a::us) (vs:= .ref a::vs) F hr hb hd hx I2 (.cons rfl r) q2
theorem tK(he:PE X o ta)(c:dU X.K C)(hm:iG X.K C m f)(F:aB X.prog X.w X.K X.mg X.base CX k f fd ps sp)(hr:bz k X.A)(hb:dW X.K fd ps ds)(hd:aL dvs ds)(hx:iH CX X E)
 (ht:eval (.Call (.Attribute o m apos) [] [] pos) X.env=(do
   let ov<-eval o X.env
   O6 apos.atName
   let (f,first)<-NO [ov] (Pj ov m pl)
   callWith pos f first (LR pos (Ke [] X.env)) (NP pos (Nb [] X.env))):=by rfl):
 PE X (.Call (.Attribute o m apos) [] [] pos) (rG C m sp dvs E ta qa):=by
 intro acT s U H Q I h;refine XR (pl:=pl) (aE (he acT s U H _ I h) λu s1 ⟨x,H1,I1,rx,a,dx,fs,ex,ea,l,q⟩=>?_) ht;subst ex;obtain rfl:u=UW a:=rx;refine tI I1 ea c hm l ?_;exact ZN (first:=[.ref a]) I1.kIn hm.kp (rH (us:=[.ref a]) (vs:=[.ref a]) F hr hb hd hx I1 (.cons rfl .nil) q)
structure Mk (Z:T5) (C f:J7):Prop where
 makes:Zn Z C=true
 init:We Z (.ref C) "__init__"=some (some (.ref f))
 fn:YA Z (.ref f)=true
 kp:Wf Z (.ref C)=true
theorem KC{acT:List (J7×Obj)}{U:St}{s:K9}{Q:VK}{us:List JK}{vs:List V}(M:Mk X.K C f)(F:aB X.prog X.w X.K X.mg X.base CX k f fd ps sp)(hr:bz (k+1) X.A)(hb:dW X.K fd ps ds)(hd:aL dvs ds)
 (hx:iH CX X E)(I:ag X acT U H s)(r:aL vs us)
 (h:∀x dx,H x=none->H dx=none->dx≠x->sp (.ref x::(vs++dvs)) (ah (ah H dx (.own x)) x (.ins C dx [])) (λv H2=>v= .non/\Q (.ref x) H2) E):
 KS (Kc X.prog X.w) X.A (call (.ref C) us) (EP X acT U Q) X.xe s:=by
 have hq:=h (s.heap.objs.size+1) s.heap.objs.size (I.hok.fresh (VI _)) (I.hok.fresh (T8 _)) (UQ (V9 _));have I2:=ag.made (C:=C) I;have r2:aL (V.ref (s.heap.objs.size+1)::(vs++dvs)) (UW (s.heap.objs.size+1)::(us++ds)):= .cons rfl (r.append hd);have hl:(UW (s.heap.objs.size+1)::us++ds).length=ps.length:=by
  have e:=r2.length;rw[F.len _ _ _ _ hq]at e;exact e.symm
 refine wpAny_call (Kq (f:=f) I.kIn M.makes M.init (beq_iff_eq.mp M.fn) (OZ (F.run _ X.stack _ _ ⟨UW (s.heap.objs.size+1)::us,[]⟩ (UW (s.heap.objs.size+1)::(us++ds)) _ _ E (hr.make C us [])
  (I2.env0.make C us []) (hb _ (UW (s.heap.objs.size+1)::us) I2.kIn hl) r2 hq) λr s' hq'=>?_))
 cases r with
 |error e=>exact hx acT U _ _ e s' I2 hq'
 |ok fl=>
  cases fl with
  |ret u=>
   obtain⟨v,H',I3,rv,ev,q3⟩:=I2.after hq';subst ev;exact⟨rv,⟨V.ref (s.heap.objs.size+1),H',I3,rfl,q3⟩⟩
  |next=>exact V8 hq'
  |brk=>exact V8 hq'
  |cont=>exact V8 hq'
theorem qg(M:Mk X.K C f)(F:aB X.prog X.w X.K X.mg X.base CX k f fd ps sp)(hr:bz (k+1) X.A)(hg:Gl X x)(hm:X.mg x=some (.ref C))(hb:dW X.K fd ps ds)(hd:aL dvs ds)(hx:iH CX X E)
 (ha:PA X (e::es) t)(hdb:(x==("__debug__":Str))=false:=by decide)(he:Ke (e::es) X.env=(false,eval e X.env)::Ke es X.env:=by rfl)(hpl:(LR pos (Ke es X.env)).any (·.1)=false:=by rfl):
 PE X (.Call (.Name x p) (e::es) [] pos) (CV C sp dvs E t):=by
 intro acT s U H Q I h;refine P0 (ri I hg hm ?_ hdb);refine X9 (h₀:=X.base) I.ok.mod.kin M.kp (aE (ha pos acT s U H _ I h) λus s1 ⟨vs,H1,I1,r,q⟩=>⟨I1.kIn,?_⟩) he hpl;exact KC M F hr hb hd hx I1 r q
end
structure aO (N P:List Str) (sc:MC):Prop where
 kind:sc.kind= .function
 co:sc.isCoroutine=false
 gen:sc.isGenerator=false
 nd:N.Nodup
 pre:N.take P.length=P
 par:∀x∈P,sc.names.lookup x=some .local\/sc.names.lookup x=some .cell
 nofree:∀y∈sc.names,y.2≠ .free
theorem CZ{kindOf:Str->Option Ma}{x:Str}:∀{binds:List (Str×JK)}{m:Str->Option JK},(∀v,(x,v)∉ binds)->bindL kindOf binds m x=m x
 | [],_,_=>rfl
 | (n,v)::r,m,h=>by
  unfold bindL;rw[CZ λw hw=>h w (UD _ hw)];split
  ·have:x≠n:=by rintro rfl;exact h v UG
   simp[this]
  ·rfl
theorem C0{kindOf:Str->Option Ma}{x:Str}:∀{binds:List (Str×JK)}{m:Str->Option JK},(∀v,(x,v)∉ binds)->bindC kindOf binds m x=m x
 | [],_,_=>rfl
 | (n,v)::r,m,h=>by
  unfold bindC;rw[C0 λw hw=>h w (UD _ hw)];split
  ·rfl
  ·have:x≠n:=by rintro rfl;exact h v UG
   simp[this]
theorem C1{kindOf:Str->Option Ma}:∀{P:List Str}{vs:List JK}{i:Nat}{m:Str->Option JK},P.Nodup->P[i]?=some x->vs[i]?=some v->kindOf x=some .local->
 bindL kindOf (P.zip vs) m x=some v
 | [],_,_,_,_,h,_,_=>by simp at h
 |_::_,[],_,_,_,_,h,_=>by simp at h
 |p::P,w::vs,0,m,nd,h1,h2,hk=>by
  simp at h1 h2;subst h1;subst h2;show bindL kindOf ((p,w)::P.zip vs) m p=_;unfold bindL;rw[CZ λv hv=>(Vz.mp nd).1 (Zo hv).1,KI hk];simp
 |p::P,w::vs,i+1,m,nd,h1,h2,hk=>by
  show bindL kindOf ((p,w)::P.zip vs) m x=_;unfold bindL;exact C1 (i:=i) (Vz.mp nd).2 (by simpa using h1) (by simpa using h2) hk
theorem C3{kindOf:Str->Option Ma}:∀{P:List Str}{vs:List JK}{i:Nat}{m:Str->Option JK},P.Nodup->P[i]?=some x->vs[i]?=some v->kindOf x≠some .local->
 bindC kindOf (P.zip vs) m x=some v
 | [],_,_,_,_,h,_,_=>by simp at h
 |_::_,[],_,_,_,_,h,_=>by simp at h
 |p::P,w::vs,0,m,nd,h1,h2,hk=>by
  simp at h1 h2;subst h1;subst h2;show bindC kindOf ((p,w)::P.zip vs) m p=_;unfold bindC;rw[C0 λv hv=>(Vz.mp nd).1 (Zo hv).1,JS hk];simp
 |p::P,w::vs,i+1,m,nd,h1,h2,hk=>by
  show bindC kindOf ((p,w)::P.zip vs) m x=_;unfold bindC;exact C3 (i:=i) (Vz.mp nd).2 (by simpa using h1) (by simpa using h2) hk
def start(N:List Str)(vs:List V):St:=vs.map some++Uz (N.length - vs.length) none
def jd(CX:fF)(P:M8)(w:LZ)(Z:T5)(mg:Str->Option JK)(base:LO)(N:List Str)(qual:Str)(scope:MC)(f:J7)(cd:JK)(A:Lu)(outer:List Env)(s:K9)(H:Hp)(E:XK):Cx where
 prog:=P
 w:=w
 K:=Z
 mg:=mg
 base:=base
 A:=A.deeper (NM qual scope s.heap.objs.size f cd)
 N:=N
 s₀:=s
 H₀:=H
 env:=NM qual scope s.heap.objs.size f cd
 outer:=outer
 stack:=NM qual scope s.heap.objs.size f cd::outer
 ex:=[]
 calm:=true
 fn:=λ_=>true
 pn:=[]
 xe:=λe s'=>KS (Kc P w) (A.deeper (NM qual scope s.heap.objs.size f cd)) (leaving (NM qual scope s.heap.objs.size f cd) e) (λ_ s''=>CX outer H s E e s'') (λe' s''=>CX outer H s E e' s'') s'
theorem C4{sc:MC}(h:sc.names.lookup x=some .cell):∃c,(MT n sc.names []).lookup x=some c:=by
 have q:=Yn sc.names n [] (.inl h);exact Ya.mp q
theorem KD{A:Lu}{vs:List V}
 (S:aO N ps scope)(hd:A.handled=none)(e0:jC P w Z mg base A outer s H)(hl:vs.length=ps.length)(r:aL vs us)
 (x:InCallC s s.heap.objs.size (bindL (NM qual scope s.heap.objs.size f cd).kindOf (ps.zip us) λ_=>none) (MT (s.heap.objs.size+1) scope.names []) (bindC (NM qual scope s.heap.objs.size f cd).kindOf (ps.zip us) λ_=>none) s1):
 ag (jd CX P w Z mg base N qual scope f cd A outer s H E) [] (start N vs) H s1:=by
 have hpl:ps.length<=N.length:=by have:=congrArg YM S.pre;rw[U6]at this;omega
 obtain⟨h1,tk,rfl,hk⟩:=x.done;have noA:∀b:J7,b∉(jd CX P w Z mg base N qual scope f cd A outer s H E).ex:=λb z=>absurd (show b∈([]:List J7) from z) KJ;refine⟨⟨e0.mod,S.kind,rfl,rfl,T8 _,λy z c h1 h2=>?_,λy hy=>?_,λy c _ h=>?_,λ_=>hd,Around.frames_deeper e0.frames,.inr ⟨rfl,rfl⟩,λb z=>absurd z (noA b),e0.bs,e0.bsz,λb _ _=>noA b,λb z=>absurd z (noA b),e0.funs,e0.frf⟩,
  rfl,e0.bare,Un.kept hk,⟨_,x.toInCall.ns,λi y v h1 h2 h3=>?_⟩,λy c h=>⟨_,x.cell y c h⟩,e0.hok.fresh (T8 _),λy c h=>?_,λp hp=>absurd (show p∈([]:List (J7×Obj)) from hp) KJ,e0.hok.kept hk,?_⟩
 ·exact name_of_addr x.apart (Wy h1) (Wy h2)
 ·have hy:scope.names.lookup y=some .cell\/scope.names.lookup y=some .free:=hy;rcases hy with hy|hy
  ·exact C4 hy
  ·exact absurd rfl (S.nofree _ (Wy hy))
 ·exact WM (x.above y c (Wy h))
 ·have hi:i < vs.length:=by
   unfold start at h2;by_cases hi:i < vs.length
   ·exact hi
   ·rw[VT (by simpa using hi)]at h2;rw[WY]at h2;split at h2<;>cases h2
  have ha:vs[i]?=some v:=by
   unfold start at h2;rw[Vm (by simpa using hi),Ul]at h2;cases e:vs[i]? with
   |none=>rw[e]at h2;cases h2
   |some a=>rw[e]at h2;cases h2;rfl
  obtain⟨u,hu,rv⟩:=r.get ha;have hp:ps[i]?=some y:=by
   rw[<-S.pre,List.getElem?_take_of_lt J1];exact h1
  have ndP:ps.Nodup:=by rw[<-S.pre];exact S.nd.sublist (List.take_sublist _ _)
  refine⟨u,rv,?_⟩;rcases S.par y (UJ hp) with k|k
  ·exact .inl ⟨k,C1 ndP hp hu k⟩
  ·obtain⟨c,e⟩:=C4 (n:=s.heap.objs.size+1) k;refine .inr ⟨.inl k,c,e,?_⟩;have q:=x.cell y c e;rw[C3 ndP hp hu (by show scope.names.lookup y≠_;rw[k];decide)]at q;exact q
 ·exact e0.hok.fresh (WM (x.above y c (Wy h)))
 ·unfold start;show _=N.length;rw[Ux,T6,Yx];omega
theorem KH{Z:T5}{dV kV doc pm cdv ct oc:JK}
 {sp:Sp}(lk:Z.lookup f=some ⟨oc,od,.func (Wk name qual params body scope dV kV doc pm an cdv ct),osl⟩)(hcd:Yi Z cdv qual=true)(S:aO N ps scope)
 (len:∀vs H Q E,sp vs H Q E->vs.length=ps.length)
 (hbody:∀(A:Lu) (outer:List Env) (s:K9) (H:Hp) (vs:List V) (Q:VK) (E:XK),bz k (A.deeper (NM qual scope s.heap.objs.size f cdv))->sp vs H Q E->
   ∃t,b0 (jd CX P w Z mg base N qual scope f cdv A outer s H E) body t/\t {nx:=λ_ H'=>Q .non H',rt:=Q} (start N vs) H):
 aB P w Z mg base CX (k+1) f (Wk name qual params body scope dV kV doc pm an cdv ct) ps sp:=by
 refine⟨len,λA outer s H args us vs Q E hr e0 hb r hsp=>?_⟩;have hl:=len _ _ _ _ hsp;have KX:Z.In s.heap:=e0.mod.kin.keeps λb o e=>(e0.bs b o e).1;have lim:s.heap.NoLimit:=e0.mod.nolimit.keeps λb o e=>(e0.bs b o e).1;have hkind:∀y∈ps.zip us,scope.names.lookup y.1=some .local\/(scope.names.lookup y.1=some .cell/\((MT (s.heap.objs.size+1) scope.names []).lookup y.1).isSome=true):=λuu hy=>by
  obtain⟨n,v⟩:=uu;rcases S.par n (Zo hy).1 with q|q
  ·exact .inl q
  ·exact .inr ⟨q,Yn _ _ _ (.inl q)⟩
 refine codeAny_call_function hr.depth (KX _ _ lk) rfl S.co S.gen rfl (PySem.W.codeRec_of KX hcd) (hb _ _ _ _ ?_);refine wpAny_newFunctionEnv_cells S.kind hkind λenv he s1 x=>?_;subst he;refine⟨lim.keeps x.toInCall.keep,codeAny_func ?_⟩;obtain⟨t,ht,hq⟩:=hbody A outer s H vs Q E (hr.deeper _) hsp;have I:ag (jd CX P w Z mg base N qual scope f cdv A outer s H E) [] (start N vs) H s1:=KD S hr.hd e0 hl r x;refine MB (ht [] s1 (start N vs) H _ I hq) (λfl s' hs=>?_) λe s' hs=>hs;have fin:∀{U':St}{H':Hp}{v:V}{u:JK},ag (jd CX P w Z mg base N qual scope f cdv A outer s H E) [] U' H' s'->aN v u->Q v H'->CE outer P w H s Q u s':=
  λ{U' H' v u} J rv q=>⟨v,H',J.os,J.bare,J.base,J.hok,rv,q⟩
 cases fl with
 |ret u=>
  obtain⟨v,U',H',J,rv,q⟩:=hs;exact fin J rv q
 |next=>
  obtain⟨U',H',J,q⟩:=hs;exact fin (v:=V.non) (u:=Vy) J rfl q
 |brk=>
  obtain⟨_,_,_,q⟩:=hs;exact V8 q
 |cont=>
  obtain⟨_,_,_,q⟩:=hs;exact V8 q
section
variable{X:Cx}{x:Str}{p pos:Pos}{e:L8}{es:List L8}{t:TA}{id T:String}{r:List V->Hp->VK->Prop}
def tL(r:List V->Hp->VK->Prop)(t:TA):TE:=λU H Q=>t U H λvs H1=>r vs H1 Q
theorem bY(hc:fo X (.builtin id) r)(hg:Gl X x)(hm:X.mg x=none)(hv:M9 x=some (.builtin id))(ha:PA X (e::es) t)(hn:x≠"__name__":=by decide)(hdb:(x==("__debug__":Str))=false:=by decide)
 (he:Ke (e::es) X.env=(false,eval e X.env)::Ke es X.env:=by rfl)(hpl:(LR pos (Ke es X.env)).any (·.1)=false:=by rfl):PE X (.Call (.Name x p) (e::es) [] pos) (tL r t):=by
 intro acT s U H Q I h;refine P0 (j4 I hg hm hv ?_ hn hdb);exact PyProof.Rows.callWith_builtin1 (aE (ha pos acT s U H _ I h) λus s1 uu=>by obtain⟨vs,H1,I1,r1,q1⟩:=uu;exact hc acT s1 U H1 vs us Q I1 r1 q1) he hpl
theorem eD(hc:fo X (.type T) r)(hg:Gl X x)(hm:X.mg x=none)(hv:M9 x=some (.type T))(ha:PA X (e::es) t)(hn:x≠"__name__":=by decide)(hdb:(x==("__debug__":Str))=false:=by decide)
 (he:Ke (e::es) X.env=(false,eval e X.env)::Ke es X.env:=by rfl)(hpl:(LR pos (Ke es X.env)).any (·.1)=false:=by rfl):PE X (.Call (.Name x p) (e::es) [] pos) (tL r t):=by
 intro acT s U H Q I h;refine P0 (j4 I hg hm hv ?_ hn hdb);exact Wx (aE (ha pos acT s U H _ I h) λus s1 uu=>by obtain⟨vs,H1,I1,r1,q1⟩:=uu;exact hc acT s1 U H1 vs us Q I1 r1 q1) he hpl
end
end L2
namespace HT
open PySem PyProof.Rows
theorem eqAt_int(A:Lu)(s:K9)(a:Int)(t:Tok)(c:Int)(u:Tok):∃e,O5 A s (.int a t) (.int c u) e/\(e=true↔a=c):=
 ⟨(a==c),O5.int_int a t c u,KJ⟩
theorem rcLt_int(A:Lu)(s:K9)(a:Int)(t:Tok)(c:Int)(u:Tok)(prog:M8)(w:LZ)(E:JK->K9->Prop)(Q:JK->K9->Prop)(h:Q (.bool (decide (a < c))) s):
 KS (Kc prog w) A (richCompare .Lt (.int a t) (.int c u)) Q E s:=
 (PyProof.Rows.lt_int h:KS (Kc prog w) A (M6 .Lt (.int a t) (.int c u)) Q E s)
section
open PySem.SeqAt
open PySem.AutoSeq1 (wpAny_loadPart')
open PySem.MeetsSeq PySem.MeetsSeq2 PySem.MeetsSeq3
end
def sIx(n d:Nat):Option Int->Nat
 |none=>d
 |some v=>if v < 0 then(v+(n:Int)).toNat else min v.toNat n
theorem wB(n d:Nat):sIx n d none=d:=rfl
theorem sIx_nat(n d k:Nat):sIx n d (some (k:Int))=min k n:=by
 show(if (k:Int) < 0 then((k:Int)+(n:Int)).toNat else min (k:Int).toNat n)=min k n;rw[JS J1,VD]
theorem aa1(n d:Nat)(hd:d<=n)(o:Option Int):sIx n d o<=n:=by
 cases o with
 |none=>exact hd
 |some v=>
  show(if v < 0 then(v+(n:Int)).toNat else min v.toNat n)<=n;by_cases hv:v < 0
  ·rw[KI hv];omega
  ·rw[JS hv];exact Y9 _ _
theorem C5(v:Int)(n d:Nat):(if v < 0 then max (v+(n:Int)) 0 else min v (n:Int))=((sIx n d (some v):Nat):Int):=by
 show(if v < 0 then max (v+(n:Int)) 0 else min v (n:Int))=(((if v < 0 then(v+(n:Int)).toNat else min v.toNat n):Nat):Int);by_cases hv:v < 0
 ·simp only[KI hv];omega
 ·simp only[JS hv];omega
theorem aa3(lo hi:Option Int)(n:Nat):Wj lo hi 1 (n:Int)=(((sIx n 0 lo:Nat):Int),((sIx n n hi:Nat):Int)):=by
 have h1:¬((1:Int) < 0):=J1
 unfold Wj;simp only[h1,if_false];refine Prod.ext ?_ ?_
 ·cases lo with
  |none=>rfl
  |some v=>exact C5 v n 0
 ·cases hi with
  |none=>rfl
  |some v=>exact C5 v n n
theorem aaY(i j:Nat):VH (i:Int) (j:Int) 1=j - i:=by
 unfold VH;have h1:(1:Int) > 0:=J1
 simp only[h1,if_true,oC];split<;>omega
theorem C6{Q:Option Int->K9->Prop}(p:IsPart v o)(h:Q o s):KS (Kc prog w) A (Builtin.Slice.slicePartIndex v) Q E s:=by
 cases p with
 |none=>exact RJ h
 |int i t=>exact slicePart_int h
theorem sliceApplied_gen{sl:J7}{vl vu:JK}{lo hi:Option Int}{n:Nat}{Q:Int×Int×Nat->K9->Prop}(hs:s.heap.IsSliceOf sl vl vu .none)(pl:IsPart vl lo)(pu:IsPart vu hi)
 (h:Q (((sIx n 0 lo:Nat):Int),1,sIx n n hi - sIx n 0 lo) s):KS (Kc prog w) A (Xd (.ref sl) (pure (n:Int))) Q E s:=by
 obtain⟨os,hos,hcs,hds⟩:=id hs;unfold Xd Y4;refine JY (JY (Ng hos hds (x:=vl) rfl (JY (Ng hos hds (x:=vu) rfl (JY (Ng hos hds (x:= .none) rfl (Kd ?_)))))));refine JY (RJ ?_);show KS _ _ (if ((1:Int)==0)=true then _ else _) _ _ s;rw[JS KL];refine JY (C6 pl (JY (C6 pu (JY (Kd ?_)))));show KS _ _ (match Wj lo hi 1 (n:Int) with | (lo,hi)=>pure (lo,(1:Int),VH lo hi 1)) _ _ s;rw[aa3 lo hi n];show KS _ _ (pure (((sIx n 0 lo:Nat):Int),(1:Int),VH ((sIx n 0 lo:Nat):Int) ((sIx n n hi:Nat):Int) 1)) _ _ s;rw[aaY];exact Kd h
theorem KN(xs:Array JK)(i k:Nat):((Vo k).filterMap λ(m:Nat)=>xs[((i:Int)+(m:Int)*1).toNat]?).toArray=((xs.toList.drop i).take k).toArray:=by
 have e:(λ(m:Nat)=>xs[((i:Int)+(m:Int)*1).toNat]?)=λm=>xs[i+m]?:=by
  funext m;have:((i:Int)+(m:Int)*1).toNat=i+m:=J1
  rw[this]
 rw[e];have:=pick_run xs i k;rw[YN]at this;have e2:((λx=>xs[x]?)∘ λx=>i+x)=λm=>xs[i+m]?:=rfl;rw[e2]at this;rw[this]
theorem getItem_tuple_cut{t sl:J7}{items:Array JK}{vl vu:JK}{lo hi:Option Int}{Q:JK->K9->Prop}(ht:IsTup s.heap t items)(hs:s.heap.IsSliceOf sl vl vu .none)(pl:IsPart vl lo)(pu:IsPart vu hi)
 (hw:¬(sIx items.size 0 lo=0/\sIx items.size items.size hi=items.size))
 (h:Q (.ref s.heap.objs.size) {s with heap:=s.heap.push {cls:= .type "tuple",data:= .seq ((items.toList.drop (sIx items.size 0 lo)).take (sIx items.size items.size hi - sIx items.size 0 lo)).toArray}})
 (hsz:items.size<=LB):KS (Kc prog w) A (N7 (.ref t) (.ref sl)) Q E s:=by
 have htake:sizeOk (.seq ((items.toList.drop (sIx items.size 0 lo)).take (sIx items.size items.size hi - sIx items.size 0 lo)).toArray):=by
  show((items.toList.drop (sIx items.size 0 lo)).take (sIx items.size items.size hi - sIx items.size 0 lo)).toArray.size<=LB;rw[Uu,U6,Xq,UH];omega
 have hj:sIx items.size items.size hi<=items.size:=aa1 _ _ (T8 _) hi;obtain⟨os,hos,hcs,hds⟩:=id hs;have hTs:s.TypeIs (.ref sl) "slice":=⟨os,hos,hcs⟩;unfold N7
 try with_reducible refine Mh ?_
 first|refine JY (Kd ?_)|skip
 refine JY (RZ ht.typeIs KL ?_);refine JY (Nu (name:=T4 "__getitem__") ht.typeIs VR
  (N6 VR ht.typeIs entry_tuple_getitem ?_ (args_tuple_getitem _ _)))
 show KS _ _ (XY (.ref t) >>=_) _ _ s;refine JY (tupleItemsOf_ ht ?_);refine JY (QG hTs ?_);rw[KI KL];refine JY (sliceApplied_gen hs pl pu ?_);have hno:¬((((sIx items.size 0 lo:Nat):Int)==0 && (1:Int)==1 && (sIx items.size items.size hi - sIx items.size 0 lo)==items.size)=true):=by
  intro q;rw[U0,U0]at q;have q1:((sIx items.size 0 lo:Nat):Int)=0:=eq_of_beq q.1.1;have q2:sIx items.size items.size hi - sIx items.size 0 lo=items.size:=eq_of_beq q.2;exact hw ⟨J1,J1⟩
 show KS _ _ (if (((sIx items.size 0 lo:Nat):Int)==0 && (1:Int)==1 && (sIx items.size items.size hi - sIx items.size 0 lo)==items.size)=true then _ else _) _ _ s;rw[JS hno,KN]
 first
  |exact JY (m:=VJ _) (MG (Kd ⟨_,rfl,Kd h⟩) htake)
  |exact JY (m:=VJ _) (MG (JY (Kd (Kd ⟨_,rfl,Kd h⟩))) htake)
  |exact JY (JY (m:=VJ _) (MG (Kd (Kd ⟨_,rfl,Kd h⟩)) htake))
  |exact JY (JY (m:=VJ _) (MG (Kd ⟨_,rfl,Kd h⟩) htake))
end HT
namespace L2
open PySem PySem.Spec PyProof.Rows
abbrev TO:=St->Hp->(Option Int->Hp->Prop)->Prop
def PO(X:Cx)(e:Option L8)(t:TO):Prop:=
 ∀(acT:List (J7×Obj))(s:K9)(U:St)(H:Hp)(Q:Option Int->Hp->Prop),ag X acT U H s->t U H Q->
  KS (Kc X.prog X.w) X.A (evalPart e X.env) (λu s'=>∃o H',ag X acT U H' s'/\IsPart u o/\Q o H') X.xe s
def KO:TO:=λ_ H Q=>Q none H
def KP(t:TE):TO:=λU H Q=>t U H λx H1=>∃i,x= .int i/\Q (some i) H1
theorem KQ{ns:List Int}:∀{us:List JK},aL (ns.map V.int) us->Lx us ns:=by
 induction ns with
 |nil=>intro us r;rw[U9]at r;cases r;exact .nil
 |cons n ns ih=>
  intro us r;rw[T9]at r;cases r with
  |cons r1 r2=>
   obtain⟨t,e⟩:=r1;subst e;exact .cons n t (ih r2)
section
variable{X:Cx}{e:L8}{te:TE}{lo hi:Option L8}{tl th:TO}{pos p2:Pos}
theorem KR:PO X none KO:=by
 intro acT s U H Q I h;rw[evalPart_none];exact Kd ⟨none,H,I,.none,h⟩
theorem abb(h:PE X e te):PO X (some e) (KP te):=by
 intro acT s U H Q I hw;rw[evalPart_some];refine aE (h acT s U H _ I hw) λu s1 ⟨x,H1,I1,r1,q1⟩=>?_;obtain⟨i,rfl,q⟩:=q1;obtain⟨t,rfl⟩:=r1;exact⟨some i,H1,I1,.int i t,q⟩
def tM(X:Cx)(r:V->Option Int->Option Int->Hp->VK->Prop):Prop:=
 ∀(acT:List (J7×Obj))(s:K9)(U:St)(H:Hp)(x:V)(v vl vu:JK)(lo hi:Option Int)(sl:J7)(Q:VK),ag X acT U H s->aN x v->s.heap.IsSliceOf sl vl vu .none->IsPart vl lo->IsPart vu hi->r x lo hi H Q->
  ∃T id,typeLookup (.type T) "__getitem__"=pure (some (.builtin id))/\s.TypeIs v T/\KS (Kc X.prog X.w) X.A (N7 v (.ref sl)) (EP X acT U Q) X.xe s
def aa2(r:V->Option Int->Option Int->Hp->VK->Prop)(te:TE)(tl th:TO):TE:=λU H Q=>te U H λx H1=>tl U H1 λl H2=>th U H2 λu H3=>r x l u H3 Q
theorem wC{r:V->Option Int->Option Int->Hp->VK->Prop}(hr:tM X r)(he:PE X e te)(hl:PO X lo tl)(hu:PO X hi th):PE X (.Subscript e (.Slice lo hi none p2) pos) (aa2 r te tl th):=by
 intro acT s U H Q I h;refine Subscript_ (aE (he acT s U H _ I h) λv s1 ⟨x,H1,I1,r1,q1⟩=>?_);refine wpAny_Slice (aE (hl acT s1 U H1 _ I1 q1) λvl s2 ⟨l,H2,I2,pl,q2⟩=>aE (hu acT s2 U H2 _ I2 q2) λvu s3 ⟨u,H3,I3,pu,q3⟩=>?_);rw[evalPart_none];refine Kd ?_;have I4:ag X acT U H3 {s3 with heap:=s3.heap.push {cls:= .type "slice",data:= .fields #[vl,vu,.none]}}:=I3.kept (t':=s3.toks) λb ob q=>Ua _ q;obtain⟨T,id,hT,ht,hg⟩:=hr acT {s3 with heap:=s3.heap.push {cls:= .type "slice",data:= .fields #[vl,vu,.none]}} U H3 x v vl vu l u s3.heap.objs.size Q I4 r1 (ZX ..) pl pu q3;show KS (Kc X.prog X.w) X.A (RU e (.Slice lo hi none p2) v (.ref s3.heap.objs.size)) (EP X acT U Q) X.xe {s3 with heap:=s3.heap.push {cls:= .type "slice",data:= .fields #[vl,vu,.none]}};exact tail_any (ops:=[.ref s3.heap.objs.size,v]) ht hT hg (by with_unfolding_all rfl)
def j9(xs:List V)(lo hi:Option Int):List V:=(xs.drop (HT.sIx xs.length 0 lo)).take (HT.sIx xs.length xs.length hi - HT.sIx xs.length 0 lo)
theorem C7(xs:List V)(lo hi:Option Int):(j9 xs lo hi).length<=xs.length:=by
 unfold j9;rw[U6,Xq];omega
def KW(Z:T5):V->Option Int->Option Int->Hp->VK->Prop:=λx lo hi H Q=>∃a xs,x= .ref a/\br Z H a xs/\
 ¬(HT.sIx xs.length 0 lo=0/\HT.sIx xs.length xs.length hi=xs.length)/\∀p,H p=none->Q (.ref p) (ah H p (.tup (j9 xs lo hi)))
theorem KY:tM X (KW X.K):=by
 intro acT s U H x v vl vu lo hi sl Q I rx hs pl pu h;obtain⟨a,xs,rfl,hx,hw,q⟩:=h;cases rx;obtain⟨its,r,ht,hz⟩:=I.tuple hx;have hlen:its.toArray.size=xs.length:=by rw[Uu];exact r.length.symm
 refine⟨"tuple",_,VR.lookup,ht.typeIs,?_⟩;refine HT.getItem_tuple_cut ht hs pl pu (by rw[hlen];exact hw) ?_ (by rw[hlen];exact hz);rw[hlen];refine⟨.ref s.heap.objs.size,_,I.laid (t':=s.toks) (o:= .tup (j9 xs lo hi)) (λb ob q=>Ua _ q) (T8 _) ?_,rfl,q _ (I.hok.fresh (T8 _))⟩;exact⟨UN (C7 xs lo hi) hz,_,(r.drop (HT.sIx xs.length 0 lo)).take (HT.sIx xs.length xs.length hi - HT.sIx xs.length 0 lo),SA _ _⟩
end
def jD(n:Nat)(i:Int):Option Nat:=if 0<=i then(if i < n then some i.toNat else none) else if -(n:Int)<=i then some (i+n).toNat else none
def atI{α:Type}(xs:List α)(i:Int):Option α:=(jD xs.length i).bind λj=>xs[j]?
theorem KZ(h:jD n i=some j):seqIndex? i n=some j/\j < n/\-(n:Int)<=i/\i < n:=by
 unfold jD at h;by_cases h0:0<=i
 ·rw[KI h0]at h;by_cases h1:i < n
  ·rw[KI h1]at h;have e:i.toNat=j:=Ve h;exact⟨by rw[seqIndex_of h0 h1,e],J1,J1,h1⟩
  ·rw[JS h1]at h;cases h
 ·rw[JS h0]at h;by_cases h1:-(n:Int)<=i
  ·rw[KI h1]at h;have e:(i+n).toNat=j:=Ve h;exact⟨by rw[seqIndex_neg J1 h1,e],J1,h1,J1⟩
  ·rw[JS h1]at h;cases h
theorem wD{α:Type}{xs:List α}{i:Int}{v:α}(h:atI xs i=some v):∃j,seqIndex? i xs.length=some j/\xs[j]?=some v/\j < xs.length/\-(xs.length:Int)<=i/\i < xs.length:=by
 unfold atI at h;cases e:jD xs.length i with
 |none=>rw[e]at h;cases h
 |some j=>
  rw[e]at h;obtain⟨h1,h2,h3,h4⟩:=KZ e;exact⟨j,h1,h,h2,h3,h4⟩
theorem gN{α:Type}{xs:List α}{j:Nat}{v:α}(h:xs[j]?=some v):atI xs (j:Int)=some v:=by
 have hj:j < xs.length:=(Uj.mp h).1;have e:jD xs.length (j:Int)=some j:=by
  unfold jD;rw[KI J1,KI J1];simp
 unfold atI;rw[e];exact h
theorem C8{α:Type}(xs:List α)(v:α):atI (xs++[v]) (-1)=some v:=by
 have hl:(xs++[v]).length=xs.length+1:=KJ
 have e:jD (xs++[v]).length (-1)=some xs.length:=by
  unfold jD;rw[hl,JS KL,KI J1];congr 1;omega
 unfold atI;rw[e];show(xs++[v])[xs.length]?=some v;simp
def K0(b:L8):Prop:=∀o i,QL b false o i=operate [o,i] (N7 o i)
def qh(X:Cx)(r:R2):Prop:=
 ∀(value slice:L8)(acT:List (J7×Obj))(s:K9)(U:St)(H:Hp)(x y:V)(v u:JK)(Q:VK),ag X acT U H s->aN x v->aN y u->r x y H Q->
  QL slice false v u=operate [v,u] (N7 v u)->KS (Kc X.prog X.w) X.A (RU value slice v u) (EP X acT U Q) X.xe s
def K3(X:Cx)(id:String)(r:V->List V->Hp->VK->Prop):Prop:=
 ∀(acT:List (J7×Obj))(s:K9)(U:St)(H:Hp)(x:V)(xs:List V)(v:JK)(us:List JK)(Q:VK),ag X acT U H s->aN x v->aL xs us->r x xs H Q->
  KS (Kc X.prog X.w) X.A (call (.builtin id) (v::us)) (EP X acT U Q) X.xe s
section
variable{X:Cx}{a b:L8}{ta tb:TE}{pos:Pos}
theorem kc(hr:qh X r)(ha:PE X a ta)(hb:PE X b tb)(hs:K0 b):PE X (.Subscript a b pos) (p9 r ta tb):=by
 intro acT s U H Q I h;exact Subscript_ (wt ha hb I h λv u s2 x y H2 I2 rx ry q=>hr a b acT s2 U H2 x y v u Q I2 rx ry q (hs _ _))
def wF(Z:T5):R2:=λx y H Q=>∃p xs i v,x= .ref p/\y= .int i/\bA Z H p xs/\atI xs i=some v/\Q v H
def tN(Z:T5):R2:=λx y H Q=>∃p xs i v,x= .ref p/\y= .int i/\br Z H p xs/\atI xs i=some v/\Q v H
def C9:R2:=λx y H Q=>∃z i c,x= .str z/\y= .int i/\z.length<=LB/\atI z.cps.toList i=some c/\Q (.str ⟨#[c]⟩) H
theorem aX:qh X (wF X.K):=by
 intro value slice acT s U H x y v u Q I rx ry h hs;obtain⟨p,xs,i,z,rfl,rfl,hq,he,q⟩:=h;cases rx;obtain⟨t,rfl⟩:=ry;obtain⟨its,r,pl,hz⟩:=I.list hq;obtain⟨j,h1,h2,h3,h4,h5⟩:=wD he;obtain⟨w,ew,rw'⟩:=r.get h2;have hl:=r.length;have hn:=rE;have fin:EP X acT U Q w s:=⟨z,H,I,rw',q⟩;by_cases h0:0<=i
 ·have hj:i.toNat=j:=by
   rw[seqIndex_of h0 h5]at h1;exact Ve h1
  exact item_listR pl.isList h0 J1 (by rw[hj];simpa using ew) fin hs
 ·have hj:(i+(its.toArray.size:Int)).toNat=j:=by
   rw[seqIndex_neg J1 h4]at h1;rw[Uu,<-hl];exact Ve h1
  exact subscriptTail_builtinR (x:=w) pl.isList.typeIs slot_list_getitem.lookup
   (wpAny_getItem_list_neg (Q:=λr s'=>r=w/\EP X acT U Q r s') pl.isList J1 (by rw[Uu]<;>omega) J1 (by rw[hj];simpa using ew) ⟨rfl,fin⟩) hs
theorem aF:qh X (tN X.K):=by
 intro value slice acT s U H x y v u Q I rx ry h hs;obtain⟨p,xs,i,z,rfl,rfl,hq,he,q⟩:=h;cases rx;obtain⟨t,rfl⟩:=ry;obtain⟨its,r,pl,hz⟩:=I.tuple hq;obtain⟨j,h1,h2,h3,h4,h5⟩:=wD he;obtain⟨w,ew,rw'⟩:=r.get h2;have hl:=r.length;have hn:=rE;have fin:EP X acT U Q w s:=⟨z,H,I,rw',q⟩;exact subscriptTail_builtinR (x:=w) pl.typeIs slot_tuple_getitem.lookup
  (getItem_tuple (j:=j) (Q:=λr s'=>r=w/\EP X acT U Q r s') pl J1 J1 (by rw[Uu,<-hl];exact h1) (by simpa using ew) ⟨rfl,fin⟩) hs
theorem Dc:qh X C9:=by
 intro value slice acT s U H x y v u Q I rx ry h hs;obtain⟨z,i,c,rfl,rfl,hz,he,q⟩:=h;obtain⟨t,rfl⟩:=rx;obtain⟨t',rfl⟩:=ry;obtain⟨j,h1,h2,h3,h4,h5⟩:=wD he;have hl:z.cps.toList.length=z.length:=by simp[Str.length]
 rw[hl]at h1 h4 h5;have hn:=rE;exact tail_any (Q4 s z t) slot_str_getitem.lookup (getItem_str (c:=c) (by
  have e1:decide (i < -(2 ^ 63:Int))=false:=decide_eq_false J1;have e2:decide (i >= 2 ^ 63)=false:=decide_eq_false J1;rw[e1,e2,Wo]) (by rw[h1];simpa using h2) ⟨.str ⟨#[c]⟩,H,I.tok _,⟨_,rfl⟩,q⟩) hs
theorem K4(lo hi:Option Int)(n:Nat):(PV lo hi none n).1=((HT.sIx n 0 lo:Nat):Int)/\(PV lo hi none n).2.1=((HT.sIx n n hi:Nat):Int)/\(PV lo hi none n).2.2=1:=by
 refine⟨?_,?_,rfl⟩
 ·cases lo with
  |none=>simp[PV,HT.sIx]
  |some i=>
   simp only[PV,HT.sIx,Za,show(1:Int) > 0 by decide,if_true];by_cases h:i < 0
   ·simp only[h,if_true]<;>omega
   ·simp only[h,if_false]<;>omega
 ·cases hi with
  |none=>simp[PV,HT.sIx]
  |some i=>
   simp only[PV,HT.sIx,Za,show(1:Int) > 0 by decide,if_true];by_cases h:i < 0
   ·simp only[h,if_true]<;>omega
   ·simp only[h,if_false]<;>omega
theorem K5(its:List JK)(lo hi:Option Int):slicePick its.toArray lo hi none=((its.drop (HT.sIx its.length 0 lo)).take (HT.sIx its.length its.length hi - HT.sIx its.length 0 lo)).toArray:=by
 obtain⟨h1,h2,h3⟩:=K4 lo hi its.toArray.size;unfold slicePick;rw[h1,h2,h3];simp only[sliceRange_one,pick_run,Uu]<;>rfl
def K6(Z:T5):V->Option Int->Option Int->Hp->VK->Prop:=λx lo hi H Q=>∃a xs,x= .ref a/\bA Z H a xs/\∀p,H p=none->Q (.ref p) (ah H p (.lst (j9 xs lo hi)))
theorem Dd:tM X (K6 X.K):=by
 intro acT s U H x v vl vu lo hi sl Q I rx hs pl pu h;obtain⟨a,xs,rfl,hx,q⟩:=h;cases rx;obtain⟨its,r,ht,hz⟩:=I.list hx;have hlen:=r.length;refine⟨"list",_,slot_list_getitem.lookup,ht.isList.typeIs,?_⟩;refine wpAny_getItem_list_slice ht.isList hs pl pu .none KJ ?_ (by rw[Uu]<;>omega);rw[K5,<-hlen];refine⟨.ref s.heap.objs.size,_,I.laid (t':=s.toks) (o:= .lst (j9 xs lo hi)) (λb ob q=>Ua _ q) (T8 _) ?_,rfl,q _ (I.hok.fresh (T8 _))⟩;exact⟨UN (C7 xs lo hi) hz,_,0,(r.drop (HT.sIx xs.length 0 lo)).take (HT.sIx xs.length xs.length hi - HT.sIx xs.length 0 lo),UE _ rfl⟩
theorem c7:fo X (.builtin "len") (λxs H Q=>∃p ys,xs=[.ref p]/\(bA X.K H p ys\/br X.K H p ys)/\Q (.int ys.length) H):=by
 intro acT s U H xs us Q I r h;obtain⟨p,ys,rfl,hq,q⟩:=h;obtain⟨u,rfl,rx⟩:=fO r;cases rx;have hn:=rE;rcases hq with hq|hq
 ·obtain⟨its,r',pl,hz⟩:=I.list hq;have hlen:=r'.length;exact Calls.call_len_list pl.isList (by simp only[Uu]<;>omega) ⟨.int ys.length,H,I.tok _,⟨s.toks+1,by rw[Uu,hlen]⟩,q⟩
 ·obtain⟨its,r',pl,hz⟩:=I.tuple hq;have hlen:=r'.length;exact len_tuple pl (by simp only[Uu]<;>omega) ⟨.int ys.length,H,I.tok _,⟨s.toks+1,by rw[Uu,hlen]⟩,q⟩
theorem K7:fo X (.type "list") (λxs H Q=>∃p ys,xs=[.ref p]/\(bA X.K H p ys\/br X.K H p ys)/\∀l,H l=none->Q (.ref l) (ah H l (.lst ys))):=by
 intro acT s U H xs us Q I r h;obtain⟨p,ys,rfl,hq,q⟩:=h;obtain⟨u,rfl,rx⟩:=fO r;cases rx;have fin:∀(its:List JK),aL ys its->ys.length<=LB->∀(h':LO)(c':Nat),(∀b o',s.heap.get? b=some o'->h'.get? b=some o')->
  h'.get? s.heap.objs.size=some {cls:= .type "list",dict:=none,data:= .seq its.toArray c',slots:=#[]}->EP X acT U Q (.ref s.heap.objs.size) {s with heap:=h'}:=λits r' hz h' c' kp e=>
  ⟨.ref s.heap.objs.size,_,I.laid (t':=s.toks) kp (T8 _) (show cz X.prog X.w _ h' _ (.lst ys) from⟨hz,its,c',r',e⟩),rfl,q _ (I.hok.fresh (T8 _))⟩
 rcases hq with hq|hq
 ·obtain⟨its,r',pl,hz⟩:=I.list hq;have hlen:=r'.length;obtain⟨o,ho,hc,n,hd⟩:=pl.isList;exact call_list_seq p (.inl rfl) ho hc hd (λh' c' kp e=>fin its r' hz h' c' kp e) (by simp only[Uu]<;>omega)
 ·obtain⟨its,r',pl,hz⟩:=I.tuple hq;have hlen:=r'.length;obtain⟨o,ho,hc,n,hd⟩:=pl;exact call_list_seq p (.inr rfl) ho hc hd (λh' c' kp e=>fin its r' hz h' c' kp e) (by simp only[Uu]<;>omega)
theorem ia:fo X (.type "tuple") (λxs H Q=>∃p ys,xs=[.ref p]/\((bA X.K H p ys/\∀l,H l=none->Q (.ref l) (ah H l (.tup ys)))\/(br X.K H p ys/\Q (.ref p) H))):=by
 intro acT s U H xs us Q I r h;obtain⟨p,ys,rfl,h⟩:=h;obtain⟨u,rfl,rx⟩:=fO r;cases rx;rcases h with⟨hq,q⟩|⟨hq,q⟩
 ·obtain⟨its,r',pl,hz⟩:=I.list hq;have hlen:=r'.length;refine call_tuple_list pl.isList (λh' kp=>?_) (by simp only[Uu]<;>omega);have I1:ag X acT U H {s with heap:=h'}:=I.kept (t':=s.toks) kp;have I2:ag X acT U (ah H h'.objs.size (.tup ys)) {s with heap:=h'.push {cls:= .type "tuple",data:= .seq its.toArray}}:=
   I1.laid (t':=s.toks) (λb o e=>Ua _ e) (T8 _) (show cz X.prog X.w _ _ _ (.tup ys) from⟨hz,its,r',SA _ _⟩)
  exact⟨.ref h'.objs.size,_,I2,rfl,q _ (I1.hok.fresh (T8 _))⟩
 ·obtain⟨its,r',pl,hz⟩:=I.tuple hq;exact call_tuple_same pl ⟨.ref p,H,I,rfl,q⟩
def Df(Z:T5)(T:String)(x:V)(H:Hp):Prop:=match x with
 | .str _=>T="str"
 | .int _=>T="int"
 | .ref p=>(T="list"/\∃xs,bA Z H p xs)\/(T="tuple"/\∃o,Z.lookup p=some o/\o.cls= .type "tuple"/\o.dict=none)\/
  (T="dict"/\((∃kvs,H p=some (.dK kvs))\/∃kvs,H p=some (.dT kvs)))\/(T="set"/\∃S n,H p=some (.set S n))
 |_=>False
theorem K8{acT:List (J7×Obj)}{U:St}{s:K9}{T:String}{v:JK}(I:ag X acT U H s)(r:aN x v)(ty:Df X.K T x H):
 s.TypeIs v T/\∀a,v= .ref a->∃ob,s.heap.get? a=some ob/\ob.dict=none:=by
 cases x with
 |str z=>
  obtain⟨t,rfl⟩:=r;cases (show T="str" from ty);exact⟨Q4 s z t,λ_ e=>nomatch e⟩
 |int i=>
  obtain⟨t,rfl⟩:=r;cases (show T="int" from ty);exact⟨typeIs_int s i t,λ_ e=>nomatch e⟩
 |ref p=>
  cases r;rcases ty with⟨rfl,xs,hq⟩|⟨rfl,o,hk,hc,hd⟩|⟨rfl,hk⟩|⟨rfl,S,n,hk⟩
  ·obtain⟨its,_,pl,_⟩:=I.list hq;refine⟨pl.isList.typeIs,λa e=>?_⟩;cases e;obtain⟨o,n,e,c,hd,_⟩:=pl;exact⟨o,e,hd⟩
  ·refine⟨⟨o,I.kIn p o hk,hc⟩,λa e=>?_⟩;cases e;exact⟨o,I.kIn _ o hk,hd⟩
  ·have z:∃o,s.heap.get? p=some o/\o.ExactDict:=by
    rcases hk with⟨kvs,hk⟩|⟨kvs,hk⟩
    ·obtain⟨_,_,_,_,o,_,_,e,ex,_⟩:=I.hok p _ hk;exact⟨o,e,ex⟩
    ·obtain⟨_,_,_,_,o,_,_,e,ex,_⟩:=I.hok p _ hk;exact⟨o,e,ex⟩
   obtain⟨o,e,ex⟩:=z;refine⟨⟨o,e,ex.1⟩,λa e2=>?_⟩;cases e2;exact⟨o,e,ex.2.1⟩
  ·obtain⟨o,_,_,_,e,ex,_⟩:=I.hok p _ hk;refine⟨⟨o,e,ex.1⟩,λa e2=>?_⟩;cases e2;exact⟨o,e,ex.2.1⟩
 |_=>exact V8 ty
def aa8(Z:T5)(T:String)(r:V->List V->Hp->VK->Prop)(to:TE)(t:TA):TE:=λU H Q=>to U H λx H1=>Df Z T x H1/\t U H1 λxs H2=>r x xs H2 Q
variable{o e:L8}{es:List L8}{to:TE}{t:TA}{name:Str}{apos cpos:Pos}{T id:String}{r:V->List V->Hp->VK->Prop}
theorem wG(pa:PlainAttrs T)(slot:Slot T name id)(hty:typeOf (.builtin id)=pure (.type "method_descriptor"))(hm:K3 X id r)(ho:PE X o to)(ha:PA X (e::es) t)
 (hbase:Nn o name X.env (eval o X.env)=eval o X.env:=by rfl)
 (hfew:((LR cpos (Ke (e::es) X.env)).all (λx=>!x.1) && (NP cpos (Nb [] X.env)).all (λx=>x.1.isSome)
   && decide ((e::es).length+([]:List Nf).length+(if ([]:List Nf).isEmpty then 0 else 1) < 30))=true:=by rfl)
 (hline:(apos.endLine==cpos.line)=true:=by rfl)(hs:Ke (e::es) X.env=(false,eval e X.env)::Ke es X.env:=by rfl)(hplain:(LR cpos (Ke es X.env)).any (·.1)=false:=by rfl):
 PE X (.Call (.Attribute o name apos) (e::es) [] cpos) (aa8 X.K T r to t):=by
 intro acT s U H Q I h;refine wpAny_Call_method_late hbase hfew hline rfl (aE (ho acT s U H _ I h) λv s1 ⟨x,H1,I1,r1,ty,q1⟩=>?_);obtain⟨h1,h2⟩:=K8 I1 r1 ty;refine⟨T,id,pa,slot,hty,h1,h2,?_⟩;have hA:=ha cpos acT s1 U H1 _ I1 q1;rw[hs]at hA⊢;refine Yo (by show(false || (LR cpos (Ke es X.env)).any (·.1))=false;rw[hplain]<;>rfl) (YB ?_);exact aE hA λus s2 uu=>by obtain⟨vs,H2,I2,r2,q2⟩:=uu;exact hm acT s2 U H2 x vs v us Q I2 r1 r2 q2
end
def wH(X:Cx)(id:String)(r:V->List V->Hp->VK->Prop):Prop:=
 ∀(acT:List (J7×Obj))(s:K9)(U:St)(H:Hp)(x:V)(xs:List V)(v:JK)(us:List JK)(Q:VK),ag X acT U H s->aN x v->aL xs us->r x xs H Q->
  KS (Kc X.prog X.w) X.A (call (.builtin id) (v::us)) (EP X acT U Q) X.xe s
theorem aL.one:∀{x:V}{us:List JK},aL [x] us->∃u,us=[u]/\aN x u
 |_,_,.cons r .nil=>⟨_,rfl,r⟩
theorem aL.rep(h:aL xs us):∀k:Nat,aL (Uz k xs).flatten (Uz k us).flatten
 |0=>.nil
 |k+1=>by
  rw[V1,V1,Xi,Xi];exact aL.append h (aL.rep h k)
theorem Dg(its:List JK):∀(k:Nat)(acc:List JK),
 S8 (λx1 x2=>x1++x2) acc.toArray (Uz k its.toArray)=(acc++(Uz k its).flatten).toArray
 |0,acc=>by simp
 |k+1,acc=>by
  have e:acc.toArray++its.toArray=(acc++its).toArray:=KJ
  have e2:(acc++its)++(Uz k its).flatten=acc++(Uz (k+1) its).flatten:=by
   rw[V1,Xi,Vi]
  rw[<-e2,<-Dg its k (acc++its),<-e,V1,UO]
section
variable{X:Cx}{acT:List (J7×Obj)}{U:St}{H:Hp}{s:K9}{l b:J7}{xs ys zs:List V}
theorem ag.lset{its its':List JK}{n:Nat}{f:Array JK->Array JK}{t':Nat}(I:ag X acT U H s)(hH:H l=some (.lst xs))
 (e:s.heap.get? l=some {cls:= .type "list",data:= .seq its.toArray n})(hf:f its.toArray=its'.toArray)(hv:aL ys its')(hz:ys.length<=LB):
 ag X acT U (ah H l (.lst ys)) {s with heap:=s.heap.update l (Vu f),toks:=t'}:=by
 have q:=PySem.IsL.update e f;rw[hf]at q;refine I.write (x:=l) (e:=l) (by rw[hH];exact trivial) (.inl rfl) (λb' u hb hu=>(Vv s.heap (Vu f) (Ne.symm hb)).trans hu) ⟨_,q⟩ ?_;exact⟨hz,its',_,hv,q⟩
theorem ag.lnew{its:List JK}{t':Nat}(I:ag X acT U H s)(hv:aL ys its)(hz:ys.length<=LB):
 ag X acT U (ah H s.heap.objs.size (.lst ys)) {s with heap:=s.heap.push {cls:= .type "list",data:= .seq its.toArray},toks:=t'}:=
 I.laid (λ_ _ q=>Ua _ q) (T8 _) ⟨hz,its,0,hv,UE _ rfl⟩
theorem ag.fresh(I:ag X acT U H s):H s.heap.objs.size=none:=I.hok.fresh (T8 _)
theorem ag.lstM(I:ag X acT U H s)(hH:H l=some (.lst xs)):xs.length<=LB/\∃(its:List JK)(n:Nat),aL xs its/\xs.length=its.length/\s.heap.get? l=some {cls:= .type "list",data:= .seq its.toArray n}:=by
 obtain⟨z,its,n,r,e⟩:=I.hok l _ hH;exact⟨z,its,n,r,r.length,e⟩
theorem wI(h:n<=LB):WQ n=false:=by
 unfold WQ;exact decide_eq_false J1
end
def La:V->List V->Hp->VK->Prop:=λx vs H Q=>∃l xs y,x= .ref l/\vs=[y]/\H l=some (.lst xs)/\xs.length < LB/\Q .non (ah H l (.lst (xs++[y])))
theorem Dh:wH X "list.append" La:=by
 intro acT s U H x vs v us Q I rx rv h;obtain⟨l,xs,y,rfl,rfl,hH,hz,q⟩:=h;cases rx;obtain⟨u,rfl,ru⟩:=rv.one;obtain⟨z,its,n,r,hl,e⟩:=I.lstM hH;refine OF F.slot_list_append ⟨_,e,rfl⟩ F.entry_list_append (F.args_list_append_2 _ _) (PySem.list_append l its.toArray n u (by rw[Uu];omega)) ⟨e,?_⟩;refine⟨.non,_,I.lset (its':=its++[u]) hH e KJ (r.append (.cons ru .nil)) ?_,rfl,q⟩;rw[Ux,WI];omega
def Lb:V->List V->Hp->VK->Prop:=λx vs H Q=>∃l b xs zs,x= .ref l/\vs=[.ref b]/\H l=some (.lst xs)/\H b=some (.lst zs)/\xs.length+zs.length<=LB/\Q .non (ah H l (.lst (xs++zs)))
theorem Lc:wH X "list.extend" Lb:=by
 intro acT s U H x vs v us Q I rx rv h;obtain⟨l,b,xs,zs,rfl,rfl,hH,hB,hz,q⟩:=h;cases rx;obtain⟨u,rfl,ru⟩:=rv.one;cases ru;obtain⟨z,its,n,r,hl,e⟩:=I.lstM hH;obtain⟨z2,its2,n2,r2,hl2,e2⟩:=I.lstM hB;have hsz:its.toArray.size+its2.toArray.size<=LB:=by rw[Uu,Uu];omega
 have hlong:¬(!its.toArray.isEmpty && WQ (its.toArray.size+its2.toArray.size))=true:=by
  rw[wI hsz,YK];exact Ue
 refine OF F.slot_list_extend ⟨_,e,rfl⟩ F.entry_list_extend (F.args_list_extend_2 _ _)
  (Yu l its.toArray n b its2.toArray n2 hlong (by rw[Uu];omega) J1) ⟨e,e2,?_⟩
 refine⟨.non,_,I.lset (its':=its++its2) hH e KJ (r.append r2) ?_,rfl,q⟩;rw[Ux];omega
def Ld:R2:=λx y H Q=>∃l k xs,x= .ref l/\y= .int k/\H l=some (.lst xs)/\-(2 ^ 63)<=k/\k < 2 ^ 63/\xs.length*k.toNat<=LB/\
 ∀p,H p=none->Q (.ref p) (ah H p (.lst (Uz k.toNat xs).flatten))
theorem Le{α:Type}(xs:List α)(k:Nat):(Uz k xs).flatten.length=k*xs.length:=by
 induction k with
 |zero=>simp
 |succ k ih=>rw[V1,Xi,Ux,ih,Nat.succ_mul,Nat.add_comm]
theorem Lf:bU X (Mw .Mult) Ld:=by
 intro acT s U H x y v u Q I rx ry h;obtain⟨l,k,xs,rfl,rfl,hH,h1,h2,hz,q⟩:=h;cases rx;obtain⟨t,rfl⟩:=ry;obtain⟨z,its,n,r,hl,e⟩:=I.lstM hH;have hlen:its.toArray.size*k.toNat<=LB:=by rw[Uu,<-hl];exact hz
 have hcap:¬its.toArray.size*k.toNat > (2 ^ 63 - 1)/ 8:=by
  have:(LB:Nat)<=(2 ^ 63 - 1)/ 8:=KL
  omega
 have hfit:¬(!aaz k)=true:=by
  rw[fitsIndex_both h1 h2];exact Ue
 have hlong:¬WQ (its.toArray.size*k.toNat)=true:=by
  rw[wI hlen];exact Ue
 have hnew:S8 (λx1 x2=>x1++x2) #[] (Uz (if its.toArray.isEmpty=true then 0 else k.toNat) its.toArray)=(Uz k.toNat its).flatten.toArray:=by
  have f0:∀m:Nat,S8 (λx1 x2=>x1++x2) #[] (Uz m its.toArray)=(Uz m its).flatten.toArray:=λm=>by
   have:=Dg its m [];rw[Vf]at this;exact this
  rw[f0];cases its with
  |nil=>simp
  |cons a r'=>rw[JS KJ]
 refine wpAny_binaryOp_repeat_ref (T:="list") (U:="int") KL ⟨_,e,rfl⟩ (λs'=>typeIs_int s' k t) noFill_list_mul F.fills_int_mul F.slot_int_rmul repeat_list F.slot_int_index.lookup
  (OF F.slot_int_rmul (typeIs_int s k t) F.entry_int_rmul (F.args_int_rmul_2 _ _) (int___rmul___int_list k t l its.toArray n)
    ⟨e,rfl,⟨_,e,rfl⟩,OF F.slot_list_mul ⟨_,e,rfl⟩ F.entry_list_mul (F.args_list_mul_2 _ _) (AutoListH.list___mul___list_int_3 l its.toArray n k t hfit hcap hlong) ⟨e,?_⟩⟩)
 rw[hnew];exact⟨.ref _,_,I.lnew (t':=s.toks) (r.rep k.toNat) (by rw[Le,Nat.mul_comm];exact hz),rfl,q _ I.fresh⟩
end L2
namespace Att
open PySem PySem.W PySem.Calls PyProof.Rows
theorem Lg:∀(ns:List Int)(vs:List JK),WellAll P h vs (ns.map XA)->Lx vs ns:=by
 intro ns
 induction ns with
 |nil=>
  intro vs w;rw[U9]at w;cases w;exact .nil
 |cons n ns ih=>
  intro vs w;rw[T9]at w;cases w with
  |cons a b=>
   cases a;exact .cons _ _ (ih _ b)
theorem Lh{l:OpenLaw}(hn:l.most=some n)
 (hpre:l.row.toRowW.claim.pre args=true)(hwl:WellAll P h vals args):
 ∃a vs ns,vals=[UW a]/\args=[Y5 (ns.map XA)]/\h.get? a=some {cls:= .type "list",data:= .seq vs.toArray}/\Lx vs ns/\ns.length<=n:=by
 have hsh:WShape.hasAll [] args [.list .int]=true:=(pre_splitW hpre).1;have hc:l.pre.holds [] {args:=args}=true:=(pre_splitW hpre).2;obtain⟨d,r,rfl,h1,h2⟩:=hasAllW_cons hsh;obtain rfl:=hasAllW_nil h2;obtain⟨xs,rfl,h3⟩:=hasW_list h1;obtain⟨ns,rfl⟩:=items_int h3;have hlen:ns.length<=n:=by
  unfold OpenLaw.pre at hc;have h4:(WTm.not (.lt (.lit (.int (n:Int))) (.len (.arg 0)))).holds [] {args:=[.list (ns.map .int)]}=true:=by
   have h4:=(holds_andW hc).1;rw[hn]at h4;exact h4
  have h5:=condW_of h4 (w_not (w_lt w_lit (w_len_list (w_arg rfl))));rw[T6]at h5;refine WC λq=>?_;have q':(n:Int) < ((ns.length:Nat):Int):=J1
  first
   | (rw[decide_eq_true q']at h5;exact absurd h5 KL)
   | (simp at h5;omega)
 cases hwl with
 |cons w1 w2=>
  cases w2;cases w1 with
  |list ho hall=>exact⟨_,_,ns,rfl,rfl,ho,Lg ns _ hall,hlen⟩
theorem Li(l:OpenLaw)(args:List WData):l.row.toRowW.claim.post args (.bool true) args=true:=
 postW_of (r:=l.row.toRowW) (X:=(true==true))
  (show WShape.has [] (.bool true) .bool=true by first|rfl|decide|simp[WShape.has,WShape.arms,WShape.armsAll])
  (show(WTm.eq .res (.lit (.bool true))).value [] {args:=args,res:=some (.bool true),after:=args}=some (.bool (true==true)) from w_eq_bool (w_res rfl) w_lit) rfl
end Att
namespace L2
open PySem PySem.Spec PyProof.Rows
theorem Di:∀{vs:List JK}{ns:List Int},Lx vs ns->aL (ns.map V.int) vs
 |_,_,.nil=>.nil
 |_,_,.cons n t h=>.cons ⟨t,rfl⟩ (Di h)
def tO(H:Hp):Prop:=∀b,H b=none\/∃o xs,H b=some (.frz o (.lst xs))
theorem Lj{Z:T5}{s₁:K9}{vs:List JK}
 (KX:Z.In s₁.heap)(hns:s₁.heap.Ns LX mg)(hb:s₁.heap.Ns builtinsNs mb)(hbb:∀x:Str,x≠"__name__"->mb x=M9 x)(hlim:s₁.heap.NoLimit)(hg:s₁.gens=#[])
 (ha:s₁.heap.get? a=some {cls:= .type "list",data:= .seq vs.toArray})(hi:Lx vs ns)(hl:ns.length<=LB)(hr:bz k callerA)
 (F:∀base:LO,Z.In base->base.Ns LX mg->aB P w Z mg base CX k fa fd [x] sp)(hbind:∀(s:K9) (u:JK),BindsTo s fd ⟨[u],[]⟩ [(x,u)])
 (hsp:∀H:Hp,tO H->bA Z H a (ns.map V.int)->sp [.ref a] H (λv _=>v= .bl true) λ_ _ _=>False)
 (hCX:∀H e s',CX [] H s₁ (λ_ _ _=>False) e s'->False):
 Mo (Kc P w) callerA (.call (.ref fa) ⟨[.ref a],[]⟩) (λr s'=>r= .ok (.ret (.bool true))/\OldK s₁.heap s'.heap/\s'.os=s₁.os/\OP s'.gens) s₁:=by
 have rv:=Di hi;have lenV:=hi.length;have core:∀H:Hp,tO H->bA Z H a (ns.map V.int)->bV P w H s₁.heap->(∀b,H b≠none->b=a)->(H a≠none->Z.lookup a=none)->
  Mo (Kc P w) callerA (.call (.ref fa) ⟨[.ref a],[]⟩) (λr s'=>r= .ok (.ret (.bool true))/\OldK s₁.heap s'.heap/\s'.os=s₁.os/\OP s'.gens) s₁:=by
  intro H hO hS hok hA hK;have base_of:∀{b:J7}{o:Obj},s₁.heap.get? b=some o->H b=none->(j3 s₁.heap H).get? b=some o:=λe n=>JT e n;have noA:∀{b:J7}{o:Obj}{es:Array Rq}{ep:Nat},s₁.heap.get? b=some o->o.data= .dict es ep->H b=none:=λ{b o es ep} e d=>by
   cases q:H b with
   |none=>rfl
   |some u=>
    have e':b=a:=hA b (by rw[q];simp);subst e';rw[ha]at e;cases e;have d':Data.seq vs.toArray _=Data.dict es ep:=d;cases d'
  have nsK:∀{b:J7}{m:Str->Option JK},s₁.heap.Ns b m->(j3 s₁.heap H).Ns b m:=λ{b m} ⟨o,es,ep,e,d,r⟩=>⟨o,es,ep,base_of e (noA e d),d,r⟩;have hKb:Z.In (j3 s₁.heap H):=λb o e=>base_of (KX b o e) (by
   cases q:H b with
   |none=>rfl
   |some u=>
    have e':b=a:=hA b (by rw[q];simp);subst e';rw[hK (by rw[q];simp)]at e;cases e)
  have hM:Mod Z mg (j3 s₁.heap H):=⟨hKb,nsK hns,⟨mb,nsK hb,hbb⟩,let ⟨mc,h1,h2⟩:=hlim;⟨mc,nsK h1,h2⟩⟩;have e0:jC P w Z mg (j3 s₁.heap H) callerA [] s₁ H:=⟨rfl,hM,λb o e=>JU e,ZU (aa0 _ _),trivial,λb hb=>absurd (show b∈([]:List J7) from hb) KJ,hok,.of_eq hg⟩;refine OZ ((F _ hKb (nsK hns)).run callerA [] s₁ H ⟨[.ref a],[]⟩ [.ref a] [.ref a] _ _ hr e0 (hbind s₁ (.ref a)) (.cons rfl .nil) (hsp H hO hS)) λr s' h=>?_;cases r with
  |error e=>exact(hCX H e s' h).elim
  |ok fl=>
   cases fl with
   |next=>exact V8 h
   |brk=>exact V8 h
   |cont=>exact V8 h
   |ret u=>
    obtain⟨v,H',os,bare,un,hok',r',q⟩:=h;have q':v= .bl true:=q;subst q';obtain rfl:u=W3 true:=r';refine⟨rfl,OldK.of_keep λb o e=>?_,os,bare⟩;cases q:H b with
    |none=>exact un.keep b o e q (by intro z;exact absurd (show b∈([]:List J7) from z) KJ) KJ
    |some u=>
     rcases hO b with z|⟨ob,xs,z⟩
     ·rw[q]at z;cases z
     ·have z2:=un.frzs b ob _ z;obtain⟨e1,_⟩:=hok b _ z;obtain⟨e2,_⟩:=hok' b _ z2;rw[e]at e1;cases e1;exact e2
 cases hk:Z.lookup a with
 |some o=>
  have e:=KX a o hk;rw[ha]at e;cases e;refine core (λ_=>none) (λ_=>.inl rfl) (.inr ⟨_,vs.toArray,_,hk,rfl,rfl,rfl,by rw[Uu,lenV];exact hl,by simpa using rv⟩) (λb u z=>by have z':(none:Option HO)=some u:=z;cases z') (λb z=>absurd rfl z) λz=>absurd rfl z
 |none=>
  refine core (λb=>if b=a then some (.frz {cls:= .type "list",data:= .seq vs.toArray} (.lst (ns.map V.int))) else none) (λb=>?_) (.inl (.inr ⟨{cls:= .type "list",data:= .seq vs.toArray},KI rfl⟩)) (λb u z=>?_) (λb z=>?_) λ_=>hk
  ·by_cases hb:b=a
   ·exact .inr ⟨_,_,KI hb⟩
   ·exact .inl (JS hb)
  ·by_cases hb:b=a
   ·have z':=(KI hb).symm.trans z;cases z';subst hb;exact⟨ha,by rw[T6];exact hl,vs,_,rv,ha⟩
   ·have z':=(JS hb).symm.trans z;cases z'
  ·by_cases hb:b=a
   ·exact hb
   ·exact absurd (JS hb) z
abbrev TU{Z:T5}(_:Z.In h):T5:=Z
def inClass(s:Kk)(j:Nat):Kk:=match s with
 | .ClassDef _ _ _ body _ _ _ _ _ _ _=>body.getD j (.Pass ⟨0,0,0,0⟩)
 |_=>.Pass ⟨0,0,0,0⟩
def jE(s:Kk):Arguments:=match s with
 | .FunctionDef _ a _ _ _ _ _ _ _ _=>a
 |_=>{posonlyargs:=[],args:=[],vararg:=none,kwonlyargs:=[],kw_defaults:=[],kwarg:=none,defaults:=[]}
def fX(s:Kk):List Kk:=match s with
 | .FunctionDef _ _ b _ _ _ _ _ _ _=>b
 |_=>[]
def ar(s:Kk):MC:=match s with
 | .FunctionDef _ _ _ _ _ _ sc _ _ _=>sc
 |_=>{kind:= .function,names:=[],isGenerator:=false,isCoroutine:=false}
abbrev Km:fF:=λ_ _ _ _ _ _=>False
abbrev E0:XK:=λ_ _ _=>False
theorem fG:iH Km X E0:=λ_ _ _ _ _ _ _ h=>h.elim
structure fH (Z:T5) (x qual:Str) (st:Kk) (f:J7) (fd:L7):Prop where
 ex:∃(oc:JK)(od:Option J7)(kV doc pm:JK)(an:Option J7)(cdv ct:JK)(osl:Array (Option JK)),
  fd=Wk x qual (jE st) (fX st) (ar st) .none kV doc pm an cdv ct/\Z.lookup f=some ⟨oc,od,.func fd,osl⟩/\Yi Z cdv qual=true
 kp:Wf Z (.ref f)=true
theorem fH.ok{x qual:Str}{st:Kk}{f:J7}{fd:L7}{N ps:List Str}{k:Nat}{sp:Sp}(F:fH Z x qual st f fd)(S:aO N ps (ar st))(len:∀vs H Q E,sp vs H Q E->vs.length=ps.length)
 (hbody:∀(cdv:JK) (A:Lu) (outer:List Env) (s:K9) (H:Hp) (vs:List V) (Q:VK) (E:XK),bz k (A.deeper (NM qual (ar st) s.heap.objs.size f cdv))->sp vs H Q E->
   ∃t,b0 (jd Km P w Z mg base N qual (ar st) f cdv A outer s H E).nox (fX st) t/\t {nx:=λ_ H'=>Q .non H',rt:=Q} (start N vs) H):aB P w Z mg base Km (k+1) f fd ps sp:=by
 obtain⟨oc,od,kV,doc,pm,an,cdv,ct,osl,rfl,lk,hcd⟩:=F.ex;refine KH lk hcd S len λA outer s H vs Q E hr hsp=>?_;obtain⟨t,h,q⟩:=hbody cdv A outer s H vs Q E hr hsp;exact⟨t,h.nox,q⟩
theorem fH.binds{x qual:Str}{st:Kk}{f:J7}{fd:L7}{ps:List Str}(F:fH Z x qual st f fd)
 (h:∀(kV doc pm:JK) (an:Option J7) (cdv ct:JK) (us:List JK),us.length=ps.length->bindArgs (Wk x qual (jE st) (fX st) (ar st) .none kV doc pm an cdv ct) ⟨us,[]⟩=pure (ps.zip us)):dW Z fd ps []:=by
 obtain⟨oc,od,kV,doc,pm,an,cdv,ct,osl,rfl,lk,hcd⟩:=F.ex;exact .all (h kV doc pm an cdv ct)
theorem Dj{x qual:Str}{st:Kk}{f:J7}{oc:JK}{od an:Option J7}{osl:Array (Option JK)}{kV doc pm cdv ct:JK}(l:Z.lookup f=some ⟨oc,od,.func (Wk x qual (jE st) (fX st) (ar st) .none kV doc pm an cdv ct),osl⟩)
 (c:Yi Z cdv qual=true)(k:Wf Z (.ref f)=true):fH Z x qual st f (Wk x qual (jE st) (fX st) (ar st) .none kV doc pm an cdv ct):=⟨⟨oc,od,kV,doc,pm,an,cdv,ct,osl,rfl,l,c⟩,k⟩
section
variable{X:Cx}
theorem pv(i:Nat){x:Str}{pos:Pos}(hN:X.N[i]?=some x:=by rfl)(hv:rg X.env.scope x:=by first|exact Zx rfl|exact YC (Zx rfl)|exact YC (YC rfl))(hd:(x==("__debug__":Str))=false:=by decide)
 (hcd:(x==("__classdict__":Str))=false:=by decide):PE X (.Name x pos) (dR i):=v7 hN hv hd hcd
end
def au(H H':Hp):Prop:=∀b o,H b=some o->H' b=some o
theorem au.refl(H:Hp):au H H:=λ_ _ h=>h
theorem au.trans(a:au H H1)(b:au H1 H2):au H H2:=λc o h=>b c o (a c o h)
theorem abA(a b:Int):nH (.int a) (.int b)=true:=rfl
theorem Lm(a b:Str):nH (.str a) (.str b)=true:=rfl
theorem Ln(a b:Bool):nH (.bl a) (.bl b)=true:=rfl
theorem Lo(b:Int):nH .non (.int b)=true:=rfl
theorem Lp(b:Int):nH (.int b) .non=true:=rfl
def gO(env:Env)(names:List (Str×Ma))(cs:List (Str×J7)):List (Str×J7):=
 names.foldl (λcs p=>if (p.2==VU)=true then(p.1,(env.cells.lookup p.1).getD 0)::cs else cs) cs
theorem Dk{scope:MC}{env:Env}(h:∀y∈scope.names,y.2= .free->∃c,env.cells.lookup y.1=some c):closureFor scope env=pure (gO env scope.names []):=by
 unfold closureFor;have key:∀(l:List (Str×Ma))(cs:List (Str×J7)),(∀y∈l,y.2= .free->∃c,env.cells.lookup y.1=some c)->
  (forIn l cs λ(x:Str×Ma) (r:List (Str×J7))=>(if (x.2==VU)=true then do let a<-cellOf env x.1;pure (XB ((x.1,a)::r)) else pure (XB r):Sem (ForInStep (List (Str×J7)))))=pure (gO env l cs):=by
  intro l
  induction l with
  |nil=>intro cs _;rfl
  |cons p r ih=>
   intro cs hl;rw[Sd];by_cases hk:(p.2==VU)=true
   ·obtain⟨c,hc⟩:=hl p UG (by simpa using hk);rw[KI hk];have e:cellOf env p.1=pure c:=by unfold cellOf;rw[hc]
    rw[e];simp only[pure_bind];rw[ih _ λy hy=>hl y (UD _ hy)];unfold gO;rw[UO,KI hk,hc];rfl
   ·rw[JS hk];simp only[pure_bind];rw[ih _ λy hy=>hl y (UD _ hy)];unfold gO;rw[UO,JS hk]
 have:=key scope.names [] h;simp only[bind_pure];exact this
theorem wJ{env:Env}:∀(l:List (Str×Ma))(cs:List (Str×J7)){x:Str}{c:J7},(∀y∈l,y.2= .free->∃c,env.cells.lookup y.1=some c)->(∀y d,cs.lookup y=some d->env.cells.lookup y=some d)->
 (gO env l cs).lookup x=some c->env.cells.lookup x=some c
 | [],cs,x,c,_,hc,h=>hc x c h
 |p::r,cs,x,c,hl,hc,h=>by
  unfold gO at h;rw[UO]at h;by_cases hk:(p.2==VU)=true
  ·rw[KI hk]at h;refine wJ r _ (λy hy=>hl y (UD _ hy)) (λy d e=>?_) h;obtain⟨a,ha⟩:=hl p UG (by simpa using hk);rw[US]at e;cases hx:y==p.1 with
   |true=>
    rw[hx]at e;have hy:y=p.1:=by simpa using hx
    rw[ha]at e;cases e;rw[hy];exact ha
   |false=>rw[hx]at e;exact hc y d e
  ·rw[JS hk]at h;exact wJ r cs (λy hy=>hl y (UD _ hy)) hc h
theorem wK:∀(l:List (Str×Ma))(cs:List (Str×J7)){x:Str},(∃c,cs.lookup x=some c)->∃c,(gO env l cs).lookup x=some c
 | [],cs,x,h=>h
 |p::r,cs,x,⟨c,h⟩=>by
  unfold gO;rw[UO];by_cases hk:(p.2==VU)=true
  ·rw[KI hk];refine wK r _ ?_;rw[US];cases hx:x==p.1 with
   |true=>exact⟨_,rfl⟩
   |false=>exact⟨c,h⟩
  ·rw[JS hk];exact wK r cs ⟨c,h⟩
theorem wL:∀(l:List (Str×Ma))(cs:List (Str×J7)){x:Str},(x,VU)∈l->∃c,(gO env l cs).lookup x=some c
 | [],_,_,h=>by simp at h
 |p::r,cs,x,h=>by
  unfold gO;rw[UO];rcases Ud.mp h with e|e
  ·subst e;rw[KI (by rfl)];exact wK r _ ⟨(env.cells.lookup x).getD 0,by rw[US];simp⟩
  ·exact wL r _ e
theorem Lq(h:(relabel scope env).names.lookup x=some .cell\/(relabel scope env).names.lookup x=some .free):scope.names.lookup x=some .free\/scope.names.lookup x=some .cell:=by
 have key:∀(l:List (Str×Ma)),
  ((l.map λ(n,k)=>if (k==VU && env.scope.kind== .function && env.kindOf n==some .cell) then(n,Yp) else(n,k)).lookup x=some .cell\/
  (l.map λ(n,k)=>if (k==VU && env.scope.kind== .function && env.kindOf n==some .cell) then(n,Yp) else(n,k)).lookup x=some .free)->l.lookup x=some .free\/l.lookup x=some .cell:=by
  intro l
  induction l with
  |nil=>intro h;simp at h
  |cons p r ih=>
   obtain⟨n,k⟩:=p;intro h;rw[T9]at h;rw[US];by_cases hx:x=n
   ·subst hx;rw[beq_self_eq_true];by_cases hq:(k==VU && env.scope.kind== .function && env.kindOf x==some .cell)=true
    ·have:k= .free:=by simp only[U0,beq_iff_eq]at hq;exact hq.1.1
     subst this;exact .inl rfl
    ·simp only[JS hq,US,beq_self_eq_true]at h;exact h.symm
   ·have hb:(x==n)=false:=by simpa using hx
    rw[hb];refine ih ?_;by_cases hq:(k==VU && env.scope.kind== .function && env.kindOf n==some .cell)=true
    ·simpa only[KI hq,US,hb]using h
    ·simpa only[JS hq,US,hb]using h
 exact key scope.names h
theorem Lr{scope:MC}(h:scope.names.lookup x=some .cell\/scope.names.lookup x=some .free):(relabel scope env).names.lookup x=some .cell\/(relabel scope env).names.lookup x=some .free:=by
 have key:∀(l:List (Str×Ma)),l.lookup x=some .cell\/l.lookup x=some .free->
  ((l.map λ(n,k)=>if (k==VU && env.scope.kind== .function && env.kindOf n==some .cell) then(n,Yp) else(n,k)).lookup x=some .cell\/
  (l.map λ(n,k)=>if (k==VU && env.scope.kind== .function && env.kindOf n==some .cell) then(n,Yp) else(n,k)).lookup x=some .free):=by
  intro l
  induction l with
  |nil=>intro h;simp at h
  |cons p r ih=>
   obtain⟨n,k⟩:=p;intro h;rw[T9];by_cases hx:x=n
   ·subst hx;rw[US,beq_self_eq_true]at h;by_cases hq:(k==VU && env.scope.kind== .function && env.kindOf x==some .cell)=true
    ·left;simp only[KI hq,US,beq_self_eq_true]
    ·simp only[JS hq,US,beq_self_eq_true];exact h
   ·have hb:(x==n)=false:=by simpa using hx
    rw[US,hb]at h;by_cases hq:(k==VU && env.scope.kind== .function && env.kindOf n==some .cell)=true
    ·simpa only[KI hq,US,hb]using ih h
    ·simpa only[JS hq,US,hb]using ih h
 exact key scope.names h
structure bu (sc:MC) (N N':List Str) (k:Nat) (fr:List Nat) (scope:MC):Prop where
 kind:scope.kind= .function
 cell:∀y∈scope.names,y.2= .cell->scope.names.lookup y.1=some .cell
 names:∀y∈scope.names,y.2= .local->scope.names.lookup y.1=some .local
 nd:N'.Nodup
 slot:fr.map (λj=>N[j]?)=(N'.drop k).map some
 frees:∀x∈N'.drop k,scope.names.lookup x=some .free
 outer:∀y∈scope.names,y.2= .free->sc.names.lookup y.1=some .cell\/sc.names.lookup y.1=some .free
 outer':∀x∈N'.drop k,sc.names.lookup x=some .cell\/sc.names.lookup x=some .free
 len:N'.length=k+fr.length
theorem tP:∀(l:List (Str×Ma)){n:Nat}{a:List (Str×J7)}{x:Str}{c:J7},(MT n l a).lookup x=some c->n<=c\/a.lookup x=some c
 | [],_,_,_,_,h=>.inr h
 | (y,k)::r,n,a,x,c,h=>by
  unfold MT at h;split at h
  ·rcases tP r h with z|z
   ·exact .inl J1
   ·rw[US]at z;split at z
    ·exact .inl (by cases z;exact T8 _)
    ·exact .inr z
  ·exact tP r h
theorem wM:∀(l:List (Str×Ma)){n:Nat}{a:List (Str×J7)}{x:Str}{c:J7},l.lookup x=some .cell->(MT n l a).lookup x=some c->n<=c
 | [],_,_,_,_,e,_=>nomatch e
 | (y,k)::r,n,a,x,c,e,h=>by
  unfold MT at h;rw[US]at e;cases hx:x==y with
  |true=>
   rw[hx]at e;cases e;have h:XF x (MT (n+1) r ((y,n)::a))=some c:=h;rcases tP r h with z|z
   ·exact Y2 z
   ·rw[US,hx]at z;cases z;exact T8 _
  |false=>
   rw[hx]at e;split at h
   ·exact Y2 (wM r e h)
   ·exact wM r e h
theorem wN:∀(l:List (Str×Ma)){n:Nat}{a:List (Str×J7)}{x:Str},(∀y∈l,y.2= .cell->y.1≠x)->(MT n l a).lookup x=a.lookup x
 | [],_,_,_,_=>rfl
 | (y,k)::r,n,a,x,h=>by
  unfold MT;split
  ·rename_i hk;rw[wN r λz hz=>h z (UD _ hz),US];have:(x==y)=false:=by simpa using Ne.symm (h (y,k) UG (by simpa using hk))
   rw[this]
  ·exact wN r λz hz=>h z (UD _ hz)
theorem wO:∀(l:List (Str×Ma)){n:Nat}{a:List (Str×J7)},(∀x c,a.lookup x=some c->c < n)->(∀x y c,a.lookup x=some c->a.lookup y=some c->x=y)->∀x y c,(MT n l a).lookup x=some c->(MT n l a).lookup y=some c->x=y
 | [],_,_,_,h=>h
 | (z,k)::r,n,a,hl,hi=>by
  unfold MT;split
  ·have one:∀x c,((z,n)::a).lookup x=some c->x=z/\c=n\/c < n/\a.lookup x=some c:=λx c e=>by
    rw[US]at e;cases hx:x==z with
    |true=>rw[hx]at e;cases e;exact .inl ⟨by simpa using hx,rfl⟩
    |false=>rw[hx]at e;exact .inr ⟨hl x c e,e⟩
   refine wO r (λx c e=>?_) λx y c e1 e2=>?_
   ·rcases one x c e with⟨_,z⟩|⟨z,_⟩
    ·rw[z];exact V9 _
    ·exact VE z
   ·rcases one x c e1 with⟨a1,b1⟩|⟨a1,b1⟩<;>rcases one y c e2 with⟨a2,b2⟩|⟨a2,b2⟩
    ·rw[a1,a2]
    ·omega
    ·omega
    ·exact hi x y c b1 b2
  ·exact wO r hl hi
theorem wQ:∀(l:List (Str×Ma)){h:LO}{a:List (Str×J7)},(∀x c,a.lookup x=some c->∃v,h.IsCell c v)->∀x c,(MT h.objs.size l a).lookup x=some c->∃v,(pushCells h l).IsCell c v
 | [],_,_,h=>h
 | (z,k)::r,h,a,ha=>by
  unfold MT pushCells;split
  ·have:=wQ r (h:=h.push {cls:= .type "cell",data:= .cell none}) (a:=(z,h.objs.size)::a) λx c e=>by
    rw[US]at e;split at e
    ·cases e;exact⟨none,_,UE _ rfl,rfl⟩
    ·obtain⟨v,q⟩:=ha x c e;exact⟨v,q.keeps λb o e=>Ua _ e⟩
   rwa [WH]at this
  ·exact wQ r ha
def tQ(X:Cx)(scope:MC)(C:J7):List (Str×J7):=MT (C+1) scope.names (gO X.env scope.names [])
def bS(X:Cx)(scope:MC)(N':List Str)(fp:List J7)(C:J7)(s:K9)(H:Hp):Cx where
 prog:=X.prog
 w:=X.w
 K:=X.K
 mg:=X.mg
 base:=X.base
 A:=X.A
 N:=N'
 s₀:=s
 H₀:=H
 env:=compEnvC scope (tQ X scope C) C X.env
 outer:=X.stack
 stack:=X.stack
 ex:=fp
 fn:=λx=>scope.names.lookup x==some .cell
 calm:=X.calm
 pn:=[]
 xe:=λ_ _=>False
def bL(k:Nat)(fr:List Nat)(U:St):St:=Uz k none++fr.map λj=>(U[j]?).join
def nK(U U':St):Prop:=U.length=U'.length/\∀(i:Nat) v,U[i]?=some (some v)->U'[i]?=some (some v)
section
variable{X:Cx}{acT:List (J7×Obj)}{U:St}{H:Hp}{s:K9}{scope:MC}{N':List Str}{k:Nat}{fr:List Nat}{fp:List J7}
theorem wR(S:bu X.env.scope X.N N' k fr scope)(I:ag X acT U H s):∀x c,(gO X.env scope.names []).lookup x=some c->X.env.cells.lookup x=some c:=λx c e=>wJ scope.names [] (λy hy e=>I.ok.has y.1 (S.outer y hy e)) (λ_ _ z=>by simp at z) e
theorem Dm(S:bu X.env.scope X.N N' k fr scope)(I:ag X acT U H s){x:Str}{c:J7}(e:(tQ X scope s.heap.objs.size).lookup x=some c):s.heap.objs.size < c\/X.env.cells.lookup x=some c:=
 (tP _ e).imp (λz=>z) λz=>wR S I x c z
theorem abl(S:bu X.env.scope X.N N' k fr scope)(I:ag X acT U H s)(hf:∀b∈fp,ja X acT H b)(hlt:∀b∈fp,b < s.heap.objs.size):
 (bS X scope N' fp s.heap.objs.size s H).Ok:=by
 have hcl:=wR S I;refine⟨I.ok.mod,S.kind,I.ok.glob,I.ok.blt,T8 _,wO _ (λx c e=>?_) (λx y c h1 h2=>I.ok.inj x y c (hcl x c h1) (hcl y c h2)),λx hx=>Ya.mp (Yn _ _ _ ?_),λx c h e=>Y2 (wM _ (eq_of_beq h) e),I.ok.hd,I.ok.frames,.inl rfl,λb hb=>⟨UQ (hlt b hb),λx c e=>?_⟩,
  I.bs,UN I.ok.bsz I.sz,λb o e hb=>?_,λb hb hb'=>?_,I.stack,I.stkFree⟩
 ·obtain⟨v,o,ho,_⟩:=I.cell x c (hcl x c e);exact VE (Ut ho)
 ·rcases Lq hx with z|z
  ·exact .inr (Ya.mpr (wL _ _ (Wy z)))
  ·exact .inl z
 ·rcases Dm S I e with z|z
  ·exact λq=>absurd (hlt b hb) (by rw[<-q];exact Nat.lt_asymm z)
  ·exact(hf b hb).2.2.2.2.1 x c z
 ·rcases(hf b hb).2.2.2.1 with z|z
  ·exact I.ok.noex b o e z
  ·exact absurd (Vh (Ut e) (UN I.ok.bsz z)) (V3 _)
 ·rcases Ud.mp (I.stkSub b hb') with z|z
  ·exact(hf b hb).2.1 z
  ·exact(hf b hb).2.2.1 z
theorem Lv(S:bu X.env.scope X.N N' k fr scope)(I:ag X acT U H s)(hf:∀b∈fp,ja X acT H b)(hlt:∀b∈fp,b < s.heap.objs.size){o:Obj}{h':LO}(e':h'=pushCells (s.heap.push o) scope.names)
 (hn:h'.Ns s.heap.objs.size (λ_=>none))(hk:∀b o,s.heap.get? b=some o->h'.get? b=some o):
 ag (bS X scope N' fp s.heap.objs.size s H) [] (bL k fr U) H {s with heap:=h'}:=by
 have hcl:=wR S I;refine⟨abl S I hf hlt,rfl,I.bare,Un.kept hk,⟨_,hn,λi x v h1 h2 h3=>?_⟩,λx c e=>?_,I.hok.fresh (T8 _),λx c e=>?_,λp hp=>absurd hp (by simp[bS]),I.hok.kept hk,?_⟩
 ·have hi:k<=i:=by
   rcases WA i k with z|z
   ·exfalso;unfold bL at h2;rw[Vm (by simpa using z),WY,KI z]at h2;cases h2
   ·exact z
  have h2':(fr.map λj=>(U[j]?).join)[i - k]?=some (some v):=by
   unfold bL at h2;rw[VT (by simpa using hi)]at h2;simpa using h2
  have h1':(N'.drop k)[i - k]?=some x:=by
   rw[List.getElem?_drop,Nat.add_sub_cancel' hi];exact h1
  have hmem:x∈N'.drop k:=UJ h1';have e2:(fr.map λj=>X.N[j]?)[i - k]?=some (some x):=by
   rw[S.slot,Ul,h1'];rfl
  obtain⟨j,hj,ej⟩:∃j,fr[i - k]?=some j/\X.N[j]?=some x:=by
   rw[Ul]at e2;cases e:fr[i - k]? with
   |none=>rw[e]at e2;cases e2
   |some j=>rw[e]at e2;exact⟨j,rfl,Ve e2⟩
  have hv:U[j]?=some (some v):=by
   rw[Ul,hj]at h2';have h3':(U[j]?).join=some v:=Ve h2';cases e:U[j]? with
   |none=>rw[e]at h3';cases h3'
   |some o=>rw[e]at h3';rw[show o=some v from h3']
  obtain⟨m,hn0,hl⟩:=I.loc;have ho:=S.outer' x hmem;obtain⟨u,ru,lk⟩:=hl j x v ej hv (.inr ho);refine⟨u,ru,.inr ⟨Lr (.inr (S.frees x hmem)),?_⟩⟩;rcases lk with⟨z,_⟩|⟨_,c,hc,hx⟩
  ·exfalso;rcases ho with ho|ho
   ·exact absurd (z.symm.trans ho) KJ
   ·exact absurd (z.symm.trans ho) KJ
  ·obtain⟨c',hc'⟩:=wL (env:=X.env) scope.names [] (Wy (S.frees x hmem));have:=hcl x c' hc';rw[hc]at this;cases this;obtain⟨o,ho,hd⟩:=hx;exact⟨c,(wN _ λy hy ey ex=>by have q:=S.cell y hy ey;rw[ex,S.frees x hmem]at q;cases q).trans hc',o,hk c o ho,hd⟩
 ·subst e';have:=wQ scope.names (h:=s.heap.push o) (a:=gO X.env scope.names []) (λx c e=>by
   obtain⟨v,q⟩:=I.cell x c (hcl x c e);exact⟨v,q.keeps λb o e=>Ua _ e⟩) x c
  rw[WH]at this;exact this e
 ·rcases Dm S I e with z|z
  ·exact I.hok.fresh (WM z)
  ·exact I.freeC x c z
 ·unfold bL;show _=N'.length;rw[Ux,Yx,T6,S.len]
end
theorem Lw(I:Nat->K9->Prop)
 (turn:∀n s,I n s->KS (Kc prog w) A (MN it) (λr s₁=>match r with
  |none=>R (.ok .next) s₁
  |some v=>KS (Kc prog w) A (RB target it v) (λ_ s₁'=>KS (Kc prog w) A (assign target env v) (λ_ s₂=>
   KS (Kc prog w) A (forIn ifs true λc r=>if r=true then do let ok<-isTrue c env (eval c env);pure (XB ok) else pure (XB r)) (λok s₃=>
    if ok=true then KS (Kc prog w) A (eval elt env) (λx s₄=>
     KS (Kc prog w) A (call (.builtin "list.append") [acc,x]) (λ_ s₅=>∃m,m < n/\I m s₅) (λ_ _=>False) s₄) (λ_ _=>False) s₃
    else ∃m,m < n/\I m s₃) (λ_ _=>False) s₂) (λ_ _=>False) s₁') (λ_ _=>False) s₁) (λ_ _=>False) s)
 (n:Nat)(h:I n s):
 Mo (Kc prog w) A (.compLoop (.ListComp elt [⟨target,iter,ifs,0⟩] scope pos) 0 it acc env) R s:=by
 refine codeAny_loop rfl I (λn s hI=>?_) n h;show KS _ A ((compTurn (.ListComp elt [⟨target,iter,ifs,0⟩] scope pos) 0 it acc env).onRaise (λx=>do noteFrame x env;theTreesLotGoes x)) _ _ s;refine wpAny_noted ?_;rw[compTurn_list];refine JY (wpAny_standAt (JY (MB (turn n s hI) (λr s₁ h₁=>?_) λ_ _ h'=>h'.elim)));cases r with
 |none=>exact Kd h₁
 |some v=>
  refine JY (MB h₁ (λ_ s₁' h₁'=>?_) λ_ _ h'=>h'.elim);refine JY (MB h₁' (λ_ s₂ h₂=>JY (MB h₂ (λok s₃ h₃=>?_) λ_ _ h'=>h'.elim)) λ_ _ h'=>h'.elim);cases ok with
  |false=>exact Kd ⟨rfl,h₃⟩
  |true=>
   exact JY (JY (MB h₃ (λx s₄ h₄=>JY (MB h₄ (λ_ s₅ h₅=>Kd (Kd ⟨rfl,h₅⟩)) λ_ _ h'=>h'.elim)) λ_ _ h'=>h'.elim))
def fY(X:Cx)(ifs:List L8)(t:TT):Prop:=
 ∀(acT:List (J7×Obj))(s:K9)(U:St)(H:Hp)(Q:Bool->Hp->Prop),ag X acT U H s->t U H Q->
  KS (Kc X.prog X.w) X.A (forIn ifs true λc r=>if r=true then do let ok<-isTrue c X.env (eval c X.env);pure (XB ok) else pure (XB r)) (TP X acT U Q) X.xe s
def Dp:TT:=λ_ H Q=>Q true H
theorem Dq:fY X [] Dp:=λacT s U H Q I h=>wpAny_tests_nil ⟨H,I,h⟩
theorem eF(h:PT X c t):fY X [c] t:=λacT s U H Q I hq=>wpAny_tests_one (h acT s U H Q I hq)
theorem bV.but{h h':LO}(x:bV P w H h)(hC:H C=none)(k:∀b o,b≠C->h.get? b=some o->h'.get? b=some o):bV P w H h':=λa o e=>by
 refine(x a o e).stay (λb u hb q=>k b u ?_ q) (λ_ q=>q) λ_ _ q=>q;intro z;subst z;rcases hb with z|z
 ·rw[<-z,hC]at e;cases e
 ·rw[hC]at z;cases z
theorem aby{s:K9}{scope:MC}{Q:Env->K9->Prop}
 (hQ:∀h',h'=pushCells (s.heap.push {cls:= .type "dict",data:= .dict #[]}) scope.names->h'.Ns s.heap.objs.size (λ_=>none)->(∀b o,s.heap.get? b=some o->h'.get? b=some o)->
  Q (newEnv scope s.heap.objs.size g (MT (s.heap.objs.size+1) scope.names cl) qual none .none (some e) builtinsNs) {s with heap:=h'}):
 KS M A (newFunctionEnv scope g cl [] qual none .none (some e)) Q E s:=by
 simp only[newFunctionEnv,ZY,if_true];refine JY (wpAny_alloc (JY (wpAny_layCells _ (λname kind cells=>by cases hkc:kind==Yp<;>simp[hkc]) _ _ _ _ ?_)));rw[show({s with heap:=s.heap.push {cls:= .type "dict",data:= .dict #[]}}:K9).heap.objs.size=s.heap.objs.size+1 from WH ..];rw[SF];exact JY (Kd (Kd (hQ _ rfl ((Heap.Ns.new s.heap (.type "dict")).keeps (pushCells_keeps _ _)) λb o e=>pushCells_keeps _ _ b o (Ua _ e))))
def kU(wi:TI)(g:TG)(tc:TT)(te:TE)(k:Nat)(fr:List Nat):TE:=λU H Q=>wi U H λJ H1=>∀D,H1 D=none->∃W:Nat->Nat->Hp->Prop,(∃m,W 0 m (ah H1 D (.lst [])))/\∀i m H,W i m H->
 (J.stop i H/\Q (.ref D) H)\/(J.go i H/\∀x H',J.yld i H x H'->g x (bL k fr U) H' λσ2 H2=>nK (bL k fr U) σ2/\tc σ2 H2 λok H3=>
  if ok=true then te σ2 H3 λy H4=>∃ys,H4 D=some (.lst ys)/\ys.length < LB/\∃m',m' < m/\W (i+1) m' (ah H4 D (.lst (ys++[y])))
  else ∃m',m' < m/\W (i+1) m' H3)
theorem Ds{use:Option (JK->Sem Unit)}{Q':JK->K9->Prop}{acT:List (J7×Obj)}{s:K9}{U:St}{Q:VK}(hc:X.calm=true)(S:bu X.env.scope X.N N' k fr scope)(hi:PI X tg iter wi)
 (hg:∀fp C s H,PG (bS X scope N' fp C s H) tg g)(hf:∀fp C s H,fY (bS X scope N' fp C s H) ifs tc)(he:∀fp C s H,PE (bS X scope N' fp C s H) elt te)
 (I:ag X acT U H s)(h:kU wi g tc te k fr U H Q)
 (hQ:∀D C s' H',C≠X.env.locals->ag X acT U H' s'->(∀h',Wz C s'.heap h'->ag X acT U H' {s' with heap:=h'})->Q (.ref D) H'->(∃m,s'.heap.Ns C m)->X.env.locals < C->H' C=none/\(∀x c,X.env.cells.lookup x=some c->c≠C)/\(∀p∈X.pn++acT,p.1≠C)->compPost (Kc X.prog X.w) X.A X.xe use Q' (.ref D) C (.ok .next) s'):
 KS (Kc X.prog X.w) X.A (eval iter X.env) (λx s₁=>KS (Kc X.prog X.w) X.A (pyIter x) (λit s₂=>KS (Kc X.prog X.w) X.A (newList []) (λacc s₃=>
  KS (Kc X.prog X.w) X.A (newFunctionEnv scope X.env.globals (gO X.env scope.names []) [] X.env.qual none .none (some X.env)) (λcenv s₄=>
   Mo (Kc X.prog X.w) X.A (.compStart (.ListComp elt [⟨tg,iter,ifs,0⟩] scope pos) 0 it acc {cenv with scope:=relabel scope X.env}) (compPost (Kc X.prog X.w) X.A X.xe use Q' acc cenv.locals) s₄) X.xe s₃) X.xe s₂) X.xe s₁) X.xe s:=by
 refine aE (hi acT s U H _ I h) λv s1 h1=>aE h1 λitv s2 h2=>?_;obtain⟨it,fp,tn,J,H2,e,I2,T,st2,f2,wW⟩:=h2;subst e;refine MG ?_;have hD0:H2 s2.heap.objs.size=none:=I2.hok.fresh (T8 _);obtain⟨W,⟨m0,w0⟩,turn⟩:=wW _ hD0;generalize hD:s2.heap.objs.size=D at*;have I3:ag X acT U (ah H2 D (.lst [])) {s2 with heap:=s2.heap.push {cls:= .type "list",dict:=none,data:= .seq ([]:List JK).toArray}}:=by
  have:=I2.lnew (ys:=[]) (its:=[]) (t':=s2.toks) .nil (UY _);rw[hD]at this;exact this
 generalize hs3:({s2 with heap:=s2.heap.push {cls:= .type "list",dict:=none,data:= .seq ([]:List JK).toArray}}:K9)=s3 at*;have up23:∀b o,s2.heap.get? b=some o->s3.heap.get? b=some o:=λb o e=>by rw[<-hs3];exact Ua _ e
 have fpD:∀b∈fp,b≠D:=λb hb z=>by
  obtain⟨o,ho,_⟩:=T.obj _ _ st2 b hb;have:=Ut ho;rw[hD,z]at this;exact V3 _ this
 have f3:∀b∈fp,ja X acT (ah H2 D (.lst [])) b:=λb hb=>⟨by rw[aD (fpD b hb)];exact(f2 b hb).1,(f2 b hb).2⟩;have st3:tn 0 s3.heap:=T.keep _ _ _ st2 λb hb o e=>up23 b o e;have lt3:∀b∈fp,b < s3.heap.objs.size:=λb hb=>by obtain⟨o,ho,_⟩:=T.obj _ _ st3 b hb;exact Ut ho
 refine aby λh₁ e₁ hns₁ up34=>?_;have I4:=Lv S I3 f3 lt3 e₁ hns₁ up34;have st4:tn 0 h₁:=T.keep _ _ _ st3 λb hb o e=>up34 b o e;generalize hX':bS X scope N' fp s3.heap.objs.size s3 (ah H2 D (.lst []))=X' at*;have hg':PG X' tg g:=by rw[<-hX'];exact hg _ _ _ _
 have hf':fY X' ifs tc:=by rw[<-hX'];exact hf _ _ _ _
 have he':PE X' elt te:=by rw[<-hX'];exact he _ _ _ _
 have eP:X'.prog=X.prog:=by rw[<-hX'];rfl
 have eW:X'.w=X.w:=by rw[<-hX'];rfl
 have eK:X'.K=X.K:=by rw[<-hX'];rfl
 have eA:X'.A=X.A:=by rw[<-hX'];rfl
 have eC:X'.calm=true:=by rw[<-hX'];exact hc
 have eE:X'.xe=λ_ _=>False:=by rw[<-hX'];rfl
 have eEnv:X'.env=compEnvC scope (tQ X scope s3.heap.objs.size) s3.heap.objs.size X.env:=by rw[<-hX'];rfl
 have fpx:∀{H':Hp},(∀b∈fp,H' b=none)->∀b∈fp,ja X' [] H' b:=λ{H'} hn b hb=>by
  refine⟨hn b hb,?_,?_,.inl ?_,?_,?_⟩
  ·rw[eEnv];exact UQ (lt3 b hb)
  ·have:=I4.ok.exfs b (by rw[<-hX'];exact hb);exact this
  ·rw[<-hX'];exact hb
  ·have:=I4.ok.exf b (by rw[<-hX'];exact hb);exact this.2
  ·intro p hp;rw[<-hX']at hp;simp[bS]at hp
 have fin:∀(s':K9)(H':Hp)(U':St),ag X' [] U' H' s'->Q (.ref D) H'->compPost (Kc X.prog X.w) X.A X.xe use Q' (.ref D) s3.heap.objs.size (.ok .next) s':=λs' H' U' J q=>by
  have un:Un (h7 X.stack) fp (ah H2 D (.lst [])) H' s3.heap s'.heap:=by have:=J.base;rw[<-hX']at this;exact this
  have jos:s'.os=s3.os:=by have:=J.os;rw[<-hX']at this;exact this
  have hC:H' s3.heap.objs.size=none:=by have:=J.free;rw[eEnv]at this;exact this
  have hok':bV X.prog X.w H' s'.heap:=by have:=J.hok;rw[eP,eW]at this;exact this
  have fI:∀h',Wz s3.heap.objs.size s'.heap h'->ag X acT U H' {s' with heap:=h'}:=λh' hs'=>by
   have un':Un (h7 X.stack) fp (ah H2 D (.lst [])) H' s3.heap h':=
    ⟨λb o e n h1 h2=>hs'.extBut b o (UQ (Ut e)) (un.keep b o e n h1 h2),λb o e n h1 h2=>by
     obtain⟨sl,z⟩:=un.slot b o e n h1 h2;exact⟨sl,hs'.extBut b _ (UQ (Ut e)) z⟩,un.free,λb o e h2=>by
     obtain⟨o',z⟩:=un.there b o e h2;exact⟨o',hs'.extBut b o' (UQ (Ut e)) z⟩,un.tups,un.frzs,un.tbls⟩
   exact ag.call' (s':={s' with heap:=h'}) I3 jos un' (hok'.but hC hs'.extBut) J.bare λb hb=>⟨(f3 b hb).2.2.2.1,(f3 b hb).2.1,(f3 b hb).2.2.2.2.1,(f3 b hb).2.2.2.2.2⟩
  have nsC:∃m,s'.heap.Ns s3.heap.objs.size m:=by
   obtain⟨m,hn,_⟩:=J.loc;rw[eEnv]at hn;exact⟨m,hn⟩
  exact hQ D s3.heap.objs.size s' H' (WO I3.lt) (fI s'.heap (.refl ..)) fI q nsC I3.lt
   ⟨hC,λx c e=>by obtain⟨v,o,ho,_⟩:=I3.cell x c e;exact UQ (Ut ho),λp hp=>UQ (Ut (I3.pin p hp).1)⟩
 have loop:∀s4:K9,s4=({s3 with heap:=h₁}:K9)->
  Mo (Kc X.prog X.w) X.A (.compLoop (.ListComp elt [⟨tg,iter,ifs,0⟩] scope pos) 0 (.ref it) (.ref D) X'.env) (compPost (Kc X.prog X.w) X.A X.xe use Q' (.ref D) s3.heap.objs.size) s4:=by
  rintro s4 rfl;refine Lw (λn s'=>∃i H',ag X' [] (bL k fr U) H' s'/\tn i s'.heap/\(∀b∈fp,H' b=none)/\W i n H') ?_ m0 ⟨0,_,I4,st4,λb hb=>(f3 b hb).1,w0⟩;rintro n s5 ⟨i,H5,I5,st5,fr5,w5⟩;rcases turn i n H5 w5 with⟨stop,qn⟩|⟨go,step⟩
  ·have:=T.done X' eP eW eK eC i [] s5 _ H5 (λ_ _=>False) I5 (fpx fr5) st5 stop;rw[eA]at this;refine aE this λr s6 ⟨hr,I6⟩=>?_;subst hr;exact fin s6 H5 _ I6 qn
  ·have:=T.item X' eP eW eK eC i [] s5 _ H5 (λ_ _=>False) I5 (fpx fr5) st5 go;rw[eA]at this;refine aE this λr s6 ⟨u,hr,h6⟩=>?_;subst hr;refine aE h6 λ_ s7 ⟨x,H7,I7,r7,y7,st7,fr7⟩=>?_;have I7':=I7.pinned (fpx fr7) (T.obj _ _ st7);have h8:=hg' _ s7 _ H7 x u _ I7' r7 (step x H7 y7);rw[eP,eW,eA,eE]at h8;refine aE h8 λ_ s8 ⟨σ8,H8,I8,kp,q8⟩=>?_;have h9:=hf' _ s8 σ8 H8 _ I8 q8;rw[eP,eW,eA,eE]at h9;have again:∀{s9:K9}{H9:Hp}{n':Nat},ag X' ([]++rB fp s7.heap) σ8 H9 s9->n' < n->W (i+1) n' H9->∃m,m < n/\∃i H',ag X' [] (bL k fr U) H' s9/\tn i s9.heap/\(∀b∈fp,H' b=none)/\W i m H':=λ{s9 H9 n'} I9 hn' w9=>by
    refine⟨n',hn',i+1,H9,I9.unpinned.weak kp.1 kp.2,T.keep _ _ _ st7 λb hb o e=>(I9.pin (b,o) (U7 _ (U7 _ (tD hb e)))).1,λb hb=>?_,w9⟩;obtain⟨o,e,d⟩:=T.obj _ _ st7 b hb;exact(I9.pin (b,o) (U7 _ (U7 _ (tD hb e)))).2.1
   refine aE h9 λok s9 ⟨H9,I9,q9⟩=>?_;cases ok with
   |false=>
    rw[JS Ue]at q9;obtain⟨m',hm',w9⟩:=q9;rw[JS Ue];exact again I9 hm' w9
   |true=>
    rw[KI rfl]at q9;rw[KI rfl];have h10:=he' _ s9 σ8 H9 _ I9 q9;rw[eP,eW,eA,eE]at h10;refine aE h10 λy s10 ⟨yv,H10,I10,r10,ys,hys,hz,m',hm',w10⟩=>?_;have h11:=Dh (X:=X') _ s10 σ8 H10 (.ref D) [yv] (.ref D) [y] (λ_ H'=>W (i+1) m' H') I10 rfl (.cons r10 .nil) ⟨D,ys,yv,rfl,rfl,hys,hz,w10⟩;rw[eP,eW,eA,eE]at h11;exact aE h11 λ_ s11 uu=>by obtain⟨_,H11,I11,_,q11⟩:=uu;exact again I11 hm' q11
 have hE:({newEnv scope s3.heap.objs.size X.env.globals (tQ X scope s3.heap.objs.size) X.env.qual none .none (some X.env) builtinsNs with scope:=relabel scope X.env}:Env)=X'.env:=by
  rw[eEnv];rfl
 have goal:=codeAny_compStart_list (elt:=elt) (target:=tg) (iter:=iter) (ifs:=ifs) (rest:=[]) (scope:=scope) (pos:=pos) (loop _ rfl) (T.self X.A 0 _ _ _ st4 (loop _ rfl));rw[<-hE]at goal;exact goal
theorem tR(hc:X.calm=true)(S:bu X.env.scope X.N N' k fr scope)(hi:PI X tg iter wi)
 (hg:∀fp C s H,PG (bS X scope N' fp C s H) tg g)(hf:∀fp C s H,fY (bS X scope N' fp C s H) ifs tc)(he:∀fp C s H,PE (bS X scope N' fp C s H) elt te)
 (hs:∀x,Me iter X.env x=pure x:=by intro _;rfl):PE X (.ListComp elt [⟨tg,iter,ifs,0⟩] scope pos) (kU wi g tc te k fr):=by
 intro acT s U H Q I h;have hcell:∀y∈scope.names,y.2= .free->∃c,X.env.cells.lookup y.1=some c:=λy hy e=>I.ok.has y.1 (S.outer y hy e);rw[eval_ListComp];refine n9 (use:=none) rfl hs (Dk hcell) S.kind S.names (Ds hc S hi hg hf he I h ?_);intro D C s' H' hC J fI q ns hlt _;obtain⟨m,hn⟩:=ns;exact⟨m,hn,λh' hs'=>⟨.ref D,H',fI h' hs',rfl,q⟩⟩
theorem Ly{pos' spos:Pos}(hN:X.N.Nodup)(hxi:X.N[i]?=some x)(hx:iD X.env.scope x)(hc:X.calm=true)(S:bu X.env.scope X.N N' k fr scope)(hi:PI X tg iter wi)
 (hg:∀fp C s H,PG (bS X scope N' fp C s H) tg g)(hf:∀fp C s H,fY (bS X scope N' fp C s H) ifs tc)(he:∀fp C s H,PE (bS X scope N' fp C s H) elt te)
 (hsw:M3 (.ListComp elt [⟨tg,iter,ifs,0⟩] scope pos) (some (.Name x pos')) spos.line X.env=pure true)
 (hs:∀x,Me iter X.env x=pure x:=by intro _;rfl)(hfn:X.fn x=true\/X.env.scope.names.lookup x=some .local:=by first|exact .inl rfl|exact .inr rfl|assumption):
 PS X (.Assign [.Name x pos'] (.ListComp elt [⟨tg,iter,ifs,0⟩] scope pos) spos) (rn (kU wi g tc te k fr) (jA i)):=by
 intro acT s U H D I h;have hcell:∀y∈scope.names,y.2= .free->∃c,X.env.cells.lookup y.1=some c:=λy hy e=>I.ok.has y.1 (S.outer y hy e);rw[exec_Assign_Name_used _ _ _ _ hsw];refine JY (wpAny_standAt (JY ?_));show KS _ X.A (do let _<-comprehension (.ListComp elt [⟨tg,iter,ifs,0⟩] scope pos) scope X.env _ (newList []) false (eval iter X.env) (some (assign (.Name x pos') X.env))) _ _ s;refine JY (MB (n9 (use:=some (assign (.Name x pos') X.env)) (Q:=λ_ s'=>∃U' H',ag X acT U' H' s'/\D.nx U' H') rfl hs (Dk hcell) S.kind S.names (Ds hc S hi hg hf he I h ?_)) (λ_ s' hq=>Kd (Kd hq)) λ_ _ e=>e);intro D' C s' H' hC J fI q ns hlt ⟨c1,c2,c3⟩;obtain⟨m,hn⟩:=ns;show KS _ X.A (assign (.Name x pos') X.env (.ref D')) _ _ _;refine wpAny_assign_Name (B3 J hN hxi hx (v:= .ref D') rfl (λs2 J2 sb=>?_) hfn);obtain⟨a,sb,ha⟩:=sb;have hCa:C≠a:=by
  rcases ha with z|z
  ·rw[z];exact hC
  ·exact Ne.symm (c2 _ _ z)
 refine⟨m,hn.sameBut sb hCa,λh3 hs3=>⟨_,H',?_,q⟩⟩;exact J2.turned (t':=s2.toks) hs3.extBut c1 hC (.inr (UN J.ok.above (WM hlt))) c2 c3
theorem Du(hc:X.calm=true):fo X (.builtin "sum") (λxs H Q=>∃(a:J7)(ns:List Int),xs=[.ref a]/\bA X.K H a (ns.map V.int)/\Q (.int ns.sum) H):=by
 intro acT s U H xs us Q I r h;obtain⟨a,ns,rfl,hl,q⟩:=h;obtain⟨u,rfl,rx⟩:=fO r;cases rx;obtain⟨its,rv,p,hz⟩:=I.list hl;have hi:Lx its ns:=KQ rv;have hall:AllInts its.toArray:=hi.allInts;obtain⟨ys,hys⟩:=hall.items;have hn:numsOf its.toArray.toList=ns:=by rw[show its.toArray.toList=its from rfl,hi.numsOf]
 rw[hys,nums_intItems]at hn;have hl':=p.isList;rw[hys]at hl';refine sum_intListG (I.ok.hd hc) hl' λh' tk t' hk=>?_;refine⟨.int ns.sum,H,I.kept hk,⟨t',?_⟩,q⟩;rw[preSum_eq,UL KJ,hn]
end L2
namespace Att
open PySem PySem.W PySem.Calls PyProof.Rows
theorem Lz{ns:List Int}(h:oh [Y5 (ns.map XA)]=true):∀n∈ns,VM n<=1048576:=by
 have h1:(Y5 (ns.map XA)).layable=true:=by simpa [oh]using h
 have h2:(Y5 (ns.map XA)).weight<=1048576:=(PySem.W.layableW_iff.mp h1).2.2;have key:∀l:List Int,∀n∈l,VM n<=X2 (l.map XA):=by
  intro l
  induction l with
  |nil=>intro n hn;simp at hn
  |cons x r ih=>
   intro n hn;have e:X2 ((x::r).map XA)=VM x+1+X2 (r.map XA):=by
    rw[T9,X2,TJ];rfl
   rw[e];rcases Ud.mp hn with z|z
   ·subst z;omega
   ·have:=ih n z;omega
 intro n hn;have e:(Y5 (ns.map XA)).weight=X2 (ns.map XA):=by rw[TJ]
 rw[e]at h2;exact UN (key ns n hn) h2
theorem attach_callB{l:OpenLaw}{YP:LZ->LO->Prop}{d:DefRec}
 (hn:l.most=some n)(hdf:d.params.defaults=[])
 (call:∀(w:LZ) (s₀ s₁:K9) (mg mb:Str->Option JK) (fa:J7) (o:Obj) (pm cd doc:JK) (a:J7) (vs:List JK) (ns:List Int),
  Ground q loose [] XP w s₀ mg mb s₁.heap->YP w s₁.heap->
  s₁.heap.get? fa=some o->o.data= .func (docDef d.name d.params d.body d.scope pm cd doc)->s₁.heap.CodeRec cd d.name->mg d.name=some (.ref fa)->
  s₁.heap.get? a=some {cls:= .type "list",data:= .seq vs.toArray}->Lx vs ns->ns.length<=n->(∀z∈ns,VM z<=1048576)->s₁.gens=#[]->
  Mo (Kc l.prog w) callerA (.call (.ref fa) ⟨[.ref a],[]⟩) (λr s'=>r= .ok (.ret (.bool true))/\OldK s₁.heap s'.heap/\s'.os=s₁.os/\OP s'.gens) s₁):
 WalkO q loose XP YP l.row.toRowW d [] (λf vs=>Ri f vs):=by
 intro w s₀ s₁ mg mb G Y fa o pm cd doc dV kV ho hd hcd hD hmg hg args vals as hpre hlay hrd hwl hlo;obtain rfl:dV= .none:=Dflts.none hD hdf;obtain rfl:kV= .none:=Dflts.noKw hD;obtain⟨a,vs,ns,rfl,rfl,hobj,hints,hlen⟩:=Lh hn hpre hwl;have hb:∀z∈ns,VM z<=1048576:=Lz hlay;refine enter_call (OZ (call w s₀ s₁ mg mb fa o pm cd doc a vs ns G Y ho (fd_plain hd) hcd hmg hobj hints hlen hb hg) λr s' hq=>?_);obtain⟨rfl,h2,h3,h4⟩:=hq;exact⟨.inl ⟨.bool true,.bool true,[],rfl,λ_=>rfl,.bool true,Li l _,λ_=>⟨List.Pairwise.nil,λ_ hm=>(nomatch hm)⟩⟩,h2,h3,h4⟩
end Att
namespace L2
open PySem PySem.Spec PyProof.Rows
theorem LA{l:To}{YP:LZ->LO->Prop}{d:DefRec}{Z:Params->T5}{CX:LZ->fF}{sp:LZ->Sp}
 (hn:l.most=some n)(hn2:n<=LB)(hdf:d.params.defaults=[])(hr:bz k callerA)
 (hY:∀(w:LZ) (h:LO),YP w h->(Z w.params).In h)
 (F:∀(w:LZ) (mg:Str->Option JK) (fa:J7) (h:LO),(Z w.params).In h->h.Ns LX mg->mg d.name=some (.ref fa)->
  ∃fd:L7,(∀(s:K9) (u:JK),BindsTo s fd ⟨[u],[]⟩ [(x,u)])/\
   ∀base:LO,(Z w.params).In base->base.Ns LX mg->aB l.prog w (Z w.params) mg base (CX w) k fa fd [x] (sp w))
 (hsp:∀(w:LZ) (H:Hp) (a:J7) (ns:List Int),ns.length<=n->(∀z∈ns,VM z<=1048576)->tO H->bA (Z w.params) H a (ns.map V.int)->sp w [.ref a] H (λv _=>v= .bl true) λ_ _ _=>False)
 (hCX:∀(w:LZ) (H:Hp) (s:K9) (e:JK) (s':K9),CX w [] H s (λ_ _ _=>False) e s'->False):
 oo q loose XP YP l.row.toRowW d [] (λf vs=>Ri f vs):=by
 refine Att.attach_callB hn hdf λw s₀ s₁ mg mb fa o pm cd doc a vs ns G Y ho hd hcd hmg hobj hints hlen hb hg=>?_;have KX:=hY w _ Y;obtain⟨fd,hbi,hF⟩:=F w mg fa _ KX G.T.g hmg;exact Lj KX G.T.g G.T.b G.T.builtins G.T.nolimit hg hobj hints (UN hlen hn2) hr hF hbi (λH hO hS=>hsp w H a ns hlen hb hO hS) λH e s'=>hCX w H s₁ e s'
theorem walk_ofBK{l:To}{YP:LZ->LO->Prop}{d:DefRec}{Z:Params->T5}{sp:T5->Sp}
 (hn:l.most=some n)(hn2:n<=LB)(hdf:d.params.defaults=[])(hr:bz k callerA)
 (hY:∀(w:LZ) (h:LO),YP w h->(Z w.params).In h)
 (F:∀(w:LZ) (mg:Str->Option JK) (fa:J7) (h:LO),(Z w.params).In h->h.Ns LX mg->mg d.name=some (.ref fa)->
  ∃fd:L7,(∀(s:K9) (u:JK),BindsTo s fd ⟨[u],[]⟩ [(x,u)])/\
   ∀base:LO,(Z w.params).In base->base.Ns LX mg->aB l.prog w (Z w.params) mg base CX k fa fd [x] (sp (Z w.params)))
 (hsp:∀(Z:T5) (H:Hp) (a:J7) (ns:List Int),ns.length<=n->(∀z∈ns,VM z<=1048576)->tO H->bA Z H a (ns.map V.int)->sp Z [.ref a] H (λv _=>v= .bl true) λ_ _ _=>False)
 (hCX:∀(H:Hp) (s:K9) (e:JK) (s':K9),CX [] H s (λ_ _ _=>False) e s'->False):
 oo q loose XP YP l.row.toRowW d [] (λf vs=>Ri f vs):=
 LA (Z:=Z) (CX:=λ_=>CX) (sp:=λw=>sp (Z w.params)) hn hn2 hdf hr hY F (λw H a ns h1 hb h2 h3=>hsp (Z w.params) H a ns h1 hb h2 h3) λ_ H s e s'=>hCX H s e s'
def qi(p:J7)(H H':Hp):Prop:=∀b o,H b=some o->b≠p->H' b=some o
theorem au.new{H:Hp}(h:H p=none):au H (ah H p o):=λb u e=>by rw[aD (fC e h)];exact e
def FR(J:It)(g:TG)(tb:TS)(D:i9)(U:St)(H1:Hp):Prop:=∃W:Nat->Nat->St->Hp->Prop,(∃m,W 0 m U H1)/\∀i m U H,W i m U H->
 (J.stop i H/\D.nx U H)\/(J.go i H/\∃N:St->Hp->Prop,(∀U' H',N U' H'->∃m',m' < m/\W (i+1) m' U' H')/\∀x H',J.yld i H x H'->g x U H' λσ2 H2=>tb {D with nx:=N,ct:=N,bk:=D.nx} σ2 H2)
theorem abf:rA (wj ta) g tb=λD U H=>ta U H λvs H1=>∃j:Int,vs=[.int j]/\-(2 ^ 62)<=j/\j < 2 ^ 62/\FR (jB 0 j.toNat) g tb D U H1:=rfl
theorem LC:rA (wk ta) g tb=λD U H=>ta U H λvs H1=>∃i j:Int,vs=[.int i,.int j]/\(-(2 ^ 62)<=i/\i < 2 ^ 62/\-(2 ^ 62)<=j/\j < 2 ^ 62)/\FR (jB i (j - i).toNat) g tb D U H1:=rfl
theorem LD:rA (wc Z tl) g tb=λD U H=>tl U H λx H1=>∃a,x= .ref a/\(∃xs,bA Z H1 a xs)/\FR (p7 Z a) g tb D U H1:=rfl
theorem LF:rA (we Z tl) g tb=λD U H=>tl U H λx H1=>∃a,x= .ref a/\(∃xs,br Z H1 a xs)/\FR (ro Z a) g tb D U H1:=rfl
def nL(J:It)(g:TG)(tc:TT)(te:TE)(k:Nat)(fr:List Nat)(U:St)(H1:Hp)(Q:VK):Prop:=∀D,H1 D=none->∃W:Nat->Nat->Hp->Prop,(∃m,W 0 m (ah H1 D (.lst [])))/\∀i m H,W i m H->
 (J.stop i H/\Q (.ref D) H)\/(J.go i H/\∀x H',J.yld i H x H'->g x (bL k fr U) H' λσ2 H2=>nK (bL k fr U) σ2/\tc σ2 H2 λok H3=>
  if ok=true then te σ2 H3 λy H4=>∃ys,H4 D=some (.lst ys)/\ys.length < LB/\∃m',m' < m/\W (i+1) m' (ah H4 D (.lst (ys++[y])))
  else ∃m',m' < m/\W (i+1) m' H3)
theorem acS:kU (wj ta) g tc te k fr=λU H Q=>ta U H λvs H1=>∃j:Int,vs=[.int j]/\-(2 ^ 62)<=j/\j < 2 ^ 62/\nL (jB 0 j.toNat) g tc te k fr U H1 Q:=rfl
theorem LH:kU (wk ta) g tc te k fr=λU H Q=>ta U H λvs H1=>∃i j:Int,vs=[.int i,.int j]/\(-(2 ^ 62)<=i/\i < 2 ^ 62/\-(2 ^ 62)<=j/\j < 2 ^ 62)/\nL (jB i (j - i).toNat) g tc te k fr U H1 Q:=rfl
theorem LI:kU (wc Z tl) g tc te k fr=λU H Q=>tl U H λx H1=>∃a,x= .ref a/\(∃xs,bA Z H1 a xs)/\nL (p7 Z a) g tc te k fr U H1 Q:=rfl
theorem LJ:kU (we Z tl) g tc te k fr=λU H Q=>tl U H λx H1=>∃a,x= .ref a/\(∃xs,br Z H1 a xs)/\nL (ro Z a) g tc te k fr U H1 Q:=rfl
theorem Dv:nK (bL 1 fr U) ((bL 1 fr U).set 0 v):=by
 refine⟨KJ,λi w h=>?_⟩;cases i with
 |zero=>simp[bL,Uz]at h
 |succ i=>simpa [bL,Uz]using h
theorem LK{lo:Int}{n:Nat}{te:TE}{fr:List Nat}{U:St}{Q:VK}(f:Nat->V)(hn:n<=1000000)
 (ht:∀(i:Nat) (H':Hp) (R:VK),i < n->au H H'->(∀H'',au H' H''->R (f i) H'')->te ((bL 1 fr U).set 0 (some (.int (lo+i)))) H' R)
 (hq:∀D H',H D=none->au H H'->H' D=some (.lst ((Vo n).map f))->Q (.ref D) H'):nL (jB lo n) (jA 0) Dp te 1 fr U H Q:=by
 intro D hD;refine⟨λi m H'=>m=n - i/\i<=n/\au H H'/\H' D=some (.lst ((Vo i).map f)),⟨n,KJ,UY _,au.new hD,by rw[bF];rfl⟩,?_⟩;rintro i m H1 ⟨rfl,hi,s1,e1⟩;by_cases hlt:i < n
 ·refine .inr ⟨hlt,λx H' y=>?_⟩;obtain⟨e,y⟩:=y;subst e y;refine⟨Dv,?_⟩;show te _ _ _;refine ht i H' _ hlt s1 λH2 s2=>?_;refine⟨_,s2 D _ e1,?_,n - (i+1),J1,rfl,hlt,?_,?_⟩
  ·rw[T6,XJ,My];omega
  ·exact λb o h=>by rw[aD (fC h hD)];exact s2 b o (s1 b o h)
  ·rw[bF,Zp,UA];rfl
 ·have e:i=n:=J1
  subst e;exact .inl ⟨T8 _,hq D H1 hD s1 e1⟩
theorem cxK:(jd CX P w Z mg base N qual scope f cd A outer s H E).K=Z:=rfl
theorem UT:(bS X scope N' fp C s H).K=X.K:=rfl
theorem jF{Q:VK}(h:br Z H p xs)(hv:atI xs i=some v)(q:Q v H):tN Z (.ref p) (.int i) H Q:=⟨p,xs,i,v,rfl,rfl,h,hv,q⟩
theorem rJ{α:Type}{xs:List α}{i:Int}(h0:0<=i)(h1:i < xs.length):∃v,atI xs i=some v/\v∈xs:=by
 obtain⟨j,rfl⟩:=Wt h0;have hj:j < xs.length:=J1
 exact⟨xs[j],gN (by simp[hj]),Wa hj⟩
theorem Dw{a b:Int}:(if b < a then b else a)=min a b:=by
 by_cases h:b < a
 ·rw[KI h];omega
 ·rw[JS h];omega
theorem kW:M9 "isinstance"=some (.builtin "isinstance"):=Kg
theorem nM:M9 "int"=some (.type "int"):=Kg
theorem wU:M9 "bool"=some (.type "bool"):=Kg
theorem DfT:M9 "str"=some (.type "str"):=Kg
theorem fZ:M9 "tuple"=some (.type "tuple"):=Kg
theorem LM:M9 "list"=some (.type "list"):=Kg
open PySem PySem.Spec PyProof.Rows PySem.W
theorem Dx{bs:List Bool}(r:aL (bs.map V.bl) its):its=bs.map W3:=by
 induction bs generalizing its with
 |nil=>cases r;rfl
 |cons b bs ih=>
  rw[T9]at r;cases r with
  |cons r1 r2=>
   rw[T9,<-ih r2];exact congrArg (·::_) r1
theorem LN(bs:List Bool)(f:Nat->Bool)(h:∀i,i < bs.length->f i=bs.getD i true):(Vo bs.length).all f=bs.all id:=by
 rw[Xb,Xr,Xr];constructor
 ·intro z b hb;obtain⟨i,hi,e⟩:=X0 hb;have:=z i (XQ.mpr hi);rw[h i hi,WB,UM hi]at this;rw[<-e];exact this
 ·intro z i hi;have hi:=XQ.mp hi;rw[h i hi,WB,UM hi];exact z _ (Wa hi)
theorem abj(bs:List Bool)(f:Nat->Bool)(h:∀i,i < bs.length->f i=bs.getD i true):(Vo bs.length).any f=bs.any id:=by
 rw[Xb,WD,WD];constructor
 ·rintro⟨i,hi,z⟩;have hi:=XQ.mp hi;rw[h i hi,WB,UM hi]at z;exact⟨_,Wa hi,z⟩
 ·rintro⟨b,hb,z⟩;obtain⟨i,hi,e⟩:=X0 hb;refine⟨i,XQ.mpr hi,?_⟩;rw[h i hi,WB,UM hi];show bs[i]=true;rw[e];exact z
theorem Dy{bs:List Bool}{i:Nat}{v:JK}(h:(bs.map W3).toArray[i]?=some v):v= .bool (bs.getD i true):=by
 have h':(bs.map W3)[i]?=some v:=by simpa using h
 rw[Ul]at h';cases e:bs[i]? with
 |none=>rw[e]at h';cases h'
 |some b=>
  rw[e]at h';rw[WB,e];exact(Ve h').symm
theorem Dz{s:K9}{Q:JK->K9->Prop}(hl:s.heap.IsList l items)
 (h:∀s₂:K9,s₂={s with heap:=s.heap.push {cls:= .type "list_iterator",data:= .fields #[.ref l,.int 0 0]}}->
  (s₂.heap.IsListIter s.heap.objs.size l 0/\s₂.heap.IsList l items)->l≠s.heap.objs.size->Q (.ref s.heap.objs.size) s₂):KS (Kc prog w) A (pyIter (.ref l)) Q E s:=by
 have hlt:l < s.heap.objs.size:=by obtain⟨_,e,_⟩:=hl;exact Ut e
 exact Ru hl (h _ rfl ⟨⟨_,UE _ rfl,rfl,rfl⟩,hl.push _⟩ (UQ hlt))
theorem LP(hc:X.calm=true):fo X (.builtin "all") (λxs H Q=>∃(a:J7)(bs:List Bool),xs=[.ref a]/\bA X.K H a (bs.map V.bl)/\Q (.bl (bs.all id)) H):=by
 intro acT s U H xs us Q I r h;obtain⟨a,bs,rfl,hl,q⟩:=h;obtain⟨u,rfl,rx⟩:=fO r;cases rx;obtain⟨its,rv,p,hz⟩:=I.list hl;have hi:=Dx rv;subst hi;refine call_all_walk (Dz p.isList λs₂ e st hlI=>?_);subst e;refine⟨_,_,_,_,_,_,λi=>bs.getD i true,rfl,ZG (A:=X.A.in1) (I.ok.hd hc) _ a hlI _,st,λi v s' Q' E' hP hq=>by rw[Dy hP];exact Nr hq,λh' tk hk=>?_⟩;have e:=LN bs (λi=>bs.getD i true) λ_ _=>rfl;have e2:(UR W3 bs).toArray.size=bs.length:=KJ
 rw[e2,e];exact⟨.bl (bs.all id),H,I.kept (old_kept hk),rfl,q⟩
theorem DC(hc:X.calm=true):fo X (.builtin "any") (λxs H Q=>∃(a:J7)(bs:List Bool),xs=[.ref a]/\bA X.K H a (bs.map V.bl)/\Q (.bl (bs.any id)) H):=by
 intro acT s U H xs us Q I r h;obtain⟨a,bs,rfl,hl,q⟩:=h;obtain⟨u,rfl,rx⟩:=fO r;cases rx;obtain⟨its,rv,p,hz⟩:=I.list hl;have hi:=Dx rv;subst hi;refine call_any_walk (Dz p.isList λs₂ e st hlI=>?_);subst e;refine⟨_,_,_,_,_,_,λi=>bs.getD i true,rfl,ZG (A:=X.A.in1) (I.ok.hd hc) _ a hlI _,st,λi v s' Q' E' hP hq=>by rw[Dy hP];exact Nr hq,λh' tk hk=>?_⟩;have e:=abj bs (λi=>bs.getD i true) λ_ _=>rfl;have e2:(UR W3 bs).toArray.size=bs.length:=KJ
 rw[e2,e];exact⟨.bl (bs.any id),H,I.kept (old_kept hk),rfl,q⟩
open PySem PySem.Spec PyProof.Rows PySem.W PySem.Calls PySem.Builtin.ObjectAttr PySem.Builtin PySem.Builtin.Getset_descriptor
abbrev dh(d:J4):Prop:=Wl d=true
theorem LQ:M9 "all"=some (.builtin "all"):=Kg
theorem DD:M9 "any"=some (.builtin "any"):=Kg
def abp(p:J7)(h:LO):Prop:=∃(n:Int)(t:Tok)(k:Nat),h.get? p=some {cls:= .type "list",data:= .seq #[.int n t] k}
abbrev LS(p:J7):HO:= .ext (abp p)
abbrev LU:J4:= .dict [(.none,.none)]
def LV(p:J7)(h:LO):Prop:=∃(a b c:Int)(t u v:Tok)(k:Nat),h.get? p=some {cls:= .type "list",data:= .seq #[.int a t,.int b u,.int c v] k}
abbrev abq(p:J7):HO:= .ext (LV p)
abbrev abk:J4:= .dict [(.none,.bool true)]
abbrev gP(ds:List J4):J4:= .dict [(.none,.list ds)]
abbrev gb(C:J7)(kp ds:List J4):J4:= .dict [(.none,.tuple [.int (C:Int),.list kp,.list ds])]
abbrev DH(kp ds:List J4):J4:= .dict [(.bool true,.tuple [.list kp,.list ds])]
abbrev Ex:=J7->Prop
abbrev tS:Hp:=λ_=>none
mutual
inductive Dt(Z:T5)(H:Hp)(O:Ex):V->J4->Prop
 |non:Dt Z H O .non .none
 |bl (b:Bool):Dt Z H O (.bl b) (.bool b)
 |int (i:Int):Dt Z H O (.int i) (.int i)
 |str (x:Str):Dt Z H O (.str x) (.str x)
 |tup {a:J7} {xs:List V} {ds:List J4}:Rd H a (.tup xs)->¬O a->aj Z H O xs ds->Dt Z H O (.ref a) (.tuple ds)
 |tupK {a:J7} {xs:List V} {ds:List J4}:br Z tS a xs->aj Z H O xs ds->Dt Z H O (.ref a) (.tuple ds)
 |lst {a:J7} {xs:List V} {ds:List J4}:Rd H a (.lst xs)->¬O a->aj Z H O xs ds->Dt Z H O (.ref a) (.list ds)
 |pack {p:J7}:H p=some (LS p)->¬O p->Dt Z H O (.ref p) LU
 |purse {p:J7}:H p=some (abq p)->¬O p->Dt Z H O (.ref p) abk
 |dct0 {a:J7}:H a=some (.dK [])->¬O a->Dt Z H O (.ref a) (.dict [])
 |obj {a C dx:J7} {fs:List (Str×V)} {kp ds:List J4}:H a=some (.ins C dx fs)->kp=fs.map (λp=>Ub p.1)->¬O a->aj Z H O (fs.map (·.2)) ds->Dt Z H O (.ref a) (gb C kp ds)
 |dic {a:J7} {ob:Obj} {kv:List (ao×V)} {ks:List Str} {kp ds:List J4}:H a=some (.frz ob (.dK kv))->kv.map (·.1)=ks.map VG->kp=ks.map Ub->¬O a->aj Z H O (kv.map (·.2)) ds->Dt Z H O (.ref a) (DH kp ds)
 |scr {a:J7} {xs:List V} {ds:List J4}:(Rd H a (.lst xs)/\¬O a)\/bA Z tS a xs->aj Z H O xs ds->Dt Z H O (.ref a) (gP ds)
inductive aj(Z:T5)(H:Hp)(O:Ex):List V->List J4->Prop
 |nil:aj Z H O [] []
 |cons {v:V} {d:J4} {vs:List V} {ds:List J4}:Dt Z H O v d->aj Z H O vs ds->aj Z H O (v::vs) (d::ds)
end
theorem Rd.same{H H':Hp}(s:∀o,H a=some o->H' a=some o)(h:Rd H a u):Rd H' a u:=by
 rcases h with h|⟨o,h⟩
 ·exact .inl (s _ h)
 ·exact .inr ⟨o,s _ h⟩
theorem Rd.trk(h:Rd H a u):H a≠none:=by
 rcases h with h|⟨o,h⟩<;>rw[h]<;>exact λz=>nomatch z
section
variable{Z:T5}
structure aJ (H H':Hp) (O O':Ex):Prop where
 keep:∀b o,H b=some o->¬O b->H' b=some o
 out:∀b,H b≠none->¬O b->¬O' b
mutual
theorem Dt.step{H H':Hp}{O O':Ex}(S:aJ H H' O O'):∀{v:V}{d:J4},Dt Z H O v d->Dt Z H' O' v d
 |_,_,.non=>.non
 |_,_,.bl b=>.bl b
 |_,_,.int i=>.int i
 |_,_,.str x=>.str x
 |_,_,.tup h n r=>.tup (h.same λo e=>S.keep _ o e n) (S.out _ h.trk n) (aj.step S r)
 |_,_,.tupK h r=>.tupK h (aj.step S r)
 |_,_,.lst h n r=>.lst (h.same λo e=>S.keep _ o e n) (S.out _ h.trk n) (aj.step S r)
 |_,_,.pack h n=>.pack (S.keep _ _ h n) (S.out _ (by rw[h];exact λz=>nomatch z) n)
 |_,_,.purse h n=>.purse (S.keep _ _ h n) (S.out _ (by rw[h];exact λz=>nomatch z) n)
 |_,_,.dct0 h n=>.dct0 (S.keep _ _ h n) (S.out _ (by rw[h];exact λz=>nomatch z) n)
 |_,_,.obj h e n r=>.obj (S.keep _ _ h n) e (S.out _ (by rw[h];exact λz=>nomatch z) n) (aj.step S r)
 |_,_,.dic h e1 e2 n r=>.dic (S.keep _ _ h n) e1 e2 (S.out _ (by rw[h];exact λz=>nomatch z) n) (aj.step S r)
 |_,_,.scr h r=>.scr (h.imp (λh=>⟨h.1.same λo e=>S.keep _ o e h.2,S.out _ h.1.trk h.2⟩) id) (aj.step S r)
theorem aj.step{H H':Hp}{O O':Ex}(S:aJ H H' O O'):∀{vs:List V}{ds:List J4},aj Z H O vs ds->aj Z H' O' vs ds
 |_,_,.nil=>.nil
 |_,_,.cons h r=>.cons (Dt.step S h) (aj.step S r)
end
theorem aJ.same{H H':Hp}{O:Ex}(s:au H H'):aJ H H' O O:=⟨λb o e _=>s b o e,λ_ _ n=>n⟩
theorem Dt.mono{H H':Hp}{O:Ex}{v:V}{d:J4}(s:au H H')(h:Dt Z H O v d):Dt Z H' O v d:=h.step (.same s)
theorem aj.mono{H H':Hp}{O:Ex}{v:List V}{d:List J4}(s:au H H')(h:aj Z H O v d):aj Z H' O v d:=h.step (.same s)
theorem aj.length{H:Hp}{O:Ex}:∀{vs:List V}{ds:List J4},aj Z H O vs ds->vs.length=ds.length
 |_,_,.nil=>rfl
 |_,_,.cons _ r=>by rw[Uk,Uk,aj.length r]
theorem aj.get{H:Hp}{O:Ex}:∀{vs:List V}{ds:List J4}{i:Nat}{v:V},aj Z H O vs ds->vs[i]?=some v->∃d,ds[i]?=some d/\Dt Z H O v d
 |_,_,_,_,.nil,e=>by simp at e
 |_,_,0,_,.cons h _,e=>by simp at e;subst e;exact⟨_,rfl,h⟩
 |_,_,i+1,_,.cons _ r,e=>by simpa using aj.get (i:=i) r (by simpa using e)
theorem aj.getD{H:Hp}{O:Ex}:∀{vs:List V}{ds:List J4}{i:Nat}{d:J4},aj Z H O vs ds->ds[i]?=some d->∃v,vs[i]?=some v/\Dt Z H O v d
 |_,_,_,_,.nil,e=>by simp at e
 |_,_,0,_,.cons h _,e=>by simp at e;subst e;exact⟨_,rfl,h⟩
 |_,_,i+1,_,.cons _ r,e=>by simpa using aj.getD (i:=i) r (by simpa using e)
theorem aj.append{H:Hp}{O:Ex}:∀{vs ws:List V}{ds es:List J4},aj Z H O vs ds->aj Z H O ws es->aj Z H O (vs++ws) (ds++es)
 |_,_,_,_,.nil,s=>s
 |_,_,_,_,.cons h r,s=>.cons h (aj.append r s)
theorem aj.take{H:Hp}{O:Ex}:∀{vs:List V}{ds:List J4}(n:Nat),aj Z H O vs ds->aj Z H O (vs.take n) (ds.take n)
 |_,_,0,_=>.nil
 |_,_,_+1,.nil=>.nil
 |_,_,n+1,.cons h r=>.cons h (aj.take n r)
theorem aj.drop{H:Hp}{O:Ex}:∀{vs:List V}{ds:List J4}(n:Nat),aj Z H O vs ds->aj Z H O (vs.drop n) (ds.drop n)
 |_,_,0,r=>r
 |_,_,_+1,.nil=>.nil
 |_,_,n+1,.cons _ r=>aj.drop n r
theorem aj.reverse{H:Hp}{O:Ex}:∀{vs:List V}{ds:List J4},aj Z H O vs ds->aj Z H O vs.reverse ds.reverse
 |_,_,.nil=>.nil
 |_,_,.cons h r=>by rw[XM,XM];exact(aj.reverse r).append (.cons h .nil)
theorem aj.ints{H:Hp}{O:Ex}:∀(ns:List Int),aj Z H O (ns.map V.int) (ns.map Uy)
 | []=>.nil
 |n::r=>.cons (.int n) (aj.ints r)
inductive Sh(Z:T5)(H:Hp)(O:Ex):V->J4->Prop
 |dt {v:V} {d:J4}:Dt Z H O v d->Sh Z H O v d
 |own {l:J7} {vs:List V} {ds:List J4}:H l=some (.lst vs)->aj Z H O vs ds->Sh Z H O (.ref l) (.list ds)
theorem Sh.mono(s:au H H'):Sh Z H O v d->Sh Z H' O v d
 | .dt h=>.dt (h.mono s)
 | .own h r=>.own (s _ _ h) (r.mono s)
theorem Dt.all{H:Hp}{O:Ex}{v:V}{d:J4}(h:Dt Z H O v d):Dt Z H (λ_=>False) v d:=h.step ⟨λ_ _ e _=>e,λ_ _ _ z=>z⟩
theorem aj.all{H:Hp}{O:Ex}{v:List V}{d:List J4}(h:aj Z H O v d):aj Z H (λ_=>False) v d:=h.step ⟨λ_ _ e _=>e,λ_ _ _ z=>z⟩
theorem Sh.all:Sh Z H O v d->Dt Z H (λ_=>False) v d
 | .dt h=>h.all
 | .own h r=>.lst (.inl h) (λz=>z) r.all
theorem br.of0{H:Hp}{a:J7}{xs:List V}(h:br Z tS a xs):br Z H a xs:=by
 rcases h with(h|⟨o,h⟩)|h
 ·cases h
 ·cases h
 ·exact .inr h
theorem bA.of0{H:Hp}{a:J7}{xs:List V}(h:bA Z tS a xs):bA Z H a xs:=by
 rcases h with(h|⟨o,h⟩)|h
 ·cases h
 ·cases h
 ·exact .inr h
theorem Sh.tup{H:Hp}{O:Ex}{v:V}{ds:List J4}(h:Sh Z H O v (.tuple ds)):∃a xs,v= .ref a/\br Z H a xs/\aj Z H O xs ds:=by
 cases h with
 |dt h=>
  cases h with
  |tup h _ r=>exact⟨_,_,rfl,.inl h,r⟩
  |tupK h r=>exact⟨_,_,rfl,h.of0,r⟩
theorem Sh.lstR(h:Sh Z H O v (.list ds)):∃a xs,v= .ref a/\Rd H a (.lst xs)/\aj Z H O xs ds:=by
 cases h with
 |dt h=>
  cases h with
  |lst h _ r=>exact⟨_,_,rfl,h,r⟩
 |own h r=>exact⟨_,_,rfl,.inl h,r⟩
theorem Sh.lst{H:Hp}{O:Ex}{v:V}{ds:List J4}(h:Sh Z H O v (.list ds)):∃a xs,v= .ref a/\bA Z H a xs/\aj Z H O xs ds:=by
 obtain⟨a,xs,e,h,r⟩:=h.lstR;exact⟨a,xs,e,.inl h,r⟩
theorem Sh.scr(h:Sh Z H O v (gP ds)):∃a xs,v= .ref a/\bA Z H a xs/\aj Z H O xs ds:=by
 cases h with
 |dt h=>
  cases h with
  |scr h r=>
   rcases h with h|h
   ·exact⟨_,_,rfl,.inl h.1,r⟩
   ·exact⟨_,_,rfl,h.of0,r⟩
theorem Sh.int(h:Sh Z H O v (.int i)):v= .int i:=by cases h with|dt h=>cases h;rfl
theorem Sh.bl(h:Sh Z H O v (.bool i)):v= .bl i:=by cases h with|dt h=>cases h;rfl
theorem Sh.str(h:Sh Z H O v (.str i)):v= .str i:=by cases h with|dt h=>cases h;rfl
theorem Sh.non(h:Sh Z H O v .none):v= .non:=by cases h with|dt h=>cases h;rfl
end
section
variable{X:Cx}{acT:List (J7×Obj)}{U:St}{H:Hp}{s:K9}
mutual
theorem je(I:ag X acT U H s){O:Ex}:∀{v:V}{d:J4}{u:JK},Dt X.K H O v d->d.canLay0=true->aN v u->∃as,Reads s.heap u d as
 |_,_,_,.non,_,r=>by cases r;exact⟨_,Reads.none⟩
 |_,_,_,.bl b,_,r=>by cases r;exact⟨_,Reads.bool b⟩
 |_,_,_,.int i,_,r=>by obtain⟨t,rfl⟩:=r;exact⟨_,Reads.int i t⟩
 |_,_,_,.str x,_,r=>by obtain⟨t,rfl⟩:=r;exact⟨_,Reads.str x t⟩
 |_,_,_,.tup h _ hs,c,r=>by
  cases r;obtain⟨its,rv,⟨o,e,c',n,dd⟩,_⟩:=I.tuple (.inl h);obtain⟨as,q⟩:=tT I hs (by simpa [Va]using c) rv;exact⟨as,reads_tuple_at e c' dd (by simpa using q)⟩
 |_,_,_,.tupK h hs,c,r=>by
  cases r;obtain⟨its,rv,⟨o,e,c',n,dd⟩,_⟩:=I.tuple h.of0;obtain⟨as,q⟩:=tT I hs (by simpa [Va]using c) rv;exact⟨as,reads_tuple_at e c' dd (by simpa using q)⟩
 |_,_,_,.lst h _ hs,c,r=>by
  cases r;obtain⟨its,rv,⟨o,n,e,c',_,dd⟩,_⟩:=I.list (.inl h);obtain⟨as,q⟩:=tT I hs (by simpa [Va]using c) rv;exact⟨_,reads_list_at e c' dd (by simpa using q)⟩
 |_,_,_,.pack _ _,c,_=>by simp[Va]at c
 |_,_,_,.purse _ _,c,_=>by simp[Va]at c
 |_,_,_,.dct0 _ _,c,_=>by simp[Va]at c
 |_,_,_,.obj _ _ _ _,c,_=>by simp[Va]at c
 |_,_,_,.dic _ _ _ _ _,c,_=>by simp[Va]at c
 |_,_,_,.scr _ _,c,_=>by simp[Va]at c
theorem tT(I:ag X acT U H s){O:Ex}:∀{vs:List V}{ds:List J4}{us:List JK},aj X.K H O vs ds->VP ds=true->aL vs us->∃as,ReadsAll s.heap us ds as
 |_,_,_,.nil,_,r=>by cases r;exact⟨_,ReadsAll.nil⟩
 |_,_,_,.cons h hs,c,r=>by
  rw[VP,U0]at c;cases r with
  |cons r1 r2=>
   obtain⟨as,q⟩:=je I h c.1 r1;obtain⟨bs,p⟩:=tT I hs c.2 r2;exact⟨_,ReadsAll.cons q p⟩
end
end
inductive Sl where
 |v (d:J4)
 |o (ds:List J4)
 |k (kd:List (ao×J4))
 |i (l C:J7) (fd:List (Str×J4))
 |r (l C g u:J7) (fd:List (Str×J4)) (gd ud:List (ao×J4))
 |b (ds:List J4)
abbrev Dl:=List (Option Sl)
inductive bM(Z:T5)(H:Hp)(O:Ex):List (ao×V)->List (ao×J4)->Prop
 |nil:bM Z H O [] []
 |cons {k:ao} {v:V} {d:J4} {r:List (ao×V)} {s:List (ao×J4)}:Dt Z H O v d->bM Z H O r s->bM Z H O ((k,v)::r) ((k,d)::s)
theorem bM.step(S:aJ H H' O O')(h:bM Z H O r s):bM Z H' O' r s:=by
 induction h with
 |nil=>exact .nil
 |cons a _ ih=>exact .cons (a.step S) ih
theorem bM.mono(S:au H H')(h:bM Z H O r s):bM Z H' O r s:=h.step (.same S)
def jf(Z:T5)(H:Hp)(O:Ex)(fs:List (Str×V))(fd:List (Str×J4)):Prop:=fs.map (·.1)=fd.map (·.1)/\aj Z H O (fs.map (·.2)) (fd.map (·.2))
def Sl.own:Sl->Prop
 | .v _=>False
 | .b _=>False
 |_=>True
abbrev cB:Str:=T4 "gone"
abbrev eG:Str:=T4 "used"
def wV(Z:T5)(H:Hp)(O0 O:Ex)(l C g u:J7)(fd:List (Str×J4))(gd ud:List (ao×J4)):Prop:=∃dx fs og ou gv uv,H l=some (.ins C dx (fs++[(cB,.ref g),(eG,.ref u)]))/\jf Z H O fs fd/\g≠u/\
 (O g/\¬O0 g/\H g=some (.frz og (.dK gv))/\bM Z H O gv gd)/\(O u/\¬O0 u/\H u=some (.frz ou (.dK uv))/\bM Z H O uv ud)
def iI(Z:T5)(H:Hp)(O0 O:Ex)(x:Option V):Option Sl->Prop
 |none=>True
 |some (.v d)=>∃v,x=some v/\Dt Z H O v d
 |some (.o ds)=>∃l vs,x=some (.ref l)/\O l/\¬O0 l/\H l=some (.lst vs)/\aj Z H O vs ds
 |some (.k kd)=>∃l kv,x=some (.ref l)/\O l/\¬O0 l/\H l=some (.dK kv)/\bM Z H O kv kd
 |some (.i l C fd)=>∃dx fs,x=some (.ref l)/\O l/\¬O0 l/\H l=some (.ins C dx fs)/\jf Z H O fs fd
 |some (.r l C g u fd gd ud)=>x=some (.ref l)/\O l/\¬O0 l/\wV Z H O0 O l C g u fd gd ud
 |some (.b ds)=>∃l vs,x=some (.ref l)/\O0 l/\H l=some (.lst vs)/\aj Z H O vs ds
structure Wd (Z:T5) (H0:Hp) (O0:Ex) (H:Hp) (O:Ex) (U:St) (Y:Dl):Prop where
 same:au H0 H
 sub:∀l,O0 l->O l
 new:∀l,O l->O0 l\/H0 l=none
 trk:∀l,O l->H l≠none
 len:U.length=Y.length
 sl:∀(i:Nat) y,Y[i]?=some y->iI Z H O0 O ((U[i]?).join) y
 dis:∀(i j:Nat) y z l,Y[i]?=some (some y)->y.own->Y[j]?=some (some z)->z.own->U[i]?=some (some (.ref l))->U[j]?=some (some (.ref l))->i=j
section
variable{Z:T5}{H0 H H':Hp}{O0 O:Ex}{U:St}{Y:Dl}
theorem iI.mono(s:au H H')(h:iI Z H O0 O x y):iI Z H' O0 O x y:=by
 cases y with
 |none=>exact VY
 |some y=>
  cases y with
  |v d=>
   obtain⟨v,e,r⟩:=h;exact⟨v,e,r.mono s⟩
  |o ds=>
   obtain⟨l,vs,e,a,b,c,r⟩:=h;exact⟨l,vs,e,a,b,s _ _ c,r.mono s⟩
  |k ds=>
   obtain⟨l,vs,e,a,b,c,r⟩:=h;exact⟨l,vs,e,a,b,s _ _ c,r.mono s⟩
  |i l C ds=>
   obtain⟨dx,vs,e,a,b,c,r1,r2⟩:=h;exact⟨dx,vs,e,a,b,s _ _ c,r1,r2.mono s⟩
  |r l C g u fd gd ud=>
   obtain⟨e,a,b,dx,fs,og,ou,gv,uv,c,⟨r1,r2⟩,ne,⟨g1,g2,g3,g4⟩,u1,u2,u3,u4⟩:=h;exact⟨e,a,b,dx,fs,og,ou,gv,uv,s _ _ c,⟨r1,r2.mono s⟩,ne,⟨g1,g2,s _ _ g3,g4.mono s⟩,u1,u2,s _ _ u3,u4.mono s⟩
  |b ds=>
   obtain⟨l,vs,e,a,c,r⟩:=h;exact⟨l,vs,e,a,s _ _ c,r.mono s⟩
theorem iI.go(h:iI Z H O0 O x y)(S:aJ H H' O O')(kp:∀l o,y.any (λz=>match z with | .v _=>false | .b _=>false|_=>true)=true->x=some (.ref l)->O l->¬O0 l->H l=some o->O' l/\H' l=some o)
 (kp2:∀a o u,O a->¬O0 a->H a=some (.frz o u)->O' a/\H' a=some (.frz o u))(kp3:∀a o,O0 a->H a=some o->H' a=some o):iI Z H' O0 O' x y:=by
 cases y with
 |none=>exact VY
 |some y=>
  cases y with
  |v d=>
   obtain⟨v,e,r⟩:=h;exact⟨v,e,r.step S⟩
  |o ds=>
   obtain⟨l,vs,e,a,b,c,r⟩:=h;exact⟨l,vs,e,(kp l _ rfl e a b c).1,b,(kp l _ rfl e a b c).2,r.step S⟩
  |k ds=>
   obtain⟨l,vs,e,a,b,c,r⟩:=h;exact⟨l,vs,e,(kp l _ rfl e a b c).1,b,(kp l _ rfl e a b c).2,r.step S⟩
  |i l C ds=>
   obtain⟨dx,vs,e,a,b,c,r1,r2⟩:=h;exact⟨dx,vs,e,(kp l _ rfl e a b c).1,b,(kp l _ rfl e a b c).2,r1,r2.step S⟩
  |r l C g u fd gd ud=>
   obtain⟨e,a,b,dx,fs,og,ou,gv,uv,c,⟨r1,r2⟩,ne,⟨g1,g2,g3,g4⟩,u1,u2,u3,u4⟩:=h;exact⟨e,(kp l _ rfl e a b c).1,b,dx,fs,og,ou,gv,uv,(kp l _ rfl e a b c).2,⟨r1,r2.step S⟩,ne,⟨(kp2 _ _ _ g1 g2 g3).1,g2,(kp2 _ _ _ g1 g2 g3).2,g4.step S⟩,(kp2 _ _ _ u1 u2 u3).1,u2,(kp2 _ _ _ u1 u2 u3).2,u4.step S⟩
  |b ds=>
   obtain⟨l,vs,e,a,c,r⟩:=h;exact⟨l,vs,e,a,kp3 _ _ a c,r.step S⟩
theorem Wd.mono(s:au H H')(w:Wd Z H0 O0 H O U Y):Wd Z H0 O0 H' O U Y:=
 ⟨w.same.trans s,w.sub,w.new,λl h z=>(by
  cases e:H l with
  |none=>exact w.trk l h e
  |some o=>rw[s _ _ e]at z;cases z),w.len,λi y e=>(w.sl i y e).mono s,w.dis⟩
theorem gc{i:Nat}{v:V}(h:(U[i]?).join=some v):U[i]?=some (some v):=by
 cases q:U[i]? with
 |none=>rw[q]at h;cases h
 |some o=>rw[q]at h;rw[show o=some v from h]
theorem Wd.val(w:Wd Z H0 O0 H O U Y){i:Nat}{d:J4}(e:Y[i]?=some (some (.v d))):∃v,U[i]?=some (some v)/\Dt Z H O v d:=by
 obtain⟨v,h,r⟩:=w.sl i _ e;exact⟨v,gc h,r⟩
theorem Wd.own(w:Wd Z H0 O0 H O U Y){i:Nat}{ds:List J4}(e:Y[i]?=some (some (.o ds))):∃l vs,U[i]?=some (some (.ref l))/\O l/\¬O0 l/\H l=some (.lst vs)/\aj Z H O vs ds:=by
 obtain⟨l,vs,h,r⟩:=w.sl i _ e;exact⟨l,vs,gc h,r⟩
theorem Wd.ownK(w:Wd Z H0 O0 H O U Y){i:Nat}{kd:List (ao×J4)}(e:Y[i]?=some (some (.k kd))):∃l kv,U[i]?=some (some (.ref l))/\O l/\¬O0 l/\H l=some (.dK kv)/\bM Z H O kv kd:=by
 obtain⟨l,vs,h,r⟩:=w.sl i _ e;exact⟨l,vs,gc h,r⟩
theorem Wd.ownI(w:Wd Z H0 O0 H O U Y){i:Nat}{l C:J7}{fd:List (Str×J4)}(e:Y[i]?=some (some (.i l C fd))):∃dx fs,U[i]?=some (some (.ref l))/\O l/\¬O0 l/\H l=some (.ins C dx fs)/\jf Z H O fs fd:=by
 obtain⟨dx,vs,h,r⟩:=w.sl i _ e;exact⟨dx,vs,gc h,r⟩
theorem Wd.adr(w:Wd Z H0 O0 H O U Y){i:Nat}(e:Y[i]?=some (some y))(h:y.own):∃l,U[i]?=some (some (.ref l))/\O l/\¬O0 l:=by
 match y,h,e with
 | .o ds,_,e=>obtain⟨l,vs,a,b,c,_⟩:=w.own e;exact⟨l,a,b,c⟩
 | .k ds,_,e=>obtain⟨l,vs,a,b,c,_⟩:=w.ownK e;exact⟨l,a,b,c⟩
 | .i l C ds,_,e=>obtain⟨dx,vs,a,b,c,_⟩:=w.ownI e;exact⟨l,a,b,c⟩
 | .r l C g u fd gd ud,_,e=>obtain⟨a,b,c,_⟩:=w.sl i _ e;exact⟨l,gc a,b,c⟩
theorem Wd.nofrz(w:Wd Z H0 O0 H O U Y){i:Nat}{l:J7}(e:Y[i]?=some (some y))(h:y.own)(hl:U[i]?=some (some (.ref l)))(o:Obj)(u:HO):H l≠some (.frz o u):=by
 match y,h,e with
 | .o ds,_,e=>obtain⟨l',vs,a,b,c,d,_⟩:=w.own e;rw[hl]at a;cases a;rw[d];exact λz=>nomatch z
 | .k ds,_,e=>obtain⟨l',vs,a,b,c,d,_⟩:=w.ownK e;rw[hl]at a;cases a;rw[d];exact λz=>nomatch z
 | .i l C ds,_,e=>obtain⟨dx,vs,a,b,c,d,_⟩:=w.ownI e;rw[hl]at a;cases a;rw[d];exact λz=>nomatch z
 | .r l C g u fd gd ud,_,e=>obtain⟨a,b,c,_,_,_,_,_,_,d,_⟩:=w.sl i _ e;have a:=gc a;rw[hl]at a;cases a;rw[d];exact λz=>nomatch z
theorem Wd.set(w:Wd Z H0 O0 H O U Y)(h:Dt Z H O v d):Wd Z H0 O0 H O (U.set i (some v)) (Y.set i (some (.v d))):=by
 refine⟨w.same,w.sub,w.new,w.trk,by simp[w.len],λj y e=>?_,λj k y z l e1 y1 e2 z2 e3 e4=>?_⟩
 ·by_cases hj:j=i
  ·subst hj;have hl:j < Y.length:=by
    have:=(Uj.mp e).1;simpa using this
   rw[UK hl]at e;cases e;rw[UK (by rw[w.len];exact hl)];exact⟨v,rfl,h⟩
  ·rw[Us (Ne.symm hj)]at e⊢;exact w.sl j y e
 ·have ne:∀{j:Nat}{y:Sl},(Y.set i (some (.v d)))[j]?=some (some y)->y.own->j≠i:=λ{j y} e ho z=>by
   subst z;by_cases hl:j < Y.length
   ·rw[UK hl]at e;cases e;exact ho
   ·rw[V6 (by simpa using hl)]at e;cases e
  have n1:=ne e1 y1;have n2:=ne e2 z2;rw[Us (Ne.symm n1)]at e1 e3;rw[Us (Ne.symm n2)]at e2 e4;exact w.dis j k y z l e1 y1 e2 z2 e3 e4
theorem Wd.setY(w:Wd Z H0 O0 H O U Y){y0:Sl}(hy:y0.own)(hp:H p=none)(h:∀O',aJ H (ah H p ho) O O'->O' p->¬O0 p->iI Z (ah H p ho) O0 O' (some (.ref p)) (some y0)):
 Wd Z H0 O0 (ah H p ho) (λl=>O l\/l=p) (U.set i (some (.ref p))) (Y.set i (some y0)):=by
 have sm:au H (ah H p ho):=au.new hp;have np:∀l,O l->l≠p:=λl hl z=>w.trk l hl (by rw[z];exact hp);have p0:H0 p=none:=by
  cases e:H0 p with
  |none=>rfl
  |some o=>rw[w.same _ _ e]at hp;cases hp
 have S:aJ H (ah H p ho) O (λl=>O l\/l=p):=⟨λb o e _=>sm b o e,λb hb hn z=>z.elim hn λq=>hb (by rw[q];exact hp)⟩;have n0:¬O0 p:=λz=>np p (w.sub p z) rfl;refine⟨w.same.trans sm,λl z=>.inl (w.sub l z),λl z=>z.elim (w.new l) λq=>.inr (by rw[q];exact p0),λl z=>?_,by simp[w.len],λj y e=>?_,λj k y z l e1 y1 e2 z2 e3 e4=>?_⟩
 ·by_cases q:l=p
  ·rw[q,bF];exact λz=>nomatch z
  ·rw[aD q];exact w.trk l (z.resolve_right q)
 ·by_cases hj:j=i
  ·subst hj;have hl:j < Y.length:=by
    have:=(Uj.mp e).1;simpa using this
   rw[UK hl]at e;cases e;rw[UK (by rw[w.len];exact hl)];exact h _ S (.inr rfl) n0
  ·rw[Us (Ne.symm hj)]at e⊢;exact(w.sl j y e).go S (λl o _ _ a _ c=>⟨.inl a,sm _ _ c⟩) (λa o u a1 _ a3=>⟨.inl a1,sm _ _ a3⟩) λa o _ a3=>sm _ _ a3
 ·by_cases hj:j=i
  ·by_cases hk:k=i
   ·rw[hj,hk]
   ·exfalso;rw[hj]at e1 e3;have hl:i < U.length:=by
     have:=(Uj.mp e3).1;simpa using this
    rw[UK hl]at e3;cases e3;rw[Us (Ne.symm hk)]at e2 e4;obtain⟨l',x1,x2,_⟩:=w.adr e2 z2;rw[e4]at x1;cases x1;exact np _ x2 rfl
  ·by_cases hk:k=i
   ·exfalso;rw[hk]at e2 e4;have hl:i < U.length:=by
     have:=(Uj.mp e4).1;simpa using this
    rw[UK hl]at e4;cases e4;rw[Us (Ne.symm hj)]at e1 e3;obtain⟨l',x1,x2,_⟩:=w.adr e1 y1;rw[e3]at x1;cases x1;exact np _ x2 rfl
   ·rw[Us (Ne.symm hj)]at e1 e3;rw[Us (Ne.symm hk)]at e2 e4;exact w.dis j k _ _ l e1 y1 e2 z2 e3 e4
theorem Wd.setO(w:Wd Z H0 O0 H O U Y)(hp:H p=none)(h:aj Z H O vs ds):
 Wd Z H0 O0 (ah H p (.lst vs)) (λl=>O l\/l=p) (U.set i (some (.ref p))) (Y.set i (some (.o ds))):=
 w.setY trivial hp λO' S a b=>⟨p,vs,rfl,a,b,bF,h.step S⟩
theorem Wd.setK(w:Wd Z H0 O0 H O U Y)(hp:H p=none)(h:bM Z H O kv kd):
 Wd Z H0 O0 (ah H p (.dK kv)) (λl=>O l\/l=p) (U.set i (some (.ref p))) (Y.set i (some (.k kd))):=
 w.setY trivial hp λO' S a b=>⟨p,kv,rfl,a,b,bF,h.step S⟩
theorem Wd.putY(w:Wd Z H0 O0 H O U Y){y0 y1:Sl}(h0:y0.own)(h1:y1.own)(e:Y[i]?=some (some y0))(hl:U[i]?=some (some (.ref l)))(h:aJ H (ah H l ho) O O->O l->¬O0 l->iI Z (ah H l ho) O0 O (some (.ref l)) (some y1)):
 Wd Z H0 O0 (ah H l ho) O U (Y.set i (some y1)):=by
 obtain⟨l',x1,x2,x3⟩:=w.adr e h0;rw[hl]at x1;cases x1;have l0:H0 l=none:=(w.new l x2).resolve_left x3;have S:aJ H (ah H l ho) O O:=⟨λb o q n=>by rw[aD (λz=>n (by rw[z];exact x2))];exact q,λ_ _ n=>n⟩;have li:i < Y.length:=(Uj.mp e).1;refine⟨λb o q=>by rw[aD (λz=>by rw[z,l0]at q;cases q)];exact w.same b o q,w.sub,w.new,λb z=>?_,by simp[w.len],λj y q=>?_,λj k y z b e1 y1' e2 z2 e3 e4=>?_⟩
 ·by_cases q:b=l
  ·rw[q,bF];exact λz=>nomatch z
  ·rw[aD q];exact w.trk b z
 ·by_cases hj:j=i
  ·subst hj;rw[UK li]at q;cases q;rw[hl];exact h S x2 x3
  ·rw[Us (Ne.symm hj)]at q;refine(w.sl j y q).go S (λb o ho' e' a1 a2 a3=>⟨a1,?_⟩) (λb o u a1 a2 a3=>⟨a1,by rw[aD (λz=>w.nofrz e h0 hl o u (by rw[<-z];exact a3))];exact a3⟩) λb o a1 a3=>by rw[aD (λz=>x3 (by rw[<-z];exact a1))];exact a3
   have nb:b≠l:=λz=>by
    subst z
    match y,ho',q with
    |some z,ho',q=>exact hj (w.dis j i z y0 b q (by cases z<;>first|trivial|cases ho') e h0 (gc e') hl)
   rw[aD nb];exact a3
 ·have fI:∀{j:Nat}{y:Sl},(Y.set i (some y1))[j]?=some (some y)->y.own->∃y',Y[j]?=some (some y')/\y'.own:=λ{j y} q hq=>by
   by_cases hj:j=i
   ·subst hj;exact⟨_,e,h0⟩
   ·rw[Us (Ne.symm hj)]at q;exact⟨_,q,hq⟩
  obtain⟨_,q1,r1⟩:=fI e1 y1';obtain⟨_,q2,r2⟩:=fI e2 z2;exact w.dis j k _ _ b q1 r1 q2 r2 e3 e4
theorem Wd.putO(w:Wd Z H0 O0 H O U Y){vs us:List V}(e:Y[i]?=some (some (.o ds)))(hl:U[i]?=some (some (.ref l)))(h:aj Z H O us es):
 Wd Z H0 O0 (ah H l (.lst us)) O U (Y.set i (some (.o es))):=
 w.putY (y0:= .o ds) (y1:= .o es) trivial trivial e hl λS a b=>⟨l,us,rfl,a,b,bF,h.step S⟩
theorem Wd.putK(w:Wd Z H0 O0 H O U Y)(e:Y[i]?=some (some (.k kd)))(hl:U[i]?=some (some (.ref l)))(h:bM Z H O kv kd'):
 Wd Z H0 O0 (ah H l (.dK kv)) O U (Y.set i (some (.k kd'))):=
 w.putY (y0:= .k kd) (y1:= .k kd') trivial trivial e hl λS a b=>⟨l,kv,rfl,a,b,bF,h.step S⟩
end
abbrev DT:=Dl->(J4->Prop)->Prop
abbrev DA:=Dl->(List J4->Prop)->Prop
abbrev DB:=Dl->(Bool->Prop)->Prop
structure dE where
 nx:Dl->Prop
 rt:J4->Prop
 bk:Dl->Prop:=λ_=>False
 ct:Dl->Prop:=λ_=>False
abbrev DS:=dE->Dl->Prop
section
variable(Z:T5)(H0:Hp)(O0:Ex)
inductive up(t:DT)(U:St)(H:Hp)(R:VK):Prop
 |mk (O:Ex) (Y:Dl) (Qd:J4->Prop):Wd Z H0 O0 H O U Y->t Y Qd->(∀d v H',Qd d->au H H'->Dt Z H' O v d->R v H')->up t U H R
inductive tU(t:DT)(U:St)(H:Hp)(R:VK):Prop
 |mk (O:Ex) (Y:Dl) (Qd:J4->Prop):Wd Z H0 O0 H O U Y->t Y Qd->(∀d v H',Qd d->au H H'->Sh Z H' O v d->R v H')->tU t U H R
inductive gf(t:DA)(U:St)(H:Hp)(R:List V->Hp->Prop):Prop
 |mk (O:Ex) (Y:Dl) (Qd:List J4->Prop):Wd Z H0 O0 H O U Y->t Y Qd->(∀ds vs H',Qd ds->au H H'->aj Z H' O vs ds->R vs H')->gf t U H R
inductive b5(t:DB)(U:St)(H:Hp)(R:Bool->Hp->Prop):Prop
 |mk (O:Ex) (Y:Dl) (Qd:Bool->Prop):Wd Z H0 O0 H O U Y->t Y Qd->(∀b H',Qd b->au H H'->R b H')->b5 t U H R
inductive bw(t:DS)(D:i9)(U:St)(H:Hp):Prop
 |mk (O:Ex) (Y:Dl) (E:dE):Wd Z H0 O0 H O U Y->t E Y->(∀O' Y' U' H',E.nx Y'->Wd Z H0 O0 H' O' U' Y'->aJ H H' O O'->D.nx U' H')->(∀d v H',E.rt d->au H0 H'->Dt Z H' O0 v d->D.rt v H')->
 (∀O' Y' U' H',E.bk Y'->Wd Z H0 O0 H' O' U' Y'->aJ H H' O O'->D.bk U' H')->(∀O' Y' U' H',E.ct Y'->Wd Z H0 O0 H' O' U' Y'->aJ H H' O O'->D.ct U' H')->bw t D U H
end
theorem PE.imp{t u:TE}(h:PE X e t)(i:∀U H Q,u U H Q->t U H Q):PE X e u:=λacT s U H Q I z=>h acT s U H Q I (i U H Q z)
theorem PT.imp{t u:TT}(h:PT X e t)(i:∀U H Q,u U H Q->t U H Q):PT X e u:=λacT s U H Q I z=>h acT s U H Q I (i U H Q z)
theorem PW.imp{t u:TT}(h:PW X e t)(i:∀U H Q,u U H Q->t U H Q):PW X e u:=λwh acT s U H Q I z=>h wh acT s U H Q I (i U H Q z)
theorem PA.imp{t u:TA}(h:PA X e t)(i:∀U H Q,u U H Q->t U H Q):PA X e u:=λpos acT s U H Q I z=>h pos acT s U H Q I (i U H Q z)
theorem PS.imp{t u:TS}(h:PS X e t)(i:∀D U H,u D U H->t D U H):PS X e u:=λacT s U H D I z=>h acT s U H D I (i D U H z)
theorem b0.imp{t u:TS}(h:b0 X e t)(i:∀D U H,u D U H->t D U H):b0 X e u:=λacT s U H D I z=>h acT s U H D I (i D U H z)
section
variable{X:Cx}{H0:Hp}{O0:Ex}
abbrev DE(X:Cx)(H0:Hp)(O0:Ex)(e:L8)(t:DT):Prop:=PE X e (up X.K H0 O0 t)
abbrev DF(X:Cx)(H0:Hp)(O0:Ex)(e:L8)(t:DT):Prop:=PE X e (tU X.K H0 O0 t)
theorem df(h:DE X H0 O0 e t):DF X H0 O0 e t:=h.imp λU H Q uu=>by obtain⟨O,Y,Qd,w,q,k⟩:=uu;exact⟨O,Y,Qd,w,q,λd v H' a b c=>k d v H' a b (.dt c)⟩
def wX(Q:J4->Prop):Option (Option Sl)->Prop
 |some (some (.v d))=>Q d
 |_=>False
def cJ(i:Nat):DT:=λY Q=>wX Q Y[i]?
theorem DI:wX Q o↔∃d,o=some (some (.v d))/\Q d:=by
 constructor
 ·intro h
  match o,h with
  |some (some (.v d)),h=>exact⟨d,rfl,h⟩
 ·rintro⟨d,rfl,h⟩;exact h
theorem LY(h:cJ i Y Q):∃d,Y[i]?=some (some (.v d))/\Q d:=DI.mp h
def kX(i:Nat):DT:=λY Q=>∃ds,Y[i]?=some (some (.o ds))/\Q (.list ds)
def dC(d:J4):DT:=λ_ Q=>Q d
theorem dv(i:Nat){x:Str}{pos:Pos}(hN:X.N[i]?=some x:=by rfl)(hv:rg X.env.scope x:=by first|exact Zx rfl|exact YC (Zx rfl)|exact YC (YC rfl))
 (hd:(x==("__debug__":Str))=false:=by decide)(hcd:(x==("__classdict__":Str))=false:=by decide):DE X H0 O0 (.Name x pos) (cJ i):=
 (v7 hN hv hd hcd).imp λU H Q uu=>by
  obtain⟨O,Y,Qd,w,dq,k⟩:=uu;obtain⟨d,e,q⟩:=LY dq;obtain⟨v,h,r⟩:=w.val e;exact⟨v,h,k d v H q (au.refl _) r⟩
theorem dw(i:Nat){x:Str}{pos:Pos}(hN:X.N[i]?=some x:=by rfl)(hv:rg X.env.scope x:=by first|exact Zx rfl|exact YC (Zx rfl)|exact YC (YC rfl))
 (hd:(x==("__debug__":Str))=false:=by decide)(hcd:(x==("__classdict__":Str))=false:=by decide):DF X H0 O0 (.Name x pos) (kX i):=
 (v7 hN hv hd hcd).imp λU H Q uu=>by
  obtain⟨O,Y,Qd,w,⟨ds,e,q⟩,k⟩:=uu;obtain⟨l,vs,h,_,_,r,rs⟩:=w.own e;exact⟨_,h,k _ _ H q (au.refl _) (.own r rs)⟩
theorem dc(h:PE X e (tC v))(r:∀H O,Dt X.K H O v d):DE X H0 O0 e (dC d):=h.imp λU H Q uu=>by obtain⟨O,Y,Qd,w,q,k⟩:=uu;exact k d v H q (au.refl _) (r H O)
theorem af:DE X H0 O0 (.Constant (.int i) j pos) (dC (.int i)):=dc bT λ_ _=>.int i
theorem qj:DE X H0 O0 (.Constant (.bool b) j pos) (dC (.bool b)):=dc B5 λ_ _=>.bl b
theorem dF:DE X H0 O0 (.Constant .none j pos) (dC .none):=dc B6 λ_ _=>.non
theorem aY:DE X H0 O0 (.Constant (.str x) j pos) (dC (.str x)):=dc v8 λ_ _=>.str x
def iJ:DA:=λ_ Q=>Q []
def iK(t:DT)(u:DA):DA:=λY Q=>t Y λd=>u Y λds=>Q (d::ds)
theorem ai:PA X [] (gf X.K H0 O0 iJ):=cA.imp λU H Q uu=>by obtain⟨O,Y,Qd,w,q,k⟩:=uu;exact k [] [] H q (au.refl _) .nil
theorem aa(h:DE X H0 O0 e t)(hs:PA X es (gf X.K H0 O0 u))(he:Ke (e::es) X.env=(false,eval e X.env)::Ke es X.env:=by rfl):PA X (e::es) (gf X.K H0 O0 (iK t u)):=
 (bJ h hs he).imp λU H Q uu=>by obtain⟨O,Y,Qd,w,q,k⟩:=uu;exact⟨O,Y,_,w,q,λd v H1 q1 s1 r1=>⟨O,Y,_,w.mono s1,q1,λds vs H2 q2 s2 r2=>k (d::ds) (v::vs) H2 q2 (s1.trans s2) (.cons (r1.mono s2) r2)⟩⟩
def kY(t:DA):DT:=λY Q=>t Y λds=>ds.length<=LB/\Q (.tuple ds)
theorem rK(w:Wd Z H0 O0 H O U Y)(s:au H H1)(hp:H1 p=none):¬O p:=λz=>(w.mono s).trk p z hp
theorem bH(h:PA X es (gf X.K H0 O0 t)):DE X H0 O0 (.Tuple es x1 pos) (kY t):=
 (CU h).imp λU H Q uu=>by obtain⟨O,Y,Qd,w,q,k⟩:=uu;exact⟨O,Y,_,w,q,λds vs H1 q1 s1 r1=>⟨by rw[r1.length];exact q1.1,λp hp=>k _ _ _ q1.2 (s1.trans (au.new hp)) (.tup (.inl bF) (rK w s1 hp) (r1.mono (au.new hp)))⟩⟩
end
theorem aJ.refl(H:Hp)(O:Ex):aJ H H O O:=⟨λ_ _ e _=>e,λ_ _ n=>n⟩
theorem aJ.trans(a:aJ H H1 O O1)(b:aJ H1 H2 O1 O2):aJ H H2 O O2:=by
 refine⟨λc o e n=>?_,λc e n=>?_⟩
 ·have h1:=a.keep c o e n;exact b.keep c o h1 (a.out c (by rw[e];exact λz=>nomatch z) n)
 ·cases q:H c with
  |none=>exact absurd q e
  |some o=>exact b.out c (by rw[a.keep c o q n];exact λz=>nomatch z) (a.out c e n)
def cN(Z:T5)(r:R2)(rd:J4->J4->(J4->Prop)->Prop):Prop:=
 ∀(H:Hp)(O:Ex)(x y:V)(dx dy:J4)(Qd:J4->Prop)(R:VK),(∀l,O l->H l≠none)->Sh Z H O x dx->Sh Z H O y dy->rd dx dy Qd->(∀d v H',Qd d->au H H'->Dt Z H' O v d->R v H')->r x y H R
def cW(rd:J4->J4->(J4->Prop)->Prop)(ta tb:DT):DT:=λY Q=>ta Y λx=>tb Y λy=>rd x y Q
theorem tV(hd:cN Z r rd):∀U H Q,up Z H0 O0 (cW rd ta tb) U H Q->p9 r (tU Z H0 O0 ta) (tU Z H0 O0 tb) U H Q:=
 λU H Q uu=>by obtain⟨O,Y,Qd,w,q,k⟩:=uu;exact⟨O,Y,_,w,q,λx v H1 q1 s1 r1=>⟨O,Y,_,w.mono s1,q1,λy u H2 q2 s2 r2=>hd H2 O v u x y Qd _ (w.mono (s1.trans s2)).trk (r1.mono s2) r2 q2 λd z H3 qd s3 r3=>k d z H3 qd (s1.trans (s2.trans s3)) r3⟩⟩
theorem abh(ho:bU X (Mw op) r)(hd:cN X.K r rd)(ha:DF X H0 O0 a ta)(hb:DF X H0 O0 b tb):DE X H0 O0 (.BinOp a op b pos) (cW rd ta tb):=(bR ho ha hb).imp (tV hd)
theorem cX(ho:bU X (M6 op) r)(hd:cN X.K r rd)(ha:DF X H0 O0 a ta)(hb:DF X H0 O0 b tb)(hm:NC op b=false):DE X H0 O0 (.Compare a [op] [b] pos) (cW rd ta tb):=(tH ho ha hb hm).imp (tV hd)
def eX(t:DT):DB:=λY Q=>t Y λd=>∃b,d= .bool b/\Q b
theorem DJ(ho:bU X (M6 op) r)(hd:cN X.K r rd)(ha:DF X H0 O0 a ta)(hb:DF X H0 O0 b tb)(hm:NC op b=false):PT X (.Compare a [op] [b] pos) (b5 X.K H0 O0 (eX (cW rd ta tb))):=
 (nI ho ha hb hm).imp λU H Q uu=>by obtain⟨O,Y,Qd,w,q,k⟩:=uu;exact tV hd U H _ ⟨O,Y,_,w,q,λd v H' uu s r=>by obtain⟨b,e,qb⟩:=uu;subst e;cases r;exact⟨b,rfl,k b H' qb s⟩⟩
theorem fP(h:DE X H0 O0 e t)(he:∀whole,isTrue e X.env whole=(do let v<-whole;O6 e.pos;NO [v] (truthy v)):=by intro _;rfl):PT X e (b5 X.K H0 O0 (eX t)):=
 (B8 h he).imp λU H Q uu=>by obtain⟨O,Y,Qd,w,q,k⟩:=uu;exact⟨O,Y,_,w,q,λd v H' uu s r=>by obtain⟨b,e,qb⟩:=uu;subst e;cases r;exact⟨b,rfl,k b H' qb s⟩⟩
def iL(t u:DB):DB:=λY Q=>t Y λc=>if c=true then u Y Q else Q false
def ke(t u:DB):DB:=λY Q=>t Y λc=>if c=true then Q true else u Y Q
def kZ(t:DB):DB:=λY Q=>t Y λc=>Q (!c)
theorem dG(h:PT X a (b5 X.K H0 O0 t)):PW X (.BoolOp .And [a] pos) (b5 X.K H0 O0 t):=Cc h
theorem rL(h:PT X a (b5 X.K H0 O0 t)):PW X (.BoolOp .Or [a] pos) (b5 X.K H0 O0 t):=JZ h
theorem di{rest:List L8}(h:PT X a (b5 X.K H0 O0 t))(hb:PW X (.BoolOp .And (b::rest) pos) (b5 X.K H0 O0 u)):PW X (.BoolOp .And (a::b::rest) pos) (b5 X.K H0 O0 (iL t u)):=
 (Cd h hb).imp λU H Q uu=>by obtain⟨O,Y,Qd,w,q,k⟩:=uu;exact⟨O,Y,_,w,q,λc H1 q1 s1=>by
  cases c with
  |true=>exact⟨O,Y,_,w.mono s1,q1,λb H2 q2 s2=>k b H2 q2 (s1.trans s2)⟩
  |false=>exact k false H1 q1 s1⟩
theorem rM{rest:List L8}(h:PT X a (b5 X.K H0 O0 t))(hb:PW X (.BoolOp .Or (b::rest) pos) (b5 X.K H0 O0 u)):PW X (.BoolOp .Or (a::b::rest) pos) (b5 X.K H0 O0 (ke t u)):=
 (J0 h hb).imp λU H Q uu=>by obtain⟨O,Y,Qd,w,q,k⟩:=uu;exact⟨O,Y,_,w,q,λc H1 q1 s1=>by
  cases c with
  |false=>exact⟨O,Y,_,w.mono s1,q1,λb H2 q2 s2=>k b H2 q2 (s1.trans s2)⟩
  |true=>exact k true H1 q1 s1⟩
theorem jG(h:PT X a (b5 X.K H0 O0 t)):PT X (.UnaryOp .Not a pos) (b5 X.K H0 O0 (kZ t)):=
 (aaZ h).imp λU H Q uu=>by obtain⟨O,Y,Qd,w,q,k⟩:=uu;exact⟨O,Y,_,w,q,λc H1 q1 s1=>k (!c) H1 q1 s1⟩
def k6(t u:DT):DT:=λY Q=>t Y λd=>∃c,d= .bool c/\if c=true then u Y Q else Q (.bool false)
def k7(t u:DT):DT:=λY Q=>t Y λd=>∃c,d= .bool c/\if c=true then Q (.bool true) else u Y Q
def k8(t:DT):DT:=λY Q=>t Y λd=>∃c,d= .bool c/\Q (.bool (!c))
theorem jH(h:DE X H0 O0 a t):DE X H0 O0 (.BoolOp op [a] pos) t:=v9 h
theorem jg{rest:List L8}(h:DE X H0 O0 a t)(hb:DE X H0 O0 (.BoolOp .And (b::rest) pos) u):DE X H0 O0 (.BoolOp .And (a::b::rest) pos) (k6 t u):=
 (Ci h hb).imp λU H Q ⟨O,Y,Qd,w,q,k⟩=>⟨O,Y,_,w,q,λd v H1 uu s1 r=>by
  obtain⟨c,e,q1⟩:=uu;subst e;cases r;refine⟨c,rfl,?_⟩;cases c with
  |true=>exact⟨O,Y,_,w.mono s1,q1,λd v H2 q2 s2 r2=>k d v H2 q2 (s1.trans s2) r2⟩
  |false=>exact k _ _ H1 q1 s1 (.bl false)⟩
theorem L1{rest:List L8}(h:DE X H0 O0 a t)(hb:DE X H0 O0 (.BoolOp .Or (b::rest) pos) u):DE X H0 O0 (.BoolOp .Or (a::b::rest) pos) (k7 t u):=
 (Cj h hb).imp λU H Q ⟨O,Y,Qd,w,q,k⟩=>⟨O,Y,_,w,q,λd v H1 uu s1 r=>by
  obtain⟨c,e,q1⟩:=uu;subst e;cases r;refine⟨c,rfl,?_⟩;cases c with
  |false=>exact⟨O,Y,_,w.mono s1,q1,λd v H2 q2 s2 r2=>k d v H2 q2 (s1.trans s2) r2⟩
  |true=>exact k _ _ H1 q1 s1 (.bl true)⟩
theorem L3(h:DE X H0 O0 a t):DE X H0 O0 (.UnaryOp .Not a pos) (k8 t):=
 (J3 h).imp λU H Q uu=>by obtain⟨O,Y,Qd,w,q,k⟩:=uu;exact⟨O,Y,_,w,q,λd v H1 uu s1 r=>by
  obtain⟨c,e,q1⟩:=uu;subst e;cases r;exact⟨c,rfl,k _ _ H1 q1 s1 (.bl _)⟩⟩
def k9(c:DB)(t u:DT):DT:=λY Q=>c Y λb=>if b=true then t Y Q else u Y Q
theorem rN(hc:PT X c (b5 X.K H0 O0 tc))(ha:DE X H0 O0 a t)(hb:DE X H0 O0 b u):DE X H0 O0 (.IfExp c a b pos) (k9 tc t u):=
 (Cm hc ha hb).imp λU H Q uu=>by obtain⟨O,Y,Qd,w,q,k⟩:=uu;exact⟨O,Y,_,w,q,λc H1 q1 s1=>by
  cases c with
  |true=>exact⟨O,Y,_,w.mono s1,q1,λd v H2 q2 s2 r2=>k d v H2 q2 (s1.trans s2) r2⟩
  |false=>exact⟨O,Y,_,w.mono s1,q1,λd v H2 q2 s2 r2=>k d v H2 q2 (s1.trans s2) r2⟩⟩
inductive aP(Z:T5)(F:Fa)(vs:List V)(H:Hp)(Q:VK)(E:XK):Prop
 |mk (O:Ex) (ds:List J4) (Qd:J4->Prop):(∀l,O l->H l≠none)->aj Z H O vs ds->F ds Qd->(∀d v H',Qd d->au H H'->Dt Z H' O v d->Q v H')->aP Z F vs H Q E
def ib(F:Fa)(t:DA):DT:=λY Q=>t Y λds=>F ds Q
theorem nN:∀U H Q,up Z H0 O0 (ib F t) U H Q->qc (aP Z F) [] E (gf Z H0 O0 t) U H Q:=
 λU H Q uu=>by obtain⟨O,Y,Qd,w,q,k⟩:=uu;exact⟨O,Y,_,w,q,λds vs H1 q1 s1 r1=>⟨O,ds,Qd,(w.mono s1).trk,by rw[UX];exact r1,q1,λd v H2 q2 s2 r2=>k d v H2 q2 (s1.trans s2) r2⟩⟩
inductive nO(Z:T5)(H:Hp)(O:Ex):List V->List J4->Prop
 |nil:nO Z H O [] []
 |cons {v:V} {d:J4} {vs:List V} {ds:List J4}:Sh Z H O v d->nO Z H O vs ds->nO Z H O (v::vs) (d::ds)
inductive gh(Z:T5)(H0:Hp)(O0:Ex)(t:DA)(U:St)(H:Hp)(R:List V->Hp->Prop):Prop
 |mk (O:Ex) (Y:Dl) (Qd:List J4->Prop):Wd Z H0 O0 H O U Y->t Y Qd->(∀ds vs H',Qd ds->au H H'->nO Z H' O vs ds->R vs H')->gh Z H0 O0 t U H R
theorem bo:PA X [] (gh X.K H0 O0 iJ):=cA.imp λU H Q uu=>by obtain⟨O,Y,Qd,w,q,k⟩:=uu;exact k [] [] H q (au.refl _) .nil
theorem lh(h:DF X H0 O0 e t)(hs:PA X es (gh X.K H0 O0 u))(he:Ke (e::es) X.env=(false,eval e X.env)::Ke es X.env:=by rfl):PA X (e::es) (gh X.K H0 O0 (iK t u)):=
 (bJ h hs he).imp λU H Q uu=>by obtain⟨O,Y,Qd,w,q,k⟩:=uu;exact⟨O,Y,_,w,q,λd v H1 q1 s1 r1=>⟨O,Y,_,w.mono s1,q1,λds vs H2 q2 s2 r2=>k (d::ds) (v::vs) H2 q2 (s1.trans s2) (.cons (r1.mono s2) r2)⟩⟩
def kg(Z:T5)(r:List V->Hp->VK->Prop)(rd:Fa):Prop:=
 ∀(H:Hp)(O:Ex)(xs:List V)(ds:List J4)(Qd:J4->Prop)(R:VK),(∀l,O l->H l≠none)->nO Z H O xs ds->rd ds Qd->(∀d v H',Qd d->au H H'->Dt Z H' O v d->R v H')->r xs H R
theorem bI(hd:kg Z r rd):∀U H Q,up Z H0 O0 (ib rd t) U H Q->tL r (gh Z H0 O0 t) U H Q:=
 λU H Q uu=>by obtain⟨O,Y,Qd,w,q,k⟩:=uu;exact⟨O,Y,_,w,q,λds vs H1 q1 s1 r1=>hd H1 O vs ds Qd _ (w.mono s1).trk r1 q1 λd v H2 q2 s2 r2=>k d v H2 q2 (s1.trans s2) r2⟩
def gQ(t u:DS):DS:=λE Y=>t {E with nx:=u E} Y
theorem ak{st:Kk}{rest:List Kk}{t u:DS}(h:PS X st (bw X.K H0 O0 t))(h2:b0 X rest (bw X.K H0 O0 u)):b0 X (st::rest) (bw X.K H0 O0 (gQ t u)):=
 (dS h h2).imp λD U H uu=>by obtain⟨O,Y,E,w,q,k1,k2,k3,k4⟩:=uu;exact⟨O,Y,_,w,q,λO' Y' U' H' z w' S=>⟨O',Y',E,w',z,λO2 δ2 σ2 H2 z2 w2 S2=>k1 O2 δ2 σ2 H2 z2 w2 (S.trans S2),k2,λO2 δ2 σ2 H2 z2 w2 S2=>k3 O2 δ2 σ2 H2 z2 w2 (S.trans S2),λO2 δ2 σ2 H2 z2 w2 S2=>k4 O2 δ2 σ2 H2 z2 w2 (S.trans S2)⟩,k2,k3,k4⟩
def kh:DS:=λE Y=>E.nx Y
theorem bB:b0 X [] (bw X.K H0 O0 kh):=pZ.imp λD U H uu=>by obtain⟨O,Y,E,w,q,k1,k2,k3,k4⟩:=uu;exact k1 O Y U H q w (aJ.refl _ _)
theorem aq{st:Kk}{t:DS}(h:PS X st (bw X.K H0 O0 t)):b0 X [st] (bw X.K H0 O0 t):=fN h
def iM(i:Nat)(t:DT):DS:=λE Y=>t Y λd=>E.nx (Y.set i (some (.v d)))
theorem bp{pos pos':Pos}(hN:X.N.Nodup)(hi:X.N[i]?=some x)(hx:iD X.env.scope x)(he:DE X H0 O0 e t)(hs:M3 e (some (.Name x pos')) pos.line X.env=pure false:=by rfl)(hf:X.fn x=true\/X.env.scope.names.lookup x=some .local:=by first|exact .inl rfl|exact .inr rfl|assumption):
 PS X (.Assign [.Name x pos'] e pos) (bw X.K H0 O0 (iM i t)):=
 (fD hN hi hx he hs hf).imp λD U H uu=>by obtain⟨O,Y,E,w,q,k1,k2,k3,k4⟩:=uu;exact⟨O,Y,_,w,q,λd v H1 q1 s1 r1=>k1 O _ _ H1 q1 ((w.mono s1).set r1) (.same s1)⟩
def lq(t:DT):DS:=λE Y=>t Y E.rt
theorem fI(w:Wd Z H0 O0 H O U Y):aJ H H O O0:=⟨λ_ _ e _=>e,λb _ n z=>n (w.sub b z)⟩
theorem aK(he:DE X H0 O0 e t):PS X (.Return (some e) pos) (bw X.K H0 O0 (lq t)):=
 (gL he).imp λD U H uu=>by obtain⟨O,Y,E,w,q,k1,k2,k3,k4⟩:=uu;exact⟨O,Y,_,w,q,λd v H1 q1 s1 r1=>k2 d v H1 q1 (w.same.trans s1) (r1.step (fI (w.mono s1)))⟩
def jI(i:Nat):DS:=λE Y=>∃ds,Y[i]?=some (some (.o ds))/\E.rt (.list ds)
theorem rO(he:PE X e (dR i)):PS X (.Return (some e) pos) (bw X.K H0 O0 (jI i)):=
 (gL he).imp λD U H uu=>by
  obtain⟨O,Y,E,w,⟨ds,e,q⟩,k1,k2,k3,k4⟩:=uu;obtain⟨l,vs,h,a,b,c,r⟩:=w.own e;exact⟨_,h,k2 _ _ H q w.same (.lst (.inl c) b (r.step (fI w)))⟩
def gi(c:DB)(t u:DS):DS:=λE Y=>c Y λb=>if b=true then t E Y else u E Y
theorem bC(hc:PT X c (b5 X.K H0 O0 tc))(ha:b0 X a (bw X.K H0 O0 t))(hb:b0 X b (bw X.K H0 O0 u)):PS X (.If c a b pos) (bw X.K H0 O0 (gi tc t u)):=
 (p5 hc ha hb).imp λD U H uu=>by obtain⟨O,Y,E,w,q,k1,k2,k3,k4⟩:=uu;exact⟨O,Y,_,w,q,λc H1 q1 s1=>by
  have g:∀{t':DS},t' E Y->bw X.K H0 O0 t' D U H1:=λz=>⟨O,Y,E,w.mono s1,z,λO2 δ2 σ2 H2 z2 w2 S2=>k1 O2 δ2 σ2 H2 z2 w2 (aJ.trans (.same s1) S2),k2,λO2 δ2 σ2 H2 z2 w2 S2=>k3 O2 δ2 σ2 H2 z2 w2 (aJ.trans (.same s1) S2),λO2 δ2 σ2 H2 z2 w2 S2=>k4 O2 δ2 σ2 H2 z2 w2 (aJ.trans (.same s1) S2)⟩;cases c with
  |true=>exact g q1
  |false=>exact g q1⟩
inductive nP(Z:T5)(H0:Hp)(O0:Ex)(t:DA)(U:St)(H:Hp)(R:VK):Prop
 |mk (O:Ex) (Y:Dl) (Qd:List J4->Prop):Wd Z H0 O0 H O U Y->t Y Qd->(∀ds vs p H',Qd ds->au H H'->H' p=none->aj Z H' O vs ds->R (.ref p) (ah H' p (.lst vs)))->nP Z H0 O0 t U H R
abbrev FE(X:Cx)(H0:Hp)(O0:Ex)(e:L8)(t:DA):Prop:=PE X e (nP X.K H0 O0 t)
def dL(t:DA):DT:=λY Q=>t Y λds=>Q (.list ds)
theorem fe(h:FE X H0 O0 e t):DE X H0 O0 e (dL t):=
 h.imp λU H Q uu=>by obtain⟨O,Y,Qd,w,q,k⟩:=uu;exact⟨O,Y,_,w,q,λds vs p H1 q1 s1 hp r1=>k _ _ _ q1 (s1.trans (au.new hp)) (.lst (.inl bF) (rK w s1 hp) (r1.mono (au.new hp)))⟩
def ki(t:DA):DA:=λY Q=>t Y λds=>ds.length<=LB/\Q ds
theorem cC(h:PA X es (gf X.K H0 O0 t)):FE X H0 O0 (.List es pos) (ki t):=
 (Kz h).imp λU H Q uu=>by obtain⟨O,Y,Qd,w,q,k⟩:=uu;exact⟨O,Y,_,w,q,λds vs H1 q1 s1 r1=>⟨by rw[r1.length];exact q1.1,λp hp=>k _ _ _ _ q1.2 s1 hp r1⟩⟩
def jJ(i:Nat)(t:DA):DS:=λE Y=>t Y λds=>E.nx (Y.set i (some (.o ds)))
theorem jh{pos pos':Pos}(hN:X.N.Nodup)(hi:X.N[i]?=some x)(hx:iD X.env.scope x)(he:FE X H0 O0 e t)(hs:M3 e (some (.Name x pos')) pos.line X.env=pure false:=by rfl)(hf:X.fn x=true\/X.env.scope.names.lookup x=some .local:=by first|exact .inl rfl|exact .inr rfl|assumption):
 PS X (.Assign [.Name x pos'] e pos) (bw X.K H0 O0 (jJ i t)):=
 (fD hN hi hx he hs hf).imp λD U H ⟨O,Y,E,w,q,k1,k2,k3,k4⟩=>⟨O,Y,_,w,q,λds vs p H1 q1 s1 hp r1=>k1 _ _ _ _ q1 ((w.mono s1).setO hp r1)
  ⟨λb o e _=>(s1.trans (au.new hp)) b o e,λb e n z=>z.elim n λy=>by
   cases q:H b with
   |none=>exact e q
   |some o=>have:=s1 _ _ q;rw[y,hp]at this;cases this⟩⟩
def lr(i:Nat)(t:DT):DS:=λE Y=>∃ds,Y[i]?=some (some (.o ds))/\t Y λd=>ds.length < LB/\E.nx (Y.set i (some (.o (ds++[d]))))
theorem kj{apos cpos pos:Pos}(ho:PE X o (dR i))(he:DE X H0 O0 e t)(hbase:Nn o "append" X.env (eval o X.env)=eval o X.env:=by rfl)
 (hfew:((LR cpos (Ke [e] X.env)).all (λx=>!x.1) && (NP cpos (Nb [] X.env)).all (λx=>x.1.isSome) && decide ([e].length+([]:List Nf).length+(if ([]:List Nf).isEmpty then 0 else 1) < 30))=true:=by rfl)
 (hline:(apos.endLine==cpos.line)=true:=by rfl)(hst:Ke [e] X.env=(false,eval e X.env)::Ke [] X.env:=by rfl)(hplain:(LR cpos (Ke [] X.env)).any (·.1)=false:=by rfl)
 (hs:M3 (.Call (.Attribute o "append" apos) [e] [] cpos) none pos.line X.env=pure false:=by rfl):PS X (.Expr (.Call (.Attribute o "append" apos) [e] [] cpos) pos) (bw X.K H0 O0 (lr i t)):=
 (tj (wG Yj PySem.F.slot_list_append PySem.F.type_list_append Dh ho (bJ he cA hst) hbase hfew hline hst hplain) hs).imp λD U H uu=>by
  obtain⟨O,Y,E,w,⟨ds,e,q⟩,k1,k2,k3,k4⟩:=uu;obtain⟨l,vs,h,a,b,c,r⟩:=w.own e;refine⟨_,h,.inl ⟨rfl,_,bA.of c⟩,O,Y,_,w,q,λd v H1 q1 s1 r1=>?_⟩;refine⟨l,vs,v,rfl,rfl,s1 _ _ c,by rw[r.length];exact q1.1,?_⟩;exact k1 _ _ _ _ q1.2 ((w.mono s1).putO (vs:=vs) e h ((r.mono s1).append (.cons r1 .nil))) ⟨λb' o' z n=>by rw[aD (λy=>n (by rw[y];exact a))];exact s1 _ _ z,λ_ _ n=>n⟩
structure dX (J:It) (P:Hp->Prop) (vs:List V):Prop where
 go:∀i H',P H'->i < vs.length->J.go i H'
 yl:∀i H' x H'',P H'->i < vs.length->J.yld i H' x H''->H''=H'/\vs[i]?=some x
 st:∀i H',P H'->vs.length<=i->J.stop i H'
def qm(H1:Hp)(a:J7)(H':Hp):Prop:=∀o,H1 a=some o->H' a=some o
theorem bA.keep(s:qm H a H')(h:bA Z H a xs):bA Z H' a xs:=by
 rcases h with(h|⟨o,h⟩)|h
 ·exact .inl (.inl (s _ h))
 ·exact .inl (.inr ⟨o,s _ h⟩)
 ·exact .inr h
theorem br.keep(s:qm H a H')(h:br Z H a xs):br Z H' a xs:=by
 rcases h with(h|⟨o,h⟩)|h
 ·exact .inl (.inl (s _ h))
 ·exact .inl (.inr ⟨o,s _ h⟩)
 ·exact .inr h
theorem dX.list(h:bA Z H a vs):dX (p7 Z a) (qm H a) vs:=
 ⟨λi H' s hi=>⟨vs,vs[i],h.keep s,by simp[hi]⟩,λi H' x H'' s _ y=>⟨y.1,y.2 vs (h.keep s)⟩,λi H' s hi=>⟨vs,h.keep s,hi⟩⟩
theorem dX.tup{Z:T5}{H:Hp}{a:J7}{vs:List V}(h:br Z H a vs):dX (ro Z a) (qm H a) vs:=
 ⟨λi H' s hi=>⟨vs,vs[i],h.keep s,by simp[hi]⟩,λi H' x H'' s _ y=>⟨y.1,y.2 vs (h.keep s)⟩,λi H' s hi=>⟨vs,h.keep s,hi⟩⟩
def nQ(lo:Int)(n:Nat):List J4:=(Vo n).map λ(k:Nat)=>.int (lo+k)
theorem dX.rng{lo:Int}{n:Nat}:dX (jB lo n) (λ_=>True) ((Vo n).map λ(k:Nat)=>V.int (lo+k)):=by
 refine⟨λi H' s hi=>(by simpa using hi:i < n),λi H' x H'' s hi y=>⟨y.1,?_⟩,λi H' s hi=>(by simpa using hi:n<=i)⟩;obtain⟨_,rfl⟩:=y;have hn:i < n:=by simpa using hi
 simp[hn]
theorem aj.rng{Z:T5}{lo:Int}:∀(l:List Nat),aj Z H O (l.map λ(k:Nat)=>V.int (lo+k)) (l.map λ(k:Nat)=>Uy (lo+k))
 | []=>.nil
 |n::r=>.cons (.int _) (aj.rng r)
abbrev DG:=J4->Dl->(Dl->Prop)->Prop
def GD(Z:T5)(g:TG)(dg:DG):Prop:=∀(H0:Hp)(O0:Ex)(H:Hp)(O:Ex)(U:St)(Y:Dl)(v:V)(x:J4)(R:St->Hp->Prop)(Qd:Dl->Prop),Wd Z H0 O0 H O U Y->Dt Z H O v x->dg x Y Qd->(∀Y' U',Qd Y'->Wd Z H0 O0 H O U' Y'->R U' H)->g v U H R
def jK(i:Nat):DG:=λx Y Q=>Q (Y.set i (some (.v x)))
theorem aR:GD Z (jA i) (jK i):=λH0 O0 H O U Y v x R Qd w r q k=>k _ _ q (w.set r)
abbrev nR:=List J4->Dl->(Dl->Prop)->Prop
def tW(Z:T5)(g:jz)(dg:nR):Prop:=∀(H0:Hp)(O0:Ex)(H:Hp)(O:Ex)(U:St)(Y:Dl)(vs:List V)(xs:List J4)(R:St->Hp->Prop)(Qd:Dl->Prop),Wd Z H0 O0 H O U Y->aj Z H O vs xs->dg xs Y Qd->(∀Y' U',Qd Y'->Wd Z H0 O0 H O U' Y'->R U' H)->g vs U H R
def lx:nR:=λxs Y Q=>xs=[]/\Q Y
def lz(t:DG)(u:nR):nR:=λxs Y Q=>∃x r,xs=x::r/\t x Y λY'=>u r Y' Q
theorem iN:tW Z tq lx:=λH0 O0 H O U Y vs xs R Qd w r uu k=>by obtain⟨e,q⟩:=uu;subst e;cases r;exact⟨rfl,k _ _ q w⟩
theorem cG(h:GD Z t dt)(h2:tW Z u du):tW Z (rj t u) (lz dt du):=λH0 O0 H O U Y vs xs R Qd w r uu k=>by
 obtain⟨x,rr,e,q⟩:=uu;subst e;cases r with
 |cons r1 r2=>exact⟨_,_,rfl,h H0 O0 H O U Y _ _ _ _ w r1 q λY' U' q' w'=>h2 H0 O0 H O U' Y' _ _ R Qd w' r2 q' k⟩
def lA(n:Nat)(t:nR):DG:=λx Y Q=>∃xs,x= .tuple xs/\xs.length=n/\t xs Y Q
theorem iO(h:tW Z t dt):GD Z (tu Z n t) (lA n dt):=λH0 O0 H O U Y v x R Qd w r uu k=>by
 obtain⟨xs,e,hl,q⟩:=uu;subst e;obtain⟨a,vs,rfl,hs,rr⟩:=(Sh.dt r).tup;exact⟨a,vs,rfl,hs,by rw[rr.length];exact hl,h H0 O0 H O U Y _ _ R Qd w rr q k⟩
section
def lB(t:DT)(g:DG):DS:=λE Y=>t Y λd=>g d Y E.nx
theorem L4{pos:Pos}(he:DE X H0 O0 e t)(hg:PG X tg g)(gd:GD X.K g dg)(hs:swapsWithSole [tg] e pos.line X.env=pure false:=by rfl)(hw:swappedStores [tg] e X.env=pure none:=by rfl)
 (h1:(PJ [tg] X.env).map (·.2)=[assign tg X.env]:=by rfl):PS X (.Assign [tg] e pos) (bw X.K H0 O0 (lB t dg)):=
 (aa7 he hg hs hw h1).imp λD U H uu=>by obtain⟨O,Y,E,w,q,k1,k2,k3,k4⟩:=uu;exact⟨O,Y,_,w,q,λd v H1 q1 s1 r1=>gd H0 O0 H1 O U Y v d _ _ (w.mono s1) r1 q1 λY' U' q' w'=>k1 O Y' U' H1 q' w' (.same s1)⟩
def iP(g:DG)(tb:DS)(E:dE):List J4->Dl->Prop
 | [],Y=>E.nx Y
 |x::xs,Y=>g x Y λδ2=>tb {E with nx:=iP g tb E xs,ct:=iP g tb E xs,bk:=E.nx} δ2
theorem aaE{D:i9}(S:dX J P vs)(gd:GD Z g dg)
 (hP:∀H' O',aJ H H' O O'->P H')(r:aj Z H O vs xs)(w:Wd Z H0 O0 H O U Y)(q:iP dg tb E xs Y)
 (k1:∀O' Y' U' H',E.nx Y'->Wd Z H0 O0 H' O' U' Y'->aJ H H' O O'->D.nx U' H')(k2:∀d v H',E.rt d->au H0 H'->Dt Z H' O0 v d->D.rt v H'):FR J g (bw Z H0 O0 tb) D U H:=by
 refine⟨λi m U' H'=>∃O' Y',m=vs.length - i/\i<=vs.length/\Wd Z H0 O0 H' O' U' Y'/\aJ H H' O O'/\iP dg tb E (xs.drop i) Y',⟨vs.length,O,Y,KJ,UY _,w,aJ.refl _ _,by simpa using q⟩,?_⟩;rintro i m σ1 H1 ⟨O1,δ1,rfl,hi,w1,S1,q1⟩;by_cases hlt:i < vs.length
 ·refine .inr ⟨S.go i H1 (hP _ _ S1) hlt,λU' H'=>∃O' Y',Wd Z H0 O0 H' O' U' Y'/\aJ H H' O O'/\iP dg tb E (xs.drop (i+1)) Y',λU' H' uu=>by obtain⟨O',Y',w',S',q'⟩:=uu;exact⟨vs.length - (i+1),J1,O',Y',rfl,hlt,w',S',q'⟩,λx H' y=>?_⟩;have yy:=S.yl i H1 x H' (hP _ _ S1) hlt y;clear y;obtain⟨e,y⟩:=yy;subst e;obtain⟨d,ed,rd⟩:=r.get y;have hd:xs.drop i=d::xs.drop (i+1):=by
   rw[X3 (h:=(Uj.mp ed).1),(Uj.mp ed).2]
  rw[hd]at q1;refine gd H0 O0 _ O1 σ1 δ1 x d _ _ w1 (rd.step S1) q1 λδ2 σ2 q2 w2=>?_;refine⟨O1,δ2,_,w2,q2,λO' Y' U' H' z w' S'=>⟨O',Y',w',S1.trans S',z⟩,k2,λO' Y' U' H' z w' S'=>k1 O' Y' U' H' z w' (S1.trans S'),λO' Y' U' H' z w' S'=>⟨O',Y',w',S1.trans S',z⟩⟩
 ·have e:i=vs.length:=J1
  subst e;refine .inl ⟨S.st _ H1 (hP _ _ S1) (T8 _),?_⟩;rw[r.length,Zr (T8 _)]at q1;exact k1 O1 δ1 σ1 H1 q1 w1 S1
def ic(g:DG)(tb:DS)(E:dE)(xs:List J4)(Y:Dl):Prop:=∃I:Nat->Dl->Prop,I 0 Y/\(∀i x Y,xs[i]?=some x->I i Y->g x Y λδ2=>tb {E with nx:=I (i+1),ct:=I (i+1),bk:=E.nx} δ2)/\∀Y,I xs.length Y->E.nx Y
theorem tX{D:i9}(S:dX J P vs)(gd:GD Z g dg)
 (hP:∀H' O',aJ H H' O O'->P H')(r:aj Z H O vs xs)(w:Wd Z H0 O0 H O U Y)(q:ic dg tb E xs Y)
 (k1:∀O' Y' U' H',E.nx Y'->Wd Z H0 O0 H' O' U' Y'->aJ H H' O O'->D.nx U' H')(k2:∀d v H',E.rt d->au H0 H'->Dt Z H' O0 v d->D.rt v H'):FR J g (bw Z H0 O0 tb) D U H:=by
 obtain⟨Iv,q0,qs,qe⟩:=q;refine⟨λi m U' H'=>∃O' Y',m=vs.length - i/\i<=vs.length/\Wd Z H0 O0 H' O' U' Y'/\aJ H H' O O'/\Iv i Y',⟨vs.length,O,Y,KJ,UY _,w,aJ.refl _ _,q0⟩,?_⟩;rintro i m σ1 H1 ⟨O1,δ1,rfl,hi,w1,S1,q1⟩;by_cases hlt:i < vs.length
 ·refine .inr ⟨S.go i H1 (hP _ _ S1) hlt,λU' H'=>∃O' Y',Wd Z H0 O0 H' O' U' Y'/\aJ H H' O O'/\Iv (i+1) Y',λU' H' uu=>by obtain⟨O',Y',w',S',q'⟩:=uu;exact⟨vs.length - (i+1),J1,O',Y',rfl,hlt,w',S',q'⟩,λx H' y=>?_⟩;have yy:=S.yl i H1 x H' (hP _ _ S1) hlt y;clear y;obtain⟨e,y⟩:=yy;subst e;obtain⟨d,ed,rd⟩:=r.get y;refine gd H0 O0 _ O1 σ1 δ1 x d _ _ w1 (rd.step S1) (qs i d δ1 ed q1) λδ2 σ2 q2 w2=>?_;refine⟨O1,δ2,_,w2,q2,λO' Y' U' H' z w' S'=>⟨O',Y',w',S1.trans S',z⟩,k2,λO' Y' U' H' z w' S'=>k1 O' Y' U' H' z w' (S1.trans S'),λO' Y' U' H' z w' S'=>⟨O',Y',w',S1.trans S',z⟩⟩
 ·have e:i=vs.length:=J1
  subst e;refine .inl ⟨S.st _ H1 (hP _ _ S1) (T8 _),?_⟩;rw[r.length]at q1;exact k1 O1 δ1 σ1 H1 (qe δ1 q1) w1 S1
def lC(t:DT)(g:DG)(tb:DS):DS:=λE Y=>t Y λd=>∃xs,d= .list xs/\ic g tb E xs Y
def lE(t:DT)(g:DG)(tb:DS):DS:=λE Y=>t Y λd=>∃xs,d= .tuple xs/\ic g tb E xs Y
def lF(t:DA)(g:DG)(tb:DS):DS:=λE Y=>t Y λds=>∃j:Int,ds=[.int j]/\-(2 ^ 62)<=j/\j < 2 ^ 62/\ic g tb E (nQ 0 j.toNat) Y
section
variable{tg iter:L8}{body:List Kk}{t:DT}{ta:DA}{g:TG}{dg:DG}{tb:DS}{pos p ps:Pos}
theorem km(hp:OO (Kc X.prog X.w) X.A X.env X.xe)(hc:X.calm=true)(hi:DE X H0 O0 iter t)(hg:PG X tg g)(gd:GD X.K g dg)(hb:b0 X body (bw X.K H0 O0 tb))(hs:∀x,Me iter X.env x=pure x:=by intro _;rfl):
 PS X (.For tg iter body [] pos) (bw X.K H0 O0 (lC t dg tb)):=
 (p8 hp hc (tw hi) hg hb hs).imp λD U H uu=>by obtain⟨O,Y,E,w,q,k1,k2,k3,k4⟩:=uu;exact⟨O,Y,_,w,q,λd v H1 uu s1 r1=>by
  obtain⟨xs,e,q1⟩:=uu;subst e;cases r1 with
  |lst h n r=>
   refine⟨_,rfl,⟨_,.inl h⟩,tX (dX.list (.inl h)) gd (λH' O' S o e=>S.keep _ _ e n) r (w.mono s1) q1 (λO' Y' U' H' z w' S=>k1 O' Y' U' H' z w' (aJ.trans (.same s1) S)) k2⟩⟩
theorem nS(hp:OO (Kc X.prog X.w) X.A X.env X.xe)(hc:X.calm=true)(hi:DE X H0 O0 iter t)(hg:PG X tg g)(gd:GD X.K g dg)(hb:b0 X body (bw X.K H0 O0 tb))(hs:∀x,Me iter X.env x=pure x:=by intro _;rfl):
 PS X (.For tg iter body [] pos) (bw X.K H0 O0 (lE t dg tb)):=
 (p8 hp hc (wg hi) hg hb hs).imp λD U H uu=>by obtain⟨O,Y,E,w,q,k1,k2,k3,k4⟩:=uu;exact⟨O,Y,_,w,q,λd v H1 uu s1 r1=>by
  obtain⟨xs,e,q1⟩:=uu;subst e;cases r1 with
  |tup h n r=>
   refine⟨_,rfl,⟨_,.inl h⟩,tX (dX.tup (.inl h)) gd (λH' O' S o e=>S.keep _ _ e n) r (w.mono s1) q1 (λO' Y' U' H' z w' S=>k1 O' Y' U' H' z w' (aJ.trans (.same s1) S)) k2⟩
  |tupK h r=>
   refine⟨_,rfl,⟨_,h.of0⟩,tX (P:=λ_=>True) ⟨λi H' _ hi=>⟨_,_,h.of0,by simp[hi];rfl⟩,λi H' x H'' _ _ y=>⟨y.1,y.2 _ h.of0⟩,λi H' _ hi=>⟨_,h.of0,hi⟩⟩ gd (λ_ _ _=>trivial) r (w.mono s1) q1 (λO' Y' U' H' z w' S=>k1 O' Y' U' H' z w' (aJ.trans (.same s1) S)) k2⟩⟩
theorem L5(hp:OO (Kc X.prog X.w) X.A X.env X.xe)(hc:X.calm=true){a:L8}(hgl:Gl X "range")(hm:X.mg "range"=none)(ha:PA X [a] (gf X.K H0 O0 ta))(hg:PG X tg g)(gd:GD X.K g dg)(hb:b0 X body (bw X.K H0 O0 tb))
 (hst:Ke [a] X.env=[(false,eval a X.env)]:=by rfl)(hs:∀x,Me (.Call (.Name "range" p) [a] [] ps) X.env x=pure x:=by intro _;rfl):
 PS X (.For tg (.Call (.Name "range" p) [a] [] ps) body [] pos) (bw X.K H0 O0 (lF ta dg tb)):=
 (p8 hp hc (wm hgl hm ha hst) hg hb hs).imp λD U H uu=>by obtain⟨O,Y,E,w,q,k1,k2,k3,k4⟩:=uu;exact⟨O,Y,_,w,q,λds vs H1 uu s1 r1=>by
  obtain⟨j,e,b1,b2,q1⟩:=uu;subst e;cases r1 with
  |cons r1 r2=>
   cases r2;cases r1;exact⟨j,rfl,b1,b2,tX dX.rng gd (λ_ _ _=>trivial) (aj.rng _) (w.mono s1) q1 (λO' Y' U' H' z w' S=>k1 O' Y' U' H' z w' (aJ.trans (.same s1) S)) k2⟩⟩
end
theorem Wd.letbe(w:Wd Z H0 O0 H O U Y)(e:Y[i]?=some (some y0))(ho:y0.own)(h:U[i]?=some (some (.ref l)))(hd:∀O',aJ H H O O'->¬O' l->Dt Z H O' (.ref l) d):
 ∃O',Wd Z H0 O0 H O' U (Y.set i (some (.v d)))/\aJ H H O O':=by
 obtain⟨l',x1,a,b⟩:=w.adr e ho;rw[h]at x1;cases x1;have S:aJ H H O (λx=>O x/\x≠l):=⟨λ_ _ z _=>z,λ_ _ n z=>n z.1⟩;have li:i < Y.length:=(Uj.mp e).1;have ne:∀{j:Nat}{y:Sl},(Y.set i (some (.v d)))[j]?=some (some y)->y.own->j≠i:=λ{j y} q hy z=>by
  subst z;rw[UK li]at q;cases q;exact hy
 refine⟨_,⟨w.same,λx z=>⟨w.sub x z,λy=>b (by rw[<-y];exact z)⟩,λx z=>w.new x z.1,λx z=>w.trk x z.1,by simp[w.len],λj y q=>?_,λj k y z l' e1 y1 e2 z2 e3 e4=>?_⟩,S⟩
 ·by_cases hj:j=i
  ·subst hj;rw[UK li]at q;cases q;exact⟨.ref l,by rw[h];rfl,hd _ S (λz=>z.2 rfl)⟩
  ·rw[Us (Ne.symm hj)]at q;refine(w.sl j y q).go S (λb o ho' e' a1 a2 a3=>⟨⟨a1,λz=>?_⟩,a3⟩) (λb o u a1 a2 a3=>⟨⟨a1,λz=>w.nofrz e ho h o u (by rw[<-z];exact a3)⟩,a3⟩) λb o a1 a3=>a3;subst z
   match y,ho',q with
   |some z,ho',q=>exact hj (w.dis j i z y0 _ q (by cases z<;>first|trivial|cases ho') e ho (gc e') h)
 ·have n1:=ne e1 y1;have n2:=ne e2 z2;rw[Us (Ne.symm n1)]at e1;rw[Us (Ne.symm n2)]at e2;exact w.dis j k _ _ l' e1 y1 e2 z2 e3 e4
theorem Wd.freeze(w:Wd Z H0 O0 H O U Y)(e:Y[i]?=some (some (.o ds))):∃O',Wd Z H0 O0 H O' U (Y.set i (some (.v (.list ds))))/\aJ H H O O':=by
 obtain⟨l,vs,h,a,b,c,r⟩:=w.own e;exact w.letbe (y0:= .o ds) e trivial h λO' S n=>.lst (.inl c) n (r.step S)
def kn(i:Nat)(t:DS):DS:=λE Y=>∃ds,Y[i]?=some (some (.o ds))/\t E (Y.set i (some (.v (.list ds))))
theorem L6(i:Nat){st:Kk}{t:DS}(h:PS X st (bw X.K H0 O0 t)):PS X st (bw X.K H0 O0 (kn i t)):=
 h.imp λD U H uu=>by
  obtain⟨O,Y,E,w,⟨ds,e,q⟩,k1,k2,k3,k4⟩:=uu;obtain⟨O',w',S⟩:=w.freeze e;exact⟨O',_,E,w',q,λO2 δ2 σ2 H2 z2 w2 S2=>k1 O2 δ2 σ2 H2 z2 w2 (S.trans S2),k2,λO2 δ2 σ2 H2 z2 w2 S2=>k3 O2 δ2 σ2 H2 z2 w2 (S.trans S2),λO2 δ2 σ2 H2 z2 w2 S2=>k4 O2 δ2 σ2 H2 z2 w2 (S.trans S2)⟩
def eY(k:Nat)(fr:List Nat)(Y:Dl):Dl:=Uz k none++fr.map λj=>(Y[j]?).join
def tY(g:DG)(tc:DB)(te:DT)(δ0:Dl):List J4->List J4->(List J4->Prop)->Prop
 | [],acc,Q=>Q acc
 |x::xs,acc,Q=>g x δ0 λδ2=>tc δ2 λok=>if ok=true then te δ2 λy=>tY g tc te δ0 xs (acc++[y]) Q else tY g tc te δ0 xs acc Q
theorem Wd.comp(w:Wd Z H0 O0 H O U Y){fr:List Nat}(hf:fr.Nodup):Wd Z H0 O0 H O (bL k fr U) (eY k fr Y):=by
 have at1:∀{α:Type}(l:List (Option α))(i:Nat),(Uz k none++fr.map λj=>(l[j]?).join)[i]?=if i < k then some none else(fr[i - k]?).map λj=>(l[j]?).join:=by
  intro α l i;by_cases h:i < k
  ·rw[KI h,Vm (by simpa using h),WY,KI h]
  ·rw[JS h,VT (by simpa using WC h),Ul];simp
 have un:∀{α:Type}(l:List (Option α))(i:Nat)(x:α),(Uz k none++fr.map λj=>(l[j]?).join)[i]?=some (some x)->∃j,fr[i - k]?=some j/\k<=i/\l[j]?=some (some x):=by
  intro α l i x h;rw[at1]at h;split at h
  ·cases h
  ·cases e:fr[i - k]? with
   |none=>rw[e]at h;cases h
   |some j=>
    rw[e]at h;refine⟨j,rfl,J1,?_⟩;have h':(l[j]?).join=some x:=Ve h;cases q:l[j]? with
    |none=>rw[q]at h';cases h'
    |some o=>rw[q]at h';rw[show o=some x from h']
 refine⟨w.same,w.sub,w.new,w.trk,by simp[bL,eY],λi y e=>?_,λi j y z l e1 y1 e2 z2 e3 e4=>?_⟩
 ·match y,e with
  |none,_=>exact VY
  |some x,e=>
   obtain⟨j,hj,hk,ej⟩:=un Y i x e;have q:=w.sl j _ ej;have e2:((bL k fr U)[i]?).join=(U[j]?).join:=by
    unfold bL;rw[at1,JS J1,hj];rfl
   rw[e2];exact q
 ·obtain⟨a,ha,ka,ea⟩:=un Y i _ e1;obtain⟨b,hb,kb,eb⟩:=un Y j _ e2;obtain⟨a',ha',_,ea'⟩:=un U i _ e3;obtain⟨b',hb',_,eb'⟩:=un U j _ e4;rw[ha]at ha';cases ha';rw[hb]at hb';cases hb';have:=w.dis a b y z l ea y1 eb z2 ea' eb';subst this;have e5:=(List.getElem?_inj (l:=fr) (i:=i - k) (j:=j - k) (Uj.mp ha).1 hf).mp (by rw[ha,hb]);omega
theorem aaV{tc:TT}{dc:DB}{te:TE}{fr:List Nat}(S:dX J P vs)(gd:GD Z g dg)(hf:fr.Nodup)
 (hk:∀v:V,∀U':St,∀H':Hp,∀R:St->Hp->Prop,g v (bL k fr U) H' R->g v (bL k fr U) H' λσ2 H2=>nK (bL k fr U) σ2/\R σ2 H2)
 (hc:∀U H Q,b5 Z H0 O0 dc U H Q->tc U H Q)(he:∀U H Q,up Z H0 O0 de U H Q->te U H Q)
 (hP:∀D H',H D=none->qi D H H'->P H')(r:aj Z H O vs xs)(w:Wd Z H0 O0 H O U Y)(hz:vs.length<=LB)(q:tY dg dc de (eY k fr Y) xs [] Qd)
 (k1:∀ds us p H',Qd ds->au H H'->H' p=none->aj Z H' O us ds->Q (.ref p) (ah H' p (.lst us))):nL J g tc te k fr U H Q:=by
 intro D hD;have w0:Wd Z H0 O0 H O (bL k fr U) (eY k fr Y):=w.comp hf;have nD:¬O D:=λz=>w.trk D z hD;have D0:H0 D=none:=by
  cases e:H0 D with
  |none=>rfl
  |some o=>rw[w.same _ _ e]at hD;cases hD
 have ex:∀H',qi D H H'->H' D≠none->Wd Z H0 O0 H' (λa=>O a\/a=D) (bL k fr U) (eY k fr Y):=λH' s' hd=>by
  have S':aJ H H' O (λa=>O a\/a=D):=⟨λb o e _=>s' b o e (fC e hD),λb hb hn z=>z.elim hn λq=>hb (by rw[q];exact hD)⟩;refine⟨λb o e=>s' b o (w.same b o e) (λz=>by rw[z,D0]at e;cases e),λl z=>.inl (w.sub l z),λl z=>z.elim (w.new l) λq=>.inr (by rw[q];exact D0),λl z=>?_,w0.len,λj y e=>?_,w0.dis⟩
  ·by_cases ql:l=D
   ·rw[ql];exact hd
   ·have hl:=w.trk l (z.resolve_right ql);cases e:H l with
    |none=>exact absurd e hl
    |some o=>rw[s' l o e ql];exact λz=>nomatch z
  ·exact(w0.sl j y e).go S' (λl o _ _ a1 _ a3=>⟨.inl a1,s' _ _ a3 (λz=>nD (by rw[<-z];exact a1))⟩) (λa o u a1 _ a3=>⟨.inl a1,s' _ _ a3 (λz=>nD (by rw[<-z];exact a1))⟩) λa o a1 a3=>s' _ _ a3 (λz=>nD (by rw[<-z];exact w.sub _ a1))
 refine⟨λi m H'=>∃acc ys,m=vs.length - i/\i<=vs.length/\qi D H H'/\H' D=some (.lst ys)/\ys.length<=i/\aj Z H' (λa=>O a\/a=D) ys acc/\tY dg dc de (eY k fr Y) (xs.drop i) acc Qd,⟨vs.length,[],[],KJ,UY _,λb o e n=>by rw[aD n];exact e,bF,UY _,.nil,by simpa using q⟩,?_⟩;rintro i m H1 ⟨acc,ys,rfl,hi,s1,e1,hy,ra,q1⟩;by_cases hlt:i < vs.length
 ·refine .inr ⟨S.go i H1 (hP D H1 hD s1) hlt,λx H' y=>?_⟩;have yy:=S.yl i H1 x H' (hP D H1 hD s1) hlt y;clear y;obtain⟨e,y⟩:=yy;subst e;obtain⟨d,ed,rd⟩:=r.get y;have hd:xs.drop i=d::xs.drop (i+1):=by
   rw[X3 (h:=(Uj.mp ed).1),(Uj.mp ed).2]
  rw[hd]at q1;have w1:=ex _ s1 (by rw[e1];exact λz=>nomatch z);have S':aJ H H' O (λa=>O a\/a=D):=⟨λb o e _=>s1 b o e (fC e hD),λb hb hn z=>z.elim hn λq=>hb (by rw[q];exact hD)⟩;refine hk x U _ _ (gd H0 O0 _ _ _ _ x d _ _ w1 (rd.step S') q1 λδ2 σ2 q2 w2=>?_);refine hc σ2 _ _ ⟨_,δ2,_,w2,q2,λok H3 q3 s3=>?_⟩;cases ok with
  |true=>
   rw[KI rfl];refine he σ2 H3 _ ⟨_,δ2,_,w2.mono s3,q3,λd' v H4 q4 s4 r4=>?_⟩;have e4:=s4 _ _ (s3 _ _ e1);have sD:aJ H4 (ah H4 D (.lst (ys++[v]))) (λa=>O a\/a=D) (λa=>O a\/a=D):=⟨λb o e n=>by rw[aD (λz=>n (.inr z))];exact e,λ_ _ n=>n⟩;refine⟨ys,e4,J1,vs.length - (i+1),J1,acc++[d'],ys++[v],rfl,hlt,λb o e n=>by rw[aD n];exact s4 _ _ (s3 _ _ (s1 b o e n)),bF,by simpa using hy,?_,q4⟩;exact((ra.mono (s3.trans s4)).append (.cons r4 .nil)).step sD
  |false=>
   rw[JS KL];exact⟨vs.length - (i+1),J1,acc,ys,rfl,hlt,λb o e n=>s3 _ _ (s1 b o e n),s3 _ _ e1,J1,ra.mono s3,q3⟩
 ·have e:i=vs.length:=J1
  subst e;refine .inl ⟨S.st _ H1 (hP D H1 hD s1) (T8 _),?_⟩;rw[r.length,Zr (T8 _)]at q1;have hrest:∃H2:Hp,H2 D=none/\au H H2/\H1=ah H2 D (.lst ys):=by
   refine⟨λb=>if b=D then none else H1 b,KJ,λb o e=>?_,?_⟩
   ·have n:=fC e hD;show(if b=D then none else H1 b)=some o;rw[JS n];exact s1 b o e n
   ·funext b;by_cases z:b=D
    ·rw[z,bF];exact e1
    ·rw[aD z];show H1 b=if b=D then none else H1 b;rw[JS z]
  obtain⟨H2,h2,s2,rfl⟩:=hrest;refine k1 acc ys D H2 q1 s2 h2 (ra.step ⟨λb o e n=>?_,λb _ n z=>n (.inl z)⟩);rw[aD (λz=>n (.inr z))]at e;exact e
def ji(g:DG)(tc:DB)(te:DT)(δ0:Dl)(xs:List J4)(Q:List J4->Prop):Prop:=∃I:Nat->List J4->Prop,I 0 []/\(∀i x acc,xs[i]?=some x->I i acc->g x δ0 λδ2=>tc δ2 λok=>if ok=true then te δ2 λy=>I (i+1) (acc++[y]) else I (i+1) acc)/\∀acc,I xs.length acc->Q acc
theorem qo{tc:TT}{dc:DB}{te:TE}{fr:List Nat}(S:dX J P vs)(gd:GD Z g dg)(hf:fr.Nodup)
 (hk:∀v:V,∀U':St,∀H':Hp,∀R:St->Hp->Prop,g v (bL k fr U) H' R->g v (bL k fr U) H' λσ2 H2=>nK (bL k fr U) σ2/\R σ2 H2)
 (hc:∀U H Q,b5 Z H0 O0 dc U H Q->tc U H Q)(he:∀U H Q,up Z H0 O0 de U H Q->te U H Q)
 (hP:∀D H',H D=none->qi D H H'->P H')(r:aj Z H O vs xs)(w:Wd Z H0 O0 H O U Y)(hz:vs.length<=LB)(q:ji dg dc de (eY k fr Y) xs Qd)
 (k1:∀ds us p H',Qd ds->au H H'->H' p=none->aj Z H' O us ds->Q (.ref p) (ah H' p (.lst us))):nL J g tc te k fr U H Q:=by
 obtain⟨Iv,q0,qs,qe⟩:=q;intro D hD;have w0:Wd Z H0 O0 H O (bL k fr U) (eY k fr Y):=w.comp hf;have nD:¬O D:=λz=>w.trk D z hD;have D0:H0 D=none:=by
  cases e:H0 D with
  |none=>rfl
  |some o=>rw[w.same _ _ e]at hD;cases hD
 have ex:∀H',qi D H H'->H' D≠none->Wd Z H0 O0 H' (λa=>O a\/a=D) (bL k fr U) (eY k fr Y):=λH' s' hd=>by
  have S':aJ H H' O (λa=>O a\/a=D):=⟨λb o e _=>s' b o e (fC e hD),λb hb hn z=>z.elim hn λq=>hb (by rw[q];exact hD)⟩;refine⟨λb o e=>s' b o (w.same b o e) (λz=>by rw[z,D0]at e;cases e),λl z=>.inl (w.sub l z),λl z=>z.elim (w.new l) λq=>.inr (by rw[q];exact D0),λl z=>?_,w0.len,λj y e=>?_,w0.dis⟩
  ·by_cases ql:l=D
   ·rw[ql];exact hd
   ·have hl:=w.trk l (z.resolve_right ql);cases e:H l with
    |none=>exact absurd e hl
    |some o=>rw[s' l o e ql];exact λz=>nomatch z
  ·exact(w0.sl j y e).go S' (λl o _ _ a1 _ a3=>⟨.inl a1,s' _ _ a3 (λz=>nD (by rw[<-z];exact a1))⟩) (λa o u a1 _ a3=>⟨.inl a1,s' _ _ a3 (λz=>nD (by rw[<-z];exact a1))⟩) λa o a1 a3=>s' _ _ a3 (λz=>nD (by rw[<-z];exact w.sub _ a1))
 refine⟨λi m H'=>∃acc ys,m=vs.length - i/\i<=vs.length/\qi D H H'/\H' D=some (.lst ys)/\ys.length<=i/\aj Z H' (λa=>O a\/a=D) ys acc/\Iv i acc,⟨vs.length,[],[],KJ,UY _,λb o e n=>by rw[aD n];exact e,bF,UY _,.nil,q0⟩,?_⟩;rintro i m H1 ⟨acc,ys,rfl,hi,s1,e1,hy,ra,q1⟩;by_cases hlt:i < vs.length
 ·refine .inr ⟨S.go i H1 (hP D H1 hD s1) hlt,λx H' y=>?_⟩;have yy:=S.yl i H1 x H' (hP D H1 hD s1) hlt y;clear y;obtain⟨e,y⟩:=yy;subst e;obtain⟨d,ed,rd⟩:=r.get y;have w1:=ex _ s1 (by rw[e1];exact λz=>nomatch z);have S':aJ H H' O (λa=>O a\/a=D):=⟨λb o e _=>s1 b o e (fC e hD),λb hb hn z=>z.elim hn λq=>hb (by rw[q];exact hD)⟩;refine hk x U _ _ (gd H0 O0 _ _ _ _ x d _ _ w1 (rd.step S') (qs i d acc ed q1) λδ2 σ2 q2 w2=>?_);refine hc σ2 _ _ ⟨_,δ2,_,w2,q2,λok H3 q3 s3=>?_⟩;cases ok with
  |true=>
   rw[KI rfl];refine he σ2 H3 _ ⟨_,δ2,_,w2.mono s3,q3,λd' v H4 q4 s4 r4=>?_⟩;have e4:=s4 _ _ (s3 _ _ e1);have sD:aJ H4 (ah H4 D (.lst (ys++[v]))) (λa=>O a\/a=D) (λa=>O a\/a=D):=⟨λb o e n=>by rw[aD (λz=>n (.inr z))];exact e,λ_ _ n=>n⟩;refine⟨ys,e4,J1,vs.length - (i+1),J1,acc++[d'],ys++[v],rfl,hlt,λb o e n=>by rw[aD n];exact s4 _ _ (s3 _ _ (s1 b o e n)),bF,by simpa using hy,?_,q4⟩;exact((ra.mono (s3.trans s4)).append (.cons r4 .nil)).step sD
  |false=>
   rw[JS KL];exact⟨vs.length - (i+1),J1,acc,ys,rfl,hlt,λb o e n=>s3 _ _ (s1 b o e n),s3 _ _ e1,J1,ra.mono s3,q3⟩
 ·have e:i=vs.length:=J1
  subst e;refine .inl ⟨S.st _ H1 (hP D H1 hD s1) (T8 _),?_⟩;rw[r.length]at q1;have hrest:∃H2:Hp,H2 D=none/\au H H2/\H1=ah H2 D (.lst ys):=by
   refine⟨λb=>if b=D then none else H1 b,KJ,λb o e=>?_,?_⟩
   ·have n:=fC e hD;show(if b=D then none else H1 b)=some o;rw[JS n];exact s1 b o e n
   ·funext b;by_cases z:b=D
    ·rw[z,bF];exact e1
    ·rw[aD z];show H1 b=if b=D then none else H1 b;rw[JS z]
  obtain⟨H2,h2,s2,rfl⟩:=hrest;refine k1 acc ys D H2 (qe acc q1) s2 h2 (ra.step ⟨λb o e n=>?_,λb _ n z=>n (.inl z)⟩);rw[aD (λz=>n (.inr z))]at e;exact e
def iQ:DB:=λ_ Q=>Q true
def ko(g:TG)(k:Nat):Prop:=∀(fr:List Nat)(U:St)(v:V)(H':Hp)(R:St->Hp->Prop),g v (bL k fr U) H' R->g v (bL k fr U) H' λσ2 H2=>nK (bL k fr U) σ2/\R σ2 H2
theorem b7:ko (jA 0) 1:=λfr U v H' R h=>⟨Dv,h⟩
def jL(t:DT)(g:DG)(tc:DB)(te:DT)(k:Nat)(fr:List Nat):DA:=λY Q=>t Y λd=>∃xs,d= .list xs/\xs.length<=LB/\ji g tc te (eY k fr Y) xs Q
def jM(t:DT)(g:DG)(tc:DB)(te:DT)(k:Nat)(fr:List Nat):DA:=λY Q=>t Y λd=>∃xs,d= .tuple xs/\xs.length<=LB/\ji g tc te (eY k fr Y) xs Q
def kq(ta:DA)(g:DG)(tc:DB)(te:DT)(k:Nat)(fr:List Nat):DA:=λY Q=>ta Y λds=>∃j:Int,ds=[.int j]/\-(2 ^ 62)<=j/\j < LB/\ji g tc te (eY k fr Y) (nQ 0 j.toNat) Q
section
variable{tg iter elt:L8}{ifs:List L8}{scope:MC}{N':List Str}{k:Nat}{fr:List Nat}{g:TG}{dg:DG}{t:DT}{ta:DA}{tc:DB}{te:DT}{pos p ps:Pos}
theorem fq(hc:X.calm=true)(S:bu X.env.scope X.N N' k fr scope)(hi:DF X H0 O0 iter t)(gd:GD X.K g dg)(hk:ko g k)(hfr:fr.Nodup)
 (hg:∀fp C s H,PG (bS X scope N' fp C s H) tg g)(hf:∀fp C s H,fY (bS X scope N' fp C s H) ifs (b5 X.K H0 O0 tc))(he:∀fp C s H,PE (bS X scope N' fp C s H) elt (up X.K H0 O0 te))
 (hs:∀x,Me iter X.env x=pure x:=by intro _;rfl):FE X H0 O0 (.ListComp elt [⟨tg,iter,ifs,0⟩] scope pos) (jL t dg tc te k fr):=
 (tR hc S (tw hi) hg hf he hs).imp λU H Q uu=>by obtain⟨O,Y,Qd,w,q,kk⟩:=uu;exact⟨O,Y,_,w,q,λd v H1 uu s1 r1=>by
  obtain⟨xs,e,hz,q1⟩:=uu;subst e;obtain⟨a,vs,rfl,hq,rr⟩:=r1.lst;refine⟨a,rfl,⟨_,hq⟩,λD hD=>qo (dX.list hq) gd hfr (λv _ H' R h=>hk fr U v H' R h) (λ_ _ _ z=>z) (λ_ _ _ z=>z) (λD H' hD s' o e=>s' _ _ e (fC e hD)) rr (w.mono s1) (by rw[rr.length];exact hz) q1 (λds us p H' z s' hp r'=>kk ds us p H' z (s1.trans s') hp r') D hD⟩⟩
theorem kr(hc:X.calm=true)(S:bu X.env.scope X.N N' k fr scope)(hi:DF X H0 O0 iter t)(gd:GD X.K g dg)(hk:ko g k)(hfr:fr.Nodup)
 (hg:∀fp C s H,PG (bS X scope N' fp C s H) tg g)(hf:∀fp C s H,fY (bS X scope N' fp C s H) ifs (b5 X.K H0 O0 tc))(he:∀fp C s H,PE (bS X scope N' fp C s H) elt (up X.K H0 O0 te))
 (hs:∀x,Me iter X.env x=pure x:=by intro _;rfl):FE X H0 O0 (.ListComp elt [⟨tg,iter,ifs,0⟩] scope pos) (jM t dg tc te k fr):=
 (tR hc S (wg hi) hg hf he hs).imp λU H Q uu=>by obtain⟨O,Y,Qd,w,q,kk⟩:=uu;exact⟨O,Y,_,w,q,λd v H1 uu s1 r1=>by
  obtain⟨xs,e,hz,q1⟩:=uu;subst e;obtain⟨a,vs,rfl,hq,rr⟩:=r1.tup;refine⟨a,rfl,⟨_,hq⟩,λD hD=>qo (dX.tup hq) gd hfr (λv _ H' R h=>hk fr U v H' R h) (λ_ _ _ z=>z) (λ_ _ _ z=>z) (λD H' hD s' o e=>s' _ _ e (fC e hD)) rr (w.mono s1) (by rw[rr.length];exact hz) q1 (λds us p H' z s' hp r'=>kk ds us p H' z (s1.trans s') hp r') D hD⟩⟩
theorem DK(hc:X.calm=true)(S:bu X.env.scope X.N N' k fr scope)(hgl:Gl X "range")(hm:X.mg "range"=none)(ha:PA X [a] (gh X.K H0 O0 ta))(gd:GD X.K g dg)(hk:ko g k)(hfr:fr.Nodup)
 (hg:∀fp C s H,PG (bS X scope N' fp C s H) tg g)(hf:∀fp C s H,fY (bS X scope N' fp C s H) ifs (b5 X.K H0 O0 tc))(he:∀fp C s H,PE (bS X scope N' fp C s H) elt (up X.K H0 O0 te))
 (hst:Ke [a] X.env=[(false,eval a X.env)]:=by rfl)(hs:∀x,Me (.Call (.Name "range" p) [a] [] ps) X.env x=pure x:=by intro _;rfl):
 FE X H0 O0 (.ListComp elt [⟨tg,(.Call (.Name "range" p) [a] [] ps),ifs,0⟩] scope pos) (kq ta dg tc te k fr):=
 (tR hc S (wm hgl hm ha hst) hg hf he hs).imp λU H Q uu=>by obtain⟨O,Y,Qd,w,q,kk⟩:=uu;exact⟨O,Y,_,w,q,λds vs H1 uu s1 r1=>by
  obtain⟨j,e,b1,b2,q1⟩:=uu;subst e;cases r1 with
  |cons r1 r2=>
   cases r2;cases r1.int;have hb:(LB:Int) < 2 ^ 62:=KL
   exact⟨j,rfl,b1,J1,λD hD=>qo (P:=λ_=>True) dX.rng gd hfr (λv _ H' R h=>hk fr U v H' R h) (λ_ _ _ z=>z) (λ_ _ _ z=>z) (λ_ _ _ _=>trivial) (aj.rng _) (w.mono s1) (by rw[T6,XJ];omega) q1 (λds us p H' z s' hp r'=>kk ds us p H' z (s1.trans s') hp r') D hD⟩⟩
end
end
def dI(g:Int->Int->J4):J4->J4->(J4->Prop)->Prop:=λx y Q=>∃i j,x= .int i/\y= .int j/\Q (g i j)
def lG(C:Int->Int->Prop)(g:Int->Int->J4):J4->J4->(J4->Prop)->Prop:=λx y Q=>∃i j,x= .int i/\y= .int j/\C i j/\Q (g i j)
theorem cb{g:Int->Int->Int}:cN Z (jb λi j=>.int (g i j)) (dI λi j=>.int (g i j)):=λH O x y dx dy Qd R _ hx hy uu k=>by
 obtain⟨i,j,e1,e2,q⟩:=uu;subst e1 e2;cases hx.int;cases hy.int;exact⟨i,j,rfl,rfl,k _ _ H q (au.refl _) (.int _)⟩
theorem dH{g:Int->Int->Bool}:cN Z (jb λi j=>.bl (g i j)) (dI λi j=>.bool (g i j)):=λH O x y dx dy Qd R _ hx hy uu k=>by
 obtain⟨i,j,e1,e2,q⟩:=uu;subst e1 e2;cases hx.int;cases hy.int;exact⟨i,j,rfl,rfl,k _ _ H q (au.refl _) (.bl _)⟩
theorem aI{g:Int->Int->Int}:cN Z (rI C λi j=>.int (g i j)) (lG C λi j=>.int (g i j)):=λH O x y dx dy Qd R _ hx hy uu k=>by
 obtain⟨i,j,e1,e2,c,q⟩:=uu;subst e1 e2;cases hx.int;cases hy.int;exact⟨i,j,rfl,rfl,c,k _ _ H q (au.refl _) (.int _)⟩
def DL(Z:T5):R2:=λx y H Q=>∃O dx dy,Sh Z H O x dx/\Sh Z H O y dy/\dh dx/\dh dy/\Q (.bl (UB dx dy)) H
def DM(Z:T5):R2:=λx y H Q=>∃O dx dy,Sh Z H O x dx/\Sh Z H O y dy/\dh dx/\dh dy/\Q (.bl (!UB dx dy)) H
theorem cu{X:Cx}(hu:X.A.units+64 < Ll):bU X (M6 .Eq) (DL X.K):=by
 intro acT s U H x y v u Q I rx ry h;obtain⟨O,dx,dy,hx,hy,sx,sy,q⟩:=h;obtain⟨as,ra⟩:=je I hx.all (Vw sx) rx;obtain⟨bs,rb⟩:=je I hy.all (Vw sy) ry;exact SeqAt.compareEq_shaped ra rb sx sy hu (bP I q rfl)
theorem rP{X:Cx}(hu:X.A.units+64 < Ll):bU X (M6 .NotEq) (DM X.K):=by
 intro acT s U H x y v u Q I rx ry h;obtain⟨O,dx,dy,hx,hy,sx,sy,q⟩:=h;obtain⟨as,ra⟩:=je I hx.all (Vw sx) rx;obtain⟨bs,rb⟩:=je I hy.all (Vw sy) ry;exact SeqAt.compareNe_shaped ra rb sx sy hu (bP I q rfl)
def ku:J4->J4->(J4->Prop)->Prop:=λx y Q=>dh x/\dh y/\Q (.bool (UB x y))
def lH:J4->J4->(J4->Prop)->Prop:=λx y Q=>dh x/\dh y/\Q (.bool (!UB x y))
theorem cv:cN Z (DL Z) ku:=λH O x y dx dy Qd R _ hx hy uu k=>by obtain⟨a,b,q⟩:=uu;exact⟨O,dx,dy,hx,hy,a,b,k _ _ H q (au.refl _) (.bl _)⟩
theorem rQ:cN Z (DM Z) lH:=λH O x y dx dy Qd R _ hx hy uu k=>by obtain⟨a,b,q⟩:=uu;exact⟨O,dx,dy,hx,hy,a,b,k _ _ H q (au.refl _) (.bl _)⟩
def lI:J4->J4->(J4->Prop)->Prop:=λx y Q=>∃ds i d,x= .list ds/\y= .int i/\atI ds i=some d/\Q d
def iR:J4->J4->(J4->Prop)->Prop:=λx y Q=>∃ds i d,x= .tuple ds/\y= .int i/\atI ds i=some d/\Q d
theorem aj.atI(r:aj Z H O vs ds)(e:L2.atI ds i=some d):∃v,L2.atI vs i=some v/\Dt Z H O v d:=by
 unfold L2.atI at e⊢;rw[r.length];cases q:jD ds.length i with
 |none=>rw[q]at e;cases e
 |some j=>rw[q]at e;exact r.getD e
theorem bf:cN Z (wF Z) lI:=λH O x y dx dy Qd R _ hx hy uu k=>by
 obtain⟨ds,i,d,e1,e2,e3,q⟩:=uu;subst e1 e2;obtain⟨a,vs,rfl,hs,r⟩:=hx.lst;cases hy.int;obtain⟨v,hv,rv⟩:=r.atI e3;exact⟨a,vs,i,v,rfl,rfl,hs,hv,k d v H q (au.refl _) rv⟩
theorem aG:cN Z (tN Z) iR:=λH O x y dx dy Qd R _ hx hy uu k=>by
 obtain⟨ds,i,d,e1,e2,e3,q⟩:=uu;subst e1 e2;obtain⟨a,vs,rfl,hs,r⟩:=hx.tup;cases hy.int;obtain⟨v,hv,rv⟩:=r.atI e3;exact⟨a,vs,i,v,rfl,rfl,hs,hv,k d v H q (au.refl _) rv⟩
def abc:R2:=λx y H Q=>∃l b xs zs,x= .ref l/\y= .ref b/\Rd H l (.lst xs)/\Rd H b (.lst zs)/\xs.length+zs.length<=LB/\∀p,H p=none->Q (.ref p) (ah H p (.lst (xs++zs)))
theorem abe:bU X (Mw .Add) abc:=by
 intro acT s U H x y v u Q I rx ry h;obtain⟨l,b,xs,zs,rfl,rfl,hH,hB,hz,q⟩:=h;cases rx;cases ry;obtain⟨z,its,n,r,e⟩:=hH.ok I.hok;obtain⟨z2,its2,n2,r2,e2⟩:=hB.ok I.hok;have l1:=r.length;have l2:=r2.length;refine PySem.P.add_list e e2 ?_ (by rw[Uu,Uu];omega);have ea:its.toArray++its2.toArray=(its++its2).toArray:=KJ
 rw[ea];exact⟨.ref _,_,I.lnew (t':=s.toks) (r.append r2) (by rw[Ux];omega),rfl,q _ I.fresh⟩
def lJ(ta tb:DT):DA:=λY Q=>ta Y λx=>tb Y λy=>∃xs ys,x= .list xs/\y= .list ys/\xs.length+ys.length<=LB/\Q (xs++ys)
theorem rR(ha:DF X H0 O0 a ta)(hb:DF X H0 O0 b tb):FE X H0 O0 (.BinOp a .Add b pos) (lJ ta tb):=
 (bR abe ha hb).imp λU H Q uu=>by obtain⟨O,Y,Qd,w,q,k⟩:=uu;exact⟨O,Y,_,w,q,λx v H1 q1 s1 r1=>⟨O,Y,_,w.mono s1,q1,λy u H2 uu s2 r2=>by
  obtain⟨xs,ys,e1,e2,hz,q2⟩:=uu;subst e1 e2;obtain⟨a,vs,rfl,h1,d1⟩:=(r1.mono s2).lstR;obtain⟨b,us,rfl,h2,d2⟩:=r2.lstR;exact⟨a,b,vs,us,rfl,rfl,h1,h2,by rw[d1.length,d2.length];exact hz,λp hp=>k _ _ _ _ q2 (s1.trans s2) hp (d1.append d2)⟩⟩⟩
def eJ(xs:List J4)(lo hi:Option Int):List J4:=(xs.drop (HT.sIx xs.length 0 lo)).take (HT.sIx xs.length xs.length hi - HT.sIx xs.length 0 lo)
theorem aj.cut(r:aj Z H O vs ds)(lo hi:Option Int):aj Z H O (j9 vs lo hi) (eJ ds lo hi):=by
 unfold j9 eJ;rw[r.length];exact(r.drop _).take _
abbrev DO:=Dl->(Option Int->Prop)->Prop
inductive kx(Z:T5)(H0:Hp)(O0:Ex)(t:DO)(U:St)(H:Hp)(R:Option Int->Hp->Prop):Prop
 |mk (O:Ex) (Y:Dl) (Qd:Option Int->Prop):Wd Z H0 O0 H O U Y->t Y Qd->(∀d H',Qd d->au H H'->R d H')->kx Z H0 O0 t U H R
def lK:DO:=λ_ Q=>Q none
def lL(t:DT):DO:=λY Q=>t Y λd=>∃i,d= .int i/\Q (some i)
theorem PO.imp{t u:TO}(h:PO X e t)(i:∀U H Q,u U H Q->t U H Q):PO X e u:=λacT s U H Q I z=>h acT s U H Q I (i U H Q z)
theorem kz:PO X none (kx X.K H0 O0 lK):=KR.imp λU H Q uu=>by obtain⟨O,Y,Qd,w,q,k⟩:=uu;exact k none H q (au.refl _)
theorem dj(h:DE X H0 O0 e t):PO X (some e) (kx X.K H0 O0 (lL t)):=(abb h).imp λU H Q uu=>by obtain⟨O,Y,Qd,w,q,k⟩:=uu;exact⟨O,Y,_,w,q,λd v H1 uu s1 r1=>by obtain⟨i,e,q1⟩:=uu;subst e;cases r1;exact⟨i,rfl,k _ H1 q1 s1⟩⟩
def lM(t:DT)(tl th:DO):DA:=λY Q=>t Y λd=>tl Y λl=>th Y λu=>∃xs,d= .list xs/\Q (eJ xs l u)
theorem jj{e:L8}{lo hi:Option L8}{t:DT}{tl th:DO}(h:DF X H0 O0 e t)(hl:PO X lo (kx X.K H0 O0 tl))(hu:PO X hi (kx X.K H0 O0 th)):FE X H0 O0 (.Subscript e (.Slice lo hi none p2) pos) (lM t tl th):=
 (wC Dd h hl hu).imp λU H Q uu=>by obtain⟨O,Y,Qd,w,q,k⟩:=uu;exact⟨O,Y,_,w,q,λd v H1 q1 s1 r1=>⟨O,Y,_,w.mono s1,q1,λl H2 q2 s2=>⟨O,Y,_,w.mono (s1.trans s2),q2,λu H3 uu s3=>by
  obtain⟨xs,e,q3⟩:=uu;subst e;obtain⟨a,vs,rfl,h1,d1⟩:=(r1.mono (s2.trans s3)).lst;exact⟨a,vs,rfl,h1,λp hp=>k _ _ _ _ q3 (s1.trans (s2.trans s3)) hp (d1.cut l u)⟩⟩⟩⟩
theorem cO(ho:qh X r)(hd:cN X.K r rd)(ha:DF X H0 O0 a ta)(hb:DF X H0 O0 b tb)(hs:∀v u,QL b false v u=operate [v,u] (N7 v u):=by intro _ _;rfl):DE X H0 O0 (.Subscript a b pos) (cW rd ta tb):=(kc ho ha hb hs).imp (tV hd)
def lN:Fa:=λds Q=>∃xs,(ds=[.list xs]\/ds=[.tuple xs])/\Q (.int xs.length)
def lO:Fa:=λds Q=>∃xs,ds=[gP xs]/\Q (.int xs.length)
theorem dY:kg Z (λxs H Q=>∃p ys,xs=[.ref p]/\(bA Z H p ys\/br Z H p ys)/\Q (.int ys.length) H) lN:=λH O xs ds Qd R _ hs uu k=>by
 obtain⟨ys,e,q⟩:=uu;rcases e with e|e<;>subst e
 ·cases hs with
  |cons h r=>
   cases r;obtain⟨a,vs,rfl,h1,d1⟩:=h.lst;exact⟨a,vs,rfl,.inl h1,by rw[d1.length];exact k _ _ H q (au.refl _) (.int _)⟩
 ·cases hs with
  |cons h r=>
   cases r;obtain⟨a,vs,rfl,h1,d1⟩:=h.tup;exact⟨a,vs,rfl,.inr h1,by rw[d1.length];exact k _ _ H q (au.refl _) (.int _)⟩
theorem DN:kg Z (λxs H Q=>∃p ys,xs=[.ref p]/\(bA Z H p ys\/br Z H p ys)/\Q (.int ys.length) H) lO:=λH O xs ds Qd R _ hs uu k=>by
 obtain⟨ys,e,q⟩:=uu;subst e;cases hs with
 |cons h r=>
  cases r;obtain⟨a,vs,rfl,h1,d1⟩:=h.scr;exact⟨a,vs,rfl,.inl h1,by rw[d1.length];exact k _ _ H q (au.refl _) (.int _)⟩
def lP:Fa:=λds Q=>∃xs,ds=[.list xs]/\Q (.tuple xs)
theorem ie:kg Z (λxs H Q=>∃p ys,xs=[.ref p]/\((bA Z H p ys/\∀l,H l=none->Q (.ref l) (ah H l (.tup ys)))\/(br Z H p ys/\Q (.ref p) H))) lP:=λH O xs ds Qd R tr hs uu k=>by
 obtain⟨ys,e,q⟩:=uu;subst e;cases hs with
 |cons h r=>
  cases r;obtain⟨a,vs,rfl,h1,d1⟩:=h.lst;exact⟨a,vs,rfl,.inl ⟨h1,λl hl=>k _ _ _ q (au.new hl) (.tup (.inl bF) (λz=>tr l z hl) (d1.mono (au.new hl)))⟩⟩
theorem aj.bools:∀{bs:List Bool}{vs:List V},aj Z H O vs (bs.map W4)->vs=bs.map V.bl
 | [],_,r=>by rw[U9]at r;cases r;rfl
 |b::bs,_,r=>by
  rw[T9]at r;cases r with
  |cons h r=>cases h;rw[T9,aj.bools r]
def lQ(g:List Bool->Bool):Fa:=λds Q=>∃bs:List Bool,ds=[.list (bs.map .bool)]/\Q (.bool (g bs))
theorem wY{g:List Bool->Bool}:kg Z (λxs H Q=>∃(a:J7)(bs:List Bool),xs=[.ref a]/\bA Z H a (bs.map V.bl)/\Q (.bl (g bs)) H) (lQ g):=λH O xs ds Qd R tr hs uu k=>by
 obtain⟨bs,e,q⟩:=uu;subst e;cases hs with
 |cons h r=>
  cases r;obtain⟨a,vs,rfl,h1,d1⟩:=h.lst;cases d1.bools;exact⟨a,bs,rfl,h1,k _ _ H q (au.refl _) (.bl _)⟩
def lR(g:Int->Int->Int):Fa:=λds Q=>∃i j,ds=[.int i,.int j]/\Q (.int (g i j))
theorem L9{g:Int->Int->Int}:kg Z (λxs H Q=>∃i j,xs=[.int i,.int j]/\Q (.int (g i j)) H) (lR g):=λH O xs ds Qd R tr hs uu k=>by
 obtain⟨i,j,e,q⟩:=uu;subst e;cases hs with
 |cons h r=>
  cases r with
  |cons h2 r=>
   cases r;cases h.int;cases h2.int;exact⟨i,j,rfl,k _ _ H q (au.refl _) (.int _)⟩
def qp:J4->String
 | .none=> "NoneType" | .bool _=> "bool" | .int _=> "int" | .str _=> "str" | .list _=> "list" | .tuple _=> "tuple" | .dict _=> "dict"
def fQ(N:List Str)(ds:List J4):Dl:=ds.map (λd=>some (.v d))++Uz (N.length - ds.length) none
theorem DP{H:Hp}{O:Ex}(tr:∀l,O l->H l≠none)(r:aj Z H O vs ds):Wd Z H O H O (start N vs) (fQ N ds):=by
 have hl:=r.length;have at1:∀(i:Nat) y,(fQ N ds)[i]?=some y->(∃d,ds[i]?=some d/\y=some (.v d))\/y=none:=λi y e=>by
  unfold fQ at e;by_cases h:i < ds.length
  ·rw[Vm (by simpa using h),Ul]at e;cases q:ds[i]? with
   |none=>rw[q]at e;cases e
   |some d=>rw[q]at e;exact .inl ⟨d,rfl,(Ve e).symm⟩
  ·rw[VT (by simpa using WC h),WY]at e;split at e
   ·exact .inr (Ve e).symm
   ·cases e
 refine⟨au.refl _,λ_ z=>z,λ_ z=>.inl z,tr,by simp[start,fQ,hl],λi y e=>?_,λi j ds' es l e1=>?_⟩
 ·rcases at1 i y e with⟨d,hd,rfl⟩|rfl
  ·obtain⟨v,hv,rv⟩:=r.getD hd;refine⟨v,?_,rv⟩;unfold start;rw[Vm (by simpa using(Uj.mp hv).1),Ul,hv];rfl
  ·exact VY
 ·rcases at1 i _ e1 with⟨d,_,z⟩|z
  ·cases z;intro h;exact h.elim
  ·cases z
theorem fH.okD{x qual:Str}{st:Kk}{f:J7}{fd:L7}{N ps:List Str}{k:Nat}{F:Fa}(Fu:fH Z x qual st f fd)(S:aO N ps (ar st))(len:∀ds Q,F ds Q->ds.length=ps.length)
 (hbody:∀(cdv:JK) (A:Lu) (outer:List Env) (s:K9) (H:Hp) (O:Ex) (ds:List J4) (Q:J4->Prop) (E:XK),bz k (A.deeper (NM qual (ar st) s.heap.objs.size f cdv))->F ds Q->
  ∃t,b0 (jd Km P w Z mg base N qual (ar st) f cdv A outer s H E).nox (fX st) (bw Z H O t)/\t {nx:=λ_=>Q .none,rt:=Q} (fQ N ds)):aB P w Z mg base Km (k+1) f fd ps (aP Z F):=by
 refine Fu.ok S (λvs H Q E h=>?_) (λcdv A outer s H vs Q E hr h=>?_)
 ·obtain⟨O,ds,Qd,_,r,q,_⟩:=h;rw[r.length];exact len _ _ q
 ·obtain⟨O,ds,Qd,tr,r,q,k⟩:=h;obtain⟨t,ht,q'⟩:=hbody cdv A outer s H O ds Qd E hr q;refine⟨_,ht,O,_,_,DP tr r,q',λO' Y' U' H' z w' S'=>?_,λd v H' z s' r'=>k d v H' z s' r',λ_ _ _ _ z=>z.elim,λ_ _ _ _ z=>z.elim⟩;exact k _ _ _ z w'.same .non
theorem ft:fY X [] (b5 X.K H0 O0 iQ):=λacT s U H Q I h=>by
 obtain⟨O,Y,Qd,w,q,k⟩:=h;exact Dq acT s U H Q I (k true H q (au.refl _))
theorem abG:fo X (.builtin "isinstance") (λxs H Q=>∃O d T b x,xs=[x,.ty T]/\Dt X.K H O x d/\(∀x,d≠ .dict [(.none,x)])/\kitOne X.K (.type (qp d)) (.type T)=some b/\Q (.bl b) H):=by
 intro acT s U H xs us Q I r h;obtain⟨O,d,T,b,x,rfl,hd,hp,hk,q⟩:=h;obtain⟨u,w',rfl,rx,rt⟩:=wx r;cases (show w'=Xk T from rt);have fin:∀tk,EP X acT U Q (.bool b) {s with toks:=tk}:=λtk=>⟨.bl b,H,I.tok tk,rfl,q⟩;cases hd with
 |non=>cases (show u=Vy from rx);exact OS kitx_none I.kIn VY hk (λz=>nomatch z) fin
 |bl y=>cases (show u=W3 y from rx);exact OS kitx_bool I.kIn VY hk (λz=>nomatch z) fin
 |int i=>obtain⟨t,e⟩:=(show ∃t,u=Ww i t from rx);cases e;exact OS kitx_int I.kIn VY hk (λz=>nomatch z) fin
 |str y=>obtain⟨t,e⟩:=(show ∃t,u=Xo y t from rx);cases e;exact OS kitx_str I.kIn VY hk (λz=>nomatch z) fin
 | @tup a xs ds h n rr=>
  cases (show u=UW a from rx);obtain⟨its,rv,⟨o,e,c,_⟩,_⟩:=I.tuple (.inl h);exact OS kitx_tuple I.kIn ⟨o,e,c⟩ hk (λz=>nomatch z) fin
 | @tupK a xs ds h rr=>
  cases (show u=UW a from rx);obtain⟨its,rv,⟨o,e,c,_⟩,_⟩:=I.tuple h.of0;exact OS kitx_tuple I.kIn ⟨o,e,c⟩ hk (λz=>nomatch z) fin
 | @lst a xs ds h n rr=>
  cases (show u=UW a from rx);obtain⟨its,rv,⟨o,_,e,c,_⟩,_⟩:=I.list (.inl h);exact OS kitx_list I.kIn ⟨o,e,c⟩ hk (λz=>nomatch z) fin
 |pack h n=>exact absurd rfl (hp _)
 |purse h n=>exact absurd rfl (hp _)
 |scr h r=>exact absurd rfl (hp _)
 |obj h e n r=>exact absurd rfl (hp _)
 | @dct0 a h n=>
  cases (show u=UW a from rx);obtain⟨_,_,_,_,o,_,_,e,c,_⟩:=(show cz X.prog X.w H s.heap a (.dK []) from I.hok a _ h);exact OS kitx_dict I.kIn ⟨o,e,c.1⟩ hk (λz=>nomatch z) fin
 | @dic a ob kv ks kp ds h e1 e2 n rr=>
  cases (show u=UW a from rx);obtain⟨_,_,_,_,o,_,_,e,c,_⟩:=(show cz X.prog X.w H s.heap a (.dK kv) from(I.hok a _ h).2);exact OS kitx_dict I.kIn ⟨o,e,c.1⟩ hk (λz=>nomatch z) fin
def kA(Z:T5)(T:String)(t:DT):DT:=λY Q=>t Y λd=>∃b,kitOne Z (.type (qp d)) (.type T)=some b/\(∀x,d≠ .dict [(.none,x)])/\Q (.bool b)
theorem Mb{T:String}{a c:L8}{t:DT}{np p:Pos}(hg:Gl X "isinstance")(hm:X.mg "isinstance"=none)(hv:M9 "isinstance"=some (.builtin "isinstance"))(ha:DF X H0 O0 a t)(hc:PE X c (tC (.ty T)))
 (hs:Ke [a,c] X.env=(false,eval a X.env)::Ke [c] X.env:=by rfl)(hs2:Ke [c] X.env=[(false,eval c X.env)]:=by rfl)(hb:(LR p (Ke [c] X.env)).any (·.1)=false:=by rfl):DE X H0 O0 (.Call (.Name "isinstance" np) [a,c] [] p) (kA X.K T t):=
 (bY abG hg hm hv (bJ ha (bJ hc cA hs2) hs) (he:=hs) (hpl:=hb)).imp λU H Q uu=>by obtain⟨O,Y,Qd,w,q,k⟩:=uu;exact⟨O,Y,_,w,q,λd v H1 uu s1 r1=>by obtain⟨b,e,hp,q1⟩:=uu;exact⟨λ_=>False,d,T,b,v,rfl,r1.all,hp,e,k _ _ H1 q1 s1 (.bl b)⟩⟩
def lT:J4->J4->(J4->Prop)->Prop:=λx y Q=>∃i j,x= .str i/\y= .str j/\i.length+j.length<=LB/\Q (.str (i++j))
theorem DQ:cN Z (λx y H Q=>∃i j,x= .str i/\y= .str j/\i.length+j.length<=LB/\Q (.str (i++j)) H) lT:=λH O x y dx dy Qd R tr hx hy uu k=>by
 obtain⟨i,j,e1,e2,hz,q⟩:=uu;subst e1 e2;cases hx.str;cases hy.str;exact⟨i,j,rfl,rfl,hz,k _ _ H q (au.refl _) (.str _)⟩
def lU:J4->J4->(J4->Prop)->Prop:=λx y Q=>∃z i c,x= .str z/\y= .int i/\z.length<=LB/\atI z.cps.toList i=some c/\Q (.str ⟨#[c]⟩)
theorem DR:cN Z C9 lU:=λH O x y dx dy Qd R tr hx hy uu k=>by
 obtain⟨z,i,c,e1,e2,hz,e3,q⟩:=uu;subst e1 e2;cases hx.str;cases hy.int;exact⟨z,i,c,rfl,rfl,hz,e3,k _ _ H q (au.refl _) (.str _)⟩
theorem Mc:∀U H Q,up Z H0 O0 (ib F iJ) U H Q->qc (aP Z F) [] E qa U H Q:=
 λU H Q uu=>by obtain⟨O,Y,Qd,w,q,k⟩:=uu;exact⟨O,[],Qd,w.trk,.nil,q,λd v H2 q2 s2 r2=>k d v H2 q2 s2 r2⟩
def lV:Fa:=λds Q=>(∃i,ds=[.int i]/\Q (.int i))\/∃b,ds=[.bool b]/\Q (.int (if b then 1 else 0))
theorem rS:kg Z (λxs H Q=>(∃i,xs=[.int i]/\Q (.int i) H)\/∃k,xs=[.bl k]/\Q (.int (if k then 1 else 0)) H) lV:=λH O xs ds Qd R tr hs h k=>by
 rcases h with⟨i,e,q⟩|⟨b,e,q⟩<;>subst e
 ·cases hs with
  |cons h r=>cases r;cases h.int;exact .inl ⟨i,rfl,k _ _ H q (au.refl _) (.int _)⟩
 ·cases hs with
  |cons h r=>cases r;cases h.bl;exact .inr ⟨b,rfl,k _ _ H q (au.refl _) (.int _)⟩
def lW(t:DA):DA:=λY Q=>t Y λds=>∃xs,(ds=[.list xs]\/ds=[.tuple xs])/\Q xs
theorem Md{a:L8}{t:DA}{np p:Pos}(hg:Gl X "list")(hm:X.mg "list"=none)(hv:M9 "list"=some (.type "list"))(ha:PA X [a] (gh X.K H0 O0 t))(he:Ke [a] X.env=(false,eval a X.env)::Ke [] X.env:=by rfl)(hpl:(LR p (Ke [] X.env)).any (·.1)=false:=by rfl):FE X H0 O0 (.Call (.Name "list" np) [a] [] p) (lW t):=
 (eD K7 hg hm hv ha (he:=he) (hpl:=hpl)).imp λU H Q uu=>by obtain⟨O,Y,Qd,w,q,k⟩:=uu;exact⟨O,Y,_,w,q,λds vs H1 uu s1 r1=>by
  obtain⟨xs,e,q1⟩:=uu;rcases e with e|e<;>subst e
  ·cases r1 with
   |cons h r=>
    cases r;obtain⟨a,us,rfl,h1,d1⟩:=h.lst;exact⟨a,us,rfl,.inl h1,λl hl=>k _ _ _ _ q1 s1 hl d1⟩
  ·cases r1 with
   |cons h r=>
    cases r;obtain⟨a,us,rfl,h1,d1⟩:=h.tup;exact⟨a,us,rfl,.inr h1,λl hl=>k _ _ _ _ q1 s1 hl d1⟩⟩
theorem abn(r:aL xs us):aL xs.reverse us.reverse:=by
 induction r with
 |nil=>exact .nil
 |cons h r ih=>rw[XM,XM];exact ih.append (.cons h .nil)
theorem cK{α:Type}{a:α}{l:List α}:atI (a::l) 0=some a:=gN (j:=0) rfl
theorem fJ{α:Type}{a b:α}{l:List α}:atI (a::b::l) 1=some b:=gN (j:=1) rfl
theorem jk{α:Type}{a b c:α}{l:List α}:atI (a::b::c::l) 2=some c:=gN (j:=2) rfl
theorem gS{α:Type}{a b c d:α}{l:List α}:atI (a::b::c::d::l) 3=some d:=gN (j:=3) rfl
theorem lX{α:Type}{a b c d e:α}{l:List α}:atI (a::b::c::d::e::l) 4=some e:=gN (j:=4) rfl
theorem jN:dh (.int i):=rfl
theorem aac:dh (.bool i):=rfl
theorem nU:dh .none:=rfl
theorem fu:UB (.str x) (.str y)=(x==y):=by simp[UB]
theorem lY:UB (.int x) (.int y)=(x==y):=by simp[UB]
theorem cU:dh (.str x)↔Uc x=true:=by
 unfold dh Wl;simp[Va,Yb]
theorem wB:HT.sIx n d none=d:=rfl
theorem tZ{n d:Nat}{i:Int}(h0:0<=i)(h1:i<=n):HT.sIx n d (some i)=i.toNat:=by
 obtain⟨j,rfl⟩:=Wt h0;rw[HT.sIx_nat,VD];omega
theorem wZ{xs:List J4}{i:Int}(h0:0<=i)(h1:i<=xs.length):eJ xs none (some i)=xs.take i.toNat:=by
 unfold eJ;rw[wB,tZ h0 h1];simp
theorem DU{xs:List J4}{i:Int}(h0:0<=i)(h1:i<=xs.length):eJ xs (some i) none=xs.drop i.toNat:=by
 unfold eJ;rw[wB,tZ h0 h1,UL (by rw[Xq];exact T8 _)]
theorem rT{lo:Int}{n i:Nat}{x:J4}(h:(nQ lo n)[i]?=some x):i < n/\x= .int (lo+i):=by
 unfold nQ at h;rw[Ul]at h;by_cases hi:i < n
 ·rw[List.getElem?_range hi]at h;exact⟨hi,(Ve h).symm⟩
 ·rw[V6 (by simpa using hi)]at h;cases h
theorem xt{lo:Int}{n:Nat}:(nQ lo n).length=n:=by unfold nQ;simp
section
variable{κ:Type}[DecidableEq κ]
def eZ(kvs:List (κ×V))(k:κ):Option V:=(kvs.find? λkv=>decide (kv.1=k)).map (·.2)
def putK(kvs:List (κ×V))(k:κ)(v:V):List (κ×V):=
 if (kvs.any λkv=>decide (kv.1=k))=true then kvs.map (λkv=>if kv.1=k then(kv.1,v) else kv) else kvs++[(k,v)]
theorem rV{p:κ×V}(e:p.1=k):eZ (p::r) k=some p.2:=by simp[eZ,Vj,e]
theorem qq{p:κ×V}(e:¬p.1=k):eZ (p::r) k=eZ r k:=by simp[eZ,Vj,e]
theorem DV(k:κ):∀kvs:List (κ×V),(kvs.any λkv=>decide (kv.1=k))=(eZ kvs k).isSome
 | []=>rfl
 |p::r=>by
  rw[Vs];by_cases e:p.1=k
  ·simp only[rV e,decide_eq_true e,Bool.true_or,ZY]
  ·rw[qq e,decide_eq_false e,Wq];exact DV k r
theorem DW(kvs:List (κ×V))(k:κ)(v:V):(putK kvs k v).length<=kvs.length+1:=by
 unfold putK;split
 ·rw[T6];omega
 ·rw[Ux,Uk,U8];omega
theorem fk.isSome_eq(r:fk o u):o.isSome=u.isSome:=by
 cases o with
 |none=>cases u with
  |none=>rfl
  |some _=>exact(show False from r).elim
 |some _=>cases u with
  |none=>exact(show False from r).elim
  |some _=>rfl
theorem fk.getD(r:fk o u)(rd:aN d d'):aN (o.getD d) (u.getD d'):=by
 cases o with
 |none=>cases u with
  |none=>exact rd
  |some _=>exact(show False from r).elim
 |some _=>cases u with
  |none=>exact(show False from r).elim
  |some _=>exact r
theorem KV.val(r:KV kvs vs)(k:κ):fk (eZ kvs k) (valueAt vs k):=by
 unfold KV at r
 induction r with
 |nil=>exact VY
 | @cons p q ps qs h t ih=>
  obtain⟨h1,h2⟩:=h;by_cases e:p.1=k
  ·have e':q.1=k:=h1.symm.trans e;have b:valueAt (q::qs) k=some q.2:=by simp[valueAt,Vj,e']
   rw[rV e,b];exact h2
  ·have e':¬q.1=k:=λz=>e (h1.trans z);have b:valueAt (q::qs) k=valueAt qs k:=by simp[valueAt,Vj,e']
   rw[qq e,b];exact ih
theorem KV.any(r:KV kvs vs)(k:κ):(kvs.any λkv=>decide (kv.1=k))=vs.any λkv=>decide (kv.1=k):=by
 unfold KV at r
 induction r with
 |nil=>rfl
 |cons h t ih=>rw[Vs,Vs,ih,h.1]
theorem KV.repl(r:KV kvs vs)(k:κ)(ry:aN y u):
 KV (kvs.map λkv=>if kv.1=k then(kv.1,y) else kv) (vs.map λkv=>if kv.1=k then(kv.1,u) else kv):=by
 unfold KV at r⊢
 induction r with
 |nil=>exact .nil
 | @cons p q ps qs h t ih=>
  rw[T9,T9];refine .cons ?_ ih;obtain⟨h1,h2⟩:=h;by_cases e:p.1=k
  ·rw[KI e,KI (h1.symm.trans e)];exact⟨h1,ry⟩
  ·rw[JS e,JS (λz=>e (h1.trans z))];exact⟨h1,h2⟩
theorem KV.put(r:KV kvs vs)(k:κ)(ry:aN y u):KV (putK kvs k y) (stored vs k u):=by
 unfold putK stored;rw[r.any k];by_cases e:(vs.any λkv=>decide (kv.1=k))=true
 ·rw[KI e,KI e];exact r.repl k ry
 ·rw[JS e,JS e];exact Te r ⟨rfl,ry⟩
theorem KV.keys{kvs:List (κ×V)}{vs:List (κ×JK)}(r:KV kvs vs):kvs.map (·.1)=vs.map (·.1):=by
 unfold KV at r
 induction r with
 |nil=>rfl
 |cons h t ih=>rw[T9,T9,ih,h.1]
theorem KV.length{kvs:List (κ×V)}{vs:List (κ×JK)}(r:KV kvs vs):kvs.length=vs.length:=YT r
end
theorem nV(r:aN (kV k) u):(eV P w).is k u=true:=by
 cases k with
 |inl i=>obtain⟨t,e⟩:=(show ∃t,u=Ww i t from r);subst e;exact JO P w i t
 |inr x=>obtain⟨t,e⟩:=(show ∃t,u=Xo x t from r);subst e;exact JP P w x t
theorem DX:∀{ks:List ao}{us:List JK},aL (ks.map kV) us->ItemsAre (eV P w) ks us
 | [],_,r=>by rw[U9]at r;cases r;exact .nil
 |k::ks,_,r=>by
  rw[T9]at r;cases r with
  |cons h t=>exact .cons (nV h) (DX t)
abbrev KT(H:Hp):List (List ao×V)->List (List ao×J7×JK)->Prop:=Paired λp q=>p.1=q.1/\H q.2.1=some (.tup (p.1.map kV))/\aN p.2 q.2.2
theorem KT.val(r:KT H kvs xs)(k:List ao):fk (eZ kvs k) ((atKey xs k).map (·.2)):=by
 induction r with
 |nil=>exact VY
 | @cons p q ps qs h t ih=>
  obtain⟨h1,_,h2⟩:=h;by_cases e:p.1=k
  ·have e':q.1=k:=h1.symm.trans e;have b:atKey (q::qs) k=some q.2:=by simp[atKey,Vj,e']
   rw[rV e,b];exact h2
  ·have e':¬q.1=k:=λz=>e (h1.trans z);have b:atKey (q::qs) k=atKey qs k:=by simp[atKey,Vj,e']
   rw[qq e,b];exact ih
theorem KT.repl(r:KT H kvs xs)(k:List ao)(ry:aN y u):
 KT H (kvs.map λkv=>if kv.1=k then(kv.1,y) else kv) (xs.map (putAt k u)):=by
 induction r with
 |nil=>exact .nil
 | @cons p q ps qs h t ih=>
  rw[T9,T9];refine .cons ?_ ih;obtain⟨h1,h2,h3⟩:=h;unfold putAt;by_cases e:p.1=k
  ·rw[KI e,KI (h1.symm.trans e)];exact⟨h1,h2,ry⟩
  ·rw[JS e,JS (λz=>e (h1.trans z))];exact⟨h1,h2,h3⟩
theorem KT.put(r:KT H kvs xs)(k:List ao)(hb:H b=some (.tup (k.map kV)))(ry:aN y u):
 KT H (putK kvs k y) (storedH xs k b u):=by
 have e:(kvs.any λkv=>decide (kv.1=k))=(atKey xs k).isSome:=by
  rw[DV,(r.val k).isSome_eq,Yk]
 unfold putK storedH;rw[e];by_cases q:(atKey xs k).isSome=true
 ·rw[KI q,KI q];exact r.repl k ry
 ·rw[JS q,JS q];exact Te r ⟨rfl,hb,ry⟩
theorem KT.keeps{H H':Hp}(r:KT H kvs xs)(ht:∀b ys,H b=some (.tup ys)->H' b=some (.tup ys)):KT H' kvs xs:=
 Paired.mapP r λ_ _ z=>⟨z.1,ht _ _ z.2.1,z.2.2⟩
theorem DY(ok:bV P w H h)(e:Rd H a u):cz P w H h a u:=e.ok ok
theorem kB(ok:bV P w H h)(e:Rd H a (.dK kvs)):kvs.length<=LB/\(a==Nj)=false/\∃vs,KV kvs vs/\h.DictOf (eV P w) a vs:=
 show cz P w H h a (.dK kvs) from DY ok e
theorem Mf(ok:bV P w H h)(e:H a=some (.dK kvs)):kvs.length<=LB/\(a==Nj)=false/\∃vs,KV kvs vs/\h.DictOf (eV P w) a vs:=kB ok (.inl e)
theorem nW{ks:List ao}(ok:bV P w H h)(e:H a=some (.tup (ks.map kV))):(PM (eV P w)).is h ks a:=by
 obtain⟨_,its,r,o,h1,h2,n,h3⟩:=(show cz P w H h a (.tup (ks.map kV)) from ok a _ e);exact⟨o,its.toArray,n,h1,h2,h3,by simpa using DX r⟩
theorem lZ(ok:bV P w H h)(e:Rd H a (.dT kvs)):kvs.length<=LB/\(a==Nj)=false/\
 ∃xs,KT H kvs xs/\h.DictOfH (PM (eV P w)) a xs:=by
 obtain⟨z,y,xs,r,o,es,ep,h1,h2,h3,h4,h5⟩:=(show cz P w H h a (.dT kvs) from DY ok e);refine⟨z,y,xs,r,o,es,ep,h1,h2,h3,h4,λx hx=>?_,h5⟩;have all:∀{l:List (List ao×V)}{m:List (List ao×J7×JK)},KT H l m->∀x∈m,(PM (eV P w)).is h x.1 x.2.1:=by
  intro l m q
  induction q with
  |nil=>intro x hx;exact nomatch hx
  | @cons p q ps qs hq t ih=>
   intro x hx;rcases Ud.mp hx with e|hx
   ·subst e;exact nW ok (by rw[<-hq.1];exact hq.2.1)
   ·exact ih x hx
 exact all r x hx
theorem Mg(ok:bV P w H h)(e:H a=some (.dT kvs)):kvs.length<=LB/\(a==Nj)=false/\
 ∃xs,KT H kvs xs/\h.DictOfH (PM (eV P w)) a xs:=lZ ok (.inl e)
def dJ(H:Hp)(a:J7)(y:V)(r:Option V):Prop:=
 (∃kvs k,Rd H a (.dK kvs)/\y=kV k/\r=eZ kvs k)\/∃kvs k b,Rd H a (.dT kvs)/\y= .ref b/\H b=some (.tup (k.map kV))/\r=eZ kvs k
def nX(H:Hp)(a:J7)(y v:V)(H':Hp):Prop:=
 (∃kvs k,H a=some (.dK kvs)/\y=kV k/\kvs.length < LB/\H'=ah H a (.dK (putK kvs k v)))\/
 ∃kvs k b,H a=some (.dT kvs)/\y= .ref b/\H b=some (.tup (k.map kV))/\kvs.length < LB/\H'=ah H a (.dT (putK kvs k v))
theorem dJ.k{H:Hp}{a:J7}{kvs:List (ao×V)}{k:ao}(e:H a=some (.dK kvs)):dJ H a (kV k) (eZ kvs k):= .inl ⟨kvs,k,.inl e,rfl,rfl⟩
theorem nX.k{H:Hp}{a:J7}{kvs:List (ao×V)}{k:ao}(e:H a=some (.dK kvs))(hl:kvs.length < LB):nX H a (kV k) v (ah H a (.dK (putK kvs k v))):= .inl ⟨kvs,k,e,rfl,hl,rfl⟩
section
variable{X:Cx}{acT:List (J7×Obj)}{U:St}{H:Hp}{s:K9}{a:J7}{y v:V}{u r:JK}{o:Option V}{A:Lu}{E:JK->K9->Prop}
theorem ag.big(I:ag X acT U H s):Nj < s.heap.objs.size:=by
 have h:LX < s.heap.objs.size:=(I.mod.glob.keeps I.bk).lt;exact SH KL h
theorem abw{Q:JK->K9->Prop}(hu:A.units+1 < Ll)(I:ag X acT U H s)(g:dJ H a y (some v))(ry:aN y u)(h:∀w' s',ag X acT U H s'->aN v w'->Q w' s'):
 KS (Kc X.prog X.w) A (N7 (.ref a) u) Q E s:=by
 rcases g with⟨kvs,k,e,ey,l⟩|⟨kvs,k,b,e,ey,eb,l⟩
 ·subst ey;obtain⟨z,hd,vs,rel,dd⟩:=kB I.hok e;obtain⟨w',hw,rw'⟩:=fk.some_of (v:=v) (o:=valueAt vs k) (by rw[l];exact rel.val k);exact wpAny_getItem_of (nV ry) dd.mapOf hw (h w' _ (I.tok _) rw')
 ·subst ey;cases (show u=UW b from ry);obtain⟨z,hd,xs,rel,dd⟩:=lZ I.hok e;obtain⟨w',hw,rw'⟩:=fk.some_of (v:=v) (o:=(atKey xs k).map (·.2)) (by rw[l];exact rel.val k);obtain⟨p,hp,hp2⟩:=Vn.mp hw;refine wpAny_getItem_heap (Pu hu) (nW I.hok eb) dd hp ?_;rw[hp2];exact h w' _ (I.tok _) rw'
theorem Mi{Q:JK->K9->Prop}(hu:A.units+1 < Ll)(I:ag X acT U H s)(g:dJ H a y o)(ry:aN y u)(h:∀s',ag X acT U H s'->Q (.bool o.isSome) s'):
 KS (Kc X.prog X.w) A (M6 .In u (.ref a)) Q E s:=by
 rcases g with⟨kvs,k,e,ey,l⟩|⟨kvs,k,b,e,ey,eb,l⟩
 ·subst ey;obtain⟨z,hd,vs,rel,dd⟩:=kB I.hok e;refine wpAny_in_of (nV ry) hd dd.mapOf ?_;rw[<-(rel.val k).isSome_eq,<-l];exact h _ (I.tok _)
 ·subst ey;cases (show u=UW b from ry);obtain⟨z,hd,xs,rel,dd⟩:=lZ I.hok e;refine wpAny_in_heap (Pu hu) (nW I.hok eb) hd dd ?_;have q:=(rel.val k).isSome_eq;rw[Yk]at q;rw[<-q,<-l];exact h _ (I.tok _)
theorem Mj{Q:JK->K9->Prop}(hu:A.units+1 < Ll)(I:ag X acT U H s)(g:dJ H a y o)(ry:aN y u)(h:∀s',ag X acT U H s'->Q (.bool (!o.isSome)) s'):
 KS (Kc X.prog X.w) A (M6 .NotIn u (.ref a)) Q E s:=by
 rcases g with⟨kvs,k,e,ey,l⟩|⟨kvs,k,b,e,ey,eb,l⟩
 ·subst ey;obtain⟨z,hd,vs,rel,dd⟩:=kB I.hok e;refine wpAny_notIn_of (nV ry) hd dd.mapOf ?_;rw[<-(rel.val k).isSome_eq,<-l];exact h _ (I.tok _)
 ·subst ey;cases (show u=UW b from ry);obtain⟨z,hd,xs,rel,dd⟩:=lZ I.hok e;refine wpAny_notIn_heap (Pu hu) (nW I.hok eb) hd dd ?_;have q:=(rel.val k).isSome_eq;rw[Yk]at q;rw[<-q,<-l];exact h _ (I.tok _)
theorem DZ{h':LO}{t':Nat}(I:ag X acT U H s)(mu:q5 (H a))(hs:Wz a s.heap h')(he:∃q,h'.get? a=some q)(new:cz X.prog X.w (ah H a ob) h' a ob):
 ag X acT U (ah H a ob) {s with heap:=h',toks:=t'}:=
 I.write (x:=a) (e:=a) mu (.inl rfl) (λb q hb z=>(hs.2 b hb).trans z) he new
theorem Ml{h':LO}{kvs:List (ao×V)}(z:kvs.length<=LB)(hd:(a==Nj)=false)(rel:KV kvs vs)(dd:h'.DictOf (eV P w) a vs):
 cz P w H' h' a (.dK kvs):=⟨z,hd,vs,rel,dd⟩
theorem Mm{Q:Unit->K9->Prop}(hu:A.units+1 < Ll)(I:ag X acT U H s)(g:nX H a y v H')(ry:aN y u)(rv:aN v r)(h:∀s',ag X acT U H' s'->Q () s'):
 KS (Kc X.prog X.w) A (setItem (.ref a) u r) Q E s:=by
 rcases g with⟨kvs,k,e,ey,l,eH⟩|⟨kvs,k,b,e,ey,eb,l,eH⟩
 ·subst ey eH;obtain⟨z,hd,vs,rel,dd⟩:=Mf I.hok e;have hz:vs.length<=LB:=by rw[<-rel.length];exact z
  have hl:(putK kvs k v).length<=LB:=by have:=DW kvs k v;omega
  refine wpAny_setItem_pairs (hsz:=hz) (nV ry) dd λh' dd' hs=>h _ ?_;have he:∃q,h'.get? a=some q:=let ⟨q,_,_,hq,_⟩:=dd';⟨q,hq⟩
  exact DZ I (by rw[e];exact VY) hs he (Ml hl hd (rel.put k rv) dd')
 ·subst ey eH;cases (show u=UW b from ry);obtain⟨z,hd,xs,rel,dd⟩:=Mg I.hok e;have hz:xs.length<=LB:=by rw[<-YT rel];exact z
  have hl:(putK kvs k v).length<=LB:=by have:=DW kvs k v;omega
  refine wpAny_setItem_heap (hsz:=hz) (Pu hu) (nW I.hok eb) dd λh' dd' hs=>h _ ?_;obtain⟨q,es,ep,hq,h2,h3,h4,_,h5⟩:=dd';refine DZ I (by rw[e];exact VY) hs ⟨q,hq⟩ ⟨hl,hd,_,(rel.put k eb rv).keeps λc ys ec=>?_,q,es,ep,hq,h2,h3,h4,h5⟩;rw[aD (JR ec e (λz=>nomatch z))];exact ec
end
def xv(i:L8):Prop:=∀ov iv,QL i false ov iv=operate [ov,iv] (N7 ov iv)
theorem abV{prog:M8}{w:LZ}{A:Lu}{E:JK->K9->Prop}{s:K9}{env:Env}{value slice:L8}{T id:String}{Q:JK->K9->Prop}
 (hl:typeLookup (.type T) "__getitem__"=pure (some (.builtin id)))(hs:xv slice)
 (h:KS (Kc prog w) A (eval value env) (λo s₁=>KS (Kc prog w) A (eval slice env) (λi s₂=>s₂.TypeIs o T/\KS (Kc prog w) A (N7 o i) Q E s₂) E s₁) E s):
 KS (Kc prog w) A (eval (.Subscript value slice pos) env) Q E s:=by
 refine Subscript_ (MB h (λo s₁ h₁=>MB h₁ (λi s₂ h₂=>?_) λ_ _ x=>x) λ_ _ x=>x);obtain⟨hT,h₂⟩:=h₂;unfold RU;refine JY ?_;rw[getitemInPython_of_ne hT.not_modules];refine JY (wpAny_specialOf hT hl ?_);have fin:KS (Kc prog w) A (QL slice false o i) (λr s₃=>KS (Kc prog w) A (letTemporaryGo value o r >>=λ_=>pure r) Q E s₃) E s₂:=by
  rw[hs o i];exact wpAny_operating (MB h₂ (λr s₃ h₃=>JY (wpAny_letTemporaryGo (Kd h₃))) λ_ _ x=>x)
 first
  |exact Kd (JY fin)
  |exact JY (Kd (JY fin))
  |exact JY fin
theorem Mp{acT:List (J7×Obj)}{U:St}{s:K9}{a:J7}{o:Option V}(I:ag X acT U H s)(g:dJ H a y o):s.TypeIs (.ref a) "dict":=by
 rcases g with⟨kvs,k,e,_,_⟩|⟨kvs,k,b,e,_,_,_⟩
 ·obtain⟨_,_,vs,_,dd⟩:=kB I.hok e;exact dd.typeIs
 ·obtain⟨_,_,xs,_,dd⟩:=lZ I.hok e;exact dd.typeIs
def Mq(td ty:TE):TE:=λU H Q=>td U H λx H1=>ty U H1 λy H2=>∃a v,x= .ref a/\dJ H2 a y (some v)/\Q v H2
def Mr(ty td:TE):TE:=λU H Q=>ty U H λy H1=>td U H1 λx H2=>∃a o,x= .ref a/\dJ H2 a y o/\Q (.bl o.isSome) H2
def Ms(ty td:TE):TE:=λU H Q=>ty U H λy H1=>td U H1 λx H2=>∃a o,x= .ref a/\dJ H2 a y o/\Q (.bl (!o.isSome)) H2
def D1(td ty tv:TE):TS:=λD U H=>tv U H λv H1=>td U H1 λx H2=>ty U H2 λy H3=>∃a H4,x= .ref a/\nX H3 a y v H4/\D.nx U H4
theorem Mt(hu:X.A.units+1 < Ll)(ho:PE X o td)(hi:PE X i ty)(hs:xv i):PE X (.Subscript o i pos) (Mq td ty):=by
 intro acT s U H Q I h;refine abV PySem.F.slot_dict_getitem.lookup hs (aE (ho acT s U H _ I h) λu s1 ⟨x,H1,I1,rx,q1⟩=>aE (hi acT s1 U H1 _ I1 q1) λiv s2 ⟨y,H2,I2,ry,a,v,ex,g,q2⟩=>?_);subst ex;obtain rfl:u=UW a:=rx;exact⟨Mp I2 g,abw hu I2 g ry λw' s3 I3 rw'=>⟨v,H2,I3,rw',q2⟩⟩
theorem Mu(hu:X.A.units+1 < Ll)(hi:PE X i ty)(ho:PE X o td):PC X .In i o (Mr ty td):=by
 intro acT s U H Q I h;refine aE (hi acT s U H _ I h) λiv s1 ⟨y,H1,I1,ry,q1⟩=>aE (ho acT s1 U H1 _ I1 q1) λu s2 ⟨x,H2,I2,rx,a,ov,ex,g,q2⟩=>?_;subst ex;obtain rfl:u=UW a:=rx;exact Mi hu I2 g ry λs3 I3=>⟨.bl ov.isSome,H2,I3,rfl,q2⟩
theorem D2(hu:X.A.units+1 < Ll)(hi:PE X i ty)(ho:PE X o td):PC X .NotIn i o (Ms ty td):=by
 intro acT s U H Q I h;refine aE (hi acT s U H _ I h) λiv s1 ⟨y,H1,I1,ry,q1⟩=>aE (ho acT s1 U H1 _ I1 q1) λu s2 ⟨x,H2,I2,rx,a,ov,ex,g,q2⟩=>?_;subst ex;obtain rfl:u=UW a:=rx;exact Mj hu I2 g ry λs3 I3=>⟨.bl (!ov.isSome),H2,I3,rfl,q2⟩
theorem xy(hu:X.A.units+1 < Ll)(ho:PE X o td)(hi:PE X i ty)(hv:PE X value tv)(hs:M3 value (some (.Subscript o i pos')) pos.line X.env=pure false):
 PS X (.Assign [.Subscript o i pos'] value pos) (D1 td ty tv):=by
 intro acT s U H D I h;refine wpAny_Assign_Subscript (aE (hv acT s U H _ I h) λr s1 ⟨v,H1,I1,rv,q1⟩=>aE (ho acT s1 U H1 _ I1 q1) λu s2 ⟨x,H2,I2,rx,q2⟩=>aE (hi acT s2 U H2 _ I2 q2) λiv s3 ⟨y,H3,I3,ry,a,H4,ex,g,q3⟩=>?_) hs;subst ex;obtain rfl:u=UW a:=rx;exact Mm hu I3 g ry rv λs4 I4=>⟨U,H4,I4,q3⟩
theorem D3(h:LO)(hb:Nj < h.objs.size):cz P w H (h.push {cls:= .type "dict",data:= .dict #[]}) h.objs.size (.dK []):=
 ⟨UY _,beq_eq_false_iff_ne.mpr (Ne.symm (UQ hb)),[],.nil,Ui h⟩
def Mv:TE:=λ_ H Q=>∀p,H p=none->Q (.ref p) (ah H p (.dK []))
theorem abM:PE X (.Dict [] [] pos) Mv:=λacT s U H Q I h=>
 wpAny_Dict_empty ⟨.ref s.heap.objs.size,_,I.laid (a:=s.heap.objs.size) (o:= .dK []) (t':=s.toks) (λ_ _ q=>Ua _ q) (T8 _) (D3 s.heap I.big),rfl,h _ (I.hok.fresh (T8 _))⟩
structure M1 (X:Cx) (o:L8) (m:Str) (apos:Pos) (e:L8) (cpos:Pos):Prop where
 base:Nn o m X.env (eval o X.env)=eval o X.env
 few:((LR cpos (Ke [e] X.env)).all (λx=>!x.1) && (NP cpos (Nb [] X.env)).all (λx=>x.1.isSome)
  && decide (([e]:List L8).length+([]:List Nf).length+(if ([]:List Nf).isEmpty then 0 else 1) < 30))=true
 line:(apos.endLine==cpos.line)=true
 trees:LR cpos (Ke [e] X.env)=[(false,eval e X.env)]
structure M2 (X:Cx) (o:L8) (m:Str) (apos:Pos) (e f:L8) (cpos:Pos):Prop where
 base:Nn o m X.env (eval o X.env)=eval o X.env
 few:((LR cpos (Ke [e,f] X.env)).all (λx=>!x.1) && (NP cpos (Nb [] X.env)).all (λx=>x.1.isSome)
  && decide (([e,f]:List L8).length+([]:List Nf).length+(if ([]:List Nf).isEmpty then 0 else 1) < 30))=true
 line:(apos.endLine==cpos.line)=true
 trees:LR cpos (Ke [e,f] X.env)=[(false,eval e X.env),(false,eval f X.env)]
def xA(H:Hp)(a:J7):Prop:=(∃kvs,Rd H a (.dK kvs))\/∃kvs,Rd H a (.dT kvs)
theorem D4{acT:List (J7×Obj)}{U:St}{s:K9}{a:J7}(I:ag X acT U H s)(d:xA H a):
 s.TypeIs (.ref a) "dict"/\(∀b,UW a= .ref b->∃ob,s.heap.get? b=some ob/\ob.dict=none)/\(a==Nj)=false:=by
 rcases d with⟨kvs,e⟩|⟨kvs,e⟩
 ·obtain⟨_,hd,vs,_,dd⟩:=kB I.hok e;refine⟨dd.typeIs,λb q=>?_,hd⟩;cases q;obtain⟨ob,_,_,h1,h2,_⟩:=dd;exact⟨ob,h1,h2.2.1⟩
 ·obtain⟨_,hd,xs,_,dd⟩:=lZ I.hok e;refine⟨dd.typeIs,λb q=>?_,hd⟩;cases q;obtain⟨ob,_,_,h1,h2,_⟩:=dd;exact⟨ob,h1,h2.2.1⟩
section
variable{X:Cx}{acT:List (J7×Obj)}{U:St}{H:Hp}{s:K9}{a:J7}{y d:V}{u r:JK}{o:Option V}{A:Lu}{E:JK->K9->Prop}
theorem Mx{Q:JK->K9->Prop}(hu:A.units+1 < Ll)(I:ag X acT U H s)(g:dJ H a y o)(ry:aN y u)(h:∀w' s',ag X acT U H s'->aN (o.getD .non) w'->Q w' s'):
 KS (Kc X.prog X.w) A (call (.builtin "dict.get") [.ref a,u]) Q E s:=by
 rcases g with⟨kvs,k,e,ey,l⟩|⟨kvs,k,b,e,ey,eb,l⟩
 ·subst ey;obtain⟨z,hd,vs,rel,dd⟩:=kB I.hok e;refine call_meetsIn WJ dd.typeIs XG (Ze _ _) (meets_dict_get (eV X.prog X.w) a (nV ry) hd) ⟨_,dd.mapOf,h _ _ (I.tok _) ?_⟩;rw[l];exact(rel.val k).getD rfl
 ·subst ey;cases (show u=UW b from ry);obtain⟨z,hd,xs,rel,dd⟩:=lZ I.hok e;refine call_meetsIn WJ dd.typeIs XG (Ze _ _) (meetsH_dict_get (PM (eV X.prog X.w)) a b hd) ⟨Pu hu,k,xs,nW I.hok eb,dd,h _ _ (I.tok _) ?_⟩;rw[l];exact(rel.val k).getD rfl
theorem abC{Q:JK->K9->Prop}(hu:A.units+1 < Ll)(I:ag X acT U H s)(g:dJ H a y o)(ry:aN y u)(rd:aN d r)(h:∀w' s',ag X acT U H s'->aN (o.getD d) w'->Q w' s'):
 KS (Kc X.prog X.w) A (call (.builtin "dict.get") [.ref a,u,r]) Q E s:=by
 rcases g with⟨kvs,k,e,ey,l⟩|⟨kvs,k,b,e,ey,eb,l⟩
 ·subst ey;obtain⟨z,hd,vs,rel,dd⟩:=kB I.hok e;refine call_meetsIn WJ dd.typeIs XG (Zf _ _ _) (meets_dict_get_default (eV X.prog X.w) a (nV ry) hd r) ⟨_,dd.mapOf,h _ _ (I.tok _) ?_⟩;rw[l];exact(rel.val k).getD rd
 ·subst ey;cases (show u=UW b from ry);obtain⟨z,hd,xs,rel,dd⟩:=lZ I.hok e;refine call_meetsIn WJ dd.typeIs XG (Zf _ _ _) (meetsH_dict_get_default (PM (eV X.prog X.w)) a b hd r) ⟨Pu hu,k,xs,nW I.hok eb,dd,h _ _ (I.tok _) ?_⟩;rw[l];exact(rel.val k).getD rd
end
def Mz(td ty:TE):TE:=λU H Q=>td U H λx H1=>∃a,x= .ref a/\xA H1 a/\ty U H1 λy H2=>∃o,dJ H2 a y o/\Q (o.getD .non) H2
def MA(td ty tx:TE):TE:=λU H Q=>td U H λx H1=>∃a,x= .ref a/\xA H1 a/\ty U H1 λy H2=>tx U H2 λz H3=>∃o,dJ H3 a y o/\Q (o.getD z) H3
theorem D5(hu:X.A.units+1 < Ll)(ho:PE X o td)(he:PE X e ty)(m:M1 X o "get" apos e cpos):PE X (.Call (.Attribute o "get" apos) [e] [] cpos) (Mz td ty):=by
 intro acT s U H Q I h;refine wpAny_Call_method m.base m.few m.line Zg WJ Zy (aE (ho acT s U H _ I h) λu s1 ⟨x,H1,I1,rx,a,ex,d,q1⟩=>?_);subst ex;obtain rfl:u=UW a:=rx;obtain⟨t1,t2,_⟩:=D4 I1 d;refine⟨t1,t2,?_⟩;rw[m.trees];refine Yo rfl (YB (X8 (aE (he acT s1 U H1 _ I1 q1) λiv s2 ⟨y,H2,I2,ry,ov,g,q2⟩=>Y1 ?_)));exact Mx hu I2 g ry λw' s3 I3 rw'=>⟨_,H2,I3,rw',q2⟩
theorem abx(hu:X.A.units+1 < Ll)(ho:PE X o td)(he:PE X e ty)(hf:PE X f tx)(m:M2 X o "get" apos e f cpos):PE X (.Call (.Attribute o "get" apos) [e,f] [] cpos) (MA td ty tx):=by
 intro acT s U H Q I h;refine wpAny_Call_method m.base m.few m.line Zg WJ Zy (aE (ho acT s U H _ I h) λu s1 ⟨x,H1,I1,rx,a,ex,d,q1⟩=>?_);subst ex;obtain rfl:u=UW a:=rx;obtain⟨t1,t2,_⟩:=D4 I1 d;refine⟨t1,t2,?_⟩;rw[m.trees];refine Yo rfl (YB (X8 (aE (he acT s1 U H1 _ I1 q1) λiv s2 ⟨y,H2,I2,ry,q2⟩=>
  X8 (aE (hf acT s2 U H2 _ I2 q2) λfv s3 ⟨z,H3,I3,rz,ov,g,q3⟩=>Y1 ?_))))
 exact abC hu I3 g ry rz λw' s4 I4 rw'=>⟨_,H3,I4,rw',q3⟩
def litsOf:List L8->Option (List J4)
 | []=>some []
 | .Constant (.int i) _ _::r=>(litsOf r).map (.int i::·)
 | .Constant (.str x) _ _::r=>(litsOf r).map (.str x::·)
 |_::_=>none
def kC(ds:List J4):DA:=λ_ Q=>Q ds
theorem nY:∀{es:List L8}{ds:List J4},litsOf es=some ds->PA X es (gf X.K H0 O0 (kC ds))
 | [],ds,h=>by cases h;exact ai
 |e::r,ds,h=>by
  cases e with
  |Constant c j p=>
   cases c with
   |int i=>
    have h':(litsOf r).map (.int i::·)=some ds:=h;cases q:litsOf r with
    |none=>rw[q]at h';cases h'
    |some ms=>rw[q]at h';cases h';exact aa af (nY q)
   |str x=>
    have h':(litsOf r).map (.str x::·)=some ds:=h;cases q:litsOf r with
    |none=>rw[q]at h';cases h'
    |some ms=>rw[q]at h';cases h';exact aa aY (nY q)
   |_=>cases h
  |_=>cases h
def litsE:L8->Option (List J4)
 | .List es _=>litsOf es
 |_=>none
theorem xB(h:litsE e=some ds):FE X H0 O0 e (ki (kC ds)):=by
 cases e with
 |List es p=>exact cC (nY h)
 |_=>cases h
theorem abF(h:litsE e=some ds):M3 e x n env=pure false:=by
 cases e with
 |List es p=>rfl
 |_=>cases h
structure l4 (n:Nat) (x:Str):Prop where
 ok:Uc x=true
 le:x.length<=n
theorem rW:Uc x=true↔∀c∈x.cps.toList,c < 0x110000:=by
 unfold Uc;rw[<-Array.all_toList,Xr];simp
theorem MD(x y:Str):(x++y).cps=x.cps++y.cps:=rfl
theorem D6(x y:Str):(x++y).length=x.length+y.length:=by
 show(x.cps++y.cps).size=_;rw[Array.size_append];rfl
theorem l4.append(h:l4 a x)(h':l4 b y):l4 (a+b) (x++y):=by
 refine⟨rW.mpr λc hc=>?_,by rw[D6];have:=h.le;have:=h'.le;omega⟩;rw[MD,Array.toList_append]at hc;rcases Um.mp hc with z|z
 ·exact rW.mp h.ok c z
 ·exact rW.mp h'.ok c z
theorem l4.chr(h:c < 0x110000):l4 1 ⟨#[c]⟩:=⟨rW.mpr λd hd=>by
 have:d=c:=by simpa using hd
 rw[this];exact h,T8 _⟩
def qr:Str:="abcdefghijklmnopqrstuvwxyz"
theorem ME:qr.cps.toList.length=26:=Kg
theorem MF:∀c∈qr.cps.toList,c < 0x110000:=Kg
theorem D7(h0:0<=j)(h1:j < 26):∃c,atI qr.cps.toList j=some c/\qr.cps.toList[j.toNat]?=some c/\c < 0x110000:=by
 obtain⟨k,rfl⟩:=Wt h0;have hk:k < qr.cps.toList.length:=by rw[ME];omega
 refine⟨qr.cps.toList[k],gN (by simp[hk]),by simp[hk],MF _ (Wa hk)⟩
structure cm (n:Nat) (d:J4):Prop where
 can:d.canLay0=true
 dep:d.depth<=n
theorem cm.shp(h:cm n d)(hn:n<=64):Wl d=true:=by
 unfold Wl;rw[h.can,decide_eq_true (UN h.dep hn)];rfl
theorem cm.mono(h:cm n d)(hn:n<=m):cm m d:=⟨h.can,UN h.dep hn⟩
theorem iS(h:Uc x=true):cm 1 (.str x):=⟨by simpa [Va]using h,by simp[Yb]⟩
theorem t6:cm 1 (.int i):=⟨by simp[Va],by simp[Yb]⟩
theorem abm:cm 1 (.bool i):=⟨by simp[Va],by simp[Yb]⟩
theorem t7:∀{ds:List J4},(∀d∈ds,cm n d)->VP ds=true/\X4 ds<=n
 | [],_=>⟨by simp[VP],by simp[X4]⟩
 |d::r,h=>by
  obtain⟨a,b⟩:=t7 (ds:=r) λe he=>h e (by simp[he]);have c:=h d KJ;refine⟨by rw[VP,c.can,a];rfl,?_⟩;rw[X4];exact Nat.max_le.mpr ⟨c.dep,b⟩
theorem gj(h:∀d∈ds,cm n d):cm (n+1) (.tuple ds):=by
 obtain⟨a,b⟩:=t7 h;refine⟨by simpa [Va]using a,?_⟩;rw[Yb];omega
def PU(X:Cx)(e:L8)(te:TE):Prop:=∀(i:Nat)(x:Str)(pos' spos:Pos)(hN:X.N.Nodup)(hxi:X.N[i]?=some x)(hx:iD X.env.scope x)(hsw:M3 e (some (.Name x pos')) spos.line X.env=pure true)
 (hfn:X.fn x=true\/X.env.scope.names.lookup x=some .local),PS X (.Assign [.Name x pos'] e spos) (rn te (jA i))
theorem PU.imp{t u:TE}(h:PU X e t)(i:∀U H Q,u U H Q->t U H Q):PU X e u:=λi' x p1 p2 hN hxi hx hsw hfn=>(h i' x p1 p2 hN hxi hx hsw hfn).imp λD U H z=>i U H _ z
section
section
variable{tg iter elt:L8}{ifs:List L8}{scope:MC}{N':List Str}{k:Nat}{fr:List Nat}{g:TG}{dg:DG}{t:DT}{ta:DA}{tc:DB}{te:DT}{pos p ps:Pos}
theorem xC{wi:TI}{tc:TT}{te:TE}(hc:X.calm=true)(S:bu X.env.scope X.N N' k fr scope)(hi:PI X tg iter wi)
 (hg:∀fp C s H,PG (bS X scope N' fp C s H) tg g)(hf:∀fp C s H,fY (bS X scope N' fp C s H) ifs tc)(he:∀fp C s H,PE (bS X scope N' fp C s H) elt te)
 (hs:∀x,Me iter X.env x=pure x:=by intro _;rfl):PU X (.ListComp elt [⟨tg,iter,ifs,0⟩] scope pos) (kU wi g tc te k fr):=
 λ_ _ _ _ hN hxi hx hsw hfn=>Ly hN hxi hx hc S hi hg hf he hsw hs hfn
theorem MH(hc:X.calm=true)(S:bu X.env.scope X.N N' k fr scope)(hi:DF X H0 O0 iter t)(gd:GD X.K g dg)(hk:ko g k)(hfr:fr.Nodup)
 (hg:∀fp C s H,PG (bS X scope N' fp C s H) tg g)(hf:∀fp C s H,fY (bS X scope N' fp C s H) ifs (b5 X.K H0 O0 tc))(he:∀fp C s H,PE (bS X scope N' fp C s H) elt (up X.K H0 O0 te))
 (hs:∀x,Me iter X.env x=pure x:=by intro _;rfl):PU X (.ListComp elt [⟨tg,iter,ifs,0⟩] scope pos) (nP X.K H0 O0 (jL t dg tc te k fr)):=
 (xC hc S (tw hi) hg hf he hs).imp λU H Q uu=>by obtain⟨O,Y,Qd,w,q,kk⟩:=uu;exact⟨O,Y,_,w,q,λd v H1 uu s1 r1=>by
  obtain⟨xs,e,hz,q1⟩:=uu;subst e;obtain⟨a,vs,rfl,hq,rr⟩:=r1.lst;refine⟨a,rfl,⟨_,hq⟩,λD hD=>qo (dX.list hq) gd hfr (λv _ H' R h=>hk fr U v H' R h) (λ_ _ _ z=>z) (λ_ _ _ z=>z) (λD H' hD s' o e=>s' _ _ e (fC e hD)) rr (w.mono s1) (by rw[rr.length];exact hz) q1 (λds us p H' z s' hp r'=>kk ds us p H' z (s1.trans s') hp r') D hD⟩⟩
theorem D8(hc:X.calm=true)(S:bu X.env.scope X.N N' k fr scope)(hgl:Gl X "range")(hm:X.mg "range"=none)(ha:PA X [a] (gh X.K H0 O0 ta))(gd:GD X.K g dg)(hk:ko g k)(hfr:fr.Nodup)
 (hg:∀fp C s H,PG (bS X scope N' fp C s H) tg g)(hf:∀fp C s H,fY (bS X scope N' fp C s H) ifs (b5 X.K H0 O0 tc))(he:∀fp C s H,PE (bS X scope N' fp C s H) elt (up X.K H0 O0 te))
 (hst:Ke [a] X.env=[(false,eval a X.env)]:=by rfl)(hs:∀x,Me (.Call (.Name "range" p) [a] [] ps) X.env x=pure x:=by intro _;rfl):
 PU X (.ListComp elt [⟨tg,(.Call (.Name "range" p) [a] [] ps),ifs,0⟩] scope pos) (nP X.K H0 O0 (kq ta dg tc te k fr)):=
 (xC hc S (wm hgl hm ha hst) hg hf he hs).imp λU H Q uu=>by obtain⟨O,Y,Qd,w,q,kk⟩:=uu;exact⟨O,Y,_,w,q,λds vs H1 uu s1 r1=>by
  obtain⟨j,e,b1,b2,q1⟩:=uu;subst e;cases r1 with
  |cons r1 r2=>
   cases r2;cases r1.int;have hb:(LB:Int) < 2 ^ 62:=KL
   exact⟨j,rfl,b1,J1,λD hD=>qo (P:=λ_=>True) dX.rng gd hfr (λv _ H' R h=>hk fr U v H' R h) (λ_ _ _ z=>z) (λ_ _ _ z=>z) (λ_ _ _ _=>trivial) (aj.rng _) (w.mono s1) (by rw[T6,XJ];omega) q1 (λds us p H' z s' hp r'=>kk ds us p H' z (s1.trans s') hp r') D hD⟩⟩
end
theorem l5{pos pos':Pos}(hN:X.N.Nodup)(hi:X.N[i]?=some x)(hx:iD X.env.scope x)(he:PU X e (nP X.K H0 O0 t))(hs:M3 e (some (.Name x pos')) pos.line X.env=pure true:=by rfl)(hf:X.fn x=true\/X.env.scope.names.lookup x=some .local:=by first|exact .inl rfl|exact .inr rfl|assumption):
 PS X (.Assign [.Name x pos'] e pos) (bw X.K H0 O0 (iM i (dL t))):=
 (he _ _ _ _ hN hi hx hs hf).imp λD U H ⟨O,Y,E,w,q,k1,k2,k3,k4⟩=>⟨O,Y,_,w,q,λds vs p H1 q1 s1 hp r1=>
  k1 O _ _ _ q1 ((w.mono (s1.trans (au.new hp))).set (.lst (.inl bF) (rK w s1 hp) (r1.mono (au.new hp)))) (.same (s1.trans (au.new hp)))⟩
def xD(Z:T5)(neg:Bool):R2:=λx y H Q=>∃O dx ds dy,Sh Z H O x dx/\Sh Z H O y dy/\(dy= .list ds\/dy= .tuple ds)/\dh dx/\VP ds=true/\Q (.bl (if neg then !(ds.any λd=>UB d dx) else ds.any λd=>UB d dx)) H
theorem t8(hd:dh d)(hr:bz k A):A.units+1+min (X4 xs) d.depth < Ll:=by
 have:=SeqAt.depth_of_shaped hd;have h1:min (X4 xs) d.depth<=d.depth:=Y9 _ _;have:=hr.un;omega
theorem D9(hr:bz k X.A):bU X (M6 .In) (xD X.K false):=by
 intro acT s U H x y v u Q I rx ry h;obtain⟨O,dx,ds,dy,hx,hy,e,sx,sy,q⟩:=h;obtain⟨as,ra⟩:=je I hx.all (Vw sx) rx;rcases e with e|e<;>subst e
 ·obtain⟨bs,rb⟩:=je I hy.all (by simpa [Va]using sy) ry;exact SeqAt.in_list_reads rb ra sy (Vw sx) (t8 sx hr) (bP I q rfl)
 ·obtain⟨bs,rb⟩:=je I hy.all (by simpa [Va]using sy) ry;exact SeqAt.in_tuple_reads rb ra sy (Vw sx) (t8 sx hr) (bP I q rfl)
theorem MI(hr:bz k X.A):bU X (M6 .NotIn) (xD X.K true):=by
 intro acT s U H x y v u Q I rx ry h;obtain⟨O,dx,ds,dy,hx,hy,e,sx,sy,q⟩:=h;obtain⟨as,ra⟩:=je I hx.all (Vw sx) rx;rcases e with e|e<;>subst e
 ·obtain⟨bs,rb⟩:=je I hy.all (by simpa [Va]using sy) ry;exact SeqAt.notIn_list_reads rb ra sy (Vw sx) (t8 sx hr) (bP I q rfl)
 ·obtain⟨bs,rb⟩:=je I hy.all (by simpa [Va]using sy) ry;exact SeqAt.notIn_tuple_reads rb ra sy (Vw sx) (t8 sx hr) (bP I q rfl)
def l6(neg:Bool):J4->J4->(J4->Prop)->Prop:=λx y Q=>∃ds,(y= .list ds\/y= .tuple ds)/\dh x/\VP ds=true/\Q (.bool (if neg then !(ds.any λd=>UB d x) else ds.any λd=>UB d x))
theorem xE:cN Z (xD Z neg) (l6 neg):=λH O x y dx dy Qd R _ hx hy uu k=>by obtain⟨ds,e,a,b,q⟩:=uu;exact⟨O,dx,ds,dy,hx,hy,e,a,b,k _ _ H q (au.refl _) (.bl _)⟩
theorem MJ{prog:M8}{w:LZ}{A:Lu}{E:JK->K9->Prop}{s:K9}{t sl:J7}{items:Array JK}{vl vu:JK}{lo hi:Option Int}{Q:JK->K9->Prop}(ht:IsTup s.heap t items)(hs:s.heap.IsSliceOf sl vl vu .none)(pl:IsPart vl lo)(pu:IsPart vu hi)
 (hw:HT.sIx items.size 0 lo=0/\HT.sIx items.size items.size hi=items.size)(h:Q (.ref t) s):KS (Kc prog w) A (N7 (.ref t) (.ref sl)) Q E s:=by
 obtain⟨os,hos,hcs,hds⟩:=id hs;have hTs:s.TypeIs (.ref sl) "slice":=⟨os,hos,hcs⟩;unfold N7
 try with_reducible refine Mh ?_
 first|refine JY (Kd ?_)|skip
 refine JY (RZ ht.typeIs KL ?_);refine JY (Nu (name:=T4 "__getitem__") ht.typeIs VR
  (N6 VR ht.typeIs Yv ?_ (Yz _ _)))
 show KS _ _ (XY (.ref t) >>=_) _ _ s;refine JY (tupleItemsOf_ ht ?_);refine JY (QG hTs ?_);rw[KI KL];refine JY (HT.sliceApplied_gen hs pl pu ?_);show KS _ _ (if (((HT.sIx items.size 0 lo:Nat):Int)==0 && (1:Int)==1 && (HT.sIx items.size items.size hi - HT.sIx items.size 0 lo)==items.size)=true then _ else _) _ _ s;rw[KI (by rw[hw.1,hw.2];simp)];unfold Builtin.Tuple.tupleIsExact;refine JY (JY (QG ht.typeIs (Kd ?_)));rw[KI KL];exact JY (P4 (Kd ⟨_,rfl,Kd h⟩))
def MK(Z:T5):V->Option Int->Option Int->Hp->VK->Prop:=λx lo hi H Q=>∃a xs,x= .ref a/\br Z H a xs/\
 ((HT.sIx xs.length 0 lo=0/\HT.sIx xs.length xs.length hi=xs.length)->Q x H)/\(¬(HT.sIx xs.length 0 lo=0/\HT.sIx xs.length xs.length hi=xs.length)->∀p,H p=none->Q (.ref p) (ah H p (.tup (j9 xs lo hi))))
theorem ML:tM X (MK X.K):=by
 intro acT s U H x v vl vu lo hi sl Q I rx hs pl pu h;obtain⟨a,xs,rfl,hx,q1,q2⟩:=h;by_cases hw:HT.sIx xs.length 0 lo=0/\HT.sIx xs.length xs.length hi=xs.length
 ·cases rx;obtain⟨its,r,ht,hz⟩:=I.tuple hx;have hlen:its.toArray.size=xs.length:=by rw[Uu];exact r.length.symm
  refine⟨"tuple",_,VR.lookup,ht.typeIs,?_⟩;exact MJ ht hs pl pu (by rw[hlen];exact hw) ⟨.ref a,H,I,rfl,q1 hw⟩
 ·exact KY acT s U H _ v vl vu lo hi sl Q I rx hs pl pu ⟨a,xs,rfl,hx,hw,q2 hw⟩
theorem MM{xs:List J4}(h:HT.sIx xs.length 0 l=0/\HT.sIx xs.length xs.length u=xs.length):eJ xs l u=xs:=by
 unfold eJ;rw[h.1,h.2];simp
def l7(t:DT)(tl th:DO):DT:=λY Q=>t Y λd=>tl Y λl=>th Y λu=>∃xs,d= .tuple xs/\Q (.tuple (eJ xs l u))
theorem ub{e:L8}{lo hi:Option L8}{t:DT}{tl th:DO}(h:DF X H0 O0 e t)(hl:PO X lo (kx X.K H0 O0 tl))(hu:PO X hi (kx X.K H0 O0 th)):DE X H0 O0 (.Subscript e (.Slice lo hi none p2) pos) (l7 t tl th):=
 (wC ML h hl hu).imp λU H Q ⟨O,Y,Qd,w,q,k⟩=>⟨O,Y,_,w,q,λd v H1 q1 s1 r1=>⟨O,Y,_,w.mono s1,q1,λl H2 q2 s2=>⟨O,Y,_,w.mono (s1.trans s2),q2,λu H3 uu s3=>by
  obtain⟨xs,e,q3⟩:=uu;subst e;have r3:=r1.mono (s2.trans s3);have r4:=r3;obtain⟨a,vs,rfl,h1,d1⟩:=r4.tup;refine⟨a,vs,rfl,h1,λhw=>?_,λ_ p hp=>k _ _ _ q3 (s1.trans (s2.trans (s3.trans (au.new hp)))) (.tup (.inl bF) (rK w (s1.trans (s2.trans s3)) hp) ((d1.cut l u).mono (au.new hp)))⟩;rw[d1.length]at hw;rw[MM hw]at q3;cases r3 with
  |dt r3=>exact k _ _ _ q3 (s1.trans (s2.trans s3)) r3⟩⟩⟩
def eM(a b:Str):Bool:=decide (a.cps.toList<=b.cps.toList)
def fR(l:List Str):List Str:=l.mergeSort eM
theorem Ea(a b c:Str)(h:eM a b=true)(h':eM b c=true):eM a c=true:=
 decide_eq_true (List.le_trans (of_decide_eq_true h) (of_decide_eq_true h'))
theorem abP(a b:Str):(eM a b || eM b a)=true:=by
 rcases List.le_total a.cps.toList b.cps.toList with h|h
 ·unfold eM;rw[decide_eq_true h];rfl
 ·unfold eM;rw[decide_eq_true h,Bool.or_true]
theorem Eb{a b:Str}(h:a.cps.toList=b.cps.toList):a=b:=by
 cases a;cases b;congr 1;exact Array.ext' h
theorem xF(h:eM a b=true)(h':eM b a=true):a=b:=Eb (Su (of_decide_eq_true h) (of_decide_eq_true h'))
theorem kD(l:List Str):(fR l).Perm l:=List.mergeSort_perm l eM
theorem Ec(l:List Str):(fR l).Pairwise λa b=>eM a b=true:=List.pairwise_mergeSort Ea abP l
theorem Ed{l m:List Str}(h:m.Perm l)(p:m.Pairwise λa b=>eM a b=true):m=fR l:=
 List.Perm.eq_of_pairwise (λa b _ _ x y=>xF x y) p (Ec l) (h.trans (kD l).symm)
theorem Ee:∀(p:Str)(l:List Str),risingS p l=true->(p::l).Pairwise λa b=>eM a b=true
 |p,[],_=>by simp
 |p,x::r,h=>by
  rw[risingS,U0,Vp,ltCps_eq,decide_eq_false_iff_not]at h;have h1:eM p x=true:=decide_eq_true (Rz.mp h.1);have h2:=Ee x r h.2;rw[Vd];refine⟨λy hy=>?_,h2⟩;rcases Ud.mp hy with z|z
  ·rw[z];exact h1
  ·exact Ea p x y h1 ((Vd.mp h2).1 y z)
theorem Ef:∀(l:List Str),sortedS l=true->l.Pairwise λa b=>eM a b=true
 | [],_=>.nil
 |x::r,h=>Ee x r h
theorem Eg:∀{ys:List Str}{us:List JK},aL (ys.map V.str) us->StrsAre us ys:=by
 intro ys
 induction ys with
 |nil=>intro us rv;cases rv;exact .nil
 |cons y ys ih=>
  intro us rv;rw[T9]at rv;cases rv with
  |cons r1 r2=>obtain⟨t,rfl⟩:=r1;exact .cons y t (ih r2)
theorem xG:∀{ys:List Str}{us:List JK},StrsAre us ys->aL (ys.map V.str) us
 |_,_,.nil=>.nil
 |_,_,.cons y t r=>.cons ⟨t,rfl⟩ (xG r)
theorem MO:fo X (.builtin "sorted") (λxs H Q=>∃p ss,xs=[.ref p]/\bA X.K H p (ss.map V.str)/\ss.length < 64/\∀l,H l=none->Q (.ref l) (ah H l (.lst ((fR ss).map V.str)))):=by
 intro acT s U H xs us Q I r h;obtain⟨p,ss,rfl,hq,h64,q⟩:=h;obtain⟨u,rfl,rx⟩:=fO r;cases rx;obtain⟨its,rv,pl,hz⟩:=I.list hq;have hlen:=rv.length;rw[T6]at hlen;refine sorted_strs pl.isList (Eg rv) J1 λout ss' a1 a2 a3=>?_;obtain⟨e,he⟩:=sortedAll_at s.heap its out;have es:ss'=fR ss:=Ed a2 (Ef _ a3);subst es;have hl2:(fR ss).length=ss.length:=a2.length_eq;refine⟨.ref _,_,I.laid (t':=s.toks) (o:= .lst ((fR ss).map V.str)) (λb ob q=>sortedAll_old q) (VI _) ?_,rfl,q _ (I.hok.fresh (VI _))⟩;refine⟨by rw[T6,hl2];exact UN (WM h64) KL,out.toList,e,xG a1,?_⟩;rw[he]
theorem aj.strs:∀{ss:List Str}{vs:List V},aj Z H O vs (ss.map Ub)->vs=ss.map V.str
 | [],_,r=>by rw[U9]at r;cases r;rfl
 |b::bs,_,r=>by
  rw[T9]at r;cases r with
  |cons h r=>cases h;rw[T9,aj.strs r]
theorem aj.ofStrs:∀(ss:List Str),aj Z H O (ss.map V.str) (ss.map Ub)
 | []=>.nil
 |s::r=>.cons (.str s) (aj.ofStrs r)
def l8(t:DA):DA:=λY Q=>t Y λds=>∃ss:List Str,ds=[.list (ss.map .str)]/\ss.length < 64/\Q ((fR ss).map .str)
theorem MP{a:L8}{t:DA}{np p:Pos}(hg:Gl X "sorted")(hm:X.mg "sorted"=none)(hv:M9 "sorted"=some (.builtin "sorted"))(ha:PA X [a] (gh X.K H0 O0 t))(he:Ke [a] X.env=(false,eval a X.env)::Ke [] X.env:=by rfl)(hpl:(LR p (Ke [] X.env)).any (·.1)=false:=by rfl):FE X H0 O0 (.Call (.Name "sorted" np) [a] [] p) (l8 t):=
 (bY MO hg hm hv ha (he:=he) (hpl:=hpl)).imp λU H Q uu=>by obtain⟨O,Y,Qd,w,q,k⟩:=uu;exact⟨O,Y,_,w,q,λds vs H1 uu s1 r1=>by
  obtain⟨ss,e,h64,q1⟩:=uu;subst e;cases r1 with
  |cons h r=>
   cases r;obtain⟨a,us,rfl,h1,d1⟩:=h.lst;cases d1.strs;exact⟨a,ss,rfl,h1,h64,λl hl=>k _ _ _ _ q1 s1 hl (aj.ofStrs _)⟩⟩
end
end L2
namespace PySem.SeqAt
open AutoSeq1 (wpAny_loadPart')
open MeetsSeq
theorem Eh(l:J7)(es:Array Rq)(n:Nat)(dd:Option J7)(sl:Array (Option JK))(b:Str)(u:Tok):
 Meets (Builtin.«dict.__eq__» ⟨[.ref l,.str b u],[]⟩) (λ_ R s=>s.heap.get? l=some {cls:= .type "dict",dict:=dd,data:= .dict es n,slots:=sl}/\R (.ok (.ret .notImplemented)) s):=
 .of_wp λprog w A R s h=>by obtain⟨hp,g,d,tk,os⟩:=s;obtain⟨hl,h⟩:=h;have f1:=F.sub_str_dict;wp_walk using Qy hl;exact⟨_,rfl,h⟩
theorem Ei(b:Str)(u:Tok)(l:J7)(c:JK)(es:Array Rq)(n:Nat)(dd:Option J7)(sl:Array (Option JK)):
 Meets (Builtin.«str.__eq__» ⟨[.str b u,.ref l],[]⟩) (λ_ R s=>s.heap.get? l=some {cls:=c,dict:=dd,data:= .dict es n,slots:=sl}/\R (.ok (.ret .notImplemented)) s):=
 .of_wp λprog w A R s h=>by obtain⟨hp,g,d,tk,os⟩:=s;obtain⟨hl,h⟩:=h;wp_walk using Qy hl,wpAny_load hl;exact⟨_,rfl,h⟩
theorem RcAt.dict_str(b:Str)(u:Tok)(ho:s.heap.get? l=some o)(hc:o.cls= .type "dict")(hd:o.data= .dict es n)(hu:A.units < Ll):RcAt A s (.ref l) (.str b u) false:=λprog w E Q h=>by
 obtain⟨cls,dd,data,sl⟩:=o;simp only at hc hd;subst hc hd;exact rc_eq_decline_or (k:=false) ⟨_,ho,rfl⟩ (Q4 s b u) KL F.sub_str_dict F.slot_dict_eq F.slot_str_eq_refl
  (λ_ hq=>OF F.slot_dict_eq ⟨_,ho,rfl⟩ F.entry_dict_eq (F.args_dict_eq_2 _ _) (Eh l es n dd sl b u) ⟨ho,hq⟩)
  (λ_ hq=>OF F.slot_str_eq_refl (Q4 s b u) F.entry_str_eq (F.args_str_eq_2 _ _) (Ei b u l (.type "dict") es n dd sl) ⟨ho,hq⟩)
  (λ_ hq=>PQ (rfl:isSame (.ref l) (.str b u)=pure false) hq) (.inr hu) h
theorem RcAt.str_dict(b:Str)(u:Tok)(ho:s.heap.get? l=some o)(hc:o.cls= .type "dict")(hd:o.data= .dict es n)(hu:A.units < Ll):RcAt A s (.str b u) (.ref l) false:=λprog w E Q h=>by
 obtain⟨cls,dd,data,sl⟩:=o;simp only at hc hd;subst hc hd;exact rc_eq_decline_or (k:=false) (Q4 s b u) ⟨_,ho,rfl⟩ KL F.sub_dict_str F.slot_str_eq F.slot_dict_eq_refl
  (λ_ hq=>OF F.slot_str_eq (Q4 s b u) F.entry_str_eq (F.args_str_eq_2 _ _) (Ei b u l (.type "dict") es n dd sl) ⟨ho,hq⟩)
  (λ_ hq=>OF F.slot_dict_eq_refl ⟨_,ho,rfl⟩ F.entry_dict_eq (F.args_dict_eq_2 _ _) (Eh l es n dd sl b u) ⟨ho,hq⟩)
  (λ_ hq=>PQ (rfl:isSame (.str b u) (.ref l)=pure false) hq) (.inr hu) h
theorem EqAt.str_dict(b:Str)(u:Tok)(ho:s.heap.get? l=some o)(hc:o.cls= .type "dict")(hd:o.data= .dict es n)(hu:A.units < Ll):EqAt A s (.str b u) (.ref l) false:=λprog w E Q h=>by
 unfold eqBool;refine Mh ?_;refine RV (λhab=>absurd (eq_of_beq hab) nofun) (λ_=>?_);exact JY (RcAt.str_dict b u ho hc hd hu prog w E _ (Nr h))
end PySem.SeqAt
namespace L2
open PySem PySem.Spec PyProof.Rows PySem.W
section
variable{X:Cx}{acT:List (J7×Obj)}{U:St}{H:Hp}{s:K9}
def eO:J4->Bool
 | .dict [(.none,_)]=>false
 |_=>true
theorem MQ(I:ag X acT U H s){O:Ex}{v:V}{d:J4}{u:JK}(h:Dt X.K H O v d)(ht:eO d=true)(r:aN v u)(y:Str)(t:Tok)(hu:X.A.units < Ll):SeqAt.RcAt X.A s u (.str y t) (UB d (.str y)):=by
 cases h with
 |non=>cases (show u=Vy from r);simpa [UB]using SeqAt.RcAt.none_str y t
 |bl b=>cases (show u=W3 b from r);simpa [UB]using SeqAt.RcAt.bool_str b y t
 |int i=>obtain⟨k,e⟩:=(show ∃t,u=Ww i t from r);cases e;simpa [UB]using SeqAt.RcAt.int_str i k y t
 |str x=>obtain⟨k,e⟩:=(show ∃t,u=Xo x t from r);cases e;simpa [UB]using SeqAt.RcAt.str_str x k y t
 | @tup a xs ds h n rr=>
  cases (show u=UW a from r);obtain⟨its,rv,p,_⟩:=I.tuple (.inl h);simpa [UB]using ZH y t (show s.heap.IsTuple a its.toArray from p) hu
 | @tupK a xs ds h rr=>
  cases (show u=UW a from r);obtain⟨its,rv,p,_⟩:=I.tuple h.of0;simpa [UB]using ZH y t (show s.heap.IsTuple a its.toArray from p) hu
 | @lst a xs ds h n rr=>
  cases (show u=UW a from r);obtain⟨its,rv,p,_⟩:=I.list (.inl h);simpa [UB]using SeqAt.RcAt.list_str y t p.isList hu
 |pack h n=>exact absurd ht (by simp[eO])
 |purse h n=>exact absurd ht (by simp[eO])
 |scr h r=>exact absurd ht (by simp[eO])
 |obj h e n r=>exact absurd ht (by simp[eO])
 | @dct0 a h n=>
  cases (show u=UW a from r);obtain⟨_,_,_,_,o,es,ep,e,c,dd,_⟩:=(show cz X.prog X.w H s.heap a (.dK []) from I.hok a _ h);simpa [UB]using SeqAt.RcAt.dict_str y t e c.1 dd hu
 | @dic a ob kv ks kp ds h e1 e2 n rr=>
  cases (show u=UW a from r);obtain⟨_,_,_,_,o,es,ep,e,c,dd,_⟩:=(show cz X.prog X.w H s.heap a (.dK kv) from(I.hok a _ h).2);simpa [UB]using SeqAt.RcAt.dict_str y t e c.1 dd hu
theorem abS(I:ag X acT U H s){A:Lu}{O:Ex}{v:V}{d:J4}{u:JK}(h:Dt X.K H O v d)(ht:eO d=true)(r:aN v u)(y:Str)(t:Tok)(hu:A.units < Ll):O5 A s (.str y t) u (UB (.str y) d):=by
 cases h with
 |non=>cases (show u=Vy from r);simpa [UB]using O5.str_none y t
 |bl b=>cases (show u=W3 b from r);simpa [UB]using O5.str_bool y t b
 |int i=>obtain⟨k,e⟩:=(show ∃t,u=Ww i t from r);cases e;simpa [UB]using ZS y t i k
 |str x=>obtain⟨k,e⟩:=(show ∃t,u=Xo x t from r);cases e;simpa [UB]using O5.str_str y t x k
 | @tup a xs ds h n rr=>
  cases (show u=UW a from r);obtain⟨its,rv,p,_⟩:=I.tuple (.inl h);simpa [UB]using ZI y t (show s.heap.IsTuple a its.toArray from p) hu
 | @tupK a xs ds h rr=>
  cases (show u=UW a from r);obtain⟨its,rv,p,_⟩:=I.tuple h.of0;simpa [UB]using ZI y t (show s.heap.IsTuple a its.toArray from p) hu
 | @lst a xs ds h n rr=>
  cases (show u=UW a from r);obtain⟨its,rv,p,_⟩:=I.list (.inl h);simpa [UB]using O5.str_list y t p.isList hu
 |pack h n=>exact absurd ht (by simp[eO])
 |purse h n=>exact absurd ht (by simp[eO])
 |scr h r=>exact absurd ht (by simp[eO])
 |obj h e n r=>exact absurd ht (by simp[eO])
 | @dct0 a h n=>
  cases (show u=UW a from r);obtain⟨_,_,_,_,o,es,ep,e,c,dd,_⟩:=(show cz X.prog X.w H s.heap a (.dK []) from I.hok a _ h);simpa [UB]using O5.str_dict y t e c.1 dd hu
 | @dic a ob kv ks kp ds h e1 e2 n rr=>
  cases (show u=UW a from r);obtain⟨_,_,_,_,o,es,ep,e,c,dd,_⟩:=(show cz X.prog X.w H s.heap a (.dK kv) from(I.hok a _ h).2);simpa [UB]using O5.str_dict y t e c.1 dd hu
end
def Ej(Z:T5):R2:=λx y H Q=>∃O dx z,Dt Z H O x dx/\eO dx=true/\y= .str z/\Q (.bl (UB dx (.str z))) H
theorem cQ(hr:bz k X.A):bU X (M6 .Eq) (Ej X.K):=by
 intro acT s U H x y v u Q I rx ry h;obtain⟨O,dx,z,hx,ht,rfl,q⟩:=h;obtain⟨t,rfl⟩:=ry;have hc:M6 .Eq v (.str z t)=richCompare .Eq v (.str z t):=rfl;rw[hc];exact MQ I hx ht rx z t hr.units0 X.prog X.w X.xe _ (bP I q rfl)
def iT:J4->J4->(J4->Prop)->Prop:=λx y Q=>∃z,y= .str z/\eO x=true/\Q (.bool (UB x (.str z)))
theorem cS:cN Z (Ej Z) iT:=λH O x y dx dy Qd R _ hx hy uu k=>by
 obtain⟨z,e,ht,q⟩:=uu;subst e;cases hy.str;exact⟨_,dx,z,hx.all,ht,rfl,k _ _ H q (au.refl _) (.bl _)⟩
theorem MS(dx:J4)(hS:StrsAre its zs):its.any (λy=>UB (.str (strOf y)) dx)=zs.any λz=>UB (.str z) dx:=by
 induction hS with
 |nil=>rfl
 |cons y t r ih=>rw[Vs,Vs,ih];rfl
def Ek(Z:T5):R2:=λx y H Q=>∃(O:Ex)(dx:J4)(zs:List Str)(a:J7),Dt Z H O x dx/\eO dx=true/\y= .ref a/\br Z H a (zs.map V.str)/\Q (.bl (zs.any λz=>UB (.str z) dx)) H
theorem qt(hr:bz k X.A):bU X (M6 .In) (Ek X.K):=by
 intro acT s U H x y v u Q I rx ry h;obtain⟨O,dx,zs,a,hx,ht,rfl,ha,q⟩:=h;cases ry;obtain⟨its,rv,p,_⟩:=I.tuple ha;have hS:=Eg rv;have hl:=MS dx hS;refine SeqAt.in_tupleAt (λy=>UB (.str (strOf y)) dx) (show s.heap.IsTuple a its.toArray from p) (λy hy=>?_) (by rw[List.any_toArray,hl];exact bP I q rfl);obtain⟨z,t,rfl⟩:=hS.all y (by simpa using hy);exact abS I hx ht rx z t (by show X.A.units+1 < Ll;have:=hr.un;omega)
def l9:J4->J4->(J4->Prop)->Prop:=λx y Q=>∃zs:List Str,y= .tuple (zs.map .str)/\eO x=true/\Q (.bool (zs.any λz=>UB (.str z) x))
theorem qu:cN Z (Ek Z) l9:=λH O x y dx dy Qd R _ hx hy uu k=>by
 obtain⟨zs,e,ht,q⟩:=uu;subst e;obtain⟨a,vs,rfl,hs,r⟩:=hy.tup;cases r.strs;exact⟨_,dx,zs,a,hx.all,ht,rfl,hs,k _ _ H q (au.refl _) (.bl _)⟩
def uc:J4->Bool | .str _=>true|_=>false
def ue:J4->Bool | .int _=>true | .bool _=>true|_=>false
def uf:J4->Bool | .bool _=>true|_=>false
def rX:J4->Bool | .tuple _=>true|_=>false
theorem abD(d:J4):kitOne Z (.type (qp d)) (.type "str")=some (uc d):=by cases d<;>rfl
theorem MU(d:J4):kitOne Z (.type (qp d)) (.type "int")=some (ue d):=by cases d<;>rfl
theorem MV(d:J4):kitOne Z (.type (qp d)) (.type "bool")=some (uf d):=by cases d<;>rfl
theorem MW(d:J4):kitOne Z (.type (qp d)) (.type "tuple")=some (rX d):=by cases d<;>rfl
theorem El{g:DG}{te:DT}{Q:List J4->Prop}(f:J4->J4)
 (h:∀x∈xs,∀R:J4->Prop,R (f x)->g x δ0 λδ2=>te δ2 R)(q:Q (xs.map f)):ji g iQ te δ0 xs Q:=by
 refine⟨λi acc=>acc=(xs.take i).map f,rfl,?_,?_⟩
 ·rintro i x acc hx rfl;have:=h x (UJ hx) (λy=>(xs.take i).map f++[y]=(xs.take (i+1)).map f) (by rw[UZ,hx];simp);simpa [iQ]using this
 ·rintro acc rfl;rw[UL (T8 _)];exact q
theorem MX{g:DG}{tc:DB}{Q:List J4->Prop}(f:J4->Option J4)
 (h:∀x∈xs,∀(R:J4->Prop) (S:Prop),(match f x with|some y=>R y|none=>S)->g x δ0 λδ2=>tc δ2 λok=>if ok=true then te δ2 R else S)(q:Q (xs.filterMap f)):ji g tc te δ0 xs Q:=by
 refine⟨λi acc=>acc=(xs.take i).filterMap f,rfl,?_,?_⟩
 ·rintro i x acc hx rfl;refine h x (UJ hx) (λy=>(xs.take i).filterMap f++[y]=(xs.take (i+1)).filterMap f) ((xs.take i).filterMap f=(xs.take (i+1)).filterMap f) ?_;rw[UZ,hx];cases e:f x with
  |none=>simp[e]
  |some y=>simp[e]
 ·rintro acc rfl;rw[UL (T8 _)];exact q
theorem DmT{g:DG}{te:DT}{p:Bool->Prop}{gg:List Bool->Bool}(f:J4->Bool)
 (h:∀x∈xs,∀R:J4->Prop,R (.bool (f x))->g x δ0 λδ2=>te δ2 R)(q:p (gg (xs.map f))):ji g iQ te δ0 xs λds=>∃bs:List Bool,ds=bs.map W4/\p (gg bs):=
 El (λx=>.bool (f x)) h ⟨xs.map f,by rw[Uo];rfl,q⟩
theorem nZ{P:List Str->Prop}:(∃zs,[Ub a,Ub b]=UR Ub zs/\P zs)↔P [a,b]:=by
 refine⟨λ⟨zs,e,h⟩=>?_,λh=>⟨_,rfl,h⟩⟩
 match zs,e with
 | [x,y],e=>simp at e;rw[e.1,e.2];exact h
theorem n8:eO (.str x)=true:=rfl
theorem acQ:eO (.int x)=true:=rfl
theorem oe:eO (.bool x)=true:=rfl
theorem aah:eO (.tuple x)=true:=rfl
theorem aao:eO (.list x)=true:=rfl
def units:List Str:=["days","months","years"]
theorem gm:∀d∈([]:List J4),cm n d:=λd hd=>by simp at hd
theorem cf(h:cm n d)(hr:∀e∈r,cm n e):∀e∈d::r,cm n e:=λe he=>by
 rcases Ud.mp he with z|z
 ·rw[z];exact h
 ·exact hr e z
theorem gr(h:Uc x=true)(hn:1<=n:=by decide):cm n (.str x):=(iS h).mono hn
theorem Em(hn:1<=n:=by decide):cm n (.int x):=t6.mono hn
theorem xH{n:Nat}{ms:List Str}(h:∀m∈ms,Uc m=true)(hn:1<=n:=by decide):∀d∈ms.map Ub,cm n d:=λd hd=>by
 obtain⟨m,hm,rfl⟩:=Ug.mp hd;exact(iS (h m hm)).mono hn
theorem om:eJ (a::b::c::l) (some 3) none=l:=by
 rw[DU KL (by simp only[Uk];omega)];rfl
theorem aaA:eJ (a::b::c::l) (some 1) (some 3)=[b,c]:=by
 unfold eJ;rw[tZ KL (by simp only[Uk];omega),tZ KL (by simp only[Uk];omega)];rfl
end L2
namespace PySem
open Builtin
open AutoSeq1 (wpAny_loadPart')
end PySem
namespace L2
open PySem PySem.Spec PyProof.Rows PySem.W
def md(t:DT):DT:=λY Q=>t Y λd=>∃i,d= .int i/\Q (.int (-i))
theorem MZ(h:DE X H0 O0 e t):DE X H0 O0 (.UnaryOp .USub e pos) (md t):=
 (Cv Cz h).imp λU H Q uu=>by obtain⟨O,Y,Qd,w,q,k⟩:=uu;exact⟨O,Y,_,w,q,λd v H1 uu s1 r1=>by obtain⟨i,e,q1⟩:=uu;subst e;cases r1;exact⟨i,rfl,k _ _ H1 q1 s1 (.int _)⟩⟩
theorem abr(n:Nat):Wj none none (-1) (n:Int)=((n:Int) - 1,-1):=by
 unfold Wj;rfl
theorem M4(n:Nat):VH ((n:Int) - 1) (-1) (-1)=n:=by
 unfold VH;rw[JS KL];split
 ·rw[show(- -1:Int)=1 by decide,oC];omega
 ·omega
theorem M5(xs:Array JK):((Vo xs.size).filterMap λ(m:Nat)=>xs[((xs.size:Int) - 1+(m:Int)*(-1)).toNat]?).toArray=xs.toList.reverse.toArray:=by
 have e:(Vo xs.size).filterMap (λ(m:Nat)=>xs[((xs.size:Int) - 1+(m:Int)*(-1)).toNat]?)=((Vo xs.size).map λk=>xs.size - 1 - k).filterMap (xs[·]?):=by
  have e2:((Vo xs.size).map λk=>xs.size - 1 - k)=(Vo xs.size).map λ(m:Nat)=>((xs.size:Int) - 1+(m:Int)*(-1)).toNat:=
   VN λm hm=>by have:=XQ.mp hm;omega
  rw[e2,YN];rfl
 have k:=krv_pick xs;unfold slicePick at k;rw[krv_bounds]at k;have k2:((sliceRange ((xs.size:Int) - 1) (-1) (-1)).filterMap (xs[·]?)).toArray=xs.toList.reverse.toArray:=k;rw[krv_sliceRange]at k2;rw[e];exact k2
theorem abu{prog:M8}{w:LZ}{A:Lu}{E:JK->K9->Prop}{s:K9}{sl:J7}{tk:Tok}{n:Nat}{Q:Int×Int×Nat->K9->Prop}(hs:s.heap.IsSliceOf sl .none .none (.int (-1) tk))
 (h:Q ((n:Int) - 1,-1,n) s):KS (Kc prog w) A (Xd (.ref sl) (pure (n:Int))) Q E s:=by
 obtain⟨os,hos,hcs,hds⟩:=id hs;unfold Xd Y4;refine JY (JY (Ng hos hds (x:= .none) rfl (JY (Ng hos hds (x:= .none) rfl (JY (Ng hos hds (x:= .int (-1) tk) rfl (Kd ?_)))))));refine JY (slicePart_int ?_);show KS _ _ (if ((-1:Int)==0)=true then _ else _) _ _ s;rw[JS KL];refine JY (RJ (JY (RJ (JY (Kd ?_)))));show KS _ _ (match Wj none none (-1) (n:Int) with | (lo,hi)=>pure (lo,(-1:Int),VH lo hi (-1))) _ _ s;rw[abr];show KS _ _ (pure ((n:Int) - 1,(-1:Int),VH ((n:Int) - 1) (-1) (-1))) _ _ s;rw[M4];exact Kd h
theorem M7{s:K9}{Q:JK->K9->Prop}(ht:IsTup s.heap t items)(hs:s.heap.IsSliceOf sl .none .none (.int (-1) tk))(hz:items.size<=LB)
 (h:Q (.ref s.heap.objs.size) {s with heap:=s.heap.push {cls:= .type "tuple",data:= .seq items.toList.reverse.toArray}}):KS (Kc prog w) A (N7 (.ref t) (.ref sl)) Q E s:=by
 have htake:sizeOk (.seq items.toList.reverse.toArray):=by
  show items.toList.reverse.toArray.size<=LB;rw[Uu,ZO,UH];exact hz
 obtain⟨os,hos,hcs,hds⟩:=id hs;have hTs:s.TypeIs (.ref sl) "slice":=⟨os,hos,hcs⟩;unfold N7
 try with_reducible refine Mh ?_
 first|refine JY (Kd ?_)|skip
 refine JY (RZ ht.typeIs KL ?_);refine JY (Nu (name:=T4 "__getitem__") ht.typeIs VR
  (N6 VR ht.typeIs Yv ?_ (Yz _ _)))
 show KS _ _ (XY (.ref t) >>=_) _ _ s;refine JY (tupleItemsOf_ ht ?_);refine JY (QG hTs ?_);rw[KI KL];refine JY (abu hs ?_);show KS _ _ (if (((items.size:Int) - 1)==0 && (-1:Int)==1 && items.size==items.size)=true then _ else _) _ _ s;rw[JS KJ,M5]
 first
  |exact JY (m:=VJ _) (MG (Kd ⟨_,rfl,Kd h⟩) htake)
  |exact JY (m:=VJ _) (MG (JY (Kd (Kd ⟨_,rfl,Kd h⟩))) htake)
  |exact JY (JY (m:=VJ _) (MG (Kd (Kd ⟨_,rfl,Kd h⟩)) htake))
  |exact JY (JY (m:=VJ _) (MG (Kd ⟨_,rfl,Kd h⟩) htake))
theorem abg{pos p2 up cp:Pos}(he:PE X e te):PE X (.Subscript e (.Slice none none (some (.UnaryOp .USub (.Constant (.int 1) j cp) up)) p2) pos) (λU H Q=>te U H λx H1=>∃a xs,x= .ref a/\br X.K H1 a xs/\∀p,H1 p=none->Q (.ref p) (ah H1 p (.tup xs.reverse))):=by
 intro acT s U H Q I h;refine Subscript_ (aE (he acT s U H _ I h) λv s1 ⟨x,H1,I1,r1,q1⟩=>?_);obtain⟨a,xs,rfl,hq,q⟩:=q1;cases r1;refine wpAny_Slice ?_;rw[evalPart_none];refine Kd (Kd ?_);rw[evalPart_some];refine aE (Cv Cz bT acT s1 U H1 (λx H2=>x= .int (-1)/\H2=H1) I1 ⟨1,rfl,rfl,rfl⟩) λvk s3 ⟨x3,H3,I3,r3,e3,e4⟩=>?_;subst e3 e4;obtain⟨tk,rfl⟩:=r3;have I4:ag X acT U H3 {s3 with heap:=s3.heap.push {cls:= .type "slice",data:= .fields #[.none,.none,.int (-1) tk]}}:=I3.kept (t':=s3.toks) λb ob q=>Ua _ q;show KS (Kc X.prog X.w) X.A (RU e (.Slice none none (some (.UnaryOp .USub (.Constant (.int 1) j cp) up)) p2) (.ref a) (.ref s3.heap.objs.size)) (EP X acT U Q) X.xe {s3 with heap:=s3.heap.push {cls:= .type "slice",data:= .fields #[.none,.none,.int (-1) tk]}};obtain⟨its,r,ht,hz⟩:=I4.tuple hq;have hlen:=r.length;refine tail_any (ops:=[.ref a,.ref s3.heap.objs.size]) ht.typeIs VR.lookup ?_ (by with_unfolding_all rfl);refine M7 ht (ZX ..) (by rw[Uu];omega) ?_;refine⟨.ref _,_,I4.laid (t':=s3.toks) (o:= .tup xs.reverse) (λb ob q=>Ua _ q) (T8 _) ?_,rfl,q _ (I4.hok.fresh (T8 _))⟩;exact⟨by rw[ZO];exact hz,_,(show aL xs.reverse its.reverse from abn r),SA _ _⟩
def me(t:DT):DT:=λY Q=>t Y λd=>∃xs,d= .tuple xs/\Q (.tuple xs.reverse)
theorem abo{pos p2 up cp:Pos}(h:DF X H0 O0 e t):DE X H0 O0 (.Subscript e (.Slice none none (some (.UnaryOp .USub (.Constant (.int 1) j cp) up)) p2) pos) (me t):=
 (abg h).imp λU H Q uu=>by obtain⟨O,Y,Qd,w,q,k⟩:=uu;exact⟨O,Y,_,w,q,λd v H1 uu s1 r1=>by
  obtain⟨xs,e,q1⟩:=uu;subst e;obtain⟨a,us,rfl,h1,d1⟩:=r1.tup;exact⟨a,us,rfl,h1,λp hp=>k _ _ _ q1 (s1.trans (au.new hp)) (.tup (.inl bF) (rK w s1 hp) (d1.reverse.mono (au.new hp)))⟩⟩
theorem Na:M3 (.Tuple a b c) x n env=pure false:=rfl
theorem mf:M3 (.BinOp a b c d) x n env=pure false:=rfl
theorem rY:M3 (.Call a b c d) x n env=pure false:=rfl
theorem oq:M3 (.Subscript a b c) x n env=pure false:=rfl
theorem abI:M3 (.BoolOp a b c) x n env=pure false:=rfl
theorem Nc:M3 (.IfExp a b c d) x n env=pure false:=rfl
theorem oz:(T4 "paper"==T4 "happens")=false:=Kg
theorem oA:(T4 "paper"==T4 "rule")=false:=Kg
theorem aaF:(T4 "paper"==T4 "leave")=false:=Kg
def mh:DS:=λ_ _=>False
theorem Nd{st:Kk}:PS X st (bw X.K H0 O0 mh):=J6.imp λD U H uu=>by obtain⟨O,Y,E,w,q,_,_,_,_⟩:=uu;exact q.elim
section
variable{α:Type}{P:α->Prop}
theorem mi{a:J4}{r:Dl}{P:J4->Prop}:cJ 0 (some (Sl.v a)::r) P=P a:=rfl
theorem aaH{x:Option Sl}{r:Dl}{i:Nat}{P:J4->Prop}:cJ (i+1) (x::r) P=cJ i r P:=rfl
theorem aaS{l:Dl}{P:J4->Prop}:cJ i (l.set i (some (Sl.v a))) P=(i < l.length/\P a):=by
 apply propext;show wX P _↔_;rw[DI,Zh];constructor
 ·rintro⟨d,e,p⟩;by_cases h:i < l.length
  ·rw[UM h]at e;cases e;exact⟨h,p⟩
  ·rw[V6 J1]at e;cases e
 ·rintro⟨h,p⟩;exact⟨a,by rw[UM h];rfl,p⟩
theorem oE{a:List J4}{r:Dl}{P:List J4->Prop}:(∃d,(some (Sl.o a)::r)[0]?=some (some (Sl.o d))/\P d)=P a:=KJ
theorem aaB{x:Option Sl}{r:Dl}{i:Nat}{P:List J4->Prop}:(∃d,(x::r)[i+1]?=some (some (Sl.o d))/\P d)=(∃d,r[i]?=some (some (Sl.o d))/\P d):=KJ
theorem oG{l:Dl}{P:List J4->Prop}:(∃d,(l.set i (some (Sl.o a)))[i]?=some (some (Sl.o d))/\P d)=(i < l.length/\P a):=by
 apply propext;rw[Zh];constructor
 ·rintro⟨d,e,p⟩;by_cases h:i < l.length
  ·rw[UM h]at e;cases e;exact⟨h,p⟩
  ·rw[V6 J1]at e;cases e
 ·rintro⟨h,p⟩;exact⟨a,by rw[UM h];rfl,p⟩
theorem aaR{l:Dl}{P:List J4->Prop}(h:i≠j):(∃d,(l.set i x)[j]?=some (some (Sl.o d))/\P d)=(∃d,l[j]?=some (some (Sl.o d))/\P d):=by rw[Us h]
theorem oJ{P:Bool->Prop}:(∃b,W4 a= .bool b/\P b)=P a:=KJ
theorem aad{P:Int->Prop}:(∃b,Uy a= .int b/\P b)=P a:=KJ
theorem oM{P:Str->Prop}:(∃b,Ub a= .str b/\P b)=P a:=KJ
theorem oN{P:List J4->Prop}:(∃b,UC a= .tuple b/\P b)=P a:=KJ
theorem oO{P:List J4->Prop}:(∃b,VQ a= .list b/\P b)=P a:=KJ
theorem aaL{P:Int->Int->Prop}:(∃i j,Uy a= .int i/\Uy b= .int j/\P i j)=P a b:=KJ
theorem oQ{P:Str->Str->Prop}:(∃i j,Ub a= .str i/\Ub b= .str j/\P i j)=P a b:=KJ
theorem oR{P:List J4->List J4->Prop}:(∃i j,VQ a= .list i/\VQ b= .list j/\P i j)=P a b:=KJ
theorem oT{P:J4->List J4->Prop}:(∃x y,a::r=x::y/\P x y)=P a r:=propext ⟨λuu=>by obtain⟨_,_,e,p⟩:=uu;cases e;exact p,λp=>⟨_,_,rfl,p⟩⟩
theorem oU{P:J4->Prop}:(∃ds i d,UC (a::r)= .tuple ds/\Uy 0= .int i/\atI ds i=some d/\P d)=P a:=by simp[cK]
theorem oV{P:J4->Prop}:(∃ds i d,UC (a::b::r)= .tuple ds/\Uy 1= .int i/\atI ds i=some d/\P d)=P b:=by simp[fJ]
theorem oW{P:J4->Prop}:(∃ds i d,UC (a::b::c::r)= .tuple ds/\Uy 2= .int i/\atI ds i=some d/\P d)=P c:=by simp[jk]
theorem oX{P:J4->Prop}:(∃ds i d,UC (a::b::c::e::r)= .tuple ds/\Uy 3= .int i/\atI ds i=some d/\P d)=P e:=by simp[gS]
theorem oY{P:J4->Prop}:(∃ds i d,VQ (a::b::r)= .list ds/\Uy 1= .int i/\atI ds i=some d/\P d)=P b:=by simp[fJ]
theorem aaa{P:J4->Prop}:(∃ds i d,VQ (a::b::c::r)= .list ds/\Uy 2= .int i/\atI ds i=some d/\P d)=P c:=by simp[jk]
theorem pd{P:J4->Prop}:(∃ds i d,UC xs= .tuple ds/\Uy k= .int i/\atI ds i=some d/\P d)=(∃d,atI xs k=some d/\P d):=KJ
theorem aaG{P:J4->Prop}:(∃ds i d,VQ xs= .list ds/\Uy k= .int i/\atI ds i=some d/\P d)=(∃d,atI xs k=some d/\P d):=KJ
end
theorem aam{w v:Str}{r:List J4}{l:Dl}{Q:Bool->Prop}:eX (cW iT (cW iR (cJ 0) (dC (.int 0))) (dC (.str v))) (some (.v (.tuple (.str w::r)))::l) Q=Q (w==v):=by
 simp[eX,cW,iT,iR,mi,dC,cK,eO,fu]
theorem ph{l:Dl}:eX (cW iT (cW iR (cJ 0) (dC (.int 0))) (dC (.str v))) (l.set (k+1) x) Q=eX (cW iT (cW iR (cJ 0) (dC (.int 0))) (dC (.str v))) l Q:=by
 simp only[eX,cW,cJ,dC,Us (show k+1≠0 by omega)]
def rZ:ao->J4
 | .inl i=>.int i
 | .inr x=>.str x
def gz(kd:List (ao×J4))(k:ao):Option J4:=(kd.find? λp=>decide (p.1=k)).map (·.2)
def gT(kd:List (ao×J4))(k:ao)(d:J4):List (ao×J4):=if (kd.any λp=>decide (p.1=k))=true then kd.map (λp=>if p.1=k then(p.1,d) else p) else kd++[(k,d)]
theorem Dt.key(h:Dt Z H O v (rZ k)):v=kV k:=by
 cases k with
 |inl i=>cases h;rfl
 |inr x=>cases h;rfl
theorem bM.val(h:bM Z H O kv kd)(k:ao):(eZ kv k=none/\gz kd k=none)\/∃v d,eZ kv k=some v/\gz kd k=some d/\Dt Z H O v d:=by
 induction h with
 |nil=>exact .inl ⟨rfl,rfl⟩
 | @cons j v d r s a _ ih=>
  by_cases e:j=k
  ·exact .inr ⟨v,d,rV e,by simp[gz,Vj,e],a⟩
  ·rw[qq e,show gz ((j,d)::s) k=gz s k by simp[gz,Vj,e]];exact ih
theorem bM.any(h:bM Z H O kv kd)(k:ao):(kv.any λp=>decide (p.1=k))=(kd.any λp=>decide (p.1=k)):=by
 induction h with
 |nil=>rfl
 |cons a _ ih=>simp only[Vs,ih]
theorem bM.length(h:bM Z H O kv kd):kv.length=kd.length:=by
 induction h with
 |nil=>rfl
 |cons a _ ih=>simp only[Uk,ih]
theorem bM.append(h:bM Z H O kv kd)(h':bM Z H O kv' kd'):bM Z H O (kv++kv') (kd++kd'):=by
 induction h with
 |nil=>exact h'
 |cons a _ ih=>exact .cons a ih
theorem bM.repl(h:bM Z H O kv kd)(k:ao)(hv:Dt Z H O v d):bM Z H O (kv.map λp=>if p.1=k then(p.1,v) else p) (kd.map λp=>if p.1=k then(p.1,d) else p):=by
 induction h with
 |nil=>exact .nil
 | @cons j u e r s a _ ih=>
  simp only[T9];by_cases z:j=k
  ·rw[KI z,KI z];exact .cons hv ih
  ·rw[JS z,JS z];exact .cons a ih
theorem bM.put(h:bM Z H O kv kd)(k:ao)(hv:Dt Z H O v d):bM Z H O (putK kv k v) (gT kd k d):=by
 unfold putK gT;rw[h.any k];split
 ·exact h.repl k hv
 ·exact h.append (.cons hv .nil)
abbrev sd:=Dl->(List (ao×J4)->Prop)->Prop
inductive En(Z:T5)(H0:Hp)(O0:Ex)(t:sd)(U:St)(H:Hp)(R:VK):Prop
 |mk (O:Ex) (Y:Dl) (Qd:List (ao×J4)->Prop):Wd Z H0 O0 H O U Y->t Y Qd->(∀kd kv p H',Qd kd->au H H'->H' p=none->bM Z H' O kv kd->R (.ref p) (ah H' p (.dK kv)))->En Z H0 O0 t U H R
abbrev KE(X:Cx)(H0:Hp)(O0:Ex)(e:L8)(t:sd):Prop:=PE X e (En X.K H0 O0 t)
def mj:sd:=λ_ Q=>Q []
theorem xI:KE X H0 O0 (.Dict [] [] pos) mj:=abM.imp λU H Q uu=>by obtain⟨O,Y,Qd,w,q,k⟩:=uu;exact λp hp=>k [] [] p H q (au.refl _) hp .nil
def mq(i:Nat)(t:sd):DS:=λE Y=>t Y λkd=>E.nx (Y.set i (some (.k kd)))
theorem xJ{pos pos':Pos}(hN:X.N.Nodup)(hi:X.N[i]?=some x)(hx:iD X.env.scope x)(he:KE X H0 O0 e t)(hs:M3 e (some (.Name x pos')) pos.line X.env=pure false:=by rfl)(hf:X.fn x=true\/X.env.scope.names.lookup x=some .local:=by first|exact .inl rfl|exact .inr rfl|assumption):
 PS X (.Assign [.Name x pos'] e pos) (bw X.K H0 O0 (mq i t)):=
 (fD hN hi hx he hs hf).imp λD U H ⟨O,Y,E,w,q,k1,k2,k3,k4⟩=>⟨O,Y,_,w,q,λds vs p H1 q1 s1 hp r1=>k1 _ _ _ _ q1 ((w.mono s1).setK hp r1)
  ⟨λb o e _=>(s1.trans (au.new hp)) b o e,λb e n z=>z.elim n λy=>by
   cases q:H b with
   |none=>exact e q
   |some o=>have:=s1 _ _ q;rw[y,hp]at this;cases this⟩⟩
def mr(i:Nat)(tk tv:DT):DS:=λE Y=>tv Y λd=>∃kd,Y[i]?=some (some (.k kd))/\tk Y λy=>∃k,y=rZ k/\kd.length < LB/\E.nx (Y.set i (some (.k (gT kd k d))))
theorem xK{pos pos':Pos}(hu:X.A.units+64 < Ll)(ho:PE X o (dR i))(he:DE X H0 O0 e tk)(hv:DE X H0 O0 v tv)(hs:M3 v (some (.Subscript o e pos')) pos.line X.env=pure false:=by rfl):
 PS X (.Assign [.Subscript o e pos'] v pos) (bw X.K H0 O0 (mr i tk tv)):=
 (xy J1 ho he hv hs).imp λD U H ⟨O,Y,E,w,q,k1,k2,k3,k4⟩=>⟨O,Y,_,w,q,λd u H1 uu s1 r1=>by
  obtain⟨kd,e,qk⟩:=uu;have w1:=w.mono s1;obtain⟨l,kv,h,a,b,c,r⟩:=w1.ownK e;refine⟨.ref l,h,O,Y,_,w1,qk,λy uy H2 ⟨k,ek,hl,q2⟩ s2 r2=>?_⟩;subst ek;obtain rfl:=r2.key;refine⟨l,_,rfl,nX.k (s2 _ _ c) (by rw[r.length];exact hl),k1 _ _ _ _ q2 ((w1.mono s2).putK e h ((r.mono s2).put k (r1.mono s2))) ⟨λb' o' z n=>?_,λ_ _ n=>n⟩⟩;rw[aD (λy=>n (by rw[y];exact a))];exact(s1.trans s2) _ _ z⟩
def mw(i:Nat)(tk:DT):DT:=λY Q=>∃kd,Y[i]?=some (some (.k kd))/\tk Y λy=>∃k d,y=rZ k/\gz kd k=some d/\Q d
theorem bM.got(h:bM Z H O kv kd)(e:gz kd k=some d):∃v,eZ kv k=some v/\Dt Z H O v d:=by
 rcases h.val k with⟨_,z⟩|⟨v,d',a,b,c⟩
 ·rw[e]at z;cases z
 ·rw[e]at b;cases b;exact⟨v,a,c⟩
theorem bM.none(h:bM Z H O kv kd):(eZ kv k).isSome=(gz kd k).isSome:=by
 rcases h.val k with⟨y,z⟩|⟨v,d',a,b,c⟩
 ·rw[y,z];rfl
 ·rw[a,b];rfl
theorem ab3(hu:X.A.units+64 < Ll)(ho:PE X o (dR i))(he:DE X H0 O0 e tk)(hs:xv e):DE X H0 O0 (.Subscript o e pos) (mw i tk):=
 (Mt J1 ho he hs).imp λU H Q uu=>by
  obtain⟨O,Y,Qd,w,⟨kd,e,q⟩,k⟩:=uu;obtain⟨l,kv,h,a,b,c,r⟩:=w.ownK e;refine⟨.ref l,h,O,Y,_,w,q,λy uy H2 ⟨ky,d,ek,ev,q2⟩ s2 r2=>?_⟩;subst ek;obtain rfl:=r2.key;obtain⟨v,hv,dv⟩:=r.got ev;exact⟨l,v,rfl,by rw[<-hv];exact dJ.k (s2 _ _ c),k _ _ _ q2 s2 (dv.mono s2)⟩
def mx(i:Nat)(tk:DT):DT:=λY Q=>∃kd,Y[i]?=some (some (.k kd))/\tk Y λy=>∃k,y=rZ k/\Q ((gz kd k).getD .none)
theorem abK{apos cpos:Pos}(hu:X.A.units+64 < Ll)(ho:PE X o (dR i))(he:DE X H0 O0 e tk)(m:M1 X o "get" apos e cpos):DE X H0 O0 (.Call (.Attribute o "get" apos) [e] [] cpos) (mx i tk):=
 (D5 J1 ho he m).imp λU H Q uu=>by
  obtain⟨O,Y,Qd,w,⟨kd,e,q⟩,k⟩:=uu;obtain⟨l,kv,h,a,b,c,r⟩:=w.ownK e;refine⟨.ref l,h,l,rfl,.inl ⟨kv,.inl c⟩,O,Y,_,w,q,λy uy H2 ⟨ky,ek,q2⟩ s2 r2=>?_⟩;subst ek;obtain rfl:=r2.key;refine⟨_,dJ.k (s2 _ _ c),k _ _ _ q2 s2 ?_⟩;rcases r.val ky with⟨y,z⟩|⟨v,d',a',b',c'⟩
  ·rw[y,z];exact .non
  ·rw[a',b'];exact c'.mono s2
open PySem PySem.Spec PyProof.Rows PySem.W PySem.Calls
theorem Nh{A:Lu}{s:K9}{Q:JK->K9->Prop}
 (Z:KdlSrc prog w T r d n P OK)(hh:A.handled=none)(hok:OK s.heap)(hn:n < 64)(hP:∀vs:List JK,vs.length=n->(∀j v,vs[j]?=some v->P j v)->StrsAre vs ss)
 (h:∀(h' h2:LO) (tk:Nat) (out:Array JK) (e:Nat) (ss':List Str),(∀b o,s.heap.get? b=some o->h'.get? b=some o)->(∀b o,h'.get? b=some o->h2.get? b=some o)->h2.get? h'.objs.size=some (LW "list" out e)->StrsAre out.toList ss'->ss'.Perm ss->sortedS ss'=true->Q (.ref h'.objs.size) {s with heap:=h2,toks:=tk}):
 KS (Kc prog w) A (call (.builtin "sorted") [.ref r]) Q E s:=by
 refine X5 kind_sorted plain_sorted entry_sorted (args_sorted1 _) ?_;unfold Builtin.«sorted»;refine JY (m:=checkCount "sorted" 1 1 _) (Kd ?_);refine JY (kdu_collect (A:=A.in1) Z hh hok (UN (WM hn) KL) λh' tk acc hk hacc=>?_);have hl:acc.toList.length=n:=by rw[UH];exact hacc.1
 refine JY (QP ?_);have hS:=hP acc.toList hl (λj v e=>hacc.2 j v (by rw[<-Yy];exact e));have hoL:(h'.push (LW "list" acc.toList.toArray 0)).get? h'.objs.size=some (LW "list" acc.toList.toArray 0):=UE _ rfl;refine JY (Mh (N6 RA ⟨_,hoL,rfl⟩ R0 (list_sort_treeK (s:={s with heap:=h'.push (LW "list" acc.toList.toArray 0),toks:=tk}) strKind_oneLt hoL hS.keysOf (λv₁ v₂ rest e=>keyKind_strs (by rw[<-e];exact hS)) (by rw[hl];exact hn) λst' a1 a2=>⟨_,rfl,?_⟩) (args_list_sort _)));obtain⟨ss',h1,h2,h3⟩:=sorted_out_str hS a1 a2;obtain⟨e,he⟩:=sortedHeap_at (n:=0) (vs:=acc.toList) (out:=(arrOf st').map (·.2)) hoL;refine Kd ⟨_,rfl,h h' _ tk _ e ss' hk (λb o q=>?_) he h1 h2 h3⟩;have hlt:b < h'.objs.size:=Ut q;rw[sortedHeap_old (UQ hlt) (by rw[size_push'];exact VE hlt),Z8 _ _ _ (UQ hlt)];exact q
theorem Eo:∀{ss:List Str}{vs:List JK},vs.length=ss.length->(∀(j:Nat)(v:JK),vs[j]?=some v->∃x:Str,ss[j]?=some x/\(eV P w).is (.inr x) v=true)->StrsAre vs ss
 | [],[],_,_=>.nil
 |x::ss,v::vs,hl,h=>by
  obtain⟨y,e,k⟩:=h 0 v rfl;cases e;rcases jy (k:= .inr x) (v:=v) k with⟨i,t,e,_⟩|⟨z,t,e,ev⟩
  ·cases e
  ·cases e;subst ev;exact .cons x t (Eo (by simpa using hl) λj v e=>h (j+1) v e)
theorem Ni:fo X (.builtin "sorted") (λxs H Q=>X.calm=true/\∃a kv ss,xs=[.ref a]/\Rd H a (.dK kv)/\kv.map (·.1)=ss.map VG/\ss.length < 64/\∀l,H l=none->Q (.ref l) (ah H l (.lst ((fR ss).map V.str)))):=by
 intro acT s U H xs us Q I r h;obtain⟨hc,a,kv,ss,rfl,ha,hk,h64,q⟩:=h;obtain⟨u,rfl,rx⟩:=fO r;cases rx;obtain⟨hz,lo,vs,rel,dd⟩:=kB I.hok ha;obtain⟨ep,da⟩:=dd.dictAt;have hlen:vs.length=ss.length:=by rw[<-rel.length,<-T6 (f:=(·.1)),hk,T6]
 refine Nh (ss:=ss) (kdl_dict (kvs:=vs) (ep:=ep) lo) (I.ok.hd hc) da J1 (λus hl hp=>Eo (P:=X.prog) (w:=X.w) J1 λj v e=>?_) λh' h2 tk out e ss' k1 k2 at2 s1 s2 s3=>?_
 ·obtain⟨k,x,ek,kk⟩:=hp j v e;have e1:(vs.map (·.1))[j]?=some k:=by rw[Ul,ek];rfl
  rw[<-rel.keys,hk,Ul]at e1;cases es:ss[j]? with
  |none=>rw[es]at e1;cases e1
  |some y=>rw[es]at e1;cases e1;exact⟨y,rfl,kk⟩
 ·have es:ss'=fR ss:=Ed s2 (Ef _ s3);subst es;have hl2:(fR ss).length=ss.length:=s2.length_eq;have I1:ag X acT U H {s with heap:=h',toks:=tk}:=I.kept (t':=tk) k1;refine⟨.ref _,_,I1.laid (t':=tk) (o:= .lst ((fR ss).map V.str)) k2 (T8 _) ?_,rfl,q _ (I1.hok.fresh (T8 _))⟩;refine⟨by rw[T6,hl2];exact UN (WM h64) KL,out.toList,e,xG s1,?_⟩;rw[at2]
theorem bM.keys(h:bM Z H O kv kd):kv.map (·.1)=kd.map (·.1):=by
 induction h with
 |nil=>rfl
 |cons a _ ih=>simp only[T9,ih]
section
variable{X:Cx}{H0:Hp}{O0:Ex}
def my(i:Nat):DA:=λY Q=>∃kd,Y[i]?=some (some (.k kd))/\∃ss:List Str,kd.map (·.1)=ss.map VG/\ss.length < 64/\Q ((fR ss).map .str)
theorem abR{i:Nat}{o:L8}{np p:Pos}(hc:X.calm=true)(hg:Gl X "sorted")(hm:X.mg "sorted"=none)(hv:M9 "sorted"=some (.builtin "sorted"))(ho:PE X o (dR i))(he:Ke [o] X.env=(false,eval o X.env)::Ke [] X.env:=by rfl)(hpl:(LR p (Ke [] X.env)).any (·.1)=false:=by rfl):
 FE X H0 O0 (.Call (.Name "sorted" np) [o] [] p) (my i):=
 (bY Ni hg hm hv (bJ ho cA he) (he:=he) (hpl:=hpl)).imp λU H Q uu=>by
  obtain⟨O,Y,Qd,w,⟨kd,e,ss,ek,h64,q⟩,k⟩:=uu;obtain⟨l,kv,h,a,b,c,r⟩:=w.ownK e;exact⟨.ref l,h,hc,l,kv,ss,rfl,.inl c,by rw[r.keys];exact ek,h64,λp hp=>k _ _ _ _ q (au.refl _) hp (aj.ofStrs _)⟩
end
section
theorem aav{a:List (ao×J4)}{r:Dl}{P:List (ao×J4)->Prop}:(∃d,(some (Sl.k a)::r)[0]?=some (some (Sl.k d))/\P d)=P a:=KJ
theorem pk{x:Option Sl}{r:Dl}{i:Nat}{P:List (ao×J4)->Prop}:(∃d,(x::r)[i+1]?=some (some (Sl.k d))/\P d)=(∃d,r[i]?=some (some (Sl.k d))/\P d):=KJ
theorem pq{l:Dl}{P:List (ao×J4)->Prop}(h:i≠j):(∃d,(l.set i x)[j]?=some (some (Sl.k d))/\P d)=(∃d,l[j]?=some (some (Sl.k d))/\P d):=by rw[Us h]
theorem px{P:ao->Prop}:(∃k,Ub x=rZ k/\P k)=P (.inr x):=propext ⟨λuu=>by obtain⟨k,e,p⟩:=uu;cases k with|inl i=>cases e|inr y=>cases e;exact p,λp=>⟨_,rfl,p⟩⟩
end
def cY:J4->Bool
 | .none=>true
 |_=>false
def mz:J4->J4->(J4->Prop)->Prop:=λx y Q=>y= .none/\Q (.bool (cY x))
def mB:J4->J4->(J4->Prop)->Prop:=λx y Q=>y= .none/\Q (.bool (!cY x))
theorem Sh.isN(h:Sh Z H O x d):decide (x= .non)=cY d:=by
 cases h with
 |dt h=>cases h<;>simp[cY]
 |_=>simp[cY]
theorem mC:cN Z (λx y H Q=>y= .non/\Q (.bl (decide (x= .non))) H) mz:=λH O x y dx dy Qd R _ hx hy uu k=>by
 obtain⟨e,q⟩:=uu;subst e;refine⟨hy.non,?_⟩;rw[hx.isN];exact k _ _ H q (au.refl _) (.bl _)
theorem se:cN Z (λx y H Q=>y= .non/\Q (.bl (!decide (x= .non))) H) mB:=λH O x y dx dy Qd R _ hx hy uu k=>by
 obtain⟨e,q⟩:=uu;subst e;refine⟨hy.non,?_⟩;rw[hx.isN];exact k _ _ H q (au.refl _) (.bl _)
def mD:Fa:=λds Q=>∃i:Int,ds=[.int i]/\Q (.int (if i < 0 then -i else i))
theorem Nk:kg Z (λxs H Q=>∃i,xs=[.int i]/\Q (.int (if i < 0 then -i else i)) H) mD:=λH O xs ds Qd R _ hs uu k=>by
 obtain⟨i,e,q⟩:=uu;subst e;cases hs with
 |cons h r=>cases r;cases h.int;exact⟨i,rfl,k _ _ H q (au.refl _) (.int _)⟩
def mE:J4->J4->(J4->Prop)->Prop:=λx y Q=>∃ds i d,x=gP ds/\y= .int i/\atI ds i=some d/\Q d
theorem Nl:cN Z (wF Z) mE:=λH O x y dx dy Qd R _ hx hy uu k=>by
 obtain⟨ds,i,d,e1,e2,e3,q⟩:=uu;subst e1 e2;obtain⟨a,vs,rfl,hs,r⟩:=hx.scr;cases hy.int;obtain⟨v,hv,rv⟩:=r.atI e3;exact⟨a,vs,i,v,rfl,rfl,hs,hv,k d v H q (au.refl _) rv⟩
def mF(t:DT)(tl th:DO):DA:=λY Q=>t Y λd=>tl Y λl=>th Y λu=>∃xs,d=gP xs/\Q (eJ xs l u)
theorem Nm{e:L8}{lo hi:Option L8}{t:DT}{tl th:DO}(h:DF X H0 O0 e t)(hl:PO X lo (kx X.K H0 O0 tl))(hu:PO X hi (kx X.K H0 O0 th)):FE X H0 O0 (.Subscript e (.Slice lo hi none p2) pos) (mF t tl th):=
 (wC Dd h hl hu).imp λU H Q uu=>by obtain⟨O,Y,Qd,w,q,k⟩:=uu;exact⟨O,Y,_,w,q,λd v H1 q1 s1 r1=>⟨O,Y,_,w.mono s1,q1,λl H2 q2 s2=>⟨O,Y,_,w.mono (s1.trans s2),q2,λu H3 uu s3=>by
  obtain⟨xs,e,q3⟩:=uu;subst e;obtain⟨a,vs,rfl,h1,d1⟩:=(r1.mono (s2.trans s3)).scr;exact⟨a,vs,rfl,h1,λp hp=>k _ _ _ _ q3 (s1.trans (s2.trans s3)) hp (d1.cut l u)⟩⟩⟩⟩
theorem Ep:bU X (Mw .Mult) (λx y H Q=>∃(z:Str)(n:Int),x= .str z/\y= .int n/\MulOk z n/\Q (.str (Txt.mul z n)) H):=by
 intro acT s U H x y v u Q I rx ry h;obtain⟨z,n,rfl,rfl,hok,q⟩:=h;obtain⟨t,rfl⟩:=rx;obtain⟨t',rfl⟩:=ry;exact SB.mul hok λt' k=>⟨.str _,H,I.tok _,⟨_,rfl⟩,q⟩
def mG:J4->J4->(J4->Prop)->Prop:=λx y Q=>∃(z:Str)(n:Int),x= .str z/\y= .int n/\MulOk z n/\Q (.str (Txt.mul z n))
theorem Er:cN Z (λx y H Q=>∃(z:Str)(n:Int),x= .str z/\y= .int n/\MulOk z n/\Q (.str (Txt.mul z n)) H) mG:=λH O x y dx dy Qd R _ hx hy uu k=>by
 obtain⟨z,n,e1,e2,c,q⟩:=uu;subst e1 e2;cases hx.str;cases hy.int;exact⟨z,n,rfl,rfl,c,k _ _ H q (au.refl _) (.str _)⟩
structure Rw where
 w:Str
 n:Int
 nm:Str
 r:List J4
def Rw.enc(x:Rw):J4:= .tuple (.str x.w:: .int x.n:: .str x.nm::x.r)
def gA(ws:List Str)(day:Int)(x:Rw):Prop:=x.w∈ws/\x.n<=day
instance {ws:List Str} {day:Int} {x:Rw}:Decidable (gA ws day x):=by unfold gA;infer_instance
abbrev Ls:=List (Str×Rw)
def iU(L:Ls):List (ao×J4):=L.map λp=>(.inr p.1,p.2.enc)
def fc(L:Ls)(nm:Str):Option Rw:=(L.find? λp=>decide (p.1=nm)).map (·.2)
def uh(L:Ls)(nm:Str)(x:Rw):Ls:=if (L.any λp=>decide (p.1=nm))=true then L.map (λp=>if p.1=nm then(p.1,x) else p) else L++[(nm,x)]
theorem jO:((VG a:ao)=VG b)↔a=b:=⟨λh=>by cases h;rfl,λh=>by rw[h]⟩
theorem xM(nm:Str):∀L:Ls,gz (iU L) (.inr nm)=(fc L nm).map Rw.enc
 | []=>rfl
 |p::L=>by
  have ih:=xM nm L;unfold gz fc iU at*;by_cases h:p.1=nm
  ·simp[Vj,h]
  ·have h':¬((VG p.1:ao)=VG nm):=λz=>h (jO.mp z);simp only[T9,Vj,decide_eq_false h,decide_eq_false h'];exact ih
theorem Es(L:Ls)(nm:Str)(x:Rw):gT (iU L) (.inr nm) x.enc=iU (uh L nm x):=by
 have ha:(iU L).any (λp=>decide (p.1=(VG nm:ao)))=L.any λp=>decide (p.1=nm):=by
  unfold iU;rw[Yc];congr 1;funext p;simp only[Wr,jO]
 unfold gT uh;rw[ha];split
 ·unfold iU;rw[Uo,Uo];apply VN;intro p _;simp only[Wr,jO];split<;>rfl
 ·unfold iU;simp
structure fg (ws:List Str) (day:Int) (xs:List Rw) (L:Ls):Prop where
 nd:(L.map (·.1)).Nodup
 it:∀p∈L,p.1=p.2.nm/\p.2∈xs/\gA ws day p.2/\∀y∈xs,gA ws day y->y.nm=p.1->y.n<=p.2.n
 al:∀y∈xs,gA ws day y->∃p∈L,p.1=y.nm
 le:L.length<=xs.length
theorem fg.nil(ws:List Str)(day:Int):fg ws day [] []:=⟨Zz,(λp h=>by cases h),(λp h=>by cases h),T8 _⟩
theorem ui(h:fc L nm=some y):∃p∈L,p.1=nm/\p.2=y:=by
 unfold fc at h;cases e:L.find? (λp=>decide (p.1=nm)) with
 |none=>rw[e]at h;cases h
 |some p=>
  rw[e]at h;cases h;exact⟨p,List.mem_of_find?_eq_some e,by simpa using List.find?_some e,rfl⟩
theorem Et(h:fc L nm=none):∀p∈L,p.1≠nm:=by
 intro p hp e;unfold fc at h;rw[Option.map_eq_none_iff,Yd]at h;exact h p hp (by simpa using e)
theorem fg.skip(h:fg ws day xs L)(hx:¬gA ws day x):fg ws day (xs++[x]) L:=by
 refine⟨h.nd,λp hp=>?_,λy hy ho=>?_,by have:=h.le;simp;omega⟩
 ·obtain⟨a,b,c,d⟩:=h.it p hp;refine⟨a,by simp[b],c,λy hy ho e=>?_⟩;rcases Um.mp hy with z|z
  ·exact d y z ho e
  ·rw[Ur]at z;subst z;exact absurd ho hx
 ·rcases Um.mp hy with z|z
  ·exact h.al y z ho
  ·rw[Ur]at z;subst z;exact absurd ho hx
theorem fg.keep(h:fg ws day xs L)(hl:fc L x.nm=some y0)(hn:¬y0.n < x.n):fg ws day (xs++[x]) L:=by
 obtain⟨p0,hp0,e0,rfl⟩:=ui hl;have uq:∀p∈L,p.1=x.nm->p=p0:=λp hp e=>by
  have nd:=h.nd;clear h hl hn
  induction L with
  |nil=>cases hp
  |cons q L ih=>
   rw[T9,Vz]at nd;rcases Ud.mp hp with a|a<;>rcases Ud.mp hp0 with b|b
   ·rw[a,b]
   ·exact absurd (Ug.mpr ⟨p0,b,by rw[e0,<-e,a]⟩) nd.1
   ·exact absurd (Ug.mpr ⟨p,a,by rw[e,<-e0,b]⟩) nd.1
   ·exact ih b a nd.2
 refine⟨h.nd,λp hp=>?_,λy hy ho=>?_,by have:=h.le;simp;omega⟩
 ·obtain⟨a,b,c,d⟩:=h.it p hp;refine⟨a,by simp[b],c,λy hy ho e=>?_⟩;rcases Um.mp hy with z|z
  ·exact d y z ho e
  ·rw[Ur]at z;subst z;rw[uq p hp e.symm];omega
 ·rcases Um.mp hy with z|z
  ·exact h.al y z ho
  ·rw[Ur]at z;subst z;exact⟨p0,hp0,e0⟩
theorem fg.put(h:fg ws day xs L)(ho:gA ws day x)(hl:∀y,fc L x.nm=some y->y.n < x.n):fg ws day (xs++[x]) (uh L x.nm x):=by
 unfold uh;split
 ·rename_i ha;obtain⟨p0,hp0,e0⟩:=WD.mp ha;have e0:p0.1=x.nm:=of_decide_eq_true e0;have hmx:∀y∈xs,gA ws day y->y.nm=x.nm->y.n<=x.n:=λy hy ho' e=>by
   cases hk:fc L x.nm with
   |none=>exact absurd e0 (Et hk p0 hp0)
   |some z=>
    obtain⟨p,hp,ep,rfl⟩:=ui hk;have:=(h.it p hp).2.2.2 y hy ho' (by rw[ep];exact e);have:=hl _ hk;omega
  refine⟨?_,λp hp=>?_,λy hy ho'=>?_,by have:=h.le;simp;omega⟩
  ·rw[Uo,show((λp:Str×Rw=>p.1)∘ λp=>if p.1=x.nm then(p.1,x) else p)=λp=>p.1 by funext p;simp only[Wr];split<;>rfl];exact h.nd
  ·obtain⟨q,hq,rfl⟩:=Ug.mp hp;by_cases z:q.1=x.nm
   ·rw[KI z];refine⟨z,KJ,ho,λy hy ho' e=>?_⟩;rcases Um.mp hy with m|m
    ·exact hmx y m ho' (by rw[e];exact z)
    ·rw[Ur]at m;subst m;exact Zs _
   ·rw[JS z];obtain⟨a,b,c,d⟩:=h.it q hq;refine⟨a,by simp[b],c,λy hy ho' e=>?_⟩;rcases Um.mp hy with m|m
    ·exact d y m ho' e
    ·rw[Ur]at m;subst m;exact absurd e.symm z
  ·rcases Um.mp hy with m|m
   ·obtain⟨p,hp,e⟩:=h.al y m ho';refine⟨_,Ug.mpr ⟨p,hp,rfl⟩,?_⟩;split<;>exact e
   ·rw[Ur]at m;subst m;refine⟨_,Ug.mpr ⟨p0,hp0,rfl⟩,?_⟩;rw[KI e0];exact e0
 ·rename_i ha;have hno:∀p∈L,p.1≠x.nm:=λp hp e=>ha (WD.mpr ⟨p,hp,decide_eq_true e⟩);refine⟨?_,λp hp=>?_,λy hy ho'=>?_,by have:=h.le;simp;omega⟩
  ·rw[UA];refine WT.mpr ⟨h.nd,KJ,λa ha' b hb=>?_⟩;simp only[T9,U9,Ur]at hb;obtain⟨p,hp,rfl⟩:=Ug.mp ha';rw[hb];exact hno p hp
  ·rcases Um.mp hp with m|m
   ·obtain⟨a,b,c,d⟩:=h.it p m;refine⟨a,by simp[b],c,λy hy ho' e=>?_⟩;rcases Um.mp hy with z|z
    ·exact d y z ho' e
    ·rw[Ur]at z;subst z;exact absurd e.symm (hno p m)
   ·rw[Ur]at m;subst m;refine⟨rfl,KJ,ho,λy hy ho' e=>?_⟩;rcases Um.mp hy with z|z
    ·obtain⟨p,hp,e'⟩:=h.al y z ho';exact absurd (e'.trans e) (hno p hp)
    ·rw[Ur]at z;subst z;exact Zs _
  ·rcases Um.mp hy with m|m
   ·obtain⟨p,hp,e⟩:=h.al y m ho';exact⟨p,by simp[hp],e⟩
   ·rw[Ur]at m;subst m;exact⟨(y.nm,y),KJ,rfl⟩
structure fS (ws:List Str) (day:Int) (xs res:List Rw):Prop where
 up:(res.map (·.nm)).Pairwise λa b=>eM a b=true
 nd:(res.map (·.nm)).Nodup
 it:∀x∈res,x∈xs/\gA ws day x/\∀y∈xs,gA ws day y->y.nm=x.nm->y.n<=x.n
 al:∀y∈xs,gA ws day y->∃x∈res,x.nm=y.nm
 le:res.length<=xs.length
theorem xN{L:Ls}(h:nm∈L.map (·.1)):∃x,fc L nm=some x:=by
 cases e:fc L nm with
 |some x=>exact⟨x,rfl⟩
 |none=>
  obtain⟨p,hp,e'⟩:=Ug.mp h;exact absurd e' (Et e p hp)
def uj(L:Ls):List Rw:=(fR (L.map (·.1))).filterMap (fc L)
theorem abE(h:fg ws day xs L):(uj L).map (·.nm)=fR (L.map (·.1)):=by
 unfold uj;have key:∀l:List Str,(∀a∈l,a∈L.map (·.1))->(l.filterMap (fc L)).map (·.nm)=l:=by
  intro l
  induction l with
  |nil=>intro _;rfl
  |cons a l ih=>
   intro hl;obtain⟨x,hx⟩:=xN (hl a KJ);obtain⟨p,hp,e,rfl⟩:=ui hx;rw[VL,hx];show p.2.nm::_=_;rw[ih λb hb=>hl b (by simp[hb]),<-(h.it p hp).1,e]
 exact key _ λa ha=>(kD _).mem_iff.mp ha
theorem fg.res(h:fg ws day xs L):fS ws day xs (uj L):=by
 have hn:=abE h;refine⟨by rw[hn];exact Ec _,by rw[hn];exact(kD _).nodup_iff.mpr h.nd,λx hx=>?_,λy hy ho=>?_,by rw[<-T6 (f:=λx:Rw=>x.nm),hn,(kD _).length_eq,T6];exact h.le⟩
 ·obtain⟨a,ha,e⟩:=Xz.mp hx;obtain⟨p,hp,e1,rfl⟩:=ui e;obtain⟨b1,b2,b3,b4⟩:=h.it p hp;exact⟨b2,b3,λy hy ho e=>b4 y hy ho (by rw[b1];exact e)⟩
 ·obtain⟨p,hp,e⟩:=h.al y hy ho;have:p.1∈(uj L).map (·.nm):=by rw[hn];exact(kD _).mem_iff.mpr (Ug.mpr ⟨p,hp,rfl⟩)
  obtain⟨x,hx,e'⟩:=Ug.mp this;exact⟨x,hx,e'.trans e⟩
theorem Np(t:OI)(n:Nat):(t.orStandIn n).led=t.led:=by unfold ZZ;split<;>rfl
theorem Nq(t:OI)(es:Array (Int×JK))(h:Int)(x:JK):(layNew t es h x).2.1.led=t.led:=by
 unfold layNew;split
 ·exact Np _ _
 ·rfl
theorem abz(t:OI)(es:Array (Int×JK))(n:Nat):(Ow t es n).2.1.led=t.led:=by
 unfold Ow TR oF;cases Z9 (Z0 n - 1) (es.map (·.1)) with
 |none=>rfl
 |some ow=>simp only[bind,oH,pure];split<;>rfl
abbrev gU(w:LZ):Bool:=w.params.followText "set-order"
theorem Nt(a:JK){Q₁:JK->K9->Prop}
 (h:Q₁ (.ref s.heap.objs.size) {s with heap:=s.heap.push {cls:= .type "set",dict:=none,data:= .set #[] 0 (.fresh 0 0 (!gU w))}}):
 Mo (Kc P w) A (.call (.builtin "set.__new__") ⟨[.type "set",a],[]⟩) (wants Q₁ E) s:=by
 refine codeAny_of_tree ?_;show KS _ A.in1 (checkBuiltinCall "set.__new__" ⟨[.type "set",a],[]⟩ >>=λ_=>again (.builtin "set.__new__" ⟨[.type "set",a],[]⟩)) _ _ s;refine JY (PQ (PySem.F.newCall_set_1 a) (Kd ⟨OL ZA _,OA PySem.F.entry_set_new ?_⟩));rw[Wb ZA _];unfold Builtin.«set.__new__» Builtin.Frozenset.newClass;have hsb:=sub_set_self;obtain⟨hp,g,d,tk,os⟩:=s;dsimp only
 wp_walk
 refine QS (Kd ?_);dsimp only;simp only[newObj];exact JY (wpAny_alloc (Kd (Kd h)))
theorem jP:Slot "set_iterator" "__next__" "set_iterator.__next__":=
 .of (owner:="set_iterator") (n:="__next__") (by rw[typeLookup_type,builtinLookup_eq_fast];kernel_rfl) Kg Kg Kg
  (by first|exact .inl Kg|exact .inr Kg) (by rw[isSubtype_type];kernel_rfl)
theorem uk:entryFor table "set_iterator.__next__"=some Builtin.«set_iterator.__next__»:=entryFor_of_tree (by kernel_rfl)
theorem Eu:Manifest.owners.lookup (String.ofList ['r','o','t','a','r','e','t','i','_','t','e','s'].reverse)=some Manifest.sig_set_iterator:=by kernel_rfl
theorem um(a:JK):argsOk "set_iterator.__next__" ⟨[a],[]⟩:=by
 unfold argsOk;rw[signature?_of (id:="set_iterator.__next__") (n:=['_','_','t','x','e','n','_','_']) (o:=['r','o','t','a','r','e','t','i','_','t','e','s']) (by kernel_rfl) Eu];kernel_rfl
theorem abv:entryFor table "set.__iter__"=some Builtin.«frozenset.__iter__»:=entryFor_alias (id':="frozenset.__iter__") (by kernel_rfl) rfl Kg (by kernel_rfl)
theorem xO{α:Type}:∀{l:List α}{i:Nat}(h:i < l.length),(l[i]::l.eraseIdx i).Perm l
 |a::l,0,h=>.refl _
 |a::l,i+1,h=>by
  have:=xO (l:=l) (i:=i) (by simpa using h);simp only[List.getElem_cons_succ,List.eraseIdx_cons_succ];exact(List.Perm.swap _ _ _).trans (this.cons a)
theorem Ew{α:Type}(next:Nat->Nat):∀(f k:Nat)(left:List α)(out:Array α),f=left.length->(pickOrder.go next f k left out).toList.Perm (out.toList++left)
 |0,k,left,out,e=>by
  rw[XI e.symm];unfold pickOrder.go;simp
 |f+1,k,left,out,e=>by
  unfold pickOrder.go;have hlt:next k % left.length < left.length:=Nat.mod_lt _ J1;rw[UM hlt];refine(Ew next f (k+1) _ _ (by rw[YV hlt];omega)).trans ?_;rw[oZ,Vi];exact List.Perm.append_left _ (xO hlt)
theorem Nv{α:Type}(next:Nat->Nat)(xs:Array α):(QA next xs).toList.Perm xs.toList:=by
 have:=Ew next xs.size 0 xs.toList #[] KJ;simpa [QA]using this
theorem Ey{α:Type}:∀(n:Nat)(xs:List α)(s:K9)(Q:List α->K9->Prop),n=xs.length->(∀ys d,ys.Perm xs->Q ys {s with drawn:=d})->KS (Kc P w) A (drawOrder n xs) Q E s
 |0,xs,s,Q,e,q=>by
  rw[XI e.symm]at q⊢;unfold drawOrder;exact Kd (q [] s.drawn (.refl _))
 |n+1,[],s,Q,e,q=>by cases e
 |n+1,x::xs,s,Q,e,q=>by
  unfold drawOrder;refine JY ?_;intro Γ p hΓ;refine⟨KJ,?_⟩;generalize hi:(Kc P w).w.draws .order (s.drawn.get .order)% (x::xs).length=i;have hlt:i < (x::xs).length:=by rw[<-hi];exact Nat.mod_lt _ KJ
  have key:KS (Kc P w) A (match (x::xs)[i]? with|some y=>(do return y::(<-drawOrder n ((x::xs).eraseIdx i)))|none=>unsupported "internal:drawOrder") Q E {s with drawn:=s.drawn.bump .order}:=by
   rw[UM hlt];refine JY (Ey n _ _ _ (by rw[YV hlt];simp at e⊢;omega) λys d hp=>Kd (q _ d ?_));exact(hp.cons _).trans (xO hlt)
  exact key
def gW(h:LO)(it:J7)(f:JK)(i:Nat)(a:J7)(n ep:Nat):Prop:=∃o,h.get? it=some o/\o.cls= .type "set_iterator"/\o.data= .fields #[f,.int i 0,.ref a,.int n 0,.int ep 0]
theorem gW.typeIs{s:K9}(x:gW s.heap it f i a n ep):s.TypeIs (.ref it) "set_iterator":=let ⟨o,h,c,_⟩:=x;⟨o,h,c⟩
theorem Ez{Q:Option (JK×Nat)->K9->Prop}(hb:gU w=true)(o1:s.heap.get? a=some o)(d1:o.data= .set es ep t)(f1:t.fits es.size=true)
 (h:Q (((QA (w.params.setOrder a ep) es)[i]?).map λe=>(e.2,slot)) s):KS (Kc P w) A (Nx a slot i ep) Q E s:=by
 unfold Nx setWalk setsByText;refine JY (Q5 o1 d1 f1 (JY (JY (QS (Kd ?_)))));rw[KI (show(Kc P w).w.params.followText "set-order"=true from hb)];rw[JS KJ];refine JY (JY (Q5 o1 d1 f1 (JY (JY (QS (Kd ?_))))));rw[KI (show(Kc P w).w.params.followText "set-order"=true from hb)];exact JY (QS (Kd (Kd h)))
theorem ab5{it:J7}{slot slot' i:Nat}{x:JK}{Q:Option JK->K9->Prop}(hit:gW s.heap it (.int slot 0) i a es.size ep)(o1:s.heap.get? a=some o)(d1:o.data= .set es ep t)(f1:t.fits es.size=true)
 (nx:∀E' Q',Q' (some (x,slot')) s->KS (Kc P w) A.in1 (Nx a slot i ep) Q' E' s)
 (hQ:∀h',gW h' it (.int slot' 0) (i+1) a es.size ep->Wz it s.heap h'->Q (some x) {s with heap:=h'}):KS (Kc P w) A (MN (.ref it)) Q E s:=by
 obtain⟨u,u1,c1,e1⟩:=id hit;unfold MN;refine JY (QR (Nu (name:=T4 "__next__") hit.typeIs jP (N6 jP hit.typeIs uk ?_ (um _))));unfold Builtin.«set_iterator.__next__»;refine JY (m:=slotArgs _ _ _) (Kd (JY (RW u1 e1 ?_)));show KS _ _ (setEntries a >>=_) _ _ s;refine JY (Qg o1 d1 f1 ?_);rw[JS KJ];show KS _ _ (Nx a ((slot:Int)).toNat ((i:Int)).toNat ((ep:Int)).toNat >>=_) _ _ s;simp only[VD];refine JY (nx _ _ ?_);show KS _ _ (setField (.ref it) 0 (MR (slot':Int)) >>=_) _ _ s;refine JY (Om u1 e1 KJ ?_);have g1:=VA (TV (·.setIfInBounds 0 (MR (slot':Int)))) u1 (Xc (VZ e1 _));have k1:=VZ e1 (·.setIfInBounds 0 (MR (slot':Int)));refine JY (Om g1 k1 KJ (Kd ⟨x,rfl,Kd (hQ _ ?_ ((Vc ..).trans (Vc ..)))⟩));refine⟨_,VA _ g1 (Xc (VZ k1 _)),(Yl ..).trans ((Yl ..).trans c1),?_⟩;rw[VZ k1];simp[MR]
theorem acp{it pl:J7}{i k:Nat}{hk:Int}{x:JK}{ol:Obj}{ps:Array JK}{nl:Nat}{Q:Option JK->K9->Prop}(hit:gW s.heap it (.ref pl) i a es.size ep)(o1:s.heap.get? a=some o)(d1:o.data= .set es ep t)(f1:t.fits es.size=true)
 (l1:s.heap.get? pl=some ol)(l2:ol.data= .seq ps nl)(p1:ps[i]?=some (.int (k:Int) 0))(x1:es[k]?=some (hk,x))
 (hQ:∀h',gW h' it (.ref pl) (i+1) a es.size ep->Wz it s.heap h'->Q (some x) {s with heap:=h'}):KS (Kc P w) A (MN (.ref it)) Q E s:=by
 obtain⟨u,u1,c1,e1⟩:=id hit;unfold MN;refine JY (QR (Nu (name:=T4 "__next__") hit.typeIs jP (N6 jP hit.typeIs uk ?_ (um _))));unfold Builtin.«set_iterator.__next__»;refine JY (m:=slotArgs _ _ _) (Kd (JY (RW u1 e1 ?_)));show KS _ _ (setEntries a >>=_) _ _ s;refine JY (Qg o1 d1 f1 ?_);rw[JS KJ];show KS _ _ (Pn (.ref pl) >>=_) _ _ s;refine JY (PK l1 l2 ?_);simp only[VD,p1];refine JY ?_;unfold setNextDrawn;refine JY (Q5 o1 d1 f1 ?_);simp only[VD];rw[JS KJ,x1];refine Kd (JY (Om u1 e1 KJ (Kd ⟨x,rfl,Kd (hQ _ ?_ (Vc ..))⟩)));refine⟨_,VA _ u1 (Xc (VZ e1 _)),(Yl ..).trans c1,?_⟩;rw[VZ e1];simp[MR]
theorem rzT{it:J7}{slot i:Nat}{Q:Option JK->K9->Prop}(hh:A.handled=none)(hit:gW s.heap it (.int slot 0) i a es.size ep)(o1:s.heap.get? a=some o)(d1:o.data= .set es ep t)(f1:t.fits es.size=true)
 (nx:∀E' Q',Q' none s->KS (Kc P w) A.in1 (Nx a slot i ep) Q' E' s)
 (hQ:∀h',Zt it s.heap h'->Q none {s with heap:=h'}):KS (Kc P w) A (MN (.ref it)) Q E s:=by
 obtain⟨u,u1,c1,e1⟩:=id hit;unfold MN;refine JY (QR (Nu (name:=T4 "__next__") hit.typeIs jP (N6 jP hit.typeIs uk ?_ (um _))));unfold Builtin.«set_iterator.__next__»;refine JY (m:=slotArgs _ _ _) (Kd (JY (RW u1 e1 ?_)));show KS _ _ (setEntries a >>=_) _ _ s;refine JY (Qg o1 d1 f1 ?_);rw[JS KJ];show KS _ _ (Nx a ((slot:Int)).toNat ((i:Int)).toNat ((ep:Int)).toNat >>=_) _ _ s;simp only[VD];refine JY (nx _ _ ?_);show KS _ _ (setField (.ref it) 2 .none >>=_) _ _ s;refine JY (Om u1 e1 KJ ?_);refine JY (m:=newExc (.type "StopIteration") []) ?_;simp only[newExc,newTuple];refine JY (MG ?_ (by size_fits));refine JY (m:=QN _ _) (PQ (a:=Vy) (by first|rfl | (simp only[QN];rfl)) ?_);refine MG ?_ (by size_fits);simp only[raiseNew];refine JY (wpAny_handled ?_);rw[show A.in1.handled=none from hh];refine JY (Kd (wpAny_throw ?_));refine JY (RR (T:="StopIteration") (b:=true) ⟨_,UE _ rfl,rfl⟩ isSubtype_stop ?_);exact Kd (hQ _ (((Vc ..).extBut.push _).push _))
theorem Nz{Q:Option JK->K9->Prop}(hh:A.handled=none)(hit:gW s.heap it (.ref pl) i a es.size ep)(o1:s.heap.get? a=some o)(d1:o.data= .set es ep t)(f1:t.fits es.size=true)
 (l1:s.heap.get? pl=some ol)(l2:ol.data= .seq ps nl)(p1:ps[i]?=none)
 (hQ:∀h',Zt it s.heap h'->Q none {s with heap:=h'}):KS (Kc P w) A (MN (.ref it)) Q E s:=by
 obtain⟨u,u1,c1,e1⟩:=id hit;unfold MN;refine JY (QR (Nu (name:=T4 "__next__") hit.typeIs jP (N6 jP hit.typeIs uk ?_ (um _))));unfold Builtin.«set_iterator.__next__»;refine JY (m:=slotArgs _ _ _) (Kd (JY (RW u1 e1 ?_)));show KS _ _ (setEntries a >>=_) _ _ s;refine JY (Qg o1 d1 f1 ?_);rw[JS KJ];show KS _ _ (Pn (.ref pl) >>=_) _ _ s;refine JY (PK l1 l2 ?_);simp only[VD,p1];show KS _ _ (setField (.ref it) 0 (MR 0) >>=_) _ _ s;refine JY (Om u1 e1 KJ ?_);have g1:=VA (TV (·.setIfInBounds 0 (MR 0))) u1 (Xc (VZ e1 _));have k1:=VZ e1 (·.setIfInBounds 0 (MR 0));refine JY (Om g1 k1 KJ ?_);refine JY (m:=newExc (.type "StopIteration") []) ?_;simp only[newExc,newTuple];refine JY (MG ?_ (by size_fits));refine JY (m:=QN _ _) (PQ (a:=Vy) (by first|rfl | (simp only[QN];rfl)) ?_);refine MG ?_ (by size_fits);simp only[raiseNew];refine JY (wpAny_handled ?_);rw[show A.in1.handled=none from hh];refine JY (Kd (wpAny_throw ?_));refine JY (RR (T:="StopIteration") (b:=true) ⟨_,UE _ rfl,rfl⟩ isSubtype_stop ?_);exact Kd (hQ _ ((((Vc ..).trans (Vc ..)).extBut.push _).push _))
theorem EA:Slot "set_iterator" "__iter__" "set_iterator.__iter__":=
 .of (owner:="set_iterator") (n:="__iter__") (by rw[typeLookup_type,builtinLookup_eq_fast];kernel_rfl) Kg Kg Kg
  (by first|exact .inl Kg|exact .inr Kg) (by rw[isSubtype_type];kernel_rfl)
theorem NA:entryFor table "set_iterator.__iter__"=some Builtin.«dict_keyiterator.__iter__»:=entryFor_alias (id':="dict_keyiterator.__iter__") (by kernel_rfl) rfl Kg (by kernel_rfl)
theorem NB(a:JK):argsOk "set_iterator.__iter__" ⟨[a],[]⟩:=by
 unfold argsOk;rw[signature?_of (id:="set_iterator.__iter__") (n:=['_','_','r','e','t','i','_','_']) (o:=['r','o','t','a','r','e','t','i','_','t','e','s']) (by kernel_rfl) Eu];kernel_rfl
theorem gW.at{h h':LO}(x:gW h it f i a n ep)(e:∀o,h.get? it=some o->h'.get? it=some o):gW h' it f i a n ep:=let ⟨o,ho,r⟩:=x;⟨o,e _ ho,r⟩
theorem EB{Q:JK->K9->Prop}(hit:gW s.heap it f i a n ep)(h:Q (.ref it) s):KS (Kc P w) A (pyIter (.ref it)) Q E s:=by
 refine wpAny_pyIter_slot hit.typeIs EA (N6 EA hit.typeIs NA ?_ (NB _));exact JY (m:=slotArgs _ _ _) (Kd (Kd ⟨_,rfl,"set_iterator",_,hit.typeIs,jP.lookup,h⟩))
theorem EC(hh:A.handled=none)(it:J7)(hne:a≠it)(d1:o.data= .set es ep t)(f1:t.fits es.size=true)(vs:List JK)(hl:vs.length=es.size)(sl:Nat->Nat)
 (nx:∀(s:K9) (i:Nat) (h:i < vs.length) E' Q',s.heap.get? a=some o->Q' (some (vs[i],sl (i+1))) s->KS (Kc P w) A.in1 (Nx a (sl i) i ep) Q' E' s)
 (nd:∀(s:K9) E' Q',s.heap.get? a=some o->Q' none s->KS (Kc P w) A.in1 (Nx a (sl es.size) es.size ep) Q' E' s):
 Walks P w A it [it,a] [it] es.size (λi v=>vs[i]?=some v) (λi h=>gW h it (.int (sl i:Nat) 0) i a es.size ep/\h.get? a=some o) where
 sub:=λb hb=>by rw[Ur]at hb;simp[hb]
 frame:=λ_ _ _ st hk=>⟨st.1.at λo e=>hk it KJ o e,hk a KJ o st.2⟩
 item:=λi s Q E hi st hQ=>by
  have hi':i < vs.length:=J1
  refine ab5 st.1 st.2 d1 f1 (λE' Q' q=>nx s i hi' E' Q' st.2 q) λh' it' sb=>?_;exact hQ _ h' s.toks (by simp[hi']) ⟨it',by rw[sb.2 a hne];exact st.2⟩ λb u hb e=>sb.extBut b u (λz=>hb (by simp[z])) e
 done:=λs Q E st hQ=>rzT hh st.1 st.2 d1 f1 (λE' Q' q=>nd s E' Q' st.2 q) λh' he=>hQ h' s.toks λb u hb e=>he b u (λz=>hb (by simp[z])) e
 self:=λ_ _ _ _ st hQ=>EB st.1 hQ
theorem abB(hh:A.handled=none)(it pl:J7)(hne:a≠it)(hnp:pl≠it)(d1:o.data= .set es ep t)(f1:t.fits es.size=true)(vs:List JK)(ks:List Nat){ol:Obj}(l2:ol.data= .seq (ks.map λ(k:Nat)=>Ww (k:Int) 0).toArray nl)
 (hl:ks.length=es.size)(hv:∀i k:Nat,ks[i]?=some k->∃h x,es[k]?=some (h,x)/\vs[i]?=some x):
 Walks P w A it [it,a,pl] [it] es.size (λi v=>vs[i]?=some v) (λi h=>gW h it (.ref pl) i a es.size ep/\h.get? a=some o/\h.get? pl=some ol) where
 sub:=λb hb=>by rw[Ur]at hb;simp[hb]
 frame:=λ_ _ _ st hk=>⟨st.1.at λo e=>hk it KJ o e,hk a KJ o st.2.1,hk pl KJ ol st.2.2⟩
 item:=λi s Q E hi st hQ=>by
  have hi':i < ks.length:=J1
  obtain⟨h,x,e1,e2⟩:=hv i ks[i] (by simp[hi']);refine acp st.1 st.2.1 d1 f1 st.2.2 l2 (k:=ks[i]) (by simp[hi']) e1 λh' it' sb=>?_;exact hQ _ h' s.toks e2 ⟨it',by rw[sb.2 a hne];exact st.2.1,by rw[sb.2 pl hnp];exact st.2.2⟩ λb u hb e=>sb.extBut b u (λz=>hb (by simp[z])) e
 done:=λs Q E st hQ=>Nz hh st.1 st.2.1 d1 f1 st.2.2 l2 (by simp[hl]) λh' he=>hQ h' s.toks λb u hb e=>he b u (λz=>hb (by simp[z])) e
 self:=λ_ _ _ _ st hQ=>EB st.1 hQ
theorem ND{Q:Bool->K9->Prop}(hT:s.TypeIs (.ref a) "set")(h:Q false s):KS (Kc P w) A (YO (.ref a)) Q E s:=by
 unfold YO;refine JY (wpAny_specialOf hT PySem.F.slot_set_len.lookup ?_);generalize hid:("set.__len__":String)=id0
 wp_delta
 rw[show splitId id0=some ("set","__len__") from by subst hid;decide+kernel];subst hid;refine JY (RR (T:="set") (b:=true) hT (by rw[isSubtype_type];kernel_rfl) ?_);refine RV (λz=>absurd z KL) (λ_=>?_);refine RV (λ_=>?_) (λz=>absurd Kg z);exact JY (QG hT (Kd h))
theorem ag.drw(I:ag X acT U H s):ag X acT U H {s with drawn:=d}:=⟨I.ok,I.os,I.bare,I.base,I.loc,I.cell,I.free,I.freeC,I.pin,I.hok,I.len⟩
theorem NF:M9 "set"=some (.type "set"):=Kg
def mH(i:Nat)(t:DA):DS:=λE Y=>∃ds,Y[i]?=some (some (.o ds))/\t Y λes=>ds.length+es.length<=LB/\E.nx (Y.set i (some (.o (ds++es))))
theorem uo{apos cpos pos:Pos}(ho:PE X o (dR i))(he:FE X H0 O0 e t)(hbase:Nn o "extend" X.env (eval o X.env)=eval o X.env:=by rfl)
 (hfew:((LR cpos (Ke [e] X.env)).all (λx=>!x.1) && (NP cpos (Nb [] X.env)).all (λx=>x.1.isSome) && decide ([e].length+([]:List Nf).length+(if ([]:List Nf).isEmpty then 0 else 1) < 30))=true:=by rfl)
 (hline:(apos.endLine==cpos.line)=true:=by rfl)(hst:Ke [e] X.env=(false,eval e X.env)::Ke [] X.env:=by rfl)(hplain:(LR cpos (Ke [] X.env)).any (·.1)=false:=by rfl)
 (hs:M3 (.Call (.Attribute o "extend" apos) [e] [] cpos) none pos.line X.env=pure false:=by rfl):PS X (.Expr (.Call (.Attribute o "extend" apos) [e] [] cpos) pos) (bw X.K H0 O0 (mH i t)):=
 (tj (wG Yj Ye Zb Lc ho (bJ he cA hst) hbase hfew hline hst hplain) hs).imp λD U H uu=>by
  obtain⟨O,Y,E,w,⟨ds,e,q⟩,k1,k2,k3,k4⟩:=uu;obtain⟨l,vs,h,a,b,c,r⟩:=w.own e;refine⟨_,h,.inl ⟨rfl,_,bA.of c⟩,O,Y,_,w,q,λes ws p H1 q1 s1 hp r1=>?_⟩;have hl:H1 l=some (.lst vs):=s1 _ _ c;have np:l≠p:=λz=>by rw[z,hp]at hl;cases hl
  have S2:au H1 (ah H1 p (.lst ws)):=au.new hp;refine⟨l,p,vs,ws,rfl,rfl,by rw[aD np];exact hl,bF,by rw[r.length,r1.length];exact q1.1,?_⟩;exact k1 _ _ _ _ q1.2 (((w.mono s1).mono S2).putO (vs:=vs) e h (((r.mono s1).mono S2).append (r1.mono S2))) ⟨λb' o' z n=>by rw[aD (λy=>n (by rw[y];exact a))];exact S2 _ _ (s1 _ _ z),λ_ _ n=>n⟩
theorem xP:∀{ns:List Int}{us:List JK},aL (ns.map V.int) us->Lx us ns
 | [],_,r=>by rw[U9]at r;cases r;exact .nil
 |n::ns,_,r=>by
  rw[T9]at r;cases r with
  |cons r1 r2=>obtain⟨t,rfl⟩:=r1;exact .cons n t (xP r2)
theorem aj.intsL:∀{ns:List Int}{vs:List V},aj Z H O vs (ns.map Uy)->vs=ns.map V.int
 | [],_,r=>by rw[U9]at r;cases r;rfl
 |b::bs,_,r=>by
  rw[T9]at r;cases r with
  |cons h r=>cases h;rw[T9,aj.intsL r]
theorem Wd.frzK(w:Wd Z H0 O0 H O U Y)(e:Y[i]?=some (some y0))(ho:y0.own)(h:U[i]?=some (some (.ref l)))(u:HO):
 ∃O',Wd Z H0 O0 (ah H l u) O' U (Y.set i none)/\aJ H (ah H l u) O O'/\¬O' l:=by
 obtain⟨l',x1,a,b⟩:=w.adr e ho;rw[h]at x1;cases x1;have l0:H0 l=none:=(w.new l a).resolve_left b;have S:aJ H (ah H l u) O (λx=>O x/\x≠l):=⟨λc q z n=>by rw[aD (λy=>n (by rw[y];exact a))];exact z,λ_ _ n z=>n z.1⟩;have li:i < Y.length:=(Uj.mp e).1;have ne:∀{j:Nat}{y:Sl},(Y.set i none)[j]?=some (some y)->j≠i:=λ{j y} q z=>by
  subst z;rw[UK li]at q;cases q
 refine⟨_,⟨λc q z=>?_,λx z=>⟨w.sub x z,λy=>b (by rw[<-y];exact z)⟩,λx z=>w.new x z.1,λx z=>by rw[aD z.2];exact w.trk x z.1,by simp[w.len],λj y q=>?_,λj k y z l' e1 y1 e2 z2 e3 e4=>?_⟩,S,λz=>z.2 rfl⟩
 ·have:c≠l:=λy=>by rw[y,l0]at z;cases z
  rw[aD this];exact w.same c q z
 ·by_cases hj:j=i
  ·subst hj;rw[UK li]at q;cases q;exact VY
  ·rw[Us (Ne.symm hj)]at q;refine(w.sl j y q).go S (λb o ho' e' a1 a2 a3=>?_) (λb o u a1 a2 a3=>by have nb:b≠l:=λz=>w.nofrz e ho h o u (by rw[<-z];exact a3);exact⟨⟨a1,nb⟩,by rw[aD nb];exact a3⟩) λc o a1 a3=>by rw[aD (λz=>b (by rw[<-z];exact a1))];exact a3
   have nb:b≠l:=λz=>by
    subst z
    match y,ho',q with
    |some z,ho',q=>exact hj (w.dis j i z y0 _ q (by cases z<;>first|trivial|cases ho') e ho (gc e') h)
   exact⟨⟨a1,nb⟩,by rw[aD nb];exact a3⟩
 ·have n1:=ne e1;have n2:=ne e2;rw[Us (Ne.symm n1)]at e1;rw[Us (Ne.symm n2)]at e2;exact w.dis j k _ _ l' e1 y1 e2 z2 e3 e4
theorem pz(hc:X.calm=true)(S:bu X.env.scope X.N N' k fr scope)(hi:DF X H0 O0 iter t)(gd:GD X.K g dg)(hk:ko g k)(hfr:fr.Nodup)
 (hg:∀fp C s H,PG (bS X scope N' fp C s H) tg g)(hf:∀fp C s H,fY (bS X scope N' fp C s H) ifs (b5 X.K H0 O0 tc))(he:∀fp C s H,PE (bS X scope N' fp C s H) elt (up X.K H0 O0 te))
 (hs:∀x,Me iter X.env x=pure x:=by intro _;rfl):PU X (.ListComp elt [⟨tg,iter,ifs,0⟩] scope pos) (nP X.K H0 O0 (jM t dg tc te k fr)):=
 (xC hc S (wg hi) hg hf he hs).imp λU H Q uu=>by obtain⟨O,Y,Qd,w,q,kk⟩:=uu;exact⟨O,Y,_,w,q,λd v H1 uu s1 r1=>by
  obtain⟨xs,e,hz,q1⟩:=uu;subst e;obtain⟨a,vs,rfl,hq,rr⟩:=r1.tup;refine⟨a,rfl,⟨_,hq⟩,λD hD=>qo (dX.tup hq) gd hfr (λv _ H' R h=>hk fr U v H' R h) (λ_ _ _ z=>z) (λ_ _ _ z=>z) (λD H' hD s' o e=>s' _ _ e (fC e hD)) rr (w.mono s1) (by rw[rr.length];exact hz) q1 (λds us p H' z s' hp r'=>kk ds us p H' z (s1.trans s') hp r') D hD⟩⟩
structure qv (n:Nat) (lt:Nat->Nat->Bool) (I:K9->Prop) (cmp:Nat->Nat->(Bool->K9->Prop)->K9->Prop):Prop where
 as:∀i j C s,i < n->j < n->i≠j->I s->(∀s',I s'->C (lt i j) s')->cmp i j C s
structure jQ (n:Nat) (lt:Nat->Nat->Bool):Prop where
 tot:∀i j,i < n->j < n->i≠j->lt i j=!lt j i
 tr:∀i j k,i < n->j < n->k < n->lt i j=true->lt j k=true->lt i k=true
structure cg (n:Nat) (p:Array Nat):Prop where
 perm:p.toList.Perm (Vo n)
theorem cg.size(h:cg n p):p.size=n:=by rw[<-UH,h.perm.length_eq,XJ]
theorem cg.lt(h:cg n p)(hk:k < n):p.getD k 0 < n:=by
 have hs:=h.size;have e:p.getD k 0=p[k]'J1:=by simp[Xl,show k < p.size by omega]
 rw[e];have:=h.perm.mem_iff.mp (ZF.mpr (Array.getElem_mem (show k < p.size by omega)));simpa using this
theorem cg.ne(h:cg n p)(hi:i < n)(hj:j < n)(hij:i≠j):p.getD i 0≠p.getD j 0:=by
 have hs:=h.size;have nd:p.toList.Nodup:=h.perm.nodup_iff.mpr List.nodup_range;have ei:p.getD i 0=p.toList[i]'(by simp;omega):=by simp[Xl,show i < p.size by omega]
 have ej:p.getD j 0=p.toList[j]'(by simp;omega):=by simp[Xl,show j < p.size by omega]
 rw[ei,ej];intro e;exact hij ((Ys nd).mp e)
theorem cg.bubble(h:cg n p)(a d:Nat):cg n (YH p a d):=⟨(YW.mp (bubble_perm p a d)).trans h.perm⟩
theorem cg.rev(h:cg n p)(i j:Nat):cg n (kas_rev p i j):=⟨(YW.mp (mirror_perm p i j _)).trans h.perm⟩
theorem xQ(n:Nat):cg n (Z1 (Vo n)):=⟨KJ⟩
def Up(lt:Nat->Nat->Bool)(p:Array Nat)(k:Nat):Prop:=∀i j,i < j->j < k->lt (p.getD i 0) (p.getD j 0)=true
theorem Up.snoc(T:jQ n lt)(hp:cg n p)(hk:k < n)(h:Up lt p k)(h0:0 < k)(hl:lt (p.getD (k - 1) 0) (p.getD k 0)=true):Up lt p (k+1):=by
 intro i j hij hj;rcases WA j k with z|z
 ·exact h i j hij z
 ·have:j=k:=J1
  subst this;rcases WA i (j - 1) with w|w
  ·exact T.tr _ _ _ (hp.lt J1) (hp.lt J1) (hp.lt hk) (h i (j - 1) w J1) hl
  ·have:i=j - 1:=J1
   subst this;exact hl
theorem xR(A:qv n lt I cmp)(T:jQ n lt)(hp:cg n p){Q:Nat->K9->Prop}:∀(f m:Nat)(s:K9),1<=m->m+f=n->Up lt p m->I s->
 (∀k s',I s'->m<=k->k<=n->Up lt p k->(k < n->lt (p.getD k 0) (p.getD (k - 1) 0)=true)->Q k s')->(kas_asc p f m).kasWp cmp Q s
 |0,m,s,h1,hf,hu,hI,q=>q m s hI (T8 _) J1 hu (λz=>by omega)
 |f+1,m,s,h1,hf,hu,hI,q=>by
  have hm:m < n:=J1
  refine A.as _ _ _ s (hp.lt hm) (hp.lt J1) (hp.ne hm J1 J1) hI λs' hI'=>?_;cases hc:lt (p.getD m 0) (p.getD (m - 1) 0) with
  |true=>
   dsimp only;rw[KI rfl];exact q m s' hI' (T8 _) J1 hu (λ_=>hc)
  |false=>
   dsimp only;rw[JS KJ];have hl:lt (p.getD (m - 1) 0) (p.getD m 0)=true:=by rw[T.tot _ _ (hp.lt J1) (hp.lt hm) (hp.ne J1 hm J1),hc];rfl
   exact xR A T hp f (m+1) s' J1 J1 (hu.snoc T hp hm J1 hl) hI' λk s2 a b c d e=>q k s2 a J1 c d e
def Dn(lt:Nat->Nat->Bool)(p:Array Nat)(k:Nat):Prop:=∀i j,i < j->j < k->lt (p.getD j 0) (p.getD i 0)=true
theorem Dn.snoc(T:jQ n lt)(hp:cg n p)(hk:k < n)(h:Dn lt p k)(h0:0 < k)(hl:lt (p.getD k 0) (p.getD (k - 1) 0)=true):Dn lt p (k+1):=by
 intro i j hij hj;rcases WA j k with z|z
 ·exact h i j hij z
 ·have:j=k:=J1
  subst this;rcases WA i (j - 1) with w|w
  ·exact T.tr _ _ _ (hp.lt hk) (hp.lt J1) (hp.lt J1) hl (h i (j - 1) w J1)
  ·have:i=j - 1:=J1
   subst this;exact hl
theorem ED(A:qv n lt I cmp)(T:jQ n lt)(hp:cg n p){Q:Array Nat×Nat×Nat->K9->Prop}:∀(f m:Nat)(s:K9),1<=m->m+f=n->Dn lt p m->I s->
 (∀k s',I s'->m<=k->k<=n->Dn lt p k->Q (p,k,0) s')->(kas_desc f p m 0).kasWp cmp Q s
 |0,m,s,h1,hf,hu,hI,q=>q m s hI (T8 _) J1 hu
 |f+1,m,s,h1,hf,hu,hI,q=>by
  have hm:m < n:=J1
  refine A.as _ _ _ s (hp.lt hm) (hp.lt J1) (hp.ne hm J1 J1) hI λs' hI'=>?_;cases hc:lt (p.getD m 0) (p.getD (m - 1) 0) with
  |true=>
   dsimp only;rw[KI rfl,JS KJ];exact ED A T hp f (m+1) s' J1 J1 (hu.snoc T hp hm J1 hc) hI' λk s2 a b c d=>q k s2 a J1 c d
  |false=>
   dsimp only;rw[JS KJ];refine A.as _ _ _ s' (hp.lt J1) (hp.lt hm) (hp.ne J1 hm J1) hI' λs2 hI2=>?_;have hl:lt (p.getD (m - 1) 0) (p.getD m 0)=true:=by rw[T.tot _ _ (hp.lt J1) (hp.lt hm) (hp.ne J1 hm J1),hc];rfl
   rw[hl];dsimp only;rw[KI rfl];exact q m s2 hI2 (T8 _) J1 hu
theorem EF{p:Array Nat}(hj:j<=p.size):(kas_rev p 0 j).getD k 0=if k < j then p.getD (j - 1 - k) 0 else p.getD k 0:=by
 have:=getElem?_mirror_all (xs:=p) (i:=0) (j:=j) hj k;unfold kas_rev;rw[VO,this];by_cases h:k < j
 ·simp[h,VO]
 ·simp[h,VO]
theorem Dn.rev(hp:cg n p)(hk:k<=n)(h:Dn lt p k):Up lt (kas_rev p 0 k) k:=by
 intro i j hij hj;have hs:=hp.size;rw[EF J1,EF J1,KI J1,KI hj];exact h _ _ J1 J1
theorem NG(A:qv n lt I cmp)(T:jQ n lt)(h2:2<=n)(hp:cg n p){Q:Nat×Array Nat->K9->Prop}(hI:I s)
 (q:∀k p' s',I s'->1<=k->k<=n->cg n p'->Up lt p' k->Q (k,p') s'):(kas_count n p).kasWp cmp Q s:=by
 unfold kas_count;rw[X6];refine xR A T hp (n - 1) 1 s (T8 _) J1 (λi j a b=>by omega) hI λm s1 hI1 m1 m2 hu hs=>?_;by_cases hm:m=n
 ·subst hm;rw[KI KJ];exact q m p s1 hI1 m1 (T8 _) hp hu
 ·rw[JS (by simpa using hm)];by_cases hm1:m > 1
  ·rw[KI hm1];refine A.as _ _ _ s1 (hp.lt J1) (hp.lt J1) (hp.ne J1 J1 J1) hI1 λs2 hI2=>?_;rw[hu 0 (m - 1) J1 J1];dsimp only;rw[KI rfl];exact q m p s2 hI2 m1 J1 hp hu
  ·rw[JS hm1];have:m=1:=J1
   subst this;have h10:=hs J1;unfold kas_descPart;rw[X6];refine ED A T hp (n - (1+1)) (1+1) s1 J1 J1 (λi j a b=>?_) hI1 λk s2 hI2 k1 k2 hd=>?_
   ·have:i=0:=J1
    have:j=1:=J1
    subst_vars
    exact h10
   ·rw[JS KJ];unfold kas_tail3;rw[X6];have hp':=hp.rev 0 k;refine xR A T hp' (n - k) k s2 J1 J1 (hd.rev hp k2) hI2 λm s3 hI3 a b c d=>?_;exact q m _ s3 hI3 J1 b hp' c
theorem xS(A:qv n lt I cmp)(T:jQ n lt)(hp:cg n p)(hk:k < n)(hu:Up lt p k){Q:Nat->K9->Prop}:∀(f l r:Nat)(s:K9),r - l<=f->l<=r->r<=k->I s->
 (∀i,i < l->lt (p.getD i 0) (p.getD k 0)=true)->(∀i,r<=i->i < k->lt (p.getD k 0) (p.getD i 0)=true)->
 (∀l s',I s'->l<=k->(∀i,i < l->lt (p.getD i 0) (p.getD k 0)=true)->(∀i,l<=i->i < k->lt (p.getD k 0) (p.getD i 0)=true)->Q l s')->(kas_place p k f l r).kasWp cmp Q s
 |0,l,r,s,hf,hlr,hrk,hI,h1,h2,q=>q l s hI J1 h1 (λi a b=>h2 i J1 b)
 |f+1,l,r,s,hf,hlr,hrk,hI,h1,h2,q=>by
  unfold kas_place;by_cases hge:l >= r
  ·rw[KI hge];exact q l s hI J1 h1 (λi a b=>h2 i J1 b)
  ·rw[JS hge];have hm:(l+r)/ 2 < k:=J1
   refine A.as _ _ _ s (hp.lt hk) (hp.lt J1) (hp.ne hk J1 J1) hI λs' hI'=>?_;cases hc:lt (p.getD k 0) (p.getD ((l+r)/ 2) 0) with
   |true=>
    dsimp only;rw[KI rfl];refine xS A T hp hk hu f l ((l+r)/ 2) s' J1 J1 J1 hI' h1 (λi a b=>?_) q;rcases WA ((l+r)/ 2) i with z|z
    ·exact T.tr _ _ _ (hp.lt hk) (hp.lt J1) (hp.lt J1) hc (hu _ _ z b)
    ·have:i=(l+r)/ 2:=J1
     rw[this];exact hc
   |false=>
    dsimp only;rw[JS KJ];have hl:lt (p.getD ((l+r)/ 2) 0) (p.getD k 0)=true:=by rw[T.tot _ _ (hp.lt J1) (hp.lt hk) (hp.ne J1 hk J1),hc];rfl
    refine xS A T hp hk hu f ((l+r)/ 2+1) r s' J1 J1 hrk hI' (λi a=>?_) h2 q;rcases WA i ((l+r)/ 2) with z|z
    ·exact T.tr _ _ _ (hp.lt J1) (hp.lt J1) (hp.lt hk) (hu _ _ z hm) hl
    ·have:i=(l+r)/ 2:=J1
     rw[this];exact hl
theorem EG{p:Array Nat}(hk:k < p.size)(hd:d<=k):(YH p k d).getD i 0=if i=k - d then p.getD k 0 else if k - d < i/\i<=k then p.getD (i - 1) 0 else p.getD i 0:=by
 rw[VO,getElem?_bubble hk d hd i];by_cases h1:i=k - d
 ·rw[KI h1,KI h1,VO]
 ·rw[JS h1,JS h1];by_cases h2:k - d < i/\i<=k
  ·rw[KI h2,KI h2,VO]
  ·rw[JS h2,JS h2,VO]
theorem Up.ins(T:jQ n lt)(hp:cg n p)(hk:k < n)(hu:Up lt p k)(hl:l<=k)(h1:∀i,i < l->lt (p.getD i 0) (p.getD k 0)=true)(h2:∀i,l<=i->i < k->lt (p.getD k 0) (p.getD i 0)=true):Up lt (YH p k (k - l)) (k+1):=by
 have hs:=hp.size;intro i j hij hj;rw[EG J1 J1,EG J1 J1];have e:k - (k - l)=l:=J1
 rw[e];clear hs e hk;by_cases hi:i=l
 ·rw[KI hi,JS J1,KI J1];exact h2 _ J1 J1
 ·rw[JS hi];by_cases hi2:l < i/\i<=k
  ·rw[KI hi2,JS J1,KI J1];exact hu _ _ J1 J1
  ·rw[JS hi2];by_cases hj1:j=l
   ·rw[KI hj1];exact h1 _ J1
   ·rw[JS hj1];by_cases hj2:l < j/\j<=k
    ·rw[KI hj2];exact hu _ _ J1 J1
    ·rw[JS hj2];exact hu _ _ hij J1
theorem EH(A:qv n lt I cmp)(T:jQ n lt){Q:Array Nat->K9->Prop}:∀(f:Nat)(p:Array Nat)(k:Nat)(s:K9),k+f=n->cg n p->Up lt p k->I s->(∀p' s',I s'->cg n p'->Up lt p' n->Q p' s')->(kas_bin f p k).kasWp cmp Q s
 |0,p,k,s,hf,hp,hu,hI,q=>q p s hI hp (by rw[show n=k by omega];exact hu)
 |f+1,p,k,s,hf,hp,hu,hI,q=>by
  unfold kas_bin;rw[X6];have hk:k < n:=J1
  refine xS A T hp hk hu k 0 k s J1 J1 (T8 _) hI (λi z=>by omega) (λi a b=>by omega) λl s' hI' hl h1 h2=>?_;exact EH A T f _ (k+1) s' J1 (hp.bubble _ _) (hu.ins T hp hk hl h1 h2) hI' q
theorem NH(A:qv n lt I cmp)(T:jQ n lt)(h2:2<=n){Q:Array Nat->K9->Prop}(hI:I s)(q:∀p s',I s'->cg n p->Up lt p n->Q p s'):(kas_sort n).kasWp cmp Q s:=by
 unfold kas_sort;rw[X6];refine NG A T h2 (xQ n) hI λk p s1 hI1 k1 k2 hp hu=>?_;dsimp only;by_cases hk:k < n
 ·rw[KI hk,show max k 1=k by omega];exact EH A T (n - k) p k s1 J1 hp hu hI1 q
 ·rw[JS hk];exact q p s1 hI1 hp (by rw[show n=k by omega];exact hu)
def aZ(p q:Int×Str):Bool:=decide (p.1 < q.1) || (decide (p.1=q.1) && decide (p.2.cps.toList < q.2.cps.toList))
def jm(h:LO)(v:JK)(p:Int×Str):Prop:=∃a o n t u,v= .ref a/\h.get? a=some o/\o.cls= .type "tuple"/\o.data= .seq #[.int p.1 t,.str p.2 u] n
theorem NI{Q:Bool->K9->Prop}(hv:jm s.heap v p)(hu:jm s.heap u q)(h:Q (aZ p q) s):KS (Kc P w) A (keyLt' (tuples' true) v u) Q E s:=by
 obtain⟨a,oa,na,t1,t2,rfl,ha,_,da⟩:=hv;obtain⟨b,ob,nb,t3,t4,rfl,hb,_,db⟩:=hu;refine kat_lt ha da hb db (kat_cons ((O8 P w).eqBool (intKind_is _ _ _ _) (intKind_is _ _ _ _) (kat_go (λe1=>?_) λe1=>?_)))
 ·have e1:p.1=q.1:=by simpa using e1
  refine kat_yes (kat_cons ((PySem.strKind P w).eqBool (strKind_is _ _ _ _) (strKind_is _ _ _ _) (kat_go (λe2=>?_) λe2=>?_)))
  ·have e2:p.2=q.2:=by simpa using e2
   refine kat_yes (kat_nil ?_);have:aZ p q=false:=by unfold aZ;rw[e1,e2];simp
   rw[this]at h;simpa using h
  ·have e2:p.2≠q.2:=by simpa using e2
   refine kat_no (kat_one _ _ ?_);have:aZ p q=decide (p.2.cps.toList < q.2.cps.toList):=by unfold aZ;simp[e1]
   rw[this]at h;exact lt_str h
 ·have e1:p.1≠q.1:=by simpa using e1
  refine kat_no ?_;show KS _ _ (oneLt' true _ _) _ _ _;refine oneLt_int ?_;have:aZ p q=decide (p.1 < q.1):=by unfold aZ;simp[e1]
  rw[this]at h;exact h
theorem EI{kp:Nat->Int×Str}(hd:∀i j,i < n->j < n->kp i=kp j->i=j):jQ n λi j=>aZ (kp i) (kp j):=by
 have tl:∀a b:Str,a≠b->(decide (a.cps.toList < b.cps.toList))=!decide (b.cps.toList < a.cps.toList):=λa b h=>by
  by_cases z:a.cps.toList < b.cps.toList
  ·rw[decide_eq_true z,decide_eq_false (List.lt_asymm z)];rfl
  ·have z2:b.cps.toList<=a.cps.toList:=Rz.mp z;have:b.cps.toList < a.cps.toList:=by
    rcases Classical.em (b.cps.toList < a.cps.toList) with y|y
    ·exact y
    ·exact absurd (Eb (Su (Rz.mp y) z2)) h
   rw[decide_eq_false z,decide_eq_true this];rfl
 refine⟨λi j hi hj hij=>?_,λi j k hi hj hk h1 h2=>?_⟩
 ·have hne:kp i≠kp j:=λe=>hij (hd i j hi hj e);unfold aZ;by_cases e:(kp i).1=(kp j).1
  ·have e2:(kp i).2≠(kp j).2:=λz=>hne (Prod.ext e z);simp only[e,Int.lt_irrefl,decide_false,Wq,decide_true,VV];exact tl _ _ e2
  ·have e':(kp j).1≠(kp i).1:=λz=>e z.symm;simp only[e,e',decide_false,WZ,Wo];by_cases z:(kp i).1 < (kp j).1
   ·rw[decide_eq_true z,decide_eq_false J1];rfl
   ·rw[decide_eq_false z,decide_eq_true J1];rfl
 ·unfold aZ at h1 h2⊢;simp only[XC,U0,decide_eq_true_eq]at h1 h2⊢;rcases h1 with h1|⟨h1,h1'⟩<;>rcases h2 with h2|⟨h2,h2'⟩
  ·left;omega
  ·left;omega
  ·left;omega
  ·right;exact⟨h1.trans h2,Sn h1' h2'⟩
theorem EJ{ks:List JK}{kp:Nat->Int×Str}(hk:∀i v,ks[i]?=some v->jm s.heap v (kp i))(h2:2<=ks.length){Q:SortKind->K9->Prop}(h:Q (tuples' true) s):KS (Kc P w) A (keyKind' ks.toArray) Q E s:=by
 have key:∀(ks:List JK)(kp:Nat->Int×Str),(∀i v,ks[i]?=some v->jm s.heap v (kp i))->∃fs:List JK,KatTups s.heap ks fs/\fs.length=ks.length/\∀v∈fs,∃n t,v=Ww n t:=by
  intro ks
  induction ks with
  |nil=>intro kp _;exact⟨[],KatTups.nil,rfl,KJ⟩
  |cons v ks ih=>
   intro kp hk;obtain⟨fs,a,b,c⟩:=ih (λi=>kp (i+1)) λi v e=>hk (i+1) v (by simpa using e);obtain⟨ad,o,n,t,u,rfl,h1,h2,h3⟩:=hk 0 v rfl;refine⟨.int (kp 0).1 t::fs,KatTups.cons h1 h2 h3 rfl a,by simp[b],λx hx=>?_⟩;rcases Ud.mp hx with rfl|hx
   ·exact⟨_,_,rfl⟩
   ·exact c x hx
 obtain⟨fs,a,b,c⟩:=key ks kp hk;refine kat_kind (T:= .type "int") a J1 (λv hv=>?_) KL h;obtain⟨n,t,rfl⟩:=c v hv;exact .now
theorem EK{ks:List JK}{kp:Nat->Int×Str}(hn:ks.length=n)(h2:2<=n)(hk:∀i v,ks[i]?=some v->jm s.heap v (kp i))(hd:∀i j,i < n->j < n->kp i=kp j->i=j){G:Array Nat->K9->Prop}
 (q:∀p,cg n p->Up (λi j=>aZ (kp i) (kp j)) p n->G p s):(kas_sort n).kasWp (kas_ask P w A (tuples' true) ks) G s:=by
 refine NH (lt:=λi j=>aZ (kp i) (kp j)) (I:=λs'=>s'=s) ⟨λi j C s' hi hj hij e c=>?_⟩ (EI hd) h2 rfl λp s' e hp hu=>by subst e;exact q p hp hu
 subst e;have ei:ks[i]?=some (ks.getD i .none):=by simp[show i < ks.length by omega]
 have ej:ks[j]?=some (ks.getD j .none):=by simp[show j < ks.length by omega]
 exact NI (hk i _ ei) (hk j _ ej) (c _ rfl)
def EL(kS D:J7)(s:K9)(out:List JK)(C:K9->Prop):Prop:=∀h' c,h'.get? D=some (LW "list" out.toArray c)->(∀b u,b≠kS->b≠D->s.heap.get? b=some u->h'.get? b=some u)->C {s with heap:=h'}
theorem EM{st:SortSt}{kS D:J7}{ks out:List JK}{e e1:Nat}{C:Z2->K9->Prop}(hk:s.heap.get? kS=some (LW "list" ks.toArray e))(hD:s.heap.get? D=some (LW "list" #[] e1))(hne:kS≠D)(hf:failedOf st=none)
 (ho:(arrOf st).map (·.2)=out.toArray)(h64:out.length < 64)(hk64:ks.length < 64)(q:EL kS D s out (C (.done (.ret .none)))):KS (Kc P w) A (ksk_tail D false e1 (.ref kS) st) C E s:=by
 have hsl:LB=16777216:=My;unfold ksk_tail;rw[ho];refine JY (QK hk rfl (JY (QU ?_)) (by rw[Uu];omega) (UY _));have u1:=Vc s.heap kS (Vu λ_=>(#[]:Array JK));have hD1:(s.heap.update kS (Vu λ_=>(#[]:Array JK))).get? D=some (LW "list" #[] e1):=(u1.2 D (Ne.symm hne)).trans hD;refine JY (seqEpoch_at (s:={s with heap:=s.heap.update kS (Vu λ_=>(#[]:Array JK))}) hD1 rfl ?_);rw[JS KJ];refine JY (QK (s:={s with heap:=s.heap.update kS (Vu λ_=>(#[]:Array JK))}) hD1 rfl ?_ (UY _) (by show out.toArray.size<=_;rw[Uu];omega));have u2:=Vc (s.heap.update kS (Vu λ_=>(#[]:Array JK))) D (Vu λ_=>out.toArray);rw[hf];simp only[bne_self_eq_false,Vl,if_false];exact Kd (q _ _ (QY hD1 λ_=>out.toArray) λb u n1 n2 z=>(u2.2 b n2).trans ((u1.2 b n1).trans z))
theorem NJ{vs ks:List JK}{kp:Nat->Int×Str}{C:Z2->K9->Prop}(hv:vs.length=n)(hn:ks.length=n)(h64:n < 64)(hks:s.heap.get? kS=some (LW "list" ks.toArray e))(hD:s.heap.get? D=some (LW "list" #[] e1))(hne:kS≠D)
 (hk:∀i v,ks[i]?=some v->jm s.heap v (kp i))(hd:∀i j,i < n->j < n->kp i=kp j->i=j)
 (q:∀p,cg n p->Up (λi j=>aZ (kp i) (kp j)) p n->EL kS D s (p.toList.map λi=>vs.getD i .none) (C (.done (.ret .none)))):KS (Kc P w) A (ksk_end D false vs.toArray e1 (.ref kS) ks.toArray) C E s:=by
 unfold ksk_end;have hz:vs.toArray.size=n:=by rw[Uu];exact hv
 by_cases h2:n < 2
 ·simp only[Vl,if_false,hz,h2,if_true];refine JY (Kd (JY (Kd ?_)));refine EM hks hD hne rfl (out:=vs) ?_ J1 J1 ?_
  ·show(ks.toArray.zip vs.toArray).map (·.2)=vs.toArray;apply XT.mp;simp only[Xp,pE];rw[pf J1]
  ·have:=q _ (xQ n) (λi j a b=>by omega);have e:((Z1 (Vo n)).toList.map λi=>vs.getD i Vy)=vs:=by
    apply Xs (by simp[hv]);intro i a b;simp at a b⊢;rw[UM b];rfl
   rw[e]at this;exact this
 ·simp only[Vl,if_false,hz,h2];refine JY (EJ hk J1 ?_);have hl:ks.length=vs.length:=J1
  refine JY (MB (kat_run (κ:=tuples' true) (E:=λ_ _=>False) (Q:=λst' s'=>s'=s/\∃p,cg n p/\Up (λi j=>aZ (kp i) (kp j)) p n/\arrOf st'=p.map (kas_item (ks.toArray.zip vs.toArray))/\failedOf st'=none) (G:=λp s'=>s'=s/\cg n p/\Up (λi j=>aZ (kp i) (kp j)) p n) hl J1 J1
   (λp st' s' a b c d=>⟨d.1,p,d.2.1,d.2.2,b,c⟩) ?_) (λr s' hr=>?_) λ_ _ x=>x.elim)
  ·rw[hv];exact EK hn J1 hk hd λp a b=>⟨rfl,a,b⟩
  ·obtain⟨rfl,p,p1,p2,p3,p4⟩:=hr;refine EM hks hD hne p4 (kat_snds hl p3) ?_ J1 (q p p1 p2);rw[T6,UH,p1.size];exact h64
section
variable{X:Cx}{acT:List (J7×Obj)}{U:St}{H:Hp}{s:K9}
theorem ag.track{o:HO}{D:J7}{ch:List J7}{t':Nat}{h':LO}(I:ag X acT U H s)(hD:D∈ch)(f:∀b∈ch,ja X acT H b)(k:∀b u,b∉ch->s.heap.get? b=some u->h'.get? b=some u)(new:cz X.prog X.w (ah H D o) h' D o):ag X acT U (ah H D o) {s with heap:=h',toks:=t'}:=by
 have nC:∀b u,H b=some u->b∉ch:=λb u e z=>by rw[(f b z).1]at e;cases e
 have nD:∀b u,H b=some u->b≠D:=λb u e z=>nC b u e (by rw[z];exact hD);refine I.step (g':=s.gens) (d':=s.drawn) (ch:=ch) (λb hb=>?_) (λb o _ _ hc e _=>k b o hc e) (λb o _ _ hc e _=>⟨o.slots,k b o hc e⟩) (λb o hc _ n=>by rw[aD (λz=>hc (by rw[z];exact hD))];exact n)
  (λb o hc e=>⟨o,k b o hc e⟩) (λb xs e=>by rw[aD (nD _ _ e)];exact e) (λb u xs e=>by rw[aD (nD _ _ e)];exact e) (λb ps e=>⟨#[],by rw[aD (nD _ _ e),e];simp⟩) (λm hm=>hm.at' λo e=>k _ o (λz=>(f _ z).2.1 rfl) e) (λb u e=>?_) I.bare
 ·obtain⟨f0,f1,f2,f3,f4,f5⟩:=f b hb;exact⟨f3,f1,f4,f5⟩
 ·by_cases hb:b=D
  ·subst hb;rw[bF]at e;cases e;exact new
  ·rw[aD hb]at e;refine(I.hok b u e).stay (λc v hc q=>k c v (λz=>?_) q) (λc q=>by rw[aD (nD _ _ q)];exact q) (λc xs q=>by rw[aD (nD _ _ q)];exact q);rcases hc with r|r
   ·subst r;exact nC _ _ e z
   ·exact nC _ _ r z
theorem NK{k:Nat}{f:J7}{fd:L7}{ps:List Str}{sp:Sp}{v:V}{u:JK}{Q:VK}(Fk:aB X.prog X.w X.K X.mg X.base Km k f fd ps sp)(hr:bz k X.A.in1.in1)(hb:dW X.K fd ps [])(I:ag X acT U H s)(r:aN v u)(h:sp [v] H Q E0):
 KS (Kc X.prog X.w) X.A.in1.in1 (call (.ref f) [u]) (EP X acT U Q) (λ_ _=>False) s:=by
 have r2:aL [v] [u]:= .cons r .nil;have hl:([u]++[]).length=ps.length:=by
  have:=Fk.len _ _ _ _ h;simpa using this
 have hb2:=hb s [u] I.kIn hl;rw[UX]at hb2;refine wpAny_call (OZ (Fk.run X.A.in1.in1 X.stack s H ⟨[u],[]⟩ [u] [v] Q E0 hr I.env0.in1.in1 hb2 r2 h) λr s' hq=>?_);cases r with
 |error e=>exact hq.elim
 |ok fl=>
  cases fl with
  |ret u=>exact I.after hq
  |next=>exact V8 hq
  |brk=>exact V8 hq
  |cont=>exact V8 hq
def mI(X:Cx)(acT:List (J7×Obj))(b:J7):Prop:=b≠X.env.locals/\b∉X.fs/\(b∈X.ex\/X.s₀.heap.objs.size<=b)/\(∀x c,X.env.cells.lookup x=some c->c≠b)/\∀p∈X.pn++acT,p.1≠b
theorem ag.out(I:ag X acT U H s){b:J7}(hb:s.heap.objs.size<=b):mI X acT b:=(I.fpOk (H':=H) hb (I.hok.fresh hb)).2
structure mJ (X:Cx) (acT:List (J7×Obj)) (U:St) (H:Hp) (O:Ex) (kS D:J7) (e1:Nat) (kds:List J4) (ks:List JK) (s:K9):Prop where
 ex:∃H' kvs e,ag X (acT++[(kS,LW "list" ks.toArray e),(D,LW "list" #[] e1)]) U H' s/\au H H'/\aj X.K H' O kvs kds/\aL kvs ks
theorem mJ.push{O:Ex}{kS D:J7}{e1:Nat}{kds:List J4}{ks:List JK}{H':Hp}{kvs:List V}{e:Nat}{h':LO}{kv:V}{kd:J4}{k:JK}(oS:mI X acT kS)(oD:mI X acT D)(hne:kS≠D)
 (I:ag X (acT++[(kS,LW "list" ks.toArray e),(D,LW "list" #[] e1)]) U H' s)(hs:au H H')(hk:aj X.K H' O kvs kds)(hv:aL kvs ks)(k1:Dt X.K H' O kv kd)(k2:aN kv k)
 (hu:∃e',h'.get? kS=some (LW "list" (ks++[k]).toArray e'))(kept:∀b u,b≠kS->s.heap.get? b=some u->h'.get? b=some u):mJ X acT U H O kS D e1 (kds++[kd]) (ks++[k]) {s with heap:=h'}:=by
 obtain⟨e',hu⟩:=hu;have pS:=I.pin (kS,LW "list" ks.toArray e) KJ;have pD:=I.pin (D,LW "list" #[] e1) KJ;have I1:ag X acT U H' s:=I.pins_of λp hp=>I.pin p (by simp only[Um]at hp⊢;exact .inr (.inl hp));have I2:ag X acT U H' {s with heap:=h'}:=I1.turned (t':=s.toks) (it:=kS) kept pS.2.1 oS.1 oS.2.2.1 oS.2.2.2.1 oS.2.2.2.2;refine⟨H',kvs++[kv],e',I2.pins_of λp hp=>?_,hs,hk.append (.cons k1 .nil),hv.append (.cons k2 .nil)⟩;rcases Um.mp hp with z|z
 ·exact I2.pin p (U7 _ z)
 ·simp only[Ud,UI,or_false]at z;rcases z with rfl|rfl
  ·exact⟨hu,pS.2.1,oS.1,oS.2.1,λv z=>by cases z⟩
  ·exact⟨kept _ _ (Ne.symm hne) pD.1,pD.2.1,oD.1,oD.2.1,λv z=>by cases z⟩
theorem EN{O:Ex}{kd:J4->J4}(Fk:aB X.prog X.w X.K X.mg X.base Km k f fd ps (aP X.K F))(hr:bz k X.A.in1.in1)(hb:dW X.K fd ps [])(trk:∀l,O l->H l≠none)
 (oS:mI X acT kS)(oD:mI X acT D)(hne:kS≠D){body:JK->PUnit->Sem (ForInStep PUnit)}
 (hbo:∀(x:JK) (s:K9) (Q':K9->Prop),KS (Kc X.prog X.w) X.A.in1.in1 (call (.ref f) [x]) (λk s'=>KS (Kc X.prog X.w) X.A.in1.in1 (Zi (.ref kS) (·.push k)) (λ_ s''=>Q' s'') (λ_ _=>False) s') (λ_ _=>False) s->KS (Kc X.prog X.w) X.A.in1.in1 (body x ⟨⟩) (λr s'=>r= .yield ⟨⟩/\Q' s') E s):
 ∀(r:List JK)(xr:List V)(dr:List J4)(kds:List J4)(ks:List JK)(s:K9)(Q:K9->Prop),aL xr r->aj X.K H O xr dr->(∀d∈dr,∀R:J4->Prop,R (kd d)->F [d] R)->mJ X acT U H O kS D e1 kds ks s->ks.length+r.length < 64->
  (∀ks' s',mJ X acT U H O kS D e1 (kds++dr.map kd) ks' s'->ks'.length=ks.length+r.length->Q s')->KS (Kc X.prog X.w) X.A.in1.in1 (forIn r PUnit.unit body) (λ_ s'=>Q s') E s
 | [],xr,dr,kds,ks,s,Q,hv,hd,hF,M,hl,q=>by
  cases hv;cases hd;rw[SF];exact Kd (q ks s (by rw[U9,UX];exact M) KJ)
 |x::r,xr,dr,kds,ks,s,Q,hv,hd,hF,M,hl,q=>by
  cases hv with
  | @cons v _ xr _ h1 h2=>
   cases hd with
   | @cons _ d _ dr g1 g2=>
    rw[Sd];rw[Uk]at hl;obtain⟨H',kvs,e,I,hs,hk,hvk⟩:=M.ex;refine JY (MB (hbo x s (λs'=>∃k,mJ X acT U H O kS D e1 (kds++[kd d]) (ks++[k]) s') (MB (NK (Q:=λv2 H2=>au H' H2/\Dt X.K H2 O v2 (kd d)) Fk hr hb I h1 ⟨O,[d],λy=>y=kd d,λl z e=>trk l z (by
     cases q:H l with
     |none=>rfl
     |some u=>rw[hs _ _ q]at e;cases e),.cons (g1.mono hs) .nil,hF d KJ _ rfl,λy v2 H2 e s2 r2=>by subst e;exact⟨s2,r2⟩⟩) (λkk s' hq=>?_) λ_ _ z=>z)) (λr' s' hq=>?_) λ_ _ z=>z)
    ·obtain⟨kv,H2,I2,rk,s2,dk⟩:=hq;have pS:=I2.pin (kS,LW "list" ks.toArray e) KJ;refine QK pS.1 rfl ⟨kk,?_⟩ (by rw[Uu];have:LB=16777216:=My;omega) (by rw[Array.size_push,Uu];have:LB=16777216:=My;omega);have u1:=Vc s'.heap kS (Vu (·.push kk));have gk:=QY pS.1 (·.push kk);rw[show ks.toArray.push kk=(ks++[kk]).toArray by simp]at gk;exact mJ.push oS oD hne I2 (hs.trans s2) (hk.mono s2) hvk dk rk ⟨_,gk⟩ λb u n z=>(u1.2 b n).trans z
    ·obtain⟨rfl,kk,M'⟩:=hq;refine EN Fk hr hb trk oS oD hne hbo r xr dr (kds++[kd d]) (ks++[kk]) s' Q h2 g2 (λy hy=>hF y (by simp[hy])) M' (by simp;omega) λks' s2 M2 l2=>q ks' s2 ?_ (by rw[l2];simp;omega);rw[T9,<-List.singleton_append,<-Vi];exact M2
def cD(p:Int×Str):J4:= .tuple [.int p.1,.str p.2]
theorem xT{h:V}{u:JK}{O:Ex}{p:Int×Str}(I:ag X acT U H s)(d:Dt X.K H O h (cD p))(r:aN h u):jm s.heap u p:=by
 obtain⟨a,xs,rfl,hq,hd⟩:=(Sh.dt d).tup;cases r;obtain⟨its,rv,⟨o,e,c,n,dd⟩,_⟩:=I.tuple hq;cases hd with
 |cons g1 g2=>
  cases g2 with
  |cons g2 g3=>
   cases g3;cases g1;cases g2;cases rv with
   |cons r1 r2=>
    cases r2 with
    |cons r2 r3=>
     cases r3;obtain⟨t,rfl⟩:=r1;obtain⟨u,rfl⟩:=r2;exact⟨a,o,n,t,u,rfl,e,c,dd⟩
theorem sf{H:Hp}:∀{xs:List V}{ds:List J4}{i:Nat}{d:J4},aj Z H O xs ds->ds[i]?=some d->∃x,xs[i]?=some x/\Dt Z H O x d
 |_,_,0,d,.cons h r,e=>by simp at e;subst e;exact⟨_,rfl,h⟩
 |_,_,i+1,d,.cons h r,e=>by simp only[Vg]at e⊢;exact sf r e
theorem ur:∀{i:Nat}{u:JK},aL xs us->us[i]?=some u->∃x,xs[i]?=some x/\aN x u:=by
 intro i u h e;have hl:=h.length;have hi:i < us.length:=(Uj.mp e).1;obtain⟨u',e',r⟩:=h.get (show xs[i]?=some (xs[i]'J1) by simp);rw[e]at e';cases e';exact⟨_,KJ,r⟩
theorem NL{kps:List (Int×Str)}(M:mJ X acT U H O kS D e1 (kps.map cD) ks s):(∀i v,ks[i]?=some v->jm s.heap v (kps.getD i (0,T4 "")))/\ks.length=kps.length:=by
 obtain⟨H',kvs,e,I,hs,hk,hv⟩:=M.ex;have hl:ks.length=kps.length:=by rw[<-hv.length,hk.length,T6]
 refine⟨λi v ei=>?_,hl⟩;have hi:i < kps.length:=by rw[<-hl];exact(Uj.mp ei).1
 obtain⟨x,ex,rx⟩:=ur hv ei;obtain⟨y,ey,dy⟩:=sf (i:=i) (d:=cD kps[i]) hk (by rw[Ul,UM hi];rfl);rw[ex]at ey;cases ey;have:kps.getD i (0,T4 "")=kps[i]:=by simp[hi]
 rw[this];exact xT I dy rx
theorem ab9{k:Nat}{f:J7}{fd:L7}{ps:List Str}{F:Fa}{O:Ex}{D:J7}{n0:Nat}{kf:J4->Int×Str}{vs:List JK}{xs:List V}{ds:List J4}{Q:V->Hp->Prop}{C:Z2->K9->Prop}{E:JK->K9->Prop}
 (Fk:aB X.prog X.w X.K X.mg X.base Km k f fd ps (aP X.K F))(hr:bz k X.A.in1.in1)(hb:dW X.K fd ps [])(trk:∀l,O l->H l≠none)(I:ag X acT U H s)(oD:mI X acT D)(hHD:H D=none)(hD:s.heap.get? D=some (LW "list" vs.toArray n0))
 (hv:aL xs vs)(hd:aj X.K H O xs ds)(hF:∀d∈ds,∀R:J4->Prop,R (cD (kf d))->F [d] R)(h64:ds.length < 64)(nd:(ds.map kf).Nodup)
 (q:∀(H':Hp) (xs':List V) (ds':List J4),au H H'->H' D=none->aj X.K H' O xs' ds'->ds'.Perm ds->ds'.Pairwise (λa b=>aZ (kf a) (kf b)=true)->Q (.ref D) (ah H' D (.lst xs')))
 (fin:∀s',EP X acT U Q (.ref D) s'->C (.done (.ret .none)) s'):KS (Kc X.prog X.w) X.A.in1.in1 (ksk_tree D (.ref f) false) C E s:=by
 have hsl:LB=16777216:=My;have lv:vs.length=ds.length:=by rw[<-hv.length,hd.length]
 have lD:D < s.heap.objs.size:=Ut hD;unfold ksk_tree;refine JY (listItems_at hD rfl (JY (QK hD rfl ?_ (by rw[Uu];omega) (UY _))));have u1:=Vc s.heap D (Vu λ_=>(#[]:Array JK));have g1:=QY hD λ_=>(#[]:Array JK);have I1:ag X acT U H {s with heap:=s.heap.update D (Vu λ_=>(#[]:Array JK))}:=I.turned (t':=s.toks) (it:=D) (λb u n z=>(u1.2 b n).trans z) hHD oD.1 oD.2.2.1 oD.2.2.2.1 oD.2.2.2.2;generalize s.heap.update D (Vu λ_=>(#[]:Array JK))=h1 at*;generalize (if (#[]:Array JK).size==vs.toArray.size then n0 else n0+1)=e1 at*;refine JY (seqEpoch_at (s:={s with heap:=h1}) g1 rfl ?_);refine JY (wpAny_newTuple ?_ (by show vs.length<=_;omega));have I2:ag X acT U H {s with heap:=h1.push {cls:= .type "tuple",data:= .seq vs.toArray}}:=I1.kept (t':=s.toks) λb u z=>Ua _ z;have g2:(h1.push {cls:= .type "tuple",data:= .seq vs.toArray}).get? D=some (LW "list" #[] e1):=Ua _ g1;show KS _ _ _ _ _ {s with heap:=h1.push {cls:= .type "tuple",data:= .seq vs.toArray}};generalize h1.push {cls:= .type "tuple",data:= .seq vs.toArray}=h2 at*;refine JY (QP (s:={s with heap:=h2}) ?_ (UY _));have oS:mI X acT h2.objs.size:=I2.out (T8 _);have hne:h2.objs.size≠D:=WO (Ut g2);have I3:ag X acT U H {s with heap:=h2.push (LW "list" #[] 0)}:=I2.kept (t':=s.toks) λb u z=>Ua _ z;have hS0:H h2.objs.size=none:=I2.hok.fresh (T8 _);have M0:mJ X acT U H O h2.objs.size D e1 [] [] {s with heap:=h2.push (LW "list" #[] 0)}:=by
  refine⟨H,[],0,I3.pins_of λp hp=>?_,au.refl _,.nil,.nil⟩;rcases Um.mp hp with z|z
  ·exact I3.pin p (U7 _ z)
  ·simp only[Ud,UI,or_false]at z;rcases z with rfl|rfl
   ·exact⟨UE _ rfl,hS0,oS.1,oS.2.1,λv z=>by cases z⟩
   ·exact⟨Ua _ g2,hHD,oD.1,oD.2.1,λv z=>by cases z⟩
 refine Mh ?_;unfold ksk_rest;refine JY (P4 ?_);rw[List.forIn_toArray];refine JY (EN (kd:=λd=>cD (kf d)) (E:=E) Fk hr hb trk oS oD hne (λx s' Q' hx=>?_) vs xs ds [] [] _ _ hv hd hF M0 (by simp;omega) λks s' M hkl=>?_)
 ·refine JY (QR (MB hx (λkk s2 hk=>?_) λ_ _ z=>z.elim));exact JY (MB hk (λ_ s3 z=>Kd ⟨rfl,z⟩) λ_ _ z=>z.elim)
 ·rw[Vf,<-Function.comp_def,<-Uo]at M;obtain⟨hk,hkn⟩:=NL M;rw[T6]at hkn;obtain⟨H',kvs,e,I4,hs,_,_⟩:=M.ex;have pS:=I4.pin (h2.objs.size,LW "list" ks.toArray e) KJ;have pD:=I4.pin (D,LW "list" #[] e1) KJ;have I5:ag X acT U H' s':=I4.pins_of λp hp=>I4.pin p (by simp only[Um]at hp⊢;exact .inr (.inl hp));refine JY (listItems_at pS.1 rfl ?_);refine NJ (n:=ds.length) (kp:=λi=>(ds.map kf).getD i (0,T4 "")) lv hkn h64 pS.1 pD.1 hne hk (λi j hi hj ee=>?_) λp pp pu h' c gD kept=>?_
  ·have e1':(ds.map kf).getD i (0,T4 "")=(ds.map kf)[i]'(by simpa using hi):=by simp[hi]
   have e2':(ds.map kf).getD j (0,T4 "")=(ds.map kf)[j]'(by simpa using hj):=by simp[hj]
   rw[e1',e2']at ee;exact(Ys nd).mp ee
  ·refine fin _ ⟨.ref D,ah H' D (.lst (p.toList.map λi=>xs.getD i .non)),?_,rfl,q H' _ (p.toList.map λi=>ds.getD i .none) hs pD.2.1 ?_ ?_ ?_⟩
   ·refine I5.track (t':=s'.toks) (ch:=[h2.objs.size,D]) KJ (λb hb=>?_) (λb u hb z=>kept b u (λy=>hb (by simp[y])) (λy=>hb (by simp[y])) z) ⟨?_,_,c,?_,gD⟩
    ·simp only[Ud,UI,or_false]at hb;rcases hb with rfl|rfl
     ·exact⟨pS.2.1,oS⟩
     ·exact⟨pD.2.1,oD⟩
    ·rw[T6,UH,pp.size];omega
    ·have:∀l:List Nat,(∀i∈l,i < ds.length)->aL (l.map λi=>xs.getD i .non) (l.map λi=>vs.getD i .none):=by
      intro l
      induction l with
      |nil=>intro _;exact .nil
      |cons a l ih=>
       intro hl;have ha:=hl a KJ;refine .cons ?_ (ih λi hi=>hl i (by simp[hi]));obtain⟨x,ex,rx⟩:=ur hv (show vs[a]?=some (vs[a]'J1) by simp);have e1':xs.getD a .non=x:=by simp[ex]
       have e2':vs.getD a .none=vs[a]'J1:=by simp[show a < vs.length by omega]
       show aN (xs.getD a .non) (vs.getD a .none);rw[e1',e2'];exact rx
     exact this _ λi hi=>by simpa using pp.perm.mem_iff.mp hi
   ·have:∀l:List Nat,(∀i∈l,i < ds.length)->aj X.K H' O (l.map λi=>xs.getD i .non) (l.map λi=>ds.getD i .none):=by
     intro l
     induction l with
     |nil=>intro _;exact .nil
     |cons a l ih=>
      intro hl;have ha:=hl a KJ;refine .cons ?_ (ih λi hi=>hl i (by simp[hi]));obtain⟨x,ex,dx⟩:=sf (i:=a) (d:=ds[a]) hd (by simp[ha]);have e1':xs.getD a .non=x:=by simp[ex]
      have e2':ds.getD a .none=ds[a]:=by simp[ha]
      show Dt X.K H' O (xs.getD a .non) (ds.getD a .none);rw[e1',e2'];exact dx.mono hs
    exact this _ λi hi=>by simpa using pp.perm.mem_iff.mp hi
   ·have h1:=pp.perm.map λi=>ds.getD i .none;have e:(Vo ds.length).map (λi=>ds.getD i XH)=ds:=by
     apply Xs KJ;intro i a b;simp at a b⊢;rw[UM b];rfl
    rw[e]at h1;exact h1
   ·rw[Vk,X7];intro i j hi hj hij;have:=pu i j hij (by rw[UH,pp.size]at hj;exact hj);have ei:p.getD i 0=p.toList[i]:=by simp[Xl,show i < p.size by simpa using hi]
    have ej:p.getD j 0=p.toList[j]:=by simp[Xl,show j < p.size by simpa using hj]
    rw[ei,ej]at this;have li:p.toList[i] < ds.length:=by simpa using pp.perm.mem_iff.mp (Wa hi)
    have lj:p.toList[j] < ds.length:=by simpa using pp.perm.mem_iff.mp (Wa hj)
    have ff:∀a,a < ds.length->(ds.map kf).getD a (0,T4 "")=kf (ds.getD a .none):=λa ha=>by simp[ha]
    dsimp only at this;rw[ff _ li,ff _ lj]at this;exact this
theorem NN{k:Nat}{f l:J7}{fd:L7}{ps:List Str}{F:Fa}{O:Ex}{kf:J4->Int×Str}{xs:List V}{ds:List J4}{Q:VK}
 (hc:X.calm=true)(Fk:aB X.prog X.w X.K X.mg X.base Km k f fd ps (aP X.K F))(hr:bz k X.A.in1.in1)(hb:dW X.K fd ps [])(trk:∀l,O l->H l≠none)(I:ag X acT U H s)(hq:bA X.K H l xs)
 (hd:aj X.K H O xs ds)(hF:∀d∈ds,∀R:J4->Prop,R (cD (kf d))->F [d] R)(h64:ds.length < 64)(nd:(ds.map kf).Nodup)
 (q:∀(H':Hp) (p:J7) (xs':List V) (ds':List J4),au H H'->H' p=none->aj X.K H' O xs' ds'->ds'.Perm ds->ds'.Pairwise (λa b=>aZ (kf a) (kf b)=true)->Q (.ref p) (ah H' p (.lst xs'))):
 KS (Kc X.prog X.w) X.A (call (.builtin "sorted") [.ref l] [(T4 "key",.ref f)]) (EP X acT U Q) X.xe s:=by
 have hsl:LB=16777216:=My;obtain⟨vs,hv,pl,hz⟩:=I.list hq;have lv:vs.length=ds.length:=by rw[<-hv.length,hd.length]
 refine call_function_entry_kw kind_sorted plain_sorted entry_sorted (ksk_s1 _ _) ?_;unfold Builtin.«sorted»;refine JY (m:=checkCount "sorted" 1 1 _) (Kd ?_);refine JY (collect_list pl.isList ?_ J1);have I1:ag X acT U H {s with heap:=(s.heap.push (LW "list" #[] 0)).update s.heap.objs.size (Vu (·++vs.toArray))}:=by
  refine I.kept (t':=s.toks) λb u z=>?_;have hlt:b < s.heap.objs.size:=Ut z;exact(ZP _ _ _ _ (UQ hlt)).trans (Ua _ z)
 generalize (s.heap.push (LW "list" #[] 0)).update s.heap.objs.size (Vu (·++vs.toArray))=h1 at*;refine JY (QP (s:={s with heap:=h1}) ?_ J1);have I2:ag X acT U H {s with heap:=h1.push (LW "list" vs.toArray 0)}:=I1.kept (t':=s.toks) λb u z=>Ua _ z;have gD:(h1.push (LW "list" vs.toArray 0)).get? h1.objs.size=some (LW "list" vs.toArray 0):=UE _ rfl;refine JY (Mh (wpAny_call_entry_kw RA ⟨_,gD,rfl⟩ R0 ?_ (ksk_l1 _ _)));rw[ksk_t1];refine ab9 (kf:=kf) Fk hr hb trk I2 (I1.out (T8 _)) (I1.hok.fresh (T8 _)) gD hv hd hF h64 nd (Q:=Q) (λH' xs' ds' a b c d e=>q H' _ xs' ds' a b c d e) λs' hs'=>?_;exact⟨_,rfl,Kd ⟨_,rfl,hs'⟩⟩
end
theorem ab6{vs:List JK}{kp:Nat->Int×Str}{C:Z2->K9->Prop}(hv:vs.length=n)(h64:n < 64)(hD:s.heap.get? D=some (LW "list" vs.toArray n0))(hk:∀i v,vs[i]?=some v->jm s.heap v (kp i)/\v≠ .ref D)(hd:∀i j,i < n->j < n->kp i=kp j->i=j)
 (q:∀p,cg n p->Up (λi j=>aZ (kp i) (kp j)) p n->∀h' c,h'.get? D=some (LW "list" (p.toList.map λi=>vs.getD i .none).toArray c)->(∀b u,b≠D->s.heap.get? b=some u->h'.get? b=some u)->C (.done (.ret .none)) {s with heap:=h'}):
 KS (Kc P w) A (Builtin.«list.sort» ⟨[.ref D],[]⟩) C E s:=by
 have hsl:LB=16777216:=My;rw[list_sort_plain];refine JY (listItems_at hD rfl (JY (QK hD rfl ?_ (by rw[Uu];omega) (UY _))));have u1:=Vc s.heap D (Vu λ_=>(#[]:Array JK));have g1:=QY hD λ_=>(#[]:Array JK);have k1:∀b u,b≠D->s.heap.get? b=some u->(s.heap.update D (Vu λ_=>(#[]:Array JK))).get? b=some u:=λb u n z=>(u1.2 b n).trans z;generalize s.heap.update D (Vu λ_=>(#[]:Array JK))=h1 at*;generalize (if (#[]:Array JK).size==vs.toArray.size then n0 else n0+1)=e1 at*;refine JY (seqEpoch_at (s:={s with heap:=h1}) g1 rfl ?_);refine JY (wpAny_newTuple ?_ (by show vs.length<=_;omega));refine JY (QP ?_ (UY _));have g2:((h1.push {cls:= .type "tuple",data:= .seq vs.toArray}).push {cls:= .type "list",data:= .seq ([]:List JK).toArray}).get? D=some (LW "list" #[] e1):=Ua _ (Ua _ g1);have k2:∀b u,b≠D->s.heap.get? b=some u->((h1.push {cls:= .type "tuple",data:= .seq vs.toArray}).push {cls:= .type "list",data:= .seq ([]:List JK).toArray}).get? b=some u:=λb u n z=>Ua _ (Ua _ (k1 b u n z));show KS _ _ _ _ _ {s with heap:=(h1.push {cls:= .type "tuple",data:= .seq vs.toArray}).push {cls:= .type "list",data:= .seq ([]:List JK).toArray}};generalize (h1.push {cls:= .type "tuple",data:= .seq vs.toArray}).push {cls:= .type "list",data:= .seq ([]:List JK).toArray}=h2 at*;refine Mh ?_;have hz:vs.toArray.size=n:=by rw[Uu];exact hv
 have last:∀(st:SortSt)(p:Array Nat),cg n p->Up (λi j=>aZ (kp i) (kp j)) p n->failedOf st=none->(arrOf st).map (·.2)=(p.toList.map λi=>vs.getD i .none).toArray->
  KS (Kc P w) A (do
   let touched:=(<-seqEpoch D) !=e1
   Zi (.ref D) λ_=>(arrOf st).map (·.2)
   if let some e:=failedOf st then rule "list.sort.comparison-raised";throw e
   if touched then rule "list.sort.modified";raiseError "ValueError" "list modified during sort"
   ret .none) C E {s with heap:=h2}:=by
  intro st p p1 p2 hf ho;rw[ho,hf];refine JY (seqEpoch_at (s:={s with heap:=h2}) g2 rfl ?_);refine JY (QK (s:={s with heap:=h2}) g2 rfl ?_ (UY _) (by rw[Uu,T6,UH,p1.size];omega));simp only[bne_self_eq_false,Vl,if_false];have u3:=Vc h2 D (Vu λ_=>(p.toList.map λi=>vs.getD i Vy).toArray);exact Kd (q p p1 p2 _ _ (QY g2 λ_=>(p.toList.map λi=>vs.getD i Vy).toArray) λb u n z=>(u3.2 b n).trans (k2 b u n z))
 by_cases h2':n < 2
 ·simp only[hz,h2',if_true];refine JY (Kd (JY (Kd ?_)));refine last _ (Z1 (Vo n)) (xQ n) (λi j a b=>by omega) rfl ?_;show(vs.toArray.zip vs.toArray).map (·.2)=_;apply XT.mp;simp only[Xp,pE];rw[pf J1];apply Xs (by simp[hv]);intro i a b;simp at a b⊢;rw[UM a];rfl
 ·simp only[hz,h2',if_false];have hk2:∀i v,vs[i]?=some v->jm h2 v (kp i):=λi v e=>by
   obtain⟨⟨a,o,m,t,u,rfl,x1,x2,x3⟩,ne⟩:=hk i v e;exact⟨a,o,m,t,u,rfl,k2 a o (λz=>ne (by rw[z])) x1,x2,x3⟩
  refine JY (EJ (s:={s with heap:=h2}) hk2 J1 ?_);refine JY (MB (kat_run (κ:=tuples' true) (ks:=vs) (s:={s with heap:=h2}) (E:=λ_ _=>False) (Q:=λst' s'=>s'={s with heap:=h2}/\∃p,cg n p/\Up (λi j=>aZ (kp i) (kp j)) p n/\arrOf st'=p.map (kas_item (vs.toArray.zip vs.toArray))/\failedOf st'=none) (G:=λp s'=>s'={s with heap:=h2}/\cg n p/\Up (λi j=>aZ (kp i) (kp j)) p n) rfl J1 J1
   (λp st' s' a b c d=>⟨d.1,p,d.2.1,d.2.2,b,c⟩) ?_) (λr s' hr=>?_) λ_ _ x=>x.elim)
  ·rw[hv];exact EK (s:={s with heap:=h2}) hv J1 hk2 hd λp a b=>⟨rfl,a,b⟩
  ·obtain⟨rfl,p,p1,p2,p3,p4⟩:=hr;exact last _ p p1 p2 p4 (kat_snds rfl p3)
theorem abZ:fo X (.builtin "sorted") (λxs H Q=>∃(p:J7)(us:List V)(O:Ex)(ps:List (Int×Str)),xs=[.ref p]/\bA X.K H p us/\aj X.K H O us (ps.map cD)/\ps.length < 64/\ps.Nodup/\∀(l:J7)(us':List V)(ps':List (Int×Str)),H l=none->aj X.K H O us' (ps'.map cD)->ps'.Perm ps->ps'.Pairwise (λa b=>aZ a b=true)->Q (.ref l) (ah H l (.lst us'))):=by
 intro acT s U H xs ws Q I r h;obtain⟨l,us,O,ps,rfl,hq,hd,h64,nd,q⟩:=h;obtain⟨u,rfl,rx⟩:=fO r;cases rx;have hsl:LB=16777216:=My;obtain⟨vs,hv,pl,hz⟩:=I.list hq;have lv:vs.length=ps.length:=by rw[<-hv.length,hd.length,T6]
 refine X5 kind_sorted plain_sorted entry_sorted (args_sorted1 _) ?_;unfold Builtin.«sorted»;refine JY (m:=checkCount "sorted" 1 1 _) (Kd ?_);refine JY (collect_list pl.isList ?_ J1);have I1:ag X acT U H {s with heap:=(s.heap.push (LW "list" #[] 0)).update s.heap.objs.size (Vu (·++vs.toArray))}:=by
  refine I.kept (t':=s.toks) λb u z=>?_;have hlt:b < s.heap.objs.size:=Ut z;exact(ZP _ _ _ _ (UQ hlt)).trans (Ua _ z)
 generalize (s.heap.push (LW "list" #[] 0)).update s.heap.objs.size (Vu (·++vs.toArray))=h1 at*;refine JY (QP (s:={s with heap:=h1}) ?_ J1);have I2:ag X acT U H {s with heap:=h1.push (LW "list" vs.toArray 0)}:=I1.kept (t':=s.toks) λb u z=>Ua _ z;have gD:(h1.push (LW "list" vs.toArray 0)).get? h1.objs.size=some (LW "list" vs.toArray 0):=UE _ rfl;have hH:H h1.objs.size=none:=I1.hok.fresh (T8 _);have oD:mI X acT h1.objs.size:=I1.out (T8 _);have isp:∀i v,vs[i]?=some v->jm (h1.push (LW "list" vs.toArray 0)) v (ps.getD i (0,T4 ""))/\v≠ .ref h1.objs.size:=λi v ei=>by
  have hi:i < ps.length:=by rw[<-lv];exact(Uj.mp ei).1
  obtain⟨x,ex,rx⟩:=ur hv ei;obtain⟨y,ey,dy⟩:=sf (i:=i) (d:=cD ps[i]) hd (by rw[Ul,UM hi];rfl);rw[ex]at ey;cases ey;have e:ps.getD i (0,T4 "")=ps[i]:=by simp[hi]
  rw[e];have a:=xT I1 dy rx;refine⟨xT I2 dy rx,λz=>?_⟩;obtain⟨ad,o,m,t,u,e1,e2,_⟩:=a;rw[e1]at z;cases z;exact absurd (Ut e2) (V3 _)
 refine JY (Mh (N6 RA ⟨_,gD,rfl⟩ R0 ?_ (args_list_sort _)));refine ab6 (s:={s with heap:=h1.push (LW "list" vs.toArray 0)}) (n:=ps.length) (kp:=λi=>ps.getD i (0,T4 "")) lv h64 gD isp (λi j hi hj ee=>?_) λp pp pu h' c g kept=>?_
 ·have e1':ps.getD i (0,T4 "")=ps[i]:=by simp[hi]
  have e2':ps.getD j (0,T4 "")=ps[j]:=by simp[hj]
  rw[e1',e2']at ee;exact(Ys nd).mp ee
 ·have lt:∀i∈p.toList,i < ps.length:=λi hi=>by simpa using pp.perm.mem_iff.mp hi
  have dm:aj X.K H O (p.toList.map λi=>us.getD i .non) ((p.toList.map λi=>ps.getD i (0,T4 "")).map cD):=by
   have:∀l:List Nat,(∀i∈l,i < ps.length)->aj X.K H O (l.map λi=>us.getD i .non) ((l.map λi=>ps.getD i (0,T4 "")).map cD):=by
    intro l
    induction l with
    |nil=>intro _;exact .nil
    |cons a l ih=>
     intro hl;have ha:=hl a KJ;refine .cons ?_ (ih λi hi=>hl i (by simp[hi]));obtain⟨x,ex,dx⟩:=sf (i:=a) (d:=cD ps[a]) hd (by rw[Ul,UM ha];rfl);have e1':us.getD a .non=x:=by simp[ex]
     have e2':ps.getD a (0,T4 "")=ps[a]:=by simp[ha]
     show Dt X.K H O (us.getD a .non) (cD (ps.getD a (0,T4 "")));rw[e1',e2'];exact dx
   exact this _ lt
  have vm:aL (p.toList.map λi=>us.getD i .non) (p.toList.map λi=>vs.getD i .none):=by
   have:∀l:List Nat,(∀i∈l,i < ps.length)->aL (l.map λi=>us.getD i .non) (l.map λi=>vs.getD i .none):=by
    intro l
    induction l with
    |nil=>intro _;exact .nil
    |cons a l ih=>
     intro hl;have ha:=hl a KJ;refine .cons ?_ (ih λi hi=>hl i (by simp[hi]));obtain⟨x,ex,rx⟩:=ur hv (show vs[a]?=some (vs[a]'J1) by simp);have e1':us.getD a .non=x:=by simp[ex]
     have e2':vs.getD a .none=vs[a]'J1:=by simp[show a < vs.length by omega]
     show aN (us.getD a .non) (vs.getD a .none);rw[e1',e2'];exact rx
   exact this _ lt
  refine⟨_,rfl,Kd ⟨_,rfl,.ref h1.objs.size,ah H h1.objs.size (.lst (p.toList.map λi=>us.getD i .non)),?_,rfl,q _ _ (p.toList.map λi=>ps.getD i (0,T4 "")) hH dm ?_ ?_⟩⟩
  ·refine I2.track (t':=s.toks) (ch:=[h1.objs.size]) KJ (λb hb=>?_) (λb u hb z=>kept b u (λy=>hb (by simp[y])) z) ⟨?_,_,c,vm,g⟩
   ·rw[Ur]at hb;subst hb;exact⟨hH,oD⟩
   ·rw[T6,UH,pp.size];omega
  ·have h1:=pp.perm.map λi=>ps.getD i (0,T4 "");have e:(Vo ps.length).map (λi=>ps.getD i (0,T4 ""))=ps:=by
    apply Xs KJ;intro i a b;simp at a b⊢;rw[UM b];rfl
   rw[e]at h1;exact h1
  ·rw[Vk,X7];intro i j hi hj hij;have:=pu i j hij (by rw[UH,pp.size]at hj;exact hj);have ei:p.getD i 0=p.toList[i]:=by simp[Xl,show i < p.size by simpa using hi]
   have ej:p.getD j 0=p.toList[j]:=by simp[Xl,show j < p.size by simpa using hj]
   rw[ei,ej]at this;exact this
def mK(t:DA):DA:=λY Q=>t Y λds=>∃ps:List (Int×Str),ds=[.list (ps.map cD)]/\ps.length < 64/\ps.Nodup/\∀ps':List (Int×Str),ps'.Perm ps->ps'.Pairwise (λa b=>aZ a b=true)->Q (ps'.map cD)
theorem EO{a:L8}{t:DA}{np p:Pos}(hg:Gl X "sorted")(hm:X.mg "sorted"=none)(hv:M9 "sorted"=some (.builtin "sorted"))(ha:PA X [a] (gh X.K H0 O0 t))(he:Ke [a] X.env=(false,eval a X.env)::Ke [] X.env:=by rfl)(hpl:(LR p (Ke [] X.env)).any (·.1)=false:=by rfl):
 FE X H0 O0 (.Call (.Name "sorted" np) [a] [] p) (mK t):=
 (bY abZ hg hm hv ha (he:=he) (hpl:=hpl)).imp λU H Q uu=>by obtain⟨O,Y,Qd,w,q,k⟩:=uu;exact⟨O,Y,_,w,q,λds vs H1 uu s1 r1=>by
  obtain⟨ps,e,h64,nd,q1⟩:=uu;subst e;cases r1 with
  |cons h r=>
   cases r;obtain⟨a,us,rfl,h1,d1⟩:=h.lst;exact⟨a,us,O,ps,rfl,h1,d1,h64,nd,λl us' ps' hl hd hp hs=>k _ _ _ _ (q1 ps' hp hs) s1 hl hd⟩⟩
def mL(F:Fa)(kf:J4->Int×Str)(t:DA):DA:=λY Q=>t Y λds0=>∃ds,ds0=[.list ds]/\(∀d∈ds,∀R:J4->Prop,R (cD (kf d))->F [d] R)/\ds.length < 64/\(ds.map kf).Nodup/\∀ds',ds'.Perm ds->ds'.Pairwise (λa b=>aZ (kf a) (kf b)=true)->Q ds'
theorem ER{a:L8}{t:DA}{np p gp kp:Pos}{g:Str}{k:Nat}{f:J7}{fd:L7}{ps:List Str}{F:Fa}(kf:J4->Int×Str)(hc:X.calm=true)(Fk:aB X.prog X.w X.K X.mg X.base Km k f fd ps (aP X.K F))(hr:bz k X.A.in1.in1)(hb:dW X.K fd ps [])
 (hgg:Gl X g)(hgm:X.mg g=some (.ref f))(hg:Gl X "sorted")(hm:X.mg "sorted"=none)(hv:M9 "sorted"=some (.builtin "sorted"))(ha:PA X [a] (gh X.K H0 O0 t))(hdb:(g==("__debug__":Str))=false:=by decide)
 (he:LR p (Ke [a] X.env)=(false,eval a X.env)::LR p (Ke [] X.env):=by rfl)(hplain:(LR p (Ke [a] X.env)).any (·.1)=false:=by rfl):
 FE X H0 O0 (.Call (.Name "sorted" np) [a] [⟨some "key",.Name g gp,kp⟩] p) (mL F kf t):=by
 intro acT s U H Q I h;obtain⟨O,Y,Qd,w,q,kk⟩:=h;refine P0 (j4 I hg hm hv ?_);refine callWith_kw (aE (ha p acT s U H (λvs H1=>∃ds0,au H H1/\nO X.K H1 O vs ds0/\∃ds,ds0=[.list ds]/\(∀d∈ds,∀R:J4->Prop,R (cD (kf d))->F [d] R)/\ds.length < 64/\(ds.map kf).Nodup/\∀ds',ds'.Perm ds->ds'.Pairwise (λa b=>aZ (kf a) (kf b)=true)->Qd ds') I ⟨O,Y,_,w,q,λds0 vs H1 q1 s1 r1=>⟨ds0,s1,r1,q1⟩⟩) λus s1 hus=>?_) he hplain rfl rfl;obtain⟨vs,H1,I1,rv,ds0,s1',r1,ds,e,hF,h64,nd,q1⟩:=hus;subst e;refine kws_cons (ri I1 hgg hgm (kws_nil ?_) hdb);cases r1 with
 |cons h r=>
  cases r;obtain⟨ad,xs,rfl,hq,hd⟩:=h.lst;obtain⟨u,rfl,rx⟩:=fO rv;cases rx;exact NN (kf:=kf) hc Fk hr hb (w.mono s1').trk I1 hq hd hF h64 nd λH' l xs' ds' a b c d e=>kk _ _ _ _ (q1 ds' d e) (s1'.trans a) b c
section
open PySem.SeqAt
open PySem.AutoSeq1 (wpAny_loadPart')
open PySem.MeetsSeq PySem.MeetsSeq2 PySem.MeetsSeq3
theorem NQ(l b:J7)(n n2:Nat)(dd dd2:Option J7)(sl sl2:Array (Option JK))(p q:Int×Str)(t1 t2 t3 t4:Tok):
 Meets (Builtin.«tuple.__lt__» ⟨[.ref l,.ref b],[]⟩)
  (λ_ R s=>s.heap.get? l=some {cls:= .type "tuple",dict:=dd,data:= .seq #[.int p.1 t1,.str p.2 t2] n,slots:=sl}/\s.heap.get? b=some {cls:= .type "tuple",dict:=dd2,data:= .seq #[.int q.1 t3,.str q.2 t4] n2,slots:=sl2}/\
   R (.ok (.ret (.bool (aZ p q)))) s):=
 .of_wp λprog w A R s h=>by
  obtain⟨hp,g,d,tk,os⟩:=s;obtain⟨hl,hb,h⟩:=h;have f2:=AutoSeq1.sub_tuple_tuple
  wp_walk using Qy hl,Qy hb,wpAny_forIn_list _ (λrest b s'=>b.1=none/\s'=⟨hp,g,d,tk,os⟩/\(rest=[(Ww p.1 t1,Ww q.1 t3),(Xo p.2 t2,Xo q.2 t4)]\/(rest=[(Xo p.2 t2,Xo q.2 t4)]/\p.1=q.1)\/(rest=[]/\p.1=q.1/\p.2=q.2))) _
  case turn=>
   rintro⟨y,x⟩ rest b s' ⟨hb',rfl,h3⟩;rcases h3 with h3|⟨h3,e1⟩|⟨h3,_⟩
   ·injection h3 with hyx hrest
    injection hyx with hy hx
    subst hy hx;obtain⟨e,he,hiff⟩:=HT.eqAt_int A.in1 ⟨hp,g,d,tk,os⟩ p.1 t1 q.1 t3;refine JY (he prog w _ _ ?_);cases e with
    |true=>
     wp_walk
     exact⟨rfl,rfl,.inr (.inl ⟨hrest,hiff.mp rfl⟩)⟩
    |false=>
     have ne:p.1≠q.1:=λz=>absurd (hiff.mpr z) Ue;have hri:=HT.rcLt_int A.in1 ⟨hp,g,d,tk,os⟩ p.1 t1 q.1 t3 prog w;have hv:aZ p q=decide (p.1 < q.1):=by unfold aZ;simp[ne]
     rw[hv]at h
     wp_walk using hri
     exact⟨_,rfl,by simpa using h⟩
   ·injection h3 with hyx hrest
    injection hyx with hy hx
    subst hy hx;have he:=EqAt.str_str (A:=A.in1) (s:=⟨hp,g,d,tk,os⟩) p.2 t2 q.2 t4;refine JY (he prog w _ _ ?_);cases e:(p.2==q.2) with
    |true=>
     wp_walk
     exact⟨rfl,rfl,.inr (.inr ⟨hrest,e1,eq_of_beq e⟩)⟩
    |false=>
     have hri:∀(E:JK->K9->Prop)(Q:JK->K9->Prop),Q (.bool (decide (p.2.cps.toList < q.2.cps.toList))) ⟨hp,g,d,tk,os⟩->KS (Kc prog w) A.in1 (richCompare .Lt (.str p.2 t2) (.str q.2 t4)) Q E ⟨hp,g,d,tk,os⟩:=λE Q z=>(lt_str z:KS (Kc prog w) A.in1 (M6 .Lt (.str p.2 t2) (.str q.2 t4)) Q E _);have hv:aZ p q=decide (p.2.cps.toList < q.2.cps.toList):=by unfold aZ;simp[e1]
     rw[hv]at h
     wp_walk using hri
     exact⟨_,rfl,by simpa using h⟩
   ·cases h3
  case fin=>
   rintro⟨b1,b2⟩ s' ⟨hb',rfl,h3⟩;simp only at hb';subst hb';rcases h3 with h3|⟨h3,e1⟩|⟨h3,e1,e2⟩
   ·cases h3
   ·cases h3
   ·have hv:aZ p q=false:=by unfold aZ;rw[e1,e2];simp
    rw[hv]at h
    wp_walk
    exact⟨_,rfl,by simpa [Builtin.Tuple.tupleCompareSizes]using h⟩
  case h=>
   exact⟨rfl,rfl,.inl rfl⟩
end
def ES(Z:T5):R2:=λx y H Q=>∃a b p q,x= .ref a/\y= .ref b/\br Z H a [.int p.1,.str p.2]/\br Z H b [.int q.1,.str q.2]/\Q (.bl (aZ p q)) H
theorem NR{X:Cx}(hu:X.A.units < Ll):bU X (M6 .Lt) (ES X.K):=by
 intro acT s U H x y v u Q I rx ry h;obtain⟨a,b,p,q,rfl,rfl,ha,hb,z⟩:=h;cases rx;cases ry;obtain⟨its,r1,⟨⟨c1,d1,da1,s1⟩,o1,k1,n1,e1⟩,_⟩:=I.tuple ha;obtain⟨its2,r2,⟨⟨c2,d2,da2,s2⟩,o2,k2,n2,e2⟩,_⟩:=I.tuple hb;simp only at k1 e1 k2 e2;subst k1 e1 k2 e2;cases r1 with
 |cons x1 r1=>
  cases r1 with
  |cons x2 r1=>
   cases r1;obtain⟨t1,rfl⟩:=x1;obtain⟨t2,rfl⟩:=x2;cases r2 with
   |cons y1 r2=>
    cases r2 with
    |cons y2 r2=>
     cases r2;obtain⟨t3,rfl⟩:=y1;obtain⟨t4,rfl⟩:=y2;exact richCompare_meets_room (op:= .Lt) ⟨_,o1,rfl⟩ ⟨_,o2,rfl⟩ PySem.F.slot_tuple_lt PySem.F.entry_tuple_lt (PySem.F.args_tuple_lt_2 _ _) (NQ a b n1 n2 d1 d2 s1 s2 p q t1 t2 t3 t4) ⟨o1,o2,(λx=>nomatch x),.bl (aZ p q),H,I,rfl,z⟩ hu
def mM:J4->J4->(J4->Prop)->Prop:=λx y Q=>∃p q:Int×Str,x=cD p/\y=cD q/\Q (.bool (aZ p q))
theorem NS:cN Z (ES Z) mM:=λH O x y dx dy Qd R _ hx hy uu k=>by
 obtain⟨p,q,e1,e2,z⟩:=uu;subst e1 e2;obtain⟨a,xs,rfl,h1,g1⟩:=hx.tup;obtain⟨b,ys,rfl,h2,g2⟩:=hy.tup;cases g1 with
 |cons x1 g1=>
  cases g1 with
  |cons x2 g1=>
   cases g1;cases x1;cases x2;cases g2 with
   |cons y1 g2=>
    cases g2 with
    |cons y2 g2=>
     cases g2;cases y1;cases y2;exact⟨a,b,p,q,rfl,rfl,h1,h2,k _ _ H z (au.refl _) (.bl _)⟩
def NT(tc:DB)(tb:DS):DS:=λE Y=>∃W:Nat->Dl->Prop,(∃m,W m Y)/\∀m Y,W m Y->tc Y λb=>if b=true then tb {E with nx:=λY'=>∃m',m' < m/\W m' Y',ct:=λY'=>∃m',m' < m/\W m' Y',bk:=E.nx} Y else E.nx Y
theorem NU(hp:OO (Kc X.prog X.w) X.A X.env X.xe)(hc:PT X c (b5 X.K H0 O0 tc))(hb:b0 X body (bw X.K H0 O0 tb)):PS X (.While c body [] pos) (bw X.K H0 O0 (NT tc tb)):=
 (Cr hp hc hb).imp λD U H uu=>by
  obtain⟨O,Y,E,w,⟨W,⟨m0,w0⟩,st⟩,k1,k2,k3,k4⟩:=uu;refine⟨λm U' H'=>∃O' Y',Wd X.K H0 O0 H' O' U' Y'/\aJ H H' O O'/\W m Y',⟨m0,O,Y,w,aJ.refl _ _,w0⟩,λm σ1 H1 ⟨O1,δ1,w1,S1,q1⟩=>⟨O1,δ1,_,w1,st m δ1 q1,λb H2 q2 s2=>?_⟩⟩;cases b with
  |false=>
   rw[JS KJ]at q2⊢;exact k1 O1 δ1 σ1 H2 q2 (w1.mono s2) (S1.trans (.same s2))
  |true=>
   rw[KI rfl]at q2⊢;refine⟨λU' H'=>∃O' Y' m',m' < m/\Wd X.K H0 O0 H' O' U' Y'/\aJ H H' O O'/\W m' Y',λU' H' uu=>by obtain⟨O',Y',m',lt,w',S',q'⟩:=uu;exact⟨m',lt,O',Y',w',S',q'⟩,O1,δ1,_,w1.mono s2,q2,?_,k2,?_,?_⟩
   ·rintro O' Y' U' H' ⟨m',lt,q'⟩ w' S';exact⟨O',Y',m',lt,w',S1.trans ((aJ.same s2).trans S'),q'⟩
   ·intro O' Y' U' H' q' w' S';exact k1 O' Y' U' H' q' w' (S1.trans ((aJ.same s2).trans S'))
   ·rintro O' Y' U' H' ⟨m',lt,q'⟩ w' S';exact⟨O',Y',m',lt,w',S1.trans ((aJ.same s2).trans S'),q'⟩
theorem bM.vals(h:bM Z H O kv kd):aj Z H O (kv.map (·.2)) (kd.map (·.2)):=by
 induction h with
 |nil=>exact .nil
 |cons a _ ih=>exact .cons a ih
abbrev ig(ks:List Str)(ds:List J4):J4:=DH (ks.map .str) ds
def mN(i:Nat)(t:DS):DS:=λE Y=>∃kd,Y[i]?=some (some (.k kd))/\∃ks:List Str,kd.map (·.1)=ks.map VG/\t E (Y.set i (some (.v (ig ks (kd.map (·.2))))))
theorem dJ.z{H:Hp}{a:J7}{ob:Obj}{kvs:List (ao×V)}{k:ao}(e:H a=some (.frz ob (.dK kvs))):dJ H a (kV k) (eZ kvs k):= .inl ⟨kvs,k,.inr ⟨ob,e⟩,rfl,rfl⟩
theorem ag.fast{acT:List (J7×Obj)}{U:St}{s:K9}(I:ag X acT U H s){a:J7}{kv:List (ao×V)}(ha:H a=some (.dK kv)):∃o,ag X acT U (ah H a (.frz o (.dK kv))) s:=by
 obtain⟨z,hd,vs,rel,o,es,ep,g,r1,r2,r3⟩:=I.hok a _ ha;exact⟨o,I.write (x:=a) (e:=a) (o:= .frz o (.dK kv)) (h':=s.heap) (t':=s.toks) (by rw[ha];exact VY) (.inl rfl) (λ_ _ _ q=>q) ⟨o,g⟩ ⟨g,z,hd,vs,rel,o,es,ep,g,r1,r2,r3⟩⟩
theorem NV{st:Kk}{t:TS}(h:PS X st t)(i:Nat):PS X st (λD U H=>∃a kv,U[i]?=some (some (.ref a))/\H a=some (.dK kv)/\∀o,t D U (ah H a (.frz o (.dK kv)))):=by
 intro acT s U H D I q;obtain⟨a,kv,_,ha,q⟩:=q;obtain⟨o,I2⟩:=I.fast ha;exact h acT s U _ D I2 (q o)
theorem Wd.tell(w:Wd Z H0 O0 H O U Y)(h:U[i]?=some (some v))(hd:Dt Z H O v d):Wd Z H0 O0 H O U (Y.set i (some (.v d))):=by
 have li:i < Y.length:=by rw[<-w.len];exact(Uj.mp h).1
 have ne:∀{j:Nat}{y:Sl},(Y.set i (some (.v d)))[j]?=some (some y)->y.own->j≠i:=λ{j y} q hy z=>by
  subst z;rw[UK li]at q;cases q;exact hy
 refine⟨w.same,w.sub,w.new,w.trk,by simp[w.len],λj y q=>?_,λj k y z l' e1 y1 e2 z2 e3 e4=>?_⟩
 ·by_cases hj:j=i
  ·subst hj;rw[UK li]at q;cases q;exact⟨v,by rw[h];rfl,hd⟩
  ·rw[Us (Ne.symm hj)]at q;exact w.sl j y q
 ·have n1:=ne e1 y1;have n2:=ne e2 z2;rw[Us (Ne.symm n1)]at e1;rw[Us (Ne.symm n2)]at e2;exact w.dis j k _ _ l' e1 y1 e2 z2 e3 e4
theorem ET(i:Nat){st:Kk}{t:DS}(h:PS X st (bw X.K H0 O0 t)):PS X st (bw X.K H0 O0 (mN i t)):=
 (NV h i).imp λD U H uu=>by
  obtain⟨O,Y,E,w,⟨kd,e,ks,ek,q⟩,k1,k2,k3,k4⟩:=uu;obtain⟨l,kv,h,a,b,c,r⟩:=w.ownK e;refine⟨l,kv,h,c,λo=>?_⟩;obtain⟨O',w',S,n⟩:=w.frzK (y0:= .k kd) e trivial h (.frz o (.dK kv));have w2:=w'.tell (d:=ig ks (kd.map (·.2))) h (.dic bF (by rw[r.keys];exact ek) rfl n (r.vals.step S));rw[List.set_set]at w2;exact⟨O',_,E,w2,q,λO2 δ2 σ2 H2 z2 w2 S2=>k1 O2 δ2 σ2 H2 z2 w2 (S.trans S2),k2,λO2 δ2 σ2 H2 z2 w2 S2=>k3 O2 δ2 σ2 H2 z2 w2 (S.trans S2),λO2 δ2 σ2 H2 z2 w2 S2=>k4 O2 δ2 σ2 H2 z2 w2 (S.trans S2)⟩
theorem sh:∀{a b:List Str},a.map Ub=b.map Ub->a=b
 | [],[],_=>rfl
 | [],_::_,h=>by cases h
 |_::_,[],h=>by cases h
 |x::a,y::b,h=>by
  simp only[T9,U2,VB]at h;rw[h.1,sh h.2]
def bq:List Str->List J4->Str->Option J4
 |k::ks,d::ds,z=>if k=z then some d else bq ks ds z
 |_,_,_=>none
theorem uu:∀{kv:List (ao×V)}{ks:List Str}{ds:List J4},kv.map (·.1)=ks.map VG->aj Z H O (kv.map (·.2)) ds->bq ks ds z=some d->∃v,eZ kv (.inr z)=some v/\Dt Z H O v d
 | [],[],ds,_,_,e=>by unfold bq at e;cases e
 | [],_::_,ds,h,_,_=>by cases h
 |_::_,[],ds,h,_,_=>by cases h
 |p::kv,k::ks,ds,h,hd,e=>by
  rw[T9]at hd;cases hd with
  |cons h1 h2=>
   simp only[T9,U2]at h;obtain⟨p1,p2⟩:=p;obtain⟨rfl,h⟩:=h;unfold bq at e;by_cases hk:k=z
   ·rw[KI hk]at e;cases e;exact⟨p2,rV (by rw[hk]),h1⟩
   ·rw[JS hk]at e;obtain⟨v,a,b⟩:=uu h h2 e;exact⟨v,by rw[qq (λq=>hk (jO.mp q))];exact a,b⟩
theorem aj.ofInts:∀(ns:List Int),aj Z H O (ns.map V.int) (ns.map Uy)
 | []=>.nil
 |n::ns=>.cons (.int n) (aj.ofInts ns)
def mO(t:DT)(g:DG)(tc:DB)(te:DT)(k:Nat)(fr:List Nat):DA:=λY Q=>jL t g tc te k fr Y Q\/jM t g tc te k fr Y Q
theorem NW(hc:X.calm=true)(S:bu X.env.scope X.N N' k fr scope)(hi:DF X H0 O0 iter t)(gd:GD X.K g dg)(hk:ko g k)(hfr:fr.Nodup)
 (hg:∀fp C s H,PG (bS X scope N' fp C s H) tg g)(hf:∀fp C s H,fY (bS X scope N' fp C s H) ifs (b5 X.K H0 O0 tc))(he:∀fp C s H,PE (bS X scope N' fp C s H) elt (up X.K H0 O0 te))
 (hs:∀x,Me iter X.env x=pure x:=by intro _;rfl):FE X H0 O0 (.ListComp elt [⟨tg,iter,ifs,0⟩] scope pos) (mO t dg tc te k fr):=by
 intro acT s U H Q I h;obtain⟨O,Y,Qd,w,q,kk⟩:=h;rcases q with q|q
 ·exact fq hc S hi gd hk hfr hg hf he hs acT s U H Q I ⟨O,Y,Qd,w,q,kk⟩
 ·exact kr hc S hi gd hk hfr hg hf he hs acT s U H Q I ⟨O,Y,Qd,w,q,kk⟩
theorem NY:nK (bL 2 fr U) (((bL 2 fr U).set 0 v).set 1 u):=by
 refine⟨KJ,λi w h=>?_⟩
 match i with
 |0=>simp[bL,Uz]at h
 |1=>simp[bL,Uz]at h
 |i+2=>simpa [bL,Uz]using h
theorem uw:ko (tu Z n (rj (jA 0) (rj (jA 1) tq))) 2:=λfr U v H' R uu=>by obtain⟨a,xs,e,h1,h2,x,r,e1,y,r2,e2,e3,h⟩:=uu;exact⟨a,xs,e,h1,h2,x,r,e1,y,r2,e2,e3,NY,h⟩
theorem mP{T:String}{a c:L8}{t:DT}{np p:Pos}{Z':T5}(hK:X.K=Z')(hg:Gl X "isinstance")(hm:X.mg "isinstance"=none)(hv:M9 "isinstance"=some (.builtin "isinstance"))(ha:DF X H0 O0 a t)(hc:PE X c (tC (.ty T)))
 (hs:Ke [a,c] X.env=(false,eval a X.env)::Ke [c] X.env:=by rfl)(hs2:Ke [c] X.env=[(false,eval c X.env)]:=by rfl)(hb:(LR p (Ke [c] X.env)).any (·.1)=false:=by rfl):DE X H0 O0 (.Call (.Name "isinstance" np) [a,c] [] p) (kA Z' T t):=by
 subst hK;exact Mb hg hm hv ha hc hs hs2 hb
def eQ(f:Str)(d:J4):List (Str×J4)->List (Str×J4)
 | []=>[(f,d)]
 | (g,x)::r=>if g=f then(g,d)::r else(g,x)::eQ f d r
theorem jf.put(hv:Dt Z H O v d):∀{fs:List (Str×V)}{fd:List (Str×J4)},jf Z H O fs fd->jf Z H O (eB f v fs) (eQ f d fd)
 | [],[],_=>⟨rfl,.cons hv .nil⟩
 | [],_::_,h=>by cases h.1
 |_::_,[],h=>by cases h.1
 | (g,x)::fs,(g',y)::fd,⟨h1,h2⟩=>by
  simp only[T9,U2]at h1;obtain⟨rfl,h1⟩:=h1;simp only[T9]at h2;cases h2 with
  |cons a r=>
   unfold eB eQ;by_cases e:g=f
   ·rw[KI e,KI e];exact⟨by simp only[T9,h1],.cons hv r⟩
   ·rw[JS e,JS e];obtain⟨q1,q2⟩:=jf.put hv (fs:=fs) (fd:=fd) ⟨h1,r⟩;exact⟨by simp only[T9,q1],.cons a q2⟩
def mQ(C:J7)(i:Nat)(f:Str)(t:DT):DS:=λE Y=>t Y λd=>∃l fd,Y[i]?=some (some (.i l C fd))/\fd.length < 1000/\E.nx (Y.set i (some (.i l C (eQ f d fd))))
theorem gB{pos pos':Pos}(hc:dU X.K C)(hn:NoAttr X.K C f)(ho:PE X o (dR i))(he:DE X H0 O0 e t)(hs:M3 e (some (.Attribute o f pos')) pos.line X.env=pure false:=by rfl):
 PS X (.Assign [.Attribute o f pos'] e pos) (bw X.K H0 O0 (mQ C i f t)):=
 (wA ho he hs).imp λD U H ⟨O,Y,E,w,q,k1,k2,k3,k4⟩=>⟨O,Y,_,w,q,λd u H1 uu s1 r1=>by
  obtain⟨l,fd,e,hl,q1⟩:=uu;have w1:=w.mono s1;obtain⟨dx,fs,h,a,b,c,r⟩:=w1.ownI e;have lf:fs.length=fd.length:=by have:=congrArg YM r.1;simpa using this
  refine⟨.ref l,h,l,C,dx,fs,rfl,c,hc,hn,by rw[lf];exact hl,k1 _ _ _ _ q1 (w1.putY (y0:= .i l C fd) (y1:= .i l C (eQ f d fd)) trivial trivial e h λS a b=>⟨dx,_,rfl,a,b,bF,?_⟩) ⟨λb' o' z n=>?_,λ_ _ n=>n⟩⟩
  ·obtain⟨z1,z2⟩:=r.put (f:=f) r1;exact⟨z1,z2.step S⟩
  ·rw[aD (λy=>n (by rw[y];exact a))];exact s1 _ _ z⟩
abbrev EU(C:J7)(fd:List (Str×J4)):J4:=gb C (fd.map λp=>.str p.1) (fd.map (·.2))
inductive sj(Z:T5)(C:J7)(F:Fa)(vs:List V)(H:Hp)(Q:VK)(E:XK):Prop
 |mk (x dx:J7) (vs':List V) (H1:Hp) (O:Ex) (ds:List J4) (Qd:J4->Prop):vs= .ref x::vs'->H=ah (ah H1 dx (.own x)) x (.ins C dx [])->H1 x=none->H1 dx=none->dx≠x->(∀l,O l->H1 l≠none)->aj Z H1 O vs' ds->F ds Qd->
 (∀d H',Qd d->au H1 H'->Dt Z H' O (.ref x) d->Q .non H')->sj Z C F vs H Q E
theorem sk:∀U H Q,up Z H0 O0 (ib F t) U H Q->CV C (sj Z C F) [] E (gf Z H0 O0 t) U H Q:=
 λU H Q uu=>by obtain⟨O,Y,Qd,w,q,k⟩:=uu;exact⟨O,Y,_,w,q,λds vs H1 q1 s1 r1 x dx hx hdx ne=>⟨x,dx,vs,H1,O,ds,Qd,by rw[UX],rfl,hx,hdx,ne,(w.mono s1).trk,r1,q1,λd H2 q2 s2 r2=>⟨rfl,k d _ H2 q2 (s1.trans s2) r2⟩⟩⟩
def uz(N:List Str)(l C:J7)(ds:List J4):Dl:=some (.i l C [])::(fQ N (.none::ds)).tail
theorem NZ{H1:Hp}{O:Ex}(tr:∀l,O l->H1 l≠none)(r:aj Z H1 O vs ds)(hx:H1 x=none)(hdx:H1 dx=none)(ne:dx≠x):
 Wd Z H1 O (ah (ah H1 dx (.own x)) x (.ins C dx [])) (λl=>O l\/l=x) (start N (.ref x::vs)) (uz N x C ds):=by
 have w0:=DP (N:=N) tr (.cons .non r);have w1:=w0.mono (au.new (o:=HO.own x) hdx);have hx1:(ah H1 dx (.own x)) x=none:=by rw[aD (Ne.symm ne)];exact hx
 have:=w1.setY (i:=0) (p:=x) (ho:= .ins C dx []) (y0:= .i x C []) trivial hx1 λO' S a b=>⟨dx,[],rfl,a,b,bF,rfl,.nil⟩;exact this
theorem fH.okI{x qual:Str}{st:Kk}{f C:J7}{fd:L7}{N ps:List Str}{k:Nat}{F:Fa}(Fu:fH Z x qual st f fd)(S:aO N ps (ar st))(len:∀ds Q,F ds Q->ds.length+1=ps.length)
 (hbody:∀(cdv:JK) (A:Lu) (outer:List Env) (s:K9) (H H1:Hp) (O:Ex) (ds:List J4) (Q:J4->Prop) (E:XK) (l:J7),bz k (A.deeper (NM qual (ar st) s.heap.objs.size f cdv))->F ds Q->
  ∃t,b0 (jd Km P w Z mg base N qual (ar st) f cdv A outer s H E).nox (fX st) (bw Z H1 O t)/\t {nx:=λY=>∃fd,Y[0]?=some (some (.i l C fd))/\Q (EU C fd),rt:=λ_=>False} (uz N l C ds)):aB P w Z mg base Km (k+1) f fd ps (sj Z C F):=by
 refine Fu.ok S (λvs H Q E h=>?_) (λcdv A outer s H vs Q E hr h=>?_)
 ·obtain⟨x,dx,vs',H1,O,ds,Qd,rfl,_,_,_,_,_,r,q,_⟩:=h;rw[Uk,r.length];exact len _ _ q
 ·obtain⟨x,dx,vs',H1,O,ds,Qd,rfl,rfl,hx,hdx,ne,tr,r,q,k⟩:=h;obtain⟨t,ht,q'⟩:=hbody cdv A outer s _ H1 O ds Qd E x hr q;refine⟨_,ht,_,_,_,NZ tr r hx hdx ne,q',λO' Y' U' H' z w' S'=>?_,λd v H' z s' r'=>z.elim,λ_ _ _ _ z=>z.elim,λ_ _ _ _ z=>z.elim⟩;obtain⟨fd,e,z⟩:=z;obtain⟨dx',fs,h,a,b,c,r1,r2⟩:=w'.ownI e;refine k _ _ z w'.same (.obj c ?_ b (r2.step ⟨λ_ _ y _=>y,λb' _ n z=>n (w'.sub b' z)⟩));rw[show(fd.map λp:Str×J4=>Ub p.1)=(fd.map (·.1)).map Ub by rw[Uo];rfl,<-r1,Uo];rfl
theorem Dt.objI(h:Dt Z H O v (gb C kp ds)):∃a dx fs,v= .ref a/\H a=some (.ins C dx fs)/\kp=fs.map (λp=>Ub p.1)/\aj Z H O (fs.map (·.2)) ds:=by
 generalize e:gb C kp ds=x at h;cases h with
 | @obj a C' dx fs kp' ds' h1 h2 n r=>
  simp only[gb,SU,U2,Yq,Vx,Vq,Wh,and_true,true_and]at e;obtain⟨e1,e2,e3⟩:=e;have e1:C=C':=by exact_mod_cast e1
  subst e1 e2 e3;exact⟨a,dx,fs,rfl,h1,h2,r⟩
 |_=>first|cases e|simp[gb]at e
theorem EV:∀{fs:List (Str×V)}{ks:List Str}{ds:List J4},fs.map (λp=>Ub p.1)=ks.map Ub->aj Z H O (fs.map (·.2)) ds->bq ks ds f=some d->∃v,fs.lookup f=some v/\Dt Z H O v d
 | [],[],ds,_,_,e=>by unfold bq at e;cases e
 | [],_::_,ds,h,_,_=>by cases h
 |_::_,[],ds,h,_,_=>by cases h
 | (g,x)::fs,k::ks,ds,h,hd,e=>by
  rw[T9]at hd;cases hd with
  |cons h1 h2=>
   simp only[T9,U2,VB]at h;obtain⟨rfl,h⟩:=h;unfold bq at e;rw[US];by_cases hk:g=f
   ·rw[KI hk]at e;cases e;subst hk;exact⟨x,KJ,h1⟩
   ·rw[JS hk]at e;have:(f==g)=false:=by simpa using Ne.symm hk
    rw[this];exact EV h h2 e
def jR(C:J7)(f:Str)(t:DT):DT:=λY Q=>t Y λx=>∃ks ds d,x=gb C (ks.map .str) ds/\bq ks ds f=some d/\Q d
theorem bW(hc:dU X.K C)(hn:NoAttr X.K C f)(he:DE X H0 O0 e t)(hb:Nn e f X.env (eval e X.env)=eval e X.env:=by rfl):DE X H0 O0 (.Attribute e f pos) (jR C f t):=
 (tJ he hb).imp λU H Q uu=>by obtain⟨O,Y,Qd,w,q,k⟩:=uu;exact⟨O,Y,_,w,q,λx v H1 uu s1 r1=>by
  obtain⟨ks,ds,d,ex,ed,q1⟩:=uu;subst ex;obtain⟨a,dx,fs,rfl,h1,h2,r⟩:=r1.objI;obtain⟨v,hv,dv⟩:=EV h2.symm r ed;exact⟨a,C,dx,fs,v,rfl,h1,hc,hn,hv,k _ _ _ q1 s1 dv⟩⟩
def gX(xs:Array Nat):Prop:=xs.toList.Pairwise (· < ·)
theorem gX.lt(h:gX xs)(hik:i < k)(hk:k < xs.size):xs[i]'J1 < xs[k]:=by
 have:=X7.mp h i k (by simpa using(by omega:i < xs.size)) (by simpa using hk) hik;simpa using this
theorem N0(h:gX xs):∀(f lo hi:Nat),hi - lo<=f->lo<=hi->hi<=xs.size->(∀k(hk:k < xs.size),k < lo->xs[k] < j)->(∀k(hk:k < xs.size),hi<=k->j<=xs[k])->
 lo<=XN xs j f lo hi/\XN xs j f lo hi<=hi/\(∀k(hk:k < xs.size),k < XN xs j f lo hi->xs[k] < j)/\(∀k(hk:k < xs.size),XN xs j f lo hi<=k->j<=xs[k]):=by
 intro f
 induction f with
 |zero=>
  intro lo hi a b c d e;obtain rfl:lo=hi:=J1
  exact⟨T8 _,T8 _,d,e⟩
 |succ f ih=>
  intro lo hi a b c d e;unfold XN;by_cases hl:lo < hi
  ·rw[KI hl];simp only;have hm:(lo+hi)/ 2 < xs.size:=J1
   have eg:xs.getD ((lo+hi)/ 2) j=xs[(lo+hi)/ 2]:=by simp[Xl,hm]
   rw[eg];split
   ·rename_i hx;have d':∀k(hk:k < xs.size),k < (lo+hi)/ 2+1->xs[k] < j:=λk hk hlt=>by
     rcases WA k ((lo+hi)/ 2) with z|z
     ·exact SH (h.lt z hm) hx
     ·obtain rfl:k=(lo+hi)/ 2:=J1
      exact hx
    obtain⟨p,q,r,s⟩:=ih ((lo+hi)/ 2+1) hi J1 J1 c d' e;exact⟨J1,q,r,s⟩
   ·rename_i hx;have e':∀k(hk:k < xs.size),(lo+hi)/ 2<=k->j<=xs[k]:=λk hk hge=>by
     rcases WA ((lo+hi)/ 2) k with z|z
     ·exact UN (WC hx) (WM (h.lt z hk))
     ·obtain rfl:k=(lo+hi)/ 2:=J1
      exact WC hx
    obtain⟨p,q,r,s⟩:=ih lo ((lo+hi)/ 2) J1 J1 J1 d e';exact⟨p,J1,r,s⟩
  ·rw[JS hl];obtain rfl:lo=hi:=J1
   exact⟨T8 _,T8 _,d,e⟩
theorem xU(h:gX xs)(j:Nat):VW xs j<=xs.size/\(∀k(hk:k < xs.size),k < VW xs j->xs[k] < j)/\(∀k(hk:k < xs.size),VW xs j<=k->j<=xs[k]):=by
 unfold VW;obtain⟨_,b,c,d⟩:=N0 h (j:=j) xs.size 0 xs.size J1 (UY _) (T8 _) (λk hk z=>absurd z J1) (λk hk z=>absurd hk J1);exact⟨b,c,d⟩
theorem N1(h:gX xs)(hi:i < xs.size):VW xs (xs[i]+1)=i+1:=by
 obtain⟨a,b,c⟩:=xU h (xs[i]+1);apply Nat.le_antisymm
 ·refine WC λz=>?_;have:=b (i+1) J1 z;have:=h.lt (show i < i+1 by omega) (show i+1 < xs.size by omega);omega
 ·refine WC λz=>?_;have:=c i hi J1;omega
theorem N2(h:gX xs):VW xs 0=0:=by
 obtain⟨a,b,c⟩:=xU h 0;refine Nat.eq_zero_of_not_pos λz=>?_;exact absurd (b 0 J1 z) J1
theorem gX.ins(h:gX xs)(hj:xs[VW xs j]?≠some j):gX (SetTable.insertAt xs (VW xs j) j):=by
 obtain⟨a,b,c⟩:=xU h j;have h0:xs.toList.Pairwise (· < ·):=h;unfold gX;rw[SetTable.toList_insertAt];generalize VW xs j=p at*;rw[<-XS p xs.toList,Wc]at h0;rw[Wc];have lt1:∀x∈xs.toList.take p,x < j:=λx hx=>by
  obtain⟨k,hk,rfl⟩:=X0 hx;rw[U6]at hk;rw[List.getElem_take];have:=b k (by simp at hk;omega) J1;simpa using this
 have lt2:∀x∈xs.toList.drop p,j < x:=λx hx=>by
  obtain⟨k,hk,rfl⟩:=X0 hx;rw[Xq]at hk;rw[List.getElem_drop];have hs:p+k < xs.size:=by simp at hk;omega
  have h1:=c (p+k) hs J1;have h2:xs[p+k]≠j:=λe=>by
   rcases Z3 k with z|z
   ·subst z;exact hj (by rw[Xm (show p < xs.size from hs)];exact congrArg some e)
   ·have:=c p J1 (T8 _);have:=h.lt (show p < p+k by omega) hs;omega
  have:j < xs[p+k]:=J1
  simpa using this
 refine⟨h0.1,Vd.mpr ⟨lt2,h0.2.1⟩,λx hx y hy=>?_⟩;rcases Ud.mp hy with e|hy
 ·rw[e];exact lt1 x hx
 ·exact h0.2.2 x hx y hy
theorem N3{t:OI}(hd:t.dummies=#[]):∀(f:Nat)(p:SetTable.Probe){j:Nat}{d:Option Nat},p.dummy=none->nT t ha h f p=some (.empty j d)->d=none/\t.place[VW t.place j]?≠some j:=by
 intro f
 induction f with
 |zero=>intro p j d _ e;cases e
 |succ f ih=>
  intro p j d hp e;unfold nT at e;have nd:∀k,SetTable.has t.dummies k=false:=λk=>by rw[hd];rfl
  have adv:(t.advance p).dummy=none:=by unfold SetTable.advance;split<;>exact hp
  cases hs:t.slot p.j with
  |empty=>
   rw[hs]at e;simp only[VF,SetTable.Met.empty.injEq]at e;obtain⟨rfl,rfl⟩:=e;refine⟨hp,λz=>?_⟩;unfold TX at hs;simp only[z,beq_self_eq_true,if_true]at hs;cases hs
  |dummy=>
   unfold TX at hs;simp only[nd]at hs;split at hs
   ·cases hs
   ·simp at hs
  |live i=>
   rw[hs]at e;simp only at e;split at e
   ·cases e
   ·exact ih _ adv e
structure fx (t:OI):Prop where
 ris:gX t.place
 dum:t.dummies=#[]
theorem fx.fresh:fx (.fresh f m l):=⟨.nil,rfl⟩
theorem N4(n:Nat):gX (Array.range n):=by
 unfold gX;rw[Array.toList_range];exact Zu
theorem fx.standIn{t:OI}:fx (t.standIn n):=⟨N4 n,rfl⟩
theorem fx.orStandIn(h:fx t):fx (t.orStandIn n):=by
 unfold ZZ;split
 ·exact h
 ·exact .standIn
theorem fx.layNew(h:fx t)(es:Array (Int×JK))(hs:Int)(x:JK):fx (layNew t es hs x).2.1:=by
 unfold PySem.layNew;cases hf:t.freeSlot hs with
 |none=>exact .standIn
 |some q=>
  obtain⟨slot,wd⟩:=q;simp only;refine fx.orStandIn ?_;unfold SetTable.freeSlot at hf;split at hf
  ·rename_i j d hp;simp only[VF,Yq]at hf;obtain⟨e1,e2⟩:=hf;obtain⟨rfl,nj⟩:=N3 h.dum _ _ (by rfl) hp;simp at e1;subst e1;unfold SetTable.put;refine⟨h.ris.ins nj,?_⟩;simp only[h.dum];rfl
  ·cases hf
theorem fx.relay(h:fx t)(es:Array (Int×JK))(n:Nat):fx (Ow t es n).2.1:=by
 unfold Ow;split
 ·rename_i t' order hr;dsimp only;split
  ·unfold TR oF at hr;cases hc:Z9 (Z0 n - 1) (es.map (·.1)) with
   |none=>rw[hc]at hr;cases hr
   |some ow=>
    rw[hc]at hr;simp only[bind,oH,pure,VF,Yq]at hr;obtain⟨e1,_⟩:=hr;subst e1;refine⟨?_,rfl⟩;unfold gX;simp only[List.toList_toArray];rw[Vk];refine List.Pairwise.filterMap _ (λa a' hl b hb b' hb'=>?_) Zu;cases h1:ow.getD a none with
    |none=>rw[h1]at hb;cases hb
    |some u=>
     cases h2:ow.getD a' none with
     |none=>rw[h2]at hb';cases hb'
     |some u'=>
      rw[h1]at hb;rw[h2]at hb';cases hb;cases hb';exact hl
  ·exact .standIn
 ·exact .standIn
structure N5 (P:M8) (w:LZ) (o:Obj) (ss:List Int):Prop where
 ex:o.ExactSet
 da:∃es ep t,o.data= .set es ep t/\ElemsOf (O8 P w) es.toList/\(∃ss',Lx (es.toList.map (·.2)) ss'/\ss'.Perm ss)/\es.size < Nw/\t.fits es.size=true/\(gU w=true\/t.led=true)/\fx t
def dM(P:M8)(w:LZ)(h:LO)(a:J7)(ss:List Int):Prop:=∃o,h.get? a=some o/\N5 P w o ss
theorem EW:∀{vs:List JK}{ss:List Int},Lx vs ss->((∃v∈vs,v.isInt k=true)↔k∈ss)
 |_,_,.nil=>by simp
 |_,_,.cons x t r=>by
  have ih:=EW (k:=k) r;constructor
  ·rintro⟨v,hv,e⟩;rcases Ud.mp hv with z|z
   ·subst z;obtain⟨u,e'⟩:=Z5 e;cases e';exact UG
   ·exact UD _ (ih.mp ⟨v,z,e⟩)
  ·intro hk;rcases Ud.mp hk with z|z
   ·subst z;exact⟨_,UG,by simp[S4]⟩
   ·obtain⟨v,hv,e⟩:=ih.mpr z;exact⟨v,UD _ hv,e⟩
theorem uA{vs vs':List JK}(p:vs'.Perm vs):∀{ss:List Int},Lx vs ss->∃ss',Lx vs' ss'/\ss'.Perm ss:=by
 induction p with
 |nil=>intro ss h;exact⟨ss,h,.refl _⟩
 |cons x p ih=>
  intro ss h;cases h with
  |cons y t r=>obtain⟨s1,a,b⟩:=ih r;exact⟨y::s1,.cons y t a,b.cons y⟩
 |swap x y l=>
  intro ss h;cases h with
  |cons a t r=>cases r with|cons b u r=>exact⟨b::a::_,.cons b u (.cons a t r),.swap _ _ _⟩
 |trans p q ih1 ih2=>
  intro ss h;obtain⟨s1,a,b⟩:=ih2 h;obtain⟨s2,c,d⟩:=ih1 a;exact⟨s2,c,d.trans b⟩
theorem EX:∀{vs:List JK}{ss:List Int},Lx vs ss->Lx (vs++[.int x t]) (ss++[x])
 |_,_,.nil=>.cons x t .nil
 |_,_,.cons y u r=>.cons y u (EX r)
theorem sr:∀{vs:List JK}{ss:List Int},Lx vs ss->vs.length=ss.length
 |_,_,.nil=>rfl
 |_,_,.cons y u r=>by simp[sr r]
def fy(ss:List Int)(x:Int):List Int:=if x∈ss then ss else ss++[x]
theorem dM.mk{h:LO}{es es':Array (Int×JK)}{t t':OI}(o1:h.get? a=some o)(x1:o.ExactSet)(d1:o.data= .set es ep t)
 (el:ElemsOf (O8 P w) es'.toList)(sp:∃ss',Lx (es'.toList.map (·.2)) ss'/\ss'.Perm ss)(b1:es'.size < Nw)(f1:t'.fits es'.size=true)(l1:gU w=true\/t'.led=true)(p1:fx t'):
 (h.update a (Y6 es' t')).get? a=some {o with data:= .set es' (ep+1) t'}/\dM P w (h.update a (Y6 es' t')) a ss:=by
 have g:(h.update a (Y6 es' t')).get? a=some {o with data:= .set es' (ep+1) t'}:=by
  have z:=VA (Y6 es' t') o1 (by rw[putSet_of es' t' d1];rfl);rw[putSet_of es' t' d1]at z;exact z
 exact⟨g,_,g,x1,es',ep+1,t',rfl,el,sp,b1,f1,l1,p1⟩
theorem EY{g:Bool->Sem Unit}(hg:∀(b:Bool) (s₁:K9) (Q':Unit->K9->Prop),Q' () s₁->KS (Kc P w) A (g b) Q' E s₁)
 (o1:s.heap.get? a=some o)(x1:o.ExactSet)(d1:o.data= .set es ep t)
 {es1:Array (Int×JK)}{t2:OI}(el:ElemsOf (O8 P w) es1.toList)(sp:∃ss',Lx (es1.toList.map (·.2)) ss'/\ss'.Perm ss)
 (b1:es1.size < Nw)(f2:t2.fits es1.size=true)(l2:gU w=true\/t2.led=true)(p2:fx t2){R:Option Bool->K9->Prop}
 (h:∀h',Wz a s.heap h'->dM P w h' a ss->R (some true) {s with heap:=h'}):
 KS (Kc P w) A (do
  storeSet a es1 t2
  if (!wd && t2.tooFull)=true then do
   g (Ow t2 es1 (W0 es1.size)).2.2
   storeSet a (Ow t2 es1 (W0 es1.size)).1 (Ow t2 es1 (W0 es1.size)).2.1
   pure (some true)
   else pure (some true)) R E s:=by
 refine JY (wpAny_storeSet_of o1 d1 ?_ (fits_of_scanBound b1));obtain⟨o2,S2⟩:=dM.mk (P:=P) o1 x1 d1 el sp b1 f2 l2 p2;have sb:=Vc s.heap a (Y6 es1 t2);split
 ·have rp:=relayAll_perm t2 es1 (W0 es1.size);have rf:=relayAll_fits t2 es1 (W0 es1.size);have rl:=abz t2 es1 (W0 es1.size);have rq:=p2.relay es1 (W0 es1.size);generalize Ow t2 es1 (W0 es1.size)=Z at rp rf rl rq⊢;obtain⟨es2,t3,gv⟩:=Z;dsimp only at rp rf rl rq⊢;have sz:es2.size=es1.size:=by rw[<-UH,rp.length_eq,UH]
  obtain⟨ss',q1,q2⟩:=sp;obtain⟨ss2,q3,q4⟩:=uA (rp.map (·.2)) q1;refine JY (hg _ _ _ (JY (wpAny_storeSet_of o2 rfl ?_ (fits_of_scanBound (by rw[sz];exact b1)))));obtain⟨_,S3⟩:=dM.mk (P:=P) (w:=w) (t':=t3) o2 x1 rfl (el.perm rp) ⟨ss2,q3,q4.trans q2⟩ (by rw[sz];exact b1) rf (by rw[rl];exact l2) rq;exact Kd (h _ (sb.trans (Vc _ a _)) S3)
 ·exact Kd (h _ sb S2)
theorem abt{Q:Bool->K9->Prop}(hS:dM P w s.heap a ss)(hroom:ss.length+1 < Nw)
 (h:∀h' b,Wz a s.heap h'->dM P w h' a (fy ss x)->Q b {s with heap:=h'}):
 KS (Kc P w) A (setAddHashed a (.int x tk) (hashInt x)) Q E s:=by
 obtain⟨o,o1,x1,es,ep,t,d1,el,⟨ss',s1,s2⟩,b1,f1,l1,p1⟩:=hS;have hk:(O8 P w).is x (.int x tk)=true:=intKind_is _ _ _ _;have hsc:(Ww x tk).scannable=true:=rfl;have ln:es.size=ss.length:=by rw[<-s2.length_eq,<-sr s1,T6,UH]
 unfold setAddHashed setAddHashedIn;refine Mh (JY (Q5 o1 d1 f1 ?_));dsimp only;rw[byScan_of hsc b1 el,KI rfl];unfold setAddByScan;refine JY (JY (P4 (JY (wpAny_setScan_of hk o1 d1 f1 el ?_))));have mem:(∃e∈es.toList,(O8 P w).is x e.2=true)↔x∈ss:=by
  rw[<-s2.mem_iff,<-EW s1];constructor
  ·rintro⟨e,he,q⟩;exact⟨e.2,Ug.mpr ⟨e,he,rfl⟩,q⟩
  ·rintro⟨v,hv,q⟩;obtain⟨e,he,rfl⟩:=Ug.mp hv;exact⟨e,he,q⟩
 cases hr:List.findIdx? (λe=>(O8 P w).is x e.2) es.toList with
 |some j=>
  obtain⟨hj,hp,_⟩:=List.findIdx?_eq_some_iff_getElem.mp hr;have hx:x∈ss:=mem.mp ⟨_,Wa hj,hp⟩;refine Kd (Kd ?_);have z:=h s.heap false (Wz.refl a s.heap) (by unfold fy;rw[KI hx];exact⟨o,o1,x1,es,ep,t,d1,el,⟨ss',s1,s2⟩,b1,f1,l1,p1⟩);have e:s={s with heap:=s.heap}:=by cases s;rfl
  rw[e];exact z
 |none=>
  dsimp only;have hx:x∉ss:=λz=>by
   obtain⟨e,he,q⟩:=mem.mpr z;have:=List.findIdx?_eq_none_iff.mp hr e he;rw[q]at this;cases this
  have eS:fy ss x=ss++[x]:=JS hx;rw[eS]at h;have lp:=layNew_perm t es (hashInt x) (.int x tk);have lf:=layNew_fits t es (hashInt x) (.int x tk);have ll:=Nq t es (hashInt x) (.int x tk);have lt:=p1.layNew es (hashInt x) (.int x tk);generalize layNew t es (hashInt x) (.int x tk)=L at lp lf ll lt⊢;obtain⟨es1,t1,wd,gv⟩:=L;dsimp only at lp lf ll lt⊢;rw[oZ]at lp;have el1:ElemsOf (O8 P w) es1.toList:=(el.push hk hsc).perm lp;have sp1:∃ss',Lx (es1.toList.map (·.2)) ss'/\ss'.Perm (ss++[x]):=by
   have s3:Lx ((es.toList++[(hashInt x,Ww x tk)]).map (·.2)) (ss'++[x]):=by
    rw[UA];exact EX s1
   obtain⟨s4,q1,q2⟩:=uA (lp.map (·.2)) s3;exact⟨s4,q1,q2.trans (s2.append_right _)⟩
  have n1:es1.size=es.size+1:=by rw[<-UH,lp.length_eq];simp
  have b2:es1.size < Nw:=J1
  have l2:gU w=true\/t1.led=true:=by rw[ll];exact l1
  have gw:∀(b:Bool)(s₁:K9)(Q':Unit->K9->Prop),Q' () s₁->KS (Kc P w) A (match b with|true=>rule "set.scan.the-table-gave-way" |false=>pure ()) Q' E s₁:=
   λb s₁ Q' z=>by cases b<;>first|exact Kd z|exact P4 z
  refine JY (gw _ _ _ ?_);split
  ·refine JY ?_;rw[hashByValue_scannable 8 hsc];refine Kd ?_;rw[KI (show plainKind (Ww x tk)=true from rfl)];exact EY gw o1 x1 d1 el1 sp1 b2 lf l2 lt λh' sb S'=>Kd (h h' true sb S')
  ·refine JY (Kd ?_);rw[KI rfl];exact EY gw o1 x1 d1 el1 sp1 b2 lf l2 lt λh' sb S'=>Kd (h h' true sb S')
def kE(val:Nat->Int)(i:Nat):List Int:=((Vo i).map val).foldl fy []
theorem EZ(val:Nat->Int)(i:Nat):kE val (i+1)=fy (kE val i) (val i):=by
 unfold kE;rw[Zp,UA,Vt];rfl
theorem E1(val:Nat->Int):∀i,(kE val i).length<=i
 |0=>T8 _
 |i+1=>by
  have ih:=E1 val i;rw[EZ];unfold fy;split
  ·omega
  ·simp;omega
theorem abX{ss:List Int}(h:ss.Nodup):(fy ss x).Nodup:=by
 unfold fy;split
 ·exact h
 ·rename_i hx;refine WT.mpr ⟨h,KJ,λa ha b hb=>?_⟩;rw[Ur]at hb;subst hb;intro e;subst e;exact hx ha
theorem N8:y∈fy ss x↔y∈ss\/y=x:=by
 unfold fy;split
 ·rename_i hx;exact⟨.inl,λz=>z.elim id λe=>by subst e;exact hx⟩
 ·simp
theorem xV:∀{l ss:List Int},y∈l.foldl fy ss↔y∈ss\/y∈l
 | [],ss=>by simp
 |a::l,ss=>by rw[UO,xV,N8,Ud];exact or_assoc
theorem xW:∀{l ss:List Int},ss.Nodup->(l.foldl fy ss).Nodup
 | [],_,h=>h
 |a::l,_,h=>by rw[UO];exact xW (abX h)
theorem dM.stay{h h':LO}(x:dM P w h a ss)(k:∀o,h.get? a=some o->h'.get? a=some o):dM P w h' a ss:=
 let ⟨o,e,r⟩:=x;⟨o,k o e,r⟩
section
variable{P:M8}{w:LZ}{A:Lu}{R:Result->K9->Prop}{I:J7}{fp wr:List J7}{G:Array SD->Array SD->Prop}{n:Nat}{Pv:Nat->JK->Prop}{St:Nat->K9->Prop}
theorem N9(W:WalksS P w A.in1 I fp wr G n Pv St)(S:J7)(hSf:S∉fp)(val:Nat->Int)(hval:∀i v,Pv i v->∃t,v= .int (val i) t)(hb:n+1 < Nw):
 ∀(k i:Nat)(s:K9),n - i=k->i<=n->St i s->dM P w s.heap S (kE val i)->
  (∀s',Moved (S::wr) G s s'->dM P w s'.heap S (kE val n)->R (.ok (.ret .none)) s')->Mo (Kc P w) A (.builtin "set.update.loop" ⟨[.ref S,.ref I],[]⟩) R s:=by
 have sw:S∉wr:=λz=>hSf (W.sub _ z);have sub:∀b∈wr,b∈S::wr:=λb z=>UD _ z;intro k
 induction k with
 |zero=>
  intro i s e1 e2 st hS q;obtain rfl:i=n:=J1
  refine OA Yf ?_;rw[Wb W6 _];show KS _ A.in1 (MN (.ref I) >>=_) _ _ s;exact JY (W.done s _ _ st λs' m=>Kd (q s' (m.mono sub) (hS.stay λo e=>m.heap S o sw e)))
 |succ k ih=>
  intro i s e1 e2 st hS q;have lt:i < n:=J1
  refine OA Yf ?_;rw[Wb W6 _];show KS _ A.in1 (MN (.ref I) >>=_) _ _ s;refine JY (W.item i s _ _ lt st λv s' hP st' m=>?_);obtain⟨t,rfl⟩:=hval i v hP;have hS':=hS.stay (h':=s'.heap) λo e=>m.heap S o sw e;show KS _ A.in1 (NO [Ww (val i) t] (setAdd S (.int (val i) t)) >>=_) _ _ s';refine JY (Mh ?_);unfold setAdd;refine Mh (JY ((O8 P w).pyHash (k:=val i) (intKind_is _ _ _ _) ?_));have rm:(kE val i).length+1 < Nw:=by have:=E1 val i;omega
  refine abt (s:={s' with toks:=s'.toks+1}) hS' rm λh' b sb S2=>?_;rw[<-EZ]at S2;refine Kd ⟨OL W6 _,ih (i+1) _ J1 lt (W.frame _ s' _ _ st' (VI _) λb hb o e=>?_) S2 λs2 m2 S3=>?_⟩
  ·rw[sb.2 b (λz:b=S=>hSf (by rw[<-z];exact hb))];exact e
  ·refine q s2 (Moved.trans W.gtrans ((m.mono sub).then_heap (VI _) λb o hb e=>?_) m2) S3;rw[sb.2 b (λz:b=S=>hb (by rw[z];exact UG))];exact e
end
theorem dM.fresh{h:LO}(e:h.get? a=some {cls:= .type "set",dict:=none,data:= .set #[] 0 (.fresh 0 0 (!gU w))}):dM P w h a []:=by
 refine⟨_,e,⟨rfl,rfl,rfl⟩,#[],0,_,rfl,λe he=>by simp at he,⟨[],.nil,.refl _⟩,KL,rfl,?_,fx.fresh⟩;cases hb:gU w with
 |true=>exact .inl rfl
 |false=>exact .inr rfl
theorem Oa{Q:JK->K9->Prop}
 (hh:A.handled=none)(hl:s.heap.IsList l items)(hi:Lx items.toList ss)(hb:items.size+1 < Nw)
 (h:∀(h':LO) (tk:Nat),dM P w h' s.heap.objs.size (ss.foldl fy [])->(∀b o,s.heap.get? b=some o->h'.get? b=some o)->Q (.ref s.heap.objs.size) {s with heap:=h',toks:=tk}):
 KS (Kc P w) A (call (.type "set") [.ref l]) Q E s:=by
 obtain⟨c,tl,hmro⟩:=PySem.F.called_set.mro;have hmade:=PySem.F.called_set.made;have hsub:=PySem.F.called_set.sub;refine wpAny_call (codeAny_of_tree ?_);show KS _ _ (callAny (.type "set") _) _ _ _;refine Kd ⟨Code.quiet_builtin _ Kg,OA PySem.F.entry_type_call ?_⟩;rw[Around.under_plain (weight_type_call_type "set" [.ref l] []) rfl];have h1:=PySem.F.called_set.notType;have h2:=PySem.F.called_set.canCreate;have hct:=PySem.F.typeCall_set_1 (.ref l)
 repeat (any_goals (first|assumption|wp_step))
 generalize hob:({cls:= .type "set",dict:=none,data:= .set #[] 0 (.fresh 0 0 (!gU w))}:Obj)=ob;refine OZ (Nt (P:=P) (w:=w) (.ref l) (E:=E) (Q₁:=λu s₁=>u= .ref s.heap.objs.size/\s₁={s with heap:=s.heap.push ob}) (by subst hob;exact⟨rfl,rfl⟩)) λr s₁ hr=>?_;cases r with
 |error e=>exact hr
 |ok fl=>
  cases fl with
  |ret u=>
   obtain⟨rfl,rfl⟩:=hr;have hS:(s.heap.push ob).get? s.heap.objs.size=some ob:=UE _ (by subst hob;rfl);have hT:Shared.TypeIs {s with heap:=s.heap.push ob} (.ref s.heap.objs.size) "set":=⟨_,hS,by subst hob;rfl⟩;have hli:=PySem.F.called_set.init.lookup;have hbi:=PySem.F.called_set.init.bind (.ref s.heap.objs.size)
   repeat (any_goals (first|assumption|wp_step))
   refine OZ (codeAny_call_builtin (R:=wants (λr s₂=>r= .none/\∃h' tk,s₂={s with heap:=h',toks:=tk}/\dM P w h' s.heap.objs.size (ss.foldl fy [])/\∀b o,s.heap.get? b=some o->h'.get? b=some o) E)
    PySem.F.called_set.init.plain PySem.F.entry_set_init (check_set_init_1 hT ?_)) λr₂ s₂ hr₂=>?_
   ·obtain⟨ol,o1,c1,nl,d1⟩:=hl;obtain⟨oc,od,oda,osl⟩:=ol;simp only at c1 d1;subst c1;subst d1;have o2:(s.heap.push ob).get? l=some {cls:= .type "list",dict:=od,data:= .seq items nl,slots:=osl}:=Ua _ o1;have q1:=PySem.F.sub_list_set;have q2:=PySem.F.sub_list_frozenset;have q3:(Xk "list"==Xk "dict")=false:=KL
    have l1:(s.heap.push ob).IsList l items:=⟨_,o2,rfl,nl,rfl⟩;subst hob;unfold Builtin.«set.__init__» noKeywords Builtin.Frozenset.updateFrom;generalize hPI:pyIter=PI
    wp_walk
    subst hPI;refine Ru l1 ?_;refine JY (wpAny_runValue ?_);have ll:l < s.heap.objs.size:=Ut o1;have sz:∀ob:Obj,(s.heap.push ob).objs.size=s.heap.objs.size+1:=λ_=>WH _ _;have n1:∀ob:Obj,l≠(s.heap.push ob).objs.size:=λ_=>by rw[sz];exact UQ (VE ll)
    have n2:∀ob:Obj,s.heap.objs.size∉[(s.heap.push ob).objs.size,l]:=λ_=>by
     rw[sz];simp only[Ud,UI,or_false,not_or];exact⟨UQ (V9 _),WO ll⟩
    have hv:∀(i:Nat)(v:JK),items[i]?=some v->∃t,v= .int ((λi:Nat=>(ss[i]?).getD 0) i) t:=λi v e=>by
     rw[<-Yy]at e;have:∀{vs:List JK}{ss:List Int},Lx vs ss->∀(i:Nat)(v:JK),vs[i]?=some v->∃t,v= .int ((ss[i]?).getD 0) t:=by
      intro vs ss x
      induction x with
      |nil=>intro i v e;simp at e
      |cons y t r ih=>
       intro i v e;cases i with
       |zero=>simp at e;exact⟨t,by rw[<-e];rfl⟩
       |succ i=>simp only[Vg]at e⊢;exact ih i v e
     exact this hi i v e
    have hm:kE (λi=>(ss[i]?).getD 0) items.size=ss.foldl fy []:=by
     have e:items.size=ss.length:=by rw[<-sr hi,UH]
     unfold kE;rw[e];congr 1;apply Xs KJ;intro i a b;simp at a b⊢;rw[UM J1];rfl
    refine N9 (ZG (show A.in1.in1.in1.handled=none by simp[hh]) _ l (n1 _) items).toS s.heap.objs.size (n2 _) _ hv hb (items.size - 0) 0 _ J1 (UY _)
     ⟨⟨_,UE _ rfl,rfl,rfl⟩,l1.push _⟩ ?hS0 ?hR
    case hS0=>
     exact dM.fresh (Ua _ hS)
    case hR=>
     intro s' m S';rw[hm]at S';obtain⟨h',g',d',tk',os'⟩:=s';obtain rfl:g'=s.gens:=m.gens;obtain rfl:d'=s.drawn:=m.drawn;obtain rfl:os'=s.os:=m.os;show KS _ _ _ _ _ _;refine Kd (Kd ⟨rfl,h',tk',rfl,S',λb o e=>?_⟩);have hb1:b < s.heap.objs.size:=Ut e;refine m.heap b o ?_ (Ua _ (Ua _ e));rw[sz];simp only[Ud,UI,or_false,not_or];exact⟨UQ hb1,UQ (VE hb1)⟩
   ·cases r₂ with
    |error e=>exact hr₂
    |ok fl₂=>
     cases fl₂ with
     |ret r=>
      obtain⟨rfl,h',tk,rfl,S',k'⟩:=hr₂
      repeat (any_goals (first|assumption|wp_step))
      exact h _ _ S' k'
     |_=>exact hr₂.elim
  |_=>exact hr.elim
section
variable{P:M8}{w:LZ}{A:Lu}{E:JK->K9->Prop}{s:K9}{a:J7}{o:Obj}{es:Array (Int×JK)}{ep:Nat}{t:OI}
theorem E3{slot i:Nat}{Q:Option (JK×Nat)->K9->Prop}(hb:gU w=false)(o1:s.heap.get? a=some o)(d1:o.data= .set es ep t)(f1:t.fits es.size=true)(hd:(!t.plain && decide (es.size > 1))=false)(hl:t.led=true)
 (h:Q (match es[VW t.place slot]?,t.place[VW t.place slot]? with|some (_,x),some j=>some (x,j+1)|_,_=>none) s):KS (Kc P w) A (Nx a slot i ep) Q E s:=by
 unfold Nx setsByText;refine JY (Q5 o1 d1 f1 (JY (JY (QS (Kd ?_)))));rw[JS (show ¬(Kc P w).w.params.followText "set-order"=true from by show ¬gU w=true;rw[hb];decide)];show KS _ _ (if (!t.plain && decide (es.size > 1))=true then _ else _) _ _ _;rw[JS (by rw[hd];decide)];refine JY (m:=if (!t.led && !es.isEmpty)=true then unsupported "set:maker-not-led" else pure ()) ?_;rw[JS (by simp[hl])];exact Kd (Kd h)
theorem Ob{ss:List Int}{Q:JK->K9->Prop}(hh:A.handled=none)(hS:dM P w s.heap a ss)
 (q:∀(I:J7) (h1:LO) (d1:Drawn) (vs:List JK) (fp wr:List J7) (n:Nat) (St:Nat->LO->Prop),(∀b u,s.heap.get? b=some u->h1.get? b=some u)->(∃ss',Lx vs ss'/\ss'.Perm ss)->n=ss.length->
  Walks P w A I fp wr n (λi v=>vs[i]?=some v) St->St 0 h1->(∀b∈fp,b=a\/s.heap.objs.size<=b)->(∀b∈wr,s.heap.objs.size<=b)->vs.length=n->(∀b∈fp,b < h1.objs.size)->Q (.ref I) {s with heap:=h1,drawn:=d1}):
 KS (Kc P w) A (pyIter (.ref a)) Q E s:=by
 obtain⟨o,o1,x1,es,ep,t,d1,el,⟨ss',s1,s2⟩,b1,f1,l1,p1⟩:=hS;have hT:s.TypeIs (.ref a) "set":=⟨o,o1,x1.1⟩;have la:a < s.heap.objs.size:=Ut o1;have ln:es.size=ss.length:=by rw[<-s2.length_eq,<-sr s1,T6,UH]
 refine wpAny_pyIter_slot hT ZC (N6 ZC hT abv ?_ (PySem.F.args_set_iter_1 _));unfold Builtin.«frozenset.__iter__»;refine JY (m:=Builtin.Frozenset.slot0 _ _) (Kd ?_);refine JY (m:=Builtin.Frozenset.sizeOf a) (JY (Qg o1 d1 f1 (Kd ?_)));refine JY (m:=setDrawn a) ?_;unfold setDrawn setsByText;refine JY (Q5 o1 d1 f1 (JY (JY (QS (Kd (Kd ?_))))));show KS _ _ (if (!(gU w) && (!t.plain && decide (es.size > 1)))=true then _ else _) _ _ _;have lastly:∀(f:JK)(h1:LO)(d:Drawn),h1.get? a=some o->(∀I h2,h2=h1.push {cls:= .type "set_iterator",data:= .fields #[f,.int (0:Nat) 0,.ref a,.int es.size 0,.int ep 0]}->I=h1.objs.size->Q (.ref I) {s with heap:=h2,drawn:=d})->
  KS (Kc P w) A.in1 (setEpoch a >>=λe=>newFields "set_iterator" [f,MR 0,.ref a,MR es.size,MR e] >>=λv=>ret v)
   (λfin s'=>∃v,fin= .done (.ret v)/\∃T' r,s'.TypeIs v T'/\typeLookup (.type T') "__next__"=pure (some r)/\Q v s') E {s with heap:=h1,drawn:=d}:=by
  intro f h1 d e1 k;refine JY (wpAny_setEpoch_of (s:={s with heap:=h1,drawn:=d}) e1 d1 f1 ?_);refine JY (MG (Kd ?_));exact⟨_,rfl,"set_iterator",_,⟨_,UE _ rfl,rfl⟩,jP.lookup,k _ _ rfl rfl⟩
 have szp:∀(h:LO)(ob:Obj),(h.push ob).objs.size=h.objs.size+1:=λ_ _=>WH _ _;have n0:a≠s.heap.objs.size:=UQ la;by_cases hdr:(!(gU w) && (!t.plain && decide (es.size > 1)))=true
 ·rw[KI hdr];refine JY (Ey es.size (Vo es.size) s _ KJ λks d hp=>JY (m:=newTuple _) (MG ?_ ?_))
  ·have lk:ks.length=es.size:=by rw[hp.length_eq,XJ]
   refine lastly _ (s.heap.push _) d (Ua _ o1) λI h2 e2 eI=>?_;subst e2 eI;have k1:a≠(s.heap.push {cls:= .type "tuple",data:= .seq (ks.map λ(i:Nat)=>MR i).toArray}).objs.size:=by rw[szp];exact UQ (VE la)
   have k2:s.heap.objs.size≠(s.heap.push {cls:= .type "tuple",data:= .seq (ks.map λ(i:Nat)=>MR i).toArray}).objs.size:=by rw[szp];exact UQ (V9 _)
   have pm:(ks.map λk=>((es[k]?).map (·.2)).getD .none).Perm (es.toList.map (·.2)):=by
    refine(hp.map _).trans (.of_eq ?_);apply Xs KJ;intro i a b;simp at a b⊢;rw[Xm a];rfl
   obtain⟨ss2,q3,q4⟩:=uA pm s1;refine q _ _ d _ _ _ es.size _ (λb u e=>Ua _ (Ua _ e)) ⟨ss2,q3,q4.trans s2⟩ ln
    (abB hh _ _ k1 k2 d1 f1 _ ks rfl lk (λi k e=>?_)) ⟨⟨_,UE _ rfl,rfl,rfl⟩,Ua _ (Ua _ o1),Ua _ (UE _ rfl)⟩ (λb hb=>?_) (λb hb=>?_) (by simp[lk]) (λb hb=>?_)
   ·have hk:k < es.size:=by
     have:=hp.mem_iff.mp (UJ e);simpa using this
    refine⟨es[k].1,es[k].2,by simp[hk],?_⟩;rw[Ul,e];simp[hk]
   ·simp only[Ud,UI,or_false]at hb;rcases hb with rfl|rfl|rfl
    ·right;rw[szp];exact VI _
    ·left;rfl
    ·right;exact T8 _
   ·rw[Ur]at hb;rw[hb,szp];exact VI _
   ·simp only[Ud,UI,or_false]at hb;rw[szp,szp];rcases hb with rfl|rfl|rfl
    ·rw[szp];exact V9 _
    ·exact VE (VE la)
    ·exact VE (V9 _)
  ·unfold sizeOk;simp[hp.length_eq];have:Nw=4096:=rfl;have:LB=16777216:=by first|rfl|exact My
   omega
 ·rw[JS hdr];refine JY (Kd ?_);have e0:s={s with heap:=s.heap,drawn:=s.drawn}:=by cases s;rfl
  show KS _ _ _ _ _ {s with heap:=s.heap,drawn:=s.drawn};refine lastly _ s.heap s.drawn o1 λI h2 e2 eI=>?_;subst e2 eI;have fpa:∀b∈[s.heap.objs.size,a],b=a\/s.heap.objs.size<=b:=λb hb=>by
   simp only[Ud,UI,or_false]at hb;rcases hb with rfl|rfl
   ·right;exact T8 _
   ·left;rfl
  have wra:∀b∈[s.heap.objs.size],s.heap.objs.size<=b:=λb hb=>by rw[Ur]at hb;rw[hb];exact T8 _
  have fpl:∀(ob:Obj),∀b∈[s.heap.objs.size,a],b < (s.heap.push ob).objs.size:=λob b hb=>by
   rw[szp];simp only[Ud,UI,or_false]at hb;rcases hb with rfl|rfl
   ·exact V9 _
   ·exact VE la
  cases hb:gU w with
  |true=>
   have pm:=Nv (w.params.setOrder a ep) es;obtain⟨ss2,q3,q4⟩:=uA (pm.map (·.2)) s1;have lp:((QA (w.params.setOrder a ep) es).toList.map (·.2)).length=es.size:=by rw[T6,pm.length_eq,UH]
   refine q _ _ s.drawn _ _ _ es.size _ (λb u e=>Ua _ e) ⟨ss2,q3,q4.trans s2⟩ ln
    (EC hh _ n0 d1 f1 _ lp (λ_=>0) (λs i hi E' Q' g z=>Ez hb g d1 f1 ?_) (λs E' Q' g z=>Ez hb g d1 f1 ?_)) ⟨⟨_,UE _ rfl,rfl,rfl⟩,Ua _ o1⟩ fpa wra lp (fpl _)
   ·have hi':i < (QA (w.params.setOrder a ep) es).size:=by rw[<-UH,<-T6 (f:=(·.2))];exact hi
    rw[Xm hi'];simpa using z
   ·have:(QA (w.params.setOrder a ep) es).size=es.size:=by rw[<-UH,pm.length_eq,UH]
    rw[Zv J1];exact z
  |false=>
   have hled:t.led=true:=by
    rcases l1 with l1|l1
    ·rw[hb]at l1;cases l1
    ·exact l1
   have hcd:(!t.plain && decide (es.size > 1))=false:=by
    cases hx:(!t.plain && decide (es.size > 1)) with
    |false=>rfl
    |true=>exfalso;apply hdr;rw[hb,hx];rfl
   have hpl:t.place.size=es.size:=by
    simp only[SetTable.fits,U0,beq_iff_eq]at f1;exact f1.1
   have lp:(es.toList.map (·.2)).length=es.size:=by rw[T6,UH]
   have bel:∀i,i<=es.size->VW t.place (if i=0 then 0 else t.place.getD (i - 1) 0+1)=i:=λi hi=>by
    by_cases h0:i=0
    ·rw[KI h0,N2 p1.ris,h0]
    ·rw[JS h0];have hlt:i - 1 < t.place.size:=J1
     have eg:t.place.getD (i - 1) 0=t.place[i - 1]:=by simp[Xl,hlt]
     rw[eg,N1 p1.ris hlt];omega
   refine q _ _ s.drawn _ _ _ es.size _ (λb u e=>Ua _ e) ⟨ss',s1,s2⟩ ln
    (EC hh _ n0 d1 f1 _ lp (λi=>if i=0 then 0 else t.place.getD (i - 1) 0+1) (λs i hi E' Q' g z=>E3 hb g d1 f1 hcd hled ?_) (λs E' Q' g z=>E3 hb g d1 f1 hcd hled ?_)) ⟨⟨_,UE _ rfl,rfl,rfl⟩,Ua _ o1⟩ fpa wra lp (fpl _)
   ·have hi':i < es.size:=by rw[<-lp];exact hi
    rw[bel i J1];have h1:es[i]?=some es[i]:=by simp[hi']
    have h2:t.place[i]?=some (t.place[i]'J1):=by simp[show i < t.place.size by omega]
    rw[h1,h2];have eg:t.place.getD (i+1 - 1) 0=t.place[i]'J1:=by simp[Xl,show i < t.place.size by omega]
    rw[JS J1,eg]at z;simpa using z
   ·rw[bel es.size (T8 _)];rw[Zv J1];exact z
end
theorem Oc{R:Result->K9->Prop}(hh:A.handled=none)(hS:dM P w s.heap a ss)(S:J7)(hSa:S≠a)(res:JK)(c₀:Nat)(l1:s.heap.get? S=some {cls:= .type "list",data:= .seq #[] c₀})(hn:ss.length<=4096)
 (hR:∀h' tk d acc c',(∀b u,b≠S->s.heap.get? b=some u->h'.get? b=some u)->h'.get? S=some {cls:= .type "list",dict:=none,data:= .seq acc c',slots:=#[]}->(∃ss',Lx acc.toList ss'/\ss'.Perm ss)->R (.ok (.ret res)) {s with heap:=h',toks:=tk,drawn:=d}):
 KS (Kc P w) A.in1 (YQ (.ref S) (.ref a) res)
  (λfin s'=>match fin with | .done f=>R (.ok f) s' | .again c'=>c'.quiet=true/\Mo (Kc P w) A c' R s') (λe s'=>R (.error e) s') s:=by
 obtain⟨o,o1,x1,rest⟩:=id hS;have hT:s.TypeIs (.ref a) "set":=⟨o,o1,x1.1⟩;have lS:S < s.heap.objs.size:=Ut l1;unfold YQ;refine JY (QG hT ?_);have e1:Zc (.ref S) (.ref a)=false:=by simp[Zc,hSa]
 have e2:(Xk "set"==Xk "list")=false:=KL
 have e3:(Xk "set"==Xk "tuple")=false:=KL
 simp only[e1,e2,e3,Wo,Vl,if_false];refine JY (Ob (A:=A.in1) hh hS λI h1 d1 vs fp wr n St k1 sv en W st hf hw hlv hfl=>?_);have nf:S∉fp:=λz=>by
  rcases hf S z with e|e
  ·exact hSa e
  ·exact absurd lS (Nat.not_lt.mpr e)
 have key:∀(h:LO)(c₁ tk:Nat),St 0 h->(∀b u,b≠S->s.heap.get? b=some u->h.get? b=some u)->
  h.get? S=some {cls:= .type "list",data:= .seq #[] c₁}->Mo (Kc P w) A (.builtin "list.extend.loop" ⟨[.ref S,.ref I,res],[]⟩) R {s with heap:=h,toks:=tk,drawn:=d1}:=by
  intro h c₁ tk hst hk g;refine codeAny_extend_loopS W.toS (UN (by omega:n<=4096) KL) S nf res n 0 _ #[] c₁ rfl (UY _) hst g (ItemsOf.nil _) λs' acc c' m gq hacc=>?_;obtain⟨h',g',d',tk',os'⟩:=s';obtain rfl:g'=s.gens:=m.gens;obtain rfl:d'=d1:=m.drawn;obtain rfl:os'=s.os:=m.os;refine hR h' tk' d' acc c' (λb u hb e=>m.heap b u (λz=>?_) (hk b u hb e)) gq ?_
  ·rcases Ud.mp z with e'|z
   ·exact hb e'
   ·exact absurd (Ut e) (Nat.not_lt.mpr (hw b z))
  ·have ea:acc.toList=vs:=by
    apply List.ext_getElem?;intro i;rcases WA i n with z|z
    ·have hz:i < acc.size:=by rw[hacc.1];exact z
     have:acc[i]?=some acc[i]:=Xm hz;rw[Yy,this,hacc.2 i _ this]
    ·rw[V6 (by rw[UH,hacc.1];exact z),V6 J1]
   rw[ea];exact sv
 have g1:=k1 S _ l1;refine JY (Mh (ND (s:={s with heap:=h1,drawn:=d1}) ⟨o,k1 a o o1,x1.1⟩ ?_));refine RV (λ_=>?_) (λ_=>Kd ⟨OL Y7 _,key _ c₀ _ st (λb u _ e=>k1 b u e) g1⟩);refine JY (P4 (JY ?_));show KS _ _ (updateSeq S (·.push .none) >>=λ_=>updateSeq S (·.pop)) _ _ {s with heap:=h1,drawn:=d1};refine JY (QV g1 rfl ?_);have g2:=VA (Vu (·.push Vy)) g1 rfl;refine QV (hz:=by seq_fits) g2 rfl ?_;have g3:=VA (Vu (·.pop)) g2 rfl;refine Kd ⟨OL Y7 _,key _ _ _ (W.frame 0 _ _ st λb hb u e=>?_) (λb u hb e=>?_) g3⟩
 ·have hbS:b≠S:=λz=>nf (z▸hb);exact(Vv _ _ (Ne.symm hbS)).trans ((Vv _ _ (Ne.symm hbS)).trans e)
 ·exact(Vv _ _ (Ne.symm hb)).trans ((Vv _ _ (Ne.symm hb)).trans (k1 b u e))
theorem Od{R:List JK->K9->Prop}(hh:A.handled=none)(hS:dM P w s.heap a ss)(hn:ss.length<=4096)
 (h:∀(h':LO) (tk:Nat) (d:Drawn) (vs:List JK),(∀b u,s.heap.get? b=some u->h'.get? b=some u)->(∃ss',Lx vs ss'/\ss'.Perm ss)->R vs {s with heap:=h',toks:=tk,drawn:=d}):
 KS (Kc P w) A (collect (.ref a)) R E s:=by
 have la:a < s.heap.objs.size:=by obtain⟨o,o1,_⟩:=id hS;exact Ut o1
 unfold collect;refine JY (wpAny_runValue (OA entry_proto_collect' ?_));rw[Wb PySem.F.plain_proto_collect _];refine JY (m:=newList []) (MG ?_);refine Kd ⟨OL Zj _,OA entry_list_iadd' ?_⟩;rw[Wb Zj _];have g1:(s.heap.push {cls:= .type "list",data:= .seq ([]:List JK).toArray}).get? s.heap.objs.size=some {cls:= .type "list",data:= .seq #[]}:=UE _ rfl;have key:=Oc (A:=A) (s:={s with heap:=s.heap.push {cls:= .type "list",data:= .seq ([]:List JK).toArray}})
  (R:=λ(q:Result) (s':K9)=>∃(h':LO)(tk:Nat)(d:Drawn)(acc:Array JK)(c':Nat),q= .ok (.ret (.ref s.heap.objs.size))/\s'={s with heap:=h',toks:=tk,drawn:=d}/\
   (∀b u,s.heap.get? b=some u->h'.get? b=some u)/\h'.get? s.heap.objs.size=some {cls:= .type "list",dict:=none,data:= .seq acc c',slots:=#[]}/\(∃ss',Lx acc.toList ss'/\ss'.Perm ss))
  hh (hS.stay λu e=>Ua _ e) s.heap.objs.size (WO la) (.ref s.heap.objs.size) 0 g1 hn
  (λh' tk d acc c' hk g' hacc=>⟨h',tk,d,acc,c',rfl,rfl,λb u e=>hk b u (UQ (Ut e)) (Ua _ e),g',hacc⟩)
 refine MB key (λfin s' x=>?_) λe s' x=>?_
 ·cases fin with
  |done f=>
   obtain⟨h',tk,d,acc,c',e,rfl,hk,g',hacc⟩:=x;cases e;exact JY (m:=load s.heap.objs.size) (wpAny_load g' (Kd (h h' tk d acc.toList hk hacc)))
  |again c₁=>
   refine⟨x.1,OZ x.2 λq s₂ y=>?_⟩;obtain⟨h',tk,d,acc,c',rfl,rfl,hk,g',hacc⟩:=y;exact JY (m:=load s.heap.objs.size) (wpAny_load g' (Kd (h h' tk d acc.toList hk hacc)))
 ·obtain⟨_,_,_,_,_,e',_⟩:=x;cases e'
theorem Oe{Q:JK->K9->Prop}(hh:A.handled=none)(hS:dM P w s.heap a ss)(hn:ss.length < 64)
 (h:∀(h' h2:LO) (tk:Nat) (d:Drawn) (out:Array JK) (e:Nat) (ss':List Int),(∀b o,s.heap.get? b=some o->h'.get? b=some o)->(∀b o,h'.get? b=some o->h2.get? b=some o)->h2.get? h'.objs.size=some (LW "list" out e)->Lx out.toList ss'->ss'.Perm ss->ss'.Pairwise (·<=·)->Q (.ref h'.objs.size) {s with heap:=h2,toks:=tk,drawn:=d}):
 KS (Kc P w) A (call (.builtin "sorted") [.ref a]) Q E s:=by
 refine X5 kind_sorted plain_sorted entry_sorted (args_sorted1 _) ?_;unfold Builtin.«sorted»;refine JY (m:=checkCount "sorted" 1 1 _) (Kd ?_);refine JY (Od (A:=A.in1) hh hS J1 λh' tk d vs hk ⟨s1,sv,sp⟩=>?_);have hl:vs.length=ss.length:=by rw[sr sv,sp.length_eq]
 refine JY (QP ?_);have hoL:(h'.push (LW "list" vs.toArray 0)).get? h'.objs.size=some (LW "list" vs.toArray 0):=UE _ rfl;refine JY (Mh (N6 RA ⟨_,hoL,rfl⟩ R0 (list_sort_tree (s:={s with heap:=h'.push (LW "list" vs.toArray 0),toks:=tk,drawn:=d}) hoL sv J1 λout ss' h1 h2 h3=>?_) (args_list_sort _)));obtain⟨e,he⟩:=sortedHeap_at (n:=0) (vs:=vs) (out:=out) hoL;refine⟨_,rfl,Kd ⟨_,rfl,h h' _ tk d _ e ss' hk (λb o q=>?_) he h1 (h2.trans sp) h3⟩⟩;have hlt:b < h'.objs.size:=Ut q;rw[sortedHeap_old (UQ hlt) (by rw[size_push'];exact VE hlt),Z8 _ _ _ (UQ hlt)];exact q
def xX(P:M8)(w:LZ)(a:J7)(ss:List Int):HO:= .ext λh=>dM P w h a ss
theorem E4:∀{vs:List JK}{ss:List Int},Lx vs ss->aL (ss.map V.int) vs
 |_,_,.nil=>.nil
 |_,_,.cons y t r=>.cons ⟨t,rfl⟩ (E4 r)
theorem rzS:fo X (.type "set") (λxs H Q=>X.calm=true/\∃(p:J7)(ss:List Int),xs=[.ref p]/\bA X.K H p (ss.map V.int)/\ss.length < 4000/\∀l,H l=none->Q (.ref l) (ah H l (xX X.prog X.w l (ss.foldl fy [])))):=by
 intro acT s U H xs us Q I r h;obtain⟨hc,p,ss,rfl,hq,h64,q⟩:=h;obtain⟨u,rfl,rx⟩:=fO r;cases rx;obtain⟨its,rv,pl,hz⟩:=I.list hq;have hlen:=rv.length;rw[T6]at hlen;refine Oa (I.ok.hd hc) pl.isList (by simpa using xP rv) (by have:Nw=4096:=rfl;simp;omega) λh' tk S' k'=>?_;refine⟨.ref _,_,I.laid (t':=tk) (o:=xX X.prog X.w _ (ss.foldl fy [])) k' (T8 _) ?_,rfl,q _ (I.hok.fresh (T8 _))⟩;obtain⟨o,e,_⟩:=id S';exact⟨S',⟨o,e⟩,λh1 h2 x k=>x.stay k⟩
theorem Og:fo X (.builtin "sorted") (λxs H Q=>X.calm=true/\∃(a:J7)(ss:List Int),xs=[.ref a]/\H a=some (xX X.prog X.w a ss)/\ss.length < 64/\∀(ns:List Int)(l:J7),ns.Perm ss->ns.Pairwise (·<=·)->H l=none->Q (.ref l) (ah H l (.lst (ns.map V.int)))):=by
 intro acT s U H xs us Q I r h;obtain⟨hc,a,ss,rfl,ha,h64,q⟩:=h;obtain⟨u,rfl,rx⟩:=fO r;cases rx;obtain⟨hS,_⟩:=I.hok a _ ha;refine Oe (I.ok.hd hc) hS h64 λh' h2 tk d out e ss' k1 k2 at2 s1 s2 s3=>?_;have hl2:ss'.length=ss.length:=s2.length_eq;have I1:ag X acT U H {s with heap:=h',toks:=tk,drawn:=d}:=(I.kept (t':=tk) k1).drw;refine⟨.ref _,_,I1.laid (t':=tk) (o:= .lst (ss'.map V.int)) k2 (T8 _) ?_,rfl,q ss' _ s2 s3 (I1.hok.fresh (T8 _))⟩;refine⟨by rw[T6,hl2];exact UN (WM h64) KL,out.toList,e,E4 s1,?_⟩;rw[at2]
def mR(t:DA):DA:=λY Q=>t Y λds=>∃ss:List Int,ds=[.list (ss.map .int)]/\ss.length < 4000/\(ss.foldl fy []).length < 64/\∀ns:List Int,(∀z,z∈ns↔z∈ss)->ns.Pairwise (· < ·)->Q (ns.map .int)
theorem Oh{a:L8}{t:DA}{np p np' p':Pos}(hc:X.calm=true)(hg:Gl X "sorted")(hm:X.mg "sorted"=none)(hv:M9 "sorted"=some (.builtin "sorted"))(hg':Gl X "set")(hm':X.mg "set"=none)(ha:PA X [a] (gh X.K H0 O0 t))
 (he:Ke [a] X.env=(false,eval a X.env)::Ke [] X.env:=by rfl)(hpl:(LR p' (Ke [] X.env)).any (·.1)=false:=by rfl)
 (he':Ke [.Call (.Name "set" np') [a] [] p'] X.env=(false,eval (.Call (.Name "set" np') [a] [] p') X.env)::Ke [] X.env:=by rfl)(hpl':(LR p (Ke [] X.env)).any (·.1)=false:=by rfl):
 FE X H0 O0 (.Call (.Name "sorted" np) [.Call (.Name "set" np') [a] [] p'] [] p) (mR t):=
 (bY Og hg hm hv (bJ (eD rzS hg' hm' NF ha (he:=he) (hpl:=hpl)) cA he') (he:=he') (hpl:=hpl')).imp λU H Q ⟨O,Y,Qd,w,q,k⟩=>⟨O,Y,_,w,q,λds vs H1 uu s1 r1=>by
  obtain⟨ss,e,h64,hl,q1⟩:=uu;subst e;cases r1 with
  |cons h r=>
   cases r;obtain⟨a,us,rfl,h1,d1⟩:=h.lst;cases d1.intsL;refine⟨hc,a,ss,rfl,h1,h64,λl hl'=>⟨hc,l,_,rfl,bF,hl,λns l2 hp hs hl2=>?_⟩⟩;refine k _ _ _ _ (q1 ns (λz=>?_) ?_) (s1.trans (au.new hl')) hl2 (aj.ofInts _)
   ·rw[hp.mem_iff,xV];simp
   ·have nd:ns.Nodup:=hp.nodup_iff.mpr (xW .nil);exact(List.Pairwise.and hs nd).imp λ{a b} z=>by
     obtain⟨z1,z2⟩:=z;omega⟩
def xY(Z:T5)(a:J7):It:=
 ⟨λi H=>∃xs x,bA Z H a xs/\xs[i]?=some x,λi H x H'=>∃p v,H p=none/\x= .ref p/\H'=ah H p (.tup [.int (i:Int),v])/\∀xs,bA Z H a xs->xs[i]?=some v,λi H=>∃xs,bA Z H a xs/\xs.length<=i⟩
theorem Oi(a it e:J7)(hei:e≠it):p6 P w Z (.Tuple elts k0 pos) (xY Z a) [e,it] e (λi h=>(∃old,IsEnum h e it (i:Int) old)/\h.IsListIter it a i) where
 mem:=KJ
 obj:=λi h st b hb=>by
  simp only[Ud,UI,or_false]at hb;obtain⟨⟨old,he⟩,o,eo,c,d⟩:=st;rcases hb with rfl|rfl
  ·exact⟨_,he,λv z=>by cases z⟩
  ·exact⟨o,eo,λv z=>by rw[d]at z;cases z⟩
 keep:=λi h h' st k=>⟨let ⟨old,he⟩:=st.1;⟨old,k e KJ _ he⟩,st.2.at λo q=>k it KJ o q⟩
 item:=by
  intro X hP hw hK hc i acT s U H E I hf st hg;subst hP hw hK;obtain⟨xs,x,hq,hx⟩:=hg;obtain⟨its,rv,p,hz⟩:=I.list hq;obtain⟨u,hu,ru⟩:=rv.get hx;obtain⟨⟨old,he⟩,hit⟩:=st;refine wpAny_pyNext_enum_item he hit p.isList (x:=u) (by simpa using hu) hei λh' ho hit' hT hsz hk=>?_;have hT0:H s.heap.objs.size=none:=I.hok.fresh (T8 _);have lte:e < s.heap.objs.size:=Ut he;have lti:it < s.heap.objs.size:=by obtain⟨_,q,_⟩:=hit;exact Ut q
  have I1:ag X acT U (ah H s.heap.objs.size (.tup [.int (i:Int),x])) {s with heap:=h',toks:=s.toks+1}:=by
   refine I.track (t':=s.toks+1) (ch:=[s.heap.objs.size,e,it]) KJ (λb hb=>?_) (λb v hb q=>hk b v (λz=>hb (by simp[z])) (λz=>hb (by simp[z])) q) ?_
   ·rcases Ud.mp hb with z|z
    ·rw[z];exact I.fpOk (T8 _) hT0
    ·exact hf b z
   ·exact⟨by rw[My,Uk,Uk,U8];decide,[.int (i:Int) s.toks,u],.cons ⟨_,rfl⟩ (.cons ru .nil),_,hT,rfl,0,rfl⟩
  refine⟨_,rfl,SS ho λh2 he2 sb=>?_⟩;obtain⟨f0,f1,f2,f3,f4,f5⟩:=hf e KJ;have ne:s.heap.objs.size≠e:=WO lte;have I2:ag X acT U (ah H s.heap.objs.size (.tup [.int (i:Int),x])) {s with heap:=h2,toks:=s.toks+1}:=I1.turned (t':=s.toks+1) (λb o hb q=>(sb.2 b hb).trans q) (by rw[aD (Ne.symm ne)];exact f0) f1 f3 f4 f5;refine⟨.ref s.heap.objs.size,_,I2,rfl,⟨_,x,hT0,rfl,rfl,λys hy=>by rw[I.list_inj hy hq];exact hx⟩,⟨⟨_,by simpa using he2⟩,hit'.at λo q=>(sb.2 it (Ne.symm hei)).trans q⟩,λb hb=>?_⟩;rw[aD λz=>?_]
  ·exact(hf b hb).1
  ·simp only[Ud,UI,or_false]at hb;rcases hb with y|y
   ·rw[<-z,y]at lte;exact V3 _ lte
   ·rw[<-z,y]at lti;exact V3 _ lti
 done:=by
  intro X hP hw hK hc i acT s U H E I hf st hg;subst hP hw hK;obtain⟨xs,hq,hx⟩:=hg;obtain⟨its,rv,p,hz⟩:=I.list hq;obtain⟨⟨old,he⟩,hit⟩:=st;obtain⟨f0,f1,f2,f3,f4,f5⟩:=hf it KJ;have hl:=rv.length;exact wpAny_pyNext_enum_end (I.ok.hd hc) he hit p.isList (by simp;omega) λh' eb=>⟨rfl,I.turned (t':=s.toks) (λb o hb e=>eb b o hb e) f0 f1 f3 f4 f5⟩
 self:=λA i s Q E st h=>by
  obtain⟨⟨old,he⟩,_⟩:=st;exact Qv he h
def Oj(Z:T5)(ta:TA):TI:=λU H R=>ta U H λvs H1=>∃a xs,vs=[.ref a]/\Rd H1 a (.lst xs)/\R (xY Z a) H1
theorem Ol(hg:Gl X "enumerate")(hm:X.mg "enumerate"=none)(ha:PA X [a] ta)(hs:Ke [a] X.env=[(false,eval a X.env)]:=by rfl):PI X (.Tuple elts k0 tp) (.Call (.Name "enumerate" p) [a] [] pos) (Oj X.K ta):=by
 intro acT s U H R I h;refine Call_ (j4 I hg hm boot_enumerate (Wx (aE (ha pos acT s U H _ I h) λus s1 ⟨vs,H1,I1,r1,q1⟩=>?_) hs rfl));obtain⟨b,xs,e,hr,q⟩:=q1;subst e;cases r1 with
 |cons r rr=>
  cases rr;cases r;have ho:∃(its:List JK)(n:Nat),s1.heap.get? b=some {cls:= .type "list",dict:=none,data:= .seq its.toArray n,slots:=#[]}:=by
   rcases hr with hr|⟨o,hr⟩
   ·obtain⟨_,its,n,_,z⟩:=I1.hok b _ hr;exact⟨its,n,z⟩
   ·obtain⟨_,_,its,n,_,z⟩:=I1.hok b _ hr;exact⟨its,n,z⟩
  obtain⟨its,n,ho⟩:=ho;refine call_enumerate_1 ho λh' he hit hsz hk=>Qv he ?_;have I2:ag X acT U H1 {s1 with heap:=h'}:=I1.kept (t':=s1.toks) hk;refine⟨s1.heap.objs.size+1,[s1.heap.objs.size+1,s1.heap.objs.size],_,_,H1,rfl,I2,Oi b s1.heap.objs.size (s1.heap.objs.size+1) (WO (V9 _)),⟨⟨_,he⟩,hit⟩,λc hc=>?_,q⟩;simp only[Ud,UI,or_false]at hc;rcases hc with rfl|rfl
  ·exact I1.fpOk (VI _) (I1.hok.fresh (VI _))
  ·exact I1.fpOk (T8 _) (I1.hok.fresh (T8 _))
def ij:Nat->List J4->List J4
 |_,[]=>[]
 |k,x::r=>.tuple [.int (k:Int),x]::ij (k+1) r
theorem su:∀(k:Nat)(xs:List J4),(ij k xs).length=xs.length
 |_,[]=>rfl
 |k,x::r=>by rw[ij,Uk,su,Uk]
theorem sA:∀(k:Nat)(xs:List J4)(i:Nat),(ij k xs)[i]?=(xs[i]?).map λx=>.tuple [.int ((k+i:Nat):Int),x]
 |_,[],i=>by simp[ij]
 |k,x::r,0=>by simp[ij]
 |k,x::r,i+1=>by
  rw[ij,Vg,Vg,sA (k+1) r i,show k+1+i=k+(i+1) by omega]
theorem abQ{D:i9}{O:Ex}(hr:Rd H a (.lst vs))(ho:¬O a)(gd:GD Z g dg)
 (r:aj Z H O vs xs)(w:Wd Z H0 O0 H O U Y)(q:ic dg tb E (ij 0 xs) Y)
 (k1:∀O' Y' U' H',E.nx Y'->Wd Z H0 O0 H' O' U' Y'->aJ H H' O O'->D.nx U' H')(k2:∀d v H',E.rt d->au H0 H'->Dt Z H' O0 v d->D.rt v H'):FR (xY Z a) g (bw Z H0 O0 tb) D U H:=by
 obtain⟨Iv,q0,qs,qe⟩:=q;have hl:=r.length;have sq:∀H' O',aJ H H' O O'->bA Z H' a vs:=λH' O' S=>.inl (hr.same λo e=>S.keep _ o e ho);refine⟨λi m U' H'=>∃O' Y',m=vs.length - i/\i<=vs.length/\Wd Z H0 O0 H' O' U' Y'/\aJ H H' O O'/\Iv i Y',⟨vs.length,O,Y,KJ,UY _,w,aJ.refl _ _,q0⟩,?_⟩;rintro i m σ1 H1 ⟨O1,δ1,rfl,hi,w1,S1,q1⟩;by_cases hlt:i < vs.length
 ·refine .inr ⟨⟨vs,vs[i],sq _ _ S1,by simp[hlt]⟩,λU' H'=>∃O' Y',Wd Z H0 O0 H' O' U' Y'/\aJ H H' O O'/\Iv (i+1) Y',λU' H' uu=>by obtain⟨O',Y',w',S',q'⟩:=uu;exact⟨vs.length - (i+1),J1,O',Y',rfl,hlt,w',S',q'⟩,λx H' y=>?_⟩;obtain⟨p,v,hp,rfl,rfl,hv⟩:=y;obtain⟨d,ed,rd⟩:=r.get (hv vs (sq _ _ S1));have sm:au H1 (ah H1 p (.tup [.int (i:Int),v])):=au.new hp;have w2:=w1.mono sm;have np:¬O1 p:=λz=>w1.trk p z hp;have dt:Dt Z (ah H1 p (.tup [.int (i:Int),v])) O1 (.ref p) (.tuple [.int (i:Int),d]):= .tup (.inl bF) np (.cons (.int _) (.cons ((rd.step S1).mono sm) .nil));have S2:aJ H (ah H1 p (.tup [.int (i:Int),v])) O O1:=S1.trans (.same sm);have e2:(ij 0 xs)[i]?=some (.tuple [.int (i:Int),d]):=by rw[sA,ed];simp
  refine gd H0 O0 _ O1 σ1 δ1 _ _ _ _ w2 dt (qs i _ δ1 e2 q1) λδ2 σ2 q2 w2=>?_;exact⟨O1,δ2,_,w2,q2,λO' Y' U' H' z w' S'=>⟨O',Y',w',S2.trans S',z⟩,k2,λO' Y' U' H' z w' S'=>k1 O' Y' U' H' z w' (S2.trans S'),λO' Y' U' H' z w' S'=>⟨O',Y',w',S2.trans S',z⟩⟩
 ·have e:i=vs.length:=J1
  subst e;refine .inl ⟨⟨vs,sq _ _ S1,T8 _⟩,?_⟩;rw[hl,<-su 0 xs]at q1;exact k1 O1 δ1 σ1 H1 (qe δ1 q1) w1 S1
def mS(t:DA)(g:DG)(tb:DS):DS:=λE Y=>t Y λds=>∃xs,ds=[.list xs]/\ic g tb E (ij 0 xs) Y
theorem Oo{elts:List L8}{k0}{tp:Pos}{a:L8}{body:List Kk}{p pos pos':Pos}{ta:DA}{g:TG}{dg:DG}{tb:DS}(hp:OO (Kc X.prog X.w) X.A X.env X.xe)(hc:X.calm=true)(hgl:Gl X "enumerate")(hm:X.mg "enumerate"=none)(ha:PA X [a] (gf X.K H0 O0 ta))(hg:PG X (.Tuple elts k0 tp) g)(gd:GD X.K g dg)(hb:b0 X body (bw X.K H0 O0 tb))
 (hst:Ke [a] X.env=[(false,eval a X.env)]:=by rfl)(hs:∀x,Me (.Call (.Name "enumerate" p) [a] [] pos') X.env x=pure x:=by intro _;rfl):
 PS X (.For (.Tuple elts k0 tp) (.Call (.Name "enumerate" p) [a] [] pos') body [] pos) (bw X.K H0 O0 (mS ta dg tb)):=
 (p8 hp hc (Ol hgl hm ha hst) hg hb hs).imp λD U H uu=>by obtain⟨O,Y,E,w,q,k1,k2,k3,k4⟩:=uu;exact⟨O,Y,_,w,q,λds vs H1 uu s1 r1=>by
  obtain⟨xs,e,q1⟩:=uu;subst e;cases r1 with
  |cons h r=>
   cases r;cases h with
   |lst h n r=>
    exact⟨_,_,rfl,h,abQ h n gd r (w.mono s1) q1 (λO' Y' U' H' z w' S=>k1 O' Y' U' H' z w' (aJ.trans (.same s1) S)) k2⟩⟩
def mT:Fa:=λds Q=>∃ns:List Int,ds=[.list (ns.map .int)]/\Q (.int ns.sum)
theorem Oq:kg Z (λxs H Q=>∃(a:J7)(ns:List Int),xs=[.ref a]/\bA Z H a (ns.map V.int)/\Q (.int ns.sum) H) mT:=λH O xs ds Qd R tr hs uu k=>by
 obtain⟨ns,e,q⟩:=uu;subst e;cases hs with
 |cons h r=>
  cases r;obtain⟨a,vs,rfl,h1,d1⟩:=h.lst;cases d1.intsL;exact⟨a,ns,rfl,h1,k _ _ H q (au.refl _) (.int _)⟩
def xZ(c:Int->Int->Prop):R2:=λx y H Q=>∃i j,x= .int i/\y= .int j/\c i j/\∀r:Int,Q (.int r) H
theorem E5:bU X (Mw .RShift) (xZ λ_ j=>0<=j):=by
 intro acT s U H x y v u Q I rx ry h;obtain⟨i,j,rfl,rfl,c,q⟩:=h;obtain⟨t,rfl⟩:=rx;obtain⟨t',rfl⟩:=ry;by_cases hb:j >= ((VM i:Nat):Int)
 ·exact PySem.AutoIntOps.rshift_1 J1 hb ⟨.int _,H,I.tok _,⟨_,rfl⟩,q _⟩
 ·exact PySem.AutoIntOps.rshift_2 J1 hb ⟨.int _,H,I.tok _,⟨_,rfl⟩,q _⟩
theorem E6:bU X (Mw .BitAnd) (xZ λ_ _=>True):=by
 intro acT s U H x y v u Q I rx ry h;obtain⟨i,j,rfl,rfl,c,q⟩:=h;obtain⟨t,rfl⟩:=rx;obtain⟨t',rfl⟩:=ry;exact and_int ⟨.int _,H,I.tok _,⟨_,rfl⟩,q _⟩
def mU(c:Int->Int->Prop):J4->J4->(J4->Prop)->Prop:=λx y Q=>∃i j:Int,x= .int i/\y= .int j/\c i j/\∀r:Int,Q (.int r)
theorem uB:cN Z (xZ c) (mU c):=λH O x y dx dy Qd R tr hx hy uu k=>by
 obtain⟨i,j,e1,e2,h,q⟩:=uu;subst e1 e2;cases hx.int;cases hy.int;exact⟨i,j,rfl,rfl,h,λr=>k _ _ H (q r) (au.refl _) (.int _)⟩
def mV(n:Nat)(t:DA):DA:=λY Q=>t Y λds=>ds.length<=1000/\Q (Uz n ds).flatten
theorem aj.rep(h:aj Z H O vs ds):∀n:Nat,aj Z H O (Uz n vs).flatten (Uz n ds).flatten
 |0=>.nil
 |n+1=>by rw[V1,V1,Xi,Xi];exact h.append (aj.rep h n)
theorem x9{n:Nat}(hn:n<=1000){e:L8}{t:DA}(h:FE X H0 O0 e t):FE X H0 O0 (.BinOp e .Mult (.Constant (.int (n:Int)) j cp) pos) (mV n t):=
 (bR Lf h bT).imp λU H Q ⟨O,Y,Qd,w,q,k⟩=>⟨O,Y,_,w,q,λds vs p H1 q1 s1 hp r1=>by
  refine⟨p,n,vs,rfl,rfl,bF,J1,J1,?_,λp' hp'=>?_⟩
  ·have h1:=r1.length;have h2:(LB:Nat)=16777216:=KL
   have h3:=q1.1;rw[VD];have h4:vs.length*n<=1000*1000:=Nat.mul_le_mul J1 hn;omega
  ·rw[VD];exact k _ _ p' _ q1.2 (s1.trans (au.new hp)) hp' ((r1.rep n).mono (au.new hp))⟩
def Ot:V->List V->Hp->VK->Prop:=λx vs H Q=>∃l b xs zs,x= .ref l/\vs=[.ref b]/\H l=some (.lst xs)/\Rd H b (.lst zs)/\xs.length+zs.length<=LB/\Q .non (ah H l (.lst (xs++zs)))
theorem Ou:wH X "list.extend" Ot:=by
 intro acT s U H x vs v us Q I rx rv h;obtain⟨l,b,xs,zs,rfl,rfl,hH,hB,hz,q⟩:=h;cases rx;obtain⟨u,rfl,ru⟩:=rv.one;cases ru;obtain⟨z,its,n,r,hl,e⟩:=I.lstM hH;obtain⟨z2,its2,n2,r2,e2⟩:=hB.ok I.hok;have hl2:=r2.length;have hsz:its.toArray.size+its2.toArray.size<=LB:=by rw[Uu,Uu];omega
 have hlong:¬(!its.toArray.isEmpty && WQ (its.toArray.size+its2.toArray.size))=true:=by
  rw[wI hsz,YK];exact Ue
 refine OF Ye ⟨_,e,rfl⟩ PySem.F.entry_list_extend (PySem.F.args_list_extend_2 _ _)
  (Yu l its.toArray n b its2.toArray n2 hlong (by rw[Uu];omega) J1) ⟨e,e2,?_⟩
 refine⟨.non,_,I.lset (its':=its++its2) hH e KJ (r.append r2) ?_,rfl,q⟩;rw[Ux];omega
def mW(i:Nat)(t:DT):DS:=λE Y=>∃ds,Y[i]?=some (some (.o ds))/\t Y λd=>∃es,d= .list es/\ds.length+es.length<=LB/\E.nx (Y.set i (some (.o (ds++es))))
theorem y9{apos cpos pos:Pos}(ho:PE X o (dR i))(he:DE X H0 O0 e t)(hbase:Nn o "extend" X.env (eval o X.env)=eval o X.env:=by rfl)
 (hfew:((LR cpos (Ke [e] X.env)).all (λx=>!x.1) && (NP cpos (Nb [] X.env)).all (λx=>x.1.isSome) && decide ([e].length+([]:List Nf).length+(if ([]:List Nf).isEmpty then 0 else 1) < 30))=true:=by rfl)
 (hline:(apos.endLine==cpos.line)=true:=by rfl)(hst:Ke [e] X.env=(false,eval e X.env)::Ke [] X.env:=by rfl)(hplain:(LR cpos (Ke [] X.env)).any (·.1)=false:=by rfl)
 (hs:M3 (.Call (.Attribute o "extend" apos) [e] [] cpos) none pos.line X.env=pure false:=by rfl):PS X (.Expr (.Call (.Attribute o "extend" apos) [e] [] cpos) pos) (bw X.K H0 O0 (mW i t)):=
 (tj (wG Yj Ye Zb Ou ho (bJ he cA hst) hbase hfew hline hst hplain) hs).imp λD U H uu=>by
  obtain⟨O,Y,E,w,⟨ds,e,q⟩,k1,k2,k3,k4⟩:=uu;obtain⟨l,vs,h,a,b,c,r⟩:=w.own e;refine⟨_,h,.inl ⟨rfl,_,bA.of c⟩,O,Y,_,w,q,λd v H1 ⟨es,ed,q1,q2⟩ s1 r1=>?_⟩;subst ed;have hl:H1 l=some (.lst vs):=s1 _ _ c;cases r1 with
  |lst h1 n r1=>
   refine⟨l,_,vs,_,rfl,rfl,hl,h1,by rw[r.length,r1.length];exact q1,?_⟩;exact k1 _ _ _ _ q2 ((w.mono s1).putO (vs:=vs) e h ((r.mono s1).append r1)) ⟨λb' o' z n=>by rw[aD (λy=>n (by rw[y];exact a))];exact s1 _ _ z,λ_ _ n=>n⟩
theorem E7{pos pos':Pos}(hN:X.N.Nodup)(hi:X.N[i]?=some x)(hx:iD X.env.scope x)(he:PU X e (nP X.K H0 O0 t))(hs:M3 e (some (.Name x pos')) pos.line X.env=pure true:=by rfl)(hf:X.fn x=true\/X.env.scope.names.lookup x=some .local:=by first|exact .inl rfl|exact .inr rfl|assumption):
 PS X (.Assign [.Name x pos'] e pos) (bw X.K H0 O0 (jJ i t)):=
 (he _ _ _ _ hN hi hx hs hf).imp λD U H ⟨O,Y,E,w,q,k1,k2,k3,k4⟩=>⟨O,Y,_,w,q,λds vs p H1 q1 s1 hp r1=>k1 _ _ _ _ q1 ((w.mono s1).setO hp r1)
  ⟨λb o e _=>(s1.trans (au.new hp)) b o e,λb e n z=>z.elim n λy=>by
   cases q:H b with
   |none=>exact e q
   |some o=>have:=s1 _ _ q;rw[y,hp]at this;cases this⟩⟩
end L2
namespace Day
def jn(y:Int):Bool:=decide (y % 400=0) || (decide (y % 4=0) && !decide (y % 100=0))
def ld(y:Int):Int:=if jn y=true then 1 else 0
def z3:List Int:=[31,28,31,30,31,30,31,31,30,31,30,31]
def mlen(y m:Int):Int:=if m=2/\jn y=true then 29 else z3.getD (m - 1).toNat 0
def lb(y:Int):Int:=(y - 1)/ 4 - (y - 1)/ 100+(y - 1)/ 400
def ystart(y:Int):Int:=365*(y - 2000)+lb y - lb 2000
def aV(y m:Int):Int:=((Vo (m - 1).toNat).map λ(i:Nat)=>mlen y (1+(i:Int))).sum
def num(y m n:Int):Int:=ystart y+aV y m+n - 1
structure DateOf (d y m n:Int):Prop where
 m1:1<=m
 m12:m<=12
 n1:1<=n
 nl:n<=mlen y m
 eq:num y m n=d
theorem ld01(y:Int):0<=ld y/\ld y<=1:=by unfold ld;split<;>omega
theorem sC(y:Int):jn y=true↔(y % 400=0\/(y % 4=0/\y % 100≠0)):=by
 unfold jn;simp
theorem ystart_succ(y:Int):ystart (y+1)=ystart y+365+ld y:=by
 unfold ystart lb ld;by_cases h:jn y=true
 ·rw[KI h];have:=(sC y).mp h;omega
 ·rw[JS h];have:=mt (sC y).mpr h;omega
theorem E8(h:a+1<=b):ystart (a+1)<=ystart b:=by
 unfold ystart lb;omega
theorem z4(y:Int):mlen y 2=28+ld y:=by
 unfold mlen ld;by_cases h:jn y=true
 ·rw[KI ⟨rfl,h⟩,KI h];rfl
 ·rw[JS (λz=>h z.2),JS h];rfl
theorem z5(h:m≠2):mlen y m=z3.getD (m - 1).toNat 0:=by
 unfold mlen;rw[JS (λz=>h z.1)]
theorem uC(y:Int):mlen y 1=31/\mlen y 3=31/\mlen y 4=30/\mlen y 5=31/\mlen y 6=30/\mlen y 7=31/\mlen y 8=31/\mlen y 9=30/\mlen y 10=31/\mlen y 11=30/\mlen y 12=31:=by
 refine⟨?_,?_,?_,?_,?_,?_,?_,?_,?_,?_,?_⟩<;>(rw[z5 KL];rfl)
theorem z6{m:Int}(h1:1<=m)(h2:m<=12):m=1\/m=2\/m=3\/m=4\/m=5\/m=6\/m=7\/m=8\/m=9\/m=10\/m=11\/m=12:=by
 obtain⟨k,e⟩:=Wt (show 0<=m - 1 by omega);have e:m=(k:Int)+1:=J1
 have hk:k < 12:=J1
 have key:∀k:Fin 12,((k.1:Nat):Int)+1=1\/((k.1:Nat):Int)+1=2\/((k.1:Nat):Int)+1=3\/((k.1:Nat):Int)+1=4\/((k.1:Nat):Int)+1=5\/((k.1:Nat):Int)+1=6\/((k.1:Nat):Int)+1=7\/((k.1:Nat):Int)+1=8\/((k.1:Nat):Int)+1=9\/((k.1:Nat):Int)+1=10\/((k.1:Nat):Int)+1=11\/((k.1:Nat):Int)+1=12:=Kg
 rw[e];exact key ⟨k,hk⟩
theorem Ov(h1:1<=m)(h2:m<=12):28<=mlen y m/\mlen y m<=31:=by
 obtain⟨m1,m3,m4,m5,m6,m7,m8,m9,m10,m11,m12⟩:=uC y;have m2:28<=mlen y 2/\mlen y 2<=31:=by
  have:=ld01 y;rw[z4];clear m1 m3 m4 m5 m6 m7 m8 m9 m10 m11 m12 h1 h2;omega
 have k:∀{z:Int},z=31\/z=30->28<=z/\z<=31:=λh=>by rcases h with h|h<;>rw[h]<;>decide
 rcases z6 h1 h2 with h|h|h|h|h|h|h|h|h|h|h|h<;>subst h
 ·exact k (.inl m1)
 ·exact m2
 ·exact k (.inl m3)
 ·exact k (.inr m4)
 ·exact k (.inl m5)
 ·exact k (.inr m6)
 ·exact k (.inl m7)
 ·exact k (.inl m8)
 ·exact k (.inr m9)
 ·exact k (.inl m10)
 ·exact k (.inr m11)
 ·exact k (.inl m12)
theorem uD(y:Int):aV y 1=0:=rfl
theorem fz(h:1<=m):aV y (m+1)=aV y m+mlen y m:=by
 unfold aV;have e:(m+1 - 1).toNat=(m - 1).toNat+1:=J1
 rw[e,Zp,UA,List.sum_append];have e2:(1:Int)+(((m - 1).toNat:Nat):Int)=m:=J1
 simp only[T9,U9,Xe,List.sum_nil,e2];omega
theorem acu(l:Int)(h:a+b=c):a+(b+l)=c+l:=J1
theorem jS(l:Int)(h:a+b=c):a+l+b=c+l:=J1
theorem uE(y:Int):aV y 1=0/\aV y 2=31/\aV y 3=59+ld y/\aV y 4=90+ld y/\aV y 5=120+ld y/\aV y 6=151+ld y/\aV y 7=181+ld y/\aV y 8=212+ld y/\aV y 9=243+ld y/\aV y 10=273+ld y/\aV y 11=304+ld y/\aV y 12=334+ld y/\aV y 13=365+ld y:=by
 obtain⟨m1,m3,m4,m5,m6,m7,m8,m9,m10,m11,m12⟩:=uC y;have e2:aV y 2=31:=by rw[show aV y 2=aV y 1+mlen y 1 from fz (m:=1) KL,m1];rfl
 have e3:aV y 3=59+ld y:=by rw[show aV y 3=aV y 2+mlen y 2 from fz (m:=2) KL,e2,z4];exact acu _ rfl
 have e4:aV y 4=90+ld y:=by rw[show aV y 4=aV y 3+mlen y 3 from fz (m:=3) KL,e3,m3];exact jS _ rfl
 have e5:aV y 5=120+ld y:=by rw[show aV y 5=aV y 4+mlen y 4 from fz (m:=4) KL,e4,m4];exact jS _ rfl
 have e6:aV y 6=151+ld y:=by rw[show aV y 6=aV y 5+mlen y 5 from fz (m:=5) KL,e5,m5];exact jS _ rfl
 have e7:aV y 7=181+ld y:=by rw[show aV y 7=aV y 6+mlen y 6 from fz (m:=6) KL,e6,m6];exact jS _ rfl
 have e8:aV y 8=212+ld y:=by rw[show aV y 8=aV y 7+mlen y 7 from fz (m:=7) KL,e7,m7];exact jS _ rfl
 have e9:aV y 9=243+ld y:=by rw[show aV y 9=aV y 8+mlen y 8 from fz (m:=8) KL,e8,m8];exact jS _ rfl
 have e10:aV y 10=273+ld y:=by rw[show aV y 10=aV y 9+mlen y 9 from fz (m:=9) KL,e9,m9];exact jS _ rfl
 have e11:aV y 11=304+ld y:=by rw[show aV y 11=aV y 10+mlen y 10 from fz (m:=10) KL,e10,m10];exact jS _ rfl
 have e12:aV y 12=334+ld y:=by rw[show aV y 12=aV y 11+mlen y 11 from fz (m:=11) KL,e11,m11];exact jS _ rfl
 have e13:aV y 13=365+ld y:=by rw[show aV y 13=aV y 12+mlen y 12 from fz (m:=12) KL,e12,m12];exact jS _ rfl
 exact⟨uD y,e2,e3,e4,e5,e6,e7,e8,e9,e10,e11,e12,e13⟩
theorem E9{y m:Int}(h1:1<=m):∀k:Nat,m+k<=13->aV y m<=aV y (m+k)
 |0,_=>by simp
 |k+1,h=>by
  have ih:=E9 (y:=y) h1 k J1;have e:m+((k+1:Nat):Int)=(m+k)+1:=J1
  rw[e,fz J1];have:=Ov (y:=y) (m:=m+k) J1 J1;omega
theorem z7(h1:1<=m)(h2:m<=m')(h3:m'<=13):aV y m<=aV y m':=by
 have:=E9 (y:=y) h1 (m' - m).toNat J1;rw[show m+(((m' - m).toNat:Nat):Int)=m' by omega]at this;exact this
theorem bef_bd(h1:1<=m)(h2:m<=12):0<=aV y m/\aV y m+mlen y m<=365+ld y:=by
 have a:=z7 (y:=y) (m:=1) (m':=m) KL h1 J1;have b:=z7 (y:=y) (m:=m+1) (m':=13) J1 J1 KL;rw[fz h1]at b;have c:=(uE y).1;have e:=(uE y).2.2.2.2.2.2.2.2.2.2.2.2;omega
theorem Fb(h1:1<=m)(h2:m < m')(h3:m'<=12):aV y m+mlen y m<=aV y m':=by
 have b:=z7 (y:=y) (m:=m+1) (m':=m') J1 J1 J1;rw[fz h1]at b;exact b
theorem DateOf.in(h:DateOf d y m n):ystart y<=d/\d < ystart (y+1):=by
 have:=bef_bd (y:=y) h.m1 h.m12;have:=h.n1;have:=h.nl;have e:=h.eq;have:=ystart_succ y;unfold num at e;omega
theorem DateOf.uniq(h:DateOf d y m n)(h':DateOf d y' m' n'):y=y'/\m=m'/\n=n':=by
 have a:=h.in;have b:=h'.in;have ey:y=y':=by
  rcases Y3 y y' with z|z|z
  ·have:=E8 (a:=y) (b:=y') J1;omega
  ·exact z
  ·have:=E8 (a:=y') (b:=y) J1;omega
 subst ey;have e:=h.eq;have e':=h'.eq;unfold num at e e';have em:m=m':=by
  rcases Y3 m m' with z|z|z
  ·have:=Fb (y:=y) h.m1 z h'.m12;have:=h.nl;have:=h'.n1;omega
  ·exact z
  ·have:=Fb (y:=y) h'.m1 z h.m12;have:=h'.nl;have:=h.n1;omega
 subst em;exact⟨rfl,rfl,J1⟩
def qw(d:Int):Int:=
 if d < ystart (2000+d*400 / 146097) then 2000+d*400 / 146097 - 1
 else if ystart (2000+d*400 / 146097+1)<=d then 2000+d*400 / 146097+1
 else 2000+d*400 / 146097
theorem Ox(d:Int):ystart (qw d)<=d/\d < ystart (qw d+1):=by
 unfold qw;have e:2000+d*400 / 146097 - 1+1=2000+d*400 / 146097:=J1
 by_cases h:d < ystart (2000+d*400 / 146097)
 ·rw[KI h,e];refine⟨?_,h⟩;unfold ystart lb at*;omega
 ·rw[JS h];by_cases h2:ystart (2000+d*400 / 146097+1)<=d
  ·rw[KI h2];refine⟨h2,?_⟩;unfold ystart lb at*;omega
  ·rw[JS h2];omega
def mon(y m n k:Int):Int:=num ((y*12+m - 1+k)/ 12) ((y*12+m - 1+k)% 12+1) (min n (mlen ((y*12+m - 1+k)/ 12) ((y*12+m - 1+k)% 12+1)))
theorem Oy(y:Int):365*(y - 2000)+(y - 2000+3)/ 4 - (y - 2000+99)/ 100+(y - 2000+399)/ 400=ystart y:=by
 unfold ystart lb;omega
theorem length_eq(y m:Int)(h1:1<=m)(h2:m<=12):(if m=2/\(y % 4≠0\/(y % 100=0/\y % 400≠0)) then(28:Int) else [31,29,31,30,31,30,31,31,30,31,30,31].getD (m - 1).toNat 0)=mlen y m:=by
 by_cases h:m=2
 ·subst h;rw[z4];unfold ld;by_cases l:jn y=true
  ·rw[KI l,JS (by have:=(sC y).mp l;omega)];rfl
  ·rw[JS l,KI (by have:=mt (sC y).mpr l;omega)];rfl
 ·rw[z5 h,JS (λz=>h z.1)];rcases z6 h1 h2 with z|z|z|z|z|z|z|z|z|z|z|z<;>subst z<;>first|rfl|exact absurd rfl h
def fst(M:Int):Int:=num (M / 12) (M % 12+1) 1
def Fc(M:Int):Int:=mlen (M / 12) (M % 12+1)
theorem Fd(M:Int):fst (M+1)=fst M+Fc M:=by
 unfold fst Fc num;by_cases h:M % 12+1=12
 ·rw[show(M+1)/ 12=M / 12+1 by omega,show(M+1)% 12+1=1 by omega,h,uD,ystart_succ];have:=uE (M / 12);have:=uC (M / 12);omega
 ·rw[show(M+1)/ 12=M / 12 by omega,show(M+1)% 12+1=(M % 12+1)+1 by omega,fz J1];omega
def Dn(M n:Int):Int:=fst M+n - 1
end Day
namespace L2
open PySem PySem.Spec PyProof.Rows PySem.W
def d2(m:Nat):List Nat:=[48+m / 10,48+m % 10]
def d4(y:Nat):List Nat:=[48+y / 1000,48+y / 100 % 10,48+y / 10 % 10,48+y % 10]
open PySem PySem.Spec PyProof.Rows PySem.W PySem.Calls
theorem Oz{Q:JK->K9->Prop}(hi:s.heap.IsTupleIter j t i)(ht:s.heap.IsTuple t its)(hx:its[i]?=some x)
 (k:∀h2,h2.IsTupleIter j t (i+1)->Wz j s.heap h2->Q x {s with heap:=h2}):KS (Kc prog w) A (Xn (.ref j)) Q E s:=by
 obtain⟨oi,e1,c1,d1⟩:=id hi;obtain⟨ot,e2,_,n2,d2⟩:=ht;unfold Xn;refine JY (Nu (name:=T4 "__next__") hi.typeIs F.slot_tuple_iterator_next (N6 F.slot_tuple_iterator_next hi.typeIs F.entry_tuple_iterator_next ?_ (F.args_tuple_iterator_next_1 _)))
 (show KS _ _ (field (.ref j) 0 >>=_) _ _ s);refine JY (Ng e1 d1 (x:= .ref t) rfl ?_)
 (show KS _ _ (if (UW t==Vy)=true then _ else _) _ _ s);rw[JS (show ¬((UW t==Vy)=true) from Ue)]
 (show KS _ _ (field (.ref j) 1 >>=_) _ _ s);refine JY (Ng e1 d1 (x:= .int i 0) rfl ?_)
 (show KS _ _ (Pn (.ref t) >>=_) _ _ s);refine JY (PK e2 d2 ?_)
 simp only[VD,hx];refine JY (Om e1 d1 KJ (Kd ⟨x,rfl,Kd (k _ ?_ (Vc ..))⟩));exact⟨_,VA _ e1 (Xc (VZ d1 _)),(Yl ..).trans c1,by rw[VZ d1];simp[MR]⟩
theorem Fe(hh:A.handled=none)(hi:s.heap.IsTupleIter j t i)(ht:s.heap.IsTuple t its)(hx:its[i]?=none)
 (k:∀h2 e,Zt j s.heap h2->(∃o,h2.get? e=some o/\o.cls= .type "StopIteration")->E (.ref e) {s with heap:=h2}):KS (Kc prog w) A (Xn (.ref j)) Q E s:=by
 obtain⟨oi,e1,c1,d1⟩:=id hi;obtain⟨ot,e2,_,n2,d2⟩:=ht;unfold Xn;refine JY (Nu (name:=T4 "__next__") hi.typeIs F.slot_tuple_iterator_next (N6 F.slot_tuple_iterator_next hi.typeIs F.entry_tuple_iterator_next ?_ (F.args_tuple_iterator_next_1 _)))
 (show KS _ _ (field (.ref j) 0 >>=_) _ _ s);refine JY (Ng e1 d1 (x:= .ref t) rfl ?_)
 (show KS _ _ (if (UW t==Vy)=true then _ else _) _ _ s);rw[JS (show ¬((UW t==Vy)=true) from Ue)]
 (show KS _ _ (field (.ref j) 1 >>=_) _ _ s);refine JY (Ng e1 d1 (x:= .int i 0) rfl ?_)
 (show KS _ _ (Pn (.ref t) >>=_) _ _ s);refine JY (PK e2 d2 ?_)
 simp only[VD,hx];refine JY (P4 (JY (Om e1 d1 KJ ?_)))
 (show KS _ _ (newExc (.type "StopIteration") [] >>=_) _ _ _);refine JY ?_;simp only[newExc,newTuple]
 refine JY (MG ?_ (by size_fits));refine JY (m:=QN _ _) (PQ (a:=Vy) (by first|rfl | (simp only[QN];rfl)) ?_);refine MG ?_ (by size_fits);simp only[raiseNew];refine JY (wpAny_handled ?_)
 first|rw[show A.in1.handled=none from hh]|rw[hh]
 refine JY (Kd (wpAny_throw ?_));exact k _ _ (((Vc ..).extBut.push _).push _) ⟨_,UE _ rfl,rfl⟩
def iV(t:DT):DB:=λY Q=>t Y λd=>∃ds,d= .list ds/\Q (!ds.isEmpty)
theorem sE(h:DE X H0 O0 e t)(he:∀whole,isTrue e X.env whole=(do let v<-whole;O6 e.pos;NO [v] (truthy v)):=by intro _;rfl):PT X e (b5 X.K H0 O0 (iV t)):=
 (CK h he).imp λU H Q ⟨O,Y,Qd,w,q,k⟩=>⟨O,Y,_,w,q,λd v H' uu s r=>by
  obtain⟨ds,e,qb⟩:=uu;subst e;obtain⟨a,vs,rfl,hs,r⟩:=(Sh.dt r).lst;refine⟨_,.inl ⟨vs,hs,rfl⟩,?_⟩;have:(!vs.isEmpty)=!ds.isEmpty:=by cases r<;>rfl
  rw[this];exact k _ H' qb s⟩
theorem uF:∀{kv:List (ao×V)}{ks:List Str}{ds:List J4},kv.map (·.1)=ks.map VG->aj Z H O (kv.map (·.2)) ds->bq ks ds z=none->eZ kv (.inr z)=none
 | [],_,ds,_,_,e=>rfl
 |_::_,[],ds,h,_,_=>by cases h
 |p::kv,k::ks,ds,h,hd,e=>by
  rw[T9]at hd;cases hd with
  |cons h1 h2=>
   simp only[T9,U2]at h;obtain⟨p1,p2⟩:=p;obtain⟨rfl,h⟩:=h;unfold bq at e;by_cases hk:k=z
   ·rw[KI hk]at e;cases e
   ·rw[JS hk]at e;rw[qq (λq=>hk (jO.mp q))];exact uF h h2 e
def mX(to tk:DT):DT:=λY Q=>to Y λx=>∃ks ds,x=ig ks ds/\tk Y λy=>∃z,y= .str z/\Q ((bq ks ds z).getD .none)
theorem abH{apos cpos:Pos}(hu:X.A.units+64 < Ll)(ho:DE X H0 O0 o to)(he:DE X H0 O0 e tk)(m:M1 X o "get" apos e cpos):DE X H0 O0 (.Call (.Attribute o "get" apos) [e] [] cpos) (mX to tk):=
 (D5 J1 ho he m).imp λU H Q uu=>by
  obtain⟨O,Y,Qd,w,q,k⟩:=uu;refine⟨O,Y,_,w,q,λx vx H1 ⟨ks,ds,ex,q1⟩ s1 r1=>?_⟩;subst ex;cases r1 with
  | @dic a ob kv ks' kp ds h e1 e2 n rr=>
   have ek:ks'=ks:=by
    have:ks'.map Ub=ks.map Ub:=e2.symm;exact sh this
   subst ek;refine⟨a,rfl,.inl ⟨kv,.inr ⟨_,h⟩⟩,O,Y,_,w.mono s1,q1,λy vy H2 ⟨z,ey,q2⟩ s2 r2=>?_⟩;subst ey;cases r2;refine⟨_,dJ.z (k:= .inr z) (s2 _ _ h),k _ _ _ q2 (s1.trans s2) ?_⟩;cases hd:bq ks' ds z with
   |none=>rw[uF e1 rr hd];exact .non
   |some d=>
    obtain⟨v,hv,dv⟩:=uu e1 rr hd;rw[hv];exact dv.mono s2
def mY(to tk tx:DT):DT:=λY Q=>to Y λx=>∃ks ds,x=ig ks ds/\tk Y λy=>tx Y λu=>∃z,y= .str z/\Q ((bq ks ds z).getD u)
theorem Ff{apos cpos:Pos}(hu:X.A.units+64 < Ll)(ho:DE X H0 O0 o to)(he:DE X H0 O0 e tk)(hf:DE X H0 O0 f tx)(m:M2 X o "get" apos e f cpos):DE X H0 O0 (.Call (.Attribute o "get" apos) [e,f] [] cpos) (mY to tk tx):=
 (abx J1 ho he hf m).imp λU H Q uu=>by
  obtain⟨O,Y,Qd,w,q,k⟩:=uu;refine⟨O,Y,_,w,q,λx vx H1 ⟨ks,ds,ex,q1⟩ s1 r1=>?_⟩;subst ex;cases r1 with
  | @dic a ob kv ks' kp ds h e1 e2 n rr=>
   have ek:ks'=ks:=by
    have:ks'.map Ub=ks.map Ub:=e2.symm;exact sh this
   subst ek;refine⟨a,rfl,.inl ⟨kv,.inr ⟨_,h⟩⟩,O,Y,_,w.mono s1,q1,λy vy H2 q2 s2 r2=>?_⟩;refine⟨O,Y,_,(w.mono s1).mono s2,q2,λu vu H3 ⟨z,ey,q3⟩ s3 r3=>?_⟩;subst ey;cases r2;refine⟨_,dJ.z (k:= .inr z) (s3 _ _ (s2 _ _ h)),k _ _ _ q3 ((s1.trans s2).trans s3) ?_⟩;cases hd:bq ks' ds z with
   |none=>rw[uF e1 rr hd];exact r3
   |some d=>
    obtain⟨v,hv,dv⟩:=uu e1 rr hd;rw[hv];exact(dv.mono s2).mono s3
theorem Dt.dicE(h:Dt Z H O v (ig ks ds)):∃a ob kv,v= .ref a/\H a=some (.frz ob (.dK kv))/\kv.map (·.1)=ks.map VG/\¬O a/\aj Z H O (kv.map (·.2)) ds:=by
 cases h with
 | @dic a ob kv ks' kp ds h e1 e2 n rr=>
  have ek:ks'=ks:=sh e2.symm;subst ek;exact⟨a,ob,kv,rfl,h,e1,n,rr⟩
theorem Fg{kv:List (ao×V)}{ks:List Str}(e1:kv.map (·.1)=ks.map VG)(r:aj Z H O (kv.map (·.2)) ds):(eZ kv (.inr z)).isSome=(bq ks ds z).isSome:=by
 cases hd:bq ks ds z with
 |none=>rw[uF e1 r hd];rfl
 |some d=>
  obtain⟨v,hv,_⟩:=uu e1 r hd;rw[hv];rfl
def jo(neg:Bool)(tk to:DT):DT:=λY Q=>tk Y λy=>to Y λx=>∃z ks ds,y= .str z/\x=ig ks ds/\Q (.bool (if neg then !(bq ks ds z).isSome else(bq ks ds z).isSome))
theorem OB(hu:X.A.units+64 < Ll)(ho:DE X H0 O0 o to)(he:DE X H0 O0 e tk):PC X .In e o (up X.K H0 O0 (jo false tk to)):=λacT s U H Q I ⟨O,Y,Qd,w,q,k⟩=>
 Mu J1 he ho acT s U H Q I ⟨O,Y,_,w,q,λy uy H2 q2 s2 r2=>⟨O,Y,_,w.mono s2,q2,λx ux H3 uu s3 r3=>by
  obtain⟨z,ks,ds,ey,ex,q3⟩:=uu;subst ey ex;cases r2;obtain⟨a,ob,kv,rfl,h,e1,n,rr⟩:=r3.dicE;exact⟨a,_,rfl,dJ.z (k:= .inr z) h,by rw[Fg e1 rr];exact k _ _ _ q3 (s2.trans s3) (.bl _)⟩⟩⟩
theorem OC(hu:X.A.units+64 < Ll)(ho:DE X H0 O0 o to)(he:DE X H0 O0 e tk):PC X .NotIn e o (up X.K H0 O0 (jo true tk to)):=λacT s U H Q I ⟨O,Y,Qd,w,q,k⟩=>
 D2 J1 he ho acT s U H Q I ⟨O,Y,_,w,q,λy uy H2 q2 s2 r2=>⟨O,Y,_,w.mono s2,q2,λx ux H3 uu s3 r3=>by
  obtain⟨z,ks,ds,ey,ex,q3⟩:=uu;subst ey ex;cases r2;obtain⟨a,ob,kv,rfl,h,e1,n,rr⟩:=r3.dicE;exact⟨a,_,rfl,dJ.z (k:= .inr z) h,by rw[Fg e1 rr];exact k _ _ _ q3 (s2.trans s3) (.bl _)⟩⟩⟩
theorem aaM(hu:X.A.units+64 < Ll)(ho:DE X H0 O0 o to)(he:DE X H0 O0 e tk)(hm:NC .In o=false:=by rfl):PT X (.Compare e [.In] [o] pos) (b5 X.K H0 O0 (eX (jo false tk to))):=
 (ti (OB hu ho he) hm).imp λU H Q uu=>by obtain⟨O,Y,Qd,w,q,k⟩:=uu;exact⟨O,Y,_,w,q,λd v H' uu s r=>by obtain⟨b,e,qb⟩:=uu;subst e;cases r;exact⟨b,rfl,k b H' qb s⟩⟩
theorem OD(hu:X.A.units+64 < Ll)(ho:DE X H0 O0 o to)(he:DE X H0 O0 e tk)(hm:NC .NotIn o=false:=by rfl):PT X (.Compare e [.NotIn] [o] pos) (b5 X.K H0 O0 (eX (jo true tk to))):=
 (ti (OC hu ho he) hm).imp λU H Q uu=>by obtain⟨O,Y,Qd,w,q,k⟩:=uu;exact⟨O,Y,_,w,q,λd v H' uu s r=>by obtain⟨b,e,qb⟩:=uu;subst e;cases r;exact⟨b,rfl,k b H' qb s⟩⟩
theorem Fh:PE X (.Dict [] [] pos) (λ_ H Q=>∀p o,H p=none->Q (.ref p) (ah H p (.frz o (.dK [])))):=λacT s U H Q I h=>by
 have I1:=I.laid (a:=s.heap.objs.size) (o:= .dK []) (t':=s.toks) (λ_ _ q=>Ua _ q) (T8 _) (D3 s.heap I.big);obtain⟨o,I2⟩:=I1.fast bF;rw[JQ]at I2;exact wpAny_Dict_empty ⟨.ref s.heap.objs.size,_,I2,rfl,h _ o (I.hok.fresh (T8 _))⟩
mutual
def dn:J4->Bool
 | .list ds=>gC ds
 | .tuple ds=>gC ds
 | .none=>true
 | .bool _=>true
 | .int _=>true
 | .str _=>true
 |_=>false
def gC:List J4->Bool
 | []=>true
 |d::ds=>dn d && gC ds
end
def Gp(C:J7)(H:Hp)(O O1:Ex):Prop:=∀a,O a->O1 a\/(∃o kv,H a=some (.frz o (.dK kv)))\/∃dx fs,H a=some (.ins C dx fs)
theorem Gp.ne(g:Gp C H O O1)(h:Rd H a u)(n:¬O1 a)(h1:∀kv,u≠ .dK kv)(h2:∀dx fs,u≠ .ins C dx fs)(h3:∀o kv,u≠ .frz o (.dK kv)):¬O a:=λz=>by
 rcases g a z with q|⟨o,kv,q⟩|⟨dx,fs,q⟩
 ·exact n q
 ·rcases h with h|⟨o',h⟩<;>rw[q]at h<;>cases h
  ·exact h3 _ _ rfl
  ·exact h1 _ rfl
 ·rcases h with h|⟨o',h⟩<;>rw[q]at h<;>cases h;exact h2 _ _ rfl
mutual
theorem Dt.cln(g:Gp C H O O1):∀{v:V}{d:J4},Dt Z H O1 v d->dn d=true->Dt Z H O v d
 |_,_,.non,_=>.non
 |_,_,.bl b,_=>.bl b
 |_,_,.int i,_=>.int i
 |_,_,.str x,_=>.str x
 |_,_,.tup h n r,c=>.tup h (g.ne h n (λ_ z=>nomatch z) (λ_ _ z=>nomatch z) (λ_ _ z=>nomatch z)) (aj.cln g r (by simpa [dn]using c))
 |_,_,.tupK h r,c=>.tupK h (aj.cln g r (by simpa [dn]using c))
 |_,_,.lst h n r,c=>.lst h (g.ne h n (λ_ z=>nomatch z) (λ_ _ z=>nomatch z) (λ_ _ z=>nomatch z)) (aj.cln g r (by simpa [dn]using c))
 |_,_,.pack _ _,c=>by simp[dn]at c
 |_,_,.purse _ _,c=>by simp[dn]at c
 |_,_,.dct0 _ _,c=>by simp[dn]at c
 |_,_,.obj _ _ _ _,c=>by simp[dn]at c
 |_,_,.dic _ _ _ _ _,c=>by simp[dn]at c
 |_,_,.scr _ _,c=>by simp[dn]at c
theorem aj.cln(g:Gp C H O O1):∀{vs:List V}{ds:List J4},aj Z H O1 vs ds->gC ds=true->aj Z H O vs ds
 |_,_,.nil,_=>.nil
 |_,_,.cons h r,c=>by
  rw[gC,U0]at c;exact .cons (Dt.cln g h c.1) (aj.cln g r c.2)
end
def z9(C:J7)(d:J4):Prop:=dn d=true\/∃C' kp ds,C'≠C/\d=gb C' kp ds/\gC ds=true
theorem Dt.clnO(g:Gp C H O O1)(h:Dt Z H O1 v d)(c:z9 C d):Dt Z H O v d:=by
 rcases c with c|⟨C',kp,ds,ne,rfl,c⟩
 ·exact h.cln g c
 ·generalize e:gb C' kp ds=x at h;cases h with
  | @obj a C2 dx fs kp' ds' h1 h2 n r=>
   simp only[gb,SU,U2,Yq,Vx,Vq,Wh,and_true,true_and]at e;obtain⟨e1,e2,e3⟩:=e;have e1:C'=C2:=by exact_mod_cast e1
   subst e1 e2 e3;refine .obj h1 h2 ?_ (r.cln g c);exact g.ne (.inl h1) n (λ_ z=>nomatch z) (λ_ _ z=>by cases z;exact ne rfl) (λ_ _ z=>nomatch z)
  |_=>first|cases e|simp[gb]at e
theorem bV.thaw(x:bV P w H h)(e:H g=some (.frz o (.dK kv))):bV P w (ah H g (.dK kv)) h:=λb u q=>by
 by_cases hb:b=g
 ·subst hb;rw[bF]at q;cases q;obtain⟨_,z⟩:=x b _ e;exact z
 ·rw[aD hb]at q;exact(x b u q).stay (λ_ _ _ r=>r) (λc r=>by rw[aD (λz=>by rw[z,e]at r;cases r)];exact r) λc xs r=>by rw[aD (λz=>by rw[z,e]at r;cases r)];exact r
theorem ag.thaw{acT:List (J7×Obj)}{U:St}{s:K9}(I:ag X acT U H s){g:J7}{o:Obj}{kv:List (ao×V)}(e:H g=some (.frz o (.dK kv)))(hX:∀o u,X.H₀ g≠some (.frz o u)):ag X acT U (ah H g (.dK kv)) s:=by
 have ne:∀{b:J7},H b=none->b≠g:=λn z=>by rw[z,e]at n;cases n
 refine⟨I.ok,I.os,I.bare,⟨I.base.keep,I.base.slot,λb o' h1 h2 h3=>?_,I.base.there,λb xs q=>?_,λb o' u q=>?_,λb ps q=>?_⟩,I.loc,I.cell,?_,λx c q=>?_,λp hp=>?_,I.hok.thaw e,I.len⟩
 ·have:=I.base.free b o' h1 h2 h3;rw[aD (ne this)];exact this
 ·have:=I.base.tups b xs q;rw[aD (λz=>by rw[z,e]at this;cases this)];exact this
 ·have:=I.base.frzs b o' u q;rw[aD (λz=>hX o' u (by rw[<-z];exact q))];exact this
 ·obtain⟨m,this⟩:=I.base.tbls b ps q;exact⟨m,by rw[aD (λz=>by rw[z,e]at this;cases this)];exact this⟩
 ·rw[aD (ne I.free)];exact I.free
 ·rw[aD (ne (I.freeC x c q))];exact I.freeC x c q
 ·obtain⟨a,b,c⟩:=I.pin p hp;exact⟨a,by rw[aD (ne b)];exact b,c⟩
section
variable{X:Cx}{CX:fF}{k:Nat}{f C:J7}{fd:L7}{ps:List Str}{sp:Sp}{E:XK}{x m:Str}{p pos apos:Pos}{e o:L8}{es:List L8}{ta:TE}{t:TA}
def OE(X:Cx)(C:J7)(m:Str)(sp:Sp)(E:XK)(ta:TE)(t:TA):TE:=λU H Q=>ta U H λx H1=>∃a dx fs,x= .ref a/\H1 a=some (.ins C dx fs)/\fs.lookup m=none/\
 t U H1 λvs H2=>∃g u og ou gv uv,g≠u/\H2 g=some (.frz og (.dK gv))/\H2 u=some (.frz ou (.dK uv))/\(∀o z,X.H₀ g≠some (.frz o z))/\(∀o z,X.H₀ u≠some (.frz o z))/\
  sp (x::vs) (ah (ah H2 g (.dK gv)) u (.dK uv)) (λv H3=>∃gv' uv',H3 g=some (.dK gv')/\H3 u=some (.dK uv')/\∀og' ou',Q v (ah (ah H3 g (.frz og' (.dK gv'))) u (.frz ou' (.dK uv')))) E
theorem ab4{pl:Sem Bool}(he:PE X o ta)(c:dU X.K C)(hm:iG X.K C m f)(F:aB X.prog X.w X.K X.mg X.base CX k f fd ps sp)(hr:bz k X.A)(hb:dW X.K fd ps [])(hx:iH CX X E)(ha:PA X (e::es) t)
 (hst:Ke (e::es) X.env=(false,eval e X.env)::Ke es X.env:=by rfl)(hpl:(LR pos (Ke es X.env)).any (·.1)=false:=by rfl)
 (ht:eval (.Call (.Attribute o m apos) (e::es) [] pos) X.env=(do
  let ov<-eval o X.env
  O6 apos.atName
  let (f,first)<-NO [ov] (Pj ov m pl)
  callWith pos f first (LR pos (Ke (e::es) X.env)) (NP pos (Nb [] X.env))):=by rfl):
 PE X (.Call (.Attribute o m apos) (e::es) [] pos) (OE X C m sp E ta t):=by
 intro acT s U H Q I h;refine XR (pl:=pl) (aE (he acT s U H _ I h) λu s1 ⟨x,H1,I1,rx,a,dx,fs,ex,ea,l,q⟩=>?_) ht;subst ex;obtain rfl:u=UW a:=rx;refine tI I1 ea c hm l ?_;refine X9 (first:=[.ref a]) (h₀:=X.base) I.ok.mod.kin hm.kp (aE (ha pos acT s1 U H1 _ I1 q) λus s2 ⟨vs,H2,I2,r,q2⟩=>⟨I2.kIn,?_⟩) hst hpl;obtain⟨g,u,og,ou,gv,uv,ne,hg,hu,xg,xu,q2⟩:=q2;have I3:=(I2.thaw hg xg).thaw (g:=u) (o:=ou) (kv:=uv) (by rw[aD (Ne.symm ne)];exact hu) xu;refine aE (rH (us:= .ref a::us) (vs:= .ref a::vs) (dvs:=[]) (ds:=[]) F hr hb .nil hx I3 (.cons rfl r) (by rw[UX];exact q2)) λv s3 z=>?_;obtain⟨y,H4,I4,ry,gv',uv',g4,u4,q4⟩:=z;obtain⟨og',I5⟩:=I4.fast g4;obtain⟨ou',I6⟩:=I5.fast (a:=u) (kv:=uv') (by rw[aD (Ne.symm ne)];exact u4);exact⟨y,_,I6,ry,q4 og' ou'⟩
end
theorem Fi{fs:List (Str×V)}{ks:List Str}(h:fs.map (λp=>Ub p.1)=ks.map Ub)(hm:m∉ks):fs.lookup m=none:=by
 have e:fs.map (·.1)=ks:=by
  apply sh;rw[<-h,Uo];rfl
 subst e
 induction fs with
 |nil=>rfl
 |cons p fs ih=>
  obtain⟨g,x⟩:=p;simp only[T9,Ud,not_or]at hm;rw[US,show(m==g)=false by simpa using hm.1];exact ih (by rw[Uo];rfl) hm.2
def qx(C:J7)(m:Str)(F:Fa)(to:DT)(t:DA):DT:=λY Q=>to Y λx=>∃(ks:List Str)(ds:List J4),x=gb C (ks.map .str) ds/\m∉ks/\t Y λes=>F (x::es) Q
theorem OG:∀U H Q,up Z H0 O0 (qx C m F to t) U H Q->rG C m (aP Z F) [] E (up Z H0 O0 to) (gf Z H0 O0 t) U H Q:=
 λU H Q uu=>by obtain⟨O,Y,Qd,w,q,k⟩:=uu;exact⟨O,Y,_,w,q,λx v H1 uu s1 r1=>by
  obtain⟨ks,ds,ex,hm,q1⟩:=uu;have r0:=r1;subst ex;obtain⟨a,dx,fs,rfl,h1,h2,r⟩:=r1.objI;exact⟨a,dx,fs,rfl,h1,Fi h2.symm hm,O,Y,_,w.mono s1,q1,λes vs H2 q2 s2 r2=>⟨O,_,Qd,(w.mono (s1.trans s2)).trk,by rw[UX];exact .cons (r0.mono s2) r2,q2,λd v H3 q3 s3 r3=>k d v H3 q3 (s1.trans (s2.trans s3)) r3⟩⟩⟩
theorem uG:∀U H Q,up Z H0 O0 (qx C m F to iJ) U H Q->rG C m (aP Z F) [] E (up Z H0 O0 to) qa U H Q:=
 λU H Q uu=>by obtain⟨O,Y,Qd,w,q,k⟩:=uu;exact⟨O,Y,_,w,q,λx v H1 uu s1 r1=>by
  obtain⟨ks,ds,ex,hm,q1⟩:=uu;have r0:=r1;subst ex;obtain⟨a,dx,fs,rfl,h1,h2,r⟩:=r1.objI;exact⟨a,dx,fs,rfl,h1,Fi h2.symm hm,O,_,Qd,(w.mono s1).trk,.cons r0 .nil,q1,λd v H3 q3 s3 r3=>k d v H3 q3 (s1.trans s3) r3⟩⟩
def pA:Dl->Bool
 | []=>true
 |some (.r _ _ _ _ _ _ _)::_=>false
 |_::r=>pA r
theorem Fj:∀{Y:Dl}{j:Nat},pA Y=true->Y[j]?≠some (some (.r l C g u fd gd ud))
 | [],_,_,z=>by simp at z
 |y::r,0,h,z=>by
  simp at z;subst z;simp[pA]at h
 |y::r,j+1,h,z=>by
  have h':pA r=true:=by
   unfold pA at h;split at h
   ·rename_i q;cases q
   ·cases h
   ·rename_i q;cases q;exact h
  exact Fj (Y:=r) (j:=j) h' (by simpa using z)
section
variable{Z:T5}{H0 H H':Hp}{O0 O:Ex}{U:St}{Y:Dl}
theorem iI.goN(h:iI Z H O0 O x y)(nr:∀l C g u fd gd ud,y≠some (.r l C g u fd gd ud))(S:aJ H H' O O')(kp:∀l o z,y=some z->z.own->x=some (.ref l)->O l->¬O0 l->H l=some o->O' l/\H' l=some o)(kp3:∀a o,O0 a->H a=some o->H' a=some o):iI Z H' O0 O' x y:=by
 match y,h with
 |none,_=>exact VY
 |some (.v d),⟨v,e,r⟩=>exact⟨v,e,r.step S⟩
 |some (.o ds),⟨l,vs,e,a,b,c,r⟩=>exact⟨l,vs,e,(kp l _ _ rfl trivial e a b c).1,b,(kp l _ _ rfl trivial e a b c).2,r.step S⟩
 |some (.k ds),⟨l,vs,e,a,b,c,r⟩=>exact⟨l,vs,e,(kp l _ _ rfl trivial e a b c).1,b,(kp l _ _ rfl trivial e a b c).2,r.step S⟩
 |some (.i l C ds),⟨dx,vs,e,a,b,c,r1,r2⟩=>exact⟨dx,vs,e,(kp l _ _ rfl trivial e a b c).1,b,(kp l _ _ rfl trivial e a b c).2,r1,r2.step S⟩
 |some (.r l C g u fd gd ud),_=>exact absurd rfl (nr l C g u fd gd ud)
 |some (.b ds),⟨l,vs,e,a,c,r⟩=>exact⟨l,vs,e,a,kp3 _ _ a c,r.step S⟩
theorem OH{i j:Nat}(h:j≠i):(Y.set i none)[j]?=Y[j]?:=Us (Ne.symm h)
theorem Wd.putR(w:Wd Z H0 O0 H O U Y)(e:Y[i]?=some (some (.r l C g u fd gd ud)))(nr:pA (Y.set i none)=true)(hg:bM Z H O gv gd')(hu:bM Z H O uv ud'):
 Wd Z H0 O0 (ah (ah H g (.frz og (.dK gv))) u (.frz ou (.dK uv))) O U (Y.set i (some (.r l C g u fd gd' ud')))/\aJ H (ah (ah H g (.frz og (.dK gv))) u (.frz ou (.dK uv))) O O:=by
 obtain⟨x1,x2,x3,dx,fs,og0,ou0,gv0,uv0,hl,hf,ne,⟨g1,g2,g3,_⟩,u1,u2,u3,_⟩:=w.sl i _ e;have g0:H0 g=none:=(w.new g g1).resolve_left g2;have u0:H0 u=none:=(w.new u u1).resolve_left u2;have li:i < Y.length:=(Uj.mp e).1;have at_:∀{b:J7},b≠g->b≠u->(ah (ah H g (.frz og (.dK gv))) u (.frz ou (.dK uv))) b=H b:=λh1 h2=>by rw[aD h2,aD h1]
 have S:aJ H (ah (ah H g (.frz og (.dK gv))) u (.frz ou (.dK uv))) O O:=⟨λb o q n=>by rw[at_ (λz=>n (by rw[z];exact g1)) (λz=>n (by rw[z];exact u1))];exact q,λ_ _ n=>n⟩;have gg:(ah (ah H g (.frz og (.dK gv))) u (.frz ou (.dK uv))) g=some (.frz og (.dK gv)):=by rw[aD ne,bF]
 have lg:l≠g:=λz=>by rw[z,g3]at hl;cases hl
 have lu:l≠u:=λz=>by rw[z,u3]at hl;cases hl
 refine⟨⟨λb o q=>by rw[at_ (λz=>by rw[z,g0]at q;cases q) (λz=>by rw[z,u0]at q;cases q)];exact w.same b o q,w.sub,w.new,λb z=>?_,by simp[w.len],λj y q=>?_,λj k y z b e1 y1' e2 z2 e3 e4=>?_⟩,S⟩
 ·by_cases q1:b=g
  ·rw[q1,gg];exact λz=>nomatch z
  ·by_cases q2:b=u
   ·rw[q2,bF];exact λz=>nomatch z
   ·rw[at_ q1 q2];exact w.trk b z
 ·by_cases hj:j=i
  ·subst hj;rw[UK li]at q;cases q;exact⟨x1,x2,x3,dx,fs,og,ou,gv,uv,by rw[at_ lg lu];exact hl,⟨hf.1,hf.2.step S⟩,ne,⟨g1,g2,gg,hg.step S⟩,u1,u2,bF,hu.step S⟩
  ·rw[Us (Ne.symm hj)]at q;refine(w.sl j y q).goN (λl' C' g' u' fd' gd' ud' z=>?_) S (λb o z hz ho e' a1 a2 a3=>⟨a1,?_⟩) λb o a1 a3=>?_
   ·subst z;exact Fj nr (by rw[OH hj];exact q)
   ·subst hz;have nf:=w.nofrz q ho (gc e');rw[at_ (λz=>nf _ _ (by rw[z];exact g3)) (λz=>nf _ _ (by rw[z];exact u3))];exact a3
   ·rw[at_ (λz=>g2 (by rw[<-z];exact a1)) (λz=>u2 (by rw[<-z];exact a1))];exact a3
 ·have fI:∀{j:Nat}{y:Sl},(Y.set i (some (.r l C g u fd gd' ud')))[j]?=some (some y)->y.own->∃y',Y[j]?=some (some y')/\y'.own:=λ{j y} q hq=>by
   by_cases hj:j=i
   ·subst hj;exact⟨_,e,trivial⟩
   ·rw[Us (Ne.symm hj)]at q;exact⟨_,q,hq⟩
  obtain⟨_,q1,r1⟩:=fI e1 y1';obtain⟨_,q2,r2⟩:=fI e2 z2;exact w.dis j k _ _ b q1 r1 q2 r2 e3 e4
theorem Wd.setR(w:Wd Z H0 O0 H O U Y){O':Ex}(sm:au H H')(sb:∀a,O a->O' a)(nw:∀a,O' a->O a\/H a=none)(tr:∀a,O' a->H' a≠none)(h1:O' l)(h2:¬O l)(R:wV Z H' O O' l C g u fd gd ud):
 Wd Z H0 O0 H' O' (U.set i (some (.ref l))) (Y.set i (some (.r l C g u fd gd ud)))/\aJ H H' O O':=by
 have S:aJ H H' O O':=⟨λb o e _=>sm b o e,λb hb hn z=>(nw b z).elim hn hb⟩;have hl:H l=none:=(nw l h1).resolve_left h2;have none0:∀{a:J7},H a=none->H0 a=none:=λ{a} h=>by
  cases e:H0 a with
  |none=>rfl
  |some o=>rw[w.same _ _ e]at h;cases h
 have n0:∀{a:J7},¬O a->¬O0 a:=λh z=>h (w.sub _ z);refine⟨⟨w.same.trans sm,λa z=>sb a (w.sub a z),λa z=>(nw a z).elim (w.new a) λq=>.inr (none0 q),tr,by simp[w.len],λj y e=>?_,λj k y z a e1 y1 e2 z2 e3 e4=>?_⟩,S⟩
 ·by_cases hj:j=i
  ·subst hj;have li:j < Y.length:=by
    have:=(Uj.mp e).1;simpa using this
   rw[UK li]at e;cases e;rw[UK (by rw[w.len];exact li)];obtain⟨dx,fs,og,ou,gv,uv,r1,r2,r3,⟨a1,a2,a3⟩,b1,b2,b3⟩:=R;exact⟨rfl,h1,n0 h2,dx,fs,og,ou,gv,uv,r1,r2,r3,⟨a1,n0 a2,a3⟩,b1,n0 b2,b3⟩
  ·rw[Us (Ne.symm hj)]at e⊢;exact(w.sl j y e).go S (λl o _ _ a _ c=>⟨sb _ a,sm _ _ c⟩) (λa o u a1 _ a3=>⟨sb _ a1,sm _ _ a3⟩) λa o _ a3=>sm _ _ a3
 ·have no:∀{j:Nat}{y:Sl},j≠i->Y[j]?=some (some y)->y.own->U[j]?≠some (some (.ref l)):=λ{j y} _ e h z=>by
   obtain⟨l',x1,x2,_⟩:=w.adr e h;rw[z]at x1;cases x1;exact h2 x2
  by_cases hj:j=i
  ·by_cases hk:k=i
   ·rw[hj,hk]
   ·exfalso;rw[hj]at e3;have li:i < U.length:=by
     have:=(Uj.mp e3).1;simpa using this
    rw[UK li]at e3;cases e3;rw[Us (Ne.symm hk)]at e2 e4;exact no hk e2 z2 e4
  ·by_cases hk:k=i
   ·exfalso;rw[hk]at e4;have li:i < U.length:=by
     have:=(Uj.mp e4).1;simpa using this
    rw[UK li]at e4;cases e4;rw[Us (Ne.symm hj)]at e1 e3;exact no hj e1 y1 e3
   ·rw[Us (Ne.symm hj)]at e1 e3;rw[Us (Ne.symm hk)]at e2 e4;exact w.dis j k _ _ a e1 y1 e2 z2 e3 e4
end
def gY(m:Str)(ks:List Str):Bool:=ks.all (λk=>!(k==cB) && !(k==eG) && !(k==m)) && !(m==cB) && !(m==eG)
theorem Aa{fs gs:List (Str×V)}{m:Str}(h:∀p∈fs,p.1≠m):(fs++gs).lookup m=gs.lookup m:=by
 induction fs with
 |nil=>rfl
 |cons p fs ih=>
  obtain⟨k,v⟩:=p;have hk:k≠m:=h (k,v) UG;rw[Vr,US,show(m==k)=false by simpa using Ne.symm hk];exact ih λq hq=>h q (UD _ hq)
theorem uH(hf:jf Z H O fs fd)(h:gY m (fd.map (·.1))=true):(∀p∈fs,p.1≠cB/\p.1≠eG/\p.1≠m)/\m≠cB/\m≠eG:=by
 unfold gY at h;simp only[U0,Xr,Vp,beq_eq_false_iff_ne]at h;refine⟨λp hp=>?_,h.1.2,h.2⟩;have hm:p.1∈fd.map (·.1):=by rw[<-hf.1];exact V2 hp
 obtain⟨⟨a,b⟩,c⟩:=h.1.1 _ hm;exact⟨a,b,c⟩
theorem Fl:cB≠eG:=Kg
theorem Fm(hf:jf Z H O fs fd)(h:gY m (fd.map (·.1))=true):(fs++[(cB,V.ref g),(eG,V.ref u)]).lookup cB=some (.ref g):=by
 rw[Aa λp hp=>((uH hf h).1 p hp).1];simp[US]
theorem abN(hf:jf Z H O fs fd)(h:gY m (fd.map (·.1))=true):(fs++[(cB,V.ref g),(eG,V.ref u)]).lookup eG=some (.ref u):=by
 rw[Aa λp hp=>((uH hf h).1 p hp).2.1,US,show(eG==cB)=false by simpa using Ne.symm Fl];simp[US]
theorem Fo(hf:jf Z H O fs fd)(h:gY m (fd.map (·.1))=true):(fs++[(cB,V.ref g),(eG,V.ref u)]).lookup m=none:=by
 obtain⟨a,b,c⟩:=uH hf h;rw[Aa λp hp=>(a p hp).2.2,US,show(m==cB)=false by simpa using b,US,show(m==eG)=false by simpa using c];rfl
inductive Ab(Z:T5)(C:J7)(vs:List V)(H:Hp)(Q:VK)(E:XK):Prop
 |mk (l dx:J7) (fs:List (Str×V)) (g u:J7) (gv uv:List (ao×V)) (a:J7) (x:Str) (y z:V):vs=[.ref l,.ref a]->H l=some (.ins C dx fs)->fs.lookup cB=some (.ref g)->fs.lookup eG=some (.ref u)->g≠u->H g=some (.dK gv)->H u=some (.dK uv)->
 br Z H a [.str x,y,z]->gv.length < LB->uv.length < LB->((z= .non/\Q .non (ah H g (.dK (putK gv (.inr x) y))))\/∃s,z= .str s/\Q .non (ah (ah H g (.dK (putK gv (.inr x) y))) u (.dK (putK uv (.inr s) (.bl true)))))->Ab Z C vs H Q E
def Ac(C:J7)(i:Nat)(m:Str)(t:DT):DS:=λE Y=>∃l g u fd gd ud,Y[i]?=some (some (.r l C g u fd gd ud))/\pA (Y.set i none)=true/\gY m (fd.map (·.1))=true/\t Y λd=>∃x y z,d= .tuple [.str x,y,z]/\gd.length < LB/\ud.length < LB/\
 ((z= .none/\E.nx (Y.set i (some (.r l C g u fd (gT gd (.inr x) y) ud))))\/∃s,z= .str s/\E.nx (Y.set i (some (.r l C g u fd (gT gd (.inr x) y) (gT ud (.inr s) (.bool true))))))
theorem Fp{C f:J7}{i k:Nat}{m:Str}{o e:L8}{t:DT}{fdt:L7}{ps:List Str}{pl:Sem Bool}{E:XK}{apos cpos pos:Pos}(hX:∀b,H0 b=none->∀o z,X.H₀ b≠some (.frz o z))(ho:PE X o (dR i))(c:dU X.K C)(hm:iG X.K C m f)(F:aB X.prog X.w X.K X.mg X.base Km k f fdt ps (Ab X.K C))(hr:bz k X.A)(hb:dW X.K fdt ps [])(hx:iH Km X E)
 (he:DE X H0 O0 e t)(hst:Ke [e] X.env=(false,eval e X.env)::Ke [] X.env:=by rfl)(hpl:(LR cpos (Ke [] X.env)).any (·.1)=false:=by rfl)
 (ht:eval (.Call (.Attribute o m apos) [e] [] cpos) X.env=(do
  let ov<-eval o X.env
  O6 apos.atName
  let (f,first)<-NO [ov] (Pj ov m pl)
  callWith cpos f first (LR cpos (Ke [e] X.env)) (NP cpos (Nb [] X.env))):=by rfl)
 (hs:M3 (.Call (.Attribute o m apos) [e] [] cpos) none pos.line X.env=pure false:=by rfl):PS X (.Expr (.Call (.Attribute o m apos) [e] [] cpos) pos) (bw X.K H0 O0 (Ac C i m t)):=
 (tj (ab4 (pl:=pl) ho c hm F hr hb hx (bJ he cA hst) hst hpl ht) hs).imp λD U H uu=>by
  obtain⟨O,Y,E,w,⟨l,g,u,fd,gd,ud,ei,nr,rk,q⟩,k1,k2,k3,k4⟩:=uu;obtain⟨x1,x2,x3,dx,fs,og,ou,gv,uv,hl,hf,ne,⟨g1,g2,g3,g4⟩,u1,u2,u3,u4⟩:=w.sl i _ ei;refine⟨_,gc x1,l,dx,_,rfl,hl,Fo hf rk,O,Y,_,w,q,λd v H1 ⟨x,y,z,ed,l1,l2,q1⟩ s1 r1=>?_⟩;subst ed;obtain⟨a,xs,rfl,sq,rs⟩:=(Sh.dt r1).tup;have hxs:∃y' z',xs=[.str x,y',z']/\Dt X.K H1 O y' y/\Dt X.K H1 O z' z:=by
   cases rs with
   |cons a1 r=>
    cases r with
    |cons a2 r=>
     cases r with
     |cons a3 r=>
      cases r;cases a1;exact⟨_,_,rfl,a2,a3⟩
  obtain⟨y',z',rfl,dy,dz⟩:=hxs;have w1:=w.mono s1;have hl1:=s1 _ _ hl;have g31:=s1 _ _ g3;have u31:=s1 _ _ u3;have lg:l≠g:=λz=>by rw[z,g3]at hl;cases hl
  have lu:l≠u:=λz=>by rw[z,u3]at hl;cases hl
  have ug:u≠g:=Ne.symm ne;have g0:H0 g=none:=(w.new g g1).resolve_left g2;have u0:H0 u=none:=(w.new u u1).resolve_left u2;have sqk:br X.K (ah (ah H1 g (.dK gv)) u (.dK uv)) a [.str x,y',z']:=by
   rcases sq with(h|⟨ob,h⟩)|h
   ·exact .inl (.inl (by rw[aD (λz=>by rw[z,u31]at h;cases h),aD (λz=>by rw[z,g31]at h;cases h)];exact h))
   ·exact .inl (.inr ⟨ob,by rw[aD (λz=>by rw[z,u31]at h;cases h),aD (λz=>by rw[z,g31]at h;cases h)];exact h⟩)
   ·exact .inr h
  refine⟨g,u,og,ou,gv,uv,ne,g31,u31,hX g g0,hX u u0,l,dx,_,g,u,gv,uv,a,x,y',z',rfl,by rw[aD lu,aD lg];exact hl1,Fm hf rk,abN hf rk,ne,by rw[aD ne,bF],bF,sqk,by rw[g4.length];exact l1,by rw[u4.length];exact l2,?_⟩;rcases q1 with⟨rfl,q1⟩|⟨s,rfl,q1⟩
  ·cases dz;refine .inl ⟨rfl,putK gv (.inr x) y',uv,bF,by rw[aD ug,bF],λog' ou'=>?_⟩;obtain⟨w2,S2⟩:=w1.putR (og:=og') (ou:=ou') (gv:=putK gv (.inr x) y') (uv:=uv) ei nr ((g4.mono s1).put (.inr x) dy) (u4.mono s1);have eh:ah (ah (ah (ah (ah H1 g (.dK gv)) u (.dK uv)) g (.dK (putK gv (.inr x) y'))) g (.frz og' (.dK (putK gv (.inr x) y')))) u (.frz ou' (.dK uv))=ah (ah H1 g (.frz og' (.dK (putK gv (.inr x) y')))) u (.frz ou' (.dK uv)):=by
    funext b;unfold ah;by_cases b1:b=u
    ·simp[b1]
    ·by_cases b2:b=g<;>simp[b1,b2]
   rw[eh];exact k1 _ _ _ _ q1 w2 (aJ.trans (.same s1) S2)
  ·cases dz;refine .inr ⟨s,rfl,putK gv (.inr x) y',putK uv (.inr s) (.bl true),by rw[aD ne,bF],bF,λog' ou'=>?_⟩;obtain⟨w2,S2⟩:=w1.putR (og:=og') (ou:=ou') (gv:=putK gv (.inr x) y') (uv:=putK uv (.inr s) (.bl true)) ei nr ((g4.mono s1).put (.inr x) dy) ((u4.mono s1).put (.inr s) (.bl true));have eh:ah (ah (ah (ah (ah (ah H1 g (.dK gv)) u (.dK uv)) g (.dK (putK gv (.inr x) y'))) u (.dK (putK uv (.inr s) (.bl true)))) g (.frz og' (.dK (putK gv (.inr x) y')))) u (.frz ou' (.dK (putK uv (.inr s) (.bl true))))=ah (ah H1 g (.frz og' (.dK (putK gv (.inr x) y')))) u (.frz ou' (.dK (putK uv (.inr s) (.bl true)))):=by
    funext b;unfold ah;by_cases b1:b=u
    ·simp[b1]
    ·by_cases b2:b=g<;>simp[b1,b2]
   rw[eh];exact k1 _ _ _ _ q1 w2 (aJ.trans (.same s1) S2)
abbrev Ad(C:J7)(fd:List (Str×J4))(gks uks:List Str)(gd ud:List (ao×J4)):J4:=gb C ((fd.map (·.1)++[cB,eG]).map .str) (fd.map (·.2)++[ig gks (gd.map (·.2)),ig uks (ud.map (·.2))])
def Ae(C:J7)(i:Nat)(m:Str)(F:Fa)(t:DA):DT:=λY Q=>∃l g u fd gd ud,Y[i]?=some (some (.r l C g u fd gd ud))/\gY m (fd.map (·.1))=true/\∃gks uks:List Str,gd.map (·.1)=gks.map VG/\ud.map (·.1)=uks.map VG/\
 t Y λes=>F (Ad C fd gks uks gd ud::es) λd=>z9 C d/\Q d
theorem OJ:∀U H Q,up Z H0 O0 (Ae C i m F t) U H Q->rG C m (aP Z F) [] E (dR i) (gf Z H0 O0 t) U H Q:=
 λU H Q uu=>by
  obtain⟨O,Y,Qd,w,⟨l,g,u,fd,gd,ud,ei,rk,gks,uks,ek,eu,q⟩,k⟩:=uu;obtain⟨x1,x2,x3,dx,fs,og,ou,gv,uv,hl,hf,ne,⟨g1,g2,g3,g4⟩,u1,u2,u3,u4⟩:=w.sl i _ ei;refine⟨_,gc x1,l,dx,_,rfl,hl,Fo hf rk,O,Y,_,w,q,λes vs H1 q1 s1 r1=>?_⟩;have o1:aJ H1 H1 O (λa=>O a/\a≠l/\a≠g/\a≠u):=⟨λ_ _ z _=>z,λ_ _ n z=>n z.1⟩;refine⟨λa=>O a/\a≠l/\a≠g/\a≠u,_,_,λa z=>(w.mono s1).trk a z.1,?_,q1,λd v H2 ⟨c2,q2⟩ s2 r2=>k d v H2 q2 (s1.trans s2) (r2.clnO (C:=C) (λa z=>?_) c2)⟩
  ·rw[UX];refine .cons (.obj (s1 _ _ hl) ?_ (λz=>z.2.1 rfl) ?_) (r1.step o1)
   ·rw[UA,UA,<-hf.1,Uo];rfl
   ·rw[UA];refine((hf.2.mono s1).step o1).append (.cons (.dic (s1 _ _ g3) (by rw[g4.keys];exact ek) rfl (λz=>z.2.2.1 rfl) ((g4.vals.mono s1).step o1)) (.cons (.dic (s1 _ _ u3) (by rw[u4.keys];exact eu) rfl (λz=>z.2.2.2 rfl) ((u4.vals.mono s1).step o1)) .nil))
  ·by_cases a1:a=l
   ·exact .inr (.inr ⟨dx,_,by rw[a1];exact(s1.trans s2) _ _ hl⟩)
   ·by_cases a2:a=g
    ·exact .inr (.inl ⟨og,gv,by rw[a2];exact(s1.trans s2) _ _ g3⟩)
    ·by_cases a3:a=u
     ·exact .inr (.inl ⟨ou,uv,by rw[a3];exact(s1.trans s2) _ _ u3⟩)
     ·exact .inl ⟨z,a1,a2,a3⟩
def Af(C:J7)(i:Nat)(tk:DT):DT:=λY Q=>tk Y λy=>∃z,y= .str z/\∃l g u fd gd ud,Y[i]?=some (some (.r l C g u fd gd ud))/\gY "mark" (fd.map (·.1))=true/\Q (.bool (!(gz gd (.inr z)).isSome))
theorem abO(hu:X.A.units+64 < Ll)(hc:dU X.K C)(hn:NoAttr X.K C cB)(ho:PE X o (dR i))(he:DE X H0 O0 e tk)(hbs:Nn o cB X.env (eval o X.env)=eval o X.env:=by rfl):PC X .NotIn e (.Attribute o cB pos) (up X.K H0 O0 (Af C i tk)):=λacT s U H Q I ⟨O,Y,Qd,w,q,k⟩=>
 D2 J1 he (tJ ho hbs) acT s U H Q I ⟨O,Y,_,w,q,λy uy H2 uu s2 r2=>by
  obtain⟨z,ez,l,g,u,fd,gd,ud,ei,rk,q2⟩:=uu;subst ez;cases r2;obtain⟨x1,x2,x3,dx,fs,og,ou,gv,uv,hl,hf,ne,⟨g1,g2,g3,g4⟩,u1,u2,u3,u4⟩:=(w.mono s2).sl i _ ei;exact⟨_,gc x1,l,C,dx,_,.ref g,rfl,hl,hc,hn,Fm hf rk,g,_,rfl,dJ.z (k:= .inr z) g3,by rw[g4.none];exact k _ _ _ q2 s2 (.bl _)⟩⟩
theorem OM{C:J7}{i:Nat}{o e:L8}{tk:DT}{pos pos':Pos}(hu:X.A.units+64 < Ll)(hc:dU X.K C)(hn:NoAttr X.K C cB)(ho:PE X o (dR i))(he:DE X H0 O0 e tk)(hbs:Nn o cB X.env (eval o X.env)=eval o X.env:=by rfl)(hm:NC .NotIn (.Attribute o cB pos')=false:=by rfl):PT X (.Compare e [.NotIn] [.Attribute o cB pos'] pos) (b5 X.K H0 O0 (eX (Af C i tk))):=
 (ti (abO hu hc hn ho he hbs) hm).imp λU H Q uu=>by obtain⟨O,Y,Qd,w,q,k⟩:=uu;exact⟨O,Y,_,w,q,λd v H' uu s r=>by obtain⟨b,e,qb⟩:=uu;subst e;cases r;exact⟨b,rfl,k b H' qb s⟩⟩
inductive uI(Z:T5)(F:List J4->List J4->(J4->Prop)->Prop)(vs:List V)(H:Hp)(Q:VK)(E:XK):Prop
 |mk (O:Ex) (vs':List V) (l:J7) (ws:List V) (ds es:List J4) (Qd:J4->Prop):vs=vs'++[.ref l]->(∀a,O a->H a≠none)->aj Z H O vs' ds->O l->H l=some (.lst ws)->aj Z H O ws es->F ds es Qd->(∀d v H',Qd d->au H H'->Dt Z H' O v d->Q v H')->uI Z F vs H Q E
def mZ(N:List Str)(ds es:List J4):Dl:=ds.map (λd=>some (.v d))++(some (.b es)::Uz (N.length - (ds.length+1)) none)
theorem Fq{H:Hp}{O:Ex}(tr:∀a,O a->H a≠none)(r:aj Z H O vs ds)(ol:O l)(hl:H l=some (.lst ws))(rs:aj Z H O ws es):Wd Z H O H O (start N (vs++[.ref l])) (mZ N ds es):=by
 have ln:=r.length;have at1:∀(i:Nat) y,(mZ N ds es)[i]?=some y->(∃d,ds[i]?=some d/\y=some (.v d))\/(i=ds.length/\y=some (.b es))\/y=none:=λi y e=>by
  unfold mZ at e;by_cases h:i < ds.length
  ·rw[Vm (by simpa using h),Ul]at e;cases q:ds[i]? with
   |none=>rw[q]at e;cases e
   |some d=>rw[q]at e;exact .inl ⟨d,rfl,(Ve e).symm⟩
  ·rw[VT (by simpa using WC h),T6,List.getElem?_cons]at e;split at e
   ·rename_i z;exact .inr (.inl ⟨J1,(Ve e).symm⟩)
   ·rw[WY]at e;split at e
    ·exact .inr (.inr (Ve e).symm)
    ·cases e
 refine⟨au.refl _,λ_ z=>z,λ_ z=>.inl z,tr,by simp[start,mZ,ln],λi y e=>?_,λi j ds' es l e1=>?_⟩
 ·rcases at1 i y e with⟨d,hd,rfl⟩|⟨rfl,rfl⟩|rfl
  ·obtain⟨v,hv,rv⟩:=r.getD hd;refine⟨v,?_,rv⟩;have hi:=(Uj.mp hv).1;unfold start;rw[Vm (by simp;omega),Ul,Vm hi,hv];rfl
  ·refine⟨l,ws,?_,ol,hl,rs⟩;unfold start;rw[Vm (by simp;omega),Ul,VT J1,<-ln,W7];rfl
  ·exact VY
 ·rcases at1 i _ e1 with⟨d,_,z⟩|⟨_,z⟩|z
  ·cases z;intro h;exact h.elim
  ·cases z;intro h;exact h.elim
  ·cases z
theorem fH.okB{x qual:Str}{st:Kk}{f:J7}{fd:L7}{N ps:List Str}{k:Nat}{F:List J4->List J4->(J4->Prop)->Prop}(Fu:fH Z x qual st f fd)(S:aO N ps (ar st))(len:∀ds es Q,F ds es Q->ds.length+1=ps.length)
 (hbody:∀(cdv:JK) (A:Lu) (outer:List Env) (s:K9) (H:Hp) (O:Ex) (ds es:List J4) (Q:J4->Prop) (E:XK),bz k (A.deeper (NM qual (ar st) s.heap.objs.size f cdv))->(∀a,O a->H a≠none)->F ds es Q->
  ∃t,b0 (jd Km P w Z mg base N qual (ar st) f cdv A outer s H E).nox (fX st) (bw Z H O t)/\t {nx:=λ_=>Q .none,rt:=Q} (mZ N ds es)):aB P w Z mg base Km (k+1) f fd ps (uI Z F):=by
 refine Fu.ok S (λvs H Q E h=>?_) (λcdv A outer s H vs Q E hr h=>?_)
 ·obtain⟨O,vs',l,ws,ds,es,Qd,rfl,_,r,_,_,_,q,_⟩:=h;rw[Ux,r.length];exact len _ _ _ q
 ·obtain⟨O,vs',l,ws,ds,es,Qd,rfl,tr,r,ol,hl,rs,q,k⟩:=h;obtain⟨t,ht,q'⟩:=hbody cdv A outer s H O ds es Qd E hr tr q;refine⟨_,ht,O,_,_,Fq tr r ol hl rs,q',λO' Y' U' H' z w' S'=>?_,λd v H' z s' r'=>k d v H' z s' r',λ_ _ _ _ z=>z.elim,λ_ _ _ _ z=>z.elim⟩;exact k _ _ _ z w'.same .non
inductive uJ(Z:T5)(C:J7)(F:List J4->List J4->(List (Str×J4)->List (ao×J4)->List (ao×J4)->Prop)->Prop) (vs:List V) (H:Hp) (Q:VK) (E:XK):Prop
 |mk (x dx:J7) (vs':List V) (l:J7) (ws:List V) (H1:Hp) (O:Ex) (ds es:List J4) (Qd:List (Str×J4)->List (ao×J4)->List (ao×J4)->Prop):vs= .ref x::(vs'++[.ref l])->H=ah (ah H1 dx (.own x)) x (.ins C dx [])->H1 x=none->H1 dx=none->dx≠x->
 (∀a,O a->H1 a≠none)->aj Z H1 O vs' ds->O l->H1 l=some (.lst ws)->aj Z H1 O ws es->F ds es Qd->
 (∀fd gd ud g u O' H',Qd fd gd ud->au H1 H'->(∀a,O a->O' a)->(∀a,O' a->O a\/H1 a=none)->(∀a,O' a->H' a≠none)->O' x->¬O x->wV Z H' O O' x C g u fd gd ud->Q .non H')->uJ Z C F vs H Q E
def Ag(N:List Str)(l C:J7)(ds es:List J4):Dl:=some (.i l C [])::(mZ N (.none::ds) es).tail
theorem ON{H1:Hp}{O:Ex}(tr:∀l,O l->H1 l≠none)(r:aj Z H1 O vs ds)(ol:O l)(hl:H1 l=some (.lst ws))(rs:aj Z H1 O ws es)(hx:H1 x=none)(hdx:H1 dx=none)(ne:dx≠x):
 Wd Z H1 O (ah (ah H1 dx (.own x)) x (.ins C dx [])) (λl=>O l\/l=x) (start N (.ref x::(vs++[.ref l]))) (Ag N x C ds es):=by
 have w0:=Fq (N:=N) tr (.cons .non r) ol hl rs;have w1:=w0.mono (au.new (o:=HO.own x) hdx);have hx1:(ah H1 dx (.own x)) x=none:=by rw[aD (Ne.symm ne)];exact hx
 have:=w1.setY (i:=0) (p:=x) (ho:= .ins C dx []) (y0:= .i x C []) trivial hx1 λO' S a b=>⟨dx,[],rfl,a,b,bF,rfl,.nil⟩;exact this
theorem fH.okRn{x qual:Str}{st:Kk}{f C:J7}{fd:L7}{N ps:List Str}{k:Nat}{F:List J4->List J4->(List (Str×J4)->List (ao×J4)->List (ao×J4)->Prop)->Prop}(Fu:fH Z x qual st f fd)(S:aO N ps (ar st))(len:∀ds es Q,F ds es Q->ds.length+2=ps.length)
 (hbody:∀(cdv:JK) (A:Lu) (outer:List Env) (s:K9) (H H1:Hp) (O:Ex) (ds es:List J4) (Q:List (Str×J4)->List (ao×J4)->List (ao×J4)->Prop) (E:XK) (l:J7),bz k (A.deeper (NM qual (ar st) s.heap.objs.size f cdv))->(∀a,O a->H1 a≠none)->(∀b,H1 b=none->∀o z,H b≠some (.frz o z))->F ds es Q->
  ∃t,b0 (jd Km P w Z mg base N qual (ar st) f cdv A outer s H E).nox (fX st) (bw Z H1 O t)/\t {nx:=λY=>∃g u fd gd ud,Y[0]?=some (some (.r l C g u fd gd ud))/\Q fd gd ud,rt:=λ_=>False} (Ag N l C ds es)):aB P w Z mg base Km (k+1) f fd ps (uJ Z C F):=by
 refine Fu.ok S (λvs H Q E h=>?_) (λcdv A outer s H vs Q E hr h=>?_)
 ·obtain⟨x,dx,vs',l,ws,H1,O,ds,es,Qd,rfl,_,_,_,_,_,r,_,_,_,q,_⟩:=h;have:=len _ _ _ q;rw[Uk,Ux,r.length,WI];omega
 ·obtain⟨x,dx,vs',l,ws,H1,O,ds,es,Qd,rfl,rfl,hx,hdx,ne,tr,r,ol,hl,rs,q,k⟩:=h;obtain⟨t,ht,q'⟩:=hbody cdv A outer s (ah (ah H1 dx (.own x)) x (.ins C dx [])) H1 O ds es Qd E x hr tr (λb hb o z=>by
   unfold ah;by_cases b1:b=x
   ·simp[b1]
   ·by_cases b2:b=dx
    ·simp[b1,b2,ne]
    ·simp[b1,b2,hb]) q
  refine⟨_,ht,_,_,_,ON tr r ol hl rs hx hdx ne,q',λO' Y' U' H' z w' S'=>?_,λd v H' z s' r'=>z.elim,λ_ _ _ _ z=>z.elim,λ_ _ _ _ z=>z.elim⟩;obtain⟨g,u,fd,gd,ud,e,z⟩:=z;obtain⟨a1,a2,a3,R⟩:=w'.sl 0 _ e;exact k fd gd ud g u O' H' z w'.same w'.sub w'.new w'.trk a2 a3 R
def Fs(C:J7)(i j:Nat)(F:List J4->List J4->(List (Str×J4)->List (ao×J4)->List (ao×J4)->Prop)->Prop)(t1 t2:DT):DS:=λE Y=>t1 Y λd1=>t2 Y λd2=>∃es,Y[j]?=some (some (.b es))/\F [d1,d2] es λfd gd ud=>∀l g u,E.nx (Y.set i (some (.r l C g u fd gd ud)))
theorem Wd.lent{Z:T5}{U:St}{Y:Dl}(w:Wd Z H0 O0 H O U Y){j:Nat}{es:List J4}(e:Y[j]?=some (some (.b es))):∃l ws,U[j]?=some (some (.ref l))/\O0 l/\H l=some (.lst ws)/\aj Z H O ws es:=by
 obtain⟨l,ws,a,b,c,d⟩:=w.sl j _ e;exact⟨l,ws,gc a,b,c,d⟩
theorem ab8{p cpos pos pos':Pos}(hN:X.N.Nodup)(hi:X.N[i]?=some x)(hxl:iD X.env.scope x)
 (M:Mk X.K C f)(Fk:aB X.prog X.w X.K X.mg X.base Km k f fdt ps (uJ X.K C F))(hr:bz (k+1) X.A)(hg:Gl X y)(hm:X.mg y=some (.ref C))(hb:dW X.K fdt ps [])(hx:iH Km X E)(ha:DE X H0 O0 a t1)(hb2:DE X H0 O0 b t2)(hcv:PE X c (dR j))
 (hdb:(y==("__debug__":Str))=false:=by decide)(he:Ke [a,b,c] X.env=(false,eval a X.env)::Ke [b,c] X.env:=by rfl)(he2:Ke [b,c] X.env=(false,eval b X.env)::Ke [c] X.env:=by rfl)(he3:Ke [c] X.env=(false,eval c X.env)::Ke [] X.env:=by rfl)(hpl:(LR cpos (Ke [b,c] X.env)).any (·.1)=false:=by rfl)
 (hs:M3 (.Call (.Name y p) [a,b,c] [] cpos) (some (.Name x pos')) pos.line X.env=pure false:=by rfl)(hf:X.fn x=true\/X.env.scope.names.lookup x=some .local:=by first|exact .inl rfl|exact .inr rfl|assumption):
 PS X (.Assign [.Name x pos'] (.Call (.Name y p) [a,b,c] [] cpos) pos) (bw X.K H0 O0 (Fs C i j F t1 t2)):=
 (fD hN hi hxl (qg M Fk hr hg hm hb .nil hx (bJ ha (bJ hb2 (bJ hcv cA he3) he2) he) hdb he hpl) hs hf).imp λD U H uu=>by
  obtain⟨O,Y,E,w,q,k1,k2,k3,k4⟩:=uu;refine⟨O,Y,_,w,q,λd1 v1 H1 q1 s1 r1=>⟨O,Y,_,w.mono s1,q1,λd2 v2 H2 ⟨es,ej,q2⟩ s2 r2=>?_⟩⟩;have w2:=w.mono (s1.trans s2);obtain⟨l,ws,h1,h2,h3,h4⟩:=w2.lent ej;refine⟨_,h1,λxx dx hxx hdx ne=>⟨xx,dx,[v1,v2],l,ws,H2,O,[d1,d2],es,_,rfl,rfl,hxx,hdx,ne,w2.trk,.cons (r1.mono s2) (.cons r2 .nil),w2.sub _ h2,h3,h4,q2,λfd gd ud g u O' H' qf sm sb nw tr o1 o2 R=>⟨rfl,?_⟩⟩⟩;obtain⟨w3,S3⟩:=w2.setR (i:=i) sm sb nw tr o1 o2 R;exact k1 _ _ _ _ (qf xx g u) w3 (aJ.trans (.same (s1.trans s2)) S3)
def Ah(C:J7)(i:Nat)(t:DS):DS:=λE Y=>∃l fd,Y[i]?=some (some (.i l C fd))/\gY "mark" (fd.map (·.1))=true/\fd.length < 900/\∀g u,t E (Y.set i (some (.r l C g u fd [] [])))
theorem Ai:∀{fs:List (Str×V)},(∀p∈fs,p.1≠f)->eB f v fs=fs++[(f,v)]
 | [],_=>rfl
 | (g,x)::fs,h=>by
  rw[eB,JS (h (g,x) UG),Ai λp hp=>h p (UD _ hp)];rfl
theorem acx{rest:List Kk}{p1 p2 q1 q2 r1 r2:Pos}(hc:dU X.K C)(hn1:NoAttr X.K C cB)(hn2:NoAttr X.K C eG)(ho1:PE X o1 (dR i))(ho2:PE X o2 (dR i))(h:b0 X rest (bw X.K H0 O0 t))
 (hs1:M3 (.Dict [] [] p1) (some (.Attribute o1 cB q1)) r1.line X.env=pure false:=by rfl)(hs2:M3 (.Dict [] [] p2) (some (.Attribute o2 eG q2)) r2.line X.env=pure false:=by rfl):
 b0 X (.Assign [.Attribute o1 cB q1] (.Dict [] [] p1) r1:: .Assign [.Attribute o2 eG q2] (.Dict [] [] p2) r2::rest) (bw X.K H0 O0 (Ah C i t)):=
 (dS (wA ho1 Fh hs1) (dS (wA ho2 Fh hs2) h)).imp λD U H uu=>by
  obtain⟨O,Y,E,w,⟨l,fd,ei,rk,hl,q⟩,k1,k2,k3,k4⟩:=uu;obtain⟨dx,fs,x1,x2,x3,h1,hf⟩:=w.ownI ei;obtain⟨kk,_,_⟩:=uH hf rk;have lf:fs.length=fd.length:=by have:=congrArg YM hf.1;simpa using this
  have li:i < Y.length:=(Uj.mp ei).1;intro g og hg;have lg:l≠g:=λz=>by rw[z,hg]at h1;cases h1
  refine⟨_,x1,l,C,dx,fs,rfl,by rw[aD lg];exact h1,hc,hn1,J1,?_⟩;rw[Ai λp hp=>(kk p hp).1];intro u ou hu;have lu:l≠u:=λz=>by rw[z,bF]at hu;cases hu
  have gu:g≠u:=λz=>by rw[<-z,aD (Ne.symm lg),bF]at hu;cases hu
  have hu0:H u=none:=by rw[aD (Ne.symm lu),aD (Ne.symm gu)]at hu;exact hu
  refine⟨_,x1,l,C,dx,fs++[(cB,.ref g)],rfl,by rw[aD lu,bF],hc,hn2,by simp;omega,?_⟩;rw[Ai λp hp=>(Um.mp hp).elim (λz=>(kk p z).2.1) λz=>by
   simp only[Ur]at z;subst z;exact Fl]
  rw[Vi];have eh:ah (ah (ah (ah H g (.frz og (.dK []))) l (.ins C dx (fs++[(cB,.ref g)]))) u (.frz ou (.dK []))) l (.ins C dx (fs++([(cB,.ref g)]++[(eG,.ref u)])))=ah (ah (ah H g (.frz og (.dK []))) u (.frz ou (.dK []))) l (.ins C dx (fs++[(cB,.ref g),(eG,.ref u)])):=by
   funext b;unfold ah;by_cases b1:b=l
   ·simp[b1]
   ·by_cases b2:b=u<;>simp[b1,b2]
  rw[eh];have sm:au H (ah (ah H g (.frz og (.dK []))) u (.frz ou (.dK []))):=(au.new hg).trans (au.new (by rw[aD (Ne.symm gu)];exact hu0));have w1:=w.mono sm;have g0:H0 g=none:=by
   cases e:H0 g with
   |none=>rfl
   |some o=>rw[w.same _ _ e]at hg;cases hg
  have u0:H0 u=none:=by
   cases e:H0 u with
   |none=>rfl
   |some o=>rw[w.same _ _ e]at hu0;cases hu0
  have ng:¬O g:=λz=>w.trk g z hg;have nu:¬O u:=λz=>w.trk u z hu0;generalize hH2:ah (ah H g (.frz og (.dK []))) u (.frz ou (.dK []))=H2 at sm w1⊢;have g2:H2 g=some (.frz og (.dK [])):=by rw[<-hH2,aD gu,bF]
  have u2:H2 u=some (.frz ou (.dK [])):=by rw[<-hH2,bF]
  have out:∀b,H b≠none->b≠g/\b≠u:=λb hb=>⟨λz=>hb (by rw[z];exact hg),λz=>hb (by rw[z];exact hu0)⟩;have S:aJ H (ah H2 l (.ins C dx (fs++[(cB,.ref g),(eG,.ref u)]))) O (λa=>O a\/a=g\/a=u):=⟨λb o e n=>by rw[aD (λz=>n (by rw[z];exact x2))];exact sm b o e,λb hb n z=>by
   rcases z with z|z|z
   ·exact n z
   ·exact(out b hb).1 z
   ·exact(out b hb).2 z⟩
  refine⟨λa=>O a\/a=g\/a=u,Y.set i (some (.r l C g u fd [] [])),E,⟨λb o e=>?_,λa z=>.inl (w.sub a z),λa z=>?_,λa z=>?_,by simp[w.len],λj y e=>?_,λj k y z a e1 y1 e2 z2 e3 e4=>?_⟩,q g u,λO2 δ2 σ2 H2 z2 w2 S2=>k1 O2 δ2 σ2 H2 z2 w2 (S.trans S2),k2,λO2 δ2 σ2 H2 z2 w2 S2=>k3 O2 δ2 σ2 H2 z2 w2 (S.trans S2),λO2 δ2 σ2 H2 z2 w2 S2=>k4 O2 δ2 σ2 H2 z2 w2 (S.trans S2)⟩
  ·have l0:H0 l=none:=(w.new l x2).resolve_left x3;rw[aD (λz=>by rw[z,l0]at e;cases e)];exact w1.same b o e
  ·rcases z with z|z|z
   ·exact w.new a z
   ·rw[z];exact .inr g0
   ·rw[z];exact .inr u0
  ·by_cases al:a=l
   ·rw[al,bF];exact λz=>nomatch z
   ·rw[aD al];rcases z with z|z|z
    ·exact w1.trk a z
    ·rw[z,g2];exact λz=>nomatch z
    ·rw[z,u2];exact λz=>nomatch z
  ·by_cases hj:j=i
   ·subst hj;rw[UK li]at e;cases e;exact⟨by rw[x1];rfl,.inl x2,x3,dx,fs,og,ou,[],[],bF,⟨hf.1,hf.2.step S⟩,gu,⟨.inr (.inl rfl),λz=>ng (w.sub _ z),by rw[aD (Ne.symm lg)];exact g2,.nil⟩,.inr (.inr rfl),λz=>nu (w.sub _ z),by rw[aD (Ne.symm lu)];exact u2,.nil⟩
   ·rw[Us (Ne.symm hj)]at e;refine(w.sl j y e).go S (λb o ho' e' a1 a2 a3=>⟨.inl a1,?_⟩) (λb o z a1 a2 a3=>⟨.inl a1,?_⟩) λb o a1 a3=>?_
    ·have nb:b≠l:=λz=>by
      subst z
      match y,ho',e with
      |some z,ho',e=>exact hj (w.dis j i z _ b e (by cases z<;>first|trivial|cases ho') ei trivial (gc e') x1)
     rw[aD nb];exact sm _ _ a3
    ·rw[aD (λz=>by rw[z,h1]at a3;cases a3)];exact sm _ _ a3
    ·rw[aD (λz=>x3 (by rw[<-z];exact a1))];exact sm _ _ a3
  ·have fI:∀{j:Nat}{y:Sl},(Y.set i (some (.r l C g u fd [] [])))[j]?=some (some y)->y.own->∃y',Y[j]?=some (some y')/\y'.own:=λ{j y} q hq=>by
    by_cases hj:j=i
    ·subst hj;exact⟨_,ei,trivial⟩
    ·rw[Us (Ne.symm hj)]at q;exact⟨_,q,hq⟩
   obtain⟨_,q1,r1⟩:=fI e1 y1;obtain⟨_,q2,r2⟩:=fI e2 z2;exact w.dis j k _ _ a q1 r1 q2 r2 e3 e4
def uK(j:Nat)(dg:DG)(tb:DS):DS:=λE Y=>∃es,Y[j]?=some (some (.b es))/\ic dg tb E es Y
theorem OQ(h0:∀a,O0 a->H0 a≠none)(hp:OO (Kc X.prog X.w) X.A X.env X.xe)(hc:X.calm=true)(hi:PE X iter (dR j))(hg:PG X tg g)(gd:GD X.K g dg)(hb:b0 X body (bw X.K H0 O0 tb))(hs:∀x,Me iter X.env x=pure x:=by intro _;rfl):
 PS X (.For tg iter body [] pos) (bw X.K H0 O0 (uK j dg tb)):=
 (p8 hp hc (tw hi) hg hb hs).imp λD U H uu=>by
  obtain⟨O,Y,E,w,⟨es,ej,Iv,q0,qs,qe⟩,k1,k2,k3,k4⟩:=uu;obtain⟨l,vs,h1,h2,h3,r⟩:=w.lent ej;have hl0:H0 l=some (.lst vs):=by
   cases e:H0 l with
   |none=>exact absurd e (h0 l h2)
   |some o=>rw[w.same _ _ e]at h3;rw[h3]
  refine⟨_,h1,l,rfl,⟨vs,.inl (.inl h3)⟩,?_⟩;have S:dX (p7 X.K l) (λH'=>qm H l H') vs:=dX.list (.inl (.inl h3));have hP:∀H',au H0 H'->qm H l H':=λH' s o e=>by rw[h3]at e;cases e;exact s _ _ hl0
  refine⟨λi m U' H'=>∃O' Y',m=vs.length - i/\i<=vs.length/\Wd X.K H0 O0 H' O' U' Y'/\aJ H H' O O'/\Iv i Y',⟨vs.length,O,Y,KJ,UY _,w,aJ.refl _ _,q0⟩,?_⟩;rintro i m σ1 H1 ⟨O1,δ1,rfl,hi,w1,S1,q1⟩;by_cases hlt:i < vs.length
  ·refine .inr ⟨S.go i H1 (hP _ w1.same) hlt,λU' H'=>∃O' Y',Wd X.K H0 O0 H' O' U' Y'/\aJ H H' O O'/\Iv (i+1) Y',λU' H' uu=>by obtain⟨O',Y',w',S',q'⟩:=uu;exact⟨vs.length - (i+1),J1,O',Y',rfl,hlt,w',S',q'⟩,λx H' y=>?_⟩;have yy:=S.yl i H1 x H' (hP _ w1.same) hlt y;clear y;obtain⟨e,y⟩:=yy;subst e;obtain⟨d,ed,rd⟩:=r.get y;refine gd H0 O0 _ O1 σ1 δ1 x d _ _ w1 (rd.step S1) (qs i d δ1 ed q1) λδ2 σ2 q2 w2=>?_;refine⟨O1,δ2,_,w2,q2,λO' Y' U' H' z w' S'=>⟨O',Y',w',S1.trans S',z⟩,k2,λO' Y' U' H' z w' S'=>k1 O' Y' U' H' z w' (S1.trans S'),λO' Y' U' H' z w' S'=>⟨O',Y',w',S1.trans S',z⟩⟩
  ·have e:i=vs.length:=J1
   subst e;refine .inl ⟨S.st _ H1 (hP _ w1.same) (T8 _),?_⟩;rw[r.length]at q1;exact k1 O1 δ1 σ1 H1 (qe δ1 q1) w1 S1
def Ft(j:Nat)(F:List J4->List J4->(J4->Prop)->Prop)(t1 t2 t3:DT):DT:=λY Q=>t1 Y λd1=>t2 Y λd2=>t3 Y λd3=>∃es,Y[j]?=some (some (.o es))/\F [d1,d2,d3] es Q
theorem OR{f:J7}{j k:Nat}{x:Str}{a b c y:L8}{t1 t2 t3:DT}{fdt:L7}{ps:List Str}{E:XK}{F:List J4->List J4->(J4->Prop)->Prop}{p pos:Pos}
 (Fk:aB X.prog X.w X.K X.mg X.base Km k f fdt ps (uI X.K F))(hr:bz k X.A)(hg:Gl X x)(hm:X.mg x=some (.ref f))(hk:Wf X.K (.ref f)=true)(hb:dW X.K fdt ps [])(hx:iH Km X E)(ha:DE X H0 O0 a t1)(hb2:DE X H0 O0 b t2)(hc:DE X H0 O0 c t3)(hy:PE X y (dR j))
 (hdb:(x==("__debug__":Str))=false:=by decide)(he:Ke [a,b,c,y] X.env=(false,eval a X.env)::Ke [b,c,y] X.env:=by rfl)(he2:Ke [b,c,y] X.env=(false,eval b X.env)::Ke [c,y] X.env:=by rfl)(he3:Ke [c,y] X.env=(false,eval c X.env)::Ke [y] X.env:=by rfl)(he4:Ke [y] X.env=(false,eval y X.env)::Ke [] X.env:=by rfl)(hpl:(LR pos (Ke [b,c,y] X.env)).any (·.1)=false:=by rfl):
 DE X H0 O0 (.Call (.Name x p) [a,b,c,y] [] pos) (Ft j F t1 t2 t3):=
 (CW Fk hr hg hm hk hb .nil hx (bJ ha (bJ hb2 (bJ hc (bJ hy cA he4) he3) he2) he) hdb he hpl).imp λU H Q uu=>by
  obtain⟨O,Y,Qd,w,q,k⟩:=uu;refine⟨O,Y,_,w,q,λd1 v1 H1 q1 s1 r1=>⟨O,Y,_,w.mono s1,q1,λd2 v2 H2 q2 s2 r2=>⟨O,Y,_,w.mono (s1.trans s2),q2,λd3 v3 H3 ⟨es,ej,q3⟩ s3 r3=>?_⟩⟩⟩;have w3:=w.mono (s1.trans (s2.trans s3));obtain⟨l,ws,h1,h2,h3,h4,h5⟩:=w3.own ej;exact⟨_,h1,O,[v1,v2,v3],l,ws,[d1,d2,d3],es,Qd,rfl,w3.trk,.cons (r1.mono (s2.trans s3)) (.cons (r2.mono s3) (.cons r3 .nil)),h2,h4,h5,q3,λd v H4 q4 s4 r4=>k d v H4 q4 (s1.trans (s2.trans (s3.trans s4))) r4⟩
section
variable{x y z w:Option Sl}{l:Dl}{i j k m:Nat}{P:J4->Prop}
theorem pB:cJ j ((x::l).set 0 y) P=cJ j (y::l) P:=rfl
theorem pC:cJ j ((x::l).set (i+1) y) P=cJ j (x::l.set i y) P:=rfl
theorem aal:cJ j (((x::l).set 0 y).set k z) P=cJ j ((y::l).set k z) P:=rfl
theorem pF:cJ j (((x::l).set (i+1) y).set k z) P=cJ j ((x::l.set i y).set k z) P:=rfl
theorem pG:cJ j ((((x::l).set 0 y).set k z).set m w) P=cJ j (((y::l).set k z).set m w) P:=rfl
theorem pH:cJ j ((((x::l).set (i+1) y).set k z).set m w) P=cJ j (((x::l.set i y).set k z).set m w) P:=rfl
end
section
variable{Z:T5}{mg:Str->Option JK}{h:LO}{x q:Str}{st:Kk}{f C:J7}{fd:L7}{ps:List Str}
structure Fn (Z:T5) (mg:Str->Option JK) (x:Str) (st:Kk) (f:J7) (fd:L7) (ps:List Str):Prop where
 F:fH Z x x st f fd
 m:mg x=some (.ref f)
 b:dW Z fd ps []
structure Mn (Z:T5) (x q:Str) (st:Kk) (f:J7) (fd:L7) (ps:List Str):Prop where
 F:fH Z x q st f fd
 b:dW Z fd ps []
structure LL (Z:T5) (x:Str) (st:Kk) (f:J7) (fd:L7):Prop where
 a:U4 Z LX x=some (some (.ref f))
 F:fH Z x x st f fd
structure MY (Z:T5) (C:J7) (x q:Str) (st:Kk) (f:J7) (fd:L7):Prop where
 a:We Z (.ref C) x=some (some (.ref f))
 i:YA Z (.ref f)=true
 F:fH Z x q st f fd
structure uL (Z:T5) (C:J7):Prop where
 c:dU Z C
 m:Zn Z C=true
 k:Wf Z (.ref C)=true
theorem LL.of{oc:JK}{od an:Option J7}{osl:Array (Option JK)}{kV doc pm cdv ct:JK}(a:U4 Z LX x=some (some (.ref f)))(l:Z.lookup f=some ⟨oc,od,.func (Wk x x (jE st) (fX st) (ar st) .none kV doc pm an cdv ct),osl⟩)
 (c:Yi Z cdv x=true)(k:Wf Z (.ref f)=true):LL Z x st f (Wk x x (jE st) (fX st) (ar st) .none kV doc pm an cdv ct):=⟨a,Dj l c k⟩
theorem MY.of{oc:JK}{od an:Option J7}{osl:Array (Option JK)}{kV doc pm cdv ct:JK}(a:We Z (.ref C) x=some (some (.ref f)))(i:YA Z (.ref f)=true)(l:Z.lookup f=some ⟨oc,od,.func (Wk x q (jE st) (fX st) (ar st) .none kV doc pm an cdv ct),osl⟩)
 (c:Yi Z cdv q=true)(k:Wf Z (.ref f)=true):MY Z C x q st f (Wk x q (jE st) (fX st) (ar st) .none kV doc pm an cdv ct):=⟨a,i,Dj l c k⟩
theorem LL.fn(D:LL Z x st f fd)(X:Z.In h)(G:h.Ns LX mg)(hb:∀(kV doc pm:JK) (an:Option J7) (cdv ct:JK) (us:List JK),us.length=ps.length->bindArgs (Wk x x (jE st) (fX st) (ar st) .none kV doc pm an cdv ct) ⟨us,[]⟩=pure (ps.zip us):=by walk_at "b"):Fn Z mg x st f fd ps:=⟨D.F,WW X G D.a,D.F.binds hb⟩
theorem MY.fn(D:MY Z C x q st f fd)(hb:∀(kV doc pm:JK) (an:Option J7) (cdv ct:JK) (us:List JK),us.length=ps.length->bindArgs (Wk x q (jE st) (fX st) (ar st) .none kV doc pm an cdv ct) ⟨us,[]⟩=pure (ps.zip us):=by walk_at "b"):Mn Z x q st f fd ps:=⟨D.F,D.F.binds hb⟩
theorem MY.mt(D:MY Z C x q st f fd):iG Z C x f:=⟨D.a,D.i,D.F.kp⟩
theorem MY.mkk(D:MY Z C "__init__" q st f fd)(c:uL Z C):Mk Z C f:=⟨c.m,D.a,D.i,c.k⟩
theorem Fn.kp(N:Fn Z mg x st f fd ps):Wf Z (.ref f)=true:=N.F.kp
end
section
variable{X:Cx}{k:Nat}{f:J7}{fd:L7}{ps:List Str}{sp:Sp}{st:Kk}{x:Str}{p pos:Pos}{e:L8}{es:List L8}{t:TA}
theorem dZ(F:aB X.prog X.w X.K X.mg X.base Km k f fd ps sp)(hr:bz k X.A)(hg:Gl X x)(N:Fn X.K X.mg x st f fd ps)
 (ha:PA X (e::es) t)(hdb:(x==("__debug__":Str))=false:=by decide)(he:Ke (e::es) X.env=(false,eval e X.env)::Ke es X.env:=by rfl)(hpl:(LR pos (Ke es X.env)).any (·.1)=false:=by rfl):
 PE X (.Call (.Name x p) (e::es) [] pos) (qc sp [] E0 t):=CW F hr hg N.m N.kp N.b .nil fG ha hdb he hpl
end
theorem bu.of{sc:MC}{N N':List Str}{k:Nat}{fr:List Nat}{scope:MC}(a:scope.kind= .function:=by rfl)(b:∀y∈scope.names,y.2= .cell->scope.names.lookup y.1=some .cell:=by decide+kernel)(c:∀y∈scope.names,y.2= .local->scope.names.lookup y.1=some .local:=by decide+kernel)(d:N'.Nodup:=by decide+kernel)(e:fr.map (λj=>N[j]?)=(N'.drop k).map some:=by rfl)(f:∀x∈N'.drop k,scope.names.lookup x=some .free:=by decide+kernel)(g:∀y∈scope.names,y.2= .free->sc.names.lookup y.1=some .cell\/sc.names.lookup y.1=some .free:=by decide+kernel)(h:∀x∈N'.drop k,sc.names.lookup x=some .cell\/sc.names.lookup x=some .free:=by decide+kernel)(i:N'.length=k+fr.length:=by rfl):bu sc N N' k fr scope:=⟨a,b,c,d,e,f,g,h,i⟩
theorem aO.of{N P:List Str}{sc:MC}(a:sc.kind= .function:=by rfl)(b:sc.isCoroutine=false:=by rfl)(c:sc.isGenerator=false:=by rfl)(d:N.Nodup:=by decide+kernel)(e:N.take P.length=P:=by rfl)(f:∀x∈P,sc.names.lookup x=some .local\/sc.names.lookup x=some .cell:=by decide+kernel)(g:∀y∈sc.names,y.2≠ .free:=by decide+kernel):aO N P sc:=⟨a,b,c,d,e,f,g⟩
section
variable{X:Cx}{H0:Hp}{O0:Ex}{pos:Pos}{a b e:L8}{es:List L8}{ta tb t:DT}{u:DA}{r:R2}{rd:J4->J4->(J4->Prop)->Prop}
theorem az(ho:bU X (Mw op) r)(hd:cN X.K r rd)(ha:DE X H0 O0 a ta)(hb:DE X H0 O0 b tb):DE X H0 O0 (.BinOp a op b pos) (cW rd ta tb):=abh ho hd (df ha) (df hb)
theorem av(ho:qh X r)(hd:cN X.K r rd)(ha:DE X H0 O0 a ta)(hb:DE X H0 O0 b tb)(hs:∀v u,QL b false v u=operate [v,u] (N7 v u):=by intro _ _;rfl):DE X H0 O0 (.Subscript a b pos) (cW rd ta tb):=cO ho hd (df ha) (df hb) hs
theorem aM(ho:bU X (M6 op) r)(hd:cN X.K r rd)(ha:DE X H0 O0 a ta)(hb:DE X H0 O0 b tb)(hm:NC op b=false):PT X (.Compare a [op] [b] pos) (b5 X.K H0 O0 (eX (cW rd ta tb))):=DJ ho hd (df ha) (df hb) hm
theorem bD(h:DE X H0 O0 e t)(hs:PA X es (gh X.K H0 O0 u))(he:Ke (e::es) X.env=(false,eval e X.env)::Ke es X.env:=by rfl):PA X (e::es) (gh X.K H0 O0 (iK t u)):=lh (df h) hs he
theorem aH{k j:Nat}{f:J7}{fd:L7}{ps:List Str}{F:Fa}{st:Kk}{x:Str}{p:Pos}(G:aB X.prog X.w X.K X.mg X.base Km k f fd ps (aP X.K F))(hr:bz j X.A)(N:Fn X.K X.mg x st f fd ps)
 (ha:PA X (e::es) (gf X.K H0 O0 u))(hk:k<=j:=by decide)(hg:Gl X x:=by exact rfl)(hdb:(x==("__debug__":Str))=false:=by decide)(he:Ke (e::es) X.env=(false,eval e X.env)::Ke es X.env:=by rfl)(hpl:(LR pos (Ke es X.env)).any (·.1)=false:=by rfl):
 DE X H0 O0 (.Call (.Name x p) (e::es) [] pos) (ib F u):=PE.imp (dZ G (hr.mono hk) hg N ha hdb he hpl) nN
end
theorem acz(a v:JK):argsOk "max" ⟨[a],[(T4 "default",v)]⟩:=by unfold argsOk;kernel_rfl
section
variable{prog:M8}{w:LZ}{A:Lu}{E:JK->K9->Prop}
abbrev Fv(Q:JK->K9->Prop)(E:JK->K9->Prop):Result->K9->Prop:=λr s'=>match r with | .ok (.ret v)=>Q v s' | .ok _=>False | .error e=>E e s'
theorem OT(hb:entryFor table "max"=some b)
 (hc:KS (Kc prog w) A.in1 (b ⟨[a],[(T4 "default",d)]⟩) (λfin s'=>match fin with
  | .done f=>Fv Q E (.ok f) s' | .again c=>c.quiet=true/\Mo (Kc prog w) A c (Fv Q E) s') E s):
 KS (Kc prog w) A (call (.builtin "max") [a] [(T4 "default",d)]) Q E s:=by
 refine wpAny_call (codeAny_call_builtin F.plain_max hb ?_);simp only[checkBuiltinCall,F.kind_max];cases hs:Manifest.signature? "max" with
 |none=>exact Kd hc
 |some sg=>
  have ha:Bind.checkArgs "max" sg ⟨[a],[(T4 "default",d)]⟩=pure ():=by simpa only[argsOk,hs]using acz a d
  simp only[ha];exact Kd hc
variable{I:J7}{fp wr:List J7}{n:Nat}{P:Nat->JK->Prop}{St:Nat->LO->Prop}{R:Result->K9->Prop}{kw:List (Str×JK)}
theorem uM:(toString "max"++toString ".loop":String)="max.loop":=KL
theorem OU(W:Walks prog w A.in1 I fp wr n P St)(bt:Nat->Nat->Bool)(hcmp:CmpOf prog w A.in1 .Gt P bt)(S:J7)(hf:S∉fp)(k:Nat):
 ∀(j:Nat)(s:K9)(b:JK)(c:Nat),n=j+1+k->St (j+1) s.heap->P (argBest bt j) b->s.heap.get? S=some {cls:= .type "list",data:= .seq #[b,b] c}->
 (∀v h' tk,P (argBest bt (n - 1)) v->(∀a o,a∉wr->a≠S->s.heap.get? a=some o->h'.get? a=some o)->R (.ok (.ret v)) {s with heap:=h',toks:=tk})->
 Mo (Kc prog w) A (.builtin "max.loop" ⟨[.ref I,.none,.ref S],kw⟩) R s:=by
 have hw:S∉wr:=λh=>hf (W.sub _ h)
 induction k with
 |zero=>
  intro j s b c hn st pb hS q;refine OA F.entry_max_loop ?_;rw[Wb F.plain_max_loop _];refine JY (m:=Pn (.ref S)) (PK hS rfl ?_);refine JY (m:=tryCatch (MN (.ref I)) _) (Qn (W.done s _ _ (hn▸st) λh1 tk k1=>?_));have hS1:=k1 S _ hw hS;refine JY (m:=updateSeq S _) ?_;refine QV hS1 rfl (JY (QU (Kd (q b _ tk (by rw[hn];exact pb) λa o aw aS e=>?_))));exact(Vv _ _ (Ne.symm aS)).trans (k1 a o aw e)
 |succ k ih=>
  intro j s b c hn st pb hS q;refine OA F.entry_max_loop ?_;rw[Wb F.plain_max_loop _];refine JY (m:=Pn (.ref S)) (PK hS rfl ?_);refine JY (m:=tryCatch (MN (.ref I)) _) (Qn (W.item (j+1) s _ _ J1 st λv h1 tk pv st1 k1=>?_));have hS1:=k1 S _ hw hS;refine JY (m:=tryCatch (NO [v,v] (richCompare .Gt v b >>=_)) _) (Qn (Mh (JY (hcmp (j+1) (argBest bt j) v b _ _ _ pv pb ?_))));refine JY (Mh (Nr (JY (QU (Kd ?_)))));cases hb:bt (j+1) (argBest bt j) with
  |true=>
   simp only[if_true];refine JY ?_;refine QV hS1 rfl (JY (QU ?_));rw[uM];refine Kd ⟨OL F.plain_max_loop _,ih (j+1) _ v _ J1 (W.frame _ _ _ st1 λa ha o e=>?_) (by simp only[argBest,hb,if_true];exact pv) (VA _ hS1 rfl) λv2 h2 t2 p2 k2=>?_⟩
   ·exact(Vv _ _ (λz:S=a=>hf (by rw[z];exact ha))).trans e
   ·exact q v2 h2 t2 p2 λa o aw aS e=>k2 a o aw aS ((Vv _ _ (Ne.symm aS)).trans (k1 a o aw e))
  |false=>
   simp only[Vl,if_false];refine JY (QU ?_);rw[uM];refine Kd ⟨OL F.plain_max_loop _,ih (j+1) _ b c J1 st1 (by simp only[argBest,hb,Vl,if_false];exact pb) hS1 λv2 h2 t2 p2 k2=>?_⟩;exact q v2 h2 t2 p2 λa o aw aS e=>k2 a o aw aS (k1 a o aw e)
theorem OV{s:K9}{Q:JK->K9->Prop}(hh:A.handled=none)(hl:s.heap.IsList l (intItems xs))
 (h:∀v h' tk,(if xs.size=0 then v=Vy else(intItems xs)[argBest (λi j=>decide (numAt xs i > numAt xs j)) (xs.size - 1)]?=some v)->(∀b o,s.heap.get? b=some o->h'.get? b=some o)->Q v {s with heap:=h',toks:=tk}):
 KS (Kc prog w) A (call (.builtin "max") [.ref l] [(T4 "default",.none)]) Q E s:=by
 refine OT F.entry_max ?_;refine JY (m:=Builtin.Builtins.bindParams "max" ["key","default"] 0 ⟨[],[(T4 "default",Vy)]⟩) (PQ (show _=pure [none,some Vy] from rfl) ?_);refine JY (Kd (JY (iter_intList hl λs2 e st hfp hlI=>?_)));subst e;refine JY (MG ?_);rw[uM];refine Kd ⟨OL F.plain_max_loop _,OA F.entry_max_loop ?_⟩;rw[Wb F.plain_max_loop _];have W:=ZG (prog:=prog) (w:=w) (A:=A.in1) hh s.heap.objs.size l hlI (intItems xs);have sz:(intItems xs).size=xs.size:=by simp[intItems]
 generalize hs2:Heap.push s.heap _=g2 at*;have kS:∀b o,s.heap.get? b=some o->g2.get? b=some o:=λb o e=>by rw[<-hs2];exact Ua _ e
 have oI:∀b o,s.heap.get? b=some o->b≠s.heap.objs.size:=λb o e=>UQ (Ut e);have hS:(g2.push {cls:= .type "list",data:= .seq ([]:List JK).toArray}).get? g2.objs.size=some {cls:= .type "list",data:= .seq #[]}:=UE _ rfl;have nf:g2.objs.size∉[s.heap.objs.size,l]:=λhm=>V3 _ (hfp _ hm);have nw:g2.objs.size∉[s.heap.objs.size]:=λhm=>nf (W.sub _ hm);have st2:=W.frame 0 _ (g2.push {cls:= .type "list",data:= .seq ([]:List JK).toArray}) st λb _ o e=>Ua _ e;refine JY (m:=Pn (.ref g2.objs.size)) (PK hS rfl ?_);by_cases h0:xs.size=0
 ·refine JY (m:=tryCatch (MN (.ref s.heap.objs.size)) _) (Qn (W.done _ _ _ (by rw[sz,h0];exact st2) λh1 tk k1=>?_));refine JY (m:=rule _) (P4 (Kd (h .none _ tk (by rw[KI h0]) λb o e=>k1 b o (λhm=>?_) (Ua _ (kS b o e)))));exact oI b o e (by simpa using hm)
 ·refine JY (m:=tryCatch (MN (.ref s.heap.objs.size)) _) (Qn (W.item 0 _ _ _ J1 st2 λv h1 tk pv st1 k1=>?_));have hS1:=k1 _ _ nw hS;refine JY (m:=updateSeq g2.objs.size _) ?_;refine QV hS1 rfl ?_;rw[uM];refine Kd ⟨OL F.plain_max_loop _,OU W _ (CmpOf.ints_gt (numAt xs) (λ_ _=>intItems_at)) _ nf (xs.size - 1) 0 _ v _ J1 (W.frame _ _ _ st1 λa ha o e=>?_) pv (VA _ hS1 rfl) λv2 h2 t2 p2 k2=>?_⟩
  ·exact(Vv _ _ (λz=>nf (by rw[z];exact ha))).trans e
  ·rw[sz]at p2;refine h v2 h2 t2 (by rw[JS h0];exact p2) λb o e=>?_;have n1:b≠g2.objs.size:=UQ (Ut (kS b o e));have n2:b∉[s.heap.objs.size]:=λhm=>oI b o e (by simpa using hm);exact k2 b o n2 n1 ((Vv _ _ (Ne.symm n1)).trans (k1 b o n2 (Ua _ (kS b o e))))
end
def nc(t:DT):DB:=λY Q=>t Y λd=>∃ds,d= .tuple ds/\Q (!ds.isEmpty)
theorem Fw(h:DE X H0 O0 e t)(he:∀whole,isTrue e X.env whole=(do let v<-whole;O6 e.pos;NO [v] (truthy v)):=by intro _;rfl):PT X e (b5 X.K H0 O0 (nc t)):=
 (CK h he).imp λU H Q ⟨O,Y,Qd,w,q,k⟩=>⟨O,Y,_,w,q,λd v H' uu s r=>by
  obtain⟨ds,e,qb⟩:=uu;subst e;obtain⟨a,vs,rfl,hs,r⟩:=(Sh.dt r).tup;refine⟨_,.inr (.inl ⟨vs,hs,rfl⟩),?_⟩;have:(!vs.isEmpty)=!ds.isEmpty:=by cases r<;>rfl
  rw[this];exact k _ H' qb s⟩
def ni(t:DA):DT:=λY Q=>t Y λds=>∃ns:List Int,ds=[.list (ns.map .int)]/\(ns=[]->Q .none)/\∀M,M∈ns->(∀a∈ns,a<=M)->Q (.int M)
theorem OW{a:L8}{t:DA}{np p cp kp:Pos}{ck:Nat}(hc:X.calm=true)(hg:Gl X "max")(hm:X.mg "max"=none)(ha:PA X [a] (gh X.K H0 O0 t))
 (he:LR p (Ke [a] X.env)=(false,eval a X.env)::LR p (Ke [] X.env):=by rfl)(hplain:(LR p (Ke [a] X.env)).any (·.1)=false:=by rfl):
 DE X H0 O0 (.Call (.Name "max" np) [a] [⟨some "default",.Constant .none ck cp,kp⟩] p) (ni t):=by
 intro acT s U H Q I h;obtain⟨O,Y,Qd,w,q,kk⟩:=h;refine P0 (j4 I hg hm ZD ?_);refine callWith_kw (aE (ha p acT s U H (λvs H1=>∃ds,au H H1/\nO X.K H1 O vs ds/\∃ns:List Int,ds=[.list (ns.map .int)]/\(ns=[]->Qd .none)/\∀M,M∈ns->(∀a∈ns,a<=M)->Qd (.int M)) I ⟨O,Y,_,w,q,λds vs H1 q1 s1 r1=>⟨ds,s1,r1,q1⟩⟩) λus s1 hus=>?_) he hplain;obtain⟨vs,H1,I1,rv,ds,s1',r1,ns,e,q0,q1⟩:=hus;subst e;refine kws_cons (aE (B6 acT s1 U H1 (λv H2=>v= .non/\H2=H1) I1 ⟨rfl,rfl⟩) λu s2 ⟨v,H2,I2,r2,e2,e3⟩=>kws_nil ?_);subst e2 e3;cases r2;cases r1 with
 |cons h r=>
  cases r;obtain⟨ad,xs,rfl,hq,hd⟩:=h.lst;cases hd.intsL;obtain⟨u,rfl,rx⟩:=fO rv;cases rx;obtain⟨its,rv,pl,hz⟩:=I2.list hq;have hi:=xP rv;obtain⟨zs,e⟩:=hi.allInts.items;have hns:ns=zs.toList.map (·.1):=by rw[<-hi.numsOf,<-nums_intItems,<-e]
  have hl:=pl.isList;rw[e]at hl;refine OV (I2.ok.hd hc) hl λv h' tk hv hk=>?_;by_cases h0:zs.size=0
  ·rw[KI h0]at hv;subst hv;exact⟨.non,_,I2.kept (t':=tk) hk,rfl,kk _ _ _ (q0 (by rw[hns];simp[Array.size_eq_zero_iff.mp h0])) s1' .non⟩
  ·rw[JS h0]at hv;obtain⟨t,rfl⟩:=intItems_at hv;obtain⟨h1,h2⟩:=argBest_gt (numAt zs) (zs.size - 1);refine⟨.int _,_,I2.kept (t':=tk) hk,⟨t,rfl⟩,kk _ _ _ (q1 _ ?_ λa ha=>?_) s1' (.int _)⟩
   ·rw[hns,numAt_eq];exact getD_mem (by rw[T6,UH];omega)
   ·rw[hns]at ha;obtain⟨j,hj,rfl⟩:=mem_getD ha;rw[T6,UH]at hj;rw[<-numAt_eq];exact h2 j J1
theorem OX{A:Lu}(hh:A.handled=none)(it t:J7)(hne:t≠it)(its:Array JK):Draws prog w A it [it,t] its.size (λi v=>its[i]?=some v) (λi h=>h.IsTupleIter it t i/\h.IsTuple t its) where
 live:=λ_ _ st=>let ⟨o,ho,_⟩:=st.1;⟨o,ho⟩
 frame:=λ_ _ _ st hk=>⟨let ⟨o,e,r⟩:=st.1;⟨o,hk it KJ o e,r⟩,let ⟨o,e,r⟩:=st.2;⟨o,hk t KJ o e,r⟩⟩
 item:=λi s Q E hi st hQ=>by
  refine Oz st.1 st.2 (x:=its[i]) (by simp[hi]) λh' hit' hs'=>?_;refine hQ _ h' s.toks (by simp[hi]) ⟨hit',?_⟩ hs';obtain⟨o,e,r⟩:=st.2;exact⟨o,(hs'.2 t hne).trans e,r⟩
 done:=λs Q E st hE=>Fe hh st.1 st.2 KJ hE
def uN(Z:T5)(a:J7):It:=
 ⟨λi H=>∃xs x,br Z H a xs/\xs[i]?=some x,λi H x H'=>∃p v,H p=none/\x= .ref p/\H'=ah H p (.tup [.int (i:Int),v])/\∀xs,br Z H a xs->xs[i]?=some v,λi H=>∃xs,br Z H a xs/\xs.length<=i⟩
theorem OY(l:J7)(items:Array JK)(n:Nat)(dct:Option J7)(sl:Array (Option JK)):
 Meets (Builtin.«enumerate.__new__» ⟨[.type "enumerate",.ref l],[]⟩) (λ_ R s=>s.heap.get? l=some {cls:= .type "tuple",dict:=dct,data:= .seq items n,slots:=sl}/\
  R (.ok (.ret (.ref (s.heap.push {cls:= .type "tuple_iterator",data:= .fields #[.ref l,.int 0 0]}).objs.size)))
   {s with heap:=(s.heap.push {cls:= .type "tuple_iterator",data:= .fields #[.ref l,.int 0 0]}).push {cls:= .type "enumerate",data:= .fields #[.none,.bool false,.ref s.heap.objs.size,MR 0,.none,.none]}}):=
 .of_wp λprog w A R s h=>by
  obtain⟨hp,g,d,tk,os⟩:=s;obtain⟨hl,h⟩:=h;have hsub:=sub_enumerate;have hL:Heap.IsTuple (Shared.heap ⟨hp,g,d,tk,os⟩) l items:=⟨_,hl,rfl,n,rfl⟩
  wp_walk using Xt hl
  refine wpAny_stack_any λst=>Kd ?_;split
  ·rename_i c _ _ _ _ _;cases (c==Xk "enumerate")
   ·wp_walk using Xt hl,RN hL
    exact⟨_,rfl,h⟩
   ·wp_walk using Xt hl,RN hL
    exact⟨_,rfl,h⟩
  ·wp_walk using Xt hl,RN hL
   exact⟨_,rfl,h⟩
theorem ab0{s:K9}{Q:JK->K9->Prop}(hL:s.heap.IsTuple l items)
 (h:∀h',IsEnum h' (s.heap.objs.size+1) s.heap.objs.size 0 .none->h'.IsTupleIter s.heap.objs.size l 0->h'.objs.size=s.heap.objs.size+2->
  (∀b o,s.heap.get? b=some o->h'.get? b=some o)->Q (.ref (s.heap.objs.size+1)) {s with heap:=h'}):
 KS (Kc prog w) A (call (.type "enumerate") [.ref l]) Q E s:=by
 obtain⟨⟨c,dct,dt,sl⟩,hl,hc,n,hd⟩:=hL
 replace hc:c= .type "tuple":=hc
 replace hd:dt= .seq items n:=hd
 subst hc hd;refine callType_new F.called_enumerate KL (F.typeCall_enumerate_1 _) (F.newCall_enumerate_1 _) (λobj=>F.args_object_init_2 obj _) F.entry_enumerate_new
  (OY l items n dct sl) ⟨hl,?_⟩
 have hz:(s.heap.push {cls:= .type "tuple_iterator",data:= .fields #[.ref l,.int 0 0]}).objs.size=s.heap.objs.size+1:=WH ..;show _/\_;rw[hz];have he:IsEnum ((s.heap.push {cls:= .type "tuple_iterator",data:= .fields #[.ref l,.int 0 0]}).push
  {cls:= .type "enumerate",data:= .fields #[.none,.bool false,.ref s.heap.objs.size,MR 0,.none,.none]}) (s.heap.objs.size+1) s.heap.objs.size 0 .none:=by
  have:=UE (s.heap.push {cls:= .type "tuple_iterator",data:= .fields #[.ref l,.int 0 0]})
   (o:={cls:= .type "enumerate",data:= .fields #[.none,.bool false,.ref s.heap.objs.size,MR 0,.none,.none]}) rfl
  rw[hz]at this;exact this
 refine⟨⟨_,he,rfl⟩,h _ he ⟨_,Ua _ (UE _ rfl),rfl,rfl⟩ (by rw[WH,hz]) λb o x=>Ua _ (Ua _ x)⟩
theorem O3{prog:M8}{w:LZ}{A:Lu}{E:JK->K9->Prop}{s:K9}{e it l:J7}{i:Nat}{items:Array JK}{old:JK}{Q:Option JK->K9->Prop}(hh:A.handled=none)
 (he:IsEnum s.heap e it i old)(hit:s.heap.IsTupleIter it l i)(hl:s.heap.IsTuple l items)(hx:items[i]?=none)
 (hQ:∀h',Zt it s.heap h'->Q none {s with heap:=h'}):KS (Kc prog w) A (MN (.ref e)) Q E s:=by
 have hT:s.TypeIs (.ref e) "enumerate":=⟨_,he,rfl⟩;unfold MN;refine JY (QR (Nu (name:=T4 "__next__") hT F.slot_enumerate_next
  (N6 F.slot_enumerate_next hT F.entry_enumerate_next ?_ (F.args_enumerate_next_1 _))))
 show KS _ _ (field (.ref e) 2 >>=_) _ _ _;refine JY (Ng he rfl (x:= .ref it) rfl ?_);refine JY (Fe hh hit hl hx λh' x he' hx'=>?_);obtain⟨o,ho,hc⟩:=hx';refine JY (RR (T:="StopIteration") (b:=true) ⟨o,ho,hc⟩ isSubtype_stop ?_);exact Kd (hQ _ he')
theorem O4(a it e:J7)(hei:e≠it)(hai:a≠it)(hea:e≠a):p6 P w Z (.Tuple elts k0 pos) (uN Z a) [e,it] e (λi h=>(∃old,IsEnum h e it (i:Int) old)/\h.IsTupleIter it a i) where
 mem:=KJ
 obj:=λi h st b hb=>by
  simp only[Ud,UI,or_false]at hb;obtain⟨⟨old,he⟩,o,eo,c,d⟩:=st;rcases hb with rfl|rfl
  ·exact⟨_,he,λv z=>by cases z⟩
  ·exact⟨o,eo,λv z=>by rw[d]at z;cases z⟩
 keep:=λi h h' st k=>⟨let ⟨old,he⟩:=st.1;⟨old,k e KJ _ he⟩,let ⟨o,q,r⟩:=st.2;⟨o,k it KJ o q,r⟩⟩
 item:=by
  intro X hP hw hK hc i acT s U H E I hf st hg;subst hP hw hK;obtain⟨xs,x,hq,hx⟩:=hg;obtain⟨its,rv,p,hz⟩:=I.tuple hq;obtain⟨u,hu,ru⟩:=rv.get hx;obtain⟨⟨old,he⟩,hit⟩:=st;have hp:s.heap.IsTuple a its.toArray:=p;have hlt:i < its.toArray.size:=by
   have:=(Uj.mp hu).1;simpa using this
  refine wpAny_pyNext_enum_itemD (OX (A:=X.A.in1) (I.ok.hd hc) it a hai its.toArray) he ⟨hit,hp⟩ hlt hei (by simp[hei,hea]) λx' h' tk hx' ho hst hT hsz hk=>?_;obtain rfl:x'=u:=by
   have:its.toArray[i]?=some u:=by simpa using hu
   rw[this]at hx';exact(Ve hx').symm
  obtain⟨hit',_⟩:=hst;have hT0:H s.heap.objs.size=none:=I.hok.fresh (T8 _);have lte:e < s.heap.objs.size:=Ut he;have lti:it < s.heap.objs.size:=by obtain⟨_,q,_⟩:=hit;exact Ut q
  have I1:ag X acT U (ah H s.heap.objs.size (.tup [.int (i:Int),x])) {s with heap:=h',toks:=tk+1}:=by
   refine I.track (t':=tk+1) (ch:=[s.heap.objs.size,e,it]) KJ (λb hb=>?_) (λb v hb q=>hk b v (λz=>hb (by simp[z])) (λz=>hb (by simp[z])) q) ?_
   ·rcases Ud.mp hb with z|z
    ·rw[z];exact I.fpOk (T8 _) hT0
    ·exact hf b z
   ·exact⟨by rw[My,Uk,Uk,U8];decide,[.int (i:Int) tk,x'],.cons ⟨_,rfl⟩ (.cons ru .nil),_,hT,rfl,0,rfl⟩
  refine⟨_,rfl,SS ho λh2 he2 sb=>?_⟩;obtain⟨f0,f1,f2,f3,f4,f5⟩:=hf e KJ;have ne:s.heap.objs.size≠e:=WO lte;have I2:ag X acT U (ah H s.heap.objs.size (.tup [.int (i:Int),x])) {s with heap:=h2,toks:=tk+1}:=I1.turned (t':=tk+1) (λb o hb q=>(sb.2 b hb).trans q) (by rw[aD (Ne.symm ne)];exact f0) f1 f3 f4 f5;refine⟨.ref s.heap.objs.size,_,I2,rfl,⟨_,x,hT0,rfl,rfl,λys hy=>?_⟩,⟨⟨_,by simpa using he2⟩,let ⟨o,q,r⟩:=hit';⟨o,(sb.2 it (Ne.symm hei)).trans q,r⟩⟩,λb hb=>?_⟩
  ·have e2:ys=xs:=I.tuple_inj hy hq;rw[e2];exact hx
  ·rw[aD λz=>?_]
   ·exact(hf b hb).1
   ·simp only[Ud,UI,or_false]at hb;rcases hb with y|y
    ·rw[<-z,y]at lte;exact V3 _ lte
    ·rw[<-z,y]at lti;exact V3 _ lti
 done:=by
  intro X hP hw hK hc i acT s U H E I hf st hg;subst hP hw hK;obtain⟨xs,hq,hx⟩:=hg;obtain⟨its,rv,p,hz⟩:=I.tuple hq;obtain⟨⟨old,he⟩,hit⟩:=st;obtain⟨f0,f1,f2,f3,f4,f5⟩:=hf it KJ;have hl:=rv.length;exact O3 (I.ok.hd hc) he hit (show s.heap.IsTuple a its.toArray from p) (by simp;omega) λh' eb=>⟨rfl,I.turned (t':=s.toks) (λb o hb e=>eb b o hb e) f0 f1 f3 f4 f5⟩
 self:=λA i s Q E st h=>by
  obtain⟨⟨old,he⟩,_⟩:=st;exact Qv he h
def aaT(Z:T5)(ta:TA):TI:=λU H R=>ta U H λvs H1=>∃a xs,vs=[.ref a]/\br Z H1 a xs/\R (uN Z a) H1
theorem acm(hg:Gl X "enumerate")(hm:X.mg "enumerate"=none)(ha:PA X [a] ta)(hs:Ke [a] X.env=[(false,eval a X.env)]:=by rfl):PI X (.Tuple elts k0 tp) (.Call (.Name "enumerate" p) [a] [] pos) (aaT X.K ta):=by
 intro acT s U H R I h;refine Call_ (j4 I hg hm boot_enumerate (Wx (aE (ha pos acT s U H _ I h) λus s1 ⟨vs,H1,I1,r1,q1⟩=>?_) hs rfl));obtain⟨b,xs,e,hr,q⟩:=q1;subst e;cases r1 with
 |cons r rr=>
  cases rr;cases r;obtain⟨its,rv,p,hz⟩:=I1.tuple hr;have hp:s1.heap.IsTuple b its.toArray:=p;have lb:b < s1.heap.objs.size:=by obtain⟨o,e,_⟩:=hp;exact Ut e
  refine ab0 hp λh' he hit hsz hk=>Qv he ?_;have I2:ag X acT U H1 {s1 with heap:=h'}:=I1.kept (t':=s1.toks) hk;refine⟨s1.heap.objs.size+1,[s1.heap.objs.size+1,s1.heap.objs.size],_,_,H1,rfl,I2,O4 b s1.heap.objs.size (s1.heap.objs.size+1) (WO (V9 _)) (UQ lb) (WO (VE lb)),⟨⟨_,he⟩,hit⟩,λc hc=>?_,q⟩;simp only[Ud,UI,or_false]at hc;rcases hc with rfl|rfl
  ·exact I1.fpOk (VI _) (I1.hok.fresh (VI _))
  ·exact I1.fpOk (T8 _) (I1.hok.fresh (T8 _))
theorem O7{D:i9}(hs:∀H' O',aJ H H' O O'->br Z H' a vs)(gd:GD Z g dg)
 (r:aj Z H O vs xs)(w:Wd Z H0 O0 H O U Y)(q:ic dg tb E (ij 0 xs) Y)
 (k1:∀O' Y' U' H',E.nx Y'->Wd Z H0 O0 H' O' U' Y'->aJ H H' O O'->D.nx U' H')(k2:∀d v H',E.rt d->au H0 H'->Dt Z H' O0 v d->D.rt v H'):FR (uN Z a) g (bw Z H0 O0 tb) D U H:=by
 obtain⟨Iv,q0,qs,qe⟩:=q;have hl:=r.length;have sq:=hs;refine⟨λi m U' H'=>∃O' Y',m=vs.length - i/\i<=vs.length/\Wd Z H0 O0 H' O' U' Y'/\aJ H H' O O'/\Iv i Y',⟨vs.length,O,Y,KJ,UY _,w,aJ.refl _ _,q0⟩,?_⟩;rintro i m σ1 H1 ⟨O1,δ1,rfl,hi,w1,S1,q1⟩;by_cases hlt:i < vs.length
 ·refine .inr ⟨⟨vs,vs[i],sq _ _ S1,by simp[hlt]⟩,λU' H'=>∃O' Y',Wd Z H0 O0 H' O' U' Y'/\aJ H H' O O'/\Iv (i+1) Y',λU' H' uu=>by obtain⟨O',Y',w',S',q'⟩:=uu;exact⟨vs.length - (i+1),J1,O',Y',rfl,hlt,w',S',q'⟩,λx H' y=>?_⟩;obtain⟨p,v,hp,rfl,rfl,hv⟩:=y;obtain⟨d,ed,rd⟩:=r.get (hv vs (sq _ _ S1));have sm:au H1 (ah H1 p (.tup [.int (i:Int),v])):=au.new hp;have w2:=w1.mono sm;have np:¬O1 p:=λz=>w1.trk p z hp;have dt:Dt Z (ah H1 p (.tup [.int (i:Int),v])) O1 (.ref p) (.tuple [.int (i:Int),d]):= .tup (.inl bF) np (.cons (.int _) (.cons ((rd.step S1).mono sm) .nil));have S2:aJ H (ah H1 p (.tup [.int (i:Int),v])) O O1:=S1.trans (.same sm);have e2:(ij 0 xs)[i]?=some (.tuple [.int (i:Int),d]):=by rw[sA,ed];simp
  refine gd H0 O0 _ O1 σ1 δ1 _ _ _ _ w2 dt (qs i _ δ1 e2 q1) λδ2 σ2 q2 w2=>?_;exact⟨O1,δ2,_,w2,q2,λO' Y' U' H' z w' S'=>⟨O',Y',w',S2.trans S',z⟩,k2,λO' Y' U' H' z w' S'=>k1 O' Y' U' H' z w' (S2.trans S'),λO' Y' U' H' z w' S'=>⟨O',Y',w',S2.trans S',z⟩⟩
 ·have e:i=vs.length:=J1
  subst e;refine .inl ⟨⟨vs,sq _ _ S1,T8 _⟩,?_⟩;rw[hl,<-su 0 xs]at q1;exact k1 O1 δ1 σ1 H1 (qe δ1 q1) w1 S1
def nk(t:DA)(g:DG)(tb:DS):DS:=λE Y=>t Y λds=>∃xs,ds=[.tuple xs]/\ic g tb E (ij 0 xs) Y
theorem ack{elts:List L8}{k0}{tp:Pos}{a:L8}{body:List Kk}{p pos pos':Pos}{ta:DA}{g:TG}{dg:DG}{tb:DS}(hp:OO (Kc X.prog X.w) X.A X.env X.xe)(hc:X.calm=true)(hgl:Gl X "enumerate")(hm:X.mg "enumerate"=none)(ha:PA X [a] (gf X.K H0 O0 ta))(hg:PG X (.Tuple elts k0 tp) g)(gd:GD X.K g dg)(hb:b0 X body (bw X.K H0 O0 tb))
 (hst:Ke [a] X.env=[(false,eval a X.env)]:=by rfl)(hs:∀x,Me (.Call (.Name "enumerate" p) [a] [] pos') X.env x=pure x:=by intro _;rfl):
 PS X (.For (.Tuple elts k0 tp) (.Call (.Name "enumerate" p) [a] [] pos') body [] pos) (bw X.K H0 O0 (nk ta dg tb)):=
 (p8 hp hc (acm hgl hm ha hst) hg hb hs).imp λD U H uu=>by obtain⟨O,Y,E,w,q,k1,k2,k3,k4⟩:=uu;exact⟨O,Y,_,w,q,λds vs H1 uu s1 r1=>by
  obtain⟨xs,e,q1⟩:=uu;subst e;cases r1 with
  |cons h r=>
   cases r;have fin:∀(p:J7)(us:List V),br X.K H1 p us->(∀H' O',aJ H1 H' O O'->br X.K H' p us)->aj X.K H1 O us xs->∃a ys,[V.ref p]=[V.ref a]/\br X.K H1 a ys/\FR (uN X.K a) g (bw X.K H0 O0 tb) D U H1:=λp us hq hs rr=>⟨p,us,rfl,hq,O7 hs gd rr (w.mono s1) q1 (λO' Y' U' H' z w' S=>k1 O' Y' U' H' z w' (aJ.trans (.same s1) S)) k2⟩;cases h with
   |tup h n r=>exact fin _ _ (.inl h) (λH' O' S=>.inl (h.same λo e=>S.keep _ o e n)) r
   |tupK h r=>
    rcases h with(h|⟨o,h⟩)|h
    ·cases h
    ·cases h
    ·exact fin _ _ (.inr h) (λH' O' S=>.inr h) r⟩
end L2
namespace K28
open PySem L2
def aT(i:Nat):Kk:=PySem.Challenge.pw_goneday_k28_whole_the_first_clash.main.body.getD i (.Pass ⟨0,0,0,0⟩)
abbrev Aj:Kk:=aT 8
abbrev Ak:Kk:=aT 9
abbrev Al:Kk:=aT 10
abbrev Am:Kk:=aT 11
abbrev An:Kk:=aT 12
abbrev Ao:Kk:=aT 13
abbrev uO:Kk:=aT 14
abbrev Ap:Kk:=aT 15
abbrev uP:Kk:=L2.inClass (aT 17) 0
abbrev Aq:Kk:=aT 18
abbrev uQ:Kk:=aT 19
abbrev Ar:Kk:=aT 20
abbrev uR:Kk:=aT 21
abbrev sF:Kk:=aT 22
abbrev uS:Kk:=aT 23
abbrev uT:Kk:=aT 24
abbrev uU:Kk:=aT 26
abbrev uV:Kk:=aT 27
abbrev uW:Kk:=aT 28
abbrev As:Kk:=aT 29
abbrev uX:Kk:=aT 30
abbrev uY:Kk:=aT 31
abbrev uZ:Kk:=aT 32
abbrev Au:Kk:=aT 33
abbrev u5:Kk:=aT 35
abbrev Av:Kk:=aT 36
abbrev u7:Kk:=aT 37
abbrev u9:Kk:=aT 38
abbrev va:Kk:=aT 39
abbrev Aw:Kk:=aT 40
abbrev Ax:Kk:=aT 41
abbrev Ay:Kk:=aT 43
abbrev vb:Kk:=aT 44
abbrev sG:Kk:=aT 45
abbrev Az:Kk:=L2.inClass (aT 47) 0
abbrev AA:Kk:=L2.inClass (aT 47) 1
abbrev AB:Kk:=L2.inClass (aT 47) 2
abbrev vc:Kk:=L2.inClass (aT 48) 0
abbrev AD:Kk:=L2.inClass (aT 48) 1
abbrev AE:Kk:=L2.inClass (aT 48) 2
abbrev qy:Kk:=L2.inClass (aT 48) 3
abbrev vd:Kk:=aT 49
abbrev AF:Kk:=aT 50
abbrev AG:Kk:=aT 51
abbrev ve:Kk:=aT 52
abbrev AH:Kk:=aT 53
abbrev vg:Kk:=aT 55
abbrev AI:Kk:=aT 56
abbrev sH:Kk:=aT 57
abbrev vh:Kk:=aT 59
abbrev AJ:Kk:=aT 61
abbrev AK:Kk:=aT 62
abbrev qz:Kk:=aT 63
abbrev AL:Kk:=aT 64
abbrev AM:Kk:=aT 65
abbrev AN:Kk:=aT 66
abbrev AO:Kk:=aT 67
abbrev AQ:Kk:=aT 68
abbrev AR:Kk:=aT 69
abbrev vi:Kk:=aT 70
abbrev AS:Kk:=aT 71
abbrev AU:Kk:=aT 72
abbrev vj:Kk:=aT 73
abbrev AV:Kk:=aT 74
abbrev sI:Kk:=aT 75
abbrev vo:Kk:=aT 76
abbrev AW:Kk:=aT 77
abbrev AX:Kk:=aT 78
abbrev AY:Kk:=aT 79
abbrev AZ:Kk:=aT 80
abbrev A1:Kk:=aT 81
set_option genInjectivity false in
set_option genSizeOfSpec false in
structure cw where
 a_A:J7
 d_A:L7
 a_B:J7
 d_B:L7
 a_C:J7
 d_C:L7
 a_D:J7
 d_D:L7
 a_E:J7
 d_E:L7
 a_F:J7
 d_F:L7
 a_G:J7
 d_G:L7
 a_H:J7
 d_H:L7
 a_I:J7
 d_I:L7
 a_J:J7
 d_J:L7
 a_K:J7
 d_K:L7
 a_L:J7
 d_L:L7
 a_M:J7
 d_M:L7
 a_N:J7
 d_N:L7
 a_O:J7
 d_O:L7
 a_P:J7
 d_P:L7
 a_Q:J7
 d_Q:L7
 a_R:J7
 d_R:L7
 a_S:J7
 d_S:L7
 a_T:J7
 d_T:L7
 a_U:J7
 d_U:L7
 a_V:J7
 d_V:L7
 a_W:J7
 d_W:L7
 a_X:J7
 d_X:L7
 a_Y:J7
 d_Y:L7
 a_Z:J7
 d_Z:L7
 a_a:J7
 d_a:L7
 a_b:J7
 d_b:L7
 a_c:J7
 d_c:L7
 a_d:J7
 d_d:L7
 a_e:J7
 d_e:L7
 a_f:J7
 d_f:L7
 a_g:J7
 d_g:L7
 a_h:J7
 d_h:L7
 a_i:J7
 d_i:L7
 a_j:J7
 d_j:L7
 a_k:J7
 d_k:L7
 a_l:J7
 d_l:L7
 a_m:J7
 d_m:L7
 a_n:J7
 d_n:L7
 a_o:J7
 d_o:L7
 a_p:J7
 d_p:L7
 a_q:J7
 d_q:L7
 a_r:J7
 d_r:L7
 a_s:J7
 d_s:L7
 a_t:J7
 d_t:L7
 a_u:J7
 d_u:L7
 a_v:J7
 d_v:L7
 a_w:J7
 d_w:L7
 a_x:J7
 d_x:L7
 a_y:J7
 d_y:L7
 a_z:J7
 d_z:L7
 q07:J7
 q08:L7
 q09:J7
 q1a:L7
 q1b:J7
 q1c:L7
 q1d:J7
 q1e:L7
 q1f:J7
 q1g:L7
 q1h:J7
 q1i:L7
 q1j:J7
 q1k:L7
 q1l:J7
 q1m:L7
 q1n:J7
 q1o:L7
 q1p:J7
 q1q:L7
 q1r:J7
 q1s:L7
 q1t:J7
 q1u:L7
 q1v:J7
 q1w:L7
 q0E:J7
 q0F:L7
 q1x:J7
 q1y:L7
 q1z:J7
 q1A:L7
 q1B:J7
 q1C:L7
 q1D:J7
 q1E:L7
 q1F:J7
 q0S:L7
 q0T:JK
 q0v:JK
 q0w:JK
 q0x:JK
 q0U:J7
 q0a:J7
 q0b:J7
 q0c:J7
structure Txt (Z:T5) (mg:Str->Option JK) (t:cw):Prop where
 F_A:Fn Z mg "is_leap" Aj t.a_A t.d_A ["year"]
 F_B:Fn Z mg "month_length" Ak t.a_B t.d_B ["year","month"]
 F_C:Fn Z mg "leaps_before" Al t.a_C t.d_C ["year"]
 F_D:Fn Z mg "year_start" Am t.a_D t.d_D ["year"]
 F_E:Fn Z mg "year_of" An t.a_E t.d_E ["day"]
 F_F:Fn Z mg "parts_of" Ao t.a_F t.d_F ["day"]
 F_G:Fn Z mg "number_of" uO t.a_G t.d_G ["year","month","day"]
 F_H:Fn Z mg "later" Ap t.a_H t.d_H ["day","many","unit"]
 F_I:Mn Z "__init__" "Paper.__init__" uP t.a_I t.d_I ["self","deeds","name"]
 F_J:Fn Z mg "place_of" Aq t.a_J t.d_J ["deed"]
 F_K:Fn Z mg "comings" uQ t.a_K t.d_K ["deeds"]
 F_L:Fn Z mg "coming_of" Ar t.a_L t.d_L ["deeds","paper"]
 F_M:Fn Z mg "papers" uR t.a_M t.d_M ["deeds"]
 F_N:Fn Z mg "maker_comings" sF t.a_N t.d_N ["deeds","coming"]
 F_O:Fn Z mg "makers" uS t.a_O t.d_O ["deeds","paper"]
 F_P:Fn Z mg "line_of" uT t.a_P t.d_P ["deeds","paper"]
 F_Q:Fn Z mg "latest" uU t.a_Q t.d_Q ["deeds","words","day"]
 F_R:Fn Z mg "rules_on" uV t.a_R t.d_R ["deeds","day"]
 F_S:Fn Z mg "holds_on" uW t.a_S t.d_S ["deeds","day"]
 F_T:Fn Z mg "is_told" As t.a_T t.d_T ["target","coming"]
 F_U:Fn Z mg "holding" uX t.a_U t.d_U ["holds","line"]
 F_V:Fn Z mg "happened" uY t.a_V t.d_V ["paper","happening"]
 F_W:Fn Z mg "base_of" uZ t.a_W t.d_W ["paper","since","day"]
 F_X:Fn Z mg "reckoned" Au t.a_X t.d_X ["paper","parts","day"]
 F_Y:Fn Z mg "rules_over" u5 t.a_Y t.d_Y ["paper","rules","day"]
 F_Z:Fn Z mg "has_gone" Av t.a_Z t.d_Z ["gone","paper","day"]
 F_a:Fn Z mg "staying" u7 t.a_a t.d_a ["paper","rules","day","gone"]
 F_b:Fn Z mg "going" u9 t.a_b t.d_b ["paper","rules","day","gone"]
 F_c:Fn Z mg "leave_rules" va t.a_c t.d_c ["kind","rules"]
 F_d:Fn Z mg "stays" Aw t.a_d t.d_d ["deeds","day","paper","gone"]
 F_e:Fn Z mg "goes" Ax t.a_e t.d_e ["deeds","day","paper","gone"]
 F_f:Fn Z mg "bases" Ay t.a_f t.d_f ["since","paper"]
 F_g:Fn Z mg "reckonings" vb t.a_g t.d_g ["ready","parts"]
 F_h:Fn Z mg "turning_days" sG t.a_h t.d_h ["deeds"]
 F_i:Mn Z "__init__" "Look.__init__" Az t.a_i t.d_i ["self","day","paper","to_stay","to_go","bars","leave"]
 F_j:Mn Z "lets_go" "Look.lets_go" AA t.a_j t.d_j ["self"]
 F_k:Mn Z "as_row" "Look.as_row" AB t.a_k t.d_k ["self"]
 F_l:Mn Z "__init__" "Round.__init__" vc t.a_l t.d_l ["self","deeds","day","done"]
 F_m:Mn Z "mark" "Round.mark" AD t.a_m t.d_m ["self","row"]
 F_n:Mn Z "unused" "Round.unused" AE t.a_n t.d_n ["self","kind"]
 F_o:Mn Z "look" "Round.look" qy t.a_o t.d_o ["self","paper","line"]
 F_p:Fn Z mg "shelf_of" vd t.a_p t.d_p ["deeds"]
 F_q:Fn Z mg "looks_on" AF t.a_q t.d_q ["deeds","shelf","day","done"]
 F_r:Fn Z mg "walk" AG t.a_r t.d_r ["deeds","days","done"]
 F_s:Fn Z mg "rows_of" ve t.a_s t.d_s ["looks"]
 F_t:Fn Z mg "plan_looks" AH t.a_t t.d_t ["deeds"]
 F_u:Fn Z mg "clashes" vg t.a_u t.d_u ["deeds"]
 F_v:Fn Z mg "clash" AI t.a_v t.d_v ["deeds"]
 F_w:Fn Z mg "clashing" sH t.a_w t.d_w ["deeds","day"]
 F_x:Fn Z mg "plan" vh t.a_x t.d_x ["deeds"]
 F_y:Fn Z mg "_law_cell" AJ t.a_y t.d_y ["_law_script","_law_k"]
 F_z:Fn Z mg "_law_numbers" AK t.a_z t.d_z ["_law_cell_here","_law_many"]
 q1G:Fn Z mg "_law_pool" qz t.q07 t.q08 ["_law_x","_law_many"]
 q1H:Fn Z mg "_law_first" AL t.q09 t.q1a ["_law_year"]
 q1I:Fn Z mg "_law_lengths" AM t.q1b t.q1c ["_law_year"]
 q1J:Fn Z mg "_law_day" AN t.q1d t.q1e ["_law_x","_law_far_here"]
 q1K:Fn Z mg "_law_since" AO t.q1f t.q1g ["_law_x","_law_words"]
 q1L:Fn Z mg "_law_parts" AQ t.q1h t.q1i ["_law_xs","_law_kinds","_law_words","_law_far_here"]
 q1M:Fn Z mg "_law_quarrel" AR t.q1j t.q1k ["_law_one","_law_other"]
 q1N:Fn Z mg "_law_deed" vi t.q1l t.q1m ["_law_sort","_law_xs","_law_pools_here","_law_far_here"]
 q1O:Fn Z mg "_law_pools" AS t.q1n t.q1o ["_law_x"]
 q0G:Fn Z mg "_law_sorts" AU t.q1p t.q1q []
 q1P:Fn Z mg "_law_deeds" vj t.q1r t.q1s ["_law_script","_law_at","_law_far_here"]
 q1Q:Fn Z mg "_law_row" AV t.q1t t.q1u ["_law_deeds_here","_law_name"]
 q1R:Fn Z mg "_law_order" sI t.q1v t.q1w ["_law_deeds_here"]
 q0m:Fn Z mg "_law_is" vo t.q0E t.q0F ["_law_found","_law_due"]
 q1S:Fn Z mg "_law_far" AW t.q1x t.q1y ["_law_script","_law_at"]
 q1T:Fn Z mg "_law_gone" AX t.q1z t.q1A ["_law_rows"]
 q0V:Fn Z mg "_law_clashing" AY t.q1B t.q1C ["_law_deeds_here","_law_gone_here","_law_day_here"]
 q1U:Fn Z mg "_law_right" AZ t.q1D t.q1E ["_law_deeds_here"]
 q0W:Fn Z mg "law" A1 t.q1F t.q0S ["_law_script"]
 q2l:∀(s:K9)(u:JK),BindsTo s t.q0S ⟨[u],[]⟩ [("_law_script",u)]
 q13:mg "MONTH_DAYS"=some t.q0T
 e_MONTH_DAYS:∃a,t.q0T= .ref a/\∀H,br Z H a [V.int 31,V.int 28,V.int 31,V.int 30,V.int 31,V.int 30,V.int 31,V.int 31,V.int 30,V.int 31,V.int 30,V.int 31]
 q0X:mg "FIRST_YEAR"=some t.q0v
 q0y:aN (.int 2000) t.q0v
 q14:mg "ROUND_DAYS"=some t.q0w
 q0Y:aN (.int 146097) t.q0w
 q15:mg "ROUND_YEARS"=some t.q0x
 q0Z:aN (.int 400) t.q0x
 q2m:mg "NoPaper"=some (.ref t.q0U)
 q0H:mg "Paper"=some (.ref t.q0a)
 q16:mg "Look"=some (.ref t.q0b)
 q17:mg "Round"=some (.ref t.q0c)
 q0g:dU Z t.q0a
 q0I:Mk Z t.q0a t.a_I
 q0z:NoAttr Z t.q0a "name"
 q0n:NoAttr Z t.q0a "coming"
 q0o:NoAttr Z t.q0a "kind"
 q0A:NoAttr Z t.q0a "makers"
 q0J:NoAttr Z t.q0a "happenings"
 q0d:dU Z t.q0b
 q1V:Mk Z t.q0b t.a_i
 q0q:NoAttr Z t.q0b "day"
 q0r:NoAttr Z t.q0b "paper"
 q0B:NoAttr Z t.q0b "to_stay"
 q0s:NoAttr Z t.q0b "to_go"
 q0K:NoAttr Z t.q0b "bars"
 q0L:NoAttr Z t.q0b "leave"
 q1W:iG Z t.q0b "lets_go" t.a_j
 q1X:iG Z t.q0b "as_row" t.a_k
 q0e:dU Z t.q0c
 q1Y:Mk Z t.q0c t.a_l
 q0t:NoAttr Z t.q0c "day"
 q0u:NoAttr Z t.q0c "rules"
 q0M:NoAttr Z t.q0c "holds"
 q0N:NoAttr Z t.q0c "leaves"
 q0p:NoAttr Z t.q0c "gone"
 q0C:NoAttr Z t.q0c "used"
 q1Z:iG Z t.q0c "mark" t.a_m
 q18:iG Z t.q0c "unused" t.a_n
 q19:iG Z t.q0c "look" t.a_o
 q00:mg "abs"=none
 q01:mg "all"=none
 q0O:mg "any"=none
 q0D:mg "bool"=none
 q0P:mg "enumerate"=none
 q0j:mg "int"=none
 q0i:mg "isinstance"=none
 q0f:mg "len"=none
 q02:mg "list"=none
 q0Q:mg "max"=none
 q03:mg "min"=none
 q0l:mg "range"=none
 q04:mg "set"=none
 q0k:mg "sorted"=none
 q05:mg "str"=none
 q0R:mg "sum"=none
 q0h:mg "tuple"=none
theorem O9:aO ["year"] ["year"] (ar Aj):= .of
theorem Pa:aO ["year","month"] ["year","month"] (ar Ak):= .of
theorem Fx:aO ["year","past"] ["year"] (ar Al):= .of
theorem Pb:aO ["year"] ["year"] (ar Am):= .of
theorem Fy:aO ["day","year"] ["day"] (ar An):= .of
theorem qA:aO ["day","year","left","month"] ["day"] (ar Ao):= .of
theorem Fz:aO ["year","month","day","before"] ["year","month","day"] (ar uO):= .of
theorem qB:aO ["day","many","unit","months","parts","place","year","month"] ["day","many","unit"] (ar Ap):= .of
theorem FA:aO ["self","deeds","name","coming"] ["self","deeds","name"] (ar uP):= .of
theorem Pc:aO ["deed"] ["deed"] (ar Aq):= .of
theorem Pd:aO ["deeds"] ["deeds"] (ar uQ):= .of
theorem FC:aO ["deeds","paper","deed"] ["deeds","paper"] (ar Ar):= .of
theorem Pe:aO ["deeds"] ["deeds"] (ar uR):= .of
theorem FD:aO ["deeds","coming","named"] ["deeds","coming"] (ar sF):= .of
theorem Pf:aO ["deeds","paper"] ["deeds","paper"] (ar uS):= .of
theorem vp:aO ["deeds","paper","line","place"] ["deeds","paper"] (ar uT):= .of
theorem vq:aO ["deeds","words","day","found","deed","known"] ["deeds","words","day"] (ar uU):= .of
theorem abU:aO ["deeds","day"] ["deeds","day"] (ar uV):= .of
theorem Ph:aO ["deeds","day"] ["deeds","day"] (ar uW):= .of
theorem acy:aO ["target","coming"] ["target","coming"] (ar As):= .of
theorem qC:aO ["holds","line","names","hold","target","deep","reached"] ["holds","line"] (ar uX):= .of
theorem Pk:aO ["paper","happening"] ["paper","happening"] (ar uY):= .of
theorem FF:aO ["paper","since","day","days"] ["paper","since","day"] (ar uZ):= .of
theorem FG:aO ["paper","parts","day","base"] ["paper","parts","day"] (ar Au):= .of
theorem Pm:aO ["paper","rules","day"] ["paper","rules","day"] (ar u5):= .of
theorem FH:aO ["gone","paper","day","went"] ["gone","paper","day"] (ar Av):= .of
theorem qD:aO ["paper","rules","day","gone","left","calls","rule","parts","due"] ["paper","rules","day","gone"] (ar u7):= .of
theorem qE:aO ["paper","rules","day","gone","away","calls","rule","parts","due"] ["paper","rules","day","gone"] (ar u9):= .of
theorem acA:aO ["kind","rules"] ["kind","rules"] (ar va):= .of
theorem Po:aO ["deeds","day","paper","gone"] ["deeds","day","paper","gone"] (ar Aw):= .of
theorem Pq:aO ["deeds","day","paper","gone"] ["deeds","day","paper","gone"] (ar Ax):= .of
theorem FI:aO ["since","paper","days"] ["since","paper"] (ar Ay):= .of
theorem A2:aO ["ready","parts","days","paper"] ["ready","parts"] (ar vb):= .of
theorem vt:aO ["deeds","ready","days","deed"] ["deeds"] (ar sG):= .of
theorem Pr:aO ["self","day","paper","to_stay","to_go","bars","leave"] ["self","day","paper","to_stay","to_go","bars","leave"] (ar Az):= .of
theorem abT:aO ["self"] ["self"] (ar AA):= .of
theorem Pw:aO ["self"] ["self"] (ar AB):= .of
theorem A3:aO ["self","deeds","day","done","leaves","row"] ["self","deeds","day","done"] (ar vc):= .of
theorem Px:aO ["self","row"] ["self","row"] (ar AD):= .of
theorem FJ:aO ["self","kind","deed"] ["self","kind"] (ar AE):= .of
theorem qF:aO ["self","paper","line","to_stay","to_go","asking","leave","bars"] ["self","paper","line"] (ar qy):= .of
theorem Py:aO ["deeds"] ["deeds"] (ar vd):= .of
theorem qG:aO ["deeds","shelf","day","done","here","told","paper","line","look"] ["deeds","shelf","day","done"] (ar AF):= .of
theorem qH:aO ["deeds","days","done","shelf","rows","told","day","looks"] ["deeds","days","done"] (ar AG):= .of
theorem Pz:aO ["looks"] ["looks"] (ar ve):= .of
theorem PB:aO ["deeds"] ["deeds"] (ar AH):= .of
theorem PD:aO ["deeds"] ["deeds"] (ar vg):= .of
theorem A4:aO ["deeds","found","first"] ["deeds"] (ar AI):= .of
theorem FK:aO ["deeds","day","latest"] ["deeds","day"] (ar sH):= .of
theorem A5:aO ["deeds","rows","row"] ["deeds"] (ar vh):= .of
theorem vv:aO ["_law_script","_law_k","_law_state","_law_cell_here"] ["_law_script","_law_k"] (ar AJ):= .of
theorem nq:aO ["_law_cell_here","_law_many","_law_found","_law_state","_law_digits","_law_k"] ["_law_cell_here","_law_many"] (ar AK):= .of
theorem nt:aO ["_law_x","_law_many","_law_letters","_law_words","_law_size","_law_at","_law_stem","_law_ends"] ["_law_x","_law_many"] (ar qz):= .of
theorem FL:aO ["_law_year","_law_past"] ["_law_year"] (ar AL):= .of
theorem FN:aO ["_law_year","_law_leap"] ["_law_year"] (ar AM):= .of
theorem A6:aO ["_law_x","_law_far_here","_law_month","_law_ahead"] ["_law_x","_law_far_here"] (ar AN):= .of
theorem PF:aO ["_law_x","_law_words"] ["_law_x","_law_words"] (ar AO):= .of
theorem pI:aO ["_law_xs","_law_kinds","_law_words","_law_far_here","_law_kind","_law_sort","_law_unit","_law_many"] ["_law_xs","_law_kinds","_law_words","_law_far_here"] (ar AQ):= .of
theorem PH:aO ["_law_one","_law_other"] ["_law_one","_law_other"] (ar AR):= .of
theorem nv:aO ["_law_sort","_law_xs","_law_pools_here","_law_far_here","_law_names","_law_kinds","_law_words","_law_rules","_law_day_here","_law_some","_law_target"] ["_law_sort","_law_xs","_law_pools_here","_law_far_here"] (ar vi):= .of
theorem FO:aO ["_law_x","_law_names"] ["_law_x"] (ar AS):= .of
theorem FP:aO ["_law_found"] [] (ar AU):= .of
theorem kF:aO ["_law_script","_law_at","_law_far_here","_law_head","_law_pools_here","_law_found","_law_k","_law_sort","_law_xs","_law_deed_here","_law_turn"] ["_law_script","_law_at","_law_far_here"] (ar vj):= .of
theorem FQ:aO ["_law_deeds_here","_law_name","_law_deed_here"] ["_law_deeds_here","_law_name"] (ar AV):= .of
theorem acn:aO ["_law_deeds_here"] ["_law_deeds_here"] (ar sI):= .of
theorem abY:aO ["_law_found","_law_due"] ["_law_found","_law_due"] (ar vo):= .of
theorem PL:aO ["_law_script","_law_at"] ["_law_script","_law_at"] (ar AW):= .of
theorem sJ:aO ["_law_rows","_law_found","_law_name","_law_day_here","_law_leave"] ["_law_rows"] (ar AX):= .of
theorem A7:aO ["_law_deeds_here","_law_gone_here","_law_day_here","_law_found","_law_name"] ["_law_deeds_here","_law_gone_here","_law_day_here"] (ar AY):= .of
theorem kG:aO ["_law_deeds_here","_law_gone_here","_law_first_here","_law_days","_law_k","_law_day_here","_law_due","_law_far_here"] ["_law_deeds_here"] (ar AZ):= .of
theorem FT:aO ["_law_script","_law_at"] ["_law_script"] (ar A1):= .of
theorem acw{α:Type}{us:List α}(h:us.length=0):us=[]:=Zk.mp h
theorem FU{α:Type}{us:List α}(h:us.length=1):∃a,us=[a]:=List.length_eq_one_iff.mp h
theorem FV{α:Type}{us:List α}(h0:us.length=2):∃a b,us=[a,b]:=by
 cases us with
 |nil=>cases h0
 |cons a us=>
  obtain⟨b,z0⟩:=FU (us:=us) (Yg h0);exact⟨a,b,by rw[z0]⟩
theorem FW{α:Type}{us:List α}(h0:us.length=3):∃a b c,us=[a,b,c]:=by
 cases us with
 |nil=>cases h0
 |cons a us=>
  obtain⟨b,c,z0⟩:=FV (us:=us) (Yg h0);exact⟨a,b,c,by rw[z0]⟩
theorem FX{α:Type}{us:List α}(h0:us.length=4):∃a b c d,us=[a,b,c,d]:=by
 cases us with
 |nil=>cases h0
 |cons a us=>
  obtain⟨b,c,d,z0⟩:=FW (us:=us) (Yg h0);exact⟨a,b,c,d,by rw[z0]⟩
theorem FY{α:Type}{us:List α}(h0:us.length=5):∃a b c d p,us=[a,b,c,d,p]:=by
 cases us with
 |nil=>cases h0
 |cons a us=>
  obtain⟨b,c,d,p,z0⟩:=FX (us:=us) (Yg h0);exact⟨a,b,c,d,p,by rw[z0]⟩
theorem FZ{α:Type}{us:List α}(h0:us.length=6):∃a b c d p q,us=[a,b,c,d,p,q]:=by
 cases us with
 |nil=>cases h0
 |cons a us=>
  obtain⟨b,c,d,p,q,z0⟩:=FY (us:=us) (Yg h0);exact⟨a,b,c,d,p,q,by rw[z0]⟩
theorem PN{α:Type}{us:List α}(h0:us.length=7):∃a b c d p q r,us=[a,b,c,d,p,q,r]:=by
 cases us with
 |nil=>cases h0
 |cons a us=>
  obtain⟨b,c,d,p,q,r,z0⟩:=FZ (us:=us) (Yg h0);exact⟨a,b,c,d,p,q,r,by rw[z0]⟩
local macro_rules | `(tactic| walk_at "b")=>`(tactic| (intro _ _ _ _ _ _ us hl;first | (cases acw (us:=us) hl;rfl) | (obtain⟨a,e⟩:=FU (us:=us) hl;subst e;rfl) | (obtain⟨a,b,e⟩:=FV (us:=us) hl;subst e;rfl) | (obtain⟨a,b,c,e⟩:=FW (us:=us) hl;subst e;rfl) | (obtain⟨a,b,c,d,e⟩:=FX (us:=us) hl;subst e;rfl) | (obtain⟨a,b,c,d,p,e⟩:=FY (us:=us) hl;subst e;rfl) | (obtain⟨a,b,c,d,p,q,e⟩:=FZ (us:=us) hl;subst e;rfl) | (obtain⟨a,b,c,d,p,q,r,e⟩:=PN (us:=us) hl;subst e;rfl)))
theorem txt_mk{Z:T5}(X:Z.In h)(G:h.Ns LX mg)
 
 
 
 
 (a0:LL Z "is_leap" Aj f0 e0)
 (a1:LL Z "month_length" Ak f1 e1)
 (a2:LL Z "leaps_before" Al f2 e2)
 (a3:LL Z "year_start" Am f3 e3)
 (a4:LL Z "year_of" An f4 e4)
 (a5:LL Z "parts_of" Ao f5 e5)
 (a6:LL Z "number_of" uO f6 e6)
 (a7:LL Z "later" Ap f7 e7)
 (a8:MY Z q0a "__init__" "Paper.__init__" uP f8 e8)
 (a9:LL Z "place_of" Aq f9 e9)
 (a10:LL Z "comings" uQ f10 e10)
 (a11:LL Z "coming_of" Ar f11 e11)
 (a12:LL Z "papers" uR f12 e12)
 (a13:LL Z "maker_comings" sF f13 e13)
 (a14:LL Z "makers" uS f14 e14)
 (a15:LL Z "line_of" uT f15 e15)
 (a16:LL Z "latest" uU f16 e16)
 (a17:LL Z "rules_on" uV f17 e17)
 (a18:LL Z "holds_on" uW f18 e18)
 (a19:LL Z "is_told" As f19 e19)
 (a20:LL Z "holding" uX f20 e20)
 (a21:LL Z "happened" uY f21 e21)
 (a22:LL Z "base_of" uZ f22 e22)
 (a23:LL Z "reckoned" Au f23 e23)
 (a24:LL Z "rules_over" u5 f24 e24)
 (a25:LL Z "has_gone" Av f25 e25)
 (a26:LL Z "staying" u7 f26 e26)
 (a27:LL Z "going" u9 f27 e27)
 (a28:LL Z "leave_rules" va f28 e28)
 (a29:LL Z "stays" Aw f29 e29)
 (a30:LL Z "goes" Ax f30 e30)
 (a31:LL Z "bases" Ay f31 e31)
 (a32:LL Z "reckonings" vb f32 e32)
 (a33:LL Z "turning_days" sG f33 e33)
 (a34:MY Z q0b "__init__" "Look.__init__" Az f34 e34)
 (a35:MY Z q0b "lets_go" "Look.lets_go" AA f35 e35)
 (a36:MY Z q0b "as_row" "Look.as_row" AB f36 e36)
 (a37:MY Z q0c "__init__" "Round.__init__" vc f37 e37)
 (a38:MY Z q0c "mark" "Round.mark" AD f38 e38)
 (a39:MY Z q0c "unused" "Round.unused" AE f39 e39)
 (a40:MY Z q0c "look" "Round.look" qy f40 e40)
 (a41:LL Z "shelf_of" vd f41 e41)
 (a42:LL Z "looks_on" AF f42 e42)
 (a43:LL Z "walk" AG f43 e43)
 (a44:LL Z "rows_of" ve f44 e44)
 (a45:LL Z "plan_looks" AH f45 e45)
 (a46:LL Z "clashes" vg f46 e46)
 (a47:LL Z "clash" AI f47 e47)
 (a48:LL Z "clashing" sH f48 e48)
 (a49:LL Z "plan" vh f49 e49)
 (a50:LL Z "_law_cell" AJ f50 e50)
 (a51:LL Z "_law_numbers" AK f51 e51)
 (a52:LL Z "_law_pool" qz f52 e52)
 (a53:LL Z "_law_first" AL f53 e53)
 (a54:LL Z "_law_lengths" AM f54 e54)
 (a55:LL Z "_law_day" AN f55 e55)
 (a56:LL Z "_law_since" AO f56 e56)
 (a57:LL Z "_law_parts" AQ f57 e57)
 (a58:LL Z "_law_quarrel" AR f58 e58)
 (a59:LL Z "_law_deed" vi f59 e59)
 (a60:LL Z "_law_pools" AS f60 e60)
 (a61:LL Z "_law_sorts" AU f61 e61)
 (a62:LL Z "_law_deeds" vj f62 e62)
 (a63:LL Z "_law_row" AV f63 e63)
 (a64:LL Z "_law_order" sI f64 e64)
 (a65:LL Z "_law_is" vo f65 e65)
 (a66:LL Z "_law_far" AW f66 e66)
 (a67:LL Z "_law_gone" AX f67 e67)
 (a68:LL Z "_law_clashing" AY f68 e68)
 (a69:LL Z "_law_right" AZ f69 e69)
 (a70:LL Z "law" A1 f70 e70)
 (q2a:U4 Z LX "MONTH_DAYS"=some (some (.ref q06)))(q2b:Z.lookup q06=some ⟨.type "tuple",q2n,.seq q10 q2o,q2p⟩)(q2c:aL [V.int 31,V.int 28,V.int 31,V.int 30,V.int 31,V.int 30,V.int 31,V.int 31,V.int 30,V.int 31,V.int 30,V.int 31] q10.toList)(q2d:q10.size<=LB)
 (q2e:U4 Z LX "FIRST_YEAR"=some (some q0v))(q0y:aN (.int 2000) q0v)
 (q2f:U4 Z LX "ROUND_DAYS"=some (some q0w))(q0Y:aN (.int 146097) q0w)
 (q2g:U4 Z LX "ROUND_YEARS"=some (some q0x))(q0Z:aN (.int 400) q0x)
 (q2h:U4 Z LX "NoPaper"=some (some (.ref q0U)))
 (q2i:U4 Z LX "Paper"=some (some (.ref q0a)))
 (q2j:U4 Z LX "Look"=some (some (.ref q0b)))
 (q2k:U4 Z LX "Round"=some (some (.ref q0c)))
 (q0g:uL Z q0a)
 (q0z:NoAttr Z q0a "name")
 (q0n:NoAttr Z q0a "coming")
 (q0o:NoAttr Z q0a "kind")
 (q0A:NoAttr Z q0a "makers")
 (q0J:NoAttr Z q0a "happenings")
 (q0d:uL Z q0b)
 (q0q:NoAttr Z q0b "day")
 (q0r:NoAttr Z q0b "paper")
 (q0B:NoAttr Z q0b "to_stay")
 (q0s:NoAttr Z q0b "to_go")
 (q0K:NoAttr Z q0b "bars")
 (q0L:NoAttr Z q0b "leave")
 (q0e:uL Z q0c)
 (q0t:NoAttr Z q0c "day")
 (q0u:NoAttr Z q0c "rules")
 (q0M:NoAttr Z q0c "holds")
 (q0N:NoAttr Z q0c "leaves")
 (q0p:NoAttr Z q0c "gone")
 (q0C:NoAttr Z q0c "used")
 (q00:U4 Z LX "abs"=some none)
 (q01:U4 Z LX "all"=some none)
 (q0O:U4 Z LX "any"=some none)
 (q0D:U4 Z LX "bool"=some none)
 (q0P:U4 Z LX "enumerate"=some none)
 (q0j:U4 Z LX "int"=some none)
 (q0i:U4 Z LX "isinstance"=some none)
 (q0f:U4 Z LX "len"=some none)
 (q02:U4 Z LX "list"=some none)
 (q0Q:U4 Z LX "max"=some none)
 (q03:U4 Z LX "min"=some none)
 (q0l:U4 Z LX "range"=some none)
 (q04:U4 Z LX "set"=some none)
 (q0k:U4 Z LX "sorted"=some none)
 (q05:U4 Z LX "str"=some none)
 (q0R:U4 Z LX "sum"=some none)
 (q0h:U4 Z LX "tuple"=some none):∃t:cw,Txt Z mg t:=by
 refine⟨⟨f0,e0,f1,e1,f2,e2,f3,e3,f4,e4,f5,e5,f6,e6,f7,e7,f8,e8,f9,e9,f10,e10,f11,e11,f12,e12,f13,e13,f14,e14,f15,e15,f16,e16,f17,e17,f18,e18,f19,e19,f20,e20,f21,e21,f22,e22,f23,e23,f24,e24,f25,e25,f26,e26,f27,e27,f28,e28,f29,e29,f30,e30,f31,e31,f32,e32,f33,e33,f34,e34,f35,e35,f36,e36,f37,e37,f38,e38,f39,e39,f40,e40,f41,e41,f42,e42,f43,e43,f44,e44,f45,e45,f46,e46,f47,e47,f48,e48,f49,e49,f50,e50,f51,e51,f52,e52,f53,e53,f54,e54,f55,e55,f56,e56,f57,e57,f58,e58,f59,e59,f60,e60,f61,e61,f62,e62,f63,e63,f64,e64,f65,e65,f66,e66,f67,e67,f68,e68,f69,e69,f70,e70,.ref q06,q0v,q0w,q0x,q0U,q0a,q0b,q0c⟩,?_⟩;have bl:∀(s:K9)(u:JK),BindsTo s e70 ⟨[u],[]⟩ [("_law_script",u)]:=λs v=>by
  obtain⟨oc,od,kV,doc,pm,an,cdv,ct,osl,rfl,_⟩:=a70.F.ex;exact .of_eq rfl
 exact⟨a0.fn X G,a1.fn X G,a2.fn X G,a3.fn X G,a4.fn X G,a5.fn X G,a6.fn X G,a7.fn X G,a8.fn,a9.fn X G,a10.fn X G,a11.fn X G,a12.fn X G,a13.fn X G,a14.fn X G,a15.fn X G,a16.fn X G,a17.fn X G,a18.fn X G,a19.fn X G,a20.fn X G,a21.fn X G,a22.fn X G,a23.fn X G,a24.fn X G,a25.fn X G,a26.fn X G,a27.fn X G,a28.fn X G,a29.fn X G,a30.fn X G,a31.fn X G,a32.fn X G,a33.fn X G,a34.fn,a35.fn,a36.fn,a37.fn,a38.fn,a39.fn,a40.fn,a41.fn X G,a42.fn X G,a43.fn X G,a44.fn X G,a45.fn X G,a46.fn X G,a47.fn X G,a48.fn X G,a49.fn X G,a50.fn X G,a51.fn X G,a52.fn X G,a53.fn X G,a54.fn X G,a55.fn X G,a56.fn X G,a57.fn X G,a58.fn X G,a59.fn X G,a60.fn X G,a61.fn X G,a62.fn X G,a63.fn X G,a64.fn X G,a65.fn X G,a66.fn X G,a67.fn X G,a68.fn X G,a69.fn X G,a70.fn X G,bl,WW X G q2a,⟨q06,rfl,λH=>.inr ⟨_,_,_,q2b,rfl,rfl,q2d,q2c⟩⟩,WW X G q2e,q0y,WW X G q2f,q0Y,WW X G q2g,q0Z,WW X G q2h,WW X G q2i,WW X G q2j,WW X G q2k,q0g.c,a8.mkk q0g,q0z,q0n,q0o,q0A,q0J,q0d.c,a34.mkk q0d,q0q,q0r,q0B,q0s,q0K,q0L,a35.mt,a36.mt,q0e.c,a37.mkk q0e,q0t,q0u,q0M,q0N,q0p,q0C,a38.mt,a39.mt,a40.mt,Vb X G q00,Vb X G q01,Vb X G q0O,Vb X G q0D,Vb X G q0P,Vb X G q0j,Vb X G q0i,Vb X G q0f,Vb X G q02,Vb X G q0Q,Vb X G q03,Vb X G q0l,Vb X G q04,Vb X G q0k,Vb X G q05,Vb X G q0R,Vb X G q0h⟩
local macro_rules | `(tactic| walk_at "o")=>`(tactic| first|exact Zx rfl|exact YC rfl)
theorem KU{p:Prop}(h:p:=by walk_at "o"):p:=h
local macro_rules | `(tactic| walk_at "a") =>Ny "wa Cn Cq Cp Co rn jA dR tC p9 Cu rI jb rU CA CB abA Lm Ln Lo Lp CH tB B9 Ca Cb Ce Cf Cg Ck qc CQ qa tL CS CT tu rj tq abf LC LD LF acS LH LI LJ j5 j6 jc L2.start T9 U9 Uk U8 Uz Vr Vf UX V4 V5 Xu W8 W7 VS Vg Wm Wn VF exists_eq_left' exists_eq_left exists_and_left exists_and_right V.int.injEq V.bl.injEq V.str.injEq V.ref.injEq U2 and_true true_and Xv exists_const decide_eq_true_eq Xw Xx Xf Xg Vp decide_eq_false_iff_not and_assoc bL WE Wu WG L2.cxK L2.UT or_true true_or"
open Day
theorem F0:bu (ar uO) ["year","month","day","before"] ["other","year"] 1 [0] ⟨Uh,[ (T7 ".0",LG),(T7 "other",LG),(T7 "month_length",U1),(T7 "year",Uw)],false,false,[]⟩:= .of
def F1:Sp:=λvs H Q _=>∃(y:Int),vs=[.int y]/\Q (.bl (jn y)) H
theorem acf(T:Txt Z mg t):aB P w Z mg base Km 1 t.a_A t.d_A ["year"] F1:=by
 refine T.F_A.F.ok O9 (λvs H Q E h=>?_) (λcdv A outer s H vs Q E hr h=>?_)
 ·obtain⟨y,rfl,_⟩:=h;rfl
 ·obtain⟨y,rfl,k⟩:=h;refine⟨_,(fN (gL (Cj (tH rC (bR bj (pv 0) bT) bT (aC _)) (v9 (Ci (tH rC (bR bj (pv 0) bT) bT (aC _)) (v9 (tH aaX (bR bj (pv 0) bT) bT (aC _)))))))),?_⟩;walk_at "a";have e:jn y=(decide (y % 400=0) || (decide (y % 4=0) && !decide (y % 100=0))):=rfl;rw[e]at k;by_cases h1:y % 400=0
  ·simpa [h1]using k
  ·by_cases h2:y % 4=0
   ·simpa [h1,h2]using k
   ·simpa [h1,h2]using k
def F2:Sp:=λvs H Q _=>∃(y m:Int),vs=[.int y,.int m]/\1<=m/\m<=12/\Q (.int (mlen y m)) H
theorem A8(T:Txt Z mg t):aB P w Z mg base Km 2 t.a_B t.d_B ["year","month"] F2:=by
 refine T.F_B.F.ok Pa (λvs H Q E h=>?_) (λcdv A outer s H vs Q E hr h=>?_)
 ·obtain⟨y,m,rfl,_⟩:=h;rfl
 ·obtain⟨y,m,rfl,h1,h2,k⟩:=h;obtain⟨a,ea,hM⟩:=T.e_MONTH_DAYS;have T_r:aN (.ref a) t.q0T:=ea;refine⟨_,(dS (p5 (PW.pt (Cd (nI rC (pv 1) bT (aC _)) (Cc (B8 (dZ (acf T) (hr.mono KL) rfl T.F_A (bJ (pv 0) cA)))))) (fN (gL bT)) pZ)
   (fN (gL (kc aF (pY rfl T.q13 T_r) (bR fE (pv 1) bT) (λ_ _=>rfl))))),?_⟩
  walk_at "a";simp only[F1];walk_at "a";have fin:∀{v:Int},v=mlen y m->Q (.int v) H:=λe=>by rw[e];exact k
  have tail:mlen y m=z3.getD (m - 1).toNat 0->tN Z (.ref a) (.int (m - 1)) H Q:=λe=>by
   refine⟨a,_,m - 1,.int (mlen y m),rfl,rfl,hM H,?_,k⟩;rw[e];rcases z6 h1 h2 with z|z|z|z|z|z|z|z|z|z|z|z<;>subst z<;>rfl
  by_cases hm:m=2
  ·rw[KI hm];by_cases hl:jn y=true
   ·rw[KI hl];exact fin (by unfold mlen;rw[KI ⟨hm,hl⟩])
   ·rw[JS hl];exact tail (by unfold mlen;rw[JS (λz=>hl z.2)])
  ·rw[JS hm];exact tail (z5 hm)
def F3:Sp:=λvs H Q _=>∃(y:Int),vs=[.int y]/\Q (.int (lb y)) H
theorem PR(T:Txt Z mg t):aB P w Z mg base Km 1 t.a_C t.d_C ["year"] F3:=by
 refine T.F_C.F.ok Fx (λvs H Q E h=>?_) (λcdv A outer s H vs Q E hr h=>?_)
 ·obtain⟨y,rfl,_⟩:=h;rfl
 ·obtain⟨y,rfl,k⟩:=h;refine⟨_,(dS (fD (i:=1) Fx.nd rfl KU (bR fE (pv 0) bT))
   (fN (gL (bR bO (bR fE (bR c0 (pv 1) bT) (bR c0 (pv 1) bT)) (bR c0 (pv 1) bT))))),?_⟩
  walk_at "a";exact k
def vw:Sp:=λvs H Q _=>∃(y:Int),vs=[.int y]/\Q (.int (ystart y)) H
theorem A9(T:Txt Z mg t):aB P w Z mg base Km 2 t.a_D t.d_D ["year"] vw:=by
 refine T.F_D.F.ok Pb (λvs H Q E h=>?_) (λcdv A outer s H vs Q E hr h=>?_)
 ·obtain⟨y,rfl,_⟩:=h;rfl
 ·obtain⟨y,rfl,k⟩:=h;refine⟨_,(fN (gL (bR fE (bR bO (bR gM bT (bR fE (pv 0) (pY rfl T.q0X T.q0y))) (dZ (PR T) (hr.mono KL) rfl T.F_C (bJ (pv 0) cA))) (dZ (PR T) (hr.mono KL) rfl T.F_C (bJ (pY rfl T.q0X T.q0y) cA))))),?_⟩;walk_at "a";simp only[F3];walk_at "a";exact k
def F4:Sp:=λvs H Q _=>∃(d:Int),vs=[.int d]/\Q (.int (qw d)) H
theorem ace(T:Txt Z mg t):aB P w Z mg base Km 3 t.a_E t.d_E ["day"] F4:=by
 refine T.F_E.F.ok Fy (λvs H Q E h=>?_) (λcdv A outer s H vs Q E hr h=>?_)
 ·obtain⟨d,rfl,_⟩:=h;rfl
 ·obtain⟨d,rfl,k⟩:=h;refine⟨_,(dS (fD (i:=1) Fy.nd rfl KU (bR bO (pY rfl T.q0X T.q0y) (bR c0 (bR gM (pv 0) (pY rfl T.q15 T.q0Z)) (pY rfl T.q14 T.q0Y))))
   (dS (p5 (nI j8 (dZ (A9 T) (hr.mono KL) rfl T.F_D (bJ (pv 1) cA)) (pv 0) (aC _)) (fN (gL (bR fE (pv 1) bT))) pZ)
   (dS (p5 (nI j7 (dZ (A9 T) (hr.mono KL) rfl T.F_D (bJ (bR bO (pv 1) bT) cA)) (pv 0) (aC _)) (fN (gL (bR bO (pv 1) bT))) pZ)
   (fN (gL (pv 1)))))),?_⟩
  walk_at "a";simp only[vw];walk_at "a";unfold qw at k;split
  ·rename_i h;rw[KI h]at k;exact k
  ·rename_i h;rw[JS h]at k;split
   ·rename_i h;rw[KI h]at k;exact k
   ·rename_i h;rw[JS h]at k;exact k
def PX:Sp:=λvs H Q _=>∃(d:Int),vs=[.int d]/\∀(p:J7)(H':Hp)(y m n:Int),DateOf d y m n->au H H'->H p=none->H' p=some (.tup [.int y,.int m,.int n])->Q (.ref p) H'
theorem PY(T:Txt Z mg t):aB P w Z mg base Km 4 t.a_F t.d_F ["day"] PX:=by
 refine T.F_F.F.ok qA (λvs H Q E h=>?_) (λcdv A outer s H vs Q E hr h=>?_)
 ·obtain⟨d,rfl,_⟩:=h;rfl
 ·obtain⟨d,rfl,k⟩:=h;refine⟨_,(dS (fD (i:=1) qA.nd rfl KU (dZ (ace T) (hr.mono KL) rfl T.F_E (bJ (pv 0) cA)))
   (dS (fD (i:=2) qA.nd rfl KU (bR fE (pv 0) (dZ (A9 T) (hr.mono KL) rfl T.F_D (bJ (pv 1) cA))))
   (dS (fD (i:=3) qA.nd rfl KU bT)
   (dS (Cr U3 (nI wu (pv 2) (dZ (A8 T) (hr.mono KL) rfl T.F_B (bJ (pv 1) (bJ (pv 3) cA))) (aC _)) (dS (fD (i:=2) qA.nd rfl KU (bR fE (pv 2) (dZ (A8 T) (hr.mono KL) rfl T.F_B (bJ (pv 1) (bJ (pv 3) cA)))))
   (fN (fD (i:=3) qA.nd rfl KU (bR bO (pv 3) bT)))))
   (fN (gL (CU (bJ (pv 1) (bJ (pv 3) (bJ (bR bO (pv 2) bT) cA)))))))))),?_⟩
  walk_at "a";simp only[F4];walk_at "a";simp only[vw];walk_at "a";have yo:=Ox d;generalize qw d=y at*;refine⟨λm U H'=>H'=H/\∃mo:Int,1<=mo/\mo<=12/\aV y mo<=d - ystart y/\m=(12 - mo).toNat/\U=[some (.int d),some (.int y),some (.int (d - ystart y - aV y mo)),some (.int mo)],⟨11,rfl,1,KL,KL,?_,rfl,?_⟩,?_⟩
  ·rw[uD];omega
  ·rw[uD];simp
  ·rintro m U H' ⟨rfl,mo,h1,h2,hb,rfl,rfl⟩;walk_at "a";simp only[F2];walk_at "a";refine⟨h1,h2,?_⟩;have ys:=ystart_succ y;have ba:=bef_bd (y:=y) h1 h2;split
   ·rename_i hge;have lt12:mo < 12:=by
     by_cases z:mo < 12
     ·exact z
     ·have e:mo=12:=J1
      subst e;have:=(uE y);have:=uC y;omega
    refine⟨_,λ_ _ h=>h,h1,h2,(12 - (mo+1)).toNat,J1,rfl,mo+1,J1,J1,?_,rfl,?_⟩
    ·rw[fz h1];omega
    ·rw[fz h1,show d - ystart y - (aV y mo+mlen y mo)=d - ystart y - aV y mo - mlen y mo by omega]
   ·rename_i hlt;refine⟨by show 3<=LB;decide,λp hp=>?_⟩;refine k p _ y mo (d - ystart y - aV y mo+1) ⟨h1,h2,J1,J1,by unfold num;omega⟩ (au.new hp) hp bF
def PZ:Sp:=λvs H Q _=>∃(y m n:Int),vs=[.int y,.int m,.int n]/\1<=m/\m<=12/\∀H',au H H'->Q (.int (num y m n)) H'
theorem abJ(T:Txt Z mg t):aB P w Z mg base Km 3 t.a_G t.d_G ["year","month","day"] PZ:=by
 refine T.F_G.F.ok Fz (λvs H Q E h=>?_) (λcdv A outer s H vs Q E hr h=>?_)
 ·obtain⟨y,m,n,rfl,_⟩:=h;rfl
 ·obtain⟨y,m,n,rfl,h1,h2,k⟩:=h;refine⟨_,(dS (fD (i:=3) Fz.nd rfl KU (bY (Du rfl) rfl T.q0R ZE (bJ (tR rfl F0 (abd rfl T.q0l (bJ bT (bJ (pv 1) cA))) (λ_ _ _ _=>(aQ (i:=0) F0.nd rfl KU)) (λ_ _ _ _=>Dq) (λ_ _ _ _=>(dZ (A8 T) (hr.mono KL) rfl T.F_B (bJ (pv 1) (bJ (pv 0) cA))))) cA)))
   (fN (gL (bR fE (bR bO (bR bO (dZ (A9 T) (hr.mono KL) rfl T.F_D (bJ (pv 0) cA)) (pv 3)) (pv 2)) bT)))),?_⟩
  walk_at "a";refine⟨J1,J1,?_⟩;refine LK (λi=>.int (mlen y (1+(i:Int)))) J1 (λi H' R hi s1 hR=>?_) (λD H' hD s1 e1=>?_)
  ·walk_at "a";exact⟨_,_,rfl,J1,J1,hR H' (au.refl _)⟩
  ·refine⟨D,rfl,(Vo (m - 1).toNat).map λ(i:Nat)=>mlen y (1+(i:Int)),bA.of (by rw[e1,Uo];rfl),?_⟩;simp only[vw];walk_at "a";exact k H' s1
def pJ(u:Str):Prop:=u="days"\/u="months"\/u="years"
def pK(d k:Int)(u:Str)(r:Int):Prop:=(u="days"/\r=d+k)\/(u="months"/\∃y m n,DateOf d y m n/\r=mon y m n k)\/(u="years"/\∃y m n,DateOf d y m n/\r=mon y m n (k*12))
theorem F5:¬(("months":Str)="days"):=Kg
theorem F6:¬(("years":Str)="days"):=Kg
theorem F7:¬(("months":Str)="years"):=Kg
def P1:Sp:=λvs H Q _=>∃(d k:Int)(u:Str),vs=[.int d,.int k,.str u]/\pJ u/\∀r H',pK d k u r->au H H'->Q (.int r) H'
theorem P2(T:Txt Z mg t):aB P w Z mg base Km 5 t.a_H t.d_H ["day","many","unit"] P1:=by
 refine T.F_H.F.ok qB (λvs H Q E h=>?_) (λcdv A outer s H vs Q E hr h=>?_)
 ·obtain⟨d,k,u,rfl,_⟩:=h;rfl
 ·obtain⟨d,mk,u,rfl,hu,k⟩:=h;refine⟨_,(dS (p5 (nI rC (pv 2) v8 (aC _)) (fN (gL (bR bO (pv 0) (pv 1)))) pZ)
   (dS (fD (i:=3) qB.nd rfl KU (Cm (nI rC (pv 2) v8 (aC _)) (bR gM (pv 1) bT) (pv 1)))
   (dS (fD (i:=4) qB.nd rfl KU (dZ (PY T) (hr.mono KL) rfl T.F_F (bJ (pv 0) cA)))
   (dS (fD (i:=5) qB.nd rfl KU (bR bO (bR fE (bR bO (bR gM (kc aF (pv 4) bT (λ_ _=>rfl)) bT) (kc aF (pv 4) bT (λ_ _=>rfl))) bT) (pv 3)))
   (dS (fD (i:=6) qB.nd rfl KU (bR c0 (pv 5) bT))
   (dS (fD (i:=7) qB.nd rfl KU (bR bO (bR bj (pv 5) bT) bT))
   (fN (gL (dZ (abJ T) (hr.mono KL) rfl T.F_G (bJ (pv 6) (bJ (pv 7) (bJ (bY (Kl rfl) rfl T.q03 TZ (bJ (kc aF (pv 4) bT (λ_ _=>rfl)) (bJ (dZ (A8 T) (hr.mono KL) rfl T.F_B (bJ (pv 6) (bJ (pv 7) cA))) cA))) cA)))))))))))),?_⟩
  walk_at "a";by_cases hd:u="days"
  ·rw[KI hd];exact k _ H (.inl ⟨hd,rfl⟩) (au.refl _)
  ·rw[JS hd];by_cases hy:u="years"
   ·rw[KI hy];refine⟨d,rfl,λp H' y m n D s1 _ e1=>?_⟩;refine jF (br.of e1) rfl ⟨y,rfl,jF (br.of e1) rfl ⟨m,rfl,jF (br.of e1) rfl ?_⟩⟩;refine⟨_,_,rfl,J1,J1,n,rfl,_,rfl,_,_,_,rfl,J1,J1,λH2 s2=>?_⟩;exact k _ H2 (.inr (.inr ⟨hy,y,m,n,D,by unfold mon;rw[Dw]⟩)) (s1.trans s2)
   ·rw[JS hy];have hm:u="months":=by rcases hu with z|z|z;exact absurd z hd;exact z;exact absurd z hy
    refine⟨d,rfl,λp H' y m n D s1 _ e1=>?_⟩;refine jF (br.of e1) rfl ⟨y,rfl,jF (br.of e1) rfl ⟨m,rfl,jF (br.of e1) rfl ?_⟩⟩;refine⟨_,_,rfl,J1,J1,n,rfl,_,rfl,_,_,_,rfl,J1,J1,λH2 s2=>?_⟩;exact k _ H2 (.inr (.inl ⟨hm,y,m,n,D,by unfold mon;rw[Dw]⟩)) (s1.trans s2)
def F_H:Fa:=λds Q=>∃(d i:Int)(u:Str),ds=[.int d,.int i,.str u]/\pJ u/\∀r,pK d i u r->Q (.int r)
theorem F8(T:Txt Z mg t):aB P w Z mg base Km 5 t.a_H t.d_H ["day","many","unit"] (aP Z F_H):=
 (P2 T).imp λvs H Q E uu=>by
  obtain⟨O,ds,Qd,tr,hs,⟨d,i,u,e,hu,q⟩,k⟩:=uu;subst e;cases hs with
  |cons a r=>cases r with
   |cons b r=>cases r with
    |cons c r=>cases r;cases a;cases b;cases c;exact⟨d,i,u,rfl,hu,λz H' L s1=>k _ _ H' (q z L) s1 (.int _)⟩
theorem aco(h:pK d k u r)(h':pK d k u r'):r=r':=by
 rcases h with⟨e,h⟩|⟨e,y,m,n,D,h⟩|⟨e,y,m,n,D,h⟩<;>rcases h' with⟨e',h'⟩|⟨e',y',m',n',D',h'⟩|⟨e',y',m',n',D',h'⟩
 ·rw[h,h']
 ·exact absurd (e'.symm.trans e) F5
 ·exact absurd (e'.symm.trans e) F6
 ·exact absurd (e.symm.trans e') F5
 ·obtain⟨rfl,rfl,rfl⟩:=D.uniq D';rw[h,h']
 ·exact absurd (e.symm.trans e') F7
 ·exact absurd (e.symm.trans e') F6
 ·exact absurd (e'.symm.trans e) F7
 ·obtain⟨rfl,rfl,rfl⟩:=D.uniq D';rw[h,h']
structure Pp where
 d:Int
 nm:Str
 kd:Str
 ms:List Str
def Pp.enc(p:Pp):J4:= .tuple [.str (T4 "paper"),.int p.d,.str p.nm,.str p.kd,.tuple (p.ms.map .str)]
def Pp.key(p:Pp):Int×Str:=(p.d,p.nm)
def ik:J4->Int×Str
 | .tuple (_:: .int d:: .str n::_)=>(d,n)
 |_=>(0,T4 "")
def Pp.lt(a b:Pp):Prop:=aZ a.key b.key=true
instance (a b:Pp):Decidable (a.lt b):=by unfold Pp.lt;infer_instance
theorem F9(p:Int×Str):aZ p p=false:=by unfold aZ;simp[List.lt_irrefl]
theorem Ga(h1:aZ a b=true)(h2:aZ b c=true):aZ a c=true:=by
 unfold aZ at h1 h2⊢;simp only[XC,U0,decide_eq_true_eq]at h1 h2⊢;rcases h1 with h1|⟨h1,h1'⟩<;>rcases h2 with h2|⟨h2,h2'⟩
 ·left;omega
 ·left;omega
 ·left;omega
 ·right;exact⟨h1.trans h2,Sn h1' h2'⟩
theorem sL(h:aZ a b=true):¬aZ b a=true:=λz=>by
 have:=Ga h z;rw[F9]at this;cases this
theorem P5(h:a≠b):aZ a b=true\/aZ b a=true:=by
 have T:=EI (n:=2) (kp:=λi=>if i=0 then a else b) (λi j hi hj e=>by
  have:i=0\/i=1:=J1
  have:j=0\/j=1:=J1
  rcases ‹i=0\/i=1› with rfl|rfl<;>rcases ‹j=0\/j=1› with rfl|rfl
  ·rfl
  ·exact absurd e h
  ·exact absurd e.symm h
  ·rfl)
 have:=T.tot 0 1 J1 J1 J1;simp at this;cases hb:aZ b a with
 |true=>exact .inr rfl
 |false=>rw[hb]at this;exact .inl (by simpa using this)
theorem Pp.lt_irr(a:Pp):¬a.lt a:=by unfold Pp.lt;rw[F9];simp
theorem Pp.lt_tr{a b c:Pp}(h1:a.lt b)(h2:b.lt c):a.lt c:=Ga h1 h2
theorem kH{α:Type}{r:α->α->Prop}(as:∀a b,r a b->¬r b a):∀{l1 l2:List α},l1.Perm l2->l1.Pairwise r->l2.Pairwise r->l1=l2
 | [],l2,p,_,_=>by rw[p.nil_eq]
 |a::l1,[],p,_,_=>by have:=p.length_eq;simp at this
 |a::l1,b::l2,p,h1,h2=>by
  have e:a=b:=by
   have m1:a∈b::l2:=p.mem_iff.mp KJ;have m2:b∈a::l1:=p.mem_iff.mpr KJ;rcases Ud.mp m1 with e|m1
   ·exact e
   ·rcases Ud.mp m2 with e|m2
    ·exact e.symm
    ·exact absurd ((Vd.mp h1).1 b m2) (as _ _ ((Vd.mp h2).1 a m1))
  subst e;rw[kH as ((List.perm_cons a).mp p) (Vd.mp h1).2 (Vd.mp h2).2]
def qI(x:Pp):List Pp->List Pp
 | []=>[x]
 |y::l=>if x.lt y then x::y::l else y::qI x l
def bK(ps:List Pp):List Pp:=ps.foldr qI []
theorem Ba(x:Pp):∀l,(qI x l).Perm (x::l)
 | []=>.refl _
 |y::l=>by
  unfold qI;split
  ·exact .refl _
  ·exact((Ba x l).cons y).trans (.swap x y l)
theorem iq:∀ps:List Pp,(bK ps).Perm ps
 | []=>.refl _
 |x::ps=>(Ba x (bK ps)).trans ((iq ps).cons x)
theorem Gb{x:Pp}:∀{l:List Pp},(∀y∈l,y.nm≠x.nm)->l.Pairwise Pp.lt->(qI x l).Pairwise Pp.lt
 | [],_,_=>Zl _ _
 |y::l,hn,h=>by
  have hp:=Vd.mp h;unfold qI;split
  ·rename_i hl;refine Vd.mpr ⟨λz hz=>?_,h⟩;rcases Ud.mp hz with e|e
   ·subst e;exact hl
   ·exact Pp.lt_tr hl (hp.1 z e)
  ·rename_i hl;refine Vd.mpr ⟨λz hz=>?_,Gb (λz hz=>hn z (by simp[hz])) hp.2⟩;rcases Ud.mp ((Ba x l).mem_iff.mp hz) with e|e
   ·subst e;rcases P5 (a:=y.key) (b:=z.key) (λz=>hn y KJ (congrArg RL z)) with w|w
    ·exact w
    ·exact absurd w hl
   ·exact hp.1 z e
theorem ny:∀{ps:List Pp},(ps.map (·.nm)).Nodup->(bK ps).Pairwise Pp.lt
 | [],_=>.nil
 |x::ps,h=>by
  rw[T9,Vz]at h;exact Gb (λy hy e=>h.1 (by rw[<-e];exact Ug.mpr ⟨y,(iq ps).mem_iff.mp hy,rfl⟩)) (ny h.2)
theorem gE:x∈bK ps↔x∈ps:=(iq ps).mem_iff
theorem jT:(bK ps).length=ps.length:=(iq ps).length_eq
theorem Pp.asym(a b:Pp)(h:a.lt b):¬b.lt a:=sL h
theorem Gd{ps os:List Pp}(nd:(ps.map (·.nm)).Nodup)(hp:os.Perm ps)(hs:os.Pairwise Pp.lt):os=bK ps:=
 kH Pp.asym (hp.trans (iq ps).symm) hs (ny nd)
theorem Ge{ps qs:List Pp}(nd:(ps.map (·.nm)).Nodup)(h:qs.Perm ps):bK qs=bK ps:=
 Gd nd ((iq qs).trans h) (ny ((h.map _).nodup_iff.mpr nd))
theorem Bb{ps:List Pp}(nd:(ps.map (·.nm)).Nodup):((ps.filter f).map (·.nm)).Nodup:=nd.sublist (X1.map _)
theorem Gf{ps:List Pp}(nd:(ps.map (·.nm)).Nodup):bK (ps.filter f)=(bK ps).filter f:=
 (Gd (Bb nd) ((iq ps).filter f) ((ny nd).sublist X1)).symm
theorem P6{ps:List Pp}{ds:List J4}(nd:(ps.map (·.nm)).Nodup)(hp:ds.Perm (ps.map Pp.enc))(hs:ds.Pairwise λa b=>aZ (ik a) (ik b)=true):ds=(bK ps).map Pp.enc:=by
 refine kH (λa b h=>sL h) (hp.trans ((iq ps).symm.map _)) hs ?_;rw[Vk];exact ny nd
theorem P7{ps:List Pp}{ds:List (Int×Str)}(nd:(ps.map (·.nm)).Nodup)(hp:ds.Perm (ps.map Pp.key))(hs:ds.Pairwise λa b=>aZ a b=true):ds=(bK ps).map Pp.key:=by
 refine kH (λa b h=>sL h) (hp.trans ((iq ps).symm.map _)) hs ?_;rw[Vk];exact ny nd
theorem Bc{ps:List Pp}(nd:(ps.map (·.nm)).Nodup)(ha:a∈ps)(hb:b∈ps)(e:a.nm=b.nm):a=b:=by
 induction ps with
 |nil=>cases ha
 |cons x ps ih=>
  rw[T9,Vz]at nd;rcases Ud.mp ha with ea|ha1<;>rcases Ud.mp hb with eb|hb1
  ·rw[ea,eb]
  ·subst ea;exact absurd (Ug.mpr ⟨b,hb1,e.symm⟩) nd.1
  ·subst eb;exact absurd (Ug.mpr ⟨a,ha1,e⟩) nd.1
  ·exact ih nd.2 ha1 hb1
structure jq (ps:List Pp):Prop where
 ln:ps.length<=41
 nd:(ps.map (·.nm)).Nodup
 nm:∀p∈ps,Uc p.nm=true
 kd:∀p∈ps,Uc p.kd=true
 ms:∀p∈ps,(∀m∈p.ms,Uc m=true)/\p.ms.length<=50
theorem jq.perm{ps qs:List Pp}(g:jq ps)(h:qs.Perm ps):jq qs:=
 ⟨by rw[h.length_eq];exact g.ln,(h.map _).nodup_iff.mpr g.nd,λp hp=>g.nm p (h.mem_iff.mp hp),λp hp=>g.kd p (h.mem_iff.mp hp),λp hp=>g.ms p (h.mem_iff.mp hp)⟩
theorem jq.filter(g:jq ps)(f:Pp->Bool):jq (ps.filter f):=
 ⟨UN (UU _ _) g.ln,Bb g.nd,λp hp=>g.nm p (Uv.mp hp).1,λp hp=>g.kd p (Uv.mp hp).1,λp hp=>g.ms p (Uv.mp hp).1⟩
def vz(c p:Pp):Bool:=c.ms.contains p.nm && aZ p.key c.key
def fK(ps:List Pp)(c:Pp):List Pp:=(bK ps).filter (vz c)
inductive De where
 |pap (p:Pp)
 |oth (w:Str) (d:Int) (nm:Str) (r:List J4)
def De.enc:De->J4
 | .pap p=>p.enc
 | .oth w d nm r=>.tuple (.str w:: .int d:: .str nm::r)
def De.w:De->Str
 | .pap _=>T4 "paper"
 | .oth w _ _ _=>w
def De.d:De->Int
 | .pap p=>p.d
 | .oth _ d _ _=>d
def De.nm:De->Str
 | .pap p=>p.nm
 | .oth _ _ nm _=>nm
def De.pp:De->Option Pp
 | .pap p=>some p
 |_=>none
def aA(xs:List De):List Pp:=xs.filterMap De.pp
structure gZ (xs:List De):Prop where
 gp:jq (aA xs)
 np:∀w d nm r,De.oth w d nm r∈xs->w≠T4 "paper"
 ln:xs.length<=41
 w:∀x∈xs,Uc x.w=true
 nm:∀x∈xs,Uc x.nm=true
theorem qJ:p∈aA xs↔De.pap p∈xs:=by
 unfold aA;rw[Xz];constructor
 ·rintro⟨x,hx,e⟩;cases x with
  |pap q=>cases e;exact hx
  |oth w d nm r=>cases e
 ·intro h;exact⟨_,h,rfl⟩
theorem gZ.perm{xs ys:List De}(g:gZ xs)(h:ys.Perm xs):gZ ys:=
 ⟨g.gp.perm (h.filterMap _),λw d nm r z=>g.np w d nm r (h.mem_iff.mp z),by rw[h.length_eq];exact g.ln,λx hx=>g.w x (h.mem_iff.mp hx),λx hx=>g.nm x (h.mem_iff.mp hx)⟩
theorem Gg(ps:List Pp):aA (ps.map De.pap)=ps:=by
 unfold aA;rw[YN];exact List.filterMap_some
theorem P8(ps:List Pp):ps.map Pp.enc=(ps.map De.pap).map De.enc:=by rw[Uo];rfl
theorem Bd:Uc (T4 "paper")=true:=Kg
theorem gZ.of(g:jq ps):gZ (ps.map De.pap):=by
 refine⟨by rw[Gg];exact g,λw d nm r h=>?_,by rw[T6];exact g.ln,λx hx=>?_,λx hx=>?_⟩
 ·obtain⟨p,_,e⟩:=Ug.mp h;cases e
 ·obtain⟨p,_,rfl⟩:=Ug.mp hx;exact Bd
 ·obtain⟨p,hp,rfl⟩:=Ug.mp hx;exact g.nm p hp
local macro_rules | `(tactic| walk_at "d") =>do let a <- Ny "fQ T9 U9 Uk U8 V4 V5 Uz Vr Vf"; let b <- Ny Of; `(tactic| ((try $a:tactic); $b:tactic))
theorem Gh:bu (ar uQ) ["deeds"] ["deed"] 1 [] ⟨Uh,[(T7 ".0",LG),(T7 "deed",LG)],false,false,[]⟩:= .of
theorem Gi:bu (ar uR) ["deeds"] ["deed"] 1 [] ⟨Uh,[(T7 ".0",LG),(T7 "deed",LG)],false,false,[]⟩:= .of
theorem Gj:bu (ar sF) ["deeds","coming","named"] ["deed","coming"] 1 [1] ⟨Uh,[ (T7 ".0",LG),(T7 "deed",LG),(T7 "coming",Uw)],false,false,[]⟩:= .of
theorem Gk:bu (ar sF) ["deeds","coming","named"] ["deed","coming"] 1 [1] ⟨Uh,[ (T7 ".0",LG),(T7 "deed",LG),(T7 "place_of",U1),(T7 "coming",Uw)],false,false,[]⟩:= .of
theorem Gm:bu (ar uS) ["deeds","paper"] ["deed"] 1 [] ⟨Uh,[(T7 ".0",LG),(T7 "deed",LG)],false,false,[]⟩:= .of
theorem d7{α:Type}{enc:α->J4}{g:DG}{tc:DB}{te:DT}{δ0:Dl}{xs:List α}{Q:List J4->Prop}(p:α->Bool)(f:α->J4)
 (h:∀x∈xs,∀(R:J4->Prop) (S:Prop),(if p x=true then R (f x) else S)->g (enc x) δ0 λδ2=>tc δ2 λok=>if ok=true then te δ2 R else S)(q:Q ((xs.filter p).map f)):ji g tc te δ0 (xs.map enc) Q:=by
 refine⟨λi acc=>acc=((xs.take i).filter p).map f,rfl,?_,?_⟩
 ·rintro i z acc hz rfl;rw[Ul]at hz;cases hz':xs[i]? with
  |none=>rw[hz']at hz;cases hz
  |some x=>
   rw[hz']at hz;cases hz;refine h x (UJ hz') (λy=>((xs.take i).filter p).map f++[y]=((xs.take (i+1)).filter p).map f) (((xs.take i).filter p).map f=((xs.take (i+1)).filter p).map f) ?_;rw[UZ,hz'];by_cases e:p x=true
   ·rw[KI e];simp[e]
   ·rw[JS e];simp[e]
 ·rintro acc rfl;rw[T6,UL (T8 _)];exact q
theorem jU{α:Type}{enc:α->J4}{g:DG}{tc:DB}{te:DT}{δ0:Dl}{xs:List α}{Q:List J4->Prop}(p:α->Bool)(f:α->J4)
 (h:∀x∈xs,∀(R:J4->Prop) (S:Prop),(p x=true->R (f x))->(p x=false->S)->g (enc x) δ0 λδ2=>tc δ2 λok=>if ok=true then te δ2 R else S)(q:Q ((xs.filter p).map f)):ji g tc te δ0 (xs.map enc) Q:=
 d7 p f (λx hx R S z=>h x hx R S (λe=>by rw[KI e]at z;exact z) (λe=>by rw[JS (by rw[e];exact Ue)]at z;exact z)) q
theorem iu{α:Type}(l:List α):l.filter (λ_=>true)=l:=YI.mpr λ_ _=>rfl
theorem cn{a b:Str}(h:a≠b):(a==b)=false:=by simpa using h
theorem P9{ws:List Str}:((ws.map Ub).any λd=>UB d (.str w))=ws.contains w:=by
 induction ws with
 |nil=>rfl
 |cons a ws ih=>
  rw[T9,Vs,ih,fu,YR];congr 1;by_cases h:a=w
  ·simp[h]
  ·rw[cn h,cn (Ne.symm h)]
theorem Qa{ms:List Str}(h:∀m∈ms,Uc m=true):VP (ms.map .str)=true:=(t7 (n:=1) (xH h)).1
def gF(f:Pp->Bool):De->Bool
 | .pap p=>f p
 |_=>false
theorem qK:∀xs:List De,(xs.filter (gF f)).map De.enc=((aA xs).filter f).map Pp.enc
 | []=>rfl
 | .pap p::xs=>by
  have ih:=qK (f:=f) xs;show _=(W5 f (p::aA xs)).map Pp.enc;rw[UP,UP];by_cases h:f p=true
  ·rw[KI h,KI (show gF f (.pap p)=true from h),T9,T9,ih];rfl
  ·rw[JS h,JS (show ¬gF f (.pap p)=true from h),ih]
 | .oth w d nm r::xs=>by
  have ih:=qK (f:=f) xs;show _=(W5 f (aA xs)).map Pp.enc;rw[UP,JS (show ¬gF f (.oth w d nm r)=true from Ue),ih]
def Be:Fa:=λds Q=>∃p:De,ds=[p.enc]/\Q (cD (p.d,p.nm))
theorem Bf(T:Txt Z mg t):aB P w Z mg base Km 1 t.a_J t.d_J ["deed"] (aP Z Be):=by
 refine T.F_J.F.okD Pc (λds Q h=>?_) (λ_ _ _ _ H O ds Q E hr h=>?_)
 ·obtain⟨p,rfl,_⟩:=h;rfl
 ·obtain⟨p,rfl,q⟩:=h;refine'⟨_,?A,?B⟩
  case A=>
   refine' aq ?C
   case' C=>refine' aK ?D
   case' D=>refine' bH ?E
   case' E=>refine' aa ?F ?G
   case F=>exact(av aF aG (dv 0) af)
   case' G=>refine' aa ?H ai
   case H=>exact(av aF aG (dv 0) af)
  case B=>
  clear hr T;cases p<;>simp only[De.enc,Pp.enc]<;>walk_at "d"<;>exact q
theorem Qb{ps:List Pp}(h:d∈ps.map Pp.enc)(R:J4->Prop)(q:R (cD (ik d))):Be [d] R:=by
 obtain⟨p,hp,rfl⟩:=Ug.mp h;exact⟨.pap p,rfl,q⟩
theorem Bg{ps:List Pp}(nd:(ps.map (·.nm)).Nodup):(ps.map Pp.key).Nodup:=by
 rw[YD,Vk]at nd⊢;exact nd.imp λh e=>h (congrArg RL e)
def F_K:Fa:=λds Q=>∃xs:List De,(ds=[.list (xs.map De.enc)]\/ds=[.tuple (xs.map De.enc)])/\gZ xs/\Q (.list ((bK (aA xs)).map Pp.enc))
theorem Gq(T:Txt Z mg t):aB P w Z mg base Km 4 t.a_K t.d_K ["deeds"] (aP Z F_K):=by
 refine T.F_K.F.okD Pd (λds Q h=>?_) (λ_ _ _ _ H O ds Q E hr h=>?_)
 ·obtain⟨ps,h|h,_⟩:=h<;>subst h<;>rfl
 ·obtain⟨xs,e,gd,q⟩:=h;refine'⟨_,?A,?B⟩
  case A=>
   refine' aq ?C
   case' C=>refine' aK ?D
   case D=>exact(fe (ER ik rfl (Bf T) (bz.in1 (bz.in1 (hr.mono KL))) T.F_J.b rfl T.F_J.m rfl T.q0k V7 (bD (fe (NW rfl Gh (df (dv 0)) aR b7 KL (λ_ _ _ _=>(aQ (i:=0) Gh.nd rfl KU)) (λ_ _ _ _=>(eF (aM (cQ hr) cS (av aF aG (dv 0) af) aY (aC _)))) (λ_ _ _ _=>(dv 0)))) bo)))
  case B=>
  clear hr T;have ln:=gd.ln;have pl:=gd.gp.ln;have step:∀x∈xs,∀(R:J4->Prop)(S:Prop),(if gF (λ_=>true) x=true then R x.enc else S)->(if (x.w==T4 "paper")=true then R x.enc else S):=λx hx R S h=>by
   cases x with
   |pap p=>exact h
   |oth w d nm r=>
    rw[show((De.oth w d nm r).w==T4 "paper")=false from cn (gd.np w d nm r hx),JS Ue];rw[JS (show ¬gF (λ_=>true) (.oth w d nm r)=true from Ue)]at h;exact h
  have fin:∀ds':List J4,ds'.Perm ((aA xs).map Pp.enc)->ds'.Pairwise (λa b=>aZ (ik a) (ik b)=true)->Q (.list ds'):=λds' h1 h2=>by
   rw[P6 gd.gp.nd h1 h2];exact q
  have tail:(∀d∈(aA xs).map Pp.enc,∀R:J4->Prop,R (cD (ik d))->Be [d] R)/\((aA xs).map Pp.enc).length < 64/\(((aA xs).map Pp.enc).map ik).Nodup:=by
   refine⟨λd hd R z=>Qb hd R z,by rw[T6];omega,?_⟩;rw[Uo];exact Bg gd.gp.nd
  rcases e with e|e<;>subst e<;>walk_at "d"
  ·refine⟨by rw[T6];omega,d7 (gF λ_=>true) De.enc (λx hx R S h=>?_) ?_⟩
   ·have h:=step x hx R S h;cases x<;>simp only[De.enc,De.w,Pp.enc]at h⊢<;> walk_at "d"<;>exact h
   ·rw[qK,iu];exact⟨tail.1,tail.2.1,tail.2.2,fin⟩
  ·refine⟨by rw[T6];omega,d7 (gF λ_=>true) De.enc (λx hx R S h=>?_) ?_⟩
   ·have h:=step x hx R S h;cases x<;>simp only[De.enc,De.w,Pp.enc]at h⊢<;> walk_at "d"<;>exact h
   ·rw[qK,iu];exact⟨tail.1,tail.2.1,tail.2.2,fin⟩
def Gr:Fa:=λds Q=>∃(xs:List De)(c:Pp),ds=[.tuple (xs.map De.enc),.str c.nm]/\gZ xs/\c∈aA xs/\Q c.enc
theorem Bh(T:Txt Z mg t):aB P w Z mg base Km 1 t.a_L t.d_L ["deeds","paper"] (aP Z Gr):=by
 refine T.F_L.F.okD FC (λds Q h=>?_) (λ_ _ _ _ H O ds Q E hr h=>?_)
 ·obtain⟨ps,c,rfl,_⟩:=h;rfl
 ·obtain⟨xs,c,rfl,gd,hc,q⟩:=h;refine'⟨_,?A,?B⟩
  case A=>
   refine' ak ?C ?D
   case C=>
    refine' nS U3 rfl (dv 0) ?E aR ?F
    case E=>exact(aQ (i:=2) FC.nd rfl KU)
    case' F=>refine' aq ?G
    case' G=>refine' bC ?H ?I bB
    case H=>exact(PW.pt (di (aM (cQ hr) cS (av aF aG (dv 2) af) aY (aC _)) (dG (aM (cu hr.units) cv (av aF aG (dv 2) af) (dv 1) (aC _)))))
    case' I=>refine' aq ?J
    case J=>exact(aK (dv 2))
   case D=>refine' aq Nd
  case B=>
  clear hr T;walk_at "d";refine⟨λi Y=>(∀x∈aA (xs.take i),x.nm≠c.nm)/\∃o2,Y=[some (Sl.v (.tuple (xs.map De.enc))),some (Sl.v (.str c.nm)),o2],⟨by simp[aA],_,rfl⟩,?_,?_⟩
  ·rintro i z Y hz ⟨hn,o2,rfl⟩;rw[Ul]at hz;cases hz':xs[i]? with
   |none=>rw[hz']at hz;cases hz
   |some x=>
    rw[hz']at hz;cases hz;have hx:=UJ hz';cases x with
    |pap p=>
     simp only[De.enc,Pp.enc];walk_at "d";refine⟨cU.mpr (gd.nm _ hx),cU.mpr (gd.gp.nm c hc),?_⟩;split
     ·rename_i h;have e:=Bc gd.gp.nd (qJ.mpr hx) hc (eq_of_beq h);subst e;exact q
     ·rename_i h;refine⟨λy hy=>?_,_,rfl⟩;rw[UZ,hz']at hy;unfold aA at hy;rw[XW]at hy;rcases Um.mp hy with z|z
      ·exact hn y z
      ·have:y=p:=by simpa [De.pp]using z
       rw[this];exact λe=>h (by rw[e];exact beq_self_eq_true _)
    |oth w d nm r=>
     simp only[De.enc];walk_at "d";rw[cn (gd.np w d nm r hx),JS Ue];refine⟨λy hy=>?_,_,rfl⟩;rw[UZ,hz']at hy;unfold aA at hy;rw[XW]at hy;rcases Um.mp hy with z|z
     ·exact hn y z
     ·simp[De.pp]at z
  ·rintro Y ⟨hn,o2,rfl⟩;rw[T6,UL (T8 _)]at hn;exact absurd rfl (hn c hc)
def F_M:Fa:=λds Q=>∃xs:List De,ds=[.tuple (xs.map De.enc)]/\gZ xs/\Q (.tuple (((bK (aA xs)).map (·.nm)).map .str))
theorem Bi(T:Txt Z mg t):aB P w Z mg base Km 5 t.a_M t.d_M ["deeds"] (aP Z F_M):=by
 refine T.F_M.F.okD Pe (λds Q h=>?_) (λ_ _ _ _ H O ds Q E hr h=>?_)
 ·obtain⟨ps,rfl,_⟩:=h;rfl
 ·obtain⟨xs,rfl,gd,q⟩:=h;refine'⟨_,?A,?B⟩
  case A=>
   refine' aq ?C
   case' C=>refine' aK ?D
   case D=>exact(PE.imp (eD ia rfl T.q0h fZ (bD (fe (fq rfl Gi (df (aH (Gq T) hr T.F_K (aa (dv 0) ai))) aR b7 KL (λ_ _ _ _=>(aQ (i:=0) Gi.nd rfl KU)) (λ_ _ _ _=>ft) (λ_ _ _ _=>(av aF aG (dv 0) af)))) bo)) (bI ie))
  case B=>
  clear hr T;walk_at "d";refine⟨xs,.inr rfl,gd,_,rfl,by rw[T6,jT];have:=gd.gp.ln;omega,d7 (λ_=>true) (λp:Pp=>.str p.nm) (λx hx R S h=>?_) ?_⟩
  ·simp only[Pp.enc];walk_at "d";rw[KI rfl]at h;exact h
  ·rw[iu];rw[Uo]at q;exact q
def Qc:Fa:=λds Q=>∃(xs:List De)(c:Pp),ds=[.tuple (xs.map De.enc),c.enc]/\gZ xs/\c∈aA xs/\Q (.list ((fK (aA xs) c).map Pp.enc))
theorem Gs(T:Txt Z mg t):aB P w Z mg base Km 5 t.a_N t.d_N ["deeds","coming"] (aP Z Qc):=by
 refine T.F_N.F.okD FD (λds Q h=>?_) (λ_ _ _ _ H O ds Q E hr h=>?_)
 ·obtain⟨ps,c,rfl,_⟩:=h;rfl
 ·obtain⟨xs,c,rfl,gd,hc,q⟩:=h;refine'⟨_,?A,?B⟩
  case A=>
   refine' ak ?C ?D
   case C=>exact(l5 (i:=2) FD.nd rfl KU (pz rfl Gj (df (dv 0)) aR b7 KL (λ_ _ _ _=>(aQ (i:=0) Gj.nd rfl KU)) (λ_ _ _ _=>(eF (PW.pt (di (aM (cQ hr) cS (av aF aG (dv 0) af) aY (aC _)) (dG (aM (D9 hr) xE (av aF aG (dv 0) af) (av aF aG (dv 1) af) rfl)))))) (λ_ _ _ _=>(dv 0))))
   case' D=>refine' aq ?E
   case' E=>refine' aK ?F
   case F=>exact(aH (Gq T) hr T.F_K (aa (fe (fq rfl Gk (df (dv 2)) aR b7 KL (λ_ _ _ _=>(aQ (i:=0) Gk.nd rfl KU)) (λ_ _ _ _=>(eF (aM (NR hr.units0) NS (aH (Bf T) hr T.F_J (aa (dv 0) ai)) (aH (Bf T) hr T.F_J (aa (dv 1) ai)) (aC _)))) (λ_ _ _ _=>(dv 0)))) ai))
  case B=>
  clear hr T;have ln:=gd.ln;have pl:=gd.gp.ln;obtain⟨hm1,hm2⟩:=gd.gp.ms c hc;walk_at "d";refine⟨by rw[T6];omega,d7 (gF λp=>c.ms.contains p.nm) De.enc (λx hx R S h=>?_) ?_⟩
  ·cases x with
   |pap p=>
    simp only[De.enc,Pp.enc];walk_at "d";refine⟨cU.mpr (gd.nm _ hx),Qa hm1,?_⟩;rw[P9];exact h
   |oth w d nm r=>
    simp only[De.enc];walk_at "d";rw[cn (gd.np w d nm r hx),JS Ue];rw[JS (show ¬gF _ (.oth w d nm r)=true from Ue)]at h;exact h
  ·rw[qK];have fl:=UU (λp:Pp=>c.ms.contains p.nm) (aA xs);refine⟨by rw[T6];omega,d7 (λp=>aZ p.key c.key) Pp.enc (λx hx R S h=>?_) ?_⟩
   ·walk_at "d";exact⟨.pap x,rfl,.pap c,rfl,x.key,rfl,c.key,rfl,h⟩
   ·rw[P8];refine⟨_,.inl rfl,gZ.of ((gd.gp.filter _).filter _),?_⟩;rw[Gg,Gf (Bb gd.gp.nd),Gf gd.gp.nd,YS];have e:(bK (aA xs)).filter (λa=>aZ a.key c.key && c.ms.contains a.nm)=fK (aA xs) c:=by
     unfold fK vz;congr 1;funext a;rw[ZM]
    rw[e];exact q
theorem Bj(g:jq ps):(fK ps c).length<=41:=by
 unfold fK;have h1:=UU (vz c) (bK ps);have h2:=jT (ps:=ps);have h3:=g.ln;omega
def F_O:Fa:=λds Q=>∃(xs:List De)(c:Pp),ds=[.tuple (xs.map De.enc),.str c.nm]/\gZ xs/\c∈aA xs/\Q (.tuple (((fK (aA xs) c).map (·.nm)).map .str))
theorem Qe(T:Txt Z mg t):aB P w Z mg base Km 6 t.a_O t.d_O ["deeds","paper"] (aP Z F_O):=by
 refine T.F_O.F.okD Pf (λds Q h=>?_) (λ_ _ _ _ H O ds Q E hr h=>?_)
 ·obtain⟨ps,c,rfl,_⟩:=h;rfl
 ·obtain⟨xs,c,rfl,gd,hc,q⟩:=h;refine'⟨_,?A,?B⟩
  case A=>
   refine' aq ?C
   case' C=>refine' aK ?D
   case D=>exact(PE.imp (eD ia rfl T.q0h fZ (bD (fe (fq rfl Gm (df (aH (Gs T) hr T.F_N (aa (dv 0) (aa (aH (Bh T) hr T.F_L (aa (dv 0) (aa (dv 1) ai))) ai)))) aR b7 KL (λ_ _ _ _=>(aQ (i:=0) Gm.nd rfl KU)) (λ_ _ _ _=>ft) (λ_ _ _ _=>(av aF aG (dv 0) af)))) bo)) (bI ie))
  case B=>
  clear hr T;walk_at "d";refine⟨xs,c,rfl,gd,hc,xs,c,rfl,gd,hc,⟨_,rfl,by rw[T6];have:=Bj (c:=c) gd.gp;omega,d7 (λ_=>true) (λp:Pp=>.str p.nm) (λx hx R S h=>?_) ?_⟩⟩
  ·simp only[Pp.enc];walk_at "d";rw[KI rfl]at h;exact h
  ·rw[iu];rw[Uo]at q;exact q
local macro_rules | `(tactic| walk_at "e") =>Ny (Of++" Sl.i.injEq exists_and_left")
theorem Gu:bu (ar uP) ["self","deeds","name","coming"] ["deed","name"] 1 [2] ⟨Uh,[ (T7 ".0",LG),(T7 "deed",LG),(T7 "name",Uw)],false,false,[]⟩:= .of
theorem Bk:bu (ar uY) ["paper","happening"] ["day","other","happening"] 2 [1] ⟨Uh,[ (T7 ".0",LG),(T7 "day",LG),(T7 "other",LG),(T7 "happening",Uw)],false,false,[]⟩:= .of
section
inductive cq where
 |com
 |fst (wd:Str)
 |lst (wd:Str)
def cq.enc:cq->J4
 | .com=>.tuple [.str (T4 "coming")]
 | .fst wd=>.tuple [.str (T4 "first"),.str wd]
 | .lst wd=>.tuple [.str (T4 "last"),.str wd]
def cq.Ok:cq->Prop
 | .com=>True
 | .fst wd=>Uc wd=true
 | .lst wd=>Uc wd=true
inductive Pt where
 |two (w kd:Str)
 |five (w kd:Str) (s:cq) (k:Int) (u:Str)
def Pt.enc:Pt->J4
 | .two w kd=>.tuple [.str w,.str kd]
 | .five w kd s k u=>.tuple [.str w,.str kd,s.enc,.int k,.str u]
def KG(w:Str):Prop:=w=T4 "keep"\/w=T4 "gone"
def Pt.Ok:Pt->Prop
 | .two w kd=>¬KG w/\Uc w=true/\Uc kd=true
 | .five w kd s k u=>KG w/\Uc kd=true/\s.Ok/\0<=k/\k < 1000/\pJ u
def De.isR:De->Bool
 | .oth w _ _ _=>w==T4 "rule"
 |_=>false
def De.isH:De->Bool
 | .oth w _ _ _=>w==T4 "happens"
 |_=>false
def De.isE:De->Bool
 | .oth w _ _ _=>w==T4 "rule" || w==T4 "end"
 |_=>false
structure gG (xs:List De):Prop where
 gx:gZ xs
 hp:∀d nm r,De.oth (T4 "happens") d nm r∈xs->∃wd,r=[.str wd]/\Uc wd=true
 ru:∀d nm r,De.oth (T4 "rule") d nm r∈xs->∃pt:Pt,r=[pt.enc]/\pt.Ok
 nd:xs.Nodup
 d0:∀x∈xs,0<=x.d/\x.d < 100000
 re:∀x∈xs,∀y∈xs,x.isE=true->y.isE=true->x.d=y.d->x.nm=y.nm->x=y
def eU(nm:Str):De->Bool
 | .oth w _ n _=>w==T4 "happens" && n==nm
 |_=>false
def sM:De->Int×Str
 | .oth _ d _ [.str wd]=>(d,wd)
 |x=>(x.d,T4 "")
def fh(xs:List De)(nm:Str):List (Int×Str):=(xs.filter (eU nm)).map sM
theorem Qf(g:gG xs)(nm:Str):(fh xs nm).Nodup:=by
 unfold fh;rw[YD,Vk];refine List.Pairwise.imp_of_mem (λ{a b} ha hb h e=>?_) (g.nd.sublist X1);obtain⟨a1,a2⟩:=Uv.mp ha;obtain⟨b1,b2⟩:=Uv.mp hb;cases a with
 |pap p=>cases a2
 |oth w d n r=>
  cases b with
  |pap p=>cases b2
  |oth w' d' n' r'=>
   simp only[eU,U0,beq_iff_eq]at a2 b2;obtain⟨rfl,rfl⟩:=a2;obtain⟨rfl,rfl⟩:=b2;obtain⟨wd,rfl,_⟩:=g.hp _ _ _ a1;obtain⟨wd',rfl,_⟩:=g.hp _ _ _ b1;simp only[sM,Yq]at e;exact h (by rw[e.1,e.2])
structure Rp where
 c:Pp
 ts:List Str
 hs:List (Int×Str)
def Rp.enc(C:J7)(r:Rp):J4:=EU C [(T4 "name",.str r.c.nm),(T4 "coming",.int r.c.d),(T4 "kind",.str r.c.kd),(T4 "makers",.tuple (r.ts.map .str)),(T4 "happenings",.list (r.hs.map cD))]
open Classical in
def fL(l:List (Int×Str)):List (Int×Str):=if h:∃s:List (Int×Str),s.Perm l/\s.Pairwise (λa b=>aZ a b=true) then h.choose else []
theorem Bl{s l:List (Int×Str)}(h1:s.Perm l)(h2:s.Pairwise λa b=>aZ a b=true):s=fL l:=by
 unfold fL;have h:∃s:List (Int×Str),s.Perm l/\s.Pairwise (λa b=>aZ a b=true):=⟨s,h1,h2⟩;rw[dif_pos h];exact kH (λa b z=>sL z) (h1.trans h.choose_spec.1.symm) h2 h.choose_spec.2
theorem ab2{l l':List (Int×Str)}(p:l.Perm l'):fL l=fL l':=by
 by_cases h:∃s:List (Int×Str),s.Perm l/\s.Pairwise (λa b=>aZ a b=true)
 ·obtain⟨s,h1,h2⟩:=h;rw[<-Bl h1 h2,<-Bl (h1.trans p) h2]
 ·have h':¬ ∃s:List (Int×Str),s.Perm l'/\s.Pairwise (λa b=>aZ a b=true):=λ⟨s,h1,h2⟩=>h ⟨s,h1.trans p.symm,h2⟩;unfold fL;rw[dif_neg h,dif_neg h']
def aU(xs:List De)(c:Pp):Rp:=⟨c,(fK (aA xs) c).map (·.nm),fL (fh xs c.nm)⟩
theorem jV(h:g≠f):eQ f d ((g,x)::r)=(g,x)::eQ f d r:=by rw[eQ,JS h]
theorem Qh:eQ (T4 "coming") b (eQ (T4 "name") a [])=[(T4 "name",a),(T4 "coming",b)]:=by
 rw[show eQ (T4 "name") a []=[(T4 "name",a)] from rfl,jV Kg];rfl
theorem Qi:eQ (T4 "kind") c [(T4 "name",a),(T4 "coming",b)]=[(T4 "name",a),(T4 "coming",b),(T4 "kind",c)]:=by
 rw[jV Kg,jV Kg];rfl
theorem Qj:eQ (T4 "makers") d [(T4 "name",a),(T4 "coming",b),(T4 "kind",c)]=[(T4 "name",a),(T4 "coming",b),(T4 "kind",c),(T4 "makers",d)]:=by
 rw[jV Kg,jV Kg,jV Kg];rfl
theorem Qk:eQ (T4 "happenings") e [(T4 "name",a),(T4 "coming",b),(T4 "kind",c),(T4 "makers",d)]=[(T4 "name",a),(T4 "coming",b),(T4 "kind",c),(T4 "makers",d),(T4 "happenings",e)]:=by
 rw[jV Kg,jV Kg,jV Kg,jV Kg];rfl
def Ql(C:J7):Fa:=λds Q=>∃(xs:List De)(c:Pp),ds=[.tuple (xs.map De.enc),.str c.nm]/\gG xs/\c∈aA xs/\((∀z,z∈fL (fh xs c.nm)↔z∈fh xs c.nm)->(fL (fh xs c.nm)).Pairwise (λa b=>aZ a b=true)->(fL (fh xs c.nm)).length<=41->Q ((aU xs c).enc C))
theorem vA(T:Txt Z mg t):aB P w Z mg base Km 7 t.a_I t.d_I ["self","deeds","name"] (sj Z t.q0a (Ql t.q0a)):=by
 refine T.F_I.F.okI FA (λds Q h=>?_) (λcdv A outer s H H1 O ds Q E l hr h=>?_)
 ·obtain⟨xs,c,rfl,_⟩:=h;rfl
 ·obtain⟨xs,c,rfl,gd,hc,q⟩:=h;refine'⟨_,?A,?B⟩
  case A=>
   refine' ak ?C ?D
   case C=>exact(bp (i:=3) FA.nd rfl KU (aH (Bh T) hr T.F_L (aa (dv 1) (aa (dv 2) ai))))
   case' D=>refine' ak ?E ?F
   case E=>exact(gB (C:=t.q0a) (i:=0) T.q0g T.q0z (pv 0) (av aF aG (dv 3) af))
   case' F=>refine' ak ?G ?H
   case G=>exact(gB (C:=t.q0a) (i:=0) T.q0g T.q0n (pv 0) (av aF aG (dv 3) af))
   case' H=>refine' ak ?I ?J
   case I=>exact(gB (C:=t.q0a) (i:=0) T.q0g T.q0o (pv 0) (av aF aG (dv 3) af))
   case' J=>refine' ak ?K ?L
   case K=>exact(gB (C:=t.q0a) (i:=0) T.q0g T.q0A (pv 0) (aH (Qe T) hr T.F_O (aa (dv 1) (aa (dv 2) ai))))
   case' L=>refine' aq ?M
   case M=>exact(gB (C:=t.q0a) (i:=0) T.q0g T.q0J (pv 0) (fe (EO rfl T.q0k V7 (bD (fe (kr rfl Gu (df (dv 1)) aR b7 KL (λ_ _ _ _=>(aQ (i:=0) Gu.nd rfl KU)) (λ_ _ _ _=>(eF (PW.pt (di (aM (cQ hr) cS (av aF aG (dv 0) af) aY (aC _)) (dG (aM (cu hr.units) cv (av aF aG (dv 0) af) (dv 1) (aC _))))))) (λ_ _ _ _=>(bH (aa (av aF aG (dv 0) af) (aa (av aF aG (dv 0) af) ai)))))) bo))))
  case B=>
  clear hr T;simp only[uz,fQ,T9,U9,Vr,Vf,YL,Uk,U8,V4,V5,Uz];walk_at "e";refine⟨xs,c,rfl,gd.gx,hc,?_⟩;simp only[Pp.enc];walk_at "e";simp only[Qh,Qi,Qj,Qk];have ln:=gd.gx.ln;have lt:∀n:Nat,n < 10->n < 1000:=λn h=>by omega
  refine⟨lt 1 KL,lt 2 KL,xs,c,rfl,gd.gx,hc,⟨lt 3 KL,by rw[T6];omega,jU (eU c.nm) (λx=>cD (sM x)) (λx hx R S h1 h0=>?_) ?_⟩⟩
  ·cases x with
   |pap p=>
    simp only[De.enc,Pp.enc];walk_at "d";exact h0 rfl
   |oth w d nm r=>
    simp only[De.enc];walk_at "d";by_cases e:w=T4 "happens"
    ·subst e;obtain⟨wd,rfl,_⟩:=gd.hp _ _ _ hx;rw[KI (beq_self_eq_true _)];refine⟨cU.mpr (gd.gx.nm _ hx),cU.mpr (gd.gx.gp.nm c hc),?_⟩;split
     ·rename_i h2;exact⟨_,gS,h1 (by simp only[eU,beq_self_eq_true,VV];exact h2)⟩
     ·rename_i h2;exact h0 (by simp only[eU,beq_self_eq_true,VV];simpa using h2)
    ·rw[cn e,JS Ue];exact h0 (by simp only[eU,cn e,WZ])
  ·have hl:(fh xs c.nm).length<=41:=by
    unfold fh;rw[T6];have:=UU (eU c.nm) xs;omega
   refine⟨fh xs c.nm,by unfold fh;rw[Uo];rfl,J1,Qf gd c.nm,λhs h1 h2=>⟨lt 4 KL,?_⟩⟩;have e:=Bl h1 h2;have q:=q (λz=>by rw[<-e];exact h1.mem_iff) (by rw[<-e];exact h2) (by rw[<-e,h1.length_eq];exact hl);rw[e];exact q
def sN(hs:List (Int×Str)):Prop:=hs.length<=41/\∀z∈hs,Uc z.2=true
def dN(hs:List (Int×Str))(wd:Str):List Int:=(hs.filter λz=>z.2==wd).map (·.1)
def F_V(C:J7):Fa:=λds Q=>∃(r:Rp)(wd:Str),ds=[r.enc C,.str wd]/\sN r.hs/\Uc wd=true/\Q (.list ((dN r.hs wd).map .int))
theorem Qm:bq [T4 "name",T4 "coming",T4 "kind",T4 "makers",T4 "happenings"] [a,b,c,d,e] (T4 "happenings")=some e:=by
 simp only[bq];rw[JS Kg,JS Kg,JS Kg,JS Kg,KI trivial]
theorem vB:bq [T4 "name",T4 "coming",T4 "kind",T4 "makers",T4 "happenings"] [a,b,c,d,e] (T4 "coming")=some b:=by
 simp only[bq];rw[JS Kg,KI trivial]
theorem vC:bq [T4 "name",T4 "coming",T4 "kind",T4 "makers",T4 "happenings"] [a,b,c,d,e] (T4 "kind")=some c:=by
 simp only[bq];rw[JS Kg,JS Kg,KI trivial]
theorem Gv(T:Txt Z mg t):aB P w Z mg base Km 1 t.a_V t.d_V ["paper","happening"] (aP Z (F_V t.q0a)):=by
 refine T.F_V.F.okD Pk (λds Q h=>?_) (λ_ _ _ _ H O ds Q E hr h=>?_)
 ·obtain⟨r,wd,rfl,_⟩:=h;rfl
 ·obtain⟨r,wd,rfl,⟨hl,hok⟩,wok,q⟩:=h;refine'⟨_,?A,?B⟩
  case A=>
   refine' aq ?C
   case' C=>refine' aK ?D
   case' D=>refine' fe ?E
   case E=>exact(fq rfl Bk (df (bW (C:=t.q0a) T.q0g T.q0J (dv 0))) (iO (cG aR (cG aR iN))) uw KL (λ_ _ _ _=>(iF (n:=2) rfl (cF (aQ (i:=0) Bk.nd rfl KU) (cF (aQ (i:=1) Bk.nd rfl KU) iE)))) (λ_ _ _ _=>(eF (aM (cu hr.units) cv (dv 1) (dv 2) (aC _)))) (λ_ _ _ _=>(dv 0)))
  case B=>
  clear hr T;walk_at "d";refine⟨[T4 "name",T4 "coming",T4 "kind",T4 "makers",T4 "happenings"],_,rfl,_,Qm,_,rfl,by rw[T6];omega,d7 (λz:Int×Str=>z.2==wd) (λz=>.int z.1) (λx hx R S h=>?_) ?_⟩
  ·simp only[cD];walk_at "d";exact⟨cU.mpr (hok x hx),cU.mpr wok,h⟩
  ·unfold dN at q;rw[Uo]at q;exact q
end
theorem Gw:bu (ar uU) ["deeds","words","day","found","deed","known"] ["name","found"] 1 [3] ⟨Uh,[ (T7 ".0",LG),(T7 "name",LG),(T7 "found",Uw)],false,false,[]⟩:= .of
def F_Q:Fa:=λds Q=>∃(xs:List Rw)(ws:List Str)(n:Int),ds=[.tuple (xs.map Rw.enc),.tuple (ws.map .str),.int n]/\(∀x∈xs,Uc x.w=true)/\VP (ws.map .str)=true/\xs.length < 64/\∀res,fS ws n xs res->Q (.list (res.map Rw.enc))
theorem acq{ws:List Str}:((ws.map Ub).any λd=>UB d (.str w))=decide (w∈ws):=by
 induction ws with
 |nil=>simp
 |cons a ws ih=>
  rw[T9,Vs,ih,fu];by_cases h:a=w
  ·simp[h]
  ·have h':(a==w)=false:=by simpa using h
   rw[h'];simp[Ne.symm h]
theorem Gx(T:Txt Z mg t):aB P w Z mg base Km 1 t.a_Q t.d_Q ["deeds","words","day"] (aP Z F_Q):=by
 refine T.F_Q.F.okD vq (λds Q h=>?_) (λ_ _ _ _ H O ds Q E hr h=>?_)
 ·obtain⟨xs,ws,n,rfl,_⟩:=h;rfl
 ·obtain⟨xs,ws,n,rfl,hw,hws,h64,q⟩:=h;refine'⟨_,?A,?B⟩
  case A=>
   refine' ak ?C ?D
   case C=>exact(xJ (i:=3) vq.nd rfl KU xI)
   case' D=>refine' ak ?E ?F
   case E=>
    refine' nS U3 rfl (dv 0) ?G aR ?H
    case G=>exact(aQ (i:=4) vq.nd rfl KU)
    case' H=>refine' aq ?I
    case' I=>refine' bC ?J ?K bB
    case J=>exact(PW.pt (di (aM (D9 hr) xE (av aF aG (dv 4) af) (dv 1) rfl) (dG (aM j7 dH (av aF aG (dv 4) af) (dv 2) (aC _)))))
    case' K=>refine' ak ?L ?M
    case L=>exact(bp (i:=5) vq.nd rfl KU (abK (i:=3) hr.units (pv 3) (av aF aG (dv 4) af) ⟨rfl,rfl,rfl,rfl⟩))
    case' M=>refine' aq ?N
    case' N=>refine' bC ?O ?P bB
    case O=>exact(PW.pt (rM (aM kT mC (dv 5) dF (aC _)) (rL (aM tG dH (av aF aG (dv 5) af) (av aF aG (dv 4) af) (aC _)))))
    case' P=>refine' aq ?Q
    case Q=>exact(xK (i:=3) hr.units (pv 3) (av aF aG (dv 4) af) (dv 4))
   case' F=>refine' aq ?R
   case' R=>refine' aK ?S
   case' S=>refine' fe ?T
   case T=>exact(fq rfl Gw (df (fe (abR (i:=3) rfl rfl T.q0k V7 (pv 3)))) aR b7 KL (λ_ _ _ _=>(aQ (i:=0) Gw.nd rfl KU)) (λ_ _ _ _=>ft) (λ_ _ _ _=>(ab3 (i:=1) hr.units (pv 1) (dv 0) (λ_ _=>rfl))))
  case B=>
  clear hr T;walk_at "d";refine⟨λi Y=>∃L o4 o5,fg ws n (xs.take i) L/\Y=[some (Sl.v (.tuple (xs.map Rw.enc))),some (Sl.v (.tuple (ws.map .str))),some (Sl.v (.int n)),some (Sl.k (iU L)),o4,o5],⟨[],_,_,fg.nil _ _,rfl⟩,?_,?_⟩
  ·rintro i x Y hx ⟨L,o4,o5,hL,rfl⟩;rw[Ul]at hx;cases hx':xs[i]? with
   |none=>rw[hx']at hx;cases hx
   |some y=>
    rw[hx']at hx;cases hx;have hy:y∈xs:=UJ hx';have tk:xs.take (i+1)=xs.take i++[y]:=by rw[UZ,hx'];rfl
    simp only[Rw.enc];walk_at "d";have hle:L.length < 64:=by have:=hL.le;rw[U6]at this;omega
    have hk:(iU L).length < 16777216:=by unfold iU;rw[T6];omega
    have en:UC (Ub y.w::Uy y.n::Ub y.nm::y.r)=y.enc:=rfl;refine⟨cU.mpr (hw y hy),hws,?_⟩;rw[acq];by_cases hin:y.w∈ws
    ·rw[KI (decide_eq_true hin)];by_cases hn:y.n<=n
     ·rw[KI hn,xM,en];cases hl:fc L y.nm with
      |none=>
       rw[KI (show cY ((Option.map Rw.enc none).getD XH)=true from rfl)];exact⟨hk,_,by rw[tk];exact hL.put ⟨hin,hn⟩ (λz e=>by rw[hl]at e;cases e),Es L y.nm y,_,rfl⟩
      |some z=>
       rw[JS (by simp[cY,Rw.enc])];refine⟨_,rfl,_,fJ,_,rfl,?_⟩;split
       ·rename_i hlt;exact⟨hk,_,by rw[tk];exact hL.put ⟨hin,hn⟩ (λz' e=>by rw[hl]at e;cases e;exact hlt),Es L y.nm y,_,rfl⟩
       ·rename_i hlt;exact⟨L,by rw[tk];exact hL.keep hl hlt,rfl,_,rfl⟩
     ·rw[JS hn];exact⟨L,by rw[tk];exact hL.skip (λz=>hn z.2),rfl,_,rfl⟩
    ·rw[JS (by simpa using hin)];exact⟨L,by rw[tk];exact hL.skip (λz=>hin z.1),rfl,_,rfl⟩
  ·rintro Y ⟨L,o4,o5,hL,rfl⟩;walk_at "d";rw[T6,UL (T8 _)]at hL;have hle:L.length < 64:=by have:=hL.le;omega
   refine⟨L.map (·.1),by unfold iU;rw[Uo,Uo];rfl,by rw[T6];exact hle,by rw[T6,(kD _).length_eq,T6];omega,?_⟩;refine El (λx=>match x with | .str nm=>((fc L nm).map Rw.enc).getD .none|_=>.none) (λx hx R hR=>?_) ?_
   ·obtain⟨nm,hnm,rfl⟩:=Ug.mp hx;obtain⟨z,hz⟩:=xN ((kD _).mem_iff.mp hnm);walk_at "d";refine⟨z.enc,by rw[xM,hz];rfl,?_⟩;have hR:R (((fc L nm).map Rw.enc).getD .none):=hR;rw[hz]at hR;exact hR
   ·have e:∀l:List Str,(∀a∈l,a∈L.map (·.1))->(l.map Ub).map (λx=>match x with | .str nm=>((fc L nm).map Rw.enc).getD .none|_=>.none)=(l.filterMap (fc L)).map Rw.enc:=by
     intro l
     induction l with
     |nil=>intro _;rfl
     |cons a l ih=>
      intro hl;obtain⟨z,hz⟩:=xN (hl a KJ);rw[T9,T9,VL,hz,ih λb hb=>hl b (by simp[hb])];simp[hz]
    rw[e _ λa ha=>(kD _).mem_iff.mp ha];exact q _ hL.res
theorem Gy:bu (ar uV) ["deeds","day"] ["deed"] 1 [] ⟨Uh,[(T7 ".0",LG),(T7 "deed",LG)],false,false,[]⟩:= .of
section
def iW:List Str:=["rule","end"]
def kI(res:List Rw):List J4:=(res.filter λx=>x.w==T4 "rule").map λx=>.tuple [.str x.nm,x.r.headD .none]
structure Gz (xs:List Rw):Prop where
 st:∀x∈xs,Uc x.w=true
 ru:∀x∈xs,x.w=T4 "rule"->∃p,x.r=[p]
 le:xs.length < 64
def Qo:Fa:=λds Q=>∃(xs:List Rw)(n:Int),ds=[.tuple (xs.map Rw.enc),.int n]/\Gz xs/\∀res,fS iW n xs res->Q (.tuple (kI res))
theorem Qp(T:Txt Z mg t):aB P w Z mg base Km 2 t.a_R t.d_R ["deeds","day"] (aP Z Qo):=by
 refine T.F_R.F.okD abU (λds Q h=>?_) (λ_ _ _ _ H O ds Q E hr h=>?_)
 ·obtain⟨xs,n,rfl,_⟩:=h;rfl
 ·obtain⟨xs,n,rfl,ok,q⟩:=h;refine'⟨_,?A,?B⟩
  case A=>
   refine' aq ?C
   case' C=>generalize hG2:Xy _ _ _ _=eg2
   refine' aK ?D
   case' D=>subst hG2
   exact(PE.imp (eD ia rfl T.q0h fZ (bD (fe (fq rfl Gy (df (aH (Gx T) hr T.F_Q (aa (dv 0) (aa (bH (aa aY (aa aY ai))) (aa (dv 1) ai))))) aR b7 KL (λ_ _ _ _=>(aQ (i:=0) Gy.nd rfl KU)) (λ_ _ _ _=>(eF (aM (cQ hr) cS (av aF aG (dv 0) af) aY (aC _)))) (λ_ _ _ _=>(bH (aa (av aF aG (dv 0) af) (aa (av aF aG (dv 0) af) ai)))))) bo)) (bI ie))
  case B=>
  clear hr T;walk_at "d";refine⟨xs,iW,n,rfl,ok.st,Kg,ok.le,λres hres=>⟨_,rfl,?_,?_⟩⟩
  ·rw[T6];have:=hres.le;have:=ok.le;omega
  refine MX (λx=>match x with | .tuple (.str w:: .int n:: .str nm::r)=>if (w==T4 "rule")=true then some (.tuple [.str nm,r.headD .none]) else none|_=>none) (λx hx R S h=>?_) ?_
  ·obtain⟨y,hy,rfl⟩:=Ug.mp hx;simp only[Rw.enc]at h⊢;walk_at "d";by_cases hr:(y.w==T4 "rule")=true
   ·rw[KI hr]at h⊢;obtain⟨p,hp⟩:=ok.ru y (hres.it y hy).1 (eq_of_beq hr);rw[hp]at h⊢;exact⟨p,gS,h⟩
   ·rw[JS hr]at h⊢;exact h
  ·have e:∀l:List Rw,(l.map Rw.enc).filterMap (λx=>match x with | .tuple (.str w:: .int n:: .str nm::r)=>if (w==T4 "rule")=true then some (.tuple [.str nm,r.headD .none]) else none|_=>none)=kI l:=by
    intro l
    induction l with
    |nil=>rfl
    |cons a l ih=>
     rw[T9,VL,ih];unfold kI;simp only[Rw.enc,UP];by_cases hr:(a.w==T4 "rule")=true
     ·rw[KI hr,KI hr];rfl
     ·rw[JS hr,JS hr]
   rw[e];exact q res hres
theorem GA{s s':cq}(h:s.enc=s'.enc):s=s':=by
 have n1:T4 "first"≠T4 "last":=Kg
 cases s<;>cases s'<;>simp only[cq.enc,Vx,U2,VB,and_true,reduceCtorEq,and_false]at h
 ·rfl
 ·rw[h.2]
 ·exact absurd h.1 n1
 ·exact absurd h.1.symm n1
 ·rw[h.2]
theorem GB{a b:Pt}(h:a.enc=b.enc):a=b:=by
 cases a<;>cases b<;>simp only[Pt.enc,Vx,U2,VB,Vq,and_true,reduceCtorEq,and_false]at h
 ·rw[h.1,h.2]
 ·obtain⟨h1,h2,h3,h4,h5⟩:=h;rw[h1,h2,GA h3,h4,h5]
theorem GC{α β:Type}{f:α->β}:∀{l:List α},(l.map f).Nodup->∀{a b:α},a∈l->b∈l->f a=f b->a=b
 |x::l,nd,a,b,ha,hb,e=>by
  rw[T9,Vz]at nd;rcases Ud.mp ha with ea|ha1<;>rcases Ud.mp hb with eb|hb1
  ·rw[ea,eb]
  ·subst ea;exact absurd (Ug.mpr ⟨b,hb1,e.symm⟩) nd.1
  ·subst eb;exact absurd (Ug.mpr ⟨a,ha1,e⟩) nd.1
  ·exact GC nd.2 ha1 hb1 e
def De.rw:De->Rw
 | .pap p=>⟨T4 "paper",p.d,p.nm,[.str p.kd,.tuple (p.ms.map .str)]⟩
 | .oth w d nm r=>⟨w,d,nm,r⟩
theorem De.rw_enc(x:De):x.rw.enc=x.enc:=by cases x<;>rfl
theorem GF(xs:List De):(xs.map De.rw).map Rw.enc=xs.map De.enc:=by
 rw[Uo];congr 1;funext x;exact x.rw_enc
def sO(xs:List De)(n:Int)(z:Str×Pt):Prop:=∃d,d<=n/\De.oth (T4 "rule") d z.1 [z.2.enc]∈xs/\∀x∈xs,x.isE=true->x.nm=z.1->x.d<=n->x.d<=d
def qL(a b:Str×Pt):Prop:=eM a.1 b.1=true/\a.1≠b.1
def g6(xs:List De)(n:Int)(L:List (Str×Pt)):Prop:=L.Pairwise qL/\∀z,z∈L↔sO xs n z
theorem Qq(a b:Str×Pt)(h:qL a b):¬qL b a:=λz=>h.2 (xF h.1 z.1)
theorem GG{L:List (Str×Pt)}(h:L.Pairwise qL):L.Nodup:=h.imp λ{a b} z e=>z.2 (by rw[e])
theorem Qr{L M:List (Str×Pt)}(h1:L.Pairwise qL)(h2:M.Pairwise qL)(h:∀z,z∈L↔z∈M):L=M:=
 kH Qq ((XZ (GG h1) (GG h2)).mpr h) h1 h2
open Classical in
def bG(xs:List De)(n:Int):List (Str×Pt):=if h:∃L,g6 xs n L then h.choose else []
theorem sP(h:g6 xs n L):L=bG xs n:=by
 unfold bG;have e:∃L,g6 xs n L:=⟨L,h⟩;rw[dif_pos e];exact Qr h.1 e.choose_spec.1 λz=>(h.2 z).trans (e.choose_spec.2 z).symm
def dA(z:Str×Pt):J4:= .tuple [.str z.1,z.2.enc]
theorem acB{x:De}(np:x.rw.w∈iW)(hp:∀p,x≠ .pap p):x.isE=true:=by
 cases x with
 |pap p=>exact absurd rfl (hp p)
 |oth w d nm r=>
  have:w=T4 "rule"\/w=T4 "end":=by
   have h:w∈iW:=np;unfold iW at h;rcases Ud.mp h with e|h
   ·exact .inl e
   ·rcases Ud.mp h with e|h
    ·exact .inr e
    ·cases h
  rcases this with e|e
  ·simp[De.isE,e]
  ·simp[De.isE,e]
theorem GH{x:De}(h:x.isE=true):x.rw.w∈iW/\x.rw.nm=x.nm/\x.rw.n=x.d:=by
 cases x with
 |pap p=>cases h
 |oth w d nm r=>
  refine⟨?_,rfl,rfl⟩;simp only[De.isE,XC,beq_iff_eq]at h;show w∈iW;unfold iW;rcases h with e|e
  ·rw[e];exact UG
  ·rw[e];exact UD _ UG
theorem Qt:T4 "paper"∉iW:=Kg
theorem GI(g:gG xs)(h:fS iW n (xs.map De.rw) res):∃L,g6 xs n L/\kI res=L.map dA:=by
 have from1:∀x∈res,x.w=T4 "rule"->∃pt:Pt,pt.Ok/\x.r=[pt.enc]/\De.oth (T4 "rule") x.n x.nm [pt.enc]∈xs:=λx hx hw=>by
  obtain⟨h1,_,_⟩:=h.it x hx;obtain⟨y,hy,rfl⟩:=Ug.mp h1;cases y with
  |pap p=>exact absurd hw (by show T4 "paper"≠_;decide+kernel)
  |oth w d nm r=>
   have hw:w=T4 "rule":=hw;subst hw;obtain⟨pt,e,ok⟩:=g.ru _ _ _ hy;subst e;exact⟨pt,ok,rfl,hy⟩
 have pick:∀l:List Rw,(∀x∈l,x∈res)->∃L:List (Str×Pt),kI l=L.map dA/\L.map (·.1)=(l.filter λx=>x.w==T4 "rule").map (·.nm)/\∀z∈L,∃x∈l,x.w=T4 "rule"/\x.nm=z.1/\x.r=[z.2.enc]:=by
  intro l
  induction l with
  |nil=>intro _;exact⟨[],rfl,rfl,KJ⟩
  |cons a l ih=>
   intro hl;obtain⟨L,e1,e2,e3⟩:=ih λx hx=>hl x (by simp[hx]);by_cases hr:(a.w==T4 "rule")=true
   ·obtain⟨pt,_,er,_⟩:=from1 a (hl a KJ) (eq_of_beq hr);refine⟨(a.nm,pt)::L,?_,?_,?_⟩
    ·unfold kI at e1⊢;rw[UP,KI hr,T9,T9,e1,er];rfl
    ·rw[UP,KI hr,T9,T9,e2]
    ·intro z hz;rcases Ud.mp hz with rfl|hz
     ·exact⟨a,KJ,eq_of_beq hr,rfl,er⟩
     ·obtain⟨x,hx,h'⟩:=e3 z hz;exact⟨x,by simp[hx],h'⟩
   ·refine⟨L,?_,?_,?_⟩
    ·unfold kI at e1⊢;rw[UP,JS hr,e1]
    ·rw[UP,JS hr,e2]
    ·intro z hz;obtain⟨x,hx,h'⟩:=e3 z hz;exact⟨x,by simp[hx],h'⟩
 obtain⟨L,e1,e2,e3⟩:=pick res λ_ h=>h;have key:∀x∈res,∀pt:Pt,x.r=[pt.enc]->x.w=T4 "rule"->sO xs n (x.nm,pt):=λx hx pt er hw=>by
  obtain⟨pt',_,er',hm⟩:=from1 x hx hw;obtain⟨h1,⟨_,h2⟩,h3⟩:=h.it x hx;rw[er]at er';rw[<-(YX er').1]at hm;refine⟨x.n,h2,hm,λy hy ye yn yd=>?_⟩;obtain⟨a,b,c⟩:=GH ye;have:=h3 y.rw (Ug.mpr ⟨y,hy,rfl⟩) ⟨a,by rw[c];exact yd⟩ (by rw[b];exact yn);rw[c]at this;exact this
 refine⟨L,⟨?_,λz=>⟨λhz=>?_,λhz=>?_⟩⟩,e1⟩
 ·have up:(L.map (·.1)).Pairwise λa b=>eM a b=true:=by
   rw[e2];exact h.up.sublist (X1.map _)
  have nd:(L.map (·.1)).Nodup:=by
   rw[e2];exact h.nd.sublist (X1.map _)
  rw[Vk]at up;rw[YD,Vk]at nd;exact up.and nd
 ·obtain⟨x,hx,hw,hn,hr⟩:=e3 z hz;have:=key x hx z.2 hr hw;rw[hn]at this;exact this
 ·obtain⟨d,hd,hm,hal⟩:=hz;have hmr:(De.oth (T4 "rule") d z.1 [z.2.enc]).rw∈xs.map De.rw:=Ug.mpr ⟨_,hm,rfl⟩;have hok:gA iW n (De.oth (T4 "rule") d z.1 [z.2.enc]).rw:=⟨UG,hd⟩;obtain⟨x,hx,xn⟩:=h.al _ hmr hok;have xn:x.nm=z.1:=xn;obtain⟨h1,⟨h2a,h2b⟩,h3⟩:=h.it x hx;obtain⟨y,hy,ey⟩:=Ug.mp h1;have hyE:y.isE=true:=acB (by rw[ey];exact h2a) λp hp=>by
   rw[hp]at ey;rw[<-ey]at h2a;exact Qt h2a
  obtain⟨_,yb,yc⟩:=GH hyE;have dd:d<=x.n:=h3 _ hmr hok xn.symm;have dd2:x.n<=d:=by
   have:=hal y hy hyE (by rw[<-yb,ey];exact xn) (by rw[<-yc,ey];exact h2b);rw[<-yc,ey]at this;exact this
  have ee:y=De.oth (T4 "rule") d z.1 [z.2.enc]:=g.re y hy _ hm hyE (by simp[De.isE]) (by rw[<-yc,ey];exact pj dd2 dd) (by rw[<-yb,ey];exact xn);subst ee;have hw:x.w=T4 "rule":=by rw[<-ey];rfl
  have hr:x.r=[z.2.enc]:=by rw[<-ey];rfl
  have:z.1∈L.map (·.1):=by
   rw[e2];exact Ug.mpr ⟨x,Uv.mpr ⟨hx,by rw[hw];exact beq_self_eq_true _⟩,xn⟩
  obtain⟨v,hv,vn⟩:=Ug.mp this;obtain⟨x',hx',hw',hn',hr'⟩:=e3 v hv;have exx:x'=x:=GC h.nd hx' hx (hn'.trans (vn.trans xn.symm));rw[exx,hr]at hr';have:v=z:=by
   obtain⟨v1,v2⟩:=v;obtain⟨z1,z2⟩:=z;have a1:v1=z1:=vn;have a2:z2.enc=v2.enc:=(YX hr').1;rw[a1,GB a2.symm]
  rw[<-this];exact hv
def Qu:Fa:=λds Q=>∃(xs:List De)(n:Int),ds=[.tuple (xs.map De.enc),.int n]/\gG xs/\(g6 xs n (bG xs n)->(bG xs n).length<=41->Q (.tuple ((bG xs n).map dA)))
theorem GJ(g:gG xs)(wok:∀w d nm r,De.oth w d nm r∈xs->Uc w=true):Gz (xs.map De.rw):=by
 refine⟨λx hx=>?_,λx hx hw=>?_,?_⟩
 ·obtain⟨y,hy,rfl⟩:=Ug.mp hx;cases y with
  |pap p=>show Uc (T4 "paper")=true;decide+kernel
  |oth w d nm r=>exact wok _ _ _ _ hy
 ·obtain⟨y,hy,rfl⟩:=Ug.mp hx;cases y with
  |pap p=>exact absurd hw (by show T4 "paper"≠_;decide+kernel)
  |oth w d nm r=>
   have hw:w=T4 "rule":=hw;subst hw;obtain⟨pt,e,_⟩:=g.ru _ _ _ hy;exact⟨_,e⟩
 ·rw[T6];have:=g.gx.ln;omega
theorem Bm(T:Txt Z mg t):aB P w Z mg base Km 2 t.a_R t.d_R ["deeds","day"] (aP Z Qu):=
 (Qp T).imp λvs H Q E ⟨O,ds,Qd,tr,hs,⟨xs,n,e,g,q⟩,k⟩=>⟨O,ds,Qd,tr,hs,⟨xs.map De.rw,n,by rw[GF];exact e,GJ g (λw d nm r h=>g.gx.w _ h),λres hres=>by
  obtain⟨L,h1,h2⟩:=GI g hres;have e:=sP h1;rw[h2,e];refine q (by rw[<-e];exact h1) ?_;have hl:(kI res).length<=res.length:=by unfold kI;rw[T6];exact UU _ _
  have:=hres.le;rw[T6]at this;rw[h2,T6,e]at hl;have:=g.gx.ln;omega⟩,k⟩
end
theorem GK:bu (ar uZ) ["paper","since","day","days"] ["other","day"] 1 [2] ⟨Uh,[ (T7 ".0",LG),(T7 "other",LG),(T7 "day",Uw)],false,false,[]⟩:= .of
section
open Classical in
def iw(d k:Int)(u:Str):Int:=if h:∃r,pK d k u r then h.choose else 0
theorem GL(h:pK d k u r):r=iw d k u:=by
 unfold iw;rw[dif_pos ⟨r,h⟩];exact aco h (Exists.choose_spec (⟨r,h⟩:∃r,pK d k u r))
def cI:Option Int->J4
 |none=>.none
 |some i=>.int i
def gH(r:Rp):Prop:=sN r.hs/\Uc r.c.kd=true/\r.ts.length<=41/\∀m∈r.ts,Uc m=true
def nz(r:Rp)(wd:Str)(n:Int):List Int:=(dN r.hs wd).filter λz=>decide (z<=n)
def pL(r:Rp)(n:Int):cq->Option Int
 | .com=>some r.c.d
 | .fst wd=>(nz r wd n).head?
 | .lst wd=>(nz r wd n).getLast?
theorem acr{l:List Int}{Q:J4->Prop}(q:Q (cI l.head?)):if (!(l.map λz=>Uy z).isEmpty)=false then Q .none else ∃d,atI (l.map λz=>Uy z) 0=some d/\Q d:=by
 cases l with
 |nil=>rw[KI (by rfl)];exact q
 |cons a l=>rw[JS KJ];exact⟨.int a,cK,q⟩
theorem C8{l:List J4}{a:J4}:atI (l++[a]) (-1)=some a:=by
 unfold atI jD;rw[JS J1,KI (by rw[Ux,WI];omega)];rw[show((-1:Int)+((l++[a]).length:Nat)).toNat=l.length by rw[Ux,WI];omega];simp
theorem Qw{l:List Int}{Q:J4->Prop}(q:Q (cI l.getLast?)):if (!(l.map λz=>Uy z).isEmpty)=false then Q .none else ∃d,atI (l.map λz=>Uy z) (-1)=some d/\Q d:=by
 rcases List.eq_nil_or_concat l with e|⟨l',a,e⟩
 ·subst e;rw[KI (by rfl)];exact q
 ·rw[List.concat_eq_append]at e;subst e;rw[JS KJ];refine⟨.int a,?_,?_⟩
  ·rw[UA];exact C8
  ·rw[List.getLast?_concat]at q;exact q
def Qx(C:J7):Fa:=λds Q=>∃(r:Rp)(s:cq)(n:Int),ds=[r.enc C,s.enc,.int n]/\s.Ok/\gH r/\Q (cI (pL r n s))
theorem abL(T:Txt Z mg t):aB P w Z mg base Km 2 t.a_W t.d_W ["paper","since","day"] (aP Z (Qx t.q0a)):=by
 refine T.F_W.F.okD FF (λds Q h=>?_) (λ_ _ _ _ H O ds Q E hr h=>?_)
 ·obtain⟨r,s,n,rfl,_⟩:=h;rfl
 ·obtain⟨r,si,n,rfl,hsi,hh,q⟩:=h;refine'⟨_,?A,?B⟩
  case A=>
   refine' ak ?C ?D
   case C=>
    refine' bC ?E ?F bB
    case E=>exact(aM (cQ hr) cS (av aF aG (dv 1) af) aY (aC _))
    case' F=>refine' aq ?G
    case G=>exact(aK (bW (C:=t.q0a) T.q0g T.q0n (dv 0)))
   case' D=>refine' ak ?H ?I
   case H=>exact(l5 (i:=3) FF.nd rfl KU (MH rfl GK (df (aH (Gv T) hr T.F_V (aa (dv 0) (aa (av aF aG (dv 1) af) ai)))) aR b7 KL (λ_ _ _ _=>(aQ (i:=0) GK.nd rfl KU)) (λ_ _ _ _=>(eF (aM j7 dH (dv 0) (dv 1) (aC _)))) (λ_ _ _ _=>(dv 0))))
   case' I=>refine' ak ?J ?K
   case J=>
    refine' bC ?L ?M bB
    case L=>exact(jG (sE (dv 3)))
    case M=>refine' aq (aK dF)
   case' K=>refine' aq ?N
   case' N=>refine' aK ?O
   case O=>exact(rN (aM (cQ hr) cS (av aF aG (dv 1) af) aY (aC _)) (av aX bf (dv 3) af) (av aX bf (dv 3) (MZ af)))
  case B=>
  clear hr T;have dl:∀wd,(dN r.hs wd).length<=41:=λwd=>by
   unfold dN;rw[T6];exact UN (UU _ _) hh.1.1
  cases si with
  |com=>
   simp only[cq.enc];walk_at "d";exact⟨[T4 "name",T4 "coming",T4 "kind",T4 "makers",T4 "happenings"],_,rfl,_,vB,q⟩
  |fst wd=>
   simp only[cq.enc];walk_at "d";rw[cn (show T4 "first"≠T4 "coming" by decide+kernel),JS Ue];have dl:=dl wd;refine⟨r,wd,rfl,hh.1,hsi,_,rfl,by rw[T6];omega,d7 (λz=>decide (z<=n)) (λz=>.int z) (λx hx R S h=>?_) ?_⟩
   ·walk_at "d";simpa using h
   ·have q:Q (cI (nz r wd n).head?):=q;unfold nz at q;exact acr q
  |lst wd=>
   simp only[cq.enc];walk_at "d";rw[cn (show T4 "last"≠T4 "coming" by decide+kernel),JS Ue];have dl:=dl wd;refine⟨r,wd,rfl,hh.1,hsi,_,rfl,by rw[T6];omega,d7 (λz=>decide (z<=n)) (λz=>.int z) (λx hx R S h=>?_) ?_⟩
   ·walk_at "d";simpa using h
   ·have q:Q (cI (nz r wd n).getLast?):=q;unfold nz at q;exact Qw q
def dB(r:Rp)(n:Int):Pt->Option Int
 | .five _ _ s k u=>(pL r n s).map λb=>iw b k u
 | .two _ _=>none
def Qz(C:J7):Fa:=λds Q=>∃(r:Rp)(w kd:Str)(s:cq)(k:Int)(u:Str)(n:Int),ds=[r.enc C,(Pt.five w kd s k u).enc,.int n]/\s.Ok/\pJ u/\gH r/\Q (cI (dB r n (.five w kd s k u)))
theorem GN(T:Txt Z mg t):aB P w Z mg base Km 6 t.a_X t.d_X ["paper","parts","day"] (aP Z (Qz t.q0a)):=by
 refine T.F_X.F.okD FG (λds Q h=>?_) (λ_ _ _ _ H O ds Q E hr h=>?_)
 ·obtain⟨r,w,kd,s,k,u,n,rfl,_⟩:=h;rfl
 ·obtain⟨r,wo,kd,si,k,u,n,rfl,hsi,hu,hh,q⟩:=h;refine'⟨_,?A,?B⟩
  case A=>
   refine' ak ?C ?D
   case C=>
    refine' bp (i:=3) FG.nd rfl KU ?E (hs:=rY)
    case E=>exact(aH (abL T) hr T.F_W (aa (dv 0) (aa (av aF aG (dv 1) af) (aa (dv 2) ai))))
   case' D=>refine' ak ?F ?G
   case F=>
    refine' bC ?H ?I bB
    case H=>exact(aM kT mC (dv 3) dF (aC _))
    case I=>refine' aq (aK dF)
   case' G=>refine' aq ?J
   case' J=>refine' aK ?K
   case K=>exact(aH (F8 T) hr T.F_H (aa (dv 3) (aa (av aF aG (dv 1) af) (aa (av aF aG (dv 1) af) ai))))
  case B=>
  clear hr T;simp only[Pt.enc];walk_at "d";refine⟨r,si,n,rfl,hsi,hh,?_⟩;have q:Q (cI ((pL r n si).map λb=>iw b k u)):=q;cases hb:pL r n si with
  |none=>
   rw[hb]at q;simp only[cI,cY];walk_at "d";exact q
  |some b=>
   rw[hb]at q;simp only[cI,cY];walk_at "d";exact⟨b,k,u,rfl,hu,λx hx=>by rw[GL hx];exact q⟩
theorem qM(g:gG xs)(hc:c∈aA xs)(h1:∀z,z∈fL (fh xs c.nm)↔z∈fh xs c.nm)(h3:(fL (fh xs c.nm)).length<=41):gH (aU xs c):=by
 refine⟨⟨h3,λz hz=>?_⟩,g.gx.gp.kd c hc,?_,λm hm=>?_⟩
 ·have hz:=(h1 z).mp hz;unfold fh at hz;obtain⟨x,hx,e⟩:=Ug.mp hz;obtain⟨hx1,hx2⟩:=Uv.mp hx;cases x with
  |pap p=>cases hx2
  |oth w d nm r=>
   simp only[eU,U0,beq_iff_eq]at hx2;obtain⟨rfl,rfl⟩:=hx2;obtain⟨wd,rfl,hw⟩:=g.hp _ _ _ hx1;rw[<-e];exact hw
 ·show((fK (aA xs) c).map (·.nm)).length<=41;rw[T6];exact Bj g.gx.gp
 ·obtain⟨p,hp,rfl⟩:=Ug.mp hm;exact g.gx.gp.nm p (gE.mp (Uv.mp hp).1)
end
theorem GO:bu (ar u5) ["paper","rules","day"] ["pair","paper"] 1 [0] ⟨Uh,[ (T7 ".0",LG),(T7 "pair",LG),(T7 "paper",Uw)],false,false,[]⟩:= .of
theorem GP:bu (ar u7) ["paper","rules","day","gone","left","calls","rule","parts","due"] ["maker","gone","day"] 1 [3,2] ⟨Uh,[ (T7 ".0",LG),(T7 "maker",LG),(T7 "has_gone",U1),(T7 "day",Uw),(T7 "gone",Uw)],false,false,[]⟩:= .of
theorem GQ:bu (ar u9) ["paper","rules","day","gone","away","calls","rule","parts","due"] ["maker","gone","day"] 1 [3,2] ⟨Uh,[ (T7 ".0",LG),(T7 "maker",LG),(T7 "has_gone",U1),(T7 "day",Uw),(T7 "gone",Uw)],false,false,[]⟩:= .of
theorem Bn:bu (ar va) ["kind","rules"] ["rule","parts","kind"] 2 [0] ⟨Uh,[ (T7 ".0",LG),(T7 "rule",LG),(T7 "parts",LG),(T7 "kind",Uw)],false,false,[]⟩:= .of
structure Gn where
 ks:List Str
 gs:List Int
def Gn.enc(g:Gn):J4:=ig g.ks (g.gs.map .int)
def kJ:List Str->List Int->Str->Option Int
 |k::ks,d::ds,z=>if k=z then some d else kJ ks ds z
 |_,_,_=>none
theorem Bo:∀(ks:List Str)(gs:List Int)(z:Str),bq ks (gs.map .int) z=(kJ ks gs z).map .int
 | [],_,_=>rfl
 |_::_,[],_=>rfl
 |k::ks,g::gs,z=>by
  rw[T9];unfold bq kJ;by_cases h:k=z
  ·rw[KI h,KI h];rfl
  ·rw[JS h,JS h];exact Bo ks gs z
def Gn.at(g:Gn)(z:Str):Option Int:=kJ g.ks g.gs z
def Gn.has(g:Gn)(n:Int)(z:Str):Bool:=match g.at z with
 |some d=>decide (d<=n)
 |none=>false
def acL:Fa:=λds Q=>∃(g:Gn)(z:Str)(n:Int),ds=[g.enc,.str z,.int n]/\Q (.bool (g.has n z))
theorem GR(T:Txt Z mg t):aB P w Z mg base Km 1 t.a_Z t.d_Z ["gone","paper","day"] (aP Z acL):=by
 refine T.F_Z.F.okD FH (λds Q h=>?_) (λ_ _ _ _ H O ds Q E hr h=>?_)
 ·obtain⟨g,z,n,rfl,_⟩:=h;rfl
 ·obtain⟨g,z,n,rfl,q⟩:=h;refine'⟨_,?A,?B⟩
  case A=>
   refine' ak ?C ?D
   case C=>exact(bp (i:=3) FH.nd rfl KU (abH hr.units (dv 0) (dv 1) ⟨rfl,rfl,rfl,rfl⟩))
   case' D=>refine' aq ?E
   case' E=>refine' aK ?F
   case F=>exact(jg (cX rD se (df (dv 3)) (df dF) (aC _)) (jH (cX j7 dH (df (dv 3)) (df (dv 2)) (aC _))))
  case B=>
  clear hr T;simp only[Gn.enc];walk_at "d";refine⟨g.ks,_,rfl,?_⟩;rw[Bo];have q:Q (.bool (match g.at z with|some d=>decide (d<=n)|none=>false)):=q;unfold Gn.at at q;cases hd:kJ g.ks g.gs z with
  |none=>
   rw[hd]at q;simp only[WS,Za,cY];walk_at "d";exact q
  |some d=>
   rw[hd]at q;simp only[WR,Option.getD_some,cY];walk_at "d";exact q
theorem GS:bq [T4 "name",T4 "coming",T4 "kind",T4 "makers",T4 "happenings"] [a,b,c,d,e] (T4 "makers")=some d:=by
 simp only[bq];rw[JS Kg,JS Kg,JS Kg,KI trivial]
def Pt.wd:Pt->Str
 | .two w _=>w
 | .five w _ _ _ _=>w
def Pt.kd:Pt->Str
 | .two _ kd=>kd
 | .five _ kd _ _ _=>kd
theorem Pt.kdOk{p:Pt}(h:p.Ok):Uc p.kd=true:=by cases p with|two w kd=>exact h.2.2|five w kd s k u=>exact h.2.1
theorem Pt.at1(p:Pt):∃l,p.enc= .tuple l/\atI l 1=some (.str p.kd):=by cases p<;>exact⟨_,rfl,fJ⟩
def jr(L:List (Str×Pt)):Prop:=L.length<=41/\∀z∈L,z.2.Ok
def fA(r:Rp)(n:Int)(L:List (Str×Pt)):List (Str×Pt):=if r.c.d > n then [] else L.filter λz=>z.2.kd==r.c.kd
def QB(C:J7):Fa:=λds Q=>∃(r:Rp)(L:List (Str×Pt))(n:Int),ds=[r.enc C,.tuple (L.map dA),.int n]/\gH r/\jr L/\Q (.list ((fA r n L).map dA))
theorem GU(T:Txt Z mg t):aB P w Z mg base Km 1 t.a_Y t.d_Y ["paper","rules","day"] (aP Z (QB t.q0a)):=by
 refine T.F_Y.F.okD Pm (λds Q h=>?_) (λ_ _ _ _ H O ds Q E hr h=>?_)
 ·obtain⟨r,L,n,rfl,_⟩:=h;rfl
 ·obtain⟨r,L,n,rfl,hr',hL,q⟩:=h;refine'⟨_,?A,?B⟩
  case A=>
   refine' ak ?C ?D
   case C=>
    refine' bC ?E ?F bB
    case E=>exact(aM j8 dH (bW (C:=t.q0a) T.q0g T.q0n (dv 0)) (dv 2) (aC _))
    case' F=>refine' aq ?G
    case G=>exact(aK (fe (cC ai)))
   case' D=>refine' aq ?H
   case' H=>refine' aK ?I
   case' I=>refine' fe ?J
   case J=>exact(kr rfl GO (df (dv 1)) aR b7 KL (λ_ _ _ _=>(aQ (i:=0) GO.nd rfl KU)) (λ_ _ _ _=>(eF (aM (cu hr.units) cv (av aF aG (av aF aG (dv 0) af) af) (bW (C:=t.q0a) T.q0g T.q0o (dv 1)) (aC _)))) (λ_ _ _ _=>(dv 0)))
  case B=>
  clear hr T;walk_at "d";refine⟨[T4 "name",T4 "coming",T4 "kind",T4 "makers",T4 "happenings"],_,rfl,_,vB,r.c.d,rfl,?_⟩;unfold fA at q;by_cases hd:r.c.d > n
  ·rw[KI hd]at q⊢;exact q
  ·rw[JS hd]at q⊢;refine⟨by rw[T6];have:=hL.1;omega,d7 (λz:Str×Pt=>z.2.kd==r.c.kd) dA (λx hx R S h=>?_) q⟩;simp only[dA];obtain⟨l,e1,e2⟩:=Pt.at1 x.2;rw[e1];walk_at "d";refine⟨_,e2,[T4 "name",T4 "coming",T4 "kind",T4 "makers",T4 "happenings"],_,rfl,_,vC,cU.mpr (Pt.kdOk (hL.2 x hx)),cU.mpr hr'.2.1,?_⟩;rw[fu];simp only[dA]at h;rw[e1]at h;exact h
def bQ(z:Str×J4):J4:= .tuple [.str z.1,z.2]
def iX(r:Rp)(n:Int)(g:Gn):List Str:=r.ts.filter λm=>!g.has n m
def iY(r:Rp)(n:Int)(g:Gn):List Str:=r.ts.filter λm=>g.has n m
def nA(n:Int):Option Int->Bool
 |none=>true
 |some d=>decide (d > n)
def js(r:Rp)(n:Int)(g:Gn):Pt->Option J4
 | .five w kd s k u=>if w=T4 "keep"/\nA n (dB r n (.five w kd s k u))=true then some (cI (dB r n (.five w kd s k u))) else none
 | .two w kd=>if w=T4 "while" then(iX r n g).head?.map .str else none
def jt(r:Rp)(n:Int)(g:Gn):Pt->Option J4
 | .five w kd s k u=>if w=T4 "gone"/\nA n (dB r n (.five w kd s k u))=false then some (cI (dB r n (.five w kd s k u))) else none
 | .two w kd=>if w=T4 "follow" then(iY r n g).head?.map .str else none
def nB(r:Rp)(n:Int)(g:Gn)(z:Str×Pt):List (Str×J4):=((js r n g z.2).map λb=>(z.1,b)).toList
def nE(r:Rp)(n:Int)(g:Gn)(z:Str×Pt):List (Str×J4):=((jt r n g z.2).map λb=>(z.1,b)).toList
def cj(r:Rp)(n:Int)(g:Gn)(L:List (Str×Pt)):List (Str×J4):=(fA r n L).flatMap (nB r n g)
def cV(r:Rp)(n:Int)(g:Gn)(L:List (Str×Pt)):List (Str×J4):=(fA r n L).flatMap (nE r n g)
theorem vD{α β:Type}{f:α->List β}(h:∀x,(f x).length<=1):∀l:List α,(l.flatMap f).length<=l.length
 | []=>by simp
 |x::l=>by
  rw[Wv,Ux,Uk];have:=h x;have:=vD h l;omega
theorem Bp{α:Type}(o:Option α):o.toList.length<=1:=by cases o<;>simp
theorem GV{f:Str×Pt->Option J4}(M:List (Str×Pt))(hM:M.length<=41):∃acc:Nat->List J4,acc 0=[]/\(∀i,(acc i).length<=41)/\(∀i x,M[i]?=some x->f x=none->acc (i+1)=acc i)/\(∀i x,M[i]?=some x->∀b,f x=some b->acc (i+1)=acc i++[.tuple [.str x.1,b]])/\acc M.length=(M.flatMap λz=>((f z).map λb=>(z.1,b)).toList).map bQ:=by
 refine⟨λi=>((M.take i).flatMap λz=>((f z).map λb=>(z.1,b)).toList).map bQ,rfl,λi=>?_,λi x hx e=>?_,λi x hx b e=>?_,?_⟩
 ·show(UR bQ _).length<=41;rw[T6];refine UN (vD (λz=>Bp _) _) ?_;rw[U6];omega
 ·show UR bQ _=UR bQ _;rw[UZ,hx,Wi];simp[e]
 ·show UR bQ _=UR bQ _++_;rw[UZ,hx,Wi,UA];simp[e,bQ]
 ·show UR bQ _=_;rw[UL (T8 _)]
theorem vE(h:jr L):jr (fA r n L):=by
 unfold fA;split
 ·exact⟨KJ,KJ⟩
 ·exact⟨UN (UU _ _) h.1,λz hz=>h.2 z (Uv.mp hz).1⟩
def qN(C:J7)(r:Rp)(L:List (Str×Pt))(n:Int)(g:Gn)(ms:List Str)(a:List J4)(Y:Dl):Prop:=∃(o6 o7 o8:Option Sl),Y=[some (Sl.v (Rp.enc C r)),some (Sl.v (UC (UR dA L))),some (Sl.v (Uy n)),some (Sl.v g.enc),some (Sl.v (VQ (ms.map λm=>Ub m))),some (Sl.o a),o6,o7,o8]
def F_a(C:J7):Fa:=λds Q=>∃(r:Rp)(L:List (Str×Pt))(n:Int)(g:Gn),ds=[r.enc C,.tuple (L.map dA),.int n,g.enc]/\gH r/\jr L/\Q (.tuple ((cj r n g L).map bQ))
theorem GW(T:Txt Z mg t):aB P w Z mg base Km 7 t.a_a t.d_a ["paper","rules","day","gone"] (aP Z (F_a t.q0a)):=by
 refine T.F_a.F.okD qD (λds Q h=>?_) (λ_ _ _ _ H O ds Q E hr h=>?_)
 ·obtain⟨r,L,n,g,rfl,_⟩:=h;rfl
 ·obtain⟨r,L,n,g,rfl,hr',hL,q⟩:=h;refine'⟨_,?A,?B⟩
  case A=>
   refine' ak ?C ?D
   case C=>exact(l5 (i:=4) qD.nd rfl KU (pz rfl GP (df (bW (C:=t.q0a) T.q0g T.q0A (dv 0))) aR b7 KL (λ_ _ _ _=>(aQ (i:=0) GP.nd rfl KU)) (λ_ _ _ _=>(eF (jG (fP (aH (GR T) hr T.F_Z (aa (dv 1) (aa (dv 0) (aa (dv 2) ai)))))))) (λ_ _ _ _=>(dv 0))))
   case' D=>refine' ak ?E ?F
   case E=>exact(jh (i:=5) qD.nd rfl KU (cC ai))
   case' F=>refine' ak ?G ?H
   case G=>
    refine' km U3 rfl (aH (GU T) hr T.F_Y (aa (dv 0) (aa (dv 1) (aa (dv 2) ai)))) ?I (iO (cG aR (cG aR iN))) ?J
    case I=>exact(iF (n:=2) rfl (cF (aQ (i:=6) qD.nd rfl KU) (cF (aQ (i:=7) qD.nd rfl KU) iE)))
    case' J=>refine' ak ?K ?L
    case K=>
     refine' bC ?M ?N bB
     case M=>exact(aM (cQ hr) cS (av aF aG (dv 7) af) aY (aC _))
     case' N=>refine' ak ?O ?P
     case O=>exact(bp (i:=8) qD.nd rfl KU (aH (GN T) hr T.F_X (aa (dv 0) (aa (dv 7) (aa (dv 2) ai)))))
     case' P=>refine' aq ?Q
     case' Q=>refine' bC ?R ?S bB
     case R=>exact(PW.pt (rM (aM kT mC (dv 8) dF (aC _)) (rL (aM j8 dH (dv 8) (dv 2) (aC _)))))
     case' S=>refine' aq ?T
     case T=>exact(kj (i:=5) (pv 5) (bH (aa (dv 6) (aa (dv 8) ai))))
    case' L=>refine' aq ?U
    case' U=>refine' bC ?V ?W bB
    case V=>exact(PW.pt (di (aM (cQ hr) cS (av aF aG (dv 7) af) aY (aC _)) (dG (sE (dv 4)))))
    case' W=>refine' aq ?X
    case' X=>refine' kj (i:=5) (pv 5) ?Y
    case Y=>exact(bH (aa (dv 6) (aa (av aX bf (dv 4) af) ai)))
   case' H=>refine' aq ?Z
   case Z=>exact(aK (PE.imp (eD ia rfl T.q0h fZ (lh (dw 5) bo)) (bI ie)))
  case B=>
  clear hr T;walk_at "d";refine⟨[T4 "name",T4 "coming",T4 "kind",T4 "makers",T4 "happenings"],_,rfl,_,GS,_,rfl,by rw[T6];have:=hr'.2.2.1;omega,d7 (λm=>!g.has n m) (λm=>.str m) (λx hx R S h=>?_) ?_⟩
  ·walk_at "d";exact⟨g,x,n,rfl,by simpa using h⟩
  ·refine⟨r,L,n,rfl,hr',hL,?_⟩;have ok:=vE (r:=r) (n:=n) hL;walk_at "d";have q:Q (.tuple (((fA r n L).flatMap (nB r n g)).map bQ)):=q;generalize hM:fA r n L=M at ok q⊢;obtain⟨acc,a0,al,an,as,ae⟩:=GV (f:=λz:Str×Pt=>js r n g z.2) M ok.1;generalize hE:dE.mk _ _ _ _=EE;have eN:=congrArg dE.nx hE;simp only at eN;clear hE;refine⟨λi=>qN t.q0a r L n g (iX r n g) (acc i),⟨none,none,none,by rw[a0];rfl⟩,?_,?_⟩
   ·rintro i z Y hz ⟨o6,o7,o8,rfl⟩;rw[Ul]at hz;cases hz':M[i]? with
    |none=>rw[hz']at hz;cases hz
    |some x=>
     rw[hz']at hz;cases hz;have xo:=ok.2 x (UJ hz');have tl:=al i;have none_:=an i x hz';have some_:=as i x hz';obtain⟨nm,pt⟩:=x;simp only[dA];have fin:∀a(o6 o7 o8:Option Sl),acc (i+1)=a->qN t.q0a r L n g (iX r n g) (acc (i+1)) [some (Sl.v (Rp.enc t.q0a r)),some (Sl.v (UC (UR dA L))),some (Sl.v (Uy n)),some (Sl.v g.enc),some (Sl.v (VQ ((iX r n g).map λm=>Ub m))),some (Sl.o a),o6,o7,o8]:=λa o6 o7 o8 e=>⟨o6,o7,o8,by rw[e]⟩;generalize qN t.q0a r L n g (iX r n g) (acc (i+1))=NX at fin⊢;clear eN;cases pt with
     |two w2 kd=>
      have k1:w2≠T4 "keep":=λe=>xo.1 (.inl e);simp only[Pt.enc];generalize hD:gQ (iM 8 _) _=TD;generalize hW:gi (iL _ (iV _)) _ _=TW;walk_at "d";rw[cn k1,JS Ue];clear hD;subst hW;walk_at "d";by_cases hw:w2=T4 "while"
      ·subst hw;rw[KI (beq_self_eq_true _)];cases hl:iX r n g with
       |nil=>
        rw[hl]at fin;rw[JS KJ];exact fin _ _ _ _ (none_ (by show(if T4 "while"=T4 "while" then(iX r n g).head?.map Ub else none)=none;rw[KI rfl,hl];rfl))
       |cons m l=>
        rw[hl]at fin;rw[KI (by rfl)];exact⟨_,cK,J1,fin _ _ _ _ (some_ (.str m) (by show(if T4 "while"=T4 "while" then(iX r n g).head?.map Ub else none)=some _;rw[KI rfl,hl];rfl))⟩
      ·rw[cn hw,JS Ue];exact fin _ _ _ _ (none_ (by show(if w2=T4 "while" then(iX r n g).head?.map Ub else none)=none;rw[JS hw]))
     |five w2 kd si k u=>
      have k1:w2≠T4 "while":=λe=>by rcases xo.1 with z|z<;>rw[z]at e<;>exact absurd e Kg
      simp only[Pt.enc];generalize hW:gi (iL _ (iV _)) _ _=TW;generalize hE2:dE.mk _ _ _ _=E2;have eN2:E2.nx=NX:=by rw[<-hE2]
      have pass:∀a(o8:Option Sl),acc (i+1)=a->TW E2 [some (Sl.v (Rp.enc t.q0a r)),some (Sl.v (UC (UR dA L))),some (Sl.v (Uy n)),some (Sl.v g.enc),some (Sl.v (VQ ((iX r n g).map λm=>Ub m))),some (Sl.o a),some (Sl.v (Ub nm)),some (Sl.v (UC [Ub w2,Ub kd,si.enc,Uy k,Ub u])),o8]:=λa o8 e=>by
       subst hW;walk_at "d";rw[cn k1,JS Ue,eN2];exact fin _ _ _ _ e
      clear hW hE2;walk_at "d";by_cases hw:w2=T4 "keep"
      ·subst hw;rw[KI (beq_self_eq_true _)];refine⟨r,T4 "keep",kd,si,k,u,n,rfl,xo.2.2.1,xo.2.2.2.2.2,hr',?_⟩;have df:js r n g (.five (T4 "keep") kd si k u)=if T4 "keep"=T4 "keep"/\nA n (dB r n (.five (T4 "keep") kd si k u))=true then some (cI (dB r n (.five (T4 "keep") kd si k u))) else none:=rfl
       cases hd:dB r n (.five (T4 "keep") kd si k u) with
       |none=>
        rw[hd]at df;simp only[cI,cY];walk_at "d";refine⟨J1,?_⟩;exact pass _ _ (some_ .none (by rw[df,KI ⟨rfl,rfl⟩];rfl))
       |some d=>
        rw[hd]at df;simp only[cI,cY];walk_at "d";by_cases hdn:n < d
        ·rw[KI hdn];refine⟨J1,?_⟩;exact pass _ _ (some_ (.int d) (by rw[df,KI ⟨rfl,decide_eq_true hdn⟩];rfl))
        ·rw[JS hdn];exact pass _ _ (none_ (by rw[df,JS λz=>hdn (of_decide_eq_true z.2)]))
      ·rw[cn hw,JS Ue];exact pass _ _ (none_ (by show(if w2=T4 "keep"/\nA n (dB r n (.five w2 kd si k u))=true then some (cI (dB r n (.five w2 kd si k u))) else none)=none;rw[JS λz=>hw z.1]))
   ·rintro Y ⟨o6,o7,o8,rfl⟩;rw[<-eN,T6,ae];walk_at "d";exact q
def F_b(C:J7):Fa:=λds Q=>∃(r:Rp)(L:List (Str×Pt))(n:Int)(g:Gn),ds=[r.enc C,.tuple (L.map dA),.int n,g.enc]/\gH r/\jr L/\Q (.tuple ((cV r n g L).map bQ))
theorem GX(T:Txt Z mg t):aB P w Z mg base Km 7 t.a_b t.d_b ["paper","rules","day","gone"] (aP Z (F_b t.q0a)):=by
 refine T.F_b.F.okD qE (λds Q h=>?_) (λ_ _ _ _ H O ds Q E hr h=>?_)
 ·obtain⟨r,L,n,g,rfl,_⟩:=h;rfl
 ·obtain⟨r,L,n,g,rfl,hr',hL,q⟩:=h;refine'⟨_,?A,?B⟩
  case A=>
   refine' ak ?C ?D
   case C=>exact(l5 (i:=4) qE.nd rfl KU (pz rfl GQ (df (bW (C:=t.q0a) T.q0g T.q0A (dv 0))) aR b7 KL (λ_ _ _ _=>(aQ (i:=0) GQ.nd rfl KU)) (λ_ _ _ _=>(eF (fP (aH (GR T) hr T.F_Z (aa (dv 1) (aa (dv 0) (aa (dv 2) ai))))))) (λ_ _ _ _=>(dv 0))))
   case' D=>refine' ak ?E ?F
   case E=>exact(jh (i:=5) qE.nd rfl KU (cC ai))
   case' F=>refine' ak ?G ?H
   case G=>
    refine' km U3 rfl (aH (GU T) hr T.F_Y (aa (dv 0) (aa (dv 1) (aa (dv 2) ai)))) ?I (iO (cG aR (cG aR iN))) ?J
    case I=>exact(iF (n:=2) rfl (cF (aQ (i:=6) qE.nd rfl KU) (cF (aQ (i:=7) qE.nd rfl KU) iE)))
    case' J=>refine' ak ?K ?L
    case K=>
     refine' bC ?M ?N bB
     case M=>exact(aM (cQ hr) cS (av aF aG (dv 7) af) aY (aC _))
     case' N=>refine' ak ?O ?P
     case O=>exact(bp (i:=8) qE.nd rfl KU (aH (GN T) hr T.F_X (aa (dv 0) (aa (dv 7) (aa (dv 2) ai)))))
     case' P=>refine' aq ?Q
     case' Q=>refine' bC ?R ?S bB
     case R=>exact(PW.pt (di (aM rD se (dv 8) dF (aC _)) (dG (aM j7 dH (dv 8) (dv 2) (aC _)))))
     case' S=>refine' aq ?T
     case T=>exact(kj (i:=5) (pv 5) (bH (aa (dv 6) (aa (dv 8) ai))))
    case' L=>refine' aq ?U
    case' U=>refine' bC ?V ?W bB
    case V=>exact(PW.pt (di (aM (cQ hr) cS (av aF aG (dv 7) af) aY (aC _)) (dG (sE (dv 4)))))
    case' W=>refine' aq ?X
    case' X=>refine' kj (i:=5) (pv 5) ?Y
    case Y=>exact(bH (aa (dv 6) (aa (av aX bf (dv 4) af) ai)))
   case' H=>refine' aq ?Z
   case Z=>exact(aK (PE.imp (eD ia rfl T.q0h fZ (lh (dw 5) bo)) (bI ie)))
  case B=>
  clear hr T;walk_at "d";refine⟨[T4 "name",T4 "coming",T4 "kind",T4 "makers",T4 "happenings"],_,rfl,_,GS,_,rfl,by rw[T6];have:=hr'.2.2.1;omega,d7 (λm=>g.has n m) (λm=>.str m) (λx hx R S h=>?_) ?_⟩
  ·walk_at "d";exact⟨g,x,n,rfl,by simpa using h⟩
  ·refine⟨r,L,n,rfl,hr',hL,?_⟩;have ok:=vE (r:=r) (n:=n) hL;walk_at "d";have q:Q (.tuple (((fA r n L).flatMap (nE r n g)).map bQ)):=q;generalize hM:fA r n L=M at ok q⊢;obtain⟨acc,a0,al,an,as,ae⟩:=GV (f:=λz:Str×Pt=>jt r n g z.2) M ok.1;generalize hE:dE.mk _ _ _ _=EE;have eN:=congrArg dE.nx hE;simp only at eN;clear hE;refine⟨λi=>qN t.q0a r L n g (iY r n g) (acc i),⟨none,none,none,by rw[a0];rfl⟩,?_,?_⟩
   ·rintro i z Y hz ⟨o6,o7,o8,rfl⟩;rw[Ul]at hz;cases hz':M[i]? with
    |none=>rw[hz']at hz;cases hz
    |some x=>
     rw[hz']at hz;cases hz;have xo:=ok.2 x (UJ hz');have tl:=al i;have none_:=an i x hz';have some_:=as i x hz';obtain⟨nm,pt⟩:=x;simp only[dA];have fin:∀a(o6 o7 o8:Option Sl),acc (i+1)=a->qN t.q0a r L n g (iY r n g) (acc (i+1)) [some (Sl.v (Rp.enc t.q0a r)),some (Sl.v (UC (UR dA L))),some (Sl.v (Uy n)),some (Sl.v g.enc),some (Sl.v (VQ ((iY r n g).map λm=>Ub m))),some (Sl.o a),o6,o7,o8]:=λa o6 o7 o8 e=>⟨o6,o7,o8,by rw[e]⟩;generalize qN t.q0a r L n g (iY r n g) (acc (i+1))=NX at fin⊢;clear eN;cases pt with
     |two w2 kd=>
      have k1:w2≠T4 "gone":=λe=>xo.1 (.inr e);simp only[Pt.enc];generalize hD:gQ (iM 8 _) _=TD;generalize hW:gi (iL _ (iV _)) _ _=TW;walk_at "d";rw[cn k1,JS Ue];clear hD;subst hW;walk_at "d";by_cases hw:w2=T4 "follow"
      ·subst hw;rw[KI (beq_self_eq_true _)];cases hl:iY r n g with
       |nil=>
        rw[hl]at fin;rw[JS KJ];exact fin _ _ _ _ (none_ (by show(if T4 "follow"=T4 "follow" then(iY r n g).head?.map Ub else none)=none;rw[KI rfl,hl];rfl))
       |cons m l=>
        rw[hl]at fin;rw[KI (by rfl)];exact⟨_,cK,J1,fin _ _ _ _ (some_ (.str m) (by show(if T4 "follow"=T4 "follow" then(iY r n g).head?.map Ub else none)=some _;rw[KI rfl,hl];rfl))⟩
      ·rw[cn hw,JS Ue];exact fin _ _ _ _ (none_ (by show(if w2=T4 "follow" then(iY r n g).head?.map Ub else none)=none;rw[JS hw]))
     |five w2 kd si k u=>
      have k1:w2≠T4 "follow":=λe=>by rcases xo.1 with z|z<;>rw[z]at e<;>exact absurd e Kg
      simp only[Pt.enc];generalize hW:gi (iL _ (iV _)) _ _=TW;generalize hE2:dE.mk _ _ _ _=E2;have eN2:E2.nx=NX:=by rw[<-hE2]
      have pass:∀a(o8:Option Sl),acc (i+1)=a->TW E2 [some (Sl.v (Rp.enc t.q0a r)),some (Sl.v (UC (UR dA L))),some (Sl.v (Uy n)),some (Sl.v g.enc),some (Sl.v (VQ ((iY r n g).map λm=>Ub m))),some (Sl.o a),some (Sl.v (Ub nm)),some (Sl.v (UC [Ub w2,Ub kd,si.enc,Uy k,Ub u])),o8]:=λa o8 e=>by
       subst hW;walk_at "d";rw[cn k1,JS Ue,eN2];exact fin _ _ _ _ e
      clear hW hE2;walk_at "d";by_cases hw:w2=T4 "gone"
      ·subst hw;rw[KI (beq_self_eq_true _)];refine⟨r,T4 "gone",kd,si,k,u,n,rfl,xo.2.2.1,xo.2.2.2.2.2,hr',?_⟩;have df:jt r n g (.five (T4 "gone") kd si k u)=if T4 "gone"=T4 "gone"/\nA n (dB r n (.five (T4 "gone") kd si k u))=false then some (cI (dB r n (.five (T4 "gone") kd si k u))) else none:=rfl
       cases hd:dB r n (.five (T4 "gone") kd si k u) with
       |none=>
        rw[hd]at df;simp only[cI,cY];walk_at "d";exact pass _ _ (none_ (by rw[df,JS λz=>Bool.noConfusion (show true=false from z.2)]))
       |some d=>
        rw[hd]at df;simp only[cI,cY];walk_at "d";by_cases hdn:d<=n
        ·rw[KI hdn];refine⟨J1,?_⟩;exact pass _ _ (some_ (.int d) (by rw[df,KI ⟨rfl,decide_eq_false J1⟩];rfl))
        ·rw[JS hdn];exact pass _ _ (none_ (by rw[df,JS λz=>hdn (by have:=of_decide_eq_false z.2;omega)]))
      ·rw[cn hw,JS Ue];exact pass _ _ (none_ (by show(if w2=T4 "gone"/\nA n (dB r n (.five w2 kd si k u))=false then some (cI (dB r n (.five w2 kd si k u))) else none)=none;rw[JS λz=>hw z.1]))
   ·rintro Y ⟨o6,o7,o8,rfl⟩;rw[<-eN,T6,ae];walk_at "d";exact q
def GY(kd:Str):Pt->Bool
 | .two w k=>w==T4 "leave" && k==kd
 |_=>false
def iZ(kd:Str)(L:List (Str×Pt)):List Str:=(L.filter λz=>GY kd z.2).map (·.1)
theorem QC{a b:Str}:(a==b)=decide (a=b):=by
 by_cases h:a=b
 ·simp[h]
 ·rw[cn h,decide_eq_false h]
def QD:Fa:=λds Q=>∃(kd:Str)(L:List (Str×Pt)),ds=[.str kd,.tuple (L.map dA)]/\Uc kd=true/\jr L/\Q (.list ((iZ kd L).map .str))
theorem QE(h:KG w):Uc w=true:=by rcases h with h|h<;>rw[h]<;>decide+kernel
theorem QF(h:pJ w):Uc w=true:=by rcases h with h|h|h<;>rw[h]<;>decide+kernel
theorem cq.lay{s:cq}(h:s.Ok):cm 2 s.enc:=by
 cases s with
 |com=>exact gj (cf (gr Kg) gm)
 |fst wd=>exact gj (cf (gr Kg) (cf (gr h) gm))
 |lst wd=>exact gj (cf (gr Kg) (cf (gr h) gm))
theorem Pt.lay{p:Pt}(h:p.Ok):cm 3 p.enc:=by
 cases p with
 |two w kd=>exact(gj (n:=1) (cf (gr h.2.1) (cf (gr h.2.2) gm))).mono KL
 |five w kd s k u=>exact gj (cf (gr (QE h.1)) (cf (gr h.2.1) (cf (cq.lay h.2.2.1) (cf Em (cf (gr (QF h.2.2.2.2.2)) gm)))))
theorem acj(T:Txt Z mg t):aB P w Z mg base Km 1 t.a_c t.d_c ["kind","rules"] (aP Z QD):=by
 refine T.F_c.F.okD acA (λds Q h=>?_) (λ_ _ _ _ H O ds Q E hr h=>?_)
 ·obtain⟨kd,L,rfl,_⟩:=h;rfl
 ·obtain⟨kd,L,rfl,hk,hL,q⟩:=h;refine'⟨_,?A,?B⟩
  case A=>
   refine' aq ?C
   case' C=>refine' aK ?D
   case' D=>refine' fe ?E
   case E=>exact(kr rfl Bn (df (dv 1)) (iO (cG aR (cG aR iN))) uw KL (λ_ _ _ _=>(iF (n:=2) rfl (cF (aQ (i:=0) Bn.nd rfl KU) (cF (aQ (i:=1) Bn.nd rfl KU) iE)))) (λ_ _ _ _=>(eF (aM (cu hr.units) cv (dv 1) (bH (aa aY (aa (dv 2) ai))) (aC _)))) (λ_ _ _ _=>(dv 0)))
  case B=>
  clear hr T;walk_at "d";refine⟨by rw[T6];have:=hL.1;omega,d7 (λz:Str×Pt=>GY kd z.2) (λz=>.str z.1) (λx hx R S h=>?_) ?_⟩
  ·have xo:=hL.2 x hx;obtain⟨nm,pt⟩:=x;have ly:=(Pt.lay xo).shp KL;have ly2:Wl (UC [Ub (T4 "leave"),Ub kd])=true:=(gj (n:=1) (cf (gr Kg) (cf (gr hk) gm))).shp KL;simp only[dA];cases pt with
   |two w2 kd2=>
    simp only[Pt.enc]at ly⊢;walk_at "d";refine⟨ly,ly2,?_⟩;have e:(UC [Ub w2,Ub kd2]).eqv (UC [Ub (T4 "leave"),Ub kd])=(w2==T4 "leave" && kd2==kd):=by simp[UB,VX,QC]
    rw[e];exact h
   |five w2 kd2 si k u=>
    simp only[Pt.enc]at ly⊢;walk_at "d";refine⟨ly,ly2,?_⟩;rw[JS (by simp[UB,VX])];exact h
  ·unfold iZ at q;rw[Uo]at q;exact q
theorem Bq(g:gG xs)(h:g6 xs n (bG xs n))(hl:(bG xs n).length<=41):jr (bG xs n):=by
 refine⟨hl,λz hz=>?_⟩;obtain⟨d,_,hm,_⟩:=(h.2 z).mp hz;obtain⟨pt,e,ok⟩:=g.ru _ _ _ hm;rw[GB (YX e).1];exact ok
def vF(xs:List De)(n:Int)(c:Pp)(g:Gn):List (Str×J4):=cj (aU xs c) n g (bG xs n)
def vG(xs:List De)(n:Int)(c:Pp)(g:Gn):List (Str×J4):=cV (aU xs c) n g (bG xs n)
def F_d:Fa:=λds Q=>∃(xs:List De)(n:Int)(c:Pp)(g:Gn),ds=[.tuple (xs.map De.enc),.int n,.str c.nm,g.enc]/\gG xs/\c∈aA xs/\(g6 xs n (bG xs n)->(bG xs n).length<=41->gH (aU xs c)->Q (.tuple ((vF xs n c g).map bQ)))
def F_e:Fa:=λds Q=>∃(xs:List De)(n:Int)(c:Pp)(g:Gn),ds=[.tuple (xs.map De.enc),.int n,.str c.nm,g.enc]/\gG xs/\c∈aA xs/\(g6 xs n (bG xs n)->(bG xs n).length<=41->gH (aU xs c)->Q (.tuple ((vG xs n c g).map bQ)))
theorem GZ(T:Txt Z mg t):aB P w Z mg base Km 9 t.a_d t.d_d ["deeds","day","paper","gone"] (aP Z F_d):=by
 refine T.F_d.F.okD Po (λds Q h=>?_) (λ_ _ _ _ H O ds Q E hr h=>?_)
 ·obtain⟨xs,n,c,g,rfl,_⟩:=h;rfl
 ·obtain⟨xs,n,c,g,rfl,gd,hc,q⟩:=h;refine'⟨_,?A,?B⟩
  case A=>
   refine' aq ?C
   case' C=>refine' aK ?D
   case D=>exact(aH (GW T) hr T.F_a (aa (PE.imp (qg T.q0I (vA T) (hr.mono KL) rfl T.q0H T.F_I.b .nil fG (aa (dv 0) (aa (dv 2) ai))) sk) (aa (aH (Bm T) hr T.F_R (aa (dv 0) (aa (dv 1) ai))) (aa (dv 1) (aa (dv 3) ai)))))
  case B=>
  clear hr T;walk_at "d";exact⟨xs,c,rfl,gd,hc,λh1 h2 h3=>⟨xs,n,rfl,gd,λh4 h5=>⟨aU xs c,_,n,g,rfl,qM gd hc h1 h3,Bq gd h4 h5,q h4 h5 (qM gd hc h1 h3)⟩⟩⟩
theorem G0(T:Txt Z mg t):aB P w Z mg base Km 9 t.a_e t.d_e ["deeds","day","paper","gone"] (aP Z F_e):=by
 refine T.F_e.F.okD Pq (λds Q h=>?_) (λ_ _ _ _ H O ds Q E hr h=>?_)
 ·obtain⟨xs,n,c,g,rfl,_⟩:=h;rfl
 ·obtain⟨xs,n,c,g,rfl,gd,hc,q⟩:=h;refine'⟨_,?A,?B⟩
  case A=>
   refine' aq ?C
   case' C=>refine' aK ?D
   case D=>exact(aH (GX T) hr T.F_b (aa (PE.imp (qg T.q0I (vA T) (hr.mono KL) rfl T.q0H T.F_I.b .nil fG (aa (dv 0) (aa (dv 2) ai))) sk) (aa (aH (Bm T) hr T.F_R (aa (dv 0) (aa (dv 1) ai))) (aa (dv 1) (aa (dv 3) ai)))))
  case B=>
  clear hr T;walk_at "d";exact⟨xs,c,rfl,gd,hc,λh1 h2 h3=>⟨xs,n,rfl,gd,λh4 h5=>⟨aU xs c,_,n,g,rfl,qM gd hc h1 h3,Bq gd h4 h5,q h4 h5 (qM gd hc h1 h3)⟩⟩⟩
theorem G1:bu (ar vb) ["ready","parts","days","paper"] ["base","parts"] 1 [1] ⟨Uh,[ (T7 ".0",LG),(T7 "base",LG),(T7 "later",U1),(T7 "parts",Uw)],false,false,[]⟩:= .of
theorem G2:bu (ar sG) ["deeds","ready","days","deed"] ["name","deeds"] 1 [0] ⟨Uh,[ (T7 ".0",LG),(T7 "name",LG),(T7 "Paper",U1),(T7 "deeds",Uw)],false,false,[]⟩:= .of
theorem G3:bu (ar sG) ["deeds","ready","days","deed"] ["deed"] 1 [] ⟨Uh,[(T7 ".0",LG),(T7 "deed",LG)],false,false,[]⟩:= .of
section
def pM(r:Rp):cq->List Int
 | .com=>[r.c.d]
 | .fst wd=>(dN r.hs wd).take 1
 | .lst wd=>dN r.hs wd
theorem G4(s:cq):(pM r s).length<=r.hs.length+1:=by
 have fl:∀wd,(dN r.hs wd).length<=r.hs.length:=λwd=>by
  unfold dN;rw[T6];exact UU _ _
 cases s with
 |com=>show 1<=_;omega
 |fst wd=>show((dN r.hs wd).take 1).length<=_;rw[U6];have:=fl wd;omega
 |lst wd=>have:=fl wd;show(dN r.hs wd).length<=_;omega
theorem G5(xs:List J4):eJ xs none (some 1)=xs.take 1:=by
 cases xs with
 |nil=>rfl
 |cons a l=>rw[wZ KL (by simp;omega)];rfl
def F_f(C:J7):Fa:=λds Q=>∃(s:cq)(r:Rp),ds=[s.enc,r.enc C]/\s.Ok/\sN r.hs/\Q (.list ((pM r s).map .int))
theorem QH(T:Txt Z mg t):aB P w Z mg base Km 2 t.a_f t.d_f ["since","paper"] (aP Z (F_f t.q0a)):=by
 refine T.F_f.F.okD FI (λds Q h=>?_) (λ_ _ _ _ H O ds Q E hr h=>?_)
 ·obtain⟨s,r,rfl,_⟩:=h;rfl
 ·obtain⟨si,r,rfl,hsi,hh,q⟩:=h;refine'⟨_,?A,?B⟩
  case A=>
   refine' ak ?C ?D
   case C=>
    refine' bC ?E ?F bB
    case E=>exact(aM (cQ hr) cS (av aF aG (dv 0) af) aY (aC _))
    case' F=>refine' aq ?G
    case G=>exact(aK (fe (cC (aa (bW (C:=t.q0a) T.q0g T.q0n (dv 1)) ai))))
   case' D=>refine' ak ?H ?I
   case H=>exact(bp (i:=2) FI.nd rfl KU (aH (Gv T) hr T.F_V (aa (dv 1) (aa (av aF aG (dv 0) af) ai))))
   case' I=>refine' aq ?J
   case' J=>refine' aK ?K
   case K=>exact(rN (aM (cQ hr) cS (av aF aG (dv 0) af) aY (aC _)) (fe (jj (df (dv 2)) kz (dj af))) (dv 2))
  case B=>
  clear hr T;cases si with
  |com=>
   simp only[cq.enc];walk_at "d";exact⟨[T4 "name",T4 "coming",T4 "kind",T4 "makers",T4 "happenings"],_,rfl,_,vB,q⟩
  |fst wd=>
   simp only[cq.enc];walk_at "d";rw[cn (show T4 "first"≠T4 "coming" by decide+kernel),JS Ue];refine⟨r,wd,rfl,hh,hsi,_,rfl,?_⟩;rw[G5,<-Yr];exact q
  |lst wd=>
   simp only[cq.enc];walk_at "d";rw[cn (show T4 "last"≠T4 "coming" by decide+kernel),JS Ue];refine⟨r,wd,rfl,hh,hsi,?_⟩;show if (T4 "last"==T4 "first")=true then _ else _
   rw[cn (show T4 "last"≠T4 "first" by decide+kernel),JS Ue];exact q
def ix(rs:List Rp)(kd:Str)(s:cq)(k:Int)(u:Str):List Int:=rs.flatMap λr=>if (r.c.kd==kd)=true then(pM r s).map λb=>iw b k u else []
theorem QI(h:∀r∈rs,r.hs.length<=m)(kd:Str)(s:cq)(k:Int)(u:Str):(ix rs kd s k u).length<=(m+1)*rs.length:=by
 unfold ix
 induction rs with
 |nil=>simp
 |cons r rs ih=>
  have ih:=ih λx hx=>h x (by simp[hx]);have hb:=G4 (r:=r) s;have h1:=h r KJ;rw[Wv,Ux,Uk,Tu];split
  ·rw[T6];omega
  ·simp only[U8];omega
def QJ(C:J7):Fa:=λds Q=>∃(rs:List Rp)(w kd:Str)(s:cq)(k:Int)(u:Str),ds=[.list (rs.map (Rp.enc C)),(Pt.five w kd s k u).enc]/\(Pt.five w kd s k u).Ok/\rs.length<=41/\(∀r∈rs,sN r.hs/\Uc r.c.kd=true)/\Q (.list ((ix rs kd s k u).map .int))
theorem acd(T:Txt Z mg t):aB P w Z mg base Km 6 t.a_g t.d_g ["ready","parts"] (aP Z (QJ t.q0a)):=by
 refine T.F_g.F.okD A2 (λds Q h=>?_) (λ_ _ _ _ H O ds Q E hr h=>?_)
 ·obtain⟨rs,w,kd,s,k,u,rfl,_⟩:=h;rfl
 ·obtain⟨rs,wo,kd,si,k,u,rfl,ok,rl,hr',q⟩:=h;refine'⟨_,?A,?B⟩
  case A=>
   refine' ak ?C ?D
   case C=>exact(jh (i:=2) A2.nd rfl KU (cC ai))
   case' D=>refine' ak ?E ?F
   case E=>
    refine' km U3 rfl (dv 0) ?G aR ?H
    case G=>exact(aQ (i:=3) A2.nd rfl KU)
    case' H=>refine' aq ?I
    case' I=>refine' bC ?J ?K bB
    case J=>exact(aM (cu hr.units) cv (bW (C:=t.q0a) T.q0g T.q0o (dv 3)) (av aF aG (dv 1) af) (aC _))
    case' K=>refine' aq ?L
    case L=>exact(uo (i:=2) (pv 2) (fq rfl G1 (df (aH (QH T) hr T.F_f (aa (av aF aG (dv 1) af) (aa (dv 3) ai)))) aR b7 KL (λ_ _ _ _=>(aQ (i:=0) G1.nd rfl KU)) (λ_ _ _ _=>ft) (λ_ _ _ _=>(aH (F8 T) hr T.F_H (aa (dv 0) (aa (av aF aG (dv 1) af) (aa (av aF aG (dv 1) af) ai)))))))
   case' F=>refine' aq ?M
   case M=>exact(rO (pv 2))
  case B=>
  clear hr T;walk_at "d";refine⟨λi Y=>∃o3,Y=[some (Sl.v (.list (rs.map (Rp.enc t.q0a)))),some (Sl.v (Pt.five wo kd si k u).enc),some (Sl.o ((ix (rs.take i) kd si k u).map .int)),o3],⟨_,rfl⟩,?_,?_⟩
  ·rintro i z Y hz ⟨o3,rfl⟩;rw[Ul]at hz;cases hz':rs[i]? with
   |none=>rw[hz']at hz;cases hz
   |some r=>
    rw[hz']at hz;cases hz;obtain⟨h1,h2⟩:=hr' r (UJ hz');have bl:=G4 (r:=r) si;have h11:=h1.1;have il:(rs.take i).length<=41:=by rw[U6];omega
    have rk:=QI (m:=41) (rs:=rs.take i) (λx hx=>(hr' x (Ws hx)).1.1) kd si k u;have rk2:(41+1)*(rs.take i).length<=42*41:=ZQ _ il;simp only[Pt.enc];walk_at "d";refine⟨[T4 "name",T4 "coming",T4 "kind",T4 "makers",T4 "happenings"],_,rfl,_,vC,cU.mpr h2,cU.mpr ok.2.1,?_⟩;rw[fu];have ts:ix (rs.take (i+1)) kd si k u=ix (rs.take i) kd si k u++if (r.c.kd==kd)=true then(pM r si).map λb=>iw b k u else []:=by
     unfold ix;rw[UZ,hz',Wi];simp
    split
    ·rename_i hk;rw[KI hk]at ts;refine⟨si,r,rfl,ok.2.2.1,h1,_,rfl,by rw[T6];omega,jU (λ_=>true) (λb=>.int (iw b k u)) (λb hb R S z1 _=>?_) ?_⟩
     ·walk_at "d";exact⟨b,k,u,rfl,ok.2.2.2.2.2,λx hx=>by rw[GL hx];exact z1 rfl⟩
     ·rw[iu];refine⟨by rw[T6,T6];omega,?_,_,rfl⟩;rw[ts,UA,Uo];rfl
    ·rename_i hk;rw[JS hk,UX]at ts;rw[ts];exact⟨rfl,_,rfl⟩
  ·rintro Y ⟨o3,rfl⟩;walk_at "d";rw[T6,UL (T8 _)];exact q
def dO(xs:List De):List Rp:=(bK (aA xs)).map (aU xs)
def pN(x:De)(p:Str×cq×Int×Str):Prop:=∃d nm w,x= .oth (T4 "rule") d nm [(Pt.five w p.1 p.2.1 p.2.2.1 p.2.2.2).enc]
theorem pN.uniq(h:pN x p)(h':pN x q):p=q:=by
 obtain⟨d,nm,w,e⟩:=h;obtain⟨d',nm',w',e'⟩:=h';rw[e]at e';obtain⟨kd,s,k,u⟩:=p;obtain⟨kd',s',k',u'⟩:=q;simp only[De.oth.injEq,Pt.enc,U2,Vx,VB,Vq,and_true,true_and]at e';obtain⟨_,_,_,h1,h2,h3,h4⟩:=e';rw[h1,GA h2,h3,h4]
open Classical in
def cL(xs:List De)(x:De):List Int:=if h:∃p,pN x p then ix (dO xs) h.choose.1 h.choose.2.1 h.choose.2.2.1 h.choose.2.2.2 else []
theorem acs(h:pN x p):cL xs x=ix (dO xs) p.1 p.2.1 p.2.2.1 p.2.2.2:=by
 have e:∃p,pN x p:=⟨p,h⟩;unfold cL;rw[dif_pos e,h.uniq e.choose_spec]
theorem G6(h:∀p,¬pN x p):cL xs x=[]:=by
 unfold cL;rw[dif_neg λuu=>by obtain⟨p,z⟩:=uu;exact h p z]
theorem vH(xs:List De)(d:Int)(nm w2 kd:Str)(s:cq)(k:Int)(u:Str):cL xs (.oth (T4 "rule") d nm [(Pt.five w2 kd s k u).enc])=ix (dO xs) kd s k u:=acs (p:=(kd,s,k,u)) ⟨d,nm,w2,rfl⟩
theorem Br(xs:List De)(d:Int)(nm wo w2 kd:Str):cL xs (.oth wo d nm [(Pt.two w2 kd).enc])=[]:=G6 λp uu=>by obtain⟨_,_,_,e⟩:=uu;simp[Pt.enc]at e
theorem vI{x:De}(h:x.isR=false):cL xs x=[]:=G6 λp uu=>by obtain⟨_,_,_,e⟩:=uu;rw[e]at h;simp[De.isR]at h
def gI(xs:List De):List Int:=xs.map De.d++xs.flatMap (cL xs)
def i3(xs:List De)(ns:List Int):Prop:=(∀z,z∈ns↔z∈gI xs)/\ns.Pairwise (· < ·)
theorem QM{l m:List Int}(h1:l.Pairwise (· < ·))(h2:m.Pairwise (· < ·))(h:∀z,z∈l↔z∈m):l=m:=
 kH (λa b z=>by omega) ((XZ (h1.imp λz e=>by omega) (h2.imp λz e=>by omega)).mpr h) h1 h2
open Classical in
def bh(xs:List De):List Int:=if h:∃ns,i3 xs ns then h.choose else []
theorem vJ(h:i3 xs ns):ns=bh xs:=by
 unfold bh;have e:∃ns,i3 xs ns:=⟨ns,h⟩;rw[dif_pos e];exact QM h.2 e.choose_spec.2 λz=>(h.1 z).trans (e.choose_spec.1 z).symm
structure ju (xs:List De):Prop where
 ln:(gI xs).length < 4000
 fw:∃L:List Int,L.length < 64/\∀z∈gI xs,z∈L
theorem G7{l L:List Int}(nd:l.Nodup)(hm:∀z∈l,z∈L):l.length<=L.length:=by
 induction l generalizing L with
 |nil=>simp
 |cons a l ih=>
  rw[Vz]at nd;obtain⟨p,q,e⟩:=XD (hm a KJ);have:=ih (L:=p++q) nd.2 λb hb=>by
   have hb':=hm b (by simp[hb]);rw[e]at hb';rcases Um.mp hb' with z|z
   ·exact WN _ z
   ·rcases Ud.mp z with z|z
    ·exact absurd (by rw[<-z];exact hb) nd.1
    ·exact U7 _ z
  rw[e,Ux,Uk,Uk];rw[Ux]at this;omega
theorem ab7(g:gG xs)(h:∀c∈aA xs,gH (aU xs c)):∀r∈dO xs,sN r.hs/\Uc r.c.kd=true:=λr hr=>by
 obtain⟨c,hc,rfl⟩:=Ug.mp hr;have hc:=gE.mp hc;exact⟨(h c hc).1,g.gx.gp.kd c hc⟩
theorem QO{xs:List De}(h:xs[i]?=some x):(xs.map De.d++(xs.take (i+1)).flatMap (cL xs))=(xs.map De.d++(xs.take i).flatMap (cL xs))++cL xs x:=by
 rw[UZ,h,Wi,<-Vi];simp
def aca:Fa:=λds Q=>∃xs:List De,ds=[.tuple (xs.map De.enc)]/\gG xs/\((∀c∈aA xs,gH (aU xs c))->ju xs)/\(i3 xs (bh xs)->(bh xs).length < 64->Q (.tuple ((bh xs).map .int)))
theorem Bs(T:Txt Z mg t):aB P w Z mg base Km 9 t.a_h t.d_h ["deeds"] (aP Z aca):=by
 refine T.F_h.F.okD vt (λds Q h=>?_) (λ_ _ _ _ H O ds Q E hr h=>?_)
 ·obtain⟨xs,rfl,_⟩:=h;rfl
 ·obtain⟨xs,rfl,gd,few,q⟩:=h;refine'⟨_,?A,?B⟩
  case A=>
   refine' ak ?C ?D
   case C=>exact(l5 (i:=1) vt.nd rfl KU (pz rfl G2 (df (aH (Bi T) hr T.F_M (aa (dv 0) ai))) aR b7 KL (λ_ _ _ _=>(aQ (i:=0) G2.nd rfl KU)) (λ_ _ _ _=>ft) (λ_ _ _ _=>(PE.imp (qg T.q0I (vA T) (hr.mono KL) rfl T.q0H T.F_I.b .nil fG (aa (dv 1) (aa (dv 0) ai))) sk))))
   case' D=>refine' ak ?E ?F
   case E=>exact(E7 (i:=2) vt.nd rfl KU (pz rfl G3 (df (dv 0)) aR b7 KL (λ_ _ _ _=>(aQ (i:=0) G3.nd rfl KU)) (λ_ _ _ _=>ft) (λ_ _ _ _=>(av aF aG (dv 0) af))))
   case' F=>refine' ak ?G ?H
   case G=>
    refine' nS U3 rfl (dv 0) ?I aR ?J
    case I=>exact(aQ (i:=3) vt.nd rfl KU)
    case' J=>refine' aq ?K
    case' K=>refine' bC ?L ?M bB
    case L=>exact(PW.pt (di (aM (cQ hr) cS (av aF aG (dv 3) af) aY (aC _)) (dG (aM (qt hr) qu (av aF aG (av aF aG (dv 3) af) af) (bH (aa aY (aa aY ai))) rfl))))
    case' M=>refine' aq ?N
    case N=>exact(y9 (i:=2) (pv 2) (aH (acd T) hr T.F_g (aa (dv 1) (aa (av aF aG (dv 3) af) ai))))
   case' H=>refine' aq ?O
   case O=>exact(aK (PE.imp (eD ia rfl T.q0h fZ (bD (fe (Oh rfl rfl T.q0k V7 rfl T.q04 (lh (dw 2) bo))) bo)) (bI ie)))
  case B=>
  clear hr T;walk_at "d";have ln:=gd.gx.ln;have ol:=jT (ps:=aA xs);have pl:=gd.gx.gp.ln;refine⟨xs,rfl,gd.gx,_,rfl,by rw[T6,T6];omega,?_⟩;refine⟨λi acc=>acc=((bK (aA xs)).take i).map (λc=>(aU xs c).enc t.q0a)/\∀c∈(bK (aA xs)).take i,gH (aU xs c),⟨rfl,KJ⟩,?_,?_⟩
  ·rintro i z acc hz ⟨rfl,hh⟩;rw[Ul,Ul]at hz;cases hz':(bK (aA xs))[i]? with
   |none=>rw[hz']at hz;cases hz
   |some c=>
    rw[hz']at hz;cases hz;walk_at "d";have hc:=gE.mp (UJ hz');refine⟨xs,c,rfl,gd,hc,λh1 h2 h3=>⟨?_,λc' hc'=>?_⟩⟩
    ·rw[UZ,hz',UA];rfl
    ·rw[UZ,hz']at hc';rcases Um.mp hc' with y|y
     ·exact hh c' y
     ·have y:c'=c:=by simpa using y
      rw[y];exact qM gd hc h1 h3
  ·rintro acc ⟨rfl,hh⟩;simp only[T6,oj]at hh⊢;have hh:∀c∈aA xs,gH (aU xs c):=λc hc=>hh c (gE.mpr hc);obtain⟨f1,L,f2,f3⟩:=few hh;have hok:=ab7 gd hh;have re:(bK (aA xs)).map (λc=>(aU xs c).enc t.q0a)=(dO xs).map (Rp.enc t.q0a):=by unfold dO;rw[Uo];rfl
   have rl:(dO xs).length<=41:=by unfold dO;rw[T6];omega
   rw[re];refine⟨J1,jU (λ_=>true) (λx:De=>.int x.d) (λx hx R S h1 _=>?_) ?_⟩
   ·cases x<;>simp only[De.enc,Pp.enc]<;>walk_at "d"<;>exact h1 rfl
   ·rw[iu];have bnd:∀i,(xs.map De.d++(xs.take i).flatMap (cL xs)).length<=(gI xs).length:=λi=>by
     unfold gI;rw[Ux,Ux];have:((xs.take i).flatMap (cL xs)).length<=(xs.flatMap (cL xs)).length:=by
      have e:xs.flatMap (cL xs)=(xs.take i).flatMap (cL xs)++(xs.drop i).flatMap (cL xs):=by rw[<-Wi,XS]
      rw[e,Ux];omega
     omega
    refine⟨λi Y=>∃(o3:Option Sl),Y=[some (Sl.v (.tuple (xs.map De.enc))),some (Sl.v (.list ((dO xs).map (Rp.enc t.q0a)))),some (Sl.o ((xs.map De.d++(xs.take i).flatMap (cL xs)).map .int)),o3],⟨none,KJ⟩,?_,?_⟩
    ·rintro i z Y hz ⟨o3,rfl⟩;rw[Ul]at hz;cases hz':xs[i]? with
     |none=>rw[hz']at hz;cases hz
     |some x=>
      rw[hz']at hz;cases hz;have hx:=UJ hz';have ts:=QO hz';have bd:=bnd i;have bd2:=bnd (i+1);rw[ts]at bd2;simp only[ts];generalize xs.map De.d++(xs.take i).flatMap (cL xs)=L0 at bd bd2⊢;cases x with
      |pap p=>
       simp only[De.enc,Pp.enc];walk_at "d";exact⟨by rw[vI rfl,UX],_,rfl⟩
      |oth wo d nm r=>
       simp only[De.enc];walk_at "d";by_cases hw:wo=T4 "rule"
       ·subst hw;obtain⟨pt,rfl,ok⟩:=gd.ru _ _ _ hx;rw[KI (beq_self_eq_true _)];cases pt with
        |two w2 kd=>
         refine⟨_,gS,_,rfl,_,cK,rfl,?_⟩;rw[fu,fu,cn (λe=>ok.1 (.inl e.symm)),cn (λe=>ok.1 (.inr e.symm)),JS KL];exact⟨by rw[Br,UX],_,rfl⟩
        |five w2 kd s k u=>
         refine⟨_,gS,_,rfl,_,cK,rfl,?_⟩;have hk:((Ub (T4 "keep")).eqv (Ub w2) || (Ub (T4 "gone")).eqv (Ub w2))=true:=by
          rw[fu,fu];rcases ok.1 with e|e<;>rw[e]<;>decide+kernel
         rw[KI hk];rw[vH]at bd2⊢;rw[Ux]at bd2;exact⟨_,gS,dO xs,w2,kd,s,k,u,rfl,ok,rl,hok,_,rfl,by rw[T6,T6];omega,by rw[UA],_,rfl⟩
       ·rw[JS (by simpa using hw)];have:cL xs (.oth wo d nm r)=[]:=vI (cn hw);rw[this,UX];exact⟨rfl,_,rfl⟩
    ·rintro Y ⟨o3,rfl⟩;rw[T6,UL (T8 _)];have tl:xs.map De.d++xs.flatMap (cL xs)=gI xs:=rfl;rw[tl];walk_at "d";refine⟨gI xs,rfl,f1,?_,λns h1 h2=>?_⟩
     ·refine Yh (G7 (xW .nil) λz hz=>?_) f2;rw[xV]at hz;rcases hz with y|y
      ·cases y
      ·exact f3 z y
     ·have it:i3 xs ns:=⟨h1,h2⟩;have e:=vJ it;have lt:ns.length < 64:=Yh (G7 (h2.imp λz e=>by omega) λz hz=>f3 z ((h1 z).mp hz)) f2;rw[e]at it lt⊢;exact q it lt
end
theorem G8:bu (ar uW) ["deeds","day"] ["deed"] 1 [] ⟨Uh,[(T7 ".0",LG),(T7 "deed",LG)],false,false,[]⟩:= .of
theorem G9:bu (ar uX) ["holds","line","names","hold","target","deep","reached"] ["coming","target"] 1 [4] ⟨Uh,[ (T7 ".0",LG),(T7 "coming",LG),(T7 "is_told",U1),(T7 "target",Uw)],false,false,[]⟩:= .of
section
def Ha(a b:Rw):Prop:=eM a.nm b.nm=true/\a.nm≠b.nm
def Uq(ws:List Str)(n:Int)(xs:List Rw):Prop:=∀x∈xs,∀y∈xs,gA ws n x->gA ws n y->x.nm=y.nm->x.n=y.n->x=y
theorem vK(h:fS ws n xs res):res.Pairwise Ha:=by
 have up:=h.up;have nd:=h.nd;rw[Vk]at up;rw[YD,Vk]at nd;exact up.and nd
theorem Hb(u:Uq ws n xs)(h1:fS ws n xs r1)(h2:fS ws n xs r2)(x:Rw)(hx:x∈r1):x∈r2:=by
 obtain⟨a1,a2,a3⟩:=h1.it x hx;obtain⟨y,hy,yn⟩:=h2.al x a1 a2;obtain⟨b1,b2,b3⟩:=h2.it y hy;have e:x=y:=u x a1 y b1 a2 b2 yn.symm (pj (b3 x a1 a2 yn.symm) (a3 y b1 b2 yn));rw[e];exact hy
theorem QQ(u:Uq ws n xs)(h1:fS ws n xs r1)(h2:fS ws n xs r2):r1=r2:=
 kH (r:=Ha) (λa b h z=>h.2 (xF h.1 z.1)) ((XZ ((vK h1).imp λz e=>z.2 (by rw[e])) ((vK h2).imp λz e=>z.2 (by rw[e]))).mpr λx=>⟨Hb u h1 h2 x,Hb u h2 h1 x⟩) (vK h1) (vK h2)
open Classical in
def vL(ws:List Str)(n:Int)(xs:List Rw):List Rw:=if h:∃r,fS ws n xs r then h.choose else []
theorem Bt(u:Uq ws n xs)(h:fS ws n xs r):r=vL ws n xs:=by
 unfold vL;have e:∃r,fS ws n xs r:=⟨r,h⟩;rw[dif_pos e];exact QQ u h e.choose_spec
def g8(ip:Bool)(tn:Str):J4:= .tuple [.str (if ip=true then T4 "paper" else T4 "kind"),.str tn]
structure Hd where
 nm:Str
 ip:Bool
 tn:Str
 dp:Bool
def Hd.enc(h:Hd):J4:= .tuple [.str h.nm,g8 h.ip h.tn,.bool h.dp]
def De.isL:De->Bool
 | .oth w _ _ _=>w==T4 "hold" || w==T4 "lift"
 |_=>false
structure aW (xs:List De):Prop where
 gd:gG xs
 ho:∀d nm r,De.oth (T4 "hold") d nm r∈xs->∃(ip:Bool)(tn:Str)(dp:Bool),r=[g8 ip tn,.bool dp]/\Uc tn=true
 le:∀d nm r,De.oth (T4 "leave") d nm r∈xs->∃kd,r=[.str kd]/\Uc kd=true
 rh:∀x∈xs,∀y∈xs,x.isL=true->y.isL=true->x.d=y.d->x.nm=y.nm->x=y
 lv:∀x∈xs,∀y∈xs,x.w=T4 "leave"->y.w=T4 "leave"->x.nm=y.nm->x=y
def kK:List Str:=["hold","lift"]
def sQ:List J4->Bool×Str×Bool
 | [.tuple [.str a,.str b],.bool c]=>(a==T4 "paper",b,c)
 |_=>(false,T4 "",false)
def sR(x:Rw):Hd:=⟨x.nm,(sQ x.r).1,(sQ x.r).2.1,(sQ x.r).2.2⟩
theorem Hc{x:Rw}(h:x.r=[g8 ip tn,.bool dp]):sR x=⟨x.nm,ip,tn,dp⟩:=by
 unfold sR;rw[h];cases ip with
 |true=>simp[g8,sQ]
 |false=>simp[g8,sQ,cn (show T4 "kind"≠T4 "paper" by decide+kernel)]
def qO(res:List Rw):List Hd:=(res.filter λx=>x.w==T4 "hold").map sR
def qP(xs:List De)(n:Int):List Hd:=qO (vL kK n (xs.map De.rw))
theorem He(h:w∈kK):w=T4 "hold"\/w=T4 "lift":=by
 unfold kK at h;rcases Ud.mp h with e|h
 ·exact .inl e
 ·rcases Ud.mp h with e|h
  ·exact .inr e
  ·cases h
theorem Bu(g:aW xs):Uq kK n (xs.map De.rw):=by
 intro x hx y hy ox oy e1 e2;obtain⟨a,ha,rfl⟩:=Ug.mp hx;obtain⟨b,hb,rfl⟩:=Ug.mp hy;have il:∀z:De,z.rw.w∈kK->z.isL=true/\z.rw.nm=z.nm/\z.rw.n=z.d:=λz hz=>by
  cases z with
  |pap p=>exact absurd (He hz) (by show ¬(T4 "paper"=_\/T4 "paper"=_);decide+kernel)
  |oth w d nm r=>
   refine⟨?_,rfl,rfl⟩;have hz:w∈kK:=hz;rcases He hz with e|e<;>simp[De.isL,e]
 obtain⟨a1,a2,a3⟩:=il a ox.1;obtain⟨b1,b2,b3⟩:=il b oy.1;rw[g.rh a ha b hb a1 b1 (by rw[<-a3,<-b3];exact e2) (by rw[<-a2,<-b2];exact e1)]
def sS(hs:List Hd):Prop:=hs.length<=41/\∀h∈hs,Uc h.tn=true
def acb:Fa:=λds Q=>∃(xs:List De)(n:Int),ds=[.tuple (xs.map De.enc),.int n]/\aW xs/\(sS (qP xs n)->Q (.tuple ((qP xs n).map Hd.enc)))
theorem ab1(T:Txt Z mg t):aB P w Z mg base Km 2 t.a_S t.d_S ["deeds","day"] (aP Z acb):=by
 refine T.F_S.F.okD Ph (λds Q h=>?_) (λ_ _ _ _ H O ds Q E hr h=>?_)
 ·obtain⟨xs,n,rfl,_⟩:=h;rfl
 ·obtain⟨xs,n,rfl,g,q⟩:=h;refine'⟨_,?A,?B⟩
  case A=>
   refine' aq ?C
   case' C=>generalize hG2:Xy _ _ _ _=eg2
   refine' aK ?D
   case' D=>subst hG2
   exact(PE.imp (eD ia rfl T.q0h fZ (bD (fe (fq rfl G8 (df (aH (Gx T) hr T.F_Q (aa (dv 0) (aa (bH (aa aY (aa aY ai))) (aa (dv 1) ai))))) aR b7 KL (λ_ _ _ _=>(aQ (i:=0) G8.nd rfl KU)) (λ_ _ _ _=>(eF (aM (cQ hr) cS (av aF aG (dv 0) af) aY (aC _)))) (λ_ _ _ _=>(bH (aa (av aF aG (dv 0) af) (aa (av aF aG (dv 0) af) (aa (av aF aG (dv 0) af) ai))))))) bo)) (bI ie))
  case B=>
  clear hr T;have ok:=GJ g.gd (λw d nm r h=>g.gd.gx.w _ h);walk_at "d";refine⟨xs.map De.rw,kK,n,by rw[GF];rfl,ok.st,Kg,ok.le,λres hres=>⟨_,rfl,?_,?_⟩⟩
  ·rw[T6];have:=hres.le;have:=ok.le;omega
  have fm:∀x∈res,x.w=T4 "hold"->∃(ip:Bool)(tn:Str)(dp:Bool),x.r=[g8 ip tn,.bool dp]/\Uc tn=true:=λx hx hw=>by
   obtain⟨h1,_,_⟩:=hres.it x hx;obtain⟨y,hy,rfl⟩:=Ug.mp h1;cases y with
   |pap p=>exact absurd hw (by show T4 "paper"≠_;decide+kernel)
   |oth w d nm r=>
    have hw:w=T4 "hold":=hw;subst hw;exact g.ho _ _ _ hy
  have e:=Bt (Bu g) hres;have q:sS (qO res)->Q (.tuple ((qO res).map Hd.enc)):=by rw[e];exact q
  refine d7 (enc:=Rw.enc) (λx=>x.w==T4 "hold") (λx=>(sR x).enc) (λx hx R S h=>?_) ?_
  ·simp only[Rw.enc];walk_at "d";by_cases hr:(x.w==T4 "hold")=true
   ·rw[KI hr]at h⊢;obtain⟨ip,tn,dp,hp,_⟩:=fm x hx (eq_of_beq hr);rw[Hc hp]at h;rw[hp];exact⟨_,gS,_,lX,h⟩
   ·rw[JS hr]at h⊢;exact h
  ·have e2:(W5 (λx=>x.w==T4 "hold") res).map (λx=>(sR x).enc)=(qO res).map Hd.enc:=by unfold qO;rw[Uo];rfl
   rw[e2];refine q ⟨?_,λh hh=>?_⟩
   ·unfold qO;rw[T6];have h1:=UU (λx:Rw=>x.w==T4 "hold") res;have h2:=hres.le;rw[T6]at h2;have:=g.gd.gx.ln;omega
   ·obtain⟨x,hx,rfl⟩:=Ug.mp hh;obtain⟨hx1,hx2⟩:=Uv.mp hx;obtain⟨ip,tn,dp,hp,hk⟩:=fm x hx1 (eq_of_beq hx2);rw[Hc hp];exact hk
def told(ip:Bool)(tn:Str)(c:Pp):Bool:=tn==if ip=true then c.nm else c.kd
def Hf:Fa:=λds Q=>∃(ip:Bool)(tn:Str)(c:Pp),ds=[g8 ip tn,c.enc]/\Uc tn=true/\Uc c.nm=true/\Uc c.kd=true/\Q (.bool (told ip tn c))
theorem QT(T:Txt Z mg t):aB P w Z mg base Km 1 t.a_T t.d_T ["target","coming"] (aP Z Hf):=by
 refine T.F_T.F.okD acy (λds Q h=>?_) (λ_ _ _ _ H O ds Q E hr h=>?_)
 ·obtain⟨ip,tn,c,rfl,_⟩:=h;rfl
 ·obtain⟨ip,tn,c,rfl,h1,h2,h3,q⟩:=h;refine'⟨_,?A,?B⟩
  case A=>
   refine' aq ?C
   case' C=>refine' aK ?D
   case D=>exact(cX (cu hr.units) cv (df (av aF aG (dv 0) af)) (df (rN (aM (cQ hr) cS (av aF aG (dv 0) af) aY (aC _)) (av aF aG (dv 1) af) (av aF aG (dv 1) af))) (aC _))
  case B=>
  clear hr T;simp only[g8,Pp.enc];unfold told at q;cases ip with
  |true=>
   walk_at "d";exact⟨cU.mpr h1,cU.mpr h2,q⟩
  |false=>
   walk_at "d";rw[JS (show ¬(T4 "kind"==T4 "paper")=true by decide+kernel)];exact⟨cU.mpr h1,cU.mpr h3,q⟩
def sT(line:List Pp)(h:Hd):Bool:=(if h.dp=true then line else line.take 1).any (told h.ip h.tn)
def iy(hs:List Hd)(line:List Pp):List Str:=(hs.filter (sT line)).map (·.nm)
def vM(line:List Pp):Prop:=line.length<=41/\∀c∈line,Uc c.nm=true/\Uc c.kd=true
def F_U:Fa:=λds Q=>∃(hs:List Hd)(line:List Pp),ds=[.tuple (hs.map Hd.enc),.list (line.map Pp.enc)]/\sS hs/\vM line/\Q (.tuple ((iy hs line).map .str))
theorem acJ(T:Txt Z mg t):aB P w Z mg base Km 2 t.a_U t.d_U ["holds","line"] (aP Z F_U):=by
 refine T.F_U.F.okD qC (λds Q h=>?_) (λ_ _ _ _ H O ds Q E hr h=>?_)
 ·obtain⟨hs,line,rfl,_⟩:=h;rfl
 ·obtain⟨hs,line,rfl,ho,lo,q⟩:=h;refine'⟨_,?A,?B⟩
  case A=>
   refine' ak ?C ?D
   case C=>exact(jh (i:=2) qC.nd rfl KU (cC ai))
   case' D=>refine' ak ?E ?F
   case E=>
    refine' nS U3 rfl (dv 0) ?G (iO (cG aR (cG aR (cG aR iN)))) ?H
    case G=>exact(iF (n:=3) rfl (cF (aQ (i:=3) qC.nd rfl KU) (cF (aQ (i:=4) qC.nd rfl KU) (cF (aQ (i:=5) qC.nd rfl KU) iE))))
    case' H=>refine' ak ?I ?J
    case I=>exact(bp (i:=6) qC.nd rfl KU (rN (fP (dv 5)) (dv 1) (fe (jj (df (dv 1)) kz (dj af)))))
    case' J=>refine' aq ?K
    case' K=>refine' bC ?L ?M bB
    case L=>exact(fP (PE.imp (bY (DC rfl) rfl T.q0O DD (bD (fe (fq rfl G9 (df (dv 6)) aR b7 KL (λ_ _ _ _=>(aQ (i:=0) G9.nd rfl KU)) (λ_ _ _ _=>ft) (λ_ _ _ _=>(aH (QT T) hr T.F_T (aa (dv 1) (aa (dv 0) ai)))))) bo)) (bI wY)))
    case' M=>refine' aq ?N
    case N=>exact(kj (i:=2) (pv 2) (dv 3))
   case' F=>refine' aq ?O
   case O=>exact(aK (PE.imp (eD ia rfl T.q0h fZ (lh (dw 2) bo)) (bI ie)))
  case B=>
  clear hr T;have h41:=ho.1;have l41:=lo.1;walk_at "d";refine⟨λi Y=>∃o3 o4 o5 o6,Y=[some (Sl.v (.tuple (hs.map Hd.enc))),some (Sl.v (.list (line.map Pp.enc))),some (Sl.o ((iy (hs.take i) line).map .str)),o3,o4,o5,o6],⟨_,_,_,_,rfl⟩,?_,?_⟩
  ·rintro i z Y hz ⟨o3,o4,o5,o6,rfl⟩;rw[Ul]at hz;cases hz':hs[i]? with
   |none=>rw[hz']at hz;cases hz
   |some h=>
    rw[hz']at hz;cases hz;have hk:=ho.2 h (UJ hz');have ts:iy (hs.take (i+1)) line=iy (hs.take i) line++if sT line h=true then [h.nm] else []:=by
     unfold iy;rw[UZ,hz',W9,UA];congr 1;by_cases e:sT line h=true
     ·simp[e]
     ·simp[e]
    have ll:(iy (hs.take i) line).length<=41:=by
     unfold iy;rw[T6];have:=UU (sT line) (hs.take i);rw[U6]at this;omega
    have key:∀(l2:List Pp)(R:List J4->Prop),(∀c∈l2,c∈line)->R ((l2.map (told h.ip h.tn)).map .bool)->ji (jK 0) iQ (ib Hf (iK (cJ 1) (iK (cJ 0) iJ))) [none,some (Sl.v (g8 h.ip h.tn))] (l2.map Pp.enc) R:=λl2 R hl hR=>by
     refine jU (λ_=>true) (λc=>.bool (told h.ip h.tn c)) (λc hc R S h1 _=>?_) (by rw[iu];rw[Uo]at hR;exact hR);walk_at "d";exact⟨h.ip,h.tn,c,rfl,hk,(lo.2 c (hl c hc)).1,(lo.2 c (hl c hc)).2,h1 rfl⟩
    simp only[Hd.enc];simp only[ts];have ec:sT line h=(if h.dp=true then line else line.take 1).any (told h.ip h.tn):=rfl;rw[ec];generalize iy (hs.take i) line=A0 at ll;have fin:∀(l2:List Pp)(x:Option Sl),if (l2.map (told h.ip h.tn)).any id=true then(A0.map Ub).length < 16777216/\A0.map Ub++[Ub h.nm]=(A0++if l2.any (told h.ip h.tn)=true then [h.nm] else []).map Ub/\∃y,x=y else A0.map Ub=(A0++if l2.any (told h.ip h.tn)=true then [h.nm] else []).map Ub/\∃y,x=y:=λl2 x=>by
     rw[Yc];show if l2.any (told h.ip h.tn)=true then _ else _
     split
     ·exact⟨by rw[T6];omega,KJ,_,rfl⟩
     ·exact⟨KJ,_,rfl⟩
    cases hd:h.dp with
    |true=>
     walk_at "d";exact⟨by rw[T6];omega,key line _ (λ_ h=>h) ⟨_,rfl,fin line _⟩⟩
    |false=>
     walk_at "d";rw[G5,<-Yr];have lt:(line.take 1).length<=41:=by rw[U6];omega
     exact⟨by rw[T6];omega,key (line.take 1) _ (λ_ h=>Ws h) ⟨_,rfl,fin (line.take 1) _⟩⟩
  ·rintro Y ⟨o3,o4,o5,o6,rfl⟩;walk_at "d";rw[T6,UL (T8 _)];exact q
end
theorem Hg:bu (ar uT) ["deeds","paper","line","place"] ["deed","line"] 1 [2] ⟨Uh,[ (T7 ".0",LG),(T7 "deed",LG),(T7 "line",Uw)],false,false,[]⟩:= .of
section
theorem Hh:∀{a b:List Str},VX (a.map .str) (b.map .str)=true↔a=b
 | [],[]=>by simp[VX]
 | [],_::_=>by simp[VX]
 |_::_,[]=>by simp[VX]
 |x::a,y::b=>by
  rw[T9,T9,VX,U0,Hh,fu,beq_iff_eq,U2]
theorem Hi{a b:Pp}:UB a.enc b.enc=true↔a=b:=by
 obtain⟨d,nm,kd,ms⟩:=a;obtain⟨d',nm',kd',ms'⟩:=b;simp only[Pp.enc,UB,VX,U0,Hh,Pp.mk.injEq,decide_eq_true_eq,beq_iff_eq,and_true,true_and]
def qQ(l:List Pp)(p:Pp):Bool:=(l.map Pp.enc).any λd=>UB d p.enc
theorem ach:qQ l p=true↔p∈l:=by
 unfold qQ;rw[WD];constructor
 ·rintro⟨d,hd,e⟩;obtain⟨q,hq,rfl⟩:=Ug.mp hd;rw[<-Hi.mp e];exact hq
 ·intro h;exact⟨p.enc,Ug.mpr ⟨p,h,rfl⟩,Hi.mpr rfl⟩
def kL(ps line:List Pp)(c:Pp):List Pp:=(fK ps c).filter λp=>!qQ line p
def iz(ps:List Pp):Nat->List Pp->Nat->List Pp
 |0,l,_=>l
 |f+1,l,i=>match l[i]? with
  |none=>l
  |some c=>iz ps f (l++kL ps l c) (i+1)
def cM(ps:List Pp)(c:Pp):List Pp:=iz ps ps.length [c] 0
theorem QW{ps l:List Pp}(h:l.length<=i):∀f,iz ps f l i=l
 |0=>rfl
 |f+1=>by rw[iz,V6 h]
structure pO (ps:List Pp) (c:Pp) (l:List Pp):Prop where
 nd:l.Nodup
 sb:∀p∈l,p∈ps
 hd:∃r,l=c::r
theorem vN{α:Type}:∀{l L:List α},l.Nodup->(∀z∈l,z∈L)->l.length<=L.length
 | [],_,_,_=>UY _
 |a::l,L,nd,hm=>by
  rw[Vz]at nd;obtain⟨p,q,e⟩:=XD (hm a KJ);have:=vN (l:=l) (L:=p++q) nd.2 λb hb=>by
   have hb':=hm b (by simp[hb]);rw[e]at hb';rcases Um.mp hb' with z|z
   ·exact WN _ z
   ·rcases Ud.mp z with z|z
    ·exact absurd (by rw[<-z];exact hb) nd.1
    ·exact U7 _ z
  rw[e,Ux,Uk,Uk];rw[Ux]at this;omega
theorem QX{ps:List Pp}(nd:(ps.map (·.nm)).Nodup):ps.Nodup:=by
 rw[YD,Vk]at nd;exact nd.imp λh e=>h (by rw[e])
theorem acg{ps:List Pp}(nd:(ps.map (·.nm)).Nodup)(c:Pp):(fK ps c).Nodup:=((iq ps).nodup_iff.mpr (QX nd)).sublist X1
theorem Hj(h:p∈fK ps c):p∈ps:=gE.mp (Uv.mp h).1
theorem pO.next{ps:List Pp}(nd:(ps.map (·.nm)).Nodup)(h:pO ps c l)(d:Pp):pO ps c (l++kL ps l d):=by
 refine⟨WT.mpr ⟨h.nd,(acg nd d).sublist X1,λa ha b hb e=>?_⟩,λp hp=>?_,?_⟩
 ·have:=(Uv.mp hb).2;rw[Vp,<-V0]at this;exact this (ach.mpr (by rw[<-e];exact ha))
 ·rcases Um.mp hp with z|z
  ·exact h.sb p z
  ·exact Hj (Uv.mp z).1
 ·obtain⟨r,e⟩:=h.hd;exact⟨r++kL ps l d,by rw[e];rfl⟩
theorem Hk{ps:List Pp}(nd:(ps.map (·.nm)).Nodup):∀(f:Nat){l:List Pp}(i:Nat),pO ps c l->pO ps c (iz ps f l i)
 |0,_,_,h=>h
 |f+1,l,i,h=>by
  rw[iz];split
  ·exact h
  ·exact Hk nd f (i+1) (h.next nd _)
theorem QZ{ps:List Pp}(nd:(ps.map (·.nm)).Nodup)(hc:c∈ps):pO ps c (cM ps c):=Hk nd _ _ ⟨KJ,by simpa using hc,[],rfl⟩
theorem Q0(g:jq ps)(hc:c∈ps):vM (cM ps c):=by
 have h:=QZ g.nd hc;have h1:=vN h.nd h.sb;have h2:=g.ln;exact⟨J1,λp hp=>⟨g.nm p (h.sb p hp),g.kd p (h.sb p hp)⟩⟩
theorem Hl(g:jq ps)(hc:c∈ps):cm 3 c.enc:=by
 obtain⟨h1,h2⟩:=g.ms c hc;exact gj (cf (gr Kg) (cf Em (cf (gr (g.nm c hc)) (cf (gr (g.kd c hc)) (cf (gj (n:=1) (xH h1)) gm)))))
def Q1:Fa:=λds Q=>∃(xs:List De)(c:Pp),ds=[.tuple (xs.map De.enc),.str c.nm]/\gZ xs/\c∈aA xs/\Q (.list ((cM (aA xs) c).map Pp.enc))
theorem Q2(T:Txt Z mg t):aB P w Z mg base Km 6 t.a_P t.d_P ["deeds","paper"] (aP Z Q1):=by
 refine T.F_P.F.okD vp (λds Q h=>?_) (λ_ _ _ _ H O ds Q E hr h=>?_)
 ·obtain⟨xs,c,rfl,_⟩:=h;rfl
 ·obtain⟨xs,c,rfl,gd,hc,q⟩:=h;refine'⟨_,?A,?B⟩
  case A=>
   refine' ak ?C ?D
   case C=>exact(jh (i:=2) vp.nd rfl KU (cC (aa (aH (Bh T) hr T.F_L (aa (dv 0) (aa (dv 1) ai))) ai)))
   case' D=>refine' ak ?E ?F
   case E=>exact(bp (i:=3) vp.nd rfl KU af)
   case' F=>refine' ak ?G ?H
   case G=>
    refine' NU U3 ?I ?J
    case I=>exact(aM tG dH (dv 3) (PE.imp (bY c7 rfl T.q0f U5 (lh (dw 2) bo)) (bI dY)) (aC _))
    case' J=>refine' ak ?K ?L
    case K=>exact(uo (i:=2) (pv 2) (fq rfl Hg (df (aH (Gs T) hr T.F_N (aa (dv 0) (aa (cO aX bf (dw 2) (df (dv 3))) ai)))) aR b7 KL (λ_ _ _ _=>(aQ (i:=0) Hg.nd rfl KU)) (λ_ _ _ _=>(eF (DJ (MI hr) xE (df (dv 0)) (dw 1) rfl))) (λ_ _ _ _=>(dv 0))))
    case' L=>refine' aq ?M
    case M=>exact(bp (i:=3) vp.nd rfl KU (az bO cb (dv 3) af))
   case' H=>refine' aq ?N
   case N=>exact(rO (pv 2))
  case B=>
  clear hr T;have nd:=gd.gp.nd;have pl:=gd.gp.ln;walk_at "d";refine⟨xs,c,rfl,gd,hc,?_⟩;refine⟨λm Y=>∃(l:List Pp)(i f:Nat),pO (aA xs) c l/\i<=l.length/\m+i=(aA xs).length/\(aA xs).length<=f+i/\iz (aA xs) f l i=cM (aA xs) c/\Y=[some (Sl.v (.tuple (xs.map De.enc))),some (Sl.v (.str c.nm)),some (Sl.o (l.map Pp.enc)),some (Sl.v (.int (i:Int)))],⟨(aA xs).length,[c],0,(aA xs).length,⟨KJ,by simpa using hc,[],rfl⟩,UY _,J1,J1,rfl,rfl⟩,?_⟩;rintro m Y ⟨l,i,f,hl,hi,hm,hf,ef,rfl⟩;have ll:=vN hl.nd hl.sb;walk_at "d";rw[T6];by_cases hlt:i < l.length
  ·rw[KI J1];have hc':l[i]?=some l[i]:=UM hlt;have ho:=hl.next nd l[i];have lo:=vN ho.nd ho.sb;rw[Ux]at lo;refine⟨_,gN (j:=i) (by rw[Ul,hc'];rfl),xs,l[i],rfl,gd,hl.sb _ (Wa hlt),_,rfl,by rw[T6];have:=Bj (c:=l[i]) gd.gp;omega,d7 (λp=>!qQ l p) Pp.enc (λp hp R S h=>?_) ?_⟩
   ·walk_at "d";have ps:=Hj hp;refine⟨(Hl gd.gp ps).shp KL,(t7 (n:=3) λd hd=>?_).1,by simpa [qQ]using h⟩;obtain⟨p',hp',rfl⟩:=Ug.mp hd;exact Hl gd.gp (hl.sb p' hp')
   ·have e:(W5 (λp=>!qQ l p) (fK (aA xs) l[i]))=kL (aA xs) l l[i]:=rfl;rw[e];cases f with
    |zero=>omega
    |succ f=>
     rw[iz,hc']at ef;refine⟨by rw[T6];omega,m - 1,J1,_,ho,i+1,by rw[Ux];omega,J1,f,J1,ef,by rw[UA],J1⟩
  ·rw[JS J1];rw[<-ef,QW J1]at q;exact q
local macro_rules | `(tactic| walk_at "e") =>Ny (Of++" Sl.i.injEq exists_and_left qx")
theorem jW:∀{l:List (Str×J4)}{ks:List Str},l.map (·.1)=ks->ks.all (λk=>!(k==f))=true->eQ f d l=l++[(f,d)]
 | [],_,_,_=>rfl
 | (g,x)::l,k::ks,h,hk=>by
  rw[T9]at h;obtain⟨e1,e2⟩:=YX h;rw[Xh,U0]at hk;have e1:g=k:=e1;rw[eQ,JS (λz=>by rw[<-e1,z]at hk;simp at hk),jW e2 hk.2];rfl
 |_::_,[],h,_=>by cases h
def bX:List Str:=[T4 "day",T4 "paper",T4 "to_stay",T4 "to_go",T4 "bars",T4 "leave"]
abbrev Hm(C:J7)(a b c d e f:J4):J4:=gb C (bX.map .str) [a,b,c,d,e,f]
def Q3(C:J7):Fa:=λds Q=>∃a b c d e f,ds=[a,b,c,d,e,f]/\Q (Hm C a b c d e f)
theorem acD(T:Txt Z mg t):aB P w Z mg base Km 1 t.a_i t.d_i ["self","day","paper","to_stay","to_go","bars","leave"] (sj Z t.q0b (Q3 t.q0b)):=by
 refine T.F_i.F.okI Pr (λds Q h=>?_) (λcdv A outer s H H1 O ds Q E l hr h=>?_)
 ·obtain⟨a,b,c,d,e,f,rfl,_⟩:=h;rfl
 ·obtain⟨a,b,c,d,e,f,rfl,q⟩:=h;refine'⟨_,?A,?B⟩
  case A=>
   refine' ak ?C ?D
   case C=>exact(gB (C:=t.q0b) (i:=0) T.q0d T.q0q (pv 0) (dv 1))
   case' D=>refine' ak ?E ?F
   case E=>exact(gB (C:=t.q0b) (i:=0) T.q0d T.q0r (pv 0) (dv 2))
   case' F=>refine' ak ?G ?H
   case G=>exact(gB (C:=t.q0b) (i:=0) T.q0d T.q0B (pv 0) (dv 3))
   case' H=>refine' ak ?I ?J
   case I=>exact(gB (C:=t.q0b) (i:=0) T.q0d T.q0s (pv 0) (dv 4))
   case' J=>refine' ak ?K ?L
   case K=>exact(gB (C:=t.q0b) (i:=0) T.q0d T.q0K (pv 0) (dv 5))
   case' L=>refine' aq ?M
   case M=>exact(gB (C:=t.q0b) (i:=0) T.q0d T.q0L (pv 0) (dv 6))
  case B=>
  clear hr T;simp only[uz,fQ,T9,U9,Vr,Vf,YL,Uk,U8,V4,V5,Uz];walk_at "e";rw[jW (ks:=[]) rfl rfl,jW (ks:=bX.take 1) rfl Kg,jW (ks:=bX.take 2) rfl Kg,jW (ks:=bX.take 3) rfl Kg,jW (ks:=bX.take 4) rfl Kg,jW (ks:=bX.take 5) rfl Kg];have lt:∀n:Nat,n < 10->n < 1000:=λn h=>by omega
  exact⟨lt 1 KL,lt 2 KL,lt 3 KL,lt 4 KL,lt 5 KL,q⟩
def jv:Option Str->J4
 |none=>.none
 |some s=>.str s
structure Lk where
 d:Int
 nm:Str
 st:List (Str×J4)
 go:List (Str×J4)
 bars:List J4
 lv:Option Str
def Lk.enc(C:J7)(k:Lk):J4:=Hm C (.int k.d) (.str k.nm) (.tuple (k.st.map bQ)) (.tuple (k.go.map bQ)) (.list k.bars) (jv k.lv)
def Lk.lets(k:Lk):Bool:=decide (0 < k.go.length) && decide (k.bars.length=0)
structure Ro where
 nm:Str
 d:Int
 lv:Option Str
def Ro.enc(r:Ro):J4:= .tuple [.str r.nm,.int r.d,jv r.lv]
def Lk.row(k:Lk):Ro:=⟨k.nm,k.d,k.lv⟩
def kM(k:Lk):Prop:=k.st.length<=41/\k.go.length<=41/\k.bars.length<=200
theorem Bv:bq bX [a,b,c,d,e,f] (T4 "day")=some a:=by simp[bX,bq]
theorem Bw:bq bX [a,b,c,d,e,f] (T4 "paper")=some b:=by
 simp only[bX,bq,JS (show T4 "day"≠T4 "paper" by decide+kernel),if_true]
theorem Bx:bq bX [a,b,c,d,e,f] (T4 "to_go")=some d:=by
 simp only[bX,bq,JS (show T4 "day"≠T4 "to_go" by decide+kernel),JS (show T4 "paper"≠T4 "to_go" by decide+kernel),JS (show T4 "to_stay"≠T4 "to_go" by decide+kernel),if_true]
theorem abW:bq bX [a,b,c,d,e,f] (T4 "bars")=some e:=by
 simp only[bX,bq,JS (show T4 "day"≠T4 "bars" by decide+kernel),JS (show T4 "paper"≠T4 "bars" by decide+kernel),JS (show T4 "to_stay"≠T4 "bars" by decide+kernel),JS (show T4 "to_go"≠T4 "bars" by decide+kernel),if_true]
theorem Q6:bq bX [a,b,c,d,e,f] (T4 "leave")=some f:=by
 simp only[bX,bq,JS (show T4 "day"≠T4 "leave" by decide+kernel),JS (show T4 "paper"≠T4 "leave" by decide+kernel),JS (show T4 "to_stay"≠T4 "leave" by decide+kernel),JS (show T4 "to_go"≠T4 "leave" by decide+kernel),JS (show T4 "bars"≠T4 "leave" by decide+kernel),if_true]
def Q7(C:J7):Fa:=λds Q=>∃k:Lk,ds=[k.enc C]/\kM k/\Q (.bool k.lets)
theorem Hn(T:Txt Z mg t):aB P w Z mg base Km 1 t.a_j t.d_j ["self"] (aP Z (Q7 t.q0b)):=by
 refine T.F_j.F.okD abT (λds Q h=>?_) (λ_ _ _ _ H O ds Q E hr h=>?_)
 ·obtain⟨k,rfl,_⟩:=h;rfl
 ·obtain⟨k,rfl,⟨_,h1,h2⟩,q⟩:=h;refine'⟨_,?A,?B⟩
  case A=>
   refine' aq ?C
   case' C=>refine' aK ?D
   case D=>exact(jg (cX j8 dH (df (PE.imp (bY c7 rfl T.q0f U5 (bD (bW (C:=t.q0b) T.q0d T.q0s (dv 0)) bo)) (bI dY))) (df af) (aC _)) (jH (cX (cu hr.units) cv (df (PE.imp (bY c7 rfl T.q0f U5 (bD (bW (C:=t.q0b) T.q0d T.q0K (dv 0)) bo)) (bI dY))) (df af) (aC _))))
  case B=>
  clear hr T;simp only[Lk.enc];walk_at "d";refine⟨bX,_,rfl,_,Bx,_,.inr rfl,?_⟩;have q:Q (.bool (decide (0 < k.go.length) && decide (k.bars.length=0))):=q;rw[T6];by_cases h:0 < k.go.length
  ·rw[KI J1];refine⟨bX,_,rfl,_,abW,_,.inl rfl,?_⟩;rw[decide_eq_true h,VV]at q;rw[show((k.bars.length:Int)==0)=decide (k.bars.length=0) by
    by_cases e:k.bars.length=0
    ·simp[e]
    ·rw[decide_eq_false e];simp;exact λz=>e (by rw[z];rfl)]
   exact q
  ·rw[JS J1];rw[decide_eq_false h,WZ]at q;exact q
def Q8(C:J7):Fa:=λds Q=>∃k:Lk,ds=[k.enc C]/\Q k.row.enc
theorem Ho(T:Txt Z mg t):aB P w Z mg base Km 1 t.a_k t.d_k ["self"] (aP Z (Q8 t.q0b)):=by
 refine T.F_k.F.okD Pw (λds Q h=>?_) (λ_ _ _ _ H O ds Q E hr h=>?_)
 ·obtain⟨k,rfl,_⟩:=h;rfl
 ·obtain⟨k,rfl,q⟩:=h;refine'⟨_,?A,?B⟩
  case A=>
   refine' aq ?C
   case' C=>refine' aK ?D
   case' D=>refine' bH ?E
   case' E=>refine' aa ?F ?G
   case F=>exact(bW (C:=t.q0b) T.q0d T.q0r (dv 0))
   case' G=>refine' aa ?H ?I
   case H=>exact(bW (C:=t.q0b) T.q0d T.q0q (dv 0))
   case' I=>refine' aa ?J ai
   case J=>exact(bW (C:=t.q0b) T.q0d T.q0L (dv 0))
  case B=>
  clear hr T;simp only[Lk.enc];walk_at "d";exact⟨bX,_,rfl,_,Bw,bX,_,rfl,_,Bv,bX,_,rfl,_,Q6,q⟩
structure Rn where
 n:Int
 L:List (Str×Pt)
 hs:List Hd
 lvs:List Pp
 go:List (Str×Int)
 us:List Str
def jX(p:Pp):J4:= .tuple [.str (T4 "leave"),.int p.d,.str p.nm,.str p.kd]
def Rn.fd(R:Rn):List (Str×J4):=[(T4 "day",.int R.n),(T4 "rules",.tuple (R.L.map dA)),(T4 "holds",.tuple (R.hs.map Hd.enc)),(T4 "leaves",.list (R.lvs.map jX))]
def fT(go:List (Str×Int)):List (ao×J4):=go.map λp=>(VG p.1,.int p.2)
def gJ(us:List Str):List (ao×J4):=us.map λs=>(VG s,.bool true)
def cT:List Str:=[T4 "day",T4 "rules",T4 "holds",T4 "leaves",T4 "gone",T4 "used"]
def Rn.gn(R:Rn):Gn:=⟨R.go.map (·.1),R.go.map (·.2)⟩
def Rn.enc(C:J7)(R:Rn):J4:=gb C (cT.map .str) [.int R.n,.tuple (R.L.map dA),.tuple (R.hs.map Hd.enc),.list (R.lvs.map jX),R.gn.enc,ig R.us (R.us.map λ_=>.bool true)]
theorem Q9(C:J7)(R:Rn):Ad C R.fd (R.go.map (·.1)) R.us (fT R.go) (gJ R.us)=R.enc C:=by
 have e1:(fT R.go).map (·.2)=(R.go.map (·.2)).map Uy:=by unfold fT;rw[Uo,Uo];rfl
 have e2:(gJ R.us).map (·.2)=R.us.map λ_=>.bool true:=by unfold gJ;rw[Uo];rfl
 unfold Ad;rw[e1,e2];rfl
theorem Hq:bq cT [a,b,c,d,e,f] (T4 "day")=some a/\bq cT [a,b,c,d,e,f] (T4 "rules")=some b/\bq cT [a,b,c,d,e,f] (T4 "holds")=some c/\bq cT [a,b,c,d,e,f] (T4 "leaves")=some d/\bq cT [a,b,c,d,e,f] (T4 "gone")=some e/\bq cT [a,b,c,d,e,f] (T4 "used")=some f:=by
 have h:∀{x y:Str}{p q:Option J4},x≠y->(if x=y then p else q)=q:=λh=>JS h;refine⟨?_,?_,?_,?_,?_,?_⟩
 ·simp[cT,bq]
 ·simp only[cT,bq,h (show T4 "day"≠T4 "rules" by decide+kernel),if_true]
 ·simp only[cT,bq,h (show T4 "day"≠T4 "holds" by decide+kernel),h (show T4 "rules"≠T4 "holds" by decide+kernel),if_true]
 ·simp only[cT,bq,h (show T4 "day"≠T4 "leaves" by decide+kernel),h (show T4 "rules"≠T4 "leaves" by decide+kernel),h (show T4 "holds"≠T4 "leaves" by decide+kernel),if_true]
 ·simp only[cT,bq,h (show T4 "day"≠T4 "gone" by decide+kernel),h (show T4 "rules"≠T4 "gone" by decide+kernel),h (show T4 "holds"≠T4 "gone" by decide+kernel),h (show T4 "leaves"≠T4 "gone" by decide+kernel),if_true]
 ·simp only[cT,bq,h (show T4 "day"≠T4 "used" by decide+kernel),h (show T4 "rules"≠T4 "used" by decide+kernel),h (show T4 "holds"≠T4 "used" by decide+kernel),h (show T4 "leaves"≠T4 "used" by decide+kernel),h (show T4 "gone"≠T4 "used" by decide+kernel),if_true]
structure pP (R:Rn):Prop where
 rl:jr R.L
 hd:sS R.hs
 ll:R.lvs.length<=41
 lk:∀p∈R.lvs,Uc p.kd=true
theorem Hr:∀(us:List Str)(z:Str),(bq us (us.map λ_=>W4 true) z).isSome=us.contains z
 | [],_=>rfl
 |u::us,z=>by
  rw[T9,bq,YR];by_cases h:u=z
  ·rw[KI h,h];simp
  ·rw[JS h,Hr us z,cn (λe=>h e.symm),Wq]
def qR(R:Rn)(kd:Str)(p:Pp):Bool:=p.kd==kd && !R.us.contains p.nm
def qS(R:Rn)(kd:Str):Option Str:=(R.lvs.find? (qR R kd)).map (·.nm)
def Ra(C:J7):Fa:=λds Q=>∃(R:Rn)(kd:Str),ds=[R.enc C,.str kd]/\pP R/\Uc kd=true/\Q (jv (qS R kd))
theorem Rb(T:Txt Z mg t):aB P w Z mg base Km 1 t.a_n t.d_n ["self","kind"] (aP Z (Ra t.q0c)):=by
 refine T.F_n.F.okD FJ (λds Q h=>?_) (λ_ _ _ _ H O ds Q E hr h=>?_)
 ·obtain⟨R,kd,rfl,_⟩:=h;rfl
 ·obtain⟨R,kd,rfl,g,hk,q⟩:=h;refine'⟨_,?A,?B⟩
  case A=>
   refine' ak ?C ?D
   case C=>
    refine' km U3 rfl (bW (C:=t.q0c) T.q0e T.q0N (dv 0)) ?E aR ?F
    case E=>exact(aQ (i:=2) FJ.nd rfl KU)
    case' F=>refine' aq ?G
    case' G=>refine' bC ?H ?I bB
    case H=>exact(PW.pt (di (aM (cu hr.units) cv (av aF aG (dv 2) af) (dv 1) (aC _)) (dG (OD hr.units (bW (C:=t.q0c) T.q0e T.q0C (dv 0)) (av aF aG (dv 2) af)))))
    case' I=>refine' aq ?J
    case J=>exact(aK (av aF aG (dv 2) af))
   case D=>refine' aq (aK dF)
  case B=>
  clear hr T;obtain⟨_,_,_,x4,_,x6⟩:=Hq (a:= .int R.n) (b:= .tuple (R.L.map dA)) (c:= .tuple (R.hs.map Hd.enc)) (d:= .list (R.lvs.map jX)) (e:=R.gn.enc) (f:=ig R.us (R.us.map λ_=>.bool true));walk_at "d";refine⟨cT,_,rfl,_,x4,_,rfl,?_⟩;refine⟨λi Y=>(∀p∈R.lvs.take i,qR R kd p=false)/\∃o2,Y=[some (Sl.v (R.enc t.q0c)),some (Sl.v (.str kd)),o2],⟨KJ,_,rfl⟩,?_,?_⟩
  ·rintro i z Y hz ⟨hn,o2,rfl⟩;rw[Ul]at hz;cases hz':R.lvs[i]? with
   |none=>rw[hz']at hz;cases hz
   |some p=>
    rw[hz']at hz;cases hz;have hp:=UJ hz';have no:qR R kd p=false->∀p∈R.lvs.take (i+1),qR R kd p=false:=λh p' hp'=>by
     rw[UZ,hz']at hp';rcases Um.mp hp' with z|z
     ·exact hn p' z
     ·have z:p'=p:=by simpa using z
      rw[z];exact h
    have yes:qR R kd p=true->Q (.str p.nm):=λh=>by
     have e:qS R kd=some p.nm:=by
      unfold qS;rw[show R.lvs=R.lvs.take i++p::R.lvs.drop (i+1) by
       have hi:=(Uj.mp hz').1;rw[<-(Uj.mp hz').2,<-X3 hi,XS]]
      rw[oK,Yd.mpr (λx hx=>by rw[hn x hx];simp),List.find?_cons_of_pos h];rfl
     rw[e]at q;exact q
    simp only[jX];walk_at "d";refine⟨cU.mpr (g.lk p hp),cU.mpr hk,?_⟩;unfold qR at no yes;by_cases h1:(p.kd==kd)=true
    ·rw[KI h1];rw[h1,VV]at no yes;refine⟨cT,_,rfl,_,x6,_,_,rfl,?_⟩;rw[Hr];by_cases h2:R.us.contains p.nm=false
     ·rw[KI h2];exact yes (by rw[h2];rfl)
     ·rw[JS h2];exact⟨no (by rw[Xj]at h2;rw[h2];rfl),_,rfl⟩
    ·rw[JS h1];exact⟨no (by rw[V0]at h1;rw[h1];rfl),_,rfl⟩
  ·rintro Y ⟨hn,o2,rfl⟩;rw[T6,UL (T8 _)]at hn;walk_at "d";have e:qS R kd=none:=by
    unfold qS;rw[Yd.mpr (λx hx=>by rw[hn x hx];simp)];rfl
   rw[e]at q;exact q
end
local macro_rules | `(tactic| walk_at "g") =>Ny (Of++" Sl.i.injEq exists_and_left qx")
theorem By:bu (ar qy) ["self","paper","line","to_stay","to_go","asking","leave","bars"] ["rule","by"] 2 [] ⟨Uh,[ (T7 ".0",LG),(T7 "rule",LG),(T7 "by",LG)],false,false,[]⟩:= .of
theorem Hs:bu (ar qy) ["self","paper","line","to_stay","to_go","asking","leave","bars"] ["hold"] 1 [] ⟨Uh,[(T7 ".0",LG),(T7 "hold",LG)],false,false,[]⟩:= .of
theorem Ht:bu (ar qy) ["self","paper","line","to_stay","to_go","asking","leave","bars"] ["rule"] 1 [] ⟨Uh,[(T7 ".0",LG),(T7 "rule",LG)],false,false,[]⟩:= .of
def sU(z:Str×J4):J4:= .tuple [.str (T4 "stays"),.str z.1,z.2]
def vO(h:Str):J4:= .tuple [.str (T4 "held"),.str h]
def vP(a:Str):J4:= .tuple [.str (T4 "lacks"),.str a]
def pQ(R:Rn)(kd:Str):Option Str:=if (iZ kd R.L).length=0 then none else qS R kd
def dP(R:Rn)(r:Rp)(line:List Pp):Lk where
 d:=R.n
 nm:=r.c.nm
 st:=cj r R.n R.gn R.L
 go:=cV r R.n R.gn R.L
 bars:=(cj r R.n R.gn R.L).map sU++(iy R.hs line).map vO++(if pQ R r.c.kd=none then(iZ r.c.kd R.L).map vP else [])
 lv:=pQ R r.c.kd
theorem Hu(h:jr L):(iZ kd L).length<=41:=by
 unfold iZ;rw[T6];exact UN (UU _ _) h.1
theorem Hv(h:sS hs):(iy hs line).length<=41:=by
 unfold iy;rw[T6];exact UN (UU _ _) h.1
theorem Bz(h:jr L):(cj r n g L).length<=41:=
 UN (vD (λz=>Bp _) _) (vE h).1
theorem Rc(h:jr L):(cV r n g L).length<=41:=
 UN (vD (λz=>Bp _) _) (vE h).1
theorem Hw(g:pP R):kM (dP R r line):=by
 refine⟨Bz g.rl,Rc g.rl,?_⟩;show(YM (_++_++_))<=200;have h1:=Bz (r:=r) (n:=R.n) (g:=R.gn) g.rl;have h2:=Hv (line:=line) g.hd;have h3:=Hu (kd:=r.c.kd) g.rl;rw[Ux,Ux,T6,T6];split
 ·rw[T6];omega
 ·simp only[U8];omega
theorem Hx:bq [T4 "name",T4 "coming",T4 "kind",T4 "makers",T4 "happenings"] [a,b,c,d,e] (T4 "name")=some a:=by simp[bq]
theorem Rf:T4 "unused"∉cT:=Kg
def Rg(CR CP CL:J7):Fa:=λds Q=>∃(R:Rn)(r:Rp)(line:List Pp),ds=[R.enc CR,r.enc CP,.list (line.map Pp.enc)]/\pP R/\gH r/\vM line/\Q ((dP R r line).enc CL)
theorem Rh(T:Txt Z mg t):aB P w Z mg base Km 8 t.a_o t.d_o ["self","paper","line"] (aP Z (Rg t.q0c t.q0a t.q0b)):=by
 refine T.F_o.F.okD qF (λds Q h=>?_) (λ_ _ _ _ H O ds Q E hr h=>?_)
 ·obtain⟨R,r,line,rfl,_⟩:=h;rfl
 ·obtain⟨R,r,line,rfl,g,hr',lo,q⟩:=h;refine'⟨_,?A,?B⟩
  case A=>
   refine' ak ?C ?D
   case C=>
    refine' bp (i:=3) qF.nd rfl KU ?E (hs:=rY)
    case E=>exact(aH (GW T) hr T.F_a (aa (dv 1) (aa (bW (C:=t.q0c) T.q0e T.q0u (dv 0)) (aa (bW (C:=t.q0c) T.q0e T.q0t (dv 0)) (aa (bW (C:=t.q0c) T.q0e T.q0p (dv 0)) ai)))))
   case' D=>refine' ak ?F ?G
   case F=>
    refine' bp (i:=4) qF.nd rfl KU ?H (hs:=rY)
    case H=>exact(aH (GX T) hr T.F_b (aa (dv 1) (aa (bW (C:=t.q0c) T.q0e T.q0u (dv 0)) (aa (bW (C:=t.q0c) T.q0e T.q0t (dv 0)) (aa (bW (C:=t.q0c) T.q0e T.q0p (dv 0)) ai)))))
   case' G=>refine' ak ?I ?J
   case I=>exact(bp (i:=5) qF.nd rfl KU (aH (acj T) hr T.F_c (aa (bW (C:=t.q0a) T.q0g T.q0o (dv 1)) (aa (bW (C:=t.q0c) T.q0e T.q0u (dv 0)) ai))))
   case' J=>refine' ak ?K ?L
   case K=>
    refine' bp (i:=6) qF.nd rfl KU ?M (hs:=Nc)
    case M=>exact(rN (sE (dv 5)) (PE.imp (CY (dv 0) T.q0e T.q18 (Rb T) (hr.mono KL) T.F_n.b .nil fG (aa (bW (C:=t.q0a) T.q0g T.q0o (dv 1)) ai)) OG) dF)
   case' L=>refine' ak ?N ?O
   case N=>exact(E7 (i:=7) qF.nd rfl KU (pz rfl By (df (dv 3)) (iO (cG aR (cG aR iN))) uw KL (λ_ _ _ _=>(iF (n:=2) rfl (cF (aQ (i:=0) By.nd rfl KU) (cF (aQ (i:=1) By.nd rfl KU) iE)))) (λ_ _ _ _=>ft) (λ_ _ _ _=>(bH (aa aY (aa (dv 0) (aa (dv 1) ai)))))))
   case' O=>refine' ak ?P ?Q
   case P=>exact(uo (i:=7) (pv 7) (kr rfl Hs (df (aH (acJ T) hr T.F_U (aa (bW (C:=t.q0c) T.q0e T.q0M (dv 0)) (aa (dv 2) ai)))) aR b7 KL (λ_ _ _ _=>(aQ (i:=0) Hs.nd rfl KU)) (λ_ _ _ _=>ft) (λ_ _ _ _=>(bH (aa aY (aa (dv 0) ai))))))
   case' Q=>refine' ak ?R ?S
   case R=>
    refine' bC ?T ?U bB
    case T=>exact(aM kT mC (dv 6) dF (aC _))
    case' U=>refine' aq ?V
    case V=>exact(uo (i:=7) (pv 7) (fq rfl Ht (df (dv 5)) aR b7 KL (λ_ _ _ _=>(aQ (i:=0) Ht.nd rfl KU)) (λ_ _ _ _=>ft) (λ_ _ _ _=>(bH (aa aY (aa (dv 0) ai))))))
   case' S=>refine' aq ?W
   case' W=>refine' L6 7 ?X
   case' X=>refine' aK ?Y
   case Y=>exact(PE.imp (qg T.q1V (acD T) (hr.mono KL) rfl T.q16 T.F_i.b .nil fG (aa (bW (C:=t.q0c) T.q0e T.q0t (dv 0)) (aa (bW (C:=t.q0a) T.q0g T.q0z (dv 1)) (aa (dv 3) (aa (dv 4) (aa (dv 7) (aa (dv 6) ai))))))) sk)
  case B=>
  clear hr T;obtain⟨x1,x2,x3,x4,x5,x6⟩:=Hq (a:= .int R.n) (b:= .tuple (R.L.map dA)) (c:= .tuple (R.hs.map Hd.enc)) (d:= .list (R.lvs.map jX)) (e:=R.gn.enc) (f:=ig R.us (R.us.map λ_=>.bool true));have l1:=Bz (r:=r) (n:=R.n) (g:=R.gn) g.rl;have l2:=Hv (line:=line) g.hd;have l3:=Hu (kd:=r.c.kd) g.rl;generalize hB:gQ (jJ 7 _) _=TB;have key:∀o,o=pQ R r.c.kd->TB {nx:=λx=>Q XH,rt:=Q} [some (Sl.v (R.enc t.q0c)),some (Sl.v (r.enc t.q0a)),some (Sl.v (.list (line.map Pp.enc))),some (Sl.v (.tuple ((cj r R.n R.gn R.L).map bQ))),some (Sl.v (.tuple ((cV r R.n R.gn R.L).map bQ))),some (Sl.v (.list ((iZ r.c.kd R.L).map .str))),some (Sl.v (jv o)),none]:=λo ho=>by
   subst hB;generalize hF:kn 7 _=TF;walk_at "g";refine⟨by rw[T6];omega,jU (λ_=>true) sU (λz hz R' S h1 _=>?_) ?_⟩
   ·simp only[bQ];walk_at "g";exact h1 rfl
   ·rw[iu];refine⟨cT,_,rfl,_,x3,R.hs,line,rfl,g.hd,lo,_,rfl,by rw[T6];omega,jU (λ_=>true) vO (λz hz R' S h1 _=>?_) ?_⟩
    ·walk_at "g";exact h1 rfl
    ·rw[iu];have fin:∀bars,bars=(dP R r line).bars->TF {nx:=λx=>Q XH,rt:=Q} [some (Sl.v (R.enc t.q0c)),some (Sl.v (r.enc t.q0a)),some (Sl.v (.list (line.map Pp.enc))),some (Sl.v (.tuple ((cj r R.n R.gn R.L).map bQ))),some (Sl.v (.tuple ((cV r R.n R.gn R.L).map bQ))),some (Sl.v (.list ((iZ r.c.kd R.L).map .str))),some (Sl.v (jv o)),some (Sl.o bars)]:=λbars hb=>by
      subst hF;walk_at "g";refine⟨cT,_,rfl,_,x1,[T4 "name",T4 "coming",T4 "kind",T4 "makers",T4 "happenings"],_,rfl,_,Hx,_,_,_,_,_,_,rfl,?_⟩;rw[hb,ho];exact q
     refine⟨by rw[T6,T6];omega,?_⟩;have eb:(dP R r line).bars=(cj r R.n R.gn R.L).map sU++(iy R.hs line).map vO++(if pQ R r.c.kd=none then(iZ r.c.kd R.L).map vP else []):=rfl;rw[<-ho]at eb;cases o with
     |none=>
      rw[KI (by rfl)];refine⟨by rw[T6];omega,jU (λ_=>true) vP (λz hz R' S h1 _=>?_) ?_⟩
      ·walk_at "g";exact h1 rfl
      ·rw[iu];refine⟨by rw[Ux,T6,T6,T6];omega,fin _ ?_⟩;rw[eb,KI rfl]
     |some v=>
      rw[JS (by simp[cY,jv])];refine fin _ ?_;rw[eb,JS KJ,UX]
  walk_at "g";refine⟨cT,_,rfl,_,x2,cT,_,rfl,_,x1,cT,_,rfl,_,x5,r,R.L,R.n,R.gn,rfl,hr',g.rl,?_⟩;refine⟨cT,_,rfl,_,x2,cT,_,rfl,_,x1,cT,_,rfl,_,x5,r,R.L,R.n,R.gn,rfl,hr',g.rl,?_⟩;refine⟨[T4 "name",T4 "coming",T4 "kind",T4 "makers",T4 "happenings"],_,rfl,_,vC,cT,_,rfl,_,x2,r.c.kd,R.L,rfl,hr'.2.1,g.rl,?_⟩;have key2:∀o,o=pQ R r.c.kd->TB {nx:=λx=>Q XH,rt:=Q} [some (Sl.v (R.enc t.q0c)),some (Sl.v (r.enc t.q0a)),some (Sl.v (.list (line.map Pp.enc))),some (Sl.v (.tuple ((cj r R.n R.gn R.L).map bQ))),some (Sl.v (.tuple ((cV r R.n R.gn R.L).map bQ))),some (Sl.v (.list ((iZ r.c.kd R.L).map .str))),some (Sl.v (jv o)),none]:=key;clear key;refine⟨_,rfl,?_⟩;unfold pQ at key2;by_cases h0:(iZ r.c.kd R.L).length=0
  ·rw[JS (by rw[Zk]at h0;rw[h0];simp)];exact key2 none (by rw[KI h0])
  ·rw[KI (by rw[List.isEmpty_eq_false_iff];intro z;exact h0 (by rw[<-T6 (f:=Ub),z];rfl))];exact⟨cT,⟨_,rfl⟩,Rf,[T4 "name",T4 "coming",T4 "kind",T4 "makers",T4 "happenings"],_,rfl,_,vC,R,r.c.kd,rfl,g,hr'.2.1,key2 _ (by rw[JS h0])⟩
local macro_rules | `(tactic| walk_at "g") =>Ny (Of++" Sl.i.injEq Sl.r.injEq Sl.b.injEq exists_and_left qx Ae Ac Ah uK")
theorem Hy:bu (ar vc) ["self","deeds","day","done","leaves","row"] ["deed","day"] 1 [2] ⟨Uh,[ (T7 ".0",LG),(T7 "deed",LG),(T7 "day",Uw)],false,false,[]⟩:= .of
theorem Hz(T:Txt Z mg t):aB P w Z mg base Km 1 t.a_m t.d_m ["self","row"] (Ab Z t.q0c):=by
 refine T.F_m.F.ok Px (λvs H Q E h=>?_) (λcdv A outer s H vs Q E hr h=>?_)
 ·obtain⟨l,dx,fs,g,u,gv,uv,a,x,y,z,rfl,_⟩:=h;rfl
 ·obtain⟨l,dx,fs,g,u,gv,uv,a,x,y,z,rfl,hl,lg,lu,ne,hg,hu,sq,n1,n2,q⟩:=h;have un:=hr.units;refine⟨_,dS (xy (Yh (ZR (by decide:1<=64) _) hr.units) (tJ (pv 0) rfl) (kc aF (pv 1) bT (λ_ _=>rfl)) (kc aF (pv 1) bT (λ_ _=>rfl)) rfl) (fN (p5 (ti (aa5 (kc aF (pv 1) bT (λ_ _=>rfl)))) (fN (xy (Yh (ZR (by decide:1<=64) _) hr.units) (tJ (pv 0) rfl) (kc aF (pv 1) bT (λ_ _=>rfl)) B5 rfl)) pZ)),?_⟩;have gl:l≠g:=λe=>by rw[e,hg]at hl;cases hl
  have tk:∀{H':Hp},(∀b o,H b=some o->b≠g->H' b=some o)->br Z H' a [.str x,y,z]:=λ{H'} k=>by
   rcases sq with(h|⟨ob,h⟩)|h
   ·exact .inl (.inl (k _ _ h (λe=>by rw[e,hg]at h;cases h)))
   ·exact .inl (.inr ⟨ob,k _ _ h (λe=>by rw[e,hg]at h;cases h)⟩)
   ·exact .inr h
  simp only[wa,D1];walk_at "a";refine jF sq fJ ⟨_,rfl,l,_,dx,fs,_,rfl,hl,T.q0e,T.q0p,lg,jF sq cK ⟨g,rfl,_,nX.k (k:= .inr x) hg n1,?_⟩⟩;have sq2:br Z (ah H g (.dK (putK gv (.inr x) y))) a [.str x,y,z]:=tk λb o e n=>by rw[aD n];exact e
  simp only[B7];walk_at "a";refine jF sq2 jk ?_;rcases q with⟨rfl,q⟩|⟨s,rfl,q⟩
  ·exact q
  ·rw[KI (λz=>nomatch z)];refine⟨_,rfl,l,_,dx,fs,_,rfl,by rw[aD gl];exact hl,T.q0e,T.q0C,lu,?_⟩;walk_at "a";refine jF sq2 jk ⟨_,nX.k (k:= .inr s) (by rw[aD (Ne.symm ne)];exact hu) n2,q⟩
def jw(go:List (Str×Int))(k:Str)(d:Int):List (Str×Int):=if (go.any λp=>decide (p.1=k))=true then go.map (λp=>if p.1=k then(p.1,d) else p) else go++[(k,d)]
def pR(us:List Str)(s:Str):List Str:=if us.contains s=true then us else us++[s]
theorem HA(go:List (Str×Int))(k:Str):((fT go).any λp=>decide (p.1=VG k))=go.any λp=>decide (p.1=k):=by
 unfold fT;rw[Yc];congr 1;funext p;simp only[Wr,decide_eq_decide];exact jO
theorem HB(go:List (Str×Int))(k:Str)(d:Int):gT (fT go) (.inr k) (.int d)=fT (jw go k d):=by
 unfold gT jw;rw[HA];split
 ·unfold fT;rw[Uo,Uo];apply VN;intro p _;simp only[Wr];by_cases h:p.1=k
  ·rw[KI (by rw[h]),KI h]
  ·rw[JS (λe=>h (jO.mp e)),JS h]
 ·unfold fT;rw[UA];rfl
theorem aas(us:List Str)(k:Str):((gJ us).any λp=>decide (p.1=VG k))=us.contains k:=by
 unfold gJ;rw[Yc]
 induction us with
 |nil=>rfl
 |cons u us ih=>
  rw[Vs,YR,ih];congr 1;simp only[Wr];by_cases h:u=k
  ·rw[h];simp
  ·rw[decide_eq_false (λe=>h (jO.mp e)),cn (λe=>h e.symm)]
theorem HC(us:List Str)(k:Str):gT (gJ us) (.inr k) (.bool true)=gJ (pR us k):=by
 unfold gT pR;rw[aas];split
 ·unfold gJ;rw[Uo];apply VN;intro p _;simp only[Wr];split<;>rfl
 ·unfold gJ;rw[UA];rfl
def bZ(m:List (Str×Int)×List Str)(r:Ro):List (Str×Int)×List Str:=(jw m.1 r.nm r.d,match r.lv with
 |none=>m.2
 |some s=>pR m.2 s)
theorem HD(go:List (Str×Int))(k:Str)(d:Int):(jw go k d).length<=go.length+1:=by
 unfold jw;split<;>simp
theorem HE(us:List Str)(k:Str):(pR us k).length<=us.length+1:=by
 unfold pR;split<;>simp
theorem BA:∀(rs:List Ro)(m:List (Str×Int)×List Str),(rs.foldl bZ m).1.length<=m.1.length+rs.length/\(rs.foldl bZ m).2.length<=m.2.length+rs.length
 | [],m=>⟨T8 _,T8 _⟩
 |r::rs,m=>by
  obtain⟨h1,h2⟩:=BA rs (bZ m r);have a:(bZ m r).1.length<=m.1.length+1:=HD _ _ _;have b:(bZ m r).2.length<=m.2.length+1:=by
   unfold bZ;cases r.lv with
   |none=>exact VI _
   |some s=>exact HE _ _
  rw[UO,Uk];exact⟨J1,J1⟩
def De.lv:De->Option Pp
 | .oth w d nm [.str kd]=>if (w==T4 "leave")=true then some ⟨d,nm,kd,[]⟩ else none
 |_=>none
def qT(n:Int)(x:De):Bool:=x.w==T4 "leave" && decide (x.d<=n)
def vQ(xs:List De)(n:Int):List Pp:=bK ((xs.filterMap De.lv).filter λp=>decide (p.d<=n))
theorem HF:∀{xs:List De},(∀d nm r,De.oth (T4 "leave") d nm r∈xs->∃kd,r=[.str kd]/\Uc kd=true)->(xs.filter (qT n)).map De.enc=((xs.filterMap De.lv).filter λp=>decide (p.d<=n)).map jX
 | [],_=>rfl
 |x::xs,h=>by
  have ih:=HF (n:=n) (xs:=xs) λd nm r z=>h d nm r (UD _ z);by_cases hw:x.w=T4 "leave"
  ·cases x with
   |pap p=>exact absurd hw (by show T4 "paper"≠_;decide+kernel)
   |oth w d nm r=>
    have hw:w=T4 "leave":=hw;subst hw;obtain⟨kd,rfl,_⟩:=h d nm r UG;have e1:De.lv (.oth (T4 "leave") d nm [.str kd])=some ⟨d,nm,kd,[]⟩:=by simp[De.lv]
    have e2:qT n (.oth (T4 "leave") d nm [.str kd])=decide (d<=n):=by
     show((T4 "leave"==T4 "leave") && decide (d<=n))=_;rw[beq_self_eq_true,VV]
    rw[VL,e1,UP,UP,e2];by_cases hd:d<=n
    ·rw[KI (by simpa using hd),KI (by simpa using hd),T9,T9,ih];rfl
    ·rw[JS (by simpa using hd),JS (by simpa using hd),ih]
  ·have e1:De.lv x=none:=by
    cases x with
    |pap p=>rfl
    |oth w d nm r=>
     unfold De.lv;split
     ·rename_i e;cases e;rw[cn (show w≠T4 "leave" from hw),JS Ue]
     ·rfl
   have e2:qT n x=false:=by unfold qT;rw[cn hw,WZ]
   rw[VL,e1,UP,e2,JS Ue,ih]
theorem Rj{ps:List Pp}{ds:List J4}(nd:(ps.map (·.nm)).Nodup)(hp:ds.Perm (ps.map jX))(hs:ds.Pairwise λa b=>aZ (ik a) (ik b)=true):ds=(bK ps).map jX:=by
 refine kH (r:=λa b=>aZ (ik a) (ik b)=true) (λa b z=>sL z) (hp.trans ((iq ps).map jX).symm) hs ?_;rw[Vk];exact ny nd
theorem BB{xs:List De}(h:p∈xs.filterMap De.lv):∃x∈xs,x= .oth (T4 "leave") p.d p.nm [.str p.kd]:=by
 obtain⟨x,hx,e⟩:=Xz.mp h;cases x with
 |pap q=>cases e
 |oth w d nm r=>
  unfold De.lv at e;split at e
  ·rename_i e2;cases e2;split at e
   ·rename_i hw;cases e;exact⟨_,hx,by rw[eq_of_beq hw]⟩
   ·cases e
  ·cases e
theorem BC:∀{xs:List De},xs.Nodup->(∀x∈xs,∀y∈xs,x.w=T4 "leave"->y.w=T4 "leave"->x.nm=y.nm->x=y)->((xs.filterMap De.lv).map (·.nm)).Nodup
 | [],_,_=>by simp
 |x::xs,nd,h=>by
  rw[Vz]at nd;have ih:=BC nd.2 λa ha b hb=>h a (UD _ ha) b (UD _ hb);rw[VL];cases e:De.lv x with
  |none=>exact ih
  |some p=>
   show(UR (·.nm) (p::xs.filterMap De.lv)).Nodup;rw[T9,Vz];refine⟨λhm=>?_,ih⟩;obtain⟨p',hp',en⟩:=Ug.mp hm;obtain⟨y,hy,ey⟩:=BB hp';obtain⟨x',hx',ex⟩:=BB (xs:=[x]) (p:=p) (by rw[VL,e];simp);rw[Ur]at hx';subst hx';have:=h x' UG y (UD _ hy) (by rw[ex];rfl) (by rw[ey];rfl) (by rw[ex,ey];exact en.symm);rw[this]at nd;exact nd.1 hy
def cx(xs:List De)(n:Int)(rows:List Ro):Rn:=⟨n,bG xs n,qP xs n,vQ xs n,(rows.foldl bZ ([],[])).1,(rows.foldl bZ ([],[])).2⟩
def Rk:List J4->List J4->(List (Str×J4)->List (ao×J4)->List (ao×J4)->Prop)->Prop:=λds es Q=>∃(xs:List De)(n:Int)(rows:List Ro),ds=[.tuple (xs.map De.enc),.int n]/\es=rows.map Ro.enc/\aW xs/\rows.length<=100000/\(pP (cx xs n rows)->Q (cx xs n rows).fd (fT (cx xs n rows).go) (gJ (cx xs n rows).us))
theorem BD(R:Rn):gY (T4 "mark") (R.fd.map (·.1))=true:=by
 show gY (T4 "mark") [T4 "day",T4 "rules",T4 "holds",T4 "leaves"]=true;decide+kernel
theorem Rl(T:Txt Z mg t):aB P w Z mg base Km 5 t.a_l t.d_l ["self","deeds","day","done"] (uJ Z t.q0c Rk):=by
 refine T.F_l.F.okRn A3 (λds es Q h=>?_) (λcdv A outer s H H1 O ds es Q E l hr h0 hX h=>?_)
 ·obtain⟨xs,n,rows,rfl,_⟩:=h;rfl
 ·obtain⟨xs,n,rows,rfl,rfl,g,rl,q⟩:=h;refine'⟨_,?A,?B⟩
  case A=>
   refine' ak ?C ?D
   case C=>exact(gB (C:=t.q0c) (i:=0) T.q0e T.q0t (pv 0) (dv 2))
   case' D=>refine' ak ?E ?F
   case E=>exact(gB (C:=t.q0c) (i:=0) T.q0e T.q0u (pv 0) (aH (Bm T) hr T.F_R (aa (dv 1) (aa (dv 2) ai))))
   case' F=>refine' ak ?G ?H
   case G=>exact(gB (C:=t.q0c) (i:=0) T.q0e T.q0M (pv 0) (aH (ab1 T) hr T.F_S (aa (dv 1) (aa (dv 2) ai))))
   case' H=>refine' ak ?I ?J
   case I=>exact(l5 (i:=4) A3.nd rfl KU (pz rfl Hy (df (dv 1)) aR b7 KL (λ_ _ _ _=>(aQ (i:=0) Hy.nd rfl KU)) (λ_ _ _ _=>(eF (PW.pt (di (aM (cQ hr) cS (av aF aG (dv 0) af) aY (aC _)) (dG (aM j7 dH (av aF aG (dv 0) af) (dv 1) (aC _))))))) (λ_ _ _ _=>(dv 0))))
   case' J=>refine' ak ?K ?L
   case K=>exact(gB (C:=t.q0c) (i:=0) T.q0e T.q0N (pv 0) (fe (ER ik rfl (Bf T) (bz.in1 (bz.in1 (hr.mono KL))) T.F_J.b rfl T.F_J.m rfl T.q0k V7 (bD (dv 4) bo))))
   case' L=>refine' acx (C:=t.q0c) (i:=0) T.q0e T.q0p T.q0C (pv 0) (pv 0) ?M
   case' M=>refine' aq ?N
   case' N=>refine' OQ (j:=3) h0 U3 rfl (pv 3) ?O aR ?P
   case O=>exact(aQ (i:=5) A3.nd rfl KU)
   case' P=>refine' aq ?Q
   case Q=>exact(Fp (C:=t.q0c) (i:=0) hX (pv 0) T.q0e T.q1Z (Hz T) (hr.mono KL) T.F_m.b fG (dv 5))
  case B=>
  clear hr T h0 hX;simp only[Ag,mZ,T9,U9,Vr,Vf,YL,Uk,U8,V4,V5,Uz];have f1:∀a,eQ (T4 "day") a []=[(T4 "day",a)]:=λa=>rfl;have f2:∀a b,eQ (T4 "rules") b [(T4 "day",a)]=[(T4 "day",a),(T4 "rules",b)]:=λa b=>jW (ks:=[T4 "day"]) rfl Kg;have f3:∀a b c,eQ (T4 "holds") c [(T4 "day",a),(T4 "rules",b)]=[(T4 "day",a),(T4 "rules",b),(T4 "holds",c)]:=λa b c=>jW (ks:=[T4 "day",T4 "rules"]) rfl Kg;have f4:∀a b c d,eQ (T4 "leaves") d [(T4 "day",a),(T4 "rules",b),(T4 "holds",c)]=[(T4 "day",a),(T4 "rules",b),(T4 "holds",c),(T4 "leaves",d)]:=λa b c d=>jW (ks:=[T4 "day",T4 "rules",T4 "holds"]) rfl Kg;have lt:∀n:Nat,n < 10->n < 1000:=λn h=>by omega
  have lt9:∀n:Nat,n < 10->n < 900:=λn h=>by omega
  have xl:=g.gd.gx.ln;generalize hB:uK _ _ _=TB;walk_at "g";simp only[f1,f2,f3,f4];refine⟨xs,n,rfl,g.gd,λh1 h2=>⟨lt 1 KL,xs,n,rfl,g,λh3=>⟨lt 2 KL,by rw[T6];omega,d7 (qT n) De.enc (λx hx R S h=>?_) ?_⟩⟩⟩
  ·have h:if (x.w==T4 "leave")=true then(if x.d<=n then R x.enc else S) else S:=by
    unfold qT at h;by_cases e1:(x.w==T4 "leave")=true
    ·rw[KI e1];rw[e1,VV]at h;by_cases e2:x.d<=n
     ·rw[KI e2];rw[KI (by simpa using e2)]at h;exact h
     ·rw[JS e2];rw[JS (by simpa using e2)]at h;exact h
    ·rw[JS e1];rw[V0]at e1;rw[e1,WZ,JS Ue]at h;exact h
   cases x<;>simp only[De.enc,De.w,De.d,Pp.enc]at h⊢<;> walk_at "g"<;>exact h
  ·rw[HF g.le];have nd:(((xs.filterMap De.lv).filter λp=>decide (p.d<=n)).map (·.nm)).Nodup:=(BC g.gd.nd g.lv).sublist (X1.map _);have ll:((xs.filterMap De.lv).filter λp=>decide (p.d<=n)).length<=41:=by
    have a:=UU (λp:Pp=>decide (p.d<=n)) (xs.filterMap De.lv);have b:=Zd De.lv xs;omega
   refine⟨λd hd R z=>?_,by rw[T6];omega,?_,λds' h5 h6=>⟨lt 3 KL,?_,lt9 4 KL,λga ua=>?_⟩⟩
   ·obtain⟨p,hp,rfl⟩:=Ug.mp hd;exact⟨.oth (T4 "leave") p.d p.nm [.str p.kd],rfl,z⟩
   ·rw[Uo];exact Bg nd
   ·show gY (T4 "mark") [T4 "day",T4 "rules",T4 "holds",T4 "leaves"]=true;decide+kernel
   ·rw[Rj nd h5 h6];have g5:pP (cx xs n rows):=by
     refine⟨Bq g.gd h1 h2,h3,?_,λp hp=>?_⟩
     ·show(bK _).length<=41;rw[jT];exact ll
     ·have hp:=(Uv.mp (gE.mp hp)).1;obtain⟨x,hx,e⟩:=BB hp;obtain⟨kd,e2,h⟩:=g.le p.d p.nm [.str p.kd] (by rw[<-e];exact hx);simp only[U2,VB,and_true]at e2;rw[e2];exact h
    have q:=q g5;subst hB;walk_at "g";refine⟨λi Y=>∃o5,Y=[some (Sl.r l t.q0c ga ua (cx xs n rows).fd (fT ((rows.take i).foldl bZ ([],[])).1) (gJ ((rows.take i).foldl bZ ([],[])).2)),some (Sl.v (UC (UR De.enc xs))),some (Sl.v (Uy n)),some (Sl.b (UR Ro.enc rows)),some (Sl.v (VQ (((xs.filterMap De.lv).filter λp=>decide (p.d<=n)).map jX))),o5],⟨none,rfl⟩,?_,?_⟩
    ·rintro i z Y hz ⟨o5,rfl⟩;rw[Ul]at hz;cases hz':rows[i]? with
     |none=>rw[hz']at hz;cases hz
     |some r=>
      rw[hz']at hz;cases hz;have ts:(rows.take (i+1)).foldl bZ ([],[])=bZ ((rows.take i).foldl bZ ([],[])) r:=by
       rw[UZ,hz',Vt];rfl
      obtain⟨m1,m2⟩:=BA (rows.take i) ([],[]);rw[U6]at m1 m2;simp only[U8]at m1 m2;simp only[ts,Ro.enc];walk_at "g";generalize hM:(rows.take i).foldl bZ ([],[])=M at m1 m2;refine⟨rfl,BD _,by unfold fT;rw[T6];omega,by unfold gJ;rw[T6];omega,?_⟩;have e1:(bZ M r).1=jw M.1 r.nm r.d:=rfl;rw[e1,HB];cases hv:r.lv with
      |none=>
       have e2:(bZ M r).2=M.2:=by unfold bZ;rw[hv]
       rw[e2];exact .inl ⟨rfl,rfl,rfl,_,rfl⟩
      |some v=>
       have e2:(bZ M r).2=pR M.2 v:=by unfold bZ;rw[hv]
       rw[e2];exact .inr ⟨v,rfl,rfl,HC _ _,_,rfl⟩
    ·rintro Y ⟨o5,rfl⟩;rw[T6,UL (T8 _)];exact⟨_,_,_,_,_,rfl,q⟩
local macro_rules | `(tactic| walk_at "g") =>Ny (Of++" Sl.i.injEq Sl.r.injEq Sl.b.injEq exists_and_left qx Ae Ac Ah uK Fs Af Ft")
theorem HG:bu (ar vd) ["deeds"] ["name","deeds"] 1 [0] ⟨Uh,[ (T7 ".0",LG),(T7 "name",LG),(T7 "Paper",U1),(T7 "line_of",U1),(T7 "deeds",Uw)],false,false,[]⟩:= .of
theorem Rm(T:Txt Z mg t):t.q0b≠t.q0c:=λe=>by
 have h1:=T.q1V.init;have h2:=T.q1Y.init;rw[e,h2]at h1;have h3:t.a_l=t.a_i:=by injection h1 with h1;injection h1 with h1;injection h1
 obtain⟨_,_,_,_,_,_,_,_,_,e1,k1,_⟩:=T.F_i.F.ex;obtain⟨_,_,_,_,_,_,_,_,_,e2,k2,_⟩:=T.F_l.F.ex;rw[<-h3,k2]at k1;simp only[VF,Obj.mk.injEq,Data.func.injEq]at k1;have h4:t.d_l=t.d_i:=k1.2.2.1;rw[e1,e2]at h4;have h5:("Round.__init__":Str)="Look.__init__":=congrArg FuncData.qualname h4;exact absurd h5 Kg
abbrev Sf:=Rp×List Pp
def Sf.enc(C:J7)(s:Sf):J4:= .tuple [s.1.enc C,.list (s.2.map Pp.enc)]
def bg(xs:List De):List Sf:=(bK (aA xs)).map λc=>(aU xs c,cM (aA xs) c)
def HH(s:Sf):Prop:=gH s.1/\vM s.2
def acK(C:J7):Fa:=λds Q=>∃xs:List De,ds=[.tuple (xs.map De.enc)]/\gG xs/\((∀s∈bg xs,HH s)->Q (.list ((bg xs).map (Sf.enc C))))
theorem Rr(T:Txt Z mg t):aB P w Z mg base Km 9 t.a_p t.d_p ["deeds"] (aP Z (acK t.q0a)):=by
 refine T.F_p.F.okD Py (λds Q h=>?_) (λ_ _ _ _ H O ds Q E hr h=>?_)
 ·obtain⟨xs,rfl,_⟩:=h;rfl
 ·obtain⟨xs,rfl,gd,q⟩:=h;refine'⟨_,?A,?B⟩
  case A=>
   refine' aq ?C
   case' C=>refine' aK ?D
   case' D=>refine' fe ?E
   case E=>exact(kr rfl HG (df (aH (Bi T) hr T.F_M (aa (dv 0) ai))) aR b7 KL (λ_ _ _ _=>(aQ (i:=0) HG.nd rfl KU)) (λ_ _ _ _=>ft) (λ_ _ _ _=>(bH (aa (PE.imp (qg T.q0I (vA T) (hr.mono KL) rfl T.q0H T.F_I.b .nil fG (aa (dv 1) (aa (dv 0) ai))) sk) (aa (aH (Q2 T) hr T.F_P (aa (dv 1) (aa (dv 0) ai))) ai)))))
  case B=>
  clear hr T;walk_at "d";have ln:=gd.gx.ln;have ol:=jT (ps:=aA xs);have pl:=gd.gx.gp.ln;refine⟨xs,rfl,gd.gx,_,rfl,by rw[T6,T6];omega,?_⟩;refine⟨λi acc=>acc=((bK (aA xs)).take i).map (λc=>Sf.enc t.q0a (aU xs c,cM (aA xs) c))/\∀c∈(bK (aA xs)).take i,gH (aU xs c),⟨rfl,KJ⟩,?_,?_⟩
  ·rintro i z acc hz ⟨rfl,hh⟩;rw[Ul,Ul]at hz;cases hz':(bK (aA xs))[i]? with
   |none=>rw[hz']at hz;cases hz
   |some c=>
    rw[hz']at hz;cases hz;walk_at "d";have hc:=gE.mp (UJ hz');refine⟨xs,c,rfl,gd,hc,λh1 h2 h3=>⟨xs,c,rfl,gd.gx,hc,?_,λc' hc'=>?_⟩⟩
    ·rw[UZ,hz',UA];rfl
    ·rw[UZ,hz']at hc';rcases Um.mp hc' with y|y
     ·exact hh c' y
     ·have y:c'=c:=by simpa using y
      rw[y];exact qM gd hc h1 h3
  ·rintro acc ⟨rfl,hh⟩;simp only[T6,oj]at hh⊢;have e:(bK (aA xs)).map (λc=>Sf.enc t.q0a (aU xs c,cM (aA xs) c))=(bg xs).map (Sf.enc t.q0a):=by unfold bg;rw[Uo];rfl
   rw[e];refine q λs hs=>?_;obtain⟨c,hc,rfl⟩:=Ug.mp hs;exact⟨hh c hc,Q0 gd.gx.gp (gE.mp hc)⟩
abbrev i4:=List (Str×Int)×List Str
def i5(go:List (Str×Int))(z:Str):Bool:=go.any λp=>decide (p.1=z)
def Rn.at(R:Rn)(m:i4):Rn:={R with go:=m.1,us:=m.2}
def fi(R:Rn)(st:i4×List Lk)(s:Sf):i4×List Lk:=
 if (decide (s.1.c.d<=R.n) && !i5 st.1.1 s.1.c.nm)=true then((if (dP (R.at st.1) s.1 s.2).lets=true then bZ st.1 (dP (R.at st.1) s.1 s.2).row else st.1),st.2++[dP (R.at st.1) s.1 s.2]) else st
def jY(R:Rn)(ss:List Sf):i4×List Lk:=ss.foldl (fi R) ((R.go,R.us),[])
def kN(xs:List De)(n:Int)(rows:List Ro)(ss:List Sf):List Lk:=(jY (cx xs n rows) ss).2
theorem BE:∀{ds:List J4},(∀d∈ds,dn d=true)->gC ds=true
 | [],_=>rfl
 |d::ds,h=>by
  rw[gC,h d UG,BE λx hx=>h x (UD _ hx)];rfl
theorem HI(o:Option Int):dn (cI o)=true:=by cases o<;>rfl
theorem Rt(o:Option Str):dn (jv o)=true:=by cases o<;>rfl
theorem acO(h:js r n g pt=some d):dn d=true:=by
 cases pt with
 |two w kd=>
  simp only[js]at h;split at h
  ·rw[Vn]at h;obtain⟨s,_,rfl⟩:=h;rfl
  ·cases h
 |five w kd s k u=>
  simp only[js]at h;split at h
  ·cases h;exact HI _
  ·cases h
theorem Rv(h:jt r n g pt=some d):dn d=true:=by
 cases pt with
 |two w kd=>
  simp only[jt]at h;split at h
  ·rw[Vn]at h;obtain⟨s,_,rfl⟩:=h;rfl
  ·cases h
 |five w kd s k u=>
  simp only[jt]at h;split at h
  ·cases h;exact HI _
  ·cases h
theorem HJ(h:z∈cj r n g L):dn z.2=true:=by
 obtain⟨y,_,hy⟩:=VC.mp h;unfold nB at hy;rw[Ym,Vn]at hy;obtain⟨b,hb,rfl⟩:=hy;exact acO hb
theorem Rx(h:z∈cV r n g L):dn z.2=true:=by
 obtain⟨y,_,hy⟩:=VC.mp h;unfold nE at hy;rw[Ym,Vn]at hy;obtain⟨b,hb,rfl⟩:=hy;exact Rv hb
theorem HK{l:List (Str×J4)}(h:∀z∈l,dn z.2=true):gC (l.map bQ)=true:=BE λd hd=>by
 obtain⟨z,hz,rfl⟩:=Ug.mp hd;show(true && (dn z.2 && true))=true;rw[h z hz];rfl
theorem Ry{CR CL:J7}(ne:CL≠CR)(R:Rn)(r:Rp)(line:List Pp):z9 CR ((dP R r line).enc CL):=by
 refine .inr ⟨CL,_,_,ne,rfl,?_⟩;have h1:gC ((cj r R.n R.gn R.L).map bQ)=true:=HK λz hz=>HJ hz;have h2:gC ((cV r R.n R.gn R.L).map bQ)=true:=HK λz hz=>Rx hz;have h3:gC (dP R r line).bars=true:=BE λd hd=>by
  have hd:d∈(cj r R.n R.gn R.L).map sU++(iy R.hs line).map vO++(if pQ R r.c.kd=none then(iZ r.c.kd R.L).map vP else []):=hd;rcases Um.mp hd with hd|hd
  ·rcases Um.mp hd with hd|hd
   ·obtain⟨z,hz,rfl⟩:=Ug.mp hd;show(true && (true && (dn z.2 && true)))=true;rw[HJ hz];rfl
   ·obtain⟨z,hz,rfl⟩:=Ug.mp hd;rfl
  ·split at hd
   ·obtain⟨z,hz,rfl⟩:=Ug.mp hd;rfl
   ·cases hd
 show(true && (true && (gC ((cj r R.n R.gn R.L).map bQ) && (gC ((cV r R.n R.gn R.L).map bQ) && (gC (dP R r line).bars && (dn (jv (dP R r line).lv) && true))))))=true;rw[h1,h2,h3,Rt];rfl
theorem aaf(R:Rn)(st:i4×List Lk)(s:Sf):(fi R st s).1.1.length<=st.1.1.length+1/\(fi R st s).1.2.length<=st.1.2.length+1/\(fi R st s).2.length<=st.2.length+1:=by
 unfold fi;split
 ·refine⟨?_,?_,KJ⟩
  ·show(if _ then _ else _:i4).1.length<=_;split
   ·exact HD _ _ _
   ·exact VI _
  ·show(if _ then _ else _:i4).2.length<=_;split
   ·unfold bZ;cases (dP (R.at st.1) s.1 s.2).row.lv with
    |none=>exact VI _
    |some v=>exact HE _ _
   ·exact VI _
 ·exact⟨VI _,VI _,VI _⟩
theorem BF(R:Rn):∀(ss:List Sf)(st:i4×List Lk),(ss.foldl (fi R) st).1.1.length<=st.1.1.length+ss.length/\(ss.foldl (fi R) st).1.2.length<=st.1.2.length+ss.length/\(ss.foldl (fi R) st).2.length<=st.2.length+ss.length
 | [],st=>⟨T8 _,T8 _,T8 _⟩
 |s::ss,st=>by
  obtain⟨h1,h2,h3⟩:=BF R ss (fi R st s);obtain⟨a1,a2,a3⟩:=aaf R st s;rw[UO,Uk];exact⟨J1,J1,J1⟩
theorem HL(R:Rn)(g:pP R):∀(ss:List Sf)(st:i4×List Lk),(∀k∈st.2,kM k)->∀k∈(ss.foldl (fi R) st).2,kM k
 | [],st,h=>h
 |s::ss,st,h=>by
  rw[UO];refine HL R g ss _ λk hk=>?_;unfold fi at hk;split at hk
  ·rcases Um.mp hk with z|z
   ·exact h k z
   ·rw[Ur]at z;rw[z];exact Hw ⟨g.rl,g.hd,g.ll,g.lk⟩
  ·exact h k hk
theorem acH(go:List (Str×Int))(z:Str):(gz (fT go) (.inr z)).isSome=i5 go z:=by
 unfold gz i5;rw[Yk,<-HA,Xb,List.find?_isSome,WD]
theorem acC(R:Rn):gY (T4 "look") (R.fd.map (·.1))=true:=by
 show gY (T4 "look") [T4 "day",T4 "rules",T4 "holds",T4 "leaves"]=true;decide+kernel
theorem HM:T4 "lets_go"∉bX:=Kg
theorem HN:T4 "as_row"∉bX:=Kg
def RC(xs:List De)(ss:List Sf)(n:Int)(rows:List Ro)(l CR CP CL ga ua:J7)(R:Rn)(st:i4×List Lk)(Y:Dl):Prop:=∃(o6 o7 o8:Option Sl),Y=[some (Sl.v (UC (UR De.enc xs))),some (Sl.v (VQ (UR (Sf.enc CP) ss))),some (Sl.v (Uy n)),some (Sl.b (UR Ro.enc rows)),some (Sl.r l CR ga ua R.fd (fT st.1.1) (gJ st.1.2)),some (Sl.o (st.2.map (Lk.enc CL))),o6,o7,o8]
def RD(CP CL:J7):List J4->List J4->(J4->Prop)->Prop:=λds es Q=>∃(xs:List De)(ss:List Sf)(n:Int)(rows:List Ro),ds=[.tuple (xs.map De.enc),.list (ss.map (Sf.enc CP)),.int n]/\es=rows.map Ro.enc/\aW xs/\rows.length<=100000/\ss.length<=41/\(∀s∈ss,HH s)/\((∀k∈kN xs n rows ss,kM k)->Q (.list ((kN xs n rows ss).map (Lk.enc CL))))
theorem RE(T:Txt Z mg t):aB P w Z mg base Km 9 t.a_q t.d_q ["deeds","shelf","day","done"] (uI Z (RD t.q0a t.q0b)):=by
 have two:=Rm T;refine T.F_q.F.okB qG (λds es Q h=>?_) (λcdv A outer s H O ds es Q E hr h0 h=>?_)
 ·obtain⟨xs,ss,n,rows,rfl,_⟩:=h;rfl
 ·obtain⟨xs,ss,n,rows,rfl,rfl,g,rl,sl,so,q⟩:=h;have hX:∀b,H b=none->∀o z,H b≠some (.frz o z):=λb hb o z e=>by
   rw[hb]at e;cases e
  refine'⟨_,?A,?B⟩
  case A=>
   refine' ak ?C ?D
   case C=>exact(ab8 (C:=t.q0c) (i:=4) (j:=3) qG.nd rfl KU T.q1Y (Rl T) (hr.mono KL) rfl T.q17 T.F_l.b fG (dv 0) (dv 2) (pv 3))
   case' D=>refine' ak ?E ?F
   case E=>exact(jh (i:=5) qG.nd rfl KU (cC ai))
   case' F=>refine' ak ?G ?H
   case G=>
    refine' km U3 rfl (dv 1) ?I (iO (cG aR (cG aR iN))) ?J
    case I=>exact(iF (n:=2) rfl (cF (aQ (i:=6) qG.nd rfl KU) (cF (aQ (i:=7) qG.nd rfl KU) iE)))
    case' J=>refine' aq ?K
    case' K=>refine' bC ?L ?M bB
    case L=>exact(PW.pt (di (aM j7 dH (bW (C:=t.q0a) T.q0g T.q0n (dv 6)) (dv 2) (aC _)) (dG (OM (C:=t.q0c) (i:=4) hr.units T.q0e T.q0p (pv 4) (bW (C:=t.q0a) T.q0g T.q0z (dv 6))))))
    case' M=>refine' ak ?N ?O
    case N=>exact(bp (i:=8) qG.nd rfl KU (PE.imp (CY (pv 4) T.q0e T.q19 (Rh T) (hr.mono KL) T.F_o.b .nil fG (aa (dv 6) (aa (dv 7) ai))) OJ))
    case' O=>refine' ak ?P ?Q
    case P=>exact(kj (i:=5) (pv 5) (dv 8))
    case' Q=>refine' aq ?R
    case' R=>refine' bC ?S ?T bB
    case S=>exact(fP (PE.imp (tK (dv 8) T.q0d T.q1W (Hn T) (hr.mono KL) T.F_j.b .nil fG) uG))
    case' T=>refine' aq ?U
    case U=>exact(Fp (C:=t.q0c) (i:=4) hX (pv 4) T.q0e T.q1Z (Hz T) (hr.mono KL) T.F_m.b fG (PE.imp (tK (dv 8) T.q0d T.q1X (Ho T) (hr.mono KL) T.F_k.b .nil fG) uG))
   case' H=>refine' aq ?V
   case V=>exact(rO (pv 5))
  case B=>
  clear hr T h0 hX;simp only[mZ,T9,U9,Vr,Vf,YL,Uk,U8,V4,V5,Uz];walk_at "g";refine⟨xs,n,rows,rfl,rfl,g,rl,λgR l ga ua=>?_⟩;have q:Q (.list ((jY (cx xs n rows) ss).2.map (Lk.enc t.q0b))):=q (HL _ gR ss _ (λk hk=>nomatch hk));obtain⟨m1,m2⟩:=BA rows ([],[]);have m1:(cx xs n rows).go.length<=100000:=by
   have:(cx xs n rows).go.length<=0+rows.length:=m1;omega
  have m2:(cx xs n rows).us.length<=100000:=by
   have:(cx xs n rows).us.length<=0+rows.length:=m2;omega
  generalize hE:dE.mk _ _ _ _=EE;have eN:EE.nx=jI 5 {nx:=λx=>Q XH,rt:=Q}:=by rw[<-hE]
  have hn:(cx xs n rows).n=n:=rfl;clear hE rl;generalize cx xs n rows=R at*;refine⟨λi=>RC xs ss n rows l t.q0c t.q0a t.q0b ga ua R (jY R (ss.take i)),⟨none,none,none,rfl⟩,?_,?_⟩
  ·rintro i z Y hz ⟨o6,o7,o8,rfl⟩;rw[Ul]at hz;cases hz':ss[i]? with
   |none=>rw[hz']at hz;cases hz
   |some s=>
    rw[hz']at hz;cases hz;have ts:jY R (ss.take (i+1))=fi R (jY R (ss.take i)) s:=by
     unfold jY;rw[UZ,hz',Vt];rfl
    obtain⟨b1,b2,b3⟩:=BF R (ss.take i) ((R.go,R.us),[]);have b1:(jY R (ss.take i)).1.1.length<=R.go.length+(ss.take i).length:=b1;have b2:(jY R (ss.take i)).1.2.length<=R.us.length+(ss.take i).length:=b2;have b3:(jY R (ss.take i)).2.length<=0+(ss.take i).length:=b3;rw[U6]at b1 b2 b3;obtain⟨so1,so2⟩:=so s (UJ hz');simp only[ts];generalize jY R (ss.take i)=st at b1 b2 b3;simp only[Sf.enc];walk_at "g";have no:(decide (s.1.c.d<=R.n) && !i5 st.1.1 s.1.c.nm)=false->fi R st s=st:=λh=>by
     unfold fi;rw[JS (by rw[h];exact Ue)]
    refine⟨[T4 "name",T4 "coming",T4 "kind",T4 "makers",T4 "happenings"],_,rfl,_,vB,_,rfl,?_⟩;by_cases hd:s.1.c.d<=n
    ·rw[KI hd];refine⟨[T4 "name",T4 "coming",T4 "kind",T4 "makers",T4 "happenings"],_,rfl,_,Hx,_,rfl,BD R,?_⟩;rw[acH];by_cases hg:i5 st.1.1 s.1.c.nm=false
     ·rw[KI hg];have eS:fi R st s=((if (dP (R.at st.1) s.1 s.2).lets=true then bZ st.1 (dP (R.at st.1) s.1 s.2).row else st.1),st.2++[dP (R.at st.1) s.1 s.2]):=by
       unfold fi;rw[KI (by rw[hn,decide_eq_true hd,hg];rfl)]
      have gR':pP (R.at st.1):=⟨gR.rl,gR.hd,gR.ll,gR.lk⟩;refine⟨acC R,st.1.1.map (·.1),by unfold fT;rw[Uo,Uo];rfl,st.1.2,by unfold gJ;rw[Uo];rfl,?_⟩;refine⟨R.at st.1,s.1,s.2,by rw[<-Q9];rfl,gR',so1,so2,Ry two _ _ _,by rw[T6];omega,bX,⟨_,rfl⟩,HM,dP (R.at st.1) s.1 s.2,rfl,Hw gR',_,rfl,?_⟩;rw[eS];generalize dP (R.at st.1) s.1 s.2=k;by_cases hl:k.lets=true
      ·rw[KI hl,KI hl];refine⟨rfl,BD R,bX,⟨_,rfl⟩,HN,k,rfl,k.nm,.int k.d,jv k.lv,rfl,by unfold fT;rw[T6];omega,by unfold gJ;rw[T6];omega,?_⟩;have e3:st.2.map (Lk.enc t.q0b)++[k.enc t.q0b]=(st.2++[k]).map (Lk.enc t.q0b):=by rw[UA];rfl
       rw[HB,e3];cases hv:k.lv with
       |none=>
        have e2:bZ st.1 k.row=(jw st.1.1 k.nm k.d,st.1.2):=by
         unfold bZ;rw[show k.row.lv=none from hv];rfl
        exact .inl ⟨rfl,_,_,_,by rw[e2]⟩
       |some v=>
        have e2:bZ st.1 k.row=(jw st.1.1 k.nm k.d,pR st.1.2 v):=by
         unfold bZ;rw[show k.row.lv=some v from hv];rfl
        exact .inr ⟨v,rfl,_,_,_,by rw[HC,e2]⟩
      ·rw[JS hl,JS hl];exact⟨_,_,_,by rw[UA];rfl⟩
     ·rw[JS hg,no (by rw[Xj]at hg;rw[hg,ZM];rfl)];exact⟨_,_,_,rfl⟩
    ·rw[JS hd,no (by rw[hn,decide_eq_false hd];rfl)];exact⟨_,_,_,rfl⟩
  ·rintro Y ⟨o6,o7,o8,rfl⟩;rw[eN,T6,UL (T8 _)];walk_at "g";exact q
theorem HP:bu (ar ve) ["looks"] ["look"] 1 [] ⟨Uh,[(T7 ".0",LG),(T7 "look",LG)],false,false,[]⟩:= .of
def bE(ks:List Lk):List Ro:=(ks.filter Lk.lets).map Lk.row
def RF(CL:J7):Fa:=λds Q=>∃ks:List Lk,ds=[.list (ks.map (Lk.enc CL))]/\(∀k∈ks,kM k)/\ks.length<=100000/\Q (.list ((bE ks).map Ro.enc))
theorem HQ(T:Txt Z mg t):aB P w Z mg base Km 2 t.a_s t.d_s ["looks"] (aP Z (RF t.q0b)):=by
 refine T.F_s.F.okD Pz (λds Q h=>?_) (λ_ _ _ _ H O ds Q E hr h=>?_)
 ·obtain⟨ks,rfl,_⟩:=h;rfl
 ·obtain⟨ks,rfl,ok,le,q⟩:=h;refine'⟨_,?A,?B⟩
  case A=>
   refine' aq ?C
   case' C=>refine' aK ?D
   case' D=>refine' fe ?E
   case E=>exact(fq rfl HP (df (dv 0)) aR b7 KL (λ_ _ _ _=>(aQ (i:=0) HP.nd rfl KU)) (λ_ _ _ _=>(eF (fP (PE.imp (tK (dv 0) T.q0d T.q1W (Hn T) (hr.mono KL) T.F_j.b .nil fG) uG)))) (λ_ _ _ _=>(PE.imp (tK (dv 0) T.q0d T.q1X (Ho T) (hr.mono KL) T.F_k.b .nil fG) uG)))
  case B=>
  clear hr T;walk_at "g";refine⟨by rw[T6];omega,d7 Lk.lets (λk=>k.row.enc) (λk hk R S h=>?_) ?_⟩
  ·walk_at "g";refine⟨bX,⟨_,rfl⟩,HM,k,rfl,ok k hk,_,rfl,?_⟩;by_cases hl:k.lets=true
   ·rw[KI hl]at h⊢;exact⟨bX,⟨_,rfl⟩,HN,k,rfl,h⟩
   ·rw[JS hl]at h⊢;exact h
  ·have e:(ks.filter Lk.lets).map (λk=>k.row.enc)=(bE ks).map Ro.enc:=by unfold bE;rw[Uo];rfl
   rw[e];exact q
def jZ(xs:List De)(ss:List Sf)(st:List Ro×List Lk)(n:Int):List Ro×List Lk:=(st.1++bE (kN xs n st.1 ss),st.2++kN xs n st.1 ss)
def fM(xs:List De)(ss:List Sf)(ns:List Int):List Ro×List Lk:=ns.foldl (jZ xs ss) ([],[])
theorem BG(g:gG xs):(bg xs).length<=41:=by
 unfold bg;rw[T6,jT];exact g.gx.gp.ln
theorem RG(xs:List De)(n:Int)(rows:List Ro)(ss:List Sf):(kN xs n rows ss).length<=ss.length:=by
 have h:=(BF (cx xs n rows) ss (((cx xs n rows).go,(cx xs n rows).us),[])).2.2;rw[U8,W8]at h;exact h
theorem HR(ks:List Lk):(bE ks).length<=ks.length:=by
 unfold bE;rw[T6];exact UU _ _
theorem RH{ns:List Int}(h:ns[i]?=some n):fM xs ss (ns.take (i+1))=jZ xs ss (fM xs ss (ns.take i)) n:=by
 unfold fM;rw[UZ,h,Vt];rfl
def RI(xs:List De)(ss:List Sf)(ns:List Int)(CP CL:J7)(i:Nat)(st:List Ro×List Lk)(Y:Dl):Prop:=∃(o6 o7:Option Sl),st.1.length<=41*i/\st.2.length<=41*i/\(∀k∈st.2,kM k)/\Y=[some (Sl.v (UC (UR De.enc xs))),some (Sl.v (UC (UR Uy ns))),some (Sl.v (VQ [])),some (Sl.v (VQ (ss.map (Sf.enc CP)))),some (Sl.o (st.1.map Ro.enc)),some (Sl.o (st.2.map (Lk.enc CL))),o6,o7]
def F_r(CL:J7):Fa:=λds Q=>∃(xs:List De)(ns:List Int),ds=[.tuple (xs.map De.enc),.tuple (ns.map .int),.list []]/\aW xs/\ns.length < 64/\((∀k∈(fM xs (bg xs) ns).2,kM k)->(fM xs (bg xs) ns).2.length<=100000->Q (.list ((fM xs (bg xs) ns).2.map (Lk.enc CL))))
theorem acG(T:Txt Z mg t):aB P w Z mg base Km 10 t.a_r t.d_r ["deeds","days","done"] (aP Z (F_r t.q0b)):=by
 refine T.F_r.F.okD qH (λds Q h=>?_) (λ_ _ _ _ H O ds Q E hr h=>?_)
 ·obtain⟨xs,ns,rfl,_⟩:=h;rfl
 ·obtain⟨xs,ns,rfl,g,nl,q⟩:=h;refine'⟨_,?A,?B⟩
  case A=>
   refine' ak ?C ?D
   case C=>exact(bp (i:=3) qH.nd rfl KU (aH (Rr T) hr T.F_p (aa (dv 0) ai)))
   case' D=>refine' ak ?E ?F
   case E=>exact(jh (i:=4) qH.nd rfl KU (Md rfl T.q02 LM (bD (dv 2) bo)))
   case' F=>refine' ak ?G ?H
   case G=>exact(jh (i:=5) qH.nd rfl KU (cC ai))
   case' H=>refine' ak ?I ?J
   case I=>
    refine' nS U3 rfl (dv 1) ?K aR ?L
    case K=>exact(aQ (i:=6) qH.nd rfl KU)
    case' L=>refine' ak ?M ?N
    case M=>exact(bp (i:=7) qH.nd rfl KU (OR (j:=4) (RE T) (hr.mono KL) rfl T.F_q.m T.F_q.kp T.F_q.b fG (dv 0) (dv 3) (dv 6) (pv 4)))
    case' N=>refine' ak ?O ?P
    case O=>exact(y9 (i:=4) (pv 4) (aH (HQ T) hr T.F_s (aa (dv 7) ai)))
    case' P=>refine' aq ?Q
    case Q=>exact(y9 (i:=5) (pv 5) (dv 7))
   case' J=>refine' aq ?R
   case R=>exact(rO (pv 5))
  case B=>
  clear hr T;walk_at "g";refine⟨xs,rfl,g.gd,λso=>?_⟩;have sl:=BG g.gd;generalize bg xs=ss at*;generalize hE:dE.mk _ _ _ _=EE;have eN:EE.nx=jI 5 {nx:=λx=>Q XH,rt:=Q}:=by rw[<-hE]
  clear hE;refine⟨λi=>RI xs ss ns t.q0a t.q0b i (fM xs ss (ns.take i)),⟨none,none,UY _,UY _,(λk hk=>nomatch hk),rfl⟩,?_,?_⟩
  ·rintro i z Y hz ⟨o6,o7,l1,l2,ok,rfl⟩;rw[Ul]at hz;cases hz':ns[i]? with
   |none=>rw[hz']at hz;cases hz
   |some n=>
    rw[hz']at hz;cases hz;have hi:=(Uj.mp hz').1;simp only[RH hz'];generalize fM xs ss (ns.take i)=st at*;walk_at "g";have k1:=RG xs n st.1 ss;have k2:=HR (kN xs n st.1 ss);refine⟨xs,ss,n,st.1,rfl,rfl,g,J1,sl,so,λkok=>⟨kN xs n st.1 ss,rfl,kok,J1,_,rfl,by rw[T6,T6];omega,_,rfl,by rw[T6,T6];omega,?_⟩⟩;have a1:(jZ xs ss st n).1.length<=41*(i+1):=by
     show(st.1++_).length<=_;rw[Ux];omega
    have a2:(jZ xs ss st n).2.length<=41*(i+1):=by
     show(st.2++_).length<=_;rw[Ux];omega
    refine⟨_,_,a1,a2,λk hk=>?_,by rw[<-UA,<-UA];rfl⟩;rcases Um.mp hk with z|z
    ·exact ok k z
    ·exact kok k z
  ·rintro Y ⟨o6,o7,l1,l2,ok,rfl⟩;rw[T6,UL (T8 _)]at l2 ok;rw[eN,T6,UL (T8 _)];walk_at "g";exact q ok J1
def RK(CL:J7):Fa:=λds Q=>∃xs:List De,ds=[.tuple (xs.map De.enc)]/\aW xs/\ju xs/\((∀k∈(fM xs (bg xs) (bh xs)).2,kM k)->(fM xs (bg xs) (bh xs)).2.length<=100000->Q (.list ((fM xs (bg xs) (bh xs)).2.map (Lk.enc CL))))
theorem HS(T:Txt Z mg t):aB P w Z mg base Km 11 t.a_t t.d_t ["deeds"] (aP Z (RK t.q0b)):=by
 refine T.F_t.F.okD PB (λds Q h=>?_) (λ_ _ _ _ H O ds Q E hr h=>?_)
 ·obtain⟨xs,rfl,_⟩:=h;rfl
 ·obtain⟨xs,rfl,g,few,q⟩:=h;refine'⟨_,?A,?B⟩
  case A=>
   refine' aq ?C
   case' C=>refine' aK ?D
   case D=>exact(aH (acG T) hr T.F_r (aa (dv 0) (aa (aH (Bs T) hr T.F_h (aa (dv 0) ai)) (aa (fe (cC ai)) ai))))
  case B=>
  clear hr T;walk_at "g";exact⟨xs,rfl,g.gd,λ_=>few,λ_ tl=>⟨xs,bh xs,rfl,g,tl,q⟩⟩
theorem HU:bu (ar vh) ["deeds","rows","row"] ["name","rows"] 1 [1] ⟨Uh,[ (T7 ".0",LG),(T7 "name",LG),(T7 "rows",Uw)],false,false,[]⟩:= .of
def iA{α:Type}(m:List (Str×α))(k:Str)(v:α):List (Str×α):=if (m.any λp=>decide (p.1=k))=true then m.map (λp=>if p.1=k then(p.1,v) else p) else m++[(k,v)]
def g9{α:Type}(f:α->J4)(m:List (Str×α)):List (ao×J4):=m.map λp=>(VG p.1,f p.2)
def hJ{α:Type}(m:List (Str×α))(z:Str):Option α:=(m.find? λp=>decide (p.1=z)).map (·.2)
theorem HV{α:Type}(f:α->J4)(m:List (Str×α))(k:Str)(v:α):gT (g9 f m) (.inr k) (f v)=g9 f (iA m k v):=by
 have e:((g9 f m).any λp=>decide (p.1=VG k))=m.any λp=>decide (p.1=k):=by
  unfold g9;rw[Yc];congr 1;funext p;simp only[Wr,decide_eq_decide];exact jO
 unfold gT iA;rw[e];split
 ·unfold g9;rw[Uo,Uo];apply VN;intro p _;simp only[Wr];by_cases h:p.1=k
  ·rw[KI (by rw[h]),KI h]
  ·rw[JS (λe=>h (jO.mp e)),JS h]
 ·unfold g9;rw[UA];rfl
theorem HW{α:Type}(m:List (Str×α))(k:Str)(v:α):(iA m k v).length<=m.length+1:=by
 unfold iA;split<;>simp
theorem BH{α:Type}(m:List (Str×α))(k:Str)(v:α)(z:Str):hJ (iA m k v) z=if k=z then some v else hJ m z:=by
 unfold iA hJ;by_cases h:(m.any λp=>decide (p.1=k))=true
 ·rw[KI h]
  induction m with
  |nil=>cases h
  |cons p m ih=>
   rw[T9,Vj,Vj];by_cases hp:p.1=k
   ·rw[KI hp];by_cases hz:k=z
    ·rw[KI hz,hp,hz];simp
    ·rw[JS hz];have e1:decide (p.1=z)=false:=decide_eq_false (λe=>hz (by rw[<-hp,e]));simp only[e1];have key:∀l:List (Str×α),(l.map λp=>if p.1=k then(p.1,v) else p).find? (λp=>decide (p.1=z))=l.find? λp=>decide (p.1=z):=λl=>by
      induction l with
      |nil=>rfl
      |cons a l ih=>
       rw[T9,Vj,Vj,ih];by_cases ha:a.1=k
       ·rw[KI ha];have e2:decide (a.1=z)=false:=decide_eq_false (λe=>hz (by rw[<-ha,e]));simp only[e2]
       ·rw[JS ha]
     rw[key]
   ·rw[JS hp];rw[Vs,decide_eq_false hp,Wq]at h;have ih:=ih h;by_cases hz:p.1=z
    ·rw[decide_eq_true hz,JS (λe=>hp (by rw[hz,e]))]
    ·simp only[decide_eq_false hz];exact ih
 ·rw[JS h,oK];have no:∀p∈m,p.1≠k:=λp hp e=>h (WD.mpr ⟨p,hp,by rw[e];simp⟩);by_cases hz:k=z
  ·rw[KI hz,Yd.mpr (λp hp=>by rw[<-hz];simpa using no p hp),hz];simp
  ·rw[JS hz,Vj,decide_eq_false hz];simp
theorem HX{α:Type}(f:α->J4):∀(m:List (Str×α))(z:Str),bq (m.map (·.1)) (m.map λp=>f p.2) z=(hJ m z).map f
 | [],_=>rfl
 |p::m,z=>by
  have ih:=HX f m z;unfold hJ at ih⊢;rw[T9,T9,bq,Vj];by_cases h:p.1=z
  ·rw[KI h,decide_eq_true h];rfl
  ·rw[JS h,decide_eq_false h];exact ih
theorem HY{α:Type}(f:α->J4)(m:List (Str×α)):(g9 f m).map (·.1)=(m.map (·.1)).map VG:=by
 unfold g9;rw[Uo,Uo];rfl
theorem HZ{α:Type}(f:α->J4)(m:List (Str×α)):(g9 f m).map (·.2)=m.map λp=>f p.2:=by
 unfold g9;rw[Uo];rfl
def nF(rs:List Ro):List (Str×Ro):=rs.foldl (λm r=>iA m r.nm r) []
theorem Ia{α β:Type}(kf:β->Str)(vf:β->α):∀(rs:List β)(m:List (Str×α)),(rs.foldl (λm r=>iA m (kf r) (vf r)) m).length<=m.length+rs.length
 | [],m=>T8 _
 |r::rs,m=>by
  have h:=Ia kf vf rs (iA m (kf r) (vf r));have h2:=HW m (kf r) (vf r);rw[UO,Uk];omega
theorem BI{α β:Type}(kf:β->Str)(vf:β->α)(z:Str):∀(rs:List β)(m:List (Str×α)),hJ (rs.foldl (λm r=>iA m (kf r) (vf r)) m) z=rs.foldl (λo r=>if kf r=z then some (vf r) else o) (hJ m z)
 | [],m=>rfl
 |r::rs,m=>by
  rw[UO,UO,BI kf vf z rs,BH]
def hU(xs:List De):List Ro:=bE (fM xs (bg xs) (bh xs)).2
structure Pl where
 nm:Str
 d:Option Int
 lv:Option Str
def Pl.enc(p:Pl):J4:= .tuple [.str p.nm,cI p.d,jv p.lv]
def Ro.pl(r:Ro):Pl:=⟨r.nm,some r.d,r.lv⟩
def iB(rs:List Ro)(z:Str):Option Ro:=rs.foldl (λo r=>if r.nm=z then some r else o) none
def dQ(xs:List De):List Pl:=(bK (aA xs)).map λc=>((iB (hU xs) c.nm).map Ro.pl).getD ⟨c.nm,none,none⟩
def F_x:Fa:=λds Q=>∃xs:List De,ds=[.tuple (xs.map De.enc)]/\aW xs/\ju xs/\Q (.tuple ((dQ xs).map Pl.enc))
theorem aan(T:Txt Z mg t):aB P w Z mg base Km 12 t.a_x t.d_x ["deeds"] (aP Z F_x):=by
 refine T.F_x.F.okD A5 (λds Q h=>?_) (λ_ _ _ _ H O ds Q E hr h=>?_)
 ·obtain⟨xs,rfl,_⟩:=h;rfl
 ·obtain⟨xs,rfl,g,few,q⟩:=h;refine'⟨_,?A,?B⟩
  case A=>
   refine' ak ?C ?D
   case C=>exact(xJ (i:=1) A5.nd rfl KU xI)
   case' D=>refine' ak ?E ?F
   case E=>
    refine' km U3 rfl (aH (HQ T) hr T.F_s (aa (aH (HS T) hr T.F_t (aa (dv 0) ai)) ai)) ?G aR ?H
    case G=>exact(aQ (i:=2) A5.nd rfl KU)
    case' H=>refine' aq ?I
    case I=>exact(xK (i:=1) hr.units (pv 1) (av aF aG (dv 2) af) (dv 2))
   case' F=>refine' aq ?J
   case' J=>refine' ET 1 ?K
   case' K=>refine' aK ?L
   case L=>exact(PE.imp (eD ia rfl T.q0h fZ (bD (fe (kr rfl HU (df (aH (Bi T) hr T.F_M (aa (dv 0) ai))) aR b7 KL (λ_ _ _ _=>(aQ (i:=0) HU.nd rfl KU)) (λ_ _ _ _=>ft) (λ_ _ _ _=>(Ff hr.units (dv 1) (dv 0) (bH (aa (dv 0) (aa dF (aa dF ai)))) ⟨rfl,rfl,rfl,rfl⟩)))) bo)) (bI ie))
  case B=>
  clear hr T;walk_at "g";refine⟨xs,rfl,g,few,λkok kl=>⟨_,rfl,kok,kl,_,rfl,?_⟩⟩;have rl:(hU xs).length<=100000:=UN (HR _) kl;have q:Q (.tuple ((bK (aA xs)).map λc=>(((iB (hU xs) c.nm).map Ro.pl).getD ⟨c.nm,none,none⟩).enc)):=by
   have q:Q (.tuple ((dQ xs).map Pl.enc)):=q;unfold dQ at q;rw[Uo]at q;exact q
  have eR:bE (fM xs (bg xs) (bh xs)).2=hU xs:=rfl;rw[eR];clear kok kl few eR;generalize hU xs=rs at*;refine⟨λi Y=>∃o2,Y=[some (Sl.v (UC (UR De.enc xs))),some (Sl.k (g9 Ro.enc (nF (rs.take i)))),o2],⟨none,rfl⟩,?_,?_⟩
  ·rintro i z Y hz ⟨o2,rfl⟩;rw[Ul]at hz;cases hz':rs[i]? with
   |none=>rw[hz']at hz;cases hz
   |some r=>
    rw[hz']at hz;cases hz;have ts:nF (rs.take (i+1))=iA (nF (rs.take i)) r.nm r:=by
     unfold nF;rw[UZ,hz',Vt];rfl
    have ml:(nF (rs.take i)).length<=0+(rs.take i).length:=Ia (λr:Ro=>r.nm) (λr=>r) (rs.take i) [];rw[U6]at ml;simp only[ts];generalize nF (rs.take i)=M at*;simp only[Ro.enc];walk_at "g";exact⟨by unfold g9;rw[T6];omega,HV Ro.enc M r.nm r,_,rfl⟩
  ·rintro Y ⟨o2,rfl⟩;rw[T6,UL (T8 _)];have ma:∀z,hJ (nF rs) z=iB rs z:=λz=>BI (λr:Ro=>r.nm) (λr=>r) z rs [];generalize nF rs=M at*;walk_at "g";have pl:=g.gd.gx.gp.ln;refine⟨M.map (·.1),HY _ _,xs,rfl,g.gd.gx,_,rfl,by rw[T6,T6,jT];omega,?_⟩;rw[HZ];refine jU (λ_=>true) (λz=>(((iB rs z).map Ro.pl).getD ⟨z,none,none⟩).enc) (λz hz R S h1 _=>?_) ?_
   ·walk_at "g";have h:=h1 rfl;refine⟨_,_,rfl,?_⟩;rw[HX Ro.enc,ma]
    revert h
    cases iB rs z with
    |none=>exact id
    |some r=>exact id
   ·rw[iu,Uo];exact q
theorem aW.perm(g:aW xs)(h:ys.Perm xs):aW ys:=by
 obtain⟨⟨gx,d2,d3,d4,d5,d6⟩,n2,n3,n4,n5⟩:=g;exact⟨⟨gx.perm h,λd nm r z=>d2 d nm r (h.mem_iff.mp z),λd nm r z=>d3 d nm r (h.mem_iff.mp z),h.nodup_iff.mpr d4,λx hx=>d5 x (h.mem_iff.mp hx),λx hx y hy=>d6 x (h.mem_iff.mp hx) y (h.mem_iff.mp hy)⟩,λd nm r z=>n2 d nm r (h.mem_iff.mp z),λd nm r z=>n3 d nm r (h.mem_iff.mp z),λx hx y hy=>n4 x (h.mem_iff.mp hx) y (h.mem_iff.mp hy),λx hx y hy=>n5 x (h.mem_iff.mp hx) y (h.mem_iff.mp hy)⟩
theorem Ib(h:ys.Perm xs):(aA ys).Perm (aA xs):=h.filterMap _
theorem BJ(g:aW xs)(h:ys.Perm xs):bK (aA ys)=bK (aA xs):=Ge g.gd.gx.gp.nd (Ib h)
theorem Ic(g:aW xs)(h:ys.Perm xs)(c:Pp):fK (aA ys) c=fK (aA xs) c:=by
 unfold fK;rw[BJ g h]
theorem Ie(h:∀c,fK qs c=fK ps c):∀(f:Nat)(l:List Pp)(i:Nat),iz qs f l i=iz ps f l i
 |0,_,_=>rfl
 |f+1,l,i=>by
  unfold iz;cases l[i]? with
  |none=>rfl
  |some c=>
   show iz qs f (l++kL qs l c) (i+1)=iz ps f (l++kL ps l c) (i+1);rw[show kL qs l c=kL ps l c by unfold kL;rw[h],Ie h f]
theorem RM(g:aW xs)(h:ys.Perm xs)(c:Pp):cM (aA ys) c=cM (aA xs) c:=by
 unfold cM;rw[(Ib h).length_eq];exact Ie (Ic g h) _ _ _
theorem Ig(g:aW xs)(h:ys.Perm xs)(c:Pp):aU ys c=aU xs c:=by
 unfold aU;rw[Ic g h,ab2 (l:=fh ys c.nm) (l':=fh xs c.nm) ((h.filter _).map _)]
theorem aci(h:ys.Perm xs)(n:Int):bG ys n=bG xs n:=by
 have e:∀L,g6 ys n L↔g6 xs n L:=λL=>by
  unfold g6 sO;simp only[h.mem_iff]
 by_cases z:∃L,g6 xs n L
 ·obtain⟨L,z⟩:=z;rw[<-sP z,<-sP ((e L).mpr z)]
 ·have z':¬ ∃L,g6 ys n L:=λ⟨L,y⟩=>z ⟨L,(e L).mp y⟩;unfold bG;rw[dif_neg z,dif_neg z']
theorem Ih{us vs:List Rw}(h:vs.Perm us)(z:fS ws n us res):fS ws n vs res:=
 ⟨z.up,z.nd,λx hx=>let ⟨a,b,c⟩:=z.it x hx;⟨h.mem_iff.mpr a,b,λy hy=>c y (h.mem_iff.mp hy)⟩,λy hy=>z.al y (h.mem_iff.mp hy),by rw[h.length_eq];exact z.le⟩
theorem RO(g:aW xs)(h:ys.Perm xs)(n:Int):qP ys n=qP xs n:=by
 unfold qP;have p:(ys.map De.rw).Perm (xs.map De.rw):=h.map _;by_cases z:∃r,fS kK n (xs.map De.rw) r
 ·obtain⟨r,z⟩:=z;rw[<-Bt (Bu g) z,<-Bt (Bu (g.perm h)) (Ih p z)]
 ·have z':¬ ∃r,fS kK n (ys.map De.rw) r:=λ⟨r,y⟩=>z ⟨r,Ih p.symm y⟩;unfold vL;rw[dif_neg z,dif_neg z']
theorem RP(g:aW xs)(h:ys.Perm xs)(n:Int):vQ ys n=vQ xs n:=by
 unfold vQ;exact Ge ((BC g.gd.nd g.lv).sublist (X1.map _)) ((h.filterMap _).filter _)
theorem RQ(g:aW xs)(h:ys.Perm xs)(n:Int)(rows:List Ro):cx ys n rows=cx xs n rows:=by
 unfold cx;rw[aci h,RO g h,RP g h]
theorem acv(g:aW xs)(h:ys.Perm xs):bg ys=bg xs:=by
 unfold bg;rw[BJ g h];refine VN λc _=>?_;rw[Ig g h,RM g h]
theorem RS(g:aW xs)(h:ys.Perm xs)(ss:List Sf)(ns:List Int):fM ys ss ns=fM xs ss ns:=by
 have e:jZ ys ss=jZ xs ss:=by
  funext st n;unfold jZ kN;rw[RQ g h]
 unfold fM;rw[e]
theorem RT(g:aW xs)(h:ys.Perm xs):dO ys=dO xs:=by
 unfold dO;rw[BJ g h];exact VN λc _=>Ig g h c
theorem acM(g:aW xs)(h:ys.Perm xs):cL ys=cL xs:=by
 funext x;unfold cL;rw[RT g h]
theorem BK(g:aW xs)(h:ys.Perm xs):(gI ys).Perm (gI xs):=by
 unfold gI;rw[acM g h];exact(h.map _).append (h.flatMap_right _)
theorem acE(g:aW xs)(h:ys.Perm xs):bh ys=bh xs:=by
 have e:∀ns,i3 ys ns↔i3 xs ns:=λns=>by
  unfold i3;simp only[(BK g h).mem_iff]
 by_cases z:∃ns,i3 xs ns
 ·obtain⟨ns,z⟩:=z;rw[<-vJ z,<-vJ ((e ns).mpr z)]
 ·have z':¬ ∃ns,i3 ys ns:=λ⟨L,y⟩=>z ⟨L,(e L).mp y⟩;unfold bh;rw[dif_neg z,dif_neg z']
theorem ju.perm(f:ju xs)(g:aW xs)(h:ys.Perm xs):ju ys:=by
 obtain⟨a,L,b,c⟩:=f;exact⟨by rw[(BK g h).length_eq];exact a,L,b,λz hz=>c z ((BK g h).mem_iff.mp hz)⟩
section
theorem acI(ws:List Str)(n:Int)(xs:List Rw):∃L,fg ws n xs L:=by
 have key:∀l:List Rw,∃L,fg ws n l.reverse L:=by
  intro l
  induction l with
  |nil=>exact⟨[],fg.nil _ _⟩
  |cons x l ih=>
   obtain⟨L,h⟩:=ih;rw[XM];by_cases ho:gA ws n x
   ·cases hl:fc L x.nm with
    |none=>exact⟨_,h.put ho λy e=>by rw[hl]at e;cases e⟩
    |some y=>
     by_cases hn:y.n < x.n
     ·exact⟨_,h.put ho λy' e=>by rw[hl]at e;cases e;exact hn⟩
     ·exact⟨L,h.keep hl hn⟩
   ·exact⟨L,h.skip ho⟩
 have:=key xs.reverse
 rwa [List.reverse_reverse]at this
theorem vR(g:gG xs)(n:Int):g6 xs n (bG xs n):=by
 obtain⟨L,hL⟩:=acI iW n (xs.map De.rw);obtain⟨M,hM,_⟩:=GI g hL.res;rw[<-sP hM];exact hM
theorem RX(l:List Int):∃ns:List Int,(∀z,z∈ns↔z∈l)/\ns.Pairwise (· < ·):=by
 induction l with
 |nil=>exact⟨[],λz=>Iff.rfl,.nil⟩
 |cons x l ih=>
  obtain⟨ns,h1,h2⟩:=ih;refine⟨ns.filter (λz=>decide (z < x))++x::ns.filter (λz=>decide (x < z)),λz=>?_,Wc.mpr ⟨h2.filter _,Vd.mpr ⟨λy hy=>?_,h2.filter _⟩,λy hy w hw=>?_⟩⟩
  ·rw[Um,Ud,Uv,Uv,Ud,<-h1];simp only[decide_eq_true_eq];constructor
   ·rintro(⟨h,_⟩|h|⟨h,_⟩)
    ·exact .inr h
    ·exact .inl h
    ·exact .inr h
   ·rintro(h|h)
    ·exact .inr (.inl h)
    ·rcases Y3 z x with y|y|y
     ·exact .inl ⟨h,y⟩
     ·exact .inr (.inl y)
     ·exact .inr (.inr ⟨h,y⟩)
  ·exact of_decide_eq_true (Uv.mp hy).2
  ·have y1:y < x:=of_decide_eq_true (Uv.mp hy).2;rcases Ud.mp hw with e|hw
   ·rw[e];exact y1
   ·exact Int.lt_trans y1 (of_decide_eq_true (Uv.mp hw).2)
theorem qU(xs:List De):i3 xs (bh xs):=by
 obtain⟨ns,h1,h2⟩:=RX (gI xs);have h:i3 xs ns:=⟨h1,h2⟩;rw[<-vJ h];exact h
theorem RY(go:List (Str×Int))(k:Str)(d:Int)(z:Str):i5 (jw go k d) z=(i5 go z || decide (k=z)):=by
 unfold i5 jw;split
 ·rename_i h;rw[Yc];have e:((λp:Str×Int=>decide (p.1=z))∘ λp=>if p.1=k then(p.1,d) else p)=λp=>decide (p.1=z):=by
   funext p;simp only[Wr];split<;>rfl
  rw[e];by_cases hz:k=z
  ·subst hz;rw[h];rfl
  ·rw[decide_eq_false hz,Wo]
 ·rw[List.any_append];simp
def i6(rs:List Ro)(z:Str):Bool:=rs.any λr=>decide (r.nm=z)
theorem Ii:∀(rs:List Ro)(m:i4)(z:Str),i5 (rs.foldl bZ m).1 z=(i5 m.1 z || i6 rs z)
 | [],m,z=>by rw[List.foldl_nil];simp[i6]
 |r::rs,m,z=>by
  rw[UO,Ii rs];show(i5 (jw m.1 r.nm r.d) z || i6 rs z)=_;rw[RY,Bool.or_assoc];rfl
def cZ(xs:List De)(Z:List Lk)(z:Int×Sf):List Lk:=
 if (decide (z.2.1.c.d<=z.1) && !i6 (bE Z) z.2.1.c.nm)=true then Z++[dP (cx xs z.1 (bE Z)) z.2.1 z.2.2] else Z
theorem vS(a b:List Lk):bE (a++b)=bE a++bE b:=by
 unfold bE;rw[W9,UA]
theorem Ij(k:Lk):bE [k]=if k.lets=true then [k.row] else []:=by
 unfold bE;rw[UP];split<;>rfl
theorem Ik(xs:List De)(n:Int)(Z:List Lk):∀(ss:List Sf)(ks:List Lk),∃ks',ss.foldl (fi (cx xs n (bE Z))) ((bE (Z++ks)).foldl bZ ([],[]),ks)=((bE (Z++ks')).foldl bZ ([],[]),ks')/\(ss.map λs=>(n,s)).foldl (cZ xs) (Z++ks)=Z++ks'
 | [],ks=>⟨ks,rfl,rfl⟩
 |s::ss,ks=>by
  rw[UO,T9,UO];have key:∃k1,fi (cx xs n (bE Z)) ((bE (Z++ks)).foldl bZ ([],[]),ks) s=((bE (Z++k1)).foldl bZ ([],[]),k1)/\cZ xs (Z++ks) (n,s)=Z++k1:=by
   have e1:i5 ((bE (Z++ks)).foldl bZ ([],[])).1 s.1.c.nm=i6 (bE (Z++ks)) s.1.c.nm:=by rw[Ii];rfl
   have e2:(cx xs n (bE Z)).at ((bE (Z++ks)).foldl bZ ([],[]))=cx xs n (bE (Z++ks)):=rfl;unfold fi cZ;dsimp only;rw[e1,e2,show(cx xs n (bE Z)).n=n from rfl];by_cases hc:(decide (s.1.c.d<=n) && !i6 (bE (Z++ks)) s.1.c.nm)=true
   ·rw[KI hc,KI hc];refine⟨ks++[dP (cx xs n (bE (Z++ks))) s.1 s.2],?_,by rw[Vi]⟩;rw[<-Vi,vS (Z++ks),Vt,Ij];split<;>rfl
   ·rw[JS hc,JS hc];exact⟨ks,rfl,rfl⟩
  obtain⟨k1,h1,h2⟩:=key;rw[h1,h2];exact Ik xs n Z ss k1
def dD(ns:List Int)(ss:List Sf):List (Int×Sf):=ns.flatMap λn=>ss.map λs=>(n,s)
theorem Il(xs:List De)(ss:List Sf):∀(ns:List Int)(Z:List Lk),ns.foldl (jZ xs ss) (bE Z,Z)=(bE ((dD ns ss).foldl (cZ xs) Z),(dD ns ss).foldl (cZ xs) Z)
 | [],Z=>rfl
 |n::ns,Z=>by
  obtain⟨ks,h1,h2⟩:=Ik xs n Z ss [];rw[UX]at h1 h2;have e:kN xs n (bE Z) ss=ks:=congrArg RL h1;have e2:jZ xs ss (bE Z,Z) n=(bE (Z++ks),Z++ks):=by
   unfold jZ;dsimp only;rw[e,vS]
  rw[UO,e2,Il xs ss ns];unfold dD;rw[Wv,Vt,h2]
def gK(xs:List De):List Lk:=(dD (bh xs) (bg xs)).foldl (cZ xs) []
theorem vT(xs:List De):fM xs (bg xs) (bh xs)=(bE (gK xs),gK xs):=Il xs _ _ []
theorem vU(xs:List De):hU xs=bE (gK xs):=by unfold hU;rw[vT]
def d8(s:Sf):Str:=s.1.c.nm
theorem vV(xs:List De):∀(Z0:List (Int×Sf))(Z:List Lk),∃Z',Z0.foldl (cZ xs) Z=Z++Z'/\∀k∈Z',∃z∈Z0,k.d=z.1/\k.nm=d8 z.2
 | [],Z=>⟨[],KJ,KJ⟩
 |z::Z0,Z=>by
  rw[UO];obtain⟨Z',h1,h2⟩:=vV xs Z0 (cZ xs Z z);rw[h1];have tl:∀k∈Z',∃y∈z::Z0,k.d=y.1/\k.nm=d8 y.2:=λk hk=>let ⟨y,hy,e⟩:=h2 k hk;⟨y,UD _ hy,e⟩
  unfold cZ;split
  ·refine⟨_::Z',by rw[Vi];rfl,λk hk=>?_⟩;rcases Ud.mp hk with e|hk
   ·subst e;exact⟨z,UG,rfl,rfl⟩
   ·exact tl k hk
  ·exact⟨Z',rfl,tl⟩
theorem vW:i6 rs z=true↔∃r∈rs,r.nm=z:=by
 unfold i6;rw[WD];simp only[decide_eq_true_eq]
theorem BL(xs:List De):∀(Z0:List (Int×Sf))(Z:List Lk),((bE Z).map Ro.nm).Nodup->((bE (Z0.foldl (cZ xs) Z)).map Ro.nm).Nodup
 | [],Z,h=>h
 |z::Z0,Z,h=>by
  rw[UO];refine BL xs Z0 _ ?_;unfold cZ;split
  ·rename_i hc;rw[U0,Vp]at hc;rw[vS,Ij];split
   ·rw[UA,T9,U9,WT];refine⟨h,KJ,λa ha b hb e=>?_⟩;rw[Ur]at hb;obtain⟨r,hr,rfl⟩:=Ug.mp ha;have:i6 (bE Z) z.2.1.c.nm=true:=vW.mpr ⟨r,hr,e.trans hb⟩;rw[hc.2]at this;cases this
   ·rw[UX];exact h
  ·exact h
theorem vX(xs:List De):((hU xs).map Ro.nm).Nodup:=by
 rw[vU];exact BL xs _ [] Zz
theorem BM:∀(rs:List Ro)(o:Option Ro),(∀r∈rs,r.nm≠z)->rs.foldl (λo r=>if r.nm=z then some r else o) o=o
 | [],_,_=>rfl
 |r::rs,o,h=>by
  rw[UO,JS (h r UG)];exact BM rs o λx hx=>h x (UD _ hx)
theorem qV{rs:List Ro}(nd:(rs.map Ro.nm).Nodup):iB rs z=some r↔r∈rs/\r.nm=z:=by
 have at1:∀y∈rs,y.nm=z->iB rs z=some y:=λy hy e=>by
  obtain⟨a,b,rfl⟩:=XD hy;unfold iB;rw[Vt,UO,KI e];refine BM b _ λx hx e2=>?_;rw[UA,T9]at nd;have:=(Vz.mp (WT.mp nd).2.1).1;exact this (by rw[e,<-e2];exact V2 hx)
 constructor
 ·intro h;by_cases hy:∃y∈rs,y.nm=z
  ·obtain⟨y,hy,e⟩:=hy;rw[at1 y hy e]at h;cases h;exact⟨hy,e⟩
  ·have:=BM rs none λx hx e=>hy ⟨x,hx,e⟩;have h:rs.foldl (λo r=>if r.nm=z then some r else o) none=some r:=h;rw[this]at h;cases h
 ·exact λh=>at1 r h.1 h.2
def fB(xs:List De)(z:Str):Option Int:=(iB (hU xs) z).map (·.d)
theorem pT:fB xs z=some d↔∃r∈hU xs,r.nm=z/\r.d=d:=by
 unfold fB;rw[Vn];constructor
 ·rintro⟨r,h,e⟩;obtain⟨h1,h2⟩:=(qV (vX xs)).mp h;exact⟨r,h1,h2,e⟩
 ·rintro⟨r,h1,h2,e⟩;exact⟨r,(qV (vX xs)).mpr ⟨h1,h2⟩,e⟩
theorem vY:r∈bE Z↔∃k∈Z,k.lets=true/\k.row=r:=by
 unfold bE;rw[Ug];constructor
 ·rintro⟨k,hk,e⟩;obtain⟨h1,h2⟩:=Uv.mp hk;exact⟨k,h1,h2,e⟩
 ·rintro⟨k,h1,h2,e⟩;exact⟨k,Uv.mpr ⟨h1,h2⟩,e⟩
theorem Im(g:aW xs):((bg xs).map d8).Nodup:=by
 unfold bg;rw[Uo];exact((iq (aA xs)).map (·.nm)).nodup_iff.mpr g.gd.gx.gp.nd
def d9(xs:List De)(T1:List Int)(n:Int)(ss1:List Sf):List Lk:=(dD T1 (bg xs)++ss1.map λs=>(n,s)).foldl (cZ xs) []
theorem acP(hT:bh xs=T1++n::T2)(hS:bg xs=ss1++ss2):dD (bh xs) (bg xs)=(dD T1 (bg xs)++ss1.map λs=>(n,s))++((ss2.map λs=>(n,s))++dD T2 (bg xs)):=by
 unfold dD;have e:((bg xs).map λs=>(n,s))=(ss1.map λs=>(n,s))++ss2.map λs=>(n,s):=by rw[hS,UA]
 rw[hT,Wi,Wv,e,Vi,Vi]
theorem BN(hT:bh xs=T1++n::T2):(∀m∈T1,m < n)/\∀m∈T2,n < m:=by
 have h:=(qU xs).2;rw[hT]at h;obtain⟨_,h2,h3⟩:=Wc.mp h;exact⟨λm hm=>h3 m hm n UG,(Vd.mp h2).1⟩
theorem Io(g:aW xs)(hT:bh xs=T1++n::T2)(hS:bg xs=ss1++ss2)(r:Ro):r∈bE (d9 xs T1 n ss1)↔r∈hU xs/\(r.d < n\/(r.d=n/\r.nm∈ss1.map d8)):=by
 obtain⟨t1,t2⟩:=BN hT;have nd:=Im g;rw[hS,UA]at nd;have nd:=(WT.mp nd).2.2;obtain⟨K1,a1,a2⟩:=vV xs (dD T1 (bg xs)++ss1.map λs=>(n,s)) [];rw[Vf]at a1;obtain⟨K2,b1,b2⟩:=vV xs ((ss2.map λs=>(n,s))++dD T2 (bg xs)) (d9 xs T1 n ss1);have eA:gK xs=d9 xs T1 n ss1++K2:=by
  rw[<-b1];unfold gK d9;rw[acP hT hS,Vt]
 have eR:hU xs=bE (d9 xs T1 n ss1)++bE K2:=by rw[vU,eA,vS]
 have w1:∀r∈bE (d9 xs T1 n ss1),r.d < n\/(r.d=n/\r.nm∈ss1.map d8):=λr hr=>by
  unfold d9 at hr;rw[a1]at hr;obtain⟨k,hk,_,rfl⟩:=vY.mp hr;obtain⟨z,hz,e1,e2⟩:=a2 k hk;rcases Um.mp hz with hz|hz
  ·obtain⟨m,hm,hz⟩:=VC.mp hz;obtain⟨s,_,rfl⟩:=Ug.mp hz;exact .inl (by show k.d < n;rw[e1];exact t1 m hm)
  ·obtain⟨s,hs,rfl⟩:=Ug.mp hz;exact .inr ⟨e1,by show k.nm∈_;rw[e2];exact V2 hs⟩
 constructor
 ·exact λh=>⟨by rw[eR];exact WN _ h,w1 r h⟩
 ·rintro⟨h,hd⟩;rw[eR]at h;rcases Um.mp h with h|h
  ·exact h
  ·exfalso;obtain⟨k,hk,_,rfl⟩:=vY.mp h;obtain⟨z,hz,e1,e2⟩:=b2 k hk;have hd:k.d < n\/(k.d=n/\k.nm∈ss1.map d8):=hd;rcases Um.mp hz with hz|hz
   ·obtain⟨s,hs,rfl⟩:=Ug.mp hz;have e1:k.d=n:=e1;rcases hd with hd|hd
    ·omega
    ·exact nd _ hd.2 _ (V2 hs) e2
   ·obtain⟨m,hm,hz⟩:=VC.mp hz;obtain⟨s,_,rfl⟩:=Ug.mp hz;have:=t2 m hm;have e1:k.d=m:=e1;omega
theorem acF(xs:List De)(T1:List Int)(n:Int)(ss1:List Sf):((bE (d9 xs T1 n ss1)).map Ro.nm).Nodup:=BL xs _ [] Zz
def fU(xs:List De)(G:Gn):Prop:=∀z,G.at z=fB xs z
def j0(xs:List De)(n:Int)(s:Sf):Bool:=decide (s.1.c.d<=n) && (match fB xs (d8 s) with
 |some d=>decide (n<=d)
 |none=>true)
theorem BO:∀(m:List (Str×Int))(z:Str),kJ (m.map (·.1)) (m.map (·.2)) z=hJ m z
 | [],_=>rfl
 |p::m,z=>by
  have ih:=BO m z;unfold hJ at ih⊢;rw[T9,T9,Vj];show(if p.1=z then some p.2 else kJ _ _ z)=_;by_cases h:p.1=z
  ·rw[KI h,decide_eq_true h];rfl
  ·rw[JS h,decide_eq_false h];exact ih
theorem Ip:∀(rs:List Ro)(m:i4),(rs.foldl bZ m).1=rs.foldl (λg r=>iA g r.nm r.d) m.1
 | [],_=>rfl
 |r::rs,m=>by rw[UO,UO,Ip rs];rfl
theorem Iq{z:Str}:∀(rs:List Ro)(o:Option Ro),rs.foldl (λo r=>if r.nm=z then some r.d else o) (o.map (·.d))=(rs.foldl (λo r=>if r.nm=z then some r else o) o).map (·.d)
 | [],_=>rfl
 |r::rs,o=>by
  rw[UO,UO,<-Iq rs];congr 1;split<;>rfl
theorem R1(xs:List De)(n:Int)(rs:List Ro)(z:Str):(cx xs n rs).gn.at z=(iB rs z).map (·.d):=by
 show kJ (UR _ (rs.foldl bZ ([],[])).1) (UR _ (rs.foldl bZ ([],[])).1) z=_;rw[BO,Ip,BI (λr:Ro=>r.nm) (λr=>r.d) z rs []];exact Iq rs none
theorem R3{xs:List De}{ss1 ss2:List Sf}{s:Sf}(hS:bg xs=ss1++s::ss2):∃os1 c os2,bK (aA xs)=os1++c::os2/\s=(aU xs c,cM (aA xs) c)/\ss1.map d8=os1.map (·.nm):=by
 unfold bg at hS;obtain⟨os1,os',e,e1,e2⟩:=List.map_eq_append_iff.mp hS;obtain⟨c,os2,e3,e4,e5⟩:=List.map_eq_cons_iff.mp e2;exact⟨os1,c,os2,by rw[e,e3],e4.symm,by rw[<-e1,Uo];rfl⟩
theorem R4(g:aW xs)(hS:bg xs=ss1++s::ss2)(hm:m∈s.1.ts):m∈ss1.map d8:=by
 obtain⟨os1,c,os2,eo,rfl,e1⟩:=R3 hS;rw[e1];obtain⟨p,hp,rfl⟩:=Ug.mp hm;obtain⟨h1,h2⟩:=Uv.mp hp;unfold vz at h2;rw[U0]at h2;have h2:p.lt c:=h2.2;have pw:=ny g.gd.gx.gp.nd;rw[eo]at h1 pw;rcases Um.mp h1 with h|h
 ·exact V2 h
 ·exfalso;rcases Ud.mp h with e|h
  ·rw[e]at h2;exact c.lt_irr h2
  ·exact Pp.asym _ _ h2 ((Vd.mp (Wc.mp pw).2.1).1 p h)
theorem R5(g:aW xs)(hG:fU xs G)(hT:bh xs=T1++n::T2)(hS:bg xs=ss1++s::ss2)(hm:m∈s.1.ts):(cx xs n (bE (d9 xs T1 n ss1))).gn.has n m=G.has n m:=by
 have ma:=R4 g hS hm;have hr:=Io g hT hS;have nd:=acF xs T1 n ss1;unfold Gn.has;rw[R1,hG m];by_cases h:∃r∈bE (d9 xs T1 n ss1),r.nm=m
 ·obtain⟨r,h1,h2⟩:=h;rw[(qV nd).mpr ⟨h1,h2⟩,pT.mpr ⟨r,((hr r).mp h1).1,h2,rfl⟩];rfl
 ·have e1:iB (bE (d9 xs T1 n ss1)) m=none:=by
   cases e:iB (bE (d9 xs T1 n ss1)) m with
   |none=>rfl
   |some r=>exact absurd ⟨r,(qV nd).mp e⟩ h
  rw[e1];cases e:fB xs m with
  |none=>rfl
  |some d=>
   obtain⟨r,h1,h2,h3⟩:=pT.mp e;refine(decide_eq_false λz=>h ⟨r,(hr r).mpr ⟨h1,?_⟩,h2⟩).symm;rw[h2,h3];rcases Int.lt_or_eq_of_le z with z|z
   ·exact .inl z
   ·exact .inr ⟨z,ma⟩
theorem R6{r:Rp}{g g':Gn}(L:List (Str×Pt))(h:∀m∈r.ts,g.has n m=g'.has n m):cj r n g L=cj r n g' L:=by
 have e:nB r n g=nB r n g':=by
  funext z;unfold nB;congr 2;cases z.2 with
  |five=>rfl
  |two w kd=>
   unfold js iX;rw[WV λm hm=>by rw[h m hm]]
 unfold cj;rw[e]
theorem R7{r:Rp}{g g':Gn}(L:List (Str×Pt))(h:∀m∈r.ts,g.has n m=g'.has n m):cV r n g L=cV r n g' L:=by
 have e:nE r n g=nE r n g':=by
  funext z;unfold nE;congr 2;cases z.2 with
  |five=>rfl
  |two w kd=>
   unfold jt iY;rw[WV λm hm=>by rw[h m hm]]
 unfold cV;rw[e]
structure bN where
 d:Int
 nm:Str
 st:List (Str×J4)
 go:List (Str×J4)
def Lk.tri(k:Lk):bN:=⟨k.d,k.nm,k.st,k.go⟩
def j1(xs:List De)(G:Gn)(n:Int)(s:Sf):bN:=⟨n,d8 s,cj s.1 n G (bG xs n),cV s.1 n G (bG xs n)⟩
def fj(xs:List De)(G:Gn)(n:Int)(ss:List Sf):List bN:=(ss.filter (j0 xs n)).map (j1 xs G n)
theorem R8(g:aW xs)(hT:bh xs=T1++n::T2)(hS:bg xs=ss1++s::ss2):(decide (s.1.c.d<=n) && !i6 (bE (d9 xs T1 n ss1)) s.1.c.nm)=j0 xs n s:=by
 have hr:=Io g hT hS;have nd:=Im g;rw[hS,UA]at nd;have nd:d8 s∉ss1.map d8:=λz=>(WT.mp nd).2.2 _ z (d8 s) UG rfl;unfold j0;congr 1;cases e:fB xs (d8 s) with
 |none=>
  show(!i6 _ _)=true;rw[Vp,<-V0];intro z;obtain⟨r,h1,h2⟩:=vW.mp z;rw[pT.mpr ⟨r,((hr r).mp h1).1,show r.nm=d8 s from h2,rfl⟩]at e;cases e
 |some d=>
  show(!i6 _ _)=decide (n<=d);obtain⟨r,h1,h2,h3⟩:=pT.mp e;by_cases hd:n<=d
  ·rw[decide_eq_true hd,Vp,<-V0];intro z;obtain⟨r',h1',h2'⟩:=vW.mp z;obtain⟨q1,q2⟩:=(hr r').mp h1';rw[pT.mpr ⟨r',q1,show r'.nm=d8 s from h2',rfl⟩]at e;cases e;rcases q2 with q2|q2
   ·omega
   ·exact nd (by rw[show d8 s=r'.nm from h2'.symm];exact q2.2)
  ·rw[decide_eq_false hd,Bool.not_eq_false'];exact vW.mpr ⟨r,(hr r).mpr ⟨h1,.inl J1⟩,h2⟩
theorem Ir(g:aW xs)(hG:fU xs G)(hT:bh xs=T1++n::T2):∀(ss2 ss1:List Sf),bg xs=ss1++ss2->∃B,(ss2.map λs=>(n,s)).foldl (cZ xs) (d9 xs T1 n ss1)=d9 xs T1 n ss1++B/\B.map Lk.tri=fj xs G n ss2
 | [],ss1,hS=>⟨[],KJ,rfl⟩
 |s::ss2,ss1,hS=>by
  rw[T9,UO];have eA:d9 xs T1 n (ss1++[s])=cZ xs (d9 xs T1 n ss1) (n,s):=by
   unfold d9;rw[UA,<-Vi,Vt];rfl
  obtain⟨B,h1,h2⟩:=Ir g hG hT ss2 (ss1++[s]) (by rw[hS,Vi];rfl);rw[eA]at h1;rw[h1];have on:=R8 g hT hS;unfold cZ fj;dsimp only;rw[on,UP];split
  ·refine⟨_::B,by rw[Vi];rfl,?_⟩;rw[T9,T9,h2];congr 1;have hh:∀m∈s.1.ts,(cx xs n (bE (d9 xs T1 n ss1))).gn.has n m=G.has n m:=λm hm=>R5 g hG hT hS hm;show bN.mk _ _ _ _=bN.mk _ _ _ _;congr 1
   ·exact R6 (bG xs n) hh
   ·exact R7 (bG xs n) hh
  ·exact⟨B,rfl,h2⟩
theorem Iu(g:aW xs)(hG:fU xs G):∀(T2 T1:List Int),bh xs=T1++T2->∃B,(dD T2 (bg xs)).foldl (cZ xs) ((dD T1 (bg xs)).foldl (cZ xs) [])=(dD T1 (bg xs)).foldl (cZ xs) []++B/\B.map Lk.tri=T2.flatMap λn=>fj xs G n (bg xs)
 | [],T1,_=>⟨[],by simp[dD],rfl⟩
 |n::T2,T1,hT=>by
  obtain⟨B1,h1,h2⟩:=Ir g hG hT (bg xs) [] rfl;have e0:d9 xs T1 n []=(dD T1 (bg xs)).foldl (cZ xs) []:=by
   unfold d9;rw[U9,UX]
  rw[e0]at h1;have eT:(dD (T1++[n]) (bg xs)).foldl (cZ xs) []=(dD T1 (bg xs)).foldl (cZ xs) []++B1:=by
   rw[<-h1];unfold dD;rw[Wi,Vt,Wv,List.flatMap_nil,UX]
  obtain⟨B2,h3,h4⟩:=Iu g hG T2 (T1++[n]) (by rw[hT,Vi];rfl);rw[eT]at h3;refine⟨B1++B2,?_,by rw[UA,h2,h4];rfl⟩;rw[<-Vi,<-h3,<-h1];unfold dD;rw[Wv,Vt]
theorem Iw(g:aW xs)(hG:fU xs G):(gK xs).map Lk.tri=(bh xs).flatMap λn=>fj xs G n (bg xs):=by
 obtain⟨B,h1,h2⟩:=Iu g hG (bh xs) [] rfl;unfold gK;have h1:(dD (bh xs) (bg xs)).foldl (cZ xs) []=[]++B:=h1;rw[h1,Vf,h2]
theorem Iy(g:aW xs)(hG:fU xs G)(h:fB xs z=some d):d∈bh xs/\∃s∈bg xs,d8 s=z/\s.1.c.d<=d/\cj s.1 d G (bG xs d)=[]/\cV s.1 d G (bG xs d)≠[]:=by
 obtain⟨r,hr,rfl,rfl⟩:=pT.mp h;rw[vU]at hr;obtain⟨k,hk,kl,rfl⟩:=vY.mp hr;have hm:k.tri∈(gK xs).map Lk.tri:=V2 hk;rw[Iw g hG]at hm;obtain⟨n,hn,hm⟩:=VC.mp hm;obtain⟨s,hs,e⟩:=Ug.mp hm;obtain⟨h1,h2⟩:=Uv.mp hs;have e1:n=k.d:=congrArg bN.d e;have e2:d8 s=k.nm:=congrArg bN.nm e;have e3:cj s.1 n G (bG xs n)=k.st:=congrArg bN.st e;have e4:cV s.1 n G (bG xs n)=k.go:=congrArg bN.go e;unfold j0 at h2;rw[U0,decide_eq_true_eq]at h2;unfold Lk.lets at kl;rw[U0,decide_eq_true_eq,decide_eq_true_eq]at kl;show k.d∈bh xs/\∃s∈bg xs,d8 s=k.nm/\s.1.c.d<=k.d/\cj s.1 k.d G (bG xs k.d)=[]/\cV s.1 k.d G (bG xs k.d)≠[];rw[<-e1];refine⟨hn,s,h1,e2,h2.1,?_,?_⟩
 ·rw[e3];obtain⟨k',hk',eb⟩:∃(R:Rn)(q:Rp×List Pp),k=dP R q.1 q.2:=by
   clear hm e e1 e2 e3 e4 h1 h2 hs hn kl hr h;have key:∀(Z0:List (Int×Sf))(Z:List Lk),(∀k∈Z,∃(R:Rn)(q:Rp×List Pp),k=dP R q.1 q.2)->∀k∈Z0.foldl (cZ xs) Z,∃(R:Rn)(q:Rp×List Pp),k=dP R q.1 q.2:=by
    intro Z0
    induction Z0 with
    |nil=>exact λZ h=>h
    |cons z Z0 ih=>
     intro Z h;rw[UO];refine ih _ λk hk=>?_;unfold cZ at hk;split at hk
     ·rcases Um.mp hk with hk|hk
      ·exact h k hk
      ·exact⟨_,z.2,Ur.mp hk⟩
     ·exact h k hk
   exact key _ [] (λk hk=>nomatch hk) k hk
  have bl:=kl.2;rw[eb]at bl⊢;have bl:(UR sU (cj hk'.1 k'.n k'.gn k'.L)++_++_:List J4).length=0:=bl;rw[Ux,Ux,T6]at bl;exact XI (by show(cj _ _ _ _).length=0;omega)
 ·rw[e4];exact λz=>by rw[z]at kl;exact absurd kl.1 KL
end
theorem Iz:bu (ar vg) ["deeds"] ["look"] 1 [] ⟨Uh,[(T7 ".0",LG),(T7 "look",LG)],false,false,[]⟩:= .of
theorem IA:bu (ar sH) ["deeds","day","latest"] ["turn","day"] 1 [1] ⟨Uh,[ (T7 ".0",LG),(T7 "turn",LG),(T7 "day",Uw)],false,false,[]⟩:= .of
theorem IB:bu (ar sH) ["deeds","day","latest"] ["look","latest"] 1 [2] ⟨Uh,[ (T7 ".0",LG),(T7 "look",LG),(T7 "latest",Uw)],false,false,[]⟩:= .of
def Lk.cl(k:Lk):Bool:=!k.st.isEmpty && !k.go.isEmpty
def hV(xs:List De):List Lk:=(gK xs).filter Lk.cl
theorem IC:bq bX [a,b,c,d,e,f] (T4 "to_stay")=some c:=by
 simp[bX,bq,show T4 "day"≠T4 "to_stay" by decide+kernel,show T4 "paper"≠T4 "to_stay" by decide+kernel]
def F_u(CL:J7):Fa:=λds Q=>∃xs:List De,ds=[.tuple (xs.map De.enc)]/\aW xs/\ju xs/\((hV xs).length<=100000->Q (.list ((hV xs).map (Lk.enc CL))))
theorem ID(T:Txt Z mg t):aB P w Z mg base Km 12 t.a_u t.d_u ["deeds"] (aP Z (F_u t.q0b)):=by
 refine T.F_u.F.okD PD (λds Q h=>?_) (λ_ _ _ _ H O ds Q E hr h=>?_)
 ·obtain⟨xs,rfl,_⟩:=h;rfl
 ·obtain⟨xs,rfl,g,few,q⟩:=h;refine'⟨_,?A,?B⟩
  case A=>
   refine' aq ?C
   case' C=>refine' aK ?D
   case' D=>refine' fe ?E
   case E=>exact(fq rfl Iz (df (aH (HS T) hr T.F_t (aa (dv 0) ai))) aR b7 KL (λ_ _ _ _=>(aQ (i:=0) Iz.nd rfl KU)) (λ_ _ _ _=>(eF (PW.pt (di (Fw (bW (C:=t.q0b) T.q0d T.q0B (dv 0))) (dG (Fw (bW (C:=t.q0b) T.q0d T.q0s (dv 0)))))))) (λ_ _ _ _=>(dv 0)))
  case B=>
  clear hr T;walk_at "g";refine⟨xs,rfl,g,few,λkok kl=>?_⟩;rw[vT]at kl⊢;refine⟨_,rfl,by rw[T6];omega,d7 Lk.cl (λk=>k.enc t.q0b) (λk hk R S h=>?_) (q (UN (UU _ _) kl))⟩;walk_at "g";refine⟨bX,_,rfl,_,IC,_,rfl,?_⟩;rw[Ss];unfold Lk.cl at h;cases e1:k.st with
  |nil=>
   rw[e1]at h;rw[JS KL];exact h
  |cons a l=>
   rw[KI (by rfl)];refine⟨bX,_,rfl,_,Bx,_,rfl,?_⟩;rw[Ss];rw[e1]at h;cases e2:k.go with
   |nil=>
    rw[e2]at h;rw[JS KL];exact h
   |cons b m=>
    rw[e2]at h;rw[KI (by rfl)];exact h
theorem R9(h:k∈hV xs):∃a l b m,k.st=a::l/\k.go=b::m:=by
 have h:=(Uv.mp h).2;unfold Lk.cl at h;cases e1:k.st with
 |nil=>rw[e1]at h;cases h
 |cons a l=>
  cases e2:k.go with
  |nil=>rw[e1,e2]at h;cases h
  |cons b m=>exact⟨a,l,b,m,rfl,rfl⟩
def Lk.told(k:Lk):J4:= .tuple [.int k.d,.str k.nm,(k.st.head?.map bQ).getD .none,(k.go.head?.map bQ).getD .none]
def kO(xs:List De):J4:=((hV xs).head?.map Lk.told).getD .none
def F_v:Fa:=λds Q=>∃xs:List De,ds=[.tuple (xs.map De.enc)]/\aW xs/\ju xs/\Q (kO xs)
theorem IE(T:Txt Z mg t):aB P w Z mg base Km 13 t.a_v t.d_v ["deeds"] (aP Z F_v):=by
 refine T.F_v.F.okD A4 (λds Q h=>?_) (λ_ _ _ _ H O ds Q E hr h=>?_)
 ·obtain⟨xs,rfl,_⟩:=h;rfl
 ·obtain⟨xs,rfl,g,few,q⟩:=h;refine'⟨_,?A,?B⟩
  case A=>
   refine' ak ?C ?D
   case C=>exact(bp (i:=1) A4.nd rfl KU (aH (ID T) hr T.F_u (aa (dv 0) ai)))
   case' D=>refine' ak ?E ?F
   case E=>
    refine' bC ?G ?H bB
    case G=>exact(jG (sE (dv 1)))
    case H=>refine' aq (aK dF)
   case' F=>refine' ak ?I ?J
   case I=>exact(bp (i:=2) A4.nd rfl KU (av aX bf (dv 1) af))
   case' J=>refine' aq ?K
   case' K=>refine' aK ?L
   case' L=>refine' bH ?M
   case' M=>refine' aa ?N ?O
   case N=>exact(bW (C:=t.q0b) T.q0d T.q0q (dv 2))
   case' O=>refine' aa ?P ?Q
   case P=>exact(bW (C:=t.q0b) T.q0d T.q0r (dv 2))
   case' Q=>refine' aa ?R ?S
   case R=>exact(av aF aG (bW (C:=t.q0b) T.q0d T.q0B (dv 2)) af)
   case' S=>refine' aa ?T ai
   case T=>exact(av aF aG (bW (C:=t.q0b) T.q0d T.q0s (dv 2)) af)
  case B=>
  clear hr T;walk_at "g";refine⟨xs,rfl,g,few,λcl=>?_⟩;walk_at "g";unfold kO at q;cases e:hV xs with
  |nil=>
   rw[e]at q;rw[KI (by rfl)];exact q
  |cons k l=>
   rw[e]at q;obtain⟨a,as,b,bs,e1,e2⟩:=R9 (xs:=xs) (k:=k) (by rw[e];exact UG);rw[JS KJ];have q:Q k.told:=q;unfold Lk.told at q;rw[e1,e2]at q;refine⟨_,cK,bX,_,rfl,_,Bv,bX,_,rfl,_,Bw,bX,_,rfl,_,IC,_,rfl,bQ a,?_,bX,_,rfl,_,Bx,_,rfl,bQ b,?_,q⟩
   ·rw[e1];exact cK
   ·rw[e2];exact cK
theorem IF{ns:List Int}(pw:ns.Pairwise (· < ·))(hm:M∈ns)(ha:∀a∈ns,a<=M):ns.getLast?=some M:=by
 obtain⟨a,b,rfl⟩:=XD hm;cases b with
 |nil=>simp
 |cons c b=>
  have h1:=(Vd.mp (Wc.mp pw).2.1).1 c UG;have h2:=ha c KJ;omega
def hZ(xs:List De)(n:Int):Option Int:=((bh xs).filter λz=>decide (z<=n)).getLast?
def nG(xs:List De)(n:Int):List Str:=((hV xs).filter λk=>decide (some k.d=hZ xs n)).map (·.nm)
def F_w:Fa:=λds Q=>∃(xs:List De)(n:Int),ds=[.tuple (xs.map De.enc),.int n]/\aW xs/\ju xs/\Q (.tuple ((nG xs n).map .str))
theorem IG(T:Txt Z mg t):aB P w Z mg base Km 13 t.a_w t.d_w ["deeds","day"] (aP Z F_w):=by
 refine T.F_w.F.okD FK (λds Q h=>?_) (λ_ _ _ _ H O ds Q E hr h=>?_)
 ·obtain⟨xs,n,rfl,_⟩:=h;rfl
 ·obtain⟨xs,n,rfl,g,few,q⟩:=h;refine'⟨_,?A,?B⟩
  case A=>
   refine' ak ?C ?D
   case C=>
    refine' bp (i:=2) FK.nd rfl KU ?E (hs:=rY)
    case E=>exact(OW rfl rfl T.q0Q (bD (fe (kr rfl IA (df (aH (Bs T) hr T.F_h (aa (dv 0) ai))) aR b7 KL (λ_ _ _ _=>(aQ (i:=0) IA.nd rfl KU)) (λ_ _ _ _=>(eF (aM j7 dH (dv 0) (dv 1) (aC _)))) (λ_ _ _ _=>(dv 0)))) bo))
   case' D=>refine' aq ?F
   case' F=>refine' aK ?G
   case G=>exact(PE.imp (eD ia rfl T.q0h fZ (bD (fe (fq rfl IB (df (aH (ID T) hr T.F_u (aa (dv 0) ai))) aR b7 KL (λ_ _ _ _=>(aQ (i:=0) IB.nd rfl KU)) (λ_ _ _ _=>(eF (aM (cu hr.units) cv (bW (C:=t.q0b) T.q0d T.q0q (dv 0)) (dv 1) (aC _)))) (λ_ _ _ _=>(bW (C:=t.q0b) T.q0d T.q0r (dv 0))))) bo)) (bI ie))
  case B=>
  clear hr T;walk_at "g";refine⟨xs,rfl,g.gd,λ_=>few,λit tl=>?_⟩;walk_at "g";have fin:∀o:Option Int,o=hZ xs n->F_u t.q0b [UC (UR De.enc xs)] λd=>∃xs,d=VQ xs/\xs.length<=16777216/\ji (jK 0) (eX (cW ku (jR t.q0b (T4 "day") (cJ 0)) (cJ 1))) (jR t.q0b (T4 "paper") (cJ 0)) [none,some (Sl.v (cI o))] xs λds=>Q (UC ds):=λo ho=>by
   refine⟨xs,rfl,g,few,λcl=>⟨_,rfl,by rw[T6];omega,d7 (λk=>decide (some k.d=hZ xs n)) (λk=>.str k.nm) (λk hk R S h=>?_) ?_⟩⟩
   ·walk_at "g";refine⟨bX,_,rfl,_,Bv,?_⟩;have e:(Uy k.d).eqv (cI o)=decide (some k.d=hZ xs n):=by
     rw[<-ho];cases o with
     |none=>simp[cI,UB]
     |some d=>simp[cI,UB];rfl
    refine⟨jN,by cases o<;>rfl,?_⟩;rw[e];by_cases hd:decide (some k.d=hZ xs n)=true
    ·rw[KI hd]at h⊢;exact⟨bX,_,rfl,_,Bw,h⟩
    ·rw[JS hd]at h⊢;exact h
   ·unfold nG at q;rw[Uo]at q;exact q
  refine⟨by rw[T6];omega,d7 (λz=>decide (z<=n)) (λz=>.int z) (λz hz R S h=>?_) ⟨_,rfl,λe0=>fin none ?_,λM hM ha=>fin (some M) ?_⟩⟩
  ·walk_at "g";simpa using h
  ·unfold hZ;rw[e0];rfl
  ·exact(IF (it.2.filter _) hM ha).symm
theorem Sa{δf:Int->Dl}{C D p q X:Prop} [Decidable C] [Decidable D]{d1 d2 d3:Int}(hp:p)(hq:q)(hX:X)(key:∀dg,ic g tb E xs (δf dg)):
 if C then p/\q/\ic g tb E xs (δf d1) else X/\if D then p/\q/\ic g tb E xs (δf d2) else p/\q/\ic g tb E xs (δf d3):=by
 split
 ·exact⟨hp,hq,key _⟩
 ·refine⟨hX,?_⟩;split
  ·exact⟨hp,hq,key _⟩
  ·exact⟨hp,hq,key _⟩
def IH:Fa:=λds Q=>∃(ns:List Int)(k:Int),ds=[gP (ns.map .int),.int k]/\0<=k/\k<=1000/\∀c:Int,Q (.int c)
theorem II(T:Txt Z mg t):aB P w Z mg base Km 1 t.a_y t.d_y ["_law_script","_law_k"] (aP Z IH):=by
 refine T.F_y.F.okD vv (λds Q h=>?_) (λ_ _ _ _ H O ds Q E hr h=>?_)
 ·obtain⟨ns,k,rfl,_⟩:=h;rfl
 ·obtain⟨ns,k,rfl,k0,k1,q⟩:=h;refine'⟨_,?A,?B⟩
  case A=>
   refine' ak ?C ?D
   case C=>
    refine' bC ?E ?F bB
    case E=>exact(aM tG dH (dv 1) (PE.imp (bY c7 rfl T.q0f U5 (bD (dv 0) bo)) (bI DN)) (aC _))
    case' F=>refine' aq ?G
    case G=>exact(aK (av aX Nl (dv 0) (dv 1)))
   case' D=>refine' ak ?H ?I
   case H=>
    refine' bp (i:=2) vv.nd rfl KU ?J (hs:=mf)
    case J=>exact(az bj aI (az gM aI af (az bO cb (az bO cb (az gM aI (dv 1) (dv 1)) (az gM aI af (dv 1))) af)) af)
   case' I=>refine' ak ?K ?L
   case K=>
    refine' km U3 rfl (fe (Nm (df (dv 0)) kz (dj af))) ?M aR ?N
    case M=>exact(aQ (i:=3) vv.nd rfl KU)
    case' N=>refine' aq ?O
    case' O=>refine' bp (i:=2) vv.nd rfl KU ?P (hs:=mf)
    case P=>exact(az bj aI (az bO cb (az gM aI (dv 2) af) (dv 3)) af)
   case' L=>refine' aq ?Q
   case Q=>exact(aK (dv 2))
  case B=>
  clear hr T;walk_at "d";refine⟨_,rfl,?_⟩;rw[T6];split
  ·rename_i hlt;obtain⟨j,rfl⟩:=Wt k0;have hj:j < ns.length:=J1
   exact⟨_,rfl,.int ns[j],gN (by simp[hj]),q _⟩
  ·refine⟨.inl ⟨J1,J1⟩,_,rfl,λi Y=>∃(st:Int)(o:Option Sl),Y=[some (Sl.v (gP (ns.map .int))),some (Sl.v (.int k)),some (Sl.v (.int st)),o],⟨_,_,rfl⟩,?_,?_⟩
   ·rintro i x Y hx ⟨st,o,rfl⟩;have hm:=UJ hx;unfold eJ at hm;have hm2:=YE (Ws hm);obtain⟨c,_,rfl⟩:=Ug.mp hm2;walk_at "d";exact⟨_,rfl⟩
   ·rintro Y ⟨st,o,rfl⟩;walk_at "d";exact q _
def IJ:Fa:=λds Q=>∃c m:Int,ds=[.int c,.int m]/\0<=m/\m<=64/\∀ns:List Int,(ns.length:Int)=m->(∀z∈ns,0<=z/\z < 2000000000)->Q (.list (ns.map .int))
theorem IK(T:Txt Z mg t):aB P w Z mg base Km 1 t.a_z t.d_z ["_law_cell_here","_law_many"] (aP Z IJ):=by
 refine T.F_z.F.okD nq (λds Q h=>?_) (λ_ _ _ _ H O ds Q E hr h=>?_)
 ·obtain⟨c,m,rfl,_⟩:=h;rfl
 ·obtain⟨c,m,rfl,m0,m1,q⟩:=h;refine'⟨_,?A,?B⟩
  case A=>
   refine' ak ?C ?D
   case C=>exact(jh (i:=2) nq.nd rfl KU (cC ai))
   case' D=>refine' ak ?E ?F
   case E=>
    refine' bp (i:=3) nq.nd rfl KU ?G (hs:=mf)
    case G=>exact(az bj aI (az gM aI (az bO cb (az bj aI (dv 0) af) af) af) af)
   case' F=>refine' ak ?H ?I
   case H=>exact(bp (i:=4) nq.nd rfl KU af)
   case' I=>refine' ak ?J ?K
   case J=>
    refine' bC ?L ?M bB
    case L=>exact(PW.pt (rM (aM tG dH (dv 0) af (aC _)) (rL (aM wu dH (dv 0) (az Cy aI af af) (aC _)))))
    case' M=>refine' aq ?N
    case N=>exact(bp (i:=4) nq.nd rfl KU (PE.imp (bY Kj rfl T.q00 PyProof.Rows.boot_abs (bD (dv 0) bo)) (bI Nk)))
   case' K=>refine' ak ?O ?P
   case O=>
    refine' L5 U3 rfl rfl T.q0l (aa (dv 1) ai) ?Q aR ?R
    case Q=>exact(aQ (i:=5) nq.nd rfl KU)
    case' R=>refine' ak ?S ?T
    case S=>
     generalize hG15:ZJ _ _ _ _=eg15;refine' bp (i:=3) nq.nd rfl KU ?U (hs:=by subst hG15;exact mf)
     case' U=>subst hG15
     exact(az bj aI (az bO cb (az bO cb (az gM aI (dv 3) (az bO cb (az bj aI (dv 3) af) af)) (az gM aI af (dv 5))) af) af)
    case' T=>refine' ak ?V ?W
    case V=>
     refine' kj (i:=2) (pv 2) ?X
     case' X=>refine' cO aX bf (df ?Y) ?Z
     case Y=>exact(fe (cC (aa (dv 3) (aa (az bj aI (dv 4) af) ai))))
     case Z=>exact(df (PE.imp (eD rF rfl T.q0j nM (bD (cX j8 dH (df (dv 4)) (df af) (aC _)) bo)) (bI rS)))
    case' W=>refine' aq ?a
    case a=>exact(bp (i:=4) nq.nd rfl KU (az c0 aI (dv 4) af))
   case' P=>refine' aq ?b
   case b=>exact(rO (pv 2))
  case B=>
  clear hr T;walk_at "d";have bL:0<=(c % 1999999913+41)*674506081 % 1999999913/\(c % 1999999913+41)*674506081 % 1999999913 < 1999999913:=⟨XE _ KL,Xa _ KL⟩;generalize (c % 1999999913+41)*674506081 % 1999999913=st at*;have b1:-4611686018427387904<=m:=J1
  have b2:m < 4611686018427387904:=J1
  refine Sa (δf:=λdg=>[some (Sl.v (.int c)),some (Sl.v (.int m)),some (Sl.o []),some (Sl.v (.int st)),some (Sl.v (.int dg)),none]) b1 b2 KL ?c
  case c=>
   intro dg;refine⟨λi Y=>∃(ns:List Int)(st dg:Int)(o:Option Sl),ns.length=i/\(∀z∈ns,0<=z/\z < 2000000000)/\0<=st/\st < 1999999913/\Y=[some (Sl.v (.int c)),some (Sl.v (.int m)),some (Sl.o (ns.map .int)),some (Sl.v (.int st)),some (Sl.v (.int dg)),o],⟨[],st,dg,none,rfl,KJ,bL.1,bL.2,rfl⟩,?_,?_⟩
   ·rintro i x Y hx ⟨ns,st,dg,o,hl,hn,s0,s1,rfl⟩;obtain⟨hi,rfl⟩:=rT hx;clear bL;walk_at "d";have n0:0<=(st*(st % 64921+39119)+11*(0+(i:Int))+3)% 1999999913:=XE _ KL;have n1:(st*(st % 64921+39119)+11*(0+(i:Int))+3)% 1999999913 < 1999999913:=Xa _ KL;generalize (st*(st % 64921+39119)+11*(0+(i:Int))+3)% 1999999913=nx at*;have d0:0<=dg % 1000000:=XE _ KL;have d1:dg % 1000000 < 1000000:=Xa _ KL;obtain⟨z,hz,z0,z1⟩:∃z:Int,atI [Uy nx,Uy (dg % 1000000)] (if 0 < dg then 1 else 0)=some (.int z)/\0<=z/\z < 2000000000:=by
     split
     ·exact⟨_,fJ,d0,J1⟩
     ·exact⟨_,cK,n0,J1⟩
    refine⟨.inl ⟨J1,J1⟩,.int z,hz,by rw[T6];omega,ns++[z],by simp[hl],λy hy=>?_,nx,n0,n1,KJ,rfl,_,rfl⟩;rcases Um.mp hy with h|h
    ·exact hn y h
    ·rw[Ur]at h;rw[h];exact⟨z0,z1⟩
   ·rintro Y ⟨ns,st,dg,o,hl,hn,s0,s1,rfl⟩;walk_at "d";have hm:(ns.length:Int)=m:=by rw[hl];unfold nQ;simp;omega
    exact q ns hm hn
theorem IL:bu (ar qz) ["_law_x","_law_many","_law_letters","_law_words","_law_size","_law_at","_law_stem","_law_ends"] ["_law_k","_law_words","_law_x"] 1 [3,0] ⟨Uh,[ (T7 ".0",LG),(T7 "_law_k",LG),(T7 "len",U1),(T7 "_law_words",Uw),(T7 "_law_x",Uw)],false,false,[]⟩:= .of
theorem IM:bu (ar qz) ["_law_x","_law_many","_law_letters","_law_words","_law_size","_law_at","_law_stem","_law_ends"] ["_law_k","_law_letters","_law_x"] 1 [2,0] ⟨Uh,[ (T7 ".0",LG),(T7 "_law_k",LG),(T7 "_law_letters",Uw),(T7 "_law_x",Uw)],false,false,[]⟩:= .of
theorem IP:bu (ar qz) ["_law_x","_law_many","_law_letters","_law_words","_law_size","_law_at","_law_stem","_law_ends"] ["_law_one","_law_stem","_law_at","_law_size"] 1 [6,5,4] ⟨Uh,[ (T7 ".0",LG),(T7 "_law_one",LG),(T7 "_law_at",Uw),(T7 "_law_size",Uw),(T7 "_law_stem",Uw)],false,false,[]⟩:= .of
section
theorem sV{c:DB}{E:dE}(h:∀R,R=r->c Y λb=>if b=true then t {E with nx:=R E} Y else R E Y):gQ (gi c t kh) r E Y:=h r rfl
theorem Sb(h0:0<=n):(YY ⟨#[c]⟩ n).cps.toList=Uz n.toNat c:=by
 have key:∀(k:Nat)(a:Array Nat),((Uz k #[c]).foldl (·++·) a).toList=a.toList++Uz k c:=by
  intro k
  induction k with
  |zero=>intro a;simp
  |succ k ih=>intro a;rw[V1,UO,ih];simp[V1]
 unfold YY;split
 ·rw[show n.toNat=0 by omega];rfl
 ·split
  ·rename_i h;have:n=1:=by
    rw[show(⟨#[c]⟩:Str).length=1 from rfl]at h;simpa using h
   subst this;rfl
  ·show((Uz n.toNat #[c]).foldl (·++·) #[]).toList=_;rw[key];rfl
theorem mul_one(hc:c < 0x110000)(h0:0<=n)(h1:n<=50):PySem.MulOk ⟨#[c]⟩ n/\l4 n.toNat (YY ⟨#[c]⟩ n):=by
 have lc:(⟨#[c]⟩:Str).length=1:=rfl;constructor
 ·refine⟨by simp;omega,λa b=>?_,λa b=>?_⟩
  ·rw[lc];have:(2 ^ 63 - 1:Int)/ n >= 1:=by rw[ge_iff_le,Int.le_ediv_iff_mul_le J1];omega
   omega
  ·rw[lc];obtain⟨k,rfl⟩:=Wt h0;rw[Nat.one_mul];unfold PySem.Builtin.Str.tooLong;simp;have:LB=16777216:=by first|rfl|decide|exact My
   omega
 ·have l:=Sb (c:=c) h0;refine⟨rW.mpr λd hd=>?_,?_⟩
  ·rw[l]at hd;rw[(List.mem_replicate.mp hd).2];exact hc
  ·show(YY ⟨#[c]⟩ n).cps.size<=_;rw[<-UH,l,Yx];exact T8 _
def aar:Fa:=λds Q=>∃y:Int,ds=[.int y]/\Q (.int (ystart y))
theorem Se(T:Txt Z mg t):aB P w Z mg base Km 1 t.q09 t.q1a ["_law_year"] (aP Z aar):=by
 refine T.q1H.F.okD FL (λds Q h=>?_) (λ_ _ _ _ H O ds Q E hr h=>?_)
 ·obtain⟨y,rfl,_⟩:=h;rfl
 ·obtain⟨y,rfl,q⟩:=h;refine'⟨_,?A,?B⟩
  case A=>
   refine' ak ?C ?D
   case C=>exact(bp (i:=1) FL.nd rfl KU (az fE cb (dv 0) af))
   case' D=>refine' aq ?E
   case' E=>generalize hG4:ZJ _ _ _ _=eg4
   refine' aK ?F
   case' F=>subst hG4
   exact(az bO cb (az fE cb (az bO cb (az gM aI (dv 1) af) (az c0 aI (az bO cb (dv 1) af) af)) (az c0 aI (az bO cb (dv 1) af) af)) (az c0 aI (az bO cb (dv 1) af) af))
  case B=>
  clear hr T;walk_at "d";have e:(y - 2000)*365+(y - 2000+3)/ 4 - (y - 2000+99)/ 100+(y - 2000+399)/ 400=ystart y:=by rw[<-Oy y];omega
  rw[e];exact q
def sW(y:Int):List Int:=[31,28+ld y,31,30,31,30,31,31,30,31,30,31]
def Sg:Fa:=λds Q=>∃y:Int,ds=[.int y]/\Q (.list ((sW y).map .int))
theorem Si(T:Txt Z mg t):aB P w Z mg base Km 1 t.q1b t.q1c ["_law_year"] (aP Z Sg):=by
 refine T.q1I.F.okD FN (λds Q h=>?_) (λ_ _ _ _ H O ds Q E hr h=>?_)
 ·obtain⟨y,rfl,_⟩:=h;rfl
 ·obtain⟨y,rfl,q⟩:=h;refine'⟨_,?A,?B⟩
  case A=>
   refine' ak ?C ?D
   case C=>
    refine' bp (i:=1) FN.nd rfl KU ?E (hs:=abI)
    case E=>exact(L1 (cX (cu hr.units) cv (df (az bj aI (dv 0) af)) (df af) (aC _)) (jH (jg (cX (cu hr.units) cv (df (az bj aI (dv 0) af)) (df af) (aC _)) (jH (cX j8 dH (df (az bj aI (dv 0) af)) (df af) (aC _))))))
   case' D=>refine' aq ?F
   case' F=>generalize hG5:Z4 _ _=eg5
   refine' aK ?G
   case' G=>subst hG5
   refine' fe ?H
   case' H=>refine' cC ?I
   case' I=>refine' aa af ?J
   case' J=>refine' aa ?K ?L
   case K=>exact(az bO cb af (PE.imp (eD rF rfl T.q0j nM (bD (dv 1) bo)) (bI rS)))
   case L=>refine' nY (ds:=[.int 31,.int 30,.int 31,.int 30,.int 31,.int 31,.int 30,.int 31,.int 30,.int 31]) (by rfl)
  case B=>
  clear hr T;walk_at "d";have l1:=sC y;have hl:∀b:Bool,jn y=b->ld y=if b=true then 1 else 0:=λb e=>by unfold ld;rw[e]
  have fin:∀v:Int,v=ld y->Q (.list ([31,28+v,31,30,31,30,31,31,30,31,30,31].map .int)):=λv e=>by rw[e];exact q
  split
  ·rename_i h;have h:y % 400=0:=by simpa using h
   exact fin 1 (by rw[hl true (l1.mpr (.inl h))];rfl)
  ·rename_i h;have h:¬y % 400=0:=by simpa using h
   split
   ·rename_i h4;have h4:y % 4=0:=by simpa using h4
    by_cases h1:0 < y % 100
    ·rw[KI h1];exact fin 1 (by rw[hl true (l1.mpr (.inr ⟨h4,J1⟩))];rfl)
    ·rw[JS h1];exact fin 0 (by rw[hl false (by rw[<-V0,l1];omega)];rfl)
   ·rename_i h4;have h4:¬y % 4=0:=by simpa using h4
    exact fin 0 (by rw[hl false (by rw[<-V0,l1];omega)];rfl)
theorem IQ:∀{l:List Int},(∀z∈l,z<=31)->l.sum<=31*(l.length:Int)
 | [],_=>by simp
 |a::l,h=>by
  have ih:=IQ λz hz=>h z (UD _ hz);have:=h a UG;rw[Xe,Uk];omega
theorem Sj(y:Int)(m:Nat):((sW y).take m).sum<=31*(m:Int):=by
 have h:∀z∈(sW y).take m,z<=31:=λz hz=>by
  have hz:=Ws hz;have l0:ld y<=1:=by unfold ld;split<;>omega
  unfold sW at hz;simp only[Ud,UI,or_false]at hz;omega
 have:=IQ h;rw[U6]at this;omega
def BP:List Str:=["paper","rule","keep","gone","coming","days","first","last","kind","deep","end","hold","lift","leave","while","follow","happens","none","never","months","there","plan"]
theorem Sk:∀z∈BP,Uc z=true:=by
 intro z hz;have a:BP.all Uc=true:=Kg
 exact Xr.mp a z hz
def Sm:Fa:=λds Q=>∃x m:Int,ds=[.int x,.int m]/\0<=m/\m<=50/\∀ss:List Str,(ss.length:Int)=m->(∀z∈ss,Uc z=true)->Q (.list (ss.map .str))
theorem aaD(T:Txt Z mg t):aB P w Z mg base Km 1 t.q07 t.q08 ["_law_x","_law_many"] (aP Z Sm):=by
 refine T.q1G.F.okD nt (λds Q h=>?_) (λ_ _ _ _ H O ds Q E hr h=>?_)
 ·obtain⟨x,m,rfl,_⟩:=h;rfl
 ·obtain⟨x,m,rfl,m0,m1,q⟩:=h;refine'⟨_,?A,?B⟩
  case A=>
   refine' ak ?C ?D
   case C=>exact(bp (i:=2) nt.nd rfl KU aY)
   case' D=>refine' ak ?E ?F
   case E=>
    generalize hE4_0:Z4 _ _=ee4_0;exact bp (i:=3) nt.nd rfl KU (fe (xB (ds:=[.str "paper",.str "rule",.str "keep",.str "gone",.str "coming",.str "days",.str "first",.str "last",.str "kind",.str "deep",.str "end",.str "hold",.str "lift"]) (by first | (subst hE4_0;rfl)))) (hs:=abF (ds:=[.str "paper",.str "rule",.str "keep",.str "gone",.str "coming",.str "days",.str "first",.str "last",.str "kind",.str "deep",.str "end",.str "hold",.str "lift"]) (by first | (subst hE4_0;rfl)))
   case' F=>refine' ak ?G ?H
   case G=>
    generalize hE6_0:Z4 _ _=ee6_0;exact(bp (i:=3) nt.nd rfl KU (fe (rR (df (dv 3)) (df (fe (xB (ds:=[.str "leave",.str "while",.str "follow",.str "happens",.str "none",.str "never",.str "months",.str "there",.str "plan"]) (by first | (subst hE6_0;rfl))))))))
   case' H=>refine' ak ?I ?J
   case I=>
    refine' bC ?K ?L bB
    case K=>exact(aM (cu hr.units) cv (az bj aI (az c0 aI (dv 0) af) af) af (aC _))
    case' L=>refine' aq ?M
    case' M=>refine' aK ?N
    case' N=>refine' fe ?O
    case O=>exact(DK rfl IL rfl T.q0l (bD (dv 1) bo) aR b7 KL (λ_ _ _ _=>(aQ (i:=0) IL.nd rfl KU)) (λ_ _ _ _=>ft) (λ_ _ _ _=>(av aX bf (dv 1) (az bj aI (az bO cb (az c0 aI (dv 2) af) (dv 0)) (PE.imp (bY c7 rfl T.q0f U5 (bD (dv 1) bo)) (bI dY))))))
   case' J=>refine' ak ?P ?Q
   case P=>exact(bp (i:=4) nt.nd rfl KU (az bO cb af (az bj aI (dv 0) af)))
   case' Q=>refine' ak ?R ?S
   case R=>exact(bp (i:=5) nt.nd rfl KU (az bj aI (az c0 aI (dv 0) af) (dv 4)))
   case' S=>refine' ak ?T ?U
   case T=>
    refine' bp (i:=6) nt.nd rfl KU ?V (hs:=oq)
    case V=>exact(av Dc DR (dv 2) (az bj aI (az c0 aI (dv 0) af) af))
   case' U=>refine' ak ?W ?X
   case W=>exact(l5 (i:=7) nt.nd rfl KU (D8 rfl IM rfl T.q0l (bD (dv 1) bo) aR b7 KL (λ_ _ _ _=>(aQ (i:=0) IM.nd rfl KU)) (λ_ _ _ _=>ft) (λ_ _ _ _=>(av Dc DR (dv 1) (az bj aI (az bO cb (az c0 aI (dv 2) af) (az gM aI af (dv 0))) af)))))
   case' X=>refine' aq ?Y
   case' Y=>refine' aK ?Z
   case' Z=>refine' fe ?a
   case a=>exact(fq rfl IP (df (dv 7)) aR b7 KL (λ_ _ _ _=>(aQ (i:=0) IP.nd rfl KU)) (λ_ _ _ _=>ft) (λ_ _ _ _=>(az CM DQ (az CM DQ (az Ep Er (dv 1) (dv 2)) (dv 0)) (az Ep Er (dv 1) (az fE cb (az fE cb (dv 3) (dv 2)) af)))))
  case B=>
  clear hr T;walk_at "d";split
  ·refine⟨J1,by have:(16777216:Nat)=(16777216:Int):=rfl;omega,?_⟩;refine⟨λi acc=>∃ys:List Str,acc=ys.map .str/\ys.length=i/\∀y∈ys,Uc y=true,⟨[],rfl,rfl,KJ⟩,?_,?_⟩
   ·rintro i z acc hz ⟨ys,rfl,hl,hg⟩;obtain⟨hi,rfl⟩:=rT hz;walk_at "d";obtain⟨v,e1,m1⟩:=rJ (xs:=BP.map Ub) (i:=(x / 344+(0+(i:Int)))% 22) J1 (by show _ < (22:Int);omega);obtain⟨nm,hnm,rfl⟩:=Ug.mp m1;refine⟨KL,_,e1,ys++[nm],by rw[UA];rfl,by simp[hl],λy hy=>?_⟩;rcases Um.mp hy with h|h
    ·exact hg y h
    ·rw[Ur]at h;rw[h];exact Sk nm hnm
   ·rintro acc ⟨ys,rfl,hl,hg⟩;rw[xt]at hl;exact q ys J1 hg
  ·refine⟨J1,Kg,?_⟩;obtain⟨c,e1,_,c1⟩:=D7 (j:=x / 64 % 26) J1 J1;refine⟨c,e1,J1,by have:(16777216:Nat)=(16777216:Int):=rfl;omega,?_⟩;generalize hsz:1+x % 8=sz;have s0:1<=sz:=J1
   have s1:sz<=8:=J1
   generalize hat:x / 8 % sz=at0;have a0:0<=at0:=by rw[<-hat];exact XE _ J1
   have a1:at0 < sz:=by rw[<-hat];exact Xa _ J1
   clear hsz hat;refine⟨λi acc=>∃ys:List Nat,acc=ys.map (λy=>.str ⟨#[y]⟩)/\ys.length=i/\∀y∈ys,y < 0x110000,⟨[],rfl,rfl,KJ⟩,?_,?_⟩
   ·rintro i z acc hz ⟨ys,rfl,hl,hg⟩;obtain⟨hi,rfl⟩:=rT hz;walk_at "d";obtain⟨y,g1,_,y1⟩:=D7 (j:=(x / 1664+5*(0+(i:Int)))% 26) J1 J1;refine⟨Kg,y,g1,ys++[y],by rw[UA];rfl,by simp[hl],λz hz=>?_⟩;rcases Um.mp hz with h|h
    ·exact hg z h
    ·rw[Ur]at h;rw[h];exact y1
   ·rintro acc ⟨ys,rfl,hl,hg⟩;rw[xt]at hl;refine⟨by rw[T6];omega,?_⟩;refine⟨λi acc=>∃zs:List Str,acc=zs.map .str/\zs.length=i/\∀y∈zs,Uc y=true,⟨[],rfl,rfl,KJ⟩,?_,?_⟩
    ·rintro i z acc hz ⟨zs,rfl,hl2,hg2⟩;rw[Ul]at hz;cases hz':ys[i]? with
     |none=>rw[hz']at hz;cases hz
     |some y=>
      rw[hz']at hz;cases hz;walk_at "d";obtain⟨mo,gg⟩:=mul_one c1 a0 J1;obtain⟨mo2,gg2⟩:=mul_one c1 (n:=sz - at0 - 1) J1 J1;have ly:(⟨#[y]⟩:Str).length=1:=rfl;have l1:=gg.le;have l2:=gg2.le;refine⟨mo,by rw[ly];omega,mo2,by rw[D6,ly];omega,zs++[_],by rw[UA];rfl,by simp[hl2],λz hz=>?_⟩;rcases Um.mp hz with h|h
      ·exact hg2 z h
      ·rw[Ur]at h;rw[h];exact((gg.append (l4.chr (hg y (UJ hz')))).append gg2).ok
    ·rintro acc ⟨zs,rfl,hl2,hg2⟩;rw[T6]at hl2;exact q zs J1 hg2
theorem atI_c5{α:Type}{a b c d e f:α}{l:List α}:atI (a::b::c::d::e::f::l) 5=some f:=gN (j:=5) rfl
theorem atI_c6{α:Type}{a b c d e f g:α}{l:List α}:atI (a::b::c::d::e::f::g::l) 6=some g:=gN (j:=6) rfl
theorem atI_c7{α:Type}{a b c d e f g h:α}{l:List α}:atI (a::b::c::d::e::f::g::h::l) 7=some h:=gN (j:=7) rfl
theorem atI_c8{α:Type}{a b c d e f g h i:α}{l:List α}:atI (a::b::c::d::e::f::g::h::i::l) 8=some i:=gN (j:=8) rfl
def IS:Fa:=λds Q=>∃(x:Int)(b:Bool),ds=[.int x,.bool b]/\0<=x/\∀d:Int,0<=d/\d < 100000->Q (.int d)
theorem day_iff:IS [.int x,.bool b] Q↔0<=x/\∀d:Int,0<=d/\d < 100000->Q (.int d):=by
 constructor
 ·rintro⟨_,_,e,h,q⟩;simp only[U2,Vq,and_true]at e;rw[e.1];exact⟨h,q⟩
 ·rintro⟨h,q⟩;exact⟨x,b,rfl,h,q⟩
theorem cell_iff{ns:List Int}:IH [gP (ns.map .int),.int k] Q↔(0<=k/\k<=1000/\∀c:Int,Q (.int c)):=by
 constructor
 ·rintro⟨ns',k',e,a,b,q⟩;simp only[U2,Vq,and_true]at e;rw[e.2];exact⟨a,b,q⟩
 ·rintro⟨a,b,q⟩;exact⟨ns,k,rfl,a,b,q⟩
theorem numbers_iff:IJ [.int c,.int m] Q↔(0<=m/\m<=64/\∀ns:List Int,(ns.length:Int)=m->(∀z∈ns,0<=z/\z < 2000000000)->Q (.list (ns.map .int))):=by
 constructor
 ·rintro⟨c',m',e,a,b,q⟩;simp only[U2,Vq,and_true]at e;obtain⟨rfl,rfl⟩:=e;exact⟨a,b,q⟩
 ·rintro⟨a,b,q⟩;exact⟨c,m,rfl,a,b,q⟩
local macro_rules | `(tactic| walk_at "h") =>Ny (Of++" K28.atI_c5 K28.atI_c6 K28.atI_c7 K28.atI_c8 K28.day_iff K28.cell_iff K28.numbers_iff true_and")
theorem So(T:Txt Z mg t):aB P w Z mg base Km 2 t.q1d t.q1e ["_law_x","_law_far_here"] (aP Z IS):=by
 refine T.q1J.F.okD A6 (λds Q h=>?_) (λ_ _ _ _ H O ds Q E hr h=>?_)
 ·obtain⟨x,b,rfl,_⟩:=h;rfl
 ·obtain⟨x,b,rfl,x0,q⟩:=h;refine'⟨_,?A,?B⟩
  case A=>
   refine' ak ?C ?D
   case C=>
    refine' bC ?E ?F bB
    case E=>exact(jG (fP (dv 1)))
    case' F=>refine' aq ?G
    case G=>exact(aK (az bj aI (dv 0) af))
   case' D=>refine' ak ?H ?I
   case H=>
    refine' bC ?J ?K bB
    case J=>exact(aM (cu hr.units) cv (az bj aI (az c0 aI (dv 0) af) af) af (aC _))
    case' K=>refine' aq ?L
    case L=>exact(aK (az bj aI (az c0 aI (dv 0) af) af))
   case' I=>refine' ak ?M ?N
   case M=>exact(bp (i:=2) A6.nd rfl KU (az bj aI (az c0 aI (dv 0) af) af))
   case' N=>refine' ak ?O ?P
   case O=>
    generalize hG12:ZJ _ _ _ _=eg12;refine' bp (i:=3) A6.nd rfl KU ?Q (hs:=by subst hG12;exact mf)
    case' Q=>subst hG12
    exact(az bO cb (aH (Se T) hr T.q1H (aa (az bO cb af (az c0 aI (dv 2) af)) ai)) (PE.imp (bY (Du rfl) rfl T.q0R ZE (bD (fe (jj (df (aH (Si T) hr T.q1I (aa (az bO cb af (az c0 aI (dv 2) af)) ai))) kz (dj (az bj aI (dv 2) af)))) bo)) (bI Oq)))
   case' P=>refine' aq ?R
   case' R=>refine' aK ?S
   case S=>exact(PE.imp (bY (abi rfl) rfl T.q0Q ZD (bD af (bD (az bO cb (az fE cb (dv 3) af) (az bj aI (dv 0) af)) bo))) (bI L9))
  case B=>
  clear hr T;walk_at "d";split
  ·exact q _ J1
  ·split
   ·exact q _ J1
   ·have e12:x / 6 % 3280 % 12=((x / 6 % 3280 % 12).toNat:Int):=J1
    rw[e12];have sl:=Sj (2000+x / 6 % 3280 / 12) (x / 6 % 3280 % 12).toNat;have ys:ystart (2000+x / 6 % 3280 / 12)+31*(((x / 6 % 3280 % 12).toNat:Nat):Int) < 100000:=by
     unfold ystart lb;omega
    refine⟨_,rfl,_,rfl,_,rfl,(sW (2000+x / 6 % 3280 / 12)).take (x / 6 % 3280 % 12).toNat,?_,_,rfl,?_⟩
    ·rw[wZ J1 (by rw[T6];show _<=((12:Nat):Int);omega),VD,Yr]
    ·split
     ·exact q _ J1
     ·exact q 0 J1
def IT:Fa:=λds Q=>∃(x:Int)(a b:Str),ds=[.int x,.list [.str a,.str b]]/\Uc a=true/\Uc b=true/\∀s:cq,s.Ok->Q s.enc
theorem Sq(T:Txt Z mg t):aB P w Z mg base Km 1 t.q1f t.q1g ["_law_x","_law_words"] (aP Z IT):=by
 refine T.q1K.F.okD PF (λds Q h=>?_) (λ_ _ _ _ H O ds Q E hr h=>?_)
 ·obtain⟨x,a,b,rfl,_⟩:=h;rfl
 ·obtain⟨x,a,b,rfl,ha,hb,q⟩:=h;refine'⟨_,?A,?B⟩
  case A=>
   refine' aq ?C
   case' C=>generalize hG2:XX _ _ _=eg2
   refine' aK ?D
   case' D=>subst hG2
   refine' cO aX bf (df ?E) ?F
   case E=>
    refine' fe ?G
    case' G=>refine' cC ?H
    case' H=>refine' aa ?I ?J
    case I=>exact(bH (aa aY ai))
    case' J=>refine' aa ?K ?L
    case K=>
     refine' bH ?M
     case' M=>refine' aa aY ?N
     case' N=>refine' aa ?O ai
     case' O=>refine' cO aX bf (df (dv 1)) ?P
     case P=>exact(df (az bj aI (az c0 aI (dv 0) af) af))
    case' L=>refine' aa ?Q ai
    case' Q=>refine' bH ?R
    case' R=>refine' aa aY ?S
    case' S=>refine' aa ?T ai
    case' T=>refine' cO aX bf (df (dv 1)) ?U
    case U=>exact(df (az bj aI (az c0 aI (dv 0) af) af))
   case F=>exact(df (az bj aI (dv 0) af))
  case B=>
  clear hr T;walk_at "d";obtain⟨v,e1,mv⟩:=rJ (xs:=[Ub a,Ub b]) (i:=x / 3 % 2) J1 (by show _ < ((2:Nat):Int);omega);have hv:∃wd,v= .str wd/\Uc wd=true:=by
   simp only[Ud,UI,or_false]at mv;rcases mv with rfl|rfl
   ·exact⟨_,rfl,ha⟩
   ·exact⟨_,rfl,hb⟩
  obtain⟨wd,rfl,hwd⟩:=hv;refine⟨_,e1,_,e1,?_⟩;obtain⟨v,e2,mv⟩:=rJ (xs:=[UC [Ub (T4 "coming")],UC [Ub (T4 "first"),Ub wd],UC [Ub (T4 "last"),Ub wd]]) (i:=x % 3) J1 (by show _ < ((3:Nat):Int);omega);refine⟨_,e2,?_⟩;simp only[Ud,UI,or_false]at mv;rcases mv with rfl|rfl|rfl
  ·exact q .com trivial
  ·exact q (.fst wd) hwd
  ·exact q (.lst wd) hwd
theorem kP(ss:List Str){i:Int}(h0:0<=i)(h1:i < ss.length):∃nm∈ss,atI (ss.map Ub) i=some (.str nm):=by
 obtain⟨v,e,m⟩:=rJ (xs:=ss.map Ub) h0 (by rw[T6];exact h1);obtain⟨nm,hn,rfl⟩:=Ug.mp m;exact⟨nm,hn,e⟩
theorem Sr:∀z∈([T4 "while",T4 "follow",T4 "leave"]:List Str),¬KG z/\Uc z=true:=by
 intro z hz;simp only[Ud,UI,or_false]at hz;rcases hz with rfl|rfl|rfl<;>exact⟨λh=>by rcases h with h|h<;>exact absurd h Kg,Kg⟩
theorem IU:∀z∈([T4 "days",T4 "months",T4 "years"]:List Str),pJ z:=by
 intro z hz;simp only[Ud,UI,or_false]at hz;exact hz
theorem aap:∀z∈([T4 "keep",T4 "gone"]:List Str),KG z:=by
 intro z hz;simp only[Ud,UI,or_false]at hz;exact hz
def aai:Fa:=λds Q=>∃(x0 x1 x2 x3 x4 x5 x6 x7 x8:Int)(a b c d e:Str)(f:Bool),ds=[.list [.int x0,.int x1,.int x2,.int x3,.int x4,.int x5,.int x6,.int x7,.int x8],.list [.str a,.str b,.str c],.list [.str d,.str e],.bool f]/\(∀z∈[a,b,c,d,e],Uc z=true)/\∀pt:Pt,pt.Ok->Q pt.enc
theorem Sv(T:Txt Z mg t):aB P w Z mg base Km 2 t.q1h t.q1i ["_law_xs","_law_kinds","_law_words","_law_far_here"] (aP Z aai):=by
 refine T.q1L.F.okD pI (λds Q h=>?_) (λ_ _ _ _ H O ds Q E hr h=>?_)
 ·obtain⟨x0,x1,x2,x3,x4,x5,x6,x7,x8,a,b,c,d,e,f,rfl,_⟩:=h;rfl
 ·obtain⟨x0,x1,x2,x3,x4,x5,x6,x7,x8,a,b,c,d,e,f,rfl,hok,q⟩:=h;refine'⟨_,?A,?B⟩
  case A=>
   refine' ak ?C ?D
   case C=>
    refine' bp (i:=4) pI.nd rfl KU ?E (hs:=oq)
    case' E=>refine' cO aX bf (df (dv 1)) ?F
    case F=>exact(df (az bj aI (az bj aI (av aX bf (dv 0) af) af) (PE.imp (bY c7 rfl T.q0f U5 (bD (dv 1) bo)) (bI dY))))
   case' D=>refine' ak ?G ?H
   case G=>exact(bp (i:=5) pI.nd rfl KU (az bj aI (av aX bf (dv 0) af) af))
   case' H=>refine' ak ?I ?J
   case I=>
    refine' bC ?K ?L bB
    case K=>exact(aM j8 dH (dv 5) af (aC _))
    case' L=>refine' aq ?M
    case' M=>refine' aK ?N
    case' N=>refine' bH ?O
    case' O=>refine' aa ?P ?Q
    case P=>
     refine' cO aX bf (df ?R) ?S
     case R=>exact(fe (cC (nY (ds:=[.str "while",.str "follow",.str "leave"]) (by rfl))))
     case S=>exact(df (az fE cb (dv 5) af))
    case Q=>refine' aa (dv 4) ai
   case' J=>refine' ak ?T ?U
   case T=>
    generalize hG19:XX _ _ _=eg19;refine' bp (i:=6) pI.nd rfl KU ?V (hs:=by subst hG19;exact oq)
    case' V=>subst hG19
    refine' cO aX bf (df ?W) ?X
    case W=>exact(fe (cC (nY (ds:=[.str "days",.str "months",.str "years"]) (by rfl))))
    case X=>exact(df (az bj aI (av aX bf (dv 0) af) af))
   case' U=>refine' ak ?Y ?Z
   case Y=>
    generalize hG23:XX _ _ _=eg23;refine' bp (i:=7) pI.nd rfl KU ?a (hs:=by subst hG23;exact oq)
    case' a=>subst hG23
    refine' cO aX bf (df ?b) ?c
    case b=>
     refine' fe ?d
     case' d=>refine' cC ?e
     case' e=>refine' aa ?f ?g
     case f=>exact(az bj aI (av aX bf (dv 0) af) af)
     case' g=>refine' aa ?h ai
     case h=>exact(az bj aI (av aX bf (dv 0) af) af)
    case c=>exact(df (PE.imp (eD rF rfl T.q0j nM (bD (cX (cu hr.units) cv (df (az bj aI (av aX bf (dv 0) af) af)) (df af) (aC _)) bo)) (bI rS)))
   case' Z=>refine' ak ?i ?j
   case i=>
    refine' bC ?k ?l bB
    case k=>exact(jG (fP (dv 3)))
    case' l=>refine' ak ?m ?n
    case m=>
     generalize hG35:XX _ _ _=eg35;refine' bp (i:=6) pI.nd rfl KU ?o (hs:=by subst hG35;exact oq)
     case' o=>subst hG35
     refine' cO aX bf (df ?p) ?q
     case p=>exact(fe (cC (nY (ds:=[.str "days",.str "days",.str "months"]) (by rfl))))
     case q=>exact(df (az bj aI (av aX bf (dv 0) af) af))
    case' n=>refine' aq ?r
    case' r=>generalize hG39:XX _ _ _=eg39
    refine' bp (i:=7) pI.nd rfl KU ?s (hs:=by subst hG39;exact oq)
    case' s=>subst hG39
    refine' cO aX bf (df ?t) ?u
    case t=>
     refine' fe ?v
     case' v=>refine' cC ?w
     case' w=>refine' aa ?x ?y
     case x=>exact(az bj aI (av aX bf (dv 0) af) af)
     case' y=>refine' aa ?z ai
     case z=>exact(az bj aI (av aX bf (dv 0) af) af)
    case u=>exact(df (PE.imp (eD rF rfl T.q0j nM (bD (cX (cQ hr) cS (df (dv 6)) (df aY) (aC _)) bo)) (bI rS)))
   case' j=>refine' aq ?A0
   case' A0=>refine' aK ?A1
   case' A1=>refine' bH ?A2
   case' A2=>refine' aa ?A3 ?A4
   case A3=>exact(av aX bf (fe (cC (aa aY (aa aY ai)))) (az bj aI (dv 5) af))
   case' A4=>refine' aa (dv 4) ?A5
   case' A5=>refine' aa ?A6 ?A7
   case A6=>exact(aH (Sq T) hr T.q1K (aa (av aX bf (dv 0) af) (aa (dv 2) ai)))
   case' A7=>refine' aa (dv 7) ?A8
   case A8=>refine' aa (dv 6) ai
  case B=>
  clear hr T;walk_at "d";obtain⟨kd,hkd,ek⟩:=kP [a,b,c] (i:=x2 % 3 % 3) J1 (by show _ < ((3:Nat):Int);omega);have kok:Uc kd=true:=hok kd (by
   simp only[Ud,UI,or_false]at hkd⊢;rcases hkd with h|h|h<;>simp[h])
  refine⟨KL,_,ek,?_⟩;split
  ·obtain⟨wo,hw,ew⟩:=kP [T4 "while",T4 "follow",T4 "leave"] (i:=x3 % 8 - 5) J1 (by show _ < ((3:Nat):Int);omega);obtain⟨w1,w2⟩:=Sr wo hw;exact⟨_,ew,q (.two wo kd) ⟨w1,w2,kok⟩⟩
  ·have fin:∀(k:Int)(u:Str),0<=k->k < 1000->pJ u->∃d_7,atI [Ub (T4 "keep"),Ub (T4 "gone")] (x3 % 8 % 2)=some d_7/\IT [.int x7,VQ [Ub d,Ub e]] λd=>Q (UC [d_7,.str kd,d,.int k,.str u]):=λk u k0 k1 hu=>by
    obtain⟨wo,hw,ew⟩:=kP [T4 "keep",T4 "gone"] (i:=x3 % 8 % 2) J1 (by show _ < ((2:Nat):Int);omega);exact⟨_,ew,x7,d,e,rfl,hok d KJ,hok e KJ,λs hs=>q (.five wo kd s k u) ⟨aap wo hw,kok,hs,k0,k1,hu⟩⟩
   obtain⟨u,hu,eu⟩:=kP [T4 "days",T4 "months",T4 "years"] (i:=x4 % 3) J1 (by show _ < ((3:Nat):Int);omega);refine⟨_,eu,?_⟩;have two:∀(p r:Int)(b:Bool),0<=p->p < 1000->0<=r->r < 1000->∃k,atI [Uy p,Uy r] (if b=true then 1 else 0)=some (.int k)/\0<=k/\k < 1000:=λp r b p0 p1 r0 r1=>by
    cases b
    ·exact⟨p,cK,p0,p1⟩
    ·exact⟨r,fJ,r0,r1⟩
   walk_at "h";obtain⟨k,hk,k0,k1⟩:=two (x5 % 30) (x5 % 1000) (x6 % 4==0) J1 J1 J1 J1;refine⟨_,hk,?_⟩;split
   ·obtain⟨u,hu,eu⟩:=kP [T4 "days",T4 "days",T4 "months"] (i:=x4 % 3) J1 (by show _ < ((3:Nat):Int);omega);refine⟨_,eu,rfl,?_⟩;obtain⟨k,hk,k0,k1⟩:=two (x5 % 21) (x5 % 2) ((Ub u).eqv (Ub (T4 "months"))) J1 J1 J1 J1;exact⟨_,hk,fin k u k0 k1 (IU u (by
     simp only[Ud,UI,or_false]at hu⊢;rcases hu with h|h|h<;>simp[h]))⟩
   ·exact fin k u k0 k1 (IU u hu)
structure kQ (x:De):Prop where
 d0:0<=x.d/\x.d < 100000
 nm:Uc x.nm=true
 w:Uc x.w=true
 ly:cm 6 x.enc
 pp:∀p,x= .pap p->Uc p.kd=true/\(∀m∈p.ms,Uc m=true)/\p.ms.length<=50
 np:∀w d nm r,x= .oth w d nm r->w≠T4 "paper"
 hp:∀d nm r,x= .oth (T4 "happens") d nm r->∃wd,r=[.str wd]/\Uc wd=true
 ru:∀d nm r,x= .oth (T4 "rule") d nm r->∃pt:Pt,r=[pt.enc]/\pt.Ok
 ho:∀d nm r,x= .oth (T4 "hold") d nm r->∃(ip:Bool)(tn:Str)(dp:Bool),r=[g8 ip tn,.bool dp]/\Uc tn=true
 le:∀d nm r,x= .oth (T4 "leave") d nm r->∃kd,r=[.str kd]/\Uc kd=true
 rl:∀w d nm r,x= .oth w d nm r->r.length<=5
def j2(x y:De):Prop:=x≠y/\(∀p q,x= .pap p->y= .pap q->p.nm≠q.nm)/\(x.isE=true->y.isE=true->¬(x.d=y.d/\x.nm=y.nm))/\(x.isL=true->y.isL=true->¬(x.d=y.d/\x.nm=y.nm))/\(x.w=T4 "leave"->y.w=T4 "leave"->x.nm≠y.nm)
def De.r:De->List J4
 | .pap p=>[.str p.kd,.tuple (p.ms.map .str)]
 | .oth _ _ _ r=>r
theorem qW(x:De):x.enc= .tuple (.str x.w:: .int x.d:: .str x.nm::x.r):=by cases x<;>rfl
theorem Sw(x:De):x.isE=true↔x.w=T4 "rule"\/x.w=T4 "end":=by
 cases x with
 |pap p=>exact⟨λh=>(nomatch h),λh=>absurd h (by show ¬(T4 "paper"=_\/T4 "paper"=_);decide+kernel)⟩
 |oth w d nm r=>simp[De.isE,De.w]
theorem Sx(x:De):x.isL=true↔x.w=T4 "hold"\/x.w=T4 "lift":=by
 cases x with
 |pap p=>exact⟨λh=>(nomatch h),λh=>absurd h (by show ¬(T4 "paper"=_\/T4 "paper"=_);decide+kernel)⟩
 |oth w d nm r=>simp[De.isL,De.w]
mutual
theorem IV:∀d:J4,d.canLay0=true->UB d d=true
 | .none,_=>by simp[UB]
 | .bool _,_ | .int _,_ | .str _,_=>by simp[UB]
 | .list xs,h=>by rw[UB];exact BQ xs (by simpa [Va]using h)
 | .tuple xs,h=>by rw[UB];exact BQ xs (by simpa [Va]using h)
 | .dict _,h=>by simp[Va]at h
theorem BQ:∀ds:List J4,VP ds=true->VX ds ds=true
 | [],_=>by simp[VX]
 |d::ds,h=>by
  rw[VP,U0]at h;rw[VX,IV d h.1,BQ ds h.2];rfl
end
theorem IW:UB (.tuple [.int a,.str s]) (.tuple [.int b,.str u])=false->¬(a=b/\s=u):=by
 rintro h ⟨rfl,rfl⟩;simp[UB,VX]at h
def aaN:Fa:=λds Q=>∃x y:De,ds=[x.enc,y.enc]/\kQ x/\kQ y/\∀b:Bool,(b=false->j2 x y)->Q (.bool b)
theorem Sz(T:Txt Z mg t):aB P w Z mg base Km 1 t.q1j t.q1k ["_law_one","_law_other"] (aP Z aaN):=by
 refine T.q1M.F.okD PH (λds Q h=>?_) (λ_ _ _ _ H O ds Q E hr h=>?_)
 ·obtain⟨x,y,rfl,_⟩:=h;rfl
 ·obtain⟨x,y,rfl,gx,gy,q⟩:=h;refine'⟨_,?A,?B⟩
  case A=>
   refine' ak ?C ?D
   case C=>
    refine' bC ?E ?F bB
    case E=>exact(aM (cu hr.units) cv (dv 0) (dv 1) (aC _))
    case F=>refine' aq (aK qj)
   case' D=>refine' ak ?G ?H
   case G=>
    refine' bC ?I ?J bB
    case I=>exact(PW.pt (di (aM (qt hr) qu (av aF aG (dv 0) af) (bH (aa aY (aa aY ai))) rfl) (dG (aM (qt hr) qu (av aF aG (dv 1) af) (bH (aa aY (aa aY ai))) rfl))))
    case' J=>refine' aq ?K
    case' K=>refine' aK ?L
    case L=>exact(cX (cu hr.units) cv (df (ub (df (dv 0)) (dj af) (dj af))) (df (ub (df (dv 1)) (dj af) (dj af))) (aC _))
   case' H=>refine' ak ?M ?N
   case M=>
    refine' bC ?O ?P bB
    case O=>exact(PW.pt (di (aM (qt hr) qu (av aF aG (dv 0) af) (bH (aa aY (aa aY ai))) rfl) (dG (aM (qt hr) qu (av aF aG (dv 1) af) (bH (aa aY (aa aY ai))) rfl))))
    case' P=>refine' aq ?Q
    case' Q=>refine' aK ?R
    case R=>exact(cX (cu hr.units) cv (df (ub (df (dv 0)) (dj af) (dj af))) (df (ub (df (dv 1)) (dj af) (dj af))) (aC _))
   case' N=>refine' aq ?S
   case' S=>refine' aK ?T
   case T=>exact(jg (cX (cu hr.units) cv (df (av aF aG (dv 0) af)) (df (av aF aG (dv 1) af)) (aC _)) (jg (cX (qt hr) qu (df (av aF aG (dv 0) af)) (df (bH (aa aY (aa aY ai)))) rfl) (jH (cX (cu hr.units) cv (df (av aF aG (dv 0) af)) (df (av aF aG (dv 1) af)) (aC _)))))
  case B=>
  clear hr T;have ex:=gx.ly.shp KL;have ey:=gy.ly.shp KL;have ne:(x.enc).eqv y.enc=false->x≠y:=λh e=>by rw[e,IV _ gy.ly.can]at h;cases h
  have two:∀z:De,Uc z.nm=true->Wl (UC [Uy z.d,Ub z.nm])=true:=λz hz=>(gj (n:=1) λy hy=>by
   simp only[Ud,UI,or_false]at hy;rcases hy with rfl|rfl
   ·exact t6
   ·exact iS hz).shp KL
  have tx:=two x gx.nm;have ty:=two y gy.nm;have ax:=cU.mpr gx.w;have ay:=cU.mpr gy.w;have bx:=cU.mpr gx.nm;have by':=cU.mpr gy.nm
  rw[qW]at ex;rw[qW]at ey;have pw:∀z:De,∀p,z= .pap p->z.w=T4 "paper":=λz p e=>by rw[e];rfl
  have eE:=Sw;have eL:=Sx;have q:∀b:Bool,(b=false->(x.enc).eqv y.enc=false/\(x.w=T4 "paper"->y.w=T4 "paper"->x.nm≠y.nm)/\((x.w=T4 "rule"\/x.w=T4 "end")->(y.w=T4 "rule"\/y.w=T4 "end")->¬(x.d=y.d/\x.nm=y.nm))/\((x.w=T4 "hold"\/x.w=T4 "lift")->(y.w=T4 "hold"\/y.w=T4 "lift")->¬(x.d=y.d/\x.nm=y.nm))/\(x.w=T4 "leave"->y.w=T4 "leave"->x.nm≠y.nm))->Q (.bool b):=λb h=>q b λe=>by
   obtain⟨h1,h2,h3,h4,h5⟩:=h e;refine⟨ne h1,λp q e1 e2=>?_,λa b=>h3 ((eE x).mp a) ((eE y).mp b),λa b=>h4 ((eL x).mp a) ((eL y).mp b),h5⟩;have h2:=h2 (pw x p e1) (pw y q e2);rw[e1,e2]at h2;exact h2
  clear ne pw eE eL two gx gy;rw[qW,qW]at q;rw[qW,qW];generalize x.w=xw at*;generalize y.w=yw at*;generalize x.d=xd at*;generalize y.d=yd at*;generalize x.nm=xn at*;generalize y.nm=yn at*;generalize x.r=xr at*;generalize y.r=yr at*;walk_at "d";refine⟨ex,ey,?_⟩;clear ex ey;split
  ·exact q true (λe=>by cases e)
  ·rename_i hn;rw[V0]at hn;have E':∀z:Str,(T4 "rule"==z || T4 "end"==z)=true↔(z=T4 "rule"\/z=T4 "end"):=λz=>by
    rw[XC,beq_iff_eq,beq_iff_eq];exact⟨λh=>h.imp Eq.symm Eq.symm,λh=>h.imp Eq.symm Eq.symm⟩
   have L':∀z:Str,(T4 "hold"==z || T4 "lift"==z)=true↔(z=T4 "hold"\/z=T4 "lift"):=λz=>by
    rw[XC,beq_iff_eq,beq_iff_eq];exact⟨λh=>h.imp Eq.symm Eq.symm,λh=>h.imp Eq.symm Eq.symm⟩
   have nw:∀{z:Str},(z=T4 "rule"\/z=T4 "end")\/(z=T4 "hold"\/z=T4 "lift")->z≠T4 "paper"/\z≠T4 "leave":=λ{z} h=>by
    rcases h with(h|h) | (h|h)<;>subst h<;>decide+kernel
   have cut:(xw=T4 "rule"\/xw=T4 "end")\/(xw=T4 "hold"\/xw=T4 "lift")->Q (W4 ((UC [Uy xd,Ub xn]).eqv (UC [Uy yd,Ub yn]))):=λhx=>q _ λe=>⟨hn,λa=>absurd a (nw hx).1,λ_ _=>IW e,λ_ _=>IW e,λa=>absurd a (nw hx).2⟩;have tl:¬((xw=T4 "rule"\/xw=T4 "end")/\(yw=T4 "rule"\/yw=T4 "end"))->¬((xw=T4 "hold"\/xw=T4 "lift")/\(yw=T4 "hold"\/yw=T4 "lift"))->Wl (Ub xw)=true/\Wl (Ub yw)=true/\(if (xw==yw)=true then(if (T4 "paper"==xw || T4 "leave"==xw)=true then Wl (Ub xn)=true/\Wl (Ub yn)=true/\Q (W4 (xn==yn)) else Q (W4 false)) else Q (W4 false)):=λhE hL=>by
    refine⟨ax,ay,?_⟩;split
    ·rename_i h;split
     ·exact⟨bx,by',q _ λe=>⟨hn,λ_ _=>by simpa using e,λa b=>absurd ⟨a,b⟩ hE,λa b=>absurd ⟨a,b⟩ hL,λ_ _=>by simpa using e⟩⟩
     ·rename_i h2;exact q _ λ_=>⟨hn,λa=>absurd (by rw[a];simp) h2,λa b=>absurd ⟨a,b⟩ hE,λa b=>absurd ⟨a,b⟩ hL,λa=>absurd (by rw[a];simp) h2⟩
    ·rename_i h;exact q _ λ_=>⟨hn,λa b=>absurd (by rw[a,b];simp) h,λa b=>absurd ⟨a,b⟩ hE,λa b=>absurd ⟨a,b⟩ hL,λa b=>absurd (by rw[a,b];simp) h⟩
   clear q ax ay bx by'
   split
   ·rename_i h1;split
    ·exact⟨tx,ty,cut (.inl ((E' _).mp h1))⟩
    ·rename_i h2;split
     ·rename_i h3;split
      ·exact⟨tx,ty,cut (.inl ((E' _).mp h1))⟩
      ·rename_i h4;exact tl (λz=>h2 ((E' _).mpr z.2)) (λz=>h4 ((L' _).mpr z.2))
     ·rename_i h3;exact tl (λz=>h2 ((E' _).mpr z.2)) (λz=>h3 ((L' _).mpr z.1))
   ·rename_i h1;split
    ·rename_i h3;split
     ·exact⟨tx,ty,cut (.inr ((L' _).mp h3))⟩
     ·rename_i h4;exact tl (λz=>h1 ((E' _).mpr z.1)) (λz=>h4 ((L' _).mpr z.2))
    ·rename_i h3;exact tl (λz=>h1 ((E' _).mpr z.1)) (λz=>h3 ((L' _).mpr z.1))
def aax:Fa:=λds Q=>∃x:Int,ds=[.int x]/\∀n0 n1 n2 n3 n4 n5 n6:Str,(∀z∈[n0,n1,n2,n3,n4,n5,n6],Uc z=true)->Q (.tuple [.list [.str n0,.str n1,.str n2,.str n3,.str n4,.str n5],.list [.str n1,.str n2,.str n3],.list [.str n2,.str n3],.list [.str n2,.str n3,.str n4,.str n5,.str n6]])
theorem acR(T:Txt Z mg t):aB P w Z mg base Km 2 t.q1n t.q1o ["_law_x"] (aP Z aax):=by
 refine T.q1O.F.okD FO (λds Q h=>?_) (λ_ _ _ _ H O ds Q E hr h=>?_)
 ·obtain⟨x,rfl,_⟩:=h;rfl
 ·obtain⟨x,rfl,q⟩:=h;refine'⟨_,?A,?B⟩
  case A=>
   refine' ak ?C ?D
   case C=>exact(bp (i:=1) FO.nd rfl KU (aH (aaD T) hr T.q1G (aa (dv 0) (aa af ai))))
   case' D=>refine' aq ?E
   case' E=>generalize hG4:ZK _ _ _=eg4
   refine' aK ?F
   case' F=>subst hG4
   refine' bH ?G
   case' G=>refine' aa ?H ?I
   case H=>exact(fe (jj (df (dv 1)) kz (dj af)))
   case' I=>refine' aa ?J ?K
   case J=>exact(fe (jj (df (dv 1)) (dj af) (dj af)))
   case' K=>refine' aa ?L ?M
   case L=>exact(fe (jj (df (dv 1)) (dj af) (dj af)))
   case' M=>refine' aa ?N ai
   case N=>exact(fe (jj (df (dv 1)) (dj af) (dj af)))
  case B=>
  clear hr T;walk_at "d";refine⟨x,7,rfl,J1,J1,λss sl sok=>?_⟩;obtain⟨n0,n1,n2,n3,n4,n5,n6,rfl⟩:∃a b c d e f g,ss=[a,b,c,d,e,f,g]:=by
   match ss,(show ss.length=7 by omega) with
   | [a,b,c,d,e,f,g],_=>exact⟨_,_,_,_,_,_,_,rfl⟩
  walk_at "d";exact q n0 n1 n2 n3 n4 n5 n6 sok
def i7:List Str:=[T4 "paper",T4 "paper",T4 "paper",T4 "paper",T4 "paper",T4 "rule",T4 "rule",T4 "rule",T4 "rule",T4 "rule",T4 "happens",T4 "happens",T4 "happens",T4 "hold",T4 "hold",T4 "end",T4 "lift",T4 "leave",T4 "leave"]
def aaP:Fa:=λds Q=>ds=[]/\Q (.list (i7.map .str))
theorem aaw(T:Txt Z mg t):aB P w Z mg base Km 1 t.q1p t.q1q [] (aP Z aaP):=by
 refine T.q0G.F.okD FP (λds Q h=>?_) (λ_ _ _ _ H O ds Q E hr h=>?_)
 ·obtain⟨rfl,_⟩:=h;rfl
 ·obtain⟨rfl,q⟩:=h;refine'⟨_,?A,?B⟩
  case A=>
   refine' ak ?C ?D
   case C=>
    generalize hG2:ZJ _ _ _ _=eg2;refine' bp (i:=0) FP.nd rfl KU ?E (hs:=by subst hG2;exact mf)
    case' E=>subst hG2
    refine' fe ?F
    case' F=>refine' rR (df ?G) (df ?H)
    case G=>
     refine' fe ?I
     case' I=>refine' rR (df ?J) (df ?K)
     case J=>exact(fe (x9 (n:=5) KL (cC (aa aY ai))))
     case K=>exact(fe (x9 (n:=5) KL (cC (aa aY ai))))
    case H=>exact(fe (x9 (n:=3) KL (cC (aa aY ai))))
   case' D=>refine' aq ?L
   case' L=>generalize hE11_0:Z4 _ _=ee11_0
   exact(aK (fe (rR (df (dv 0)) (df (fe (xB (ds:=[.str "hold",.str "hold",.str "end",.str "lift",.str "leave",.str "leave"]) (by first | (subst hE11_0;rfl))))))))
  case B=>
  clear hr T;walk_at "d";refine⟨?_,?_,?_,q⟩
  ·show(10:Nat)<=16777216;decide
  ·show(13:Nat)<=16777216;decide
  ·show(13:Nat)<=16777210;decide
end
local macro_rules | `(tactic| walk_at "h") =>Ny (Of++" K28.atI_c5 K28.atI_c6 K28.atI_c7 K28.atI_c8 K28.day_iff K28.cell_iff K28.numbers_iff true_and")
theorem IX:bu (ar vi) ["_law_sort","_law_xs","_law_pools_here","_law_far_here","_law_names","_law_kinds","_law_words","_law_rules","_law_day_here","_law_some","_law_target"] ["_law_k","_law_names","_law_xs"] 1 [4,1] ⟨Uh,[ (T7 ".0",LG),(T7 "_law_k",LG),(T7 "_law_names",Uw),(T7 "_law_xs",Uw)],false,false,[]⟩:= .of
theorem SG(ha:Uc a=true)(hb:Uc b=true):cm 2 (.tuple [.str a,.str b]):=gj (cf (iS ha) (cf (iS hb) gm))
theorem IY(hw:Uc w=true)(hn:Uc nm=true)(hr:∀y∈r,cm 5 y):cm 6 (.tuple (.str w:: .int d:: .str nm::r)):=
 gj (cf ((iS hw).mono KL) (cf (t6.mono KL) (cf ((iS hn).mono KL) hr)))
structure aaJ (w:Str) (r:List J4):Prop where
 np:w≠T4 "paper"
 hp:w=T4 "happens"->∃wd,r=[.str wd]/\Uc wd=true
 ru:w=T4 "rule"->∃pt:Pt,r=[pt.enc]/\pt.Ok
 ho:w=T4 "hold"->∃(ip:Bool)(tn:Str)(dp:Bool),r=[g8 ip tn,.bool dp]/\Uc tn=true
 le:w=T4 "leave"->∃kd,r=[.str kd]/\Uc kd=true
 ln:r.length<=5
theorem sX(d0:0<=d/\d < 100000)(hw:Uc w=true)(hn:Uc nm=true)(hr:∀y∈r,cm 5 y)(o:aaJ w r):kQ (.oth w d nm r):=by
 refine⟨d0,hn,hw,IY hw hn hr,λp e=>(by cases e),λw' d' nm' r' e=>(by cases e;exact o.np),λd' nm' r' e=>(by cases e;exact o.hp rfl),λd' nm' r' e=>(by cases e;exact o.ru rfl),λd' nm' r' e=>(by cases e;exact o.ho rfl),λd' nm' r' e=>(by cases e;exact o.le rfl),λw' d' nm' r' e=>(by cases e;exact o.ln)⟩
theorem SI{p:Pp}(d0:0<=p.d/\p.d < 100000)(hn:Uc p.nm=true)(hk:Uc p.kd=true)(hm:∀m∈p.ms,Uc m=true)(hl:p.ms.length<=50):kQ (.pap p):=by
 refine⟨d0,hn,Bd,IY Bd hn (cf ((iS hk).mono KL) (cf ((gj (xH (n:=1) hm)).mono KL) gm)),λp' e=>(by cases e;exact⟨hk,hm,hl⟩),λw' d' nm' r' e=>(by cases e),λd' nm' r' e=>(by cases e),λd' nm' r' e=>(by cases e),λd' nm' r' e=>(by cases e),λd' nm' r' e=>(by cases e),λw' d' nm' r' e=>(by cases e)⟩
theorem SJ:∀z∈i7,Uc z=true:=by
 intro z hz;have h:z∈([T4 "paper",T4 "rule",T4 "happens",T4 "hold",T4 "end",T4 "lift",T4 "leave"]:List Str):=by
  simp only[i7,Ud,UI,or_false]at hz⊢;rcases hz with h|h|h|h|h|h|h|h|h|h|h|h|h|h|h|h|h|h|h<;>simp only[h,true_or,or_true]
 simp only[Ud,UI,or_false]at h;rcases h with rfl|rfl|rfl|rfl|rfl|rfl|rfl<;>decide+kernel
theorem SK(ss:List Str)(lo hi:Option Int):∃ms:List Str,eJ (ss.map Ub) lo hi=ms.map .str/\(∀m∈ms,m∈ss)/\ms.length<=ss.length:=by
 unfold eJ;rw[<-oB,<-Yr];exact⟨_,rfl,λm hm=>YE (Ws hm),by rw[U6,Xq];omega⟩
def BR(n0 n1 n2 n3 n4 n5 n6:Str):J4:= .tuple [.list [.str n0,.str n1,.str n2,.str n3,.str n4,.str n5],.list [.str n1,.str n2,.str n3],.list [.str n2,.str n3],.list [.str n2,.str n3,.str n4,.str n5,.str n6]]
def SM:Fa:=λds Q=>∃(so:Str)(x0 x1 x2 x3 x4 x5 x6 x7 x8:Int)(n0 n1 n2 n3 n4 n5 n6:Str)(f:Bool),ds=[.str so,.list [.int x0,.int x1,.int x2,.int x3,.int x4,.int x5,.int x6,.int x7,.int x8],BR n0 n1 n2 n3 n4 n5 n6,.bool f]/\so∈i7/\0<=x0/\(∀z∈[n0,n1,n2,n3,n4,n5,n6],Uc z=true)/\∀x:De,kQ x->x.w=so->Q x.enc
theorem SN(T:Txt Z mg t):aB P w Z mg base Km 3 t.q1l t.q1m ["_law_sort","_law_xs","_law_pools_here","_law_far_here"] (aP Z SM):=by
 refine T.q1N.F.okD nv (λds Q h=>?_) (λ_ _ _ _ H O ds Q E hr h=>?_)
 ·obtain⟨so,x0,x1,x2,x3,x4,x5,x6,x7,x8,n0,n1,n2,n3,n4,n5,n6,f,rfl,_⟩:=h;rfl
 ·obtain⟨so,x0,x1,x2,x3,x4,x5,x6,x7,x8,n0,n1,n2,n3,n4,n5,n6,f,rfl,hso,h0,hok,q⟩:=h;refine'⟨_,?A,?B⟩
  case A=>
   refine' ak ?C ?D
   case C=>exact(L4 (dv 2) (iF (n:=4) rfl (cF (aQ (i:=4) nv.nd rfl KU) (cF (aQ (i:=5) nv.nd rfl KU) (cF (aQ (i:=6) nv.nd rfl KU) (cF (aQ (i:=7) nv.nd rfl KU) iE))))) (iO (cG aR (cG aR (cG aR (cG aR iN))))))
   case' D=>refine' ak ?E ?F
   case E=>exact(bp (i:=8) nv.nd rfl KU (aH (So T) hr T.q1J (aa (av aX bf (dv 1) af) (aa (dv 3) ai))))
   case' F=>refine' ak ?G ?H
   case G=>
    refine' bC ?I ?J bB
    case I=>exact(aM (cQ hr) cS (dv 0) aY (aC _))
    case' J=>refine' ak ?K ?L
    case K=>exact(l5 (i:=9) nv.nd rfl KU (D8 rfl IX rfl T.q0l (bD (PE.imp (bY c7 rfl T.q0f U5 (bD (dv 4) bo)) (bI dY)) bo) aR b7 KL (λ_ _ _ _=>(aQ (i:=0) IX.nd rfl KU)) (λ_ _ _ _=>(eF (PW.pt (di (aM (cu hr.units) cv (az E6 uB (az E5 uB (av aX bf (dv 2) af) (dv 0)) af) af (aC _)) (dG (aM (cu hr.units) cv (az E6 uB (az E5 uB (av aX bf (dv 2) af) (dv 0)) af) af (aC _))))))) (λ_ _ _ _=>(av aX bf (dv 1) (dv 0)))))
    case' L=>refine' aq ?M
    case' M=>generalize hG10:ZK _ _ _=eg10
    refine' aK ?N
    case' N=>subst hG10
    refine' bH ?O
    case' O=>refine' aa aY ?P
    case' P=>refine' aa (dv 8) ?Q
    case' Q=>refine' aa ?R ?S
    case R=>
     refine' cO aX bf (df (dv 4)) ?T
     case T=>exact(df (az bj aI (av aX bf (dv 1) af) (PE.imp (bY c7 rfl T.q0f U5 (bD (dv 4) bo)) (bI dY))))
    case' S=>refine' aa ?U ?V
    case U=>
     refine' cO aX bf (df (dv 5)) ?W
     case W=>exact(df (az bj aI (az bj aI (av aX bf (dv 1) af) af) (PE.imp (bY c7 rfl T.q0f U5 (bD (dv 5) bo)) (bI dY))))
    case' V=>refine' aa ?X ai
    case X=>exact(PE.imp (eD ia rfl T.q0h fZ (bD (fe (jj (df (fe (MP rfl T.q0k V7 (bD (dv 9) bo)))) kz (dj af))) bo)) (bI ie))
   case' H=>refine' ak ?Y ?Z
   case Y=>
    refine' bC ?a ?b bB
    case a=>exact(aM (cQ hr) cS (dv 0) aY (aC _))
    case' b=>refine' aq ?c
    case' c=>refine' aK ?d
    case' d=>refine' bH ?e
    case' e=>refine' aa aY ?f
    case' f=>refine' aa (dv 8) ?g
    case' g=>refine' aa ?h ?i
    case h=>
     refine' cO aX bf (df (dv 4)) ?j
     case j=>exact(df (az bj aI (av aX bf (dv 1) af) (PE.imp (bY c7 rfl T.q0f U5 (bD (dv 4) bo)) (bI dY))))
    case' i=>refine' aa ?k ai
    case' k=>refine' cO aX bf (df (dv 6)) ?l
    case l=>exact(df (az bj aI (av aX bf (dv 1) af) af))
   case' Z=>refine' ak ?m ?n
   case m=>
    refine' bC ?o ?p bB
    case o=>exact(aM (cQ hr) cS (dv 0) aY (aC _))
    case' p=>refine' aq ?q
    case' q=>refine' aK ?r
    case' r=>refine' bH ?s
    case' s=>refine' aa aY ?t
    case' t=>refine' aa (dv 8) ?u
    case' u=>refine' aa ?v ?w
    case v=>
     refine' cO aX bf (df (dv 7)) ?x
     case x=>exact(df (az bj aI (av aX bf (dv 1) af) (PE.imp (bY c7 rfl T.q0f U5 (bD (dv 7) bo)) (bI dY))))
    case' w=>refine' aa ?y ai
    case y=>exact(aH (Sv T) hr T.q1L (aa (dv 1) (aa (dv 5) (aa (dv 6) (aa (dv 3) ai)))))
   case' n=>refine' ak ?z ?A0
   case z=>
    refine' bC ?A1 ?A2 bB
    case A1=>exact(aM (cQ hr) cS (dv 0) aY (aC _))
    case' A2=>refine' ak ?A3 ?A4
    case A3=>
     generalize hG59:XX _ _ _=eg59;refine' bp (i:=10) nv.nd rfl KU ?A5 (hs:=by subst hG59;exact oq)
     case' A5=>subst hG59
     refine' cO aX bf (df ?A6) ?A7
     case A6=>
      refine' fe ?A8
      case' A8=>refine' cC ?A9
      case' A9=>refine' aa ?AA ?AB
      case AA=>
       refine' bH ?AC
       case' AC=>refine' aa aY ?AD
       case' AD=>refine' aa ?AE ai
       case' AE=>refine' cO aX bf (df (dv 4)) ?AF
       case AF=>exact(df (az bj aI (av aX bf (dv 1) af) (PE.imp (bY c7 rfl T.q0f U5 (bD (dv 4) bo)) (bI dY))))
      case' AB=>refine' aa ?AG ai
      case' AG=>refine' bH ?AH
      case' AH=>refine' aa aY ?AI
      case' AI=>refine' aa ?AJ ai
      case' AJ=>refine' cO aX bf (df (dv 5)) ?AK
      case AK=>exact(df (az bj aI (av aX bf (dv 1) af) (PE.imp (bY c7 rfl T.q0f U5 (bD (dv 5) bo)) (bI dY))))
     case A7=>exact(df (az bj aI (av aX bf (dv 1) af) af))
    case' A4=>refine' aq ?AL
    case' AL=>generalize hG81:ZK _ _ _=eg81
    refine' aK ?AM
    case' AM=>subst hG81
    refine' bH ?AN
    case' AN=>refine' aa aY ?AO
    case' AO=>refine' aa (dv 8) ?AP
    case' AP=>refine' aa ?AQ ?AR
    case AQ=>
     refine' cO aX bf (df (dv 7)) ?AS
     case AS=>exact(df (az bj aI (av aX bf (dv 1) af) af))
    case' AR=>refine' aa (dv 10) ?AT
    case' AT=>refine' aa ?AU ai
    case AU=>exact(cX (cu hr.units) cv (df (az bj aI (av aX bf (dv 1) af) af)) (df af) (aC _))
   case' A0=>refine' ak ?AV ?AW
   case AV=>
    refine' bC ?AX ?AY bB
    case AX=>exact(aM (cQ hr) cS (dv 0) aY (aC _))
    case' AY=>refine' aq ?AZ
    case' AZ=>refine' aK ?Aa
    case' Aa=>refine' bH ?Ab
    case' Ab=>refine' aa aY ?Ac
    case' Ac=>refine' aa (dv 8) ?Ad
    case' Ad=>refine' aa ?Ae ?Af
    case Ae=>
     refine' cO aX bf (df (dv 4)) ?Ag
     case Ag=>exact(df (az bj aI (av aX bf (dv 1) af) (PE.imp (bY c7 rfl T.q0f U5 (bD (dv 4) bo)) (bI dY))))
    case' Af=>refine' aa ?Ah ai
    case' Ah=>refine' cO aX bf (df (dv 5)) ?Ai
    case Ai=>exact(df (az bj aI (az bj aI (av aX bf (dv 1) af) af) (PE.imp (bY c7 rfl T.q0f U5 (bD (dv 5) bo)) (bI dY))))
   case' AW=>refine' aq ?Aj
   case' Aj=>refine' aK ?Ak
   case' Ak=>refine' bH ?Al
   case' Al=>refine' aa (dv 0) ?Am
   case' Am=>refine' aa (dv 8) ?An
   case' An=>refine' aa ?Ao ai
   case' Ao=>refine' cO aX bf (df (dv 7)) ?Ap
   case Ap=>exact(df (az bj aI (av aX bf (dv 1) af) (av aX bf (fe (cC (aa (PE.imp (bY c7 rfl T.q0f U5 (bD (dv 7) bo)) (bI dY)) (aa af ai)))) (PE.imp (eD rF rfl T.q0j nM (bD (cX (cQ hr) cS (df (dv 0)) (df aY) (aC _)) bo)) (bI rS)))))
  case B=>
  clear hr T;simp only[BR];generalize hB:gQ (gi _ _ _) _=TB;walk_at "h";refine⟨h0,λd d0=>?_⟩;subst hB;have six:∀i:Int,0<=i->i < 6->∃nm,atI [Ub n0,Ub n1,Ub n2,Ub n3,Ub n4,Ub n5] i=some (.str nm)/\Uc nm=true:=λi i0 i1=>by
   obtain⟨nm,hm,e⟩:=kP [n0,n1,n2,n3,n4,n5] i0 (show i < ((6:Nat):Int) by omega);exact⟨nm,e,hok nm (by simp only[Ud,UI,or_false]at hm⊢;rcases hm with h|h|h|h|h|h<;>simp only[h,true_or,or_true])⟩
  have thr:∀i:Int,0<=i->i < 3->∃nm,atI [Ub n1,Ub n2,Ub n3] i=some (.str nm)/\Uc nm=true:=λi i0 i1=>by
   obtain⟨nm,hm,e⟩:=kP [n1,n2,n3] i0 (show i < ((3:Nat):Int) by omega);exact⟨nm,e,hok nm (by simp only[Ud,UI,or_false]at hm⊢;rcases hm with h|h|h<;>simp only[h,true_or,or_true])⟩
  have fiv:∀i:Int,0<=i->i < 5->∃nm,atI [Ub n2,Ub n3,Ub n4,Ub n5,Ub n6] i=some (.str nm)/\Uc nm=true:=λi i0 i1=>by
   obtain⟨nm,hm,e⟩:=kP [n2,n3,n4,n5,n6] i0 (show i < ((5:Nat):Int) by omega);exact⟨nm,e,hok nm (by simp only[Ud,UI,or_false]at hm⊢;rcases hm with h|h|h|h|h<;>simp only[h,true_or,or_true])⟩
  have l1:∀{s:Str},Uc s=true->cm 5 (.str s):=λh=>(iS h).mono KL;refine sV λR hR=>?_;walk_at "h";split
  ·rename_i e;refine⟨KL,KL,λi acc=>∃ss:List Str,acc=ss.map .str/\ss.length<=i/\∀z∈ss,Uc z=true,⟨[],rfl,T8 _,KJ⟩,?_,?_⟩
   ·rintro i z acc hz ⟨ss,rfl,sl,sok⟩;obtain⟨hi,rfl⟩:=rT hz;have hi:i < 6:=hi;obtain⟨nm,en,hn⟩:=six (0+(i:Int)) J1 J1;walk_at "d";have no:∃ss_1:List Str,UR Ub ss=UR Ub ss_1/\ss_1.length<=i+1/\∀(z:Str),z∈ss_1->Uc z=true:=⟨ss,rfl,J1,sok⟩;refine⟨⟨_,rfl⟩,J1,λ_ r=>?_⟩;split
    ·refine⟨⟨_,rfl⟩,J1,λ_ r=>?_⟩;split
     ·refine⟨_,en,ss++[nm],by rw[UA];rfl,by rw[Ux,WI];omega,λz hz=>?_⟩;rcases Um.mp hz with h|h
      ·exact sok z h
      ·rw[Ur]at h;rw[h];exact hn
     ·exact no
    ·exact no
   ·rintro acc ⟨ss,rfl,sl,sok⟩;rw[xt]at sl;have sl:ss.length<=6:=sl;obtain⟨nm,en,hn⟩:=six (x1 % 6) J1 J1;obtain⟨kd,ek,hk⟩:=thr (x2 % 3 % 3) J1 J1;refine⟨KL,_,en,KL,_,ek,ss,rfl,J1,?_⟩;obtain⟨ms,em,m1,m2⟩:=SK (fR ss) none (some 4);have sp:=kD ss;rw[em];exact q (.pap ⟨d,nm,kd,ms⟩) (SI d0 hn hk (λm hm=>sok m (sp.mem_iff.mp (m1 m hm))) (by rw[sp.length_eq]at m2;show ms.length<=50;omega)) (eq_of_beq e).symm
  ·rename_i ep;subst hR;refine sV λR hR=>?_;walk_at "h";split
   ·rename_i e;obtain⟨nm,en,hn⟩:=six (x1 % 6) J1 J1;obtain⟨kd,hk,ek⟩:=kP [n2,n3] (i:=x2 % 2) J1 (by show _ < ((2:Nat):Int);omega);have hk:Uc kd=true:=hok kd (by simp only[Ud,UI,or_false]at hk⊢;rcases hk with h|h<;>simp only[h,true_or,or_true]);exact⟨KL,_,en,_,ek,q (.oth (T4 "happens") d nm [.str kd]) (sX d0 Kg hn (cf (l1 hk) gm) ⟨Kg,λ_=>⟨kd,rfl,hk⟩,λh=>absurd h Kg,λh=>absurd h Kg,λh=>absurd h Kg,KJ⟩) (eq_of_beq e).symm⟩
   ·rename_i eh;subst hR;refine sV λR hR=>?_;walk_at "h";split
    ·rename_i e;obtain⟨nm,en,hn⟩:=fiv (x1 % 5) J1 J1;refine⟨KL,_,en,x0,x1,x2,x3,x4,x5,x6,x7,x8,n1,n2,n3,n2,n3,f,rfl,λz hz=>hok z ?_,λpt hpt=>?_⟩
     ·simp only[Ud,UI,or_false]at hz⊢;rcases hz with h|h|h|h|h<;>simp only[h,true_or,or_true]
     ·exact q (.oth (T4 "rule") d nm [pt.enc]) (sX d0 Kg hn (cf ((Pt.lay hpt).mono KL) gm) ⟨Kg,λh=>absurd h Kg,λ_=>⟨pt,rfl,hpt⟩,λh=>absurd h Kg,λh=>absurd h Kg,KJ⟩) (eq_of_beq e).symm
    ·rename_i er;subst hR;refine sV λR hR=>?_;walk_at "h";split
     ·rename_i e;obtain⟨nm,en,hn⟩:=six (x2 % 6) J1 J1;obtain⟨kd,ek,hk⟩:=thr (x2 % 3) J1 J1;obtain⟨ho,eo,hh⟩:=fiv (x1 % 2) J1 J1;obtain⟨v,ev,hv⟩:=rJ (xs:=[UC [Ub (T4 "paper"),.str nm],UC [Ub (T4 "kind"),.str kd]]) (i:=x3 % 2) J1 (by show _ < ((2:Nat):Int);omega);have lv:∃(ip:Bool)(z:Str),v=g8 ip z/\Uc z=true:=by
       simp only[Ud,UI,or_false]at hv;rcases hv with rfl|rfl
       ·exact⟨true,nm,rfl,hn⟩
       ·exact⟨false,kd,rfl,hk⟩
      obtain⟨ip,z,rfl,hz⟩:=lv;have ly:cm 5 (g8 ip z):=(SG (by cases ip<;>decide+kernel) hz).mono KL;exact⟨KL,_,en,KL,_,ek,_,ev,_,eo,q (.oth (T4 "hold") d ho [g8 ip z,.bool (x4 % 2==0)]) (sX d0 Kg hh (cf ly (cf (abm.mono KL) gm)) ⟨Kg,λh=>absurd h Kg,λh=>absurd h Kg,λ_=>⟨ip,z,_,rfl,hz⟩,λh=>absurd h Kg,KJ⟩) (eq_of_beq e).symm⟩
     ·rename_i eo;subst hR;refine sV λR hR=>?_;walk_at "h";split
      ·rename_i e;obtain⟨nm,en,hn⟩:=six (x1 % 6) J1 J1;obtain⟨kd,ek,hk⟩:=thr (x2 % 3 % 3) J1 J1;exact⟨KL,_,en,KL,_,ek,q (.oth (T4 "leave") d nm [.str kd]) (sX d0 Kg hn (cf (l1 hk) gm) ⟨Kg,λh=>absurd h Kg,λh=>absurd h Kg,λh=>absurd h Kg,λ_=>⟨kd,rfl,hk⟩,KJ⟩) (eq_of_beq e).symm⟩
      ·rename_i el;have fin:∀m:Int,0 < m->m<=5->∃x_1,atI [Ub n2,Ub n3,Ub n4,Ub n5,Ub n6] (x1 % m)=some x_1/\Q (UC [Ub so,Uy d,x_1]):=λm m0 m5=>by
        obtain⟨nm,en,hn⟩:=fiv (x1 % m) (XE _ J1) (Int.lt_of_lt_of_le (Xa _ m0) m5);exact⟨_,en,q (.oth so d nm []) (sX d0 (SJ so hso) hn gm ⟨λh=>ep (by rw[h];rfl),λh=>absurd (by rw[h];rfl) eh,λh=>absurd (by rw[h];rfl) er,λh=>absurd (by rw[h];rfl) eo,λh=>absurd (by rw[h];rfl) el,KJ⟩) rfl⟩
       subst hR;walk_at "h";split
       ·exact⟨_,fJ,2,rfl,KL,fin 2 KL KL⟩
       ·exact⟨_,cK,5,rfl,KL,fin 5 KL KL⟩
theorem IZ:bu (ar vj) ["_law_script","_law_at","_law_far_here","_law_head","_law_pools_here","_law_found","_law_k","_law_sort","_law_xs","_law_deed_here","_law_turn"] ["_law_other","_law_deed_here"] 1 [9] ⟨Uh,[ (T7 ".0",LG),(T7 "_law_other",LG),(T7 "_law_quarrel",U1),(T7 "_law_deed_here",Uw)],false,false,[]⟩:= .of
theorem I0{ns:List Int}(h:(ns.length:Int)=4):∃a b c d,ns=[a,b,c,d]:=by
 match ns,(show ns.length=4 by omega) with
 | [a,b,c,d],_=>exact⟨_,_,_,_,rfl⟩
theorem SO{ns:List Int}(h:(ns.length:Int)=9):∃a0 a1 a2 a3 a4 a5 a6 a7 a8,ns=[a0,a1,a2,a3,a4,a5,a6,a7,a8]:=by
 match ns,(show ns.length=9 by omega) with
 | [a0,a1,a2,a3,a4,a5,a6,a7,a8],_=>exact⟨_,_,_,_,_,_,_,_,_,rfl⟩
theorem Ja{f:De->Bool}(h:∀x,f x=true->x.w=s):∀xs:List De,(xs.filter f).length<=((xs.map De.w).filter (·==s)).length
 | []=>T8 _
 |x::xs=>by
  have ih:=Ja h xs;rw[UP,T9,UP];by_cases hf:f x=true
  ·rw[KI hf,KI (by rw[h x hf];exact beq_self_eq_true _)];exact Nat.succ_le_succ ih
  ·rw[JS hf];split
   ·exact Nat.le_succ_of_le ih
   ·exact ih
theorem BS{f:De->Bool}{xs:List De}(sl:(xs.map De.w).Sublist i7)(hn:(i7.filter (·==s)).length=n)(h:∀x,f x=true->x.w=s):(xs.filter f).length<=n:=by
 rw[<-hn];exact UN (Ja h xs) (sl.filter _).length_le
theorem j2.symm(h:j2 x y):j2 y x:=⟨λe=>h.1 e.symm,λp q e1 e2 e=>h.2.1 q p e2 e1 e.symm,λa b e=>h.2.2.1 b a ⟨e.1.symm,e.2.symm⟩,λa b e=>h.2.2.2.1 b a ⟨e.1.symm,e.2.symm⟩,λa b e=>h.2.2.2.2 b a e.symm⟩
structure Dr (np nr nh:Nat) (xs:List De):Prop where
 it:∀x∈xs,kQ x
 pw:xs.Pairwise j2
 ln:xs.length<=20
 cP:(aA xs).length<=np
 cR:(xs.filter De.isR).length<=nr
 cH:(xs.filter De.isH).length<=nh
theorem Dr.of(it:∀x∈xs,kQ x)(pw:xs.Pairwise j2)(sl:(xs.map De.w).Sublist i7):Dr 5 5 3 xs/\xs.length<=19:=by
 have ln:xs.length<=19:=by have:=sl.length_le;rwa [T6]at this
 have pl:(aA xs).length<=5:=by
  have h1:=BS (f:=gF λ_=>true) sl (n:=5) (s:=T4 "paper") Kg (λx hx=>by cases x with|pap p=>rfl|oth=>cases hx);have h2:=congrArg YM (qK (f:=λ_=>true) xs);rw[iu,T6,T6]at h2;omega
 refine⟨⟨it,pw,J1,pl,?_,?_⟩,ln⟩
 ·exact BS sl (s:=T4 "rule") Kg (λx hx=>by cases x with|pap p=>cases hx|oth w d nm r=>exact eq_of_beq hx)
 ·exact BS sl (s:=T4 "happens") Kg (λx hx=>by cases x with|pap p=>cases hx|oth w d nm r=>exact eq_of_beq hx)
theorem Dr.perm{xs ys:List De}(d:Dr np nr nh xs)(h:ys.Perm xs):Dr np nr nh ys:=
 ⟨λx hx=>d.it x (h.mem_iff.mp hx),(h.pairwise_iff λz=>z.symm).mpr d.pw,by rw[h.length_eq];exact d.ln,by unfold aA;rw[(h.filterMap _).length_eq];exact d.cP,by rw[(h.filter _).length_eq];exact d.cR,by rw[(h.filter _).length_eq];exact d.cH⟩
theorem Dr.good(h:Dr np nr nh xs):aW xs:=by
 have it:=h.it;have pw:=h.pw;have ln:=h.ln;clear h;have pg:∀p∈aA xs,kQ (.pap p):=λp hp=>it _ (qJ.mp hp);have pl:(aA xs).length<=xs.length:=Zd De.pp xs;have two:∀{A:De->De->Prop},(∀x y,j2 x y->¬A x y)->(∀x y,A x y->A y x)->∀x∈xs,∀y∈xs,A x y->x=y:=λ{A} h sy x hx y hy a=>by
  clear it pg pl ln
  induction xs with
  |nil=>cases hx
  |cons z xs ih=>
   rw[Vd]at pw;rcases Ud.mp hx with e1|h1
   ·rcases Ud.mp hy with e2|h2
    ·rw[e1,e2]
    ·exact absurd (by rw[<-e1];exact a) (h z y (pw.1 y h2))
   ·rcases Ud.mp hy with e2|h2
    ·exact absurd (by rw[<-e2];exact sy _ _ a) (h z x (pw.1 x h1))
    ·exact ih pw.2 h1 h2
 refine⟨⟨⟨⟨J1,?_,λp hp=>(pg p hp).nm,λp hp=>((pg p hp).pp p rfl).1,λp hp=>((pg p hp).pp p rfl).2⟩,λw d nm r h=>(it _ h).np w d nm r rfl,J1,λx hx=>(it x hx).w,λx hx=>(it x hx).nm⟩,λd nm r h=>(it _ h).hp d nm r rfl,λd nm r h=>(it _ h).ru d nm r rfl,pw.imp λh=>h.1,λx hx=>(it x hx).d0,λx hx y hy a1 a2 a3 a4=>?_⟩,λd nm r h=>(it _ h).ho d nm r rfl,λd nm r h=>(it _ h).le d nm r rfl,λx hx y hy a1 a2 a3 a4=>?_,λx hx y hy a1 a2 a3=>?_⟩
 ·rw[YD,Vk];refine pw.filterMap De.pp λa b h p hp q hq=>?_;cases a with
  |oth=>cases hp
  |pap p'=>
   cases b with
   |oth=>cases hq
   |pap q'=>cases hp;cases hq;exact h.2.1 _ _ rfl rfl
 ·exact two (A:=λx y=>x.isE=true/\y.isE=true/\x.d=y.d/\x.nm=y.nm) (λx y h a=>h.2.2.1 a.1 a.2.1 a.2.2) (λx y a=>⟨a.2.1,a.1,a.2.2.1.symm,a.2.2.2.symm⟩) x hx y hy ⟨a1,a2,a3,a4⟩
 ·exact two (A:=λx y=>x.isL=true/\y.isL=true/\x.d=y.d/\x.nm=y.nm) (λx y h a=>h.2.2.2.1 a.1 a.2.1 a.2.2) (λx y a=>⟨a.2.1,a.1,a.2.2.1.symm,a.2.2.2.symm⟩) x hx y hy ⟨a1,a2,a3,a4⟩
 ·exact two (A:=λx y=>x.w=T4 "leave"/\y.w=T4 "leave"/\x.nm=y.nm) (λx y h a=>h.2.2.2.2 a.1 a.2.1 a.2.2) (λx y a=>⟨a.2.1,a.1,a.2.2.symm⟩) x hx y hy ⟨a1,a2,a3⟩
theorem SQ(l:List (Int×Str)):(fL l).length<=l.length:=by
 unfold fL;split
 ·rename_i h;exact ZU h.choose_spec.1.length_eq
 ·exact UY _
theorem Jb{α:Type}{p q:α->Bool}(h:∀x,p x=true->q x=true):∀xs:List α,(xs.filter p).length+((xs.filter λx=>!p x).filter q).length<=(xs.filter q).length
 | []=>T8 _
 |x::xs=>by
  have ih:=Jb h xs;by_cases hp:p x=true
  ·rw[UP,KI hp,UP,JS (by rw[hp];exact Ue),UP,KI (h x hp),Uk,Uk];omega
  ·rw[UP,JS hp,UP,KI (by rw[V0]at hp;rw[hp];rfl),UP,UP];by_cases hq:q x=true
   ·rw[KI hq,KI hq,Uk,Uk];omega
   ·rw[JS hq,JS hq];exact ih
theorem BU(h:eU nm x=true):x.isH=true/\x.nm=nm:=by
 cases x with
 |pap p=>cases h
 |oth w d n r=>
  simp only[eU,U0,beq_iff_eq]at h;exact⟨by simp[De.isH,h.1],h.2⟩
theorem Jc:∀{nms:List Str},nms.Nodup->∀xs:List De,(nms.map λnm=>(xs.filter (eU nm)).length).sum<=(xs.filter De.isH).length
 | [],_,_=>UY _
 |nm::nms,nd,xs=>by
  rw[Vz]at nd;have ih:=Jc nd.2 (xs.filter λx=>!eU nm x);have sp:=Jb (p:=eU nm) (q:=De.isH) (λx h=>(BU h).1) xs;have e:(nms.map λnm'=>((xs.filter λx=>!eU nm x).filter (eU nm')).length)=nms.map λnm'=>(xs.filter (eU nm')).length:=by
   refine VN λnm' hn=>?_;rw[YS];congr 2;funext x;by_cases h:eU nm' x=true
   ·have h2:eU nm x=false:=by
     rw[<-V0];intro z;exact nd.1 (by rw[<-(BU z).2,(BU h).2];exact hn)
    rw[h,h2];rfl
   ·rw[V0]at h;rw[h];rfl
  rw[e]at ih;rw[T9,Xe];omega
theorem sY{α β:Type}{f:α->List β}{g:α->Nat}:∀{l:List α},(∀x∈l,(f x).length<=g x)->(l.flatMap f).length<=(l.map g).sum
 | [],_=>UY _
 |x::l,h=>by
  have ih:=sY (f:=f) (g:=g) (l:=l) λy hy=>h y (UD _ hy);have h1:=h x UG;rw[Wv,Ux,T9,Xe];omega
theorem Jd{α:Type}:∀l:List α,(l.map λ_=>1).sum=l.length
 | []=>rfl
 |_::l=>by rw[T9,Xe,Jd l,Uk];omega
theorem SR(h:Dr np nr nh xs)(kd:Str)(s:cq)(k:Int)(u:Str):(ix (dO xs) kd s k u).length<=max np nh:=by
 have rl:(dO xs).length=(aA xs).length:=by unfold dO;rw[T6,jT]
 have c1:=h.cP;have c3:=h.cH;have hap:∀wd:Str,((dO xs).map λr=>(dN r.hs wd).length).sum<=nh:=λwd=>by
  have nd:((bK (aA xs)).map (·.nm)).Nodup:=((iq _).map _).nodup_iff.mpr h.good.gd.gx.gp.nd;have hs:=Jc nd xs;have le:((dO xs).map λr=>(dN r.hs wd).length).sum<=(((bK (aA xs)).map (·.nm)).map λnm=>(xs.filter (eU nm)).length).sum:=by
   unfold dO;rw[Uo,Uo];generalize bK (aA xs)=cs
   induction cs with
   |nil=>exact T8 _
   |cons c cs ih=>
    rw[T9,T9,Xe,Xe];have h1:(dN (aU xs c).hs wd).length<=(xs.filter (eU c.nm)).length:=by
     unfold dN;rw[T6];refine UN (UU _ _) (UN (SQ _) ?_);unfold fh;rw[T6];exact T8 _
    exact Nat.add_le_add h1 ih
  omega
 unfold ix;cases s with
 |com=>
  have:=sY (f:=λr:Rp=>if (r.c.kd==kd)=true then(pM r .com).map λb=>iw b k u else []) (g:=λ_=>1) (l:=dO xs) (λr _=>by
   split
   ·rw[T6];exact T8 _
   ·exact UY _)
  rw[Jd]at this;omega
 |fst wd=>
  have:=sY (f:=λr:Rp=>if (r.c.kd==kd)=true then(pM r (.fst wd)).map λb=>iw b k u else []) (g:=λr=>(dN r.hs wd).length) (l:=dO xs) (λr _=>by
   split
   ·rw[T6];show((dN r.hs wd).take 1).length<=_;rw[U6];omega
   ·exact UY _)
  have:=hap wd;omega
 |lst wd=>
  have:=sY (f:=λr:Rp=>if (r.c.kd==kd)=true then(pM r (.lst wd)).map λb=>iw b k u else []) (g:=λr=>(dN r.hs wd).length) (l:=dO xs) (λr _=>by
   split
   ·rw[T6];exact T8 _
   ·exact UY _)
  have:=hap wd;omega
theorem acN(h:Dr np nr nh xs)(hx:x∈xs):(cL xs x).length<=if x.isR=true then max np nh else 0:=by
 by_cases e:cL xs x=[]
 ·rw[e];exact UY _
 ·have hr:x.isR=true:=by
   rw[<-Xj];exact λz=>e (vI z)
  rw[KI hr];cases x with
  |pap p=>cases hr
  |oth wo d nm r=>
   have hw:wo=T4 "rule":=eq_of_beq hr;subst hw;obtain⟨pt,rfl,ok⟩:=(h.it _ hx).ru d nm r rfl;cases pt with
   |two w2 kd=>exact absurd (Br _ _ _ _ _ _) e
   |five w2 kd s k u=>
    rw[vH];exact SR h kd s k u
theorem Je(m:Nat):∀xs:List De,(xs.map λx=>if x.isR=true then m else 0).sum=m*(xs.filter De.isR).length
 | []=>rfl
 |x::xs=>by
  rw[T9,Xe,Je m xs,UP];split
  ·rw[Uk,Tu];omega
  ·omega
theorem Dr.few(h:Dr np nr nh xs)(hn:20+max np nh*nr < 64):ju xs:=by
 have fb:=sY (f:=cL xs) (l:=xs) λx hx=>acN h hx;rw[Je]at fb;have ln:=h.ln;have mm:=ZQ (max np nh) h.cR;have tl:(gI xs).length < 64:=by
  unfold gI;rw[Ux,T6];omega
 exact⟨J1,gI xs,tl,λz hz=>hz⟩
def aab:Fa:=λds Q=>∃(ns:List Int)(k:Int)(f:Bool),ds=[gP (ns.map .int),.int k,.bool f]/\0<=k/\k<=100/\∀xs,Dr 5 5 3 xs->xs.length<=19->Q (.tuple (xs.map De.enc))
def SV(v0 v1 v2 v3 v4:J4)(i:Nat)(Y:Dl):Prop:=∃(xs:List De)(o6 o7 o8 o9:Option Sl),(xs.map De.w).Sublist (i7.take i)/\(∀x∈xs,kQ x)/\xs.Pairwise j2/\Y=[some (Sl.v v0),some (Sl.v v1),some (Sl.v v2),some (Sl.v v3),some (Sl.v v4),some (Sl.o (xs.map De.enc)),o6,o7,o8,o9,none]
theorem SW(T:Txt Z mg t):aB P w Z mg base Km 4 t.q1r t.q1s ["_law_script","_law_at","_law_far_here"] (aP Z aab):=by
 refine T.q1P.F.okD kF (λds Q h=>?_) (λ_ _ _ _ H O ds Q E hr h=>?_)
 ·obtain⟨ns,k,f,rfl,_⟩:=h;rfl
 ·obtain⟨ns,k,f,rfl,k0,k1,q⟩:=h;refine'⟨_,?A,?B⟩
  case A=>
   refine' ak ?C ?D
   case C=>exact(bp (i:=3) kF.nd rfl KU (aH (IK T) hr T.F_z (aa (aH (II T) hr T.F_y (aa (dv 0) (aa (dv 1) ai))) (aa af ai))))
   case' D=>refine' ak ?E ?F
   case E=>exact(bp (i:=4) kF.nd rfl KU (aH (acR T) hr T.q1O (aa (av aX bf (dv 3) af) ai)))
   case' F=>refine' ak ?G ?H
   case G=>exact(jh (i:=5) kF.nd rfl KU (cC ai))
   case' H=>refine' ak ?I ?J
   case I=>
    refine' Oo U3 rfl rfl T.q0P (aa (PE.imp (KA (aaw T) (hr.mono KL) rfl T.q0G.m T.q0G.kp T.q0G.b .nil fG) Mc) ai) ?K (iO (cG aR (cG aR iN))) ?L
    case K=>exact(iF (n:=2) rfl (cF (aQ (i:=6) kF.nd rfl KU) (cF (aQ (i:=7) kF.nd rfl KU) iE)))
    case' L=>refine' ak ?M ?N
    case M=>
     refine' bp (i:=8) kF.nd rfl KU ?O (hs:=rY)
     case O=>exact(aH (IK T) hr T.F_z (aa (aH (II T) hr T.F_y (aa (dv 0) (aa (az bO cb (az bO cb (dv 1) af) (dv 6)) ai))) (aa af ai)))
    case' N=>refine' ak ?P ?Q
    case P=>exact(bp (i:=9) kF.nd rfl KU (aH (SN T) hr T.q1N (aa (dv 7) (aa (dv 8) (aa (dv 4) (aa (dv 2) ai))))))
    case' Q=>refine' aq ?R
    case' R=>refine' bC ?S ?T bB
    case S=>exact(PW.pt (di (aM j8 dH (az bj aI (av aX bf (dv 8) af) af) af (aC _)) (dG (jG (fP (PE.imp (bY (DC rfl) rfl T.q0O DD (bD (fe (fq rfl IZ (dw 5) aR b7 KL (λ_ _ _ _=>(aQ (i:=0) IZ.nd rfl KU)) (λ_ _ _ _=>ft) (λ_ _ _ _=>(aH (Sz T) hr T.q1M (aa (dv 1) (aa (dv 0) ai)))))) bo)) (bI wY)))))))
    case' T=>refine' aq ?U
    case U=>exact(kj (i:=5) (pv 5) (dv 9))
   case' J=>refine' ak ?V ?W
   case V=>
    refine' bp (i:=10) kF.nd rfl KU ?X (hs:=mf)
    case X=>exact(az bj aI (av aX bf (dv 3) af) (az bO cb (PE.imp (bY c7 rfl T.q0f U5 (lh (dw 5) bo)) (bI dY)) af))
   case' W=>refine' aq ?Y
   case' Y=>refine' aK ?Z
   case Z=>exact(PE.imp (eD ia rfl T.q0h fZ (bD (fe (rR (df (fe (jj (dw 5) (dj (dv 10)) kz))) (df (fe (jj (dw 5) kz (dj (dv 10))))))) bo)) (bI ie))
  case B=>
  clear hr T;walk_at "h";refine⟨k0,J1,λc ms ml mn=>?_⟩;obtain⟨a,b,c2,d,rfl⟩:=I0 ml;have c20:=(mn c2 KJ).1;clear ml mn;refine⟨_,fJ,b,rfl,λn0 n1 n2 n3 n4 n5 n6 nok=>⟨rfl,_,rfl,?_⟩⟩;refine⟨SV (gP (ns.map .int)) (.int k) (.bool f) (.list ([a,b,c2,d].map .int)) (BR n0 n1 n2 n3 n4 n5 n6),⟨[],_,_,_,_,List.nil_sublist _,KJ,.nil,rfl⟩,?_,?_⟩
  ·rintro i z Y hz ⟨xs,o6,o7,o8,o9,sl,hg,hp,rfl⟩;rw[sA,Ul]at hz;cases hz':i7[i]? with
   |none=>rw[hz']at hz;cases hz
   |some so=>
    rw[hz']at hz;cases hz;have hi:i < 19:=(Uj.mp hz').1;walk_at "h";refine⟨J1,J1,λc1 ys yl yn=>?_⟩;obtain⟨y0,y1,y2,y3,y4,y5,y6,y7,y8,rfl⟩:=SO yl;have y00:=(yn y0 KJ).1;clear yl yn;refine⟨so,y0,y1,y2,y3,y4,y5,y6,y7,y8,n0,n1,n2,n3,n4,n5,n6,f,rfl,UJ hz',y00,nok,λx gx hw=>?_⟩;walk_at "h";have ts:i7.take (i+1)=i7.take i++[so]:=by rw[UZ,hz'];rfl
    have sl1:(xs.map De.w).Sublist (i7.take (i+1)):=by rw[ts];exact sl.trans (List.sublist_append_left _ _)
    have xl:xs.length<=19:=by have:=sl1.length_le;rw[T6,U6]at this;exact UN this (Y9 _ _)
    split
    ·refine⟨by rw[T6];omega,λi acc=>∃bs:List Bool,acc=bs.map .bool/\bs.length=i/\∀j:Nat,bs[j]?=some false->∀y,xs[j]?=some y->j2 x y,⟨[],rfl,rfl,KJ⟩,?_,?_⟩
     ·rintro j z acc hz ⟨bs,rfl,bl,hb⟩;rw[Ul]at hz;cases hy':xs[j]? with
      |none=>rw[hy']at hz;cases hz
      |some y=>
       rw[hy']at hz;cases hz;walk_at "d";refine⟨x,y,rfl,gx,hg y (UJ hy'),λb hb2=>⟨bs++[b],by rw[UA];rfl,by rw[Ux,bl];rfl,λn hn y' hy2=>?_⟩⟩;rcases WA n bs.length with h|h
       ·rw[Vm h]at hn;exact hb n hn y' hy2
       ·rw[VT h]at hn;have n0:n - bs.length=0:=by
         rcases Z3 (n - bs.length) with h0|h0
         ·exact h0
         ·rw[V6 (by rw[WI];omega)]at hn;cases hn
        rw[n0]at hn;have ek:n=j:=J1
        rw[ek,hy']at hy2;cases hy2;exact hb2 (by simpa using hn)
     ·rintro acc ⟨bs,rfl,bl,hb⟩;rw[T6]at bl;refine⟨bs,rfl,?_⟩;split
      ·rename_i hany;have hno:∀y∈xs,j2 x y:=λy hy=>by
        obtain⟨j,hj⟩:=ZL hy;have jl:j < bs.length:=by rw[bl];exact(Uj.mp hj).1
        refine hb j ?_ y hj;have:bs[j]=false:=by simpa using Z6.mp hany bs[j] (Wa jl)
        rw[UM jl,this]
       refine⟨by rw[T6];omega,xs++[x],_,_,_,_,?_,λy hy=>?_,Wc.mpr ⟨hp,Zl _ _,λu hu v hv=>?_⟩,by rw[UA];rfl⟩
       ·rw[ts,UA,T9,U9,hw];exact sl.append (TY _)
       ·rcases Um.mp hy with h|h
        ·exact hg y h
        ·rw[Ur]at h;rw[h];exact gx
       ·rw[Ur]at hv;rw[hv];exact(hno u hu).symm
      ·exact⟨xs,_,_,_,_,sl1,hg,hp,rfl⟩
    ·exact⟨xs,_,_,_,_,sl1,hg,hp,rfl⟩
  ·rintro Y ⟨xs,o6,o7,o8,o9,sl,hg,hp,rfl⟩;walk_at "d";rw[su,T6,UL (T8 _)]at sl;have lm:(UR De.enc xs).length=xs.length:=T6 _;have xl:xs.length<=19:=by have:=sl.length_le;rwa [T6]at this
   refine⟨J1,?_⟩;generalize htn:c2 % (((UR De.enc xs).length:Int)+1)=tn;have t0:0<=tn:=by rw[<-htn];exact XE _ J1
   have t1:tn < ((UR De.enc xs).length:Int)+1:=by rw[<-htn];exact Xa _ J1
   rw[DU t0 J1,wZ t0 J1];refine⟨by rw[Xq,U6];omega,?_⟩;rw[<-oB,<-Yr,<-UA];have dr:=Dr.of hg hp sl;have pm:(xs.drop tn.toNat++xs.take tn.toNat).Perm xs:=by
    have:=List.perm_append_comm (l₁:=xs.drop tn.toNat) (l₂:=xs.take tn.toNat)
    rwa [XS]at this
   exact q _ (dr.1.perm pm) (by rw[pm.length_eq];exact dr.2)
theorem Jf:bu (ar sI) ["_law_deeds_here"] ["_law_deed_here"] 1 [] ⟨Uh,[(T7 ".0",LG),(T7 "_law_deed_here",LG)],false,false,[]⟩:= .of
theorem BV:bu (ar sI) ["_law_deeds_here"] ["_law_day_here","_law_name"] 2 [] ⟨Uh,[ (T7 ".0",LG),(T7 "_law_day_here",LG),(T7 "_law_name",LG)],false,false,[]⟩:= .of
theorem Jg:bu (ar vo) ["_law_found","_law_due"] ["_law_k","_law_found","_law_due"] 1 [0,1] ⟨Uh,[ (T7 ".0",LG),(T7 "_law_k",LG),(T7 "_law_is",U1),(T7 "_law_due",Uw),(T7 "_law_found",Uw)],false,false,[]⟩:= .of
theorem SX(T:Txt Z mg t):aB P w Z mg base Km 1 t.q1t t.q1u ["_law_deeds_here","_law_name"] (aP Z Gr):=by
 refine T.q1Q.F.okD FQ (λds Q h=>?_) (λ_ _ _ _ H O ds Q E hr h=>?_)
 ·obtain⟨ps,c,rfl,_⟩:=h;rfl
 ·obtain⟨xs,c,rfl,gd,hc,q⟩:=h;refine'⟨_,?A,?B⟩
  case A=>
   refine' ak ?C ?D
   case C=>
    refine' nS U3 rfl (dv 0) ?E aR ?F
    case E=>exact(aQ (i:=2) FQ.nd rfl KU)
    case' F=>refine' aq ?G
    case' G=>refine' bC ?H ?I bB
    case H=>exact(PW.pt (di (aM (cQ hr) cS (av aF aG (dv 2) af) aY (aC _)) (dG (aM (cu hr.units) cv (av aF aG (dv 2) af) (dv 1) (aC _)))))
    case' I=>refine' aq ?J
    case J=>exact(aK (dv 2))
   case D=>refine' aq (aK dF)
  case B=>
  clear hr T;walk_at "d";refine⟨λi Y=>(∀x∈aA (xs.take i),x.nm≠c.nm)/\∃o2,Y=[some (Sl.v (.tuple (xs.map De.enc))),some (Sl.v (.str c.nm)),o2],⟨by simp[aA],_,rfl⟩,?_,?_⟩
  ·rintro i z Y hz ⟨hn,o2,rfl⟩;rw[Ul]at hz;cases hz':xs[i]? with
   |none=>rw[hz']at hz;cases hz
   |some x=>
    rw[hz']at hz;cases hz;have hx:=UJ hz';cases x with
    |pap p=>
     simp only[De.enc,Pp.enc];walk_at "d";refine⟨cU.mpr (gd.nm _ hx),cU.mpr (gd.gp.nm c hc),?_⟩;split
     ·rename_i h;have e:=Bc gd.gp.nd (qJ.mpr hx) hc (eq_of_beq h);subst e;exact q
     ·rename_i h;refine⟨λy hy=>?_,_,rfl⟩;rw[UZ,hz']at hy;unfold aA at hy;rw[XW]at hy;rcases Um.mp hy with z|z
      ·exact hn y z
      ·have:y=p:=by simpa [De.pp]using z
       rw[this];exact λe=>h (by rw[e];exact beq_self_eq_true _)
    |oth w d nm r=>
     simp only[De.enc];walk_at "d";rw[cn (gd.np w d nm r hx),JS Ue];refine⟨λy hy=>?_,_,rfl⟩;rw[UZ,hz']at hy;unfold aA at hy;rw[XW]at hy;rcases Um.mp hy with z|z
     ·exact hn y z
     ·simp[De.pp]at z
  ·rintro Y ⟨hn,o2,rfl⟩;rw[T6,UL (T8 _)]at hn;exact absurd rfl (hn c hc)
def SY:Fa:=λds Q=>∃xs:List De,ds=[.tuple (xs.map De.enc)]/\gZ xs/\Q (.list (((bK (aA xs)).map (·.nm)).map .str))
theorem BW:∀xs:List De,(xs.filter (gF λ_=>true)).map (λx=>cD (x.d,x.nm))=((aA xs).map Pp.key).map cD
 | []=>rfl
 | .pap p::xs=>by
  have ih:=BW xs;rw[UP,KI (show gF (λ_=>true) (.pap p)=true from rfl),T9,ih];rfl
 | .oth w d nm r::xs=>by
  have ih:=BW xs;rw[UP,JS (show ¬gF (λ_=>true) (.oth w d nm r)=true from Ue),ih];rfl
theorem S0(T:Txt Z mg t):aB P w Z mg base Km 1 t.q1v t.q1w ["_law_deeds_here"] (aP Z SY):=by
 refine T.q1R.F.okD acn (λds Q h=>?_) (λ_ _ _ _ H O ds Q E hr h=>?_)
 ·obtain⟨xs,rfl,_⟩:=h;rfl
 ·obtain⟨xs,rfl,gd,q⟩:=h;refine'⟨_,?A,?B⟩
  case A=>
   refine' aq ?C
   case' C=>refine' aK ?D
   case' D=>refine' fe ?E
   case E=>exact(fq rfl BV (df (fe (EO rfl T.q0k V7 (bD (fe (kr rfl Jf (df (dv 0)) aR b7 KL (λ_ _ _ _=>(aQ (i:=0) Jf.nd rfl KU)) (λ_ _ _ _=>(eF (aM (cQ hr) cS (av aF aG (dv 0) af) aY (aC _)))) (λ_ _ _ _=>(bH (aa (av aF aG (dv 0) af) (aa (av aF aG (dv 0) af) ai)))))) bo)))) (iO (cG aR (cG aR iN))) uw KL (λ_ _ _ _=>(iF (n:=2) rfl (cF (aQ (i:=0) BV.nd rfl KU) (cF (aQ (i:=1) BV.nd rfl KU) iE)))) (λ_ _ _ _=>ft) (λ_ _ _ _=>(dv 1)))
  case B=>
  clear hr T;have ln:=gd.ln;have pl:=gd.gp.ln;walk_at "d";refine⟨by rw[T6];omega,jU (gF λ_=>true) (λx:De=>cD (x.d,x.nm)) (λx hx R S h1 h0=>?_) ?_⟩
  ·cases x with
   |pap p=>
    simp only[De.enc,Pp.enc];walk_at "d";exact h1 rfl
   |oth w d nm r=>
    simp only[De.enc];walk_at "d";rw[cn (gd.np w d nm r hx),JS Ue];exact h0 rfl
  ·rw[BW];refine⟨(aA xs).map Pp.key,rfl,by rw[T6];omega,Bg gd.gp.nd,λps' h1 h2=>?_⟩;rw[P7 gd.gp.nd h1 h2];refine⟨by rw[T6,T6,jT];omega,jU (λ_=>true) (λx=>.str x.2) (λx hx R S h _=>?_) ?_⟩
   ·simp only[cD];walk_at "d";exact h rfl
   ·rw[iu,Uo];rw[Uo]at q;exact q
def pU(x:J4):Prop:=(∃s,x= .str s/\Uc s=true)\/(∃i,x= .int i)\/x= .none
def Jh(x:J4):Prop:=pU x\/∃xs,x= .tuple xs/\xs.length<=1000/\∀y∈xs,pU y
def sZ(x:J4):Prop:=pU x\/∃xs,x= .tuple xs/\xs.length<=1000/\∀y∈xs,Jh y
def pV(A:J4->Prop):Fa:=λds Q=>∃x,ds=[x,x]/\A x/\Q (.bool true)
theorem aae:aB P w Z mg base Km k f fd ps (aP Z (pV λ_=>False)):=⟨λvs H Q E uu=>by obtain⟨_,_,_,_,_,⟨_,_,h,_⟩,_⟩:=uu;exact h.elim,λ_ _ _ _ _ _ _ _ _ _ _ _ _ uu=>by obtain⟨_,_,_,_,_,⟨_,_,h,_⟩,_⟩:=uu;exact h.elim⟩
theorem BX(T:Txt Z mg t)(q12:aB P w Z mg base Km d t.q0E t.q0F ["_law_found","_law_due"] (aP Z (pV A))):
 aB P w Z mg base Km (d+1) t.q0E t.q0F ["_law_found","_law_due"] (aP Z (pV λx=>pU x\/∃xs,x= .tuple xs/\xs.length<=1000/\∀y∈xs,A y)):=by
 refine T.q0m.F.okD abY (λds Q h=>?_) (λcdv A' outer s H O ds Q E hr h=>?_)
 ·obtain⟨x,rfl,_⟩:=h;rfl
 ·obtain⟨x,rfl,hx,q⟩:=h;refine'⟨_,?A,?B⟩
  case A=>
   refine' ak ?C ?D
   case C=>
    refine' bC ?E ?F bB
    case E=>exact(fP (mP (Z':=Z) (T:="tuple") rfl rfl T.q0i kW (df (dv 1)) (kR (v:= .ty "tuple") rfl T.q0h fZ rfl)))
    case' F=>refine' ak ?G ?H
    case G=>
     refine' bC ?I ?J bB
     case I=>exact(PW.pt (rM (jG (fP (mP (Z':=Z) (T:="tuple") rfl rfl T.q0i kW (df (dv 0)) (kR (v:= .ty "tuple") rfl T.q0h fZ rfl)))) (rL (aM (rP hr.units) rQ (PE.imp (bY c7 rfl T.q0f U5 (bD (dv 0) bo)) (bI dY)) (PE.imp (bY c7 rfl T.q0f U5 (bD (dv 1) bo)) (bI dY)) (aC _)))))
     case J=>refine' aq (aK qj)
    case' H=>refine' aq ?K
    case' K=>refine' aK ?L
    case L=>exact(PE.imp (bY (LP rfl) rfl T.q01 LQ (bD (fe (DK rfl Jg rfl T.q0l (bD (PE.imp (bY c7 rfl T.q0f U5 (bD (dv 1) bo)) (bI dY)) bo) aR b7 KL (λ_ _ _ _=>(aQ (i:=0) Jg.nd rfl KU)) (λ_ _ _ _=>ft) (λ_ _ _ _=>(PE.imp (dZ q12 (hr.mono (T8 _)) rfl T.q0m (aa (av aF aG (dv 1) (dv 0)) (aa (av aF aG (dv 2) (dv 0)) ai))) nN)))) bo)) (bI wY))
   case' D=>refine' ak ?M ?N
   case M=>
    refine' bC ?O ?P bB
    case O=>exact(aM kT mC (dv 1) dF (aC _))
    case' P=>refine' aq ?Q
    case Q=>exact(aK (cX kT mC (df (dv 0)) (df dF) (aC _)))
   case' N=>refine' ak ?R ?S
   case R=>
    refine' bC ?T ?U bB
    case T=>exact(fP (mP (Z':=Z) (T:="bool") rfl rfl T.q0i kW (df (dv 1)) (kR (v:= .ty "bool") rfl T.q0D wU rfl)))
    case' U=>refine' aq ?V
    case' V=>refine' aK ?W
    case W=>exact(jg (mP (Z':=Z) (T:="bool") rfl rfl T.q0i kW (df (dv 0)) (kR (v:= .ty "bool") rfl T.q0D wU rfl)) (jH (cX (cu hr.units) cv (df (dv 0)) (df (dv 1)) (aC _))))
   case' S=>refine' ak ?X ?Y
   case X=>
    refine' bC ?Z ?a bB
    case Z=>exact(fP (mP (Z':=Z) (T:="int") rfl rfl T.q0i kW (df (dv 1)) (kR (v:= .ty "int") rfl T.q0j nM rfl)))
    case' a=>refine' aq ?b
    case' b=>refine' aK ?c
    case c=>exact(jg (mP (Z':=Z) (T:="int") rfl rfl T.q0i kW (df (dv 0)) (kR (v:= .ty "int") rfl T.q0j nM rfl)) (jg (L3 (mP (Z':=Z) (T:="bool") rfl rfl T.q0i kW (df (dv 0)) (kR (v:= .ty "bool") rfl T.q0D wU rfl))) (jH (cX (cu hr.units) cv (df (dv 0)) (df (dv 1)) (aC _)))))
   case' Y=>refine' aq ?d
   case' d=>refine' aK ?e
   case e=>exact(jg (mP (Z':=Z) (T:="str") rfl rfl T.q0i kW (df (dv 0)) (kR (v:= .ty "str") rfl T.q05 DfT rfl)) (jH (cX (cu hr.units) cv (df (dv 0)) (df (dv 1)) (aC _))))
  case B=>
  clear hr T q12;walk_at "d";simp only[MW,MV,MU,abD];rcases hx with(⟨z,rfl,hz⟩|⟨z,rfl⟩|rfl)|⟨xs,rfl,hl,hF⟩
  ·simpa [rX,cY,uf,ue,uc,fu,cU.mpr hz]using q
  ·simpa [rX,cY,uf,ue,uc,lY,jN]using q
  ·simpa [rX,cY,uf,ue,uc]using q
  ·simp only[rX];walk_at "d";refine⟨KJ,KJ,J1,J1,DmT (p:=λb=>Q (.bool b)) (λ_=>true) (λx hx R hR=>?_) ?_⟩
   ·obtain⟨i,hi⟩:=ZL hx;obtain⟨hlt,rfl⟩:=rT hi;have hj:i < xs.length:=J1
    have ha:atI xs (0+(i:Int))=some xs[i]:=by rw[Int.zero_add];exact gN (by simp[hj])
    walk_at "d";exact⟨xs[i],ha,xs[i],ha,xs[i],rfl,hF _ (Wa hj),hR⟩
   ·have e:∀l:List J4,((l.map λ_=>true).all id)=true:=λl=>by rw[List.all_map];exact Xr.mpr λ_ _=>rfl
    rw[e];exact q
theorem S5{A B:J4->Prop}(h:aB P w Z mg base Km k f fd ps (aP Z (pV A)))(i:∀x,B x->A x):aB P w Z mg base Km k f fd ps (aP Z (pV B)):=
 h.imp λvs H Q E uu=>by obtain⟨O,ds,Qd,a,b,⟨x,e,hx,q⟩,k⟩:=uu;exact⟨O,ds,Qd,a,b,⟨x,e,i x hx,q⟩,k⟩
theorem Ji(T:Txt Z mg t):aB P w Z mg base Km 18 t.q0E t.q0F ["_law_found","_law_due"] (aP Z (pV sZ)):=
 BX T (BX T (S5 (BX T (aae (k:=15))) λx h=>.inl h))
def S6:Fa:=λds Q=>∃(ns:List Int)(k:Int),ds=[gP (ns.map .int),.int k]/\0<=k/\k<=100/\∀b:Bool,Q (.bool b)
theorem S7(T:Txt Z mg t):aB P w Z mg base Km 2 t.q1x t.q1y ["_law_script","_law_at"] (aP Z S6):=by
 refine T.q1S.F.okD PL (λds Q h=>?_) (λ_ _ _ _ H O ds Q E hr h=>?_)
 ·obtain⟨ns,k,rfl,_⟩:=h;rfl
 ·obtain⟨ns,k,rfl,k0,k1,q⟩:=h;refine'⟨_,?A,?B⟩
  case A=>
   refine' aq ?C
   case' C=>refine' aK ?D
   case D=>exact(cX (cu hr.units) cv (df (az bj aI (av aX bf (aH (IK T) hr T.F_z (aa (aH (II T) hr T.F_y (aa (dv 0) (aa (dv 1) ai))) (aa af ai))) af) af)) (df af) (aC _))
  case B=>
  clear hr T;walk_at "h";refine⟨J1,J1,λc ms ml mn=>?_⟩;obtain⟨a0,a1,a2,a3,rfl⟩:=I0 ml;walk_at "d";exact q _
theorem aaq(g:aW xs):(dQ xs).length<=41:=by
 unfold dQ;rw[T6,jT];exact g.gd.gx.gp.ln
def fV(m:List (Str×Int))(p:Pl):List (Str×Int):=match p.d with
 |some d=>iA m p.nm d
 |none=>m
def pW(ps:List Pl):List (Str×Int):=ps.foldl fV []
def cy(xs:List De):Gn:=⟨(pW (dQ xs)).map (·.1),(pW (dQ xs)).map (·.2)⟩
theorem Jj:∀(ps:List Pl)(m:List (Str×Int)),(ps.foldl fV m).length<=m.length+ps.length
 | [],m=>T8 _
 |p::ps,m=>by
  rw[UO,Uk];have h:=Jj ps (fV m p);have h2:(fV m p).length<=m.length+1:=by
   unfold fV;split
   ·exact HW _ _ _
   ·omega
  omega
def S9:Fa:=λds Q=>∃xs:List De,ds=[.tuple ((dQ xs).map Pl.enc)]/\aW xs/\Q (cy xs).enc
theorem Ta(T:Txt Z mg t):aB P w Z mg base Km 1 t.q1z t.q1A ["_law_rows"] (aP Z S9):=by
 refine T.q1T.F.okD sJ (λds Q h=>?_) (λ_ _ _ _ H O ds Q E hr h=>?_)
 ·obtain⟨xs,rfl,_⟩:=h;rfl
 ·obtain⟨xs,rfl,g,q⟩:=h;refine'⟨_,?A,?B⟩
  case A=>
   refine' ak ?C ?D
   case C=>exact(xJ (i:=1) sJ.nd rfl KU xI)
   case' D=>refine' ak ?E ?F
   case E=>
    refine' nS U3 rfl (dv 0) ?G (iO (cG aR (cG aR (cG aR iN)))) ?H
    case G=>exact(iF (n:=3) rfl (cF (aQ (i:=2) sJ.nd rfl KU) (cF (aQ (i:=3) sJ.nd rfl KU) (cF (aQ (i:=4) sJ.nd rfl KU) iE))))
    case' H=>refine' aq ?I
    case' I=>refine' bC ?J ?K bB
    case J=>exact(aM rD se (dv 3) dF (aC _))
    case' K=>refine' aq ?L
    case L=>exact(xK (i:=1) hr.units (pv 1) (dv 2) (dv 3))
   case' F=>refine' aq ?M
   case' M=>refine' ET 1 ?N
   case N=>exact(aK (dv 1))
  case B=>
  clear hr T;have pl:=aaq g;walk_at "d";refine⟨λi Y=>∃(o2 o3 o4:Option Sl),Y=[some (Sl.v (UC (UR Pl.enc (dQ xs)))),some (Sl.k (g9 Uy (((dQ xs).take i).foldl fV []))),o2,o3,o4],⟨none,none,none,rfl⟩,?_,?_⟩
  ·rintro i z Y hz ⟨o2,o3,o4,rfl⟩;rw[Ul]at hz;cases hz':(dQ xs)[i]? with
   |none=>rw[hz']at hz;cases hz
   |some r=>
    rw[hz']at hz;cases hz;have ts:((dQ xs).take (i+1)).foldl fV []=fV (((dQ xs).take i).foldl fV []) r:=by
     rw[UZ,hz',Vt];rfl
    have ml:=Jj ((dQ xs).take i) [];rw[U6,U8]at ml;simp only[ts];generalize ((dQ xs).take i).foldl fV []=M at*;simp only[Pl.enc];walk_at "d";unfold fV;cases hd:r.d with
    |none=>
     rw[JS (by simp[cY,cI])];exact⟨rfl,_,rfl⟩
    |some d=>
     rw[KI (by simp[cY,cI])];exact⟨by unfold g9;rw[T6];omega,HV Uy M r.nm d,_,rfl⟩
  ·rintro Y ⟨o2,o3,o4,rfl⟩;rw[T6,UL (T8 _),show(dQ xs).foldl fV []=pW (dQ xs) from rfl];walk_at "d";refine⟨(pW (dQ xs)).map (·.1),HY _ _,?_⟩;rw[HZ];have e:(cy xs).enc=ig ((pW (dQ xs)).map (·.1)) ((pW (dQ xs)).map λp=>.int p.2):=by
    unfold cy Gn.enc;rw[Uo];rfl
   rw[e]at q;exact q
def qX(z:Str×J4):Prop:=Uc z.1=true/\pU z.2
theorem Tb(h:pU x):cm 1 x:=by
 rcases h with⟨s,rfl,h⟩|⟨i,rfl⟩|rfl
 ·exact iS h
 ·exact t6
 ·exact⟨by simp[Va],by simp[Yb]⟩
theorem Jk{L:List (Str×J4)}(h:∀z∈L,qX z):Wl (.tuple (L.map bQ))=true:=by
 refine cm.shp (n:=3) (gj λd hd=>?_) KL;obtain⟨z,hz,rfl⟩:=Ug.mp hd;obtain⟨h1,h2⟩:=h z hz;exact gj (cf (iS h1) (cf (Tb h2) gm))
theorem Jl(L:List (Str×J4)):UB (.tuple (L.map bQ)) (.tuple [])=L.isEmpty:=by
 cases L<;>simp[UB,VX]
theorem Jm(o:Option Int):pU (cI o):=by
 cases o with
 |none=>exact .inr (.inr rfl)
 |some d=>exact .inr (.inl ⟨d,rfl⟩)
theorem Tc{r:Rp}(hr:∀m∈r.ts,Uc m=true)(hL:∀y∈L,Uc y.1=true):∀z∈cj r n G L,qX z:=λz hz=>by
 obtain⟨y,hy,hz⟩:=VC.mp hz;have hy:y∈L:=by
  unfold fA at hy;split at hy
  ·cases hy
  ·exact(Uv.mp hy).1
 unfold nB at hz;rw[Ym,Vn]at hz;obtain⟨b,hb,rfl⟩:=hz;refine⟨hL y hy,?_⟩;cases e:y.2 with
 |five w kd s k u=>
  rw[e]at hb;simp only[js]at hb;split at hb
  ·cases hb;exact Jm _
  ·cases hb
 |two w kd=>
  rw[e]at hb;simp only[js]at hb;split at hb
  ·rw[Vn]at hb;obtain⟨m,hm,rfl⟩:=hb;exact .inl ⟨m,rfl,hr m (Uv.mp (XO hm)).1⟩
  ·cases hb
theorem Td{r:Rp}(hr:∀m∈r.ts,Uc m=true)(hL:∀y∈L,Uc y.1=true):∀z∈cV r n G L,qX z:=λz hz=>by
 obtain⟨y,hy,hz⟩:=VC.mp hz;have hy:y∈L:=by
  unfold fA at hy;split at hy
  ·cases hy
  ·exact(Uv.mp hy).1
 unfold nE at hz;rw[Ym,Vn]at hz;obtain⟨b,hb,rfl⟩:=hz;refine⟨hL y hy,?_⟩;cases e:y.2 with
 |five w kd s k u=>
  rw[e]at hb;simp only[jt]at hb;split at hb
  ·cases hb;exact Jm _
  ·cases hb
 |two w kd=>
  rw[e]at hb;simp only[jt]at hb;split at hb
  ·rw[Vn]at hb;obtain⟨m,hm,rfl⟩:=hb;exact .inl ⟨m,rfl,hr m (Uv.mp (XO hm)).1⟩
  ·cases hb
theorem Jn(g:aW xs)(n:Int):∀y∈bG xs n,Uc y.1=true:=λy hy=>by
 obtain⟨d,_,hd,_⟩:=((vR g.gd n).2 y).mp hy;exact g.gd.gx.nm _ hd
theorem Jo(g:aW xs):∀m∈(aU xs c).ts,Uc m=true:=λm hm=>by
 obtain⟨p,hp,rfl⟩:=Ug.mp hm;exact g.gd.gx.gp.nm p (gE.mp (Uv.mp hp).1)
theorem Jp(g:aW xs)(G:Gn)(n:Int)(c:Pp):∀z∈cj (aU xs c) n G (bG xs n),qX z:=Tc (Jo g) (Jn g n)
theorem Jq(g:aW xs)(G:Gn)(n:Int)(c:Pp):∀z∈cV (aU xs c) n G (bG xs n),qX z:=Td (Jo g) (Jn g n)
def bN.cl(k:bN):Bool:=!k.st.isEmpty && !k.go.isEmpty
def cE(xs:List De)(G:Gn)(n:Int):List bN:=(fj xs G n (bg xs)).filter bN.cl
def aaQ:Fa:=λds Q=>∃(xs:List De)(G:Gn)(n:Int),ds=[.tuple (xs.map De.enc),G.enc,.int n]/\aW xs/\fU xs G/\Q (.tuple ((cE xs G n).map λk=>.str k.nm))
theorem Tf(T:Txt Z mg t):aB P w Z mg base Km 10 t.q1B t.q1C ["_law_deeds_here","_law_gone_here","_law_day_here"] (aP Z aaQ):=by
 refine T.q0V.F.okD A7 (λds Q h=>?_) (λ_ _ _ _ H O ds Q E hr h=>?_)
 ·obtain⟨xs,G,n,rfl,_⟩:=h;rfl
 ·obtain⟨xs,G,n,rfl,g,hG,q⟩:=h;refine'⟨_,?A,?B⟩
  case A=>
   refine' ak ?C ?D
   case C=>exact(jh (i:=3) A7.nd rfl KU (cC ai))
   case' D=>refine' ak ?E ?F
   case E=>
    refine' km U3 rfl (aH (S0 T) hr T.q1R (aa (dv 0) ai)) ?G aR ?H
    case G=>exact(aQ (i:=4) A7.nd rfl KU)
    case' H=>refine' aq ?I
    case' I=>refine' bC ?J ?K bB
    case J=>exact(PW.pt (di (aM j7 dH (av aF aG (aH (SX T) hr T.q1Q (aa (dv 0) (aa (dv 4) ai))) af) (dv 2) (aC _)) (dG (aM wu dH (Ff hr.units (dv 1) (dv 4) (dv 2) ⟨rfl,rfl,rfl,rfl⟩) (dv 2) (aC _)))))
    case' K=>refine' aq ?L
    case' L=>refine' bC ?M ?N bB
    case M=>exact(PW.pt (di (aM (rP hr.units) rQ (aH (GZ T) hr T.F_d (aa (dv 0) (aa (dv 2) (aa (dv 4) (aa (dv 1) ai))))) (bH ai) (aC _)) (dG (aM (rP hr.units) rQ (aH (G0 T) hr T.F_e (aa (dv 0) (aa (dv 2) (aa (dv 4) (aa (dv 1) ai))))) (bH ai) (aC _)))))
    case' N=>refine' aq ?O
    case O=>exact(kj (i:=3) (pv 3) (dv 4))
   case' F=>refine' aq ?P
   case P=>exact(aK (PE.imp (eD ia rfl T.q0h fZ (lh (dw 3) bo)) (bI ie)))
  case B=>
  clear hr T;walk_at "d";refine⟨xs,rfl,g.gd.gx,_,rfl,?_⟩;have pl:=g.gd.gx.gp.ln;rw[Uo];have cc:∀c∈bK (aA xs),c∈aA xs:=λc hc=>gE.mp hc;refine⟨λi Y=>∃o4:Option Sl,Y=[some (Sl.v (UC (UR De.enc xs))),some (Sl.v G.enc),some (Sl.v (Uy n)),some (Sl.o (((fj xs G n ((bg xs).take i)).filter bN.cl).map λk=>Ub k.nm)),o4],⟨none,rfl⟩,?_,?_⟩
  ·rintro i z Y hz ⟨o4,rfl⟩;rw[Ul]at hz;cases hz':(bK (aA xs))[i]? with
   |none=>rw[hz']at hz;cases hz
   |some c=>
    rw[hz']at hz;cases hz;have hc:=cc c (UJ hz');have hs:(bg xs)[i]?=some (aU xs c,cM (aA xs) c):=by
     unfold bg;rw[Ul,hz'];rfl
    have ts:fj xs G n ((bg xs).take (i+1))=fj xs G n ((bg xs).take i)++fj xs G n [(aU xs c,cM (aA xs) c)]:=by
     unfold fj;rw[UZ,hs,W9,UA];rfl
    have al:(fj xs G n ((bg xs).take i)).length<=41:=by
     unfold fj;rw[T6];refine UN (UU _ _) ?_;rw[U6];have:=BG g.gd;omega
    simp only[ts,W9,UA];generalize fj xs G n ((bg xs).take i)=B at*;simp only[Wr];walk_at "d";have b1:fj xs G n [(aU xs c,cM (aA xs) c)]=if j0 xs n (aU xs c,cM (aA xs) c)=true then [j1 xs G n (aU xs c,cM (aA xs) c)] else []:=by
     unfold fj;rw[UP];split<;>rfl
    have eon:j0 xs n (aU xs c,cM (aA xs) c)=(decide (c.d<=n) && decide (n<=((G.at c.nm).getD n))):=by
     unfold j0;congr 1;rw[hG c.nm];show(match fB xs c.nm with|some d=>decide (n<=d)|none=>true)=_;cases fB xs c.nm with
     |none=>exact(decide_eq_true (Zs n)).symm
     |some d=>rfl
    have off:j0 xs n (aU xs c,cM (aA xs) c)=false->(UR (λk=>Ub k.nm) (W5 bN.cl B)=UR (λk=>Ub k.nm) (W5 bN.cl B)++UR (λk=>Ub k.nm) (W5 bN.cl (fj xs G n [(aU xs c,cM (aA xs) c)])))/\∃x,some (Sl.v (Ub c.nm))=x:=λe=>by
     rw[b1,e,JS Ue];exact⟨KJ,_,rfl⟩
    have nocl:bN.cl (j1 xs G n (aU xs c,cM (aA xs) c))=false->(UR (λk=>Ub k.nm) (W5 bN.cl B)=UR (λk=>Ub k.nm) (W5 bN.cl B)++UR (λk=>Ub k.nm) (W5 bN.cl (fj xs G n [(aU xs c,cM (aA xs) c)])))/\∃x,some (Sl.v (Ub c.nm))=x:=λe=>by
     rw[b1];refine⟨?_,_,rfl⟩;split
     ·rw[UP,e];simp
     ·simp
    have ecl:bN.cl (j1 xs G n (aU xs c,cM (aA xs) c))=(!(vF xs n c G).isEmpty && !(vG xs n c G).isEmpty):=rfl;refine⟨xs,c,rfl,g.gd.gx,hc,_,rfl,_,fJ,_,rfl,?_⟩;by_cases hd:c.d<=n
    ·rw[KI hd];refine⟨G.ks,G.gs.map .int,rfl,(G.at c.nm).getD n,?_,?_⟩
     ·rw[Bo];show((G.at c.nm).map Uy).getD _=_;cases G.at c.nm<;>rfl
     ·by_cases hn:n<=(G.at c.nm).getD n
      ·rw[KI hn];rw[decide_eq_true hd,decide_eq_true hn]at eon;refine⟨xs,n,c,G,rfl,g.gd,hc,λ_ _ _=>⟨Jk (Jp g G n c),Kg,?_⟩⟩;rw[Jl];by_cases h1:(vF xs n c G).isEmpty=false
       ·rw[KI h1];refine⟨xs,n,c,G,rfl,g.gd,hc,λ_ _ _=>⟨Jk (Jq g G n c),Kg,?_⟩⟩;rw[Jl];by_cases h2:(vG xs n c G).isEmpty=false
        ·rw[KI h2];rw[h1,h2]at ecl;have fl:=UU bN.cl B;refine⟨by rw[T6];omega,?_,_,rfl⟩;rw[b1,eon,KI (by rfl),UP,KI (show bN.cl _=true from ecl)];rfl
        ·rw[JS h2];rw[Xj]at h2;exact nocl (by rw[ecl,h2,WX,YK])
       ·rw[JS h1];rw[Xj]at h1;exact nocl (by rw[ecl,h1,WX,WZ])
      ·rw[JS hn];exact off (by rw[eon,decide_eq_false hn,YK])
    ·rw[JS hd];exact off (by rw[eon,decide_eq_false hd,WZ])
  ·rintro Y ⟨o4,rfl⟩;rw[T6,show(bK (aA xs)).length=(bg xs).length by unfold bg;rw[T6],UL (T8 _)];walk_at "d";exact q
section
theorem qY(h:x∈xs):x.d∈bh xs:=by
 rw[(qU xs).1];exact WN _ (V2 h)
theorem Tg(l:List (Int×Str)):(fL l).Pairwise λa b=>aZ a b=true:=by
 unfold fL;split
 ·rename_i h;exact h.choose_spec.2
 ·exact .nil
theorem Jr(hz:z∈fL l):z∈l:=by
 unfold fL at hz;split at hz
 ·rename_i h;exact h.choose_spec.1.mem_iff.mp hz
 ·cases hz
theorem Th(h:z∈dN (aU xs c).hs wd):z∈bh xs:=by
 obtain⟨p,hp,rfl⟩:=Ug.mp h;obtain⟨x,hx,e⟩:=Ug.mp (Jr (Uv.mp hp).1);have hx:=(Uv.mp hx).1;have ed:p.1=x.d:=by
  rw[<-e];unfold sM;split<;>rfl
 rw[ed];exact qY hx
theorem Ti(xs:List De)(c:Pp)(wd:Str):(dN (aU xs c).hs wd).Pairwise (·<=·):=by
 unfold dN;rw[Vk];refine((Tg (fh xs c.nm)).filter _).imp λ{a b} h=>?_;unfold aZ at h;simp only[XC,U0,decide_eq_true_eq]at h;rcases h with h|h
 ·omega
 ·omega
theorem Tj{l:List Int}(up:l.Pairwise (·<=·))(h:(l.filter λz=>decide (z<=n)).head?=some b):b∈l.take 1:=by
 cases l with
 |nil=>cases h
 |cons x l=>
  have hb:=Uv.mp (XO h);have hn:b<=n:=of_decide_eq_true hb.2;have hx:x<=b:=by
   rcases Ud.mp hb.1 with e|e
   ·omega
   ·exact(Vd.mp up).1 b e
  rw[UP,KI (decide_eq_true (Int.le_trans hx hn))]at h;cases h;exact Ur.mpr rfl
theorem Tn(g:aW xs)(hc:c∈aA xs)(hz:z∈bG xs n)(hk:z.2.kd=c.kd)(hd:dB (aU xs c) n z.2=some d):d∈bh xs:=by
 obtain⟨dd,_,hm,_⟩:=((vR g.gd n).2 z).mp hz;obtain⟨nm,pt⟩:=z;cases pt with
 |two w kd=>cases hd
 |five w kd s k u=>
  have hd:(pL (aU xs c) n s).map (λb=>iw b k u)=some d:=hd;rw[Vn]at hd;obtain⟨b,hb,rfl⟩:=hd;rw[(qU xs).1];unfold gI;refine U7 _ (VC.mpr ⟨_,hm,?_⟩);have hk:kd=c.kd:=hk;rw[vH];unfold ix;refine VC.mpr ⟨aU xs c,V2 (gE.mpr hc),?_⟩;rw[KI (by show(c.kd==kd)=true;rw[hk];exact beq_self_eq_true _)];refine Ug.mpr ⟨b,?_,rfl⟩;cases s with
  |com=>cases hb;exact Ur.mpr rfl
  |lst wd=>exact(Uv.mp (YF hb)).1
  |fst wd=>exact Tj (Ti xs c wd) hb
def i8(xs:List De)(n m:Int):Prop:=∀z∈bh xs,z<=n↔z<=m
theorem i8.symm(h:i8 xs n m):i8 xs m n:=λz hz=>(h z hz).symm
theorem Js(h:i8 xs n m)(hz:sO xs n z):sO xs m z:=by
 obtain⟨d,h1,h2,h3⟩:=hz;exact⟨d,(h d (qY h2)).mp h1,h2,λx hx e1 e2 e3=>h3 x hx e1 e2 ((h _ (qY hx)).mpr e3)⟩
theorem Jt(g:aW xs)(h:i8 xs n m):bG xs n=bG xs m:=by
 refine sP (xs:=xs) (n:=m) ⟨(vR g.gd n).1,λz=>?_⟩;rw[(vR g.gd n).2 z];exact⟨Js h,Js h.symm⟩
theorem Ju(h:i8 xs n m)(c:Pp)(pt:Pt):dB (aU xs c) n pt=dB (aU xs c) m pt:=by
 cases pt with
 |two=>rfl
 |five w kd s k u=>
  have e:∀wd,nz (aU xs c) wd n=nz (aU xs c) wd m:=λwd=>WV λz hz=>by
   rw[decide_eq_decide];exact h z (Th hz)
  cases s with
  |com=>rfl
  |fst wd=>simp only[dB,pL,e]
  |lst wd=>simp only[dB,pL,e]
theorem Jv(g:aW xs)(hG:fU xs G)(h:i8 xs n m)(z:Str):G.has n z=G.has m z:=by
 unfold Gn.has;rw[hG z];cases e:fB xs z with
 |none=>rfl
 |some d=>
  show decide (d<=n)=decide (d<=m);rw[decide_eq_decide];exact h d (Iy g hG e).1
theorem Jw(h:i8 xs n m)(hc:c∈aA xs)(L:List (Str×Pt)):fA (aU xs c) n L=fA (aU xs c) m L:=by
 have hd:c.d<=n↔c.d<=m:=h _ (qY (x:= .pap c) (qJ.mp hc));unfold fA;show(if c.d > n then _ else _)=if c.d > m then _ else _
 by_cases hn:c.d<=n
 ·rw[JS J1,JS (by have:=hd.mp hn;omega)]
 ·rw[KI J1,KI (by have:=λz=>hn (hd.mpr z);omega)]
theorem aat(h:z∈fA r n L):z∈L/\z.2.kd=r.c.kd:=by
 unfold fA at h;split at h
 ·cases h
 ·obtain⟨a,b⟩:=Uv.mp h;exact⟨a,eq_of_beq b⟩
theorem Jx(g:aW xs)(h:i8 xs n m)(hc:c∈aA xs)(hz:z∈fA (aU xs c) n (bG xs n)):nA n (dB (aU xs c) n z.2)=nA m (dB (aU xs c) n z.2):=by
 obtain⟨h1,h2⟩:=aat hz;cases e:dB (aU xs c) n z.2 with
 |none=>rfl
 |some d=>
  have:=h d (Tn g hc h1 h2 e);show decide (d > n)=decide (d > m);rw[decide_eq_decide];omega
theorem Tp(g:aW xs)(hG:fU xs G)(h:i8 xs n m)(hc:c∈aA xs):cj (aU xs c) n G (bG xs n)=cj (aU xs c) m G (bG xs m):=by
 unfold cj;rw[<-Jt g h,<-Jw h hc];rw[Yw,Yw];congr 1;refine VN λz hz=>?_;have hl:=Jx g h hc hz;unfold nB;congr 2;cases e:z.2 with
 |five w kd s k u=>
  rw[e]at hl;simp only[js];rw[hl,Ju h]
 |two w kd=>
  simp only[js,iX];rw[WV λy _=>by rw[Jv g hG h y]]
theorem Tq(g:aW xs)(hG:fU xs G)(h:i8 xs n m)(hc:c∈aA xs):cV (aU xs c) n G (bG xs n)=cV (aU xs c) m G (bG xs m):=by
 unfold cV;rw[<-Jt g h,<-Jw h hc];rw[Yw,Yw];congr 1;refine VN λz hz=>?_;have hl:=Jx g h hc hz;unfold nE;congr 2;cases e:z.2 with
 |five w kd s k u=>
  rw[e]at hl;simp only[jt];rw[hl,Ju h]
 |two w kd=>
  simp only[jt,iY];rw[WV λy _=>by rw[Jv g hG h y]]
theorem Jy(y:Int):∀j:Nat,Day.ystart (y+j)<=Day.ystart y+366*j
 |0=>by simp
 |j+1=>by
  have h:=Jy y j;have e:=Day.ystart_succ (y+j);have b:=Day.ld01 (y+j);rw[show y+((j+1:Nat):Int)=y+j+1 by omega,e];omega
theorem Jz(h:Day.DateOf d y m n)(h0:0<=k)(h1:k<=11988):Day.mon y m n k<=d+367000:=by
 have i:=h.in;have m1:=h.m1;have m2:=h.m12;unfold Day.mon;generalize hY:(y*12+m - 1+k)/ 12=Y;generalize hM:(y*12+m - 1+k)% 12+1=M;have b1:1<=M:=J1
 have b2:M<=12:=J1
 have bb:=Day.bef_bd (y:=Y) b1 b2;have up:=Jy y (Y+1 - y).toNat;have e:y+((Y+1 - y).toNat:Int)=Y+1:=J1
 rw[e,Day.ystart_succ]at up;unfold Day.num;have mm:=Int.min_le_right n (Day.mlen Y M);have yl:((Y+1 - y).toNat:Int)<=1001:=J1
 clear hY hM h e b1 b2 m1 m2;omega
theorem aag(d0:0<=d)(h0:0<=k)(h1:k < 1000):iw d k u<=d+367000:=by
 unfold iw;split
 ·rename_i h;rcases h.choose_spec with⟨_,e⟩|⟨_,y,m,n,D,e⟩|⟨_,y,m,n,D,e⟩
  ·rw[e];omega
  ·rw[e];exact Jz D h0 J1
  ·rw[e];exact Jz D J1 J1
 ·omega
theorem JA(g:aW xs)(hz:z∈bh xs):z < 467000:=by
 have dd:=g.gd.d0;rw[(qU xs).1]at hz;rcases Um.mp hz with hz|hz
 ·obtain⟨x,hx,rfl⟩:=Ug.mp hz;have:=dd x hx;omega
 ·obtain⟨x,hx,hz⟩:=VC.mp hz;have hr:x.isR=true:=by
   rw[<-Xj];exact λe=>by rw[vI e]at hz;cases hz
  cases x with
  |pap p=>cases hr
  |oth wo d nm r=>
   have hw:wo=T4 "rule":=eq_of_beq hr;subst hw;obtain⟨pt,rfl,ok⟩:=g.gd.ru d nm r hx;cases pt with
   |two w2 kd=>rw[Br]at hz;cases hz
   |five w2 kd s k u=>
    rw[vH]at hz;obtain⟨r,hr,hz⟩:=VC.mp hz;obtain⟨c,hc,rfl⟩:=Ug.mp hr;have hc:=gE.mp hc;split at hz
    ·obtain⟨b,hb,rfl⟩:=Ug.mp hz;obtain⟨_,_,_,k0,k1,_⟩:=ok;have bd:0<=b/\b < 100000:=by
      have dm:∀wd,b∈dN (aU xs c).hs wd->0<=b/\b < 100000:=λwd h=>by
       obtain⟨p,hp,rfl⟩:=Ug.mp h;obtain⟨x,hx,e⟩:=Ug.mp (Jr (Uv.mp hp).1);have ed:p.1=x.d:=by
        rw[<-e];unfold sM;split<;>rfl
       rw[ed];exact dd x (Uv.mp hx).1
      cases s with
      |com=>
       have hb:b=c.d:=Ur.mp hb;rw[hb];exact dd _ (qJ.mp hc)
      |fst wd=>exact dm wd (Ws hb)
      |lst wd=>exact dm wd hb
     have:=aag (u:=u) bd.1 k0 k1;omega
    ·cases hz
end
section
theorem JB:∀(ps:List Pl)(m:List (Str×Int)),(∀p∈ps,p.nm=z->p.d=v)->hJ (ps.foldl fV m) z=if v.isSome=true/\∃p∈ps,p.nm=z then v else hJ m z
 | [],m,_=>by rw[JS (λh=>by obtain⟨_,p,hp,_⟩:=h;cases hp)];rfl
 |p::ps,m,h=>by
  rw[UO,JB ps _ λq hq=>h q (UD _ hq)];by_cases h1:v.isSome=true/\∃p∈ps,p.nm=z
  ·rw[KI h1,KI ⟨h1.1,let ⟨q,hq,e⟩:=h1.2;⟨q,UD _ hq,e⟩⟩]
  ·rw[JS h1];by_cases hz:p.nm=z
   ·have hv:=h p UG hz;unfold fV;cases e:p.d with
    |none=>
     rw[JS];rw[e]at hv;rw[<-hv];exact λh=>absurd h.1 KL
    |some d=>
     rw[e]at hv;rw[KI ⟨by rw[<-hv];rfl,p,UG,hz⟩,BH,KI hz,hv]
   ·have e1:hJ (fV m p) z=hJ m z:=by
     unfold fV;split
     ·rw[BH,JS hz]
     ·rfl
    rw[e1,JS];rintro⟨a,q,hq,e⟩;rcases Ud.mp hq with y|y
    ·exact hz (y▸e)
    ·exact h1 ⟨a,q,y,e⟩
theorem Ts(h:r∈hU xs):∃c∈bK (aA xs),c.nm=r.nm:=by
 rw[vU]at h;obtain⟨k,hk,_,rfl⟩:=vY.mp h;obtain⟨Z',e,h2⟩:=vV xs (dD (bh xs) (bg xs)) [];unfold gK at hk;rw[e,Vf]at hk;obtain⟨z,hz,_,e2⟩:=h2 k hk;obtain⟨n,_,hz⟩:=VC.mp hz;obtain⟨s,hs,rfl⟩:=Ug.mp hz;obtain⟨c,hc,rfl⟩:=Ug.mp hs;exact⟨c,hc,e2.symm⟩
theorem Tt(g:aW xs):fU xs (cy xs):=λz=>by
 show kJ _ _ z=_;unfold cy;rw[BO];have hp:∀p∈dQ xs,p.nm=z->p.d=fB xs z:=λp hp e=>by
  obtain⟨c,hc,rfl⟩:=Ug.mp hp;have key:∀o:Option Ro,iB (hU xs) c.nm=o->((o.map Ro.pl).getD ⟨c.nm,none,none⟩).nm=z->((o.map Ro.pl).getD ⟨c.nm,none,none⟩).d=fB xs z:=λo ho ez=>by
   cases o with
   |none=>
    have ez:c.nm=z:=ez;unfold fB;rw[<-ez,ho];rfl
   |some r=>
    have ez:r.nm=z:=ez;have:=(qV (vX xs)).mp ho;unfold fB;rw[<-ez,this.2,ho];rfl
  exact key _ rfl e
 unfold pW;rw[JB (dQ xs) [] hp];cases e:fB xs z with
 |none=>rw[JS (λh=>absurd h.1 KL)];rfl
 |some d=>
  rw[KI];refine⟨rfl,?_⟩;obtain⟨r,hr,e1,_⟩:=pT.mp e;obtain⟨c,hc,e2⟩:=Ts hr;refine⟨_,V2 hc,?_⟩;rw[(qV (vX xs)).mpr ⟨hr,e2.symm⟩];exact e1
theorem JC(g:aW xs)(hG:fU xs G):(hV xs).map Lk.tri=(bh xs).flatMap λn=>cE xs G n:=by
 have e:(hV xs).map Lk.tri=((gK xs).map Lk.tri).filter bN.cl:=by
  unfold hV;rw[Zq];rfl
 rw[e,Iw g hG,List.filter_flatMap];rfl
theorem BY(h:k∈cE xs G n):k.d=n:=by
 obtain⟨s,_,rfl⟩:=Ug.mp (Uv.mp h).1;rfl
theorem aaK(h:n∈bh xs):hZ xs n=some n:=by
 unfold hZ;refine IF ((qU xs).2.filter _) (Uv.mpr ⟨h,KJ⟩) λa ha=>?_;simpa using(Uv.mp ha).2
theorem JD(h:hZ xs m=some n):n∈bh xs/\n<=m:=by
 have:=YF h;obtain⟨a,b⟩:=Uv.mp this;exact⟨a,by simpa using b⟩
theorem BZ(g:aW xs)(hG:fU xs G)(m:Int):nG xs m=match hZ xs m with
 |none=>[]
 |some n=>(cE xs G n).map (·.nm):=by
 have e:nG xs m=(((hV xs).map Lk.tri).filter λk=>decide (some k.d=hZ xs m)).map (·.nm):=by
  unfold nG;rw[Zq,Uo];rfl
 rw[e,JC g hG];cases hl:hZ xs m with
 |none=>rw[Zw.mpr λk _=>by simp];rfl
 |some n=>
  obtain⟨T1,T2,hT⟩:=XD (JD hl).1;obtain⟨t1,t2⟩:=BN hT;have no:∀T:List Int,(∀m∈T,m≠n)->(T.flatMap λn=>cE xs G n).filter (λk=>decide (some k.d=some n))=[]:=λT h=>by
   refine Zw.mpr λk hk=>?_;obtain⟨m,hm,hk⟩:=VC.mp hk;have:=h m hm;rw[<-BY hk]at this;simpa using this
  rw[hT,Wi,Wv,W9,W9,no T1 λm hm=>oP (t1 m hm),no T2 λm hm=>(oP (t2 m hm)).symm,Vf,UX];rw[YI.mpr λk hk=>by rw[BY hk];simp]
def bN.told(k:bN):J4:= .tuple [.int k.d,.str k.nm,(k.st.head?.map bQ).getD .none,(k.go.head?.map bQ).getD .none]
def jx(o:Option bN):J4:=(o.map bN.told).getD .none
theorem Tv(g:aW xs)(hG:fU xs G):kO xs=jx ((bh xs).findSome? λn=>(cE xs G n).head?):=by
 rw[<-List.head?_flatMap,<-JC g hG];unfold kO jx;rw[List.head?_map];cases (hV xs).head?<;>rfl
def vZ(xs:List De)(G:Gn)(n:Int)(s:Sf):Bool:=j0 xs n s && (j1 xs G n s).cl
theorem JE(xs:List De)(G:Gn)(n:Int):(cE xs G n).map (·.nm)=((bg xs).filter (vZ xs G n)).map d8:=by
 unfold cE fj;rw[Zq,Uo,YS];rw[WV (q:=vZ xs G n) λs _=>by unfold vZ;rw[ZM];rfl];rfl
theorem Tw(g:aW xs)(hG:fU xs G)(hn:n∈bh xs)(hl:∀z∈bh xs,z<=n)(hm:n < m):(cE xs G m).map (·.nm)=(cE xs G n).map (·.nm):=by
 have calm:i8 xs n m:=λz hz=>⟨λh=>by omega,λ_=>hl z hz⟩;rw[JE,JE];congr 1;refine WV λs hs=>?_;obtain⟨c,hc,rfl⟩:=Ug.mp hs;have hc:=gE.mp hc;have cd:=hl _ (qY (x:= .pap c) (qJ.mp hc));have cd:c.d<=n:=cd;have e1:=Tp g hG calm hc;have e2:=Tq g hG calm hc;have ec:(j1 xs G m (aU xs c,cM (aA xs) c)).cl=(j1 xs G n (aU xs c,cM (aA xs) c)).cl:=by
  show(!(cj (aU xs c) m G (bG xs m)).isEmpty && !(cV (aU xs c) m G (bG xs m)).isEmpty)=(!(cj (aU xs c) n G (bG xs n)).isEmpty && !(cV (aU xs c) n G (bG xs n)).isEmpty);rw[e1,e2]
 unfold vZ;rw[ec];unfold j0;show(decide (c.d<=m) && (match fB xs c.nm with|some d=>decide (m<=d)|none=>true) && _)=(decide (c.d<=n) && (match fB xs c.nm with|some d=>decide (n<=d)|none=>true) && _);rw[decide_eq_true cd,decide_eq_true (show c.d<=m by omega)];cases e:fB xs c.nm with
 |none=>rfl
 |some d=>
  obtain⟨hd,s,hs,es,_,st,_⟩:=Iy g hG e;have dl:=hl d hd;show(true && decide (m<=d) && _)=(true && decide (n<=d) && _);rw[decide_eq_false (show ¬m<=d by omega)];by_cases h:n<=d
  ·have ed:d=n:=J1
   subst ed;obtain⟨c',hc',rfl⟩:=Ug.mp hs;have ec:c'=c:=Bc g.gd.gx.gp.nd (gE.mp hc') hc es;subst ec;have:(j1 xs G d (aU xs c',cM (aA xs) c')).cl=false:=by
    show(!(cj (aU xs c') d G (bG xs d)).isEmpty && _)=false;rw[show cj (aU xs c') d G (bG xs d)=[] from st];rfl
   rw[this];simp
  ·rw[decide_eq_false h]
theorem Tx(g:aW xs)(hG:fU xs G)(hm:467000<=m):nG xs m=(cE xs G m).map (·.nm):=by
 rw[BZ g hG];have ef:(bh xs).filter (λz=>decide (z<=m))=bh xs:=YI.mpr λz hz=>by
  have:=JA g hz;simp;omega
 unfold hZ;rw[ef];cases e:(bh xs).getLast? with
 |none=>
  have e:=List.getLast?_eq_none_iff.mp e;have xe:xs=[]:=by
   cases xs with
   |nil=>rfl
   |cons x xs=>have:=qY (x:=x) (xs:=x::xs) UG;rw[e]at this;cases this
  subst xe;rfl
 |some n=>
  have hn:=YF e;obtain⟨l,el⟩:=List.getLast?_eq_some_iff.mp e;have pw:=(qU xs).2;rw[el]at pw;refine(Tw g hG hn (λz hz=>?_) (by have:=JA g hn;omega)).symm;rw[el]at hz;rcases Um.mp hz with h|h
  ·exact Int.le_of_lt ((Wc.mp pw).2.2 z h n (Ur.mpr rfl))
  ·rw[Ur.mp h];exact Zs _
theorem Tz(g:aW xs)(hG:fU xs G)(h:(bh xs).findSome? (λn=>(cE xs G n).head?)=some k):nG xs (k.d - 1)=[]:=by
 rw[BZ g hG];cases e:hZ xs (k.d - 1) with
 |none=>rfl
 |some n=>
  obtain⟨h1,h2⟩:=JD e;obtain⟨T1,m,T2,hT,hk,no⟩:=List.findSome?_eq_some_iff.mp h;have kd:k.d=m:=BY (XO hk);obtain⟨t1,t2⟩:=BN hT;have hn:n∈T1:=by
   rw[hT]at h1;rcases Um.mp h1 with z|z
   ·exact z
   ·exfalso;rcases Ud.mp z with z|z
    ·omega
    ·have:=t2 n z;omega
  have:=no n hn;rw[List.head?_eq_none_iff]at this;show(cE xs G n).map (·.nm)=[];rw[this];rfl
theorem aaO{xs ys:List De}(g:aW xs)(h:ys.Perm xs):kO ys=kO xs:=by
 have e:gK ys=gK xs:=by
  have:=vT ys;rw[acv g h,acE g h,RS g h,vT]at this;exact(congrArg RL this).symm
 unfold kO hV;rw[e]
end
def TH:Fa:=λds Q=>∃xs:List De,ds=[.tuple (xs.map De.enc)]/\aW xs/\ju xs/\xs.length<=41/\Q (.bool true)
def fW(xs:List De)(i:Nat):Option bN:=((bh xs).take i).findSome? λn=>(cE xs (cy xs) n).head?
def iC(xs:List De)(n:Int):J4:= .tuple ((cE xs (cy xs) n).map λk=>.str k.nm)
def qZ(xs:List De)(i:Nat)(Y:Dl):Prop:=∃(o4 o5 o6:Option Sl),Y=[some (Sl.v (UC (UR De.enc xs))),some (Sl.v (cy xs).enc),some (Sl.v (jx (fW xs i))),some (Sl.v (UC (UR Uy (bh xs)))),o4,o5,o6,none]
theorem tf(h:k∈cE xs G n):k.d=n/\∃c∈aA xs,k.nm=c.nm/\k.st=cj (aU xs c) n G (bG xs n)/\k.go=cV (aU xs c) n G (bG xs n)/\∃a l b m,k.st=a::l/\k.go=b::m:=by
 obtain⟨h1,h2⟩:=Uv.mp h;obtain⟨s,hs,rfl⟩:=Ug.mp h1;obtain⟨c,hc,rfl⟩:=Ug.mp (Uv.mp hs).1;refine⟨rfl,c,gE.mp hc,rfl,rfl,rfl,?_⟩;unfold bN.cl at h2;cases e1:(j1 xs G n (aU xs c,cM (aA xs) c)).st with
 |nil=>rw[e1]at h2;cases h2
 |cons a l=>
  cases e2:(j1 xs G n (aU xs c,cM (aA xs) c)).go with
  |nil=>rw[e1,e2]at h2;cases h2
  |cons b m=>exact⟨a,l,b,m,rfl,rfl⟩
theorem aaI(g:aW xs)(G:Gn)(n:Int):(cE xs G n).length<=41:=by
 unfold cE fj;refine UN (UU _ _) ?_;rw[T6];exact UN (UU _ _) (BG g.gd)
theorem JF(g:aW xs)(n:Int):sZ (iC xs n):=by
 refine .inr ⟨_,rfl,by rw[T6];have:=aaI g (cy xs) n;omega,λy hy=>?_⟩;obtain⟨k,hk,rfl⟩:=Ug.mp hy;obtain⟨_,c,hc,e,_⟩:=tf hk;exact .inl (.inl ⟨k.nm,rfl,by rw[e];exact g.gd.gx.gp.nm c hc⟩)
theorem TK(g:aW xs)(n:Int):Wl (iC xs n)=true:=by
 refine cm.shp (n:=2) (gj λd hd=>?_) KL;obtain⟨k,hk,rfl⟩:=Ug.mp hd;obtain⟨_,c,hc,e,_⟩:=tf hk;exact iS (by rw[e];exact g.gd.gx.gp.nm c hc)
theorem aay(xs:List De)(n:Int):UB (iC xs n) (.tuple [])=(cE xs (cy xs) n).isEmpty:=by
 unfold iC;cases cE xs (cy xs) n<;>simp[UB,VX]
theorem TM(g:aW xs)(h:k∈cE xs (cy xs) n):sZ k.told:=by
 obtain⟨_,c,hc,e,e1,e2,a,l,b,m,s1,s2⟩:=tf h;have oa:=Jp g (cy xs) n c a (by rw[<-e1,s1];exact UG);have ob:=Jq g (cy xs) n c b (by rw[<-e2,s2];exact UG);have cl:∀z:Str×J4,qX z->Jh (bQ z):=λz hz=>.inr ⟨_,rfl,by show 2<=1000;decide,λy hy=>by
  rcases Ud.mp hy with r|hy
  ·rw[r];exact .inl ⟨_,rfl,hz.1⟩
  ·rw[Ur.mp hy];exact hz.2⟩
 unfold bN.told;rw[s1,s2];refine .inr ⟨_,rfl,by show 4<=1000;decide,λy hy=>?_⟩;rcases Ud.mp hy with r|hy
 ·rw[r];exact .inl (.inr (.inl ⟨_,rfl⟩))
 rcases Ud.mp hy with r|hy
 ·rw[r];exact .inl (.inl ⟨_,rfl,by rw[e];exact g.gd.gx.gp.nm c hc⟩)
 rcases Ud.mp hy with r|hy
 ·rw[r];exact cl a oa
 ·rw[Ur.mp hy];exact cl b ob
theorem TN(h:fW xs i=some k):k∈cE xs (cy xs) k.d:=by
 obtain⟨n,_,h⟩:=List.exists_of_findSome?_eq_some h;have h:=XO h;rw[(tf h).1];exact h
theorem TQ(g:aW xs)(i:Nat):sZ (jx (fW xs i)):=by
 cases e:fW xs i with
 |none=>exact .inl (.inr (.inr rfl))
 |some k=>exact TM g (TN e)
theorem Fd(h:(bh xs)[i]?=some n):fW xs (i+1)=(fW xs i).or (cE xs (cy xs) n).head?:=by
 unfold fW;rw[UZ,h,List.findSome?_append];congr 1;show List.findSome? _ [n]=_;rw[List.findSome?_cons];cases (cE xs (cy xs) n).head?<;>rfl
theorem aau(T:Txt Z mg t):aB P w Z mg base Km 19 t.q1D t.q1E ["_law_deeds_here"] (aP Z TH):=by
 refine T.q1U.F.okD kG (λds Q h=>?_) (λ_ _ _ _ H O ds Q E hr h=>?_)
 ·obtain⟨xs,rfl,_⟩:=h;rfl
 ·obtain⟨xs,rfl,g,few,xl,q⟩:=h;refine'⟨_,?A,?B⟩
  case A=>
   refine' ak ?C ?D
   case C=>exact(bp (i:=1) kG.nd rfl KU (aH (Ta T) hr T.q1T (aa (aH (aan T) hr T.F_x (aa (dv 0) ai)) ai)))
   case' D=>refine' ak ?E ?F
   case E=>exact(bp (i:=2) kG.nd rfl KU dF)
   case' F=>refine' ak ?G ?H
   case G=>exact(bp (i:=3) kG.nd rfl KU (aH (Bs T) hr T.F_h (aa (dv 0) ai)))
   case' H=>refine' ak ?I ?J
   case I=>
    refine' ack U3 rfl rfl T.q0P (aa (dv 3) ai) ?K (iO (cG aR (cG aR iN))) ?L
    case K=>exact(iF (n:=2) rfl (cF (aQ (i:=4) kG.nd rfl KU) (cF (aQ (i:=5) kG.nd rfl KU) iE)))
    case' L=>refine' ak ?M ?N
    case M=>exact(bp (i:=6) kG.nd rfl KU (aH (Tf T) hr T.q0V (aa (dv 0) (aa (dv 1) (aa (dv 5) ai)))))
    case' N=>refine' ak ?O ?P
    case O=>
     refine' bC ?Q ?R bB
     case Q=>exact(PW.pt (di (aM kT mC (dv 2) dF (aC _)) (dG (aM (rP hr.units) rQ (dv 6) (bH ai) (aC _)))))
     case' R=>refine' aq ?S
     case' S=>generalize hG14:ZK _ _ _=eg14
     refine' bp (i:=2) kG.nd rfl KU ?T (hs:=by subst hG14;exact Na)
     case' T=>subst hG14
     refine' bH ?U
     case' U=>refine' aa (dv 5) ?V
     case' V=>refine' aa ?W ?X
     case W=>exact(av aF aG (dv 6) af)
     case' X=>refine' aa ?Y ?Z
     case Y=>
      refine' cO aF aG (df ?a) (df af)
      case a=>exact(aH (GZ T) hr T.F_d (aa (dv 0) (aa (dv 5) (aa (av aF aG (dv 6) af) (aa (dv 1) ai)))))
     case' Z=>refine' aa ?b ai
     case' b=>refine' cO aF aG (df ?c) (df af)
     case c=>exact(aH (G0 T) hr T.F_e (aa (dv 0) (aa (dv 5) (aa (av aF aG (dv 6) af) (aa (dv 1) ai)))))
    case' P=>refine' aq ?d
    case' d=>refine' bC ?e ?f bB
    case e=>exact(PW.pt (rM (aM (cu hr.units) cv (az bj aI (dv 4) (az bO cb af (az c0 aI (PE.imp (bY c7 rfl T.q0f U5 (bD (dv 3) bo)) (bI dY)) af))) af (aC _)) (rL (PW.pt (di (aM rD se (dv 2) dF (aC _)) (dG (aM (cu hr.units) cv (av aF aG (dv 2) af) (dv 5) (aC _))))))))
    case' f=>refine' aq ?g
    case' g=>refine' bC ?h ?i bB
    case h=>exact(jG (fP (PE.imp (dZ (Ji T) (hr.mono (T8 _)) rfl T.q0m (aa (aH (IG T) hr T.F_w (aa (dv 0) (aa (dv 5) ai))) (aa (dv 6) ai))) nN)))
    case i=>refine' aq (aK qj)
   case' J=>refine' ak ?j ?k
   case j=>
    refine' bC ?l ?m bB
    case l=>exact(PW.pt (di (aM rD se (dv 2) dF (aC _)) (di (aM j8 dH (av aF aG (dv 2) af) af (aC _)) (dG (aM (rP hr.units) rQ (aH (IG T) hr T.F_w (aa (dv 0) (aa (az fE cb (av aF aG (dv 2) af) af) ai))) (bH ai) (aC _))))))
    case m=>refine' aq (aK qj)
   case' k=>refine' ak ?n ?o
   case n=>
    refine' bp (i:=7) kG.nd rfl KU ?p (hs:=mf)
    case p=>exact(az bO cb (az Cy aI af af) (az gM aI af (PE.imp (bY c7 rfl T.q0f U5 (bD (dv 0) bo)) (bI dY))))
   case' o=>refine' ak ?q ?r
   case q=>
    refine' bC ?s ?t bB
    case s=>exact(jG (fP (PE.imp (dZ (Ji T) (hr.mono (T8 _)) rfl T.q0m (aa (aH (IG T) hr T.F_w (aa (dv 0) (aa (dv 7) ai))) (aa (aH (Tf T) hr T.q0V (aa (dv 0) (aa (dv 1) (aa (dv 7) ai)))) ai))) nN)))
    case t=>refine' aq (aK qj)
   case' r=>refine' aq ?u
   case' u=>refine' aK ?v
   case v=>exact(jg (PE.imp (dZ (Ji T) (hr.mono (T8 _)) rfl T.q0m (aa (aH (IE T) hr T.F_v (aa (dv 0) ai)) (aa (dv 2) ai))) nN) (jH (PE.imp (dZ (Ji T) (hr.mono (T8 _)) rfl T.q0m (aa (aH (IE T) hr T.F_v (aa (abo (df (dv 0))) ai)) (aa (dv 2) ai))) nN)))
  case B=>
  clear hr T;walk_at "h";have hG:=Tt g;refine⟨xs,rfl,g,few,xs,rfl,g,xs,rfl,g.gd,λ_=>few,λit tl=>⟨_,rfl,?_⟩⟩;generalize hE:dE.mk _ _ _ _=EE;have eN:=congrArg dE.nx hE;simp only at eN;clear hE;refine⟨qZ xs,⟨none,none,none,rfl⟩,?_,?_⟩
  ·rintro i z Y hz ⟨o4,o5,o6,rfl⟩;rw[sA,Ul]at hz;cases hz':(bh xs)[i]? with
   |none=>rw[hz']at hz;cases hz
   |some n=>
    rw[hz']at hz;cases hz;clear eN;generalize hB:gi (ke _ _) _ _=TB;walk_at "h";refine⟨xs,cy xs,n,rfl,g,hG,?_⟩;rw[show UC ((cE xs (cy xs) n).map λk=>.str k.nm)=iC xs n from rfl];have fin:∀v,v=jx (fW xs (i+1))->TB {nx:=qZ xs (i+1),rt:=EE.rt,bk:=EE.nx,ct:=qZ xs (i+1)} [some (Sl.v (UC (UR De.enc xs))),some (Sl.v (cy xs).enc),some (Sl.v v),some (Sl.v (UC (UR Uy (bh xs)))),some (Sl.v (Uy i)),some (Sl.v (Uy n)),some (Sl.v (iC xs n)),none]:=λv hv=>by
     subst hB hv;have nx:qZ xs (i+1) [some (Sl.v (UC (UR De.enc xs))),some (Sl.v (cy xs).enc),some (Sl.v (jx (fW xs (i+1)))),some (Sl.v (UC (UR Uy (bh xs)))),some (Sl.v (Uy i)),some (Sl.v (Uy n)),some (Sl.v (iC xs n)),none]:=⟨_,_,_,rfl⟩;have ck:F_w [UC (UR De.enc xs),Uy n] λd=>pV sZ [d,iC xs n] λd=>∃b,d=W4 b/\if b=false then EE.rt (W4 false) else qZ xs (i+1) [some (Sl.v (UC (UR De.enc xs))),some (Sl.v (cy xs).enc),some (Sl.v (jx (fW xs (i+1)))),some (Sl.v (UC (UR Uy (bh xs)))),some (Sl.v (Uy i)),some (Sl.v (Uy n)),some (Sl.v (iC xs n)),none]:=by
      refine⟨xs,n,rfl,g,few,iC xs n,?_,JF g n,true,rfl,?_⟩
      ·rw[BZ g hG,aaK (UJ hz')];show [UC (((cE xs (cy xs) n).map (·.nm)).map .str),_]=_;rw[Uo];rfl
      ·rw[JS KL];exact nx
     walk_at "h";generalize qZ xs (i+1) _=NX at*;refine⟨J1,?_⟩;split
     ·exact ck
     ·split
      ·cases e:fW xs (i+1) with
       |none=>rename_i hn;rw[e]at hn;cases hn
       |some k=>
        refine⟨_,rfl,.int k.d,cK,jN,?_⟩;split
        ·exact ck
        ·exact nx
      ·exact nx
    subst hB;have st:=Fd hz';cases e0:fW xs i with
    |some k=>
     rw[e0]at st;dsimp only;rw[JS (by simp[jx,cY,bN.told])];exact fin _ (by rw[st];rfl)
    |none=>
     rw[e0,Option.none_or]at st;dsimp only;rw[KI (by rfl)];refine⟨TK g n,Kg,?_⟩;rw[aay];cases e1:cE xs (cy xs) n with
     |nil=>
      rw[JS KL];exact fin _ (by rw[st,e1];rfl)
     |cons k ks=>
      rw[KI (by rfl)];have hk:k∈cE xs (cy xs) n:=by rw[e1];exact UG
      obtain⟨kd,c,hc,en,es,eg,a,l,b,m,s1,s2⟩:=tf hk;have ed:iC xs n= .tuple (.str c.nm::ks.map λk=>.str k.nm):=by
       unfold iC;rw[e1,T9,en]
      have h0:atI (.str c.nm::ks.map λk:bN=>Ub k.nm) 0=some (.str c.nm):=cK;refine⟨_,ed,_,h0,_,ed,_,h0,xs,n,c,cy xs,rfl,g.gd,hc,λ_ _ _=>⟨_,rfl,bQ a,?_,_,ed,_,h0,xs,n,c,cy xs,rfl,g.gd,hc,λ_ _ _=>⟨_,rfl,bQ b,?_,?_⟩⟩⟩
      ·unfold vF;rw[<-es,s1];exact cK
      ·unfold vG;rw[<-eg,s2];exact cK
      ·refine fin _ ?_;rw[st,e1];show _=k.told;unfold bN.told;rw[s1,s2,kd,en];rfl
  ·rintro Y ⟨o4,o5,o6,rfl⟩;rw[<-eN,su,T6];clear eN;have ef:fW xs (bh xs).length=(bh xs).findSome? λn=>(cE xs (cy xs) n).head?:=by
    unfold fW;rw[UL (T8 _)]
   have ec:=Tv g hG;rw[<-ef]at ec;have isF:=TQ g (bh xs).length;generalize hB:gQ (iM 7 _) _=TB;walk_at "h";have fin:TB {nx:=λx=>Q XH,rt:=Q} [some (Sl.v (UC (UR De.enc xs))),some (Sl.v (cy xs).enc),some (Sl.v (jx (fW xs (bh xs).length))),some (Sl.v (UC (UR Uy (bh xs)))),o4,o5,o6,none]:=by
    subst hB;walk_at "h";have hp:xs.reverse.Perm xs:=List.reverse_perm xs;refine⟨KL,?_⟩;generalize hm:(10 ^ Int.toNat 6+365*((UR De.enc xs).length:Int):Int)=m;have hm:467000<=m:=by
     rw[<-hm,show(10:Int)^ Int.toNat 6=1000000 from rfl];omega
    refine⟨xs,m,rfl,g,few,xs,cy xs,m,rfl,g,hG,iC xs m,?_,JF g m,true,rfl,?_⟩
    ·rw[Tx g hG hm,Uo];rfl
    rw[JS KL];refine⟨xs,rfl,g,few,_,by rw[ec],isF,true,rfl,?_⟩;rw[KI rfl];refine⟨xs.reverse,by rw[List.map_reverse],g.perm hp,few.perm g hp,_,by rw[aaO g hp,ec],isF,q⟩
   subst hB;cases e:fW xs (bh xs).length with
   |none=>
    rw[e]at fin;rw[JS (by simp[jx,cY])];exact fin
   |some k=>
    rw[e]at fin;rw[KI (by simp[jx,cY,bN.told])];refine⟨_,rfl,.int k.d,cK,k.d,rfl,?_⟩;split
    ·refine⟨_,rfl,.int k.d,cK,k.d,rfl,xs,k.d - 1,rfl,g,few,?_⟩;rw[Tz g hG (by rw[<-ef,e])];refine⟨Kg,Kg,?_⟩;rw[JS Kg];exact fin
    ·exact fin
def q0W:Fa:=λds Q=>∃ns:List Int,ds=[gP (ns.map .int)]/\ns.length<=63/\(∀z∈ns,VM z<=1048576)/\Q (.bool true)
def sp_law(Z:T5):Sp:=aP Z q0W
theorem start_law{ns:List Int}(hl:ns.length<=63)(hb:∀z∈ns,VM z<=1048576)(hS:bA Z H a (ns.map V.int)):sp_law Z [.ref a] H (λv _=>v= .bl true) λ_ _ _=>False:=
 ⟨λ_=>False,[gP (ns.map .int)],λd=>d= .bool true,λ_ z=>z.elim,.cons (.scr (by
  rcases hS with h|h
  ·exact .inl ⟨h,λz=>z⟩
  ·exact .inr (.inr h)) (aj.ints ns)) .nil,⟨ns,rfl,hl,hb,rfl⟩,λd v H' e _ r=>by subst e;cases r;rfl⟩
theorem JG:gK []=[]:=by
 unfold gK dD;rw[show bg []=[] from rfl];have:∀ns:List Int,(ns.flatMap λn=>UR (λs:Sf=>(n,s)) [])=[]:=λns=>List.flatMap_eq_nil_iff.mpr λ_ _=>rfl;rw[this];rfl
theorem v5:Dr 5 5 3 []:=⟨(λx h=>nomatch h),.nil,KL,KL,KL,KL⟩
theorem ok_law(T:Txt Z mg t):aB P w Z mg base Km 20 t.q1F t.q0S ["_law_script"] (sp_law Z):=by
 refine T.q0W.F.okD FT (λds Q h=>?_) (λ_ _ _ _ H O ds Q E hr h=>?_)
 ·obtain⟨ns,rfl,_⟩:=h;rfl
 ·obtain⟨ns,rfl,_,_,q⟩:=h;refine'⟨_,?A,?B⟩
  case A=>
   refine' ak ?C ?D
   case C=>
    refine' km U3 rfl (fe (jj (df (fe (cC (aa af (aa af ai))))) kz (dj (az bO cb af (az c0 aI (PE.imp (bY c7 rfl T.q0f U5 (bD (dv 0) bo)) (bI DN)) af))))) ?E aR ?F
    case E=>exact(aQ (i:=1) FT.nd rfl KU)
    case' F=>refine' aq ?G
    case' G=>refine' bC ?H ?I bB
    case H=>exact(jG (fP (aH (aau T) hr T.q1U (aa (aH (SW T) hr T.q1P (aa (dv 0) (aa (dv 1) (aa (aH (S7 T) hr T.q1S (aa (dv 0) (aa (dv 1) ai))) ai)))) ai))))
    case I=>refine' aq (aK qj)
   case' D=>refine' aq ?J
   case' J=>refine' aK ?K
   case K=>exact(jg (cX kT mC (df (aH (IE T) hr T.F_v (aa (bH ai) ai))) (df dF) (aC _)) (jH (PE.imp (dZ ((Ji T).mono (show 18<=19 by decide)) (hr.mono (T8 _)) rfl T.q0m (aa (aH (IG T) hr T.F_w (aa (bH ai) (aa af ai))) (aa (bH ai) ai))) nN)))
  case B=>
  clear hr T;walk_at "h";refine⟨_,rfl,?_⟩;generalize hE:dE.mk _ _ _ _=EE;have eN:=congrArg dE.nx hE;simp only at eN;clear hE;have two:∀z∈eJ [Uy 0,Uy 20] none (some (1+((UR Uy ns).length:Int)/ 21)),∃k:Int,z= .int k/\0<=k/\k<=100:=λz hz=>by
   have hz:=YE (Ws hz);rcases Ud.mp hz with e|hz
   ·exact⟨0,e,KL,KL⟩
   ·exact⟨20,Ur.mp hz,KL,KL⟩
  generalize eJ [Uy 0,Uy 20] none _=L at*;refine⟨λi Y=>∃o1:Option Sl,Y=[some (Sl.v (gP (UR Uy ns))),o1],⟨none,rfl⟩,?_,?_⟩
  ·rintro i z Y hz ⟨o1,rfl⟩;obtain⟨k,rfl,k0,k1⟩:=two z (UJ hz);clear eN;walk_at "h";refine⟨ns,k,rfl,k0,k1,λb=>⟨ns,k,b,rfl,k0,k1,λxs dr xl=>⟨xs,rfl,dr.good,dr.few KL,J1,true,rfl,?_⟩⟩⟩;rw[JS KL];exact⟨_,rfl⟩
  ·rintro Y ⟨o1,rfl⟩;rw[<-eN];clear eN;walk_at "h";refine⟨[],rfl,v5.good,v5.few KL,?_⟩;rw[show kO []= .none by unfold kO hV;rw[JG];rfl];dsimp only;rw[KI (by rfl)];refine⟨[],7,rfl,v5.good,v5.few KL,.tuple [],?_,.inr ⟨[],rfl,KL,λy hy=>nomatch hy⟩,q⟩;unfold nG hV;rw[JG];rfl
end K28
namespace PySem.W.Fast
def tw9478367642675361694:=0
def tw434764479073802960:=0
def tw1580537351749621003:=0
def tw9897317869368245452:=0
def tw12891160755650892469:=0
def tw15048576229900704829:=0
def tw910395671940743161:=0
def tw12635367983895231019:=0
def tw2656383222685650060:=0
def tw6526187121464071978:=0
def tw13739027513283901376:=0
def tw15245702590835030649:=0
def tw2461696178282698100:=0
def tw5840464494445530796:=0
def tw14566336128805250910:=0
def tw14045813291962001243:=0
def tw14760714097072517955:=0
def tw13217958981862494884:=0
def tw3216230476288491726:=0
def tw13846138896362724177:=0
def tw10458455505300620941:=0
def tw5840648995949364969:=0
def tw875274819870714801:=0
def tw3914001024582993088:=0
def tw1818042284195060492:=0
def tw46101873291600138:=0
def tw12706937707899586290:=0
def tw9039531432411178709:=0
def tw9382801915533888898:=0
def tw9947961036954329629:=0
def tw10561006981250700285:=0
def tw9409752349125758108:=0
def tw13364675621009640405:=0
def tw5658082447359466883:=0
def tw11837705727713046627:=0
def tw3885114293759371915:=0
def tw16335394587299369534:=0
def tw8480511920534467173:=0
def tw12459772826219174170:=0
def tw14043946776913747975:=0
def tw17075551692397004805:=0
def tw16168842602708792307:=0
def tw13418980815766774917:=0
def tw8503726667634620473:=0
def tw5431113613991712596:=0
def tw2624118056821734951:=0
def tw16508421005028221933:=0
def tw2330745063314490868:=0
def tw9656728336714576099:=0
def tw10438052719594889861:=0
def tw12532894853366398130:=0
def tw12483404972055921916:=0
def tw18190450200022082249:=0
def tw6606135050758964704:=0
def tw5337845096517742368:=0
def tw13825719253305252936:=0
def tw1638821521250295661:=0
def tw9466012521035757082:=0
def tw18392912020771212704:=0
def tw3854677495257446758:=0
def tw17781921232611611026:=0
def tw3792966703507242486:=0
def tw18266962783196016423:=0
def tw1584322379034837766:=0
def tw2421595074224212761:=0
def tw975611975619894163:=0
def tw7929099382265447936:=0
def tw14681715019894119494:=0
def tw403791504958779743:=0
def tw16253720399077732947:=0
def tw5445532556648029765:=0
def tw15352154675217394133:=0
def tw10636915846268153147:=0
def tw699972502751676025:=0
def tw4635728297885972939:=0
def tw13763768279614442760:=0
def tw786861744020616891:=0
def tw5307175398337101032:=0
def tw17097410154767965492:=0
def tw10466945643912769922:=0
def tw443302945325307476:=0
def tw6684134113114177990:=0
def tw1231731698439386396:=0
def tw1654268681562003319:=0
def tw7418770186537051603:=0
def tw6746992528084963744:=0
def tw8659970010865274016:=0
def tw7774911304721294857:=0
def tw15812810157956379885:=0
def tw12110827980434522850:=0
def tw10982563145061716270:=0
def tw629042320196598371:=0
def tw6129891114953044675:=0
def tw9353092891917134353:=0
def tw913909772443605227:=0
def tw9880646317682472559:=0
def tw11335024012099904044:=0
def tw8420177727480512399:=0
def tw4760294124072038411:=0
def tw151623741501201825:=0
def tw8030269818454740229:=0
def tw14391047836877707237:=0
def tw15221032921269347655:=0
def tw6788858794596644027:=0
def tw6001434640854653008:=0
def tw11881133468525322564:=0
def tw8744782609830273644:=0
def tw13856263606453064940:=0
def tw17422886948197053049:=0
def tw5639500388268730575:=0
def tw6204577357891328529:=0
def tw53840579521421354:=0
def tw17995444796230173744:=0
def tw16466835835968734277:=0
def tw16827101095838728703:=0
def tw594294407260405484:=0
def tw4151343977777536449:=0
def tw18244482400669019749:=0
def tw11863324812884041773:=0
def tw8699633006379947004:=0
def tw6460874140031913076:=0
def tw17806719329958469749:=0
def tw5156287536170851517:=0
def tw11872664074307696600:=0
def tw3415994979708500780:=0
def tw10421075633228761398:=0
def tw13825813226285066995:=0
def tw11767864462129990073:=0
def tw17163741244819891006:=0
def tw5207001864699975756:=0
def tw213326352037834158:=0
def tw5595927813509204841:=0
def tw4660556425993702484:=0
def tw3521819134227038746:=0
def tw13493824073714966706:=0
def tw9909316658159429039:=0
def tw8906446211312149140:=0
def tw4168763530184759820:=0
def tw6149686817363635935:=0
def tw9771233856940633645:=0
def tw7118027975547280578:=0
def tw12106867940069206224:=0
def tw11862461200407079182:=0
def tw2816413798035930747:=0
def tw6127537675140439355:=0
def tw13120275485514443484:=0
def tw4698586358282159876:=0
def tw7444806305132281193:=0
def tw15414353039813773267:=0
def tw9277768495959227227:=0
def tw14452524718403927464:=0
def tw18193486596181012738:=0
def tw6555056824934634745:=0
def tw5926971830963942413:=0
def tw6121985848090379792:=0
def tw5324822974082432028:=0
def tw13936896520795748508:=0
def tw14567879227983978930:=0
def tw6339095248202729611:=0
def tw17113332703140799132:=0
def tw11735101405236780610:=0
def tw16396921062517642892:=0
def tw17129485018375495718:=0
def tw5606926108705625366:=0
def tw601262827329330756:=0
def tw10661577359316021278:=0
def tw15765894611686126159:=0
def tw11820652654163734053:=0
def tw13242288053060142056:=0
def tw6857896414974472146:=0
def tw2713443754019405081:=0
def tw11007764564789212947:=0
def tw15749808027177098482:=0
def tw2137514889346888306:=0
def tw5776895076103020004:=0
def tw4519701584831589113:=0
def tw3923770072922673696:=0
def tw3972717660440798506:=0
def tw4129862241884938760:=0
def tw238958785522381732:=0
def tw2596108555504597197:=0
def tw13981495036371744432:=0
def tw12861434678420274150:=0
def tw475517977296659735:=0
def tw12114618729811257866:=0
def tw14251090623965388684:=0
def tw8065377736014142980:=0
def tw17843449615586652807:=0
def tw11581835743080415359:=0
def tw8368541338312341715:=0
def tw10009400438997998357:=0
def tw6427075558631847971:=0
def tw4189251362780165737:=0
def tw16586176191690109376:=0
def tw9279194697394433371:=0
def tw890896206365915856:=0
def tw17369511029108073194:=0
def tw11839966269944653112:=0
def tw6301265035337744825:=0
def tw16933206189285436028:=0
def tw2958151615373508260:=0
def tw5516960588759221341:=0
def tw5380545506723084676:=0
def tw1351923803631487557:=0
def tw4254438574831166645:=0
def tw16104498510944348820:=0
def tw11721674702824908312:=0
def tw17920679476533826048:=0
def tw8175932150108509666:=0
def tw17345576779358897326:=0
def tw7143098826172717525:=0
def tw3765827033662078662:=0
def tw10988793386188700768:=0
def tw1519727172494158877:=0
def tw10543304350846927534:=0
def tw6042686230359752249:=0
def tw16241343972434746544:=0
def tw11595506151957745821:=0
def tw6902670626477374957:=0
def tw18310833657967615614:=0
def tw17491048802869746429:=0
def tw17088397674229259120:=0
def tw152357259629392414:=0
def tw7450792841937432575:=0
def tw3531979945835900838:=0
def tw9844665413705868602:=0
def tw8894377312055929885:=0
def tw6716612028023026155:=0
def tw5671149035538182092:=0
def tw17906748370920402613:=0
def tw14006683470914361137:=0
def tw10875774903955576320:=0
def tw18242307329248779680:=0
def tw2423809824761716625:=0
def tw15283521796167103973:=0
def tw4859363545703604067:=0
def tw2456720781485218546:=0
def tw11662373504312197275:=0
def tw62386428245934441:=0
def tw1397112771586310855:=0
def tw1094259435480656280:=0
def tw84596342759852730:=0
def tw4491226068045636436:=0
def tw17393118509401420081:=0
def tw14386210676952878135:=0
def tw7827227464186682701:=0
def tw4746414974523791080:=0
def tw3111406836396675945:=0
def tw15442763338102294290:=0
def tw11495961576336040636:=0
def tw6986133926452587264:=0
def tw314538021609350768:=0
def tw17166027689988801828:=0
def tw13118134282726770162:=0
def tw16931384317030354073:=0
def tw13782524168068796874:=0
def tw5050016138725335154:=0
def tw17972739411013235463:=0
def tw3910771112300181294:=0
def tw6197332377896613944:=0
def tw4206702722608130723:=0
def tw12025890832307150073:=0
def tw6243819918258761931:=0
def tw1110484235309933059:=0
def tw8633755679995972738:=0
def tw386497051382702759:=0
def tw14174071046565554120:=0
def tw1265226440213179993:=0
def tw11209514410954769497:=0
def tw4795180858624745869:=0
def tw7183494451997441158:=0
def tw3785752438355458733:=0
def tw10477389924293502616:=0
def tw14717467429184013227:=0
def tw13812694172074529290:=0
def tw15170772913941068528:=0
def tw12670939757473996551:=0
def tw11480646858123197039:=0
def tw12413060933747911575:=0
def tw3366406772636879960:=0
def tw6819994742352473247:=0
def tw11824488050371338576:=0
def tw8521949718024529811:=0
def tw9195414261592720191:=0
def tw16338695943159618204:=0
def tw3679130130246248766:=0
def tw15622059200816928325:=0
def tw12170388443963816348:=0
def tw18313040159078278967:=0
def tw10145616857271301693:=0
def tw15249298152611988083:=0
def tw13433290768022957268:=0
def tw1871735348565106531:=0
def tw338163464835446120:=0
def tw465052381869316810:=0
def tw10662933895917023671:=0
def tw5361071239276150589:=0
def tw3493223506835928484:=0
def tw868101896007041005:=0
def tw2847720481586668420:=0
def tw11824332686959275701:=0
def tw7660301428148743823:=0
def tw3438616534624283820:=0
def tw14337996597305823105:=0
def tw5989696567486034903:=0
def tw6699399939540803091:=0
def tw8498022417591993058:=0
def tw8282024154584915789:=0
def tw6212582209320578764:=0
def tw10341284280950676093:=0
def tw15544815735569737848:=0
def tw7977538347963128484:=0
def tw4804621045245115880:=0
def tw3882213995453883536:=0
def tw10105480686700423246:=0
def tw3824141005809907937:=0
def tw7282790293510200927:=0
def tw12533167837018512971:=0
def tw11300209224230128453:=0
def tw9476711314650070224:=0
def tw16101701013481090692:=0
def tw1032106366110130010:=0
def tw13984611145754572755:=0
def tw850928565490456558:=0
def tw7886043308129400635:=0
def tw15296730084104903043:=0
def tw14160052097686703279:=0
def tw14167077872796420643:=0
def tw8650173384676960865:=0
def tw8626455035446652921:=0
def tw666080201482416149:=0
def tw4654995268259790997:=0
def tw3224062913390785142:=0
def tw15405224707627742606:=0
def tw1809483618933240982:=0
def tw16043067942242332567:=0
def tw14081254595763738192:=0
def tw13035788943134214506:=0
def tw12976209347171026146:=0
def tw12850911995275721305:=0
def tw12498580600030289944:=0
def tw14063189749533886852:=0
def tw5021515626392915550:=0
def tw4037124260086214826:=0
def tw2605264058183438978:=0
def tw13519453284695738573:=0
def tw1227651908727524089:=0
def tw9919423460364410741:=0
def tw9691189969348517004:=0
def tw9583558218359595150:=0
def tw9295532076325290008:=0
def tw9281491563578634153:=0
def tw91382261400652146:=0
def tw8665604018204417350:=0
def tw8569968515149837742:=0
def tw8174661516364860748:=0
def tw8097191906302703282:=0
def tw7799343520238715625:=0
def tw7688427988549093447:=0
def tw7392106391670566315:=0
def tw7329234786188849534:=0
def tw7260597346870640216:=0
def tw7084975444989204756:=0
def tw6922250664258946026:=0
def tw6865585007041656060:=0
def tw6778350079606312618:=0
def tw675067510087572660:=0
def tw6381806200093301883:=0
def tw6368829942109926794:=0
def tw6069007547530031845:=0
def tw5825257257032701179:=0
def tw5823431814741974965:=0
def tw562108187512042849:=0
def tw5436677986057972108:=0
def tw5309828617931258247:=0
def tw5292259658908587393:=0
def tw4937994699541225471:=0
def tw4905704636493879517:=0
def tw4778061069620341254:=0
def tw4715858439497143379:=0
def tw4411057802597517651:=0
def tw4239103501822532133:=0
def tw3951978185421074357:=0
def tw3950493913580569641:=0
def tw3914242658348757334:=0
def tw3670776309268444193:=0
def tw3609570788255897590:=0
def tw3525042197986721575:=0
def tw3458190175052054204:=0
def tw3455136380948455439:=0
def tw328117460412369109:=0
def tw3250535646472138370:=0
def tw3204859300354820736:=0
def tw3142517831599213367:=0
def tw3128009482885891517:=0
def tw3085143496278977147:=0
def tw2983325899978024016:=0
def tw2947442685388138867:=0
def tw2847128869547396150:=0
def tw2679911190127228686:=0
end PySem.W.Fast
open PySem PySem.W PyProof.Rows
local macro_rules | `(tactic| walk_at "f")=>`(tactic| (refine' L2.LL.of ?a ?l ?c ?k;(case a=>k_is);(case l=>k_is);(case c=>k_is);(case k=>k_is)))
local macro_rules | `(tactic| walk_at "m")=>`(tactic| (refine' L2.MY.of ?a ?i ?l ?c ?k;(case a=>k_is);(case i=>k_is);(case l=>k_is);(case c=>k_is);(case k=>k_is)))
local macro_rules | `(tactic| walk_at "c")=>`(tactic| (refine'⟨⟨?a,?i,?l,?c⟩,?m,?k⟩;(case a=>k_is);(case i=>k_is);(case l=>k_is);(case c=>k_is);(case m=>k_is);(case k=>k_is)))
set_option maxRecDepth 100000 in
theorem PySem.Challenge.cw_goneday_k28_whole_the_first_clash_holds : PySem.Challenge.rw_goneday_k28_whole_the_first_clash.Holds := by
 w_on;o_law;k_head;(case hw=>w_witness2)
 k_fill
 refine L2.walk_ofBK (l:=PySem.Challenge.rw_goneday_k28_whole_the_first_clash) (n:=63) (k:=20) (x:="_law_script") (CX:=L2.Km) (sp:=K28.sp_law) rfl KL rfl ⟨rfl,KL,KL⟩ (λw h Y=>PySem.W.kIn_of Y) ?F ?S ?C
 case F=>
  intro w mg fa h KX G hmg;have T:∃t,K28.Txt (L2.TU KX) mg t:=by
   dsimp only[L2.TU];refine' K28.txt_mk KX G ?za ?zb ?zc ?zd ?ze ?zf ?zg ?zh ?zi ?zj ?zk ?zl ?zm ?zn ?zo ?zp ?zq ?zr ?zs ?zt ?zu ?zv ?zw ?zx ?zy ?zz ?zA ?zB ?zC ?zD ?zE ?zF ?zG ?zH ?zI ?zJ ?zK ?zL ?zM ?zN ?zO ?zP ?zQ ?zR ?zS ?zT ?zU ?zV ?zW ?zX ?zY ?zZ ?ya ?yb ?yc ?yd ?ye ?yf ?yg ?yh ?yi ?yj ?yk ?yl ?ym ?yn ?yo ?yp ?yq ?yr ?ys ?yt ?yu ?yv ?yw ?yx ?yy ?yz ?yA ?yB ?yC ?yD ?yE ?yF ?yG ?yH ?yI ?yJ ?yK ?yL ?yM ?yN ?yO ?yP ?yQ ?yR ?yS ?yT ?yU ?yV ?yW ?yX ?yY ?yZ ?xa ?xb ?xc ?xd ?xe ?xf ?xg ?xh ?xi ?xj ?xk ?xl ?xm ?xn ?xo ?xp ?xq ?xr
   (case za|zb|zc|zd|ze|zf|zg|zh|zj|zk|zl|zm|zn|zo|zp|zq|zr|zs|zt|zu|zv|zw|zx|zy|zz|zA|zB|zC|zD|zE|zF|zG|zH|zP|zQ|zR|zS|zT|zU|zV|zW|zX|zY|zZ|ya|yb|yc|yd|ye|yf|yg|yh|yi|yj|yk|yl|ym|yn|yo|yp|yq|yr|ys=>walk_at "f")
   (case yt|yu=>k_is)
   (case yv=>first | (repeat (first|exact .nil|refine .cons ⟨_,rfl⟩ ?_)))
   (case yw=>decide)
   (case yx=>k_is)
   (case yy=>exact⟨_,rfl⟩)
   (case yz=>k_is)
   (case yA=>exact⟨_,rfl⟩)
   (case yB=>k_is)
   (case yC=>exact⟨_,rfl⟩)
   (case yD|yE|yF|yG=>k_is)
   (case yH=>walk_at "c")
   (case yI|yJ|yK|yL|yM=>unfold L2.NoAttr;k_is)
   (case yN=>walk_at "c")
   (case yO|yP|yQ|yR|yS|yT=>unfold L2.NoAttr;k_is)
   (case yU=>walk_at "c")
   (case yV|yW|yX|yY|yZ|xa=>unfold L2.NoAttr;k_is)
   (case xb|xc|xd|xe|xf|xg|xh|xi|xj|xk|xl|xm|xn|xo|xp|xq|xr=>k_is)
   (case zi|zI|zJ|zK|zL|zM|zN|zO=>walk_at "m")
  obtain⟨t,T⟩:=T;have e0:=hmg.symm.trans T.q0W.m;cases e0;exact⟨t.q0S,T.q2l,λbase kb nb=>K28.ok_law T⟩
 case S=>exact λZ H a ns hl hb hO hS=>K28.start_law hl hb hS
 case C=>exact λ_ _ _ _ z=>z
