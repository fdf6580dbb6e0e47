import PyProof.Rows.All
import Wide.All
import OpenK.AllK
import PySem.Challenge.RW_goneday_k59_texts_of_no_deed
open PySem.Str renaming ofString->NF,ofString->NL,join->QL,empty->RH
open PySem.W renaming Frag->NG,nsIn->Og,mg_of->O3,mg_none_of->O9,findIn->Pl,kia_one->PJ,mroIn->P1,fnOf->P7,keepIn->Qk,kitOne->QG,specialIn->QX,InstAt->Q0,kitAny->Q1,callWith_K->Rf,codeIn->Rm,cellsFrom_some->Rx,excIn->RE,methodObj->R3,hasDictIn->R4,instObj->Ss,takesIn->Su,lookIn->SA,isFn->Ti,kitx_list->Tn,kitx_dict->To,plainGet->TB,handedIn->TM,OpenLaw->TU,readsIn->TZ,findCls->T1,isClsIn->T2,WalkO->T9
open PySem.PyData renaming str->NH,eqv->NR,int->NW,tuple->O5,list->O6,strOk->Pb,canLay0->Pc,eqvAll->Pk,canLayAll0->Py,depthAll->QR,none->QW,bool->RB,depth->Si,dict->Ut
open List renaming length_cons->NI,map_cons->NM,mem_cons->NN,replicate->NO,length_map->NQ,getElem?_cons_succ->NS,getElem?_cons_zero->NU,not_mem_nil->NX,append_nil->NZ,cons_append->N4,set_cons_zero->N5,set_cons_succ->N6,length_nil->N7,nil_append->N8,getElem?_nil->Oc,map_nil->Od,size_toArray->Ol,any_cons->OC,all_cons->OG,getElem?_eq_some_iff->OT,all_nil->OU,any_nil->OV,mem_cons_of_mem->OY,getElem?_set_ne->OZ,lookup_cons->O4,getElem?_eq_getElem->O7,mem_map->Pa,getElem?_set_self->Pd,map->Pe,all_eq_true->Pf,length_take->Pm,take_of_length_le->Pn,length_append->Pp,mem_append_right->Pq,map_map->Pt,length_drop->Pu,range->PD,mem_cons_self->PH,mem_of_getElem?->PK,mem_singleton->PL,mem_of_mem_take->PN,getElem?_map->PX,map_append->PZ,mem_of_mem_drop->P0,mem_append->P4,flatten_cons->Qe,foldl_cons->Qf,replicate_succ->Qh,getElem_mem->Qj,getElem?_eq_none->Ql,getElem?_append_left->Qm,sum_cons->Qq,getElem?_append_right->QA,getD_eq_getElem?_getD->QB,mem_range->QF,all_map->QK,getElem?_replicate->QN,range_succ->QQ,pairwise_cons->QS,length->QU,length_range->QY,take_append_drop->Q2,reverse_cons->Rt,drop_of_length_le->RA,map_take->RF,nodup_cons->RK,eq_nil_of_length_eq_zero->RL,filterMap_cons->RM,length_reverse->RN,map_congr_left->RO,mem_filterMap->RQ,contains_cons->RR,length_eraseIdx_of_lt->R1,take_sublist->R5,drop_eq_getElem_cons->R9,length_eq_zero_iff->So,getElem?_set_self'->Sq,of_mem_zip->Sv,forIn_cons->Sw,sum_append->Sx,length_replicate->SD,forIn_nil->SE,drop_zero->SI,mem_append_left->SQ,map_drop->S0,filterMap_map->Tc,sum_nil->Th,append_assoc->Tp,getElem?_inj->Tr,ext_getElem->TJ,zipIdx_cons->TK,map_reverse->TL,mem_filter->TN,foldl->TQ,zipIdx_nil->TY,take_succ->T4,not_lt->Up
open PySem.Heap renaming get?_push_of_some->NJ,lt_size->NV,get?_push_size->N2,get?_update_self->Ph,get?_update_other->PQ,size_push->Qa,SameBut->Qu,FlyingW->QJ,get?_none_of_le->Q6,MadeExcOf->SN,get?_update_ne->S7,get?_push_at->Tw,ExtBut->Tz,IsTuple->Ui
open PySem renaming Spec->NK,boot_len->Of,Scope->Pz,mem_of_lookup->Qg,intText?->Ro,Builtin->SW,frameOf->SY,call->TR,Within->Uc,field->Us
open List.cons renaming injEq->NP
open Nat renaming le_refl->NT,reduceLeDiff->Ov,le_trans->Oz,reduceAdd->OD,reduceSub->OE,ne_of_lt->OF,add_zero->OM,zero_add->ON,sub_self->OO,reduceLT->OP,lt_of_lt_of_le->OW,zero_le->PR,lt_succ_of_lt->PY,lt_irrefl->Qp,lt_succ_self->QI,ne_of_gt->QZ,le_succ->Q7,le_of_lt->Rc,toDigits_of_base_le->Rr,le_of_succ_le->R6,le_of_not_lt->Se,lt_or_ge->Te,lt_trans->Tf,le_succ_of_le->Tx,min_le_right->TC,digitChar->Ub,sub_zero->Uh
open Array renaming length_toList->NY,toList_append->Qs,getElem?_eq_getElem->Ra,getElem?_eq_none->RC,size_append->R7,getElem?_toList->SK,toArray_toList->SV,append_empty->Tj,toList_push->Tt,ext'->TV,toList->Ud
open Bool renaming not_eq_true'->N0,false_eq_true->N1,and_true->N3,true_eq_false->Oa,true_and->Ob,and_eq_true->Oh,false_ne_true->Oq,not_false->OA,or_false->OB,not_true->OK,false_or->OL,eq_iff_iff->P5,or_eq_true->Rb,or_true->Sg,eq_false_iff->Tq
open Option.some renaming injEq->N9,inj->Pg
open PySem.PyData.tuple renaming injEq->Oe
open Option renaming join_some->Oi,join_none->Oj,map_some->Ox,map_none->Oy,isSome_iff_exists->Qo,getD_none->TF,bind->Uq
open PySem.PyData.bool renaming injEq->Om
open PySem.PyData.list renaming injEq->Oo
open PySem.PyData.int renaming injEq->Ot
open PySem.PyData.str renaming injEq->Ou
open PySem.Value renaming ref->Ow,none->P9,builtin->Qi,bool->QC,str->Q4,type->Q5,int->RG,isStrOf_shape->S4,isStrOf->T7,float->Ul
open Int renaming reduceNeg->OH,reducePow->OI,reduceLT->OQ,reduceLE->OR,eq_ofNat_of_zero_le->OX,toNat_natCast->O8,toNat_of_nonneg->QM,fdiv_eq_ediv_of_nonneg->RX,fmod_eq_emod_of_nonneg->RY,lt_trichotomy->Tv,ediv_one->Ue,zero_add->Uk
open PySem.ScopeKind renaming function->OJ
open PySem.NameKind renaming globalImplicit->OS,free->Pr,free->PB,cell->RD
open PySem.Builtin.Int renaming intBits->Pj
open PySem.SeqAt renaming canLay_of_shaped->Po,shaped->P8
open False renaming elim->Pw
open PySem.Heap.SameBut renaming update->Px
open PySem.Obj renaming data_mapFields->PM,isFreed_of_fields->Qy,mapSeq->Rn,cls_mapFields->Ru,putSet->Sa,mapFields->SX
open PySem.Builtin.SmallTypes renaming nextOf->PU,ownedTupleIsFree->Qb,ownedTupleHandOut->Rk
open True renaming intro->PV
open PySem.F renaming excBase_ValueError->P2,plainAttrs_str->QV,args_tuple_add_2->Rg,entry_tuple_add->Rq,slot_tuple_add->Ry,plain_extend_loop->Sb,plain_list_iadd->Sr,slot_str_join->SG,type_str_join->SH,plain_set_new->SJ,slot_set_iter->SM
open PySem.StrLaws renaming glued_eq_join->P6,found_one->Rv,join_split->RV
open PySem.Builtin.Str renaming occurrences->Qc,strSliceIndices->RS,partsBetween->Sj,strKind->S6
open PyProof.Rows renaming slot_tuple_getitem->Qn,callWith_type1->Qv,split_le->Q3,boot_sum->RI,boot_min->RJ,boot_sorted->Sn,boot_max->Uu
open PySem.Expr renaming List->Qr,BinOp->T3,Subscript->T6,Call->Ux
open PySem.SetTable renaming grown->Qt,below->Rp,sizeAbove->Tg,layClean->Ts,relaid->TX,laid->Ua
open PyProof.Rows.F renaming plain_set_update_loop->Qw,entry_set_update_loop->Rj
open PySem.Sem renaming wp->Qx
open PySem.PassesOwn renaming never->Qz
open PySem.Builtin.Slice renaming slicePlaces->QD,sliceAdjust->Q8,sliceApplied->RZ
open PySem.Around renaming under_plainId->QE,under->Ta
open PySem.Builtin.Tuple renaming tupleExact->QH,tupleItemsOf->R0
open PySem.W.WData renaming int->QO,weightAll->Q9,list->R8,layableAll->TH,weight->Ug
open ForInStep renaming yield->QP
open PySem.Builtin.List renaming listTooLong->Rh,listLengthHint->RT,listExtendWith->RU,listSameRef->Sk,listFitsIndex->T8
open PySem.Code renaming quiet_builtin->Ri,isFrame->Tb,frames->Uo
open Sum renaming inr->Rl,inl->Sd
open Or renaming inr->Rz,inl->Sf
open PySem.EntryCells renaming newEntry->RP
open PySem.Calls renaming Name_function_global->RW,callWith_builtin->Sz,evalArgs_plain->SR,call_len_list->S5
open PyProof renaming noPylong_small->Sy
open PySem.W.KIN renaming num_reads->SO
open PySem.SeqAt.RcAt renaming tuple_str->SS
open PySem.SeqAt.EqAt renaming str_tuple->SU,str_int->S8
open PyProof.Rows.IsTup renaming new->S9
open PySem.Heap.IsSliceOf renaming new->Td
open PySem.SetTable.below renaming go->Tu
open PySem.Bind renaming checkArgs->T5
open Nat.succ renaming inj->Uj
open PySem.CmpOp renaming NotIn->Um
open PySem.Shared renaming heap->Ur
open PySem.Walks renaming list->Uv
open PySem.Flow renaming next->Uw
open PySem renaming PyData->UD,Value->UE,wpAny_bind->UG,Addr->UH,Shared->UI,wpAny_pure->UJ,wpAny->UK,model->UL,starEach->UM,sizeLine->UN,Expr->UO,FuncData->UP,mainGlobals->UQ,Heap->UR,Program->US,sizeLine_eq->UT,World->UU,Stmt->UW,Around->UX,compareOp->UY,wpAny_newObj_type->UZ,bootBuiltins->U0,wpAny_callSpecial?_slot->U1,wpAny_mono->U2,backTo->U3,wpAny_call_entry->U4,wpAny_truthy_bool->U5,foldedSetIterable->U6,wpAny_loadPart_at->U7,wpAny_holding->U8,wpAny_field->U9,cellsFrom->Vb,Scope->Vc,NameKind->Vd,swapsWith->Ve,excClassObj->Vf,behindInMarks->Vg,binaryOp->Vh,wpAny_seqItems->Vi,rawInt->Vj,wpAny_loadPart'->Vk,codeAny_call_builtin->Vl,IsPair->Vm,wpAny_setField->Vn,codeAny_mono->Vo,wpAny_Call_Name_kw->Vp,wpAny_passesOwn->Vq,codeAny_builtin->Vr,attributeBase->Vs,pyNext->Vt,wpAny_setState_of->Vu,assignEach->Vv,typeIs_str->Vw,call_meets->Vx,codeAny->Vy,wpAny_askSetting->VA,ExcBaseFacts->VB,wpAny_isSubtype_exc->VC,wpAny_setEntries_of->VD,Keyword->VE,wpAny_execs_nil->VF,scanBound->VG,wpAny_setField_rec->VH,firstArgMember->VI,wpAny_rule->VJ,checkBuiltinCall->VL,wpAny_standAt->VM,wpAny_attempt->VO,sliceBounds->VP,keywordEach->VQ,IsZip->VR,SetTable->VS,Model->VU,wpAny_call->VV,setNext->VW,strIterType->VX,wpAny_of_eq->VY,plainId_quiet->VZ,GenState->V0,wpAny_execs_cons->V1,relayAll->V2,wpAny_isInstance->V3,getItem->V5,noteFrame->V6,letOwnedTupleGo->V8,wpAny_typeOf->V9,wpAny_ite_split->Wa,backToKw->Wb,wpAny_fieldsOf->Wc,ZipApart->We,wpAny_pyIter_tuple->Wh,DictEntry->Wi,pickOrder->Wj,setFlight->Wk,swapsWithSole->Wl,swappedStores->Wm,wpAny_onRaise->Wn,wpAny_pyIter_list->Wo,noFill_tuple_add->Wq,wpAny_getItem_list_slice->Wr
open PyProof.Rows renaming StrsAre->Va,envOfC->VN,AllBare->VT,assignInOrder_cons->Wg
open PySem.W renaming looks_findIn->Vz,kia_one->V4,findIn->V7,hideAll_get->Wf
theorem td{p:Prop}[Decidable p](h:decide p=true:=by decide+kernel):p:=of_decide_eq_true h
theorem Ce{p:Prop}(h:p:=by decide):p:=h
theorem Uy{p:Prop}(h:p:=by omega):p:=h
theorem UC{p:Prop}(h:p:=by simp):p:=h
theorem Uz{c:Prop}{h:Decidable c}(k:¬c){α:Sort u}{t e:α}:ite c t e=e:=if_neg k
theorem UA{c:Prop}{h:Decidable c}(k:c){α:Sort u}{t e:α}:ite c t e=t:=if_pos k
abbrev Ws:=PySem.NameKind.local
set_option compiler.extract_closed false
def rzS:="↓iX ↓ja ↓jb ↓jd ↓je ↓jf ↓jg ↓iY ↓ff ↓iy ↓jJ ↓jK ↓jL ↓jM ↓jN ↓jO ↓iz ↓iA ↓iB ↓iC ↓iD ↓iE ↓iF ↓iG ↓iH ↓iI ↓iJ ↓iK ↓iL ↓iM ↓iN ↓iO ↓iP ↓iQ ↓iR ↓iS ↓iT ↓iU ↓iV ↓iW cT cU cX cW fC fD cV cY cZ dm dn fL cL dC bA dI dD dE dF fR dG bX dX dW dJ dH dL cC cM fz cx cm bK cN cO cP cQ fA cR cS cq cu fB gz gA gB gC gD gE gF gG gH gI gJ gK gL gM gN gO gP gQ gR gS gT gU gW gX gY gZ g6 g9 hG hJ hV hW hX hZ ic ie ig ij ik il ip iq iu eT dO fQ dY cI fT d7 dM dN dP dQ dR dS dU cG dZ d3 d6 bU fM fN fO fE fF fG fH dz fJ dA fK eN eR gs gu gx gr gy eG eJ eL eM bY eQ eO eD eF eV eX eY eZ cb iw ix i3 iZ i4 i5 i6 i8 i9 fg fh jk ji jj jh jq jl jm jn jo cJ fj jv jw jr jt ju jx jy jz fk jA jB jD jE fq jF jG jH jC jI ft fu fv fw jP jQ jR bP gc gf gh gi gj gk gm gn gp ne_eq b0 fX fY fZ gb fU fV fW cD cE dB c7 dj di dh bT bR bg bV ck bW NM Od NI N7 NO N4 N8 NZ OD OE OM ON OO NU NS Oc N5 N6 N9 exists_eq_left' exists_eq_left exists_and_left exists_and_right Oi Oj Sl.v.injEq Sl.o.injEq Sl.k.injEq Ot Om Ou Oe Oo NP and_true true_and OP Ov exists_const decide_eq_true_eq OQ OR OH OI N0 decide_eq_false_iff_not and_assoc or_true true_or ↓reduceIte if_true if_false N1 Oa not_true_eq_false not_false_eq_true OK OA ite_true ite_false eq_self exists_eq reduceCtorEq false_and and_false or_false false_or exists_false Ox Oy cj OG OU OC OV N3 OB Ob OL aV bp bS cH d8 br ei er beq_self_eq_true d9 eg fS bx sizeLine_eq"
def rzT (n : String) : Lean.MacroM (Lean.TSyntax `tactic) := do
 let ts : Array (Lean.TSyntax `Lean.Parser.Tactic.simpLemma) <- ((n.splitOn " ").toArray).mapM λs =>do
  if s.startsWith "↓" then
   let i := Lean.mkIdent (s.drop 1).toString.toName
   `(Lean.Parser.Tactic.simpLemma| ↓ $i:ident)
  else
   let i := Lean.mkIdent s.toName
   `(Lean.Parser.Tactic.simpLemma| $i:ident)
 `(tactic| simp only [$ts,*])
local macro_rules|`(command|def $i:declId $s:optDeclSig $v:declVal)=>`(command|noncomputable def $i:declId $s:optDeclSig $v:declVal)|`(command|abbrev $i:declId $s:optDeclSig $v:declVal)=>`(command|noncomputable abbrev $i:declId $s:optDeclSig $v:declVal)
noncomputable section
set_option Elab.async false
set_option linter.all false
set_option maxRecDepth 100000
set_option maxHeartbeats 0
set_option genSizeOf false
namespace L2
open PySem PySem.Spec PyProof.Rows
abbrev aZ:=Sum Int Str
def AY:aZ->UE->Bool
 | .inl k,v=>Value.isInt k v
 | .inr x,v=>T7 x v
def Ff(w:UU):aZ->Int
 | .inl k=>hashInt k
 | .inr x=>hashStr w x
theorem nG:∀{k:aZ}{v:UE},AY k v=true->(∃i t,k=Sd i/\v=RG i t)\/(∃x t,k=Rl x/\v=Q4 x t)
 | .inl i,v,h=>by
  obtain⟨t,e⟩:=Value.isInt_shape (k:=i) (v:=v) h;exact .inl ⟨i,t,rfl,e⟩
 | .inr x,v,h=>by
  obtain⟨t,e⟩:=S4 (x:=x) (v:=v) h;exact .inr ⟨x,t,rfl,e⟩
theorem Fg(a b:Int):decide ((Sd a:aZ)=Sd b)=(a==b):=by
 by_cases e:a=b
 ·subst e;simp
 ·have h:¬(Sd a:aZ)=Sd b:=λq=>e (Sd.inj q);rw [decide_eq_false h];exact(beq_eq_false_iff_ne.mpr e).symm
theorem Fh(a b:Str):decide ((Rl a:aZ)=Rl b)=decide (a=b):=by
 by_cases e:a=b
 ·subst e;simp
 ·have h:¬(Rl a:aZ)=Rl b:=λq=>e (Rl.inj q);rw [decide_eq_false h,decide_eq_false e]
theorem Fi(a:Int)(b:Str):decide ((Sd a:aZ)=Rl b)=false:=decide_eq_false (λq=>nomatch q)
theorem Fj(a:Str)(b:Int):decide ((Rl a:aZ)=Sd b)=false:=decide_eq_false (λq=>nomatch q)
def AZ(prog:US)(w:UU):PySem.KeyKind prog w aZ where
 is:=AY
 hash:=Ff w
 inj:=λv a b ha hb=>by
  rcases nG ha with⟨i,t,rfl,rfl⟩ | ⟨x,t,rfl,rfl⟩
  ·rcases nG hb with⟨j,u,rfl,e⟩ | ⟨y,u,rfl,e⟩
   ·injection e with e1 _;rw [e1]
   ·exact nomatch e
  ·rcases nG hb with⟨j,u,rfl,e⟩ | ⟨y,u,rfl,e⟩
   ·exact nomatch e
   ·injection e with e1 _;rw [e1]
 byValue:=λk v h=>by
  rcases nG h with⟨i,t,rfl,rfl⟩ | ⟨x,t,rfl,rfl⟩ <;> rfl
 pyHash:=λhv h=>by
  rcases nG hv with⟨i,t,rfl,rfl⟩ | ⟨x,t,rfl,rfl⟩
  ·exact wpAny_pyHash_int h
  ·exact wpAny_pyHash_str h
 eqBool:=λhu hv h=>by
  rcases nG hu with⟨i,t,rfl,rfl⟩ | ⟨x,t,rfl,rfl⟩
  ·rcases nG hv with⟨j,u,rfl,rfl⟩ | ⟨y,u,rfl,rfl⟩
   ·rw [Fg] at h;exact wpAny_eqBool_int h
   ·rw [Fi] at h;exact SeqAt.EqAt.int_str i t y u _ _ _ _ h
  ·rcases nG hv with⟨j,u,rfl,rfl⟩ | ⟨y,u,rfl,rfl⟩
   ·rw [Fj] at h;exact S8 x t j u _ _ _ _ h
   ·rw [Fh] at h;exact wpAny_eqBool_str h
 «strs»:=λk x t v h=>by
  rcases nG h with⟨i,u,rfl,e⟩ | ⟨y,u,rfl,e⟩
  ·exact nomatch e
  ·injection e with e1 _
   subst e1;cases v <;> rfl
inductive V where
 | non | bl (b:Bool) | int (i:Int) | str (x:Str) | byt (b:Array UInt8) | flt (b:UInt64) | ref (a:UH) | ty (n:String)
 deriving DecidableEq
def aD:V->UE->Prop
 | .non,u=>u=P9
 | .bl b,u=>u=QC b
 | .int i,u=>∃t,u=RG i t
 | .str x,u=>∃t,u=Q4 x t
 | .byt b,u=>∃t,u=Value.bytes b t
 | .flt b,u=>∃t,u=Ul b t
 | .ref a,u=>u=Ow a
 | .ty n,u=>u=Q5 n
abbrev aG:List V->List UE->Prop:=Paired aD
theorem aG.length{xs:List V}{us:List UE}(r:aG xs us):xs.length=us.length:=Paired.length r
theorem aG.get:∀{xs:List V}{us:List UE}{i:Nat}{x:V},aG xs us->xs[i]?=some x->∃u,us[i]?=some u/\aD x u
 | _,_,_,_,.nil,e=>by simp at e
 | _,_,0,_,.cons r _,e=>by simp at e;subst e;exact⟨_,rfl,r⟩
 | _,_,i+1,x,.cons _ t,e=>by
  obtain⟨u,h1,h2⟩:=aG.get (i:=i) (x:=x) t (by simpa using e);exact⟨u,by simpa using h1,h2⟩
theorem aG.set{x:V}{u:UE}(r:aD x u):∀{xs:List V}{us:List UE}(i:Nat),aG xs us->aG (xs.set i x) (us.set i u)
 | _,_,_,.nil=>.nil
 | _,_,0,.cons _ t=>.cons r t
 | _,_,i+1,.cons q t=>.cons q (aG.set r i t)
theorem aG.append:∀{xs ys:List V}{us ws:List UE},aG xs us->aG ys ws->aG (xs++ys) (us++ws)
 | _,_,_,_,.nil,s=>s
 | _,_,_,_,.cons r t,s=>.cons r (aG.append t s)
theorem aG.take:∀{xs:List V}{us:List UE}(n:Nat),aG xs us->aG (xs.take n) (us.take n)
 | _,_,0,_=>.nil
 | _,_,_+1,.nil=>.nil
 | _,_,n+1,.cons r t=>.cons r (aG.take n t)
theorem aG.drop:∀{xs:List V}{us:List UE}(n:Nat),aG xs us->aG (xs.drop n) (us.drop n)
 | _,_,0,r=>r
 | _,_,_+1,.nil=>.nil
 | _,_,n+1,.cons _ t=>aG.drop n t
def p4:Option V->Option UE->Prop
 | some v,some u=>aD v u
 | none,none=>True
 | _,_=>False
def KV{κ:Type}:List (κ×V)->List (κ×UE)->Prop:=Paired λ(p:κ×V) (q:κ×UE)=>p.1=q.1/\aD p.2 q.2
def kV:aZ->V
 | .inl i=>.int i
 | .inr x=>.str x
inductive HO where
 | lst (xs:List V)
 | tup (xs:List V)
 | dK (kvs:List (aZ×V)) | dT (kvs:List (List aZ×V))
 | set (S:Int->Bool) (n:Nat)
 | ins (C dx:UH) (fs:List (Str×V))
 | own (x:UH)
 | xd (fs:List (Str×V))
 | met (f x:UH)
 | rng (lo hi:Int)
 | frz (o:Obj) (u:HO)
 | tbl (ps:Array UE)
 | cod (q:Str)
 | ext (φ:UR->Prop)
abbrev Hp:=UH->Option HO
def ak(H:Hp)(a:UH)(o:HO):Hp:=λb=>if b=a then some o else H b
theorem bh{H:Hp}{a:UH}{o:HO}:ak H a o a=some o:=by unfold ak;rw [UA rfl]
theorem av{H:Hp}{a b:UH}{o:HO}(h:b≠a):ak H a o b=H b:=by unfold ak;rw [Uz h]
theorem ko{H:Hp}{a b:UH}{o:HO}(h:H a=some o)(h':H b=none):a≠b:=by
 intro e;subst e;rw [h] at h';cases h'
def Fl(h:UR)(a:UH)(q:Str):Prop:=∃oc vs t,h.get? a=some oc/\oc.data= .fields vs/\vs[1]?=some (.str q t)
def Fm(H:Hp)(h:UR)(a:UH)(q:Str):Prop:=∃ps:Array UE,h.get? a=some {cls:= .none,data:= .fields ps}/\PySem.TriplesOk ps.toList/\∀pos cv,PySem.codeAmong pos ps.toList=some cv->∃c,cv= .ref c/\H c=some (.cod q)
section
variable (P:US) (w:UU)
def bE(H:Hp)(h:UR)(a:UH):HO->Prop
 | .lst xs=>xs.length<=UN/\∃(its:List UE)(n:Nat),aG xs its/\h.get? a=some {cls:= .type "list",data:= .seq its.toArray n}
 | .tup xs=>xs.length<=UN/\∃its:List UE,aG xs its/\IsTup h a its.toArray
 | .dK kvs=>kvs.length<=UN/\(a==sysModules)=false/\∃vs,KV kvs vs/\h.DictOf (AZ P w) a vs
 | .dT kvs=>kvs.length<=UN/\(a==sysModules)=false/\∃xs:List (List aZ×UH×UE),
  Paired (λ(p:List aZ×V) (q:List aZ×UH×UE)=>p.1=q.1/\H q.2.1=some (.tup (p.1.map kV))/\aD p.2 q.2.2) kvs xs/\
  ∃o es ep,h.get? a=some o/\o.ExactDict/\o.data= .dict es ep/\es.toList=xs.map (entryOfKey (tupleKind (AZ P w)))/\(xs.map (·.1)).Nodup
 | .set S n=>h.SetOf (intKind P w) a S n
 | .ins C dx fs=>H dx=some (.own a)/\fs.length<=1000/\dx≠a/\h.get? a=some (Ss C dx)/\
  ∃mA,h.Ns1 dx mA/\(∀f,p4 (fs.lookup f) (mA f))/\Uc mA (fs.map (·.1))
 | .own _=>∃o,h.get? a=some o
 | .xd fs=>∃mA,h.Ns1 a mA/\∀f,p4 (fs.lookup f) (mA f)
 | .rng lo hi=>∃t u v,h.get? a=some {cls:= .type "range",data:= .fields #[.int lo t,.int hi u,.int 1 v]}
 | .frz o u=>h.get? a=some o/\bE H h a u
 | .tbl ps=>∃q t,ps[0]?=some (.str q t)/\Fm H h a q
 | .cod q=>Fl h a q
 | .met f x=>h.get? a=some (R3 (.ref f) (.ref x))
 | .ext φ=>φ h/\(∃o,h.get? a=some o)/\∀h1 h2:UR,φ h1->(∀o,h1.get? a=some o->h2.get? a=some o)->φ h2
def bI(H:Hp)(h:UR):Prop:=∀a o,H a=some o->bE P w H h a o
end
section
variable {P:US} {w:UU} {H H':Hp} {h h':UR} {a:UH} {o:HO}
theorem bE.lt(x:bE P w H h a o):a < h.objs.size:=by
 cases o with
 | lst xs=>obtain⟨_,_,_,_,e⟩:=x;exact NV e
 | tup xs=>obtain⟨_,_,_,p⟩:=x;exact p.lt
 | dK kvs=>obtain⟨_,_,_,_,o,_,_,e,_⟩:=x;exact NV e
 | dT kvs=>obtain⟨_,_,_,_,o,_,_,e,_⟩:=x;exact NV e
 | set S n=>obtain⟨o,_,_,_,e,_⟩:=x;exact NV e
 | ins C dx fs=>obtain⟨_,_,_,e,_⟩:=x;exact NV e
 | own y=>obtain⟨_,e⟩:=x;exact NV e
 | xd fs=>obtain⟨_,⟨_,_,_,e,_⟩,_⟩:=x;exact NV e
 | rng lo hi=>obtain⟨_,_,_,e⟩:=x;exact NV e
 | frz ob u=>obtain⟨e,_⟩:=x;exact NV e
 | tbl ps=>obtain⟨_,_,_,_,e,_⟩:=x;exact NV e
 | cod q=>obtain⟨_,_,_,e,_⟩:=x;exact NV e
 | met f y=>exact NV (show h.get? a=some _ from x)
 | ext φ=>obtain⟨_,⟨_,e⟩,_⟩:=x;exact NV e
theorem Paired.mapP{α β:Type}{F G:α->β->Prop}:∀{l₁:List α}{l₂:List β},Paired F l₁ l₂->(∀a b,F a b->G a b)->Paired G l₁ l₂
 | _,_,.nil,_=>.nil
 | _,_,.cons r t,f=>.cons (f _ _ r) (Paired.mapP t f)
theorem bE.stay(x:bE P w H h a o)(k:∀b u,(b=a\/H b=some (.own a))->h.get? b=some u->h'.get? b=some u)
 (ho:∀b,H b=some (.own a)->H' b=some (.own a))(ht:∀b xs,H b=some (.tup xs)->H' b=some (.tup xs))(hc:∀b q,H b=some (.cod q)->H' b=some (.cod q)):bE P w H' h' a o:=by
 induction o with
 | lst xs=>obtain⟨z,its,n,r,e⟩:=x;exact⟨z,its,n,r,k _ _ (.inl rfl) e⟩
 | tup xs=>obtain⟨z,its,r,ob,e,c⟩:=x;exact⟨z,its,r,ob,k _ _ (.inl rfl) e,c⟩
 | dK kvs=>obtain⟨z,y,vs,r,ob,es,ep,e,c⟩:=x;exact⟨z,y,vs,r,ob,es,ep,k _ _ (.inl rfl) e,c⟩
 | dT kvs=>
  obtain⟨z,y,xs,r,ob,es,ep,e,c⟩:=x;exact⟨z,y,xs,Paired.mapP r λp q z=>⟨z.1,ht _ _ z.2.1,z.2.2⟩,ob,es,ep,k _ _ (.inl rfl) e,c⟩
 | set S n=>obtain⟨ob,es,ep,t,e,c⟩:=x;exact⟨ob,es,ep,t,k _ _ (.inl rfl) e,c⟩
 | ins C dx fs=>
  obtain⟨d,z,ne,e,mA,⟨od,es,ep,e2,c⟩,r⟩:=x;exact⟨ho _ d,z,ne,k _ _ (.inl rfl) e,mA,⟨od,es,ep,k _ _ (.inr d) e2,c⟩,r⟩
 | own y=>obtain⟨ob,e⟩:=x;exact⟨ob,k _ _ (.inl rfl) e⟩
 | xd fs=>obtain⟨mA,⟨od,es,ep,e,c⟩,r⟩:=x;exact⟨mA,⟨od,es,ep,k _ _ (.inl rfl) e,c⟩,r⟩
 | rng lo hi=>obtain⟨t,u,v,e⟩:=x;exact⟨t,u,v,k _ _ (.inl rfl) e⟩
 | frz ob u ih=>obtain⟨e,q⟩:=x;exact⟨k _ _ (.inl rfl) e,ih q⟩
 | tbl ps=>
  obtain⟨q,t,z,qs,e,tr,y⟩:=x;exact⟨q,t,z,qs,k _ _ (.inl rfl) e,tr,λpos cv w=>let ⟨c,e1,e2⟩:=y pos cv w;⟨c,e1,hc _ _ e2⟩⟩
 | cod q=>obtain⟨oc,vs,t,e,r⟩:=x;exact⟨oc,vs,t,k _ _ (.inl rfl) e,r⟩
 | met f y=>
  have e:h.get? a=some (R3 (.ref f) (.ref y)):=x;show h'.get? a=some (R3 (.ref f) (.ref y));exact k a _ (.inl rfl) e
 | ext φ=>obtain⟨p,⟨o,e⟩,st⟩:=x;exact⟨st _ _ p λo q=>k _ _ (.inl rfl) q,⟨o,k _ _ (.inl rfl) e⟩,st⟩
theorem bI.lt(x:bI P w H h)(e:H a=some o):a < h.objs.size:=(x a o e).lt
theorem bI.fresh(x:bI P w H h)(e:h.objs.size<=a):H a=none:=by
 cases q:H a with
 | none=>rfl
 | some u=>exact absurd (OW (x.lt q) e) (Qp _)
theorem bI.kept(x:bI P w H h)(k:∀b u,h.get? b=some u->h'.get? b=some u):bI P w H h':=λa o e=>
 (x a o e).stay (λb u _ q=>k b u q) (λ_ q=>q) (λ_ _ q=>q) λ_ _ q=>q
theorem bI.laid(x:bI P w H h)(k:∀b u,h.get? b=some u->h'.get? b=some u)(hp:h.objs.size<=a)(new:bE P w (ak H a o) h' a o):bI P w (ak H a o) h':=λb u e=>by
 have hn:=x.fresh hp;by_cases hb:b=a
 ·subst hb;rw [bh] at e;cases e;exact new
 ·rw [av hb] at e;exact(x b u e).stay (λc v _ q=>k c v q) (λc q=>by rw [av (ko q hn)];exact q) (λc xs q=>by rw [av (ko q hn)];exact q) λc xs q=>by rw [av (ko q hn)];exact q
end
def Rd(H:Hp)(a:UH)(u:HO):Prop:=H a=some u\/∃o,H a=some (.frz o u)
theorem Rd.ok{P:US}{w:UU}{H:Hp}{h:UR}{a:UH}{u:HO}(r:Rd H a u)(x:bI P w H h):bE P w H h a u:=by
 rcases r with r | ⟨o,r⟩
 ·exact x a u r
 ·obtain⟨_,q⟩:=x a _ r;exact q
def qT:Option HO->Prop
 | some (.lst _)=>True
 | some (.dK _)=>True
 | some (.dT _)=>True
 | some (.set _ _)=>True
 | some (.ins _ _ _)=>True
 | some (.ext _)=>True
 | _=>False
section
variable {P:US} {w:UU} {H:Hp} {h h':UR} {x e:UH} {o':HO}
theorem bI.write(ok:bI P w H h)(mu:qT (H x))(he:e=x\/H e=some (.own x))(k:∀b u,b≠e->h.get? b=some u->h'.get? b=some u)(heo:∃u,h'.get? e=some u)
 (new:bE P w (ak H x o') h' x o'):bI P w (ak H x o') h':=λb u q=>by
 have nown:∀c y,H c=some (.own y)->c≠x:=λc y r z=>by subst z;rw [r] at mu;exact mu
 have ntup:∀c xs,H c=some (.tup xs)->c≠x:=λc xs r z=>by subst z;rw [r] at mu;exact mu
 have ncod:∀c xs,H c=some (.cod xs)->c≠x:=λc xs r z=>by subst z;rw [r] at mu;exact mu
 by_cases hb:b=x
 ·subst hb;rw [bh] at q;cases q;exact new
 ·rw [av hb] at q;by_cases hbe:b=e
  ·have q':H b=some (.own x):=by
    rcases he with z | z
    ·exact absurd (hbe.trans z) hb
    ·rw [hbe];exact z
   rw [q] at q';cases q';obtain⟨v,hv⟩:=heo;exact⟨v,by rw [hbe];exact hv⟩
  ·refine(ok b u q).stay (λc v hc r=>k c v ?_ r) (λc r=>by rw [av (nown c b r)];exact r) (λc xs r=>by rw [av (ntup c xs r)];exact r) λc xs r=>by rw [av (ncod c xs r)];exact r
   rcases hc with rfl | hc
   ·exact hbe
   ·rintro rfl;rcases he with z | z
    ·exact nown c b hc z
    ·rw [hc] at z;cases z;exact hb rfl
end
structure Un (fs ex:List UH) (H H':Hp) (h h':UR):Prop where
 keep:∀b o,h.get? b=some o->H b=none->b ∉ fs->b ∉ ex->h'.get? b=some o
 slot:∀b o,h.get? b=some o->H b=none->b∈fs->b ∉ ex->∃sl,h'.get? b=some {o with slots:=sl}
 free:∀b o,h.get? b=some o->H b=none->b ∉ ex->H' b=none
 there:∀b o,h.get? b=some o->b ∉ ex->∃o',h'.get? b=some o'
 tups:∀b xs,H b=some (.tup xs)->H' b=some (.tup xs)
 frzs:∀b o u,H b=some (.frz o u)->H' b=some (.frz o u)
 tbls:∀b ps,H b=some (.tbl ps)->∃more,H' b=some (.tbl (ps++more))
section
variable {fs fs' ex ex':List UH} {H H1 H2:Hp} {h h1 h2 h':UR} {a x e:UH} {o:HO}
theorem Un.any(u:Un fs ex H H1 h h1){b:UH}{ob:Obj}(q:h.get? b=some ob)(n:H b=none)(hx:b ∉ ex):∃sl,h1.get? b=some {ob with slots:=sl}:=by
 by_cases hb:b∈fs
 ·exact u.slot b ob q n hb hx
 ·exact⟨ob.slots,u.keep b ob q n hb hx⟩
theorem Un.kept(k:∀b u,h.get? b=some u->h'.get? b=some u):Un fs ex H H h h':=
 ⟨λb ob q _ _ _=>k b ob q,λb ob q _ _ _=>⟨ob.slots,k b ob q⟩,λ_ _ _ n _=>n,λb ob q _=>⟨ob,k b ob q⟩,λ_ _ q=>q,λ_ _ _ q=>q,λ_ ps q=>⟨#[],by rw [q];simp⟩⟩
theorem Un.refl:Un fs ex H H h h:=Un.kept λ_ _ q=>q
theorem Un.laid(k:∀b u,h.get? b=some u->h'.get? b=some u)(hp:h.objs.size<=a)(hn:H a=none):Un fs ex H (ak H a o) h h' where
 keep:=λb u q _ _ _=>k b u q
 slot:=λb u q _ _ _=>⟨u.slots,k b u q⟩
 free:=λb u q n _=>by rw [av (OF (OW (NV q) hp))];exact n
 there:=λb u q _=>⟨u,k b u q⟩
 tups:=λb xs q=>by rw [av (ko q hn)];exact q
 frzs:=λb u xs q=>by rw [av (ko q hn)];exact q
 tbls:=λb ps q=>⟨#[],by rw [av (ko q hn),q];simp⟩
theorem Un.write(mu:qT (H x))(he:e=x\/H e=some (.own x))(k:∀b u,b≠e->h.get? b=some u->h'.get? b=some u)(heo:∃u,h'.get? e=some u):Un fs ex H (ak H x o) h h':=by
 have hx:∀b,H b=none->b≠x:=λb n z=>by subst z;rw [n] at mu;exact mu
 have hb:∀b,H b=none->b≠e:=λb n z=>by
  subst z;rcases he with r | r
  ·exact hx b n r
  ·rw [n] at r;cases r
 have hm:∀b u,H b=some u->¬qT (some u)->b≠x:=λb u q nm z=>by subst z;rw [q] at mu;exact nm mu
 refine⟨λb u q n _ _=>k b u (hb b n) q,λb u q n _ _=>⟨u.slots,k b u (hb b n) q⟩,λb u q n _=>by rw [av (hx b n)];exact n,λb u q _=>?_,
  λb xs q=>by rw [av (hm b _ q λz=>z)];exact q,λb u xs q=>by rw [av (hm b _ q λz=>z)];exact q,λb ps q=>⟨#[],by rw [av (hm b _ q λz=>z),q];simp⟩⟩
 by_cases hbe:b=e
 ·subst hbe;exact heo
 ·exact⟨u,k b u hbe q⟩
end
def trk(h:UR)(H:Hp):List UH:=(PD h.objs.size).filter λa=>(H a).isSome
def nH(h:UR)(H:Hp):UR:=PySem.W.hideAll h (trk h H)
theorem Fo(h:UR)(H:Hp):(nH h H).objs.size=h.objs.size:=PySem.W.hideAll_size _ _
theorem Fp{h:UR}{H:Hp}{b:UH}{o:Obj}(e:h.get? b=some o)(n:H b=none):(nH h H).get? b=some o:=
 PySem.W.hideAll_get _ e λhm=>by
  have q:(H b).isSome=true:=(TN.mp hm).2;rw [n] at q;simp at q
theorem Fq{h:UR}{H:Hp}{b:UH}{o:Obj}(e:(nH h H).get? b=some o):h.get? b=some o/\H b=none:=by
 have e':h.get? b=some o:=PySem.W.of_hideAll (trk h H) e;refine⟨e',?_⟩;cases q:H b with
 | none=>rfl
 | some x=>
  have hm:b∈trk h H:=TN.mpr ⟨QF.mpr (NV e'),by simp [q]⟩;have z:(nH h H).get? b=none:=PySem.W.hideAll_none (trk h H) hm;rw [z] at e;cases e
def Fs(g h:UR)(L:UH):List (UH×Obj):=(PD h.objs.size).filterMap λa=>if a=L\/(g.get? a).isSome=true then none else(h.get? a).map λo=>(a,o)
def rest(g h:UR)(L d:UH):List (UH×Obj):=(Fs g h L).filter λp=>decide (p.1≠d)
structure Mod (K:NG) (mg:Str->Option UE) (base:UR):Prop where
 kin:K.In base
 glob:base.Ns UQ mg
 blt:∃mb,base.Ns builtinsNs mb/\∀x:Str,x≠"__name__"->mb x=U0 x
 nolimit:base.NoLimit
structure Cx where
 prog:US
 w:UU
 K:NG
 mg:Str->Option UE
 base:UR
 A:UX
 N:List Str
 s₀:UI
 H₀:Hp
 env:Env
 outer:List Env
 stack:List Env
 ex:List UH
 fn:Str->Bool
 calm:Bool
 pn:List (UH×Obj)
 xe:UE->UI->Prop
def cf(l:List Env):List UH:=l.filterMap (·.frame)
abbrev Cx.fs(X:Cx):List UH:=cf X.outer
def qU(sc:Vc)(x:Str):Prop:=sc.names.lookup x=some .local\/sc.names.lookup x=some .cell\/sc.names.lookup x=some .free
def oT(sc:Vc)(x:Str):Prop:=sc.names.lookup x=some .local\/sc.names.lookup x=some .cell
def Ft(env:Env)(h:UR)(m:Str->Option UE)(x:Str)(u:UE):Prop:=
 (env.kindOf x=some .local/\m x=some u)\/((env.kindOf x=some .cell\/env.kindOf x=some .free)/\∃c,env.cells.lookup x=some c/\h.IsCell c (some u))
structure Cx.Ok (X:Cx):Prop where
 mod:Mod X.K X.mg X.base
 kind:X.env.scope.kind= .function
 glob:X.env.globals=UQ
 blt:X.env.builtins=builtinsNs
 above:X.s₀.heap.objs.size<=X.env.locals
 inj:∀x y c,X.env.cells.lookup x=some c->X.env.cells.lookup y=some c->x=y
 has:∀x,(X.env.kindOf x=some .cell\/X.env.kindOf x=some .free)->∃c,X.env.cells.lookup x=some c
 cab:∀x c,X.fn x=true->X.env.cells.lookup x=some c->X.s₀.heap.objs.size<=c
 hd:X.calm=true->X.A.handled=none
 frames:X.A.frames=some X.stack
 stk:X.stack=X.outer\/(X.stack=X.env::X.outer/\X.env.frame=some X.env.locals)
 exf:∀b∈X.ex,b≠X.env.locals/\∀x c,X.env.cells.lookup x=some c->c≠b
 bs:∀b o,X.base.get? b=some o->X.s₀.heap.get? b=some o/\X.H₀ b=none
 bsz:X.base.objs.size<=X.s₀.heap.objs.size
 noex:∀b o,X.base.get? b=some o->b ∉ X.ex
 exfs:∀b∈X.ex,b ∉ X.fs
 funs:X.s₀.heap.FunFrames X.base X.outer
 frf:∀b∈X.fs,X.H₀ b=none
structure ag (X:Cx) (Wt:List (UH×Obj)) (σ:List (Option V)) (H:Hp) (s:UI):Prop where
 ok:X.Ok
 os:s.os=X.s₀.os
 bare:VT s.gens
 base:Un X.fs X.ex X.H₀ H X.s₀.heap s.heap
 loc:∃m,s.heap.Ns X.env.locals m/\∀(i:Nat)(x:Str)(v:V),X.N[i]?=some x->σ[i]?=some (some v)->qU X.env.scope x->∃u,aD v u/\Ft X.env s.heap m x u
 cell:∀x c,X.env.cells.lookup x=some c->∃v,s.heap.IsCell c v
 free:H X.env.locals=none
 freeC:∀x c,X.env.cells.lookup x=some c->H c=none
 pin:∀p∈X.pn++Wt,s.heap.get? p.1=some p.2/\H p.1=none/\p.1≠X.env.locals/\p.1 ∉ X.fs/\∀v,p.2.data≠ .cell v
 hok:bI X.prog X.w H s.heap
 len:σ.length=X.N.length
section
variable {X:Cx} {Wt:List (UH×Obj)} {σ:List (Option V)} {H H':Hp} {s:UI} {h':UR}
theorem Cx.Ok.nofr(ok:X.Ok){b:UH}{o:Obj}(e:X.base.get? b=some o):b ∉ X.fs:=λhb=>by
 have:=(ok.funs.mem hb).1;rw [e] at this;cases this
theorem ag.bs(I:ag X Wt σ H s):∀b o,X.base.get? b=some o->s.heap.get? b=some o/\H b=none:=λb o e=>
 ⟨I.base.keep b o (I.ok.bs b o e).1 (I.ok.bs b o e).2 (I.ok.nofr e) (I.ok.noex b o e),I.base.free b o (I.ok.bs b o e).1 (I.ok.bs b o e).2 (I.ok.noex b o e)⟩
theorem ag.bk(I:ag X Wt σ H s):∀b o,X.base.get? b=some o->s.heap.get? b=some o:=λb o e=>(I.bs b o e).1
theorem ag.mod(I:ag X Wt σ H s):Mod X.K X.mg X.base:=I.ok.mod
theorem ag.kIn(I:ag X Wt σ H s):X.K.In s.heap:=I.ok.mod.kin.keeps I.bk
theorem ag.fr(I:ag X Wt σ H s):∃m,Fr X.base X.env.locals s.heap m:=
 let ⟨m,hn,_⟩:=I.loc
 ⟨m,hn,I.bk,Oz I.ok.bsz I.ok.above⟩
theorem ag.lt(I:ag X Wt σ H s):X.env.locals < s.heap.objs.size:=let ⟨_,hn,_⟩:=I.loc;hn.lt
theorem ag.sz(I:ag X Wt σ H s):X.s₀.heap.objs.size<=s.heap.objs.size:=Oz I.ok.above (Rc I.lt)
theorem ag.nofs(I:ag X Wt σ H s){a:UH}(h:s.heap.objs.size<=a):a ∉ X.fs:=λhb=>by
 obtain⟨_,o,ho,_⟩:=I.ok.funs.mem hb;exact absurd (OW (NV ho) (Oz I.sz h)) (Qp _)
theorem ag.cne(I:ag X Wt σ H s):∀x c,X.env.cells.lookup x=some c->c≠X.env.locals:=λx c e z=>by
 obtain⟨v,o,ho,hd⟩:=I.cell x c e;obtain⟨m,⟨o',es,ep,ho',hd',_⟩,_⟩:=I.loc;rw [z,ho'] at ho;cases ho;rw [hd'] at hd;cases hd
theorem ag.funs(I:ag X Wt σ H s):s.heap.FunFrames X.base X.outer:=by
 have all:∀(l:List Env),(∀b∈cf l,b∈X.fs)->X.s₀.heap.FunFrames X.base l->s.heap.FunFrames X.base l:=by
  intro l
  induction l with
  | nil=>intro _ _;trivial
  | cons env r ih=>
   intro hs hl;obtain⟨hk,⟨L,o,hf,hn,ho,hd⟩,hr⟩:=hl;have hL:L∈X.fs:=hs L (by unfold cf;rw [RM,hf];exact PH);obtain⟨sl,e⟩:=I.base.slot L o ho (I.ok.frf L hL) hL λz=>I.ok.exfs L z hL;exact⟨hk,⟨L,_,hf,hn,e,hd⟩,ih (λb hb=>hs b (by unfold cf;rw [RM,hf];exact OY _ hb)) hr⟩
 exact all X.outer (λ_ hb=>hb) I.ok.funs
theorem ag.stack(I:ag X Wt σ H s):s.heap.FunFrames X.base X.stack:=by
 rcases I.ok.stk with e | ⟨e,hf⟩
 ·rw [e];exact I.funs
 ·rw [e];obtain⟨m,hn,_⟩:=I.loc;refine .cons (by rw [I.ok.kind];decide) hf hn ?_ I.funs;exact Q6 (Oz I.ok.bsz I.ok.above)
theorem ag.stkSub(I:ag X Wt σ H s):∀b∈cf X.stack,b∈X.env.locals::X.fs:=λb hb=>by
 rcases I.ok.stk with e | ⟨e,hf⟩
 ·rw [e] at hb;exact OY _ hb
 ·rw [e] at hb;unfold cf at hb;rw [RM,hf] at hb;exact hb
theorem ag.stkFree(I:ag X Wt σ H s):∀b∈cf X.stack,H b=none:=λb hb=>by
 rcases NN.mp (I.stkSub b hb) with e | hb
 ·rw [e];exact I.free
 ·obtain⟨_,o,ho,_⟩:=I.ok.funs.mem hb;exact I.base.free b o ho (I.ok.frf b hb) λz=>I.ok.exfs b z hb
theorem ag.step{g':Array V0}{t':Nat}{d':Drawn}{ch:List UH}(I:ag X Wt σ H s)
 (hch:∀b∈ch,(b∈X.ex\/X.s₀.heap.objs.size<=b)/\b≠X.env.locals/\(∀x c,X.env.cells.lookup x=some c->c≠b)/\∀p∈X.pn++Wt,p.1≠b)
 (keep:∀b o,b≠X.env.locals->b ∉ X.fs->b ∉ ch->s.heap.get? b=some o->H b=none->h'.get? b=some o)
 (slot:∀b o,b≠X.env.locals->b∈X.fs->b ∉ ch->s.heap.get? b=some o->H b=none->∃sl,h'.get? b=some {o with slots:=sl})(free:∀b o,b ∉ ch->s.heap.get? b=some o->H b=none->H' b=none)
 (there:∀b o,b ∉ ch->s.heap.get? b=some o->∃o',h'.get? b=some o')
 (tups:∀b xs,H b=some (.tup xs)->H' b=some (.tup xs))(frzs:∀b o u,H b=some (.frz o u)->H' b=some (.frz o u))(tbls:∀b ps,H b=some (.tbl ps)->∃more,H' b=some (.tbl (ps++more)))
 (ns:∀m,s.heap.Ns X.env.locals m->h'.Ns X.env.locals m)(hok:bI X.prog X.w H' h')(hg:VT g'):
 ag X Wt σ H' {s with heap:=h',gens:=g',drawn:=d',toks:=t'}:=by
 have neL:∀b o,X.s₀.heap.get? b=some o->b≠X.env.locals:=λb o e=>OF (OW (NV e) I.ok.above);have neC:∀b o,X.s₀.heap.get? b=some o->b ∉ X.ex->b ∉ ch:=λb o e hx hb=>by
  rcases(hch b hb).1 with z | z
  ·exact hx z
  ·exact absurd (OW (NV e) z) (Qp _)
 have cellK:∀x c,X.env.cells.lookup x=some c->∀v,s.heap.IsCell c v->h'.IsCell c v:=λx c e v uu1=>by
  obtain⟨o,ho,hd⟩:=uu1;have nch:c ∉ ch:=λz=>(hch c z).2.2.1 x c e rfl;by_cases hc:c∈X.fs
  ·obtain⟨sl,q⟩:=slot c o (I.cne x c e) hc nch ho (I.freeC x c e);exact⟨_,q,hd⟩
  ·exact⟨o,keep c o (I.cne x c e) hc nch ho (I.freeC x c e),hd⟩
 refine⟨I.ok,I.os,hg,⟨λb o e n hb hx=>?_,λb o e n hb hx=>?_,λb o e n hx=>?_,λb o e hx=>?_,λb xs e=>tups b xs (I.base.tups b xs e),λb o xs e=>frzs b o xs (I.base.frzs b o xs e),λb ps e=>?_⟩,?_,λx c e=>?_,?_,λx c e=>?_,λp hp=>?_,hok,I.len⟩
 ·exact keep b o (neL b o e) hb (neC b o e hx) (I.base.keep b o e n hb hx) (I.base.free b o e n hx)
 ·obtain⟨sl,e1⟩:=I.base.slot b o e n hb hx;obtain⟨sl',e2⟩:=slot b _ (neL b o e) hb (neC b o e hx) e1 (I.base.free b o e n hx);exact⟨sl',e2⟩
 ·obtain⟨o',e1⟩:=I.base.there b o e hx;exact free b o' (neC b o e hx) e1 (I.base.free b o e n hx)
 ·obtain⟨o',e1⟩:=I.base.there b o e hx;exact there b o' (neC b o e hx) e1
 ·obtain⟨m1,e1⟩:=I.base.tbls b ps e;obtain⟨m2,e2⟩:=tbls b _ e1;exact⟨m1++m2,by rw [e2,Array.append_assoc]⟩
 ·obtain⟨m,hn,hl⟩:=I.loc;refine⟨m,ns m hn,λi x v e1 e2 e3=>?_⟩;obtain⟨u,r,l⟩:=hl i x v e1 e2 e3;refine⟨u,r,?_⟩;rcases l with l | ⟨k,c,e,z⟩
  ·exact .inl l
  ·exact .inr ⟨k,c,e,cellK x c e _ z⟩
 ·obtain⟨v,z⟩:=I.cell x c e;exact⟨v,cellK x c e v z⟩
 ·obtain⟨m,⟨o,_,_,ho,_⟩,_⟩:=I.loc;exact free _ o (λz=>(hch _ z).2.1 rfl) ho I.free
 ·obtain⟨v,o,ho,hd⟩:=I.cell x c e;exact free c o (λz=>(hch c z).2.2.1 x c e rfl) ho (I.freeC x c e)
 ·obtain⟨e,n,ne,nf,d⟩:=I.pin p hp;have nch:p.1 ∉ ch:=λz=>(hch p.1 z).2.2.2 p hp rfl;exact⟨keep p.1 p.2 ne nf nch e n,free p.1 p.2 nch e n,ne,nf,d⟩
theorem ag.un{t':Nat}(I:ag X Wt σ H s)(u:Un X.fs [] H H' s.heap h')(hok:bI X.prog X.w H' h'):ag X Wt σ H' {s with heap:=h',toks:=t'}:=by
 obtain⟨m,⟨o,es,ep,ho,r⟩,_⟩:=id I.loc;obtain⟨sl,hL⟩:=u.any ho I.free UC;exact I.step (g':=s.gens) (d':=s.drawn) (ch:=[]) (λ_ z=>nomatch z) (λb o _ hb _ e n=>u.keep b o e n hb UC) (λb o _ hb _ e n=>u.slot b o e n hb UC) (λb o _ e n=>u.free b o e n UC) (λb o _ e=>u.there b o e UC) u.tups u.frzs u.tbls (λm' hm=>by
  obtain⟨o',es',ep',ho',r'⟩:=hm;rw [ho] at ho';cases ho';exact⟨_,es',ep',hL,r'⟩) hok I.bare
theorem ag.call{g':Array V0}{t':Nat}{d':Drawn}{ch:List UH}(I:ag X Wt σ H s)(u:Un (cf X.stack) ch H H' s.heap h')(hok:bI X.prog X.w H' h')(hg:VT g')
 (hch:∀b∈ch,(b∈X.ex\/X.s₀.heap.objs.size<=b)/\b≠X.env.locals/\(∀x c,X.env.cells.lookup x=some c->c≠b)/\∀p∈X.pn++Wt,p.1≠b):
 ag X Wt σ H' {s with heap:=h',gens:=g',drawn:=d',toks:=t'}:=by
 obtain⟨m,⟨o,es,ep,ho,r⟩,_⟩:=id I.loc;obtain⟨sl,hL⟩:=u.any ho I.free λz=>(hch _ z).2.1 rfl;exact I.step (ch:=ch) hch (λb o hL hb hc e n=>u.keep b o e n (λz=>(NN.mp (I.stkSub b z)).elim hL hb) hc) (λb o _ _ hc e n=>u.any e n hc) (λb o hc e n=>u.free b o e n hc) (λb o hc e=>u.there b o e hc) u.tups u.frzs u.tbls (λm' hm=>by
  obtain⟨o',es',ep',ho',r'⟩:=hm;rw [ho] at ho';cases ho';exact⟨_,es',ep',hL,r'⟩) hok hg
theorem ag.turned{t':Nat}{it:UH}(I:ag X Wt σ H s)(k:∀b o,b≠it->s.heap.get? b=some o->h'.get? b=some o)(hn:H it=none)(hL:it≠X.env.locals)
 (h1:it∈X.ex\/X.s₀.heap.objs.size<=it)(h2:∀x c,X.env.cells.lookup x=some c->c≠it)(h3:∀p∈X.pn++Wt,p.1≠it):ag X Wt σ H {s with heap:=h',toks:=t'}:=by
 have nit:∀b u,H b=some u->b≠it:=λb u e z=>by rw [z,hn] at e;cases e
 refine I.step (g':=s.gens) (d':=s.drawn) (ch:=[it]) (λb hb=>?_) (λb o _ _ hc e _=>k b o (λz=>hc (by simp [z])) e) (λb o _ _ hc e _=>⟨o.slots,k b o (λz=>hc (by simp [z])) e⟩) (λ_ _ _ _ n=>n)
  (λb o hc e=>⟨o,k b o (λz=>hc (by simp [z])) e⟩) (λ_ _ e=>e) (λ_ _ _ e=>e) (λb ps e=>⟨#[],by rw [e];simp⟩) (λm hm=>?_) (λb u e=>?_) I.bare
 ·have e:b=it:=by simpa using hb
  subst e;exact⟨h1,hL,h2,h3⟩
 ·obtain⟨o,es,ep,ho,r⟩:=hm;exact⟨o,es,ep,k _ o (Ne.symm hL) ho,r⟩
 ·refine(I.hok b u e).stay (λc v hc q=>k c v ?_ q) (λ_ q=>q) (λ_ _ q=>q) λ_ _ q=>q;rcases hc with z | z
  ·rw [z];exact nit b u e
  ·exact nit c _ z
theorem ag.tok(I:ag X Wt σ H s)(t:Nat):ag X Wt σ H {s with toks:=t}:=I.un (h':=s.heap) (t':=t) Un.refl I.hok
theorem ag.kept{t':Nat}(I:ag X Wt σ H s)(k:∀b u,s.heap.get? b=some u->h'.get? b=some u):ag X Wt σ H {s with heap:=h',toks:=t'}:=I.un (Un.kept k) (I.hok.kept k)
theorem ag.laid{a:UH}{o:HO}{t':Nat}(I:ag X Wt σ H s)(k:∀b u,s.heap.get? b=some u->h'.get? b=some u)(hp:s.heap.objs.size<=a)(new:bE X.prog X.w (ak H a o) h' a o):
 ag X Wt σ (ak H a o) {s with heap:=h',toks:=t'}:=I.un (Un.laid k hp (I.hok.fresh hp)) (I.hok.laid k hp new)
theorem ag.write{x e:UH}{o:HO}{t':Nat}(I:ag X Wt σ H s)(mu:qT (H x))(he:e=x\/H e=some (.own x))(k:∀b u,b≠e->s.heap.get? b=some u->h'.get? b=some u)(heo:∃u,h'.get? e=some u)
 (new:bE X.prog X.w (ak H x o) h' x o):ag X Wt σ (ak H x o) {s with heap:=h',toks:=t'}:=I.un (Un.write mu he k heo) (I.hok.write mu he k heo new)
theorem ag.weak{σ':List (Option V)}(I:ag X Wt σ H s)(hl:σ'.length=σ.length)(w:∀(i:Nat) v,σ'[i]?=some (some v)->σ[i]?=some (some v)):ag X Wt σ' H s:=
 ⟨I.ok,I.os,I.bare,I.base,let ⟨m,hn,hl'⟩:=I.loc;⟨m,hn,λi x v e1 e2 e3=>hl' i x v e1 (w i v e2) e3⟩,I.cell,I.free,I.freeC,I.pin,I.hok,hl.trans I.len⟩
theorem ag.pins_of{pins':List (UH×Obj)}(I:ag X Wt σ H s)(h:∀p∈pins',s.heap.get? p.1=some p.2/\H p.1=none/\p.1≠X.env.locals/\p.1 ∉ X.fs/\∀v,p.2.data≠ .cell v):ag X pins' σ H s:=
 ⟨I.ok,I.os,I.bare,I.base,I.loc,I.cell,I.free,I.freeC,λp hp=>(P4.mp hp).elim (λz=>I.pin p (SQ _ z)) (h p),I.hok,I.len⟩
theorem uS{N:List Str}(hN:N.Nodup){i j:Nat}{x:Str}(a:N[i]?=some x)(b:N[j]?=some x):i=j:=by
 obtain⟨h1,e1⟩:=OT.mp a;obtain⟨h2,e2⟩:=OT.mp b;exact(List.getElem_inj hN).mp (e1.trans e2.symm)
theorem Fv{M:VU}{A:UX}{E:UE->UI->Prop}{i:Nat}{x:Str}{v:V}{u:UE}{Q:Unit->UI->Prop}(I:ag X Wt σ H s)(hN:X.N.Nodup)(hi:X.N[i]?=some x)(hx:oT X.env.scope x)(r:aD v u)
 (h:∀s',ag X Wt (σ.set i (some v)) H s'->(∃a,Qu a s.heap s'.heap/\(a=X.env.locals\/X.env.cells.lookup x=some a))->Q () s')(hf:X.fn x=true\/X.env.scope.names.lookup x=some .local:=by first | exact .inl rfl | exact .inr rfl | assumption):UK M A (storeName X.env x u) Q E s:=by
 obtain⟨m,hn,hl⟩:=id I.loc;have hcls:(X.env.scope.kind== .class || (X.env.scope.kind== .module && X.env.locals !=X.env.globals))=false:=by rw [I.ok.kind];rfl
 have hiσ:i < σ.length:=by rw [I.len];exact(OT.mp hi).1
 have cne:=I.cne;have tracked:∀{a:UH}{h':UR},(∃o,s.heap.get? a=some o/\H a=none)->Qu a s.heap h'->bI X.prog X.w H h':=λ{a h'} ha hs b ob e=>by
  obtain⟨_,_,hfree⟩:=ha;refine(I.hok b ob e).stay (λc w' hc q=>(hs.2 c ?_).trans q) (λ_ q=>q) (λ_ _ q=>q) λ_ _ q=>q;rintro rfl;rcases hc with rfl | hc
  ·rw [hfree] at e;cases e
  ·rw [hfree] at hc;cases hc
 rcases hx with hk | hk
 ·refine wpAny_storeName_local hk hn (λh' hn' hs=>?_) hcls;obtain⟨oL,_,_,hoL,_⟩:=id hn;refine h _ ⟨I.ok,I.os,I.bare,⟨λb o e n hb hx=>?_,λb o e n hb hx=>?_,I.base.free,λb o e hx=>?_,I.base.tups,I.base.frzs,I.base.tbls⟩,⟨_,hn',λj y v' e1 e2 e3=>?_⟩,λy c e=>?_,I.free,I.freeC,λp hp=>?_,tracked ⟨oL,hoL,I.free⟩ hs,by simpa using I.len⟩ ⟨_,hs,.inl rfl⟩
  ·exact(hs.2 b (OF (OW (NV e) I.ok.above))).trans (I.base.keep b o e n hb hx)
  ·obtain⟨sl,e1⟩:=I.base.slot b o e n hb hx;exact⟨sl,(hs.2 b (OF (OW (NV e) I.ok.above))).trans e1⟩
  ·obtain⟨o',e1⟩:=I.base.there b o e hx;exact⟨o',(hs.2 b (OF (OW (NV e) I.ok.above))).trans e1⟩
  ·by_cases hj:j=i
   ·subst hj;rw [hi] at e1;cases e1;rw [Pd hiσ] at e2;cases e2;exact⟨u,r,.inl ⟨hk,UC⟩⟩
   ·rw [OZ (Ne.symm hj)] at e2;obtain⟨u',r',q⟩:=hl j y v' e1 e2 e3;refine⟨u',r',?_⟩;rcases q with⟨k,e⟩ | ⟨k,c,e,z⟩
    ·refine .inl ⟨k,?_⟩;have:y≠x:=λe=>hj (uS hN e1 (e▸hi));simp [this,e]
    ·exact .inr ⟨k,c,e,z.sameBut hs (cne y c e)⟩
  ·obtain⟨w',z⟩:=I.cell y c e;exact⟨w',z.sameBut hs (cne y c e)⟩
  ·obtain⟨e,n,ne,nf,d⟩:=I.pin p hp;exact⟨(hs.2 p.1 ne).trans e,n,ne,nf,d⟩
 ·have hfn:X.fn x=true:=by
   rcases hf with z | z
   ·exact z
   ·rw [z] at hk;cases hk
  obtain⟨c,hc⟩:=I.ok.has x (.inl hk);obtain⟨w',z⟩:=I.cell x c hc;refine wpAny_storeName_cell I.ok.kind hk hc z (λh' hc' hs=>?_);obtain⟨oc,hoc,hocd⟩:=id z;refine h {s with heap:=h'} ⟨I.ok,I.os,I.bare,⟨λb o e n hb hx=>?_,λb o e n hb hx=>?_,I.base.free,λb o e hx=>?_,I.base.tups,I.base.frzs,I.base.tbls⟩,⟨m,hn.sameBut hs (Ne.symm (cne x c hc)),λj y v' e1 e2 e3=>?_⟩,λy c' e=>?_,I.free,I.freeC,λp hp=>?_,tracked ⟨oc,hoc,I.freeC x c hc⟩ hs,by simpa using I.len⟩ ⟨c,hs,.inr hc⟩
  ·exact(hs.2 b (OF (OW (NV e) (I.ok.cab x c hfn hc)))).trans (I.base.keep b o e n hb hx)
  ·obtain⟨sl,e1⟩:=I.base.slot b o e n hb hx;exact⟨sl,(hs.2 b (OF (OW (NV e) (I.ok.cab x c hfn hc)))).trans e1⟩
  ·obtain⟨o',e1⟩:=I.base.there b o e hx;exact⟨o',(hs.2 b (OF (OW (NV e) (I.ok.cab x c hfn hc)))).trans e1⟩
  ·by_cases hj:j=i
   ·subst hj;rw [hi] at e1;cases e1;rw [Pd hiσ] at e2;cases e2;exact⟨u,r,.inr ⟨.inl hk,c,hc,hc'⟩⟩
   ·rw [OZ (Ne.symm hj)] at e2;obtain⟨u',r',q⟩:=hl j y v' e1 e2 e3;refine⟨u',r',?_⟩;rcases q with q | ⟨k,c',e,z'⟩
    ·exact .inl q
    ·refine .inr ⟨k,c',e,z'.sameBut hs ?_⟩;rintro rfl;exact hj (uS hN e1 (I.ok.inj _ _ _ e hc▸hi))
  ·by_cases hcc:c'=c
   ·subst hcc;exact⟨_,hc'⟩
   ·obtain⟨w2,z2⟩:=I.cell y c' e;exact⟨w2,z2.sameBut hs hcc⟩
  ·obtain⟨e,n,ne,nf,d⟩:=I.pin p hp;refine⟨(hs.2 p.1 ?_).trans e,n,ne,nf,d⟩;intro q;rw [q,hoc] at e;have q':oc=p.2:=Pg e;exact d w' (by rw [<-q'];exact hocd)
theorem oU{M:VU}{A:UX}{E:UE->UI->Prop}{i:Nat}{x:Str}{v:V}{u:UE}{Q:Unit->UI->Prop}(I:ag X Wt σ H s)(hN:X.N.Nodup)(hi:X.N[i]?=some x)(hx:oT X.env.scope x)(r:aD v u)
 (h:∀s',ag X Wt (σ.set i (some v)) H s'->Q () s')(hf:X.fn x=true\/X.env.scope.names.lookup x=some .local:=by first | exact .inl rfl | exact .inr rfl | assumption):UK M A (storeName X.env x u) Q E s:=
 Fv I hN hi hx r (λs' I' _=>h s' I') hf
theorem ag.call'{s':UI}{ch:List UH}(I:ag X Wt σ H s)(ho:s'.os=s.os)(u:Un (cf X.stack) ch H H' s.heap s'.heap)(hok:bI X.prog X.w H' s'.heap)(hg:VT s'.gens)
 (hch:∀b∈ch,(b∈X.ex\/X.s₀.heap.objs.size<=b)/\b≠X.env.locals/\(∀x c,X.env.cells.lookup x=some c->c≠b)/\∀p∈X.pn++Wt,p.1≠b):ag X Wt σ H' s':=by
 obtain⟨h',g',d',t',o'⟩:=s';have e:o'=s.os:=ho;subst e;exact I.call (g':=g') (t':=t') (d':=d') u hok hg hch
end
abbrev XK:=UE->Option UH->Hp->Prop
abbrev St:=List (Option V)
abbrev VK:=V->Hp->Prop
abbrev TE:=St->Hp->VK->Prop
abbrev TT:=St->Hp->(Bool->Hp->Prop)->Prop
abbrev TA:=St->Hp->(List V->Hp->Prop)->Prop
structure oh where
 nx:St->Hp->Prop
 rt:VK
 bk:St->Hp->Prop:=λ_ _=>False
 ct:St->Hp->Prop:=λ_ _=>False
abbrev TS:=oh->St->Hp->Prop
inductive EP (X:Cx) (Wt:List (UH×Obj)) (σ:St) (Q:VK) (u:UE) (s':UI):Prop
 | mk (v:V) (H':Hp):ag X Wt σ H' s'->aD v u->Q v H'->EP X Wt σ Q u s'
inductive TP (X:Cx) (Wt:List (UH×Obj)) (σ:St) (Q:Bool->Hp->Prop) (b:Bool) (s':UI):Prop
 | mk (H':Hp):ag X Wt σ H' s'->Q b H'->TP X Wt σ Q b s'
inductive AP (X:Cx) (Wt:List (UH×Obj)) (σ:St) (Q:List V->Hp->Prop) (us:List UE) (s':UI):Prop
 | mk (vs:List V) (H':Hp):ag X Wt σ H' s'->aG vs us->Q vs H'->AP X Wt σ Q us s'
def SP(X:Cx)(Wt:List (UH×Obj))(D:oh)(f:Flow)(s':UI):Prop:=
 match f with
 | .next=>∃σ' H',ag X Wt σ' H' s'/\D.nx σ' H'
 | .brk=>∃σ' H',ag X Wt σ' H' s'/\D.bk σ' H'
 | .cont=>∃σ' H',ag X Wt σ' H' s'/\D.ct σ' H'
 | .ret u=>∃v σ' H',ag X Wt σ' H' s'/\aD v u/\D.rt v H'
def PE(X:Cx)(e:UO)(t:TE):Prop:=
 ∀(Wt:List (UH×Obj))(s:UI)(σ:St)(H:Hp)(Q:VK),ag X Wt σ H s->t σ H Q->UK (UL X.prog X.w) X.A (eval e X.env) (EP X Wt σ Q) X.xe s
def PT(X:Cx)(e:UO)(t:TT):Prop:=
 ∀(Wt:List (UH×Obj))(s:UI)(σ:St)(H:Hp)(Q:Bool->Hp->Prop),ag X Wt σ H s->t σ H Q->UK (UL X.prog X.w) X.A (isTrue e X.env (eval e X.env)) (TP X Wt σ Q) X.xe s
def PW(X:Cx)(e:UO)(t:TT):Prop:=
 ∀(whole:Sem UE)(Wt:List (UH×Obj))(s:UI)(σ:St)(H:Hp)(Q:Bool->Hp->Prop),ag X Wt σ H s->t σ H Q->UK (UL X.prog X.w) X.A (isTrue e X.env whole) (TP X Wt σ Q) X.xe s
theorem PW.pt{X:Cx}{e:UO}{t:TT}(h:PW X e t):PT X e t:=h _
def PA(X:Cx)(es:List UO)(t:TA):Prop:=
 ∀(pos:Pos)(Wt:List (UH×Obj))(s:UI)(σ:St)(H:Hp)(Q:List V->Hp->Prop),ag X Wt σ H s->t σ H Q->UK (UL X.prog X.w) X.A (spliced (U3 pos (UM es X.env))) (AP X Wt σ Q) X.xe s
def PS(X:Cx)(st:UW)(t:TS):Prop:=
 ∀(Wt:List (UH×Obj))(s:UI)(σ:St)(H:Hp)(D:oh),ag X Wt σ H s->t D σ H->UK (UL X.prog X.w) X.A (exec st X.env) (SP X Wt D) X.xe s
def bJ(X:Cx)(st:List UW)(t:TS):Prop:=
 ∀(Wt:List (UH×Obj))(s:UI)(σ:St)(H:Hp)(D:oh),ag X Wt σ H s->t D σ H->UK (UL X.prog X.w) X.A (execs st X.env) (SP X Wt D) X.xe s
theorem ax{α:Type}{t:Sem α}{Q Q':α->UI->Prop}{M:VU}{A:UX}{E:UE->UI->Prop}{s:UI}(h:UK M A t Q E s)(hQ:∀a s,Q a s->Q' a s):UK M A t Q' E s:=U2 h hQ λ_ _ x=>x
section
variable {X:Cx}
theorem NB{a b:UO}{ta tb:TE}(ha:PE X a ta)(hb:PE X b tb){Wt:List (UH×Obj)}{s:UI}{σ:St}{H:Hp}{R:V->V->Hp->Prop}(I:ag X Wt σ H s)(h:ta σ H λx H1=>tb σ H1 λy H2=>R x y H2)
 {α:Type}{Q:α->UI->Prop}{f:UE->UE->Sem α}
 (hf:∀v u s2 x y H2,ag X Wt σ H2 s2->aD x v->aD y u->R x y H2->UK (UL X.prog X.w) X.A (f v u) Q X.xe s2):
 UK (UL X.prog X.w) X.A (eval a X.env) (λv s₁=>UK (UL X.prog X.w) X.A (eval b X.env) (λu s₂=>UK (UL X.prog X.w) X.A (f v u) Q X.xe s₂) X.xe s₁) X.xe s:=by
 refine ax (ha Wt s σ H _ I h) λv s1 ⟨x,H1,I1,r1,q1⟩=>?_;refine ax (hb Wt s1 σ H1 _ I1 q1) λu s2 ⟨y,H2,I2,r2,q2⟩=>?_;exact hf v u s2 x y H2 I2 r1 r2 q2
def nI(i:Nat):TE:=λσ H Q=>∃v,σ[i]?=some (some v)/\Q v H
def tC(v:V):TE:=λ_ H Q=>Q v H
theorem oV{i:Nat}{x:Str}{pos:Pos}(hN:X.N[i]?=some x)(hv:qU X.env.scope x)(hd:(x==("__debug__":Str))=false:=by decide)(hcd:(x==("__classdict__":Str))=false:=by decide):PE X (.Name x pos) (nI i):=by
 intro Wt s σ H Q I h;obtain⟨v,e,h⟩:=h;obtain⟨m,hn,hl⟩:=I.loc;obtain⟨u,r,l⟩:=hl i x v hN e hv;have fin:EP X Wt σ Q u s:=⟨v,H,I,r,h⟩;rcases l with⟨hk,hm⟩ | ⟨hk,c,hc,hcell⟩
 ·exact wpAny_Name (wpAny_loadName_local I.ok.kind hk hn hm fin) hd
 ·rcases hk with hk | hk
  ·exact wpAny_Name (wpAny_loadName_cell I.ok.kind hk hc hcell fin) hd
  ·exact wpAny_Name (wpAny_loadName_free I.ok.kind hk hc hcell fin hcd) hd
theorem cg{i j pos}:PE X (.Constant (.int i) j pos) (tC (.int i)):=λ_ _ _ H _ I h=>wpAny_Constant_int ⟨.int i,H,I.tok _,⟨_,rfl⟩,h⟩
theorem uT{b j pos}:PE X (.Constant (.bool b) j pos) (tC (.bl b)):=λ_ _ _ H _ I h=>Constant_bool ⟨.bl b,H,I,rfl,h⟩
theorem oW{j pos}:PE X (.Constant .none j pos) (tC .non):=λ_ _ _ H _ I h=>Constant_none ⟨.non,H,I,rfl,h⟩
theorem uU{x j pos}:PE X (.Constant (.str x) j pos) (tC (.str x)):=λ_ _ _ H _ I h=>Calls.Constant_str ⟨.str x,H,I.tok _,⟨_,rfl⟩,h⟩
def Gl(X:Cx)(x:Str):Prop:=X.env.kindOf x=some .globalImplicit
theorem oj{E:UE->UI->Prop}{Wt:List (UH×Obj)}{s:UI}{σ:St}{H:Hp}{x:Str}{u:UE}{pos:Pos}{Q:UE->UI->Prop}(I:ag X Wt σ H s)(hg:Gl X x)(hm:X.mg x=some u)(h:Q u s)
 (hd:(x==("__debug__":Str))=false:=by decide):UK (UL X.prog X.w) X.A (eval (.Name x pos) X.env) Q E s:=
 RW I.ok.kind hg (Calls.loadGlobal_global (by rw [I.ok.glob];exact I.mod.glob.keeps I.bk) hm h) hd
theorem p5{E:UE->UI->Prop}{Wt:List (UH×Obj)}{s:UI}{σ:St}{H:Hp}{x:Str}{u:UE}{pos:Pos}{Q:UE->UI->Prop}(I:ag X Wt σ H s)(hg:Gl X x)(hm:X.mg x=none)(hv:U0 x=some u)(h:Q u s)
 (hn:x≠"__name__":=by decide)(hd:(x==("__debug__":Str))=false:=by decide):UK (UL X.prog X.w) X.A (eval (.Name x pos) X.env) Q E s:=by
 obtain⟨mb,h1,h2⟩:=I.mod.blt;exact RW I.ok.kind hg (Calls.loadGlobal_builtin (by rw [I.ok.glob];exact I.mod.glob.keeps I.bk) hm (by rw [I.ok.blt];exact h1.keeps I.bk) ((h2 x hn).trans hv) h) hd
theorem jX{x:Str}{v:V}{u:UE}{pos:Pos}(hg:Gl X x)(hm:X.mg x=some u)(r:aD v u)(hd:(x==("__debug__":Str))=false:=by decide):PE X (.Name x pos) (tC v):=
 λ_ _ _ H _ I h=>oj I hg hm ⟨v,H,I,r,h⟩ hd
theorem lI{x:Str}{v:V}{u:UE}{pos:Pos}(hg:Gl X x)(hm:X.mg x=none)(hv:U0 x=some u)(r:aD v u)(hn:x≠"__name__":=by decide)(hd:(x==("__debug__":Str))=false:=by decide):PE X (.Name x pos) (tC v):=
 λ_ _ _ H _ I h=>p5 I hg hm hv ⟨v,H,I,r,h⟩ hn hd
variable {a b:UO} {ta tb:TE} {pos:Pos}
def PC(X:Cx)(op:CmpOp)(a b:UO)(t:TE):Prop:=
 ∀(Wt:List (UH×Obj))(s:UI)(σ:St)(H:Hp)(Q:VK),ag X Wt σ H s->t σ H Q->
  UK (UL X.prog X.w) X.A (eval a X.env) (λv s₁=>UK (UL X.prog X.w) X.A (eval b X.env) (λu s₂=>UK (UL X.prog X.w) X.A (UY op v u) (EP X Wt σ Q) X.xe s₂) X.xe s₁) X.xe s
theorem Fw(b:UO){op:CmpOp}(h:op≠ .In)(h2:op≠ .NotIn):Vg op b=false:=by
 have e1:(op==CmpOp.In)=false:=by cases op <;> first | rfl | exact absurd rfl h
 have e2:(op==Um)=false:=by cases op <;> first | rfl | exact absurd rfl h2
 cases b <;> simp [Vg,e1,e2]
def tB(t:TE):TT:=λσ H Q=>t σ H λx H1=>∃c,x= .bl c/\Q c H1
theorem NC{op:CmpOp}{t:TE}(h:PC X op a b t)(h1:Vg op b=false:=by first | exact Fw _ Ce Ce | rfl):PT X (.Compare a [op] [b] pos) (tB t):=by
 intro Wt s σ H Q I hw;refine wpAny_isTrue_Compare1 (ax (h Wt s σ H _ I hw) λv s1 h1=>ax h1 λu s2 h2=>ax h2 λc s3 ⟨x,H1,I1,r1,q1⟩=>?_) h1;obtain⟨d,rfl,q⟩:=q1;cases r1;exact U5 ⟨H1,I1,q⟩
theorem p6{e:UO}{t:TE}(h:PE X e t)(he:∀whole,isTrue e X.env whole=(do let v<-whole;standAt e.pos;holding [v] (truthy v)):=by intro _;rfl):PT X e (tB t):=by
 intro Wt s σ H Q I hw;refine isTrue_plain (ax (h Wt s σ H _ I hw) λv s1 ⟨x,H1,I1,r1,q1⟩=>?_) (he _);obtain⟨d,rfl,q⟩:=q1;cases r1;exact U5 ⟨H1,I1,q⟩
variable {tA tB':TT} {rest:List UO}
def uV(t u:TT):TT:=λσ H Q=>t σ H λc H1=>if c=true then u σ H1 Q else Q false H1
def uW(t u:TT):TT:=λσ H Q=>t σ H λc H1=>if c=true then Q true H1 else u σ H1 Q
def uX(t:TT):TT:=λσ H Q=>t σ H λc H1=>Q (!c) H1
theorem A0(ha:PT X a tA):PW X (.BoolOp .And [a] pos) tA:=by
 intro wh Wt s σ H Q I h;refine isTrue_and (ax (ha Wt s σ H Q I h) λc s1 e=>?_);cases c with
 | true=>exact isTrue_and_nil e
 | false=>exact e
theorem A1(ha:PT X a tA):PW X (.BoolOp .Or [a] pos) tA:=by
 intro wh Wt s σ H Q I h;refine isTrue_or (ax (ha Wt s σ H Q I h) λc s1 e=>?_);cases c with
 | false=>exact isTrue_or_nil e
 | true=>exact e
theorem A2(ha:PT X a tA)(hb:PW X (.BoolOp .And (b::rest) pos) tB'):PW X (.BoolOp .And (a::b::rest) pos) (uV tA tB'):=by
 intro wh Wt s σ H Q I h;refine isTrue_and (ax (ha Wt s σ H _ I h) λc s1 ⟨H1,I1,q1⟩=>?_);cases c with
 | true=>exact hb wh Wt s1 σ H1 Q I1 q1
 | false=>exact⟨H1,I1,q1⟩
theorem uY(ha:PT X a tA)(hb:PW X (.BoolOp .Or (b::rest) pos) tB'):PW X (.BoolOp .Or (a::b::rest) pos) (uW tA tB'):=by
 intro wh Wt s σ H Q I h;refine isTrue_or (ax (ha Wt s σ H _ I h) λc s1 ⟨H1,I1,q1⟩=>?_);cases c with
 | true=>exact⟨H1,I1,q1⟩
 | false=>exact hb wh Wt s1 σ H1 Q I1 q1
theorem uZ(ha:PT X a tA):PT X (.UnaryOp .Not a pos) (uX tA):=by
 intro Wt s σ H Q I h;exact isTrue_not (ax (ha Wt s σ H (λc H1=>Q (!c) H1) I h) λc s1 uu8=>by obtain⟨H1,I1,q⟩:=uu8;exact⟨H1,I1,q⟩)
def va(ta tb:TE):TE:=λσ H Q=>ta σ H λx H1=>∃c,x= .bl c/\if c=true then tb σ H1 Q else Q (.bl false) H1
def vb(ta tb:TE):TE:=λσ H Q=>ta σ H λx H1=>∃c,x= .bl c/\if c=true then Q (.bl true) H1 else tb σ H1 Q
def vc(ta:TE):TE:=λσ H Q=>ta σ H λx H1=>∃c,x= .bl c/\Q (.bl (!c)) H1
theorem qV{op}{t:TE}(h:PE X a t):PE X (.BoolOp op [a] pos) t:=λWt s σ H Q I hw=>BoolOp_one (h Wt s σ H Q I hw)
theorem qW(ha:PE X a ta)(hb:PE X (.BoolOp .And (b::rest) pos) tb):PE X (.BoolOp .And (a::b::rest) pos) (va ta tb):=by
 intro Wt s σ H Q I h;refine BoolOp_and (ax (ha Wt s σ H _ I h) λv s1 ⟨x,H1,I1,r1,q1⟩=>?_);obtain⟨c,rfl,q1⟩:=q1;cases r1;refine U5 ?_;cases c with
 | true=>exact hb Wt s1 σ H1 Q I1 q1
 | false=>exact⟨.bl false,H1,I1,rfl,q1⟩
theorem Fx(ha:PE X a ta)(hb:PE X (.BoolOp .Or (b::rest) pos) tb):PE X (.BoolOp .Or (a::b::rest) pos) (vb ta tb):=by
 intro Wt s σ H Q I h;refine BoolOp_or (ax (ha Wt s σ H _ I h) λv s1 ⟨x,H1,I1,r1,q1⟩=>?_);obtain⟨c,rfl,q1⟩:=q1;cases r1;refine U5 ?_;cases c with
 | false=>exact hb Wt s1 σ H1 Q I1 q1
 | true=>exact⟨.bl true,H1,I1,rfl,q1⟩
theorem A3(ha:PE X a ta):PE X (.UnaryOp .Not a pos) (vc ta):=by
 intro Wt s σ H Q I h;refine UnaryOp_ (ax (ha Wt s σ H _ I h) λv s1 ⟨x,H1,I1,r1,q1⟩=>?_);obtain⟨c,rfl,q1⟩:=q1;cases r1;exact not_of (U5 ⟨.bl (!c),H1,I1,rfl,q1⟩)
def vd(t:TT)(ta tb:TE):TE:=λσ H Q=>t σ H λc H1=>if c=true then ta σ H1 Q else tb σ H1 Q
theorem Fy{c:UO}(hc:PT X c tA)(ha:PE X a ta)(hb:PE X b tb):PE X (.IfExp c a b pos) (vd tA ta tb):=by
 intro Wt s σ H Q I h;refine wpAny_IfExp (ax (hc Wt s σ H _ I h) λd s1 ⟨H1,I1,q1⟩=>?_);cases d with
 | true=>exact ha Wt s1 σ H1 Q I1 q1
 | false=>exact hb Wt s1 σ H1 Q I1 q1
end
def bj(K:NG)(H:Hp)(a:UH)(xs:List V):Prop:=
 Rd H a (.lst xs)\/
  ∃(o:Obj)(its:Array UE)(n:Nat),K.lookup a=some o/\o.cls= .type "list"/\o.dict=none/\o.data= .seq its n/\its.size<=UN/\aG xs its.toList
def aX(K:NG)(H:Hp)(a:UH)(xs:List V):Prop:=
 Rd H a (.tup xs)\/
  ∃(o:Obj)(its:Array UE)(n:Nat),K.lookup a=some o/\o.cls= .type "tuple"/\o.data= .seq its n/\its.size<=UN/\aG xs its.toList
def Fz:UE->Option V
 | .none=>some .non
 | .bool b=>some (.bl b)
 | .int i _=>some (.int i)
 | .str x _=>some (.str x)
 | .bytes b _=>some (.byt b)
 | .float b _=>some (.flt b)
 | .ref a=>some (.ref a)
 | .type n=>some (.ty n)
 | _=>none
theorem aD.abs{x:V}{u:UE}(r:aD x u):Fz u=some x:=by
 cases x with
 | non=>cases r;rfl
 | bl _=>cases r;rfl
 | int _=>obtain⟨t,rfl⟩:=r;rfl
 | str _=>obtain⟨t,rfl⟩:=r;rfl
 | byt _=>obtain⟨t,rfl⟩:=r;rfl
 | flt _=>obtain⟨t,rfl⟩:=r;rfl
 | ref _=>cases r;rfl
 | ty _=>cases r;rfl
theorem aD.inj{x y:V}{u:UE}(r:aD x u)(q:aD y u):x=y:=Pg (r.abs.symm.trans q.abs)
theorem aG.inj:∀{xs ys:List V}{us:List UE},aG xs us->aG ys us->xs=ys
 | _,_,_,.nil,.nil=>rfl
 | _,_,_,.cons r t,.cons r' t'=>by rw [r.inj r',aG.inj t t']
section
variable {X:Cx} {Wt:List (UH×Obj)} {σ:St} {H:Hp} {s:UI} {a:UH} {xs ys:List V}
theorem bj.of{K:NG}(h:H a=some (.lst xs)):bj K H a xs:= .inl (.inl h)
theorem aX.of{K:NG}(h:H a=some (.tup xs)):aX K H a xs:= .inl (.inl h)
theorem ag.list(I:ag X Wt σ H s)(h:bj X.K H a xs):∃its:List UE,aG xs its/\PlainL s.heap a its.toArray/\xs.length<=UN:=by
 rcases h with h | ⟨o,its,n,hk,hc,hd,hs,hz,r⟩
 ·obtain⟨z,its,n,r,e⟩:=h.ok I.hok;exact⟨its,r,⟨_,n,e,rfl,rfl,rfl⟩,z⟩
 ·refine⟨its.toList,r,⟨o,n,I.kIn a o hk,hc,hd,by simpa using hs⟩,?_⟩;have e:=r.length;simp only [NY] at e;omega
theorem ag.tuple(I:ag X Wt σ H s)(h:aX X.K H a xs):∃its:List UE,aG xs its/\IsTup s.heap a its.toArray/\xs.length<=UN:=by
 rcases h with h | ⟨o,its,n,hk,hc,hs,hz,r⟩
 ·obtain⟨z,its,r,p⟩:=h.ok I.hok;exact⟨its,r,p,z⟩
 ·refine⟨its.toList,r,⟨o,I.kIn a o hk,hc,n,by simpa using hs⟩,?_⟩;have e:=r.length;simp only [NY] at e;omega
theorem ag.list_inj(I:ag X Wt σ H s)(h:bj X.K H a xs)(h':bj X.K H a ys):xs=ys:=by
 obtain⟨its,r,⟨o,n,e,_,_,d⟩,_⟩:=I.list h;obtain⟨its',r',⟨o',n',e',_,_,d'⟩,_⟩:=I.list h';rw [e] at e';cases e';rw [d] at d';injection d' with d1 _
 have:its=its':=by simpa using congrArg Ud d1
 subst this;exact r.inj r'
theorem ag.tuple_inj(I:ag X Wt σ H s)(h:aX X.K H a xs)(h':aX X.K H a ys):xs=ys:=by
 obtain⟨its,r,⟨o,e,_,n,d⟩,_⟩:=I.tuple h;obtain⟨its',r',⟨o',e',_,n',d'⟩,_⟩:=I.tuple h';rw [e] at e';cases e';rw [d] at d';injection d' with d1 _
 have:its=its':=by simpa using congrArg Ud d1
 subst this;exact r.inj r'
end
abbrev Cx.wish(X:Cx)(E:UE->UI->Prop):Cx:={X with xe:=E}
abbrev Cx.nox(X:Cx):Cx:=X.wish λ_ _=>False
theorem Cx.Ok.wish{X:Cx}(ok:X.Ok)(E:UE->UI->Prop):(X.wish E).Ok:=
 ⟨ok.mod,ok.kind,ok.glob,ok.blt,ok.above,ok.inj,ok.has,ok.cab,ok.hd,ok.frames,ok.stk,ok.exf,ok.bs,ok.bsz,ok.noex,ok.exfs,ok.funs,ok.frf⟩
theorem Cx.Ok.unwish{X:Cx}{E:UE->UI->Prop}(ok:(X.wish E).Ok):X.Ok:=
 ⟨ok.mod,ok.kind,ok.glob,ok.blt,ok.above,ok.inj,ok.has,ok.cab,ok.hd,ok.frames,ok.stk,ok.exf,ok.bs,ok.bsz,ok.noex,ok.exfs,ok.funs,ok.frf⟩
section
variable {X:Cx} {Wt:List (UH×Obj)} {σ:St} {H:Hp} {s:UI} {E:UE->UI->Prop}
theorem ag.wish(I:ag X Wt σ H s)(E:UE->UI->Prop):ag (X.wish E) Wt σ H s:=⟨I.ok.wish E,I.os,I.bare,I.base,I.loc,I.cell,I.free,I.freeC,I.pin,I.hok,I.len⟩
theorem ag.unwish(I:ag (X.wish E) Wt σ H s):ag X Wt σ H s:=⟨I.ok.unwish,I.os,I.bare,I.base,I.loc,I.cell,I.free,I.freeC,I.pin,I.hok,I.len⟩
theorem SP.unwish{D:oh}{f:Flow}{s':UI}(h:SP (X.wish E) Wt D f s'):SP X Wt D f s':=by
 cases f with
 | next=>obtain⟨σ',H',I,q⟩:=h;exact⟨σ',H',I.unwish,q⟩
 | brk=>obtain⟨σ',H',I,q⟩:=h;exact⟨σ',H',I.unwish,q⟩
 | cont=>obtain⟨σ',H',I,q⟩:=h;exact⟨σ',H',I.unwish,q⟩
 | ret u=>obtain⟨v,σ',H',I,r,q⟩:=h;exact⟨v,σ',H',I.unwish,r,q⟩
theorem bJ.nox{st:List UW}{t:TS}(h:bJ X.nox st t):bJ X st t:=λWt s σ H D I hw=>
 U2 (h Wt s σ H D (I.wish _) hw) (λ_ _ q=>q.unwish) λ_ _ z=>Pw z
end
section
variable {X:Cx} {st:UW} {rest:List UW} {t u:TS} {e:UO} {te:TE} {pos:Pos}
def ve:TS:=λD σ H=>D.nx σ H
def sH(t u:TS):TS:=λD σ H=>t {D with nx:=u D} σ H
theorem om:bJ X [] ve:=λ_ _ σ H _ I h=>VF ⟨σ,H,I,h⟩
theorem kF(h1:PS X st t)(h2:bJ X rest u):bJ X (st::rest) (sH t u):=by
 intro Wt s σ H D I h;refine V1 (ax (h1 Wt s σ H {D with nx:=u D} I h) λf s1 q=>?_);cases f with
 | next=>
  obtain⟨σ',H',I',q⟩:=q;exact h2 Wt s1 σ' H' D I' q
 | ret v=>exact q
 | brk=>exact q
 | cont=>exact q
theorem kh(h1:PS X st t):bJ X [st] t:=by
 intro Wt s σ H D I h;refine V1 (ax (h1 Wt s σ H D I h) λf s1 q=>?_);cases f with
 | next=>exact VF q
 | ret v=>exact q
 | brk=>exact q
 | cont=>exact q
theorem ag.quiet{Wt:List (UH×Obj)}{σ:St}{H:Hp}{s:UI}(I:ag X Wt σ H s):interactive X.env=false:=by simp [interactive,I.ok.kind]
def vf(te:TE):TS:=λD σ H=>te σ H λ_ H1=>D.nx σ H1
theorem FA(he:PE X e te)(hs:Ve e none pos.line X.env=pure false:=by rfl):PS X (.Expr e pos) (vf te):=by
 intro Wt s σ H D I h;exact wpAny_Expr_any (ax (he Wt s σ H _ I h) λv s1 uu13=>by obtain⟨x,H1,I1,r1,q1⟩:=uu13;exact⟨σ,H1,I1,q1⟩) I.quiet hs
def vg(te:TE):TS:=λD σ H=>te σ H D.rt
theorem kG(he:PE X e te):PS X (.Return (some e) pos) (vg te):=by
 intro Wt s σ H D I h;exact wpAny_Return_some (ax (he Wt s σ H _ I h) λv s1 uu14=>by obtain⟨x,H1,I1,r1,q1⟩:=uu14;exact⟨x,σ,H1,I1,r1,q1⟩)
def vh(c:TT)(t u:TS):TS:=λD σ H=>c σ H λb H1=>if b=true then t D σ H1 else u D σ H1
theorem oo{c:UO}{a b:List UW}{tc:TT}(hc:PT X c tc)(ha:bJ X a t)(hb:bJ X b u):PS X (.If c a b pos) (vh tc t u):=by
 intro Wt s σ H D I h;refine wpAny_If (ax (hc Wt s σ H _ I h) λd s1 ⟨H1,I1,q1⟩=>?_);cases d with
 | true=>exact ha Wt s1 σ H1 D I1 q1
 | false=>exact hb Wt s1 σ H1 D I1 q1
end
abbrev TG:=V->St->Hp->(St->Hp->Prop)->Prop
abbrev l6:=List V->St->Hp->(St->Hp->Prop)->Prop
def PG(X:Cx)(target:UO)(t:TG):Prop:=
 ∀(Wt:List (UH×Obj))(s:UI)(σ:St)(H:Hp)(v:V)(u:UE)(Q:St->Hp->Prop),ag X Wt σ H s->aD v u->t v σ H Q->
  UK (UL X.prog X.w) X.A (assign target X.env u) (λ_ s'=>∃σ' H',ag X Wt σ' H' s'/\Q σ' H') X.xe s
def qX(X:Cx)(ts:List UO)(t:l6):Prop:=
 ∀(Wt:List (UH×Obj))(s:UI)(σ:St)(H:Hp)(vs:List V)(us:List UE)(Q:St->Hp->Prop),ag X Wt σ H s->aG vs us->t vs σ H Q->
  UK (UL X.prog X.w) X.A (assignInOrder ((Vv ts X.env).map (·.2)) us) (λ_ s'=>∃σ' H',ag X Wt σ' H' s'/\Q σ' H') X.xe s
abbrev vi:=V->V->V->Hp->(Hp->Prop)->Prop
def A4(X:Cx)(t:vi):Prop:=
 ∀(Wt:List (UH×Obj))(s:UI)(σ:St)(H:Hp)(o i v:V)(ov iv u:UE)(Q:Hp->Prop),ag X Wt σ H s->aD o ov->aD i iv->aD v u->t o i v H Q->
  UK (UL X.prog X.w) X.A (setItem ov iv u) (λ_ s'=>∃H',ag X Wt σ H' s'/\Q H') X.xe s
section
variable {X:Cx} {pos:Pos}
def nJ(i:Nat):TG:=λv σ H Q=>Q (σ.set i (some v)) H
theorem jU{i:Nat}{x:Str}(hN:X.N.Nodup)(hi:X.N[i]?=some x)(hx:oT X.env.scope x)(hf:X.fn x=true\/X.env.scope.names.lookup x=some .local:=by first | exact .inl rfl | exact .inr rfl | assumption):PG X (.Name x pos) (nJ i):=by
 intro Wt s σ H v u Q I r h;exact wpAny_assign_Name (oU I hN hi hx r (λs' I'=>⟨_,H,I',h⟩) hf)
def qY:l6:=λvs σ H Q=>vs=[]/\Q σ H
def p7(t:TG)(u:l6):l6:=λvs σ H Q=>∃v r,vs=v::r/\t v σ H λσ' H'=>u r σ' H' Q
theorem sI:qX X [] qY:=by
 intro Wt s σ H vs us Q I r h;obtain⟨e,h⟩:=h;subst e;cases r;exact assignInOrder_nil ⟨σ,H,I,h⟩
theorem nK{e:UO}{es:List UO}{t:TG}{u:l6}(h1:PG X e t)(h2:qX X es u)
 (hs:(Vv (e::es) X.env).map (·.2)=assign e X.env::(Vv es X.env).map (·.2):=by rfl):qX X (e::es) (p7 t u):=by
 intro Wt s σ H vs us Q I r h;obtain⟨v,vr,e1,h⟩:=h;subst e1;cases r with
 | cons r rr=>
  rw [hs];refine Wg (ax (h1 Wt s σ H _ _ _ I r h) λ_ s1 ⟨σ1,H1,I1,q1⟩=>?_);exact h2 Wt s1 σ1 H1 _ _ Q I1 rr q1
def qZ(K:NG)(n:Nat)(t:l6):TG:=λv σ H Q=>∃a xs,v= .ref a/\aX K H a xs/\xs.length=n/\t xs σ H Q
theorem vj{es:List UO}{k:Nat}{t:l6}{n:Nat}(hc:X.calm=true)(h:qX X es t)
 (hn:(Vv es X.env).length=n:=by rfl)(hst:(Vv es X.env).findIdx? (·.1)=none:=by rfl):PG X (.Tuple es k pos) (qZ X.K n t):=by
 intro Wt s σ H v u Q I r hw;obtain⟨a,xs,e1,hq,hl,hw⟩:=hw;subst e1;cases r;obtain⟨its,rv,ht,hz⟩:=I.tuple hq;refine assign_Tuple_tuple (I.ok.hd hc) ht (by simp [hn,<-hl,rv.length]) hst λh' hx=>?_;have I1:ag X Wt σ H {s with heap:=h'}:=I.kept (t':=s.toks) λb o e=>hx b o (OF (NV e)) e;exact h Wt _ σ H xs _ Q I1 (by simpa using rv) hw
def vm(to ti:TE)(t:vi):TG:=λv σ H Q=>to σ H λo H1=>ti σ H1 λi H2=>t o i v H2 λH3=>Q σ H3
theorem FC{o i:UO}{to ti:TE}{t:vi}(ho:PE X o to)(hi:PE X i ti)(hs:A4 X t)
 (ha:∀v,assign (.Subscript o i pos) X.env v=(do
   let ov<-holding [v] (eval o X.env)
   let iv<-holding [v,ov] (eval i X.env)
   standAt pos
   holding [v,ov,iv] (setItem ov iv v)
   release [v,ov,iv] []):=by intro _;rfl):PG X (.Subscript o i pos) (vm to ti t):=by
 intro Wt s σ H v u Q I r h;rw [ha];refine UG (U8 (ax (ho Wt s σ H _ I h) λov s1 ⟨x,H1,I1,r1,q1⟩=>?_));refine UG (U8 (ax (hi Wt s1 σ H1 _ I1 q1) λiv s2 ⟨y,H2,I2,r2,q2⟩=>?_));refine UG (VM (UG (U8 (ax (hs Wt s2 σ H2 x y v ov iv u _ I2 r1 r2 r q2) λ_ s3 ⟨H3,I3,q3⟩=>?_))));exact wpAny_release ⟨σ,H3,I3,q3⟩
def sJ(te:TE)(g:TG):TS:=λD σ H=>te σ H λx H1=>g x σ H1 D.nx
theorem A5{tg e:UO}{te:TE}{g:TG}(he:PE X e te)(hg:PG X tg g)(hs:Wl [tg] e pos.line X.env=pure false:=by rfl)(hw:Wm [tg] e X.env=pure none:=by rfl)
 (h1:(Vv [tg] X.env).map (·.2)=[assign tg X.env]:=by rfl):PS X (.Assign [tg] e pos) (sJ te g):=by
 intro Wt s σ H D I h;refine wpAny_Assign_stores (ax (he Wt s σ H _ I h) λv s1 ⟨x,H1,I1,r1,q1⟩=>?_) hs hw;rw [h1];exact ax (hg Wt s1 σ H1 x v _ I1 r1 q1) λ_ s2 q=>q
theorem l7{i:Nat}{x:Str}{e:UO}{te:TE}{pos':Pos}(hN:X.N.Nodup)(hi:X.N[i]?=some x)(hx:oT X.env.scope x)(he:PE X e te)(hs:Ve e (some (.Name x pos')) pos.line X.env=pure false:=by rfl)(hf:X.fn x=true\/X.env.scope.names.lookup x=some .local:=by first | exact .inl rfl | exact .inr rfl | assumption):
 PS X (.Assign [.Name x pos'] e pos) (sJ te (nJ i)):=by
 intro Wt s σ H D I h;refine wpAny_Assign_Name (ax (he Wt s σ H _ I h) λv s1 ⟨y,H1,I1,r1,q1⟩=>?_) hs;exact oU I1 hN hi hx r1 (λs2 I2=>⟨_,H1,I2,q1⟩) hf
def vn(i j:Nat)(ta:TA):TS:=λD σ H=>ta σ H λvs H1=>∃v w,vs=[v,w]/\D.nx ((σ.set i (some v)).set j (some w)) H1
theorem FD{i j:Nat}{x y:Str}{a b:UO}{ta:TA}{px py pt:Pos}{kt k2 pt2}(hc:X.calm=true)(hN:X.N.Nodup)(hi:X.N[i]?=some x)(hj:X.N[j]?=some y)(hij:i≠j)
 (hx:X.env.scope.names.lookup x=some .local)(hy:X.env.scope.names.lookup y=some .local)(ha:PA X [a,b] ta)
 (hw:Wm [.Tuple [.Name x px,.Name y py] kt pt] (.Tuple [a,b] k2 pt2) X.env=pure (some [x,y]))
 (hs:Wl [.Tuple [.Name x px,.Name y py] kt pt] (.Tuple [a,b] k2 pt2) pos.line X.env=pure false:=by rfl):
 PS X (.Assign [.Tuple [.Name x px,.Name y py] kt pt] (.Tuple [a,b] k2 pt2) pos) (vn i j ta):=by
 intro Wt s σ H D I h;rw [exec_Assign_arm];refine UG (VM ?_);rw [hs];refine UG (UJ ?_);rw [Uz Ce];refine UG (Tuple_ (ax (ha _ Wt s σ H _ I h) λus s1 ⟨vs,H1,I1,r1,q1⟩=>?_));obtain⟨v,w,e1,q1⟩:=q1;subst e1;obtain⟨u1,u2,rfl,rv,rw'⟩:∃u1 u2,us=[u1,u2]/\aD v u1/\aD w u2:=by
  cases r1 with
  | cons p q=>
   cases q with
   | cons p' q'=>
    cases q';exact⟨_,_,rfl,p,p'⟩
 refine UZ ?_ (by show 2<=UN;decide);have I2:ag X Wt σ H1 {s1 with heap:=s1.heap.push {cls:= .type "tuple",data:= .seq [u1,u2].toArray}}:=I1.kept (t':=s1.toks) λb o e=>NJ _ e;rw [hw];refine UG (UJ ?_);show UK (UL X.prog X.w) X.A (do rule "assign.swapped-stores";let items<-unpackItems (.ref s1.heap.objs.size) 2 none;assignInOrder [λv=>bindName X.env y v,λv=>bindName X.env x v] items.reverse;pure Uw) _ _ _;refine UG (VJ (UG (unpackItems_tuple (items:=#[u1,u2]) (I.ok.hd hc) (S9 s1.heap _) λh' hx'=>?_)));have I3:=I2.kept (h':=h') (t':=s1.toks) λb o e=>hx' b o (OF (NV e)) e;show UK _ _ (assignInOrder [λv=>bindName X.env y v,λv=>bindName X.env x v] [u2,u1] >>=λ_=>pure Uw) _ _ _;refine UG (Wg (wpAny_bindName (oU I3 hN hj (.inl hy) rw' (λs2 I4=>?_) (.inr hy))));refine Wg (wpAny_bindName (oU I4 hN hi (.inl hx) rv (λs3 I5=>assignInOrder_nil (UJ ?_)) (.inr hx)));rw [List.set_comm _ _ (Ne.symm hij)] at I5;exact⟨_,H1,I5,q1⟩
def FF(c:TT)(tb:TS):TS:=λD σ H=>∃W:Nat->St->Hp->Prop,(∃m,W m σ H)/\∀m σ H,W m σ H->
 c σ H λb H1=>if b=true then ∃N:St->Hp->Prop,(∀σ' H',N σ' H'->∃m',m' < m/\W m' σ' H')/\tb {D with nx:=N,ct:=N,bk:=D.nx} σ H1 else D.nx σ H1
theorem A6{c:UO}{body:List UW}{tc:TT}{tb:TS}(hp:PassesOwn (UL X.prog X.w) X.A X.env X.xe)(hc:PT X c tc)(hb:bJ X body tb):PS X (.While c body [] pos) (FF tc tb):=by
 intro Wt s σ H D I h;obtain⟨W,⟨m0,w0⟩,turn⟩:=h;refine wpAny_While (codeAny_whileLoop (λn s'=>∃σ' H',ag X Wt σ' H' s'/\W n σ' H') ?_ m0 ⟨σ,H,I,w0⟩);rintro n s1 ⟨σ1,H1,I1,w1⟩;refine Vq hp (ax (hc Wt s1 σ1 H1 _ I1 (turn n σ1 H1 w1)) λb s2 ⟨H2,I2,q2⟩=>?_);cases b with
 | true=>
  obtain⟨N,hN,q2⟩:=q2;rw [UA rfl];refine Vq hp (ax (hb Wt s2 σ1 H2 _ I2 q2) λf s3 q3=>?_);cases f with
  | next=>
   obtain⟨σ3,H3,I3,n3⟩:=q3;obtain⟨m',hm,w3⟩:=hN σ3 H3 n3;exact⟨m',hm,σ3,H3,I3,w3⟩
  | cont=>
   obtain⟨σ3,H3,I3,n3⟩:=q3;obtain⟨m',hm,w3⟩:=hN σ3 H3 n3;exact⟨m',hm,σ3,H3,I3,w3⟩
  | brk=>exact q3
  | ret v=>exact q3
 | false=>
  rw [Uz Oq];exact VF ⟨σ1,H2,I2,q2⟩
end
structure It where
 go:Nat->Hp->Prop
 yld:Nat->Hp->V->Hp->Prop
 stop:Nat->Hp->Prop
def mn(X:Cx)(Wt:List (UH×Obj))(H:Hp)(b:UH):Prop:=
 H b=none/\b≠X.env.locals/\b ∉ X.fs/\(b∈X.ex\/X.s₀.heap.objs.size<=b)/\(∀x c,X.env.cells.lookup x=some c->c≠b)/\∀p∈X.pn++Wt,p.1≠b
theorem ag.fpOk{X:Cx}{Wt:List (UH×Obj)}{σ:St}{H H':Hp}{s:UI}{b:UH}(I:ag X Wt σ H s)(hb:s.heap.objs.size<=b)(hn:H' b=none):mn X Wt H' b:=by
 refine⟨hn,QZ (OW I.lt hb),I.nofs hb,.inr (Oz I.sz hb),λx c e z=>?_,λp hp z=>?_⟩
 ·obtain⟨v,q⟩:=I.cell x c e;exact absurd (OW q.lt (by rw [z];exact hb)) (Qp _)
 ·exact absurd (OW (NV (I.pin p hp).1) (by rw [z];exact hb)) (Qp _)
structure p9 (P:US) (w:UU) (K:NG) (tg:UO) (J:It) (fp:List UH) (it:UH) (tn:Nat->UR->Prop):Prop where
 mem:it∈fp
 obj:∀i h,tn i h->∀b∈fp,∃o,h.get? b=some o/\∀v,o.data≠ .cell v
 keep:∀i h h',tn i h->(∀b∈fp,∀o,h.get? b=some o->h'.get? b=some o)->tn i h'
 item:∀(X:Cx),X.prog=P->X.w=w->X.K=K->X.calm=true->∀(i:Nat)(Wt:List (UH×Obj))(s:UI)(σ:St)(H:Hp)(E:UE->UI->Prop),ag X Wt σ H s->(∀b∈fp,mn X Wt H b)->tn i s.heap->J.go i H->
  UK (UL P w) X.A (Vt (.ref it)) (λr s1=>∃u,r=some u/\
   UK (UL P w) X.A (V8 tg (.ref it) u) (λ_ s2=>∃x H',ag X Wt σ H' s2/\aD x u/\J.yld i H x H'/\tn (i+1) s2.heap/\∀b∈fp,H' b=none) E s1) E s
 done:∀(X:Cx),X.prog=P->X.w=w->X.K=K->X.calm=true->∀(i:Nat)(Wt:List (UH×Obj))(s:UI)(σ:St)(H:Hp)(E:UE->UI->Prop),ag X Wt σ H s->(∀b∈fp,mn X Wt H b)->tn i s.heap->J.stop i H->
  UK (UL P w) X.A (Vt (.ref it)) (λr s1=>r=none/\ag X Wt σ H s1) E s
 self:∀(A:UX)(i:Nat)(s:UI)(Q:UE->UI->Prop)(E:UE->UI->Prop),tn i s.heap->Q (.ref it) s->UK (UL P w) A (pyIter (.ref it)) Q E s
abbrev TI:=St->Hp->(It->Hp->Prop)->Prop
def A7(X:Cx)(Wt:List (UH×Obj))(σ:St)(tg:UO)(R:It->Hp->Prop)(itv:UE)(s2:UI):Prop:=
 ∃(it:UH)(fp:List UH)(tn:Nat->UR->Prop)(J:It)(H':Hp),itv= .ref it/\ag X Wt σ H' s2/\p9 X.prog X.w X.K tg J fp it tn/\tn 0 s2.heap/\(∀b∈fp,mn X Wt H' b)/\R J H'
def PI(X:Cx)(tg iter:UO)(wi:TI):Prop:=
 ∀(Wt:List (UH×Obj))(s:UI)(σ:St)(H:Hp)(R:It->Hp->Prop),ag X Wt σ H s->wi σ H R->
  UK (UL X.prog X.w) X.A (eval iter X.env) (λv s1=>UK (UL X.prog X.w) X.A (pyIter v) (A7 X Wt σ tg R) X.xe s1) X.xe s
theorem sL{M:VU}{A:UX}{E:UE->UI->Prop}{s:UI}{tg:UO}{it:UH}{u:UE}{o:Obj}{n:String}{vs:Array UE}{Q:Unit->UI->Prop}(ho:s.heap.get? it=some o)(hc:o.cls= .type n)(hd:o.data= .fields vs)
 (hn:["enumerate","zip","dict_itemiterator","dict_reverseitemiterator","odict_iterator","itertools.zip_longest","itertools.pairwise"].contains n=false)(hQ:Q () s):UK M A (V8 tg (.ref it) u) Q E s:=by
 unfold V8;cases tg <;> first
  | exact UJ hQ
  | (cases u <;> first
      | exact UJ hQ
      | (refine UG (wpAny_load ho ?_)
         rw [hc,hd];show UK M A (if (["enumerate","zip","dict_itemiterator","dict_reverseitemiterator","odict_iterator","itertools.zip_longest","itertools.pairwise"].contains n && vs[0]?==some (Vj _))=true then _ else _) Q E s;rw [Uz (by intro h;rw [hn,Bool.false_and] at h;cases h)];exact UJ hQ))
def rg(K:NG)(a:UH):It:=
 ⟨λi H=>∃xs x,bj K H a xs/\xs[i]?=some x,λi H x H'=>H'=H/\∀xs,bj K H a xs->xs[i]?=some x,λi H=>∃xs,bj K H a xs/\xs.length<=i⟩
def rh(K:NG)(a:UH):It:=
 ⟨λi H=>∃xs x,aX K H a xs/\xs[i]?=some x,λi H x H'=>H'=H/\∀xs,aX K H a xs->xs[i]?=some x,λi H=>∃xs,aX K H a xs/\xs.length<=i⟩
def mR(lo:Int)(n:Nat):It:=⟨λi _=>i < n,λi H x H'=>H'=H/\x= .int (lo+i),λi _=>n<=i⟩
theorem FG{P:US}{w:UU}{K:NG}{tg:UO}(a it:UH):p9 P w K tg (rg K a) [it] it (λi h=>h.IsListIter it a i) where
 mem:=UC
 obj:=λi h st b hb=>by
  have e:b=it:=by simpa using hb
  subst e;obtain⟨o,e,c,d⟩:=st;exact⟨o,e,λv z=>by rw [d] at z;cases z⟩
 keep:=λi h h' st k=>st.at λo e=>k it UC o e
 item:=by
  intro X hP hw hK hc i Wt s σ H E I hf st hg;subst hP hw hK;obtain⟨xs,x,hq,hx⟩:=hg;obtain⟨its,rv,p,hz⟩:=I.list hq;obtain⟨u,hu,ru⟩:=rv.get hx;obtain⟨f0,f1,f2,f3,f4,f5⟩:=hf it UC;refine wpAny_pyNext_list_item st p.isList (x:=u) (by simpa using hu) λh' st' sb=>?_;have I1:ag X Wt σ H {s with heap:=h'}:=I.turned (t':=s.toks) (λb o hb e=>(sb.2 b hb).trans e) f0 f1 f3 f4 f5;obtain⟨o,e,c,d⟩:=id st';exact⟨u,rfl,sL (s:={s with heap:=h'}) e c d Ce ⟨x,H,I1,ru,⟨rfl,λys hy=>by rw [I.list_inj hy hq];exact hx⟩,st',λb hb=>(hf b hb).1⟩⟩
 done:=by
  intro X hP hw hK hc i Wt s σ H E I hf st hg;subst hP hw hK;obtain⟨xs,hq,hx⟩:=hg;obtain⟨its,rv,p,hz⟩:=I.list hq;obtain⟨f0,f1,f2,f3,f4,f5⟩:=hf it UC;have hl:=rv.length;exact wpAny_pyNext_list_end (I.ok.hd hc) st p.isList (by simp;omega) λh' eb=>⟨rfl,I.turned (t':=s.toks) (λb o hb e=>eb b o hb e) f0 f1 f3 f4 f5⟩
 self:=λ_ _ _ _ _ st h=>wpAny_pyIter_listiter st h
theorem FH{P:US}{w:UU}{K:NG}{tg:UO}(a it:UH):p9 P w K tg (rh K a) [it] it (λi h=>h.IsTupleIter it a i) where
 mem:=UC
 obj:=λi h st b hb=>by
  have e:b=it:=by simpa using hb
  subst e;obtain⟨o,e,c,d⟩:=st;exact⟨o,e,λv z=>by rw [d] at z;cases z⟩
 keep:=λi h h' st k=>st.at λo e=>k it UC o e
 item:=by
  intro X hP hw hK hc i Wt s σ H E I hf st hg;subst hP hw hK;obtain⟨xs,x,hq,hx⟩:=hg;obtain⟨its,rv,p,hz⟩:=I.tuple hq;obtain⟨u,hu,ru⟩:=rv.get hx;obtain⟨f0,f1,f2,f3,f4,f5⟩:=hf it UC;refine wpAny_pyNext_tuple_item st (show s.heap.IsTuple a its.toArray from p) (x:=u) (by simpa using hu) λh' st' sb=>?_;have I1:ag X Wt σ H {s with heap:=h'}:=I.turned (t':=s.toks) (λb o hb e=>(sb.2 b hb).trans e) f0 f1 f3 f4 f5;obtain⟨o,e,c,d⟩:=id st';exact⟨u,rfl,sL (s:={s with heap:=h'}) e c d Ce ⟨x,H,I1,ru,⟨rfl,λys hy=>by rw [I.tuple_inj hy hq];exact hx⟩,st',λb hb=>(hf b hb).1⟩⟩
 done:=by
  intro X hP hw hK hc i Wt s σ H E I hf st hg;subst hP hw hK;obtain⟨xs,hq,hx⟩:=hg;obtain⟨its,rv,p,hz⟩:=I.tuple hq;obtain⟨f0,f1,f2,f3,f4,f5⟩:=hf it UC;have hl:=rv.length;exact wpAny_pyNext_tuple_end (I.ok.hd hc) st (show s.heap.IsTuple a its.toArray from p) (by simp;omega) λh' eb=>⟨rfl,I.turned (t':=s.toks) (λb o hb e=>eb b o hb e) f0 f1 f3 f4 f5⟩
 self:=λ_ _ _ _ _ st h=>wpAny_pyIter_tupleiter st h
theorem FI{P:US}{w:UU}{K:NG}{tg:UO}(it:UH)(lo:Int)(n:Nat):p9 P w K tg (mR lo n) [it] it (λi h=>IsRangeIter h it (lo+(i:Nat)*1) ((n:Int) - (i:Nat)) 1) where
 mem:=UC
 obj:=λi h st b hb=>by
  have e:b=it:=by simpa using hb
  subst e;exact⟨_,st,λv z=>by
   have z':Data.fields _=Data.cell v:=z;cases z'⟩
 keep:=λi h h' st k=>k it UC _ st
 item:=by
  intro X hP hw hK hc i Wt s σ H E I hf st hg;subst hP hw hK;obtain⟨f0,f1,f2,f3,f4,f5⟩:=hf it UC;have W:=Walks.range (prog:=X.prog) (w:=X.w) (I.ok.hd hc) it lo 1 n;refine W.item i s _ _ hg st λv h' tk hv st' kk=>?_;obtain⟨t,rfl⟩:=hv;have I1:ag X Wt σ H {s with heap:=h',toks:=tk}:=I.turned (λb o hb e=>kk b o (by simpa using hb) e) f0 f1 f3 f4 f5;refine⟨_,rfl,sL (s:={s with heap:=h',toks:=tk}) (n:="range_iterator") st' rfl rfl Ce ⟨.int (lo+i),H,I1,⟨t,?_⟩,⟨rfl,rfl⟩,st',λb hb=>(hf b hb).1⟩⟩;rw [Int.mul_one]
 done:=by
  intro X hP hw hK hc i Wt s σ H E I hf st hg;subst hP hw hK;obtain⟨f0,f1,f2,f3,f4,f5⟩:=hf it UC;exact wpAny_pyNext_range_end (I.ok.hd hc) st (by have:n<=i:=hg;omega) λh' eb=>⟨rfl,I.turned (t':=s.toks) (λb o hb e=>eb b o hb e) f0 f1 f3 f4 f5⟩
 self:=λ_ _ _ _ _ st h=>wpAny_pyIter_rangeiter st h
section
variable {X:Cx} {tg:UO}
def vo(K:NG)(tl:TE):TI:=λσ H R=>tl σ H λx H1=>∃a,x= .ref a/\(∃xs,bj K H1 a xs)/\R (rg K a) H1
def vp(K:NG)(tl:TE):TI:=λσ H R=>tl σ H λx H1=>∃a,x= .ref a/\(∃xs,aX K H1 a xs)/\R (rh K a) H1
theorem A8{l:UO}{tl:TE}(hl:PE X l tl):PI X tg l (vo X.K tl):=by
 intro Wt s σ H R I h;refine ax (hl Wt s σ H _ I h) λv s1 ⟨x,H1,I1,r1,q1⟩=>?_;obtain⟨a,e,⟨xs,hq⟩,q⟩:=q1;subst e;cases r1;obtain⟨its,rv,p,hz⟩:=I1.list hq;refine Wo p.isList ?_;refine⟨s1.heap.objs.size,[s1.heap.objs.size],_,_,H1,rfl,I1.kept (t':=s1.toks) λb o e=>NJ _ e,FG a _,⟨_,N2 _ rfl,rfl,rfl⟩,λb hb=>?_,q⟩;have e:b=s1.heap.objs.size:=by simpa using hb
 subst e;exact I1.fpOk (NT _) (I1.hok.fresh (NT _))
theorem FJ{l:UO}{tl:TE}(hl:PE X l tl):PI X tg l (vp X.K tl):=by
 intro Wt s σ H R I h;refine ax (hl Wt s σ H _ I h) λv s1 ⟨x,H1,I1,r1,q1⟩=>?_;obtain⟨a,e,⟨xs,hq⟩,q⟩:=q1;subst e;cases r1;obtain⟨its,rv,p,hz⟩:=I1.tuple hq;refine Wh (show s1.heap.IsTuple a its.toArray from p) ?_;refine⟨s1.heap.objs.size,[s1.heap.objs.size],_,_,H1,rfl,I1.kept (t':=s1.toks) λb o e=>NJ _ e,FH a _,⟨_,N2 _ rfl,rfl,rfl⟩,λb hb=>?_,q⟩;have e:b=s1.heap.objs.size:=by simpa using hb
 subst e;exact I1.fpOk (NT _) (I1.hok.fresh (NT _))
theorem A9{Wt:List (UH×Obj)}{σ:St}{H:Hp}{s:UI}{R:It->Hp->Prop}{E:UE->UI->Prop}{lo hi:Int}{t u v:Tok}{tk:Nat}(I:ag X Wt σ H s)(h1:-(2 ^ 62)<=lo)(h2:lo < 2 ^ 62)(h3:-(2 ^ 62)<=hi)(h4:hi < 2 ^ 62)
 (q:R (mR lo (hi - lo).toNat) H):UK (UL X.prog X.w) X.A (pyIter (.ref s.heap.objs.size)) (A7 X Wt σ tg R) E {s with heap:=s.heap.push {cls:= .type "range",data:= .fields #[.int lo t,.int hi u,.int 1 v]},toks:=tk}:=by
 refine wpAny_pyIter_range (IsRange.new ..) (small_one h1 h2 h3 h4) ?_;have I1:ag X Wt σ H {s with heap:=s.heap.push {cls:= .type "range",data:= .fields #[.int lo t,.int hi u,.int 1 v]},toks:=tk}:=I.kept λb o e=>NJ _ e;refine⟨(s.heap.push {cls:= .type "range",data:= .fields #[.int lo t,.int hi u,.int 1 v]}).objs.size,[(s.heap.push {cls:= .type "range",data:= .fields #[.int lo t,.int hi u,.int 1 v]}).objs.size],_,_,H,rfl,
  I1.kept (t':=tk) λb o e=>NJ _ e,FI _ lo (hi - lo).toNat,?_,λb hb=>?_,q⟩
 ·have e1:lo+((0:Nat):Int)*1=lo:=UC
  have e2:(((hi - lo).toNat:Nat):Int) - ((0:Nat):Int)=Builtin.Range.rangeSize lo hi 1:=by rw [rangeSize_one];split <;> omega
  show IsRangeIter _ _ (lo+((0:Nat):Int)*1) ((((hi - lo).toNat:Nat):Int) - ((0:Nat):Int)) 1;rw [e1,e2];exact N2 _ rfl
 ·have e:b=(s.heap.push {cls:= .type "range",data:= .fields #[.int lo t,.int hi u,.int 1 v]}).objs.size:=by simpa using hb
  subst e;exact I1.fpOk (NT _) (I1.hok.fresh (NT _))
def vq(ta:TA):TI:=λσ H R=>ta σ H λvs H1=>∃j:Int,vs=[.int j]/\-(2 ^ 62)<=j/\j < 2 ^ 62/\R (mR 0 j.toNat) H1
def vt(ta:TA):TI:=λσ H R=>ta σ H λvs H1=>∃i j:Int,vs=[.int i,.int j]/\(-(2 ^ 62)<=i/\i < 2 ^ 62/\-(2 ^ 62)<=j/\j < 2 ^ 62)/\R (mR i (j - i).toNat) H1
theorem Ba{a:UO}{ta:TA}{p pos:Pos}(hg:Gl X "range")(hm:X.mg "range"=none)(ha:PA X [a] ta)(hs:UM [a] X.env=[(false,eval a X.env)]:=by rfl):PI X tg (.Call (.Name "range" p) [a] [] pos) (vq ta):=by
 intro Wt s σ H R I h;refine Call_ (p5 I hg hm boot_range (Qv (ax (ha pos Wt s σ H _ I h) λus s1 ⟨vs,H1,I1,r1,q1⟩=>?_) hs rfl));obtain⟨j,e,q1,q2,q⟩:=q1;subst e;cases r1 with
 | cons r rr=>
  cases rr;obtain⟨t,rfl⟩:=r;exact call_range_1 (A9 I1 Uy Uy q1 q2 (by simpa using q))
theorem Bb{a b:UO}{ta:TA}{p pos:Pos}(hg:Gl X "range")(hm:X.mg "range"=none)(ha:PA X [a,b] ta)(hs:UM [a,b] X.env=[(false,eval a X.env),(false,eval b X.env)]:=by rfl)(hs2:UM [b] X.env=[(false,eval b X.env)]:=by rfl):
 PI X tg (.Call (.Name "range" p) [a,b] [] pos) (vt ta):=by
 intro Wt s σ H R I h;refine Call_ (p5 I hg hm boot_range (Qv (ax (ha pos Wt s σ H _ I h) λus s1 ⟨vs,H1,I1,r1,q1⟩=>?_) (by rw [hs,hs2]) (by rw [hs2];rfl)));obtain⟨i,j,e,⟨q1,q2,q3,q4⟩,q⟩:=q1;subst e;cases r1 with
 | cons r rr=>
  cases rr with
  | cons r' rr=>
   cases rr;obtain⟨t,rfl⟩:=r;obtain⟨t',rfl⟩:=r';exact call_range_2 (A9 I1 q1 q2 q3 q4 q)
def rj(wi:TI)(g:TG)(tb:TS):TS:=λD σ H=>wi σ H λJ H1=>∃W:Nat->Nat->St->Hp->Prop,(∃m,W 0 m σ H1)/\∀i m σ H,W i m σ H->
 (J.stop i H/\D.nx σ H)\/(J.go i H/\∃N:St->Hp->Prop,(∀σ' H',N σ' H'->∃m',m' < m/\W (i+1) m' σ' H')/\∀x H',J.yld i H x H'->g x σ H' λσ2 H2=>tb {D with nx:=N,ct:=N,bk:=D.nx} σ2 H2)
def rk(fp:List UH)(h:UR):List (UH×Obj):=fp.filterMap λb=>(h.get? b).map λo=>(b,o)
theorem sM{fp:List UH}{h:UR}{b:UH}{o:Obj}(hb:b∈fp)(e:h.get? b=some o):(b,o)∈rk fp h:=RQ.mpr ⟨b,hb,by rw [e];rfl⟩
theorem FK{fp:List UH}{h:UR}{p:UH×Obj}(hp:p∈rk fp h):p.1∈fp/\h.get? p.1=some p.2:=by
 obtain⟨b,hb,e⟩:=RQ.mp hp;cases q:h.get? b with
 | none=>rw [q] at e;cases e
 | some o=>
  rw [q] at e;have e':(b,o)=p:=Pg e;subst e';exact⟨hb,q⟩
theorem ag.pinned{Wt:List (UH×Obj)}{σ:St}{H:Hp}{s:UI}{fp:List UH}(I:ag X Wt σ H s)(hf:∀b∈fp,mn X Wt H b)(ho:∀b∈fp,∃o,s.heap.get? b=some o/\∀v,o.data≠ .cell v):ag X (Wt++rk fp s.heap) σ H s:=
 I.pins_of λp hp=>(P4.mp hp).elim (λz=>I.pin p (Pq _ z)) λz=>by
  obtain⟨hb,e⟩:=FK z;obtain⟨f0,f1,f2,_⟩:=hf p.1 hb;obtain⟨o,e',d⟩:=ho p.1 hb;rw [e] at e';cases e';exact⟨e,f0,f1,f2,d⟩
theorem ag.unpinned{Wt pl:List (UH×Obj)}{σ:St}{H:Hp}{s:UI}(I:ag X (Wt++pl) σ H s):ag X Wt σ H s:=I.pins_of λp hp=>I.pin p (Pq _ (SQ _ hp))
theorem Bc{iter:UO}{body:List UW}{wi:TI}{g:TG}{tb:TS}{pos:Pos}(hp:PassesOwn (UL X.prog X.w) X.A X.env X.xe)(hc:X.calm=true)(hi:PI X tg iter wi)(hg:PG X tg g)(hb:bJ X body tb)
 (hs:∀x,U6 iter X.env x=pure x:=by intro _;rfl):PS X (.For tg iter body [] pos) (rj wi g tb):=by
 intro Wt s σ H D I h;refine wpAny_For (ax (hi Wt s σ H _ I h) λv s1 h1=>ax h1 λitv s2 h2=>?_) hs;obtain⟨it,fp,tn,J,H2,e,I2,T,st2,f2,W,⟨m0,w0⟩,turn⟩:=h2;subst e;have stat:∀{H':Hp},(∀b∈fp,H' b=none)->∀b∈fp,mn X Wt H' b:=λhn b hb=>⟨hn b hb,(f2 b hb).2⟩;refine codeAny_forLoop_any (λn s'=>∃i σ' H',ag X Wt σ' H' s'/\tn i s'.heap/\(∀b∈fp,H' b=none)/\W i n σ' H') ?_ m0 ⟨0,σ,H2,I2,st2,λb hb=>(f2 b hb).1,w0⟩;rintro n s3 ⟨i,σ3,H3,I3,st3,fr3,w3⟩;rcases turn i n σ3 H3 w3 with⟨stop,qn⟩ | ⟨go,N,hN,step⟩
 ·refine Vq hp (ax (T.done X rfl rfl rfl hc i Wt s3 σ3 H3 X.xe I3 (stat fr3) st3 stop) λr s4 ⟨hr,I4⟩=>?_);subst hr;exact VF ⟨σ3,H3,I4,qn⟩
 ·refine Vq hp (ax (T.item X rfl rfl rfl hc i Wt s3 σ3 H3 X.xe I3 (stat fr3) st3 go) λr s4 ⟨u,hr,h4⟩=>?_);subst hr;refine Vq hp (ax h4 λ_ s5 ⟨x,H5,I5,r5,y5,st5,fr5⟩=>?_);have I5':=I5.pinned (stat fr5) (T.obj _ _ st5);refine Vq hp (ax (hg _ s5 σ3 H5 x u _ I5' r5 (step x H5 y5)) λ_ s6 ⟨σ6,H6,I6,q6⟩=>?_);refine Vq hp (ax (hb _ s6 σ6 H6 _ I6 q6) λf s7 q7=>?_);have again:∀{σ7:St}{H7:Hp},ag X (Wt++rk fp s5.heap) σ7 H7 s7->N σ7 H7->∃m,m < n/\∃i σ' H',ag X Wt σ' H' s7/\tn i s7.heap/\(∀b∈fp,H' b=none)/\W i m σ' H':=λ{σ7 H7} I7 n7=>by
   obtain⟨m',hm,w7⟩:=hN σ7 H7 n7;refine⟨m',hm,i+1,σ7,H7,I7.unpinned,T.keep _ _ _ st5 λb hb o e=>(I7.pin (b,o) (Pq _ (Pq _ (sM hb e)))).1,λb hb=>?_,w7⟩;obtain⟨o,e,d⟩:=T.obj _ _ st5 b hb;exact(I7.pin (b,o) (Pq _ (Pq _ (sM hb e)))).2.1
  cases f with
  | next=>obtain⟨σ7,H7,I7,n7⟩:=q7;exact again I7 n7
  | cont=>obtain⟨σ7,H7,I7,n7⟩:=q7;exact again I7 n7
  | brk=>obtain⟨σ7,H7,I7,q7⟩:=q7;exact⟨σ7,H7,I7.unpinned,q7⟩
  | ret v=>obtain⟨x7,σ7,H7,I7,r7,q7⟩:=q7;exact⟨x7,σ7,H7,I7.unpinned,r7,q7⟩
end
abbrev R2:=V->V->Hp->VK->Prop
def bu(X:Cx)(f:UE->UE->Sem UE)(r:R2):Prop:=
 ∀(Wt:List (UH×Obj))(s:UI)(σ:St)(H:Hp)(x y:V)(v u:UE)(Q:VK),ag X Wt σ H s->aD x v->aD y u->r x y H Q->
  UK (UL X.prog X.w) X.A (f v u) (EP X Wt σ Q) X.xe s
def vv(X:Cx)(f:UE->Sem UE)(r:V->Hp->VK->Prop):Prop:=
 ∀(Wt:List (UH×Obj))(s:UI)(σ:St)(H:Hp)(x:V)(v:UE)(Q:VK),ag X Wt σ H s->aD x v->r x H Q->
  UK (UL X.prog X.w) X.A (f v) (EP X Wt σ Q) X.xe s
def kq(X:Cx)(f:UE)(r:List V->Hp->VK->Prop):Prop:=
 ∀(Wt:List (UH×Obj))(s:UI)(σ:St)(H:Hp)(xs:List V)(us:List UE)(Q:VK),ag X Wt σ H s->aG xs us->r xs H Q->
  UK (UL X.prog X.w) X.A (call f us) (EP X Wt σ Q) X.xe s
def oX(r:R2)(ta tb:TE):TE:=λσ H Q=>ta σ H λx H1=>tb σ H1 λy H2=>r x y H2 Q
def vw(r:V->Hp->VK->Prop)(ta:TE):TE:=λσ H Q=>ta σ H λx H1=>r x H1 Q
def rI(C:Int->Int->Prop)(g:Int->Int->V):R2:=λx y H Q=>∃i j,x= .int i/\y= .int j/\C i j/\Q (g i j) H
def mq(g:Int->Int->V):R2:=λx y H Q=>∃i j,x= .int i/\y= .int j/\Q (g i j) H
def rU(g:Int->V):V->Hp->VK->Prop:=λx H Q=>∃i,x= .int i/\Q (g i) H
section
variable {X:Cx} {a b c:UO} {ta tb tc:TE} {pos:Pos}
theorem vx(ha:PE X a ta)(hb:PE X b tb){Wt:List (UH×Obj)}{s:UI}{σ:St}{H:Hp}{R:V->V->Hp->Prop}(I:ag X Wt σ H s)
 (h:ta σ H λx H1=>tb σ H1 λy H2=>R x y H2){Q:UE->UI->Prop}{f:UE->UE->Sem UE}
 (hf:∀v u s2 x y H2,ag X Wt σ H2 s2->aD x v->aD y u->R x y H2->UK (UL X.prog X.w) X.A (f v u) Q X.xe s2):
 UK (UL X.prog X.w) X.A (eval a X.env) (λv s₁=>UK (UL X.prog X.w) X.A (eval b X.env) (λu s₂=>UK (UL X.prog X.w) X.A (f v u) Q X.xe s₂) X.xe s₁) X.xe s:=by
 refine ax (ha Wt s σ H _ I h) λv s1 ⟨x,H1,I1,r1,q1⟩=>?_;refine ax (hb Wt s1 σ H1 _ I1 q1) λu s2 ⟨y,H2,I2,r2,q2⟩=>?_;exact hf v u s2 x y H2 I2 r1 r2 q2
theorem bM{op:Operator}{r:R2}(ho:bu X (Vh op) r)(ha:PE X a ta)(hb:PE X b tb):PE X (.BinOp a op b pos) (oX r ta tb):=by
 intro Wt s σ H Q I h;exact wpAny_BinOp (vx ha hb I h λv u s2 x y H2 I2 rx ry q=>ho Wt s2 σ H2 x y v u Q I2 rx ry q)
theorem FL{op:UnaryOp}{r:V->Hp->VK->Prop}(ho:vv X (unaryOp op) r)(ha:PE X a ta):PE X (.UnaryOp op a pos) (vw r ta):=by
 intro Wt s σ H Q I h;exact UnaryOp_ (ax (ha Wt s σ H _ I h) λv s1 uu34=>by obtain⟨x,H1,I1,r1,q1⟩:=uu34;exact ho Wt s1 σ H1 x v Q I1 r1 q1)
theorem rn{f:UE->UE->Sem UE}{C:Int->Int->Prop}{g:Int->Int->Int}
 (rule:∀(i j:Int) (t u:Tok) (s:UI) (Q:UE->UI->Prop) (E:UE->UI->Prop),C i j->Q (.int (g i j) s.toks) {s with toks:=s.toks+1}->UK (UL X.prog X.w) X.A (f (.int i t) (.int j u)) Q E s):
 bu X f (rI C λi j=>.int (g i j)):=by
 intro Wt s σ H x y v u Q I rx ry h;obtain⟨i,j,rfl,rfl,hc,q⟩:=h;obtain⟨t,rfl⟩:=rx;obtain⟨t',rfl⟩:=ry;exact rule i j t t' s _ _ hc ⟨.int (g i j),H,I.tok _,⟨_,rfl⟩,q⟩
theorem Bd{f:UE->UE->Sem UE}{g:Int->Int->Int}
 (rule:∀(i j:Int) (t u:Tok) (s:UI) (Q:UE->UI->Prop) (E:UE->UI->Prop),Q (.int (g i j) s.toks) {s with toks:=s.toks+1}->UK (UL X.prog X.w) X.A (f (.int i t) (.int j u)) Q E s):
 bu X f (mq λi j=>.int (g i j)):=by
 intro Wt s σ H x y v u Q I rx ry h;obtain⟨i,j,rfl,rfl,q⟩:=h;obtain⟨t,rfl⟩:=rx;obtain⟨t',rfl⟩:=ry;exact rule i j t t' s _ _ ⟨.int (g i j),H,I.tok _,⟨_,rfl⟩,q⟩
theorem sN{f:UE->UE->Sem UE}{g:Int->Int->Bool}
 (rule:∀(i j:Int) (t u:Tok) (s:UI) (Q:UE->UI->Prop) (E:UE->UI->Prop),Q (.bool (g i j)) s->UK (UL X.prog X.w) X.A (f (.int i t) (.int j u)) Q E s):
 bu X f (mq λi j=>.bl (g i j)):=by
 intro Wt s σ H x y v u Q I rx ry h;obtain⟨i,j,rfl,rfl,q⟩:=h;obtain⟨t,rfl⟩:=rx;obtain⟨t',rfl⟩:=ry;exact rule i j t t' s _ _ ⟨.bl (g i j),H,I,rfl,q⟩
def bV(i j:Int):Prop:=0 < j/\j < 1073741824
def ck(i j:Int):Prop:=0<=j/\j<=1000000/\i.natAbs < 2 ^ 64
def bW(i j:Int):Prop:=(-(2 ^ 64) < i/\i < 2 ^ 64)\/(-(2 ^ 64) < j/\j < 2 ^ 64)
theorem bW.ok{i j:Int}(h:bW i j):IntMulOk i j:=by
 rcases h with⟨h1,h2⟩ | ⟨h1,h2⟩
 ·exact .of_left (intBits_le_64 h1 h2)
 ·exact .of_right (intBits_le_64 h1 h2)
theorem bN:bu X (Vh .Add) (mq λi j=>.int (i+j)):=Bd λ_ _ _ _ _ _ _ q=>add_int q
theorem kO:bu X (Vh .Sub) (mq λi j=>.int (i - j)):=Bd λ_ _ _ _ _ _ _ q=>sub_int q
theorem qc:bu X (Vh .Mult) (rI bW λi j=>.int (i*j)):=rn λ_ _ _ _ _ _ _ hc q=>mul_int q hc.ok
theorem nL:bu X (Vh .FloorDiv) (rI bV λi j=>.int (i / j)):=rn λi j _ _ _ _ _ hc q=>by
 have h1:(0:Int) < j:=hc.1;have h2:j < 1073741824:=hc.2;exact floordiv_int Uy (by rw [RX i Uy];exact q) (.inl (Sy Uy))
theorem nM:bu X (Vh .Mod) (rI (λ_ j=>0 < j) λi j=>.int (i % j)):=rn λi j _ _ _ _ _ hc q=>by
 have h1:(0:Int) < j:=hc;exact mod_int' Uy (by rw [RY i Uy];exact q)
theorem FN:bu X (Vh .Pow) (rI ck λi j=>.int (i ^ j.toNat)):=rn λ_ _ _ _ _ _ _ hc q=>pow_int_small hc.1 hc.2.1 hc.2.2 q
theorem FO{f:UE->Sem UE}{g:Int->Int}
 (rule:∀(i:Int) (t:Tok) (s:UI) (Q:UE->UI->Prop) (E:UE->UI->Prop),Q (.int (g i) s.toks) {s with toks:=s.toks+1}->UK (UL X.prog X.w) X.A (f (.int i t)) Q E s):
 vv X f (rU λi=>.int (g i)):=by
 intro Wt s σ H x v Q I rx h;obtain⟨i,rfl,q⟩:=h;obtain⟨t,rfl⟩:=rx;exact rule i t s _ _ ⟨.int (g i),H,I.tok _,⟨_,rfl⟩,q⟩
theorem FP:vv X (unaryOp .USub) (rU λi=>.int (-i)):=FO λ_ _ _ _ _ q=>neg_int q
end
def oq:V->V->Bool
 | .non,.non=>true | .non,.int _=>true | .int _,.non=>true | .non,.bl _=>true | .bl _,.non=>true | .non,.str _=>true | .str _,.non=>true
 | .int _,.int _=>true | .bl _,.bl _=>true | .str _,.str _=>true | .byt _,.byt _=>true
 | .int _,.str _=>true | .str _,.int _=>true | .bl _,.str _=>true | .str _,.bl _=>true
 | _,_=>false
def vy:R2:=λx y H Q=>oq x y=true/\Q (.bl (decide (x=y))) H
def vz:R2:=λx y H Q=>oq x y=true/\Q (.bl (!decide (x=y))) H
theorem Be{i j:Int}:decide (V.int i=V.int j)=(i==j):=by
 rw [P5];simp
theorem Bf{i j:Bool}:decide (V.bl i=V.bl j)=(i==j):=by
 rw [P5];simp
theorem Bg{i j:Str}:decide (V.str i=V.str j)=(i==j):=by
 rw [P5];simp
theorem Bh{i j:Array UInt8}:decide (V.byt i=V.byt j)=(i.toList==j.toList):=by
 rw [P5];cases i;cases j;simp
section
variable {X:Cx} {a b c:UO} {ta tb tc:TE} {pos:Pos}
theorem bD{Wt:List (UH×Obj)}{σ:St}{H:Hp}{s:UI}{Q:VK}{k k':Bool}(I:ag X Wt σ H s)(q:Q (.bl k) H)(e:k=k'):EP X Wt σ Q (.bool k') s:=by
 subst e;exact⟨.bl k,H,I,rfl,q⟩
theorem sO:bu X (UY .Eq) vy:=by
 intro Wt s σ H x y v u Q I rx ry h;obtain⟨hs,q⟩:=h;cases x with
 | non=>
  cases rx;cases y with
  | non=>cases ry;exact PySem.EqNone.eq_none_none (bD I q UC)
  | bl j=>cases ry;exact PySem.EqNone.eq_none_bool (bD I q UC)
  | int j=>obtain⟨t',rfl⟩:=ry;exact PySem.EqNone.eq_none_int (bD I q UC)
  | str j=>obtain⟨t',rfl⟩:=ry;exact PySem.EqNone.eq_none_str (bD I q UC)
  | _=>exact absurd (show false=true from hs) Oq
 | bl i=>
  cases rx;cases y with
  | non=>cases ry;exact PySem.EqNone.eq_bool_none (bD I q UC)
  | bl j=>cases ry;exact eq_bool (bD I q Bf)
  | str j=>obtain⟨t',rfl⟩:=ry;exact PySem.EqMixed.eq_bool_str (bD I q UC)
  | _=>exact absurd (show false=true from hs) Oq
 | int i=>
  obtain⟨t,rfl⟩:=rx;cases y with
  | non=>cases ry;exact PySem.EqNone.eq_int_none (bD I q UC)
  | int j=>obtain⟨t',rfl⟩:=ry;exact eq_int (bD I q Be)
  | str j=>obtain⟨t',rfl⟩:=ry;exact PySem.EqMixed.eq_int_str (bD I q UC)
  | _=>exact absurd (show false=true from hs) Oq
 | str i=>
  obtain⟨t,rfl⟩:=rx;cases y with
  | non=>cases ry;exact PySem.EqNone.eq_str_none (bD I q UC)
  | bl j=>cases ry;exact PySem.EqMixed.eq_str_bool (bD I q UC)
  | int j=>obtain⟨t',rfl⟩:=ry;exact PySem.EqMixed.eq_str_int (bD I q UC)
  | str j=>obtain⟨t',rfl⟩:=ry;exact eq_str (bD I q Bg)
  | _=>exact absurd (show false=true from hs) Oq
 | byt i=>
  obtain⟨t,rfl⟩:=rx;cases y with
  | byt j=>obtain⟨t',rfl⟩:=ry;exact PySem.W.eq_bytes (bD I q Bh)
  | _=>exact absurd (show false=true from hs) Oq
 | _=>cases y <;> exact absurd (show false=true from hs) Oq
theorem FQ:bu X (UY .NotEq) vz:=by
 intro Wt s σ H x y v u Q I rx ry h;obtain⟨hs,q⟩:=h;cases x with
 | non=>
  cases rx;cases y with
  | non=>cases ry;exact PySem.EqNone.ne_none_none (bD I q UC)
  | bl j=>cases ry;exact PySem.EqNone.ne_none_bool (bD I q UC)
  | int j=>obtain⟨t',rfl⟩:=ry;exact PySem.EqNone.ne_none_int (bD I q UC)
  | str j=>obtain⟨t',rfl⟩:=ry;exact PySem.EqNone.ne_none_str (bD I q UC)
  | _=>exact absurd (show false=true from hs) Oq
 | bl i=>
  cases rx;cases y with
  | non=>cases ry;exact PySem.EqNone.ne_bool_none (bD I q UC)
  | bl j=>cases ry;exact ne_bool (bD I q (congrArg not Bf))
  | str j=>obtain⟨t',rfl⟩:=ry;exact PySem.EqMixed.ne_bool_str (bD I q UC)
  | _=>exact absurd (show false=true from hs) Oq
 | int i=>
  obtain⟨t,rfl⟩:=rx;cases y with
  | non=>cases ry;exact PySem.EqNone.ne_int_none (bD I q UC)
  | int j=>obtain⟨t',rfl⟩:=ry;exact ne_int (bD I q (congrArg not Be))
  | str j=>obtain⟨t',rfl⟩:=ry;exact PySem.EqMixed.ne_int_str (bD I q UC)
  | _=>exact absurd (show false=true from hs) Oq
 | str i=>
  obtain⟨t,rfl⟩:=rx;cases y with
  | non=>cases ry;exact PySem.EqNone.ne_str_none (bD I q UC)
  | bl j=>cases ry;exact PySem.EqMixed.ne_str_bool (bD I q UC)
  | int j=>obtain⟨t',rfl⟩:=ry;exact PySem.EqMixed.ne_str_int (bD I q UC)
  | str j=>obtain⟨t',rfl⟩:=ry;exact ne_str (bD I q (congrArg not Bg))
  | _=>exact absurd (show false=true from hs) Oq
 | byt i=>
  obtain⟨t,rfl⟩:=rx;cases y with
  | byt j=>obtain⟨t',rfl⟩:=ry;exact PySem.W.ne_bytes (bD I q (congrArg not Bh))
  | _=>exact absurd (show false=true from hs) Oq
 | _=>cases y <;> exact absurd (show false=true from hs) Oq
theorem qf:bu X (UY .Lt) (mq λi j=>.bl (decide (i < j))):=sN λ_ _ _ _ _ _ _ q=>lt_int q
theorem jY:bu X (UY .LtE) (mq λi j=>.bl (decide (i<=j))):=sN λ_ _ _ _ _ _ _ q=>le_int q
theorem oY:bu X (UY .Gt) (mq λi j=>.bl (decide (j < i))):=sN λ_ _ _ _ _ _ _ q=>gt_int q
theorem FT:bu X (UY .GtE) (mq λi j=>.bl (decide (j<=i))):=sN λ_ _ _ _ _ _ _ q=>ge_int q
theorem FU:bu X (UY .Lt) (λx y H Q=>∃i j,x= .str i/\y= .str j/\Q (.bl (decide (i.cps.toList < j.cps.toList))) H):=by
 intro Wt s σ H x y v u Q I rx ry h;obtain⟨i,j,rfl,rfl,q⟩:=h;obtain⟨t,rfl⟩:=rx;obtain⟨t',rfl⟩:=ry;exact lt_str (bD I q rfl)
theorem sP:bu X (UY .In) (λx y H Q=>∃i j,x= .str i/\y= .str j/\Q (.bl (!(Qc j i 0 j.length 1).isEmpty)) H):=by
 intro Wt s σ H x y v u Q I rx ry h;obtain⟨i,j,rfl,rfl,q⟩:=h;obtain⟨t,rfl⟩:=rx;obtain⟨t',rfl⟩:=ry;exact in_str (bD I q rfl)
theorem sQ:bu X (UY .Is) (λx y H Q=>y= .non/\Q (.bl (decide (x= .non))) H):=by
 intro Wt s σ H x y v u Q I rx ry h;obtain⟨rfl,q⟩:=h;cases ry;refine is_none_gen (bD I q ?_);cases x <;> first
  | (cases rx;rfl)
  | (obtain⟨t,rfl⟩:=rx;rfl)
theorem vA:bu X (UY .IsNot) (λx y H Q=>y= .non/\Q (.bl (!decide (x= .non))) H):=by
 intro Wt s σ H x y v u Q I rx ry h;obtain⟨rfl,q⟩:=h;cases ry;refine isnot_none_gen (bD I q ?_);cases x <;> first
  | (cases rx;rfl)
  | (obtain⟨t,rfl⟩:=rx;rfl)
theorem aB(b:UO){op:CmpOp}(h:op≠ .In:=by decide)(h2:op≠ .NotIn:=by decide):Vg op b=false:=by
 have e1:(op==CmpOp.In)=false:=by cases op <;> first | rfl | exact absurd rfl h
 have e2:(op==Um)=false:=by cases op <;> first | rfl | exact absurd rfl h2
 cases b <;> simp [Vg,e1,e2]
theorem oZ{op:CmpOp}{r:R2}(ho:bu X (UY op) r)(ha:PE X a ta)(hb:PE X b tb)(hm:Vg op b=false):PE X (.Compare a [op] [b] pos) (oX r ta tb):=by
 intro Wt s σ H Q I h;exact wpAny_Compare1 (vx ha hb I h λv u s2 x y H2 I2 rx ry q=>ho Wt s2 σ H2 x y v u Q I2 rx ry q) hm
def sR(t:TE):TT:=λσ H Q=>t σ H λx H'=>∃k,x= .bl k/\Q k H'
theorem o9{op:CmpOp}{r:R2}(ho:bu X (UY op) r)(ha:PE X a ta)(hb:PE X b tb)(hm:Vg op b=false):PT X (.Compare a [op] [b] pos) (sR (oX r ta tb)):=by
 intro Wt s σ H Q I h;refine wpAny_isTrue_Compare1 (ax (ha Wt s σ H _ I h) λv s1 ⟨x,H1,I1,r1,q1⟩=>ax (hb Wt s1 σ H1 _ I1 q1) λu s2 ⟨y,H2,I2,r2,q2⟩=>
  ax (ho Wt s2 σ H2 x y v u _ I2 r1 r2 q2) λc s3 ⟨z,H3,I3,r3,k,e,q3⟩=>?_) hm
 subst e;cases r3;exact U5 ⟨H3,I3,q3⟩
def sS(r r':R2)(ta tb tc:TE):TE:=λσ H Q=>ta σ H λx H1=>tb σ H1 λy H2=>r x y H2 λz H3=>∃k,z= .bl k/\
 (if k=true then tc σ H3 λw' H4=>r' y w' H4 Q else Q (.bl false) H3)
theorem FV{op op':CmpOp}{r r':R2}(ho:bu X (UY op) r)(ho':bu X (UY op') r')(ha:PE X a ta)(hb:PE X b tb)(hc:PE X c tc)
 (hm:lastMarks [op,op'] [b,c]=false:=by with_unfolding_all rfl):PE X (.Compare a [op,op'] [b,c] pos) (sS r r' ta tb tc):=by
 intro Wt s σ H Q I h;refine Compare_chain (ax (ha Wt s σ H _ I h) λv s1 ⟨x,H1,I1,r1,q1⟩=>chain_link (ax (hb Wt s1 σ H1 _ I1 q1) λu s2 ⟨y,H2,I2,r2,q2⟩=>
  ax (ho Wt s2 σ H2 x y v u _ I2 r1 r2 q2) λd s3 ⟨z,H3,I3,r3,k,e,q3⟩=>?_)) hm
 subst e;cases r3;refine U5 ?_;cases k with
 | false=>exact ite_ff ⟨.bl false,H3,I3,rfl,q3⟩
 | true=>exact ite_tt (chain_last (ax (hc Wt s3 σ H3 _ I3 q3) λw' s4 uu41=>by obtain⟨z',H4,I4,r4,q4⟩:=uu41;exact ho' Wt s4 σ H4 y z' u w' Q I4 r2 r4 q4))
theorem FW{op op':CmpOp}{r r':R2}(ho:bu X (UY op) r)(ho':bu X (UY op') r')(ha:PE X a ta)(hb:PE X b tb)(hc:PE X c tc)
 (hm:lastMarks [op,op'] [b,c]=false:=by with_unfolding_all rfl):PT X (.Compare a [op,op'] [b,c] pos) (sR (sS r r' ta tb tc)):=by
 intro Wt s σ H Q I h;refine isTrue_chain (ax (ha Wt s σ H _ I h) λv s1 ⟨x,H1,I1,r1,q1⟩=>test_link (ax (hb Wt s1 σ H1 _ I1 q1) λu s2 ⟨y,H2,I2,r2,q2⟩=>
  ax (ho Wt s2 σ H2 x y v u _ I2 r1 r2 q2) λd s3 ⟨z,H3,I3,r3,k,e,q3⟩=>?_)) hm
 subst e;cases r3;refine U5 ?_;cases k with
 | false=>
  obtain⟨k',e',q'⟩:=q3;cases e';exact ite_ff ⟨H3,I3,q'⟩
 | true=>
  refine ite_tt (test_last (ax (hc Wt s3 σ H3 _ I3 q3) λw' s4 ⟨z',H4,I4,r4,q4⟩=>ax (ho' Wt s4 σ H4 y z' u w' _ I4 r2 r4 q4) λd' s5 ⟨z2,H5,I5,r5,k2,e2,q5⟩=>?_));subst e2;cases r5;exact U5 ⟨H5,I5,q5⟩
theorem pd:(UN:Nat) < 2 ^ 63:=by rw [UT];decide
theorem sT:bu X (Vh .Add) (λx y H Q=>∃i j,x= .str i/\y= .str j/\i.length+j.length<=UN/\Q (.str (i++j)) H):=by
 intro Wt s σ H x y v u Q I rx ry h;obtain⟨i,j,rfl,rfl,hz,q⟩:=h;obtain⟨t,rfl⟩:=rx;obtain⟨t',rfl⟩:=ry;exact add_str (λt' tk=>⟨.str (i++j),H,I.tok _,⟨_,rfl⟩,q⟩) hz
theorem kY{x:V}{us:List UE}(r:aG [x] us):∃u,us=[u]/\aD x u:=by
 cases r with
 | cons r1 r2=>cases r2;exact⟨_,rfl,r1⟩
theorem pe{x y:V}{us:List UE}(r:aG [x,y] us):∃u w',us=[u,w']/\aD x u/\aD y w':=by
 cases r with
 | cons r1 r2=>
  cases r2 with
  | cons r3 r4=>cases r4;exact⟨_,_,rfl,r1,r3⟩
theorem FX(hc:X.calm=true):kq X (.builtin "max") (λxs H Q=>∃i j,xs=[.int i,.int j]/\Q (.int (if j > i then j else i)) H):=by
 intro Wt s σ H xs us Q I r h;obtain⟨i,j,rfl,q⟩:=h;obtain⟨u,w',rfl,⟨t,rfl⟩,⟨t',rfl⟩⟩:=pe r;refine max_two_ints (I.ok.hd hc) λh' tk k=>⟨_,H,I.kept k,?_,q⟩;by_cases hj:j > i
 ·rw [UA hj,UA hj];exact⟨_,rfl⟩
 ·rw [Uz hj,Uz hj];exact⟨_,rfl⟩
theorem vB(hc:X.calm=true):kq X (.builtin "min") (λxs H Q=>∃i j,xs=[.int i,.int j]/\Q (.int (if j < i then j else i)) H):=by
 intro Wt s σ H xs us Q I r h;obtain⟨i,j,rfl,q⟩:=h;obtain⟨u,w',rfl,⟨t,rfl⟩,⟨t',rfl⟩⟩:=pe r;refine min_two_ints (I.ok.hd hc) λh' tk k=>⟨_,H,I.kept k,?_,q⟩;by_cases hj:j < i
 ·rw [UA hj,UA hj];exact⟨_,rfl⟩
 ·rw [Uz hj,Uz hj];exact⟨_,rfl⟩
theorem sU:kq X (.type "int") (λxs H Q=>(∃i,xs=[.int i]/\Q (.int i) H)\/∃k,xs=[.bl k]/\Q (.int (if k then 1 else 0)) H):=by
 intro Wt s σ H xs us Q I r h;rcases h with⟨i,rfl,q⟩ | ⟨k,rfl,q⟩
 ·obtain⟨u,rfl,t,rfl⟩:=kY r;exact call_int_int ⟨.int i,H,I,⟨_,rfl⟩,q⟩
 ·obtain⟨u,rfl,r1⟩:=kY r;cases r1;exact call_int_bool ⟨.int (if k then 1 else 0),H,I.tok _,⟨_,rfl⟩,q⟩
theorem nN:kq X (.type "str") (λxs H Q=>∃i,xs=[.int i]/\i.natAbs.log2 < 1920/\Q (.str (toString i)) H):=by
 intro Wt s σ H xs us Q I r h;obtain⟨i,rfl,hz,q⟩:=h;obtain⟨u,rfl,t,rfl⟩:=kY r;exact PySem.P.str_of_int hz ⟨.str _,H,I.tok _,⟨_,rfl⟩,q⟩
def FY(K:NG)(x:V)(H:Hp)(n:Nat):Prop:=
 match x with
 | .str y=>y.length<=UN/\n=y.length
 | .byt y=>y.size<=UN/\n=y.size
 | .ref p=>(∃xs,bj K H p xs/\n=xs.length)\/∃xs,aX K H p xs/\n=xs.length
 | _=>False
theorem FZ:kq X (.builtin "len") (λxs H Q=>∃x n,xs=[x]/\FY X.K x H n/\Q (.int n) H):=by
 intro Wt s σ H xs us Q I r h;obtain⟨x,n,rfl,e,q⟩:=h;obtain⟨u,rfl,rx⟩:=kY r;have hl:=pd;have hs:UN=16777216:=UT;cases x with
 | str y=>
  obtain⟨t,rfl⟩:=rx;obtain⟨hy,e'⟩:y.length<=UN/\n=y.length:=e;subst e';exact len_str Uy ⟨.int _,H,I.tok _,⟨_,rfl⟩,q⟩
 | byt y=>
  obtain⟨t,rfl⟩:=rx;obtain⟨hy,e'⟩:y.size<=UN/\n=y.size:=e;subst e';exact PySem.W.len_bytes Uy ⟨.int _,H,I.tok _,⟨_,rfl⟩,q⟩
 | ref p=>
  cases rx;have e':(∃xs,bj X.K H p xs/\n=xs.length)\/∃xs,aX X.K H p xs/\n=xs.length:=e;rcases e' with⟨xs,hx,e'⟩ | ⟨xs,hx,e'⟩
  ·subst e';obtain⟨its,r',pl,hz⟩:=I.list hx;have hlen:=r'.length;exact S5 pl.isList (by simp only [Ol];omega) ⟨.int xs.length,H,I.tok _,⟨_,by simp only [Ol];rw [hlen]⟩,q⟩
  ·subst e';obtain⟨its,r',pl,hz⟩:=I.tuple hx;have hlen:=r'.length;exact len_tuple pl (by simp only [Ol];omega) ⟨.int xs.length,H,I.tok _,⟨_,by simp only [Ol];rw [hlen]⟩,q⟩
 | _=>exact(show False from e).elim
theorem F0:kq X (.builtin "divmod") (λxs H Q=>∃i j,xs=[.int i,.int j]/\bV i j/\∀p,H p=none->Q (.ref p) (ak H p (.tup [.int (i / j),.int (i % j)]))):=by
 intro Wt s σ H xs us Q I r h;obtain⟨i,j,rfl,⟨h1,h2⟩,q⟩:=h;obtain⟨u,w',rfl,⟨t,rfl⟩,⟨t',rfl⟩⟩:=pe r;refine divmod_int Uy ?_ (.inl (Sy Uy));rw [RX i Uy,RY i Uy];have hn:H s.heap.objs.size=none:=I.hok.fresh (NT _);refine⟨.ref s.heap.objs.size,_,?_,rfl,q _ hn⟩;refine I.laid (λb o e=>NJ _ e) (NT _) ⟨by simp only [NI,N7];rw [UT];decide,[.int (i / j) s.toks,.int (i % j) (s.toks+1)],.cons ⟨_,rfl⟩ (.cons ⟨_,rfl⟩ .nil),?_⟩;exact⟨_,N2 s.heap rfl,rfl,0,rfl⟩
end
structure vC (h:UR) (x dx C:UH) (mA:Str->Option UE):Prop where
 obj:h.get? x=some (Ss C dx)
 ns:h.Ns1 dx mA
 ne:dx≠x
theorem Bi{h:UR}{dx:UH}{mA:Str->Option UE}(n:h.Ns1 dx mA):∃od,h.get? dx=some od/\∀name,SA name od=some (mA name):=by
 obtain⟨o,es,ep,ho,hd,hk,_,hm⟩:=n;refine⟨o,ho,λname=>?_⟩;have e:=hm name;unfold nsFind findBy at e;rw [<-Array.find?_toList] at e;unfold SA;rw [hd];dsimp only;split
 ·rename_i y q;rw [q] at e;exact congrArg some e
 ·rename_i q;rw [q] at e;have a:es.toList.any (·.refKey)=false:=by
   rw [List.any_eq_false];intro y hy;obtain⟨z,t,hkey⟩:=hk y (Array.mem_toList_iff.mp hy);simp [DictEntry.refKey,hkey]
  have a':¬es.toList.any (·.refKey)=true:=by rw [a];exact Oq
  rw [Uz a'];exact congrArg some e
theorem vC.look{h:UR}{x dx C:UH}{mA:Str->Option UE}(I:vC h x dx C mA):∃od,Q0 h x (Ss C dx) C (some od)/\∀name,SA name od=some (mA name):=
 let ⟨od,ho,hl⟩:=Bi I.ns
 ⟨od,⟨I.obj,rfl,rfl,ho⟩,hl⟩
theorem p4.some_of{v:V}{o:Option UE}(r:p4 (some v) o):∃u,o=some u/\aD v u:=by
 cases o with
 | none=>exact(show False from r).elim
 | some u=>exact⟨u,rfl,r⟩
section
variable {P:US} {w:UU} {H H':Hp} {h h':UR} {a C dx:UH} {fs fs':List (Str×V)}
theorem F1(hok:bI P w H h)(e:H a=some (.ins C dx fs)):∃mA,vC h a dx C mA/\(∀f,p4 (fs.lookup f) (mA f))/\Uc mA (fs.map (·.1))/\fs.length<=1000/\H dx=some (.own a):=by
 obtain⟨d,z,ne,ob,mA,n,r,q⟩:=(show bE P w H h a (.ins C dx fs) from hok a _ e);exact⟨mA,⟨ob,n,ne⟩,r,q,z,d⟩
end
structure vD (K:NG) (C:UH):Prop where
 pg:TB K C RH=true
 hd:R4 K C=true
 po:PySem.W.plainOver K C=true
 sa:Pl K (.ref C) "__setattr__"=some (some (.builtin "object.__setattr__"))
theorem vD.get{K:NG}{C:UH}(c:vD K C)(f:Str):TB K C f=true:=c.pg
section
variable {X:Cx} {Wt:List (UH×Obj)} {σ:St} {H:Hp} {s:UI} {a C dx:UH} {fs:List (Str×V)} {f:Str} {v:V} {A:UX} {E:UE->UI->Prop}
theorem F2{prog:US}{w:UU}{env:Env}{e:UO}{f:Str}{pos:Pos}{s:UI}{Q:UE->UI->Prop}(hb:Vs e f env (eval e env)=eval e env)
 (h:UK (UL prog w) A (eval e env) (λo s₁=>UK (UL prog w) A (getAttr o f true) Q E s₁) E s):UK (UL prog w) A (eval (.Attribute e f pos) env) Q E s:=
 Attribute_any_ h (by rw [arm_eval_Attribute,hb])
end
section
variable {X:Cx} {Wt:List (UH×Obj)} {σ:St} {H:Hp} {s:UI} {A:UX} {E:UE->UI->Prop} {Q:UE->UI->Prop} {c:UE} {b:Bool}
inductive l8 (K:NG) (H:Hp):V->UE->Prop where
 | non:l8 K H .non (.type "NoneType")
 | bl (x:Bool):l8 K H (.bl x) (.type "bool")
 | int (i:Int):l8 K H (.int i) (.type "int")
 | str (x:Str):l8 K H (.str x) (.type "str")
 | flt (x:UInt64):l8 K H (.flt x) (.type "float")
 | lst {a:UH} {xs:List V} (e:H a=some (.lst xs)):l8 K H (.ref a) (.type "list")
 | frz {a:UH} {o:Obj} {xs:List V} (e:H a=some (.frz o (.lst xs))):l8 K H (.ref a) (.type "list")
 | tup {a:UH} {xs:List V} (e:H a=some (.tup xs)):l8 K H (.ref a) (.type "tuple")
 | dK {a:UH} {kvs:List (aZ×V)} (e:H a=some (.dK kvs)):l8 K H (.ref a) (.type "dict")
 | dT {a:UH} {kvs:List (List aZ×V)} (e:H a=some (.dT kvs)):l8 K H (.ref a) (.type "dict")
 | ins {a C dx:UH} {fs:List (Str×V)} (e:H a=some (.ins C dx fs)) (cl:vD K C) (ha:Pl K (.ref C) "__class__"=some (some (.builtin "object.__class__")))
  (hn:QX K (.builtin "object.__class__") "__get__"=some (some (.builtin "getset_descriptor.__get__"))) (htk:Su K (.builtin "object.__class__")=some true)
  (hm:P1 K C (.type "object")=some true):l8 K H (.ref a) (.ref C)
theorem F3{x:V}{u t:UE}(I:ag X Wt σ H s)(rx:aD x u)(ty:l8 X.K H x t)(e:QG X.K t c=some b)(h:∀tk,Q (.bool b) {s with toks:=tk}):
 UK (UL X.prog X.w) A (call (.builtin "isinstance") [u,c]) Q E s:=by
 cases ty with
 | non=>cases (show u=P9 from rx);exact PJ PySem.W.kitx_none I.kIn PV e (λz=>nomatch z) h
 | bl y=>cases (show u=QC y from rx);exact PJ PySem.W.kitx_bool I.kIn PV e (λz=>nomatch z) h
 | int i=>obtain⟨t,q⟩:=(show ∃t,u=RG i t from rx);cases q;exact PJ PySem.W.kitx_int I.kIn PV e (λz=>nomatch z) h
 | str y=>obtain⟨t,q⟩:=(show ∃t,u=Q4 y t from rx);cases q;exact PJ PySem.W.kitx_str I.kIn PV e (λz=>nomatch z) h
 | flt y=>obtain⟨t,q⟩:=(show ∃t,u=Ul y t from rx);cases q;exact PJ PySem.W.kitx_float I.kIn PV e (λz=>nomatch z) h
 | @lst a xs ea=>
  cases (show u=Ow a from rx);obtain⟨_,_,n,_,h1⟩:=(show bE X.prog X.w H s.heap a (.lst xs) from I.hok a _ ea);exact PJ Tn I.kIn ⟨_,h1,rfl⟩ e (λz=>nomatch z) h
 | @frz a ob xs ea=>
  cases (show u=Ow a from rx);obtain⟨_,_,_,n,_,h1⟩:=(show bE X.prog X.w H s.heap a (.frz ob (.lst xs)) from I.hok a _ ea);exact PJ Tn I.kIn ⟨_,h1,rfl⟩ e (λz=>nomatch z) h
 | @tup a xs ea=>
  cases (show u=Ow a from rx);obtain⟨_,_,_,p⟩:=(show bE X.prog X.w H s.heap a (.tup xs) from I.hok a _ ea);obtain⟨o,h1,h2,_⟩:=p;exact PJ PySem.W.kitx_tuple I.kIn ⟨o,h1,h2⟩ e (λz=>nomatch z) h
 | @dK a kvs ea=>
  cases (show u=Ow a from rx);obtain⟨_,_,vs,_,p⟩:=(show bE X.prog X.w H s.heap a (.dK kvs) from I.hok a _ ea);obtain⟨o,es,ep,h1,h2,_⟩:=p;exact PJ To I.kIn ⟨o,h1,h2.1⟩ e (λz=>nomatch z) h
 | @dT a kvs ea=>
  cases (show u=Ow a from rx);obtain⟨_,_,xs,_,o,es,ep,h1,h2,_⟩:=(show bE X.prog X.w H s.heap a (.dT kvs) from I.hok a _ ea);exact PJ To I.kIn ⟨o,h1,h2.1⟩ e (λz=>nomatch z) h
 | @ins a C dx fs ea cl ha hn htk hm=>
  cases (show u=Ow a from rx);obtain⟨mA,O,_⟩:=F1 I.hok ea;obtain⟨od,J,_⟩:=O.look;exact PJ (PySem.W.kitx_own (cl.get _) cl.hd ha hn htk hm) I.kIn J e (λz=>nomatch z) h
end
structure bH (k:Nat) (A:UX):Prop where
 hd:A.handled=none
 dp:A.depth+3*k+5 < recursionLimit
 un:A.units+16*k+200 < cLine
theorem bH.mono{j k:Nat}{A:UX}(r:bH k A)(h:j<=k):bH j A:=⟨r.hd,by have:=r.dp;omega,by have:=r.un;omega⟩
theorem bH.deeper{k:Nat}{A:UX}(r:bH (k+1) A)(env:Env):bH k (A.deeper env):=
 ⟨r.hd,by have:=r.dp;show A.depth+1+3*k+5 < _;omega,by have:=r.un;show A.units+3+16*k+200 < _;omega⟩
theorem F4{A:UX}{C:UH}{us:List UE}{kw:List (Str×UE)}:(A.under (.builtin "type.__call__" ⟨.ref C::us,kw⟩)).depth=A.depth+1:=by
 first | rfl | simp [Ta,Code.weight,Code.isCreation,Code.isGuard,Code.isCaller,Uo,Tb,guardIds]
theorem F5{A:UX}{C:UH}{us:List UE}{kw:List (Str×UE)}:(A.under (.builtin "type.__call__" ⟨.ref C::us,kw⟩)).units=A.units+1:=by
 first | rfl | simp [Ta,Code.cUnits,Uo,Tb]
theorem bH.make{k:Nat}{A:UX}(r:bH (k+1) A)(C:UH)(us:List UE)(kw:List (Str×UE)):bH k (A.under (.builtin "type.__call__" ⟨.ref C::us,kw⟩)):=
 ⟨r.hd,by have:=r.dp;rw [F4];omega,by have:=r.un;rw [F5];omega⟩
theorem bH.depth{k:Nat}{A:UX}(r:bH k A):A.depth < recursionLimit:=by have:=r.dp;omega
theorem bH.units{k:Nat}{A:UX}(r:bH k A):A.units+64 < cLine:=by have:=r.un;omega
theorem bH.units0{k:Nat}{A:UX}(r:bH k A):A.units < cLine:=by have:=r.un;omega
def sV:TA:=λ_ H Q=>Q [] H
def rz(ta:TE)(tr:TA):TA:=λσ H Q=>ta σ H λx H1=>tr σ H1 λxs H2=>Q (x::xs) H2
section
variable {X:Cx} {e:UO} {es:List UO} {te:TE} {t:TA} {pos:Pos}
theorem bF:PA X [] sV:=λ_ _ _ _ H Q I h=>Calls.spliced_nil ⟨[],H,I,.nil,h⟩
theorem aN(ha:PE X e te)(hr:PA X es t)(hs:UM (e::es) X.env=(false,eval e X.env)::UM es X.env:=by rfl):PA X (e::es) (rz te t):=by
 intro pos Wt s σ H Q I h;rw [hs];show UK _ _ (spliced ((false,eval e X.env)::U3 pos (UM es X.env))) _ _ s;refine Calls.spliced_cons (ax (ha Wt s σ H _ I h) λu s1 ⟨x,H1,I1,r1,q1⟩=>?_);exact ax (hr pos Wt s1 σ H1 _ I1 q1) λus s2 uu48=>by obtain⟨xs,H2,I2,r2,q2⟩:=uu48;exact⟨x::xs,H2,I2,.cons r1 r2,q2⟩
def vE(t:TA):TE:=λσ H Q=>t σ H λxs H1=>xs.length<=UN/\∀p,H1 p=none->Q (.ref p) (ak H1 p (.tup xs))
def vF(t:TA):TE:=λσ H Q=>t σ H λxs H1=>xs.length<=UN/\∀p,H1 p=none->Q (.ref p) (ak H1 p (.lst xs))
theorem sW{x1}(h:PA X es t):PE X (.Tuple es x1 pos) (vE t):=by
 intro Wt s σ H Q I hq;refine wpAny_Tuple_spliced (ax (h pos Wt s σ H _ I hq) λus s1 ⟨xs,H1,I1,r,z,q⟩=>⟨by rw [<-r.length];exact z,?_⟩);have hf:H1 s1.heap.objs.size=none:=I1.hok.fresh (NT _);refine⟨.ref s1.heap.objs.size,ak H1 s1.heap.objs.size (.tup xs),I1.laid (t':=s1.toks) (λb u e=>NJ _ e) (NT _) ?_,rfl,q _ hf⟩;exact⟨z,us,r,⟨_,N2 _ rfl,rfl,_,rfl⟩⟩
theorem vG(h:PA X es t):PE X (.List es pos) (vF t):=by
 intro Wt s σ H Q I hq;refine wpAny_List_spliced (ax (h pos Wt s σ H _ I hq) λus s1 ⟨xs,H1,I1,r,z,q⟩=>⟨by rw [<-r.length];exact z,?_⟩);have hf:H1 s1.heap.objs.size=none:=I1.hok.fresh (NT _);refine⟨.ref s1.heap.objs.size,ak H1 s1.heap.objs.size (.lst xs),I1.laid (t':=s1.toks) (λb u e=>NJ _ e) (NT _) ?_,rfl,q _ hf⟩;exact⟨z,us,0,r,N2 _ rfl⟩
end
abbrev Sp:=List V->Hp->VK->XK->Prop
abbrev kH:=List Env->Hp->UI->XK->UE->UI->Prop
structure pf (P:US) (w:UU) (K:NG) (mg:Str->Option UE) (base:UR) (A:UX) (outer:List Env) (s:UI) (H:Hp):Prop where
 frames:A.frames=some outer
 mod:Mod K mg base
 bs:∀b o,base.get? b=some o->s.heap.get? b=some o/\H b=none
 bsz:base.objs.size<=s.heap.objs.size
 funs:s.heap.FunFrames base outer
 frf:∀b∈cf outer,H b=none
 hok:bI P w H s.heap
 bare:VT s.gens
def CE(outer:List Env)(P:US)(w:UU)(H:Hp)(s:UI)(Q:VK)(u:UE)(s':UI):Prop:=
 ∃v H',s'.os=s.os/\VT s'.gens/\Un (cf outer) [] H H' s.heap s'.heap/\bI P w H' s'.heap/\aD v u/\Q v H'
def CR(CX:kH)(outer:List Env)(P:US)(w:UU)(H:Hp)(s:UI)(Q:VK)(E:XK)(r:Result)(s':UI):Prop:=
 match r with
 | .ok (.ret u)=>CE outer P w H s Q u s'
 | .ok _=>False
 | .error e=>CX outer H s E e s'
structure aC (P:US) (w:UU) (K:NG) (mg:Str->Option UE) (base:UR) (CX:kH) (k:Nat) (f:UH) (fd:UP) (ps:List Str) (sp:Sp):Prop where
 len:∀vs H Q E,sp vs H Q E->vs.length=ps.length
 run:∀(A:UX)(outer:List Env)(s:UI)(H:Hp)(args:Args)(us:List UE)(vs:List V)(Q:VK)(E:XK),bH k A->pf P w K mg base A outer s H->BindsTo s fd args (ps.zip us)->aG vs us->sp vs H Q E->
  Vy (UL P w) A (.call (.ref f) args) (CR CX outer P w H s Q E) s
theorem aC.imp{P:US}{w:UU}{K:NG}{mg:Str->Option UE}{base:UR}{CX:kH}{k:Nat}{f:UH}{fd:UP}{ps:List Str}{sp sp':Sp}(F:aC P w K mg base CX k f fd ps sp)
 (h:∀vs H Q E,sp' vs H Q E->sp vs H Q E):aC P w K mg base CX k f fd ps sp':=
 ⟨λvs H Q E q=>F.len vs H Q E (h _ _ _ _ q),λA outer s H args us vs Q E hr he hb hv hs=>F.run A outer s H args us vs Q E hr he hb hv (h _ _ _ _ hs)⟩
theorem pf.make{P:US}{w:UU}{K:NG}{mg:Str->Option UE}{base:UR}{A:UX}{outer:List Env}{s:UI}{H:Hp}(e:pf P w K mg base A outer s H)(C:UH)(us:List UE)(kw:List (Str×UE)):
 pf P w K mg base (A.under (.builtin "type.__call__" ⟨.ref C::us,kw⟩)) outer s H:=⟨by first | exact e.frames | (simpa [Ta,Code.envs,Tb,pushEnvs] using e.frames),e.mod,e.bs,e.bsz,e.funs,e.frf,e.hok,e.bare⟩
section
variable {X:Cx} {Wt:List (UH×Obj)} {σ:St} {H:Hp} {s s':UI}
theorem ag.env0(I:ag X Wt σ H s):pf X.prog X.w X.K X.mg X.base X.A X.stack s H:=
 ⟨I.ok.frames,I.ok.mod,I.bs,Oz I.ok.bsz I.sz,I.stack,I.stkFree,I.hok,I.bare⟩
theorem ag.after{Q:VK}{u:UE}(I:ag X Wt σ H s)(h:CE X.stack X.prog X.w H s Q u s'):EP X Wt σ Q u s':=by
 obtain⟨v,H',os,bare,un,hok,r,q⟩:=h;obtain⟨hh,g,d,t,os'⟩:=s';obtain rfl:os'=s.os:=os;exact⟨v,H',I.call (h':=hh) (g':=g) (d':=d) (t':=t) (ch:=[]) un hok bare (λb z=>absurd z UC),r,q⟩
end
def rA(sp:Sp)(dvs:List V)(E:XK)(t:TA):TE:=λσ H Q=>t σ H λvs H1=>sp (vs++dvs) H1 Q E
def l9(K:NG)(fd:UP)(ps:List Str)(ds:List UE):Prop:=
 ∀(s:UI)(us:List UE),K.In s.heap->(us++ds).length=ps.length->BindsTo s fd ⟨us,[]⟩ (ps.zip (us++ds))
theorem l9.all{K:NG}{fd:UP}{ps:List Str}(h:∀us:List UE,us.length=ps.length->bindArgs fd ⟨us,[]⟩=pure (ps.zip us)):l9 K fd ps []:=λs us _ hl=>by
 rw [NZ] at hl⊢;exact .of_eq (h us hl)
def qg(CX:kH)(X:Cx)(E:XK):Prop:=∀(Wt:List (UH×Obj))(σ:St)(H:Hp)(s:UI)(e:UE)(s':UI),ag X Wt σ H s->CX X.stack H s E e s'->X.xe e s'
section
variable {X:Cx} {CX:kH} {k:Nat} {f C:UH} {fd:UP} {ps:List Str} {sp:Sp} {dvs:List V} {ds:List UE} {E:XK} {x m:Str} {p pos apos:Pos} {e o:UO} {es:List UO} {ta:TE} {t:TA}
theorem F6{Wt:List (UH×Obj)}{σ:St}{H:Hp}{s:UI}{Q:VK}{us:List UE}{vs:List V}(F:aC X.prog X.w X.K X.mg X.base CX k f fd ps sp)(hr:bH k X.A)(hb:l9 X.K fd ps ds)(hd:aG dvs ds)(hx:qg CX X E)
 (I:ag X Wt σ H s)(r:aG vs us)(h:sp (vs++dvs) H Q E):UK (UL X.prog X.w) X.A (call (.ref f) us) (EP X Wt σ Q) X.xe s:=by
 have r2:aG (vs++dvs) (us++ds):=r.append hd;have hl:(us++ds).length=ps.length:=by rw [<-r2.length];exact F.len _ _ _ _ h
 refine VV (Vo (F.run X.A X.stack s H ⟨us,[]⟩ (us++ds) (vs++dvs) Q E hr I.env0 (hb s us I.kIn hl) r2 h) λr s' hq=>?_);cases r with
 | error e=>exact hx Wt σ H s e s' I hq
 | ok fl=>
  cases fl with
  | ret u=>exact I.after hq
  | next=>exact Pw hq
  | brk=>exact Pw hq
  | cont=>exact Pw hq
theorem F7(F:aC X.prog X.w X.K X.mg X.base CX k f fd ps sp)(hr:bH k X.A)(hg:Gl X x)(hm:X.mg x=some (.ref f))(hk:Qk X.K (.ref f)=true)(hb:l9 X.K fd ps ds)(hd:aG dvs ds)(hx:qg CX X E)
 (ha:PA X (e::es) t)(hdb:(x==("__debug__":Str))=false:=by decide)(he:UM (e::es) X.env=(false,eval e X.env)::UM es X.env:=by rfl)(hpl:(U3 pos (UM es X.env)).any (·.1)=false:=by rfl):
 PE X (.Call (.Name x p) (e::es) [] pos) (rA sp dvs E t):=by
 intro Wt s σ H Q I h;refine Vp (oj I hg hm ?_ hdb);refine Rf (h₀:=X.base) I.ok.mod.kin hk (ax (ha pos Wt s σ H _ I h) λus s1 ⟨vs,H1,I1,r,q⟩=>⟨I1.kIn,?_⟩) he hpl;exact F6 F hr hb hd hx I1 r q
end
section
variable {X:Cx} {CX:kH} {k:Nat} {f C:UH} {fd:UP} {ps ks:List Str} {sp:Sp} {E:XK} {x m:Str} {p pos apos kpos:Pos} {e o:UO} {es:List UO} {kws:List VE} {te ta:TE} {t tk:TA} {nm:Option Str}
variable {g:List UE->List UE->List UE} {gV:List V->List V->List V}
end
structure aQ (N P:List Str) (sc:Vc):Prop where
 kind:sc.kind= .function
 co:sc.isCoroutine=false
 gen:sc.isGenerator=false
 nd:N.Nodup
 pre:N.take P.length=P
 par:∀x∈P,sc.names.lookup x=some .local\/sc.names.lookup x=some .cell
 nofree:∀y∈sc.names,y.2≠ .free
theorem Bj{kindOf:Str->Option Vd}{x:Str}:∀{binds:List (Str×UE)}{m:Str->Option UE},(∀v,(x,v)∉ binds)->bindL kindOf binds m x=m x
 | [],_,_=>rfl
 | (n,v)::r,m,h=>by
  unfold bindL;rw [Bj λw hw=>h w (OY _ hw)];split
  ·have:x≠n:=by rintro rfl;exact h v PH
   simp [this]
  ·rfl
theorem Bk{kindOf:Str->Option Vd}{x:Str}:∀{binds:List (Str×UE)}{m:Str->Option UE},(∀v,(x,v)∉ binds)->bindC kindOf binds m x=m x
 | [],_,_=>rfl
 | (n,v)::r,m,h=>by
  unfold bindC;rw [Bk λw hw=>h w (OY _ hw)];split
  ·rfl
  ·have:x≠n:=by rintro rfl;exact h v PH
   simp [this]
theorem Bl{kindOf:Str->Option Vd}{x:Str}{v:UE}:∀{P:List Str}{vs:List UE}{i:Nat}{m:Str->Option UE},P.Nodup->P[i]?=some x->vs[i]?=some v->kindOf x=some .local->
 bindL kindOf (P.zip vs) m x=some v
 | [],_,_,_,_,h,_,_=>by simp at h
 | _::_,[],_,_,_,_,h,_=>by simp at h
 | p::P,w::vs,0,m,nd,h1,h2,hk=>by
  simp at h1 h2;subst h1;subst h2;show bindL kindOf ((p,w)::P.zip vs) m p=_;unfold bindL;rw [Bj λv hv=>(RK.mp nd).1 (Sv hv).1,UA hk];simp
 | p::P,w::vs,i+1,m,nd,h1,h2,hk=>by
  show bindL kindOf ((p,w)::P.zip vs) m x=_;unfold bindL;exact Bl (i:=i) (RK.mp nd).2 (by simpa using h1) (by simpa using h2) hk
theorem Bm{kindOf:Str->Option Vd}{x:Str}{v:UE}:∀{P:List Str}{vs:List UE}{i:Nat}{m:Str->Option UE},P.Nodup->P[i]?=some x->vs[i]?=some v->kindOf x≠some .local->
 bindC kindOf (P.zip vs) m x=some v
 | [],_,_,_,_,h,_,_=>by simp at h
 | _::_,[],_,_,_,_,h,_=>by simp at h
 | p::P,w::vs,0,m,nd,h1,h2,hk=>by
  simp at h1 h2;subst h1;subst h2;show bindC kindOf ((p,w)::P.zip vs) m p=_;unfold bindC;rw [Bk λv hv=>(RK.mp nd).1 (Sv hv).1,Uz hk];simp
 | p::P,w::vs,i+1,m,nd,h1,h2,hk=>by
  show bindC kindOf ((p,w)::P.zip vs) m x=_;unfold bindC;exact Bm (i:=i) (RK.mp nd).2 (by simpa using h1) (by simpa using h2) hk
def start(N:List Str)(vs:List V):St:=vs.map some++NO (N.length - vs.length) none
def jS(CX:kH)(P:US)(w:UU)(K:NG)(mg:Str->Option UE)(base:UR)(N:List Str)(qual:Str)(scope:Vc)(f:UH)(cd:UE)(A:UX)(outer:List Env)(s:UI)(H:Hp)(E:XK):Cx where
 prog:=P
 w:=w
 K:=K
 mg:=mg
 base:=base
 A:=A.deeper (VN qual scope s.heap.objs.size f cd)
 N:=N
 s₀:=s
 H₀:=H
 env:=VN qual scope s.heap.objs.size f cd
 outer:=outer
 stack:=VN qual scope s.heap.objs.size f cd::outer
 ex:=[]
 calm:=true
 fn:=λ_=>true
 pn:=[]
 xe:=λe s'=>UK (UL P w) (A.deeper (VN qual scope s.heap.objs.size f cd)) (leaving (VN qual scope s.heap.objs.size f cd) e) (λ_ s''=>CX outer H s E e s'') (λe' s''=>CX outer H s E e' s'') s'
theorem Bn{sc:Vc}{n:Nat}{x:Str}(h:sc.names.lookup x=some .cell):∃c,(Vb n sc.names []).lookup x=some c:=by
 have q:=Rx sc.names n [] (.inl h);exact Qo.mp q
theorem F8{CX:kH}{P:US}{w:UU}{K:NG}{mg:Str->Option UE}{base:UR}{N ps:List Str}{qual:Str}{scope:Vc}{f:UH}{cd:UE}{A:UX}{outer:List Env}{s s1:UI}{H:Hp}{E:XK}{us:List UE}{vs:List V}
 (S:aQ N ps scope)(hd:A.handled=none)(e0:pf P w K mg base A outer s H)(hl:vs.length=ps.length)(r:aG vs us)
 (x:InCallC s s.heap.objs.size (bindL (VN qual scope s.heap.objs.size f cd).kindOf (ps.zip us) λ_=>none) (Vb (s.heap.objs.size+1) scope.names []) (bindC (VN qual scope s.heap.objs.size f cd).kindOf (ps.zip us) λ_=>none) s1):
 ag (jS CX P w K mg base N qual scope f cd A outer s H E) [] (start N vs) H s1:=by
 have hpl:ps.length<=N.length:=by have:=congrArg QU S.pre;rw [Pm] at this;omega
 obtain⟨h1,tk,rfl,hk⟩:=x.done;have noA:∀b:UH,b ∉ (jS CX P w K mg base N qual scope f cd A outer s H E).ex:=λb z=>absurd (show b∈([]:List UH) from z) UC;refine⟨⟨e0.mod,S.kind,rfl,rfl,NT _,λy z c h1 h2=>?_,λy hy=>?_,λy c _ h=>?_,λ_=>hd,Around.frames_deeper e0.frames,.inr ⟨rfl,rfl⟩,λb z=>absurd z (noA b),e0.bs,e0.bsz,λb _ _=>noA b,λb z=>absurd z (noA b),e0.funs,e0.frf⟩,
  rfl,e0.bare,Un.kept hk,⟨_,x.toInCall.ns,λi y v h1 h2 h3=>?_⟩,λy c h=>⟨_,x.cell y c h⟩,e0.hok.fresh (NT _),λy c h=>?_,λp hp=>absurd (show p∈([]:List (UH×Obj)) from hp) UC,e0.hok.kept hk,?_⟩
 ·exact name_of_addr x.apart (Qg h1) (Qg h2)
 ·have hy:scope.names.lookup y=some .cell\/scope.names.lookup y=some .free:=hy;rcases hy with hy | hy
  ·exact Bn hy
  ·exact absurd rfl (S.nofree _ (Qg hy))
 ·exact Rc (x.above y c (Qg h))
 ·have hi:i < vs.length:=by
   unfold start at h2;by_cases hi:i < vs.length
   ·exact hi
   ·rw [QA (by simpa using hi)] at h2;rw [QN] at h2;split at h2 <;> cases h2
  have ha:vs[i]?=some v:=by
   unfold start at h2;rw [Qm (by simpa using hi),PX] at h2;cases e:vs[i]? with
   | none=>rw [e] at h2;cases h2
   | some a=>rw [e] at h2;cases h2;rfl
  obtain⟨u,hu,rv⟩:=r.get ha;have hp:ps[i]?=some y:=by
   rw [<-S.pre,List.getElem?_take_of_lt Uy];exact h1
  have ndP:ps.Nodup:=by rw [<-S.pre];exact S.nd.sublist (R5 _ _)
  refine⟨u,rv,?_⟩;rcases S.par y (PK hp) with k | k
  ·exact .inl ⟨k,Bl ndP hp hu k⟩
  ·obtain⟨c,e⟩:=Bn (n:=s.heap.objs.size+1) k;refine .inr ⟨.inl k,c,e,?_⟩;have q:=x.cell y c e;rw [Bm ndP hp hu (by show scope.names.lookup y≠_;rw [k];decide)] at q;exact q
 ·exact e0.hok.fresh (Rc (x.above y c (Qg h)))
 ·unfold start;show _=N.length;rw [Pp,NQ,SD];omega
theorem Bo{CX:kH}{P:US}{w:UU}{K:NG}{mg:Str->Option UE}{base:UR}{k:Nat}{f:UH}{name qual:Str}{params:Arguments}{body:List UW}{scope:Vc}{dV kV doc pm cdv ct oc:UE}{an od:Option UH}
 {osl:Array (Option UE)}{N ps:List Str}{sp:Sp}(lk:K.lookup f=some ⟨oc,od,.func (P7 name qual params body scope dV kV doc pm an cdv ct),osl⟩)(hcd:Rm K cdv qual=true)(S:aQ N ps scope)
 (len:∀vs H Q E,sp vs H Q E->vs.length=ps.length)
 (hbody:∀(A:UX) (outer:List Env) (s:UI) (H:Hp) (vs:List V) (Q:VK) (E:XK),bH k (A.deeper (VN qual scope s.heap.objs.size f cdv))->sp vs H Q E->
   ∃t,bJ (jS CX P w K mg base N qual scope f cdv A outer s H E) body t/\t {nx:=λ_ H'=>Q .non H',rt:=Q} (start N vs) H):
 aC P w K mg base CX (k+1) f (P7 name qual params body scope dV kV doc pm an cdv ct) ps sp:=by
 refine⟨len,λA outer s H args us vs Q E hr e0 hb r hsp=>?_⟩;have hl:=len _ _ _ _ hsp;have KX:K.In s.heap:=e0.mod.kin.keeps λb o e=>(e0.bs b o e).1;have lim:s.heap.NoLimit:=e0.mod.nolimit.keeps λb o e=>(e0.bs b o e).1;have hkind:∀y∈ps.zip us,scope.names.lookup y.1=some .local\/(scope.names.lookup y.1=some .cell/\((Vb (s.heap.objs.size+1) scope.names []).lookup y.1).isSome=true):=λuu52 hy=>by
  obtain⟨n,v⟩:=uu52;rcases S.par n (Sv hy).1 with q | q
  ·exact .inl q
  ·exact .inr ⟨q,Rx _ _ _ (.inl q)⟩
 refine codeAny_call_function hr.depth (KX _ _ lk) rfl S.co S.gen rfl (PySem.W.codeRec_of KX hcd) (hb _ _ _ _ ?_);refine wpAny_newFunctionEnv_cells S.kind hkind λenv he s1 x=>?_;subst he;refine⟨lim.keeps x.toInCall.keep,codeAny_func ?_⟩;obtain⟨t,ht,hq⟩:=hbody A outer s H vs Q E (hr.deeper _) hsp;have I:ag (jS CX P w K mg base N qual scope f cdv A outer s H E) [] (start N vs) H s1:=F8 S hr.hd e0 hl r x;refine U2 (ht [] s1 (start N vs) H _ I hq) (λfl s' hs=>?_) λe s' hs=>hs;have fin:∀{σ':St}{H':Hp}{v:V}{u:UE},ag (jS CX P w K mg base N qual scope f cdv A outer s H E) [] σ' H' s'->aD v u->Q v H'->CE outer P w H s Q u s':=
  λ{σ' H' v u} J rv q=>⟨v,H',J.os,J.bare,J.base,J.hok,rv,q⟩
 cases fl with
 | ret u=>
  obtain⟨v,σ',H',J,rv,q⟩:=hs;exact fin J rv q
 | next=>
  obtain⟨σ',H',J,q⟩:=hs;exact fin (v:=V.non) (u:=P9) J rfl q
 | brk=>
  obtain⟨_,_,_,q⟩:=hs;exact Pw q
 | cont=>
  obtain⟨_,_,_,q⟩:=hs;exact Pw q
section
variable {X:Cx} {x:Str} {p pos:Pos} {e:UO} {es:List UO} {t:TA} {id T:String} {r:List V->Hp->VK->Prop}
def rB(r:List V->Hp->VK->Prop)(t:TA):TE:=λσ H Q=>t σ H λvs H1=>r vs H1 Q
theorem aT(hc:kq X (.builtin id) r)(hg:Gl X x)(hm:X.mg x=none)(hv:U0 x=some (.builtin id))(ha:PA X (e::es) t)(hn:x≠"__name__":=by decide)(hdb:(x==("__debug__":Str))=false:=by decide)
 (he:UM (e::es) X.env=(false,eval e X.env)::UM es X.env:=by rfl)(hpl:(U3 pos (UM es X.env)).any (·.1)=false:=by rfl):PE X (.Call (.Name x p) (e::es) [] pos) (rB r t):=by
 intro Wt s σ H Q I h;refine Vp (p5 I hg hm hv ?_ hn hdb);exact PyProof.Rows.callWith_builtin1 (ax (ha pos Wt s σ H _ I h) λus s1 uu53=>by obtain⟨vs,H1,I1,r1,q1⟩:=uu53;exact hc Wt s1 σ H1 vs us Q I1 r1 q1) he hpl
theorem cw(hc:kq X (.type T) r)(hg:Gl X x)(hm:X.mg x=none)(hv:U0 x=some (.type T))(ha:PA X (e::es) t)(hn:x≠"__name__":=by decide)(hdb:(x==("__debug__":Str))=false:=by decide)
 (he:UM (e::es) X.env=(false,eval e X.env)::UM es X.env:=by rfl)(hpl:(U3 pos (UM es X.env)).any (·.1)=false:=by rfl):PE X (.Call (.Name x p) (e::es) [] pos) (rB r t):=by
 intro Wt s σ H Q I h;refine Vp (p5 I hg hm hv ?_ hn hdb);exact Qv (ax (ha pos Wt s σ H _ I h) λus s1 uu54=>by obtain⟨vs,H1,I1,r1,q1⟩:=uu54;exact hc Wt s1 σ H1 vs us Q I1 r1 q1) he hpl
end
end L2
namespace HT
open PySem PyProof.Rows
def lexLt:List Int->List Int->Bool
 | [],[]=>false
 | [],_::_=>true
 | _::_,[]=>false
 | x::xs,y::ys=>if x=y then lexLt xs ys else decide (x < y)
section
open PySem.SeqAt
open PySem.AutoSeq1 (wpAny_loadPart')
open PySem.MeetsSeq PySem.MeetsSeq2 PySem.MeetsSeq3
end
section
variable {prog:US} {w:UU} {A:UX} {E:UE->UI->Prop} {s:UI}
theorem cat_tup{t b:UH}{vs ws:List UE}{Q:UE->UI->Prop}(ht:IsTup s.heap t vs.toArray)(hb:IsTup s.heap b ws.toArray)(hv:vs≠[])
 (h1:ws=[]->Q (.ref t) s)(h2:ws≠[]->Q (.ref s.heap.objs.size) {s with heap:=s.heap.push {cls:= .type "tuple",data:= .seq (vs++ws).toArray}})
 (hsz:vs.length+ws.length<=UN):UK (UL prog w) A (Vh .Add (.ref t) (.ref b)) Q E s:=by
 obtain⟨⟨cls,dd,data,sl⟩,ho,hc,n,hd⟩:=id ht;obtain⟨⟨cls2,dd2,data2,sl2⟩,ho2,hc2,n2,hd2⟩:=id hb;simp only at hc hd hc2 hd2;subst hc hd hc2 hd2;have e:vs.toArray++ws.toArray=(vs++ws).toArray:=UC
 by_cases hw:ws=[]
 ·exact concat_meets ⟨_,ho,rfl⟩ ⟨_,ho2,rfl⟩ Wq seq_tuple_add Ry Rq (Rg _ _)
   (tuple_addW1 t b vs.toArray ws.toArray n n2 dd dd2 sl sl2 (by simpa using hv) (by simp [hw])) ⟨ho,ho2,h1 hw⟩
 ·refine concat_meets ⟨_,ho,rfl⟩ ⟨_,ho2,rfl⟩ Wq seq_tuple_add Ry Rq (Rg _ _)
   (tuple_addW2 t b vs.toArray ws.toArray n n2 dd dd2 sl sl2 (by simpa using hv) (by simpa using hw) (by rw [Ol,Ol];exact hsz)) ⟨ho,ho2,?_⟩
  rw [e];exact h2 hw
def sIx(n d:Nat):Option Int->Nat
 | none=>d
 | some v=>if v < 0 then(v+(n:Int)).toNat else min v.toNat n
theorem ph(n d:Nat):sIx n d none=d:=rfl
theorem sIx_nat(n d k:Nat):sIx n d (some (k:Int))=min k n:=by
 show(if (k:Int) < 0 then((k:Int)+(n:Int)).toNat else min (k:Int).toNat n)=min k n;rw [Uz Uy,O8]
theorem sIx_le(n d:Nat)(hd:d<=n)(o:Option Int):sIx n d o<=n:=by
 cases o with
 | none=>exact hd
 | some v=>
  show(if v < 0 then(v+(n:Int)).toNat else min v.toNat n)<=n;by_cases hv:v < 0
  ·rw [UA hv];omega
  ·rw [Uz hv];exact TC _ _
theorem Bp(v:Int)(n d:Nat):(if v < 0 then max (v+(n:Int)) 0 else min v (n:Int))=((sIx n d (some v):Nat):Int):=by
 show(if v < 0 then max (v+(n:Int)) 0 else min v (n:Int))=(((if v < 0 then(v+(n:Int)).toNat else min v.toNat n):Nat):Int);by_cases hv:v < 0
 ·simp only [UA hv];omega
 ·simp only [Uz hv];omega
theorem F9(lo hi:Option Int)(n:Nat):Q8 lo hi 1 (n:Int)=(((sIx n 0 lo:Nat):Int),((sIx n n hi:Nat):Int)):=by
 have h1:¬((1:Int) < 0):=Uy
 unfold Q8;simp only [h1,if_false];refine Prod.ext ?_ ?_
 ·cases lo with
  | none=>rfl
  | some v=>exact Bp v n 0
 ·cases hi with
  | none=>rfl
  | some v=>exact Bp v n n
theorem Ga(i j:Nat):QD (i:Int) (j:Int) 1=j - i:=by
 unfold QD;have h1:(1:Int) > 0:=Uy
 simp only [h1,if_true,Ue];split <;> omega
theorem Bq{v:UE}{o:Option Int}{Q:Option Int->UI->Prop}(p:IsPart v o)(h:Q o s):UK (UL prog w) A (Builtin.Slice.slicePartIndex v) Q E s:=by
 cases p with
 | none=>exact slicePart_none h
 | int i t=>exact slicePart_int h
theorem sliceApplied_gen{sl:UH}{vl vu:UE}{lo hi:Option Int}{n:Nat}{Q:Int×Int×Nat->UI->Prop}(hs:s.heap.IsSliceOf sl vl vu .none)(pl:IsPart vl lo)(pu:IsPart vu hi)
 (h:Q (((sIx n 0 lo:Nat):Int),1,sIx n n hi - sIx n 0 lo) s):UK (UL prog w) A (RZ (.ref sl) (pure (n:Int))) Q E s:=by
 obtain⟨os,hos,hcs,hds⟩:=id hs;unfold RZ Builtin.Slice.sliceFields;refine UG (UG (U9 hos hds (x:=vl) rfl (UG (U9 hos hds (x:=vu) rfl (UG (U9 hos hds (x:= .none) rfl (UJ ?_)))))));refine UG (slicePart_none ?_);show UK _ _ (if ((1:Int)==0)=true then _ else _) _ _ s;rw [Uz Ce];refine UG (Bq pl (UG (Bq pu (UG (UJ ?_)))));show UK _ _ (match Q8 lo hi 1 (n:Int) with | (lo,hi)=>pure (lo,(1:Int),QD lo hi 1)) _ _ s;rw [F9 lo hi n];show UK _ _ (pure (((sIx n 0 lo:Nat):Int),(1:Int),QD ((sIx n 0 lo:Nat):Int) ((sIx n n hi:Nat):Int) 1)) _ _ s;rw [Ga];exact UJ h
theorem Gb(xs:Array UE)(i k:Nat):((PD k).filterMap λ(m:Nat)=>xs[((i:Int)+(m:Int)*1).toNat]?).toArray=((xs.toList.drop i).take k).toArray:=by
 have e:(λ(m:Nat)=>xs[((i:Int)+(m:Int)*1).toNat]?)=λm=>xs[i+m]?:=by
  funext m;have:((i:Int)+(m:Int)*1).toNat=i+m:=Uy
  rw [this]
 rw [e];have:=pick_run xs i k;rw [Tc] at this;have e2:((λx=>xs[x]?)∘ λx=>i+x)=λm=>xs[i+m]?:=rfl;rw [e2] at this;rw [this]
theorem getItem_tuple_cut{t sl:UH}{items:Array UE}{vl vu:UE}{lo hi:Option Int}{Q:UE->UI->Prop}(ht:IsTup s.heap t items)(hs:s.heap.IsSliceOf sl vl vu .none)(pl:IsPart vl lo)(pu:IsPart vu hi)
 (hw:¬(sIx items.size 0 lo=0/\sIx items.size items.size hi=items.size))
 (h:Q (.ref s.heap.objs.size) {s with heap:=s.heap.push {cls:= .type "tuple",data:= .seq ((items.toList.drop (sIx items.size 0 lo)).take (sIx items.size items.size hi - sIx items.size 0 lo)).toArray}})
 (hsz:items.size<=UN):UK (UL prog w) A (V5 (.ref t) (.ref sl)) Q E s:=by
 have htake:sizeOk (.seq ((items.toList.drop (sIx items.size 0 lo)).take (sIx items.size items.size hi - sIx items.size 0 lo)).toArray):=by
  show((items.toList.drop (sIx items.size 0 lo)).take (sIx items.size items.size hi - sIx items.size 0 lo)).toArray.size<=UN;rw [Ol,Pm,Pu,NY];omega
 have hj:sIx items.size items.size hi<=items.size:=sIx_le _ _ (NT _) hi;obtain⟨os,hos,hcs,hds⟩:=id hs;have hTs:s.TypeIs (.ref sl) "slice":=⟨os,hos,hcs⟩;unfold V5
 try with_reducible refine U8 ?_
 first | refine UG (UJ ?_) | skip
 refine UG (wpAny_sequenceKey ht.typeIs Ce ?_);refine UG (U1 (name:=NF "__getitem__") ht.typeIs Qn
  (U4 Qn ht.typeIs entry_tuple_getitem ?_ (args_tuple_getitem _ _)))
 show UK _ _ (R0 (.ref t) >>=_) _ _ s;refine UG (tupleItemsOf_ ht ?_);refine UG (V9 hTs ?_);rw [UA Ce];refine UG (sliceApplied_gen hs pl pu ?_);have hno:¬((((sIx items.size 0 lo:Nat):Int)==0 && (1:Int)==1 && (sIx items.size items.size hi - sIx items.size 0 lo)==items.size)=true):=by
  intro q;rw [Oh,Oh] at q;have q1:((sIx items.size 0 lo:Nat):Int)=0:=eq_of_beq q.1.1;have q2:sIx items.size items.size hi - sIx items.size 0 lo=items.size:=eq_of_beq q.2;exact hw ⟨Uy,Uy⟩
 show UK _ _ (if (((sIx items.size 0 lo:Nat):Int)==0 && (1:Int)==1 && (sIx items.size items.size hi - sIx items.size 0 lo)==items.size)=true then _ else _) _ _ s;rw [Uz hno,Gb]
 first
  | exact UG (m:=QH _) (UZ (UJ ⟨_,rfl,UJ h⟩) htake)
  | exact UG (m:=QH _) (UZ (UG (UJ (UJ ⟨_,rfl,UJ h⟩))) htake)
  | exact UG (UG (m:=QH _) (UZ (UJ (UJ ⟨_,rfl,UJ h⟩)) htake))
  | exact UG (UG (m:=QH _) (UZ (UJ ⟨_,rfl,UJ h⟩) htake))
end
end HT
namespace L2
open PySem PySem.Spec PyProof.Rows
abbrev TO:=St->Hp->(Option Int->Hp->Prop)->Prop
def PO(X:Cx)(e:Option UO)(t:TO):Prop:=
 ∀(Wt:List (UH×Obj))(s:UI)(σ:St)(H:Hp)(Q:Option Int->Hp->Prop),ag X Wt σ H s->t σ H Q->
  UK (UL X.prog X.w) X.A (evalPart e X.env) (λu s'=>∃o H',ag X Wt σ H' s'/\IsPart u o/\Q o H') X.xe s
def Gd:TO:=λ_ H Q=>Q none H
def Ge(t:TE):TO:=λσ H Q=>t σ H λx H1=>∃i,x= .int i/\Q (some i) H1
theorem Gf{ns:List Int}:∀{us:List UE},aG (ns.map V.int) us->IntsAre us ns:=by
 induction ns with
 | nil=>intro us r;rw [Od] at r;cases r;exact .nil
 | cons n ns ih=>
  intro us r;rw [NM] at r;cases r with
  | cons r1 r2=>
   obtain⟨t,e⟩:=r1;subst e;exact .cons n t (ih r2)
section
variable {X:Cx} {e:UO} {te:TE} {lo hi:Option UO} {tl th:TO} {pos p2:Pos}
theorem Gg:PO X none Gd:=by
 intro Wt s σ H Q I h;rw [evalPart_none];exact UJ ⟨none,H,I,.none,h⟩
theorem Gh(h:PE X e te):PO X (some e) (Ge te):=by
 intro Wt s σ H Q I hw;rw [evalPart_some];refine ax (h Wt s σ H _ I hw) λu s1 ⟨x,H1,I1,r1,q1⟩=>?_;obtain⟨i,rfl,q⟩:=q1;obtain⟨t,rfl⟩:=r1;exact⟨some i,H1,I1,.int i t,q⟩
def rC(X:Cx)(r:V->Option Int->Option Int->Hp->VK->Prop):Prop:=
 ∀(Wt:List (UH×Obj))(s:UI)(σ:St)(H:Hp)(x:V)(v vl vu:UE)(lo hi:Option Int)(sl:UH)(Q:VK),ag X Wt σ H s->aD x v->s.heap.IsSliceOf sl vl vu .none->IsPart vl lo->IsPart vu hi->r x lo hi H Q->
  ∃T id,typeLookup (.type T) "__getitem__"=pure (some (.builtin id))/\s.TypeIs v T/\UK (UL X.prog X.w) X.A (V5 v (.ref sl)) (EP X Wt σ Q) X.xe s
def Gi(r:V->Option Int->Option Int->Hp->VK->Prop)(te:TE)(tl th:TO):TE:=λσ H Q=>te σ H λx H1=>tl σ H1 λl H2=>th σ H2 λu H3=>r x l u H3 Q
theorem vH{r:V->Option Int->Option Int->Hp->VK->Prop}(hr:rC X r)(he:PE X e te)(hl:PO X lo tl)(hu:PO X hi th):PE X (.Subscript e (.Slice lo hi none p2) pos) (Gi r te tl th):=by
 intro Wt s σ H Q I h;refine Subscript_ (ax (he Wt s σ H _ I h) λv s1 ⟨x,H1,I1,r1,q1⟩=>?_);refine wpAny_Slice (ax (hl Wt s1 σ H1 _ I1 q1) λvl s2 ⟨l,H2,I2,pl,q2⟩=>ax (hu Wt s2 σ H2 _ I2 q2) λvu s3 ⟨u,H3,I3,pu,q3⟩=>?_);rw [evalPart_none];refine UJ ?_;have I4:ag X Wt σ H3 {s3 with heap:=s3.heap.push {cls:= .type "slice",data:= .fields #[vl,vu,.none]}}:=I3.kept (t':=s3.toks) λb ob q=>NJ _ q;obtain⟨T,id,hT,ht,hg⟩:=hr Wt {s3 with heap:=s3.heap.push {cls:= .type "slice",data:= .fields #[vl,vu,.none]}} σ H3 x v vl vu l u s3.heap.objs.size Q I4 r1 (Td ..) pl pu q3;show UK (UL X.prog X.w) X.A (subscriptTail e (.Slice lo hi none p2) v (.ref s3.heap.objs.size)) (EP X Wt σ Q) X.xe {s3 with heap:=s3.heap.push {cls:= .type "slice",data:= .fields #[vl,vu,.none]}};exact tail_any (ops:=[.ref s3.heap.objs.size,v]) ht hT hg (by with_unfolding_all rfl)
def nO(xs:List V)(lo hi:Option Int):List V:=(xs.drop (HT.sIx xs.length 0 lo)).take (HT.sIx xs.length xs.length hi - HT.sIx xs.length 0 lo)
theorem Br(xs:List V)(lo hi:Option Int):(nO xs lo hi).length<=xs.length:=by
 unfold nO;rw [Pm,Pu];omega
def Gj(K:NG):V->Option Int->Option Int->Hp->VK->Prop:=λx lo hi H Q=>∃a xs,x= .ref a/\aX K H a xs/\
 ¬(HT.sIx xs.length 0 lo=0/\HT.sIx xs.length xs.length hi=xs.length)/\∀p,H p=none->Q (.ref p) (ak H p (.tup (nO xs lo hi)))
theorem Gk:rC X (Gj X.K):=by
 intro Wt s σ H x v vl vu lo hi sl Q I rx hs pl pu h;obtain⟨a,xs,rfl,hx,hw,q⟩:=h;cases rx;obtain⟨its,r,ht,hz⟩:=I.tuple hx;have hlen:its.toArray.size=xs.length:=by rw [Ol];exact r.length.symm
 refine⟨"tuple",_,Qn.lookup,ht.typeIs,?_⟩;refine HT.getItem_tuple_cut ht hs pl pu (by rw [hlen];exact hw) ?_ (by rw [hlen];exact hz);rw [hlen];refine⟨.ref s.heap.objs.size,_,I.laid (t':=s.toks) (o:= .tup (nO xs lo hi)) (λb ob q=>NJ _ q) (NT _) ?_,rfl,q _ (I.hok.fresh (NT _))⟩;exact⟨Oz (Br xs lo hi) hz,_,(r.drop (HT.sIx xs.length 0 lo)).take (HT.sIx xs.length xs.length hi - HT.sIx xs.length 0 lo),S9 _ _⟩
def vI(K:NG):R2:=λx y H Q=>∃a b xs ys,x= .ref a/\y= .ref b/\aX K H a xs/\aX K H b ys/\xs≠[]/\xs.length+ys.length<=UN/\
 (ys=[]->Q (.ref a) H)/\(ys≠[]->∀p,H p=none->Q (.ref p) (ak H p (.tup (xs++ys))))
theorem aG.nil_iff{xs:List V}{us:List UE}(r:aG xs us):us=[]↔xs=[]:=by
 cases r with
 | nil=>simp
 | cons _ _=>simp
theorem Gm:bu X (Vh .Add) (vI X.K):=by
 intro Wt s σ H x y v u Q I rx ry h;obtain⟨a,b,xs,ys,rfl,rfl,ha,hb,hx,hz,q1,q2⟩:=h;cases rx;cases ry;obtain⟨its,r1,p1,_⟩:=I.tuple ha;obtain⟨its2,r2,p2,_⟩:=I.tuple hb;refine HT.cat_tup p1 p2 (λz=>hx (r1.nil_iff.mp z)) (λz=>⟨.ref a,H,I,rfl,q1 (r2.nil_iff.mp z)⟩) (λz=>?_) (by rw [<-r1.length,<-r2.length];exact hz);refine⟨.ref s.heap.objs.size,_,I.laid (t':=s.toks) (o:= .tup (xs++ys)) (λb ob q=>NJ _ q) (NT _) ?_,rfl,q2 (λw=>z (r2.nil_iff.mpr w)) _ (I.hok.fresh (NT _))⟩;exact⟨by rw [Pp];exact hz,_,r1.append r2,S9 _ _⟩
end
def nP(n:Nat)(i:Int):Option Nat:=if 0<=i then(if i < n then some i.toNat else none) else if -(n:Int)<=i then some (i+n).toNat else none
def atI{α:Type}(xs:List α)(i:Int):Option α:=(nP xs.length i).bind λj=>xs[j]?
theorem Bs{n:Nat}{i:Int}{j:Nat}(h:nP n i=some j):seqIndex? i n=some j/\j < n/\-(n:Int)<=i/\i < n:=by
 unfold nP at h;by_cases h0:0<=i
 ·rw [UA h0] at h;by_cases h1:i < n
  ·rw [UA h1] at h;have e:i.toNat=j:=Pg h;exact⟨by rw [seqIndex_of h0 h1,e],Uy,Uy,h1⟩
  ·rw [Uz h1] at h;cases h
 ·rw [Uz h0] at h;by_cases h1:-(n:Int)<=i
  ·rw [UA h1] at h;have e:(i+n).toNat=j:=Pg h;exact⟨by rw [seqIndex_neg Uy h1,e],Uy,h1,Uy⟩
  ·rw [Uz h1] at h;cases h
theorem vJ{α:Type}{xs:List α}{i:Int}{v:α}(h:atI xs i=some v):∃j,seqIndex? i xs.length=some j/\xs[j]?=some v/\j < xs.length/\-(xs.length:Int)<=i/\i < xs.length:=by
 unfold atI at h;cases e:nP xs.length i with
 | none=>rw [e] at h;cases h
 | some j=>
  rw [e] at h;obtain⟨h1,h2,h3,h4⟩:=Bs e;exact⟨j,h1,h,h2,h3,h4⟩
theorem mG{α:Type}{xs:List α}{j:Nat}{v:α}(h:xs[j]?=some v):atI xs (j:Int)=some v:=by
 have hj:j < xs.length:=(OT.mp h).1;have e:nP xs.length (j:Int)=some j:=by
  unfold nP;rw [UA Uy,UA Uy];simp
 unfold atI;rw [e];exact h
def Gn(b:UO):Prop:=∀o i,subscripted b false o i=operate [o,i] (V5 o i)
def qh(X:Cx)(r:R2):Prop:=
 ∀(value slice:UO)(Wt:List (UH×Obj))(s:UI)(σ:St)(H:Hp)(x y:V)(v u:UE)(Q:VK),ag X Wt σ H s->aD x v->aD y u->r x y H Q->
  subscripted slice false v u=operate [v,u] (V5 v u)->UK (UL X.prog X.w) X.A (subscriptTail value slice v u) (EP X Wt σ Q) X.xe s
def rD(X:Cx)(id:String)(r:V->List V->Hp->VK->Prop):Prop:=
 ∀(Wt:List (UH×Obj))(s:UI)(σ:St)(H:Hp)(x:V)(xs:List V)(v:UE)(us:List UE)(Q:VK),ag X Wt σ H s->aD x v->aG xs us->r x xs H Q->
  UK (UL X.prog X.w) X.A (call (.builtin id) (v::us)) (EP X Wt σ Q) X.xe s
section
variable {X:Cx} {a b:UO} {ta tb:TE} {pos:Pos}
theorem sX{r:R2}(hr:qh X r)(ha:PE X a ta)(hb:PE X b tb)(hs:Gn b):PE X (.Subscript a b pos) (oX r ta tb):=by
 intro Wt s σ H Q I h;exact Subscript_ (vx ha hb I h λv u s2 x y H2 I2 rx ry q=>hr a b Wt s2 σ H2 x y v u Q I2 rx ry q (hs _ _))
def vK(K:NG):R2:=λx y H Q=>∃p xs i v,x= .ref p/\y= .int i/\bj K H p xs/\atI xs i=some v/\Q v H
def vL(K:NG):R2:=λx y H Q=>∃p xs i v,x= .ref p/\y= .int i/\aX K H p xs/\atI xs i=some v/\Q v H
def Bt:R2:=λx y H Q=>∃z i c,x= .str z/\y= .int i/\z.length<=UN/\atI z.cps.toList i=some c/\Q (.str ⟨#[c]⟩) H
theorem aM:qh X (vK X.K):=by
 intro value slice Wt s σ H x y v u Q I rx ry h hs;obtain⟨p,xs,i,z,rfl,rfl,hq,he,q⟩:=h;cases rx;obtain⟨t,rfl⟩:=ry;obtain⟨its,r,pl,hz⟩:=I.list hq;obtain⟨j,h1,h2,h3,h4,h5⟩:=vJ he;obtain⟨w,ew,rw'⟩:=r.get h2;have hl:=r.length;have hn:=pd;have fin:EP X Wt σ Q w s:=⟨z,H,I,rw',q⟩;by_cases h0:0<=i
 ·have hj:i.toNat=j:=by
   rw [seqIndex_of h0 h5] at h1;exact Pg h1
  exact item_listR pl.isList h0 Uy (by rw [hj];simpa using ew) fin hs
 ·have hj:(i+(its.toArray.size:Int)).toNat=j:=by
   rw [seqIndex_neg Uy h4] at h1;rw [Ol,<-hl];exact Pg h1
  exact subscriptTail_builtinR (x:=w) pl.isList.typeIs slot_list_getitem.lookup
   (wpAny_getItem_list_neg (Q:=λr s'=>r=w/\EP X Wt σ Q r s') pl.isList Uy (by rw [Ol] <;> omega) Uy (by rw [hj];simpa using ew) ⟨rfl,fin⟩) hs
theorem aO:qh X (vL X.K):=by
 intro value slice Wt s σ H x y v u Q I rx ry h hs;obtain⟨p,xs,i,z,rfl,rfl,hq,he,q⟩:=h;cases rx;obtain⟨t,rfl⟩:=ry;obtain⟨its,r,pl,hz⟩:=I.tuple hq;obtain⟨j,h1,h2,h3,h4,h5⟩:=vJ he;obtain⟨w,ew,rw'⟩:=r.get h2;have hl:=r.length;have hn:=pd;have fin:EP X Wt σ Q w s:=⟨z,H,I,rw',q⟩;exact subscriptTail_builtinR (x:=w) pl.typeIs slot_tuple_getitem.lookup
  (getItem_tuple (j:=j) (Q:=λr s'=>r=w/\EP X Wt σ Q r s') pl Uy Uy (by rw [Ol,<-hl];exact h1) (by simpa using ew) ⟨rfl,fin⟩) hs
theorem sY:qh X Bt:=by
 intro value slice Wt s σ H x y v u Q I rx ry h hs;obtain⟨z,i,c,rfl,rfl,hz,he,q⟩:=h;obtain⟨t,rfl⟩:=rx;obtain⟨t',rfl⟩:=ry;obtain⟨j,h1,h2,h3,h4,h5⟩:=vJ he;have hl:z.cps.toList.length=z.length:=by simp [Str.length]
 rw [hl] at h1 h4 h5;have hn:=pd;exact tail_any (Vw s z t) slot_str_getitem.lookup (getItem_str (c:=c) (by
  have e1:decide (i < -(2 ^ 63:Int))=false:=decide_eq_false Uy;have e2:decide (i >= 2 ^ 63)=false:=decide_eq_false Uy;rw [e1,e2,OB]) (by rw [h1];simpa using h2) ⟨.str ⟨#[c]⟩,H,I.tok _,⟨_,rfl⟩,q⟩) hs
theorem Gp(its:List UE)(n j:Nat)(u:UE):Rn (·.setIfInBounds j u) {cls:= .type "list",data:= .seq its.toArray n}={cls:= .type "list",data:= .seq (its.set j u).toArray n}:=by
 simp [Rn]
theorem ag.lst{Wt:List (UH×Obj)}{σ:St}{H:Hp}{s:UI}{p:UH}{xs:List V}(I:ag X Wt σ H s)(h:H p=some (.lst xs)):
 ∃(its:List UE)(n:Nat),aG xs its/\s.heap.get? p=some {cls:= .type "list",data:= .seq its.toArray n}/\xs.length<=UN:=by
 obtain⟨z,its,n,r,e⟩:=I.hok p _ h;exact⟨its,n,r,e,z⟩
theorem ag.lstUpd{Wt:List (UH×Obj)}{σ:St}{H:Hp}{s:UI}{p:UH}{xs ys:List V}{its its':List UE}{n n':Nat}{f:Obj->Obj}(I:ag X Wt σ H s)(h:H p=some (.lst xs))
 (ho:s.heap.get? p=some {cls:= .type "list",data:= .seq its.toArray n})(hf:f {cls:= .type "list",data:= .seq its.toArray n}={cls:= .type "list",data:= .seq its'.toArray n'})(r:aG ys its')(hz:ys.length<=UN)(t:Nat):
 ag X Wt σ (ak H p (.lst ys)) {s with heap:=s.heap.update p f,toks:=t}:=by
 have e:(s.heap.update p f).get? p=some {cls:= .type "list",data:= .seq its'.toArray n'}:=by
  rw [Ph f ho (by rw [hf] <;> rfl),hf]
 refine I.write (x:=p) (e:=p) (by rw [h];trivial) (.inl rfl) (λb u hb q=>(PQ _ _ (Ne.symm hb)).trans q) ⟨_,e⟩ ?_;exact⟨hz,its',n',r,e⟩
def Gq:V->V->V->Hp->(Hp->Prop)->Prop:=λo i v H Q=>∃p xs k j,o= .ref p/\i= .int k/\H p=some (.lst xs)/\nP xs.length k=some j/\Q (ak H p (.lst (xs.set j v)))
theorem Gr:A4 X Gq:=by
 intro Wt s σ H o i v ov iv u Q I ro ri rv h;obtain⟨p,xs,k,j,rfl,rfl,hp,hj,q⟩:=h;cases ro;obtain⟨t,rfl⟩:=ri;obtain⟨its,n,r,ho,hz⟩:=I.lst hp;obtain⟨h1,h2,h3,h4⟩:=Bs hj;have hl:=r.length;have hn:=pd;have I':ag X Wt σ (ak H p (.lst (xs.set j v))) {s with heap:=s.heap.update p (Rn (·.setIfInBounds j u))}:=
  I.lstUpd hp ho (Gp its n j u) (r.set rv j) (by rw [List.length_set];exact hz) s.toks
 by_cases h0:0<=k
 ·have hk:k.toNat=j:=by
   rw [seqIndex_of h0 h4] at h1;exact Pg h1
  exact PySem.W.ki_setAt ho h0 Uy (by rw [Ol,<-hl];exact h4) (by rw [hk];exact⟨_,I',q⟩)
 ·have hk:(k+(its.toArray.size:Int)).toNat=j:=by
   rw [seqIndex_neg Uy h3] at h1;rw [Ol,<-hl];exact Pg h1
  exact PySem.W.ki_setBack ho Uy (by rw [Ol,<-hl];exact h3) Uy (by rw [hk];exact⟨_,I',q⟩)
theorem Gs(lo hi:Option Int)(n:Nat):(VP lo hi none n).1=((HT.sIx n 0 lo:Nat):Int)/\(VP lo hi none n).2.1=((HT.sIx n n hi:Nat):Int)/\(VP lo hi none n).2.2=1:=by
 refine⟨?_,?_,rfl⟩
 ·cases lo with
  | none=>simp [VP,HT.sIx]
  | some i=>
   simp only [VP,HT.sIx,TF,show(1:Int) > 0 by decide,if_true];by_cases h:i < 0
   ·simp only [h,if_true] <;> omega
   ·simp only [h,if_false] <;> omega
 ·cases hi with
  | none=>simp [VP,HT.sIx]
  | some i=>
   simp only [VP,HT.sIx,TF,show(1:Int) > 0 by decide,if_true];by_cases h:i < 0
   ·simp only [h,if_true] <;> omega
   ·simp only [h,if_false] <;> omega
theorem Gu(its:List UE)(lo hi:Option Int):slicePick its.toArray lo hi none=((its.drop (HT.sIx its.length 0 lo)).take (HT.sIx its.length its.length hi - HT.sIx its.length 0 lo)).toArray:=by
 obtain⟨h1,h2,h3⟩:=Gs lo hi its.toArray.size;unfold slicePick;rw [h1,h2,h3];simp only [sliceRange_one,pick_run,Ol] <;> rfl
def Gv(K:NG):V->Option Int->Option Int->Hp->VK->Prop:=λx lo hi H Q=>∃a xs,x= .ref a/\bj K H a xs/\∀p,H p=none->Q (.ref p) (ak H p (.lst (nO xs lo hi)))
theorem Gw:rC X (Gv X.K):=by
 intro Wt s σ H x v vl vu lo hi sl Q I rx hs pl pu h;obtain⟨a,xs,rfl,hx,q⟩:=h;cases rx;obtain⟨its,r,ht,hz⟩:=I.list hx;have hlen:=r.length;refine⟨"list",_,slot_list_getitem.lookup,ht.isList.typeIs,?_⟩;refine Wr ht.isList hs pl pu .none UC ?_ (by rw [Ol] <;> omega);rw [Gu,<-hlen];refine⟨.ref s.heap.objs.size,_,I.laid (t':=s.toks) (o:= .lst (nO xs lo hi)) (λb ob q=>NJ _ q) (NT _) ?_,rfl,q _ (I.hok.fresh (NT _))⟩;exact⟨Oz (Br xs lo hi) hz,_,0,(r.drop (HT.sIx xs.length 0 lo)).take (HT.sIx xs.length xs.length hi - HT.sIx xs.length 0 lo),N2 _ rfl⟩
theorem jZ:kq X (.builtin "len") (λxs H Q=>∃p ys,xs=[.ref p]/\(bj X.K H p ys\/aX X.K H p ys)/\Q (.int ys.length) H):=by
 intro Wt s σ H xs us Q I r h;obtain⟨p,ys,rfl,hq,q⟩:=h;obtain⟨u,rfl,rx⟩:=kY r;cases rx;have hn:=pd;rcases hq with hq | hq
 ·obtain⟨its,r',pl,hz⟩:=I.list hq;have hlen:=r'.length;exact S5 pl.isList (by simp only [Ol] <;> omega) ⟨.int ys.length,H,I.tok _,⟨s.toks+1,by rw [Ol,hlen]⟩,q⟩
 ·obtain⟨its,r',pl,hz⟩:=I.tuple hq;have hlen:=r'.length;exact len_tuple pl (by simp only [Ol] <;> omega) ⟨.int ys.length,H,I.tok _,⟨s.toks+1,by rw [Ol,hlen]⟩,q⟩
theorem mS:kq X (.builtin "len") (λxs H Q=>∃z,xs=[.str z]/\z.length<=UN/\Q (.int z.length) H):=by
 intro Wt s σ H xs us Q I r h;obtain⟨z,rfl,hz,q⟩:=h;obtain⟨u,rfl,t,rfl⟩:=kY r;have hn:=pd;exact len_str Uy ⟨.int z.length,H,I.tok _,⟨_,rfl⟩,q⟩
theorem Gx:kq X (.type "list") (λxs H Q=>∃p ys,xs=[.ref p]/\(bj X.K H p ys\/aX X.K H p ys)/\∀l,H l=none->Q (.ref l) (ak H l (.lst ys))):=by
 intro Wt s σ H xs us Q I r h;obtain⟨p,ys,rfl,hq,q⟩:=h;obtain⟨u,rfl,rx⟩:=kY r;cases rx;have fin:∀(its:List UE),aG ys its->ys.length<=UN->∀(h':UR)(c':Nat),(∀b o',s.heap.get? b=some o'->h'.get? b=some o')->
  h'.get? s.heap.objs.size=some {cls:= .type "list",dict:=none,data:= .seq its.toArray c',slots:=#[]}->EP X Wt σ Q (.ref s.heap.objs.size) {s with heap:=h'}:=λits r' hz h' c' kp e=>
  ⟨.ref s.heap.objs.size,_,I.laid (t':=s.toks) kp (NT _) (show bE X.prog X.w _ h' _ (.lst ys) from⟨hz,its,c',r',e⟩),rfl,q _ (I.hok.fresh (NT _))⟩
 rcases hq with hq | hq
 ·obtain⟨its,r',pl,hz⟩:=I.list hq;have hlen:=r'.length;obtain⟨o,ho,hc,n,hd⟩:=pl.isList;exact call_list_seq p (.inl rfl) ho hc hd (λh' c' kp e=>fin its r' hz h' c' kp e) (by simp only [Ol] <;> omega)
 ·obtain⟨its,r',pl,hz⟩:=I.tuple hq;have hlen:=r'.length;obtain⟨o,ho,hc,n,hd⟩:=pl;exact call_list_seq p (.inr rfl) ho hc hd (λh' c' kp e=>fin its r' hz h' c' kp e) (by simp only [Ol] <;> omega)
theorem mH:kq X (.type "tuple") (λxs H Q=>∃p ys,xs=[.ref p]/\((bj X.K H p ys/\∀l,H l=none->Q (.ref l) (ak H l (.tup ys)))\/(aX X.K H p ys/\Q (.ref p) H))):=by
 intro Wt s σ H xs us Q I r h;obtain⟨p,ys,rfl,h⟩:=h;obtain⟨u,rfl,rx⟩:=kY r;cases rx;rcases h with⟨hq,q⟩ | ⟨hq,q⟩
 ·obtain⟨its,r',pl,hz⟩:=I.list hq;have hlen:=r'.length;refine call_tuple_list pl.isList (λh' kp=>?_) (by simp only [Ol] <;> omega);have I1:ag X Wt σ H {s with heap:=h'}:=I.kept (t':=s.toks) kp;have I2:ag X Wt σ (ak H h'.objs.size (.tup ys)) {s with heap:=h'.push {cls:= .type "tuple",data:= .seq its.toArray}}:=
   I1.laid (t':=s.toks) (λb o e=>NJ _ e) (NT _) (show bE X.prog X.w _ _ _ (.tup ys) from⟨hz,its,r',S9 _ _⟩)
  exact⟨.ref h'.objs.size,_,I2,rfl,q _ (I1.hok.fresh (NT _))⟩
 ·obtain⟨its,r',pl,hz⟩:=I.tuple hq;exact call_tuple_same pl ⟨.ref p,H,I,rfl,q⟩
def Bu(K:NG)(T:String)(x:V)(H:Hp):Prop:=match x with
 | .str _=>T="str"
 | .int _=>T="int"
 | .ref p=>(T="list"/\∃xs,bj K H p xs)\/(T="tuple"/\∃o,K.lookup p=some o/\o.cls= .type "tuple"/\o.dict=none)\/
  (T="dict"/\((∃kvs,H p=some (.dK kvs))\/∃kvs,H p=some (.dT kvs)))\/(T="set"/\∃S n,H p=some (.set S n))
 | _=>False
theorem Gy{Wt:List (UH×Obj)}{σ:St}{H:Hp}{s:UI}{T:String}{x:V}{v:UE}(I:ag X Wt σ H s)(r:aD x v)(ty:Bu X.K T x H):
 s.TypeIs v T/\∀a,v= .ref a->∃ob,s.heap.get? a=some ob/\ob.dict=none:=by
 cases x with
 | str z=>
  obtain⟨t,rfl⟩:=r;cases (show T="str" from ty);exact⟨Vw s z t,λ_ e=>nomatch e⟩
 | int i=>
  obtain⟨t,rfl⟩:=r;cases (show T="int" from ty);exact⟨typeIs_int s i t,λ_ e=>nomatch e⟩
 | ref p=>
  cases r;rcases ty with⟨rfl,xs,hq⟩ | ⟨rfl,o,hk,hc,hd⟩ | ⟨rfl,hk⟩ | ⟨rfl,S,n,hk⟩
  ·obtain⟨its,_,pl,_⟩:=I.list hq;refine⟨pl.isList.typeIs,λa e=>?_⟩;cases e;obtain⟨o,n,e,c,hd,_⟩:=pl;exact⟨o,e,hd⟩
  ·refine⟨⟨o,I.kIn p o hk,hc⟩,λa e=>?_⟩;cases e;exact⟨o,I.kIn _ o hk,hd⟩
  ·have z:∃o,s.heap.get? p=some o/\o.ExactDict:=by
    rcases hk with⟨kvs,hk⟩ | ⟨kvs,hk⟩
    ·obtain⟨_,_,_,_,o,_,_,e,ex,_⟩:=I.hok p _ hk;exact⟨o,e,ex⟩
    ·obtain⟨_,_,_,_,o,_,_,e,ex,_⟩:=I.hok p _ hk;exact⟨o,e,ex⟩
   obtain⟨o,e,ex⟩:=z;refine⟨⟨o,e,ex.1⟩,λa e2=>?_⟩;cases e2;exact⟨o,e,ex.2.1⟩
  ·obtain⟨o,_,_,_,e,ex,_⟩:=I.hok p _ hk;refine⟨⟨o,e,ex.1⟩,λa e2=>?_⟩;cases e2;exact⟨o,e,ex.2.1⟩
 | _=>exact Pw ty
def Gz(K:NG)(T:String)(r:V->List V->Hp->VK->Prop)(to:TE)(t:TA):TE:=λσ H Q=>to σ H λx H1=>Bu K T x H1/\t σ H1 λxs H2=>r x xs H2 Q
variable {o e:UO} {es:List UO} {to:TE} {t:TA} {name:Str} {apos cpos:Pos} {T id:String} {r:V->List V->Hp->VK->Prop}
theorem rE(pa:PlainAttrs T)(slot:Slot T name id)(hty:typeOf (.builtin id)=pure (.type "method_descriptor"))(hm:rD X id r)(ho:PE X o to)(ha:PA X (e::es) t)
 (hbase:Vs o name X.env (eval o X.env)=eval o X.env:=by rfl)
 (hfew:((U3 cpos (UM (e::es) X.env)).all (λx=>!x.1) && (Wb cpos (VQ [] X.env)).all (λx=>x.1.isSome)
   && decide ((e::es).length+([]:List VE).length+(if ([]:List VE).isEmpty then 0 else 1) < 30))=true:=by rfl)
 (hline:(apos.endLine==cpos.line)=true:=by rfl)(hs:UM (e::es) X.env=(false,eval e X.env)::UM es X.env:=by rfl)(hplain:(U3 cpos (UM es X.env)).any (·.1)=false:=by rfl):
 PE X (.Call (.Attribute o name apos) (e::es) [] cpos) (Gz X.K T r to t):=by
 intro Wt s σ H Q I h;refine wpAny_Call_method_late hbase hfew hline rfl (ax (ho Wt s σ H _ I h) λv s1 ⟨x,H1,I1,r1,ty,q1⟩=>?_);obtain⟨h1,h2⟩:=Gy I1 r1 ty;refine⟨T,id,pa,slot,hty,h1,h2,?_⟩;have hA:=ha cpos Wt s1 σ H1 _ I1 q1;rw [hs] at hA⊢;refine Sz (by show(false || (U3 cpos (UM es X.env)).any (·.1))=false;rw [hplain] <;> rfl) (SR ?_);exact ax hA λus s2 uu60=>by obtain⟨vs,H2,I2,r2,q2⟩:=uu60;exact hm Wt s2 σ H2 x vs v us Q I2 r1 r2 q2
end
def GA(X:Cx)(id:String)(r:V->List V->Hp->VK->Prop):Prop:=
 ∀(Wt:List (UH×Obj))(s:UI)(σ:St)(H:Hp)(x:V)(xs:List V)(v:UE)(us:List UE)(Q:VK),ag X Wt σ H s->aD x v->aG xs us->r x xs H Q->
  UK (UL X.prog X.w) X.A (call (.builtin id) (v::us)) (EP X Wt σ Q) X.xe s
theorem aG.one:∀{x:V}{us:List UE},aG [x] us->∃u,us=[u]/\aD x u
 | _,_,.cons r .nil=>⟨_,rfl,r⟩
theorem aG.rep{xs:List V}{us:List UE}(h:aG xs us):∀k:Nat,aG (NO k xs).flatten (NO k us).flatten
 | 0=>.nil
 | k+1=>by
  rw [Qh,Qh,Qe,Qe];exact aG.append h (aG.rep h k)
theorem Bv(its:List UE):∀(k:Nat)(acc:List UE),
 TQ (λx1 x2=>x1++x2) acc.toArray (NO k its.toArray)=(acc++(NO k its).flatten).toArray
 | 0,acc=>by simp
 | k+1,acc=>by
  have e:acc.toArray++its.toArray=(acc++its).toArray:=UC
  have e2:(acc++its)++(NO k its).flatten=acc++(NO (k+1) its).flatten:=by
   rw [Qh,Qe,Tp]
  rw [<-e2,<-Bv its k (acc++its),<-e,Qh,Qf]
section
variable {X:Cx} {Wt:List (UH×Obj)} {σ:St} {H:Hp} {s:UI} {l b:UH} {xs ys zs:List V}
theorem ag.lset{its its':List UE}{n:Nat}{f:Array UE->Array UE}{t':Nat}(I:ag X Wt σ H s)(hH:H l=some (.lst xs))
 (e:s.heap.get? l=some {cls:= .type "list",data:= .seq its.toArray n})(hf:f its.toArray=its'.toArray)(hv:aG ys its')(hz:ys.length<=UN):
 ag X Wt σ (ak H l (.lst ys)) {s with heap:=s.heap.update l (Rn f),toks:=t'}:=by
 have q:=PySem.IsL.update e f;rw [hf] at q;refine I.write (x:=l) (e:=l) (by rw [hH];exact trivial) (.inl rfl) (λb' u hb hu=>(PQ s.heap (Rn f) (Ne.symm hb)).trans hu) ⟨_,q⟩ ?_;exact⟨hz,its',_,hv,q⟩
theorem ag.lnew{its:List UE}{t':Nat}(I:ag X Wt σ H s)(hv:aG ys its)(hz:ys.length<=UN):
 ag X Wt σ (ak H s.heap.objs.size (.lst ys)) {s with heap:=s.heap.push {cls:= .type "list",data:= .seq its.toArray},toks:=t'}:=
 I.laid (λ_ _ q=>NJ _ q) (NT _) ⟨hz,its,0,hv,N2 _ rfl⟩
theorem ag.fresh(I:ag X Wt σ H s):H s.heap.objs.size=none:=I.hok.fresh (NT _)
theorem ag.lstM(I:ag X Wt σ H s)(hH:H l=some (.lst xs)):xs.length<=UN/\∃(its:List UE)(n:Nat),aG xs its/\xs.length=its.length/\s.heap.get? l=some {cls:= .type "list",data:= .seq its.toArray n}:=by
 obtain⟨z,its,n,r,e⟩:=I.hok l _ hH;exact⟨z,its,n,r,r.length,e⟩
theorem GB{n:Nat}(h:n<=UN):Rh n=false:=by
 unfold Rh;exact decide_eq_false Uy
end
section
variable {X:Cx}
def GC:V->List V->Hp->VK->Prop:=λx vs H Q=>∃l xs y,x= .ref l/\vs=[y]/\H l=some (.lst xs)/\xs.length < UN/\Q .non (ak H l (.lst (xs++[y])))
theorem Bw:GA X "list.append" GC:=by
 intro Wt s σ H x vs v us Q I rx rv h;obtain⟨l,xs,y,rfl,rfl,hH,hz,q⟩:=h;cases rx;obtain⟨u,rfl,ru⟩:=rv.one;obtain⟨z,its,n,r,hl,e⟩:=I.lstM hH;refine Vx F.slot_list_append ⟨_,e,rfl⟩ F.entry_list_append (F.args_list_append_2 _ _) (PySem.list_append l its.toArray n u (by rw [Ol];omega)) ⟨e,?_⟩;refine⟨.non,_,I.lset (its':=its++[u]) hH e UC (r.append (.cons ru .nil)) ?_,rfl,q⟩;rw [Pp,List.length_singleton];omega
def GF:R2:=λx y H Q=>∃l k xs,x= .ref l/\y= .int k/\H l=some (.lst xs)/\-(2 ^ 63)<=k/\k < 2 ^ 63/\xs.length*k.toNat<=UN/\
 ∀p,H p=none->Q (.ref p) (ak H p (.lst (NO k.toNat xs).flatten))
theorem GG{α:Type}(xs:List α)(k:Nat):(NO k xs).flatten.length=k*xs.length:=by
 induction k with
 | zero=>simp
 | succ k ih=>rw [Qh,Qe,Pp,ih,Nat.succ_mul,Nat.add_comm]
theorem Bx:bu X (Vh .Mult) GF:=by
 intro Wt s σ H x y v u Q I rx ry h;obtain⟨l,k,xs,rfl,rfl,hH,h1,h2,hz,q⟩:=h;cases rx;obtain⟨t,rfl⟩:=ry;obtain⟨z,its,n,r,hl,e⟩:=I.lstM hH;have hlen:its.toArray.size*k.toNat<=UN:=by rw [Ol,<-hl];exact hz
 have hcap:¬its.toArray.size*k.toNat > (2 ^ 63 - 1)/ 8:=by
  have:(UN:Nat)<=(2 ^ 63 - 1)/ 8:=Ce
  omega
 have hfit:¬(!T8 k)=true:=by
  rw [fitsIndex_both h1 h2];exact Oq
 have hlong:¬Rh (its.toArray.size*k.toNat)=true:=by
  rw [GB hlen];exact Oq
 have hnew:TQ (λx1 x2=>x1++x2) #[] (NO (if its.toArray.isEmpty=true then 0 else k.toNat) its.toArray)=(NO k.toNat its).flatten.toArray:=by
  have f0:∀m:Nat,TQ (λx1 x2=>x1++x2) #[] (NO m its.toArray)=(NO m its).flatten.toArray:=λm=>by
   have:=Bv its m [];rw [N8] at this;exact this
  rw [f0];cases its with
  | nil=>simp
  | cons a r'=>rw [Uz UC]
 refine wpAny_binaryOp_repeat_ref (T:="list") (U:="int") Ce ⟨_,e,rfl⟩ (λs'=>typeIs_int s' k t) noFill_list_mul F.fills_int_mul F.slot_int_rmul repeat_list F.slot_int_index.lookup
  (Vx F.slot_int_rmul (typeIs_int s k t) F.entry_int_rmul (F.args_int_rmul_2 _ _) (int___rmul___int_list k t l its.toArray n)
    ⟨e,rfl,⟨_,e,rfl⟩,Vx F.slot_list_mul ⟨_,e,rfl⟩ F.entry_list_mul (F.args_list_mul_2 _ _) (AutoListH.list___mul___list_int_3 l its.toArray n k t hfit hcap hlong) ⟨e,?_⟩⟩)
 rw [hnew];exact⟨.ref _,_,I.lnew (t':=s.toks) (r.rep k.toNat) (by rw [GG,Nat.mul_comm];exact hz),rfl,q _ I.fresh⟩
end
end L2
namespace Att
open PySem PySem.W PySem.Calls PyProof.Rows
theorem GH{P:Params}{h:UR}:∀(ns:List Int)(vs:List UE),WellAll P h vs (ns.map QO)->IntsAre vs ns:=by
 intro ns
 induction ns with
 | nil=>
  intro vs w;rw [Od] at w;cases w;exact .nil
 | cons n ns ih=>
  intro vs w;rw [NM] at w;cases w with
  | cons a b=>
   cases a;exact .cons _ _ (ih _ b)
theorem GI{l:OpenLaw}{n:Nat}(hn:l.most=some n){P:Params}{h:UR}{args:List WData}{vals:List UE}
 (hpre:l.row.toRowW.claim.pre args=true)(hwl:WellAll P h vals args):
 ∃a vs ns,vals=[Ow a]/\args=[R8 (ns.map QO)]/\h.get? a=some {cls:= .type "list",data:= .seq vs.toArray}/\IntsAre vs ns/\ns.length<=n:=by
 have hsh:WShape.hasAll [] args [.list .int]=true:=(pre_splitW hpre).1;have hc:l.pre.holds [] {args:=args}=true:=(pre_splitW hpre).2;obtain⟨d,r,rfl,h1,h2⟩:=hasAllW_cons hsh;obtain rfl:=hasAllW_nil h2;obtain⟨xs,rfl,h3⟩:=hasW_list h1;obtain⟨ns,rfl⟩:=items_int h3;have hlen:ns.length<=n:=by
  unfold OpenLaw.pre at hc;have h4:(WTm.not (.lt (.lit (.int (n:Int))) (.len (.arg 0)))).holds [] {args:=[.list (ns.map .int)]}=true:=by
   have h4:=(holds_andW hc).1;rw [hn] at h4;exact h4
  have h5:=condW_of h4 (w_not (w_lt w_lit (w_len_list (w_arg rfl))));rw [NQ] at h5;refine Se λq=>?_;have q':(n:Int) < ((ns.length:Nat):Int):=Uy
  first
   | (rw [decide_eq_true q'] at h5;exact absurd h5 Ce)
   | (simp at h5;omega)
 cases hwl with
 | cons w1 w2=>
  cases w2;cases w1 with
  | list ho hall=>exact⟨_,_,ns,rfl,rfl,ho,GH ns _ hall,hlen⟩
theorem GJ(l:OpenLaw)(args:List WData):l.row.toRowW.claim.post args (.bool true) args=true:=
 postW_of (r:=l.row.toRowW) (X:=(true==true))
  (show WShape.has [] (.bool true) .bool=true by first | rfl | decide | simp [WShape.has,WShape.arms,WShape.armsAll])
  (show(WTm.eq .res (.lit (.bool true))).value [] {args:=args,res:=some (.bool true),after:=args}=some (.bool (true==true)) from w_eq_bool (w_res rfl) w_lit) rfl
end Att
namespace L2
open PySem PySem.Spec PyProof.Rows
theorem By:∀{vs:List UE}{ns:List Int},IntsAre vs ns->aG (ns.map V.int) vs
 | _,_,.nil=>.nil
 | _,_,.cons n t h=>.cons ⟨t,rfl⟩ (By h)
def sZ(H:Hp):Prop:=∀b,H b=none\/∃o xs,H b=some (.frz o (.lst xs))
theorem GK{P:US}{w:UU}{K:NG}{mg mb:Str->Option UE}{CX:kH}{k:Nat}{fa a:UH}{fd:UP}{x:Str}{sp:Sp}{s₁:UI}{vs:List UE}{ns:List Int}
 (KX:K.In s₁.heap)(hns:s₁.heap.Ns UQ mg)(hb:s₁.heap.Ns builtinsNs mb)(hbb:∀x:Str,x≠"__name__"->mb x=U0 x)(hlim:s₁.heap.NoLimit)(hg:s₁.gens=#[])
 (ha:s₁.heap.get? a=some {cls:= .type "list",data:= .seq vs.toArray})(hi:IntsAre vs ns)(hl:ns.length<=UN)(hr:bH k callerA)
 (F:∀base:UR,K.In base->base.Ns UQ mg->aC P w K mg base CX k fa fd [x] sp)(hbind:∀(s:UI) (u:UE),BindsTo s fd ⟨[u],[]⟩ [(x,u)])
 (hsp:∀H:Hp,sZ H->bj K H a (ns.map V.int)->sp [.ref a] H (λv _=>v= .bl true) λ_ _ _=>False)
 (hCX:∀H e s',CX [] H s₁ (λ_ _ _=>False) e s'->False):
 Vy (UL P w) callerA (.call (.ref fa) ⟨[.ref a],[]⟩) (λr s'=>r= .ok (.ret (.bool true))/\OldK s₁.heap s'.heap/\s'.os=s₁.os/\VT s'.gens) s₁:=by
 have rv:=By hi;have lenV:=hi.length;have core:∀H:Hp,sZ H->bj K H a (ns.map V.int)->bI P w H s₁.heap->(∀b,H b≠none->b=a)->(H a≠none->K.lookup a=none)->
  Vy (UL P w) callerA (.call (.ref fa) ⟨[.ref a],[]⟩) (λr s'=>r= .ok (.ret (.bool true))/\OldK s₁.heap s'.heap/\s'.os=s₁.os/\VT s'.gens) s₁:=by
  intro H hO hS hok hA hK;have base_of:∀{b:UH}{o:Obj},s₁.heap.get? b=some o->H b=none->(nH s₁.heap H).get? b=some o:=λe n=>Fp e n;have noA:∀{b:UH}{o:Obj}{es:Array Wi}{ep:Nat},s₁.heap.get? b=some o->o.data= .dict es ep->H b=none:=λ{b o es ep} e d=>by
   cases q:H b with
   | none=>rfl
   | some u=>
    have e':b=a:=hA b (by rw [q];simp);subst e';rw [ha] at e;cases e;have d':Data.seq vs.toArray _=Data.dict es ep:=d;cases d'
  have nsK:∀{b:UH}{m:Str->Option UE},s₁.heap.Ns b m->(nH s₁.heap H).Ns b m:=λ{b m} ⟨o,es,ep,e,d,r⟩=>⟨o,es,ep,base_of e (noA e d),d,r⟩;have hKb:K.In (nH s₁.heap H):=λb o e=>base_of (KX b o e) (by
   cases q:H b with
   | none=>rfl
   | some u=>
    have e':b=a:=hA b (by rw [q];simp);subst e';rw [hK (by rw [q];simp)] at e;cases e)
  have hM:Mod K mg (nH s₁.heap H):=⟨hKb,nsK hns,⟨mb,nsK hb,hbb⟩,let ⟨mc,h1,h2⟩:=hlim;⟨mc,nsK h1,h2⟩⟩;have e0:pf P w K mg (nH s₁.heap H) callerA [] s₁ H:=⟨rfl,hM,λb o e=>Fq e,Nat.le_of_eq (Fo _ _),trivial,λb hb=>absurd (show b∈([]:List UH) from hb) UC,hok,.of_eq hg⟩;refine Vo ((F _ hKb (nsK hns)).run callerA [] s₁ H ⟨[.ref a],[]⟩ [.ref a] [.ref a] _ _ hr e0 (hbind s₁ (.ref a)) (.cons rfl .nil) (hsp H hO hS)) λr s' h=>?_;cases r with
  | error e=>exact(hCX H e s' h).elim
  | ok fl=>
   cases fl with
   | next=>exact Pw h
   | brk=>exact Pw h
   | cont=>exact Pw h
   | ret u=>
    obtain⟨v,H',os,bare,un,hok',r',q⟩:=h;have q':v= .bl true:=q;subst q';obtain rfl:u=QC true:=r';refine⟨rfl,OldK.of_keep λb o e=>?_,os,bare⟩;cases q:H b with
    | none=>exact un.keep b o e q (by intro z;exact absurd (show b∈([]:List UH) from z) UC) UC
    | some u=>
     rcases hO b with z | ⟨ob,xs,z⟩
     ·rw [q] at z;cases z
     ·have z2:=un.frzs b ob _ z;obtain⟨e1,_⟩:=hok b _ z;obtain⟨e2,_⟩:=hok' b _ z2;rw [e] at e1;cases e1;exact e2
 cases hk:K.lookup a with
 | some o=>
  have e:=KX a o hk;rw [ha] at e;cases e;refine core (λ_=>none) (λ_=>.inl rfl) (.inr ⟨_,vs.toArray,_,hk,rfl,rfl,rfl,by rw [Ol,lenV];exact hl,by simpa using rv⟩) (λb u z=>by have z':(none:Option HO)=some u:=z;cases z') (λb z=>absurd rfl z) λz=>absurd rfl z
 | none=>
  refine core (λb=>if b=a then some (.frz {cls:= .type "list",data:= .seq vs.toArray} (.lst (ns.map V.int))) else none) (λb=>?_) (.inl (.inr ⟨{cls:= .type "list",data:= .seq vs.toArray},UA rfl⟩)) (λb u z=>?_) (λb z=>?_) λ_=>hk
  ·by_cases hb:b=a
   ·exact .inr ⟨_,_,UA hb⟩
   ·exact .inl (Uz hb)
  ·by_cases hb:b=a
   ·have z':=(UA hb).symm.trans z;cases z';subst hb;exact⟨ha,by rw [NQ];exact hl,vs,_,rv,ha⟩
   ·have z':=(Uz hb).symm.trans z;cases z'
  ·by_cases hb:b=a
   ·exact hb
   ·exact absurd (Uz hb) z
abbrev KOf{K:NG}{h:UR}(_:K.In h):NG:=K
def inClass(s:UW)(j:Nat):UW:=match s with
 | .ClassDef _ _ _ body _ _ _ _ _ _ _=>body.getD j (.Pass ⟨0,0,0,0⟩)
 | _=>.Pass ⟨0,0,0,0⟩
def mT(s:UW):Arguments:=match s with
 | .FunctionDef _ a _ _ _ _ _ _ _ _=>a
 | _=>{posonlyargs:=[],args:=[],vararg:=none,kwonlyargs:=[],kw_defaults:=[],kwarg:=none,defaults:=[]}
def lJ(s:UW):List UW:=match s with
 | .FunctionDef _ _ b _ _ _ _ _ _ _=>b
 | _=>[]
def ay(s:UW):Vc:=match s with
 | .FunctionDef _ _ _ _ _ _ sc _ _ _=>sc
 | _=>{kind:= .function,names:=[],isGenerator:=false,isCoroutine:=false}
abbrev CX0:kH:=λ_ _ _ _ _ _=>False
abbrev E0:XK:=λ_ _ _=>False
theorem Bz{X:Cx}:qg CX0 X E0:=λ_ _ _ _ _ _ _ h=>h.elim
structure lg (K:NG) (x qual:Str) (st:UW) (f:UH) (fd:UP):Prop where
 ex:∃(oc:UE)(od:Option UH)(kV doc pm:UE)(an:Option UH)(cdv ct:UE)(osl:Array (Option UE)),
  fd=P7 x qual (mT st) (lJ st) (ay st) .none kV doc pm an cdv ct/\K.lookup f=some ⟨oc,od,.func fd,osl⟩/\Rm K cdv qual=true
 kp:Qk K (.ref f)=true
section
variable {P:US} {w:UU} {K:NG} {mg:Str->Option UE} {base:UR}
theorem lg.ok{x qual:Str}{st:UW}{f:UH}{fd:UP}{N ps:List Str}{k:Nat}{sp:Sp}(F:lg K x qual st f fd)(S:aQ N ps (ay st))(len:∀vs H Q E,sp vs H Q E->vs.length=ps.length)
 (hbody:∀(cdv:UE) (A:UX) (outer:List Env) (s:UI) (H:Hp) (vs:List V) (Q:VK) (E:XK),bH k (A.deeper (VN qual (ay st) s.heap.objs.size f cdv))->sp vs H Q E->
   ∃t,bJ (jS CX0 P w K mg base N qual (ay st) f cdv A outer s H E).nox (lJ st) t/\t {nx:=λ_ H'=>Q .non H',rt:=Q} (start N vs) H):aC P w K mg base CX0 (k+1) f fd ps sp:=by
 obtain⟨oc,od,kV,doc,pm,an,cdv,ct,osl,rfl,lk,hcd⟩:=F.ex;refine Bo lk hcd S len λA outer s H vs Q E hr hsp=>?_;obtain⟨t,h,q⟩:=hbody cdv A outer s H vs Q E hr hsp;exact⟨t,h.nox,q⟩
theorem lg.binds{x qual:Str}{st:UW}{f:UH}{fd:UP}{ps:List Str}(F:lg K x qual st f fd)
 (h:∀(kV doc pm:UE) (an:Option UH) (cdv ct:UE) (us:List UE),us.length=ps.length->bindArgs (P7 x qual (mT st) (lJ st) (ay st) .none kV doc pm an cdv ct) ⟨us,[]⟩=pure (ps.zip us)):l9 K fd ps []:=by
 obtain⟨oc,od,kV,doc,pm,an,cdv,ct,osl,rfl,lk,hcd⟩:=F.ex;exact .all (h kV doc pm an cdv ct)
theorem BA{x qual:Str}{st:UW}{f:UH}{oc:UE}{od an:Option UH}{osl:Array (Option UE)}{kV doc pm cdv ct:UE}(l:K.lookup f=some ⟨oc,od,.func (P7 x qual (mT st) (lJ st) (ay st) .none kV doc pm an cdv ct),osl⟩)
 (c:Rm K cdv qual=true)(k:Qk K (.ref f)=true):lg K x qual st f (P7 x qual (mT st) (lJ st) (ay st) .none kV doc pm an cdv ct):=⟨⟨oc,od,kV,doc,pm,an,cdv,ct,osl,rfl,l,c⟩,k⟩
end
section
variable {X:Cx}
theorem pv(i:Nat){x:Str}{pos:Pos}(hN:X.N[i]?=some x:=by rfl)(hv:qU X.env.scope x:=by first | exact Sf rfl | exact Rz (Sf rfl) | exact Rz (Rz rfl))(hd:(x==("__debug__":Str))=false:=by decide)
 (hcd:(x==("__classdict__":Str))=false:=by decide):PE X (.Name x pos) (nI i):=oV hN hv hd hcd
end
def ao(H H':Hp):Prop:=∀b o,H b=some o->H' b=some o
theorem ao.refl(H:Hp):ao H H:=λ_ _ h=>h
theorem ao.trans{H H1 H2:Hp}(a:ao H H1)(b:ao H1 H2):ao H H2:=λc o h=>b c o (a c o h)
def lR(env:Env)(names:List (Str×Vd))(cs:List (Str×UH)):List (Str×UH):=
 names.foldl (λcs p=>if (p.2==PB)=true then(p.1,(env.cells.lookup p.1).getD 0)::cs else cs) cs
theorem GL{scope:Vc}{env:Env}(h:∀y∈scope.names,y.2= .free->∃c,env.cells.lookup y.1=some c):closureFor scope env=pure (lR env scope.names []):=by
 unfold closureFor;have key:∀(l:List (Str×Vd))(cs:List (Str×UH)),(∀y∈l,y.2= .free->∃c,env.cells.lookup y.1=some c)->
  (forIn l cs λ(x:Str×Vd) (r:List (Str×UH))=>(if (x.2==PB)=true then do let a<-cellOf env x.1;pure (QP ((x.1,a)::r)) else pure (QP r):Sem (ForInStep (List (Str×UH)))))=pure (lR env l cs):=by
  intro l
  induction l with
  | nil=>intro cs _;rfl
  | cons p r ih=>
   intro cs hl;rw [Sw];by_cases hk:(p.2==PB)=true
   ·obtain⟨c,hc⟩:=hl p PH (by simpa using hk);rw [UA hk];have e:cellOf env p.1=pure c:=by unfold cellOf;rw [hc]
    rw [e];simp only [pure_bind];rw [ih _ λy hy=>hl y (OY _ hy)];unfold lR;rw [Qf,UA hk,hc];rfl
   ·rw [Uz hk];simp only [pure_bind];rw [ih _ λy hy=>hl y (OY _ hy)];unfold lR;rw [Qf,Uz hk]
 have:=key scope.names [] h;simp only [bind_pure];exact this
theorem vM{env:Env}:∀(l:List (Str×Vd))(cs:List (Str×UH)){x:Str}{c:UH},(∀y∈l,y.2= .free->∃c,env.cells.lookup y.1=some c)->(∀y d,cs.lookup y=some d->env.cells.lookup y=some d)->
 (lR env l cs).lookup x=some c->env.cells.lookup x=some c
 | [],cs,x,c,_,hc,h=>hc x c h
 | p::r,cs,x,c,hl,hc,h=>by
  unfold lR at h;rw [Qf] at h;by_cases hk:(p.2==PB)=true
  ·rw [UA hk] at h;refine vM r _ (λy hy=>hl y (OY _ hy)) (λy d e=>?_) h;obtain⟨a,ha⟩:=hl p PH (by simpa using hk);rw [O4] at e;cases hx:y==p.1 with
   | true=>
    rw [hx] at e;have hy:y=p.1:=by simpa using hx
    rw [ha] at e;cases e;rw [hy];exact ha
   | false=>rw [hx] at e;exact hc y d e
  ·rw [Uz hk] at h;exact vM r cs (λy hy=>hl y (OY _ hy)) hc h
theorem vN{env:Env}:∀(l:List (Str×Vd))(cs:List (Str×UH)){x:Str},(∃c,cs.lookup x=some c)->∃c,(lR env l cs).lookup x=some c
 | [],cs,x,h=>h
 | p::r,cs,x,⟨c,h⟩=>by
  unfold lR;rw [Qf];by_cases hk:(p.2==PB)=true
  ·rw [UA hk];refine vN r _ ?_;rw [O4];cases hx:x==p.1 with
   | true=>exact⟨_,rfl⟩
   | false=>exact⟨c,h⟩
  ·rw [Uz hk];exact vN r cs ⟨c,h⟩
theorem vO{env:Env}:∀(l:List (Str×Vd))(cs:List (Str×UH)){x:Str},(x,PB)∈l->∃c,(lR env l cs).lookup x=some c
 | [],_,_,h=>by simp at h
 | p::r,cs,x,h=>by
  unfold lR;rw [Qf];rcases NN.mp h with e | e
  ·subst e;rw [UA (by rfl)];exact vN r _ ⟨(env.cells.lookup x).getD 0,by rw [O4];simp⟩
  ·exact vO r _ e
theorem GN{env:Env}{scope:Vc}{x:Str}(h:(relabel scope env).names.lookup x=some .cell\/(relabel scope env).names.lookup x=some .free):scope.names.lookup x=some .free\/scope.names.lookup x=some .cell:=by
 have key:∀(l:List (Str×Vd)),
  ((l.map λ(n,k)=>if (k==PB && env.scope.kind== .function && env.kindOf n==some .cell) then(n,RD) else(n,k)).lookup x=some .cell\/
  (l.map λ(n,k)=>if (k==PB && env.scope.kind== .function && env.kindOf n==some .cell) then(n,RD) else(n,k)).lookup x=some .free)->l.lookup x=some .free\/l.lookup x=some .cell:=by
  intro l
  induction l with
  | nil=>intro h;simp at h
  | cons p r ih=>
   obtain⟨n,k⟩:=p;intro h;rw [NM] at h;rw [O4];by_cases hx:x=n
   ·subst hx;rw [beq_self_eq_true];by_cases hq:(k==PB && env.scope.kind== .function && env.kindOf x==some .cell)=true
    ·have:k= .free:=by simp only [Oh,beq_iff_eq] at hq;exact hq.1.1
     subst this;exact .inl rfl
    ·simp only [Uz hq,O4,beq_self_eq_true] at h;exact h.symm
   ·have hb:(x==n)=false:=by simpa using hx
    rw [hb];refine ih ?_;by_cases hq:(k==PB && env.scope.kind== .function && env.kindOf n==some .cell)=true
    ·simpa only [UA hq,O4,hb] using h
    ·simpa only [Uz hq,O4,hb] using h
 exact key scope.names h
theorem GO{env:Env}{scope:Vc}{x:Str}(h:scope.names.lookup x=some .cell\/scope.names.lookup x=some .free):(relabel scope env).names.lookup x=some .cell\/(relabel scope env).names.lookup x=some .free:=by
 have key:∀(l:List (Str×Vd)),l.lookup x=some .cell\/l.lookup x=some .free->
  ((l.map λ(n,k)=>if (k==PB && env.scope.kind== .function && env.kindOf n==some .cell) then(n,RD) else(n,k)).lookup x=some .cell\/
  (l.map λ(n,k)=>if (k==PB && env.scope.kind== .function && env.kindOf n==some .cell) then(n,RD) else(n,k)).lookup x=some .free):=by
  intro l
  induction l with
  | nil=>intro h;simp at h
  | cons p r ih=>
   obtain⟨n,k⟩:=p;intro h;rw [NM];by_cases hx:x=n
   ·subst hx;rw [O4,beq_self_eq_true] at h;by_cases hq:(k==PB && env.scope.kind== .function && env.kindOf x==some .cell)=true
    ·left;simp only [UA hq,O4,beq_self_eq_true]
    ·simp only [Uz hq,O4,beq_self_eq_true];exact h
   ·have hb:(x==n)=false:=by simpa using hx
    rw [O4,hb] at h;by_cases hq:(k==PB && env.scope.kind== .function && env.kindOf n==some .cell)=true
    ·simpa only [UA hq,O4,hb] using ih h
    ·simpa only [Uz hq,O4,hb] using ih h
 exact key scope.names h
structure cK (sc:Vc) (N N':List Str) (k:Nat) (fr:List Nat) (scope:Vc):Prop where
 kind:scope.kind= .function
 cell:∀y∈scope.names,y.2= .cell->scope.names.lookup y.1=some .cell
 names:∀y∈scope.names,y.2= .local->scope.names.lookup y.1=some .local
 nd:N'.Nodup
 slot:fr.map (λj=>N[j]?)=(N'.drop k).map some
 frees:∀x∈N'.drop k,scope.names.lookup x=some .free
 outer:∀y∈scope.names,y.2= .free->sc.names.lookup y.1=some .cell\/sc.names.lookup y.1=some .free
 outer':∀x∈N'.drop k,sc.names.lookup x=some .cell\/sc.names.lookup x=some .free
 len:N'.length=k+fr.length
theorem tf:∀(l:List (Str×Vd)){n:Nat}{a:List (Str×UH)}{x:Str}{c:UH},(Vb n l a).lookup x=some c->n<=c\/a.lookup x=some c
 | [],_,_,_,_,h=>.inr h
 | (y,k)::r,n,a,x,c,h=>by
  unfold Vb at h;split at h
  ·rcases tf r h with z | z
   ·exact .inl Uy
   ·rw [O4] at z;split at z
    ·exact .inl (by cases z;exact NT _)
    ·exact .inr z
  ·exact tf r h
theorem vP:∀(l:List (Str×Vd)){n:Nat}{a:List (Str×UH)}{x:Str}{c:UH},l.lookup x=some .cell->(Vb n l a).lookup x=some c->n<=c
 | [],_,_,_,_,e,_=>nomatch e
 | (y,k)::r,n,a,x,c,e,h=>by
  unfold Vb at h;rw [O4] at e;cases hx:x==y with
  | true=>
   rw [hx] at e;cases e;have h:List.lookup x (Vb (n+1) r ((y,n)::a))=some c:=h;rcases tf r h with z | z
   ·exact R6 z
   ·rw [O4,hx] at z;cases z;exact NT _
  | false=>
   rw [hx] at e;split at h
   ·exact R6 (vP r e h)
   ·exact vP r e h
theorem vQ:∀(l:List (Str×Vd)){n:Nat}{a:List (Str×UH)}{x:Str},(∀y∈l,y.2= .cell->y.1≠x)->(Vb n l a).lookup x=a.lookup x
 | [],_,_,_,_=>rfl
 | (y,k)::r,n,a,x,h=>by
  unfold Vb;split
  ·rename_i hk;rw [vQ r λz hz=>h z (OY _ hz),O4];have:(x==y)=false:=by simpa using Ne.symm (h (y,k) PH (by simpa using hk))
   rw [this]
  ·exact vQ r λz hz=>h z (OY _ hz)
theorem vR:∀(l:List (Str×Vd)){n:Nat}{a:List (Str×UH)},(∀x c,a.lookup x=some c->c < n)->(∀x y c,a.lookup x=some c->a.lookup y=some c->x=y)->∀x y c,(Vb n l a).lookup x=some c->(Vb n l a).lookup y=some c->x=y
 | [],_,_,_,h=>h
 | (z,k)::r,n,a,hl,hi=>by
  unfold Vb;split
  ·have one:∀x c,((z,n)::a).lookup x=some c->x=z/\c=n\/c < n/\a.lookup x=some c:=λx c e=>by
    rw [O4] at e;cases hx:x==z with
    | true=>rw [hx] at e;cases e;exact .inl ⟨by simpa using hx,rfl⟩
    | false=>rw [hx] at e;exact .inr ⟨hl x c e,e⟩
   refine vR r (λx c e=>?_) λx y c e1 e2=>?_
   ·rcases one x c e with⟨_,z⟩ | ⟨z,_⟩
    ·rw [z];exact QI _
    ·exact PY z
   ·rcases one x c e1 with⟨a1,b1⟩ | ⟨a1,b1⟩ <;> rcases one y c e2 with⟨a2,b2⟩ | ⟨a2,b2⟩
    ·rw [a1,a2]
    ·omega
    ·omega
    ·exact hi x y c b1 b2
  ·exact vR r hl hi
theorem vS:∀(l:List (Str×Vd)){h:UR}{a:List (Str×UH)},(∀x c,a.lookup x=some c->∃v,h.IsCell c v)->∀x c,(Vb h.objs.size l a).lookup x=some c->∃v,(pushCells h l).IsCell c v
 | [],_,_,h=>h
 | (z,k)::r,h,a,ha=>by
  unfold Vb pushCells;split
  ·have:=vS r (h:=h.push {cls:= .type "cell",data:= .cell none}) (a:=(z,h.objs.size)::a) λx c e=>by
    rw [O4] at e;split at e
    ·cases e;exact⟨none,_,N2 _ rfl,rfl⟩
    ·obtain⟨v,q⟩:=ha x c e;exact⟨v,q.keeps λb o e=>NJ _ e⟩
   rwa [Qa] at this
  ·exact vS r ha
def tj(X:Cx)(scope:Vc)(C:UH):List (Str×UH):=Vb (C+1) scope.names (lR X.env scope.names [])
def fx(X:Cx)(scope:Vc)(N':List Str)(fp:List UH)(C:UH)(s:UI)(H:Hp):Cx where
 prog:=X.prog
 w:=X.w
 K:=X.K
 mg:=X.mg
 base:=X.base
 A:=X.A
 N:=N'
 s₀:=s
 H₀:=H
 env:=compEnvC scope (tj X scope C) C X.env
 outer:=X.stack
 stack:=X.stack
 ex:=fp
 fn:=λx=>scope.names.lookup x==some .cell
 calm:=X.calm
 pn:=[]
 xe:=λ_ _=>False
def bC(k:Nat)(fr:List Nat)(σ:St):St:=NO k none++fr.map λj=>(σ[j]?).join
def oy(σ σ':St):Prop:=σ.length=σ'.length/\∀(i:Nat) v,σ[i]?=some (some v)->σ'[i]?=some (some v)
section
variable {X:Cx} {Wt:List (UH×Obj)} {σ:St} {H:Hp} {s:UI} {scope:Vc} {N':List Str} {k:Nat} {fr:List Nat} {fp:List UH}
theorem vT(S:cK X.env.scope X.N N' k fr scope)(I:ag X Wt σ H s):∀x c,(lR X.env scope.names []).lookup x=some c->X.env.cells.lookup x=some c:=λx c e=>vM scope.names [] (λy hy e=>I.ok.has y.1 (S.outer y hy e)) (λ_ _ z=>by simp at z) e
theorem BB(S:cK X.env.scope X.N N' k fr scope)(I:ag X Wt σ H s){x:Str}{c:UH}(e:(tj X scope s.heap.objs.size).lookup x=some c):s.heap.objs.size < c\/X.env.cells.lookup x=some c:=
 (tf _ e).imp (λz=>z) λz=>vT S I x c z
theorem GP(S:cK X.env.scope X.N N' k fr scope)(I:ag X Wt σ H s)(hf:∀b∈fp,mn X Wt H b)(hlt:∀b∈fp,b < s.heap.objs.size):
 (fx X scope N' fp s.heap.objs.size s H).Ok:=by
 have hcl:=vT S I;refine⟨I.ok.mod,S.kind,I.ok.glob,I.ok.blt,NT _,vR _ (λx c e=>?_) (λx y c h1 h2=>I.ok.inj x y c (hcl x c h1) (hcl y c h2)),λx hx=>Qo.mp (Rx _ _ _ ?_),λx c h e=>R6 (vP _ (eq_of_beq h) e),I.ok.hd,I.ok.frames,.inl rfl,λb hb=>⟨OF (hlt b hb),λx c e=>?_⟩,
  I.bs,Oz I.ok.bsz I.sz,λb o e hb=>?_,λb hb hb'=>?_,I.stack,I.stkFree⟩
 ·obtain⟨v,o,ho,_⟩:=I.cell x c (hcl x c e);exact PY (NV ho)
 ·rcases GN hx with z | z
  ·exact .inr (Qo.mpr (vO _ _ (Qg z)))
  ·exact .inl z
 ·rcases BB S I e with z | z
  ·exact λq=>absurd (hlt b hb) (by rw [<-q];exact Nat.lt_asymm z)
  ·exact(hf b hb).2.2.2.2.1 x c z
 ·rcases(hf b hb).2.2.2.1 with z | z
  ·exact I.ok.noex b o e z
  ·exact absurd (OW (NV e) (Oz I.ok.bsz z)) (Qp _)
 ·rcases NN.mp (I.stkSub b hb') with z | z
  ·exact(hf b hb).2.1 z
  ·exact(hf b hb).2.2.1 z
theorem GQ(S:cK X.env.scope X.N N' k fr scope)(I:ag X Wt σ H s)(hf:∀b∈fp,mn X Wt H b)(hlt:∀b∈fp,b < s.heap.objs.size){o:Obj}{h':UR}(e':h'=pushCells (s.heap.push o) scope.names)
 (hn:h'.Ns s.heap.objs.size (λ_=>none))(hk:∀b o,s.heap.get? b=some o->h'.get? b=some o):
 ag (fx X scope N' fp s.heap.objs.size s H) [] (bC k fr σ) H {s with heap:=h'}:=by
 have hcl:=vT S I;refine⟨GP S I hf hlt,rfl,I.bare,Un.kept hk,⟨_,hn,λi x v h1 h2 h3=>?_⟩,λx c e=>?_,I.hok.fresh (NT _),λx c e=>?_,λp hp=>absurd hp (by simp [fx]),I.hok.kept hk,?_⟩
 ·have hi:k<=i:=by
   rcases Te i k with z | z
   ·exfalso;unfold bC at h2;rw [Qm (by simpa using z),QN,UA z] at h2;cases h2
   ·exact z
  have h2':(fr.map λj=>(σ[j]?).join)[i - k]?=some (some v):=by
   unfold bC at h2;rw [QA (by simpa using hi)] at h2;simpa using h2
  have h1':(N'.drop k)[i - k]?=some x:=by
   rw [List.getElem?_drop,Nat.add_sub_cancel' hi];exact h1
  have hmem:x∈N'.drop k:=PK h1';have e2:(fr.map λj=>X.N[j]?)[i - k]?=some (some x):=by
   rw [S.slot,PX,h1'];rfl
  obtain⟨j,hj,ej⟩:∃j,fr[i - k]?=some j/\X.N[j]?=some x:=by
   rw [PX] at e2;cases e:fr[i - k]? with
   | none=>rw [e] at e2;cases e2
   | some j=>rw [e] at e2;exact⟨j,rfl,Pg e2⟩
  have hv:σ[j]?=some (some v):=by
   rw [PX,hj] at h2';have h3':(σ[j]?).join=some v:=Pg h2';cases e:σ[j]? with
   | none=>rw [e] at h3';cases h3'
   | some o=>rw [e] at h3';rw [show o=some v from h3']
  obtain⟨m,hn0,hl⟩:=I.loc;have ho:=S.outer' x hmem;obtain⟨u,ru,lk⟩:=hl j x v ej hv (.inr ho);refine⟨u,ru,.inr ⟨GO (.inr (S.frees x hmem)),?_⟩⟩;rcases lk with⟨z,_⟩ | ⟨_,c,hc,hx⟩
  ·exfalso;rcases ho with ho | ho
   ·exact absurd (z.symm.trans ho) UC
   ·exact absurd (z.symm.trans ho) UC
  ·obtain⟨c',hc'⟩:=vO (env:=X.env) scope.names [] (Qg (S.frees x hmem));have:=hcl x c' hc';rw [hc] at this;cases this;obtain⟨o,ho,hd⟩:=hx;exact⟨c,(vQ _ λy hy ey ex=>by have q:=S.cell y hy ey;rw [ex,S.frees x hmem] at q;cases q).trans hc',o,hk c o ho,hd⟩
 ·subst e';have:=vS scope.names (h:=s.heap.push o) (a:=lR X.env scope.names []) (λx c e=>by
   obtain⟨v,q⟩:=I.cell x c (hcl x c e);exact⟨v,q.keeps λb o e=>NJ _ e⟩) x c
  rw [Qa] at this;exact this e
 ·rcases BB S I e with z | z
  ·exact I.hok.fresh (Rc z)
  ·exact I.freeC x c z
 ·unfold bC;show _=N'.length;rw [Pp,SD,NQ,S.len]
end
section
variable {prog:US} {w:UU} {A:UX} {E:UE->UI->Prop} {R:Result->UI->Prop} {s:UI}
theorem GR{elt target iter:UO}{ifs:List UO}{scope:Vc}{pos:Pos}{it acc:UE}{env:Env}(I:Nat->UI->Prop)
 (turn:∀n s,I n s->UK (UL prog w) A (Vt it) (λr s₁=>match r with
  | none=>R (.ok .next) s₁
  | some v=>UK (UL prog w) A (V8 target it v) (λ_ s₁'=>UK (UL prog w) A (assign target env v) (λ_ s₂=>
   UK (UL prog w) A (forIn ifs true λc r=>if r=true then do let ok<-isTrue c env (eval c env);pure (QP ok) else pure (QP r)) (λok s₃=>
    if ok=true then UK (UL prog w) A (eval elt env) (λx s₄=>
     UK (UL prog w) A (call (.builtin "list.append") [acc,x]) (λ_ s₅=>∃m,m < n/\I m s₅) (λ_ _=>False) s₄) (λ_ _=>False) s₃
    else ∃m,m < n/\I m s₃) (λ_ _=>False) s₂) (λ_ _=>False) s₁') (λ_ _=>False) s₁) (λ_ _=>False) s)
 (n:Nat)(h:I n s):
 Vy (UL prog w) A (.compLoop (.ListComp elt [⟨target,iter,ifs,0⟩] scope pos) 0 it acc env) R s:=by
 refine codeAny_loop rfl I (λn s hI=>?_) n h;show UK _ A ((compTurn (.ListComp elt [⟨target,iter,ifs,0⟩] scope pos) 0 it acc env).onRaise (λx=>do V6 x env;theTreesLotGoes x)) _ _ s;refine wpAny_noted ?_;rw [compTurn_list];refine UG (VM (UG (U2 (turn n s hI) (λr s₁ h₁=>?_) λ_ _ h'=>h'.elim)));cases r with
 | none=>exact UJ h₁
 | some v=>
  refine UG (U2 h₁ (λ_ s₁' h₁'=>?_) λ_ _ h'=>h'.elim);refine UG (U2 h₁' (λ_ s₂ h₂=>UG (U2 h₂ (λok s₃ h₃=>?_) λ_ _ h'=>h'.elim)) λ_ _ h'=>h'.elim);cases ok with
  | false=>exact UJ ⟨rfl,h₃⟩
  | true=>
   exact UG (UG (U2 h₃ (λx s₄ h₄=>UG (U2 h₄ (λ_ s₅ h₅=>UJ (UJ ⟨rfl,h₅⟩)) λ_ _ h'=>h'.elim)) λ_ _ h'=>h'.elim))
end
def mr(X:Cx)(ifs:List UO)(t:TT):Prop:=
 ∀(Wt:List (UH×Obj))(s:UI)(σ:St)(H:Hp)(Q:Bool->Hp->Prop),ag X Wt σ H s->t σ H Q->
  UK (UL X.prog X.w) X.A (forIn ifs true λc r=>if r=true then do let ok<-isTrue c X.env (eval c X.env);pure (QP ok) else pure (QP r)) (TP X Wt σ Q) X.xe s
def BC:TT:=λ_ H Q=>Q true H
theorem BD{X:Cx}:mr X [] BC:=λWt s σ H Q I h=>wpAny_tests_nil ⟨H,I,h⟩
theorem GS{X:Cx}{c:UO}{t:TT}(h:PT X c t):mr X [c] t:=λWt s σ H Q I hq=>wpAny_tests_one (h Wt s σ H Q I hq)
theorem bI.but{P:US}{w:UU}{H:Hp}{h h':UR}{C:UH}(x:bI P w H h)(hC:H C=none)(k:∀b o,b≠C->h.get? b=some o->h'.get? b=some o):bI P w H h':=λa o e=>by
 refine(x a o e).stay (λb u hb q=>k b u ?_ q) (λ_ q=>q) (λ_ _ q=>q) λ_ _ q=>q;intro z;subst z;rcases hb with z | z
 ·rw [<-z,hC] at e;cases e
 ·rw [hC] at z;cases z
theorem GU{M:VU}{A:UX}{E:UE->UI->Prop}{s:UI}{scope:Vc}{g:UH}{cl:List (Str×UH)}{qual:Str}{e:Env}{Q:Env->UI->Prop}
 (hQ:∀h',h'=pushCells (s.heap.push {cls:= .type "dict",data:= .dict #[]}) scope.names->h'.Ns s.heap.objs.size (λ_=>none)->(∀b o,s.heap.get? b=some o->h'.get? b=some o)->
  Q (newEnv scope s.heap.objs.size g (Vb (s.heap.objs.size+1) scope.names cl) qual none .none (some e) builtinsNs) {s with heap:=h'}):
 UK M A (newFunctionEnv scope g cl [] qual none .none (some e)) Q E s:=by
 simp only [newFunctionEnv,Option.isSome_some,if_true];refine UG (wpAny_alloc (UG (wpAny_layCells _ (λname kind cells=>by cases hkc:kind==RD <;> simp [hkc]) _ _ _ _ ?_)));rw [show({s with heap:=s.heap.push {cls:= .type "dict",data:= .dict #[]}}:UI).heap.objs.size=s.heap.objs.size+1 from Qa ..];rw [SE];exact UG (UJ (UJ (hQ _ rfl ((Heap.Ns.new s.heap (.type "dict")).keeps (pushCells_keeps _ _)) λb o e=>pushCells_keeps _ _ b o (NJ _ e))))
def qi(wi:TI)(g:TG)(tc:TT)(te:TE)(k:Nat)(fr:List Nat):TE:=λσ H Q=>wi σ H λJ H1=>∀D,H1 D=none->∃W:Nat->Nat->Hp->Prop,(∃m,W 0 m (ak H1 D (.lst [])))/\∀i m H,W i m H->
 (J.stop i H/\Q (.ref D) H)\/(J.go i H/\∀x H',J.yld i H x H'->g x (bC k fr σ) H' λσ2 H2=>oy (bC k fr σ) σ2/\tc σ2 H2 λok H3=>
  if ok=true then te σ2 H3 λy H4=>∃ys,H4 D=some (.lst ys)/\ys.length < UN/\∃m',m' < m/\W (i+1) m' (ak H4 D (.lst (ys++[y])))
  else ∃m',m' < m/\W (i+1) m' H3)
section
variable {X:Cx} {tg iter elt:UO} {ifs:List UO} {scope:Vc} {N':List Str} {k:Nat} {fr:List Nat} {wi:TI} {g:TG} {tc:TT} {te:TE} {pos:Pos}
theorem GV{use:Option (UE->Sem Unit)}{Q':UE->UI->Prop}{Wt:List (UH×Obj)}{s:UI}{σ:St}{H:Hp}{Q:VK}(hc:X.calm=true)(S:cK X.env.scope X.N N' k fr scope)(hi:PI X tg iter wi)
 (hg:∀fp C s H,PG (fx X scope N' fp C s H) tg g)(hf:∀fp C s H,mr (fx X scope N' fp C s H) ifs tc)(he:∀fp C s H,PE (fx X scope N' fp C s H) elt te)
 (I:ag X Wt σ H s)(h:qi wi g tc te k fr σ H Q)
 (hQ:∀D C s' H',C≠X.env.locals->ag X Wt σ H' s'->(∀h',Qu C s'.heap h'->ag X Wt σ H' {s' with heap:=h'})->Q (.ref D) H'->(∃m,s'.heap.Ns C m)->X.env.locals < C->H' C=none/\(∀x c,X.env.cells.lookup x=some c->c≠C)/\(∀p∈X.pn++Wt,p.1≠C)->compPost (UL X.prog X.w) X.A X.xe use Q' (.ref D) C (.ok .next) s'):
 UK (UL X.prog X.w) X.A (eval iter X.env) (λx s₁=>UK (UL X.prog X.w) X.A (pyIter x) (λit s₂=>UK (UL X.prog X.w) X.A (newList []) (λacc s₃=>
  UK (UL X.prog X.w) X.A (newFunctionEnv scope X.env.globals (lR X.env scope.names []) [] X.env.qual none .none (some X.env)) (λcenv s₄=>
   Vy (UL X.prog X.w) X.A (.compStart (.ListComp elt [⟨tg,iter,ifs,0⟩] scope pos) 0 it acc {cenv with scope:=relabel scope X.env}) (compPost (UL X.prog X.w) X.A X.xe use Q' acc cenv.locals) s₄) X.xe s₃) X.xe s₂) X.xe s₁) X.xe s:=by
 refine ax (hi Wt s σ H _ I h) λv s1 h1=>ax h1 λitv s2 h2=>?_;obtain⟨it,fp,tn,J,H2,e,I2,T,st2,f2,wW⟩:=h2;subst e;refine UZ ?_;have hD0:H2 s2.heap.objs.size=none:=I2.hok.fresh (NT _);obtain⟨W,⟨m0,w0⟩,turn⟩:=wW _ hD0;generalize hD:s2.heap.objs.size=D at*;have I3:ag X Wt σ (ak H2 D (.lst [])) {s2 with heap:=s2.heap.push {cls:= .type "list",dict:=none,data:= .seq ([]:List UE).toArray}}:=by
  have:=I2.lnew (ys:=[]) (its:=[]) (t':=s2.toks) .nil (PR _);rw [hD] at this;exact this
 generalize hs3:({s2 with heap:=s2.heap.push {cls:= .type "list",dict:=none,data:= .seq ([]:List UE).toArray}}:UI)=s3 at*;have up23:∀b o,s2.heap.get? b=some o->s3.heap.get? b=some o:=λb o e=>by rw [<-hs3];exact NJ _ e
 have fpD:∀b∈fp,b≠D:=λb hb z=>by
  obtain⟨o,ho,_⟩:=T.obj _ _ st2 b hb;have:=NV ho;rw [hD,z] at this;exact Qp _ this
 have f3:∀b∈fp,mn X Wt (ak H2 D (.lst [])) b:=λb hb=>⟨by rw [av (fpD b hb)];exact(f2 b hb).1,(f2 b hb).2⟩;have st3:tn 0 s3.heap:=T.keep _ _ _ st2 λb hb o e=>up23 b o e;have lt3:∀b∈fp,b < s3.heap.objs.size:=λb hb=>by obtain⟨o,ho,_⟩:=T.obj _ _ st3 b hb;exact NV ho
 refine GU λh₁ e₁ hns₁ up34=>?_;have I4:=GQ S I3 f3 lt3 e₁ hns₁ up34;have st4:tn 0 h₁:=T.keep _ _ _ st3 λb hb o e=>up34 b o e;generalize hX':fx X scope N' fp s3.heap.objs.size s3 (ak H2 D (.lst []))=X' at*;have hg':PG X' tg g:=by rw [<-hX'];exact hg _ _ _ _
 have hf':mr X' ifs tc:=by rw [<-hX'];exact hf _ _ _ _
 have he':PE X' elt te:=by rw [<-hX'];exact he _ _ _ _
 have eP:X'.prog=X.prog:=by rw [<-hX'];rfl
 have eW:X'.w=X.w:=by rw [<-hX'];rfl
 have eK:X'.K=X.K:=by rw [<-hX'];rfl
 have eA:X'.A=X.A:=by rw [<-hX'];rfl
 have eC:X'.calm=true:=by rw [<-hX'];exact hc
 have eE:X'.xe=λ_ _=>False:=by rw [<-hX'];rfl
 have eEnv:X'.env=compEnvC scope (tj X scope s3.heap.objs.size) s3.heap.objs.size X.env:=by rw [<-hX'];rfl
 have fpx:∀{H':Hp},(∀b∈fp,H' b=none)->∀b∈fp,mn X' [] H' b:=λ{H'} hn b hb=>by
  refine⟨hn b hb,?_,?_,.inl ?_,?_,?_⟩
  ·rw [eEnv];exact OF (lt3 b hb)
  ·have:=I4.ok.exfs b (by rw [<-hX'];exact hb);exact this
  ·rw [<-hX'];exact hb
  ·have:=I4.ok.exf b (by rw [<-hX'];exact hb);exact this.2
  ·intro p hp;rw [<-hX'] at hp;simp [fx] at hp
 have fin:∀(s':UI)(H':Hp)(σ':St),ag X' [] σ' H' s'->Q (.ref D) H'->compPost (UL X.prog X.w) X.A X.xe use Q' (.ref D) s3.heap.objs.size (.ok .next) s':=λs' H' σ' J q=>by
  have un:Un (cf X.stack) fp (ak H2 D (.lst [])) H' s3.heap s'.heap:=by have:=J.base;rw [<-hX'] at this;exact this
  have jos:s'.os=s3.os:=by have:=J.os;rw [<-hX'] at this;exact this
  have hC:H' s3.heap.objs.size=none:=by have:=J.free;rw [eEnv] at this;exact this
  have hok':bI X.prog X.w H' s'.heap:=by have:=J.hok;rw [eP,eW] at this;exact this
  have nS:∀h',Qu s3.heap.objs.size s'.heap h'->ag X Wt σ H' {s' with heap:=h'}:=λh' hs'=>by
   have un':Un (cf X.stack) fp (ak H2 D (.lst [])) H' s3.heap h':=
    ⟨λb o e n h1 h2=>hs'.extBut b o (OF (NV e)) (un.keep b o e n h1 h2),λb o e n h1 h2=>by
     obtain⟨sl,z⟩:=un.slot b o e n h1 h2;exact⟨sl,hs'.extBut b _ (OF (NV e)) z⟩,un.free,λb o e h2=>by
     obtain⟨o',z⟩:=un.there b o e h2;exact⟨o',hs'.extBut b o' (OF (NV e)) z⟩,un.tups,un.frzs,un.tbls⟩
   exact ag.call' (s':={s' with heap:=h'}) I3 jos un' (hok'.but hC hs'.extBut) J.bare λb hb=>⟨(f3 b hb).2.2.2.1,(f3 b hb).2.1,(f3 b hb).2.2.2.2.1,(f3 b hb).2.2.2.2.2⟩
  have nsC:∃m,s'.heap.Ns s3.heap.objs.size m:=by
   obtain⟨m,hn,_⟩:=J.loc;rw [eEnv] at hn;exact⟨m,hn⟩
  exact hQ D s3.heap.objs.size s' H' (QZ I3.lt) (nS s'.heap (.refl ..)) nS q nsC I3.lt
   ⟨hC,λx c e=>by obtain⟨v,o,ho,_⟩:=I3.cell x c e;exact OF (NV ho),λp hp=>OF (NV (I3.pin p hp).1)⟩
 have loop:∀s4:UI,s4=({s3 with heap:=h₁}:UI)->
  Vy (UL X.prog X.w) X.A (.compLoop (.ListComp elt [⟨tg,iter,ifs,0⟩] scope pos) 0 (.ref it) (.ref D) X'.env) (compPost (UL X.prog X.w) X.A X.xe use Q' (.ref D) s3.heap.objs.size) s4:=by
  rintro s4 rfl;refine GR (λn s'=>∃i H',ag X' [] (bC k fr σ) H' s'/\tn i s'.heap/\(∀b∈fp,H' b=none)/\W i n H') ?_ m0 ⟨0,_,I4,st4,λb hb=>(f3 b hb).1,w0⟩;rintro n s5 ⟨i,H5,I5,st5,fr5,w5⟩;rcases turn i n H5 w5 with⟨stop,qn⟩ | ⟨go,step⟩
  ·have:=T.done X' eP eW eK eC i [] s5 _ H5 (λ_ _=>False) I5 (fpx fr5) st5 stop;rw [eA] at this;refine ax this λr s6 ⟨hr,I6⟩=>?_;subst hr;exact fin s6 H5 _ I6 qn
  ·have:=T.item X' eP eW eK eC i [] s5 _ H5 (λ_ _=>False) I5 (fpx fr5) st5 go;rw [eA] at this;refine ax this λr s6 ⟨u,hr,h6⟩=>?_;subst hr;refine ax h6 λ_ s7 ⟨x,H7,I7,r7,y7,st7,fr7⟩=>?_;have I7':=I7.pinned (fpx fr7) (T.obj _ _ st7);have h8:=hg' _ s7 _ H7 x u _ I7' r7 (step x H7 y7);rw [eP,eW,eA,eE] at h8;refine ax h8 λ_ s8 ⟨σ8,H8,I8,kp,q8⟩=>?_;have h9:=hf' _ s8 σ8 H8 _ I8 q8;rw [eP,eW,eA,eE] at h9;have again:∀{s9:UI}{H9:Hp}{n':Nat},ag X' ([]++rk fp s7.heap) σ8 H9 s9->n' < n->W (i+1) n' H9->∃m,m < n/\∃i H',ag X' [] (bC k fr σ) H' s9/\tn i s9.heap/\(∀b∈fp,H' b=none)/\W i m H':=λ{s9 H9 n'} I9 hn' w9=>by
    refine⟨n',hn',i+1,H9,I9.unpinned.weak kp.1 kp.2,T.keep _ _ _ st7 λb hb o e=>(I9.pin (b,o) (Pq _ (Pq _ (sM hb e)))).1,λb hb=>?_,w9⟩;obtain⟨o,e,d⟩:=T.obj _ _ st7 b hb;exact(I9.pin (b,o) (Pq _ (Pq _ (sM hb e)))).2.1
   refine ax h9 λok s9 ⟨H9,I9,q9⟩=>?_;cases ok with
   | false=>
    rw [Uz Oq] at q9;obtain⟨m',hm',w9⟩:=q9;rw [Uz Oq];exact again I9 hm' w9
   | true=>
    rw [UA rfl] at q9;rw [UA rfl];have h10:=he' _ s9 σ8 H9 _ I9 q9;rw [eP,eW,eA,eE] at h10;refine ax h10 λy s10 ⟨yv,H10,I10,r10,ys,hys,hz,m',hm',w10⟩=>?_;have h11:=Bw (X:=X') _ s10 σ8 H10 (.ref D) [yv] (.ref D) [y] (λ_ H'=>W (i+1) m' H') I10 rfl (.cons r10 .nil) ⟨D,ys,yv,rfl,rfl,hys,hz,w10⟩;rw [eP,eW,eA,eE] at h11;exact ax h11 λ_ s11 uu67=>by obtain⟨_,H11,I11,_,q11⟩:=uu67;exact again I11 hm' q11
 have hE:({newEnv scope s3.heap.objs.size X.env.globals (tj X scope s3.heap.objs.size) X.env.qual none .none (some X.env) builtinsNs with scope:=relabel scope X.env}:Env)=X'.env:=by
  rw [eEnv];rfl
 have goal:=codeAny_compStart_list (elt:=elt) (target:=tg) (iter:=iter) (ifs:=ifs) (rest:=[]) (scope:=scope) (pos:=pos) (loop _ rfl) (T.self X.A 0 _ _ _ st4 (loop _ rfl));rw [<-hE] at goal;exact goal
theorem pj(hc:X.calm=true)(S:cK X.env.scope X.N N' k fr scope)(hi:PI X tg iter wi)
 (hg:∀fp C s H,PG (fx X scope N' fp C s H) tg g)(hf:∀fp C s H,mr (fx X scope N' fp C s H) ifs tc)(he:∀fp C s H,PE (fx X scope N' fp C s H) elt te)
 (hs:∀x,U6 iter X.env x=pure x:=by intro _;rfl):PE X (.ListComp elt [⟨tg,iter,ifs,0⟩] scope pos) (qi wi g tc te k fr):=by
 intro Wt s σ H Q I h;have hcell:∀y∈scope.names,y.2= .free->∃c,X.env.cells.lookup y.1=some c:=λy hy e=>I.ok.has y.1 (S.outer y hy e);rw [eval_ListComp];refine wpAny_comprehension_free (use:=none) rfl hs (GL hcell) S.kind S.names (GV hc S hi hg hf he I h ?_);intro D C s' H' hC J nS q ns hlt _;obtain⟨m,hn⟩:=ns;exact⟨m,hn,λh' hs'=>⟨.ref D,H',nS h' hs',rfl,q⟩⟩
end
section
variable {X:Cx}
theorem GW:bu X (Vh .Mult) (rI IntMulOk λi j=>.int (i*j)):=rn λ_ _ _ _ _ _ _ hc q=>mul_int q hc
theorem vU(hc:X.calm=true):kq X (.builtin "sum") (λxs H Q=>∃(a:UH)(ns:List Int),xs=[.ref a]/\bj X.K H a (ns.map V.int)/\Q (.int ns.sum) H):=by
 intro Wt s σ H xs us Q I r h;obtain⟨a,ns,rfl,hl,q⟩:=h;obtain⟨u,rfl,rx⟩:=kY r;cases rx;obtain⟨its,rv,p,hz⟩:=I.list hl;have hi:IntsAre its ns:=Gf rv;have hall:AllInts its.toArray:=hi.allInts;obtain⟨ys,hys⟩:=hall.items;have hn:numsOf its.toArray.toList=ns:=by rw [show its.toArray.toList=its from rfl,hi.numsOf]
 rw [hys,nums_intItems] at hn;have hl':=p.isList;rw [hys] at hl';refine sum_intListG (I.ok.hd hc) hl' λh' tk t' hk=>?_;refine⟨.int ns.sum,H,I.kept hk,⟨t',?_⟩,q⟩;rw [preSum_eq,Pn UC,hn]
theorem GX:kq X (.builtin "isinstance") (λxs H Q=>∃x T t b,xs=[x,.ty T]/\l8 X.K H x t/\QG X.K t (.type T)=some b/\Q (.bl b) H):=by
 intro Wt s σ H xs us Q I r h;obtain⟨x,T,t,b,rfl,ty,e,q⟩:=h;obtain⟨u,w',rfl,rx,rt⟩:=pe r;cases rt;exact F3 I rx ty e λtk=>⟨.bl b,H,I.tok tk,rfl,q⟩
end
end L2
namespace Att
open PySem PySem.W PySem.Calls PyProof.Rows
theorem GY{ns:List Int}(h:TH [R8 (ns.map QO)]=true):∀n∈ns,Pj n<=1048576:=by
 have h1:(R8 (ns.map QO)).layable=true:=by simpa [TH] using h
 have h2:(R8 (ns.map QO)).weight<=1048576:=(PySem.W.layableW_iff.mp h1).2.2;have key:∀l:List Int,∀n∈l,Pj n<=Q9 (l.map QO):=by
  intro l
  induction l with
  | nil=>intro n hn;simp at hn
  | cons x r ih=>
   intro n hn;have e:Q9 ((x::r).map QO)=Pj x+1+Q9 (r.map QO):=by
    rw [NM,Q9,Ug];rfl
   rw [e];rcases NN.mp hn with z | z
   ·subst z;omega
   ·have:=ih n z;omega
 intro n hn;have e:(R8 (ns.map QO)).weight=Q9 (ns.map QO):=by rw [Ug]
 rw [e] at h2;exact Oz (key ns n hn) h2
theorem attach_callB{l:OpenLaw}{n:Nat}{q:US}{loose:List Str}{XP:(Str->Option UE)->UR->Prop}{YP:UU->UR->Prop}{d:DefRec}
 (hn:l.most=some n)(hdf:d.params.defaults=[])
 (call:∀(w:UU) (s₀ s₁:UI) (mg mb:Str->Option UE) (fa:UH) (o:Obj) (pm cd doc:UE) (a:UH) (vs:List UE) (ns:List Int),
  Ground q loose [] XP w s₀ mg mb s₁.heap->YP w s₁.heap->
  s₁.heap.get? fa=some o->o.data= .func (docDef d.name d.params d.body d.scope pm cd doc)->s₁.heap.CodeRec cd d.name->mg d.name=some (.ref fa)->
  s₁.heap.get? a=some {cls:= .type "list",data:= .seq vs.toArray}->IntsAre vs ns->ns.length<=n->(∀z∈ns,Pj z<=1048576)->s₁.gens=#[]->
  Vy (UL l.prog w) callerA (.call (.ref fa) ⟨[.ref a],[]⟩) (λr s'=>r= .ok (.ret (.bool true))/\OldK s₁.heap s'.heap/\s'.os=s₁.os/\VT s'.gens) s₁):
 WalkO q loose XP YP l.row.toRowW d [] (λf vs=>TR f vs):=by
 intro w s₀ s₁ mg mb G Y fa o pm cd doc dV kV ho hd hcd hD hmg hg args vals as hpre hlay hrd hwl hlo;obtain rfl:dV= .none:=Dflts.none hD hdf;obtain rfl:kV= .none:=Dflts.noKw hD;obtain⟨a,vs,ns,rfl,rfl,hobj,hints,hlen⟩:=GI hn hpre hwl;have hb:∀z∈ns,Pj z<=1048576:=GY hlay;refine enter_call (Vo (call w s₀ s₁ mg mb fa o pm cd doc a vs ns G Y ho (fd_plain hd) hcd hmg hobj hints hlen hb hg) λr s' hq=>?_);obtain⟨rfl,h2,h3,h4⟩:=hq;exact⟨.inl ⟨.bool true,.bool true,[],rfl,λ_=>rfl,.bool true,GJ l _,λ_=>⟨List.Pairwise.nil,λ_ hm=>(nomatch hm)⟩⟩,h2,h3,h4⟩
end Att
namespace L2
open PySem PySem.Spec PyProof.Rows
theorem GZ{l:TU}{n k:Nat}{q:US}{loose:List Str}{XP:(Str->Option UE)->UR->Prop}{YP:UU->UR->Prop}{d:DefRec}{K:Params->NG}{CX:UU->kH}{sp:UU->Sp}{x:Str}
 (hn:l.most=some n)(hn2:n<=UN)(hdf:d.params.defaults=[])(hr:bH k callerA)
 (hY:∀(w:UU) (h:UR),YP w h->(K w.params).In h)
 (F:∀(w:UU) (mg:Str->Option UE) (fa:UH) (h:UR),(K w.params).In h->h.Ns UQ mg->mg d.name=some (.ref fa)->
  ∃fd:UP,(∀(s:UI) (u:UE),BindsTo s fd ⟨[u],[]⟩ [(x,u)])/\
   ∀base:UR,(K w.params).In base->base.Ns UQ mg->aC l.prog w (K w.params) mg base (CX w) k fa fd [x] (sp w))
 (hsp:∀(w:UU) (H:Hp) (a:UH) (ns:List Int),ns.length<=n->(∀z∈ns,Pj z<=1048576)->sZ H->bj (K w.params) H a (ns.map V.int)->sp w [.ref a] H (λv _=>v= .bl true) λ_ _ _=>False)
 (hCX:∀(w:UU) (H:Hp) (s:UI) (e:UE) (s':UI),CX w [] H s (λ_ _ _=>False) e s'->False):
 T9 q loose XP YP l.row.toRowW d [] (λf vs=>TR f vs):=by
 refine Att.attach_callB hn hdf λw s₀ s₁ mg mb fa o pm cd doc a vs ns G Y ho hd hcd hmg hobj hints hlen hb hg=>?_;have KX:=hY w _ Y;obtain⟨fd,hbi,hF⟩:=F w mg fa _ KX G.T.g hmg;exact GK KX G.T.g G.T.b G.T.builtins G.T.nolimit hg hobj hints (Oz hlen hn2) hr hF hbi (λH hO hS=>hsp w H a ns hlen hb hO hS) λH e s'=>hCX w H s₁ e s'
theorem walk_ofBK{l:TU}{n k:Nat}{q:US}{loose:List Str}{XP:(Str->Option UE)->UR->Prop}{YP:UU->UR->Prop}{d:DefRec}{K:Params->NG}{CX:kH}{sp:NG->Sp}{x:Str}
 (hn:l.most=some n)(hn2:n<=UN)(hdf:d.params.defaults=[])(hr:bH k callerA)
 (hY:∀(w:UU) (h:UR),YP w h->(K w.params).In h)
 (F:∀(w:UU) (mg:Str->Option UE) (fa:UH) (h:UR),(K w.params).In h->h.Ns UQ mg->mg d.name=some (.ref fa)->
  ∃fd:UP,(∀(s:UI) (u:UE),BindsTo s fd ⟨[u],[]⟩ [(x,u)])/\
   ∀base:UR,(K w.params).In base->base.Ns UQ mg->aC l.prog w (K w.params) mg base CX k fa fd [x] (sp (K w.params)))
 (hsp:∀(K:NG) (H:Hp) (a:UH) (ns:List Int),ns.length<=n->(∀z∈ns,Pj z<=1048576)->sZ H->bj K H a (ns.map V.int)->sp K [.ref a] H (λv _=>v= .bl true) λ_ _ _=>False)
 (hCX:∀(H:Hp) (s:UI) (e:UE) (s':UI),CX [] H s (λ_ _ _=>False) e s'->False):
 T9 q loose XP YP l.row.toRowW d [] (λf vs=>TR f vs):=
 GZ (K:=K) (CX:=λ_=>CX) (sp:=λw=>sp (K w.params)) hn hn2 hdf hr hY F (λw H a ns h1 hb h2 h3=>hsp (K w.params) H a ns h1 hb h2 h3) λ_ H s e s'=>hCX H s e s'
def mU(p:UH)(H H':Hp):Prop:=∀b o,H b=some o->b≠p->H' b=some o
theorem ao.new{H:Hp}{p:UH}{o:HO}(h:H p=none):ao H (ak H p o):=λb u e=>by rw [av (ko e h)];exact e
def FR(J:It)(g:TG)(tb:TS)(D:oh)(σ:St)(H1:Hp):Prop:=∃W:Nat->Nat->St->Hp->Prop,(∃m,W 0 m σ H1)/\∀i m σ H,W i m σ H->
 (J.stop i H/\D.nx σ H)\/(J.go i H/\∃N:St->Hp->Prop,(∀σ' H',N σ' H'->∃m',m' < m/\W (i+1) m' σ' H')/\∀x H',J.yld i H x H'->g x σ H' λσ2 H2=>tb {D with nx:=N,ct:=N,bk:=D.nx} σ2 H2)
theorem BE{ta:TA}{g:TG}{tb:TS}:rj (vq ta) g tb=λD σ H=>ta σ H λvs H1=>∃j:Int,vs=[.int j]/\-(2 ^ 62)<=j/\j < 2 ^ 62/\FR (mR 0 j.toNat) g tb D σ H1:=rfl
theorem BF{ta:TA}{g:TG}{tb:TS}:rj (vt ta) g tb=λD σ H=>ta σ H λvs H1=>∃i j:Int,vs=[.int i,.int j]/\(-(2 ^ 62)<=i/\i < 2 ^ 62/\-(2 ^ 62)<=j/\j < 2 ^ 62)/\FR (mR i (j - i).toNat) g tb D σ H1:=rfl
theorem BG{K:NG}{tl:TE}{g:TG}{tb:TS}:rj (vo K tl) g tb=λD σ H=>tl σ H λx H1=>∃a,x= .ref a/\(∃xs,bj K H1 a xs)/\FR (rg K a) g tb D σ H1:=rfl
theorem BH{K:NG}{tl:TE}{g:TG}{tb:TS}:rj (vp K tl) g tb=λD σ H=>tl σ H λx H1=>∃a,x= .ref a/\(∃xs,aX K H1 a xs)/\FR (rh K a) g tb D σ H1:=rfl
def oz(J:It)(g:TG)(tc:TT)(te:TE)(k:Nat)(fr:List Nat)(σ:St)(H1:Hp)(Q:VK):Prop:=∀D,H1 D=none->∃W:Nat->Nat->Hp->Prop,(∃m,W 0 m (ak H1 D (.lst [])))/\∀i m H,W i m H->
 (J.stop i H/\Q (.ref D) H)\/(J.go i H/\∀x H',J.yld i H x H'->g x (bC k fr σ) H' λσ2 H2=>oy (bC k fr σ) σ2/\tc σ2 H2 λok H3=>
  if ok=true then te σ2 H3 λy H4=>∃ys,H4 D=some (.lst ys)/\ys.length < UN/\∃m',m' < m/\W (i+1) m' (ak H4 D (.lst (ys++[y])))
  else ∃m',m' < m/\W (i+1) m' H3)
theorem BI{ta:TA}{g:TG}{tc:TT}{te:TE}{k:Nat}{fr:List Nat}:qi (vq ta) g tc te k fr=λσ H Q=>ta σ H λvs H1=>∃j:Int,vs=[.int j]/\-(2 ^ 62)<=j/\j < 2 ^ 62/\oz (mR 0 j.toNat) g tc te k fr σ H1 Q:=rfl
theorem BJ{ta:TA}{g:TG}{tc:TT}{te:TE}{k:Nat}{fr:List Nat}:qi (vt ta) g tc te k fr=λσ H Q=>ta σ H λvs H1=>∃i j:Int,vs=[.int i,.int j]/\(-(2 ^ 62)<=i/\i < 2 ^ 62/\-(2 ^ 62)<=j/\j < 2 ^ 62)/\oz (mR i (j - i).toNat) g tc te k fr σ H1 Q:=rfl
theorem BK{K:NG}{tl:TE}{g:TG}{tc:TT}{te:TE}{k:Nat}{fr:List Nat}:qi (vo K tl) g tc te k fr=λσ H Q=>tl σ H λx H1=>∃a,x= .ref a/\(∃xs,bj K H1 a xs)/\oz (rg K a) g tc te k fr σ H1 Q:=rfl
theorem BL{K:NG}{tl:TE}{g:TG}{tc:TT}{te:TE}{k:Nat}{fr:List Nat}:qi (vp K tl) g tc te k fr=λσ H Q=>tl σ H λx H1=>∃a,x= .ref a/\(∃xs,aX K H1 a xs)/\oz (rh K a) g tc te k fr σ H1 Q:=rfl
theorem BM{fr:List Nat}{σ:St}{v:Option V}:oy (bC 1 fr σ) ((bC 1 fr σ).set 0 v):=by
 refine⟨UC,λi w h=>?_⟩;cases i with
 | zero=>simp [bC,NO] at h
 | succ i=>simpa [bC,NO] using h
theorem G0{lo:Int}{n:Nat}{te:TE}{fr:List Nat}{σ:St}{H:Hp}{Q:VK}(f:Nat->V)(hn:n<=1000000)
 (ht:∀(i:Nat) (H':Hp) (R:VK),i < n->ao H H'->(∀H'',ao H' H''->R (f i) H'')->te ((bC 1 fr σ).set 0 (some (.int (lo+i)))) H' R)
 (hq:∀D H',H D=none->ao H H'->H' D=some (.lst ((PD n).map f))->Q (.ref D) H'):oz (mR lo n) (nJ 0) BC te 1 fr σ H Q:=by
 intro D hD;refine⟨λi m H'=>m=n - i/\i<=n/\ao H H'/\H' D=some (.lst ((PD i).map f)),⟨n,UC,PR _,ao.new hD,by rw [bh];rfl⟩,?_⟩;rintro i m H1 ⟨rfl,hi,s1,e1⟩;by_cases hlt:i < n
 ·refine .inr ⟨hlt,λx H' y=>?_⟩;obtain⟨e,y⟩:=y;subst e y;refine⟨BM,?_⟩;show te _ _ _;refine ht i H' _ hlt s1 λH2 s2=>?_;refine⟨_,s2 D _ e1,?_,n - (i+1),Uy,rfl,hlt,?_,?_⟩
  ·rw [NQ,QY,UT];omega
  ·exact λb o h=>by rw [av (ko h hD)];exact s2 b o (s1 b o h)
  ·rw [bh,QQ,PZ];rfl
 ·have e:i=n:=Uy
  subst e;exact .inl ⟨NT _,hq D H1 hD s1 e1⟩
theorem cxK{CX:kH}{P:US}{w:UU}{K:NG}{mg:Str->Option UE}{base:UR}{N:List Str}{qual:Str}{scope:Vc}{f:UH}{cd:UE}{A:UX}{outer:List Env}{s:UI}{H:Hp}{E:XK}:(jS CX P w K mg base N qual scope f cd A outer s H E).K=K:=rfl
theorem cmK{X:Cx}{scope:Vc}{N':List Str}{fp:List UH}{C:UH}{s:UI}{H:Hp}:(fx X scope N' fp C s H).K=X.K:=rfl
theorem BN{K:NG}{p:UH}{xs:List V}{i:Int}{v:V}{H:Hp}{Q:VK}(h:bj K H p xs)(hv:atI xs i=some v)(q:Q v H):vK K (.ref p) (.int i) H Q:=⟨p,xs,i,v,rfl,rfl,h,hv,q⟩
theorem vV{α:Type}{xs:List α}{i:Int}(h0:0<=i)(h1:i < xs.length):∃v,atI xs i=some v/\v∈xs:=by
 obtain⟨j,rfl⟩:=OX h0;have hj:j < xs.length:=Uy
 exact⟨xs[j],mG (by simp [hj]),Qj hj⟩
theorem G1:U0 "divmod"=some (.builtin "divmod"):=td
theorem kZ:U0 "isinstance"=some (.builtin "isinstance"):=td
theorem mI:U0 "int"=some (.type "int"):=td
theorem rF:U0 "bool"=some (.type "bool"):=td
theorem mv:U0 "str"=some (.type "str"):=td
theorem lz:U0 "tuple"=some (.type "tuple"):=td
theorem pk:U0 "list"=some (.type "list"):=td
open PySem PySem.Spec PyProof.Rows PySem.W
theorem bI.hide{P:US}{w:UU}{H:Hp}{h:UR}{as:List UH}(x:bI P w H h)(hn:∀b∈as,H b=none):bI P w H (hideAll h as):=λa o e=>by
 refine(x a o e).stay (λb u hb q=>Wf _ q λhm=>?_) (λ_ q=>q) (λ_ _ q=>q) λ_ _ q=>q;have z:=hn b hm;rcases hb with r | r
 ·rw [r] at z;rw [z] at e;cases e
 ·rw [z] at r;cases r
theorem G2{K:NG}{h:UR}{mg:Str->Option UE}{x:Str}{C:UH}{bmB:List UE}{newId:String}(X:K.In h)(hm:mg x=some (.ref C))(q:RE K C bmB newId=true):OwnCls x C bmB newId mg h:=by
 refine⟨hm,?_⟩;unfold RE at q;split at q
 ·rename_i dd cd sl ho;split at q
  ·rename_i C' bm k0 k1 k2 k3 n k5 hm hs;simp only [Oh,beq_iff_eq,N0] at q;obtain⟨⟨⟨⟨⟨rfl,rfl⟩,hdel⟩,ht⟩,hok⟩,hni⟩:=q;obtain⟨nm,bs,mro,ns,qn,hd,sn,sub,ab,col,del⟩:=cd;dsimp only at hm hdel hok hni;subst hm hdel;have hsl:sl=#[k0,k1,k2,k3,some (.builtin n),k5]:=by
    obtain⟨l⟩:=sl;simp only at hs;rw [hs]
   subst hsl;exact⟨bm,ns,nm,qn,bs,hd,sn,sub,ab,col,dd,k0,k1,k2,k3,k5,_,X _ _ ho,.of_isNs (isNs_of_in X hok),nsMap_none_of_in X hok hni,tail_of_in X ht⟩
  ·cases q
 ·cases q
section
variable {M:VU} {A:UX} {E:UE->UI->Prop}
variable {nm q:Str} {C N:UH} {bs bm:List UE} {hdct:Bool} {sn:List Str} {sub:List UE} {ab:Bool} {col:Option Bool} {dd:Option UH} {k0 k1 k2 k3 k5:Option UE} {newId:String}
variable {nm' q':Str} {C' N':UH} {bs' bm':List UE} {hdct':Bool} {sn':List Str} {sub':List UE} {ab':Bool} {col':Option Bool} {dd':Option UH} {k0' k1' k2' k3' k5':Option UE} {newId':String}
theorem BO{h:UR}{g:Array V0}{d:Drawn}{t:Nat}{os:OsState}{e:UH}{oe:Obj}{Q:Bool->UI->Prop}
 (hC:h.get? C=some (Vf nm q C N bs bm hdct sn sub ab col dd k0 k1 k2 k3 k5 newId))(hC':h.get? C'=some (Vf nm' q' C' N' bs' bm' hdct' sn' sub' ab' col' dd' k0' k1' k2' k3' k5' newId'))
 (he:h.get? e=some oe)(hcls:oe.cls= .ref C)(hbase:bm'.contains (.type "BaseException")=true)(hin:(Ow C::bm).contains (.ref C')=true)
 (hq:Q true ⟨h,g,d,t,os⟩):UK M A (excMatches (.ref e) (.ref C')) Q E ⟨h,g,d,t,os⟩:=by
 have hcB:(Ow C'::bm').contains (.type "BaseException")=true:=by rw [RR,hbase,Sg]
 have f:=tc_notTuple;unfold excMatches
 repeat (first | (with_reducible refine U7 he ?_;rw [hcls]) | with_reducible refine U7 hC' ?_ | (with_reducible refine VC hC' ?_;rw [hcB]) | (with_reducible refine VC hC ?_;rw [hin]) | wp_step)
 exact hq
end
section
variable {X:Cx} {Wt:List (UH×Obj)} {σ:St} {H:Hp} {s:UI}
theorem G3{M:VU}{A:UX}{E:UE->UI->Prop}{i:Nat}{x:Str}{pos:Pos}{Q:Unit->UI->Prop}(I:ag X Wt σ H s)(hN:X.N.Nodup)(hi:X.N[i]?=some x)(hx:X.env.scope.names.lookup x=some .local)
 (h:∀s',ag X Wt (σ.set i none) H s'->Q () s'):UK M A (do bindName X.env x .none;unbindBehindTheSuite X.env x pos) Q E s:=by
 have hcls:(X.env.scope.kind== .class || (X.env.scope.kind== .module && X.env.locals !=X.env.globals))=false:=by rw [I.ok.kind];rfl
 have hiσ:i < σ.length:=by rw [I.len];exact(OT.mp hi).1
 refine UG (wpAny_bindName (oU I hN hi (.inl hx) (v:= .non) rfl (λs1 I1=>?_) (.inr hx)));obtain⟨m,hn,hl⟩:=id I1.loc;obtain⟨u0,r0,lk⟩:=hl i x .non hi (by rw [Pd hiσ]) (.inl hx);have hv:∃v,m x=some v:=by
  rcases lk with⟨_,z⟩ | ⟨z,_⟩
  ·exact⟨_,z⟩
  ·rcases z with z | z
   ·exact absurd (z.symm.trans hx) UC
   ·exact absurd (z.symm.trans hx) UC
 obtain⟨v,hv⟩:=hv;unfold unbindBehindTheSuite;refine Wn (U2 (wpAny_unbindName_local (E:=λ_ _=>False) hx hn hv hcls λh' u hn' hs=>?_) (λ_ _ z=>z) λ_ _ z=>z.elim);obtain⟨oL,_,_,hoL,_⟩:=id hn;have cne:=I1.cne;have tracked:bI X.prog X.w H h':=λb ob e=>by
  refine(I1.hok b ob e).stay (λc w' hc q=>(hs.2 c ?_).trans q) (λ_ q=>q) (λ_ _ q=>q) λ_ _ q=>q;rintro rfl;rcases hc with z | hc
  ·rw [<-z,I1.free] at e;cases e
  ·rw [I1.free] at hc;cases hc
 refine h _ ⟨I1.ok,I1.os,I1.bare,⟨λb o e n hb hx'=>?_,λb o e n hb hx'=>?_,I1.base.free,λb o e hx'=>?_,I1.base.tups,I1.base.frzs,I1.base.tbls⟩,⟨_,hn',λj y v' e1 e2 e3=>?_⟩,λy c e=>?_,I1.free,I1.freeC,λp hp=>?_,tracked,by simpa using I.len⟩
 ·exact(hs.2 b (OF (OW (NV e) I.ok.above))).trans (I1.base.keep b o e n hb hx')
 ·obtain⟨sl,e1⟩:=I1.base.slot b o e n hb hx';exact⟨sl,(hs.2 b (OF (OW (NV e) I.ok.above))).trans e1⟩
 ·obtain⟨o',e1⟩:=I1.base.there b o e hx';exact⟨o',(hs.2 b (OF (OW (NV e) I.ok.above))).trans e1⟩
 ·by_cases hj:j=i
  ·subst hj;rw [Pd hiσ] at e2;cases e2
  ·rw [OZ (Ne.symm hj)] at e2;obtain⟨u',r',q⟩:=hl j y v' e1 (by rw [OZ (Ne.symm hj)];exact e2) e3;refine⟨u',r',?_⟩;rcases q with⟨k,e⟩ | ⟨k,c,e,z⟩
   ·refine .inl ⟨k,?_⟩;have:y≠x:=λe=>hj (uS hN e1 (e▸hi));simp [this,e]
   ·exact .inr ⟨k,c,e,z.sameBut hs (cne y c e)⟩
 ·obtain⟨w',z⟩:=I1.cell y c e;exact⟨w',z.sameBut hs (cne y c e)⟩
 ·obtain⟨e,n,ne,nf,d⟩:=I1.pin p hp;exact⟨(hs.2 p.1 ne).trans e,n,ne,nf,d⟩
end
def kI(e:UH)(C:UE)(h:UR):Prop:=∃o,h.get? e=some o/\o.cls=C
theorem bE.there{P:US}{w:UU}{H:Hp}{h:UR}{a:UH}{o:HO}(x:bE P w H h a o):∃ob,h.get? a=some ob:=by
 cases o with
 | lst xs=>obtain⟨_,_,_,_,e⟩:=x;exact⟨_,e⟩
 | tup xs=>obtain⟨_,_,_,ob,e,_⟩:=x;exact⟨_,e⟩
 | dK kvs=>obtain⟨_,_,_,_,o,_,_,e,_⟩:=x;exact⟨_,e⟩
 | dT kvs=>obtain⟨_,_,_,_,o,_,_,e,_⟩:=x;exact⟨_,e⟩
 | set S n=>obtain⟨o,_,_,_,e,_⟩:=x;exact⟨_,e⟩
 | ins C dx fs=>obtain⟨_,_,_,e,_⟩:=x;exact⟨_,e⟩
 | own y=>exact x
 | xd fs=>obtain⟨_,⟨_,_,_,e,_⟩,_⟩:=x;exact⟨_,e⟩
 | rng lo hi=>obtain⟨_,_,_,e⟩:=x;exact⟨_,e⟩
 | frz ob u=>obtain⟨e,_⟩:=x;exact⟨_,e⟩
 | tbl ps=>obtain⟨_,_,_,_,e,_⟩:=x;exact⟨_,e⟩
 | cod q=>obtain⟨_,_,_,e,_⟩:=x;exact⟨_,e⟩
 | met f y=>exact⟨_,(show h.get? a=some _ from x)⟩
 | ext φ=>exact x.2.1
theorem tm{X:Cx}{outer:List Env}{H H':Hp}{h h1 h2 B:UR}{e:UH}{cls a0:UE}(un:Un (cf outer) [] H H' h h1)(fl:QJ B outer e cls a0 h1)(st:B.StaysIn h2)(sm:h1.UpToSlots h2)
 (kb:∀b o,h.get? b=some o->H b=none->b ∉ cf outer->B.get? b=some o)(th:∀b o,h.get? b=some o->b ∉ cf outer->∃o',B.get? b=some o'):Un (cf outer) [] H H' h h2:=by
 have up:∀b∈cf outer,∀o,h1.get? b=some o->∃sl,h2.get? b=some {o with slots:=sl}:=λb hb o eo=>by
  obtain⟨_,o',ho',hd⟩:=fl.2.2.1.mem hb;rw [eo] at ho';cases ho';exact sm b o eo hd
 refine⟨λb o eb n hb _=>st b o (kb b o eb n hb),λb o eb n hb hx=>?_,un.free,λb o eb hx=>?_,un.tups,un.frzs,un.tbls⟩
 ·obtain⟨sl,es⟩:=un.slot b o eb n hb hx;obtain⟨sl',es'⟩:=up b hb _ es;exact⟨sl',es'⟩
 ·by_cases hb:b∈cf outer
  ·obtain⟨o',eo'⟩:=un.there b o eb hx;obtain⟨sl',es'⟩:=up b hb _ eo';exact⟨_,es'⟩
  ·obtain⟨o',eo'⟩:=th b o eb hb;exact⟨o',st b o' eo'⟩
abbrev Cx.inEx(X:Cx)(e:UH):Cx:={X with A:=X.A.mark (some (.ref e)),calm:=false,xe:=λ_ _=>False}
theorem Cx.Ok.inEx{X:Cx}(ok:X.Ok)(e:UH):(X.inEx e).Ok:=
 ⟨ok.mod,ok.kind,ok.glob,ok.blt,ok.above,ok.inj,ok.has,ok.cab,λz=>absurd z UC,ok.frames,ok.stk,ok.exf,ok.bs,ok.bsz,ok.noex,ok.exfs,ok.funs,ok.frf⟩
theorem Cx.Ok.outEx{X:Cx}{e:UH}(ok:(X.inEx e).Ok)(hd:X.calm=true->X.A.handled=none):X.Ok:=
 ⟨ok.mod,ok.kind,ok.glob,ok.blt,ok.above,ok.inj,ok.has,ok.cab,hd,ok.frames,ok.stk,ok.exf,ok.bs,ok.bsz,ok.noex,ok.exfs,ok.funs,ok.frf⟩
section
variable {X:Cx} {Wt:List (UH×Obj)} {σ:St} {H:Hp} {s:UI}
theorem ag.inEx(I:ag X Wt σ H s)(e:UH):ag (X.inEx e) Wt σ H s:=⟨I.ok.inEx e,I.os,I.bare,I.base,I.loc,I.cell,I.free,I.freeC,I.pin,I.hok,I.len⟩
theorem ag.outEx{e:UH}(I:ag (X.inEx e) Wt σ H s)(hd:X.calm=true->X.A.handled=none):ag X Wt σ H s:=⟨I.ok.outEx hd,I.os,I.bare,I.base,I.loc,I.cell,I.free,I.freeC,I.pin,I.hok,I.len⟩
end
theorem BP{K:NG}{h:UR}{C C':UH}{nm qn:Str}{N:UH}{bs bm:List UE}{hdct:Bool}{sn:List Str}{sub:List UE}{ab:Bool}{col:Option Bool}{dd:Option UH}{k0 k1 k2 k3 k5:Option UE}{newId:String}(X:K.In h)(e:P1 K C (.ref C')=some true)
 (hC:h.get? C=some (Vf nm qn C N bs bm hdct sn sub ab col dd k0 k1 k2 k3 k5 newId)):(Ow C::bm).contains (.ref C')=true:=by
 obtain⟨cd,a,b⟩:=Option.bind_eq_some_iff.mp e;unfold PySem.W.clsIn at a;split at a
 ·rename_i ho;cases a;have z:=(X _ _ ho).symm.trans hC;have z1:cd.mro=Ow C::bm:=by unfold Vf at z;cases z;rfl
  split at b
  ·cases b
  ·rw [z1] at b;exact Pg b
 ·cases a
section
variable {X:Cx}
theorem G4{bs:List Bool}{its:List UE}(r:aG (bs.map V.bl) its):its=bs.map QC:=by
 induction bs generalizing its with
 | nil=>cases r;rfl
 | cons b bs ih=>
  rw [NM] at r;cases r with
  | cons r1 r2=>
   rw [NM,<-ih r2];exact congrArg (·::_) r1
theorem G5(bs:List Bool)(f:Nat->Bool)(h:∀i,i < bs.length->f i=bs.getD i true):(PD bs.length).all f=bs.all id:=by
 rw [P5,Pf,Pf];constructor
 ·intro z b hb;obtain⟨i,hi,e⟩:=List.getElem_of_mem hb;have:=z i (QF.mpr hi);rw [h i hi,QB,O7 hi] at this;rw [<-e];exact this
 ·intro z i hi;have hi:=QF.mp hi;rw [h i hi,QB,O7 hi];exact z _ (Qj hi)
theorem G6{bs:List Bool}{i:Nat}{v:UE}(h:(bs.map QC).toArray[i]?=some v):v= .bool (bs.getD i true):=by
 have h':(bs.map QC)[i]?=some v:=by simpa using h
 rw [PX] at h';cases e:bs[i]? with
 | none=>rw [e] at h';cases h'
 | some b=>
  rw [e] at h';rw [QB,e];exact(Pg h').symm
theorem G7{prog:US}{w:UU}{A:UX}{E:UE->UI->Prop}{s:UI}{l:UH}{items:Array UE}{Q:UE->UI->Prop}(hl:s.heap.IsList l items)
 (h:∀s₂:UI,s₂={s with heap:=s.heap.push {cls:= .type "list_iterator",data:= .fields #[.ref l,.int 0 0]}}->
  (s₂.heap.IsListIter s.heap.objs.size l 0/\s₂.heap.IsList l items)->l≠s.heap.objs.size->Q (.ref s.heap.objs.size) s₂):UK (UL prog w) A (pyIter (.ref l)) Q E s:=by
 have hlt:l < s.heap.objs.size:=by obtain⟨_,e,_⟩:=hl;exact NV e
 exact Wo hl (h _ rfl ⟨⟨_,N2 _ rfl,rfl,rfl⟩,hl.push _⟩ (OF hlt))
theorem oA(hc:X.calm=true):kq X (.builtin "all") (λxs H Q=>∃(a:UH)(bs:List Bool),xs=[.ref a]/\bj X.K H a (bs.map V.bl)/\Q (.bl (bs.all id)) H):=by
 intro Wt s σ H xs us Q I r h;obtain⟨a,bs,rfl,hl,q⟩:=h;obtain⟨u,rfl,rx⟩:=kY r;cases rx;obtain⟨its,rv,p,hz⟩:=I.list hl;have hi:=G4 rv;subst hi;refine call_all_walk (G7 p.isList λs₂ e st hlI=>?_);subst e;refine⟨_,_,_,_,_,_,λi=>bs.getD i true,rfl,Uv (A:=X.A.in1) (I.ok.hd hc) _ a hlI _,st,λi v s' Q' E' hP hq=>by rw [G6 hP];exact U5 hq,λh' tk hk=>?_⟩;have e:=G5 bs (λi=>bs.getD i true) λ_ _=>rfl;have e2:(Pe QC bs).toArray.size=bs.length:=UC
 rw [e2,e];exact⟨.bl (bs.all id),H,I.kept (old_kept hk),rfl,q⟩
end
open PySem PySem.Spec PyProof.Rows PySem.W PySem.Calls PySem.Builtin.ObjectAttr PySem.Builtin PySem.Builtin.Getset_descriptor
section
variable {prog:US} {w:UU} {A:UX} {E:UE->UI->Prop} {s:UI} {K:NG} {x C:UH}
theorem kI.type{M:VU}{h:UR}(p:kI x (.ref C) h):Looks M h (typeOf (.ref x)) (.ref C):=by
 obtain⟨o,h1,h2⟩:=p;exact h2▸(Looks.ld h1).andThen .now
theorem G8{tp:UE}{R:Result->UI->Prop}(X:K.In s.heap)(p:kI x (.ref C) s.heap)(hm:mroIn K C (.type "object")=some true)(hq:R (.ok (.ret (.ref C))) s):
 Vy (UL prog w) A (.call (.builtin "getset_descriptor.__get__") ⟨[.builtin "object.__class__",.ref x,tp],[]⟩) R s:=by
 obtain⟨hh,gg,dr,tt,os⟩:=s;have LT:=kI.type (M:=UL prog w) p;have LM:=looks_mroIn (M:=UL prog w) X hm;refine Vl KF.slot_gs.plain KF.entry_gs (KF.slot_gs.check _ _ _ _ _ _ _ _ KF.type_class (KF.args_gs _ _ _) ?_);unfold Builtin.«getset_descriptor.__get__» descrGet;rw [dga_obj];refine UG (UJ ?_);unfold descrGetter descrCheckInstance descrNameAndClass isInstance;simp only [KF.owner_class]
 repeat lk
 refine⟨Ri _ td,Vr KF.entry_class ?_⟩;unfold Builtin.«object.__class__» shownTypeOf;(repeat lk);exact hq
structure lC (K:NG) (C:UH):Prop where
 ga:V7 K (.ref C) "__getattribute__"=some (some (.builtin "BaseException.__getattribute__"))
 hk:V7 K (.ref C) "__getattr__"=some none
 cl:V7 K (.ref C) "__class__"=some (some (.builtin "object.__class__"))
 gt:specialIn K (.builtin "object.__class__") "__get__"=some (some (.builtin "getset_descriptor.__get__"))
 tk:takesIn K (.builtin "object.__class__")=some true
 ob:mroIn K C (.type "object")=some true
 be:mroIn K C (.type "BaseException")=some true
 cd:(clsIn K C).isSome=true
theorem BQ{nameV:UE}{Q:Unit->UI->Prop}(Z:lC K C)(X:K.In s.heap)(p:kI x (.ref C) s.heap)(hq:Q () s):
 UK (UL prog w) A (VL "BaseException.__getattribute__" ⟨[.ref x,nameV],[]⟩) Q E s:=by
 have hk:builtinKind "BaseException.__getattribute__"=some .slot:=td
 have hsp:splitId "BaseException.__getattribute__"=some ("BaseException","__getattribute__"):=td
 have ha:=F.args_bexc_ga (.ref x) nameV;have LI:Looks (UL prog w) s.heap (isInstance (.ref x) (.type "BaseException")) true:=(kI.type p).andThen (looks_mroIn X Z.be);simp only [VL,hk,hsp];refine UG (LI.at ?_)
 repeat (first | wp_step)
 exact hq
theorem G9{tk:Tok}{Q:Fin->UI->Prop}(Z:lC K C)(X:K.In s.heap)(p:kI x (.ref C) s.heap)(hq:Q (.done (.ret (.ref C))) s):
 UK (UL prog w) A (Builtin.«object.__getattribute__» ⟨[.ref x,.str "__class__" tk],[]⟩) Q E s:=by
 obtain⟨hh,gg,dr,tt,os⟩:=s;have L0:=kI.type (M:=UL prog w) p;have L1:=Vz (M:=UL prog w) X Z.cl;have L2:=looks_specialIn (M:=UL prog w) X Z.gt;have L3:=looks_takesIn (M:=UL prog w) X Z.tk;have LF:Looks (UL prog w) hh (PySem.Builtin.ObjectAttr.find (.ref x) (.ref C) "__class__") (.bind (.builtin "getset_descriptor.__get__") (.builtin "object.__class__")):=
  L1.andThen (L2.andThen ((show Looks (UL prog w) hh (dataDescriptor? (some (.builtin "object.__class__")) (some (.builtin "getset_descriptor.__get__"))) (some (.builtin "getset_descriptor.__get__",.builtin "object.__class__")) from L3.andThen .now).andThen (Looks.tag .now)))
 unfold Builtin.«object.__getattribute__»
 repeat (first | with_reducible refine UG (L0.at ?_) | with_reducible refine UG (LF.at ?_) | wp_step)
 refine G8 X p Z.ob ?_
 repeat (first | wp_step)
 exact hq
theorem Ha{tk:Tok}{R:Result->UI->Prop}(Z:lC K C)(X:K.In s.heap)(p:kI x (.ref C) s.heap)(hq:R (.ok (.ret (.ref C))) s):
 Vy (UL prog w) A (.call (.builtin "BaseException.__getattribute__") ⟨[.ref x,.str "__class__" tk],[]⟩) R s:=
 Vl F.excAttr_ValueError.ga.plain F.entry_bexc_ga (BQ Z X p (G9 Z X p hq))
theorem Hb{tk:Tok}{Q:UE->UI->Prop}(Z:lC K C)(X:K.In s.heap)(p:kI x (.ref C) s.heap)(hq:Q (.ref C) s):
 UK (UL prog w) A (getAttrBy (.ref x) (.str "__class__" tk) false) Q E s:=by
 obtain⟨hh,gg,dr,tt,os⟩:=s;have L0:=kI.type (M:=UL prog w) p;have L1:=Vz (M:=UL prog w) X Z.ga;have L2:=Vz (M:=UL prog w) X Z.hk;have f3:=F.excAttr_ValueError.ga.bind (.ref x);have hx0:(false && onTheHeap (Qi "BaseException.__getattribute__"))=false:=rfl;have hx2:(Qi "BaseException.__getattribute__"==Qi "object.__getattribute__")=false:=td
 have hx1:(onTheHeap (Ow C) && Qi "BaseException.__getattribute__"==Qi "object.__getattribute__")=false:=by rw [hx2];rfl
 repeat (first | with_reducible refine UG (L0.at ?_) | with_reducible refine UG (L1.at ?_) | with_reducible refine L2.at ?_ | wp_step)
 refine Ha (s:=⟨hh,gg,dr,tt,os⟩) Z X p ?_
 repeat (first | wp_step)
 exact hq
theorem Hc{Q:Option UE->UI->Prop}(Z:lC K C)(X:K.In s.heap)(p:kI x (.ref C) s.heap)(hq:Q (some (.ref C)) {s with toks:=s.toks+1}):
 UK (UL prog w) A (getAttr? (.ref x) "__class__") Q E s:=by
 obtain⟨hh,gg,dr,tt,os⟩:=s;unfold getAttr? getAttrBy?
 repeat (any_goals (first | assumption | with_reducible apply Hb (s:=⟨hh,gg,dr,tt+1,os⟩) Z X p | wp_step))
theorem BR(Z:lC K C):KitX K (.ref x) (.ref C) (kI x (.ref C)) where
 ty:=λM h _ p=>kI.type p
 it:=λM h X _=>by
  obtain⟨cdD,hcD⟩:=Qo.mp Z.cd;unfold clsIn at hcD;split at hcD
  ·rename_i ho;intro A' Q' E' s' k q;unfold isType loadHead;exact UG (wpAny_loadPart (k _ _ (X _ _ ho)) (UJ q))
  ·cases hcD
 ne:=λh tp dd its n sl X htp=>by
  obtain⟨cdD,hcD⟩:=Qo.mp Z.cd;refine Tq.mpr λq=>?_;have e:=Ow.inj (beq_iff_eq.mp q);subst e;unfold clsIn at hcD;split at hcD
  ·rename_i ho;have z:=(X _ _ ho).symm.trans htp;cases z
  ·cases hcD
 ca:=λX p k=>Hc Z X p k
end
section
variable {X:Cx}
abbrev bx(d:UD):Prop:=P8 d=true
theorem Hd{cs:List UH}{its:List UE}(r:aG (cs.map V.ref) its):its=cs.map Ow:=by
 induction cs generalizing its with
 | nil=>cases r;rfl
 | cons b bs ih=>
  rw [NM] at r;cases r with
  | cons r1 r2=>
   rw [NM,<-ih r2];exact congrArg (·::_) r1
end
theorem oB:U0 "all"=some (.builtin "all"):=td
theorem He:U0 "ValueError"=some (.type "ValueError"):=td
def Hf(p:UH)(h:UR):Prop:=∃(n:Int)(t:Tok)(k:Nat),h.get? p=some {cls:= .type "list",data:= .seq #[.int n t] k}
abbrev nQ(p:UH):HO:= .ext (Hf p)
abbrev lT:UD:= .dict [(.none,.none)]
def Hg(p:UH)(h:UR):Prop:=∃(a b c:Int)(t u v:Tok)(k:Nat),h.get? p=some {cls:= .type "list",data:= .seq #[.int a t,.int b u,.int c v] k}
abbrev Hh(p:UH):HO:= .ext (Hg p)
abbrev Hi:UD:= .dict [(.none,.bool true)]
abbrev ma(ds:List UD):UD:= .dict [(.none,.list ds)]
abbrev BS(C:UH)(kp ds:List UD):UD:= .dict [(.none,.tuple [.int (C:Int),.list kp,.list ds])]
abbrev BU(kp ds:List UD):UD:= .dict [(.bool true,.tuple [.list kp,.list ds])]
abbrev Ex:=UH->Prop
abbrev rG:Hp:=λ_=>none
mutual
inductive Dt (K:NG) (H:Hp) (O:Ex):V->UD->Prop
 | non:Dt K H O .non .none
 | bl (b:Bool):Dt K H O (.bl b) (.bool b)
 | int (i:Int):Dt K H O (.int i) (.int i)
 | str (x:Str):Dt K H O (.str x) (.str x)
 | tup {a:UH} {xs:List V} {ds:List UD}:Rd H a (.tup xs)->¬O a->aq K H O xs ds->Dt K H O (.ref a) (.tuple ds)
 | tupK {a:UH} {xs:List V} {ds:List UD}:aX K rG a xs->aq K H O xs ds->Dt K H O (.ref a) (.tuple ds)
 | lst {a:UH} {xs:List V} {ds:List UD}:Rd H a (.lst xs)->¬O a->aq K H O xs ds->Dt K H O (.ref a) (.list ds)
 | pack {p:UH}:H p=some (nQ p)->¬O p->Dt K H O (.ref p) lT
 | purse {p:UH}:H p=some (Hh p)->¬O p->Dt K H O (.ref p) Hi
 | dct0 {a:UH}:H a=some (.dK [])->¬O a->Dt K H O (.ref a) (.dict [])
 | obj {a C dx:UH} {fs:List (Str×V)} {kp ds:List UD}:H a=some (.ins C dx fs)->kp=fs.map (λp=>NH p.1)->¬O a->aq K H O (fs.map (·.2)) ds->Dt K H O (.ref a) (BS C kp ds)
 | dic {a:UH} {ob:Obj} {kv:List (aZ×V)} {ks:List Str} {kp ds:List UD}:H a=some (.frz ob (.dK kv))->kv.map (·.1)=ks.map Rl->kp=ks.map NH->¬O a->aq K H O (kv.map (·.2)) ds->Dt K H O (.ref a) (BU kp ds)
 | scr {a:UH} {xs:List V} {ds:List UD}:(Rd H a (.lst xs)/\¬O a)\/bj K rG a xs->aq K H O xs ds->Dt K H O (.ref a) (ma ds)
inductive aq (K:NG) (H:Hp) (O:Ex):List V->List UD->Prop
 | nil:aq K H O [] []
 | cons {v:V} {d:UD} {vs:List V} {ds:List UD}:Dt K H O v d->aq K H O vs ds->aq K H O (v::vs) (d::ds)
end
theorem Rd.same{H H':Hp}{a:UH}{u:HO}(s:∀o,H a=some o->H' a=some o)(h:Rd H a u):Rd H' a u:=by
 rcases h with h | ⟨o,h⟩
 ·exact .inl (s _ h)
 ·exact .inr ⟨o,s _ h⟩
theorem Rd.trk{H:Hp}{a:UH}{u:HO}(h:Rd H a u):H a≠none:=by
 rcases h with h | ⟨o,h⟩ <;> rw [h] <;> exact λz=>nomatch z
section
variable {K:NG}
structure bz (H H':Hp) (O O':Ex):Prop where
 keep:∀b o,H b=some o->¬O b->H' b=some o
 out:∀b,H b≠none->¬O b->¬O' b
mutual
theorem Dt.step{H H':Hp}{O O':Ex}(S:bz H H' O O'):∀{v:V}{d:UD},Dt K H O v d->Dt K H' O' v d
 | _,_,.non=>.non
 | _,_,.bl b=>.bl b
 | _,_,.int i=>.int i
 | _,_,.str x=>.str x
 | _,_,.tup h n r=>.tup (h.same λo e=>S.keep _ o e n) (S.out _ h.trk n) (aq.step S r)
 | _,_,.tupK h r=>.tupK h (aq.step S r)
 | _,_,.lst h n r=>.lst (h.same λo e=>S.keep _ o e n) (S.out _ h.trk n) (aq.step S r)
 | _,_,.pack h n=>.pack (S.keep _ _ h n) (S.out _ (by rw [h];exact λz=>nomatch z) n)
 | _,_,.purse h n=>.purse (S.keep _ _ h n) (S.out _ (by rw [h];exact λz=>nomatch z) n)
 | _,_,.dct0 h n=>.dct0 (S.keep _ _ h n) (S.out _ (by rw [h];exact λz=>nomatch z) n)
 | _,_,.obj h e n r=>.obj (S.keep _ _ h n) e (S.out _ (by rw [h];exact λz=>nomatch z) n) (aq.step S r)
 | _,_,.dic h e1 e2 n r=>.dic (S.keep _ _ h n) e1 e2 (S.out _ (by rw [h];exact λz=>nomatch z) n) (aq.step S r)
 | _,_,.scr h r=>.scr (h.imp (λh=>⟨h.1.same λo e=>S.keep _ o e h.2,S.out _ h.1.trk h.2⟩) id) (aq.step S r)
theorem aq.step{H H':Hp}{O O':Ex}(S:bz H H' O O'):∀{vs:List V}{ds:List UD},aq K H O vs ds->aq K H' O' vs ds
 | _,_,.nil=>.nil
 | _,_,.cons h r=>.cons (Dt.step S h) (aq.step S r)
end
theorem bz.same{H H':Hp}{O:Ex}(s:ao H H'):bz H H' O O:=⟨λb o e _=>s b o e,λ_ _ n=>n⟩
theorem Dt.mono{H H':Hp}{O:Ex}{v:V}{d:UD}(s:ao H H')(h:Dt K H O v d):Dt K H' O v d:=h.step (.same s)
theorem aq.mono{H H':Hp}{O:Ex}{v:List V}{d:List UD}(s:ao H H')(h:aq K H O v d):aq K H' O v d:=h.step (.same s)
theorem aq.length{H:Hp}{O:Ex}:∀{vs:List V}{ds:List UD},aq K H O vs ds->vs.length=ds.length
 | _,_,.nil=>rfl
 | _,_,.cons _ r=>by rw [NI,NI,aq.length r]
theorem aq.get{H:Hp}{O:Ex}:∀{vs:List V}{ds:List UD}{i:Nat}{v:V},aq K H O vs ds->vs[i]?=some v->∃d,ds[i]?=some d/\Dt K H O v d
 | _,_,_,_,.nil,e=>by simp at e
 | _,_,0,_,.cons h _,e=>by simp at e;subst e;exact⟨_,rfl,h⟩
 | _,_,i+1,_,.cons _ r,e=>by simpa using aq.get (i:=i) r (by simpa using e)
theorem aq.getD{H:Hp}{O:Ex}:∀{vs:List V}{ds:List UD}{i:Nat}{d:UD},aq K H O vs ds->ds[i]?=some d->∃v,vs[i]?=some v/\Dt K H O v d
 | _,_,_,_,.nil,e=>by simp at e
 | _,_,0,_,.cons h _,e=>by simp at e;subst e;exact⟨_,rfl,h⟩
 | _,_,i+1,_,.cons _ r,e=>by simpa using aq.getD (i:=i) r (by simpa using e)
theorem aq.append{H:Hp}{O:Ex}:∀{vs ws:List V}{ds es:List UD},aq K H O vs ds->aq K H O ws es->aq K H O (vs++ws) (ds++es)
 | _,_,_,_,.nil,s=>s
 | _,_,_,_,.cons h r,s=>.cons h (aq.append r s)
theorem aq.take{H:Hp}{O:Ex}:∀{vs:List V}{ds:List UD}(n:Nat),aq K H O vs ds->aq K H O (vs.take n) (ds.take n)
 | _,_,0,_=>.nil
 | _,_,_+1,.nil=>.nil
 | _,_,n+1,.cons h r=>.cons h (aq.take n r)
theorem aq.drop{H:Hp}{O:Ex}:∀{vs:List V}{ds:List UD}(n:Nat),aq K H O vs ds->aq K H O (vs.drop n) (ds.drop n)
 | _,_,0,r=>r
 | _,_,_+1,.nil=>.nil
 | _,_,n+1,.cons _ r=>aq.drop n r
theorem aq.reverse{H:Hp}{O:Ex}:∀{vs:List V}{ds:List UD},aq K H O vs ds->aq K H O vs.reverse ds.reverse
 | _,_,.nil=>.nil
 | _,_,.cons h r=>by rw [Rt,Rt];exact(aq.reverse r).append (.cons h .nil)
theorem aq.ints{H:Hp}{O:Ex}:∀(ns:List Int),aq K H O (ns.map V.int) (ns.map NW)
 | []=>.nil
 | n::r=>.cons (.int n) (aq.ints r)
inductive Sh (K:NG) (H:Hp) (O:Ex):V->UD->Prop
 | dt {v:V} {d:UD}:Dt K H O v d->Sh K H O v d
 | own {l:UH} {vs:List V} {ds:List UD}:H l=some (.lst vs)->aq K H O vs ds->Sh K H O (.ref l) (.list ds)
theorem Sh.mono{H H':Hp}{O:Ex}{v:V}{d:UD}(s:ao H H'):Sh K H O v d->Sh K H' O v d
 | .dt h=>.dt (h.mono s)
 | .own h r=>.own (s _ _ h) (r.mono s)
theorem Dt.all{H:Hp}{O:Ex}{v:V}{d:UD}(h:Dt K H O v d):Dt K H (λ_=>False) v d:=h.step ⟨λ_ _ e _=>e,λ_ _ _ z=>z⟩
theorem aq.all{H:Hp}{O:Ex}{v:List V}{d:List UD}(h:aq K H O v d):aq K H (λ_=>False) v d:=h.step ⟨λ_ _ e _=>e,λ_ _ _ z=>z⟩
theorem Sh.all{H:Hp}{O:Ex}{v:V}{d:UD}:Sh K H O v d->Dt K H (λ_=>False) v d
 | .dt h=>h.all
 | .own h r=>.lst (.inl h) (λz=>z) r.all
theorem aX.of0{H:Hp}{a:UH}{xs:List V}(h:aX K rG a xs):aX K H a xs:=by
 rcases h with(h | ⟨o,h⟩) | h
 ·cases h
 ·cases h
 ·exact .inr h
theorem bj.of0{H:Hp}{a:UH}{xs:List V}(h:bj K rG a xs):bj K H a xs:=by
 rcases h with(h | ⟨o,h⟩) | h
 ·cases h
 ·cases h
 ·exact .inr h
theorem Sh.tup{H:Hp}{O:Ex}{v:V}{ds:List UD}(h:Sh K H O v (.tuple ds)):∃a xs,v= .ref a/\aX K H a xs/\aq K H O xs ds:=by
 cases h with
 | dt h=>
  cases h with
  | tup h _ r=>exact⟨_,_,rfl,.inl h,r⟩
  | tupK h r=>exact⟨_,_,rfl,h.of0,r⟩
theorem Sh.lstR{H:Hp}{O:Ex}{v:V}{ds:List UD}(h:Sh K H O v (.list ds)):∃a xs,v= .ref a/\Rd H a (.lst xs)/\aq K H O xs ds:=by
 cases h with
 | dt h=>
  cases h with
  | lst h _ r=>exact⟨_,_,rfl,h,r⟩
 | own h r=>exact⟨_,_,rfl,.inl h,r⟩
theorem Sh.lst{H:Hp}{O:Ex}{v:V}{ds:List UD}(h:Sh K H O v (.list ds)):∃a xs,v= .ref a/\bj K H a xs/\aq K H O xs ds:=by
 obtain⟨a,xs,e,h,r⟩:=h.lstR;exact⟨a,xs,e,.inl h,r⟩
theorem Sh.scr{H:Hp}{O:Ex}{v:V}{ds:List UD}(h:Sh K H O v (ma ds)):∃a xs,v= .ref a/\bj K H a xs/\aq K H O xs ds:=by
 cases h with
 | dt h=>
  cases h with
  | scr h r=>
   rcases h with h | h
   ·exact⟨_,_,rfl,.inl h.1,r⟩
   ·exact⟨_,_,rfl,h.of0,r⟩
theorem Sh.int{H:Hp}{O:Ex}{v:V}{i:Int}(h:Sh K H O v (.int i)):v= .int i:=by cases h with | dt h=>cases h;rfl
theorem Sh.bl{H:Hp}{O:Ex}{v:V}{i:Bool}(h:Sh K H O v (.bool i)):v= .bl i:=by cases h with | dt h=>cases h;rfl
theorem Sh.str{H:Hp}{O:Ex}{v:V}{i:Str}(h:Sh K H O v (.str i)):v= .str i:=by cases h with | dt h=>cases h;rfl
theorem Sh.non{H:Hp}{O:Ex}{v:V}(h:Sh K H O v .none):v= .non:=by cases h with | dt h=>cases h;rfl
def cj:UD->Bool
 | .none | .bool _ | .int _ | .str _=>true
 | _=>false
end
section
variable {X:Cx} {Wt:List (UH×Obj)} {σ:St} {H:Hp} {s:UI}
mutual
theorem mJ(I:ag X Wt σ H s){O:Ex}:∀{v:V}{d:UD}{u:UE},Dt X.K H O v d->d.canLay0=true->aD v u->∃as,Reads s.heap u d as
 | _,_,_,.non,_,r=>by cases r;exact⟨_,Reads.none⟩
 | _,_,_,.bl b,_,r=>by cases r;exact⟨_,Reads.bool b⟩
 | _,_,_,.int i,_,r=>by obtain⟨t,rfl⟩:=r;exact⟨_,Reads.int i t⟩
 | _,_,_,.str x,_,r=>by obtain⟨t,rfl⟩:=r;exact⟨_,Reads.str x t⟩
 | _,_,_,.tup h _ hs,c,r=>by
  cases r;obtain⟨its,rv,⟨o,e,c',n,dd⟩,_⟩:=I.tuple (.inl h);obtain⟨as,q⟩:=tq I hs (by simpa [Pc] using c) rv;exact⟨as,reads_tuple_at e c' dd (by simpa using q)⟩
 | _,_,_,.tupK h hs,c,r=>by
  cases r;obtain⟨its,rv,⟨o,e,c',n,dd⟩,_⟩:=I.tuple h.of0;obtain⟨as,q⟩:=tq I hs (by simpa [Pc] using c) rv;exact⟨as,reads_tuple_at e c' dd (by simpa using q)⟩
 | _,_,_,.lst h _ hs,c,r=>by
  cases r;obtain⟨its,rv,⟨o,n,e,c',_,dd⟩,_⟩:=I.list (.inl h);obtain⟨as,q⟩:=tq I hs (by simpa [Pc] using c) rv;exact⟨_,reads_list_at e c' dd (by simpa using q)⟩
 | _,_,_,.pack _ _,c,_=>by simp [Pc] at c
 | _,_,_,.purse _ _,c,_=>by simp [Pc] at c
 | _,_,_,.dct0 _ _,c,_=>by simp [Pc] at c
 | _,_,_,.obj _ _ _ _,c,_=>by simp [Pc] at c
 | _,_,_,.dic _ _ _ _ _,c,_=>by simp [Pc] at c
 | _,_,_,.scr _ _,c,_=>by simp [Pc] at c
theorem tq(I:ag X Wt σ H s){O:Ex}:∀{vs:List V}{ds:List UD}{us:List UE},aq X.K H O vs ds->Py ds=true->aG vs us->∃as,ReadsAll s.heap us ds as
 | _,_,_,.nil,_,r=>by cases r;exact⟨_,ReadsAll.nil⟩
 | _,_,_,.cons h hs,c,r=>by
  rw [Py,Oh] at c;cases r with
  | cons r1 r2=>
   obtain⟨as,q⟩:=mJ I h c.1 r1;obtain⟨bs,p⟩:=tq I hs c.2 r2;exact⟨_,ReadsAll.cons q p⟩
end
end
inductive Sl where
 | v (d:UD)
 | o (ds:List UD)
 | k (kd:List (aZ×UD))
 | i (l C:UH) (fd:List (Str×UD))
 | r (l C g u:UH) (fd:List (Str×UD)) (gd ud:List (aZ×UD))
 | b (ds:List UD)
 | f (kd:List (aZ×UD))
abbrev Dl:=List (Option Sl)
inductive lK (K:NG) (H:Hp) (O:Ex):List (aZ×V)->List (aZ×UD)->Prop
 | nil:lK K H O [] []
 | cons {k:aZ} {v:V} {d:UD} {r:List (aZ×V)} {s:List (aZ×UD)}:Dt K H O v d->lK K H O r s->lK K H O ((k,v)::r) ((k,d)::s)
theorem lK.step{K:NG}{H H':Hp}{O O':Ex}(S:bz H H' O O'){r:List (aZ×V)}{s:List (aZ×UD)}(h:lK K H O r s):lK K H' O' r s:=by
 induction h with
 | nil=>exact .nil
 | cons a _ ih=>exact .cons (a.step S) ih
theorem lK.mono{K:NG}{H H':Hp}{O:Ex}(S:ao H H'){r:List (aZ×V)}{s:List (aZ×UD)}(h:lK K H O r s):lK K H' O r s:=h.step (.same S)
def vW(K:NG)(H:Hp)(O:Ex)(fs:List (Str×V))(fd:List (Str×UD)):Prop:=fs.map (·.1)=fd.map (·.1)/\aq K H O (fs.map (·.2)) (fd.map (·.2))
def Sl.own:Sl->Prop
 | .v _=>False
 | .b _=>False
 | .f _=>False
 | _=>True
abbrev Hj:Str:=NF "gone"
abbrev Hk:Str:=NF "used"
def Hl(K:NG)(H:Hp)(O0 O:Ex)(l C g u:UH)(fd:List (Str×UD))(gd ud:List (aZ×UD)):Prop:=∃dx fs og ou gv uv,H l=some (.ins C dx (fs++[(Hj,.ref g),(Hk,.ref u)]))/\vW K H O fs fd/\g≠u/\
 (O g/\¬O0 g/\H g=some (.frz og (.dK gv))/\lK K H O gv gd)/\(O u/\¬O0 u/\H u=some (.frz ou (.dK uv))/\lK K H O uv ud)
def nR(K:NG)(H:Hp)(O0 O:Ex)(x:Option V):Option Sl->Prop
 | none=>True
 | some (.v d)=>∃v,x=some v/\Dt K H O v d
 | some (.o ds)=>∃l vs,x=some (.ref l)/\O l/\¬O0 l/\H l=some (.lst vs)/\aq K H O vs ds
 | some (.k kd)=>∃l kv,x=some (.ref l)/\O l/\¬O0 l/\H l=some (.dK kv)/\lK K H O kv kd
 | some (.i l C fd)=>∃dx fs,x=some (.ref l)/\O l/\¬O0 l/\H l=some (.ins C dx fs)/\vW K H O fs fd
 | some (.r l C g u fd gd ud)=>x=some (.ref l)/\O l/\¬O0 l/\Hl K H O0 O l C g u fd gd ud
 | some (.b ds)=>∃l vs,x=some (.ref l)/\O0 l/\H l=some (.lst vs)/\aq K H O vs ds
 | some (.f kd)=>∃l o kv,x=some (.ref l)/\¬O l/\H l=some (.frz o (.dK kv))/\lK K H O kv kd
structure Wd (K:NG) (H0:Hp) (O0:Ex) (H:Hp) (O:Ex) (σ:St) (δ:Dl):Prop where
 same:ao H0 H
 sub:∀l,O0 l->O l
 new:∀l,O l->O0 l\/H0 l=none
 trk:∀l,O l->H l≠none
 len:σ.length=δ.length
 sl:∀(i:Nat) y,δ[i]?=some y->nR K H O0 O ((σ[i]?).join) y
 dis:∀(i j:Nat) y z l,δ[i]?=some (some y)->y.own->δ[j]?=some (some z)->z.own->σ[i]?=some (some (.ref l))->σ[j]?=some (some (.ref l))->i=j
section
variable {K:NG} {H0 H H':Hp} {O0 O:Ex} {σ:St} {δ:Dl}
theorem nR.mono{x:Option V}{y:Option Sl}(s:ao H H')(h:nR K H O0 O x y):nR K H' O0 O x y:=by
 cases y with
 | none=>exact PV
 | some y=>
  cases y with
  | v d=>
   obtain⟨v,e,r⟩:=h;exact⟨v,e,r.mono s⟩
  | o ds=>
   obtain⟨l,vs,e,a,b,c,r⟩:=h;exact⟨l,vs,e,a,b,s _ _ c,r.mono s⟩
  | k ds=>
   obtain⟨l,vs,e,a,b,c,r⟩:=h;exact⟨l,vs,e,a,b,s _ _ c,r.mono s⟩
  | i l C ds=>
   obtain⟨dx,vs,e,a,b,c,r1,r2⟩:=h;exact⟨dx,vs,e,a,b,s _ _ c,r1,r2.mono s⟩
  | r l C g u fd gd ud=>
   obtain⟨e,a,b,dx,fs,og,ou,gv,uv,c,⟨r1,r2⟩,ne,⟨g1,g2,g3,g4⟩,u1,u2,u3,u4⟩:=h;exact⟨e,a,b,dx,fs,og,ou,gv,uv,s _ _ c,⟨r1,r2.mono s⟩,ne,⟨g1,g2,s _ _ g3,g4.mono s⟩,u1,u2,s _ _ u3,u4.mono s⟩
  | b ds=>
   obtain⟨l,vs,e,a,c,r⟩:=h;exact⟨l,vs,e,a,s _ _ c,r.mono s⟩
  | f kd=>
   obtain⟨l,o,kv,e,a,c,r⟩:=h;exact⟨l,o,kv,e,a,s _ _ c,r.mono s⟩
theorem nR.go{O':Ex}{x:Option V}{y:Option Sl}(h:nR K H O0 O x y)(S:bz H H' O O')(kp:∀l o,y.any (λz=>match z with | .v _=>false | .b _=>false | .f _=>false | _=>true)=true->x=some (.ref l)->O l->¬O0 l->H l=some o->O' l/\H' l=some o)
 (kp2:∀a o u,O a->¬O0 a->H a=some (.frz o u)->O' a/\H' a=some (.frz o u))(kp3:∀a o,O0 a->H a=some o->H' a=some o):nR K H' O0 O' x y:=by
 cases y with
 | none=>exact PV
 | some y=>
  cases y with
  | v d=>
   obtain⟨v,e,r⟩:=h;exact⟨v,e,r.step S⟩
  | o ds=>
   obtain⟨l,vs,e,a,b,c,r⟩:=h;exact⟨l,vs,e,(kp l _ rfl e a b c).1,b,(kp l _ rfl e a b c).2,r.step S⟩
  | k ds=>
   obtain⟨l,vs,e,a,b,c,r⟩:=h;exact⟨l,vs,e,(kp l _ rfl e a b c).1,b,(kp l _ rfl e a b c).2,r.step S⟩
  | i l C ds=>
   obtain⟨dx,vs,e,a,b,c,r1,r2⟩:=h;exact⟨dx,vs,e,(kp l _ rfl e a b c).1,b,(kp l _ rfl e a b c).2,r1,r2.step S⟩
  | r l C g u fd gd ud=>
   obtain⟨e,a,b,dx,fs,og,ou,gv,uv,c,⟨r1,r2⟩,ne,⟨g1,g2,g3,g4⟩,u1,u2,u3,u4⟩:=h;exact⟨e,(kp l _ rfl e a b c).1,b,dx,fs,og,ou,gv,uv,(kp l _ rfl e a b c).2,⟨r1,r2.step S⟩,ne,⟨(kp2 _ _ _ g1 g2 g3).1,g2,(kp2 _ _ _ g1 g2 g3).2,g4.step S⟩,(kp2 _ _ _ u1 u2 u3).1,u2,(kp2 _ _ _ u1 u2 u3).2,u4.step S⟩
  | b ds=>
   obtain⟨l,vs,e,a,c,r⟩:=h;exact⟨l,vs,e,a,kp3 _ _ a c,r.step S⟩
  | f kd=>
   obtain⟨l,o,kv,e,a,c,r⟩:=h;exact⟨l,o,kv,e,S.out _ (by rw [c];exact λz=>nomatch z) a,S.keep _ _ c a,r.step S⟩
theorem Wd.mono(s:ao H H')(w:Wd K H0 O0 H O σ δ):Wd K H0 O0 H' O σ δ:=
 ⟨w.same.trans s,w.sub,w.new,λl h z=>(by
  cases e:H l with
  | none=>exact w.trk l h e
  | some o=>rw [s _ _ e] at z;cases z),w.len,λi y e=>(w.sl i y e).mono s,w.dis⟩
theorem pq{i:Nat}{v:V}(h:(σ[i]?).join=some v):σ[i]?=some (some v):=by
 cases q:σ[i]? with
 | none=>rw [q] at h;cases h
 | some o=>rw [q] at h;rw [show o=some v from h]
theorem Wd.val(w:Wd K H0 O0 H O σ δ){i:Nat}{d:UD}(e:δ[i]?=some (some (.v d))):∃v,σ[i]?=some (some v)/\Dt K H O v d:=by
 obtain⟨v,h,r⟩:=w.sl i _ e;exact⟨v,pq h,r⟩
theorem Wd.own(w:Wd K H0 O0 H O σ δ){i:Nat}{ds:List UD}(e:δ[i]?=some (some (.o ds))):∃l vs,σ[i]?=some (some (.ref l))/\O l/\¬O0 l/\H l=some (.lst vs)/\aq K H O vs ds:=by
 obtain⟨l,vs,h,r⟩:=w.sl i _ e;exact⟨l,vs,pq h,r⟩
theorem Wd.ownK(w:Wd K H0 O0 H O σ δ){i:Nat}{kd:List (aZ×UD)}(e:δ[i]?=some (some (.k kd))):∃l kv,σ[i]?=some (some (.ref l))/\O l/\¬O0 l/\H l=some (.dK kv)/\lK K H O kv kd:=by
 obtain⟨l,vs,h,r⟩:=w.sl i _ e;exact⟨l,vs,pq h,r⟩
theorem Wd.ownI(w:Wd K H0 O0 H O σ δ){i:Nat}{l C:UH}{fd:List (Str×UD)}(e:δ[i]?=some (some (.i l C fd))):∃dx fs,σ[i]?=some (some (.ref l))/\O l/\¬O0 l/\H l=some (.ins C dx fs)/\vW K H O fs fd:=by
 obtain⟨dx,vs,h,r⟩:=w.sl i _ e;exact⟨dx,vs,pq h,r⟩
theorem Wd.adr(w:Wd K H0 O0 H O σ δ){i:Nat}{y:Sl}(e:δ[i]?=some (some y))(h:y.own):∃l,σ[i]?=some (some (.ref l))/\O l/\¬O0 l:=by
 match y,h,e with
 | .o ds,_,e=>obtain⟨l,vs,a,b,c,_⟩:=w.own e;exact⟨l,a,b,c⟩
 | .k ds,_,e=>obtain⟨l,vs,a,b,c,_⟩:=w.ownK e;exact⟨l,a,b,c⟩
 | .i l C ds,_,e=>obtain⟨dx,vs,a,b,c,_⟩:=w.ownI e;exact⟨l,a,b,c⟩
 | .r l C g u fd gd ud,_,e=>obtain⟨a,b,c,_⟩:=w.sl i _ e;exact⟨l,pq a,b,c⟩
theorem Wd.nofrz(w:Wd K H0 O0 H O σ δ){i:Nat}{y:Sl}{l:UH}(e:δ[i]?=some (some y))(h:y.own)(hl:σ[i]?=some (some (.ref l)))(o:Obj)(u:HO):H l≠some (.frz o u):=by
 match y,h,e with
 | .o ds,_,e=>obtain⟨l',vs,a,b,c,d,_⟩:=w.own e;rw [hl] at a;cases a;rw [d];exact λz=>nomatch z
 | .k ds,_,e=>obtain⟨l',vs,a,b,c,d,_⟩:=w.ownK e;rw [hl] at a;cases a;rw [d];exact λz=>nomatch z
 | .i l C ds,_,e=>obtain⟨dx,vs,a,b,c,d,_⟩:=w.ownI e;rw [hl] at a;cases a;rw [d];exact λz=>nomatch z
 | .r l C g u fd gd ud,_,e=>obtain⟨a,b,c,_,_,_,_,_,_,d,_⟩:=w.sl i _ e;have a:=pq a;rw [hl] at a;cases a;rw [d];exact λz=>nomatch z
theorem Wd.set(w:Wd K H0 O0 H O σ δ){i:Nat}{v:V}{d:UD}(h:Dt K H O v d):Wd K H0 O0 H O (σ.set i (some v)) (δ.set i (some (.v d))):=by
 refine⟨w.same,w.sub,w.new,w.trk,by simp [w.len],λj y e=>?_,λj k y z l e1 y1 e2 z2 e3 e4=>?_⟩
 ·by_cases hj:j=i
  ·subst hj;have hl:j < δ.length:=by
    have:=(OT.mp e).1;simpa using this
   rw [Pd hl] at e;cases e;rw [Pd (by rw [w.len];exact hl)];exact⟨v,rfl,h⟩
  ·rw [OZ (Ne.symm hj)] at e⊢;exact w.sl j y e
 ·have ne:∀{j:Nat}{y:Sl},(δ.set i (some (.v d)))[j]?=some (some y)->y.own->j≠i:=λ{j y} e ho z=>by
   subst z;by_cases hl:j < δ.length
   ·rw [Pd hl] at e;cases e;exact ho
   ·rw [Ql (by simpa using hl)] at e;cases e
  have n1:=ne e1 y1;have n2:=ne e2 z2;rw [OZ (Ne.symm n1)] at e1 e3;rw [OZ (Ne.symm n2)] at e2 e4;exact w.dis j k y z l e1 y1 e2 z2 e3 e4
theorem Wd.setY(w:Wd K H0 O0 H O σ δ){i:Nat}{p:UH}{ho:HO}{y0:Sl}(hy:y0.own)(hp:H p=none)(h:∀O',bz H (ak H p ho) O O'->O' p->¬O0 p->nR K (ak H p ho) O0 O' (some (.ref p)) (some y0)):
 Wd K H0 O0 (ak H p ho) (λl=>O l\/l=p) (σ.set i (some (.ref p))) (δ.set i (some y0)):=by
 have sm:ao H (ak H p ho):=ao.new hp;have np:∀l,O l->l≠p:=λl hl z=>w.trk l hl (by rw [z];exact hp);have p0:H0 p=none:=by
  cases e:H0 p with
  | none=>rfl
  | some o=>rw [w.same _ _ e] at hp;cases hp
 have S:bz H (ak H p ho) O (λl=>O l\/l=p):=⟨λb o e _=>sm b o e,λb hb hn z=>z.elim hn λq=>hb (by rw [q];exact hp)⟩;have n0:¬O0 p:=λz=>np p (w.sub p z) rfl;refine⟨w.same.trans sm,λl z=>.inl (w.sub l z),λl z=>z.elim (w.new l) λq=>.inr (by rw [q];exact p0),λl z=>?_,by simp [w.len],λj y e=>?_,λj k y z l e1 y1 e2 z2 e3 e4=>?_⟩
 ·by_cases q:l=p
  ·rw [q,bh];exact λz=>nomatch z
  ·rw [av q];exact w.trk l (z.resolve_right q)
 ·by_cases hj:j=i
  ·subst hj;have hl:j < δ.length:=by
    have:=(OT.mp e).1;simpa using this
   rw [Pd hl] at e;cases e;rw [Pd (by rw [w.len];exact hl)];exact h _ S (.inr rfl) n0
  ·rw [OZ (Ne.symm hj)] at e⊢;exact(w.sl j y e).go S (λl o _ _ a _ c=>⟨.inl a,sm _ _ c⟩) (λa o u a1 _ a3=>⟨.inl a1,sm _ _ a3⟩) λa o _ a3=>sm _ _ a3
 ·by_cases hj:j=i
  ·by_cases hk:k=i
   ·rw [hj,hk]
   ·exfalso;rw [hj] at e1 e3;have hl:i < σ.length:=by
     have:=(OT.mp e3).1;simpa using this
    rw [Pd hl] at e3;cases e3;rw [OZ (Ne.symm hk)] at e2 e4;obtain⟨l',x1,x2,_⟩:=w.adr e2 z2;rw [e4] at x1;cases x1;exact np _ x2 rfl
  ·by_cases hk:k=i
   ·exfalso;rw [hk] at e2 e4;have hl:i < σ.length:=by
     have:=(OT.mp e4).1;simpa using this
    rw [Pd hl] at e4;cases e4;rw [OZ (Ne.symm hj)] at e1 e3;obtain⟨l',x1,x2,_⟩:=w.adr e1 y1;rw [e3] at x1;cases x1;exact np _ x2 rfl
   ·rw [OZ (Ne.symm hj)] at e1 e3;rw [OZ (Ne.symm hk)] at e2 e4;exact w.dis j k _ _ l e1 y1 e2 z2 e3 e4
theorem Wd.setO(w:Wd K H0 O0 H O σ δ){i:Nat}{p:UH}{vs:List V}{ds:List UD}(hp:H p=none)(h:aq K H O vs ds):
 Wd K H0 O0 (ak H p (.lst vs)) (λl=>O l\/l=p) (σ.set i (some (.ref p))) (δ.set i (some (.o ds))):=
 w.setY trivial hp λO' S a b=>⟨p,vs,rfl,a,b,bh,h.step S⟩
theorem Wd.putY(w:Wd K H0 O0 H O σ δ){i:Nat}{l:UH}{ho:HO}{y0 y1:Sl}(h0:y0.own)(h1:y1.own)(e:δ[i]?=some (some y0))(hl:σ[i]?=some (some (.ref l)))(h:bz H (ak H l ho) O O->O l->¬O0 l->nR K (ak H l ho) O0 O (some (.ref l)) (some y1)):
 Wd K H0 O0 (ak H l ho) O σ (δ.set i (some y1)):=by
 obtain⟨l',x1,x2,x3⟩:=w.adr e h0;rw [hl] at x1;cases x1;have l0:H0 l=none:=(w.new l x2).resolve_left x3;have S:bz H (ak H l ho) O O:=⟨λb o q n=>by rw [av (λz=>n (by rw [z];exact x2))];exact q,λ_ _ n=>n⟩;have li:i < δ.length:=(OT.mp e).1;refine⟨λb o q=>by rw [av (λz=>by rw [z,l0] at q;cases q)];exact w.same b o q,w.sub,w.new,λb z=>?_,by simp [w.len],λj y q=>?_,λj k y z b e1 y1' e2 z2 e3 e4=>?_⟩
 ·by_cases q:b=l
  ·rw [q,bh];exact λz=>nomatch z
  ·rw [av q];exact w.trk b z
 ·by_cases hj:j=i
  ·subst hj;rw [Pd li] at q;cases q;rw [hl];exact h S x2 x3
  ·rw [OZ (Ne.symm hj)] at q;refine(w.sl j y q).go S (λb o ho' e' a1 a2 a3=>⟨a1,?_⟩) (λb o u a1 a2 a3=>⟨a1,by rw [av (λz=>w.nofrz e h0 hl o u (by rw [<-z];exact a3))];exact a3⟩) λb o a1 a3=>by rw [av (λz=>x3 (by rw [<-z];exact a1))];exact a3
   have nb:b≠l:=λz=>by
    subst z
    match y,ho',q with
    | some z,ho',q=>exact hj (w.dis j i z y0 b q (by cases z <;> first | trivial | cases ho') e h0 (pq e') hl)
   rw [av nb];exact a3
 ·have nS:∀{j:Nat}{y:Sl},(δ.set i (some y1))[j]?=some (some y)->y.own->∃y',δ[j]?=some (some y')/\y'.own:=λ{j y} q hq=>by
   by_cases hj:j=i
   ·subst hj;exact⟨_,e,h0⟩
   ·rw [OZ (Ne.symm hj)] at q;exact⟨_,q,hq⟩
  obtain⟨_,q1,r1⟩:=nS e1 y1';obtain⟨_,q2,r2⟩:=nS e2 z2;exact w.dis j k _ _ b q1 r1 q2 r2 e3 e4
theorem Wd.putO(w:Wd K H0 O0 H O σ δ){i:Nat}{l:UH}{vs us:List V}{ds es:List UD}(e:δ[i]?=some (some (.o ds)))(hl:σ[i]?=some (some (.ref l)))(h:aq K H O us es):
 Wd K H0 O0 (ak H l (.lst us)) O σ (δ.set i (some (.o es))):=
 w.putY (y0:= .o ds) (y1:= .o es) trivial trivial e hl λS a b=>⟨l,us,rfl,a,b,bh,h.step S⟩
end
abbrev DT:=Dl->(UD->Prop)->Prop
abbrev DA:=Dl->(List UD->Prop)->Prop
abbrev DB:=Dl->(Bool->Prop)->Prop
structure rH where
 nx:Dl->Prop
 rt:UD->Prop
 bk:Dl->Prop:=λ_=>False
 ct:Dl->Prop:=λ_=>False
abbrev DS:=rH->Dl->Prop
section
variable (K:NG) (H0:Hp) (O0:Ex)
inductive up (t:DT) (σ:St) (H:Hp) (R:VK):Prop
 | mk (O:Ex) (δ:Dl) (Qd:UD->Prop):Wd K H0 O0 H O σ δ->t δ Qd->(∀d v H',Qd d->ao H H'->Dt K H' O v d->R v H')->up t σ H R
inductive pw (t:DT) (σ:St) (H:Hp) (R:VK):Prop
 | mk (O:Ex) (δ:Dl) (Qd:UD->Prop):Wd K H0 O0 H O σ δ->t δ Qd->(∀d v H',Qd d->ao H H'->Sh K H' O v d->R v H')->pw t σ H R
inductive mw (t:DA) (σ:St) (H:Hp) (R:List V->Hp->Prop):Prop
 | mk (O:Ex) (δ:Dl) (Qd:List UD->Prop):Wd K H0 O0 H O σ δ->t δ Qd->(∀ds vs H',Qd ds->ao H H'->aq K H' O vs ds->R vs H')->mw t σ H R
inductive fy (t:DB) (σ:St) (H:Hp) (R:Bool->Hp->Prop):Prop
 | mk (O:Ex) (δ:Dl) (Qd:Bool->Prop):Wd K H0 O0 H O σ δ->t δ Qd->(∀b H',Qd b->ao H H'->R b H')->fy t σ H R
inductive j3 (t:DS) (D:oh) (σ:St) (H:Hp):Prop
 | mk (O:Ex) (δ:Dl) (E:rH):Wd K H0 O0 H O σ δ->t E δ->(∀O' δ' σ' H',E.nx δ'->Wd K H0 O0 H' O' σ' δ'->bz H H' O O'->D.nx σ' H')->(∀d v H',E.rt d->ao H0 H'->Dt K H' O0 v d->D.rt v H')->
 (∀O' δ' σ' H',E.bk δ'->Wd K H0 O0 H' O' σ' δ'->bz H H' O O'->D.bk σ' H')->(∀O' δ' σ' H',E.ct δ'->Wd K H0 O0 H' O' σ' δ'->bz H H' O O'->D.ct σ' H')->j3 t D σ H
end
theorem PE.imp{X:Cx}{e:UO}{t u:TE}(h:PE X e t)(i:∀σ H Q,u σ H Q->t σ H Q):PE X e u:=λWt s σ H Q I z=>h Wt s σ H Q I (i σ H Q z)
theorem PT.imp{X:Cx}{e:UO}{t u:TT}(h:PT X e t)(i:∀σ H Q,u σ H Q->t σ H Q):PT X e u:=λWt s σ H Q I z=>h Wt s σ H Q I (i σ H Q z)
theorem PW.imp{X:Cx}{e:UO}{t u:TT}(h:PW X e t)(i:∀σ H Q,u σ H Q->t σ H Q):PW X e u:=λwh Wt s σ H Q I z=>h wh Wt s σ H Q I (i σ H Q z)
theorem PA.imp{X:Cx}{e:List UO}{t u:TA}(h:PA X e t)(i:∀σ H Q,u σ H Q->t σ H Q):PA X e u:=λpos Wt s σ H Q I z=>h pos Wt s σ H Q I (i σ H Q z)
theorem PS.imp{X:Cx}{e:UW}{t u:TS}(h:PS X e t)(i:∀D σ H,u D σ H->t D σ H):PS X e u:=λWt s σ H D I z=>h Wt s σ H D I (i D σ H z)
theorem bJ.imp{X:Cx}{e:List UW}{t u:TS}(h:bJ X e t)(i:∀D σ H,u D σ H->t D σ H):bJ X e u:=λWt s σ H D I z=>h Wt s σ H D I (i D σ H z)
section
variable {X:Cx} {H0:Hp} {O0:Ex}
abbrev DE(X:Cx)(H0:Hp)(O0:Ex)(e:UO)(t:DT):Prop:=PE X e (up X.K H0 O0 t)
abbrev DF(X:Cx)(H0:Hp)(O0:Ex)(e:UO)(t:DT):Prop:=PE X e (pw X.K H0 O0 t)
theorem df{e:UO}{t:DT}(h:DE X H0 O0 e t):DF X H0 O0 e t:=h.imp λσ H Q uu68=>by obtain⟨O,δ,Qd,w,q,k⟩:=uu68;exact⟨O,δ,Qd,w,q,λd v H' a b c=>k d v H' a b (.dt c)⟩
def BV(Q:UD->Prop):Option (Option Sl)->Prop
 | some (some (.v d))=>Q d
 | _=>False
def kJ(i:Nat):DT:=λδ Q=>BV Q δ[i]?
theorem Hm{Q:UD->Prop}{o:Option (Option Sl)}:BV Q o↔∃d,o=some (some (.v d))/\Q d:=by
 constructor
 ·intro h
  match o,h with
  | some (some (.v d)),h=>exact⟨d,rfl,h⟩
 ·rintro⟨d,rfl,h⟩;exact h
theorem Hn{i:Nat}{δ:Dl}{Q:UD->Prop}(h:kJ i δ Q):∃d,δ[i]?=some (some (.v d))/\Q d:=Hm.mp h
def cL(i:Nat):DT:=λδ Q=>∃ds,δ[i]?=some (some (.o ds))/\Q (.list ds)
def dC(d:UD):DT:=λ_ Q=>Q d
theorem dv(i:Nat){x:Str}{pos:Pos}(hN:X.N[i]?=some x:=by rfl)(hv:qU X.env.scope x:=by first | exact Sf rfl | exact Rz (Sf rfl) | exact Rz (Rz rfl))
 (hd:(x==("__debug__":Str))=false:=by decide)(hcd:(x==("__classdict__":Str))=false:=by decide):DE X H0 O0 (.Name x pos) (kJ i):=
 (oV hN hv hd hcd).imp λσ H Q uu69=>by
  obtain⟨O,δ,Qd,w,dq,k⟩:=uu69;obtain⟨d,e,q⟩:=Hn dq;obtain⟨v,h,r⟩:=w.val e;exact⟨v,h,k d v H q (ao.refl _) r⟩
theorem dw(i:Nat){x:Str}{pos:Pos}(hN:X.N[i]?=some x:=by rfl)(hv:qU X.env.scope x:=by first | exact Sf rfl | exact Rz (Sf rfl) | exact Rz (Rz rfl))
 (hd:(x==("__debug__":Str))=false:=by decide)(hcd:(x==("__classdict__":Str))=false:=by decide):DF X H0 O0 (.Name x pos) (cL i):=
 (oV hN hv hd hcd).imp λσ H Q uu70=>by
  obtain⟨O,δ,Qd,w,⟨ds,e,q⟩,k⟩:=uu70;obtain⟨l,vs,h,_,_,r,rs⟩:=w.own e;exact⟨_,h,k _ _ H q (ao.refl _) (.own r rs)⟩
theorem dc{e:UO}{v:V}{d:UD}(h:PE X e (tC v))(r:∀H O,Dt X.K H O v d):DE X H0 O0 e (dC d):=h.imp λσ H Q uu71=>by obtain⟨O,δ,Qd,w,q,k⟩:=uu71;exact k d v H q (ao.refl _) (r H O)
theorem ae{i j pos}:DE X H0 O0 (.Constant (.int i) j pos) (dC (.int i)):=dc cg λ_ _=>.int i
theorem lU{b j pos}:DE X H0 O0 (.Constant (.bool b) j pos) (dC (.bool b)):=dc uT λ_ _=>.bl b
theorem ku{j pos}:DE X H0 O0 (.Constant .none j pos) (dC .none):=dc oW λ_ _=>.non
theorem aF{x j pos}:DE X H0 O0 (.Constant (.str x) j pos) (dC (.str x)):=dc uU λ_ _=>.str x
def cx:DA:=λ_ Q=>Q []
def cm(t:DT)(u:DA):DA:=λδ Q=>t δ λd=>u δ λds=>Q (d::ds)
theorem ah:PA X [] (mw X.K H0 O0 cx):=bF.imp λσ H Q uu72=>by obtain⟨O,δ,Qd,w,q,k⟩:=uu72;exact k [] [] H q (ao.refl _) .nil
theorem aa{e:UO}{es:List UO}{t:DT}{u:DA}(h:DE X H0 O0 e t)(hs:PA X es (mw X.K H0 O0 u))(he:UM (e::es) X.env=(false,eval e X.env)::UM es X.env:=by rfl):PA X (e::es) (mw X.K H0 O0 (cm t u)):=
 (aN h hs he).imp λσ H Q uu73=>by obtain⟨O,δ,Qd,w,q,k⟩:=uu73;exact⟨O,δ,_,w,q,λd v H1 q1 s1 r1=>⟨O,δ,_,w.mono s1,q1,λds vs H2 q2 s2 r2=>k (d::ds) (v::vs) H2 q2 (s1.trans s2) (.cons (r1.mono s2) r2)⟩⟩
def cM(t:DA):DT:=λδ Q=>t δ λds=>ds.length<=UN/\Q (.tuple ds)
def fz(t:DA):DT:=λδ Q=>t δ λds=>ds.length<=UN/\Q (.list ds)
theorem tu{H:Hp}{O:Ex}{σ:St}{δ:Dl}{H1:Hp}{p:UH}{K:NG}(w:Wd K H0 O0 H O σ δ)(s:ao H H1)(hp:H1 p=none):¬O p:=λz=>(w.mono s).trk p z hp
theorem cy{es:List UO}{t:DA}{x1}{pos:Pos}(h:PA X es (mw X.K H0 O0 t)):DE X H0 O0 (.Tuple es x1 pos) (cM t):=
 (sW h).imp λσ H Q uu74=>by obtain⟨O,δ,Qd,w,q,k⟩:=uu74;exact⟨O,δ,_,w,q,λds vs H1 q1 s1 r1=>⟨by rw [r1.length];exact q1.1,λp hp=>k _ _ _ q1.2 (s1.trans (ao.new hp)) (.tup (.inl bh) (tu w s1 hp) (r1.mono (ao.new hp)))⟩⟩
end
theorem bz.refl(H:Hp)(O:Ex):bz H H O O:=⟨λ_ _ e _=>e,λ_ _ n=>n⟩
theorem bz.trans{H H1 H2:Hp}{O O1 O2:Ex}(a:bz H H1 O O1)(b:bz H1 H2 O1 O2):bz H H2 O O2:=by
 refine⟨λc o e n=>?_,λc e n=>?_⟩
 ·have h1:=a.keep c o e n;exact b.keep c o h1 (a.out c (by rw [e];exact λz=>nomatch z) n)
 ·cases q:H c with
  | none=>exact absurd q e
  | some o=>exact b.out c (by rw [a.keep c o q n];exact λz=>nomatch z) (a.out c e n)
section
variable {X:Cx} {H0:Hp} {O0:Ex}
def cz(K:NG)(r:R2)(rd:UD->UD->(UD->Prop)->Prop):Prop:=
 ∀(H:Hp)(O:Ex)(x y:V)(dx dy:UD)(Qd:UD->Prop)(R:VK),(∀l,O l->H l≠none)->Sh K H O x dx->Sh K H O y dy->rd dx dy Qd->(∀d v H',Qd d->ao H H'->Dt K H' O v d->R v H')->r x y H R
def bA(rd:UD->UD->(UD->Prop)->Prop)(ta tb:DT):DT:=λδ Q=>ta δ λx=>tb δ λy=>rd x y Q
theorem tD{K:NG}{r:R2}{rd:UD->UD->(UD->Prop)->Prop}{ta tb:DT}(hd:cz K r rd):∀σ H Q,up K H0 O0 (bA rd ta tb) σ H Q->oX r (pw K H0 O0 ta) (pw K H0 O0 tb) σ H Q:=
 λσ H Q uu75=>by obtain⟨O,δ,Qd,w,q,k⟩:=uu75;exact⟨O,δ,_,w,q,λx v H1 q1 s1 r1=>⟨O,δ,_,w.mono s1,q1,λy u H2 q2 s2 r2=>hd H2 O v u x y Qd _ (w.mono (s1.trans s2)).trk (r1.mono s2) r2 q2 λd z H3 qd s3 r3=>k d z H3 qd (s1.trans (s2.trans s3)) r3⟩⟩
theorem Ho{a b:UO}{ta tb:DT}{op:Operator}{r:R2}{rd:UD->UD->(UD->Prop)->Prop}{pos:Pos}(ho:bu X (Vh op) r)(hd:cz X.K r rd)(ha:DF X H0 O0 a ta)(hb:DF X H0 O0 b tb):DE X H0 O0 (.BinOp a op b pos) (bA rd ta tb):=(bM ho ha hb).imp (tD hd)
theorem j5{a b:UO}{ta tb:DT}{op:CmpOp}{r:R2}{rd:UD->UD->(UD->Prop)->Prop}{pos:Pos}(ho:bu X (UY op) r)(hd:cz X.K r rd)(ha:DF X H0 O0 a ta)(hb:DF X H0 O0 b tb)(hm:Vg op b=false):DE X H0 O0 (.Compare a [op] [b] pos) (bA rd ta tb):=(oZ ho ha hb hm).imp (tD hd)
def bK(t:DT):DB:=λδ Q=>t δ λd=>∃b,d= .bool b/\Q b
theorem Hq{a b:UO}{ta tb:DT}{op:CmpOp}{r:R2}{rd:UD->UD->(UD->Prop)->Prop}{pos:Pos}(ho:bu X (UY op) r)(hd:cz X.K r rd)(ha:DF X H0 O0 a ta)(hb:DF X H0 O0 b tb)(hm:Vg op b=false):PT X (.Compare a [op] [b] pos) (fy X.K H0 O0 (bK (bA rd ta tb))):=
 (o9 ho ha hb hm).imp λσ H Q uu76=>by obtain⟨O,δ,Qd,w,q,k⟩:=uu76;exact tD hd σ H _ ⟨O,δ,_,w,q,λd v H' uu77 s r=>by obtain⟨b,e,qb⟩:=uu77;subst e;cases r;exact⟨b,rfl,k b H' qb s⟩⟩
theorem cn{e:UO}{t:DT}(h:DE X H0 O0 e t)(he:∀whole,isTrue e X.env whole=(do let v<-whole;standAt e.pos;holding [v] (truthy v)):=by intro _;rfl):PT X e (fy X.K H0 O0 (bK t)):=
 (p6 h he).imp λσ H Q uu78=>by obtain⟨O,δ,Qd,w,q,k⟩:=uu78;exact⟨O,δ,_,w,q,λd v H' uu79 s r=>by obtain⟨b,e,qb⟩:=uu79;subst e;cases r;exact⟨b,rfl,k b H' qb s⟩⟩
def cN(t u:DB):DB:=λδ Q=>t δ λc=>if c=true then u δ Q else Q false
def cO(t u:DB):DB:=λδ Q=>t δ λc=>if c=true then Q true else u δ Q
def cP(t:DB):DB:=λδ Q=>t δ λc=>Q (!c)
theorem md{a:UO}{t:DB}{pos:Pos}(h:PT X a (fy X.K H0 O0 t)):PW X (.BoolOp .And [a] pos) (fy X.K H0 O0 t):=A0 h
theorem lh{a:UO}{t:DB}{pos:Pos}(h:PT X a (fy X.K H0 O0 t)):PW X (.BoolOp .Or [a] pos) (fy X.K H0 O0 t):=A1 h
theorem kQ{a b:UO}{rest:List UO}{t u:DB}{pos:Pos}(h:PT X a (fy X.K H0 O0 t))(hb:PW X (.BoolOp .And (b::rest) pos) (fy X.K H0 O0 u)):PW X (.BoolOp .And (a::b::rest) pos) (fy X.K H0 O0 (cN t u)):=
 (A2 h hb).imp λσ H Q uu80=>by obtain⟨O,δ,Qd,w,q,k⟩:=uu80;exact⟨O,δ,_,w,q,λc H1 q1 s1=>by
  cases c with
  | true=>exact⟨O,δ,_,w.mono s1,q1,λb H2 q2 s2=>k b H2 q2 (s1.trans s2)⟩
  | false=>exact k false H1 q1 s1⟩
theorem kB{a b:UO}{rest:List UO}{t u:DB}{pos:Pos}(h:PT X a (fy X.K H0 O0 t))(hb:PW X (.BoolOp .Or (b::rest) pos) (fy X.K H0 O0 u)):PW X (.BoolOp .Or (a::b::rest) pos) (fy X.K H0 O0 (cO t u)):=
 (uY h hb).imp λσ H Q uu81=>by obtain⟨O,δ,Qd,w,q,k⟩:=uu81;exact⟨O,δ,_,w,q,λc H1 q1 s1=>by
  cases c with
  | false=>exact⟨O,δ,_,w.mono s1,q1,λb H2 q2 s2=>k b H2 q2 (s1.trans s2)⟩
  | true=>exact k true H1 q1 s1⟩
theorem kr{a:UO}{t:DB}{pos:Pos}(h:PT X a (fy X.K H0 O0 t)):PT X (.UnaryOp .Not a pos) (fy X.K H0 O0 (cP t)):=
 (uZ h).imp λσ H Q uu82=>by obtain⟨O,δ,Qd,w,q,k⟩:=uu82;exact⟨O,δ,_,w,q,λc H1 q1 s1=>k (!c) H1 q1 s1⟩
def cQ(t u:DT):DT:=λδ Q=>t δ λd=>∃c,d= .bool c/\if c=true then u δ Q else Q (.bool false)
def fA(t u:DT):DT:=λδ Q=>t δ λd=>∃c,d= .bool c/\if c=true then Q (.bool true) else u δ Q
def cR(t:DT):DT:=λδ Q=>t δ λd=>∃c,d= .bool c/\Q (.bool (!c))
theorem lj{op}{a:UO}{t:DT}{pos:Pos}(h:DE X H0 O0 a t):DE X H0 O0 (.BoolOp op [a] pos) t:=qV h
theorem ky{a b:UO}{rest:List UO}{t u:DT}{pos:Pos}(h:DE X H0 O0 a t)(hb:DE X H0 O0 (.BoolOp .And (b::rest) pos) u):DE X H0 O0 (.BoolOp .And (a::b::rest) pos) (cQ t u):=
 (qW h hb).imp λσ H Q ⟨O,δ,Qd,w,q,k⟩=>⟨O,δ,_,w,q,λd v H1 uu84 s1 r=>by
  obtain⟨c,e,q1⟩:=uu84;subst e;cases r;refine⟨c,rfl,?_⟩;cases c with
  | true=>exact⟨O,δ,_,w.mono s1,q1,λd v H2 q2 s2 r2=>k d v H2 q2 (s1.trans s2) r2⟩
  | false=>exact k _ _ H1 q1 s1 (.bl false)⟩
theorem Hr{a:UO}{t:DT}{pos:Pos}(h:DE X H0 O0 a t):DE X H0 O0 (.UnaryOp .Not a pos) (cR t):=
 (A3 h).imp λσ H Q uu85=>by obtain⟨O,δ,Qd,w,q,k⟩:=uu85;exact⟨O,δ,_,w,q,λd v H1 uu86 s1 r=>by
  obtain⟨c,e,q1⟩:=uu86;subst e;cases r;exact⟨c,rfl,k _ _ H1 q1 s1 (.bl _)⟩⟩
def cS(c:DB)(t u:DT):DT:=λδ Q=>c δ λb=>if b=true then t δ Q else u δ Q
theorem tE{c a b:UO}{tc:DB}{t u:DT}{pos:Pos}(hc:PT X c (fy X.K H0 O0 tc))(ha:DE X H0 O0 a t)(hb:DE X H0 O0 b u):DE X H0 O0 (.IfExp c a b pos) (cS tc t u):=
 (Fy hc ha hb).imp λσ H Q uu87=>by obtain⟨O,δ,Qd,w,q,k⟩:=uu87;exact⟨O,δ,_,w,q,λc H1 q1 s1=>by
  cases c with
  | true=>exact⟨O,δ,_,w.mono s1,q1,λd v H2 q2 s2 r2=>k d v H2 q2 (s1.trans s2) r2⟩
  | false=>exact⟨O,δ,_,w.mono s1,q1,λd v H2 q2 s2 r2=>k d v H2 q2 (s1.trans s2) r2⟩⟩
def cq(rd rd':UD->UD->(UD->Prop)->Prop)(ta tb tc:DT):DT:=λδ Q=>ta δ λx=>tb δ λy=>rd x y λz=>∃k,z= .bool k/\if k=true then tc δ λu=>rd' y u Q else Q (.bool false)
theorem BW{K:NG}{r r':R2}{rd rd':UD->UD->(UD->Prop)->Prop}{ta tb tc:DT}(hd:cz K r rd)(hd':cz K r' rd'):∀σ H Q,up K H0 O0 (cq rd rd' ta tb tc) σ H Q->sS r r' (pw K H0 O0 ta) (pw K H0 O0 tb) (pw K H0 O0 tc) σ H Q:=
 λσ H Q ⟨O,δ,Qd,w,q,k⟩=>⟨O,δ,_,w,q,λx v H1 q1 s1 r1=>⟨O,δ,_,w.mono s1,q1,λy u H2 q2 s2 r2=>hd H2 O v u x y _ _ (w.mono (s1.trans s2)).trk (r1.mono s2) r2 q2 λd z H3 uu89 s3 r3=>by
  obtain⟨c,e,q3⟩:=uu89;subst e;cases r3;refine⟨c,rfl,?_⟩;cases c with
  | true=>exact⟨O,δ,_,w.mono (s1.trans (s2.trans s3)),q3,λu' p H4 q4 s4 r4=>hd' H4 O u p y u' Qd _ (w.mono (s1.trans (s2.trans (s3.trans s4)))).trk (r2.mono (s3.trans s4)) r4 q4 λd z H5 qd s5 r5=>k d z H5 qd (s1.trans (s2.trans (s3.trans (s4.trans s5)))) r5⟩
  | false=>exact k _ _ H3 q3 (s1.trans (s2.trans s3)) (.bl false)⟩⟩
theorem tF{a b c:UO}{ta tb tc:DT}{op op':CmpOp}{r r':R2}{rd rd':UD->UD->(UD->Prop)->Prop}{pos:Pos}(ho:bu X (UY op) r)(ho':bu X (UY op') r')(hd:cz X.K r rd)(hd':cz X.K r' rd')(ha:DF X H0 O0 a ta)(hb:DF X H0 O0 b tb)(hc:DF X H0 O0 c tc)
 (hm:lastMarks [op,op'] [b,c]=false:=by with_unfolding_all rfl):DE X H0 O0 (.Compare a [op,op'] [b,c] pos) (cq rd rd' ta tb tc):=(FV ho ho' ha hb hc hm).imp (BW hd hd')
theorem oC{a b c:UO}{ta tb tc:DT}{op op':CmpOp}{r r':R2}{rd rd':UD->UD->(UD->Prop)->Prop}{pos:Pos}(ho:bu X (UY op) r)(ho':bu X (UY op') r')(hd:cz X.K r rd)(hd':cz X.K r' rd')(ha:DF X H0 O0 a ta)(hb:DF X H0 O0 b tb)(hc:DF X H0 O0 c tc)
 (hm:lastMarks [op,op'] [b,c]=false:=by with_unfolding_all rfl):PT X (.Compare a [op,op'] [b,c] pos) (fy X.K H0 O0 (bK (cq rd rd' ta tb tc))):=
 (FW ho ho' ha hb hc hm).imp λσ H Q uu90=>by obtain⟨O,δ,Qd,w,q,k⟩:=uu90;exact BW hd hd' σ H _ ⟨O,δ,_,w,q,λd v H' uu91 s r=>by obtain⟨b,e,qb⟩:=uu91;subst e;cases r;exact⟨b,rfl,k b H' qb s⟩⟩
inductive bf (K:NG) (F:List UD->(UD->Prop)->Prop) (vs:List V) (H:Hp) (Q:VK) (E:XK):Prop
 | mk (O:Ex) (ds:List UD) (Qd:UD->Prop):(∀l,O l->H l≠none)->aq K H O vs ds->F ds Qd->(∀d v H',Qd d->ao H H'->Dt K H' O v d->Q v H')->bf K F vs H Q E
def cu(F:List UD->(UD->Prop)->Prop)(t:DA):DT:=λδ Q=>t δ λds=>F ds Q
theorem BX{K:NG}{F:List UD->(UD->Prop)->Prop}{t:DA}{E:XK}:∀σ H Q,up K H0 O0 (cu F t) σ H Q->rA (bf K F) [] E (mw K H0 O0 t) σ H Q:=
 λσ H Q uu92=>by obtain⟨O,δ,Qd,w,q,k⟩:=uu92;exact⟨O,δ,_,w,q,λds vs H1 q1 s1 r1=>⟨O,ds,Qd,(w.mono s1).trk,by rw [NZ];exact r1,q1,λd v H2 q2 s2 r2=>k d v H2 q2 (s1.trans s2) r2⟩⟩
inductive rJ (K:NG) (H:Hp) (O:Ex):List V->List UD->Prop
 | nil:rJ K H O [] []
 | cons {v:V} {d:UD} {vs:List V} {ds:List UD}:Sh K H O v d->rJ K H O vs ds->rJ K H O (v::vs) (d::ds)
inductive me (K:NG) (H0:Hp) (O0:Ex) (t:DA) (σ:St) (H:Hp) (R:List V->Hp->Prop):Prop
 | mk (O:Ex) (δ:Dl) (Qd:List UD->Prop):Wd K H0 O0 H O σ δ->t δ Qd->(∀ds vs H',Qd ds->ao H H'->rJ K H' O vs ds->R vs H')->me K H0 O0 t σ H R
theorem az:PA X [] (me X.K H0 O0 cx):=bF.imp λσ H Q uu93=>by obtain⟨O,δ,Qd,w,q,k⟩:=uu93;exact k [] [] H q (ao.refl _) .nil
theorem Hs{e:UO}{es:List UO}{t:DT}{u:DA}(h:DF X H0 O0 e t)(hs:PA X es (me X.K H0 O0 u))(he:UM (e::es) X.env=(false,eval e X.env)::UM es X.env:=by rfl):PA X (e::es) (me X.K H0 O0 (cm t u)):=
 (aN h hs he).imp λσ H Q uu94=>by obtain⟨O,δ,Qd,w,q,k⟩:=uu94;exact⟨O,δ,_,w,q,λd v H1 q1 s1 r1=>⟨O,δ,_,w.mono s1,q1,λds vs H2 q2 s2 r2=>k (d::ds) (v::vs) H2 q2 (s1.trans s2) (.cons (r1.mono s2) r2)⟩⟩
def fB(F:List UD->(UD->Prop)->Prop)(t:DA):DT:=λδ Q=>t δ λds=>F ds λd=>cj d=true/\Q d
def mK(K:NG)(r:List V->Hp->VK->Prop)(rd:List UD->(UD->Prop)->Prop):Prop:=
 ∀(H:Hp)(O:Ex)(xs:List V)(ds:List UD)(Qd:UD->Prop)(R:VK),(∀l,O l->H l≠none)->rJ K H O xs ds->rd ds Qd->(∀d v H',Qd d->ao H H'->Dt K H' O v d->R v H')->r xs H R
theorem aE{K:NG}{r:List V->Hp->VK->Prop}{rd:List UD->(UD->Prop)->Prop}{t:DA}(hd:mK K r rd):∀σ H Q,up K H0 O0 (cu rd t) σ H Q->rB r (me K H0 O0 t) σ H Q:=
 λσ H Q uu95=>by obtain⟨O,δ,Qd,w,q,k⟩:=uu95;exact⟨O,δ,_,w,q,λds vs H1 q1 s1 r1=>hd H1 O vs ds Qd _ (w.mono s1).trk r1 q1 λd v H2 q2 s2 r2=>k d v H2 q2 (s1.trans s2) r2⟩
def cT(t u:DS):DS:=λE δ=>t {E with nx:=u E} δ
theorem ai{st:UW}{rest:List UW}{t u:DS}(h:PS X st (j3 X.K H0 O0 t))(h2:bJ X rest (j3 X.K H0 O0 u)):bJ X (st::rest) (j3 X.K H0 O0 (cT t u)):=
 (kF h h2).imp λD σ H uu96=>by obtain⟨O,δ,E,w,q,k1,k2,k3,k4⟩:=uu96;exact⟨O,δ,_,w,q,λO' δ' σ' H' z w' S=>⟨O',δ',E,w',z,λO2 δ2 σ2 H2 z2 w2 S2=>k1 O2 δ2 σ2 H2 z2 w2 (S.trans S2),k2,λO2 δ2 σ2 H2 z2 w2 S2=>k3 O2 δ2 σ2 H2 z2 w2 (S.trans S2),λO2 δ2 σ2 H2 z2 w2 S2=>k4 O2 δ2 σ2 H2 z2 w2 (S.trans S2)⟩,k2,k3,k4⟩
def cU:DS:=λE δ=>E.nx δ
theorem aK:bJ X [] (j3 X.K H0 O0 cU):=om.imp λD σ H uu0=>by obtain⟨O,δ,E,w,q,k1,k2,k3,k4⟩:=uu0;exact k1 O δ σ H q w (bz.refl _ _)
theorem ar{st:UW}{t:DS}(h:PS X st (j3 X.K H0 O0 t)):bJ X [st] (j3 X.K H0 O0 t):=kh h
def cV(i:Nat)(t:DT):DS:=λE δ=>t δ λd=>E.nx (δ.set i (some (.v d)))
theorem aJ{i:Nat}{x:Str}{e:UO}{t:DT}{pos pos':Pos}(hN:X.N.Nodup)(hi:X.N[i]?=some x)(hx:oT X.env.scope x)(he:DE X H0 O0 e t)(hs:Ve e (some (.Name x pos')) pos.line X.env=pure false:=by rfl)(hf:X.fn x=true\/X.env.scope.names.lookup x=some .local:=by first | exact .inl rfl | exact .inr rfl | assumption):
 PS X (.Assign [.Name x pos'] e pos) (j3 X.K H0 O0 (cV i t)):=
 (l7 hN hi hx he hs hf).imp λD σ H uu1=>by obtain⟨O,δ,E,w,q,k1,k2,k3,k4⟩:=uu1;exact⟨O,δ,_,w,q,λd v H1 q1 s1 r1=>k1 O _ _ H1 q1 ((w.mono s1).set r1) (.same s1)⟩
def cW(t:DT):DS:=λE δ=>t δ E.rt
theorem nS{K:NG}{H:Hp}{O:Ex}{σ:St}{δ:Dl}(w:Wd K H0 O0 H O σ δ):bz H H O O0:=⟨λ_ _ e _=>e,λb _ n z=>n (w.sub b z)⟩
theorem aA{e:UO}{t:DT}{pos:Pos}(he:DE X H0 O0 e t):PS X (.Return (some e) pos) (j3 X.K H0 O0 (cW t)):=
 (kG he).imp λD σ H uu2=>by obtain⟨O,δ,E,w,q,k1,k2,k3,k4⟩:=uu2;exact⟨O,δ,_,w,q,λd v H1 q1 s1 r1=>k2 d v H1 q1 (w.same.trans s1) (r1.step (nS (w.mono s1)))⟩
def fC(i:Nat):DS:=λE δ=>∃ds,δ[i]?=some (some (.o ds))/\E.rt (.list ds)
def cX(c:DB)(t u:DS):DS:=λE δ=>c δ λb=>if b=true then t E δ else u E δ
theorem aL{c:UO}{a b:List UW}{tc:DB}{t u:DS}{pos:Pos}(hc:PT X c (fy X.K H0 O0 tc))(ha:bJ X a (j3 X.K H0 O0 t))(hb:bJ X b (j3 X.K H0 O0 u)):PS X (.If c a b pos) (j3 X.K H0 O0 (cX tc t u)):=
 (oo hc ha hb).imp λD σ H uu3=>by obtain⟨O,δ,E,w,q,k1,k2,k3,k4⟩:=uu3;exact⟨O,δ,_,w,q,λc H1 q1 s1=>by
  have g:∀{t':DS},t' E δ->j3 X.K H0 O0 t' D σ H1:=λz=>⟨O,δ,E,w.mono s1,z,λO2 δ2 σ2 H2 z2 w2 S2=>k1 O2 δ2 σ2 H2 z2 w2 (bz.trans (.same s1) S2),k2,λO2 δ2 σ2 H2 z2 w2 S2=>k3 O2 δ2 σ2 H2 z2 w2 (bz.trans (.same s1) S2),λO2 δ2 σ2 H2 z2 w2 S2=>k4 O2 δ2 σ2 H2 z2 w2 (bz.trans (.same s1) S2)⟩;cases c with
  | true=>exact g q1
  | false=>exact g q1⟩
def fD(t:DT):DS:=λE δ=>t δ λ_=>E.nx δ
inductive BY (K:NG) (H0:Hp) (O0:Ex) (t:DA) (σ:St) (H:Hp) (R:VK):Prop
 | mk (O:Ex) (δ:Dl) (Qd:List UD->Prop):Wd K H0 O0 H O σ δ->t δ Qd->(∀ds vs p H',Qd ds->ao H H'->H' p=none->aq K H' O vs ds->R (.ref p) (ak H' p (.lst vs)))->BY K H0 O0 t σ H R
abbrev FE(X:Cx)(H0:Hp)(O0:Ex)(e:UO)(t:DA):Prop:=PE X e (BY X.K H0 O0 t)
def dL(t:DA):DT:=λδ Q=>t δ λds=>Q (.list ds)
theorem fe{e:UO}{t:DA}(h:FE X H0 O0 e t):DE X H0 O0 e (dL t):=
 h.imp λσ H Q uu4=>by obtain⟨O,δ,Qd,w,q,k⟩:=uu4;exact⟨O,δ,_,w,q,λds vs p H1 q1 s1 hp r1=>k _ _ _ q1 (s1.trans (ao.new hp)) (.lst (.inl bh) (tu w s1 hp) (r1.mono (ao.new hp)))⟩
def cC(t:DA):DA:=λδ Q=>t δ λds=>ds.length<=UN/\Q ds
theorem bB{es:List UO}{t:DA}{pos:Pos}(h:PA X es (mw X.K H0 O0 t)):FE X H0 O0 (.List es pos) (cC t):=
 (vG h).imp λσ H Q uu5=>by obtain⟨O,δ,Qd,w,q,k⟩:=uu5;exact⟨O,δ,_,w,q,λds vs H1 q1 s1 r1=>⟨by rw [r1.length];exact q1.1,λp hp=>k _ _ _ _ q1.2 s1 hp r1⟩⟩
def cY(i:Nat)(t:DA):DS:=λE δ=>t δ λds=>E.nx (δ.set i (some (.o ds)))
theorem rK{i:Nat}{x:Str}{e:UO}{t:DA}{pos pos':Pos}(hN:X.N.Nodup)(hi:X.N[i]?=some x)(hx:oT X.env.scope x)(he:FE X H0 O0 e t)(hs:Ve e (some (.Name x pos')) pos.line X.env=pure false:=by rfl)(hf:X.fn x=true\/X.env.scope.names.lookup x=some .local:=by first | exact .inl rfl | exact .inr rfl | assumption):
 PS X (.Assign [.Name x pos'] e pos) (j3 X.K H0 O0 (cY i t)):=
 (l7 hN hi hx he hs hf).imp λD σ H ⟨O,δ,E,w,q,k1,k2,k3,k4⟩=>⟨O,δ,_,w,q,λds vs p H1 q1 s1 hp r1=>k1 _ _ _ _ q1 ((w.mono s1).setO hp r1)
  ⟨λb o e _=>(s1.trans (ao.new hp)) b o e,λb e n z=>z.elim n λy=>by
   cases q:H b with
   | none=>exact e q
   | some o=>have:=s1 _ _ q;rw [y,hp] at this;cases this⟩⟩
def cZ(i:Nat)(t:DT):DS:=λE δ=>∃ds,δ[i]?=some (some (.o ds))/\t δ λd=>ds.length < UN/\E.nx (δ.set i (some (.o (ds++[d]))))
theorem Ht{i:Nat}{o e:UO}{t:DT}{apos cpos pos:Pos}(ho:PE X o (nI i))(he:DE X H0 O0 e t)(hbase:Vs o "append" X.env (eval o X.env)=eval o X.env:=by rfl)
 (hfew:((U3 cpos (UM [e] X.env)).all (λx=>!x.1) && (Wb cpos (VQ [] X.env)).all (λx=>x.1.isSome) && decide ([e].length+([]:List VE).length+(if ([]:List VE).isEmpty then 0 else 1) < 30))=true:=by rfl)
 (hline:(apos.endLine==cpos.line)=true:=by rfl)(hst:UM [e] X.env=(false,eval e X.env)::UM [] X.env:=by rfl)(hplain:(U3 cpos (UM [] X.env)).any (·.1)=false:=by rfl)
 (hs:Ve (.Call (.Attribute o "append" apos) [e] [] cpos) none pos.line X.env=pure false:=by rfl):PS X (.Expr (.Call (.Attribute o "append" apos) [e] [] cpos) pos) (j3 X.K H0 O0 (cZ i t)):=
 (FA (rE PySem.F.plainAttrs_list PySem.F.slot_list_append PySem.F.type_list_append Bw ho (aN he bF hst) hbase hfew hline hst hplain) hs).imp λD σ H uu7=>by
  obtain⟨O,δ,E,w,⟨ds,e,q⟩,k1,k2,k3,k4⟩:=uu7;obtain⟨l,vs,h,a,b,c,r⟩:=w.own e;refine⟨_,h,.inl ⟨rfl,_,bj.of c⟩,O,δ,_,w,q,λd v H1 q1 s1 r1=>?_⟩;refine⟨l,vs,v,rfl,rfl,s1 _ _ c,by rw [r.length];exact q1.1,?_⟩;exact k1 _ _ _ _ q1.2 ((w.mono s1).putO (vs:=vs) e h ((r.mono s1).append (.cons r1 .nil))) ⟨λb' o' z n=>by rw [av (λy=>n (by rw [y];exact a))];exact s1 _ _ z,λ_ _ n=>n⟩
end
structure k6 (J:It) (P:Hp->Prop) (vs:List V):Prop where
 go:∀i H',P H'->i < vs.length->J.go i H'
 yl:∀i H' x H'',P H'->i < vs.length->J.yld i H' x H''->H''=H'/\vs[i]?=some x
 st:∀i H',P H'->vs.length<=i->J.stop i H'
def tG(H1:Hp)(a:UH)(H':Hp):Prop:=∀o,H1 a=some o->H' a=some o
theorem bj.keep{K:NG}{H H':Hp}{a:UH}{xs:List V}(s:tG H a H')(h:bj K H a xs):bj K H' a xs:=by
 rcases h with(h | ⟨o,h⟩) | h
 ·exact .inl (.inl (s _ h))
 ·exact .inl (.inr ⟨o,s _ h⟩)
 ·exact .inr h
theorem aX.keep{K:NG}{H H':Hp}{a:UH}{xs:List V}(s:tG H a H')(h:aX K H a xs):aX K H' a xs:=by
 rcases h with(h | ⟨o,h⟩) | h
 ·exact .inl (.inl (s _ h))
 ·exact .inl (.inr ⟨o,s _ h⟩)
 ·exact .inr h
theorem k6.list{K:NG}{H:Hp}{a:UH}{vs:List V}(h:bj K H a vs):k6 (rg K a) (tG H a) vs:=
 ⟨λi H' s hi=>⟨vs,vs[i],h.keep s,by simp [hi]⟩,λi H' x H'' s _ y=>⟨y.1,y.2 vs (h.keep s)⟩,λi H' s hi=>⟨vs,h.keep s,hi⟩⟩
theorem k6.tup{K:NG}{H:Hp}{a:UH}{vs:List V}(h:aX K H a vs):k6 (rh K a) (tG H a) vs:=
 ⟨λi H' s hi=>⟨vs,vs[i],h.keep s,by simp [hi]⟩,λi H' x H'' s _ y=>⟨y.1,y.2 vs (h.keep s)⟩,λi H' s hi=>⟨vs,h.keep s,hi⟩⟩
def kR(lo:Int)(n:Nat):List UD:=(PD n).map λ(k:Nat)=>.int (lo+k)
theorem k6.rng{lo:Int}{n:Nat}:k6 (mR lo n) (λ_=>True) ((PD n).map λ(k:Nat)=>V.int (lo+k)):=by
 refine⟨λi H' s hi=>(by simpa using hi:i < n),λi H' x H'' s hi y=>⟨y.1,?_⟩,λi H' s hi=>(by simpa using hi:n<=i)⟩;obtain⟨_,rfl⟩:=y;have hn:i < n:=by simpa using hi
 simp [hn]
theorem aq.rng{K:NG}{H:Hp}{O:Ex}{lo:Int}:∀(l:List Nat),aq K H O (l.map λ(k:Nat)=>V.int (lo+k)) (l.map λ(k:Nat)=>NW (lo+k))
 | []=>.nil
 | n::r=>.cons (.int _) (aq.rng r)
abbrev DG:=UD->Dl->(Dl->Prop)->Prop
def GD(K:NG)(g:TG)(dg:DG):Prop:=∀(H0:Hp)(O0:Ex)(H:Hp)(O:Ex)(σ:St)(δ:Dl)(v:V)(x:UD)(R:St->Hp->Prop)(Qd:Dl->Prop),Wd K H0 O0 H O σ δ->Dt K H O v x->dg x δ Qd->(∀δ' σ',Qd δ'->Wd K H0 O0 H O σ' δ'->R σ' H)->g v σ H R
def c7(i:Nat):DG:=λx δ Q=>Q (δ.set i (some (.v x)))
theorem j6{K:NG}{i:Nat}:GD K (nJ i) (c7 i):=λH0 O0 H O σ δ v x R Qd w r q k=>k _ _ q (w.set r)
abbrev nT:=List UD->Dl->(Dl->Prop)->Prop
def rL(K:NG)(g:l6)(dg:nT):Prop:=∀(H0:Hp)(O0:Ex)(H:Hp)(O:Ex)(σ:St)(δ:Dl)(vs:List V)(xs:List UD)(R:St->Hp->Prop)(Qd:Dl->Prop),Wd K H0 O0 H O σ δ->aq K H O vs xs->dg xs δ Qd->(∀δ' σ',Qd δ'->Wd K H0 O0 H O σ' δ'->R σ' H)->g vs σ H R
def dh:nT:=λxs δ Q=>xs=[]/\Q δ
def di(t:DG)(u:nT):nT:=λxs δ Q=>∃x r,xs=x::r/\t x δ λδ'=>u r δ' Q
theorem vX{K:NG}:rL K qY dh:=λH0 O0 H O σ δ vs xs R Qd w r uu8 k=>by obtain⟨e,q⟩:=uu8;subst e;cases r;exact⟨rfl,k _ _ q w⟩
theorem pz{K:NG}{t:TG}{u:l6}{dt:DG}{du:nT}(h:GD K t dt)(h2:rL K u du):rL K (p7 t u) (di dt du):=λH0 O0 H O σ δ vs xs R Qd w r uu9 k=>by
 obtain⟨x,rr,e,q⟩:=uu9;subst e;cases r with
 | cons r1 r2=>exact⟨_,_,rfl,h H0 O0 H O σ δ _ _ _ _ w r1 q λδ' σ' q' w'=>h2 H0 O0 H O σ' δ' _ _ R Qd w' r2 q' k⟩
def dj(n:Nat)(t:nT):DG:=λx δ Q=>∃xs,x= .tuple xs/\xs.length=n/\t xs δ Q
theorem BZ{K:NG}{n:Nat}{t:l6}{dt:nT}(h:rL K t dt):GD K (qZ K n t) (dj n dt):=λH0 O0 H O σ δ v x R Qd w r uu10 k=>by
 obtain⟨xs,e,hl,q⟩:=uu10;subst e;obtain⟨a,vs,rfl,hs,rr⟩:=(Sh.dt r).tup;exact⟨a,vs,rfl,hs,by rw [rr.length];exact hl,h H0 O0 H O σ δ _ _ R Qd w rr q k⟩
section
variable {X:Cx} {H0:Hp} {O0:Ex}
def dm(t:DT)(g:DG):DS:=λE δ=>t δ λd=>g d δ E.nx
theorem B0{tg e:UO}{t:DT}{g:TG}{dg:DG}{pos:Pos}(he:DE X H0 O0 e t)(hg:PG X tg g)(gd:GD X.K g dg)(hs:Wl [tg] e pos.line X.env=pure false:=by rfl)(hw:Wm [tg] e X.env=pure none:=by rfl)
 (h1:(Vv [tg] X.env).map (·.2)=[assign tg X.env]:=by rfl):PS X (.Assign [tg] e pos) (j3 X.K H0 O0 (dm t dg)):=
 (A5 he hg hs hw h1).imp λD σ H uu11=>by obtain⟨O,δ,E,w,q,k1,k2,k3,k4⟩:=uu11;exact⟨O,δ,_,w,q,λd v H1 q1 s1 r1=>gd H0 O0 H1 O σ δ v d _ _ (w.mono s1) r1 q1 λδ' σ' q' w'=>k1 O δ' σ' H1 q' w' (.same s1)⟩
def dn(i j:Nat)(t:DA):DS:=λE δ=>t δ λds=>∃x y,ds=[x,y]/\E.nx ((δ.set i (some (.v x))).set j (some (.v y)))
theorem Hu{i j:Nat}{x y:Str}{a b:UO}{ta:DA}{px py pt pos:Pos}{kt k2 pt2}(hc:X.calm=true)(hN:X.N.Nodup)(hi:X.N[i]?=some x)(hj:X.N[j]?=some y)(hij:i≠j)
 (hx:X.env.scope.names.lookup x=some .local)(hy:X.env.scope.names.lookup y=some .local)(ha:PA X [a,b] (mw X.K H0 O0 ta))
 (hw:Wm [.Tuple [.Name x px,.Name y py] kt pt] (.Tuple [a,b] k2 pt2) X.env=pure (some [x,y]))
 (hs:Wl [.Tuple [.Name x px,.Name y py] kt pt] (.Tuple [a,b] k2 pt2) pos.line X.env=pure false:=by rfl):
 PS X (.Assign [.Tuple [.Name x px,.Name y py] kt pt] (.Tuple [a,b] k2 pt2) pos) (j3 X.K H0 O0 (dn i j ta)):=
 (FD hc hN hi hj hij hx hy ha hw hs).imp λD σ H uu12=>by obtain⟨O,δ,E,w,q,k1,k2,k3,k4⟩:=uu12;exact⟨O,δ,_,w,q,λds vs H1 uu13 s1 r1=>by
  obtain⟨d1,d2,e,q1⟩:=uu13;subst e;cases r1 with
  | cons r1 r2=>
   cases r2 with
   | cons r2 r3=>
    cases r3;exact⟨_,_,rfl,k1 _ _ _ _ q1 (((w.mono s1).set r1).set r2) (.same s1)⟩⟩
def bT(g:DG)(tb:DS)(E:rH):List UD->Dl->Prop
 | [],δ=>E.nx δ
 | x::xs,δ=>g x δ λδ2=>tb {E with nx:=bT g tb E xs,ct:=bT g tb E xs,bk:=E.nx} δ2
def pA(g:DG)(tb:DS)(E:rH)(xs:List UD)(δ:Dl):Prop:=∃I:Nat->Dl->Prop,I 0 δ/\(∀i x δ,xs[i]?=some x->I i δ->g x δ λδ2=>tb {E with nx:=I (i+1),ct:=I (i+1),bk:=E.nx} δ2)/\∀δ,I xs.length δ->E.nx δ
theorem B1{K:NG}{J:It}{P:Hp->Prop}{vs:List V}{xs:List UD}{g:TG}{dg:DG}{tb:DS}{D:oh}{E:rH}{σ:St}{H:Hp}{O:Ex}{δ:Dl}(S:k6 J P vs)(gd:GD K g dg)
 (hP:∀H' O',bz H H' O O'->P H')(r:aq K H O vs xs)(w:Wd K H0 O0 H O σ δ)(q:pA dg tb E xs δ)
 (k1:∀O' δ' σ' H',E.nx δ'->Wd K H0 O0 H' O' σ' δ'->bz H H' O O'->D.nx σ' H')(k2:∀d v H',E.rt d->ao H0 H'->Dt K H' O0 v d->D.rt v H'):FR J g (j3 K H0 O0 tb) D σ H:=by
 obtain⟨Iv,q0,qs,qe⟩:=q;refine⟨λi m σ' H'=>∃O' δ',m=vs.length - i/\i<=vs.length/\Wd K H0 O0 H' O' σ' δ'/\bz H H' O O'/\Iv i δ',⟨vs.length,O,δ,UC,PR _,w,bz.refl _ _,q0⟩,?_⟩;rintro i m σ1 H1 ⟨O1,δ1,rfl,hi,w1,S1,q1⟩;by_cases hlt:i < vs.length
 ·refine .inr ⟨S.go i H1 (hP _ _ S1) hlt,λσ' H'=>∃O' δ',Wd K H0 O0 H' O' σ' δ'/\bz H H' O O'/\Iv (i+1) δ',λσ' H' uu14=>by obtain⟨O',δ',w',S',q'⟩:=uu14;exact⟨vs.length - (i+1),Uy,O',δ',rfl,hlt,w',S',q'⟩,λx H' y=>?_⟩;have yy:=S.yl i H1 x H' (hP _ _ S1) hlt y;clear y;obtain⟨e,y⟩:=yy;subst e;obtain⟨d,ed,rd⟩:=r.get y;refine gd H0 O0 _ O1 σ1 δ1 x d _ _ w1 (rd.step S1) (qs i d δ1 ed q1) λδ2 σ2 q2 w2=>?_;refine⟨O1,δ2,_,w2,q2,λO' δ' σ' H' z w' S'=>⟨O',δ',w',S1.trans S',z⟩,k2,λO' δ' σ' H' z w' S'=>k1 O' δ' σ' H' z w' (S1.trans S'),λO' δ' σ' H' z w' S'=>⟨O',δ',w',S1.trans S',z⟩⟩
 ·have e:i=vs.length:=Uy
  subst e;refine .inl ⟨S.st _ H1 (hP _ _ S1) (NT _),?_⟩;rw [r.length] at q1;exact k1 O1 δ1 σ1 H1 (qe δ1 q1) w1 S1
def fE(t:DT)(g:DG)(tb:DS):DS:=λE δ=>t δ λd=>∃xs,d= .list xs/\bT g tb E xs δ
def fF(t:DT)(g:DG)(tb:DS):DS:=λE δ=>t δ λd=>∃xs,d= .tuple xs/\bT g tb E xs δ
def fG(t:DA)(g:DG)(tb:DS):DS:=λE δ=>t δ λds=>∃j:Int,ds=[.int j]/\-(2 ^ 62)<=j/\j < 2 ^ 62/\bT g tb E (kR 0 j.toNat) δ
def fH(t:DA)(g:DG)(tb:DS):DS:=λE δ=>t δ λds=>∃i j:Int,ds=[.int i,.int j]/\(-(2 ^ 62)<=i/\i < 2 ^ 62/\-(2 ^ 62)<=j/\j < 2 ^ 62)/\bT g tb E (kR i (j - i).toNat) δ
def dz(t:DT)(g:DG)(tb:DS):DS:=λE δ=>t δ λd=>∃xs,d= .list xs/\pA g tb E xs δ
def fJ(t:DT)(g:DG)(tb:DS):DS:=λE δ=>t δ λd=>∃xs,d= .tuple xs/\pA g tb E xs δ
def dA(t:DA)(g:DG)(tb:DS):DS:=λE δ=>t δ λds=>∃j:Int,ds=[.int j]/\-(2 ^ 62)<=j/\j < 2 ^ 62/\pA g tb E (kR 0 j.toNat) δ
def fK(t:DA)(g:DG)(tb:DS):DS:=λE δ=>t δ λds=>∃i j:Int,ds=[.int i,.int j]/\(-(2 ^ 62)<=i/\i < 2 ^ 62/\-(2 ^ 62)<=j/\j < 2 ^ 62)/\pA g tb E (kR i (j - i).toNat) δ
section
variable {tg iter:UO} {body:List UW} {t:DT} {ta:DA} {g:TG} {dg:DG} {tb:DS} {pos p ps:Pos}
theorem Hv(hp:PassesOwn (UL X.prog X.w) X.A X.env X.xe)(hc:X.calm=true)(hi:DE X H0 O0 iter t)(hg:PG X tg g)(gd:GD X.K g dg)(hb:bJ X body (j3 X.K H0 O0 tb))(hs:∀x,U6 iter X.env x=pure x:=by intro _;rfl):
 PS X (.For tg iter body [] pos) (j3 X.K H0 O0 (dz t dg tb)):=
 (Bc hp hc (A8 hi) hg hb hs).imp λD σ H uu15=>by obtain⟨O,δ,E,w,q,k1,k2,k3,k4⟩:=uu15;exact⟨O,δ,_,w,q,λd v H1 uu16 s1 r1=>by
  obtain⟨xs,e,q1⟩:=uu16;subst e;cases r1 with
  | lst h n r=>
   refine⟨_,rfl,⟨_,.inl h⟩,B1 (k6.list (.inl h)) gd (λH' O' S o e=>S.keep _ _ e n) r (w.mono s1) q1 (λO' δ' σ' H' z w' S=>k1 O' δ' σ' H' z w' (bz.trans (.same s1) S)) k2⟩⟩
theorem vY(hp:PassesOwn (UL X.prog X.w) X.A X.env X.xe)(hc:X.calm=true){a:UO}(hgl:Gl X "range")(hm:X.mg "range"=none)(ha:PA X [a] (mw X.K H0 O0 ta))(hg:PG X tg g)(gd:GD X.K g dg)(hb:bJ X body (j3 X.K H0 O0 tb))
 (hst:UM [a] X.env=[(false,eval a X.env)]:=by rfl)(hs:∀x,U6 (.Call (.Name "range" p) [a] [] ps) X.env x=pure x:=by intro _;rfl):
 PS X (.For tg (.Call (.Name "range" p) [a] [] ps) body [] pos) (j3 X.K H0 O0 (dA ta dg tb)):=
 (Bc hp hc (Ba hgl hm ha hst) hg hb hs).imp λD σ H uu17=>by obtain⟨O,δ,E,w,q,k1,k2,k3,k4⟩:=uu17;exact⟨O,δ,_,w,q,λds vs H1 uu18 s1 r1=>by
  obtain⟨j,e,b1,b2,q1⟩:=uu18;subst e;cases r1 with
  | cons r1 r2=>
   cases r2;cases r1;exact⟨j,rfl,b1,b2,B1 k6.rng gd (λ_ _ _=>trivial) (aq.rng _) (w.mono s1) q1 (λO' δ' σ' H' z w' S=>k1 O' δ' σ' H' z w' (bz.trans (.same s1) S)) k2⟩⟩
end
def fL(i:Nat)(t:DS):DS:=λE δ=>∃ds,δ[i]?=some (some (.o ds))/\t E (δ.set i (some (.v (.list ds))))
def bg(k:Nat)(fr:List Nat)(δ:Dl):Dl:=NO k none++fr.map λj=>(δ[j]?).join
def pB(g:DG)(tc:DB)(te:DT)(δ0:Dl):List UD->List UD->(List UD->Prop)->Prop
 | [],acc,Q=>Q acc
 | x::xs,acc,Q=>g x δ0 λδ2=>tc δ2 λok=>if ok=true then te δ2 λy=>pB g tc te δ0 xs (acc++[y]) Q else pB g tc te δ0 xs acc Q
theorem Wd.comp{K:NG}{H:Hp}{O:Ex}{σ:St}{δ:Dl}(w:Wd K H0 O0 H O σ δ){k:Nat}{fr:List Nat}(hf:fr.Nodup):Wd K H0 O0 H O (bC k fr σ) (bg k fr δ):=by
 have at1:∀{α:Type}(l:List (Option α))(i:Nat),(NO k none++fr.map λj=>(l[j]?).join)[i]?=if i < k then some none else(fr[i - k]?).map λj=>(l[j]?).join:=by
  intro α l i;by_cases h:i < k
  ·rw [UA h,Qm (by simpa using h),QN,UA h]
  ·rw [Uz h,QA (by simpa using Se h),PX];simp
 have un:∀{α:Type}(l:List (Option α))(i:Nat)(x:α),(NO k none++fr.map λj=>(l[j]?).join)[i]?=some (some x)->∃j,fr[i - k]?=some j/\k<=i/\l[j]?=some (some x):=by
  intro α l i x h;rw [at1] at h;split at h
  ·cases h
  ·cases e:fr[i - k]? with
   | none=>rw [e] at h;cases h
   | some j=>
    rw [e] at h;refine⟨j,rfl,Uy,?_⟩;have h':(l[j]?).join=some x:=Pg h;cases q:l[j]? with
    | none=>rw [q] at h';cases h'
    | some o=>rw [q] at h';rw [show o=some x from h']
 refine⟨w.same,w.sub,w.new,w.trk,by simp [bC,bg],λi y e=>?_,λi j y z l e1 y1 e2 z2 e3 e4=>?_⟩
 ·match y,e with
  | none,_=>exact PV
  | some x,e=>
   obtain⟨j,hj,hk,ej⟩:=un δ i x e;have q:=w.sl j _ ej;have e2:((bC k fr σ)[i]?).join=(σ[j]?).join:=by
    unfold bC;rw [at1,Uz Uy,hj];rfl
   rw [e2];exact q
 ·obtain⟨a,ha,ka,ea⟩:=un δ i _ e1;obtain⟨b,hb,kb,eb⟩:=un δ j _ e2;obtain⟨a',ha',_,ea'⟩:=un σ i _ e3;obtain⟨b',hb',_,eb'⟩:=un σ j _ e4;rw [ha] at ha';cases ha';rw [hb] at hb';cases hb';have:=w.dis a b y z l ea y1 eb z2 ea' eb';subst this;have e5:=(Tr (l:=fr) (i:=i - k) (j:=j - k) (OT.mp ha).1 hf).mp (by rw [ha,hb]);omega
theorem ND{K:NG}{J:It}{P:Hp->Prop}{vs:List V}{xs:List UD}{g:TG}{dg:DG}{tc:TT}{dc:DB}{te:TE}{de:DT}{k:Nat}{fr:List Nat}{σ:St}{H:Hp}{O:Ex}{δ:Dl}{Qd:List UD->Prop}{Q:VK}(S:k6 J P vs)(gd:GD K g dg)(hf:fr.Nodup)
 (hk:∀v:V,∀σ':St,∀H':Hp,∀R:St->Hp->Prop,g v (bC k fr σ) H' R->g v (bC k fr σ) H' λσ2 H2=>oy (bC k fr σ) σ2/\R σ2 H2)
 (hc:∀σ H Q,fy K H0 O0 dc σ H Q->tc σ H Q)(he:∀σ H Q,up K H0 O0 de σ H Q->te σ H Q)
 (hP:∀D H',H D=none->mU D H H'->P H')(r:aq K H O vs xs)(w:Wd K H0 O0 H O σ δ)(hz:vs.length<=UN)(q:pB dg dc de (bg k fr δ) xs [] Qd)
 (k1:∀ds us p H',Qd ds->ao H H'->H' p=none->aq K H' O us ds->Q (.ref p) (ak H' p (.lst us))):oz J g tc te k fr σ H Q:=by
 intro D hD;have w0:Wd K H0 O0 H O (bC k fr σ) (bg k fr δ):=w.comp hf;have nD:¬O D:=λz=>w.trk D z hD;have D0:H0 D=none:=by
  cases e:H0 D with
  | none=>rfl
  | some o=>rw [w.same _ _ e] at hD;cases hD
 have ex:∀H',mU D H H'->H' D≠none->Wd K H0 O0 H' (λa=>O a\/a=D) (bC k fr σ) (bg k fr δ):=λH' s' hd=>by
  have S':bz H H' O (λa=>O a\/a=D):=⟨λb o e _=>s' b o e (ko e hD),λb hb hn z=>z.elim hn λq=>hb (by rw [q];exact hD)⟩;refine⟨λb o e=>s' b o (w.same b o e) (λz=>by rw [z,D0] at e;cases e),λl z=>.inl (w.sub l z),λl z=>z.elim (w.new l) λq=>.inr (by rw [q];exact D0),λl z=>?_,w0.len,λj y e=>?_,w0.dis⟩
  ·by_cases ql:l=D
   ·rw [ql];exact hd
   ·have hl:=w.trk l (z.resolve_right ql);cases e:H l with
    | none=>exact absurd e hl
    | some o=>rw [s' l o e ql];exact λz=>nomatch z
  ·exact(w0.sl j y e).go S' (λl o _ _ a1 _ a3=>⟨.inl a1,s' _ _ a3 (λz=>nD (by rw [<-z];exact a1))⟩) (λa o u a1 _ a3=>⟨.inl a1,s' _ _ a3 (λz=>nD (by rw [<-z];exact a1))⟩) λa o a1 a3=>s' _ _ a3 (λz=>nD (by rw [<-z];exact w.sub _ a1))
 refine⟨λi m H'=>∃acc ys,m=vs.length - i/\i<=vs.length/\mU D H H'/\H' D=some (.lst ys)/\ys.length<=i/\aq K H' (λa=>O a\/a=D) ys acc/\pB dg dc de (bg k fr δ) (xs.drop i) acc Qd,⟨vs.length,[],[],UC,PR _,λb o e n=>by rw [av n];exact e,bh,PR _,.nil,by simpa using q⟩,?_⟩;rintro i m H1 ⟨acc,ys,rfl,hi,s1,e1,hy,ra,q1⟩;by_cases hlt:i < vs.length
 ·refine .inr ⟨S.go i H1 (hP D H1 hD s1) hlt,λx H' y=>?_⟩;have yy:=S.yl i H1 x H' (hP D H1 hD s1) hlt y;clear y;obtain⟨e,y⟩:=yy;subst e;obtain⟨d,ed,rd⟩:=r.get y;have hd:xs.drop i=d::xs.drop (i+1):=by
   rw [R9 (h:=(OT.mp ed).1),(OT.mp ed).2]
  rw [hd] at q1;have w1:=ex _ s1 (by rw [e1];exact λz=>nomatch z);have S':bz H H' O (λa=>O a\/a=D):=⟨λb o e _=>s1 b o e (ko e hD),λb hb hn z=>z.elim hn λq=>hb (by rw [q];exact hD)⟩;refine hk x σ _ _ (gd H0 O0 _ _ _ _ x d _ _ w1 (rd.step S') q1 λδ2 σ2 q2 w2=>?_);refine hc σ2 _ _ ⟨_,δ2,_,w2,q2,λok H3 q3 s3=>?_⟩;cases ok with
  | true=>
   rw [UA rfl];refine he σ2 H3 _ ⟨_,δ2,_,w2.mono s3,q3,λd' v H4 q4 s4 r4=>?_⟩;have e4:=s4 _ _ (s3 _ _ e1);have sD:bz H4 (ak H4 D (.lst (ys++[v]))) (λa=>O a\/a=D) (λa=>O a\/a=D):=⟨λb o e n=>by rw [av (λz=>n (.inr z))];exact e,λ_ _ n=>n⟩;refine⟨ys,e4,Uy,vs.length - (i+1),Uy,acc++[d'],ys++[v],rfl,hlt,λb o e n=>by rw [av n];exact s4 _ _ (s3 _ _ (s1 b o e n)),bh,by simpa using hy,?_,q4⟩;exact((ra.mono (s3.trans s4)).append (.cons r4 .nil)).step sD
  | false=>
   rw [Uz Ce];exact⟨vs.length - (i+1),Uy,acc,ys,rfl,hlt,λb o e n=>s3 _ _ (s1 b o e n),s3 _ _ e1,Uy,ra.mono s3,q3⟩
 ·have e:i=vs.length:=Uy
  subst e;refine .inl ⟨S.st _ H1 (hP D H1 hD s1) (NT _),?_⟩;rw [r.length,RA (NT _)] at q1;have hrest:∃H2:Hp,H2 D=none/\ao H H2/\H1=ak H2 D (.lst ys):=by
   refine⟨λb=>if b=D then none else H1 b,UC,λb o e=>?_,?_⟩
   ·have n:=ko e hD;show(if b=D then none else H1 b)=some o;rw [Uz n];exact s1 b o e n
   ·funext b;by_cases z:b=D
    ·rw [z,bh];exact e1
    ·rw [av z];show H1 b=if b=D then none else H1 b;rw [Uz z]
  obtain⟨H2,h2,s2,rfl⟩:=hrest;refine k1 acc ys D H2 q1 s2 h2 (ra.step ⟨λb o e n=>?_,λb _ n z=>n (.inl z)⟩);rw [av (λz=>n (.inr z))] at e;exact e
def mx(g:DG)(tc:DB)(te:DT)(δ0:Dl)(xs:List UD)(Q:List UD->Prop):Prop:=∃I:Nat->List UD->Prop,I 0 []/\(∀i x acc,xs[i]?=some x->I i acc->g x δ0 λδ2=>tc δ2 λok=>if ok=true then te δ2 λy=>I (i+1) (acc++[y]) else I (i+1) acc)/\∀acc,I xs.length acc->Q acc
theorem rM{K:NG}{J:It}{P:Hp->Prop}{vs:List V}{xs:List UD}{g:TG}{dg:DG}{tc:TT}{dc:DB}{te:TE}{de:DT}{k:Nat}{fr:List Nat}{σ:St}{H:Hp}{O:Ex}{δ:Dl}{Qd:List UD->Prop}{Q:VK}(S:k6 J P vs)(gd:GD K g dg)(hf:fr.Nodup)
 (hk:∀v:V,∀σ':St,∀H':Hp,∀R:St->Hp->Prop,g v (bC k fr σ) H' R->g v (bC k fr σ) H' λσ2 H2=>oy (bC k fr σ) σ2/\R σ2 H2)
 (hc:∀σ H Q,fy K H0 O0 dc σ H Q->tc σ H Q)(he:∀σ H Q,up K H0 O0 de σ H Q->te σ H Q)
 (hP:∀D H',H D=none->mU D H H'->P H')(r:aq K H O vs xs)(w:Wd K H0 O0 H O σ δ)(hz:vs.length<=UN)(q:mx dg dc de (bg k fr δ) xs Qd)
 (k1:∀ds us p H',Qd ds->ao H H'->H' p=none->aq K H' O us ds->Q (.ref p) (ak H' p (.lst us))):oz J g tc te k fr σ H Q:=by
 obtain⟨Iv,q0,qs,qe⟩:=q;intro D hD;have w0:Wd K H0 O0 H O (bC k fr σ) (bg k fr δ):=w.comp hf;have nD:¬O D:=λz=>w.trk D z hD;have D0:H0 D=none:=by
  cases e:H0 D with
  | none=>rfl
  | some o=>rw [w.same _ _ e] at hD;cases hD
 have ex:∀H',mU D H H'->H' D≠none->Wd K H0 O0 H' (λa=>O a\/a=D) (bC k fr σ) (bg k fr δ):=λH' s' hd=>by
  have S':bz H H' O (λa=>O a\/a=D):=⟨λb o e _=>s' b o e (ko e hD),λb hb hn z=>z.elim hn λq=>hb (by rw [q];exact hD)⟩;refine⟨λb o e=>s' b o (w.same b o e) (λz=>by rw [z,D0] at e;cases e),λl z=>.inl (w.sub l z),λl z=>z.elim (w.new l) λq=>.inr (by rw [q];exact D0),λl z=>?_,w0.len,λj y e=>?_,w0.dis⟩
  ·by_cases ql:l=D
   ·rw [ql];exact hd
   ·have hl:=w.trk l (z.resolve_right ql);cases e:H l with
    | none=>exact absurd e hl
    | some o=>rw [s' l o e ql];exact λz=>nomatch z
  ·exact(w0.sl j y e).go S' (λl o _ _ a1 _ a3=>⟨.inl a1,s' _ _ a3 (λz=>nD (by rw [<-z];exact a1))⟩) (λa o u a1 _ a3=>⟨.inl a1,s' _ _ a3 (λz=>nD (by rw [<-z];exact a1))⟩) λa o a1 a3=>s' _ _ a3 (λz=>nD (by rw [<-z];exact w.sub _ a1))
 refine⟨λi m H'=>∃acc ys,m=vs.length - i/\i<=vs.length/\mU D H H'/\H' D=some (.lst ys)/\ys.length<=i/\aq K H' (λa=>O a\/a=D) ys acc/\Iv i acc,⟨vs.length,[],[],UC,PR _,λb o e n=>by rw [av n];exact e,bh,PR _,.nil,q0⟩,?_⟩;rintro i m H1 ⟨acc,ys,rfl,hi,s1,e1,hy,ra,q1⟩;by_cases hlt:i < vs.length
 ·refine .inr ⟨S.go i H1 (hP D H1 hD s1) hlt,λx H' y=>?_⟩;have yy:=S.yl i H1 x H' (hP D H1 hD s1) hlt y;clear y;obtain⟨e,y⟩:=yy;subst e;obtain⟨d,ed,rd⟩:=r.get y;have w1:=ex _ s1 (by rw [e1];exact λz=>nomatch z);have S':bz H H' O (λa=>O a\/a=D):=⟨λb o e _=>s1 b o e (ko e hD),λb hb hn z=>z.elim hn λq=>hb (by rw [q];exact hD)⟩;refine hk x σ _ _ (gd H0 O0 _ _ _ _ x d _ _ w1 (rd.step S') (qs i d acc ed q1) λδ2 σ2 q2 w2=>?_);refine hc σ2 _ _ ⟨_,δ2,_,w2,q2,λok H3 q3 s3=>?_⟩;cases ok with
  | true=>
   rw [UA rfl];refine he σ2 H3 _ ⟨_,δ2,_,w2.mono s3,q3,λd' v H4 q4 s4 r4=>?_⟩;have e4:=s4 _ _ (s3 _ _ e1);have sD:bz H4 (ak H4 D (.lst (ys++[v]))) (λa=>O a\/a=D) (λa=>O a\/a=D):=⟨λb o e n=>by rw [av (λz=>n (.inr z))];exact e,λ_ _ n=>n⟩;refine⟨ys,e4,Uy,vs.length - (i+1),Uy,acc++[d'],ys++[v],rfl,hlt,λb o e n=>by rw [av n];exact s4 _ _ (s3 _ _ (s1 b o e n)),bh,by simpa using hy,?_,q4⟩;exact((ra.mono (s3.trans s4)).append (.cons r4 .nil)).step sD
  | false=>
   rw [Uz Ce];exact⟨vs.length - (i+1),Uy,acc,ys,rfl,hlt,λb o e n=>s3 _ _ (s1 b o e n),s3 _ _ e1,Uy,ra.mono s3,q3⟩
 ·have e:i=vs.length:=Uy
  subst e;refine .inl ⟨S.st _ H1 (hP D H1 hD s1) (NT _),?_⟩;rw [r.length] at q1;have hrest:∃H2:Hp,H2 D=none/\ao H H2/\H1=ak H2 D (.lst ys):=by
   refine⟨λb=>if b=D then none else H1 b,UC,λb o e=>?_,?_⟩
   ·have n:=ko e hD;show(if b=D then none else H1 b)=some o;rw [Uz n];exact s1 b o e n
   ·funext b;by_cases z:b=D
    ·rw [z,bh];exact e1
    ·rw [av z];show H1 b=if b=D then none else H1 b;rw [Uz z]
  obtain⟨H2,h2,s2,rfl⟩:=hrest;refine k1 acc ys D H2 (qe acc q1) s2 h2 (ra.step ⟨λb o e n=>?_,λb _ n z=>n (.inl z)⟩);rw [av (λz=>n (.inr z))] at e;exact e
def fM(t:DT)(g:DG)(tc:DB)(te:DT)(k:Nat)(fr:List Nat):DA:=λδ Q=>t δ λd=>∃xs,d= .list xs/\xs.length<=UN/\pB g tc te (bg k fr δ) xs [] Q
def fN(t:DT)(g:DG)(tc:DB)(te:DT)(k:Nat)(fr:List Nat):DA:=λδ Q=>t δ λd=>∃xs,d= .tuple xs/\xs.length<=UN/\pB g tc te (bg k fr δ) xs [] Q
def fO(ta:DA)(g:DG)(tc:DB)(te:DT)(k:Nat)(fr:List Nat):DA:=λδ Q=>ta δ λds=>∃j:Int,ds=[.int j]/\-(2 ^ 62)<=j/\j < UN/\pB g tc te (bg k fr δ) (kR 0 j.toNat) [] Q
def bU:DB:=λ_ Q=>Q true
def oE(g:TG)(k:Nat):Prop:=∀(fr:List Nat)(σ:St)(v:V)(H':Hp)(R:St->Hp->Prop),g v (bC k fr σ) H' R->g v (bC k fr σ) H' λσ2 H2=>oy (bC k fr σ) σ2/\R σ2 H2
theorem lL:oE (nJ 0) 1:=λfr σ v H' R h=>⟨BM,h⟩
def cD(t:DT)(g:DG)(tc:DB)(te:DT)(k:Nat)(fr:List Nat):DA:=λδ Q=>t δ λd=>∃xs,d= .list xs/\xs.length<=UN/\mx g tc te (bg k fr δ) xs Q
def cE(t:DT)(g:DG)(tc:DB)(te:DT)(k:Nat)(fr:List Nat):DA:=λδ Q=>t δ λd=>∃xs,d= .tuple xs/\xs.length<=UN/\mx g tc te (bg k fr δ) xs Q
def dB(ta:DA)(g:DG)(tc:DB)(te:DT)(k:Nat)(fr:List Nat):DA:=λδ Q=>ta δ λds=>∃j:Int,ds=[.int j]/\-(2 ^ 62)<=j/\j < UN/\mx g tc te (bg k fr δ) (kR 0 j.toNat) Q
section
variable {tg iter elt:UO} {ifs:List UO} {scope:Vc} {N':List Str} {k:Nat} {fr:List Nat} {g:TG} {dg:DG} {t:DT} {ta:DA} {tc:DB} {te:DT} {pos p ps:Pos}
theorem rN(hc:X.calm=true)(S:cK X.env.scope X.N N' k fr scope)(hi:DF X H0 O0 iter t)(gd:GD X.K g dg)(hk:oE g k)(hfr:fr.Nodup)
 (hg:∀fp C s H,PG (fx X scope N' fp C s H) tg g)(hf:∀fp C s H,mr (fx X scope N' fp C s H) ifs (fy X.K H0 O0 tc))(he:∀fp C s H,PE (fx X scope N' fp C s H) elt (up X.K H0 O0 te))
 (hs:∀x,U6 iter X.env x=pure x:=by intro _;rfl):FE X H0 O0 (.ListComp elt [⟨tg,iter,ifs,0⟩] scope pos) (cD t dg tc te k fr):=
 (pj hc S (A8 hi) hg hf he hs).imp λσ H Q uu19=>by obtain⟨O,δ,Qd,w,q,kk⟩:=uu19;exact⟨O,δ,_,w,q,λd v H1 uu20 s1 r1=>by
  obtain⟨xs,e,hz,q1⟩:=uu20;subst e;obtain⟨a,vs,rfl,hq,rr⟩:=r1.lst;refine⟨a,rfl,⟨_,hq⟩,λD hD=>rM (k6.list hq) gd hfr (λv _ H' R h=>hk fr σ v H' R h) (λ_ _ _ z=>z) (λ_ _ _ z=>z) (λD H' hD s' o e=>s' _ _ e (ko e hD)) rr (w.mono s1) (by rw [rr.length];exact hz) q1 (λds us p H' z s' hp r'=>kk ds us p H' z (s1.trans s') hp r') D hD⟩⟩
theorem Hw(hc:X.calm=true)(S:cK X.env.scope X.N N' k fr scope)(hi:DF X H0 O0 iter t)(gd:GD X.K g dg)(hk:oE g k)(hfr:fr.Nodup)
 (hg:∀fp C s H,PG (fx X scope N' fp C s H) tg g)(hf:∀fp C s H,mr (fx X scope N' fp C s H) ifs (fy X.K H0 O0 tc))(he:∀fp C s H,PE (fx X scope N' fp C s H) elt (up X.K H0 O0 te))
 (hs:∀x,U6 iter X.env x=pure x:=by intro _;rfl):FE X H0 O0 (.ListComp elt [⟨tg,iter,ifs,0⟩] scope pos) (cE t dg tc te k fr):=
 (pj hc S (FJ hi) hg hf he hs).imp λσ H Q uu21=>by obtain⟨O,δ,Qd,w,q,kk⟩:=uu21;exact⟨O,δ,_,w,q,λd v H1 uu22 s1 r1=>by
  obtain⟨xs,e,hz,q1⟩:=uu22;subst e;obtain⟨a,vs,rfl,hq,rr⟩:=r1.tup;refine⟨a,rfl,⟨_,hq⟩,λD hD=>rM (k6.tup hq) gd hfr (λv _ H' R h=>hk fr σ v H' R h) (λ_ _ _ z=>z) (λ_ _ _ z=>z) (λD H' hD s' o e=>s' _ _ e (ko e hD)) rr (w.mono s1) (by rw [rr.length];exact hz) q1 (λds us p H' z s' hp r'=>kk ds us p H' z (s1.trans s') hp r') D hD⟩⟩
theorem B2(hc:X.calm=true){a:UO}(S:cK X.env.scope X.N N' k fr scope)(hgl:Gl X "range")(hm:X.mg "range"=none)(ha:PA X [a] (me X.K H0 O0 ta))(gd:GD X.K g dg)(hk:oE g k)(hfr:fr.Nodup)
 (hg:∀fp C s H,PG (fx X scope N' fp C s H) tg g)(hf:∀fp C s H,mr (fx X scope N' fp C s H) ifs (fy X.K H0 O0 tc))(he:∀fp C s H,PE (fx X scope N' fp C s H) elt (up X.K H0 O0 te))
 (hst:UM [a] X.env=[(false,eval a X.env)]:=by rfl)(hs:∀x,U6 (.Call (.Name "range" p) [a] [] ps) X.env x=pure x:=by intro _;rfl):
 FE X H0 O0 (.ListComp elt [⟨tg,(.Call (.Name "range" p) [a] [] ps),ifs,0⟩] scope pos) (dB ta dg tc te k fr):=
 (pj hc S (Ba hgl hm ha hst) hg hf he hs).imp λσ H Q uu23=>by obtain⟨O,δ,Qd,w,q,kk⟩:=uu23;exact⟨O,δ,_,w,q,λds vs H1 uu24 s1 r1=>by
  obtain⟨j,e,b1,b2,q1⟩:=uu24;subst e;cases r1 with
  | cons r1 r2=>
   cases r2;cases r1.int;have hb:(UN:Int) < 2 ^ 62:=Ce
   exact⟨j,rfl,b1,Uy,λD hD=>rM (P:=λ_=>True) k6.rng gd hfr (λv _ H' R h=>hk fr σ v H' R h) (λ_ _ _ z=>z) (λ_ _ _ z=>z) (λ_ _ _ _=>trivial) (aq.rng _) (w.mono s1) (by rw [NQ,QY];omega) q1 (λds us p H' z s' hp r'=>kk ds us p H' z (s1.trans s') hp r') D hD⟩⟩
end
end
section
variable {K:NG}
def dI(g:Int->Int->UD):UD->UD->(UD->Prop)->Prop:=λx y Q=>∃i j,x= .int i/\y= .int j/\Q (g i j)
def dD(C:Int->Int->Prop)(g:Int->Int->UD):UD->UD->(UD->Prop)->Prop:=λx y Q=>∃i j,x= .int i/\y= .int j/\C i j/\Q (g i j)
theorem bO{g:Int->Int->Int}:cz K (mq λi j=>.int (g i j)) (dI λi j=>.int (g i j)):=λH O x y dx dy Qd R _ hx hy uu25 k=>by
 obtain⟨i,j,e1,e2,q⟩:=uu25;subst e1 e2;cases hx.int;cases hy.int;exact⟨i,j,rfl,rfl,k _ _ H q (ao.refl _) (.int _)⟩
theorem bQ{g:Int->Int->Bool}:cz K (mq λi j=>.bl (g i j)) (dI λi j=>.bool (g i j)):=λH O x y dx dy Qd R _ hx hy uu26 k=>by
 obtain⟨i,j,e1,e2,q⟩:=uu26;subst e1 e2;cases hx.int;cases hy.int;exact⟨i,j,rfl,rfl,k _ _ H q (ao.refl _) (.bl _)⟩
theorem my{C:Int->Int->Prop}{g:Int->Int->Int}:cz K (rI C λi j=>.int (g i j)) (dD C λi j=>.int (g i j)):=λH O x y dx dy Qd R _ hx hy uu27 k=>by
 obtain⟨i,j,e1,e2,c,q⟩:=uu27;subst e1 e2;cases hx.int;cases hy.int;exact⟨i,j,rfl,rfl,c,k _ _ H q (ao.refl _) (.int _)⟩
def B3(K:NG):R2:=λx y H Q=>∃O dx dy,Sh K H O x dx/\Sh K H O y dy/\bx dx/\bx dy/\Q (.bl (NR dx dy)) H
def B4(K:NG):R2:=λx y H Q=>∃O dx dy,Sh K H O x dx/\Sh K H O y dy/\bx dx/\bx dy/\Q (.bl (!NR dx dy)) H
theorem j7{X:Cx}(hu:X.A.units+64 < cLine):bu X (UY .Eq) (B3 X.K):=by
 intro Wt s σ H x y v u Q I rx ry h;obtain⟨O,dx,dy,hx,hy,sx,sy,q⟩:=h;obtain⟨as,ra⟩:=mJ I hx.all (Po sx) rx;obtain⟨bs,rb⟩:=mJ I hy.all (Po sy) ry;exact SeqAt.compareEq_shaped ra rb sx sy hu (bD I q rfl)
theorem mV{X:Cx}(hu:X.A.units+64 < cLine):bu X (UY .NotEq) (B4 X.K):=by
 intro Wt s σ H x y v u Q I rx ry h;obtain⟨O,dx,dy,hx,hy,sx,sy,q⟩:=h;obtain⟨as,ra⟩:=mJ I hx.all (Po sx) rx;obtain⟨bs,rb⟩:=mJ I hy.all (Po sy) ry;exact SeqAt.compareNe_shaped ra rb sx sy hu (bD I q rfl)
def dE:UD->UD->(UD->Prop)->Prop:=λx y Q=>bx x/\bx y/\Q (.bool (NR x y))
def dF:UD->UD->(UD->Prop)->Prop:=λx y Q=>bx x/\bx y/\Q (.bool (!NR x y))
theorem j8:cz K (B3 K) dE:=λH O x y dx dy Qd R _ hx hy uu28 k=>by obtain⟨a,b,q⟩:=uu28;exact⟨O,dx,dy,hx,hy,a,b,k _ _ H q (ao.refl _) (.bl _)⟩
theorem mW:cz K (B4 K) dF:=λH O x y dx dy Qd R _ hx hy uu29 k=>by obtain⟨a,b,q⟩:=uu29;exact⟨O,dx,dy,hx,hy,a,b,k _ _ H q (ao.refl _) (.bl _)⟩
def dG:UD->UD->(UD->Prop)->Prop:=λx y Q=>∃ds i d,x= .list ds/\y= .int i/\atI ds i=some d/\Q d
def bX:UD->UD->(UD->Prop)->Prop:=λx y Q=>∃ds i d,x= .tuple ds/\y= .int i/\atI ds i=some d/\Q d
theorem aq.atI{H:Hp}{O:Ex}{vs:List V}{ds:List UD}{i:Int}{d:UD}(r:aq K H O vs ds)(e:L2.atI ds i=some d):∃v,L2.atI vs i=some v/\Dt K H O v d:=by
 unfold L2.atI at e⊢;rw [r.length];cases q:nP ds.length i with
 | none=>rw [q] at e;cases e
 | some j=>rw [q] at e;exact r.getD e
theorem aR:cz K (vK K) dG:=λH O x y dx dy Qd R _ hx hy uu30 k=>by
 obtain⟨ds,i,d,e1,e2,e3,q⟩:=uu30;subst e1 e2;obtain⟨a,vs,rfl,hs,r⟩:=hx.lst;cases hy.int;obtain⟨v,hv,rv⟩:=r.atI e3;exact⟨a,vs,i,v,rfl,rfl,hs,hv,k d v H q (ao.refl _) rv⟩
theorem aS:cz K (vL K) bX:=λH O x y dx dy Qd R _ hx hy uu31 k=>by
 obtain⟨ds,i,d,e1,e2,e3,q⟩:=uu31;subst e1 e2;obtain⟨a,vs,rfl,hs,r⟩:=hx.tup;cases hy.int;obtain⟨v,hv,rv⟩:=r.atI e3;exact⟨a,vs,i,v,rfl,rfl,hs,hv,k d v H q (ao.refl _) rv⟩
end
section
variable {X:Cx} {H0:Hp} {O0:Ex}
def Hx:R2:=λx y H Q=>∃l b xs zs,x= .ref l/\y= .ref b/\Rd H l (.lst xs)/\Rd H b (.lst zs)/\xs.length+zs.length<=UN/\∀p,H p=none->Q (.ref p) (ak H p (.lst (xs++zs)))
theorem Hy:bu X (Vh .Add) Hx:=by
 intro Wt s σ H x y v u Q I rx ry h;obtain⟨l,b,xs,zs,rfl,rfl,hH,hB,hz,q⟩:=h;cases rx;cases ry;obtain⟨z,its,n,r,e⟩:=hH.ok I.hok;obtain⟨z2,its2,n2,r2,e2⟩:=hB.ok I.hok;have l1:=r.length;have l2:=r2.length;refine PySem.P.add_list e e2 ?_ (by rw [Ol,Ol];omega);have ea:its.toArray++its2.toArray=(its++its2).toArray:=UC
 rw [ea];exact⟨.ref _,_,I.lnew (t':=s.toks) (r.append r2) (by rw [Pp];omega),rfl,q _ I.fresh⟩
def dH(ta tb:DT):DA:=λδ Q=>ta δ λx=>tb δ λy=>∃xs ys,x= .list xs/\y= .list ys/\xs.length+ys.length<=UN/\Q (xs++ys)
theorem kK{a b:UO}{ta tb:DT}{pos:Pos}(ha:DF X H0 O0 a ta)(hb:DF X H0 O0 b tb):FE X H0 O0 (.BinOp a .Add b pos) (dH ta tb):=
 (bM Hy ha hb).imp λσ H Q uu32=>by obtain⟨O,δ,Qd,w,q,k⟩:=uu32;exact⟨O,δ,_,w,q,λx v H1 q1 s1 r1=>⟨O,δ,_,w.mono s1,q1,λy u H2 uu33 s2 r2=>by
  obtain⟨xs,ys,e1,e2,hz,q2⟩:=uu33;subst e1 e2;obtain⟨a,vs,rfl,h1,d1⟩:=(r1.mono s2).lstR;obtain⟨b,us,rfl,h2,d2⟩:=r2.lstR;exact⟨a,b,vs,us,rfl,rfl,h1,h2,by rw [d1.length,d2.length];exact hz,λp hp=>k _ _ _ _ q2 (s1.trans s2) hp (d1.append d2)⟩⟩⟩
def dJ:UD->UD->(UD->Prop)->Prop:=λx y Q=>∃xs ys,x= .tuple xs/\y= .tuple ys/\xs≠[]/\xs.length+ys.length<=UN/\Q (.tuple (xs++ys))
theorem Hz{K:NG}:cz K (vI K) dJ:=λH O x y dx dy Qd R tr hx hy uu34 k=>by
 obtain⟨xs,ys,e1,e2,hn,hz,q⟩:=uu34;subst e1 e2;have hx0:=hx;obtain⟨a,vs,rfl,h1,d1⟩:=hx.tup;obtain⟨b,us,rfl,h2,d2⟩:=hy.tup;refine⟨a,b,vs,us,rfl,rfl,h1,h2,λz=>?_,by rw [d1.length,d2.length];exact hz,λz=>?_,λ_ p hp=>?_⟩
 ·subst z;cases d1;exact hn rfl
 ·subst z;cases d2;rw [NZ] at q;cases hx0 with
  | dt hx0=>exact k _ _ H q (ao.refl _) hx0
 ·exact k _ _ _ q (ao.new hp) (.tup (.inl bh) (λz=>tr p z hp) ((d1.append d2).mono (ao.new hp)))
def bw(xs:List UD)(lo hi:Option Int):List UD:=(xs.drop (HT.sIx xs.length 0 lo)).take (HT.sIx xs.length xs.length hi - HT.sIx xs.length 0 lo)
theorem aq.cut{K:NG}{H:Hp}{O:Ex}{vs:List V}{ds:List UD}(r:aq K H O vs ds)(lo hi:Option Int):aq K H O (nO vs lo hi) (bw ds lo hi):=by
 unfold nO bw;rw [r.length];exact(r.drop _).take _
abbrev DO:=Dl->(Option Int->Prop)->Prop
inductive nU (K:NG) (H0:Hp) (O0:Ex) (t:DO) (σ:St) (H:Hp) (R:Option Int->Hp->Prop):Prop
 | mk (O:Ex) (δ:Dl) (Qd:Option Int->Prop):Wd K H0 O0 H O σ δ->t δ Qd->(∀d H',Qd d->ao H H'->R d H')->nU K H0 O0 t σ H R
def dM:DO:=λ_ Q=>Q none
def dN(t:DT):DO:=λδ Q=>t δ λd=>∃i,d= .int i/\Q (some i)
theorem PO.imp{X:Cx}{e:Option UO}{t u:TO}(h:PO X e t)(i:∀σ H Q,u σ H Q->t σ H Q):PO X e u:=λWt s σ H Q I z=>h Wt s σ H Q I (i σ H Q z)
theorem fP:PO X none (nU X.K H0 O0 dM):=Gg.imp λσ H Q uu35=>by obtain⟨O,δ,Qd,w,q,k⟩:=uu35;exact k none H q (ao.refl _)
theorem cF{e:UO}{t:DT}(h:DE X H0 O0 e t):PO X (some e) (nU X.K H0 O0 (dN t)):=(Gh h).imp λσ H Q uu36=>by obtain⟨O,δ,Qd,w,q,k⟩:=uu36;exact⟨O,δ,_,w,q,λd v H1 uu37 s1 r1=>by obtain⟨i,e,q1⟩:=uu37;subst e;cases r1;exact⟨i,rfl,k _ H1 q1 s1⟩⟩
def dO(t:DT)(tl th:DO):DA:=λδ Q=>t δ λd=>tl δ λl=>th δ λu=>∃xs,d= .list xs/\Q (bw xs l u)
def fQ(t:DT)(tl th:DO):DT:=λδ Q=>t δ λd=>tl δ λl=>th δ λu=>∃xs,d= .tuple xs/\¬(HT.sIx xs.length 0 l=0/\HT.sIx xs.length xs.length u=xs.length)/\Q (.tuple (bw xs l u))
theorem kC{e:UO}{lo hi:Option UO}{t:DT}{tl th:DO}{pos p2:Pos}(h:DF X H0 O0 e t)(hl:PO X lo (nU X.K H0 O0 tl))(hu:PO X hi (nU X.K H0 O0 th)):FE X H0 O0 (.Subscript e (.Slice lo hi none p2) pos) (dO t tl th):=
 (vH Gw h hl hu).imp λσ H Q uu38=>by obtain⟨O,δ,Qd,w,q,k⟩:=uu38;exact⟨O,δ,_,w,q,λd v H1 q1 s1 r1=>⟨O,δ,_,w.mono s1,q1,λl H2 q2 s2=>⟨O,δ,_,w.mono (s1.trans s2),q2,λu H3 uu39 s3=>by
  obtain⟨xs,e,q3⟩:=uu39;subst e;obtain⟨a,vs,rfl,h1,d1⟩:=(r1.mono (s2.trans s3)).lst;exact⟨a,vs,rfl,h1,λp hp=>k _ _ _ _ q3 (s1.trans (s2.trans s3)) hp (d1.cut l u)⟩⟩⟩⟩
theorem nV{a b:UO}{ta tb:DT}{r:R2}{rd:UD->UD->(UD->Prop)->Prop}{pos:Pos}(ho:qh X r)(hd:cz X.K r rd)(ha:DF X H0 O0 a ta)(hb:DF X H0 O0 b tb)(hs:∀v u,subscripted b false v u=operate [v,u] (V5 v u):=by intro _ _;rfl):DE X H0 O0 (.Subscript a b pos) (bA rd ta tb):=(sX ho ha hb hs).imp (tD hd)
def dP:List UD->(UD->Prop)->Prop:=λds Q=>∃xs,(ds=[.list xs]\/ds=[.tuple xs])/\Q (.int xs.length)
def dQ:List UD->(UD->Prop)->Prop:=λds Q=>∃xs,ds=[ma xs]/\Q (.int xs.length)
theorem j9{K:NG}:mK K (λxs H Q=>∃p ys,xs=[.ref p]/\(bj K H p ys\/aX K H p ys)/\Q (.int ys.length) H) dP:=λH O xs ds Qd R _ hs uu40 k=>by
 obtain⟨ys,e,q⟩:=uu40;rcases e with e | e <;> subst e
 ·cases hs with
  | cons h r=>
   cases r;obtain⟨a,vs,rfl,h1,d1⟩:=h.lst;exact⟨a,vs,rfl,.inl h1,by rw [d1.length];exact k _ _ H q (ao.refl _) (.int _)⟩
 ·cases hs with
  | cons h r=>
   cases r;obtain⟨a,vs,rfl,h1,d1⟩:=h.tup;exact⟨a,vs,rfl,.inr h1,by rw [d1.length];exact k _ _ H q (ao.refl _) (.int _)⟩
theorem HA{K:NG}:mK K (λxs H Q=>∃p ys,xs=[.ref p]/\(bj K H p ys\/aX K H p ys)/\Q (.int ys.length) H) dQ:=λH O xs ds Qd R _ hs uu41 k=>by
 obtain⟨ys,e,q⟩:=uu41;subst e;cases hs with
 | cons h r=>
  cases r;obtain⟨a,vs,rfl,h1,d1⟩:=h.scr;exact⟨a,vs,rfl,.inl h1,by rw [d1.length];exact k _ _ H q (ao.refl _) (.int _)⟩
def dR:List UD->(UD->Prop)->Prop:=λds Q=>∃xs,ds=[.list xs]/\Q (.tuple xs)
theorem mL{K:NG}:mK K (λxs H Q=>∃p ys,xs=[.ref p]/\((bj K H p ys/\∀l,H l=none->Q (.ref l) (ak H l (.tup ys)))\/(aX K H p ys/\Q (.ref p) H))) dR:=λH O xs ds Qd R tr hs uu42 k=>by
 obtain⟨ys,e,q⟩:=uu42;subst e;cases hs with
 | cons h r=>
  cases r;obtain⟨a,vs,rfl,h1,d1⟩:=h.lst;exact⟨a,vs,rfl,.inl ⟨h1,λl hl=>k _ _ _ q (ao.new hl) (.tup (.inl bh) (λz=>tr l z hl) (d1.mono (ao.new hl)))⟩⟩
theorem aq.bools{K:NG}{H:Hp}{O:Ex}:∀{bs:List Bool}{vs:List V},aq K H O vs (bs.map RB)->vs=bs.map V.bl
 | [],_,r=>by rw [Od] at r;cases r;rfl
 | b::bs,_,r=>by
  rw [NM] at r;cases r with
  | cons h r=>cases h;rw [NM,aq.bools r]
def dS(g:List Bool->Bool):List UD->(UD->Prop)->Prop:=λds Q=>∃bs:List Bool,ds=[.list (bs.map .bool)]/\Q (.bool (g bs))
theorem oF{K:NG}{g:List Bool->Bool}:mK K (λxs H Q=>∃(a:UH)(bs:List Bool),xs=[.ref a]/\bj K H a (bs.map V.bl)/\Q (.bl (g bs)) H) (dS g):=λH O xs ds Qd R tr hs uu43 k=>by
 obtain⟨bs,e,q⟩:=uu43;subst e;cases hs with
 | cons h r=>
  cases r;obtain⟨a,vs,rfl,h1,d1⟩:=h.lst;cases d1.bools;exact⟨a,bs,rfl,h1,k _ _ H q (ao.refl _) (.bl _)⟩
def dU(g:Int->Int->Int):List UD->(UD->Prop)->Prop:=λds Q=>∃i j,ds=[.int i,.int j]/\Q (.int (g i j))
theorem tH{K:NG}{g:Int->Int->Int}:mK K (λxs H Q=>∃i j,xs=[.int i,.int j]/\Q (.int (g i j)) H) (dU g):=λH O xs ds Qd R tr hs uu44 k=>by
 obtain⟨i,j,e,q⟩:=uu44;subst e;cases hs with
 | cons h r=>
  cases r with
  | cons h2 r=>
   cases r;cases h.int;cases h2.int;exact⟨i,j,rfl,k _ _ H q (ao.refl _) (.int _)⟩
def qj:UD->String
 | .none=> "NoneType" | .bool _=> "bool" | .int _=> "int" | .str _=> "str" | .list _=> "list" | .tuple _=> "tuple" | .dict _=> "dict"
def fR(neg:Bool):UD->UD->(UD->Prop)->Prop:=λx y Q=>∃ds,(y= .list ds\/y= .tuple ds)/\cj x=true/\ds.all cj=true/\Q (.bool (if neg then !(ds.any λd=>NR d x) else ds.any λd=>NR d x))
end
section
variable {P:US} {w:UU} {K:NG} {mg:Str->Option UE} {base:UR}
def bR(N:List Str)(ds:List UD):Dl:=ds.map (λd=>some (.v d))++NO (N.length - ds.length) none
theorem B5{H:Hp}{O:Ex}{N:List Str}{vs:List V}{ds:List UD}(tr:∀l,O l->H l≠none)(r:aq K H O vs ds):Wd K H O H O (start N vs) (bR N ds):=by
 have hl:=r.length;have at1:∀(i:Nat) y,(bR N ds)[i]?=some y->(∃d,ds[i]?=some d/\y=some (.v d))\/y=none:=λi y e=>by
  unfold bR at e;by_cases h:i < ds.length
  ·rw [Qm (by simpa using h),PX] at e;cases q:ds[i]? with
   | none=>rw [q] at e;cases e
   | some d=>rw [q] at e;exact .inl ⟨d,rfl,(Pg e).symm⟩
  ·rw [QA (by simpa using Se h),QN] at e;split at e
   ·exact .inr (Pg e).symm
   ·cases e
 refine⟨ao.refl _,λ_ z=>z,λ_ z=>.inl z,tr,by simp [start,bR,hl],λi y e=>?_,λi j ds' es l e1=>?_⟩
 ·rcases at1 i y e with⟨d,hd,rfl⟩ | rfl
  ·obtain⟨v,hv,rv⟩:=r.getD hd;refine⟨v,?_,rv⟩;unfold start;rw [Qm (by simpa using(OT.mp hv).1),PX,hv];rfl
  ·exact PV
 ·rcases at1 i _ e1 with⟨d,_,z⟩ | z
  ·cases z;intro h;exact h.elim
  ·cases z
theorem lg.okD{x qual:Str}{st:UW}{f:UH}{fd:UP}{N ps:List Str}{k:Nat}{F:List UD->(UD->Prop)->Prop}(Fu:lg K x qual st f fd)(S:aQ N ps (ay st))(len:∀ds Q,F ds Q->ds.length=ps.length)
 (hbody:∀(cdv:UE) (A:UX) (outer:List Env) (s:UI) (H:Hp) (O:Ex) (ds:List UD) (Q:UD->Prop) (E:XK),bH k (A.deeper (VN qual (ay st) s.heap.objs.size f cdv))->F ds Q->
  ∃t,bJ (jS CX0 P w K mg base N qual (ay st) f cdv A outer s H E).nox (lJ st) (j3 K H O t)/\t {nx:=λ_=>Q .none,rt:=Q} (bR N ds)):aC P w K mg base CX0 (k+1) f fd ps (bf K F):=by
 refine Fu.ok S (λvs H Q E h=>?_) (λcdv A outer s H vs Q E hr h=>?_)
 ·obtain⟨O,ds,Qd,_,r,q,_⟩:=h;rw [r.length];exact len _ _ q
 ·obtain⟨O,ds,Qd,tr,r,q,k⟩:=h;obtain⟨t,ht,q'⟩:=hbody cdv A outer s H O ds Qd E hr q;refine⟨_,ht,O,_,_,B5 tr r,q',λO' δ' σ' H' z w' S'=>?_,λd v H' z s' r'=>k d v H' z s' r',λ_ _ _ _ z=>z.elim,λ_ _ _ _ z=>z.elim⟩;exact k _ _ _ z w'.same .non
end
section
variable {X:Cx} {H0:Hp} {O0:Ex}
theorem lM:mr X [] (fy X.K H0 O0 bU):=λWt s σ H Q I h=>by
 obtain⟨O,δ,Qd,w,q,k⟩:=h;exact BD Wt s σ H Q I (k true H q (ao.refl _))
theorem HB:kq X (.builtin "isinstance") (λxs H Q=>∃O d T b x,xs=[x,.ty T]/\Dt X.K H O x d/\(∀x,d≠ .dict [(.none,x)])/\kitOne X.K (.type (qj d)) (.type T)=some b/\Q (.bl b) H):=by
 intro Wt s σ H xs us Q I r h;obtain⟨O,d,T,b,x,rfl,hd,hp,hk,q⟩:=h;obtain⟨u,w',rfl,rx,rt⟩:=pe r;cases (show w'=Q5 T from rt);have fin:∀tk,EP X Wt σ Q (.bool b) {s with toks:=tk}:=λtk=>⟨.bl b,H,I.tok tk,rfl,q⟩;cases hd with
 | non=>cases (show u=P9 from rx);exact V4 kitx_none I.kIn PV hk (λz=>nomatch z) fin
 | bl y=>cases (show u=QC y from rx);exact V4 kitx_bool I.kIn PV hk (λz=>nomatch z) fin
 | int i=>obtain⟨t,e⟩:=(show ∃t,u=RG i t from rx);cases e;exact V4 kitx_int I.kIn PV hk (λz=>nomatch z) fin
 | str y=>obtain⟨t,e⟩:=(show ∃t,u=Q4 y t from rx);cases e;exact V4 kitx_str I.kIn PV hk (λz=>nomatch z) fin
 | @tup a xs ds h n rr=>
  cases (show u=Ow a from rx);obtain⟨its,rv,⟨o,e,c,_⟩,_⟩:=I.tuple (.inl h);exact V4 kitx_tuple I.kIn ⟨o,e,c⟩ hk (λz=>nomatch z) fin
 | @tupK a xs ds h rr=>
  cases (show u=Ow a from rx);obtain⟨its,rv,⟨o,e,c,_⟩,_⟩:=I.tuple h.of0;exact V4 kitx_tuple I.kIn ⟨o,e,c⟩ hk (λz=>nomatch z) fin
 | @lst a xs ds h n rr=>
  cases (show u=Ow a from rx);obtain⟨its,rv,⟨o,_,e,c,_⟩,_⟩:=I.list (.inl h);exact V4 kitx_list I.kIn ⟨o,e,c⟩ hk (λz=>nomatch z) fin
 | pack h n=>exact absurd rfl (hp _)
 | purse h n=>exact absurd rfl (hp _)
 | scr h r=>exact absurd rfl (hp _)
 | obj h e n r=>exact absurd rfl (hp _)
 | @dct0 a h n=>
  cases (show u=Ow a from rx);obtain⟨_,_,_,_,o,_,_,e,c,_⟩:=(show bE X.prog X.w H s.heap a (.dK []) from I.hok a _ h);exact V4 kitx_dict I.kIn ⟨o,e,c.1⟩ hk (λz=>nomatch z) fin
 | @dic a ob kv ks kp ds h e1 e2 n rr=>
  cases (show u=Ow a from rx);obtain⟨_,_,_,_,o,_,_,e,c,_⟩:=(show bE X.prog X.w H s.heap a (.dK kv) from(I.hok a _ h).2);exact V4 kitx_dict I.kIn ⟨o,e,c.1⟩ hk (λz=>nomatch z) fin
def cG(K:NG)(T:String)(t:DT):DT:=λδ Q=>t δ λd=>∃b,kitOne K (.type (qj d)) (.type T)=some b/\(∀x,d≠ .dict [(.none,x)])/\Q (.bool b)
theorem HC{T:String}{a c:UO}{t:DT}{np p:Pos}(hg:Gl X "isinstance")(hm:X.mg "isinstance"=none)(hv:U0 "isinstance"=some (.builtin "isinstance"))(ha:DF X H0 O0 a t)(hc:PE X c (tC (.ty T)))
 (hs:UM [a,c] X.env=(false,eval a X.env)::UM [c] X.env:=by rfl)(hs2:UM [c] X.env=[(false,eval c X.env)]:=by rfl)(hb:(U3 p (UM [c] X.env)).any (·.1)=false:=by rfl):DE X H0 O0 (.Call (.Name "isinstance" np) [a,c] [] p) (cG X.K T t):=
 (aT HB hg hm hv (aN ha (aN hc bF hs2) hs) (he:=hs) (hpl:=hb)).imp λσ H Q uu45=>by obtain⟨O,δ,Qd,w,q,k⟩:=uu45;exact⟨O,δ,_,w,q,λd v H1 uu46 s1 r1=>by obtain⟨b,e,hp,q1⟩:=uu46;exact⟨λ_=>False,d,T,b,v,rfl,r1.all,hp,e,k _ _ H1 q1 s1 (.bl b)⟩⟩
def dW:UD->UD->(UD->Prop)->Prop:=λx y Q=>∃i j,x= .str i/\y= .str j/\i.length+j.length<=UN/\Q (.str (i++j))
theorem tI{K:NG}:cz K (λx y H Q=>∃i j,x= .str i/\y= .str j/\i.length+j.length<=UN/\Q (.str (i++j)) H) dW:=λH O x y dx dy Qd R tr hx hy uu47 k=>by
 obtain⟨i,j,e1,e2,hz,q⟩:=uu47;subst e1 e2;cases hx.str;cases hy.str;exact⟨i,j,rfl,rfl,hz,k _ _ H q (ao.refl _) (.str _)⟩
def dX:UD->UD->(UD->Prop)->Prop:=λx y Q=>∃z i c,x= .str z/\y= .int i/\z.length<=UN/\atI z.cps.toList i=some c/\Q (.str ⟨#[c]⟩)
theorem tJ{K:NG}:cz K Bt dX:=λH O x y dx dy Qd R tr hx hy uu48 k=>by
 obtain⟨z,i,c,e1,e2,hz,e3,q⟩:=uu48;subst e1 e2;cases hx.str;cases hy.int;exact⟨z,i,c,rfl,rfl,hz,e3,k _ _ H q (ao.refl _) (.str _)⟩
def HD:V->Option Int->Option Int->Hp->VK->Prop:=λx lo hi H Q=>∃z,x= .str z/\z.length<=UN/\Q (.str (Txt.slice z lo hi)) H
theorem HE:rC X HD:=by
 intro Wt s σ H x v vl vu lo hi sl Q I rx hs pl pu h;obtain⟨z,rfl,hz,q⟩:=h;obtain⟨t,rfl⟩:=rx;have e1:∃l:Option (Int×Tok),vl=partValue l/\l.map (·.1)=lo:=by
  cases pl with
  | none=>exact⟨none,rfl,rfl⟩
  | int i t=>exact⟨some (i,t),rfl,rfl⟩
 have e2:∃l:Option (Int×Tok),vu=partValue l/\l.map (·.1)=hi:=by
  cases pu with
  | none=>exact⟨none,rfl,rfl⟩
  | int i t=>exact⟨some (i,t),rfl,rfl⟩
 obtain⟨l,rfl,rfl⟩:=e1;obtain⟨u,rfl,rfl⟩:=e2;refine⟨"str",_,F.slot_str_getitem.lookup,Vw _ _ _,wpAny_getItem_str_slice (l:=l) (u:=u) (st:=none) hs rfl ?_⟩;exact post_val_or_str ⟨Oz (Txt.slice_le z _ _) hz,λt' k=>⟨.str (Txt.slice z (l.map (·.1)) (u.map (·.1))),H,I.tok _,⟨_,rfl⟩,q⟩⟩
def dY(t:DT)(tl th:DO):DT:=λδ Q=>t δ λd=>tl δ λl=>th δ λu=>∃z,d= .str z/\z.length<=UN/\Q (.str (Txt.slice z l u))
theorem qk{e:UO}{lo hi:Option UO}{t:DT}{tl th:DO}{pos p2:Pos}(h:DF X H0 O0 e t)(hl:PO X lo (nU X.K H0 O0 tl))(hu:PO X hi (nU X.K H0 O0 th)):DE X H0 O0 (.Subscript e (.Slice lo hi none p2) pos) (dY t tl th):=
 (vH HE h hl hu).imp λσ H Q uu49=>by obtain⟨O,δ,Qd,w,q,k⟩:=uu49;exact⟨O,δ,_,w,q,λd v H1 q1 s1 r1=>⟨O,δ,_,w.mono s1,q1,λl H2 q2 s2=>⟨O,δ,_,w.mono (s1.trans s2),q2,λu H3 uu50 s3=>by
  obtain⟨z,e,hz,q3⟩:=uu50;subst e;cases r1.str;exact⟨z,rfl,hz,k _ _ H3 q3 (s1.trans (s2.trans s3)) (.str _)⟩⟩⟩⟩
theorem B6{K:NG}{H:Hp}{O:Ex}:∀{ys:List Str}{vs:List V}{us:List UE},aq K H O vs (ys.map NH)->aG vs us->Va us ys:=by
 intro ys
 induction ys with
 | nil=>intro vs us r rv;rw [Od] at r;cases r;cases rv;exact .nil
 | cons y ys ih=>
  intro vs us r rv;rw [NM] at r;cases r with
  | cons h r=>
   cases h;cases rv with
   | cons r1 r2=>
    obtain⟨t,rfl⟩:=r1;exact .cons y t (ih r r2)
theorem HF:rD X "str.join" (λx xs H Q=>∃(O:Ex)(z:Str)(a:V)(ys:List Str),x= .str z/\xs=[a]/\Sh X.K H O a (.list (ys.map .str))/\(ys.map (·.length)).sum+ys.length*z.length<=16777216/\Q (.str (Txt.join z ys)) H):=by
 intro Wt s σ H x xs v us Q I rx rs h;obtain⟨O,z,a,ys,rfl,rfl,ha,hz,q⟩:=h;obtain⟨t,rfl⟩:=rx;obtain⟨u,rfl,ru⟩:=kY rs;obtain⟨l,vs,rfl,hl,dl⟩:=ha.lst;cases ru;obtain⟨its,rv,pl,_⟩:=I.list hl;exact join_list pl.isList (by simpa using B6 dl rv) hz λt' k=>⟨.str _,H,I.tok _,⟨_,rfl⟩,q⟩
def dZ(to:DT)(t:DT):DT:=λδ Q=>to δ λx=>∃z:Str,x= .str z/\t δ λy=>∃(ys:List Str),y= .list (ys.map .str)/\(ys.map (·.length)).sum+ys.length*z.length<=16777216/\Q (.str (Txt.join z ys))
theorem qm{o e:UO}{to t:DT}{apos cpos:Pos}(ho:DE X H0 O0 o to)(ha:DF X H0 O0 e t)(hbase:Vs o "join" X.env (eval o X.env)=eval o X.env:=by rfl)
 (hfew:((U3 cpos (UM [e] X.env)).all (λx=>!x.1) && (Wb cpos (VQ [] X.env)).all (λx=>x.1.isSome) && decide ([e].length+([]:List VE).length+(if ([]:List VE).isEmpty then 0 else 1) < 30))=true:=by rfl)
 (hline:(apos.endLine==cpos.line)=true:=by rfl)(hst:UM [e] X.env=(false,eval e X.env)::UM [] X.env:=by rfl)(hplain:(U3 cpos (UM [] X.env)).any (·.1)=false:=by rfl):
 DE X H0 O0 (.Call (.Attribute o "join" apos) [e] [] cpos) (dZ to t):=
 (rE QV SG SH HF ho (aN ha bF hst) hbase hfew hline hst hplain).imp λσ H Q uu51=>by obtain⟨O,δ,Qd,w,q,k⟩:=uu51;exact⟨O,δ,_,w,q,λx v H1 uu52 s1 r1=>by
  obtain⟨z,e,q1⟩:=uu52;subst e;cases r1;exact⟨rfl,O,δ,_,w.mono s1,q1,λy u H2 uu53 s2 r2=>by obtain⟨ys,e,hz,q2⟩:=uu53;subst e;exact⟨O,z,u,ys,rfl,rfl,r2,hz,k _ _ H2 q2 (s1.trans s2) (.str _)⟩⟩⟩
def d3:List UD->(UD->Prop)->Prop:=λds Q=>(∃i,ds=[.int i]/\Q (.int i))\/∃b,ds=[.bool b]/\Q (.int (if b then 1 else 0))
theorem tK{K:NG}:mK K (λxs H Q=>(∃i,xs=[.int i]/\Q (.int i) H)\/∃k,xs=[.bl k]/\Q (.int (if k then 1 else 0)) H) d3:=λH O xs ds Qd R tr hs h k=>by
 rcases h with⟨i,e,q⟩ | ⟨b,e,q⟩ <;> subst e
 ·cases hs with
  | cons h r=>cases r;cases h.int;exact .inl ⟨i,rfl,k _ _ H q (ao.refl _) (.int _)⟩
 ·cases hs with
  | cons h r=>cases r;cases h.bl;exact .inr ⟨b,rfl,k _ _ H q (ao.refl _) (.int _)⟩
def d6(t:DA):DA:=λδ Q=>t δ λds=>∃xs,(ds=[.list xs]\/ds=[.tuple xs])/\Q xs
theorem pC{a:UO}{t:DA}{np p:Pos}(hg:Gl X "list")(hm:X.mg "list"=none)(hv:U0 "list"=some (.type "list"))(ha:PA X [a] (me X.K H0 O0 t))(he:UM [a] X.env=(false,eval a X.env)::UM [] X.env:=by rfl)(hpl:(U3 p (UM [] X.env)).any (·.1)=false:=by rfl):FE X H0 O0 (.Call (.Name "list" np) [a] [] p) (d6 t):=
 (cw Gx hg hm hv ha (he:=he) (hpl:=hpl)).imp λσ H Q uu54=>by obtain⟨O,δ,Qd,w,q,k⟩:=uu54;exact⟨O,δ,_,w,q,λds vs H1 uu55 s1 r1=>by
  obtain⟨xs,e,q1⟩:=uu55;rcases e with e | e <;> subst e
  ·cases r1 with
   | cons h r=>
    cases r;obtain⟨a,us,rfl,h1,d1⟩:=h.lst;exact⟨a,us,rfl,.inl h1,λl hl=>k _ _ _ _ q1 s1 hl d1⟩
  ·cases r1 with
   | cons h r=>
    cases r;obtain⟨a,us,rfl,h1,d1⟩:=h.tup;exact⟨a,us,rfl,.inr h1,λl hl=>k _ _ _ _ q1 s1 hl d1⟩⟩
theorem HG{xs:List V}{us:List UE}(r:aG xs us):aG xs.reverse us.reverse:=by
 induction r with
 | nil=>exact .nil
 | cons h r ih=>rw [Rt,Rt];exact ih.append (.cons h .nil)
theorem HH{e:UO}{te:TE}{pos p2 up cp:Pos}{j}(he:PE X e te):PE X (.Subscript e (.Slice none none (some (.UnaryOp .USub (.Constant (.int 1) j cp) up)) p2) pos) (λσ H Q=>te σ H λx H1=>∃a xs,x= .ref a/\bj X.K H1 a xs/\∀p,H1 p=none->Q (.ref p) (ak H1 p (.lst xs.reverse))):=by
 intro Wt s σ H Q I h;refine Subscript_ (ax (he Wt s σ H _ I h) λv s1 ⟨x,H1,I1,r1,q1⟩=>?_);obtain⟨a,xs,rfl,hq,q⟩:=q1;cases r1;refine wpAny_Slice ?_;rw [evalPart_none];refine UJ (UJ ?_);rw [evalPart_some];refine ax (FL FP cg Wt s1 σ H1 (λx H2=>x= .int (-1)/\H2=H1) I1 ⟨1,rfl,rfl,rfl⟩) λvk s3 ⟨x3,H3,I3,r3,e3,e4⟩=>?_;subst e3 e4;obtain⟨tk,rfl⟩:=r3;have I4:ag X Wt σ H3 {s3 with heap:=s3.heap.push {cls:= .type "slice",data:= .fields #[.none,.none,.int (-1) tk]}}:=I3.kept (t':=s3.toks) λb ob q=>NJ _ q;show UK (UL X.prog X.w) X.A (subscriptTail e (.Slice none none (some (.UnaryOp .USub (.Constant (.int 1) j cp) up)) p2) (.ref a) (.ref s3.heap.objs.size)) (EP X Wt σ Q) X.xe {s3 with heap:=s3.heap.push {cls:= .type "slice",data:= .fields #[.none,.none,.int (-1) tk]}};obtain⟨its,r,ht,hz⟩:=I4.list hq;have hlen:=r.length;refine tail_any (ops:=[.ref a,.ref s3.heap.objs.size]) ht.isList.typeIs slot_list_getitem.lookup ?_ (by with_unfolding_all rfl);refine Wr ht.isList (Td ..) .none .none (.int (-1) tk) UC ?_ (by rw [Ol] <;> omega);rw [krv_pick];refine⟨.ref _,_,I4.laid (t':=s3.toks) (o:= .lst xs.reverse) (λb ob q=>NJ _ q) (NT _) ?_,rfl,q _ (I4.hok.fresh (NT _))⟩;exact⟨by rw [RN];exact hz,_,0,(show aG xs.reverse its.reverse from HG r),N2 _ rfl⟩
def d7(t:DT):DA:=λδ Q=>t δ λd=>∃xs,d= .list xs/\Q xs.reverse
theorem HI{e:UO}{t:DT}{pos p2 up cp:Pos}{j}(h:DF X H0 O0 e t):FE X H0 O0 (.Subscript e (.Slice none none (some (.UnaryOp .USub (.Constant (.int 1) j cp) up)) p2) pos) (d7 t):=
 (HH h).imp λσ H Q uu58=>by obtain⟨O,δ,Qd,w,q,k⟩:=uu58;exact⟨O,δ,_,w,q,λd v H1 uu59 s1 r1=>by
  obtain⟨xs,e,q1⟩:=uu59;subst e;obtain⟨a,us,rfl,h1,d1⟩:=r1.lst;exact⟨a,us,rfl,h1,λp hp=>k _ _ _ _ q1 s1 hp d1.reverse⟩⟩
end
section
variable {X:Cx} {Wt:List (UH×Obj)} {σ:St} {H:Hp} {s:UI}
theorem ag.swap{p:UH}{o':HO}(I:ag X Wt σ H s)(mu:qT (H p))(new:bE X.prog X.w (ak H p o') s.heap p o'):ag X Wt σ (ak H p o') s:=by
 have hp:∃o,H p=some o:=by
  cases e:H p with
  | none=>rw [e] at mu;exact mu.elim
  | some o=>exact⟨o,rfl⟩
 obtain⟨o,ho⟩:=hp;have nn:∀{b:UH},H b=none->b≠p:=λhb z=>by rw [z,ho] at hb;cases hb
 have nt:∀{b:UH}{xs:List V},H b=some (.tup xs)->b≠p:=λhb z=>by rw [z] at hb;rw [hb] at mu;exact mu
 have nw:∀{b y:UH},H b=some (.own y)->b≠p:=λhb z=>by rw [z] at hb;rw [hb] at mu;exact mu
 have nf:∀{b:UH}{ob:Obj}{u:HO},H b=some (.frz ob u)->b≠p:=λhb z=>by rw [z] at hb;rw [hb] at mu;exact mu
 have nc:∀{b:UH}{q:Str},H b=some (.cod q)->b≠p:=λhb z=>by rw [z] at hb;rw [hb] at mu;exact mu
 have nb:∀{b:UH}{ps:Array UE},H b=some (.tbl ps)->b≠p:=λhb z=>by rw [z] at hb;rw [hb] at mu;exact mu
 have ub:=I.base;refine⟨I.ok,I.os,I.bare,⟨ub.keep,ub.slot,λb ob e n hx=>?_,ub.there,λb xs z=>?_,λb ob u z=>?_,λb ps z=>?_⟩,I.loc,I.cell,?_,λx c e=>?_,λq hq=>?_,λb u e=>?_,I.len⟩
 ·have:=ub.free b ob e n hx;rw [av (nn this)];exact this
 ·have:=ub.tups b xs z;rw [av (nt this)];exact this
 ·have:=ub.frzs b ob u z;rw [av (nf this)];exact this
 ·obtain⟨m,this⟩:=ub.tbls b ps z;exact⟨m,by rw [av (nb this)];exact this⟩
 ·rw [av (nn I.free)];exact I.free
 ·have:=I.freeC x c e;rw [av (nn this)];exact this
 ·obtain⟨a,b,c⟩:=I.pin q hq;exact⟨a,by rw [av (nn b)];exact b,c⟩
 ·by_cases hb:b=p
  ·subst hb;rw [bh] at e;cases e;exact new
  ·rw [av hb] at e;exact(I.hok b u e).stay (λ_ _ _ q=>q) (λc z=>by rw [av (nw z)];exact z) (λc xs z=>by rw [av (nt z)];exact z) λc xs z=>by rw [av (nc z)];exact z
theorem ag.open{p:UH}(I:ag X Wt σ H s)(e:H p=some (nQ p)):∃n,ag X Wt σ (ak H p (.lst [.int n])) s:=by
 obtain⟨⟨n,t,k,h⟩,_,_⟩:=(show bE X.prog X.w H s.heap p (nQ p) from I.hok p _ e);exact⟨n,I.swap (by rw [e];exact PV) ⟨(show 1<=UN by decide),[.int n t],k,.cons ⟨t,rfl⟩ .nil,h⟩⟩
theorem ag.shut{p:UH}{n:Int}(I:ag X Wt σ H s)(e:H p=some (.lst [.int n])):ag X Wt σ (ak H p (nQ p)) s:=by
 obtain⟨_,its,k,r,h⟩:=(show bE X.prog X.w H s.heap p (.lst [.int n]) from I.hok p _ e);cases r with
 | cons r1 r2=>
  cases r2;obtain⟨t,rfl⟩:=r1;refine I.swap (by rw [e];exact PV) ⟨⟨n,t,k,h⟩,⟨_,h⟩,λh1 h2 uu60 kk=>by obtain⟨n,t,k,z⟩:=uu60;exact⟨n,t,k,kk _ z⟩⟩
theorem bJ.pack{st:List UW}{t:TS}(h:bJ X st t):bJ X st (λD σ H=>∃p,H p=some (nQ p)/\∀n,t {nx:=λσ' H'=>∃n',H' p=some (.lst [.int n'])/\D.nx σ' (ak H' p (nQ p)),rt:=λv H'=>∃n',H' p=some (.lst [.int n'])/\D.rt v (ak H' p (nQ p))} σ (ak H p (.lst [.int n]))):=by
 intro Wt s σ H D I ⟨p,e,q⟩;obtain⟨n,I1⟩:=I.open e;refine ax (h Wt s σ _ _ I1 (q n)) λf s1 z=>?_;cases f with
 | next=>obtain⟨σ',H',J,n',e',q'⟩:=z;exact⟨σ',_,J.shut e',q'⟩
 | ret u=>obtain⟨v,σ',H',J,r,n',e',q'⟩:=z;exact⟨v,σ',_,J.shut e',r,q'⟩
 | brk=>obtain⟨_,_,_,z⟩:=z;exact z.elim
 | cont=>obtain⟨_,_,_,z⟩:=z;exact z.elim
theorem bJ.newPack{st:List UW}{t:TS}(h:bJ X st t):bJ X st (λD σ H=>t {nx:=λ_ _=>False,rt:=λv H'=>∃p n,v= .ref p/\H' p=some (.lst [.int n])/\D.rt v (ak H' p (nQ p))} σ H):=by
 intro Wt s σ H D I q;refine ax (h Wt s σ _ _ I q) λf s1 z=>?_;cases f with
 | next=>obtain⟨_,_,_,z⟩:=z;exact z.elim
 | ret u=>obtain⟨v,σ',H',J,r,p,n',e,e',q'⟩:=z;subst e;exact⟨_,σ',_,J.shut e',r,q'⟩
 | brk=>obtain⟨_,_,_,z⟩:=z;exact z.elim
 | cont=>obtain⟨_,_,_,z⟩:=z;exact z.elim
end
def vZ:List UD->(UD->Prop)->Prop:=λds Q=>∃z:Int,ds=[lT,.int z]/\0 < z/\z<=1000000/\∀i:Int,0<=i->i < z->Q (.int i)
def HJ:List UD->(UD->Prop)->Prop:=λds Q=>∃(ns:List Int)(i:Int),ds=[ma (ns.map .int),.int i]/\(∀z∈ns,Pj z<=1048576)/\0<=i/\i<=64/\Q lT
theorem aV{α:Type}{a:α}{l:List α}:atI (a::l) 0=some a:=mG (j:=0) rfl
theorem bp{α:Type}{a b:α}{l:List α}:atI (a::b::l) 1=some b:=mG (j:=1) rfl
theorem bS{α:Type}{a b c:α}{l:List α}:atI (a::b::c::l) 2=some c:=mG (j:=2) rfl
theorem cH{α:Type}{a b c d:α}{l:List α}:atI (a::b::c::d::l) 3=some d:=mG (j:=3) rfl
theorem d8{α:Type}{a b c d e:α}{l:List α}:atI (a::b::c::d::e::l) 4=some e:=mG (j:=4) rfl
theorem d9{i:Int}:bx (.int i):=rfl
theorem eg{i:Bool}:bx (.bool i):=rfl
theorem fS:bx .none:=rfl
theorem br{x y:Str}:NR (.str x) (.str y)=(x==y):=by simp [NR]
theorem ei{x y:Int}:NR (.int x) (.int y)=(x==y):=by simp [NR]
theorem er{x y:Bool}:NR (.bool x) (.bool y)=(x==y):=by simp [NR]
theorem mX{x:Str}:bx (.str x)↔Pb x=true:=by
 unfold bx P8;simp [Pc,Si]
theorem ph{n d:Nat}:HT.sIx n d none=d:=rfl
theorem oG{n d:Nat}{i:Int}(h0:0<=i)(h1:i<=n):HT.sIx n d (some i)=i.toNat:=by
 obtain⟨j,rfl⟩:=OX h0;rw [HT.sIx_nat,O8];omega
theorem pE{xs:List UD}{i:Int}(h0:0<=i)(h1:i<=xs.length):bw xs none (some i)=xs.take i.toNat:=by
 unfold bw;rw [ph,oG h0 h1];simp
theorem pF{xs:List UD}{i:Int}(h0:0<=i)(h1:i<=xs.length):bw xs (some i) none=xs.drop i.toNat:=by
 unfold bw;rw [ph,oG h0 h1,Pn (by rw [Pu];exact NT _)]
theorem tL{lo:Int}{n i:Nat}{x:UD}(h:(kR lo n)[i]?=some x):i < n/\x= .int (lo+i):=by
 unfold kR at h;rw [PX] at h;by_cases hi:i < n
 ·rw [List.getElem?_range hi] at h;exact⟨hi,(Pg h).symm⟩
 ·rw [Ql (by simpa using hi)] at h;cases h
theorem B7{lo:Int}{n:Nat}:(kR lo n).length=n:=by unfold kR;simp
section
variable {X:Cx} {Wt:List (UH×Obj)} {σ:St} {H:Hp} {s:UI} {a:UH} {y v:V} {u r:UE} {o:Option V} {A:UX} {E:UE->UI->Prop}
theorem ag.big(I:ag X Wt σ H s):sysModules < s.heap.objs.size:=by
 have h:UQ < s.heap.objs.size:=(I.mod.glob.keeps I.bk).lt;exact Tf Ce h
end
theorem HK{P:US}{w:UU}{H:Hp}(h:UR)(hb:sysModules < h.objs.size):bE P w H (h.push {cls:= .type "dict",data:= .dict #[]}) h.objs.size (.dK []):=
 ⟨PR _,beq_eq_false_iff_ne.mpr (Ne.symm (OF hb)),[],.nil,Heap.DictOf.new h⟩
def HL:TE:=λ_ H Q=>∀p,H p=none->Q (.ref p) (ak H p (.dK []))
section
variable {X:Cx} {pos:Pos}
theorem HM:PE X (.Dict [] [] pos) HL:=λWt s σ H Q I h=>
 wpAny_Dict_empty ⟨.ref s.heap.objs.size,_,I.laid (a:=s.heap.objs.size) (o:= .dK []) (t':=s.toks) (λ_ _ q=>NJ _ q) (NT _) (HK s.heap I.big),rfl,h _ (I.hok.fresh (NT _))⟩
end
section
variable {X:Cx} {H0:Hp} {O0:Ex}
def fT(a b c d:Str)(t:DT):DT:=λδ Q=>t δ λy=>(y= .str a/\Q (.str c))\/(y= .str b/\Q (.str d))
def litsOf:List UO->Option (List UD)
 | []=>some []
 | .Constant (.int i) _ _::r=>(litsOf r).map (.int i::·)
 | .Constant (.str x) _ _::r=>(litsOf r).map (.str x::·)
 | _::_=>none
def cI(ds:List UD):DA:=λ_ Q=>Q ds
theorem mY:∀{es:List UO}{ds:List UD},litsOf es=some ds->PA X es (mw X.K H0 O0 (cI ds))
 | [],ds,h=>by cases h;exact ah
 | e::r,ds,h=>by
  cases e with
  | Constant c j p=>
   cases c with
   | int i=>
    have h':(litsOf r).map (.int i::·)=some ds:=h;cases q:litsOf r with
    | none=>rw [q] at h';cases h'
    | some ms=>rw [q] at h';cases h';exact aa ae (mY q)
   | str x=>
    have h':(litsOf r).map (.str x::·)=some ds:=h;cases q:litsOf r with
    | none=>rw [q] at h';cases h'
    | some ms=>rw [q] at h';cases h';exact aa aF (mY q)
   | _=>cases h
  | _=>cases h
def litsE:UO->Option (List UD)
 | .List es _=>litsOf es
 | _=>none
theorem mM{e:UO}{ds:List UD}(h:litsE e=some ds):FE X H0 O0 e (cC (cI ds)):=by
 cases e with
 | List es p=>exact bB (mY h)
 | _=>cases h
theorem B8{e:UO}{ds:List UD}{x:Option UO}{n:Nat}{env:Env}(h:litsE e=some ds):Ve e x n env=pure false:=by
 cases e with
 | List es p=>rfl
 | _=>cases h
end
theorem mZ{x:Str}:Pb x=true↔∀c∈x.cps.toList,c < 0x110000:=by
 unfold Pb;rw [<-Array.all_toList,Pf];simp
theorem rO(x y:Str):(x++y).cps=x.cps++y.cps:=rfl
theorem oH(x y:Str):(x++y).length=x.length+y.length:=by
 show(x.cps++y.cps).size=_;rw [R7];rfl
theorem HN{a b:Str}{c d:Nat}(h:a++⟨#[c]⟩++b=a++⟨#[d]⟩++b):c=d:=by
 have h1:=congrArg (λs:Str=>s.cps.toList) h;simp only [rO,Qs] at h1;have h2:=List.append_cancel_right h1;have h3:=List.append_cancel_left h2;simpa using h3
def kS:Str:="abcdefghijklmnopqrstuvwxyz"
theorem HP:kS.cps.toList.length=26:=td
theorem HQ:kS.cps.toList.Nodup:=td
theorem rP:∀c∈kS.cps.toList,c < 0x110000:=td
theorem rQ{j:Int}(h0:0<=j)(h1:j < 26):∃c,atI kS.cps.toList j=some c/\kS.cps.toList[j.toNat]?=some c/\c < 0x110000:=by
 obtain⟨k,rfl⟩:=OX h0;have hk:k < kS.cps.toList.length:=by rw [HP];omega
 refine⟨kS.cps.toList[k],mG (by simp [hk]),by simp [hk],rP _ (Qj hk)⟩
def lN(j:Int):Nat:=(kS.cps.toList[j.toNat]?).getD 0
theorem HR{j:Int}(h0:0<=j)(h1:j < 26):atI kS.cps.toList j=some (lN j)/\lN j < 0x110000:=by
 obtain⟨c,e1,e2,e3⟩:=rQ h0 h1;have:lN j=c:=by unfold lN;rw [e2];rfl
 rw [this];exact⟨e1,e3⟩
theorem HS{i j:Int}(h0:0<=i)(h1:i < 26)(g0:0<=j)(g1:j < 26)(e:lN i=lN j):i=j:=by
 obtain⟨c,_,e2,_⟩:=rQ h0 h1;obtain⟨d,_,e4,_⟩:=rQ g0 g1;have a:lN i=c:=by unfold lN;rw [e2];rfl
 have b:lN j=d:=by unfold lN;rw [e4];rfl
 have cd:c=d:=by rw [<-a,<-b,e]
 subst cd;have hi:i.toNat < kS.cps.toList.length:=(OT.mp e2).1;have:=(Tr (l:=kS.cps.toList) (i:=i.toNat) (j:=j.toNat) hi HQ).mp (by rw [e2,e4]);omega
section
variable {X:Cx} {pos:Pos}
def B9(K:NG)(n:Nat)(t:l6):TG:=λv σ H Q=>∃a xs,v= .ref a/\bj K H a xs/\xs.length=n/\t xs σ H Q
theorem HU{es:List UO}{k:Nat}{t:l6}{n:Nat}(hc:X.calm=true)(h:qX X es t)
 (hn:(Vv es X.env).length=n:=by rfl)(hst:(Vv es X.env).findIdx? (·.1)=none:=by rfl):PG X (.Tuple es k pos) (B9 X.K n t):=by
 intro Wt s σ H v u Q I r hw;obtain⟨a,xs,e1,hq,hl,hw⟩:=hw;subst e1;cases r;obtain⟨its,rv,⟨o,n',ho,hcls,hd,hdata⟩,hz⟩:=I.list hq;have hlst:s.heap.IsList a its.toArray:=⟨o,ho,hcls,n',hdata⟩;rw [assign_Tuple];refine UG (VM ?_);unfold unpack;have hn':(Vv es X.env).length=its.toArray.size:=by simp [hn,<-hl,rv.length]
 rw [hn',hst];refine UG (U8 (PySem.W.kun_itemsOf (I.ok.hd hc) hlst λh' hx=>?_));have I1:ag X Wt σ H {s with heap:=h'}:=I.kept (t':=s.toks) λb o e=>hx b o (OF (NV e)) e;exact h Wt _ σ H xs _ Q I1 (by simpa using rv) hw
def Ca(n:Nat)(t:nT):DG:=λx δ Q=>∃xs,x= .list xs/\xs.length=n/\t xs δ Q
theorem HV{K:NG}{n:Nat}{t:l6}{dt:nT}(h:rL K t dt):GD K (B9 K n t) (Ca n dt):=λH0 O0 H O σ δ v x R Qd w r uu61 k=>by
 obtain⟨xs,e,hl,q⟩:=uu61;subst e;obtain⟨a,vs,rfl,hs,rr⟩:=(Sh.dt r).lst;exact⟨a,vs,rfl,hs,by rw [rr.length];exact hl,h H0 O0 H O σ δ _ _ R Qd w rr q k⟩
end
mutual
theorem Cb:∀d e:UD,NR d e=NR e d
 | .list xs,.list ys=>by rw [NR,NR];exact v5 xs ys
 | .tuple xs,.tuple ys=>by rw [NR,NR];exact v5 xs ys
 | .bool _,.bool _ | .int _,.int _ | .str _,.str _=>by simp only [NR];exact BEq.comm
 | .bool a,.int j | .int j,.bool a=>by simp only [NR];exact BEq.comm
 | .none,.none=>rfl
 | .dict _,.dict _=>by simp only [NR]
 | .none,.bool _ | .none,.int _ | .none,.str _ | .none,.list _ | .none,.tuple _ | .none,.dict _=>by simp only [NR]
 | .bool _,.none | .bool _,.str _ | .bool _,.list _ | .bool _,.tuple _ | .bool _,.dict _=>by simp only [NR]
 | .int _,.none | .int _,.str _ | .int _,.list _ | .int _,.tuple _ | .int _,.dict _=>by simp only [NR]
 | .str _,.none | .str _,.bool _ | .str _,.int _ | .str _,.list _ | .str _,.tuple _ | .str _,.dict _=>by simp only [NR]
 | .list _,.none | .list _,.bool _ | .list _,.int _ | .list _,.str _ | .list _,.tuple _ | .list _,.dict _=>by simp only [NR]
 | .tuple _,.none | .tuple _,.bool _ | .tuple _,.int _ | .tuple _,.str _ | .tuple _,.list _ | .tuple _,.dict _=>by simp only [NR]
 | .dict _,.none | .dict _,.bool _ | .dict _,.int _ | .dict _,.str _ | .dict _,.list _ | .dict _,.tuple _=>by simp only [NR]
theorem v5:∀xs ys:List UD,Pk xs ys=Pk ys xs
 | [],[]=>rfl
 | x::xs,y::ys=>by rw [Pk,Pk,Cb x y,v5 xs ys]
 | [],_::_=>by rw [Pk,Pk]
 | _::_,[]=>by rw [Pk,Pk]
end
def v7(z:Str):It:=⟨λi _=>i < z.cps.size,λi H x H'=>H'=H/\∃c,z.cps[i]?=some c/\x= .str ⟨#[c]⟩,λi _=>z.cps.size<=i⟩
theorem HW(z:Str):["enumerate","zip","dict_itemiterator","dict_reverseitemiterator","odict_iterator","itertools.zip_longest","itertools.pairwise"].contains (VX z)=false:=by
 unfold VX;split <;> decide
theorem Cc{P:US}{w:UU}{A:UX}(hh:A.handled=none)(I:UH)(z:Str)(t:Tok):Walks P w A I [I] [I] z.cps.size (SignAt z) (λi h=>h.IsStrIter I (VX z) z t i):=by
 unfold VX;split
 ·exact Walks.strAscii hh I z t
 ·exact Walks.strWide hh I z t
theorem HX{P:US}{w:UU}{K:NG}{tg:UO}(it:UH)(z:Str)(t:Tok):p9 P w K tg (v7 z) [it] it (λi h=>h.IsStrIter it (VX z) z t i/\i<=z.cps.size) where
 mem:=UC
 obj:=λi h st b hb=>by
  have e:b=it:=by simpa using hb
  subst e;obtain⟨⟨o,e,c,d⟩,_⟩:=st;exact⟨o,e,λv z=>by rw [d] at z;cases z⟩
 keep:=λi h h' st k=>by
  obtain⟨⟨o,e,c,d⟩,l⟩:=st;exact⟨⟨o,k it UC o e,c,d⟩,l⟩
 item:=by
  intro X hP hw hK hc i Wt s σ H E I hf st hg;subst hP hw hK;obtain⟨f0,f1,f2,f3,f4,f5⟩:=hf it UC;have W:=Cc (P:=X.prog) (w:=X.w) (I.ok.hd hc) it z t;refine W.item i s _ _ hg st.1 λv h' tk hv st' kk=>?_;obtain⟨c,u,hc',rfl⟩:=hv;have I1:ag X Wt σ H {s with heap:=h',toks:=tk}:=I.turned (λb o hb e=>kk b o (by simpa using hb) e) f0 f1 f3 f4 f5;obtain⟨o,e,cc,d⟩:=id st';exact⟨_,rfl,sL (s:={s with heap:=h',toks:=tk}) e cc d (HW z) ⟨.str ⟨#[c]⟩,H,I1,⟨u,rfl⟩,⟨rfl,c,hc',rfl⟩,⟨st',hg⟩,λb hb=>(hf b hb).1⟩⟩
 done:=by
  intro X hP hw hK hc i Wt s σ H E I hf st hg;subst hP hw hK;obtain⟨f0,f1,f2,f3,f4,f5⟩:=hf it UC;have W:=Cc (P:=X.prog) (w:=X.w) (I.ok.hd hc) it z t;have e:i=z.cps.size:=Nat.le_antisymm st.2 hg;subst e;exact W.done s _ _ st.1 λh' tk eb=>⟨rfl,I.turned (λb o hb e=>eb b o (by simpa using hb) e) f0 f1 f3 f4 f5⟩
 self:=λA i s Q E st h=>by
  obtain⟨st,_⟩:=st
  revert st
  unfold VX;split
  ·exact λst=>wpAny_pyIter_striter_ascii st h
  ·exact λst=>wpAny_pyIter_striter_wide st h
def HY(tl:TE):TI:=λσ H R=>tl σ H λx H1=>∃z,x= .str z/\R (v7 z) H1
theorem HZ{X:Cx}{tg l:UO}{tl:TE}(hl:PE X l tl):PI X tg l (HY tl):=by
 intro Wt s σ H R I h;refine ax (hl Wt s σ H _ I h) λv s1 ⟨x,H1,I1,r1,q1⟩=>?_;obtain⟨z,e,q⟩:=q1;subst e;obtain⟨t,rfl⟩:=r1;refine wpAny_pyIter_strU ?_;refine⟨s1.heap.objs.size,[s1.heap.objs.size],_,_,H1,rfl,I1.kept (t':=s1.toks) λb o e=>NJ _ e,HX _ z t,⟨⟨_,N2 _ rfl,rfl,rfl⟩,PR _⟩,λb hb=>?_,q⟩;have e:b=s1.heap.objs.size:=by simpa using hb
 subst e;exact I1.fpOk (NT _) (I1.hok.fresh (NT _))
def qo(z:Str):List UD:=z.cps.toList.map λc=>.str ⟨#[c]⟩
theorem k6.str{z:Str}:k6 (v7 z) (λ_=>True) (z.cps.toList.map λc=>V.str ⟨#[c]⟩):=by
 refine⟨λi H' s hi=>(by simpa using hi:i < z.cps.size),λi H' x H'' s hi y=>⟨y.1,?_⟩,λi H' s hi=>(by simpa using hi:z.cps.size<=i)⟩;obtain⟨_,c,hc,rfl⟩:=y;simp [hc]
theorem aq.signs{K:NG}{H:Hp}{O:Ex}:∀(l:List Nat),aq K H O (l.map λc=>V.str ⟨#[c]⟩) (l.map λc=>NH ⟨#[c]⟩)
 | []=>.nil
 | n::r=>.cons (.str _) (aq.signs r)
section
variable {X:Cx} {H0:Hp} {O0:Ex}
def eD(t:DT)(g:DG)(tc:DB)(te:DT)(k:Nat)(fr:List Nat):DA:=λδ Q=>t δ λd=>∃z,d= .str z/\z.length<=UN/\mx g tc te (bg k fr δ) (qo z) Q
def eF(ta:DA)(g:DG)(tc:DB)(te:DT)(k:Nat)(fr:List Nat):DA:=λδ Q=>ta δ λds=>∃i j:Int,ds=[.int i,.int j]/\-(2 ^ 62)<=i/\j - i < UN/\i < 2 ^ 62/\-(2 ^ 62)<=j/\j < 2 ^ 62/\mx g tc te (bg k fr δ) (kR i (j - i).toNat) Q
section
variable {tg iter elt:UO} {ifs:List UO} {scope:Vc} {N':List Str} {k:Nat} {fr:List Nat} {g:TG} {dg:DG} {t:DT} {ta:DA} {tc:DB} {te:DT} {pos p ps:Pos}
theorem tM(hc:X.calm=true)(S:cK X.env.scope X.N N' k fr scope)(hi:DF X H0 O0 iter t)(gd:GD X.K g dg)(hk:oE g k)(hfr:fr.Nodup)
 (hg:∀fp C s H,PG (fx X scope N' fp C s H) tg g)(hf:∀fp C s H,mr (fx X scope N' fp C s H) ifs (fy X.K H0 O0 tc))(he:∀fp C s H,PE (fx X scope N' fp C s H) elt (up X.K H0 O0 te))
 (hs:∀x,U6 iter X.env x=pure x:=by intro _;rfl):FE X H0 O0 (.ListComp elt [⟨tg,iter,ifs,0⟩] scope pos) (eD t dg tc te k fr):=
 (pj hc S (HZ hi) hg hf he hs).imp λσ H Q uu63=>by obtain⟨O,δ,Qd,w,q,kk⟩:=uu63;exact⟨O,δ,_,w,q,λd v H1 uu64 s1 r1=>by
  obtain⟨z,e,hz,q1⟩:=uu64;subst e;cases r1.str;have hz':(z.cps.toList.map λc=>V.str ⟨#[c]⟩).length<=UN:=by rw [NQ,NY];exact hz
  exact⟨z,rfl,λD hD=>rM (P:=λ_=>True) k6.str gd hfr (λv _ H' R h=>hk fr σ v H' R h) (λ_ _ _ z=>z) (λ_ _ _ z=>z) (λ_ _ _ _=>trivial) (aq.signs _) (w.mono s1) hz' q1 (λds us p H' z s' hp r'=>kk ds us p H' z (s1.trans s') hp r') D hD⟩⟩
theorem v9(hc:X.calm=true){a b:UO}(S:cK X.env.scope X.N N' k fr scope)(hgl:Gl X "range")(hm:X.mg "range"=none)(ha:PA X [a,b] (me X.K H0 O0 ta))(gd:GD X.K g dg)(hk:oE g k)(hfr:fr.Nodup)
 (hg:∀fp C s H,PG (fx X scope N' fp C s H) tg g)(hf:∀fp C s H,mr (fx X scope N' fp C s H) ifs (fy X.K H0 O0 tc))(he:∀fp C s H,PE (fx X scope N' fp C s H) elt (up X.K H0 O0 te))
 (hst:UM [a,b] X.env=[(false,eval a X.env),(false,eval b X.env)]:=by rfl)(hst2:UM [b] X.env=[(false,eval b X.env)]:=by rfl)(hs:∀x,U6 (.Call (.Name "range" p) [a,b] [] ps) X.env x=pure x:=by intro _;rfl):
 FE X H0 O0 (.ListComp elt [⟨tg,(.Call (.Name "range" p) [a,b] [] ps),ifs,0⟩] scope pos) (eF ta dg tc te k fr):=
 (pj hc S (Bb hgl hm ha hst hst2) hg hf he hs).imp λσ H Q uu65=>by obtain⟨O,δ,Qd,w,q,kk⟩:=uu65;exact⟨O,δ,_,w,q,λds vs H1 uu66 s1 r1=>by
  obtain⟨i,j,e,b1,b2,b3,b4,b5,q1⟩:=uu66;subst e;cases r1 with
  | cons r1 r2=>
   cases r2 with
   | cons r2 r3=>
    cases r3;cases r1.int;cases r2.int;exact⟨i,j,rfl,⟨b1,b3,b4,b5⟩,λD hD=>rM (P:=λ_=>True) k6.rng gd hfr (λv _ H' R h=>hk fr σ v H' R h) (λ_ _ _ z=>z) (λ_ _ _ z=>z) (λ_ _ _ _=>trivial) (aq.rng _) (w.mono s1) (by rw [NQ,QY];omega) q1 (λds us p H' z s' hp r'=>kk ds us p H' z (s1.trans s') hp r') D hD⟩⟩
end
def wj(K:NG)(neg:Bool):R2:=λx y H Q=>∃O dx ds dy,Sh K H O x dx/\Sh K H O y dy/\(dy= .list ds\/dy= .tuple ds)/\bx dx/\Py ds=true/\Q (.bl (if neg then !(ds.any λd=>NR d dx) else ds.any λd=>NR d dx)) H
theorem tN{A:UX}{k:Nat}{xs:List UD}{d:UD}(hd:bx d)(hr:bH k A):A.units+1+min (QR xs) d.depth < cLine:=by
 have:=SeqAt.depth_of_shaped hd;have h1:min (QR xs) d.depth<=d.depth:=TC _ _;have:=hr.un;omega
theorem pG{k:Nat}(hr:bH k X.A):bu X (UY .In) (wj X.K false):=by
 intro Wt s σ H x y v u Q I rx ry h;obtain⟨O,dx,ds,dy,hx,hy,e,sx,sy,q⟩:=h;obtain⟨as,ra⟩:=mJ I hx.all (Po sx) rx;rcases e with e | e <;> subst e
 ·obtain⟨bs,rb⟩:=mJ I hy.all (by simpa [Pc] using sy) ry;exact SeqAt.in_list_reads rb ra sy (Po sx) (tN sx hr) (bD I q rfl)
 ·obtain⟨bs,rb⟩:=mJ I hy.all (by simpa [Pc] using sy) ry;exact SeqAt.in_tuple_reads rb ra sy (Po sx) (tN sx hr) (bD I q rfl)
theorem wk{k:Nat}(hr:bH k X.A):bu X (UY .NotIn) (wj X.K true):=by
 intro Wt s σ H x y v u Q I rx ry h;obtain⟨O,dx,ds,dy,hx,hy,e,sx,sy,q⟩:=h;obtain⟨as,ra⟩:=mJ I hx.all (Po sx) rx;rcases e with e | e <;> subst e
 ·obtain⟨bs,rb⟩:=mJ I hy.all (by simpa [Pc] using sy) ry;exact SeqAt.notIn_list_reads rb ra sy (Po sx) (tN sx hr) (bD I q rfl)
 ·obtain⟨bs,rb⟩:=mJ I hy.all (by simpa [Pc] using sy) ry;exact SeqAt.notIn_tuple_reads rb ra sy (Po sx) (tN sx hr) (bD I q rfl)
def eG(neg:Bool):UD->UD->(UD->Prop)->Prop:=λx y Q=>∃ds,(y= .list ds\/y= .tuple ds)/\bx x/\Py ds=true/\Q (.bool (if neg then !(ds.any λd=>NR d x) else ds.any λd=>NR d x))
theorem ng{K:NG}{neg:Bool}:cz K (wj K neg) (eG neg):=λH O x y dx dy Qd R _ hx hy uu67 k=>by obtain⟨ds,e,a,b,q⟩:=uu67;exact⟨O,dx,ds,dy,hx,hy,e,a,b,k _ _ H q (ao.refl _) (.bl _)⟩
def eJ:List UD->(UD->Prop)->Prop:=λds Q=>∃z:Str,ds=[.str z]/\z.length<=UN/\Q (.int z.length)
theorem nh{K:NG}:mK K (λxs H Q=>∃z,xs=[.str z]/\z.length<=UN/\Q (.int z.length) H) eJ:=λH O xs ds Qd R _ hs uu68 k=>by
 obtain⟨z,e,hz,q⟩:=uu68;subst e;cases hs with
 | cons h r=>cases r;cases h.str;exact⟨z,rfl,hz,k _ _ H q (ao.refl _) (.int _)⟩
def eL:UD->UD->(UD->Prop)->Prop:=λx y Q=>∃i j:Str,x= .str i/\y= .str j/\Q (.bool (decide (i.cps.toList < j.cps.toList)))
theorem Ia{K:NG}:cz K (λx y H Q=>∃i j,x= .str i/\y= .str j/\Q (.bl (decide (i.cps.toList < j.cps.toList))) H) eL:=λH O x y dx dy Qd R _ hx hy uu69 k=>by
 obtain⟨i,j,e1,e2,q⟩:=uu69;subst e1 e2;cases hx.str;cases hy.str;exact⟨i,j,rfl,rfl,k _ _ H q (ao.refl _) (.bl _)⟩
def eM:UD->UD->(UD->Prop)->Prop:=λx y Q=>∃i j:Str,x= .str i/\y= .str j/\Q (.bool (!(Qc j i 0 j.length 1).isEmpty))
theorem tO{K:NG}:cz K (λx y H Q=>∃i j,x= .str i/\y= .str j/\Q (.bl (!(Qc j i 0 j.length 1).isEmpty)) H) eM:=λH O x y dx dy Qd R _ hx hy uu70 k=>by
 obtain⟨i,j,e1,e2,q⟩:=uu70;subst e1 e2;cases hx.str;cases hy.str;exact⟨i,j,rfl,rfl,k _ _ H q (ao.refl _) (.bl _)⟩
theorem Ib{prog:US}{w:UU}{A:UX}{E:UE->UI->Prop}{s:UI}{t sl:UH}{items:Array UE}{vl vu:UE}{lo hi:Option Int}{Q:UE->UI->Prop}(ht:IsTup s.heap t items)(hs:s.heap.IsSliceOf sl vl vu .none)(pl:IsPart vl lo)(pu:IsPart vu hi)
 (hw:HT.sIx items.size 0 lo=0/\HT.sIx items.size items.size hi=items.size)(h:Q (.ref t) s):UK (UL prog w) A (V5 (.ref t) (.ref sl)) Q E s:=by
 obtain⟨os,hos,hcs,hds⟩:=id hs;have hTs:s.TypeIs (.ref sl) "slice":=⟨os,hos,hcs⟩;unfold V5
 try with_reducible refine U8 ?_
 first | refine UG (UJ ?_) | skip
 refine UG (wpAny_sequenceKey ht.typeIs Ce ?_);refine UG (U1 (name:=NF "__getitem__") ht.typeIs Qn
  (U4 Qn ht.typeIs PyProof.Rows.entry_tuple_getitem ?_ (PyProof.Rows.args_tuple_getitem _ _)))
 show UK _ _ (R0 (.ref t) >>=_) _ _ s;refine UG (tupleItemsOf_ ht ?_);refine UG (V9 hTs ?_);rw [UA Ce];refine UG (HT.sliceApplied_gen hs pl pu ?_);show UK _ _ (if (((HT.sIx items.size 0 lo:Nat):Int)==0 && (1:Int)==1 && (HT.sIx items.size items.size hi - HT.sIx items.size 0 lo)==items.size)=true then _ else _) _ _ s;rw [UA (by rw [hw.1,hw.2];simp)];unfold Builtin.Tuple.tupleIsExact;refine UG (UG (V9 ht.typeIs (UJ ?_)));rw [UA Ce];exact UG (VJ (UJ ⟨_,rfl,UJ h⟩))
def Ic(K:NG):V->Option Int->Option Int->Hp->VK->Prop:=λx lo hi H Q=>∃a xs,x= .ref a/\aX K H a xs/\
 ((HT.sIx xs.length 0 lo=0/\HT.sIx xs.length xs.length hi=xs.length)->Q x H)/\(¬(HT.sIx xs.length 0 lo=0/\HT.sIx xs.length xs.length hi=xs.length)->∀p,H p=none->Q (.ref p) (ak H p (.tup (nO xs lo hi))))
theorem Ie:rC X (Ic X.K):=by
 intro Wt s σ H x v vl vu lo hi sl Q I rx hs pl pu h;obtain⟨a,xs,rfl,hx,q1,q2⟩:=h;by_cases hw:HT.sIx xs.length 0 lo=0/\HT.sIx xs.length xs.length hi=xs.length
 ·cases rx;obtain⟨its,r,ht,hz⟩:=I.tuple hx;have hlen:its.toArray.size=xs.length:=by rw [Ol];exact r.length.symm
  refine⟨"tuple",_,Qn.lookup,ht.typeIs,?_⟩;exact Ib ht hs pl pu (by rw [hlen];exact hw) ⟨.ref a,H,I,rfl,q1 hw⟩
 ·exact Gk Wt s σ H _ v vl vu lo hi sl Q I rx hs pl pu ⟨a,xs,rfl,hx,hw,q2 hw⟩
theorem Ig{xs:List UD}{l u:Option Int}(h:HT.sIx xs.length 0 l=0/\HT.sIx xs.length xs.length u=xs.length):bw xs l u=xs:=by
 unfold bw;rw [h.1,h.2];simp
def eN(t:DT)(tl th:DO):DT:=λδ Q=>t δ λd=>tl δ λl=>th δ λu=>∃xs,d= .tuple xs/\Q (.tuple (bw xs l u))
theorem wm{e:UO}{lo hi:Option UO}{t:DT}{tl th:DO}{pos p2:Pos}(h:DF X H0 O0 e t)(hl:PO X lo (nU X.K H0 O0 tl))(hu:PO X hi (nU X.K H0 O0 th)):DE X H0 O0 (.Subscript e (.Slice lo hi none p2) pos) (eN t tl th):=
 (vH Ie h hl hu).imp λσ H Q ⟨O,δ,Qd,w,q,k⟩=>⟨O,δ,_,w,q,λd v H1 q1 s1 r1=>⟨O,δ,_,w.mono s1,q1,λl H2 q2 s2=>⟨O,δ,_,w.mono (s1.trans s2),q2,λu H3 uu72 s3=>by
  obtain⟨xs,e,q3⟩:=uu72;subst e;have r3:=r1.mono (s2.trans s3);have r4:=r3;obtain⟨a,vs,rfl,h1,d1⟩:=r4.tup;refine⟨a,vs,rfl,h1,λhw=>?_,λ_ p hp=>k _ _ _ q3 (s1.trans (s2.trans (s3.trans (ao.new hp)))) (.tup (.inl bh) (tu w (s1.trans (s2.trans s3)) hp) ((d1.cut l u).mono (ao.new hp)))⟩;rw [d1.length] at hw;rw [Ig hw] at q3;cases r3 with
  | dt r3=>exact k _ _ _ q3 (s1.trans (s2.trans s3)) r3⟩⟩⟩
def lD(a b:Str):Bool:=decide (a.cps.toList<=b.cps.toList)
def kL(l:List Str):List Str:=l.mergeSort lD
theorem Cd(a b c:Str)(h:lD a b=true)(h':lD b c=true):lD a c=true:=
 decide_eq_true (List.le_trans (of_decide_eq_true h) (of_decide_eq_true h'))
theorem Ih(a b:Str):(lD a b || lD b a)=true:=by
 rcases List.le_total a.cps.toList b.cps.toList with h | h
 ·unfold lD;rw [decide_eq_true h];rfl
 ·unfold lD;rw [decide_eq_true h,Sg]
theorem Ii{a b:Str}(h:a.cps.toList=b.cps.toList):a=b:=by
 cases a;cases b;congr 1;exact TV h
theorem Cf{a b:Str}(h:lD a b=true)(h':lD b a=true):a=b:=Ii (List.le_antisymm (of_decide_eq_true h) (of_decide_eq_true h'))
theorem tP(l:List Str):(kL l).Perm l:=List.mergeSort_perm l lD
theorem Cg(l:List Str):(kL l).Pairwise λa b=>lD a b=true:=List.pairwise_mergeSort Cd Ih l
theorem wq{l m:List Str}(h:m.Perm l)(p:m.Pairwise λa b=>lD a b=true):m=kL l:=
 List.Perm.eq_of_pairwise (λa b _ _ x y=>Cf x y) p (Cg l) (h.trans (tP l).symm)
theorem Ci:∀(p:Str)(l:List Str),risingS p l=true->(p::l).Pairwise λa b=>lD a b=true
 | p,[],_=>by simp
 | p,x::r,h=>by
  rw [risingS,Oh,N0,ltCps_eq,decide_eq_false_iff_not] at h;have h1:lD p x=true:=decide_eq_true (Up.mp h.1);have h2:=Ci x r h.2;rw [QS];refine⟨λy hy=>?_,h2⟩;rcases NN.mp hy with z | z
  ·rw [z];exact h1
  ·exact Cd p x y h1 ((QS.mp h2).1 y z)
theorem Cj:∀(l:List Str),sortedS l=true->l.Pairwise λa b=>lD a b=true
 | [],_=>.nil
 | x::r,h=>Ci x r h
theorem wt:∀{ys:List Str}{us:List UE},aG (ys.map V.str) us->Va us ys:=by
 intro ys
 induction ys with
 | nil=>intro us rv;cases rv;exact .nil
 | cons y ys ih=>
  intro us rv;rw [NM] at rv;cases rv with
  | cons r1 r2=>obtain⟨t,rfl⟩:=r1;exact .cons y t (ih r2)
theorem wu:∀{ys:List Str}{us:List UE},Va us ys->aG (ys.map V.str) us
 | _,_,.nil=>.nil
 | _,_,.cons y t r=>.cons ⟨t,rfl⟩ (wu r)
theorem Ij:kq X (.builtin "sorted") (λxs H Q=>∃p ss,xs=[.ref p]/\bj X.K H p (ss.map V.str)/\ss.length < 64/\∀l,H l=none->Q (.ref l) (ak H l (.lst ((kL ss).map V.str)))):=by
 intro Wt s σ H xs us Q I r h;obtain⟨p,ss,rfl,hq,h64,q⟩:=h;obtain⟨u,rfl,rx⟩:=kY r;cases rx;obtain⟨its,rv,pl,hz⟩:=I.list hq;have hlen:=rv.length;rw [NQ] at hlen;refine sorted_strs pl.isList (wt rv) Uy λout ss' a1 a2 a3=>?_;obtain⟨e,he⟩:=sortedAll_at s.heap its out;have es:ss'=kL ss:=wq a2 (Cj _ a3);subst es;have hl2:(kL ss).length=ss.length:=a2.length_eq;refine⟨.ref _,_,I.laid (t':=s.toks) (o:= .lst ((kL ss).map V.str)) (λb ob q=>sortedAll_old q) (Q7 _) ?_,rfl,q _ (I.hok.fresh (Q7 _))⟩;refine⟨by rw [NQ,hl2];exact Oz (Rc h64) Ce,out.toList,e,wu a1,?_⟩;rw [he]
theorem aq.strs{K:NG}{H:Hp}{O:Ex}:∀{ss:List Str}{vs:List V},aq K H O vs (ss.map NH)->vs=ss.map V.str
 | [],_,r=>by rw [Od] at r;cases r;rfl
 | b::bs,_,r=>by
  rw [NM] at r;cases r with
  | cons h r=>cases h;rw [NM,aq.strs r]
theorem aq.ofStrs{K:NG}{H:Hp}{O:Ex}:∀(ss:List Str),aq K H O (ss.map V.str) (ss.map NH)
 | []=>.nil
 | s::r=>.cons (.str s) (aq.ofStrs r)
def eO(t:DA):DA:=λδ Q=>t δ λds=>∃ss:List Str,ds=[.list (ss.map .str)]/\ss.length < 64/\Q ((kL ss).map .str)
theorem Ik{a:UO}{t:DA}{np p:Pos}(hg:Gl X "sorted")(hm:X.mg "sorted"=none)(hv:U0 "sorted"=some (.builtin "sorted"))(ha:PA X [a] (me X.K H0 O0 t))(he:UM [a] X.env=(false,eval a X.env)::UM [] X.env:=by rfl)(hpl:(U3 p (UM [] X.env)).any (·.1)=false:=by rfl):FE X H0 O0 (.Call (.Name "sorted" np) [a] [] p) (eO t):=
 (aT Ij hg hm hv ha (he:=he) (hpl:=hpl)).imp λσ H Q uu73=>by obtain⟨O,δ,Qd,w,q,k⟩:=uu73;exact⟨O,δ,_,w,q,λds vs H1 uu74 s1 r1=>by
  obtain⟨ss,e,h64,q1⟩:=uu74;subst e;cases r1 with
  | cons h r=>
   cases r;obtain⟨a,us,rfl,h1,d1⟩:=h.lst;cases d1.strs;exact⟨a,ss,rfl,h1,h64,λl hl=>k _ _ _ _ q1 s1 hl (aq.ofStrs _)⟩⟩
end
end L2
namespace PySem.SeqAt
open AutoSeq1 (wpAny_loadPart')
open MeetsSeq
theorem Ck(l:UH)(es:Array Wi)(n:Nat)(dd:Option UH)(sl:Array (Option UE))(b:Str)(u:Tok):
 Meets (Builtin.«dict.__eq__» ⟨[.ref l,.str b u],[]⟩) (λ_ R s=>s.heap.get? l=some {cls:= .type "dict",dict:=dd,data:= .dict es n,slots:=sl}/\R (.ok (.ret .notImplemented)) s):=
 .of_wp λprog w A R s h=>by obtain⟨hp,g,d,tk,os⟩:=s;obtain⟨hl,h⟩:=h;have f1:=F.sub_str_dict;wp_walk using Vk hl;exact⟨_,rfl,h⟩
theorem Cm(b:Str)(u:Tok)(l:UH)(c:UE)(es:Array Wi)(n:Nat)(dd:Option UH)(sl:Array (Option UE)):
 Meets (Builtin.«str.__eq__» ⟨[.str b u,.ref l],[]⟩) (λ_ R s=>s.heap.get? l=some {cls:=c,dict:=dd,data:= .dict es n,slots:=sl}/\R (.ok (.ret .notImplemented)) s):=
 .of_wp λprog w A R s h=>by obtain⟨hp,g,d,tk,os⟩:=s;obtain⟨hl,h⟩:=h;wp_walk using Vk hl,wpAny_load hl;exact⟨_,rfl,h⟩
section
variable {A:UX} {s:UI}
theorem RcAt.dict_str{l:UH}{es:Array Wi}{n:Nat}{o:Obj}(b:Str)(u:Tok)(ho:s.heap.get? l=some o)(hc:o.cls= .type "dict")(hd:o.data= .dict es n)(hu:A.units < cLine):RcAt A s (.ref l) (.str b u) false:=λprog w E Q h=>by
 obtain⟨cls,dd,data,sl⟩:=o;simp only at hc hd;subst hc hd;exact rc_eq_decline_or (k:=false) ⟨_,ho,rfl⟩ (Vw s b u) Ce F.sub_str_dict F.slot_dict_eq F.slot_str_eq_refl
  (λ_ hq=>Vx F.slot_dict_eq ⟨_,ho,rfl⟩ F.entry_dict_eq (F.args_dict_eq_2 _ _) (Ck l es n dd sl b u) ⟨ho,hq⟩)
  (λ_ hq=>Vx F.slot_str_eq_refl (Vw s b u) F.entry_str_eq (F.args_str_eq_2 _ _) (Cm b u l (.type "dict") es n dd sl) ⟨ho,hq⟩)
  (λ_ hq=>VY (rfl:isSame (.ref l) (.str b u)=pure false) hq) (.inr hu) h
theorem RcAt.str_dict{l:UH}{es:Array Wi}{n:Nat}{o:Obj}(b:Str)(u:Tok)(ho:s.heap.get? l=some o)(hc:o.cls= .type "dict")(hd:o.data= .dict es n)(hu:A.units < cLine):RcAt A s (.str b u) (.ref l) false:=λprog w E Q h=>by
 obtain⟨cls,dd,data,sl⟩:=o;simp only at hc hd;subst hc hd;exact rc_eq_decline_or (k:=false) (Vw s b u) ⟨_,ho,rfl⟩ Ce F.sub_dict_str F.slot_str_eq F.slot_dict_eq_refl
  (λ_ hq=>Vx F.slot_str_eq (Vw s b u) F.entry_str_eq (F.args_str_eq_2 _ _) (Cm b u l (.type "dict") es n dd sl) ⟨ho,hq⟩)
  (λ_ hq=>Vx F.slot_dict_eq_refl ⟨_,ho,rfl⟩ F.entry_dict_eq (F.args_dict_eq_2 _ _) (Ck l es n dd sl b u) ⟨ho,hq⟩)
  (λ_ hq=>VY (rfl:isSame (.str b u) (.ref l)=pure false) hq) (.inr hu) h
theorem EqAt.str_dict{l:UH}{es:Array Wi}{n:Nat}{o:Obj}(b:Str)(u:Tok)(ho:s.heap.get? l=some o)(hc:o.cls= .type "dict")(hd:o.data= .dict es n)(hu:A.units < cLine):EqAt A s (.str b u) (.ref l) false:=λprog w E Q h=>by
 unfold eqBool;refine U8 ?_;refine Wa (λhab=>absurd (eq_of_beq hab) nofun) (λ_=>?_);exact UG (RcAt.str_dict b u ho hc hd hu prog w E _ (U5 h))
end
end PySem.SeqAt
namespace L2
open PySem PySem.Spec PyProof.Rows PySem.W
section
variable {X:Cx} {Wt:List (UH×Obj)} {σ:St} {H:Hp} {s:UI}
def kz:UD->Bool
 | .dict [(.none,_)]=>false
 | _=>true
theorem Il(I:ag X Wt σ H s){O:Ex}{v:V}{d:UD}{u:UE}(h:Dt X.K H O v d)(ht:kz d=true)(r:aD v u)(y:Str)(t:Tok)(hu:X.A.units < cLine):SeqAt.RcAt X.A s u (.str y t) (NR d (.str y)):=by
 cases h with
 | non=>cases (show u=P9 from r);simpa [NR] using SeqAt.RcAt.none_str y t
 | bl b=>cases (show u=QC b from r);simpa [NR] using SeqAt.RcAt.bool_str b y t
 | int i=>obtain⟨k,e⟩:=(show ∃t,u=RG i t from r);cases e;simpa [NR] using SeqAt.RcAt.int_str i k y t
 | str x=>obtain⟨k,e⟩:=(show ∃t,u=Q4 x t from r);cases e;simpa [NR] using SeqAt.RcAt.str_str x k y t
 | @tup a xs ds h n rr=>
  cases (show u=Ow a from r);obtain⟨its,rv,p,_⟩:=I.tuple (.inl h);simpa [NR] using SS y t (show s.heap.IsTuple a its.toArray from p) hu
 | @tupK a xs ds h rr=>
  cases (show u=Ow a from r);obtain⟨its,rv,p,_⟩:=I.tuple h.of0;simpa [NR] using SS y t (show s.heap.IsTuple a its.toArray from p) hu
 | @lst a xs ds h n rr=>
  cases (show u=Ow a from r);obtain⟨its,rv,p,_⟩:=I.list (.inl h);simpa [NR] using SeqAt.RcAt.list_str y t p.isList hu
 | pack h n=>exact absurd ht (by simp [kz])
 | purse h n=>exact absurd ht (by simp [kz])
 | scr h r=>exact absurd ht (by simp [kz])
 | obj h e n r=>exact absurd ht (by simp [kz])
 | @dct0 a h n=>
  cases (show u=Ow a from r);obtain⟨_,_,_,_,o,es,ep,e,c,dd,_⟩:=(show bE X.prog X.w H s.heap a (.dK []) from I.hok a _ h);simpa [NR] using SeqAt.RcAt.dict_str y t e c.1 dd hu
 | @dic a ob kv ks kp ds h e1 e2 n rr=>
  cases (show u=Ow a from r);obtain⟨_,_,_,_,o,es,ep,e,c,dd,_⟩:=(show bE X.prog X.w H s.heap a (.dK kv) from(I.hok a _ h).2);simpa [NR] using SeqAt.RcAt.dict_str y t e c.1 dd hu
theorem Im(I:ag X Wt σ H s){A:UX}{O:Ex}{v:V}{d:UD}{u:UE}(h:Dt X.K H O v d)(ht:kz d=true)(r:aD v u)(y:Str)(t:Tok)(hu:A.units < cLine):SeqAt.EqAt A s (.str y t) u (NR (.str y) d):=by
 cases h with
 | non=>cases (show u=P9 from r);simpa [NR] using SeqAt.EqAt.str_none y t
 | bl b=>cases (show u=QC b from r);simpa [NR] using SeqAt.EqAt.str_bool y t b
 | int i=>obtain⟨k,e⟩:=(show ∃t,u=RG i t from r);cases e;simpa [NR] using S8 y t i k
 | str x=>obtain⟨k,e⟩:=(show ∃t,u=Q4 x t from r);cases e;simpa [NR] using SeqAt.EqAt.str_str y t x k
 | @tup a xs ds h n rr=>
  cases (show u=Ow a from r);obtain⟨its,rv,p,_⟩:=I.tuple (.inl h);simpa [NR] using SU y t (show s.heap.IsTuple a its.toArray from p) hu
 | @tupK a xs ds h rr=>
  cases (show u=Ow a from r);obtain⟨its,rv,p,_⟩:=I.tuple h.of0;simpa [NR] using SU y t (show s.heap.IsTuple a its.toArray from p) hu
 | @lst a xs ds h n rr=>
  cases (show u=Ow a from r);obtain⟨its,rv,p,_⟩:=I.list (.inl h);simpa [NR] using SeqAt.EqAt.str_list y t p.isList hu
 | pack h n=>exact absurd ht (by simp [kz])
 | purse h n=>exact absurd ht (by simp [kz])
 | scr h r=>exact absurd ht (by simp [kz])
 | obj h e n r=>exact absurd ht (by simp [kz])
 | @dct0 a h n=>
  cases (show u=Ow a from r);obtain⟨_,_,_,_,o,es,ep,e,c,dd,_⟩:=(show bE X.prog X.w H s.heap a (.dK []) from I.hok a _ h);simpa [NR] using SeqAt.EqAt.str_dict y t e c.1 dd hu
 | @dic a ob kv ks kp ds h e1 e2 n rr=>
  cases (show u=Ow a from r);obtain⟨_,_,_,_,o,es,ep,e,c,dd,_⟩:=(show bE X.prog X.w H s.heap a (.dK kv) from(I.hok a _ h).2);simpa [NR] using SeqAt.EqAt.str_dict y t e c.1 dd hu
end
section
variable {X:Cx} {H0:Hp} {O0:Ex}
def Cn(K:NG):R2:=λx y H Q=>∃O dx z,Dt K H O x dx/\kz dx=true/\y= .str z/\Q (.bl (NR dx (.str z))) H
theorem ki{k:Nat}(hr:bH k X.A):bu X (UY .Eq) (Cn X.K):=by
 intro Wt s σ H x y v u Q I rx ry h;obtain⟨O,dx,z,hx,ht,rfl,q⟩:=h;obtain⟨t,rfl⟩:=ry;have hc:UY .Eq v (.str z t)=richCompare .Eq v (.str z t):=rfl;rw [hc];exact Il I hx ht rx z t hr.units0 X.prog X.w X.xe _ (bD I q rfl)
def bY:UD->UD->(UD->Prop)->Prop:=λx y Q=>∃z,y= .str z/\kz x=true/\Q (.bool (NR x (.str z)))
theorem kj{K:NG}:cz K (Cn K) bY:=λH O x y dx dy Qd R _ hx hy uu75 k=>by
 obtain⟨z,e,ht,q⟩:=uu75;subst e;cases hy.str;exact⟨_,dx,z,hx.all,ht,rfl,k _ _ H q (ao.refl _) (.bl _)⟩
theorem Io(dx:UD){its:List UE}{zs:List Str}(hS:Va its zs):its.any (λy=>NR (.str (strOf y)) dx)=zs.any λz=>NR (.str z) dx:=by
 induction hS with
 | nil=>rfl
 | cons y t r ih=>rw [OC,OC,ih];rfl
def Co(K:NG):R2:=λx y H Q=>∃(O:Ex)(dx:UD)(zs:List Str)(a:UH),Dt K H O x dx/\kz dx=true/\y= .ref a/\aX K H a (zs.map V.str)/\Q (.bl (zs.any λz=>NR (.str z) dx)) H
theorem pH{k:Nat}(hr:bH k X.A):bu X (UY .In) (Co X.K):=by
 intro Wt s σ H x y v u Q I rx ry h;obtain⟨O,dx,zs,a,hx,ht,rfl,ha,q⟩:=h;cases ry;obtain⟨its,rv,p,_⟩:=I.tuple ha;have hS:=wt rv;have hl:=Io dx hS;refine SeqAt.in_tupleAt (λy=>NR (.str (strOf y)) dx) (show s.heap.IsTuple a its.toArray from p) (λy hy=>?_) (by rw [List.any_toArray,hl];exact bD I q rfl);obtain⟨z,t,rfl⟩:=hS.all y (by simpa using hy);exact Im I hx ht rx z t (by show X.A.units+1 < cLine;have:=hr.un;omega)
def eQ:UD->UD->(UD->Prop)->Prop:=λx y Q=>∃zs:List Str,y= .tuple (zs.map .str)/\kz x=true/\Q (.bool (zs.any λz=>NR (.str z) x))
theorem pI{K:NG}:cz K (Co K) eQ:=λH O x y dx dy Qd R _ hx hy uu76 k=>by
 obtain⟨zs,e,ht,q⟩:=uu76;subst e;obtain⟨a,vs,rfl,hs,r⟩:=hy.tup;cases r.strs;exact⟨_,dx,zs,a,hx.all,ht,rfl,hs,k _ _ H q (ao.refl _) (.bl _)⟩
end
theorem bP{z:Int}{Q:UD->Prop}:vZ [lT,.int z] Q↔(0 < z/\z<=1000000/\∀i:Int,0<=i->i < z->Q (.int i)):=by
 constructor
 ·rintro⟨z',e,a,b,c⟩;simp only [NP,Ot,and_true,true_and] at e;subst e;exact⟨a,b,c⟩
 ·rintro⟨a,b,c⟩;exact⟨z,rfl,a,b,c⟩
def rR:UD->Bool | .str _=>true | _=>false
def Cp:UD->Bool | .int _=>true | .bool _=>true | _=>false
def rS:UD->Bool | .bool _=>true | _=>false
def oI:UD->Bool | .tuple _=>true | _=>false
theorem wz{K:NG}(d:UD):kitOne K (.type (qj d)) (.type "str")=some (rR d):=by cases d <;> rfl
theorem Ip{K:NG}(d:UD):kitOne K (.type (qj d)) (.type "int")=some (Cp d):=by cases d <;> rfl
theorem wA{K:NG}(d:UD):kitOne K (.type (qj d)) (.type "bool")=some (rS d):=by cases d <;> rfl
theorem tQ{K:NG}(d:UD):kitOne K (.type (qj d)) (.type "tuple")=some (oI d):=by cases d <;> rfl
mutual
def bo:UD->Bool
 | .dict []=>true
 | .dict (_::_)=>false
 | .str z=>decide (z.length<=1000)
 | .tuple l=>lO l
 | .list l=>lO l
 | .none=>true
 | .bool _=>true
 | .int _=>true
def lO:List UD->Bool
 | []=>true
 | d::r=>bo d && lO r
end
theorem qp{d:UD}(h:bo d=true):∀x,d≠ .dict [(.none,x)]:=by
 rintro x rfl;simp [bo] at h
theorem pJ{d:UD}(h:bo d=true):kz d=true:=by
 unfold kz;split
 ·simp [bo] at h
 ·rfl
theorem Cq:∀{l:List UD}{d:UD},lO l=true->d∈l->bo d=true
 | e::r,d,h,m=>by
  rw [lO,Oh] at h;rcases NN.mp m with z | z
  ·rw [z];exact h.1
  ·exact Cq h.2 z
theorem rT{l:List UD}(h:bo (.tuple l)=true):∀d∈l,bo d=true:=λd hd=>Cq (by simpa [bo] using h) hd
theorem Iq{z:Str}(h:bo (.str z)=true):z.length<=1000:=by simpa [bo] using h
def lq(zs:List Str)(d:UD):Bool:=zs.any λz=>NR (.str z) d
def qr:UD->Bool | .int _=>true | _=>false
def mz:UD->Bool | .int i=>decide (0<=i) && decide (i<=99999) | _=>false
def bZ:UD->Bool | .str z=>decide (1<=z.length) && decide (z.length<=8) && z.cps.toList.all (λc=>decide (c∈kS.cps.toList)) | _=>false
def lV:UD->Bool
 | .tuple [a]=>NR a (.str "coming")
 | .tuple [a,b]=>lq ["first","last"] a && bZ b
 | _=>false
def rV:UD->Bool | .int i=>decide (0<=i) && decide (i<=999) | _=>false
def qt(m u:UD):Bool:=rV m && lq ["days","months","years"] u
def lP:UD->Bool
 | .tuple [a,b]=>lq ["while","follow","leave"] a && bZ b
 | .tuple [a,b,c,d,e]=>lq ["keep","gone"] a && bZ b && (lV c && qt d e)
 | _=>false
def tR:UD->UD->Bool | .str a,.str b=>decide (a.cps.toList < b.cps.toList) | _,_=>false
def mN:List UD->Bool
 | a::b::r=>tR a b && mN (b::r)
 | _=>true
def oJ:UD->Bool | .tuple l=>decide (l.length<=4) && (l.all bZ && mN l) | _=>false
def mB:UD->Bool | .tuple [a,b]=>lq ["paper","kind"] a && bZ b | _=>false
def nW(w:UD)(ps:List UD):Bool:=
 if lq ["end","lift"] w then ps.length==0
 else if lq ["happens","leave"] w then(match ps with | [a]=>bZ a | _=>false)
 else if NR w (.str "rule") then(match ps with | [a]=>lP a | _=>false)
 else if NR w (.str "paper") then(match ps with | [a,b]=>bZ a && oJ b | _=>false)
 else if NR w (.str "hold") then(match ps with | [a,b]=>mB a && rS b | _=>false)
 else false
def lr:UD->Bool
 | .tuple (w::n::x::r)=>mz n && bZ x && nW w r
 | _=>false
structure Nm (z:Str):Prop where
 lo:1<=z.length
 hi:z.length<=8
 ab:∀c∈z.cps.toList,c∈kS.cps.toList
theorem Nm.is{z:Str}(h:Nm z):bZ (.str z)=true:=by
 simp only [bZ,decide_eq_true h.lo,decide_eq_true h.hi,Ob,Pf,decide_eq_true_eq];exact h.ab
theorem mC{d:UD}(h:bZ d=true):∃z,d= .str z/\Nm z:=by
 cases d with
 | str z=>
  simp only [bZ,Oh,decide_eq_true_eq,Pf] at h;exact⟨z,rfl,h.1.1,h.1.2,h.2⟩
 | _=>simp [bZ] at h
theorem Nm.ok{z:Str}(h:Nm z):Pb z=true:=mZ.mpr λc hc=>rP c (h.ab c hc)
theorem pK{g:DG}{te:DT}{δ0:Dl}{xs:List UD}{Q:List UD->Prop}(f:UD->UD)
 (h:∀x∈xs,∀R:UD->Prop,R (f x)->g x δ0 λδ2=>te δ2 R)(q:Q (xs.map f)):mx g bU te δ0 xs Q:=by
 refine⟨λi acc=>acc=(xs.take i).map f,rfl,?_,?_⟩
 ·rintro i x acc hx rfl;have:=h x (PK hx) (λy=>(xs.take i).map f++[y]=(xs.take (i+1)).map f) (by rw [T4,hx];simp);simpa [bU] using this
 ·rintro acc rfl;rw [Pn (NT _)];exact q
theorem Ir{g:DG}{te:DT}{δ0:Dl}{xs:List UD}{Q:List UD->Prop}(P:UD->Prop)
 (h:∀x∈xs,∀R:UD->Prop,(∀y,P y->R y)->g x δ0 λδ2=>te δ2 R)(q:∀ys,ys.length=xs.length->(∀y∈ys,P y)->Q ys):mx g bU te δ0 xs Q:=by
 refine⟨λi acc=>acc.length=i/\∀y∈acc,P y,⟨rfl,UC⟩,?_,?_⟩
 ·rintro i x acc hx ⟨hl,ha⟩;have:=h x (PK hx) (λy=>(acc++[y]).length=i+1/\∀z∈acc++[y],P z) (λy hy=>⟨by simp [hl],λz hz=>by
   rcases P4.mp hz with m | m
   ·exact ha z m
   ·rw [PL] at m;rw [m];exact hy⟩)
  simpa [bU] using this
 ·rintro acc ⟨hl,ha⟩;exact q acc hl ha
theorem pL{g:DG}{te:DT}{δ0:Dl}{xs:List UD}{p:Bool->Prop}{gg:List Bool->Bool}(f:UD->Bool)
 (h:∀x∈xs,∀R:UD->Prop,R (.bool (f x))->g x δ0 λδ2=>te δ2 R)(q:p (gg (xs.map f))):mx g bU te δ0 xs λds=>∃bs:List Bool,ds=bs.map RB/\p (gg bs):=
 pK (λx=>.bool (f x)) h ⟨xs.map f,by rw [Pt];rfl,q⟩
theorem fU{a:Str}{P:List Str->Prop}:(∃zs,[NH a]=Pe NH zs/\P zs)↔P [a]:=by
 refine⟨λ⟨zs,e,h⟩=>?_,λh=>⟨_,rfl,h⟩⟩
 match zs,e with
 | [x],e=>simp at e;rw [e];exact h
theorem fV{a b:Str}{P:List Str->Prop}:(∃zs,[NH a,NH b]=Pe NH zs/\P zs)↔P [a,b]:=by
 refine⟨λ⟨zs,e,h⟩=>?_,λh=>⟨_,rfl,h⟩⟩
 match zs,e with
 | [x,y],e=>simp at e;rw [e.1,e.2];exact h
theorem fW{a b c:Str}{P:List Str->Prop}:(∃zs,[NH a,NH b,NH c]=Pe NH zs/\P zs)↔P [a,b,c]:=by
 refine⟨λ⟨zs,e,h⟩=>?_,λh=>⟨_,rfl,h⟩⟩
 match zs,e with
 | [x,y,z],e=>simp at e;rw [e.1,e.2.1,e.2.2];exact h
theorem rW(d:UD):(∃l,d= .tuple l)\/(∀l,d≠ .tuple l):=by
 cases d <;> simp
theorem Cr{d:UD}(h:∀l,d≠ .tuple l):oI d=false:=by
 cases d with
 | tuple l=>exact absurd rfl (h l)
 | _=>rfl
def k7(d:UD)(n:Int):Bool:=match d with | .tuple l=>decide ((l.length:Int)=n) | _=>false
theorem wB{d:UD}(h:∀l,d≠ .tuple l)(n:Int):k7 d n=false:=by
 cases d with
 | tuple l=>exact absurd rfl (h l)
 | _=>rfl
theorem b0{x:Str}:kz (.str x)=true:=rfl
theorem fX{x:Int}:kz (.int x)=true:=rfl
theorem fY{x:Bool}:kz (.bool x)=true:=rfl
theorem fZ{x:List UD}:kz (.tuple x)=true:=rfl
theorem gb{x:List UD}:kz (.list x)=true:=rfl
theorem Iu(l u:Option Int)(n:Nat):RS l u 1 n=(PD (HT.sIx n n u - HT.sIx n 0 l)).map (HT.sIx n 0 l+·):=by
 unfold RS sliceRange;have c:∀(o:Option Int)(d:Nat),(match o with | none=>(d:Int) | some i=>max 0 (min (if i < 0 then i+(n:Int) else i) (n:Int)))=((HT.sIx n d o:Nat):Int):=by
  intro o d;cases o with
  | none=>rfl
  | some v=>
   show max 0 (min (if v < 0 then v+(n:Int) else v) (n:Int))=(((if v < 0 then(v+(n:Int)).toNat else min v.toNat n):Nat):Int);by_cases hv:v < 0
   ·rw [UA hv,UA hv];omega
   ·rw [Uz hv,Uz hv];omega
 have c0:=c l 0;have c1:=c u n;simp only [show(1:Int) > 0 by decide,if_true] at c0 c1⊢;simp only [Int.natCast_zero] at c0;have key:∀a b:Int,a=((HT.sIx n 0 l:Nat):Int)->b=((HT.sIx n n u:Nat):Int)->((PD (if a < b then(b - a+1 - 1)/ 1 else 0).toNat).map λ(k:Nat)=>(a+1*(k:Int)).toNat)=(PD (HT.sIx n n u - HT.sIx n 0 l)).map (HT.sIx n 0 l+·):=by
  intro a b ea eb;have e:(if a < b then(b - a+1 - 1)/ 1 else 0).toNat=HT.sIx n n u - HT.sIx n 0 l:=by
   rw [Ue];split <;> omega
  rw [e];refine RO λk _=>?_;show(a+1*(k:Int)).toNat=_;omega
 exact key _ _ c0 c1
def qu(xs:List Nat)(l u:Option Int):List Nat:=(xs.drop (HT.sIx xs.length 0 l)).take (HT.sIx xs.length xs.length u - HT.sIx xs.length 0 l)
theorem wC(x:Str)(l u:Option Int):(Txt.slice x l u).cps.toList=qu x.cps.toList l u:=by
 have hl:x.cps.toList.length=x.length:=by rw [NY];rfl
 unfold Txt.slice;rw [Iu,NQ,QY];unfold qu;rw [hl];split
 ·rename_i h;have h2:HT.sIx x.length x.length u - HT.sIx x.length 0 l=x.length:=by simpa using h
  have h3:HT.sIx x.length x.length u<=x.length:=HT.sIx_le _ _ (NT _) u;by_cases hz:x.length=0
  ·have:x.cps.toList=[]:=So.mp Uy;rw [this];simp
  ·have h4:HT.sIx x.length 0 l=0:=Uy
   rw [h2,h4,SI,Pn Uy]
 ·rw [pick_run]
theorem Iw{xs:List Nat}{i:Int}(h0:0<=i)(h1:i<=xs.length):qu xs none (some i)=xs.take i.toNat:=by
 unfold qu;rw [ph,oG h0 h1];simp
theorem Iy{xs:List Nat}{i:Int}(h0:0<=i)(h1:i<=xs.length):qu xs (some i) none=xs.drop i.toNat:=by
 unfold qu;rw [ph,oG h0 h1,Pn (by rw [Pu];exact NT _)]
theorem oK(x:Str):x.length=x.cps.toList.length:=by rw [NY];rfl
theorem Cs{z:Str}{d:UD}:NR (.str z) d=true↔d= .str z:=by
 cases d <;> simp [NR];exact⟨λh=>h.symm,λh=>h.symm⟩
theorem rX{z:Str}{d:UD}:NR d (.str z)=true↔d= .str z:=by rw [Cb];exact Cs
theorem lW{zs:List Str}{d:UD}:lq zs d=true↔∃z∈zs,d= .str z:=by
 unfold lq;simp only [List.any_eq_true,Cs]
def oM(a b:Str):Prop:=a.cps.toList < b.cps.toList
theorem Iz{a b c:Str}(h:oM a b)(h':oM b c):oM a c:=List.lt_trans h h'
inductive lX:UD->Prop
 | coming:lX (.tuple [.str "coming"])
 | first {h:Str}:Nm h->lX (.tuple [.str "first",.str h])
 | last {h:Str}:Nm h->lX (.tuple [.str "last",.str h])
def units:List Str:=["days","months","years"]
inductive mf:UD->Prop
 | kg {w k u:Str} {s:UD} {m:Int}:w∈(["keep","gone"]:List Str)->Nm k->lX s->0<=m->m<=999->u∈units->mf (.tuple [.str w,.str k,s,.int m,.str u])
 | wfl {w k:Str}:w∈(["while","follow","leave"]:List Str)->Nm k->mf (.tuple [.str w,.str k])
def kT(n:Int):Prop:=0<=n/\n<=99999
structure wD (ms:List Str):Prop where
 len:ms.length<=4
 nm:∀m∈ms,Nm m
 up:ms.Pairwise oM
inductive bL:UD->Prop
 | paper {n:Int} {x k:Str} {ms:List Str}:kT n->Nm x->Nm k->wD ms->bL (.tuple [.str "paper",.int n,.str x,.str k,.tuple (ms.map .str)])
 | two {w x y:Str} {n:Int}:w∈(["happens","leave"]:List Str)->kT n->Nm x->Nm y->bL (.tuple [.str w,.int n,.str x,.str y])
 | rule {n:Int} {x:Str} {p:UD}:kT n->Nm x->mf p->bL (.tuple [.str "rule",.int n,.str x,p])
 | one {w x:Str} {n:Int}:w∈(["end","lift"]:List Str)->kT n->Nm x->bL (.tuple [.str w,.int n,.str x])
 | hold {n:Int} {x g y:Str} {b:Bool}:kT n->Nm x->g∈(["paper","kind"]:List Str)->Nm y->bL (.tuple [.str "hold",.int n,.str x,.tuple [.str g,.str y],.bool b])
theorem Ct{d:UD}:lV d=true↔lX d:=by
 constructor
 ·intro h;unfold lV at h;split at h
  ·rw [rX] at h;subst h;exact .coming
  ·rw [Oh,lW] at h;obtain⟨⟨z,hz,rfl⟩,hb⟩:=h;obtain⟨y,rfl,hy⟩:=mC hb;simp only [NN,NX,or_false] at hz;rcases hz with rfl | rfl
   ·exact .first hy
   ·exact .last hy
  ·cases h
 ·intro h;cases h with
  | coming=>unfold lV;rw [rX]
  | first hy=>simp only [lV,hy.is,N3];exact lW.mpr ⟨_,UC,rfl⟩
  | last hy=>simp only [lV,hy.is,N3];exact lW.mpr ⟨_,UC,rfl⟩
theorem Cu{m u:UD}:qt m u=true↔∃i z,m= .int i/\u= .str z/\0<=i/\i<=999/\z∈units:=by
 unfold qt;rw [Oh,lW];constructor
 ·rintro⟨h,z,hz,rfl⟩;cases m <;> simp [rV] at h;exact⟨_,z,rfl,rfl,h.1,h.2,hz⟩
 ·rintro⟨i,z,rfl,rfl,h0,h1,hz⟩;exact⟨by simp [rV,h0,h1],z,hz,rfl⟩
theorem Cv{d:UD}:lP d=true↔mf d:=by
 constructor
 ·intro h;unfold lP at h;split at h
  ·rw [Oh,lW] at h;obtain⟨⟨z,hz,rfl⟩,hb⟩:=h;obtain⟨y,rfl,hy⟩:=mC hb;exact .wfl hz hy
  ·rw [Oh,Oh,Oh,lW,Ct,Cu] at h;obtain⟨⟨⟨z,hz,rfl⟩,hb⟩,hs,i,u,rfl,rfl,h0,h1,hu⟩:=h;obtain⟨y,rfl,hy⟩:=mC hb;exact .kg hz hy hs h0 h1 hu
  ·cases h
 ·intro h;cases h with
  | kg hw hk hs h0 h1 hu=>
   simp only [lP,hk.is,Ct.mpr hs,Cu.mpr ⟨_,_,rfl,rfl,h0,h1,hu⟩,N3];exact lW.mpr ⟨_,hw,rfl⟩
  | wfl hw hk=>simp only [lP,hk.is,N3];exact lW.mpr ⟨_,hw,rfl⟩
theorem wF:∀{ms:List Str},mN (ms.map .str)=true↔ms.Pairwise oM
 | []=>by simp [mN]
 | [a]=>by simp [mN]
 | a::b::r=>by
  have ih:=wF (ms:=b::r);rw [NM,NM,mN,Oh,<-NM,ih];simp only [tR,decide_eq_true_eq];constructor
  ·rintro⟨h1,h2⟩;rw [QS];refine⟨λy hy=>?_,h2⟩;rcases NN.mp hy with z | z
   ·rw [z];exact h1
   ·exact Iz h1 ((QS.mp h2).1 y z)
  ·intro h;rw [QS] at h;exact⟨h.1 b UC,h.2⟩
theorem Cw:∀{l:List UD},l.all bZ=true->∃ms:List Str,l=ms.map .str/\∀m∈ms,Nm m
 | [],_=>⟨[],rfl,UC⟩
 | d::r,h=>by
  rw [OG,Oh] at h;obtain⟨z,rfl,hz⟩:=mC h.1;obtain⟨ms,rfl,hm⟩:=Cw h.2;exact⟨z::ms,rfl,λm hm'=>by
   rcases NN.mp hm' with e | e
   ·rw [e];exact hz
   ·exact hm m e⟩
theorem Cy{d:UD}:oJ d=true↔∃ms:List Str,d= .tuple (ms.map .str)/\wD ms:=by
 constructor
 ·intro h;unfold oJ at h;split at h
  ·rw [Oh,Oh,decide_eq_true_eq] at h;obtain⟨h4,ha,hr⟩:=h;obtain⟨ms,rfl,hm⟩:=Cw ha;exact⟨ms,rfl,by simpa using h4,hm,wF.mp hr⟩
  ·cases h
 ·rintro⟨ms,rfl,h⟩;simp only [oJ,NQ,decide_eq_true h.len,wF.mpr h.up,N3,Ob,QK,Pf];exact λm hm=>(h.nm m hm).is
theorem Cz{d:UD}:mB d=true↔∃g y,d= .tuple [.str g,.str y]/\g∈(["paper","kind"]:List Str)/\Nm y:=by
 constructor
 ·intro h;unfold mB at h;split at h
  ·rw [Oh,lW] at h;obtain⟨⟨z,hz,rfl⟩,hb⟩:=h;obtain⟨y,rfl,hy⟩:=mC hb;exact⟨z,y,rfl,hz,hy⟩
  ·cases h
 ·rintro⟨g,y,rfl,hg,hy⟩;simp only [mB,hy.is,N3];exact lW.mpr ⟨_,hg,rfl⟩
theorem CA{d:UD}:mz d=true↔∃n,d= .int n/\kT n:=by
 constructor
 ·intro h;cases d <;> simp [mz] at h;exact⟨_,rfl,h.1,h.2⟩
 ·rintro⟨n,rfl,h0,h1⟩;simp [mz,h0,h1]
theorem IA{d:UD}(h:lr d=true):bL d:=by
 unfold lr at h;split at h
 ·rename_i w n x r;rw [Oh,Oh,CA] at h;obtain⟨⟨⟨n,rfl,hn⟩,hx⟩,hp⟩:=h;obtain⟨x,rfl,hx2⟩:=mC hx
  replace hx:=hx2
  unfold nW at hp;split at hp
  ·rename_i hw;obtain⟨z,hz,rfl⟩:=lW.mp hw;have:r=[]:=So.mp (by simpa using hp);subst this;exact .one hz hn hx
  split at hp
  ·rename_i hw;obtain⟨z,hz,rfl⟩:=lW.mp hw;split at hp
   ·obtain⟨y,rfl,hy⟩:=mC hp;exact .two hz hn hx hy
   ·cases hp
  split at hp
  ·rename_i hw;rw [rX] at hw;subst hw;split at hp
   ·exact .rule hn hx (Cv.mp hp)
   ·cases hp
  split at hp
  ·rename_i hw;rw [rX] at hw;subst hw;split at hp
   ·rw [Oh,Cy] at hp;obtain⟨hk,ms,rfl,hm⟩:=hp;obtain⟨k,rfl,hk2⟩:=mC hk
    replace hk:=hk2
    exact .paper hn hx hk hm
   ·cases hp
  split at hp
  ·rename_i hw;rw [rX] at hw;subst hw;split at hp
   ·rw [Oh,Cz] at hp;obtain⟨⟨g,y,rfl,hg,hy⟩,hb⟩:=hp;rename_i b;cases b <;> simp [rS] at hb;exact .hold hn hx hg hy
   ·cases hp
  ·cases hp
 ·cases h
theorem bL.is{d:UD}(h:bL d):lr d=true:=by
 have dy:∀{n:Int},kT n->mz (.int n)=true:=λh=>CA.mpr ⟨_,rfl,h⟩;have no:∀{zs:List Str}{w:Str},w ∉ zs->lq zs (.str w)=false:=λ{zs w} h=>by
  rw [Tq];intro q;obtain⟨z,hz,e⟩:=lW.mp q;injection e with e;rw [e] at h;exact h hz
 have ye:∀{zs:List Str}{w:Str},w∈zs->lq zs (.str w)=true:=λh=>lW.mpr ⟨_,h,rfl⟩;have nq:∀{z w:Str},w≠z->NR (.str w) (.str z)=false:=λ{z w} h=>by rw [br];simpa using h
 have yq:∀{z:Str},NR (.str z) (.str z)=true:=by intro z;rw [br];simp
 cases h with
 | paper hn hx hk hm=>
  simp only [lr,dy hn,hx.is,N3,Ob,nW];rw [Uz (by rw [no td];decide),Uz (by rw [no td];decide),Uz (by rw [nq td];decide),UA yq];simp only [hk.is,Cy.mpr ⟨_,rfl,hm⟩,N3]
 | two hw hn hx hy=>
  simp only [lr,dy hn,hx.is,N3,Ob,nW];rename_i w x y n;have h1:w ∉ (["end","lift"]:List Str):=by
   simp only [NN,NX,or_false] at hw;rcases hw with rfl | rfl <;> decide+kernel
  rw [Uz (by rw [no h1];decide),UA (ye hw)];exact hy.is
 | rule hn hx hp=>
  simp only [lr,dy hn,hx.is,N3,Ob,nW];rw [Uz (by rw [no td];decide),Uz (by rw [no td];decide),UA yq];exact Cv.mpr hp
 | one hw hn hx=>
  simp only [lr,dy hn,hx.is,N3,Ob,nW];rw [UA (ye hw)];rfl
 | hold hn hx hg hy=>
  simp only [lr,dy hn,hx.is,N3,Ob,nW];rw [Uz (by rw [no td];decide),Uz (by rw [no td];decide),Uz (by rw [nq td];decide),Uz (by rw [nq td];decide),UA yq];simp only [Cz.mpr ⟨_,_,rfl,hg,hy⟩,rS,N3]
theorem CB{d:UD}:lr d=true↔bL d:=⟨IA,bL.is⟩
theorem gc{a:UD}{l:List UD}:bw (a::l) (some 1) none=l:=by
 rw [pF Ce (by simp only [NI];omega)];rfl
theorem gf{a b:UD}{l:List UD}:bw (a::b::l) (some 2) none=l:=by
 rw [pF Ce (by simp only [NI];omega)];rfl
theorem gh{a b c:UD}{l:List UD}:bw (a::b::c::l) (some 3) none=l:=by
 rw [pF Ce (by simp only [NI];omega)];rfl
theorem gi{a b c d:UD}{l:List UD}:bw (a::b::c::d::l) (some 4) none=l:=by
 rw [pF Ce (by simp only [NI];omega)];rfl
theorem gj{a:UD}{l:List UD}:bw (a::l) none (some 1)=[a]:=by
 rw [pE Ce (by simp only [NI];omega)];rfl
theorem gk{a b:UD}{l:List UD}:bw (a::b::l) none (some 2)=[a,b]:=by
 rw [pE Ce (by simp only [NI];omega)];rfl
theorem gm{a b c:UD}{l:List UD}:bw (a::b::c::l) none (some 3)=[a,b,c]:=by
 rw [pE Ce (by simp only [NI];omega)];rfl
theorem gn{a b c d:UD}{l:List UD}:bw (a::b::c::d::l) none (some 4)=[a,b,c,d]:=by
 rw [pE Ce (by simp only [NI];omega)];rfl
theorem gp{a b c:UD}{l:List UD}:bw (a::b::c::l) (some 1) (some 3)=[b,c]:=by
 unfold bw;rw [oG Ce (by simp only [NI];omega),oG Ce (by simp only [NI];omega)];rfl
end L2
namespace PySem
open Builtin
open AutoSeq1 (wpAny_loadPart')
end PySem
namespace L2
open PySem PySem.Spec PyProof.Rows PySem.W
section
variable {X:Cx} {H0:Hp} {O0:Ex}
def gr:UD->UD->(UD->Prop)->Prop:=λx y Q=>∃xs,x= .tuple xs/\y= .int 2/\xs≠[]/\xs.length<=1000/\Q (.tuple (xs++xs))
def eR:DT:=λ_ Q=>Q (.dict [])
theorem IB{pos:Pos}:DE X H0 O0 (.Dict [] [] pos) eR:=HM.imp λσ H Q uu80=>by obtain⟨O,δ,Qd,w,q,k⟩:=uu80;exact λp hp=>k _ _ _ q (ao.new hp) (.dct0 bh (tu w (ao.refl _) hp))
def gs(t:DT):DT:=λδ Q=>t δ λd=>∃i,d= .int i/\Q (.int (-i))
def gu(t:DT):DT:=λδ Q=>t δ λd=>∃z:Str,d= .str z/\z.length<=1000000/\Q (.str (Txt.upper z))
def gx(t:DT):DT:=λδ Q=>t δ λd=>∃xs,d= .tuple xs/\Q (.tuple xs.reverse)
end
theorem gy{xs:List UD}:bw xs none (some (-1))=xs.dropLast:=by
 unfold bw;rw [ph];have e:HT.sIx xs.length xs.length (some (-1))=xs.length - 1:=by
  simp only [HT.sIx];rw [UA Ce];omega
 rw [e,SI,Uh,List.dropLast_eq_take]
theorem IC(ys:List Str):(Txt.join "" ys).cps.toList=(ys.map (·.cps.toList)).flatten:=by
 have key:∀ys:List Str,(QL "" ys).cps.toList=(ys.map (·.cps.toList)).flatten:=by
  intro ys
  induction ys with
  | nil=>rfl
  | cons y r ih=>
   cases r with
   | nil=>simp [QL]
   | cons z r=>
    show(y++("":Str)++QL "" (z::r)).cps.toList=_;rw [rO,rO,Qs,Qs,ih,NM,Qe];have:("":Str).cps.toList=[]:=td
    rw [this,NZ];simp
 rw [show Txt.join "" ys=QL "" ys from P6 "" ys];exact key ys
section
variable {x:Option UO} {n:Nat} {env:Env}
theorem CC{a b}:Ve (.List a b) x n env=pure false:=rfl
theorem wG{a b c}:Ve (.Tuple a b c) x n env=pure false:=rfl
theorem pM{a b c d}:Ve (.BinOp a b c d) x n env=pure false:=rfl
theorem pN{a b c d}:Ve (.Call a b c d) x n env=pure false:=rfl
theorem tS{a b c}:Ve (.Subscript a b c) x n env=pure false:=rfl
theorem ID{a b c d}:Ve (.IfExp a b c d) x n env=pure false:=rfl
end
section
variable {X:Cx} {H0:Hp} {O0:Ex}
def gz(F:List UD->(List UD->Prop)->Prop)(t:DA):DA:=λδ Q=>t δ λds=>F ds Q
end
section
variable {X:Cx} {H0:Hp} {O0:Ex}
def eT(t:DA):DA:=λδ Q=>t δ λds=>ds.length<=1000/\Q (ds++ds)
theorem IE{e:UO}{t:DA}{j}{pos cp:Pos}(h:FE X H0 O0 e t):FE X H0 O0 (.BinOp e .Mult (.Constant (.int 2) j cp) pos) (eT t):=
 (bM Bx h cg).imp λσ H Q ⟨O,δ,Qd,w,q,k⟩=>⟨O,δ,_,w,q,λds vs p H1 q1 s1 hp r1=>by
  refine⟨p,2,vs,rfl,rfl,bh,Ce,Ce,?_,λp' hp'=>?_⟩
  ·have:=r1.length;have:(UN:Nat)=16777216:=Ce
   have:=q1.1;show vs.length*2<=UN;omega
  ·have e:(NO (Int.toNat 2) vs).flatten=vs++vs:=by
    show(NO 2 vs).flatten=_;simp [NO]
   rw [e];exact k (ds++ds) (vs++vs) p' _ q1.2 (s1.trans (ao.new hp)) hp' ((r1.append r1).mono (ao.new hp))⟩
end
theorem IF{g:DG}{tc:DB}{te:DT}{δ0:Dl}{xs:List UD}{Q:List UD->Prop}
 (h:∀x∈xs,∀(R:UD->Prop) (S:Prop),R x->S->g x δ0 λδ2=>tc δ2 λok=>if ok=true then te δ2 R else S)(q:∀ys,ys.Sublist xs->Q ys):mx g tc te δ0 xs Q:=by
 refine⟨λi acc=>acc.Sublist (xs.take i),UC,?_,?_⟩
 ·rintro i x acc hx ha;have et:xs.take (i+1)=xs.take i++[x]:=by rw [T4,hx];rfl
  refine h x (PK hx) (λy=>(acc++[y]).Sublist (xs.take (i+1))) (acc.Sublist (xs.take (i+1))) ?_ ?_
  ·show(acc++[x]).Sublist (xs.take (i+1));rw [et];exact ha.append (List.Sublist.refl _)
  ·rw [et];exact ha.trans (List.sublist_append_left _ _)
 ·rintro acc ha;rw [Pn (NT _)] at ha;exact q acc ha
theorem gA:(NF "paper"==NF "happens")=false:=td
theorem gB:(NF "paper"==NF "rule")=false:=td
theorem gC:(NF "paper"==NF "end")=false:=td
theorem gD:(NF "paper"==NF "hold")=false:=td
theorem gE:(NF "paper"==NF "lift")=false:=td
theorem gF:(NF "paper"==NF "leave")=false:=td
theorem gG:(NF "happens"==NF "paper")=false:=td
theorem gH:(NF "happens"==NF "rule")=false:=td
theorem gI:(NF "happens"==NF "end")=false:=td
theorem gJ:(NF "happens"==NF "hold")=false:=td
theorem gK:(NF "happens"==NF "lift")=false:=td
theorem gL:(NF "happens"==NF "leave")=false:=td
theorem gM:(NF "rule"==NF "paper")=false:=td
theorem gN:(NF "rule"==NF "happens")=false:=td
theorem gO:(NF "rule"==NF "end")=false:=td
theorem gP:(NF "rule"==NF "hold")=false:=td
theorem gQ:(NF "rule"==NF "lift")=false:=td
theorem gR:(NF "rule"==NF "leave")=false:=td
theorem gS:(NF "end"==NF "paper")=false:=td
theorem gT:(NF "end"==NF "happens")=false:=td
theorem gU:(NF "end"==NF "rule")=false:=td
theorem gW:(NF "end"==NF "hold")=false:=td
theorem gX:(NF "end"==NF "lift")=false:=td
theorem gY:(NF "end"==NF "leave")=false:=td
theorem gZ:(NF "hold"==NF "paper")=false:=td
theorem g6:(NF "hold"==NF "happens")=false:=td
theorem g9:(NF "hold"==NF "rule")=false:=td
theorem hG:(NF "hold"==NF "end")=false:=td
theorem hJ:(NF "hold"==NF "lift")=false:=td
theorem hV:(NF "hold"==NF "leave")=false:=td
theorem hW:(NF "lift"==NF "paper")=false:=td
theorem hX:(NF "lift"==NF "happens")=false:=td
theorem hZ:(NF "lift"==NF "rule")=false:=td
theorem ic:(NF "lift"==NF "end")=false:=td
theorem ie:(NF "lift"==NF "hold")=false:=td
theorem ig:(NF "lift"==NF "leave")=false:=td
theorem ij:(NF "leave"==NF "paper")=false:=td
theorem ik:(NF "leave"==NF "happens")=false:=td
theorem il:(NF "leave"==NF "rule")=false:=td
theorem ip:(NF "leave"==NF "end")=false:=td
theorem iq:(NF "leave"==NF "hold")=false:=td
theorem iu:(NF "leave"==NF "lift")=false:=td
section
variable {X:Cx} {H0:Hp} {O0:Ex}
def eV:List UD->(UD->Prop)->Prop:=λds Q=>∃i:Int,ds=[.int i]/\i.natAbs.log2 < 1920/\Q (.str (toString i))
theorem nX{K:NG}:mK K (λxs H Q=>∃i,xs=[.int i]/\i.natAbs.log2 < 1920/\Q (.str (toString i)) H) eV:=λH O xs ds Qd R _ hs uu82 k=>by
 obtain⟨i,e,hz,q⟩:=uu82;subst e;cases hs with
 | cons h r=>cases r;cases h.int;exact⟨i,rfl,hz,k _ _ H q (ao.refl _) (.str _)⟩
theorem qv:kq X (.type "int") (λxs H Q=>∃(z:Str)(n:Int),xs=[.str z]/\Ro z=some n/\z.length<=640/\Q (.int n) H):=by
 intro Wt s σ H xs us Q I r h;obtain⟨z,n,rfl,hn,hl,q⟩:=h;obtain⟨u,rfl,t,rfl⟩:=kY r;exact KIN.call_text hn hl ⟨.int n,H,I.tok _,⟨_,rfl⟩,q⟩
def eX:List UD->(UD->Prop)->Prop:=λds Q=>∃(z:Str)(n:Int),ds=[.str z]/\Ro z=some n/\z.length<=640/\Q (.int n)
theorem qw{K:NG}:mK K (λxs H Q=>∃(z:Str)(n:Int),xs=[.str z]/\Ro z=some n/\z.length<=640/\Q (.int n) H) eX:=λH O xs ds Qd R _ hs uu83 k=>by
 obtain⟨z,n,e,hn,hl,q⟩:=uu83;subst e;cases hs with
 | cons h r=>cases r;cases h.str;exact⟨z,n,rfl,hn,hl,k _ _ H q (ao.refl _) (.int _)⟩
theorem IG:rD X "str.zfill" (λx xs H Q=>∃(z:Str)(i:Int),x= .str z/\xs=[.int i]/\PadOk i=true/\Q (.str (Txt.zfill z i)) H):=by
 intro Wt s σ H x xs v us Q I rx rs h;obtain⟨z,i,rfl,rfl,hp,q⟩:=h;obtain⟨t,rfl⟩:=rx;obtain⟨u,rfl,t',rfl⟩:=kY rs;exact SC.zfill hp λt' k=>⟨.str _,H,I.tok _,⟨_,rfl⟩,q⟩
def eY(to t:DT):DT:=λδ Q=>to δ λx=>∃z:Str,x= .str z/\t δ λy=>∃i:Int,y= .int i/\PadOk i=true/\Q (.str (Txt.zfill z i))
theorem CD{o e:UO}{to t:DT}{apos cpos:Pos}(ho:DE X H0 O0 o to)(ha:DE X H0 O0 e t)(hbase:Vs o "zfill" X.env (eval o X.env)=eval o X.env:=by rfl)
 (hfew:((U3 cpos (UM [e] X.env)).all (λx=>!x.1) && (Wb cpos (VQ [] X.env)).all (λx=>x.1.isSome) && decide ([e].length+([]:List VE).length+(if ([]:List VE).isEmpty then 0 else 1) < 30))=true:=by rfl)
 (hline:(apos.endLine==cpos.line)=true:=by rfl)(hst:UM [e] X.env=(false,eval e X.env)::UM [] X.env:=by rfl)(hplain:(U3 cpos (UM [] X.env)).any (·.1)=false:=by rfl):
 DE X H0 O0 (.Call (.Attribute o "zfill" apos) [e] [] cpos) (eY to t):=
 (rE QV PySem.F.slot_str_zfill PySem.F.type_str_zfill IG ho (aN ha bF hst) hbase hfew hline hst hplain).imp λσ H Q uu84=>by obtain⟨O,δ,Qd,w,q,k⟩:=uu84;exact⟨O,δ,_,w,q,λx v H1 uu85 s1 r1=>by
  obtain⟨z,e,q1⟩:=uu85;subst e;cases r1;exact⟨rfl,O,δ,_,w.mono s1,q1,λy u H2 uu86 s2 r2=>by obtain⟨i,e,hz,q2⟩:=uu86;subst e;cases r2;exact⟨z,i,rfl,rfl,hz,k _ _ H2 q2 (s1.trans s2) (.str _)⟩⟩⟩
theorem CF:∀{l:List (Str×Tok)}{ys:List Str},l.map (·.1)=ys->aG (ys.map V.str) (strValues l)
 | [],_,rfl=>.nil
 | (x,t)::r,_,rfl=>.cons ⟨t,rfl⟩ (CF (l:=r) rfl)
theorem IH:rD X "str.split" (λx xs H Q=>∃(z y:Str),x= .str z/\xs=[.str y]/\(y.length==0)=false/\z.length<=1000000/\∀p,H p=none->Q (.ref p) (ak H p (.lst ((Txt.split z y).map V.str)))):=by
 intro Wt s σ H x xs v us Q I rx rs h;obtain⟨z,y,rfl,rfl,hy,hz,q⟩:=h;obtain⟨t,rfl⟩:=rx;obtain⟨u,rfl,t',rfl⟩:=kY rs;have hsl:(UN:Nat)=16777216:=Ce
 have hle:=split_le z y;have hq:∀(l:List (Str×Tok))(k:Nat),l.map (·.1)=Txt.split z y->EP X Wt σ Q (.ref s.heap.objs.size) {s with heap:=s.heap.push {cls:= .type "list",data:= .seq (strValues l).toArray},toks:=k}:=λl k e=>
  ⟨.ref _,_,I.laid (t':=k) (o:= .lst ((Txt.split z y).map V.str)) (λb ob q=>NJ _ q) (NT _) ⟨by rw [NQ];omega,_,0,CF e,N2 _ rfl⟩,rfl,q _ I.fresh⟩
 cases h1:(decide (z.length < y.length) || decide (S6 z < S6 y))
 ·cases hf:(Qc z y 0 z.length (z.length+1)).isEmpty
  ·have hn:(Sj z (Qc z y 0 z.length (z.length+1)) y.length).length<=UN:=by
    rw [len_partsBetween];have:=StrLaws.occ_length_le z y 0 z.length (z.length+1);omega
   refine Vx F.slot_str_split (Vw _ _ _) F.entry_str_split (F.args_str_split_2 _ _) (meets_str_split_sep z y t t' h1 hy hf Uy hn) ?_;show wants _ _ _ {s with toks:=_,heap:=s.heap.push {cls:= .type "list",data:= .seq (strsFrom s.toks (Sj z (Qc z y 0 z.length (z.length+1)) y.length)).toArray}};rw [strsFrom_eq];exact hq (numbered s.toks _) _ ((numbered_texts _ _).trans ((Uz (ne_true_of_eq_false h1)).trans (Uz (ne_true_of_eq_false hf))).symm)
  ·exact Vx F.slot_str_split (Vw _ _ _) F.entry_str_split (F.args_str_split_2 _ _) (meets_str_split_not_found z y t t' h1 hy hf) (hq [(z,t)] s.toks ((Uz (ne_true_of_eq_false h1)).trans (UA hf)).symm)
 ·exact Vx F.slot_str_split (Vw _ _ _) F.entry_str_split (F.args_str_split_2 _ _) (meets_str_split_cannot_occur z y t t' h1) (hq [(z,t)] s.toks (UA h1).symm)
def eZ(to t:DT):DA:=λδ Q=>to δ λx=>∃z:Str,x= .str z/\t δ λy=>∃y':Str,y= .str y'/\(y'.length==0)=false/\z.length<=1000000/\Q ((Txt.split z y').map .str)
theorem pO{o e:UO}{to t:DT}{apos cpos:Pos}(ho:DE X H0 O0 o to)(ha:DE X H0 O0 e t)(hbase:Vs o "split" X.env (eval o X.env)=eval o X.env:=by rfl)
 (hfew:((U3 cpos (UM [e] X.env)).all (λx=>!x.1) && (Wb cpos (VQ [] X.env)).all (λx=>x.1.isSome) && decide ([e].length+([]:List VE).length+(if ([]:List VE).isEmpty then 0 else 1) < 30))=true:=by rfl)
 (hline:(apos.endLine==cpos.line)=true:=by rfl)(hst:UM [e] X.env=(false,eval e X.env)::UM [] X.env:=by rfl)(hplain:(U3 cpos (UM [] X.env)).any (·.1)=false:=by rfl):
 FE X H0 O0 (.Call (.Attribute o "split" apos) [e] [] cpos) (eZ to t):=
 (rE QV PySem.F.slot_str_split PySem.F.type_str_split IH ho (aN ha bF hst) hbase hfew hline hst hplain).imp λσ H Q uu87=>by obtain⟨O,δ,Qd,w,q,k⟩:=uu87;exact⟨O,δ,_,w,q,λx v H1 uu88 s1 r1=>by
  obtain⟨z,e,q1⟩:=uu88;subst e;cases r1;exact⟨rfl,O,δ,_,w.mono s1,q1,λy u H2 uu89 s2 r2=>by obtain⟨y',e,hy,hz,q2⟩:=uu89;subst e;cases r2;exact⟨z,y',rfl,rfl,hy,hz,λp hp=>k _ _ p H2 q2 (s1.trans s2) hp (aq.ofStrs _)⟩⟩⟩
def PF(X:Cx)(H0:Hp)(O0:Ex)(e:UO)(t:DT):Prop:=∀(Wt:List (UH×Obj))(s:UI)(σ:St)(H:Hp)(R:Str->Prop)(Q:VK),ag X Wt σ H s->(∃O δ,Wd X.K H0 O0 H O σ δ/\t δ (λd=>∃z:Str,d= .str z/\z.length<=UN/\R z)/\∀z H',R z->ao H H'->Q (.str z) H')->UK (UL X.prog X.w) X.A (eval e X.env) (EP X Wt σ Q) X.xe s
theorem CG{x j pos}:PF X H0 O0 (.Constant (.str x) j pos) (dC (.str x)):=λWt s σ H R Q I h=>by
 obtain⟨O,δ,w,⟨z,e,hz,q⟩,k⟩:=h;injection e with e;subst e
 exact uU Wt s σ H Q I (k _ H q (ao.refl _))
theorem wH{e:UO}{t:DT}{pos:Pos}(h:DE X H0 O0 e t):PF X H0 O0 (.FormattedValue e (-1) none pos) t:=λWt s σ H R Q I hh=>by
 obtain⟨O,δ,w,q,k⟩:=hh;refine FormattedValue_plain (ax (h Wt s σ H (λv H1=>∃z:Str,v= .str z/\z.length<=UN/\Q (.str z) H1) I ⟨O,δ,_,w,q,λd v H1 uu90 s1 r1=>by obtain⟨z,e,hz,q1⟩:=uu90;subst e;cases r1;exact⟨z,rfl,hz,k _ H1 q1 s1⟩⟩) λv s1 ⟨x,H1,I1,r1,z,e,hz,q1⟩=>?_);subst e;obtain⟨t,rfl⟩:=r1;exact formatField_str (λt' tk=>⟨.str z,H1,I1.tok _,⟨_,rfl⟩,q1⟩) hz
def cb:List DT->Str->DT
 | [],out=>λ_ Q=>out.length<=UN/\Q (.str out)
 | t::ts,out=>λδ Q=>t δ λd=>∃z:Str,d= .str z/\z.length<=UN/\(out++z).length<=UN/\cb ts (out++z) δ Q
inductive rY (X:Cx) (H0:Hp) (O0:Ex):List UO->List DT->Prop
 | nil:rY X H0 O0 [] []
 | cons {e:UO} {es:List UO} {t:DT} {ts:List DT}:PF X H0 O0 e t->rY X H0 O0 es ts->rY X H0 O0 (e::es) (t::ts)
theorem II{es:List UO}{ts:List DT}(h:rY X H0 O0 es ts):∀(out:Str)(Wt:List (UH×Obj))(s:UI)(σ:St)(H:Hp)(Q:VK),ag X Wt σ H s->up X.K H0 O0 (cb ts out) σ H Q->
 UK (UL X.prog X.w) X.A (joinParts out (evalEach es X.env)) (EP X Wt σ Q) X.xe s:=by
 induction h with
 | nil=>
  intro out Wt s σ H Q I ⟨O,δ,Qd,w,⟨hz,q⟩,k⟩;exact joinParts_nil ⟨.str out,H,I.tok _,⟨_,rfl⟩,k _ _ H q (ao.refl _) (.str out)⟩ hz
 | @cons e es t ts hp hs ih=>
  intro out Wt s σ H Q I ⟨O,δ,Qd,w,q,k⟩;show UK (UL X.prog X.w) X.A (joinParts out (eval e X.env::evalEach es X.env)) (EP X Wt σ Q) X.xe s;refine joinParts_cons (ax (hp Wt s σ H (λz=>(out++z).length<=UN/\cb ts (out++z) δ Qd) (λv H1=>∃z:Str,v= .str z/\(out++z).length<=UN/\up X.K H0 O0 (cb ts (out++z)) σ H1 Q) I ⟨O,δ,w,q,?_⟩) λv s1 ⟨x,H1,I1,r1,z,e,hz,q1⟩=>?_)
  ·rintro z H1 ⟨hz,q1⟩ s1;exact⟨z,rfl,hz,O,δ,Qd,w.mono s1,q1,λd v H2 q2 s2 r2=>k d v H2 q2 (s1.trans s2) r2⟩
  ·subst e;obtain⟨t',rfl⟩:=r1;exact⟨hz,ih _ _ _ _ _ _ I1 q1⟩
theorem IJ{e1 e2:UO}{es:List UO}{ts:List DT}{pos:Pos}(h:rY X H0 O0 (e1::e2::es) ts):DE X H0 O0 (.JoinedStr (e1::e2::es) pos) (cb ts RH):=λWt s σ H Q I hh=>
 JoinedStr_many (II h RH Wt s σ H Q I hh)
def iw:DS:=λ_ _=>False
def CH(ns:List Int):List UD:=ns.map .int
def ix:UD->UD->(UD->Prop)->Prop:=λx y Q=>(∃i j:Int,x= .int i/\y= .int j/\Q (.bool (decide (i < j))))\/(∃i j:Str,x= .str i/\y= .str j/\Q (.bool (decide (i.cps.toList < j.cps.toList))))\/
 (∃ns ms:List Int,x= .tuple (CH ns)/\y= .tuple (CH ms)/\Q (.bool (HT.lexLt ns ms)))
end
section
variable {α:Type} {P:α->Prop}
theorem ff{a:UD}{r:Dl}{P:UD->Prop}:kJ 0 (some (Sl.v a)::r) P=P a:=rfl
theorem iy{x:Option Sl}{r:Dl}{i:Nat}{P:UD->Prop}:kJ (i+1) (x::r) P=kJ i r P:=rfl
theorem iz{a:List UD}{r:Dl}{P:List UD->Prop}:(∃d,(some (Sl.o a)::r)[0]?=some (some (Sl.o d))/\P d)=P a:=UC
theorem iA{x:Option Sl}{r:Dl}{i:Nat}{P:List UD->Prop}:(∃d,(x::r)[i+1]?=some (some (Sl.o d))/\P d)=(∃d,r[i]?=some (some (Sl.o d))/\P d):=UC
theorem iB{a:List UD}{l:Dl}{i:Nat}{P:List UD->Prop}:(∃d,(l.set i (some (Sl.o a)))[i]?=some (some (Sl.o d))/\P d)=(i < l.length/\P a):=by
 apply propext;rw [Sq];constructor
 ·rintro⟨d,e,p⟩;by_cases h:i < l.length
  ·rw [O7 h] at e;cases e;exact⟨h,p⟩
  ·rw [Ql Uy] at e;cases e
 ·rintro⟨h,p⟩;exact⟨a,by rw [O7 h];rfl,p⟩
theorem iC{x:Option Sl}{l:Dl}{i j:Nat}{P:List UD->Prop}(h:i≠j):(∃d,(l.set i x)[j]?=some (some (Sl.o d))/\P d)=(∃d,l[j]?=some (some (Sl.o d))/\P d):=by rw [OZ h]
theorem iD{a:Bool}{P:Bool->Prop}:(∃b,RB a= .bool b/\P b)=P a:=UC
theorem iE{a:Int}{P:Int->Prop}:(∃b,NW a= .int b/\P b)=P a:=UC
theorem iF{a:Str}{P:Str->Prop}:(∃b,NH a= .str b/\P b)=P a:=UC
theorem iG{a:List UD}{P:List UD->Prop}:(∃b,O5 a= .tuple b/\P b)=P a:=UC
theorem iH{a:List UD}{P:List UD->Prop}:(∃b,O6 a= .list b/\P b)=P a:=UC
theorem iI{a b:Int}{P:Int->Int->Prop}:(∃i j,NW a= .int i/\NW b= .int j/\P i j)=P a b:=UC
theorem iJ{a b:Str}{P:Str->Str->Prop}:(∃i j,NH a= .str i/\NH b= .str j/\P i j)=P a b:=UC
theorem iK{a b:List UD}{P:List UD->List UD->Prop}:(∃i j,O5 a= .tuple i/\O5 b= .tuple j/\P i j)=P a b:=UC
theorem iL{a b:List UD}{P:List UD->List UD->Prop}:(∃i j,O6 a= .list i/\O6 b= .list j/\P i j)=P a b:=UC
theorem iM{a:UD}{r:List UD}{P:UD->List UD->Prop}:(∃x y,a::r=x::y/\P x y)=P a r:=propext ⟨λuu93=>by obtain⟨_,_,e,p⟩:=uu93;cases e;exact p,λp=>⟨_,_,rfl,p⟩⟩
theorem iN{a b:UD}{P:UD->UD->Prop}:(∃x y,[a,b]=[x,y]/\P x y)=P a b:=propext ⟨λuu94=>by obtain⟨_,_,e,p⟩:=uu94;cases e;exact p,λp=>⟨_,_,rfl,p⟩⟩
theorem iO{a:UD}{r:List UD}{P:UD->Prop}:(∃ds i d,O5 (a::r)= .tuple ds/\NW 0= .int i/\atI ds i=some d/\P d)=P a:=by simp [aV]
theorem iP{a b:UD}{r:List UD}{P:UD->Prop}:(∃ds i d,O5 (a::b::r)= .tuple ds/\NW 1= .int i/\atI ds i=some d/\P d)=P b:=by simp [bp]
theorem iQ{a b c:UD}{r:List UD}{P:UD->Prop}:(∃ds i d,O5 (a::b::c::r)= .tuple ds/\NW 2= .int i/\atI ds i=some d/\P d)=P c:=by simp [bS]
theorem iR{a b c e:UD}{r:List UD}{P:UD->Prop}:(∃ds i d,O5 (a::b::c::e::r)= .tuple ds/\NW 3= .int i/\atI ds i=some d/\P d)=P e:=by simp [cH]
theorem iS{a:UD}{r:List UD}{P:UD->Prop}:(∃ds i d,O6 (a::r)= .list ds/\NW 0= .int i/\atI ds i=some d/\P d)=P a:=by simp [aV]
theorem iT{a b:UD}{r:List UD}{P:UD->Prop}:(∃ds i d,O6 (a::b::r)= .list ds/\NW 1= .int i/\atI ds i=some d/\P d)=P b:=by simp [bp]
theorem iU{a b c:UD}{r:List UD}{P:UD->Prop}:(∃ds i d,O6 (a::b::c::r)= .list ds/\NW 2= .int i/\atI ds i=some d/\P d)=P c:=by simp [bS]
theorem iV{xs:List UD}{k:Int}{P:UD->Prop}:(∃ds i d,O5 xs= .tuple ds/\NW k= .int i/\atI ds i=some d/\P d)=(∃d,atI xs k=some d/\P d):=UC
theorem iW{xs:List UD}{k:Int}{P:UD->Prop}:(∃ds i d,O6 xs= .list ds/\NW k= .int i/\atI ds i=some d/\P d)=(∃d,atI xs k=some d/\P d):=UC
end
theorem iX{w v:Str}{r:List UD}{l:Dl}{Q:Bool->Prop}:bK (bA bY (bA bX (kJ 0) (dC (.int 0))) (dC (.str v))) (some (.v (.tuple (.str w::r)))::l) Q=Q (w==v):=by
 simp [bK,bA,bY,bX,ff,dC,aV,kz,br]
theorem iY{v:Str}{x:Option Sl}{l:Dl}{k:Nat}{Q:Bool->Prop}:bK (bA bY (bA bX (kJ 0) (dC (.int 0))) (dC (.str v))) (l.set (k+1) x) Q=bK (bA bY (bA bX (kJ 0) (dC (.int 0))) (dC (.str v))) l Q:=by
 simp only [bK,bA,kJ,dC,OZ (show k+1≠0 by omega)]
def oN:aZ->UD
 | .inl i=>.int i
 | .inr x=>.str x
def tT(kd:List (aZ×UD))(k:aZ):Option UD:=(kd.find? λp=>decide (p.1=k)).map (·.2)
def CI(kd:List (aZ×UD))(k:aZ)(d:UD):List (aZ×UD):=if (kd.any λp=>decide (p.1=k))=true then kd.map (λp=>if p.1=k then(p.1,d) else p) else kd++[(k,d)]
section
variable {X:Cx} {H0:Hp} {O0:Ex}
abbrev rZ:=Dl->(List (aZ×UD)->Prop)->Prop
inductive CJ (K:NG) (H0:Hp) (O0:Ex) (t:rZ) (σ:St) (H:Hp) (R:VK):Prop
 | mk (O:Ex) (δ:Dl) (Qd:List (aZ×UD)->Prop):Wd K H0 O0 H O σ δ->t δ Qd->(∀kd kv p H',Qd kd->ao H H'->H' p=none->lK K H' O kv kd->R (.ref p) (ak H' p (.dK kv)))->CJ K H0 O0 t σ H R
abbrev KE(X:Cx)(H0:Hp)(O0:Ex)(e:UO)(t:rZ):Prop:=PE X e (CJ X.K H0 O0 t)
def iZ:rZ:=λ_ Q=>Q []
def i3(i:Nat)(t:rZ):DS:=λE δ=>t δ λkd=>E.nx (δ.set i (some (.k kd)))
def i4(i:Nat)(tk tv:DT):DS:=λE δ=>tv δ λd=>∃kd,δ[i]?=some (some (.k kd))/\tk δ λy=>∃k,y=oN k/\kd.length < UN/\E.nx (δ.set i (some (.k (CI kd k d))))
def i5(i:Nat)(tk:DT):DT:=λδ Q=>∃kd,δ[i]?=some (some (.k kd))/\tk δ λy=>∃k d,y=oN k/\tT kd k=some d/\Q d
def i6(i:Nat)(tk:DT):DT:=λδ Q=>∃kd,δ[i]?=some (some (.k kd))/\tk δ λy=>∃k,y=oN k/\Q ((tT kd k).getD .none)
def i8(neg:Bool)(i:Nat)(tk:DT):DT:=λδ Q=>tk δ λy=>∃k,y=oN k/\∃kd,δ[i]?=some (some (.k kd))/\Q (.bool (if neg then !(tT kd k).isSome else(tT kd k).isSome))
open PySem PySem.Spec PyProof.Rows PySem.W PySem.Calls
def i9(i:Nat):DA:=λδ Q=>∃kd,δ[i]?=some (some (.k kd))/\∃ss:List Str,kd.map (·.1)=ss.map Rl/\ss.length < 64/\Q ((kL ss).map .str)
end
section
theorem ja{a:List (aZ×UD)}{r:Dl}{P:List (aZ×UD)->Prop}:(∃d,(some (Sl.k a)::r)[0]?=some (some (Sl.k d))/\P d)=P a:=UC
theorem jb{x:Option Sl}{r:Dl}{i:Nat}{P:List (aZ×UD)->Prop}:(∃d,(x::r)[i+1]?=some (some (Sl.k d))/\P d)=(∃d,r[i]?=some (some (Sl.k d))/\P d):=UC
theorem jd{a:List (aZ×UD)}{l:Dl}{i:Nat}{P:List (aZ×UD)->Prop}:(∃d,(l.set i (some (Sl.k a)))[i]?=some (some (Sl.k d))/\P d)=(i < l.length/\P a):=by
 apply propext;rw [Sq];constructor
 ·rintro⟨d,e,p⟩;by_cases h:i < l.length
  ·rw [O7 h] at e;cases e;exact⟨h,p⟩
  ·rw [Ql Uy] at e;cases e
 ·rintro⟨h,p⟩;exact⟨a,by rw [O7 h];rfl,p⟩
theorem je{x:Option Sl}{l:Dl}{i j:Nat}{P:List (aZ×UD)->Prop}(h:i≠j):(∃d,(l.set i x)[j]?=some (some (Sl.k d))/\P d)=(∃d,l[j]?=some (some (Sl.k d))/\P d):=by rw [OZ h]
theorem jf{x:Str}{P:aZ->Prop}:(∃k,NH x=oN k/\P k)=P (.inr x):=propext ⟨λuu95=>by obtain⟨k,e,p⟩:=uu95;cases k with | inl i=>cases e | inr y=>cases e;exact p,λp=>⟨_,rfl,p⟩⟩
theorem jg{x:Int}{P:aZ->Prop}:(∃k,NW x=oN k/\P k)=P (.inl x):=propext ⟨λuu96=>by obtain⟨k,e,p⟩:=uu96;cases k with | inr i=>cases e | inl y=>cases e;exact p,λp=>⟨_,rfl,p⟩⟩
end
def mh:UD->Bool
 | .none=>true
 | _=>false
def fg:UD->UD->(UD->Prop)->Prop:=λx y Q=>y= .none/\Q (.bool (mh x))
def fh:UD->UD->(UD->Prop)->Prop:=λx y Q=>y= .none/\Q (.bool (!mh x))
theorem Sh.isN{K:NG}{H:Hp}{O:Ex}{x:V}{d:UD}(h:Sh K H O x d):decide (x= .non)=mh d:=by
 cases h with
 | dt h=>cases h <;> simp [mh]
 | _=>simp [mh]
theorem wI{K:NG}:cz K (λx y H Q=>y= .non/\Q (.bl (decide (x= .non))) H) fg:=λH O x y dx dy Qd R _ hx hy uu0 k=>by
 obtain⟨e,q⟩:=uu0;subst e;refine⟨hy.non,?_⟩;rw [hx.isN];exact k _ _ H q (ao.refl _) (.bl _)
theorem IK{K:NG}:cz K (λx y H Q=>y= .non/\Q (.bl (!decide (x= .non))) H) fh:=λH O x y dx dy Qd R _ hx hy uu1 k=>by
 obtain⟨e,q⟩:=uu1;subst e;refine⟨hy.non,?_⟩;rw [hx.isN];exact k _ _ H q (ao.refl _) (.bl _)
def jh:List UD->(UD->Prop)->Prop:=λds Q=>∃i:Int,ds=[.int i]/\Q (.int (if i < 0 then -i else i))
def ji:UD->UD->(UD->Prop)->Prop:=λx y Q=>∃ds i d,x=ma ds/\y= .int i/\atI ds i=some d/\Q d
section
variable {X:Cx} {H0:Hp} {O0:Ex}
def jj(t:DT)(tl th:DO):DA:=λδ Q=>t δ λd=>tl δ λl=>th δ λu=>∃xs,d=ma xs/\Q (bw xs l u)
end
def jk:UD->UD->(UD->Prop)->Prop:=λx y Q=>∃(z:Str)(n:Int),x= .str z/\y= .int n/\MulOk z n/\Q (.str (Txt.mul z n))
structure Rw where
 w:Str
 n:Int
 nm:Str
 r:List UD
abbrev Ls:=List (Str×Rw)
open PySem PySem.Spec PyProof.Rows PySem.W PySem.Calls
theorem IL(t:VS)(n:Nat):(t.orStandIn n).led=t.led:=by unfold SetTable.orStandIn;split <;> rfl
theorem IM(t:VS)(es:Array (Int×UE))(h:Int)(x:UE):(layNew t es h x).2.1.led=t.led:=by
 unfold layNew;split
 ·exact IL _ _
 ·rfl
theorem IP(t:VS)(es:Array (Int×UE))(n:Nat):(V2 t es n).2.1.led=t.led:=by
 unfold V2 TX Ua;cases Ts (Tg n - 1) (es.map (·.1)) with
 | none=>rfl
 | some ow=>simp only [bind,Uq,pure];split <;> rfl
theorem IQ(t:VS)(es:Array (Int×UE))(n:Nat):(V2 t es n).2.1.plain=true->t.plain=true:=by
 unfold V2 TX Ua;cases Ts (Tg n - 1) (es.map (·.1)) with
 | none=>intro e;cases e
 | some ow=>
  simp only [bind,Uq,pure];split
  ·exact id
  ·intro e;cases e
abbrev lY(w:UU):Bool:=w.params.followText "set-order"
structure IS (P:US) (w:UU) (o:Obj) (ss:List Str):Prop where
 ex:o.ExactSet
 da:∃es ep t,o.data= .set es ep t/\ElemsOf (strKind P w) es.toList/\(∃ss',Va (es.toList.map (·.2)) ss'/\ss'.Perm ss)/\es.size < VG/\t.fits es.size=true/\(lY w=true\/t.led=true)/\(es.size≠0->t.plain=false)
def kD(P:US)(w:UU)(h:UR)(a:UH)(ss:List Str):Prop:=∃o,h.get? a=some o/\IS P w o ss
theorem CK{k:Str}:∀{vs:List UE}{ss:List Str},Va vs ss->((∃v∈vs,v.isStrOf k=true)↔k∈ss)
 | _,_,.nil=>by simp
 | _,_,.cons x t r=>by
  have ih:=CK (k:=k) r;constructor
  ·rintro⟨v,hv,e⟩;rcases NN.mp hv with z | z
   ·subst z;obtain⟨u,e'⟩:=S4 e;cases e';exact PH
   ·exact OY _ (ih.mp ⟨v,z,e⟩)
  ·intro hk;rcases NN.mp hk with z | z
   ·subst z;exact⟨_,PH,by simp [T7]⟩
   ·obtain⟨v,hv,e⟩:=ih.mpr z;exact⟨v,OY _ hv,e⟩
theorem tU{vs vs':List UE}(p:vs'.Perm vs):∀{ss:List Str},Va vs ss->∃ss',Va vs' ss'/\ss'.Perm ss:=by
 induction p with
 | nil=>intro ss h;exact⟨ss,h,.refl _⟩
 | cons x p ih=>
  intro ss h;cases h with
  | cons y t r=>obtain⟨s1,a,b⟩:=ih r;exact⟨y::s1,.cons y t a,b.cons y⟩
 | swap x y l=>
  intro ss h;cases h with
  | cons a t r=>cases r with | cons b u r=>exact⟨b::a::_,.cons b u (.cons a t r),.swap _ _ _⟩
 | trans p q ih1 ih2=>
  intro ss h;obtain⟨s1,a,b⟩:=ih2 h;obtain⟨s2,c,d⟩:=ih1 a;exact⟨s2,c,d.trans b⟩
theorem CL{x:Str}{t:Tok}:∀{vs:List UE}{ss:List Str},Va vs ss->Va (vs++[.str x t]) (ss++[x])
 | _,_,.nil=>.cons x t .nil
 | _,_,.cons y u r=>.cons y u (CL r)
theorem r6:∀{vs:List UE}{ss:List Str},Va vs ss->vs.length=ss.length
 | _,_,.nil=>rfl
 | _,_,.cons y u r=>by simp [r6 r]
def kl(ss:List Str)(x:Str):List Str:=if x∈ss then ss else ss++[x]
section
variable {P:US} {w:UU} {A:UX} {E:UE->UI->Prop} {s:UI}
theorem kD.mk{h:UR}{a:UH}{o:Obj}{es es':Array (Int×UE)}{ep:Nat}{t t':VS}{ss:List Str}(o1:h.get? a=some o)(x1:o.ExactSet)(d1:o.data= .set es ep t)
 (el:ElemsOf (strKind P w) es'.toList)(sp:∃ss',Va (es'.toList.map (·.2)) ss'/\ss'.Perm ss)(b1:es'.size < VG)(f1:t'.fits es'.size=true)(l1:lY w=true\/t'.led=true)(p1:es'.size≠0->t'.plain=false):
 (h.update a (Sa es' t')).get? a=some {o with data:= .set es' (ep+1) t'}/\kD P w (h.update a (Sa es' t')) a ss:=by
 have g:(h.update a (Sa es' t')).get? a=some {o with data:= .set es' (ep+1) t'}:=by
  have z:=Ph (Sa es' t') o1 (by rw [putSet_of es' t' d1];rfl);rw [putSet_of es' t' d1] at z;exact z
 exact⟨g,_,g,x1,es',ep+1,t',rfl,el,sp,b1,f1,l1,p1⟩
theorem CM{g:Bool->Sem Unit}(hg:∀(b:Bool) (s₁:UI) (Q':Unit->UI->Prop),Q' () s₁->UK (UL P w) A (g b) Q' E s₁)
 {a:UH}{o:Obj}{es:Array (Int×UE)}{ep:Nat}{t:VS}(o1:s.heap.get? a=some o)(x1:o.ExactSet)(d1:o.data= .set es ep t)
 {es1:Array (Int×UE)}{t2:VS}{ss:List Str}(el:ElemsOf (strKind P w) es1.toList)(sp:∃ss',Va (es1.toList.map (·.2)) ss'/\ss'.Perm ss)
 (b1:es1.size < VG)(f2:t2.fits es1.size=true)(l2:lY w=true\/t2.led=true)(p2:t2.plain=false){wd:Bool}{R:Option Bool->UI->Prop}
 (h:∀h',Qu a s.heap h'->kD P w h' a ss->R (some true) {s with heap:=h'}):
 UK (UL P w) A (do
  storeSet a es1 t2
  if (!wd && t2.tooFull)=true then do
   g (V2 t2 es1 (Qt es1.size)).2.2
   storeSet a (V2 t2 es1 (Qt es1.size)).1 (V2 t2 es1 (Qt es1.size)).2.1
   pure (some true)
   else pure (some true)) R E s:=by
 refine UG (wpAny_storeSet_of o1 d1 ?_ (fits_of_scanBound b1));obtain⟨o2,S2⟩:=kD.mk (P:=P) o1 x1 d1 el sp b1 f2 l2 (λ_=>p2);have sb:=Px s.heap a (Sa es1 t2);split
 ·have rp:=relayAll_perm t2 es1 (Qt es1.size);have rf:=relayAll_fits t2 es1 (Qt es1.size);have rl:=IP t2 es1 (Qt es1.size);have rq:=IQ t2 es1 (Qt es1.size);generalize V2 t2 es1 (Qt es1.size)=Z at rp rf rl rq⊢;obtain⟨es2,t3,gv⟩:=Z;dsimp only at rp rf rl rq⊢;have sz:es2.size=es1.size:=by rw [<-NY,rp.length_eq,NY]
  obtain⟨ss',q1,q2⟩:=sp;obtain⟨ss2,q3,q4⟩:=tU (rp.map (·.2)) q1;refine UG (hg _ _ _ (UG (wpAny_storeSet_of o2 rfl ?_ (fits_of_scanBound (by rw [sz];exact b1)))));obtain⟨_,S3⟩:=kD.mk (P:=P) (w:=w) (t':=t3) o2 x1 rfl (el.perm rp) ⟨ss2,q3,q4.trans q2⟩ (by rw [sz];exact b1) rf (by rw [rl];exact l2) (λ_=>by
   cases hb:t3.plain with
   | false=>rfl
   | true=>rw [rq hb] at p2;cases p2)
  exact UJ (h _ (sb.trans (Px _ a _)) S3)
 ·exact UJ (h _ sb S2)
theorem IT{a:UH}{ss:List Str}{x:Str}{tk:Tok}{Q:Bool->UI->Prop}(hS:kD P w s.heap a ss)(hroom:ss.length+1 < VG)
 (h:∀h' b,Qu a s.heap h'->kD P w h' a (kl ss x)->Q b {s with heap:=h'}):
 UK (UL P w) A (setAddHashed a (.str x tk) (hashStr w x)) Q E s:=by
 obtain⟨o,o1,x1,es,ep,t,d1,el,⟨ss',s1,s2⟩,b1,f1,l1,p1⟩:=hS;have hk:(strKind P w).is x (.str x tk)=true:=strKind_is _ _ _ _;have hsc:(Q4 x tk).scannable=true:=rfl;have ln:es.size=ss.length:=by rw [<-s2.length_eq,<-r6 s1,NQ,NY]
 unfold setAddHashed setAddHashedIn;refine U8 (UG (Vu o1 d1 f1 ?_));dsimp only;rw [byScan_of hsc b1 el,UA rfl];unfold setAddByScan;refine UG (UG (VJ (UG (wpAny_setScan_of hk o1 d1 f1 el ?_))));have mem:(∃e∈es.toList,(strKind P w).is x e.2=true)↔x∈ss:=by
  rw [<-s2.mem_iff,<-CK s1];constructor
  ·rintro⟨e,he,q⟩;exact⟨e.2,Pa.mpr ⟨e,he,rfl⟩,q⟩
  ·rintro⟨v,hv,q⟩;obtain⟨e,he,rfl⟩:=Pa.mp hv;exact⟨e,he,q⟩
 cases hr:List.findIdx? (λe=>(strKind P w).is x e.2) es.toList with
 | some j=>
  obtain⟨hj,hp,_⟩:=List.findIdx?_eq_some_iff_getElem.mp hr;have hx:x∈ss:=mem.mp ⟨_,Qj hj,hp⟩;refine UJ (UJ ?_);have z:=h s.heap false (Qu.refl a s.heap) (by unfold kl;rw [UA hx];exact⟨o,o1,x1,es,ep,t,d1,el,⟨ss',s1,s2⟩,b1,f1,l1,p1⟩);have e:s={s with heap:=s.heap}:=by cases s;rfl
  rw [e];exact z
 | none=>
  dsimp only;have hx:x ∉ ss:=λz=>by
   obtain⟨e,he,q⟩:=mem.mpr z;have:=List.findIdx?_eq_none_iff.mp hr e he;rw [q] at this;cases this
  have eS:kl ss x=ss++[x]:=Uz hx;rw [eS] at h;have lp:=layNew_perm t es (hashStr w x) (.str x tk);have lf:=layNew_fits t es (hashStr w x) (.str x tk);have ll:=IM t es (hashStr w x) (.str x tk);generalize layNew t es (hashStr w x) (.str x tk)=L at lp lf ll⊢;obtain⟨es1,t1,wd,gv⟩:=L;dsimp only at lp lf ll⊢;rw [Tt] at lp;have el1:ElemsOf (strKind P w) es1.toList:=(el.push hk hsc).perm lp;have sp1:∃ss',Va (es1.toList.map (·.2)) ss'/\ss'.Perm (ss++[x]):=by
   have s3:Va ((es.toList++[(hashStr w x,Q4 x tk)]).map (·.2)) (ss'++[x]):=by
    rw [PZ];exact CL s1
   obtain⟨s4,q1,q2⟩:=tU (lp.map (·.2)) s3;exact⟨s4,q1,q2.trans (s2.append_right _)⟩
  have n1:es1.size=es.size+1:=by rw [<-NY,lp.length_eq];simp
  have b2:es1.size < VG:=Uy
  have l2:lY w=true\/t1.led=true:=by rw [ll];exact l1
  have gw:∀(b:Bool)(s₁:UI)(Q':Unit->UI->Prop),Q' () s₁->UK (UL P w) A (match b with | true=>rule "set.scan.the-table-gave-way" | false=>pure ()) Q' E s₁:=
   λb s₁ Q' z=>by cases b <;> first | exact UJ z | exact VJ z
  refine UG (gw _ _ _ ?_);split
  ·refine UG ?_;rw [hashByValue_scannable 8 hsc];refine UJ ?_;refine CM gw o1 x1 d1 el1 sp1 b2 (SetTable.fits_plain_off lf) l2 rfl λh' sb S'=>UJ (h h' true sb S')
  ·rename_i hp;refine UG (UJ ?_);rw [UA rfl];exact CM gw o1 x1 d1 el1 sp1 b2 lf l2 (by simpa using hp) λh' sb S'=>UJ (h h' true sb S')
end
def nY(val:Nat->Str)(i:Nat):List Str:=((PD i).map val).foldl kl []
theorem CN(val:Nat->Str)(i:Nat):nY val (i+1)=kl (nY val i) (val i):=by
 unfold nY;rw [QQ,PZ,List.foldl_append];rfl
theorem CO(val:Nat->Str):∀i,(nY val i).length<=i
 | 0=>NT _
 | i+1=>by
  have ih:=CO val i;rw [CN];unfold kl;split
  ·omega
  ·simp;omega
theorem IU{ss:List Str}{x:Str}(h:ss.Nodup):(kl ss x).Nodup:=by
 unfold kl;split
 ·exact h
 ·rename_i hx;refine List.nodup_append.mpr ⟨h,UC,λa ha b hb=>?_⟩;rw [PL] at hb;subst hb;intro e;subst e;exact hx ha
theorem IV{ss:List Str}{x y:Str}:y∈kl ss x↔y∈ss\/y=x:=by
 unfold kl;split
 ·rename_i hx;exact⟨.inl,λz=>z.elim id λe=>by subst e;exact hx⟩
 ·simp
theorem wJ{y:Str}:∀{l ss:List Str},y∈l.foldl kl ss↔y∈ss\/y∈l
 | [],ss=>by simp
 | a::l,ss=>by rw [Qf,wJ,IV,NN];exact or_assoc
theorem wK:∀{l ss:List Str},ss.Nodup->(l.foldl kl ss).Nodup
 | [],_,h=>h
 | a::l,_,h=>by rw [Qf];exact wK (IU h)
theorem kD.stay{P:US}{w:UU}{h h':UR}{a:UH}{ss:List Str}(x:kD P w h a ss)(k:∀o,h.get? a=some o->h'.get? a=some o):kD P w h' a ss:=
 let ⟨o,e,r⟩:=x;⟨o,k o e,r⟩
section
variable {P:US} {w:UU} {A:UX} {R:Result->UI->Prop} {I:UH} {fp wr:List UH} {G:Array V0->Array V0->Prop} {n:Nat} {Pv:Nat->UE->Prop} {St:Nat->UI->Prop}
theorem IW(W:WalksS P w A.in1 I fp wr G n Pv St)(S:UH)(hSf:S ∉ fp)(val:Nat->Str)(hval:∀i v,Pv i v->∃t,v= .str (val i) t)(hb:n+1 < VG):
 ∀(k i:Nat)(s:UI),n - i=k->i<=n->St i s->kD P w s.heap S (nY val i)->
  (∀s',Moved (S::wr) G s s'->kD P w s'.heap S (nY val n)->R (.ok (.ret .none)) s')->Vy (UL P w) A (.builtin "set.update.loop" ⟨[.ref S,.ref I],[]⟩) R s:=by
 have sw:S ∉ wr:=λz=>hSf (W.sub _ z);have sub:∀b∈wr,b∈S::wr:=λb z=>OY _ z;intro k
 induction k with
 | zero=>
  intro i s e1 e2 st hS q;obtain rfl:i=n:=Uy
  refine Vr Rj ?_;rw [QE Qw _];show UK _ A.in1 (Vt (.ref I) >>=_) _ _ s;exact UG (W.done s _ _ st λs' m=>UJ (q s' (m.mono sub) (hS.stay λo e=>m.heap S o sw e)))
 | succ k ih=>
  intro i s e1 e2 st hS q;have lt:i < n:=Uy
  refine Vr Rj ?_;rw [QE Qw _];show UK _ A.in1 (Vt (.ref I) >>=_) _ _ s;refine UG (W.item i s _ _ lt st λv s' hP st' m=>?_);obtain⟨t,rfl⟩:=hval i v hP;have hS':=hS.stay (h':=s'.heap) λo e=>m.heap S o sw e;show UK _ A.in1 (holding [Q4 (val i) t] (setAdd S (.str (val i) t)) >>=_) _ _ s';refine UG (U8 ?_);unfold setAdd;refine U8 (UG ((strKind P w).pyHash (k:=val i) (strKind_is _ _ _ _) ?_));have rm:(nY val i).length+1 < VG:=by have:=CO val i;omega
  refine IT (s:={s' with toks:=s'.toks+1}) hS' rm λh' b sb S2=>?_;rw [<-CN] at S2;refine UJ ⟨VZ Qw _,ih (i+1) _ Uy lt (W.frame _ s' _ _ st' (Q7 _) λb hb o e=>?_) S2 λs2 m2 S3=>?_⟩
  ·rw [sb.2 b (λz:b=S=>hSf (by rw [<-z];exact hb))];exact e
  ·refine q s2 (Moved.trans W.gtrans ((m.mono sub).then_heap (Q7 _) λb o hb e=>?_) m2) S3;rw [sb.2 b (λz:b=S=>hb (by rw [z];exact PH))];exact e
end
section
variable {P:US} {w:UU} {A:UX} {E:UE->UI->Prop} {s:UI}
theorem IX(a:UE){Q₁:UE->UI->Prop}
 (h:Q₁ (.ref s.heap.objs.size) {s with heap:=s.heap.push {cls:= .type "set",dict:=none,data:= .set #[] 0 (.fresh 0 0 (!lY w))}}):
 Vy (UL P w) A (.call (.builtin "set.__new__") ⟨[.type "set",a],[]⟩) (wants Q₁ E) s:=by
 refine codeAny_of_tree ?_;show UK _ A.in1 (VL "set.__new__" ⟨[.type "set",a],[]⟩ >>=λ_=>again (.builtin "set.__new__" ⟨[.type "set",a],[]⟩)) _ _ s;refine UG (VY (PySem.F.newCall_set_1 a) (UJ ⟨VZ SJ _,Vr PySem.F.entry_set_new ?_⟩));rw [QE SJ _];unfold Builtin.«set.__new__» Builtin.Frozenset.newClass;have hsb:=sub_set_self;obtain⟨hp,g,d,tk,os⟩:=s;dsimp only
 wp_walk
 refine VA (UJ ?_);dsimp only;simp only [newObj];exact UG (wpAny_alloc (UJ (UJ h)))
theorem kD.fresh{h:UR}{a:UH}(e:h.get? a=some {cls:= .type "set",dict:=none,data:= .set #[] 0 (.fresh 0 0 (!lY w))}):kD P w h a []:=by
 refine⟨_,e,⟨rfl,rfl,rfl⟩,#[],0,_,rfl,λe he=>by simp at he,⟨[],.nil,.refl _⟩,Ce,rfl,?_,λz=>absurd rfl z⟩;cases hb:lY w with
 | true=>exact .inl rfl
 | false=>exact .inr rfl
theorem IY{l:UH}{items:Array UE}{ss:List Str}{Q:UE->UI->Prop}
 (hh:A.handled=none)(hl:s.heap.IsList l items)(hi:Va items.toList ss)(hb:items.size+1 < VG)
 (h:∀(h':UR) (tk:Nat),kD P w h' s.heap.objs.size (ss.foldl kl [])->(∀b o,s.heap.get? b=some o->h'.get? b=some o)->Q (.ref s.heap.objs.size) {s with heap:=h',toks:=tk}):
 UK (UL P w) A (call (.type "set") [.ref l]) Q E s:=by
 obtain⟨c,tl,hmro⟩:=PySem.F.called_set.mro;have hmade:=PySem.F.called_set.made;have hsub:=PySem.F.called_set.sub;refine VV (codeAny_of_tree ?_);show UK _ _ (callAny (.type "set") _) _ _ _;refine UJ ⟨Ri _ td,Vr PySem.F.entry_type_call ?_⟩;rw [Around.under_plain (weight_type_call_type "set" [.ref l] []) rfl];have h1:=PySem.F.called_set.notType;have h2:=PySem.F.called_set.canCreate;have hct:=PySem.F.typeCall_set_1 (.ref l)
 repeat (any_goals (first | assumption | wp_step))
 generalize hob:({cls:= .type "set",dict:=none,data:= .set #[] 0 (.fresh 0 0 (!lY w))}:Obj)=ob;refine Vo (IX (P:=P) (w:=w) (.ref l) (E:=E) (Q₁:=λu s₁=>u= .ref s.heap.objs.size/\s₁={s with heap:=s.heap.push ob}) (by subst hob;exact⟨rfl,rfl⟩)) λr s₁ hr=>?_;cases r with
 | error e=>exact hr
 | ok fl=>
  cases fl with
  | ret u=>
   obtain⟨rfl,rfl⟩:=hr;have hS:(s.heap.push ob).get? s.heap.objs.size=some ob:=N2 _ (by subst hob;rfl);have hT:Shared.TypeIs {s with heap:=s.heap.push ob} (.ref s.heap.objs.size) "set":=⟨_,hS,by subst hob;rfl⟩;have hli:=PySem.F.called_set.init.lookup;have hbi:=PySem.F.called_set.init.bind (.ref s.heap.objs.size)
   repeat (any_goals (first | assumption | wp_step))
   refine Vo (Vl (R:=wants (λr s₂=>r= .none/\∃h' tk,s₂={s with heap:=h',toks:=tk}/\kD P w h' s.heap.objs.size (ss.foldl kl [])/\∀b o,s.heap.get? b=some o->h'.get? b=some o) E)
    PySem.F.called_set.init.plain PySem.F.entry_set_init (check_set_init_1 hT ?_)) λr₂ s₂ hr₂=>?_
   ·obtain⟨ol,o1,c1,nl,d1⟩:=hl;obtain⟨oc,od,oda,osl⟩:=ol;simp only at c1 d1;subst c1;subst d1;have o2:(s.heap.push ob).get? l=some {cls:= .type "list",dict:=od,data:= .seq items nl,slots:=osl}:=NJ _ o1;have q1:=PySem.F.sub_list_set;have q2:=PySem.F.sub_list_frozenset;have q3:(Q5 "list"==Q5 "dict")=false:=Ce
    have l1:(s.heap.push ob).IsList l items:=⟨_,o2,rfl,nl,rfl⟩;subst hob;unfold Builtin.«set.__init__» noKeywords Builtin.Frozenset.updateFrom;generalize hPI:pyIter=PI
    wp_walk
    subst hPI;refine Wo l1 ?_;refine UG (wpAny_runValue ?_);have ll:l < s.heap.objs.size:=NV o1;have sz:∀ob:Obj,(s.heap.push ob).objs.size=s.heap.objs.size+1:=λ_=>Qa _ _;have n1:∀ob:Obj,l≠(s.heap.push ob).objs.size:=λ_=>by rw [sz];exact OF (PY ll)
    have n2:∀ob:Obj,s.heap.objs.size ∉ [(s.heap.push ob).objs.size,l]:=λ_=>by
     rw [sz];simp only [NN,NX,or_false,not_or];exact⟨OF (QI _),QZ ll⟩
    have hv:∀(i:Nat)(v:UE),items[i]?=some v->∃t,v= .str ((λi=>(ss[i]?).getD (NF "")) i) t:=λi v e=>by
     rw [<-SK] at e;have:∀{vs:List UE}{ss:List Str},Va vs ss->∀(i:Nat)(v:UE),vs[i]?=some v->∃t,v= .str ((ss[i]?).getD (NF "")) t:=by
      intro vs ss x
      induction x with
      | nil=>intro i v e;simp at e
      | cons y t r ih=>
       intro i v e;cases i with
       | zero=>simp at e;exact⟨t,by rw [<-e];rfl⟩
       | succ i=>simp only [NS] at e⊢;exact ih i v e
     exact this hi i v e
    have hm:nY (λi=>(ss[i]?).getD (NF "")) items.size=ss.foldl kl []:=by
     have e:items.size=ss.length:=by rw [<-r6 hi,NY]
     unfold nY;rw [e];congr 1;apply TJ UC;intro i a b;simp at a b⊢;rw [O7 Uy];rfl
    refine IW (Uv (show A.in1.in1.in1.handled=none by simp [hh]) _ l (n1 _) items).toS s.heap.objs.size (n2 _) _ hv hb (items.size - 0) 0 _ Uy (PR _)
     ⟨⟨_,N2 _ rfl,rfl,rfl⟩,l1.push _⟩ ?hS0 ?hR
    case hS0=>
     exact kD.fresh (NJ _ hS)
    case hR=>
     intro s' m S';rw [hm] at S';obtain⟨h',g',d',tk',os'⟩:=s';obtain rfl:g'=s.gens:=m.gens;obtain rfl:d'=s.drawn:=m.drawn;obtain rfl:os'=s.os:=m.os;show UK _ _ _ _ _ _;refine UJ (UJ ⟨rfl,h',tk',rfl,S',λb o e=>?_⟩);have hb1:b < s.heap.objs.size:=NV e;refine m.heap b o ?_ (NJ _ (NJ _ e));rw [sz];simp only [NN,NX,or_false,not_or];exact⟨OF hb1,OF (PY hb1)⟩
   ·cases r₂ with
    | error e=>exact hr₂
    | ok fl₂=>
     cases fl₂ with
     | ret r=>
      obtain⟨rfl,h',tk,rfl,S',k'⟩:=hr₂
      repeat (any_goals (first | assumption | wp_step))
      exact h _ _ S' k'
     | _=>exact hr₂.elim
  | _=>exact hr.elim
end
theorem ni:Slot "set_iterator" "__next__" "set_iterator.__next__":=
 .of (owner:="set_iterator") (n:="__next__") (by rw [typeLookup_type,builtinLookup_eq_fast];kernel_rfl) td td td
  (by first | exact .inl td | exact .inr td) (by rw [isSubtype_type];kernel_rfl)
theorem tV:entryFor table "set_iterator.__next__"=some Builtin.«set_iterator.__next__»:=entryFor_of_tree (by kernel_rfl)
theorem CP:Manifest.owners.lookup (String.ofList ['r','o','t','a','r','e','t','i','_','t','e','s'].reverse)=some Manifest.sig_set_iterator:=by kernel_rfl
theorem tW(a:UE):argsOk "set_iterator.__next__" ⟨[a],[]⟩:=by
 unfold argsOk;rw [signature?_of (id:="set_iterator.__next__") (n:=['_','_','t','x','e','n','_','_']) (o:=['r','o','t','a','r','e','t','i','_','t','e','s']) (by kernel_rfl) CP];kernel_rfl
theorem IZ:entryFor table "set.__iter__"=some Builtin.«frozenset.__iter__»:=entryFor_alias (id':="frozenset.__iter__") (by kernel_rfl) rfl td (by kernel_rfl)
theorem wL{α:Type}:∀{l:List α}{i:Nat}(h:i < l.length),(l[i]::l.eraseIdx i).Perm l
 | a::l,0,h=>.refl _
 | a::l,i+1,h=>by
  have:=wL (l:=l) (i:=i) (by simpa using h);simp only [List.getElem_cons_succ,List.eraseIdx_cons_succ];exact(List.Perm.swap _ _ _).trans (this.cons a)
theorem CQ{α:Type}(next:Nat->Nat):∀(f k:Nat)(left:List α)(out:Array α),f=left.length->(pickOrder.go next f k left out).toList.Perm (out.toList++left)
 | 0,k,left,out,e=>by
  rw [RL e.symm];unfold pickOrder.go;simp
 | f+1,k,left,out,e=>by
  unfold pickOrder.go;have hlt:next k % left.length < left.length:=Nat.mod_lt _ Uy;rw [O7 hlt];refine(CQ next f (k+1) _ _ (by rw [R1 hlt];omega)).trans ?_;rw [Tt,Tp];exact List.Perm.append_left _ (wL hlt)
theorem I0{α:Type}(next:Nat->Nat)(xs:Array α):(Wj next xs).toList.Perm xs.toList:=by
 have:=CQ next xs.size 0 xs.toList #[] UC;simpa [Wj] using this
section
variable {P:US} {w:UU} {A:UX} {E:UE->UI->Prop}
theorem CS{α:Type}:∀(n:Nat)(xs:List α)(s:UI)(Q:List α->UI->Prop),n=xs.length->(∀ys d,ys.Perm xs->Q ys {s with drawn:=d})->UK (UL P w) A (drawOrder n xs) Q E s
 | 0,xs,s,Q,e,q=>by
  rw [RL e.symm] at q⊢;unfold drawOrder;exact UJ (q [] s.drawn (.refl _))
 | n+1,[],s,Q,e,q=>by cases e
 | n+1,x::xs,s,Q,e,q=>by
  unfold drawOrder;refine UG ?_;intro Γ p hΓ;refine⟨UC,?_⟩;generalize hi:(UL P w).w.draws .order (s.drawn.get .order)% (x::xs).length=i;have hlt:i < (x::xs).length:=by rw [<-hi];exact Nat.mod_lt _ UC
  have key:UK (UL P w) A (match (x::xs)[i]? with | some y=>(do return y::(<-drawOrder n ((x::xs).eraseIdx i))) | none=>unsupported "internal:drawOrder") Q E {s with drawn:=s.drawn.bump .order}:=by
   rw [O7 hlt];refine UG (CS n _ _ _ (by rw [R1 hlt];simp at e⊢;omega) λys d hp=>UJ (q _ d ?_));exact(hp.cons _).trans (wL hlt)
  exact key
end
def lZ(h:UR)(it:UH)(f:UE)(i:Nat)(a:UH)(n ep:Nat):Prop:=∃o,h.get? it=some o/\o.cls= .type "set_iterator"/\o.data= .fields #[f,.int i 0,.ref a,.int n 0,.int ep 0]
theorem lZ.typeIs{s:UI}{it f i a n ep}(x:lZ s.heap it f i a n ep):s.TypeIs (.ref it) "set_iterator":=let ⟨o,h,c,_⟩:=x;⟨o,h,c⟩
section
variable {P:US} {w:UU} {A:UX} {E:UE->UI->Prop} {s:UI} {a:UH} {o:Obj} {es:Array (Int×UE)} {ep:Nat} {t:VS}
theorem CT{slot i:Nat}{Q:Option (UE×Nat)->UI->Prop}(hb:lY w=true)(o1:s.heap.get? a=some o)(d1:o.data= .set es ep t)(f1:t.fits es.size=true)
 (h:Q (((Wj (w.params.setOrder a ep) es)[i]?).map λe=>(e.2,slot)) s):UK (UL P w) A (VW a slot i ep) Q E s:=by
 unfold VW setWalk setsByText;refine UG (Vu o1 d1 f1 (UG (UG (VA (UJ ?_)))));rw [UA (show(UL P w).w.params.followText "set-order"=true from hb)];rw [Uz UC];refine UG (UG (Vu o1 d1 f1 (UG (UG (VA (UJ ?_))))));rw [UA (show(UL P w).w.params.followText "set-order"=true from hb)];exact UG (VA (UJ (UJ h)))
theorem CU{slot i:Nat}{Q:Option (UE×Nat)->UI->Prop}(hb:lY w=false)(o1:s.heap.get? a=some o)(d1:o.data= .set es ep t)(f1:t.fits es.size=true)(hd:es.size<=1)(hl:t.led=true)
 (h:Q (match es[Rp t.place slot]?,t.place[Rp t.place slot]? with | some (_,x),some j=>some (x,j+1) | _,_=>none) s):UK (UL P w) A (VW a slot i ep) Q E s:=by
 unfold VW setsByText;refine UG (Vu o1 d1 f1 (UG (UG (VA (UJ ?_)))));rw [Uz (show ¬(UL P w).w.params.followText "set-order"=true from by show ¬lY w=true;rw [hb];decide)];show UK _ _ (if (!t.plain && decide (es.size > 1))=true then _ else _) _ _ _;rw [Uz (by simp;omega)];refine UG (m:=if (!t.led && !es.isEmpty)=true then unsupported "set:maker-not-led" else pure ()) ?_;rw [Uz (by simp [hl])];exact UJ (UJ h)
theorem Ja{it:UH}{slot slot' i:Nat}{x:UE}{Q:Option UE->UI->Prop}(hit:lZ s.heap it (.int slot 0) i a es.size ep)(o1:s.heap.get? a=some o)(d1:o.data= .set es ep t)(f1:t.fits es.size=true)
 (nx:∀E' Q',Q' (some (x,slot')) s->UK (UL P w) A.in1 (VW a slot i ep) Q' E' s)
 (hQ:∀h',lZ h' it (.int slot' 0) (i+1) a es.size ep->Qu it s.heap h'->Q (some x) {s with heap:=h'}):UK (UL P w) A (Vt (.ref it)) Q E s:=by
 obtain⟨u,u1,c1,e1⟩:=id hit;unfold Vt;refine UG (VO (U1 (name:=NF "__next__") hit.typeIs ni (U4 ni hit.typeIs tV ?_ (tW _))));unfold Builtin.«set_iterator.__next__»;refine UG (m:=slotArgs _ _ _) (UJ (UG (Wc u1 e1 ?_)));show UK _ _ (setEntries a >>=_) _ _ s;refine UG (VD o1 d1 f1 ?_);rw [Uz UC];show UK _ _ (VW a ((slot:Int)).toNat ((i:Int)).toNat ((ep:Int)).toNat >>=_) _ _ s;simp only [O8];refine UG (nx _ _ ?_);show UK _ _ (setField (.ref it) 0 (Vj (slot':Int)) >>=_) _ _ s;refine UG (Vn u1 e1 UC ?_);have g1:=Ph (SX (·.setIfInBounds 0 (Vj (slot':Int)))) u1 (Qy (PM e1 _));have k1:=PM e1 (·.setIfInBounds 0 (Vj (slot':Int)));refine UG (Vn g1 k1 UC (UJ ⟨x,rfl,UJ (hQ _ ?_ ((Px ..).trans (Px ..)))⟩));refine⟨_,Ph _ g1 (Qy (PM k1 _)),(Ru ..).trans ((Ru ..).trans c1),?_⟩;rw [PM k1];simp [Vj]
theorem Jb{it pl:UH}{i k:Nat}{hk:Int}{x:UE}{ol:Obj}{ps:Array UE}{nl:Nat}{Q:Option UE->UI->Prop}(hit:lZ s.heap it (.ref pl) i a es.size ep)(o1:s.heap.get? a=some o)(d1:o.data= .set es ep t)(f1:t.fits es.size=true)
 (l1:s.heap.get? pl=some ol)(l2:ol.data= .seq ps nl)(p1:ps[i]?=some (.int (k:Int) 0))(x1:es[k]?=some (hk,x))
 (hQ:∀h',lZ h' it (.ref pl) (i+1) a es.size ep->Qu it s.heap h'->Q (some x) {s with heap:=h'}):UK (UL P w) A (Vt (.ref it)) Q E s:=by
 obtain⟨u,u1,c1,e1⟩:=id hit;unfold Vt;refine UG (VO (U1 (name:=NF "__next__") hit.typeIs ni (U4 ni hit.typeIs tV ?_ (tW _))));unfold Builtin.«set_iterator.__next__»;refine UG (m:=slotArgs _ _ _) (UJ (UG (Wc u1 e1 ?_)));show UK _ _ (setEntries a >>=_) _ _ s;refine UG (VD o1 d1 f1 ?_);rw [Uz UC];show UK _ _ (seqItems? (.ref pl) >>=_) _ _ s;refine UG (Vi l1 l2 ?_);simp only [O8,p1];refine UG ?_;unfold setNextDrawn;refine UG (Vu o1 d1 f1 ?_);simp only [O8];rw [Uz UC,x1];refine UJ (UG (Vn u1 e1 UC (UJ ⟨x,rfl,UJ (hQ _ ?_ (Px ..))⟩)));refine⟨_,Ph _ u1 (Qy (PM e1 _)),(Ru ..).trans c1,?_⟩;rw [PM e1];simp [Vj]
theorem Jc{it:UH}{slot i:Nat}{Q:Option UE->UI->Prop}(hh:A.handled=none)(hit:lZ s.heap it (.int slot 0) i a es.size ep)(o1:s.heap.get? a=some o)(d1:o.data= .set es ep t)(f1:t.fits es.size=true)
 (nx:∀E' Q',Q' none s->UK (UL P w) A.in1 (VW a slot i ep) Q' E' s)
 (hQ:∀h',Tz it s.heap h'->Q none {s with heap:=h'}):UK (UL P w) A (Vt (.ref it)) Q E s:=by
 obtain⟨u,u1,c1,e1⟩:=id hit;unfold Vt;refine UG (VO (U1 (name:=NF "__next__") hit.typeIs ni (U4 ni hit.typeIs tV ?_ (tW _))));unfold Builtin.«set_iterator.__next__»;refine UG (m:=slotArgs _ _ _) (UJ (UG (Wc u1 e1 ?_)));show UK _ _ (setEntries a >>=_) _ _ s;refine UG (VD o1 d1 f1 ?_);rw [Uz UC];show UK _ _ (VW a ((slot:Int)).toNat ((i:Int)).toNat ((ep:Int)).toNat >>=_) _ _ s;simp only [O8];refine UG (nx _ _ ?_);show UK _ _ (setField (.ref it) 2 .none >>=_) _ _ s;refine UG (Vn u1 e1 UC ?_);refine UG (m:=newExc (.type "StopIteration") []) ?_;simp only [newExc,newTuple];refine UG (UZ ?_ (by size_fits));refine UG (m:=VI _ _) (VY (a:=P9) (by first | rfl | (simp only [VI];rfl)) ?_);refine UZ ?_ (by size_fits);simp only [raiseNew];refine UG (wpAny_handled ?_);rw [show A.in1.handled=none from hh];refine UG (UJ (wpAny_throw ?_));refine UG (V3 (T:="StopIteration") (b:=true) ⟨_,N2 _ rfl,rfl⟩ isSubtype_stop ?_);exact UJ (hQ _ (((Px ..).extBut.push _).push _))
theorem Jd{it pl:UH}{i:Nat}{ol:Obj}{ps:Array UE}{nl:Nat}{Q:Option UE->UI->Prop}(hh:A.handled=none)(hit:lZ s.heap it (.ref pl) i a es.size ep)(o1:s.heap.get? a=some o)(d1:o.data= .set es ep t)(f1:t.fits es.size=true)
 (l1:s.heap.get? pl=some ol)(l2:ol.data= .seq ps nl)(p1:ps[i]?=none)
 (hQ:∀h',Tz it s.heap h'->Q none {s with heap:=h'}):UK (UL P w) A (Vt (.ref it)) Q E s:=by
 obtain⟨u,u1,c1,e1⟩:=id hit;unfold Vt;refine UG (VO (U1 (name:=NF "__next__") hit.typeIs ni (U4 ni hit.typeIs tV ?_ (tW _))));unfold Builtin.«set_iterator.__next__»;refine UG (m:=slotArgs _ _ _) (UJ (UG (Wc u1 e1 ?_)));show UK _ _ (setEntries a >>=_) _ _ s;refine UG (VD o1 d1 f1 ?_);rw [Uz UC];show UK _ _ (seqItems? (.ref pl) >>=_) _ _ s;refine UG (Vi l1 l2 ?_);simp only [O8,p1];show UK _ _ (setField (.ref it) 0 (Vj 0) >>=_) _ _ s;refine UG (Vn u1 e1 UC ?_);have g1:=Ph (SX (·.setIfInBounds 0 (Vj 0))) u1 (Qy (PM e1 _));have k1:=PM e1 (·.setIfInBounds 0 (Vj 0));refine UG (Vn g1 k1 UC ?_);refine UG (m:=newExc (.type "StopIteration") []) ?_;simp only [newExc,newTuple];refine UG (UZ ?_ (by size_fits));refine UG (m:=VI _ _) (VY (a:=P9) (by first | rfl | (simp only [VI];rfl)) ?_);refine UZ ?_ (by size_fits);simp only [raiseNew];refine UG (wpAny_handled ?_);rw [show A.in1.handled=none from hh];refine UG (UJ (wpAny_throw ?_));refine UG (V3 (T:="StopIteration") (b:=true) ⟨_,N2 _ rfl,rfl⟩ isSubtype_stop ?_);exact UJ (hQ _ ((((Px ..).trans (Px ..)).extBut.push _).push _))
end
theorem CV:Slot "set_iterator" "__iter__" "set_iterator.__iter__":=
 .of (owner:="set_iterator") (n:="__iter__") (by rw [typeLookup_type,builtinLookup_eq_fast];kernel_rfl) td td td
  (by first | exact .inl td | exact .inr td) (by rw [isSubtype_type];kernel_rfl)
theorem Je:entryFor table "set_iterator.__iter__"=some Builtin.«dict_keyiterator.__iter__»:=entryFor_alias (id':="dict_keyiterator.__iter__") (by kernel_rfl) rfl td (by kernel_rfl)
theorem Jf(a:UE):argsOk "set_iterator.__iter__" ⟨[a],[]⟩:=by
 unfold argsOk;rw [signature?_of (id:="set_iterator.__iter__") (n:=['_','_','r','e','t','i','_','_']) (o:=['r','o','t','a','r','e','t','i','_','t','e','s']) (by kernel_rfl) CP];kernel_rfl
theorem lZ.at{h h':UR}{it f i a n ep}(x:lZ h it f i a n ep)(e:∀o,h.get? it=some o->h'.get? it=some o):lZ h' it f i a n ep:=let ⟨o,ho,r⟩:=x;⟨o,e _ ho,r⟩
section
variable {P:US} {w:UU} {A:UX} {E:UE->UI->Prop} {s:UI} {a:UH} {o:Obj} {es:Array (Int×UE)} {ep:Nat} {t:VS}
theorem CW{it:UH}{f:UE}{i n:Nat}{Q:UE->UI->Prop}(hit:lZ s.heap it f i a n ep)(h:Q (.ref it) s):UK (UL P w) A (pyIter (.ref it)) Q E s:=by
 refine wpAny_pyIter_slot hit.typeIs CV (U4 CV hit.typeIs Je ?_ (Jf _));exact UG (m:=slotArgs _ _ _) (UJ (UJ ⟨_,rfl,"set_iterator",_,hit.typeIs,ni.lookup,h⟩))
theorem CY(hh:A.handled=none)(it:UH)(hne:a≠it)(d1:o.data= .set es ep t)(f1:t.fits es.size=true)(vs:List UE)(hl:vs.length=es.size)(sl:Nat->Nat)
 (nx:∀(s:UI) (i:Nat) (h:i < vs.length) E' Q',s.heap.get? a=some o->Q' (some (vs[i],sl (i+1))) s->UK (UL P w) A.in1 (VW a (sl i) i ep) Q' E' s)
 (nd:∀(s:UI) E' Q',s.heap.get? a=some o->Q' none s->UK (UL P w) A.in1 (VW a (sl es.size) es.size ep) Q' E' s):
 Walks P w A it [it,a] [it] es.size (λi v=>vs[i]?=some v) (λi h=>lZ h it (.int (sl i:Nat) 0) i a es.size ep/\h.get? a=some o) where
 sub:=λb hb=>by rw [PL] at hb;simp [hb]
 frame:=λ_ _ _ st hk=>⟨st.1.at λo e=>hk it UC o e,hk a UC o st.2⟩
 item:=λi s Q E hi st hQ=>by
  have hi':i < vs.length:=Uy
  refine Ja st.1 st.2 d1 f1 (λE' Q' q=>nx s i hi' E' Q' st.2 q) λh' it' sb=>?_;exact hQ _ h' s.toks (by simp [hi']) ⟨it',by rw [sb.2 a hne];exact st.2⟩ λb u hb e=>sb.extBut b u (λz=>hb (by simp [z])) e
 done:=λs Q E st hQ=>Jc hh st.1 st.2 d1 f1 (λE' Q' q=>nd s E' Q' st.2 q) λh' he=>hQ h' s.toks λb u hb e=>he b u (λz=>hb (by simp [z])) e
 self:=λ_ _ _ _ st hQ=>CW st.1 hQ
theorem Jg(hh:A.handled=none)(it pl:UH)(hne:a≠it)(hnp:pl≠it)(d1:o.data= .set es ep t)(f1:t.fits es.size=true)(vs:List UE)(ks:List Nat){ol:Obj}{nl:Nat}(l2:ol.data= .seq (ks.map λ(k:Nat)=>RG (k:Int) 0).toArray nl)
 (hl:ks.length=es.size)(hv:∀i k:Nat,ks[i]?=some k->∃h x,es[k]?=some (h,x)/\vs[i]?=some x):
 Walks P w A it [it,a,pl] [it] es.size (λi v=>vs[i]?=some v) (λi h=>lZ h it (.ref pl) i a es.size ep/\h.get? a=some o/\h.get? pl=some ol) where
 sub:=λb hb=>by rw [PL] at hb;simp [hb]
 frame:=λ_ _ _ st hk=>⟨st.1.at λo e=>hk it UC o e,hk a UC o st.2.1,hk pl UC ol st.2.2⟩
 item:=λi s Q E hi st hQ=>by
  have hi':i < ks.length:=Uy
  obtain⟨h,x,e1,e2⟩:=hv i ks[i] (by simp [hi']);refine Jb st.1 st.2.1 d1 f1 st.2.2 l2 (k:=ks[i]) (by simp [hi']) e1 λh' it' sb=>?_;exact hQ _ h' s.toks e2 ⟨it',by rw [sb.2 a hne];exact st.2.1,by rw [sb.2 pl hnp];exact st.2.2⟩ λb u hb e=>sb.extBut b u (λz=>hb (by simp [z])) e
 done:=λs Q E st hQ=>Jd hh st.1 st.2.1 d1 f1 st.2.2 l2 (by simp [hl]) λh' he=>hQ h' s.toks λb u hb e=>he b u (λz=>hb (by simp [z])) e
 self:=λ_ _ _ _ st hQ=>CW st.1 hQ
theorem CZ{j k:Nat}:Rp #[j] k=if j < k then 1 else 0:=by
 unfold Rp;show Tu #[j] k 1 0 1=_;simp [Tu]
theorem Jh{ss:List Str}{Q:UE->UI->Prop}(hh:A.handled=none)(hS:kD P w s.heap a ss)
 (q:∀(I:UH) (h1:UR) (d1:Drawn) (vs:List UE) (fp wr:List UH) (n:Nat) (St:Nat->UR->Prop),(∀b u,s.heap.get? b=some u->h1.get? b=some u)->(∃ss',Va vs ss'/\ss'.Perm ss)->n=ss.length->
  Walks P w A I fp wr n (λi v=>vs[i]?=some v) St->St 0 h1->(∀b∈fp,b=a\/s.heap.objs.size<=b)->(∀b∈wr,s.heap.objs.size<=b)->vs.length=n->(∀b∈fp,b < h1.objs.size)->Q (.ref I) {s with heap:=h1,drawn:=d1}):
 UK (UL P w) A (pyIter (.ref a)) Q E s:=by
 obtain⟨o,o1,x1,es,ep,t,d1,el,⟨ss',s1,s2⟩,b1,f1,l1,p1⟩:=hS;have hT:s.TypeIs (.ref a) "set":=⟨o,o1,x1.1⟩;have la:a < s.heap.objs.size:=NV o1;have ln:es.size=ss.length:=by rw [<-s2.length_eq,<-r6 s1,NQ,NY]
 refine wpAny_pyIter_slot hT SM (U4 SM hT IZ ?_ (PySem.F.args_set_iter_1 _));unfold Builtin.«frozenset.__iter__»;refine UG (m:=Builtin.Frozenset.slot0 _ _) (UJ ?_);refine UG (m:=Builtin.Frozenset.sizeOf a) (UG (VD o1 d1 f1 (UJ ?_)));refine UG (m:=setDrawn a) ?_;unfold setDrawn setsByText;refine UG (Vu o1 d1 f1 (UG (UG (VA (UJ (UJ ?_))))));show UK _ _ (if (!(lY w) && (!t.plain && decide (es.size > 1)))=true then _ else _) _ _ _;have lastly:∀(f:UE)(h1:UR)(d:Drawn),h1.get? a=some o->(∀I h2,h2=h1.push {cls:= .type "set_iterator",data:= .fields #[f,.int (0:Nat) 0,.ref a,.int es.size 0,.int ep 0]}->I=h1.objs.size->Q (.ref I) {s with heap:=h2,drawn:=d})->
  UK (UL P w) A.in1 (setEpoch a >>=λe=>newFields "set_iterator" [f,Vj 0,.ref a,Vj es.size,Vj e] >>=λv=>ret v)
   (λfin s'=>∃v,fin= .done (.ret v)/\∃T' r,s'.TypeIs v T'/\typeLookup (.type T') "__next__"=pure (some r)/\Q v s') E {s with heap:=h1,drawn:=d}:=by
  intro f h1 d e1 k;refine UG (wpAny_setEpoch_of (s:={s with heap:=h1,drawn:=d}) e1 d1 f1 ?_);refine UG (UZ (UJ ?_));exact⟨_,rfl,"set_iterator",_,⟨_,N2 _ rfl,rfl⟩,ni.lookup,k _ _ rfl rfl⟩
 have szp:∀(h:UR)(ob:Obj),(h.push ob).objs.size=h.objs.size+1:=λ_ _=>Qa _ _;have n0:a≠s.heap.objs.size:=OF la;by_cases hdr:(!(lY w) && (!t.plain && decide (es.size > 1)))=true
 ·rw [UA hdr];refine UG (CS es.size (PD es.size) s _ UC λks d hp=>UG (m:=newTuple _) (UZ ?_ ?_))
  ·have lk:ks.length=es.size:=by rw [hp.length_eq,QY]
   refine lastly _ (s.heap.push _) d (NJ _ o1) λI h2 e2 eI=>?_;subst e2 eI;have k1:a≠(s.heap.push {cls:= .type "tuple",data:= .seq (ks.map λ(i:Nat)=>Vj i).toArray}).objs.size:=by rw [szp];exact OF (PY la)
   have k2:s.heap.objs.size≠(s.heap.push {cls:= .type "tuple",data:= .seq (ks.map λ(i:Nat)=>Vj i).toArray}).objs.size:=by rw [szp];exact OF (QI _)
   have pm:(ks.map λk=>((es[k]?).map (·.2)).getD .none).Perm (es.toList.map (·.2)):=by
    refine(hp.map _).trans (.of_eq ?_);apply TJ UC;intro i a b;simp at a b⊢;rw [Ra a];rfl
   obtain⟨ss2,q3,q4⟩:=tU pm s1;refine q _ _ d _ _ _ es.size _ (λb u e=>NJ _ (NJ _ e)) ⟨ss2,q3,q4.trans s2⟩ ln
    (Jg hh _ _ k1 k2 d1 f1 _ ks rfl lk (λi k e=>?_)) ⟨⟨_,N2 _ rfl,rfl,rfl⟩,NJ _ (NJ _ o1),NJ _ (N2 _ rfl)⟩ (λb hb=>?_) (λb hb=>?_) (by simp [lk]) (λb hb=>?_)
   ·have hk:k < es.size:=by
     have:=hp.mem_iff.mp (PK e);simpa using this
    refine⟨es[k].1,es[k].2,by simp [hk],?_⟩;rw [PX,e];simp [hk]
   ·simp only [NN,NX,or_false] at hb;rcases hb with rfl | rfl | rfl
    ·right;rw [szp];exact Q7 _
    ·left;rfl
    ·right;exact NT _
   ·rw [PL] at hb;rw [hb,szp];exact Q7 _
   ·simp only [NN,NX,or_false] at hb;rw [szp,szp];rcases hb with rfl | rfl | rfl
    ·rw [szp];exact QI _
    ·exact PY (PY la)
    ·exact PY (QI _)
  ·unfold sizeOk;simp [hp.length_eq];have:VG=4096:=rfl;have:UN=16777216:=by first | rfl | exact UT
   omega
 ·rw [Uz hdr];refine UG (UJ ?_);have e0:s={s with heap:=s.heap,drawn:=s.drawn}:=by cases s;rfl
  show UK _ _ _ _ _ {s with heap:=s.heap,drawn:=s.drawn};refine lastly _ s.heap s.drawn o1 λI h2 e2 eI=>?_;subst e2 eI;have fpa:∀b∈[s.heap.objs.size,a],b=a\/s.heap.objs.size<=b:=λb hb=>by
   simp only [NN,NX,or_false] at hb;rcases hb with rfl | rfl
   ·right;exact NT _
   ·left;rfl
  have wra:∀b∈[s.heap.objs.size],s.heap.objs.size<=b:=λb hb=>by rw [PL] at hb;rw [hb];exact NT _
  have fpl:∀(ob:Obj),∀b∈[s.heap.objs.size,a],b < (s.heap.push ob).objs.size:=λob b hb=>by
   rw [szp];simp only [NN,NX,or_false] at hb;rcases hb with rfl | rfl
   ·exact QI _
   ·exact PY la
  cases hb:lY w with
  | true=>
   have pm:=I0 (w.params.setOrder a ep) es;obtain⟨ss2,q3,q4⟩:=tU (pm.map (·.2)) s1;have lp:((Wj (w.params.setOrder a ep) es).toList.map (·.2)).length=es.size:=by rw [NQ,pm.length_eq,NY]
   refine q _ _ s.drawn _ _ _ es.size _ (λb u e=>NJ _ e) ⟨ss2,q3,q4.trans s2⟩ ln
    (CY hh _ n0 d1 f1 _ lp (λ_=>0) (λs i hi E' Q' g z=>CT hb g d1 f1 ?_) (λs E' Q' g z=>CT hb g d1 f1 ?_)) ⟨⟨_,N2 _ rfl,rfl,rfl⟩,NJ _ o1⟩ fpa wra lp (fpl _)
   ·have hi':i < (Wj (w.params.setOrder a ep) es).size:=by rw [<-NY,<-NQ (f:=(·.2))];exact hi
    rw [Ra hi'];simpa using z
   ·have:(Wj (w.params.setOrder a ep) es).size=es.size:=by rw [<-NY,pm.length_eq,NY]
    rw [RC Uy];exact z
  | false=>
   have hled:t.led=true:=by
    rcases l1 with l1 | l1
    ·rw [hb] at l1;cases l1
    ·exact l1
   have hsz:es.size<=1:=by
    rcases Te 1 es.size with z | z
    ·exfalso;apply hdr;rw [hb,p1 Uy];simpa using z
    ·exact z
   have hpl:t.place.size=es.size:=by
    simp only [SetTable.fits,Oh,beq_iff_eq] at f1;exact f1.1
   have lp:(es.toList.map (·.2)).length=es.size:=by rw [NQ,NY]
   refine q _ _ s.drawn _ _ _ es.size _ (λb u e=>NJ _ e) ⟨ss',s1,s2⟩ ln
    (CY hh _ n0 d1 f1 _ lp (λi=>if i=0 then 0 else t.place.getD 0 0+1) (λs i hi E' Q' g z=>CU hb g d1 f1 hsz hled ?_) (λs E' Q' g z=>CU hb g d1 f1 hsz hled ?_)) ⟨⟨_,N2 _ rfl,rfl,rfl⟩,NJ _ o1⟩ fpa wra lp (fpl _)
   ·have i0:i=0:=Uy
    subst i0;have h1:es.size=1:=Uy
    obtain⟨j,hj⟩:∃j,t.place=#[j]:=by
     have:t.place.toList.length=1:=by rw [NY];omega
     match hq:t.place.toList,this with
     | [j],_=>exact⟨j,by rw [<-SV (xs:=t.place),hq]⟩
    rw [hj] at z⊢;rw [UA rfl,CZ,Uz Uy];have:es[0]?=some es[0]:=by simp [h1]
    rw [this];simpa using z
   ·have hn:es[Rp t.place (if es.size=0 then 0 else t.place.getD 0 0+1)]?=none:=by
     by_cases h0:es.size=0
     ·rw [RC Uy]
     ·have h1:es.size=1:=Uy
      obtain⟨j,hj⟩:∃j,t.place=#[j]:=by
       have:t.place.toList.length=1:=by rw [NY];omega
       match hq:t.place.toList,this with
       | [j],_=>exact⟨j,by rw [<-SV (xs:=t.place),hq]⟩
      rw [hj,Uz h0,CZ,UA UC];rw [RC Uy]
    rw [hn];exact z
end
section
variable {P:US} {w:UU} {A:UX} {E:UE->UI->Prop} {s:UI} {a:UH}
theorem Ji{Q:Bool->UI->Prop}(hT:s.TypeIs (.ref a) "set")(h:Q false s):UK (UL P w) A (RT (.ref a)) Q E s:=by
 unfold RT;refine UG (wpAny_specialOf hT PySem.F.slot_set_len.lookup ?_);generalize hid:("set.__len__":String)=id0
 wp_delta
 rw [show splitId id0=some ("set","__len__") from by subst hid;decide+kernel];subst hid;refine UG (V3 (T:="set") (b:=true) hT (by rw [isSubtype_type];kernel_rfl) ?_);refine Wa (λz=>absurd z Ce) (λ_=>?_);refine Wa (λ_=>?_) (λz=>absurd td z);exact UG (V9 hT (UJ h))
theorem Jj{ss:List Str}{R:Result->UI->Prop}(hh:A.handled=none)(hS:kD P w s.heap a ss)(S:UH)(hSa:S≠a)(res:UE)(c₀:Nat)(l1:s.heap.get? S=some {cls:= .type "list",data:= .seq #[] c₀})(hn:ss.length<=4096)
 (hR:∀h' tk d acc c',(∀b u,b≠S->s.heap.get? b=some u->h'.get? b=some u)->h'.get? S=some {cls:= .type "list",dict:=none,data:= .seq acc c',slots:=#[]}->(∃ss',Va acc.toList ss'/\ss'.Perm ss)->R (.ok (.ret res)) {s with heap:=h',toks:=tk,drawn:=d}):
 UK (UL P w) A.in1 (RU (.ref S) (.ref a) res)
  (λfin s'=>match fin with | .done f=>R (.ok f) s' | .again c'=>c'.quiet=true/\Vy (UL P w) A c' R s') (λe s'=>R (.error e) s') s:=by
 obtain⟨o,o1,x1,rest⟩:=id hS;have hT:s.TypeIs (.ref a) "set":=⟨o,o1,x1.1⟩;have lS:S < s.heap.objs.size:=NV l1;unfold RU;refine UG (V9 hT ?_);have e1:Sk (.ref S) (.ref a)=false:=by simp [Sk,hSa]
 have e2:(Q5 "set"==Q5 "list")=false:=Ce
 have e3:(Q5 "set"==Q5 "tuple")=false:=Ce
 simp only [e1,e2,e3,OB,N1,if_false];refine UG (Jh (A:=A.in1) hh hS λI h1 d1 vs fp wr n St k1 sv en W st hf hw hlv hfl=>?_);have nf:S ∉ fp:=λz=>by
  rcases hf S z with e | e
  ·exact hSa e
  ·exact absurd lS (Nat.not_lt.mpr e)
 have key:∀(h:UR)(c₁ tk:Nat),St 0 h->(∀b u,b≠S->s.heap.get? b=some u->h.get? b=some u)->
  h.get? S=some {cls:= .type "list",data:= .seq #[] c₁}->Vy (UL P w) A (.builtin "list.extend.loop" ⟨[.ref S,.ref I,res],[]⟩) R {s with heap:=h,toks:=tk,drawn:=d1}:=by
  intro h c₁ tk hst hk g;refine codeAny_extend_loopS W.toS (Oz (by omega:n<=4096) Ce) S nf res n 0 _ #[] c₁ rfl (PR _) hst g (ItemsOf.nil _) λs' acc c' m gq hacc=>?_;obtain⟨h',g',d',tk',os'⟩:=s';obtain rfl:g'=s.gens:=m.gens;obtain rfl:d'=d1:=m.drawn;obtain rfl:os'=s.os:=m.os;refine hR h' tk' d' acc c' (λb u hb e=>m.heap b u (λz=>?_) (hk b u hb e)) gq ?_
  ·rcases NN.mp z with e' | z
   ·exact hb e'
   ·exact absurd (NV e) (Nat.not_lt.mpr (hw b z))
  ·have ea:acc.toList=vs:=by
    apply List.ext_getElem?;intro i;rcases Te i n with z | z
    ·have hz:i < acc.size:=by rw [hacc.1];exact z
     have:acc[i]?=some acc[i]:=Ra hz;rw [SK,this,hacc.2 i _ this]
    ·rw [Ql (by rw [NY,hacc.1];exact z),Ql Uy]
   rw [ea];exact sv
 have g1:=k1 S _ l1;refine UG (U8 (Ji (s:={s with heap:=h1,drawn:=d1}) ⟨o,k1 a o o1,x1.1⟩ ?_));refine Wa (λ_=>?_) (λ_=>UJ ⟨VZ Sb _,key _ c₀ _ st (λb u _ e=>k1 b u e) g1⟩);refine UG (VJ (UG ?_));show UK _ _ (updateSeq S (·.push .none) >>=λ_=>updateSeq S (·.pop)) _ _ {s with heap:=h1,drawn:=d1};refine UG (wpAny_updateSeq g1 rfl ?_);have g2:=Ph (Rn (·.push P9)) g1 rfl;refine wpAny_updateSeq (hz:=by seq_fits) g2 rfl ?_;have g3:=Ph (Rn (·.pop)) g2 rfl;refine UJ ⟨VZ Sb _,key _ _ _ (W.frame 0 _ _ st λb hb u e=>?_) (λb u hb e=>?_) g3⟩
 ·have hbS:b≠S:=λz=>nf (z▸hb);exact(PQ _ _ (Ne.symm hbS)).trans ((PQ _ _ (Ne.symm hbS)).trans e)
 ·exact(PQ _ _ (Ne.symm hb)).trans ((PQ _ _ (Ne.symm hb)).trans (k1 b u e))
theorem Jk{ss:List Str}{R:List UE->UI->Prop}(hh:A.handled=none)(hS:kD P w s.heap a ss)(hn:ss.length<=4096)
 (h:∀(h':UR) (tk:Nat) (d:Drawn) (vs:List UE),(∀b u,s.heap.get? b=some u->h'.get? b=some u)->(∃ss',Va vs ss'/\ss'.Perm ss)->R vs {s with heap:=h',toks:=tk,drawn:=d}):
 UK (UL P w) A (collect (.ref a)) R E s:=by
 have la:a < s.heap.objs.size:=by obtain⟨o,o1,_⟩:=id hS;exact NV o1
 unfold collect;refine UG (wpAny_runValue (Vr entry_proto_collect' ?_));rw [QE PySem.F.plain_proto_collect _];refine UG (m:=newList []) (UZ ?_);refine UJ ⟨VZ Sr _,Vr entry_list_iadd' ?_⟩;rw [QE Sr _];have g1:(s.heap.push {cls:= .type "list",data:= .seq ([]:List UE).toArray}).get? s.heap.objs.size=some {cls:= .type "list",data:= .seq #[]}:=N2 _ rfl;have key:=Jj (A:=A) (s:={s with heap:=s.heap.push {cls:= .type "list",data:= .seq ([]:List UE).toArray}})
  (R:=λ(q:Result) (s':UI)=>∃(h':UR)(tk:Nat)(d:Drawn)(acc:Array UE)(c':Nat),q= .ok (.ret (.ref s.heap.objs.size))/\s'={s with heap:=h',toks:=tk,drawn:=d}/\
   (∀b u,s.heap.get? b=some u->h'.get? b=some u)/\h'.get? s.heap.objs.size=some {cls:= .type "list",dict:=none,data:= .seq acc c',slots:=#[]}/\(∃ss',Va acc.toList ss'/\ss'.Perm ss))
  hh (hS.stay λu e=>NJ _ e) s.heap.objs.size (QZ la) (.ref s.heap.objs.size) 0 g1 hn
  (λh' tk d acc c' hk g' hacc=>⟨h',tk,d,acc,c',rfl,rfl,λb u e=>hk b u (OF (NV e)) (NJ _ e),g',hacc⟩)
 refine U2 key (λfin s' x=>?_) λe s' x=>?_
 ·cases fin with
  | done f=>
   obtain⟨h',tk,d,acc,c',e,rfl,hk,g',hacc⟩:=x;cases e;exact UG (m:=load s.heap.objs.size) (wpAny_load g' (UJ (h h' tk d acc.toList hk hacc)))
  | again c₁=>
   refine⟨x.1,Vo x.2 λq s₂ y=>?_⟩;obtain⟨h',tk,d,acc,c',rfl,rfl,hk,g',hacc⟩:=y;exact UG (m:=load s.heap.objs.size) (wpAny_load g' (UJ (h h' tk d acc.toList hk hacc)))
 ·obtain⟨_,_,_,_,_,e',_⟩:=x;cases e'
theorem Jl{ss:List Str}{Q:UE->UI->Prop}(hh:A.handled=none)(hS:kD P w s.heap a ss)(hn:ss.length < 64)
 (h:∀(h' h2:UR) (tk:Nat) (d:Drawn) (out:Array UE) (e:Nat) (ss':List Str),(∀b o,s.heap.get? b=some o->h'.get? b=some o)->(∀b o,h'.get? b=some o->h2.get? b=some o)->h2.get? h'.objs.size=some (seqObj "list" out e)->Va out.toList ss'->ss'.Perm ss->sortedS ss'=true->Q (.ref h'.objs.size) {s with heap:=h2,toks:=tk,drawn:=d}):
 UK (UL P w) A (call (.builtin "sorted") [.ref a]) Q E s:=by
 refine Calls.call_function_entry kind_sorted plain_sorted entry_sorted (args_sorted1 _) ?_;unfold Builtin.«sorted»;refine UG (m:=checkCount "sorted" 1 1 _) (UJ ?_);refine UG (Jk (A:=A.in1) hh hS Uy λh' tk d vs hk ⟨s1,sv,sp⟩=>?_);have hl:vs.length=ss.length:=by rw [r6 sv,sp.length_eq]
 refine UG (wpAny_newList ?_);have hoL:(h'.push (seqObj "list" vs.toArray 0)).get? h'.objs.size=some (seqObj "list" vs.toArray 0):=N2 _ rfl;refine UG (U8 (U4 slot_list_sort ⟨_,hoL,rfl⟩ entry_list_sort (list_sort_treeK (s:={s with heap:=h'.push (seqObj "list" vs.toArray 0),toks:=tk,drawn:=d}) strKind_oneLt hoL sv.keysOf (λv₁ v₂ rest e=>keyKind_strs (by rw [<-e];exact sv)) (by rw [hl];exact hn) λst' a1 a2=>⟨_,rfl,?_⟩) (args_list_sort _)));obtain⟨ss',h1,h2,h3⟩:=sorted_out_str sv a1 a2;obtain⟨e,he⟩:=sortedHeap_at (n:=0) (vs:=vs) (out:=(arrOf st').map (·.2)) hoL;refine UJ ⟨_,rfl,h h' _ tk d _ e ss' hk (λb o q=>?_) he h1 (h2.trans sp) h3⟩;have hlt:b < h'.objs.size:=NV q;rw [sortedHeap_old (OF hlt) (by rw [size_push'];exact PY hlt),Heap.get?_push_ne _ _ _ (OF hlt)];exact q
end
def wM(P:US)(w:UU)(a:UH)(ss:List Str):HO:= .ext λh=>kD P w h a ss
theorem ag.drw{X:Cx}{Wt:List (UH×Obj)}{σ:List (Option V)}{H:Hp}{s:UI}{d:Drawn}(I:ag X Wt σ H s):ag X Wt σ H {s with drawn:=d}:=⟨I.ok,I.os,I.bare,I.base,I.loc,I.cell,I.free,I.freeC,I.pin,I.hok,I.len⟩
theorem Jm{X:Cx}:kq X (.type "set") (λxs H Q=>X.calm=true/\∃(p:UH)(ss:List Str),xs=[.ref p]/\bj X.K H p (ss.map V.str)/\ss.length < 64/\∀l,H l=none->Q (.ref l) (ak H l (wM X.prog X.w l (ss.foldl kl [])))):=by
 intro Wt s σ H xs us Q I r h;obtain⟨hc,p,ss,rfl,hq,h64,q⟩:=h;obtain⟨u,rfl,rx⟩:=kY r;cases rx;obtain⟨its,rv,pl,hz⟩:=I.list hq;have hlen:=rv.length;rw [NQ] at hlen;refine IY (I.ok.hd hc) pl.isList (by simpa using wt rv) (by have:VG=4096:=rfl;simp;omega) λh' tk S' k'=>?_;refine⟨.ref _,_,I.laid (t':=tk) (o:=wM X.prog X.w _ (ss.foldl kl [])) k' (NT _) ?_,rfl,q _ (I.hok.fresh (NT _))⟩;obtain⟨o,e,_⟩:=id S';exact⟨S',⟨o,e⟩,λh1 h2 x k=>x.stay k⟩
theorem Jn{X:Cx}:kq X (.builtin "sorted") (λxs H Q=>X.calm=true/\∃(a:UH)(ss:List Str),xs=[.ref a]/\H a=some (wM X.prog X.w a ss)/\ss.length < 64/\∀l,H l=none->Q (.ref l) (ak H l (.lst ((kL ss).map V.str)))):=by
 intro Wt s σ H xs us Q I r h;obtain⟨hc,a,ss,rfl,ha,h64,q⟩:=h;obtain⟨u,rfl,rx⟩:=kY r;cases rx;obtain⟨hS,_⟩:=I.hok a _ ha;refine Jl (I.ok.hd hc) hS h64 λh' h2 tk d out e ss' k1 k2 at2 s1 s2 s3=>?_;have es:ss'=kL ss:=wq s2 (Cj _ s3);subst es;have hl2:(kL ss).length=ss.length:=s2.length_eq;have I1:ag X Wt σ H {s with heap:=h',toks:=tk,drawn:=d}:=(I.kept (t':=tk) k1).drw;refine⟨.ref _,_,I1.laid (t':=tk) (o:= .lst ((kL ss).map V.str)) k2 (NT _) ?_,rfl,q _ (I1.hok.fresh (NT _))⟩;refine⟨by rw [NQ,hl2];exact Oz (Rc h64) Ce,out.toList,e,wu s1,?_⟩;rw [at2]
theorem C0:∀(l ss:List Str),(l.foldl kl ss).length<=ss.length+l.length
 | [],ss=>by simp
 | a::l,ss=>by
  have:=C0 l (kl ss a);have h:(kl ss a).length<=ss.length+1:=by unfold kl;split <;> simp
  simp only [Qf,NI];omega
theorem Jo:U0 "set"=some (.type "set"):=td
section
variable {X:Cx} {H0:Hp} {O0:Ex}
def fj(t:DA):DA:=λδ Q=>t δ λds=>∃ss:List Str,ds=[.list (ss.map .str)]/\ss.length < 64/\Q ((kL (ss.foldl kl [])).map .str)
theorem Jp{a:UO}{t:DA}{np p np' p':Pos}(hc:X.calm=true)(hg:Gl X "sorted")(hm:X.mg "sorted"=none)(hv:U0 "sorted"=some (.builtin "sorted"))(hg':Gl X "set")(hm':X.mg "set"=none)(ha:PA X [a] (me X.K H0 O0 t))
 (he:UM [a] X.env=(false,eval a X.env)::UM [] X.env:=by rfl)(hpl:(U3 p' (UM [] X.env)).any (·.1)=false:=by rfl)
 (he':UM [.Call (.Name "set" np') [a] [] p'] X.env=(false,eval (.Call (.Name "set" np') [a] [] p') X.env)::UM [] X.env:=by rfl)(hpl':(U3 p (UM [] X.env)).any (·.1)=false:=by rfl):
 FE X H0 O0 (.Call (.Name "sorted" np) [.Call (.Name "set" np') [a] [] p'] [] p) (fj t):=
 (aT Jn hg hm hv (aN (cw Jm hg' hm' Jo ha (he:=he) (hpl:=hpl)) bF he') (he:=he') (hpl:=hpl')).imp λσ H Q ⟨O,δ,Qd,w,q,k⟩=>⟨O,δ,_,w,q,λds vs H1 uu4 s1 r1=>by
  obtain⟨ss,e,h64,q1⟩:=uu4;subst e;cases r1 with
  | cons h r=>
   cases r;obtain⟨a,us,rfl,h1,d1⟩:=h.lst;cases d1.strs;refine⟨hc,a,ss,rfl,h1,h64,λl hl=>⟨hc,l,_,rfl,bh,by have:=C0 ss [];simp at this;omega,λl2 hl2=>?_⟩⟩;exact k _ _ _ _ q1 (s1.trans (ao.new hl)) hl2 (aq.ofStrs _)⟩
def jl(i:Nat)(t:DA):DS:=λE δ=>∃ds,δ[i]?=some (some (.o ds))/\t δ λes=>ds.length+es.length<=UN/\E.nx (δ.set i (some (.o (ds++es))))
end
theorem aq.intsL{K:NG}{H:Hp}{O:Ex}:∀{ns:List Int}{vs:List V},aq K H O vs (ns.map NW)->vs=ns.map V.int
 | [],_,r=>by rw [Od] at r;cases r;rfl
 | b::bs,_,r=>by
  rw [NM] at r;cases r with
  | cons h r=>cases h;rw [NM,aq.intsL r]
def jm:List UD->(UD->Prop)->Prop:=λds Q=>∃ns:List Int,ds=[.list (ns.map .int)]/\ns≠[]/\∀M,M∈ns->(∀a∈ns,a<=M)->Q (.int M)
section
variable {X:Cx} {H0:Hp} {O0:Ex}
def jn(i:Nat)(dg:DG)(tb:DS):DS:=λE δ=>∃kd,δ[i]?=some (some (.k kd))/\pA dg tb E (kd.map λp=>oN p.1) (δ.set i none)
end
def cJ:List (DT×DT)->Dl->(List (UD×UD)->Prop)->Prop
 | [],_,Q=>Q []
 | (a,b)::r,δ,Q=>a δ λx=>b δ λy=>cJ r δ λps=>Q ((x,y)::ps)
section
variable {X:Cx} {H0:Hp} {O0:Ex}
def jo(trs:List (DT×DT)):rZ:=λδ Q=>cJ trs δ λps=>∃kd:List (aZ×UD),ps=kd.map (λp=>(oN p.1,p.2))/\kd.length<=15/\(∀p∈kd,cj p.2=true)/\Q (kd.foldl (λa p=>CI a p.1 p.2) [])
def jq(i j k:Nat)(t:DA):DS:=λE δ=>t δ λds=>∃x y z,ds=[x,y,z]/\E.nx (((δ.set i (some (.v x))).set j (some (.v y))).set k (some (.v z)))
end
def wN(p q:Int×Str):Bool:=decide (p.1 < q.1) || (decide (p.1=q.1) && decide (p.2.cps.toList < q.2.cps.toList))
section
variable {X:Cx} {Wt:List (UH×Obj)} {σ:St} {H:Hp} {s:UI}
theorem ag.track{o:HO}{D:UH}{ch:List UH}{t':Nat}{h':UR}(I:ag X Wt σ H s)(hD:D∈ch)(f:∀b∈ch,mn X Wt H b)(k:∀b u,b ∉ ch->s.heap.get? b=some u->h'.get? b=some u)(new:bE X.prog X.w (ak H D o) h' D o):ag X Wt σ (ak H D o) {s with heap:=h',toks:=t'}:=by
 have nC:∀b u,H b=some u->b ∉ ch:=λb u e z=>by rw [(f b z).1] at e;cases e
 have nD:∀b u,H b=some u->b≠D:=λb u e z=>nC b u e (by rw [z];exact hD);refine I.step (g':=s.gens) (d':=s.drawn) (ch:=ch) (λb hb=>?_) (λb o _ _ hc e _=>k b o hc e) (λb o _ _ hc e _=>⟨o.slots,k b o hc e⟩) (λb o hc _ n=>by rw [av (λz=>hc (by rw [z];exact hD))];exact n)
  (λb o hc e=>⟨o,k b o hc e⟩) (λb xs e=>by rw [av (nD _ _ e)];exact e) (λb u xs e=>by rw [av (nD _ _ e)];exact e) (λb ps e=>⟨#[],by rw [av (nD _ _ e),e];simp⟩) (λm hm=>hm.at' λo e=>k _ o (λz=>(f _ z).2.1 rfl) e) (λb u e=>?_) I.bare
 ·obtain⟨f0,f1,f2,f3,f4,f5⟩:=f b hb;exact⟨f3,f1,f4,f5⟩
 ·by_cases hb:b=D
  ·subst hb;rw [bh] at e;cases e;exact new
  ·rw [av hb] at e;refine(I.hok b u e).stay (λc v hc q=>k c v (λz=>?_) q) (λc q=>by rw [av (nD _ _ q)];exact q) (λc xs q=>by rw [av (nD _ _ q)];exact q) (λc xs q=>by rw [av (nD _ _ q)];exact q);rcases hc with r | r
   ·subst r;exact nC _ _ e z
   ·exact nC _ _ r z
def sd(p:Int×Str):UD:= .tuple [.int p.1,.str p.2]
end
section
variable {X:Cx} {H0:Hp} {O0:Ex}
def jr(t:DA):DA:=λδ Q=>t δ λds=>∃ps:List (Int×Str),ds=[.list (ps.map sd)]/\ps.length < 64/\ps.Nodup/\∀ps':List (Int×Str),ps'.Perm ps->ps'.Pairwise (λa b=>wN a b=true)->Q (ps'.map sd)
def jt(F:List UD->(UD->Prop)->Prop)(kf:UD->Int×Str)(t:DA):DA:=λδ Q=>t δ λds0=>∃ds,ds0=[.list ds]/\(∀d∈ds,∀R:UD->Prop,R (sd (kf d))->F [d] R)/\ds.length < 64/\(ds.map kf).Nodup/\∀ds',ds'.Perm ds->ds'.Pairwise (λa b=>wN (kf a) (kf b)=true)->Q ds'
end
section
open PySem.SeqAt
open PySem.AutoSeq1 (wpAny_loadPart')
open PySem.MeetsSeq PySem.MeetsSeq2 PySem.MeetsSeq3
end
def ju:UD->UD->(UD->Prop)->Prop:=λx y Q=>∃p q:Int×Str,x=sd p/\y=sd q/\Q (.bool (wN p q))
section
variable {X:Cx} {H0:Hp} {O0:Ex}
def Jq(tc:DB)(tb:DS):DS:=λE δ=>∃W:Nat->Dl->Prop,(∃m,W m δ)/\∀m δ,W m δ->tc δ λb=>if b=true then tb {E with nx:=λδ'=>∃m',m' < m/\W m' δ',ct:=λδ'=>∃m',m' < m/\W m' δ',bk:=E.nx} δ else E.nx δ
theorem C1{c:UO}{body:List UW}{tc:DB}{tb:DS}{pos:Pos}(hp:PassesOwn (UL X.prog X.w) X.A X.env X.xe)(hc:PT X c (fy X.K H0 O0 tc))(hb:bJ X body (j3 X.K H0 O0 tb)):PS X (.While c body [] pos) (j3 X.K H0 O0 (Jq tc tb)):=
 (A6 hp hc hb).imp λD σ H uu5=>by
  obtain⟨O,δ,E,w,⟨W,⟨m0,w0⟩,st⟩,k1,k2,k3,k4⟩:=uu5;refine⟨λm σ' H'=>∃O' δ',Wd X.K H0 O0 H' O' σ' δ'/\bz H H' O O'/\W m δ',⟨m0,O,δ,w,bz.refl _ _,w0⟩,λm σ1 H1 ⟨O1,δ1,w1,S1,q1⟩=>⟨O1,δ1,_,w1,st m δ1 q1,λb H2 q2 s2=>?_⟩⟩;cases b with
  | false=>
   rw [Uz UC] at q2⊢;exact k1 O1 δ1 σ1 H2 q2 (w1.mono s2) (S1.trans (.same s2))
  | true=>
   rw [UA rfl] at q2⊢;refine⟨λσ' H'=>∃O' δ' m',m' < m/\Wd X.K H0 O0 H' O' σ' δ'/\bz H H' O O'/\W m' δ',λσ' H' uu7=>by obtain⟨O',δ',m',lt,w',S',q'⟩:=uu7;exact⟨m',lt,O',δ',w',S',q'⟩,O1,δ1,_,w1.mono s2,q2,?_,k2,?_,?_⟩
   ·rintro O' δ' σ' H' ⟨m',lt,q'⟩ w' S';exact⟨O',δ',m',lt,w',S1.trans ((bz.same s2).trans S'),q'⟩
   ·intro O' δ' σ' H' q' w' S';exact k1 O' δ' σ' H' q' w' (S1.trans ((bz.same s2).trans S'))
   ·rintro O' δ' σ' H' ⟨m',lt,q'⟩ w' S';exact⟨O',δ',m',lt,w',S1.trans ((bz.same s2).trans S'),q'⟩
abbrev C2(ks:List Str)(ds:List UD):UD:=BU (ks.map .str) ds
def jv(i:Nat)(t:DS):DS:=λE δ=>∃kd,δ[i]?=some (some (.k kd))/\∃ks:List Str,kd.map (·.1)=ks.map Rl/\t E (δ.set i (some (.v (C2 ks (kd.map (·.2))))))
def wO:List Str->List UD->Str->Option UD
 | k::ks,d::ds,z=>if k=z then some d else wO ks ds z
 | _,_,_=>none
def jw(to tk:DT):DT:=λδ Q=>to δ λx=>∃ks ds,x=C2 ks ds/\tk δ λy=>∃z,y= .str z/\∃d,wO ks ds z=some d/\Q d
def jx(to t:DT):DT:=λδ Q=>to δ λx=>∃ss:List Str,x= .list (ss.map .str)/\t δ λy=>∃z,y= .str z/\z∈ss/\Q (.int (ss.idxOf z:Nat))
def jy(t:DA):DA:=λδ Q=>t δ λds=>∃n k:Int,ds=[.int 0,.int n,.int k]/\0<=n/\n < 1000/\0 < k/\k < 1000/\∀js:List Int,(∀j∈js,0<=j/\j < n)->js.length<=1000->Q (js.map .int)
def jz(t:DT)(g:DG)(tc:DB)(te:DT)(k:Nat)(fr:List Nat):DA:=λδ Q=>cD t g tc te k fr δ Q\/cE t g tc te k fr δ Q
end
theorem Jr{fr:List Nat}{σ:St}{v u:Option V}:oy (bC 2 fr σ) (((bC 2 fr σ).set 0 v).set 1 u):=by
 refine⟨UC,λi w h=>?_⟩
 match i with
 | 0=>simp [bC,NO] at h
 | 1=>simp [bC,NO] at h
 | i+2=>simpa [bC,NO] using h
theorem Js{K:NG}{n:Nat}:oE (qZ K n (p7 (nJ 0) (p7 (nJ 1) qY))) 2:=λfr σ v H' R uu8=>by obtain⟨a,xs,e,h1,h2,x,r,e1,y,r2,e2,e3,h⟩:=uu8;exact⟨a,xs,e,h1,h2,x,r,e1,y,r2,e2,e3,Jr,h⟩
section
variable {X:Cx} {H0:Hp} {O0:Ex}
theorem mi{T:String}{a c:UO}{t:DT}{np p:Pos}{K':NG}(hK:X.K=K')(hg:Gl X "isinstance")(hm:X.mg "isinstance"=none)(hv:U0 "isinstance"=some (.builtin "isinstance"))(ha:DF X H0 O0 a t)(hc:PE X c (tC (.ty T)))
 (hs:UM [a,c] X.env=(false,eval a X.env)::UM [c] X.env:=by rfl)(hs2:UM [c] X.env=[(false,eval c X.env)]:=by rfl)(hb:(U3 p (UM [c] X.env)).any (·.1)=false:=by rfl):DE X H0 O0 (.Call (.Name "isinstance" np) [a,c] [] p) (cG K' T t):=by
 subst hK;exact HC hg hm hv ha hc hs hs2 hb
end
def C3(K:NG):R2:=λx y H Q=>∃a b xs ys,x= .ref a/\y= .ref b/\aX K H a xs/\aX K H b ys/\xs.length+ys.length<=UN/\(xs=[]->Q (.ref b) H)/\(xs≠[]->vI K x y H Q)
theorem nj{X:Cx}:bu X (Vh .Add) (C3 X.K):=by
 intro Wt s σ H x y v u Q I rx ry h;obtain⟨a,b,xs,ys,rfl,rfl,ha,hb,hz,q0,q1⟩:=h;by_cases hx:xs=[]
 ·subst hx;cases rx;cases ry;obtain⟨its,r1,⟨⟨c1,d1,da1,s1⟩,o1,k1,n1,e1⟩,_⟩:=I.tuple ha;obtain⟨its2,r2,⟨⟨c2,d2,da2,s2⟩,o2,k2,n2,e2⟩,_⟩:=I.tuple hb;simp only at k1 e1 k2 e2;subst k1 e1 k2 e2;cases r1;exact concat_meets ⟨_,o1,rfl⟩ ⟨_,o2,rfl⟩ Wq seq_tuple_add Ry Rq (Rg _ _)
   (tuple_addW0 a b _ its2.toArray n1 n2 d1 d2 s1 s2 UC) ⟨o1,o2,.ref b,H,I,rfl,q0 rfl⟩
 ·exact Gm Wt s σ H _ _ v u Q I rx ry (q1 hx)
def fk:UD->UD->(UD->Prop)->Prop:=λx y Q=>∃xs ys,x= .tuple xs/\y= .tuple ys/\xs.length+ys.length<=UN/\Q (.tuple (xs++ys))
theorem nk{K:NG}:cz K (C3 K) fk:=λH O x y dx dy Qd R tr hx hy uu9 k=>by
 obtain⟨xs,ys,e1,e2,hz,q⟩:=uu9;subst e1 e2;have hx0:=hx;have hy0:=hy;obtain⟨a,vs,rfl,h1,d1⟩:=hx.tup;obtain⟨b,us,rfl,h2,d2⟩:=hy.tup;refine⟨a,b,vs,us,rfl,rfl,h1,h2,by rw [d1.length,d2.length];exact hz,λz=>?_,λz=>?_⟩
 ·subst z;cases d1;rw [N8] at q;cases hy0 with
  | dt hy0=>exact k _ _ H q (ao.refl _) hy0
 ·exact Hz H O _ _ _ _ Qd R tr hx0 hy0 ⟨xs,ys,rfl,rfl,λe=>z (by subst e;cases d1;rfl),hz,q⟩ k
def C4(f:Str)(d:UD):List (Str×UD)->List (Str×UD)
 | []=>[(f,d)]
 | (g,x)::r=>if g=f then(g,d)::r else(g,x)::C4 f d r
section
variable {X:Cx} {H0:Hp} {O0:Ex}
def jA(C:UH)(i:Nat)(f:Str)(t:DT):DS:=λE δ=>t δ λd=>∃l fd,δ[i]?=some (some (.i l C fd))/\fd.length < 1000/\E.nx (δ.set i (some (.i l C (C4 f d fd))))
end
section
variable {X:Cx} {H0:Hp} {O0:Ex}
def jB(C:UH)(f:Str)(t:DT):DT:=λδ Q=>t δ λx=>∃ks ds d,x=BS C (ks.map .str) ds/\wO ks ds f=some d/\Q d
end
def Jt(ss:List Int)(x:Int):List Int:=if x∈ss then ss else ss++[x]
section
variable {X:Cx} {H0:Hp} {O0:Ex}
def jC(t:DA):DA:=λδ Q=>t δ λds=>∃ss:List Int,ds=[.list (ss.map .int)]/\ss.length < 4000/\(ss.foldl Jt []).length < 64/\∀ns:List Int,(∀z,z∈ns↔z∈ss)->ns.Pairwise (· < ·)->Q (ns.map .int)
end
def C5:Nat->List UD->List UD
 | _,[]=>[]
 | k,x::r=>.tuple [.int (k:Int),x]::C5 (k+1) r
section
variable {X:Cx} {H0:Hp} {O0:Ex}
def jD(t:DA)(g:DG)(tb:DS):DS:=λE δ=>t δ λds=>∃xs,ds=[.list xs]/\pA g tb E (C5 0 xs) δ
end
def jE:List UD->(UD->Prop)->Prop:=λds Q=>∃i j:Int,ds=[.int i,.int j]/\bV i j/\Q (.tuple [.int (i / j),.int (i % j)])
def fq:List UD->(UD->Prop)->Prop:=λds Q=>∃ns:List Int,ds=[.list (ns.map .int)]/\Q (.int ns.sum)
theorem C6{K:NG}:mK K (λxs H Q=>∃(a:UH)(ns:List Int),xs=[.ref a]/\bj K H a (ns.map V.int)/\Q (.int ns.sum) H) fq:=λH O xs ds Qd R tr hs uu10 k=>by
 obtain⟨ns,e,q⟩:=uu10;subst e;cases hs with
 | cons h r=>
  cases r;obtain⟨a,vs,rfl,h1,d1⟩:=h.lst;cases d1.intsL;exact⟨a,ns,rfl,h1,k _ _ H q (ao.refl _) (.int _)⟩
def jF:List UD->(UD->Prop)->Prop:=λds Q=>∃ns:List Int,ds=[.list (ns.map .int)]/\ns≠[]/\∀M,M∈ns->(∀a∈ns,M<=a)->Q (.int M)
def jG(c:Int->Int->Prop):UD->UD->(UD->Prop)->Prop:=λx y Q=>∃i j:Int,x= .int i/\y= .int j/\c i j/\∀r:Int,Q (.int r)
section
variable {X:Cx} {H0:Hp} {O0:Ex}
def jH(n:Nat)(t:DA):DA:=λδ Q=>t δ λds=>ds.length<=1000/\Q (NO n ds).flatten
theorem aq.rep{K:NG}{H:Hp}{O:Ex}{vs:List V}{ds:List UD}(h:aq K H O vs ds):∀n:Nat,aq K H O (NO n vs).flatten (NO n ds).flatten
 | 0=>.nil
 | n+1=>by rw [Qh,Qh,Qe,Qe];exact h.append (aq.rep h n)
def jI(i:Nat)(t:DT):DS:=λE δ=>∃ds,δ[i]?=some (some (.o ds))/\t δ λd=>∃es,d= .list es/\ds.length+es.length<=UN/\E.nx (δ.set i (some (.o (ds++es))))
end
end L2
namespace Day
def mO(y:Int):Bool:=decide (y % 400=0) || (decide (y % 4=0) && !decide (y % 100=0))
def ld(y:Int):Int:=if mO y=true then 1 else 0
def wQ:List Int:=[31,28,31,30,31,30,31,31,30,31,30,31]
def aW(y m:Int):Int:=if m=2/\mO y=true then 29 else wQ.getD (m - 1).toNat 0
def lb(y:Int):Int:=(y - 1)/ 4 - (y - 1)/ 100+(y - 1)/ 400
def bb(y:Int):Int:=365*(y - 2000)+lb y - lb 2000
def aH(y m:Int):Int:=((PD (m - 1).toNat).map λ(i:Nat)=>aW y (1+(i:Int))).sum
def lE(y m n:Int):Int:=bb y+aH y m+n - 1
structure k8 (d y m n:Int):Prop where
 m1:1<=m
 m12:m<=12
 n1:1<=n
 nl:n<=aW y m
 eq:lE y m n=d
theorem Ju(y:Int):0<=ld y/\ld y<=1:=by unfold ld;split <;> omega
theorem wR(y:Int):mO y=true↔(y % 400=0\/(y % 4=0/\y % 100≠0)):=by
 unfold mO;simp
theorem tX(y:Int):bb (y+1)=bb y+365+ld y:=by
 unfold bb lb ld;by_cases h:mO y=true
 ·rw [UA h];have:=(wR y).mp h;omega
 ·rw [Uz h];have:=mt (wR y).mpr h;omega
theorem tY{a b:Int}(h:a+1<=b):bb (a+1)<=bb b:=by
 unfold bb lb;omega
theorem wU(y:Int):aW y 2=28+ld y:=by
 unfold aW ld;by_cases h:mO y=true
 ·rw [UA ⟨rfl,h⟩,UA h];rfl
 ·rw [Uz (λz=>h z.2),Uz h];rfl
theorem C7{y m:Int}(h:m≠2):aW y m=wQ.getD (m - 1).toNat 0:=by
 unfold aW;rw [Uz (λz=>h z.1)]
theorem tZ(y:Int):aW y 1=31/\aW y 3=31/\aW y 4=30/\aW y 5=31/\aW y 6=30/\aW y 7=31/\aW y 8=31/\aW y 9=30/\aW y 10=31/\aW y 11=30/\aW y 12=31:=by
 refine⟨?_,?_,?_,?_,?_,?_,?_,?_,?_,?_,?_⟩ <;> (rw [C7 Ce];rfl)
theorem wV{m:Int}(h1:1<=m)(h2:m<=12):m=1\/m=2\/m=3\/m=4\/m=5\/m=6\/m=7\/m=8\/m=9\/m=10\/m=11\/m=12:=by
 obtain⟨k,e⟩:=OX (show 0<=m - 1 by omega);have e:m=(k:Int)+1:=Uy
 have hk:k < 12:=Uy
 have key:∀k:Fin 12,((k.1:Nat):Int)+1=1\/((k.1:Nat):Int)+1=2\/((k.1:Nat):Int)+1=3\/((k.1:Nat):Int)+1=4\/((k.1:Nat):Int)+1=5\/((k.1:Nat):Int)+1=6\/((k.1:Nat):Int)+1=7\/((k.1:Nat):Int)+1=8\/((k.1:Nat):Int)+1=9\/((k.1:Nat):Int)+1=10\/((k.1:Nat):Int)+1=11\/((k.1:Nat):Int)+1=12:=td
 rw [e];exact key ⟨k,hk⟩
theorem qx{y m:Int}(h1:1<=m)(h2:m<=12):28<=aW y m/\aW y m<=31:=by
 obtain⟨m1,m3,m4,m5,m6,m7,m8,m9,m10,m11,m12⟩:=tZ y;have m2:28<=aW y 2/\aW y 2<=31:=by
  have:=Ju y;rw [wU];clear m1 m3 m4 m5 m6 m7 m8 m9 m10 m11 m12 h1 h2;omega
 have k:∀{z:Int},z=31\/z=30->28<=z/\z<=31:=λh=>by rcases h with h | h <;> rw [h] <;> decide
 rcases wV h1 h2 with h | h | h | h | h | h | h | h | h | h | h | h <;> subst h
 ·exact k (.inl m1)
 ·exact m2
 ·exact k (.inl m3)
 ·exact k (.inr m4)
 ·exact k (.inl m5)
 ·exact k (.inr m6)
 ·exact k (.inl m7)
 ·exact k (.inl m8)
 ·exact k (.inr m9)
 ·exact k (.inl m10)
 ·exact k (.inr m11)
 ·exact k (.inl m12)
theorem qy(y:Int):aH y 1=0:=rfl
theorem kU{y m:Int}(h:1<=m):aH y (m+1)=aH y m+aW y m:=by
 unfold aH;have e:(m+1 - 1).toNat=(m - 1).toNat+1:=Uy
 rw [e,QQ,PZ,Sx];have e2:(1:Int)+(((m - 1).toNat:Nat):Int)=m:=Uy
 simp only [NM,Od,Qq,Th,e2];omega
theorem Jv{a b c:Int}(l:Int)(h:a+b=c):a+(b+l)=c+l:=Uy
theorem nr{a b c:Int}(l:Int)(h:a+b=c):a+l+b=c+l:=Uy
theorem se(y:Int):aH y 1=0/\aH y 2=31/\aH y 3=59+ld y/\aH y 4=90+ld y/\aH y 5=120+ld y/\aH y 6=151+ld y/\aH y 7=181+ld y/\aH y 8=212+ld y/\aH y 9=243+ld y/\aH y 10=273+ld y/\aH y 11=304+ld y/\aH y 12=334+ld y/\aH y 13=365+ld y:=by
 obtain⟨m1,m3,m4,m5,m6,m7,m8,m9,m10,m11,m12⟩:=tZ y;have e2:aH y 2=31:=by rw [show aH y 2=aH y 1+aW y 1 from kU (m:=1) Ce,m1];rfl
 have e3:aH y 3=59+ld y:=by rw [show aH y 3=aH y 2+aW y 2 from kU (m:=2) Ce,e2,wU];exact Jv _ rfl
 have e4:aH y 4=90+ld y:=by rw [show aH y 4=aH y 3+aW y 3 from kU (m:=3) Ce,e3,m3];exact nr _ rfl
 have e5:aH y 5=120+ld y:=by rw [show aH y 5=aH y 4+aW y 4 from kU (m:=4) Ce,e4,m4];exact nr _ rfl
 have e6:aH y 6=151+ld y:=by rw [show aH y 6=aH y 5+aW y 5 from kU (m:=5) Ce,e5,m5];exact nr _ rfl
 have e7:aH y 7=181+ld y:=by rw [show aH y 7=aH y 6+aW y 6 from kU (m:=6) Ce,e6,m6];exact nr _ rfl
 have e8:aH y 8=212+ld y:=by rw [show aH y 8=aH y 7+aW y 7 from kU (m:=7) Ce,e7,m7];exact nr _ rfl
 have e9:aH y 9=243+ld y:=by rw [show aH y 9=aH y 8+aW y 8 from kU (m:=8) Ce,e8,m8];exact nr _ rfl
 have e10:aH y 10=273+ld y:=by rw [show aH y 10=aH y 9+aW y 9 from kU (m:=9) Ce,e9,m9];exact nr _ rfl
 have e11:aH y 11=304+ld y:=by rw [show aH y 11=aH y 10+aW y 10 from kU (m:=10) Ce,e10,m10];exact nr _ rfl
 have e12:aH y 12=334+ld y:=by rw [show aH y 12=aH y 11+aW y 11 from kU (m:=11) Ce,e11,m11];exact nr _ rfl
 have e13:aH y 13=365+ld y:=by rw [show aH y 13=aH y 12+aW y 12 from kU (m:=12) Ce,e12,m12];exact nr _ rfl
 exact⟨qy y,e2,e3,e4,e5,e6,e7,e8,e9,e10,e11,e12,e13⟩
theorem C8{y m:Int}(h1:1<=m):∀k:Nat,m+k<=13->aH y m<=aH y (m+k)
 | 0,_=>by simp
 | k+1,h=>by
  have ih:=C8 (y:=y) h1 k Uy;have e:m+((k+1:Nat):Int)=(m+k)+1:=Uy
  rw [e,kU Uy];have:=qx (y:=y) (m:=m+k) Uy Uy;omega
theorem wX{y m m':Int}(h1:1<=m)(h2:m<=m')(h3:m'<=13):aH y m<=aH y m':=by
 have:=C8 (y:=y) h1 (m' - m).toNat Uy;rw [show m+(((m' - m).toNat:Nat):Int)=m' by omega] at this;exact this
theorem t4{y m:Int}(h1:1<=m)(h2:m<=12):0<=aH y m/\aH y m+aW y m<=365+ld y:=by
 have a:=wX (y:=y) (m:=1) (m':=m) Ce h1 Uy;have b:=wX (y:=y) (m:=m+1) (m':=13) Uy Uy Ce;rw [kU h1] at b;have c:=(se y).1;have e:=(se y).2.2.2.2.2.2.2.2.2.2.2.2;omega
theorem C9{y m m':Int}(h1:1<=m)(h2:m < m')(h3:m'<=12):aH y m+aW y m<=aH y m':=by
 have b:=wX (y:=y) (m:=m+1) (m':=m') Uy Uy Uy;rw [kU h1] at b;exact b
theorem k8.in{d y m n:Int}(h:k8 d y m n):bb y<=d/\d < bb (y+1):=by
 have:=t4 (y:=y) h.m1 h.m12;have:=h.n1;have:=h.nl;have e:=h.eq;have:=tX y;unfold lE at e;omega
theorem k8.uniq{d y m n y' m' n':Int}(h:k8 d y m n)(h':k8 d y' m' n'):y=y'/\m=m'/\n=n':=by
 have a:=h.in;have b:=h'.in;have ey:y=y':=by
  rcases Tv y y' with z | z | z
  ·have:=tY (a:=y) (b:=y') Uy;omega
  ·exact z
  ·have:=tY (a:=y') (b:=y) Uy;omega
 subst ey;have e:=h.eq;have e':=h'.eq;unfold lE at e e';have em:m=m':=by
  rcases Tv m m' with z | z | z
  ·have:=C9 (y:=y) h.m1 z h'.m12;have:=h.nl;have:=h'.n1;omega
  ·exact z
  ·have:=C9 (y:=y) h'.m1 z h.m12;have:=h'.nl;have:=h.n1;omega
 subst em;exact⟨rfl,rfl,Uy⟩
def pP(d:Int):Int:=
 if d < bb (2000+d*400 / 146097) then 2000+d*400 / 146097 - 1
 else if bb (2000+d*400 / 146097+1)<=d then 2000+d*400 / 146097+1
 else 2000+d*400 / 146097
theorem Dc(d:Int):bb (pP d)<=d/\d < bb (pP d+1):=by
 unfold pP;have e:2000+d*400 / 146097 - 1+1=2000+d*400 / 146097:=Uy
 by_cases h:d < bb (2000+d*400 / 146097)
 ·rw [UA h,e];refine⟨?_,h⟩;unfold bb lb at*;omega
 ·rw [Uz h];by_cases h2:bb (2000+d*400 / 146097+1)<=d
  ·rw [UA h2];refine⟨h2,?_⟩;unfold bb lb at*;omega
  ·rw [Uz h2];omega
theorem Jw(y:Int):365*(y - 2000)+(y - 2000+3)/ 4 - (y - 2000+99)/ 100+(y - 2000+399)/ 400=bb y:=by
 unfold bb lb;omega
theorem Jx{d:Int}(h:0<=d):bb (2000+d / 366)<=d:=by
 unfold bb lb;omega
theorem t6{d y m n:Int}(h:k8 d y m n)(h0:0<=d)(h1:d < bb 10000):2000<=y/\y<=9999:=by
 have a:=h.in;have e0:bb 2000=0:=Ce
 constructor
 ·by_cases z:2000<=y
  ·exact z
  ·have:=tY (a:=y) (b:=2000) Uy;omega
 ·by_cases z:y<=9999
  ·exact z
  ·have m1:bb 10000<=bb y:=by
    have:=tY (a:=9999) (b:=y) Uy;exact this
   omega
end Day
namespace L2
open PySem PySem.Spec PyProof.Rows PySem.W
def d2(m:Nat):List Nat:=[48+m / 10,48+m % 10]
def d4(y:Nat):List Nat:=[48+y / 1000,48+y / 100 % 10,48+y / 10 % 10,48+y % 10]
theorem wY:∀m:Fin 100,Txt.zfill (NF (toString (m.val:Int))) 2=⟨(d2 m.val).toArray⟩:=td
theorem qz:∀m:Fin 100,Ro ⟨(d2 m.val).toArray⟩=some (m.val:Int):=td
theorem Jy:∀d:Fin 10,(Ub d.val).toNat=48+d.val:=Ce
theorem t8{d:Nat}(h:d < 10):(Ub d).toNat=48+d:=Jy ⟨d,h⟩
theorem ua{y:Nat}(h1:1000<=y)(h2:y < 10000):NF (toString (y:Int))=⟨(d4 y).toArray⟩:=by
 have e:=KIN.signs_num y;rw [Rr Ce Uy,Rr Ce Uy,Rr Ce Uy,Nat.toDigits_of_lt_base Uy] at e;simp only [N4,N8,NM,Od] at e;rw [t8 Uy,t8 Uy,t8 Uy,t8 Uy] at e;rw [show y / 10 / 10 / 10=y / 1000 by omega,show y / 10 / 10 % 10=y / 100 % 10 by omega] at e;show _=(⟨(d4 y).toArray⟩:Str);cases hs:NF (toString (y:Int)) with
 | mk c=>
  rw [hs] at e;congr 1;apply TV;rw [e];rfl
theorem wZ{y:Nat}(h1:1000<=y)(h2:y < 10000):Ro ⟨(d4 y).toArray⟩=some (y:Int):=by
 rw [<-ua h1 h2];exact KIN.num_reads Uy Uy
def qA(y m n:Nat):List Nat:=d4 y++45::(d2 m++45::d2 n)
def kW(y m n:Int):Str:=⟨(qA y.toNat m.toNat n.toNat).toArray⟩
theorem Str.ext_list{a b:Str}(h:a.cps.toList=b.cps.toList):a=b:=by
 cases a;cases b;congr 1;exact TV h
theorem xE(a b:Str):(a++b).cps.toList=a.cps.toList++b.cps.toList:=by
 show(a.cps++b.cps).toList=_;exact Qs
theorem Jz{y m n:Int}(hy:1000<=y/\y < 10000)(hm:0<=m/\m < 100)(hn:0<=n/\n < 100):
 RH++NF (toString y)++NF "-"++Txt.zfill (NF (toString m)) 2++NF "-"++Txt.zfill (NF (toString n)) 2=kW y m n:=by
 obtain⟨y,rfl⟩:=OX (show 0<=y by omega);obtain⟨m,rfl⟩:=OX hm.1;obtain⟨n,rfl⟩:=OX hn.1;have e1:=ua (y:=y) Uy Uy;have e2:=wY ⟨m,Uy⟩;have e3:=wY ⟨n,Uy⟩;simp only at e2 e3;rw [e1,e2,e3];apply Str.ext_list;simp only [xE];have h1:(NF "-").cps.toList=[45]:=td
 have h2:Str.empty.cps.toList=[]:=rfl;rw [h1,h2];simp [kW,qA]
def km(c:Nat):List Nat->List (List Nat)
 | []=>[[]]
 | x::xs=>if x=c then []::km c xs else match km c xs with | []=>[[x]] | p::ps=>(x::p)::ps
def lF(c:Nat):List (List Nat)->List Nat
 | []=>[]
 | [p]=>p
 | p::q::r=>p++c::lF c (q::r)
theorem xF(c:Nat):∀l,km c l≠[]
 | []=>by simp [km]
 | x::xs=>by
  unfold km;split
  ·simp
  ·split <;> simp
theorem xG(c:Nat):∀p:List Nat,c ∉ p->km c p=[p]
 | [],_=>rfl
 | x::xs,h=>by
  have hx:x≠c:=λe=>h (by simp [e]);have hr:c ∉ xs:=λe=>h (by simp [e]);unfold km;rw [Uz hx,xG c xs hr]
theorem uc(c:Nat)(l:List Nat):∀p:List Nat,c ∉ p->km c (p++c::l)=p::km c l
 | [],_=>by show km c (c::l)=_;rw [km,UA rfl]
 | x::xs,h=>by
  have hx:x≠c:=λe=>h (by simp [e]);have hr:c ∉ xs:=λe=>h (by simp [e]);show km c (x::(xs++c::l))=_;rw [km,Uz hx,uc c l xs hr]
theorem xH(c:Nat):∀ps:List (List Nat),ps≠[]->(∀p∈ps,c ∉ p)->km c (lF c ps)=ps
 | [],h,_=>absurd rfl h
 | [p],_,h=>xG c p (h p UC)
 | p::q::r,_,h=>by
  show km c (p++c::lF c (q::r))=_;rw [uc c _ p (h p UC),xH c (q::r) UC (λx hx=>h x (by simp at hx⊢;exact .inr hx))]
theorem pQ(c:Nat):∀ps:List Str,(QL ⟨#[c]⟩ ps).cps.toList=lF c (ps.map λp=>p.cps.toList)
 | []=>rfl
 | [p]=>rfl
 | p::q::r=>by
  have ih:=pQ c (q::r);show((p++⟨#[c]⟩++QL ⟨#[c]⟩ (q::r)):Str).cps.toList=_;rw [xE,xE,ih];show p.cps.toList++[c]++lF c _=p.cps.toList++c::lF c _;simp
theorem qB(x:Str)(c:Nat):(Txt.split x ⟨#[c]⟩).map (λp=>p.cps.toList)=km c x.cps.toList:=by
 have hj:=RV x ⟨#[c]⟩;have hf:=StrLaws.split_free x c;by_cases hn:Txt.split x ⟨#[c]⟩=[]
 ·exfalso
  revert hn
  unfold Txt.split;split
  ·simp
  ·split
   ·simp
   ·intro h;have:=RV x ⟨#[c]⟩;have hl:=congrArg QU h;rw [PyProof.Rows.len_partsBetween] at hl;simp at hl
 ·rw [<-hj,pQ,xH c _ (by simpa using hn) (λp hp=>by
   obtain⟨q,hq,rfl⟩:=Pa.mp hp;exact hf q hq)]
  rw [hj]
theorem JA{y m n:Int}:Txt.split (kW y m n) (NF "-")=[⟨(d4 y.toNat).toArray⟩,⟨(d2 m.toNat).toArray⟩,⟨(d2 n.toNat).toArray⟩]:=by
 have e:NF "-"=⟨#[45]⟩:=td
 rw [e];have h:=qB (kW y m n) 45;have e2:(kW y m n).cps.toList=d4 y.toNat++45::(d2 m.toNat++45::d2 n.toNat):=by simp [kW,qA]
 rw [e2,uc 45 _ _ (by simp [d4];omega),uc 45 _ _ (by simp [d2];omega),xG 45 _ (by simp [d2];omega)] at h;have inj:∀{a b:List Str},a.map (λp=>p.cps.toList)=b.map (λp=>p.cps.toList)->a=b:=λ{a b} h=>by
  induction a generalizing b with
  | nil=>cases b with
   | nil=>rfl
   | cons _ _=>simp at h
  | cons x xs ih=>cases b with
   | nil=>simp at h
   | cons z zs=>
    simp only [NM,NP] at h;rw [Str.ext_list h.1,ih h.2]
 exact inj (h.trans UC)
theorem Dd(y m n:Int):(kW y m n).length=10:=by simp [kW,qA,d4,d2,Str.length]
section
variable {X:Cx} {H0:Hp} {O0:Ex}
theorem JB:rD X "str.join" (λx xs H Q=>∃(O:Ex)(z:Str)(a:V)(ys:List Str),x= .str z/\xs=[a]/\Sh X.K H O a (.tuple (ys.map .str))/\(ys.map (·.length)).sum+ys.length*z.length<=16777216/\Q (.str (Txt.join z ys)) H):=by
 intro Wt s σ H x xs v us Q I rx rs h;obtain⟨O,z,a,ys,rfl,rfl,ha,hz,q⟩:=h;obtain⟨t,rfl⟩:=rx;obtain⟨u,rfl,ru⟩:=kY rs;obtain⟨l,vs,rfl,hl,dl⟩:=ha.tup;cases ru;obtain⟨its,rv,pl,_⟩:=I.tuple hl;exact join_tuple pl (by simpa using B6 dl rv) hz λt' k=>⟨.str _,H,I.tok _,⟨_,rfl⟩,q⟩
def ft(to:DT)(t:DT):DT:=λδ Q=>to δ λx=>∃z:Str,x= .str z/\t δ λy=>∃(ys:List Str),y= .tuple (ys.map .str)/\(ys.map (·.length)).sum+ys.length*z.length<=16777216/\Q (.str (Txt.join z ys))
theorem De{o e:UO}{to t:DT}{apos cpos:Pos}(ho:DE X H0 O0 o to)(ha:DF X H0 O0 e t)(hbase:Vs o "join" X.env (eval o X.env)=eval o X.env:=by rfl)
 (hfew:((U3 cpos (UM [e] X.env)).all (λx=>!x.1) && (Wb cpos (VQ [] X.env)).all (λx=>x.1.isSome) && decide ([e].length+([]:List VE).length+(if ([]:List VE).isEmpty then 0 else 1) < 30))=true:=by rfl)
 (hline:(apos.endLine==cpos.line)=true:=by rfl)(hst:UM [e] X.env=(false,eval e X.env)::UM [] X.env:=by rfl)(hplain:(U3 cpos (UM [] X.env)).any (·.1)=false:=by rfl):
 DE X H0 O0 (.Call (.Attribute o "join" apos) [e] [] cpos) (ft to t):=
 (rE QV SG SH JB ho (aN ha bF hst) hbase hfew hline hst hplain).imp λσ H Q uu11=>by obtain⟨O,δ,Qd,w,q,k⟩:=uu11;exact⟨O,δ,_,w,q,λx v H1 uu12 s1 r1=>by
  obtain⟨z,e,q1⟩:=uu12;subst e;cases r1;exact⟨rfl,O,δ,_,w.mono s1,q1,λy u H2 uu13 s2 r2=>by obtain⟨ys,e,hz,q2⟩:=uu13;subst e;exact⟨O,z,u,ys,rfl,rfl,r2,hz,k _ _ H2 q2 (s1.trans s2) (.str _)⟩⟩⟩
def fu(t:DA)(u:DT):DA:=λδ Q=>t δ λds=>ds.length<=1000/\u δ λy=>∃i:Int,y= .int i/\0<=i/\i<=1000/\Q (NO i.toNat ds).flatten
theorem JC{e f:UO}{t:DA}{u:DT}{pos:Pos}(h:FE X H0 O0 e t)(hf:DE X H0 O0 f u):FE X H0 O0 (.BinOp e .Mult f pos) (fu t u):=
 (bM Bx h hf).imp λσ H Q ⟨O,δ,Qd,w,q,k⟩=>⟨O,δ,_,w,q,λds vs p H1 q1 s1 hp r1=>⟨O,δ,_,w.mono (s1.trans (ao.new hp)),q1.2,λy v H2 uu15 s2 r2=>by
  obtain⟨i,e,i0,i1,q2⟩:=uu15;subst e;cases r2;refine⟨p,i,vs,rfl,rfl,s2 _ _ bh,Uy,Uy,?_,λp' hp'=>k _ _ p' _ q2 ((s1.trans (ao.new hp)).trans s2) hp' ((r1.rep i.toNat).mono ((ao.new hp).trans s2))⟩;have h1:=r1.length;have h2:(UN:Nat)=16777216:=Ce
  have h3:=q1.1;have h4:vs.length*i.toNat<=1000*1000:=Nat.mul_le_mul Uy Uy;omega⟩⟩
end
open PySem PySem.Spec PyProof.Rows PySem.W PySem.Calls
section
variable {prog:US} {w:UU} {A:UX} {E:UE->UI->Prop} {s:UI}
theorem Df{j t:UH}{i:Nat}{its:Array UE}{x:UE}{Q:UE->UI->Prop}(hi:s.heap.IsTupleIter j t i)(ht:s.heap.IsTuple t its)(hx:its[i]?=some x)
 (k:∀h2,h2.IsTupleIter j t (i+1)->Qu j s.heap h2->Q x {s with heap:=h2}):UK (UL prog w) A (PU (.ref j)) Q E s:=by
 obtain⟨oi,e1,c1,d1⟩:=id hi;obtain⟨ot,e2,_,n2,d2⟩:=ht;unfold PU;refine UG (U1 (name:=NF "__next__") hi.typeIs F.slot_tuple_iterator_next (U4 F.slot_tuple_iterator_next hi.typeIs F.entry_tuple_iterator_next ?_ (F.args_tuple_iterator_next_1 _)))
 (show UK _ _ (field (.ref j) 0 >>=_) _ _ s);refine UG (U9 e1 d1 (x:= .ref t) rfl ?_)
 (show UK _ _ (if (Ow t==P9)=true then _ else _) _ _ s);rw [Uz (show ¬((Ow t==P9)=true) from Oq)]
 (show UK _ _ (field (.ref j) 1 >>=_) _ _ s);refine UG (U9 e1 d1 (x:= .int i 0) rfl ?_)
 (show UK _ _ (seqItems? (.ref t) >>=_) _ _ s);refine UG (Vi e2 d2 ?_)
 simp only [O8,hx];refine UG (Vn e1 d1 UC (UJ ⟨x,rfl,UJ (k _ ?_ (Px ..))⟩));exact⟨_,Ph _ e1 (Qy (PM d1 _)),(Ru ..).trans c1,by rw [PM d1];simp [Vj]⟩
theorem JD{j t:UH}{i:Nat}{its:Array UE}{Q:UE->UI->Prop}(hh:A.handled=none)(hi:s.heap.IsTupleIter j t i)(ht:s.heap.IsTuple t its)(hx:its[i]?=none)
 (k:∀h2 e,Tz j s.heap h2->(∃o,h2.get? e=some o/\o.cls= .type "StopIteration")->E (.ref e) {s with heap:=h2}):UK (UL prog w) A (PU (.ref j)) Q E s:=by
 obtain⟨oi,e1,c1,d1⟩:=id hi;obtain⟨ot,e2,_,n2,d2⟩:=ht;unfold PU;refine UG (U1 (name:=NF "__next__") hi.typeIs F.slot_tuple_iterator_next (U4 F.slot_tuple_iterator_next hi.typeIs F.entry_tuple_iterator_next ?_ (F.args_tuple_iterator_next_1 _)))
 (show UK _ _ (field (.ref j) 0 >>=_) _ _ s);refine UG (U9 e1 d1 (x:= .ref t) rfl ?_)
 (show UK _ _ (if (Ow t==P9)=true then _ else _) _ _ s);rw [Uz (show ¬((Ow t==P9)=true) from Oq)]
 (show UK _ _ (field (.ref j) 1 >>=_) _ _ s);refine UG (U9 e1 d1 (x:= .int i 0) rfl ?_)
 (show UK _ _ (seqItems? (.ref t) >>=_) _ _ s);refine UG (Vi e2 d2 ?_)
 simp only [O8,hx];refine UG (VJ (UG (Vn e1 d1 UC ?_)))
 (show UK _ _ (newExc (.type "StopIteration") [] >>=_) _ _ _);refine UG ?_;simp only [newExc,newTuple]
 refine UG (UZ ?_ (by size_fits));refine UG (m:=VI _ _) (VY (a:=P9) (by first | rfl | (simp only [VI];rfl)) ?_);refine UZ ?_ (by size_fits);simp only [raiseNew];refine UG (wpAny_handled ?_)
 first | rw [show A.in1.handled=none from hh] | rw [hh]
 refine UG (UJ (wpAny_throw ?_));exact k _ _ (((Px ..).extBut.push _).push _) ⟨_,N2 _ rfl,rfl⟩
theorem JE{z TI TO i1 i2 l1 l2:UH}{k1 k2:Nat}{xs ys:Array UE}{x y a b:UE}{Q:UE->UI->Prop}(D:We z TI TO i1 i2 l1 l2)
 (hz:VR s.heap z TI TO .none)(hI:Vm s.heap TI (.ref i1) (.ref i2))(hO:Vm s.heap TO a b)(h1:s.heap.IsTupleIter i1 l1 k1)(h2:s.heap.IsTupleIter i2 l2 k2)(t1:s.heap.IsTuple l1 xs)(t2:s.heap.IsTuple l2 ys)(hx:xs[k1]?=some x)(hy:ys[k2]?=some y)
 (k:∀g,VR g z TI TO (Vj s.heap.objs.size)->Vm g TO x y->g.IsTupleIter i1 l1 (k1+1)->g.IsTupleIter i2 l2 (k2+1)->Vm g s.heap.objs.size x y->g.objs.size=s.heap.objs.size+1->
  (∀c o,c≠z->c≠TO->c≠i1->c≠i2->s.heap.get? c=some o->g.get? c=some o)->Q (.ref s.heap.objs.size) {s with heap:=g}):
 UK (UL prog w) A (Builtin.«zip.__next__» ⟨[.ref z],[]⟩) (λfin s'=>∃v,fin= .done (.ret v)/\Q v s') E s:=by
 (show UK _ _ (field (.ref z) 2 >>=_) _ _ _);refine UG (U9 hz rfl (x:= .bool false) rfl ?_)
 (show UK _ _ (field (.ref z) 3 >>=_) _ _ _);refine UG (U9 hz rfl (x:= .ref TI) rfl ?_);refine UG (Vi hI rfl ?_)
 (show UK _ _ (Qb (.ref z) >>=_) _ _ _);refine UG ?_;unfold Qb
 refine UG (U9 hz rfl (x:= .none) rfl (UJ ?_));simp only [if_true];refine UG (VJ ?_);refine UG (U9 hz rfl (x:= .ref TO) rfl ?_);refine UG (VH hz UC λg1 z1 b1=>?_)
 replace z1:VR g1 z TI TO .ellipsis:=z1
 refine UG ?_;simp only [TK,TY,Sw,SE];refine UG (UG (Wn ?_));(show UK _ _ (PU (.ref i1) >>=_) _ _ _);refine UG (Df (h1.extBut b1.extBut D.i1z) (t1.extBut b1.extBut D.l1z) hx λg2 j2 b2=>UJ ?_);have o2:Vm g2 TO a b:=b2.extBut _ _ D.TOi1 (b1.extBut _ _ D.TOz hO);refine UG (Vi o2 rfl ?_);refine UG (wpAny_updateSeq_pair o2 λg3 o3 b3=>?_)
 replace o3:Vm g3 TO x b:=o3
 refine UG (wpAny_letGo (UJ ?_));refine UG (UG (Wn ?_));(show UK _ _ (PU (.ref i2) >>=_) _ _ _);refine UG (Df (((h2.extBut b1.extBut D.i2z).extBut b2.extBut D.i12.symm).extBut b3.extBut D.TOi2.symm) (((t2.extBut b1.extBut D.l2z).extBut b2.extBut D.l2i1).extBut b3.extBut D.l2TO) hy λg4 j4 b4=>UJ ?_);have o4:Vm g4 TO x b:=b4.extBut _ _ D.TOi2 o3;refine UG (Vi o4 rfl ?_);refine UG (wpAny_updateSeq_pair o4 λg5 o5 b5=>?_)
 replace o5:Vm g5 TO x y:=o5
 refine UG (wpAny_letGo (UJ (UJ ?_)));refine UG (Vi o5 rfl ?_);refine UG (wpAny_newTuple ?_);have sz:g5.objs.size=s.heap.objs.size:=by rw [b5.1,b4.1,b3.1,b2.1,b1.1]
 have z5:VR g5 z TI TO .ellipsis:=b5.extBut _ _ D.TOz.symm (b4.extBut _ _ D.i2z.symm (b3.extBut _ _ D.TOz.symm (b2.extBut _ _ D.i1z.symm z1)));have k5:∀c o,c≠z->c≠TO->c≠i1->c≠i2->s.heap.get? c=some o->g5.get? c=some o:=λc o c1 c2 c3 c4 e=>b5.extBut _ _ c2 (b4.extBut _ _ c4 (b3.extBut _ _ c2 (b2.extBut _ _ c3 (b1.extBut _ _ c1 e))));have j15:g5.IsTupleIter i1 l1 (k1+1):=((j2.extBut b3.extBut D.TOi1.symm).extBut b4.extBut D.i12).extBut b5.extBut D.TOi1.symm;have j25:g5.IsTupleIter i2 l2 (k2+1):=j4.extBut b5.extBut D.TOi2.symm;have zl:z < g5.objs.size:=NV z5
 (show UK _ _ (Rk (.ref z) (.ref g5.objs.size) >>=_) _ _ _);refine UG ?_;unfold Rk
 have z6:VR (g5.push {cls:= .type "tuple",data:= .seq #[x,y]}) z TI TO .ellipsis:=NJ _ z5;refine UG (VH z6 UC λg7 z7 b7=>?_)
 replace z7:VR g7 z TI TO (Vj g5.objs.size):=z7
 refine VH z7 UC λg8 z8 b8=>?_
 replace z8:VR g8 z TI TO (Vj g5.objs.size):=z8
 have up:∀c o,c≠z->g5.get? c=some o->g8.get? c=some o:=λc o c1 e=>b8.extBut _ _ c1 (b7.extBut _ _ c1 (NJ _ e));have p8:Vm g8 g5.objs.size x y:=b8.extBut _ _ (QZ zl) (b7.extBut _ _ (QZ zl) (N2 _ rfl));have s8:g8.objs.size=g5.objs.size+1:=by rw [b8.1,b7.1,Qa]
 rw [sz] at z8 p8 s8;refine UJ ⟨_,rfl,?_⟩;(show Q (.ref g5.objs.size) _);rw [sz];have at1:∀{j t i},g5.IsTupleIter j t i->j≠z->g8.IsTupleIter j t i:=λh hj=>let ⟨o,e,r⟩:=h;⟨o,up _ o hj e,r⟩
 exact k g8 z8 (up _ _ D.TOz o5) (at1 j15 D.i1z) (at1 j25 D.i2z) p8 s8 λc o c1 c2 c3 c4 e=>up c o c1 (k5 c o c1 c2 c3 c4 e)
theorem JF{z TI TO i1 i2 l1 l2:UH}{k1:Nat}{xs:Array UE}{Q:Fin->UI->Prop}(hh:A.handled=none)(D:We z TI TO i1 i2 l1 l2)
 (hz:VR s.heap z TI TO .none)(hI:Vm s.heap TI (.ref i1) (.ref i2))(h1:s.heap.IsTupleIter i1 l1 k1)(t1:s.heap.IsTuple l1 xs)(hx:xs[k1]?=none)
 (k:∀g e,(∀c o,c≠z->c≠i1->s.heap.get? c=some o->g.get? c=some o)->(∃o,g.get? e=some o/\o.cls= .type "StopIteration")->E (.ref e) {s with heap:=g}):
 UK (UL prog w) A (Builtin.«zip.__next__» ⟨[.ref z],[]⟩) Q E s:=by
 (show UK _ _ (field (.ref z) 2 >>=_) _ _ _);refine UG (U9 hz rfl (x:= .bool false) rfl ?_)
 (show UK _ _ (field (.ref z) 3 >>=_) _ _ _);refine UG (U9 hz rfl (x:= .ref TI) rfl ?_);refine UG (Vi hI rfl ?_)
 (show UK _ _ (Qb (.ref z) >>=_) _ _ _);refine UG ?_;unfold Qb
 refine UG (U9 hz rfl (x:= .none) rfl (UJ ?_));simp only [if_true];refine UG (VJ ?_);refine UG (U9 hz rfl (x:= .ref TO) rfl ?_);refine UG (VH hz UC λg1 z1 b1=>?_)
 replace z1:VR g1 z TI TO .ellipsis:=z1
 refine UG ?_;simp only [TK,TY,Sw,SE];refine UG (UG (Wn ?_));(show UK _ _ (PU (.ref i1) >>=_) _ _ _);refine UG (JD hh (h1.extBut b1.extBut D.i1z) (t1.extBut b1.extBut D.l1z) hx λg2 e b2 he=>?_);obtain⟨oe,hoe,hce⟩:=he;have z2:VR g2 z TI TO .ellipsis:=b2 _ _ D.i1z.symm z1;have ez:e≠z:=λq=>by subst q;rw [z2] at hoe;cases hoe;simp at hce
 exact VH z2 UC λg3 _ b3=>k g3 e (λc o c1 c3 q=>b3.extBut _ _ c1 (b2 _ _ c3 (b1.extBut _ _ c1 q))) ⟨oe,b3.extBut _ _ ez hoe,hce⟩
theorem JG{z TI TO i1 i2 l1 l2:UH}{k1 k2:Nat}{xs ys:Array UE}{x y a b:UE}{Q:Option UE->UI->Prop}(D:We z TI TO i1 i2 l1 l2)
 (hz:VR s.heap z TI TO .none)(hI:Vm s.heap TI (.ref i1) (.ref i2))(hO:Vm s.heap TO a b)(h1:s.heap.IsTupleIter i1 l1 k1)(h2:s.heap.IsTupleIter i2 l2 k2)(t1:s.heap.IsTuple l1 xs)(t2:s.heap.IsTuple l2 ys)(hx:xs[k1]?=some x)(hy:ys[k2]?=some y)
 (k:∀g,VR g z TI TO (Vj s.heap.objs.size)->Vm g TO x y->g.IsTupleIter i1 l1 (k1+1)->g.IsTupleIter i2 l2 (k2+1)->Vm g s.heap.objs.size x y->g.objs.size=s.heap.objs.size+1->
  (∀c o,c≠z->c≠TO->c≠i1->c≠i2->s.heap.get? c=some o->g.get? c=some o)->Q (some (.ref s.heap.objs.size)) {s with heap:=g}):UK (UL prog w) A (Vt (.ref z)) Q E s:=by
 have ty:s.TypeIs (.ref z) "zip":=⟨_,hz,rfl⟩;unfold Vt;exact UG (VO (U1 (name:=NF "__next__") ty F.slot_zip_next (U4 F.slot_zip_next ty F.entry_zip_next (JE D hz hI hO h1 h2 t1 t2 hx hy λg a1 a2 a3 a4 a5 a6 a7=>UJ (k g a1 a2 a3 a4 a5 a6 a7)) (F.args_zip_next_1 _))))
theorem JH{z TI TO i1 i2 l1 l2:UH}{k1:Nat}{xs:Array UE}{Q:Option UE->UI->Prop}(hh:A.handled=none)(D:We z TI TO i1 i2 l1 l2)
 (hz:VR s.heap z TI TO .none)(hI:Vm s.heap TI (.ref i1) (.ref i2))(h1:s.heap.IsTupleIter i1 l1 k1)(t1:s.heap.IsTuple l1 xs)(hx:xs[k1]?=none)
 (k:∀g,(∀c o,c≠z->c≠i1->s.heap.get? c=some o->g.get? c=some o)->Q none {s with heap:=g}):UK (UL prog w) A (Vt (.ref z)) Q E s:=by
 have ty:s.TypeIs (.ref z) "zip":=⟨_,hz,rfl⟩;unfold Vt;refine UG (VO (U1 (name:=NF "__next__") ty F.slot_zip_next (U4 F.slot_zip_next ty F.entry_zip_next (JF hh D hz hI h1 t1 hx λg e kk he=>?_) (F.args_zip_next_1 _))));obtain⟨oe,eo,ce⟩:=he;refine UG (V3 (T:="StopIteration") (b:=true) ⟨oe,eo,ce⟩ isSubtype_stop ?_);exact UJ (k _ kk)
abbrev ue(h:UR)(a:UH):UR:=h.push {cls:= .type "tuple_iterator",data:= .fields #[.ref a,.int 0 0]}
abbrev uf(h:UR)(a b:UH):UR:=(ue h a).push {cls:= .type "tuple_iterator",data:= .fields #[.ref b,.int 0 0]}
abbrev ug(h:UR)(a b:UH):UR:=(uf h a b).push {cls:= .type "tuple",data:= .seq #[.ref h.objs.size,.ref (ue h a).objs.size]}
abbrev uh(h:UR)(a b:UH):UR:=(ug h a b).push {cls:= .type "tuple",data:= .seq #[.none,.none]}
abbrev qC(h:UR)(a b:UH):UR:=(uh h a b).push {cls:= .type "zip",data:= .fields #[.none,.bool false,.bool false,.ref (uf h a b).objs.size,.ref (ug h a b).objs.size]}
theorem JI(a b:UH)(xs ys:Array UE):Meets (Builtin.«zip.__new__» ⟨[.type "zip",.ref a,.ref b],[]⟩) (λ_ R s=>s.heap.IsTuple a xs/\s.heap.IsTuple b ys/\R (.ok (.ret (.ref (uh s.heap a b).objs.size))) {s with heap:=qC s.heap a b}):=
 .of_wp λprog w A R s h=>by
  obtain⟨hp,g,d,tk,os⟩:=s;obtain⟨u1,u2,h⟩:=h;have hsub:=sub_zip;have v1:Ui (Ur ⟨hp,g,d,tk,os⟩) a xs:=u1;have v2:Ui (Ur ⟨hp.push {cls:= .type "tuple_iterator",data:= .fields #[.ref a,.int 0 0]},g,d,tk,os⟩) b ys:=Ui.push u2 _
  wp_walk using Wh v1,Wh v2
  exact⟨_,rfl,h⟩
theorem JJ{a b:UH}{xs ys:Array UE}{Q:UE->UI->Prop}(ha:s.heap.IsTuple a xs)(hb:s.heap.IsTuple b ys)
 (k:∀g,VR g (s.heap.objs.size+4) (s.heap.objs.size+2) (s.heap.objs.size+3) .none->Vm g (s.heap.objs.size+2) (.ref s.heap.objs.size) (.ref (s.heap.objs.size+1))->Vm g (s.heap.objs.size+3) .none .none->
  g.IsTupleIter s.heap.objs.size a 0->g.IsTupleIter (s.heap.objs.size+1) b 0->(∀c o,s.heap.get? c=some o->g.get? c=some o)->Q (.ref (s.heap.objs.size+4)) {s with heap:=g}):UK (UL prog w) A (call (.type "zip") [.ref a,.ref b]) Q E s:=by
 refine callType_new F.called_zip Ce (F.typeCall_zip_2 _ _) (F.newCall_zip_2 _ _) (λobj=>F.args_object_init_3 obj _ _) F.entry_zip_new (JI a b xs ys) ⟨ha,hb,?_⟩;have n1:(ue s.heap a).objs.size=s.heap.objs.size+1:=Qa ..;have n2:(uf s.heap a b).objs.size=s.heap.objs.size+2:=by rw [Qa,n1]
 have n3:(ug s.heap a b).objs.size=s.heap.objs.size+3:=by rw [Qa,n2]
 have n4:(uh s.heap a b).objs.size=s.heap.objs.size+4:=by rw [Qa,n3]
 have ps:∀{h:UR}{x:Obj}{c:UH}{o:Obj},h.get? c=some o->(h.push x).get? c=some o:=λe=>NJ _ e;have g5:(qC s.heap a b).get? (uh s.heap a b).objs.size=some _:=N2 _ rfl;have g4:(qC s.heap a b).get? (ug s.heap a b).objs.size=some _:=ps (N2 _ rfl);have g3:(qC s.heap a b).get? (uf s.heap a b).objs.size=some _:=ps (ps (N2 _ rfl));have g2:(qC s.heap a b).get? (ue s.heap a).objs.size=some _:=ps (ps (ps (N2 _ rfl)));have g1:(qC s.heap a b).get? s.heap.objs.size=some _:=ps (ps (ps (ps (N2 _ rfl))));show _/\_;rw [n2,n3,n4] at g5;rw [n1,n2] at g3;rw [n3] at g4;rw [n1] at g2;rw [n4];exact⟨⟨_,g5,rfl⟩,k _ g5 g3 g4 ⟨_,g1,rfl,rfl⟩ ⟨_,g2,rfl,rfl⟩ λc o e=>ps (ps (ps (ps (ps e))))⟩
end
section
variable {X:Cx} {Wt:List (UH×Obj)} {σ:St} {H:Hp} {s:UI}
theorem ag.still{ch:List UH}{t':Nat}{h':UR}(I:ag X Wt σ H s)(f:∀b∈ch,mn X Wt H b)(k:∀b u,b ∉ ch->s.heap.get? b=some u->h'.get? b=some u):ag X Wt σ H {s with heap:=h',toks:=t'}:=by
 have nC:∀b u,H b=some u->b ∉ ch:=λb u e z=>by rw [(f b z).1] at e;cases e
 refine I.step (g':=s.gens) (d':=s.drawn) (ch:=ch) (λb hb=>?_) (λb o _ _ hc e _=>k b o hc e) (λb o _ _ hc e _=>⟨o.slots,k b o hc e⟩) (λb o hc _ n=>n) (λb o hc e=>⟨o,k b o hc e⟩) (λb xs e=>e) (λb u xs e=>e) (λb ps e=>⟨#[],by rw [e];simp⟩) (λm hm=>hm.at' λo e=>k _ o (λz=>(f _ z).2.1 rfl) e) (λb u e=>?_) I.bare
 ·obtain⟨f0,f1,f2,f3,f4,f5⟩:=f b hb;exact⟨f3,f1,f4,f5⟩
 ·refine(I.hok b u e).stay (λc v hc q=>k c v (λz=>?_) q) (λc q=>q) (λc xs q=>q) (λc xs q=>q);rcases hc with r | r
  ·rw [r] at z;exact nC _ _ e z
  ·exact nC _ _ r z
end
def xI(K:NG)(a b:UH):It:=
 ⟨λi H=>∃xs ys x y,aX K H a xs/\aX K H b ys/\xs[i]?=some x/\ys[i]?=some y,λi H x H'=>∃p v u,H p=none/\x= .ref p/\H'=ak H p (.tup [v,u])/\(∀xs,aX K H a xs->xs[i]?=some v)/\∀ys,aX K H b ys->ys[i]?=some u,λi H=>∃xs,aX K H a xs/\xs.length<=i⟩
theorem JK{P:US}{w:UU}{K:NG}{elts:List UO}{k0}{pos:Pos}(a b z TI TO i1 i2:UH)(D:We z TI TO i1 i2 a b):p9 P w K (.Tuple elts k0 pos) (xI K a b) [z,TI,TO,i1,i2] z
 (λi h=>VR h z TI TO .none/\Vm h TI (.ref i1) (.ref i2)/\(∃u v,Vm h TO u v)/\h.IsTupleIter i1 a i/\h.IsTupleIter i2 b i) where
 mem:=UC
 obj:=λi h st c hc=>by
  simp only [NN,NX,or_false] at hc;obtain⟨a1,a2,⟨u,v,a3⟩,⟨o4,e4,c4,d4⟩,o5,e5,c5,d5⟩:=st;rcases hc with rfl | rfl | rfl | rfl | rfl
  ·exact⟨_,a1,λv z=>by cases z⟩
  ·exact⟨_,a2,λv z=>by cases z⟩
  ·exact⟨_,a3,λv z=>by cases z⟩
  ·exact⟨o4,e4,λv z=>by rw [d4] at z;cases z⟩
  ·exact⟨o5,e5,λv z=>by rw [d5] at z;cases z⟩
 keep:=λi h h' st k=>by
  obtain⟨a1,a2,⟨u,v,a3⟩,⟨o4,e4,r4⟩,o5,e5,r5⟩:=st;exact⟨k _ UC _ a1,k _ UC _ a2,⟨u,v,k _ UC _ a3⟩,⟨o4,k _ UC _ e4,r4⟩,o5,k _ UC _ e5,r5⟩
 item:=by
  intro X hP hw hK hc i Wt s σ H E I hf st hg;subst hP hw hK;obtain⟨xs,ys,x,y,qa,qb,hx,hy⟩:=hg;obtain⟨ia,ra,pa,_⟩:=I.tuple qa;obtain⟨ib,rb,pb,_⟩:=I.tuple qb;obtain⟨u,hu,ru⟩:=ra.get hx;obtain⟨v,hv,rv⟩:=rb.get hy;obtain⟨a1,a2,⟨_,_,a3⟩,a4,a5⟩:=st;refine JG D a1 a2 a3 a4 a5 (show s.heap.IsTuple a ia.toArray from pa) (show s.heap.IsTuple b ib.toArray from pb) (x:=u) (y:=v) (by simpa using hu) (by simpa using hv) λg b1 b2 b3 b4 b5 b6 hk=>?_;have T0:H s.heap.objs.size=none:=I.hok.fresh (NT _);have lts:∀c∈[z,TI,TO,i1,i2],c < s.heap.objs.size:=λc hc=>by
   simp only [NN,NX,or_false] at hc;rcases hc with rfl | rfl | rfl | rfl | rfl
   ·exact NV a1
   ·exact NV a2
   ·exact NV a3
   ·obtain⟨_,e,_⟩:=a4;exact NV e
   ·obtain⟨_,e,_⟩:=a5;exact NV e
  have I1:ag X Wt σ (ak H s.heap.objs.size (.tup [x,y])) {s with heap:=g}:=by
   refine I.track (t':=s.toks) (ch:=[s.heap.objs.size,z,TO,i1,i2]) UC (λc hc=>?_) (λc o hc e=>hk c o (λq=>hc (by simp [q])) (λq=>hc (by simp [q])) (λq=>hc (by simp [q])) (λq=>hc (by simp [q])) e) ?_
   ·rcases NN.mp hc with q | q
    ·rw [q];exact I.fpOk (NT _) T0
    ·refine hf c ?_;simp only [NN,NX,or_false] at q⊢;rcases q with q | q | q | q <;> simp [q]
   ·exact⟨by rw [UT,NI,NI,N7];decide,[u,v],.cons ru (.cons rv .nil),_,b5,rfl,0,rfl⟩
  refine⟨_,rfl,wpAny_letOwnedTupleGo_zip b1 λg2 z2 sb=>?_⟩;obtain⟨f0,f1,f2,f3,f4,f5⟩:=hf z UC;have nz:s.heap.objs.size≠z:=QZ (lts z UC);have I2:ag X Wt σ (ak H s.heap.objs.size (.tup [x,y])) {s with heap:=g2}:=I1.turned (t':=s.toks) (λc o hc q=>(sb.2 c hc).trans q) (by rw [av (Ne.symm nz)];exact f0) f1 f3 f4 f5;have at2:∀{j t i},g.IsTupleIter j t i->j≠z->g2.IsTupleIter j t i:=λh hj=>let ⟨o,e,r⟩:=h;⟨o,(sb.2 _ hj).trans e,r⟩
  refine⟨.ref s.heap.objs.size,_,I2,rfl,⟨_,x,y,T0,rfl,rfl,λus hus=>by rw [I.tuple_inj hus qa];exact hx,λus hus=>by rw [I.tuple_inj hus qb];exact hy⟩,⟨z2,(sb.2 _ D.TIz).trans (hk _ _ D.TIz D.TITO D.TIi1 D.TIi2 a2),⟨_,_,(sb.2 _ D.TOz).trans b2⟩,at2 b3 D.i1z,at2 b4 D.i2z⟩,λc hc=>?_⟩;rw [av λq=>?_]
  ·exact(hf c hc).1
  ·have:=lts c hc;rw [q] at this;exact Qp _ this
 done:=by
  intro X hP hw hK hc i Wt s σ H E I hf st hg;subst hP hw hK;obtain⟨xs,qa,hx⟩:=hg;obtain⟨ia,ra,pa,_⟩:=I.tuple qa;obtain⟨a1,a2,_,a4,_⟩:=st;have hl:=ra.length;obtain⟨f0,f1,f2,f3,f4,f5⟩:=hf z UC;obtain⟨e0,e1,e2,e3,e4,e5⟩:=hf i1 UC;refine JH (I.ok.hd hc) D a1 a2 a4 (show s.heap.IsTuple a ia.toArray from pa) (by simp;omega) λg hk=>⟨rfl,?_⟩;exact I.still (ch:=[z,i1]) (t':=s.toks) (λc hc=>by
   simp only [NN,NX,or_false] at hc;rcases hc with rfl | rfl
   ·exact hf _ UC
   ·exact hf _ UC) λc o hc e=>hk c o (λq=>hc (by simp [q])) (λq=>hc (by simp [q])) e
 self:=λA i s Q E st h=>wpAny_pyIter_zip st.1 h
theorem JL{n u v:Nat}(hu:u < n)(hv:v < n):We (n+4) (n+2) (n+3) n (n+1) u v:=by constructor <;> (intro q;have q:(_:Nat)=_:=q;omega)
def JM(K:NG)(ta:TA):TI:=λσ H R=>ta σ H λvs H1=>∃a b xs ys,vs=[.ref a,.ref b]/\aX K H1 a xs/\aX K H1 b ys/\R (xI K a b) H1
theorem JN{X:Cx}{elts:List UO}{k0}{tp:Pos}{a b:UO}{ta:TA}{p pos:Pos}(hg:Gl X "zip")(hm:X.mg "zip"=none)(ha:PA X [a,b] ta)(hs:UM [a,b] X.env=(false,eval a X.env)::UM [b] X.env:=by rfl)(hpl:(U3 pos (UM [b] X.env)).any (·.1)=false:=by rfl):PI X (.Tuple elts k0 tp) (.Call (.Name "zip" p) [a,b] [] pos) (JM X.K ta):=by
 intro Wt s σ H R I h;refine Call_ (p5 I hg hm boot_zip (Qv (ax (ha pos Wt s σ H _ I h) λus s1 ⟨vs,H1,I1,r1,q1⟩=>?_) hs hpl));obtain⟨u,v,xs,ys,e,qa,qb,q⟩:=q1;subst e;cases r1 with
 | cons r rr=>
  cases rr with
  | cons r2 rr=>
   cases rr;cases r;cases r2;obtain⟨ia,ra,pa,_⟩:=I1.tuple qa;obtain⟨ib,rb,pb,_⟩:=I1.tuple qb;have la:u < s1.heap.objs.size:=by obtain⟨o,e,_⟩:=(show s1.heap.IsTuple u ia.toArray from pa);exact NV e
   have lb:v < s1.heap.objs.size:=by obtain⟨o,e,_⟩:=(show s1.heap.IsTuple v ib.toArray from pb);exact NV e
   refine JJ (show s1.heap.IsTuple u ia.toArray from pa) (show s1.heap.IsTuple v ib.toArray from pb) λg z1 z2 z3 z4 z5 hk=>wpAny_pyIter_zip z1 ?_;have I2:ag X Wt σ H1 {s1 with heap:=g}:=I1.kept (t':=s1.toks) hk;have D:We (s1.heap.objs.size+4) (s1.heap.objs.size+2) (s1.heap.objs.size+3) s1.heap.objs.size (s1.heap.objs.size+1) u v:=JL la lb;refine⟨_,_,_,_,H1,rfl,I2,JK u v _ _ _ _ _ D,⟨z1,z2,⟨_,_,z3⟩,z4,z5⟩,λc hc=>?_,q⟩;have le:s1.heap.objs.size<=c:=by
    simp only [NN,NX,or_false] at hc;rcases hc with rfl | rfl | rfl | rfl | rfl <;> omega
   exact I1.fpOk le (I1.hok.fresh le)
def oO(xs ys:List UD):List UD:=List.zipWith (λx y=>.tuple [x,y]) xs ys
theorem Dg{K:NG}{H H':Hp}{a:UH}{xs:List V}(s:∀o,H a=some o->H' a=some o)(h:aX K H a xs):aX K H' a xs:=by
 rcases h with h | h
 ·exact .inl (h.same s)
 ·exact .inr h
theorem JO{K:NG}{H0:Hp}{O0:Ex}{a b:UH}{vs us:List V}{xs ys:List UD}{g:TG}{dg:DG}{tc:TT}{dc:DB}{te:TE}{de:DT}{k:Nat}{fr:List Nat}{σ:St}{H:Hp}{O:Ex}{δ:Dl}{Qd:List UD->Prop}{Q:VK}(qa:aX K H a vs)(qb:aX K H b us)(gd:GD K g dg)(hf:fr.Nodup)
 (hk:∀v:V,∀σ':St,∀H':Hp,∀R:St->Hp->Prop,g v (bC k fr σ) H' R->g v (bC k fr σ) H' λσ2 H2=>oy (bC k fr σ) σ2/\R σ2 H2)
 (hc:∀σ H Q,fy K H0 O0 dc σ H Q->tc σ H Q)(he:∀σ H Q,up K H0 O0 de σ H Q->te σ H Q)
 (r1:aq K H O vs xs)(r2:aq K H O us ys)(hl:vs.length=us.length)(w:Wd K H0 O0 H O σ δ)(hz:vs.length<=UN)(q:mx dg dc de (bg k fr δ) (oO xs ys) Qd)
 (k1:∀ds us p H',Qd ds->ao H H'->H' p=none->aq K H' O us ds->Q (.ref p) (ak H' p (.lst us))):oz (xI K a b) g tc te k fr σ H Q:=by
 obtain⟨Iv,q0,qs,qe⟩:=q;intro D hD;have w0:Wd K H0 O0 H O (bC k fr σ) (bg k fr δ):=w.comp hf;have nD:¬O D:=λz=>w.trk D z hD;have D0:H0 D=none:=by
  cases e:H0 D with
  | none=>rfl
  | some o=>rw [w.same _ _ e] at hD;cases hD
 have ex:∀H',mU D H H'->H' D≠none->Wd K H0 O0 H' (λa=>O a\/a=D) (bC k fr σ) (bg k fr δ):=λH' s' hd=>by
  have S':bz H H' O (λa=>O a\/a=D):=⟨λb o e _=>s' b o e (ko e hD),λb hb hn z=>z.elim hn λq=>hb (by rw [q];exact hD)⟩;refine⟨λb o e=>s' b o (w.same b o e) (λz=>by rw [z,D0] at e;cases e),λl z=>.inl (w.sub l z),λl z=>z.elim (w.new l) λq=>.inr (by rw [q];exact D0),λl z=>?_,w0.len,λj y e=>?_,w0.dis⟩
  ·by_cases ql:l=D
   ·rw [ql];exact hd
   ·have hl:=w.trk l (z.resolve_right ql);cases e:H l with
    | none=>exact absurd e hl
    | some o=>rw [s' l o e ql];exact λz=>nomatch z
  ·exact(w0.sl j y e).go S' (λl o _ _ a1 _ a3=>⟨.inl a1,s' _ _ a3 (λz=>nD (by rw [<-z];exact a1))⟩) (λa o u a1 _ a3=>⟨.inl a1,s' _ _ a3 (λz=>nD (by rw [<-z];exact a1))⟩) λa o a1 a3=>s' _ _ a3 (λz=>nD (by rw [<-z];exact w.sub _ a1))
 have zl:(oO xs ys).length=vs.length:=by unfold oO;rw [List.length_zipWith,<-r1.length,<-r2.length,<-hl];exact Nat.min_self _
 have sq:∀H',mU D H H'->aX K H' a vs/\aX K H' b us:=λH' s'=>⟨Dg (λo e=>s' _ _ e (ko e hD)) qa,Dg (λo e=>s' _ _ e (ko e hD)) qb⟩;refine⟨λi m H'=>∃acc ws,m=vs.length - i/\i<=vs.length/\mU D H H'/\H' D=some (.lst ws)/\ws.length<=i/\aq K H' (λa=>O a\/a=D) ws acc/\Iv i acc,⟨vs.length,[],[],UC,PR _,λb o e n=>by rw [av n];exact e,bh,PR _,.nil,q0⟩,?_⟩;rintro i m H1 ⟨acc,ws,rfl,hi,s1,e1,hy,ra,q1⟩;obtain⟨sa,sb⟩:=sq H1 s1;by_cases hlt:i < vs.length
 ·refine .inr ⟨⟨vs,us,vs[i],us[i]'Uy,sa,sb,by simp [hlt],by simp [show i < us.length by omega]⟩,λx H' y=>?_⟩;obtain⟨p,v,u,hp,rfl,rfl,hv,hu⟩:=y;obtain⟨d,ed,rd⟩:=r1.get (hv vs sa);obtain⟨e,ee,re⟩:=r2.get (hu us sb);have pD:p≠D:=λz=>by rw [z,e1] at hp;cases hp
  have s2:mU D H (ak H1 p (.tup [v,u])):=λb o e n=>by
   have e':=s1 b o e n;rw [av (λz=>by rw [z,hp] at e';cases e')];exact e'
  have e2:(ak H1 p (.tup [v,u])) D=some (.lst ws):=by rw [av (Ne.symm pD)];exact e1
  have w1:=ex _ s2 (by rw [e2];exact λz=>nomatch z);have sm:ao H1 (ak H1 p (.tup [v,u])):=ao.new hp;have S':bz H (ak H1 p (.tup [v,u])) O (λa=>O a\/a=D):=⟨λb o e _=>s2 b o e (ko e hD),λb hb hn z=>z.elim hn λq=>hb (by rw [q];exact hD)⟩;have np:¬(O p\/p=D):=λz=>z.elim (λz=>by
   have:=w.trk p z;cases eh:H p with
   | none=>exact this eh
   | some o=>rw [s1 p o eh pD] at hp;cases hp) pD
  have dt:Dt K (ak H1 p (.tup [v,u])) (λa=>O a\/a=D) (.ref p) (.tuple [d,e]):= .tup (.inl bh) np (.cons (rd.step S') (.cons (re.step S') .nil));have ez:(oO xs ys)[i]?=some (.tuple [d,e]):=by unfold oO;rw [List.getElem?_zipWith,ed,ee]
  refine hk (.ref p) σ _ _ (gd H0 O0 _ _ _ _ (.ref p) _ _ _ w1 dt (qs i _ acc ez q1) λδ2 σ2 q2 w2=>?_);refine hc σ2 _ _ ⟨_,δ2,_,w2,q2,λok H3 q3 s3=>?_⟩;cases ok with
  | true=>
   rw [UA rfl];refine he σ2 H3 _ ⟨_,δ2,_,w2.mono s3,q3,λd' v' H4 q4 s4 r4=>?_⟩;have e4:=s4 _ _ (s3 _ _ e2);have sD:bz H4 (ak H4 D (.lst (ws++[v']))) (λa=>O a\/a=D) (λa=>O a\/a=D):=⟨λb o e n=>by rw [av (λz=>n (.inr z))];exact e,λ_ _ n=>n⟩;refine⟨ws,e4,Uy,vs.length - (i+1),Uy,acc++[d'],ws++[v'],rfl,hlt,λb o e n=>by rw [av n];exact s4 _ _ (s3 _ _ (s2 b o e n)),bh,by simpa using hy,?_,q4⟩;exact((ra.mono ((sm.trans s3).trans s4)).append (.cons r4 .nil)).step sD
  | false=>
   rw [Uz Ce];exact⟨vs.length - (i+1),Uy,acc,ws,rfl,hlt,λb o e n=>s3 _ _ (s2 b o e n),s3 _ _ e2,Uy,ra.mono (sm.trans s3),q3⟩
 ·have e:i=vs.length:=Uy
  subst e;refine .inl ⟨⟨vs,sa,NT _⟩,?_⟩;rw [<-zl] at q1;have hrest:∃H2:Hp,H2 D=none/\ao H H2/\H1=ak H2 D (.lst ws):=by
   refine⟨λb=>if b=D then none else H1 b,UC,λb o e=>?_,?_⟩
   ·have n:=ko e hD;show(if b=D then none else H1 b)=some o;rw [Uz n];exact s1 b o e n
   ·funext b;by_cases z:b=D
    ·rw [z,bh];exact e1
    ·rw [av z];show H1 b=if b=D then none else H1 b;rw [Uz z]
  obtain⟨H2,h2,s2,rfl⟩:=hrest;refine k1 acc ws D H2 (qe acc q1) s2 h2 (ra.step ⟨λb o e n=>?_,λb _ n z=>n (.inl z)⟩);rw [av (λz=>n (.inr z))] at e;exact e
def fv(ta:DA)(g:DG)(tc:DB)(te:DT)(k:Nat)(fr:List Nat):DA:=λδ Q=>ta δ λds=>∃xs ys,ds=[.tuple xs,.tuple ys]/\xs.length=ys.length/\xs.length<=UN/\mx g tc te (bg k fr δ) (oO xs ys) Q
section
variable {X:Cx} {H0:Hp} {O0:Ex} {elts:List UO} {k0:Nat} {tp:Pos} {elt:UO} {ifs:List UO} {scope:Vc} {N':List Str} {k:Nat} {fr:List Nat} {g:TG} {dg:DG} {ta:DA} {tc:DB} {te:DT} {pos p ps:Pos} {a b:UO}
theorem JP(hc:X.calm=true)(S:cK X.env.scope X.N N' k fr scope)(hgl:Gl X "zip")(hm:X.mg "zip"=none)(ha:PA X [a,b] (me X.K H0 O0 ta))(gd:GD X.K g dg)(hk:oE g k)(hfr:fr.Nodup)
 (hg:∀fp C s H,PG (fx X scope N' fp C s H) (.Tuple elts k0 tp) g)(hf:∀fp C s H,mr (fx X scope N' fp C s H) ifs (fy X.K H0 O0 tc))(he:∀fp C s H,PE (fx X scope N' fp C s H) elt (up X.K H0 O0 te))
 (hst:UM [a,b] X.env=(false,eval a X.env)::UM [b] X.env:=by rfl)(hpl:(U3 ps (UM [b] X.env)).any (·.1)=false:=by rfl)(hs:∀x,U6 (.Call (.Name "zip" p) [a,b] [] ps) X.env x=pure x:=by intro _;rfl):
 FE X H0 O0 (.ListComp elt [⟨.Tuple elts k0 tp,(.Call (.Name "zip" p) [a,b] [] ps),ifs,0⟩] scope pos) (fv ta dg tc te k fr):=
 (pj hc S (JN hgl hm ha hst hpl) hg hf he hs).imp λσ H Q uu17=>by obtain⟨O,δ,Qd,w,q,kk⟩:=uu17;exact⟨O,δ,_,w,q,λds vs H1 uu18 s1 r1=>by
  obtain⟨xs,ys,e,hl,hz,q1⟩:=uu18;subst e;cases r1 with
  | cons r1 r2=>
   cases r2 with
   | cons r2 r3=>
    cases r3;obtain⟨u,us,rfl,qa,ra⟩:=r1.tup;obtain⟨v,vs,rfl,qb,rb⟩:=r2.tup;exact⟨u,v,us,vs,rfl,qa,qb,λD hD=>JO qa qb gd hfr (λv _ H' R h=>hk fr σ v H' R h) (λ_ _ _ z=>z) (λ_ _ _ z=>z) ra rb (by rw [ra.length,rb.length];exact hl) (w.mono s1) (by rw [ra.length];exact hz) q1 (λds us p H' z s' hp r'=>kk ds us p H' z (s1.trans s') hp r') D hD⟩⟩
end
theorem JQ(a b:Int):oq (.int a) (.int b)=true:=rfl
theorem JR(a b:Str):oq (.str a) (.str b)=true:=rfl
theorem JS(a b:Bool):oq (.bl a) (.bl b)=true:=rfl
theorem JT(b:Int):oq .non (.int b)=true:=rfl
theorem JU(b:Int):oq (.int b) .non=true:=rfl
section
variable {x y z w:Option Sl} {l:Dl} {i j k m:Nat} {P:UD->Prop}
theorem jJ:kJ j ((x::l).set 0 y) P=kJ j (y::l) P:=rfl
theorem jK:kJ j ((x::l).set (i+1) y) P=kJ j (x::l.set i y) P:=rfl
theorem jL:kJ j (((x::l).set 0 y).set k z) P=kJ j ((y::l).set k z) P:=rfl
theorem jM:kJ j (((x::l).set (i+1) y).set k z) P=kJ j ((x::l.set i y).set k z) P:=rfl
theorem jN:kJ j ((((x::l).set 0 y).set k z).set m w) P=kJ j (((y::l).set k z).set m w) P:=rfl
theorem jO:kJ j ((((x::l).set (i+1) y).set k z).set m w) P=kJ j (((x::l.set i y).set k z).set m w) P:=rfl
end
section
variable {K:NG} {mg:Str->Option UE} {h:UR} {x q:Str} {st:UW} {f C:UH} {fd:UP} {ps:List Str}
structure Fn (K:NG) (mg:Str->Option UE) (x:Str) (st:UW) (f:UH) (fd:UP) (ps:List Str):Prop where
 F:lg K x x st f fd
 m:mg x=some (.ref f)
 b:l9 K fd ps []
structure Mn (K:NG) (x q:Str) (st:UW) (f:UH) (fd:UP) (ps:List Str):Prop where
 F:lg K x q st f fd
 b:l9 K fd ps []
structure DfT (K:NG) (x:Str) (st:UW) (f:UH) (fd:UP):Prop where
 a:Og K UQ x=some (some (.ref f))
 F:lg K x x st f fd
structure DmT (K:NG) (C:UH) (x q:Str) (st:UW) (f:UH) (fd:UP):Prop where
 a:Pl K (.ref C) x=some (some (.ref f))
 i:Ti K (.ref f)=true
 F:lg K x q st f fd
theorem DfT.of{oc:UE}{od an:Option UH}{osl:Array (Option UE)}{kV doc pm cdv ct:UE}(a:Og K UQ x=some (some (.ref f)))(l:K.lookup f=some ⟨oc,od,.func (P7 x x (mT st) (lJ st) (ay st) .none kV doc pm an cdv ct),osl⟩)
 (c:Rm K cdv x=true)(k:Qk K (.ref f)=true):DfT K x st f (P7 x x (mT st) (lJ st) (ay st) .none kV doc pm an cdv ct):=⟨a,BA l c k⟩
theorem DmT.of{oc:UE}{od an:Option UH}{osl:Array (Option UE)}{kV doc pm cdv ct:UE}(a:Pl K (.ref C) x=some (some (.ref f)))(i:Ti K (.ref f)=true)(l:K.lookup f=some ⟨oc,od,.func (P7 x q (mT st) (lJ st) (ay st) .none kV doc pm an cdv ct),osl⟩)
 (c:Rm K cdv q=true)(k:Qk K (.ref f)=true):DmT K C x q st f (P7 x q (mT st) (lJ st) (ay st) .none kV doc pm an cdv ct):=⟨a,i,BA l c k⟩
theorem DfT.fn(D:DfT K x st f fd)(X:K.In h)(G:h.Ns UQ mg)(hb:∀(kV doc pm:UE) (an:Option UH) (cdv ct:UE) (us:List UE),us.length=ps.length->bindArgs (P7 x x (mT st) (lJ st) (ay st) .none kV doc pm an cdv ct) ⟨us,[]⟩=pure (ps.zip us):=by walk_at "b"):Fn K mg x st f fd ps:=⟨D.F,O3 X G D.a,D.F.binds hb⟩
theorem DmT.fn(D:DmT K C x q st f fd)(hb:∀(kV doc pm:UE) (an:Option UH) (cdv ct:UE) (us:List UE),us.length=ps.length->bindArgs (P7 x q (mT st) (lJ st) (ay st) .none kV doc pm an cdv ct) ⟨us,[]⟩=pure (ps.zip us):=by walk_at "b"):Mn K x q st f fd ps:=⟨D.F,D.F.binds hb⟩
theorem Fn.kp(N:Fn K mg x st f fd ps):Qk K (.ref f)=true:=N.F.kp
end
section
variable {X:Cx} {k:Nat} {f:UH} {fd:UP} {ps:List Str} {sp:Sp} {st:UW} {x:Str} {p pos:Pos} {e:UO} {es:List UO} {t:TA}
theorem lu(F:aC X.prog X.w X.K X.mg X.base CX0 k f fd ps sp)(hr:bH k X.A)(hg:Gl X x)(N:Fn X.K X.mg x st f fd ps)
 (ha:PA X (e::es) t)(hdb:(x==("__debug__":Str))=false:=by decide)(he:UM (e::es) X.env=(false,eval e X.env)::UM es X.env:=by rfl)(hpl:(U3 pos (UM es X.env)).any (·.1)=false:=by rfl):
 PE X (.Call (.Name x p) (e::es) [] pos) (rA sp [] E0 t):=F7 F hr hg N.m N.kp N.b .nil Bz ha hdb he hpl
end
theorem cK.of{sc:Vc}{N N':List Str}{k:Nat}{fr:List Nat}{scope:Vc}(a:scope.kind= .function:=by rfl)(b:∀y∈scope.names,y.2= .cell->scope.names.lookup y.1=some .cell:=by decide+kernel)(c:∀y∈scope.names,y.2= .local->scope.names.lookup y.1=some .local:=by decide+kernel)(d:N'.Nodup:=by decide+kernel)(e:fr.map (λj=>N[j]?)=(N'.drop k).map some:=by rfl)(f:∀x∈N'.drop k,scope.names.lookup x=some .free:=by decide+kernel)(g:∀y∈scope.names,y.2= .free->sc.names.lookup y.1=some .cell\/sc.names.lookup y.1=some .free:=by decide+kernel)(h:∀x∈N'.drop k,sc.names.lookup x=some .cell\/sc.names.lookup x=some .free:=by decide+kernel)(i:N'.length=k+fr.length:=by rfl):cK sc N N' k fr scope:=⟨a,b,c,d,e,f,g,h,i⟩
theorem aQ.of{N P:List Str}{sc:Vc}(a:sc.kind= .function:=by rfl)(b:sc.isCoroutine=false:=by rfl)(c:sc.isGenerator=false:=by rfl)(d:N.Nodup:=by decide+kernel)(e:N.take P.length=P:=by rfl)(f:∀x∈P,sc.names.lookup x=some .local\/sc.names.lookup x=some .cell:=by decide+kernel)(g:∀y∈sc.names,y.2≠ .free:=by decide+kernel):aQ N P sc:=⟨a,b,c,d,e,f,g⟩
section
variable {X:Cx} {H0:Hp} {O0:Ex} {pos:Pos} {a b e:UO} {es:List UO} {ta tb t:DT} {u:DA} {r:R2} {rd:UD->UD->(UD->Prop)->Prop}
theorem aP{op:Operator}(ho:bu X (Vh op) r)(hd:cz X.K r rd)(ha:DE X H0 O0 a ta)(hb:DE X H0 O0 b tb):DE X H0 O0 (.BinOp a op b pos) (bA rd ta tb):=Ho ho hd (df ha) (df hb)
theorem aj(ho:qh X r)(hd:cz X.K r rd)(ha:DE X H0 O0 a ta)(hb:DE X H0 O0 b tb)(hs:∀v u,subscripted b false v u=operate [v,u] (V5 v u):=by intro _ _;rfl):DE X H0 O0 (.Subscript a b pos) (bA rd ta tb):=nV ho hd (df ha) (df hb) hs
theorem aI{op:CmpOp}(ho:bu X (UY op) r)(hd:cz X.K r rd)(ha:DE X H0 O0 a ta)(hb:DE X H0 O0 b tb)(hm:Vg op b=false):PT X (.Compare a [op] [b] pos) (fy X.K H0 O0 (bK (bA rd ta tb))):=Hq ho hd (df ha) (df hb) hm
theorem aw(h:DE X H0 O0 e t)(hs:PA X es (me X.K H0 O0 u))(he:UM (e::es) X.env=(false,eval e X.env)::UM es X.env:=by rfl):PA X (e::es) (me X.K H0 O0 (cm t u)):=Hs (df h) hs he
theorem au{k j:Nat}{f:UH}{fd:UP}{ps:List Str}{F:List UD->(UD->Prop)->Prop}{st:UW}{x:Str}{p:Pos}(G:aC X.prog X.w X.K X.mg X.base CX0 k f fd ps (bf X.K F))(hr:bH j X.A)(N:Fn X.K X.mg x st f fd ps)
 (ha:PA X (e::es) (mw X.K H0 O0 u))(hk:k<=j:=by decide)(hg:Gl X x:=by exact rfl)(hdb:(x==("__debug__":Str))=false:=by decide)(he:UM (e::es) X.env=(false,eval e X.env)::UM es X.env:=by rfl)(hpl:(U3 pos (UM es X.env)).any (·.1)=false:=by rfl):
 DE X H0 O0 (.Call (.Name x p) (e::es) [] pos) (cu F u):=PE.imp (lu G (hr.mono hk) hg N ha hdb he hpl) BX
end
def Dh(f:Obj->Obj):Prop:=∀o,(f o).dict=o.dict/\(o.isFreed=false->(f o).isFreed=false)
inductive QT {α:Type}:Sem α->Prop
 | pure (a:α):QT (.pure a)
 | raise (e:UE):QT (.raise e)
 | uns (w:String):QT (.unsupported w)
 | rule {t:String} {k:Unit->Sem α}:(∀x,QT (k x))->QT (.rule t k)
 | at {p:Pos} {k:Unit->Sem α}:(∀x,QT (k x))->QT (.at p k)
 | load {a:UH} {p:Option UE} {k:Obj->Sem α}:(∀x,QT (k x))->QT (.load a p k)
 | update {a:UH} {p:Option UE} {f:Obj->Obj} {k:Unit->Sem α}:Dh f->(∀x,QT (k x))->QT (.update a p f k)
 | alloc {o:Obj} {k:UH->Sem α}:(∀x,QT (k x))->QT (.alloc o k)
 | alive {a:UH} {k:Option Obj->Sem α}:(∀x,QT (k x))->QT (.loadIfAlive a k)
 | point {l:List UE} {k:Unit->Sem α}:(∀x,QT (k x))->QT (.point l k)
 | reg {a:UH} {k:Unit->Sem α}:QT (.register a k)
 | fresh {k:Tok->Sem α}:(∀x,QT (k x))->QT (.fresh k)
 | ask {k:Setting->Sem α}:(∀x,QT (k x))->QT (.ask k)
 | stack {k:List (Code×Pos)->Sem α}:(∀x,QT (k x))->QT (.stack k)
def DK(h h':UR):Prop:=∀b o,h.get? b=some o->∃o',h'.get? b=some o'/\o'.dict=o.dict
theorem DK.refl(h:UR):DK h h:=λb o e=>⟨o,e,rfl⟩
theorem DK.trans{h1 h2 h3:UR}(x:DK h1 h2)(y:DK h2 h3):DK h1 h3:=λb o e=>by
 obtain⟨o',e',d'⟩:=x b o e;obtain⟨o2,e2,d2⟩:=y b o' e';exact⟨o2,e2,d2.trans d'⟩
theorem QT.and{α:Type}{M:VU}{Γ:PySem.Ctx}{E:UE->Pos->UI->Prop}{Q:α->Pos->UI->Prop}{t:Sem α}(h:QT t):∀{p:Pos}{s:UI},Qx M Γ t Q E p s->Qx M Γ t (λa p' s'=>Q a p' s'/\DK s.heap s'.heap) (λe p' s'=>E e p' s'/\DK s.heap s'.heap) p s:=by
 have lift:∀{t:Sem α}{h0:UR}{p:Pos}{s:UI},DK h0 s.heap->Qx M Γ t (λa p' s'=>Q a p' s'/\DK s.heap s'.heap) (λe p' s'=>E e p' s'/\DK s.heap s'.heap) p s->Qx M Γ t (λa p' s'=>Q a p' s'/\DK h0 s'.heap) (λe p' s'=>E e p' s'/\DK h0 s'.heap) p s:=λhd hw=>
  Sem.wp_mono _ _ _ (λa p' s' z=>⟨z.1,hd.trans z.2⟩) (λa p' s' z=>⟨z.1,hd.trans z.2⟩) _ _ hw
 induction h with
 | pure a=>intro p s w;rw [Qx] at w⊢;exact⟨w,.refl _⟩
 | raise e=>intro p s w;rw [Qx] at w⊢;exact⟨w,.refl _⟩
 | uns e=>intro p s w;rw [Qx] at w;exact w.elim
 | rule _ ih=>intro p s w;rw [Qx] at w⊢;exact ih _ w
 | «at» _ ih=>intro p s w;rw [Qx] at w⊢;exact ih _ w
 | load _ ih=>
  intro p s w;rw [Qx] at w⊢;obtain⟨o,e,w⟩:=w;exact⟨o,e,ih _ w⟩
 | @update a _ f _ hf _ ih=>
  intro p s w;rw [Qx] at w⊢;refine⟨w.1,lift (λb o e=>?_) (ih _ w.2)⟩;by_cases hb:a=b
  ·subst hb;have fo:o.isFreed=false:=(Heap.get?_some_iff.mp e).2;exact⟨f o,Ph f e ((hf o).2 fo),(hf o).1⟩
  ·exact⟨o,(PQ _ f hb).trans e,rfl⟩
 | alloc _ ih=>
  intro p s w;rw [Qx] at w⊢;exact lift (λb o e=>⟨o,NJ _ e,rfl⟩) (ih _ w)
 | alive _ ih=>intro p s w;rw [Qx] at w⊢;exact ih _ w
 | point _ ih=>intro p s w;rw [Qx] at w⊢;exact ih _ w
 | reg=>intro p s w;rw [Qx] at w;exact w.elim
 | fresh _ ih=>intro p s w;rw [Qx] at w⊢;exact ih _ w
 | ask _ ih=>intro p s w;rw [Qx] at w⊢;exact ih _ w
 | stack _ ih=>intro p s w;rw [Qx] at w⊢;exact ih _ w
theorem QT.bind{α β:Type}{x:Sem α}{f:α->Sem β}(h:QT x)(hf:∀a,QT (f a)):QT (x >>=f):=by
 show QT (Sem.bind x f)
 induction h with
 | pure a=>exact hf a
 | raise e=>exact .raise e
 | uns w=>exact .uns w
 | rule _ ih=>exact .rule ih
 | «at» _ ih=>exact .at ih
 | load _ ih=>exact .load ih
 | update k _ ih=>exact .update k ih
 | alloc _ ih=>exact .alloc ih
 | alive _ ih=>exact .alive ih
 | point _ ih=>exact .point ih
 | reg=>exact .reg
 | fresh _ ih=>exact .fresh ih
 | ask _ ih=>exact .ask ih
 | stack _ ih=>exact .stack ih
theorem JV(f:Array UE->Array UE):Dh (SX f):=λo=>by
 obtain⟨c,d,dt,sl⟩:=o;cases dt <;> exact⟨rfl,λh=>h⟩
theorem JW(v:UE):QT (fieldsOf v):=by
 unfold fieldsOf;split
 ·refine .bind (.load λx=>.pure x) λo=>?_;split
  ·exact .pure _
  ·exact .uns _
 ·exact .uns _
theorem ui(v:UE)(i:Nat):QT (Us v i):=by
 unfold Us;refine .bind (JW v) λvs=>?_;split
 ·exact .pure _
 ·exact .uns _
theorem xJ(v:UE)(i:Nat)(x:UE):QT (setField v i x):=by
 unfold setField;split
 ·unfold updateField;refine .bind (.load λx=>.pure x) λo=>?_;split
  ·split
   ·exact .update (JV _) λx=>.pure x
   ·exact .uns _
  ·exact .uns _
 ·exact .uns _
theorem Di:∀l:List Env,QT (readyFrames l)
 | []=>.pure _
 | env::outer=>by
  unfold readyFrames;split
  ·refine .bind (.load λx=>.pure x) λo=>?_;split
   ·exact .pure _
   ·refine .bind ?_ λa=>.bind ?_ λb=>.bind (.update (λo=>⟨rfl,?_⟩) λx=>.pure x) λ_=>Di outer
    ·unfold behindIsImport;split
     ·exact .pure _
     ·split
      ·exact .pure _
      ·exact .bind (ui _ _) λ_=>.pure _
    ·unfold keptBack;split
     ·split
      ·exact .pure _
      ·unfold underTheClaimsCaller;exact .bind (.bind (.stack λx=>.pure x) λ_=>.pure _) λ_=>.pure _
     ·exact .pure _
    ·obtain⟨c,d,dt,sl⟩:=o;cases dt <;> exact λh=>h
  ·exact .uns _
theorem JX(env:Env):QT (SY env):=by
 unfold SY frameEnvs;refine .bind (.bind (.stack λx=>.pure x) λ_=>.pure _) λl=>.bind ?_ λo=>?_
 ·generalize l.dropWhile _=m;cases m with
  | nil=>exact .pure _
  | cons a r=>unfold frameObject;exact .bind (Di _) λ_=>.pure _
 ·split
  ·exact .pure _
  ·exact .uns _
theorem JY(f:UH)(b:Bool):QT (entryPlaceOf f b):=by
 unfold entryPlaceOf;refine .bind (.stack λx=>.pure x) λacts=>?_;split <;> exact .pure _
theorem JZ(a b c d e:UE)(l:List UE):QT (RP a b c d e l):=by
 have fin:∀x:Data,QT (newObjAsIs (.type "traceback") x):=λx=>by
  unfold newObjAsIs;exact .bind (.alloc λx=>.pure x) λ_=>.pure _
 have key:∀xs:Array UE,QT (newObj (.type "traceback") (.fields xs)):=λxs=>by
  unfold newObj;dsimp only;split
  ·exact .bind (.uns _) λ_=>fin _
  ·exact fin _
 unfold RP newFields;exact key _
theorem Dj(e:UE)(env:Env):QT (V6 e env):=by
 unfold V6;split
 ·refine .bind (ui _ _) λh=>?_;have tail:∀f:UH,QT (do setField e 1 (<-RP h (<-SY env) .none (Vj f) .none (<-entryPlaceOf f (h != .none)))):=λf=>.bind (JX env) λ_=>.bind (JY _ _) λ_=>.bind (JZ ..) λ_=>xJ ..;split
  ·refine .bind (ui _ _) λg=>?_;split
   ·exact .pure _
   ·exact .bind (xJ ..) λ_=>tail _
  ·exact tail _
 ·exact .uns _
theorem Dk(e:UE)(o:Option UH):QT (Wk e o):=by
 unfold Wk;refine .bind (ui _ _) λh=>?_;split
 ·exact xJ ..
 ·exact .pure _
theorem J0(env:Env)(e:UE):QT (leaving env e):=by
 unfold leaving;exact .bind (Dj _ _) λ_=>Dk _ _
theorem J1{M:VU}{A:UX}{env:Env}{e:UE}{Q:Unit->UI->Prop}{E:UE->UI->Prop}{s:UI}(h:UK M A (leaving env e) Q E s):UK M A (leaving env e) (λa s'=>Q a s'/\DK s.heap s'.heap) (λv s'=>E v s'/\DK s.heap s'.heap) s:=
 fun Γ p hΓ=>(J0 env e).and (h Γ p hΓ)
def kc(P:US)(w:UU):kH:=λouter H s E ev s'=>∃(e:UH)(cls a0:UE)(B:UR)(H':Hp),ev= .ref e/\s'.os=s.os/\VT s'.gens/\QJ B outer e cls a0 s'.heap/\bI P w H' B/\
 Un (cf outer) [] H H' s.heap s'.heap/\(∀b o,s.heap.get? b=some o->H b=none->b ∉ cf outer->B.get? b=some o)/\(∀b o,s.heap.get? b=some o->b ∉ cf outer->∃o',B.get? b=some o')/\∃oe,s'.heap.get? e=some oe/\E cls oe.dict H'
def mD(H:Hp)(e:UH):Hp:=λb=>if b=e then none else H b
theorem qD{H:Hp}{e b:UH}(h:b≠e):mD H e b=H b:=Uz h
theorem bI.out{P:US}{w:UU}{H:Hp}{h:UR}(x:bI P w H h){e:UH}{φ:UR->Prop}(he:H e=some (.ext φ)):bI P w (mD H e) h:=λa o q=>by
 have ne:a≠e:=λz=>by rw [z] at q;unfold mD at q;rw [UA rfl] at q;cases q
 rw [qD ne] at q;have k:∀b u,H b=some u->(∀φ,u≠ .ext φ)->mD H e b=some u:=λb u hb hn=>by
  rw [qD (λz=>by rw [z,he] at hb;cases hb;exact hn φ rfl)];exact hb
 exact(x a o q).stay (λ_ _ _ z=>z) (λb z=>k b _ z λ_ y=>by cases y) (λb xs z=>k b _ z λ_ y=>by cases y) λb z y=>k b _ y λ_ y=>by cases y
section
variable {P:US} {w:UU} {K:NG} {mg:Str->Option UE} {base:UR} {N:List Str} {qual:Str} {scope:Vc} {f:UH} {cd:UE} {A:UX} {outer:List Env} {s:UI} {H:Hp} {E:XK}
theorem J2{Wt:List (UH×Obj)}{σ:St}{H1:Hp}{s1:UI}{e:UH}{oe:Obj}{vs:Array UE}{a0:UE}{φ:UR->Prop}
 (I:ag (jS (kc P w) P w K mg base N qual scope f cd A outer s H E) Wt σ H1 s1)(he:s1.heap.get? e=some oe)(hd:oe.data= .fields vs)(h0:vs[0]?=some a0)(h1:vs[1]?=some .none)(ne0:s.heap.get? e=none)(hE:H1 e=some (.ext φ))
 (q:E oe.cls oe.dict (mD H1 e)):(jS (kc P w) P w K mg base N qual scope f cd A outer s H E).xe (.ref e) s1:=by
 have st:=I.stack;have sf:=I.stkFree;have ub:Un (cf outer) [] H H1 s.heap s1.heap:=I.base;have fo:s1.heap.FunFrames base outer:=I.funs;have hin:∀env∈(jS (kc P w) P w K mg base N qual scope f cd A outer s H E).stack,∀a,env.frame=some a->a∈e::cf (jS (kc P w) P w K mg base N qual scope f cd A outer s H E).stack:=λenv he a hf=>OY _ (RQ.mpr ⟨env,he,hf⟩);have bn:=hideAll_none (e::cf (jS (kc P w) P w K mg base N qual scope f cd A outer s H E).stack) (h:=s1.heap) (b:=e) PH;show UK (UL P w) _ (leaving _ (.ref e)) _ _ _;refine U2 (J1 (Q:=λ_ s'=>∃h',s'={s1 with heap:=h'}/\Heap.LeftW (hideAll s1.heap (e::cf (jS (kc P w) P w K mg base N qual scope f cd A outer s H E).stack)) (jS (kc P w) P w K mg base N qual scope f cd A outer s H E).stack e oe.cls a0 s1.heap h') (wpAny_leaving_firstW I.ok.frames (funFrames_hide st hin) rfl he (λb o z=>of_hideAll _ z) bn hd h1 h0 λh' hL=>⟨h',rfl,hL⟩)) (λ_ s' hs=>?_) (λ_ _ z=>z.1);obtain⟨⟨h2,rfl,k1,⟨_,_,k2⟩,k3,k4⟩,dk⟩:=hs;have nst:∀b o,s.heap.get? b=some o->b ∉ cf outer->b ∉ e::cf (jS (kc P w) P w K mg base N qual scope f cd A outer s H E).stack:=λb o eb hb hm=>by
  rcases NN.mp hm with z | hm
  ·rw [z,ne0] at eb;cases eb
  rcases NN.mp (I.stkSub b hm) with z | z
  ·have h1:=NV eb;have h2:=I.ok.above;rw [<-z] at h2;exact absurd (OW h1 h2) (Qp _)
  ·exact hb z
 have up:∀b∈cf outer,∀o,s1.heap.get? b=some o->∃sl,h2.get? b=some {o with slots:=sl}:=λb hb o eo=>by
  obtain⟨_,o',ho',hd⟩:=fo.mem hb;rw [eo] at ho';cases ho';exact k4 b o eo hd
 have out:∀b o,s.heap.get? b=some o->mD H1 e b=H1 b:=λb o eb=>qD λz=>by rw [z,ne0] at eb;cases eb
 have oux:∀b u,H1 b=some u->(∀φ,u≠ .ext φ)->mD H1 e b=some u:=λb u hb hn=>by
  rw [qD (λz=>by rw [z,hE] at hb;cases hb;exact hn φ rfl)];exact hb
 obtain⟨oe',he',dd⟩:=dk e oe he;refine⟨e,oe.cls,a0,_,mD H1 e,rfl,I.os,I.bare,⟨k1,bn,k2,k3⟩,(bI.out I.hok hE).hide (λb hb=>?_),⟨λb o eb n hb hx'=>?_,λb o eb n hb hx'=>?_,λb o eb n hx'=>?_,λb o eb hx'=>?_,λb xs z=>oux b _ (ub.tups b xs z) λ_ y=>(by cases y),λb o u z=>oux b _ (ub.frzs b o u z) λ_ y=>(by cases y),λb ps z=>?_⟩,λb o eb n hb=>?_,λb o eb hb=>?_,oe',he',by rw [dd];exact q⟩
 ·rcases NN.mp hb with z | z
  ·rw [z];exact UA rfl
  ·unfold mD;split
   ·rfl
   ·exact sf b z
 ·exact k1 b o (Wf _ (ub.keep b o eb n hb hx') (nst b o eb hb))
 ·obtain⟨sl,es⟩:=ub.slot b o eb n hb hx';obtain⟨sl',es'⟩:=up b hb _ es;exact⟨sl',es'⟩
 ·rw [out b o eb];exact ub.free b o eb n hx'
 ·obtain⟨o',eo'⟩:=ub.there b o eb hx';by_cases hb:b∈cf outer
  ·obtain⟨sl',es'⟩:=up b hb _ eo';exact⟨_,es'⟩
  ·exact⟨o',k1 b o' (Wf _ eo' (nst b o eb hb))⟩
 ·obtain⟨more,hm⟩:=ub.tbls b ps z;exact⟨more,oux b _ hm λ_ y=>(by cases y)⟩
 ·exact Wf _ (ub.keep b o eb n hb UC) (nst b o eb hb)
 ·obtain⟨o',eo'⟩:=ub.there b o eb UC;exact⟨o',Wf _ eo' (nst b o eb hb)⟩
end
def kE(e:UH)(C:UE)(dd:Option UH)(h:UR):Prop:=∃o,h.get? e=some o/\o.cls=C/\o.dict=dd/\notCls o=true
theorem Dm{M:VU}{A:UX}{env:Env}{e:UE}{Q:Unit->UI->Prop}{E:UE->UI->Prop}{s:UI}(h:UK M A (V6 e env) Q E s):UK M A (V6 e env) (λa s'=>Q a s'/\DK s.heap s'.heap) (λv s'=>E v s'/\DK s.heap s'.heap) s:=
 fun Γ p hΓ=>(Dj e env).and (h Γ p hΓ)
theorem uj{M:VU}{A:UX}{e:UE}{o:Option UH}{Q:Unit->UI->Prop}{E:UE->UI->Prop}{s:UI}(h:UK M A (Wk e o) Q E s):UK M A (Wk e o) (λa s'=>Q a s'/\DK s.heap s'.heap) (λv s'=>E v s'/\DK s.heap s'.heap) s:=
 fun Γ p hΓ=>(Dk e o).and (h Γ p hΓ)
section
variable {X:Cx} {CX:kH} {k:Nat} {f C C':UH} {fd:UP} {ps:List Str} {sp:Sp} {x c n:Str} {p cp ep np hp tp:Pos} {a:UO} {as:List UO} {b₀:UW} {suite:List UW} {t:TA} {i j:Nat} {ts:TS} {y:Str} {yp:Pos}
def J3(sp:Sp)(t:TA)(C:UH)(i j:Nat)(ts:TS):TS:=λD σ H=>t σ H λvs H1=>sp vs H1 (λv H2=>D.nx (σ.set j (some v)) H2) (λcls dd H2=>cls= .ref C/\∀e,H2 e=none->
 ts {nx:=λσ' H'=>D.nx (σ'.set i none) H',rt:=λ_ _=>False} (σ.set i (some (.ref e))) (ak H2 e (.ext (kE e (.ref C) dd))))
end
open PySem PySem.Spec PyProof.Rows PySem.W PySem.Calls PySem.Builtin.ObjectAttr PySem.Builtin
section
variable {prog:US} {w:UU} {A:UX} {E:UE->UI->Prop} {s:UI} {K:NG} {x C:UH} {ox:Obj} {od:Obj} {name:Str} {v:UE}
theorem J4{tk:Tok}{Q:Fin->UI->Prop}(Z:lC K C)(X:K.In s.heap)(J:Q0 s.heap x ox C (some od))(hf:findObj K C (some od) name=some (.value v))(hq:Q (.done (.ret v)) s):
 UK (UL prog w) A (Builtin.«object.__getattribute__» ⟨[.ref x,.str name tk],[]⟩) Q E s:=by
 obtain⟨hh,gg,dr,tt,os⟩:=s;have p:kI x (.ref C) hh:=⟨ox,J.at_,J.cls⟩;have L0:=kI.type (M:=UL prog w) p;have LF:=looks_find (M:=UL prog w) X J hf;unfold Builtin.«object.__getattribute__»
 repeat (first | with_reducible refine UG (L0.at ?_) | with_reducible refine UG (LF.at ?_) | wp_step)
 exact hq
theorem J5{tk:Tok}{R:Result->UI->Prop}(Z:lC K C)(X:K.In s.heap)(J:Q0 s.heap x ox C (some od))(hf:findObj K C (some od) name=some (.value v))(hq:R (.ok (.ret v)) s):
 Vy (UL prog w) A (.call (.builtin "BaseException.__getattribute__") ⟨[.ref x,.str name tk],[]⟩) R s:=
 Vl F.excAttr_ValueError.ga.plain F.entry_bexc_ga (BQ Z X ⟨ox,J.at_,J.cls⟩ (J4 Z X J hf hq))
theorem J6{tk:Tok}{fill expr:Bool}{Q:UE->UI->Prop}(Z:lC K C)(X:K.In s.heap)(J:Q0 s.heap x ox C (some od))(hf:findObj K C (some od) name=some (.value v))(hv:handedIn v=true)(hq:Q v s):
 UK (UL prog w) A (getAttrBy (.ref x) (.str name tk) fill expr) Q E s:=by
 obtain⟨hh,gg,dr,tt,os⟩:=s;have p:kI x (.ref C) hh:=⟨ox,J.at_,J.cls⟩;have L0:=kI.type (M:=UL prog w) p;have L1:=Vz (M:=UL prog w) X Z.ga;have L2:=Vz (M:=UL prog w) X Z.hk;have f3:=F.excAttr_ValueError.ga.bind (.ref x);have hx0:(expr && onTheHeap (Qi "BaseException.__getattribute__"))=false:=by cases expr <;> rfl
 have hx2:(Qi "BaseException.__getattribute__"==Qi "object.__getattribute__")=false:=td
 have hx1:(onTheHeap (Ow C) && Qi "BaseException.__getattribute__"==Qi "object.__getattribute__")=false:=by rw [hx2];rfl
 repeat (any_goals (first | assumption | with_reducible refine UG (L0.at ?_) | with_reducible refine UG (L1.at ?_) | with_reducible refine L2.at ?_ | wp_step))
 refine J5 (s:=⟨hh,gg,dr,tt,os⟩) Z X J hf ?_
 repeat (any_goals (first | assumption | wp_step))
 show UK _ _ (handedOut v) _ _ _;rw [handedOut_of hv];exact UJ hq
theorem J7{expr:Bool}{Q:UE->UI->Prop}(Z:lC K C)(X:K.In s.heap)(J:Q0 s.heap x ox C (some od))(hf:findObj K C (some od) name=some (.value v))(hv:handedIn v=true)(hq:Q v {s with toks:=s.toks+1}):
 UK (UL prog w) A (getAttr (.ref x) name expr) Q E s:=by
 obtain⟨hh,gg,dr,tt,os⟩:=s;unfold getAttr
 repeat (any_goals (first | assumption | with_reducible apply J6 (s:=⟨hh,gg,dr,tt+1,os⟩) Z X J hf hv | wp_step))
end
section
variable {X:Cx}
def xK(K:NG)(ta:TE)(f:Str):TE:=λσ H Q=>ta σ H λx H1=>∃(e C d:UH)(fs:List (Str×V))(v:V),x= .ref e/\H1 e=some (.ext (kE e (.ref C) (some d)))/\H1 d=some (.xd fs)/\lC K C/\hasDictIn K C=true/\Pl K (.ref C) f=some none/\fs.lookup f=some v/\(∀u,aD v u->handedIn u=true)/\Q v H1
theorem Dn{e:UO}{f:Str}{pos:Pos}{ta:TE}(he:PE X e ta)(hb:Vs e f X.env (eval e X.env)=eval e X.env):PE X (.Attribute e f pos) (xK X.K ta f):=by
 intro Wt s σ H Q I h;refine F2 hb (ax (he Wt s σ H _ I h) λu s1 ⟨x,H1,I1,rx,a,C,d,fs,v,ex,ea,ed,Z,hh,ha,l,hv,q⟩=>?_);subst ex;obtain rfl:u=Ow a:=rx;obtain⟨ob,ho,hc,hd,nc⟩:=(show bE X.prog X.w H1 s1.heap a (.ext (kE a (.ref C) (some d))) from I1.hok a _ ea).1;obtain⟨mA,n,r⟩:=(show bE X.prog X.w H1 s1.heap d (.xd fs) from I1.hok d _ ed);obtain⟨w',hw,rw'⟩:=p4.some_of (v:=v) (o:=mA f) (by rw [<-l];exact r f);obtain⟨od,hod,hl⟩:=Bi n;have J:Q0 s1.heap a ob C (some od):=⟨ho,hc,nc,by rw [hd];exact hod⟩;exact J7 Z I1.kIn J (findObj_own hh ha rfl (by rw [hl,hw])) (hv _ rw') ⟨v,H1,I1.tok _,rw',q⟩
theorem kE.plain{e:UH}{C:UE}{dd:Option UH}{h:UR}(x:kE e C dd h):kI e C h:=let ⟨o,a,b,_⟩:=x;⟨o,a,b⟩
theorem Ka:kq X (.builtin "isinstance") (λxs H Q=>∃(dd:Option UH)(e C:UH)(c:V)(cv:UE)(b:Bool),xs=[.ref e,c]/\H e=some (.ext (kE e (.ref C) dd))/\lC X.K C/\(∀u,aD c u->u=cv)/\QG X.K (.ref C) cv=some b/\Q (.bl b) H):=by
 intro Wt s σ H xs us Q I r h;obtain⟨dd0,e,C,c,cv,b,rfl,he,Z,hc,hk,q⟩:=h;obtain⟨u,w',rfl,rx,rt⟩:=pe r;cases (show u=Ow e from rx);have:=hc _ rt;subst this;have p:kI e (.ref C) s.heap:=(show bE X.prog X.w H s.heap e (.ext (kE e (.ref C) dd0)) from I.hok e _ he).1.plain;exact PJ (BR Z) I.kIn p hk (λz=>nomatch z) λtk=>⟨.bl b,H,I.tok tk,rfl,q⟩
theorem Kb:kq X (.builtin "isinstance") (λxs H Q=>∃(dd:Option UH)(e C q:UH)(cs:List UH)(b:Bool),xs=[.ref e,.ref q]/\H e=some (.ext (kE e (.ref C) dd))/\H q=some (.tup (cs.map V.ref))/\lC X.K C/\Q1 X.K (.ref C) (cs.map Ow)=some b/\Q (.bl b) H):=by
 intro Wt s σ H xs us Q I r h;obtain⟨dd0,e,C,q,cs,b,rfl,he,hq,Z,hk,k⟩:=h;obtain⟨u,w',rfl,rx,rt⟩:=pe r;cases (show u=Ow e from rx);cases (show w'=Ow q from rt);have p:kI e (.ref C) s.heap:=(show bE X.prog X.w H s.heap e (.ext (kE e (.ref C) dd0)) from I.hok e _ he).1.plain;obtain⟨its,rv,⟨⟨oc,od,odt,osl⟩,eo,c,n,dd⟩,_⟩:=I.tuple (aX.of hq);have:=Hd rv;subst this;simp only at c dd;subst c dd;exact PySem.W.kia_tup (BR Z) I.kIn p eo hk (λz=>nomatch z) λtk=>⟨.bl b,H,I.tok tk,rfl,k⟩
end
section
variable {M:VU} {A:UX} {E:UE->UI->Prop} {env:Env}
variable {nm q:Str} {C N:UH} {bs bm:List UE} {hdct:Bool} {sn:List Str} {sub:List UE} {ab:Bool} {col:Option Bool} {dd:Option UH} {k0 k1 k2 k3 k5:Option UE} {newId:String}
theorem Kc{s:UI}{x:Sem UE}{Q:Flow->UI->Prop}(hbase:bm.contains (.type "BaseException")=true)(hh:A.handled=none)
 (h:UK M A x (λv s₁=>∃e oe vs,v= .ref e/\s₁.heap.get? C=some (Vf nm q C N bs bm hdct sn sub ab col dd k0 k1 k2 k3 k5 newId)/\
  s₁.heap.get? e=some oe/\oe.cls= .ref C/\oe.data= .fields vs/\vs[1]?=some .none/\E (.ref e) s₁) E s):UK M A (raiseStmt env (some x) none) Q E s:=by
 have hcB:(Ow C::bm).contains (.type "BaseException")=true:=by rw [RR,hbase,Sg]
 unfold raiseStmt;refine UG (U2 h (λv s₁ h₁=>?_) λ_ _ x=>x);obtain⟨e,oe,vs,rfl,hC,he,hc,hd,h1,hE⟩:=h₁;obtain⟨hp,g,d,tk,os⟩:=s₁;obtain⟨oc,odc,odt,osl⟩:=oe;dsimp only at hc hd;subst hc hd
 repeat (first | with_reducible refine U7 he ?_ | with_reducible refine U7 hC ?_ | (with_reducible refine VC hC ?_;rw [hcB]) | wp_step)
 rw [h1]
 repeat (first | wp_step)
 exact wpAny_raiseNew_none hh hE
end
section
variable {prog:US} {w:UU} {A:UX} {E:UE->UI->Prop} {h:UR} {g:Array V0} {d:Drawn} {t:Nat} {os:OsState}
variable {nm q:Str} {C N:UH} {bs bm bmB:List UE} {hdct:Bool} {sn:List Str} {sub:List UE} {ab:Bool} {col:Option Bool} {dd:Option UH} {k0 k1 k2 k3 k5:Option UE} {B newId initId:String}
theorem Kd(F:VB B newId initId bmB)(T:OwnTail h bmB bm){K:NG}{rest:List UE}{fI:UH}{Q:Fin->UI->Prop}
 (hC:h.get? C=some (Vf nm q C N bs bm hdct sn sub ab col dd k0 k1 k2 k3 k5 newId))(XK:K.In h)(hi:V7 K (.ref C) "__init__"=some (some (.ref fI)))(hf:typeIn K (.ref fI)=some (.type "function"))(hrest:rest.length<=UN)
 (hq:∀h' e,SN h h' e (.ref C) rest->UK (UL prog w) A (call (.ref fI) (.ref e::rest)) (λr s'=>r= .none/\Q (.done (.ret (.ref e))) s') E ⟨h',g,d,t,os⟩):
 UK (UL prog w) A (Builtin.«type.__call__» ⟨.ref C::rest,[]⟩) Q E ⟨h,g,d,t,os⟩:=by
 repeat (first | with_reducible refine U7 hC ?_ | with_reducible refine wpAny_madeBy_exc hC ?_ | wp_step)
 refine codeAny_call_builtin_code (Ri _ F.quiet) (wpAny_check_new_subT F T hC (codeAny_exc_new_subT F T hC ?_ hrest));show UK _ _ _ _ _ _;have k:∀b o,h.get? b=some o->((h.push {cls:= .type "tuple",data:= .seq rest.toArray}).push {cls:= .ref C,data:= .fields #[.ref h.objs.size,.none,.none,.none,.bool false,.none]}).get? b=some o:=λb o e=>NJ _ (NJ _ e);have hget:((h.push {cls:= .type "tuple",data:= .seq rest.toArray}).push {cls:= .ref C,data:= .fields #[.ref h.objs.size,.none,.none,.none,.bool false,.none]}).get? (h.objs.size+1)=some {cls:= .ref C,data:= .fields #[.ref h.objs.size,.none,.none,.none,.bool false,.none]}:=by heap_get
 have htup:((h.push {cls:= .type "tuple",data:= .seq rest.toArray}).push {cls:= .ref C,data:= .fields #[.ref h.objs.size,.none,.none,.none,.bool false,.none]}).get? h.objs.size=some {cls:= .type "tuple",data:= .seq rest.toArray}:=NJ _ (Tw rfl rfl);have hcC:(Ow C::bm).contains (.ref C)=true:=UC
 have made:=λz=>hq ((h.push {cls:= .type "tuple",data:= .seq rest.toArray}).push {cls:= .ref C,data:= .fields #[.ref h.objs.size,.none,.none,.none,.bool false,.none]}) (h.objs.size+1) ⟨k,Q6 (Q7 _),h.objs.size,hget,Q6 (NT _),z⟩;have made:=made htup;have hC₁:=k _ _ hC;have X₁:K.In _:=λa o e=>k a o (XK a o e);have T₁:=T.keeps k;unfold isInstance
 repeat (first | with_reducible refine U7 hget ?_ | (with_reducible refine VC hC₁ ?_;rw [hcC]) | wp_step)
 show UK _ _ (typeLookup (.ref C) _) _ _ _;refine(Vz (M:=UL prog w) X₁ hi).at ?_;refine U8 (UG ?_);unfold bindSpecial;refine UG ((looks_typeIn (M:=UL prog w) X₁ hf).at ?_);rw [UA Ce];refine UJ (UG (U2 made (λr s' hr=>?_) λ_ _ x=>x));obtain⟨rfl,hQ⟩:=hr
 wp_walk
 exact hQ
theorem Ke(F:VB B newId initId bmB)(T:OwnTail h bmB bm){K:NG}{rest:List UE}{fI:UH}{Q:UE->UI->Prop}
 (hC:h.get? C=some (Vf nm q C N bs bm hdct sn sub ab col dd k0 k1 k2 k3 k5 newId))(XK:K.In h)(hi:V7 K (.ref C) "__init__"=some (some (.ref fI)))(hf:typeIn K (.ref fI)=some (.type "function"))(hrest:rest.length<=UN)
 (hq:∀h' e,SN h h' e (.ref C) rest->UK (UL prog w) (A.under (.builtin "type.__call__" ⟨.ref C::rest,[]⟩)) (call (.ref fI) (.ref e::rest)) (λr s'=>r= .none/\Q (.ref e) s') E ⟨h',g,d,t,os⟩):
 UK (UL prog w) A (call (.ref C) rest) Q E ⟨h,g,d,t,os⟩:=by
 have f1:=tc_lookup;have f2:=tc_bind (.ref C);have hT:(⟨h,g,d,t,os⟩:UI).TypeIs (.ref C) "type":=⟨_,hC,rfl⟩;refine VV (codeAny_of_tree ?_);show UK _ _ (callAny (.ref C) _) _ _ _
 repeat (any_goals (first | assumption | with_reducible refine U7 hC ?_ | wp_step))
 refine⟨rfl,codeAny_call_builtin_at (Ri _ td) entry_typeCall (wpAny_check_type_call_sub hC (Kd F T hC XK hi hf hrest λh' e hm=>hq h' e hm))⟩
end
theorem Kf{h:UR}{bmB bm:List UE}(T:OwnTail h bmB bm)(self:UE)(what:Str):refuseLoop self what bm=refuseLoop self what bmB:=by
 induction T with
 | base=>rfl
 | own _ _ _ _ ih=>rw [refuseLoop_ref,ih]
section
variable {prog:US} {w:UU} {A:UX} {E:UE->UI->Prop} {h:UR} {g:Array V0} {d:Drawn} {t:Nat} {os:OsState} {K:NG}
variable {nm q:Str} {C N x:UH} {bs bm bmB:List UE} {sn:List Str} {sub:List UE} {ab:Bool} {col:Option Bool} {dd:Option UH} {k0 k1 k2 k3 k5:Option UE} {B newId sa owner:String} {name:Str} {v:UE} {o:Obj} {vs:Array UE}
structure xM (h h':UR) (x:UH) (o:Obj) (name:Str) (v:UE) (dx:UH):Prop where
 at_:h'.get? x=some {cls:=o.cls,dict:=some dx,data:=o.data,slots:=o.slots}
 new:h.get? dx=none
 ne:dx≠x
 ns:h'.Ns1 dx λy=>if y=name then some v else none
 keep:∀b ob,b≠x->h.get? b=some ob->h'.get? b=some ob
theorem Kg{tk:Tok}{Q:Fin->UI->Prop}(SF:StoreFacts B bmB sa owner)(X:K.In h)(T:OwnTail h bmB bm)
 (hC:h.get? C=some (Vf nm q C N bs bm true sn sub ab col dd k0 k1 k2 k3 k5 newId))(ha:V7 K (.ref C) name=some none)(hx:h.get? x=some o)(hc:o.cls= .ref C)(hd:o.data= .fields vs)(hdn:o.dict=none)
 (hq:∀h' tk' dx,xM h h' x o name v dx->Q (.done (.ret .none)) ⟨h',g,d,tk',os⟩):
 UK (UL prog w) A (Builtin.«object.__setattr__» ⟨[.ref x,.str name tk,v],[]⟩) Q E ⟨h,g,d,t,os⟩:=by
 have hpass:refuseLoop (.ref x) "__setattr__" bm=pure ():=(Kf T _ _).trans (SF.passes (.ref x));have L:=Vz (M:=UL prog w) X ha;unfold Builtin.«object.__setattr__»
 repeat (first | rw [refuse_eq] | (rw [refuseLoop_ref,hpass]) | (with_reducible refine U7 hx ?_;rw [hc]) | with_reducible refine wpAny_mroOf_exc hC ?_ | with_reducible refine UG (L.at ?_) | wp_step)
 rw [hdn,hd];dsimp only;rw [Uz (by simp [typeHasDict])];have hx₁:(h.push {cls:= .type "dict",data:= .dict #[]}).get? x=some o:=NJ _ hx;have hxs:x≠h.objs.size:=OF (NV hx);refine UG (wpAny_alloc' (UG (wpAny_update' hx₁ (UJ ?_))));have hgd:((h.push {cls:= .type "dict",data:= .dict #[]}).update x λo=>{cls:=o.cls,dict:=some h.objs.size,data:=o.data,slots:=o.slots}).get? h.objs.size=some {cls:= .type "dict",data:= .dict #[]}:=
  (S7 _ _ _ _ hxs.symm).trans (Tw rfl rfl)
 have hnd:((h.push {cls:= .type "dict",data:= .dict #[]}).update x λo=>{cls:=o.cls,dict:=some h.objs.size,data:=o.data,slots:=o.slots}).Ns h.objs.size (λ_=>none):=⟨_,#[],_,hgd,rfl,λe he=>absurd he UC,λ_=>rfl⟩;show UK _ _ (storeInDict h.objs.size (.str name tk) name v) _ _ _;unfold storeInDict newKeyGuard;refine UG (UJ (UG (wpAny_nsSet1 (Heap.Ns1.of_empty hnd) λh' hn' hs=>?_)));obtain⟨oD,esD,epD,hoD,hdD,hcD⟩:=hn'.count (Within.cons name v Within.nil);refine UG (wpAny_lookBehind hoD (by rw [hdD];exact pastItsLine_dict (Oz hcD (by rw [NI,N7,UT];omega))) ?_)
 wp_walk
 refine hq h' _ h.objs.size ⟨?_,Q6 (NT _),hxs.symm,hn',λb ob hb e=>?_⟩
 ·refine(hs.2 x hxs).trans (Ph _ hx₁ ?_);obtain⟨oc,od,odt,osl⟩:=o;dsimp only at hd;subst hd;rfl
 ·exact(hs.2 b (OF (NV e))).trans ((S7 _ _ _ _ hb).trans (NJ _ e))
theorem Kh{M:VU}{nameV:UE}{Q:Unit->UI->Prop}(SF:StoreFacts B bmB sa owner)(T:OwnTail h bmB bm)
 (hC:h.get? C=some (Vf nm q C N bs bm true sn sub ab col dd k0 k1 k2 k3 k5 newId))(hx:h.get? x=some o)(hc:o.cls= .ref C)(hq:Q () ⟨h,g,d,t,os⟩):
 UK M A (VL sa ⟨[.ref x,nameV,v],[]⟩) Q E ⟨h,g,d,t,os⟩:=by
 have hcB:(Ow C::bm).contains (.type owner)=true:=by rw [RR,T.hasType SF.hasOwner,Sg]
 have ha:=SF.args (.ref x) nameV v;simp only [VL,SF.kind,SF.split];refine UG ?_;unfold isInstance
 repeat (first | (with_reducible refine U7 hx ?_;rw [hc]) | (with_reducible refine VC hC ?_;rw [hcB]) | wp_step)
 cases hsig:Manifest.signature? sa with
 | none=>exact UJ hq
 | some sig=>
  simp only [argsOk,hsig] at ha;show UK M A (T5 sa sig ⟨[.ref x,nameV,v],[]⟩) Q E _;rw [show T5 sa sig ⟨[.ref x,nameV,v],[]⟩=pure () from ha];exact UJ hq
theorem Ki{Q:Unit->UI->Prop}(SF:StoreFacts B bmB sa owner)(X:K.In h)(T:OwnTail h bmB bm)
 (hC:h.get? C=some (Vf nm q C N bs bm true sn sub ab col dd k0 k1 k2 k3 k5 newId))(hs:V7 K (.ref C) "__setattr__"=some (some (.builtin sa)))(ha:V7 K (.ref C) name=some none)(hx:h.get? x=some o)(hc:o.cls= .ref C)(hd:o.data= .fields vs)(hdn:o.dict=none)
 (hq:∀h' tk' dx,xM h h' x o name v dx->Q () ⟨h',g,d,tk',os⟩):UK (UL prog w) A (setAttr (.ref x) name v) Q E ⟨h,g,d,t,os⟩:=by
 have f3:=SF.slot.bind (.ref x);have L:=Vz (M:=UL prog w) X hs;unfold setAttr callSpecial? specialOf
 repeat (any_goals (first | assumption | (with_reducible refine U7 hx ?_;rw [hc]) | with_reducible refine L.at ?_ | with_reducible refine UG (L.at ?_) | wp_step))
 refine Vl SF.slot.plain SF.entry (Kh SF T hC hx hc (Kg SF X T hC ha hx hc hd hdn λh' tk' dx D=>?_))
 repeat (any_goals (first | assumption | wp_step))
 exact hq h' tk' dx D
end
section
variable {prog:US} {w:UU} {A:UX} {E:UE->UI->Prop} {h:UR} {g:Array V0} {d:Drawn} {t:Nat} {os:OsState}
variable {nm q:Str} {C N x:UH} {bs bm bmB:List UE} {hdct:Bool} {sn:List Str} {sub:List UE} {ab:Bool} {col:Option Bool} {dd:Option UH} {k0 k1 k2 k3 k5:Option UE} {B newId initId:String} {o:Obj} {ta:UH}
structure Dp (h h':UR) (x:UH) (o:Obj) (t0:UH):Prop where
 at_:h'.get? x=some {o with data:= .fields #[.ref t0,.none,.none,.none,.bool false,.none]}
 keep:∀b ob,b≠x->h.get? b=some ob->h'.get? b=some ob
theorem Kj{rest:List UE}{Q:UE->UI->Prop}(F:VB B newId initId bmB)(T:OwnTail h bmB bm)(hC:h.get? C=some (Vf nm q C N bs bm hdct sn sub ab col dd k0 k1 k2 k3 k5 newId))
 (hx:h.get? x=some o)(hc:o.cls= .ref C)(hd:o.data= .fields #[.ref ta,.none,.none,.none,.bool false,.none])(hr:rest.length<=UN)(hq:∀h' tk t0,Dp h h' x o t0->Q .none ⟨h',g,d,tk,os⟩):
 UK (UL prog w) A (call (.builtin initId) (.ref x::rest)) Q E ⟨h,g,d,t,os⟩:=by
 refine VV (Vl F.init.plain F.initEntry (wpAny_check_init_subT F T hC hx hc ?_));obtain⟨oc,od,odt,osl⟩:=o;dsimp only at hc hd;subst hc hd
 wp_walk
 refine hq _ _ h.objs.size ⟨?_,λb ob hb e=>?_⟩
 ·exact Ph _ (NJ _ hx) rfl
 ·exact(PQ _ _ (Ne.symm hb)).trans (NJ _ e)
theorem Kk{K:NG}{s:UI}{C':UH}{pl:Sem Bool}{Q:UE×List UE->UI->Prop}(X:K.In s.heap)(hs:specialIn K (.ref C') "__getattribute__"=some (some (.builtin "type.__getattribute__")))(hr:readsIn K C' (.type "type")=true)
 (hf:findCls K (.ref C') (.type "type") "__init__"=some (.val (.builtin initId)))(hh:handedIn (.builtin initId)=true)(hq:Q (.builtin initId,[]) {s with toks:=s.toks+1}):UK (UL prog w) A (getMethod (.ref C') "__init__" pl) Q E s:=
 method_cls X hs (cls_value X hr hf hh hq)
end
def mj(e:UH)(C:UE)(h:UR):Prop:=∃ta,h.get? e=some {cls:=C,data:= .fields #[.ref ta,.none,.none,.none,.bool false,.none]}
def nu(e:UH)(C:UE)(d:UH)(h:UR):Prop:=∃ta,h.get? e=some {cls:=C,dict:=some d,data:= .fields #[.ref ta,.none,.none,.none,.bool false,.none]}
def oP(K:NG)(C:UH)(bmB:List UE)(newId:String):Bool:=match K.lookup C with
 | some ⟨.type "type",_,.cls cd,sl⟩=>(match cd.mro,sl.toList with
  | .ref C'::bm,[_,_,_,_,some (.builtin n),_]=>C'==C && n==newId && !cd.hasDel && cd.hasDict && tailIn K bmB bm && nsOkIn K cd.ns
  | _,_=>false)
 | _=>false
theorem pR{K:NG}{h:UR}{C:UH}{bmB:List UE}{newId:String}(X:K.In h)(q:oP K C bmB newId=true):
 ∃(bm:List UE)(nm qn:Str)(N:UH)(bs:List UE)(sn:List Str)(sub:List UE)(ab:Bool)(col:Option Bool)(dd:Option UH)(k0 k1 k2 k3 k5:Option UE),
  h.get? C=some (Vf nm qn C N bs bm true sn sub ab col dd k0 k1 k2 k3 k5 newId)/\h.Ns N (h.nsMap N)/\OwnTail h bmB bm:=by
 unfold oP at q;split at q
 ·rename_i dd cd sl ho;split at q
  ·rename_i C' bm k0 k1 k2 k3 n k5 hm hs;simp only [Oh,beq_iff_eq,N0] at q;obtain⟨⟨⟨⟨⟨rfl,rfl⟩,hdel⟩,hdi⟩,ht⟩,hok⟩:=q;obtain⟨nm,bs,mro,ns,qn,hd,sn,sub,ab,col,del⟩:=cd;dsimp only at hm hdel hdi hok;subst hm hdel hdi;have hsl:sl=#[k0,k1,k2,k3,some (.builtin n),k5]:=by
    obtain⟨l⟩:=sl;simp only at hs;rw [hs]
   subst hsl;exact⟨bm,nm,qn,ns,bs,sn,sub,ab,col,dd,k0,k1,k2,k3,k5,X _ _ ho,.of_isNs (isNs_of_in X hok),tail_of_in X ht⟩
  ·cases q
 ·cases q
section
variable {X:Cx} {Wt:List (UH×Obj)} {σ:St} {H:Hp} {s:UI} {h':UR} {e C d:UH} {f:Str} {v:V} {u:UE}
theorem ag.reargs{tk:Tok}{o:Obj}{t0:UH}(I:ag X Wt σ H s)(he:H e=some (.ext (mj e (.ref C))))(ho:∃ta,o={cls:= .ref C,data:= .fields #[.ref ta,.none,.none,.none,.bool false,.none]})(R:Dp s.heap h' e o t0):ag X Wt σ (ak H e (.ext (mj e (.ref C)))) {s with heap:=h',toks:=tk}:=by
 obtain⟨ta,rfl⟩:=ho;exact I.write (by rw [he];exact PV) (.inl rfl) R.keep ⟨_,R.at_⟩ ⟨⟨t0,R.at_⟩,⟨_,R.at_⟩,λh1 h2 uu20 k=>by obtain⟨x,z⟩:=uu20;exact⟨x,k _ z⟩⟩
theorem ag.dicted{tk:Tok}{o:Obj}(I:ag X Wt σ H s)(he:H e=some (.ext (mj e (.ref C))))(ho:∃ta,o={cls:= .ref C,data:= .fields #[.ref ta,.none,.none,.none,.bool false,.none]})(rv:aD v u)(D:xM s.heap h' e o f u d):
 ag X Wt σ (ak (ak H d (.xd [(f,v)])) e (.ext (nu e (.ref C) d))) {s with heap:=h',toks:=tk}:=by
 obtain⟨ta,rfl⟩:=ho;have hd0:H d=none:=by
  cases z:H d with
  | none=>rfl
  | some w'=>obtain⟨ob,hb⟩:=(I.hok d w' z).there;rw [D.new] at hb;cases hb
 have ne:∀b w',H b=some w'->(∀φ,w'≠ .ext φ)->b≠e/\b≠d:=λb w' z n=>⟨λy=>by rw [y,he] at z;cases z;exact n _ rfl,λy=>by rw [y,hd0] at z;cases z⟩;have oth:∀b,b≠e->b≠d->ak (ak H d (.xd [(f,v)])) e (.ext (nu e (.ref C) d)) b=H b:=λb h1 h2=>by rw [av h1,av h2]
 have keepX:∀b w',H b=some w'->(∀φ,w'≠ .ext φ)->ak (ak H d (.xd [(f,v)])) e (.ext (nu e (.ref C) d)) b=some w':=λb w' z n=>by
  obtain⟨h1,h2⟩:=ne b w' z n;rw [oth b h1 h2];exact z
 have nE:∀b,H b=none->b≠e:=λb n y=>by rw [y,he] at n;cases n
 refine I.un ⟨λb o eb n _ _=>D.keep b o (nE b n) eb,λb o eb n _ _=>⟨o.slots,D.keep b o (nE b n) eb⟩,λb o eb n _=>?_,λb o eb _=>?_,λb xs z=>keepX b _ z λ_ y=>(by cases y),λb o w' z=>keepX b _ z λ_ y=>(by cases y),λb ps z=>⟨#[],by rw [Tj];exact keepX b _ z λ_ y=>(by cases y)⟩⟩ λb w' z=>?_
 ·rw [oth b (nE b n) λy=>by rw [y,D.new] at eb;cases eb];exact n
 ·by_cases hb:b=e
  ·rw [hb];exact⟨_,D.at_⟩
  ·exact⟨o,D.keep b o hb eb⟩
 ·by_cases hb:b=e
  ·subst hb;rw [bh] at z;cases z;exact⟨⟨ta,D.at_⟩,⟨_,D.at_⟩,λh1 h2 uu21 k=>by obtain⟨x,z⟩:=uu21;exact⟨x,k _ z⟩⟩
  ·rw [av hb] at z;by_cases hb2:b=d
   ·subst hb2;rw [bh] at z;cases z;refine⟨_,D.ns,λy=>?_⟩;by_cases hy:y=f
    ·subst hy;rw [UA rfl,O4,beq_self_eq_true];exact rv
    ·rw [Uz hy,O4,show(y==f)=false from by simpa using hy];exact PV
   ·rw [av hb2] at z;refine(I.hok b w' z).stay (λb' u' hb' q=>D.keep b' u' (λy=>?_) q) (λb' z'=>keepX b' _ z' λ_ y=>(by cases y)) (λb' xs z'=>keepX b' _ z' λ_ y=>(by cases y)) λb' xs z'=>keepX b' _ z' λ_ y=>(by cases y);rcases hb' with r | r
    ·exact hb (r.symm.trans y)
    ·rw [y,he] at r;cases r
end
section
variable {X:Cx} {C C':UH} {c:Str} {np ap cp pos pos':Pos} {a:UO} {as:List UO} {ta:TA} {B newId initId:String} {bmB:List UE} {pl:Sem Bool}
def Dq(C:UH)(ta:TA):TS:=λD σ H=>ta σ H λvs H1=>∃e rest,vs= .ref e::rest/\rest.length<=UN/\H1 e=some (.ext (mj e (.ref C)))/\D.nx σ (ak H1 e (.ext (mj e (.ref C))))
theorem Kl(hmc:X.mg c=some (.ref C'))(hgc:Gl X c)(hs:specialIn X.K (.ref C') "__getattribute__"=some (some (.builtin "type.__getattribute__")))(hr:readsIn X.K C' (.type "type")=true)
 (hf:findCls X.K (.ref C') (.type "type") "__init__"=some (.val (.builtin initId)))(hh:handedIn (.builtin initId)=true)(F:VB B newId initId bmB)(hO:oP X.K C bmB newId=true)(ha:PA X (a::as) ta)
 (ht:eval (.Call (.Attribute (.Name c np) "__init__" ap) (a::as) [] cp) X.env=(do
  let ov<-eval (.Name c np) X.env
  standAt ap.atName
  let (f,first)<-holding [ov] (getMethod ov "__init__" pl)
  callWith cp f first (U3 cp (UM (a::as) X.env)) (Wb cp (VQ [] X.env))):=by rfl)
 (hdc:(c==("__debug__":Str))=false:=by decide)(he:UM (a::as) X.env=(false,eval a X.env)::UM as X.env:=by rfl)(hpl:(U3 cp (UM as X.env)).any (·.1)=false:=by rfl)
 (hsw:Ve (.Call (.Attribute (.Name c np) "__init__" ap) (a::as) [] cp) none pos.line X.env=pure false:=by rfl):
 PS X (.Expr (.Call (.Attribute (.Name c np) "__init__" ap) (a::as) [] cp) pos) (Dq C ta):=by
 intro Wt s σ H D I h;refine wpAny_Expr_any (PySem.W.methodCall_KW (pl:=pl) (oj I hgc hmc ?_ hdc) ht) I.quiet hsw;refine Kk I.kIn hs hr hf hh ?_;have hA:=ha cp Wt _ σ H _ (I.tok (s.toks+1)) h;rw [he] at hA⊢;refine Sz (by show(false || (U3 cp (UM as X.env)).any (·.1))=false;rw [hpl];rfl) (SR ?_);refine ax hA λus s1 ⟨vs,H1,I1,r,e,rest,ev,hl,hE,q⟩=>?_;subst ev;cases r with
 | cons r0 r1=>
  cases r0;obtain⟨ta0,hx⟩:=(show bE X.prog X.w H1 s1.heap e (.ext (mj e (.ref C))) from I1.hok e _ hE).1;obtain⟨bm,nm,qn,N,bs,sn,sub,ab,col,dd,k0,k1,k2,k3,k5,hC,_,T⟩:=pR I1.kIn hO;obtain⟨hp,gg,dr,tk,os⟩:=s1;refine Kj F T hC hx rfl rfl (by rw [<-r1.length];exact hl) λh2 tk2 t0 R=>?_;exact⟨σ,_,I1.reargs hE ⟨ta0,rfl⟩ R,q⟩
def Dr(C:UH)(f:Str)(to tv:TE):TS:=λD σ H=>tv σ H λv H1=>to σ H1 λx H2=>∃e,x= .ref e/\H2 e=some (.ext (mj e (.ref C)))/\∀d,H2 d=none->d≠e->D.nx σ (ak (ak H2 d (.xd [(f,v)])) e (.ext (nu e (.ref C) d)))
theorem Km{o value:UO}{f:Str}{to tv:TE}{sa owner:String}(ho:PE X o to)(hv:PE X value tv)(SF:StoreFacts B bmB sa owner)(hO:oP X.K C bmB newId=true)(hsa:V7 X.K (.ref C) "__setattr__"=some (some (.builtin sa)))(ha:V7 X.K (.ref C) f=some none)
 (hs:Ve value (some (.Attribute o f pos')) pos.line X.env=pure false:=by rfl):PS X (.Assign [.Attribute o f pos'] value pos) (Dr C f to tv):=by
 intro Wt s σ H D I h;refine plainObj_wpAny_Assign_Attribute (ax (hv Wt s σ H _ I h) λu s1 ⟨y,H1,I1,ry,q⟩=>ax (ho Wt s1 σ H1 _ I1 q) λov s2 ⟨x,H2,I2,rx,e,ex,hE,q2⟩=>?_) hs;subst ex;obtain rfl:ov=Ow e:=rx;obtain⟨ta0,hx⟩:=(show bE X.prog X.w H2 s2.heap e (.ext (mj e (.ref C))) from I2.hok e _ hE).1;obtain⟨bm,nm,qn,N,bs,sn,sub,ab,col,dd,k0,k1,k2,k3,k5,hC,_,T⟩:=pR I2.kIn hO;obtain⟨hp,gg,dr,tk,os⟩:=s2;refine Ki SF I2.kIn T hC hsa ha hx rfl rfl rfl λh2 tk2 dx D2=>?_;have d0:H2 dx=none:=by
  cases z:H2 dx with
  | none=>rfl
  | some w'=>obtain⟨ob,hb⟩:=(I2.hok dx w' z).there;rw [D2.new] at hb;cases hb
 exact⟨σ,_,I2.dicted hE ⟨ta0,rfl⟩ ry D2,q2 dx d0 D2.ne⟩
end
structure MkX (K:NG) (C f:UH) (bmB:List UE) (newId:String):Prop where
 seen:oP K C bmB newId=true
 init:Pl K (.ref C) "__init__"=some (some (.ref f))
 fn:Ti K (.ref f)=true
 kp:Qk K (.ref C)=true
section
variable {X:Cx} {CX:kH} {k:Nat} {f C:UH} {fd:UP} {ps:List Str} {sp:Sp} {x:Str} {np cpos pos:Pos} {e:UO} {es:List UO} {t:TA} {B newId initId:String} {bmB:List UE}
theorem ag.raw{Wt:List (UH×Obj)}{σ:St}{H:Hp}{s:UI}{h':UR}{a:UH}{args:List UE}{tk:Tok}(I:ag X Wt σ H s)(hm:SN s.heap h' a (.ref C) args):H a=none/\ag X Wt σ (ak H a (.ext (mj a (.ref C)))) {s with heap:=h',toks:=tk}:=by
 obtain⟨ta,he,_,_⟩:=hm.there;have h0:H a=none:=by
  cases z:H a with
  | none=>rfl
  | some w'=>obtain⟨ob,hb⟩:=(I.hok a w' z).there;rw [hm.new] at hb;cases hb
 have keepX:∀b w',H b=some w'->ak H a (.ext (mj a (.ref C))) b=some w':=λb w' z=>by
  rw [av (λy=>by rw [y,h0] at z;cases z)];exact z
 refine⟨h0,I.un ⟨λb o eb n _ _=>hm.keeps b o eb,λb o eb n _ _=>⟨o.slots,hm.keeps b o eb⟩,λb o eb n _=>?_,λb o eb _=>⟨o,hm.keeps b o eb⟩,λb xs z=>keepX b _ z,λb o w' z=>keepX b _ z,λb ps z=>⟨#[],by rw [Tj];exact keepX b _ z⟩⟩ λb w' z=>?_⟩
 ·rw [av (λy=>by rw [y,hm.new] at eb;cases eb)];exact n
 ·by_cases hb:b=a
  ·subst hb;rw [bh] at z;cases z;exact⟨⟨ta,he⟩,⟨_,he⟩,λh1 h2 uu25 k=>by obtain⟨x,z⟩:=uu25;exact⟨x,k _ z⟩⟩
  ·rw [av hb] at z;exact(I.hok b w' z).stay (λb' u' _ q=>hm.keeps b' u' q) (λb' z'=>keepX b' _ z') (λb' xs z'=>keepX b' _ z') λb' xs z'=>keepX b' _ z'
theorem Kn{Wt:List (UH×Obj)}{σ:St}{H:Hp}{s:UI}{Q:VK}{us:List UE}{vs:List V}(FB:VB B newId initId bmB)(M:MkX X.K C f bmB newId)(F:aC X.prog X.w X.K X.mg X.base CX k f fd ps sp)(hr:bH (k+1) X.A)(hb:l9 X.K fd ps [])
 (hx:qg CX X E0)(I:ag X Wt σ H s)(r:aG vs us)(hl:us.length<=UN)(hex:X.ex=[])
 (h:∀a,H a=none->X.s₀.heap.get? a=none->sp (.ref a::vs) (ak H a (.ext (mj a (.ref C)))) (λv H2=>v= .non/\Q (.ref a) H2) E0):
 UK (UL X.prog X.w) X.A (call (.ref C) us) (EP X Wt σ Q) X.xe s:=by
 obtain⟨bm,nm,qn,N,bs,sn,sub,ab,col,dd,k0,k1,k2,k3,k5,hC,_,T⟩:=pR I.kIn M.seen;obtain⟨hp,gg,dr,tk,os⟩:=s;refine Ke FB T hC I.kIn M.init (beq_iff_eq.mp M.fn) hl λh' a hm=>?_;obtain⟨h0,I2⟩:=I.raw (tk:=tk) hm;have n0:X.s₀.heap.get? a=none:=by
  cases z:X.s₀.heap.get? a with
  | none=>rfl
  | some o=>
   obtain⟨o',z'⟩:=I.base.there a o z (by rw [hex];simp);have:=hm.new;rw [show(⟨hp,gg,dr,tk,os⟩:UI).heap=hp from rfl] at z';rw [this] at z';cases z'
 have hq:=h a h0 n0;have r2:aG (V.ref a::vs) (Ow a::us):= .cons rfl r;have hl2:(Ow a::us++[]).length=ps.length:=by
  rw [NZ,<-r2.length];exact F.len _ _ _ _ hq
 have bd:=hb _ (Ow a::us) I2.kIn hl2;rw [NZ] at bd;refine VV (Vo (F.run _ X.stack _ _ ⟨Ow a::us,[]⟩ (Ow a::us) _ _ E0 (hr.make C us []) (I2.env0.make C us []) bd r2 hq) λr s' hq'=>?_);cases r with
 | error e=>exact hx Wt σ _ _ e s' I2 hq'
 | ok fl=>
  cases fl with
  | ret u=>
   obtain⟨v,H',I3,rv,ev,q3⟩:=I2.after hq';subst ev;exact⟨rv,⟨V.ref a,H',I3,rfl,q3⟩⟩
  | next=>exact Pw hq'
  | brk=>exact Pw hq'
  | cont=>exact Pw hq'
def Ds(X:Cx)(C:UH)(sp:Sp)(t:TA):TE:=λσ H Q=>t σ H λvs H1=>vs.length<=UN/\∀a,H1 a=none->X.s₀.heap.get? a=none->sp (.ref a::vs) (ak H1 a (.ext (mj a (.ref C)))) (λv H2=>v= .non/\Q (.ref a) H2) E0
theorem Ko(FB:VB B newId initId bmB)(M:MkX X.K C f bmB newId)(F:aC X.prog X.w X.K X.mg X.base CX k f fd ps sp)(hr:bH (k+1) X.A)(hg:Gl X x)(hm:X.mg x=some (.ref C))(hb:l9 X.K fd ps [])(hx:qg CX X E0)(hex:X.ex=[])
 (ha:PA X (e::es) t)(hdb:(x==("__debug__":Str))=false:=by decide)(he:UM (e::es) X.env=(false,eval e X.env)::UM es X.env:=by rfl)(hpl:(U3 cpos (UM es X.env)).any (·.1)=false:=by rfl):
 PE X (.Call (.Name x np) (e::es) [] cpos) (Ds X C sp t):=by
 intro Wt s σ H Q I h;refine Vp (oj I hg hm ?_ hdb);refine Rf (h₀:=X.base) I.ok.mod.kin M.kp (ax (ha cpos Wt s σ H _ I h) λus s1 ⟨vs,H1,I1,r,hl,q⟩=>⟨I1.kIn,?_⟩) he hpl;exact Kn FB M F hr hb hx I1 r (by show us.length<=UN;rw [<-r.length];exact hl) hex q
def Kp(X:Cx)(C:UH)(sp:Sp)(t:TA)(Ex:UH->UH->Hp->Prop):TS:=λ_ σ H=>Ds X C sp t σ H λv H2=>∃a d,v= .ref a/\X.s₀.heap.get? a=none/\H2 a=some (.ext (nu a (.ref C) d))/\Ex a d H2
theorem Kq{Ex:UH->UH->Hp->Prop}(hc:X.calm=true)(FB:VB B newId initId bmB)(M:MkX X.K C f bmB newId)(F:aC X.prog X.w X.K X.mg X.base CX k f fd ps sp)(hr:bH (k+1) X.A)(hg:Gl X x)(hm:X.mg x=some (.ref C))(hb:l9 X.K fd ps [])(hx:qg CX X E0)(hex:X.ex=[])
 (ha:PA X (e::es) t)(hxe:∀(Wt:List (UH×Obj)) (σ:St) (H:Hp) (s:UI) (a d:UH),ag X Wt σ H s->X.s₀.heap.get? a=none->H a=some (.ext (nu a (.ref C) d))->Ex a d H->X.xe (.ref a) s)
 (hdb:(x==("__debug__":Str))=false:=by decide)(he:UM (e::es) X.env=(false,eval e X.env)::UM es X.env:=by rfl)(hpl:(U3 cpos (UM es X.env)).any (·.1)=false:=by rfl):
 PS X (.Raise (some (.Call (.Name x np) (e::es) [] cpos)) none pos) (Kp X C sp t Ex):=by
 intro Wt s σ H D I h;obtain⟨bm,nm,qn,N,bs,sn,sub,ab,col,dd,k0,k1,k2,k3,k5,hC,_,T⟩:=pR I.ok.mod.kin M.seen;rw [arm_exec_Raise];simp only [evalOpt,Option.map];refine UG (VM (Kc (C:=C) (nm:=nm) (q:=qn) (N:=N) (bs:=bs) (bm:=bm) (hdct:=true) (sn:=sn) (sub:=sub) (ab:=ab) (col:=col) (dd:=dd) (k0:=k0) (k1:=k1) (k2:=k2) (k3:=k3) (k5:=k5) (newId:=newId) (T.hasType FB.hasBase) (I.ok.hd hc) ?_));refine UG (ax (Ko FB M F hr hg hm hb hx hex ha hdb he hpl Wt s σ H _ I h) λv s1 ⟨y,H1,I1,r1,a,d,ey,n0,hE,q⟩=>UG (VM (UJ ?_)));subst ey;obtain rfl:v=Ow a:=r1;obtain⟨ta,hx1⟩:=(show bE X.prog X.w H1 s1.heap a (.ext (nu a (.ref C) d)) from I1.hok a _ hE).1;exact⟨a,_,_,rfl,I1.bk _ _ hC,hx1,rfl,rfl,rfl,hxe Wt σ H1 s1 a d I1 n0 hE q⟩
end
section
variable {P:US} {w:UU} {K:NG} {mg:Str->Option UE} {base:UR} {N:List Str} {qual:Str} {scope:Vc} {f:UH} {cd:UE} {A:UX} {outer:List Env} {s:UI} {H:Hp} {E:XK}
theorem Kr{Wt:List (UH×Obj)}{σ:St}{H1:Hp}{s1:UI}{a C d:UH}(I:ag (jS (kc P w) P w K mg base N qual scope f cd A outer s H E) Wt σ H1 s1)(n0:s.heap.get? a=none)(hE:H1 a=some (.ext (nu a (.ref C) d)))
 (q:E (.ref C) (some d) (mD H1 a)):(jS (kc P w) P w K mg base N qual scope f cd A outer s H E).xe (.ref a) s1:=by
 obtain⟨ta,hx⟩:=(show bE P w H1 s1.heap a (.ext (nu a (.ref C) d)) from I.hok a _ hE).1;exact J2 I hx rfl (a0:= .ref ta) rfl rfl n0 hE q
end
theorem Du(a b:Str):(a++b).length=a.length+b.length:=by
 obtain⟨x⟩:=a;obtain⟨y⟩:=b;show(x++y).size=x.size+y.size;exact R7
section
variable {X:Cx}
def Dv(i:Nat):TE:=λσ H Q=>∃n:Int,σ[i]?=some (some (.int n))/\n.natAbs.log2 < 1920/\(NF (toString n)).length<=1000/\∀z:Str,Q (.str z) H
theorem Ks{i:Nat}{s0 x:Str}{j:Nat}{p1 p2 p3 pos:Pos}(h0:s0.length<=1000)(hx:PE X (.Name x p3) (nI i)):PE X (.JoinedStr [.Constant (.str s0) j p1,.FormattedValue (.Name x p3) (-1) none p2] pos) (Dv i):=by
 intro Wt s σ H Q I ⟨n,e,hn,hz,q⟩;have sl:=UT;refine JoinedStr_many (joinParts_cons (ax (uU Wt s σ H (λv H1=>v= .str s0/\H1=H) I ⟨rfl,rfl⟩) λv s1 ⟨y,H1,I1,r1,ey,eH⟩=>?_));subst ey eH;obtain⟨t1,rfl⟩:=r1;have l1:(RH++s0).length<=1000:=by rw [Du];show 0+s0.length<=1000;omega
 refine⟨Uy,joinParts_cons (FormattedValue_plain (ax (hx Wt s1 σ H1 (λv H2=>v= .int n/\H2=H1) I1 ⟨_,e,rfl,rfl⟩) λv s2 ⟨y,H2,I2,r2,ey,eH⟩=>?_))⟩;subst ey eH;obtain⟨t2,rfl⟩:=r2;refine formatField_int_small hn ?_;have l2:(RH++s0++NF (toString n)).length<=UN:=by rw [Du];omega
 exact⟨l2,joinParts_nil (hsz:=l2) ⟨.str (RH++s0++NF (toString n)),H2,(I2.tok _).tok _,⟨_,rfl⟩,q _⟩⟩
end
theorem Kt{H:Hp}{a:UH}{o:HO}(h:H a=some o):ak H a o=H:=by
 funext b;by_cases e:b=a
 ·rw [e,bh,h]
 ·rw [av e]
def xN(C:UH)(f:Str):Sp:=λvs H Q _=>∃(a:UH)(n:Int),vs=[.ref a,.int n]/\n.natAbs.log2 < 1920/\(NF (toString n)).length<=1000/\H a=some (.ext (mj a (.ref C)))/\∀d,H d=none->d≠a->Q .non (ak (ak H d (.xd [(f,.int n)])) a (.ext (nu a (.ref C) d)))
section
variable {P:US} {w:UU} {K:NG} {mg:Str->Option UE} {base:UR}
theorem lg.okNX{x qual f:Str}{st:UW}{fa C:UH}{fd:UP}{N ps:List Str}{k:Nat}(Fu:lg K x qual st fa fd)(S:aQ N ps (ay st))(h2:ps.length=2)(hN:N=ps)
 (hbody:∀(cdv:UE) (A:UX) (outer:List Env) (s:UI) (H:Hp) (E:XK),bH k (A.deeper (VN qual (ay st) s.heap.objs.size fa cdv))->bJ (jS CX0 P w K mg base N qual (ay st) fa cdv A outer s H E).nox (lJ st) (sH (Dq C (rz (nI 0) (rz (Dv 1) sV))) (Dr C f (nI 0) (nI 1)))):
 aC P w K mg base CX0 (k+1) fa fd ps (xN C f):=by
 refine Fu.ok S (λvs H Q E uu30=>by obtain⟨a,n,e,_⟩:=uu30;rw [e,h2];rfl) λcdv A outer s H vs Q E hr ⟨a,n,ev,hn,hz,hE,q⟩=>⟨_,hbody cdv A outer s H E hr,?_⟩;subst ev hN;have st:start N [V.ref a,V.int n]=[some (V.ref a),some (V.int n)]:=by
  match N,h2 with
  | [y,z],_=>rfl
 rw [st];refine⟨.ref a,rfl,n,rfl,hn,hz,λz=>⟨a,[.str z],rfl,by rw [UT];show 1<=16777216;decide,hE,?_⟩⟩;rw [Kt hE];exact⟨.int n,rfl,.ref a,rfl,a,rfl,hE,λd hd ne=>q d hd ne⟩
end
abbrev uk:=List UD->(UD->Prop)->(Int->Prop)->Prop
inductive um (K:NG) (C:UH) (f:Str) (F:uk) (vs:List V) (H:Hp) (Q:VK) (E:XK):Prop
 | mk (O:Ex) (ds:List UD) (Qd:UD->Prop) (R:Int->Prop):(∀l,O l->H l≠none)->aq K H O vs ds->F ds Qd R->(∀d v H',Qd d->ao H H'->Dt K H' O v d->Q v H')->
  (∀n,R n->∀dd H',ao H H'->H' dd=some (.xd [(f,.int n)])->E (.ref C) (some dd) H')->um K C f F vs H Q E
section
variable {P:US} {w:UU} {K:NG} {mg:Str->Option UE} {base:UR}
theorem lg.okRd{x qual:Str}{st:UW}{f:UH}{fd:UP}{N ps:List Str}{k:Nat}{sp:Sp}(F:lg K x qual st f fd)(S:aQ N ps (ay st))(len:∀vs H Q E,sp vs H Q E->vs.length=ps.length)
 (hbody:∀(cdv:UE) (A:UX) (outer:List Env) (s:UI) (H:Hp) (vs:List V) (Q:VK) (E:XK),bH k (A.deeper (VN qual (ay st) s.heap.objs.size f cdv))->sp vs H Q E->
  ∃t,bJ (jS (kc P w) P w K mg base N qual (ay st) f cdv A outer s H E) (lJ st) t/\t {nx:=λ_ H'=>Q .non H',rt:=Q} (start N vs) H):aC P w K mg base (kc P w) (k+1) f fd ps sp:=by
 obtain⟨oc,od,kV,doc,pm,an,cdv,ct,osl,rfl,lk,hcd⟩:=F.ex;exact Bo lk hcd S len λA outer s H vs Q E hr hsp=>hbody cdv A outer s H vs Q E hr hsp
theorem lg.okDXn{C:UH}{af x qual:Str}{st:UW}{f:UH}{fd:UP}{N ps:List Str}{k:Nat}{F:uk}(Fu:lg K x qual st f fd)(S:aQ N ps (ay st))(len:∀ds Q R,F ds Q R->ds.length=ps.length)
 (hbody:∀(cdv:UE) (A:UX) (outer:List Env) (s:UI) (H:Hp) (O:Ex) (ds:List UD) (Q:UD->Prop) (R:Int->Prop) (E:XK),bH k (A.deeper (VN qual (ay st) s.heap.objs.size f cdv))->F ds Q R->
  (∀n,R n->∀dd H',ao H H'->H' dd=some (.xd [(af,.int n)])->E (.ref C) (some dd) H')->
  ∃t,bJ (jS (kc P w) P w K mg base N qual (ay st) f cdv A outer s H E) (lJ st) (j3 K H O t)/\t {nx:=λ_=>Q .none,rt:=Q} (bR N ds)):aC P w K mg base (kc P w) (k+1) f fd ps (um K C af F):=by
 refine Fu.okRd S (λvs H Q E h=>?_) (λcdv A outer s H vs Q E hr h=>?_)
 ·obtain⟨O,ds,Qd,R,_,r,q,_⟩:=h;rw [r.length];exact len _ _ _ q
 ·obtain⟨O,ds,Qd,R,tr,r,q,k,kx⟩:=h;obtain⟨t,ht,q'⟩:=hbody cdv A outer s H O ds Qd R E hr q kx;refine⟨_,ht,O,_,_,B5 tr r,q',λO' δ' σ' H' z w' S'=>?_,λd v H' z s' r'=>k d v H' z s' r',λ_ _ _ _ z=>z.elim,λ_ _ _ _ z=>z.elim⟩;exact k _ _ _ z w'.same .non
def fw(R:Int->Prop)(u:DA):DS:=λ_ δ=>u δ λds=>∃n,ds=[.int n]/\n.natAbs.log2 < 1920/\(NF (toString n)).length<=1000/\R n
section
variable {N:List Str} {qual:Str} {scope:Vc} {f0:UH} {cd:UE} {A:UX} {outer:List Env} {s:UI} {H:Hp} {O:Ex} {E:XK} {R:Int->Prop} {C:UH} {af:Str}
theorem sg{j k:Nat}{fi:UH}{fdi:UP}{psi:List Str}{x:Str}{bm:List UE}{B newId initId:String}{e:UO}{np cpos pos:Pos}{u:DA}(hx:∀n,R n->∀dd H',ao H H'->H' dd=some (.xd [(af,.int n)])->E (.ref C) (some dd) H')
 (FB:VB B newId initId bm)(M:MkX K C fi bm newId)(G:aC P w K mg base CX0 k fi fdi psi (xN C af))(hr:bH j (jS (kc P w) P w K mg base N qual scope f0 cd A outer s H E).A)(hm:mg x=some (.ref C))(hb:l9 K fdi psi [])
 (ha:PA (jS (kc P w) P w K mg base N qual scope f0 cd A outer s H E) [e] (mw K H O u))(hk:k+1<=j:=by decide)(hg:Gl (jS (kc P w) P w K mg base N qual scope f0 cd A outer s H E) x:=by exact rfl)(hd:(x==("__debug__":Str))=false:=by decide)
 (he:UM [e] (jS (kc P w) P w K mg base N qual scope f0 cd A outer s H E).env=(false,eval e (jS (kc P w) P w K mg base N qual scope f0 cd A outer s H E).env)::UM [] (jS (kc P w) P w K mg base N qual scope f0 cd A outer s H E).env:=by rfl)
 (hpl:(U3 cpos (UM [] (jS (kc P w) P w K mg base N qual scope f0 cd A outer s H E).env)).any (·.1)=false:=by rfl):
 PS (jS (kc P w) P w K mg base N qual scope f0 cd A outer s H E) (.Raise (some (.Call (.Name x np) [e] [] cpos)) none pos) (j3 K H O (fw R u)):=
 λWt s1 σ H1 D I ⟨O1,δ,EE,w1,q1,_,_,_,_⟩=>Kq (Ex:=λa d H2=>∃n,R n/\ao H (mD H2 a)/\mD H2 a d=some (.xd [(af,.int n)])) rfl FB M G (hr.mono hk) hg hm hb Bz rfl ha
  (λWt σ H2 s2 a d I2 n0 hE uu33=>by obtain⟨n,r,sm,hd⟩:=uu33;exact Kr I2 n0 hE (hx n r d _ sm hd)) hd he hpl Wt s1 σ H1 D I
  ⟨O1,δ,_,w1,q1,λds vs H2 uu34 s2 r2=>by
   obtain⟨n,ed,hn,hz,r⟩:=uu34;subst ed;cases r2 with
   | cons r3 r4=>
    cases r4;cases r3;refine⟨by rw [UT];show 1<=16777216;decide,λa ha0 n0=>⟨a,n,rfl,hn,hz,bh,λd hd ne=>⟨rfl,a,d,rfl,n0,bh,n,r,?_,?_⟩⟩⟩
    ·intro b o hb;have hb2:H2 b=some o:=(w1.same.trans s2) b o hb;have na:b≠a:=λy=>by rw [y,ha0] at hb2;cases hb2
     have nd:b≠d:=λy=>by rw [av ne] at hd;rw [y,hd] at hb2;cases hb2
     rw [qD na,av na,av nd,av na];exact hb2
    ·rw [qD ne,av ne,bh]⟩
end
end
section
variable {X:Cx} {CX:kH} {k:Nat} {f C C':UH} {fd:UP} {ps:List Str} {sp:Sp} {x c n:Str} {p cp ep np hp tp:Pos} {a:UO} {as:List UO} {b₀:UW} {suite:List UW} {t:TA} {i j:Nat} {ts:TS} {y:Str} {yp:Pos}
theorem Ku{bmB bmB':List UE}{newId newId':String}(F:aC X.prog X.w X.K X.mg X.base (kc X.prog X.w) k f fd ps sp)(hr:bH k X.A)(hg:Gl X x)(hm:X.mg x=some (.ref f))(hk:Qk X.K (.ref f)=true)(hb:l9 X.K fd ps [])
 (ha:∀E',PA (X.wish E') (a::as) t)(hst:X.stack=X.env::X.outer)(hfr:X.env.frame=some X.env.locals)
 (hmc:X.mg c=some (.ref C'))(hgc:Gl X c)(q:oP X.K C bmB newId=true)(q':RE X.K C' bmB' newId'=true)(hB:bmB'.contains (.type "BaseException")=true)
 (hin:P1 X.K C (.ref C')=some true)
 (hN:X.N.Nodup)(hj:X.N[j]?=some y)(hy:oT X.env.scope y)(hf:X.fn y=true\/X.env.scope.names.lookup y=some .local)(hi:X.N[i]?=some n)(hn:X.env.scope.names.lookup n=some .local)(hs:∀e,bJ (X.inEx e) (b₀::suite) ts)
 (hdb:(x==("__debug__":Str))=false:=by decide)(hdc:(c==("__debug__":Str))=false:=by decide)(he:UM (a::as) X.env=(false,eval a X.env)::UM as X.env:=by rfl)(hpl:(U3 cp (UM as X.env)).any (·.1)=false:=by rfl)(hsw:Ve (.Call (.Name x p) (a::as) [] cp) (some (.Name y yp)) ep.line X.env=pure false:=by rfl):
 PS X (.Try [.Assign [.Name y yp] (.Call (.Name x p) (a::as) [] cp) ep] [.ExceptHandler (some (.Name c np)) (some n) (b₀::suite) hp] [] [] tp) (J3 sp t C i j ts):=by
 intro Wt s σ H D I h;refine wpAny_Try_except ?_;generalize hEh:(λ(e:UE) (s₁:UI)=>UK (UL X.prog X.w) X.A (V6 e X.env) (λ_ s₂=>UK (UL X.prog X.w) X.A (Wk e none) (λ_ s₃=>UK (UL X.prog X.w) X.A (handleBy e X.env [.ExceptHandler (some (.Name c np)) (some n) (b₀::suite) hp]) (SP X Wt D) X.xe s₃) X.xe s₂) X.xe s₁)=Eh;have I':ag (X.wish Eh) Wt σ H s:=I.wish Eh;have out:UK (UL X.prog X.w) X.A (eval (.Call (.Name x p) (a::as) [] cp) X.env) (λu s₁=>∃v H',ag X Wt σ H' s₁/\aD v u/\D.nx (σ.set j (some v)) H') Eh s:=by
  refine Vp (oj I hg hm ?_ hdb);refine Rf (h₀:=X.base) I.ok.mod.kin hk (ax (ha Eh cp Wt s σ H _ I' h) λus s1 ⟨vs,H1,I1w,r,q1⟩=>⟨I1w.kIn,?_⟩) he hpl;have I1:ag X Wt σ H1 s1:=I1w.unwish;have hl:(us++[]).length=ps.length:=by rw [NZ,<-r.length];exact F.len _ _ _ _ q1
  have bd:=hb s1 us I1.kIn hl;rw [NZ] at bd;refine VV (Vo (F.run X.A X.stack s1 H1 ⟨us,[]⟩ us vs _ _ hr I1.env0 bd r q1) λr2 s2 hq=>?_);cases r2 with
  | ok fl=>
   cases fl with
   | ret u=>
    obtain⟨v,H2,I2,rv,q2⟩:=I1.after hq;exact⟨v,H2,I2,rv,q2⟩
   | next=>exact Pw hq
   | brk=>exact Pw hq
   | cont=>exact Pw hq
  | error ev=>
   obtain⟨e,cls,a0,B,H2,rfl,ho,hgn,fl,hB2,un,kb,th,ox,hox,rfl,hsu⟩:=hq;rw [<-hEh];have fl':QJ B (X.env::X.outer) e (.ref C) a0 s2.heap:=by rw [<-hst];exact fl
   refine U2 (Dm (Q:=λ_ s'=>∃h4,s'={s2 with heap:=h4}/\Heap.HeldW B (X.env::X.outer) e (.ref C) a0 X.env.locals h4/\s2.heap.UpToSlots h4) (wpAny_looks_onW (by rw [I.ok.frames,hst]) hfr fl' λh4 a b=>⟨h4,rfl,a,b⟩)) (λ_ s4 hs4=>?_) (λ_ _ z=>z.1);obtain⟨⟨h4,rfl,held4,sm4⟩,dk4⟩:=hs4;refine U2 (uj (Q:=λ_ s'=>∃h5,s'={s2 with heap:=h5}/\QJ B (X.env::X.outer) e (.ref C) a0 h5/\h4.UpToSlots h5) (wpAny_landsW held4 λh5 a b=>⟨h5,rfl,a,b⟩)) (λ_ s5 hs5=>?_) (λ_ _ z=>z.1);obtain⟨⟨h5,rfl,fl5,sm5⟩,dk5⟩:=hs5;have sm25:=sm4.trans sm5;have I5:ag X Wt σ H2 {s2 with heap:=h5}:=ag.call' (ch:=[]) (s':={s2 with heap:=h5}) I1 ho (tm (X:=X) un fl fl5.1 sm25 kb th) (hB2.kept fl5.1) hgn (λ_ z=>nomatch z);have I5e:=I5.inEx e;obtain⟨ob,hob,hobc⟩:=fl5.there;have O:=(G2 (x:=c) (mg:=X.mg) (C:=C') I.ok.mod.kin hmc q').obj;obtain⟨tl',N',nm',qn',bs',hd',sn',sub',ab',col',dd',k0',k1',k2',k3',k5',mN',hC',_,_,T'⟩:=O;obtain⟨tl,nm,qn,N,bs,sn,sub,ab,col,dd,k0,k1,k2,k3,k5,hC,_,T⟩:=pR I.ok.mod.kin q;refine wpAny_handleBy_cons (codeAny_handlers_test (oj I5e hgc hmc ?_ hdc)) (by intro z;cases z);have hbase':tl'.contains (.type "BaseException")=true:=by rw [T'.hasType hB]
   refine BO (I5.bk _ _ hC) (I5.bk _ _ hC') hob hobc hbase' (BP I.ok.mod.kin hin hC) ?_;refine codeAny_handlers_suite_as ?_;refine U2 (uj (Q:=λ_ s'=>∃h6,s'={s2 with heap:=h6}/\QJ B (X.env::X.outer) e (.ref C) a0 h6/\h5.UpToSlots h6) (lands_againW fl5 λh6 a b=>⟨h6,rfl,a,b⟩)) (λ_ s6 hs6=>?_) (λ_ _ z=>z.1);obtain⟨⟨h6,rfl,fl6,sm6⟩,dk6⟩:=hs6;have dk26:DK s2.heap h6:=(dk4.trans dk5).trans dk6;have eB:B.get? e=none:=fl.2.1;have nH2:H2 e=none:=by
    cases z:H2 e with
    | none=>rfl
    | some u=>
     obtain⟨ob',z'⟩:=(hB2 e u z).there;rw [eB] at z';cases z'
   have u6:=tm (X:=X) un fl fl6.1 (sm25.trans sm6) kb th;have n1:∀o,s1.heap.get? e=some o->False:=λo z=>by
    by_cases hbf:e∈cf X.stack
    ·obtain⟨_,o',ho',hd'⟩:=fl.2.2.1.mem hbf;obtain⟨oe,ws,hoe,_,hoed,_⟩:=fl.first;rw [hoe] at ho';cases ho';exact hd' _ hoed
    ·obtain⟨o',z'⟩:=th e o z hbf;rw [eB] at z';cases z'
   have ne2:∀b u,H2 b=some u->b≠e:=λb u z w'=>by rw [w',nH2] at z;cases z
   have un6:Un (cf X.stack) [] H1 (ak H2 e (.ext (kE e (.ref C) ox.dict))) s1.heap h6:=
    ⟨u6.keep,u6.slot,λb o z nn hx=>by rw [av (λw'=>n1 o (by rw [<-w'];exact z))];exact u6.free b o z nn hx,u6.there,
     λb xs z=>by rw [av (ne2 b _ (u6.tups b xs z))];exact u6.tups b xs z,λb o xs z=>by rw [av (ne2 b _ (u6.frzs b o xs z))];exact u6.frzs b o xs z,
     λb pss z=>by obtain⟨mo,z'⟩:=u6.tbls b pss z;exact⟨mo,by rw [av (ne2 b _ z')];exact z'⟩⟩
   have ok6:bI X.prog X.w (ak H2 e (.ext (kE e (.ref C) ox.dict))) h6:=λb u z=>by
    by_cases hbe:b=e
    ·subst hbe;rw [bh] at z;cases z;obtain⟨o6,vs6,ho6,hc6,hf6,_⟩:=fl6.first;obtain⟨o7,ho7,hd7⟩:=dk26 _ ox hox;rw [ho6] at ho7;cases ho7;exact⟨⟨o6,ho6,hc6,hd7,by unfold notCls;rw [hf6]⟩,⟨o6,ho6⟩,λh1 h2 uu36 kk=>by obtain⟨o,z1,z2⟩:=uu36;exact⟨o,kk o z1,z2⟩⟩
    ·rw [av hbe] at z;exact(hB2 b u z).stay (λcc v _ z'=>fl6.1 cc v z') (λcc z'=>by rw [av (ne2 cc _ z')];exact z') (λcc xs z'=>by rw [av (ne2 cc _ z')];exact z') λcc xs z'=>by rw [av (ne2 cc _ z')];exact z'
   have I6:ag X Wt σ (ak H2 e (.ext (kE e (.ref C) ox.dict))) {s2 with heap:=h6}:=ag.call' (ch:=[]) (s':={s2 with heap:=h6}) I1 ho un6 ok6 hgn (λ_ z=>nomatch z);refine oU (X:=X.inEx e) (I6.inEx e) hN hi (.inl hn) (v:= .ref e) rfl (λs7 I7=>?_) (.inr hn);refine U2 (hs e Wt s7 _ _ _ I7 (hsu e nH2)) (λf s8 q8=>?_) λ_ _ z=>z.elim;cases f with
   | next=>
    obtain⟨σ8,H8,J8,q8⟩:=q8;exact G3 (J8.outEx I.ok.hd) hN hi hn λs9 J9=>⟨σ8.set i none,H8,J9,q8⟩
   | ret v=>obtain⟨_,_,_,_,_,z⟩:=q8;exact z.elim
   | brk=>obtain⟨_,_,_,z⟩:=q8;exact z.elim
   | cont=>obtain⟨_,_,_,z⟩:=q8;exact z.elim
 refine V1 (wpAny_Assign_Name (ax out λu s1 ⟨v,H',I1,r1,q1⟩=>?_) hsw);exact oU I1 hN hj hy r1 (λs2 I2=>VF (VF ⟨_,H',I2,q1⟩)) hf
end
theorem Dw{X:Cx}{K':NG}(h:X.K=K'):kq X (.builtin "isinstance") (λxs H Q=>∃(dd:Option UH)(e C:UH)(c:V)(cv:UE)(b:Bool),xs=[.ref e,c]/\H e=some (.ext (kE e (.ref C) dd))/\lC K' C/\(∀u,aD c u->u=cv)/\QG K' (.ref C) cv=some b/\Q (.bl b) H):=by
 subst h;exact Ka
theorem Dx{X:Cx}{K':NG}(h:X.K=K'):kq X (.builtin "isinstance") (λxs H Q=>∃(dd:Option UH)(e C q:UH)(cs:List UH)(b:Bool),xs=[.ref e,.ref q]/\H e=some (.ext (kE e (.ref C) dd))/\H q=some (.tup (cs.map V.ref))/\lC K' C/\Q1 K' (.ref C) (cs.map Ow)=some b/\Q (.bl b) H):=by
 subst h;exact Kb
section
variable {X:Cx} {CX:kH} {k:Nat} {f C C':UH} {fd:UP} {ps:List Str} {sp:Sp} {x c n:Str} {p cp ep np hp tp:Pos} {a:UO} {as:List UO} {b₀:UW} {suite:List UW} {t:TA} {i j:Nat} {ts:TS} {y:Str} {yp:Pos}
def Kv(sp:Sp)(t:TA)(C:UH)(ts:TS):TS:=λD σ H=>t σ H λvs H1=>sp vs H1 (λv H2=>D.rt v H2) (λcls dd H2=>cls= .ref C/\∀e,H2 e=none->
 ts {nx:=D.nx,rt:=D.rt} σ (ak H2 e (.ext (kE e (.ref C) dd))))
theorem Kw{bmB bmB':List UE}{newId newId':String}(F:aC X.prog X.w X.K X.mg X.base (kc X.prog X.w) k f fd ps sp)(hr:bH k X.A)(hg:Gl X x)(hm:X.mg x=some (.ref f))(hk:Qk X.K (.ref f)=true)(hb:l9 X.K fd ps [])
 (ha:∀E',PA (X.wish E') (a::as) t)(hst:X.stack=X.env::X.outer)(hfr:X.env.frame=some X.env.locals)
 (hmc:X.mg c=some (.ref C'))(hgc:Gl X c)(q:oP X.K C bmB newId=true)(q':oP X.K C' bmB' newId'=true)(hB:bmB'.contains (.type "BaseException")=true)
 (hin:P1 X.K C (.ref C')=some true)
 (hs:∀e,bJ (X.inEx e) (b₀::suite) ts)
 (hdb:(x==("__debug__":Str))=false:=by decide)(hdc:(c==("__debug__":Str))=false:=by decide)(he:UM (a::as) X.env=(false,eval a X.env)::UM as X.env:=by rfl)(hpl:(U3 cp (UM as X.env)).any (·.1)=false:=by rfl):
 PS X (.Try [.Return (some (.Call (.Name x p) (a::as) [] cp)) ep] [.ExceptHandler (some (.Name c np)) none (b₀::suite) hp] [] [] tp) (Kv sp t C ts):=by
 intro Wt s σ H D I h;refine wpAny_Try_except ?_;generalize hEh:(λ(e:UE) (s₁:UI)=>UK (UL X.prog X.w) X.A (V6 e X.env) (λ_ s₂=>UK (UL X.prog X.w) X.A (Wk e none) (λ_ s₃=>UK (UL X.prog X.w) X.A (handleBy e X.env [.ExceptHandler (some (.Name c np)) none (b₀::suite) hp]) (SP X Wt D) X.xe s₃) X.xe s₂) X.xe s₁)=Eh;have I':ag (X.wish Eh) Wt σ H s:=I.wish Eh;have out:UK (UL X.prog X.w) X.A (eval (.Call (.Name x p) (a::as) [] cp) X.env) (λu s₁=>∃v H',ag X Wt σ H' s₁/\aD v u/\D.rt v H') Eh s:=by
  refine Vp (oj I hg hm ?_ hdb);refine Rf (h₀:=X.base) I.ok.mod.kin hk (ax (ha Eh cp Wt s σ H _ I' h) λus s1 ⟨vs,H1,I1w,r,q1⟩=>⟨I1w.kIn,?_⟩) he hpl;have I1:ag X Wt σ H1 s1:=I1w.unwish;have hl:(us++[]).length=ps.length:=by rw [NZ,<-r.length];exact F.len _ _ _ _ q1
  have bd:=hb s1 us I1.kIn hl;rw [NZ] at bd;refine VV (Vo (F.run X.A X.stack s1 H1 ⟨us,[]⟩ us vs _ _ hr I1.env0 bd r q1) λr2 s2 hq=>?_);cases r2 with
  | ok fl=>
   cases fl with
   | ret u=>
    obtain⟨v,H2,I2,rv,q2⟩:=I1.after hq;exact⟨v,H2,I2,rv,q2⟩
   | next=>exact Pw hq
   | brk=>exact Pw hq
   | cont=>exact Pw hq
  | error ev=>
   obtain⟨e,cls,a0,B,H2,rfl,ho,hgn,fl,hB2,un,kb,th,ox,hox,rfl,hsu⟩:=hq;rw [<-hEh];have fl':QJ B (X.env::X.outer) e (.ref C) a0 s2.heap:=by rw [<-hst];exact fl
   refine U2 (Dm (Q:=λ_ s'=>∃h4,s'={s2 with heap:=h4}/\Heap.HeldW B (X.env::X.outer) e (.ref C) a0 X.env.locals h4/\s2.heap.UpToSlots h4) (wpAny_looks_onW (by rw [I.ok.frames,hst]) hfr fl' λh4 a b=>⟨h4,rfl,a,b⟩)) (λ_ s4 hs4=>?_) (λ_ _ z=>z.1);obtain⟨⟨h4,rfl,held4,sm4⟩,dk4⟩:=hs4;refine U2 (uj (Q:=λ_ s'=>∃h5,s'={s2 with heap:=h5}/\QJ B (X.env::X.outer) e (.ref C) a0 h5/\h4.UpToSlots h5) (wpAny_landsW held4 λh5 a b=>⟨h5,rfl,a,b⟩)) (λ_ s5 hs5=>?_) (λ_ _ z=>z.1);obtain⟨⟨h5,rfl,fl5,sm5⟩,dk5⟩:=hs5;have sm25:=sm4.trans sm5;have I5:ag X Wt σ H2 {s2 with heap:=h5}:=ag.call' (ch:=[]) (s':={s2 with heap:=h5}) I1 ho (tm (X:=X) un fl fl5.1 sm25 kb th) (hB2.kept fl5.1) hgn (λ_ z=>nomatch z);have I5e:=I5.inEx e;obtain⟨ob,hob,hobc⟩:=fl5.there;obtain⟨tl',nm',qn',N',bs',sn',sub',ab',col',dd',k0',k1',k2',k3',k5',hC',_,T'⟩:=pR I.ok.mod.kin q';obtain⟨tl,nm,qn,N,bs,sn,sub,ab,col,dd,k0,k1,k2,k3,k5,hC,_,T⟩:=pR I.ok.mod.kin q;refine wpAny_handleBy_cons (codeAny_handlers_test (oj I5e hgc hmc ?_ hdc)) (by intro z;cases z);have hbase':tl'.contains (.type "BaseException")=true:=by rw [T'.hasType hB]
   refine BO (I5.bk _ _ hC) (I5.bk _ _ hC') hob hobc hbase' (BP I.ok.mod.kin hin hC) ?_;refine codeAny_handlers_suite ?_;refine U2 (uj (Q:=λ_ s'=>∃h6,s'={s2 with heap:=h6}/\QJ B (X.env::X.outer) e (.ref C) a0 h6/\h5.UpToSlots h6) (lands_againW fl5 λh6 a b=>⟨h6,rfl,a,b⟩)) (λ_ s6 hs6=>?_) (λ_ _ z=>z.1);obtain⟨⟨h6,rfl,fl6,sm6⟩,dk6⟩:=hs6;have dk26:DK s2.heap h6:=(dk4.trans dk5).trans dk6;have eB:B.get? e=none:=fl.2.1;have nH2:H2 e=none:=by
    cases z:H2 e with
    | none=>rfl
    | some u=>
     obtain⟨ob',z'⟩:=(hB2 e u z).there;rw [eB] at z';cases z'
   have u6:=tm (X:=X) un fl fl6.1 (sm25.trans sm6) kb th;have n1:∀o,s1.heap.get? e=some o->False:=λo z=>by
    by_cases hbf:e∈cf X.stack
    ·obtain⟨_,o',ho',hd'⟩:=fl.2.2.1.mem hbf;obtain⟨oe,ws,hoe,_,hoed,_⟩:=fl.first;rw [hoe] at ho';cases ho';exact hd' _ hoed
    ·obtain⟨o',z'⟩:=th e o z hbf;rw [eB] at z';cases z'
   have ne2:∀b u,H2 b=some u->b≠e:=λb u z w'=>by rw [w',nH2] at z;cases z
   have un6:Un (cf X.stack) [] H1 (ak H2 e (.ext (kE e (.ref C) ox.dict))) s1.heap h6:=
    ⟨u6.keep,u6.slot,λb o z nn hx=>by rw [av (λw'=>n1 o (by rw [<-w'];exact z))];exact u6.free b o z nn hx,u6.there,
     λb xs z=>by rw [av (ne2 b _ (u6.tups b xs z))];exact u6.tups b xs z,λb o xs z=>by rw [av (ne2 b _ (u6.frzs b o xs z))];exact u6.frzs b o xs z,
     λb pss z=>by obtain⟨mo,z'⟩:=u6.tbls b pss z;exact⟨mo,by rw [av (ne2 b _ z')];exact z'⟩⟩
   have ok6:bI X.prog X.w (ak H2 e (.ext (kE e (.ref C) ox.dict))) h6:=λb u z=>by
    by_cases hbe:b=e
    ·subst hbe;rw [bh] at z;cases z;obtain⟨o6,vs6,ho6,hc6,hf6,_⟩:=fl6.first;obtain⟨o7,ho7,hd7⟩:=dk26 _ ox hox;rw [ho6] at ho7;cases ho7;exact⟨⟨o6,ho6,hc6,hd7,by unfold notCls;rw [hf6]⟩,⟨o6,ho6⟩,λh1 h2 uu39 kk=>by obtain⟨o,z1,z2⟩:=uu39;exact⟨o,kk o z1,z2⟩⟩
    ·rw [av hbe] at z;exact(hB2 b u z).stay (λcc v _ z'=>fl6.1 cc v z') (λcc z'=>by rw [av (ne2 cc _ z')];exact z') (λcc xs z'=>by rw [av (ne2 cc _ z')];exact z') λcc xs z'=>by rw [av (ne2 cc _ z')];exact z'
   have I6:ag X Wt σ (ak H2 e (.ext (kE e (.ref C) ox.dict))) {s2 with heap:=h6}:=ag.call' (ch:=[]) (s':={s2 with heap:=h6}) I1 ho un6 ok6 hgn (λ_ z=>nomatch z);refine U2 (hs e Wt _ _ _ _ (I6.inEx e) (hsu e nH2)) (λf s8 q8=>?_) λ_ _ z=>z.elim;cases f with
   | next=>obtain⟨σ8,H8,J8,q8⟩:=q8;exact⟨σ8,H8,J8.outEx I.ok.hd,q8⟩
   | ret v=>obtain⟨v8,σ8,H8,J8,r8,q8⟩:=q8;exact⟨v8,σ8,H8,J8.outEx I.ok.hd,r8,q8⟩
   | brk=>obtain⟨_,_,_,z⟩:=q8;exact z.elim
   | cont=>obtain⟨_,_,_,z⟩:=q8;exact z.elim
 refine V1 (wpAny_Return_some (ax out λu s1 uu40=>by obtain⟨v,H',I1,r1,q1⟩:=uu40;exact⟨v,σ,H',I1,r1,q1⟩))
end
section
variable {X:Cx} {H0:Hp} {O0:Ex}
def jP(to t:DT):DT:=λδ Q=>to δ λx=>∃z:Str,x= .str z/\t δ λy=>∃c:Str,y= .str c/\z.length<=UN/\Q (.str (Txt.stripChars z c))
def jQ(i:Nat)(tk tv:DT):DS:=λE δ=>tv δ λd=>∃ds,δ[i]?=some (some (.o ds))/\tk δ λy=>∃k:Int,y= .int k/\∃j,nP ds.length k=some j/\E.nx (δ.set i (some (.o (ds.set j d))))
end
end L2
namespace PySem.SeqAt
open AutoSeq1 (wpAny_loadPart')
open MeetsSeq
end PySem.SeqAt
namespace L2
open PySem PySem.Spec PyProof.Rows PySem.W
section
variable {X:Cx} {H0:Hp} {O0:Ex}
open PySem PySem.Spec PyProof.Rows PySem.W PySem.Calls
end
end L2
namespace PySem.SeqAt
open AutoSeq1 (wpAny_loadPart')
open MeetsSeq
end PySem.SeqAt
namespace L2
open PySem PySem.Spec PyProof.Rows PySem.W
section
variable {X:Cx} {H0:Hp} {O0:Ex}
def jR:UD->UD->(UD->Prop)->Prop:=λx y Q=>∃z,y= .str z/\kz x=true/\Q (.bool (!NR x (.str z)))
end
end L2
namespace K59
open PySem L2
def aY(i:Nat):UW:=PySem.Challenge.pw_goneday_k59_texts_of_no_deed.main.body.getD i (.Pass ⟨0,0,0,0⟩)
abbrev xO:UW:=L2.inClass (aY 11) 0
abbrev xP:UW:=aY 21
abbrev xQ:UW:=aY 22
abbrev xR:UW:=aY 23
abbrev xS:UW:=aY 24
abbrev xT:UW:=aY 25
abbrev xU:UW:=aY 26
abbrev xV:UW:=aY 27
abbrev xW:UW:=aY 28
abbrev uo:UW:=aY 29
abbrev xX:UW:=aY 30
abbrev xY:UW:=aY 31
abbrev uq:UW:=aY 32
abbrev xZ:UW:=aY 33
abbrev x4:UW:=aY 40
abbrev ur:UW:=aY 41
abbrev x5:UW:=aY 42
abbrev x6:UW:=aY 43
abbrev x8:UW:=aY 44
abbrev si:UW:=aY 45
abbrev x9:UW:=aY 46
abbrev y4:UW:=aY 47
abbrev y6:UW:=aY 48
abbrev y8:UW:=aY 51
abbrev y9:UW:=aY 52
abbrev z9:UW:=aY 53
abbrev Aa:UW:=aY 54
abbrev Ab:UW:=aY 55
abbrev Ac:UW:=aY 56
abbrev Ad:UW:=aY 57
abbrev Ae:UW:=aY 58
abbrev Af:UW:=aY 59
abbrev Ag:UW:=aY 61
abbrev Ah:UW:=aY 62
abbrev Ai:UW:=aY 63
abbrev sj:UW:=aY 64
abbrev Aj:UW:=aY 65
abbrev Ak:UW:=aY 66
abbrev Al:UW:=aY 67
abbrev Am:UW:=aY 68
abbrev uu:UW:=aY 69
abbrev uw:UW:=aY 70
abbrev An:UW:=aY 71
abbrev ux:UW:=aY 72
abbrev Ao:UW:=aY 73
abbrev uy:UW:=aY 74
abbrev uz:UW:=aY 75
abbrev pS:UW:=aY 76
abbrev Ap:UW:=aY 77
abbrev uA:UW:=aY 78
abbrev Aq:UW:=aY 79
abbrev Ar:UW:=aY 80
abbrev As:UW:=aY 81
abbrev Au:UW:=aY 82
set_option genInjectivity false in
set_option genSizeOfSpec false in
structure k9 where
 a_A:UH
 d_A:UP
 a_B:UH
 d_B:UP
 a_C:UH
 d_C:UP
 a_D:UH
 d_D:UP
 a_E:UH
 d_E:UP
 a_F:UH
 d_F:UP
 a_G:UH
 d_G:UP
 a_H:UH
 d_H:UP
 a_I:UH
 d_I:UP
 a_J:UH
 d_J:UP
 a_K:UH
 d_K:UP
 a_L:UH
 d_L:UP
 a_M:UH
 d_M:UP
 a_N:UH
 d_N:UP
 a_O:UH
 d_O:UP
 a_P:UH
 d_P:UP
 a_Q:UH
 d_Q:UP
 a_R:UH
 d_R:UP
 a_S:UH
 d_S:UP
 a_T:UH
 d_T:UP
 a_U:UH
 d_U:UP
 a_V:UH
 d_V:UP
 a_W:UH
 d_W:UP
 a_X:UH
 d_X:UP
 a_Y:UH
 d_Y:UP
 a_Z:UH
 d_Z:UP
 a_a:UH
 d_a:UP
 a_b:UH
 d_b:UP
 a_c:UH
 d_c:UP
 a_d:UH
 d_d:UP
 a_e:UH
 d_e:UP
 a_f:UH
 d_f:UP
 a_g:UH
 d_g:UP
 a_h:UH
 d_h:UP
 a_i:UH
 d_i:UP
 a_j:UH
 d_j:UP
 a_k:UH
 d_k:UP
 a_l:UH
 d_l:UP
 a_m:UH
 d_m:UP
 a_n:UH
 d_n:UP
 a_o:UH
 d_o:UP
 a_p:UH
 d_p:UP
 a_q:UH
 d_q:UP
 a_r:UH
 d_r:UP
 a_s:UH
 d_s:UP
 a_t:UH
 d_t:UP
 a_u:UH
 d_u:UP
 a_v:UH
 d_v:UP
 a_w:UH
 d_w:UP
 a_x:UH
 d_x:UP
 a_y:UH
 d_y:UP
 a_z:UH
 d_z:UP
 a_AA:UH
 d_AA:UP
 a_AB:UH
 d_AB:UP
 u_ArchiveError:UH
 u_LAST_WRITTEN:UE
 u_MONTH_DAYS:UE
 u_FIRST_YEAR:UE
 u_ROUND_DAYS:UE
 u_ROUND_YEARS:UE
 u_LAST_YEAR:UE
 u_FIGURES:UE
 u_NoText:UH
 u_LONGEST_NAME:UE
 u_LETTERS:UE
 u_MOST_MANY:UE
 u_UNITS:UE
 u_MOST_MAKERS:UE
 u_MANY_FIGURES:UE
 u_GoneMaker:UH
 u_Held:UH
 u_MustStay:UH
 u_NoCall:UH
 u_NoDay:UH
 u_NoDeed:UH
 u_NoLeave:UH
 u_NoNumber:UH
 u_NoPaper:UH
 u_Twice:UH
structure Txt (K:NG) (mg:Str->Option UE) (t:k9):Prop where
 F_A:Mn K "__init__" "NoText.__init__" xO t.a_A t.d_A ["self","row"]
 F_B:Fn K mg "is_whole" xP t.a_B t.d_B ["thing"]
 F_C:Fn K mg "is_day" xQ t.a_C t.d_C ["thing"]
 F_D:Fn K mg "is_leap" xR t.a_D t.d_D ["year"]
 F_E:Fn K mg "month_length" xS t.a_E t.d_E ["year","month"]
 F_F:Fn K mg "leaps_before" xT t.a_F t.d_F ["year"]
 F_G:Fn K mg "year_start" xU t.a_G t.d_G ["year"]
 F_H:Fn K mg "year_of" xV t.a_H t.d_H ["day"]
 F_I:Fn K mg "parts_of" xW t.a_I t.d_I ["day"]
 F_J:Fn K mg "number_of" uo t.a_J t.d_J ["year","month","day"]
 F_K:Fn K mg "is_date" xX t.a_K t.d_K ["year","month","day"]
 F_L:Fn K mg "show_day" xY t.a_L t.d_L ["day"]
 F_M:Fn K mg "is_figures" uq t.a_M t.d_M ["text","length"]
 F_N:Fn K mg "read_day" xZ t.a_N t.d_N ["text"]
 F_O:Fn K mg "is_tuple_of" x4 t.a_O t.d_O ["thing","length"]
 F_P:Fn K mg "is_name" ur t.a_P t.d_P ["thing"]
 F_Q:Fn K mg "is_since" x5 t.a_Q t.d_Q ["thing"]
 F_R:Fn K mg "is_span" x6 t.a_R t.d_R ["many","unit"]
 F_S:Fn K mg "is_rule" x8 t.a_S t.d_S ["thing"]
 F_T:Fn K mg "is_makers" si t.a_T t.d_T ["thing"]
 F_U:Fn K mg "is_target" x9 t.a_U t.d_U ["thing"]
 F_V:Fn K mg "are_parts" y4 t.a_V t.d_V ["word","parts"]
 F_W:Fn K mg "is_deed" y6 t.a_W t.d_W ["thing"]
 F_X:Fn K mg "rule_words" y8 t.a_X t.d_X ["parts"]
 F_Y:Fn K mg "part_words" y9 t.a_Y t.d_Y ["word","parts"]
 F_Z:Fn K mg "show_deed" z9 t.a_Z t.d_Z ["deed"]
 F_a:Fn K mg "number_in" Aa t.a_a t.d_a ["word","figures"]
 F_b:Fn K mg "day_in" Ab t.a_b t.d_b ["word"]
 F_c:Fn K mg "rule_in" Ac t.a_c t.d_c ["words"]
 F_d:Fn K mg "parts_in" Ad t.a_d t.d_d ["word","words"]
 F_e:Fn K mg "deed_in" Ae t.a_e t.d_e ["row"]
 F_f:Fn K mg "read_deed" Af t.a_f t.d_f ["text"]
 F_g:Fn K mg "_law_mixed" Ag t.a_g t.d_g ["_law_cell"]
 F_h:Fn K mg "_law_pack" Ah t.a_h t.d_h ["_law_script","_law_k"]
 F_i:Fn K mg "_law_take" Ai t.a_i t.d_i ["_law_pack_here","_law_size"]
 F_j:Fn K mg "_law_names" sj t.a_j t.d_j ["_law_pack_here","_law_many"]
 F_k:Fn K mg "_law_rule" Aj t.a_k t.d_k ["_law_pack_here","_law_names_here"]
 F_l:Fn K mg "_law_length" Ak t.a_l t.d_l ["_law_year","_law_month"]
 F_m:Fn K mg "_law_ahead" Al t.a_m t.d_m ["_law_year"]
 F_n:Fn K mg "_law_day_text" Am t.a_n t.d_n ["_law_day"]
 F_o:Fn K mg "_law_any_day" uu t.a_o t.d_o ["_law_pack_here"]
 F_p:Fn K mg "_law_drawn" uw t.a_p t.d_p ["_law_pack_here","_law_names_here"]
 F_q:Fn K mg "_law_written" An t.a_q t.d_q ["_law_deed"]
 F_r:Fn K mg "_law_same" ux t.a_r t.d_r ["_law_found","_law_due"]
 F_s:Fn K mg "_law_only" Ao t.a_s t.d_s ["_law_e"]
 F_t:Fn K mg "_law_figures" uy t.a_t t.d_t ["_law_word","_law_most"]
 F_u:Fn K mg "_law_name" uz t.a_u t.d_u ["_law_word"]
 F_v:Fn K mg "_law_day_in" pS t.a_v t.d_v ["_law_word"]
 F_w:Fn K mg "_law_rule_in" Ap t.a_w t.d_w ["_law_words"]
 F_x:Fn K mg "_law_read" uA t.a_x t.d_x ["_law_text"]
 F_y:Fn K mg "_law_odd" Aq t.a_y t.d_y ["_law_pack_here","_law_names_here"]
 F_z:Fn K mg "_law_spoilt" Ar t.a_z t.d_z ["_law_pack_here","_law_text","_law_names_here"]
 F_AA:Fn K mg "_law_right" As t.a_AA t.d_AA ["_law_thing","_law_due"]
 F_AB:Fn K mg "law" Au t.a_AB t.d_AB ["_law_script"]
 bt_AB:∀(s:UI)(u:UE),BindsTo s t.d_AB ⟨[u],[]⟩ [("_law_script",u)]
 c_ArchiveError:mg "ArchiveError"=some (.ref t.u_ArchiveError)
 c_LAST_WRITTEN:mg "LAST_WRITTEN"=some t.u_LAST_WRITTEN
 r_LAST_WRITTEN:aD (.int 99999) t.u_LAST_WRITTEN
 c_MONTH_DAYS:mg "MONTH_DAYS"=some t.u_MONTH_DAYS
 e_MONTH_DAYS:∃a,t.u_MONTH_DAYS= .ref a/\∀H,aX K H a [V.int 31,V.int 28,V.int 31,V.int 30,V.int 31,V.int 30,V.int 31,V.int 31,V.int 30,V.int 31,V.int 30,V.int 31]
 c_FIRST_YEAR:mg "FIRST_YEAR"=some t.u_FIRST_YEAR
 r_FIRST_YEAR:aD (.int 2000) t.u_FIRST_YEAR
 c_ROUND_DAYS:mg "ROUND_DAYS"=some t.u_ROUND_DAYS
 r_ROUND_DAYS:aD (.int 146097) t.u_ROUND_DAYS
 c_ROUND_YEARS:mg "ROUND_YEARS"=some t.u_ROUND_YEARS
 r_ROUND_YEARS:aD (.int 400) t.u_ROUND_YEARS
 c_LAST_YEAR:mg "LAST_YEAR"=some t.u_LAST_YEAR
 r_LAST_YEAR:aD (.int 9999) t.u_LAST_YEAR
 c_FIGURES:mg "FIGURES"=some t.u_FIGURES
 r_FIGURES:aD (.str "0123456789") t.u_FIGURES
 c_NoText:mg "NoText"=some (.ref t.u_NoText)
 c_LONGEST_NAME:mg "LONGEST_NAME"=some t.u_LONGEST_NAME
 r_LONGEST_NAME:aD (.int 8) t.u_LONGEST_NAME
 c_LETTERS:mg "LETTERS"=some t.u_LETTERS
 r_LETTERS:aD (.str "abcdefghijklmnopqrstuvwxyz") t.u_LETTERS
 c_MOST_MANY:mg "MOST_MANY"=some t.u_MOST_MANY
 r_MOST_MANY:aD (.int 999) t.u_MOST_MANY
 c_UNITS:mg "UNITS"=some t.u_UNITS
 e_UNITS:∃a,t.u_UNITS= .ref a/\∀H,aX K H a [V.str "days",V.str "months",V.str "years"]
 c_MOST_MAKERS:mg "MOST_MAKERS"=some t.u_MOST_MAKERS
 r_MOST_MAKERS:aD (.int 4) t.u_MOST_MAKERS
 c_MANY_FIGURES:mg "MANY_FIGURES"=some t.u_MANY_FIGURES
 r_MANY_FIGURES:aD (.int 3) t.u_MANY_FIGURES
 c_GoneMaker:mg "GoneMaker"=some (.ref t.u_GoneMaker)
 c_Held:mg "Held"=some (.ref t.u_Held)
 c_MustStay:mg "MustStay"=some (.ref t.u_MustStay)
 c_NoCall:mg "NoCall"=some (.ref t.u_NoCall)
 c_NoDay:mg "NoDay"=some (.ref t.u_NoDay)
 c_NoDeed:mg "NoDeed"=some (.ref t.u_NoDeed)
 c_NoLeave:mg "NoLeave"=some (.ref t.u_NoLeave)
 c_NoNumber:mg "NoNumber"=some (.ref t.u_NoNumber)
 c_NoPaper:mg "NoPaper"=some (.ref t.u_NoPaper)
 c_Twice:mg "Twice"=some (.ref t.u_Twice)
 xm_NoText:L2.MkX K t.u_NoText t.a_A [.type "ValueError",.type "Exception",.type "BaseException",.type "object"] "ValueError.__new__"
 xsa:Pl K (.ref t.u_NoText) "__setattr__"=some (some (.builtin "object.__setattr__"))
 xrow:Pl K (.ref t.u_NoText) "row"=some none
 xsp:QX K (.ref t.u_ArchiveError) "__getattribute__"=some (some (.builtin "type.__getattribute__"))
 xrd:TZ K t.u_ArchiveError (.type "type")=true
 xfc:T1 K (.ref t.u_ArchiveError) (.type "type") "__init__"=some (.val (.builtin "ValueError.__init__"))
 xhd:R4 K t.u_NoText=true
 q_ArchiveError:RE K t.u_ArchiveError [.type "ValueError",.type "Exception",.type "BaseException",.type "object"] "ValueError.__new__"=true
 z1:Pl K (.ref t.u_NoText) "__getattribute__"=some (some (.builtin "BaseException.__getattribute__"))
 z2:Pl K (.ref t.u_NoText) "__getattr__"=some none
 z3:Pl K (.ref t.u_NoText) "__class__"=some (some (.builtin "object.__class__"))
 z4:QX K (.builtin "object.__class__") "__get__"=some (some (.builtin "getset_descriptor.__get__"))
 z5:Su K (.builtin "object.__class__")=some true
 z6:P1 K t.u_NoText (.type "object")=some true
 z7:P1 K t.u_NoText (.type "BaseException")=some true
 z8:T2 K t.u_NoText=true
 i_NoText_ArchiveError:P1 K t.u_NoText (.ref t.u_ArchiveError)=some true
 kv:QG K (.ref t.u_NoText) (.type "ValueError")=some true
 ka:Q1 K (.ref t.u_NoText) [.ref t.u_GoneMaker,.ref t.u_Held,.ref t.u_MustStay,.ref t.u_NoCall,.ref t.u_NoDay]=some false
 kb:Q1 K (.ref t.u_NoText) [.ref t.u_NoDeed,.ref t.u_NoLeave,.ref t.u_NoNumber,.ref t.u_NoPaper,.ref t.u_Twice]=some false
 i_NoText_NoText:P1 K t.u_NoText (.ref t.u_NoText)=some true
 n_ValueError:mg "ValueError"=none
 n_all:mg "all"=none
 n_bool:mg "bool"=none
 n_divmod:mg "divmod"=none
 n_int:mg "int"=none
 n_isinstance:mg "isinstance"=none
 n_len:mg "len"=none
 n_list:mg "list"=none
 n_max:mg "max"=none
 n_min:mg "min"=none
 n_range:mg "range"=none
 n_set:mg "set"=none
 n_sorted:mg "sorted"=none
 n_str:mg "str"=none
 n_sum:mg "sum"=none
 n_tuple:mg "tuple"=none
 n_zip:mg "zip"=none
theorem Kx:aQ ["self","row"] ["self","row"] (ay xO):= .of
theorem Ky:aQ ["thing"] ["thing"] (ay xP):= .of
theorem Kz:aQ ["thing"] ["thing"] (ay xQ):= .of
theorem KA:aQ ["year"] ["year"] (ay xR):= .of
theorem KC:aQ ["year","month"] ["year","month"] (ay xS):= .of
theorem Dy:aQ ["year","past"] ["year"] (ay xT):= .of
theorem KD:aQ ["year"] ["year"] (ay xU):= .of
theorem Dz:aQ ["day","year"] ["day"] (ay xV):= .of
theorem qE:aQ ["day","year","left","month"] ["day"] (ay xW):= .of
theorem DC:aQ ["year","month","day","before"] ["year","month","day"] (ay uo):= .of
theorem KG:aQ ["year","month","day"] ["year","month","day"] (ay xX):= .of
theorem sk:aQ ["day","parts","year","month","number"] ["day"] (ay xY):= .of
theorem KH:aQ ["text","length"] ["text","length"] (ay uq):= .of
theorem so:aQ ["text","words","year","month","number"] ["text"] (ay xZ):= .of
theorem KI:aQ ["thing","length"] ["thing","length"] (ay x4):= .of
theorem KJ:aQ ["thing"] ["thing"] (ay ur):= .of
theorem KL:aQ ["thing"] ["thing"] (ay x5):= .of
theorem KN:aQ ["many","unit"] ["many","unit"] (ay x6):= .of
theorem DD:aQ ["thing","named"] ["thing"] (ay x8):= .of
theorem KO:aQ ["thing"] ["thing"] (ay si):= .of
theorem KP:aQ ["thing"] ["thing"] (ay x9):= .of
theorem KQ:aQ ["word","parts"] ["word","parts"] (ay y4):= .of
theorem KR:aQ ["thing"] ["thing"] (ay y6):= .of
theorem KS:aQ ["parts"] ["parts"] (ay y8):= .of
theorem KU:aQ ["word","parts"] ["word","parts"] (ay y9):= .of
theorem KW:aQ ["deed"] ["deed"] (ay z9):= .of
theorem KY:aQ ["word","figures"] ["word","figures"] (ay Aa):= .of
theorem KZ:aQ ["word"] ["word"] (ay Ab):= .of
theorem K0:aQ ["words"] ["words"] (ay Ac):= .of
theorem K1:aQ ["word","words"] ["word","words"] (ay Ad):= .of
theorem Av:aQ ["row","words","deed"] ["row"] (ay Ae):= .of
theorem DH:aQ ["text","deed"] ["text"] (ay Af):= .of
theorem K2:aQ ["_law_cell"] ["_law_cell"] (ay Ag):= .of
theorem K3:aQ ["_law_script","_law_k"] ["_law_script","_law_k"] (ay Ah):= .of
theorem DI:aQ ["_law_pack_here","_law_size","_law_digit"] ["_law_pack_here","_law_size"] (ay Ai):= .of
theorem nZ:aQ ["_law_pack_here","_law_many","_law_letters","_law_words","_law_turn","_law_size","_law_at","_law_stem","_law_first"] ["_law_pack_here","_law_many"] (ay sj):= .of
theorem n5:aQ ["_law_pack_here","_law_names_here","_law_word","_law_kind","_law_since","_law_way","_law_many"] ["_law_pack_here","_law_names_here"] (ay Aj):= .of
theorem K4:aQ ["_law_year","_law_month"] ["_law_year","_law_month"] (ay Ak):= .of
theorem DJ:aQ ["_law_year","_law_years"] ["_law_year"] (ay Al):= .of
theorem qF:aQ ["_law_day","_law_year","_law_month","_law_number"] ["_law_day"] (ay Am):= .of
theorem sr:aQ ["_law_pack_here","_law_way","_law_year","_law_month","_law_last"] ["_law_pack_here"] (ay uu):= .of
theorem qG:aQ ["_law_pack_here","_law_names_here","_law_word","_law_head","_law_other","_law_some","_law_target"] ["_law_pack_here","_law_names_here"] (ay uw):= .of
theorem qH:aQ ["_law_deed","_law_words"] ["_law_deed"] (ay An):= .of
theorem K5:aQ ["_law_found","_law_due"] ["_law_found","_law_due"] (ay ux):= .of
theorem K6:aQ ["_law_e"] ["_law_e"] (ay Ao):= .of
theorem K7:aQ ["_law_word","_law_most"] ["_law_word","_law_most"] (ay uy):= .of
theorem K8:aQ ["_law_word"] ["_law_word"] (ay uz):= .of
theorem qI:aQ ["_law_word","_law_parts","_law_year","_law_month","_law_number","_law_day"] ["_law_word"] (ay pS):= .of
theorem Aw:aQ ["_law_words","_law_since","_law_many"] ["_law_words"] (ay Ap):= .of
theorem uB:aQ ["_law_text","_law_words","_law_head","_law_more"] ["_law_text"] (ay uA):= .of
theorem pT:aQ ["_law_pack_here","_law_names_here","_law_some"] ["_law_pack_here","_law_names_here"] (ay Aq):= .of
theorem mP:aQ ["_law_pack_here","_law_text","_law_names_here","_law_signs","_law_way","_law_at","_law_sign","_law_words","_law_more","_law_some","_law_two"] ["_law_pack_here","_law_text","_law_names_here"] (ay Ar):= .of
theorem su:aQ ["_law_thing","_law_due","_law_caught","_law_found","_law_e"] ["_law_thing","_law_due"] (ay As):= .of
theorem ny:aQ ["_law_script","_law_thing","_law_k","_law_pack_here","_law_names_here","_law_text","_law_turn","_law_some","_law_j"] ["_law_script"] (ay Au):= .of
theorem DL{α:Type}{us:List α}(h:us.length=1):∃a,us=[a]:=List.length_eq_one_iff.mp h
theorem DM{α:Type}{us:List α}(h0:us.length=2):∃a b,us=[a,b]:=by
 cases us with
 | nil=>cases h0
 | cons a us=>
  obtain⟨b,z0⟩:=DL (us:=us) (Uj h0);exact⟨a,b,by rw [z0]⟩
theorem K9{α:Type}{us:List α}(h0:us.length=3):∃a b c,us=[a,b,c]:=by
 cases us with
 | nil=>cases h0
 | cons a us=>
  obtain⟨b,c,z0⟩:=DM (us:=us) (Uj h0);exact⟨a,b,c,by rw [z0]⟩
local macro_rules | `(tactic| walk_at "b")=>`(tactic| (intro _ _ _ _ _ _ us hl;first | (cases ls0 (us:=us) hl;rfl) | (obtain⟨a,e⟩:=DL (us:=us) hl;subst e;rfl) | (obtain⟨a,b,e⟩:=DM (us:=us) hl;subst e;rfl) | (obtain⟨a,b,c,e⟩:=K9 (us:=us) hl;subst e;rfl)))
theorem txt_mk{K:NG}{h:UR}{mg:Str->Option UE}(X:K.In h)(G:h.Ns UQ mg)
 {f0 f1 f2 f3 f4 f5 f6 f7 f8 f9 f10 f11 f12 f13 f14 f15 f16 f17 f18 f19 f20 f21 f22 f23 f24 f25 f26 f27 f28 f29 f30 f31 f32 f33 f34 f35 f36 f37 f38 f39 f40 f41 f42 f43 f44 f45 f46 f47 f48 f49 f50 f51 f52 f53:UH}{e0 e1 e2 e3 e4 e5 e6 e7 e8 e9 e10 e11 e12 e13 e14 e15 e16 e17 e18 e19 e20 e21 e22 e23 e24 e25 e26 e27 e28 e29 e30 e31 e32 e33 e34 e35 e36 e37 e38 e39 e40 e41 e42 e43 e44 e45 e46 e47 e48 e49 e50 e51 e52 e53:UP}
 {u_ArchiveError u_NoText u_GoneMaker u_Held u_MustStay u_NoCall u_NoDay u_NoDeed u_NoLeave u_NoNumber u_NoPaper u_Twice:UH}
 {u_LAST_WRITTEN u_FIRST_YEAR u_ROUND_DAYS u_ROUND_YEARS u_LAST_YEAR u_FIGURES u_LONGEST_NAME u_LETTERS u_MOST_MANY u_MOST_MAKERS u_MANY_FIGURES:UE}
 {A_MONTH_DAYS:UH}{dd_MONTH_DAYS:Option UH}{its_MONTH_DAYS:Array UE}{n_MONTH_DAYS:Nat}{sl_MONTH_DAYS:Array (Option UE)}
 {A_UNITS:UH}{dd_UNITS:Option UH}{its_UNITS:Array UE}{n_UNITS:Nat}{sl_UNITS:Array (Option UE)}
 (a0:DmT K u_NoText "__init__" "NoText.__init__" xO f0 e0)
 (a1:DfT K "is_whole" xP f1 e1)
 (a2:DfT K "is_day" xQ f2 e2)
 (a3:DfT K "is_leap" xR f3 e3)
 (a4:DfT K "month_length" xS f4 e4)
 (a5:DfT K "leaps_before" xT f5 e5)
 (a6:DfT K "year_start" xU f6 e6)
 (a7:DfT K "year_of" xV f7 e7)
 (a8:DfT K "parts_of" xW f8 e8)
 (a9:DfT K "number_of" uo f9 e9)
 (a10:DfT K "is_date" xX f10 e10)
 (a11:DfT K "show_day" xY f11 e11)
 (a12:DfT K "is_figures" uq f12 e12)
 (a13:DfT K "read_day" xZ f13 e13)
 (a14:DfT K "is_tuple_of" x4 f14 e14)
 (a15:DfT K "is_name" ur f15 e15)
 (a16:DfT K "is_since" x5 f16 e16)
 (a17:DfT K "is_span" x6 f17 e17)
 (a18:DfT K "is_rule" x8 f18 e18)
 (a19:DfT K "is_makers" si f19 e19)
 (a20:DfT K "is_target" x9 f20 e20)
 (a21:DfT K "are_parts" y4 f21 e21)
 (a22:DfT K "is_deed" y6 f22 e22)
 (a23:DfT K "rule_words" y8 f23 e23)
 (a24:DfT K "part_words" y9 f24 e24)
 (a25:DfT K "show_deed" z9 f25 e25)
 (a26:DfT K "number_in" Aa f26 e26)
 (a27:DfT K "day_in" Ab f27 e27)
 (a28:DfT K "rule_in" Ac f28 e28)
 (a29:DfT K "parts_in" Ad f29 e29)
 (a30:DfT K "deed_in" Ae f30 e30)
 (a31:DfT K "read_deed" Af f31 e31)
 (a32:DfT K "_law_mixed" Ag f32 e32)
 (a33:DfT K "_law_pack" Ah f33 e33)
 (a34:DfT K "_law_take" Ai f34 e34)
 (a35:DfT K "_law_names" sj f35 e35)
 (a36:DfT K "_law_rule" Aj f36 e36)
 (a37:DfT K "_law_length" Ak f37 e37)
 (a38:DfT K "_law_ahead" Al f38 e38)
 (a39:DfT K "_law_day_text" Am f39 e39)
 (a40:DfT K "_law_any_day" uu f40 e40)
 (a41:DfT K "_law_drawn" uw f41 e41)
 (a42:DfT K "_law_written" An f42 e42)
 (a43:DfT K "_law_same" ux f43 e43)
 (a44:DfT K "_law_only" Ao f44 e44)
 (a45:DfT K "_law_figures" uy f45 e45)
 (a46:DfT K "_law_name" uz f46 e46)
 (a47:DfT K "_law_day_in" pS f47 e47)
 (a48:DfT K "_law_rule_in" Ap f48 e48)
 (a49:DfT K "_law_read" uA f49 e49)
 (a50:DfT K "_law_odd" Aq f50 e50)
 (a51:DfT K "_law_spoilt" Ar f51 e51)
 (a52:DfT K "_law_right" As f52 e52)
 (a53:DfT K "law" Au f53 e53)
 (x_ArchiveError:Og K UQ "ArchiveError"=some (some (.ref u_ArchiveError)))
 (x_LAST_WRITTEN:Og K UQ "LAST_WRITTEN"=some (some u_LAST_WRITTEN))(r_LAST_WRITTEN:aD (.int 99999) u_LAST_WRITTEN)
 (x_MONTH_DAYS:Og K UQ "MONTH_DAYS"=some (some (.ref A_MONTH_DAYS)))(y_MONTH_DAYS:K.lookup A_MONTH_DAYS=some ⟨.type "tuple",dd_MONTH_DAYS,.seq its_MONTH_DAYS n_MONTH_DAYS,sl_MONTH_DAYS⟩)(z_MONTH_DAYS:aG [V.int 31,V.int 28,V.int 31,V.int 30,V.int 31,V.int 30,V.int 31,V.int 31,V.int 30,V.int 31,V.int 30,V.int 31] its_MONTH_DAYS.toList)(w_MONTH_DAYS:its_MONTH_DAYS.size<=UN)
 (x_FIRST_YEAR:Og K UQ "FIRST_YEAR"=some (some u_FIRST_YEAR))(r_FIRST_YEAR:aD (.int 2000) u_FIRST_YEAR)
 (x_ROUND_DAYS:Og K UQ "ROUND_DAYS"=some (some u_ROUND_DAYS))(r_ROUND_DAYS:aD (.int 146097) u_ROUND_DAYS)
 (x_ROUND_YEARS:Og K UQ "ROUND_YEARS"=some (some u_ROUND_YEARS))(r_ROUND_YEARS:aD (.int 400) u_ROUND_YEARS)
 (x_LAST_YEAR:Og K UQ "LAST_YEAR"=some (some u_LAST_YEAR))(r_LAST_YEAR:aD (.int 9999) u_LAST_YEAR)
 (x_FIGURES:Og K UQ "FIGURES"=some (some u_FIGURES))(r_FIGURES:aD (.str "0123456789") u_FIGURES)
 (x_NoText:Og K UQ "NoText"=some (some (.ref u_NoText)))
 (x_LONGEST_NAME:Og K UQ "LONGEST_NAME"=some (some u_LONGEST_NAME))(r_LONGEST_NAME:aD (.int 8) u_LONGEST_NAME)
 (x_LETTERS:Og K UQ "LETTERS"=some (some u_LETTERS))(r_LETTERS:aD (.str "abcdefghijklmnopqrstuvwxyz") u_LETTERS)
 (x_MOST_MANY:Og K UQ "MOST_MANY"=some (some u_MOST_MANY))(r_MOST_MANY:aD (.int 999) u_MOST_MANY)
 (x_UNITS:Og K UQ "UNITS"=some (some (.ref A_UNITS)))(y_UNITS:K.lookup A_UNITS=some ⟨.type "tuple",dd_UNITS,.seq its_UNITS n_UNITS,sl_UNITS⟩)(z_UNITS:aG [V.str "days",V.str "months",V.str "years"] its_UNITS.toList)(w_UNITS:its_UNITS.size<=UN)
 (x_MOST_MAKERS:Og K UQ "MOST_MAKERS"=some (some u_MOST_MAKERS))(r_MOST_MAKERS:aD (.int 4) u_MOST_MAKERS)
 (x_MANY_FIGURES:Og K UQ "MANY_FIGURES"=some (some u_MANY_FIGURES))(r_MANY_FIGURES:aD (.int 3) u_MANY_FIGURES)
 (x_GoneMaker:Og K UQ "GoneMaker"=some (some (.ref u_GoneMaker)))
 (x_Held:Og K UQ "Held"=some (some (.ref u_Held)))
 (x_MustStay:Og K UQ "MustStay"=some (some (.ref u_MustStay)))
 (x_NoCall:Og K UQ "NoCall"=some (some (.ref u_NoCall)))
 (x_NoDay:Og K UQ "NoDay"=some (some (.ref u_NoDay)))
 (x_NoDeed:Og K UQ "NoDeed"=some (some (.ref u_NoDeed)))
 (x_NoLeave:Og K UQ "NoLeave"=some (some (.ref u_NoLeave)))
 (x_NoNumber:Og K UQ "NoNumber"=some (some (.ref u_NoNumber)))
 (x_NoPaper:Og K UQ "NoPaper"=some (some (.ref u_NoPaper)))
 (x_Twice:Og K UQ "Twice"=some (some (.ref u_Twice)))
 (f_xm_NoText:L2.MkX K u_NoText f0 [.type "ValueError",.type "Exception",.type "BaseException",.type "object"] "ValueError.__new__")
 (f_xsa:Pl K (.ref u_NoText) "__setattr__"=some (some (.builtin "object.__setattr__")))
 (f_xrow:Pl K (.ref u_NoText) "row"=some none)
 (f_xsp:QX K (.ref u_ArchiveError) "__getattribute__"=some (some (.builtin "type.__getattribute__")))
 (f_xrd:TZ K u_ArchiveError (.type "type")=true)
 (f_xfc:T1 K (.ref u_ArchiveError) (.type "type") "__init__"=some (.val (.builtin "ValueError.__init__")))
 (f_xhd:R4 K u_NoText=true)
 (f_q_ArchiveError:RE K u_ArchiveError [.type "ValueError",.type "Exception",.type "BaseException",.type "object"] "ValueError.__new__"=true)
 (f_z1:Pl K (.ref u_NoText) "__getattribute__"=some (some (.builtin "BaseException.__getattribute__")))
 (f_z2:Pl K (.ref u_NoText) "__getattr__"=some none)
 (f_z3:Pl K (.ref u_NoText) "__class__"=some (some (.builtin "object.__class__")))
 (f_z4:QX K (.builtin "object.__class__") "__get__"=some (some (.builtin "getset_descriptor.__get__")))
 (f_z5:Su K (.builtin "object.__class__")=some true)
 (f_z6:P1 K u_NoText (.type "object")=some true)
 (f_z7:P1 K u_NoText (.type "BaseException")=some true)
 (f_z8:T2 K u_NoText=true)
 (f_i_NoText_ArchiveError:P1 K u_NoText (.ref u_ArchiveError)=some true)
 (f_kv:QG K (.ref u_NoText) (.type "ValueError")=some true)
 (f_ka:Q1 K (.ref u_NoText) [.ref u_GoneMaker,.ref u_Held,.ref u_MustStay,.ref u_NoCall,.ref u_NoDay]=some false)
 (f_kb:Q1 K (.ref u_NoText) [.ref u_NoDeed,.ref u_NoLeave,.ref u_NoNumber,.ref u_NoPaper,.ref u_Twice]=some false)
 (f_i_NoText_NoText:P1 K u_NoText (.ref u_NoText)=some true)
 (n_ValueError:Og K UQ "ValueError"=some none)
 (n_all:Og K UQ "all"=some none)
 (n_bool:Og K UQ "bool"=some none)
 (n_divmod:Og K UQ "divmod"=some none)
 (n_int:Og K UQ "int"=some none)
 (n_isinstance:Og K UQ "isinstance"=some none)
 (n_len:Og K UQ "len"=some none)
 (n_list:Og K UQ "list"=some none)
 (n_max:Og K UQ "max"=some none)
 (n_min:Og K UQ "min"=some none)
 (n_range:Og K UQ "range"=some none)
 (n_set:Og K UQ "set"=some none)
 (n_sorted:Og K UQ "sorted"=some none)
 (n_str:Og K UQ "str"=some none)
 (n_sum:Og K UQ "sum"=some none)
 (n_tuple:Og K UQ "tuple"=some none)
 (n_zip:Og K UQ "zip"=some none):∃t:k9,Txt K mg t:=by
 refine⟨⟨f0,e0,f1,e1,f2,e2,f3,e3,f4,e4,f5,e5,f6,e6,f7,e7,f8,e8,f9,e9,f10,e10,f11,e11,f12,e12,f13,e13,f14,e14,f15,e15,f16,e16,f17,e17,f18,e18,f19,e19,f20,e20,f21,e21,f22,e22,f23,e23,f24,e24,f25,e25,f26,e26,f27,e27,f28,e28,f29,e29,f30,e30,f31,e31,f32,e32,f33,e33,f34,e34,f35,e35,f36,e36,f37,e37,f38,e38,f39,e39,f40,e40,f41,e41,f42,e42,f43,e43,f44,e44,f45,e45,f46,e46,f47,e47,f48,e48,f49,e49,f50,e50,f51,e51,f52,e52,f53,e53,u_ArchiveError,u_LAST_WRITTEN,.ref A_MONTH_DAYS,u_FIRST_YEAR,u_ROUND_DAYS,u_ROUND_YEARS,u_LAST_YEAR,u_FIGURES,u_NoText,u_LONGEST_NAME,u_LETTERS,u_MOST_MANY,.ref A_UNITS,u_MOST_MAKERS,u_MANY_FIGURES,u_GoneMaker,u_Held,u_MustStay,u_NoCall,u_NoDay,u_NoDeed,u_NoLeave,u_NoNumber,u_NoPaper,u_Twice⟩,?_⟩;have bl:∀(s:UI)(u:UE),BindsTo s e53 ⟨[u],[]⟩ [("_law_script",u)]:=λs v=>by
  obtain⟨oc,od,kV,doc,pm,an,cdv,ct,osl,rfl,_⟩:=a53.F.ex;exact .of_eq rfl
 exact⟨a0.fn,a1.fn X G,a2.fn X G,a3.fn X G,a4.fn X G,a5.fn X G,a6.fn X G,a7.fn X G,a8.fn X G,a9.fn X G,a10.fn X G,a11.fn X G,a12.fn X G,a13.fn X G,a14.fn X G,a15.fn X G,a16.fn X G,a17.fn X G,a18.fn X G,a19.fn X G,a20.fn X G,a21.fn X G,a22.fn X G,a23.fn X G,a24.fn X G,a25.fn X G,a26.fn X G,a27.fn X G,a28.fn X G,a29.fn X G,a30.fn X G,a31.fn X G,a32.fn X G,a33.fn X G,a34.fn X G,a35.fn X G,a36.fn X G,a37.fn X G,a38.fn X G,a39.fn X G,a40.fn X G,a41.fn X G,a42.fn X G,a43.fn X G,a44.fn X G,a45.fn X G,a46.fn X G,a47.fn X G,a48.fn X G,a49.fn X G,a50.fn X G,a51.fn X G,a52.fn X G,a53.fn X G,bl,O3 X G x_ArchiveError,O3 X G x_LAST_WRITTEN,r_LAST_WRITTEN,O3 X G x_MONTH_DAYS,⟨A_MONTH_DAYS,rfl,λH=>.inr ⟨_,_,_,y_MONTH_DAYS,rfl,rfl,w_MONTH_DAYS,z_MONTH_DAYS⟩⟩,O3 X G x_FIRST_YEAR,r_FIRST_YEAR,O3 X G x_ROUND_DAYS,r_ROUND_DAYS,O3 X G x_ROUND_YEARS,r_ROUND_YEARS,O3 X G x_LAST_YEAR,r_LAST_YEAR,O3 X G x_FIGURES,r_FIGURES,O3 X G x_NoText,O3 X G x_LONGEST_NAME,r_LONGEST_NAME,O3 X G x_LETTERS,r_LETTERS,O3 X G x_MOST_MANY,r_MOST_MANY,O3 X G x_UNITS,⟨A_UNITS,rfl,λH=>.inr ⟨_,_,_,y_UNITS,rfl,rfl,w_UNITS,z_UNITS⟩⟩,O3 X G x_MOST_MAKERS,r_MOST_MAKERS,O3 X G x_MANY_FIGURES,r_MANY_FIGURES,O3 X G x_GoneMaker,O3 X G x_Held,O3 X G x_MustStay,O3 X G x_NoCall,O3 X G x_NoDay,O3 X G x_NoDeed,O3 X G x_NoLeave,O3 X G x_NoNumber,O3 X G x_NoPaper,O3 X G x_Twice,f_xm_NoText,f_xsa,f_xrow,f_xsp,f_xrd,f_xfc,f_xhd,f_q_ArchiveError,f_z1,f_z2,f_z3,f_z4,f_z5,f_z6,f_z7,f_z8,f_i_NoText_ArchiveError,f_kv,f_ka,f_kb,f_i_NoText_NoText,O9 X G n_ValueError,O9 X G n_all,O9 X G n_bool,O9 X G n_divmod,O9 X G n_int,O9 X G n_isinstance,O9 X G n_len,O9 X G n_list,O9 X G n_max,O9 X G n_min,O9 X G n_range,O9 X G n_set,O9 X G n_sorted,O9 X G n_str,O9 X G n_sum,O9 X G n_tuple,O9 X G n_zip⟩
local macro_rules | `(tactic| walk_at "o")=>`(tactic| first | exact Sf rfl | exact Rz rfl)
theorem UB{p:Prop}(h:p:=by walk_at "o"):p:=h
local macro_rules | `(tactic| walk_at "a") =>do let a <- rzT "bR NM Od NI N7 OD OE NO N4 N8"; let b <- rzT rzS; `(tactic| ((try $a:tactic); $b:tactic))
section
variable {P:US} {w:UU} {K:NG} {mg:Str->Option UE} {base:UR} {t:k9}
theorem DN(T:Txt K mg t):aC P w K mg base CX0 1 t.a_A t.d_A ["self","row"] (xN t.u_NoText "row"):=by
 refine T.F_A.F.okNX Kx rfl rfl (λcdv A outer s H E hr=>?_);refine kF (Kl (C:=t.u_NoText) T.c_ArchiveError rfl T.xsp T.xrd T.xfc rfl P2 T.xm_NoText.seen (aN (oV (i:=0) rfl ?a) (aN (Ks ?b (oV (i:=1) rfl ?c)) bF))) (kh (Km (C:=t.u_NoText) (oV (i:=0) rfl ?d) (oV (i:=1) rfl ?e) PySem.F.store_ValueError T.xm_NoText.seen T.xsa T.xrow))
 case b=>decide+kernel
 all_goals (first | exact Sf rfl | exact Rz rfl)
end
local macro_rules | `(tactic| walk_at "c") =>rzT "sH ve vh vg vf sJ nJ nI tC oX vw rI mq rU vy vz JQ JR JS JT JU sR tB uV uW uX va vb vc vd rA rz sV rB vE vF qZ p7 qY vm vn BE BF BG BH BI BJ BK BL bV ck bW L2.start NM Od NI N7 NO N4 N8 NZ OD OE OM ON OO NU NS N5 N6 N9 exists_eq_left' exists_eq_left exists_and_left exists_and_right V.int.injEq V.bl.injEq V.str.injEq V.ref.injEq NP and_true true_and OP exists_const decide_eq_true_eq OQ OR OH OI N0 decide_eq_false_iff_not and_assoc bC Oi Oc Oj L2.cxK L2.cmK or_true true_or"
open Day
theorem DP:cK (ay uo) ["year","month","day","before"] ["other","year"] 1 [0] ⟨OJ,[ (NL ".0",Ws),(NL "other",Ws),(NL "month_length",OS),(NL "year",Pr)],false,false,[]⟩:= .of
section
variable {P:US} {w:UU} {K:NG} {mg:Str->Option UE} {base:UR} {t:k9}
def DQ:Sp:=λvs H Q _=>∃(y:Int),vs=[.int y]/\Q (.bl (mO y)) H
theorem La(T:Txt K mg t):aC P w K mg base CX0 1 t.a_D t.d_D ["year"] DQ:=by
 refine T.F_D.F.ok KA (λvs H Q E h=>?_) (λcdv A outer s H vs Q E hr h=>?_)
 ·obtain⟨y,rfl,_⟩:=h;rfl
 ·obtain⟨y,rfl,k⟩:=h;refine⟨_,(kh (kG (Fx (oZ sO (bM nM (pv 0) cg) cg (aB _)) (qV (qW (oZ sO (bM nM (pv 0) cg) cg (aB _)) (qV (oZ FQ (bM nM (pv 0) cg) cg (aB _)))))))),?_⟩;walk_at "c";have e:mO y=(decide (y % 400=0) || (decide (y % 4=0) && !decide (y % 100=0))):=rfl;rw [e] at k;by_cases h1:y % 400=0
  ·simpa [h1] using k
  ·by_cases h2:y % 4=0
   ·simpa [h1,h2] using k
   ·simpa [h1,h2] using k
def DR:Sp:=λvs H Q _=>∃(y m:Int),vs=[.int y,.int m]/\1<=m/\m<=12/\Q (.int (aW y m)) H
theorem Ax(T:Txt K mg t):aC P w K mg base CX0 2 t.a_E t.d_E ["year","month"] DR:=by
 have G_D:=@La P w _ _ base _ T;refine T.F_E.F.ok KC (λvs H Q E h=>?_) (λcdv A outer s H vs Q E hr h=>?_)
 ·obtain⟨y,m,rfl,_⟩:=h;rfl
 ·obtain⟨y,m,rfl,h1,h2,k⟩:=h;obtain⟨a,ea,hM⟩:=T.e_MONTH_DAYS;have T_r:aD (.ref a) t.u_MONTH_DAYS:=ea;refine⟨_,(kF (oo (PW.pt (A2 (o9 sO (pv 1) cg (aB _)) (A0 (p6 (lu G_D (hr.mono Ce) rfl T.F_D (aN (pv 0) bF)))))) (kh (kG cg)) om)
   (kh (kG (sX aO (jX rfl T.c_MONTH_DAYS T_r) (bM kO (pv 1) cg) (λ_ _=>rfl))))),?_⟩
  walk_at "c";simp only [DQ];walk_at "c";have fin:∀{v:Int},v=aW y m->Q (.int v) H:=λe=>by rw [e];exact k
  have tail:aW y m=wQ.getD (m - 1).toNat 0->vL K (.ref a) (.int (m - 1)) H Q:=λe=>by
   refine⟨a,_,m - 1,.int (aW y m),rfl,rfl,hM H,?_,k⟩;rw [e];rcases wV h1 h2 with z | z | z | z | z | z | z | z | z | z | z | z <;> subst z <;> rfl
  by_cases hm:m=2
  ·rw [UA hm];by_cases hl:mO y=true
   ·rw [UA hl];exact fin (by unfold aW;rw [UA ⟨hm,hl⟩])
   ·rw [Uz hl];exact tail (by unfold aW;rw [Uz (λz=>hl z.2)])
  ·rw [Uz hm];exact tail (C7 hm)
def DU:Sp:=λvs H Q _=>∃(y:Int),vs=[.int y]/\Q (.int (lb y)) H
theorem Lb(T:Txt K mg t):aC P w K mg base CX0 1 t.a_F t.d_F ["year"] DU:=by
 refine T.F_F.F.ok Dy (λvs H Q E h=>?_) (λcdv A outer s H vs Q E hr h=>?_)
 ·obtain⟨y,rfl,_⟩:=h;rfl
 ·obtain⟨y,rfl,k⟩:=h;refine⟨_,(kF (l7 (i:=1) Dy.nd rfl UB (bM kO (pv 0) cg))
   (kh (kG (bM bN (bM kO (bM nL (pv 1) cg) (bM nL (pv 1) cg)) (bM nL (pv 1) cg))))),?_⟩
  walk_at "c";exact k
def uC:Sp:=λvs H Q _=>∃(y:Int),vs=[.int y]/\Q (.int (bb y)) H
theorem Ay(T:Txt K mg t):aC P w K mg base CX0 2 t.a_G t.d_G ["year"] uC:=by
 have G_F:=@Lb P w _ _ base _ T;refine T.F_G.F.ok KD (λvs H Q E h=>?_) (λcdv A outer s H vs Q E hr h=>?_)
 ·obtain⟨y,rfl,_⟩:=h;rfl
 ·obtain⟨y,rfl,k⟩:=h;refine⟨_,(kh (kG (bM kO (bM bN (bM qc cg (bM kO (pv 0) (jX rfl T.c_FIRST_YEAR T.r_FIRST_YEAR))) (lu G_F (hr.mono Ce) rfl T.F_F (aN (pv 0) bF))) (lu G_F (hr.mono Ce) rfl T.F_F (aN (jX rfl T.c_FIRST_YEAR T.r_FIRST_YEAR) bF))))),?_⟩;walk_at "c";simp only [DU];walk_at "c";exact k
def DV:Sp:=λvs H Q _=>∃(d:Int),vs=[.int d]/\Q (.int (pP d)) H
theorem Lc(T:Txt K mg t):aC P w K mg base CX0 3 t.a_H t.d_H ["day"] DV:=by
 have G_G:=@Ay P w _ _ base _ T;refine T.F_H.F.ok Dz (λvs H Q E h=>?_) (λcdv A outer s H vs Q E hr h=>?_)
 ·obtain⟨d,rfl,_⟩:=h;rfl
 ·obtain⟨d,rfl,k⟩:=h;refine⟨_,(kF (l7 (i:=1) Dz.nd rfl UB (bM bN (jX rfl T.c_FIRST_YEAR T.r_FIRST_YEAR) (bM nL (bM qc (pv 0) (jX rfl T.c_ROUND_YEARS T.r_ROUND_YEARS)) (jX rfl T.c_ROUND_DAYS T.r_ROUND_DAYS))))
   (kF (oo (o9 oY (lu G_G (hr.mono Ce) rfl T.F_G (aN (pv 1) bF)) (pv 0) (aB _)) (kh (kG (bM kO (pv 1) cg))) om)
   (kF (oo (o9 jY (lu G_G (hr.mono Ce) rfl T.F_G (aN (bM bN (pv 1) cg) bF)) (pv 0) (aB _)) (kh (kG (bM bN (pv 1) cg))) om)
   (kh (kG (pv 1)))))),?_⟩
  walk_at "c";simp only [uC];walk_at "c";unfold pP at k;split
  ·rename_i h;rw [UA h] at k;exact k
  ·rename_i h;rw [Uz h] at k;split
   ·rename_i h;rw [UA h] at k;exact k
   ·rename_i h;rw [Uz h] at k;exact k
def Ld:Sp:=λvs H Q _=>∃(d:Int),vs=[.int d]/\∀(p:UH)(H':Hp)(y m n:Int),k8 d y m n->ao H H'->H p=none->H' p=some (.tup [.int y,.int m,.int n])->Q (.ref p) H'
theorem Le(T:Txt K mg t):aC P w K mg base CX0 4 t.a_I t.d_I ["day"] Ld:=by
 have G_H:=@Lc P w _ _ base _ T;have G_G:=@Ay P w _ _ base _ T;have G_E:=@Ax P w _ _ base _ T;refine T.F_I.F.ok qE (λvs H Q E h=>?_) (λcdv A outer s H vs Q E hr h=>?_)
 ·obtain⟨d,rfl,_⟩:=h;rfl
 ·obtain⟨d,rfl,k⟩:=h;refine⟨_,(kF (l7 (i:=1) qE.nd rfl UB (lu G_H (hr.mono Ce) rfl T.F_H (aN (pv 0) bF)))
   (kF (l7 (i:=2) qE.nd rfl UB (bM kO (pv 0) (lu G_G (hr.mono Ce) rfl T.F_G (aN (pv 1) bF))))
   (kF (l7 (i:=3) qE.nd rfl UB cg)
   (kF (A6 Qz (o9 FT (pv 2) (lu G_E (hr.mono Ce) rfl T.F_E (aN (pv 1) (aN (pv 3) bF))) (aB _)) (kF (l7 (i:=2) qE.nd rfl UB (bM kO (pv 2) (lu G_E (hr.mono Ce) rfl T.F_E (aN (pv 1) (aN (pv 3) bF)))))
   (kh (l7 (i:=3) qE.nd rfl UB (bM bN (pv 3) cg)))))
   (kh (kG (sW (aN (pv 1) (aN (pv 3) (aN (bM bN (pv 2) cg) bF)))))))))),?_⟩
  walk_at "c";simp only [DV];walk_at "c";simp only [uC];walk_at "c";have yo:=Dc d;generalize pP d=y at*;refine⟨λm σ H'=>H'=H/\∃mo:Int,1<=mo/\mo<=12/\aH y mo<=d - bb y/\m=(12 - mo).toNat/\σ=[some (.int d),some (.int y),some (.int (d - bb y - aH y mo)),some (.int mo)],⟨11,rfl,1,Ce,Ce,?_,rfl,?_⟩,?_⟩
  ·rw [qy];omega
  ·rw [qy];simp
  ·rintro m σ H' ⟨rfl,mo,h1,h2,hb,rfl,rfl⟩;walk_at "c";simp only [DR];walk_at "c";refine⟨h1,h2,?_⟩;have ys:=tX y;have ba:=t4 (y:=y) h1 h2;split
   ·rename_i hge;have lt12:mo < 12:=by
     by_cases z:mo < 12
     ·exact z
     ·have e:mo=12:=Uy
      subst e;have:=(se y);have:=tZ y;omega
    refine⟨_,λ_ _ h=>h,h1,h2,(12 - (mo+1)).toNat,Uy,rfl,mo+1,Uy,Uy,?_,rfl,?_⟩
    ·rw [kU h1];omega
    ·rw [kU h1,show d - bb y - (aH y mo+aW y mo)=d - bb y - aH y mo - aW y mo by omega]
   ·rename_i hlt;refine⟨by show 3<=UN;decide,λp hp=>?_⟩;refine k p _ y mo (d - bb y - aH y mo+1) ⟨h1,h2,Uy,Uy,by unfold lE;omega⟩ (ao.new hp) hp bh
def Lf:Sp:=λvs H Q _=>∃(y m n:Int),vs=[.int y,.int m,.int n]/\1<=m/\m<=12/\∀H',ao H H'->Q (.int (lE y m n)) H'
theorem Lg(T:Txt K mg t):aC P w K mg base CX0 3 t.a_J t.d_J ["year","month","day"] Lf:=by
 have G_G:=@Ay P w _ _ base _ T;have G_E:=@Ax P w _ _ base _ T;refine T.F_J.F.ok DC (λvs H Q E h=>?_) (λcdv A outer s H vs Q E hr h=>?_)
 ·obtain⟨y,m,n,rfl,_⟩:=h;rfl
 ·obtain⟨y,m,n,rfl,h1,h2,k⟩:=h;refine⟨_,(kF (l7 (i:=3) DC.nd rfl UB (aT (vU rfl) rfl T.n_sum RI (aN (pj rfl DP (Bb rfl T.n_range (aN cg (aN (pv 1) bF))) (λ_ _ _ _=>(jU (i:=0) DP.nd rfl UB)) (λ_ _ _ _=>BD) (λ_ _ _ _=>(lu G_E (hr.mono Ce) rfl T.F_E (aN (pv 1) (aN (pv 0) bF))))) bF)))
   (kh (kG (bM kO (bM bN (bM bN (lu G_G (hr.mono Ce) rfl T.F_G (aN (pv 0) bF)) (pv 3)) (pv 2)) cg)))),?_⟩
  walk_at "c";refine⟨Uy,Uy,?_⟩;refine G0 (λi=>.int (aW y (1+(i:Int)))) Uy (λi H' R hi s1 hR=>?_) (λD H' hD s1 e1=>?_)
  ·walk_at "c";exact⟨_,_,rfl,Uy,Uy,hR H' (ao.refl _)⟩
  ·refine⟨D,rfl,(PD (m - 1).toNat).map λ(i:Nat)=>aW y (1+(i:Int)),bj.of (by rw [e1,Pt];rfl),?_⟩;simp only [uC];walk_at "c";exact k H' s1
def DX:List UD->(UD->Prop)->Prop:=λds Q=>∃y m:Int,ds=[.int y,.int m]/\1<=m/\m<=12/\Q (.int (aW y m))
theorem Lh(T:Txt K mg t):aC P w K mg base CX0 2 t.a_E t.d_E ["year","month"] (bf K DX):=
 (Ax T).imp λvs H Q E uu41=>by
  obtain⟨O,ds,Qd,tr,hs,⟨y,m,e,h1,h2,q⟩,k⟩:=uu41;subst e;cases hs with
  | cons a r=>cases r with
   | cons b r=>cases r;cases a;cases b;exact⟨y,m,rfl,h1,h2,k _ _ H q (ao.refl _) (.int _)⟩
def DY:List UD->(UD->Prop)->Prop:=λds Q=>∃d:Int,ds=[.int d]/\∀y m n,k8 d y m n->Q (.tuple [.int y,.int m,.int n])
theorem Li(T:Txt K mg t):aC P w K mg base CX0 4 t.a_I t.d_I ["day"] (bf K DY):=
 (Le T).imp λvs H Q E uu42=>by
  obtain⟨O,ds,Qd,tr,hs,⟨d,e,q⟩,k⟩:=uu42;subst e;cases hs with
  | cons a r=>cases r;cases a;exact⟨d,rfl,λp H' y m n D s1 hp e1=>k _ _ H' (q y m n D) s1 (.tup (.inl e1) (λz=>tr p z hp) (.cons (.int _) (.cons (.int _) (.cons (.int _) .nil))))⟩
def DZ:List UD->(UD->Prop)->Prop:=λds Q=>∃y m n:Int,ds=[.int y,.int m,.int n]/\1<=m/\m<=12/\Q (.int (lE y m n))
theorem Lj(T:Txt K mg t):aC P w K mg base CX0 3 t.a_J t.d_J ["year","month","day"] (bf K DZ):=
 (Lg T).imp λvs H Q E uu43=>by
  obtain⟨O,ds,Qd,tr,hs,⟨y,m,n,e,h1,h2,q⟩,k⟩:=uu43;subst e;cases hs with
  | cons a r=>cases r with
   | cons b r=>cases r with
    | cons c r=>cases r;cases a;cases b;cases c;exact⟨y,m,n,rfl,h1,h2,λH' s1=>k _ _ H' q s1 (.int _)⟩
end
theorem D1:cK (ay uq) ["text","length"] ["sign"] 1 [] ⟨OJ,[ (NL ".0",Ws),(NL "sign",Ws),(NL "FIGURES",OS)],false,false,[]⟩:= .of
section
variable {P:US} {w:UU} {K:NG} {mg:Str->Option UE} {base:UR} {t:k9}
theorem Lk{y m:Int}{Q:UD->Prop}:DX [.int y,.int m] Q↔1<=m/\m<=12/\Q (.int (aW y m)):=⟨λuu44=>by obtain⟨_,_,e,h⟩:=uu44;cases e;exact h,λh=>⟨_,_,rfl,h⟩⟩
theorem Ll{d:Int}{Q:UD->Prop}:DY [.int d] Q↔∀y m n,k8 d y m n->Q (.tuple [.int y,.int m,.int n]):=⟨λuu45=>by obtain⟨_,e,h⟩:=uu45;cases e;exact h,λh=>⟨_,rfl,h⟩⟩
theorem Lm{y m n:Int}{Q:UD->Prop}:DZ [.int y,.int m,.int n] Q↔1<=m/\m<=12/\Q (.int (lE y m n)):=⟨λuu46=>by obtain⟨_,_,_,e,h⟩:=uu46;cases e;exact h,λh=>⟨_,_,_,rfl,h⟩⟩
def D3:List UD->(UD->Prop)->Prop:=λds Q=>∃d,ds=[d]/\bo d=true/\Q (.bool (qr d))
theorem Az(T:Txt K mg t):aC P w K mg base CX0 1 t.a_B t.d_B ["thing"] (bf K D3):=by
 refine T.F_B.F.okD Ky (λds Q h=>?_) (λ_ _ _ _ H O ds Q E hr h=>?_)
 ·obtain⟨d,rfl,_⟩:=h;rfl
 ·obtain⟨d,rfl,hd,q⟩:=h;refine⟨_,(ar (aA (ky (mi (K':=K) (T:="int") rfl rfl T.n_isinstance kZ (df (dv 0)) (lI (v:= .ty "int") rfl T.n_int mI rfl)) (lj (Hr (mi (K':=K) (T:="bool") rfl rfl T.n_isinstance kZ (df (dv 0)) (lI (v:= .ty "bool") rfl T.n_bool rF rfl))))))),?_⟩;walk_at "a";simp only [Ip,wA];walk_at "a";refine⟨qp hd,?_⟩;cases d <;> simp [Cp,rS,qr] at q⊢<;> exact q
theorem Ln{i:Int}{Q:UD->Prop}:D3 [.int i] Q↔Q (.bool true):=⟨λuu47=>by obtain⟨_,e,_,h⟩:=uu47;cases e;exact h,λh=>⟨_,rfl,rfl,h⟩⟩
def D4:List UD->(UD->Prop)->Prop:=λds Q=>∃d,ds=[d]/\bo d=true/\Q (.bool (mz d))
theorem D5(T:Txt K mg t):aC P w K mg base CX0 2 t.a_C t.d_C ["thing"] (bf K D4):=by
 have G_B:=@Az P w _ _ base _ T;refine T.F_C.F.okD Kz (λds Q h=>?_) (λ_ _ _ _ H O ds Q E hr h=>?_)
 ·obtain⟨d,rfl,_⟩:=h;rfl
 ·obtain⟨d,rfl,hd,q⟩:=h;refine⟨_,(ar (aA (ky (au G_B hr T.F_B (aa (dv 0) ah)) (lj (tF jY jY bQ bQ (df ae) (df (dv 0)) (df (dc (jX rfl T.c_LAST_WRITTEN T.r_LAST_WRITTEN) (λ_ _=>.int _)))))))),?_⟩;walk_at "a";refine⟨d,rfl,hd,?_⟩;cases d with
  | int i=>
   walk_at "a";simp only [qr,mz] at q⊢;by_cases h0:0<=i
   ·rw [UA h0];simpa [h0] using q
   ·rw [Uz h0];simpa [h0] using q
  | _=>exact⟨_,rfl,by simpa [qr,mz] using q⟩
theorem Lo{i:Int}{Q:UD->Prop}:D4 [.int i] Q↔Q (.bool (mz (.int i))):=⟨λuu48=>by obtain⟨_,e,_,h⟩:=uu48;cases e;exact h,λh=>⟨_,rfl,rfl,h⟩⟩
def lx(y m n:Int):Prop:=2000<=y/\y<=9999/\1<=m/\m<=12/\1<=n/\n<=aW y m
instance {y m n:Int}:Decidable (lx y m n):=by unfold lx;infer_instance
def D6:List UD->(UD->Prop)->Prop:=λds Q=>∃y m n:Int,ds=[.int y,.int m,.int n]/\Q (.bool (decide (lx y m n)))
theorem Lp(T:Txt K mg t):aC P w K mg base CX0 3 t.a_K t.d_K ["year","month","day"] (bf K D6):=by
 have G_B:=@Az P w _ _ base _ T;have G_E:=@Lh P w _ _ base _ T;refine T.F_K.F.okD KG (λds Q h=>?_) (λ_ _ _ _ H O ds Q E hr h=>?_)
 ·obtain⟨y,m,n,rfl,_⟩:=h;rfl
 ·obtain⟨y,m,n,rfl,q⟩:=h;refine'⟨_,?A,?B⟩
  case A=>
   refine' ai ?C ?D
   case C=>
    refine' aL ?E ?F aK
    case E=>exact(kr (PW.pt (kQ (cn (au G_B hr T.F_B (aa (dv 0) ah))) (kQ (cn (au G_B hr T.F_B (aa (dv 1) ah))) (md (cn (au G_B hr T.F_B (aa (dv 2) ah))))))))
    case F=>refine' ar (aA lU)
   case' D=>refine' ai ?G ?H
   case G=>
    refine' aL ?I ?J aK
    case I=>exact(kr (PW.pt (kQ (oC jY jY bQ bQ (df (dc (jX rfl T.c_FIRST_YEAR T.r_FIRST_YEAR) (λ_ _=>.int _))) (df (dv 0)) (df (dc (jX rfl T.c_LAST_YEAR T.r_LAST_YEAR) (λ_ _=>.int _)))) (md (oC jY jY bQ bQ (df ae) (df (dv 1)) (df ae))))))
    case J=>refine' ar (aA lU)
   case' H=>refine' ar ?K
   case' K=>refine' aA ?L
   case L=>exact(tF jY jY bQ bQ (df ae) (df (dv 2)) (df (au G_E hr T.F_E (aa (dv 0) (aa (dv 1) ah)))))
  case B=>
  walk_at "a";simp only [Ln,Lk];walk_at "a";have no:¬lx y m n->Q (.bool false):=λz=>by rw [decide_eq_false z] at q;exact q
  split
  ·split
   ·split
    ·split
     ·exact no (by unfold lx;omega)
     ·split
      ·refine⟨Uy,Uy,?_⟩;rw [show decide (n<=aW y m)=decide (lx y m n) from decide_eq_decide.mpr (by unfold lx;omega)];exact q
      ·exact no (by unfold lx;omega)
    ·exact no (by unfold lx;omega)
   ·exact no (by unfold lx;omega)
  ·exact no (by unfold lx;omega)
theorem Lq{y m n:Int}{Q:UD->Prop}:D6 [.int y,.int m,.int n] Q↔Q (.bool (decide (lx y m n))):=⟨λuu49=>by obtain⟨_,_,_,e,h⟩:=uu49;cases e;exact h,λh=>⟨_,_,_,rfl,h⟩⟩
theorem n6{i:Int}(h0:0<=i)(h1:i < 10000):i.natAbs.log2 < 1920:=by
 by_cases z:i.natAbs=0
 ·rw [z];decide
 ·rw [Nat.log2_lt z];exact OW (show i.natAbs < 2 ^ 14 by omega) (Nat.pow_le_pow_right Ce Ce)
theorem D7{m:Int}(h0:0<=m)(h1:m < 100):(Txt.zfill (NF (toString m)) 2).length=2:=by
 obtain⟨m,rfl⟩:=OX h0;have e:=wY ⟨m,Uy⟩;simp only at e;rw [e];rfl
theorem Lr{m:Int}(h0:1000<=m)(h1:m < 10000):(NF (toString m)).length=4:=by
 obtain⟨m,rfl⟩:=OX (show 0<=m by omega);rw [ua Uy Uy];rfl
theorem Lu(a b:Str):(a++b).length=a.length+b.length:=by
 show(a.cps++b.cps).size=a.cps.size+b.cps.size;exact R7
def Lv:List UD->(UD->Prop)->Prop:=λds Q=>∃d:Int,ds=[.int d]/\0<=d/\d < bb 10000/\∀y m n,k8 d y m n->Q (.str (kW y m n))
theorem Lw(T:Txt K mg t):aC P w K mg base CX0 5 t.a_L t.d_L ["day"] (bf K Lv):=by
 have G_I:=@Li P w _ _ base _ T;refine T.F_L.F.okD sk (λds Q h=>?_) (λ_ _ _ _ H O ds Q E hr h=>?_)
 ·obtain⟨d,rfl,_⟩:=h;rfl
 ·obtain⟨d,rfl,h0,h1,q⟩:=h;refine'⟨_,?A,?B⟩
  case A=>
   refine' ai ?C ?D
   case C=>exact(aJ (i:=1) sk.nd rfl UB (au G_I hr T.F_I (aa (dv 0) ah)))
   case' D=>refine' ai ?E ?F
   case E=>exact(aJ (i:=2) sk.nd rfl UB (PE.imp (cw nN rfl T.n_str mv (aw (aj aO aS (dv 1) ae) az)) (aE nX)))
   case' F=>refine' ai ?G ?H
   case G=>
    refine' aJ (i:=3) sk.nd rfl UB ?I (hs:=pN)
    case I=>exact(CD (PE.imp (cw nN rfl T.n_str mv (aw (aj aO aS (dv 1) ae) az)) (aE nX)) ae)
   case' H=>refine' ai ?J ?K
   case J=>
    refine' aJ (i:=4) sk.nd rfl UB ?L (hs:=pN)
    case L=>exact(CD (PE.imp (cw nN rfl T.n_str mv (aw (aj aO aS (dv 1) ae) az)) (aE nX)) ae)
   case' K=>refine' ar ?M
   case' M=>refine' aA ?N
   case N=>exact(IJ (.cons (wH (dv 2)) (.cons CG (.cons (wH (dv 3)) (.cons CG (.cons (wH (dv 4)) .nil))))))
  case B=>
  walk_at "a";simp only [Ll];walk_at "a";intro y m n D;have hy:=t6 D h0 h1;have hb:=qx (y:=y) D.m1 D.m12;have:=D.m1;have:=D.m12;have:=D.n1;have:=D.nl;have ly:=Lr (m:=y) Uy Uy;have lm:=D7 (m:=m) Uy Uy;have ln:=D7 (m:=n) Uy Uy;have le:RH.length=0:=rfl;have ld:(NF "-").length=1:=td
  refine⟨n6 Uy Uy,n6 Uy Uy,Ce,n6 Uy Uy,Ce,?_⟩;rw [Jz Uy Uy Uy];simp only [Lu,ly,lm,ln,le,ld,Dd];exact⟨Ce,Ce,Ce,Ce,Ce,Ce,Ce,Ce,Ce,Ce,Ce,q y m n D⟩
def oQ:Str:="0123456789"
def bG(z:Str)(k:Int):Bool:=decide ((z.length:Int)=k) && z.cps.toList.all λc=>decide (c∈oQ.cps.toList)
def D8:List UD->(UD->Prop)->Prop:=λds Q=>∃(z:Str)(k:Int),ds=[.str z,.int k]/\z.length<=16777216/\Q (.bool (bG z k))
theorem D9(T:Txt K mg t):aC P w K mg base CX0 1 t.a_M t.d_M ["text","length"] (bf K D8):=by
 refine T.F_M.F.okD KH (λds Q h=>?_) (λ_ _ _ _ H O ds Q E hr h=>?_)
 ·obtain⟨z,k,rfl,_⟩:=h;rfl
 ·obtain⟨z,k,rfl,hz,q⟩:=h;refine'⟨_,?A,?B⟩
  case A=>
   refine' ar ?C
   case' C=>refine' aA ?D
   case D=>exact(ky (j5 (j7 hr.units) j8 (df (PE.imp (aT mS rfl T.n_len Of (aw (dv 0) az)) (aE nh))) (df (dv 1)) (aB _)) (lj (PE.imp (aT (oA rfl) rfl T.n_all oB (aw (fe (tM rfl D1 (df (dv 0)) j6 lL Ce (λ_ _ _ _=>(jU (i:=0) D1.nd rfl UB)) (λ_ _ _ _=>lM) (λ_ _ _ _=>(j5 sP tO (df (dv 0)) (df (dc (jX rfl T.c_FIGURES T.r_FIGURES) (λ_ _=>.str _))) rfl)))) az)) (aE oF))))
  case B=>
  walk_at "a";refine⟨hz,?_⟩;unfold bG at q;split
  ·rename_i h1;rw [decide_eq_true (p:=(z.length:Int)=k) (by simpa using h1)] at q;refine⟨Uy,pL (p:=λb=>Q (.bool b)) (λx=>match x with | .str y=>decide (y.cps.toList.headD 0∈oQ.cps.toList) | _=>false) (λx hx R hR=>?_) ?_⟩
   ·obtain⟨c,_,rfl⟩:=Pa.mp hx;walk_at "a";rw [Rv];exact hR
   ·unfold qo;rw [Pt,QK];exact q
  ·rename_i h1;rw [decide_eq_false (p:=(z.length:Int)=k) (by simpa using h1)] at q;exact q
theorem Ea{z:Str}{k:Int}{Q:UD->Prop}:D8 [.str z,.int k] Q↔z.length<=16777216/\Q (.bool (bG z k)):=⟨λuu50=>by obtain⟨_,_,e,h⟩:=uu50;cases e;exact h,λh=>⟨_,_,rfl,h⟩⟩
theorem Eb{m:Nat}(h:m < 100):bG ⟨(d2 m).toArray⟩ 2=true:=by
 have:∀m:Fin 100,bG ⟨(d2 m.val).toArray⟩ 2=true:=td
 exact this ⟨m,h⟩
theorem Lx:∀c:Fin 10,48+c.val∈oQ.cps.toList:=td
theorem Ly{y:Nat}(h:y < 10000):bG ⟨(d4 y).toArray⟩ 4=true:=by
 have f:∀{c:Nat},c < 10->48+c∈oQ.cps.toList:=λ{c} hc=>Lx ⟨c,hc⟩;unfold bG;rw [decide_eq_true (by rfl)];simp only [d4,Ob,OG,OU,N3,Oh,decide_eq_true_eq];exact⟨f Uy,f Uy,f Uy,f Uy⟩
theorem sA{c:Nat}(h:c∈oQ.cps.toList):48<=c/\c < 58:=by
 have e:oQ.cps.toList=[48,49,50,51,52,53,54,55,56,57]:=td
 rw [e] at h;simp only [NN,NX,or_false] at h;omega
theorem pU{z:Str}{l:List Nat}(h:z.cps.toList=l):z=⟨l.toArray⟩:=by
 obtain⟨⟨a⟩⟩:=z;exact congrArg (λl:List Nat=>(⟨l.toArray⟩:Str)) h
theorem Ec:∀y:Fin 1000,intText? ⟨(d4 y.val).toArray⟩=some (y.val:Int):=td
theorem sC{z:Str}(h:bG z 4=true):∃y:Nat,y < 10000/\z.length=4/\intText? z=some (y:Int)/\(atI z.cps.toList 0=some 48->y < 1000):=by
 unfold bG at h;rw [Oh,decide_eq_true_eq,Pf] at h;obtain⟨hl,hm⟩:=h;have hz:z.cps.toList.length=4:=by rw [show z.cps.toList.length=z.length from NY];omega
 match e:z.cps.toList,hz with
 | [a,b,c,d],_=>
  rw [e] at hm;have f:∀x∈[a,b,c,d],48<=x/\x < 58:=λx hx=>sA (by simpa using hm x hx);have ha:=f a UC;have hb:=f b UC;have hc:=f c UC;have hd:=f d UC;have ez:=pU e;have e4:[a,b,c,d]=d4 ((a - 48)*1000+(b - 48)*100+(c - 48)*10+(d - 48)):=by
   unfold d4;rw [NP,NP,NP,NP];exact⟨Uy,Uy,Uy,Uy,rfl⟩
  refine⟨(a - 48)*1000+(b - 48)*100+(c - 48)*10+(d - 48),Uy,Uy,?_,λh0=>?_⟩
  ·rw [ez,e4];generalize hy:(a - 48)*1000+(b - 48)*100+(c - 48)*10+(d - 48)=y;by_cases h:y < 1000
   ·exact Ec ⟨y,h⟩
   ·exact wZ Uy Uy
  ·rw [aV,N9] at h0;omega
theorem qJ{z:Str}(h:bG z 2=true):∃y:Nat,y < 100/\z.length=2/\intText? z=some (y:Int):=by
 unfold bG at h;rw [Oh,decide_eq_true_eq,Pf] at h;obtain⟨hl,hm⟩:=h;have hz:z.cps.toList.length=2:=by rw [show z.cps.toList.length=z.length from NY];omega
 match e:z.cps.toList,hz with
 | [a,b],_=>
  rw [e] at hm;have f:∀x∈[a,b],48<=x/\x < 58:=λx hx=>sA (by simpa using hm x hx);have ha:=f a UC;have hb:=f b UC;have ez:=pU e;have e2:[a,b]=d2 ((a - 48)*10+(b - 48)):=by
   unfold d2;rw [NP,NP];exact⟨Uy,Uy,rfl⟩
  refine⟨(a - 48)*10+(b - 48),Uy,Uy,?_⟩;rw [ez,e2];exact qz ⟨_,Uy⟩
theorem sE{c:Nat}:∀{l:List Nat},∀p∈km c l,p.length<=l.length
 | [],p,h=>by simp [km] at h;rw [h];exact NT _
 | x::xs,p,h=>by
  unfold km at h;split at h
  ·rcases NN.mp h with e | h
   ·rw [e];exact PR _
   ·exact Tx (sE p h)
  ·split at h
   ·rename_i e;exact absurd e (xF c xs)
   ·rename_i q qs e;rcases NN.mp h with e2 | h
    ·rw [e2];have:=sE q (by rw [e];simp);simp only [NI];omega
    ·exact Tx (sE p (by rw [e];simp [h]))
theorem Ed{z p:Str}(h:p∈Txt.split z (NF "-")):p.length<=z.length:=by
 rw [show NF "-"=⟨#[45]⟩ by decide+kernel] at h;have h2:p.cps.toList∈km 45 z.cps.toList:=by
  rw [<-qB];exact Pa.mpr ⟨p,h,rfl⟩
 have:=sE _ h2;have e1:p.cps.toList.length=p.length:=NY;have e2:z.cps.toList.length=z.length:=NY;omega
def nv(z:Str):Int:=(intText? z).getD 0
def lQ(z:Str):Option Int:=match Txt.split z (NF "-") with
 | [a,b,c]=>if bG a 4=true/\bG b 2=true/\bG c 2=true/\lx (nv a) (nv b) (nv c)/\lE (nv a) (nv b) (nv c)<=99999 then some (lE (nv a) (nv b) (nv c)) else none
 | _=>none
def Ee:UD->Option Int
 | .str z=>lQ z
 | _=>none
def Ef(d:UD):Prop:=(∀x,d≠ .dict [(.none,x)])/\∀z,d= .str z->z.length<=1000
def Lz:uk:=λds Q R=>∃d,ds=[d]/\Ef d/\(∀k,Ee d=some k->Q (.int k))/\(Ee d=none->R 0)
theorem Eg{y m n:Int}(h:lx y m n):0<=lE y m n:=by
 obtain⟨y1,y2,m1,m2,n1,n2⟩:=h;have:365*(y - 2000)<=bb y:=by unfold bb lb;omega
 have hb:=t4 (y:=y) m1 m2;unfold lE;omega
theorem LA(T:Txt K mg t):aC P w K mg base (kc P w) 4 t.a_N t.d_N ["text"] (um K t.u_NoText "row" Lz):=by
 have G_M:=@D9 P w _ _ base _ T;have G_K:=@Lp P w _ _ base _ T;have G_C:=@D5 P w _ _ base _ T;have G_J:=@Lj P w _ _ base _ T;have G_A:=@DN P w _ _ base _ T;refine T.F_N.F.okDXn so (λds Q R h=>?_) (λcdv A outer s H O ds Q R E hr h hx=>?_)
 ·obtain⟨d,rfl,_⟩:=h;rfl
 ·obtain⟨d,rfl,hd,q1,q2⟩:=h;refine'⟨_,?A,?B⟩
  case A=>
   refine' ai ?C ?D
   case C=>
    refine' aL ?E ?F aK
    case E=>exact(kr (cn (mi (K':=K) (T:="str") rfl rfl T.n_isinstance kZ (df (dv 0)) (lI (v:= .ty "str") rfl T.n_str mv rfl))))
    case' F=>refine' ar ?G
    case G=>exact(sg hx P2 T.xm_NoText G_A hr T.c_NoText T.F_A.b (aa ae ah))
   case' D=>refine' ai ?H ?I
   case H=>exact(aJ (i:=1) so.nd rfl UB (fe (pO (dv 0) aF)))
   case' I=>refine' ai ?J ?K
   case J=>
    refine' aL ?L ?M aK
    case L=>exact(PW.pt (kB (aI (mV hr.units) mW (PE.imp (aT jZ rfl T.n_len Of (aw (dv 1) az)) (aE j9)) ae (aB _)) (lh (kr (cn (au G_M hr T.F_M (aa (aj aM aR (dv 1) ae) (aa ae ah))))))))
    case' M=>refine' ar ?N
    case N=>exact(sg hx P2 T.xm_NoText G_A hr T.c_NoText T.F_A.b (aa ae ah))
   case' K=>refine' ai ?O ?P
   case O=>
    refine' aL ?Q ?R aK
    case Q=>exact(kr (PW.pt (kQ (cn (au G_M hr T.F_M (aa (aj aM aR (dv 1) ae) (aa ae ah)))) (md (cn (au G_M hr T.F_M (aa (aj aM aR (dv 1) ae) (aa ae ah))))))))
    case' R=>refine' ar ?S
    case S=>exact(sg hx P2 T.xm_NoText G_A hr T.c_NoText T.F_A.b (aa ae ah))
   case' P=>refine' ai ?T ?U
   case T=>exact(aJ (i:=2) so.nd rfl UB (PE.imp (cw qv rfl T.n_int mI (aw (aj aM aR (dv 1) ae) az)) (aE qw)))
   case' U=>refine' ai ?V ?W
   case V=>exact(aJ (i:=3) so.nd rfl UB (PE.imp (cw qv rfl T.n_int mI (aw (aj aM aR (dv 1) ae) az)) (aE qw)))
   case' W=>refine' ai ?X ?Y
   case X=>exact(aJ (i:=4) so.nd rfl UB (PE.imp (cw qv rfl T.n_int mI (aw (aj aM aR (dv 1) ae) az)) (aE qw)))
   case' Y=>refine' ai ?Z ?a
   case Z=>
    refine' aL ?b ?c aK
    case b=>exact(PW.pt (kB (kr (cn (au G_K hr T.F_K (aa (dv 2) (aa (dv 3) (aa (dv 4) ah)))))) (lh (kr (cn (au G_C hr T.F_C (aa (au G_J hr T.F_J (aa (dv 2) (aa (dv 3) (aa (dv 4) ah)))) ah)))))))
    case' c=>refine' ar ?d
    case d=>exact(sg hx P2 T.xm_NoText G_A hr T.c_NoText T.F_A.b (aa ae ah))
   case' a=>refine' ar ?e
   case e=>exact(aA (au G_J hr T.F_J (aa (dv 2) (aa (dv 3) (aa (dv 4) ah)))))
  case B=>
  clear hr T hx G_M G_K G_C G_J G_A;walk_at "a";simp only [wz];refine⟨_,rfl,hd.1,?_⟩;cases d with
  | str z=>
   have hz:=hd.2 z rfl;simp only [rR];walk_at "a";refine⟨td,Uy,?_⟩;have nf:lQ z=none->(Int.natAbs 0).log2 < 1920/\(NF (toString (0:Int))).length<=1000/\R 0:=λe=>⟨Ce,td,q2 e⟩;have wl:=λp=>Ed (z:=z) (p:=p);have q1:∀k,lQ z=some k->Q (.int k):=q1;clear q2 hd;unfold lQ at nf q1;generalize Txt.split z (NF "-")=ws at*
   match ws with
   | [a,b,c]=>
    have la:=wl a UC;have lb:=wl b UC;have lc:=wl c UC;rw [Uz UC];simp only [] at nf q1;simp only [Ea,Lq,Lo,Lm,↓iX,↓ja,↓jb,↓jd,↓je,↓jf,↓jg,↓iY,↓ff,↓iy,↓jJ,↓jK,↓jL,↓jM,↓jN,↓jO,↓iz,↓iA,↓iB,↓iC,↓iD,↓iE,↓iF,↓iG,↓iH,↓iI,↓iJ,↓iK,↓iL,↓iM,↓iN,↓iO,↓iP,↓iQ,↓iR,↓iS,↓iT,↓iU,↓iV,↓iW,cT,cU,cX,cW,fC,fD,cV,cY,cZ,dm,dn,fL,cL,dC,bA,dI,dD,dE,dF,fR,dG,bX,dX,dW,dJ,dH,dL,cC,cM,fz,cx,cm,bK,cN,cO,cP,cQ,fA,cR,cS,cq,cu,fB,gz,gA,gB,gC,gD,gE,gF,gG,gH,gI,gJ,gK,gL,gM,gN,gO,gP,gQ,gR,gS,gT,gU,gW,gX,gY,gZ,g6,g9,hG,hJ,hV,hW,hX,hZ,ic,ie,ig,ij,ik,il,ip,iq,iu,eT,dO,fQ,dY,cI,fT,d7,dM,dN,dP,dQ,dR,dS,dU,cG,dZ,d3,d6,bU,fM,fN,fO,fE,fF,fG,fH,dz,fJ,dA,fK,eN,eR,gs,gu,gx,gr,gy,eG,eJ,eL,eM,bY,eQ,eO,eD,eF,eV,eX,eY,eZ,cb,iw,ix,i3,iZ,i4,i5,i6,i8,i9,fg,fh,jk,ji,jj,jh,jq,jl,jm,jn,jo,cJ,fj,jv,jw,jr,jt,ju,jx,jy,jz,fk,jA,jB,jD,jE,fq,jF,jG,jH,jC,jI,ft,fu,fv,fw,jP,jQ,jR,bP,gc,gf,gh,gi,gj,gk,gm,gn,gp,ne_eq,b0,fX,fY,fZ,gb,fU,fV,fW,cD,cE,dB,c7,dj,di,dh,bT,bR,bg,bV,ck,bW,NM,Od,NI,N7,NO,N4,N8,NZ,OD,OE,OM,ON,OO,NU,NS,Oc,N5,N6,N9,exists_eq_left',exists_eq_left,exists_and_left,exists_and_right,Oi,Oj,Sl.v.injEq,Sl.o.injEq,Sl.k.injEq,Ot,Om,Ou,Oe,Oo,NP,and_true,true_and,OP,Ov,exists_const,decide_eq_true_eq,OQ,OR,OH,OI,N0,decide_eq_false_iff_not,and_assoc,or_true,true_or,↓reduceIte,if_true,if_false,N1,Oa,not_true_eq_false,not_false_eq_true,OK,OA,ite_true,ite_false,eq_self,exists_eq,reduceCtorEq,false_and,and_false,or_false,false_or,exists_false,Ox,Oy,cj,OG,OU,OC,OV,N3,OB,Ob,OL,aV,bp,bS,cH,d8,br,ei,er,beq_self_eq_true,d9,eg,fS,bx,UT]
    refine⟨Uy,?_⟩;by_cases fa:bG a 4=true
    ·rw [Uz (by rw [fa];decide)];refine⟨Uy,?_⟩;by_cases fb:bG b 2=true
     ·rw [UA fb];refine⟨Uy,?_⟩;by_cases fc:bG c 2=true
      ·rw [Uz (by rw [fc];decide)];obtain⟨y,y1,y2,y3,_⟩:=sC fa;obtain⟨m,m1,m2,m3⟩:=qJ fb;obtain⟨n,n1,n2,n3⟩:=qJ fc;refine⟨y,y3,Uy,m,m3,Uy,n,n3,Uy,?_⟩;have ea:nv a=y:=by unfold nv;rw [y3];rfl
       have eb:nv b=m:=by unfold nv;rw [m3];rfl
       have ec:nv c=n:=by unfold nv;rw [n3];rfl
       rw [ea,eb,ec] at nf q1;by_cases hd:lx y m n
       ·rw [Uz (λz=>z hd)];refine⟨hd.2.2.1,hd.2.2.2.1,?_⟩;have nn:=Eg hd;by_cases hy:lE y m n<=99999
        ·rw [Uz (by simp [mz,nn,hy])];exact⟨hd.2.2.1,hd.2.2.2.1,q1 _ (UA ⟨fa,fb,fc,hd,hy⟩)⟩
        ·rw [UA (by simp [mz,hy])];exact nf (Uz λz=>hy z.2.2.2.2)
       ·rw [UA hd];exact nf (Uz λz=>hd z.2.2.2.1)
      ·rw [UA (by simpa using fc)];exact nf (Uz λz=>fc z.2.2.1)
     ·rw [Uz fb];exact nf (Uz λz=>fb z.2.1)
    ·rw [UA (by simpa using fa)];exact nf (Uz λz=>fa z.1)
   | []=>rw [UA UC];exact nf rfl
   | [a]=>rw [UA UC];exact nf rfl
   | [a,b]=>rw [UA UC];exact nf rfl
   | a::b::c::d::r=>rw [UA (by simp;omega)];exact nf rfl
  | _=>exact⟨Ce,td,q2 rfl⟩
end
theorem Ei:cK (ay ur) ["thing"] ["sign"] 1 [] ⟨OJ,[ (NL ".0",Ws),(NL "sign",Ws),(NL "LETTERS",OS)],false,false,[]⟩:= .of
theorem Ej:cK (ay si) ["thing"] ["name"] 1 [] ⟨OJ,[ (NL ".0",Ws),(NL "name",Ws),(NL "is_name",OS)],false,false,[]⟩:= .of
theorem Ek:cK (ay si) ["thing"] ["place","thing"] 1 [0] ⟨OJ,[ (NL ".0",Ws),(NL "place",Ws),(NL "thing",Pr)],false,false,[]⟩:= .of
section
variable {P:US} {w:UU} {K:NG} {mg:Str->Option UE} {base:UR} {t:k9}
def uD:List UD->(UD->Prop)->Prop:=λds Q=>∃d,∃n:Int,ds=[d,.int n]/\bo d=true/\Q (.bool (k7 d n))
theorem AA(T:Txt K mg t):aC P w K mg base CX0 1 t.a_O t.d_O ["thing","length"] (bf K uD):=by
 refine T.F_O.F.okD KI (λds Q h=>?_) (λ_ _ _ _ H O ds Q E hr h=>?_)
 ·obtain⟨d,n,rfl,_⟩:=h;rfl
 ·obtain⟨d,n,rfl,hd,q⟩:=h;refine⟨_,(ar (aA (ky (mi (K':=K) (T:="tuple") rfl rfl T.n_isinstance kZ (df (dv 0)) (lI (v:= .ty "tuple") rfl T.n_tuple lz rfl)) (lj (j5 (j7 hr.units) j8 (df (PE.imp (aT jZ rfl T.n_len Of (aw (dv 0) az)) (aE j9))) (df (dv 1)) (aB _)))))),?_⟩;walk_at "a";simp only [tQ];walk_at "a";refine⟨qp hd,?_⟩;cases d with
  | tuple l=>simp only [oI];walk_at "a";exact q
  | _=>simpa [oI,k7] using q
def pV:List UD->(UD->Prop)->Prop:=λds Q=>∃d,ds=[d]/\bo d=true/\Q (.bool (bZ d))
theorem qK(T:Txt K mg t):aC P w K mg base CX0 1 t.a_P t.d_P ["thing"] (bf K pV):=by
 refine T.F_P.F.okD KJ (λds Q h=>?_) (λ_ _ _ _ H O ds Q E hr h=>?_)
 ·obtain⟨d,rfl,_⟩:=h;rfl
 ·obtain⟨d,rfl,hd,q⟩:=h;refine⟨_,(ai (aL (PW.pt (kB (kr (cn (mi (K':=K) (T:="str") rfl rfl T.n_isinstance kZ (df (dv 0)) (lI (v:= .ty "str") rfl T.n_str mv rfl)))) (lh (kr (oC jY jY bQ bQ (df ae) (df (PE.imp (aT mS rfl T.n_len Of (aw (dv 0) az)) (aE nh))) (df (dc (jX rfl T.c_LONGEST_NAME T.r_LONGEST_NAME) (λ_ _=>.int _)))))))) (ar (aA lU)) aK)
   (ar (aA (PE.imp (aT (oA rfl) rfl T.n_all oB (aw (fe (tM rfl Ei (df (dv 0)) j6 lL Ce (λ_ _ _ _=>(jU (i:=0) Ei.nd rfl UB)) (λ_ _ _ _=>lM) (λ_ _ _ _=>(j5 sP tO (df (dv 0)) (df (dc (jX rfl T.c_LETTERS T.r_LETTERS) (λ_ _=>.str _))) rfl)))) az)) (aE oF))))),?_⟩
  walk_at "a";simp only [wz];walk_at "a";refine⟨qp hd,?_⟩;cases d with
  | str z=>
   have hz:=Iq hd;simp only [rR];walk_at "a";refine⟨Uy,?_⟩;simp only [bZ] at q;split
   ·rename_i h1;split
    ·rename_i h2;rw [decide_eq_false (p:=z.length<=8) Uy] at q;simpa using q
    ·rename_i h2;rw [decide_eq_true (p:=1<=z.length) Uy,decide_eq_true (p:=z.length<=8) Uy] at q;refine⟨Uy,pL (p:=λb=>Q (.bool b)) (λx=>match x with | .str y=>decide (y.cps.toList.headD 0∈kS.cps.toList) | _=>false) (λx hx R hR=>?_) ?_⟩
     ·obtain⟨c,_,rfl⟩:=Pa.mp hx;walk_at "a";rw [Rv];exact hR
     ·unfold qo;rw [Pt,QK];exact q
   ·rename_i h1;rw [decide_eq_false (p:=1<=z.length) Uy] at q;simpa using q
  | _=>simpa [rR,bZ] using q
def El:List UD->(UD->Prop)->Prop:=λds Q=>∃d,ds=[d]/\bo d=true/\Q (.bool (lV d))
theorem LB(T:Txt K mg t):aC P w K mg base CX0 2 t.a_Q t.d_Q ["thing"] (bf K El):=by
 have G_O:=@AA P w _ _ base _ T;have G_P:=@qK P w _ _ base _ T;refine T.F_Q.F.okD KL (λds Q h=>?_) (λ_ _ _ _ H O ds Q E hr h=>?_)
 ·obtain⟨d,rfl,_⟩:=h;rfl
 ·obtain⟨d,rfl,hd,q⟩:=h;refine⟨_,(ai (aL (cn (au G_O hr T.F_O (aa (dv 0) (aa ae ah)))) (ar (aA (j5 (ki hr) kj (df (aj aO aS (dv 0) ae)) (df aF) (aB _)))) aK)
   (ai (aL (cn (au G_O hr T.F_O (aa (dv 0) (aa ae ah)))) (ar (aA (ky (j5 (pH hr) pI (df (aj aO aS (dv 0) ae)) (df (cy (aa aF (aa aF ah)))) rfl) (lj (au G_P hr T.F_P (aa (aj aO aS (dv 0) ae) ah)))))) aK)
   (ar (aA lU)))),?_⟩
  walk_at "a";simp only [uD];walk_at "a";refine⟨hd,?_⟩;rcases rW d with⟨l,rfl⟩ | hn
  ·have hl:=rT hd
   match l,hl with
   | [],_=>simpa [lV,k7,hd] using q
   | [a],hl=>
    have ha:=hl a UC;simp [lV,k7,pJ ha,aV] at q⊢;exact q
   | [a,b],hl=>
    have ha:=hl a UC;have hb:=hl b UC;simp [lV,lq,k7,pJ ha,hd,pV,hb,aV,bp] at q⊢;generalize ((NH (NF "first")).eqv a)=A at*;generalize ((NH (NF "last")).eqv a)=B at*;cases A <;> cases B <;> simp at q⊢<;> exact q
   | _::_::_::r,_=>
    have h1:¬((r.length:Int)+1+1+1=1):=Uy
    have h2:¬((r.length:Int)+1+1+1=2):=Uy
    simpa [lV,k7,hd,h1,h2] using q
  ·have e:lV d=false:=by
    unfold lV;split
    ·exact absurd rfl (hn _)
    ·exact absurd rfl (hn _)
    ·rfl
   rw [e] at q;simpa [wB hn,hd] using q
theorem LC{a:UH}(h:∀H,aX K H a [V.str "days",V.str "months",V.str "years"]):∀H O,Dt K H O (.ref a) (.tuple [.str "days",.str "months",.str "years"]):=λH O=>
 .tupK (h rG) (.cons (.str _) (.cons (.str _) (.cons (.str _) .nil)))
def Em:List UD->(UD->Prop)->Prop:=λds Q=>∃m u,ds=[m,u]/\bo m=true/\bo u=true/\Q (.bool (qt m u))
theorem LD(T:Txt K mg t):aC P w K mg base CX0 2 t.a_R t.d_R ["many","unit"] (bf K Em):=by
 have G_B:=@Az P w _ _ base _ T;obtain⟨aU,eU,hU⟩:=T.e_UNITS;have Tr_UNITS:aD (.ref aU) t.u_UNITS:=eU;have Td_UNITS:=LC hU;refine T.F_R.F.okD KN (λds Q h=>?_) (λ_ _ _ _ H O ds Q E hr h=>?_)
 ·obtain⟨d,u,rfl,_⟩:=h;rfl
 ·obtain⟨m,u,rfl,hm,hu,q⟩:=h;refine⟨_,(ar (aA (ky (au G_B hr T.F_B (aa (dv 0) ah)) (ky (tF jY jY bQ bQ (df ae) (df (dv 0)) (df (dc (jX rfl T.c_MOST_MANY T.r_MOST_MANY) (λ_ _=>.int _)))) (lj (j5 (pH hr) pI (df (dv 1)) (df (dc (jX rfl T.c_UNITS Tr_UNITS) Td_UNITS)) rfl)))))),?_⟩;walk_at "a";refine⟨m,rfl,hm,?_⟩;cases m with
  | int i=>
   walk_at "a";simp only [qr,qt,rV,lq] at q⊢;simp only [if_true];by_cases h0:0<=i
   ·rw [UA h0];by_cases h1:i<=999
    ·simp [h0,h1,pJ hu] at q⊢;exact q
    ·simp [h0,h1] at q⊢;exact q
   ·simp [h0] at q⊢;exact q
  | _=>exact⟨_,rfl,by simpa [qr,qt,rV] using q⟩
def En:List UD->(UD->Prop)->Prop:=λds Q=>∃d,ds=[d]/\bo d=true/\Q (.bool (lP d))
theorem LG(T:Txt K mg t):aC P w K mg base CX0 3 t.a_S t.d_S ["thing"] (bf K En):=by
 have G_O:=@AA P w _ _ base _ T;have G_P:=@qK P w _ _ base _ T;have G_Q:=@LB P w _ _ base _ T;have G_R:=@LD P w _ _ base _ T;refine T.F_S.F.okD DD (λds Q h=>?_) (λ_ _ _ _ H O ds Q E hr h=>?_)
 ·obtain⟨d,rfl,_⟩:=h;rfl
 ·obtain⟨d,rfl,hd,q⟩:=h;refine⟨_,(ai (aL (cn (au G_O hr T.F_O (aa (dv 0) (aa ae ah)))) (ar (aA (ky (j5 (pH hr) pI (df (aj aO aS (dv 0) ae)) (df (cy (mY (ds:=[.str "while",.str "follow",.str "leave"]) (by rfl)))) rfl) (lj (au G_P hr T.F_P (aa (aj aO aS (dv 0) ae) ah)))))) aK)
   (ai (aL (cn (au G_O hr T.F_O (aa (dv 0) (aa ae ah)))) (ai (aJ (i:=1) DD.nd rfl UB (ky (j5 (pH hr) pI (df (aj aO aS (dv 0) ae)) (df (cy (aa aF (aa aF ah)))) rfl) (lj (au G_P hr T.F_P (aa (aj aO aS (dv 0) ae) ah)))))
   (ar (aA (ky (dv 1) (ky (au G_Q hr T.F_Q (aa (aj aO aS (dv 0) ae) ah)) (lj (au G_R hr T.F_R (aa (aj aO aS (dv 0) ae) (aa (aj aO aS (dv 0) ae) ah))))))))) aK)
   (ar (aA lU)))),?_⟩
  walk_at "a";simp only [uD];walk_at "a";refine⟨hd,?_⟩;rcases rW d with⟨l,rfl⟩ | hn
  ·have hl:=rT hd
   match l,hl with
   | [],_=>simpa [lP,k7,hd] using q
   | [a],_=>simpa [lP,k7,hd] using q
   | [_,_,_],_=>simpa [lP,k7,hd] using q
   | [_,_,_,_],_=>simpa [lP,k7,hd] using q
   | [a,b],hl=>
    have ha:=hl a UC;have hb:=hl b UC;simp [lP,lq,k7,pJ ha,hd,pV,hb,aV,bp] at q⊢;generalize ((NH (NF "while")).eqv a)=A at*;generalize ((NH (NF "follow")).eqv a)=B at*;generalize ((NH (NF "leave")).eqv a)=C at*;cases A <;> cases B <;> cases C <;> simp at q⊢<;> exact q
   | [a,b,c,d,e],hl=>
    have ha:=hl a UC;have hb:=hl b UC;have hc:=hl c UC;have hd':=hl d UC;have he:=hl e UC;simp [lP,lq,k7,pJ ha,hd,pV,El,Em,hb,hc,hd',he,aV,bp,bS,cH,d8] at q⊢;generalize ((NH (NF "keep")).eqv a)=A at*;generalize ((NH (NF "gone")).eqv a)=B at*;generalize bZ b=C at*;generalize lV c=D at*;cases A <;> cases B <;> cases C <;> cases D <;> simp at q⊢<;> first | exact q | exact⟨_,_,⟨rfl,rfl⟩,hd',he,q⟩
   | _::_::_::_::_::_::r,_=>
    have h1:¬((r.length:Int)+1+1+1+1+1+1=2):=Uy
    have h2:¬((r.length:Int)+1+1+1+1+1+1=5):=Uy
    simpa [lP,k7,hd,h1,h2] using q
  ·have e:lP d=false:=by
    unfold lP;split
    ·exact absurd rfl (hn _)
    ·exact absurd rfl (hn _)
    ·rfl
   rw [e] at q;simpa [wB hn,hd] using q
def Eo:List UD->(UD->Prop)->Prop:=λds Q=>∃d,ds=[d]/\bo d=true/\Q (.bool (oJ d))
theorem LH(T:Txt K mg t):aC P w K mg base CX0 2 t.a_T t.d_T ["thing"] (bf K Eo):=by
 have G_P:=@qK P w _ _ base _ T;refine T.F_T.F.okD KO (λds Q h=>?_) (λ_ _ _ _ H O ds Q E hr h=>?_)
 ·obtain⟨d,rfl,_⟩:=h;rfl
 ·obtain⟨d,rfl,hd,q⟩:=h;refine⟨_,(ai (aL (PW.pt (kB (kr (cn (mi (K':=K) (T:="tuple") rfl rfl T.n_isinstance kZ (df (dv 0)) (lI (v:= .ty "tuple") rfl T.n_tuple lz rfl)))) (lh (aI oY bQ (PE.imp (aT jZ rfl T.n_len Of (aw (dv 0) az)) (aE j9)) (dc (jX rfl T.c_MOST_MAKERS T.r_MOST_MAKERS) (λ_ _=>.int _)) (aB _))))) (ar (aA lU)) aK)
   (ai (aL (kr (cn (PE.imp (aT (oA rfl) rfl T.n_all oB (aw (fe (Hw rfl Ej (df (dv 0)) j6 lL Ce (λ_ _ _ _=>(jU (i:=0) Ej.nd rfl UB)) (λ_ _ _ _=>lM) (λ_ _ _ _=>(au G_P hr T.F_P (aa (dv 0) ah))))) az)) (aE oF)))) (ar (aA lU)) aK)
   (ar (aA (PE.imp (aT (oA rfl) rfl T.n_all oB (aw (fe (v9 rfl Ek rfl T.n_range (aw ae (aw (PE.imp (aT jZ rfl T.n_len Of (aw (dv 0) az)) (aE j9)) az)) j6 lL Ce (λ_ _ _ _=>(jU (i:=0) Ek.nd rfl UB)) (λ_ _ _ _=>lM) (λ_ _ _ _=>(j5 FU Ia (df (aj aO aS (dv 1) (aP kO bO (dv 0) ae))) (df (aj aO aS (dv 1) (dv 0))) (aB _))))) az)) (aE oF)))))),?_⟩
  walk_at "a";simp only [tQ];walk_at "a";refine⟨qp hd,?_⟩;rcases rW d with⟨l,rfl⟩ | hn
  ·have hl:=rT hd;simp only [oI];walk_at "a";simp only [oJ] at q;split
   ·rename_i h4;rw [decide_eq_false (p:=l.length<=4) Uy] at q;simpa using q
   ·rename_i h4;rw [decide_eq_true (p:=l.length<=4) Uy] at q;refine⟨Uy,pL (p:=λb=>if b=false then Q (.bool false) else _) bZ (λx hx R hR=>?_) ?_⟩
    ·walk_at "a";exact⟨x,rfl,hl x hx,hR⟩
    ·have ea:(l.map bZ).all id=l.all bZ:=by rw [QK];rfl
     rw [ea];split
     ·rename_i h5;rw [h5] at q;simpa using q
     ·rename_i h5;rw [Bool.not_eq_false] at h5;rw [h5] at q;refine⟨by have:((16777216:Nat):Int)=16777216:=rfl;omega,Uy,Uy,pL (p:=λb=>Q (.bool b)) (λx=>match x with | .int p=>tR (l.getD (p - 1).toNat .none) (l.getD p.toNat .none) | _=>false) (λx hx R hR=>?_) ?_⟩
      ·obtain⟨i,hi,rfl⟩:=Pa.mp hx;have hi':=QF.mp hi;have l1:i < l.length:=Uy
       have l2:i+1 < l.length:=Uy
       have n1:bZ l[i]=true:=Pf.mp h5 _ (Qj l1);have n2:bZ l[i+1]=true:=Pf.mp h5 _ (Qj l2);obtain⟨z1,e1,_⟩:=mC n1;obtain⟨z2,e2,_⟩:=mC n2;have a1:(1:Int)+(i:Int) - 1=((i:Nat):Int):=Uy
       have a2:(1:Int)+(i:Int)=((i+1:Nat):Int):=Uy
       simp only [a1] at hR;rw [a2] at hR;simp only [O8,QB,O7 l1,O7 l2,Option.getD_some,e1,e2,tR] at hR;walk_at "a";rw [a1,a2];exact⟨_,mG (by rw [O7 l1,e1]),_,mG (by rw [O7 l2,e2]),z1,rfl,z2,rfl,hR⟩
      ·simp only [Ob] at q
       match l,h4,q with
       | [],_,q=>simpa [mN,kR] using q
       | [a],_,q=>simpa [mN,kR] using q
       | [a,b],_,q=>simpa [mN,kR,QQ] using q
       | [a,b,c],_,q=>simpa [mN,kR,QQ] using q
       | [a,b,c,d],_,q=>simpa [mN,kR,QQ] using q
       | _::_::_::_::_::r,h4,_=>simp only [NI] at h4;omega
  ·rw [Cr hn];have e:oJ d=false:=by
    unfold oJ;split
    ·exact absurd rfl (hn _)
    ·rfl
   rw [e] at q;simpa using q
def Ep:List UD->(UD->Prop)->Prop:=λds Q=>∃d,ds=[d]/\bo d=true/\Q (.bool (mB d))
theorem LJ(T:Txt K mg t):aC P w K mg base CX0 2 t.a_U t.d_U ["thing"] (bf K Ep):=by
 have G_O:=@AA P w _ _ base _ T;have G_P:=@qK P w _ _ base _ T;refine T.F_U.F.okD KP (λds Q h=>?_) (λ_ _ _ _ H O ds Q E hr h=>?_)
 ·obtain⟨d,rfl,_⟩:=h;rfl
 ·obtain⟨d,rfl,hd,q⟩:=h;refine⟨_,(ar (aA (ky (au G_O hr T.F_O (aa (dv 0) (aa ae ah))) (ky (j5 (pH hr) pI (df (aj aO aS (dv 0) ae)) (df (cy (aa aF (aa aF ah)))) rfl) (lj (au G_P hr T.F_P (aa (aj aO aS (dv 0) ae) ah))))))),?_⟩;walk_at "a";simp only [uD];walk_at "a";refine⟨hd,?_⟩;rcases rW d with⟨l,rfl⟩ | hn
  ·have hl:=rT hd
   match l,hl with
   | [],_=>simpa [mB,k7] using q
   | [a],_=>simpa [mB,k7] using q
   | [a,b],hl=>
    have ha:=hl a UC;have hb:=hl b UC;simp [mB,lq,k7,pJ ha,pV,hb,aV,bp] at q⊢;generalize ((NH (NF "paper")).eqv a)=A at*;generalize ((NH (NF "kind")).eqv a)=B at*;cases A <;> cases B <;> simp at q⊢<;> exact q
   | _::_::_::r,_=>
    have h2:¬((r.length:Int)+1+1+1=2):=Uy
    simpa [mB,k7,h2] using q
  ·have e:mB d=false:=by
    unfold mB;split
    ·exact absurd rfl (hn _)
    ·rfl
   rw [e] at q;simpa [wB hn] using q
def LK:List UD->(UD->Prop)->Prop:=λds Q=>∃d ps,ds=[d,.tuple ps]/\bo d=true/\(∀p∈ps,bo p=true)/\Q (.bool (nW d ps))
theorem LL(T:Txt K mg t):aC P w K mg base CX0 4 t.a_V t.d_V ["word","parts"] (bf K LK):=by
 have G_P:=@qK P w _ _ base _ T;have G_S:=@LG P w _ _ base _ T;have G_T:=@LH P w _ _ base _ T;have G_U:=@LJ P w _ _ base _ T;refine T.F_V.F.okD KQ (λds Q h=>?_) (λ_ _ _ _ H O ds Q E hr h=>?_)
 ·obtain⟨d,ps,rfl,_⟩:=h;rfl
 ·obtain⟨d,ps,rfl,hd,hp,q⟩:=h;refine⟨_,(ai (aL (aI (pH hr) pI (dv 0) (cy (aa aF (aa aF ah))) rfl) (ar (aA (j5 (j7 hr.units) j8 (df (PE.imp (aT jZ rfl T.n_len Of (aw (dv 1) az)) (aE j9))) (df ae) (aB _)))) aK)
   (ai (aL (aI (pH hr) pI (dv 0) (cy (aa aF (aa aF ah))) rfl) (ar (aA (ky (j5 (j7 hr.units) j8 (df (PE.imp (aT jZ rfl T.n_len Of (aw (dv 1) az)) (aE j9))) (df ae) (aB _)) (lj (au G_P hr T.F_P (aa (aj aO aS (dv 1) ae) ah)))))) aK)
   (ai (aL (aI (ki hr) kj (dv 0) aF (aB _)) (ar (aA (ky (j5 (j7 hr.units) j8 (df (PE.imp (aT jZ rfl T.n_len Of (aw (dv 1) az)) (aE j9))) (df ae) (aB _)) (lj (au G_S hr T.F_S (aa (aj aO aS (dv 1) ae) ah)))))) aK)
   (ai (aL (aI (ki hr) kj (dv 0) aF (aB _)) (ar (aA (ky (j5 (j7 hr.units) j8 (df (PE.imp (aT jZ rfl T.n_len Of (aw (dv 1) az)) (aE j9))) (df ae) (aB _)) (ky (au G_P hr T.F_P (aa (aj aO aS (dv 1) ae) ah)) (lj (au G_T hr T.F_T (aa (aj aO aS (dv 1) ae) ah))))))) aK)
   (ai (aL (aI (ki hr) kj (dv 0) aF (aB _)) (ar (aA (ky (j5 (j7 hr.units) j8 (df (PE.imp (aT jZ rfl T.n_len Of (aw (dv 1) az)) (aE j9))) (df ae) (aB _)) (ky (au G_U hr T.F_U (aa (aj aO aS (dv 1) ae) ah)) (lj (mi (K':=K) (T:="bool") rfl rfl T.n_isinstance kZ (df (aj aO aS (dv 1) ae)) (lI (v:= .ty "bool") rfl T.n_bool rF rfl))))))) aK)
   (ar (aA lU))))))),?_⟩
  walk_at "a";simp only [pJ hd,wA];walk_at "a";simp only [nW,lq,OC,OV,OB] at q;split
  ·rename_i h;rw [UA h] at q
   match ps with
   | []=>simpa using q
   | _::r=>
    have h1:(((r.length+1:Nat):Int)==0)=false:=by rw [beq_eq_false_iff_ne];omega
    rw [NI,h1];simpa using q
  rename_i h;rw [Uz h] at q;clear h;split
  ·rename_i h;rw [UA h] at q
   match ps,hp with
   | [],_=>simpa using q
   | [a],hp=>have ha:=hp a UC;simpa [aV,pV,ha] using q
   | _::_::r,_=>
    have h1:¬((r.length:Int)+1+1=1):=Uy
    simpa [h1] using q
  rename_i h;rw [Uz h] at q;clear h;split
  ·rename_i h;rw [UA h] at q
   match ps,hp with
   | [],_=>simpa using q
   | [a],hp=>have ha:=hp a UC;simpa [aV,En,ha] using q
   | _::_::r,_=>
    have h1:¬((r.length:Int)+1+1=1):=Uy
    simpa [h1] using q
  rename_i h;rw [Uz h] at q;clear h;split
  ·rename_i h;rw [UA h] at q
   match ps,hp with
   | [],_=>simpa using q
   | [a],_=>simpa using q
   | [a,b],hp=>
    have ha:=hp a UC;have hb:=hp b UC;simp [aV,bp,pV,Eo,ha,hb] at q⊢;generalize bZ a=A at*;cases A <;> simp at q⊢<;> exact q
   | _::_::_::r,_=>
    have h1:¬((r.length:Int)+1+1+1=2):=Uy
    simpa [h1] using q
  rename_i h;rw [Uz h] at q;clear h;split
  ·rename_i h;rw [UA h] at q
   match ps,hp with
   | [],_=>simpa using q
   | [a],_=>simpa using q
   | [a,b],hp=>
    have ha:=hp a UC;have hb:=qp (hp b UC);simp [aV,bp,Ep,ha] at q⊢;generalize mB a=A at*;cases A <;> simp at q⊢<;> first | exact q | exact⟨hb,q⟩
   | _::_::_::r,_=>
    have h1:¬((r.length:Int)+1+1+1=2):=Uy
    simpa [h1] using q
  ·rename_i h;rw [Uz h] at q;exact q
def LN:List UD->(UD->Prop)->Prop:=λds Q=>∃d,ds=[d]/\bo d=true/\Q (.bool (lr d))
theorem LO(T:Txt K mg t):aC P w K mg base CX0 5 t.a_W t.d_W ["thing"] (bf K LN):=by
 have G_P:=@qK P w _ _ base _ T;have G_C:=@D5 P w _ _ base _ T;have G_V:=@LL P w _ _ base _ T;refine T.F_W.F.okD KR (λds Q h=>?_) (λ_ _ _ _ H O ds Q E hr h=>?_)
 ·obtain⟨d,rfl,_⟩:=h;rfl
 ·obtain⟨d,rfl,hd,q⟩:=h;refine⟨_,(ai (aL (PW.pt (kB (kr (cn (mi (K':=K) (T:="tuple") rfl rfl T.n_isinstance kZ (df (dv 0)) (lI (v:= .ty "tuple") rfl T.n_tuple lz rfl)))) (lh (aI qf bQ (PE.imp (aT jZ rfl T.n_len Of (aw (dv 0) az)) (aE j9)) ae (aB _))))) (ar (aA lU)) aK)
   (ar (aA (ky (au G_C hr T.F_C (aa (aj aO aS (dv 0) ae) ah)) (ky (au G_P hr T.F_P (aa (aj aO aS (dv 0) ae) ah)) (lj (au G_V hr T.F_V (aa (aj aO aS (dv 0) ae) (aa (wm (df (dv 0)) (cF ae) fP) ah))))))))),?_⟩
  walk_at "a";simp only [tQ];walk_at "a";refine⟨qp hd,?_⟩;rcases rW d with⟨l,rfl⟩ | hn
  ·have hl:=rT hd;simp only [oI];walk_at "a"
   match l,hl with
   | [],_=>simpa [lr] using q
   | [a],_=>simpa [lr] using q
   | [a,b],_=>simpa [lr] using q
   | w::n::x::r,hl=>
    have h3:¬((((w::n::x::r).length:Nat):Int) < 3):=by simp only [NI];omega
    rw [Uz h3];have hw:=hl w UC;have hn:=hl n UC;have hx:=hl x UC;have hr':∀p∈r,bo p=true:=λp hp=>hl p (by simp [hp]);have ec:bw (w::n::x::r) (some 3) none=r:=by rw [pF Ce (by simp only [NI];omega)];rfl
    simp only [lr] at q;refine⟨_,bp,n,rfl,hn,?_⟩;refine⟨_,rfl,?_⟩;cases e1:mz n with
    | false=>simpa [e1] using q
    | true=>
     rw [UA rfl];refine⟨_,bS,x,rfl,hx,_,rfl,?_⟩;cases e2:bZ x with
     | false=>simpa [e1,e2] using q
     | true=>
      rw [UA rfl];refine⟨_,aV,w,r,by rw [ec],hw,hr',?_⟩;simpa [e1,e2] using q
  ·rw [Cr hn];have e:lr d=false:=by
    unfold lr;split
    ·exact absurd rfl (hn _)
    ·rfl
   rw [e] at q;simpa using q
def AB:Sp:=λvs H Q _=>∃(c:Int),vs=[.int c]/\Pj c<=2000000/\∀n:Int,Q (.int n) H
theorem LP(T:Txt K mg t):aC P w K mg base CX0 1 t.a_g t.d_g ["_law_cell"] AB:=by
 refine T.F_g.F.ok K2 (λvs H Q E h=>?_) (λcdv A outer s H vs Q E hr h=>?_)
 ·obtain⟨c,rfl,_⟩:=h;rfl
 ·obtain⟨c,rfl,hb,k⟩:=h;refine⟨_,(kh (kG (bM nM (bM GW (pv 0) cg) (bM FN cg cg)))),?_⟩;walk_at "c";refine⟨IntMulOk.of_le (m:=2000000) (n:=256) hb (intBits_le_iff.mpr Ce) Ce,?_,?_,k _⟩
  ·decide
  ·decide
theorem Er{x:Int}(h1:0<=x)(h2:x<=1000000):Pj x<=20:=intBits_le_iff.mpr (by
 have:(2:Nat)^ 20=1048576:=Ce
 omega)
theorem LQ{H:Hp}{O:Ex}{v:V}{ns:List Int}(h:Dt K H O v (ma (ns.map .int))):∃a,v= .ref a/\bj K H a (ns.map V.int):=by
 obtain⟨a,xs,rfl,hs,r⟩:=(Sh.dt h).scr;refine⟨a,rfl,?_⟩;have:xs=ns.map V.int:=by
  clear hs h
  induction ns generalizing xs with
  | nil=>rw [Od] at r;cases r;rfl
  | cons n ns ih=>
   rw [NM] at r;cases r with
   | cons h r=>cases h;rw [NM,ih _ r]
 rw [<-this];exact hs
theorem LR(T:Txt K mg t):aC P w K mg base CX0 2 t.a_h t.d_h ["_law_script","_law_k"] (bf K HJ):=by
 have G_g:=@LP P w _ _ base _ T;refine T.F_h.F.ok K3 (λvs H Q E h=>?_) (λcdv A outer s H vs Q E hr h=>?_)
 ·obtain⟨O,ds,Qd,_,r,⟨ns,i,rfl,_⟩,_⟩:=h;exact r.length
 ·obtain⟨O,ds,Qd,tr,r,⟨ns,i,rfl,hb,i0,i1,q⟩,k⟩:=h;cases r with
  | cons r1 r2=>
   cases r2 with
   | cons r2 r3=>
    cases r3;cases r2;obtain⟨a,rfl,hS⟩:=LQ r1;refine⟨_,bJ.newPack (kF (oo (o9 qf (pv 1) (aT FZ rfl T.n_len Of (aN (pv 0) bF)) (aB _)) (kh (kG (vG (aN (lu G_g (hr.mono Ce) rfl T.F_g (aN (bM bN (sX aM (pv 0) (pv 1) (λ_ _=>rfl)) (bM qc cg (pv 1))) bF)) bF)))) om)
   (kh (kG (vG (aN (lu G_g (hr.mono Ce) rfl T.F_g (aN (bM bN (bM qc cg (pv 1)) cg) bF)) bF))))),?_⟩
    have fin:∀(n:Int)(p:UH),H p=none->∃p' n',V.ref p=V.ref p'/\ak H p (.lst [.int n]) p'=some (.lst [.int n'])/\Q (.ref p) (ak (ak H p (.lst [.int n])) p' (nQ p')):=λn p hp=>
     ⟨p,n,rfl,bh,k _ _ _ q (λb o e=>by rw [av (ko e hp),av (ko e hp)];exact e) (.pack bh λz=>tr p z hp)⟩
    walk_at "c";refine⟨ns.length,.inl ⟨_,hS,UC⟩,?_⟩;split
    ·rename_i hlt;obtain⟨j,rfl⟩:=OX i0;have hj:j < ns.length:=Uy
     refine BN (v:= .int ns[j]) hS (mG (by simp [hj])) ⟨_,rfl,?_⟩;simp only [AB];walk_at "c";refine⟨?_,λn=>⟨by show 1<=UN;decide,λp hp=>?_⟩⟩
     ·have e1:=hb ns[j] (Qj hj);have e2:Pj (23*(j:Int))<=20:=Er Uy Uy;exact Oz (intBits_add_le e1 e2) Ce
     ·simpa using fin n p hp
    ·simp only [AB];walk_at "c";refine⟨?_,λn=>⟨by show 1<=UN;decide,λp hp=>?_⟩⟩
     ·exact Oz (Er Uy Uy) Ce
     ·simpa using fin n p hp
theorem pW(T:Txt K mg t):aC P w K mg base CX0 1 t.a_i t.d_i ["_law_pack_here","_law_size"] (bf K vZ):=by
 refine T.F_i.F.ok DI (λvs H Q E h=>?_) (λcdv A outer s H vs Q E hr h=>?_)
 ·obtain⟨O,ds,Qd,_,r,⟨z,rfl,_⟩,_⟩:=h;exact r.length
 ·obtain⟨O,ds,Qd,tr,r,⟨z,rfl,z0,z1,qq⟩,k⟩:=h;cases r with
  | cons r1 r2=>
   cases r2 with
   | cons r2 r3=>
    cases r3;cases r2;cases r1 with
    | @pack p hp hn=>
     refine⟨_,bJ.pack (kF (A5 (aT F0 rfl T.n_divmod G1 (aN (sX aM (pv 0) cg (λ_ _=>rfl)) (aN (pv 1) bF))) (vj (n:=2) rfl (nK (FC (pv 0) cg Gr) (nK (jU (i:=2) DI.nd rfl UB) sI))))
   (kh (kG (pv 2)))),p,hp,λn=>?_⟩
     walk_at "c";refine BN (bj.of bh) rfl ⟨n,rfl,z0,Uy,λq hq=>?_⟩;have hpq:p≠q:=ko bh hq;refine⟨_,aX.of bh,rfl,_,_,rfl,?_⟩;refine⟨p,[.int n],0,0,rfl,rfl,by rw [av hpq,bh],rfl,?_⟩;refine⟨_,_,rfl,rfl,?_⟩;refine⟨⟨_,bh⟩,k _ _ _ (qq (n % z) (Int.emod_nonneg _ Uy) (Int.emod_lt_of_pos _ z0)) (λb o e=>?_) (.int _)⟩;by_cases hb:b=p
     ·subst hb;rw [bh,<-hp,e]
     ·have hbq:b≠q:=λy=>by
       subst y;rw [av hb] at hq;rw [hq] at e;cases e
      rw [av hb,av hb,av hbq,av hb];exact e
end
end K59
local macro_rules | `(tactic| walk_at "o")=>`(tactic| first | exact Sf rfl | exact Rz rfl)
local macro_rules | `(tactic| walk_at "a") =>do let a <- rzT "bR NM Od NI N7 OD OE NO N4 N8"; let b <- rzT rzS; `(tactic| ((try $a:tactic); $b:tactic))
open PySem L2
namespace K59
theorem Es:cK (ay sj) ["_law_pack_here","_law_many","_law_letters","_law_words","_law_turn","_law_size","_law_at","_law_stem","_law_first"] ["_law_k","_law_letters","_law_pack_here"] 1 [2,0] ⟨OJ,[ (NL ".0",Ws),(NL "_law_k",Ws),(NL "_law_take",OS),(NL "_law_letters",Pr),(NL "_law_pack_here",Pr)],false,false,[]⟩:= .of
theorem Et:cK (ay sj) ["_law_pack_here","_law_many","_law_letters","_law_words","_law_turn","_law_size","_law_at","_law_stem","_law_first"] ["_law_k","_law_stem","_law_letters","_law_at","_law_first"] 1 [7,2,6,8] ⟨OJ,[ (NL ".0",Ws),(NL "_law_k",Ws),(NL "_law_at",Pr),(NL "_law_first",Pr),(NL "_law_letters",Pr),(NL "_law_stem",Pr)],false,false,[]⟩:= .of
section
variable {P:US} {w:UU} {K:NG} {mg:Str->Option UE} {base:UR} {t:k9}
structure LS (ns:List Str):Prop where
 len:ns.length=5
 nd:ns.Nodup
 nm:∀n∈ns,Nm n
def kP:List Str:=["paper","kind","keep","days","coming","first","deep","none","never","gone","held","rule","last","end","hold","lift","leave","happens","while","follow","months","years"]
theorem LU:kP.Nodup:=td
theorem LV:∀n∈kP,bZ (.str n)=true:=td
theorem LW{n:Str}(h:n∈kP):Nm n:=by
 obtain⟨z,e,hz⟩:=mC (LV n h);injection e with e;rw [e];exact hz
theorem LX{j:Nat}{n:Str}(h:n∈kP.drop j++kP.take j):n∈kP:=by
 rcases P4.mp h with z | z
 ·exact P0 z
 ·exact PN z
theorem LY{j:Int}(h0:0<=j)(h1:j < 26):lN j∈kS.cps.toList:=by
 obtain⟨c,_,e2,_⟩:=rQ h0 h1;have:lN j=c:=by unfold lN;rw [e2];rfl
 rw [this];exact PK e2
def uE(a b:Str)(fi:Int)(k:Nat):Str:=a++⟨#[lN ((fi+5*(k:Int))% 26)]⟩++b
def LZ:List UD->(UD->Prop)->Prop:=λds Q=>ds=[lT,.int 5]/\∀ns,LS ns->Q (.list (ns.map .str))
theorem L4(T:Txt K mg t):aC P w K mg base CX0 2 t.a_j t.d_j ["_law_pack_here","_law_many"] (bf K LZ):=by
 have G_i:=@pW P w _ _ base _ T;refine T.F_j.F.okD nZ (λds Q h=>?_) (λ_ _ _ _ H O ds Q E hr h=>?_)
 ·obtain⟨rfl,_⟩:=h;rfl
 ·obtain⟨rfl,q⟩:=h;refine'⟨_,?A,?B⟩
  case A=>
   refine' ai ?C ?D
   case C=>exact(aJ (i:=2) nZ.nd rfl UB aF)
   case' D=>refine' ai ?E ?F
   case E=>
    refine' aL ?G ?H aK
    case G=>exact(aI (j7 hr.units) j8 (au G_i hr T.F_i (aa (dv 0) (aa ae ah))) ae (aB _))
    case' H=>refine' ai ?I ?J
    case I=>
     generalize hE6_0:Qr _ _=ee6_0;exact aJ (i:=3) nZ.nd rfl UB (fe (mM (ds:=[.str "paper",.str "kind",.str "keep",.str "days",.str "coming",.str "first",.str "deep",.str "none",.str "never",.str "gone",.str "held",.str "rule"]) (by first | (subst hE6_0;rfl)))) (hs:=B8 (ds:=[.str "paper",.str "kind",.str "keep",.str "days",.str "coming",.str "first",.str "deep",.str "none",.str "never",.str "gone",.str "held",.str "rule"]) (by first | (subst hE6_0;rfl)))
    case' J=>refine' ai ?K ?L
    case K=>
     generalize hE8_0:Qr _ _=ee8_0;exact(aJ (i:=3) nZ.nd rfl UB (fe (kK (df (dv 3)) (df (fe (mM (ds:=[.str "last",.str "end",.str "hold",.str "lift",.str "leave",.str "happens",.str "while",.str "follow",.str "months",.str "years"]) (by first | (subst hE8_0;rfl))))))))
    case' L=>refine' ai ?M ?N
    case M=>exact(aJ (i:=4) nZ.nd rfl UB (au G_i hr T.F_i (aa (dv 0) (aa (PE.imp (aT jZ rfl T.n_len Of (aw (dv 3) az)) (aE j9)) ah))))
    case' N=>refine' ar ?O
    case' O=>refine' aA ?P
    case' P=>refine' fe ?Q
    case Q=>exact(kC (df (fe (kK (df (fe (kC (df (dv 3)) (cF (dv 4)) fP))) (df (fe (kC (df (dv 3)) fP (cF (dv 4)))))))) fP (cF (dv 1)))
   case' F=>refine' ai ?R ?S
   case R=>exact(aJ (i:=5) nZ.nd rfl UB (aP bN bO ae (au G_i hr T.F_i (aa (dv 0) (aa ae ah)))))
   case' S=>refine' ai ?T ?U
   case T=>exact(aJ (i:=6) nZ.nd rfl UB (au G_i hr T.F_i (aa (dv 0) (aa (dv 5) ah))))
   case' U=>refine' ai ?V ?W
   case V=>
    refine' aJ (i:=7) nZ.nd rfl UB ?X (hs:=pN)
    case X=>exact(qm aF (df (fe (B2 rfl Es rfl T.n_range (aw (dv 5) az) j6 lL Ce (λ_ _ _ _=>(jU (i:=0) Es.nd rfl UB)) (λ_ _ _ _=>lM) (λ_ _ _ _=>(aj sY tJ (dv 1) (au G_i hr T.F_i (aa (dv 2) (aa ae ah)))))))))
   case' W=>refine' ai ?Y ?Z
   case Y=>exact(aJ (i:=8) nZ.nd rfl UB (au G_i hr T.F_i (aa (dv 0) (aa ae ah))))
   case' Z=>refine' ar ?a
   case' a=>refine' aA ?b
   case' b=>refine' fe ?c
   case c=>exact(B2 rfl Et rfl T.n_range (aw (dv 1) az) j6 lL Ce (λ_ _ _ _=>(jU (i:=0) Et.nd rfl UB)) (λ_ _ _ _=>lM) (λ_ _ _ _=>(aP sT tI (aP sT tI (qk (df (dv 1)) fP (cF (dv 3))) (aj sY tJ (dv 2) (aP nM my (aP bN bO (dv 4) (aP qc my ae (dv 0))) ae))) (qk (df (dv 1)) (cF (aP bN bO (dv 3) ae)) fP))))
  case B=>
  walk_at "a";rw [show([NH "paper",NH "kind",NH "keep",NH "days",NH "coming",NH "first",NH "deep",NH "none",NH "never",NH "gone",NH "held",NH "rule",NH "last",NH "end",NH "hold",NH "lift",NH "leave",NH "happens",NH "while",NH "follow",NH "months",NH "years"]:List UD)=kP.map NH from rfl];have hl:(kP.map NH).length=22:=rfl;intro c c0 c1;split
  ·refine⟨Ce,Ce,λj j0 j1=>?_⟩;have j2:j < 22:=j1;have hj:(j.toNat:Int)=j:=QM j0;rw [pF j0 (by rw [hl];omega),pE j0 (by rw [hl];omega)];have e5:((kP.map NH).drop j.toNat++(kP.map NH).take j.toNat)=(kP.drop j.toNat++kP.take j.toNat).map NH:=by
    rw [PZ,S0,RF]
   have l5:(kP.drop j.toNat++kP.take j.toNat).length=22:=by
    rw [Pp,Pu,Pm,show kP.length=22 from rfl];omega
   refine⟨by rw [Pu,Pm,hl];omega,?_⟩;rw [e5,pE Ce (by rw [NQ,l5];decide),<-RF];refine q _ ⟨by rw [Pm,l5];rfl,?_,λn hn=>?_⟩
   ·refine List.Nodup.sublist (R5 _ _) ?_;have hp:(kP.drop j.toNat++kP.take j.toNat).Perm kP:=by
     have:=List.perm_append_comm (l₁:=kP.drop j.toNat) (l₂:=kP.take j.toNat)
     rwa [Q2] at this
    exact hp.nodup_iff.mpr LU
   ·exact LW (LX (PN hn))
  ·intro x x0 x1;refine⟨Uy,Uy,λat0 a0 a1=>⟨Uy,by have:(16777216:Nat)=(16777216:Int):=rfl;omega,?_⟩⟩;refine Ir (λy=>∃c,y= .str ⟨#[c]⟩/\c∈kS.cps.toList) (λy hy R hR=>?_) λds hdl hds=>?_
   ·obtain⟨k,hk,rfl⟩:=Pa.mp hy;walk_at "a";refine λj j0 j1=>⟨td,?_⟩;obtain⟨ch,e1,e2,_⟩:=rQ j0 j1;exact⟨ch,e1,hR _ ⟨ch,rfl,PK e2⟩⟩
   ·obtain⟨cs,rfl,hcs⟩:∃cs:List Nat,ds=(cs.map λc=>(⟨#[c]⟩:Str)).map .str/\∀c∈cs,c∈kS.cps.toList:=by
     clear hdl
     induction ds with
     | nil=>exact⟨[],rfl,UC⟩
     | cons d r ih=>
      obtain⟨c,rfl,hc⟩:=hds d UC;obtain⟨cs,rfl,h⟩:=ih λy hy=>hds y (by simp [hy]);exact⟨c::cs,rfl,λz hz=>by
       rcases NN.mp hz with e | e
       ·rw [e];exact hc
       ·exact h z e⟩
    rw [B7,NQ,NQ] at hdl;have jc:(Txt.join "" (cs.map λc=>(⟨#[c]⟩:Str))).cps.toList=cs:=by
     rw [IC,Pt];clear hdl hds hcs
     induction cs with
     | nil=>rfl
     | cons c r ih=>rw [NM,Qe,ih];rfl
    have sm:((cs.map λc=>(⟨#[c]⟩:Str)).map λx=>x.length).sum=cs.length:=by
     clear hdl hds hcs jc
     induction cs with
     | nil=>rfl
     | cons c r ih=>
      simp only [NM,Qq,NI] at ih⊢;rw [ih,show(⟨#[c]⟩:Str).length=1 from rfl];omega
    refine⟨_,rfl,by rw [sm,NQ,show(NF "").length=0 by decide+kernel];omega,λfi f0 f1=>⟨Ce,?_⟩⟩;have hst:(Txt.join "" (cs.map λc=>(⟨#[c]⟩:Str))).length=cs.length:=by rw [oK,jc]
    generalize Txt.join "" (cs.map λc=>(⟨#[c]⟩:Str))=stem at*;have cA:(Txt.slice stem none (some at0)).cps.toList=cs.take at0.toNat:=by rw [wC,jc,Iw a0 Uy]
    have cB:(Txt.slice stem (some (at0+1)) none).cps.toList=cs.drop (at0+1).toNat:=by rw [wC,jc,Iy Uy Uy]
    have lA:(Txt.slice stem none (some at0)).length=at0.toNat:=by rw [oK,cA,Pm];omega
    have lB:(Txt.slice stem (some (at0+1)) none).length=cs.length - (at0+1).toNat:=by rw [oK,cB,Pu]
    have lc:∀j,(⟨#[j]⟩:Str).length=1:=λ_=>rfl;refine pK (λy=>match y with | .int k=>.str (uE (Txt.slice stem none (some at0)) (Txt.slice stem (some (at0+1)) none) fi k.toNat) | _=>.none) (λy hy R hR=>?_) ?_
    ·obtain⟨k,hk,rfl⟩:=Pa.mp hy;walk_at "a";simp only [Uk,O8] at hR⊢;have r0:0<=(fi+5*(k:Int))% 26:=Uy
     have r1:(fi+5*(k:Int))% 26 < 26:=Uy
     obtain⟨e1,e2⟩:=HR r0 r1;refine⟨Uy,td,_,e1,by rw [lA,lc];omega,Uy,?_⟩;exact⟨by rw [oH,lA,lB,lc];omega,hR⟩
    ·have e:(kR 0 (Int.toNat 5)).map (λy=>match y with | .int k=>NH (uE (Txt.slice stem none (some at0)) (Txt.slice stem (some (at0+1)) none) fi k.toNat) | _=>.none)=((PD 5).map λ(k:Nat)=>uE (Txt.slice stem none (some at0)) (Txt.slice stem (some (at0+1)) none) fi k).map .str:=by
      unfold kR;rw [Pt,Pt];refine RO λk _=>?_;simp only [Function.comp,Uk,O8]
     rw [e];refine q _ ⟨UC,?_,λn hn=>?_⟩
     ·rw [List.Nodup,List.pairwise_map];refine List.Pairwise.imp_of_mem ?_ (List.nodup_range (n:=5));intro a b ha hb hab e;have ha':=QF.mp ha;have hb':=QF.mp hb;have z:=HN e;have:=HS Uy Uy Uy Uy z;omega
     ·obtain⟨k,_,rfl⟩:=Pa.mp hn;have r0:0<=(fi+5*(k:Int))% 26:=Uy
      have r1:(fi+5*(k:Int))% 26 < 26:=Uy
      unfold uE;refine⟨by rw [oH,oH,lA,lB,lc];omega,by rw [oH,oH,lA,lB,lc];omega,λc hc=>?_⟩;simp only [rO,Qs,P4] at hc;rcases hc with(h | h) | h
      ·rw [cA] at h;exact hcs c (PN h)
      ·have:c=lN ((fi+5*(k:Int))% 26):=by simpa using h
       rw [this];exact LY r0 r1
      ·rw [cB] at h;exact hcs c (P0 h)
open Day
theorem L5{d y m n y' m' n':Int}(D:k8 d y m n)(D':k8 d y' m' n'):kW y m n=kW y' m' n':=by
 obtain⟨rfl,rfl,rfl⟩:=D.uniq D';rfl
open Classical in
def kA(d:Int):Str:=if h:∃z y m n,k8 d y m n/\z=kW y m n then h.choose else NF ""
theorem uF{d y m n:Int}(D:k8 d y m n):kW y m n=kA d:=by
 have h:∃z y m n,k8 d y m n/\z=kW y m n:=⟨_,y,m,n,D,rfl⟩;unfold kA;rw [dif_pos h];obtain⟨y',m',n',D',e⟩:=h.choose_spec;rw [e];exact L5 D D'
def jV:UD->List Str
 | .tuple [.str a]=>[a]
 | .tuple [.str a,.str b]=>[a,b]
 | _=>[]
def lG:UD->List Str
 | .tuple [.str w,.str k]=>[w,k]
 | .tuple [.str w,.str k,s,.int m,.str u]=>[w,k,Txt.join (NF ":") (jV s),NF (toString m),u]
 | _=>[]
def oR:UD->List Str
 | .tuple l=>l.filterMap λd=>match d with | .str z=>some z | _=>none
 | _=>[]
def ml:List UD->List Str
 | [.str k,.tuple l]=>k::oR (.tuple l)
 | [.tuple [.str g,.str y],.bool b]=>[g,y]++if b=true then [NF "deep"] else []
 | [.str y]=>[y]
 | [.tuple l]=>lG (.tuple l)
 | _=>[]
theorem qL(ms:List Str):oR (.tuple (ms.map .str))=ms:=by
 show List.filterMap _ (ms.map NH)=ms;rw [Tc];exact List.filterMap_some
theorem L6:(NF ":").length=1:=td
theorem AD:(NF " ").length=1:=td
theorem uG{s:UD}(h:lX s):s= .tuple ((jV s).map .str)/\((jV s).map (λx:Str=>x.length)).sum+(jV s).length*(NF ":").length<=16777216:=by
 rw [L6];cases h with
 | coming=>exact⟨rfl,td⟩
 | @first h hn=>
  refine⟨rfl,?_⟩;have a:(NF "first").length=5:=td
  have:=hn.hi;simp only [jV,NM,Od,Qq,Th,NI,N7,a];omega
 | @last h hn=>
  refine⟨rfl,?_⟩;have a:(NF "last").length=4:=td
  have:=hn.hi;simp only [jV,NM,Od,Qq,Th,NI,N7,a];omega
theorem n8{d:UD}(h:bL d):∃w n x r,d= .tuple (.str w:: .int n:: .str x::r)/\kT n:=by
 cases h with
 | paper a=>exact⟨_,_,_,_,rfl,a⟩
 | two _ a=>exact⟨_,_,_,_,rfl,a⟩
 | rule a=>exact⟨_,_,_,_,rfl,a⟩
 | one _ a=>exact⟨_,_,_,_,rfl,a⟩
 | hold a=>exact⟨_,_,_,_,rfl,a⟩
def L7:List UD->(UD->Prop)->Prop:=λds Q=>∃p,ds=[p]/\mf p/\Q (.list ((lG p).map .str))
theorem L8(T:Txt K mg t):aC P w K mg base CX0 1 t.a_X t.d_X ["parts"] (bf K L7):=by
 refine T.F_X.F.okD KS (λds Q h=>?_) (λ_ _ _ _ H O ds Q E hr h=>?_)
 ·obtain⟨p,rfl,_⟩:=h;rfl
 ·obtain⟨p,rfl,hp,q⟩:=h;refine'⟨_,?A,?B⟩
  case A=>
   refine' ai ?C ?D
   case C=>
    refine' aL ?E ?F aK
    case E=>exact(aI (j7 hr.units) j8 (PE.imp (aT jZ rfl T.n_len Of (aw (dv 0) az)) (aE j9)) ae (aB _))
    case' F=>refine' ar ?G
    case G=>exact(aA (fe (pC rfl T.n_list pk (aw (dv 0) az))))
   case' D=>refine' ar ?H
   case' H=>generalize hG6:Qr _ _=eg6
   refine' aA ?I
   case' I=>subst hG6
   refine' fe ?J
   case' J=>refine' bB ?K
   case' K=>refine' aa ?L ?M
   case L=>exact(aj aO aS (dv 0) ae)
   case' M=>refine' aa ?N ?O
   case N=>exact(aj aO aS (dv 0) ae)
   case' O=>refine' aa ?P ?Q
   case P=>exact(De aF (df (aj aO aS (dv 0) ae)))
   case' Q=>refine' aa ?R ?S
   case R=>exact(PE.imp (cw nN rfl T.n_str mv (aw (aj aO aS (dv 0) ae) az)) (aE nX))
   case' S=>refine' aa ?T ah
   case T=>exact(aj aO aS (dv 0) ae)
  case B=>
  clear hr T;cases hp with
  | wfl hw hk=>
   walk_at "a";rw [UA Ce];exact q
  | kg hw hk hs h0 h1 hu=>
   walk_at "a";rw [Uz Ce];obtain⟨e,z⟩:=uG hs;exact⟨_,e,z,n6 h0 Uy,q⟩
def L9:List UD->(UD->Prop)->Prop:=λds Q=>∃(w:Str)(r:List UD)(n:Int)(x:Str),ds=[.str w,.tuple r]/\bL (.tuple (.str w:: .int n:: .str x::r))/\Q (.list ((ml r).map .str))
theorem Ma(T:Txt K mg t):aC P w K mg base CX0 2 t.a_Y t.d_Y ["word","parts"] (bf K L9):=by
 have G_X:=@L8 P w _ _ base _ T;refine T.F_Y.F.okD KU (λds Q h=>?_) (λ_ _ _ _ H O ds Q E hr h=>?_)
 ·obtain⟨w,r,n,x,rfl,_⟩:=h;rfl
 ·obtain⟨w,r,n,x,rfl,hd,q⟩:=h;refine'⟨_,?A,?B⟩
  case A=>
   refine' ai ?C ?D
   case C=>
    refine' aL ?E ?F aK
    case E=>exact(aI (ki hr) kj (dv 0) aF (aB _))
    case' F=>refine' ar ?G
    case' G=>refine' aA ?H
    case' H=>refine' fe ?I
    case' I=>refine' kK (df ?J) (df ?K)
    case J=>exact(fe (bB (aa (aj aO aS (dv 1) ae) ah)))
    case K=>exact(fe (pC rfl T.n_list pk (aw (aj aO aS (dv 1) ae) az)))
   case' D=>refine' ai ?L ?M
   case L=>
    refine' aL ?N ?O aK
    case N=>exact(aI (ki hr) kj (dv 0) aF (aB _))
    case' O=>refine' ar ?P
    case P=>exact(aA (au G_X hr T.F_X (aa (aj aO aS (dv 1) ae) ah)))
   case' M=>refine' ai ?Q ?R
   case Q=>
    refine' aL ?S ?T aK
    case S=>exact(aI (ki hr) kj (dv 0) aF (aB _))
    case' T=>refine' ar ?U
    case' U=>refine' aA ?V
    case' V=>refine' fe ?W
    case' W=>refine' kK (df ?X) (df ?Y)
    case X=>exact(fe (pC rfl T.n_list pk (aw (aj aO aS (dv 1) ae) az)))
    case Y=>exact(tE (cn (aj aO aS (dv 1) ae)) (fe (bB (aa aF ah))) (fe (bB ah)))
   case' R=>refine' ar ?Z
   case Z=>exact(aA (fe (pC rfl T.n_list pk (aw (dv 1) az))))
  case B=>
  clear hr T G_X;have nw:∀{u v:Str}{l:List Str},u∈l->(∀z∈l,z≠v)->(u==v)=false:=λh h2=>by simpa using h2 _ h
  cases hd with
  | @paper _ _ k ms _ _ _ hm=>
   walk_at "a";have:=hm.len;refine⟨by rw [NQ];omega,?_⟩;have e:ml [NH k,O5 (Pe NH ms)]=k::ms:=by
    show k::oR (.tuple (ms.map .str))=_;rw [qL]
   rw [e] at q;exact q
  | two hw=>
   walk_at "a";rw [nw hw td,nw hw td,nw hw td,Uz Oq,Uz Oq,Uz Oq];exact q
  | rule _ _ hp=>
   walk_at "a";refine⟨_,rfl,hp,?_⟩;cases hp <;> exact q
  | one hw=>
   walk_at "a";rw [nw hw td,nw hw td,nw hw td,Uz Oq,Uz Oq,Uz Oq];exact q
  | @hold _ _ g y b=>
   walk_at "a";cases b
   ·rw [Uz Oq];exact q
   ·rw [UA rfl];exact q
def kn:UD->List Str
 | .tuple (.str w:: .int n:: .str x::r)=>w::kA n::x::ml r
 | _=>[]
def jT(d:UD):Str:=Txt.join (NF " ") (kn d)
def Wz(z:Str):Prop:=z.length<=20/\∀c∈z.cps.toList,c≠32/\c < 128
theorem rP:∀c∈kS.cps.toList,(c≠32/\c < 128)/\c≠58:=td
theorem nA{z:Str}(h:Nm z):Wz z:=⟨Oz h.hi Ce,λc hc=>(rP c (h.ab _ hc)).1⟩
theorem Eu{z:Str}(h:Nm z):58 ∉ z.cps.toList:=λc=>(rP 58 (h.ab _ c)).2 rfl
theorem Mb{z:Str}(h:Wz z):32 ∉ z.cps.toList:=λc=>(h.2 32 c).1 rfl
theorem uH{n:Int}(h:kT n):n < bb 10000:=by
 have:bb 10000=2921940:=Ce
 have:=h.2;omega
theorem Mc{n:Int}(h:kT n):Wz (kA n):=by
 unfold kA;split
 ·rename_i hx;obtain⟨y,m,k,D,e⟩:=hx.choose_spec;rw [e];refine⟨by rw [Dd];decide,?_⟩;have e:(kW y m k).cps.toList=d4 y.toNat++45::(d2 m.toNat++45::d2 k.toNat):=by simp [kW,qA]
  have hy:=t6 D h.1 (uH h);have hb:=qx (y:=y) D.m1 D.m12;have:=D.m12;have:=D.nl;intro c hc;rw [e] at hc;simp only [d4,d2,N4,N8,NN,NX,or_false] at hc;rcases hc with h | h | h | h | h | h | h | h | h | h <;> omega
 ·unfold Wz;decide+kernel
theorem AE:∀{a b:List Str},a.map (λp:Str=>p.cps.toList)=b.map (λp:Str=>p.cps.toList)->a=b
 | [],[],_=>rfl
 | [],_::_,h=>by simp at h
 | _::_,[],h=>by simp at h
 | ⟨⟨x⟩⟩::a,⟨⟨y⟩⟩::b,h=>by
  simp only [NM,NP] at h;rw [AE h.2,h.1]
theorem AF{c:Nat}{ws:List Str}(hn:ws≠[])(h:∀z∈ws,c ∉ z.cps.toList):Txt.split (Txt.join ⟨#[c]⟩ ws) ⟨#[c]⟩=ws:=by
 have e:Txt.join ⟨#[c]⟩ ws=QL ⟨#[c]⟩ ws:=P6 _ _;have h1:=qB (Txt.join ⟨#[c]⟩ ws) c;rw [e,pQ,xH c _ (by simpa using hn) (λp hp=>by obtain⟨q,hq,rfl⟩:=Pa.mp hp;exact h q hq)] at h1;rw [e];exact AE h1
theorem qM:NF ":"=⟨#[58]⟩:=td
theorem mQ:NF " "=⟨#[32]⟩:=td
def ke(m:Int):Str:=NF (toString m)
theorem Md:∀m:Fin 1000,((ke (m.val:Int)).length<=3/\1<=(ke (m.val:Int)).length)/\bG (ke (m.val:Int)) ((ke (m.val:Int)).length:Int)=true/\(1 < (ke (m.val:Int)).length->(ke (m.val:Int)).cps.toList.headD 48≠48)/\(ke (m.val:Int)).cps.toList.all (λc=>decide (48<=c/\c<=57))=true:=td
theorem AG{m:Int}(h0:0<=m)(h1:m<=999):((ke m).length<=3/\1<=(ke m).length)/\bG (ke m) ((ke m).length:Int)=true/\(1 < (ke m).length->(ke m).cps.toList.headD 48≠48)/\(ke m).cps.toList.all (λc=>decide (48<=c/\c<=57))=true:=by
 obtain⟨k,rfl⟩:=OX h0;exact Md ⟨k,Uy⟩
theorem Ew{m:Int}(h0:0<=m)(h1:m<=999):Wz (ke m):=by
 obtain⟨a,_,_,b⟩:=AG h0 h1;refine⟨Oz a.1 Ce,λc hc=>?_⟩;have:=of_decide_eq_true (Pf.mp b _ hc);omega
theorem uI{c x:Nat}:∀{ps:List (List Nat)},x∈lF c ps->x=c\/∃p∈ps,x∈p
 | [],h=>by cases h
 | [p],h=>.inr ⟨p,UC,h⟩
 | p::q::r,h=>by
  have h:x∈p++c::lF c (q::r):=h;rcases P4.mp h with z | z
  ·exact .inr ⟨p,UC,z⟩
  ·rcases NN.mp z with z | z
   ·exact .inl z
   ·rcases uI z with z | ⟨s,hs,z⟩
    ·exact .inl z
    ·exact .inr ⟨s,by simp at hs⊢;exact .inr hs,z⟩
theorem AH{s:UD}(h:lX s):jV s≠[]/\∀z∈jV s,Wz z/\58 ∉ z.cps.toList/\z.length<=8:=by
 have c1:Wz (NF "coming")/\58 ∉ (NF "coming").cps.toList/\(NF "coming").length<=8:=by unfold Wz;decide+kernel
 have c2:Wz (NF "first")/\58 ∉ (NF "first").cps.toList/\(NF "first").length<=8:=by unfold Wz;decide+kernel
 have c3:Wz (NF "last")/\58 ∉ (NF "last").cps.toList/\(NF "last").length<=8:=by unfold Wz;decide+kernel
 cases h with
 | coming=>exact⟨by simp [jV],λz hz=>by rw [jV,PL] at hz;rw [hz];exact c1⟩
 | first hn=>
  refine⟨by simp [jV],λz hz=>?_⟩;simp only [jV,NN,NX,or_false] at hz;rcases hz with rfl | rfl
  ·exact c2
  ·exact⟨nA hn,Eu hn,hn.hi⟩
 | last hn=>
  refine⟨by simp [jV],λz hz=>?_⟩;simp only [jV,NN,NX,or_false] at hz;rcases hz with rfl | rfl
  ·exact c3
  ·exact⟨nA hn,Eu hn,hn.hi⟩
theorem AI(c:Nat):∀ps:List (List Nat),(lF c ps).length<=(ps.map QU).sum+ps.length
 | []=>PR _
 | [p]=>by show p.length<=_;simp
 | p::q::r=>by
  have ih:=AI c (q::r);show(p++c::lF c (q::r)).length<=_;rw [Pp,NI,NM,Qq,NI];omega
theorem Me{s:UD}(h:lX s):Wz (Txt.join (NF ":") (jV s)):=by
 obtain⟨_,hw⟩:=AH h;have hl:(jV s).length<=2:=by cases h <;> simp [jV]
 rw [qM];have e:(Txt.join ⟨#[58]⟩ (jV s)).cps.toList=lF 58 ((jV s).map λp=>p.cps.toList):=by
  rw [show Txt.join ⟨#[58]⟩ (jV s)=QL ⟨#[58]⟩ (jV s) from P6 _ _,pQ]
 refine⟨?_,λc hc=>?_⟩
 ·show(Txt.join ⟨#[58]⟩ (jV s)).cps.size<=20;rw [<-NY,e];refine Oz (AI _ _) ?_;rw [Pt,NQ];have:∀l:List Str,(∀z∈l,z.length<=8)->(l.map (QU ∘ λp:Str=>p.cps.toList)).sum<=8*l.length:=λl=>by
   induction l with
   | nil=>simp
   | cons a l ih=>
    intro hh;have h1:=ih λz hz=>hh z (by simp [hz]);have h2:a.cps.toList.length<=8:=by rw [NY];exact hh a UC
    rw [NM,Qq,NI];show a.cps.toList.length+_<=_;omega
  have:=this (jV s) λz hz=>(hw z hz).2.2;omega
 ·rw [e] at hc;rcases uI hc with z | ⟨p,hp,z⟩
  ·rw [z];decide
  ·obtain⟨q,hq,rfl⟩:=Pa.mp hp;exact(hw q hq).1.2 c z
theorem lits_wz:∀z∈(["keep","gone","while","follow","leave","days","months","years","paper","kind","happens","rule","end","lift","hold","deep"]:List Str),Wz z:=by unfold Wz;decide+kernel
theorem Mf{p:UD}(h:mf p):(lG p).length<=5/\∀z∈lG p,Wz z:=by
 cases h with
 | wfl hw hk=>
  refine⟨by simp [lG],λz hz=>?_⟩;simp only [lG,NN,NX,or_false] at hz hw;rcases hz with rfl | rfl
  ·rcases hw with rfl | rfl | rfl <;> exact lits_wz _ UC
  ·exact nA hk
 | kg hw hk hs h0 h1 hu=>
  refine⟨by simp [lG],λz hz=>?_⟩;simp only [lG,units,NN,NX,or_false] at hz hw hu;rcases hz with rfl | rfl | rfl | rfl | rfl
  ·rcases hw with rfl | rfl <;> exact lits_wz _ UC
  ·exact nA hk
  ·exact Me hs
  ·exact Ew h0 h1
  ·rcases hu with rfl | rfl | rfl <;> exact lits_wz _ UC
theorem uJ{d:UD}(h:bL d):(kn d).length<=8/\∀z∈kn d,Wz z:=by
 have key:∀{w:Str}{n:Int}{x:Str}{ws:List Str},Wz w->kT n->Nm x->ws.length<=5->(∀z∈ws,Wz z)->(w::kA n::x::ws).length<=8/\∀z∈w::kA n::x::ws,Wz z:=λhw hn hx hl hz=>by
  refine⟨by simp only [NI];omega,λz hz'=>?_⟩;rcases NN.mp hz' with rfl | hz'
  ·exact hw
  ·rcases NN.mp hz' with rfl | hz'
   ·exact Mc hn
   ·rcases NN.mp hz' with rfl | hz'
    ·exact nA hx
    ·exact hz z hz'
 cases h with
 | @paper n x k ms hn hx hk hm=>
  have e:kn (.tuple [.str "paper",.int n,.str x,.str k,.tuple (ms.map .str)])=NF "paper"::kA n::x::k::ms:=by
   show NF "paper"::kA n::x::k::oR (.tuple (ms.map .str))=_;rw [qL]
  rw [e];have:=hm.len;refine key (lits_wz _ UC) hn hx (by rw [NI];omega) λz hz=>?_;rcases NN.mp hz with rfl | hz
  ·exact nA hk
  ·exact nA (hm.nm z hz)
 | two hw hn hx hy=>
  simp only [NN,NX,or_false] at hw;refine key (ws:=[_]) (by rcases hw with rfl | rfl <;> exact lits_wz _ UC) hn hx UC λz hz=>?_;rw [PL] at hz;rw [hz];exact nA hy
 | rule hn hx hp=>
  have hr:=Mf hp;cases hp <;> exact key (lits_wz _ UC) hn hx hr.1 hr.2
 | one hw hn hx=>
  simp only [NN,NX,or_false] at hw;exact key (ws:=[]) (by rcases hw with rfl | rfl <;> exact lits_wz _ UC) hn hx UC λz hz=>by cases hz
 | @hold n x g y b hn hx hg hy=>
  simp only [NN,NX,or_false] at hg;have wg:Wz g:=by rcases hg with rfl | rfl <;> exact lits_wz _ UC
  refine key (ws:=[g,y]++if b=true then [NF "deep"] else []) (lits_wz _ UC) hn hx (by cases b <;> simp) λz hz=>?_;cases b
  ·simp only [NZ,NN,NX,or_false,N1,if_false] at hz;rcases hz with rfl | rfl
   ·exact wg
   ·exact nA hy
  ·simp only [if_true,N4,N8,NN,NX,or_false] at hz;rcases hz with rfl | rfl | rfl
   ·exact wg
   ·exact nA hy
   ·exact lits_wz _ UC
theorem uK:∀{ws:List Str},(∀z∈ws,Wz z)->(ws.map (λx:Str=>x.length)).sum<=20*ws.length
 | [],_=>by simp
 | a::l,h=>by
  have ih:=uK (ws:=l) λz hz=>h z (by simp [hz]);have:=(h a UC).1;rw [NM,Qq,NI];omega
theorem Mg{d:UD}(h:bL d):Pb (jT d)=true/\(jT d).length<=200:=by
 obtain⟨hl,hw⟩:=uJ h;have e:(jT d).cps.toList=lF 32 ((kn d).map λp=>p.cps.toList):=by
  unfold jT;rw [mQ,show Txt.join ⟨#[32]⟩ (kn d)=QL ⟨#[32]⟩ (kn d) from P6 _ _,pQ]
 refine⟨mZ.mpr λc hc=>?_,?_⟩
 ·rw [e] at hc;rcases uI hc with z | ⟨p,hp,z⟩
  ·rw [z];decide
  ·obtain⟨q,hq,rfl⟩:=Pa.mp hp;exact Tf (hw q hq |>.2 c z).2 Ce
 ·show(jT d).cps.size<=200;rw [<-NY,e];refine Oz (AI _ _) ?_;rw [Pt,NQ];have sm:=uK hw;have e2:(kn d).map (QU ∘ λp:Str=>p.cps.toList)=(kn d).map λx:Str=>x.length:=RO λz _=>NY;rw [e2];omega
def Mh:List UD->(UD->Prop)->Prop:=λds Q=>∃d,ds=[d]/\bL d/\Q (.str (jT d))
theorem Mi(T:Txt K mg t):aC P w K mg base CX0 6 t.a_Z t.d_Z ["deed"] (bf K Mh):=by
 have G_L:=@Lw P w _ _ base _ T;have G_Y:=@Ma P w _ _ base _ T;refine T.F_Z.F.okD KW (λds Q h=>?_) (λ_ _ _ _ H O ds Q E hr h=>?_)
 ·obtain⟨d,rfl,_⟩:=h;rfl
 ·obtain⟨d,rfl,hd,q⟩:=h;refine'⟨_,?A,?B⟩
  case A=>
   refine' ar ?C
   case' C=>generalize hG2:Ux _ _ _ _=eg2
   refine' aA ?D
   case' D=>subst hG2
   exact(qm aF (df (fe (kK (df (fe (bB (aa (aj aO aS (dv 0) ae) (aa (au G_L hr T.F_L (aa (aj aO aS (dv 0) ae) ah)) (aa (aj aO aS (dv 0) ae) ah)))))) (df (au G_Y hr T.F_Y (aa (aj aO aS (dv 0) ae) (aa (wm (df (dv 0)) (cF ae) fP) ah))))))))
  case B=>
  clear hr T G_L G_Y;have hw:=uJ hd;obtain⟨w,n,x,r,rfl,hn⟩:=n8 hd;walk_at "a";have sm:=uK hw.2;have hl:=hw.1;have e:kn (.tuple (.str w:: .int n:: .str x::r))=w::kA n::x::ml r:=rfl;rw [e] at sm hl;refine⟨n,rfl,hn.1,uH hn,λy m k D=>?_⟩;rw [uF D];refine⟨w,r,n,x,rfl,hd,_,rfl,?_,w::kA n::x::ml r,rfl,?_,q⟩
  ·rw [NQ];simp only [NI] at hl;omega
  ·rw [AD];omega
local macro_rules | `(tactic| walk_at "d") =>rzT "sH ve vh vg vf sJ nJ nI tC oX vw rI mq rU vy vz oq sR tB uV uW uX va vb vc vd rA rz sV rB vE vF qZ p7 qY vm vn BE BF BG BH BI BJ BK BL bV ck bW L2.start NM Od NI N7 NO N4 N8 NZ OD OE OM ON OO NU NS N5 N6 N9 exists_eq_left' exists_eq_left exists_and_left exists_and_right V.int.injEq V.bl.injEq V.str.injEq V.ref.injEq NP and_true true_and OP exists_const decide_eq_true_eq OQ OR OH OI N0 decide_eq_false_iff_not and_assoc bC Oi Oc Oj L2.cxK L2.cmK or_true true_or sS if_true if_false N1 Oa not_true_eq_false not_false_eq_true OK OA ite_true ite_false eq_self L2.E0 exists_eq forall_eq'"
def kM(z:Str):UD:=match lQ z with
 | some k=>.int k
 | none=>.none
def Mj:List UD->(UD->Prop)->Prop:=λds Q=>∃z:Str,ds=[.str z]/\z.length<=1000/\Q (kM z)
theorem Mk(T:Txt K mg t):aC P w K mg base CX0 5 t.a_b t.d_b ["word"] (bf K Mj):=by
 have G_N:=@LA P w _ _ base _ T;refine T.F_b.F.ok KZ (λvs H Q E h=>?_) (λcdv A outer s H vs Q E hr h=>?_)
 ·obtain⟨O,ds,Qd,_,r,⟨d,rfl,_⟩,_⟩:=h;exact r.length
 ·obtain⟨O,ds,Qd,tr,r,⟨z,rfl,hz,q⟩,k⟩:=h;obtain⟨v,rfl,r1⟩:∃v,vs=[v]/\Dt K H O v (.str z):=by
   cases r with
   | cons r1 r2=>cases r2;exact⟨_,rfl,r1⟩
  refine'⟨_,?A,?B⟩
  case A=>
   refine' kh ?C
   case C=>exact(Kw (C:=t.u_NoText) G_N (hr.mono Ce) rfl T.F_N.m T.F_N.kp T.F_N.b (λE'=>(aN (pv 0) bF)) rfl rfl T.c_NoText rfl T.xm_NoText.seen T.xm_NoText.seen Ce T.i_NoText_NoText (λe=>(kh (kG oW))))
  case B=>
  walk_at "d";have ha:Ef (.str z):=And.intro (λx h=>by cases h) (λy h=>by cases h;exact hz);refine⟨_,rfl,O,[.str z],λx=>x=kM z,λn=>lQ z=none,tr,.cons r1 .nil,⟨_,rfl,ha,λk hk=>?_,λh=>h⟩,?_,?_⟩
  ·unfold kM;rw [show lQ z=some k from hk]
  ·rintro x v2 H2 rfl s2 r2;exact k _ _ _ q s2 r2
  ·rintro n hn dd H2 s2 hdd;refine⟨rfl,λe he=>?_⟩;walk_at "d";have e0:kM z= .none:=by unfold kM;rw [hn]
   rw [e0] at q;exact k _ _ _ q (s2.trans (ao.new he)) .non
def AJ(a:Nat):List Nat:=[48+a]
def AK(a:Nat):List Nat:=[48+a / 100,48+a / 10 % 10,48+a % 10]
theorem Ml:∀m:Fin 10,intText? ⟨(AJ m.val).toArray⟩=some (m.val:Int):=td
theorem Mm:∀m:Fin 1000,intText? ⟨(AK m.val).toArray⟩=some (m.val:Int):=td
theorem AL{z:Str}{k:Int}(h:bG z k=true)(h1:1<=k)(h3:k<=3):∃y:Nat,y < 1000/\intText? z=some (y:Int):=by
 unfold bG at h;rw [Oh,decide_eq_true_eq,Pf] at h;obtain⟨hl,hm⟩:=h;have hz:z.cps.toList.length=1\/z.cps.toList.length=2\/z.cps.toList.length=3:=by rw [show z.cps.toList.length=z.length from NY];omega
 have fm:∀x∈z.cps.toList,48<=x/\x < 58:=λx hx=>sA (by simpa using hm x hx)
 match e:z.cps.toList with
 | [a]=>
  have ha:=fm a (by rw [e];simp);have e1:[a]=AJ (a - 48):=by unfold AJ;rw [NP];exact⟨Uy,rfl⟩
  exact⟨a - 48,Uy,by rw [pU e,e1];exact Ml ⟨a - 48,Uy⟩⟩
 | [a,b]=>
  have ha:=fm a (by rw [e];simp);have hb:=fm b (by rw [e];simp);have e1:[a,b]=d2 ((a - 48)*10+(b - 48)):=by unfold d2;rw [NP,NP];exact⟨Uy,Uy,rfl⟩
  exact⟨(a - 48)*10+(b - 48),Uy,by rw [pU e,e1];exact qz ⟨_,Uy⟩⟩
 | [a,b,c]=>
  have ha:=fm a (by rw [e];simp);have hb:=fm b (by rw [e];simp);have hc:=fm c (by rw [e];simp);have e1:[a,b,c]=AK ((a - 48)*100+(b - 48)*10+(c - 48)):=by unfold AK;rw [NP,NP,NP];exact⟨Uy,Uy,Uy,rfl⟩
  exact⟨(a - 48)*100+(b - 48)*10+(c - 48),Uy,by rw [pU e,e1];exact Mm ⟨_,Uy⟩⟩
 | []=>rw [e] at hz;simp at hz
 | _::_::_::_::r=>rw [e] at hz;simp at hz
def sF(z:Str):Prop:=1<=z.length/\z.length<=3/\bG z (z.length:Int)=true/\¬(1 < z.length/\z.cps.toList.headD 48=48)
instance {z:Str}:Decidable (sF z):=by unfold sF;infer_instance
def nB(z:Str):UD:=if sF z then .int (nv z) else .none
def Mo:List UD->(UD->Prop)->Prop:=λds Q=>∃z:Str,ds=[.str z,.int 3]/\z.length<=1000/\Q (nB z)
theorem Mp(T:Txt K mg t):aC P w K mg base CX0 2 t.a_a t.d_a ["word","figures"] (bf K Mo):=by
 have G_M:=@D9 P w _ _ base _ T;refine T.F_a.F.okD KY (λds Q h=>?_) (λ_ _ _ _ H O ds Q E hr h=>?_)
 ·obtain⟨m,rfl,_⟩:=h;rfl
 ·obtain⟨z,rfl,hz,q⟩:=h;refine'⟨_,?A,?B⟩
  case A=>
   refine' ai ?C ?D
   case C=>
    refine' aL ?E ?F aK
    case E=>exact(PW.pt (kB (kr (oC jY jY bQ bQ (df ae) (df (PE.imp (aT mS rfl T.n_len Of (aw (dv 0) az)) (aE nh))) (df (dv 1)))) (lh (kr (cn (au G_M hr T.F_M (aa (dv 0) (aa (PE.imp (aT mS rfl T.n_len Of (aw (dv 0) az)) (aE nh)) ah))))))))
    case F=>refine' ar (aA ku)
   case' D=>refine' ar ?G
   case' G=>refine' aA ?H
   case H=>exact(tE (PW.pt (kQ (aI oY bQ (PE.imp (aT mS rfl T.n_len Of (aw (dv 0) az)) (aE nh)) ae (aB _)) (md (aI (ki hr) kj (aj sY tJ (dv 0) ae) aF (aB _))))) ku (PE.imp (cw qv rfl T.n_int mI (aw (dv 0) az)) (aE qw)))
  case B=>
  clear hr T G_M;simp only [Ea,true_and,↓iX,↓ja,↓jb,↓jd,↓je,↓jf,↓jg,↓iY,↓ff,↓iy,↓jJ,↓jK,↓jL,↓jM,↓jN,↓jO,↓iz,↓iA,↓iB,↓iC,↓iD,↓iE,↓iF,↓iG,↓iH,↓iI,↓iJ,↓iK,↓iL,↓iM,↓iN,↓iO,↓iP,↓iQ,↓iR,↓iS,↓iT,↓iU,↓iV,↓iW,cT,cU,cX,cW,fC,fD,cV,cY,cZ,dm,dn,fL,cL,dC,bA,dI,dD,dE,dF,fR,dG,bX,dX,dW,dJ,dH,dL,cC,cM,fz,cx,cm,bK,cN,cO,cP,cQ,fA,cR,cS,cq,cu,fB,gz,gA,gB,gC,gD,gE,gF,gG,gH,gI,gJ,gK,gL,gM,gN,gO,gP,gQ,gR,gS,gT,gU,gW,gX,gY,gZ,g6,g9,hG,hJ,hV,hW,hX,hZ,ic,ie,ig,ij,ik,il,ip,iq,iu,eT,dO,fQ,dY,cI,fT,d7,dM,dN,dP,dQ,dR,dS,dU,cG,dZ,d3,d6,bU,fM,fN,fO,fE,fF,fG,fH,dz,fJ,dA,fK,eN,eR,gs,gu,gx,gr,gy,eG,eJ,eL,eM,bY,eQ,eO,eD,eF,eV,eX,eY,eZ,cb,iw,ix,i3,iZ,i4,i5,i6,i8,i9,fg,fh,jk,ji,jj,jh,jq,jl,jm,jn,jo,cJ,fj,jv,jw,jr,jt,ju,jx,jy,jz,fk,jA,jB,jD,jE,fq,jF,jG,jH,jC,jI,ft,fu,fv,fw,jP,jQ,jR,bP,gc,gf,gh,gi,gj,gk,gm,gn,gp,ne_eq,b0,fX,fY,fZ,gb,fU,fV,fW,cD,cE,dB,c7,dj,di,dh,bT,bR,bg,bV,ck,bW,NM,Od,NI,N7,NO,N4,N8,NZ,OD,OE,OM,ON,OO,NU,NS,Oc,N5,N6,N9,exists_eq_left',exists_eq_left,exists_and_left,exists_and_right,Oi,Oj,Sl.v.injEq,Sl.o.injEq,Sl.k.injEq,Ot,Om,Ou,Oe,Oo,NP,and_true,true_and,OP,Ov,exists_const,decide_eq_true_eq,OQ,OR,OH,OI,N0,decide_eq_false_iff_not,and_assoc,or_true,true_or,↓reduceIte,if_true,if_false,N1,Oa,not_true_eq_false,not_false_eq_true,OK,OA,ite_true,ite_false,eq_self,exists_eq,reduceCtorEq,false_and,and_false,or_false,false_or,exists_false,Ox,Oy,cj,OG,OU,OC,OV,N3,OB,Ob,OL,aV,bp,bS,cH,d8,br,ei,er,beq_self_eq_true,d9,eg,fS,bx,UT];have hl:z.cps.toList.length=z.length:=NY;have no:¬sF z->Q .none:=λh=>by unfold nB at q;rw [Uz h] at q;exact q
  refine⟨Uy,?_⟩;split
  ·rename_i h1;split
   ·rename_i h2;exact no λh=>by have:=h.2.1;omega
   ·rename_i h2;refine⟨Uy,Uy,?_⟩;by_cases hf:bG z (z.length:Int)=true
    ·rw [Uz (by rw [hf];decide)];refine⟨Uy,?_⟩;obtain⟨y,y1,y2⟩:=AL hf h1 Uy;have fin:¬(1 < z.length/\z.cps.toList.headD 48=48)->∃x,intText? z=some x/\z.length<=640/\Q (.int x):=λh=>by
      have g:sF z:=⟨Uy,Uy,hf,h⟩;unfold nB at q;rw [UA g] at q;exact⟨_,y2,Uy,by unfold nv at q;rw [y2] at q;exact q⟩
     split
     ·rename_i h3;refine⟨Uy,?_⟩
      match e:z.cps.toList with
      | []=>rw [e] at hl;simp at hl;omega
      | c::r=>
       refine⟨c,aV,?_⟩;by_cases hc:c=48
       ·rw [UA (by rw [hc];decide+kernel)];exact no λh=>h.2.2.2 ⟨Uy,by rw [e,hc];rfl⟩
       ·rw [Uz λz=>hc (by
         have z:=eq_of_beq z;rw [show NF "0"=⟨#[48]⟩ by decide+kernel] at z;simpa using z)]
        exact fin λh=>hc (by have:=h.2;rw [e] at this;exact this)
     ·rename_i h3;exact fin λh=>h3 Uy
    ·rw [UA (by simpa using hf)];exact no λh=>hf h.2.2.1
  ·rename_i h1;exact no λh=>by have:=h.1;omega
theorem Ey{xs:List UD}{k:Nat}:bw xs none (some (k:Int))=xs.take k:=by
 by_cases h:k<=xs.length
 ·rw [pE Uy Uy,O8]
 ·unfold bw;have e:HT.sIx xs.length xs.length (some (k:Int))=xs.length:=by
   simp only [HT.sIx];rw [Uz Uy,O8];omega
  rw [ph,SI,Uh,e,Pn (NT _),Pn Uy]
theorem Mq{xs:List UD}{k:Nat}:bw xs (some (k:Int)) none=xs.drop k:=by
 by_cases h:k<=xs.length
 ·rw [pF Uy Uy,O8]
 ·unfold bw;have e:HT.sIx xs.length 0 (some (k:Int))=xs.length:=by
   simp only [HT.sIx];rw [Uz Uy,O8];omega
  rw [e,RA (NT _),RA Uy,List.take_nil]
theorem uL{ws:List Str}{k:Nat}:bw (ws.map NH) none (some (k:Int))=(ws.take k).map .str:=by rw [Ey,RF]
theorem oS{ws:List Str}{k:Nat}:bw (ws.map NH) (some (k:Int)) none=(ws.drop k).map .str:=by rw [Mq,S0]
theorem Ez:∀{ws:List Str},(∀z∈ws,Pb z=true)->Py (ws.map .str)=true/\QR (ws.map .str)=0
 | [],_=>⟨rfl,rfl⟩
 | z::r,h=>by
  obtain⟨a,b⟩:=Ez (ws:=r) λy hy=>h y (by simp [hy]);rw [NM,Py,QR,a,b,Pc,h z UC];exact⟨rfl,rfl⟩
theorem pX{ws:List Str}(h:∀z∈ws,Pb z=true):P8 (.list (ws.map .str))=true/\P8 (.tuple (ws.map .str))=true:=by
 obtain⟨a,b⟩:=Ez h;unfold P8;rw [Pc,Pc,Si,Si,a,b];exact⟨rfl,rfl⟩
theorem uM:∀{a b:List Str},Pk (a.map .str) (b.map .str)=decide (a=b)
 | [],[]=>by simp [Pk]
 | [],_::_=>by simp [Pk]
 | _::_,[]=>by simp [Pk]
 | x::a,y::b=>by
  rw [NM,NM,Pk,br,uM,P5];simp
def kX(ws:List Str):List UD:=ws.map .str
def qN:List Str->UD
 | [a,b,c,d,e]=>.tuple [.str a,.str b,.tuple (kX (Txt.split c (NF ":"))),nB d,.str e]
 | ws=>.tuple (kX ws)
def Mr:List UD->(UD->Prop)->Prop:=λds Q=>∃ws:List Str,ds=[.list (kX ws)]/\ws.length<=1002/\(∀z∈ws,z.length<=1000)/\Q (qN ws)
theorem Ms(T:Txt K mg t):aC P w K mg base CX0 3 t.a_c t.d_c ["words"] (bf K Mr):=by
 have G_a:=@Mp P w _ _ base _ T;refine T.F_c.F.okD K0 (λds Q h=>?_) (λ_ _ _ _ H O ds Q E hr h=>?_)
 ·obtain⟨p,rfl,_⟩:=h;rfl
 ·obtain⟨ws,rfl,hl,hw,q⟩:=h;refine'⟨_,?A,?B⟩
  case A=>
   refine' ai ?C ?D
   case C=>
    refine' aL ?E ?F aK
    case E=>exact(aI (mV hr.units) mW (PE.imp (aT jZ rfl T.n_len Of (aw (dv 0) az)) (aE j9)) ae (aB _))
    case' F=>refine' ar ?G
    case G=>exact(aA (PE.imp (cw mH rfl T.n_tuple lz (aw (dv 0) az)) (aE mL)))
   case' D=>refine' ar ?H
   case' H=>generalize hG6:Expr.Tuple _ _ _=eg6
   refine' aA ?I
   case' I=>subst hG6
   refine' cy ?J
   case' J=>refine' aa ?K ?L
   case K=>exact(aj aM aR (dv 0) ae)
   case' L=>refine' aa ?M ?N
   case M=>exact(aj aM aR (dv 0) ae)
   case' N=>refine' aa ?O ?P
   case O=>exact(PE.imp (cw mH rfl T.n_tuple lz (aw (fe (pO (aj aM aR (dv 0) ae) aF)) az)) (aE mL))
   case' P=>refine' aa ?Q ?R
   case Q=>exact(au G_a hr T.F_a (aa (aj aM aR (dv 0) ae) (aa (dc (jX rfl T.c_MANY_FIGURES T.r_MANY_FIGURES) (λ_ _=>.int _)) ah)))
   case' R=>refine' aa ?S ah
   case S=>exact(aj aM aR (dv 0) ae)
  case B=>
  clear hr T G_a;unfold kX;walk_at "a"
  match ws,hl,hw,q with
  | [a,b,c,d,e],hl,hw,q=>
   rw [Uz UC];simp only [true_and,and_true,↓iX,↓ja,↓jb,↓jd,↓je,↓jf,↓jg,↓iY,↓ff,↓iy,↓jJ,↓jK,↓jL,↓jM,↓jN,↓jO,↓iz,↓iA,↓iB,↓iC,↓iD,↓iE,↓iF,↓iG,↓iH,↓iI,↓iJ,↓iK,↓iL,↓iM,↓iN,↓iO,↓iP,↓iQ,↓iR,↓iS,↓iT,↓iU,↓iV,↓iW,cT,cU,cX,cW,fC,fD,cV,cY,cZ,dm,dn,fL,cL,dC,bA,dI,dD,dE,dF,fR,dG,bX,dX,dW,dJ,dH,dL,cC,cM,fz,cx,cm,bK,cN,cO,cP,cQ,fA,cR,cS,cq,cu,fB,gz,gA,gB,gC,gD,gE,gF,gG,gH,gI,gJ,gK,gL,gM,gN,gO,gP,gQ,gR,gS,gT,gU,gW,gX,gY,gZ,g6,g9,hG,hJ,hV,hW,hX,hZ,ic,ie,ig,ij,ik,il,ip,iq,iu,eT,dO,fQ,dY,cI,fT,d7,dM,dN,dP,dQ,dR,dS,dU,cG,dZ,d3,d6,bU,fM,fN,fO,fE,fF,fG,fH,dz,fJ,dA,fK,eN,eR,gs,gu,gx,gr,gy,eG,eJ,eL,eM,bY,eQ,eO,eD,eF,eV,eX,eY,eZ,cb,iw,ix,i3,iZ,i4,i5,i6,i8,i9,fg,fh,jk,ji,jj,jh,jq,jl,jm,jn,jo,cJ,fj,jv,jw,jr,jt,ju,jx,jy,jz,fk,jA,jB,jD,jE,fq,jF,jG,jH,jC,jI,ft,fu,fv,fw,jP,jQ,jR,bP,gc,gf,gh,gi,gj,gk,gm,gn,gp,ne_eq,b0,fX,fY,fZ,gb,fU,fV,fW,cD,cE,dB,c7,dj,di,dh,bT,bR,bg,bV,ck,bW,NM,Od,NI,N7,NO,N4,N8,NZ,OD,OE,OM,ON,OO,NU,NS,Oc,N5,N6,N9,exists_eq_left',exists_eq_left,exists_and_left,exists_and_right,Oi,Oj,Sl.v.injEq,Sl.o.injEq,Sl.k.injEq,Ot,Om,Ou,Oe,Oo,NP,and_true,true_and,OP,Ov,exists_const,decide_eq_true_eq,OQ,OR,OH,OI,N0,decide_eq_false_iff_not,and_assoc,or_true,true_or,↓reduceIte,if_true,if_false,N1,Oa,not_true_eq_false,not_false_eq_true,OK,OA,ite_true,ite_false,eq_self,exists_eq,reduceCtorEq,false_and,and_false,or_false,false_or,exists_false,Ox,Oy,cj,OG,OU,OC,OV,N3,OB,Ob,OL,aV,bp,bS,cH,d8,br,ei,er,beq_self_eq_true,d9,eg,fS,bx,UT];have hc:=hw c UC;have hd:=hw d UC;exact⟨td,Uy,d,rfl,hd,q⟩
  | [],_,_,q=>rw [UA UC];exact q
  | [_],_,_,q=>rw [UA UC];exact q
  | [_,_],_,_,q=>rw [UA UC];exact q
  | [_,_,_],_,_,q=>rw [UA UC];exact q
  | [_,_,_,_],_,_,q=>rw [UA UC];exact q
  | _::_::_::_::_::_::r,_,_,q=>rw [UA (by simp;omega)];exact q
def mE(w:Str)(ws:List Str):List UD:=
 if w="paper" then kX (ws.take 1)++[.tuple (kX (ws.drop 1))]
 else if w="rule" then [qN ws]
 else if w="hold" then [.tuple (kX (ws.take 2)),.bool (decide (ws.drop 2=[NF "deep"]))]
 else kX ws
def Mt:List UD->(UD->Prop)->Prop:=λds Q=>∃(w:Str)(ws:List Str),ds=[.str w,.list (kX ws)]/\ws.length<=1002/\(∀z∈ws,z.length<=1000/\Pb z=true)/\Q (.tuple (mE w ws))
theorem Mu(T:Txt K mg t):aC P w K mg base CX0 4 t.a_d t.d_d ["word","words"] (bf K Mt):=by
 have G_c:=@Ms P w _ _ base _ T;refine T.F_d.F.okD K1 (λds Q h=>?_) (λ_ _ _ _ H O ds Q E hr h=>?_)
 ·obtain⟨w,ws,rfl,_⟩:=h;rfl
 ·obtain⟨w,ws,rfl,hl,hw,q⟩:=h;refine'⟨_,?A,?B⟩
  case A=>
   refine' ai ?C ?D
   case C=>
    refine' aL ?E ?F aK
    case E=>exact(aI (ki hr) kj (dv 0) aF (aB _))
    case' F=>refine' ar ?G
    case' G=>refine' aA ?H
    case' H=>refine' aP nj nk ?I ?J
    case I=>exact(PE.imp (cw mH rfl T.n_tuple lz (aw (fe (kC (df (dv 1)) fP (cF ae))) az)) (aE mL))
    case J=>exact(cy (aa (PE.imp (cw mH rfl T.n_tuple lz (aw (fe (kC (df (dv 1)) (cF ae) fP)) az)) (aE mL)) ah))
   case' D=>refine' ai ?K ?L
   case K=>
    refine' aL ?M ?N aK
    case M=>exact(aI (ki hr) kj (dv 0) aF (aB _))
    case' N=>refine' ar ?O
    case O=>exact(aA (cy (aa (au G_c hr T.F_c (aa (dv 1) ah)) ah)))
   case' L=>refine' ai ?P ?Q
   case P=>
    refine' aL ?R ?S aK
    case R=>exact(aI (ki hr) kj (dv 0) aF (aB _))
    case' S=>refine' ar ?T
    case' T=>refine' aA ?U
    case' U=>refine' cy ?V
    case' V=>refine' aa ?W ?X
    case W=>exact(PE.imp (cw mH rfl T.n_tuple lz (aw (fe (kC (df (dv 1)) fP (cF ae))) az)) (aE mL))
    case' X=>refine' aa ?Y ah
    case Y=>exact(j5 (j7 hr.units) j8 (df (fe (kC (df (dv 1)) (cF ae) fP))) (df (fe (bB (aa aF ah)))) (aB _))
   case' Q=>refine' ar ?Z
   case Z=>exact(aA (PE.imp (cw mH rfl T.n_tuple lz (aw (dv 1) az)) (aE mL)))
  case B=>
  clear hr T G_c;unfold kX;walk_at "a";have t1:bw (ws.map NH) none (some 1)=(ws.take 1).map .str:=uL (k:=1);have t2:bw (ws.map NH) none (some 2)=(ws.take 2).map .str:=uL (k:=2);have d1:bw (ws.map NH) (some 1) none=(ws.drop 1).map .str:=oS (k:=1);have d2:bw (ws.map NH) (some 2) none=(ws.drop 2).map .str:=oS (k:=2);rw [t1,t2,d1,d2];unfold mE kX at q;have bq:∀{u v:Str},(u==v)=true↔u=v:=beq_iff_eq;simp only [bq];split
  ·rename_i h;rw [UA h] at q;exact⟨by rw [NQ,Pm];omega,q⟩
  ·rename_i h;rw [Uz h] at q;split
   ·rename_i h2;rw [UA h2] at q;exact⟨ws,rfl,hl,λz hz=>(hw z hz).1,q⟩
   ·rename_i h2;rw [Uz h2] at q;split
    ·rename_i h3;rw [UA h3] at q;refine⟨(pX λz hz=>(hw z (P0 hz)).2).1,td,?_⟩;rw [show((O6 ((ws.drop 2).map .str)).eqv (O6 [NH (NF "deep")]))=decide (ws.drop 2=[NF "deep"]) by rw [NR];exact uM (b:=[NF "deep"])];exact q
    ·rename_i h3;rw [Uz h3] at q;exact q
def sG:List Str->UD
 | w::b::x::more=>.tuple ([.str w,kM b,.str x]++mE w more)
 | _=>.none
theorem Mv(d:Int):∃y m n,k8 d y m n:=by
 have yo:=Dc d;generalize pP d=y at yo;have key:∀k:Nat,k<=12->d - bb y < aH y ((k:Int)+1)->∃mo:Int,1<=mo/\mo<=12/\aH y mo<=d - bb y/\d - bb y < aH y (mo+1):=λk=>by
  induction k with
  | zero=>intro _ h;rw [show((0:Nat):Int)+1=1 from rfl,qy] at h;omega
  | succ k ih=>
   intro hk h;by_cases z:d - bb y < aH y ((k:Int)+1)
   ·exact ih Uy z
   ·exact⟨(k:Int)+1,Uy,Uy,Uy,by rw [show((k+1:Nat):Int)+1=(k:Int)+1+1 by omega] at h;exact h⟩
 have ys:=tX y;have ba:=se y;obtain⟨mo,m1,m2,h1,h2⟩:=key 12 (NT _) (by rw [show((12:Nat):Int)+1=13 from rfl];omega);have bs:=kU (y:=y) m1;exact⟨y,mo,d - bb y - aH y mo+1,m1,m2,Uy,Uy,by unfold lE;omega⟩
theorem EA{n:Int}(h:kT n):lQ (kA n)=some n:=by
 obtain⟨y,m,k,D⟩:=Mv n;have hy:=t6 D h.1 (uH h);have hb:=qx (y:=y) D.m1 D.m12;have:=D.m1;have:=D.m12;have:=D.n1;have:=D.nl;have e1:=wZ (y:=y.toNat) Uy Uy;have e2:=qz ⟨m.toNat,Uy⟩;have e3:=qz ⟨k.toNat,Uy⟩;simp only [QM (show 0<=y by omega),QM (show 0<=m by omega),QM (show 0<=k by omega)] at e1 e2 e3;rw [<-uF D];unfold lQ;rw [JA];have v1:nv ⟨(d4 y.toNat).toArray⟩=y:=by unfold nv;rw [e1];rfl
 have v2:nv ⟨(d2 m.toNat).toArray⟩=m:=by unfold nv;rw [e2];rfl
 have v3:nv ⟨(d2 k.toNat).toArray⟩=k:=by unfold nv;rw [e3];rfl
 have en:lE y m k=n:=D.eq;dsimp only;rw [v1,v2,v3,en,UA ⟨Ly Uy,Eb Uy,Eb Uy,⟨Uy,Uy,Uy,Uy,Uy,Uy⟩,h.2⟩]
theorem Mw{n:Int}(h:kT n):kM (kA n)= .int n:=by unfold kM;rw [EA h]
theorem Mx{m:Int}(h0:0<=m)(h1:m<=999):nB (ke m)= .int m:=by
 obtain⟨⟨l1,l2⟩,f1,f2,_⟩:=AG h0 h1;have rd:intText? (ke m)=some m:=by
  obtain⟨k,rfl⟩:=OX h0;exact SO Uy Uy
 unfold nB;rw [UA ⟨l2,l1,f1,λh=>f2 h.1 h.2⟩];unfold nv;rw [rd];rfl
theorem My{p:UD}(h:mf p):qN (lG p)=p:=by
 cases h with
 | wfl hw hk=>rfl
 | kg hw hk hs h0 h1 hu=>
  have hw:=AH hs;show O5 [_,_,.tuple (kX (Txt.split (Txt.join (NF ":") (jV _)) (NF ":"))),nB (ke _),_]=_;rw [qM,AF hw.1 λz hz=>(hw.2 z hz).2.1,Mx h0 h1];unfold kX;rw [<-(uG hs).1]
theorem Mz{w:Str}{n:Int}{x:Str}{r:List UD}(h:bL (.tuple (.str w:: .int n:: .str x::r))):mE w (ml r)=r:=by
 have nw:∀{u v:Str}{l:List Str},u∈l->(∀z∈l,z≠v)->¬u=v:=λh h2=>h2 _ h;have n1:¬(NF "rule"=NF "paper"):=td
 have n2:¬(NF "hold"=NF "paper"):=td
 have n3:¬(NF "hold"=NF "rule"):=td
 unfold mE;cases h with
 | @paper _ _ k ms _ _ _ hm=>
  have e:ml [NH k,O5 (Pe NH ms)]=k::ms:=by
   show k::oR (.tuple (ms.map .str))=_;rw [qL]
  rw [e,UA rfl];rfl
 | two hw=>rw [Uz (nw hw td),Uz (nw hw td),Uz (nw hw td)];rfl
 | rule _ _ hp=>
  rw [Uz n1,UA rfl];have e:∀{p:UD},mf p->ml [p]=lG p:=λh=>by cases h <;> rfl
  rw [e hp,My hp]
 | one hw=>rw [Uz (nw hw td),Uz (nw hw td),Uz (nw hw td)];rfl
 | @hold _ _ g y b=>
  rw [Uz n2,Uz n3,UA rfl];have dd:(decide (([]:List Str)=[NF "deep"]))=false:=td
  have de:(decide (([NF "deep"]:List Str)=[NF "deep"]))=true:=td
  cases b
  ·show [_,RB (decide (([]:List Str)=[NF "deep"]))]=_;rw [dd];rfl
  ·show [_,RB (decide (([NF "deep"]:List Str)=[NF "deep"]))]=_;rw [de];rfl
theorem qO{d:UD}(h:bL d):Txt.split (jT d) (NF " ")=kn d/\sG (kn d)=d:=by
 have hw:=uJ h;obtain⟨w,n,x,r,rfl,hn⟩:=n8 h;constructor
 ·unfold jT;rw [mQ];exact AF (by simp [kn]) λz hz=>Mb (hw.2 z hz)
 ·show O5 ([.str w,kM (kA n),.str x]++mE w (ml r))=_;rw [Mw hn,Mz h];rfl
theorem uN{c:Nat}{z p:Str}(h:p∈Txt.split z ⟨#[c]⟩):p.length<=z.length:=by
 have h2:p.cps.toList∈km c z.cps.toList:=by
  rw [<-qB];exact Pa.mpr ⟨p,h,rfl⟩
 have:=sE _ h2;have e1:p.cps.toList.length=p.length:=NY;have e2:z.cps.toList.length=z.length:=NY;omega
theorem uO{c:Nat}:∀{l:List Nat},∀p∈km c l,∀x∈p,x∈l
 | [],p,h,x,hx=>by simp [km] at h;rw [h] at hx;cases hx
 | a::xs,p,h,x,hx=>by
  unfold km at h;split at h
  ·rcases NN.mp h with e | h
   ·rw [e] at hx;cases hx
   ·exact OY _ (uO p h x hx)
  ·split at h
   ·rename_i e;exact absurd e (xF c xs)
   ·rename_i q qs e;rcases NN.mp h with e2 | h
    ·rw [e2] at hx;rcases NN.mp hx with e3 | hx
     ·rw [e3];simp
     ·exact OY _ (uO q (by rw [e];simp) x hx)
    ·exact OY _ (uO p (by rw [e];simp [h]) x hx)
theorem uP{c:Nat}{z p:Str}(hz:Pb z=true)(h:p∈Txt.split z ⟨#[c]⟩):Pb p=true:=by
 have h2:p.cps.toList∈km c z.cps.toList:=by
  rw [<-qB];exact Pa.mpr ⟨p,h,rfl⟩
 exact mZ.mpr λx hx=>mZ.mp hz x (uO _ h2 x hx)
def nF(z:Str):Prop:=z.length<=1000/\Pb z=true
theorem qP:∀{ws:List Str},(∀z∈ws,z.length<=1000)->lO (kX ws)=true
 | [],_=>rfl
 | z::r,h=>by
  show(bo (.str z) && lO (kX r))=true;rw [qP λy hy=>h y (by simp [hy]),N3];show decide (z.length<=1000)=true;exact decide_eq_true (h z UC)
theorem EB:∀{a b:List UD},lO a=true->lO b=true->lO (a++b)=true
 | [],_,_,h=>h
 | x::a,b,h,h2=>by
  have h:(bo x && lO a)=true:=h;rw [Oh] at h;show(bo x && lO (a++b))=true;rw [h.1,EB h.2 h2];rfl
theorem MA(z:Str):bo (kM z)=true:=by unfold kM;split <;> rfl
theorem MB(z:Str):bo (nB z)=true:=by unfold nB;split <;> rfl
theorem qQ{l:List UD}(h:lO l=true):bo (.tuple l)=true:=by simpa [bo] using h
theorem MC{ws:List Str}(h:∀z∈ws,z.length<=1000):bo (qN ws)=true:=by
 unfold qN;split
 ·rename_i a b c d e;have st:∀z∈[a,b,c,d,e],bo (.str z)=true:=λz hz=>decide_eq_true (h z hz);have tc:=qP (ws:=Txt.split c (NF ":")) λz hz=>by
   rw [qM] at hz;exact Oz (uN hz) (h c UC)
  refine qQ ?_;show(bo (.str a) && (bo (.str b) && (bo (.tuple _) && (bo (nB d) && (bo (.str e) && true)))))=true;rw [st a UC,st b UC,st e UC,MB,qQ tc];rfl
 ·exact qQ (qP h)
theorem MD{w:Str}{ws:List Str}(h:∀z∈ws,z.length<=1000):lO (mE w ws)=true:=by
 have tk:=λk=>qP (ws:=ws.take k) λz hz=>h z (PN hz);have dk:=λk=>qP (ws:=ws.drop k) λz hz=>h z (P0 hz);unfold mE;split
 ·exact EB (tk 1) (by show(bo (.tuple _) && true)=true;rw [qQ (dk 1)];rfl)
 ·split
  ·show(bo (qN ws) && true)=true;rw [MC h];rfl
  ·split
   ·show(bo (.tuple _) && (bo (.bool _) && true))=true;rw [qQ (tk 2)];rfl
   ·exact qP h
def ME:List UD->(UD->Prop)->Prop:=λds Q=>∃z,ds=[.str z]/\nF z/\(∀d,bL d->jT d=z->Q d)/\((∀d,bL d->jT d≠z)->Q .none)
theorem MF(T:Txt K mg t):aC P w K mg base CX0 7 t.a_e t.d_e ["row"] (bf K ME):=by
 have G_b:=@Mk P w _ _ base _ T;have G_d:=@Mu P w _ _ base _ T;have G_W:=@LO P w _ _ base _ T;have G_Z:=@Mi P w _ _ base _ T;refine T.F_e.F.okD Av (λds Q h=>?_) (λ_ _ _ _ H O ds Q E hr h=>?_)
 ·obtain⟨d,rfl,_⟩:=h;rfl
 ·obtain⟨z,rfl,hz,q1,q2⟩:=h;refine'⟨_,?A,?B⟩
  case A=>
   refine' ai ?C ?D
   case C=>exact(aJ (i:=1) Av.nd rfl UB (fe (pO (dv 0) aF)))
   case' D=>refine' ai ?E ?F
   case E=>
    refine' aL ?G ?H aK
    case G=>exact(aI qf bQ (PE.imp (aT jZ rfl T.n_len Of (aw (dv 1) az)) (aE j9)) ae (aB _))
    case H=>refine' ar (aA ku)
   case' F=>refine' ai ?I ?J
   case I=>
    generalize hG8:T3 _ _ _ _=eg8;refine' aJ (i:=2) Av.nd rfl UB ?K (hs:=by subst hG8;exact pM)
    case' K=>subst hG8
    refine' aP nj nk ?L ?M
    case L=>
     refine' cy ?N
     case' N=>refine' aa ?O ?P
     case O=>exact(aj aM aR (dv 1) ae)
     case' P=>refine' aa ?Q ?R
     case Q=>exact(au G_b hr T.F_b (aa (aj aM aR (dv 1) ae) ah))
     case' R=>refine' aa ?S ah
     case S=>exact(aj aM aR (dv 1) ae)
    case M=>exact(au G_d hr T.F_d (aa (aj aM aR (dv 1) ae) (aa (fe (kC (df (dv 1)) (cF ae) fP)) ah)))
   case' J=>refine' ar ?T
   case' T=>refine' aA ?U
   case U=>exact(tE (PW.pt (kQ (cn (au G_W hr T.F_W (aa (dv 2) ah))) (md (aI (ki hr) kj (au G_Z hr T.F_Z (aa (dv 2) ah)) (dv 0) (aB _))))) (dv 2) ku)
  case B=>
  clear hr T G_b G_d G_W G_Z;walk_at "a";have hd:∀d,bL d->jT d=z->sG (Txt.split z (NF " "))=d:=λd h e=>by
   rw [<-e,(qO h).1];exact(qO h).2
  have hb:∀p∈Txt.split z (NF " "),p.length<=1000/\Pb p=true:=λp hp=>by
   rw [mQ] at hp;exact⟨Oz (uN hp) hz.1,uP hz.2 hp⟩
  have hl:(Txt.split z (NF " ")).length<=1002:=Oz (Q3 z _) (by have:=hz.1;omega);refine⟨td,by have:=hz.1;omega,?_⟩;generalize Txt.split z (NF " ")=ws at*;have few:ws.length < 3->Q .none:=λh=>q2 λd hv e=>by
   have e:=hd d hv e;obtain⟨w,n,x,r,rfl,_⟩:=n8 hv
   match ws,h with
   | [],_=>cases e
   | [_],_=>cases e
   | [_,_],_=>cases e
  match ws with
  | []=>rw [UA UC];exact few UC
  | [_]=>rw [UA UC];exact few UC
  | [_,_]=>rw [UA UC];exact few UC
  | w::b::x::more=>
   clear few;rw [Uz (by simp only [NQ,NI];omega)];have ec:bw (Pe NH (w::b::x::more)) (some 3) none=kX more:=by
    rw [show bw (Pe NH (w::b::x::more)) (some 3) none=_ from oS (k:=3)];rfl
   rw [ec];have hm:∀z∈more,z.length<=1000/\Pb z=true:=λz hz=>hb z (by simp [hz]);have pl:(mE w more).length<=1004:=by
    simp only [NI] at hl;unfold mE kX;split
    ·rw [Pp,NQ,Pm];simp;omega
    ·split
     ·simp
     ·split
      ·simp
      ·rw [NQ];omega
   refine⟨.str w,aV,.str b,bp,b,rfl,(hb b UC).1,.str x,bS,.str w,aV,w,more,rfl,by simp only [NI] at hl;omega,hm,_,rfl,Uy,?_⟩;have ed:O5 (.str w::kM b:: .str x::mE w more)=sG (w::b::x::more):=rfl;rw [ed];have tg:bo (sG (w::b::x::more))=true:=by
    refine qQ ?_;show(bo (.str w) && (bo (kM b) && (bo (.str x) && lO (mE w more))))=true;rw [MA,MD λz hz=>(hm z hz).1,show bo (.str w)=true from decide_eq_true (hb w UC).1,show bo (.str x)=true from decide_eq_true (hb x UC).1];rfl
   refine⟨_,rfl,tg,_,rfl,?_⟩;generalize sG (w::b::x::more)=d0 at*;by_cases hv:lr d0=true
   ·rw [UA hv];have hv:=CB.mp hv;refine⟨d0,rfl,hv,rfl,?_⟩;rw [br];by_cases ee:jT d0=z
    ·rw [UA (by rw [ee];simp)];exact q1 d0 hv ee
    ·rw [Uz (by simpa using ee)];exact q2 λd h e=>ee (by rw [hd d h e];exact e)
   ·rw [Uz hv];exact q2 λd h e=>hv (by rw [hd d h e];exact CB.mpr h)
def MG:uk:=λds Q R=>∃d,ds=[d]/\(∀x,d≠ .dict [(.none,x)])/\(∀z,d= .str z->nF z)/\(∀e,bL e->d= .str (jT e)->Q e)/\((∀e,bL e->d≠ .str (jT e))->R 0)
theorem MH(T:Txt K mg t):aC P w K mg base (kc P w) 8 t.a_f t.d_f ["text"] (um K t.u_NoText "row" MG):=by
 have G_e:=@MF P w _ _ base _ T;have G_A:=@DN P w _ _ base _ T;refine T.F_f.F.okDXn DH (λds Q R h=>?_) (λcdv A outer s H O ds Q R E hr h hx=>?_)
 ·obtain⟨d,rfl,_⟩:=h;rfl
 ·obtain⟨d,rfl,hd,hz,q1,q2⟩:=h;refine'⟨_,?A,?B⟩
  case A=>
   refine' ai ?C ?D
   case C=>
    refine' aJ (i:=1) DH.nd rfl UB ?E (hs:=ID)
    case E=>exact(tE (cn (mi (K':=K) (T:="str") rfl rfl T.n_isinstance kZ (df (dv 0)) (lI (v:= .ty "str") rfl T.n_str mv rfl))) (au G_e hr T.F_e (aa (dv 0) ah)) ku)
   case' D=>refine' ai ?F ?G
   case F=>
    refine' aL ?H ?I aK
    case H=>exact(aI sQ wI (dv 1) ku (aB _))
    case' I=>refine' ar ?J
    case J=>exact(sg hx P2 T.xm_NoText G_A hr T.c_NoText T.F_A.b (aa ae ah))
   case' G=>refine' ar ?K
   case K=>exact(aA (dv 1))
  case B=>
  clear hr T hx G_e G_A;walk_at "a";simp only [wz];refine⟨_,rfl,hd,?_⟩;cases d with
  | str z=>
   rw [show rR (.str z)=true from rfl,UA rfl];refine⟨z,rfl,hz z rfl,λe he ee=>?_,λh=>?_⟩
   ·dsimp only;rw [Uz (by cases he <;> simp [mh])];exact q1 e he (by rw [ee])
   ·dsimp only;rw [UA Ce];exact⟨Ce,td,q2 λe he ee=>h e he (by injection ee with ee;exact ee.symm)⟩
  | _=>exact⟨Ce,td,q2 λe he ee=>by cases ee⟩
end
local macro_rules | `(tactic| walk_at "d") =>rzT "sH ve vh vg vf sJ nJ nI tC oX vw rI mq rU vy vz oq sR tB uV uW uX va vb vc vd rA rz sV rB vE vF qZ p7 qY vm vn BE BF BG BH BI BJ BK BL bV ck bW L2.start NM Od NI N7 NO N4 N8 NZ OD OE OM ON OO NU NS N5 N6 N9 exists_eq_left' exists_eq_left exists_and_left exists_and_right V.int.injEq V.bl.injEq V.str.injEq V.ref.injEq NP and_true true_and OP exists_const decide_eq_true_eq OQ OR OH OI N0 decide_eq_false_iff_not and_assoc bC Oi Oc Oj L2.cxK L2.cmK or_true true_or sS if_true if_false N1 Oa not_true_eq_false not_false_eq_true OK OA ite_true ite_false eq_self L2.E0 exists_eq forall_eq'"
open Day
theorem EC:cK (ay uu) ["_law_pack_here","_law_way","_law_year","_law_month","_law_last"] ["_law_k","_law_year"] 1 [2] ⟨OJ,[ (NL ".0",Ws),(NL "_law_k",Ws),(NL "_law_length",OS),(NL "_law_year",Pr)],false,false,[]⟩:= .of
section
variable {P:US} {w:UU} {K:NG} {mg:Str->Option UE} {base:UR} {t:k9}
theorem MI{y m:Int}(h1:1<=m)(h2:m<=12)(hm:m≠2):atI [NW 31,NW 29,NW 31,NW 30,NW 31,NW 30,NW 31,NW 31,NW 30,NW 31,NW 30,NW 31] (m - 1)=some (.int (aW y m)):=by
 have a:=tZ y;rcases wV h1 h2 with z | z | z | z | z | z | z | z | z | z | z | z <;> subst z
 ·rw [a.1];rfl
 ·exact absurd rfl hm
 ·rw [a.2.1];rfl
 ·rw [a.2.2.1];rfl
 ·rw [a.2.2.2.1];rfl
 ·rw [a.2.2.2.2.1];rfl
 ·rw [a.2.2.2.2.2.1];rfl
 ·rw [a.2.2.2.2.2.2.1];rfl
 ·rw [a.2.2.2.2.2.2.2.1];rfl
 ·rw [a.2.2.2.2.2.2.2.2.1];rfl
 ·rw [a.2.2.2.2.2.2.2.2.2.1];rfl
 ·rw [a.2.2.2.2.2.2.2.2.2.2];rfl
theorem ED{y:Int}(h:2000<=y):365*(y - 2000)<=bb y:=by unfold bb lb;omega
theorem pY(ss:List Str){i:Int}(h0:0<=i)(h1:i < ss.length):∃nm∈ss,atI (ss.map NH) i=some (.str nm):=by
 obtain⟨v,e,m⟩:=vV (xs:=ss.map NH) h0 (by rw [NQ];exact h1);obtain⟨nm,hn,rfl⟩:=Pa.mp m;exact⟨nm,hn,e⟩
theorem MJ:∀m:Fin 100,Txt.slice (NF (toString (100+(m.val:Int)))) (some 1) none=⟨(d2 m.val).toArray⟩/\(NF (toString (100+(m.val:Int)))).length=3:=td
theorem EF{m:Int}(h0:0<=m)(h1:m < 100):Txt.slice (NF (toString (100+m))) (some 1) none=⟨(d2 m.toNat).toArray⟩/\(NF (toString (100+m))).length=3:=by
 obtain⟨k,rfl⟩:=OX h0;exact MJ ⟨k,Uy⟩
theorem EG{y m n:Int}:Txt.join (NF "-") [⟨(d4 y.toNat).toArray⟩,⟨(d2 m.toNat).toArray⟩,⟨(d2 n.toNat).toArray⟩]=kW y m n:=by
 have e:NF "-"=⟨#[45]⟩:=td
 have h:(Txt.join (NF "-") [⟨(d4 y.toNat).toArray⟩,⟨(d2 m.toNat).toArray⟩,⟨(d2 n.toNat).toArray⟩]).cps.toList=(kW y m n).cps.toList:=by
  rw [e,show Txt.join ⟨#[45]⟩ [⟨(d4 y.toNat).toArray⟩,⟨(d2 m.toNat).toArray⟩,⟨(d2 n.toNat).toArray⟩]=QL ⟨#[45]⟩ _ from P6 _ _,pQ];simp [kW,qA,lF]
 have:=AE (a:=[_]) (b:=[_]) (congrArg (λl=>[l]) h);exact(List.cons.inj this).1
def EH:List UD->(UD->Prop)->Prop:=λds Q=>∃y m:Int,ds=[.int y,.int m]/\1<=m/\m<=12/\Q (.int (aW y m))
theorem AM(T:Txt K mg t):aC P w K mg base CX0 1 t.a_l t.d_l ["_law_year","_law_month"] (bf K EH):=by
 refine T.F_l.F.okD K4 (λds Q h=>?_) (λ_ _ _ _ H O ds Q E hr h=>?_)
 ·obtain⟨y,m,rfl,_⟩:=h;rfl
 ·obtain⟨y,m,rfl,h1,h2,q⟩:=h;refine'⟨_,?A,?B⟩
  case A=>
   refine' ai ?C ?D
   case C=>
    refine' aL ?E ?F aK
    case E=>exact(PW.pt (kQ (aI (j7 hr.units) j8 (dv 1) ae (aB _)) (md (PW.pt (kB (aI (mV hr.units) mW (aP nM my (dv 0) ae) ae (aB _)) (lh (PW.pt (kQ (aI (j7 hr.units) j8 (aP nM my (dv 0) ae) ae (aB _)) (md (aI (mV hr.units) mW (aP nM my (dv 0) ae) ae (aB _)))))))))))
    case F=>refine' ar (aA ae)
   case' D=>refine' ar ?G
   case' G=>generalize hE6_0:Qr _ _=ee6_0
   exact(aA (aj aM aR (fe (mM (ds:=[.int 31,.int 29,.int 31,.int 30,.int 31,.int 30,.int 31,.int 31,.int 30,.int 31,.int 30,.int 31]) (by first | (subst hE6_0;rfl)))) (aP kO bO (dv 1) ae)))
  case B=>
  clear hr T;walk_at "a";have tb:=MI (y:=y) h1 h2;by_cases hm:m=2
  ·subst hm;have l1:=wR y;have e2:=wU y;have t29:mO y=true->∃d,atI [NW 31,NW 29,NW 31,NW 30,NW 31,NW 30,NW 31,NW 31,NW 30,NW 31,NW 30,NW 31] (2 - 1)=some d/\Q d:=λh=>⟨.int 29,rfl,by rw [e2] at q;unfold ld at q;rw [h] at q;exact q⟩;have t28:¬mO y=true->Q (.int 28):=λh=>by rw [e2] at q;unfold ld at q;rw [Uz h] at q;exact q
   rw [UA Ce];split
   ·rename_i h4;exact t28 (by rw [l1];simp at h4;omega)
   ·rename_i h4;simp at h4;split
    ·rename_i h5;simp at h5;split
     ·rename_i h6;exact t28 (by rw [l1];simp at h6;omega)
     ·rename_i h6;exact t29 (l1.mpr (by simp at h6;omega))
    ·rename_i h5;exact t29 (l1.mpr (by simp at h5;omega))
  ·rw [Uz (by simpa using hm)];exact⟨_,tb hm,q⟩
def EI:List UD->(UD->Prop)->Prop:=λds Q=>∃y:Int,ds=[.int y]/\Q (.int (bb y))
theorem AN(T:Txt K mg t):aC P w K mg base CX0 1 t.a_m t.d_m ["_law_year"] (bf K EI):=by
 refine T.F_m.F.okD DJ (λds Q h=>?_) (λ_ _ _ _ H O ds Q E hr h=>?_)
 ·obtain⟨y,rfl,_⟩:=h;rfl
 ·obtain⟨y,rfl,q⟩:=h;refine'⟨_,?A,?B⟩
  case A=>
   refine' ai ?C ?D
   case C=>exact(aJ (i:=1) DJ.nd rfl UB (aP kO bO (dv 0) ae))
   case' D=>refine' ar ?E
   case' E=>generalize hG4:T3 _ _ _ _=eg4
   refine' aA ?F
   case' F=>subst hG4
   exact(aP bN bO (aP kO bO (aP bN bO (aP qc my ae (dv 1)) (aP nL my (aP bN bO (dv 1) ae) ae)) (aP nL my (aP bN bO (dv 1) ae) ae)) (aP nL my (aP bN bO (dv 1) ae) ae))
  case B=>
  clear hr T;walk_at "a";have e:365*(y - 2000)+(y - 2000+3)/ 4 - (y - 2000+99)/ 100+(y - 2000+399)/ 400=bb y:=by rw [<-Jw y]
  rw [e];exact q
def MK:List UD->(UD->Prop)->Prop:=λds Q=>∃d:Int,ds=[.int d]/\kT d/\Q (.str (kA d))
theorem ML(T:Txt K mg t):aC P w K mg base CX0 2 t.a_n t.d_n ["_law_day"] (bf K MK):=by
 have G_m:=@AN P w _ _ base _ T;have G_l:=@AM P w _ _ base _ T;refine T.F_n.F.okD qF (λds Q h=>?_) (λ_ _ _ _ H O ds Q E hr h=>?_)
 ·obtain⟨d,rfl,_⟩:=h;rfl
 ·obtain⟨d,rfl,hd,q⟩:=h;refine'⟨_,?A,?B⟩
  case A=>
   refine' ai ?C ?D
   case C=>exact(aJ (i:=1) qF.nd rfl UB (aP bN bO ae (aP nL my (dv 0) ae)))
   case' D=>refine' ai ?E ?F
   case E=>
    refine' C1 Qz ?G ?H
    case G=>exact(aI jY bQ (au G_m hr T.F_m (aa (aP bN bO (dv 1) ae) ah)) (dv 0) (aB _))
    case' H=>refine' ar ?I
    case I=>exact(aJ (i:=1) qF.nd rfl UB (aP bN bO (dv 1) ae))
   case' F=>refine' ai ?J ?K
   case J=>exact(Hu (i:=2) (j:=3) rfl qF.nd rfl rfl Ce rfl rfl (aa ae (aa (aP bN bO (aP kO bO (dv 0) (au G_m hr T.F_m (aa (dv 1) ah))) ae) ah)) (by rfl))
   case' K=>refine' ai ?L ?M
   case L=>
    refine' C1 Qz ?N ?O
    case N=>exact(aI oY bQ (dv 3) (au G_l hr T.F_l (aa (dv 1) (aa (dv 2) ah))) (aB _))
    case' O=>refine' ai ?P ?Q
    case P=>exact(aJ (i:=3) qF.nd rfl UB (aP kO bO (dv 3) (au G_l hr T.F_l (aa (dv 1) (aa (dv 2) ah)))))
    case' Q=>refine' ar ?R
    case R=>exact(aJ (i:=2) qF.nd rfl UB (aP bN bO (dv 2) ae))
   case' M=>refine' ar ?S
   case' S=>generalize hG16:Ux _ _ _ _=eg16
   refine' aA ?T
   case' T=>subst hG16
   exact(qm aF (df (fe (bB (aa (PE.imp (cw nN rfl T.n_str mv (aw (dv 1) az)) (aE nX)) (aa (qk (df (PE.imp (cw nN rfl T.n_str mv (aw (aP bN bO ae (dv 2)) az)) (aE nX))) (cF ae) fP) (aa (qk (df (PE.imp (cw nN rfl T.n_str mv (aw (aP bN bO ae (dv 3)) az)) (aE nX))) (cF ae) fP) ah)))))))
  case B=>
  clear hr T G_m G_l;walk_at "a";have d0:=hd.1;refine⟨λm δ=>∃y:Int,2000<=y/\bb y<=d/\m=(2001+d - y).toNat/\δ=[some (Sl.v (NW d)),some (Sl.v (NW y)),none,none],⟨_,_,Uy,Jx d0,rfl,rfl⟩,?_⟩;rintro m δ ⟨y,y0,hy,rfl,rfl⟩;walk_at "a";refine⟨y+1,rfl,?_⟩;walk_at "a";by_cases hc:bb (y+1)<=d
  ·rw [UA hc];have:=ED (y:=y+1) Uy;exact⟨_,Uy,y+1,Uy,hc,rfl,rfl⟩
  ·rw [Uz hc];refine⟨y,rfl,?_⟩;walk_at "a";have ys:=tX y;refine⟨λm δ=>∃mo:Int,1<=mo/\mo<=12/\aH y mo<=d - bb y/\m=(12 - mo).toNat/\δ=[some (Sl.v (NW d)),some (Sl.v (NW y)),some (Sl.v (NW mo)),some (Sl.v (NW (d - bb y - aH y mo+1)))],⟨11,1,Uy,Uy,by rw [qy];omega,rfl,by rw [qy,Int.sub_zero]⟩,?_⟩;rintro m δ ⟨mo,m1,m2,hb,rfl,rfl⟩;have ba:=t4 (y:=y) m1 m2;have bs:=kU (y:=y) m1;walk_at "a";refine⟨y,mo,rfl,m1,m2,?_⟩;walk_at "a";split
   ·rename_i hge;have lt12:mo < 12:=by
     by_cases z:mo < 12
     ·exact z
     ·have e:mo=12:=Uy
      subst e;rw [show(12:Int)+1=13 from rfl] at bs;have:=(se y);omega
    refine⟨y,mo,rfl,m1,m2,?_⟩;walk_at "a";exact⟨_,Uy,mo+1,Uy,Uy,by rw [bs];omega,rfl,rfl,by rw [bs];omega⟩
   ·rename_i hlt;have D:k8 d y mo (d - bb y - aH y mo+1):=⟨m1,m2,Uy,Uy,by unfold lE;omega⟩;generalize d - bb y - aH y mo+1=n at D⊢;have hyb:=t6 D d0 (uH hd);have hb2:=qx (y:=y) m1 m2;have:=D.n1;have:=D.nl;have e1:=ua (y:=y.toNat) Uy Uy;rw [QM Uy] at e1;obtain⟨s1,s2⟩:=EF (m:=mo) Uy Uy;obtain⟨s3,s4⟩:=EF (m:=n) Uy Uy;have lm:(NF "-").length=1:=td
    refine⟨n6 Uy Uy,n6 Uy Uy,by rw [s2];decide,n6 Uy Uy,by rw [s4];decide,?_,?_⟩
    ·rw [e1,s1,s3,lm];show 4+(2+(2+0))+3*1<=16777216;decide
    ·rw [e1,s1,s3,EG,uF D];exact q
def EJ:List UD->(UD->Prop)->Prop:=λds Q=>ds=[lT]/\∀d:Int,kT d->Q (.int d)
theorem MM(T:Txt K mg t):aC P w K mg base CX0 2 t.a_o t.d_o ["_law_pack_here"] (bf K EJ):=by
 have G_i:=@pW P w _ _ base _ T;have G_m:=@AN P w _ _ base _ T;have G_l:=@AM P w _ _ base _ T;refine T.F_o.F.okD sr (λds Q h=>?_) (λ_ _ _ _ H O ds Q E hr h=>?_)
 ·obtain⟨rfl,_⟩:=h;rfl
 ·obtain⟨rfl,q⟩:=h;refine'⟨_,?A,?B⟩
  case A=>
   refine' ai ?C ?D
   case C=>exact(aJ (i:=1) sr.nd rfl UB (au G_i hr T.F_i (aa (dv 0) (aa ae ah))))
   case' D=>refine' ai ?E ?F
   case E=>
    refine' aL ?G ?H aK
    case G=>exact(aI (j7 hr.units) j8 (dv 1) ae (aB _))
    case' H=>refine' ar ?I
    case I=>exact(aA (au G_i hr T.F_i (aa (dv 0) (aa ae ah))))
   case' F=>refine' ai ?J ?K
   case J=>
    refine' aL ?L ?M aK
    case L=>exact(aI (j7 hr.units) j8 (dv 1) ae (aB _))
    case' M=>refine' ar ?N
    case N=>exact(aA (au G_i hr T.F_i (aa (dv 0) (aa ae ah))))
   case' K=>refine' ai ?O ?P
   case O=>
    refine' aL ?Q ?R aK
    case Q=>exact(aI (j7 hr.units) j8 (dv 1) ae (aB _))
    case' R=>refine' ar ?S
    case' S=>generalize hE14_0:Qr _ _=ee14_0
    exact(aA (aj aM aR (fe (mM (ds:=[.int 0,.int 99999,.int 59,.int 60,.int 365,.int 366,.int 36524,.int 36525,.int 99996]) (by first | (subst hE14_0;rfl)))) (au G_i hr T.F_i (aa (dv 0) (aa ae ah)))))
   case' P=>refine' ai ?T ?U
   case T=>exact(B0 (cy (aa (aP bN bO ae (au G_i hr T.F_i (aa (dv 0) (aa ae ah)))) (aa (aP bN bO ae (au G_i hr T.F_i (aa (dv 0) (aa ae ah)))) ah))) (vj (n:=2) rfl (nK (jU (i:=2) sr.nd rfl UB) (nK (jU (i:=3) sr.nd rfl UB) sI))) (BZ (pz j6 (pz j6 vX))))
   case' U=>refine' ai ?V ?W
   case V=>
    refine' aJ (i:=4) sr.nd rfl UB ?X (hs:=pM)
    case X=>exact(aP kO bO (aP bN bO (au G_m hr T.F_m (aa (dv 2) ah)) (PE.imp (aT (vU rfl) rfl T.n_sum RI (aw (fe (v9 rfl EC rfl T.n_range (aw ae (aw (aP bN bO (dv 3) ae) az)) j6 lL Ce (λ_ _ _ _=>(jU (i:=0) EC.nd rfl UB)) (λ_ _ _ _=>lM) (λ_ _ _ _=>(au G_l hr T.F_l (aa (dv 1) (aa (dv 0) ah)))))) az)) (aE C6))) ae)
   case' W=>refine' ar ?Y
   case' Y=>refine' aA ?Z
   case Z=>exact(PE.imp (aT (vB rfl) rfl T.n_min RJ (aw ae (aw (aP bN bO (dv 4) (au G_i hr T.F_i (aa (dv 0) (aa ae ah)))) az))) (aE tH))
  case B=>
  clear hr T G_i G_m G_l;simp only [bP,true_and,↓iX,↓ja,↓jb,↓jd,↓je,↓jf,↓jg,↓iY,↓ff,↓iy,↓jJ,↓jK,↓jL,↓jM,↓jN,↓jO,↓iz,↓iA,↓iB,↓iC,↓iD,↓iE,↓iF,↓iG,↓iH,↓iI,↓iJ,↓iK,↓iL,↓iM,↓iN,↓iO,↓iP,↓iQ,↓iR,↓iS,↓iT,↓iU,↓iV,↓iW,cT,cU,cX,cW,fC,fD,cV,cY,cZ,dm,dn,fL,cL,dC,bA,dI,dD,dE,dF,fR,dG,bX,dX,dW,dJ,dH,dL,cC,cM,fz,cx,cm,bK,cN,cO,cP,cQ,fA,cR,cS,cq,cu,fB,gz,gA,gB,gC,gD,gE,gF,gG,gH,gI,gJ,gK,gL,gM,gN,gO,gP,gQ,gR,gS,gT,gU,gW,gX,gY,gZ,g6,g9,hG,hJ,hV,hW,hX,hZ,ic,ie,ig,ij,ik,il,ip,iq,iu,eT,dO,fQ,dY,cI,fT,d7,dM,dN,dP,dQ,dR,dS,dU,cG,dZ,d3,d6,bU,fM,fN,fO,fE,fF,fG,fH,dz,fJ,dA,fK,eN,eR,gs,gu,gx,gr,gy,eG,eJ,eL,eM,bY,eQ,eO,eD,eF,eV,eX,eY,eZ,cb,iw,ix,i3,iZ,i4,i5,i6,i8,i9,fg,fh,jk,ji,jj,jh,jq,jl,jm,jn,jo,cJ,fj,jv,jw,jr,jt,ju,jx,jy,jz,fk,jA,jB,jD,jE,fq,jF,jG,jH,jC,jI,ft,fu,fv,fw,jP,jQ,jR,bP,gc,gf,gh,gi,gj,gk,gm,gn,gp,ne_eq,b0,fX,fY,fZ,gb,fU,fV,fW,cD,cE,dB,c7,dj,di,dh,bT,bR,bg,bV,ck,bW,NM,Od,NI,N7,NO,N4,N8,NZ,OD,OE,OM,ON,OO,NU,NS,Oc,N5,N6,N9,exists_eq_left',exists_eq_left,exists_and_left,exists_and_right,Oi,Oj,Sl.v.injEq,Sl.o.injEq,Sl.k.injEq,Ot,Om,Ou,Oe,Oo,NP,and_true,true_and,OP,Ov,exists_const,decide_eq_true_eq,OQ,OR,OH,OI,N0,decide_eq_false_iff_not,and_assoc,or_true,true_or,↓reduceIte,if_true,if_false,N1,Oa,not_true_eq_false,not_false_eq_true,OK,OA,ite_true,ite_false,eq_self,exists_eq,reduceCtorEq,false_and,and_false,or_false,false_or,exists_false,Ox,Oy,cj,OG,OU,OC,OV,N3,OB,Ob,OL,aV,bp,bS,cH,d8,br,ei,er,beq_self_eq_true,d9,eg,fS,bx,UT];intro i i0 i1;split
  ·exact λj j0 j1=>q j ⟨j0,Uy⟩
  ·split
   ·exact λj j0 j1=>q j ⟨j0,Uy⟩
   ·split
    ·intro j j0 j1;obtain⟨v,e,hv⟩:=vV (xs:=[NW 0,NW 99999,NW 59,NW 60,NW 365,NW 366,NW 36524,NW 36525,NW 99996]) (i:=j) j0 (by show _ < ((9:Nat):Int);omega);refine⟨v,e,?_⟩;simp only [NN,NX,or_false] at hv;rcases hv with rfl | rfl | rfl | rfl | rfl | rfl | rfl | rfl | rfl <;> exact q _ ⟨Ce,Ce⟩
    ·intro y y0 y1 m m0 m1;have yg:=ED (y:=2000+y) Uy;refine⟨_,rfl,by have:((16777216:Nat):Int)=16777216:=rfl;omega,Uy,Uy,?_⟩;refine⟨λi acc=>∃ns:List Int,acc=ns.map .int/\(i:Int)<=ns.sum,⟨[],rfl,UC⟩,?_,?_⟩
     ·rintro i z acc hz ⟨ns,rfl,hs⟩;obtain⟨hi,rfl⟩:=tL hz;have hb:=qx (y:=2000+y) (m:=1+(i:Int)) Uy Uy;walk_at "a";exact⟨_,_,rfl,Uy,Uy,ns++[_],by rw [PZ];rfl,by rw [Sx,List.sum_singleton];omega⟩
     ·rintro acc ⟨ns,rfl,hs⟩;rw [B7] at hs;refine⟨ns,rfl,_,rfl,λj j0 j1=>q _ ?_⟩;unfold kT;split <;> omega
def MN:List UD->(UD->Prop)->Prop:=λds Q=>∃a b c d e:Str,ds=[lT,.list [.str a,.str b,.str c,.str d,.str e]]/\(∀z∈[a,b,c,d,e],Nm z)/\∀p,mf p->Q p
theorem MO(T:Txt K mg t):aC P w K mg base CX0 2 t.a_k t.d_k ["_law_pack_here","_law_names_here"] (bf K MN):=by
 have G_i:=@pW P w _ _ base _ T;refine T.F_k.F.okD n5 (λds Q h=>?_) (λ_ _ _ _ H O ds Q E hr h=>?_)
 ·obtain⟨a,b,c,d,e,rfl,_⟩:=h;rfl
 ·obtain⟨a,b,c,d,e,rfl,hn,q⟩:=h;refine'⟨_,?A,?B⟩
  case A=>
   refine' ai ?C ?D
   case C=>
    generalize hE2_0:Qr _ _=ee2_0;exact(aJ (i:=2) n5.nd rfl UB (aj aM aR (fe (mM (ds:=[.str "keep",.str "gone",.str "keep",.str "gone",.str "while",.str "follow",.str "leave"]) (by first | (subst hE2_0;rfl)))) (au G_i hr T.F_i (aa (dv 0) (aa ae ah)))))
   case' D=>refine' ai ?E ?F
   case E=>exact(aJ (i:=3) n5.nd rfl UB (aj aM aR (dv 1) (au G_i hr T.F_i (aa (dv 0) (aa ae ah)))))
   case' F=>refine' ai ?G ?H
   case G=>
    refine' aL ?I ?J aK
    case I=>exact(aI (pG hr) ng (dv 2) (fe (bB (mY (ds:=[.str "while",.str "follow",.str "leave"]) (by rfl)))) rfl)
    case' J=>refine' ar ?K
    case K=>exact(aA (cy (aa (dv 2) (aa (dv 3) ah))))
   case' H=>refine' ai ?L ?M
   case L=>exact(aJ (i:=4) n5.nd rfl UB (cy (aa aF ah)))
   case' M=>refine' ai ?N ?O
   case N=>exact(aJ (i:=5) n5.nd rfl UB (au G_i hr T.F_i (aa (dv 0) (aa ae ah))))
   case' O=>refine' ai ?P ?Q
   case P=>
    refine' aL ?R ?S aK
    case R=>exact(aI oY bQ (dv 5) ae (aB _))
    case' S=>refine' ar ?T
    case' T=>refine' aJ (i:=4) n5.nd rfl UB ?U (hs:=wG)
    case' U=>refine' cy ?V
    case' V=>refine' aa ?W ?X
    case W=>exact(aj aM aR (fe (bB (aa aF (aa aF ah)))) (aP kO bO (dv 5) ae))
    case' X=>refine' aa ?Y ah
    case Y=>exact(aj aM aR (dv 1) (au G_i hr T.F_i (aa (dv 0) (aa ae ah))))
   case' Q=>refine' ai ?Z ?a
   case Z=>exact(aJ (i:=5) n5.nd rfl UB (au G_i hr T.F_i (aa (dv 0) (aa ae ah))))
   case' a=>refine' ai ?b ?c
   case b=>exact(aJ (i:=6) n5.nd rfl UB (aj aM aR (fe (bB (aa ae (aa ae ah)))) (aP nM my (dv 5) ae)))
   case' c=>refine' ai ?d ?e
   case d=>
    refine' aL ?f ?g aK
    case f=>exact(aI oY bQ (dv 5) ae (aB _))
    case' g=>refine' ar ?h
    case' h=>refine' aJ (i:=6) n5.nd rfl UB ?i (hs:=pN)
    case i=>exact(au G_i hr T.F_i (aa (dv 0) (aa (aj aM aR (fe (bB (aa ae (aa ae ah)))) (aP kO bO (dv 5) ae)) ah)))
   case' e=>refine' ar ?j
   case' j=>refine' aA ?k
   case' k=>refine' cy ?l
   case' l=>refine' aa (dv 2) ?m
   case' m=>refine' aa (dv 3) ?n
   case' n=>refine' aa (dv 4) ?o
   case' o=>refine' aa (dv 6) ?p
   case' p=>refine' aa ?q ah
   case' q=>refine' nV aM aR (df ?r) ?s
   case r=>exact(fe (bB (mY (ds:=[.str "days",.str "months",.str "years"]) (by rfl))))
   case s=>exact(df (au G_i hr T.F_i (aa (dv 0) (aa ae ah))))
  case B=>
  clear hr T G_i;simp only [bP,true_and,↓iX,↓ja,↓jb,↓jd,↓je,↓jf,↓jg,↓iY,↓ff,↓iy,↓jJ,↓jK,↓jL,↓jM,↓jN,↓jO,↓iz,↓iA,↓iB,↓iC,↓iD,↓iE,↓iF,↓iG,↓iH,↓iI,↓iJ,↓iK,↓iL,↓iM,↓iN,↓iO,↓iP,↓iQ,↓iR,↓iS,↓iT,↓iU,↓iV,↓iW,cT,cU,cX,cW,fC,fD,cV,cY,cZ,dm,dn,fL,cL,dC,bA,dI,dD,dE,dF,fR,dG,bX,dX,dW,dJ,dH,dL,cC,cM,fz,cx,cm,bK,cN,cO,cP,cQ,fA,cR,cS,cq,cu,fB,gz,gA,gB,gC,gD,gE,gF,gG,gH,gI,gJ,gK,gL,gM,gN,gO,gP,gQ,gR,gS,gT,gU,gW,gX,gY,gZ,g6,g9,hG,hJ,hV,hW,hX,hZ,ic,ie,ig,ij,ik,il,ip,iq,iu,eT,dO,fQ,dY,cI,fT,d7,dM,dN,dP,dQ,dR,dS,dU,cG,dZ,d3,d6,bU,fM,fN,fO,fE,fF,fG,fH,dz,fJ,dA,fK,eN,eR,gs,gu,gx,gr,gy,eG,eJ,eL,eM,bY,eQ,eO,eD,eF,eV,eX,eY,eZ,cb,iw,ix,i3,iZ,i4,i5,i6,i8,i9,fg,fh,jk,ji,jj,jh,jq,jl,jm,jn,jo,cJ,fj,jv,jw,jr,jt,ju,jx,jy,jz,fk,jA,jB,jD,jE,fq,jF,jG,jH,jC,jI,ft,fu,fv,fw,jP,jQ,jR,bP,gc,gf,gh,gi,gj,gk,gm,gn,gp,ne_eq,b0,fX,fY,fZ,gb,fU,fV,fW,cD,cE,dB,c7,dj,di,dh,bT,bR,bg,bV,ck,bW,NM,Od,NI,N7,NO,N4,N8,NZ,OD,OE,OM,ON,OO,NU,NS,Oc,N5,N6,N9,exists_eq_left',exists_eq_left,exists_and_left,exists_and_right,Oi,Oj,Sl.v.injEq,Sl.o.injEq,Sl.k.injEq,Ot,Om,Ou,Oe,Oo,NP,and_true,true_and,OP,Ov,exists_const,decide_eq_true_eq,OQ,OR,OH,OI,N0,decide_eq_false_iff_not,and_assoc,or_true,true_or,↓reduceIte,if_true,if_false,N1,Oa,not_true_eq_false,not_false_eq_true,OK,OA,ite_true,ite_false,eq_self,exists_eq,reduceCtorEq,false_and,and_false,or_false,false_or,exists_false,Ox,Oy,cj,OG,OU,OC,OV,N3,OB,Ob,OL,aV,bp,bS,cH,d8,br,ei,er,beq_self_eq_true,d9,eg,fS,bx,UT];intro i i0 i1;obtain⟨wo,hw,ew⟩:=pY [NF "keep",NF "gone",NF "keep",NF "gone",NF "while",NF "follow",NF "leave"] (i:=i) i0 (by show _ < ((7:Nat):Int);omega)
  refine⟨_,ew,λi i0 i1=>?_⟩;have nm5:∀i:Int,0<=i->i < 5->∃nm,atI [NH a,NH b,NH c,NH d,NH e] i=some (.str nm)/\Nm nm:=λi i0 i1=>by
   obtain⟨nm,hm,en⟩:=pY [a,b,c,d,e] i0 (show i < ((5:Nat):Int) by omega);exact⟨nm,en,hn nm hm⟩
  obtain⟨kd,ek,hk⟩:=nm5 i i0 i1;have hw2:wo∈(["while","follow","leave"]:List Str)\/wo∈(["keep","gone"]:List Str):=by
   simp only [NN,NX,or_false] at hw⊢;rcases hw with h | h | h | h | h | h | h <;> simp [h]
  have wl:∀z∈(["while","follow","leave","keep","gone"]:List Str),P8 (.str z)=true:=td
  refine⟨_,ek,wl wo (by
   simp only [NN,NX,or_false] at hw2⊢;rcases hw2 with(h | h | h) | (h | h) <;> simp [h]),td,?_⟩
  rw [br,br,br];split
  ·rename_i h;refine q _ (.wfl ?_ hk);simp only [Rb,beq_iff_eq] at h;simp only [NN,NX,or_false];rcases h with h | h | h <;> simp [h]
  ·rename_i h;have hkg:wo∈(["keep","gone"]:List Str):=by
    rcases hw2 with z | z
    ·exfalso;apply h;simp only [NN,NX,or_false] at z;rcases z with rfl | rfl | rfl <;> decide+kernel
    ·exact z
   have un:∀(s:UD)(m:Int),lX s->0<=m->m<=999->∀i:Int,0<=i->i < 3->∃x_3,atI [NH (NF "days"),NH (NF "months"),NH (NF "years")] i=some x_3/\Q (O5 [.str wo,.str kd,s,.int m,x_3]):=λs m hs m0 m1 i i0 i1=>by
    obtain⟨u,hu,eu⟩:=pY [NF "days",NF "months",NF "years"] i0 (show i < ((3:Nat):Int) by omega);exact⟨_,eu,q _ (.kg hkg hk hs m0 m1 hu)⟩
   have tl:∀s:UD,lX s->∀i:Int,0<=i->i < 4->∃d,atI [NW 0,NW 999] (i % 2)=some d/\if 1 < i then ∃d,atI [NW 1000,NW 13] (i - 2)=some d/\vZ [lT,d] λd=>∀i:Int,0<=i->i < 3->∃x_3,atI [NH (NF "days"),NH (NF "months"),NH (NF "years")] i=some x_3/\Q (O5 [.str wo,.str kd,s,d,x_3]) else ∀i:Int,0<=i->i < 3->∃x_3,atI [NH (NF "days"),NH (NF "months"),NH (NF "years")] i=some x_3/\Q (O5 [.str wo,.str kd,s,d,x_3]):=λs hs i i0 i1=>by
    rcases(show i=0\/i=1\/i=2\/i=3 by omega) with rfl | rfl | rfl | rfl
    ·exact⟨_,rfl,un s 0 hs Ce Ce⟩
    ·exact⟨_,rfl,un s 999 hs Ce Ce⟩
    ·exact⟨_,rfl,_,rfl,1000,rfl,Ce,Ce,λj j0 j1=>un s j hs j0 Uy⟩
    ·exact⟨_,rfl,_,rfl,13,rfl,Ce,Ce,λj j0 j1=>un s j hs j0 Uy⟩
   intro i i0 i1;rcases(show i=0\/i=1\/i=2 by omega) with rfl | rfl | rfl
   ·exact tl _ .coming
   ·refine⟨_,rfl,λj j0 j1=>?_⟩;obtain⟨h,eh,hh⟩:=nm5 j j0 j1;exact⟨_,eh,tl _ (.first hh)⟩
   ·refine⟨_,rfl,λj j0 j1=>?_⟩;obtain⟨h,eh,hh⟩:=nm5 j j0 j1;exact⟨_,eh,tl _ (.last hh)⟩
end
theorem EK:cK (ay uy) ["_law_word","_law_most"] ["_law_sign"] 1 [] ⟨OJ,[(NL ".0",Ws),(NL "_law_sign",Ws)],false,false,[]⟩:= .of
theorem EL:cK (ay uz) ["_law_word"] ["_law_sign"] 1 [] ⟨OJ,[(NL ".0",Ws),(NL "_law_sign",Ws)],false,false,[]⟩:= .of
theorem EM:cK (ay pS) ["_law_word","_law_parts","_law_year","_law_month","_law_number","_law_day"] ["_law_part"] 1 [] ⟨OJ,[ (NL ".0",Ws),(NL "_law_part",Ws),(NL "_law_figures",OS)],false,false,[]⟩:= .of
theorem EN:cK (ay pS) ["_law_word","_law_parts","_law_year","_law_month","_law_number","_law_day"] ["_law_part"] 1 [] ⟨OJ,[ (NL ".0",Ws),(NL "_law_part",Ws),(NL "len",OS)],false,false,[]⟩:= .of
theorem EO:cK (ay pS) ["_law_word","_law_parts","_law_year","_law_month","_law_number","_law_day"] ["_law_part"] 1 [] ⟨OJ,[ (NL ".0",Ws),(NL "_law_part",Ws),(NL "int",OS)],false,false,[]⟩:= .of
theorem ER:cK (ay pS) ["_law_word","_law_parts","_law_year","_law_month","_law_number","_law_day"] ["_law_k","_law_year"] 1 [2] ⟨OJ,[ (NL ".0",Ws),(NL "_law_k",Ws),(NL "_law_length",OS),(NL "_law_year",Pr)],false,false,[]⟩:= .of
section
variable {P:US} {w:UU} {K:NG} {mg:Str->Option UE} {base:UR} {t:k9}
theorem MP{z:Str}(h:bG z (z.length:Int)=true)(h1:1<=z.length)(h4:z.length<=4):∃y:Nat,intText? z=some (y:Int):=by
 by_cases e:z.length=4
 ·obtain⟨y,_,_,h,_⟩:=sC (z:=z) (by rw [e] at h;exact h);exact⟨y,h⟩
 ·obtain⟨y,_,h⟩:=AL h Uy Uy;exact⟨y,h⟩
def l3(z:Str)(m:Int):Prop:=1<=z.length/\(z.length:Int)<=m/\bG z (z.length:Int)=true
instance {z:Str} {m:Int}:Decidable (l3 z m):=by unfold l3;infer_instance
def kN(z:Str)(m:Int):UD:=if l3 z m then .int (nv z) else .none
def ES:List UD->(UD->Prop)->Prop:=λds Q=>∃(z:Str)(m:Int),ds=[.str z,.int m]/\z.length<=1000/\m<=4/\Q (kN z m)
theorem ET(T:Txt K mg t):aC P w K mg base CX0 1 t.a_t t.d_t ["_law_word","_law_most"] (bf K ES):=by
 refine T.F_t.F.okD K7 (λds Q h=>?_) (λ_ _ _ _ H O ds Q E hr h=>?_)
 ·obtain⟨z,m,rfl,_⟩:=h;rfl
 ·obtain⟨z,m,rfl,hz,hm,q⟩:=h;refine'⟨_,?A,?B⟩
  case A=>
   refine' ai ?C ?D
   case C=>
    refine' aL ?E ?F aK
    case E=>exact(PW.pt (kB (kr (oC jY jY bQ bQ (df ae) (df (PE.imp (aT mS rfl T.n_len Of (aw (dv 0) az)) (aE nh))) (df (dv 1)))) (lh (kr (cn (PE.imp (aT (oA rfl) rfl T.n_all oB (aw (fe (tM rfl EK (df (dv 0)) j6 lL Ce (λ_ _ _ _=>(jU (i:=0) EK.nd rfl UB)) (λ_ _ _ _=>lM) (λ_ _ _ _=>(j5 sP tO (df (dv 0)) (df aF) rfl)))) az)) (aE oF)))))))
    case F=>refine' ar (aA ku)
   case' D=>refine' ar ?G
   case G=>exact(aA (PE.imp (cw qv rfl T.n_int mI (aw (dv 0) az)) (aE qw)))
  case B=>
  clear hr T;walk_at "a";refine⟨Uy,?_⟩;have no:¬l3 z m->Q .none:=λh=>by unfold kN at q;rw [Uz h] at q;exact q
  split
  ·rename_i h1;split
   ·rename_i h2;exact no λh=>h2 h.2.1
   ·rename_i h2;refine⟨Uy,pL (p:=λb=>if b=false then Q .none else ∃x,intText? z=some x/\z.length<=640/\Q (.int x)) (λx=>match x with | .str y=>decide (y.cps.toList.headD 0∈oQ.cps.toList) | _=>false) (λx hx R hR=>?_) ?_⟩
    ·obtain⟨c,_,rfl⟩:=Pa.mp hx;walk_at "a";rw [Rv];exact hR
    ·have e:(Pe (λx=>match x with | NH y=>decide (y.cps.toList.headD 0∈oQ.cps.toList) | _=>false) (qo z)).all id=bG z (z.length:Int):=by
      unfold bG qo;rw [decide_eq_true rfl,Ob,Pt,QK];rfl
     simp only [e];by_cases hf:bG z (z.length:Int)=true
     ·rw [Uz (by rw [hf];decide)];obtain⟨y,hy⟩:=MP hf Uy Uy;have g:l3 z m:=⟨Uy,Uy,hf⟩;unfold kN nv at q;rw [UA g,hy] at q;exact⟨_,hy,Uy,q⟩
     ·rw [UA (by simpa using hf)];exact no λh=>hf h.2.2
  ·rename_i h1;exact no λh=>by have:=h.1;omega
def AO:List UD->(UD->Prop)->Prop:=λds Q=>∃z:Str,ds=[.str z]/\z.length<=1000/\Q (.bool (bZ (.str z)))
theorem EU(T:Txt K mg t):aC P w K mg base CX0 1 t.a_u t.d_u ["_law_word"] (bf K AO):=by
 refine T.F_u.F.okD K8 (λds Q h=>?_) (λ_ _ _ _ H O ds Q E hr h=>?_)
 ·obtain⟨z,rfl,_⟩:=h;rfl
 ·obtain⟨z,rfl,hz,q⟩:=h;refine'⟨_,?A,?B⟩
  case A=>
   refine' ar ?C
   case' C=>refine' aA ?D
   case D=>exact(ky (tF jY jY bQ bQ (df ae) (df (PE.imp (aT mS rfl T.n_len Of (aw (dv 0) az)) (aE nh))) (df ae)) (lj (PE.imp (aT (oA rfl) rfl T.n_all oB (aw (fe (tM rfl EL (df (dv 0)) j6 lL Ce (λ_ _ _ _=>(jU (i:=0) EL.nd rfl UB)) (λ_ _ _ _=>lM) (λ_ _ _ _=>(j5 sP tO (df (dv 0)) (df aF) rfl)))) az)) (aE oF))))
  case B=>
  clear hr T;walk_at "a";refine⟨Uy,?_⟩;simp only [bZ] at q;split
  ·rename_i h1;rw [decide_eq_true (p:=1<=z.length) Uy,Ob] at q;split
   ·rename_i h2;rw [decide_eq_true (p:=z.length<=8) Uy,Ob] at q;refine⟨Uy,pL (p:=λb=>Q (.bool b)) (λx=>match x with | .str y=>decide (y.cps.toList.headD 0∈kS.cps.toList) | _=>false) (λx hx R hR=>?_) ?_⟩
    ·obtain⟨c,_,rfl⟩:=Pa.mp hx;walk_at "a";rw [Rv];exact hR
    ·unfold qo;rw [Pt,QK];exact q
   ·rename_i h2;rw [decide_eq_false (p:=z.length<=8) Uy] at q;exact q
  ·rename_i h1;rw [decide_eq_false (p:=1<=z.length) Uy] at q;exact q
theorem AQ{z:Str}{m:Int}{Q:UD->Prop}:ES [.str z,.int m] Q↔z.length<=1000/\m<=4/\Q (kN z m):=⟨λuu51=>by obtain⟨_,_,e,h⟩:=uu51;cases e;exact h,λh=>⟨_,_,rfl,h⟩⟩
theorem EV{y m:Int}{Q:UD->Prop}:EH [.int y,.int m] Q↔1<=m/\m<=12/\Q (.int (aW y m)):=⟨λuu52=>by obtain⟨_,_,e,h⟩:=uu52;cases e;exact h,λh=>⟨_,_,rfl,h⟩⟩
theorem MQ{y:Int}{Q:UD->Prop}:EI [.int y] Q↔Q (.int (bb y)):=⟨λuu53=>by obtain⟨_,e,h⟩:=uu53;cases e;exact h,λh=>⟨_,rfl,h⟩⟩
theorem EW:∀{ns:List Int},Py (ns.map .int)=true/\QR (ns.map .int)=0
 | []=>⟨rfl,rfl⟩
 | n::r=>by
  obtain⟨a,b⟩:=EW (ns:=r);rw [NM,Py,QR,a,b,Pc];exact⟨rfl,rfl⟩
theorem MR{ns:List Int}:P8 (.list (ns.map .int))=true:=by
 obtain⟨a,b⟩:=EW (ns:=ns);unfold P8;rw [Pc,Si,a,b];rfl
theorem EX(z:Str)(m:Int):Pc (kN z m)=true/\(kN z m).eqv .none=!decide (l3 z m):=by
 unfold kN;split
 ·rename_i h;rw [decide_eq_true h];exact⟨rfl,rfl⟩
 ·rename_i h;rw [decide_eq_false h];exact⟨rfl,rfl⟩
def EY:UD->UD | .str y=>.int y.length | _=>.none
def MS:UD->UD | .str y=>kN y 4 | _=>.none
def EZ:UD->UD | .str y=>.int (nv y) | _=>.none
theorem MT(ws:List Str):(ws.map NH).map EY=(ws.map λy:Str=>(y.length:Int)).map .int:=by rw [Pt,Pt];rfl
def E1:List UD->(UD->Prop)->Prop:=λds Q=>∃z:Str,ds=[.str z]/\z.length<=1000/\Q (kM z)
theorem MU(T:Txt K mg t):aC P w K mg base CX0 2 t.a_v t.d_v ["_law_word"] (bf K E1):=by
 have G_t:=@ET P w _ _ base _ T;have G_m:=@AN P w _ _ base _ T;have G_l:=@AM P w _ _ base _ T;refine T.F_v.F.okD qI (λds Q h=>?_) (λ_ _ _ _ H O ds Q E hr h=>?_)
 ·obtain⟨z,rfl,_⟩:=h;rfl
 ·obtain⟨z,rfl,hz,q⟩:=h;refine'⟨_,?A,?B⟩
  case A=>
   refine' ai ?C ?D
   case C=>exact(aJ (i:=1) qI.nd rfl UB (fe (pO (dv 0) aF)))
   case' D=>refine' ai ?E ?F
   case E=>
    refine' aL ?G ?H aK
    case G=>exact(PW.pt (kB (aI (mV hr.units) mW (fe (rN rfl EN (df (dv 1)) j6 lL Ce (λ_ _ _ _=>(jU (i:=0) EN.nd rfl UB)) (λ_ _ _ _=>lM) (λ_ _ _ _=>(PE.imp (aT mS rfl T.n_len Of (aw (dv 0) az)) (aE nh))))) (fe (bB (mY (ds:=[.int 4,.int 2,.int 2]) (by rfl)))) (aB _)) (lh (aI (pG hr) ng ku (fe (rN rfl EM (df (dv 1)) j6 lL Ce (λ_ _ _ _=>(jU (i:=0) EM.nd rfl UB)) (λ_ _ _ _=>lM) (λ_ _ _ _=>(au G_t hr T.F_t (aa (dv 0) (aa ae ah)))))) rfl))))
    case H=>refine' ar (aA ku)
   case' F=>refine' ai ?I ?J
   case I=>exact(B0 (fe (rN rfl EO (df (dv 1)) j6 lL Ce (λ_ _ _ _=>(jU (i:=0) EO.nd rfl UB)) (λ_ _ _ _=>lM) (λ_ _ _ _=>(PE.imp (cw qv rfl T.n_int mI (aw (dv 0) az)) (aE qw))))) (HU (n:=3) rfl (nK (jU (i:=2) qI.nd rfl UB) (nK (jU (i:=3) qI.nd rfl UB) (nK (jU (i:=4) qI.nd rfl UB) sI)))) (HV (pz j6 (pz j6 (pz j6 vX)))))
   case' J=>refine' ai ?K ?L
   case K=>
    refine' aL ?M ?N aK
    case M=>exact(PW.pt (kB (aI qf bQ (dv 2) ae (aB _)) (kB (kr (oC jY jY bQ bQ (df ae) (df (dv 3)) (df ae))) (lh (kr (oC jY jY bQ bQ (df ae) (df (dv 4)) (df (au G_l hr T.F_l (aa (dv 2) (aa (dv 3) ah))))))))))
    case N=>refine' ar (aA ku)
   case' L=>refine' ai ?O ?P
   case O=>
    refine' aJ (i:=5) qI.nd rfl UB ?Q (hs:=pM)
    case Q=>exact(aP kO bO (aP bN bO (aP bN bO (au G_m hr T.F_m (aa (dv 2) ah)) (PE.imp (aT (vU rfl) rfl T.n_sum RI (aw (fe (v9 rfl ER rfl T.n_range (aw ae (aw (dv 3) az)) j6 lL Ce (λ_ _ _ _=>(jU (i:=0) ER.nd rfl UB)) (λ_ _ _ _=>lM) (λ_ _ _ _=>(au G_l hr T.F_l (aa (dv 1) (aa (dv 0) ah)))))) az)) (aE C6))) (dv 4)) ae)
   case' P=>refine' ar ?R
   case' R=>refine' aA ?S
   case' S=>refine' nV aM aR (df ?T) ?U
   case T=>exact(fe (bB (aa ku (aa (dv 5) ah))))
   case U=>exact(df (PE.imp (cw sU rfl T.n_int mI (aw (j5 jY bQ (df (dv 5)) (df ae) (aB _)) az)) (aE tK)))
  case B=>
  clear hr T G_t G_m G_l;walk_at "a";have hl:(Txt.split z (NF "-")).length<=1002:=Oz (Q3 z _) Uy;refine⟨td,Uy,by rw [NQ];omega,?_⟩;have wl:=λp=>Ed (z:=z) (p:=p);have q1:∀k,lQ z=some k->Q (.int k):=λk e=>by unfold kM at q;rw [e] at q;exact q
  have q2:lQ z=none->Q .none:=λe=>by unfold kM at q;rw [e] at q;exact q
  clear q;unfold lQ at q1 q2;generalize Txt.split z (NF "-")=ws at*;refine pK EY (λx hx R hR=>?_) ?_
  ·obtain⟨p,hp,rfl⟩:=Pa.mp hx;walk_at "a";have:=wl p hp;exact⟨Uy,hR⟩
  ·rw [MT];refine⟨MR,td,?_⟩
   match ws with
   | [a,b,c]=>
    have la:=wl a UC;have lb:=wl b UC;have lc:=wl c UC;simp only [] at q1 q2;have e:(O6 (([a,b,c].map λy:Str=>(y.length:Int)).map .int)).eqv (O6 [NW 4,NW 2,NW 2])=decide (a.length=4/\b.length=2/\c.length=2):=by
     rw [P5];simp [NR,Pk];omega
    rw [e];by_cases hL:a.length=4/\b.length=2/\c.length=2
    ·rw [Uz (by rw [decide_eq_true hL];decide)];obtain⟨l4,l2,l2'⟩:=hL;refine⟨by rw [NQ];exact Oz hl Ce,?_⟩;refine pK MS (λx hx R hR=>?_) ?_
     ·obtain⟨p,hp,rfl⟩:=Pa.mp hx;have:=wl p hp;simp only [AQ,true_and,↓iX,↓ja,↓jb,↓jd,↓je,↓jf,↓jg,↓iY,↓ff,↓iy,↓jJ,↓jK,↓jL,↓jM,↓jN,↓jO,↓iz,↓iA,↓iB,↓iC,↓iD,↓iE,↓iF,↓iG,↓iH,↓iI,↓iJ,↓iK,↓iL,↓iM,↓iN,↓iO,↓iP,↓iQ,↓iR,↓iS,↓iT,↓iU,↓iV,↓iW,cT,cU,cX,cW,fC,fD,cV,cY,cZ,dm,dn,fL,cL,dC,bA,dI,dD,dE,dF,fR,dG,bX,dX,dW,dJ,dH,dL,cC,cM,fz,cx,cm,bK,cN,cO,cP,cQ,fA,cR,cS,cq,cu,fB,gz,gA,gB,gC,gD,gE,gF,gG,gH,gI,gJ,gK,gL,gM,gN,gO,gP,gQ,gR,gS,gT,gU,gW,gX,gY,gZ,g6,g9,hG,hJ,hV,hW,hX,hZ,ic,ie,ig,ij,ik,il,ip,iq,iu,eT,dO,fQ,dY,cI,fT,d7,dM,dN,dP,dQ,dR,dS,dU,cG,dZ,d3,d6,bU,fM,fN,fO,fE,fF,fG,fH,dz,fJ,dA,fK,eN,eR,gs,gu,gx,gr,gy,eG,eJ,eL,eM,bY,eQ,eO,eD,eF,eV,eX,eY,eZ,cb,iw,ix,i3,iZ,i4,i5,i6,i8,i9,fg,fh,jk,ji,jj,jh,jq,jl,jm,jn,jo,cJ,fj,jv,jw,jr,jt,ju,jx,jy,jz,fk,jA,jB,jD,jE,fq,jF,jG,jH,jC,jI,ft,fu,fv,fw,jP,jQ,jR,bP,gc,gf,gh,gi,gj,gk,gm,gn,gp,ne_eq,b0,fX,fY,fZ,gb,fU,fV,fW,cD,cE,dB,c7,dj,di,dh,bT,bR,bg,bV,ck,bW,NM,Od,NI,N7,NO,N4,N8,NZ,OD,OE,OM,ON,OO,NU,NS,Oc,N5,N6,N9,exists_eq_left',exists_eq_left,exists_and_left,exists_and_right,Oi,Oj,Sl.v.injEq,Sl.o.injEq,Sl.k.injEq,Ot,Om,Ou,Oe,Oo,NP,and_true,true_and,OP,Ov,exists_const,decide_eq_true_eq,OQ,OR,OH,OI,N0,decide_eq_false_iff_not,and_assoc,or_true,true_or,↓reduceIte,if_true,if_false,N1,Oa,not_true_eq_false,not_false_eq_true,OK,OA,ite_true,ite_false,eq_self,exists_eq,reduceCtorEq,false_and,and_false,or_false,false_or,exists_false,Ox,Oy,cj,OG,OU,OC,OV,N3,OB,Ob,OL,aV,bp,bS,cH,d8,br,ei,er,beq_self_eq_true,d9,eg,fS,bx,UT];exact⟨Uy,hR⟩
     ·have f4:l3 a 4↔bG a 4=true:=by unfold l3;rw [l4];simp
      have f2:l3 b 4↔bG b 2=true:=by unfold l3;rw [l2];simp
      have f2':l3 c 4↔bG c 2=true:=by unfold l3;rw [l2'];simp
      show Py [kN a 4,kN b 4,kN c 4]=true/\if ([kN a 4,kN b 4,kN c 4].any λd=>d.eqv .none)=true then _ else _
      refine⟨by simp [Py,EX],?_⟩;rw [show([kN a 4,kN b 4,kN c 4].any λd=>d.eqv .none)=!decide (bG a 4=true/\bG b 2=true/\bG c 2=true) by
       rw [P5];simp [EX,f4,f2,f2']]
      by_cases hF:bG a 4=true/\bG b 2=true/\bG c 2=true
      ·rw [Uz (by rw [decide_eq_true hF];decide)];obtain⟨fa,fb,fc⟩:=hF;obtain⟨y,y1,y2,y3,_⟩:=sC fa;obtain⟨m,m1,m2,m3⟩:=qJ fb;obtain⟨n,n1,n2,n3⟩:=qJ fc;have ea:nv a=y:=by unfold nv;rw [y3];rfl
       have eb:nv b=m:=by unfold nv;rw [m3];rfl
       have ec:nv c=n:=by unfold nv;rw [n3];rfl
       rw [ea,eb,ec] at q1 q2;refine⟨by rw [NQ];exact Oz hl Ce,?_⟩;refine pK EZ (λx hx R hR=>?_) ?_
       ·obtain⟨p,hp,rfl⟩:=Pa.mp hx;walk_at "a";simp only [NN,NX,or_false] at hp;rcases hp with rfl | rfl | rfl
        ·exact⟨_,y3,Uy,by rw [<-ea];exact hR⟩
        ·exact⟨_,m3,Uy,by rw [<-eb];exact hR⟩
        ·exact⟨_,n3,Uy,by rw [<-ec];exact hR⟩
       ·simp only [NM,Od,EZ];rw [ea,eb,ec];unfold Ca;simp only [EV,MQ,true_and,↓iX,↓ja,↓jb,↓jd,↓je,↓jf,↓jg,↓iY,↓ff,↓iy,↓jJ,↓jK,↓jL,↓jM,↓jN,↓jO,↓iz,↓iA,↓iB,↓iC,↓iD,↓iE,↓iF,↓iG,↓iH,↓iI,↓iJ,↓iK,↓iL,↓iM,↓iN,↓iO,↓iP,↓iQ,↓iR,↓iS,↓iT,↓iU,↓iV,↓iW,cT,cU,cX,cW,fC,fD,cV,cY,cZ,dm,dn,fL,cL,dC,bA,dI,dD,dE,dF,fR,dG,bX,dX,dW,dJ,dH,dL,cC,cM,fz,cx,cm,bK,cN,cO,cP,cQ,fA,cR,cS,cq,cu,fB,gz,gA,gB,gC,gD,gE,gF,gG,gH,gI,gJ,gK,gL,gM,gN,gO,gP,gQ,gR,gS,gT,gU,gW,gX,gY,gZ,g6,g9,hG,hJ,hV,hW,hX,hZ,ic,ie,ig,ij,ik,il,ip,iq,iu,eT,dO,fQ,dY,cI,fT,d7,dM,dN,dP,dQ,dR,dS,dU,cG,dZ,d3,d6,bU,fM,fN,fO,fE,fF,fG,fH,dz,fJ,dA,fK,eN,eR,gs,gu,gx,gr,gy,eG,eJ,eL,eM,bY,eQ,eO,eD,eF,eV,eX,eY,eZ,cb,iw,ix,i3,iZ,i4,i5,i6,i8,i9,fg,fh,jk,ji,jj,jh,jq,jl,jm,jn,jo,cJ,fj,jv,jw,jr,jt,ju,jx,jy,jz,fk,jA,jB,jD,jE,fq,jF,jG,jH,jC,jI,ft,fu,fv,fw,jP,jQ,jR,bP,gc,gf,gh,gi,gj,gk,gm,gn,gp,ne_eq,b0,fX,fY,fZ,gb,fU,fV,fW,cD,cE,dB,c7,dj,di,dh,bT,bR,bg,bV,ck,bW,NM,Od,NI,N7,NO,N4,N8,NZ,OD,OE,OM,ON,OO,NU,NS,Oc,N5,N6,N9,exists_eq_left',exists_eq_left,exists_and_left,exists_and_right,Oi,Oj,Sl.v.injEq,Sl.o.injEq,Sl.k.injEq,Ot,Om,Ou,Oe,Oo,NP,and_true,true_and,OP,Ov,exists_const,decide_eq_true_eq,OQ,OR,OH,OI,N0,decide_eq_false_iff_not,and_assoc,or_true,true_or,↓reduceIte,if_true,if_false,N1,Oa,not_true_eq_false,not_false_eq_true,OK,OA,ite_true,ite_false,eq_self,exists_eq,reduceCtorEq,false_and,and_false,or_false,false_or,exists_false,Ox,Oy,cj,OG,OU,OC,OV,N3,OB,Ob,OL,aV,bp,bS,cH,d8,br,ei,er,beq_self_eq_true,d9,eg,fS,bx,UT];have no:¬lx y m n->Q .none:=λz=>q2 (Uz λw=>z w.2.2.2.1)
        split
        ·exact no λz=>by have:=z.1;omega
        ·split
         ·split
          ·exact no λz=>by have:=z.2.2.2.1;omega
          ·split
           ·refine⟨Uy,Uy,?_⟩;split
            ·exact no λz=>by have:=z.2.2.2.2.2;omega
            ·have hd:lx y m n:=⟨Uy,Uy,Uy,Uy,Uy,Uy⟩;refine⟨Uy,Uy,Uy,?_⟩;refine pK (λx=>match x with | .int k=>.int (aW y k) | _=>.none) (λx hx R hR=>?_) ?_
             ·obtain⟨k,hk,rfl⟩:=Pa.mp hx;have hk:=QF.mp hk;simp only [EV,true_and,↓iX,↓ja,↓jb,↓jd,↓je,↓jf,↓jg,↓iY,↓ff,↓iy,↓jJ,↓jK,↓jL,↓jM,↓jN,↓jO,↓iz,↓iA,↓iB,↓iC,↓iD,↓iE,↓iF,↓iG,↓iH,↓iI,↓iJ,↓iK,↓iL,↓iM,↓iN,↓iO,↓iP,↓iQ,↓iR,↓iS,↓iT,↓iU,↓iV,↓iW,cT,cU,cX,cW,fC,fD,cV,cY,cZ,dm,dn,fL,cL,dC,bA,dI,dD,dE,dF,fR,dG,bX,dX,dW,dJ,dH,dL,cC,cM,fz,cx,cm,bK,cN,cO,cP,cQ,fA,cR,cS,cq,cu,fB,gz,gA,gB,gC,gD,gE,gF,gG,gH,gI,gJ,gK,gL,gM,gN,gO,gP,gQ,gR,gS,gT,gU,gW,gX,gY,gZ,g6,g9,hG,hJ,hV,hW,hX,hZ,ic,ie,ig,ij,ik,il,ip,iq,iu,eT,dO,fQ,dY,cI,fT,d7,dM,dN,dP,dQ,dR,dS,dU,cG,dZ,d3,d6,bU,fM,fN,fO,fE,fF,fG,fH,dz,fJ,dA,fK,eN,eR,gs,gu,gx,gr,gy,eG,eJ,eL,eM,bY,eQ,eO,eD,eF,eV,eX,eY,eZ,cb,iw,ix,i3,iZ,i4,i5,i6,i8,i9,fg,fh,jk,ji,jj,jh,jq,jl,jm,jn,jo,cJ,fj,jv,jw,jr,jt,ju,jx,jy,jz,fk,jA,jB,jD,jE,fq,jF,jG,jH,jC,jI,ft,fu,fv,fw,jP,jQ,jR,bP,gc,gf,gh,gi,gj,gk,gm,gn,gp,ne_eq,b0,fX,fY,fZ,gb,fU,fV,fW,cD,cE,dB,c7,dj,di,dh,bT,bR,bg,bV,ck,bW,NM,Od,NI,N7,NO,N4,N8,NZ,OD,OE,OM,ON,OO,NU,NS,Oc,N5,N6,N9,exists_eq_left',exists_eq_left,exists_and_left,exists_and_right,Oi,Oj,Sl.v.injEq,Sl.o.injEq,Sl.k.injEq,Ot,Om,Ou,Oe,Oo,NP,and_true,true_and,OP,Ov,exists_const,decide_eq_true_eq,OQ,OR,OH,OI,N0,decide_eq_false_iff_not,and_assoc,or_true,true_or,↓reduceIte,if_true,if_false,N1,Oa,not_true_eq_false,not_false_eq_true,OK,OA,ite_true,ite_false,eq_self,exists_eq,reduceCtorEq,false_and,and_false,or_false,false_or,exists_false,Ox,Oy,cj,OG,OU,OC,OV,N3,OB,Ob,OL,aV,bp,bS,cH,d8,br,ei,er,beq_self_eq_true,d9,eg,fS,bx,UT];exact⟨Uy,Uy,hR⟩
             ·refine⟨(PD ((m:Int) - 1).toNat).map λ(i:Nat)=>aW y (1+(i:Int)),?_,?_⟩
              ·unfold kR;rw [Pt,Pt];rfl
              ·rw [show bb y+((PD ((m:Int) - 1).toNat).map λ(i:Nat)=>aW y (1+(i:Int))).sum+n - 1=lE y m n from rfl];split
               ·exact⟨_,rfl,q1 _ (UA ⟨fa,fb,fc,hd,Uy⟩)⟩
               ·exact⟨_,rfl,q2 (Uz λw=>by have:=w.2.2.2.2;omega)⟩
           ·exact no λz=>by have:=z.2.2.2.2.1;omega
         ·exact no λz=>by have:=z.2.2.1;omega
      ·rw [UA (by rw [decide_eq_false hF];decide)];exact q2 (Uz λz=>hF ⟨z.1,z.2.1,z.2.2.1⟩)
    ·rw [UA (by rw [decide_eq_false hL])];exact q2 (Uz λz=>hL (by
      obtain⟨_,_,h4,_⟩:=sC z.1;obtain⟨_,_,h2,_⟩:=qJ z.2.1;obtain⟨_,_,h2',_⟩:=qJ z.2.2.1;exact⟨h4,h2,h2'⟩))
   | []=>rw [UA (by simp [NR,Pk])];exact q2 rfl
   | [a]=>rw [UA (by simp [NR,Pk])];exact q2 rfl
   | [a,b]=>rw [UA (by simp [NR,Pk])];exact q2 rfl
   | a::b::c::d::r=>rw [UA (by simp [NR,Pk])];exact q2 rfl
end
theorem E2:cK (ay uw) ["_law_pack_here","_law_names_here","_law_word","_law_head","_law_other","_law_some","_law_target"] ["_law_name_here","_law_pack_here"] 1 [0] ⟨OJ,[ (NL ".0",Ws),(NL "_law_name_here",Ws),(NL "_law_take",OS),(NL "_law_pack_here",Pr)],false,false,[]⟩:= .of
section
variable {P:US} {w:UU} {K:NG} {mg:Str->Option UE} {base:UR} {t:k9}
theorem E3{ns:List Str}(h:ns.Nodup):(kL ns).Pairwise oM:=by
 have p:=Cg ns;have n:(kL ns).Nodup:=(tP ns).nodup_iff.mpr h;refine List.Pairwise.imp₂ (λa b h1 h2=>?_) p n;by_cases q:a.cps.toList < b.cps.toList
 ·exact q
 ·exact absurd (Cf h1 (decide_eq_true (Up.mp q))) h2
theorem MV{Q:UD->Prop}:EJ [lT] Q↔∀d:Int,kT d->Q (.int d):=⟨λuu54=>by obtain⟨_,h⟩:=uu54;exact h,λh=>⟨rfl,h⟩⟩
def MW:List UD->(UD->Prop)->Prop:=λds Q=>∃a b c d e:Str,ds=[lT,.list [.str a,.str b,.str c,.str d,.str e]]/\(∀z∈[a,b,c,d,e],Nm z)/\[a,b,c,d,e].Nodup/\∀p,bL p->Q p
theorem MX(T:Txt K mg t):aC P w K mg base CX0 3 t.a_p t.d_p ["_law_pack_here","_law_names_here"] (bf K MW):=by
 have G_i:=@pW P w _ _ base _ T;have G_o:=@MM P w _ _ base _ T;have G_k:=@MO P w _ _ base _ T;refine T.F_p.F.okD qG (λds Q h=>?_) (λ_ _ _ _ H O ds Q E hr h=>?_)
 ·obtain⟨a,b,c,d,e,rfl,_⟩:=h;rfl
 ·obtain⟨a,b,c,d,e,rfl,hn,nd,q⟩:=h;refine'⟨_,?A,?B⟩
  case A=>
   refine' ai ?C ?D
   case C=>
    generalize hE2_0:Qr _ _=ee2_0;exact(aJ (i:=2) qG.nd rfl UB (aj aM aR (fe (mM (ds:=[.str "paper",.str "happens",.str "rule",.str "rule",.str "end",.str "hold",.str "lift",.str "leave"]) (by first | (subst hE2_0;rfl)))) (au G_i hr T.F_i (aa (dv 0) (aa ae ah)))))
   case' D=>refine' ai ?E ?F
   case E=>
    refine' aJ (i:=3) qG.nd rfl UB ?G (hs:=wG)
    case' G=>refine' cy ?H
    case' H=>refine' aa (dv 2) ?I
    case' I=>refine' aa ?J ?K
    case J=>exact(au G_o hr T.F_o (aa (dv 0) ah))
    case' K=>refine' aa ?L ah
    case L=>exact(aj aM aR (dv 1) (au G_i hr T.F_i (aa (dv 0) (aa ae ah))))
   case' F=>refine' ai ?M ?N
   case M=>exact(aJ (i:=4) qG.nd rfl UB (aj aM aR (dv 1) (au G_i hr T.F_i (aa (dv 0) (aa ae ah)))))
   case' N=>refine' ai ?O ?P
   case O=>
    refine' aL ?Q ?R aK
    case Q=>exact(aI (ki hr) kj (dv 2) aF (aB _))
    case' R=>refine' ai ?S ?T
    case S=>
     refine' aJ (i:=5) qG.nd rfl UB ?U (hs:=pN)
     case U=>exact(fe (Ik rfl T.n_sorted Sn (aw (fe (rN rfl E2 (df (dv 1)) j6 lL Ce (λ_ _ _ _=>(jU (i:=0) E2.nd rfl UB)) (λ_ _ _ _=>(GS (aI (j7 hr.units) j8 (au G_i hr T.F_i (aa (dv 1) (aa ae ah))) ae (aB _)))) (λ_ _ _ _=>(dv 0)))) az)))
    case' T=>refine' ar ?V
    case' V=>refine' aA ?W
    case' W=>refine' aP nj nk (dv 3) ?X
    case' X=>refine' cy ?Y
    case' Y=>refine' aa (dv 4) ?Z
    case' Z=>refine' aa ?a ah
    case a=>exact(PE.imp (cw mH rfl T.n_tuple lz (aw (fe (kC (df (dv 5)) fP (cF ae))) az)) (aE mL))
   case' P=>refine' ai ?b ?c
   case b=>
    refine' aL ?d ?e aK
    case d=>exact(aI (ki hr) kj (dv 2) aF (aB _))
    case' e=>refine' ar ?f
    case' f=>refine' aA ?g
    case' g=>refine' aP nj nk (dv 3) ?h
    case h=>exact(cy (aa (au G_k hr T.F_k (aa (dv 0) (aa (dv 1) ah))) ah))
   case' c=>refine' ai ?i ?j
   case i=>
    refine' aL ?k ?l aK
    case k=>exact(aI (ki hr) kj (dv 2) aF (aB _))
    case' l=>refine' ai ?m ?n
    case m=>
     refine' aJ (i:=6) qG.nd rfl UB ?o (hs:=tS)
     case' o=>refine' nV aM aR (df ?p) ?q
     case p=>
      refine' fe ?r
      case' r=>refine' bB ?s
      case' s=>refine' aa ?t ?u
      case t=>exact(cy (aa aF (aa (dv 4) ah)))
      case' u=>refine' aa ?v ah
      case v=>exact(cy (aa aF (aa (dv 4) ah)))
     case q=>exact(df (au G_i hr T.F_i (aa (dv 0) (aa ae ah))))
    case' n=>refine' ar ?w
    case' w=>refine' aA ?x
    case' x=>refine' aP nj nk (dv 3) ?y
    case' y=>refine' cy ?z
    case' z=>refine' aa (dv 6) ?A0
    case' A0=>refine' aa ?A1 ah
    case A1=>exact(j5 (j7 hr.units) j8 (df (au G_i hr T.F_i (aa (dv 0) (aa ae ah)))) (df ae) (aB _))
   case' j=>refine' ai ?A2 ?A3
   case A2=>
    refine' aL ?A4 ?A5 aK
    case A4=>exact(PW.pt (kB (aI (ki hr) kj (dv 2) aF (aB _)) (lh (aI (ki hr) kj (dv 2) aF (aB _)))))
    case' A5=>refine' ar ?A6
    case A6=>exact(aA (aP nj nk (dv 3) (cy (aa (dv 4) ah))))
   case' A3=>refine' ar ?A7
   case A7=>exact(aA (dv 3))
  case B=>
  clear hr T G_i G_o G_k;simp only [bP,MV,true_and,↓iX,↓ja,↓jb,↓jd,↓je,↓jf,↓jg,↓iY,↓ff,↓iy,↓jJ,↓jK,↓jL,↓jM,↓jN,↓jO,↓iz,↓iA,↓iB,↓iC,↓iD,↓iE,↓iF,↓iG,↓iH,↓iI,↓iJ,↓iK,↓iL,↓iM,↓iN,↓iO,↓iP,↓iQ,↓iR,↓iS,↓iT,↓iU,↓iV,↓iW,cT,cU,cX,cW,fC,fD,cV,cY,cZ,dm,dn,fL,cL,dC,bA,dI,dD,dE,dF,fR,dG,bX,dX,dW,dJ,dH,dL,cC,cM,fz,cx,cm,bK,cN,cO,cP,cQ,fA,cR,cS,cq,cu,fB,gz,gA,gB,gC,gD,gE,gF,gG,gH,gI,gJ,gK,gL,gM,gN,gO,gP,gQ,gR,gS,gT,gU,gW,gX,gY,gZ,g6,g9,hG,hJ,hV,hW,hX,hZ,ic,ie,ig,ij,ik,il,ip,iq,iu,eT,dO,fQ,dY,cI,fT,d7,dM,dN,dP,dQ,dR,dS,dU,cG,dZ,d3,d6,bU,fM,fN,fO,fE,fF,fG,fH,dz,fJ,dA,fK,eN,eR,gs,gu,gx,gr,gy,eG,eJ,eL,eM,bY,eQ,eO,eD,eF,eV,eX,eY,eZ,cb,iw,ix,i3,iZ,i4,i5,i6,i8,i9,fg,fh,jk,ji,jj,jh,jq,jl,jm,jn,jo,cJ,fj,jv,jw,jr,jt,ju,jx,jy,jz,fk,jA,jB,jD,jE,fq,jF,jG,jH,jC,jI,ft,fu,fv,fw,jP,jQ,jR,bP,gc,gf,gh,gi,gj,gk,gm,gn,gp,ne_eq,b0,fX,fY,fZ,gb,fU,fV,fW,cD,cE,dB,c7,dj,di,dh,bT,bR,bg,bV,ck,bW,NM,Od,NI,N7,NO,N4,N8,NZ,OD,OE,OM,ON,OO,NU,NS,Oc,N5,N6,N9,exists_eq_left',exists_eq_left,exists_and_left,exists_and_right,Oi,Oj,Sl.v.injEq,Sl.o.injEq,Sl.k.injEq,Ot,Om,Ou,Oe,Oo,NP,and_true,true_and,OP,Ov,exists_const,decide_eq_true_eq,OQ,OR,OH,OI,N0,decide_eq_false_iff_not,and_assoc,or_true,true_or,↓reduceIte,if_true,if_false,N1,Oa,not_true_eq_false,not_false_eq_true,OK,OA,ite_true,ite_false,eq_self,exists_eq,reduceCtorEq,false_and,and_false,or_false,false_or,exists_false,Ox,Oy,cj,OG,OU,OC,OV,N3,OB,Ob,OL,aV,bp,bS,cH,d8,br,ei,er,beq_self_eq_true,d9,eg,fS,bx,UT];intro i i0 i1;obtain⟨wo,hw,ew⟩:=pY [NF "paper",NF "happens",NF "rule",NF "rule",NF "end",NF "hold",NF "lift",NF "leave"] (i:=i) i0 (by show _ < ((8:Nat):Int);omega)
  have nm5:∀i:Int,0<=i->i < 5->∃nm,atI [NH a,NH b,NH c,NH d,NH e] i=some (.str nm)/\Nm nm:=λi i0 i1=>by
   obtain⟨nm,hm,en⟩:=pY [a,b,c,d,e] i0 (show i < ((5:Nat):Int) by omega);exact⟨nm,en,hn nm hm⟩
  refine⟨_,ew,λn hd i i0 i1=>?_⟩;obtain⟨x,ex,hx⟩:=nm5 i i0 i1;refine⟨_,ex,λi i0 i1=>?_⟩;obtain⟨y,ey,hy⟩:=nm5 i i0 i1;refine⟨_,ey,b0,?_⟩;rw [br];split
  ·rename_i h;rw [eq_of_beq h];refine IF (λx hx R S hR hS=>?_) λys hy'=>?_
   ·walk_at "a";intro i i0 i1;split
    ·exact hR
    ·exact hS
   ·have e5:([NH a,.str b,.str c,.str d,.str e]:List UD)=[a,b,c,d,e].map .str:=rfl;rw [e5] at hy';obtain⟨zs,hz,rfl⟩:=List.sublist_map_iff.mp hy';have zl:zs.length<=5:=hz.length_le;refine⟨zs,rfl,Uy,?_⟩;have ce:bw ((kL zs).map NH) none (some 4)=((kL zs).take 4).map .str:=by rw [RF];exact Ey (k:=4)
    rw [ce];refine q _ (.paper hd hx hy ⟨by rw [Pm];omega,λm hm=>hn m (hz.subset ((tP zs).mem_iff.mp (PN hm))),(E3 (nd.sublist hz)).sublist (R5 _ _)⟩)
  ·rename_i hp;refine⟨b0,?_⟩;rw [br];split
   ·rename_i h;rw [eq_of_beq h];exact⟨a,b,c,d,e,rfl,hn,λp pp=>q _ (.rule hd hx pp)⟩
   ·rename_i hr;refine⟨b0,?_⟩;rw [br];split
    ·rename_i h;rw [eq_of_beq h];intro i i0 i1;rcases(show i=0\/i=1 by omega) with rfl | rfl
     ·exact⟨_,rfl,λj _ _=>q _ (.hold hd hx UC hy)⟩
     ·exact⟨_,rfl,λj _ _=>q _ (.hold hd hx UC hy)⟩
    ·rename_i ho;refine⟨b0,?_⟩;rw [br];split
     ·rename_i h;exact q _ (.two (by rw [eq_of_beq h];simp) hd hx hy)
     ·rename_i hh;refine⟨b0,?_⟩;rw [br];split
      ·rename_i h;exact q _ (.two (by rw [eq_of_beq h];simp) hd hx hy)
      ·rename_i hl;refine q _ (.one ?_ hd hx);simp only [NN,NX,or_false] at hw⊢;rcases hw with h | h | h | h | h | h | h | h
       ·exact absurd (by rw [h];rfl) hp
       ·exact absurd (by rw [h];rfl) hh
       ·exact absurd (by rw [h];rfl) hr
       ·exact absurd (by rw [h];rfl) hr
       ·exact .inl h
       ·exact absurd (by rw [h];rfl) ho
       ·exact .inr h
       ·exact absurd (by rw [h];rfl) hl
theorem MY{d:UD}(h:bL d):((kn d).map (λx:Str=>x.length)).sum+(kn d).length*(NF " ").length<=16777216:=by
 have dw:=uJ h;have:=uK dw.2;have:=dw.1;rw [AD];omega
def MZ:List UD->(UD->Prop)->Prop:=λds Q=>∃d,ds=[d]/\bL d/\Q (.str (jT d))
theorem M0(T:Txt K mg t):aC P w K mg base CX0 3 t.a_q t.d_q ["_law_deed"] (bf K MZ):=by
 have G_n:=@ML P w _ _ base _ T;refine T.F_q.F.okD qH (λds Q h=>?_) (λ_ _ _ _ H O ds Q E hr h=>?_)
 ·obtain⟨d,rfl,_⟩:=h;rfl
 ·obtain⟨d,rfl,hd,q⟩:=h;refine'⟨_,?A,?B⟩
  case A=>
   refine' ai ?C ?D
   case C=>
    refine' rK (i:=1) qH.nd rfl UB ?E (hs:=CC)
    case' E=>refine' bB ?F
    case' F=>refine' aa ?G ?H
    case G=>exact(aj aO aS (dv 0) ae)
    case' H=>refine' aa ?I ?J
    case I=>exact(au G_n hr T.F_n (aa (aj aO aS (dv 0) ae) ah))
    case' J=>refine' aa ?K ah
    case K=>exact(aj aO aS (dv 0) ae)
   case' D=>refine' ai ?L ?M
   case L=>
    refine' aL ?N ?O aK
    case N=>exact(aI (ki hr) kj (aj aO aS (dv 0) ae) aF (aB _))
    case' O=>refine' ar ?P
    case' P=>refine' rK (i:=1) qH.nd rfl UB ?Q (hs:=pM)
    case' Q=>refine' kK (df ?R) (df ?S)
    case R=>exact(fe (kK (dw 1) (df (fe (bB (aa (aj aO aS (dv 0) ae) ah))))))
    case S=>exact(fe (pC rfl T.n_list pk (aw (aj aO aS (dv 0) ae) az)))
   case' M=>refine' ai ?T ?U
   case T=>
    refine' aL ?V ?W aK
    case V=>exact(aI (ki hr) kj (aj aO aS (dv 0) ae) aF (aB _))
    case' W=>refine' ai ?X ?Y
    case X=>
     refine' rK (i:=1) qH.nd rfl UB ?Z (hs:=pM)
     case' Z=>refine' kK (dw 1) (df ?a)
     case a=>exact(fe (pC rfl T.n_list pk (aw (wm (df (aj aO aS (dv 0) ae)) fP (cF ae)) az)))
    case' Y=>refine' ar ?b
    case' b=>refine' aL ?c ?d aK
    case c=>exact(aI (j7 hr.units) j8 (PE.imp (aT jZ rfl T.n_len Of (aw (aj aO aS (dv 0) ae) az)) (aE j9)) ae (aB _))
    case' d=>refine' ar ?e
    case' e=>generalize hG27:T3 _ _ _ _=eg27
    refine' rK (i:=1) qH.nd rfl UB ?f (hs:=by subst hG27;exact pM)
    case' f=>subst hG27
    refine' kK (dw 1) (df ?g)
    case' g=>refine' fe ?h
    case' h=>refine' bB ?i
    case' i=>refine' aa ?j ?k
    case j=>exact(De aF (df (aj aO aS (aj aO aS (dv 0) ae) ae)))
    case' k=>refine' aa ?l ?m
    case l=>exact(PE.imp (cw nN rfl T.n_str mv (aw (aj aO aS (aj aO aS (dv 0) ae) ae) az)) (aE nX))
    case' m=>refine' aa ?n ah
    case n=>exact(aj aO aS (aj aO aS (dv 0) ae) ae)
   case' U=>refine' ai ?o ?p
   case o=>
    refine' aL ?q ?r aK
    case q=>exact(aI (ki hr) kj (aj aO aS (dv 0) ae) aF (aB _))
    case' r=>refine' ar ?s
    case' s=>refine' rK (i:=1) qH.nd rfl UB ?t (hs:=pM)
    case' t=>refine' kK (df ?u) (df ?v)
    case u=>
     refine' fe ?w
     case' w=>refine' kK (dw 1) (df ?x)
     case x=>exact(fe (pC rfl T.n_list pk (aw (aj aO aS (dv 0) ae) az)))
    case' v=>refine' fe ?y
    case y=>exact(JC (bB (aa aF ah)) (PE.imp (cw sU rfl T.n_int mI (aw (aj aO aS (dv 0) ae) az)) (aE tK)))
   case' p=>refine' ai ?z ?A0
   case z=>
    refine' aL ?A1 ?A2 aK
    case A1=>exact(PW.pt (kB (aI (ki hr) kj (aj aO aS (dv 0) ae) aF (aB _)) (lh (aI (ki hr) kj (aj aO aS (dv 0) ae) aF (aB _)))))
    case' A2=>refine' ar ?A3
    case A3=>exact(Ht (i:=1) (pv 1) (aj aO aS (dv 0) ae))
   case' A0=>refine' ar ?A4
   case A4=>exact(aA (qm aF (dw 1)))
  case B=>
  clear hr T G_n;have sz:=MY hd;cases hd with
  | @paper n x k ms hn hx hk hm=>
   have e:kn (.tuple [.str "paper",.int n,.str x,.str k,.tuple (ms.map .str)])=NF "paper"::kA n::x::k::ms:=by
    show NF "paper"::kA n::x::k::oR (.tuple (ms.map .str))=_;rw [qL]
   walk_at "a";have:=hm.len;unfold jT at q;rw [e] at sz q;exact⟨n,rfl,hn,by rw [NQ];omega,_,rfl,sz,q⟩
  | two hw hn hx hy=>
   simp only [NN,NX,or_false] at hw;rcases hw with rfl | rfl
   ·walk_at "a";exact⟨_,rfl,hn,_,rfl,sz,q⟩
   ·walk_at "a";exact⟨_,rfl,hn,_,rfl,sz,q⟩
  | rule hn hx hp=>
   cases hp with
   | wfl hw hk=>
    walk_at "a";refine⟨_,rfl,hn,?_⟩;dsimp only;rw [Uz Ce];exact⟨_,rfl,sz,q⟩
   | kg hw hk hs h0 h1 hu=>
    walk_at "a";refine⟨_,rfl,hn,?_⟩;dsimp only;rw [UA Ce];obtain⟨e,z⟩:=uG hs;exact⟨_,e,z,n6 h0 Uy,_,rfl,sz,q⟩
  | one hw hn hx=>
   simp only [NN,NX,or_false] at hw;rcases hw with rfl | rfl
   ·walk_at "a";exact⟨_,rfl,hn,_,rfl,sz,q⟩
   ·walk_at "a";exact⟨_,rfl,hn,_,rfl,sz,q⟩
  | @hold n x g y b hn hx hg hy=>
   cases b
   ·walk_at "a";exact⟨n,rfl,hn,(by show(5:Nat)<=16777216;decide),[NF "hold",kA n,x,g,y],rfl,sz,q⟩
   ·walk_at "a";exact⟨n,rfl,hn,(by show(6:Nat)<=16777216;decide),[NF "hold",kA n,x,g,y,NF "deep"],rfl,sz,q⟩
end
theorem E4:cK (ay uA) ["_law_text","_law_words","_law_head","_law_more"] ["_law_word"] 1 [] ⟨OJ,[ (NL ".0",Ws),(NL "_law_word",Ws),(NL "_law_name",OS)],false,false,[]⟩:= .of
section
variable {P:US} {w:UU} {K:NG} {mg:Str->Option UE} {base:UR} {t:k9}
theorem mF{z:Str}{Q:UD->Prop}:AO [.str z] Q↔z.length<=1000/\Q (.bool (bZ (.str z))):=⟨λuu55=>by obtain⟨_,e,h⟩:=uu55;cases e;exact h,λh=>⟨_,rfl,h⟩⟩
theorem n9{z:Str}{Q:UD->Prop}:E1 [.str z] Q↔z.length<=1000/\Q (kM z):=⟨λuu56=>by obtain⟨_,e,h⟩:=uu56;cases e;exact h,λh=>⟨_,rfl,h⟩⟩
theorem lH{z:Str}:bZ (.str z)=true↔Nm z:=⟨λh=>by obtain⟨y,e,hy⟩:=mC h;injection e with e;rw [e];exact hy,Nm.is⟩
theorem AR{u v a:Str}:(u==a || v==a)=decide (a∈[u,v]):=by
 rw [P5,Rb,beq_iff_eq,beq_iff_eq,decide_eq_true_eq,NN,PL];exact or_congr eq_comm eq_comm
theorem E5{u v w a:Str}:(u==a || (v==a || w==a))=decide (a∈[u,v,w]):=by
 rw [P5,Rb,Rb,beq_iff_eq,beq_iff_eq,beq_iff_eq,decide_eq_true_eq,NN,NN,PL];exact or_congr eq_comm (or_congr eq_comm eq_comm)
theorem uQ{z:Str}{c:Nat}:Txt.join ⟨#[c]⟩ (Txt.split z ⟨#[c]⟩)=z:=by
 rw [show Txt.join ⟨#[c]⟩ (Txt.split z ⟨#[c]⟩)=QL ⟨#[c]⟩ _ from P6 _ _];exact RV z ⟨#[c]⟩
theorem M1{a b:List Str}:(O5 (a.map .str)).eqv (O5 (b.map .str))=decide (a=b):=by rw [NR];exact uM
theorem qR{a b:List Str}:(O6 (a.map .str)).eqv (O6 (b.map .str))=decide (a=b):=by rw [NR];exact uM
theorem M3{cs:List Str}{Q:UD->Prop}{X:Prop}(hw:∀z∈cs,nF z)(q:(∀s,lX s->jV s≠cs)->Q .none)(hx:∀s,lX s->jV s=cs->X):
 P8 (O5 (Pe NH cs))=true/\P8 (O5 [NH (NF "coming")])=true/\
  if (O5 (Pe NH cs)).eqv (O5 [NH (NF "coming")])=false then
   if (((Pe NH cs).length:Int)==2)=false then Q QW
   else ∃x,atI (Pe NH cs) 0=some x/\P8 x=true/\Py [NH (NF "first"),NH (NF "last")]=true/\
    if ((NH (NF "first")).eqv x || (NH (NF "last")).eqv x)=false then Q QW
    else ∃x,atI (Pe NH cs) 1=some x/\AO [x] λd=>∃b,d=RB b/\if b=false then Q QW else X
  else X:=by
 refine⟨(pX λz hz=>(hw z hz).2).2,td,?_⟩;rw [show(O5 (Pe NH cs)).eqv (O5 [NH (NF "coming")])=decide (cs=[NF "coming"]) from M1 (b:=[NF "coming"])];by_cases hc:cs=[NF "coming"]
 ·rw [Uz (by rw [decide_eq_true hc];decide)];exact hx _ .coming hc.symm
 ·rw [UA (decide_eq_false hc)];have no:(∀a b,cs=[a,b]->¬(a∈[NF "first",NF "last"]/\Nm b))->Q .none:=λh=>q λs hs e=>by
   cases hs with
   | coming=>exact hc e.symm
   | first hh=>exact h _ _ e.symm ⟨UC,hh⟩
   | last hh=>exact h _ _ e.symm ⟨UC,hh⟩
  match cs,hw with
  | [a,b],hw=>
   have wa:=hw a UC;have wb:=hw b UC;rw [Uz UC];refine⟨_,aV,mX.mpr wa.2,td,?_⟩;rw [br,br,AR];by_cases ha:a∈[NF "first",NF "last"]
   ·rw [Uz (by rw [decide_eq_true ha];decide)];refine⟨_,bp,_,rfl,wb.1,_,rfl,?_⟩;by_cases hb:Nm b
    ·rw [Uz (by rw [lH.mpr hb];decide)];simp only [NN,NX,or_false] at ha;rcases ha with rfl | rfl
     ·exact hx _ (.first hb) rfl
     ·exact hx _ (.last hb) rfl
    ·rw [UA (by simpa using λz=>hb (lH.mp z))];exact no λ_ _ e z=>by injection e with _ e;injection e with e;exact hb (e▸z.2)
   ·rw [UA (decide_eq_false ha)];exact no λ_ _ e z=>by injection e with e _;exact ha (e▸z.1)
  | [],_=>rw [UA UC];exact no λ_ _ e=>by cases e
  | [_],_=>rw [UA UC];exact no λ_ _ e=>by cases e
  | _::_::_::_,_=>rw [UA (by simp;omega)];exact no λ_ _ e=>by cases e
theorem M4{z:Str}(h:Wz z):Pb z=true:=mZ.mpr λc hc=>Tf (h.2 c hc).2 Ce
def M5:List UD->(UD->Prop)->Prop:=λds Q=>∃ws:List Str,ds=[.list (kX ws)]/\ws.length<=1002/\(∀z∈ws,nF z)/\(∀p,mf p->lG p=ws->Q p)/\((∀p,mf p->lG p≠ws)->Q .none)
theorem M6(T:Txt K mg t):aC P w K mg base CX0 2 t.a_w t.d_w ["_law_words"] (bf K M5):=by
 have G_t:=@ET P w _ _ base _ T;have G_u:=@EU P w _ _ base _ T;refine T.F_w.F.okD Aw (λds Q h=>?_) (λ_ _ _ _ H O ds Q E hr h=>?_)
 ·obtain⟨ws,rfl,_⟩:=h;rfl
 ·obtain⟨ws,rfl,hl,hw,q1,q2⟩:=h;refine'⟨_,?A,?B⟩
  case A=>
   refine' ai ?C ?D
   case C=>
    refine' aL ?E ?F aK
    case E=>exact(PW.pt (kQ (aI (j7 hr.units) j8 (PE.imp (aT jZ rfl T.n_len Of (aw (dv 0) az)) (aE j9)) ae (aB _)) (kQ (aI (pG hr) ng (aj aM aR (dv 0) ae) (fe (bB (mY (ds:=[.str "while",.str "follow",.str "leave"]) (by rfl)))) rfl) (md (cn (au G_u hr T.F_u (aa (aj aM aR (dv 0) ae) ah)))))))
    case' F=>refine' ar ?G
    case G=>exact(aA (PE.imp (cw mH rfl T.n_tuple lz (aw (dv 0) az)) (aE mL)))
   case' D=>refine' ai ?H ?I
   case H=>
    refine' aL ?J ?K aK
    case J=>exact(PW.pt (kB (aI (mV hr.units) mW (PE.imp (aT jZ rfl T.n_len Of (aw (dv 0) az)) (aE j9)) ae (aB _)) (kB (aI (wk hr) ng (aj aM aR (dv 0) ae) (fe (bB (aa aF (aa aF ah)))) rfl) (lh (kr (cn (au G_u hr T.F_u (aa (aj aM aR (dv 0) ae) ah))))))))
    case K=>refine' ar (aA ku)
   case' I=>refine' ai ?L ?M
   case L=>
    refine' aJ (i:=1) Aw.nd rfl UB ?N (hs:=pN)
    case N=>exact(PE.imp (cw mH rfl T.n_tuple lz (aw (fe (pO (aj aM aR (dv 0) ae) aF)) az)) (aE mL))
   case' M=>refine' ai ?O ?P
   case O=>
    refine' aL ?Q ?R aK
    case Q=>exact(aI (mV hr.units) mW (dv 1) (cy (aa aF ah)) (aB _))
    case' R=>refine' ar ?S
    case' S=>refine' aL ?T ?U aK
    case T=>exact(PW.pt (kB (aI (mV hr.units) mW (PE.imp (aT jZ rfl T.n_len Of (aw (dv 1) az)) (aE j9)) ae (aB _)) (kB (aI (wk hr) ng (aj aO aS (dv 1) ae) (fe (bB (aa aF (aa aF ah)))) rfl) (lh (kr (cn (au G_u hr T.F_u (aa (aj aO aS (dv 1) ae) ah))))))))
    case U=>refine' ar (aA ku)
   case' P=>refine' ai ?V ?W
   case V=>exact(aJ (i:=2) Aw.nd rfl UB (au G_t hr T.F_t (aa (aj aM aR (dv 0) ae) (aa ae ah))))
   case' W=>refine' ai ?X ?Y
   case X=>
    refine' aL ?Z ?a aK
    case Z=>exact(PW.pt (kB (aI sQ wI (dv 2) ku (aB _)) (kB (aI (mV hr.units) mW (PE.imp (cw nN rfl T.n_str mv (aw (dv 2) az)) (aE nX)) (aj aM aR (dv 0) ae) (aB _)) (lh (aI (wk hr) ng (aj aM aR (dv 0) ae) (fe (bB (mY (ds:=[.str "days",.str "months",.str "years"]) (by rfl)))) rfl)))))
    case a=>refine' ar (aA ku)
   case' Y=>refine' ar ?b
   case' b=>refine' aA ?c
   case' c=>refine' cy ?d
   case' d=>refine' aa ?e ?f
   case e=>exact(aj aM aR (dv 0) ae)
   case' f=>refine' aa ?g ?h
   case g=>exact(aj aM aR (dv 0) ae)
   case' h=>refine' aa (dv 1) ?i
   case' i=>refine' aa (dv 2) ?j
   case' j=>refine' aa ?k ah
   case k=>exact(aj aM aR (dv 0) ae)
  case B=>
  clear hr T G_t G_u;unfold kX;have two:(∀(a b:Str),ws≠[a,b])->(∀(a b c d e:Str),ws≠[a,b,c,d,e])->Q .none:=λh h2=>q2 λp hp e=>by
   cases hp with
   | wfl _ _=>exact h _ _ e.symm
   | kg _ _ _ _ _ _=>exact h2 _ _ _ _ _ e.symm
  match ws,hl,hw,q1,q2,two with
  | [a,b],hl,hw,q1,q2,_=>
   simp only [mF,AQ,true_and,↓iX,↓ja,↓jb,↓jd,↓je,↓jf,↓jg,↓iY,↓ff,↓iy,↓jJ,↓jK,↓jL,↓jM,↓jN,↓jO,↓iz,↓iA,↓iB,↓iC,↓iD,↓iE,↓iF,↓iG,↓iH,↓iI,↓iJ,↓iK,↓iL,↓iM,↓iN,↓iO,↓iP,↓iQ,↓iR,↓iS,↓iT,↓iU,↓iV,↓iW,cT,cU,cX,cW,fC,fD,cV,cY,cZ,dm,dn,fL,cL,dC,bA,dI,dD,dE,dF,fR,dG,bX,dX,dW,dJ,dH,dL,cC,cM,fz,cx,cm,bK,cN,cO,cP,cQ,fA,cR,cS,cq,cu,fB,gz,gA,gB,gC,gD,gE,gF,gG,gH,gI,gJ,gK,gL,gM,gN,gO,gP,gQ,gR,gS,gT,gU,gW,gX,gY,gZ,g6,g9,hG,hJ,hV,hW,hX,hZ,ic,ie,ig,ij,ik,il,ip,iq,iu,eT,dO,fQ,dY,cI,fT,d7,dM,dN,dP,dQ,dR,dS,dU,cG,dZ,d3,d6,bU,fM,fN,fO,fE,fF,fG,fH,dz,fJ,dA,fK,eN,eR,gs,gu,gx,gr,gy,eG,eJ,eL,eM,bY,eQ,eO,eD,eF,eV,eX,eY,eZ,cb,iw,ix,i3,iZ,i4,i5,i6,i8,i9,fg,fh,jk,ji,jj,jh,jq,jl,jm,jn,jo,cJ,fj,jv,jw,jr,jt,ju,jx,jy,jz,fk,jA,jB,jD,jE,fq,jF,jG,jH,jC,jI,ft,fu,fv,fw,jP,jQ,jR,bP,gc,gf,gh,gi,gj,gk,gm,gn,gp,ne_eq,b0,fX,fY,fZ,gb,fU,fV,fW,cD,cE,dB,c7,dj,di,dh,bT,bR,bg,bV,ck,bW,NM,Od,NI,N7,NO,N4,N8,NZ,OD,OE,OM,ON,OO,NU,NS,Oc,N5,N6,N9,exists_eq_left',exists_eq_left,exists_and_left,exists_and_right,Oi,Oj,Sl.v.injEq,Sl.o.injEq,Sl.k.injEq,Ot,Om,Ou,Oe,Oo,NP,and_true,true_and,OP,Ov,exists_const,decide_eq_true_eq,OQ,OR,OH,OI,N0,decide_eq_false_iff_not,and_assoc,or_true,true_or,↓reduceIte,if_true,if_false,N1,Oa,not_true_eq_false,not_false_eq_true,OK,OA,ite_true,ite_false,eq_self,exists_eq,reduceCtorEq,false_and,and_false,or_false,false_or,exists_false,Ox,Oy,cj,OG,OU,OC,OV,N3,OB,Ob,OL,aV,bp,bS,cH,d8,br,ei,er,beq_self_eq_true,d9,eg,fS,bx,UT];have wa:=hw a UC;have wb:=hw b UC;have no:¬(a∈[NF "while",NF "follow",NF "leave"]/\Nm b)->Q .none:=λh=>q2 λp hp e=>by
    cases hp with
    | wfl h1 h2=>
     injection e with e1 e;injection e with e2 _
     subst e1 e2;exact h ⟨h1,h2⟩
    | kg _ _ _ _ _ _=>exact absurd (congrArg QU e) (by simp [lG])
   rw [UA Ce,E5];refine⟨mX.mpr wa.2,td,?_⟩;by_cases ha:a∈[NF "while",NF "follow",NF "leave"]
   ·rw [UA (decide_eq_true ha)];refine⟨wb.1,?_⟩;by_cases hb:Nm b
    ·rw [UA (lH.mpr hb)];exact q1 _ (.wfl ha hb) rfl
    ·rw [Uz (λz=>hb (lH.mp z)),UA Ce];exact no λz=>hb z.2
   ·rw [Uz (by simpa using ha),UA Ce];exact no λz=>ha z.1
  | [a,b,c,d,e],hl,hw,q1,q2,_=>
   simp only [mF,AQ,true_and,↓iX,↓ja,↓jb,↓jd,↓je,↓jf,↓jg,↓iY,↓ff,↓iy,↓jJ,↓jK,↓jL,↓jM,↓jN,↓jO,↓iz,↓iA,↓iB,↓iC,↓iD,↓iE,↓iF,↓iG,↓iH,↓iI,↓iJ,↓iK,↓iL,↓iM,↓iN,↓iO,↓iP,↓iQ,↓iR,↓iS,↓iT,↓iU,↓iV,↓iW,cT,cU,cX,cW,fC,fD,cV,cY,cZ,dm,dn,fL,cL,dC,bA,dI,dD,dE,dF,fR,dG,bX,dX,dW,dJ,dH,dL,cC,cM,fz,cx,cm,bK,cN,cO,cP,cQ,fA,cR,cS,cq,cu,fB,gz,gA,gB,gC,gD,gE,gF,gG,gH,gI,gJ,gK,gL,gM,gN,gO,gP,gQ,gR,gS,gT,gU,gW,gX,gY,gZ,g6,g9,hG,hJ,hV,hW,hX,hZ,ic,ie,ig,ij,ik,il,ip,iq,iu,eT,dO,fQ,dY,cI,fT,d7,dM,dN,dP,dQ,dR,dS,dU,cG,dZ,d3,d6,bU,fM,fN,fO,fE,fF,fG,fH,dz,fJ,dA,fK,eN,eR,gs,gu,gx,gr,gy,eG,eJ,eL,eM,bY,eQ,eO,eD,eF,eV,eX,eY,eZ,cb,iw,ix,i3,iZ,i4,i5,i6,i8,i9,fg,fh,jk,ji,jj,jh,jq,jl,jm,jn,jo,cJ,fj,jv,jw,jr,jt,ju,jx,jy,jz,fk,jA,jB,jD,jE,fq,jF,jG,jH,jC,jI,ft,fu,fv,fw,jP,jQ,jR,bP,gc,gf,gh,gi,gj,gk,gm,gn,gp,ne_eq,b0,fX,fY,fZ,gb,fU,fV,fW,cD,cE,dB,c7,dj,di,dh,bT,bR,bg,bV,ck,bW,NM,Od,NI,N7,NO,N4,N8,NZ,OD,OE,OM,ON,OO,NU,NS,Oc,N5,N6,N9,exists_eq_left',exists_eq_left,exists_and_left,exists_and_right,Oi,Oj,Sl.v.injEq,Sl.o.injEq,Sl.k.injEq,Ot,Om,Ou,Oe,Oo,NP,and_true,true_and,OP,Ov,exists_const,decide_eq_true_eq,OQ,OR,OH,OI,N0,decide_eq_false_iff_not,and_assoc,or_true,true_or,↓reduceIte,if_true,if_false,N1,Oa,not_true_eq_false,not_false_eq_true,OK,OA,ite_true,ite_false,eq_self,exists_eq,reduceCtorEq,false_and,and_false,or_false,false_or,exists_false,Ox,Oy,cj,OG,OU,OC,OV,N3,OB,Ob,OL,aV,bp,bS,cH,d8,br,ei,er,beq_self_eq_true,d9,eg,fS,bx,UT];have wa:=hw a UC;have wb:=hw b UC;have wc:=hw c UC;have wd:=hw d UC;have we:=hw e UC
   have no:¬(a∈[NF "keep",NF "gone"]/\Nm b/\(∃s,lX s/\jV s=Txt.split c (NF ":"))/\(l3 d 3/\ke (nv d)=d)/\e∈[NF "days",NF "months",NF "years"])->Q .none:=λh=>q2 λp hp ee=>by
    cases hp with
    | wfl _ _=>exact absurd (congrArg QU ee) (by simp [lG])
    | @kg _ _ _ s m hw2 hk hs h0 h1 hu=>
     injection ee with e1 ee;injection ee with e2 ee;injection ee with e3 ee;injection ee with e4 ee;injection ee with e5 _
     subst e1 e2 e3 e4 e5;have sw:=AH hs;obtain⟨⟨l1,l2⟩,f1,f2,_⟩:=AG h0 h1;have rd:intText? (ke m)=some m:=by
      obtain⟨k,rfl⟩:=OX h0;exact SO Uy Uy
     refine h ⟨hw2,hk,⟨s,hs,?_⟩,⟨⟨l2,by show((ke m).length:Int)<=3;omega,f1⟩,?_⟩,hu⟩
     ·rw [qM,AF sw.1 λz hz=>(sw.2 z hz).2.1]
     ·show ke (nv (ke m))=ke m;unfold nv;rw [rd];rfl
   rw [Uz Ce,Uz Ce,AR,E5];refine⟨mX.mpr wa.2,td,?_⟩;by_cases ha:a∈[NF "keep",NF "gone"]
   ·rw [Uz (by rw [decide_eq_true ha];decide)];refine⟨wb.1,?_⟩;by_cases hb:Nm b
    ·rw [Uz (by rw [lH.mpr hb];decide)];refine⟨td,by have:=wc.1;omega,M3 (λz hz=>?_) (λh=>no λz=>?_) λs hs es=>?_⟩
     ·rw [qM] at hz;exact⟨Oz (uN hz) wc.1,uP wc.2 hz⟩
     ·obtain⟨s,hs,es⟩:=z.2.2.1;exact h s hs es
     ·refine⟨wd.1,?_⟩;by_cases hf:l3 d 3
      ·have ef:kN d 3= .int (nv d):=by unfold kN;rw [UA hf]
       have dl:d.length<=3:=by have:=hf.2.1;omega
       obtain⟨y,y1,y2⟩:=AL hf.2.2 (by have:=hf.1;omega) Uy;have en:nv d=y:=by unfold nv;rw [y2];rfl
       have nw:=Ew (m:=(y:Int)) Uy Uy;rw [ef,en,Uz (by simp [mh])];refine⟨_,rfl,n6 Uy Uy,mX.mpr (M4 nw),mX.mpr wd.2,?_⟩;by_cases ed:ke (y:Int)=d
       ·rw [Uz (by rw [show NF (toString (y:Int))=d from ed];simp)];refine⟨mX.mpr we.2,td,?_⟩;by_cases hu:e∈[NF "days",NF "months",NF "years"]
        ·rw [Uz (by rw [decide_eq_true hu];decide)];have ex:O5 (Pe .str (Txt.split c (NF ":")))=s:=by rw [<-es];exact(uG hs).1.symm
         rw [ex];refine q1 _ (.kg ha hb hs Uy Uy hu) ?_;show [a,b,Txt.join (NF ":") (jV s),ke (y:Int),e]=_;rw [es,ed,qM,uQ]
        ·rw [UA (decide_eq_false hu)];exact no λz=>hu z.2.2.2.2
       ·rw [UA (show(NF (toString (y:Int))==d)=false from beq_eq_false_iff_ne.mpr ed)];exact no λz=>ed (by rw [<-en];exact z.2.2.2.1.2)
      ·have ef:kN d 3= .none:=by unfold kN;rw [Uz hf]
       rw [ef,UA Ce];exact no λz=>hf z.2.2.2.1.1
    ·rw [UA (by simpa using λz=>hb (lH.mp z))];exact no λz=>hb z.2.1
   ·rw [UA (decide_eq_false ha)];exact no λz=>ha z.1
  | [],_,_,_,q2,two=>walk_at "a";rw [Uz Ce,UA Ce];exact two (λ_ _ e=>by cases e) λ_ _ _ _ _ e=>by cases e
  | [_],_,_,_,q2,two=>walk_at "a";rw [Uz Ce,UA Ce];exact two (λ_ _ e=>by cases e) λ_ _ _ _ _ e=>by cases e
  | [_,_,_],_,_,_,q2,two=>walk_at "a";rw [Uz Ce,UA Ce];exact two (λ_ _ e=>by cases e) λ_ _ _ _ _ e=>by cases e
  | [_,_,_,_],_,_,_,q2,two=>walk_at "a";rw [Uz Ce,UA Ce];exact two (λ_ _ e=>by cases e) λ_ _ _ _ _ e=>by cases e
  | _::_::_::_::_::_::r,_,_,_,q2,two=>walk_at "a";rw [Uz (by simp;omega),UA (by simp;omega)];exact two (λ_ _ e=>by cases e) λ_ _ _ _ _ e=>by cases e
theorem M7{z:Str}(h:bG z 4=true):∃y:Nat,y < 10000/\z=⟨(d4 y).toArray⟩:=by
 unfold bG at h;rw [Oh,decide_eq_true_eq,Pf] at h;obtain⟨hl,hm⟩:=h;have hz:z.cps.toList.length=4:=by rw [show z.cps.toList.length=z.length from NY];omega
 match e:z.cps.toList,hz with
 | [a,b,c,d],_=>
  rw [e] at hm;have f:∀x∈[a,b,c,d],48<=x/\x < 58:=λx hx=>sA (by simpa using hm x hx);have ha:=f a UC;have hb:=f b UC;have hc:=f c UC;have hd:=f d UC;refine⟨(a - 48)*1000+(b - 48)*100+(c - 48)*10+(d - 48),Uy,(pU e).trans (congrArg (λl:List Nat=>(⟨l.toArray⟩:Str)) ?_)⟩;unfold d4;rw [NP,NP,NP,NP];exact⟨Uy,Uy,Uy,Uy,rfl⟩
theorem E6{z:Str}(h:bG z 2=true):∃y:Nat,y < 100/\z=⟨(d2 y).toArray⟩:=by
 unfold bG at h;rw [Oh,decide_eq_true_eq,Pf] at h;obtain⟨hl,hm⟩:=h;have hz:z.cps.toList.length=2:=by rw [show z.cps.toList.length=z.length from NY];omega
 match e:z.cps.toList,hz with
 | [a,b],_=>
  rw [e] at hm;have f:∀x∈[a,b],48<=x/\x < 58:=λx hx=>sA (by simpa using hm x hx);have ha:=f a UC;have hb:=f b UC;refine⟨(a - 48)*10+(b - 48),Uy,(pU e).trans (congrArg (λl:List Nat=>(⟨l.toArray⟩:Str)) ?_)⟩;unfold d2;rw [NP,NP];exact⟨Uy,Uy,rfl⟩
theorem M8{z:Str}{k:Int}(h:lQ z=some k):z=kA k/\kT k:=by
 have hj:=uQ (z:=z) (c:=45);rw [show(⟨#[45]⟩:Str)=NF "-" by decide+kernel] at hj;unfold lQ at h;generalize Txt.split z (NF "-")=ws at*
 match ws with
 | [a,b,c]=>
  simp only [] at h;split at h
  ·rename_i hc;obtain⟨fa,fb,fc,hd,hn⟩:=hc;injection h with h
   obtain⟨y,y1,rfl⟩:=M7 fa;obtain⟨m,m1,rfl⟩:=E6 fb;obtain⟨n,n1,rfl⟩:=E6 fc;have v1:nv ⟨(d4 y).toArray⟩=y:=by
    unfold nv;obtain⟨y',_,_,e,_⟩:=sC fa;by_cases q:y < 1000
    ·rw [Ec ⟨y,q⟩];rfl
    ·rw [wZ Uy Uy];rfl
   have v2:nv ⟨(d2 m).toArray⟩=m:=by unfold nv;rw [qz ⟨m,m1⟩];rfl
   have v3:nv ⟨(d2 n).toArray⟩=n:=by unfold nv;rw [qz ⟨n,n1⟩];rfl
   rw [v1,v2,v3] at hd hn h;have D:k8 k y m n:=⟨hd.2.2.1,hd.2.2.2.1,hd.2.2.2.2.1,hd.2.2.2.2.2,h⟩;have nn:=Eg hd;refine⟨?_,Uy,Uy⟩;rw [<-uF D,<-hj,<-EG];simp only [O8]
  ·cases h
 | []=>cases h
 | [_]=>cases h
 | [_,_]=>cases h
 | _::_::_::_::_=>cases h
theorem M9{ms:List Str}(h:ms.Pairwise oM):kL (ms.foldl kl [])=ms:=by
 have nd:ms.Nodup:=h.imp λ{a b} z e=>by subst e;exact absurd z (List.lt_irrefl _)
 refine(wq ?_ (h.imp λ{a b} z=>decide_eq_true (Std.le_of_lt z))).symm;exact(List.perm_ext_iff_of_nodup nd (wK .nil)).mpr λa=>by rw [wJ];simp
structure DW (w:Str) (more:List Str):Prop where
 fin:w∈(["end","lift"]:List Str)->more=[]
 tw:w∈(["happens","leave"]:List Str)->∃y,more=[y]/\Nm y
 ru:w="rule"->∃p,mf p/\lG p=more
 ho:w="hold"->∃g y,g∈(["paper","kind"]:List Str)/\Nm y/\(more=[g,y]\/more=[g,y,"deep"])
 pa:w="paper"->∃k ms,more=k::ms/\Nm k/\wD ms
 al:w∈(["end","lift","happens","leave","hold","paper","rule"]:List Str)
theorem E7{p:UD}(h:mf p):ml [p]=lG p:=by cases h <;> rfl
theorem Na{w x:Str}{n:Int}{r:List UD}(h:bL (.tuple (.str w:: .int n:: .str x::r))):DW w (ml r):=by
 have nm:∀{u:Str}{l m:List Str},u∈l->(∀z∈l,z ∉ m)->u ∉ m:=λh h2=>h2 _ h;have ne:∀{u v:Str}{l:List Str},u∈l->(∀z∈l,z≠v)->u≠v:=λh h2=>h2 _ h;cases h with
 | @paper _ _ k ms _ _ hk hm=>
  have e:ml [NH k,O5 (Pe NH ms)]=k::ms:=by
   show k::oR (.tuple (ms.map .str))=_;rw [qL]
  rw [e];exact⟨λz=>absurd z td,λz=>absurd z td,λz=>absurd z td,λz=>absurd z td,λ_=>⟨k,ms,rfl,hk,hm⟩,td⟩
 | two hw _ _ hy=>exact⟨λz=>absurd z (nm hw td),λ_=>⟨_,rfl,hy⟩,λz=>absurd z (ne hw td),λz=>absurd z (ne hw td),λz=>absurd z (ne hw td),by
  simp only [NN,NX,or_false] at hw⊢;rcases hw with h | h <;> simp [h]⟩
 | rule _ _ hp=>
  rw [E7 hp];exact⟨λz=>absurd z td,λz=>absurd z td,λ_=>⟨_,hp,rfl⟩,λz=>absurd z td,λz=>absurd z td,td⟩
 | one hw=>exact⟨λ_=>rfl,λz=>absurd z (nm hw td),λz=>absurd z (ne hw td),λz=>absurd z (ne hw td),λz=>absurd z (ne hw td),by
  simp only [NN,NX,or_false] at hw⊢;rcases hw with h | h <;> simp [h]⟩
 | @hold _ _ g y b _ _ hg hy=>exact⟨λz=>absurd z td,λz=>absurd z td,λz=>absurd z td,λ_=>⟨g,y,hg,hy,by cases b;exact .inl rfl;exact .inr rfl⟩,λz=>absurd z td,td⟩
def Nb:List UD->(UD->Prop)->Prop:=λds Q=>∃z,ds=[.str z]/\nF z/\(∀d,bL d->jT d=z->Q d)/\((∀d,bL d->jT d≠z)->Q .none)
theorem Nc(T:Txt K mg t):aC P w K mg base CX0 3 t.a_x t.d_x ["_law_text"] (bf K Nb):=by
 have G_v:=@MU P w _ _ base _ T;have G_u:=@EU P w _ _ base _ T;have G_w:=@M6 P w _ _ base _ T;refine T.F_x.F.okD uB (λds Q h=>?_) (λ_ _ _ _ H O ds Q E hr h=>?_)
 ·obtain⟨d,rfl,_⟩:=h;rfl
 ·obtain⟨z,rfl,hz,q1,q2⟩:=h;refine'⟨_,?A,?B⟩
  case A=>
   refine' ai ?C ?D
   case C=>exact(aJ (i:=1) uB.nd rfl UB (fe (pO (dv 0) aF)))
   case' D=>refine' ai ?E ?F
   case E=>
    refine' aL ?G ?H aK
    case G=>exact(PW.pt (kB (aI qf bQ (PE.imp (aT jZ rfl T.n_len Of (aw (dv 1) az)) (aE j9)) ae (aB _)) (kB (aI sQ wI (au G_v hr T.F_v (aa (aj aM aR (dv 1) ae) ah)) ku (aB _)) (lh (kr (cn (au G_u hr T.F_u (aa (aj aM aR (dv 1) ae) ah))))))))
    case H=>refine' ar (aA ku)
   case' F=>refine' ai ?I ?J
   case I=>
    refine' aJ (i:=2) uB.nd rfl UB ?K (hs:=wG)
    case' K=>refine' cy ?L
    case' L=>refine' aa ?M ?N
    case M=>exact(aj aM aR (dv 1) ae)
    case' N=>refine' aa ?O ?P
    case O=>exact(au G_v hr T.F_v (aa (aj aM aR (dv 1) ae) ah))
    case' P=>refine' aa ?Q ah
    case Q=>exact(aj aM aR (dv 1) ae)
   case' J=>refine' ai ?R ?S
   case R=>exact(aJ (i:=3) uB.nd rfl UB (fe (kC (df (dv 1)) (cF ae) fP)))
   case' S=>refine' ai ?T ?U
   case T=>
    refine' aL ?V ?W aK
    case V=>exact(PW.pt (kQ (aI (pG hr) ng (aj aM aR (dv 1) ae) (fe (bB (aa aF (aa aF ah)))) rfl) (md (aI (j7 hr.units) j8 (dv 3) (fe (bB ah)) (aB _)))))
    case' W=>refine' ar ?X
    case X=>exact(aA (dv 2))
   case' U=>refine' ai ?Y ?Z
   case Y=>
    refine' aL ?a ?b aK
    case a=>exact(PW.pt (kQ (aI (pG hr) ng (aj aM aR (dv 1) ae) (fe (bB (aa aF (aa aF ah)))) rfl) (kQ (aI (j7 hr.units) j8 (PE.imp (aT jZ rfl T.n_len Of (aw (dv 3) az)) (aE j9)) ae (aB _)) (md (cn (au G_u hr T.F_u (aa (aj aM aR (dv 3) ae) ah)))))))
    case' b=>refine' ar ?c
    case c=>exact(aA (aP nj nk (dv 2) (cy (aa (aj aM aR (dv 3) ae) ah))))
   case' Z=>refine' ai ?d ?e
   case d=>
    refine' aL ?f ?g aK
    case f=>exact(PW.pt (kQ (aI (ki hr) kj (aj aM aR (dv 1) ae) aF (aB _)) (kQ (aI oY bQ (PE.imp (aT jZ rfl T.n_len Of (aw (dv 3) az)) (aE j9)) ae (aB _)) (kQ (aI (pG hr) ng (aj aM aR (dv 3) ae) (fe (bB (aa aF (aa aF ah)))) rfl) (md (cn (au G_u hr T.F_u (aa (aj aM aR (dv 3) ae) ah))))))))
    case' g=>refine' ar ?h
    case' h=>generalize hG30:T6 _ _ _=eg30
    refine' aA ?i
    case' i=>subst hG30
    refine' nV aM aR (df ?j) ?k
    case j=>
     refine' fe ?l
     case' l=>refine' bB ?m
     case' m=>refine' aa ku ?n
     case' n=>refine' aa ?o ah
     case' o=>refine' aP nj nk (dv 2) ?p
     case' p=>refine' cy ?q
     case' q=>refine' aa ?r ?s
     case r=>exact(PE.imp (cw mH rfl T.n_tuple lz (aw (fe (kC (df (dv 3)) fP (cF ae))) az)) (aE mL))
     case' s=>refine' aa ?t ah
     case t=>exact(j5 (j7 hr.units) j8 (df (fe (kC (df (dv 3)) (cF ae) fP))) (df (fe (bB (aa aF ah)))) (aB _))
    case k=>exact(df (PE.imp (cw sU rfl T.n_int mI (aw (j5 (pG hr) ng (df (fe (kC (df (dv 3)) (cF ae) fP))) (df (fe (bB (aa (fe (bB ah)) (aa (fe (bB (aa aF ah))) ah))))) rfl) az)) (aE tK)))
   case' e=>refine' ai ?u ?v
   case u=>
    refine' aL ?w ?x aK
    case w=>exact(PW.pt (kQ (aI (ki hr) kj (aj aM aR (dv 1) ae) aF (aB _)) (kQ (oC jY jY bQ bQ (df ae) (df (PE.imp (aT jZ rfl T.n_len Of (aw (dv 3) az)) (aE j9))) (df ae)) (md (cn (PE.imp (aT (oA rfl) rfl T.n_all oB (aw (fe (rN rfl E4 (df (dv 3)) j6 lL Ce (λ_ _ _ _=>(jU (i:=0) E4.nd rfl UB)) (λ_ _ _ _=>lM) (λ_ _ _ _=>(au G_u hr T.F_u (aa (dv 0) ah))))) az)) (aE oF)))))))
    case' x=>refine' ar ?y
    case' y=>generalize hG49:T6 _ _ _=eg49
    refine' aA ?z
    case' z=>subst hG49
    refine' nV aM aR (df ?A0) ?A1
    case A0=>
     refine' fe ?A2
     case' A2=>refine' bB ?A3
     case' A3=>refine' aa ku ?A4
     case' A4=>refine' aa ?A5 ah
     case' A5=>refine' aP nj nk (dv 2) ?A6
     case' A6=>refine' cy ?A7
     case' A7=>refine' aa ?A8 ?A9
     case A8=>exact(aj aM aR (dv 3) ae)
     case' A9=>refine' aa ?AA ah
     case AA=>exact(PE.imp (cw mH rfl T.n_tuple lz (aw (fe (kC (df (dv 3)) (cF ae) fP)) az)) (aE mL))
    case A1=>exact(df (PE.imp (cw sU rfl T.n_int mI (aw (j5 (j7 hr.units) j8 (df (fe (kC (df (dv 3)) (cF ae) fP))) (df (fe (Jp rfl rfl T.n_sorted Sn rfl T.n_set (aw (fe (kC (df (dv 3)) (cF ae) fP)) az)))) (aB _)) az)) (aE tK)))
   case' v=>refine' ai ?AB ?AC
   case AB=>
    refine' aL ?AD ?AE aK
    case AD=>exact(PW.pt (kQ (aI (ki hr) kj (aj aM aR (dv 1) ae) aF (aB _)) (md (aI vA IK (au G_w hr T.F_w (aa (dv 3) ah)) ku (aB _)))))
    case' AE=>refine' ar ?AF
    case AF=>exact(aA (aP nj nk (dv 2) (cy (aa (au G_w hr T.F_w (aa (dv 3) ah)) ah))))
   case AC=>refine' ar (aA ku)
  case B=>
  clear hr T G_v G_u G_w;simp only [mF,n9,true_and,↓iX,↓ja,↓jb,↓jd,↓je,↓jf,↓jg,↓iY,↓ff,↓iy,↓jJ,↓jK,↓jL,↓jM,↓jN,↓jO,↓iz,↓iA,↓iB,↓iC,↓iD,↓iE,↓iF,↓iG,↓iH,↓iI,↓iJ,↓iK,↓iL,↓iM,↓iN,↓iO,↓iP,↓iQ,↓iR,↓iS,↓iT,↓iU,↓iV,↓iW,cT,cU,cX,cW,fC,fD,cV,cY,cZ,dm,dn,fL,cL,dC,bA,dI,dD,dE,dF,fR,dG,bX,dX,dW,dJ,dH,dL,cC,cM,fz,cx,cm,bK,cN,cO,cP,cQ,fA,cR,cS,cq,cu,fB,gz,gA,gB,gC,gD,gE,gF,gG,gH,gI,gJ,gK,gL,gM,gN,gO,gP,gQ,gR,gS,gT,gU,gW,gX,gY,gZ,g6,g9,hG,hJ,hV,hW,hX,hZ,ic,ie,ig,ij,ik,il,ip,iq,iu,eT,dO,fQ,dY,cI,fT,d7,dM,dN,dP,dQ,dR,dS,dU,cG,dZ,d3,d6,bU,fM,fN,fO,fE,fF,fG,fH,dz,fJ,dA,fK,eN,eR,gs,gu,gx,gr,gy,eG,eJ,eL,eM,bY,eQ,eO,eD,eF,eV,eX,eY,eZ,cb,iw,ix,i3,iZ,i4,i5,i6,i8,i9,fg,fh,jk,ji,jj,jh,jq,jl,jm,jn,jo,cJ,fj,jv,jw,jr,jt,ju,jx,jy,jz,fk,jA,jB,jD,jE,fq,jF,jG,jH,jC,jI,ft,fu,fv,fw,jP,jQ,jR,bP,gc,gf,gh,gi,gj,gk,gm,gn,gp,ne_eq,b0,fX,fY,fZ,gb,fU,fV,fW,cD,cE,dB,c7,dj,di,dh,bT,bR,bg,bV,ck,bW,NM,Od,NI,N7,NO,N4,N8,NZ,OD,OE,OM,ON,OO,NU,NS,Oc,N5,N6,N9,exists_eq_left',exists_eq_left,exists_and_left,exists_and_right,Oi,Oj,Sl.v.injEq,Sl.o.injEq,Sl.k.injEq,Ot,Om,Ou,Oe,Oo,NP,and_true,true_and,OP,Ov,exists_const,decide_eq_true_eq,OQ,OR,OH,OI,N0,decide_eq_false_iff_not,and_assoc,or_true,true_or,↓reduceIte,if_true,if_false,N1,Oa,not_true_eq_false,not_false_eq_true,OK,OA,ite_true,ite_false,eq_self,exists_eq,reduceCtorEq,false_and,and_false,or_false,false_or,exists_false,Ox,Oy,cj,OG,OU,OC,OV,N3,OB,Ob,OL,aV,bp,bS,cH,d8,br,ei,er,beq_self_eq_true,d9,eg,fS,bx,UT];have hd:∀d,bL d->jT d=z->kn d=Txt.split z (NF " "):=λd h e=>by rw [<-e,(qO h).1]
  have hd2:∀d,bL d->kn d=Txt.split z (NF " ")->jT d=z:=λd h e=>by
   unfold jT;rw [e,mQ,uQ]
  have hb:∀p∈Txt.split z (NF " "),nF p:=λp hp=>by
   rw [mQ] at hp;exact⟨Oz (uN hp) hz.1,uP hz.2 hp⟩
  have hl:(Txt.split z (NF " ")).length<=1002:=Oz (Q3 z _) (by have:=hz.1;omega);refine⟨td,by have:=hz.1;omega,?_⟩
  replace q1:∀d,bL d->kn d=Txt.split z (NF " ")->Q d:=λd h e=>q1 d h (hd2 d h e)
  replace q2:(∀d,bL d->kn d≠Txt.split z (NF " "))->Q .none:=λh=>q2 λd h2 e=>h d h2 (hd d h2 e)
  clear hd hd2 hz;generalize Txt.split z (NF " ")=ws at*;clear z;have few:ws.length < 3->Q .none:=λh=>q2 λd hv e=>by
   obtain⟨w,n,x,r,rfl,_⟩:=n8 hv;rw [<-e] at h;simp only [kn,NI] at h;omega
  match ws with
  | []=>rw [UA UC];exact few UC
  | [_]=>rw [UA UC];exact few UC
  | [_,_]=>rw [UA UC];exact few UC
  | w::b::x::more=>
   clear few;rw [Uz (by simp only [NQ,NI];omega)];have ec:bw (Pe NH (w::b::x::more)) (some 3) none=more.map .str:=by
    rw [show bw (Pe NH (w::b::x::more)) (some 3) none=_ from oS (k:=3)];rfl
   simp only [ec];have ww:=hb w UC;have wb:=hb b UC;have wx:=hb x UC;have hm:∀z∈more,nF z:=λz hz=>hb z (by simp [hz]);have lm:more.length<=1000:=by simp only [NI] at hl;omega
   clear hb hl ec;have hday:(∃n,b=kA n/\kM b= .int n/\kT n)\/kM b= .none/\Q .none:=by
    cases e:lQ b with
    | none=>exact .inr ⟨by unfold kM;rw [e],q2 λd hv ee=>by
     obtain⟨w',n,x',r,rfl,hn⟩:=n8 hv;simp only [kn,NP] at ee;rw [<-ee.2.1,EA hn] at e;cases e⟩
    | some n=>
     obtain⟨h1,h2⟩:=M8 e;exact .inl ⟨n,h1,by unfold kM;rw [e],h2⟩
   by_cases hx:Nm x
   ·rcases hday with⟨n,rfl,en,hn⟩ | ⟨en,qn⟩
    ·have hx2:bZ (.str x)=true:=lH.mpr hx;have key:(DW w more->False)->Q .none:=λh=>q2 λd hv ee=>by
      obtain⟨w',n',x',r,rfl,hn'⟩:=n8 hv;simp only [kn,NP] at ee;obtain⟨rfl,e2,rfl,e4⟩:=ee;rw [<-e4] at h;exact h (Na hv)
     simp only [NM,aV,bp,bS];refine⟨_,rfl,_,rfl,wb.1,?_⟩;dsimp only;rw [en,Uz (show ¬mh (NW n)=true from λz=>by cases z)];refine⟨_,rfl,x,rfl,wx.1,_,rfl,?_⟩;rw [hx2,Uz (show ¬true=false by decide)];refine⟨_,rfl,_,rfl,_,rfl,wb.1,_,rfl,?_⟩;by_cases hw:w∈[NF "end",NF "lift",NF "happens",NF "leave",NF "hold",NF "paper",NF "rule"]
     ·simp only [NN,NX,or_false] at hw;rcases hw with rfl | rfl | rfl | rfl | rfl | rfl | rfl
      ·simp only [mF,n9,en,↓iX,↓ja,↓jb,↓jd,↓je,↓jf,↓jg,↓iY,↓ff,↓iy,↓jJ,↓jK,↓jL,↓jM,↓jN,↓jO,↓iz,↓iA,↓iB,↓iC,↓iD,↓iE,↓iF,↓iG,↓iH,↓iI,↓iJ,↓iK,↓iL,↓iM,↓iN,↓iO,↓iP,↓iQ,↓iR,↓iS,↓iT,↓iU,↓iV,↓iW,cT,cU,cX,cW,fC,fD,cV,cY,cZ,dm,dn,fL,cL,dC,bA,dI,dD,dE,dF,fR,dG,bX,dX,dW,dJ,dH,dL,cC,cM,fz,cx,cm,bK,cN,cO,cP,cQ,fA,cR,cS,cq,cu,fB,gz,gA,gB,gC,gD,gE,gF,gG,gH,gI,gJ,gK,gL,gM,gN,gO,gP,gQ,gR,gS,gT,gU,gW,gX,gY,gZ,g6,g9,hG,hJ,hV,hW,hX,hZ,ic,ie,ig,ij,ik,il,ip,iq,iu,eT,dO,fQ,dY,cI,fT,d7,dM,dN,dP,dQ,dR,dS,dU,cG,dZ,d3,d6,bU,fM,fN,fO,fE,fF,fG,fH,dz,fJ,dA,fK,eN,eR,gs,gu,gx,gr,gy,eG,eJ,eL,eM,bY,eQ,eO,eD,eF,eV,eX,eY,eZ,cb,iw,ix,i3,iZ,i4,i5,i6,i8,i9,fg,fh,jk,ji,jj,jh,jq,jl,jm,jn,jo,cJ,fj,jv,jw,jr,jt,ju,jx,jy,jz,fk,jA,jB,jD,jE,fq,jF,jG,jH,jC,jI,ft,fu,fv,fw,jP,jQ,jR,bP,gc,gf,gh,gi,gj,gk,gm,gn,gp,ne_eq,b0,fX,fY,fZ,gb,fU,fV,fW,cD,cE,dB,c7,dj,di,dh,bT,bR,bg,bV,ck,bW,NM,Od,NI,N7,NO,N4,N8,NZ,OD,OE,OM,ON,OO,NU,NS,Oc,N5,N6,N9,exists_eq_left',exists_eq_left,exists_and_left,exists_and_right,Oi,Oj,Sl.v.injEq,Sl.o.injEq,Sl.k.injEq,Ot,Om,Ou,Oe,Oo,NP,and_true,true_and,OP,Ov,exists_const,decide_eq_true_eq,OQ,OR,OH,OI,N0,decide_eq_false_iff_not,and_assoc,or_true,true_or,↓reduceIte,if_true,if_false,N1,Oa,not_true_eq_false,not_false_eq_true,OK,OA,ite_true,ite_false,eq_self,exists_eq,reduceCtorEq,false_and,and_false,or_false,false_or,exists_false,Ox,Oy,cj,OG,OU,OC,OV,N3,OB,Ob,OL,aV,bp,bS,cH,d8,br,ei,er,beq_self_eq_true,d9,eg,fS,bx,UT];refine⟨td,td,(pX λz hz=>(hm z hz).2).1,td,?_⟩
       rw [show(O6 (Pe NH more)).eqv (O6 [])=decide (more=[]) from qR (b:=[])];by_cases he:more=[]
       ·rw [UA (decide_eq_true he)];exact q1 _ (.one UC hn hx) (by rw [he];rfl)
       ·rw [Uz (by simpa using he)];exact⟨td,td,key λk=>he (k.fin td)⟩
      ·simp only [mF,n9,en,↓iX,↓ja,↓jb,↓jd,↓je,↓jf,↓jg,↓iY,↓ff,↓iy,↓jJ,↓jK,↓jL,↓jM,↓jN,↓jO,↓iz,↓iA,↓iB,↓iC,↓iD,↓iE,↓iF,↓iG,↓iH,↓iI,↓iJ,↓iK,↓iL,↓iM,↓iN,↓iO,↓iP,↓iQ,↓iR,↓iS,↓iT,↓iU,↓iV,↓iW,cT,cU,cX,cW,fC,fD,cV,cY,cZ,dm,dn,fL,cL,dC,bA,dI,dD,dE,dF,fR,dG,bX,dX,dW,dJ,dH,dL,cC,cM,fz,cx,cm,bK,cN,cO,cP,cQ,fA,cR,cS,cq,cu,fB,gz,gA,gB,gC,gD,gE,gF,gG,gH,gI,gJ,gK,gL,gM,gN,gO,gP,gQ,gR,gS,gT,gU,gW,gX,gY,gZ,g6,g9,hG,hJ,hV,hW,hX,hZ,ic,ie,ig,ij,ik,il,ip,iq,iu,eT,dO,fQ,dY,cI,fT,d7,dM,dN,dP,dQ,dR,dS,dU,cG,dZ,d3,d6,bU,fM,fN,fO,fE,fF,fG,fH,dz,fJ,dA,fK,eN,eR,gs,gu,gx,gr,gy,eG,eJ,eL,eM,bY,eQ,eO,eD,eF,eV,eX,eY,eZ,cb,iw,ix,i3,iZ,i4,i5,i6,i8,i9,fg,fh,jk,ji,jj,jh,jq,jl,jm,jn,jo,cJ,fj,jv,jw,jr,jt,ju,jx,jy,jz,fk,jA,jB,jD,jE,fq,jF,jG,jH,jC,jI,ft,fu,fv,fw,jP,jQ,jR,bP,gc,gf,gh,gi,gj,gk,gm,gn,gp,ne_eq,b0,fX,fY,fZ,gb,fU,fV,fW,cD,cE,dB,c7,dj,di,dh,bT,bR,bg,bV,ck,bW,NM,Od,NI,N7,NO,N4,N8,NZ,OD,OE,OM,ON,OO,NU,NS,Oc,N5,N6,N9,exists_eq_left',exists_eq_left,exists_and_left,exists_and_right,Oi,Oj,Sl.v.injEq,Sl.o.injEq,Sl.k.injEq,Ot,Om,Ou,Oe,Oo,NP,and_true,true_and,OP,Ov,exists_const,decide_eq_true_eq,OQ,OR,OH,OI,N0,decide_eq_false_iff_not,and_assoc,or_true,true_or,↓reduceIte,if_true,if_false,N1,Oa,not_true_eq_false,not_false_eq_true,OK,OA,ite_true,ite_false,eq_self,exists_eq,reduceCtorEq,false_and,and_false,or_false,false_or,exists_false,Ox,Oy,cj,OG,OU,OC,OV,N3,OB,Ob,OL,aV,bp,bS,cH,d8,br,ei,er,beq_self_eq_true,d9,eg,fS,bx,UT];refine⟨td,td,(pX λz hz=>(hm z hz).2).1,td,?_⟩
       rw [show(O6 (Pe NH more)).eqv (O6 [])=decide (more=[]) from qR (b:=[])];by_cases he:more=[]
       ·rw [UA (decide_eq_true he)];exact q1 _ (.one UC hn hx) (by rw [he];rfl)
       ·rw [Uz (by simpa using he)];exact⟨td,td,key λk=>he (k.fin td)⟩
      ·simp only [mF,n9,en,↓iX,↓ja,↓jb,↓jd,↓je,↓jf,↓jg,↓iY,↓ff,↓iy,↓jJ,↓jK,↓jL,↓jM,↓jN,↓jO,↓iz,↓iA,↓iB,↓iC,↓iD,↓iE,↓iF,↓iG,↓iH,↓iI,↓iJ,↓iK,↓iL,↓iM,↓iN,↓iO,↓iP,↓iQ,↓iR,↓iS,↓iT,↓iU,↓iV,↓iW,cT,cU,cX,cW,fC,fD,cV,cY,cZ,dm,dn,fL,cL,dC,bA,dI,dD,dE,dF,fR,dG,bX,dX,dW,dJ,dH,dL,cC,cM,fz,cx,cm,bK,cN,cO,cP,cQ,fA,cR,cS,cq,cu,fB,gz,gA,gB,gC,gD,gE,gF,gG,gH,gI,gJ,gK,gL,gM,gN,gO,gP,gQ,gR,gS,gT,gU,gW,gX,gY,gZ,g6,g9,hG,hJ,hV,hW,hX,hZ,ic,ie,ig,ij,ik,il,ip,iq,iu,eT,dO,fQ,dY,cI,fT,d7,dM,dN,dP,dQ,dR,dS,dU,cG,dZ,d3,d6,bU,fM,fN,fO,fE,fF,fG,fH,dz,fJ,dA,fK,eN,eR,gs,gu,gx,gr,gy,eG,eJ,eL,eM,bY,eQ,eO,eD,eF,eV,eX,eY,eZ,cb,iw,ix,i3,iZ,i4,i5,i6,i8,i9,fg,fh,jk,ji,jj,jh,jq,jl,jm,jn,jo,cJ,fj,jv,jw,jr,jt,ju,jx,jy,jz,fk,jA,jB,jD,jE,fq,jF,jG,jH,jC,jI,ft,fu,fv,fw,jP,jQ,jR,bP,gc,gf,gh,gi,gj,gk,gm,gn,gp,ne_eq,b0,fX,fY,fZ,gb,fU,fV,fW,cD,cE,dB,c7,dj,di,dh,bT,bR,bg,bV,ck,bW,NM,Od,NI,N7,NO,N4,N8,NZ,OD,OE,OM,ON,OO,NU,NS,Oc,N5,N6,N9,exists_eq_left',exists_eq_left,exists_and_left,exists_and_right,Oi,Oj,Sl.v.injEq,Sl.o.injEq,Sl.k.injEq,Ot,Om,Ou,Oe,Oo,NP,and_true,true_and,OP,Ov,exists_const,decide_eq_true_eq,OQ,OR,OH,OI,N0,decide_eq_false_iff_not,and_assoc,or_true,true_or,↓reduceIte,if_true,if_false,N1,Oa,not_true_eq_false,not_false_eq_true,OK,OA,ite_true,ite_false,eq_self,exists_eq,reduceCtorEq,false_and,and_false,or_false,false_or,exists_false,Ox,Oy,cj,OG,OU,OC,OV,N3,OB,Ob,OL,aV,bp,bS,cH,d8,br,ei,er,beq_self_eq_true,d9,eg,fS,bx,UT];refine⟨td,td,td,td,?_⟩
       match more,hm with
       | [y],hm=>
        rw [UA UC];refine⟨_,aV,_,rfl,(hm y UC).1,_,rfl,?_⟩;by_cases hy:Nm y
        ·rw [UA (lH.mpr hy)];exact⟨_,aV,q1 _ (.two UC hn hx hy) rfl⟩
        ·rw [Uz (λz=>hy (lH.mp z))];exact key λk=>by
          obtain⟨y',e,h⟩:=k.tw td;injection e with e
          exact hy (e▸h)
       | [],_=>rw [Uz UC];exact key λk=>by obtain⟨_,e,_⟩:=k.tw td;cases e
       | _::_::_,_=>rw [Uz (by simp;omega)];exact key λk=>by obtain⟨_,e,_⟩:=k.tw td;cases e
      ·simp only [mF,n9,en,↓iX,↓ja,↓jb,↓jd,↓je,↓jf,↓jg,↓iY,↓ff,↓iy,↓jJ,↓jK,↓jL,↓jM,↓jN,↓jO,↓iz,↓iA,↓iB,↓iC,↓iD,↓iE,↓iF,↓iG,↓iH,↓iI,↓iJ,↓iK,↓iL,↓iM,↓iN,↓iO,↓iP,↓iQ,↓iR,↓iS,↓iT,↓iU,↓iV,↓iW,cT,cU,cX,cW,fC,fD,cV,cY,cZ,dm,dn,fL,cL,dC,bA,dI,dD,dE,dF,fR,dG,bX,dX,dW,dJ,dH,dL,cC,cM,fz,cx,cm,bK,cN,cO,cP,cQ,fA,cR,cS,cq,cu,fB,gz,gA,gB,gC,gD,gE,gF,gG,gH,gI,gJ,gK,gL,gM,gN,gO,gP,gQ,gR,gS,gT,gU,gW,gX,gY,gZ,g6,g9,hG,hJ,hV,hW,hX,hZ,ic,ie,ig,ij,ik,il,ip,iq,iu,eT,dO,fQ,dY,cI,fT,d7,dM,dN,dP,dQ,dR,dS,dU,cG,dZ,d3,d6,bU,fM,fN,fO,fE,fF,fG,fH,dz,fJ,dA,fK,eN,eR,gs,gu,gx,gr,gy,eG,eJ,eL,eM,bY,eQ,eO,eD,eF,eV,eX,eY,eZ,cb,iw,ix,i3,iZ,i4,i5,i6,i8,i9,fg,fh,jk,ji,jj,jh,jq,jl,jm,jn,jo,cJ,fj,jv,jw,jr,jt,ju,jx,jy,jz,fk,jA,jB,jD,jE,fq,jF,jG,jH,jC,jI,ft,fu,fv,fw,jP,jQ,jR,bP,gc,gf,gh,gi,gj,gk,gm,gn,gp,ne_eq,b0,fX,fY,fZ,gb,fU,fV,fW,cD,cE,dB,c7,dj,di,dh,bT,bR,bg,bV,ck,bW,NM,Od,NI,N7,NO,N4,N8,NZ,OD,OE,OM,ON,OO,NU,NS,Oc,N5,N6,N9,exists_eq_left',exists_eq_left,exists_and_left,exists_and_right,Oi,Oj,Sl.v.injEq,Sl.o.injEq,Sl.k.injEq,Ot,Om,Ou,Oe,Oo,NP,and_true,true_and,OP,Ov,exists_const,decide_eq_true_eq,OQ,OR,OH,OI,N0,decide_eq_false_iff_not,and_assoc,or_true,true_or,↓reduceIte,if_true,if_false,N1,Oa,not_true_eq_false,not_false_eq_true,OK,OA,ite_true,ite_false,eq_self,exists_eq,reduceCtorEq,false_and,and_false,or_false,false_or,exists_false,Ox,Oy,cj,OG,OU,OC,OV,N3,OB,Ob,OL,aV,bp,bS,cH,d8,br,ei,er,beq_self_eq_true,d9,eg,fS,bx,UT];refine⟨td,td,td,td,?_⟩
       match more,hm with
       | [y],hm=>
        rw [UA UC];refine⟨_,aV,_,rfl,(hm y UC).1,_,rfl,?_⟩;by_cases hy:Nm y
        ·rw [UA (lH.mpr hy)];exact⟨_,aV,q1 _ (.two UC hn hx hy) rfl⟩
        ·rw [Uz (λz=>hy (lH.mp z))];exact key λk=>by
          obtain⟨y',e,h⟩:=k.tw td;injection e with e
          exact hy (e▸h)
       | [],_=>rw [Uz UC];exact key λk=>by obtain⟨_,e,_⟩:=k.tw td;cases e
       | _::_::_,_=>rw [Uz (by simp;omega)];exact key λk=>by obtain⟨_,e,_⟩:=k.tw td;cases e
      ·simp only [mF,n9,en,↓iX,↓ja,↓jb,↓jd,↓je,↓jf,↓jg,↓iY,↓ff,↓iy,↓jJ,↓jK,↓jL,↓jM,↓jN,↓jO,↓iz,↓iA,↓iB,↓iC,↓iD,↓iE,↓iF,↓iG,↓iH,↓iI,↓iJ,↓iK,↓iL,↓iM,↓iN,↓iO,↓iP,↓iQ,↓iR,↓iS,↓iT,↓iU,↓iV,↓iW,cT,cU,cX,cW,fC,fD,cV,cY,cZ,dm,dn,fL,cL,dC,bA,dI,dD,dE,dF,fR,dG,bX,dX,dW,dJ,dH,dL,cC,cM,fz,cx,cm,bK,cN,cO,cP,cQ,fA,cR,cS,cq,cu,fB,gz,gA,gB,gC,gD,gE,gF,gG,gH,gI,gJ,gK,gL,gM,gN,gO,gP,gQ,gR,gS,gT,gU,gW,gX,gY,gZ,g6,g9,hG,hJ,hV,hW,hX,hZ,ic,ie,ig,ij,ik,il,ip,iq,iu,eT,dO,fQ,dY,cI,fT,d7,dM,dN,dP,dQ,dR,dS,dU,cG,dZ,d3,d6,bU,fM,fN,fO,fE,fF,fG,fH,dz,fJ,dA,fK,eN,eR,gs,gu,gx,gr,gy,eG,eJ,eL,eM,bY,eQ,eO,eD,eF,eV,eX,eY,eZ,cb,iw,ix,i3,iZ,i4,i5,i6,i8,i9,fg,fh,jk,ji,jj,jh,jq,jl,jm,jn,jo,cJ,fj,jv,jw,jr,jt,ju,jx,jy,jz,fk,jA,jB,jD,jE,fq,jF,jG,jH,jC,jI,ft,fu,fv,fw,jP,jQ,jR,bP,gc,gf,gh,gi,gj,gk,gm,gn,gp,ne_eq,b0,fX,fY,fZ,gb,fU,fV,fW,cD,cE,dB,c7,dj,di,dh,bT,bR,bg,bV,ck,bW,NM,Od,NI,N7,NO,N4,N8,NZ,OD,OE,OM,ON,OO,NU,NS,Oc,N5,N6,N9,exists_eq_left',exists_eq_left,exists_and_left,exists_and_right,Oi,Oj,Sl.v.injEq,Sl.o.injEq,Sl.k.injEq,Ot,Om,Ou,Oe,Oo,NP,and_true,true_and,OP,Ov,exists_const,decide_eq_true_eq,OQ,OR,OH,OI,N0,decide_eq_false_iff_not,and_assoc,or_true,true_or,↓reduceIte,if_true,if_false,N1,Oa,not_true_eq_false,not_false_eq_true,OK,OA,ite_true,ite_false,eq_self,exists_eq,reduceCtorEq,false_and,and_false,or_false,false_or,exists_false,Ox,Oy,cj,OG,OU,OC,OV,N3,OB,Ob,OL,aV,bp,bS,cH,d8,br,ei,er,beq_self_eq_true,d9,eg,fS,bx,UT];refine⟨td,td,td,td,?_⟩
       match more,hm with
       | g::y::tl,hm=>
        have wg:=hm g UC;have wy:=hm y UC;rw [UA (by simp only [NQ,NI];omega)];refine⟨_,aV,mX.mpr wg.2,td,?_⟩;rw [br,br,AR];by_cases hg:g∈[NF "paper",NF "kind"]
        ·rw [UA (decide_eq_true hg)];refine⟨_,bp,_,rfl,wy.1,_,rfl,?_⟩;by_cases hy:Nm y
         ·rw [UA (lH.mpr hy),show bw (Pe NH (g::y::tl)) (some 2) none=tl.map .str from oS (k:=2),show bw (Pe NH (g::y::tl)) none (some 2)=[g,y].map .str from uL (k:=2)];have st:=(pX λz (hz:z∈tl)=>(hm z (by simp [hz])).2).1;rw [show(O6 (Pe NH tl)).eqv (O6 [NH (NF "deep")])=decide (tl=[NF "deep"]) from qR (b:=[_]),
           show(O6 []).eqv (O6 (Pe NH tl))=decide ([]=tl) from qR (a:=[]),
           show(O6 [NH (NF "deep")]).eqv (O6 (Pe NH tl))=decide ([NF "deep"]=tl) from qR (a:=[_])]
          refine⟨st,td,st,td,?_⟩;by_cases e0:tl=[]
          ·subst e0;rw [UA UC,show decide (([]:List Str)=[NF "deep"])=false by decide+kernel];exact⟨_,bp,q1 _ (.hold hn hx hg hy) rfl⟩
          ·by_cases e1:tl=[NF "deep"]
           ·subst e1;rw [UA UC,show decide ([NF "deep"]=[NF "deep"])=true by decide+kernel];exact⟨_,bp,q1 _ (.hold hn hx hg hy) rfl⟩
           ·rw [Uz (by
             rw [Rb,decide_eq_true_eq,decide_eq_true_eq];exact λz=>z.elim (λz=>e0 z.symm) λz=>e1 z.symm)]
            exact⟨_,aV,key λk=>by
             obtain⟨g',y',_,_,h⟩:=k.ho rfl;rcases h with h | h
             ·injection h with _ h;injection h with _ h;exact e0 h
             ·injection h with _ h;injection h with _ h;exact e1 h⟩
         ·rw [Uz (λz=>hy (lH.mp z))];exact key λk=>by
           obtain⟨g',y',_,h2,h⟩:=k.ho rfl;rcases h with h | h <;> (injection h with _ h;injection h with h _;exact hy (h▸h2))
        ·rw [Uz (by simpa using hg)];exact key λk=>by
          obtain⟨g',y',h2,_,h⟩:=k.ho rfl;rcases h with h | h <;> (injection h with h _;exact hg (h▸h2))
       | [],_=>rw [Uz UC];exact key λk=>by obtain⟨_,_,_,_,h⟩:=k.ho rfl;rcases h with h | h <;> cases h
       | [_],_=>rw [Uz UC];exact key λk=>by obtain⟨_,_,_,_,h⟩:=k.ho rfl;rcases h with h | h <;> cases h
      ·simp only [mF,n9,en,↓iX,↓ja,↓jb,↓jd,↓je,↓jf,↓jg,↓iY,↓ff,↓iy,↓jJ,↓jK,↓jL,↓jM,↓jN,↓jO,↓iz,↓iA,↓iB,↓iC,↓iD,↓iE,↓iF,↓iG,↓iH,↓iI,↓iJ,↓iK,↓iL,↓iM,↓iN,↓iO,↓iP,↓iQ,↓iR,↓iS,↓iT,↓iU,↓iV,↓iW,cT,cU,cX,cW,fC,fD,cV,cY,cZ,dm,dn,fL,cL,dC,bA,dI,dD,dE,dF,fR,dG,bX,dX,dW,dJ,dH,dL,cC,cM,fz,cx,cm,bK,cN,cO,cP,cQ,fA,cR,cS,cq,cu,fB,gz,gA,gB,gC,gD,gE,gF,gG,gH,gI,gJ,gK,gL,gM,gN,gO,gP,gQ,gR,gS,gT,gU,gW,gX,gY,gZ,g6,g9,hG,hJ,hV,hW,hX,hZ,ic,ie,ig,ij,ik,il,ip,iq,iu,eT,dO,fQ,dY,cI,fT,d7,dM,dN,dP,dQ,dR,dS,dU,cG,dZ,d3,d6,bU,fM,fN,fO,fE,fF,fG,fH,dz,fJ,dA,fK,eN,eR,gs,gu,gx,gr,gy,eG,eJ,eL,eM,bY,eQ,eO,eD,eF,eV,eX,eY,eZ,cb,iw,ix,i3,iZ,i4,i5,i6,i8,i9,fg,fh,jk,ji,jj,jh,jq,jl,jm,jn,jo,cJ,fj,jv,jw,jr,jt,ju,jx,jy,jz,fk,jA,jB,jD,jE,fq,jF,jG,jH,jC,jI,ft,fu,fv,fw,jP,jQ,jR,bP,gc,gf,gh,gi,gj,gk,gm,gn,gp,ne_eq,b0,fX,fY,fZ,gb,fU,fV,fW,cD,cE,dB,c7,dj,di,dh,bT,bR,bg,bV,ck,bW,NM,Od,NI,N7,NO,N4,N8,NZ,OD,OE,OM,ON,OO,NU,NS,Oc,N5,N6,N9,exists_eq_left',exists_eq_left,exists_and_left,exists_and_right,Oi,Oj,Sl.v.injEq,Sl.o.injEq,Sl.k.injEq,Ot,Om,Ou,Oe,Oo,NP,and_true,true_and,OP,Ov,exists_const,decide_eq_true_eq,OQ,OR,OH,OI,N0,decide_eq_false_iff_not,and_assoc,or_true,true_or,↓reduceIte,if_true,if_false,N1,Oa,not_true_eq_false,not_false_eq_true,OK,OA,ite_true,ite_false,eq_self,exists_eq,reduceCtorEq,false_and,and_false,or_false,false_or,exists_false,Ox,Oy,cj,OG,OU,OC,OV,N3,OB,Ob,OL,aV,bp,bS,cH,d8,br,ei,er,beq_self_eq_true,d9,eg,fS,bx,UT];refine⟨td,td,td,td,?_⟩
       match more,hm with
       | k::ms,hm=>
        rw [UA (by simp only [NQ,NI];omega)];by_cases h5:ms.length<=4
        ·rw [UA (by simp only [NQ,NI];omega)];refine⟨by simp only [NQ,NI];omega,pK (λz=>.bool (bZ z)) (λz hz R hR=>?_) ⟨(k::ms).map λy=>bZ (.str y),by rw [Pt,Pt];rfl,?_⟩⟩
         ·obtain⟨y,hy,rfl⟩:=Pa.mp hz;simp only [mF,true_and,↓iX,↓ja,↓jb,↓jd,↓je,↓jf,↓jg,↓iY,↓ff,↓iy,↓jJ,↓jK,↓jL,↓jM,↓jN,↓jO,↓iz,↓iA,↓iB,↓iC,↓iD,↓iE,↓iF,↓iG,↓iH,↓iI,↓iJ,↓iK,↓iL,↓iM,↓iN,↓iO,↓iP,↓iQ,↓iR,↓iS,↓iT,↓iU,↓iV,↓iW,cT,cU,cX,cW,fC,fD,cV,cY,cZ,dm,dn,fL,cL,dC,bA,dI,dD,dE,dF,fR,dG,bX,dX,dW,dJ,dH,dL,cC,cM,fz,cx,cm,bK,cN,cO,cP,cQ,fA,cR,cS,cq,cu,fB,gz,gA,gB,gC,gD,gE,gF,gG,gH,gI,gJ,gK,gL,gM,gN,gO,gP,gQ,gR,gS,gT,gU,gW,gX,gY,gZ,g6,g9,hG,hJ,hV,hW,hX,hZ,ic,ie,ig,ij,ik,il,ip,iq,iu,eT,dO,fQ,dY,cI,fT,d7,dM,dN,dP,dQ,dR,dS,dU,cG,dZ,d3,d6,bU,fM,fN,fO,fE,fF,fG,fH,dz,fJ,dA,fK,eN,eR,gs,gu,gx,gr,gy,eG,eJ,eL,eM,bY,eQ,eO,eD,eF,eV,eX,eY,eZ,cb,iw,ix,i3,iZ,i4,i5,i6,i8,i9,fg,fh,jk,ji,jj,jh,jq,jl,jm,jn,jo,cJ,fj,jv,jw,jr,jt,ju,jx,jy,jz,fk,jA,jB,jD,jE,fq,jF,jG,jH,jC,jI,ft,fu,fv,fw,jP,jQ,jR,bP,gc,gf,gh,gi,gj,gk,gm,gn,gp,ne_eq,b0,fX,fY,fZ,gb,fU,fV,fW,cD,cE,dB,c7,dj,di,dh,bT,bR,bg,bV,ck,bW,NM,Od,NI,N7,NO,N4,N8,NZ,OD,OE,OM,ON,OO,NU,NS,Oc,N5,N6,N9,exists_eq_left',exists_eq_left,exists_and_left,exists_and_right,Oi,Oj,Sl.v.injEq,Sl.o.injEq,Sl.k.injEq,Ot,Om,Ou,Oe,Oo,NP,and_true,true_and,OP,Ov,exists_const,decide_eq_true_eq,OQ,OR,OH,OI,N0,decide_eq_false_iff_not,and_assoc,or_true,true_or,↓reduceIte,if_true,if_false,N1,Oa,not_true_eq_false,not_false_eq_true,OK,OA,ite_true,ite_false,eq_self,exists_eq,reduceCtorEq,false_and,and_false,or_false,false_or,exists_false,Ox,Oy,cj,OG,OU,OC,OV,N3,OB,Ob,OL,aV,bp,bS,cH,d8,br,ei,er,beq_self_eq_true,d9,eg,fS,bx,UT];exact⟨(hm y hy).1,hR⟩
         ·have ea:((k::ms).map λy=>bZ (.str y)).all id=true↔∀y∈k::ms,Nm y:=by
           rw [QK,Pf];exact⟨λh y hy=>lH.mp (h y hy),λh y hy=>lH.mpr (h y hy)⟩
          by_cases ha:∀y∈k::ms,Nm y
          ·rw [UA (ea.mpr ha),show bw (Pe NH (k::ms)) (some 1) none=ms.map .str from oS (k:=1)];have mm:∀z∈kL (ms.foldl kl []),z∈ms:=λz hz=>by
            have:=wJ.mp ((tP _).mem_iff.mp hz);simpa using this
           refine⟨_,aV,ms,rfl,Uy,(pX λz hz=>(hm z (by simp [hz])).2).1,(pX λz hz=>(hm z (by simp [mm z hz])).2).1,?_⟩;rw [qR];by_cases hs:ms=kL (ms.foldl kl [])
           ·rw [UA (decide_eq_true hs)];have up:ms.Pairwise oM:=by rw [hs];exact E3 (wK .nil)
            refine⟨_,bp,q1 _ (.paper hn hx (ha k UC) ⟨h5,λz hz=>ha z (by simp [hz]),up⟩) ?_⟩;show NF "paper"::kA n::x::k::oR (.tuple (ms.map .str))=_;rw [qL]
           ·rw [Uz (by simpa using hs)];exact⟨_,aV,key λkk=>by
             obtain⟨k',ms',e,_,h⟩:=kk.pa rfl;injection e with _ e
             exact hs (by rw [e];exact(M9 h.up).symm)⟩
          ·rw [Uz (λz=>ha (ea.mp z))];exact key λkk=>by
            obtain⟨k',ms',e,h1,h⟩:=kk.pa rfl;rw [e] at ha;exact ha λy hy=>by
             rcases NN.mp hy with rfl | hy
             ·exact h1
             ·exact h.nm y hy
        ·rw [Uz (by simp only [NQ,NI];omega)];exact key λkk=>by
          obtain⟨k',ms',e,_,h⟩:=kk.pa rfl;injection e with _ e
          exact h5 (by rw [e];exact h.len)
       | [],_=>rw [Uz UC];exact key λkk=>by obtain⟨_,_,e,_⟩:=kk.pa rfl;cases e
      ·simp only [mF,n9,en,↓iX,↓ja,↓jb,↓jd,↓je,↓jf,↓jg,↓iY,↓ff,↓iy,↓jJ,↓jK,↓jL,↓jM,↓jN,↓jO,↓iz,↓iA,↓iB,↓iC,↓iD,↓iE,↓iF,↓iG,↓iH,↓iI,↓iJ,↓iK,↓iL,↓iM,↓iN,↓iO,↓iP,↓iQ,↓iR,↓iS,↓iT,↓iU,↓iV,↓iW,cT,cU,cX,cW,fC,fD,cV,cY,cZ,dm,dn,fL,cL,dC,bA,dI,dD,dE,dF,fR,dG,bX,dX,dW,dJ,dH,dL,cC,cM,fz,cx,cm,bK,cN,cO,cP,cQ,fA,cR,cS,cq,cu,fB,gz,gA,gB,gC,gD,gE,gF,gG,gH,gI,gJ,gK,gL,gM,gN,gO,gP,gQ,gR,gS,gT,gU,gW,gX,gY,gZ,g6,g9,hG,hJ,hV,hW,hX,hZ,ic,ie,ig,ij,ik,il,ip,iq,iu,eT,dO,fQ,dY,cI,fT,d7,dM,dN,dP,dQ,dR,dS,dU,cG,dZ,d3,d6,bU,fM,fN,fO,fE,fF,fG,fH,dz,fJ,dA,fK,eN,eR,gs,gu,gx,gr,gy,eG,eJ,eL,eM,bY,eQ,eO,eD,eF,eV,eX,eY,eZ,cb,iw,ix,i3,iZ,i4,i5,i6,i8,i9,fg,fh,jk,ji,jj,jh,jq,jl,jm,jn,jo,cJ,fj,jv,jw,jr,jt,ju,jx,jy,jz,fk,jA,jB,jD,jE,fq,jF,jG,jH,jC,jI,ft,fu,fv,fw,jP,jQ,jR,bP,gc,gf,gh,gi,gj,gk,gm,gn,gp,ne_eq,b0,fX,fY,fZ,gb,fU,fV,fW,cD,cE,dB,c7,dj,di,dh,bT,bR,bg,bV,ck,bW,NM,Od,NI,N7,NO,N4,N8,NZ,OD,OE,OM,ON,OO,NU,NS,Oc,N5,N6,N9,exists_eq_left',exists_eq_left,exists_and_left,exists_and_right,Oi,Oj,Sl.v.injEq,Sl.o.injEq,Sl.k.injEq,Ot,Om,Ou,Oe,Oo,NP,and_true,true_and,OP,Ov,exists_const,decide_eq_true_eq,OQ,OR,OH,OI,N0,decide_eq_false_iff_not,and_assoc,or_true,true_or,↓reduceIte,if_true,if_false,N1,Oa,not_true_eq_false,not_false_eq_true,OK,OA,ite_true,ite_false,eq_self,exists_eq,reduceCtorEq,false_and,and_false,or_false,false_or,exists_false,Ox,Oy,cj,OG,OU,OC,OV,N3,OB,Ob,OL,aV,bp,bS,cH,d8,br,ei,er,beq_self_eq_true,d9,eg,fS,bx,UT];refine⟨td,td,td,td,more,rfl,Uy,hm,λp hp e=>?_,λh=>?_⟩
       ·dsimp only;rw [UA (show mh p=false by cases hp <;> rfl)];exact⟨more,rfl,Uy,hm,λp' hp' e'=>q1 _ (.rule hn hx hp') (by
         show NF "rule"::kA n::x::ml [p']=_;rw [E7 hp',e']),λh=>absurd e (h p hp)⟩
       ·dsimp only;rw [Uz (show ¬mh QW=false by decide)];exact key λk=>by
         obtain⟨p,hp,e⟩:=k.ru rfl;exact h p hp e
     ·simp only [NN,NX,or_false,not_or] at hw;have b1:(NF "end"==w)=false:=beq_eq_false_iff_ne.mpr λz=>hw.1 z.symm;have b2:(NF "lift"==w)=false:=beq_eq_false_iff_ne.mpr λz=>hw.2.1 z.symm;have b3:(NF "happens"==w)=false:=beq_eq_false_iff_ne.mpr λz=>hw.2.2.1 z.symm;have b4:(NF "leave"==w)=false:=beq_eq_false_iff_ne.mpr λz=>hw.2.2.2.1 z.symm;have b5:(w==NF "hold")=false:=beq_eq_false_iff_ne.mpr hw.2.2.2.2.1;have b6:(w==NF "paper")=false:=beq_eq_false_iff_ne.mpr hw.2.2.2.2.2.1;have b7:(w==NF "rule")=false:=beq_eq_false_iff_ne.mpr hw.2.2.2.2.2.2;simp only [mF,n9,en,b1,b2,b3,b4,b5,b6,b7,↓iX,↓ja,↓jb,↓jd,↓je,↓jf,↓jg,↓iY,↓ff,↓iy,↓jJ,↓jK,↓jL,↓jM,↓jN,↓jO,↓iz,↓iA,↓iB,↓iC,↓iD,↓iE,↓iF,↓iG,↓iH,↓iI,↓iJ,↓iK,↓iL,↓iM,↓iN,↓iO,↓iP,↓iQ,↓iR,↓iS,↓iT,↓iU,↓iV,↓iW,cT,cU,cX,cW,fC,fD,cV,cY,cZ,dm,dn,fL,cL,dC,bA,dI,dD,dE,dF,fR,dG,bX,dX,dW,dJ,dH,dL,cC,cM,fz,cx,cm,bK,cN,cO,cP,cQ,fA,cR,cS,cq,cu,fB,gz,gA,gB,gC,gD,gE,gF,gG,gH,gI,gJ,gK,gL,gM,gN,gO,gP,gQ,gR,gS,gT,gU,gW,gX,gY,gZ,g6,g9,hG,hJ,hV,hW,hX,hZ,ic,ie,ig,ij,ik,il,ip,iq,iu,eT,dO,fQ,dY,cI,fT,d7,dM,dN,dP,dQ,dR,dS,dU,cG,dZ,d3,d6,bU,fM,fN,fO,fE,fF,fG,fH,dz,fJ,dA,fK,eN,eR,gs,gu,gx,gr,gy,eG,eJ,eL,eM,bY,eQ,eO,eD,eF,eV,eX,eY,eZ,cb,iw,ix,i3,iZ,i4,i5,i6,i8,i9,fg,fh,jk,ji,jj,jh,jq,jl,jm,jn,jo,cJ,fj,jv,jw,jr,jt,ju,jx,jy,jz,fk,jA,jB,jD,jE,fq,jF,jG,jH,jC,jI,ft,fu,fv,fw,jP,jQ,jR,bP,gc,gf,gh,gi,gj,gk,gm,gn,gp,ne_eq,b0,fX,fY,fZ,gb,fU,fV,fW,cD,cE,dB,c7,dj,di,dh,bT,bR,bg,bV,ck,bW,NM,Od,NI,N7,NO,N4,N8,NZ,OD,OE,OM,ON,OO,NU,NS,Oc,N5,N6,N9,exists_eq_left',exists_eq_left,exists_and_left,exists_and_right,Oi,Oj,Sl.v.injEq,Sl.o.injEq,Sl.k.injEq,Ot,Om,Ou,Oe,Oo,NP,and_true,true_and,OP,Ov,exists_const,decide_eq_true_eq,OQ,OR,OH,OI,N0,decide_eq_false_iff_not,and_assoc,or_true,true_or,↓reduceIte,if_true,if_false,N1,Oa,not_true_eq_false,not_false_eq_true,OK,OA,ite_true,ite_false,eq_self,exists_eq,reduceCtorEq,false_and,and_false,or_false,false_or,exists_false,Ox,Oy,cj,OG,OU,OC,OV,N3,OB,Ob,OL,aV,bp,bS,cH,d8,br,ei,er,beq_self_eq_true,d9,eg,fS,bx,UT]
      exact⟨mX.mpr ww.2,td,mX.mpr ww.2,td,key λk=>by
       have:=k.al;simp only [NN,NX,or_false] at this;exact absurd this (by simp only [not_or];exact hw)⟩
    ·simp only [NM,bp];refine⟨_,rfl,b,rfl,wb.1,?_⟩;dsimp only;rw [en,UA (show mh QW=true from rfl)];exact qn
   ·have no:Q .none:=q2 λd hv ee=>by
     obtain⟨w',n,x',r,rfl,_⟩:=n8 hv;simp only [kn,NP] at ee;have hx':Nm x':=by cases hv <;> assumption
     exact hx (ee.2.2.1▸hx')
    simp only [NM,bp,bS];refine⟨_,rfl,b,rfl,wb.1,?_⟩;dsimp only;rcases hday with⟨n,_,en,_⟩ | ⟨en,qn⟩
    ·rw [en,Uz (show ¬mh (NW n)=true from λz=>by cases z)];refine⟨_,rfl,x,rfl,wx.1,_,rfl,?_⟩;rw [UA (show bZ (.str x)=false by simpa using λz=>hx (lH.mp z))];exact no
    ·rw [en,UA (show mh QW=true from rfl)];exact qn
def Sm(m:Nat)(z:Str):Prop:=z.length<=m/\Pb z=true
instance {m:Nat} {z:Str}:Decidable (Sm m z):=by unfold Sm;infer_instance
def Nd:List Str:=["","00","01","007","999","1000","-1","+1","1.0","0","2000-02-30","2001-02-29","2000-02-29","2000-1-01","2000-01-1","02000-01-01","1999-12-31","2273-10-15","2273-10-16","2000-13-01","2000-00-01","2000-01-00","2000-01-32","2000-01"]
def Nf:List Str:=["2000-01-01-01","10000-01-01","deep","Deep","coming","coming:","first:","first","last:a","last:A","first:a:a",":a","Coming","day","days","weeks","paper","kind","kinds","keep","while","abcdefghi","A","a1"]
def AS:List Str:=Nd++Nf
theorem Ng:∀z∈AS,Sm 13 z:=td
theorem Nh{z:Str}(h:Nm z):Sm 13 z:=⟨Oz h.hi Ce,h.ok⟩
def Ni:List UD->(UD->Prop)->Prop:=λds Q=>∃a b c d e:Str,ds=[lT,.list [.str a,.str b,.str c,.str d,.str e]]/\(∀z∈[a,b,c,d,e],Nm z)/\∀z,Sm 13 z->Q (.str z)
theorem Nj(T:Txt K mg t):aC P w K mg base CX0 2 t.a_y t.d_y ["_law_pack_here","_law_names_here"] (bf K Ni):=by
 have G_i:=@pW P w _ _ base _ T;refine T.F_y.F.okD pT (λds Q h=>?_) (λ_ _ _ _ H O ds Q E hr h=>?_)
 ·obtain⟨a,b,c,d,e,rfl,_⟩:=h;rfl
 ·obtain⟨a,b,c,d,e,rfl,hn,q⟩:=h;refine'⟨_,?A,?B⟩
  case A=>
   refine' ai ?C ?D
   case C=>
    generalize hE2_0:Qr _ _=ee2_0;exact aJ (i:=2) pT.nd rfl UB (fe (mM (ds:=[.str "",.str "00",.str "01",.str "007",.str "999",.str "1000",.str "-1",.str "+1",.str "1.0",.str "0",.str "2000-02-30",.str "2001-02-29",.str "2000-02-29"]) (by first | (subst hE2_0;rfl)))) (hs:=B8 (ds:=[.str "",.str "00",.str "01",.str "007",.str "999",.str "1000",.str "-1",.str "+1",.str "1.0",.str "0",.str "2000-02-30",.str "2001-02-29",.str "2000-02-29"]) (by first | (subst hE2_0;rfl)))
   case' D=>refine' ai ?E ?F
   case E=>
    generalize hE4_0:Qr _ _=ee4_0;exact(aJ (i:=2) pT.nd rfl UB (fe (kK (df (dv 2)) (df (fe (mM (ds:=[.str "2000-1-01",.str "2000-01-1",.str "02000-01-01",.str "1999-12-31",.str "2273-10-15",.str "2273-10-16",.str "2000-13-01"]) (by first | (subst hE4_0;rfl))))))))
   case' F=>refine' ai ?G ?H
   case G=>
    generalize hE6_0:Qr _ _=ee6_0;exact(aJ (i:=2) pT.nd rfl UB (fe (kK (df (dv 2)) (df (fe (mM (ds:=[.str "2000-00-01",.str "2000-01-00",.str "2000-01-32",.str "2000-01",.str "2000-01-01-01",.str "10000-01-01",.str "deep",.str "Deep"]) (by first | (subst hE6_0;rfl))))))))
   case' H=>refine' ai ?I ?J
   case I=>
    generalize hE8_0:Qr _ _=ee8_0;exact(aJ (i:=2) pT.nd rfl UB (fe (kK (df (dv 2)) (df (fe (mM (ds:=[.str "coming",.str "coming:",.str "first:",.str "first",.str "last:a",.str "last:A",.str "first:a:a",.str ":a",.str "Coming",.str "day"]) (by first | (subst hE8_0;rfl))))))))
   case' J=>refine' ai ?K ?L
   case K=>
    generalize hE10_0:Qr _ _=ee10_0;exact(aJ (i:=2) pT.nd rfl UB (fe (kK (df (dv 2)) (df (fe (mM (ds:=[.str "days",.str "weeks",.str "paper",.str "kind",.str "kinds",.str "keep",.str "while",.str "abcdefghi",.str "A",.str "a1"]) (by first | (subst hE10_0;rfl))))))))
   case' L=>refine' ai ?M ?N
   case M=>exact(aJ (i:=2) pT.nd rfl UB (fe (kK (df (dv 2)) (df (fe (kC (df (dv 1)) fP (cF ae)))))))
   case' N=>refine' ar ?O
   case' O=>refine' aA ?P
   case' P=>refine' nV aM aR (df (dv 2)) ?Q
   case Q=>exact(df (au G_i hr T.F_i (aa (dv 0) (aa (PE.imp (aT jZ rfl T.n_len Of (aw (dv 2) az)) (aE j9)) ah))))
  case B=>
  clear hr T G_i;simp only [bP,true_and,↓iX,↓ja,↓jb,↓jd,↓je,↓jf,↓jg,↓iY,↓ff,↓iy,↓jJ,↓jK,↓jL,↓jM,↓jN,↓jO,↓iz,↓iA,↓iB,↓iC,↓iD,↓iE,↓iF,↓iG,↓iH,↓iI,↓iJ,↓iK,↓iL,↓iM,↓iN,↓iO,↓iP,↓iQ,↓iR,↓iS,↓iT,↓iU,↓iV,↓iW,cT,cU,cX,cW,fC,fD,cV,cY,cZ,dm,dn,fL,cL,dC,bA,dI,dD,dE,dF,fR,dG,bX,dX,dW,dJ,dH,dL,cC,cM,fz,cx,cm,bK,cN,cO,cP,cQ,fA,cR,cS,cq,cu,fB,gz,gA,gB,gC,gD,gE,gF,gG,gH,gI,gJ,gK,gL,gM,gN,gO,gP,gQ,gR,gS,gT,gU,gW,gX,gY,gZ,g6,g9,hG,hJ,hV,hW,hX,hZ,ic,ie,ig,ij,ik,il,ip,iq,iu,eT,dO,fQ,dY,cI,fT,d7,dM,dN,dP,dQ,dR,dS,dU,cG,dZ,d3,d6,bU,fM,fN,fO,fE,fF,fG,fH,dz,fJ,dA,fK,eN,eR,gs,gu,gx,gr,gy,eG,eJ,eL,eM,bY,eQ,eO,eD,eF,eV,eX,eY,eZ,cb,iw,ix,i3,iZ,i4,i5,i6,i8,i9,fg,fh,jk,ji,jj,jh,jq,jl,jm,jn,jo,cJ,fj,jv,jw,jr,jt,ju,jx,jy,jz,fk,jA,jB,jD,jE,fq,jF,jG,jH,jC,jI,ft,fu,fv,fw,jP,jQ,jR,bP,gc,gf,gh,gi,gj,gk,gm,gn,gp,ne_eq,b0,fX,fY,fZ,gb,fU,fV,fW,cD,cE,dB,c7,dj,di,dh,bT,bR,bg,bV,ck,bW,NM,Od,NI,N7,NO,N4,N8,NZ,OD,OE,OM,ON,OO,NU,NS,Oc,N5,N6,N9,exists_eq_left',exists_eq_left,exists_and_left,exists_and_right,Oi,Oj,Sl.v.injEq,Sl.o.injEq,Sl.k.injEq,Ot,Om,Ou,Oe,Oo,NP,and_true,true_and,OP,Ov,exists_const,decide_eq_true_eq,OQ,OR,OH,OI,N0,decide_eq_false_iff_not,and_assoc,or_true,true_or,↓reduceIte,if_true,if_false,N1,Oa,not_true_eq_false,not_false_eq_true,OK,OA,ite_true,ite_false,eq_self,exists_eq,reduceCtorEq,false_and,and_false,or_false,false_or,exists_false,Ox,Oy,cj,OG,OU,OC,OV,N3,OB,Ob,OL,aV,bp,bS,cH,d8,br,ei,er,beq_self_eq_true,d9,eg,fS,bx,UT];refine⟨Ce,Ce,λi i0 i1=>?_⟩;obtain⟨nm,hm,em⟩:=pY (AS++[a,b]) i0 (by rw [show(AS++[a,b]).length=50 from rfl];exact i1)
  refine⟨_,em,q nm ?_⟩;rcases P4.mp hm with h | h
  ·exact Ng _ h
  ·exact Nh (hn nm (by simp only [NN,NX,or_false] at h⊢;rcases h with h | h <;> simp [h]))
theorem E8{z:Str}{lo hi:Option Int}{c:Nat}(h:c∈(Txt.slice z lo hi).cps.toList):c∈z.cps.toList:=by
 rw [wC] at h;exact P0 (PN h)
def jW(ws:List Str):Nat:=(ws.map λp=>p.length+1).sum
theorem pZ{a b:List Str}:jW (a++b)=jW a+jW b:=by unfold jW;rw [PZ,Sx]
theorem uR{a:Str}{b:List Str}:jW (a::b)=a.length+1+jW b:=by unfold jW;rw [NM,Qq]
theorem Nk{a:List Str}:jW a.reverse=jW a:=by unfold jW;rw [TL,List.sum_reverse]
theorem E9:∀{ws:List Str},(ws.map λp:Str=>p.length).sum+ws.length=jW ws
 | []=>rfl
 | a::l=>by
  have:=E9 (ws:=l);rw [uR,NM,Qq,NI];omega
theorem AU(c:Nat):∀{ws:List Str},ws≠[]->(lF c (ws.map λp=>p.cps.toList)).length+1=jW ws
 | [a],_=>by rw [uR,oK];rfl
 | a::b::r,_=>by
  have:=AU c (ws:=b::r) UC;rw [uR,<-this,oK];show(a.cps.toList++c::lF c ((b::r).map λp=>p.cps.toList)).length+1=_;rw [Pp,NI];omega
theorem AV{c:Nat}{ws:List Str}:(Txt.join ⟨#[c]⟩ ws).cps.toList=lF c (ws.map λp=>p.cps.toList):=by
 rw [show Txt.join ⟨#[c]⟩ ws=QL ⟨#[c]⟩ ws from P6 _ _,pQ]
theorem Nl{z:Str}:jW (Txt.split z (NF " "))=z.length+1:=by
 have hj:=uQ (z:=z) (c:=32);rw [<-mQ] at hj;have hn:Txt.split z (NF " ")≠[]:=λe=>by
  have h1:=qB z 32;rw [<-mQ,e] at h1;exact xF _ _ h1.symm
 have:=AU 32 hn;rw [<-this,<-AV,<-mQ,hj,oK]
theorem Nn{ws:List Str}{m:Nat}(h:∀p∈ws,Pb p=true)(hm:jW ws<=m+1):Sm m (Txt.join (NF " ") ws):=by
 refine⟨?_,mZ.mpr λc hc=>?_⟩
 ·rw [mQ,oK,AV];by_cases hn:ws=[]
  ·rw [hn];exact PR _
  ·have:=AU 32 hn;omega
 ·rw [mQ,AV] at hc;rcases uI hc with z | ⟨p,hp,z⟩
  ·rw [z];decide
  ·obtain⟨q,hq,rfl⟩:=Pa.mp hp;exact mZ.mp (h q hq) c z
theorem Np{ws:List Str}{k:Nat}(hk:k<=ws.length):bw (ws.map NH) (some (k:Int)) (some ((k:Int)+2))=((ws.drop k).take 2).map .str:=by
 unfold bw;rw [NQ,oG (i:=(k:Int)) Uy Uy,O8,RF,S0];by_cases h:k+2<=ws.length
 ·rw [oG Uy Uy,show((k:Int)+2).toNat - k=2 by omega]
 ·rw [show HT.sIx ws.length ws.length (some ((k:Int)+2))=ws.length by rw [show(k:Int)+2=((k+2:Nat):Int) by omega,HT.sIx_nat];omega];rw [Pn (by rw [Pu,NQ];omega),Pn (by rw [Pu,NQ];omega)]
theorem Nq:∀s∈([" !\"#$&'()*+,-./0123456789:;<=>?@ABCDEFGHIJKLMNOPQRSTUVWXYZ[\\]^_`abcdefghijklmnopqrstuvwxyz{|}~\n","  --::0019adfklmpwy"]:List Str),0 < s.length/\s.length<=100/\∀c∈s.cps.toList,c < 0x110000:=td
def Nr:List UD->(UD->Prop)->Prop:=λds Q=>∃a b c d e z:Str,ds=[lT,.str z,.list [.str a,.str b,.str c,.str d,.str e]]/\(∀z∈[a,b,c,d,e],Nm z)/\Sm 430 z/\∀z',Sm (2*z.length+20) z'->Q (.str z')
theorem Nt(T:Txt K mg t):aC P w K mg base CX0 3 t.a_z t.d_z ["_law_pack_here","_law_text","_law_names_here"] (bf K Nr):=by
 have G_i:=@pW P w _ _ base _ T;have G_y:=@Nj P w _ _ base _ T;refine T.F_z.F.okD mP (λds Q h=>?_) (λ_ _ _ _ H O ds Q E hr h=>?_)
 ·obtain⟨a,b,c,d,e,z,rfl,_⟩:=h;rfl
 ·obtain⟨a,b,c,d,e,z,rfl,hn,hz,q⟩:=h;refine'⟨_,?A,?B⟩
  case A=>
   refine' ai ?C ?D
   case C=>exact(aJ (i:=3) mP.nd rfl UB aF)
   case' D=>refine' ai ?E ?F
   case E=>exact(aJ (i:=4) mP.nd rfl UB (au G_i hr T.F_i (aa (dv 0) (aa ae ah))))
   case' F=>refine' ai ?G ?H
   case G=>
    refine' aL ?I ?J aK
    case I=>exact(aI qf bQ (dv 4) ae (aB _))
    case' J=>refine' ai ?K ?L
    case K=>
     refine' aJ (i:=5) mP.nd rfl UB ?M (hs:=pN)
     case M=>exact(au G_i hr T.F_i (aa (dv 0) (aa (aP bN bO (PE.imp (aT mS rfl T.n_len Of (aw (dv 1) az)) (aE nh)) ae) ah)))
    case' L=>refine' ai ?N ?O
    case N=>
     refine' aJ (i:=6) mP.nd rfl UB ?P (hs:=tS)
     case' P=>refine' nV aM aR (df ?Q) ?R
     case Q=>exact(fe (bB (aa (dv 3) (aa aF ah))))
     case R=>exact(df (au G_i hr T.F_i (aa (dv 0) (aa ae ah))))
    case' O=>refine' ai ?S ?T
    case S=>
     refine' aJ (i:=6) mP.nd rfl UB ?U (hs:=tS)
     case' U=>refine' nV aM aR (df ?V) ?W
     case V=>
      refine' fe ?X
      case' X=>refine' bB ?Y
      case' Y=>refine' aa ?Z ?a
      case Z=>exact(aj sY tJ (dv 6) (au G_i hr T.F_i (aa (dv 0) (aa (PE.imp (aT mS rfl T.n_len Of (aw (dv 6) az)) (aE nh)) ah))))
      case a=>refine' aa aF ah
     case W=>exact(df (aP nL my (dv 4) ae))
    case' T=>refine' ar ?b
    case' b=>refine' aA ?c
    case c=>exact(aP sT tI (aP sT tI (qk (df (dv 1)) fP (cF (dv 5))) (dv 6)) (qk (df (dv 1)) (cF (aP bN bO (dv 5) (PE.imp (aT (vB rfl) rfl T.n_min RJ (aw (dv 4) (aw ae az))) (aE tH)))) fP))
   case' H=>refine' ai ?d ?e
   case d=>exact(aJ (i:=7) mP.nd rfl UB (fe (pO (dv 1) aF)))
   case' e=>refine' ai ?f ?g
   case f=>exact(aJ (i:=5) mP.nd rfl UB (au G_i hr T.F_i (aa (dv 0) (aa (PE.imp (aT jZ rfl T.n_len Of (aw (dv 7) az)) (aE j9)) ah))))
   case' g=>refine' ai ?h ?i
   case h=>exact(aJ (i:=8) mP.nd rfl UB (fe (bB (aa (au G_y hr T.F_y (aa (dv 0) (aa (dv 2) ah))) ah))))
   case' i=>refine' ai ?j ?k
   case j=>
    refine' aJ (i:=9) mP.nd rfl UB ?l (hs:=CC)
    case' l=>refine' fe ?m
    case' m=>refine' bB ?n
    case' n=>refine' aa ?o ?p
    case o=>exact(fe (bB ah))
    case' p=>refine' aa ?q ?r
    case q=>exact(fe (IE (bB (aa (aj aM aR (dv 7) (dv 5)) ah))))
    case' r=>refine' aa (dv 8) ?s
    case' s=>refine' aa ?t ah
    case' t=>refine' fe ?u
    case' u=>refine' kK (df (dv 8)) (df ?v)
    case v=>exact(fe (bB (aa (aj aM aR (dv 7) (dv 5)) ah)))
   case' k=>refine' ai ?w ?x
   case w=>
    refine' aL ?y ?z aK
    case y=>exact(aI (j7 hr.units) j8 (dv 4) ae (aB _))
    case' z=>refine' ai ?A0 ?A1
    case A0=>
     refine' aJ (i:=10) mP.nd rfl UB ?A2 (hs:=tS)
     case' A2=>refine' fe ?A3
     case A3=>exact(HI (df (fe (kC (df (dv 7)) (cF (dv 5)) (cF (aP bN bO (dv 5) ae))))))
    case' A1=>refine' ar ?A4
    case' A4=>refine' aA ?A5
    case A5=>exact(qm aF (df (fe (kK (df (fe (kK (df (fe (kC (df (dv 7)) fP (cF (dv 5))))) (df (dv 10))))) (df (fe (kC (df (dv 7)) (cF (aP bN bO (dv 5) ae)) fP)))))))
   case' x=>refine' ar ?A6
   case' A6=>refine' aA ?A7
   case A7=>exact(qm aF (df (fe (kK (df (fe (kK (df (fe (kC (df (dv 7)) fP (cF (dv 5))))) (df (aj aM aR (dv 9) (aP kO bO (dv 4) ae)))))) (df (fe (kC (df (dv 7)) (cF (aP bN bO (dv 5) ae)) fP)))))))
  case B=>
  clear hr T G_i G_y;simp only [bP,true_and,↓iX,↓ja,↓jb,↓jd,↓je,↓jf,↓jg,↓iY,↓ff,↓iy,↓jJ,↓jK,↓jL,↓jM,↓jN,↓jO,↓iz,↓iA,↓iB,↓iC,↓iD,↓iE,↓iF,↓iG,↓iH,↓iI,↓iJ,↓iK,↓iL,↓iM,↓iN,↓iO,↓iP,↓iQ,↓iR,↓iS,↓iT,↓iU,↓iV,↓iW,cT,cU,cX,cW,fC,fD,cV,cY,cZ,dm,dn,fL,cL,dC,bA,dI,dD,dE,dF,fR,dG,bX,dX,dW,dJ,dH,dL,cC,cM,fz,cx,cm,bK,cN,cO,cP,cQ,fA,cR,cS,cq,cu,fB,gz,gA,gB,gC,gD,gE,gF,gG,gH,gI,gJ,gK,gL,gM,gN,gO,gP,gQ,gR,gS,gT,gU,gW,gX,gY,gZ,g6,g9,hG,hJ,hV,hW,hX,hZ,ic,ie,ig,ij,ik,il,ip,iq,iu,eT,dO,fQ,dY,cI,fT,d7,dM,dN,dP,dQ,dR,dS,dU,cG,dZ,d3,d6,bU,fM,fN,fO,fE,fF,fG,fH,dz,fJ,dA,fK,eN,eR,gs,gu,gx,gr,gy,eG,eJ,eL,eM,bY,eQ,eO,eD,eF,eV,eX,eY,eZ,cb,iw,ix,i3,iZ,i4,i5,i6,i8,i9,fg,fh,jk,ji,jj,jh,jq,jl,jm,jn,jo,cJ,fj,jv,jw,jr,jt,ju,jx,jy,jz,fk,jA,jB,jD,jE,fq,jF,jG,jH,jC,jI,ft,fu,fv,fw,jP,jQ,jR,bP,gc,gf,gh,gi,gj,gk,gm,gn,gp,ne_eq,b0,fX,fY,fZ,gb,fU,fV,fW,cD,cE,dB,c7,dj,di,dh,bT,bR,bg,bV,ck,bW,NM,Od,NI,N7,NO,N4,N8,NZ,OD,OE,OM,ON,OO,NU,NS,Oc,N5,N6,N9,exists_eq_left',exists_eq_left,exists_and_left,exists_and_right,Oi,Oj,Sl.v.injEq,Sl.o.injEq,Sl.k.injEq,Ot,Om,Ou,Oe,Oo,NP,and_true,true_and,OP,Ov,exists_const,decide_eq_true_eq,OQ,OR,OH,OI,N0,decide_eq_false_iff_not,and_assoc,or_true,true_or,↓reduceIte,if_true,if_false,N1,Oa,not_true_eq_false,not_false_eq_true,OK,OA,ite_true,ite_false,eq_self,exists_eq,reduceCtorEq,false_and,and_false,or_false,false_or,exists_false,Ox,Oy,cj,OG,OU,OC,OV,N3,OB,Ob,OL,aV,bp,bS,cH,d8,br,ei,er,beq_self_eq_true,d9,eg,fS,bx,UT];have zl:=hz.1;intro i i0 i1;split
  ·rename_i h3;refine⟨Uy,Uy,Uy,λat0 a0 a1 u u0 u1=>?_⟩;obtain⟨s,hs,es⟩:=pY [" !\"#$&'()*+,-./0123456789:;<=>?@ABCDEFGHIJKLMNOPQRSTUVWXYZ[\\]^_`abcdefghijklmnopqrstuvwxyz{|}~\n","  --::0019adfklmpwy"] u0 (show u < ((2:Nat):Int) from u1);obtain⟨s1,s2,s3⟩:=Nq s hs;refine⟨_,es,s,rfl,Uy,Uy,Uy,λg g0 g1=>⟨s,rfl,Uy,?_⟩⟩;obtain⟨c,ec,hc⟩:=vV (xs:=s.cps.toList) g0 (by rw [<-oK];exact g1);obtain⟨v,ev,lv,okv⟩:∃v:Str,atI [NH ⟨#[c]⟩,NH (NF "")] (i / 2)=some (.str v)/\v.length<=1/\∀x∈v.cps.toList,x < 0x110000:=by
    rcases(show i / 2=0\/i / 2=1 by omega) with e | e
    ·rw [e];exact⟨_,rfl,by show(1:Nat)<=1;decide,λx hx=>by
      have:x=c:=by simpa using hx
      rw [this];exact s3 c hc⟩
    ·rw [e];exact⟨_,rfl,td,td⟩
   have l1:=Txt.slice_le z none (some at0);refine⟨c,ec,_,ev,Uy,v,rfl,Uy,Uy,?_⟩;have fin:∀lo,(Txt.slice z none (some at0)++v).length+(Txt.slice z lo none).length<=16777216/\Q (.str (Txt.slice z none (some at0)++v++Txt.slice z lo none)):=λlo=>by
    have l2:=Txt.slice_le z lo none;refine⟨by rw [oH];omega,q _ ⟨by rw [oH,oH];omega,mZ.mpr λx hx=>?_⟩⟩;simp only [rO,Qs,P4] at hx;rcases hx with(h | h) | h
    ·exact mZ.mp hz.2 x (E8 h)
    ·exact okv x h
    ·exact mZ.mp hz.2 x (E8 h)
   exact fin _
  ·rename_i h3;have ts:=Nl (z:=z);have hb:∀p∈Txt.split z (NF " "),Pb p=true:=λp hp=>by
    rw [mQ] at hp;exact uP hz.2 hp
   have hl:(Txt.split z (NF " ")).length<=1002:=Oz (Q3 z _) Uy;refine⟨td,Uy,?_⟩;generalize Txt.split z (NF " ")=ws at*;rw [NQ];have wn:0 < ws.length:=by
    cases ws with
    | nil=>simp [jW] at ts
    | cons _ _=>simp
   have fin:∀ys:List Str,(∀p∈ys,Pb p=true)->jW ys<=2*z.length+21->(ys.map λx:Str=>x.length).sum+ys.length*(NF " ").length<=16777216/\Q (.str (Txt.join (NF " ") ys)):=λys h1 h2=>by
    have:=E9 (ws:=ys);exact⟨by rw [AD];omega,q _ (Nn h1 h2)⟩
   refine⟨Uy,Uy,λk k0 k1=>⟨a,b,c,d,e,rfl,hn,λo ho=>?_⟩⟩;obtain⟨k,rfl⟩:=OX k0;have hk:k < ws.length:=Uy
   have ek:atI (ws.map NH) (k:Int)=some (.str ws[k]):=mG (by simp [hk]);have sp:jW ws=jW (ws.take k)+(ws[k].length+1+jW (ws.drop (k+1))):=by
    rw [<-uR,<-R9 hk,<-pZ,Q2]
   refine⟨_,ek,_,ek,?_⟩;have okk:Pb ws[k]=true:=hb _ (Qj hk);have t1:=uL (ws:=ws) (k:=k);split
   ·have t2:=Np (ws:=ws) (k:=k) Uy;have t3:bw (ws.map NH) (some ((k:Int)+2)) none=(ws.drop (k+2)).map .str:=by
     rw [show(k:Int)+2=((k+2:Nat):Int) by omega];exact oS
    rw [t1,t2,t3,<-TL,<-PZ,<-PZ];have st:jW ws=jW (ws.take k)+(jW ((ws.drop k).take 2)+jW (ws.drop (k+2))):=by
     rw [<-List.drop_drop,<-pZ,Q2,<-pZ,Q2]
    refine⟨by simp only [NQ,Pm,Pu,RN];omega,by simp only [NQ,Pp,Pm,Pu,RN];omega,_,rfl,?_⟩;refine fin _ (λp hp=>hb p ?_) (by rw [pZ,pZ,Nk];omega);simp only [P4,List.mem_reverse] at hp;rcases hp with(h | h) | h
    ·exact PN h
    ·exact P0 (PN h)
    ·exact P0 h
   ·rename_i h7;have t3:bw (ws.map NH) (some ((k:Int)+1)) none=(ws.drop (k+1)).map .str:=by
     rw [show(k:Int)+1=((k+1:Nat):Int) by omega];exact oS
    obtain⟨xs,ex,hx,tx⟩:∃xs:List Str,atI [O6 [],O6 [.str ws[k],.str ws[k]],O6 [.str o],O6 [.str o,.str ws[k]]] (i - 3)=some (.list (xs.map .str))/\(∀p∈xs,Pb p=true)/\(xs.length<=2/\jW xs<=ws[k].length+1+(z.length+15)):=by
     have lk:ws[k].length<=z.length:=Uy
     have:=ho.1;have i7:¬i=7:=by simpa using h7
     rcases(show i - 3=0\/i - 3=1\/i - 3=2\/i - 3=3 by omega) with e | e | e | e <;> rw [e]
     ·exact⟨[],rfl,(λp hp=>by cases hp),UC,by simp [jW]⟩
     ·exact⟨[ws[k],ws[k]],rfl,(λp hp=>by simp at hp;rw [hp];exact okk),UC,by simp [jW];omega⟩
     ·exact⟨[o],rfl,(λp hp=>by simp at hp;rw [hp];exact ho.2),UC,by simp [jW];omega⟩
     ·exact⟨[o,ws[k]],rfl,(λp hp=>by simp at hp;rcases hp with h | h <;> rw [h];exact ho.2;exact okk),UC,by simp [jW];omega⟩
    refine⟨_,ex,_,rfl,?_⟩;rw [t1,t3,<-PZ,<-PZ];refine⟨by simp only [NQ,Pm];omega,by simp only [NQ,Pp,Pm,Pu];omega,_,rfl,?_⟩;refine fin _ (λp hp=>?_) (by rw [pZ,pZ];omega);simp only [P4] at hp;rcases hp with(h | h) | h
    ·exact hb p (PN h)
    ·exact hx p h
    ·exact hb p (P0 h)
end
theorem AW:cK (ay ux) ["_law_found","_law_due"] ["_law_one","_law_other"] 2 [] ⟨OJ,[ (NL ".0",Ws),(NL "_law_one",Ws),(NL "_law_other",Ws),(NL "_law_same",OS)],false,false,[]⟩:= .of
section
variable {P:US} {w:UU} {K:NG} {mg:Str->Option UE} {base:UR} {t:k9}
def AX:UD->Prop
 | .bool _=>True
 | .int _=>True
 | .str z=>Pb z=true
 | _=>False
def oa:Nat->UD->Prop
 | 0,x=>AX x
 | d+1,x=>AX x\/∃xs,x= .tuple xs/\xs.length<=1000/\∀y∈xs,oa d y
theorem Fb:∀{xs:List UD}{x:UD},x∈oO xs xs->∃y∈xs,x= .tuple [y,y]
 | [],_,h=>by cases h
 | a::l,x,h=>by
  have h:x∈O5 [a,a]::oO l l:=h;rcases NN.mp h with e | e
  ·exact⟨a,UC,e⟩
  ·obtain⟨y,hy,e⟩:=Fb e;exact⟨y,by simp [hy],e⟩
def Nu(d:Nat):List UD->(UD->Prop)->Prop:=λds Q=>∃x,ds=[x,x]/\oa d x/\Q (.bool true)
theorem Nv{k:Nat}{f:UH}{fd:UP}{ps:List Str}:aC P w K mg base CX0 k f fd ps (bf K λ_ _=>False):=⟨λvs H Q E uu57=>by obtain⟨_,_,_,_,_,h,_⟩:=uu57;exact h.elim,λ_ _ _ _ _ _ _ _ _ _ _ _ _ uu58=>by obtain⟨_,_,_,_,_,h,_⟩:=uu58;exact h.elim⟩
theorem Fc{d:Nat}{F:List UD->(UD->Prop)->Prop}(T:Txt K mg t)(G_r:aC P w K mg base CX0 d t.a_r t.d_r ["_law_found","_law_due"] (bf K F)):
 aC P w K mg base CX0 (d+1) t.a_r t.d_r ["_law_found","_law_due"] (bf K λds Q=>∃x,ds=[x,x]/\(AX x\/∃xs,x= .tuple xs/\xs.length<=1000/\∀y∈xs,∀R:UD->Prop,R (.bool true)->F [y,y] R)/\Q (.bool true)):=by
 refine T.F_r.F.okD K5 (λds Q h=>?_) (λ_ _ _ _ H O ds Q E hr h=>?_)
 ·obtain⟨x,rfl,_⟩:=h;rfl
 ·obtain⟨x,rfl,hx,q⟩:=h;refine'⟨_,?A,?B⟩
  case A=>
   refine' ai ?C ?D
   case C=>
    refine' aL ?E ?F aK
    case E=>exact(cn (mi (K':=K) (T:="tuple") rfl rfl T.n_isinstance kZ (df (dv 1)) (lI (v:= .ty "tuple") rfl T.n_tuple lz rfl)))
    case' F=>refine' ai ?G ?H
    case G=>
     refine' aL ?I ?J aK
     case I=>exact(PW.pt (kB (kr (cn (mi (K':=K) (T:="tuple") rfl rfl T.n_isinstance kZ (df (dv 0)) (lI (v:= .ty "tuple") rfl T.n_tuple lz rfl)))) (lh (aI (mV hr.units) mW (PE.imp (aT jZ rfl T.n_len Of (aw (dv 0) az)) (aE j9)) (PE.imp (aT jZ rfl T.n_len Of (aw (dv 1) az)) (aE j9)) (aB _)))))
     case J=>refine' ar (aA lU)
    case' H=>refine' ar ?K
    case' K=>refine' aA ?L
    case L=>exact(PE.imp (aT (oA rfl) rfl T.n_all oB (aw (fe (JP rfl AW rfl T.n_zip (aw (dv 0) (aw (dv 1) az)) (BZ (pz j6 (pz j6 vX))) Js Ce (λ_ _ _ _=>(vj (n:=2) rfl (nK (jU (i:=0) AW.nd rfl UB) (nK (jU (i:=1) AW.nd rfl UB) sI)))) (λ_ _ _ _=>lM) (λ_ _ _ _=>(PE.imp (lu G_r (hr.mono (NT _)) rfl T.F_r (aa (dv 0) (aa (dv 1) ah))) BX)))) az)) (aE oF))
   case' D=>refine' ar ?M
   case' M=>refine' aA ?N
   case N=>exact(ky (j5 (j7 hr.units) j8 (df (mi (K':=K) (T:="bool") rfl rfl T.n_isinstance kZ (df (dv 0)) (lI (v:= .ty "bool") rfl T.n_bool rF rfl))) (df (mi (K':=K) (T:="bool") rfl rfl T.n_isinstance kZ (df (dv 1)) (lI (v:= .ty "bool") rfl T.n_bool rF rfl))) (aB _)) (lj (j5 (j7 hr.units) j8 (df (dv 0)) (df (dv 1)) (aB _))))
  case B=>
  clear hr T G_r;walk_at "a";simp only [tQ,wA];rcases hx with hs | ⟨xs,rfl,hl,hF⟩
  ·obtain⟨t0,nd,sh,ev⟩:oI x=false/\(∀y:UD,¬x=Ut [(QW,y)])/\P8 x=true/\x.eqv x=true:=by
    cases x with
    | bool b=>exact⟨rfl,(λ_ e=>by cases e),eg,by rw [er];exact beq_self_eq_true _⟩
    | int i=>exact⟨rfl,(λ_ e=>by cases e),d9,by rw [ei];exact beq_self_eq_true _⟩
    | str z=>exact⟨rfl,(λ_ e=>by cases e),mX.mpr hs,by rw [br];exact beq_self_eq_true _⟩
    | none=>exact hs.elim
    | list l=>exact hs.elim
    | tuple l=>exact hs.elim
    | dict l=>exact hs.elim
   refine⟨_,rfl,nd,?_⟩;rw [t0,Uz Oq];refine⟨_,rfl,nd,_,rfl,nd,?_⟩;rw [UA UC,ev];exact⟨sh,sh,q⟩
  ·have nd:∀y:UD,¬O5 xs=Ut [(QW,y)]:=λ_ e=>by cases e
   refine⟨_,rfl,nd,?_⟩;rw [show oI (.tuple xs)=true from rfl,UA rfl];refine⟨_,rfl,nd,?_⟩;rw [Uz Ce];refine⟨xs,.inr rfl,xs,.inr rfl,?_⟩;rw [Uz UC];refine⟨xs,rfl,xs,rfl,rfl,Uy,pL (p:=λb=>Q (.bool b)) (λ_=>true) (λx hx R hR=>?_) ?_⟩
   ·obtain⟨y,hy,rfl⟩:=Fb hx;walk_at "a";exact hF y hy R hR
   ·have e:∀l:List UD,((l.map λ_=>true).all id)=true:=λl=>by rw [QK];exact Pf.mpr λ_ _=>rfl
    rw [e];exact q
theorem Fd(T:Txt K mg t):∀n,aC P w K mg base CX0 (16+n) t.a_r t.d_r ["_law_found","_law_due"] (bf K (Nu n))
 | 0=>(Fc T (d:=15) Nv).imp λvs H Q E uu59=>by obtain⟨O,ds,Qd,a,b,⟨x,e,hx,q⟩,k⟩:=uu59;exact⟨O,ds,Qd,a,b,⟨x,e,.inl hx,q⟩,k⟩
 | n+1=>(Fc T (Fd T n)).imp λvs H Q E uu60=>by obtain⟨O,ds,Qd,a,b,⟨x,e,hx,q⟩,k⟩:=uu60;exact⟨O,ds,Qd,a,b,⟨x,e,hx.imp id (λuu61=>by obtain⟨xs,e1,e2,e3⟩:=uu61;exact⟨xs,e1,e2,λy hy R hR=>⟨y,rfl,e3 y hy,hR⟩⟩),q⟩,k⟩
theorem Nw{d:UD}(h:bL d):oa 3 d:=by
 have st:∀{z:Str}(n:Nat),Pb z=true->oa n (.str z):=λn h=>by cases n;exact h;exact .inl h
 have it:∀{z:Int}(n:Nat),oa n (.int z):=λn=>by cases n;exact trivial;exact .inl trivial
 have bt:∀{z:Bool}(n:Nat),oa n (.bool z):=λn=>by cases n;exact trivial;exact .inl trivial
 have tp:∀{l:List UD}{n:Nat},l.length<=1000->(∀x∈l,oa n x)->oa (n+1) (.tuple l):=λh1 h2=>.inr ⟨_,rfl,h1,h2⟩;have ac:∀{p:UD->Prop}{a:UD}{l:List UD},p a->(∀x∈l,p x)->∀x∈a::l,p x:=λh1 h2=>List.forall_mem_cons.mpr ⟨h1,h2⟩;have an:∀{p:UD->Prop},∀x∈([]:List UD),p x:=λx hx=>by cases hx
 have wl:∀{u:Str}{l:List Str},u∈l->(∀z∈l,Pb z=true)->Pb u=true:=λh h2=>h2 _ h;have sn:∀{s:UD},lX s->oa 1 s:=λh=>by
  cases h with
  | coming=>exact tp UC (ac (st 0 td) an)
  | first h=>exact tp UC (ac (st 0 td) (ac (st 0 h.ok) an))
  | last h=>exact tp UC (ac (st 0 td) (ac (st 0 h.ok) an))
 cases h with
 | paper _ hx hk hm=>exact tp UC (ac (st _ td) (ac (it _) (ac (st _ hx.ok) (ac (st _ hk.ok) (ac (tp (by rw [NQ];have:=hm.len;omega) λx hx=>by obtain⟨m,hm',rfl⟩:=Pa.mp hx;exact st _ (hm.nm m hm').ok) an)))))
 | two hw _ hx hy=>exact tp UC (ac (st _ (wl hw td)) (ac (it _) (ac (st _ hx.ok) (ac (st _ hy.ok) an))))
 | rule _ hx hp=>
  refine tp UC (ac (st _ td) (ac (it _) (ac (st _ hx.ok) (ac ?_ an))));cases hp with
  | wfl hw hk=>exact tp UC (ac (st _ (wl hw td)) (ac (st _ hk.ok) an))
  | kg hw hk hs _ _ hu=>exact tp UC (ac (st _ (wl hw td)) (ac (st _ hk.ok) (ac (sn hs) (ac (it _) (ac (st _ (wl hu td)) an)))))
 | one hw _ hx=>exact tp UC (ac (st _ (wl hw td)) (ac (it _) (ac (st _ hx.ok) an)))
 | hold _ hx hg hy=>exact tp UC (ac (st _ td) (ac (it _) (ac (st _ hx.ok) (ac (tp UC (ac (st _ (wl hg td)) (ac (st _ hy.ok) an))) (ac (bt _) an)))))
theorem zk(T:Txt K mg t):lC K t.u_NoText:=⟨T.z1,T.z2,T.z3,T.z4,T.z5,T.z6,T.z7,T.z8⟩
def Nx(C:UH):Sp:=λvs H Q _=>∃e dd:UH,vs=[.ref e]/\H e=some (.ext (kE e (.ref C) (some dd)))/\H dd=some (.xd [("row",.int 0)])/\∀H',ao H H'->Q (.bl true) H'
theorem Ny(T:Txt K mg t):aC P w K mg base CX0 1 t.a_s t.d_s ["_law_e"] (Nx t.u_NoText):=by
 refine T.F_s.F.ok K6 (λvs H Q E h=>?_) (λcdv A outer s H vs Q E hr h=>?_)
 ·obtain⟨e,dd,rfl,_⟩:=h;rfl
 ·obtain⟨e,dd,rfl,he,hd,k⟩:=h;refine'⟨_,?A,?B⟩
  case A=>
   refine' kF ?C ?D
   case C=>
    refine' oo ?E ?F om
    case E=>exact(PW.pt (uY (uZ (p6 (aT (Dw (K':=K) rfl) rfl T.n_isinstance kZ (aN (pv 0) (aN (jX (v:= .ref t.u_NoText) rfl T.c_NoText rfl) bF))))) (uY (uZ (p6 (aT (Dw (K':=K) rfl) rfl T.n_isinstance kZ (aN (pv 0) (aN (lI (v:= .ty "ValueError") rfl T.n_ValueError He rfl) bF))))) (A1 (p6 (aT GX rfl T.n_isinstance kZ (aN (Dn (pv 0) rfl) (aN (lI (v:= .ty "bool") rfl T.n_bool rF rfl) bF))))))))
    case' F=>refine' kh ?G
    case G=>refine' kG uT
   case' D=>refine' kF ?H ?I
   case H=>
    refine' oo ?J ?K om
    case J=>exact(p6 (aT (Dx (K':=K) rfl) rfl T.n_isinstance kZ (aN (pv 0) (aN (sW (aN (jX (v:= .ref t.u_GoneMaker) rfl T.c_GoneMaker rfl) (aN (jX (v:= .ref t.u_Held) rfl T.c_Held rfl) (aN (jX (v:= .ref t.u_MustStay) rfl T.c_MustStay rfl) (aN (jX (v:= .ref t.u_NoCall) rfl T.c_NoCall rfl) (aN (jX (v:= .ref t.u_NoDay) rfl T.c_NoDay rfl) bF)))))) bF))))
    case' K=>refine' kh ?L
    case L=>refine' kG uT
   case' I=>refine' kh ?M
   case' M=>refine' kG ?N
   case N=>exact(A3 (aT (Dx (K':=K) rfl) rfl T.n_isinstance kZ (aN (pv 0) (aN (sW (aN (jX (v:= .ref t.u_NoDeed) rfl T.c_NoDeed rfl) (aN (jX (v:= .ref t.u_NoLeave) rfl T.c_NoLeave rfl) (aN (jX (v:= .ref t.u_NoNumber) rfl T.c_NoNumber rfl) (aN (jX (v:= .ref t.u_NoPaper) rfl T.c_NoPaper rfl) (aN (jX (v:= .ref t.u_Twice) rfl T.c_Twice rfl) bF)))))) bF))))
  case B=>
  walk_at "d";have hi:∀u:UE,aD (.int 0) u->TM u=true:=λu uu62=>by obtain⟨_,h⟩:=uu62;rw [h];rfl
  refine⟨_,_,he,zk T,.ref t.u_NoText,λu h=>h,true,by unfold QG;rw [UA UC],?_⟩;rw [Uz Ce];refine⟨_,_,he,zk T,.type "ValueError",λu h=>h,true,T.kv,?_⟩;rw [Uz Ce];unfold xK;walk_at "d";refine⟨_,_,he,_,hd,zk T,T.xhd,T.xrow,.int 0,rfl,hi,"bool",rfl,_,.int 0,false,rfl,?_⟩;rw [Uz Ce];refine⟨by rw [UT];decide,λp hp=>?_⟩;have n1:e≠p:=λz=>by rw [<-z,he] at hp;cases hp
  have e1:=(av (H:=H) (a:=p) (o:=HO.tup [V.ref t.u_GoneMaker,V.ref t.u_Held,V.ref t.u_MustStay,V.ref t.u_NoCall,V.ref t.u_NoDay]) n1).trans he;refine⟨_,_,e1,[t.u_GoneMaker,t.u_Held,t.u_MustStay,t.u_NoCall,t.u_NoDay],bh,zk T,false,T.ka,?_⟩;rw [Uz Ce];refine⟨by rw [UT];decide,λp2 hp2=>?_⟩;have n2:e≠p2:=λz=>by rw [<-z,e1] at hp2;cases hp2
  have e2:=(av (H:=ak H p (HO.tup [V.ref t.u_GoneMaker,V.ref t.u_Held,V.ref t.u_MustStay,V.ref t.u_NoCall,V.ref t.u_NoDay])) (a:=p2) (o:=HO.tup [V.ref t.u_NoDeed,V.ref t.u_NoLeave,V.ref t.u_NoNumber,V.ref t.u_NoPaper,V.ref t.u_Twice]) n2).trans e1;refine⟨_,_,e2,[t.u_NoDeed,t.u_NoLeave,t.u_NoNumber,t.u_NoPaper,t.u_Twice],bh,zk T,false,T.kb,?_⟩;exact k _ ((ao.new hp).trans (ao.new hp2))
def Fe:List UD->(UD->Prop)->Prop:=λds Q=>∃d x,ds=[d,x]/\(∀y,d≠ .dict [(.none,y)])/\(∀z,d= .str z->nF z)/\(bL x/\d= .str (jT x)\/(∀e,bL e->d≠ .str (jT e))/\x= .none)/\Q (.bool true)
theorem Nz(T:Txt K mg t):aC P w K mg base CX0 21 t.a_AA t.d_AA ["_law_thing","_law_due"] (bf K Fe):=by
 have G_f:=@MH P w _ _ base _ T;have G_s:=@Ny P w _ _ base _ T;have G_r:=@Fd P w _ _ base _ T 3;refine T.F_AA.F.ok su (λvs H Q E h=>?_) (λcdv A outer s H vs Q E hr h=>?_)
 ·obtain⟨O,ds,Qd,_,r,⟨d,x,rfl,_⟩,_⟩:=h;exact r.length
 ·obtain⟨O,ds,Qd,tr,r,⟨d,x,rfl,hd,hz,hx,q⟩,k⟩:=h;obtain⟨v,u,rfl,r1,r2⟩:∃v u,vs=[v,u]/\Dt K H O v d/\Dt K H O u x:=by
   cases r with
   | cons r1 r2=>cases r2 with
    | cons r2 r3=>cases r3;exact⟨_,_,rfl,r1,r2⟩
  refine'⟨_,?A,?B⟩
  case A=>
   refine' kF ?C ?D
   case C=>refine' l7 (i:=2) su.nd rfl UB oW
   case' D=>refine' kF ?E ?F
   case E=>refine' l7 (i:=3) su.nd rfl UB oW
   case' F=>refine' kF ?G ?H
   case G=>exact(Ku (C:=t.u_NoText) (i:=4) (j:=3) G_f (hr.mono Ce) rfl T.F_f.m T.F_f.kp T.F_f.b (λE'=>(aN (pv 0) bF)) rfl rfl T.c_ArchiveError rfl T.xm_NoText.seen T.q_ArchiveError Ce T.i_NoText_ArchiveError su.nd rfl UB UB rfl rfl (λe=>(kh (l7 (i:=2) su.nd rfl UB (pv 4)))))
   case' H=>refine' kF ?I ?J
   case I=>
    refine' oo ?K ?L om
    case K=>exact(o9 vA (pv 1) oW (aB _))
    case' L=>refine' kh ?M
    case' M=>refine' kG ?N
    case N=>exact(qW (oZ sQ (pv 2) oW (aB _)) (qV (lu G_r (hr.mono Ce) rfl T.F_r (aN (pv 3) (aN (pv 1) bF)))))
   case' J=>refine' kh ?O
   case' O=>refine' kG ?P
   case P=>exact(qW (oZ vA (pv 2) oW (aB _)) (qW (lu G_s (hr.mono Ce) rfl T.F_s (aN (pv 2) bF)) (qV (oZ sO (Dn (pv 2) rfl) cg (aB _)))))
  case B=>
  walk_at "d";refine⟨_,rfl,O,[d],λy=>bL x/\y=x,λn=>n=0/\x= .none,tr,.cons r1 .nil,⟨d,rfl,hd,hz,λe he ee=>?_,λh=>?_⟩,?_,?_⟩
  ·rcases hx with⟨hv,e2⟩ | ⟨hn,_⟩
   ·refine⟨hv,?_⟩;rw [ee] at e2;injection e2 with e2
    have a:=qO he;have b:=qO hv;rw [<-a.2,<-b.2,<-a.1,<-b.1,e2]
   ·exact absurd ee (hn e he)
  ·rcases hx with⟨hv,e2⟩ | ⟨_,hn⟩
   ·exact absurd e2 (h x hv)
   ·exact⟨rfl,hn⟩
  ·rintro y v2 H2 ⟨hv,rfl⟩ s2 r3;walk_at "d";have un:u≠ .non:=λz=>by
    subst z;obtain⟨_,_,_,_,rfl,_⟩:=n8 hv;cases r2
   rw [UA (by simpa using un)];refine⟨O,[y,y],λb=>b= .bool true,λl h z=>?_,.cons r3 (.cons (r2.mono s2) .nil),⟨y,rfl,Nw hv,rfl⟩,?_⟩
   ·cases h1:H l with
    | none=>exact tr l h h1
    | some o=>have:=s2 l o h1;rw [z] at this;cases this
   ·rintro b v3 H3 rfl s3 r4;exact k _ _ _ q (s2.trans s3) r4
  ·rintro n ⟨rfl,rfl⟩ dd H2 s2 hdd;refine⟨rfl,λe he=>?_⟩;walk_at "d";have un:u= .non:=by cases r2;rfl
   subst un;rw [Uz (λz=>z rfl),UA (λz=>by cases z)];have nd:dd≠e:=λz=>by rw [z,he] at hdd;cases hdd
   have ed:=(av (H:=H2) (a:=e) (o:=HO.ext (kE e (.ref t.u_NoText) (some dd))) nd).trans hdd;have s3:=s2.trans (ao.new (o:=HO.ext (kE e (.ref t.u_NoText) (some dd))) he);have ee:=bh (H:=H2) (a:=e) (o:=HO.ext (kE e (.ref t.u_NoText) (some dd)));generalize ak H2 e _=H3 at*;refine⟨e,dd,rfl,ee,ed,λH4 s4=>⟨true,rfl,?_⟩⟩;rw [UA rfl];unfold xK;walk_at "d";have hi:∀u:UE,aD (.int 0) u->TM u=true:=λu uu63=>by obtain⟨_,h⟩:=uu63;rw [h];rfl
   exact⟨_,_,s4 _ _ ee,_,s4 _ _ ed,zk T,T.xhd,T.xrow,.int 0,rfl,hi,rfl,k _ _ _ q (s3.trans s4) (.bl _)⟩
def F_AB:List UD->(UD->Prop)->Prop:=λds Q=>∃ns:List Int,ds=[ma (ns.map .int)]/\ns.length<=63/\(∀z∈ns,Pj z<=1048576)/\Q (.bool true)
def sp_law(K:NG):Sp:=bf K F_AB
theorem start_law{K:NG}{H:Hp}{a:UH}{ns:List Int}(hl:ns.length<=63)(hb:∀z∈ns,Pj z<=1048576)(hS:bj K H a (ns.map V.int)):sp_law K [.ref a] H (λv _=>v= .bl true) λ_ _ _=>False:=
 ⟨λ_=>False,[ma (ns.map .int)],λd=>d= .bool true,λ_ z=>z.elim,.cons (.scr (by
  rcases hS with h | h
  ·exact .inl ⟨h,λz=>z⟩
  ·exact .inr (.inr h)) (aq.ints ns)) .nil,⟨ns,rfl,hl,hb,rfl⟩,λd v H' e _ r=>by subst e;cases r;rfl⟩
theorem qS{d x:UD}{Q:UD->Prop}:Fe [d,x] Q↔(∀y,d≠ .dict [(.none,y)])/\(∀z,d= .str z->nF z)/\(bL x/\d= .str (jT x)\/(∀e,bL e->d≠ .str (jT e))/\x= .none)/\Q (.bool true):=⟨λuu64=>by obtain⟨_,_,e,h⟩:=uu64;cases e;exact h,λh=>⟨_,_,rfl,h⟩⟩
theorem NA{e:UD}(h:bL e):jT e≠NF "":=λz=>by
 have a:=(qO h).1;rw [z] at a;obtain⟨w,n,x,r,rfl,_⟩:=n8 h;have b:=congrArg QU a;rw [show(Txt.split (NF "") (NF " ")).length=1 by decide+kernel] at b;simp only [kn,NI] at b;omega
theorem ok_law(T:Txt K mg t):aC P w K mg base CX0 22 t.a_AB t.d_AB ["_law_script"] (sp_law K):=by
 have G_h:=@LR P w _ _ base _ T;have G_i:=@pW P w _ _ base _ T;have G_j:=@L4 P w _ _ base _ T;have G_p:=@MX P w _ _ base _ T;have G_q:=@M0 P w _ _ base _ T;have G_z:=@Nt P w _ _ base _ T;have G_x:=@Nc P w _ _ base _ T;have G_AA:=@Nz P w _ _ base _ T;refine T.F_AB.F.okD ny (λds Q h=>?_) (λ_ _ _ _ H O ds Q E hr h=>?_)
 ·obtain⟨ns,rfl,_⟩:=h;rfl
 ·obtain⟨ns,rfl,hl,hb,q⟩:=h;refine'⟨_,?A,?B⟩
  case A=>
   refine' ai ?C ?D
   case C=>
    generalize hG2:Qr _ _=eg2;refine' Hv Qz rfl ?E ?F j6 ?G (hs:=by subst hG2;intro _;rfl)
    case E=>
     subst hG2;refine' fe ?H
     case' H=>refine' bB ?I
     case' I=>refine' aa ?J ?K
     case J=>exact((ku))
     case' K=>refine' aa ?L ?M
     case L=>exact((ae))
     case' M=>refine' aa ?N ?O
     case N=>exact((lU))
     case' O=>refine' aa ?P ?Q
     case P=>exact(((cy ah)))
     case' Q=>refine' aa ?R ?S
     case R=>exact(((fe (bB ah))))
     case' S=>refine' aa ?T ?U
     case T=>exact((IB))
     case' U=>refine' aa ?V ?W
     case V=>exact(((fe (bB (aa aF ah)))))
     case' W=>refine' aa ?X ?Y
     case X=>exact(((cy (mY (ds:=[.str "end",.int 0,.str "a"]) (by rfl)))))
     case' Y=>refine' aa ?Z ?a
     case Z=>exact(((fe (bB (aa (fe (bB ah)) ah)))))
     case' a=>refine' aa ?b ah
     case b=>exact((aF))
    case F=>exact(jU (i:=1) ny.nd rfl UB)
    case' G=>refine' ar ?c
    case' c=>refine' aL ?d ?e aK
    case d=>exact(kr (cn (au G_AA hr T.F_AA (aa (dv 1) (aa ku ah)))))
    case e=>refine' ar (aA lU)
   case' D=>refine' ai ?f ?g
   case f=>
    refine' vY Qz rfl rfl T.n_range (aa (PE.imp (aT (FX rfl) rfl T.n_max Uu (aw ae (aw (PE.imp (aT (vB rfl) rfl T.n_min RJ (aw (PE.imp (aT jZ rfl T.n_len Of (aw (dv 0) az)) (aE HA)) (aw ae az))) (aE tH)) az))) (aE tH)) ah) ?h j6 ?i
    case h=>exact(jU (i:=2) ny.nd rfl UB)
    case' i=>refine' ai ?j ?k
    case j=>exact(aJ (i:=3) ny.nd rfl UB (au G_h hr T.F_h (aa (dv 0) (aa (dv 2) ah))))
    case' k=>refine' ai ?l ?m
    case l=>exact(aJ (i:=4) ny.nd rfl UB (au G_j hr T.F_j (aa (dv 3) (aa ae ah))))
    case' m=>refine' ai ?n ?o
    case n=>exact(aJ (i:=5) ny.nd rfl UB (au G_q hr T.F_q (aa (au G_p hr T.F_p (aa (dv 3) (aa (dv 4) ah))) ah)))
    case' o=>refine' ar ?p
    case' p=>refine' vY Qz rfl rfl T.n_range (aa ae ah) ?q j6 ?r
    case q=>exact(jU (i:=6) ny.nd rfl UB)
    case' r=>refine' ai ?s ?t
    case s=>exact(aJ (i:=7) ny.nd rfl UB (dv 5))
    case' t=>refine' ai ?u ?v
    case u=>
     refine' vY Qz rfl rfl T.n_range (aa (au G_i hr T.F_i (aa (dv 3) (aa ae ah))) ah) ?w j6 ?x
     case w=>exact(jU (i:=8) ny.nd rfl UB)
     case' x=>refine' ar ?y
     case y=>exact(aJ (i:=7) ny.nd rfl UB (au G_z hr T.F_z (aa (dv 3) (aa (dv 7) (aa (dv 4) ah)))))
    case' v=>refine' ar ?z
    case' z=>refine' aL ?A0 ?A1 aK
    case A0=>exact(kr (cn (au G_AA hr T.F_AA (aa (dv 7) (aa (au G_x hr T.F_x (aa (dv 7) ah)) ah)))))
    case A1=>refine' ar (aA lU)
   case g=>refine' ar (aA lU)
  case B=>
  clear G_h G_i G_j G_p G_q G_z G_x G_AA hr T;walk_at "a";refine⟨λ_ δ=>∃o:Option Sl,δ=[some (Sl.v (ma (ns.map .int))),o,none,none,none,none,none,none,none],⟨_,rfl⟩,?_,?_⟩
  ·rintro j x δ hx ⟨o,rfl⟩;have hx:=PK hx;have hh:(∀y,x≠ .dict [(.none,y)])/\∀z,x= .str z->z=NF "":=by
    simp only [NN,NX,or_false] at hx;rcases hx with rfl | rfl | rfl | rfl | rfl | rfl | rfl | rfl | rfl | rfl <;> exact⟨(λy e=>by cases e),λz e=>by first | (cases e;done) | (injection e with e;exact e.symm)⟩
   simp only [qS,true_and,↓iX,↓ja,↓jb,↓jd,↓je,↓jf,↓jg,↓iY,↓ff,↓iy,↓jJ,↓jK,↓jL,↓jM,↓jN,↓jO,↓iz,↓iA,↓iB,↓iC,↓iD,↓iE,↓iF,↓iG,↓iH,↓iI,↓iJ,↓iK,↓iL,↓iM,↓iN,↓iO,↓iP,↓iQ,↓iR,↓iS,↓iT,↓iU,↓iV,↓iW,cT,cU,cX,cW,fC,fD,cV,cY,cZ,dm,dn,fL,cL,dC,bA,dI,dD,dE,dF,fR,dG,bX,dX,dW,dJ,dH,dL,cC,cM,fz,cx,cm,bK,cN,cO,cP,cQ,fA,cR,cS,cq,cu,fB,gz,gA,gB,gC,gD,gE,gF,gG,gH,gI,gJ,gK,gL,gM,gN,gO,gP,gQ,gR,gS,gT,gU,gW,gX,gY,gZ,g6,g9,hG,hJ,hV,hW,hX,hZ,ic,ie,ig,ij,ik,il,ip,iq,iu,eT,dO,fQ,dY,cI,fT,d7,dM,dN,dP,dQ,dR,dS,dU,cG,dZ,d3,d6,bU,fM,fN,fO,fE,fF,fG,fH,dz,fJ,dA,fK,eN,eR,gs,gu,gx,gr,gy,eG,eJ,eL,eM,bY,eQ,eO,eD,eF,eV,eX,eY,eZ,cb,iw,ix,i3,iZ,i4,i5,i6,i8,i9,fg,fh,jk,ji,jj,jh,jq,jl,jm,jn,jo,cJ,fj,jv,jw,jr,jt,ju,jx,jy,jz,fk,jA,jB,jD,jE,fq,jF,jG,jH,jC,jI,ft,fu,fv,fw,jP,jQ,jR,bP,gc,gf,gh,gi,gj,gk,gm,gn,gp,ne_eq,b0,fX,fY,fZ,gb,fU,fV,fW,cD,cE,dB,c7,dj,di,dh,bT,bR,bg,bV,ck,bW,NM,Od,NI,N7,NO,N4,N8,NZ,OD,OE,OM,ON,OO,NU,NS,Oc,N5,N6,N9,exists_eq_left',exists_eq_left,exists_and_left,exists_and_right,Oi,Oj,Sl.v.injEq,Sl.o.injEq,Sl.k.injEq,Ot,Om,Ou,Oe,Oo,NP,and_true,true_and,OP,Ov,exists_const,decide_eq_true_eq,OQ,OR,OH,OI,N0,decide_eq_false_iff_not,and_assoc,or_true,true_or,↓reduceIte,if_true,if_false,N1,Oa,not_true_eq_false,not_false_eq_true,OK,OA,ite_true,ite_false,eq_self,exists_eq,reduceCtorEq,false_and,and_false,or_false,false_or,exists_false,Ox,Oy,cj,OG,OU,OC,OV,N3,OB,Ob,OL,aV,bp,bS,cH,d8,br,ei,er,beq_self_eq_true,d9,eg,fS,bx,UT];refine⟨hh.1,λz e=>?_,.inr λe he z=>NA he (hh.2 _ z),?_⟩
   ·rw [hh.2 z e];exact⟨td,td⟩
   ·exact⟨_,rfl⟩
  ·rintro δ ⟨o,rfl⟩;simp only [qS,true_and,↓iX,↓ja,↓jb,↓jd,↓je,↓jf,↓jg,↓iY,↓ff,↓iy,↓jJ,↓jK,↓jL,↓jM,↓jN,↓jO,↓iz,↓iA,↓iB,↓iC,↓iD,↓iE,↓iF,↓iG,↓iH,↓iI,↓iJ,↓iK,↓iL,↓iM,↓iN,↓iO,↓iP,↓iQ,↓iR,↓iS,↓iT,↓iU,↓iV,↓iW,cT,cU,cX,cW,fC,fD,cV,cY,cZ,dm,dn,fL,cL,dC,bA,dI,dD,dE,dF,fR,dG,bX,dX,dW,dJ,dH,dL,cC,cM,fz,cx,cm,bK,cN,cO,cP,cQ,fA,cR,cS,cq,cu,fB,gz,gA,gB,gC,gD,gE,gF,gG,gH,gI,gJ,gK,gL,gM,gN,gO,gP,gQ,gR,gS,gT,gU,gW,gX,gY,gZ,g6,g9,hG,hJ,hV,hW,hX,hZ,ic,ie,ig,ij,ik,il,ip,iq,iu,eT,dO,fQ,dY,cI,fT,d7,dM,dN,dP,dQ,dR,dS,dU,cG,dZ,d3,d6,bU,fM,fN,fO,fE,fF,fG,fH,dz,fJ,dA,fK,eN,eR,gs,gu,gx,gr,gy,eG,eJ,eL,eM,bY,eQ,eO,eD,eF,eV,eX,eY,eZ,cb,iw,ix,i3,iZ,i4,i5,i6,i8,i9,fg,fh,jk,ji,jj,jh,jq,jl,jm,jn,jo,cJ,fj,jv,jw,jr,jt,ju,jx,jy,jz,fk,jA,jB,jD,jE,fq,jF,jG,jH,jC,jI,ft,fu,fv,fw,jP,jQ,jR,bP,gc,gf,gh,gi,gj,gk,gm,gn,gp,ne_eq,b0,fX,fY,fZ,gb,fU,fV,fW,cD,cE,dB,c7,dj,di,dh,bT,bR,bg,bV,ck,bW,NM,Od,NI,N7,NO,N4,N8,NZ,OD,OE,OM,ON,OO,NU,NS,Oc,N5,N6,N9,exists_eq_left',exists_eq_left,exists_and_left,exists_and_right,Oi,Oj,Sl.v.injEq,Sl.o.injEq,Sl.k.injEq,Ot,Om,Ou,Oe,Oo,NP,and_true,true_and,OP,Ov,exists_const,decide_eq_true_eq,OQ,OR,OH,OI,N0,decide_eq_false_iff_not,and_assoc,or_true,true_or,↓reduceIte,if_true,if_false,N1,Oa,not_true_eq_false,not_false_eq_true,OK,OA,ite_true,ite_false,eq_self,exists_eq,reduceCtorEq,false_and,and_false,or_false,false_or,exists_false,Ox,Oy,cj,OG,OU,OC,OV,N3,OB,Ob,OL,aV,bp,bS,cH,d8,br,ei,er,beq_self_eq_true,d9,eg,fS,bx,UT];refine⟨_,rfl,?_⟩;generalize hm:(if (if (14:Int) < ((Pe NW ns).length:Int) then 14 else((Pe NW ns).length:Int)) > 1 then if (14:Int) < ((Pe NW ns).length:Int) then 14 else((Pe NW ns).length:Int) else 1)=m
   have m16:m<=14:=by
    rw [<-hm]
    repeat' split
    all_goals omega
   have m1:1<=m:=by
    rw [<-hm]
    repeat' split
    all_goals omega
   clear hm;refine⟨Uy,Uy,?_⟩;refine⟨λi δ=>∃(o1 o2 o3 o4 o5 o6 o7 o8:Option Sl),δ=[some (Sl.v (ma (ns.map .int))),o1,o2,o3,o4,o5,o6,o7,o8],⟨_,_,_,_,_,_,_,_,rfl⟩,?_,?_⟩
   ·rintro i z δ hz ⟨o1,o2,o3,o4,o5,o6,o7,o8,rfl⟩;obtain⟨hi,rfl⟩:=tL hz;clear hz;simp only [qS,true_and,↓iX,↓ja,↓jb,↓jd,↓je,↓jf,↓jg,↓iY,↓ff,↓iy,↓jJ,↓jK,↓jL,↓jM,↓jN,↓jO,↓iz,↓iA,↓iB,↓iC,↓iD,↓iE,↓iF,↓iG,↓iH,↓iI,↓iJ,↓iK,↓iL,↓iM,↓iN,↓iO,↓iP,↓iQ,↓iR,↓iS,↓iT,↓iU,↓iV,↓iW,cT,cU,cX,cW,fC,fD,cV,cY,cZ,dm,dn,fL,cL,dC,bA,dI,dD,dE,dF,fR,dG,bX,dX,dW,dJ,dH,dL,cC,cM,fz,cx,cm,bK,cN,cO,cP,cQ,fA,cR,cS,cq,cu,fB,gz,gA,gB,gC,gD,gE,gF,gG,gH,gI,gJ,gK,gL,gM,gN,gO,gP,gQ,gR,gS,gT,gU,gW,gX,gY,gZ,g6,g9,hG,hJ,hV,hW,hX,hZ,ic,ie,ig,ij,ik,il,ip,iq,iu,eT,dO,fQ,dY,cI,fT,d7,dM,dN,dP,dQ,dR,dS,dU,cG,dZ,d3,d6,bU,fM,fN,fO,fE,fF,fG,fH,dz,fJ,dA,fK,eN,eR,gs,gu,gx,gr,gy,eG,eJ,eL,eM,bY,eQ,eO,eD,eF,eV,eX,eY,eZ,cb,iw,ix,i3,iZ,i4,i5,i6,i8,i9,fg,fh,jk,ji,jj,jh,jq,jl,jm,jn,jo,cJ,fj,jv,jw,jr,jt,ju,jx,jy,jz,fk,jA,jB,jD,jE,fq,jF,jG,jH,jC,jI,ft,fu,fv,fw,jP,jQ,jR,bP,gc,gf,gh,gi,gj,gk,gm,gn,gp,ne_eq,b0,fX,fY,fZ,gb,fU,fV,fW,cD,cE,dB,c7,dj,di,dh,bT,bR,bg,bV,ck,bW,NM,Od,NI,N7,NO,N4,N8,NZ,OD,OE,OM,ON,OO,NU,NS,Oc,N5,N6,N9,exists_eq_left',exists_eq_left,exists_and_left,exists_and_right,Oi,Oj,Sl.v.injEq,Sl.o.injEq,Sl.k.injEq,Ot,Om,Ou,Oe,Oo,NP,and_true,true_and,OP,Ov,exists_const,decide_eq_true_eq,OQ,OR,OH,OI,N0,decide_eq_false_iff_not,and_assoc,or_true,true_or,↓reduceIte,if_true,if_false,N1,Oa,not_true_eq_false,not_false_eq_true,OK,OA,ite_true,ite_false,eq_self,exists_eq,reduceCtorEq,false_and,and_false,or_false,false_or,exists_false,Ox,Oy,cj,OG,OU,OC,OV,N3,OB,Ob,OL,aV,bp,bS,cH,d8,br,ei,er,beq_self_eq_true,d9,eg,fS,bx,UT];refine⟨ns,_,rfl,hb,Uy,Uy,rfl,λnms hN=>?_⟩
    obtain⟨a,b,c,d,e,rfl⟩:∃a b c d e,nms=[a,b,c,d,e]:=by
     match nms,hN.len with
     | [a,b,c,d,e],_=>exact⟨_,_,_,_,_,rfl⟩
    refine⟨a,b,c,d,e,rfl,hN.nm,hN.nd,λp hp=>⟨p,rfl,hp,?_⟩⟩;have tk:=Mg hp;dsimp only;refine⟨λj δ=>∃(o6 o7 o8:Option Sl),δ=[some (Sl.v (ma (ns.map .int))),o1,some (Sl.v (NW (0+(i:Int)))),some (Sl.v lT),some (Sl.v (O6 (Pe NH [a,b,c,d,e]))),some (Sl.v (NH (jT p))),o6,o7,o8],⟨_,_,_,rfl⟩,?_,?_⟩
    ·rintro j z δ hz ⟨o6,o7,o8,rfl⟩;obtain⟨hj,rfl⟩:=tL hz;clear hz;simp only [qS,bP,true_and,↓iX,↓ja,↓jb,↓jd,↓je,↓jf,↓jg,↓iY,↓ff,↓iy,↓jJ,↓jK,↓jL,↓jM,↓jN,↓jO,↓iz,↓iA,↓iB,↓iC,↓iD,↓iE,↓iF,↓iG,↓iH,↓iI,↓iJ,↓iK,↓iL,↓iM,↓iN,↓iO,↓iP,↓iQ,↓iR,↓iS,↓iT,↓iU,↓iV,↓iW,cT,cU,cX,cW,fC,fD,cV,cY,cZ,dm,dn,fL,cL,dC,bA,dI,dD,dE,dF,fR,dG,bX,dX,dW,dJ,dH,dL,cC,cM,fz,cx,cm,bK,cN,cO,cP,cQ,fA,cR,cS,cq,cu,fB,gz,gA,gB,gC,gD,gE,gF,gG,gH,gI,gJ,gK,gL,gM,gN,gO,gP,gQ,gR,gS,gT,gU,gW,gX,gY,gZ,g6,g9,hG,hJ,hV,hW,hX,hZ,ic,ie,ig,ij,ik,il,ip,iq,iu,eT,dO,fQ,dY,cI,fT,d7,dM,dN,dP,dQ,dR,dS,dU,cG,dZ,d3,d6,bU,fM,fN,fO,fE,fF,fG,fH,dz,fJ,dA,fK,eN,eR,gs,gu,gx,gr,gy,eG,eJ,eL,eM,bY,eQ,eO,eD,eF,eV,eX,eY,eZ,cb,iw,ix,i3,iZ,i4,i5,i6,i8,i9,fg,fh,jk,ji,jj,jh,jq,jl,jm,jn,jo,cJ,fj,jv,jw,jr,jt,ju,jx,jy,jz,fk,jA,jB,jD,jE,fq,jF,jG,jH,jC,jI,ft,fu,fv,fw,jP,jQ,jR,bP,gc,gf,gh,gi,gj,gk,gm,gn,gp,ne_eq,b0,fX,fY,fZ,gb,fU,fV,fW,cD,cE,dB,c7,dj,di,dh,bT,bR,bg,bV,ck,bW,NM,Od,NI,N7,NO,N4,N8,NZ,OD,OE,OM,ON,OO,NU,NS,Oc,N5,N6,N9,exists_eq_left',exists_eq_left,exists_and_left,exists_and_right,Oi,Oj,Sl.v.injEq,Sl.o.injEq,Sl.k.injEq,Ot,Om,Ou,Oe,Oo,NP,and_true,true_and,OP,Ov,exists_const,decide_eq_true_eq,OQ,OR,OH,OI,N0,decide_eq_false_iff_not,and_assoc,or_true,true_or,↓reduceIte,if_true,if_false,N1,Oa,not_true_eq_false,not_false_eq_true,OK,OA,ite_true,ite_false,eq_self,exists_eq,reduceCtorEq,false_and,and_false,or_false,false_or,exists_false,Ox,Oy,cj,OG,OU,OC,OV,N3,OB,Ob,OL,aV,bp,bS,cH,d8,br,ei,er,beq_self_eq_true,d9,eg,fS,bx,UT];intro g g0 g1;refine⟨Uy,Uy,?_⟩
     refine⟨λh δ=>∃(z:Str)(o8:Option Sl),Sm (if h=0 then 200 else if h=1 then 420 else 860) z/\δ=[some (Sl.v (ma (ns.map .int))),o1,some (Sl.v (NW (0+(i:Int)))),some (Sl.v lT),some (Sl.v (O6 (Pe NH [a,b,c,d,e]))),some (Sl.v (NH (jT p))),some (Sl.v (NW (0+(j:Int)))),some (Sl.v (NH z)),o8],⟨jT p,_,⟨tk.2,tk.1⟩,rfl⟩,?_,?_⟩
     ·rintro h z δ hz ⟨z,o8,hs,rfl⟩;obtain⟨hh,rfl⟩:=tL hz;clear hz;simp only [qS,bP,true_and,↓iX,↓ja,↓jb,↓jd,↓je,↓jf,↓jg,↓iY,↓ff,↓iy,↓jJ,↓jK,↓jL,↓jM,↓jN,↓jO,↓iz,↓iA,↓iB,↓iC,↓iD,↓iE,↓iF,↓iG,↓iH,↓iI,↓iJ,↓iK,↓iL,↓iM,↓iN,↓iO,↓iP,↓iQ,↓iR,↓iS,↓iT,↓iU,↓iV,↓iW,cT,cU,cX,cW,fC,fD,cV,cY,cZ,dm,dn,fL,cL,dC,bA,dI,dD,dE,dF,fR,dG,bX,dX,dW,dJ,dH,dL,cC,cM,fz,cx,cm,bK,cN,cO,cP,cQ,fA,cR,cS,cq,cu,fB,gz,gA,gB,gC,gD,gE,gF,gG,gH,gI,gJ,gK,gL,gM,gN,gO,gP,gQ,gR,gS,gT,gU,gW,gX,gY,gZ,g6,g9,hG,hJ,hV,hW,hX,hZ,ic,ie,ig,ij,ik,il,ip,iq,iu,eT,dO,fQ,dY,cI,fT,d7,dM,dN,dP,dQ,dR,dS,dU,cG,dZ,d3,d6,bU,fM,fN,fO,fE,fF,fG,fH,dz,fJ,dA,fK,eN,eR,gs,gu,gx,gr,gy,eG,eJ,eL,eM,bY,eQ,eO,eD,eF,eV,eX,eY,eZ,cb,iw,ix,i3,iZ,i4,i5,i6,i8,i9,fg,fh,jk,ji,jj,jh,jq,jl,jm,jn,jo,cJ,fj,jv,jw,jr,jt,ju,jx,jy,jz,fk,jA,jB,jD,jE,fq,jF,jG,jH,jC,jI,ft,fu,fv,fw,jP,jQ,jR,bP,gc,gf,gh,gi,gj,gk,gm,gn,gp,ne_eq,b0,fX,fY,fZ,gb,fU,fV,fW,cD,cE,dB,c7,dj,di,dh,bT,bR,bg,bV,ck,bW,NM,Od,NI,N7,NO,N4,N8,NZ,OD,OE,OM,ON,OO,NU,NS,Oc,N5,N6,N9,exists_eq_left',exists_eq_left,exists_and_left,exists_and_right,Oi,Oj,Sl.v.injEq,Sl.o.injEq,Sl.k.injEq,Ot,Om,Ou,Oe,Oo,NP,and_true,true_and,OP,Ov,exists_const,decide_eq_true_eq,OQ,OR,OH,OI,N0,decide_eq_false_iff_not,and_assoc,or_true,true_or,↓reduceIte,if_true,if_false,N1,Oa,not_true_eq_false,not_false_eq_true,OK,OA,ite_true,ite_false,eq_self,exists_eq,reduceCtorEq,false_and,and_false,or_false,false_or,exists_false,Ox,Oy,cj,OG,OU,OC,OV,N3,OB,Ob,OL,aV,bp,bS,cH,d8,br,ei,er,beq_self_eq_true,d9,eg,fS,bx,UT];have hlt:h < 2:=Uy
      have zl:z.length<=if h=0 then 200 else if h=1 then 420 else 860:=hs.1
      refine⟨a,b,c,d,e,z,rfl,hN.nm,⟨Oz zl (by(repeat' split) <;> omega),hs.2⟩,λz' hz'=>⟨z',⟨Oz hz'.1 ?_,hz'.2⟩,rfl,_,rfl⟩⟩;rcases(show h=0\/h=1 by omega) with rfl | rfl
      ·rw [UA rfl] at zl⊢;omega
      ·rw [Uz Ce,UA rfl] at zl;rw [Uz Ce];omega
     ·rintro δ ⟨z,o8,hs,rfl⟩;simp only [qS,bP,true_and,↓iX,↓ja,↓jb,↓jd,↓je,↓jf,↓jg,↓iY,↓ff,↓iy,↓jJ,↓jK,↓jL,↓jM,↓jN,↓jO,↓iz,↓iA,↓iB,↓iC,↓iD,↓iE,↓iF,↓iG,↓iH,↓iI,↓iJ,↓iK,↓iL,↓iM,↓iN,↓iO,↓iP,↓iQ,↓iR,↓iS,↓iT,↓iU,↓iV,↓iW,cT,cU,cX,cW,fC,fD,cV,cY,cZ,dm,dn,fL,cL,dC,bA,dI,dD,dE,dF,fR,dG,bX,dX,dW,dJ,dH,dL,cC,cM,fz,cx,cm,bK,cN,cO,cP,cQ,fA,cR,cS,cq,cu,fB,gz,gA,gB,gC,gD,gE,gF,gG,gH,gI,gJ,gK,gL,gM,gN,gO,gP,gQ,gR,gS,gT,gU,gW,gX,gY,gZ,g6,g9,hG,hJ,hV,hW,hX,hZ,ic,ie,ig,ij,ik,il,ip,iq,iu,eT,dO,fQ,dY,cI,fT,d7,dM,dN,dP,dQ,dR,dS,dU,cG,dZ,d3,d6,bU,fM,fN,fO,fE,fF,fG,fH,dz,fJ,dA,fK,eN,eR,gs,gu,gx,gr,gy,eG,eJ,eL,eM,bY,eQ,eO,eD,eF,eV,eX,eY,eZ,cb,iw,ix,i3,iZ,i4,i5,i6,i8,i9,fg,fh,jk,ji,jj,jh,jq,jl,jm,jn,jo,cJ,fj,jv,jw,jr,jt,ju,jx,jy,jz,fk,jA,jB,jD,jE,fq,jF,jG,jH,jC,jI,ft,fu,fv,fw,jP,jQ,jR,bP,gc,gf,gh,gi,gj,gk,gm,gn,gp,ne_eq,b0,fX,fY,fZ,gb,fU,fV,fW,cD,cE,dB,c7,dj,di,dh,bT,bR,bg,bV,ck,bW,NM,Od,NI,N7,NO,N4,N8,NZ,OD,OE,OM,ON,OO,NU,NS,Oc,N5,N6,N9,exists_eq_left',exists_eq_left,exists_and_left,exists_and_right,Oi,Oj,Sl.v.injEq,Sl.o.injEq,Sl.k.injEq,Ot,Om,Ou,Oe,Oo,NP,and_true,true_and,OP,Ov,exists_const,decide_eq_true_eq,OQ,OR,OH,OI,N0,decide_eq_false_iff_not,and_assoc,or_true,true_or,↓reduceIte,if_true,if_false,N1,Oa,not_true_eq_false,not_false_eq_true,OK,OA,ite_true,ite_false,eq_self,exists_eq,reduceCtorEq,false_and,and_false,or_false,false_or,exists_false,Ox,Oy,cj,OG,OU,OC,OV,N3,OB,Ob,OL,aV,bp,bS,cH,d8,br,ei,er,beq_self_eq_true,d9,eg,fS,bx,UT];have zk:nF z:=⟨Oz hs.1 (by(repeat' split) <;> omega),hs.2⟩
      refine⟨z,rfl,zk,λd hd e=>⟨λ_=>trivial,λ_ e=>e▸zk,.inl ⟨hd,e.symm⟩,_,rfl⟩,λh=>⟨λ_=>trivial,λ_ e=>e▸zk,.inr ⟨λe he ee=>h e he ee.symm,rfl⟩,_,rfl⟩⟩
    ·rintro δ ⟨o6,o7,o8,rfl⟩;exact⟨_,_,_,_,_,_,_,_,rfl⟩
   ·rintro δ ⟨o1,o2,o3,o4,o5,o6,o7,o8,rfl⟩;walk_at "a";exact q
end
end K59
namespace PySem.W.Fast
def tw3132585385580641912:=0
def tw18397195616395592277:=0
def tw11413793026773207130:=0
def tw11407412203800939461:=0
def tw6231538171434911152:=0
def tw15760580259674871604:=0
def tw18222251929512714789:=0
def tw4760230002746947695:=0
def tw6839058596277589050:=0
def tw13595889489903322150:=0
def tw5483835588717767134:=0
def tw17870937370931657692:=0
def tw12173360375265819485:=0
def tw4749296611325222482:=0
def tw14358472040532331961:=0
def tw1427443808059776148:=0
def tw17537727761285899490:=0
def tw12022976899482221619:=0
def tw1582023832425862023:=0
def tw12517878479764120275:=0
def tw11113340202389427686:=0
def tw176994148925500150:=0
def tw5504813902750577095:=0
def tw2515886138535527816:=0
def tw17875300470132385219:=0
def tw4633995675660840968:=0
def tw6932849717442883541:=0
def tw15724606544881566435:=0
def tw16529440211409823634:=0
def tw12945182970745170326:=0
def tw16773538031195246453:=0
def tw14797194620498750602:=0
def tw2639231962559838635:=0
def tw12429984907312691406:=0
def tw2403732155322708975:=0
def tw12401279169579584971:=0
def tw15492645584137720280:=0
def tw6504168614685648073:=0
def tw5597030724714664565:=0
def tw6093911464946715152:=0
def tw16457838108221559335:=0
def tw14009125251407523660:=0
def tw3565109855828173992:=0
def tw665976066181153884:=0
def tw15772283372383742057:=0
def tw6636300456465072559:=0
def tw8811078544382048376:=0
def tw1297634122712235001:=0
def tw2529781967893626657:=0
def tw3098711456304730873:=0
def tw9607698539674842056:=0
def tw18253790004108104598:=0
def tw6847328599618633474:=0
def tw14018140068277145312:=0
def tw4157890501072713095:=0
def tw15563867351269237534:=0
def tw3195598095334291435:=0
def tw4616970282889496257:=0
def tw8098649784335593447:=0
def tw4403368052504379110:=0
def tw16905729303416034999:=0
def tw4278314039399587092:=0
def tw15906899600707159982:=0
def tw7703038670280477702:=0
def tw7588247020984178393:=0
def tw8077356860262269562:=0
def tw15190376227654917054:=0
def tw4147340736661314565:=0
def tw14258178655349681804:=0
def tw17283525024982428553:=0
def tw10600389985886143466:=0
def tw16477659905800693715:=0
def tw1214244344218078108:=0
def tw10309402979646902229:=0
def tw1592090644816242956:=0
def tw6145812272311896978:=0
def tw13346488002369725613:=0
def tw6071745201907012303:=0
def tw12249367248612028040:=0
def tw9973469978111566762:=0
def tw1359304433279282856:=0
def tw17285169520867417762:=0
def tw3380902531840257728:=0
def tw15436068055515546177:=0
def tw1868884174801260695:=0
def tw11837471234653090248:=0
def tw10110706300701067851:=0
def tw16199538266500413125:=0
def tw15021430724603147291:=0
def tw14779409204540936377:=0
def tw11606242584830130630:=0
def tw15131830558137200824:=0
def tw12617982395083185602:=0
def tw5390459155709855463:=0
def tw2604144659109749717:=0
def tw14696261480905357136:=0
def tw1042783220161865684:=0
def tw8058141374601753946:=0
def tw604527526444907287:=0
def tw8153637928350472680:=0
def tw12146264499514110643:=0
def tw18395850772520174167:=0
def tw12085642484801538126:=0
def tw3401316245059217725:=0
def tw9717263480826217810:=0
def tw15939400999693958902:=0
def tw1221069496589637710:=0
def tw3202340732262363598:=0
def tw6543099327225072263:=0
def tw1862047294031592574:=0
def tw5555389200964165326:=0
def tw6787233831008925109:=0
def tw17357072328498246089:=0
def tw4729056588730105315:=0
def tw10070970117008898092:=0
def tw13626656996612916224:=0
def tw12865806481235751531:=0
def tw577317958087515769:=0
def tw5594889167760884332:=0
def tw9836770703899368312:=0
def tw371170834105211489:=0
def tw11917223617324808466:=0
def tw5362480558547423315:=0
def tw11627160049441056933:=0
def tw17998133481754187412:=0
def tw7722176164209916347:=0
def tw11390625400714366038:=0
def tw2207640432287459161:=0
def tw8632454557495234656:=0
def tw9226243920767125146:=0
def tw14774536124727961152:=0
def tw17982279040926357605:=0
def tw15326957084619585100:=0
def tw14361916973707175298:=0
def tw16716256355089454043:=0
def tw16653012802024480214:=0
def tw11913017862931401973:=0
def tw15993335626212184227:=0
def tw15423352005363804276:=0
def tw1497518476611160800:=0
def tw10118082660765388704:=0
def tw5387212247425924801:=0
def tw8647401814891228215:=0
def tw8450247643484000812:=0
def tw2837918012894841325:=0
def tw15926949864964211786:=0
def tw4247677968417387065:=0
def tw11102067518496510098:=0
def tw7879625870155191314:=0
def tw14897208752176574899:=0
def tw188130470751656204:=0
def tw13300459512076980383:=0
def tw1790396106286904345:=0
def tw17755535624198042709:=0
def tw1755780206381167342:=0
def tw12255298124215906545:=0
def tw946380924729752618:=0
def tw2858643225771072754:=0
def tw9674826894056934711:=0
def tw2162485532276059432:=0
def tw3912852761761013686:=0
def tw8940181959869871456:=0
def tw725289438567781497:=0
def tw14175104605690711094:=0
def tw15209953965622746013:=0
def tw2648693819229133829:=0
def tw14895486962435925024:=0
def tw2126114229384116314:=0
def tw11336123113709541486:=0
def tw8063677562470756494:=0
def tw12234161993642506025:=0
def tw6470163578239373831:=0
def tw7303142303244861096:=0
def tw1594261692089114854:=0
def tw13295602449680310179:=0
def tw8674292478946184230:=0
def tw6310833076875097697:=0
def tw3562655486201173480:=0
def tw17225801560572670143:=0
def tw17066799121171119938:=0
def tw12013869220561794758:=0
def tw18092807759549927997:=0
def tw11272817597547499546:=0
def tw6919747381580912677:=0
def tw11207871596021351307:=0
def tw8956334977333125310:=0
def tw15376784956646038209:=0
def tw5803532547704278477:=0
def tw17788344646409065573:=0
def tw1009954870348154270:=0
def tw2726596061073955347:=0
def tw2003438986875603991:=0
def tw5993742982750205135:=0
def tw16999364140274101582:=0
def tw1154127146064584913:=0
def tw783585932572031484:=0
def tw2863122860570981261:=0
def tw15040335101431952467:=0
def tw1984740119741872712:=0
def tw10879092938110430909:=0
def tw1106472442777072956:=0
def tw1997089811568432332:=0
def tw5961541286335447568:=0
def tw12271809387414890821:=0
def tw10567592457330617854:=0
def tw365681888626890452:=0
def tw4891469206561729568:=0
def tw13363454138996141935:=0
def tw16048907357627288969:=0
def tw1672277711922890545:=0
def tw6205277993181302351:=0
def tw11935851054645057425:=0
def tw7751869527023618404:=0
def tw14453644861252052649:=0
def tw17739817674172985721:=0
def tw13071073404918472118:=0
def tw425891516004587527:=0
def tw13569375697988992532:=0
def tw12783991764988539634:=0
def tw16017790774737777584:=0
def tw18435540811610529314:=0
def tw17448333521489034894:=0
def tw14204014286361520388:=0
def tw11217112598714515343:=0
def tw7379117611742622434:=0
def tw2718464658812631603:=0
def tw1999380196952964894:=0
def tw15560403125224234201:=0
def tw6806532425805445313:=0
def tw7995506865236738077:=0
def tw6957931779728443567:=0
def tw910428627102101002:=0
def tw2303471190913547151:=0
def tw11720545200610092597:=0
def tw8865583551120888335:=0
def tw4690948985349207950:=0
def tw10845951049492631716:=0
def tw13619551343159818904:=0
def tw5867223190229829643:=0
def tw15748260528123676768:=0
def tw15112703548582241717:=0
def tw13997880131377079730:=0
def tw11969924470641528264:=0
def tw779962512176156798:=0
def tw6119459632908948564:=0
def tw10293209378719402933:=0
def tw4141881677777188896:=0
def tw16451439216678868824:=0
def tw9689563743537770424:=0
def tw8450863199251512733:=0
def tw5868969889386763817:=0
def tw5620039801837291462:=0
def tw384978400443458616:=0
def tw17759132305344411165:=0
def tw1753506726204218026:=0
def tw15395823680339472803:=0
def tw11946252257977043597:=0
def tw15490489149873291419:=0
def tw13308644982333155561:=0
def tw6528876202070078536:=0
def tw3094041374086349891:=0
def tw16695745612550857812:=0
def tw15012749855003603008:=0
def tw14151432130116857118:=0
def tw2596262474731200907:=0
def tw2673909755136865117:=0
def tw12637981676565974668:=0
def tw3401607247031430281:=0
def tw5591888676799056498:=0
def tw486788690071301220:=0
def tw17094278137607394129:=0
def tw15293004394996012821:=0
def tw11760707853267662142:=0
def tw10154924513554196863:=0
def tw5269925016661955920:=0
def tw5231707533106217744:=0
def tw3780726787424594873:=0
def tw14976204576982899875:=0
def tw10722572259287202939:=0
def tw14140626049364032002:=0
def tw10363557626460092969:=0
def tw9469588303873390520:=0
def tw7915665970123988234:=0
def tw7518127891443506893:=0
def tw6467886991038444957:=0
def tw11664994359500951042:=0
def tw1252594719103779746:=0
def tw8060614628724302993:=0
def tw8839369354840898842:=0
def tw5081550270417601496:=0
def tw14077246962026661443:=0
def tw15730427586072973348:=0
def tw16099008331703383732:=0
def tw16722899521472586244:=0
def tw15700116567595654513:=0
def tw15236766152894069814:=0
def tw15234379307336237426:=0
def tw5735841594058926877:=0
def tw17084549727974920676:=0
def tw16089639827141104300:=0
def tw8672596747904029718:=0
def tw9181564882215516865:=0
def tw8272358718187351803:=0
def tw12790239366717964070:=0
def tw17583131975721352581:=0
def tw1587729655059852010:=0
def tw892104925168353549:=0
def tw10639279406781423959:=0
def tw4928348367006197777:=0
def tw390948481052843423:=0
def tw17170499293609957054:=0
def tw1950178359079177945:=0
def tw7668305063265306661:=0
def tw13520605925199188444:=0
def tw4588782656267186263:=0
def tw2502868099472002622:=0
def tw16455185678995301715:=0
def tw16210751381540249607:=0
def tw7792089078025979640:=0
def tw4268377072196130799:=0
def tw334799730278062208:=0
def tw2322605138498304877:=0
def tw18200030970604053853:=0
def tw18102490255399235559:=0
def tw16662558244631587437:=0
def tw16636984298508792374:=0
def tw16424537337481604574:=0
def tw15400715938775084499:=0
def tw15234071916506469829:=0
def tw12843716271478581952:=0
def tw2063762088858707591:=0
def tw1608378097390844309:=0
def tw8891565600645370544:=0
def tw4884485109936645275:=0
def tw3530055913167161332:=0
def tw14888824321402177760:=0
def tw14322614541667515936:=0
def tw12023792330738289751:=0
def tw17525968226024524837:=0
def tw11947587938869818227:=0
def tw17814879649099411525:=0
def tw6287305079939002432:=0
def tw18016908012247556181:=0
def tw7150219020877214815:=0
def tw380450912676065909:=0
def tw14211075551423518226:=0
def tw10329213893321532915:=0
def tw17457296710880649784:=0
def tw6793678798918973365:=0
def tw5594817102913911586:=0
def tw15196497501713833253:=0
def tw14497581307907196911:=0
def tw14277072266065224343:=0
def tw13031404238928765901:=0
def tw11913463028924032056:=0
def tw4059301861903712635:=0
def tw908078687931921217:=0
def tw2858830493694903875:=0
def tw2007073113556455155:=0
def tw1848593617503934714:=0
def tw14909966191750337748:=0
def tw18416402177372780091:=0
def tw15674263338522073289:=0
def tw7270156500201875008:=0
def tw9894365071613216521:=0
def tw9105250119009784883:=0
def tw6622271544918140795:=0
def tw6060028166877016565:=0
def tw5870512606276150269:=0
def tw5038077066165834259:=0
def tw3052898367511119760:=0
def tw2860675050520456892:=0
def tw16246238399877571519:=0
def tw1252679767279641083:=0
def tw12444366057786282385:=0
def tw10844933452277005571:=0
def tw5135715940747669531:=0
def tw8603889868290658245:=0
def tw7911368419694005926:=0
def tw6414652635956430784:=0
def tw3624346612690058846:=0
def tw2735424019602637513:=0
def tw16041132236753105141:=0
def tw14418640308571582933:=0
def tw12538046807427319817:=0
def tw1217275591735173844:=0
def tw11281947283673457935:=0
def tw10638384252812212621:=0
def tw10371009507395246739:=0
def tw17495370402910239645:=0
def tw9652733662660259319:=0
def tw9295118025458168286:=0
def tw8441859571420841609:=0
def tw2565443248678172424:=0
def tw2515750149168027194:=0
def tw2302233511105624523:=0
def tw16127891384094350277:=0
def tw15129757173512583512:=0
def tw12948694628987137958:=0
def tw11221283158212014968:=0
def tw10571494021320039358:=0
def tw8886757591540165040:=0
def tw8777877870364430851:=0
def tw7714545194552980403:=0
def tw6386466512322146183:=0
def tw5170583293945269488:=0
def tw2685360458413787617:=0
def tw17742641130174375624:=0
def tw16572939743985045919:=0
def tw15746034860629689841:=0
def tw1524462766329725593:=0
def tw12619741814537286432:=0
def tw11519506231371150935:=0
def tw9557734355631235352:=0
def tw9309737048830121310:=0
def tw8922048907875771498:=0
def tw8676384357973327176:=0
def tw8562299727571716185:=0
def tw8474719503946210574:=0
def tw8472697556410067569:=0
def tw8430384447857566615:=0
def tw842837007000313407:=0
def tw8393663696833294488:=0
def tw8368281785475345311:=0
def tw8356818022725157907:=0
def tw8160433854138839192:=0
def tw801617988542865231:=0
def tw788625184757021832:=0
def tw7885795435825506037:=0
def tw7839100524430822030:=0
def tw7739601203412795160:=0
def tw7575221717769855573:=0
def tw7562681900341612823:=0
def tw7473198391551523920:=0
def tw7454314198177596660:=0
def tw7368324352057373908:=0
def tw7311909090049130197:=0
def tw6996051281712992689:=0
def tw6867771170741361088:=0
def tw6765040311516184337:=0
def tw6692040310680075272:=0
def tw6685516139462048165:=0
def tw6586706346565238818:=0
def tw6480223033794538956:=0
def tw6294026258350445690:=0
def tw6124923372330170607:=0
def tw6050962648000144346:=0
def tw5967538920386484114:=0
def tw5938089184020401398:=0
def tw5921162006034616555:=0
def tw5806722593978230884:=0
def tw5794805256971647254:=0
def tw5773844873137698017:=0
def tw5712208418110835526:=0
def tw5609313227873429935:=0
def tw5545699870490725820:=0
def tw5290562252216478388:=0
def tw5236463739500098443:=0
def tw5080979230117807951:=0
def tw5075989252234780260:=0
def tw502322321295500272:=0
def tw4956188819914258091:=0
def tw4687763227282642493:=0
def tw4603885305930120833:=0
def tw4332878822058903099:=0
def tw4161216342073108912:=0
def tw4109030442751017282:=0
def tw381363528741754326:=0
def tw3761517332942829652:=0
def tw360747531221006791:=0
def tw3561453735420230679:=0
def tw355514419339993606:=0
def tw3351784612455323460:=0
def tw3279840041783341249:=0
def tw3252265457494553310:=0
def tw3225512247611866492:=0
def tw3188988404008101324:=0
def tw2847718852117112875:=0
def tw2750559327015148542:=0
def tw2738903050334606068:=0
def tw2381037964080214348:=0
def tw2376589005912541724:=0
def tw2317586777777009471:=0
def tw2203518306762432645:=0
def tw2167998220971223630:=0
def tw1951620353624300057:=0
def tw1914325353361096278:=0
def tw1845359077152580777:=0
def tw18344656574476063737:=0
def tw18163676209530239450:=0
def tw1812458131020260352:=0
def tw18010263555689731684:=0
def tw176648721366573550:=0
def tw17571208310802623296:=0
def tw17419436897333748858:=0
def tw17349124764113017259:=0
def tw17061168865626884046:=0
def tw16847867618765290702:=0
def tw16701880283381746569:=0
def tw16427617780086776290:=0
def tw1609764263231385168:=0
def tw15909875093139656769:=0
def tw15880779331759779840:=0
def tw1578488033118038585:=0
def tw14726359878849741919:=0
def tw14630275890204371537:=0
def tw14375807796450099828:=0
def tw14329916815224475425:=0
def tw13742811100036686950:=0
def tw13224906297361054536:=0
def tw13086078638020240605:=0
def tw13015238095893998530:=0
def tw12922102824596267637:=0
def tw12696064082447865225:=0
def tw12626677987604674659:=0
def tw12558162228878722012:=0
def tw12480750707181121303:=0
def tw12283431871315806282:=0
def tw12235288010868660385:=0
def tw11568521677665342816:=0
def tw11320445553990453551:=0
def tw11223094799338529767:=0
def tw11123660882566006149:=0
def tw1096966010236140903:=0
def tw1094015291891309089:=0
def tw10842386277232071793:=0
def tw1083015557129207260:=0
def tw10823779149861921379:=0
def tw10770896171631202375:=0
def tw10733535658934082069:=0
def tw10633346086210976981:=0
def tw10584571505855225216:=0
def tw10405585271255530723:=0
def tw10340863455677413638:=0
def tw1020227070014204935:=0
def tw10184706685028760629:=0
def tw10103238074981810533:=0
def tw10096131854179754672:=0
end PySem.W.Fast
open PySem PySem.W PyProof.Rows
local macro_rules | `(tactic| walk_at "f")=>`(tactic| (refine' L2.DfT.of ?a ?l ?c ?k;(case a=>k_is);(case l=>k_is);(case c=>k_is);(case k=>k_is)))
local macro_rules | `(tactic| walk_at "m")=>`(tactic| (refine' L2.DmT.of ?a ?i ?l ?c ?k;(case a=>k_is);(case i=>k_is);(case l=>k_is);(case c=>k_is);(case k=>k_is)))
set_option maxRecDepth 100000 in
theorem PySem.Challenge.cw_goneday_k59_texts_of_no_deed_holds : PySem.Challenge.rw_goneday_k59_texts_of_no_deed.Holds := by
 w_on;o_law;k_head;(case hw=>w_witness2)
 k_fill
 refine L2.walk_ofBK (l:=PySem.Challenge.rw_goneday_k59_texts_of_no_deed) (n:=63) (k:=22) (x:="_law_script") (CX:=L2.CX0) (sp:=K59.sp_law) rfl Ce rfl ⟨rfl,Ce,Ce⟩ (λw h Y=>PySem.W.kIn_of Y) ?F ?S ?C
 case F=>
  intro w mg fa h KX G hmg;have T:∃t,K59.Txt (L2.KOf KX) mg t:=by
   dsimp only [L2.KOf];refine' K59.txt_mk KX G ?za ?zb ?zc ?zd ?ze ?zf ?zg ?zh ?zi ?zj ?zk ?zl ?zm ?zn ?zo ?zp ?zq ?zr ?zs ?zt ?zu ?zv ?zw ?zx ?zy ?zz ?zA ?zB ?zC ?zD ?zE ?zF ?zG ?zH ?zI ?zJ ?zK ?zL ?zM ?zN ?zO ?zP ?zQ ?zR ?zS ?zT ?zU ?zV ?zW ?zX ?zY ?zZ ?ya ?yb ?yc ?yd ?ye ?yf ?yg ?yh ?yi ?yj ?yk ?yl ?ym ?yn ?yo ?yp ?yq ?yr ?ys ?yt ?yu ?yv ?yw ?yx ?yy ?yz ?yA ?yB ?yC ?yD ?yE ?yF ?yG ?yH ?yI ?yJ ?yK ?yL ?yM ?yN ?yO ?yP ?yQ ?yR ?yS ?yT ?yU ?yV ?yW ?yX ?yY ?yZ ?xa ?xb ?xc ?xd ?xe ?xf ?xg ?xh ?xi ?xj ?xk ?xl ?xm ?xn ?xo ?xp ?xq ?xr ?xs ?xt ?xu ?xv ?xw ?xx ?xy ?xz ?xA ?xB ?xC ?xD
   (case zb | zc | zd | ze | zf | zg | zh | zi | zj | zk | zl | zm | zn | zo | zp | zq | zr | zs | zt | zu | zv | zw | zx | zy | zz | zA | zB | zC | zD | zE | zF | zG | zH | zI | zJ | zK | zL | zM | zN | zO | zP | zQ | zR | zS | zT | zU | zV | zW | zX | zY | zZ | ya | yb=>walk_at "f")
   (case yc | yd=>k_is)
   (case ye=>exact⟨_,rfl⟩)
   (case yf | yg=>k_is)
   (case yh=>first | (repeat (first | exact .nil | refine .cons ⟨_,rfl⟩ ?_)))
   (case yi=>decide)
   (case yj=>k_is)
   (case yk=>exact⟨_,rfl⟩)
   (case yl=>k_is)
   (case ym=>exact⟨_,rfl⟩)
   (case yn=>k_is)
   (case yo=>exact⟨_,rfl⟩)
   (case yp=>k_is)
   (case yq=>exact⟨_,rfl⟩)
   (case yr=>k_is)
   (case ys=>exact⟨_,rfl⟩)
   (case yt | yu=>k_is)
   (case yv=>exact⟨_,rfl⟩)
   (case yw=>k_is)
   (case yx=>exact⟨_,rfl⟩)
   (case yy=>k_is)
   (case yz=>exact⟨_,rfl⟩)
   (case yA | yB=>k_is)
   (case yC=>first | (repeat (first | exact .nil | refine .cons ⟨_,rfl⟩ ?_)))
   (case yD=>decide)
   (case yE=>k_is)
   (case yF=>exact⟨_,rfl⟩)
   (case yG=>k_is)
   (case yH=>exact⟨_,rfl⟩)
   (case yI | yJ | yK | yL | yM | yN | yO | yP | yQ | yR=>k_is)
   (case yT | yU | yV | yW | yX | yY | yZ | xa | xb | xc | xd | xe | xf | xg | xh | xi | xj | xk | xl | xm=>first | k_is | k_exc | kit_is)
   (case xn | xo | xp | xq | xr | xs | xt | xu | xv | xw | xx | xy | xz | xA | xB | xC | xD=>k_is)
   (case za=>walk_at "m")
   (case yS=>refine'⟨?a,?b,?c,?d⟩;(case a=>kernel_rfl);(case b=>k_is);(case c=>k_is);(case d=>k_is))
  obtain⟨t,T⟩:=T;have e0:=hmg.symm.trans T.F_AB.m;cases e0;exact⟨t.d_AB,T.bt_AB,λbase kb nb=>K59.ok_law T⟩
 case S=>exact λK H a ns hl hb hO hS=>K59.start_law hl hb hS
 case C=>exact λ_ _ _ _ z=>z
