import PyProof.Rows.All
import Wide.All
import OpenK.AllK
import PySem.Challenge.RW_goneday_k59_texts_of_no_deed
open PySem.Str renaming ofString->NG,ofString->NM,join->QM,empty->RI
open PySem.W renaming Frag->NH,nsIn->Oh,mg_of->O4,mg_none_of->Pa,findIn->Pm,kia_one->PK,mroIn->P2,fnOf->P8,keepIn->Ql,kitOne->QH,specialIn->QX,InstAt->Q0,kitAny->Q1,callWith_K->Rg,codeIn->Rn,cellsFrom_some->Ry,excIn->RF,methodObj->R4,hasDictIn->R5,instObj->Su,takesIn->Sv,lookIn->SD,isFn->Tj,kitx_list->To,kitx_dict->Tp,plainGet->TF,handedIn->TQ,OpenLaw->TX,readsIn->T2,findCls->T3,isClsIn->T4,WalkO->Ub
open PySem.PyData renaming str->NI,eqv->NT,int->NX,tuple->O6,list->O7,strOk->Pc,canLay0->Pe,eqvAll->Pl,canLayAll0->Pz,depthAll->QS,none->Q8,bool->RC,depth->Sj,dict->Uw
open List renaming length_cons->NJ,map_cons->NN,mem_cons->NO,replicate->NP,getElem?_cons_succ->NR,length_map->NS,getElem?_cons_zero->NU,append_nil->NY,not_mem_nil->NZ,set_cons_zero->N4,set_cons_succ->N5,cons_append->N6,length_nil->N8,nil_append->N9,getElem?_nil->Oc,map_nil->Of,size_toArray->Ot,any_cons->OD,all_cons->OG,all_nil->OT,any_nil->OU,getElem?_eq_some_iff->OW,mem_cons_of_mem->OZ,getElem?_set_ne->O3,lookup_cons->O5,getElem?_eq_getElem->O8,mem_map->Pb,map->Pd,getElem?_set_self->Pf,all_eq_true->Pg,length_take->Pn,take_of_length_le->Po,length_append->Pq,mem_append_right->Pr,map_map->Pu,length_drop->Pw,range->PH,mem_cons_self->PJ,mem_of_getElem?->PL,mem_singleton->PM,mem_of_mem_take->PQ,getElem?_map->PY,map_append->P0,mem_of_mem_drop->P1,mem_append->P5,flatten_cons->Qf,foldl_cons->Qg,replicate_succ->Qi,getElem_mem->Qk,getElem?_eq_none->Qm,getElem?_append_left->Qn,sum_cons->Qr,getElem?_append_right->QB,getD_eq_getElem?_getD->QC,mem_range->QG,all_map->QL,getElem?_replicate->QO,range_succ->QR,pairwise_cons->QU,length->QV,length_range->QY,take_append_drop->Q2,reverse_cons->Ru,drop_of_length_le->RB,map_take->RG,nodup_cons->RL,eq_nil_of_length_eq_zero->RM,filterMap_cons->RN,length_reverse->RO,map_congr_left->RP,mem_filterMap->RR,contains_cons->RS,length_eraseIdx_of_lt->R3,take_sublist->R6,drop_eq_getElem_cons->Sa,length_eq_zero_iff->Sq,getElem?_set_self'->Sr,of_mem_zip->Sw,forIn_cons->Sx,sum_append->Sy,length_replicate->SE,forIn_nil->SG,drop_zero->SJ,mem_append_left->SR,map_drop->S4,filterMap_map->Td,sum_nil->Ti,append_assoc->Tq,getElem?_inj->Ts,ext_getElem->TL,zipIdx_cons->TM,map_reverse->TN,mem_filter->TR,foldl->TU,zipIdx_nil->T1,take_succ->T6,not_lt->Us
open PySem.Heap renaming get?_push_of_some->NK,lt_size->NW,get?_push_size->N7,get?_update_self->Pj,get?_update_other->PR,size_push->Qb,SameBut->Qv,FlyingW->QK,get?_none_of_le->Q6,MadeExcOf->SO,get?_update_ne->S8,get?_push_at->Tx,ExtBut->TC,IsTuple->Uk
open PySem renaming Spec->NL,boot_len->Og,Scope->PB,mem_of_lookup->Qh,intText?->Rp,Builtin->SX,frameOf->S0,call->TV,Within->Ue,field->Uv
open List.cons renaming injEq->NQ
open Nat renaming le_refl->NV,reduceLeDiff->Ow,le_trans->OB,reduceAdd->OE,reduceSub->OF,ne_of_lt->OJ,add_zero->ON,zero_add->OO,sub_self->OP,reduceLT->OQ,lt_of_lt_of_le->OX,zero_le->PU,lt_succ_of_lt->PZ,lt_irrefl->Qq,lt_succ_self->QJ,ne_of_gt->QZ,le_succ->Q7,le_of_lt->Rf,toDigits_of_base_le->Rt,le_of_succ_le->R7,le_of_not_lt->Sf,lt_or_ge->Tf,lt_trans->Tg,le_succ_of_le->Tz,min_le_right->TH,digitChar->Ud,sub_zero->Uj
open Array renaming length_toList->N0,toList_append->Qt,getElem?_eq_getElem->Rb,getElem?_eq_none->RD,size_append->R8,getElem?_toList->SM,toArray_toList->SW,append_empty->Tn,toList_push->Tu,ext'->TY,toList->Ug
open Bool renaming not_eq_true'->N1,false_eq_true->N2,and_true->N3,true_eq_false->Ob,true_and->Od,and_eq_true->Oo,false_ne_true->Ou,not_false->OA,or_false->OC,not_true->OK,false_or->OM,eq_iff_iff->P6,or_eq_true->Rc,or_true->Si,eq_false_iff->Tr
open Option.some renaming injEq->Oa,inj->Ph
open PySem.PyData.tuple renaming injEq->Oe
open Option renaming join_some->Oi,join_none->Oj,map_some->Ox,map_none->Oy,isSome_iff_exists->Qp,getD_none->TJ,bind->Ut
open PySem.PyData.bool renaming injEq->Ol
open PySem.PyData.list renaming injEq->Om
open PySem.PyData.int renaming injEq->Oq
open PySem.PyData.str renaming injEq->Ov
open PySem.Value renaming ref->Oz,none->Qa,builtin->Qj,bool->QD,str->Q4,type->Q5,int->RH,isStrOf_shape->S5,isStrOf->T9,float->Up
open Int renaming reduceNeg->OH,reducePow->OI,reduceLT->OR,reduceLE->OS,eq_ofNat_of_zero_le->OY,toNat_natCast->O9,toNat_of_nonneg->QN,fdiv_eq_ediv_of_nonneg->RY,fmod_eq_emod_of_nonneg->RZ,lt_trichotomy->Tw,ediv_one->Uh,zero_add->Um
open PySem.ScopeKind renaming function->OL
open PySem.NameKind renaming globalImplicit->OV,free->Pt,free->PD,cell->RE
open PySem.Builtin.Int renaming intBits->Pk
open PySem.SeqAt renaming canLay_of_shaped->Pp,shaped->P9
open False renaming elim->Px
open PySem.Heap.SameBut renaming update->Py
open PySem.Obj renaming data_mapFields->PN,isFreed_of_fields->Qz,mapSeq->Ro,cls_mapFields->Rv,putSet->Sb,mapFields->SY
open PySem.Builtin.SmallTypes renaming nextOf->PV,ownedTupleIsFree->Qc,ownedTupleHandOut->Rl
open True renaming intro->PX
open PySem.F renaming excBase_ValueError->P4,plainAttrs_str->QW,args_tuple_add_2->Rh,entry_tuple_add->Rr,slot_tuple_add->Rz,plain_extend_loop->Sd,plain_list_iadd->Ss,slot_str_join->SH,type_str_join->SI,plain_set_new->SK,slot_set_iter->SN
open PySem.StrLaws renaming glued_eq_join->P7,found_one->Rx,join_split->RW
open PySem.Builtin.Str renaming occurrences->Qe,strSliceIndices->RT,partsBetween->Sk,strKind->S7
open PyProof.Rows renaming slot_tuple_getitem->Qo,callWith_type1->Qw,split_le->Q3,boot_sum->RJ,boot_min->RK,boot_sorted->So,boot_max->Ux
open PySem.Expr renaming List->Qs,BinOp->T5,Subscript->T8,Call->UA
open PySem.SetTable renaming grown->Qu,below->Rq,sizeAbove->Th,layClean->Tt,relaid->TZ,laid->Uc
open PyProof.Rows.F renaming plain_set_update_loop->Qx,entry_set_update_loop->Rk
open PySem.Sem renaming wp->Qy
open PySem.PassesOwn renaming never->QA
open PySem.Builtin.Slice renaming slicePlaces->QE,sliceAdjust->Q9,sliceApplied->R0
open PySem.Around renaming under_plainId->QF,under->Tb
open PySem.Builtin.Tuple renaming tupleExact->QI,tupleItemsOf->R1
open PySem.W.WData renaming int->QP,weightAll->Ra,list->R9,layableAll->TK,weight->Ui
open ForInStep renaming yield->QQ
open PySem.Builtin.List renaming listTooLong->Ri,listLengthHint->RU,listExtendWith->RV,listSameRef->Sn,listFitsIndex->Ua
open PySem.Code renaming quiet_builtin->Rj,isFrame->Tc,frames->Ur
open Sum renaming inr->Rm,inl->Se
open Or renaming inr->RA,inl->Sg
open PySem.EntryCells renaming newEntry->RQ
open PySem.Calls renaming Name_function_global->RX,callWith_builtin->SA,evalArgs_plain->SS,call_len_list->S6
open PyProof renaming noPylong_small->Sz
open PySem.W.KIN renaming num_reads->SQ
open PySem.SeqAt.RcAt renaming tuple_str->SU
open PySem.SeqAt.EqAt renaming str_tuple->SV,str_int->S9
open PyProof.Rows.IsTup renaming new->Ta
open PySem.Heap.IsSliceOf renaming new->Te
open PySem.SetTable.below renaming go->Tv
open PySem.Bind renaming checkArgs->T7
open Nat.succ renaming inj->Ul
open List.Pairwise renaming imp_of_mem->Uo
open PySem.CmpOp renaming NotIn->Uq
open PySem.Shared renaming heap->Uu
open PySem.Walks renaming list->Uy
open PySem.Flow renaming next->Uz
open PySem.Heap.DictOf renaming new->UB
open PySem renaming PyData->UI,Value->UJ,wpAny_bind->UK,Addr->UL,Shared->UM,wpAny_pure->UN,wpAny->UO,model->UP,starEach->UQ,sizeLine->UR,Expr->US,FuncData->UT,mainGlobals->UU,Heap->UW,Program->UX,sizeLine_eq->UY,World->UZ,Stmt->U0,Around->U1,compareOp->U2,wpAny_newObj_type->U3,bootBuiltins->U4,wpAny_callSpecial?_slot->U5,wpAny_mono->U6,backTo->U7,wpAny_call_entry->U8,wpAny_truthy_bool->U9,foldedSetIterable->Va,wpAny_loadPart_at->Vb,wpAny_holding->Vc,wpAny_field->Vd,cellsFrom->Vf,Scope->Vg,NameKind->Vh,swapsWith->Vi,excClassObj->Vj,behindInMarks->Vk,binaryOp->Vl,wpAny_seqItems->Vm,rawInt->Vn,wpAny_loadPart'->Vo,codeAny_call_builtin->Vp,IsPair->Vq,wpAny_setField->Vr,codeAny_mono->Vs,wpAny_Call_Name_kw->Vt,wpAny_passesOwn->Vu,codeAny_builtin->Vv,attributeBase->Vw,pyNext->Vx,wpAny_setState_of->Vy,assignEach->Vz,typeIs_str->VA,call_meets->VB,codeAny->VC,wpAny_askSetting->VE,ExcBaseFacts->VF,wpAny_isSubtype_exc->VG,wpAny_setEntries_of->VH,Keyword->VI,wpAny_execs_nil->VJ,scanBound->VL,wpAny_setField_rec->VM,firstArgMember->VN,wpAny_rule->VO,checkBuiltinCall->VP,wpAny_standAt->VQ,wpAny_attempt->VS,sliceBounds->VT,keywordEach->VU,IsZip->VV,SetTable->VW,Model->VY,wpAny_call->VZ,setNext->V0,strIterType->V1,wpAny_of_eq->V2,plainId_quiet->V3,GenState->V4,wpAny_execs_cons->V5,relayAll->V6,wpAny_isInstance->V7,getItem->V9,noteFrame->Wa,letOwnedTupleGo->Wc,wpAny_typeOf->We,wpAny_ite_split->Wf,backToKw->Wg,wpAny_fieldsOf->Wh,ZipApart->Wi,wpAny_pyIter_tuple->Wl,DictEntry->Wm,pickOrder->Wn,setFlight->Wo,swapsWithSole->Wq,swappedStores->Wr,wpAny_onRaise->Ws,wpAny_pyIter_list->Wt,noFill_tuple_add->Wu,wpAny_getItem_list_slice->Wv
open PyProof.Rows renaming StrsAre->Ve,envOfC->VR,AllBare->VX,assignInOrder_cons->Wk
open PySem.W renaming looks_findIn->VD,kia_one->V8,findIn->Wb,hideAll_get->Wj
theorem td{p:Prop}[Decidable p](h:decide p=true:=by decide+kernel):p:=of_decide_eq_true h
theorem Ce{p:Prop}(h:p:=by decide):p:=h
theorem UC{p:Prop}(h:p:=by omega):p:=h
theorem UH{p:Prop}(h:p:=by simp):p:=h
theorem UD{c:Prop}{h:Decidable c}(k:¬c){α:Sort u}{t e:α}:ite c t e=e:=if_neg k
theorem UE{c:Prop}{h:Decidable c}(k:c){α:Sort u}{t e:α}:ite c t e=t:=if_pos k
abbrev Ww:=PySem.NameKind.local
set_option compiler.extract_closed false
def rzS:="↓iU ↓i6 ↓i8 ↓i9 ↓ja ↓jb ↓jd ↓iV ↓eZ ↓iu ↓jG ↓jH ↓jI ↓jJ ↓jK ↓jL ↓iw ↓ix ↓iy ↓iz ↓iA ↓iB ↓iC ↓iD ↓iE ↓iF ↓iG ↓iH ↓iI ↓iJ ↓iK ↓iL ↓iM ↓iN ↓iO ↓iP ↓iQ ↓iR ↓iS ↓iT cf cz cg cV fA fB cU cW cX di dj fJ cK dC bw dI dA dB dD fO dE bX dW dU dG dF dL cC cL fx cx cq bI cO cP cQ cR fy cS cT cu cw fz gu gx gy gz gA gB gC gD gE gF gG gH gI gJ gK gL gM gN gO gP gQ gR gS gT gU gW gX gY gZ g6 g9 hG hJ hV hW hX hZ ic ie ig ij ik il eR dN fN dX cH fQ d6 dH dJ dO dP dQ dR dS cF dY dZ d3 bS fK fL fM fC fD fE fF dm fG dn fH eM eQ gn gp gr gm gs eF eG eJ eL bY eO eN er eD eT eV eX eY b0 ip iq iX iW iY iZ i3 i4 i5 ff fg jh jf jg je jm ji jj jk jl cI fh jr jt jn jo jq ju jv jw fj jx jy jA jB fk jC jD jE jz jF fq ft fu fv jM jN jO bL fY fZ gb gc gf gh gi gj gk ne_eq bZ fU fV fW fX fR fS fT cD cE dz cY dh c7 cZ bR bQ bg bV cn bW NN Of NJ N8 NP N6 N9 NY OE OF ON OO OP NU NR Oc N4 N5 Oa exists_eq_left' exists_eq_left exists_and_left exists_and_right Oi Oj Sl.v.injEq Sl.o.injEq Sl.k.injEq Oq Ol Ov Oe Om NQ and_true true_and OQ Ow exists_const decide_eq_true_eq OR OS OH OI N1 decide_eq_false_iff_not and_assoc or_true true_or ↓reduceIte if_true if_false N2 Ob not_true_eq_false not_false_eq_true OK OA ite_true ite_false eq_self exists_eq reduceCtorEq false_and and_false or_false false_or exists_false Ox Oy cb OG OT OD OU N3 OC Od OM aV bz bU cG d7 bo eg ei beq_self_eq_true d8 d9 fP bu sizeLine_eq"
def rzT (n : String) : Lean.MacroM (Lean.TSyntax `tactic) := do
 let ts : Array (Lean.TSyntax `Lean.Parser.Tactic.simpLemma) <- ((n.splitOn " ").toArray).mapM λs =>do
  if s.startsWith "↓" then
   let i := Lean.mkIdent (s.drop 1).toString.toName
   `(Lean.Parser.Tactic.simpLemma| ↓ $i:ident)
  else
   let i := Lean.mkIdent s.toName
   `(Lean.Parser.Tactic.simpLemma| $i:ident)
 `(tactic| simp only [$ts,*])
local macro_rules|`(command|def $i:declId $s:optDeclSig $v:declVal)=>`(command|noncomputable def $i:declId $s:optDeclSig $v:declVal)|`(command|abbrev $i:declId $s:optDeclSig $v:declVal)=>`(command|noncomputable abbrev $i:declId $s:optDeclSig $v:declVal)
noncomputable section
set_option Elab.async false
set_option linter.all false
set_option maxRecDepth 100000
set_option maxHeartbeats 0
set_option genSizeOf false
namespace L2
open PySem PySem.Spec PyProof.Rows
abbrev aZ:=Sum Int Str
def AY:aZ->UJ->Bool
 | .inl k,v=>Value.isInt k v
 | .inr x,v=>T9 x v
def Ff(w:UZ):aZ->Int
 | .inl k=>hashInt k
 | .inr x=>hashStr w x
theorem nH:∀{k:aZ}{v:UJ},AY k v=true->(∃i t,k=Se i/\v=RH i t)\/(∃x t,k=Rm x/\v=Q4 x t)
 | .inl i,v,h=>by
  obtain⟨t,e⟩:=Value.isInt_shape (k:=i) (v:=v) h;exact .inl ⟨i,t,rfl,e⟩
 | .inr x,v,h=>by
  obtain⟨t,e⟩:=S5 (x:=x) (v:=v) h;exact .inr ⟨x,t,rfl,e⟩
theorem Fg(a b:Int):decide ((Se a:aZ)=Se b)=(a==b):=by
 by_cases e:a=b
 ·subst e;simp
 ·have h:¬(Se a:aZ)=Se b:=λq=>e (Se.inj q);rw [decide_eq_false h];exact(beq_eq_false_iff_ne.mpr e).symm
theorem Fh(a b:Str):decide ((Rm a:aZ)=Rm b)=decide (a=b):=by
 by_cases e:a=b
 ·subst e;simp
 ·have h:¬(Rm a:aZ)=Rm b:=λq=>e (Rm.inj q);rw [decide_eq_false h,decide_eq_false e]
theorem Fi(a:Int)(b:Str):decide ((Se a:aZ)=Rm b)=false:=decide_eq_false (λq=>nomatch q)
theorem Fj(a:Str)(b:Int):decide ((Rm a:aZ)=Se b)=false:=decide_eq_false (λq=>nomatch q)
def AZ(prog:UX)(w:UZ):PySem.KeyKind prog w aZ where
 is:=AY
 hash:=Ff w
 inj:=λv a b ha hb=>by
  rcases nH ha with⟨i,t,rfl,rfl⟩ | ⟨x,t,rfl,rfl⟩
  ·rcases nH hb with⟨j,u,rfl,e⟩ | ⟨y,u,rfl,e⟩
   ·injection e with e1 _;rw [e1]
   ·exact nomatch e
  ·rcases nH hb with⟨j,u,rfl,e⟩ | ⟨y,u,rfl,e⟩
   ·exact nomatch e
   ·injection e with e1 _;rw [e1]
 byValue:=λk v h=>by
  rcases nH h with⟨i,t,rfl,rfl⟩ | ⟨x,t,rfl,rfl⟩ <;> rfl
 pyHash:=λhv h=>by
  rcases nH hv with⟨i,t,rfl,rfl⟩ | ⟨x,t,rfl,rfl⟩
  ·exact wpAny_pyHash_int h
  ·exact wpAny_pyHash_str h
 eqBool:=λhu hv h=>by
  rcases nH hu with⟨i,t,rfl,rfl⟩ | ⟨x,t,rfl,rfl⟩
  ·rcases nH hv with⟨j,u,rfl,rfl⟩ | ⟨y,u,rfl,rfl⟩
   ·rw [Fg] at h;exact wpAny_eqBool_int h
   ·rw [Fi] at h;exact SeqAt.EqAt.int_str i t y u _ _ _ _ h
  ·rcases nH hv with⟨j,u,rfl,rfl⟩ | ⟨y,u,rfl,rfl⟩
   ·rw [Fj] at h;exact S9 x t j u _ _ _ _ h
   ·rw [Fh] at h;exact wpAny_eqBool_str h
 «strs»:=λk x t v h=>by
  rcases nH h with⟨i,u,rfl,e⟩ | ⟨y,u,rfl,e⟩
  ·exact nomatch e
  ·injection e with e1 _
   subst e1;cases v <;> rfl
inductive V where
 | non | bl (b:Bool) | int (i:Int) | str (x:Str) | byt (b:Array UInt8) | flt (b:UInt64) | ref (a:UL) | ty (n:String)
 deriving DecidableEq
def aD:V->UJ->Prop
 | .non,u=>u=Qa
 | .bl b,u=>u=QD b
 | .int i,u=>∃t,u=RH i t
 | .str x,u=>∃t,u=Q4 x t
 | .byt b,u=>∃t,u=Value.bytes b t
 | .flt b,u=>∃t,u=Up b t
 | .ref a,u=>u=Oz a
 | .ty n,u=>u=Q5 n
abbrev aG:List V->List UJ->Prop:=Paired aD
theorem aG.length{xs:List V}{us:List UJ}(r:aG xs us):xs.length=us.length:=Paired.length r
theorem aG.get:∀{xs:List V}{us:List UJ}{i:Nat}{x:V},aG xs us->xs[i]?=some x->∃u,us[i]?=some u/\aD x u
 | _,_,_,_,.nil,e=>by simp at e
 | _,_,0,_,.cons r _,e=>by simp at e;subst e;exact⟨_,rfl,r⟩
 | _,_,i+1,x,.cons _ t,e=>by
  obtain⟨u,h1,h2⟩:=aG.get (i:=i) (x:=x) t (by simpa using e);exact⟨u,by simpa using h1,h2⟩
theorem aG.set{x:V}{u:UJ}(r:aD x u):∀{xs:List V}{us:List UJ}(i:Nat),aG xs us->aG (xs.set i x) (us.set i u)
 | _,_,_,.nil=>.nil
 | _,_,0,.cons _ t=>.cons r t
 | _,_,i+1,.cons q t=>.cons q (aG.set r i t)
theorem aG.append:∀{xs ys:List V}{us ws:List UJ},aG xs us->aG ys ws->aG (xs++ys) (us++ws)
 | _,_,_,_,.nil,s=>s
 | _,_,_,_,.cons r t,s=>.cons r (aG.append t s)
theorem aG.take:∀{xs:List V}{us:List UJ}(n:Nat),aG xs us->aG (xs.take n) (us.take n)
 | _,_,0,_=>.nil
 | _,_,_+1,.nil=>.nil
 | _,_,n+1,.cons r t=>.cons r (aG.take n t)
theorem aG.drop:∀{xs:List V}{us:List UJ}(n:Nat),aG xs us->aG (xs.drop n) (us.drop n)
 | _,_,0,r=>r
 | _,_,_+1,.nil=>.nil
 | _,_,n+1,.cons _ t=>aG.drop n t
def p4:Option V->Option UJ->Prop
 | some v,some u=>aD v u
 | none,none=>True
 | _,_=>False
def KV{κ:Type}:List (κ×V)->List (κ×UJ)->Prop:=Paired λ(p:κ×V) (q:κ×UJ)=>p.1=q.1/\aD p.2 q.2
def kV:aZ->V
 | .inl i=>.int i
 | .inr x=>.str x
inductive HO where
 | lst (xs:List V)
 | tup (xs:List V)
 | dK (kvs:List (aZ×V)) | dT (kvs:List (List aZ×V))
 | set (S:Int->Bool) (n:Nat)
 | ins (C dx:UL) (fs:List (Str×V))
 | own (x:UL)
 | xd (fs:List (Str×V))
 | met (f x:UL)
 | rng (lo hi:Int)
 | frz (o:Obj) (u:HO)
 | tbl (ps:Array UJ)
 | cod (q:Str)
 | ext (φ:UW->Prop)
abbrev Hp:=UL->Option HO
def ak(H:Hp)(a:UL)(o:HO):Hp:=λb=>if b=a then some o else H b
theorem bh{H:Hp}{a:UL}{o:HO}:ak H a o a=some o:=by unfold ak;rw [UE rfl]
theorem av{H:Hp}{a b:UL}{o:HO}(h:b≠a):ak H a o b=H b:=by unfold ak;rw [UD h]
theorem ko{H:Hp}{a b:UL}{o:HO}(h:H a=some o)(h':H b=none):a≠b:=by
 intro e;subst e;rw [h] at h';cases h'
def Fl(h:UW)(a:UL)(q:Str):Prop:=∃oc vs t,h.get? a=some oc/\oc.data= .fields vs/\vs[1]?=some (.str q t)
def Fm(H:Hp)(h:UW)(a:UL)(q:Str):Prop:=∃ps:Array UJ,h.get? a=some {cls:= .none,data:= .fields ps}/\PySem.TriplesOk ps.toList/\∀pos cv,PySem.codeAmong pos ps.toList=some cv->∃c,cv= .ref c/\H c=some (.cod q)
section
variable (P:UX) (w:UZ)
def bE(H:Hp)(h:UW)(a:UL):HO->Prop
 | .lst xs=>xs.length<=UR/\∃(its:List UJ)(n:Nat),aG xs its/\h.get? a=some {cls:= .type "list",data:= .seq its.toArray n}
 | .tup xs=>xs.length<=UR/\∃its:List UJ,aG xs its/\IsTup h a its.toArray
 | .dK kvs=>kvs.length<=UR/\(a==sysModules)=false/\∃vs,KV kvs vs/\h.DictOf (AZ P w) a vs
 | .dT kvs=>kvs.length<=UR/\(a==sysModules)=false/\∃xs:List (List aZ×UL×UJ),
  Paired (λ(p:List aZ×V) (q:List aZ×UL×UJ)=>p.1=q.1/\H q.2.1=some (.tup (p.1.map kV))/\aD p.2 q.2.2) kvs xs/\
  ∃o es ep,h.get? a=some o/\o.ExactDict/\o.data= .dict es ep/\es.toList=xs.map (entryOfKey (tupleKind (AZ P w)))/\(xs.map (·.1)).Nodup
 | .set S n=>h.SetOf (intKind P w) a S n
 | .ins C dx fs=>H dx=some (.own a)/\fs.length<=1000/\dx≠a/\h.get? a=some (Su C dx)/\
  ∃mA,h.Ns1 dx mA/\(∀f,p4 (fs.lookup f) (mA f))/\Ue mA (fs.map (·.1))
 | .own _=>∃o,h.get? a=some o
 | .xd fs=>∃mA,h.Ns1 a mA/\∀f,p4 (fs.lookup f) (mA f)
 | .rng lo hi=>∃t u v,h.get? a=some {cls:= .type "range",data:= .fields #[.int lo t,.int hi u,.int 1 v]}
 | .frz o u=>h.get? a=some o/\bE H h a u
 | .tbl ps=>∃q t,ps[0]?=some (.str q t)/\Fm H h a q
 | .cod q=>Fl h a q
 | .met f x=>h.get? a=some (R4 (.ref f) (.ref x))
 | .ext φ=>φ h/\(∃o,h.get? a=some o)/\∀h1 h2:UW,φ h1->(∀o,h1.get? a=some o->h2.get? a=some o)->φ h2
def bJ(H:Hp)(h:UW):Prop:=∀a o,H a=some o->bE P w H h a o
end
section
variable {P:UX} {w:UZ} {H H':Hp} {h h':UW} {a:UL} {o:HO}
theorem bE.lt(x:bE P w H h a o):a < h.objs.size:=by
 cases o with
 | lst xs=>obtain⟨_,_,_,_,e⟩:=x;exact NW e
 | tup xs=>obtain⟨_,_,_,p⟩:=x;exact p.lt
 | dK kvs=>obtain⟨_,_,_,_,o,_,_,e,_⟩:=x;exact NW e
 | dT kvs=>obtain⟨_,_,_,_,o,_,_,e,_⟩:=x;exact NW e
 | set S n=>obtain⟨o,_,_,_,e,_⟩:=x;exact NW e
 | ins C dx fs=>obtain⟨_,_,_,e,_⟩:=x;exact NW e
 | own y=>obtain⟨_,e⟩:=x;exact NW e
 | xd fs=>obtain⟨_,⟨_,_,_,e,_⟩,_⟩:=x;exact NW e
 | rng lo hi=>obtain⟨_,_,_,e⟩:=x;exact NW e
 | frz ob u=>obtain⟨e,_⟩:=x;exact NW e
 | tbl ps=>obtain⟨_,_,_,_,e,_⟩:=x;exact NW e
 | cod q=>obtain⟨_,_,_,e,_⟩:=x;exact NW e
 | met f y=>exact NW (show h.get? a=some _ from x)
 | ext φ=>obtain⟨_,⟨_,e⟩,_⟩:=x;exact NW e
theorem Paired.mapP{α β:Type}{F G:α->β->Prop}:∀{l₁:List α}{l₂:List β},Paired F l₁ l₂->(∀a b,F a b->G a b)->Paired G l₁ l₂
 | _,_,.nil,_=>.nil
 | _,_,.cons r t,f=>.cons (f _ _ r) (Paired.mapP t f)
theorem bE.stay(x:bE P w H h a o)(k:∀b u,(b=a\/H b=some (.own a))->h.get? b=some u->h'.get? b=some u)
 (ho:∀b,H b=some (.own a)->H' b=some (.own a))(ht:∀b xs,H b=some (.tup xs)->H' b=some (.tup xs))(hc:∀b q,H b=some (.cod q)->H' b=some (.cod q)):bE P w H' h' a o:=by
 induction o with
 | lst xs=>obtain⟨z,its,n,r,e⟩:=x;exact⟨z,its,n,r,k _ _ (.inl rfl) e⟩
 | tup xs=>obtain⟨z,its,r,ob,e,c⟩:=x;exact⟨z,its,r,ob,k _ _ (.inl rfl) e,c⟩
 | dK kvs=>obtain⟨z,y,vs,r,ob,es,ep,e,c⟩:=x;exact⟨z,y,vs,r,ob,es,ep,k _ _ (.inl rfl) e,c⟩
 | dT kvs=>
  obtain⟨z,y,xs,r,ob,es,ep,e,c⟩:=x;exact⟨z,y,xs,Paired.mapP r λp q z=>⟨z.1,ht _ _ z.2.1,z.2.2⟩,ob,es,ep,k _ _ (.inl rfl) e,c⟩
 | set S n=>obtain⟨ob,es,ep,t,e,c⟩:=x;exact⟨ob,es,ep,t,k _ _ (.inl rfl) e,c⟩
 | ins C dx fs=>
  obtain⟨d,z,ne,e,mA,⟨od,es,ep,e2,c⟩,r⟩:=x;exact⟨ho _ d,z,ne,k _ _ (.inl rfl) e,mA,⟨od,es,ep,k _ _ (.inr d) e2,c⟩,r⟩
 | own y=>obtain⟨ob,e⟩:=x;exact⟨ob,k _ _ (.inl rfl) e⟩
 | xd fs=>obtain⟨mA,⟨od,es,ep,e,c⟩,r⟩:=x;exact⟨mA,⟨od,es,ep,k _ _ (.inl rfl) e,c⟩,r⟩
 | rng lo hi=>obtain⟨t,u,v,e⟩:=x;exact⟨t,u,v,k _ _ (.inl rfl) e⟩
 | frz ob u ih=>obtain⟨e,q⟩:=x;exact⟨k _ _ (.inl rfl) e,ih q⟩
 | tbl ps=>
  obtain⟨q,t,z,qs,e,tr,y⟩:=x;exact⟨q,t,z,qs,k _ _ (.inl rfl) e,tr,λpos cv w=>let ⟨c,e1,e2⟩:=y pos cv w;⟨c,e1,hc _ _ e2⟩⟩
 | cod q=>obtain⟨oc,vs,t,e,r⟩:=x;exact⟨oc,vs,t,k _ _ (.inl rfl) e,r⟩
 | met f y=>
  have e:h.get? a=some (R4 (.ref f) (.ref y)):=x;show h'.get? a=some (R4 (.ref f) (.ref y));exact k a _ (.inl rfl) e
 | ext φ=>obtain⟨p,⟨o,e⟩,st⟩:=x;exact⟨st _ _ p λo q=>k _ _ (.inl rfl) q,⟨o,k _ _ (.inl rfl) e⟩,st⟩
theorem bJ.lt(x:bJ P w H h)(e:H a=some o):a < h.objs.size:=(x a o e).lt
theorem bJ.fresh(x:bJ P w H h)(e:h.objs.size<=a):H a=none:=by
 cases q:H a with
 | none=>rfl
 | some u=>exact absurd (OX (x.lt q) e) (Qq _)
theorem bJ.kept(x:bJ P w H h)(k:∀b u,h.get? b=some u->h'.get? b=some u):bJ P w H h':=λa o e=>
 (x a o e).stay (λb u _ q=>k b u q) (λ_ q=>q) (λ_ _ q=>q) λ_ _ q=>q
theorem bJ.laid(x:bJ P w H h)(k:∀b u,h.get? b=some u->h'.get? b=some u)(hp:h.objs.size<=a)(new:bE P w (ak H a o) h' a o):bJ P w (ak H a o) h':=λb u e=>by
 have hn:=x.fresh hp;by_cases hb:b=a
 ·subst hb;rw [bh] at e;cases e;exact new
 ·rw [av hb] at e;exact(x b u e).stay (λc v _ q=>k c v q) (λc q=>by rw [av (ko q hn)];exact q) (λc xs q=>by rw [av (ko q hn)];exact q) λc xs q=>by rw [av (ko q hn)];exact q
end
def Rd(H:Hp)(a:UL)(u:HO):Prop:=H a=some u\/∃o,H a=some (.frz o u)
theorem Rd.ok{P:UX}{w:UZ}{H:Hp}{h:UW}{a:UL}{u:HO}(r:Rd H a u)(x:bJ P w H h):bE P w H h a u:=by
 rcases r with r | ⟨o,r⟩
 ·exact x a u r
 ·obtain⟨_,q⟩:=x a _ r;exact q
def qU:Option HO->Prop
 | some (.lst _)=>True
 | some (.dK _)=>True
 | some (.dT _)=>True
 | some (.set _ _)=>True
 | some (.ins _ _ _)=>True
 | some (.ext _)=>True
 | _=>False
section
variable {P:UX} {w:UZ} {H:Hp} {h h':UW} {x e:UL} {o':HO}
theorem bJ.write(ok:bJ P w H h)(mu:qU (H x))(he:e=x\/H e=some (.own x))(k:∀b u,b≠e->h.get? b=some u->h'.get? b=some u)(heo:∃u,h'.get? e=some u)
 (new:bE P w (ak H x o') h' x o'):bJ P w (ak H x o') h':=λb u q=>by
 have nown:∀c y,H c=some (.own y)->c≠x:=λc y r z=>by subst z;rw [r] at mu;exact mu
 have ntup:∀c xs,H c=some (.tup xs)->c≠x:=λc xs r z=>by subst z;rw [r] at mu;exact mu
 have ncod:∀c xs,H c=some (.cod xs)->c≠x:=λc xs r z=>by subst z;rw [r] at mu;exact mu
 by_cases hb:b=x
 ·subst hb;rw [bh] at q;cases q;exact new
 ·rw [av hb] at q;by_cases hbe:b=e
  ·have q':H b=some (.own x):=by
    rcases he with z | z
    ·exact absurd (hbe.trans z) hb
    ·rw [hbe];exact z
   rw [q] at q';cases q';obtain⟨v,hv⟩:=heo;exact⟨v,by rw [hbe];exact hv⟩
  ·refine(ok b u q).stay (λc v hc r=>k c v ?_ r) (λc r=>by rw [av (nown c b r)];exact r) (λc xs r=>by rw [av (ntup c xs r)];exact r) λc xs r=>by rw [av (ncod c xs r)];exact r
   rcases hc with rfl | hc
   ·exact hbe
   ·rintro rfl;rcases he with z | z
    ·exact nown c b hc z
    ·rw [hc] at z;cases z;exact hb rfl
end
structure Un (fs ex:List UL) (H H':Hp) (h h':UW):Prop where
 keep:∀b o,h.get? b=some o->H b=none->b ∉ fs->b ∉ ex->h'.get? b=some o
 slot:∀b o,h.get? b=some o->H b=none->b∈fs->b ∉ ex->∃sl,h'.get? b=some {o with slots:=sl}
 free:∀b o,h.get? b=some o->H b=none->b ∉ ex->H' b=none
 there:∀b o,h.get? b=some o->b ∉ ex->∃o',h'.get? b=some o'
 tups:∀b xs,H b=some (.tup xs)->H' b=some (.tup xs)
 frzs:∀b o u,H b=some (.frz o u)->H' b=some (.frz o u)
 tbls:∀b ps,H b=some (.tbl ps)->∃more,H' b=some (.tbl (ps++more))
section
variable {fs fs' ex ex':List UL} {H H1 H2:Hp} {h h1 h2 h':UW} {a x e:UL} {o:HO}
theorem Un.any(u:Un fs ex H H1 h h1){b:UL}{ob:Obj}(q:h.get? b=some ob)(n:H b=none)(hx:b ∉ ex):∃sl,h1.get? b=some {ob with slots:=sl}:=by
 by_cases hb:b∈fs
 ·exact u.slot b ob q n hb hx
 ·exact⟨ob.slots,u.keep b ob q n hb hx⟩
theorem Un.kept(k:∀b u,h.get? b=some u->h'.get? b=some u):Un fs ex H H h h':=
 ⟨λb ob q _ _ _=>k b ob q,λb ob q _ _ _=>⟨ob.slots,k b ob q⟩,λ_ _ _ n _=>n,λb ob q _=>⟨ob,k b ob q⟩,λ_ _ q=>q,λ_ _ _ q=>q,λ_ ps q=>⟨#[],by rw [q];simp⟩⟩
theorem Un.refl:Un fs ex H H h h:=Un.kept λ_ _ q=>q
theorem Un.laid(k:∀b u,h.get? b=some u->h'.get? b=some u)(hp:h.objs.size<=a)(hn:H a=none):Un fs ex H (ak H a o) h h' where
 keep:=λb u q _ _ _=>k b u q
 slot:=λb u q _ _ _=>⟨u.slots,k b u q⟩
 free:=λb u q n _=>by rw [av (OJ (OX (NW q) hp))];exact n
 there:=λb u q _=>⟨u,k b u q⟩
 tups:=λb xs q=>by rw [av (ko q hn)];exact q
 frzs:=λb u xs q=>by rw [av (ko q hn)];exact q
 tbls:=λb ps q=>⟨#[],by rw [av (ko q hn),q];simp⟩
theorem Un.write(mu:qU (H x))(he:e=x\/H e=some (.own x))(k:∀b u,b≠e->h.get? b=some u->h'.get? b=some u)(heo:∃u,h'.get? e=some u):Un fs ex H (ak H x o) h h':=by
 have hx:∀b,H b=none->b≠x:=λb n z=>by subst z;rw [n] at mu;exact mu
 have hb:∀b,H b=none->b≠e:=λb n z=>by
  subst z;rcases he with r | r
  ·exact hx b n r
  ·rw [n] at r;cases r
 have hm:∀b u,H b=some u->¬qU (some u)->b≠x:=λb u q nm z=>by subst z;rw [q] at mu;exact nm mu
 refine⟨λb u q n _ _=>k b u (hb b n) q,λb u q n _ _=>⟨u.slots,k b u (hb b n) q⟩,λb u q n _=>by rw [av (hx b n)];exact n,λb u q _=>?_,
  λb xs q=>by rw [av (hm b _ q λz=>z)];exact q,λb u xs q=>by rw [av (hm b _ q λz=>z)];exact q,λb ps q=>⟨#[],by rw [av (hm b _ q λz=>z),q];simp⟩⟩
 by_cases hbe:b=e
 ·subst hbe;exact heo
 ·exact⟨u,k b u hbe q⟩
end
def trk(h:UW)(H:Hp):List UL:=(PH h.objs.size).filter λa=>(H a).isSome
def nI(h:UW)(H:Hp):UW:=PySem.W.hideAll h (trk h H)
theorem Fo(h:UW)(H:Hp):(nI h H).objs.size=h.objs.size:=PySem.W.hideAll_size _ _
theorem Fp{h:UW}{H:Hp}{b:UL}{o:Obj}(e:h.get? b=some o)(n:H b=none):(nI h H).get? b=some o:=
 PySem.W.hideAll_get _ e λhm=>by
  have q:(H b).isSome=true:=(TR.mp hm).2;rw [n] at q;simp at q
theorem Fq{h:UW}{H:Hp}{b:UL}{o:Obj}(e:(nI h H).get? b=some o):h.get? b=some o/\H b=none:=by
 have e':h.get? b=some o:=PySem.W.of_hideAll (trk h H) e;refine⟨e',?_⟩;cases q:H b with
 | none=>rfl
 | some x=>
  have hm:b∈trk h H:=TR.mpr ⟨QG.mpr (NW e'),by simp [q]⟩;have z:(nI h H).get? b=none:=PySem.W.hideAll_none (trk h H) hm;rw [z] at e;cases e
def Fs(g h:UW)(L:UL):List (UL×Obj):=(PH h.objs.size).filterMap λa=>if a=L\/(g.get? a).isSome=true then none else(h.get? a).map λo=>(a,o)
def rest(g h:UW)(L d:UL):List (UL×Obj):=(Fs g h L).filter λp=>decide (p.1≠d)
structure Mod (K:NH) (mg:Str->Option UJ) (base:UW):Prop where
 kin:K.In base
 glob:base.Ns UU mg
 blt:∃mb,base.Ns builtinsNs mb/\∀x:Str,x≠"__name__"->mb x=U4 x
 nolimit:base.NoLimit
structure Cx where
 prog:UX
 w:UZ
 K:NH
 mg:Str->Option UJ
 base:UW
 A:U1
 N:List Str
 s₀:UM
 H₀:Hp
 env:Env
 outer:List Env
 stack:List Env
 ex:List UL
 fn:Str->Bool
 calm:Bool
 pn:List (UL×Obj)
 xe:UJ->UM->Prop
def ck(l:List Env):List UL:=l.filterMap (·.frame)
abbrev Cx.fs(X:Cx):List UL:=ck X.outer
def qV(sc:Vg)(x:Str):Prop:=sc.names.lookup x=some .local\/sc.names.lookup x=some .cell\/sc.names.lookup x=some .free
def oT(sc:Vg)(x:Str):Prop:=sc.names.lookup x=some .local\/sc.names.lookup x=some .cell
def Ft(env:Env)(h:UW)(m:Str->Option UJ)(x:Str)(u:UJ):Prop:=
 (env.kindOf x=some .local/\m x=some u)\/((env.kindOf x=some .cell\/env.kindOf x=some .free)/\∃c,env.cells.lookup x=some c/\h.IsCell c (some u))
structure Cx.Ok (X:Cx):Prop where
 mod:Mod X.K X.mg X.base
 kind:X.env.scope.kind= .function
 glob:X.env.globals=UU
 blt:X.env.builtins=builtinsNs
 above:X.s₀.heap.objs.size<=X.env.locals
 inj:∀x y c,X.env.cells.lookup x=some c->X.env.cells.lookup y=some c->x=y
 has:∀x,(X.env.kindOf x=some .cell\/X.env.kindOf x=some .free)->∃c,X.env.cells.lookup x=some c
 cab:∀x c,X.fn x=true->X.env.cells.lookup x=some c->X.s₀.heap.objs.size<=c
 hd:X.calm=true->X.A.handled=none
 frames:X.A.frames=some X.stack
 stk:X.stack=X.outer\/(X.stack=X.env::X.outer/\X.env.frame=some X.env.locals)
 exf:∀b∈X.ex,b≠X.env.locals/\∀x c,X.env.cells.lookup x=some c->c≠b
 bs:∀b o,X.base.get? b=some o->X.s₀.heap.get? b=some o/\X.H₀ b=none
 bsz:X.base.objs.size<=X.s₀.heap.objs.size
 noex:∀b o,X.base.get? b=some o->b ∉ X.ex
 exfs:∀b∈X.ex,b ∉ X.fs
 funs:X.s₀.heap.FunFrames X.base X.outer
 frf:∀b∈X.fs,X.H₀ b=none
structure ag (X:Cx) (Wx:List (UL×Obj)) (σ:List (Option V)) (H:Hp) (s:UM):Prop where
 ok:X.Ok
 os:s.os=X.s₀.os
 bare:VX s.gens
 base:Un X.fs X.ex X.H₀ H X.s₀.heap s.heap
 loc:∃m,s.heap.Ns X.env.locals m/\∀(i:Nat)(x:Str)(v:V),X.N[i]?=some x->σ[i]?=some (some v)->qV X.env.scope x->∃u,aD v u/\Ft X.env s.heap m x u
 cell:∀x c,X.env.cells.lookup x=some c->∃v,s.heap.IsCell c v
 free:H X.env.locals=none
 freeC:∀x c,X.env.cells.lookup x=some c->H c=none
 pin:∀p∈X.pn++Wx,s.heap.get? p.1=some p.2/\H p.1=none/\p.1≠X.env.locals/\p.1 ∉ X.fs/\∀v,p.2.data≠ .cell v
 hok:bJ X.prog X.w H s.heap
 len:σ.length=X.N.length
section
variable {X:Cx} {Wx:List (UL×Obj)} {σ:List (Option V)} {H H':Hp} {s:UM} {h':UW}
theorem Cx.Ok.nofr(ok:X.Ok){b:UL}{o:Obj}(e:X.base.get? b=some o):b ∉ X.fs:=λhb=>by
 have:=(ok.funs.mem hb).1;rw [e] at this;cases this
theorem ag.bs(I:ag X Wx σ H s):∀b o,X.base.get? b=some o->s.heap.get? b=some o/\H b=none:=λb o e=>
 ⟨I.base.keep b o (I.ok.bs b o e).1 (I.ok.bs b o e).2 (I.ok.nofr e) (I.ok.noex b o e),I.base.free b o (I.ok.bs b o e).1 (I.ok.bs b o e).2 (I.ok.noex b o e)⟩
theorem ag.bk(I:ag X Wx σ H s):∀b o,X.base.get? b=some o->s.heap.get? b=some o:=λb o e=>(I.bs b o e).1
theorem ag.mod(I:ag X Wx σ H s):Mod X.K X.mg X.base:=I.ok.mod
theorem ag.kIn(I:ag X Wx σ H s):X.K.In s.heap:=I.ok.mod.kin.keeps I.bk
theorem ag.fr(I:ag X Wx σ H s):∃m,Fr X.base X.env.locals s.heap m:=
 let ⟨m,hn,_⟩:=I.loc
 ⟨m,hn,I.bk,OB I.ok.bsz I.ok.above⟩
theorem ag.lt(I:ag X Wx σ H s):X.env.locals < s.heap.objs.size:=let ⟨_,hn,_⟩:=I.loc;hn.lt
theorem ag.sz(I:ag X Wx σ H s):X.s₀.heap.objs.size<=s.heap.objs.size:=OB I.ok.above (Rf I.lt)
theorem ag.nofs(I:ag X Wx σ H s){a:UL}(h:s.heap.objs.size<=a):a ∉ X.fs:=λhb=>by
 obtain⟨_,o,ho,_⟩:=I.ok.funs.mem hb;exact absurd (OX (NW ho) (OB I.sz h)) (Qq _)
theorem ag.cne(I:ag X Wx σ H s):∀x c,X.env.cells.lookup x=some c->c≠X.env.locals:=λx c e z=>by
 obtain⟨v,o,ho,hd⟩:=I.cell x c e;obtain⟨m,⟨o',es,ep,ho',hd',_⟩,_⟩:=I.loc;rw [z,ho'] at ho;cases ho;rw [hd'] at hd;cases hd
theorem ag.funs(I:ag X Wx σ H s):s.heap.FunFrames X.base X.outer:=by
 have all:∀(l:List Env),(∀b∈ck l,b∈X.fs)->X.s₀.heap.FunFrames X.base l->s.heap.FunFrames X.base l:=by
  intro l
  induction l with
  | nil=>intro _ _;trivial
  | cons env r ih=>
   intro hs hl;obtain⟨hk,⟨L,o,hf,hn,ho,hd⟩,hr⟩:=hl;have hL:L∈X.fs:=hs L (by unfold ck;rw [RN,hf];exact PJ);obtain⟨sl,e⟩:=I.base.slot L o ho (I.ok.frf L hL) hL λz=>I.ok.exfs L z hL;exact⟨hk,⟨L,_,hf,hn,e,hd⟩,ih (λb hb=>hs b (by unfold ck;rw [RN,hf];exact OZ _ hb)) hr⟩
 exact all X.outer (λ_ hb=>hb) I.ok.funs
theorem ag.stack(I:ag X Wx σ H s):s.heap.FunFrames X.base X.stack:=by
 rcases I.ok.stk with e | ⟨e,hf⟩
 ·rw [e];exact I.funs
 ·rw [e];obtain⟨m,hn,_⟩:=I.loc;refine .cons (by rw [I.ok.kind];decide) hf hn ?_ I.funs;exact Q6 (OB I.ok.bsz I.ok.above)
theorem ag.stkSub(I:ag X Wx σ H s):∀b∈ck X.stack,b∈X.env.locals::X.fs:=λb hb=>by
 rcases I.ok.stk with e | ⟨e,hf⟩
 ·rw [e] at hb;exact OZ _ hb
 ·rw [e] at hb;unfold ck at hb;rw [RN,hf] at hb;exact hb
theorem ag.stkFree(I:ag X Wx σ H s):∀b∈ck X.stack,H b=none:=λb hb=>by
 rcases NO.mp (I.stkSub b hb) with e | hb
 ·rw [e];exact I.free
 ·obtain⟨_,o,ho,_⟩:=I.ok.funs.mem hb;exact I.base.free b o ho (I.ok.frf b hb) λz=>I.ok.exfs b z hb
theorem ag.step{g':Array V4}{t':Nat}{d':Drawn}{ch:List UL}(I:ag X Wx σ H s)
 (hch:∀b∈ch,(b∈X.ex\/X.s₀.heap.objs.size<=b)/\b≠X.env.locals/\(∀x c,X.env.cells.lookup x=some c->c≠b)/\∀p∈X.pn++Wx,p.1≠b)
 (keep:∀b o,b≠X.env.locals->b ∉ X.fs->b ∉ ch->s.heap.get? b=some o->H b=none->h'.get? b=some o)
 (slot:∀b o,b≠X.env.locals->b∈X.fs->b ∉ ch->s.heap.get? b=some o->H b=none->∃sl,h'.get? b=some {o with slots:=sl})(free:∀b o,b ∉ ch->s.heap.get? b=some o->H b=none->H' b=none)
 (there:∀b o,b ∉ ch->s.heap.get? b=some o->∃o',h'.get? b=some o')
 (tups:∀b xs,H b=some (.tup xs)->H' b=some (.tup xs))(frzs:∀b o u,H b=some (.frz o u)->H' b=some (.frz o u))(tbls:∀b ps,H b=some (.tbl ps)->∃more,H' b=some (.tbl (ps++more)))
 (ns:∀m,s.heap.Ns X.env.locals m->h'.Ns X.env.locals m)(hok:bJ X.prog X.w H' h')(hg:VX g'):
 ag X Wx σ H' {s with heap:=h',gens:=g',drawn:=d',toks:=t'}:=by
 have neL:∀b o,X.s₀.heap.get? b=some o->b≠X.env.locals:=λb o e=>OJ (OX (NW e) I.ok.above);have neC:∀b o,X.s₀.heap.get? b=some o->b ∉ X.ex->b ∉ ch:=λb o e hx hb=>by
  rcases(hch b hb).1 with z | z
  ·exact hx z
  ·exact absurd (OX (NW e) z) (Qq _)
 have cellK:∀x c,X.env.cells.lookup x=some c->∀v,s.heap.IsCell c v->h'.IsCell c v:=λx c e v uu1=>by
  obtain⟨o,ho,hd⟩:=uu1;have nch:c ∉ ch:=λz=>(hch c z).2.2.1 x c e rfl;by_cases hc:c∈X.fs
  ·obtain⟨sl,q⟩:=slot c o (I.cne x c e) hc nch ho (I.freeC x c e);exact⟨_,q,hd⟩
  ·exact⟨o,keep c o (I.cne x c e) hc nch ho (I.freeC x c e),hd⟩
 refine⟨I.ok,I.os,hg,⟨λb o e n hb hx=>?_,λb o e n hb hx=>?_,λb o e n hx=>?_,λb o e hx=>?_,λb xs e=>tups b xs (I.base.tups b xs e),λb o xs e=>frzs b o xs (I.base.frzs b o xs e),λb ps e=>?_⟩,?_,λx c e=>?_,?_,λx c e=>?_,λp hp=>?_,hok,I.len⟩
 ·exact keep b o (neL b o e) hb (neC b o e hx) (I.base.keep b o e n hb hx) (I.base.free b o e n hx)
 ·obtain⟨sl,e1⟩:=I.base.slot b o e n hb hx;obtain⟨sl',e2⟩:=slot b _ (neL b o e) hb (neC b o e hx) e1 (I.base.free b o e n hx);exact⟨sl',e2⟩
 ·obtain⟨o',e1⟩:=I.base.there b o e hx;exact free b o' (neC b o e hx) e1 (I.base.free b o e n hx)
 ·obtain⟨o',e1⟩:=I.base.there b o e hx;exact there b o' (neC b o e hx) e1
 ·obtain⟨m1,e1⟩:=I.base.tbls b ps e;obtain⟨m2,e2⟩:=tbls b _ e1;exact⟨m1++m2,by rw [e2,Array.append_assoc]⟩
 ·obtain⟨m,hn,hl⟩:=I.loc;refine⟨m,ns m hn,λi x v e1 e2 e3=>?_⟩;obtain⟨u,r,l⟩:=hl i x v e1 e2 e3;refine⟨u,r,?_⟩;rcases l with l | ⟨k,c,e,z⟩
  ·exact .inl l
  ·exact .inr ⟨k,c,e,cellK x c e _ z⟩
 ·obtain⟨v,z⟩:=I.cell x c e;exact⟨v,cellK x c e v z⟩
 ·obtain⟨m,⟨o,_,_,ho,_⟩,_⟩:=I.loc;exact free _ o (λz=>(hch _ z).2.1 rfl) ho I.free
 ·obtain⟨v,o,ho,hd⟩:=I.cell x c e;exact free c o (λz=>(hch c z).2.2.1 x c e rfl) ho (I.freeC x c e)
 ·obtain⟨e,n,ne,nf,d⟩:=I.pin p hp;have nch:p.1 ∉ ch:=λz=>(hch p.1 z).2.2.2 p hp rfl;exact⟨keep p.1 p.2 ne nf nch e n,free p.1 p.2 nch e n,ne,nf,d⟩
theorem ag.un{t':Nat}(I:ag X Wx σ H s)(u:Un X.fs [] H H' s.heap h')(hok:bJ X.prog X.w H' h'):ag X Wx σ H' {s with heap:=h',toks:=t'}:=by
 obtain⟨m,⟨o,es,ep,ho,r⟩,_⟩:=id I.loc;obtain⟨sl,hL⟩:=u.any ho I.free UH;exact I.step (g':=s.gens) (d':=s.drawn) (ch:=[]) (λ_ z=>nomatch z) (λb o _ hb _ e n=>u.keep b o e n hb UH) (λb o _ hb _ e n=>u.slot b o e n hb UH) (λb o _ e n=>u.free b o e n UH) (λb o _ e=>u.there b o e UH) u.tups u.frzs u.tbls (λm' hm=>by
  obtain⟨o',es',ep',ho',r'⟩:=hm;rw [ho] at ho';cases ho';exact⟨_,es',ep',hL,r'⟩) hok I.bare
theorem ag.call{g':Array V4}{t':Nat}{d':Drawn}{ch:List UL}(I:ag X Wx σ H s)(u:Un (ck X.stack) ch H H' s.heap h')(hok:bJ X.prog X.w H' h')(hg:VX g')
 (hch:∀b∈ch,(b∈X.ex\/X.s₀.heap.objs.size<=b)/\b≠X.env.locals/\(∀x c,X.env.cells.lookup x=some c->c≠b)/\∀p∈X.pn++Wx,p.1≠b):
 ag X Wx σ H' {s with heap:=h',gens:=g',drawn:=d',toks:=t'}:=by
 obtain⟨m,⟨o,es,ep,ho,r⟩,_⟩:=id I.loc;obtain⟨sl,hL⟩:=u.any ho I.free λz=>(hch _ z).2.1 rfl;exact I.step (ch:=ch) hch (λb o hL hb hc e n=>u.keep b o e n (λz=>(NO.mp (I.stkSub b z)).elim hL hb) hc) (λb o _ _ hc e n=>u.any e n hc) (λb o hc e n=>u.free b o e n hc) (λb o hc e=>u.there b o e hc) u.tups u.frzs u.tbls (λm' hm=>by
  obtain⟨o',es',ep',ho',r'⟩:=hm;rw [ho] at ho';cases ho';exact⟨_,es',ep',hL,r'⟩) hok hg
theorem ag.turned{t':Nat}{it:UL}(I:ag X Wx σ H s)(k:∀b o,b≠it->s.heap.get? b=some o->h'.get? b=some o)(hn:H it=none)(hL:it≠X.env.locals)
 (h1:it∈X.ex\/X.s₀.heap.objs.size<=it)(h2:∀x c,X.env.cells.lookup x=some c->c≠it)(h3:∀p∈X.pn++Wx,p.1≠it):ag X Wx σ H {s with heap:=h',toks:=t'}:=by
 have nit:∀b u,H b=some u->b≠it:=λb u e z=>by rw [z,hn] at e;cases e
 refine I.step (g':=s.gens) (d':=s.drawn) (ch:=[it]) (λb hb=>?_) (λb o _ _ hc e _=>k b o (λz=>hc (by simp [z])) e) (λb o _ _ hc e _=>⟨o.slots,k b o (λz=>hc (by simp [z])) e⟩) (λ_ _ _ _ n=>n)
  (λb o hc e=>⟨o,k b o (λz=>hc (by simp [z])) e⟩) (λ_ _ e=>e) (λ_ _ _ e=>e) (λb ps e=>⟨#[],by rw [e];simp⟩) (λm hm=>?_) (λb u e=>?_) I.bare
 ·have e:b=it:=by simpa using hb
  subst e;exact⟨h1,hL,h2,h3⟩
 ·obtain⟨o,es,ep,ho,r⟩:=hm;exact⟨o,es,ep,k _ o (Ne.symm hL) ho,r⟩
 ·refine(I.hok b u e).stay (λc v hc q=>k c v ?_ q) (λ_ q=>q) (λ_ _ q=>q) λ_ _ q=>q;rcases hc with z | z
  ·rw [z];exact nit b u e
  ·exact nit c _ z
theorem ag.tok(I:ag X Wx σ H s)(t:Nat):ag X Wx σ H {s with toks:=t}:=I.un (h':=s.heap) (t':=t) Un.refl I.hok
theorem ag.kept{t':Nat}(I:ag X Wx σ H s)(k:∀b u,s.heap.get? b=some u->h'.get? b=some u):ag X Wx σ H {s with heap:=h',toks:=t'}:=I.un (Un.kept k) (I.hok.kept k)
theorem ag.laid{a:UL}{o:HO}{t':Nat}(I:ag X Wx σ H s)(k:∀b u,s.heap.get? b=some u->h'.get? b=some u)(hp:s.heap.objs.size<=a)(new:bE X.prog X.w (ak H a o) h' a o):
 ag X Wx σ (ak H a o) {s with heap:=h',toks:=t'}:=I.un (Un.laid k hp (I.hok.fresh hp)) (I.hok.laid k hp new)
theorem ag.write{x e:UL}{o:HO}{t':Nat}(I:ag X Wx σ H s)(mu:qU (H x))(he:e=x\/H e=some (.own x))(k:∀b u,b≠e->s.heap.get? b=some u->h'.get? b=some u)(heo:∃u,h'.get? e=some u)
 (new:bE X.prog X.w (ak H x o) h' x o):ag X Wx σ (ak H x o) {s with heap:=h',toks:=t'}:=I.un (Un.write mu he k heo) (I.hok.write mu he k heo new)
theorem ag.weak{σ':List (Option V)}(I:ag X Wx σ H s)(hl:σ'.length=σ.length)(w:∀(i:Nat) v,σ'[i]?=some (some v)->σ[i]?=some (some v)):ag X Wx σ' H s:=
 ⟨I.ok,I.os,I.bare,I.base,let ⟨m,hn,hl'⟩:=I.loc;⟨m,hn,λi x v e1 e2 e3=>hl' i x v e1 (w i v e2) e3⟩,I.cell,I.free,I.freeC,I.pin,I.hok,hl.trans I.len⟩
theorem ag.pins_of{pins':List (UL×Obj)}(I:ag X Wx σ H s)(h:∀p∈pins',s.heap.get? p.1=some p.2/\H p.1=none/\p.1≠X.env.locals/\p.1 ∉ X.fs/\∀v,p.2.data≠ .cell v):ag X pins' σ H s:=
 ⟨I.ok,I.os,I.bare,I.base,I.loc,I.cell,I.free,I.freeC,λp hp=>(P5.mp hp).elim (λz=>I.pin p (SR _ z)) (h p),I.hok,I.len⟩
theorem uS{N:List Str}(hN:N.Nodup){i j:Nat}{x:Str}(a:N[i]?=some x)(b:N[j]?=some x):i=j:=by
 obtain⟨h1,e1⟩:=OW.mp a;obtain⟨h2,e2⟩:=OW.mp b;exact(List.getElem_inj hN).mp (e1.trans e2.symm)
theorem Fv{M:VY}{A:U1}{E:UJ->UM->Prop}{i:Nat}{x:Str}{v:V}{u:UJ}{Q:Unit->UM->Prop}(I:ag X Wx σ H s)(hN:X.N.Nodup)(hi:X.N[i]?=some x)(hx:oT X.env.scope x)(r:aD v u)
 (h:∀s',ag X Wx (σ.set i (some v)) H s'->(∃a,Qv a s.heap s'.heap/\(a=X.env.locals\/X.env.cells.lookup x=some a))->Q () s')(hf:X.fn x=true\/X.env.scope.names.lookup x=some .local:=by first | exact .inl rfl | exact .inr rfl | assumption):UO M A (storeName X.env x u) Q E s:=by
 obtain⟨m,hn,hl⟩:=id I.loc;have hcls:(X.env.scope.kind== .class || (X.env.scope.kind== .module && X.env.locals !=X.env.globals))=false:=by rw [I.ok.kind];rfl
 have hiσ:i < σ.length:=by rw [I.len];exact(OW.mp hi).1
 have cne:=I.cne;have tracked:∀{a:UL}{h':UW},(∃o,s.heap.get? a=some o/\H a=none)->Qv a s.heap h'->bJ X.prog X.w H h':=λ{a h'} ha hs b ob e=>by
  obtain⟨_,_,hfree⟩:=ha;refine(I.hok b ob e).stay (λc w' hc q=>(hs.2 c ?_).trans q) (λ_ q=>q) (λ_ _ q=>q) λ_ _ q=>q;rintro rfl;rcases hc with rfl | hc
  ·rw [hfree] at e;cases e
  ·rw [hfree] at hc;cases hc
 rcases hx with hk | hk
 ·refine wpAny_storeName_local hk hn (λh' hn' hs=>?_) hcls;obtain⟨oL,_,_,hoL,_⟩:=id hn;refine h _ ⟨I.ok,I.os,I.bare,⟨λb o e n hb hx=>?_,λb o e n hb hx=>?_,I.base.free,λb o e hx=>?_,I.base.tups,I.base.frzs,I.base.tbls⟩,⟨_,hn',λj y v' e1 e2 e3=>?_⟩,λy c e=>?_,I.free,I.freeC,λp hp=>?_,tracked ⟨oL,hoL,I.free⟩ hs,by simpa using I.len⟩ ⟨_,hs,.inl rfl⟩
  ·exact(hs.2 b (OJ (OX (NW e) I.ok.above))).trans (I.base.keep b o e n hb hx)
  ·obtain⟨sl,e1⟩:=I.base.slot b o e n hb hx;exact⟨sl,(hs.2 b (OJ (OX (NW e) I.ok.above))).trans e1⟩
  ·obtain⟨o',e1⟩:=I.base.there b o e hx;exact⟨o',(hs.2 b (OJ (OX (NW e) I.ok.above))).trans e1⟩
  ·by_cases hj:j=i
   ·subst hj;rw [hi] at e1;cases e1;rw [Pf hiσ] at e2;cases e2;exact⟨u,r,.inl ⟨hk,UH⟩⟩
   ·rw [O3 (Ne.symm hj)] at e2;obtain⟨u',r',q⟩:=hl j y v' e1 e2 e3;refine⟨u',r',?_⟩;rcases q with⟨k,e⟩ | ⟨k,c,e,z⟩
    ·refine .inl ⟨k,?_⟩;have:y≠x:=λe=>hj (uS hN e1 (e▸hi));simp [this,e]
    ·exact .inr ⟨k,c,e,z.sameBut hs (cne y c e)⟩
  ·obtain⟨w',z⟩:=I.cell y c e;exact⟨w',z.sameBut hs (cne y c e)⟩
  ·obtain⟨e,n,ne,nf,d⟩:=I.pin p hp;exact⟨(hs.2 p.1 ne).trans e,n,ne,nf,d⟩
 ·have hfn:X.fn x=true:=by
   rcases hf with z | z
   ·exact z
   ·rw [z] at hk;cases hk
  obtain⟨c,hc⟩:=I.ok.has x (.inl hk);obtain⟨w',z⟩:=I.cell x c hc;refine wpAny_storeName_cell I.ok.kind hk hc z (λh' hc' hs=>?_);obtain⟨oc,hoc,hocd⟩:=id z;refine h {s with heap:=h'} ⟨I.ok,I.os,I.bare,⟨λb o e n hb hx=>?_,λb o e n hb hx=>?_,I.base.free,λb o e hx=>?_,I.base.tups,I.base.frzs,I.base.tbls⟩,⟨m,hn.sameBut hs (Ne.symm (cne x c hc)),λj y v' e1 e2 e3=>?_⟩,λy c' e=>?_,I.free,I.freeC,λp hp=>?_,tracked ⟨oc,hoc,I.freeC x c hc⟩ hs,by simpa using I.len⟩ ⟨c,hs,.inr hc⟩
  ·exact(hs.2 b (OJ (OX (NW e) (I.ok.cab x c hfn hc)))).trans (I.base.keep b o e n hb hx)
  ·obtain⟨sl,e1⟩:=I.base.slot b o e n hb hx;exact⟨sl,(hs.2 b (OJ (OX (NW e) (I.ok.cab x c hfn hc)))).trans e1⟩
  ·obtain⟨o',e1⟩:=I.base.there b o e hx;exact⟨o',(hs.2 b (OJ (OX (NW e) (I.ok.cab x c hfn hc)))).trans e1⟩
  ·by_cases hj:j=i
   ·subst hj;rw [hi] at e1;cases e1;rw [Pf hiσ] at e2;cases e2;exact⟨u,r,.inr ⟨.inl hk,c,hc,hc'⟩⟩
   ·rw [O3 (Ne.symm hj)] at e2;obtain⟨u',r',q⟩:=hl j y v' e1 e2 e3;refine⟨u',r',?_⟩;rcases q with q | ⟨k,c',e,z'⟩
    ·exact .inl q
    ·refine .inr ⟨k,c',e,z'.sameBut hs ?_⟩;rintro rfl;exact hj (uS hN e1 (I.ok.inj _ _ _ e hc▸hi))
  ·by_cases hcc:c'=c
   ·subst hcc;exact⟨_,hc'⟩
   ·obtain⟨w2,z2⟩:=I.cell y c' e;exact⟨w2,z2.sameBut hs hcc⟩
  ·obtain⟨e,n,ne,nf,d⟩:=I.pin p hp;refine⟨(hs.2 p.1 ?_).trans e,n,ne,nf,d⟩;intro q;rw [q,hoc] at e;have q':oc=p.2:=Ph e;exact d w' (by rw [<-q'];exact hocd)
theorem oU{M:VY}{A:U1}{E:UJ->UM->Prop}{i:Nat}{x:Str}{v:V}{u:UJ}{Q:Unit->UM->Prop}(I:ag X Wx σ H s)(hN:X.N.Nodup)(hi:X.N[i]?=some x)(hx:oT X.env.scope x)(r:aD v u)
 (h:∀s',ag X Wx (σ.set i (some v)) H s'->Q () s')(hf:X.fn x=true\/X.env.scope.names.lookup x=some .local:=by first | exact .inl rfl | exact .inr rfl | assumption):UO M A (storeName X.env x u) Q E s:=
 Fv I hN hi hx r (λs' I' _=>h s' I') hf
theorem ag.call'{s':UM}{ch:List UL}(I:ag X Wx σ H s)(ho:s'.os=s.os)(u:Un (ck X.stack) ch H H' s.heap s'.heap)(hok:bJ X.prog X.w H' s'.heap)(hg:VX s'.gens)
 (hch:∀b∈ch,(b∈X.ex\/X.s₀.heap.objs.size<=b)/\b≠X.env.locals/\(∀x c,X.env.cells.lookup x=some c->c≠b)/\∀p∈X.pn++Wx,p.1≠b):ag X Wx σ H' s':=by
 obtain⟨h',g',d',t',o'⟩:=s';have e:o'=s.os:=ho;subst e;exact I.call (g':=g') (t':=t') (d':=d') u hok hg hch
end
abbrev XK:=UJ->Option UL->Hp->Prop
abbrev St:=List (Option V)
abbrev VK:=V->Hp->Prop
abbrev TE:=St->Hp->VK->Prop
abbrev TT:=St->Hp->(Bool->Hp->Prop)->Prop
abbrev TA:=St->Hp->(List V->Hp->Prop)->Prop
structure oh where
 nx:St->Hp->Prop
 rt:VK
 bk:St->Hp->Prop:=λ_ _=>False
 ct:St->Hp->Prop:=λ_ _=>False
abbrev TS:=oh->St->Hp->Prop
inductive EP (X:Cx) (Wx:List (UL×Obj)) (σ:St) (Q:VK) (u:UJ) (s':UM):Prop
 | mk (v:V) (H':Hp):ag X Wx σ H' s'->aD v u->Q v H'->EP X Wx σ Q u s'
inductive TP (X:Cx) (Wx:List (UL×Obj)) (σ:St) (Q:Bool->Hp->Prop) (b:Bool) (s':UM):Prop
 | mk (H':Hp):ag X Wx σ H' s'->Q b H'->TP X Wx σ Q b s'
inductive AP (X:Cx) (Wx:List (UL×Obj)) (σ:St) (Q:List V->Hp->Prop) (us:List UJ) (s':UM):Prop
 | mk (vs:List V) (H':Hp):ag X Wx σ H' s'->aG vs us->Q vs H'->AP X Wx σ Q us s'
def SP(X:Cx)(Wx:List (UL×Obj))(D:oh)(f:Flow)(s':UM):Prop:=
 match f with
 | .next=>∃σ' H',ag X Wx σ' H' s'/\D.nx σ' H'
 | .brk=>∃σ' H',ag X Wx σ' H' s'/\D.bk σ' H'
 | .cont=>∃σ' H',ag X Wx σ' H' s'/\D.ct σ' H'
 | .ret u=>∃v σ' H',ag X Wx σ' H' s'/\aD v u/\D.rt v H'
def PE(X:Cx)(e:US)(t:TE):Prop:=
 ∀(Wx:List (UL×Obj))(s:UM)(σ:St)(H:Hp)(Q:VK),ag X Wx σ H s->t σ H Q->UO (UP X.prog X.w) X.A (eval e X.env) (EP X Wx σ Q) X.xe s
def PT(X:Cx)(e:US)(t:TT):Prop:=
 ∀(Wx:List (UL×Obj))(s:UM)(σ:St)(H:Hp)(Q:Bool->Hp->Prop),ag X Wx σ H s->t σ H Q->UO (UP X.prog X.w) X.A (isTrue e X.env (eval e X.env)) (TP X Wx σ Q) X.xe s
def PW(X:Cx)(e:US)(t:TT):Prop:=
 ∀(whole:Sem UJ)(Wx:List (UL×Obj))(s:UM)(σ:St)(H:Hp)(Q:Bool->Hp->Prop),ag X Wx σ H s->t σ H Q->UO (UP X.prog X.w) X.A (isTrue e X.env whole) (TP X Wx σ Q) X.xe s
theorem PW.pt{X:Cx}{e:US}{t:TT}(h:PW X e t):PT X e t:=h _
def PA(X:Cx)(es:List US)(t:TA):Prop:=
 ∀(pos:Pos)(Wx:List (UL×Obj))(s:UM)(σ:St)(H:Hp)(Q:List V->Hp->Prop),ag X Wx σ H s->t σ H Q->UO (UP X.prog X.w) X.A (spliced (U7 pos (UQ es X.env))) (AP X Wx σ Q) X.xe s
def PS(X:Cx)(st:U0)(t:TS):Prop:=
 ∀(Wx:List (UL×Obj))(s:UM)(σ:St)(H:Hp)(D:oh),ag X Wx σ H s->t D σ H->UO (UP X.prog X.w) X.A (exec st X.env) (SP X Wx D) X.xe s
def bK(X:Cx)(st:List U0)(t:TS):Prop:=
 ∀(Wx:List (UL×Obj))(s:UM)(σ:St)(H:Hp)(D:oh),ag X Wx σ H s->t D σ H->UO (UP X.prog X.w) X.A (execs st X.env) (SP X Wx D) X.xe s
theorem ax{α:Type}{t:Sem α}{Q Q':α->UM->Prop}{M:VY}{A:U1}{E:UJ->UM->Prop}{s:UM}(h:UO M A t Q E s)(hQ:∀a s,Q a s->Q' a s):UO M A t Q' E s:=U6 h hQ λ_ _ x=>x
section
variable {X:Cx}
theorem NC{a b:US}{ta tb:TE}(ha:PE X a ta)(hb:PE X b tb){Wx:List (UL×Obj)}{s:UM}{σ:St}{H:Hp}{R:V->V->Hp->Prop}(I:ag X Wx σ H s)(h:ta σ H λx H1=>tb σ H1 λy H2=>R x y H2)
 {α:Type}{Q:α->UM->Prop}{f:UJ->UJ->Sem α}
 (hf:∀v u s2 x y H2,ag X Wx σ H2 s2->aD x v->aD y u->R x y H2->UO (UP X.prog X.w) X.A (f v u) Q X.xe s2):
 UO (UP X.prog X.w) X.A (eval a X.env) (λv s₁=>UO (UP X.prog X.w) X.A (eval b X.env) (λu s₂=>UO (UP X.prog X.w) X.A (f v u) Q X.xe s₂) X.xe s₁) X.xe s:=by
 refine ax (ha Wx s σ H _ I h) λv s1 ⟨x,H1,I1,r1,q1⟩=>?_;refine ax (hb Wx s1 σ H1 _ I1 q1) λu s2 ⟨y,H2,I2,r2,q2⟩=>?_;exact hf v u s2 x y H2 I2 r1 r2 q2
def nJ(i:Nat):TE:=λσ H Q=>∃v,σ[i]?=some (some v)/\Q v H
def tC(v:V):TE:=λ_ H Q=>Q v H
theorem oV{i:Nat}{x:Str}{pos:Pos}(hN:X.N[i]?=some x)(hv:qV X.env.scope x)(hd:(x==("__debug__":Str))=false:=by decide)(hcd:(x==("__classdict__":Str))=false:=by decide):PE X (.Name x pos) (nJ i):=by
 intro Wx s σ H Q I h;obtain⟨v,e,h⟩:=h;obtain⟨m,hn,hl⟩:=I.loc;obtain⟨u,r,l⟩:=hl i x v hN e hv;have fin:EP X Wx σ Q u s:=⟨v,H,I,r,h⟩;rcases l with⟨hk,hm⟩ | ⟨hk,c,hc,hcell⟩
 ·exact wpAny_Name (wpAny_loadName_local I.ok.kind hk hn hm fin) hd
 ·rcases hk with hk | hk
  ·exact wpAny_Name (wpAny_loadName_cell I.ok.kind hk hc hcell fin) hd
  ·exact wpAny_Name (wpAny_loadName_free I.ok.kind hk hc hcell fin hcd) hd
theorem cm{i j pos}:PE X (.Constant (.int i) j pos) (tC (.int i)):=λ_ _ _ H _ I h=>wpAny_Constant_int ⟨.int i,H,I.tok _,⟨_,rfl⟩,h⟩
theorem uT{b j pos}:PE X (.Constant (.bool b) j pos) (tC (.bl b)):=λ_ _ _ H _ I h=>Constant_bool ⟨.bl b,H,I,rfl,h⟩
theorem oW{j pos}:PE X (.Constant .none j pos) (tC .non):=λ_ _ _ H _ I h=>Constant_none ⟨.non,H,I,rfl,h⟩
theorem uU{x j pos}:PE X (.Constant (.str x) j pos) (tC (.str x)):=λ_ _ _ H _ I h=>Calls.Constant_str ⟨.str x,H,I.tok _,⟨_,rfl⟩,h⟩
def Gl(X:Cx)(x:Str):Prop:=X.env.kindOf x=some .globalImplicit
theorem oj{E:UJ->UM->Prop}{Wx:List (UL×Obj)}{s:UM}{σ:St}{H:Hp}{x:Str}{u:UJ}{pos:Pos}{Q:UJ->UM->Prop}(I:ag X Wx σ H s)(hg:Gl X x)(hm:X.mg x=some u)(h:Q u s)
 (hd:(x==("__debug__":Str))=false:=by decide):UO (UP X.prog X.w) X.A (eval (.Name x pos) X.env) Q E s:=
 RX I.ok.kind hg (Calls.loadGlobal_global (by rw [I.ok.glob];exact I.mod.glob.keeps I.bk) hm h) hd
theorem p5{E:UJ->UM->Prop}{Wx:List (UL×Obj)}{s:UM}{σ:St}{H:Hp}{x:Str}{u:UJ}{pos:Pos}{Q:UJ->UM->Prop}(I:ag X Wx σ H s)(hg:Gl X x)(hm:X.mg x=none)(hv:U4 x=some u)(h:Q u s)
 (hn:x≠"__name__":=by decide)(hd:(x==("__debug__":Str))=false:=by decide):UO (UP X.prog X.w) X.A (eval (.Name x pos) X.env) Q E s:=by
 obtain⟨mb,h1,h2⟩:=I.mod.blt;exact RX I.ok.kind hg (Calls.loadGlobal_builtin (by rw [I.ok.glob];exact I.mod.glob.keeps I.bk) hm (by rw [I.ok.blt];exact h1.keeps I.bk) ((h2 x hn).trans hv) h) hd
theorem jX{x:Str}{v:V}{u:UJ}{pos:Pos}(hg:Gl X x)(hm:X.mg x=some u)(r:aD v u)(hd:(x==("__debug__":Str))=false:=by decide):PE X (.Name x pos) (tC v):=
 λ_ _ _ H _ I h=>oj I hg hm ⟨v,H,I,r,h⟩ hd
theorem lI{x:Str}{v:V}{u:UJ}{pos:Pos}(hg:Gl X x)(hm:X.mg x=none)(hv:U4 x=some u)(r:aD v u)(hn:x≠"__name__":=by decide)(hd:(x==("__debug__":Str))=false:=by decide):PE X (.Name x pos) (tC v):=
 λ_ _ _ H _ I h=>p5 I hg hm hv ⟨v,H,I,r,h⟩ hn hd
variable {a b:US} {ta tb:TE} {pos:Pos}
def PC(X:Cx)(op:CmpOp)(a b:US)(t:TE):Prop:=
 ∀(Wx:List (UL×Obj))(s:UM)(σ:St)(H:Hp)(Q:VK),ag X Wx σ H s->t σ H Q->
  UO (UP X.prog X.w) X.A (eval a X.env) (λv s₁=>UO (UP X.prog X.w) X.A (eval b X.env) (λu s₂=>UO (UP X.prog X.w) X.A (U2 op v u) (EP X Wx σ Q) X.xe s₂) X.xe s₁) X.xe s
theorem Fw(b:US){op:CmpOp}(h:op≠ .In)(h2:op≠ .NotIn):Vk op b=false:=by
 have e1:(op==CmpOp.In)=false:=by cases op <;> first | rfl | exact absurd rfl h
 have e2:(op==Uq)=false:=by cases op <;> first | rfl | exact absurd rfl h2
 cases b <;> simp [Vk,e1,e2]
def tB(t:TE):TT:=λσ H Q=>t σ H λx H1=>∃c,x= .bl c/\Q c H1
theorem ND{op:CmpOp}{t:TE}(h:PC X op a b t)(h1:Vk op b=false:=by first | exact Fw _ Ce Ce | rfl):PT X (.Compare a [op] [b] pos) (tB t):=by
 intro Wx s σ H Q I hw;refine wpAny_isTrue_Compare1 (ax (h Wx s σ H _ I hw) λv s1 h1=>ax h1 λu s2 h2=>ax h2 λc s3 ⟨x,H1,I1,r1,q1⟩=>?_) h1;obtain⟨d,rfl,q⟩:=q1;cases r1;exact U9 ⟨H1,I1,q⟩
theorem p6{e:US}{t:TE}(h:PE X e t)(he:∀whole,isTrue e X.env whole=(do let v<-whole;standAt e.pos;holding [v] (truthy v)):=by intro _;rfl):PT X e (tB t):=by
 intro Wx s σ H Q I hw;refine isTrue_plain (ax (h Wx s σ H _ I hw) λv s1 ⟨x,H1,I1,r1,q1⟩=>?_) (he _);obtain⟨d,rfl,q⟩:=q1;cases r1;exact U9 ⟨H1,I1,q⟩
variable {tA tB':TT} {rest:List US}
def uV(t u:TT):TT:=λσ H Q=>t σ H λc H1=>if c=true then u σ H1 Q else Q false H1
def uW(t u:TT):TT:=λσ H Q=>t σ H λc H1=>if c=true then Q true H1 else u σ H1 Q
def uX(t:TT):TT:=λσ H Q=>t σ H λc H1=>Q (!c) H1
theorem A0(ha:PT X a tA):PW X (.BoolOp .And [a] pos) tA:=by
 intro wh Wx s σ H Q I h;refine isTrue_and (ax (ha Wx s σ H Q I h) λc s1 e=>?_);cases c with
 | true=>exact isTrue_and_nil e
 | false=>exact e
theorem A1(ha:PT X a tA):PW X (.BoolOp .Or [a] pos) tA:=by
 intro wh Wx s σ H Q I h;refine isTrue_or (ax (ha Wx s σ H Q I h) λc s1 e=>?_);cases c with
 | false=>exact isTrue_or_nil e
 | true=>exact e
theorem A2(ha:PT X a tA)(hb:PW X (.BoolOp .And (b::rest) pos) tB'):PW X (.BoolOp .And (a::b::rest) pos) (uV tA tB'):=by
 intro wh Wx s σ H Q I h;refine isTrue_and (ax (ha Wx s σ H _ I h) λc s1 ⟨H1,I1,q1⟩=>?_);cases c with
 | true=>exact hb wh Wx s1 σ H1 Q I1 q1
 | false=>exact⟨H1,I1,q1⟩
theorem uY(ha:PT X a tA)(hb:PW X (.BoolOp .Or (b::rest) pos) tB'):PW X (.BoolOp .Or (a::b::rest) pos) (uW tA tB'):=by
 intro wh Wx s σ H Q I h;refine isTrue_or (ax (ha Wx s σ H _ I h) λc s1 ⟨H1,I1,q1⟩=>?_);cases c with
 | true=>exact⟨H1,I1,q1⟩
 | false=>exact hb wh Wx s1 σ H1 Q I1 q1
theorem uZ(ha:PT X a tA):PT X (.UnaryOp .Not a pos) (uX tA):=by
 intro Wx s σ H Q I h;exact isTrue_not (ax (ha Wx s σ H (λc H1=>Q (!c) H1) I h) λc s1 uu8=>by obtain⟨H1,I1,q⟩:=uu8;exact⟨H1,I1,q⟩)
def va(ta tb:TE):TE:=λσ H Q=>ta σ H λx H1=>∃c,x= .bl c/\if c=true then tb σ H1 Q else Q (.bl false) H1
def vb(ta tb:TE):TE:=λσ H Q=>ta σ H λx H1=>∃c,x= .bl c/\if c=true then Q (.bl true) H1 else tb σ H1 Q
def vc(ta:TE):TE:=λσ H Q=>ta σ H λx H1=>∃c,x= .bl c/\Q (.bl (!c)) H1
theorem qW{op}{t:TE}(h:PE X a t):PE X (.BoolOp op [a] pos) t:=λWx s σ H Q I hw=>BoolOp_one (h Wx s σ H Q I hw)
theorem qX(ha:PE X a ta)(hb:PE X (.BoolOp .And (b::rest) pos) tb):PE X (.BoolOp .And (a::b::rest) pos) (va ta tb):=by
 intro Wx s σ H Q I h;refine BoolOp_and (ax (ha Wx s σ H _ I h) λv s1 ⟨x,H1,I1,r1,q1⟩=>?_);obtain⟨c,rfl,q1⟩:=q1;cases r1;refine U9 ?_;cases c with
 | true=>exact hb Wx s1 σ H1 Q I1 q1
 | false=>exact⟨.bl false,H1,I1,rfl,q1⟩
theorem Fx(ha:PE X a ta)(hb:PE X (.BoolOp .Or (b::rest) pos) tb):PE X (.BoolOp .Or (a::b::rest) pos) (vb ta tb):=by
 intro Wx s σ H Q I h;refine BoolOp_or (ax (ha Wx s σ H _ I h) λv s1 ⟨x,H1,I1,r1,q1⟩=>?_);obtain⟨c,rfl,q1⟩:=q1;cases r1;refine U9 ?_;cases c with
 | false=>exact hb Wx s1 σ H1 Q I1 q1
 | true=>exact⟨.bl true,H1,I1,rfl,q1⟩
theorem A3(ha:PE X a ta):PE X (.UnaryOp .Not a pos) (vc ta):=by
 intro Wx s σ H Q I h;refine UnaryOp_ (ax (ha Wx s σ H _ I h) λv s1 ⟨x,H1,I1,r1,q1⟩=>?_);obtain⟨c,rfl,q1⟩:=q1;cases r1;exact not_of (U9 ⟨.bl (!c),H1,I1,rfl,q1⟩)
def vd(t:TT)(ta tb:TE):TE:=λσ H Q=>t σ H λc H1=>if c=true then ta σ H1 Q else tb σ H1 Q
theorem Fy{c:US}(hc:PT X c tA)(ha:PE X a ta)(hb:PE X b tb):PE X (.IfExp c a b pos) (vd tA ta tb):=by
 intro Wx s σ H Q I h;refine wpAny_IfExp (ax (hc Wx s σ H _ I h) λd s1 ⟨H1,I1,q1⟩=>?_);cases d with
 | true=>exact ha Wx s1 σ H1 Q I1 q1
 | false=>exact hb Wx s1 σ H1 Q I1 q1
end
def bj(K:NH)(H:Hp)(a:UL)(xs:List V):Prop:=
 Rd H a (.lst xs)\/
  ∃(o:Obj)(its:Array UJ)(n:Nat),K.lookup a=some o/\o.cls= .type "list"/\o.dict=none/\o.data= .seq its n/\its.size<=UR/\aG xs its.toList
def aX(K:NH)(H:Hp)(a:UL)(xs:List V):Prop:=
 Rd H a (.tup xs)\/
  ∃(o:Obj)(its:Array UJ)(n:Nat),K.lookup a=some o/\o.cls= .type "tuple"/\o.data= .seq its n/\its.size<=UR/\aG xs its.toList
def Fz:UJ->Option V
 | .none=>some .non
 | .bool b=>some (.bl b)
 | .int i _=>some (.int i)
 | .str x _=>some (.str x)
 | .bytes b _=>some (.byt b)
 | .float b _=>some (.flt b)
 | .ref a=>some (.ref a)
 | .type n=>some (.ty n)
 | _=>none
theorem aD.abs{x:V}{u:UJ}(r:aD x u):Fz u=some x:=by
 cases x with
 | non=>cases r;rfl
 | bl _=>cases r;rfl
 | int _=>obtain⟨t,rfl⟩:=r;rfl
 | str _=>obtain⟨t,rfl⟩:=r;rfl
 | byt _=>obtain⟨t,rfl⟩:=r;rfl
 | flt _=>obtain⟨t,rfl⟩:=r;rfl
 | ref _=>cases r;rfl
 | ty _=>cases r;rfl
theorem aD.inj{x y:V}{u:UJ}(r:aD x u)(q:aD y u):x=y:=Ph (r.abs.symm.trans q.abs)
theorem aG.inj:∀{xs ys:List V}{us:List UJ},aG xs us->aG ys us->xs=ys
 | _,_,_,.nil,.nil=>rfl
 | _,_,_,.cons r t,.cons r' t'=>by rw [r.inj r',aG.inj t t']
section
variable {X:Cx} {Wx:List (UL×Obj)} {σ:St} {H:Hp} {s:UM} {a:UL} {xs ys:List V}
theorem bj.of{K:NH}(h:H a=some (.lst xs)):bj K H a xs:= .inl (.inl h)
theorem aX.of{K:NH}(h:H a=some (.tup xs)):aX K H a xs:= .inl (.inl h)
theorem ag.list(I:ag X Wx σ H s)(h:bj X.K H a xs):∃its:List UJ,aG xs its/\PlainL s.heap a its.toArray/\xs.length<=UR:=by
 rcases h with h | ⟨o,its,n,hk,hc,hd,hs,hz,r⟩
 ·obtain⟨z,its,n,r,e⟩:=h.ok I.hok;exact⟨its,r,⟨_,n,e,rfl,rfl,rfl⟩,z⟩
 ·refine⟨its.toList,r,⟨o,n,I.kIn a o hk,hc,hd,by simpa using hs⟩,?_⟩;have e:=r.length;simp only [N0] at e;omega
theorem ag.tuple(I:ag X Wx σ H s)(h:aX X.K H a xs):∃its:List UJ,aG xs its/\IsTup s.heap a its.toArray/\xs.length<=UR:=by
 rcases h with h | ⟨o,its,n,hk,hc,hs,hz,r⟩
 ·obtain⟨z,its,r,p⟩:=h.ok I.hok;exact⟨its,r,p,z⟩
 ·refine⟨its.toList,r,⟨o,I.kIn a o hk,hc,n,by simpa using hs⟩,?_⟩;have e:=r.length;simp only [N0] at e;omega
theorem ag.list_inj(I:ag X Wx σ H s)(h:bj X.K H a xs)(h':bj X.K H a ys):xs=ys:=by
 obtain⟨its,r,⟨o,n,e,_,_,d⟩,_⟩:=I.list h;obtain⟨its',r',⟨o',n',e',_,_,d'⟩,_⟩:=I.list h';rw [e] at e';cases e';rw [d] at d';injection d' with d1 _
 have:its=its':=by simpa using congrArg Ug d1
 subst this;exact r.inj r'
theorem ag.tuple_inj(I:ag X Wx σ H s)(h:aX X.K H a xs)(h':aX X.K H a ys):xs=ys:=by
 obtain⟨its,r,⟨o,e,_,n,d⟩,_⟩:=I.tuple h;obtain⟨its',r',⟨o',e',_,n',d'⟩,_⟩:=I.tuple h';rw [e] at e';cases e';rw [d] at d';injection d' with d1 _
 have:its=its':=by simpa using congrArg Ug d1
 subst this;exact r.inj r'
end
abbrev Cx.wish(X:Cx)(E:UJ->UM->Prop):Cx:={X with xe:=E}
abbrev Cx.nox(X:Cx):Cx:=X.wish λ_ _=>False
theorem Cx.Ok.wish{X:Cx}(ok:X.Ok)(E:UJ->UM->Prop):(X.wish E).Ok:=
 ⟨ok.mod,ok.kind,ok.glob,ok.blt,ok.above,ok.inj,ok.has,ok.cab,ok.hd,ok.frames,ok.stk,ok.exf,ok.bs,ok.bsz,ok.noex,ok.exfs,ok.funs,ok.frf⟩
theorem Cx.Ok.unwish{X:Cx}{E:UJ->UM->Prop}(ok:(X.wish E).Ok):X.Ok:=
 ⟨ok.mod,ok.kind,ok.glob,ok.blt,ok.above,ok.inj,ok.has,ok.cab,ok.hd,ok.frames,ok.stk,ok.exf,ok.bs,ok.bsz,ok.noex,ok.exfs,ok.funs,ok.frf⟩
section
variable {X:Cx} {Wx:List (UL×Obj)} {σ:St} {H:Hp} {s:UM} {E:UJ->UM->Prop}
theorem ag.wish(I:ag X Wx σ H s)(E:UJ->UM->Prop):ag (X.wish E) Wx σ H s:=⟨I.ok.wish E,I.os,I.bare,I.base,I.loc,I.cell,I.free,I.freeC,I.pin,I.hok,I.len⟩
theorem ag.unwish(I:ag (X.wish E) Wx σ H s):ag X Wx σ H s:=⟨I.ok.unwish,I.os,I.bare,I.base,I.loc,I.cell,I.free,I.freeC,I.pin,I.hok,I.len⟩
theorem SP.unwish{D:oh}{f:Flow}{s':UM}(h:SP (X.wish E) Wx D f s'):SP X Wx D f s':=by
 cases f with
 | next=>obtain⟨σ',H',I,q⟩:=h;exact⟨σ',H',I.unwish,q⟩
 | brk=>obtain⟨σ',H',I,q⟩:=h;exact⟨σ',H',I.unwish,q⟩
 | cont=>obtain⟨σ',H',I,q⟩:=h;exact⟨σ',H',I.unwish,q⟩
 | ret u=>obtain⟨v,σ',H',I,r,q⟩:=h;exact⟨v,σ',H',I.unwish,r,q⟩
theorem bK.nox{st:List U0}{t:TS}(h:bK X.nox st t):bK X st t:=λWx s σ H D I hw=>
 U6 (h Wx s σ H D (I.wish _) hw) (λ_ _ q=>q.unwish) λ_ _ z=>Px z
end
section
variable {X:Cx} {st:U0} {rest:List U0} {t u:TS} {e:US} {te:TE} {pos:Pos}
def ve:TS:=λD σ H=>D.nx σ H
def sH(t u:TS):TS:=λD σ H=>t {D with nx:=u D} σ H
theorem om:bK X [] ve:=λ_ _ σ H _ I h=>VJ ⟨σ,H,I,h⟩
theorem kF(h1:PS X st t)(h2:bK X rest u):bK X (st::rest) (sH t u):=by
 intro Wx s σ H D I h;refine V5 (ax (h1 Wx s σ H {D with nx:=u D} I h) λf s1 q=>?_);cases f with
 | next=>
  obtain⟨σ',H',I',q⟩:=q;exact h2 Wx s1 σ' H' D I' q
 | ret v=>exact q
 | brk=>exact q
 | cont=>exact q
theorem kh(h1:PS X st t):bK X [st] t:=by
 intro Wx s σ H D I h;refine V5 (ax (h1 Wx s σ H D I h) λf s1 q=>?_);cases f with
 | next=>exact VJ q
 | ret v=>exact q
 | brk=>exact q
 | cont=>exact q
theorem ag.quiet{Wx:List (UL×Obj)}{σ:St}{H:Hp}{s:UM}(I:ag X Wx σ H s):interactive X.env=false:=by simp [interactive,I.ok.kind]
def vf(te:TE):TS:=λD σ H=>te σ H λ_ H1=>D.nx σ H1
theorem FA(he:PE X e te)(hs:Vi e none pos.line X.env=pure false:=by rfl):PS X (.Expr e pos) (vf te):=by
 intro Wx s σ H D I h;exact wpAny_Expr_any (ax (he Wx s σ H _ I h) λv s1 uu13=>by obtain⟨x,H1,I1,r1,q1⟩:=uu13;exact⟨σ,H1,I1,q1⟩) I.quiet hs
def vg(te:TE):TS:=λD σ H=>te σ H D.rt
theorem kG(he:PE X e te):PS X (.Return (some e) pos) (vg te):=by
 intro Wx s σ H D I h;exact wpAny_Return_some (ax (he Wx s σ H _ I h) λv s1 uu14=>by obtain⟨x,H1,I1,r1,q1⟩:=uu14;exact⟨x,σ,H1,I1,r1,q1⟩)
def vh(c:TT)(t u:TS):TS:=λD σ H=>c σ H λb H1=>if b=true then t D σ H1 else u D σ H1
theorem oo{c:US}{a b:List U0}{tc:TT}(hc:PT X c tc)(ha:bK X a t)(hb:bK X b u):PS X (.If c a b pos) (vh tc t u):=by
 intro Wx s σ H D I h;refine wpAny_If (ax (hc Wx s σ H _ I h) λd s1 ⟨H1,I1,q1⟩=>?_);cases d with
 | true=>exact ha Wx s1 σ H1 D I1 q1
 | false=>exact hb Wx s1 σ H1 D I1 q1
end
abbrev TG:=V->St->Hp->(St->Hp->Prop)->Prop
abbrev l6:=List V->St->Hp->(St->Hp->Prop)->Prop
def PG(X:Cx)(target:US)(t:TG):Prop:=
 ∀(Wx:List (UL×Obj))(s:UM)(σ:St)(H:Hp)(v:V)(u:UJ)(Q:St->Hp->Prop),ag X Wx σ H s->aD v u->t v σ H Q->
  UO (UP X.prog X.w) X.A (assign target X.env u) (λ_ s'=>∃σ' H',ag X Wx σ' H' s'/\Q σ' H') X.xe s
def qY(X:Cx)(ts:List US)(t:l6):Prop:=
 ∀(Wx:List (UL×Obj))(s:UM)(σ:St)(H:Hp)(vs:List V)(us:List UJ)(Q:St->Hp->Prop),ag X Wx σ H s->aG vs us->t vs σ H Q->
  UO (UP X.prog X.w) X.A (assignInOrder ((Vz ts X.env).map (·.2)) us) (λ_ s'=>∃σ' H',ag X Wx σ' H' s'/\Q σ' H') X.xe s
abbrev vi:=V->V->V->Hp->(Hp->Prop)->Prop
def A4(X:Cx)(t:vi):Prop:=
 ∀(Wx:List (UL×Obj))(s:UM)(σ:St)(H:Hp)(o i v:V)(ov iv u:UJ)(Q:Hp->Prop),ag X Wx σ H s->aD o ov->aD i iv->aD v u->t o i v H Q->
  UO (UP X.prog X.w) X.A (setItem ov iv u) (λ_ s'=>∃H',ag X Wx σ H' s'/\Q H') X.xe s
section
variable {X:Cx} {pos:Pos}
def nK(i:Nat):TG:=λv σ H Q=>Q (σ.set i (some v)) H
theorem jU{i:Nat}{x:Str}(hN:X.N.Nodup)(hi:X.N[i]?=some x)(hx:oT X.env.scope x)(hf:X.fn x=true\/X.env.scope.names.lookup x=some .local:=by first | exact .inl rfl | exact .inr rfl | assumption):PG X (.Name x pos) (nK i):=by
 intro Wx s σ H v u Q I r h;exact wpAny_assign_Name (oU I hN hi hx r (λs' I'=>⟨_,H,I',h⟩) hf)
def qZ:l6:=λvs σ H Q=>vs=[]/\Q σ H
def p7(t:TG)(u:l6):l6:=λvs σ H Q=>∃v r,vs=v::r/\t v σ H λσ' H'=>u r σ' H' Q
theorem sI:qY X [] qZ:=by
 intro Wx s σ H vs us Q I r h;obtain⟨e,h⟩:=h;subst e;cases r;exact assignInOrder_nil ⟨σ,H,I,h⟩
theorem nL{e:US}{es:List US}{t:TG}{u:l6}(h1:PG X e t)(h2:qY X es u)
 (hs:(Vz (e::es) X.env).map (·.2)=assign e X.env::(Vz es X.env).map (·.2):=by rfl):qY X (e::es) (p7 t u):=by
 intro Wx s σ H vs us Q I r h;obtain⟨v,vr,e1,h⟩:=h;subst e1;cases r with
 | cons r rr=>
  rw [hs];refine Wk (ax (h1 Wx s σ H _ _ _ I r h) λ_ s1 ⟨σ1,H1,I1,q1⟩=>?_);exact h2 Wx s1 σ1 H1 _ _ Q I1 rr q1
def rg(K:NH)(n:Nat)(t:l6):TG:=λv σ H Q=>∃a xs,v= .ref a/\aX K H a xs/\xs.length=n/\t xs σ H Q
theorem vj{es:List US}{k:Nat}{t:l6}{n:Nat}(hc:X.calm=true)(h:qY X es t)
 (hn:(Vz es X.env).length=n:=by rfl)(hst:(Vz es X.env).findIdx? (·.1)=none:=by rfl):PG X (.Tuple es k pos) (rg X.K n t):=by
 intro Wx s σ H v u Q I r hw;obtain⟨a,xs,e1,hq,hl,hw⟩:=hw;subst e1;cases r;obtain⟨its,rv,ht,hz⟩:=I.tuple hq;refine assign_Tuple_tuple (I.ok.hd hc) ht (by simp [hn,<-hl,rv.length]) hst λh' hx=>?_;have I1:ag X Wx σ H {s with heap:=h'}:=I.kept (t':=s.toks) λb o e=>hx b o (OJ (NW e)) e;exact h Wx _ σ H xs _ Q I1 (by simpa using rv) hw
def vm(to ti:TE)(t:vi):TG:=λv σ H Q=>to σ H λo H1=>ti σ H1 λi H2=>t o i v H2 λH3=>Q σ H3
theorem FC{o i:US}{to ti:TE}{t:vi}(ho:PE X o to)(hi:PE X i ti)(hs:A4 X t)
 (ha:∀v,assign (.Subscript o i pos) X.env v=(do
   let ov<-holding [v] (eval o X.env)
   let iv<-holding [v,ov] (eval i X.env)
   standAt pos
   holding [v,ov,iv] (setItem ov iv v)
   release [v,ov,iv] []):=by intro _;rfl):PG X (.Subscript o i pos) (vm to ti t):=by
 intro Wx s σ H v u Q I r h;rw [ha];refine UK (Vc (ax (ho Wx s σ H _ I h) λov s1 ⟨x,H1,I1,r1,q1⟩=>?_));refine UK (Vc (ax (hi Wx s1 σ H1 _ I1 q1) λiv s2 ⟨y,H2,I2,r2,q2⟩=>?_));refine UK (VQ (UK (Vc (ax (hs Wx s2 σ H2 x y v ov iv u _ I2 r1 r2 r q2) λ_ s3 ⟨H3,I3,q3⟩=>?_))));exact wpAny_release ⟨σ,H3,I3,q3⟩
def sJ(te:TE)(g:TG):TS:=λD σ H=>te σ H λx H1=>g x σ H1 D.nx
theorem A5{tg e:US}{te:TE}{g:TG}(he:PE X e te)(hg:PG X tg g)(hs:Wq [tg] e pos.line X.env=pure false:=by rfl)(hw:Wr [tg] e X.env=pure none:=by rfl)
 (h1:(Vz [tg] X.env).map (·.2)=[assign tg X.env]:=by rfl):PS X (.Assign [tg] e pos) (sJ te g):=by
 intro Wx s σ H D I h;refine wpAny_Assign_stores (ax (he Wx s σ H _ I h) λv s1 ⟨x,H1,I1,r1,q1⟩=>?_) hs hw;rw [h1];exact ax (hg Wx s1 σ H1 x v _ I1 r1 q1) λ_ s2 q=>q
theorem l7{i:Nat}{x:Str}{e:US}{te:TE}{pos':Pos}(hN:X.N.Nodup)(hi:X.N[i]?=some x)(hx:oT X.env.scope x)(he:PE X e te)(hs:Vi e (some (.Name x pos')) pos.line X.env=pure false:=by rfl)(hf:X.fn x=true\/X.env.scope.names.lookup x=some .local:=by first | exact .inl rfl | exact .inr rfl | assumption):
 PS X (.Assign [.Name x pos'] e pos) (sJ te (nK i)):=by
 intro Wx s σ H D I h;refine wpAny_Assign_Name (ax (he Wx s σ H _ I h) λv s1 ⟨y,H1,I1,r1,q1⟩=>?_) hs;exact oU I1 hN hi hx r1 (λs2 I2=>⟨_,H1,I2,q1⟩) hf
def vn(i j:Nat)(ta:TA):TS:=λD σ H=>ta σ H λvs H1=>∃v w,vs=[v,w]/\D.nx ((σ.set i (some v)).set j (some w)) H1
theorem FD{i j:Nat}{x y:Str}{a b:US}{ta:TA}{px py pt:Pos}{kt k2 pt2}(hc:X.calm=true)(hN:X.N.Nodup)(hi:X.N[i]?=some x)(hj:X.N[j]?=some y)(hij:i≠j)
 (hx:X.env.scope.names.lookup x=some .local)(hy:X.env.scope.names.lookup y=some .local)(ha:PA X [a,b] ta)
 (hw:Wr [.Tuple [.Name x px,.Name y py] kt pt] (.Tuple [a,b] k2 pt2) X.env=pure (some [x,y]))
 (hs:Wq [.Tuple [.Name x px,.Name y py] kt pt] (.Tuple [a,b] k2 pt2) pos.line X.env=pure false:=by rfl):
 PS X (.Assign [.Tuple [.Name x px,.Name y py] kt pt] (.Tuple [a,b] k2 pt2) pos) (vn i j ta):=by
 intro Wx s σ H D I h;rw [exec_Assign_arm];refine UK (VQ ?_);rw [hs];refine UK (UN ?_);rw [UD Ce];refine UK (Tuple_ (ax (ha _ Wx s σ H _ I h) λus s1 ⟨vs,H1,I1,r1,q1⟩=>?_));obtain⟨v,w,e1,q1⟩:=q1;subst e1;obtain⟨u1,u2,rfl,rv,rw'⟩:∃u1 u2,us=[u1,u2]/\aD v u1/\aD w u2:=by
  cases r1 with
  | cons p q=>
   cases q with
   | cons p' q'=>
    cases q';exact⟨_,_,rfl,p,p'⟩
 refine U3 ?_ (by show 2<=UR;decide);have I2:ag X Wx σ H1 {s1 with heap:=s1.heap.push {cls:= .type "tuple",data:= .seq [u1,u2].toArray}}:=I1.kept (t':=s1.toks) λb o e=>NK _ e;rw [hw];refine UK (UN ?_);show UO (UP X.prog X.w) X.A (do rule "assign.swapped-stores";let items<-unpackItems (.ref s1.heap.objs.size) 2 none;assignInOrder [λv=>bindName X.env y v,λv=>bindName X.env x v] items.reverse;pure Uz) _ _ _;refine UK (VO (UK (unpackItems_tuple (items:=#[u1,u2]) (I.ok.hd hc) (Ta s1.heap _) λh' hx'=>?_)));have I3:=I2.kept (h':=h') (t':=s1.toks) λb o e=>hx' b o (OJ (NW e)) e;show UO _ _ (assignInOrder [λv=>bindName X.env y v,λv=>bindName X.env x v] [u2,u1] >>=λ_=>pure Uz) _ _ _;refine UK (Wk (wpAny_bindName (oU I3 hN hj (.inl hy) rw' (λs2 I4=>?_) (.inr hy))));refine Wk (wpAny_bindName (oU I4 hN hi (.inl hx) rv (λs3 I5=>assignInOrder_nil (UN ?_)) (.inr hx)));rw [List.set_comm _ _ (Ne.symm hij)] at I5;exact⟨_,H1,I5,q1⟩
def FF(c:TT)(tb:TS):TS:=λD σ H=>∃W:Nat->St->Hp->Prop,(∃m,W m σ H)/\∀m σ H,W m σ H->
 c σ H λb H1=>if b=true then ∃N:St->Hp->Prop,(∀σ' H',N σ' H'->∃m',m' < m/\W m' σ' H')/\tb {D with nx:=N,ct:=N,bk:=D.nx} σ H1 else D.nx σ H1
theorem A6{c:US}{body:List U0}{tc:TT}{tb:TS}(hp:PassesOwn (UP X.prog X.w) X.A X.env X.xe)(hc:PT X c tc)(hb:bK X body tb):PS X (.While c body [] pos) (FF tc tb):=by
 intro Wx s σ H D I h;obtain⟨W,⟨m0,w0⟩,turn⟩:=h;refine wpAny_While (codeAny_whileLoop (λn s'=>∃σ' H',ag X Wx σ' H' s'/\W n σ' H') ?_ m0 ⟨σ,H,I,w0⟩);rintro n s1 ⟨σ1,H1,I1,w1⟩;refine Vu hp (ax (hc Wx s1 σ1 H1 _ I1 (turn n σ1 H1 w1)) λb s2 ⟨H2,I2,q2⟩=>?_);cases b with
 | true=>
  obtain⟨N,hN,q2⟩:=q2;rw [UE rfl];refine Vu hp (ax (hb Wx s2 σ1 H2 _ I2 q2) λf s3 q3=>?_);cases f with
  | next=>
   obtain⟨σ3,H3,I3,n3⟩:=q3;obtain⟨m',hm,w3⟩:=hN σ3 H3 n3;exact⟨m',hm,σ3,H3,I3,w3⟩
  | cont=>
   obtain⟨σ3,H3,I3,n3⟩:=q3;obtain⟨m',hm,w3⟩:=hN σ3 H3 n3;exact⟨m',hm,σ3,H3,I3,w3⟩
  | brk=>exact q3
  | ret v=>exact q3
 | false=>
  rw [UD Ou];exact VJ ⟨σ1,H2,I2,q2⟩
end
structure It where
 go:Nat->Hp->Prop
 yld:Nat->Hp->V->Hp->Prop
 stop:Nat->Hp->Prop
def ml(X:Cx)(Wx:List (UL×Obj))(H:Hp)(b:UL):Prop:=
 H b=none/\b≠X.env.locals/\b ∉ X.fs/\(b∈X.ex\/X.s₀.heap.objs.size<=b)/\(∀x c,X.env.cells.lookup x=some c->c≠b)/\∀p∈X.pn++Wx,p.1≠b
theorem ag.fpOk{X:Cx}{Wx:List (UL×Obj)}{σ:St}{H H':Hp}{s:UM}{b:UL}(I:ag X Wx σ H s)(hb:s.heap.objs.size<=b)(hn:H' b=none):ml X Wx H' b:=by
 refine⟨hn,QZ (OX I.lt hb),I.nofs hb,.inr (OB I.sz hb),λx c e z=>?_,λp hp z=>?_⟩
 ·obtain⟨v,q⟩:=I.cell x c e;exact absurd (OX q.lt (by rw [z];exact hb)) (Qq _)
 ·exact absurd (OX (NW (I.pin p hp).1) (by rw [z];exact hb)) (Qq _)
structure p9 (P:UX) (w:UZ) (K:NH) (tg:US) (J:It) (fp:List UL) (it:UL) (tn:Nat->UW->Prop):Prop where
 mem:it∈fp
 obj:∀i h,tn i h->∀b∈fp,∃o,h.get? b=some o/\∀v,o.data≠ .cell v
 keep:∀i h h',tn i h->(∀b∈fp,∀o,h.get? b=some o->h'.get? b=some o)->tn i h'
 item:∀(X:Cx),X.prog=P->X.w=w->X.K=K->X.calm=true->∀(i:Nat)(Wx:List (UL×Obj))(s:UM)(σ:St)(H:Hp)(E:UJ->UM->Prop),ag X Wx σ H s->(∀b∈fp,ml X Wx H b)->tn i s.heap->J.go i H->
  UO (UP P w) X.A (Vx (.ref it)) (λr s1=>∃u,r=some u/\
   UO (UP P w) X.A (Wc tg (.ref it) u) (λ_ s2=>∃x H',ag X Wx σ H' s2/\aD x u/\J.yld i H x H'/\tn (i+1) s2.heap/\∀b∈fp,H' b=none) E s1) E s
 done:∀(X:Cx),X.prog=P->X.w=w->X.K=K->X.calm=true->∀(i:Nat)(Wx:List (UL×Obj))(s:UM)(σ:St)(H:Hp)(E:UJ->UM->Prop),ag X Wx σ H s->(∀b∈fp,ml X Wx H b)->tn i s.heap->J.stop i H->
  UO (UP P w) X.A (Vx (.ref it)) (λr s1=>r=none/\ag X Wx σ H s1) E s
 self:∀(A:U1)(i:Nat)(s:UM)(Q:UJ->UM->Prop)(E:UJ->UM->Prop),tn i s.heap->Q (.ref it) s->UO (UP P w) A (pyIter (.ref it)) Q E s
abbrev TI:=St->Hp->(It->Hp->Prop)->Prop
def A7(X:Cx)(Wx:List (UL×Obj))(σ:St)(tg:US)(R:It->Hp->Prop)(itv:UJ)(s2:UM):Prop:=
 ∃(it:UL)(fp:List UL)(tn:Nat->UW->Prop)(J:It)(H':Hp),itv= .ref it/\ag X Wx σ H' s2/\p9 X.prog X.w X.K tg J fp it tn/\tn 0 s2.heap/\(∀b∈fp,ml X Wx H' b)/\R J H'
def PI(X:Cx)(tg iter:US)(wi:TI):Prop:=
 ∀(Wx:List (UL×Obj))(s:UM)(σ:St)(H:Hp)(R:It->Hp->Prop),ag X Wx σ H s->wi σ H R->
  UO (UP X.prog X.w) X.A (eval iter X.env) (λv s1=>UO (UP X.prog X.w) X.A (pyIter v) (A7 X Wx σ tg R) X.xe s1) X.xe s
theorem sL{M:VY}{A:U1}{E:UJ->UM->Prop}{s:UM}{tg:US}{it:UL}{u:UJ}{o:Obj}{n:String}{vs:Array UJ}{Q:Unit->UM->Prop}(ho:s.heap.get? it=some o)(hc:o.cls= .type n)(hd:o.data= .fields vs)
 (hn:["enumerate","zip","dict_itemiterator","dict_reverseitemiterator","odict_iterator","itertools.zip_longest","itertools.pairwise"].contains n=false)(hQ:Q () s):UO M A (Wc tg (.ref it) u) Q E s:=by
 unfold Wc;cases tg <;> first
  | exact UN hQ
  | (cases u <;> first
      | exact UN hQ
      | (refine UK (wpAny_load ho ?_)
         rw [hc,hd];show UO M A (if (["enumerate","zip","dict_itemiterator","dict_reverseitemiterator","odict_iterator","itertools.zip_longest","itertools.pairwise"].contains n && vs[0]?==some (Vn _))=true then _ else _) Q E s;rw [UD (by intro h;rw [hn,Bool.false_and] at h;cases h)];exact UN hQ))
def rh(K:NH)(a:UL):It:=
 ⟨λi H=>∃xs x,bj K H a xs/\xs[i]?=some x,λi H x H'=>H'=H/\∀xs,bj K H a xs->xs[i]?=some x,λi H=>∃xs,bj K H a xs/\xs.length<=i⟩
def rj(K:NH)(a:UL):It:=
 ⟨λi H=>∃xs x,aX K H a xs/\xs[i]?=some x,λi H x H'=>H'=H/\∀xs,aX K H a xs->xs[i]?=some x,λi H=>∃xs,aX K H a xs/\xs.length<=i⟩
def mR(lo:Int)(n:Nat):It:=⟨λi _=>i < n,λi H x H'=>H'=H/\x= .int (lo+i),λi _=>n<=i⟩
theorem FG{P:UX}{w:UZ}{K:NH}{tg:US}(a it:UL):p9 P w K tg (rh K a) [it] it (λi h=>h.IsListIter it a i) where
 mem:=UH
 obj:=λi h st b hb=>by
  have e:b=it:=by simpa using hb
  subst e;obtain⟨o,e,c,d⟩:=st;exact⟨o,e,λv z=>by rw [d] at z;cases z⟩
 keep:=λi h h' st k=>st.at λo e=>k it UH o e
 item:=by
  intro X hP hw hK hc i Wx s σ H E I hf st hg;subst hP hw hK;obtain⟨xs,x,hq,hx⟩:=hg;obtain⟨its,rv,p,hz⟩:=I.list hq;obtain⟨u,hu,ru⟩:=rv.get hx;obtain⟨f0,f1,f2,f3,f4,f5⟩:=hf it UH;refine wpAny_pyNext_list_item st p.isList (x:=u) (by simpa using hu) λh' st' sb=>?_;have I1:ag X Wx σ H {s with heap:=h'}:=I.turned (t':=s.toks) (λb o hb e=>(sb.2 b hb).trans e) f0 f1 f3 f4 f5;obtain⟨o,e,c,d⟩:=id st';exact⟨u,rfl,sL (s:={s with heap:=h'}) e c d Ce ⟨x,H,I1,ru,⟨rfl,λys hy=>by rw [I.list_inj hy hq];exact hx⟩,st',λb hb=>(hf b hb).1⟩⟩
 done:=by
  intro X hP hw hK hc i Wx s σ H E I hf st hg;subst hP hw hK;obtain⟨xs,hq,hx⟩:=hg;obtain⟨its,rv,p,hz⟩:=I.list hq;obtain⟨f0,f1,f2,f3,f4,f5⟩:=hf it UH;have hl:=rv.length;exact wpAny_pyNext_list_end (I.ok.hd hc) st p.isList (by simp;omega) λh' eb=>⟨rfl,I.turned (t':=s.toks) (λb o hb e=>eb b o hb e) f0 f1 f3 f4 f5⟩
 self:=λ_ _ _ _ _ st h=>wpAny_pyIter_listiter st h
theorem FH{P:UX}{w:UZ}{K:NH}{tg:US}(a it:UL):p9 P w K tg (rj K a) [it] it (λi h=>h.IsTupleIter it a i) where
 mem:=UH
 obj:=λi h st b hb=>by
  have e:b=it:=by simpa using hb
  subst e;obtain⟨o,e,c,d⟩:=st;exact⟨o,e,λv z=>by rw [d] at z;cases z⟩
 keep:=λi h h' st k=>st.at λo e=>k it UH o e
 item:=by
  intro X hP hw hK hc i Wx s σ H E I hf st hg;subst hP hw hK;obtain⟨xs,x,hq,hx⟩:=hg;obtain⟨its,rv,p,hz⟩:=I.tuple hq;obtain⟨u,hu,ru⟩:=rv.get hx;obtain⟨f0,f1,f2,f3,f4,f5⟩:=hf it UH;refine wpAny_pyNext_tuple_item st (show s.heap.IsTuple a its.toArray from p) (x:=u) (by simpa using hu) λh' st' sb=>?_;have I1:ag X Wx σ H {s with heap:=h'}:=I.turned (t':=s.toks) (λb o hb e=>(sb.2 b hb).trans e) f0 f1 f3 f4 f5;obtain⟨o,e,c,d⟩:=id st';exact⟨u,rfl,sL (s:={s with heap:=h'}) e c d Ce ⟨x,H,I1,ru,⟨rfl,λys hy=>by rw [I.tuple_inj hy hq];exact hx⟩,st',λb hb=>(hf b hb).1⟩⟩
 done:=by
  intro X hP hw hK hc i Wx s σ H E I hf st hg;subst hP hw hK;obtain⟨xs,hq,hx⟩:=hg;obtain⟨its,rv,p,hz⟩:=I.tuple hq;obtain⟨f0,f1,f2,f3,f4,f5⟩:=hf it UH;have hl:=rv.length;exact wpAny_pyNext_tuple_end (I.ok.hd hc) st (show s.heap.IsTuple a its.toArray from p) (by simp;omega) λh' eb=>⟨rfl,I.turned (t':=s.toks) (λb o hb e=>eb b o hb e) f0 f1 f3 f4 f5⟩
 self:=λ_ _ _ _ _ st h=>wpAny_pyIter_tupleiter st h
theorem FI{P:UX}{w:UZ}{K:NH}{tg:US}(it:UL)(lo:Int)(n:Nat):p9 P w K tg (mR lo n) [it] it (λi h=>IsRangeIter h it (lo+(i:Nat)*1) ((n:Int) - (i:Nat)) 1) where
 mem:=UH
 obj:=λi h st b hb=>by
  have e:b=it:=by simpa using hb
  subst e;exact⟨_,st,λv z=>by
   have z':Data.fields _=Data.cell v:=z;cases z'⟩
 keep:=λi h h' st k=>k it UH _ st
 item:=by
  intro X hP hw hK hc i Wx s σ H E I hf st hg;subst hP hw hK;obtain⟨f0,f1,f2,f3,f4,f5⟩:=hf it UH;have W:=Walks.range (prog:=X.prog) (w:=X.w) (I.ok.hd hc) it lo 1 n;refine W.item i s _ _ hg st λv h' tk hv st' kk=>?_;obtain⟨t,rfl⟩:=hv;have I1:ag X Wx σ H {s with heap:=h',toks:=tk}:=I.turned (λb o hb e=>kk b o (by simpa using hb) e) f0 f1 f3 f4 f5;refine⟨_,rfl,sL (s:={s with heap:=h',toks:=tk}) (n:="range_iterator") st' rfl rfl Ce ⟨.int (lo+i),H,I1,⟨t,?_⟩,⟨rfl,rfl⟩,st',λb hb=>(hf b hb).1⟩⟩;rw [Int.mul_one]
 done:=by
  intro X hP hw hK hc i Wx s σ H E I hf st hg;subst hP hw hK;obtain⟨f0,f1,f2,f3,f4,f5⟩:=hf it UH;exact wpAny_pyNext_range_end (I.ok.hd hc) st (by have:n<=i:=hg;omega) λh' eb=>⟨rfl,I.turned (t':=s.toks) (λb o hb e=>eb b o hb e) f0 f1 f3 f4 f5⟩
 self:=λ_ _ _ _ _ st h=>wpAny_pyIter_rangeiter st h
section
variable {X:Cx} {tg:US}
def vo(K:NH)(tl:TE):TI:=λσ H R=>tl σ H λx H1=>∃a,x= .ref a/\(∃xs,bj K H1 a xs)/\R (rh K a) H1
def vp(K:NH)(tl:TE):TI:=λσ H R=>tl σ H λx H1=>∃a,x= .ref a/\(∃xs,aX K H1 a xs)/\R (rj K a) H1
theorem A8{l:US}{tl:TE}(hl:PE X l tl):PI X tg l (vo X.K tl):=by
 intro Wx s σ H R I h;refine ax (hl Wx s σ H _ I h) λv s1 ⟨x,H1,I1,r1,q1⟩=>?_;obtain⟨a,e,⟨xs,hq⟩,q⟩:=q1;subst e;cases r1;obtain⟨its,rv,p,hz⟩:=I1.list hq;refine Wt p.isList ?_;refine⟨s1.heap.objs.size,[s1.heap.objs.size],_,_,H1,rfl,I1.kept (t':=s1.toks) λb o e=>NK _ e,FG a _,⟨_,N7 _ rfl,rfl,rfl⟩,λb hb=>?_,q⟩;have e:b=s1.heap.objs.size:=by simpa using hb
 subst e;exact I1.fpOk (NV _) (I1.hok.fresh (NV _))
theorem FJ{l:US}{tl:TE}(hl:PE X l tl):PI X tg l (vp X.K tl):=by
 intro Wx s σ H R I h;refine ax (hl Wx s σ H _ I h) λv s1 ⟨x,H1,I1,r1,q1⟩=>?_;obtain⟨a,e,⟨xs,hq⟩,q⟩:=q1;subst e;cases r1;obtain⟨its,rv,p,hz⟩:=I1.tuple hq;refine Wl (show s1.heap.IsTuple a its.toArray from p) ?_;refine⟨s1.heap.objs.size,[s1.heap.objs.size],_,_,H1,rfl,I1.kept (t':=s1.toks) λb o e=>NK _ e,FH a _,⟨_,N7 _ rfl,rfl,rfl⟩,λb hb=>?_,q⟩;have e:b=s1.heap.objs.size:=by simpa using hb
 subst e;exact I1.fpOk (NV _) (I1.hok.fresh (NV _))
theorem A9{Wx:List (UL×Obj)}{σ:St}{H:Hp}{s:UM}{R:It->Hp->Prop}{E:UJ->UM->Prop}{lo hi:Int}{t u v:Tok}{tk:Nat}(I:ag X Wx σ H s)(h1:-(2 ^ 62)<=lo)(h2:lo < 2 ^ 62)(h3:-(2 ^ 62)<=hi)(h4:hi < 2 ^ 62)
 (q:R (mR lo (hi - lo).toNat) H):UO (UP X.prog X.w) X.A (pyIter (.ref s.heap.objs.size)) (A7 X Wx σ tg R) E {s with heap:=s.heap.push {cls:= .type "range",data:= .fields #[.int lo t,.int hi u,.int 1 v]},toks:=tk}:=by
 refine wpAny_pyIter_range (IsRange.new ..) (small_one h1 h2 h3 h4) ?_;have I1:ag X Wx σ H {s with heap:=s.heap.push {cls:= .type "range",data:= .fields #[.int lo t,.int hi u,.int 1 v]},toks:=tk}:=I.kept λb o e=>NK _ e;refine⟨(s.heap.push {cls:= .type "range",data:= .fields #[.int lo t,.int hi u,.int 1 v]}).objs.size,[(s.heap.push {cls:= .type "range",data:= .fields #[.int lo t,.int hi u,.int 1 v]}).objs.size],_,_,H,rfl,
  I1.kept (t':=tk) λb o e=>NK _ e,FI _ lo (hi - lo).toNat,?_,λb hb=>?_,q⟩
 ·have e1:lo+((0:Nat):Int)*1=lo:=UH
  have e2:(((hi - lo).toNat:Nat):Int) - ((0:Nat):Int)=Builtin.Range.rangeSize lo hi 1:=by rw [rangeSize_one];split <;> omega
  show IsRangeIter _ _ (lo+((0:Nat):Int)*1) ((((hi - lo).toNat:Nat):Int) - ((0:Nat):Int)) 1;rw [e1,e2];exact N7 _ rfl
 ·have e:b=(s.heap.push {cls:= .type "range",data:= .fields #[.int lo t,.int hi u,.int 1 v]}).objs.size:=by simpa using hb
  subst e;exact I1.fpOk (NV _) (I1.hok.fresh (NV _))
def vq(ta:TA):TI:=λσ H R=>ta σ H λvs H1=>∃j:Int,vs=[.int j]/\-(2 ^ 62)<=j/\j < 2 ^ 62/\R (mR 0 j.toNat) H1
def vt(ta:TA):TI:=λσ H R=>ta σ H λvs H1=>∃i j:Int,vs=[.int i,.int j]/\(-(2 ^ 62)<=i/\i < 2 ^ 62/\-(2 ^ 62)<=j/\j < 2 ^ 62)/\R (mR i (j - i).toNat) H1
theorem Ba{a:US}{ta:TA}{p pos:Pos}(hg:Gl X "range")(hm:X.mg "range"=none)(ha:PA X [a] ta)(hs:UQ [a] X.env=[(false,eval a X.env)]:=by rfl):PI X tg (.Call (.Name "range" p) [a] [] pos) (vq ta):=by
 intro Wx s σ H R I h;refine Call_ (p5 I hg hm boot_range (Qw (ax (ha pos Wx s σ H _ I h) λus s1 ⟨vs,H1,I1,r1,q1⟩=>?_) hs rfl));obtain⟨j,e,q1,q2,q⟩:=q1;subst e;cases r1 with
 | cons r rr=>
  cases rr;obtain⟨t,rfl⟩:=r;exact call_range_1 (A9 I1 UC UC q1 q2 (by simpa using q))
theorem Bb{a b:US}{ta:TA}{p pos:Pos}(hg:Gl X "range")(hm:X.mg "range"=none)(ha:PA X [a,b] ta)(hs:UQ [a,b] X.env=[(false,eval a X.env),(false,eval b X.env)]:=by rfl)(hs2:UQ [b] X.env=[(false,eval b X.env)]:=by rfl):
 PI X tg (.Call (.Name "range" p) [a,b] [] pos) (vt ta):=by
 intro Wx s σ H R I h;refine Call_ (p5 I hg hm boot_range (Qw (ax (ha pos Wx s σ H _ I h) λus s1 ⟨vs,H1,I1,r1,q1⟩=>?_) (by rw [hs,hs2]) (by rw [hs2];rfl)));obtain⟨i,j,e,⟨q1,q2,q3,q4⟩,q⟩:=q1;subst e;cases r1 with
 | cons r rr=>
  cases rr with
  | cons r' rr=>
   cases rr;obtain⟨t,rfl⟩:=r;obtain⟨t',rfl⟩:=r';exact call_range_2 (A9 I1 q1 q2 q3 q4 q)
def rk(wi:TI)(g:TG)(tb:TS):TS:=λD σ H=>wi σ H λJ H1=>∃W:Nat->Nat->St->Hp->Prop,(∃m,W 0 m σ H1)/\∀i m σ H,W i m σ H->
 (J.stop i H/\D.nx σ H)\/(J.go i H/\∃N:St->Hp->Prop,(∀σ' H',N σ' H'->∃m',m' < m/\W (i+1) m' σ' H')/\∀x H',J.yld i H x H'->g x σ H' λσ2 H2=>tb {D with nx:=N,ct:=N,bk:=D.nx} σ2 H2)
def rn(fp:List UL)(h:UW):List (UL×Obj):=fp.filterMap λb=>(h.get? b).map λo=>(b,o)
theorem sM{fp:List UL}{h:UW}{b:UL}{o:Obj}(hb:b∈fp)(e:h.get? b=some o):(b,o)∈rn fp h:=RR.mpr ⟨b,hb,by rw [e];rfl⟩
theorem FK{fp:List UL}{h:UW}{p:UL×Obj}(hp:p∈rn fp h):p.1∈fp/\h.get? p.1=some p.2:=by
 obtain⟨b,hb,e⟩:=RR.mp hp;cases q:h.get? b with
 | none=>rw [q] at e;cases e
 | some o=>
  rw [q] at e;have e':(b,o)=p:=Ph e;subst e';exact⟨hb,q⟩
theorem ag.pinned{Wx:List (UL×Obj)}{σ:St}{H:Hp}{s:UM}{fp:List UL}(I:ag X Wx σ H s)(hf:∀b∈fp,ml X Wx H b)(ho:∀b∈fp,∃o,s.heap.get? b=some o/\∀v,o.data≠ .cell v):ag X (Wx++rn fp s.heap) σ H s:=
 I.pins_of λp hp=>(P5.mp hp).elim (λz=>I.pin p (Pr _ z)) λz=>by
  obtain⟨hb,e⟩:=FK z;obtain⟨f0,f1,f2,_⟩:=hf p.1 hb;obtain⟨o,e',d⟩:=ho p.1 hb;rw [e] at e';cases e';exact⟨e,f0,f1,f2,d⟩
theorem ag.unpinned{Wx pl:List (UL×Obj)}{σ:St}{H:Hp}{s:UM}(I:ag X (Wx++pl) σ H s):ag X Wx σ H s:=I.pins_of λp hp=>I.pin p (Pr _ (SR _ hp))
theorem Bc{iter:US}{body:List U0}{wi:TI}{g:TG}{tb:TS}{pos:Pos}(hp:PassesOwn (UP X.prog X.w) X.A X.env X.xe)(hc:X.calm=true)(hi:PI X tg iter wi)(hg:PG X tg g)(hb:bK X body tb)
 (hs:∀x,Va iter X.env x=pure x:=by intro _;rfl):PS X (.For tg iter body [] pos) (rk wi g tb):=by
 intro Wx s σ H D I h;refine wpAny_For (ax (hi Wx s σ H _ I h) λv s1 h1=>ax h1 λitv s2 h2=>?_) hs;obtain⟨it,fp,tn,J,H2,e,I2,T,st2,f2,W,⟨m0,w0⟩,turn⟩:=h2;subst e;have stat:∀{H':Hp},(∀b∈fp,H' b=none)->∀b∈fp,ml X Wx H' b:=λhn b hb=>⟨hn b hb,(f2 b hb).2⟩;refine codeAny_forLoop_any (λn s'=>∃i σ' H',ag X Wx σ' H' s'/\tn i s'.heap/\(∀b∈fp,H' b=none)/\W i n σ' H') ?_ m0 ⟨0,σ,H2,I2,st2,λb hb=>(f2 b hb).1,w0⟩;rintro n s3 ⟨i,σ3,H3,I3,st3,fr3,w3⟩;rcases turn i n σ3 H3 w3 with⟨stop,qn⟩ | ⟨go,N,hN,step⟩
 ·refine Vu hp (ax (T.done X rfl rfl rfl hc i Wx s3 σ3 H3 X.xe I3 (stat fr3) st3 stop) λr s4 ⟨hr,I4⟩=>?_);subst hr;exact VJ ⟨σ3,H3,I4,qn⟩
 ·refine Vu hp (ax (T.item X rfl rfl rfl hc i Wx s3 σ3 H3 X.xe I3 (stat fr3) st3 go) λr s4 ⟨u,hr,h4⟩=>?_);subst hr;refine Vu hp (ax h4 λ_ s5 ⟨x,H5,I5,r5,y5,st5,fr5⟩=>?_);have I5':=I5.pinned (stat fr5) (T.obj _ _ st5);refine Vu hp (ax (hg _ s5 σ3 H5 x u _ I5' r5 (step x H5 y5)) λ_ s6 ⟨σ6,H6,I6,q6⟩=>?_);refine Vu hp (ax (hb _ s6 σ6 H6 _ I6 q6) λf s7 q7=>?_);have again:∀{σ7:St}{H7:Hp},ag X (Wx++rn fp s5.heap) σ7 H7 s7->N σ7 H7->∃m,m < n/\∃i σ' H',ag X Wx σ' H' s7/\tn i s7.heap/\(∀b∈fp,H' b=none)/\W i m σ' H':=λ{σ7 H7} I7 n7=>by
   obtain⟨m',hm,w7⟩:=hN σ7 H7 n7;refine⟨m',hm,i+1,σ7,H7,I7.unpinned,T.keep _ _ _ st5 λb hb o e=>(I7.pin (b,o) (Pr _ (Pr _ (sM hb e)))).1,λb hb=>?_,w7⟩;obtain⟨o,e,d⟩:=T.obj _ _ st5 b hb;exact(I7.pin (b,o) (Pr _ (Pr _ (sM hb e)))).2.1
  cases f with
  | next=>obtain⟨σ7,H7,I7,n7⟩:=q7;exact again I7 n7
  | cont=>obtain⟨σ7,H7,I7,n7⟩:=q7;exact again I7 n7
  | brk=>obtain⟨σ7,H7,I7,q7⟩:=q7;exact⟨σ7,H7,I7.unpinned,q7⟩
  | ret v=>obtain⟨x7,σ7,H7,I7,r7,q7⟩:=q7;exact⟨x7,σ7,H7,I7.unpinned,r7,q7⟩
end
abbrev R2:=V->V->Hp->VK->Prop
def br(X:Cx)(f:UJ->UJ->Sem UJ)(r:R2):Prop:=
 ∀(Wx:List (UL×Obj))(s:UM)(σ:St)(H:Hp)(x y:V)(v u:UJ)(Q:VK),ag X Wx σ H s->aD x v->aD y u->r x y H Q->
  UO (UP X.prog X.w) X.A (f v u) (EP X Wx σ Q) X.xe s
def vv(X:Cx)(f:UJ->Sem UJ)(r:V->Hp->VK->Prop):Prop:=
 ∀(Wx:List (UL×Obj))(s:UM)(σ:St)(H:Hp)(x:V)(v:UJ)(Q:VK),ag X Wx σ H s->aD x v->r x H Q->
  UO (UP X.prog X.w) X.A (f v) (EP X Wx σ Q) X.xe s
def kq(X:Cx)(f:UJ)(r:List V->Hp->VK->Prop):Prop:=
 ∀(Wx:List (UL×Obj))(s:UM)(σ:St)(H:Hp)(xs:List V)(us:List UJ)(Q:VK),ag X Wx σ H s->aG xs us->r xs H Q->
  UO (UP X.prog X.w) X.A (call f us) (EP X Wx σ Q) X.xe s
def oX(r:R2)(ta tb:TE):TE:=λσ H Q=>ta σ H λx H1=>tb σ H1 λy H2=>r x y H2 Q
def vw(r:V->Hp->VK->Prop)(ta:TE):TE:=λσ H Q=>ta σ H λx H1=>r x H1 Q
def rI(C:Int->Int->Prop)(g:Int->Int->V):R2:=λx y H Q=>∃i j,x= .int i/\y= .int j/\C i j/\Q (g i j) H
def mn(g:Int->Int->V):R2:=λx y H Q=>∃i j,x= .int i/\y= .int j/\Q (g i j) H
def rU(g:Int->V):V->Hp->VK->Prop:=λx H Q=>∃i,x= .int i/\Q (g i) H
section
variable {X:Cx} {a b c:US} {ta tb tc:TE} {pos:Pos}
theorem vx(ha:PE X a ta)(hb:PE X b tb){Wx:List (UL×Obj)}{s:UM}{σ:St}{H:Hp}{R:V->V->Hp->Prop}(I:ag X Wx σ H s)
 (h:ta σ H λx H1=>tb σ H1 λy H2=>R x y H2){Q:UJ->UM->Prop}{f:UJ->UJ->Sem UJ}
 (hf:∀v u s2 x y H2,ag X Wx σ H2 s2->aD x v->aD y u->R x y H2->UO (UP X.prog X.w) X.A (f v u) Q X.xe s2):
 UO (UP X.prog X.w) X.A (eval a X.env) (λv s₁=>UO (UP X.prog X.w) X.A (eval b X.env) (λu s₂=>UO (UP X.prog X.w) X.A (f v u) Q X.xe s₂) X.xe s₁) X.xe s:=by
 refine ax (ha Wx s σ H _ I h) λv s1 ⟨x,H1,I1,r1,q1⟩=>?_;refine ax (hb Wx s1 σ H1 _ I1 q1) λu s2 ⟨y,H2,I2,r2,q2⟩=>?_;exact hf v u s2 x y H2 I2 r1 r2 q2
theorem bN{op:Operator}{r:R2}(ho:br X (Vl op) r)(ha:PE X a ta)(hb:PE X b tb):PE X (.BinOp a op b pos) (oX r ta tb):=by
 intro Wx s σ H Q I h;exact wpAny_BinOp (vx ha hb I h λv u s2 x y H2 I2 rx ry q=>ho Wx s2 σ H2 x y v u Q I2 rx ry q)
theorem FL{op:UnaryOp}{r:V->Hp->VK->Prop}(ho:vv X (unaryOp op) r)(ha:PE X a ta):PE X (.UnaryOp op a pos) (vw r ta):=by
 intro Wx s σ H Q I h;exact UnaryOp_ (ax (ha Wx s σ H _ I h) λv s1 uu34=>by obtain⟨x,H1,I1,r1,q1⟩:=uu34;exact ho Wx s1 σ H1 x v Q I1 r1 q1)
theorem rz{f:UJ->UJ->Sem UJ}{C:Int->Int->Prop}{g:Int->Int->Int}
 (rule:∀(i j:Int) (t u:Tok) (s:UM) (Q:UJ->UM->Prop) (E:UJ->UM->Prop),C i j->Q (.int (g i j) s.toks) {s with toks:=s.toks+1}->UO (UP X.prog X.w) X.A (f (.int i t) (.int j u)) Q E s):
 br X f (rI C λi j=>.int (g i j)):=by
 intro Wx s σ H x y v u Q I rx ry h;obtain⟨i,j,rfl,rfl,hc,q⟩:=h;obtain⟨t,rfl⟩:=rx;obtain⟨t',rfl⟩:=ry;exact rule i j t t' s _ _ hc ⟨.int (g i j),H,I.tok _,⟨_,rfl⟩,q⟩
theorem Bd{f:UJ->UJ->Sem UJ}{g:Int->Int->Int}
 (rule:∀(i j:Int) (t u:Tok) (s:UM) (Q:UJ->UM->Prop) (E:UJ->UM->Prop),Q (.int (g i j) s.toks) {s with toks:=s.toks+1}->UO (UP X.prog X.w) X.A (f (.int i t) (.int j u)) Q E s):
 br X f (mn λi j=>.int (g i j)):=by
 intro Wx s σ H x y v u Q I rx ry h;obtain⟨i,j,rfl,rfl,q⟩:=h;obtain⟨t,rfl⟩:=rx;obtain⟨t',rfl⟩:=ry;exact rule i j t t' s _ _ ⟨.int (g i j),H,I.tok _,⟨_,rfl⟩,q⟩
theorem sN{f:UJ->UJ->Sem UJ}{g:Int->Int->Bool}
 (rule:∀(i j:Int) (t u:Tok) (s:UM) (Q:UJ->UM->Prop) (E:UJ->UM->Prop),Q (.bool (g i j)) s->UO (UP X.prog X.w) X.A (f (.int i t) (.int j u)) Q E s):
 br X f (mn λi j=>.bl (g i j)):=by
 intro Wx s σ H x y v u Q I rx ry h;obtain⟨i,j,rfl,rfl,q⟩:=h;obtain⟨t,rfl⟩:=rx;obtain⟨t',rfl⟩:=ry;exact rule i j t t' s _ _ ⟨.bl (g i j),H,I,rfl,q⟩
def bV(i j:Int):Prop:=0 < j/\j < 1073741824
def cn(i j:Int):Prop:=0<=j/\j<=1000000/\i.natAbs < 2 ^ 64
def bW(i j:Int):Prop:=(-(2 ^ 64) < i/\i < 2 ^ 64)\/(-(2 ^ 64) < j/\j < 2 ^ 64)
theorem bW.ok{i j:Int}(h:bW i j):IntMulOk i j:=by
 rcases h with⟨h1,h2⟩ | ⟨h1,h2⟩
 ·exact .of_left (intBits_le_64 h1 h2)
 ·exact .of_right (intBits_le_64 h1 h2)
theorem bO:br X (Vl .Add) (mn λi j=>.int (i+j)):=Bd λ_ _ _ _ _ _ _ q=>add_int q
theorem kO:br X (Vl .Sub) (mn λi j=>.int (i - j)):=Bd λ_ _ _ _ _ _ _ q=>sub_int q
theorem qc:br X (Vl .Mult) (rI bW λi j=>.int (i*j)):=rz λ_ _ _ _ _ _ _ hc q=>mul_int q hc.ok
theorem nM:br X (Vl .FloorDiv) (rI bV λi j=>.int (i / j)):=rz λi j _ _ _ _ _ hc q=>by
 have h1:(0:Int) < j:=hc.1;have h2:j < 1073741824:=hc.2;exact floordiv_int UC (by rw [RY i UC];exact q) (.inl (Sz UC))
theorem nN:br X (Vl .Mod) (rI (λ_ j=>0 < j) λi j=>.int (i % j)):=rz λi j _ _ _ _ _ hc q=>by
 have h1:(0:Int) < j:=hc;exact mod_int' UC (by rw [RZ i UC];exact q)
theorem FN:br X (Vl .Pow) (rI cn λi j=>.int (i ^ j.toNat)):=rz λ_ _ _ _ _ _ _ hc q=>pow_int_small hc.1 hc.2.1 hc.2.2 q
theorem FO{f:UJ->Sem UJ}{g:Int->Int}
 (rule:∀(i:Int) (t:Tok) (s:UM) (Q:UJ->UM->Prop) (E:UJ->UM->Prop),Q (.int (g i) s.toks) {s with toks:=s.toks+1}->UO (UP X.prog X.w) X.A (f (.int i t)) Q E s):
 vv X f (rU λi=>.int (g i)):=by
 intro Wx s σ H x v Q I rx h;obtain⟨i,rfl,q⟩:=h;obtain⟨t,rfl⟩:=rx;exact rule i t s _ _ ⟨.int (g i),H,I.tok _,⟨_,rfl⟩,q⟩
theorem FP:vv X (unaryOp .USub) (rU λi=>.int (-i)):=FO λ_ _ _ _ _ q=>neg_int q
end
def oq:V->V->Bool
 | .non,.non=>true | .non,.int _=>true | .int _,.non=>true | .non,.bl _=>true | .bl _,.non=>true | .non,.str _=>true | .str _,.non=>true
 | .int _,.int _=>true | .bl _,.bl _=>true | .str _,.str _=>true | .byt _,.byt _=>true
 | .int _,.str _=>true | .str _,.int _=>true | .bl _,.str _=>true | .str _,.bl _=>true
 | _,_=>false
def vy:R2:=λx y H Q=>oq x y=true/\Q (.bl (decide (x=y))) H
def vz:R2:=λx y H Q=>oq x y=true/\Q (.bl (!decide (x=y))) H
theorem Be{i j:Int}:decide (V.int i=V.int j)=(i==j):=by
 rw [P6];simp
theorem Bf{i j:Bool}:decide (V.bl i=V.bl j)=(i==j):=by
 rw [P6];simp
theorem Bg{i j:Str}:decide (V.str i=V.str j)=(i==j):=by
 rw [P6];simp
theorem Bh{i j:Array UInt8}:decide (V.byt i=V.byt j)=(i.toList==j.toList):=by
 rw [P6];cases i;cases j;simp
section
variable {X:Cx} {a b c:US} {ta tb tc:TE} {pos:Pos}
theorem bD{Wx:List (UL×Obj)}{σ:St}{H:Hp}{s:UM}{Q:VK}{k k':Bool}(I:ag X Wx σ H s)(q:Q (.bl k) H)(e:k=k'):EP X Wx σ Q (.bool k') s:=by
 subst e;exact⟨.bl k,H,I,rfl,q⟩
theorem sO:br X (U2 .Eq) vy:=by
 intro Wx s σ H x y v u Q I rx ry h;obtain⟨hs,q⟩:=h;cases x with
 | non=>
  cases rx;cases y with
  | non=>cases ry;exact PySem.EqNone.eq_none_none (bD I q UH)
  | bl j=>cases ry;exact PySem.EqNone.eq_none_bool (bD I q UH)
  | int j=>obtain⟨t',rfl⟩:=ry;exact PySem.EqNone.eq_none_int (bD I q UH)
  | str j=>obtain⟨t',rfl⟩:=ry;exact PySem.EqNone.eq_none_str (bD I q UH)
  | _=>exact absurd (show false=true from hs) Ou
 | bl i=>
  cases rx;cases y with
  | non=>cases ry;exact PySem.EqNone.eq_bool_none (bD I q UH)
  | bl j=>cases ry;exact eq_bool (bD I q Bf)
  | str j=>obtain⟨t',rfl⟩:=ry;exact PySem.EqMixed.eq_bool_str (bD I q UH)
  | _=>exact absurd (show false=true from hs) Ou
 | int i=>
  obtain⟨t,rfl⟩:=rx;cases y with
  | non=>cases ry;exact PySem.EqNone.eq_int_none (bD I q UH)
  | int j=>obtain⟨t',rfl⟩:=ry;exact eq_int (bD I q Be)
  | str j=>obtain⟨t',rfl⟩:=ry;exact PySem.EqMixed.eq_int_str (bD I q UH)
  | _=>exact absurd (show false=true from hs) Ou
 | str i=>
  obtain⟨t,rfl⟩:=rx;cases y with
  | non=>cases ry;exact PySem.EqNone.eq_str_none (bD I q UH)
  | bl j=>cases ry;exact PySem.EqMixed.eq_str_bool (bD I q UH)
  | int j=>obtain⟨t',rfl⟩:=ry;exact PySem.EqMixed.eq_str_int (bD I q UH)
  | str j=>obtain⟨t',rfl⟩:=ry;exact eq_str (bD I q Bg)
  | _=>exact absurd (show false=true from hs) Ou
 | byt i=>
  obtain⟨t,rfl⟩:=rx;cases y with
  | byt j=>obtain⟨t',rfl⟩:=ry;exact PySem.W.eq_bytes (bD I q Bh)
  | _=>exact absurd (show false=true from hs) Ou
 | _=>cases y <;> exact absurd (show false=true from hs) Ou
theorem FQ:br X (U2 .NotEq) vz:=by
 intro Wx s σ H x y v u Q I rx ry h;obtain⟨hs,q⟩:=h;cases x with
 | non=>
  cases rx;cases y with
  | non=>cases ry;exact PySem.EqNone.ne_none_none (bD I q UH)
  | bl j=>cases ry;exact PySem.EqNone.ne_none_bool (bD I q UH)
  | int j=>obtain⟨t',rfl⟩:=ry;exact PySem.EqNone.ne_none_int (bD I q UH)
  | str j=>obtain⟨t',rfl⟩:=ry;exact PySem.EqNone.ne_none_str (bD I q UH)
  | _=>exact absurd (show false=true from hs) Ou
 | bl i=>
  cases rx;cases y with
  | non=>cases ry;exact PySem.EqNone.ne_bool_none (bD I q UH)
  | bl j=>cases ry;exact ne_bool (bD I q (congrArg not Bf))
  | str j=>obtain⟨t',rfl⟩:=ry;exact PySem.EqMixed.ne_bool_str (bD I q UH)
  | _=>exact absurd (show false=true from hs) Ou
 | int i=>
  obtain⟨t,rfl⟩:=rx;cases y with
  | non=>cases ry;exact PySem.EqNone.ne_int_none (bD I q UH)
  | int j=>obtain⟨t',rfl⟩:=ry;exact ne_int (bD I q (congrArg not Be))
  | str j=>obtain⟨t',rfl⟩:=ry;exact PySem.EqMixed.ne_int_str (bD I q UH)
  | _=>exact absurd (show false=true from hs) Ou
 | str i=>
  obtain⟨t,rfl⟩:=rx;cases y with
  | non=>cases ry;exact PySem.EqNone.ne_str_none (bD I q UH)
  | bl j=>cases ry;exact PySem.EqMixed.ne_str_bool (bD I q UH)
  | int j=>obtain⟨t',rfl⟩:=ry;exact PySem.EqMixed.ne_str_int (bD I q UH)
  | str j=>obtain⟨t',rfl⟩:=ry;exact ne_str (bD I q (congrArg not Bg))
  | _=>exact absurd (show false=true from hs) Ou
 | byt i=>
  obtain⟨t,rfl⟩:=rx;cases y with
  | byt j=>obtain⟨t',rfl⟩:=ry;exact PySem.W.ne_bytes (bD I q (congrArg not Bh))
  | _=>exact absurd (show false=true from hs) Ou
 | _=>cases y <;> exact absurd (show false=true from hs) Ou
theorem qf:br X (U2 .Lt) (mn λi j=>.bl (decide (i < j))):=sN λ_ _ _ _ _ _ _ q=>lt_int q
theorem jY:br X (U2 .LtE) (mn λi j=>.bl (decide (i<=j))):=sN λ_ _ _ _ _ _ _ q=>le_int q
theorem oY:br X (U2 .Gt) (mn λi j=>.bl (decide (j < i))):=sN λ_ _ _ _ _ _ _ q=>gt_int q
theorem FT:br X (U2 .GtE) (mn λi j=>.bl (decide (j<=i))):=sN λ_ _ _ _ _ _ _ q=>ge_int q
theorem FU:br X (U2 .Lt) (λx y H Q=>∃i j,x= .str i/\y= .str j/\Q (.bl (decide (i.cps.toList < j.cps.toList))) H):=by
 intro Wx s σ H x y v u Q I rx ry h;obtain⟨i,j,rfl,rfl,q⟩:=h;obtain⟨t,rfl⟩:=rx;obtain⟨t',rfl⟩:=ry;exact lt_str (bD I q rfl)
theorem sP:br X (U2 .In) (λx y H Q=>∃i j,x= .str i/\y= .str j/\Q (.bl (!(Qe j i 0 j.length 1).isEmpty)) H):=by
 intro Wx s σ H x y v u Q I rx ry h;obtain⟨i,j,rfl,rfl,q⟩:=h;obtain⟨t,rfl⟩:=rx;obtain⟨t',rfl⟩:=ry;exact in_str (bD I q rfl)
theorem sQ:br X (U2 .Is) (λx y H Q=>y= .non/\Q (.bl (decide (x= .non))) H):=by
 intro Wx s σ H x y v u Q I rx ry h;obtain⟨rfl,q⟩:=h;cases ry;refine is_none_gen (bD I q ?_);cases x <;> first
  | (cases rx;rfl)
  | (obtain⟨t,rfl⟩:=rx;rfl)
theorem vA:br X (U2 .IsNot) (λx y H Q=>y= .non/\Q (.bl (!decide (x= .non))) H):=by
 intro Wx s σ H x y v u Q I rx ry h;obtain⟨rfl,q⟩:=h;cases ry;refine isnot_none_gen (bD I q ?_);cases x <;> first
  | (cases rx;rfl)
  | (obtain⟨t,rfl⟩:=rx;rfl)
theorem aB(b:US){op:CmpOp}(h:op≠ .In:=by decide)(h2:op≠ .NotIn:=by decide):Vk op b=false:=by
 have e1:(op==CmpOp.In)=false:=by cases op <;> first | rfl | exact absurd rfl h
 have e2:(op==Uq)=false:=by cases op <;> first | rfl | exact absurd rfl h2
 cases b <;> simp [Vk,e1,e2]
theorem oZ{op:CmpOp}{r:R2}(ho:br X (U2 op) r)(ha:PE X a ta)(hb:PE X b tb)(hm:Vk op b=false):PE X (.Compare a [op] [b] pos) (oX r ta tb):=by
 intro Wx s σ H Q I h;exact wpAny_Compare1 (vx ha hb I h λv u s2 x y H2 I2 rx ry q=>ho Wx s2 σ H2 x y v u Q I2 rx ry q) hm
def sR(t:TE):TT:=λσ H Q=>t σ H λx H'=>∃k,x= .bl k/\Q k H'
theorem o9{op:CmpOp}{r:R2}(ho:br X (U2 op) r)(ha:PE X a ta)(hb:PE X b tb)(hm:Vk op b=false):PT X (.Compare a [op] [b] pos) (sR (oX r ta tb)):=by
 intro Wx s σ H Q I h;refine wpAny_isTrue_Compare1 (ax (ha Wx s σ H _ I h) λv s1 ⟨x,H1,I1,r1,q1⟩=>ax (hb Wx s1 σ H1 _ I1 q1) λu s2 ⟨y,H2,I2,r2,q2⟩=>
  ax (ho Wx s2 σ H2 x y v u _ I2 r1 r2 q2) λc s3 ⟨z,H3,I3,r3,k,e,q3⟩=>?_) hm
 subst e;cases r3;exact U9 ⟨H3,I3,q3⟩
def sS(r r':R2)(ta tb tc:TE):TE:=λσ H Q=>ta σ H λx H1=>tb σ H1 λy H2=>r x y H2 λz H3=>∃k,z= .bl k/\
 (if k=true then tc σ H3 λw' H4=>r' y w' H4 Q else Q (.bl false) H3)
theorem FV{op op':CmpOp}{r r':R2}(ho:br X (U2 op) r)(ho':br X (U2 op') r')(ha:PE X a ta)(hb:PE X b tb)(hc:PE X c tc)
 (hm:lastMarks [op,op'] [b,c]=false:=by with_unfolding_all rfl):PE X (.Compare a [op,op'] [b,c] pos) (sS r r' ta tb tc):=by
 intro Wx s σ H Q I h;refine Compare_chain (ax (ha Wx s σ H _ I h) λv s1 ⟨x,H1,I1,r1,q1⟩=>chain_link (ax (hb Wx s1 σ H1 _ I1 q1) λu s2 ⟨y,H2,I2,r2,q2⟩=>
  ax (ho Wx s2 σ H2 x y v u _ I2 r1 r2 q2) λd s3 ⟨z,H3,I3,r3,k,e,q3⟩=>?_)) hm
 subst e;cases r3;refine U9 ?_;cases k with
 | false=>exact ite_ff ⟨.bl false,H3,I3,rfl,q3⟩
 | true=>exact ite_tt (chain_last (ax (hc Wx s3 σ H3 _ I3 q3) λw' s4 uu41=>by obtain⟨z',H4,I4,r4,q4⟩:=uu41;exact ho' Wx s4 σ H4 y z' u w' Q I4 r2 r4 q4))
theorem FW{op op':CmpOp}{r r':R2}(ho:br X (U2 op) r)(ho':br X (U2 op') r')(ha:PE X a ta)(hb:PE X b tb)(hc:PE X c tc)
 (hm:lastMarks [op,op'] [b,c]=false:=by with_unfolding_all rfl):PT X (.Compare a [op,op'] [b,c] pos) (sR (sS r r' ta tb tc)):=by
 intro Wx s σ H Q I h;refine isTrue_chain (ax (ha Wx s σ H _ I h) λv s1 ⟨x,H1,I1,r1,q1⟩=>test_link (ax (hb Wx s1 σ H1 _ I1 q1) λu s2 ⟨y,H2,I2,r2,q2⟩=>
  ax (ho Wx s2 σ H2 x y v u _ I2 r1 r2 q2) λd s3 ⟨z,H3,I3,r3,k,e,q3⟩=>?_)) hm
 subst e;cases r3;refine U9 ?_;cases k with
 | false=>
  obtain⟨k',e',q'⟩:=q3;cases e';exact ite_ff ⟨H3,I3,q'⟩
 | true=>
  refine ite_tt (test_last (ax (hc Wx s3 σ H3 _ I3 q3) λw' s4 ⟨z',H4,I4,r4,q4⟩=>ax (ho' Wx s4 σ H4 y z' u w' _ I4 r2 r4 q4) λd' s5 ⟨z2,H5,I5,r5,k2,e2,q5⟩=>?_));subst e2;cases r5;exact U9 ⟨H5,I5,q5⟩
theorem pd:(UR:Nat) < 2 ^ 63:=by rw [UY];decide
theorem sT:br X (Vl .Add) (λx y H Q=>∃i j,x= .str i/\y= .str j/\i.length+j.length<=UR/\Q (.str (i++j)) H):=by
 intro Wx s σ H x y v u Q I rx ry h;obtain⟨i,j,rfl,rfl,hz,q⟩:=h;obtain⟨t,rfl⟩:=rx;obtain⟨t',rfl⟩:=ry;exact add_str (λt' tk=>⟨.str (i++j),H,I.tok _,⟨_,rfl⟩,q⟩) hz
theorem kY{x:V}{us:List UJ}(r:aG [x] us):∃u,us=[u]/\aD x u:=by
 cases r with
 | cons r1 r2=>cases r2;exact⟨_,rfl,r1⟩
theorem pe{x y:V}{us:List UJ}(r:aG [x,y] us):∃u w',us=[u,w']/\aD x u/\aD y w':=by
 cases r with
 | cons r1 r2=>
  cases r2 with
  | cons r3 r4=>cases r4;exact⟨_,_,rfl,r1,r3⟩
theorem FX(hc:X.calm=true):kq X (.builtin "max") (λxs H Q=>∃i j,xs=[.int i,.int j]/\Q (.int (if j > i then j else i)) H):=by
 intro Wx s σ H xs us Q I r h;obtain⟨i,j,rfl,q⟩:=h;obtain⟨u,w',rfl,⟨t,rfl⟩,⟨t',rfl⟩⟩:=pe r;refine max_two_ints (I.ok.hd hc) λh' tk k=>⟨_,H,I.kept k,?_,q⟩;by_cases hj:j > i
 ·rw [UE hj,UE hj];exact⟨_,rfl⟩
 ·rw [UD hj,UD hj];exact⟨_,rfl⟩
theorem vB(hc:X.calm=true):kq X (.builtin "min") (λxs H Q=>∃i j,xs=[.int i,.int j]/\Q (.int (if j < i then j else i)) H):=by
 intro Wx s σ H xs us Q I r h;obtain⟨i,j,rfl,q⟩:=h;obtain⟨u,w',rfl,⟨t,rfl⟩,⟨t',rfl⟩⟩:=pe r;refine min_two_ints (I.ok.hd hc) λh' tk k=>⟨_,H,I.kept k,?_,q⟩;by_cases hj:j < i
 ·rw [UE hj,UE hj];exact⟨_,rfl⟩
 ·rw [UD hj,UD hj];exact⟨_,rfl⟩
theorem sU:kq X (.type "int") (λxs H Q=>(∃i,xs=[.int i]/\Q (.int i) H)\/∃k,xs=[.bl k]/\Q (.int (if k then 1 else 0)) H):=by
 intro Wx s σ H xs us Q I r h;rcases h with⟨i,rfl,q⟩ | ⟨k,rfl,q⟩
 ·obtain⟨u,rfl,t,rfl⟩:=kY r;exact call_int_int ⟨.int i,H,I,⟨_,rfl⟩,q⟩
 ·obtain⟨u,rfl,r1⟩:=kY r;cases r1;exact call_int_bool ⟨.int (if k then 1 else 0),H,I.tok _,⟨_,rfl⟩,q⟩
theorem nO:kq X (.type "str") (λxs H Q=>∃i,xs=[.int i]/\i.natAbs.log2 < 1920/\Q (.str (toString i)) H):=by
 intro Wx s σ H xs us Q I r h;obtain⟨i,rfl,hz,q⟩:=h;obtain⟨u,rfl,t,rfl⟩:=kY r;exact PySem.P.str_of_int hz ⟨.str _,H,I.tok _,⟨_,rfl⟩,q⟩
def FY(K:NH)(x:V)(H:Hp)(n:Nat):Prop:=
 match x with
 | .str y=>y.length<=UR/\n=y.length
 | .byt y=>y.size<=UR/\n=y.size
 | .ref p=>(∃xs,bj K H p xs/\n=xs.length)\/∃xs,aX K H p xs/\n=xs.length
 | _=>False
theorem FZ:kq X (.builtin "len") (λxs H Q=>∃x n,xs=[x]/\FY X.K x H n/\Q (.int n) H):=by
 intro Wx s σ H xs us Q I r h;obtain⟨x,n,rfl,e,q⟩:=h;obtain⟨u,rfl,rx⟩:=kY r;have hl:=pd;have hs:UR=16777216:=UY;cases x with
 | str y=>
  obtain⟨t,rfl⟩:=rx;obtain⟨hy,e'⟩:y.length<=UR/\n=y.length:=e;subst e';exact len_str UC ⟨.int _,H,I.tok _,⟨_,rfl⟩,q⟩
 | byt y=>
  obtain⟨t,rfl⟩:=rx;obtain⟨hy,e'⟩:y.size<=UR/\n=y.size:=e;subst e';exact PySem.W.len_bytes UC ⟨.int _,H,I.tok _,⟨_,rfl⟩,q⟩
 | ref p=>
  cases rx;have e':(∃xs,bj X.K H p xs/\n=xs.length)\/∃xs,aX X.K H p xs/\n=xs.length:=e;rcases e' with⟨xs,hx,e'⟩ | ⟨xs,hx,e'⟩
  ·subst e';obtain⟨its,r',pl,hz⟩:=I.list hx;have hlen:=r'.length;exact S6 pl.isList (by simp only [Ot];omega) ⟨.int xs.length,H,I.tok _,⟨_,by simp only [Ot];rw [hlen]⟩,q⟩
  ·subst e';obtain⟨its,r',pl,hz⟩:=I.tuple hx;have hlen:=r'.length;exact len_tuple pl (by simp only [Ot];omega) ⟨.int xs.length,H,I.tok _,⟨_,by simp only [Ot];rw [hlen]⟩,q⟩
 | _=>exact(show False from e).elim
theorem F0:kq X (.builtin "divmod") (λxs H Q=>∃i j,xs=[.int i,.int j]/\bV i j/\∀p,H p=none->Q (.ref p) (ak H p (.tup [.int (i / j),.int (i % j)]))):=by
 intro Wx s σ H xs us Q I r h;obtain⟨i,j,rfl,⟨h1,h2⟩,q⟩:=h;obtain⟨u,w',rfl,⟨t,rfl⟩,⟨t',rfl⟩⟩:=pe r;refine divmod_int UC ?_ (.inl (Sz UC));rw [RY i UC,RZ i UC];have hn:H s.heap.objs.size=none:=I.hok.fresh (NV _);refine⟨.ref s.heap.objs.size,_,?_,rfl,q _ hn⟩;refine I.laid (λb o e=>NK _ e) (NV _) ⟨by simp only [NJ,N8];rw [UY];decide,[.int (i / j) s.toks,.int (i % j) (s.toks+1)],.cons ⟨_,rfl⟩ (.cons ⟨_,rfl⟩ .nil),?_⟩;exact⟨_,N7 s.heap rfl,rfl,0,rfl⟩
end
structure vC (h:UW) (x dx C:UL) (mA:Str->Option UJ):Prop where
 obj:h.get? x=some (Su C dx)
 ns:h.Ns1 dx mA
 ne:dx≠x
theorem Bi{h:UW}{dx:UL}{mA:Str->Option UJ}(n:h.Ns1 dx mA):∃od,h.get? dx=some od/\∀name,SD name od=some (mA name):=by
 obtain⟨o,es,ep,ho,hd,hk,_,hm⟩:=n;refine⟨o,ho,λname=>?_⟩;have e:=hm name;unfold nsFind findBy at e;rw [<-Array.find?_toList] at e;unfold SD;rw [hd];dsimp only;split
 ·rename_i y q;rw [q] at e;exact congrArg some e
 ·rename_i q;rw [q] at e;have a:es.toList.any (·.refKey)=false:=by
   rw [List.any_eq_false];intro y hy;obtain⟨z,t,hkey⟩:=hk y (Array.mem_toList_iff.mp hy);simp [DictEntry.refKey,hkey]
  have a':¬es.toList.any (·.refKey)=true:=by rw [a];exact Ou
  rw [UD a'];exact congrArg some e
theorem vC.look{h:UW}{x dx C:UL}{mA:Str->Option UJ}(I:vC h x dx C mA):∃od,Q0 h x (Su C dx) C (some od)/\∀name,SD name od=some (mA name):=
 let ⟨od,ho,hl⟩:=Bi I.ns
 ⟨od,⟨I.obj,rfl,rfl,ho⟩,hl⟩
theorem p4.some_of{v:V}{o:Option UJ}(r:p4 (some v) o):∃u,o=some u/\aD v u:=by
 cases o with
 | none=>exact(show False from r).elim
 | some u=>exact⟨u,rfl,r⟩
section
variable {P:UX} {w:UZ} {H H':Hp} {h h':UW} {a C dx:UL} {fs fs':List (Str×V)}
theorem F1(hok:bJ P w H h)(e:H a=some (.ins C dx fs)):∃mA,vC h a dx C mA/\(∀f,p4 (fs.lookup f) (mA f))/\Ue mA (fs.map (·.1))/\fs.length<=1000/\H dx=some (.own a):=by
 obtain⟨d,z,ne,ob,mA,n,r,q⟩:=(show bE P w H h a (.ins C dx fs) from hok a _ e);exact⟨mA,⟨ob,n,ne⟩,r,q,z,d⟩
end
structure vD (K:NH) (C:UL):Prop where
 pg:TF K C RI=true
 hd:R5 K C=true
 po:PySem.W.plainOver K C=true
 sa:Pm K (.ref C) "__setattr__"=some (some (.builtin "object.__setattr__"))
theorem vD.get{K:NH}{C:UL}(c:vD K C)(f:Str):TF K C f=true:=c.pg
section
variable {X:Cx} {Wx:List (UL×Obj)} {σ:St} {H:Hp} {s:UM} {a C dx:UL} {fs:List (Str×V)} {f:Str} {v:V} {A:U1} {E:UJ->UM->Prop}
theorem F2{prog:UX}{w:UZ}{env:Env}{e:US}{f:Str}{pos:Pos}{s:UM}{Q:UJ->UM->Prop}(hb:Vw e f env (eval e env)=eval e env)
 (h:UO (UP prog w) A (eval e env) (λo s₁=>UO (UP prog w) A (getAttr o f true) Q E s₁) E s):UO (UP prog w) A (eval (.Attribute e f pos) env) Q E s:=
 Attribute_any_ h (by rw [arm_eval_Attribute,hb])
end
section
variable {X:Cx} {Wx:List (UL×Obj)} {σ:St} {H:Hp} {s:UM} {A:U1} {E:UJ->UM->Prop} {Q:UJ->UM->Prop} {c:UJ} {b:Bool}
inductive l8 (K:NH) (H:Hp):V->UJ->Prop where
 | non:l8 K H .non (.type "NoneType")
 | bl (x:Bool):l8 K H (.bl x) (.type "bool")
 | int (i:Int):l8 K H (.int i) (.type "int")
 | str (x:Str):l8 K H (.str x) (.type "str")
 | flt (x:UInt64):l8 K H (.flt x) (.type "float")
 | lst {a:UL} {xs:List V} (e:H a=some (.lst xs)):l8 K H (.ref a) (.type "list")
 | frz {a:UL} {o:Obj} {xs:List V} (e:H a=some (.frz o (.lst xs))):l8 K H (.ref a) (.type "list")
 | tup {a:UL} {xs:List V} (e:H a=some (.tup xs)):l8 K H (.ref a) (.type "tuple")
 | dK {a:UL} {kvs:List (aZ×V)} (e:H a=some (.dK kvs)):l8 K H (.ref a) (.type "dict")
 | dT {a:UL} {kvs:List (List aZ×V)} (e:H a=some (.dT kvs)):l8 K H (.ref a) (.type "dict")
 | ins {a C dx:UL} {fs:List (Str×V)} (e:H a=some (.ins C dx fs)) (cl:vD K C) (ha:Pm K (.ref C) "__class__"=some (some (.builtin "object.__class__")))
  (hn:QX K (.builtin "object.__class__") "__get__"=some (some (.builtin "getset_descriptor.__get__"))) (htk:Sv K (.builtin "object.__class__")=some true)
  (hm:P2 K C (.type "object")=some true):l8 K H (.ref a) (.ref C)
theorem F3{x:V}{u t:UJ}(I:ag X Wx σ H s)(rx:aD x u)(ty:l8 X.K H x t)(e:QH X.K t c=some b)(h:∀tk,Q (.bool b) {s with toks:=tk}):
 UO (UP X.prog X.w) A (call (.builtin "isinstance") [u,c]) Q E s:=by
 cases ty with
 | non=>cases (show u=Qa from rx);exact PK PySem.W.kitx_none I.kIn PX e (λz=>nomatch z) h
 | bl y=>cases (show u=QD y from rx);exact PK PySem.W.kitx_bool I.kIn PX e (λz=>nomatch z) h
 | int i=>obtain⟨t,q⟩:=(show ∃t,u=RH i t from rx);cases q;exact PK PySem.W.kitx_int I.kIn PX e (λz=>nomatch z) h
 | str y=>obtain⟨t,q⟩:=(show ∃t,u=Q4 y t from rx);cases q;exact PK PySem.W.kitx_str I.kIn PX e (λz=>nomatch z) h
 | flt y=>obtain⟨t,q⟩:=(show ∃t,u=Up y t from rx);cases q;exact PK PySem.W.kitx_float I.kIn PX e (λz=>nomatch z) h
 | @lst a xs ea=>
  cases (show u=Oz a from rx);obtain⟨_,_,n,_,h1⟩:=(show bE X.prog X.w H s.heap a (.lst xs) from I.hok a _ ea);exact PK To I.kIn ⟨_,h1,rfl⟩ e (λz=>nomatch z) h
 | @frz a ob xs ea=>
  cases (show u=Oz a from rx);obtain⟨_,_,_,n,_,h1⟩:=(show bE X.prog X.w H s.heap a (.frz ob (.lst xs)) from I.hok a _ ea);exact PK To I.kIn ⟨_,h1,rfl⟩ e (λz=>nomatch z) h
 | @tup a xs ea=>
  cases (show u=Oz a from rx);obtain⟨_,_,_,p⟩:=(show bE X.prog X.w H s.heap a (.tup xs) from I.hok a _ ea);obtain⟨o,h1,h2,_⟩:=p;exact PK PySem.W.kitx_tuple I.kIn ⟨o,h1,h2⟩ e (λz=>nomatch z) h
 | @dK a kvs ea=>
  cases (show u=Oz a from rx);obtain⟨_,_,vs,_,p⟩:=(show bE X.prog X.w H s.heap a (.dK kvs) from I.hok a _ ea);obtain⟨o,es,ep,h1,h2,_⟩:=p;exact PK Tp I.kIn ⟨o,h1,h2.1⟩ e (λz=>nomatch z) h
 | @dT a kvs ea=>
  cases (show u=Oz a from rx);obtain⟨_,_,xs,_,o,es,ep,h1,h2,_⟩:=(show bE X.prog X.w H s.heap a (.dT kvs) from I.hok a _ ea);exact PK Tp I.kIn ⟨o,h1,h2.1⟩ e (λz=>nomatch z) h
 | @ins a C dx fs ea cl ha hn htk hm=>
  cases (show u=Oz a from rx);obtain⟨mA,O,_⟩:=F1 I.hok ea;obtain⟨od,J,_⟩:=O.look;exact PK (PySem.W.kitx_own (cl.get _) cl.hd ha hn htk hm) I.kIn J e (λz=>nomatch z) h
end
structure bH (k:Nat) (A:U1):Prop where
 hd:A.handled=none
 dp:A.depth+3*k+5 < recursionLimit
 un:A.units+16*k+200 < cLine
theorem bH.mono{j k:Nat}{A:U1}(r:bH k A)(h:j<=k):bH j A:=⟨r.hd,by have:=r.dp;omega,by have:=r.un;omega⟩
theorem bH.deeper{k:Nat}{A:U1}(r:bH (k+1) A)(env:Env):bH k (A.deeper env):=
 ⟨r.hd,by have:=r.dp;show A.depth+1+3*k+5 < _;omega,by have:=r.un;show A.units+3+16*k+200 < _;omega⟩
theorem F4{A:U1}{C:UL}{us:List UJ}{kw:List (Str×UJ)}:(A.under (.builtin "type.__call__" ⟨.ref C::us,kw⟩)).depth=A.depth+1:=by
 first | rfl | simp [Tb,Code.weight,Code.isCreation,Code.isGuard,Code.isCaller,Ur,Tc,guardIds]
theorem F5{A:U1}{C:UL}{us:List UJ}{kw:List (Str×UJ)}:(A.under (.builtin "type.__call__" ⟨.ref C::us,kw⟩)).units=A.units+1:=by
 first | rfl | simp [Tb,Code.cUnits,Ur,Tc]
theorem bH.make{k:Nat}{A:U1}(r:bH (k+1) A)(C:UL)(us:List UJ)(kw:List (Str×UJ)):bH k (A.under (.builtin "type.__call__" ⟨.ref C::us,kw⟩)):=
 ⟨r.hd,by have:=r.dp;rw [F4];omega,by have:=r.un;rw [F5];omega⟩
theorem bH.depth{k:Nat}{A:U1}(r:bH k A):A.depth < recursionLimit:=by have:=r.dp;omega
theorem bH.units{k:Nat}{A:U1}(r:bH k A):A.units+64 < cLine:=by have:=r.un;omega
theorem bH.units0{k:Nat}{A:U1}(r:bH k A):A.units < cLine:=by have:=r.un;omega
def sV:TA:=λ_ H Q=>Q [] H
def rA(ta:TE)(tr:TA):TA:=λσ H Q=>ta σ H λx H1=>tr σ H1 λxs H2=>Q (x::xs) H2
section
variable {X:Cx} {e:US} {es:List US} {te:TE} {t:TA} {pos:Pos}
theorem bF:PA X [] sV:=λ_ _ _ _ H Q I h=>Calls.spliced_nil ⟨[],H,I,.nil,h⟩
theorem aN(ha:PE X e te)(hr:PA X es t)(hs:UQ (e::es) X.env=(false,eval e X.env)::UQ es X.env:=by rfl):PA X (e::es) (rA te t):=by
 intro pos Wx s σ H Q I h;rw [hs];show UO _ _ (spliced ((false,eval e X.env)::U7 pos (UQ es X.env))) _ _ s;refine Calls.spliced_cons (ax (ha Wx s σ H _ I h) λu s1 ⟨x,H1,I1,r1,q1⟩=>?_);exact ax (hr pos Wx s1 σ H1 _ I1 q1) λus s2 uu48=>by obtain⟨xs,H2,I2,r2,q2⟩:=uu48;exact⟨x::xs,H2,I2,.cons r1 r2,q2⟩
def vE(t:TA):TE:=λσ H Q=>t σ H λxs H1=>xs.length<=UR/\∀p,H1 p=none->Q (.ref p) (ak H1 p (.tup xs))
def vF(t:TA):TE:=λσ H Q=>t σ H λxs H1=>xs.length<=UR/\∀p,H1 p=none->Q (.ref p) (ak H1 p (.lst xs))
theorem sW{x1}(h:PA X es t):PE X (.Tuple es x1 pos) (vE t):=by
 intro Wx s σ H Q I hq;refine wpAny_Tuple_spliced (ax (h pos Wx s σ H _ I hq) λus s1 ⟨xs,H1,I1,r,z,q⟩=>⟨by rw [<-r.length];exact z,?_⟩);have hf:H1 s1.heap.objs.size=none:=I1.hok.fresh (NV _);refine⟨.ref s1.heap.objs.size,ak H1 s1.heap.objs.size (.tup xs),I1.laid (t':=s1.toks) (λb u e=>NK _ e) (NV _) ?_,rfl,q _ hf⟩;exact⟨z,us,r,⟨_,N7 _ rfl,rfl,_,rfl⟩⟩
theorem vG(h:PA X es t):PE X (.List es pos) (vF t):=by
 intro Wx s σ H Q I hq;refine wpAny_List_spliced (ax (h pos Wx s σ H _ I hq) λus s1 ⟨xs,H1,I1,r,z,q⟩=>⟨by rw [<-r.length];exact z,?_⟩);have hf:H1 s1.heap.objs.size=none:=I1.hok.fresh (NV _);refine⟨.ref s1.heap.objs.size,ak H1 s1.heap.objs.size (.lst xs),I1.laid (t':=s1.toks) (λb u e=>NK _ e) (NV _) ?_,rfl,q _ hf⟩;exact⟨z,us,0,r,N7 _ rfl⟩
end
abbrev Sp:=List V->Hp->VK->XK->Prop
abbrev kH:=List Env->Hp->UM->XK->UJ->UM->Prop
structure pf (P:UX) (w:UZ) (K:NH) (mg:Str->Option UJ) (base:UW) (A:U1) (outer:List Env) (s:UM) (H:Hp):Prop where
 frames:A.frames=some outer
 mod:Mod K mg base
 bs:∀b o,base.get? b=some o->s.heap.get? b=some o/\H b=none
 bsz:base.objs.size<=s.heap.objs.size
 funs:s.heap.FunFrames base outer
 frf:∀b∈ck outer,H b=none
 hok:bJ P w H s.heap
 bare:VX s.gens
def CE(outer:List Env)(P:UX)(w:UZ)(H:Hp)(s:UM)(Q:VK)(u:UJ)(s':UM):Prop:=
 ∃v H',s'.os=s.os/\VX s'.gens/\Un (ck outer) [] H H' s.heap s'.heap/\bJ P w H' s'.heap/\aD v u/\Q v H'
def CR(CX:kH)(outer:List Env)(P:UX)(w:UZ)(H:Hp)(s:UM)(Q:VK)(E:XK)(r:Result)(s':UM):Prop:=
 match r with
 | .ok (.ret u)=>CE outer P w H s Q u s'
 | .ok _=>False
 | .error e=>CX outer H s E e s'
structure aC (P:UX) (w:UZ) (K:NH) (mg:Str->Option UJ) (base:UW) (CX:kH) (k:Nat) (f:UL) (fd:UT) (ps:List Str) (sp:Sp):Prop where
 len:∀vs H Q E,sp vs H Q E->vs.length=ps.length
 run:∀(A:U1)(outer:List Env)(s:UM)(H:Hp)(args:Args)(us:List UJ)(vs:List V)(Q:VK)(E:XK),bH k A->pf P w K mg base A outer s H->BindsTo s fd args (ps.zip us)->aG vs us->sp vs H Q E->
  VC (UP P w) A (.call (.ref f) args) (CR CX outer P w H s Q E) s
theorem aC.imp{P:UX}{w:UZ}{K:NH}{mg:Str->Option UJ}{base:UW}{CX:kH}{k:Nat}{f:UL}{fd:UT}{ps:List Str}{sp sp':Sp}(F:aC P w K mg base CX k f fd ps sp)
 (h:∀vs H Q E,sp' vs H Q E->sp vs H Q E):aC P w K mg base CX k f fd ps sp':=
 ⟨λvs H Q E q=>F.len vs H Q E (h _ _ _ _ q),λA outer s H args us vs Q E hr he hb hv hs=>F.run A outer s H args us vs Q E hr he hb hv (h _ _ _ _ hs)⟩
theorem pf.make{P:UX}{w:UZ}{K:NH}{mg:Str->Option UJ}{base:UW}{A:U1}{outer:List Env}{s:UM}{H:Hp}(e:pf P w K mg base A outer s H)(C:UL)(us:List UJ)(kw:List (Str×UJ)):
 pf P w K mg base (A.under (.builtin "type.__call__" ⟨.ref C::us,kw⟩)) outer s H:=⟨by first | exact e.frames | (simpa [Tb,Code.envs,Tc,pushEnvs] using e.frames),e.mod,e.bs,e.bsz,e.funs,e.frf,e.hok,e.bare⟩
section
variable {X:Cx} {Wx:List (UL×Obj)} {σ:St} {H:Hp} {s s':UM}
theorem ag.env0(I:ag X Wx σ H s):pf X.prog X.w X.K X.mg X.base X.A X.stack s H:=
 ⟨I.ok.frames,I.ok.mod,I.bs,OB I.ok.bsz I.sz,I.stack,I.stkFree,I.hok,I.bare⟩
theorem ag.after{Q:VK}{u:UJ}(I:ag X Wx σ H s)(h:CE X.stack X.prog X.w H s Q u s'):EP X Wx σ Q u s':=by
 obtain⟨v,H',os,bare,un,hok,r,q⟩:=h;obtain⟨hh,g,d,t,os'⟩:=s';obtain rfl:os'=s.os:=os;exact⟨v,H',I.call (h':=hh) (g':=g) (d':=d) (t':=t) (ch:=[]) un hok bare (λb z=>absurd z UH),r,q⟩
end
def rB(sp:Sp)(dvs:List V)(E:XK)(t:TA):TE:=λσ H Q=>t σ H λvs H1=>sp (vs++dvs) H1 Q E
def l9(K:NH)(fd:UT)(ps:List Str)(ds:List UJ):Prop:=
 ∀(s:UM)(us:List UJ),K.In s.heap->(us++ds).length=ps.length->BindsTo s fd ⟨us,[]⟩ (ps.zip (us++ds))
theorem l9.all{K:NH}{fd:UT}{ps:List Str}(h:∀us:List UJ,us.length=ps.length->bindArgs fd ⟨us,[]⟩=pure (ps.zip us)):l9 K fd ps []:=λs us _ hl=>by
 rw [NY] at hl⊢;exact .of_eq (h us hl)
def qg(CX:kH)(X:Cx)(E:XK):Prop:=∀(Wx:List (UL×Obj))(σ:St)(H:Hp)(s:UM)(e:UJ)(s':UM),ag X Wx σ H s->CX X.stack H s E e s'->X.xe e s'
section
variable {X:Cx} {CX:kH} {k:Nat} {f C:UL} {fd:UT} {ps:List Str} {sp:Sp} {dvs:List V} {ds:List UJ} {E:XK} {x m:Str} {p pos apos:Pos} {e o:US} {es:List US} {ta:TE} {t:TA}
theorem F6{Wx:List (UL×Obj)}{σ:St}{H:Hp}{s:UM}{Q:VK}{us:List UJ}{vs:List V}(F:aC X.prog X.w X.K X.mg X.base CX k f fd ps sp)(hr:bH k X.A)(hb:l9 X.K fd ps ds)(hd:aG dvs ds)(hx:qg CX X E)
 (I:ag X Wx σ H s)(r:aG vs us)(h:sp (vs++dvs) H Q E):UO (UP X.prog X.w) X.A (call (.ref f) us) (EP X Wx σ Q) X.xe s:=by
 have r2:aG (vs++dvs) (us++ds):=r.append hd;have hl:(us++ds).length=ps.length:=by rw [<-r2.length];exact F.len _ _ _ _ h
 refine VZ (Vs (F.run X.A X.stack s H ⟨us,[]⟩ (us++ds) (vs++dvs) Q E hr I.env0 (hb s us I.kIn hl) r2 h) λr s' hq=>?_);cases r with
 | error e=>exact hx Wx σ H s e s' I hq
 | ok fl=>
  cases fl with
  | ret u=>exact I.after hq
  | next=>exact Px hq
  | brk=>exact Px hq
  | cont=>exact Px hq
theorem F7(F:aC X.prog X.w X.K X.mg X.base CX k f fd ps sp)(hr:bH k X.A)(hg:Gl X x)(hm:X.mg x=some (.ref f))(hk:Ql X.K (.ref f)=true)(hb:l9 X.K fd ps ds)(hd:aG dvs ds)(hx:qg CX X E)
 (ha:PA X (e::es) t)(hdb:(x==("__debug__":Str))=false:=by decide)(he:UQ (e::es) X.env=(false,eval e X.env)::UQ es X.env:=by rfl)(hpl:(U7 pos (UQ es X.env)).any (·.1)=false:=by rfl):
 PE X (.Call (.Name x p) (e::es) [] pos) (rB sp dvs E t):=by
 intro Wx s σ H Q I h;refine Vt (oj I hg hm ?_ hdb);refine Rg (h₀:=X.base) I.ok.mod.kin hk (ax (ha pos Wx s σ H _ I h) λus s1 ⟨vs,H1,I1,r,q⟩=>⟨I1.kIn,?_⟩) he hpl;exact F6 F hr hb hd hx I1 r q
end
section
variable {X:Cx} {CX:kH} {k:Nat} {f C:UL} {fd:UT} {ps ks:List Str} {sp:Sp} {E:XK} {x m:Str} {p pos apos kpos:Pos} {e o:US} {es:List US} {kws:List VI} {te ta:TE} {t tk:TA} {nm:Option Str}
variable {g:List UJ->List UJ->List UJ} {gV:List V->List V->List V}
end
structure aQ (N P:List Str) (sc:Vg):Prop where
 kind:sc.kind= .function
 co:sc.isCoroutine=false
 gen:sc.isGenerator=false
 nd:N.Nodup
 pre:N.take P.length=P
 par:∀x∈P,sc.names.lookup x=some .local\/sc.names.lookup x=some .cell
 nofree:∀y∈sc.names,y.2≠ .free
theorem Bj{kindOf:Str->Option Vh}{x:Str}:∀{binds:List (Str×UJ)}{m:Str->Option UJ},(∀v,(x,v)∉ binds)->bindL kindOf binds m x=m x
 | [],_,_=>rfl
 | (n,v)::r,m,h=>by
  unfold bindL;rw [Bj λw hw=>h w (OZ _ hw)];split
  ·have:x≠n:=by rintro rfl;exact h v PJ
   simp [this]
  ·rfl
theorem Bk{kindOf:Str->Option Vh}{x:Str}:∀{binds:List (Str×UJ)}{m:Str->Option UJ},(∀v,(x,v)∉ binds)->bindC kindOf binds m x=m x
 | [],_,_=>rfl
 | (n,v)::r,m,h=>by
  unfold bindC;rw [Bk λw hw=>h w (OZ _ hw)];split
  ·rfl
  ·have:x≠n:=by rintro rfl;exact h v PJ
   simp [this]
theorem Bl{kindOf:Str->Option Vh}{x:Str}{v:UJ}:∀{P:List Str}{vs:List UJ}{i:Nat}{m:Str->Option UJ},P.Nodup->P[i]?=some x->vs[i]?=some v->kindOf x=some .local->
 bindL kindOf (P.zip vs) m x=some v
 | [],_,_,_,_,h,_,_=>by simp at h
 | _::_,[],_,_,_,_,h,_=>by simp at h
 | p::P,w::vs,0,m,nd,h1,h2,hk=>by
  simp at h1 h2;subst h1;subst h2;show bindL kindOf ((p,w)::P.zip vs) m p=_;unfold bindL;rw [Bj λv hv=>(RL.mp nd).1 (Sw hv).1,UE hk];simp
 | p::P,w::vs,i+1,m,nd,h1,h2,hk=>by
  show bindL kindOf ((p,w)::P.zip vs) m x=_;unfold bindL;exact Bl (i:=i) (RL.mp nd).2 (by simpa using h1) (by simpa using h2) hk
theorem Bm{kindOf:Str->Option Vh}{x:Str}{v:UJ}:∀{P:List Str}{vs:List UJ}{i:Nat}{m:Str->Option UJ},P.Nodup->P[i]?=some x->vs[i]?=some v->kindOf x≠some .local->
 bindC kindOf (P.zip vs) m x=some v
 | [],_,_,_,_,h,_,_=>by simp at h
 | _::_,[],_,_,_,_,h,_=>by simp at h
 | p::P,w::vs,0,m,nd,h1,h2,hk=>by
  simp at h1 h2;subst h1;subst h2;show bindC kindOf ((p,w)::P.zip vs) m p=_;unfold bindC;rw [Bk λv hv=>(RL.mp nd).1 (Sw hv).1,UD hk];simp
 | p::P,w::vs,i+1,m,nd,h1,h2,hk=>by
  show bindC kindOf ((p,w)::P.zip vs) m x=_;unfold bindC;exact Bm (i:=i) (RL.mp nd).2 (by simpa using h1) (by simpa using h2) hk
def start(N:List Str)(vs:List V):St:=vs.map some++NP (N.length - vs.length) none
def jS(CX:kH)(P:UX)(w:UZ)(K:NH)(mg:Str->Option UJ)(base:UW)(N:List Str)(qual:Str)(scope:Vg)(f:UL)(cd:UJ)(A:U1)(outer:List Env)(s:UM)(H:Hp)(E:XK):Cx where
 prog:=P
 w:=w
 K:=K
 mg:=mg
 base:=base
 A:=A.deeper (VR qual scope s.heap.objs.size f cd)
 N:=N
 s₀:=s
 H₀:=H
 env:=VR qual scope s.heap.objs.size f cd
 outer:=outer
 stack:=VR qual scope s.heap.objs.size f cd::outer
 ex:=[]
 calm:=true
 fn:=λ_=>true
 pn:=[]
 xe:=λe s'=>UO (UP P w) (A.deeper (VR qual scope s.heap.objs.size f cd)) (leaving (VR qual scope s.heap.objs.size f cd) e) (λ_ s''=>CX outer H s E e s'') (λe' s''=>CX outer H s E e' s'') s'
theorem Bn{sc:Vg}{n:Nat}{x:Str}(h:sc.names.lookup x=some .cell):∃c,(Vf n sc.names []).lookup x=some c:=by
 have q:=Ry sc.names n [] (.inl h);exact Qp.mp q
theorem F8{CX:kH}{P:UX}{w:UZ}{K:NH}{mg:Str->Option UJ}{base:UW}{N ps:List Str}{qual:Str}{scope:Vg}{f:UL}{cd:UJ}{A:U1}{outer:List Env}{s s1:UM}{H:Hp}{E:XK}{us:List UJ}{vs:List V}
 (S:aQ N ps scope)(hd:A.handled=none)(e0:pf P w K mg base A outer s H)(hl:vs.length=ps.length)(r:aG vs us)
 (x:InCallC s s.heap.objs.size (bindL (VR qual scope s.heap.objs.size f cd).kindOf (ps.zip us) λ_=>none) (Vf (s.heap.objs.size+1) scope.names []) (bindC (VR qual scope s.heap.objs.size f cd).kindOf (ps.zip us) λ_=>none) s1):
 ag (jS CX P w K mg base N qual scope f cd A outer s H E) [] (start N vs) H s1:=by
 have hpl:ps.length<=N.length:=by have:=congrArg QV S.pre;rw [Pn] at this;omega
 obtain⟨h1,tk,rfl,hk⟩:=x.done;have noA:∀b:UL,b ∉ (jS CX P w K mg base N qual scope f cd A outer s H E).ex:=λb z=>absurd (show b∈([]:List UL) from z) UH;refine⟨⟨e0.mod,S.kind,rfl,rfl,NV _,λy z c h1 h2=>?_,λy hy=>?_,λy c _ h=>?_,λ_=>hd,Around.frames_deeper e0.frames,.inr ⟨rfl,rfl⟩,λb z=>absurd z (noA b),e0.bs,e0.bsz,λb _ _=>noA b,λb z=>absurd z (noA b),e0.funs,e0.frf⟩,
  rfl,e0.bare,Un.kept hk,⟨_,x.toInCall.ns,λi y v h1 h2 h3=>?_⟩,λy c h=>⟨_,x.cell y c h⟩,e0.hok.fresh (NV _),λy c h=>?_,λp hp=>absurd (show p∈([]:List (UL×Obj)) from hp) UH,e0.hok.kept hk,?_⟩
 ·exact name_of_addr x.apart (Qh h1) (Qh h2)
 ·have hy:scope.names.lookup y=some .cell\/scope.names.lookup y=some .free:=hy;rcases hy with hy | hy
  ·exact Bn hy
  ·exact absurd rfl (S.nofree _ (Qh hy))
 ·exact Rf (x.above y c (Qh h))
 ·have hi:i < vs.length:=by
   unfold start at h2;by_cases hi:i < vs.length
   ·exact hi
   ·rw [QB (by simpa using hi)] at h2;rw [QO] at h2;split at h2 <;> cases h2
  have ha:vs[i]?=some v:=by
   unfold start at h2;rw [Qn (by simpa using hi),PY] at h2;cases e:vs[i]? with
   | none=>rw [e] at h2;cases h2
   | some a=>rw [e] at h2;cases h2;rfl
  obtain⟨u,hu,rv⟩:=r.get ha;have hp:ps[i]?=some y:=by
   rw [<-S.pre,List.getElem?_take_of_lt UC];exact h1
  have ndP:ps.Nodup:=by rw [<-S.pre];exact S.nd.sublist (R6 _ _)
  refine⟨u,rv,?_⟩;rcases S.par y (PL hp) with k | k
  ·exact .inl ⟨k,Bl ndP hp hu k⟩
  ·obtain⟨c,e⟩:=Bn (n:=s.heap.objs.size+1) k;refine .inr ⟨.inl k,c,e,?_⟩;have q:=x.cell y c e;rw [Bm ndP hp hu (by show scope.names.lookup y≠_;rw [k];decide)] at q;exact q
 ·exact e0.hok.fresh (Rf (x.above y c (Qh h)))
 ·unfold start;show _=N.length;rw [Pq,NS,SE];omega
theorem Bo{CX:kH}{P:UX}{w:UZ}{K:NH}{mg:Str->Option UJ}{base:UW}{k:Nat}{f:UL}{name qual:Str}{params:Arguments}{body:List U0}{scope:Vg}{dV kV doc pm cdv ct oc:UJ}{an od:Option UL}
 {osl:Array (Option UJ)}{N ps:List Str}{sp:Sp}(lk:K.lookup f=some ⟨oc,od,.func (P8 name qual params body scope dV kV doc pm an cdv ct),osl⟩)(hcd:Rn K cdv qual=true)(S:aQ N ps scope)
 (len:∀vs H Q E,sp vs H Q E->vs.length=ps.length)
 (hbody:∀(A:U1) (outer:List Env) (s:UM) (H:Hp) (vs:List V) (Q:VK) (E:XK),bH k (A.deeper (VR qual scope s.heap.objs.size f cdv))->sp vs H Q E->
   ∃t,bK (jS CX P w K mg base N qual scope f cdv A outer s H E) body t/\t {nx:=λ_ H'=>Q .non H',rt:=Q} (start N vs) H):
 aC P w K mg base CX (k+1) f (P8 name qual params body scope dV kV doc pm an cdv ct) ps sp:=by
 refine⟨len,λA outer s H args us vs Q E hr e0 hb r hsp=>?_⟩;have hl:=len _ _ _ _ hsp;have KX:K.In s.heap:=e0.mod.kin.keeps λb o e=>(e0.bs b o e).1;have lim:s.heap.NoLimit:=e0.mod.nolimit.keeps λb o e=>(e0.bs b o e).1;have hkind:∀y∈ps.zip us,scope.names.lookup y.1=some .local\/(scope.names.lookup y.1=some .cell/\((Vf (s.heap.objs.size+1) scope.names []).lookup y.1).isSome=true):=λuu52 hy=>by
  obtain⟨n,v⟩:=uu52;rcases S.par n (Sw hy).1 with q | q
  ·exact .inl q
  ·exact .inr ⟨q,Ry _ _ _ (.inl q)⟩
 refine codeAny_call_function hr.depth (KX _ _ lk) rfl S.co S.gen rfl (PySem.W.codeRec_of KX hcd) (hb _ _ _ _ ?_);refine wpAny_newFunctionEnv_cells S.kind hkind λenv he s1 x=>?_;subst he;refine⟨lim.keeps x.toInCall.keep,codeAny_func ?_⟩;obtain⟨t,ht,hq⟩:=hbody A outer s H vs Q E (hr.deeper _) hsp;have I:ag (jS CX P w K mg base N qual scope f cdv A outer s H E) [] (start N vs) H s1:=F8 S hr.hd e0 hl r x;refine U6 (ht [] s1 (start N vs) H _ I hq) (λfl s' hs=>?_) λe s' hs=>hs;have fin:∀{σ':St}{H':Hp}{v:V}{u:UJ},ag (jS CX P w K mg base N qual scope f cdv A outer s H E) [] σ' H' s'->aD v u->Q v H'->CE outer P w H s Q u s':=
  λ{σ' H' v u} J rv q=>⟨v,H',J.os,J.bare,J.base,J.hok,rv,q⟩
 cases fl with
 | ret u=>
  obtain⟨v,σ',H',J,rv,q⟩:=hs;exact fin J rv q
 | next=>
  obtain⟨σ',H',J,q⟩:=hs;exact fin (v:=V.non) (u:=Qa) J rfl q
 | brk=>
  obtain⟨_,_,_,q⟩:=hs;exact Px q
 | cont=>
  obtain⟨_,_,_,q⟩:=hs;exact Px q
section
variable {X:Cx} {x:Str} {p pos:Pos} {e:US} {es:List US} {t:TA} {id T:String} {r:List V->Hp->VK->Prop}
def rC(r:List V->Hp->VK->Prop)(t:TA):TE:=λσ H Q=>t σ H λvs H1=>r vs H1 Q
theorem aT(hc:kq X (.builtin id) r)(hg:Gl X x)(hm:X.mg x=none)(hv:U4 x=some (.builtin id))(ha:PA X (e::es) t)(hn:x≠"__name__":=by decide)(hdb:(x==("__debug__":Str))=false:=by decide)
 (he:UQ (e::es) X.env=(false,eval e X.env)::UQ es X.env:=by rfl)(hpl:(U7 pos (UQ es X.env)).any (·.1)=false:=by rfl):PE X (.Call (.Name x p) (e::es) [] pos) (rC r t):=by
 intro Wx s σ H Q I h;refine Vt (p5 I hg hm hv ?_ hn hdb);exact PyProof.Rows.callWith_builtin1 (ax (ha pos Wx s σ H _ I h) λus s1 uu53=>by obtain⟨vs,H1,I1,r1,q1⟩:=uu53;exact hc Wx s1 σ H1 vs us Q I1 r1 q1) he hpl
theorem cJ(hc:kq X (.type T) r)(hg:Gl X x)(hm:X.mg x=none)(hv:U4 x=some (.type T))(ha:PA X (e::es) t)(hn:x≠"__name__":=by decide)(hdb:(x==("__debug__":Str))=false:=by decide)
 (he:UQ (e::es) X.env=(false,eval e X.env)::UQ es X.env:=by rfl)(hpl:(U7 pos (UQ es X.env)).any (·.1)=false:=by rfl):PE X (.Call (.Name x p) (e::es) [] pos) (rC r t):=by
 intro Wx s σ H Q I h;refine Vt (p5 I hg hm hv ?_ hn hdb);exact Qw (ax (ha pos Wx s σ H _ I h) λus s1 uu54=>by obtain⟨vs,H1,I1,r1,q1⟩:=uu54;exact hc Wx s1 σ H1 vs us Q I1 r1 q1) he hpl
end
end L2
namespace HT
open PySem PyProof.Rows
def lexLt:List Int->List Int->Bool
 | [],[]=>false
 | [],_::_=>true
 | _::_,[]=>false
 | x::xs,y::ys=>if x=y then lexLt xs ys else decide (x < y)
section
open PySem.SeqAt
open PySem.AutoSeq1 (wpAny_loadPart')
open PySem.MeetsSeq PySem.MeetsSeq2 PySem.MeetsSeq3
end
section
variable {prog:UX} {w:UZ} {A:U1} {E:UJ->UM->Prop} {s:UM}
theorem cat_tup{t b:UL}{vs ws:List UJ}{Q:UJ->UM->Prop}(ht:IsTup s.heap t vs.toArray)(hb:IsTup s.heap b ws.toArray)(hv:vs≠[])
 (h1:ws=[]->Q (.ref t) s)(h2:ws≠[]->Q (.ref s.heap.objs.size) {s with heap:=s.heap.push {cls:= .type "tuple",data:= .seq (vs++ws).toArray}})
 (hsz:vs.length+ws.length<=UR):UO (UP prog w) A (Vl .Add (.ref t) (.ref b)) Q E s:=by
 obtain⟨⟨cls,dd,data,sl⟩,ho,hc,n,hd⟩:=id ht;obtain⟨⟨cls2,dd2,data2,sl2⟩,ho2,hc2,n2,hd2⟩:=id hb;simp only at hc hd hc2 hd2;subst hc hd hc2 hd2;have e:vs.toArray++ws.toArray=(vs++ws).toArray:=UH
 by_cases hw:ws=[]
 ·exact concat_meets ⟨_,ho,rfl⟩ ⟨_,ho2,rfl⟩ Wu seq_tuple_add Rz Rr (Rh _ _)
   (tuple_addW1 t b vs.toArray ws.toArray n n2 dd dd2 sl sl2 (by simpa using hv) (by simp [hw])) ⟨ho,ho2,h1 hw⟩
 ·refine concat_meets ⟨_,ho,rfl⟩ ⟨_,ho2,rfl⟩ Wu seq_tuple_add Rz Rr (Rh _ _)
   (tuple_addW2 t b vs.toArray ws.toArray n n2 dd dd2 sl sl2 (by simpa using hv) (by simpa using hw) (by rw [Ot,Ot];exact hsz)) ⟨ho,ho2,?_⟩
  rw [e];exact h2 hw
def sIx(n d:Nat):Option Int->Nat
 | none=>d
 | some v=>if v < 0 then(v+(n:Int)).toNat else min v.toNat n
theorem ph(n d:Nat):sIx n d none=d:=rfl
theorem sIx_nat(n d k:Nat):sIx n d (some (k:Int))=min k n:=by
 show(if (k:Int) < 0 then((k:Int)+(n:Int)).toNat else min (k:Int).toNat n)=min k n;rw [UD UC,O9]
theorem sIx_le(n d:Nat)(hd:d<=n)(o:Option Int):sIx n d o<=n:=by
 cases o with
 | none=>exact hd
 | some v=>
  show(if v < 0 then(v+(n:Int)).toNat else min v.toNat n)<=n;by_cases hv:v < 0
  ·rw [UE hv];omega
  ·rw [UD hv];exact TH _ _
theorem Bp(v:Int)(n d:Nat):(if v < 0 then max (v+(n:Int)) 0 else min v (n:Int))=((sIx n d (some v):Nat):Int):=by
 show(if v < 0 then max (v+(n:Int)) 0 else min v (n:Int))=(((if v < 0 then(v+(n:Int)).toNat else min v.toNat n):Nat):Int);by_cases hv:v < 0
 ·simp only [UE hv];omega
 ·simp only [UD hv];omega
theorem F9(lo hi:Option Int)(n:Nat):Q9 lo hi 1 (n:Int)=(((sIx n 0 lo:Nat):Int),((sIx n n hi:Nat):Int)):=by
 have h1:¬((1:Int) < 0):=UC
 unfold Q9;simp only [h1,if_false];refine Prod.ext ?_ ?_
 ·cases lo with
  | none=>rfl
  | some v=>exact Bp v n 0
 ·cases hi with
  | none=>rfl
  | some v=>exact Bp v n n
theorem Ga(i j:Nat):QE (i:Int) (j:Int) 1=j - i:=by
 unfold QE;have h1:(1:Int) > 0:=UC
 simp only [h1,if_true,Uh];split <;> omega
theorem Bq{v:UJ}{o:Option Int}{Q:Option Int->UM->Prop}(p:IsPart v o)(h:Q o s):UO (UP prog w) A (Builtin.Slice.slicePartIndex v) Q E s:=by
 cases p with
 | none=>exact slicePart_none h
 | int i t=>exact slicePart_int h
theorem sliceApplied_gen{sl:UL}{vl vu:UJ}{lo hi:Option Int}{n:Nat}{Q:Int×Int×Nat->UM->Prop}(hs:s.heap.IsSliceOf sl vl vu .none)(pl:IsPart vl lo)(pu:IsPart vu hi)
 (h:Q (((sIx n 0 lo:Nat):Int),1,sIx n n hi - sIx n 0 lo) s):UO (UP prog w) A (R0 (.ref sl) (pure (n:Int))) Q E s:=by
 obtain⟨os,hos,hcs,hds⟩:=id hs;unfold R0 Builtin.Slice.sliceFields;refine UK (UK (Vd hos hds (x:=vl) rfl (UK (Vd hos hds (x:=vu) rfl (UK (Vd hos hds (x:= .none) rfl (UN ?_)))))));refine UK (slicePart_none ?_);show UO _ _ (if ((1:Int)==0)=true then _ else _) _ _ s;rw [UD Ce];refine UK (Bq pl (UK (Bq pu (UK (UN ?_)))));show UO _ _ (match Q9 lo hi 1 (n:Int) with | (lo,hi)=>pure (lo,(1:Int),QE lo hi 1)) _ _ s;rw [F9 lo hi n];show UO _ _ (pure (((sIx n 0 lo:Nat):Int),(1:Int),QE ((sIx n 0 lo:Nat):Int) ((sIx n n hi:Nat):Int) 1)) _ _ s;rw [Ga];exact UN h
theorem Gb(xs:Array UJ)(i k:Nat):((PH k).filterMap λ(m:Nat)=>xs[((i:Int)+(m:Int)*1).toNat]?).toArray=((xs.toList.drop i).take k).toArray:=by
 have e:(λ(m:Nat)=>xs[((i:Int)+(m:Int)*1).toNat]?)=λm=>xs[i+m]?:=by
  funext m;have:((i:Int)+(m:Int)*1).toNat=i+m:=UC
  rw [this]
 rw [e];have:=pick_run xs i k;rw [Td] at this;have e2:((λx=>xs[x]?)∘ λx=>i+x)=λm=>xs[i+m]?:=rfl;rw [e2] at this;rw [this]
theorem getItem_tuple_cut{t sl:UL}{items:Array UJ}{vl vu:UJ}{lo hi:Option Int}{Q:UJ->UM->Prop}(ht:IsTup s.heap t items)(hs:s.heap.IsSliceOf sl vl vu .none)(pl:IsPart vl lo)(pu:IsPart vu hi)
 (hw:¬(sIx items.size 0 lo=0/\sIx items.size items.size hi=items.size))
 (h:Q (.ref s.heap.objs.size) {s with heap:=s.heap.push {cls:= .type "tuple",data:= .seq ((items.toList.drop (sIx items.size 0 lo)).take (sIx items.size items.size hi - sIx items.size 0 lo)).toArray}})
 (hsz:items.size<=UR):UO (UP prog w) A (V9 (.ref t) (.ref sl)) Q E s:=by
 have htake:sizeOk (.seq ((items.toList.drop (sIx items.size 0 lo)).take (sIx items.size items.size hi - sIx items.size 0 lo)).toArray):=by
  show((items.toList.drop (sIx items.size 0 lo)).take (sIx items.size items.size hi - sIx items.size 0 lo)).toArray.size<=UR;rw [Ot,Pn,Pw,N0];omega
 have hj:sIx items.size items.size hi<=items.size:=sIx_le _ _ (NV _) hi;obtain⟨os,hos,hcs,hds⟩:=id hs;have hTs:s.TypeIs (.ref sl) "slice":=⟨os,hos,hcs⟩;unfold V9
 try with_reducible refine Vc ?_
 first | refine UK (UN ?_) | skip
 refine UK (wpAny_sequenceKey ht.typeIs Ce ?_);refine UK (U5 (name:=NG "__getitem__") ht.typeIs Qo
  (U8 Qo ht.typeIs entry_tuple_getitem ?_ (args_tuple_getitem _ _)))
 show UO _ _ (R1 (.ref t) >>=_) _ _ s;refine UK (tupleItemsOf_ ht ?_);refine UK (We hTs ?_);rw [UE Ce];refine UK (sliceApplied_gen hs pl pu ?_);have hno:¬((((sIx items.size 0 lo:Nat):Int)==0 && (1:Int)==1 && (sIx items.size items.size hi - sIx items.size 0 lo)==items.size)=true):=by
  intro q;rw [Oo,Oo] at q;have q1:((sIx items.size 0 lo:Nat):Int)=0:=eq_of_beq q.1.1;have q2:sIx items.size items.size hi - sIx items.size 0 lo=items.size:=eq_of_beq q.2;exact hw ⟨UC,UC⟩
 show UO _ _ (if (((sIx items.size 0 lo:Nat):Int)==0 && (1:Int)==1 && (sIx items.size items.size hi - sIx items.size 0 lo)==items.size)=true then _ else _) _ _ s;rw [UD hno,Gb]
 first
  | exact UK (m:=QI _) (U3 (UN ⟨_,rfl,UN h⟩) htake)
  | exact UK (m:=QI _) (U3 (UK (UN (UN ⟨_,rfl,UN h⟩))) htake)
  | exact UK (UK (m:=QI _) (U3 (UN (UN ⟨_,rfl,UN h⟩)) htake))
  | exact UK (UK (m:=QI _) (U3 (UN ⟨_,rfl,UN h⟩) htake))
end
end HT
namespace L2
open PySem PySem.Spec PyProof.Rows
abbrev TO:=St->Hp->(Option Int->Hp->Prop)->Prop
def PO(X:Cx)(e:Option US)(t:TO):Prop:=
 ∀(Wx:List (UL×Obj))(s:UM)(σ:St)(H:Hp)(Q:Option Int->Hp->Prop),ag X Wx σ H s->t σ H Q->
  UO (UP X.prog X.w) X.A (evalPart e X.env) (λu s'=>∃o H',ag X Wx σ H' s'/\IsPart u o/\Q o H') X.xe s
def Gd:TO:=λ_ H Q=>Q none H
def Ge(t:TE):TO:=λσ H Q=>t σ H λx H1=>∃i,x= .int i/\Q (some i) H1
theorem Gf{ns:List Int}:∀{us:List UJ},aG (ns.map V.int) us->IntsAre us ns:=by
 induction ns with
 | nil=>intro us r;rw [Of] at r;cases r;exact .nil
 | cons n ns ih=>
  intro us r;rw [NN] at r;cases r with
  | cons r1 r2=>
   obtain⟨t,e⟩:=r1;subst e;exact .cons n t (ih r2)
section
variable {X:Cx} {e:US} {te:TE} {lo hi:Option US} {tl th:TO} {pos p2:Pos}
theorem Gg:PO X none Gd:=by
 intro Wx s σ H Q I h;rw [evalPart_none];exact UN ⟨none,H,I,.none,h⟩
theorem Gh(h:PE X e te):PO X (some e) (Ge te):=by
 intro Wx s σ H Q I hw;rw [evalPart_some];refine ax (h Wx s σ H _ I hw) λu s1 ⟨x,H1,I1,r1,q1⟩=>?_;obtain⟨i,rfl,q⟩:=q1;obtain⟨t,rfl⟩:=r1;exact⟨some i,H1,I1,.int i t,q⟩
def rD(X:Cx)(r:V->Option Int->Option Int->Hp->VK->Prop):Prop:=
 ∀(Wx:List (UL×Obj))(s:UM)(σ:St)(H:Hp)(x:V)(v vl vu:UJ)(lo hi:Option Int)(sl:UL)(Q:VK),ag X Wx σ H s->aD x v->s.heap.IsSliceOf sl vl vu .none->IsPart vl lo->IsPart vu hi->r x lo hi H Q->
  ∃T id,typeLookup (.type T) "__getitem__"=pure (some (.builtin id))/\s.TypeIs v T/\UO (UP X.prog X.w) X.A (V9 v (.ref sl)) (EP X Wx σ Q) X.xe s
def Gi(r:V->Option Int->Option Int->Hp->VK->Prop)(te:TE)(tl th:TO):TE:=λσ H Q=>te σ H λx H1=>tl σ H1 λl H2=>th σ H2 λu H3=>r x l u H3 Q
theorem vH{r:V->Option Int->Option Int->Hp->VK->Prop}(hr:rD X r)(he:PE X e te)(hl:PO X lo tl)(hu:PO X hi th):PE X (.Subscript e (.Slice lo hi none p2) pos) (Gi r te tl th):=by
 intro Wx s σ H Q I h;refine Subscript_ (ax (he Wx s σ H _ I h) λv s1 ⟨x,H1,I1,r1,q1⟩=>?_);refine wpAny_Slice (ax (hl Wx s1 σ H1 _ I1 q1) λvl s2 ⟨l,H2,I2,pl,q2⟩=>ax (hu Wx s2 σ H2 _ I2 q2) λvu s3 ⟨u,H3,I3,pu,q3⟩=>?_);rw [evalPart_none];refine UN ?_;have I4:ag X Wx σ H3 {s3 with heap:=s3.heap.push {cls:= .type "slice",data:= .fields #[vl,vu,.none]}}:=I3.kept (t':=s3.toks) λb ob q=>NK _ q;obtain⟨T,id,hT,ht,hg⟩:=hr Wx {s3 with heap:=s3.heap.push {cls:= .type "slice",data:= .fields #[vl,vu,.none]}} σ H3 x v vl vu l u s3.heap.objs.size Q I4 r1 (Te ..) pl pu q3;show UO (UP X.prog X.w) X.A (subscriptTail e (.Slice lo hi none p2) v (.ref s3.heap.objs.size)) (EP X Wx σ Q) X.xe {s3 with heap:=s3.heap.push {cls:= .type "slice",data:= .fields #[vl,vu,.none]}};exact tail_any (ops:=[.ref s3.heap.objs.size,v]) ht hT hg (by with_unfolding_all rfl)
def nP(xs:List V)(lo hi:Option Int):List V:=(xs.drop (HT.sIx xs.length 0 lo)).take (HT.sIx xs.length xs.length hi - HT.sIx xs.length 0 lo)
theorem Br(xs:List V)(lo hi:Option Int):(nP xs lo hi).length<=xs.length:=by
 unfold nP;rw [Pn,Pw];omega
def Gj(K:NH):V->Option Int->Option Int->Hp->VK->Prop:=λx lo hi H Q=>∃a xs,x= .ref a/\aX K H a xs/\
 ¬(HT.sIx xs.length 0 lo=0/\HT.sIx xs.length xs.length hi=xs.length)/\∀p,H p=none->Q (.ref p) (ak H p (.tup (nP xs lo hi)))
theorem Gk:rD X (Gj X.K):=by
 intro Wx s σ H x v vl vu lo hi sl Q I rx hs pl pu h;obtain⟨a,xs,rfl,hx,hw,q⟩:=h;cases rx;obtain⟨its,r,ht,hz⟩:=I.tuple hx;have hlen:its.toArray.size=xs.length:=by rw [Ot];exact r.length.symm
 refine⟨"tuple",_,Qo.lookup,ht.typeIs,?_⟩;refine HT.getItem_tuple_cut ht hs pl pu (by rw [hlen];exact hw) ?_ (by rw [hlen];exact hz);rw [hlen];refine⟨.ref s.heap.objs.size,_,I.laid (t':=s.toks) (o:= .tup (nP xs lo hi)) (λb ob q=>NK _ q) (NV _) ?_,rfl,q _ (I.hok.fresh (NV _))⟩;exact⟨OB (Br xs lo hi) hz,_,(r.drop (HT.sIx xs.length 0 lo)).take (HT.sIx xs.length xs.length hi - HT.sIx xs.length 0 lo),Ta _ _⟩
def vI(K:NH):R2:=λx y H Q=>∃a b xs ys,x= .ref a/\y= .ref b/\aX K H a xs/\aX K H b ys/\xs≠[]/\xs.length+ys.length<=UR/\
 (ys=[]->Q (.ref a) H)/\(ys≠[]->∀p,H p=none->Q (.ref p) (ak H p (.tup (xs++ys))))
theorem aG.nil_iff{xs:List V}{us:List UJ}(r:aG xs us):us=[]↔xs=[]:=by
 cases r with
 | nil=>simp
 | cons _ _=>simp
theorem Gm:br X (Vl .Add) (vI X.K):=by
 intro Wx s σ H x y v u Q I rx ry h;obtain⟨a,b,xs,ys,rfl,rfl,ha,hb,hx,hz,q1,q2⟩:=h;cases rx;cases ry;obtain⟨its,r1,p1,_⟩:=I.tuple ha;obtain⟨its2,r2,p2,_⟩:=I.tuple hb;refine HT.cat_tup p1 p2 (λz=>hx (r1.nil_iff.mp z)) (λz=>⟨.ref a,H,I,rfl,q1 (r2.nil_iff.mp z)⟩) (λz=>?_) (by rw [<-r1.length,<-r2.length];exact hz);refine⟨.ref s.heap.objs.size,_,I.laid (t':=s.toks) (o:= .tup (xs++ys)) (λb ob q=>NK _ q) (NV _) ?_,rfl,q2 (λw=>z (r2.nil_iff.mpr w)) _ (I.hok.fresh (NV _))⟩;exact⟨by rw [Pq];exact hz,_,r1.append r2,Ta _ _⟩
end
def nQ(n:Nat)(i:Int):Option Nat:=if 0<=i then(if i < n then some i.toNat else none) else if -(n:Int)<=i then some (i+n).toNat else none
def atI{α:Type}(xs:List α)(i:Int):Option α:=(nQ xs.length i).bind λj=>xs[j]?
theorem Bs{n:Nat}{i:Int}{j:Nat}(h:nQ n i=some j):seqIndex? i n=some j/\j < n/\-(n:Int)<=i/\i < n:=by
 unfold nQ at h;by_cases h0:0<=i
 ·rw [UE h0] at h;by_cases h1:i < n
  ·rw [UE h1] at h;have e:i.toNat=j:=Ph h;exact⟨by rw [seqIndex_of h0 h1,e],UC,UC,h1⟩
  ·rw [UD h1] at h;cases h
 ·rw [UD h0] at h;by_cases h1:-(n:Int)<=i
  ·rw [UE h1] at h;have e:(i+n).toNat=j:=Ph h;exact⟨by rw [seqIndex_neg UC h1,e],UC,h1,UC⟩
  ·rw [UD h1] at h;cases h
theorem vJ{α:Type}{xs:List α}{i:Int}{v:α}(h:atI xs i=some v):∃j,seqIndex? i xs.length=some j/\xs[j]?=some v/\j < xs.length/\-(xs.length:Int)<=i/\i < xs.length:=by
 unfold atI at h;cases e:nQ xs.length i with
 | none=>rw [e] at h;cases h
 | some j=>
  rw [e] at h;obtain⟨h1,h2,h3,h4⟩:=Bs e;exact⟨j,h1,h,h2,h3,h4⟩
theorem mF{α:Type}{xs:List α}{j:Nat}{v:α}(h:xs[j]?=some v):atI xs (j:Int)=some v:=by
 have hj:j < xs.length:=(OW.mp h).1;have e:nQ xs.length (j:Int)=some j:=by
  unfold nQ;rw [UE UC,UE UC];simp
 unfold atI;rw [e];exact h
def Gn(b:US):Prop:=∀o i,subscripted b false o i=operate [o,i] (V9 o i)
def qh(X:Cx)(r:R2):Prop:=
 ∀(value slice:US)(Wx:List (UL×Obj))(s:UM)(σ:St)(H:Hp)(x y:V)(v u:UJ)(Q:VK),ag X Wx σ H s->aD x v->aD y u->r x y H Q->
  subscripted slice false v u=operate [v,u] (V9 v u)->UO (UP X.prog X.w) X.A (subscriptTail value slice v u) (EP X Wx σ Q) X.xe s
def rE(X:Cx)(id:String)(r:V->List V->Hp->VK->Prop):Prop:=
 ∀(Wx:List (UL×Obj))(s:UM)(σ:St)(H:Hp)(x:V)(xs:List V)(v:UJ)(us:List UJ)(Q:VK),ag X Wx σ H s->aD x v->aG xs us->r x xs H Q->
  UO (UP X.prog X.w) X.A (call (.builtin id) (v::us)) (EP X Wx σ Q) X.xe s
section
variable {X:Cx} {a b:US} {ta tb:TE} {pos:Pos}
theorem sX{r:R2}(hr:qh X r)(ha:PE X a ta)(hb:PE X b tb)(hs:Gn b):PE X (.Subscript a b pos) (oX r ta tb):=by
 intro Wx s σ H Q I h;exact Subscript_ (vx ha hb I h λv u s2 x y H2 I2 rx ry q=>hr a b Wx s2 σ H2 x y v u Q I2 rx ry q (hs _ _))
def vK(K:NH):R2:=λx y H Q=>∃p xs i v,x= .ref p/\y= .int i/\bj K H p xs/\atI xs i=some v/\Q v H
def vL(K:NH):R2:=λx y H Q=>∃p xs i v,x= .ref p/\y= .int i/\aX K H p xs/\atI xs i=some v/\Q v H
def Bt:R2:=λx y H Q=>∃z i c,x= .str z/\y= .int i/\z.length<=UR/\atI z.cps.toList i=some c/\Q (.str ⟨#[c]⟩) H
theorem aM:qh X (vK X.K):=by
 intro value slice Wx s σ H x y v u Q I rx ry h hs;obtain⟨p,xs,i,z,rfl,rfl,hq,he,q⟩:=h;cases rx;obtain⟨t,rfl⟩:=ry;obtain⟨its,r,pl,hz⟩:=I.list hq;obtain⟨j,h1,h2,h3,h4,h5⟩:=vJ he;obtain⟨w,ew,rw'⟩:=r.get h2;have hl:=r.length;have hn:=pd;have fin:EP X Wx σ Q w s:=⟨z,H,I,rw',q⟩;by_cases h0:0<=i
 ·have hj:i.toNat=j:=by
   rw [seqIndex_of h0 h5] at h1;exact Ph h1
  exact item_listR pl.isList h0 UC (by rw [hj];simpa using ew) fin hs
 ·have hj:(i+(its.toArray.size:Int)).toNat=j:=by
   rw [seqIndex_neg UC h4] at h1;rw [Ot,<-hl];exact Ph h1
  exact subscriptTail_builtinR (x:=w) pl.isList.typeIs slot_list_getitem.lookup
   (wpAny_getItem_list_neg (Q:=λr s'=>r=w/\EP X Wx σ Q r s') pl.isList UC (by rw [Ot] <;> omega) UC (by rw [hj];simpa using ew) ⟨rfl,fin⟩) hs
theorem aO:qh X (vL X.K):=by
 intro value slice Wx s σ H x y v u Q I rx ry h hs;obtain⟨p,xs,i,z,rfl,rfl,hq,he,q⟩:=h;cases rx;obtain⟨t,rfl⟩:=ry;obtain⟨its,r,pl,hz⟩:=I.tuple hq;obtain⟨j,h1,h2,h3,h4,h5⟩:=vJ he;obtain⟨w,ew,rw'⟩:=r.get h2;have hl:=r.length;have hn:=pd;have fin:EP X Wx σ Q w s:=⟨z,H,I,rw',q⟩;exact subscriptTail_builtinR (x:=w) pl.typeIs slot_tuple_getitem.lookup
  (getItem_tuple (j:=j) (Q:=λr s'=>r=w/\EP X Wx σ Q r s') pl UC UC (by rw [Ot,<-hl];exact h1) (by simpa using ew) ⟨rfl,fin⟩) hs
theorem sY:qh X Bt:=by
 intro value slice Wx s σ H x y v u Q I rx ry h hs;obtain⟨z,i,c,rfl,rfl,hz,he,q⟩:=h;obtain⟨t,rfl⟩:=rx;obtain⟨t',rfl⟩:=ry;obtain⟨j,h1,h2,h3,h4,h5⟩:=vJ he;have hl:z.cps.toList.length=z.length:=by simp [Str.length]
 rw [hl] at h1 h4 h5;have hn:=pd;exact tail_any (VA s z t) slot_str_getitem.lookup (getItem_str (c:=c) (by
  have e1:decide (i < -(2 ^ 63:Int))=false:=decide_eq_false UC;have e2:decide (i >= 2 ^ 63)=false:=decide_eq_false UC;rw [e1,e2,OC]) (by rw [h1];simpa using h2) ⟨.str ⟨#[c]⟩,H,I.tok _,⟨_,rfl⟩,q⟩) hs
theorem Gp(its:List UJ)(n j:Nat)(u:UJ):Ro (·.setIfInBounds j u) {cls:= .type "list",data:= .seq its.toArray n}={cls:= .type "list",data:= .seq (its.set j u).toArray n}:=by
 simp [Ro]
theorem ag.lst{Wx:List (UL×Obj)}{σ:St}{H:Hp}{s:UM}{p:UL}{xs:List V}(I:ag X Wx σ H s)(h:H p=some (.lst xs)):
 ∃(its:List UJ)(n:Nat),aG xs its/\s.heap.get? p=some {cls:= .type "list",data:= .seq its.toArray n}/\xs.length<=UR:=by
 obtain⟨z,its,n,r,e⟩:=I.hok p _ h;exact⟨its,n,r,e,z⟩
theorem ag.lstUpd{Wx:List (UL×Obj)}{σ:St}{H:Hp}{s:UM}{p:UL}{xs ys:List V}{its its':List UJ}{n n':Nat}{f:Obj->Obj}(I:ag X Wx σ H s)(h:H p=some (.lst xs))
 (ho:s.heap.get? p=some {cls:= .type "list",data:= .seq its.toArray n})(hf:f {cls:= .type "list",data:= .seq its.toArray n}={cls:= .type "list",data:= .seq its'.toArray n'})(r:aG ys its')(hz:ys.length<=UR)(t:Nat):
 ag X Wx σ (ak H p (.lst ys)) {s with heap:=s.heap.update p f,toks:=t}:=by
 have e:(s.heap.update p f).get? p=some {cls:= .type "list",data:= .seq its'.toArray n'}:=by
  rw [Pj f ho (by rw [hf] <;> rfl),hf]
 refine I.write (x:=p) (e:=p) (by rw [h];trivial) (.inl rfl) (λb u hb q=>(PR _ _ (Ne.symm hb)).trans q) ⟨_,e⟩ ?_;exact⟨hz,its',n',r,e⟩
def Gq:V->V->V->Hp->(Hp->Prop)->Prop:=λo i v H Q=>∃p xs k j,o= .ref p/\i= .int k/\H p=some (.lst xs)/\nQ xs.length k=some j/\Q (ak H p (.lst (xs.set j v)))
theorem Gr:A4 X Gq:=by
 intro Wx s σ H o i v ov iv u Q I ro ri rv h;obtain⟨p,xs,k,j,rfl,rfl,hp,hj,q⟩:=h;cases ro;obtain⟨t,rfl⟩:=ri;obtain⟨its,n,r,ho,hz⟩:=I.lst hp;obtain⟨h1,h2,h3,h4⟩:=Bs hj;have hl:=r.length;have hn:=pd;have I':ag X Wx σ (ak H p (.lst (xs.set j v))) {s with heap:=s.heap.update p (Ro (·.setIfInBounds j u))}:=
  I.lstUpd hp ho (Gp its n j u) (r.set rv j) (by rw [List.length_set];exact hz) s.toks
 by_cases h0:0<=k
 ·have hk:k.toNat=j:=by
   rw [seqIndex_of h0 h4] at h1;exact Ph h1
  exact PySem.W.ki_setAt ho h0 UC (by rw [Ot,<-hl];exact h4) (by rw [hk];exact⟨_,I',q⟩)
 ·have hk:(k+(its.toArray.size:Int)).toNat=j:=by
   rw [seqIndex_neg UC h3] at h1;rw [Ot,<-hl];exact Ph h1
  exact PySem.W.ki_setBack ho UC (by rw [Ot,<-hl];exact h3) UC (by rw [hk];exact⟨_,I',q⟩)
theorem Gs(lo hi:Option Int)(n:Nat):(VT lo hi none n).1=((HT.sIx n 0 lo:Nat):Int)/\(VT lo hi none n).2.1=((HT.sIx n n hi:Nat):Int)/\(VT lo hi none n).2.2=1:=by
 refine⟨?_,?_,rfl⟩
 ·cases lo with
  | none=>simp [VT,HT.sIx]
  | some i=>
   simp only [VT,HT.sIx,TJ,show(1:Int) > 0 by decide,if_true];by_cases h:i < 0
   ·simp only [h,if_true] <;> omega
   ·simp only [h,if_false] <;> omega
 ·cases hi with
  | none=>simp [VT,HT.sIx]
  | some i=>
   simp only [VT,HT.sIx,TJ,show(1:Int) > 0 by decide,if_true];by_cases h:i < 0
   ·simp only [h,if_true] <;> omega
   ·simp only [h,if_false] <;> omega
theorem Gu(its:List UJ)(lo hi:Option Int):slicePick its.toArray lo hi none=((its.drop (HT.sIx its.length 0 lo)).take (HT.sIx its.length its.length hi - HT.sIx its.length 0 lo)).toArray:=by
 obtain⟨h1,h2,h3⟩:=Gs lo hi its.toArray.size;unfold slicePick;rw [h1,h2,h3];simp only [sliceRange_one,pick_run,Ot] <;> rfl
def Gv(K:NH):V->Option Int->Option Int->Hp->VK->Prop:=λx lo hi H Q=>∃a xs,x= .ref a/\bj K H a xs/\∀p,H p=none->Q (.ref p) (ak H p (.lst (nP xs lo hi)))
theorem Gw:rD X (Gv X.K):=by
 intro Wx s σ H x v vl vu lo hi sl Q I rx hs pl pu h;obtain⟨a,xs,rfl,hx,q⟩:=h;cases rx;obtain⟨its,r,ht,hz⟩:=I.list hx;have hlen:=r.length;refine⟨"list",_,slot_list_getitem.lookup,ht.isList.typeIs,?_⟩;refine Wv ht.isList hs pl pu .none UH ?_ (by rw [Ot] <;> omega);rw [Gu,<-hlen];refine⟨.ref s.heap.objs.size,_,I.laid (t':=s.toks) (o:= .lst (nP xs lo hi)) (λb ob q=>NK _ q) (NV _) ?_,rfl,q _ (I.hok.fresh (NV _))⟩;exact⟨OB (Br xs lo hi) hz,_,0,(r.drop (HT.sIx xs.length 0 lo)).take (HT.sIx xs.length xs.length hi - HT.sIx xs.length 0 lo),N7 _ rfl⟩
theorem jZ:kq X (.builtin "len") (λxs H Q=>∃p ys,xs=[.ref p]/\(bj X.K H p ys\/aX X.K H p ys)/\Q (.int ys.length) H):=by
 intro Wx s σ H xs us Q I r h;obtain⟨p,ys,rfl,hq,q⟩:=h;obtain⟨u,rfl,rx⟩:=kY r;cases rx;have hn:=pd;rcases hq with hq | hq
 ·obtain⟨its,r',pl,hz⟩:=I.list hq;have hlen:=r'.length;exact S6 pl.isList (by simp only [Ot] <;> omega) ⟨.int ys.length,H,I.tok _,⟨s.toks+1,by rw [Ot,hlen]⟩,q⟩
 ·obtain⟨its,r',pl,hz⟩:=I.tuple hq;have hlen:=r'.length;exact len_tuple pl (by simp only [Ot] <;> omega) ⟨.int ys.length,H,I.tok _,⟨s.toks+1,by rw [Ot,hlen]⟩,q⟩
theorem mS:kq X (.builtin "len") (λxs H Q=>∃z,xs=[.str z]/\z.length<=UR/\Q (.int z.length) H):=by
 intro Wx s σ H xs us Q I r h;obtain⟨z,rfl,hz,q⟩:=h;obtain⟨u,rfl,t,rfl⟩:=kY r;have hn:=pd;exact len_str UC ⟨.int z.length,H,I.tok _,⟨_,rfl⟩,q⟩
theorem Gx:kq X (.type "list") (λxs H Q=>∃p ys,xs=[.ref p]/\(bj X.K H p ys\/aX X.K H p ys)/\∀l,H l=none->Q (.ref l) (ak H l (.lst ys))):=by
 intro Wx s σ H xs us Q I r h;obtain⟨p,ys,rfl,hq,q⟩:=h;obtain⟨u,rfl,rx⟩:=kY r;cases rx;have fin:∀(its:List UJ),aG ys its->ys.length<=UR->∀(h':UW)(c':Nat),(∀b o',s.heap.get? b=some o'->h'.get? b=some o')->
  h'.get? s.heap.objs.size=some {cls:= .type "list",dict:=none,data:= .seq its.toArray c',slots:=#[]}->EP X Wx σ Q (.ref s.heap.objs.size) {s with heap:=h'}:=λits r' hz h' c' kp e=>
  ⟨.ref s.heap.objs.size,_,I.laid (t':=s.toks) kp (NV _) (show bE X.prog X.w _ h' _ (.lst ys) from⟨hz,its,c',r',e⟩),rfl,q _ (I.hok.fresh (NV _))⟩
 rcases hq with hq | hq
 ·obtain⟨its,r',pl,hz⟩:=I.list hq;have hlen:=r'.length;obtain⟨o,ho,hc,n,hd⟩:=pl.isList;exact call_list_seq p (.inl rfl) ho hc hd (λh' c' kp e=>fin its r' hz h' c' kp e) (by simp only [Ot] <;> omega)
 ·obtain⟨its,r',pl,hz⟩:=I.tuple hq;have hlen:=r'.length;obtain⟨o,ho,hc,n,hd⟩:=pl;exact call_list_seq p (.inr rfl) ho hc hd (λh' c' kp e=>fin its r' hz h' c' kp e) (by simp only [Ot] <;> omega)
theorem mG:kq X (.type "tuple") (λxs H Q=>∃p ys,xs=[.ref p]/\((bj X.K H p ys/\∀l,H l=none->Q (.ref l) (ak H l (.tup ys)))\/(aX X.K H p ys/\Q (.ref p) H))):=by
 intro Wx s σ H xs us Q I r h;obtain⟨p,ys,rfl,h⟩:=h;obtain⟨u,rfl,rx⟩:=kY r;cases rx;rcases h with⟨hq,q⟩ | ⟨hq,q⟩
 ·obtain⟨its,r',pl,hz⟩:=I.list hq;have hlen:=r'.length;refine call_tuple_list pl.isList (λh' kp=>?_) (by simp only [Ot] <;> omega);have I1:ag X Wx σ H {s with heap:=h'}:=I.kept (t':=s.toks) kp;have I2:ag X Wx σ (ak H h'.objs.size (.tup ys)) {s with heap:=h'.push {cls:= .type "tuple",data:= .seq its.toArray}}:=
   I1.laid (t':=s.toks) (λb o e=>NK _ e) (NV _) (show bE X.prog X.w _ _ _ (.tup ys) from⟨hz,its,r',Ta _ _⟩)
  exact⟨.ref h'.objs.size,_,I2,rfl,q _ (I1.hok.fresh (NV _))⟩
 ·obtain⟨its,r',pl,hz⟩:=I.tuple hq;exact call_tuple_same pl ⟨.ref p,H,I,rfl,q⟩
def Bu(K:NH)(T:String)(x:V)(H:Hp):Prop:=match x with
 | .str _=>T="str"
 | .int _=>T="int"
 | .ref p=>(T="list"/\∃xs,bj K H p xs)\/(T="tuple"/\∃o,K.lookup p=some o/\o.cls= .type "tuple"/\o.dict=none)\/
  (T="dict"/\((∃kvs,H p=some (.dK kvs))\/∃kvs,H p=some (.dT kvs)))\/(T="set"/\∃S n,H p=some (.set S n))
 | _=>False
theorem Gy{Wx:List (UL×Obj)}{σ:St}{H:Hp}{s:UM}{T:String}{x:V}{v:UJ}(I:ag X Wx σ H s)(r:aD x v)(ty:Bu X.K T x H):
 s.TypeIs v T/\∀a,v= .ref a->∃ob,s.heap.get? a=some ob/\ob.dict=none:=by
 cases x with
 | str z=>
  obtain⟨t,rfl⟩:=r;cases (show T="str" from ty);exact⟨VA s z t,λ_ e=>nomatch e⟩
 | int i=>
  obtain⟨t,rfl⟩:=r;cases (show T="int" from ty);exact⟨typeIs_int s i t,λ_ e=>nomatch e⟩
 | ref p=>
  cases r;rcases ty with⟨rfl,xs,hq⟩ | ⟨rfl,o,hk,hc,hd⟩ | ⟨rfl,hk⟩ | ⟨rfl,S,n,hk⟩
  ·obtain⟨its,_,pl,_⟩:=I.list hq;refine⟨pl.isList.typeIs,λa e=>?_⟩;cases e;obtain⟨o,n,e,c,hd,_⟩:=pl;exact⟨o,e,hd⟩
  ·refine⟨⟨o,I.kIn p o hk,hc⟩,λa e=>?_⟩;cases e;exact⟨o,I.kIn _ o hk,hd⟩
  ·have z:∃o,s.heap.get? p=some o/\o.ExactDict:=by
    rcases hk with⟨kvs,hk⟩ | ⟨kvs,hk⟩
    ·obtain⟨_,_,_,_,o,_,_,e,ex,_⟩:=I.hok p _ hk;exact⟨o,e,ex⟩
    ·obtain⟨_,_,_,_,o,_,_,e,ex,_⟩:=I.hok p _ hk;exact⟨o,e,ex⟩
   obtain⟨o,e,ex⟩:=z;refine⟨⟨o,e,ex.1⟩,λa e2=>?_⟩;cases e2;exact⟨o,e,ex.2.1⟩
  ·obtain⟨o,_,_,_,e,ex,_⟩:=I.hok p _ hk;refine⟨⟨o,e,ex.1⟩,λa e2=>?_⟩;cases e2;exact⟨o,e,ex.2.1⟩
 | _=>exact Px ty
def Gz(K:NH)(T:String)(r:V->List V->Hp->VK->Prop)(to:TE)(t:TA):TE:=λσ H Q=>to σ H λx H1=>Bu K T x H1/\t σ H1 λxs H2=>r x xs H2 Q
variable {o e:US} {es:List US} {to:TE} {t:TA} {name:Str} {apos cpos:Pos} {T id:String} {r:V->List V->Hp->VK->Prop}
theorem rF(pa:PlainAttrs T)(slot:Slot T name id)(hty:typeOf (.builtin id)=pure (.type "method_descriptor"))(hm:rE X id r)(ho:PE X o to)(ha:PA X (e::es) t)
 (hbase:Vw o name X.env (eval o X.env)=eval o X.env:=by rfl)
 (hfew:((U7 cpos (UQ (e::es) X.env)).all (λx=>!x.1) && (Wg cpos (VU [] X.env)).all (λx=>x.1.isSome)
   && decide ((e::es).length+([]:List VI).length+(if ([]:List VI).isEmpty then 0 else 1) < 30))=true:=by rfl)
 (hline:(apos.endLine==cpos.line)=true:=by rfl)(hs:UQ (e::es) X.env=(false,eval e X.env)::UQ es X.env:=by rfl)(hplain:(U7 cpos (UQ es X.env)).any (·.1)=false:=by rfl):
 PE X (.Call (.Attribute o name apos) (e::es) [] cpos) (Gz X.K T r to t):=by
 intro Wx s σ H Q I h;refine wpAny_Call_method_late hbase hfew hline rfl (ax (ho Wx s σ H _ I h) λv s1 ⟨x,H1,I1,r1,ty,q1⟩=>?_);obtain⟨h1,h2⟩:=Gy I1 r1 ty;refine⟨T,id,pa,slot,hty,h1,h2,?_⟩;have hA:=ha cpos Wx s1 σ H1 _ I1 q1;rw [hs] at hA⊢;refine SA (by show(false || (U7 cpos (UQ es X.env)).any (·.1))=false;rw [hplain] <;> rfl) (SS ?_);exact ax hA λus s2 uu60=>by obtain⟨vs,H2,I2,r2,q2⟩:=uu60;exact hm Wx s2 σ H2 x vs v us Q I2 r1 r2 q2
end
def GA(X:Cx)(id:String)(r:V->List V->Hp->VK->Prop):Prop:=
 ∀(Wx:List (UL×Obj))(s:UM)(σ:St)(H:Hp)(x:V)(xs:List V)(v:UJ)(us:List UJ)(Q:VK),ag X Wx σ H s->aD x v->aG xs us->r x xs H Q->
  UO (UP X.prog X.w) X.A (call (.builtin id) (v::us)) (EP X Wx σ Q) X.xe s
theorem aG.one:∀{x:V}{us:List UJ},aG [x] us->∃u,us=[u]/\aD x u
 | _,_,.cons r .nil=>⟨_,rfl,r⟩
theorem aG.rep{xs:List V}{us:List UJ}(h:aG xs us):∀k:Nat,aG (NP k xs).flatten (NP k us).flatten
 | 0=>.nil
 | k+1=>by
  rw [Qi,Qi,Qf,Qf];exact aG.append h (aG.rep h k)
theorem Bv(its:List UJ):∀(k:Nat)(acc:List UJ),
 TU (λx1 x2=>x1++x2) acc.toArray (NP k its.toArray)=(acc++(NP k its).flatten).toArray
 | 0,acc=>by simp
 | k+1,acc=>by
  have e:acc.toArray++its.toArray=(acc++its).toArray:=UH
  have e2:(acc++its)++(NP k its).flatten=acc++(NP (k+1) its).flatten:=by
   rw [Qi,Qf,Tq]
  rw [<-e2,<-Bv its k (acc++its),<-e,Qi,Qg]
section
variable {X:Cx} {Wx:List (UL×Obj)} {σ:St} {H:Hp} {s:UM} {l b:UL} {xs ys zs:List V}
theorem ag.lset{its its':List UJ}{n:Nat}{f:Array UJ->Array UJ}{t':Nat}(I:ag X Wx σ H s)(hH:H l=some (.lst xs))
 (e:s.heap.get? l=some {cls:= .type "list",data:= .seq its.toArray n})(hf:f its.toArray=its'.toArray)(hv:aG ys its')(hz:ys.length<=UR):
 ag X Wx σ (ak H l (.lst ys)) {s with heap:=s.heap.update l (Ro f),toks:=t'}:=by
 have q:=PySem.IsL.update e f;rw [hf] at q;refine I.write (x:=l) (e:=l) (by rw [hH];exact trivial) (.inl rfl) (λb' u hb hu=>(PR s.heap (Ro f) (Ne.symm hb)).trans hu) ⟨_,q⟩ ?_;exact⟨hz,its',_,hv,q⟩
theorem ag.lnew{its:List UJ}{t':Nat}(I:ag X Wx σ H s)(hv:aG ys its)(hz:ys.length<=UR):
 ag X Wx σ (ak H s.heap.objs.size (.lst ys)) {s with heap:=s.heap.push {cls:= .type "list",data:= .seq its.toArray},toks:=t'}:=
 I.laid (λ_ _ q=>NK _ q) (NV _) ⟨hz,its,0,hv,N7 _ rfl⟩
theorem ag.fresh(I:ag X Wx σ H s):H s.heap.objs.size=none:=I.hok.fresh (NV _)
theorem ag.lstM(I:ag X Wx σ H s)(hH:H l=some (.lst xs)):xs.length<=UR/\∃(its:List UJ)(n:Nat),aG xs its/\xs.length=its.length/\s.heap.get? l=some {cls:= .type "list",data:= .seq its.toArray n}:=by
 obtain⟨z,its,n,r,e⟩:=I.hok l _ hH;exact⟨z,its,n,r,r.length,e⟩
theorem GB{n:Nat}(h:n<=UR):Ri n=false:=by
 unfold Ri;exact decide_eq_false UC
end
section
variable {X:Cx}
def GC:V->List V->Hp->VK->Prop:=λx vs H Q=>∃l xs y,x= .ref l/\vs=[y]/\H l=some (.lst xs)/\xs.length < UR/\Q .non (ak H l (.lst (xs++[y])))
theorem Bw:GA X "list.append" GC:=by
 intro Wx s σ H x vs v us Q I rx rv h;obtain⟨l,xs,y,rfl,rfl,hH,hz,q⟩:=h;cases rx;obtain⟨u,rfl,ru⟩:=rv.one;obtain⟨z,its,n,r,hl,e⟩:=I.lstM hH;refine VB F.slot_list_append ⟨_,e,rfl⟩ F.entry_list_append (F.args_list_append_2 _ _) (PySem.list_append l its.toArray n u (by rw [Ot];omega)) ⟨e,?_⟩;refine⟨.non,_,I.lset (its':=its++[u]) hH e UH (r.append (.cons ru .nil)) ?_,rfl,q⟩;rw [Pq,List.length_singleton];omega
def GF:R2:=λx y H Q=>∃l k xs,x= .ref l/\y= .int k/\H l=some (.lst xs)/\-(2 ^ 63)<=k/\k < 2 ^ 63/\xs.length*k.toNat<=UR/\
 ∀p,H p=none->Q (.ref p) (ak H p (.lst (NP k.toNat xs).flatten))
theorem GG{α:Type}(xs:List α)(k:Nat):(NP k xs).flatten.length=k*xs.length:=by
 induction k with
 | zero=>simp
 | succ k ih=>rw [Qi,Qf,Pq,ih,Nat.succ_mul,Nat.add_comm]
theorem Bx:br X (Vl .Mult) GF:=by
 intro Wx s σ H x y v u Q I rx ry h;obtain⟨l,k,xs,rfl,rfl,hH,h1,h2,hz,q⟩:=h;cases rx;obtain⟨t,rfl⟩:=ry;obtain⟨z,its,n,r,hl,e⟩:=I.lstM hH;have hlen:its.toArray.size*k.toNat<=UR:=by rw [Ot,<-hl];exact hz
 have hcap:¬its.toArray.size*k.toNat > (2 ^ 63 - 1)/ 8:=by
  have:(UR:Nat)<=(2 ^ 63 - 1)/ 8:=Ce
  omega
 have hfit:¬(!Ua k)=true:=by
  rw [fitsIndex_both h1 h2];exact Ou
 have hlong:¬Ri (its.toArray.size*k.toNat)=true:=by
  rw [GB hlen];exact Ou
 have hnew:TU (λx1 x2=>x1++x2) #[] (NP (if its.toArray.isEmpty=true then 0 else k.toNat) its.toArray)=(NP k.toNat its).flatten.toArray:=by
  have f0:∀m:Nat,TU (λx1 x2=>x1++x2) #[] (NP m its.toArray)=(NP m its).flatten.toArray:=λm=>by
   have:=Bv its m [];rw [N9] at this;exact this
  rw [f0];cases its with
  | nil=>simp
  | cons a r'=>rw [UD UH]
 refine wpAny_binaryOp_repeat_ref (T:="list") (U:="int") Ce ⟨_,e,rfl⟩ (λs'=>typeIs_int s' k t) noFill_list_mul F.fills_int_mul F.slot_int_rmul repeat_list F.slot_int_index.lookup
  (VB F.slot_int_rmul (typeIs_int s k t) F.entry_int_rmul (F.args_int_rmul_2 _ _) (int___rmul___int_list k t l its.toArray n)
    ⟨e,rfl,⟨_,e,rfl⟩,VB F.slot_list_mul ⟨_,e,rfl⟩ F.entry_list_mul (F.args_list_mul_2 _ _) (AutoListH.list___mul___list_int_3 l its.toArray n k t hfit hcap hlong) ⟨e,?_⟩⟩)
 rw [hnew];exact⟨.ref _,_,I.lnew (t':=s.toks) (r.rep k.toNat) (by rw [GG,Nat.mul_comm];exact hz),rfl,q _ I.fresh⟩
end
end L2
namespace Att
open PySem PySem.W PySem.Calls PyProof.Rows
theorem GH{P:Params}{h:UW}:∀(ns:List Int)(vs:List UJ),WellAll P h vs (ns.map QP)->IntsAre vs ns:=by
 intro ns
 induction ns with
 | nil=>
  intro vs w;rw [Of] at w;cases w;exact .nil
 | cons n ns ih=>
  intro vs w;rw [NN] at w;cases w with
  | cons a b=>
   cases a;exact .cons _ _ (ih _ b)
theorem GI{l:OpenLaw}{n:Nat}(hn:l.most=some n){P:Params}{h:UW}{args:List WData}{vals:List UJ}
 (hpre:l.row.toRowW.claim.pre args=true)(hwl:WellAll P h vals args):
 ∃a vs ns,vals=[Oz a]/\args=[R9 (ns.map QP)]/\h.get? a=some {cls:= .type "list",data:= .seq vs.toArray}/\IntsAre vs ns/\ns.length<=n:=by
 have hsh:WShape.hasAll [] args [.list .int]=true:=(pre_splitW hpre).1;have hc:l.pre.holds [] {args:=args}=true:=(pre_splitW hpre).2;obtain⟨d,r,rfl,h1,h2⟩:=hasAllW_cons hsh;obtain rfl:=hasAllW_nil h2;obtain⟨xs,rfl,h3⟩:=hasW_list h1;obtain⟨ns,rfl⟩:=items_int h3;have hlen:ns.length<=n:=by
  unfold OpenLaw.pre at hc;have h4:(WTm.not (.lt (.lit (.int (n:Int))) (.len (.arg 0)))).holds [] {args:=[.list (ns.map .int)]}=true:=by
   have h4:=(holds_andW hc).1;rw [hn] at h4;exact h4
  have h5:=condW_of h4 (w_not (w_lt w_lit (w_len_list (w_arg rfl))));rw [NS] at h5;refine Sf λq=>?_;have q':(n:Int) < ((ns.length:Nat):Int):=UC
  first
   | (rw [decide_eq_true q'] at h5;exact absurd h5 Ce)
   | (simp at h5;omega)
 cases hwl with
 | cons w1 w2=>
  cases w2;cases w1 with
  | list ho hall=>exact⟨_,_,ns,rfl,rfl,ho,GH ns _ hall,hlen⟩
theorem GJ(l:OpenLaw)(args:List WData):l.row.toRowW.claim.post args (.bool true) args=true:=
 postW_of (r:=l.row.toRowW) (X:=(true==true))
  (show WShape.has [] (.bool true) .bool=true by first | rfl | decide | simp [WShape.has,WShape.arms,WShape.armsAll])
  (show(WTm.eq .res (.lit (.bool true))).value [] {args:=args,res:=some (.bool true),after:=args}=some (.bool (true==true)) from w_eq_bool (w_res rfl) w_lit) rfl
end Att
namespace L2
open PySem PySem.Spec PyProof.Rows
theorem By:∀{vs:List UJ}{ns:List Int},IntsAre vs ns->aG (ns.map V.int) vs
 | _,_,.nil=>.nil
 | _,_,.cons n t h=>.cons ⟨t,rfl⟩ (By h)
def sZ(H:Hp):Prop:=∀b,H b=none\/∃o xs,H b=some (.frz o (.lst xs))
theorem GK{P:UX}{w:UZ}{K:NH}{mg mb:Str->Option UJ}{CX:kH}{k:Nat}{fa a:UL}{fd:UT}{x:Str}{sp:Sp}{s₁:UM}{vs:List UJ}{ns:List Int}
 (KX:K.In s₁.heap)(hns:s₁.heap.Ns UU mg)(hb:s₁.heap.Ns builtinsNs mb)(hbb:∀x:Str,x≠"__name__"->mb x=U4 x)(hlim:s₁.heap.NoLimit)(hg:s₁.gens=#[])
 (ha:s₁.heap.get? a=some {cls:= .type "list",data:= .seq vs.toArray})(hi:IntsAre vs ns)(hl:ns.length<=UR)(hr:bH k callerA)
 (F:∀base:UW,K.In base->base.Ns UU mg->aC P w K mg base CX k fa fd [x] sp)(hbind:∀(s:UM) (u:UJ),BindsTo s fd ⟨[u],[]⟩ [(x,u)])
 (hsp:∀H:Hp,sZ H->bj K H a (ns.map V.int)->sp [.ref a] H (λv _=>v= .bl true) λ_ _ _=>False)
 (hCX:∀H e s',CX [] H s₁ (λ_ _ _=>False) e s'->False):
 VC (UP P w) callerA (.call (.ref fa) ⟨[.ref a],[]⟩) (λr s'=>r= .ok (.ret (.bool true))/\OldK s₁.heap s'.heap/\s'.os=s₁.os/\VX s'.gens) s₁:=by
 have rv:=By hi;have lenV:=hi.length;have core:∀H:Hp,sZ H->bj K H a (ns.map V.int)->bJ P w H s₁.heap->(∀b,H b≠none->b=a)->(H a≠none->K.lookup a=none)->
  VC (UP P w) callerA (.call (.ref fa) ⟨[.ref a],[]⟩) (λr s'=>r= .ok (.ret (.bool true))/\OldK s₁.heap s'.heap/\s'.os=s₁.os/\VX s'.gens) s₁:=by
  intro H hO hS hok hA hK;have base_of:∀{b:UL}{o:Obj},s₁.heap.get? b=some o->H b=none->(nI s₁.heap H).get? b=some o:=λe n=>Fp e n;have noA:∀{b:UL}{o:Obj}{es:Array Wm}{ep:Nat},s₁.heap.get? b=some o->o.data= .dict es ep->H b=none:=λ{b o es ep} e d=>by
   cases q:H b with
   | none=>rfl
   | some u=>
    have e':b=a:=hA b (by rw [q];simp);subst e';rw [ha] at e;cases e;have d':Data.seq vs.toArray _=Data.dict es ep:=d;cases d'
  have nsK:∀{b:UL}{m:Str->Option UJ},s₁.heap.Ns b m->(nI s₁.heap H).Ns b m:=λ{b m} ⟨o,es,ep,e,d,r⟩=>⟨o,es,ep,base_of e (noA e d),d,r⟩;have hKb:K.In (nI s₁.heap H):=λb o e=>base_of (KX b o e) (by
   cases q:H b with
   | none=>rfl
   | some u=>
    have e':b=a:=hA b (by rw [q];simp);subst e';rw [hK (by rw [q];simp)] at e;cases e)
  have hM:Mod K mg (nI s₁.heap H):=⟨hKb,nsK hns,⟨mb,nsK hb,hbb⟩,let ⟨mc,h1,h2⟩:=hlim;⟨mc,nsK h1,h2⟩⟩;have e0:pf P w K mg (nI s₁.heap H) callerA [] s₁ H:=⟨rfl,hM,λb o e=>Fq e,Nat.le_of_eq (Fo _ _),trivial,λb hb=>absurd (show b∈([]:List UL) from hb) UH,hok,.of_eq hg⟩;refine Vs ((F _ hKb (nsK hns)).run callerA [] s₁ H ⟨[.ref a],[]⟩ [.ref a] [.ref a] _ _ hr e0 (hbind s₁ (.ref a)) (.cons rfl .nil) (hsp H hO hS)) λr s' h=>?_;cases r with
  | error e=>exact(hCX H e s' h).elim
  | ok fl=>
   cases fl with
   | next=>exact Px h
   | brk=>exact Px h
   | cont=>exact Px h
   | ret u=>
    obtain⟨v,H',os,bare,un,hok',r',q⟩:=h;have q':v= .bl true:=q;subst q';obtain rfl:u=QD true:=r';refine⟨rfl,OldK.of_keep λb o e=>?_,os,bare⟩;cases q:H b with
    | none=>exact un.keep b o e q (by intro z;exact absurd (show b∈([]:List UL) from z) UH) UH
    | some u=>
     rcases hO b with z | ⟨ob,xs,z⟩
     ·rw [q] at z;cases z
     ·have z2:=un.frzs b ob _ z;obtain⟨e1,_⟩:=hok b _ z;obtain⟨e2,_⟩:=hok' b _ z2;rw [e] at e1;cases e1;exact e2
 cases hk:K.lookup a with
 | some o=>
  have e:=KX a o hk;rw [ha] at e;cases e;refine core (λ_=>none) (λ_=>.inl rfl) (.inr ⟨_,vs.toArray,_,hk,rfl,rfl,rfl,by rw [Ot,lenV];exact hl,by simpa using rv⟩) (λb u z=>by have z':(none:Option HO)=some u:=z;cases z') (λb z=>absurd rfl z) λz=>absurd rfl z
 | none=>
  refine core (λb=>if b=a then some (.frz {cls:= .type "list",data:= .seq vs.toArray} (.lst (ns.map V.int))) else none) (λb=>?_) (.inl (.inr ⟨{cls:= .type "list",data:= .seq vs.toArray},UE rfl⟩)) (λb u z=>?_) (λb z=>?_) λ_=>hk
  ·by_cases hb:b=a
   ·exact .inr ⟨_,_,UE hb⟩
   ·exact .inl (UD hb)
  ·by_cases hb:b=a
   ·have z':=(UE hb).symm.trans z;cases z';subst hb;exact⟨ha,by rw [NS];exact hl,vs,_,rv,ha⟩
   ·have z':=(UD hb).symm.trans z;cases z'
  ·by_cases hb:b=a
   ·exact hb
   ·exact absurd (UD hb) z
abbrev KOf{K:NH}{h:UW}(_:K.In h):NH:=K
def inClass(s:U0)(j:Nat):U0:=match s with
 | .ClassDef _ _ _ body _ _ _ _ _ _ _=>body.getD j (.Pass ⟨0,0,0,0⟩)
 | _=>.Pass ⟨0,0,0,0⟩
def mT(s:U0):Arguments:=match s with
 | .FunctionDef _ a _ _ _ _ _ _ _ _=>a
 | _=>{posonlyargs:=[],args:=[],vararg:=none,kwonlyargs:=[],kw_defaults:=[],kwarg:=none,defaults:=[]}
def lJ(s:U0):List U0:=match s with
 | .FunctionDef _ _ b _ _ _ _ _ _ _=>b
 | _=>[]
def ay(s:U0):Vg:=match s with
 | .FunctionDef _ _ _ _ _ _ sc _ _ _=>sc
 | _=>{kind:= .function,names:=[],isGenerator:=false,isCoroutine:=false}
abbrev CX0:kH:=λ_ _ _ _ _ _=>False
abbrev E0:XK:=λ_ _ _=>False
theorem Bz{X:Cx}:qg CX0 X E0:=λ_ _ _ _ _ _ _ h=>h.elim
structure lg (K:NH) (x qual:Str) (st:U0) (f:UL) (fd:UT):Prop where
 ex:∃(oc:UJ)(od:Option UL)(kV doc pm:UJ)(an:Option UL)(cdv ct:UJ)(osl:Array (Option UJ)),
  fd=P8 x qual (mT st) (lJ st) (ay st) .none kV doc pm an cdv ct/\K.lookup f=some ⟨oc,od,.func fd,osl⟩/\Rn K cdv qual=true
 kp:Ql K (.ref f)=true
section
variable {P:UX} {w:UZ} {K:NH} {mg:Str->Option UJ} {base:UW}
theorem lg.ok{x qual:Str}{st:U0}{f:UL}{fd:UT}{N ps:List Str}{k:Nat}{sp:Sp}(F:lg K x qual st f fd)(S:aQ N ps (ay st))(len:∀vs H Q E,sp vs H Q E->vs.length=ps.length)
 (hbody:∀(cdv:UJ) (A:U1) (outer:List Env) (s:UM) (H:Hp) (vs:List V) (Q:VK) (E:XK),bH k (A.deeper (VR qual (ay st) s.heap.objs.size f cdv))->sp vs H Q E->
   ∃t,bK (jS CX0 P w K mg base N qual (ay st) f cdv A outer s H E).nox (lJ st) t/\t {nx:=λ_ H'=>Q .non H',rt:=Q} (start N vs) H):aC P w K mg base CX0 (k+1) f fd ps sp:=by
 obtain⟨oc,od,kV,doc,pm,an,cdv,ct,osl,rfl,lk,hcd⟩:=F.ex;refine Bo lk hcd S len λA outer s H vs Q E hr hsp=>?_;obtain⟨t,h,q⟩:=hbody cdv A outer s H vs Q E hr hsp;exact⟨t,h.nox,q⟩
theorem lg.binds{x qual:Str}{st:U0}{f:UL}{fd:UT}{ps:List Str}(F:lg K x qual st f fd)
 (h:∀(kV doc pm:UJ) (an:Option UL) (cdv ct:UJ) (us:List UJ),us.length=ps.length->bindArgs (P8 x qual (mT st) (lJ st) (ay st) .none kV doc pm an cdv ct) ⟨us,[]⟩=pure (ps.zip us)):l9 K fd ps []:=by
 obtain⟨oc,od,kV,doc,pm,an,cdv,ct,osl,rfl,lk,hcd⟩:=F.ex;exact .all (h kV doc pm an cdv ct)
theorem BA{x qual:Str}{st:U0}{f:UL}{oc:UJ}{od an:Option UL}{osl:Array (Option UJ)}{kV doc pm cdv ct:UJ}(l:K.lookup f=some ⟨oc,od,.func (P8 x qual (mT st) (lJ st) (ay st) .none kV doc pm an cdv ct),osl⟩)
 (c:Rn K cdv qual=true)(k:Ql K (.ref f)=true):lg K x qual st f (P8 x qual (mT st) (lJ st) (ay st) .none kV doc pm an cdv ct):=⟨⟨oc,od,kV,doc,pm,an,cdv,ct,osl,rfl,l,c⟩,k⟩
end
section
variable {X:Cx}
theorem pv(i:Nat){x:Str}{pos:Pos}(hN:X.N[i]?=some x:=by rfl)(hv:qV X.env.scope x:=by first | exact Sg rfl | exact RA (Sg rfl) | exact RA (RA rfl))(hd:(x==("__debug__":Str))=false:=by decide)
 (hcd:(x==("__classdict__":Str))=false:=by decide):PE X (.Name x pos) (nJ i):=oV hN hv hd hcd
end
def ao(H H':Hp):Prop:=∀b o,H b=some o->H' b=some o
theorem ao.refl(H:Hp):ao H H:=λ_ _ h=>h
theorem ao.trans{H H1 H2:Hp}(a:ao H H1)(b:ao H1 H2):ao H H2:=λc o h=>b c o (a c o h)
def lR(env:Env)(names:List (Str×Vh))(cs:List (Str×UL)):List (Str×UL):=
 names.foldl (λcs p=>if (p.2==PD)=true then(p.1,(env.cells.lookup p.1).getD 0)::cs else cs) cs
theorem GL{scope:Vg}{env:Env}(h:∀y∈scope.names,y.2= .free->∃c,env.cells.lookup y.1=some c):closureFor scope env=pure (lR env scope.names []):=by
 unfold closureFor;have key:∀(l:List (Str×Vh))(cs:List (Str×UL)),(∀y∈l,y.2= .free->∃c,env.cells.lookup y.1=some c)->
  (forIn l cs λ(x:Str×Vh) (r:List (Str×UL))=>(if (x.2==PD)=true then do let a<-cellOf env x.1;pure (QQ ((x.1,a)::r)) else pure (QQ r):Sem (ForInStep (List (Str×UL)))))=pure (lR env l cs):=by
  intro l
  induction l with
  | nil=>intro cs _;rfl
  | cons p r ih=>
   intro cs hl;rw [Sx];by_cases hk:(p.2==PD)=true
   ·obtain⟨c,hc⟩:=hl p PJ (by simpa using hk);rw [UE hk];have e:cellOf env p.1=pure c:=by unfold cellOf;rw [hc]
    rw [e];simp only [pure_bind];rw [ih _ λy hy=>hl y (OZ _ hy)];unfold lR;rw [Qg,UE hk,hc];rfl
   ·rw [UD hk];simp only [pure_bind];rw [ih _ λy hy=>hl y (OZ _ hy)];unfold lR;rw [Qg,UD hk]
 have:=key scope.names [] h;simp only [bind_pure];exact this
theorem vM{env:Env}:∀(l:List (Str×Vh))(cs:List (Str×UL)){x:Str}{c:UL},(∀y∈l,y.2= .free->∃c,env.cells.lookup y.1=some c)->(∀y d,cs.lookup y=some d->env.cells.lookup y=some d)->
 (lR env l cs).lookup x=some c->env.cells.lookup x=some c
 | [],cs,x,c,_,hc,h=>hc x c h
 | p::r,cs,x,c,hl,hc,h=>by
  unfold lR at h;rw [Qg] at h;by_cases hk:(p.2==PD)=true
  ·rw [UE hk] at h;refine vM r _ (λy hy=>hl y (OZ _ hy)) (λy d e=>?_) h;obtain⟨a,ha⟩:=hl p PJ (by simpa using hk);rw [O5] at e;cases hx:y==p.1 with
   | true=>
    rw [hx] at e;have hy:y=p.1:=by simpa using hx
    rw [ha] at e;cases e;rw [hy];exact ha
   | false=>rw [hx] at e;exact hc y d e
  ·rw [UD hk] at h;exact vM r cs (λy hy=>hl y (OZ _ hy)) hc h
theorem vN{env:Env}:∀(l:List (Str×Vh))(cs:List (Str×UL)){x:Str},(∃c,cs.lookup x=some c)->∃c,(lR env l cs).lookup x=some c
 | [],cs,x,h=>h
 | p::r,cs,x,⟨c,h⟩=>by
  unfold lR;rw [Qg];by_cases hk:(p.2==PD)=true
  ·rw [UE hk];refine vN r _ ?_;rw [O5];cases hx:x==p.1 with
   | true=>exact⟨_,rfl⟩
   | false=>exact⟨c,h⟩
  ·rw [UD hk];exact vN r cs ⟨c,h⟩
theorem vO{env:Env}:∀(l:List (Str×Vh))(cs:List (Str×UL)){x:Str},(x,PD)∈l->∃c,(lR env l cs).lookup x=some c
 | [],_,_,h=>by simp at h
 | p::r,cs,x,h=>by
  unfold lR;rw [Qg];rcases NO.mp h with e | e
  ·subst e;rw [UE (by rfl)];exact vN r _ ⟨(env.cells.lookup x).getD 0,by rw [O5];simp⟩
  ·exact vO r _ e
theorem GN{env:Env}{scope:Vg}{x:Str}(h:(relabel scope env).names.lookup x=some .cell\/(relabel scope env).names.lookup x=some .free):scope.names.lookup x=some .free\/scope.names.lookup x=some .cell:=by
 have key:∀(l:List (Str×Vh)),
  ((l.map λ(n,k)=>if (k==PD && env.scope.kind== .function && env.kindOf n==some .cell) then(n,RE) else(n,k)).lookup x=some .cell\/
  (l.map λ(n,k)=>if (k==PD && env.scope.kind== .function && env.kindOf n==some .cell) then(n,RE) else(n,k)).lookup x=some .free)->l.lookup x=some .free\/l.lookup x=some .cell:=by
  intro l
  induction l with
  | nil=>intro h;simp at h
  | cons p r ih=>
   obtain⟨n,k⟩:=p;intro h;rw [NN] at h;rw [O5];by_cases hx:x=n
   ·subst hx;rw [beq_self_eq_true];by_cases hq:(k==PD && env.scope.kind== .function && env.kindOf x==some .cell)=true
    ·have:k= .free:=by simp only [Oo,beq_iff_eq] at hq;exact hq.1.1
     subst this;exact .inl rfl
    ·simp only [UD hq,O5,beq_self_eq_true] at h;exact h.symm
   ·have hb:(x==n)=false:=by simpa using hx
    rw [hb];refine ih ?_;by_cases hq:(k==PD && env.scope.kind== .function && env.kindOf n==some .cell)=true
    ·simpa only [UE hq,O5,hb] using h
    ·simpa only [UD hq,O5,hb] using h
 exact key scope.names h
theorem GO{env:Env}{scope:Vg}{x:Str}(h:scope.names.lookup x=some .cell\/scope.names.lookup x=some .free):(relabel scope env).names.lookup x=some .cell\/(relabel scope env).names.lookup x=some .free:=by
 have key:∀(l:List (Str×Vh)),l.lookup x=some .cell\/l.lookup x=some .free->
  ((l.map λ(n,k)=>if (k==PD && env.scope.kind== .function && env.kindOf n==some .cell) then(n,RE) else(n,k)).lookup x=some .cell\/
  (l.map λ(n,k)=>if (k==PD && env.scope.kind== .function && env.kindOf n==some .cell) then(n,RE) else(n,k)).lookup x=some .free):=by
  intro l
  induction l with
  | nil=>intro h;simp at h
  | cons p r ih=>
   obtain⟨n,k⟩:=p;intro h;rw [NN];by_cases hx:x=n
   ·subst hx;rw [O5,beq_self_eq_true] at h;by_cases hq:(k==PD && env.scope.kind== .function && env.kindOf x==some .cell)=true
    ·left;simp only [UE hq,O5,beq_self_eq_true]
    ·simp only [UD hq,O5,beq_self_eq_true];exact h
   ·have hb:(x==n)=false:=by simpa using hx
    rw [O5,hb] at h;by_cases hq:(k==PD && env.scope.kind== .function && env.kindOf n==some .cell)=true
    ·simpa only [UE hq,O5,hb] using ih h
    ·simpa only [UD hq,O5,hb] using ih h
 exact key scope.names h
structure fw (sc:Vg) (N N':List Str) (k:Nat) (fr:List Nat) (scope:Vg):Prop where
 kind:scope.kind= .function
 cell:∀y∈scope.names,y.2= .cell->scope.names.lookup y.1=some .cell
 names:∀y∈scope.names,y.2= .local->scope.names.lookup y.1=some .local
 nd:N'.Nodup
 slot:fr.map (λj=>N[j]?)=(N'.drop k).map some
 frees:∀x∈N'.drop k,scope.names.lookup x=some .free
 outer:∀y∈scope.names,y.2= .free->sc.names.lookup y.1=some .cell\/sc.names.lookup y.1=some .free
 outer':∀x∈N'.drop k,sc.names.lookup x=some .cell\/sc.names.lookup x=some .free
 len:N'.length=k+fr.length
theorem tf:∀(l:List (Str×Vh)){n:Nat}{a:List (Str×UL)}{x:Str}{c:UL},(Vf n l a).lookup x=some c->n<=c\/a.lookup x=some c
 | [],_,_,_,_,h=>.inr h
 | (y,k)::r,n,a,x,c,h=>by
  unfold Vf at h;split at h
  ·rcases tf r h with z | z
   ·exact .inl UC
   ·rw [O5] at z;split at z
    ·exact .inl (by cases z;exact NV _)
    ·exact .inr z
  ·exact tf r h
theorem vP:∀(l:List (Str×Vh)){n:Nat}{a:List (Str×UL)}{x:Str}{c:UL},l.lookup x=some .cell->(Vf n l a).lookup x=some c->n<=c
 | [],_,_,_,_,e,_=>nomatch e
 | (y,k)::r,n,a,x,c,e,h=>by
  unfold Vf at h;rw [O5] at e;cases hx:x==y with
  | true=>
   rw [hx] at e;cases e;have h:List.lookup x (Vf (n+1) r ((y,n)::a))=some c:=h;rcases tf r h with z | z
   ·exact R7 z
   ·rw [O5,hx] at z;cases z;exact NV _
  | false=>
   rw [hx] at e;split at h
   ·exact R7 (vP r e h)
   ·exact vP r e h
theorem vQ:∀(l:List (Str×Vh)){n:Nat}{a:List (Str×UL)}{x:Str},(∀y∈l,y.2= .cell->y.1≠x)->(Vf n l a).lookup x=a.lookup x
 | [],_,_,_,_=>rfl
 | (y,k)::r,n,a,x,h=>by
  unfold Vf;split
  ·rename_i hk;rw [vQ r λz hz=>h z (OZ _ hz),O5];have:(x==y)=false:=by simpa using Ne.symm (h (y,k) PJ (by simpa using hk))
   rw [this]
  ·exact vQ r λz hz=>h z (OZ _ hz)
theorem vR:∀(l:List (Str×Vh)){n:Nat}{a:List (Str×UL)},(∀x c,a.lookup x=some c->c < n)->(∀x y c,a.lookup x=some c->a.lookup y=some c->x=y)->∀x y c,(Vf n l a).lookup x=some c->(Vf n l a).lookup y=some c->x=y
 | [],_,_,_,h=>h
 | (z,k)::r,n,a,hl,hi=>by
  unfold Vf;split
  ·have one:∀x c,((z,n)::a).lookup x=some c->x=z/\c=n\/c < n/\a.lookup x=some c:=λx c e=>by
    rw [O5] at e;cases hx:x==z with
    | true=>rw [hx] at e;cases e;exact .inl ⟨by simpa using hx,rfl⟩
    | false=>rw [hx] at e;exact .inr ⟨hl x c e,e⟩
   refine vR r (λx c e=>?_) λx y c e1 e2=>?_
   ·rcases one x c e with⟨_,z⟩ | ⟨z,_⟩
    ·rw [z];exact QJ _
    ·exact PZ z
   ·rcases one x c e1 with⟨a1,b1⟩ | ⟨a1,b1⟩ <;> rcases one y c e2 with⟨a2,b2⟩ | ⟨a2,b2⟩
    ·rw [a1,a2]
    ·omega
    ·omega
    ·exact hi x y c b1 b2
  ·exact vR r hl hi
theorem vS:∀(l:List (Str×Vh)){h:UW}{a:List (Str×UL)},(∀x c,a.lookup x=some c->∃v,h.IsCell c v)->∀x c,(Vf h.objs.size l a).lookup x=some c->∃v,(pushCells h l).IsCell c v
 | [],_,_,h=>h
 | (z,k)::r,h,a,ha=>by
  unfold Vf pushCells;split
  ·have:=vS r (h:=h.push {cls:= .type "cell",data:= .cell none}) (a:=(z,h.objs.size)::a) λx c e=>by
    rw [O5] at e;split at e
    ·cases e;exact⟨none,_,N7 _ rfl,rfl⟩
    ·obtain⟨v,q⟩:=ha x c e;exact⟨v,q.keeps λb o e=>NK _ e⟩
   rwa [Qb] at this
  ·exact vS r ha
def tj(X:Cx)(scope:Vg)(C:UL):List (Str×UL):=Vf (C+1) scope.names (lR X.env scope.names [])
def jP(X:Cx)(scope:Vg)(N':List Str)(fp:List UL)(C:UL)(s:UM)(H:Hp):Cx where
 prog:=X.prog
 w:=X.w
 K:=X.K
 mg:=X.mg
 base:=X.base
 A:=X.A
 N:=N'
 s₀:=s
 H₀:=H
 env:=compEnvC scope (tj X scope C) C X.env
 outer:=X.stack
 stack:=X.stack
 ex:=fp
 fn:=λx=>scope.names.lookup x==some .cell
 calm:=X.calm
 pn:=[]
 xe:=λ_ _=>False
def bC(k:Nat)(fr:List Nat)(σ:St):St:=NP k none++fr.map λj=>(σ[j]?).join
def oy(σ σ':St):Prop:=σ.length=σ'.length/\∀(i:Nat) v,σ[i]?=some (some v)->σ'[i]?=some (some v)
section
variable {X:Cx} {Wx:List (UL×Obj)} {σ:St} {H:Hp} {s:UM} {scope:Vg} {N':List Str} {k:Nat} {fr:List Nat} {fp:List UL}
theorem vT(S:fw X.env.scope X.N N' k fr scope)(I:ag X Wx σ H s):∀x c,(lR X.env scope.names []).lookup x=some c->X.env.cells.lookup x=some c:=λx c e=>vM scope.names [] (λy hy e=>I.ok.has y.1 (S.outer y hy e)) (λ_ _ z=>by simp at z) e
theorem BB(S:fw X.env.scope X.N N' k fr scope)(I:ag X Wx σ H s){x:Str}{c:UL}(e:(tj X scope s.heap.objs.size).lookup x=some c):s.heap.objs.size < c\/X.env.cells.lookup x=some c:=
 (tf _ e).imp (λz=>z) λz=>vT S I x c z
theorem GP(S:fw X.env.scope X.N N' k fr scope)(I:ag X Wx σ H s)(hf:∀b∈fp,ml X Wx H b)(hlt:∀b∈fp,b < s.heap.objs.size):
 (jP X scope N' fp s.heap.objs.size s H).Ok:=by
 have hcl:=vT S I;refine⟨I.ok.mod,S.kind,I.ok.glob,I.ok.blt,NV _,vR _ (λx c e=>?_) (λx y c h1 h2=>I.ok.inj x y c (hcl x c h1) (hcl y c h2)),λx hx=>Qp.mp (Ry _ _ _ ?_),λx c h e=>R7 (vP _ (eq_of_beq h) e),I.ok.hd,I.ok.frames,.inl rfl,λb hb=>⟨OJ (hlt b hb),λx c e=>?_⟩,
  I.bs,OB I.ok.bsz I.sz,λb o e hb=>?_,λb hb hb'=>?_,I.stack,I.stkFree⟩
 ·obtain⟨v,o,ho,_⟩:=I.cell x c (hcl x c e);exact PZ (NW ho)
 ·rcases GN hx with z | z
  ·exact .inr (Qp.mpr (vO _ _ (Qh z)))
  ·exact .inl z
 ·rcases BB S I e with z | z
  ·exact λq=>absurd (hlt b hb) (by rw [<-q];exact Nat.lt_asymm z)
  ·exact(hf b hb).2.2.2.2.1 x c z
 ·rcases(hf b hb).2.2.2.1 with z | z
  ·exact I.ok.noex b o e z
  ·exact absurd (OX (NW e) (OB I.ok.bsz z)) (Qq _)
 ·rcases NO.mp (I.stkSub b hb') with z | z
  ·exact(hf b hb).2.1 z
  ·exact(hf b hb).2.2.1 z
theorem GQ(S:fw X.env.scope X.N N' k fr scope)(I:ag X Wx σ H s)(hf:∀b∈fp,ml X Wx H b)(hlt:∀b∈fp,b < s.heap.objs.size){o:Obj}{h':UW}(e':h'=pushCells (s.heap.push o) scope.names)
 (hn:h'.Ns s.heap.objs.size (λ_=>none))(hk:∀b o,s.heap.get? b=some o->h'.get? b=some o):
 ag (jP X scope N' fp s.heap.objs.size s H) [] (bC k fr σ) H {s with heap:=h'}:=by
 have hcl:=vT S I;refine⟨GP S I hf hlt,rfl,I.bare,Un.kept hk,⟨_,hn,λi x v h1 h2 h3=>?_⟩,λx c e=>?_,I.hok.fresh (NV _),λx c e=>?_,λp hp=>absurd hp (by simp [jP]),I.hok.kept hk,?_⟩
 ·have hi:k<=i:=by
   rcases Tf i k with z | z
   ·exfalso;unfold bC at h2;rw [Qn (by simpa using z),QO,UE z] at h2;cases h2
   ·exact z
  have h2':(fr.map λj=>(σ[j]?).join)[i - k]?=some (some v):=by
   unfold bC at h2;rw [QB (by simpa using hi)] at h2;simpa using h2
  have h1':(N'.drop k)[i - k]?=some x:=by
   rw [List.getElem?_drop,Nat.add_sub_cancel' hi];exact h1
  have hmem:x∈N'.drop k:=PL h1';have e2:(fr.map λj=>X.N[j]?)[i - k]?=some (some x):=by
   rw [S.slot,PY,h1'];rfl
  obtain⟨j,hj,ej⟩:∃j,fr[i - k]?=some j/\X.N[j]?=some x:=by
   rw [PY] at e2;cases e:fr[i - k]? with
   | none=>rw [e] at e2;cases e2
   | some j=>rw [e] at e2;exact⟨j,rfl,Ph e2⟩
  have hv:σ[j]?=some (some v):=by
   rw [PY,hj] at h2';have h3':(σ[j]?).join=some v:=Ph h2';cases e:σ[j]? with
   | none=>rw [e] at h3';cases h3'
   | some o=>rw [e] at h3';rw [show o=some v from h3']
  obtain⟨m,hn0,hl⟩:=I.loc;have ho:=S.outer' x hmem;obtain⟨u,ru,lk⟩:=hl j x v ej hv (.inr ho);refine⟨u,ru,.inr ⟨GO (.inr (S.frees x hmem)),?_⟩⟩;rcases lk with⟨z,_⟩ | ⟨_,c,hc,hx⟩
  ·exfalso;rcases ho with ho | ho
   ·exact absurd (z.symm.trans ho) UH
   ·exact absurd (z.symm.trans ho) UH
  ·obtain⟨c',hc'⟩:=vO (env:=X.env) scope.names [] (Qh (S.frees x hmem));have:=hcl x c' hc';rw [hc] at this;cases this;obtain⟨o,ho,hd⟩:=hx;exact⟨c,(vQ _ λy hy ey ex=>by have q:=S.cell y hy ey;rw [ex,S.frees x hmem] at q;cases q).trans hc',o,hk c o ho,hd⟩
 ·subst e';have:=vS scope.names (h:=s.heap.push o) (a:=lR X.env scope.names []) (λx c e=>by
   obtain⟨v,q⟩:=I.cell x c (hcl x c e);exact⟨v,q.keeps λb o e=>NK _ e⟩) x c
  rw [Qb] at this;exact this e
 ·rcases BB S I e with z | z
  ·exact I.hok.fresh (Rf z)
  ·exact I.freeC x c z
 ·unfold bC;show _=N'.length;rw [Pq,SE,NS,S.len]
end
section
variable {prog:UX} {w:UZ} {A:U1} {E:UJ->UM->Prop} {R:Result->UM->Prop} {s:UM}
theorem GR{elt target iter:US}{ifs:List US}{scope:Vg}{pos:Pos}{it acc:UJ}{env:Env}(I:Nat->UM->Prop)
 (turn:∀n s,I n s->UO (UP prog w) A (Vx it) (λr s₁=>match r with
  | none=>R (.ok .next) s₁
  | some v=>UO (UP prog w) A (Wc target it v) (λ_ s₁'=>UO (UP prog w) A (assign target env v) (λ_ s₂=>
   UO (UP prog w) A (forIn ifs true λc r=>if r=true then do let ok<-isTrue c env (eval c env);pure (QQ ok) else pure (QQ r)) (λok s₃=>
    if ok=true then UO (UP prog w) A (eval elt env) (λx s₄=>
     UO (UP prog w) A (call (.builtin "list.append") [acc,x]) (λ_ s₅=>∃m,m < n/\I m s₅) (λ_ _=>False) s₄) (λ_ _=>False) s₃
    else ∃m,m < n/\I m s₃) (λ_ _=>False) s₂) (λ_ _=>False) s₁') (λ_ _=>False) s₁) (λ_ _=>False) s)
 (n:Nat)(h:I n s):
 VC (UP prog w) A (.compLoop (.ListComp elt [⟨target,iter,ifs,0⟩] scope pos) 0 it acc env) R s:=by
 refine codeAny_loop rfl I (λn s hI=>?_) n h;show UO _ A ((compTurn (.ListComp elt [⟨target,iter,ifs,0⟩] scope pos) 0 it acc env).onRaise (λx=>do Wa x env;theTreesLotGoes x)) _ _ s;refine wpAny_noted ?_;rw [compTurn_list];refine UK (VQ (UK (U6 (turn n s hI) (λr s₁ h₁=>?_) λ_ _ h'=>h'.elim)));cases r with
 | none=>exact UN h₁
 | some v=>
  refine UK (U6 h₁ (λ_ s₁' h₁'=>?_) λ_ _ h'=>h'.elim);refine UK (U6 h₁' (λ_ s₂ h₂=>UK (U6 h₂ (λok s₃ h₃=>?_) λ_ _ h'=>h'.elim)) λ_ _ h'=>h'.elim);cases ok with
  | false=>exact UN ⟨rfl,h₃⟩
  | true=>
   exact UK (UK (U6 h₃ (λx s₄ h₄=>UK (U6 h₄ (λ_ s₅ h₅=>UN (UN ⟨rfl,h₅⟩)) λ_ _ h'=>h'.elim)) λ_ _ h'=>h'.elim))
end
def mq(X:Cx)(ifs:List US)(t:TT):Prop:=
 ∀(Wx:List (UL×Obj))(s:UM)(σ:St)(H:Hp)(Q:Bool->Hp->Prop),ag X Wx σ H s->t σ H Q->
  UO (UP X.prog X.w) X.A (forIn ifs true λc r=>if r=true then do let ok<-isTrue c X.env (eval c X.env);pure (QQ ok) else pure (QQ r)) (TP X Wx σ Q) X.xe s
def BC:TT:=λ_ H Q=>Q true H
theorem BD{X:Cx}:mq X [] BC:=λWx s σ H Q I h=>wpAny_tests_nil ⟨H,I,h⟩
theorem GS{X:Cx}{c:US}{t:TT}(h:PT X c t):mq X [c] t:=λWx s σ H Q I hq=>wpAny_tests_one (h Wx s σ H Q I hq)
theorem bJ.but{P:UX}{w:UZ}{H:Hp}{h h':UW}{C:UL}(x:bJ P w H h)(hC:H C=none)(k:∀b o,b≠C->h.get? b=some o->h'.get? b=some o):bJ P w H h':=λa o e=>by
 refine(x a o e).stay (λb u hb q=>k b u ?_ q) (λ_ q=>q) (λ_ _ q=>q) λ_ _ q=>q;intro z;subst z;rcases hb with z | z
 ·rw [<-z,hC] at e;cases e
 ·rw [hC] at z;cases z
theorem GU{M:VY}{A:U1}{E:UJ->UM->Prop}{s:UM}{scope:Vg}{g:UL}{cl:List (Str×UL)}{qual:Str}{e:Env}{Q:Env->UM->Prop}
 (hQ:∀h',h'=pushCells (s.heap.push {cls:= .type "dict",data:= .dict #[]}) scope.names->h'.Ns s.heap.objs.size (λ_=>none)->(∀b o,s.heap.get? b=some o->h'.get? b=some o)->
  Q (newEnv scope s.heap.objs.size g (Vf (s.heap.objs.size+1) scope.names cl) qual none .none (some e) builtinsNs) {s with heap:=h'}):
 UO M A (newFunctionEnv scope g cl [] qual none .none (some e)) Q E s:=by
 simp only [newFunctionEnv,Option.isSome_some,if_true];refine UK (wpAny_alloc (UK (wpAny_layCells _ (λname kind cells=>by cases hkc:kind==RE <;> simp [hkc]) _ _ _ _ ?_)));rw [show({s with heap:=s.heap.push {cls:= .type "dict",data:= .dict #[]}}:UM).heap.objs.size=s.heap.objs.size+1 from Qb ..];rw [SG];exact UK (UN (UN (hQ _ rfl ((Heap.Ns.new s.heap (.type "dict")).keeps (pushCells_keeps _ _)) λb o e=>pushCells_keeps _ _ b o (NK _ e))))
def qi(wi:TI)(g:TG)(tc:TT)(te:TE)(k:Nat)(fr:List Nat):TE:=λσ H Q=>wi σ H λJ H1=>∀D,H1 D=none->∃W:Nat->Nat->Hp->Prop,(∃m,W 0 m (ak H1 D (.lst [])))/\∀i m H,W i m H->
 (J.stop i H/\Q (.ref D) H)\/(J.go i H/\∀x H',J.yld i H x H'->g x (bC k fr σ) H' λσ2 H2=>oy (bC k fr σ) σ2/\tc σ2 H2 λok H3=>
  if ok=true then te σ2 H3 λy H4=>∃ys,H4 D=some (.lst ys)/\ys.length < UR/\∃m',m' < m/\W (i+1) m' (ak H4 D (.lst (ys++[y])))
  else ∃m',m' < m/\W (i+1) m' H3)
section
variable {X:Cx} {tg iter elt:US} {ifs:List US} {scope:Vg} {N':List Str} {k:Nat} {fr:List Nat} {wi:TI} {g:TG} {tc:TT} {te:TE} {pos:Pos}
theorem GV{use:Option (UJ->Sem Unit)}{Q':UJ->UM->Prop}{Wx:List (UL×Obj)}{s:UM}{σ:St}{H:Hp}{Q:VK}(hc:X.calm=true)(S:fw X.env.scope X.N N' k fr scope)(hi:PI X tg iter wi)
 (hg:∀fp C s H,PG (jP X scope N' fp C s H) tg g)(hf:∀fp C s H,mq (jP X scope N' fp C s H) ifs tc)(he:∀fp C s H,PE (jP X scope N' fp C s H) elt te)
 (I:ag X Wx σ H s)(h:qi wi g tc te k fr σ H Q)
 (hQ:∀D C s' H',C≠X.env.locals->ag X Wx σ H' s'->(∀h',Qv C s'.heap h'->ag X Wx σ H' {s' with heap:=h'})->Q (.ref D) H'->(∃m,s'.heap.Ns C m)->X.env.locals < C->H' C=none/\(∀x c,X.env.cells.lookup x=some c->c≠C)/\(∀p∈X.pn++Wx,p.1≠C)->compPost (UP X.prog X.w) X.A X.xe use Q' (.ref D) C (.ok .next) s'):
 UO (UP X.prog X.w) X.A (eval iter X.env) (λx s₁=>UO (UP X.prog X.w) X.A (pyIter x) (λit s₂=>UO (UP X.prog X.w) X.A (newList []) (λacc s₃=>
  UO (UP X.prog X.w) X.A (newFunctionEnv scope X.env.globals (lR X.env scope.names []) [] X.env.qual none .none (some X.env)) (λcenv s₄=>
   VC (UP X.prog X.w) X.A (.compStart (.ListComp elt [⟨tg,iter,ifs,0⟩] scope pos) 0 it acc {cenv with scope:=relabel scope X.env}) (compPost (UP X.prog X.w) X.A X.xe use Q' acc cenv.locals) s₄) X.xe s₃) X.xe s₂) X.xe s₁) X.xe s:=by
 refine ax (hi Wx s σ H _ I h) λv s1 h1=>ax h1 λitv s2 h2=>?_;obtain⟨it,fp,tn,J,H2,e,I2,T,st2,f2,wW⟩:=h2;subst e;refine U3 ?_;have hD0:H2 s2.heap.objs.size=none:=I2.hok.fresh (NV _);obtain⟨W,⟨m0,w0⟩,turn⟩:=wW _ hD0;generalize hD:s2.heap.objs.size=D at*;have I3:ag X Wx σ (ak H2 D (.lst [])) {s2 with heap:=s2.heap.push {cls:= .type "list",dict:=none,data:= .seq ([]:List UJ).toArray}}:=by
  have:=I2.lnew (ys:=[]) (its:=[]) (t':=s2.toks) .nil (PU _);rw [hD] at this;exact this
 generalize hs3:({s2 with heap:=s2.heap.push {cls:= .type "list",dict:=none,data:= .seq ([]:List UJ).toArray}}:UM)=s3 at*;have up23:∀b o,s2.heap.get? b=some o->s3.heap.get? b=some o:=λb o e=>by rw [<-hs3];exact NK _ e
 have fpD:∀b∈fp,b≠D:=λb hb z=>by
  obtain⟨o,ho,_⟩:=T.obj _ _ st2 b hb;have:=NW ho;rw [hD,z] at this;exact Qq _ this
 have f3:∀b∈fp,ml X Wx (ak H2 D (.lst [])) b:=λb hb=>⟨by rw [av (fpD b hb)];exact(f2 b hb).1,(f2 b hb).2⟩;have st3:tn 0 s3.heap:=T.keep _ _ _ st2 λb hb o e=>up23 b o e;have lt3:∀b∈fp,b < s3.heap.objs.size:=λb hb=>by obtain⟨o,ho,_⟩:=T.obj _ _ st3 b hb;exact NW ho
 refine GU λh₁ e₁ hns₁ up34=>?_;have I4:=GQ S I3 f3 lt3 e₁ hns₁ up34;have st4:tn 0 h₁:=T.keep _ _ _ st3 λb hb o e=>up34 b o e;generalize hX':jP X scope N' fp s3.heap.objs.size s3 (ak H2 D (.lst []))=X' at*;have hg':PG X' tg g:=by rw [<-hX'];exact hg _ _ _ _
 have hf':mq X' ifs tc:=by rw [<-hX'];exact hf _ _ _ _
 have he':PE X' elt te:=by rw [<-hX'];exact he _ _ _ _
 have eP:X'.prog=X.prog:=by rw [<-hX'];rfl
 have eW:X'.w=X.w:=by rw [<-hX'];rfl
 have eK:X'.K=X.K:=by rw [<-hX'];rfl
 have eA:X'.A=X.A:=by rw [<-hX'];rfl
 have eC:X'.calm=true:=by rw [<-hX'];exact hc
 have eE:X'.xe=λ_ _=>False:=by rw [<-hX'];rfl
 have eEnv:X'.env=compEnvC scope (tj X scope s3.heap.objs.size) s3.heap.objs.size X.env:=by rw [<-hX'];rfl
 have fpx:∀{H':Hp},(∀b∈fp,H' b=none)->∀b∈fp,ml X' [] H' b:=λ{H'} hn b hb=>by
  refine⟨hn b hb,?_,?_,.inl ?_,?_,?_⟩
  ·rw [eEnv];exact OJ (lt3 b hb)
  ·have:=I4.ok.exfs b (by rw [<-hX'];exact hb);exact this
  ·rw [<-hX'];exact hb
  ·have:=I4.ok.exf b (by rw [<-hX'];exact hb);exact this.2
  ·intro p hp;rw [<-hX'] at hp;simp [jP] at hp
 have fin:∀(s':UM)(H':Hp)(σ':St),ag X' [] σ' H' s'->Q (.ref D) H'->compPost (UP X.prog X.w) X.A X.xe use Q' (.ref D) s3.heap.objs.size (.ok .next) s':=λs' H' σ' J q=>by
  have un:Un (ck X.stack) fp (ak H2 D (.lst [])) H' s3.heap s'.heap:=by have:=J.base;rw [<-hX'] at this;exact this
  have jos:s'.os=s3.os:=by have:=J.os;rw [<-hX'] at this;exact this
  have hC:H' s3.heap.objs.size=none:=by have:=J.free;rw [eEnv] at this;exact this
  have hok':bJ X.prog X.w H' s'.heap:=by have:=J.hok;rw [eP,eW] at this;exact this
  have nT:∀h',Qv s3.heap.objs.size s'.heap h'->ag X Wx σ H' {s' with heap:=h'}:=λh' hs'=>by
   have un':Un (ck X.stack) fp (ak H2 D (.lst [])) H' s3.heap h':=
    ⟨λb o e n h1 h2=>hs'.extBut b o (OJ (NW e)) (un.keep b o e n h1 h2),λb o e n h1 h2=>by
     obtain⟨sl,z⟩:=un.slot b o e n h1 h2;exact⟨sl,hs'.extBut b _ (OJ (NW e)) z⟩,un.free,λb o e h2=>by
     obtain⟨o',z⟩:=un.there b o e h2;exact⟨o',hs'.extBut b o' (OJ (NW e)) z⟩,un.tups,un.frzs,un.tbls⟩
   exact ag.call' (s':={s' with heap:=h'}) I3 jos un' (hok'.but hC hs'.extBut) J.bare λb hb=>⟨(f3 b hb).2.2.2.1,(f3 b hb).2.1,(f3 b hb).2.2.2.2.1,(f3 b hb).2.2.2.2.2⟩
  have nsC:∃m,s'.heap.Ns s3.heap.objs.size m:=by
   obtain⟨m,hn,_⟩:=J.loc;rw [eEnv] at hn;exact⟨m,hn⟩
  exact hQ D s3.heap.objs.size s' H' (QZ I3.lt) (nT s'.heap (.refl ..)) nT q nsC I3.lt
   ⟨hC,λx c e=>by obtain⟨v,o,ho,_⟩:=I3.cell x c e;exact OJ (NW ho),λp hp=>OJ (NW (I3.pin p hp).1)⟩
 have loop:∀s4:UM,s4=({s3 with heap:=h₁}:UM)->
  VC (UP X.prog X.w) X.A (.compLoop (.ListComp elt [⟨tg,iter,ifs,0⟩] scope pos) 0 (.ref it) (.ref D) X'.env) (compPost (UP X.prog X.w) X.A X.xe use Q' (.ref D) s3.heap.objs.size) s4:=by
  rintro s4 rfl;refine GR (λn s'=>∃i H',ag X' [] (bC k fr σ) H' s'/\tn i s'.heap/\(∀b∈fp,H' b=none)/\W i n H') ?_ m0 ⟨0,_,I4,st4,λb hb=>(f3 b hb).1,w0⟩;rintro n s5 ⟨i,H5,I5,st5,fr5,w5⟩;rcases turn i n H5 w5 with⟨stop,qn⟩ | ⟨go,step⟩
  ·have:=T.done X' eP eW eK eC i [] s5 _ H5 (λ_ _=>False) I5 (fpx fr5) st5 stop;rw [eA] at this;refine ax this λr s6 ⟨hr,I6⟩=>?_;subst hr;exact fin s6 H5 _ I6 qn
  ·have:=T.item X' eP eW eK eC i [] s5 _ H5 (λ_ _=>False) I5 (fpx fr5) st5 go;rw [eA] at this;refine ax this λr s6 ⟨u,hr,h6⟩=>?_;subst hr;refine ax h6 λ_ s7 ⟨x,H7,I7,r7,y7,st7,fr7⟩=>?_;have I7':=I7.pinned (fpx fr7) (T.obj _ _ st7);have h8:=hg' _ s7 _ H7 x u _ I7' r7 (step x H7 y7);rw [eP,eW,eA,eE] at h8;refine ax h8 λ_ s8 ⟨σ8,H8,I8,kp,q8⟩=>?_;have h9:=hf' _ s8 σ8 H8 _ I8 q8;rw [eP,eW,eA,eE] at h9;have again:∀{s9:UM}{H9:Hp}{n':Nat},ag X' ([]++rn fp s7.heap) σ8 H9 s9->n' < n->W (i+1) n' H9->∃m,m < n/\∃i H',ag X' [] (bC k fr σ) H' s9/\tn i s9.heap/\(∀b∈fp,H' b=none)/\W i m H':=λ{s9 H9 n'} I9 hn' w9=>by
    refine⟨n',hn',i+1,H9,I9.unpinned.weak kp.1 kp.2,T.keep _ _ _ st7 λb hb o e=>(I9.pin (b,o) (Pr _ (Pr _ (sM hb e)))).1,λb hb=>?_,w9⟩;obtain⟨o,e,d⟩:=T.obj _ _ st7 b hb;exact(I9.pin (b,o) (Pr _ (Pr _ (sM hb e)))).2.1
   refine ax h9 λok s9 ⟨H9,I9,q9⟩=>?_;cases ok with
   | false=>
    rw [UD Ou] at q9;obtain⟨m',hm',w9⟩:=q9;rw [UD Ou];exact again I9 hm' w9
   | true=>
    rw [UE rfl] at q9;rw [UE rfl];have h10:=he' _ s9 σ8 H9 _ I9 q9;rw [eP,eW,eA,eE] at h10;refine ax h10 λy s10 ⟨yv,H10,I10,r10,ys,hys,hz,m',hm',w10⟩=>?_;have h11:=Bw (X:=X') _ s10 σ8 H10 (.ref D) [yv] (.ref D) [y] (λ_ H'=>W (i+1) m' H') I10 rfl (.cons r10 .nil) ⟨D,ys,yv,rfl,rfl,hys,hz,w10⟩;rw [eP,eW,eA,eE] at h11;exact ax h11 λ_ s11 uu67=>by obtain⟨_,H11,I11,_,q11⟩:=uu67;exact again I11 hm' q11
 have hE:({newEnv scope s3.heap.objs.size X.env.globals (tj X scope s3.heap.objs.size) X.env.qual none .none (some X.env) builtinsNs with scope:=relabel scope X.env}:Env)=X'.env:=by
  rw [eEnv];rfl
 have goal:=codeAny_compStart_list (elt:=elt) (target:=tg) (iter:=iter) (ifs:=ifs) (rest:=[]) (scope:=scope) (pos:=pos) (loop _ rfl) (T.self X.A 0 _ _ _ st4 (loop _ rfl));rw [<-hE] at goal;exact goal
theorem pj(hc:X.calm=true)(S:fw X.env.scope X.N N' k fr scope)(hi:PI X tg iter wi)
 (hg:∀fp C s H,PG (jP X scope N' fp C s H) tg g)(hf:∀fp C s H,mq (jP X scope N' fp C s H) ifs tc)(he:∀fp C s H,PE (jP X scope N' fp C s H) elt te)
 (hs:∀x,Va iter X.env x=pure x:=by intro _;rfl):PE X (.ListComp elt [⟨tg,iter,ifs,0⟩] scope pos) (qi wi g tc te k fr):=by
 intro Wx s σ H Q I h;have hcell:∀y∈scope.names,y.2= .free->∃c,X.env.cells.lookup y.1=some c:=λy hy e=>I.ok.has y.1 (S.outer y hy e);rw [eval_ListComp];refine wpAny_comprehension_free (use:=none) rfl hs (GL hcell) S.kind S.names (GV hc S hi hg hf he I h ?_);intro D C s' H' hC J nT q ns hlt _;obtain⟨m,hn⟩:=ns;exact⟨m,hn,λh' hs'=>⟨.ref D,H',nT h' hs',rfl,q⟩⟩
end
section
variable {X:Cx}
theorem GW:br X (Vl .Mult) (rI IntMulOk λi j=>.int (i*j)):=rz λ_ _ _ _ _ _ _ hc q=>mul_int q hc
theorem vU(hc:X.calm=true):kq X (.builtin "sum") (λxs H Q=>∃(a:UL)(ns:List Int),xs=[.ref a]/\bj X.K H a (ns.map V.int)/\Q (.int ns.sum) H):=by
 intro Wx s σ H xs us Q I r h;obtain⟨a,ns,rfl,hl,q⟩:=h;obtain⟨u,rfl,rx⟩:=kY r;cases rx;obtain⟨its,rv,p,hz⟩:=I.list hl;have hi:IntsAre its ns:=Gf rv;have hall:AllInts its.toArray:=hi.allInts;obtain⟨ys,hys⟩:=hall.items;have hn:numsOf its.toArray.toList=ns:=by rw [show its.toArray.toList=its from rfl,hi.numsOf]
 rw [hys,nums_intItems] at hn;have hl':=p.isList;rw [hys] at hl';refine sum_intListG (I.ok.hd hc) hl' λh' tk t' hk=>?_;refine⟨.int ns.sum,H,I.kept hk,⟨t',?_⟩,q⟩;rw [preSum_eq,Po UH,hn]
theorem GX:kq X (.builtin "isinstance") (λxs H Q=>∃x T t b,xs=[x,.ty T]/\l8 X.K H x t/\QH X.K t (.type T)=some b/\Q (.bl b) H):=by
 intro Wx s σ H xs us Q I r h;obtain⟨x,T,t,b,rfl,ty,e,q⟩:=h;obtain⟨u,w',rfl,rx,rt⟩:=pe r;cases rt;exact F3 I rx ty e λtk=>⟨.bl b,H,I.tok tk,rfl,q⟩
end
end L2
namespace Att
open PySem PySem.W PySem.Calls PyProof.Rows
theorem GY{ns:List Int}(h:TK [R9 (ns.map QP)]=true):∀n∈ns,Pk n<=1048576:=by
 have h1:(R9 (ns.map QP)).layable=true:=by simpa [TK] using h
 have h2:(R9 (ns.map QP)).weight<=1048576:=(PySem.W.layableW_iff.mp h1).2.2;have key:∀l:List Int,∀n∈l,Pk n<=Ra (l.map QP):=by
  intro l
  induction l with
  | nil=>intro n hn;simp at hn
  | cons x r ih=>
   intro n hn;have e:Ra ((x::r).map QP)=Pk x+1+Ra (r.map QP):=by
    rw [NN,Ra,Ui];rfl
   rw [e];rcases NO.mp hn with z | z
   ·subst z;omega
   ·have:=ih n z;omega
 intro n hn;have e:(R9 (ns.map QP)).weight=Ra (ns.map QP):=by rw [Ui]
 rw [e] at h2;exact OB (key ns n hn) h2
theorem attach_callB{l:OpenLaw}{n:Nat}{q:UX}{loose:List Str}{XP:(Str->Option UJ)->UW->Prop}{YP:UZ->UW->Prop}{d:DefRec}
 (hn:l.most=some n)(hdf:d.params.defaults=[])
 (call:∀(w:UZ) (s₀ s₁:UM) (mg mb:Str->Option UJ) (fa:UL) (o:Obj) (pm cd doc:UJ) (a:UL) (vs:List UJ) (ns:List Int),
  Ground q loose [] XP w s₀ mg mb s₁.heap->YP w s₁.heap->
  s₁.heap.get? fa=some o->o.data= .func (docDef d.name d.params d.body d.scope pm cd doc)->s₁.heap.CodeRec cd d.name->mg d.name=some (.ref fa)->
  s₁.heap.get? a=some {cls:= .type "list",data:= .seq vs.toArray}->IntsAre vs ns->ns.length<=n->(∀z∈ns,Pk z<=1048576)->s₁.gens=#[]->
  VC (UP l.prog w) callerA (.call (.ref fa) ⟨[.ref a],[]⟩) (λr s'=>r= .ok (.ret (.bool true))/\OldK s₁.heap s'.heap/\s'.os=s₁.os/\VX s'.gens) s₁):
 WalkO q loose XP YP l.row.toRowW d [] (λf vs=>TV f vs):=by
 intro w s₀ s₁ mg mb G Y fa o pm cd doc dV kV ho hd hcd hD hmg hg args vals as hpre hlay hrd hwl hlo;obtain rfl:dV= .none:=Dflts.none hD hdf;obtain rfl:kV= .none:=Dflts.noKw hD;obtain⟨a,vs,ns,rfl,rfl,hobj,hints,hlen⟩:=GI hn hpre hwl;have hb:∀z∈ns,Pk z<=1048576:=GY hlay;refine enter_call (Vs (call w s₀ s₁ mg mb fa o pm cd doc a vs ns G Y ho (fd_plain hd) hcd hmg hobj hints hlen hb hg) λr s' hq=>?_);obtain⟨rfl,h2,h3,h4⟩:=hq;exact⟨.inl ⟨.bool true,.bool true,[],rfl,λ_=>rfl,.bool true,GJ l _,λ_=>⟨List.Pairwise.nil,λ_ hm=>(nomatch hm)⟩⟩,h2,h3,h4⟩
end Att
namespace L2
open PySem PySem.Spec PyProof.Rows
theorem GZ{l:TX}{n k:Nat}{q:UX}{loose:List Str}{XP:(Str->Option UJ)->UW->Prop}{YP:UZ->UW->Prop}{d:DefRec}{K:Params->NH}{CX:UZ->kH}{sp:UZ->Sp}{x:Str}
 (hn:l.most=some n)(hn2:n<=UR)(hdf:d.params.defaults=[])(hr:bH k callerA)
 (hY:∀(w:UZ) (h:UW),YP w h->(K w.params).In h)
 (F:∀(w:UZ) (mg:Str->Option UJ) (fa:UL) (h:UW),(K w.params).In h->h.Ns UU mg->mg d.name=some (.ref fa)->
  ∃fd:UT,(∀(s:UM) (u:UJ),BindsTo s fd ⟨[u],[]⟩ [(x,u)])/\
   ∀base:UW,(K w.params).In base->base.Ns UU mg->aC l.prog w (K w.params) mg base (CX w) k fa fd [x] (sp w))
 (hsp:∀(w:UZ) (H:Hp) (a:UL) (ns:List Int),ns.length<=n->(∀z∈ns,Pk z<=1048576)->sZ H->bj (K w.params) H a (ns.map V.int)->sp w [.ref a] H (λv _=>v= .bl true) λ_ _ _=>False)
 (hCX:∀(w:UZ) (H:Hp) (s:UM) (e:UJ) (s':UM),CX w [] H s (λ_ _ _=>False) e s'->False):
 Ub q loose XP YP l.row.toRowW d [] (λf vs=>TV f vs):=by
 refine Att.attach_callB hn hdf λw s₀ s₁ mg mb fa o pm cd doc a vs ns G Y ho hd hcd hmg hobj hints hlen hb hg=>?_;have KX:=hY w _ Y;obtain⟨fd,hbi,hF⟩:=F w mg fa _ KX G.T.g hmg;exact GK KX G.T.g G.T.b G.T.builtins G.T.nolimit hg hobj hints (OB hlen hn2) hr hF hbi (λH hO hS=>hsp w H a ns hlen hb hO hS) λH e s'=>hCX w H s₁ e s'
theorem walk_ofBK{l:TX}{n k:Nat}{q:UX}{loose:List Str}{XP:(Str->Option UJ)->UW->Prop}{YP:UZ->UW->Prop}{d:DefRec}{K:Params->NH}{CX:kH}{sp:NH->Sp}{x:Str}
 (hn:l.most=some n)(hn2:n<=UR)(hdf:d.params.defaults=[])(hr:bH k callerA)
 (hY:∀(w:UZ) (h:UW),YP w h->(K w.params).In h)
 (F:∀(w:UZ) (mg:Str->Option UJ) (fa:UL) (h:UW),(K w.params).In h->h.Ns UU mg->mg d.name=some (.ref fa)->
  ∃fd:UT,(∀(s:UM) (u:UJ),BindsTo s fd ⟨[u],[]⟩ [(x,u)])/\
   ∀base:UW,(K w.params).In base->base.Ns UU mg->aC l.prog w (K w.params) mg base CX k fa fd [x] (sp (K w.params)))
 (hsp:∀(K:NH) (H:Hp) (a:UL) (ns:List Int),ns.length<=n->(∀z∈ns,Pk z<=1048576)->sZ H->bj K H a (ns.map V.int)->sp K [.ref a] H (λv _=>v= .bl true) λ_ _ _=>False)
 (hCX:∀(H:Hp) (s:UM) (e:UJ) (s':UM),CX [] H s (λ_ _ _=>False) e s'->False):
 Ub q loose XP YP l.row.toRowW d [] (λf vs=>TV f vs):=
 GZ (K:=K) (CX:=λ_=>CX) (sp:=λw=>sp (K w.params)) hn hn2 hdf hr hY F (λw H a ns h1 hb h2 h3=>hsp (K w.params) H a ns h1 hb h2 h3) λ_ H s e s'=>hCX H s e s'
def mU(p:UL)(H H':Hp):Prop:=∀b o,H b=some o->b≠p->H' b=some o
theorem ao.new{H:Hp}{p:UL}{o:HO}(h:H p=none):ao H (ak H p o):=λb u e=>by rw [av (ko e h)];exact e
def FR(J:It)(g:TG)(tb:TS)(D:oh)(σ:St)(H1:Hp):Prop:=∃W:Nat->Nat->St->Hp->Prop,(∃m,W 0 m σ H1)/\∀i m σ H,W i m σ H->
 (J.stop i H/\D.nx σ H)\/(J.go i H/\∃N:St->Hp->Prop,(∀σ' H',N σ' H'->∃m',m' < m/\W (i+1) m' σ' H')/\∀x H',J.yld i H x H'->g x σ H' λσ2 H2=>tb {D with nx:=N,ct:=N,bk:=D.nx} σ2 H2)
theorem BE{ta:TA}{g:TG}{tb:TS}:rk (vq ta) g tb=λD σ H=>ta σ H λvs H1=>∃j:Int,vs=[.int j]/\-(2 ^ 62)<=j/\j < 2 ^ 62/\FR (mR 0 j.toNat) g tb D σ H1:=rfl
theorem BF{ta:TA}{g:TG}{tb:TS}:rk (vt ta) g tb=λD σ H=>ta σ H λvs H1=>∃i j:Int,vs=[.int i,.int j]/\(-(2 ^ 62)<=i/\i < 2 ^ 62/\-(2 ^ 62)<=j/\j < 2 ^ 62)/\FR (mR i (j - i).toNat) g tb D σ H1:=rfl
theorem BG{K:NH}{tl:TE}{g:TG}{tb:TS}:rk (vo K tl) g tb=λD σ H=>tl σ H λx H1=>∃a,x= .ref a/\(∃xs,bj K H1 a xs)/\FR (rh K a) g tb D σ H1:=rfl
theorem BH{K:NH}{tl:TE}{g:TG}{tb:TS}:rk (vp K tl) g tb=λD σ H=>tl σ H λx H1=>∃a,x= .ref a/\(∃xs,aX K H1 a xs)/\FR (rj K a) g tb D σ H1:=rfl
def oz(J:It)(g:TG)(tc:TT)(te:TE)(k:Nat)(fr:List Nat)(σ:St)(H1:Hp)(Q:VK):Prop:=∀D,H1 D=none->∃W:Nat->Nat->Hp->Prop,(∃m,W 0 m (ak H1 D (.lst [])))/\∀i m H,W i m H->
 (J.stop i H/\Q (.ref D) H)\/(J.go i H/\∀x H',J.yld i H x H'->g x (bC k fr σ) H' λσ2 H2=>oy (bC k fr σ) σ2/\tc σ2 H2 λok H3=>
  if ok=true then te σ2 H3 λy H4=>∃ys,H4 D=some (.lst ys)/\ys.length < UR/\∃m',m' < m/\W (i+1) m' (ak H4 D (.lst (ys++[y])))
  else ∃m',m' < m/\W (i+1) m' H3)
theorem BI{ta:TA}{g:TG}{tc:TT}{te:TE}{k:Nat}{fr:List Nat}:qi (vq ta) g tc te k fr=λσ H Q=>ta σ H λvs H1=>∃j:Int,vs=[.int j]/\-(2 ^ 62)<=j/\j < 2 ^ 62/\oz (mR 0 j.toNat) g tc te k fr σ H1 Q:=rfl
theorem BJ{ta:TA}{g:TG}{tc:TT}{te:TE}{k:Nat}{fr:List Nat}:qi (vt ta) g tc te k fr=λσ H Q=>ta σ H λvs H1=>∃i j:Int,vs=[.int i,.int j]/\(-(2 ^ 62)<=i/\i < 2 ^ 62/\-(2 ^ 62)<=j/\j < 2 ^ 62)/\oz (mR i (j - i).toNat) g tc te k fr σ H1 Q:=rfl
theorem BK{K:NH}{tl:TE}{g:TG}{tc:TT}{te:TE}{k:Nat}{fr:List Nat}:qi (vo K tl) g tc te k fr=λσ H Q=>tl σ H λx H1=>∃a,x= .ref a/\(∃xs,bj K H1 a xs)/\oz (rh K a) g tc te k fr σ H1 Q:=rfl
theorem BL{K:NH}{tl:TE}{g:TG}{tc:TT}{te:TE}{k:Nat}{fr:List Nat}:qi (vp K tl) g tc te k fr=λσ H Q=>tl σ H λx H1=>∃a,x= .ref a/\(∃xs,aX K H1 a xs)/\oz (rj K a) g tc te k fr σ H1 Q:=rfl
theorem BM{fr:List Nat}{σ:St}{v:Option V}:oy (bC 1 fr σ) ((bC 1 fr σ).set 0 v):=by
 refine⟨UH,λi w h=>?_⟩;cases i with
 | zero=>simp [bC,NP] at h
 | succ i=>simpa [bC,NP] using h
theorem G0{lo:Int}{n:Nat}{te:TE}{fr:List Nat}{σ:St}{H:Hp}{Q:VK}(f:Nat->V)(hn:n<=1000000)
 (ht:∀(i:Nat) (H':Hp) (R:VK),i < n->ao H H'->(∀H'',ao H' H''->R (f i) H'')->te ((bC 1 fr σ).set 0 (some (.int (lo+i)))) H' R)
 (hq:∀D H',H D=none->ao H H'->H' D=some (.lst ((PH n).map f))->Q (.ref D) H'):oz (mR lo n) (nK 0) BC te 1 fr σ H Q:=by
 intro D hD;refine⟨λi m H'=>m=n - i/\i<=n/\ao H H'/\H' D=some (.lst ((PH i).map f)),⟨n,UH,PU _,ao.new hD,by rw [bh];rfl⟩,?_⟩;rintro i m H1 ⟨rfl,hi,s1,e1⟩;by_cases hlt:i < n
 ·refine .inr ⟨hlt,λx H' y=>?_⟩;obtain⟨e,y⟩:=y;subst e y;refine⟨BM,?_⟩;show te _ _ _;refine ht i H' _ hlt s1 λH2 s2=>?_;refine⟨_,s2 D _ e1,?_,n - (i+1),UC,rfl,hlt,?_,?_⟩
  ·rw [NS,QY,UY];omega
  ·exact λb o h=>by rw [av (ko h hD)];exact s2 b o (s1 b o h)
  ·rw [bh,QR,P0];rfl
 ·have e:i=n:=UC
  subst e;exact .inl ⟨NV _,hq D H1 hD s1 e1⟩
theorem cxK{CX:kH}{P:UX}{w:UZ}{K:NH}{mg:Str->Option UJ}{base:UW}{N:List Str}{qual:Str}{scope:Vg}{f:UL}{cd:UJ}{A:U1}{outer:List Env}{s:UM}{H:Hp}{E:XK}:(jS CX P w K mg base N qual scope f cd A outer s H E).K=K:=rfl
theorem cmK{X:Cx}{scope:Vg}{N':List Str}{fp:List UL}{C:UL}{s:UM}{H:Hp}:(jP X scope N' fp C s H).K=X.K:=rfl
theorem BN{K:NH}{p:UL}{xs:List V}{i:Int}{v:V}{H:Hp}{Q:VK}(h:bj K H p xs)(hv:atI xs i=some v)(q:Q v H):vK K (.ref p) (.int i) H Q:=⟨p,xs,i,v,rfl,rfl,h,hv,q⟩
theorem vV{α:Type}{xs:List α}{i:Int}(h0:0<=i)(h1:i < xs.length):∃v,atI xs i=some v/\v∈xs:=by
 obtain⟨j,rfl⟩:=OY h0;have hj:j < xs.length:=UC
 exact⟨xs[j],mF (by simp [hj]),Qk hj⟩
theorem G1:U4 "divmod"=some (.builtin "divmod"):=td
theorem kZ:U4 "isinstance"=some (.builtin "isinstance"):=td
theorem mH:U4 "int"=some (.type "int"):=td
theorem rG:U4 "bool"=some (.type "bool"):=td
theorem mr:U4 "str"=some (.type "str"):=td
theorem lz:U4 "tuple"=some (.type "tuple"):=td
theorem pk:U4 "list"=some (.type "list"):=td
open PySem PySem.Spec PyProof.Rows PySem.W
theorem bJ.hide{P:UX}{w:UZ}{H:Hp}{h:UW}{as:List UL}(x:bJ P w H h)(hn:∀b∈as,H b=none):bJ P w H (hideAll h as):=λa o e=>by
 refine(x a o e).stay (λb u hb q=>Wj _ q λhm=>?_) (λ_ q=>q) (λ_ _ q=>q) λ_ _ q=>q;have z:=hn b hm;rcases hb with r | r
 ·rw [r] at z;rw [z] at e;cases e
 ·rw [z] at r;cases r
theorem G2{K:NH}{h:UW}{mg:Str->Option UJ}{x:Str}{C:UL}{bmB:List UJ}{newId:String}(X:K.In h)(hm:mg x=some (.ref C))(q:RF K C bmB newId=true):OwnCls x C bmB newId mg h:=by
 refine⟨hm,?_⟩;unfold RF at q;split at q
 ·rename_i dd cd sl ho;split at q
  ·rename_i C' bm k0 k1 k2 k3 n k5 hm hs;simp only [Oo,beq_iff_eq,N1] at q;obtain⟨⟨⟨⟨⟨rfl,rfl⟩,hdel⟩,ht⟩,hok⟩,hni⟩:=q;obtain⟨nm,bs,mro,ns,qn,hd,sn,sub,ab,col,del⟩:=cd;dsimp only at hm hdel hok hni;subst hm hdel;have hsl:sl=#[k0,k1,k2,k3,some (.builtin n),k5]:=by
    obtain⟨l⟩:=sl;simp only at hs;rw [hs]
   subst hsl;exact⟨bm,ns,nm,qn,bs,hd,sn,sub,ab,col,dd,k0,k1,k2,k3,k5,_,X _ _ ho,.of_isNs (isNs_of_in X hok),nsMap_none_of_in X hok hni,tail_of_in X ht⟩
  ·cases q
 ·cases q
section
variable {M:VY} {A:U1} {E:UJ->UM->Prop}
variable {nm q:Str} {C N:UL} {bs bm:List UJ} {hdct:Bool} {sn:List Str} {sub:List UJ} {ab:Bool} {col:Option Bool} {dd:Option UL} {k0 k1 k2 k3 k5:Option UJ} {newId:String}
variable {nm' q':Str} {C' N':UL} {bs' bm':List UJ} {hdct':Bool} {sn':List Str} {sub':List UJ} {ab':Bool} {col':Option Bool} {dd':Option UL} {k0' k1' k2' k3' k5':Option UJ} {newId':String}
theorem BO{h:UW}{g:Array V4}{d:Drawn}{t:Nat}{os:OsState}{e:UL}{oe:Obj}{Q:Bool->UM->Prop}
 (hC:h.get? C=some (Vj nm q C N bs bm hdct sn sub ab col dd k0 k1 k2 k3 k5 newId))(hC':h.get? C'=some (Vj nm' q' C' N' bs' bm' hdct' sn' sub' ab' col' dd' k0' k1' k2' k3' k5' newId'))
 (he:h.get? e=some oe)(hcls:oe.cls= .ref C)(hbase:bm'.contains (.type "BaseException")=true)(hin:(Oz C::bm).contains (.ref C')=true)
 (hq:Q true ⟨h,g,d,t,os⟩):UO M A (excMatches (.ref e) (.ref C')) Q E ⟨h,g,d,t,os⟩:=by
 have hcB:(Oz C'::bm').contains (.type "BaseException")=true:=by rw [RS,hbase,Si]
 have f:=tc_notTuple;unfold excMatches
 repeat (first | (with_reducible refine Vb he ?_;rw [hcls]) | with_reducible refine Vb hC' ?_ | (with_reducible refine VG hC' ?_;rw [hcB]) | (with_reducible refine VG hC ?_;rw [hin]) | wp_step)
 exact hq
end
section
variable {X:Cx} {Wx:List (UL×Obj)} {σ:St} {H:Hp} {s:UM}
theorem G3{M:VY}{A:U1}{E:UJ->UM->Prop}{i:Nat}{x:Str}{pos:Pos}{Q:Unit->UM->Prop}(I:ag X Wx σ H s)(hN:X.N.Nodup)(hi:X.N[i]?=some x)(hx:X.env.scope.names.lookup x=some .local)
 (h:∀s',ag X Wx (σ.set i none) H s'->Q () s'):UO M A (do bindName X.env x .none;unbindBehindTheSuite X.env x pos) Q E s:=by
 have hcls:(X.env.scope.kind== .class || (X.env.scope.kind== .module && X.env.locals !=X.env.globals))=false:=by rw [I.ok.kind];rfl
 have hiσ:i < σ.length:=by rw [I.len];exact(OW.mp hi).1
 refine UK (wpAny_bindName (oU I hN hi (.inl hx) (v:= .non) rfl (λs1 I1=>?_) (.inr hx)));obtain⟨m,hn,hl⟩:=id I1.loc;obtain⟨u0,r0,lk⟩:=hl i x .non hi (by rw [Pf hiσ]) (.inl hx);have hv:∃v,m x=some v:=by
  rcases lk with⟨_,z⟩ | ⟨z,_⟩
  ·exact⟨_,z⟩
  ·rcases z with z | z
   ·exact absurd (z.symm.trans hx) UH
   ·exact absurd (z.symm.trans hx) UH
 obtain⟨v,hv⟩:=hv;unfold unbindBehindTheSuite;refine Ws (U6 (wpAny_unbindName_local (E:=λ_ _=>False) hx hn hv hcls λh' u hn' hs=>?_) (λ_ _ z=>z) λ_ _ z=>z.elim);obtain⟨oL,_,_,hoL,_⟩:=id hn;have cne:=I1.cne;have tracked:bJ X.prog X.w H h':=λb ob e=>by
  refine(I1.hok b ob e).stay (λc w' hc q=>(hs.2 c ?_).trans q) (λ_ q=>q) (λ_ _ q=>q) λ_ _ q=>q;rintro rfl;rcases hc with z | hc
  ·rw [<-z,I1.free] at e;cases e
  ·rw [I1.free] at hc;cases hc
 refine h _ ⟨I1.ok,I1.os,I1.bare,⟨λb o e n hb hx'=>?_,λb o e n hb hx'=>?_,I1.base.free,λb o e hx'=>?_,I1.base.tups,I1.base.frzs,I1.base.tbls⟩,⟨_,hn',λj y v' e1 e2 e3=>?_⟩,λy c e=>?_,I1.free,I1.freeC,λp hp=>?_,tracked,by simpa using I.len⟩
 ·exact(hs.2 b (OJ (OX (NW e) I.ok.above))).trans (I1.base.keep b o e n hb hx')
 ·obtain⟨sl,e1⟩:=I1.base.slot b o e n hb hx';exact⟨sl,(hs.2 b (OJ (OX (NW e) I.ok.above))).trans e1⟩
 ·obtain⟨o',e1⟩:=I1.base.there b o e hx';exact⟨o',(hs.2 b (OJ (OX (NW e) I.ok.above))).trans e1⟩
 ·by_cases hj:j=i
  ·subst hj;rw [Pf hiσ] at e2;cases e2
  ·rw [O3 (Ne.symm hj)] at e2;obtain⟨u',r',q⟩:=hl j y v' e1 (by rw [O3 (Ne.symm hj)];exact e2) e3;refine⟨u',r',?_⟩;rcases q with⟨k,e⟩ | ⟨k,c,e,z⟩
   ·refine .inl ⟨k,?_⟩;have:y≠x:=λe=>hj (uS hN e1 (e▸hi));simp [this,e]
   ·exact .inr ⟨k,c,e,z.sameBut hs (cne y c e)⟩
 ·obtain⟨w',z⟩:=I1.cell y c e;exact⟨w',z.sameBut hs (cne y c e)⟩
 ·obtain⟨e,n,ne,nf,d⟩:=I1.pin p hp;exact⟨(hs.2 p.1 ne).trans e,n,ne,nf,d⟩
end
def kI(e:UL)(C:UJ)(h:UW):Prop:=∃o,h.get? e=some o/\o.cls=C
theorem bE.there{P:UX}{w:UZ}{H:Hp}{h:UW}{a:UL}{o:HO}(x:bE P w H h a o):∃ob,h.get? a=some ob:=by
 cases o with
 | lst xs=>obtain⟨_,_,_,_,e⟩:=x;exact⟨_,e⟩
 | tup xs=>obtain⟨_,_,_,ob,e,_⟩:=x;exact⟨_,e⟩
 | dK kvs=>obtain⟨_,_,_,_,o,_,_,e,_⟩:=x;exact⟨_,e⟩
 | dT kvs=>obtain⟨_,_,_,_,o,_,_,e,_⟩:=x;exact⟨_,e⟩
 | set S n=>obtain⟨o,_,_,_,e,_⟩:=x;exact⟨_,e⟩
 | ins C dx fs=>obtain⟨_,_,_,e,_⟩:=x;exact⟨_,e⟩
 | own y=>exact x
 | xd fs=>obtain⟨_,⟨_,_,_,e,_⟩,_⟩:=x;exact⟨_,e⟩
 | rng lo hi=>obtain⟨_,_,_,e⟩:=x;exact⟨_,e⟩
 | frz ob u=>obtain⟨e,_⟩:=x;exact⟨_,e⟩
 | tbl ps=>obtain⟨_,_,_,_,e,_⟩:=x;exact⟨_,e⟩
 | cod q=>obtain⟨_,_,_,e,_⟩:=x;exact⟨_,e⟩
 | met f y=>exact⟨_,(show h.get? a=some _ from x)⟩
 | ext φ=>exact x.2.1
theorem tm{X:Cx}{outer:List Env}{H H':Hp}{h h1 h2 B:UW}{e:UL}{cls a0:UJ}(un:Un (ck outer) [] H H' h h1)(fl:QK B outer e cls a0 h1)(st:B.StaysIn h2)(sm:h1.UpToSlots h2)
 (kb:∀b o,h.get? b=some o->H b=none->b ∉ ck outer->B.get? b=some o)(th:∀b o,h.get? b=some o->b ∉ ck outer->∃o',B.get? b=some o'):Un (ck outer) [] H H' h h2:=by
 have up:∀b∈ck outer,∀o,h1.get? b=some o->∃sl,h2.get? b=some {o with slots:=sl}:=λb hb o eo=>by
  obtain⟨_,o',ho',hd⟩:=fl.2.2.1.mem hb;rw [eo] at ho';cases ho';exact sm b o eo hd
 refine⟨λb o eb n hb _=>st b o (kb b o eb n hb),λb o eb n hb hx=>?_,un.free,λb o eb hx=>?_,un.tups,un.frzs,un.tbls⟩
 ·obtain⟨sl,es⟩:=un.slot b o eb n hb hx;obtain⟨sl',es'⟩:=up b hb _ es;exact⟨sl',es'⟩
 ·by_cases hb:b∈ck outer
  ·obtain⟨o',eo'⟩:=un.there b o eb hx;obtain⟨sl',es'⟩:=up b hb _ eo';exact⟨_,es'⟩
  ·obtain⟨o',eo'⟩:=th b o eb hb;exact⟨o',st b o' eo'⟩
abbrev Cx.inEx(X:Cx)(e:UL):Cx:={X with A:=X.A.mark (some (.ref e)),calm:=false,xe:=λ_ _=>False}
theorem Cx.Ok.inEx{X:Cx}(ok:X.Ok)(e:UL):(X.inEx e).Ok:=
 ⟨ok.mod,ok.kind,ok.glob,ok.blt,ok.above,ok.inj,ok.has,ok.cab,λz=>absurd z UH,ok.frames,ok.stk,ok.exf,ok.bs,ok.bsz,ok.noex,ok.exfs,ok.funs,ok.frf⟩
theorem Cx.Ok.outEx{X:Cx}{e:UL}(ok:(X.inEx e).Ok)(hd:X.calm=true->X.A.handled=none):X.Ok:=
 ⟨ok.mod,ok.kind,ok.glob,ok.blt,ok.above,ok.inj,ok.has,ok.cab,hd,ok.frames,ok.stk,ok.exf,ok.bs,ok.bsz,ok.noex,ok.exfs,ok.funs,ok.frf⟩
section
variable {X:Cx} {Wx:List (UL×Obj)} {σ:St} {H:Hp} {s:UM}
theorem ag.inEx(I:ag X Wx σ H s)(e:UL):ag (X.inEx e) Wx σ H s:=⟨I.ok.inEx e,I.os,I.bare,I.base,I.loc,I.cell,I.free,I.freeC,I.pin,I.hok,I.len⟩
theorem ag.outEx{e:UL}(I:ag (X.inEx e) Wx σ H s)(hd:X.calm=true->X.A.handled=none):ag X Wx σ H s:=⟨I.ok.outEx hd,I.os,I.bare,I.base,I.loc,I.cell,I.free,I.freeC,I.pin,I.hok,I.len⟩
end
theorem BP{K:NH}{h:UW}{C C':UL}{nm qn:Str}{N:UL}{bs bm:List UJ}{hdct:Bool}{sn:List Str}{sub:List UJ}{ab:Bool}{col:Option Bool}{dd:Option UL}{k0 k1 k2 k3 k5:Option UJ}{newId:String}(X:K.In h)(e:P2 K C (.ref C')=some true)
 (hC:h.get? C=some (Vj nm qn C N bs bm hdct sn sub ab col dd k0 k1 k2 k3 k5 newId)):(Oz C::bm).contains (.ref C')=true:=by
 obtain⟨cd,a,b⟩:=Option.bind_eq_some_iff.mp e;unfold PySem.W.clsIn at a;split at a
 ·rename_i ho;cases a;have z:=(X _ _ ho).symm.trans hC;have z1:cd.mro=Oz C::bm:=by unfold Vj at z;cases z;rfl
  split at b
  ·cases b
  ·rw [z1] at b;exact Ph b
 ·cases a
section
variable {X:Cx}
theorem G4{bs:List Bool}{its:List UJ}(r:aG (bs.map V.bl) its):its=bs.map QD:=by
 induction bs generalizing its with
 | nil=>cases r;rfl
 | cons b bs ih=>
  rw [NN] at r;cases r with
  | cons r1 r2=>
   rw [NN,<-ih r2];exact congrArg (·::_) r1
theorem G5(bs:List Bool)(f:Nat->Bool)(h:∀i,i < bs.length->f i=bs.getD i true):(PH bs.length).all f=bs.all id:=by
 rw [P6,Pg,Pg];constructor
 ·intro z b hb;obtain⟨i,hi,e⟩:=List.getElem_of_mem hb;have:=z i (QG.mpr hi);rw [h i hi,QC,O8 hi] at this;rw [<-e];exact this
 ·intro z i hi;have hi:=QG.mp hi;rw [h i hi,QC,O8 hi];exact z _ (Qk hi)
theorem G6{bs:List Bool}{i:Nat}{v:UJ}(h:(bs.map QD).toArray[i]?=some v):v= .bool (bs.getD i true):=by
 have h':(bs.map QD)[i]?=some v:=by simpa using h
 rw [PY] at h';cases e:bs[i]? with
 | none=>rw [e] at h';cases h'
 | some b=>
  rw [e] at h';rw [QC,e];exact(Ph h').symm
theorem G7{prog:UX}{w:UZ}{A:U1}{E:UJ->UM->Prop}{s:UM}{l:UL}{items:Array UJ}{Q:UJ->UM->Prop}(hl:s.heap.IsList l items)
 (h:∀s₂:UM,s₂={s with heap:=s.heap.push {cls:= .type "list_iterator",data:= .fields #[.ref l,.int 0 0]}}->
  (s₂.heap.IsListIter s.heap.objs.size l 0/\s₂.heap.IsList l items)->l≠s.heap.objs.size->Q (.ref s.heap.objs.size) s₂):UO (UP prog w) A (pyIter (.ref l)) Q E s:=by
 have hlt:l < s.heap.objs.size:=by obtain⟨_,e,_⟩:=hl;exact NW e
 exact Wt hl (h _ rfl ⟨⟨_,N7 _ rfl,rfl,rfl⟩,hl.push _⟩ (OJ hlt))
theorem oA(hc:X.calm=true):kq X (.builtin "all") (λxs H Q=>∃(a:UL)(bs:List Bool),xs=[.ref a]/\bj X.K H a (bs.map V.bl)/\Q (.bl (bs.all id)) H):=by
 intro Wx s σ H xs us Q I r h;obtain⟨a,bs,rfl,hl,q⟩:=h;obtain⟨u,rfl,rx⟩:=kY r;cases rx;obtain⟨its,rv,p,hz⟩:=I.list hl;have hi:=G4 rv;subst hi;refine call_all_walk (G7 p.isList λs₂ e st hlI=>?_);subst e;refine⟨_,_,_,_,_,_,λi=>bs.getD i true,rfl,Uy (A:=X.A.in1) (I.ok.hd hc) _ a hlI _,st,λi v s' Q' E' hP hq=>by rw [G6 hP];exact U9 hq,λh' tk hk=>?_⟩;have e:=G5 bs (λi=>bs.getD i true) λ_ _=>rfl;have e2:(Pd QD bs).toArray.size=bs.length:=UH
 rw [e2,e];exact⟨.bl (bs.all id),H,I.kept (old_kept hk),rfl,q⟩
end
open PySem PySem.Spec PyProof.Rows PySem.W PySem.Calls PySem.Builtin.ObjectAttr PySem.Builtin PySem.Builtin.Getset_descriptor
section
variable {prog:UX} {w:UZ} {A:U1} {E:UJ->UM->Prop} {s:UM} {K:NH} {x C:UL}
theorem kI.type{M:VY}{h:UW}(p:kI x (.ref C) h):Looks M h (typeOf (.ref x)) (.ref C):=by
 obtain⟨o,h1,h2⟩:=p;exact h2▸(Looks.ld h1).andThen .now
theorem G8{tp:UJ}{R:Result->UM->Prop}(X:K.In s.heap)(p:kI x (.ref C) s.heap)(hm:mroIn K C (.type "object")=some true)(hq:R (.ok (.ret (.ref C))) s):
 VC (UP prog w) A (.call (.builtin "getset_descriptor.__get__") ⟨[.builtin "object.__class__",.ref x,tp],[]⟩) R s:=by
 obtain⟨hh,gg,dr,tt,os⟩:=s;have LT:=kI.type (M:=UP prog w) p;have LM:=looks_mroIn (M:=UP prog w) X hm;refine Vp KF.slot_gs.plain KF.entry_gs (KF.slot_gs.check _ _ _ _ _ _ _ _ KF.type_class (KF.args_gs _ _ _) ?_);unfold Builtin.«getset_descriptor.__get__» descrGet;rw [dga_obj];refine UK (UN ?_);unfold descrGetter descrCheckInstance descrNameAndClass isInstance;simp only [KF.owner_class]
 repeat lk
 refine⟨Rj _ td,Vv KF.entry_class ?_⟩;unfold Builtin.«object.__class__» shownTypeOf;(repeat lk);exact hq
structure lC (K:NH) (C:UL):Prop where
 ga:Wb K (.ref C) "__getattribute__"=some (some (.builtin "BaseException.__getattribute__"))
 hk:Wb K (.ref C) "__getattr__"=some none
 cl:Wb K (.ref C) "__class__"=some (some (.builtin "object.__class__"))
 gt:specialIn K (.builtin "object.__class__") "__get__"=some (some (.builtin "getset_descriptor.__get__"))
 tk:takesIn K (.builtin "object.__class__")=some true
 ob:mroIn K C (.type "object")=some true
 be:mroIn K C (.type "BaseException")=some true
 cd:(clsIn K C).isSome=true
theorem BQ{nameV:UJ}{Q:Unit->UM->Prop}(Z:lC K C)(X:K.In s.heap)(p:kI x (.ref C) s.heap)(hq:Q () s):
 UO (UP prog w) A (VP "BaseException.__getattribute__" ⟨[.ref x,nameV],[]⟩) Q E s:=by
 have hk:builtinKind "BaseException.__getattribute__"=some .slot:=td
 have hsp:splitId "BaseException.__getattribute__"=some ("BaseException","__getattribute__"):=td
 have ha:=F.args_bexc_ga (.ref x) nameV;have LI:Looks (UP prog w) s.heap (isInstance (.ref x) (.type "BaseException")) true:=(kI.type p).andThen (looks_mroIn X Z.be);simp only [VP,hk,hsp];refine UK (LI.at ?_)
 repeat (first | wp_step)
 exact hq
theorem G9{tk:Tok}{Q:Fin->UM->Prop}(Z:lC K C)(X:K.In s.heap)(p:kI x (.ref C) s.heap)(hq:Q (.done (.ret (.ref C))) s):
 UO (UP prog w) A (Builtin.«object.__getattribute__» ⟨[.ref x,.str "__class__" tk],[]⟩) Q E s:=by
 obtain⟨hh,gg,dr,tt,os⟩:=s;have L0:=kI.type (M:=UP prog w) p;have L1:=VD (M:=UP prog w) X Z.cl;have L2:=looks_specialIn (M:=UP prog w) X Z.gt;have L3:=looks_takesIn (M:=UP prog w) X Z.tk;have LF:Looks (UP prog w) hh (PySem.Builtin.ObjectAttr.find (.ref x) (.ref C) "__class__") (.bind (.builtin "getset_descriptor.__get__") (.builtin "object.__class__")):=
  L1.andThen (L2.andThen ((show Looks (UP prog w) hh (dataDescriptor? (some (.builtin "object.__class__")) (some (.builtin "getset_descriptor.__get__"))) (some (.builtin "getset_descriptor.__get__",.builtin "object.__class__")) from L3.andThen .now).andThen (Looks.tag .now)))
 unfold Builtin.«object.__getattribute__»
 repeat (first | with_reducible refine UK (L0.at ?_) | with_reducible refine UK (LF.at ?_) | wp_step)
 refine G8 X p Z.ob ?_
 repeat (first | wp_step)
 exact hq
theorem Ha{tk:Tok}{R:Result->UM->Prop}(Z:lC K C)(X:K.In s.heap)(p:kI x (.ref C) s.heap)(hq:R (.ok (.ret (.ref C))) s):
 VC (UP prog w) A (.call (.builtin "BaseException.__getattribute__") ⟨[.ref x,.str "__class__" tk],[]⟩) R s:=
 Vp F.excAttr_ValueError.ga.plain F.entry_bexc_ga (BQ Z X p (G9 Z X p hq))
theorem Hb{tk:Tok}{Q:UJ->UM->Prop}(Z:lC K C)(X:K.In s.heap)(p:kI x (.ref C) s.heap)(hq:Q (.ref C) s):
 UO (UP prog w) A (getAttrBy (.ref x) (.str "__class__" tk) false) Q E s:=by
 obtain⟨hh,gg,dr,tt,os⟩:=s;have L0:=kI.type (M:=UP prog w) p;have L1:=VD (M:=UP prog w) X Z.ga;have L2:=VD (M:=UP prog w) X Z.hk;have f3:=F.excAttr_ValueError.ga.bind (.ref x);have hx0:(false && onTheHeap (Qj "BaseException.__getattribute__"))=false:=rfl;have hx2:(Qj "BaseException.__getattribute__"==Qj "object.__getattribute__")=false:=td
 have hx1:(onTheHeap (Oz C) && Qj "BaseException.__getattribute__"==Qj "object.__getattribute__")=false:=by rw [hx2];rfl
 repeat (first | with_reducible refine UK (L0.at ?_) | with_reducible refine UK (L1.at ?_) | with_reducible refine L2.at ?_ | wp_step)
 refine Ha (s:=⟨hh,gg,dr,tt,os⟩) Z X p ?_
 repeat (first | wp_step)
 exact hq
theorem Hc{Q:Option UJ->UM->Prop}(Z:lC K C)(X:K.In s.heap)(p:kI x (.ref C) s.heap)(hq:Q (some (.ref C)) {s with toks:=s.toks+1}):
 UO (UP prog w) A (getAttr? (.ref x) "__class__") Q E s:=by
 obtain⟨hh,gg,dr,tt,os⟩:=s;unfold getAttr? getAttrBy?
 repeat (any_goals (first | assumption | with_reducible apply Hb (s:=⟨hh,gg,dr,tt+1,os⟩) Z X p | wp_step))
theorem BR(Z:lC K C):KitX K (.ref x) (.ref C) (kI x (.ref C)) where
 ty:=λM h _ p=>kI.type p
 it:=λM h X _=>by
  obtain⟨cdD,hcD⟩:=Qp.mp Z.cd;unfold clsIn at hcD;split at hcD
  ·rename_i ho;intro A' Q' E' s' k q;unfold isType loadHead;exact UK (wpAny_loadPart (k _ _ (X _ _ ho)) (UN q))
  ·cases hcD
 ne:=λh tp dd its n sl X htp=>by
  obtain⟨cdD,hcD⟩:=Qp.mp Z.cd;refine Tr.mpr λq=>?_;have e:=Oz.inj (beq_iff_eq.mp q);subst e;unfold clsIn at hcD;split at hcD
  ·rename_i ho;have z:=(X _ _ ho).symm.trans htp;cases z
  ·cases hcD
 ca:=λX p k=>Hc Z X p k
end
section
variable {X:Cx}
abbrev bu(d:UI):Prop:=P9 d=true
theorem Hd{cs:List UL}{its:List UJ}(r:aG (cs.map V.ref) its):its=cs.map Oz:=by
 induction cs generalizing its with
 | nil=>cases r;rfl
 | cons b bs ih=>
  rw [NN] at r;cases r with
  | cons r1 r2=>
   rw [NN,<-ih r2];exact congrArg (·::_) r1
end
theorem oB:U4 "all"=some (.builtin "all"):=td
theorem He:U4 "ValueError"=some (.type "ValueError"):=td
def Hf(p:UL)(h:UW):Prop:=∃(n:Int)(t:Tok)(k:Nat),h.get? p=some {cls:= .type "list",data:= .seq #[.int n t] k}
abbrev nR(p:UL):HO:= .ext (Hf p)
abbrev lT:UI:= .dict [(.none,.none)]
def Hg(p:UL)(h:UW):Prop:=∃(a b c:Int)(t u v:Tok)(k:Nat),h.get? p=some {cls:= .type "list",data:= .seq #[.int a t,.int b u,.int c v] k}
abbrev Hh(p:UL):HO:= .ext (Hg p)
abbrev Hi:UI:= .dict [(.none,.bool true)]
abbrev ma(ds:List UI):UI:= .dict [(.none,.list ds)]
abbrev BS(C:UL)(kp ds:List UI):UI:= .dict [(.none,.tuple [.int (C:Int),.list kp,.list ds])]
abbrev BU(kp ds:List UI):UI:= .dict [(.bool true,.tuple [.list kp,.list ds])]
abbrev Ex:=UL->Prop
abbrev rH:Hp:=λ_=>none
mutual
inductive Dt (K:NH) (H:Hp) (O:Ex):V->UI->Prop
 | non:Dt K H O .non .none
 | bl (b:Bool):Dt K H O (.bl b) (.bool b)
 | int (i:Int):Dt K H O (.int i) (.int i)
 | str (x:Str):Dt K H O (.str x) (.str x)
 | tup {a:UL} {xs:List V} {ds:List UI}:Rd H a (.tup xs)->¬O a->aq K H O xs ds->Dt K H O (.ref a) (.tuple ds)
 | tupK {a:UL} {xs:List V} {ds:List UI}:aX K rH a xs->aq K H O xs ds->Dt K H O (.ref a) (.tuple ds)
 | lst {a:UL} {xs:List V} {ds:List UI}:Rd H a (.lst xs)->¬O a->aq K H O xs ds->Dt K H O (.ref a) (.list ds)
 | pack {p:UL}:H p=some (nR p)->¬O p->Dt K H O (.ref p) lT
 | purse {p:UL}:H p=some (Hh p)->¬O p->Dt K H O (.ref p) Hi
 | dct0 {a:UL}:H a=some (.dK [])->¬O a->Dt K H O (.ref a) (.dict [])
 | obj {a C dx:UL} {fs:List (Str×V)} {kp ds:List UI}:H a=some (.ins C dx fs)->kp=fs.map (λp=>NI p.1)->¬O a->aq K H O (fs.map (·.2)) ds->Dt K H O (.ref a) (BS C kp ds)
 | dic {a:UL} {ob:Obj} {kv:List (aZ×V)} {ks:List Str} {kp ds:List UI}:H a=some (.frz ob (.dK kv))->kv.map (·.1)=ks.map Rm->kp=ks.map NI->¬O a->aq K H O (kv.map (·.2)) ds->Dt K H O (.ref a) (BU kp ds)
 | scr {a:UL} {xs:List V} {ds:List UI}:(Rd H a (.lst xs)/\¬O a)\/bj K rH a xs->aq K H O xs ds->Dt K H O (.ref a) (ma ds)
inductive aq (K:NH) (H:Hp) (O:Ex):List V->List UI->Prop
 | nil:aq K H O [] []
 | cons {v:V} {d:UI} {vs:List V} {ds:List UI}:Dt K H O v d->aq K H O vs ds->aq K H O (v::vs) (d::ds)
end
theorem Rd.same{H H':Hp}{a:UL}{u:HO}(s:∀o,H a=some o->H' a=some o)(h:Rd H a u):Rd H' a u:=by
 rcases h with h | ⟨o,h⟩
 ·exact .inl (s _ h)
 ·exact .inr ⟨o,s _ h⟩
theorem Rd.trk{H:Hp}{a:UL}{u:HO}(h:Rd H a u):H a≠none:=by
 rcases h with h | ⟨o,h⟩ <;> rw [h] <;> exact λz=>nomatch z
section
variable {K:NH}
structure bA (H H':Hp) (O O':Ex):Prop where
 keep:∀b o,H b=some o->¬O b->H' b=some o
 out:∀b,H b≠none->¬O b->¬O' b
mutual
theorem Dt.step{H H':Hp}{O O':Ex}(S:bA H H' O O'):∀{v:V}{d:UI},Dt K H O v d->Dt K H' O' v d
 | _,_,.non=>.non
 | _,_,.bl b=>.bl b
 | _,_,.int i=>.int i
 | _,_,.str x=>.str x
 | _,_,.tup h n r=>.tup (h.same λo e=>S.keep _ o e n) (S.out _ h.trk n) (aq.step S r)
 | _,_,.tupK h r=>.tupK h (aq.step S r)
 | _,_,.lst h n r=>.lst (h.same λo e=>S.keep _ o e n) (S.out _ h.trk n) (aq.step S r)
 | _,_,.pack h n=>.pack (S.keep _ _ h n) (S.out _ (by rw [h];exact λz=>nomatch z) n)
 | _,_,.purse h n=>.purse (S.keep _ _ h n) (S.out _ (by rw [h];exact λz=>nomatch z) n)
 | _,_,.dct0 h n=>.dct0 (S.keep _ _ h n) (S.out _ (by rw [h];exact λz=>nomatch z) n)
 | _,_,.obj h e n r=>.obj (S.keep _ _ h n) e (S.out _ (by rw [h];exact λz=>nomatch z) n) (aq.step S r)
 | _,_,.dic h e1 e2 n r=>.dic (S.keep _ _ h n) e1 e2 (S.out _ (by rw [h];exact λz=>nomatch z) n) (aq.step S r)
 | _,_,.scr h r=>.scr (h.imp (λh=>⟨h.1.same λo e=>S.keep _ o e h.2,S.out _ h.1.trk h.2⟩) id) (aq.step S r)
theorem aq.step{H H':Hp}{O O':Ex}(S:bA H H' O O'):∀{vs:List V}{ds:List UI},aq K H O vs ds->aq K H' O' vs ds
 | _,_,.nil=>.nil
 | _,_,.cons h r=>.cons (Dt.step S h) (aq.step S r)
end
theorem bA.same{H H':Hp}{O:Ex}(s:ao H H'):bA H H' O O:=⟨λb o e _=>s b o e,λ_ _ n=>n⟩
theorem Dt.mono{H H':Hp}{O:Ex}{v:V}{d:UI}(s:ao H H')(h:Dt K H O v d):Dt K H' O v d:=h.step (.same s)
theorem aq.mono{H H':Hp}{O:Ex}{v:List V}{d:List UI}(s:ao H H')(h:aq K H O v d):aq K H' O v d:=h.step (.same s)
theorem aq.length{H:Hp}{O:Ex}:∀{vs:List V}{ds:List UI},aq K H O vs ds->vs.length=ds.length
 | _,_,.nil=>rfl
 | _,_,.cons _ r=>by rw [NJ,NJ,aq.length r]
theorem aq.get{H:Hp}{O:Ex}:∀{vs:List V}{ds:List UI}{i:Nat}{v:V},aq K H O vs ds->vs[i]?=some v->∃d,ds[i]?=some d/\Dt K H O v d
 | _,_,_,_,.nil,e=>by simp at e
 | _,_,0,_,.cons h _,e=>by simp at e;subst e;exact⟨_,rfl,h⟩
 | _,_,i+1,_,.cons _ r,e=>by simpa using aq.get (i:=i) r (by simpa using e)
theorem aq.getD{H:Hp}{O:Ex}:∀{vs:List V}{ds:List UI}{i:Nat}{d:UI},aq K H O vs ds->ds[i]?=some d->∃v,vs[i]?=some v/\Dt K H O v d
 | _,_,_,_,.nil,e=>by simp at e
 | _,_,0,_,.cons h _,e=>by simp at e;subst e;exact⟨_,rfl,h⟩
 | _,_,i+1,_,.cons _ r,e=>by simpa using aq.getD (i:=i) r (by simpa using e)
theorem aq.append{H:Hp}{O:Ex}:∀{vs ws:List V}{ds es:List UI},aq K H O vs ds->aq K H O ws es->aq K H O (vs++ws) (ds++es)
 | _,_,_,_,.nil,s=>s
 | _,_,_,_,.cons h r,s=>.cons h (aq.append r s)
theorem aq.take{H:Hp}{O:Ex}:∀{vs:List V}{ds:List UI}(n:Nat),aq K H O vs ds->aq K H O (vs.take n) (ds.take n)
 | _,_,0,_=>.nil
 | _,_,_+1,.nil=>.nil
 | _,_,n+1,.cons h r=>.cons h (aq.take n r)
theorem aq.drop{H:Hp}{O:Ex}:∀{vs:List V}{ds:List UI}(n:Nat),aq K H O vs ds->aq K H O (vs.drop n) (ds.drop n)
 | _,_,0,r=>r
 | _,_,_+1,.nil=>.nil
 | _,_,n+1,.cons _ r=>aq.drop n r
theorem aq.reverse{H:Hp}{O:Ex}:∀{vs:List V}{ds:List UI},aq K H O vs ds->aq K H O vs.reverse ds.reverse
 | _,_,.nil=>.nil
 | _,_,.cons h r=>by rw [Ru,Ru];exact(aq.reverse r).append (.cons h .nil)
theorem aq.ints{H:Hp}{O:Ex}:∀(ns:List Int),aq K H O (ns.map V.int) (ns.map NX)
 | []=>.nil
 | n::r=>.cons (.int n) (aq.ints r)
inductive Sh (K:NH) (H:Hp) (O:Ex):V->UI->Prop
 | dt {v:V} {d:UI}:Dt K H O v d->Sh K H O v d
 | own {l:UL} {vs:List V} {ds:List UI}:H l=some (.lst vs)->aq K H O vs ds->Sh K H O (.ref l) (.list ds)
theorem Sh.mono{H H':Hp}{O:Ex}{v:V}{d:UI}(s:ao H H'):Sh K H O v d->Sh K H' O v d
 | .dt h=>.dt (h.mono s)
 | .own h r=>.own (s _ _ h) (r.mono s)
theorem Dt.all{H:Hp}{O:Ex}{v:V}{d:UI}(h:Dt K H O v d):Dt K H (λ_=>False) v d:=h.step ⟨λ_ _ e _=>e,λ_ _ _ z=>z⟩
theorem aq.all{H:Hp}{O:Ex}{v:List V}{d:List UI}(h:aq K H O v d):aq K H (λ_=>False) v d:=h.step ⟨λ_ _ e _=>e,λ_ _ _ z=>z⟩
theorem Sh.all{H:Hp}{O:Ex}{v:V}{d:UI}:Sh K H O v d->Dt K H (λ_=>False) v d
 | .dt h=>h.all
 | .own h r=>.lst (.inl h) (λz=>z) r.all
theorem aX.of0{H:Hp}{a:UL}{xs:List V}(h:aX K rH a xs):aX K H a xs:=by
 rcases h with(h | ⟨o,h⟩) | h
 ·cases h
 ·cases h
 ·exact .inr h
theorem bj.of0{H:Hp}{a:UL}{xs:List V}(h:bj K rH a xs):bj K H a xs:=by
 rcases h with(h | ⟨o,h⟩) | h
 ·cases h
 ·cases h
 ·exact .inr h
theorem Sh.tup{H:Hp}{O:Ex}{v:V}{ds:List UI}(h:Sh K H O v (.tuple ds)):∃a xs,v= .ref a/\aX K H a xs/\aq K H O xs ds:=by
 cases h with
 | dt h=>
  cases h with
  | tup h _ r=>exact⟨_,_,rfl,.inl h,r⟩
  | tupK h r=>exact⟨_,_,rfl,h.of0,r⟩
theorem Sh.lstR{H:Hp}{O:Ex}{v:V}{ds:List UI}(h:Sh K H O v (.list ds)):∃a xs,v= .ref a/\Rd H a (.lst xs)/\aq K H O xs ds:=by
 cases h with
 | dt h=>
  cases h with
  | lst h _ r=>exact⟨_,_,rfl,h,r⟩
 | own h r=>exact⟨_,_,rfl,.inl h,r⟩
theorem Sh.lst{H:Hp}{O:Ex}{v:V}{ds:List UI}(h:Sh K H O v (.list ds)):∃a xs,v= .ref a/\bj K H a xs/\aq K H O xs ds:=by
 obtain⟨a,xs,e,h,r⟩:=h.lstR;exact⟨a,xs,e,.inl h,r⟩
theorem Sh.scr{H:Hp}{O:Ex}{v:V}{ds:List UI}(h:Sh K H O v (ma ds)):∃a xs,v= .ref a/\bj K H a xs/\aq K H O xs ds:=by
 cases h with
 | dt h=>
  cases h with
  | scr h r=>
   rcases h with h | h
   ·exact⟨_,_,rfl,.inl h.1,r⟩
   ·exact⟨_,_,rfl,h.of0,r⟩
theorem Sh.int{H:Hp}{O:Ex}{v:V}{i:Int}(h:Sh K H O v (.int i)):v= .int i:=by cases h with | dt h=>cases h;rfl
theorem Sh.bl{H:Hp}{O:Ex}{v:V}{i:Bool}(h:Sh K H O v (.bool i)):v= .bl i:=by cases h with | dt h=>cases h;rfl
theorem Sh.str{H:Hp}{O:Ex}{v:V}{i:Str}(h:Sh K H O v (.str i)):v= .str i:=by cases h with | dt h=>cases h;rfl
theorem Sh.non{H:Hp}{O:Ex}{v:V}(h:Sh K H O v .none):v= .non:=by cases h with | dt h=>cases h;rfl
def cb:UI->Bool
 | .none | .bool _ | .int _ | .str _=>true
 | _=>false
end
section
variable {X:Cx} {Wx:List (UL×Obj)} {σ:St} {H:Hp} {s:UM}
mutual
theorem mI(I:ag X Wx σ H s){O:Ex}:∀{v:V}{d:UI}{u:UJ},Dt X.K H O v d->d.canLay0=true->aD v u->∃as,Reads s.heap u d as
 | _,_,_,.non,_,r=>by cases r;exact⟨_,Reads.none⟩
 | _,_,_,.bl b,_,r=>by cases r;exact⟨_,Reads.bool b⟩
 | _,_,_,.int i,_,r=>by obtain⟨t,rfl⟩:=r;exact⟨_,Reads.int i t⟩
 | _,_,_,.str x,_,r=>by obtain⟨t,rfl⟩:=r;exact⟨_,Reads.str x t⟩
 | _,_,_,.tup h _ hs,c,r=>by
  cases r;obtain⟨its,rv,⟨o,e,c',n,dd⟩,_⟩:=I.tuple (.inl h);obtain⟨as,q⟩:=tq I hs (by simpa [Pe] using c) rv;exact⟨as,reads_tuple_at e c' dd (by simpa using q)⟩
 | _,_,_,.tupK h hs,c,r=>by
  cases r;obtain⟨its,rv,⟨o,e,c',n,dd⟩,_⟩:=I.tuple h.of0;obtain⟨as,q⟩:=tq I hs (by simpa [Pe] using c) rv;exact⟨as,reads_tuple_at e c' dd (by simpa using q)⟩
 | _,_,_,.lst h _ hs,c,r=>by
  cases r;obtain⟨its,rv,⟨o,n,e,c',_,dd⟩,_⟩:=I.list (.inl h);obtain⟨as,q⟩:=tq I hs (by simpa [Pe] using c) rv;exact⟨_,reads_list_at e c' dd (by simpa using q)⟩
 | _,_,_,.pack _ _,c,_=>by simp [Pe] at c
 | _,_,_,.purse _ _,c,_=>by simp [Pe] at c
 | _,_,_,.dct0 _ _,c,_=>by simp [Pe] at c
 | _,_,_,.obj _ _ _ _,c,_=>by simp [Pe] at c
 | _,_,_,.dic _ _ _ _ _,c,_=>by simp [Pe] at c
 | _,_,_,.scr _ _,c,_=>by simp [Pe] at c
theorem tq(I:ag X Wx σ H s){O:Ex}:∀{vs:List V}{ds:List UI}{us:List UJ},aq X.K H O vs ds->Pz ds=true->aG vs us->∃as,ReadsAll s.heap us ds as
 | _,_,_,.nil,_,r=>by cases r;exact⟨_,ReadsAll.nil⟩
 | _,_,_,.cons h hs,c,r=>by
  rw [Pz,Oo] at c;cases r with
  | cons r1 r2=>
   obtain⟨as,q⟩:=mI I h c.1 r1;obtain⟨bs,p⟩:=tq I hs c.2 r2;exact⟨_,ReadsAll.cons q p⟩
end
end
inductive Sl where
 | v (d:UI)
 | o (ds:List UI)
 | k (kd:List (aZ×UI))
 | i (l C:UL) (fd:List (Str×UI))
 | r (l C g u:UL) (fd:List (Str×UI)) (gd ud:List (aZ×UI))
 | b (ds:List UI)
 | f (kd:List (aZ×UI))
abbrev Dl:=List (Option Sl)
inductive lK (K:NH) (H:Hp) (O:Ex):List (aZ×V)->List (aZ×UI)->Prop
 | nil:lK K H O [] []
 | cons {k:aZ} {v:V} {d:UI} {r:List (aZ×V)} {s:List (aZ×UI)}:Dt K H O v d->lK K H O r s->lK K H O ((k,v)::r) ((k,d)::s)
theorem lK.step{K:NH}{H H':Hp}{O O':Ex}(S:bA H H' O O'){r:List (aZ×V)}{s:List (aZ×UI)}(h:lK K H O r s):lK K H' O' r s:=by
 induction h with
 | nil=>exact .nil
 | cons a _ ih=>exact .cons (a.step S) ih
theorem lK.mono{K:NH}{H H':Hp}{O:Ex}(S:ao H H'){r:List (aZ×V)}{s:List (aZ×UI)}(h:lK K H O r s):lK K H' O r s:=h.step (.same S)
def vW(K:NH)(H:Hp)(O:Ex)(fs:List (Str×V))(fd:List (Str×UI)):Prop:=fs.map (·.1)=fd.map (·.1)/\aq K H O (fs.map (·.2)) (fd.map (·.2))
def Sl.own:Sl->Prop
 | .v _=>False
 | .b _=>False
 | .f _=>False
 | _=>True
abbrev Hj:Str:=NG "gone"
abbrev Hk:Str:=NG "used"
def Hl(K:NH)(H:Hp)(O0 O:Ex)(l C g u:UL)(fd:List (Str×UI))(gd ud:List (aZ×UI)):Prop:=∃dx fs og ou gv uv,H l=some (.ins C dx (fs++[(Hj,.ref g),(Hk,.ref u)]))/\vW K H O fs fd/\g≠u/\
 (O g/\¬O0 g/\H g=some (.frz og (.dK gv))/\lK K H O gv gd)/\(O u/\¬O0 u/\H u=some (.frz ou (.dK uv))/\lK K H O uv ud)
def nS(K:NH)(H:Hp)(O0 O:Ex)(x:Option V):Option Sl->Prop
 | none=>True
 | some (.v d)=>∃v,x=some v/\Dt K H O v d
 | some (.o ds)=>∃l vs,x=some (.ref l)/\O l/\¬O0 l/\H l=some (.lst vs)/\aq K H O vs ds
 | some (.k kd)=>∃l kv,x=some (.ref l)/\O l/\¬O0 l/\H l=some (.dK kv)/\lK K H O kv kd
 | some (.i l C fd)=>∃dx fs,x=some (.ref l)/\O l/\¬O0 l/\H l=some (.ins C dx fs)/\vW K H O fs fd
 | some (.r l C g u fd gd ud)=>x=some (.ref l)/\O l/\¬O0 l/\Hl K H O0 O l C g u fd gd ud
 | some (.b ds)=>∃l vs,x=some (.ref l)/\O0 l/\H l=some (.lst vs)/\aq K H O vs ds
 | some (.f kd)=>∃l o kv,x=some (.ref l)/\¬O l/\H l=some (.frz o (.dK kv))/\lK K H O kv kd
structure Wd (K:NH) (H0:Hp) (O0:Ex) (H:Hp) (O:Ex) (σ:St) (δ:Dl):Prop where
 same:ao H0 H
 sub:∀l,O0 l->O l
 new:∀l,O l->O0 l\/H0 l=none
 trk:∀l,O l->H l≠none
 len:σ.length=δ.length
 sl:∀(i:Nat) y,δ[i]?=some y->nS K H O0 O ((σ[i]?).join) y
 dis:∀(i j:Nat) y z l,δ[i]?=some (some y)->y.own->δ[j]?=some (some z)->z.own->σ[i]?=some (some (.ref l))->σ[j]?=some (some (.ref l))->i=j
section
variable {K:NH} {H0 H H':Hp} {O0 O:Ex} {σ:St} {δ:Dl}
theorem nS.mono{x:Option V}{y:Option Sl}(s:ao H H')(h:nS K H O0 O x y):nS K H' O0 O x y:=by
 cases y with
 | none=>exact PX
 | some y=>
  cases y with
  | v d=>
   obtain⟨v,e,r⟩:=h;exact⟨v,e,r.mono s⟩
  | o ds=>
   obtain⟨l,vs,e,a,b,c,r⟩:=h;exact⟨l,vs,e,a,b,s _ _ c,r.mono s⟩
  | k ds=>
   obtain⟨l,vs,e,a,b,c,r⟩:=h;exact⟨l,vs,e,a,b,s _ _ c,r.mono s⟩
  | i l C ds=>
   obtain⟨dx,vs,e,a,b,c,r1,r2⟩:=h;exact⟨dx,vs,e,a,b,s _ _ c,r1,r2.mono s⟩
  | r l C g u fd gd ud=>
   obtain⟨e,a,b,dx,fs,og,ou,gv,uv,c,⟨r1,r2⟩,ne,⟨g1,g2,g3,g4⟩,u1,u2,u3,u4⟩:=h;exact⟨e,a,b,dx,fs,og,ou,gv,uv,s _ _ c,⟨r1,r2.mono s⟩,ne,⟨g1,g2,s _ _ g3,g4.mono s⟩,u1,u2,s _ _ u3,u4.mono s⟩
  | b ds=>
   obtain⟨l,vs,e,a,c,r⟩:=h;exact⟨l,vs,e,a,s _ _ c,r.mono s⟩
  | f kd=>
   obtain⟨l,o,kv,e,a,c,r⟩:=h;exact⟨l,o,kv,e,a,s _ _ c,r.mono s⟩
theorem nS.go{O':Ex}{x:Option V}{y:Option Sl}(h:nS K H O0 O x y)(S:bA H H' O O')(kp:∀l o,y.any (λz=>match z with | .v _=>false | .b _=>false | .f _=>false | _=>true)=true->x=some (.ref l)->O l->¬O0 l->H l=some o->O' l/\H' l=some o)
 (kp2:∀a o u,O a->¬O0 a->H a=some (.frz o u)->O' a/\H' a=some (.frz o u))(kp3:∀a o,O0 a->H a=some o->H' a=some o):nS K H' O0 O' x y:=by
 cases y with
 | none=>exact PX
 | some y=>
  cases y with
  | v d=>
   obtain⟨v,e,r⟩:=h;exact⟨v,e,r.step S⟩
  | o ds=>
   obtain⟨l,vs,e,a,b,c,r⟩:=h;exact⟨l,vs,e,(kp l _ rfl e a b c).1,b,(kp l _ rfl e a b c).2,r.step S⟩
  | k ds=>
   obtain⟨l,vs,e,a,b,c,r⟩:=h;exact⟨l,vs,e,(kp l _ rfl e a b c).1,b,(kp l _ rfl e a b c).2,r.step S⟩
  | i l C ds=>
   obtain⟨dx,vs,e,a,b,c,r1,r2⟩:=h;exact⟨dx,vs,e,(kp l _ rfl e a b c).1,b,(kp l _ rfl e a b c).2,r1,r2.step S⟩
  | r l C g u fd gd ud=>
   obtain⟨e,a,b,dx,fs,og,ou,gv,uv,c,⟨r1,r2⟩,ne,⟨g1,g2,g3,g4⟩,u1,u2,u3,u4⟩:=h;exact⟨e,(kp l _ rfl e a b c).1,b,dx,fs,og,ou,gv,uv,(kp l _ rfl e a b c).2,⟨r1,r2.step S⟩,ne,⟨(kp2 _ _ _ g1 g2 g3).1,g2,(kp2 _ _ _ g1 g2 g3).2,g4.step S⟩,(kp2 _ _ _ u1 u2 u3).1,u2,(kp2 _ _ _ u1 u2 u3).2,u4.step S⟩
  | b ds=>
   obtain⟨l,vs,e,a,c,r⟩:=h;exact⟨l,vs,e,a,kp3 _ _ a c,r.step S⟩
  | f kd=>
   obtain⟨l,o,kv,e,a,c,r⟩:=h;exact⟨l,o,kv,e,S.out _ (by rw [c];exact λz=>nomatch z) a,S.keep _ _ c a,r.step S⟩
theorem Wd.mono(s:ao H H')(w:Wd K H0 O0 H O σ δ):Wd K H0 O0 H' O σ δ:=
 ⟨w.same.trans s,w.sub,w.new,λl h z=>(by
  cases e:H l with
  | none=>exact w.trk l h e
  | some o=>rw [s _ _ e] at z;cases z),w.len,λi y e=>(w.sl i y e).mono s,w.dis⟩
theorem pq{i:Nat}{v:V}(h:(σ[i]?).join=some v):σ[i]?=some (some v):=by
 cases q:σ[i]? with
 | none=>rw [q] at h;cases h
 | some o=>rw [q] at h;rw [show o=some v from h]
theorem Wd.val(w:Wd K H0 O0 H O σ δ){i:Nat}{d:UI}(e:δ[i]?=some (some (.v d))):∃v,σ[i]?=some (some v)/\Dt K H O v d:=by
 obtain⟨v,h,r⟩:=w.sl i _ e;exact⟨v,pq h,r⟩
theorem Wd.own(w:Wd K H0 O0 H O σ δ){i:Nat}{ds:List UI}(e:δ[i]?=some (some (.o ds))):∃l vs,σ[i]?=some (some (.ref l))/\O l/\¬O0 l/\H l=some (.lst vs)/\aq K H O vs ds:=by
 obtain⟨l,vs,h,r⟩:=w.sl i _ e;exact⟨l,vs,pq h,r⟩
theorem Wd.ownK(w:Wd K H0 O0 H O σ δ){i:Nat}{kd:List (aZ×UI)}(e:δ[i]?=some (some (.k kd))):∃l kv,σ[i]?=some (some (.ref l))/\O l/\¬O0 l/\H l=some (.dK kv)/\lK K H O kv kd:=by
 obtain⟨l,vs,h,r⟩:=w.sl i _ e;exact⟨l,vs,pq h,r⟩
theorem Wd.ownI(w:Wd K H0 O0 H O σ δ){i:Nat}{l C:UL}{fd:List (Str×UI)}(e:δ[i]?=some (some (.i l C fd))):∃dx fs,σ[i]?=some (some (.ref l))/\O l/\¬O0 l/\H l=some (.ins C dx fs)/\vW K H O fs fd:=by
 obtain⟨dx,vs,h,r⟩:=w.sl i _ e;exact⟨dx,vs,pq h,r⟩
theorem Wd.adr(w:Wd K H0 O0 H O σ δ){i:Nat}{y:Sl}(e:δ[i]?=some (some y))(h:y.own):∃l,σ[i]?=some (some (.ref l))/\O l/\¬O0 l:=by
 match y,h,e with
 | .o ds,_,e=>obtain⟨l,vs,a,b,c,_⟩:=w.own e;exact⟨l,a,b,c⟩
 | .k ds,_,e=>obtain⟨l,vs,a,b,c,_⟩:=w.ownK e;exact⟨l,a,b,c⟩
 | .i l C ds,_,e=>obtain⟨dx,vs,a,b,c,_⟩:=w.ownI e;exact⟨l,a,b,c⟩
 | .r l C g u fd gd ud,_,e=>obtain⟨a,b,c,_⟩:=w.sl i _ e;exact⟨l,pq a,b,c⟩
theorem Wd.nofrz(w:Wd K H0 O0 H O σ δ){i:Nat}{y:Sl}{l:UL}(e:δ[i]?=some (some y))(h:y.own)(hl:σ[i]?=some (some (.ref l)))(o:Obj)(u:HO):H l≠some (.frz o u):=by
 match y,h,e with
 | .o ds,_,e=>obtain⟨l',vs,a,b,c,d,_⟩:=w.own e;rw [hl] at a;cases a;rw [d];exact λz=>nomatch z
 | .k ds,_,e=>obtain⟨l',vs,a,b,c,d,_⟩:=w.ownK e;rw [hl] at a;cases a;rw [d];exact λz=>nomatch z
 | .i l C ds,_,e=>obtain⟨dx,vs,a,b,c,d,_⟩:=w.ownI e;rw [hl] at a;cases a;rw [d];exact λz=>nomatch z
 | .r l C g u fd gd ud,_,e=>obtain⟨a,b,c,_,_,_,_,_,_,d,_⟩:=w.sl i _ e;have a:=pq a;rw [hl] at a;cases a;rw [d];exact λz=>nomatch z
theorem Wd.set(w:Wd K H0 O0 H O σ δ){i:Nat}{v:V}{d:UI}(h:Dt K H O v d):Wd K H0 O0 H O (σ.set i (some v)) (δ.set i (some (.v d))):=by
 refine⟨w.same,w.sub,w.new,w.trk,by simp [w.len],λj y e=>?_,λj k y z l e1 y1 e2 z2 e3 e4=>?_⟩
 ·by_cases hj:j=i
  ·subst hj;have hl:j < δ.length:=by
    have:=(OW.mp e).1;simpa using this
   rw [Pf hl] at e;cases e;rw [Pf (by rw [w.len];exact hl)];exact⟨v,rfl,h⟩
  ·rw [O3 (Ne.symm hj)] at e⊢;exact w.sl j y e
 ·have ne:∀{j:Nat}{y:Sl},(δ.set i (some (.v d)))[j]?=some (some y)->y.own->j≠i:=λ{j y} e ho z=>by
   subst z;by_cases hl:j < δ.length
   ·rw [Pf hl] at e;cases e;exact ho
   ·rw [Qm (by simpa using hl)] at e;cases e
  have n1:=ne e1 y1;have n2:=ne e2 z2;rw [O3 (Ne.symm n1)] at e1 e3;rw [O3 (Ne.symm n2)] at e2 e4;exact w.dis j k y z l e1 y1 e2 z2 e3 e4
theorem Wd.setY(w:Wd K H0 O0 H O σ δ){i:Nat}{p:UL}{ho:HO}{y0:Sl}(hy:y0.own)(hp:H p=none)(h:∀O',bA H (ak H p ho) O O'->O' p->¬O0 p->nS K (ak H p ho) O0 O' (some (.ref p)) (some y0)):
 Wd K H0 O0 (ak H p ho) (λl=>O l\/l=p) (σ.set i (some (.ref p))) (δ.set i (some y0)):=by
 have sm:ao H (ak H p ho):=ao.new hp;have np:∀l,O l->l≠p:=λl hl z=>w.trk l hl (by rw [z];exact hp);have p0:H0 p=none:=by
  cases e:H0 p with
  | none=>rfl
  | some o=>rw [w.same _ _ e] at hp;cases hp
 have S:bA H (ak H p ho) O (λl=>O l\/l=p):=⟨λb o e _=>sm b o e,λb hb hn z=>z.elim hn λq=>hb (by rw [q];exact hp)⟩;have n0:¬O0 p:=λz=>np p (w.sub p z) rfl;refine⟨w.same.trans sm,λl z=>.inl (w.sub l z),λl z=>z.elim (w.new l) λq=>.inr (by rw [q];exact p0),λl z=>?_,by simp [w.len],λj y e=>?_,λj k y z l e1 y1 e2 z2 e3 e4=>?_⟩
 ·by_cases q:l=p
  ·rw [q,bh];exact λz=>nomatch z
  ·rw [av q];exact w.trk l (z.resolve_right q)
 ·by_cases hj:j=i
  ·subst hj;have hl:j < δ.length:=by
    have:=(OW.mp e).1;simpa using this
   rw [Pf hl] at e;cases e;rw [Pf (by rw [w.len];exact hl)];exact h _ S (.inr rfl) n0
  ·rw [O3 (Ne.symm hj)] at e⊢;exact(w.sl j y e).go S (λl o _ _ a _ c=>⟨.inl a,sm _ _ c⟩) (λa o u a1 _ a3=>⟨.inl a1,sm _ _ a3⟩) λa o _ a3=>sm _ _ a3
 ·by_cases hj:j=i
  ·by_cases hk:k=i
   ·rw [hj,hk]
   ·exfalso;rw [hj] at e1 e3;have hl:i < σ.length:=by
     have:=(OW.mp e3).1;simpa using this
    rw [Pf hl] at e3;cases e3;rw [O3 (Ne.symm hk)] at e2 e4;obtain⟨l',x1,x2,_⟩:=w.adr e2 z2;rw [e4] at x1;cases x1;exact np _ x2 rfl
  ·by_cases hk:k=i
   ·exfalso;rw [hk] at e2 e4;have hl:i < σ.length:=by
     have:=(OW.mp e4).1;simpa using this
    rw [Pf hl] at e4;cases e4;rw [O3 (Ne.symm hj)] at e1 e3;obtain⟨l',x1,x2,_⟩:=w.adr e1 y1;rw [e3] at x1;cases x1;exact np _ x2 rfl
   ·rw [O3 (Ne.symm hj)] at e1 e3;rw [O3 (Ne.symm hk)] at e2 e4;exact w.dis j k _ _ l e1 y1 e2 z2 e3 e4
theorem Wd.setO(w:Wd K H0 O0 H O σ δ){i:Nat}{p:UL}{vs:List V}{ds:List UI}(hp:H p=none)(h:aq K H O vs ds):
 Wd K H0 O0 (ak H p (.lst vs)) (λl=>O l\/l=p) (σ.set i (some (.ref p))) (δ.set i (some (.o ds))):=
 w.setY trivial hp λO' S a b=>⟨p,vs,rfl,a,b,bh,h.step S⟩
theorem Wd.putY(w:Wd K H0 O0 H O σ δ){i:Nat}{l:UL}{ho:HO}{y0 y1:Sl}(h0:y0.own)(h1:y1.own)(e:δ[i]?=some (some y0))(hl:σ[i]?=some (some (.ref l)))(h:bA H (ak H l ho) O O->O l->¬O0 l->nS K (ak H l ho) O0 O (some (.ref l)) (some y1)):
 Wd K H0 O0 (ak H l ho) O σ (δ.set i (some y1)):=by
 obtain⟨l',x1,x2,x3⟩:=w.adr e h0;rw [hl] at x1;cases x1;have l0:H0 l=none:=(w.new l x2).resolve_left x3;have S:bA H (ak H l ho) O O:=⟨λb o q n=>by rw [av (λz=>n (by rw [z];exact x2))];exact q,λ_ _ n=>n⟩;have li:i < δ.length:=(OW.mp e).1;refine⟨λb o q=>by rw [av (λz=>by rw [z,l0] at q;cases q)];exact w.same b o q,w.sub,w.new,λb z=>?_,by simp [w.len],λj y q=>?_,λj k y z b e1 y1' e2 z2 e3 e4=>?_⟩
 ·by_cases q:b=l
  ·rw [q,bh];exact λz=>nomatch z
  ·rw [av q];exact w.trk b z
 ·by_cases hj:j=i
  ·subst hj;rw [Pf li] at q;cases q;rw [hl];exact h S x2 x3
  ·rw [O3 (Ne.symm hj)] at q;refine(w.sl j y q).go S (λb o ho' e' a1 a2 a3=>⟨a1,?_⟩) (λb o u a1 a2 a3=>⟨a1,by rw [av (λz=>w.nofrz e h0 hl o u (by rw [<-z];exact a3))];exact a3⟩) λb o a1 a3=>by rw [av (λz=>x3 (by rw [<-z];exact a1))];exact a3
   have nb:b≠l:=λz=>by
    subst z
    match y,ho',q with
    | some z,ho',q=>exact hj (w.dis j i z y0 b q (by cases z <;> first | trivial | cases ho') e h0 (pq e') hl)
   rw [av nb];exact a3
 ·have nT:∀{j:Nat}{y:Sl},(δ.set i (some y1))[j]?=some (some y)->y.own->∃y',δ[j]?=some (some y')/\y'.own:=λ{j y} q hq=>by
   by_cases hj:j=i
   ·subst hj;exact⟨_,e,h0⟩
   ·rw [O3 (Ne.symm hj)] at q;exact⟨_,q,hq⟩
  obtain⟨_,q1,r1⟩:=nT e1 y1';obtain⟨_,q2,r2⟩:=nT e2 z2;exact w.dis j k _ _ b q1 r1 q2 r2 e3 e4
theorem Wd.putO(w:Wd K H0 O0 H O σ δ){i:Nat}{l:UL}{vs us:List V}{ds es:List UI}(e:δ[i]?=some (some (.o ds)))(hl:σ[i]?=some (some (.ref l)))(h:aq K H O us es):
 Wd K H0 O0 (ak H l (.lst us)) O σ (δ.set i (some (.o es))):=
 w.putY (y0:= .o ds) (y1:= .o es) trivial trivial e hl λS a b=>⟨l,us,rfl,a,b,bh,h.step S⟩
end
abbrev DT:=Dl->(UI->Prop)->Prop
abbrev DA:=Dl->(List UI->Prop)->Prop
abbrev DB:=Dl->(Bool->Prop)->Prop
structure qj where
 nx:Dl->Prop
 rt:UI->Prop
 bk:Dl->Prop:=λ_=>False
 ct:Dl->Prop:=λ_=>False
abbrev DS:=qj->Dl->Prop
section
variable (K:NH) (H0:Hp) (O0:Ex)
inductive up (t:DT) (σ:St) (H:Hp) (R:VK):Prop
 | mk (O:Ex) (δ:Dl) (Qd:UI->Prop):Wd K H0 O0 H O σ δ->t δ Qd->(∀d v H',Qd d->ao H H'->Dt K H' O v d->R v H')->up t σ H R
inductive pw (t:DT) (σ:St) (H:Hp) (R:VK):Prop
 | mk (O:Ex) (δ:Dl) (Qd:UI->Prop):Wd K H0 O0 H O σ δ->t δ Qd->(∀d v H',Qd d->ao H H'->Sh K H' O v d->R v H')->pw t σ H R
inductive mv (t:DA) (σ:St) (H:Hp) (R:List V->Hp->Prop):Prop
 | mk (O:Ex) (δ:Dl) (Qd:List UI->Prop):Wd K H0 O0 H O σ δ->t δ Qd->(∀ds vs H',Qd ds->ao H H'->aq K H' O vs ds->R vs H')->mv t σ H R
inductive jQ (t:DB) (σ:St) (H:Hp) (R:Bool->Hp->Prop):Prop
 | mk (O:Ex) (δ:Dl) (Qd:Bool->Prop):Wd K H0 O0 H O σ δ->t δ Qd->(∀b H',Qd b->ao H H'->R b H')->jQ t σ H R
inductive j3 (t:DS) (D:oh) (σ:St) (H:Hp):Prop
 | mk (O:Ex) (δ:Dl) (E:qj):Wd K H0 O0 H O σ δ->t E δ->(∀O' δ' σ' H',E.nx δ'->Wd K H0 O0 H' O' σ' δ'->bA H H' O O'->D.nx σ' H')->(∀d v H',E.rt d->ao H0 H'->Dt K H' O0 v d->D.rt v H')->
 (∀O' δ' σ' H',E.bk δ'->Wd K H0 O0 H' O' σ' δ'->bA H H' O O'->D.bk σ' H')->(∀O' δ' σ' H',E.ct δ'->Wd K H0 O0 H' O' σ' δ'->bA H H' O O'->D.ct σ' H')->j3 t D σ H
end
theorem PE.imp{X:Cx}{e:US}{t u:TE}(h:PE X e t)(i:∀σ H Q,u σ H Q->t σ H Q):PE X e u:=λWx s σ H Q I z=>h Wx s σ H Q I (i σ H Q z)
theorem PT.imp{X:Cx}{e:US}{t u:TT}(h:PT X e t)(i:∀σ H Q,u σ H Q->t σ H Q):PT X e u:=λWx s σ H Q I z=>h Wx s σ H Q I (i σ H Q z)
theorem PW.imp{X:Cx}{e:US}{t u:TT}(h:PW X e t)(i:∀σ H Q,u σ H Q->t σ H Q):PW X e u:=λwh Wx s σ H Q I z=>h wh Wx s σ H Q I (i σ H Q z)
theorem PA.imp{X:Cx}{e:List US}{t u:TA}(h:PA X e t)(i:∀σ H Q,u σ H Q->t σ H Q):PA X e u:=λpos Wx s σ H Q I z=>h pos Wx s σ H Q I (i σ H Q z)
theorem PS.imp{X:Cx}{e:U0}{t u:TS}(h:PS X e t)(i:∀D σ H,u D σ H->t D σ H):PS X e u:=λWx s σ H D I z=>h Wx s σ H D I (i D σ H z)
theorem bK.imp{X:Cx}{e:List U0}{t u:TS}(h:bK X e t)(i:∀D σ H,u D σ H->t D σ H):bK X e u:=λWx s σ H D I z=>h Wx s σ H D I (i D σ H z)
section
variable {X:Cx} {H0:Hp} {O0:Ex}
abbrev DE(X:Cx)(H0:Hp)(O0:Ex)(e:US)(t:DT):Prop:=PE X e (up X.K H0 O0 t)
abbrev DF(X:Cx)(H0:Hp)(O0:Ex)(e:US)(t:DT):Prop:=PE X e (pw X.K H0 O0 t)
theorem df{e:US}{t:DT}(h:DE X H0 O0 e t):DF X H0 O0 e t:=h.imp λσ H Q uu68=>by obtain⟨O,δ,Qd,w,q,k⟩:=uu68;exact⟨O,δ,Qd,w,q,λd v H' a b c=>k d v H' a b (.dt c)⟩
def BV(Q:UI->Prop):Option (Option Sl)->Prop
 | some (some (.v d))=>Q d
 | _=>False
def kJ(i:Nat):DT:=λδ Q=>BV Q δ[i]?
theorem Hm{Q:UI->Prop}{o:Option (Option Sl)}:BV Q o↔∃d,o=some (some (.v d))/\Q d:=by
 constructor
 ·intro h
  match o,h with
  | some (some (.v d)),h=>exact⟨d,rfl,h⟩
 ·rintro⟨d,rfl,h⟩;exact h
theorem Hn{i:Nat}{δ:Dl}{Q:UI->Prop}(h:kJ i δ Q):∃d,δ[i]?=some (some (.v d))/\Q d:=Hm.mp h
def cK(i:Nat):DT:=λδ Q=>∃ds,δ[i]?=some (some (.o ds))/\Q (.list ds)
def dC(d:UI):DT:=λ_ Q=>Q d
theorem dv(i:Nat){x:Str}{pos:Pos}(hN:X.N[i]?=some x:=by rfl)(hv:qV X.env.scope x:=by first | exact Sg rfl | exact RA (Sg rfl) | exact RA (RA rfl))
 (hd:(x==("__debug__":Str))=false:=by decide)(hcd:(x==("__classdict__":Str))=false:=by decide):DE X H0 O0 (.Name x pos) (kJ i):=
 (oV hN hv hd hcd).imp λσ H Q uu69=>by
  obtain⟨O,δ,Qd,w,dq,k⟩:=uu69;obtain⟨d,e,q⟩:=Hn dq;obtain⟨v,h,r⟩:=w.val e;exact⟨v,h,k d v H q (ao.refl _) r⟩
theorem dw(i:Nat){x:Str}{pos:Pos}(hN:X.N[i]?=some x:=by rfl)(hv:qV X.env.scope x:=by first | exact Sg rfl | exact RA (Sg rfl) | exact RA (RA rfl))
 (hd:(x==("__debug__":Str))=false:=by decide)(hcd:(x==("__classdict__":Str))=false:=by decide):DF X H0 O0 (.Name x pos) (cK i):=
 (oV hN hv hd hcd).imp λσ H Q uu70=>by
  obtain⟨O,δ,Qd,w,⟨ds,e,q⟩,k⟩:=uu70;obtain⟨l,vs,h,_,_,r,rs⟩:=w.own e;exact⟨_,h,k _ _ H q (ao.refl _) (.own r rs)⟩
theorem dc{e:US}{v:V}{d:UI}(h:PE X e (tC v))(r:∀H O,Dt X.K H O v d):DE X H0 O0 e (dC d):=h.imp λσ H Q uu71=>by obtain⟨O,δ,Qd,w,q,k⟩:=uu71;exact k d v H q (ao.refl _) (r H O)
theorem ae{i j pos}:DE X H0 O0 (.Constant (.int i) j pos) (dC (.int i)):=dc cm λ_ _=>.int i
theorem lU{b j pos}:DE X H0 O0 (.Constant (.bool b) j pos) (dC (.bool b)):=dc uT λ_ _=>.bl b
theorem ku{j pos}:DE X H0 O0 (.Constant .none j pos) (dC .none):=dc oW λ_ _=>.non
theorem aF{x j pos}:DE X H0 O0 (.Constant (.str x) j pos) (dC (.str x)):=dc uU λ_ _=>.str x
def cx:DA:=λ_ Q=>Q []
def cq(t:DT)(u:DA):DA:=λδ Q=>t δ λd=>u δ λds=>Q (d::ds)
theorem ah:PA X [] (mv X.K H0 O0 cx):=bF.imp λσ H Q uu72=>by obtain⟨O,δ,Qd,w,q,k⟩:=uu72;exact k [] [] H q (ao.refl _) .nil
theorem aa{e:US}{es:List US}{t:DT}{u:DA}(h:DE X H0 O0 e t)(hs:PA X es (mv X.K H0 O0 u))(he:UQ (e::es) X.env=(false,eval e X.env)::UQ es X.env:=by rfl):PA X (e::es) (mv X.K H0 O0 (cq t u)):=
 (aN h hs he).imp λσ H Q uu73=>by obtain⟨O,δ,Qd,w,q,k⟩:=uu73;exact⟨O,δ,_,w,q,λd v H1 q1 s1 r1=>⟨O,δ,_,w.mono s1,q1,λds vs H2 q2 s2 r2=>k (d::ds) (v::vs) H2 q2 (s1.trans s2) (.cons (r1.mono s2) r2)⟩⟩
def cL(t:DA):DT:=λδ Q=>t δ λds=>ds.length<=UR/\Q (.tuple ds)
def fx(t:DA):DT:=λδ Q=>t δ λds=>ds.length<=UR/\Q (.list ds)
theorem tu{H:Hp}{O:Ex}{σ:St}{δ:Dl}{H1:Hp}{p:UL}{K:NH}(w:Wd K H0 O0 H O σ δ)(s:ao H H1)(hp:H1 p=none):¬O p:=λz=>(w.mono s).trk p z hp
theorem cM{es:List US}{t:DA}{x1}{pos:Pos}(h:PA X es (mv X.K H0 O0 t)):DE X H0 O0 (.Tuple es x1 pos) (cL t):=
 (sW h).imp λσ H Q uu74=>by obtain⟨O,δ,Qd,w,q,k⟩:=uu74;exact⟨O,δ,_,w,q,λds vs H1 q1 s1 r1=>⟨by rw [r1.length];exact q1.1,λp hp=>k _ _ _ q1.2 (s1.trans (ao.new hp)) (.tup (.inl bh) (tu w s1 hp) (r1.mono (ao.new hp)))⟩⟩
end
theorem bA.refl(H:Hp)(O:Ex):bA H H O O:=⟨λ_ _ e _=>e,λ_ _ n=>n⟩
theorem bA.trans{H H1 H2:Hp}{O O1 O2:Ex}(a:bA H H1 O O1)(b:bA H1 H2 O1 O2):bA H H2 O O2:=by
 refine⟨λc o e n=>?_,λc e n=>?_⟩
 ·have h1:=a.keep c o e n;exact b.keep c o h1 (a.out c (by rw [e];exact λz=>nomatch z) n)
 ·cases q:H c with
  | none=>exact absurd q e
  | some o=>exact b.out c (by rw [a.keep c o q n];exact λz=>nomatch z) (a.out c e n)
section
variable {X:Cx} {H0:Hp} {O0:Ex}
def cN(K:NH)(r:R2)(rd:UI->UI->(UI->Prop)->Prop):Prop:=
 ∀(H:Hp)(O:Ex)(x y:V)(dx dy:UI)(Qd:UI->Prop)(R:VK),(∀l,O l->H l≠none)->Sh K H O x dx->Sh K H O y dy->rd dx dy Qd->(∀d v H',Qd d->ao H H'->Dt K H' O v d->R v H')->r x y H R
def bw(rd:UI->UI->(UI->Prop)->Prop)(ta tb:DT):DT:=λδ Q=>ta δ λx=>tb δ λy=>rd x y Q
theorem tD{K:NH}{r:R2}{rd:UI->UI->(UI->Prop)->Prop}{ta tb:DT}(hd:cN K r rd):∀σ H Q,up K H0 O0 (bw rd ta tb) σ H Q->oX r (pw K H0 O0 ta) (pw K H0 O0 tb) σ H Q:=
 λσ H Q uu75=>by obtain⟨O,δ,Qd,w,q,k⟩:=uu75;exact⟨O,δ,_,w,q,λx v H1 q1 s1 r1=>⟨O,δ,_,w.mono s1,q1,λy u H2 q2 s2 r2=>hd H2 O v u x y Qd _ (w.mono (s1.trans s2)).trk (r1.mono s2) r2 q2 λd z H3 qd s3 r3=>k d z H3 qd (s1.trans (s2.trans s3)) r3⟩⟩
theorem Ho{a b:US}{ta tb:DT}{op:Operator}{r:R2}{rd:UI->UI->(UI->Prop)->Prop}{pos:Pos}(ho:br X (Vl op) r)(hd:cN X.K r rd)(ha:DF X H0 O0 a ta)(hb:DF X H0 O0 b tb):DE X H0 O0 (.BinOp a op b pos) (bw rd ta tb):=(bN ho ha hb).imp (tD hd)
theorem j5{a b:US}{ta tb:DT}{op:CmpOp}{r:R2}{rd:UI->UI->(UI->Prop)->Prop}{pos:Pos}(ho:br X (U2 op) r)(hd:cN X.K r rd)(ha:DF X H0 O0 a ta)(hb:DF X H0 O0 b tb)(hm:Vk op b=false):DE X H0 O0 (.Compare a [op] [b] pos) (bw rd ta tb):=(oZ ho ha hb hm).imp (tD hd)
def bI(t:DT):DB:=λδ Q=>t δ λd=>∃b,d= .bool b/\Q b
theorem Hq{a b:US}{ta tb:DT}{op:CmpOp}{r:R2}{rd:UI->UI->(UI->Prop)->Prop}{pos:Pos}(ho:br X (U2 op) r)(hd:cN X.K r rd)(ha:DF X H0 O0 a ta)(hb:DF X H0 O0 b tb)(hm:Vk op b=false):PT X (.Compare a [op] [b] pos) (jQ X.K H0 O0 (bI (bw rd ta tb))):=
 (o9 ho ha hb hm).imp λσ H Q uu76=>by obtain⟨O,δ,Qd,w,q,k⟩:=uu76;exact tD hd σ H _ ⟨O,δ,_,w,q,λd v H' uu77 s r=>by obtain⟨b,e,qb⟩:=uu77;subst e;cases r;exact⟨b,rfl,k b H' qb s⟩⟩
theorem cy{e:US}{t:DT}(h:DE X H0 O0 e t)(he:∀whole,isTrue e X.env whole=(do let v<-whole;standAt e.pos;holding [v] (truthy v)):=by intro _;rfl):PT X e (jQ X.K H0 O0 (bI t)):=
 (p6 h he).imp λσ H Q uu78=>by obtain⟨O,δ,Qd,w,q,k⟩:=uu78;exact⟨O,δ,_,w,q,λd v H' uu79 s r=>by obtain⟨b,e,qb⟩:=uu79;subst e;cases r;exact⟨b,rfl,k b H' qb s⟩⟩
def cO(t u:DB):DB:=λδ Q=>t δ λc=>if c=true then u δ Q else Q false
def cP(t u:DB):DB:=λδ Q=>t δ λc=>if c=true then Q true else u δ Q
def cQ(t:DB):DB:=λδ Q=>t δ λc=>Q (!c)
theorem md{a:US}{t:DB}{pos:Pos}(h:PT X a (jQ X.K H0 O0 t)):PW X (.BoolOp .And [a] pos) (jQ X.K H0 O0 t):=A0 h
theorem lh{a:US}{t:DB}{pos:Pos}(h:PT X a (jQ X.K H0 O0 t)):PW X (.BoolOp .Or [a] pos) (jQ X.K H0 O0 t):=A1 h
theorem kQ{a b:US}{rest:List US}{t u:DB}{pos:Pos}(h:PT X a (jQ X.K H0 O0 t))(hb:PW X (.BoolOp .And (b::rest) pos) (jQ X.K H0 O0 u)):PW X (.BoolOp .And (a::b::rest) pos) (jQ X.K H0 O0 (cO t u)):=
 (A2 h hb).imp λσ H Q uu80=>by obtain⟨O,δ,Qd,w,q,k⟩:=uu80;exact⟨O,δ,_,w,q,λc H1 q1 s1=>by
  cases c with
  | true=>exact⟨O,δ,_,w.mono s1,q1,λb H2 q2 s2=>k b H2 q2 (s1.trans s2)⟩
  | false=>exact k false H1 q1 s1⟩
theorem kB{a b:US}{rest:List US}{t u:DB}{pos:Pos}(h:PT X a (jQ X.K H0 O0 t))(hb:PW X (.BoolOp .Or (b::rest) pos) (jQ X.K H0 O0 u)):PW X (.BoolOp .Or (a::b::rest) pos) (jQ X.K H0 O0 (cP t u)):=
 (uY h hb).imp λσ H Q uu81=>by obtain⟨O,δ,Qd,w,q,k⟩:=uu81;exact⟨O,δ,_,w,q,λc H1 q1 s1=>by
  cases c with
  | false=>exact⟨O,δ,_,w.mono s1,q1,λb H2 q2 s2=>k b H2 q2 (s1.trans s2)⟩
  | true=>exact k true H1 q1 s1⟩
theorem kr{a:US}{t:DB}{pos:Pos}(h:PT X a (jQ X.K H0 O0 t)):PT X (.UnaryOp .Not a pos) (jQ X.K H0 O0 (cQ t)):=
 (uZ h).imp λσ H Q uu82=>by obtain⟨O,δ,Qd,w,q,k⟩:=uu82;exact⟨O,δ,_,w,q,λc H1 q1 s1=>k (!c) H1 q1 s1⟩
def cR(t u:DT):DT:=λδ Q=>t δ λd=>∃c,d= .bool c/\if c=true then u δ Q else Q (.bool false)
def fy(t u:DT):DT:=λδ Q=>t δ λd=>∃c,d= .bool c/\if c=true then Q (.bool true) else u δ Q
def cS(t:DT):DT:=λδ Q=>t δ λd=>∃c,d= .bool c/\Q (.bool (!c))
theorem lj{op}{a:US}{t:DT}{pos:Pos}(h:DE X H0 O0 a t):DE X H0 O0 (.BoolOp op [a] pos) t:=qW h
theorem ky{a b:US}{rest:List US}{t u:DT}{pos:Pos}(h:DE X H0 O0 a t)(hb:DE X H0 O0 (.BoolOp .And (b::rest) pos) u):DE X H0 O0 (.BoolOp .And (a::b::rest) pos) (cR t u):=
 (qX h hb).imp λσ H Q ⟨O,δ,Qd,w,q,k⟩=>⟨O,δ,_,w,q,λd v H1 uu84 s1 r=>by
  obtain⟨c,e,q1⟩:=uu84;subst e;cases r;refine⟨c,rfl,?_⟩;cases c with
  | true=>exact⟨O,δ,_,w.mono s1,q1,λd v H2 q2 s2 r2=>k d v H2 q2 (s1.trans s2) r2⟩
  | false=>exact k _ _ H1 q1 s1 (.bl false)⟩
theorem Hr{a:US}{t:DT}{pos:Pos}(h:DE X H0 O0 a t):DE X H0 O0 (.UnaryOp .Not a pos) (cS t):=
 (A3 h).imp λσ H Q uu85=>by obtain⟨O,δ,Qd,w,q,k⟩:=uu85;exact⟨O,δ,_,w,q,λd v H1 uu86 s1 r=>by
  obtain⟨c,e,q1⟩:=uu86;subst e;cases r;exact⟨c,rfl,k _ _ H1 q1 s1 (.bl _)⟩⟩
def cT(c:DB)(t u:DT):DT:=λδ Q=>c δ λb=>if b=true then t δ Q else u δ Q
theorem tE{c a b:US}{tc:DB}{t u:DT}{pos:Pos}(hc:PT X c (jQ X.K H0 O0 tc))(ha:DE X H0 O0 a t)(hb:DE X H0 O0 b u):DE X H0 O0 (.IfExp c a b pos) (cT tc t u):=
 (Fy hc ha hb).imp λσ H Q uu87=>by obtain⟨O,δ,Qd,w,q,k⟩:=uu87;exact⟨O,δ,_,w,q,λc H1 q1 s1=>by
  cases c with
  | true=>exact⟨O,δ,_,w.mono s1,q1,λd v H2 q2 s2 r2=>k d v H2 q2 (s1.trans s2) r2⟩
  | false=>exact⟨O,δ,_,w.mono s1,q1,λd v H2 q2 s2 r2=>k d v H2 q2 (s1.trans s2) r2⟩⟩
def cu(rd rd':UI->UI->(UI->Prop)->Prop)(ta tb tc:DT):DT:=λδ Q=>ta δ λx=>tb δ λy=>rd x y λz=>∃k,z= .bool k/\if k=true then tc δ λu=>rd' y u Q else Q (.bool false)
theorem BW{K:NH}{r r':R2}{rd rd':UI->UI->(UI->Prop)->Prop}{ta tb tc:DT}(hd:cN K r rd)(hd':cN K r' rd'):∀σ H Q,up K H0 O0 (cu rd rd' ta tb tc) σ H Q->sS r r' (pw K H0 O0 ta) (pw K H0 O0 tb) (pw K H0 O0 tc) σ H Q:=
 λσ H Q ⟨O,δ,Qd,w,q,k⟩=>⟨O,δ,_,w,q,λx v H1 q1 s1 r1=>⟨O,δ,_,w.mono s1,q1,λy u H2 q2 s2 r2=>hd H2 O v u x y _ _ (w.mono (s1.trans s2)).trk (r1.mono s2) r2 q2 λd z H3 uu89 s3 r3=>by
  obtain⟨c,e,q3⟩:=uu89;subst e;cases r3;refine⟨c,rfl,?_⟩;cases c with
  | true=>exact⟨O,δ,_,w.mono (s1.trans (s2.trans s3)),q3,λu' p H4 q4 s4 r4=>hd' H4 O u p y u' Qd _ (w.mono (s1.trans (s2.trans (s3.trans s4)))).trk (r2.mono (s3.trans s4)) r4 q4 λd z H5 qd s5 r5=>k d z H5 qd (s1.trans (s2.trans (s3.trans (s4.trans s5)))) r5⟩
  | false=>exact k _ _ H3 q3 (s1.trans (s2.trans s3)) (.bl false)⟩⟩
theorem tF{a b c:US}{ta tb tc:DT}{op op':CmpOp}{r r':R2}{rd rd':UI->UI->(UI->Prop)->Prop}{pos:Pos}(ho:br X (U2 op) r)(ho':br X (U2 op') r')(hd:cN X.K r rd)(hd':cN X.K r' rd')(ha:DF X H0 O0 a ta)(hb:DF X H0 O0 b tb)(hc:DF X H0 O0 c tc)
 (hm:lastMarks [op,op'] [b,c]=false:=by with_unfolding_all rfl):DE X H0 O0 (.Compare a [op,op'] [b,c] pos) (cu rd rd' ta tb tc):=(FV ho ho' ha hb hc hm).imp (BW hd hd')
theorem oC{a b c:US}{ta tb tc:DT}{op op':CmpOp}{r r':R2}{rd rd':UI->UI->(UI->Prop)->Prop}{pos:Pos}(ho:br X (U2 op) r)(ho':br X (U2 op') r')(hd:cN X.K r rd)(hd':cN X.K r' rd')(ha:DF X H0 O0 a ta)(hb:DF X H0 O0 b tb)(hc:DF X H0 O0 c tc)
 (hm:lastMarks [op,op'] [b,c]=false:=by with_unfolding_all rfl):PT X (.Compare a [op,op'] [b,c] pos) (jQ X.K H0 O0 (bI (cu rd rd' ta tb tc))):=
 (FW ho ho' ha hb hc hm).imp λσ H Q uu90=>by obtain⟨O,δ,Qd,w,q,k⟩:=uu90;exact BW hd hd' σ H _ ⟨O,δ,_,w,q,λd v H' uu91 s r=>by obtain⟨b,e,qb⟩:=uu91;subst e;cases r;exact⟨b,rfl,k b H' qb s⟩⟩
inductive bf (K:NH) (F:List UI->(UI->Prop)->Prop) (vs:List V) (H:Hp) (Q:VK) (E:XK):Prop
 | mk (O:Ex) (ds:List UI) (Qd:UI->Prop):(∀l,O l->H l≠none)->aq K H O vs ds->F ds Qd->(∀d v H',Qd d->ao H H'->Dt K H' O v d->Q v H')->bf K F vs H Q E
def cw(F:List UI->(UI->Prop)->Prop)(t:DA):DT:=λδ Q=>t δ λds=>F ds Q
theorem BX{K:NH}{F:List UI->(UI->Prop)->Prop}{t:DA}{E:XK}:∀σ H Q,up K H0 O0 (cw F t) σ H Q->rB (bf K F) [] E (mv K H0 O0 t) σ H Q:=
 λσ H Q uu92=>by obtain⟨O,δ,Qd,w,q,k⟩:=uu92;exact⟨O,δ,_,w,q,λds vs H1 q1 s1 r1=>⟨O,ds,Qd,(w.mono s1).trk,by rw [NY];exact r1,q1,λd v H2 q2 s2 r2=>k d v H2 q2 (s1.trans s2) r2⟩⟩
inductive rJ (K:NH) (H:Hp) (O:Ex):List V->List UI->Prop
 | nil:rJ K H O [] []
 | cons {v:V} {d:UI} {vs:List V} {ds:List UI}:Sh K H O v d->rJ K H O vs ds->rJ K H O (v::vs) (d::ds)
inductive me (K:NH) (H0:Hp) (O0:Ex) (t:DA) (σ:St) (H:Hp) (R:List V->Hp->Prop):Prop
 | mk (O:Ex) (δ:Dl) (Qd:List UI->Prop):Wd K H0 O0 H O σ δ->t δ Qd->(∀ds vs H',Qd ds->ao H H'->rJ K H' O vs ds->R vs H')->me K H0 O0 t σ H R
theorem az:PA X [] (me X.K H0 O0 cx):=bF.imp λσ H Q uu93=>by obtain⟨O,δ,Qd,w,q,k⟩:=uu93;exact k [] [] H q (ao.refl _) .nil
theorem Hs{e:US}{es:List US}{t:DT}{u:DA}(h:DF X H0 O0 e t)(hs:PA X es (me X.K H0 O0 u))(he:UQ (e::es) X.env=(false,eval e X.env)::UQ es X.env:=by rfl):PA X (e::es) (me X.K H0 O0 (cq t u)):=
 (aN h hs he).imp λσ H Q uu94=>by obtain⟨O,δ,Qd,w,q,k⟩:=uu94;exact⟨O,δ,_,w,q,λd v H1 q1 s1 r1=>⟨O,δ,_,w.mono s1,q1,λds vs H2 q2 s2 r2=>k (d::ds) (v::vs) H2 q2 (s1.trans s2) (.cons (r1.mono s2) r2)⟩⟩
def fz(F:List UI->(UI->Prop)->Prop)(t:DA):DT:=λδ Q=>t δ λds=>F ds λd=>cb d=true/\Q d
def mJ(K:NH)(r:List V->Hp->VK->Prop)(rd:List UI->(UI->Prop)->Prop):Prop:=
 ∀(H:Hp)(O:Ex)(xs:List V)(ds:List UI)(Qd:UI->Prop)(R:VK),(∀l,O l->H l≠none)->rJ K H O xs ds->rd ds Qd->(∀d v H',Qd d->ao H H'->Dt K H' O v d->R v H')->r xs H R
theorem aE{K:NH}{r:List V->Hp->VK->Prop}{rd:List UI->(UI->Prop)->Prop}{t:DA}(hd:mJ K r rd):∀σ H Q,up K H0 O0 (cw rd t) σ H Q->rC r (me K H0 O0 t) σ H Q:=
 λσ H Q uu95=>by obtain⟨O,δ,Qd,w,q,k⟩:=uu95;exact⟨O,δ,_,w,q,λds vs H1 q1 s1 r1=>hd H1 O vs ds Qd _ (w.mono s1).trk r1 q1 λd v H2 q2 s2 r2=>k d v H2 q2 (s1.trans s2) r2⟩
def cf(t u:DS):DS:=λE δ=>t {E with nx:=u E} δ
theorem ai{st:U0}{rest:List U0}{t u:DS}(h:PS X st (j3 X.K H0 O0 t))(h2:bK X rest (j3 X.K H0 O0 u)):bK X (st::rest) (j3 X.K H0 O0 (cf t u)):=
 (kF h h2).imp λD σ H uu96=>by obtain⟨O,δ,E,w,q,k1,k2,k3,k4⟩:=uu96;exact⟨O,δ,_,w,q,λO' δ' σ' H' z w' S=>⟨O',δ',E,w',z,λO2 δ2 σ2 H2 z2 w2 S2=>k1 O2 δ2 σ2 H2 z2 w2 (S.trans S2),k2,λO2 δ2 σ2 H2 z2 w2 S2=>k3 O2 δ2 σ2 H2 z2 w2 (S.trans S2),λO2 δ2 σ2 H2 z2 w2 S2=>k4 O2 δ2 σ2 H2 z2 w2 (S.trans S2)⟩,k2,k3,k4⟩
def cz:DS:=λE δ=>E.nx δ
theorem aK:bK X [] (j3 X.K H0 O0 cz):=om.imp λD σ H uu0=>by obtain⟨O,δ,E,w,q,k1,k2,k3,k4⟩:=uu0;exact k1 O δ σ H q w (bA.refl _ _)
theorem ar{st:U0}{t:DS}(h:PS X st (j3 X.K H0 O0 t)):bK X [st] (j3 X.K H0 O0 t):=kh h
def cU(i:Nat)(t:DT):DS:=λE δ=>t δ λd=>E.nx (δ.set i (some (.v d)))
theorem aJ{i:Nat}{x:Str}{e:US}{t:DT}{pos pos':Pos}(hN:X.N.Nodup)(hi:X.N[i]?=some x)(hx:oT X.env.scope x)(he:DE X H0 O0 e t)(hs:Vi e (some (.Name x pos')) pos.line X.env=pure false:=by rfl)(hf:X.fn x=true\/X.env.scope.names.lookup x=some .local:=by first | exact .inl rfl | exact .inr rfl | assumption):
 PS X (.Assign [.Name x pos'] e pos) (j3 X.K H0 O0 (cU i t)):=
 (l7 hN hi hx he hs hf).imp λD σ H uu1=>by obtain⟨O,δ,E,w,q,k1,k2,k3,k4⟩:=uu1;exact⟨O,δ,_,w,q,λd v H1 q1 s1 r1=>k1 O _ _ H1 q1 ((w.mono s1).set r1) (.same s1)⟩
def cV(t:DT):DS:=λE δ=>t δ E.rt
theorem nT{K:NH}{H:Hp}{O:Ex}{σ:St}{δ:Dl}(w:Wd K H0 O0 H O σ δ):bA H H O O0:=⟨λ_ _ e _=>e,λb _ n z=>n (w.sub b z)⟩
theorem aA{e:US}{t:DT}{pos:Pos}(he:DE X H0 O0 e t):PS X (.Return (some e) pos) (j3 X.K H0 O0 (cV t)):=
 (kG he).imp λD σ H uu2=>by obtain⟨O,δ,E,w,q,k1,k2,k3,k4⟩:=uu2;exact⟨O,δ,_,w,q,λd v H1 q1 s1 r1=>k2 d v H1 q1 (w.same.trans s1) (r1.step (nT (w.mono s1)))⟩
def fA(i:Nat):DS:=λE δ=>∃ds,δ[i]?=some (some (.o ds))/\E.rt (.list ds)
def cg(c:DB)(t u:DS):DS:=λE δ=>c δ λb=>if b=true then t E δ else u E δ
theorem aL{c:US}{a b:List U0}{tc:DB}{t u:DS}{pos:Pos}(hc:PT X c (jQ X.K H0 O0 tc))(ha:bK X a (j3 X.K H0 O0 t))(hb:bK X b (j3 X.K H0 O0 u)):PS X (.If c a b pos) (j3 X.K H0 O0 (cg tc t u)):=
 (oo hc ha hb).imp λD σ H uu3=>by obtain⟨O,δ,E,w,q,k1,k2,k3,k4⟩:=uu3;exact⟨O,δ,_,w,q,λc H1 q1 s1=>by
  have g:∀{t':DS},t' E δ->j3 X.K H0 O0 t' D σ H1:=λz=>⟨O,δ,E,w.mono s1,z,λO2 δ2 σ2 H2 z2 w2 S2=>k1 O2 δ2 σ2 H2 z2 w2 (bA.trans (.same s1) S2),k2,λO2 δ2 σ2 H2 z2 w2 S2=>k3 O2 δ2 σ2 H2 z2 w2 (bA.trans (.same s1) S2),λO2 δ2 σ2 H2 z2 w2 S2=>k4 O2 δ2 σ2 H2 z2 w2 (bA.trans (.same s1) S2)⟩;cases c with
  | true=>exact g q1
  | false=>exact g q1⟩
def fB(t:DT):DS:=λE δ=>t δ λ_=>E.nx δ
inductive BY (K:NH) (H0:Hp) (O0:Ex) (t:DA) (σ:St) (H:Hp) (R:VK):Prop
 | mk (O:Ex) (δ:Dl) (Qd:List UI->Prop):Wd K H0 O0 H O σ δ->t δ Qd->(∀ds vs p H',Qd ds->ao H H'->H' p=none->aq K H' O vs ds->R (.ref p) (ak H' p (.lst vs)))->BY K H0 O0 t σ H R
abbrev FE(X:Cx)(H0:Hp)(O0:Ex)(e:US)(t:DA):Prop:=PE X e (BY X.K H0 O0 t)
def dL(t:DA):DT:=λδ Q=>t δ λds=>Q (.list ds)
theorem fe{e:US}{t:DA}(h:FE X H0 O0 e t):DE X H0 O0 e (dL t):=
 h.imp λσ H Q uu4=>by obtain⟨O,δ,Qd,w,q,k⟩:=uu4;exact⟨O,δ,_,w,q,λds vs p H1 q1 s1 hp r1=>k _ _ _ q1 (s1.trans (ao.new hp)) (.lst (.inl bh) (tu w s1 hp) (r1.mono (ao.new hp)))⟩
def cC(t:DA):DA:=λδ Q=>t δ λds=>ds.length<=UR/\Q ds
theorem bB{es:List US}{t:DA}{pos:Pos}(h:PA X es (mv X.K H0 O0 t)):FE X H0 O0 (.List es pos) (cC t):=
 (vG h).imp λσ H Q uu5=>by obtain⟨O,δ,Qd,w,q,k⟩:=uu5;exact⟨O,δ,_,w,q,λds vs H1 q1 s1 r1=>⟨by rw [r1.length];exact q1.1,λp hp=>k _ _ _ _ q1.2 s1 hp r1⟩⟩
def cW(i:Nat)(t:DA):DS:=λE δ=>t δ λds=>E.nx (δ.set i (some (.o ds)))
theorem rK{i:Nat}{x:Str}{e:US}{t:DA}{pos pos':Pos}(hN:X.N.Nodup)(hi:X.N[i]?=some x)(hx:oT X.env.scope x)(he:FE X H0 O0 e t)(hs:Vi e (some (.Name x pos')) pos.line X.env=pure false:=by rfl)(hf:X.fn x=true\/X.env.scope.names.lookup x=some .local:=by first | exact .inl rfl | exact .inr rfl | assumption):
 PS X (.Assign [.Name x pos'] e pos) (j3 X.K H0 O0 (cW i t)):=
 (l7 hN hi hx he hs hf).imp λD σ H ⟨O,δ,E,w,q,k1,k2,k3,k4⟩=>⟨O,δ,_,w,q,λds vs p H1 q1 s1 hp r1=>k1 _ _ _ _ q1 ((w.mono s1).setO hp r1)
  ⟨λb o e _=>(s1.trans (ao.new hp)) b o e,λb e n z=>z.elim n λy=>by
   cases q:H b with
   | none=>exact e q
   | some o=>have:=s1 _ _ q;rw [y,hp] at this;cases this⟩⟩
def cX(i:Nat)(t:DT):DS:=λE δ=>∃ds,δ[i]?=some (some (.o ds))/\t δ λd=>ds.length < UR/\E.nx (δ.set i (some (.o (ds++[d]))))
theorem Ht{i:Nat}{o e:US}{t:DT}{apos cpos pos:Pos}(ho:PE X o (nJ i))(he:DE X H0 O0 e t)(hbase:Vw o "append" X.env (eval o X.env)=eval o X.env:=by rfl)
 (hfew:((U7 cpos (UQ [e] X.env)).all (λx=>!x.1) && (Wg cpos (VU [] X.env)).all (λx=>x.1.isSome) && decide ([e].length+([]:List VI).length+(if ([]:List VI).isEmpty then 0 else 1) < 30))=true:=by rfl)
 (hline:(apos.endLine==cpos.line)=true:=by rfl)(hst:UQ [e] X.env=(false,eval e X.env)::UQ [] X.env:=by rfl)(hplain:(U7 cpos (UQ [] X.env)).any (·.1)=false:=by rfl)
 (hs:Vi (.Call (.Attribute o "append" apos) [e] [] cpos) none pos.line X.env=pure false:=by rfl):PS X (.Expr (.Call (.Attribute o "append" apos) [e] [] cpos) pos) (j3 X.K H0 O0 (cX i t)):=
 (FA (rF PySem.F.plainAttrs_list PySem.F.slot_list_append PySem.F.type_list_append Bw ho (aN he bF hst) hbase hfew hline hst hplain) hs).imp λD σ H uu7=>by
  obtain⟨O,δ,E,w,⟨ds,e,q⟩,k1,k2,k3,k4⟩:=uu7;obtain⟨l,vs,h,a,b,c,r⟩:=w.own e;refine⟨_,h,.inl ⟨rfl,_,bj.of c⟩,O,δ,_,w,q,λd v H1 q1 s1 r1=>?_⟩;refine⟨l,vs,v,rfl,rfl,s1 _ _ c,by rw [r.length];exact q1.1,?_⟩;exact k1 _ _ _ _ q1.2 ((w.mono s1).putO (vs:=vs) e h ((r.mono s1).append (.cons r1 .nil))) ⟨λb' o' z n=>by rw [av (λy=>n (by rw [y];exact a))];exact s1 _ _ z,λ_ _ n=>n⟩
end
structure k6 (J:It) (P:Hp->Prop) (vs:List V):Prop where
 go:∀i H',P H'->i < vs.length->J.go i H'
 yl:∀i H' x H'',P H'->i < vs.length->J.yld i H' x H''->H''=H'/\vs[i]?=some x
 st:∀i H',P H'->vs.length<=i->J.stop i H'
def tG(H1:Hp)(a:UL)(H':Hp):Prop:=∀o,H1 a=some o->H' a=some o
theorem bj.keep{K:NH}{H H':Hp}{a:UL}{xs:List V}(s:tG H a H')(h:bj K H a xs):bj K H' a xs:=by
 rcases h with(h | ⟨o,h⟩) | h
 ·exact .inl (.inl (s _ h))
 ·exact .inl (.inr ⟨o,s _ h⟩)
 ·exact .inr h
theorem aX.keep{K:NH}{H H':Hp}{a:UL}{xs:List V}(s:tG H a H')(h:aX K H a xs):aX K H' a xs:=by
 rcases h with(h | ⟨o,h⟩) | h
 ·exact .inl (.inl (s _ h))
 ·exact .inl (.inr ⟨o,s _ h⟩)
 ·exact .inr h
theorem k6.list{K:NH}{H:Hp}{a:UL}{vs:List V}(h:bj K H a vs):k6 (rh K a) (tG H a) vs:=
 ⟨λi H' s hi=>⟨vs,vs[i],h.keep s,by simp [hi]⟩,λi H' x H'' s _ y=>⟨y.1,y.2 vs (h.keep s)⟩,λi H' s hi=>⟨vs,h.keep s,hi⟩⟩
theorem k6.tup{K:NH}{H:Hp}{a:UL}{vs:List V}(h:aX K H a vs):k6 (rj K a) (tG H a) vs:=
 ⟨λi H' s hi=>⟨vs,vs[i],h.keep s,by simp [hi]⟩,λi H' x H'' s _ y=>⟨y.1,y.2 vs (h.keep s)⟩,λi H' s hi=>⟨vs,h.keep s,hi⟩⟩
def kR(lo:Int)(n:Nat):List UI:=(PH n).map λ(k:Nat)=>.int (lo+k)
theorem k6.rng{lo:Int}{n:Nat}:k6 (mR lo n) (λ_=>True) ((PH n).map λ(k:Nat)=>V.int (lo+k)):=by
 refine⟨λi H' s hi=>(by simpa using hi:i < n),λi H' x H'' s hi y=>⟨y.1,?_⟩,λi H' s hi=>(by simpa using hi:n<=i)⟩;obtain⟨_,rfl⟩:=y;have hn:i < n:=by simpa using hi
 simp [hn]
theorem aq.rng{K:NH}{H:Hp}{O:Ex}{lo:Int}:∀(l:List Nat),aq K H O (l.map λ(k:Nat)=>V.int (lo+k)) (l.map λ(k:Nat)=>NX (lo+k))
 | []=>.nil
 | n::r=>.cons (.int _) (aq.rng r)
abbrev DG:=UI->Dl->(Dl->Prop)->Prop
def GD(K:NH)(g:TG)(dg:DG):Prop:=∀(H0:Hp)(O0:Ex)(H:Hp)(O:Ex)(σ:St)(δ:Dl)(v:V)(x:UI)(R:St->Hp->Prop)(Qd:Dl->Prop),Wd K H0 O0 H O σ δ->Dt K H O v x->dg x δ Qd->(∀δ' σ',Qd δ'->Wd K H0 O0 H O σ' δ'->R σ' H)->g v σ H R
def cY(i:Nat):DG:=λx δ Q=>Q (δ.set i (some (.v x)))
theorem j6{K:NH}{i:Nat}:GD K (nK i) (cY i):=λH0 O0 H O σ δ v x R Qd w r q k=>k _ _ q (w.set r)
abbrev nU:=List UI->Dl->(Dl->Prop)->Prop
def rL(K:NH)(g:l6)(dg:nU):Prop:=∀(H0:Hp)(O0:Ex)(H:Hp)(O:Ex)(σ:St)(δ:Dl)(vs:List V)(xs:List UI)(R:St->Hp->Prop)(Qd:Dl->Prop),Wd K H0 O0 H O σ δ->aq K H O vs xs->dg xs δ Qd->(∀δ' σ',Qd δ'->Wd K H0 O0 H O σ' δ'->R σ' H)->g vs σ H R
def cZ:nU:=λxs δ Q=>xs=[]/\Q δ
def c7(t:DG)(u:nU):nU:=λxs δ Q=>∃x r,xs=x::r/\t x δ λδ'=>u r δ' Q
theorem vX{K:NH}:rL K qZ cZ:=λH0 O0 H O σ δ vs xs R Qd w r uu8 k=>by obtain⟨e,q⟩:=uu8;subst e;cases r;exact⟨rfl,k _ _ q w⟩
theorem pz{K:NH}{t:TG}{u:l6}{dt:DG}{du:nU}(h:GD K t dt)(h2:rL K u du):rL K (p7 t u) (c7 dt du):=λH0 O0 H O σ δ vs xs R Qd w r uu9 k=>by
 obtain⟨x,rr,e,q⟩:=uu9;subst e;cases r with
 | cons r1 r2=>exact⟨_,_,rfl,h H0 O0 H O σ δ _ _ _ _ w r1 q λδ' σ' q' w'=>h2 H0 O0 H O σ' δ' _ _ R Qd w' r2 q' k⟩
def dh(n:Nat)(t:nU):DG:=λx δ Q=>∃xs,x= .tuple xs/\xs.length=n/\t xs δ Q
theorem BZ{K:NH}{n:Nat}{t:l6}{dt:nU}(h:rL K t dt):GD K (rg K n t) (dh n dt):=λH0 O0 H O σ δ v x R Qd w r uu10 k=>by
 obtain⟨xs,e,hl,q⟩:=uu10;subst e;obtain⟨a,vs,rfl,hs,rr⟩:=(Sh.dt r).tup;exact⟨a,vs,rfl,hs,by rw [rr.length];exact hl,h H0 O0 H O σ δ _ _ R Qd w rr q k⟩
section
variable {X:Cx} {H0:Hp} {O0:Ex}
def di(t:DT)(g:DG):DS:=λE δ=>t δ λd=>g d δ E.nx
theorem B0{tg e:US}{t:DT}{g:TG}{dg:DG}{pos:Pos}(he:DE X H0 O0 e t)(hg:PG X tg g)(gd:GD X.K g dg)(hs:Wq [tg] e pos.line X.env=pure false:=by rfl)(hw:Wr [tg] e X.env=pure none:=by rfl)
 (h1:(Vz [tg] X.env).map (·.2)=[assign tg X.env]:=by rfl):PS X (.Assign [tg] e pos) (j3 X.K H0 O0 (di t dg)):=
 (A5 he hg hs hw h1).imp λD σ H uu11=>by obtain⟨O,δ,E,w,q,k1,k2,k3,k4⟩:=uu11;exact⟨O,δ,_,w,q,λd v H1 q1 s1 r1=>gd H0 O0 H1 O σ δ v d _ _ (w.mono s1) r1 q1 λδ' σ' q' w'=>k1 O δ' σ' H1 q' w' (.same s1)⟩
def dj(i j:Nat)(t:DA):DS:=λE δ=>t δ λds=>∃x y,ds=[x,y]/\E.nx ((δ.set i (some (.v x))).set j (some (.v y)))
theorem Hu{i j:Nat}{x y:Str}{a b:US}{ta:DA}{px py pt pos:Pos}{kt k2 pt2}(hc:X.calm=true)(hN:X.N.Nodup)(hi:X.N[i]?=some x)(hj:X.N[j]?=some y)(hij:i≠j)
 (hx:X.env.scope.names.lookup x=some .local)(hy:X.env.scope.names.lookup y=some .local)(ha:PA X [a,b] (mv X.K H0 O0 ta))
 (hw:Wr [.Tuple [.Name x px,.Name y py] kt pt] (.Tuple [a,b] k2 pt2) X.env=pure (some [x,y]))
 (hs:Wq [.Tuple [.Name x px,.Name y py] kt pt] (.Tuple [a,b] k2 pt2) pos.line X.env=pure false:=by rfl):
 PS X (.Assign [.Tuple [.Name x px,.Name y py] kt pt] (.Tuple [a,b] k2 pt2) pos) (j3 X.K H0 O0 (dj i j ta)):=
 (FD hc hN hi hj hij hx hy ha hw hs).imp λD σ H uu12=>by obtain⟨O,δ,E,w,q,k1,k2,k3,k4⟩:=uu12;exact⟨O,δ,_,w,q,λds vs H1 uu13 s1 r1=>by
  obtain⟨d1,d2,e,q1⟩:=uu13;subst e;cases r1 with
  | cons r1 r2=>
   cases r2 with
   | cons r2 r3=>
    cases r3;exact⟨_,_,rfl,k1 _ _ _ _ q1 (((w.mono s1).set r1).set r2) (.same s1)⟩⟩
def bR(g:DG)(tb:DS)(E:qj):List UI->Dl->Prop
 | [],δ=>E.nx δ
 | x::xs,δ=>g x δ λδ2=>tb {E with nx:=bR g tb E xs,ct:=bR g tb E xs,bk:=E.nx} δ2
def pA(g:DG)(tb:DS)(E:qj)(xs:List UI)(δ:Dl):Prop:=∃I:Nat->Dl->Prop,I 0 δ/\(∀i x δ,xs[i]?=some x->I i δ->g x δ λδ2=>tb {E with nx:=I (i+1),ct:=I (i+1),bk:=E.nx} δ2)/\∀δ,I xs.length δ->E.nx δ
theorem B1{K:NH}{J:It}{P:Hp->Prop}{vs:List V}{xs:List UI}{g:TG}{dg:DG}{tb:DS}{D:oh}{E:qj}{σ:St}{H:Hp}{O:Ex}{δ:Dl}(S:k6 J P vs)(gd:GD K g dg)
 (hP:∀H' O',bA H H' O O'->P H')(r:aq K H O vs xs)(w:Wd K H0 O0 H O σ δ)(q:pA dg tb E xs δ)
 (k1:∀O' δ' σ' H',E.nx δ'->Wd K H0 O0 H' O' σ' δ'->bA H H' O O'->D.nx σ' H')(k2:∀d v H',E.rt d->ao H0 H'->Dt K H' O0 v d->D.rt v H'):FR J g (j3 K H0 O0 tb) D σ H:=by
 obtain⟨Iv,q0,qs,qe⟩:=q;refine⟨λi m σ' H'=>∃O' δ',m=vs.length - i/\i<=vs.length/\Wd K H0 O0 H' O' σ' δ'/\bA H H' O O'/\Iv i δ',⟨vs.length,O,δ,UH,PU _,w,bA.refl _ _,q0⟩,?_⟩;rintro i m σ1 H1 ⟨O1,δ1,rfl,hi,w1,S1,q1⟩;by_cases hlt:i < vs.length
 ·refine .inr ⟨S.go i H1 (hP _ _ S1) hlt,λσ' H'=>∃O' δ',Wd K H0 O0 H' O' σ' δ'/\bA H H' O O'/\Iv (i+1) δ',λσ' H' uu14=>by obtain⟨O',δ',w',S',q'⟩:=uu14;exact⟨vs.length - (i+1),UC,O',δ',rfl,hlt,w',S',q'⟩,λx H' y=>?_⟩;have yy:=S.yl i H1 x H' (hP _ _ S1) hlt y;clear y;obtain⟨e,y⟩:=yy;subst e;obtain⟨d,ed,rd⟩:=r.get y;refine gd H0 O0 _ O1 σ1 δ1 x d _ _ w1 (rd.step S1) (qs i d δ1 ed q1) λδ2 σ2 q2 w2=>?_;refine⟨O1,δ2,_,w2,q2,λO' δ' σ' H' z w' S'=>⟨O',δ',w',S1.trans S',z⟩,k2,λO' δ' σ' H' z w' S'=>k1 O' δ' σ' H' z w' (S1.trans S'),λO' δ' σ' H' z w' S'=>⟨O',δ',w',S1.trans S',z⟩⟩
 ·have e:i=vs.length:=UC
  subst e;refine .inl ⟨S.st _ H1 (hP _ _ S1) (NV _),?_⟩;rw [r.length] at q1;exact k1 O1 δ1 σ1 H1 (qe δ1 q1) w1 S1
def fC(t:DT)(g:DG)(tb:DS):DS:=λE δ=>t δ λd=>∃xs,d= .list xs/\bR g tb E xs δ
def fD(t:DT)(g:DG)(tb:DS):DS:=λE δ=>t δ λd=>∃xs,d= .tuple xs/\bR g tb E xs δ
def fE(t:DA)(g:DG)(tb:DS):DS:=λE δ=>t δ λds=>∃j:Int,ds=[.int j]/\-(2 ^ 62)<=j/\j < 2 ^ 62/\bR g tb E (kR 0 j.toNat) δ
def fF(t:DA)(g:DG)(tb:DS):DS:=λE δ=>t δ λds=>∃i j:Int,ds=[.int i,.int j]/\(-(2 ^ 62)<=i/\i < 2 ^ 62/\-(2 ^ 62)<=j/\j < 2 ^ 62)/\bR g tb E (kR i (j - i).toNat) δ
def dm(t:DT)(g:DG)(tb:DS):DS:=λE δ=>t δ λd=>∃xs,d= .list xs/\pA g tb E xs δ
def fG(t:DT)(g:DG)(tb:DS):DS:=λE δ=>t δ λd=>∃xs,d= .tuple xs/\pA g tb E xs δ
def dn(t:DA)(g:DG)(tb:DS):DS:=λE δ=>t δ λds=>∃j:Int,ds=[.int j]/\-(2 ^ 62)<=j/\j < 2 ^ 62/\pA g tb E (kR 0 j.toNat) δ
def fH(t:DA)(g:DG)(tb:DS):DS:=λE δ=>t δ λds=>∃i j:Int,ds=[.int i,.int j]/\(-(2 ^ 62)<=i/\i < 2 ^ 62/\-(2 ^ 62)<=j/\j < 2 ^ 62)/\pA g tb E (kR i (j - i).toNat) δ
section
variable {tg iter:US} {body:List U0} {t:DT} {ta:DA} {g:TG} {dg:DG} {tb:DS} {pos p ps:Pos}
theorem Hv(hp:PassesOwn (UP X.prog X.w) X.A X.env X.xe)(hc:X.calm=true)(hi:DE X H0 O0 iter t)(hg:PG X tg g)(gd:GD X.K g dg)(hb:bK X body (j3 X.K H0 O0 tb))(hs:∀x,Va iter X.env x=pure x:=by intro _;rfl):
 PS X (.For tg iter body [] pos) (j3 X.K H0 O0 (dm t dg tb)):=
 (Bc hp hc (A8 hi) hg hb hs).imp λD σ H uu15=>by obtain⟨O,δ,E,w,q,k1,k2,k3,k4⟩:=uu15;exact⟨O,δ,_,w,q,λd v H1 uu16 s1 r1=>by
  obtain⟨xs,e,q1⟩:=uu16;subst e;cases r1 with
  | lst h n r=>
   refine⟨_,rfl,⟨_,.inl h⟩,B1 (k6.list (.inl h)) gd (λH' O' S o e=>S.keep _ _ e n) r (w.mono s1) q1 (λO' δ' σ' H' z w' S=>k1 O' δ' σ' H' z w' (bA.trans (.same s1) S)) k2⟩⟩
theorem vY(hp:PassesOwn (UP X.prog X.w) X.A X.env X.xe)(hc:X.calm=true){a:US}(hgl:Gl X "range")(hm:X.mg "range"=none)(ha:PA X [a] (mv X.K H0 O0 ta))(hg:PG X tg g)(gd:GD X.K g dg)(hb:bK X body (j3 X.K H0 O0 tb))
 (hst:UQ [a] X.env=[(false,eval a X.env)]:=by rfl)(hs:∀x,Va (.Call (.Name "range" p) [a] [] ps) X.env x=pure x:=by intro _;rfl):
 PS X (.For tg (.Call (.Name "range" p) [a] [] ps) body [] pos) (j3 X.K H0 O0 (dn ta dg tb)):=
 (Bc hp hc (Ba hgl hm ha hst) hg hb hs).imp λD σ H uu17=>by obtain⟨O,δ,E,w,q,k1,k2,k3,k4⟩:=uu17;exact⟨O,δ,_,w,q,λds vs H1 uu18 s1 r1=>by
  obtain⟨j,e,b1,b2,q1⟩:=uu18;subst e;cases r1 with
  | cons r1 r2=>
   cases r2;cases r1;exact⟨j,rfl,b1,b2,B1 k6.rng gd (λ_ _ _=>trivial) (aq.rng _) (w.mono s1) q1 (λO' δ' σ' H' z w' S=>k1 O' δ' σ' H' z w' (bA.trans (.same s1) S)) k2⟩⟩
end
def fJ(i:Nat)(t:DS):DS:=λE δ=>∃ds,δ[i]?=some (some (.o ds))/\t E (δ.set i (some (.v (.list ds))))
def bg(k:Nat)(fr:List Nat)(δ:Dl):Dl:=NP k none++fr.map λj=>(δ[j]?).join
def pB(g:DG)(tc:DB)(te:DT)(δ0:Dl):List UI->List UI->(List UI->Prop)->Prop
 | [],acc,Q=>Q acc
 | x::xs,acc,Q=>g x δ0 λδ2=>tc δ2 λok=>if ok=true then te δ2 λy=>pB g tc te δ0 xs (acc++[y]) Q else pB g tc te δ0 xs acc Q
theorem Wd.comp{K:NH}{H:Hp}{O:Ex}{σ:St}{δ:Dl}(w:Wd K H0 O0 H O σ δ){k:Nat}{fr:List Nat}(hf:fr.Nodup):Wd K H0 O0 H O (bC k fr σ) (bg k fr δ):=by
 have at1:∀{α:Type}(l:List (Option α))(i:Nat),(NP k none++fr.map λj=>(l[j]?).join)[i]?=if i < k then some none else(fr[i - k]?).map λj=>(l[j]?).join:=by
  intro α l i;by_cases h:i < k
  ·rw [UE h,Qn (by simpa using h),QO,UE h]
  ·rw [UD h,QB (by simpa using Sf h),PY];simp
 have un:∀{α:Type}(l:List (Option α))(i:Nat)(x:α),(NP k none++fr.map λj=>(l[j]?).join)[i]?=some (some x)->∃j,fr[i - k]?=some j/\k<=i/\l[j]?=some (some x):=by
  intro α l i x h;rw [at1] at h;split at h
  ·cases h
  ·cases e:fr[i - k]? with
   | none=>rw [e] at h;cases h
   | some j=>
    rw [e] at h;refine⟨j,rfl,UC,?_⟩;have h':(l[j]?).join=some x:=Ph h;cases q:l[j]? with
    | none=>rw [q] at h';cases h'
    | some o=>rw [q] at h';rw [show o=some x from h']
 refine⟨w.same,w.sub,w.new,w.trk,by simp [bC,bg],λi y e=>?_,λi j y z l e1 y1 e2 z2 e3 e4=>?_⟩
 ·match y,e with
  | none,_=>exact PX
  | some x,e=>
   obtain⟨j,hj,hk,ej⟩:=un δ i x e;have q:=w.sl j _ ej;have e2:((bC k fr σ)[i]?).join=(σ[j]?).join:=by
    unfold bC;rw [at1,UD UC,hj];rfl
   rw [e2];exact q
 ·obtain⟨a,ha,ka,ea⟩:=un δ i _ e1;obtain⟨b,hb,kb,eb⟩:=un δ j _ e2;obtain⟨a',ha',_,ea'⟩:=un σ i _ e3;obtain⟨b',hb',_,eb'⟩:=un σ j _ e4;rw [ha] at ha';cases ha';rw [hb] at hb';cases hb';have:=w.dis a b y z l ea y1 eb z2 ea' eb';subst this;have e5:=(Ts (l:=fr) (i:=i - k) (j:=j - k) (OW.mp ha).1 hf).mp (by rw [ha,hb]);omega
theorem NF{K:NH}{J:It}{P:Hp->Prop}{vs:List V}{xs:List UI}{g:TG}{dg:DG}{tc:TT}{dc:DB}{te:TE}{de:DT}{k:Nat}{fr:List Nat}{σ:St}{H:Hp}{O:Ex}{δ:Dl}{Qd:List UI->Prop}{Q:VK}(S:k6 J P vs)(gd:GD K g dg)(hf:fr.Nodup)
 (hk:∀v:V,∀σ':St,∀H':Hp,∀R:St->Hp->Prop,g v (bC k fr σ) H' R->g v (bC k fr σ) H' λσ2 H2=>oy (bC k fr σ) σ2/\R σ2 H2)
 (hc:∀σ H Q,jQ K H0 O0 dc σ H Q->tc σ H Q)(he:∀σ H Q,up K H0 O0 de σ H Q->te σ H Q)
 (hP:∀D H',H D=none->mU D H H'->P H')(r:aq K H O vs xs)(w:Wd K H0 O0 H O σ δ)(hz:vs.length<=UR)(q:pB dg dc de (bg k fr δ) xs [] Qd)
 (k1:∀ds us p H',Qd ds->ao H H'->H' p=none->aq K H' O us ds->Q (.ref p) (ak H' p (.lst us))):oz J g tc te k fr σ H Q:=by
 intro D hD;have w0:Wd K H0 O0 H O (bC k fr σ) (bg k fr δ):=w.comp hf;have nD:¬O D:=λz=>w.trk D z hD;have D0:H0 D=none:=by
  cases e:H0 D with
  | none=>rfl
  | some o=>rw [w.same _ _ e] at hD;cases hD
 have ex:∀H',mU D H H'->H' D≠none->Wd K H0 O0 H' (λa=>O a\/a=D) (bC k fr σ) (bg k fr δ):=λH' s' hd=>by
  have S':bA H H' O (λa=>O a\/a=D):=⟨λb o e _=>s' b o e (ko e hD),λb hb hn z=>z.elim hn λq=>hb (by rw [q];exact hD)⟩;refine⟨λb o e=>s' b o (w.same b o e) (λz=>by rw [z,D0] at e;cases e),λl z=>.inl (w.sub l z),λl z=>z.elim (w.new l) λq=>.inr (by rw [q];exact D0),λl z=>?_,w0.len,λj y e=>?_,w0.dis⟩
  ·by_cases ql:l=D
   ·rw [ql];exact hd
   ·have hl:=w.trk l (z.resolve_right ql);cases e:H l with
    | none=>exact absurd e hl
    | some o=>rw [s' l o e ql];exact λz=>nomatch z
  ·exact(w0.sl j y e).go S' (λl o _ _ a1 _ a3=>⟨.inl a1,s' _ _ a3 (λz=>nD (by rw [<-z];exact a1))⟩) (λa o u a1 _ a3=>⟨.inl a1,s' _ _ a3 (λz=>nD (by rw [<-z];exact a1))⟩) λa o a1 a3=>s' _ _ a3 (λz=>nD (by rw [<-z];exact w.sub _ a1))
 refine⟨λi m H'=>∃acc ys,m=vs.length - i/\i<=vs.length/\mU D H H'/\H' D=some (.lst ys)/\ys.length<=i/\aq K H' (λa=>O a\/a=D) ys acc/\pB dg dc de (bg k fr δ) (xs.drop i) acc Qd,⟨vs.length,[],[],UH,PU _,λb o e n=>by rw [av n];exact e,bh,PU _,.nil,by simpa using q⟩,?_⟩;rintro i m H1 ⟨acc,ys,rfl,hi,s1,e1,hy,ra,q1⟩;by_cases hlt:i < vs.length
 ·refine .inr ⟨S.go i H1 (hP D H1 hD s1) hlt,λx H' y=>?_⟩;have yy:=S.yl i H1 x H' (hP D H1 hD s1) hlt y;clear y;obtain⟨e,y⟩:=yy;subst e;obtain⟨d,ed,rd⟩:=r.get y;have hd:xs.drop i=d::xs.drop (i+1):=by
   rw [Sa (h:=(OW.mp ed).1),(OW.mp ed).2]
  rw [hd] at q1;have w1:=ex _ s1 (by rw [e1];exact λz=>nomatch z);have S':bA H H' O (λa=>O a\/a=D):=⟨λb o e _=>s1 b o e (ko e hD),λb hb hn z=>z.elim hn λq=>hb (by rw [q];exact hD)⟩;refine hk x σ _ _ (gd H0 O0 _ _ _ _ x d _ _ w1 (rd.step S') q1 λδ2 σ2 q2 w2=>?_);refine hc σ2 _ _ ⟨_,δ2,_,w2,q2,λok H3 q3 s3=>?_⟩;cases ok with
  | true=>
   rw [UE rfl];refine he σ2 H3 _ ⟨_,δ2,_,w2.mono s3,q3,λd' v H4 q4 s4 r4=>?_⟩;have e4:=s4 _ _ (s3 _ _ e1);have sD:bA H4 (ak H4 D (.lst (ys++[v]))) (λa=>O a\/a=D) (λa=>O a\/a=D):=⟨λb o e n=>by rw [av (λz=>n (.inr z))];exact e,λ_ _ n=>n⟩;refine⟨ys,e4,UC,vs.length - (i+1),UC,acc++[d'],ys++[v],rfl,hlt,λb o e n=>by rw [av n];exact s4 _ _ (s3 _ _ (s1 b o e n)),bh,by simpa using hy,?_,q4⟩;exact((ra.mono (s3.trans s4)).append (.cons r4 .nil)).step sD
  | false=>
   rw [UD Ce];exact⟨vs.length - (i+1),UC,acc,ys,rfl,hlt,λb o e n=>s3 _ _ (s1 b o e n),s3 _ _ e1,UC,ra.mono s3,q3⟩
 ·have e:i=vs.length:=UC
  subst e;refine .inl ⟨S.st _ H1 (hP D H1 hD s1) (NV _),?_⟩;rw [r.length,RB (NV _)] at q1;have hrest:∃H2:Hp,H2 D=none/\ao H H2/\H1=ak H2 D (.lst ys):=by
   refine⟨λb=>if b=D then none else H1 b,UH,λb o e=>?_,?_⟩
   ·have n:=ko e hD;show(if b=D then none else H1 b)=some o;rw [UD n];exact s1 b o e n
   ·funext b;by_cases z:b=D
    ·rw [z,bh];exact e1
    ·rw [av z];show H1 b=if b=D then none else H1 b;rw [UD z]
  obtain⟨H2,h2,s2,rfl⟩:=hrest;refine k1 acc ys D H2 q1 s2 h2 (ra.step ⟨λb o e n=>?_,λb _ n z=>n (.inl z)⟩);rw [av (λz=>n (.inr z))] at e;exact e
def mw(g:DG)(tc:DB)(te:DT)(δ0:Dl)(xs:List UI)(Q:List UI->Prop):Prop:=∃I:Nat->List UI->Prop,I 0 []/\(∀i x acc,xs[i]?=some x->I i acc->g x δ0 λδ2=>tc δ2 λok=>if ok=true then te δ2 λy=>I (i+1) (acc++[y]) else I (i+1) acc)/\∀acc,I xs.length acc->Q acc
theorem rM{K:NH}{J:It}{P:Hp->Prop}{vs:List V}{xs:List UI}{g:TG}{dg:DG}{tc:TT}{dc:DB}{te:TE}{de:DT}{k:Nat}{fr:List Nat}{σ:St}{H:Hp}{O:Ex}{δ:Dl}{Qd:List UI->Prop}{Q:VK}(S:k6 J P vs)(gd:GD K g dg)(hf:fr.Nodup)
 (hk:∀v:V,∀σ':St,∀H':Hp,∀R:St->Hp->Prop,g v (bC k fr σ) H' R->g v (bC k fr σ) H' λσ2 H2=>oy (bC k fr σ) σ2/\R σ2 H2)
 (hc:∀σ H Q,jQ K H0 O0 dc σ H Q->tc σ H Q)(he:∀σ H Q,up K H0 O0 de σ H Q->te σ H Q)
 (hP:∀D H',H D=none->mU D H H'->P H')(r:aq K H O vs xs)(w:Wd K H0 O0 H O σ δ)(hz:vs.length<=UR)(q:mw dg dc de (bg k fr δ) xs Qd)
 (k1:∀ds us p H',Qd ds->ao H H'->H' p=none->aq K H' O us ds->Q (.ref p) (ak H' p (.lst us))):oz J g tc te k fr σ H Q:=by
 obtain⟨Iv,q0,qs,qe⟩:=q;intro D hD;have w0:Wd K H0 O0 H O (bC k fr σ) (bg k fr δ):=w.comp hf;have nD:¬O D:=λz=>w.trk D z hD;have D0:H0 D=none:=by
  cases e:H0 D with
  | none=>rfl
  | some o=>rw [w.same _ _ e] at hD;cases hD
 have ex:∀H',mU D H H'->H' D≠none->Wd K H0 O0 H' (λa=>O a\/a=D) (bC k fr σ) (bg k fr δ):=λH' s' hd=>by
  have S':bA H H' O (λa=>O a\/a=D):=⟨λb o e _=>s' b o e (ko e hD),λb hb hn z=>z.elim hn λq=>hb (by rw [q];exact hD)⟩;refine⟨λb o e=>s' b o (w.same b o e) (λz=>by rw [z,D0] at e;cases e),λl z=>.inl (w.sub l z),λl z=>z.elim (w.new l) λq=>.inr (by rw [q];exact D0),λl z=>?_,w0.len,λj y e=>?_,w0.dis⟩
  ·by_cases ql:l=D
   ·rw [ql];exact hd
   ·have hl:=w.trk l (z.resolve_right ql);cases e:H l with
    | none=>exact absurd e hl
    | some o=>rw [s' l o e ql];exact λz=>nomatch z
  ·exact(w0.sl j y e).go S' (λl o _ _ a1 _ a3=>⟨.inl a1,s' _ _ a3 (λz=>nD (by rw [<-z];exact a1))⟩) (λa o u a1 _ a3=>⟨.inl a1,s' _ _ a3 (λz=>nD (by rw [<-z];exact a1))⟩) λa o a1 a3=>s' _ _ a3 (λz=>nD (by rw [<-z];exact w.sub _ a1))
 refine⟨λi m H'=>∃acc ys,m=vs.length - i/\i<=vs.length/\mU D H H'/\H' D=some (.lst ys)/\ys.length<=i/\aq K H' (λa=>O a\/a=D) ys acc/\Iv i acc,⟨vs.length,[],[],UH,PU _,λb o e n=>by rw [av n];exact e,bh,PU _,.nil,q0⟩,?_⟩;rintro i m H1 ⟨acc,ys,rfl,hi,s1,e1,hy,ra,q1⟩;by_cases hlt:i < vs.length
 ·refine .inr ⟨S.go i H1 (hP D H1 hD s1) hlt,λx H' y=>?_⟩;have yy:=S.yl i H1 x H' (hP D H1 hD s1) hlt y;clear y;obtain⟨e,y⟩:=yy;subst e;obtain⟨d,ed,rd⟩:=r.get y;have w1:=ex _ s1 (by rw [e1];exact λz=>nomatch z);have S':bA H H' O (λa=>O a\/a=D):=⟨λb o e _=>s1 b o e (ko e hD),λb hb hn z=>z.elim hn λq=>hb (by rw [q];exact hD)⟩;refine hk x σ _ _ (gd H0 O0 _ _ _ _ x d _ _ w1 (rd.step S') (qs i d acc ed q1) λδ2 σ2 q2 w2=>?_);refine hc σ2 _ _ ⟨_,δ2,_,w2,q2,λok H3 q3 s3=>?_⟩;cases ok with
  | true=>
   rw [UE rfl];refine he σ2 H3 _ ⟨_,δ2,_,w2.mono s3,q3,λd' v H4 q4 s4 r4=>?_⟩;have e4:=s4 _ _ (s3 _ _ e1);have sD:bA H4 (ak H4 D (.lst (ys++[v]))) (λa=>O a\/a=D) (λa=>O a\/a=D):=⟨λb o e n=>by rw [av (λz=>n (.inr z))];exact e,λ_ _ n=>n⟩;refine⟨ys,e4,UC,vs.length - (i+1),UC,acc++[d'],ys++[v],rfl,hlt,λb o e n=>by rw [av n];exact s4 _ _ (s3 _ _ (s1 b o e n)),bh,by simpa using hy,?_,q4⟩;exact((ra.mono (s3.trans s4)).append (.cons r4 .nil)).step sD
  | false=>
   rw [UD Ce];exact⟨vs.length - (i+1),UC,acc,ys,rfl,hlt,λb o e n=>s3 _ _ (s1 b o e n),s3 _ _ e1,UC,ra.mono s3,q3⟩
 ·have e:i=vs.length:=UC
  subst e;refine .inl ⟨S.st _ H1 (hP D H1 hD s1) (NV _),?_⟩;rw [r.length] at q1;have hrest:∃H2:Hp,H2 D=none/\ao H H2/\H1=ak H2 D (.lst ys):=by
   refine⟨λb=>if b=D then none else H1 b,UH,λb o e=>?_,?_⟩
   ·have n:=ko e hD;show(if b=D then none else H1 b)=some o;rw [UD n];exact s1 b o e n
   ·funext b;by_cases z:b=D
    ·rw [z,bh];exact e1
    ·rw [av z];show H1 b=if b=D then none else H1 b;rw [UD z]
  obtain⟨H2,h2,s2,rfl⟩:=hrest;refine k1 acc ys D H2 (qe acc q1) s2 h2 (ra.step ⟨λb o e n=>?_,λb _ n z=>n (.inl z)⟩);rw [av (λz=>n (.inr z))] at e;exact e
def fK(t:DT)(g:DG)(tc:DB)(te:DT)(k:Nat)(fr:List Nat):DA:=λδ Q=>t δ λd=>∃xs,d= .list xs/\xs.length<=UR/\pB g tc te (bg k fr δ) xs [] Q
def fL(t:DT)(g:DG)(tc:DB)(te:DT)(k:Nat)(fr:List Nat):DA:=λδ Q=>t δ λd=>∃xs,d= .tuple xs/\xs.length<=UR/\pB g tc te (bg k fr δ) xs [] Q
def fM(ta:DA)(g:DG)(tc:DB)(te:DT)(k:Nat)(fr:List Nat):DA:=λδ Q=>ta δ λds=>∃j:Int,ds=[.int j]/\-(2 ^ 62)<=j/\j < UR/\pB g tc te (bg k fr δ) (kR 0 j.toNat) [] Q
def bS:DB:=λ_ Q=>Q true
def oE(g:TG)(k:Nat):Prop:=∀(fr:List Nat)(σ:St)(v:V)(H':Hp)(R:St->Hp->Prop),g v (bC k fr σ) H' R->g v (bC k fr σ) H' λσ2 H2=>oy (bC k fr σ) σ2/\R σ2 H2
theorem lL:oE (nK 0) 1:=λfr σ v H' R h=>⟨BM,h⟩
def cD(t:DT)(g:DG)(tc:DB)(te:DT)(k:Nat)(fr:List Nat):DA:=λδ Q=>t δ λd=>∃xs,d= .list xs/\xs.length<=UR/\mw g tc te (bg k fr δ) xs Q
def cE(t:DT)(g:DG)(tc:DB)(te:DT)(k:Nat)(fr:List Nat):DA:=λδ Q=>t δ λd=>∃xs,d= .tuple xs/\xs.length<=UR/\mw g tc te (bg k fr δ) xs Q
def dz(ta:DA)(g:DG)(tc:DB)(te:DT)(k:Nat)(fr:List Nat):DA:=λδ Q=>ta δ λds=>∃j:Int,ds=[.int j]/\-(2 ^ 62)<=j/\j < UR/\mw g tc te (bg k fr δ) (kR 0 j.toNat) Q
section
variable {tg iter elt:US} {ifs:List US} {scope:Vg} {N':List Str} {k:Nat} {fr:List Nat} {g:TG} {dg:DG} {t:DT} {ta:DA} {tc:DB} {te:DT} {pos p ps:Pos}
theorem rN(hc:X.calm=true)(S:fw X.env.scope X.N N' k fr scope)(hi:DF X H0 O0 iter t)(gd:GD X.K g dg)(hk:oE g k)(hfr:fr.Nodup)
 (hg:∀fp C s H,PG (jP X scope N' fp C s H) tg g)(hf:∀fp C s H,mq (jP X scope N' fp C s H) ifs (jQ X.K H0 O0 tc))(he:∀fp C s H,PE (jP X scope N' fp C s H) elt (up X.K H0 O0 te))
 (hs:∀x,Va iter X.env x=pure x:=by intro _;rfl):FE X H0 O0 (.ListComp elt [⟨tg,iter,ifs,0⟩] scope pos) (cD t dg tc te k fr):=
 (pj hc S (A8 hi) hg hf he hs).imp λσ H Q uu19=>by obtain⟨O,δ,Qd,w,q,kk⟩:=uu19;exact⟨O,δ,_,w,q,λd v H1 uu20 s1 r1=>by
  obtain⟨xs,e,hz,q1⟩:=uu20;subst e;obtain⟨a,vs,rfl,hq,rr⟩:=r1.lst;refine⟨a,rfl,⟨_,hq⟩,λD hD=>rM (k6.list hq) gd hfr (λv _ H' R h=>hk fr σ v H' R h) (λ_ _ _ z=>z) (λ_ _ _ z=>z) (λD H' hD s' o e=>s' _ _ e (ko e hD)) rr (w.mono s1) (by rw [rr.length];exact hz) q1 (λds us p H' z s' hp r'=>kk ds us p H' z (s1.trans s') hp r') D hD⟩⟩
theorem Hw(hc:X.calm=true)(S:fw X.env.scope X.N N' k fr scope)(hi:DF X H0 O0 iter t)(gd:GD X.K g dg)(hk:oE g k)(hfr:fr.Nodup)
 (hg:∀fp C s H,PG (jP X scope N' fp C s H) tg g)(hf:∀fp C s H,mq (jP X scope N' fp C s H) ifs (jQ X.K H0 O0 tc))(he:∀fp C s H,PE (jP X scope N' fp C s H) elt (up X.K H0 O0 te))
 (hs:∀x,Va iter X.env x=pure x:=by intro _;rfl):FE X H0 O0 (.ListComp elt [⟨tg,iter,ifs,0⟩] scope pos) (cE t dg tc te k fr):=
 (pj hc S (FJ hi) hg hf he hs).imp λσ H Q uu21=>by obtain⟨O,δ,Qd,w,q,kk⟩:=uu21;exact⟨O,δ,_,w,q,λd v H1 uu22 s1 r1=>by
  obtain⟨xs,e,hz,q1⟩:=uu22;subst e;obtain⟨a,vs,rfl,hq,rr⟩:=r1.tup;refine⟨a,rfl,⟨_,hq⟩,λD hD=>rM (k6.tup hq) gd hfr (λv _ H' R h=>hk fr σ v H' R h) (λ_ _ _ z=>z) (λ_ _ _ z=>z) (λD H' hD s' o e=>s' _ _ e (ko e hD)) rr (w.mono s1) (by rw [rr.length];exact hz) q1 (λds us p H' z s' hp r'=>kk ds us p H' z (s1.trans s') hp r') D hD⟩⟩
theorem B2(hc:X.calm=true){a:US}(S:fw X.env.scope X.N N' k fr scope)(hgl:Gl X "range")(hm:X.mg "range"=none)(ha:PA X [a] (me X.K H0 O0 ta))(gd:GD X.K g dg)(hk:oE g k)(hfr:fr.Nodup)
 (hg:∀fp C s H,PG (jP X scope N' fp C s H) tg g)(hf:∀fp C s H,mq (jP X scope N' fp C s H) ifs (jQ X.K H0 O0 tc))(he:∀fp C s H,PE (jP X scope N' fp C s H) elt (up X.K H0 O0 te))
 (hst:UQ [a] X.env=[(false,eval a X.env)]:=by rfl)(hs:∀x,Va (.Call (.Name "range" p) [a] [] ps) X.env x=pure x:=by intro _;rfl):
 FE X H0 O0 (.ListComp elt [⟨tg,(.Call (.Name "range" p) [a] [] ps),ifs,0⟩] scope pos) (dz ta dg tc te k fr):=
 (pj hc S (Ba hgl hm ha hst) hg hf he hs).imp λσ H Q uu23=>by obtain⟨O,δ,Qd,w,q,kk⟩:=uu23;exact⟨O,δ,_,w,q,λds vs H1 uu24 s1 r1=>by
  obtain⟨j,e,b1,b2,q1⟩:=uu24;subst e;cases r1 with
  | cons r1 r2=>
   cases r2;cases r1.int;have hb:(UR:Int) < 2 ^ 62:=Ce
   exact⟨j,rfl,b1,UC,λD hD=>rM (P:=λ_=>True) k6.rng gd hfr (λv _ H' R h=>hk fr σ v H' R h) (λ_ _ _ z=>z) (λ_ _ _ z=>z) (λ_ _ _ _=>trivial) (aq.rng _) (w.mono s1) (by rw [NS,QY];omega) q1 (λds us p H' z s' hp r'=>kk ds us p H' z (s1.trans s') hp r') D hD⟩⟩
end
end
section
variable {K:NH}
def dI(g:Int->Int->UI):UI->UI->(UI->Prop)->Prop:=λx y Q=>∃i j,x= .int i/\y= .int j/\Q (g i j)
def dA(C:Int->Int->Prop)(g:Int->Int->UI):UI->UI->(UI->Prop)->Prop:=λx y Q=>∃i j,x= .int i/\y= .int j/\C i j/\Q (g i j)
theorem bP{g:Int->Int->Int}:cN K (mn λi j=>.int (g i j)) (dI λi j=>.int (g i j)):=λH O x y dx dy Qd R _ hx hy uu25 k=>by
 obtain⟨i,j,e1,e2,q⟩:=uu25;subst e1 e2;cases hx.int;cases hy.int;exact⟨i,j,rfl,rfl,k _ _ H q (ao.refl _) (.int _)⟩
theorem bT{g:Int->Int->Bool}:cN K (mn λi j=>.bl (g i j)) (dI λi j=>.bool (g i j)):=λH O x y dx dy Qd R _ hx hy uu26 k=>by
 obtain⟨i,j,e1,e2,q⟩:=uu26;subst e1 e2;cases hx.int;cases hy.int;exact⟨i,j,rfl,rfl,k _ _ H q (ao.refl _) (.bl _)⟩
theorem mx{C:Int->Int->Prop}{g:Int->Int->Int}:cN K (rI C λi j=>.int (g i j)) (dA C λi j=>.int (g i j)):=λH O x y dx dy Qd R _ hx hy uu27 k=>by
 obtain⟨i,j,e1,e2,c,q⟩:=uu27;subst e1 e2;cases hx.int;cases hy.int;exact⟨i,j,rfl,rfl,c,k _ _ H q (ao.refl _) (.int _)⟩
def B3(K:NH):R2:=λx y H Q=>∃O dx dy,Sh K H O x dx/\Sh K H O y dy/\bu dx/\bu dy/\Q (.bl (NT dx dy)) H
def B4(K:NH):R2:=λx y H Q=>∃O dx dy,Sh K H O x dx/\Sh K H O y dy/\bu dx/\bu dy/\Q (.bl (!NT dx dy)) H
theorem j7{X:Cx}(hu:X.A.units+64 < cLine):br X (U2 .Eq) (B3 X.K):=by
 intro Wx s σ H x y v u Q I rx ry h;obtain⟨O,dx,dy,hx,hy,sx,sy,q⟩:=h;obtain⟨as,ra⟩:=mI I hx.all (Pp sx) rx;obtain⟨bs,rb⟩:=mI I hy.all (Pp sy) ry;exact SeqAt.compareEq_shaped ra rb sx sy hu (bD I q rfl)
theorem mV{X:Cx}(hu:X.A.units+64 < cLine):br X (U2 .NotEq) (B4 X.K):=by
 intro Wx s σ H x y v u Q I rx ry h;obtain⟨O,dx,dy,hx,hy,sx,sy,q⟩:=h;obtain⟨as,ra⟩:=mI I hx.all (Pp sx) rx;obtain⟨bs,rb⟩:=mI I hy.all (Pp sy) ry;exact SeqAt.compareNe_shaped ra rb sx sy hu (bD I q rfl)
def dB:UI->UI->(UI->Prop)->Prop:=λx y Q=>bu x/\bu y/\Q (.bool (NT x y))
def dD:UI->UI->(UI->Prop)->Prop:=λx y Q=>bu x/\bu y/\Q (.bool (!NT x y))
theorem j8:cN K (B3 K) dB:=λH O x y dx dy Qd R _ hx hy uu28 k=>by obtain⟨a,b,q⟩:=uu28;exact⟨O,dx,dy,hx,hy,a,b,k _ _ H q (ao.refl _) (.bl _)⟩
theorem mW:cN K (B4 K) dD:=λH O x y dx dy Qd R _ hx hy uu29 k=>by obtain⟨a,b,q⟩:=uu29;exact⟨O,dx,dy,hx,hy,a,b,k _ _ H q (ao.refl _) (.bl _)⟩
def dE:UI->UI->(UI->Prop)->Prop:=λx y Q=>∃ds i d,x= .list ds/\y= .int i/\atI ds i=some d/\Q d
def bX:UI->UI->(UI->Prop)->Prop:=λx y Q=>∃ds i d,x= .tuple ds/\y= .int i/\atI ds i=some d/\Q d
theorem aq.atI{H:Hp}{O:Ex}{vs:List V}{ds:List UI}{i:Int}{d:UI}(r:aq K H O vs ds)(e:L2.atI ds i=some d):∃v,L2.atI vs i=some v/\Dt K H O v d:=by
 unfold L2.atI at e⊢;rw [r.length];cases q:nQ ds.length i with
 | none=>rw [q] at e;cases e
 | some j=>rw [q] at e;exact r.getD e
theorem aR:cN K (vK K) dE:=λH O x y dx dy Qd R _ hx hy uu30 k=>by
 obtain⟨ds,i,d,e1,e2,e3,q⟩:=uu30;subst e1 e2;obtain⟨a,vs,rfl,hs,r⟩:=hx.lst;cases hy.int;obtain⟨v,hv,rv⟩:=r.atI e3;exact⟨a,vs,i,v,rfl,rfl,hs,hv,k d v H q (ao.refl _) rv⟩
theorem aS:cN K (vL K) bX:=λH O x y dx dy Qd R _ hx hy uu31 k=>by
 obtain⟨ds,i,d,e1,e2,e3,q⟩:=uu31;subst e1 e2;obtain⟨a,vs,rfl,hs,r⟩:=hx.tup;cases hy.int;obtain⟨v,hv,rv⟩:=r.atI e3;exact⟨a,vs,i,v,rfl,rfl,hs,hv,k d v H q (ao.refl _) rv⟩
end
section
variable {X:Cx} {H0:Hp} {O0:Ex}
def Hx:R2:=λx y H Q=>∃l b xs zs,x= .ref l/\y= .ref b/\Rd H l (.lst xs)/\Rd H b (.lst zs)/\xs.length+zs.length<=UR/\∀p,H p=none->Q (.ref p) (ak H p (.lst (xs++zs)))
theorem Hy:br X (Vl .Add) Hx:=by
 intro Wx s σ H x y v u Q I rx ry h;obtain⟨l,b,xs,zs,rfl,rfl,hH,hB,hz,q⟩:=h;cases rx;cases ry;obtain⟨z,its,n,r,e⟩:=hH.ok I.hok;obtain⟨z2,its2,n2,r2,e2⟩:=hB.ok I.hok;have l1:=r.length;have l2:=r2.length;refine PySem.P.add_list e e2 ?_ (by rw [Ot,Ot];omega);have ea:its.toArray++its2.toArray=(its++its2).toArray:=UH
 rw [ea];exact⟨.ref _,_,I.lnew (t':=s.toks) (r.append r2) (by rw [Pq];omega),rfl,q _ I.fresh⟩
def dF(ta tb:DT):DA:=λδ Q=>ta δ λx=>tb δ λy=>∃xs ys,x= .list xs/\y= .list ys/\xs.length+ys.length<=UR/\Q (xs++ys)
theorem kK{a b:US}{ta tb:DT}{pos:Pos}(ha:DF X H0 O0 a ta)(hb:DF X H0 O0 b tb):FE X H0 O0 (.BinOp a .Add b pos) (dF ta tb):=
 (bN Hy ha hb).imp λσ H Q uu32=>by obtain⟨O,δ,Qd,w,q,k⟩:=uu32;exact⟨O,δ,_,w,q,λx v H1 q1 s1 r1=>⟨O,δ,_,w.mono s1,q1,λy u H2 uu33 s2 r2=>by
  obtain⟨xs,ys,e1,e2,hz,q2⟩:=uu33;subst e1 e2;obtain⟨a,vs,rfl,h1,d1⟩:=(r1.mono s2).lstR;obtain⟨b,us,rfl,h2,d2⟩:=r2.lstR;exact⟨a,b,vs,us,rfl,rfl,h1,h2,by rw [d1.length,d2.length];exact hz,λp hp=>k _ _ _ _ q2 (s1.trans s2) hp (d1.append d2)⟩⟩⟩
def dG:UI->UI->(UI->Prop)->Prop:=λx y Q=>∃xs ys,x= .tuple xs/\y= .tuple ys/\xs≠[]/\xs.length+ys.length<=UR/\Q (.tuple (xs++ys))
theorem Hz{K:NH}:cN K (vI K) dG:=λH O x y dx dy Qd R tr hx hy uu34 k=>by
 obtain⟨xs,ys,e1,e2,hn,hz,q⟩:=uu34;subst e1 e2;have hx0:=hx;obtain⟨a,vs,rfl,h1,d1⟩:=hx.tup;obtain⟨b,us,rfl,h2,d2⟩:=hy.tup;refine⟨a,b,vs,us,rfl,rfl,h1,h2,λz=>?_,by rw [d1.length,d2.length];exact hz,λz=>?_,λ_ p hp=>?_⟩
 ·subst z;cases d1;exact hn rfl
 ·subst z;cases d2;rw [NY] at q;cases hx0 with
  | dt hx0=>exact k _ _ H q (ao.refl _) hx0
 ·exact k _ _ _ q (ao.new hp) (.tup (.inl bh) (λz=>tr p z hp) ((d1.append d2).mono (ao.new hp)))
def bx(xs:List UI)(lo hi:Option Int):List UI:=(xs.drop (HT.sIx xs.length 0 lo)).take (HT.sIx xs.length xs.length hi - HT.sIx xs.length 0 lo)
theorem aq.cut{K:NH}{H:Hp}{O:Ex}{vs:List V}{ds:List UI}(r:aq K H O vs ds)(lo hi:Option Int):aq K H O (nP vs lo hi) (bx ds lo hi):=by
 unfold nP bx;rw [r.length];exact(r.drop _).take _
abbrev DO:=Dl->(Option Int->Prop)->Prop
inductive nV (K:NH) (H0:Hp) (O0:Ex) (t:DO) (σ:St) (H:Hp) (R:Option Int->Hp->Prop):Prop
 | mk (O:Ex) (δ:Dl) (Qd:Option Int->Prop):Wd K H0 O0 H O σ δ->t δ Qd->(∀d H',Qd d->ao H H'->R d H')->nV K H0 O0 t σ H R
def dH:DO:=λ_ Q=>Q none
def dJ(t:DT):DO:=λδ Q=>t δ λd=>∃i,d= .int i/\Q (some i)
theorem PO.imp{X:Cx}{e:Option US}{t u:TO}(h:PO X e t)(i:∀σ H Q,u σ H Q->t σ H Q):PO X e u:=λWx s σ H Q I z=>h Wx s σ H Q I (i σ H Q z)
theorem jR:PO X none (nV X.K H0 O0 dH):=Gg.imp λσ H Q uu35=>by obtain⟨O,δ,Qd,w,q,k⟩:=uu35;exact k none H q (ao.refl _)
theorem dM{e:US}{t:DT}(h:DE X H0 O0 e t):PO X (some e) (nV X.K H0 O0 (dJ t)):=(Gh h).imp λσ H Q uu36=>by obtain⟨O,δ,Qd,w,q,k⟩:=uu36;exact⟨O,δ,_,w,q,λd v H1 uu37 s1 r1=>by obtain⟨i,e,q1⟩:=uu37;subst e;cases r1;exact⟨i,rfl,k _ H1 q1 s1⟩⟩
def dN(t:DT)(tl th:DO):DA:=λδ Q=>t δ λd=>tl δ λl=>th δ λu=>∃xs,d= .list xs/\Q (bx xs l u)
def fN(t:DT)(tl th:DO):DT:=λδ Q=>t δ λd=>tl δ λl=>th δ λu=>∃xs,d= .tuple xs/\¬(HT.sIx xs.length 0 l=0/\HT.sIx xs.length xs.length u=xs.length)/\Q (.tuple (bx xs l u))
theorem kC{e:US}{lo hi:Option US}{t:DT}{tl th:DO}{pos p2:Pos}(h:DF X H0 O0 e t)(hl:PO X lo (nV X.K H0 O0 tl))(hu:PO X hi (nV X.K H0 O0 th)):FE X H0 O0 (.Subscript e (.Slice lo hi none p2) pos) (dN t tl th):=
 (vH Gw h hl hu).imp λσ H Q uu38=>by obtain⟨O,δ,Qd,w,q,k⟩:=uu38;exact⟨O,δ,_,w,q,λd v H1 q1 s1 r1=>⟨O,δ,_,w.mono s1,q1,λl H2 q2 s2=>⟨O,δ,_,w.mono (s1.trans s2),q2,λu H3 uu39 s3=>by
  obtain⟨xs,e,q3⟩:=uu39;subst e;obtain⟨a,vs,rfl,h1,d1⟩:=(r1.mono (s2.trans s3)).lst;exact⟨a,vs,rfl,h1,λp hp=>k _ _ _ _ q3 (s1.trans (s2.trans s3)) hp (d1.cut l u)⟩⟩⟩⟩
theorem nW{a b:US}{ta tb:DT}{r:R2}{rd:UI->UI->(UI->Prop)->Prop}{pos:Pos}(ho:qh X r)(hd:cN X.K r rd)(ha:DF X H0 O0 a ta)(hb:DF X H0 O0 b tb)(hs:∀v u,subscripted b false v u=operate [v,u] (V9 v u):=by intro _ _;rfl):DE X H0 O0 (.Subscript a b pos) (bw rd ta tb):=(sX ho ha hb hs).imp (tD hd)
def dO:List UI->(UI->Prop)->Prop:=λds Q=>∃xs,(ds=[.list xs]\/ds=[.tuple xs])/\Q (.int xs.length)
def dP:List UI->(UI->Prop)->Prop:=λds Q=>∃xs,ds=[ma xs]/\Q (.int xs.length)
theorem j9{K:NH}:mJ K (λxs H Q=>∃p ys,xs=[.ref p]/\(bj K H p ys\/aX K H p ys)/\Q (.int ys.length) H) dO:=λH O xs ds Qd R _ hs uu40 k=>by
 obtain⟨ys,e,q⟩:=uu40;rcases e with e | e <;> subst e
 ·cases hs with
  | cons h r=>
   cases r;obtain⟨a,vs,rfl,h1,d1⟩:=h.lst;exact⟨a,vs,rfl,.inl h1,by rw [d1.length];exact k _ _ H q (ao.refl _) (.int _)⟩
 ·cases hs with
  | cons h r=>
   cases r;obtain⟨a,vs,rfl,h1,d1⟩:=h.tup;exact⟨a,vs,rfl,.inr h1,by rw [d1.length];exact k _ _ H q (ao.refl _) (.int _)⟩
theorem HA{K:NH}:mJ K (λxs H Q=>∃p ys,xs=[.ref p]/\(bj K H p ys\/aX K H p ys)/\Q (.int ys.length) H) dP:=λH O xs ds Qd R _ hs uu41 k=>by
 obtain⟨ys,e,q⟩:=uu41;subst e;cases hs with
 | cons h r=>
  cases r;obtain⟨a,vs,rfl,h1,d1⟩:=h.scr;exact⟨a,vs,rfl,.inl h1,by rw [d1.length];exact k _ _ H q (ao.refl _) (.int _)⟩
def dQ:List UI->(UI->Prop)->Prop:=λds Q=>∃xs,ds=[.list xs]/\Q (.tuple xs)
theorem mK{K:NH}:mJ K (λxs H Q=>∃p ys,xs=[.ref p]/\((bj K H p ys/\∀l,H l=none->Q (.ref l) (ak H l (.tup ys)))\/(aX K H p ys/\Q (.ref p) H))) dQ:=λH O xs ds Qd R tr hs uu42 k=>by
 obtain⟨ys,e,q⟩:=uu42;subst e;cases hs with
 | cons h r=>
  cases r;obtain⟨a,vs,rfl,h1,d1⟩:=h.lst;exact⟨a,vs,rfl,.inl ⟨h1,λl hl=>k _ _ _ q (ao.new hl) (.tup (.inl bh) (λz=>tr l z hl) (d1.mono (ao.new hl)))⟩⟩
theorem aq.bools{K:NH}{H:Hp}{O:Ex}:∀{bs:List Bool}{vs:List V},aq K H O vs (bs.map RC)->vs=bs.map V.bl
 | [],_,r=>by rw [Of] at r;cases r;rfl
 | b::bs,_,r=>by
  rw [NN] at r;cases r with
  | cons h r=>cases h;rw [NN,aq.bools r]
def dR(g:List Bool->Bool):List UI->(UI->Prop)->Prop:=λds Q=>∃bs:List Bool,ds=[.list (bs.map .bool)]/\Q (.bool (g bs))
theorem oF{K:NH}{g:List Bool->Bool}:mJ K (λxs H Q=>∃(a:UL)(bs:List Bool),xs=[.ref a]/\bj K H a (bs.map V.bl)/\Q (.bl (g bs)) H) (dR g):=λH O xs ds Qd R tr hs uu43 k=>by
 obtain⟨bs,e,q⟩:=uu43;subst e;cases hs with
 | cons h r=>
  cases r;obtain⟨a,vs,rfl,h1,d1⟩:=h.lst;cases d1.bools;exact⟨a,bs,rfl,h1,k _ _ H q (ao.refl _) (.bl _)⟩
def dS(g:Int->Int->Int):List UI->(UI->Prop)->Prop:=λds Q=>∃i j,ds=[.int i,.int j]/\Q (.int (g i j))
theorem tH{K:NH}{g:Int->Int->Int}:mJ K (λxs H Q=>∃i j,xs=[.int i,.int j]/\Q (.int (g i j)) H) (dS g):=λH O xs ds Qd R tr hs uu44 k=>by
 obtain⟨i,j,e,q⟩:=uu44;subst e;cases hs with
 | cons h r=>
  cases r with
  | cons h2 r=>
   cases r;cases h.int;cases h2.int;exact⟨i,j,rfl,k _ _ H q (ao.refl _) (.int _)⟩
def qk:UI->String
 | .none=> "NoneType" | .bool _=> "bool" | .int _=> "int" | .str _=> "str" | .list _=> "list" | .tuple _=> "tuple" | .dict _=> "dict"
def fO(neg:Bool):UI->UI->(UI->Prop)->Prop:=λx y Q=>∃ds,(y= .list ds\/y= .tuple ds)/\cb x=true/\ds.all cb=true/\Q (.bool (if neg then !(ds.any λd=>NT d x) else ds.any λd=>NT d x))
end
section
variable {P:UX} {w:UZ} {K:NH} {mg:Str->Option UJ} {base:UW}
def bQ(N:List Str)(ds:List UI):Dl:=ds.map (λd=>some (.v d))++NP (N.length - ds.length) none
theorem B5{H:Hp}{O:Ex}{N:List Str}{vs:List V}{ds:List UI}(tr:∀l,O l->H l≠none)(r:aq K H O vs ds):Wd K H O H O (start N vs) (bQ N ds):=by
 have hl:=r.length;have at1:∀(i:Nat) y,(bQ N ds)[i]?=some y->(∃d,ds[i]?=some d/\y=some (.v d))\/y=none:=λi y e=>by
  unfold bQ at e;by_cases h:i < ds.length
  ·rw [Qn (by simpa using h),PY] at e;cases q:ds[i]? with
   | none=>rw [q] at e;cases e
   | some d=>rw [q] at e;exact .inl ⟨d,rfl,(Ph e).symm⟩
  ·rw [QB (by simpa using Sf h),QO] at e;split at e
   ·exact .inr (Ph e).symm
   ·cases e
 refine⟨ao.refl _,λ_ z=>z,λ_ z=>.inl z,tr,by simp [start,bQ,hl],λi y e=>?_,λi j ds' es l e1=>?_⟩
 ·rcases at1 i y e with⟨d,hd,rfl⟩ | rfl
  ·obtain⟨v,hv,rv⟩:=r.getD hd;refine⟨v,?_,rv⟩;unfold start;rw [Qn (by simpa using(OW.mp hv).1),PY,hv];rfl
  ·exact PX
 ·rcases at1 i _ e1 with⟨d,_,z⟩ | z
  ·cases z;intro h;exact h.elim
  ·cases z
theorem lg.okD{x qual:Str}{st:U0}{f:UL}{fd:UT}{N ps:List Str}{k:Nat}{F:List UI->(UI->Prop)->Prop}(Fu:lg K x qual st f fd)(S:aQ N ps (ay st))(len:∀ds Q,F ds Q->ds.length=ps.length)
 (hbody:∀(cdv:UJ) (A:U1) (outer:List Env) (s:UM) (H:Hp) (O:Ex) (ds:List UI) (Q:UI->Prop) (E:XK),bH k (A.deeper (VR qual (ay st) s.heap.objs.size f cdv))->F ds Q->
  ∃t,bK (jS CX0 P w K mg base N qual (ay st) f cdv A outer s H E).nox (lJ st) (j3 K H O t)/\t {nx:=λ_=>Q .none,rt:=Q} (bQ N ds)):aC P w K mg base CX0 (k+1) f fd ps (bf K F):=by
 refine Fu.ok S (λvs H Q E h=>?_) (λcdv A outer s H vs Q E hr h=>?_)
 ·obtain⟨O,ds,Qd,_,r,q,_⟩:=h;rw [r.length];exact len _ _ q
 ·obtain⟨O,ds,Qd,tr,r,q,k⟩:=h;obtain⟨t,ht,q'⟩:=hbody cdv A outer s H O ds Qd E hr q;refine⟨_,ht,O,_,_,B5 tr r,q',λO' δ' σ' H' z w' S'=>?_,λd v H' z s' r'=>k d v H' z s' r',λ_ _ _ _ z=>z.elim,λ_ _ _ _ z=>z.elim⟩;exact k _ _ _ z w'.same .non
end
section
variable {X:Cx} {H0:Hp} {O0:Ex}
theorem lM:mq X [] (jQ X.K H0 O0 bS):=λWx s σ H Q I h=>by
 obtain⟨O,δ,Qd,w,q,k⟩:=h;exact BD Wx s σ H Q I (k true H q (ao.refl _))
theorem HB:kq X (.builtin "isinstance") (λxs H Q=>∃O d T b x,xs=[x,.ty T]/\Dt X.K H O x d/\(∀x,d≠ .dict [(.none,x)])/\kitOne X.K (.type (qk d)) (.type T)=some b/\Q (.bl b) H):=by
 intro Wx s σ H xs us Q I r h;obtain⟨O,d,T,b,x,rfl,hd,hp,hk,q⟩:=h;obtain⟨u,w',rfl,rx,rt⟩:=pe r;cases (show w'=Q5 T from rt);have fin:∀tk,EP X Wx σ Q (.bool b) {s with toks:=tk}:=λtk=>⟨.bl b,H,I.tok tk,rfl,q⟩;cases hd with
 | non=>cases (show u=Qa from rx);exact V8 kitx_none I.kIn PX hk (λz=>nomatch z) fin
 | bl y=>cases (show u=QD y from rx);exact V8 kitx_bool I.kIn PX hk (λz=>nomatch z) fin
 | int i=>obtain⟨t,e⟩:=(show ∃t,u=RH i t from rx);cases e;exact V8 kitx_int I.kIn PX hk (λz=>nomatch z) fin
 | str y=>obtain⟨t,e⟩:=(show ∃t,u=Q4 y t from rx);cases e;exact V8 kitx_str I.kIn PX hk (λz=>nomatch z) fin
 | @tup a xs ds h n rr=>
  cases (show u=Oz a from rx);obtain⟨its,rv,⟨o,e,c,_⟩,_⟩:=I.tuple (.inl h);exact V8 kitx_tuple I.kIn ⟨o,e,c⟩ hk (λz=>nomatch z) fin
 | @tupK a xs ds h rr=>
  cases (show u=Oz a from rx);obtain⟨its,rv,⟨o,e,c,_⟩,_⟩:=I.tuple h.of0;exact V8 kitx_tuple I.kIn ⟨o,e,c⟩ hk (λz=>nomatch z) fin
 | @lst a xs ds h n rr=>
  cases (show u=Oz a from rx);obtain⟨its,rv,⟨o,_,e,c,_⟩,_⟩:=I.list (.inl h);exact V8 kitx_list I.kIn ⟨o,e,c⟩ hk (λz=>nomatch z) fin
 | pack h n=>exact absurd rfl (hp _)
 | purse h n=>exact absurd rfl (hp _)
 | scr h r=>exact absurd rfl (hp _)
 | obj h e n r=>exact absurd rfl (hp _)
 | @dct0 a h n=>
  cases (show u=Oz a from rx);obtain⟨_,_,_,_,o,_,_,e,c,_⟩:=(show bE X.prog X.w H s.heap a (.dK []) from I.hok a _ h);exact V8 kitx_dict I.kIn ⟨o,e,c.1⟩ hk (λz=>nomatch z) fin
 | @dic a ob kv ks kp ds h e1 e2 n rr=>
  cases (show u=Oz a from rx);obtain⟨_,_,_,_,o,_,_,e,c,_⟩:=(show bE X.prog X.w H s.heap a (.dK kv) from(I.hok a _ h).2);exact V8 kitx_dict I.kIn ⟨o,e,c.1⟩ hk (λz=>nomatch z) fin
def cF(K:NH)(T:String)(t:DT):DT:=λδ Q=>t δ λd=>∃b,kitOne K (.type (qk d)) (.type T)=some b/\(∀x,d≠ .dict [(.none,x)])/\Q (.bool b)
theorem HC{T:String}{a c:US}{t:DT}{np p:Pos}(hg:Gl X "isinstance")(hm:X.mg "isinstance"=none)(hv:U4 "isinstance"=some (.builtin "isinstance"))(ha:DF X H0 O0 a t)(hc:PE X c (tC (.ty T)))
 (hs:UQ [a,c] X.env=(false,eval a X.env)::UQ [c] X.env:=by rfl)(hs2:UQ [c] X.env=[(false,eval c X.env)]:=by rfl)(hb:(U7 p (UQ [c] X.env)).any (·.1)=false:=by rfl):DE X H0 O0 (.Call (.Name "isinstance" np) [a,c] [] p) (cF X.K T t):=
 (aT HB hg hm hv (aN ha (aN hc bF hs2) hs) (he:=hs) (hpl:=hb)).imp λσ H Q uu45=>by obtain⟨O,δ,Qd,w,q,k⟩:=uu45;exact⟨O,δ,_,w,q,λd v H1 uu46 s1 r1=>by obtain⟨b,e,hp,q1⟩:=uu46;exact⟨λ_=>False,d,T,b,v,rfl,r1.all,hp,e,k _ _ H1 q1 s1 (.bl b)⟩⟩
def dU:UI->UI->(UI->Prop)->Prop:=λx y Q=>∃i j,x= .str i/\y= .str j/\i.length+j.length<=UR/\Q (.str (i++j))
theorem tI{K:NH}:cN K (λx y H Q=>∃i j,x= .str i/\y= .str j/\i.length+j.length<=UR/\Q (.str (i++j)) H) dU:=λH O x y dx dy Qd R tr hx hy uu47 k=>by
 obtain⟨i,j,e1,e2,hz,q⟩:=uu47;subst e1 e2;cases hx.str;cases hy.str;exact⟨i,j,rfl,rfl,hz,k _ _ H q (ao.refl _) (.str _)⟩
def dW:UI->UI->(UI->Prop)->Prop:=λx y Q=>∃z i c,x= .str z/\y= .int i/\z.length<=UR/\atI z.cps.toList i=some c/\Q (.str ⟨#[c]⟩)
theorem tJ{K:NH}:cN K Bt dW:=λH O x y dx dy Qd R tr hx hy uu48 k=>by
 obtain⟨z,i,c,e1,e2,hz,e3,q⟩:=uu48;subst e1 e2;cases hx.str;cases hy.int;exact⟨z,i,c,rfl,rfl,hz,e3,k _ _ H q (ao.refl _) (.str _)⟩
def HD:V->Option Int->Option Int->Hp->VK->Prop:=λx lo hi H Q=>∃z,x= .str z/\z.length<=UR/\Q (.str (Txt.slice z lo hi)) H
theorem HE:rD X HD:=by
 intro Wx s σ H x v vl vu lo hi sl Q I rx hs pl pu h;obtain⟨z,rfl,hz,q⟩:=h;obtain⟨t,rfl⟩:=rx;have e1:∃l:Option (Int×Tok),vl=partValue l/\l.map (·.1)=lo:=by
  cases pl with
  | none=>exact⟨none,rfl,rfl⟩
  | int i t=>exact⟨some (i,t),rfl,rfl⟩
 have e2:∃l:Option (Int×Tok),vu=partValue l/\l.map (·.1)=hi:=by
  cases pu with
  | none=>exact⟨none,rfl,rfl⟩
  | int i t=>exact⟨some (i,t),rfl,rfl⟩
 obtain⟨l,rfl,rfl⟩:=e1;obtain⟨u,rfl,rfl⟩:=e2;refine⟨"str",_,F.slot_str_getitem.lookup,VA _ _ _,wpAny_getItem_str_slice (l:=l) (u:=u) (st:=none) hs rfl ?_⟩;exact post_val_or_str ⟨OB (Txt.slice_le z _ _) hz,λt' k=>⟨.str (Txt.slice z (l.map (·.1)) (u.map (·.1))),H,I.tok _,⟨_,rfl⟩,q⟩⟩
def dX(t:DT)(tl th:DO):DT:=λδ Q=>t δ λd=>tl δ λl=>th δ λu=>∃z,d= .str z/\z.length<=UR/\Q (.str (Txt.slice z l u))
theorem qm{e:US}{lo hi:Option US}{t:DT}{tl th:DO}{pos p2:Pos}(h:DF X H0 O0 e t)(hl:PO X lo (nV X.K H0 O0 tl))(hu:PO X hi (nV X.K H0 O0 th)):DE X H0 O0 (.Subscript e (.Slice lo hi none p2) pos) (dX t tl th):=
 (vH HE h hl hu).imp λσ H Q uu49=>by obtain⟨O,δ,Qd,w,q,k⟩:=uu49;exact⟨O,δ,_,w,q,λd v H1 q1 s1 r1=>⟨O,δ,_,w.mono s1,q1,λl H2 q2 s2=>⟨O,δ,_,w.mono (s1.trans s2),q2,λu H3 uu50 s3=>by
  obtain⟨z,e,hz,q3⟩:=uu50;subst e;cases r1.str;exact⟨z,rfl,hz,k _ _ H3 q3 (s1.trans (s2.trans s3)) (.str _)⟩⟩⟩⟩
theorem B6{K:NH}{H:Hp}{O:Ex}:∀{ys:List Str}{vs:List V}{us:List UJ},aq K H O vs (ys.map NI)->aG vs us->Ve us ys:=by
 intro ys
 induction ys with
 | nil=>intro vs us r rv;rw [Of] at r;cases r;cases rv;exact .nil
 | cons y ys ih=>
  intro vs us r rv;rw [NN] at r;cases r with
  | cons h r=>
   cases h;cases rv with
   | cons r1 r2=>
    obtain⟨t,rfl⟩:=r1;exact .cons y t (ih r r2)
theorem HF:rE X "str.join" (λx xs H Q=>∃(O:Ex)(z:Str)(a:V)(ys:List Str),x= .str z/\xs=[a]/\Sh X.K H O a (.list (ys.map .str))/\(ys.map (·.length)).sum+ys.length*z.length<=16777216/\Q (.str (Txt.join z ys)) H):=by
 intro Wx s σ H x xs v us Q I rx rs h;obtain⟨O,z,a,ys,rfl,rfl,ha,hz,q⟩:=h;obtain⟨t,rfl⟩:=rx;obtain⟨u,rfl,ru⟩:=kY rs;obtain⟨l,vs,rfl,hl,dl⟩:=ha.lst;cases ru;obtain⟨its,rv,pl,_⟩:=I.list hl;exact join_list pl.isList (by simpa using B6 dl rv) hz λt' k=>⟨.str _,H,I.tok _,⟨_,rfl⟩,q⟩
def dY(to:DT)(t:DT):DT:=λδ Q=>to δ λx=>∃z:Str,x= .str z/\t δ λy=>∃(ys:List Str),y= .list (ys.map .str)/\(ys.map (·.length)).sum+ys.length*z.length<=16777216/\Q (.str (Txt.join z ys))
theorem qo{o e:US}{to t:DT}{apos cpos:Pos}(ho:DE X H0 O0 o to)(ha:DF X H0 O0 e t)(hbase:Vw o "join" X.env (eval o X.env)=eval o X.env:=by rfl)
 (hfew:((U7 cpos (UQ [e] X.env)).all (λx=>!x.1) && (Wg cpos (VU [] X.env)).all (λx=>x.1.isSome) && decide ([e].length+([]:List VI).length+(if ([]:List VI).isEmpty then 0 else 1) < 30))=true:=by rfl)
 (hline:(apos.endLine==cpos.line)=true:=by rfl)(hst:UQ [e] X.env=(false,eval e X.env)::UQ [] X.env:=by rfl)(hplain:(U7 cpos (UQ [] X.env)).any (·.1)=false:=by rfl):
 DE X H0 O0 (.Call (.Attribute o "join" apos) [e] [] cpos) (dY to t):=
 (rF QW SH SI HF ho (aN ha bF hst) hbase hfew hline hst hplain).imp λσ H Q uu51=>by obtain⟨O,δ,Qd,w,q,k⟩:=uu51;exact⟨O,δ,_,w,q,λx v H1 uu52 s1 r1=>by
  obtain⟨z,e,q1⟩:=uu52;subst e;cases r1;exact⟨rfl,O,δ,_,w.mono s1,q1,λy u H2 uu53 s2 r2=>by obtain⟨ys,e,hz,q2⟩:=uu53;subst e;exact⟨O,z,u,ys,rfl,rfl,r2,hz,k _ _ H2 q2 (s1.trans s2) (.str _)⟩⟩⟩
def dZ:List UI->(UI->Prop)->Prop:=λds Q=>(∃i,ds=[.int i]/\Q (.int i))\/∃b,ds=[.bool b]/\Q (.int (if b then 1 else 0))
theorem tK{K:NH}:mJ K (λxs H Q=>(∃i,xs=[.int i]/\Q (.int i) H)\/∃k,xs=[.bl k]/\Q (.int (if k then 1 else 0)) H) dZ:=λH O xs ds Qd R tr hs h k=>by
 rcases h with⟨i,e,q⟩ | ⟨b,e,q⟩ <;> subst e
 ·cases hs with
  | cons h r=>cases r;cases h.int;exact .inl ⟨i,rfl,k _ _ H q (ao.refl _) (.int _)⟩
 ·cases hs with
  | cons h r=>cases r;cases h.bl;exact .inr ⟨b,rfl,k _ _ H q (ao.refl _) (.int _)⟩
def d3(t:DA):DA:=λδ Q=>t δ λds=>∃xs,(ds=[.list xs]\/ds=[.tuple xs])/\Q xs
theorem pC{a:US}{t:DA}{np p:Pos}(hg:Gl X "list")(hm:X.mg "list"=none)(hv:U4 "list"=some (.type "list"))(ha:PA X [a] (me X.K H0 O0 t))(he:UQ [a] X.env=(false,eval a X.env)::UQ [] X.env:=by rfl)(hpl:(U7 p (UQ [] X.env)).any (·.1)=false:=by rfl):FE X H0 O0 (.Call (.Name "list" np) [a] [] p) (d3 t):=
 (cJ Gx hg hm hv ha (he:=he) (hpl:=hpl)).imp λσ H Q uu54=>by obtain⟨O,δ,Qd,w,q,k⟩:=uu54;exact⟨O,δ,_,w,q,λds vs H1 uu55 s1 r1=>by
  obtain⟨xs,e,q1⟩:=uu55;rcases e with e | e <;> subst e
  ·cases r1 with
   | cons h r=>
    cases r;obtain⟨a,us,rfl,h1,d1⟩:=h.lst;exact⟨a,us,rfl,.inl h1,λl hl=>k _ _ _ _ q1 s1 hl d1⟩
  ·cases r1 with
   | cons h r=>
    cases r;obtain⟨a,us,rfl,h1,d1⟩:=h.tup;exact⟨a,us,rfl,.inr h1,λl hl=>k _ _ _ _ q1 s1 hl d1⟩⟩
theorem HG{xs:List V}{us:List UJ}(r:aG xs us):aG xs.reverse us.reverse:=by
 induction r with
 | nil=>exact .nil
 | cons h r ih=>rw [Ru,Ru];exact ih.append (.cons h .nil)
theorem HH{e:US}{te:TE}{pos p2 up cp:Pos}{j}(he:PE X e te):PE X (.Subscript e (.Slice none none (some (.UnaryOp .USub (.Constant (.int 1) j cp) up)) p2) pos) (λσ H Q=>te σ H λx H1=>∃a xs,x= .ref a/\bj X.K H1 a xs/\∀p,H1 p=none->Q (.ref p) (ak H1 p (.lst xs.reverse))):=by
 intro Wx s σ H Q I h;refine Subscript_ (ax (he Wx s σ H _ I h) λv s1 ⟨x,H1,I1,r1,q1⟩=>?_);obtain⟨a,xs,rfl,hq,q⟩:=q1;cases r1;refine wpAny_Slice ?_;rw [evalPart_none];refine UN (UN ?_);rw [evalPart_some];refine ax (FL FP cm Wx s1 σ H1 (λx H2=>x= .int (-1)/\H2=H1) I1 ⟨1,rfl,rfl,rfl⟩) λvk s3 ⟨x3,H3,I3,r3,e3,e4⟩=>?_;subst e3 e4;obtain⟨tk,rfl⟩:=r3;have I4:ag X Wx σ H3 {s3 with heap:=s3.heap.push {cls:= .type "slice",data:= .fields #[.none,.none,.int (-1) tk]}}:=I3.kept (t':=s3.toks) λb ob q=>NK _ q;show UO (UP X.prog X.w) X.A (subscriptTail e (.Slice none none (some (.UnaryOp .USub (.Constant (.int 1) j cp) up)) p2) (.ref a) (.ref s3.heap.objs.size)) (EP X Wx σ Q) X.xe {s3 with heap:=s3.heap.push {cls:= .type "slice",data:= .fields #[.none,.none,.int (-1) tk]}};obtain⟨its,r,ht,hz⟩:=I4.list hq;have hlen:=r.length;refine tail_any (ops:=[.ref a,.ref s3.heap.objs.size]) ht.isList.typeIs slot_list_getitem.lookup ?_ (by with_unfolding_all rfl);refine Wv ht.isList (Te ..) .none .none (.int (-1) tk) UH ?_ (by rw [Ot] <;> omega);rw [krv_pick];refine⟨.ref _,_,I4.laid (t':=s3.toks) (o:= .lst xs.reverse) (λb ob q=>NK _ q) (NV _) ?_,rfl,q _ (I4.hok.fresh (NV _))⟩;exact⟨by rw [RO];exact hz,_,0,(show aG xs.reverse its.reverse from HG r),N7 _ rfl⟩
def d6(t:DT):DA:=λδ Q=>t δ λd=>∃xs,d= .list xs/\Q xs.reverse
theorem HI{e:US}{t:DT}{pos p2 up cp:Pos}{j}(h:DF X H0 O0 e t):FE X H0 O0 (.Subscript e (.Slice none none (some (.UnaryOp .USub (.Constant (.int 1) j cp) up)) p2) pos) (d6 t):=
 (HH h).imp λσ H Q uu58=>by obtain⟨O,δ,Qd,w,q,k⟩:=uu58;exact⟨O,δ,_,w,q,λd v H1 uu59 s1 r1=>by
  obtain⟨xs,e,q1⟩:=uu59;subst e;obtain⟨a,us,rfl,h1,d1⟩:=r1.lst;exact⟨a,us,rfl,h1,λp hp=>k _ _ _ _ q1 s1 hp d1.reverse⟩⟩
end
section
variable {X:Cx} {Wx:List (UL×Obj)} {σ:St} {H:Hp} {s:UM}
theorem ag.swap{p:UL}{o':HO}(I:ag X Wx σ H s)(mu:qU (H p))(new:bE X.prog X.w (ak H p o') s.heap p o'):ag X Wx σ (ak H p o') s:=by
 have hp:∃o,H p=some o:=by
  cases e:H p with
  | none=>rw [e] at mu;exact mu.elim
  | some o=>exact⟨o,rfl⟩
 obtain⟨o,ho⟩:=hp;have nn:∀{b:UL},H b=none->b≠p:=λhb z=>by rw [z,ho] at hb;cases hb
 have nt:∀{b:UL}{xs:List V},H b=some (.tup xs)->b≠p:=λhb z=>by rw [z] at hb;rw [hb] at mu;exact mu
 have nw:∀{b y:UL},H b=some (.own y)->b≠p:=λhb z=>by rw [z] at hb;rw [hb] at mu;exact mu
 have nf:∀{b:UL}{ob:Obj}{u:HO},H b=some (.frz ob u)->b≠p:=λhb z=>by rw [z] at hb;rw [hb] at mu;exact mu
 have nc:∀{b:UL}{q:Str},H b=some (.cod q)->b≠p:=λhb z=>by rw [z] at hb;rw [hb] at mu;exact mu
 have nb:∀{b:UL}{ps:Array UJ},H b=some (.tbl ps)->b≠p:=λhb z=>by rw [z] at hb;rw [hb] at mu;exact mu
 have ub:=I.base;refine⟨I.ok,I.os,I.bare,⟨ub.keep,ub.slot,λb ob e n hx=>?_,ub.there,λb xs z=>?_,λb ob u z=>?_,λb ps z=>?_⟩,I.loc,I.cell,?_,λx c e=>?_,λq hq=>?_,λb u e=>?_,I.len⟩
 ·have:=ub.free b ob e n hx;rw [av (nn this)];exact this
 ·have:=ub.tups b xs z;rw [av (nt this)];exact this
 ·have:=ub.frzs b ob u z;rw [av (nf this)];exact this
 ·obtain⟨m,this⟩:=ub.tbls b ps z;exact⟨m,by rw [av (nb this)];exact this⟩
 ·rw [av (nn I.free)];exact I.free
 ·have:=I.freeC x c e;rw [av (nn this)];exact this
 ·obtain⟨a,b,c⟩:=I.pin q hq;exact⟨a,by rw [av (nn b)];exact b,c⟩
 ·by_cases hb:b=p
  ·subst hb;rw [bh] at e;cases e;exact new
  ·rw [av hb] at e;exact(I.hok b u e).stay (λ_ _ _ q=>q) (λc z=>by rw [av (nw z)];exact z) (λc xs z=>by rw [av (nt z)];exact z) λc xs z=>by rw [av (nc z)];exact z
theorem ag.open{p:UL}(I:ag X Wx σ H s)(e:H p=some (nR p)):∃n,ag X Wx σ (ak H p (.lst [.int n])) s:=by
 obtain⟨⟨n,t,k,h⟩,_,_⟩:=(show bE X.prog X.w H s.heap p (nR p) from I.hok p _ e);exact⟨n,I.swap (by rw [e];exact PX) ⟨(show 1<=UR by decide),[.int n t],k,.cons ⟨t,rfl⟩ .nil,h⟩⟩
theorem ag.shut{p:UL}{n:Int}(I:ag X Wx σ H s)(e:H p=some (.lst [.int n])):ag X Wx σ (ak H p (nR p)) s:=by
 obtain⟨_,its,k,r,h⟩:=(show bE X.prog X.w H s.heap p (.lst [.int n]) from I.hok p _ e);cases r with
 | cons r1 r2=>
  cases r2;obtain⟨t,rfl⟩:=r1;refine I.swap (by rw [e];exact PX) ⟨⟨n,t,k,h⟩,⟨_,h⟩,λh1 h2 uu60 kk=>by obtain⟨n,t,k,z⟩:=uu60;exact⟨n,t,k,kk _ z⟩⟩
theorem bK.pack{st:List U0}{t:TS}(h:bK X st t):bK X st (λD σ H=>∃p,H p=some (nR p)/\∀n,t {nx:=λσ' H'=>∃n',H' p=some (.lst [.int n'])/\D.nx σ' (ak H' p (nR p)),rt:=λv H'=>∃n',H' p=some (.lst [.int n'])/\D.rt v (ak H' p (nR p))} σ (ak H p (.lst [.int n]))):=by
 intro Wx s σ H D I ⟨p,e,q⟩;obtain⟨n,I1⟩:=I.open e;refine ax (h Wx s σ _ _ I1 (q n)) λf s1 z=>?_;cases f with
 | next=>obtain⟨σ',H',J,n',e',q'⟩:=z;exact⟨σ',_,J.shut e',q'⟩
 | ret u=>obtain⟨v,σ',H',J,r,n',e',q'⟩:=z;exact⟨v,σ',_,J.shut e',r,q'⟩
 | brk=>obtain⟨_,_,_,z⟩:=z;exact z.elim
 | cont=>obtain⟨_,_,_,z⟩:=z;exact z.elim
theorem bK.newPack{st:List U0}{t:TS}(h:bK X st t):bK X st (λD σ H=>t {nx:=λ_ _=>False,rt:=λv H'=>∃p n,v= .ref p/\H' p=some (.lst [.int n])/\D.rt v (ak H' p (nR p))} σ H):=by
 intro Wx s σ H D I q;refine ax (h Wx s σ _ _ I q) λf s1 z=>?_;cases f with
 | next=>obtain⟨_,_,_,z⟩:=z;exact z.elim
 | ret u=>obtain⟨v,σ',H',J,r,p,n',e,e',q'⟩:=z;subst e;exact⟨_,σ',_,J.shut e',r,q'⟩
 | brk=>obtain⟨_,_,_,z⟩:=z;exact z.elim
 | cont=>obtain⟨_,_,_,z⟩:=z;exact z.elim
end
def vZ:List UI->(UI->Prop)->Prop:=λds Q=>∃z:Int,ds=[lT,.int z]/\0 < z/\z<=1000000/\∀i:Int,0<=i->i < z->Q (.int i)
def HJ:List UI->(UI->Prop)->Prop:=λds Q=>∃(ns:List Int)(i:Int),ds=[ma (ns.map .int),.int i]/\(∀z∈ns,Pk z<=1048576)/\0<=i/\i<=64/\Q lT
theorem aV{α:Type}{a:α}{l:List α}:atI (a::l) 0=some a:=mF (j:=0) rfl
theorem bz{α:Type}{a b:α}{l:List α}:atI (a::b::l) 1=some b:=mF (j:=1) rfl
theorem bU{α:Type}{a b c:α}{l:List α}:atI (a::b::c::l) 2=some c:=mF (j:=2) rfl
theorem cG{α:Type}{a b c d:α}{l:List α}:atI (a::b::c::d::l) 3=some d:=mF (j:=3) rfl
theorem d7{α:Type}{a b c d e:α}{l:List α}:atI (a::b::c::d::e::l) 4=some e:=mF (j:=4) rfl
theorem d8{i:Int}:bu (.int i):=rfl
theorem d9{i:Bool}:bu (.bool i):=rfl
theorem fP:bu .none:=rfl
theorem bo{x y:Str}:NT (.str x) (.str y)=(x==y):=by simp [NT]
theorem eg{x y:Int}:NT (.int x) (.int y)=(x==y):=by simp [NT]
theorem ei{x y:Bool}:NT (.bool x) (.bool y)=(x==y):=by simp [NT]
theorem mX{x:Str}:bu (.str x)↔Pc x=true:=by
 unfold bu P9;simp [Pe,Sj]
theorem ph{n d:Nat}:HT.sIx n d none=d:=rfl
theorem oG{n d:Nat}{i:Int}(h0:0<=i)(h1:i<=n):HT.sIx n d (some i)=i.toNat:=by
 obtain⟨j,rfl⟩:=OY h0;rw [HT.sIx_nat,O9];omega
theorem pE{xs:List UI}{i:Int}(h0:0<=i)(h1:i<=xs.length):bx xs none (some i)=xs.take i.toNat:=by
 unfold bx;rw [ph,oG h0 h1];simp
theorem pF{xs:List UI}{i:Int}(h0:0<=i)(h1:i<=xs.length):bx xs (some i) none=xs.drop i.toNat:=by
 unfold bx;rw [ph,oG h0 h1,Po (by rw [Pw];exact NV _)]
theorem tL{lo:Int}{n i:Nat}{x:UI}(h:(kR lo n)[i]?=some x):i < n/\x= .int (lo+i):=by
 unfold kR at h;rw [PY] at h;by_cases hi:i < n
 ·rw [List.getElem?_range hi] at h;exact⟨hi,(Ph h).symm⟩
 ·rw [Qm (by simpa using hi)] at h;cases h
theorem B7{lo:Int}{n:Nat}:(kR lo n).length=n:=by unfold kR;simp
section
variable {X:Cx} {Wx:List (UL×Obj)} {σ:St} {H:Hp} {s:UM} {a:UL} {y v:V} {u r:UJ} {o:Option V} {A:U1} {E:UJ->UM->Prop}
theorem ag.big(I:ag X Wx σ H s):sysModules < s.heap.objs.size:=by
 have h:UU < s.heap.objs.size:=(I.mod.glob.keeps I.bk).lt;exact Tg Ce h
end
theorem HK{P:UX}{w:UZ}{H:Hp}(h:UW)(hb:sysModules < h.objs.size):bE P w H (h.push {cls:= .type "dict",data:= .dict #[]}) h.objs.size (.dK []):=
 ⟨PU _,beq_eq_false_iff_ne.mpr (Ne.symm (OJ hb)),[],.nil,UB h⟩
def HL:TE:=λ_ H Q=>∀p,H p=none->Q (.ref p) (ak H p (.dK []))
section
variable {X:Cx} {pos:Pos}
theorem HM:PE X (.Dict [] [] pos) HL:=λWx s σ H Q I h=>
 wpAny_Dict_empty ⟨.ref s.heap.objs.size,_,I.laid (a:=s.heap.objs.size) (o:= .dK []) (t':=s.toks) (λ_ _ q=>NK _ q) (NV _) (HK s.heap I.big),rfl,h _ (I.hok.fresh (NV _))⟩
end
section
variable {X:Cx} {H0:Hp} {O0:Ex}
def fQ(a b c d:Str)(t:DT):DT:=λδ Q=>t δ λy=>(y= .str a/\Q (.str c))\/(y= .str b/\Q (.str d))
def litsOf:List US->Option (List UI)
 | []=>some []
 | .Constant (.int i) _ _::r=>(litsOf r).map (.int i::·)
 | .Constant (.str x) _ _::r=>(litsOf r).map (.str x::·)
 | _::_=>none
def cH(ds:List UI):DA:=λ_ Q=>Q ds
theorem mY:∀{es:List US}{ds:List UI},litsOf es=some ds->PA X es (mv X.K H0 O0 (cH ds))
 | [],ds,h=>by cases h;exact ah
 | e::r,ds,h=>by
  cases e with
  | Constant c j p=>
   cases c with
   | int i=>
    have h':(litsOf r).map (.int i::·)=some ds:=h;cases q:litsOf r with
    | none=>rw [q] at h';cases h'
    | some ms=>rw [q] at h';cases h';exact aa ae (mY q)
   | str x=>
    have h':(litsOf r).map (.str x::·)=some ds:=h;cases q:litsOf r with
    | none=>rw [q] at h';cases h'
    | some ms=>rw [q] at h';cases h';exact aa aF (mY q)
   | _=>cases h
  | _=>cases h
def litsE:US->Option (List UI)
 | .List es _=>litsOf es
 | _=>none
theorem mL{e:US}{ds:List UI}(h:litsE e=some ds):FE X H0 O0 e (cC (cH ds)):=by
 cases e with
 | List es p=>exact bB (mY h)
 | _=>cases h
theorem B8{e:US}{ds:List UI}{x:Option US}{n:Nat}{env:Env}(h:litsE e=some ds):Vi e x n env=pure false:=by
 cases e with
 | List es p=>rfl
 | _=>cases h
end
theorem mZ{x:Str}:Pc x=true↔∀c∈x.cps.toList,c < 0x110000:=by
 unfold Pc;rw [<-Array.all_toList,Pg];simp
theorem rO(x y:Str):(x++y).cps=x.cps++y.cps:=rfl
theorem oH(x y:Str):(x++y).length=x.length+y.length:=by
 show(x.cps++y.cps).size=_;rw [R8];rfl
theorem HN{a b:Str}{c d:Nat}(h:a++⟨#[c]⟩++b=a++⟨#[d]⟩++b):c=d:=by
 have h1:=congrArg (λs:Str=>s.cps.toList) h;simp only [rO,Qt] at h1;have h2:=List.append_cancel_right h1;have h3:=List.append_cancel_left h2;simpa using h3
def kS:Str:="abcdefghijklmnopqrstuvwxyz"
theorem HP:kS.cps.toList.length=26:=td
theorem HQ:kS.cps.toList.Nodup:=td
theorem rP:∀c∈kS.cps.toList,c < 0x110000:=td
theorem rQ{j:Int}(h0:0<=j)(h1:j < 26):∃c,atI kS.cps.toList j=some c/\kS.cps.toList[j.toNat]?=some c/\c < 0x110000:=by
 obtain⟨k,rfl⟩:=OY h0;have hk:k < kS.cps.toList.length:=by rw [HP];omega
 refine⟨kS.cps.toList[k],mF (by simp [hk]),by simp [hk],rP _ (Qk hk)⟩
def lN(j:Int):Nat:=(kS.cps.toList[j.toNat]?).getD 0
theorem HR{j:Int}(h0:0<=j)(h1:j < 26):atI kS.cps.toList j=some (lN j)/\lN j < 0x110000:=by
 obtain⟨c,e1,e2,e3⟩:=rQ h0 h1;have:lN j=c:=by unfold lN;rw [e2];rfl
 rw [this];exact⟨e1,e3⟩
theorem HS{i j:Int}(h0:0<=i)(h1:i < 26)(g0:0<=j)(g1:j < 26)(e:lN i=lN j):i=j:=by
 obtain⟨c,_,e2,_⟩:=rQ h0 h1;obtain⟨d,_,e4,_⟩:=rQ g0 g1;have a:lN i=c:=by unfold lN;rw [e2];rfl
 have b:lN j=d:=by unfold lN;rw [e4];rfl
 have cd:c=d:=by rw [<-a,<-b,e]
 subst cd;have hi:i.toNat < kS.cps.toList.length:=(OW.mp e2).1;have:=(Ts (l:=kS.cps.toList) (i:=i.toNat) (j:=j.toNat) hi HQ).mp (by rw [e2,e4]);omega
section
variable {X:Cx} {pos:Pos}
def B9(K:NH)(n:Nat)(t:l6):TG:=λv σ H Q=>∃a xs,v= .ref a/\bj K H a xs/\xs.length=n/\t xs σ H Q
theorem HU{es:List US}{k:Nat}{t:l6}{n:Nat}(hc:X.calm=true)(h:qY X es t)
 (hn:(Vz es X.env).length=n:=by rfl)(hst:(Vz es X.env).findIdx? (·.1)=none:=by rfl):PG X (.Tuple es k pos) (B9 X.K n t):=by
 intro Wx s σ H v u Q I r hw;obtain⟨a,xs,e1,hq,hl,hw⟩:=hw;subst e1;cases r;obtain⟨its,rv,⟨o,n',ho,hcls,hd,hdata⟩,hz⟩:=I.list hq;have hlst:s.heap.IsList a its.toArray:=⟨o,ho,hcls,n',hdata⟩;rw [assign_Tuple];refine UK (VQ ?_);unfold unpack;have hn':(Vz es X.env).length=its.toArray.size:=by simp [hn,<-hl,rv.length]
 rw [hn',hst];refine UK (Vc (PySem.W.kun_itemsOf (I.ok.hd hc) hlst λh' hx=>?_));have I1:ag X Wx σ H {s with heap:=h'}:=I.kept (t':=s.toks) λb o e=>hx b o (OJ (NW e)) e;exact h Wx _ σ H xs _ Q I1 (by simpa using rv) hw
def Ca(n:Nat)(t:nU):DG:=λx δ Q=>∃xs,x= .list xs/\xs.length=n/\t xs δ Q
theorem HV{K:NH}{n:Nat}{t:l6}{dt:nU}(h:rL K t dt):GD K (B9 K n t) (Ca n dt):=λH0 O0 H O σ δ v x R Qd w r uu61 k=>by
 obtain⟨xs,e,hl,q⟩:=uu61;subst e;obtain⟨a,vs,rfl,hs,rr⟩:=(Sh.dt r).lst;exact⟨a,vs,rfl,hs,by rw [rr.length];exact hl,h H0 O0 H O σ δ _ _ R Qd w rr q k⟩
end
mutual
theorem Cb:∀d e:UI,NT d e=NT e d
 | .list xs,.list ys=>by rw [NT,NT];exact v5 xs ys
 | .tuple xs,.tuple ys=>by rw [NT,NT];exact v5 xs ys
 | .bool _,.bool _ | .int _,.int _ | .str _,.str _=>by simp only [NT];exact BEq.comm
 | .bool a,.int j | .int j,.bool a=>by simp only [NT];exact BEq.comm
 | .none,.none=>rfl
 | .dict _,.dict _=>by simp only [NT]
 | .none,.bool _ | .none,.int _ | .none,.str _ | .none,.list _ | .none,.tuple _ | .none,.dict _=>by simp only [NT]
 | .bool _,.none | .bool _,.str _ | .bool _,.list _ | .bool _,.tuple _ | .bool _,.dict _=>by simp only [NT]
 | .int _,.none | .int _,.str _ | .int _,.list _ | .int _,.tuple _ | .int _,.dict _=>by simp only [NT]
 | .str _,.none | .str _,.bool _ | .str _,.int _ | .str _,.list _ | .str _,.tuple _ | .str _,.dict _=>by simp only [NT]
 | .list _,.none | .list _,.bool _ | .list _,.int _ | .list _,.str _ | .list _,.tuple _ | .list _,.dict _=>by simp only [NT]
 | .tuple _,.none | .tuple _,.bool _ | .tuple _,.int _ | .tuple _,.str _ | .tuple _,.list _ | .tuple _,.dict _=>by simp only [NT]
 | .dict _,.none | .dict _,.bool _ | .dict _,.int _ | .dict _,.str _ | .dict _,.list _ | .dict _,.tuple _=>by simp only [NT]
theorem v5:∀xs ys:List UI,Pl xs ys=Pl ys xs
 | [],[]=>rfl
 | x::xs,y::ys=>by rw [Pl,Pl,Cb x y,v5 xs ys]
 | [],_::_=>by rw [Pl,Pl]
 | _::_,[]=>by rw [Pl,Pl]
end
def v7(z:Str):It:=⟨λi _=>i < z.cps.size,λi H x H'=>H'=H/\∃c,z.cps[i]?=some c/\x= .str ⟨#[c]⟩,λi _=>z.cps.size<=i⟩
theorem HW(z:Str):["enumerate","zip","dict_itemiterator","dict_reverseitemiterator","odict_iterator","itertools.zip_longest","itertools.pairwise"].contains (V1 z)=false:=by
 unfold V1;split <;> decide
theorem Cc{P:UX}{w:UZ}{A:U1}(hh:A.handled=none)(I:UL)(z:Str)(t:Tok):Walks P w A I [I] [I] z.cps.size (SignAt z) (λi h=>h.IsStrIter I (V1 z) z t i):=by
 unfold V1;split
 ·exact Walks.strAscii hh I z t
 ·exact Walks.strWide hh I z t
theorem HX{P:UX}{w:UZ}{K:NH}{tg:US}(it:UL)(z:Str)(t:Tok):p9 P w K tg (v7 z) [it] it (λi h=>h.IsStrIter it (V1 z) z t i/\i<=z.cps.size) where
 mem:=UH
 obj:=λi h st b hb=>by
  have e:b=it:=by simpa using hb
  subst e;obtain⟨⟨o,e,c,d⟩,_⟩:=st;exact⟨o,e,λv z=>by rw [d] at z;cases z⟩
 keep:=λi h h' st k=>by
  obtain⟨⟨o,e,c,d⟩,l⟩:=st;exact⟨⟨o,k it UH o e,c,d⟩,l⟩
 item:=by
  intro X hP hw hK hc i Wx s σ H E I hf st hg;subst hP hw hK;obtain⟨f0,f1,f2,f3,f4,f5⟩:=hf it UH;have W:=Cc (P:=X.prog) (w:=X.w) (I.ok.hd hc) it z t;refine W.item i s _ _ hg st.1 λv h' tk hv st' kk=>?_;obtain⟨c,u,hc',rfl⟩:=hv;have I1:ag X Wx σ H {s with heap:=h',toks:=tk}:=I.turned (λb o hb e=>kk b o (by simpa using hb) e) f0 f1 f3 f4 f5;obtain⟨o,e,cc,d⟩:=id st';exact⟨_,rfl,sL (s:={s with heap:=h',toks:=tk}) e cc d (HW z) ⟨.str ⟨#[c]⟩,H,I1,⟨u,rfl⟩,⟨rfl,c,hc',rfl⟩,⟨st',hg⟩,λb hb=>(hf b hb).1⟩⟩
 done:=by
  intro X hP hw hK hc i Wx s σ H E I hf st hg;subst hP hw hK;obtain⟨f0,f1,f2,f3,f4,f5⟩:=hf it UH;have W:=Cc (P:=X.prog) (w:=X.w) (I.ok.hd hc) it z t;have e:i=z.cps.size:=Nat.le_antisymm st.2 hg;subst e;exact W.done s _ _ st.1 λh' tk eb=>⟨rfl,I.turned (λb o hb e=>eb b o (by simpa using hb) e) f0 f1 f3 f4 f5⟩
 self:=λA i s Q E st h=>by
  obtain⟨st,_⟩:=st
  revert st
  unfold V1;split
  ·exact λst=>wpAny_pyIter_striter_ascii st h
  ·exact λst=>wpAny_pyIter_striter_wide st h
def HY(tl:TE):TI:=λσ H R=>tl σ H λx H1=>∃z,x= .str z/\R (v7 z) H1
theorem HZ{X:Cx}{tg l:US}{tl:TE}(hl:PE X l tl):PI X tg l (HY tl):=by
 intro Wx s σ H R I h;refine ax (hl Wx s σ H _ I h) λv s1 ⟨x,H1,I1,r1,q1⟩=>?_;obtain⟨z,e,q⟩:=q1;subst e;obtain⟨t,rfl⟩:=r1;refine wpAny_pyIter_strU ?_;refine⟨s1.heap.objs.size,[s1.heap.objs.size],_,_,H1,rfl,I1.kept (t':=s1.toks) λb o e=>NK _ e,HX _ z t,⟨⟨_,N7 _ rfl,rfl,rfl⟩,PU _⟩,λb hb=>?_,q⟩;have e:b=s1.heap.objs.size:=by simpa using hb
 subst e;exact I1.fpOk (NV _) (I1.hok.fresh (NV _))
def qp(z:Str):List UI:=z.cps.toList.map λc=>.str ⟨#[c]⟩
theorem k6.str{z:Str}:k6 (v7 z) (λ_=>True) (z.cps.toList.map λc=>V.str ⟨#[c]⟩):=by
 refine⟨λi H' s hi=>(by simpa using hi:i < z.cps.size),λi H' x H'' s hi y=>⟨y.1,?_⟩,λi H' s hi=>(by simpa using hi:z.cps.size<=i)⟩;obtain⟨_,c,hc,rfl⟩:=y;simp [hc]
theorem aq.signs{K:NH}{H:Hp}{O:Ex}:∀(l:List Nat),aq K H O (l.map λc=>V.str ⟨#[c]⟩) (l.map λc=>NI ⟨#[c]⟩)
 | []=>.nil
 | n::r=>.cons (.str _) (aq.signs r)
section
variable {X:Cx} {H0:Hp} {O0:Ex}
def er(t:DT)(g:DG)(tc:DB)(te:DT)(k:Nat)(fr:List Nat):DA:=λδ Q=>t δ λd=>∃z,d= .str z/\z.length<=UR/\mw g tc te (bg k fr δ) (qp z) Q
def eD(ta:DA)(g:DG)(tc:DB)(te:DT)(k:Nat)(fr:List Nat):DA:=λδ Q=>ta δ λds=>∃i j:Int,ds=[.int i,.int j]/\-(2 ^ 62)<=i/\j - i < UR/\i < 2 ^ 62/\-(2 ^ 62)<=j/\j < 2 ^ 62/\mw g tc te (bg k fr δ) (kR i (j - i).toNat) Q
section
variable {tg iter elt:US} {ifs:List US} {scope:Vg} {N':List Str} {k:Nat} {fr:List Nat} {g:TG} {dg:DG} {t:DT} {ta:DA} {tc:DB} {te:DT} {pos p ps:Pos}
theorem tM(hc:X.calm=true)(S:fw X.env.scope X.N N' k fr scope)(hi:DF X H0 O0 iter t)(gd:GD X.K g dg)(hk:oE g k)(hfr:fr.Nodup)
 (hg:∀fp C s H,PG (jP X scope N' fp C s H) tg g)(hf:∀fp C s H,mq (jP X scope N' fp C s H) ifs (jQ X.K H0 O0 tc))(he:∀fp C s H,PE (jP X scope N' fp C s H) elt (up X.K H0 O0 te))
 (hs:∀x,Va iter X.env x=pure x:=by intro _;rfl):FE X H0 O0 (.ListComp elt [⟨tg,iter,ifs,0⟩] scope pos) (er t dg tc te k fr):=
 (pj hc S (HZ hi) hg hf he hs).imp λσ H Q uu63=>by obtain⟨O,δ,Qd,w,q,kk⟩:=uu63;exact⟨O,δ,_,w,q,λd v H1 uu64 s1 r1=>by
  obtain⟨z,e,hz,q1⟩:=uu64;subst e;cases r1.str;have hz':(z.cps.toList.map λc=>V.str ⟨#[c]⟩).length<=UR:=by rw [NS,N0];exact hz
  exact⟨z,rfl,λD hD=>rM (P:=λ_=>True) k6.str gd hfr (λv _ H' R h=>hk fr σ v H' R h) (λ_ _ _ z=>z) (λ_ _ _ z=>z) (λ_ _ _ _=>trivial) (aq.signs _) (w.mono s1) hz' q1 (λds us p H' z s' hp r'=>kk ds us p H' z (s1.trans s') hp r') D hD⟩⟩
theorem v9(hc:X.calm=true){a b:US}(S:fw X.env.scope X.N N' k fr scope)(hgl:Gl X "range")(hm:X.mg "range"=none)(ha:PA X [a,b] (me X.K H0 O0 ta))(gd:GD X.K g dg)(hk:oE g k)(hfr:fr.Nodup)
 (hg:∀fp C s H,PG (jP X scope N' fp C s H) tg g)(hf:∀fp C s H,mq (jP X scope N' fp C s H) ifs (jQ X.K H0 O0 tc))(he:∀fp C s H,PE (jP X scope N' fp C s H) elt (up X.K H0 O0 te))
 (hst:UQ [a,b] X.env=[(false,eval a X.env),(false,eval b X.env)]:=by rfl)(hst2:UQ [b] X.env=[(false,eval b X.env)]:=by rfl)(hs:∀x,Va (.Call (.Name "range" p) [a,b] [] ps) X.env x=pure x:=by intro _;rfl):
 FE X H0 O0 (.ListComp elt [⟨tg,(.Call (.Name "range" p) [a,b] [] ps),ifs,0⟩] scope pos) (eD ta dg tc te k fr):=
 (pj hc S (Bb hgl hm ha hst hst2) hg hf he hs).imp λσ H Q uu65=>by obtain⟨O,δ,Qd,w,q,kk⟩:=uu65;exact⟨O,δ,_,w,q,λds vs H1 uu66 s1 r1=>by
  obtain⟨i,j,e,b1,b2,b3,b4,b5,q1⟩:=uu66;subst e;cases r1 with
  | cons r1 r2=>
   cases r2 with
   | cons r2 r3=>
    cases r3;cases r1.int;cases r2.int;exact⟨i,j,rfl,⟨b1,b3,b4,b5⟩,λD hD=>rM (P:=λ_=>True) k6.rng gd hfr (λv _ H' R h=>hk fr σ v H' R h) (λ_ _ _ z=>z) (λ_ _ _ z=>z) (λ_ _ _ _=>trivial) (aq.rng _) (w.mono s1) (by rw [NS,QY];omega) q1 (λds us p H' z s' hp r'=>kk ds us p H' z (s1.trans s') hp r') D hD⟩⟩
end
def wj(K:NH)(neg:Bool):R2:=λx y H Q=>∃O dx ds dy,Sh K H O x dx/\Sh K H O y dy/\(dy= .list ds\/dy= .tuple ds)/\bu dx/\Pz ds=true/\Q (.bl (if neg then !(ds.any λd=>NT d dx) else ds.any λd=>NT d dx)) H
theorem tN{A:U1}{k:Nat}{xs:List UI}{d:UI}(hd:bu d)(hr:bH k A):A.units+1+min (QS xs) d.depth < cLine:=by
 have:=SeqAt.depth_of_shaped hd;have h1:min (QS xs) d.depth<=d.depth:=TH _ _;have:=hr.un;omega
theorem pG{k:Nat}(hr:bH k X.A):br X (U2 .In) (wj X.K false):=by
 intro Wx s σ H x y v u Q I rx ry h;obtain⟨O,dx,ds,dy,hx,hy,e,sx,sy,q⟩:=h;obtain⟨as,ra⟩:=mI I hx.all (Pp sx) rx;rcases e with e | e <;> subst e
 ·obtain⟨bs,rb⟩:=mI I hy.all (by simpa [Pe] using sy) ry;exact SeqAt.in_list_reads rb ra sy (Pp sx) (tN sx hr) (bD I q rfl)
 ·obtain⟨bs,rb⟩:=mI I hy.all (by simpa [Pe] using sy) ry;exact SeqAt.in_tuple_reads rb ra sy (Pp sx) (tN sx hr) (bD I q rfl)
theorem wk{k:Nat}(hr:bH k X.A):br X (U2 .NotIn) (wj X.K true):=by
 intro Wx s σ H x y v u Q I rx ry h;obtain⟨O,dx,ds,dy,hx,hy,e,sx,sy,q⟩:=h;obtain⟨as,ra⟩:=mI I hx.all (Pp sx) rx;rcases e with e | e <;> subst e
 ·obtain⟨bs,rb⟩:=mI I hy.all (by simpa [Pe] using sy) ry;exact SeqAt.notIn_list_reads rb ra sy (Pp sx) (tN sx hr) (bD I q rfl)
 ·obtain⟨bs,rb⟩:=mI I hy.all (by simpa [Pe] using sy) ry;exact SeqAt.notIn_tuple_reads rb ra sy (Pp sx) (tN sx hr) (bD I q rfl)
def eF(neg:Bool):UI->UI->(UI->Prop)->Prop:=λx y Q=>∃ds,(y= .list ds\/y= .tuple ds)/\bu x/\Pz ds=true/\Q (.bool (if neg then !(ds.any λd=>NT d x) else ds.any λd=>NT d x))
theorem ng{K:NH}{neg:Bool}:cN K (wj K neg) (eF neg):=λH O x y dx dy Qd R _ hx hy uu67 k=>by obtain⟨ds,e,a,b,q⟩:=uu67;exact⟨O,dx,ds,dy,hx,hy,e,a,b,k _ _ H q (ao.refl _) (.bl _)⟩
def eG:List UI->(UI->Prop)->Prop:=λds Q=>∃z:Str,ds=[.str z]/\z.length<=UR/\Q (.int z.length)
theorem nh{K:NH}:mJ K (λxs H Q=>∃z,xs=[.str z]/\z.length<=UR/\Q (.int z.length) H) eG:=λH O xs ds Qd R _ hs uu68 k=>by
 obtain⟨z,e,hz,q⟩:=uu68;subst e;cases hs with
 | cons h r=>cases r;cases h.str;exact⟨z,rfl,hz,k _ _ H q (ao.refl _) (.int _)⟩
def eJ:UI->UI->(UI->Prop)->Prop:=λx y Q=>∃i j:Str,x= .str i/\y= .str j/\Q (.bool (decide (i.cps.toList < j.cps.toList)))
theorem Ia{K:NH}:cN K (λx y H Q=>∃i j,x= .str i/\y= .str j/\Q (.bl (decide (i.cps.toList < j.cps.toList))) H) eJ:=λH O x y dx dy Qd R _ hx hy uu69 k=>by
 obtain⟨i,j,e1,e2,q⟩:=uu69;subst e1 e2;cases hx.str;cases hy.str;exact⟨i,j,rfl,rfl,k _ _ H q (ao.refl _) (.bl _)⟩
def eL:UI->UI->(UI->Prop)->Prop:=λx y Q=>∃i j:Str,x= .str i/\y= .str j/\Q (.bool (!(Qe j i 0 j.length 1).isEmpty))
theorem tO{K:NH}:cN K (λx y H Q=>∃i j,x= .str i/\y= .str j/\Q (.bl (!(Qe j i 0 j.length 1).isEmpty)) H) eL:=λH O x y dx dy Qd R _ hx hy uu70 k=>by
 obtain⟨i,j,e1,e2,q⟩:=uu70;subst e1 e2;cases hx.str;cases hy.str;exact⟨i,j,rfl,rfl,k _ _ H q (ao.refl _) (.bl _)⟩
theorem Ib{prog:UX}{w:UZ}{A:U1}{E:UJ->UM->Prop}{s:UM}{t sl:UL}{items:Array UJ}{vl vu:UJ}{lo hi:Option Int}{Q:UJ->UM->Prop}(ht:IsTup s.heap t items)(hs:s.heap.IsSliceOf sl vl vu .none)(pl:IsPart vl lo)(pu:IsPart vu hi)
 (hw:HT.sIx items.size 0 lo=0/\HT.sIx items.size items.size hi=items.size)(h:Q (.ref t) s):UO (UP prog w) A (V9 (.ref t) (.ref sl)) Q E s:=by
 obtain⟨os,hos,hcs,hds⟩:=id hs;have hTs:s.TypeIs (.ref sl) "slice":=⟨os,hos,hcs⟩;unfold V9
 try with_reducible refine Vc ?_
 first | refine UK (UN ?_) | skip
 refine UK (wpAny_sequenceKey ht.typeIs Ce ?_);refine UK (U5 (name:=NG "__getitem__") ht.typeIs Qo
  (U8 Qo ht.typeIs PyProof.Rows.entry_tuple_getitem ?_ (PyProof.Rows.args_tuple_getitem _ _)))
 show UO _ _ (R1 (.ref t) >>=_) _ _ s;refine UK (tupleItemsOf_ ht ?_);refine UK (We hTs ?_);rw [UE Ce];refine UK (HT.sliceApplied_gen hs pl pu ?_);show UO _ _ (if (((HT.sIx items.size 0 lo:Nat):Int)==0 && (1:Int)==1 && (HT.sIx items.size items.size hi - HT.sIx items.size 0 lo)==items.size)=true then _ else _) _ _ s;rw [UE (by rw [hw.1,hw.2];simp)];unfold Builtin.Tuple.tupleIsExact;refine UK (UK (We ht.typeIs (UN ?_)));rw [UE Ce];exact UK (VO (UN ⟨_,rfl,UN h⟩))
def Ic(K:NH):V->Option Int->Option Int->Hp->VK->Prop:=λx lo hi H Q=>∃a xs,x= .ref a/\aX K H a xs/\
 ((HT.sIx xs.length 0 lo=0/\HT.sIx xs.length xs.length hi=xs.length)->Q x H)/\(¬(HT.sIx xs.length 0 lo=0/\HT.sIx xs.length xs.length hi=xs.length)->∀p,H p=none->Q (.ref p) (ak H p (.tup (nP xs lo hi))))
theorem Ie:rD X (Ic X.K):=by
 intro Wx s σ H x v vl vu lo hi sl Q I rx hs pl pu h;obtain⟨a,xs,rfl,hx,q1,q2⟩:=h;by_cases hw:HT.sIx xs.length 0 lo=0/\HT.sIx xs.length xs.length hi=xs.length
 ·cases rx;obtain⟨its,r,ht,hz⟩:=I.tuple hx;have hlen:its.toArray.size=xs.length:=by rw [Ot];exact r.length.symm
  refine⟨"tuple",_,Qo.lookup,ht.typeIs,?_⟩;exact Ib ht hs pl pu (by rw [hlen];exact hw) ⟨.ref a,H,I,rfl,q1 hw⟩
 ·exact Gk Wx s σ H _ v vl vu lo hi sl Q I rx hs pl pu ⟨a,xs,rfl,hx,hw,q2 hw⟩
theorem Ig{xs:List UI}{l u:Option Int}(h:HT.sIx xs.length 0 l=0/\HT.sIx xs.length xs.length u=xs.length):bx xs l u=xs:=by
 unfold bx;rw [h.1,h.2];simp
def eM(t:DT)(tl th:DO):DT:=λδ Q=>t δ λd=>tl δ λl=>th δ λu=>∃xs,d= .tuple xs/\Q (.tuple (bx xs l u))
theorem wm{e:US}{lo hi:Option US}{t:DT}{tl th:DO}{pos p2:Pos}(h:DF X H0 O0 e t)(hl:PO X lo (nV X.K H0 O0 tl))(hu:PO X hi (nV X.K H0 O0 th)):DE X H0 O0 (.Subscript e (.Slice lo hi none p2) pos) (eM t tl th):=
 (vH Ie h hl hu).imp λσ H Q ⟨O,δ,Qd,w,q,k⟩=>⟨O,δ,_,w,q,λd v H1 q1 s1 r1=>⟨O,δ,_,w.mono s1,q1,λl H2 q2 s2=>⟨O,δ,_,w.mono (s1.trans s2),q2,λu H3 uu72 s3=>by
  obtain⟨xs,e,q3⟩:=uu72;subst e;have r3:=r1.mono (s2.trans s3);have r4:=r3;obtain⟨a,vs,rfl,h1,d1⟩:=r4.tup;refine⟨a,vs,rfl,h1,λhw=>?_,λ_ p hp=>k _ _ _ q3 (s1.trans (s2.trans (s3.trans (ao.new hp)))) (.tup (.inl bh) (tu w (s1.trans (s2.trans s3)) hp) ((d1.cut l u).mono (ao.new hp)))⟩;rw [d1.length] at hw;rw [Ig hw] at q3;cases r3 with
  | dt r3=>exact k _ _ _ q3 (s1.trans (s2.trans s3)) r3⟩⟩⟩
def lD(a b:Str):Bool:=decide (a.cps.toList<=b.cps.toList)
def kL(l:List Str):List Str:=l.mergeSort lD
theorem Cd(a b c:Str)(h:lD a b=true)(h':lD b c=true):lD a c=true:=
 decide_eq_true (List.le_trans (of_decide_eq_true h) (of_decide_eq_true h'))
theorem Ih(a b:Str):(lD a b || lD b a)=true:=by
 rcases List.le_total a.cps.toList b.cps.toList with h | h
 ·unfold lD;rw [decide_eq_true h];rfl
 ·unfold lD;rw [decide_eq_true h,Si]
theorem Ii{a b:Str}(h:a.cps.toList=b.cps.toList):a=b:=by
 cases a;cases b;congr 1;exact TY h
theorem Cf{a b:Str}(h:lD a b=true)(h':lD b a=true):a=b:=Ii (List.le_antisymm (of_decide_eq_true h) (of_decide_eq_true h'))
theorem tP(l:List Str):(kL l).Perm l:=List.mergeSort_perm l lD
theorem Cg(l:List Str):(kL l).Pairwise λa b=>lD a b=true:=List.pairwise_mergeSort Cd Ih l
theorem wq{l m:List Str}(h:m.Perm l)(p:m.Pairwise λa b=>lD a b=true):m=kL l:=
 List.Perm.eq_of_pairwise (λa b _ _ x y=>Cf x y) p (Cg l) (h.trans (tP l).symm)
theorem Ci:∀(p:Str)(l:List Str),risingS p l=true->(p::l).Pairwise λa b=>lD a b=true
 | p,[],_=>by simp
 | p,x::r,h=>by
  rw [risingS,Oo,N1,ltCps_eq,decide_eq_false_iff_not] at h;have h1:lD p x=true:=decide_eq_true (Us.mp h.1);have h2:=Ci x r h.2;rw [QU];refine⟨λy hy=>?_,h2⟩;rcases NO.mp hy with z | z
  ·rw [z];exact h1
  ·exact Cd p x y h1 ((QU.mp h2).1 y z)
theorem Cj:∀(l:List Str),sortedS l=true->l.Pairwise λa b=>lD a b=true
 | [],_=>.nil
 | x::r,h=>Ci x r h
theorem wt:∀{ys:List Str}{us:List UJ},aG (ys.map V.str) us->Ve us ys:=by
 intro ys
 induction ys with
 | nil=>intro us rv;cases rv;exact .nil
 | cons y ys ih=>
  intro us rv;rw [NN] at rv;cases rv with
  | cons r1 r2=>obtain⟨t,rfl⟩:=r1;exact .cons y t (ih r2)
theorem wu:∀{ys:List Str}{us:List UJ},Ve us ys->aG (ys.map V.str) us
 | _,_,.nil=>.nil
 | _,_,.cons y t r=>.cons ⟨t,rfl⟩ (wu r)
theorem Ij:kq X (.builtin "sorted") (λxs H Q=>∃p ss,xs=[.ref p]/\bj X.K H p (ss.map V.str)/\ss.length < 64/\∀l,H l=none->Q (.ref l) (ak H l (.lst ((kL ss).map V.str)))):=by
 intro Wx s σ H xs us Q I r h;obtain⟨p,ss,rfl,hq,h64,q⟩:=h;obtain⟨u,rfl,rx⟩:=kY r;cases rx;obtain⟨its,rv,pl,hz⟩:=I.list hq;have hlen:=rv.length;rw [NS] at hlen;refine sorted_strs pl.isList (wt rv) UC λout ss' a1 a2 a3=>?_;obtain⟨e,he⟩:=sortedAll_at s.heap its out;have es:ss'=kL ss:=wq a2 (Cj _ a3);subst es;have hl2:(kL ss).length=ss.length:=a2.length_eq;refine⟨.ref _,_,I.laid (t':=s.toks) (o:= .lst ((kL ss).map V.str)) (λb ob q=>sortedAll_old q) (Q7 _) ?_,rfl,q _ (I.hok.fresh (Q7 _))⟩;refine⟨by rw [NS,hl2];exact OB (Rf h64) Ce,out.toList,e,wu a1,?_⟩;rw [he]
theorem aq.strs{K:NH}{H:Hp}{O:Ex}:∀{ss:List Str}{vs:List V},aq K H O vs (ss.map NI)->vs=ss.map V.str
 | [],_,r=>by rw [Of] at r;cases r;rfl
 | b::bs,_,r=>by
  rw [NN] at r;cases r with
  | cons h r=>cases h;rw [NN,aq.strs r]
theorem aq.ofStrs{K:NH}{H:Hp}{O:Ex}:∀(ss:List Str),aq K H O (ss.map V.str) (ss.map NI)
 | []=>.nil
 | s::r=>.cons (.str s) (aq.ofStrs r)
def eN(t:DA):DA:=λδ Q=>t δ λds=>∃ss:List Str,ds=[.list (ss.map .str)]/\ss.length < 64/\Q ((kL ss).map .str)
theorem Ik{a:US}{t:DA}{np p:Pos}(hg:Gl X "sorted")(hm:X.mg "sorted"=none)(hv:U4 "sorted"=some (.builtin "sorted"))(ha:PA X [a] (me X.K H0 O0 t))(he:UQ [a] X.env=(false,eval a X.env)::UQ [] X.env:=by rfl)(hpl:(U7 p (UQ [] X.env)).any (·.1)=false:=by rfl):FE X H0 O0 (.Call (.Name "sorted" np) [a] [] p) (eN t):=
 (aT Ij hg hm hv ha (he:=he) (hpl:=hpl)).imp λσ H Q uu73=>by obtain⟨O,δ,Qd,w,q,k⟩:=uu73;exact⟨O,δ,_,w,q,λds vs H1 uu74 s1 r1=>by
  obtain⟨ss,e,h64,q1⟩:=uu74;subst e;cases r1 with
  | cons h r=>
   cases r;obtain⟨a,us,rfl,h1,d1⟩:=h.lst;cases d1.strs;exact⟨a,ss,rfl,h1,h64,λl hl=>k _ _ _ _ q1 s1 hl (aq.ofStrs _)⟩⟩
end
end L2
namespace PySem.SeqAt
open AutoSeq1 (wpAny_loadPart')
open MeetsSeq
theorem Ck(l:UL)(es:Array Wm)(n:Nat)(dd:Option UL)(sl:Array (Option UJ))(b:Str)(u:Tok):
 Meets (Builtin.«dict.__eq__» ⟨[.ref l,.str b u],[]⟩) (λ_ R s=>s.heap.get? l=some {cls:= .type "dict",dict:=dd,data:= .dict es n,slots:=sl}/\R (.ok (.ret .notImplemented)) s):=
 .of_wp λprog w A R s h=>by obtain⟨hp,g,d,tk,os⟩:=s;obtain⟨hl,h⟩:=h;have f1:=F.sub_str_dict;wp_walk using Vo hl;exact⟨_,rfl,h⟩
theorem Cm(b:Str)(u:Tok)(l:UL)(c:UJ)(es:Array Wm)(n:Nat)(dd:Option UL)(sl:Array (Option UJ)):
 Meets (Builtin.«str.__eq__» ⟨[.str b u,.ref l],[]⟩) (λ_ R s=>s.heap.get? l=some {cls:=c,dict:=dd,data:= .dict es n,slots:=sl}/\R (.ok (.ret .notImplemented)) s):=
 .of_wp λprog w A R s h=>by obtain⟨hp,g,d,tk,os⟩:=s;obtain⟨hl,h⟩:=h;wp_walk using Vo hl,wpAny_load hl;exact⟨_,rfl,h⟩
section
variable {A:U1} {s:UM}
theorem RcAt.dict_str{l:UL}{es:Array Wm}{n:Nat}{o:Obj}(b:Str)(u:Tok)(ho:s.heap.get? l=some o)(hc:o.cls= .type "dict")(hd:o.data= .dict es n)(hu:A.units < cLine):RcAt A s (.ref l) (.str b u) false:=λprog w E Q h=>by
 obtain⟨cls,dd,data,sl⟩:=o;simp only at hc hd;subst hc hd;exact rc_eq_decline_or (k:=false) ⟨_,ho,rfl⟩ (VA s b u) Ce F.sub_str_dict F.slot_dict_eq F.slot_str_eq_refl
  (λ_ hq=>VB F.slot_dict_eq ⟨_,ho,rfl⟩ F.entry_dict_eq (F.args_dict_eq_2 _ _) (Ck l es n dd sl b u) ⟨ho,hq⟩)
  (λ_ hq=>VB F.slot_str_eq_refl (VA s b u) F.entry_str_eq (F.args_str_eq_2 _ _) (Cm b u l (.type "dict") es n dd sl) ⟨ho,hq⟩)
  (λ_ hq=>V2 (rfl:isSame (.ref l) (.str b u)=pure false) hq) (.inr hu) h
theorem RcAt.str_dict{l:UL}{es:Array Wm}{n:Nat}{o:Obj}(b:Str)(u:Tok)(ho:s.heap.get? l=some o)(hc:o.cls= .type "dict")(hd:o.data= .dict es n)(hu:A.units < cLine):RcAt A s (.str b u) (.ref l) false:=λprog w E Q h=>by
 obtain⟨cls,dd,data,sl⟩:=o;simp only at hc hd;subst hc hd;exact rc_eq_decline_or (k:=false) (VA s b u) ⟨_,ho,rfl⟩ Ce F.sub_dict_str F.slot_str_eq F.slot_dict_eq_refl
  (λ_ hq=>VB F.slot_str_eq (VA s b u) F.entry_str_eq (F.args_str_eq_2 _ _) (Cm b u l (.type "dict") es n dd sl) ⟨ho,hq⟩)
  (λ_ hq=>VB F.slot_dict_eq_refl ⟨_,ho,rfl⟩ F.entry_dict_eq (F.args_dict_eq_2 _ _) (Ck l es n dd sl b u) ⟨ho,hq⟩)
  (λ_ hq=>V2 (rfl:isSame (.str b u) (.ref l)=pure false) hq) (.inr hu) h
theorem EqAt.str_dict{l:UL}{es:Array Wm}{n:Nat}{o:Obj}(b:Str)(u:Tok)(ho:s.heap.get? l=some o)(hc:o.cls= .type "dict")(hd:o.data= .dict es n)(hu:A.units < cLine):EqAt A s (.str b u) (.ref l) false:=λprog w E Q h=>by
 unfold eqBool;refine Vc ?_;refine Wf (λhab=>absurd (eq_of_beq hab) nofun) (λ_=>?_);exact UK (RcAt.str_dict b u ho hc hd hu prog w E _ (U9 h))
end
end PySem.SeqAt
namespace L2
open PySem PySem.Spec PyProof.Rows PySem.W
section
variable {X:Cx} {Wx:List (UL×Obj)} {σ:St} {H:Hp} {s:UM}
def kz:UI->Bool
 | .dict [(.none,_)]=>false
 | _=>true
theorem Il(I:ag X Wx σ H s){O:Ex}{v:V}{d:UI}{u:UJ}(h:Dt X.K H O v d)(ht:kz d=true)(r:aD v u)(y:Str)(t:Tok)(hu:X.A.units < cLine):SeqAt.RcAt X.A s u (.str y t) (NT d (.str y)):=by
 cases h with
 | non=>cases (show u=Qa from r);simpa [NT] using SeqAt.RcAt.none_str y t
 | bl b=>cases (show u=QD b from r);simpa [NT] using SeqAt.RcAt.bool_str b y t
 | int i=>obtain⟨k,e⟩:=(show ∃t,u=RH i t from r);cases e;simpa [NT] using SeqAt.RcAt.int_str i k y t
 | str x=>obtain⟨k,e⟩:=(show ∃t,u=Q4 x t from r);cases e;simpa [NT] using SeqAt.RcAt.str_str x k y t
 | @tup a xs ds h n rr=>
  cases (show u=Oz a from r);obtain⟨its,rv,p,_⟩:=I.tuple (.inl h);simpa [NT] using SU y t (show s.heap.IsTuple a its.toArray from p) hu
 | @tupK a xs ds h rr=>
  cases (show u=Oz a from r);obtain⟨its,rv,p,_⟩:=I.tuple h.of0;simpa [NT] using SU y t (show s.heap.IsTuple a its.toArray from p) hu
 | @lst a xs ds h n rr=>
  cases (show u=Oz a from r);obtain⟨its,rv,p,_⟩:=I.list (.inl h);simpa [NT] using SeqAt.RcAt.list_str y t p.isList hu
 | pack h n=>exact absurd ht (by simp [kz])
 | purse h n=>exact absurd ht (by simp [kz])
 | scr h r=>exact absurd ht (by simp [kz])
 | obj h e n r=>exact absurd ht (by simp [kz])
 | @dct0 a h n=>
  cases (show u=Oz a from r);obtain⟨_,_,_,_,o,es,ep,e,c,dd,_⟩:=(show bE X.prog X.w H s.heap a (.dK []) from I.hok a _ h);simpa [NT] using SeqAt.RcAt.dict_str y t e c.1 dd hu
 | @dic a ob kv ks kp ds h e1 e2 n rr=>
  cases (show u=Oz a from r);obtain⟨_,_,_,_,o,es,ep,e,c,dd,_⟩:=(show bE X.prog X.w H s.heap a (.dK kv) from(I.hok a _ h).2);simpa [NT] using SeqAt.RcAt.dict_str y t e c.1 dd hu
theorem Im(I:ag X Wx σ H s){A:U1}{O:Ex}{v:V}{d:UI}{u:UJ}(h:Dt X.K H O v d)(ht:kz d=true)(r:aD v u)(y:Str)(t:Tok)(hu:A.units < cLine):SeqAt.EqAt A s (.str y t) u (NT (.str y) d):=by
 cases h with
 | non=>cases (show u=Qa from r);simpa [NT] using SeqAt.EqAt.str_none y t
 | bl b=>cases (show u=QD b from r);simpa [NT] using SeqAt.EqAt.str_bool y t b
 | int i=>obtain⟨k,e⟩:=(show ∃t,u=RH i t from r);cases e;simpa [NT] using S9 y t i k
 | str x=>obtain⟨k,e⟩:=(show ∃t,u=Q4 x t from r);cases e;simpa [NT] using SeqAt.EqAt.str_str y t x k
 | @tup a xs ds h n rr=>
  cases (show u=Oz a from r);obtain⟨its,rv,p,_⟩:=I.tuple (.inl h);simpa [NT] using SV y t (show s.heap.IsTuple a its.toArray from p) hu
 | @tupK a xs ds h rr=>
  cases (show u=Oz a from r);obtain⟨its,rv,p,_⟩:=I.tuple h.of0;simpa [NT] using SV y t (show s.heap.IsTuple a its.toArray from p) hu
 | @lst a xs ds h n rr=>
  cases (show u=Oz a from r);obtain⟨its,rv,p,_⟩:=I.list (.inl h);simpa [NT] using SeqAt.EqAt.str_list y t p.isList hu
 | pack h n=>exact absurd ht (by simp [kz])
 | purse h n=>exact absurd ht (by simp [kz])
 | scr h r=>exact absurd ht (by simp [kz])
 | obj h e n r=>exact absurd ht (by simp [kz])
 | @dct0 a h n=>
  cases (show u=Oz a from r);obtain⟨_,_,_,_,o,es,ep,e,c,dd,_⟩:=(show bE X.prog X.w H s.heap a (.dK []) from I.hok a _ h);simpa [NT] using SeqAt.EqAt.str_dict y t e c.1 dd hu
 | @dic a ob kv ks kp ds h e1 e2 n rr=>
  cases (show u=Oz a from r);obtain⟨_,_,_,_,o,es,ep,e,c,dd,_⟩:=(show bE X.prog X.w H s.heap a (.dK kv) from(I.hok a _ h).2);simpa [NT] using SeqAt.EqAt.str_dict y t e c.1 dd hu
end
section
variable {X:Cx} {H0:Hp} {O0:Ex}
def Cn(K:NH):R2:=λx y H Q=>∃O dx z,Dt K H O x dx/\kz dx=true/\y= .str z/\Q (.bl (NT dx (.str z))) H
theorem ki{k:Nat}(hr:bH k X.A):br X (U2 .Eq) (Cn X.K):=by
 intro Wx s σ H x y v u Q I rx ry h;obtain⟨O,dx,z,hx,ht,rfl,q⟩:=h;obtain⟨t,rfl⟩:=ry;have hc:U2 .Eq v (.str z t)=richCompare .Eq v (.str z t):=rfl;rw [hc];exact Il I hx ht rx z t hr.units0 X.prog X.w X.xe _ (bD I q rfl)
def bY:UI->UI->(UI->Prop)->Prop:=λx y Q=>∃z,y= .str z/\kz x=true/\Q (.bool (NT x (.str z)))
theorem kj{K:NH}:cN K (Cn K) bY:=λH O x y dx dy Qd R _ hx hy uu75 k=>by
 obtain⟨z,e,ht,q⟩:=uu75;subst e;cases hy.str;exact⟨_,dx,z,hx.all,ht,rfl,k _ _ H q (ao.refl _) (.bl _)⟩
theorem Io(dx:UI){its:List UJ}{zs:List Str}(hS:Ve its zs):its.any (λy=>NT (.str (strOf y)) dx)=zs.any λz=>NT (.str z) dx:=by
 induction hS with
 | nil=>rfl
 | cons y t r ih=>rw [OD,OD,ih];rfl
def Co(K:NH):R2:=λx y H Q=>∃(O:Ex)(dx:UI)(zs:List Str)(a:UL),Dt K H O x dx/\kz dx=true/\y= .ref a/\aX K H a (zs.map V.str)/\Q (.bl (zs.any λz=>NT (.str z) dx)) H
theorem pH{k:Nat}(hr:bH k X.A):br X (U2 .In) (Co X.K):=by
 intro Wx s σ H x y v u Q I rx ry h;obtain⟨O,dx,zs,a,hx,ht,rfl,ha,q⟩:=h;cases ry;obtain⟨its,rv,p,_⟩:=I.tuple ha;have hS:=wt rv;have hl:=Io dx hS;refine SeqAt.in_tupleAt (λy=>NT (.str (strOf y)) dx) (show s.heap.IsTuple a its.toArray from p) (λy hy=>?_) (by rw [List.any_toArray,hl];exact bD I q rfl);obtain⟨z,t,rfl⟩:=hS.all y (by simpa using hy);exact Im I hx ht rx z t (by show X.A.units+1 < cLine;have:=hr.un;omega)
def eO:UI->UI->(UI->Prop)->Prop:=λx y Q=>∃zs:List Str,y= .tuple (zs.map .str)/\kz x=true/\Q (.bool (zs.any λz=>NT (.str z) x))
theorem pI{K:NH}:cN K (Co K) eO:=λH O x y dx dy Qd R _ hx hy uu76 k=>by
 obtain⟨zs,e,ht,q⟩:=uu76;subst e;obtain⟨a,vs,rfl,hs,r⟩:=hy.tup;cases r.strs;exact⟨_,dx,zs,a,hx.all,ht,rfl,hs,k _ _ H q (ao.refl _) (.bl _)⟩
end
theorem bL{z:Int}{Q:UI->Prop}:vZ [lT,.int z] Q↔(0 < z/\z<=1000000/\∀i:Int,0<=i->i < z->Q (.int i)):=by
 constructor
 ·rintro⟨z',e,a,b,c⟩;simp only [NQ,Oq,and_true,true_and] at e;subst e;exact⟨a,b,c⟩
 ·rintro⟨a,b,c⟩;exact⟨z,rfl,a,b,c⟩
def rR:UI->Bool | .str _=>true | _=>false
def Cp:UI->Bool | .int _=>true | .bool _=>true | _=>false
def rS:UI->Bool | .bool _=>true | _=>false
def oI:UI->Bool | .tuple _=>true | _=>false
theorem wz{K:NH}(d:UI):kitOne K (.type (qk d)) (.type "str")=some (rR d):=by cases d <;> rfl
theorem Ip{K:NH}(d:UI):kitOne K (.type (qk d)) (.type "int")=some (Cp d):=by cases d <;> rfl
theorem wA{K:NH}(d:UI):kitOne K (.type (qk d)) (.type "bool")=some (rS d):=by cases d <;> rfl
theorem tQ{K:NH}(d:UI):kitOne K (.type (qk d)) (.type "tuple")=some (oI d):=by cases d <;> rfl
mutual
def bp:UI->Bool
 | .dict []=>true
 | .dict (_::_)=>false
 | .str z=>decide (z.length<=1000)
 | .tuple l=>lO l
 | .list l=>lO l
 | .none=>true
 | .bool _=>true
 | .int _=>true
def lO:List UI->Bool
 | []=>true
 | d::r=>bp d && lO r
end
theorem qr{d:UI}(h:bp d=true):∀x,d≠ .dict [(.none,x)]:=by
 rintro x rfl;simp [bp] at h
theorem pJ{d:UI}(h:bp d=true):kz d=true:=by
 unfold kz;split
 ·simp [bp] at h
 ·rfl
theorem Cq:∀{l:List UI}{d:UI},lO l=true->d∈l->bp d=true
 | e::r,d,h,m=>by
  rw [lO,Oo] at h;rcases NO.mp m with z | z
  ·rw [z];exact h.1
  ·exact Cq h.2 z
theorem rT{l:List UI}(h:bp (.tuple l)=true):∀d∈l,bp d=true:=λd hd=>Cq (by simpa [bp] using h) hd
theorem Iq{z:Str}(h:bp (.str z)=true):z.length<=1000:=by simpa [bp] using h
def lq(zs:List Str)(d:UI):Bool:=zs.any λz=>NT (.str z) d
def qt:UI->Bool | .int _=>true | _=>false
def my:UI->Bool | .int i=>decide (0<=i) && decide (i<=99999) | _=>false
def cj:UI->Bool | .str z=>decide (1<=z.length) && decide (z.length<=8) && z.cps.toList.all (λc=>decide (c∈kS.cps.toList)) | _=>false
def lV:UI->Bool
 | .tuple [a]=>NT a (.str "coming")
 | .tuple [a,b]=>lq ["first","last"] a && cj b
 | _=>false
def rV:UI->Bool | .int i=>decide (0<=i) && decide (i<=999) | _=>false
def qu(m u:UI):Bool:=rV m && lq ["days","months","years"] u
def lP:UI->Bool
 | .tuple [a,b]=>lq ["while","follow","leave"] a && cj b
 | .tuple [a,b,c,d,e]=>lq ["keep","gone"] a && cj b && (lV c && qu d e)
 | _=>false
def tR:UI->UI->Bool | .str a,.str b=>decide (a.cps.toList < b.cps.toList) | _,_=>false
def mM:List UI->Bool
 | a::b::r=>tR a b && mM (b::r)
 | _=>true
def oJ:UI->Bool | .tuple l=>decide (l.length<=4) && (l.all cj && mM l) | _=>false
def mz:UI->Bool | .tuple [a,b]=>lq ["paper","kind"] a && cj b | _=>false
def nX(w:UI)(ps:List UI):Bool:=
 if lq ["end","lift"] w then ps.length==0
 else if lq ["happens","leave"] w then(match ps with | [a]=>cj a | _=>false)
 else if NT w (.str "rule") then(match ps with | [a]=>lP a | _=>false)
 else if NT w (.str "paper") then(match ps with | [a,b]=>cj a && oJ b | _=>false)
 else if NT w (.str "hold") then(match ps with | [a,b]=>mz a && rS b | _=>false)
 else false
def lr:UI->Bool
 | .tuple (w::n::x::r)=>my n && cj x && nX w r
 | _=>false
structure Nm (z:Str):Prop where
 lo:1<=z.length
 hi:z.length<=8
 ab:∀c∈z.cps.toList,c∈kS.cps.toList
theorem Nm.is{z:Str}(h:Nm z):cj (.str z)=true:=by
 simp only [cj,decide_eq_true h.lo,decide_eq_true h.hi,Od,Pg,decide_eq_true_eq];exact h.ab
theorem mB{d:UI}(h:cj d=true):∃z,d= .str z/\Nm z:=by
 cases d with
 | str z=>
  simp only [cj,Oo,decide_eq_true_eq,Pg] at h;exact⟨z,rfl,h.1.1,h.1.2,h.2⟩
 | _=>simp [cj] at h
theorem Nm.ok{z:Str}(h:Nm z):Pc z=true:=mZ.mpr λc hc=>rP c (h.ab c hc)
theorem pK{g:DG}{te:DT}{δ0:Dl}{xs:List UI}{Q:List UI->Prop}(f:UI->UI)
 (h:∀x∈xs,∀R:UI->Prop,R (f x)->g x δ0 λδ2=>te δ2 R)(q:Q (xs.map f)):mw g bS te δ0 xs Q:=by
 refine⟨λi acc=>acc=(xs.take i).map f,rfl,?_,?_⟩
 ·rintro i x acc hx rfl;have:=h x (PL hx) (λy=>(xs.take i).map f++[y]=(xs.take (i+1)).map f) (by rw [T6,hx];simp);simpa [bS] using this
 ·rintro acc rfl;rw [Po (NV _)];exact q
theorem Ir{g:DG}{te:DT}{δ0:Dl}{xs:List UI}{Q:List UI->Prop}(P:UI->Prop)
 (h:∀x∈xs,∀R:UI->Prop,(∀y,P y->R y)->g x δ0 λδ2=>te δ2 R)(q:∀ys,ys.length=xs.length->(∀y∈ys,P y)->Q ys):mw g bS te δ0 xs Q:=by
 refine⟨λi acc=>acc.length=i/\∀y∈acc,P y,⟨rfl,UH⟩,?_,?_⟩
 ·rintro i x acc hx ⟨hl,ha⟩;have:=h x (PL hx) (λy=>(acc++[y]).length=i+1/\∀z∈acc++[y],P z) (λy hy=>⟨by simp [hl],λz hz=>by
   rcases P5.mp hz with m | m
   ·exact ha z m
   ·rw [PM] at m;rw [m];exact hy⟩)
  simpa [bS] using this
 ·rintro acc ⟨hl,ha⟩;exact q acc hl ha
theorem pL{g:DG}{te:DT}{δ0:Dl}{xs:List UI}{p:Bool->Prop}{gg:List Bool->Bool}(f:UI->Bool)
 (h:∀x∈xs,∀R:UI->Prop,R (.bool (f x))->g x δ0 λδ2=>te δ2 R)(q:p (gg (xs.map f))):mw g bS te δ0 xs λds=>∃bs:List Bool,ds=bs.map RC/\p (gg bs):=
 pK (λx=>.bool (f x)) h ⟨xs.map f,by rw [Pu];rfl,q⟩
theorem fR{a:Str}{P:List Str->Prop}:(∃zs,[NI a]=Pd NI zs/\P zs)↔P [a]:=by
 refine⟨λ⟨zs,e,h⟩=>?_,λh=>⟨_,rfl,h⟩⟩
 match zs,e with
 | [x],e=>simp at e;rw [e];exact h
theorem fS{a b:Str}{P:List Str->Prop}:(∃zs,[NI a,NI b]=Pd NI zs/\P zs)↔P [a,b]:=by
 refine⟨λ⟨zs,e,h⟩=>?_,λh=>⟨_,rfl,h⟩⟩
 match zs,e with
 | [x,y],e=>simp at e;rw [e.1,e.2];exact h
theorem fT{a b c:Str}{P:List Str->Prop}:(∃zs,[NI a,NI b,NI c]=Pd NI zs/\P zs)↔P [a,b,c]:=by
 refine⟨λ⟨zs,e,h⟩=>?_,λh=>⟨_,rfl,h⟩⟩
 match zs,e with
 | [x,y,z],e=>simp at e;rw [e.1,e.2.1,e.2.2];exact h
theorem rW(d:UI):(∃l,d= .tuple l)\/(∀l,d≠ .tuple l):=by
 cases d <;> simp
theorem Cr{d:UI}(h:∀l,d≠ .tuple l):oI d=false:=by
 cases d with
 | tuple l=>exact absurd rfl (h l)
 | _=>rfl
def k7(d:UI)(n:Int):Bool:=match d with | .tuple l=>decide ((l.length:Int)=n) | _=>false
theorem wB{d:UI}(h:∀l,d≠ .tuple l)(n:Int):k7 d n=false:=by
 cases d with
 | tuple l=>exact absurd rfl (h l)
 | _=>rfl
theorem bZ{x:Str}:kz (.str x)=true:=rfl
theorem fU{x:Int}:kz (.int x)=true:=rfl
theorem fV{x:Bool}:kz (.bool x)=true:=rfl
theorem fW{x:List UI}:kz (.tuple x)=true:=rfl
theorem fX{x:List UI}:kz (.list x)=true:=rfl
theorem Iu(l u:Option Int)(n:Nat):RT l u 1 n=(PH (HT.sIx n n u - HT.sIx n 0 l)).map (HT.sIx n 0 l+·):=by
 unfold RT sliceRange;have c:∀(o:Option Int)(d:Nat),(match o with | none=>(d:Int) | some i=>max 0 (min (if i < 0 then i+(n:Int) else i) (n:Int)))=((HT.sIx n d o:Nat):Int):=by
  intro o d;cases o with
  | none=>rfl
  | some v=>
   show max 0 (min (if v < 0 then v+(n:Int) else v) (n:Int))=(((if v < 0 then(v+(n:Int)).toNat else min v.toNat n):Nat):Int);by_cases hv:v < 0
   ·rw [UE hv,UE hv];omega
   ·rw [UD hv,UD hv];omega
 have c0:=c l 0;have c1:=c u n;simp only [show(1:Int) > 0 by decide,if_true] at c0 c1⊢;simp only [Int.natCast_zero] at c0;have key:∀a b:Int,a=((HT.sIx n 0 l:Nat):Int)->b=((HT.sIx n n u:Nat):Int)->((PH (if a < b then(b - a+1 - 1)/ 1 else 0).toNat).map λ(k:Nat)=>(a+1*(k:Int)).toNat)=(PH (HT.sIx n n u - HT.sIx n 0 l)).map (HT.sIx n 0 l+·):=by
  intro a b ea eb;have e:(if a < b then(b - a+1 - 1)/ 1 else 0).toNat=HT.sIx n n u - HT.sIx n 0 l:=by
   rw [Uh];split <;> omega
  rw [e];refine RP λk _=>?_;show(a+1*(k:Int)).toNat=_;omega
 exact key _ _ c0 c1
def qv(xs:List Nat)(l u:Option Int):List Nat:=(xs.drop (HT.sIx xs.length 0 l)).take (HT.sIx xs.length xs.length u - HT.sIx xs.length 0 l)
theorem wC(x:Str)(l u:Option Int):(Txt.slice x l u).cps.toList=qv x.cps.toList l u:=by
 have hl:x.cps.toList.length=x.length:=by rw [N0];rfl
 unfold Txt.slice;rw [Iu,NS,QY];unfold qv;rw [hl];split
 ·rename_i h;have h2:HT.sIx x.length x.length u - HT.sIx x.length 0 l=x.length:=by simpa using h
  have h3:HT.sIx x.length x.length u<=x.length:=HT.sIx_le _ _ (NV _) u;by_cases hz:x.length=0
  ·have:x.cps.toList=[]:=Sq.mp UC;rw [this];simp
  ·have h4:HT.sIx x.length 0 l=0:=UC
   rw [h2,h4,SJ,Po UC]
 ·rw [pick_run]
theorem Iw{xs:List Nat}{i:Int}(h0:0<=i)(h1:i<=xs.length):qv xs none (some i)=xs.take i.toNat:=by
 unfold qv;rw [ph,oG h0 h1];simp
theorem Iy{xs:List Nat}{i:Int}(h0:0<=i)(h1:i<=xs.length):qv xs (some i) none=xs.drop i.toNat:=by
 unfold qv;rw [ph,oG h0 h1,Po (by rw [Pw];exact NV _)]
theorem oK(x:Str):x.length=x.cps.toList.length:=by rw [N0];rfl
theorem Cs{z:Str}{d:UI}:NT (.str z) d=true↔d= .str z:=by
 cases d <;> simp [NT];exact⟨λh=>h.symm,λh=>h.symm⟩
theorem rX{z:Str}{d:UI}:NT d (.str z)=true↔d= .str z:=by rw [Cb];exact Cs
theorem lW{zs:List Str}{d:UI}:lq zs d=true↔∃z∈zs,d= .str z:=by
 unfold lq;simp only [List.any_eq_true,Cs]
def oM(a b:Str):Prop:=a.cps.toList < b.cps.toList
theorem Iz{a b c:Str}(h:oM a b)(h':oM b c):oM a c:=List.lt_trans h h'
inductive lX:UI->Prop
 | coming:lX (.tuple [.str "coming"])
 | first {h:Str}:Nm h->lX (.tuple [.str "first",.str h])
 | last {h:Str}:Nm h->lX (.tuple [.str "last",.str h])
def units:List Str:=["days","months","years"]
inductive mf:UI->Prop
 | kg {w k u:Str} {s:UI} {m:Int}:w∈(["keep","gone"]:List Str)->Nm k->lX s->0<=m->m<=999->u∈units->mf (.tuple [.str w,.str k,s,.int m,.str u])
 | wfl {w k:Str}:w∈(["while","follow","leave"]:List Str)->Nm k->mf (.tuple [.str w,.str k])
def kT(n:Int):Prop:=0<=n/\n<=99999
structure wD (ms:List Str):Prop where
 len:ms.length<=4
 nm:∀m∈ms,Nm m
 up:ms.Pairwise oM
inductive bM:UI->Prop
 | paper {n:Int} {x k:Str} {ms:List Str}:kT n->Nm x->Nm k->wD ms->bM (.tuple [.str "paper",.int n,.str x,.str k,.tuple (ms.map .str)])
 | two {w x y:Str} {n:Int}:w∈(["happens","leave"]:List Str)->kT n->Nm x->Nm y->bM (.tuple [.str w,.int n,.str x,.str y])
 | rule {n:Int} {x:Str} {p:UI}:kT n->Nm x->mf p->bM (.tuple [.str "rule",.int n,.str x,p])
 | one {w x:Str} {n:Int}:w∈(["end","lift"]:List Str)->kT n->Nm x->bM (.tuple [.str w,.int n,.str x])
 | hold {n:Int} {x g y:Str} {b:Bool}:kT n->Nm x->g∈(["paper","kind"]:List Str)->Nm y->bM (.tuple [.str "hold",.int n,.str x,.tuple [.str g,.str y],.bool b])
theorem Ct{d:UI}:lV d=true↔lX d:=by
 constructor
 ·intro h;unfold lV at h;split at h
  ·rw [rX] at h;subst h;exact .coming
  ·rw [Oo,lW] at h;obtain⟨⟨z,hz,rfl⟩,hb⟩:=h;obtain⟨y,rfl,hy⟩:=mB hb;simp only [NO,NZ,or_false] at hz;rcases hz with rfl | rfl
   ·exact .first hy
   ·exact .last hy
  ·cases h
 ·intro h;cases h with
  | coming=>unfold lV;rw [rX]
  | first hy=>simp only [lV,hy.is,N3];exact lW.mpr ⟨_,UH,rfl⟩
  | last hy=>simp only [lV,hy.is,N3];exact lW.mpr ⟨_,UH,rfl⟩
theorem Cu{m u:UI}:qu m u=true↔∃i z,m= .int i/\u= .str z/\0<=i/\i<=999/\z∈units:=by
 unfold qu;rw [Oo,lW];constructor
 ·rintro⟨h,z,hz,rfl⟩;cases m <;> simp [rV] at h;exact⟨_,z,rfl,rfl,h.1,h.2,hz⟩
 ·rintro⟨i,z,rfl,rfl,h0,h1,hz⟩;exact⟨by simp [rV,h0,h1],z,hz,rfl⟩
theorem Cv{d:UI}:lP d=true↔mf d:=by
 constructor
 ·intro h;unfold lP at h;split at h
  ·rw [Oo,lW] at h;obtain⟨⟨z,hz,rfl⟩,hb⟩:=h;obtain⟨y,rfl,hy⟩:=mB hb;exact .wfl hz hy
  ·rw [Oo,Oo,Oo,lW,Ct,Cu] at h;obtain⟨⟨⟨z,hz,rfl⟩,hb⟩,hs,i,u,rfl,rfl,h0,h1,hu⟩:=h;obtain⟨y,rfl,hy⟩:=mB hb;exact .kg hz hy hs h0 h1 hu
  ·cases h
 ·intro h;cases h with
  | kg hw hk hs h0 h1 hu=>
   simp only [lP,hk.is,Ct.mpr hs,Cu.mpr ⟨_,_,rfl,rfl,h0,h1,hu⟩,N3];exact lW.mpr ⟨_,hw,rfl⟩
  | wfl hw hk=>simp only [lP,hk.is,N3];exact lW.mpr ⟨_,hw,rfl⟩
theorem wF:∀{ms:List Str},mM (ms.map .str)=true↔ms.Pairwise oM
 | []=>by simp [mM]
 | [a]=>by simp [mM]
 | a::b::r=>by
  have ih:=wF (ms:=b::r);rw [NN,NN,mM,Oo,<-NN,ih];simp only [tR,decide_eq_true_eq];constructor
  ·rintro⟨h1,h2⟩;rw [QU];refine⟨λy hy=>?_,h2⟩;rcases NO.mp hy with z | z
   ·rw [z];exact h1
   ·exact Iz h1 ((QU.mp h2).1 y z)
  ·intro h;rw [QU] at h;exact⟨h.1 b UH,h.2⟩
theorem Cw:∀{l:List UI},l.all cj=true->∃ms:List Str,l=ms.map .str/\∀m∈ms,Nm m
 | [],_=>⟨[],rfl,UH⟩
 | d::r,h=>by
  rw [OG,Oo] at h;obtain⟨z,rfl,hz⟩:=mB h.1;obtain⟨ms,rfl,hm⟩:=Cw h.2;exact⟨z::ms,rfl,λm hm'=>by
   rcases NO.mp hm' with e | e
   ·rw [e];exact hz
   ·exact hm m e⟩
theorem Cy{d:UI}:oJ d=true↔∃ms:List Str,d= .tuple (ms.map .str)/\wD ms:=by
 constructor
 ·intro h;unfold oJ at h;split at h
  ·rw [Oo,Oo,decide_eq_true_eq] at h;obtain⟨h4,ha,hr⟩:=h;obtain⟨ms,rfl,hm⟩:=Cw ha;exact⟨ms,rfl,by simpa using h4,hm,wF.mp hr⟩
  ·cases h
 ·rintro⟨ms,rfl,h⟩;simp only [oJ,NS,decide_eq_true h.len,wF.mpr h.up,N3,Od,QL,Pg];exact λm hm=>(h.nm m hm).is
theorem Cz{d:UI}:mz d=true↔∃g y,d= .tuple [.str g,.str y]/\g∈(["paper","kind"]:List Str)/\Nm y:=by
 constructor
 ·intro h;unfold mz at h;split at h
  ·rw [Oo,lW] at h;obtain⟨⟨z,hz,rfl⟩,hb⟩:=h;obtain⟨y,rfl,hy⟩:=mB hb;exact⟨z,y,rfl,hz,hy⟩
  ·cases h
 ·rintro⟨g,y,rfl,hg,hy⟩;simp only [mz,hy.is,N3];exact lW.mpr ⟨_,hg,rfl⟩
theorem CA{d:UI}:my d=true↔∃n,d= .int n/\kT n:=by
 constructor
 ·intro h;cases d <;> simp [my] at h;exact⟨_,rfl,h.1,h.2⟩
 ·rintro⟨n,rfl,h0,h1⟩;simp [my,h0,h1]
theorem IA{d:UI}(h:lr d=true):bM d:=by
 unfold lr at h;split at h
 ·rename_i w n x r;rw [Oo,Oo,CA] at h;obtain⟨⟨⟨n,rfl,hn⟩,hx⟩,hp⟩:=h;obtain⟨x,rfl,hx2⟩:=mB hx
  replace hx:=hx2
  unfold nX at hp;split at hp
  ·rename_i hw;obtain⟨z,hz,rfl⟩:=lW.mp hw;have:r=[]:=Sq.mp (by simpa using hp);subst this;exact .one hz hn hx
  split at hp
  ·rename_i hw;obtain⟨z,hz,rfl⟩:=lW.mp hw;split at hp
   ·obtain⟨y,rfl,hy⟩:=mB hp;exact .two hz hn hx hy
   ·cases hp
  split at hp
  ·rename_i hw;rw [rX] at hw;subst hw;split at hp
   ·exact .rule hn hx (Cv.mp hp)
   ·cases hp
  split at hp
  ·rename_i hw;rw [rX] at hw;subst hw;split at hp
   ·rw [Oo,Cy] at hp;obtain⟨hk,ms,rfl,hm⟩:=hp;obtain⟨k,rfl,hk2⟩:=mB hk
    replace hk:=hk2
    exact .paper hn hx hk hm
   ·cases hp
  split at hp
  ·rename_i hw;rw [rX] at hw;subst hw;split at hp
   ·rw [Oo,Cz] at hp;obtain⟨⟨g,y,rfl,hg,hy⟩,hb⟩:=hp;rename_i b;cases b <;> simp [rS] at hb;exact .hold hn hx hg hy
   ·cases hp
  ·cases hp
 ·cases h
theorem bM.is{d:UI}(h:bM d):lr d=true:=by
 have dy:∀{n:Int},kT n->my (.int n)=true:=λh=>CA.mpr ⟨_,rfl,h⟩;have no:∀{zs:List Str}{w:Str},w ∉ zs->lq zs (.str w)=false:=λ{zs w} h=>by
  rw [Tr];intro q;obtain⟨z,hz,e⟩:=lW.mp q;injection e with e;rw [e] at h;exact h hz
 have ye:∀{zs:List Str}{w:Str},w∈zs->lq zs (.str w)=true:=λh=>lW.mpr ⟨_,h,rfl⟩;have nq:∀{z w:Str},w≠z->NT (.str w) (.str z)=false:=λ{z w} h=>by rw [bo];simpa using h
 have yq:∀{z:Str},NT (.str z) (.str z)=true:=by intro z;rw [bo];simp
 cases h with
 | paper hn hx hk hm=>
  simp only [lr,dy hn,hx.is,N3,Od,nX];rw [UD (by rw [no td];decide),UD (by rw [no td];decide),UD (by rw [nq td];decide),UE yq];simp only [hk.is,Cy.mpr ⟨_,rfl,hm⟩,N3]
 | two hw hn hx hy=>
  simp only [lr,dy hn,hx.is,N3,Od,nX];rename_i w x y n;have h1:w ∉ (["end","lift"]:List Str):=by
   simp only [NO,NZ,or_false] at hw;rcases hw with rfl | rfl <;> decide+kernel
  rw [UD (by rw [no h1];decide),UE (ye hw)];exact hy.is
 | rule hn hx hp=>
  simp only [lr,dy hn,hx.is,N3,Od,nX];rw [UD (by rw [no td];decide),UD (by rw [no td];decide),UE yq];exact Cv.mpr hp
 | one hw hn hx=>
  simp only [lr,dy hn,hx.is,N3,Od,nX];rw [UE (ye hw)];rfl
 | hold hn hx hg hy=>
  simp only [lr,dy hn,hx.is,N3,Od,nX];rw [UD (by rw [no td];decide),UD (by rw [no td];decide),UD (by rw [nq td];decide),UD (by rw [nq td];decide),UE yq];simp only [Cz.mpr ⟨_,_,rfl,hg,hy⟩,rS,N3]
theorem CB{d:UI}:lr d=true↔bM d:=⟨IA,bM.is⟩
theorem fY{a:UI}{l:List UI}:bx (a::l) (some 1) none=l:=by
 rw [pF Ce (by simp only [NJ];omega)];rfl
theorem fZ{a b:UI}{l:List UI}:bx (a::b::l) (some 2) none=l:=by
 rw [pF Ce (by simp only [NJ];omega)];rfl
theorem gb{a b c:UI}{l:List UI}:bx (a::b::c::l) (some 3) none=l:=by
 rw [pF Ce (by simp only [NJ];omega)];rfl
theorem gc{a b c d:UI}{l:List UI}:bx (a::b::c::d::l) (some 4) none=l:=by
 rw [pF Ce (by simp only [NJ];omega)];rfl
theorem gf{a:UI}{l:List UI}:bx (a::l) none (some 1)=[a]:=by
 rw [pE Ce (by simp only [NJ];omega)];rfl
theorem gh{a b:UI}{l:List UI}:bx (a::b::l) none (some 2)=[a,b]:=by
 rw [pE Ce (by simp only [NJ];omega)];rfl
theorem gi{a b c:UI}{l:List UI}:bx (a::b::c::l) none (some 3)=[a,b,c]:=by
 rw [pE Ce (by simp only [NJ];omega)];rfl
theorem gj{a b c d:UI}{l:List UI}:bx (a::b::c::d::l) none (some 4)=[a,b,c,d]:=by
 rw [pE Ce (by simp only [NJ];omega)];rfl
theorem gk{a b c:UI}{l:List UI}:bx (a::b::c::l) (some 1) (some 3)=[b,c]:=by
 unfold bx;rw [oG Ce (by simp only [NJ];omega),oG Ce (by simp only [NJ];omega)];rfl
end L2
namespace PySem
open Builtin
open AutoSeq1 (wpAny_loadPart')
end PySem
namespace L2
open PySem PySem.Spec PyProof.Rows PySem.W
section
variable {X:Cx} {H0:Hp} {O0:Ex}
def gm:UI->UI->(UI->Prop)->Prop:=λx y Q=>∃xs,x= .tuple xs/\y= .int 2/\xs≠[]/\xs.length<=1000/\Q (.tuple (xs++xs))
def eQ:DT:=λ_ Q=>Q (.dict [])
theorem IB{pos:Pos}:DE X H0 O0 (.Dict [] [] pos) eQ:=HM.imp λσ H Q uu80=>by obtain⟨O,δ,Qd,w,q,k⟩:=uu80;exact λp hp=>k _ _ _ q (ao.new hp) (.dct0 bh (tu w (ao.refl _) hp))
def gn(t:DT):DT:=λδ Q=>t δ λd=>∃i,d= .int i/\Q (.int (-i))
def gp(t:DT):DT:=λδ Q=>t δ λd=>∃z:Str,d= .str z/\z.length<=1000000/\Q (.str (Txt.upper z))
def gr(t:DT):DT:=λδ Q=>t δ λd=>∃xs,d= .tuple xs/\Q (.tuple xs.reverse)
end
theorem gs{xs:List UI}:bx xs none (some (-1))=xs.dropLast:=by
 unfold bx;rw [ph];have e:HT.sIx xs.length xs.length (some (-1))=xs.length - 1:=by
  simp only [HT.sIx];rw [UE Ce];omega
 rw [e,SJ,Uj,List.dropLast_eq_take]
theorem IC(ys:List Str):(Txt.join "" ys).cps.toList=(ys.map (·.cps.toList)).flatten:=by
 have key:∀ys:List Str,(QM "" ys).cps.toList=(ys.map (·.cps.toList)).flatten:=by
  intro ys
  induction ys with
  | nil=>rfl
  | cons y r ih=>
   cases r with
   | nil=>simp [QM]
   | cons z r=>
    show(y++("":Str)++QM "" (z::r)).cps.toList=_;rw [rO,rO,Qt,Qt,ih,NN,Qf];have:("":Str).cps.toList=[]:=td
    rw [this,NY];simp
 rw [show Txt.join "" ys=QM "" ys from P7 "" ys];exact key ys
section
variable {x:Option US} {n:Nat} {env:Env}
theorem CC{a b}:Vi (.List a b) x n env=pure false:=rfl
theorem wG{a b c}:Vi (.Tuple a b c) x n env=pure false:=rfl
theorem pM{a b c d}:Vi (.BinOp a b c d) x n env=pure false:=rfl
theorem pN{a b c d}:Vi (.Call a b c d) x n env=pure false:=rfl
theorem tS{a b c}:Vi (.Subscript a b c) x n env=pure false:=rfl
theorem ID{a b c d}:Vi (.IfExp a b c d) x n env=pure false:=rfl
end
section
variable {X:Cx} {H0:Hp} {O0:Ex}
def gu(F:List UI->(List UI->Prop)->Prop)(t:DA):DA:=λδ Q=>t δ λds=>F ds Q
end
section
variable {X:Cx} {H0:Hp} {O0:Ex}
def eR(t:DA):DA:=λδ Q=>t δ λds=>ds.length<=1000/\Q (ds++ds)
theorem IE{e:US}{t:DA}{j}{pos cp:Pos}(h:FE X H0 O0 e t):FE X H0 O0 (.BinOp e .Mult (.Constant (.int 2) j cp) pos) (eR t):=
 (bN Bx h cm).imp λσ H Q ⟨O,δ,Qd,w,q,k⟩=>⟨O,δ,_,w,q,λds vs p H1 q1 s1 hp r1=>by
  refine⟨p,2,vs,rfl,rfl,bh,Ce,Ce,?_,λp' hp'=>?_⟩
  ·have:=r1.length;have:(UR:Nat)=16777216:=Ce
   have:=q1.1;show vs.length*2<=UR;omega
  ·have e:(NP (Int.toNat 2) vs).flatten=vs++vs:=by
    show(NP 2 vs).flatten=_;simp [NP]
   rw [e];exact k (ds++ds) (vs++vs) p' _ q1.2 (s1.trans (ao.new hp)) hp' ((r1.append r1).mono (ao.new hp))⟩
end
theorem IF{g:DG}{tc:DB}{te:DT}{δ0:Dl}{xs:List UI}{Q:List UI->Prop}
 (h:∀x∈xs,∀(R:UI->Prop) (S:Prop),R x->S->g x δ0 λδ2=>tc δ2 λok=>if ok=true then te δ2 R else S)(q:∀ys,ys.Sublist xs->Q ys):mw g tc te δ0 xs Q:=by
 refine⟨λi acc=>acc.Sublist (xs.take i),UH,?_,?_⟩
 ·rintro i x acc hx ha;have et:xs.take (i+1)=xs.take i++[x]:=by rw [T6,hx];rfl
  refine h x (PL hx) (λy=>(acc++[y]).Sublist (xs.take (i+1))) (acc.Sublist (xs.take (i+1))) ?_ ?_
  ·show(acc++[x]).Sublist (xs.take (i+1));rw [et];exact ha.append (List.Sublist.refl _)
  ·rw [et];exact ha.trans (List.sublist_append_left _ _)
 ·rintro acc ha;rw [Po (NV _)] at ha;exact q acc ha
theorem gx:(NG "paper"==NG "happens")=false:=td
theorem gy:(NG "paper"==NG "rule")=false:=td
theorem gz:(NG "paper"==NG "end")=false:=td
theorem gA:(NG "paper"==NG "hold")=false:=td
theorem gB:(NG "paper"==NG "lift")=false:=td
theorem gC:(NG "paper"==NG "leave")=false:=td
theorem gD:(NG "happens"==NG "paper")=false:=td
theorem gE:(NG "happens"==NG "rule")=false:=td
theorem gF:(NG "happens"==NG "end")=false:=td
theorem gG:(NG "happens"==NG "hold")=false:=td
theorem gH:(NG "happens"==NG "lift")=false:=td
theorem gI:(NG "happens"==NG "leave")=false:=td
theorem gJ:(NG "rule"==NG "paper")=false:=td
theorem gK:(NG "rule"==NG "happens")=false:=td
theorem gL:(NG "rule"==NG "end")=false:=td
theorem gM:(NG "rule"==NG "hold")=false:=td
theorem gN:(NG "rule"==NG "lift")=false:=td
theorem gO:(NG "rule"==NG "leave")=false:=td
theorem gP:(NG "end"==NG "paper")=false:=td
theorem gQ:(NG "end"==NG "happens")=false:=td
theorem gR:(NG "end"==NG "rule")=false:=td
theorem gS:(NG "end"==NG "hold")=false:=td
theorem gT:(NG "end"==NG "lift")=false:=td
theorem gU:(NG "end"==NG "leave")=false:=td
theorem gW:(NG "hold"==NG "paper")=false:=td
theorem gX:(NG "hold"==NG "happens")=false:=td
theorem gY:(NG "hold"==NG "rule")=false:=td
theorem gZ:(NG "hold"==NG "end")=false:=td
theorem g6:(NG "hold"==NG "lift")=false:=td
theorem g9:(NG "hold"==NG "leave")=false:=td
theorem hG:(NG "lift"==NG "paper")=false:=td
theorem hJ:(NG "lift"==NG "happens")=false:=td
theorem hV:(NG "lift"==NG "rule")=false:=td
theorem hW:(NG "lift"==NG "end")=false:=td
theorem hX:(NG "lift"==NG "hold")=false:=td
theorem hZ:(NG "lift"==NG "leave")=false:=td
theorem ic:(NG "leave"==NG "paper")=false:=td
theorem ie:(NG "leave"==NG "happens")=false:=td
theorem ig:(NG "leave"==NG "rule")=false:=td
theorem ij:(NG "leave"==NG "end")=false:=td
theorem ik:(NG "leave"==NG "hold")=false:=td
theorem il:(NG "leave"==NG "lift")=false:=td
section
variable {X:Cx} {H0:Hp} {O0:Ex}
def eT:List UI->(UI->Prop)->Prop:=λds Q=>∃i:Int,ds=[.int i]/\i.natAbs.log2 < 1920/\Q (.str (toString i))
theorem nY{K:NH}:mJ K (λxs H Q=>∃i,xs=[.int i]/\i.natAbs.log2 < 1920/\Q (.str (toString i)) H) eT:=λH O xs ds Qd R _ hs uu82 k=>by
 obtain⟨i,e,hz,q⟩:=uu82;subst e;cases hs with
 | cons h r=>cases r;cases h.int;exact⟨i,rfl,hz,k _ _ H q (ao.refl _) (.str _)⟩
theorem qw:kq X (.type "int") (λxs H Q=>∃(z:Str)(n:Int),xs=[.str z]/\Rp z=some n/\z.length<=640/\Q (.int n) H):=by
 intro Wx s σ H xs us Q I r h;obtain⟨z,n,rfl,hn,hl,q⟩:=h;obtain⟨u,rfl,t,rfl⟩:=kY r;exact KIN.call_text hn hl ⟨.int n,H,I.tok _,⟨_,rfl⟩,q⟩
def eV:List UI->(UI->Prop)->Prop:=λds Q=>∃(z:Str)(n:Int),ds=[.str z]/\Rp z=some n/\z.length<=640/\Q (.int n)
theorem qx{K:NH}:mJ K (λxs H Q=>∃(z:Str)(n:Int),xs=[.str z]/\Rp z=some n/\z.length<=640/\Q (.int n) H) eV:=λH O xs ds Qd R _ hs uu83 k=>by
 obtain⟨z,n,e,hn,hl,q⟩:=uu83;subst e;cases hs with
 | cons h r=>cases r;cases h.str;exact⟨z,n,rfl,hn,hl,k _ _ H q (ao.refl _) (.int _)⟩
theorem IG:rE X "str.zfill" (λx xs H Q=>∃(z:Str)(i:Int),x= .str z/\xs=[.int i]/\PadOk i=true/\Q (.str (Txt.zfill z i)) H):=by
 intro Wx s σ H x xs v us Q I rx rs h;obtain⟨z,i,rfl,rfl,hp,q⟩:=h;obtain⟨t,rfl⟩:=rx;obtain⟨u,rfl,t',rfl⟩:=kY rs;exact SC.zfill hp λt' k=>⟨.str _,H,I.tok _,⟨_,rfl⟩,q⟩
def eX(to t:DT):DT:=λδ Q=>to δ λx=>∃z:Str,x= .str z/\t δ λy=>∃i:Int,y= .int i/\PadOk i=true/\Q (.str (Txt.zfill z i))
theorem CD{o e:US}{to t:DT}{apos cpos:Pos}(ho:DE X H0 O0 o to)(ha:DE X H0 O0 e t)(hbase:Vw o "zfill" X.env (eval o X.env)=eval o X.env:=by rfl)
 (hfew:((U7 cpos (UQ [e] X.env)).all (λx=>!x.1) && (Wg cpos (VU [] X.env)).all (λx=>x.1.isSome) && decide ([e].length+([]:List VI).length+(if ([]:List VI).isEmpty then 0 else 1) < 30))=true:=by rfl)
 (hline:(apos.endLine==cpos.line)=true:=by rfl)(hst:UQ [e] X.env=(false,eval e X.env)::UQ [] X.env:=by rfl)(hplain:(U7 cpos (UQ [] X.env)).any (·.1)=false:=by rfl):
 DE X H0 O0 (.Call (.Attribute o "zfill" apos) [e] [] cpos) (eX to t):=
 (rF QW PySem.F.slot_str_zfill PySem.F.type_str_zfill IG ho (aN ha bF hst) hbase hfew hline hst hplain).imp λσ H Q uu84=>by obtain⟨O,δ,Qd,w,q,k⟩:=uu84;exact⟨O,δ,_,w,q,λx v H1 uu85 s1 r1=>by
  obtain⟨z,e,q1⟩:=uu85;subst e;cases r1;exact⟨rfl,O,δ,_,w.mono s1,q1,λy u H2 uu86 s2 r2=>by obtain⟨i,e,hz,q2⟩:=uu86;subst e;cases r2;exact⟨z,i,rfl,rfl,hz,k _ _ H2 q2 (s1.trans s2) (.str _)⟩⟩⟩
theorem CF:∀{l:List (Str×Tok)}{ys:List Str},l.map (·.1)=ys->aG (ys.map V.str) (strValues l)
 | [],_,rfl=>.nil
 | (x,t)::r,_,rfl=>.cons ⟨t,rfl⟩ (CF (l:=r) rfl)
theorem IH:rE X "str.split" (λx xs H Q=>∃(z y:Str),x= .str z/\xs=[.str y]/\(y.length==0)=false/\z.length<=1000000/\∀p,H p=none->Q (.ref p) (ak H p (.lst ((Txt.split z y).map V.str)))):=by
 intro Wx s σ H x xs v us Q I rx rs h;obtain⟨z,y,rfl,rfl,hy,hz,q⟩:=h;obtain⟨t,rfl⟩:=rx;obtain⟨u,rfl,t',rfl⟩:=kY rs;have hsl:(UR:Nat)=16777216:=Ce
 have hle:=split_le z y;have hq:∀(l:List (Str×Tok))(k:Nat),l.map (·.1)=Txt.split z y->EP X Wx σ Q (.ref s.heap.objs.size) {s with heap:=s.heap.push {cls:= .type "list",data:= .seq (strValues l).toArray},toks:=k}:=λl k e=>
  ⟨.ref _,_,I.laid (t':=k) (o:= .lst ((Txt.split z y).map V.str)) (λb ob q=>NK _ q) (NV _) ⟨by rw [NS];omega,_,0,CF e,N7 _ rfl⟩,rfl,q _ I.fresh⟩
 cases h1:(decide (z.length < y.length) || decide (S7 z < S7 y))
 ·cases hf:(Qe z y 0 z.length (z.length+1)).isEmpty
  ·have hn:(Sk z (Qe z y 0 z.length (z.length+1)) y.length).length<=UR:=by
    rw [len_partsBetween];have:=StrLaws.occ_length_le z y 0 z.length (z.length+1);omega
   refine VB F.slot_str_split (VA _ _ _) F.entry_str_split (F.args_str_split_2 _ _) (meets_str_split_sep z y t t' h1 hy hf UC hn) ?_;show wants _ _ _ {s with toks:=_,heap:=s.heap.push {cls:= .type "list",data:= .seq (strsFrom s.toks (Sk z (Qe z y 0 z.length (z.length+1)) y.length)).toArray}};rw [strsFrom_eq];exact hq (numbered s.toks _) _ ((numbered_texts _ _).trans ((UD (ne_true_of_eq_false h1)).trans (UD (ne_true_of_eq_false hf))).symm)
  ·exact VB F.slot_str_split (VA _ _ _) F.entry_str_split (F.args_str_split_2 _ _) (meets_str_split_not_found z y t t' h1 hy hf) (hq [(z,t)] s.toks ((UD (ne_true_of_eq_false h1)).trans (UE hf)).symm)
 ·exact VB F.slot_str_split (VA _ _ _) F.entry_str_split (F.args_str_split_2 _ _) (meets_str_split_cannot_occur z y t t' h1) (hq [(z,t)] s.toks (UE h1).symm)
def eY(to t:DT):DA:=λδ Q=>to δ λx=>∃z:Str,x= .str z/\t δ λy=>∃y':Str,y= .str y'/\(y'.length==0)=false/\z.length<=1000000/\Q ((Txt.split z y').map .str)
theorem pO{o e:US}{to t:DT}{apos cpos:Pos}(ho:DE X H0 O0 o to)(ha:DE X H0 O0 e t)(hbase:Vw o "split" X.env (eval o X.env)=eval o X.env:=by rfl)
 (hfew:((U7 cpos (UQ [e] X.env)).all (λx=>!x.1) && (Wg cpos (VU [] X.env)).all (λx=>x.1.isSome) && decide ([e].length+([]:List VI).length+(if ([]:List VI).isEmpty then 0 else 1) < 30))=true:=by rfl)
 (hline:(apos.endLine==cpos.line)=true:=by rfl)(hst:UQ [e] X.env=(false,eval e X.env)::UQ [] X.env:=by rfl)(hplain:(U7 cpos (UQ [] X.env)).any (·.1)=false:=by rfl):
 FE X H0 O0 (.Call (.Attribute o "split" apos) [e] [] cpos) (eY to t):=
 (rF QW PySem.F.slot_str_split PySem.F.type_str_split IH ho (aN ha bF hst) hbase hfew hline hst hplain).imp λσ H Q uu87=>by obtain⟨O,δ,Qd,w,q,k⟩:=uu87;exact⟨O,δ,_,w,q,λx v H1 uu88 s1 r1=>by
  obtain⟨z,e,q1⟩:=uu88;subst e;cases r1;exact⟨rfl,O,δ,_,w.mono s1,q1,λy u H2 uu89 s2 r2=>by obtain⟨y',e,hy,hz,q2⟩:=uu89;subst e;cases r2;exact⟨z,y',rfl,rfl,hy,hz,λp hp=>k _ _ p H2 q2 (s1.trans s2) hp (aq.ofStrs _)⟩⟩⟩
def PF(X:Cx)(H0:Hp)(O0:Ex)(e:US)(t:DT):Prop:=∀(Wx:List (UL×Obj))(s:UM)(σ:St)(H:Hp)(R:Str->Prop)(Q:VK),ag X Wx σ H s->(∃O δ,Wd X.K H0 O0 H O σ δ/\t δ (λd=>∃z:Str,d= .str z/\z.length<=UR/\R z)/\∀z H',R z->ao H H'->Q (.str z) H')->UO (UP X.prog X.w) X.A (eval e X.env) (EP X Wx σ Q) X.xe s
theorem CG{x j pos}:PF X H0 O0 (.Constant (.str x) j pos) (dC (.str x)):=λWx s σ H R Q I h=>by
 obtain⟨O,δ,w,⟨z,e,hz,q⟩,k⟩:=h;injection e with e;subst e
 exact uU Wx s σ H Q I (k _ H q (ao.refl _))
theorem wH{e:US}{t:DT}{pos:Pos}(h:DE X H0 O0 e t):PF X H0 O0 (.FormattedValue e (-1) none pos) t:=λWx s σ H R Q I hh=>by
 obtain⟨O,δ,w,q,k⟩:=hh;refine FormattedValue_plain (ax (h Wx s σ H (λv H1=>∃z:Str,v= .str z/\z.length<=UR/\Q (.str z) H1) I ⟨O,δ,_,w,q,λd v H1 uu90 s1 r1=>by obtain⟨z,e,hz,q1⟩:=uu90;subst e;cases r1;exact⟨z,rfl,hz,k _ H1 q1 s1⟩⟩) λv s1 ⟨x,H1,I1,r1,z,e,hz,q1⟩=>?_);subst e;obtain⟨t,rfl⟩:=r1;exact formatField_str (λt' tk=>⟨.str z,H1,I1.tok _,⟨_,rfl⟩,q1⟩) hz
def b0:List DT->Str->DT
 | [],out=>λ_ Q=>out.length<=UR/\Q (.str out)
 | t::ts,out=>λδ Q=>t δ λd=>∃z:Str,d= .str z/\z.length<=UR/\(out++z).length<=UR/\b0 ts (out++z) δ Q
inductive rY (X:Cx) (H0:Hp) (O0:Ex):List US->List DT->Prop
 | nil:rY X H0 O0 [] []
 | cons {e:US} {es:List US} {t:DT} {ts:List DT}:PF X H0 O0 e t->rY X H0 O0 es ts->rY X H0 O0 (e::es) (t::ts)
theorem II{es:List US}{ts:List DT}(h:rY X H0 O0 es ts):∀(out:Str)(Wx:List (UL×Obj))(s:UM)(σ:St)(H:Hp)(Q:VK),ag X Wx σ H s->up X.K H0 O0 (b0 ts out) σ H Q->
 UO (UP X.prog X.w) X.A (joinParts out (evalEach es X.env)) (EP X Wx σ Q) X.xe s:=by
 induction h with
 | nil=>
  intro out Wx s σ H Q I ⟨O,δ,Qd,w,⟨hz,q⟩,k⟩;exact joinParts_nil ⟨.str out,H,I.tok _,⟨_,rfl⟩,k _ _ H q (ao.refl _) (.str out)⟩ hz
 | @cons e es t ts hp hs ih=>
  intro out Wx s σ H Q I ⟨O,δ,Qd,w,q,k⟩;show UO (UP X.prog X.w) X.A (joinParts out (eval e X.env::evalEach es X.env)) (EP X Wx σ Q) X.xe s;refine joinParts_cons (ax (hp Wx s σ H (λz=>(out++z).length<=UR/\b0 ts (out++z) δ Qd) (λv H1=>∃z:Str,v= .str z/\(out++z).length<=UR/\up X.K H0 O0 (b0 ts (out++z)) σ H1 Q) I ⟨O,δ,w,q,?_⟩) λv s1 ⟨x,H1,I1,r1,z,e,hz,q1⟩=>?_)
  ·rintro z H1 ⟨hz,q1⟩ s1;exact⟨z,rfl,hz,O,δ,Qd,w.mono s1,q1,λd v H2 q2 s2 r2=>k d v H2 q2 (s1.trans s2) r2⟩
  ·subst e;obtain⟨t',rfl⟩:=r1;exact⟨hz,ih _ _ _ _ _ _ I1 q1⟩
theorem IJ{e1 e2:US}{es:List US}{ts:List DT}{pos:Pos}(h:rY X H0 O0 (e1::e2::es) ts):DE X H0 O0 (.JoinedStr (e1::e2::es) pos) (b0 ts RI):=λWx s σ H Q I hh=>
 JoinedStr_many (II h RI Wx s σ H Q I hh)
def ip:DS:=λ_ _=>False
def CH(ns:List Int):List UI:=ns.map .int
def iq:UI->UI->(UI->Prop)->Prop:=λx y Q=>(∃i j:Int,x= .int i/\y= .int j/\Q (.bool (decide (i < j))))\/(∃i j:Str,x= .str i/\y= .str j/\Q (.bool (decide (i.cps.toList < j.cps.toList))))\/
 (∃ns ms:List Int,x= .tuple (CH ns)/\y= .tuple (CH ms)/\Q (.bool (HT.lexLt ns ms)))
end
section
variable {α:Type} {P:α->Prop}
theorem eZ{a:UI}{r:Dl}{P:UI->Prop}:kJ 0 (some (Sl.v a)::r) P=P a:=rfl
theorem iu{x:Option Sl}{r:Dl}{i:Nat}{P:UI->Prop}:kJ (i+1) (x::r) P=kJ i r P:=rfl
theorem iw{a:List UI}{r:Dl}{P:List UI->Prop}:(∃d,(some (Sl.o a)::r)[0]?=some (some (Sl.o d))/\P d)=P a:=UH
theorem ix{x:Option Sl}{r:Dl}{i:Nat}{P:List UI->Prop}:(∃d,(x::r)[i+1]?=some (some (Sl.o d))/\P d)=(∃d,r[i]?=some (some (Sl.o d))/\P d):=UH
theorem iy{a:List UI}{l:Dl}{i:Nat}{P:List UI->Prop}:(∃d,(l.set i (some (Sl.o a)))[i]?=some (some (Sl.o d))/\P d)=(i < l.length/\P a):=by
 apply propext;rw [Sr];constructor
 ·rintro⟨d,e,p⟩;by_cases h:i < l.length
  ·rw [O8 h] at e;cases e;exact⟨h,p⟩
  ·rw [Qm UC] at e;cases e
 ·rintro⟨h,p⟩;exact⟨a,by rw [O8 h];rfl,p⟩
theorem iz{x:Option Sl}{l:Dl}{i j:Nat}{P:List UI->Prop}(h:i≠j):(∃d,(l.set i x)[j]?=some (some (Sl.o d))/\P d)=(∃d,l[j]?=some (some (Sl.o d))/\P d):=by rw [O3 h]
theorem iA{a:Bool}{P:Bool->Prop}:(∃b,RC a= .bool b/\P b)=P a:=UH
theorem iB{a:Int}{P:Int->Prop}:(∃b,NX a= .int b/\P b)=P a:=UH
theorem iC{a:Str}{P:Str->Prop}:(∃b,NI a= .str b/\P b)=P a:=UH
theorem iD{a:List UI}{P:List UI->Prop}:(∃b,O6 a= .tuple b/\P b)=P a:=UH
theorem iE{a:List UI}{P:List UI->Prop}:(∃b,O7 a= .list b/\P b)=P a:=UH
theorem iF{a b:Int}{P:Int->Int->Prop}:(∃i j,NX a= .int i/\NX b= .int j/\P i j)=P a b:=UH
theorem iG{a b:Str}{P:Str->Str->Prop}:(∃i j,NI a= .str i/\NI b= .str j/\P i j)=P a b:=UH
theorem iH{a b:List UI}{P:List UI->List UI->Prop}:(∃i j,O6 a= .tuple i/\O6 b= .tuple j/\P i j)=P a b:=UH
theorem iI{a b:List UI}{P:List UI->List UI->Prop}:(∃i j,O7 a= .list i/\O7 b= .list j/\P i j)=P a b:=UH
theorem iJ{a:UI}{r:List UI}{P:UI->List UI->Prop}:(∃x y,a::r=x::y/\P x y)=P a r:=propext ⟨λuu93=>by obtain⟨_,_,e,p⟩:=uu93;cases e;exact p,λp=>⟨_,_,rfl,p⟩⟩
theorem iK{a b:UI}{P:UI->UI->Prop}:(∃x y,[a,b]=[x,y]/\P x y)=P a b:=propext ⟨λuu94=>by obtain⟨_,_,e,p⟩:=uu94;cases e;exact p,λp=>⟨_,_,rfl,p⟩⟩
theorem iL{a:UI}{r:List UI}{P:UI->Prop}:(∃ds i d,O6 (a::r)= .tuple ds/\NX 0= .int i/\atI ds i=some d/\P d)=P a:=by simp [aV]
theorem iM{a b:UI}{r:List UI}{P:UI->Prop}:(∃ds i d,O6 (a::b::r)= .tuple ds/\NX 1= .int i/\atI ds i=some d/\P d)=P b:=by simp [bz]
theorem iN{a b c:UI}{r:List UI}{P:UI->Prop}:(∃ds i d,O6 (a::b::c::r)= .tuple ds/\NX 2= .int i/\atI ds i=some d/\P d)=P c:=by simp [bU]
theorem iO{a b c e:UI}{r:List UI}{P:UI->Prop}:(∃ds i d,O6 (a::b::c::e::r)= .tuple ds/\NX 3= .int i/\atI ds i=some d/\P d)=P e:=by simp [cG]
theorem iP{a:UI}{r:List UI}{P:UI->Prop}:(∃ds i d,O7 (a::r)= .list ds/\NX 0= .int i/\atI ds i=some d/\P d)=P a:=by simp [aV]
theorem iQ{a b:UI}{r:List UI}{P:UI->Prop}:(∃ds i d,O7 (a::b::r)= .list ds/\NX 1= .int i/\atI ds i=some d/\P d)=P b:=by simp [bz]
theorem iR{a b c:UI}{r:List UI}{P:UI->Prop}:(∃ds i d,O7 (a::b::c::r)= .list ds/\NX 2= .int i/\atI ds i=some d/\P d)=P c:=by simp [bU]
theorem iS{xs:List UI}{k:Int}{P:UI->Prop}:(∃ds i d,O6 xs= .tuple ds/\NX k= .int i/\atI ds i=some d/\P d)=(∃d,atI xs k=some d/\P d):=UH
theorem iT{xs:List UI}{k:Int}{P:UI->Prop}:(∃ds i d,O7 xs= .list ds/\NX k= .int i/\atI ds i=some d/\P d)=(∃d,atI xs k=some d/\P d):=UH
end
theorem iU{w v:Str}{r:List UI}{l:Dl}{Q:Bool->Prop}:bI (bw bY (bw bX (kJ 0) (dC (.int 0))) (dC (.str v))) (some (.v (.tuple (.str w::r)))::l) Q=Q (w==v):=by
 simp [bI,bw,bY,bX,eZ,dC,aV,kz,bo]
theorem iV{v:Str}{x:Option Sl}{l:Dl}{k:Nat}{Q:Bool->Prop}:bI (bw bY (bw bX (kJ 0) (dC (.int 0))) (dC (.str v))) (l.set (k+1) x) Q=bI (bw bY (bw bX (kJ 0) (dC (.int 0))) (dC (.str v))) l Q:=by
 simp only [bI,bw,kJ,dC,O3 (show k+1≠0 by omega)]
def oN:aZ->UI
 | .inl i=>.int i
 | .inr x=>.str x
def tT(kd:List (aZ×UI))(k:aZ):Option UI:=(kd.find? λp=>decide (p.1=k)).map (·.2)
def CI(kd:List (aZ×UI))(k:aZ)(d:UI):List (aZ×UI):=if (kd.any λp=>decide (p.1=k))=true then kd.map (λp=>if p.1=k then(p.1,d) else p) else kd++[(k,d)]
section
variable {X:Cx} {H0:Hp} {O0:Ex}
abbrev rZ:=Dl->(List (aZ×UI)->Prop)->Prop
inductive CJ (K:NH) (H0:Hp) (O0:Ex) (t:rZ) (σ:St) (H:Hp) (R:VK):Prop
 | mk (O:Ex) (δ:Dl) (Qd:List (aZ×UI)->Prop):Wd K H0 O0 H O σ δ->t δ Qd->(∀kd kv p H',Qd kd->ao H H'->H' p=none->lK K H' O kv kd->R (.ref p) (ak H' p (.dK kv)))->CJ K H0 O0 t σ H R
abbrev KE(X:Cx)(H0:Hp)(O0:Ex)(e:US)(t:rZ):Prop:=PE X e (CJ X.K H0 O0 t)
def iW:rZ:=λ_ Q=>Q []
def iX(i:Nat)(t:rZ):DS:=λE δ=>t δ λkd=>E.nx (δ.set i (some (.k kd)))
def iY(i:Nat)(tk tv:DT):DS:=λE δ=>tv δ λd=>∃kd,δ[i]?=some (some (.k kd))/\tk δ λy=>∃k,y=oN k/\kd.length < UR/\E.nx (δ.set i (some (.k (CI kd k d))))
def iZ(i:Nat)(tk:DT):DT:=λδ Q=>∃kd,δ[i]?=some (some (.k kd))/\tk δ λy=>∃k d,y=oN k/\tT kd k=some d/\Q d
def i3(i:Nat)(tk:DT):DT:=λδ Q=>∃kd,δ[i]?=some (some (.k kd))/\tk δ λy=>∃k,y=oN k/\Q ((tT kd k).getD .none)
def i4(neg:Bool)(i:Nat)(tk:DT):DT:=λδ Q=>tk δ λy=>∃k,y=oN k/\∃kd,δ[i]?=some (some (.k kd))/\Q (.bool (if neg then !(tT kd k).isSome else(tT kd k).isSome))
open PySem PySem.Spec PyProof.Rows PySem.W PySem.Calls
def i5(i:Nat):DA:=λδ Q=>∃kd,δ[i]?=some (some (.k kd))/\∃ss:List Str,kd.map (·.1)=ss.map Rm/\ss.length < 64/\Q ((kL ss).map .str)
end
section
theorem i6{a:List (aZ×UI)}{r:Dl}{P:List (aZ×UI)->Prop}:(∃d,(some (Sl.k a)::r)[0]?=some (some (Sl.k d))/\P d)=P a:=UH
theorem i8{x:Option Sl}{r:Dl}{i:Nat}{P:List (aZ×UI)->Prop}:(∃d,(x::r)[i+1]?=some (some (Sl.k d))/\P d)=(∃d,r[i]?=some (some (Sl.k d))/\P d):=UH
theorem i9{a:List (aZ×UI)}{l:Dl}{i:Nat}{P:List (aZ×UI)->Prop}:(∃d,(l.set i (some (Sl.k a)))[i]?=some (some (Sl.k d))/\P d)=(i < l.length/\P a):=by
 apply propext;rw [Sr];constructor
 ·rintro⟨d,e,p⟩;by_cases h:i < l.length
  ·rw [O8 h] at e;cases e;exact⟨h,p⟩
  ·rw [Qm UC] at e;cases e
 ·rintro⟨h,p⟩;exact⟨a,by rw [O8 h];rfl,p⟩
theorem ja{x:Option Sl}{l:Dl}{i j:Nat}{P:List (aZ×UI)->Prop}(h:i≠j):(∃d,(l.set i x)[j]?=some (some (Sl.k d))/\P d)=(∃d,l[j]?=some (some (Sl.k d))/\P d):=by rw [O3 h]
theorem jb{x:Str}{P:aZ->Prop}:(∃k,NI x=oN k/\P k)=P (.inr x):=propext ⟨λuu95=>by obtain⟨k,e,p⟩:=uu95;cases k with | inl i=>cases e | inr y=>cases e;exact p,λp=>⟨_,rfl,p⟩⟩
theorem jd{x:Int}{P:aZ->Prop}:(∃k,NX x=oN k/\P k)=P (.inl x):=propext ⟨λuu96=>by obtain⟨k,e,p⟩:=uu96;cases k with | inr i=>cases e | inl y=>cases e;exact p,λp=>⟨_,rfl,p⟩⟩
end
def mN:UI->Bool
 | .none=>true
 | _=>false
def ff:UI->UI->(UI->Prop)->Prop:=λx y Q=>y= .none/\Q (.bool (mN x))
def fg:UI->UI->(UI->Prop)->Prop:=λx y Q=>y= .none/\Q (.bool (!mN x))
theorem Sh.isN{K:NH}{H:Hp}{O:Ex}{x:V}{d:UI}(h:Sh K H O x d):decide (x= .non)=mN d:=by
 cases h with
 | dt h=>cases h <;> simp [mN]
 | _=>simp [mN]
theorem wI{K:NH}:cN K (λx y H Q=>y= .non/\Q (.bl (decide (x= .non))) H) ff:=λH O x y dx dy Qd R _ hx hy uu0 k=>by
 obtain⟨e,q⟩:=uu0;subst e;refine⟨hy.non,?_⟩;rw [hx.isN];exact k _ _ H q (ao.refl _) (.bl _)
theorem IK{K:NH}:cN K (λx y H Q=>y= .non/\Q (.bl (!decide (x= .non))) H) fg:=λH O x y dx dy Qd R _ hx hy uu1 k=>by
 obtain⟨e,q⟩:=uu1;subst e;refine⟨hy.non,?_⟩;rw [hx.isN];exact k _ _ H q (ao.refl _) (.bl _)
def je:List UI->(UI->Prop)->Prop:=λds Q=>∃i:Int,ds=[.int i]/\Q (.int (if i < 0 then -i else i))
def jf:UI->UI->(UI->Prop)->Prop:=λx y Q=>∃ds i d,x=ma ds/\y= .int i/\atI ds i=some d/\Q d
section
variable {X:Cx} {H0:Hp} {O0:Ex}
def jg(t:DT)(tl th:DO):DA:=λδ Q=>t δ λd=>tl δ λl=>th δ λu=>∃xs,d=ma xs/\Q (bx xs l u)
end
def jh:UI->UI->(UI->Prop)->Prop:=λx y Q=>∃(z:Str)(n:Int),x= .str z/\y= .int n/\MulOk z n/\Q (.str (Txt.mul z n))
structure Rw where
 w:Str
 n:Int
 nm:Str
 r:List UI
abbrev Ls:=List (Str×Rw)
open PySem PySem.Spec PyProof.Rows PySem.W PySem.Calls
theorem IL(t:VW)(n:Nat):(t.orStandIn n).led=t.led:=by unfold SetTable.orStandIn;split <;> rfl
theorem IM(t:VW)(es:Array (Int×UJ))(h:Int)(x:UJ):(layNew t es h x).2.1.led=t.led:=by
 unfold layNew;split
 ·exact IL _ _
 ·rfl
theorem IP(t:VW)(es:Array (Int×UJ))(n:Nat):(V6 t es n).2.1.led=t.led:=by
 unfold V6 TZ Uc;cases Tt (Th n - 1) (es.map (·.1)) with
 | none=>rfl
 | some ow=>simp only [bind,Ut,pure];split <;> rfl
theorem IQ(t:VW)(es:Array (Int×UJ))(n:Nat):(V6 t es n).2.1.plain=true->t.plain=true:=by
 unfold V6 TZ Uc;cases Tt (Th n - 1) (es.map (·.1)) with
 | none=>intro e;cases e
 | some ow=>
  simp only [bind,Ut,pure];split
  ·exact id
  ·intro e;cases e
abbrev lY(w:UZ):Bool:=w.params.followText "set-order"
structure IS (P:UX) (w:UZ) (o:Obj) (ss:List Str):Prop where
 ex:o.ExactSet
 da:∃es ep t,o.data= .set es ep t/\ElemsOf (strKind P w) es.toList/\(∃ss',Ve (es.toList.map (·.2)) ss'/\ss'.Perm ss)/\es.size < VL/\t.fits es.size=true/\(lY w=true\/t.led=true)/\(es.size≠0->t.plain=false)
def kD(P:UX)(w:UZ)(h:UW)(a:UL)(ss:List Str):Prop:=∃o,h.get? a=some o/\IS P w o ss
theorem CK{k:Str}:∀{vs:List UJ}{ss:List Str},Ve vs ss->((∃v∈vs,v.isStrOf k=true)↔k∈ss)
 | _,_,.nil=>by simp
 | _,_,.cons x t r=>by
  have ih:=CK (k:=k) r;constructor
  ·rintro⟨v,hv,e⟩;rcases NO.mp hv with z | z
   ·subst z;obtain⟨u,e'⟩:=S5 e;cases e';exact PJ
   ·exact OZ _ (ih.mp ⟨v,z,e⟩)
  ·intro hk;rcases NO.mp hk with z | z
   ·subst z;exact⟨_,PJ,by simp [T9]⟩
   ·obtain⟨v,hv,e⟩:=ih.mpr z;exact⟨v,OZ _ hv,e⟩
theorem tU{vs vs':List UJ}(p:vs'.Perm vs):∀{ss:List Str},Ve vs ss->∃ss',Ve vs' ss'/\ss'.Perm ss:=by
 induction p with
 | nil=>intro ss h;exact⟨ss,h,.refl _⟩
 | cons x p ih=>
  intro ss h;cases h with
  | cons y t r=>obtain⟨s1,a,b⟩:=ih r;exact⟨y::s1,.cons y t a,b.cons y⟩
 | swap x y l=>
  intro ss h;cases h with
  | cons a t r=>cases r with | cons b u r=>exact⟨b::a::_,.cons b u (.cons a t r),.swap _ _ _⟩
 | trans p q ih1 ih2=>
  intro ss h;obtain⟨s1,a,b⟩:=ih2 h;obtain⟨s2,c,d⟩:=ih1 a;exact⟨s2,c,d.trans b⟩
theorem CL{x:Str}{t:Tok}:∀{vs:List UJ}{ss:List Str},Ve vs ss->Ve (vs++[.str x t]) (ss++[x])
 | _,_,.nil=>.cons x t .nil
 | _,_,.cons y u r=>.cons y u (CL r)
theorem r6:∀{vs:List UJ}{ss:List Str},Ve vs ss->vs.length=ss.length
 | _,_,.nil=>rfl
 | _,_,.cons y u r=>by simp [r6 r]
def kl(ss:List Str)(x:Str):List Str:=if x∈ss then ss else ss++[x]
section
variable {P:UX} {w:UZ} {A:U1} {E:UJ->UM->Prop} {s:UM}
theorem kD.mk{h:UW}{a:UL}{o:Obj}{es es':Array (Int×UJ)}{ep:Nat}{t t':VW}{ss:List Str}(o1:h.get? a=some o)(x1:o.ExactSet)(d1:o.data= .set es ep t)
 (el:ElemsOf (strKind P w) es'.toList)(sp:∃ss',Ve (es'.toList.map (·.2)) ss'/\ss'.Perm ss)(b1:es'.size < VL)(f1:t'.fits es'.size=true)(l1:lY w=true\/t'.led=true)(p1:es'.size≠0->t'.plain=false):
 (h.update a (Sb es' t')).get? a=some {o with data:= .set es' (ep+1) t'}/\kD P w (h.update a (Sb es' t')) a ss:=by
 have g:(h.update a (Sb es' t')).get? a=some {o with data:= .set es' (ep+1) t'}:=by
  have z:=Pj (Sb es' t') o1 (by rw [putSet_of es' t' d1];rfl);rw [putSet_of es' t' d1] at z;exact z
 exact⟨g,_,g,x1,es',ep+1,t',rfl,el,sp,b1,f1,l1,p1⟩
theorem CM{g:Bool->Sem Unit}(hg:∀(b:Bool) (s₁:UM) (Q':Unit->UM->Prop),Q' () s₁->UO (UP P w) A (g b) Q' E s₁)
 {a:UL}{o:Obj}{es:Array (Int×UJ)}{ep:Nat}{t:VW}(o1:s.heap.get? a=some o)(x1:o.ExactSet)(d1:o.data= .set es ep t)
 {es1:Array (Int×UJ)}{t2:VW}{ss:List Str}(el:ElemsOf (strKind P w) es1.toList)(sp:∃ss',Ve (es1.toList.map (·.2)) ss'/\ss'.Perm ss)
 (b1:es1.size < VL)(f2:t2.fits es1.size=true)(l2:lY w=true\/t2.led=true)(p2:t2.plain=false){wd:Bool}{R:Option Bool->UM->Prop}
 (h:∀h',Qv a s.heap h'->kD P w h' a ss->R (some true) {s with heap:=h'}):
 UO (UP P w) A (do
  storeSet a es1 t2
  if (!wd && t2.tooFull)=true then do
   g (V6 t2 es1 (Qu es1.size)).2.2
   storeSet a (V6 t2 es1 (Qu es1.size)).1 (V6 t2 es1 (Qu es1.size)).2.1
   pure (some true)
   else pure (some true)) R E s:=by
 refine UK (wpAny_storeSet_of o1 d1 ?_ (fits_of_scanBound b1));obtain⟨o2,S2⟩:=kD.mk (P:=P) o1 x1 d1 el sp b1 f2 l2 (λ_=>p2);have sb:=Py s.heap a (Sb es1 t2);split
 ·have rp:=relayAll_perm t2 es1 (Qu es1.size);have rf:=relayAll_fits t2 es1 (Qu es1.size);have rl:=IP t2 es1 (Qu es1.size);have rq:=IQ t2 es1 (Qu es1.size);generalize V6 t2 es1 (Qu es1.size)=Z at rp rf rl rq⊢;obtain⟨es2,t3,gv⟩:=Z;dsimp only at rp rf rl rq⊢;have sz:es2.size=es1.size:=by rw [<-N0,rp.length_eq,N0]
  obtain⟨ss',q1,q2⟩:=sp;obtain⟨ss2,q3,q4⟩:=tU (rp.map (·.2)) q1;refine UK (hg _ _ _ (UK (wpAny_storeSet_of o2 rfl ?_ (fits_of_scanBound (by rw [sz];exact b1)))));obtain⟨_,S3⟩:=kD.mk (P:=P) (w:=w) (t':=t3) o2 x1 rfl (el.perm rp) ⟨ss2,q3,q4.trans q2⟩ (by rw [sz];exact b1) rf (by rw [rl];exact l2) (λ_=>by
   cases hb:t3.plain with
   | false=>rfl
   | true=>rw [rq hb] at p2;cases p2)
  exact UN (h _ (sb.trans (Py _ a _)) S3)
 ·exact UN (h _ sb S2)
theorem IT{a:UL}{ss:List Str}{x:Str}{tk:Tok}{Q:Bool->UM->Prop}(hS:kD P w s.heap a ss)(hroom:ss.length+1 < VL)
 (h:∀h' b,Qv a s.heap h'->kD P w h' a (kl ss x)->Q b {s with heap:=h'}):
 UO (UP P w) A (setAddHashed a (.str x tk) (hashStr w x)) Q E s:=by
 obtain⟨o,o1,x1,es,ep,t,d1,el,⟨ss',s1,s2⟩,b1,f1,l1,p1⟩:=hS;have hk:(strKind P w).is x (.str x tk)=true:=strKind_is _ _ _ _;have hsc:(Q4 x tk).scannable=true:=rfl;have ln:es.size=ss.length:=by rw [<-s2.length_eq,<-r6 s1,NS,N0]
 unfold setAddHashed setAddHashedIn;refine Vc (UK (Vy o1 d1 f1 ?_));dsimp only;rw [byScan_of hsc b1 el,UE rfl];unfold setAddByScan;refine UK (UK (VO (UK (wpAny_setScan_of hk o1 d1 f1 el ?_))));have mem:(∃e∈es.toList,(strKind P w).is x e.2=true)↔x∈ss:=by
  rw [<-s2.mem_iff,<-CK s1];constructor
  ·rintro⟨e,he,q⟩;exact⟨e.2,Pb.mpr ⟨e,he,rfl⟩,q⟩
  ·rintro⟨v,hv,q⟩;obtain⟨e,he,rfl⟩:=Pb.mp hv;exact⟨e,he,q⟩
 cases hr:List.findIdx? (λe=>(strKind P w).is x e.2) es.toList with
 | some j=>
  obtain⟨hj,hp,_⟩:=List.findIdx?_eq_some_iff_getElem.mp hr;have hx:x∈ss:=mem.mp ⟨_,Qk hj,hp⟩;refine UN (UN ?_);have z:=h s.heap false (Qv.refl a s.heap) (by unfold kl;rw [UE hx];exact⟨o,o1,x1,es,ep,t,d1,el,⟨ss',s1,s2⟩,b1,f1,l1,p1⟩);have e:s={s with heap:=s.heap}:=by cases s;rfl
  rw [e];exact z
 | none=>
  dsimp only;have hx:x ∉ ss:=λz=>by
   obtain⟨e,he,q⟩:=mem.mpr z;have:=List.findIdx?_eq_none_iff.mp hr e he;rw [q] at this;cases this
  have eS:kl ss x=ss++[x]:=UD hx;rw [eS] at h;have lp:=layNew_perm t es (hashStr w x) (.str x tk);have lf:=layNew_fits t es (hashStr w x) (.str x tk);have ll:=IM t es (hashStr w x) (.str x tk);generalize layNew t es (hashStr w x) (.str x tk)=L at lp lf ll⊢;obtain⟨es1,t1,wd,gv⟩:=L;dsimp only at lp lf ll⊢;rw [Tu] at lp;have el1:ElemsOf (strKind P w) es1.toList:=(el.push hk hsc).perm lp;have sp1:∃ss',Ve (es1.toList.map (·.2)) ss'/\ss'.Perm (ss++[x]):=by
   have s3:Ve ((es.toList++[(hashStr w x,Q4 x tk)]).map (·.2)) (ss'++[x]):=by
    rw [P0];exact CL s1
   obtain⟨s4,q1,q2⟩:=tU (lp.map (·.2)) s3;exact⟨s4,q1,q2.trans (s2.append_right _)⟩
  have n1:es1.size=es.size+1:=by rw [<-N0,lp.length_eq];simp
  have b2:es1.size < VL:=UC
  have l2:lY w=true\/t1.led=true:=by rw [ll];exact l1
  have gw:∀(b:Bool)(s₁:UM)(Q':Unit->UM->Prop),Q' () s₁->UO (UP P w) A (match b with | true=>rule "set.scan.the-table-gave-way" | false=>pure ()) Q' E s₁:=
   λb s₁ Q' z=>by cases b <;> first | exact UN z | exact VO z
  refine UK (gw _ _ _ ?_);split
  ·refine UK ?_;rw [hashByValue_scannable 8 hsc];refine UN ?_;refine CM gw o1 x1 d1 el1 sp1 b2 (SetTable.fits_plain_off lf) l2 rfl λh' sb S'=>UN (h h' true sb S')
  ·rename_i hp;refine UK (UN ?_);rw [UE rfl];exact CM gw o1 x1 d1 el1 sp1 b2 lf l2 (by simpa using hp) λh' sb S'=>UN (h h' true sb S')
end
def nZ(val:Nat->Str)(i:Nat):List Str:=((PH i).map val).foldl kl []
theorem CN(val:Nat->Str)(i:Nat):nZ val (i+1)=kl (nZ val i) (val i):=by
 unfold nZ;rw [QR,P0,List.foldl_append];rfl
theorem CO(val:Nat->Str):∀i,(nZ val i).length<=i
 | 0=>NV _
 | i+1=>by
  have ih:=CO val i;rw [CN];unfold kl;split
  ·omega
  ·simp;omega
theorem IU{ss:List Str}{x:Str}(h:ss.Nodup):(kl ss x).Nodup:=by
 unfold kl;split
 ·exact h
 ·rename_i hx;refine List.nodup_append.mpr ⟨h,UH,λa ha b hb=>?_⟩;rw [PM] at hb;subst hb;intro e;subst e;exact hx ha
theorem IV{ss:List Str}{x y:Str}:y∈kl ss x↔y∈ss\/y=x:=by
 unfold kl;split
 ·rename_i hx;exact⟨.inl,λz=>z.elim id λe=>by subst e;exact hx⟩
 ·simp
theorem wJ{y:Str}:∀{l ss:List Str},y∈l.foldl kl ss↔y∈ss\/y∈l
 | [],ss=>by simp
 | a::l,ss=>by rw [Qg,wJ,IV,NO];exact or_assoc
theorem wK:∀{l ss:List Str},ss.Nodup->(l.foldl kl ss).Nodup
 | [],_,h=>h
 | a::l,_,h=>by rw [Qg];exact wK (IU h)
theorem kD.stay{P:UX}{w:UZ}{h h':UW}{a:UL}{ss:List Str}(x:kD P w h a ss)(k:∀o,h.get? a=some o->h'.get? a=some o):kD P w h' a ss:=
 let ⟨o,e,r⟩:=x;⟨o,k o e,r⟩
section
variable {P:UX} {w:UZ} {A:U1} {R:Result->UM->Prop} {I:UL} {fp wr:List UL} {G:Array V4->Array V4->Prop} {n:Nat} {Pv:Nat->UJ->Prop} {St:Nat->UM->Prop}
theorem IW(W:WalksS P w A.in1 I fp wr G n Pv St)(S:UL)(hSf:S ∉ fp)(val:Nat->Str)(hval:∀i v,Pv i v->∃t,v= .str (val i) t)(hb:n+1 < VL):
 ∀(k i:Nat)(s:UM),n - i=k->i<=n->St i s->kD P w s.heap S (nZ val i)->
  (∀s',Moved (S::wr) G s s'->kD P w s'.heap S (nZ val n)->R (.ok (.ret .none)) s')->VC (UP P w) A (.builtin "set.update.loop" ⟨[.ref S,.ref I],[]⟩) R s:=by
 have sw:S ∉ wr:=λz=>hSf (W.sub _ z);have sub:∀b∈wr,b∈S::wr:=λb z=>OZ _ z;intro k
 induction k with
 | zero=>
  intro i s e1 e2 st hS q;obtain rfl:i=n:=UC
  refine Vv Rk ?_;rw [QF Qx _];show UO _ A.in1 (Vx (.ref I) >>=_) _ _ s;exact UK (W.done s _ _ st λs' m=>UN (q s' (m.mono sub) (hS.stay λo e=>m.heap S o sw e)))
 | succ k ih=>
  intro i s e1 e2 st hS q;have lt:i < n:=UC
  refine Vv Rk ?_;rw [QF Qx _];show UO _ A.in1 (Vx (.ref I) >>=_) _ _ s;refine UK (W.item i s _ _ lt st λv s' hP st' m=>?_);obtain⟨t,rfl⟩:=hval i v hP;have hS':=hS.stay (h':=s'.heap) λo e=>m.heap S o sw e;show UO _ A.in1 (holding [Q4 (val i) t] (setAdd S (.str (val i) t)) >>=_) _ _ s';refine UK (Vc ?_);unfold setAdd;refine Vc (UK ((strKind P w).pyHash (k:=val i) (strKind_is _ _ _ _) ?_));have rm:(nZ val i).length+1 < VL:=by have:=CO val i;omega
  refine IT (s:={s' with toks:=s'.toks+1}) hS' rm λh' b sb S2=>?_;rw [<-CN] at S2;refine UN ⟨V3 Qx _,ih (i+1) _ UC lt (W.frame _ s' _ _ st' (Q7 _) λb hb o e=>?_) S2 λs2 m2 S3=>?_⟩
  ·rw [sb.2 b (λz:b=S=>hSf (by rw [<-z];exact hb))];exact e
  ·refine q s2 (Moved.trans W.gtrans ((m.mono sub).then_heap (Q7 _) λb o hb e=>?_) m2) S3;rw [sb.2 b (λz:b=S=>hb (by rw [z];exact PJ))];exact e
end
section
variable {P:UX} {w:UZ} {A:U1} {E:UJ->UM->Prop} {s:UM}
theorem IX(a:UJ){Q₁:UJ->UM->Prop}
 (h:Q₁ (.ref s.heap.objs.size) {s with heap:=s.heap.push {cls:= .type "set",dict:=none,data:= .set #[] 0 (.fresh 0 0 (!lY w))}}):
 VC (UP P w) A (.call (.builtin "set.__new__") ⟨[.type "set",a],[]⟩) (wants Q₁ E) s:=by
 refine codeAny_of_tree ?_;show UO _ A.in1 (VP "set.__new__" ⟨[.type "set",a],[]⟩ >>=λ_=>again (.builtin "set.__new__" ⟨[.type "set",a],[]⟩)) _ _ s;refine UK (V2 (PySem.F.newCall_set_1 a) (UN ⟨V3 SK _,Vv PySem.F.entry_set_new ?_⟩));rw [QF SK _];unfold Builtin.«set.__new__» Builtin.Frozenset.newClass;have hsb:=sub_set_self;obtain⟨hp,g,d,tk,os⟩:=s;dsimp only
 wp_walk
 refine VE (UN ?_);dsimp only;simp only [newObj];exact UK (wpAny_alloc (UN (UN h)))
theorem kD.fresh{h:UW}{a:UL}(e:h.get? a=some {cls:= .type "set",dict:=none,data:= .set #[] 0 (.fresh 0 0 (!lY w))}):kD P w h a []:=by
 refine⟨_,e,⟨rfl,rfl,rfl⟩,#[],0,_,rfl,λe he=>by simp at he,⟨[],.nil,.refl _⟩,Ce,rfl,?_,λz=>absurd rfl z⟩;cases hb:lY w with
 | true=>exact .inl rfl
 | false=>exact .inr rfl
theorem IY{l:UL}{items:Array UJ}{ss:List Str}{Q:UJ->UM->Prop}
 (hh:A.handled=none)(hl:s.heap.IsList l items)(hi:Ve items.toList ss)(hb:items.size+1 < VL)
 (h:∀(h':UW) (tk:Nat),kD P w h' s.heap.objs.size (ss.foldl kl [])->(∀b o,s.heap.get? b=some o->h'.get? b=some o)->Q (.ref s.heap.objs.size) {s with heap:=h',toks:=tk}):
 UO (UP P w) A (call (.type "set") [.ref l]) Q E s:=by
 obtain⟨c,tl,hmro⟩:=PySem.F.called_set.mro;have hmade:=PySem.F.called_set.made;have hsub:=PySem.F.called_set.sub;refine VZ (codeAny_of_tree ?_);show UO _ _ (callAny (.type "set") _) _ _ _;refine UN ⟨Rj _ td,Vv PySem.F.entry_type_call ?_⟩;rw [Around.under_plain (weight_type_call_type "set" [.ref l] []) rfl];have h1:=PySem.F.called_set.notType;have h2:=PySem.F.called_set.canCreate;have hct:=PySem.F.typeCall_set_1 (.ref l)
 repeat (any_goals (first | assumption | wp_step))
 generalize hob:({cls:= .type "set",dict:=none,data:= .set #[] 0 (.fresh 0 0 (!lY w))}:Obj)=ob;refine Vs (IX (P:=P) (w:=w) (.ref l) (E:=E) (Q₁:=λu s₁=>u= .ref s.heap.objs.size/\s₁={s with heap:=s.heap.push ob}) (by subst hob;exact⟨rfl,rfl⟩)) λr s₁ hr=>?_;cases r with
 | error e=>exact hr
 | ok fl=>
  cases fl with
  | ret u=>
   obtain⟨rfl,rfl⟩:=hr;have hS:(s.heap.push ob).get? s.heap.objs.size=some ob:=N7 _ (by subst hob;rfl);have hT:Shared.TypeIs {s with heap:=s.heap.push ob} (.ref s.heap.objs.size) "set":=⟨_,hS,by subst hob;rfl⟩;have hli:=PySem.F.called_set.init.lookup;have hbi:=PySem.F.called_set.init.bind (.ref s.heap.objs.size)
   repeat (any_goals (first | assumption | wp_step))
   refine Vs (Vp (R:=wants (λr s₂=>r= .none/\∃h' tk,s₂={s with heap:=h',toks:=tk}/\kD P w h' s.heap.objs.size (ss.foldl kl [])/\∀b o,s.heap.get? b=some o->h'.get? b=some o) E)
    PySem.F.called_set.init.plain PySem.F.entry_set_init (check_set_init_1 hT ?_)) λr₂ s₂ hr₂=>?_
   ·obtain⟨ol,o1,c1,nl,d1⟩:=hl;obtain⟨oc,od,oda,osl⟩:=ol;simp only at c1 d1;subst c1;subst d1;have o2:(s.heap.push ob).get? l=some {cls:= .type "list",dict:=od,data:= .seq items nl,slots:=osl}:=NK _ o1;have q1:=PySem.F.sub_list_set;have q2:=PySem.F.sub_list_frozenset;have q3:(Q5 "list"==Q5 "dict")=false:=Ce
    have l1:(s.heap.push ob).IsList l items:=⟨_,o2,rfl,nl,rfl⟩;subst hob;unfold Builtin.«set.__init__» noKeywords Builtin.Frozenset.updateFrom;generalize hPI:pyIter=PI
    wp_walk
    subst hPI;refine Wt l1 ?_;refine UK (wpAny_runValue ?_);have ll:l < s.heap.objs.size:=NW o1;have sz:∀ob:Obj,(s.heap.push ob).objs.size=s.heap.objs.size+1:=λ_=>Qb _ _;have n1:∀ob:Obj,l≠(s.heap.push ob).objs.size:=λ_=>by rw [sz];exact OJ (PZ ll)
    have n2:∀ob:Obj,s.heap.objs.size ∉ [(s.heap.push ob).objs.size,l]:=λ_=>by
     rw [sz];simp only [NO,NZ,or_false,not_or];exact⟨OJ (QJ _),QZ ll⟩
    have hv:∀(i:Nat)(v:UJ),items[i]?=some v->∃t,v= .str ((λi=>(ss[i]?).getD (NG "")) i) t:=λi v e=>by
     rw [<-SM] at e;have:∀{vs:List UJ}{ss:List Str},Ve vs ss->∀(i:Nat)(v:UJ),vs[i]?=some v->∃t,v= .str ((ss[i]?).getD (NG "")) t:=by
      intro vs ss x
      induction x with
      | nil=>intro i v e;simp at e
      | cons y t r ih=>
       intro i v e;cases i with
       | zero=>simp at e;exact⟨t,by rw [<-e];rfl⟩
       | succ i=>simp only [NR] at e⊢;exact ih i v e
     exact this hi i v e
    have hm:nZ (λi=>(ss[i]?).getD (NG "")) items.size=ss.foldl kl []:=by
     have e:items.size=ss.length:=by rw [<-r6 hi,N0]
     unfold nZ;rw [e];congr 1;apply TL UH;intro i a b;simp at a b⊢;rw [O8 UC];rfl
    refine IW (Uy (show A.in1.in1.in1.handled=none by simp [hh]) _ l (n1 _) items).toS s.heap.objs.size (n2 _) _ hv hb (items.size - 0) 0 _ UC (PU _)
     ⟨⟨_,N7 _ rfl,rfl,rfl⟩,l1.push _⟩ ?hS0 ?hR
    case hS0=>
     exact kD.fresh (NK _ hS)
    case hR=>
     intro s' m S';rw [hm] at S';obtain⟨h',g',d',tk',os'⟩:=s';obtain rfl:g'=s.gens:=m.gens;obtain rfl:d'=s.drawn:=m.drawn;obtain rfl:os'=s.os:=m.os;show UO _ _ _ _ _ _;refine UN (UN ⟨rfl,h',tk',rfl,S',λb o e=>?_⟩);have hb1:b < s.heap.objs.size:=NW e;refine m.heap b o ?_ (NK _ (NK _ e));rw [sz];simp only [NO,NZ,or_false,not_or];exact⟨OJ hb1,OJ (PZ hb1)⟩
   ·cases r₂ with
    | error e=>exact hr₂
    | ok fl₂=>
     cases fl₂ with
     | ret r=>
      obtain⟨rfl,h',tk,rfl,S',k'⟩:=hr₂
      repeat (any_goals (first | assumption | wp_step))
      exact h _ _ S' k'
     | _=>exact hr₂.elim
  | _=>exact hr.elim
end
theorem ni:Slot "set_iterator" "__next__" "set_iterator.__next__":=
 .of (owner:="set_iterator") (n:="__next__") (by rw [typeLookup_type,builtinLookup_eq_fast];kernel_rfl) td td td
  (by first | exact .inl td | exact .inr td) (by rw [isSubtype_type];kernel_rfl)
theorem tV:entryFor table "set_iterator.__next__"=some Builtin.«set_iterator.__next__»:=entryFor_of_tree (by kernel_rfl)
theorem CP:Manifest.owners.lookup (String.ofList ['r','o','t','a','r','e','t','i','_','t','e','s'].reverse)=some Manifest.sig_set_iterator:=by kernel_rfl
theorem tW(a:UJ):argsOk "set_iterator.__next__" ⟨[a],[]⟩:=by
 unfold argsOk;rw [signature?_of (id:="set_iterator.__next__") (n:=['_','_','t','x','e','n','_','_']) (o:=['r','o','t','a','r','e','t','i','_','t','e','s']) (by kernel_rfl) CP];kernel_rfl
theorem IZ:entryFor table "set.__iter__"=some Builtin.«frozenset.__iter__»:=entryFor_alias (id':="frozenset.__iter__") (by kernel_rfl) rfl td (by kernel_rfl)
theorem wL{α:Type}:∀{l:List α}{i:Nat}(h:i < l.length),(l[i]::l.eraseIdx i).Perm l
 | a::l,0,h=>.refl _
 | a::l,i+1,h=>by
  have:=wL (l:=l) (i:=i) (by simpa using h);simp only [List.getElem_cons_succ,List.eraseIdx_cons_succ];exact(List.Perm.swap _ _ _).trans (this.cons a)
theorem CQ{α:Type}(next:Nat->Nat):∀(f k:Nat)(left:List α)(out:Array α),f=left.length->(pickOrder.go next f k left out).toList.Perm (out.toList++left)
 | 0,k,left,out,e=>by
  rw [RM e.symm];unfold pickOrder.go;simp
 | f+1,k,left,out,e=>by
  unfold pickOrder.go;have hlt:next k % left.length < left.length:=Nat.mod_lt _ UC;rw [O8 hlt];refine(CQ next f (k+1) _ _ (by rw [R3 hlt];omega)).trans ?_;rw [Tu,Tq];exact List.Perm.append_left _ (wL hlt)
theorem I0{α:Type}(next:Nat->Nat)(xs:Array α):(Wn next xs).toList.Perm xs.toList:=by
 have:=CQ next xs.size 0 xs.toList #[] UH;simpa [Wn] using this
section
variable {P:UX} {w:UZ} {A:U1} {E:UJ->UM->Prop}
theorem CS{α:Type}:∀(n:Nat)(xs:List α)(s:UM)(Q:List α->UM->Prop),n=xs.length->(∀ys d,ys.Perm xs->Q ys {s with drawn:=d})->UO (UP P w) A (drawOrder n xs) Q E s
 | 0,xs,s,Q,e,q=>by
  rw [RM e.symm] at q⊢;unfold drawOrder;exact UN (q [] s.drawn (.refl _))
 | n+1,[],s,Q,e,q=>by cases e
 | n+1,x::xs,s,Q,e,q=>by
  unfold drawOrder;refine UK ?_;intro Γ p hΓ;refine⟨UH,?_⟩;generalize hi:(UP P w).w.draws .order (s.drawn.get .order)% (x::xs).length=i;have hlt:i < (x::xs).length:=by rw [<-hi];exact Nat.mod_lt _ UH
  have key:UO (UP P w) A (match (x::xs)[i]? with | some y=>(do return y::(<-drawOrder n ((x::xs).eraseIdx i))) | none=>unsupported "internal:drawOrder") Q E {s with drawn:=s.drawn.bump .order}:=by
   rw [O8 hlt];refine UK (CS n _ _ _ (by rw [R3 hlt];simp at e⊢;omega) λys d hp=>UN (q _ d ?_));exact(hp.cons _).trans (wL hlt)
  exact key
end
def lZ(h:UW)(it:UL)(f:UJ)(i:Nat)(a:UL)(n ep:Nat):Prop:=∃o,h.get? it=some o/\o.cls= .type "set_iterator"/\o.data= .fields #[f,.int i 0,.ref a,.int n 0,.int ep 0]
theorem lZ.typeIs{s:UM}{it f i a n ep}(x:lZ s.heap it f i a n ep):s.TypeIs (.ref it) "set_iterator":=let ⟨o,h,c,_⟩:=x;⟨o,h,c⟩
section
variable {P:UX} {w:UZ} {A:U1} {E:UJ->UM->Prop} {s:UM} {a:UL} {o:Obj} {es:Array (Int×UJ)} {ep:Nat} {t:VW}
theorem CT{slot i:Nat}{Q:Option (UJ×Nat)->UM->Prop}(hb:lY w=true)(o1:s.heap.get? a=some o)(d1:o.data= .set es ep t)(f1:t.fits es.size=true)
 (h:Q (((Wn (w.params.setOrder a ep) es)[i]?).map λe=>(e.2,slot)) s):UO (UP P w) A (V0 a slot i ep) Q E s:=by
 unfold V0 setWalk setsByText;refine UK (Vy o1 d1 f1 (UK (UK (VE (UN ?_)))));rw [UE (show(UP P w).w.params.followText "set-order"=true from hb)];rw [UD UH];refine UK (UK (Vy o1 d1 f1 (UK (UK (VE (UN ?_))))));rw [UE (show(UP P w).w.params.followText "set-order"=true from hb)];exact UK (VE (UN (UN h)))
theorem CU{slot i:Nat}{Q:Option (UJ×Nat)->UM->Prop}(hb:lY w=false)(o1:s.heap.get? a=some o)(d1:o.data= .set es ep t)(f1:t.fits es.size=true)(hd:es.size<=1)(hl:t.led=true)
 (h:Q (match es[Rq t.place slot]?,t.place[Rq t.place slot]? with | some (_,x),some j=>some (x,j+1) | _,_=>none) s):UO (UP P w) A (V0 a slot i ep) Q E s:=by
 unfold V0 setsByText;refine UK (Vy o1 d1 f1 (UK (UK (VE (UN ?_)))));rw [UD (show ¬(UP P w).w.params.followText "set-order"=true from by show ¬lY w=true;rw [hb];decide)];show UO _ _ (if (!t.plain && decide (es.size > 1))=true then _ else _) _ _ _;rw [UD (by simp;omega)];refine UK (m:=if (!t.led && !es.isEmpty)=true then unsupported "set:maker-not-led" else pure ()) ?_;rw [UD (by simp [hl])];exact UN (UN h)
theorem Ja{it:UL}{slot slot' i:Nat}{x:UJ}{Q:Option UJ->UM->Prop}(hit:lZ s.heap it (.int slot 0) i a es.size ep)(o1:s.heap.get? a=some o)(d1:o.data= .set es ep t)(f1:t.fits es.size=true)
 (nx:∀E' Q',Q' (some (x,slot')) s->UO (UP P w) A.in1 (V0 a slot i ep) Q' E' s)
 (hQ:∀h',lZ h' it (.int slot' 0) (i+1) a es.size ep->Qv it s.heap h'->Q (some x) {s with heap:=h'}):UO (UP P w) A (Vx (.ref it)) Q E s:=by
 obtain⟨u,u1,c1,e1⟩:=id hit;unfold Vx;refine UK (VS (U5 (name:=NG "__next__") hit.typeIs ni (U8 ni hit.typeIs tV ?_ (tW _))));unfold Builtin.«set_iterator.__next__»;refine UK (m:=slotArgs _ _ _) (UN (UK (Wh u1 e1 ?_)));show UO _ _ (setEntries a >>=_) _ _ s;refine UK (VH o1 d1 f1 ?_);rw [UD UH];show UO _ _ (V0 a ((slot:Int)).toNat ((i:Int)).toNat ((ep:Int)).toNat >>=_) _ _ s;simp only [O9];refine UK (nx _ _ ?_);show UO _ _ (setField (.ref it) 0 (Vn (slot':Int)) >>=_) _ _ s;refine UK (Vr u1 e1 UH ?_);have g1:=Pj (SY (·.setIfInBounds 0 (Vn (slot':Int)))) u1 (Qz (PN e1 _));have k1:=PN e1 (·.setIfInBounds 0 (Vn (slot':Int)));refine UK (Vr g1 k1 UH (UN ⟨x,rfl,UN (hQ _ ?_ ((Py ..).trans (Py ..)))⟩));refine⟨_,Pj _ g1 (Qz (PN k1 _)),(Rv ..).trans ((Rv ..).trans c1),?_⟩;rw [PN k1];simp [Vn]
theorem Jb{it pl:UL}{i k:Nat}{hk:Int}{x:UJ}{ol:Obj}{ps:Array UJ}{nl:Nat}{Q:Option UJ->UM->Prop}(hit:lZ s.heap it (.ref pl) i a es.size ep)(o1:s.heap.get? a=some o)(d1:o.data= .set es ep t)(f1:t.fits es.size=true)
 (l1:s.heap.get? pl=some ol)(l2:ol.data= .seq ps nl)(p1:ps[i]?=some (.int (k:Int) 0))(x1:es[k]?=some (hk,x))
 (hQ:∀h',lZ h' it (.ref pl) (i+1) a es.size ep->Qv it s.heap h'->Q (some x) {s with heap:=h'}):UO (UP P w) A (Vx (.ref it)) Q E s:=by
 obtain⟨u,u1,c1,e1⟩:=id hit;unfold Vx;refine UK (VS (U5 (name:=NG "__next__") hit.typeIs ni (U8 ni hit.typeIs tV ?_ (tW _))));unfold Builtin.«set_iterator.__next__»;refine UK (m:=slotArgs _ _ _) (UN (UK (Wh u1 e1 ?_)));show UO _ _ (setEntries a >>=_) _ _ s;refine UK (VH o1 d1 f1 ?_);rw [UD UH];show UO _ _ (seqItems? (.ref pl) >>=_) _ _ s;refine UK (Vm l1 l2 ?_);simp only [O9,p1];refine UK ?_;unfold setNextDrawn;refine UK (Vy o1 d1 f1 ?_);simp only [O9];rw [UD UH,x1];refine UN (UK (Vr u1 e1 UH (UN ⟨x,rfl,UN (hQ _ ?_ (Py ..))⟩)));refine⟨_,Pj _ u1 (Qz (PN e1 _)),(Rv ..).trans c1,?_⟩;rw [PN e1];simp [Vn]
theorem Jc{it:UL}{slot i:Nat}{Q:Option UJ->UM->Prop}(hh:A.handled=none)(hit:lZ s.heap it (.int slot 0) i a es.size ep)(o1:s.heap.get? a=some o)(d1:o.data= .set es ep t)(f1:t.fits es.size=true)
 (nx:∀E' Q',Q' none s->UO (UP P w) A.in1 (V0 a slot i ep) Q' E' s)
 (hQ:∀h',TC it s.heap h'->Q none {s with heap:=h'}):UO (UP P w) A (Vx (.ref it)) Q E s:=by
 obtain⟨u,u1,c1,e1⟩:=id hit;unfold Vx;refine UK (VS (U5 (name:=NG "__next__") hit.typeIs ni (U8 ni hit.typeIs tV ?_ (tW _))));unfold Builtin.«set_iterator.__next__»;refine UK (m:=slotArgs _ _ _) (UN (UK (Wh u1 e1 ?_)));show UO _ _ (setEntries a >>=_) _ _ s;refine UK (VH o1 d1 f1 ?_);rw [UD UH];show UO _ _ (V0 a ((slot:Int)).toNat ((i:Int)).toNat ((ep:Int)).toNat >>=_) _ _ s;simp only [O9];refine UK (nx _ _ ?_);show UO _ _ (setField (.ref it) 2 .none >>=_) _ _ s;refine UK (Vr u1 e1 UH ?_);refine UK (m:=newExc (.type "StopIteration") []) ?_;simp only [newExc,newTuple];refine UK (U3 ?_ (by size_fits));refine UK (m:=VN _ _) (V2 (a:=Qa) (by first | rfl | (simp only [VN];rfl)) ?_);refine U3 ?_ (by size_fits);simp only [raiseNew];refine UK (wpAny_handled ?_);rw [show A.in1.handled=none from hh];refine UK (UN (wpAny_throw ?_));refine UK (V7 (T:="StopIteration") (b:=true) ⟨_,N7 _ rfl,rfl⟩ isSubtype_stop ?_);exact UN (hQ _ (((Py ..).extBut.push _).push _))
theorem Jd{it pl:UL}{i:Nat}{ol:Obj}{ps:Array UJ}{nl:Nat}{Q:Option UJ->UM->Prop}(hh:A.handled=none)(hit:lZ s.heap it (.ref pl) i a es.size ep)(o1:s.heap.get? a=some o)(d1:o.data= .set es ep t)(f1:t.fits es.size=true)
 (l1:s.heap.get? pl=some ol)(l2:ol.data= .seq ps nl)(p1:ps[i]?=none)
 (hQ:∀h',TC it s.heap h'->Q none {s with heap:=h'}):UO (UP P w) A (Vx (.ref it)) Q E s:=by
 obtain⟨u,u1,c1,e1⟩:=id hit;unfold Vx;refine UK (VS (U5 (name:=NG "__next__") hit.typeIs ni (U8 ni hit.typeIs tV ?_ (tW _))));unfold Builtin.«set_iterator.__next__»;refine UK (m:=slotArgs _ _ _) (UN (UK (Wh u1 e1 ?_)));show UO _ _ (setEntries a >>=_) _ _ s;refine UK (VH o1 d1 f1 ?_);rw [UD UH];show UO _ _ (seqItems? (.ref pl) >>=_) _ _ s;refine UK (Vm l1 l2 ?_);simp only [O9,p1];show UO _ _ (setField (.ref it) 0 (Vn 0) >>=_) _ _ s;refine UK (Vr u1 e1 UH ?_);have g1:=Pj (SY (·.setIfInBounds 0 (Vn 0))) u1 (Qz (PN e1 _));have k1:=PN e1 (·.setIfInBounds 0 (Vn 0));refine UK (Vr g1 k1 UH ?_);refine UK (m:=newExc (.type "StopIteration") []) ?_;simp only [newExc,newTuple];refine UK (U3 ?_ (by size_fits));refine UK (m:=VN _ _) (V2 (a:=Qa) (by first | rfl | (simp only [VN];rfl)) ?_);refine U3 ?_ (by size_fits);simp only [raiseNew];refine UK (wpAny_handled ?_);rw [show A.in1.handled=none from hh];refine UK (UN (wpAny_throw ?_));refine UK (V7 (T:="StopIteration") (b:=true) ⟨_,N7 _ rfl,rfl⟩ isSubtype_stop ?_);exact UN (hQ _ ((((Py ..).trans (Py ..)).extBut.push _).push _))
end
theorem CV:Slot "set_iterator" "__iter__" "set_iterator.__iter__":=
 .of (owner:="set_iterator") (n:="__iter__") (by rw [typeLookup_type,builtinLookup_eq_fast];kernel_rfl) td td td
  (by first | exact .inl td | exact .inr td) (by rw [isSubtype_type];kernel_rfl)
theorem Je:entryFor table "set_iterator.__iter__"=some Builtin.«dict_keyiterator.__iter__»:=entryFor_alias (id':="dict_keyiterator.__iter__") (by kernel_rfl) rfl td (by kernel_rfl)
theorem Jf(a:UJ):argsOk "set_iterator.__iter__" ⟨[a],[]⟩:=by
 unfold argsOk;rw [signature?_of (id:="set_iterator.__iter__") (n:=['_','_','r','e','t','i','_','_']) (o:=['r','o','t','a','r','e','t','i','_','t','e','s']) (by kernel_rfl) CP];kernel_rfl
theorem lZ.at{h h':UW}{it f i a n ep}(x:lZ h it f i a n ep)(e:∀o,h.get? it=some o->h'.get? it=some o):lZ h' it f i a n ep:=let ⟨o,ho,r⟩:=x;⟨o,e _ ho,r⟩
section
variable {P:UX} {w:UZ} {A:U1} {E:UJ->UM->Prop} {s:UM} {a:UL} {o:Obj} {es:Array (Int×UJ)} {ep:Nat} {t:VW}
theorem CW{it:UL}{f:UJ}{i n:Nat}{Q:UJ->UM->Prop}(hit:lZ s.heap it f i a n ep)(h:Q (.ref it) s):UO (UP P w) A (pyIter (.ref it)) Q E s:=by
 refine wpAny_pyIter_slot hit.typeIs CV (U8 CV hit.typeIs Je ?_ (Jf _));exact UK (m:=slotArgs _ _ _) (UN (UN ⟨_,rfl,"set_iterator",_,hit.typeIs,ni.lookup,h⟩))
theorem CY(hh:A.handled=none)(it:UL)(hne:a≠it)(d1:o.data= .set es ep t)(f1:t.fits es.size=true)(vs:List UJ)(hl:vs.length=es.size)(sl:Nat->Nat)
 (nx:∀(s:UM) (i:Nat) (h:i < vs.length) E' Q',s.heap.get? a=some o->Q' (some (vs[i],sl (i+1))) s->UO (UP P w) A.in1 (V0 a (sl i) i ep) Q' E' s)
 (nd:∀(s:UM) E' Q',s.heap.get? a=some o->Q' none s->UO (UP P w) A.in1 (V0 a (sl es.size) es.size ep) Q' E' s):
 Walks P w A it [it,a] [it] es.size (λi v=>vs[i]?=some v) (λi h=>lZ h it (.int (sl i:Nat) 0) i a es.size ep/\h.get? a=some o) where
 sub:=λb hb=>by rw [PM] at hb;simp [hb]
 frame:=λ_ _ _ st hk=>⟨st.1.at λo e=>hk it UH o e,hk a UH o st.2⟩
 item:=λi s Q E hi st hQ=>by
  have hi':i < vs.length:=UC
  refine Ja st.1 st.2 d1 f1 (λE' Q' q=>nx s i hi' E' Q' st.2 q) λh' it' sb=>?_;exact hQ _ h' s.toks (by simp [hi']) ⟨it',by rw [sb.2 a hne];exact st.2⟩ λb u hb e=>sb.extBut b u (λz=>hb (by simp [z])) e
 done:=λs Q E st hQ=>Jc hh st.1 st.2 d1 f1 (λE' Q' q=>nd s E' Q' st.2 q) λh' he=>hQ h' s.toks λb u hb e=>he b u (λz=>hb (by simp [z])) e
 self:=λ_ _ _ _ st hQ=>CW st.1 hQ
theorem Jg(hh:A.handled=none)(it pl:UL)(hne:a≠it)(hnp:pl≠it)(d1:o.data= .set es ep t)(f1:t.fits es.size=true)(vs:List UJ)(ks:List Nat){ol:Obj}{nl:Nat}(l2:ol.data= .seq (ks.map λ(k:Nat)=>RH (k:Int) 0).toArray nl)
 (hl:ks.length=es.size)(hv:∀i k:Nat,ks[i]?=some k->∃h x,es[k]?=some (h,x)/\vs[i]?=some x):
 Walks P w A it [it,a,pl] [it] es.size (λi v=>vs[i]?=some v) (λi h=>lZ h it (.ref pl) i a es.size ep/\h.get? a=some o/\h.get? pl=some ol) where
 sub:=λb hb=>by rw [PM] at hb;simp [hb]
 frame:=λ_ _ _ st hk=>⟨st.1.at λo e=>hk it UH o e,hk a UH o st.2.1,hk pl UH ol st.2.2⟩
 item:=λi s Q E hi st hQ=>by
  have hi':i < ks.length:=UC
  obtain⟨h,x,e1,e2⟩:=hv i ks[i] (by simp [hi']);refine Jb st.1 st.2.1 d1 f1 st.2.2 l2 (k:=ks[i]) (by simp [hi']) e1 λh' it' sb=>?_;exact hQ _ h' s.toks e2 ⟨it',by rw [sb.2 a hne];exact st.2.1,by rw [sb.2 pl hnp];exact st.2.2⟩ λb u hb e=>sb.extBut b u (λz=>hb (by simp [z])) e
 done:=λs Q E st hQ=>Jd hh st.1 st.2.1 d1 f1 st.2.2 l2 (by simp [hl]) λh' he=>hQ h' s.toks λb u hb e=>he b u (λz=>hb (by simp [z])) e
 self:=λ_ _ _ _ st hQ=>CW st.1 hQ
theorem CZ{j k:Nat}:Rq #[j] k=if j < k then 1 else 0:=by
 unfold Rq;show Tv #[j] k 1 0 1=_;simp [Tv]
theorem Jh{ss:List Str}{Q:UJ->UM->Prop}(hh:A.handled=none)(hS:kD P w s.heap a ss)
 (q:∀(I:UL) (h1:UW) (d1:Drawn) (vs:List UJ) (fp wr:List UL) (n:Nat) (St:Nat->UW->Prop),(∀b u,s.heap.get? b=some u->h1.get? b=some u)->(∃ss',Ve vs ss'/\ss'.Perm ss)->n=ss.length->
  Walks P w A I fp wr n (λi v=>vs[i]?=some v) St->St 0 h1->(∀b∈fp,b=a\/s.heap.objs.size<=b)->(∀b∈wr,s.heap.objs.size<=b)->vs.length=n->(∀b∈fp,b < h1.objs.size)->Q (.ref I) {s with heap:=h1,drawn:=d1}):
 UO (UP P w) A (pyIter (.ref a)) Q E s:=by
 obtain⟨o,o1,x1,es,ep,t,d1,el,⟨ss',s1,s2⟩,b1,f1,l1,p1⟩:=hS;have hT:s.TypeIs (.ref a) "set":=⟨o,o1,x1.1⟩;have la:a < s.heap.objs.size:=NW o1;have ln:es.size=ss.length:=by rw [<-s2.length_eq,<-r6 s1,NS,N0]
 refine wpAny_pyIter_slot hT SN (U8 SN hT IZ ?_ (PySem.F.args_set_iter_1 _));unfold Builtin.«frozenset.__iter__»;refine UK (m:=Builtin.Frozenset.slot0 _ _) (UN ?_);refine UK (m:=Builtin.Frozenset.sizeOf a) (UK (VH o1 d1 f1 (UN ?_)));refine UK (m:=setDrawn a) ?_;unfold setDrawn setsByText;refine UK (Vy o1 d1 f1 (UK (UK (VE (UN (UN ?_))))));show UO _ _ (if (!(lY w) && (!t.plain && decide (es.size > 1)))=true then _ else _) _ _ _;have lastly:∀(f:UJ)(h1:UW)(d:Drawn),h1.get? a=some o->(∀I h2,h2=h1.push {cls:= .type "set_iterator",data:= .fields #[f,.int (0:Nat) 0,.ref a,.int es.size 0,.int ep 0]}->I=h1.objs.size->Q (.ref I) {s with heap:=h2,drawn:=d})->
  UO (UP P w) A.in1 (setEpoch a >>=λe=>newFields "set_iterator" [f,Vn 0,.ref a,Vn es.size,Vn e] >>=λv=>ret v)
   (λfin s'=>∃v,fin= .done (.ret v)/\∃T' r,s'.TypeIs v T'/\typeLookup (.type T') "__next__"=pure (some r)/\Q v s') E {s with heap:=h1,drawn:=d}:=by
  intro f h1 d e1 k;refine UK (wpAny_setEpoch_of (s:={s with heap:=h1,drawn:=d}) e1 d1 f1 ?_);refine UK (U3 (UN ?_));exact⟨_,rfl,"set_iterator",_,⟨_,N7 _ rfl,rfl⟩,ni.lookup,k _ _ rfl rfl⟩
 have szp:∀(h:UW)(ob:Obj),(h.push ob).objs.size=h.objs.size+1:=λ_ _=>Qb _ _;have n0:a≠s.heap.objs.size:=OJ la;by_cases hdr:(!(lY w) && (!t.plain && decide (es.size > 1)))=true
 ·rw [UE hdr];refine UK (CS es.size (PH es.size) s _ UH λks d hp=>UK (m:=newTuple _) (U3 ?_ ?_))
  ·have lk:ks.length=es.size:=by rw [hp.length_eq,QY]
   refine lastly _ (s.heap.push _) d (NK _ o1) λI h2 e2 eI=>?_;subst e2 eI;have k1:a≠(s.heap.push {cls:= .type "tuple",data:= .seq (ks.map λ(i:Nat)=>Vn i).toArray}).objs.size:=by rw [szp];exact OJ (PZ la)
   have k2:s.heap.objs.size≠(s.heap.push {cls:= .type "tuple",data:= .seq (ks.map λ(i:Nat)=>Vn i).toArray}).objs.size:=by rw [szp];exact OJ (QJ _)
   have pm:(ks.map λk=>((es[k]?).map (·.2)).getD .none).Perm (es.toList.map (·.2)):=by
    refine(hp.map _).trans (.of_eq ?_);apply TL UH;intro i a b;simp at a b⊢;rw [Rb a];rfl
   obtain⟨ss2,q3,q4⟩:=tU pm s1;refine q _ _ d _ _ _ es.size _ (λb u e=>NK _ (NK _ e)) ⟨ss2,q3,q4.trans s2⟩ ln
    (Jg hh _ _ k1 k2 d1 f1 _ ks rfl lk (λi k e=>?_)) ⟨⟨_,N7 _ rfl,rfl,rfl⟩,NK _ (NK _ o1),NK _ (N7 _ rfl)⟩ (λb hb=>?_) (λb hb=>?_) (by simp [lk]) (λb hb=>?_)
   ·have hk:k < es.size:=by
     have:=hp.mem_iff.mp (PL e);simpa using this
    refine⟨es[k].1,es[k].2,by simp [hk],?_⟩;rw [PY,e];simp [hk]
   ·simp only [NO,NZ,or_false] at hb;rcases hb with rfl | rfl | rfl
    ·right;rw [szp];exact Q7 _
    ·left;rfl
    ·right;exact NV _
   ·rw [PM] at hb;rw [hb,szp];exact Q7 _
   ·simp only [NO,NZ,or_false] at hb;rw [szp,szp];rcases hb with rfl | rfl | rfl
    ·rw [szp];exact QJ _
    ·exact PZ (PZ la)
    ·exact PZ (QJ _)
  ·unfold sizeOk;simp [hp.length_eq];have:VL=4096:=rfl;have:UR=16777216:=by first | rfl | exact UY
   omega
 ·rw [UD hdr];refine UK (UN ?_);have e0:s={s with heap:=s.heap,drawn:=s.drawn}:=by cases s;rfl
  show UO _ _ _ _ _ {s with heap:=s.heap,drawn:=s.drawn};refine lastly _ s.heap s.drawn o1 λI h2 e2 eI=>?_;subst e2 eI;have fpa:∀b∈[s.heap.objs.size,a],b=a\/s.heap.objs.size<=b:=λb hb=>by
   simp only [NO,NZ,or_false] at hb;rcases hb with rfl | rfl
   ·right;exact NV _
   ·left;rfl
  have wra:∀b∈[s.heap.objs.size],s.heap.objs.size<=b:=λb hb=>by rw [PM] at hb;rw [hb];exact NV _
  have fpl:∀(ob:Obj),∀b∈[s.heap.objs.size,a],b < (s.heap.push ob).objs.size:=λob b hb=>by
   rw [szp];simp only [NO,NZ,or_false] at hb;rcases hb with rfl | rfl
   ·exact QJ _
   ·exact PZ la
  cases hb:lY w with
  | true=>
   have pm:=I0 (w.params.setOrder a ep) es;obtain⟨ss2,q3,q4⟩:=tU (pm.map (·.2)) s1;have lp:((Wn (w.params.setOrder a ep) es).toList.map (·.2)).length=es.size:=by rw [NS,pm.length_eq,N0]
   refine q _ _ s.drawn _ _ _ es.size _ (λb u e=>NK _ e) ⟨ss2,q3,q4.trans s2⟩ ln
    (CY hh _ n0 d1 f1 _ lp (λ_=>0) (λs i hi E' Q' g z=>CT hb g d1 f1 ?_) (λs E' Q' g z=>CT hb g d1 f1 ?_)) ⟨⟨_,N7 _ rfl,rfl,rfl⟩,NK _ o1⟩ fpa wra lp (fpl _)
   ·have hi':i < (Wn (w.params.setOrder a ep) es).size:=by rw [<-N0,<-NS (f:=(·.2))];exact hi
    rw [Rb hi'];simpa using z
   ·have:(Wn (w.params.setOrder a ep) es).size=es.size:=by rw [<-N0,pm.length_eq,N0]
    rw [RD UC];exact z
  | false=>
   have hled:t.led=true:=by
    rcases l1 with l1 | l1
    ·rw [hb] at l1;cases l1
    ·exact l1
   have hsz:es.size<=1:=by
    rcases Tf 1 es.size with z | z
    ·exfalso;apply hdr;rw [hb,p1 UC];simpa using z
    ·exact z
   have hpl:t.place.size=es.size:=by
    simp only [SetTable.fits,Oo,beq_iff_eq] at f1;exact f1.1
   have lp:(es.toList.map (·.2)).length=es.size:=by rw [NS,N0]
   refine q _ _ s.drawn _ _ _ es.size _ (λb u e=>NK _ e) ⟨ss',s1,s2⟩ ln
    (CY hh _ n0 d1 f1 _ lp (λi=>if i=0 then 0 else t.place.getD 0 0+1) (λs i hi E' Q' g z=>CU hb g d1 f1 hsz hled ?_) (λs E' Q' g z=>CU hb g d1 f1 hsz hled ?_)) ⟨⟨_,N7 _ rfl,rfl,rfl⟩,NK _ o1⟩ fpa wra lp (fpl _)
   ·have i0:i=0:=UC
    subst i0;have h1:es.size=1:=UC
    obtain⟨j,hj⟩:∃j,t.place=#[j]:=by
     have:t.place.toList.length=1:=by rw [N0];omega
     match hq:t.place.toList,this with
     | [j],_=>exact⟨j,by rw [<-SW (xs:=t.place),hq]⟩
    rw [hj] at z⊢;rw [UE rfl,CZ,UD UC];have:es[0]?=some es[0]:=by simp [h1]
    rw [this];simpa using z
   ·have hn:es[Rq t.place (if es.size=0 then 0 else t.place.getD 0 0+1)]?=none:=by
     by_cases h0:es.size=0
     ·rw [RD UC]
     ·have h1:es.size=1:=UC
      obtain⟨j,hj⟩:∃j,t.place=#[j]:=by
       have:t.place.toList.length=1:=by rw [N0];omega
       match hq:t.place.toList,this with
       | [j],_=>exact⟨j,by rw [<-SW (xs:=t.place),hq]⟩
      rw [hj,UD h0,CZ,UE UH];rw [RD UC]
    rw [hn];exact z
end
section
variable {P:UX} {w:UZ} {A:U1} {E:UJ->UM->Prop} {s:UM} {a:UL}
theorem Ji{Q:Bool->UM->Prop}(hT:s.TypeIs (.ref a) "set")(h:Q false s):UO (UP P w) A (RU (.ref a)) Q E s:=by
 unfold RU;refine UK (wpAny_specialOf hT PySem.F.slot_set_len.lookup ?_);generalize hid:("set.__len__":String)=id0
 wp_delta
 rw [show splitId id0=some ("set","__len__") from by subst hid;decide+kernel];subst hid;refine UK (V7 (T:="set") (b:=true) hT (by rw [isSubtype_type];kernel_rfl) ?_);refine Wf (λz=>absurd z Ce) (λ_=>?_);refine Wf (λ_=>?_) (λz=>absurd td z);exact UK (We hT (UN h))
theorem Jj{ss:List Str}{R:Result->UM->Prop}(hh:A.handled=none)(hS:kD P w s.heap a ss)(S:UL)(hSa:S≠a)(res:UJ)(c₀:Nat)(l1:s.heap.get? S=some {cls:= .type "list",data:= .seq #[] c₀})(hn:ss.length<=4096)
 (hR:∀h' tk d acc c',(∀b u,b≠S->s.heap.get? b=some u->h'.get? b=some u)->h'.get? S=some {cls:= .type "list",dict:=none,data:= .seq acc c',slots:=#[]}->(∃ss',Ve acc.toList ss'/\ss'.Perm ss)->R (.ok (.ret res)) {s with heap:=h',toks:=tk,drawn:=d}):
 UO (UP P w) A.in1 (RV (.ref S) (.ref a) res)
  (λfin s'=>match fin with | .done f=>R (.ok f) s' | .again c'=>c'.quiet=true/\VC (UP P w) A c' R s') (λe s'=>R (.error e) s') s:=by
 obtain⟨o,o1,x1,rest⟩:=id hS;have hT:s.TypeIs (.ref a) "set":=⟨o,o1,x1.1⟩;have lS:S < s.heap.objs.size:=NW l1;unfold RV;refine UK (We hT ?_);have e1:Sn (.ref S) (.ref a)=false:=by simp [Sn,hSa]
 have e2:(Q5 "set"==Q5 "list")=false:=Ce
 have e3:(Q5 "set"==Q5 "tuple")=false:=Ce
 simp only [e1,e2,e3,OC,N2,if_false];refine UK (Jh (A:=A.in1) hh hS λI h1 d1 vs fp wr n St k1 sv en W st hf hw hlv hfl=>?_);have nf:S ∉ fp:=λz=>by
  rcases hf S z with e | e
  ·exact hSa e
  ·exact absurd lS (Nat.not_lt.mpr e)
 have key:∀(h:UW)(c₁ tk:Nat),St 0 h->(∀b u,b≠S->s.heap.get? b=some u->h.get? b=some u)->
  h.get? S=some {cls:= .type "list",data:= .seq #[] c₁}->VC (UP P w) A (.builtin "list.extend.loop" ⟨[.ref S,.ref I,res],[]⟩) R {s with heap:=h,toks:=tk,drawn:=d1}:=by
  intro h c₁ tk hst hk g;refine codeAny_extend_loopS W.toS (OB (by omega:n<=4096) Ce) S nf res n 0 _ #[] c₁ rfl (PU _) hst g (ItemsOf.nil _) λs' acc c' m gq hacc=>?_;obtain⟨h',g',d',tk',os'⟩:=s';obtain rfl:g'=s.gens:=m.gens;obtain rfl:d'=d1:=m.drawn;obtain rfl:os'=s.os:=m.os;refine hR h' tk' d' acc c' (λb u hb e=>m.heap b u (λz=>?_) (hk b u hb e)) gq ?_
  ·rcases NO.mp z with e' | z
   ·exact hb e'
   ·exact absurd (NW e) (Nat.not_lt.mpr (hw b z))
  ·have ea:acc.toList=vs:=by
    apply List.ext_getElem?;intro i;rcases Tf i n with z | z
    ·have hz:i < acc.size:=by rw [hacc.1];exact z
     have:acc[i]?=some acc[i]:=Rb hz;rw [SM,this,hacc.2 i _ this]
    ·rw [Qm (by rw [N0,hacc.1];exact z),Qm UC]
   rw [ea];exact sv
 have g1:=k1 S _ l1;refine UK (Vc (Ji (s:={s with heap:=h1,drawn:=d1}) ⟨o,k1 a o o1,x1.1⟩ ?_));refine Wf (λ_=>?_) (λ_=>UN ⟨V3 Sd _,key _ c₀ _ st (λb u _ e=>k1 b u e) g1⟩);refine UK (VO (UK ?_));show UO _ _ (updateSeq S (·.push .none) >>=λ_=>updateSeq S (·.pop)) _ _ {s with heap:=h1,drawn:=d1};refine UK (wpAny_updateSeq g1 rfl ?_);have g2:=Pj (Ro (·.push Qa)) g1 rfl;refine wpAny_updateSeq (hz:=by seq_fits) g2 rfl ?_;have g3:=Pj (Ro (·.pop)) g2 rfl;refine UN ⟨V3 Sd _,key _ _ _ (W.frame 0 _ _ st λb hb u e=>?_) (λb u hb e=>?_) g3⟩
 ·have hbS:b≠S:=λz=>nf (z▸hb);exact(PR _ _ (Ne.symm hbS)).trans ((PR _ _ (Ne.symm hbS)).trans e)
 ·exact(PR _ _ (Ne.symm hb)).trans ((PR _ _ (Ne.symm hb)).trans (k1 b u e))
theorem Jk{ss:List Str}{R:List UJ->UM->Prop}(hh:A.handled=none)(hS:kD P w s.heap a ss)(hn:ss.length<=4096)
 (h:∀(h':UW) (tk:Nat) (d:Drawn) (vs:List UJ),(∀b u,s.heap.get? b=some u->h'.get? b=some u)->(∃ss',Ve vs ss'/\ss'.Perm ss)->R vs {s with heap:=h',toks:=tk,drawn:=d}):
 UO (UP P w) A (collect (.ref a)) R E s:=by
 have la:a < s.heap.objs.size:=by obtain⟨o,o1,_⟩:=id hS;exact NW o1
 unfold collect;refine UK (wpAny_runValue (Vv entry_proto_collect' ?_));rw [QF PySem.F.plain_proto_collect _];refine UK (m:=newList []) (U3 ?_);refine UN ⟨V3 Ss _,Vv entry_list_iadd' ?_⟩;rw [QF Ss _];have g1:(s.heap.push {cls:= .type "list",data:= .seq ([]:List UJ).toArray}).get? s.heap.objs.size=some {cls:= .type "list",data:= .seq #[]}:=N7 _ rfl;have key:=Jj (A:=A) (s:={s with heap:=s.heap.push {cls:= .type "list",data:= .seq ([]:List UJ).toArray}})
  (R:=λ(q:Result) (s':UM)=>∃(h':UW)(tk:Nat)(d:Drawn)(acc:Array UJ)(c':Nat),q= .ok (.ret (.ref s.heap.objs.size))/\s'={s with heap:=h',toks:=tk,drawn:=d}/\
   (∀b u,s.heap.get? b=some u->h'.get? b=some u)/\h'.get? s.heap.objs.size=some {cls:= .type "list",dict:=none,data:= .seq acc c',slots:=#[]}/\(∃ss',Ve acc.toList ss'/\ss'.Perm ss))
  hh (hS.stay λu e=>NK _ e) s.heap.objs.size (QZ la) (.ref s.heap.objs.size) 0 g1 hn
  (λh' tk d acc c' hk g' hacc=>⟨h',tk,d,acc,c',rfl,rfl,λb u e=>hk b u (OJ (NW e)) (NK _ e),g',hacc⟩)
 refine U6 key (λfin s' x=>?_) λe s' x=>?_
 ·cases fin with
  | done f=>
   obtain⟨h',tk,d,acc,c',e,rfl,hk,g',hacc⟩:=x;cases e;exact UK (m:=load s.heap.objs.size) (wpAny_load g' (UN (h h' tk d acc.toList hk hacc)))
  | again c₁=>
   refine⟨x.1,Vs x.2 λq s₂ y=>?_⟩;obtain⟨h',tk,d,acc,c',rfl,rfl,hk,g',hacc⟩:=y;exact UK (m:=load s.heap.objs.size) (wpAny_load g' (UN (h h' tk d acc.toList hk hacc)))
 ·obtain⟨_,_,_,_,_,e',_⟩:=x;cases e'
theorem Jl{ss:List Str}{Q:UJ->UM->Prop}(hh:A.handled=none)(hS:kD P w s.heap a ss)(hn:ss.length < 64)
 (h:∀(h' h2:UW) (tk:Nat) (d:Drawn) (out:Array UJ) (e:Nat) (ss':List Str),(∀b o,s.heap.get? b=some o->h'.get? b=some o)->(∀b o,h'.get? b=some o->h2.get? b=some o)->h2.get? h'.objs.size=some (seqObj "list" out e)->Ve out.toList ss'->ss'.Perm ss->sortedS ss'=true->Q (.ref h'.objs.size) {s with heap:=h2,toks:=tk,drawn:=d}):
 UO (UP P w) A (call (.builtin "sorted") [.ref a]) Q E s:=by
 refine Calls.call_function_entry kind_sorted plain_sorted entry_sorted (args_sorted1 _) ?_;unfold Builtin.«sorted»;refine UK (m:=checkCount "sorted" 1 1 _) (UN ?_);refine UK (Jk (A:=A.in1) hh hS UC λh' tk d vs hk ⟨s1,sv,sp⟩=>?_);have hl:vs.length=ss.length:=by rw [r6 sv,sp.length_eq]
 refine UK (wpAny_newList ?_);have hoL:(h'.push (seqObj "list" vs.toArray 0)).get? h'.objs.size=some (seqObj "list" vs.toArray 0):=N7 _ rfl;refine UK (Vc (U8 slot_list_sort ⟨_,hoL,rfl⟩ entry_list_sort (list_sort_treeK (s:={s with heap:=h'.push (seqObj "list" vs.toArray 0),toks:=tk,drawn:=d}) strKind_oneLt hoL sv.keysOf (λv₁ v₂ rest e=>keyKind_strs (by rw [<-e];exact sv)) (by rw [hl];exact hn) λst' a1 a2=>⟨_,rfl,?_⟩) (args_list_sort _)));obtain⟨ss',h1,h2,h3⟩:=sorted_out_str sv a1 a2;obtain⟨e,he⟩:=sortedHeap_at (n:=0) (vs:=vs) (out:=(arrOf st').map (·.2)) hoL;refine UN ⟨_,rfl,h h' _ tk d _ e ss' hk (λb o q=>?_) he h1 (h2.trans sp) h3⟩;have hlt:b < h'.objs.size:=NW q;rw [sortedHeap_old (OJ hlt) (by rw [size_push'];exact PZ hlt),Heap.get?_push_ne _ _ _ (OJ hlt)];exact q
end
def wM(P:UX)(w:UZ)(a:UL)(ss:List Str):HO:= .ext λh=>kD P w h a ss
theorem ag.drw{X:Cx}{Wx:List (UL×Obj)}{σ:List (Option V)}{H:Hp}{s:UM}{d:Drawn}(I:ag X Wx σ H s):ag X Wx σ H {s with drawn:=d}:=⟨I.ok,I.os,I.bare,I.base,I.loc,I.cell,I.free,I.freeC,I.pin,I.hok,I.len⟩
theorem Jm{X:Cx}:kq X (.type "set") (λxs H Q=>X.calm=true/\∃(p:UL)(ss:List Str),xs=[.ref p]/\bj X.K H p (ss.map V.str)/\ss.length < 64/\∀l,H l=none->Q (.ref l) (ak H l (wM X.prog X.w l (ss.foldl kl [])))):=by
 intro Wx s σ H xs us Q I r h;obtain⟨hc,p,ss,rfl,hq,h64,q⟩:=h;obtain⟨u,rfl,rx⟩:=kY r;cases rx;obtain⟨its,rv,pl,hz⟩:=I.list hq;have hlen:=rv.length;rw [NS] at hlen;refine IY (I.ok.hd hc) pl.isList (by simpa using wt rv) (by have:VL=4096:=rfl;simp;omega) λh' tk S' k'=>?_;refine⟨.ref _,_,I.laid (t':=tk) (o:=wM X.prog X.w _ (ss.foldl kl [])) k' (NV _) ?_,rfl,q _ (I.hok.fresh (NV _))⟩;obtain⟨o,e,_⟩:=id S';exact⟨S',⟨o,e⟩,λh1 h2 x k=>x.stay k⟩
theorem Jn{X:Cx}:kq X (.builtin "sorted") (λxs H Q=>X.calm=true/\∃(a:UL)(ss:List Str),xs=[.ref a]/\H a=some (wM X.prog X.w a ss)/\ss.length < 64/\∀l,H l=none->Q (.ref l) (ak H l (.lst ((kL ss).map V.str)))):=by
 intro Wx s σ H xs us Q I r h;obtain⟨hc,a,ss,rfl,ha,h64,q⟩:=h;obtain⟨u,rfl,rx⟩:=kY r;cases rx;obtain⟨hS,_⟩:=I.hok a _ ha;refine Jl (I.ok.hd hc) hS h64 λh' h2 tk d out e ss' k1 k2 at2 s1 s2 s3=>?_;have es:ss'=kL ss:=wq s2 (Cj _ s3);subst es;have hl2:(kL ss).length=ss.length:=s2.length_eq;have I1:ag X Wx σ H {s with heap:=h',toks:=tk,drawn:=d}:=(I.kept (t':=tk) k1).drw;refine⟨.ref _,_,I1.laid (t':=tk) (o:= .lst ((kL ss).map V.str)) k2 (NV _) ?_,rfl,q _ (I1.hok.fresh (NV _))⟩;refine⟨by rw [NS,hl2];exact OB (Rf h64) Ce,out.toList,e,wu s1,?_⟩;rw [at2]
theorem C0:∀(l ss:List Str),(l.foldl kl ss).length<=ss.length+l.length
 | [],ss=>by simp
 | a::l,ss=>by
  have:=C0 l (kl ss a);have h:(kl ss a).length<=ss.length+1:=by unfold kl;split <;> simp
  simp only [Qg,NJ];omega
theorem Jo:U4 "set"=some (.type "set"):=td
section
variable {X:Cx} {H0:Hp} {O0:Ex}
def fh(t:DA):DA:=λδ Q=>t δ λds=>∃ss:List Str,ds=[.list (ss.map .str)]/\ss.length < 64/\Q ((kL (ss.foldl kl [])).map .str)
theorem Jp{a:US}{t:DA}{np p np' p':Pos}(hc:X.calm=true)(hg:Gl X "sorted")(hm:X.mg "sorted"=none)(hv:U4 "sorted"=some (.builtin "sorted"))(hg':Gl X "set")(hm':X.mg "set"=none)(ha:PA X [a] (me X.K H0 O0 t))
 (he:UQ [a] X.env=(false,eval a X.env)::UQ [] X.env:=by rfl)(hpl:(U7 p' (UQ [] X.env)).any (·.1)=false:=by rfl)
 (he':UQ [.Call (.Name "set" np') [a] [] p'] X.env=(false,eval (.Call (.Name "set" np') [a] [] p') X.env)::UQ [] X.env:=by rfl)(hpl':(U7 p (UQ [] X.env)).any (·.1)=false:=by rfl):
 FE X H0 O0 (.Call (.Name "sorted" np) [.Call (.Name "set" np') [a] [] p'] [] p) (fh t):=
 (aT Jn hg hm hv (aN (cJ Jm hg' hm' Jo ha (he:=he) (hpl:=hpl)) bF he') (he:=he') (hpl:=hpl')).imp λσ H Q ⟨O,δ,Qd,w,q,k⟩=>⟨O,δ,_,w,q,λds vs H1 uu4 s1 r1=>by
  obtain⟨ss,e,h64,q1⟩:=uu4;subst e;cases r1 with
  | cons h r=>
   cases r;obtain⟨a,us,rfl,h1,d1⟩:=h.lst;cases d1.strs;refine⟨hc,a,ss,rfl,h1,h64,λl hl=>⟨hc,l,_,rfl,bh,by have:=C0 ss [];simp at this;omega,λl2 hl2=>?_⟩⟩;exact k _ _ _ _ q1 (s1.trans (ao.new hl)) hl2 (aq.ofStrs _)⟩
def ji(i:Nat)(t:DA):DS:=λE δ=>∃ds,δ[i]?=some (some (.o ds))/\t δ λes=>ds.length+es.length<=UR/\E.nx (δ.set i (some (.o (ds++es))))
end
theorem aq.intsL{K:NH}{H:Hp}{O:Ex}:∀{ns:List Int}{vs:List V},aq K H O vs (ns.map NX)->vs=ns.map V.int
 | [],_,r=>by rw [Of] at r;cases r;rfl
 | b::bs,_,r=>by
  rw [NN] at r;cases r with
  | cons h r=>cases h;rw [NN,aq.intsL r]
def jj:List UI->(UI->Prop)->Prop:=λds Q=>∃ns:List Int,ds=[.list (ns.map .int)]/\ns≠[]/\∀M,M∈ns->(∀a∈ns,a<=M)->Q (.int M)
section
variable {X:Cx} {H0:Hp} {O0:Ex}
def jk(i:Nat)(dg:DG)(tb:DS):DS:=λE δ=>∃kd,δ[i]?=some (some (.k kd))/\pA dg tb E (kd.map λp=>oN p.1) (δ.set i none)
end
def cI:List (DT×DT)->Dl->(List (UI×UI)->Prop)->Prop
 | [],_,Q=>Q []
 | (a,b)::r,δ,Q=>a δ λx=>b δ λy=>cI r δ λps=>Q ((x,y)::ps)
section
variable {X:Cx} {H0:Hp} {O0:Ex}
def jl(trs:List (DT×DT)):rZ:=λδ Q=>cI trs δ λps=>∃kd:List (aZ×UI),ps=kd.map (λp=>(oN p.1,p.2))/\kd.length<=15/\(∀p∈kd,cb p.2=true)/\Q (kd.foldl (λa p=>CI a p.1 p.2) [])
def jm(i j k:Nat)(t:DA):DS:=λE δ=>t δ λds=>∃x y z,ds=[x,y,z]/\E.nx (((δ.set i (some (.v x))).set j (some (.v y))).set k (some (.v z)))
end
def wN(p q:Int×Str):Bool:=decide (p.1 < q.1) || (decide (p.1=q.1) && decide (p.2.cps.toList < q.2.cps.toList))
section
variable {X:Cx} {Wx:List (UL×Obj)} {σ:St} {H:Hp} {s:UM}
theorem ag.track{o:HO}{D:UL}{ch:List UL}{t':Nat}{h':UW}(I:ag X Wx σ H s)(hD:D∈ch)(f:∀b∈ch,ml X Wx H b)(k:∀b u,b ∉ ch->s.heap.get? b=some u->h'.get? b=some u)(new:bE X.prog X.w (ak H D o) h' D o):ag X Wx σ (ak H D o) {s with heap:=h',toks:=t'}:=by
 have nC:∀b u,H b=some u->b ∉ ch:=λb u e z=>by rw [(f b z).1] at e;cases e
 have nD:∀b u,H b=some u->b≠D:=λb u e z=>nC b u e (by rw [z];exact hD);refine I.step (g':=s.gens) (d':=s.drawn) (ch:=ch) (λb hb=>?_) (λb o _ _ hc e _=>k b o hc e) (λb o _ _ hc e _=>⟨o.slots,k b o hc e⟩) (λb o hc _ n=>by rw [av (λz=>hc (by rw [z];exact hD))];exact n)
  (λb o hc e=>⟨o,k b o hc e⟩) (λb xs e=>by rw [av (nD _ _ e)];exact e) (λb u xs e=>by rw [av (nD _ _ e)];exact e) (λb ps e=>⟨#[],by rw [av (nD _ _ e),e];simp⟩) (λm hm=>hm.at' λo e=>k _ o (λz=>(f _ z).2.1 rfl) e) (λb u e=>?_) I.bare
 ·obtain⟨f0,f1,f2,f3,f4,f5⟩:=f b hb;exact⟨f3,f1,f4,f5⟩
 ·by_cases hb:b=D
  ·subst hb;rw [bh] at e;cases e;exact new
  ·rw [av hb] at e;refine(I.hok b u e).stay (λc v hc q=>k c v (λz=>?_) q) (λc q=>by rw [av (nD _ _ q)];exact q) (λc xs q=>by rw [av (nD _ _ q)];exact q) (λc xs q=>by rw [av (nD _ _ q)];exact q);rcases hc with r | r
   ·subst r;exact nC _ _ e z
   ·exact nC _ _ r z
def sd(p:Int×Str):UI:= .tuple [.int p.1,.str p.2]
end
section
variable {X:Cx} {H0:Hp} {O0:Ex}
def jn(t:DA):DA:=λδ Q=>t δ λds=>∃ps:List (Int×Str),ds=[.list (ps.map sd)]/\ps.length < 64/\ps.Nodup/\∀ps':List (Int×Str),ps'.Perm ps->ps'.Pairwise (λa b=>wN a b=true)->Q (ps'.map sd)
def jo(F:List UI->(UI->Prop)->Prop)(kf:UI->Int×Str)(t:DA):DA:=λδ Q=>t δ λds0=>∃ds,ds0=[.list ds]/\(∀d∈ds,∀R:UI->Prop,R (sd (kf d))->F [d] R)/\ds.length < 64/\(ds.map kf).Nodup/\∀ds',ds'.Perm ds->ds'.Pairwise (λa b=>wN (kf a) (kf b)=true)->Q ds'
end
section
open PySem.SeqAt
open PySem.AutoSeq1 (wpAny_loadPart')
open PySem.MeetsSeq PySem.MeetsSeq2 PySem.MeetsSeq3
end
def jq:UI->UI->(UI->Prop)->Prop:=λx y Q=>∃p q:Int×Str,x=sd p/\y=sd q/\Q (.bool (wN p q))
section
variable {X:Cx} {H0:Hp} {O0:Ex}
def Jq(tc:DB)(tb:DS):DS:=λE δ=>∃W:Nat->Dl->Prop,(∃m,W m δ)/\∀m δ,W m δ->tc δ λb=>if b=true then tb {E with nx:=λδ'=>∃m',m' < m/\W m' δ',ct:=λδ'=>∃m',m' < m/\W m' δ',bk:=E.nx} δ else E.nx δ
theorem C1{c:US}{body:List U0}{tc:DB}{tb:DS}{pos:Pos}(hp:PassesOwn (UP X.prog X.w) X.A X.env X.xe)(hc:PT X c (jQ X.K H0 O0 tc))(hb:bK X body (j3 X.K H0 O0 tb)):PS X (.While c body [] pos) (j3 X.K H0 O0 (Jq tc tb)):=
 (A6 hp hc hb).imp λD σ H uu5=>by
  obtain⟨O,δ,E,w,⟨W,⟨m0,w0⟩,st⟩,k1,k2,k3,k4⟩:=uu5;refine⟨λm σ' H'=>∃O' δ',Wd X.K H0 O0 H' O' σ' δ'/\bA H H' O O'/\W m δ',⟨m0,O,δ,w,bA.refl _ _,w0⟩,λm σ1 H1 ⟨O1,δ1,w1,S1,q1⟩=>⟨O1,δ1,_,w1,st m δ1 q1,λb H2 q2 s2=>?_⟩⟩;cases b with
  | false=>
   rw [UD UH] at q2⊢;exact k1 O1 δ1 σ1 H2 q2 (w1.mono s2) (S1.trans (.same s2))
  | true=>
   rw [UE rfl] at q2⊢;refine⟨λσ' H'=>∃O' δ' m',m' < m/\Wd X.K H0 O0 H' O' σ' δ'/\bA H H' O O'/\W m' δ',λσ' H' uu7=>by obtain⟨O',δ',m',lt,w',S',q'⟩:=uu7;exact⟨m',lt,O',δ',w',S',q'⟩,O1,δ1,_,w1.mono s2,q2,?_,k2,?_,?_⟩
   ·rintro O' δ' σ' H' ⟨m',lt,q'⟩ w' S';exact⟨O',δ',m',lt,w',S1.trans ((bA.same s2).trans S'),q'⟩
   ·intro O' δ' σ' H' q' w' S';exact k1 O' δ' σ' H' q' w' (S1.trans ((bA.same s2).trans S'))
   ·rintro O' δ' σ' H' ⟨m',lt,q'⟩ w' S';exact⟨O',δ',m',lt,w',S1.trans ((bA.same s2).trans S'),q'⟩
abbrev C2(ks:List Str)(ds:List UI):UI:=BU (ks.map .str) ds
def jr(i:Nat)(t:DS):DS:=λE δ=>∃kd,δ[i]?=some (some (.k kd))/\∃ks:List Str,kd.map (·.1)=ks.map Rm/\t E (δ.set i (some (.v (C2 ks (kd.map (·.2))))))
def wO:List Str->List UI->Str->Option UI
 | k::ks,d::ds,z=>if k=z then some d else wO ks ds z
 | _,_,_=>none
def jt(to tk:DT):DT:=λδ Q=>to δ λx=>∃ks ds,x=C2 ks ds/\tk δ λy=>∃z,y= .str z/\∃d,wO ks ds z=some d/\Q d
def ju(to t:DT):DT:=λδ Q=>to δ λx=>∃ss:List Str,x= .list (ss.map .str)/\t δ λy=>∃z,y= .str z/\z∈ss/\Q (.int (ss.idxOf z:Nat))
def jv(t:DA):DA:=λδ Q=>t δ λds=>∃n k:Int,ds=[.int 0,.int n,.int k]/\0<=n/\n < 1000/\0 < k/\k < 1000/\∀js:List Int,(∀j∈js,0<=j/\j < n)->js.length<=1000->Q (js.map .int)
def jw(t:DT)(g:DG)(tc:DB)(te:DT)(k:Nat)(fr:List Nat):DA:=λδ Q=>cD t g tc te k fr δ Q\/cE t g tc te k fr δ Q
end
theorem Jr{fr:List Nat}{σ:St}{v u:Option V}:oy (bC 2 fr σ) (((bC 2 fr σ).set 0 v).set 1 u):=by
 refine⟨UH,λi w h=>?_⟩
 match i with
 | 0=>simp [bC,NP] at h
 | 1=>simp [bC,NP] at h
 | i+2=>simpa [bC,NP] using h
theorem Js{K:NH}{n:Nat}:oE (rg K n (p7 (nK 0) (p7 (nK 1) qZ))) 2:=λfr σ v H' R uu8=>by obtain⟨a,xs,e,h1,h2,x,r,e1,y,r2,e2,e3,h⟩:=uu8;exact⟨a,xs,e,h1,h2,x,r,e1,y,r2,e2,e3,Jr,h⟩
section
variable {X:Cx} {H0:Hp} {O0:Ex}
theorem mh{T:String}{a c:US}{t:DT}{np p:Pos}{K':NH}(hK:X.K=K')(hg:Gl X "isinstance")(hm:X.mg "isinstance"=none)(hv:U4 "isinstance"=some (.builtin "isinstance"))(ha:DF X H0 O0 a t)(hc:PE X c (tC (.ty T)))
 (hs:UQ [a,c] X.env=(false,eval a X.env)::UQ [c] X.env:=by rfl)(hs2:UQ [c] X.env=[(false,eval c X.env)]:=by rfl)(hb:(U7 p (UQ [c] X.env)).any (·.1)=false:=by rfl):DE X H0 O0 (.Call (.Name "isinstance" np) [a,c] [] p) (cF K' T t):=by
 subst hK;exact HC hg hm hv ha hc hs hs2 hb
end
def C3(K:NH):R2:=λx y H Q=>∃a b xs ys,x= .ref a/\y= .ref b/\aX K H a xs/\aX K H b ys/\xs.length+ys.length<=UR/\(xs=[]->Q (.ref b) H)/\(xs≠[]->vI K x y H Q)
theorem nj{X:Cx}:br X (Vl .Add) (C3 X.K):=by
 intro Wx s σ H x y v u Q I rx ry h;obtain⟨a,b,xs,ys,rfl,rfl,ha,hb,hz,q0,q1⟩:=h;by_cases hx:xs=[]
 ·subst hx;cases rx;cases ry;obtain⟨its,r1,⟨⟨c1,d1,da1,s1⟩,o1,k1,n1,e1⟩,_⟩:=I.tuple ha;obtain⟨its2,r2,⟨⟨c2,d2,da2,s2⟩,o2,k2,n2,e2⟩,_⟩:=I.tuple hb;simp only at k1 e1 k2 e2;subst k1 e1 k2 e2;cases r1;exact concat_meets ⟨_,o1,rfl⟩ ⟨_,o2,rfl⟩ Wu seq_tuple_add Rz Rr (Rh _ _)
   (tuple_addW0 a b _ its2.toArray n1 n2 d1 d2 s1 s2 UH) ⟨o1,o2,.ref b,H,I,rfl,q0 rfl⟩
 ·exact Gm Wx s σ H _ _ v u Q I rx ry (q1 hx)
def fj:UI->UI->(UI->Prop)->Prop:=λx y Q=>∃xs ys,x= .tuple xs/\y= .tuple ys/\xs.length+ys.length<=UR/\Q (.tuple (xs++ys))
theorem nk{K:NH}:cN K (C3 K) fj:=λH O x y dx dy Qd R tr hx hy uu9 k=>by
 obtain⟨xs,ys,e1,e2,hz,q⟩:=uu9;subst e1 e2;have hx0:=hx;have hy0:=hy;obtain⟨a,vs,rfl,h1,d1⟩:=hx.tup;obtain⟨b,us,rfl,h2,d2⟩:=hy.tup;refine⟨a,b,vs,us,rfl,rfl,h1,h2,by rw [d1.length,d2.length];exact hz,λz=>?_,λz=>?_⟩
 ·subst z;cases d1;rw [N9] at q;cases hy0 with
  | dt hy0=>exact k _ _ H q (ao.refl _) hy0
 ·exact Hz H O _ _ _ _ Qd R tr hx0 hy0 ⟨xs,ys,rfl,rfl,λe=>z (by subst e;cases d1;rfl),hz,q⟩ k
def C4(f:Str)(d:UI):List (Str×UI)->List (Str×UI)
 | []=>[(f,d)]
 | (g,x)::r=>if g=f then(g,d)::r else(g,x)::C4 f d r
section
variable {X:Cx} {H0:Hp} {O0:Ex}
def jx(C:UL)(i:Nat)(f:Str)(t:DT):DS:=λE δ=>t δ λd=>∃l fd,δ[i]?=some (some (.i l C fd))/\fd.length < 1000/\E.nx (δ.set i (some (.i l C (C4 f d fd))))
end
section
variable {X:Cx} {H0:Hp} {O0:Ex}
def jy(C:UL)(f:Str)(t:DT):DT:=λδ Q=>t δ λx=>∃ks ds d,x=BS C (ks.map .str) ds/\wO ks ds f=some d/\Q d
end
def Jt(ss:List Int)(x:Int):List Int:=if x∈ss then ss else ss++[x]
section
variable {X:Cx} {H0:Hp} {O0:Ex}
def jz(t:DA):DA:=λδ Q=>t δ λds=>∃ss:List Int,ds=[.list (ss.map .int)]/\ss.length < 4000/\(ss.foldl Jt []).length < 64/\∀ns:List Int,(∀z,z∈ns↔z∈ss)->ns.Pairwise (· < ·)->Q (ns.map .int)
end
def C5:Nat->List UI->List UI
 | _,[]=>[]
 | k,x::r=>.tuple [.int (k:Int),x]::C5 (k+1) r
section
variable {X:Cx} {H0:Hp} {O0:Ex}
def jA(t:DA)(g:DG)(tb:DS):DS:=λE δ=>t δ λds=>∃xs,ds=[.list xs]/\pA g tb E (C5 0 xs) δ
end
def jB:List UI->(UI->Prop)->Prop:=λds Q=>∃i j:Int,ds=[.int i,.int j]/\bV i j/\Q (.tuple [.int (i / j),.int (i % j)])
def fk:List UI->(UI->Prop)->Prop:=λds Q=>∃ns:List Int,ds=[.list (ns.map .int)]/\Q (.int ns.sum)
theorem C6{K:NH}:mJ K (λxs H Q=>∃(a:UL)(ns:List Int),xs=[.ref a]/\bj K H a (ns.map V.int)/\Q (.int ns.sum) H) fk:=λH O xs ds Qd R tr hs uu10 k=>by
 obtain⟨ns,e,q⟩:=uu10;subst e;cases hs with
 | cons h r=>
  cases r;obtain⟨a,vs,rfl,h1,d1⟩:=h.lst;cases d1.intsL;exact⟨a,ns,rfl,h1,k _ _ H q (ao.refl _) (.int _)⟩
def jC:List UI->(UI->Prop)->Prop:=λds Q=>∃ns:List Int,ds=[.list (ns.map .int)]/\ns≠[]/\∀M,M∈ns->(∀a∈ns,M<=a)->Q (.int M)
def jD(c:Int->Int->Prop):UI->UI->(UI->Prop)->Prop:=λx y Q=>∃i j:Int,x= .int i/\y= .int j/\c i j/\∀r:Int,Q (.int r)
section
variable {X:Cx} {H0:Hp} {O0:Ex}
def jE(n:Nat)(t:DA):DA:=λδ Q=>t δ λds=>ds.length<=1000/\Q (NP n ds).flatten
theorem aq.rep{K:NH}{H:Hp}{O:Ex}{vs:List V}{ds:List UI}(h:aq K H O vs ds):∀n:Nat,aq K H O (NP n vs).flatten (NP n ds).flatten
 | 0=>.nil
 | n+1=>by rw [Qi,Qi,Qf,Qf];exact h.append (aq.rep h n)
def jF(i:Nat)(t:DT):DS:=λE δ=>∃ds,δ[i]?=some (some (.o ds))/\t δ λd=>∃es,d= .list es/\ds.length+es.length<=UR/\E.nx (δ.set i (some (.o (ds++es))))
end
end L2
namespace Day
def mO(y:Int):Bool:=decide (y % 400=0) || (decide (y % 4=0) && !decide (y % 100=0))
def ld(y:Int):Int:=if mO y=true then 1 else 0
def wQ:List Int:=[31,28,31,30,31,30,31,31,30,31,30,31]
def aW(y m:Int):Int:=if m=2/\mO y=true then 29 else wQ.getD (m - 1).toNat 0
def lb(y:Int):Int:=(y - 1)/ 4 - (y - 1)/ 100+(y - 1)/ 400
def bb(y:Int):Int:=365*(y - 2000)+lb y - lb 2000
def aH(y m:Int):Int:=((PH (m - 1).toNat).map λ(i:Nat)=>aW y (1+(i:Int))).sum
def lE(y m n:Int):Int:=bb y+aH y m+n - 1
structure k8 (d y m n:Int):Prop where
 m1:1<=m
 m12:m<=12
 n1:1<=n
 nl:n<=aW y m
 eq:lE y m n=d
theorem Ju(y:Int):0<=ld y/\ld y<=1:=by unfold ld;split <;> omega
theorem wR(y:Int):mO y=true↔(y % 400=0\/(y % 4=0/\y % 100≠0)):=by
 unfold mO;simp
theorem tX(y:Int):bb (y+1)=bb y+365+ld y:=by
 unfold bb lb ld;by_cases h:mO y=true
 ·rw [UE h];have:=(wR y).mp h;omega
 ·rw [UD h];have:=mt (wR y).mpr h;omega
theorem tY{a b:Int}(h:a+1<=b):bb (a+1)<=bb b:=by
 unfold bb lb;omega
theorem wU(y:Int):aW y 2=28+ld y:=by
 unfold aW ld;by_cases h:mO y=true
 ·rw [UE ⟨rfl,h⟩,UE h];rfl
 ·rw [UD (λz=>h z.2),UD h];rfl
theorem C7{y m:Int}(h:m≠2):aW y m=wQ.getD (m - 1).toNat 0:=by
 unfold aW;rw [UD (λz=>h z.1)]
theorem tZ(y:Int):aW y 1=31/\aW y 3=31/\aW y 4=30/\aW y 5=31/\aW y 6=30/\aW y 7=31/\aW y 8=31/\aW y 9=30/\aW y 10=31/\aW y 11=30/\aW y 12=31:=by
 refine⟨?_,?_,?_,?_,?_,?_,?_,?_,?_,?_,?_⟩ <;> (rw [C7 Ce];rfl)
theorem wV{m:Int}(h1:1<=m)(h2:m<=12):m=1\/m=2\/m=3\/m=4\/m=5\/m=6\/m=7\/m=8\/m=9\/m=10\/m=11\/m=12:=by
 obtain⟨k,e⟩:=OY (show 0<=m - 1 by omega);have e:m=(k:Int)+1:=UC
 have hk:k < 12:=UC
 have key:∀k:Fin 12,((k.1:Nat):Int)+1=1\/((k.1:Nat):Int)+1=2\/((k.1:Nat):Int)+1=3\/((k.1:Nat):Int)+1=4\/((k.1:Nat):Int)+1=5\/((k.1:Nat):Int)+1=6\/((k.1:Nat):Int)+1=7\/((k.1:Nat):Int)+1=8\/((k.1:Nat):Int)+1=9\/((k.1:Nat):Int)+1=10\/((k.1:Nat):Int)+1=11\/((k.1:Nat):Int)+1=12:=td
 rw [e];exact key ⟨k,hk⟩
theorem qy{y m:Int}(h1:1<=m)(h2:m<=12):28<=aW y m/\aW y m<=31:=by
 obtain⟨m1,m3,m4,m5,m6,m7,m8,m9,m10,m11,m12⟩:=tZ y;have m2:28<=aW y 2/\aW y 2<=31:=by
  have:=Ju y;rw [wU];clear m1 m3 m4 m5 m6 m7 m8 m9 m10 m11 m12 h1 h2;omega
 have k:∀{z:Int},z=31\/z=30->28<=z/\z<=31:=λh=>by rcases h with h | h <;> rw [h] <;> decide
 rcases wV h1 h2 with h | h | h | h | h | h | h | h | h | h | h | h <;> subst h
 ·exact k (.inl m1)
 ·exact m2
 ·exact k (.inl m3)
 ·exact k (.inr m4)
 ·exact k (.inl m5)
 ·exact k (.inr m6)
 ·exact k (.inl m7)
 ·exact k (.inl m8)
 ·exact k (.inr m9)
 ·exact k (.inl m10)
 ·exact k (.inr m11)
 ·exact k (.inl m12)
theorem qz(y:Int):aH y 1=0:=rfl
theorem kU{y m:Int}(h:1<=m):aH y (m+1)=aH y m+aW y m:=by
 unfold aH;have e:(m+1 - 1).toNat=(m - 1).toNat+1:=UC
 rw [e,QR,P0,Sy];have e2:(1:Int)+(((m - 1).toNat:Nat):Int)=m:=UC
 simp only [NN,Of,Qr,Ti,e2];omega
theorem Jv{a b c:Int}(l:Int)(h:a+b=c):a+(b+l)=c+l:=UC
theorem nr{a b c:Int}(l:Int)(h:a+b=c):a+l+b=c+l:=UC
theorem se(y:Int):aH y 1=0/\aH y 2=31/\aH y 3=59+ld y/\aH y 4=90+ld y/\aH y 5=120+ld y/\aH y 6=151+ld y/\aH y 7=181+ld y/\aH y 8=212+ld y/\aH y 9=243+ld y/\aH y 10=273+ld y/\aH y 11=304+ld y/\aH y 12=334+ld y/\aH y 13=365+ld y:=by
 obtain⟨m1,m3,m4,m5,m6,m7,m8,m9,m10,m11,m12⟩:=tZ y;have e2:aH y 2=31:=by rw [show aH y 2=aH y 1+aW y 1 from kU (m:=1) Ce,m1];rfl
 have e3:aH y 3=59+ld y:=by rw [show aH y 3=aH y 2+aW y 2 from kU (m:=2) Ce,e2,wU];exact Jv _ rfl
 have e4:aH y 4=90+ld y:=by rw [show aH y 4=aH y 3+aW y 3 from kU (m:=3) Ce,e3,m3];exact nr _ rfl
 have e5:aH y 5=120+ld y:=by rw [show aH y 5=aH y 4+aW y 4 from kU (m:=4) Ce,e4,m4];exact nr _ rfl
 have e6:aH y 6=151+ld y:=by rw [show aH y 6=aH y 5+aW y 5 from kU (m:=5) Ce,e5,m5];exact nr _ rfl
 have e7:aH y 7=181+ld y:=by rw [show aH y 7=aH y 6+aW y 6 from kU (m:=6) Ce,e6,m6];exact nr _ rfl
 have e8:aH y 8=212+ld y:=by rw [show aH y 8=aH y 7+aW y 7 from kU (m:=7) Ce,e7,m7];exact nr _ rfl
 have e9:aH y 9=243+ld y:=by rw [show aH y 9=aH y 8+aW y 8 from kU (m:=8) Ce,e8,m8];exact nr _ rfl
 have e10:aH y 10=273+ld y:=by rw [show aH y 10=aH y 9+aW y 9 from kU (m:=9) Ce,e9,m9];exact nr _ rfl
 have e11:aH y 11=304+ld y:=by rw [show aH y 11=aH y 10+aW y 10 from kU (m:=10) Ce,e10,m10];exact nr _ rfl
 have e12:aH y 12=334+ld y:=by rw [show aH y 12=aH y 11+aW y 11 from kU (m:=11) Ce,e11,m11];exact nr _ rfl
 have e13:aH y 13=365+ld y:=by rw [show aH y 13=aH y 12+aW y 12 from kU (m:=12) Ce,e12,m12];exact nr _ rfl
 exact⟨qz y,e2,e3,e4,e5,e6,e7,e8,e9,e10,e11,e12,e13⟩
theorem C8{y m:Int}(h1:1<=m):∀k:Nat,m+k<=13->aH y m<=aH y (m+k)
 | 0,_=>by simp
 | k+1,h=>by
  have ih:=C8 (y:=y) h1 k UC;have e:m+((k+1:Nat):Int)=(m+k)+1:=UC
  rw [e,kU UC];have:=qy (y:=y) (m:=m+k) UC UC;omega
theorem wX{y m m':Int}(h1:1<=m)(h2:m<=m')(h3:m'<=13):aH y m<=aH y m':=by
 have:=C8 (y:=y) h1 (m' - m).toNat UC;rw [show m+(((m' - m).toNat:Nat):Int)=m' by omega] at this;exact this
theorem t4{y m:Int}(h1:1<=m)(h2:m<=12):0<=aH y m/\aH y m+aW y m<=365+ld y:=by
 have a:=wX (y:=y) (m:=1) (m':=m) Ce h1 UC;have b:=wX (y:=y) (m:=m+1) (m':=13) UC UC Ce;rw [kU h1] at b;have c:=(se y).1;have e:=(se y).2.2.2.2.2.2.2.2.2.2.2.2;omega
theorem C9{y m m':Int}(h1:1<=m)(h2:m < m')(h3:m'<=12):aH y m+aW y m<=aH y m':=by
 have b:=wX (y:=y) (m:=m+1) (m':=m') UC UC UC;rw [kU h1] at b;exact b
theorem k8.in{d y m n:Int}(h:k8 d y m n):bb y<=d/\d < bb (y+1):=by
 have:=t4 (y:=y) h.m1 h.m12;have:=h.n1;have:=h.nl;have e:=h.eq;have:=tX y;unfold lE at e;omega
theorem k8.uniq{d y m n y' m' n':Int}(h:k8 d y m n)(h':k8 d y' m' n'):y=y'/\m=m'/\n=n':=by
 have a:=h.in;have b:=h'.in;have ey:y=y':=by
  rcases Tw y y' with z | z | z
  ·have:=tY (a:=y) (b:=y') UC;omega
  ·exact z
  ·have:=tY (a:=y') (b:=y) UC;omega
 subst ey;have e:=h.eq;have e':=h'.eq;unfold lE at e e';have em:m=m':=by
  rcases Tw m m' with z | z | z
  ·have:=C9 (y:=y) h.m1 z h'.m12;have:=h.nl;have:=h'.n1;omega
  ·exact z
  ·have:=C9 (y:=y) h'.m1 z h.m12;have:=h'.nl;have:=h.n1;omega
 subst em;exact⟨rfl,rfl,UC⟩
def pP(d:Int):Int:=
 if d < bb (2000+d*400 / 146097) then 2000+d*400 / 146097 - 1
 else if bb (2000+d*400 / 146097+1)<=d then 2000+d*400 / 146097+1
 else 2000+d*400 / 146097
theorem Dc(d:Int):bb (pP d)<=d/\d < bb (pP d+1):=by
 unfold pP;have e:2000+d*400 / 146097 - 1+1=2000+d*400 / 146097:=UC
 by_cases h:d < bb (2000+d*400 / 146097)
 ·rw [UE h,e];refine⟨?_,h⟩;unfold bb lb at*;omega
 ·rw [UD h];by_cases h2:bb (2000+d*400 / 146097+1)<=d
  ·rw [UE h2];refine⟨h2,?_⟩;unfold bb lb at*;omega
  ·rw [UD h2];omega
theorem Jw(y:Int):365*(y - 2000)+(y - 2000+3)/ 4 - (y - 2000+99)/ 100+(y - 2000+399)/ 400=bb y:=by
 unfold bb lb;omega
theorem Jx{d:Int}(h:0<=d):bb (2000+d / 366)<=d:=by
 unfold bb lb;omega
theorem t6{d y m n:Int}(h:k8 d y m n)(h0:0<=d)(h1:d < bb 10000):2000<=y/\y<=9999:=by
 have a:=h.in;have e0:bb 2000=0:=Ce
 constructor
 ·by_cases z:2000<=y
  ·exact z
  ·have:=tY (a:=y) (b:=2000) UC;omega
 ·by_cases z:y<=9999
  ·exact z
  ·have m1:bb 10000<=bb y:=by
    have:=tY (a:=9999) (b:=y) UC;exact this
   omega
end Day
namespace L2
open PySem PySem.Spec PyProof.Rows PySem.W
def d2(m:Nat):List Nat:=[48+m / 10,48+m % 10]
def d4(y:Nat):List Nat:=[48+y / 1000,48+y / 100 % 10,48+y / 10 % 10,48+y % 10]
theorem wY:∀m:Fin 100,Txt.zfill (NG (toString (m.val:Int))) 2=⟨(d2 m.val).toArray⟩:=td
theorem qA:∀m:Fin 100,Rp ⟨(d2 m.val).toArray⟩=some (m.val:Int):=td
theorem Jy:∀d:Fin 10,(Ud d.val).toNat=48+d.val:=Ce
theorem t8{d:Nat}(h:d < 10):(Ud d).toNat=48+d:=Jy ⟨d,h⟩
theorem ua{y:Nat}(h1:1000<=y)(h2:y < 10000):NG (toString (y:Int))=⟨(d4 y).toArray⟩:=by
 have e:=KIN.signs_num y;rw [Rt Ce UC,Rt Ce UC,Rt Ce UC,Nat.toDigits_of_lt_base UC] at e;simp only [N6,N9,NN,Of] at e;rw [t8 UC,t8 UC,t8 UC,t8 UC] at e;rw [show y / 10 / 10 / 10=y / 1000 by omega,show y / 10 / 10 % 10=y / 100 % 10 by omega] at e;show _=(⟨(d4 y).toArray⟩:Str);cases hs:NG (toString (y:Int)) with
 | mk c=>
  rw [hs] at e;congr 1;apply TY;rw [e];rfl
theorem wZ{y:Nat}(h1:1000<=y)(h2:y < 10000):Rp ⟨(d4 y).toArray⟩=some (y:Int):=by
 rw [<-ua h1 h2];exact KIN.num_reads UC UC
def qB(y m n:Nat):List Nat:=d4 y++45::(d2 m++45::d2 n)
def kW(y m n:Int):Str:=⟨(qB y.toNat m.toNat n.toNat).toArray⟩
theorem Str.ext_list{a b:Str}(h:a.cps.toList=b.cps.toList):a=b:=by
 cases a;cases b;congr 1;exact TY h
theorem xE(a b:Str):(a++b).cps.toList=a.cps.toList++b.cps.toList:=by
 show(a.cps++b.cps).toList=_;exact Qt
theorem Jz{y m n:Int}(hy:1000<=y/\y < 10000)(hm:0<=m/\m < 100)(hn:0<=n/\n < 100):
 RI++NG (toString y)++NG "-"++Txt.zfill (NG (toString m)) 2++NG "-"++Txt.zfill (NG (toString n)) 2=kW y m n:=by
 obtain⟨y,rfl⟩:=OY (show 0<=y by omega);obtain⟨m,rfl⟩:=OY hm.1;obtain⟨n,rfl⟩:=OY hn.1;have e1:=ua (y:=y) UC UC;have e2:=wY ⟨m,UC⟩;have e3:=wY ⟨n,UC⟩;simp only at e2 e3;rw [e1,e2,e3];apply Str.ext_list;simp only [xE];have h1:(NG "-").cps.toList=[45]:=td
 have h2:Str.empty.cps.toList=[]:=rfl;rw [h1,h2];simp [kW,qB]
def km(c:Nat):List Nat->List (List Nat)
 | []=>[[]]
 | x::xs=>if x=c then []::km c xs else match km c xs with | []=>[[x]] | p::ps=>(x::p)::ps
def lF(c:Nat):List (List Nat)->List Nat
 | []=>[]
 | [p]=>p
 | p::q::r=>p++c::lF c (q::r)
theorem xF(c:Nat):∀l,km c l≠[]
 | []=>by simp [km]
 | x::xs=>by
  unfold km;split
  ·simp
  ·split <;> simp
theorem xG(c:Nat):∀p:List Nat,c ∉ p->km c p=[p]
 | [],_=>rfl
 | x::xs,h=>by
  have hx:x≠c:=λe=>h (by simp [e]);have hr:c ∉ xs:=λe=>h (by simp [e]);unfold km;rw [UD hx,xG c xs hr]
theorem uc(c:Nat)(l:List Nat):∀p:List Nat,c ∉ p->km c (p++c::l)=p::km c l
 | [],_=>by show km c (c::l)=_;rw [km,UE rfl]
 | x::xs,h=>by
  have hx:x≠c:=λe=>h (by simp [e]);have hr:c ∉ xs:=λe=>h (by simp [e]);show km c (x::(xs++c::l))=_;rw [km,UD hx,uc c l xs hr]
theorem xH(c:Nat):∀ps:List (List Nat),ps≠[]->(∀p∈ps,c ∉ p)->km c (lF c ps)=ps
 | [],h,_=>absurd rfl h
 | [p],_,h=>xG c p (h p UH)
 | p::q::r,_,h=>by
  show km c (p++c::lF c (q::r))=_;rw [uc c _ p (h p UH),xH c (q::r) UH (λx hx=>h x (by simp at hx⊢;exact .inr hx))]
theorem pQ(c:Nat):∀ps:List Str,(QM ⟨#[c]⟩ ps).cps.toList=lF c (ps.map λp=>p.cps.toList)
 | []=>rfl
 | [p]=>rfl
 | p::q::r=>by
  have ih:=pQ c (q::r);show((p++⟨#[c]⟩++QM ⟨#[c]⟩ (q::r)):Str).cps.toList=_;rw [xE,xE,ih];show p.cps.toList++[c]++lF c _=p.cps.toList++c::lF c _;simp
theorem qC(x:Str)(c:Nat):(Txt.split x ⟨#[c]⟩).map (λp=>p.cps.toList)=km c x.cps.toList:=by
 have hj:=RW x ⟨#[c]⟩;have hf:=StrLaws.split_free x c;by_cases hn:Txt.split x ⟨#[c]⟩=[]
 ·exfalso
  revert hn
  unfold Txt.split;split
  ·simp
  ·split
   ·simp
   ·intro h;have:=RW x ⟨#[c]⟩;have hl:=congrArg QV h;rw [PyProof.Rows.len_partsBetween] at hl;simp at hl
 ·rw [<-hj,pQ,xH c _ (by simpa using hn) (λp hp=>by
   obtain⟨q,hq,rfl⟩:=Pb.mp hp;exact hf q hq)]
  rw [hj]
theorem JA{y m n:Int}:Txt.split (kW y m n) (NG "-")=[⟨(d4 y.toNat).toArray⟩,⟨(d2 m.toNat).toArray⟩,⟨(d2 n.toNat).toArray⟩]:=by
 have e:NG "-"=⟨#[45]⟩:=td
 rw [e];have h:=qC (kW y m n) 45;have e2:(kW y m n).cps.toList=d4 y.toNat++45::(d2 m.toNat++45::d2 n.toNat):=by simp [kW,qB]
 rw [e2,uc 45 _ _ (by simp [d4];omega),uc 45 _ _ (by simp [d2];omega),xG 45 _ (by simp [d2];omega)] at h;have inj:∀{a b:List Str},a.map (λp=>p.cps.toList)=b.map (λp=>p.cps.toList)->a=b:=λ{a b} h=>by
  induction a generalizing b with
  | nil=>cases b with
   | nil=>rfl
   | cons _ _=>simp at h
  | cons x xs ih=>cases b with
   | nil=>simp at h
   | cons z zs=>
    simp only [NN,NQ] at h;rw [Str.ext_list h.1,ih h.2]
 exact inj (h.trans UH)
theorem Dd(y m n:Int):(kW y m n).length=10:=by simp [kW,qB,d4,d2,Str.length]
section
variable {X:Cx} {H0:Hp} {O0:Ex}
theorem JB:rE X "str.join" (λx xs H Q=>∃(O:Ex)(z:Str)(a:V)(ys:List Str),x= .str z/\xs=[a]/\Sh X.K H O a (.tuple (ys.map .str))/\(ys.map (·.length)).sum+ys.length*z.length<=16777216/\Q (.str (Txt.join z ys)) H):=by
 intro Wx s σ H x xs v us Q I rx rs h;obtain⟨O,z,a,ys,rfl,rfl,ha,hz,q⟩:=h;obtain⟨t,rfl⟩:=rx;obtain⟨u,rfl,ru⟩:=kY rs;obtain⟨l,vs,rfl,hl,dl⟩:=ha.tup;cases ru;obtain⟨its,rv,pl,_⟩:=I.tuple hl;exact join_tuple pl (by simpa using B6 dl rv) hz λt' k=>⟨.str _,H,I.tok _,⟨_,rfl⟩,q⟩
def fq(to:DT)(t:DT):DT:=λδ Q=>to δ λx=>∃z:Str,x= .str z/\t δ λy=>∃(ys:List Str),y= .tuple (ys.map .str)/\(ys.map (·.length)).sum+ys.length*z.length<=16777216/\Q (.str (Txt.join z ys))
theorem De{o e:US}{to t:DT}{apos cpos:Pos}(ho:DE X H0 O0 o to)(ha:DF X H0 O0 e t)(hbase:Vw o "join" X.env (eval o X.env)=eval o X.env:=by rfl)
 (hfew:((U7 cpos (UQ [e] X.env)).all (λx=>!x.1) && (Wg cpos (VU [] X.env)).all (λx=>x.1.isSome) && decide ([e].length+([]:List VI).length+(if ([]:List VI).isEmpty then 0 else 1) < 30))=true:=by rfl)
 (hline:(apos.endLine==cpos.line)=true:=by rfl)(hst:UQ [e] X.env=(false,eval e X.env)::UQ [] X.env:=by rfl)(hplain:(U7 cpos (UQ [] X.env)).any (·.1)=false:=by rfl):
 DE X H0 O0 (.Call (.Attribute o "join" apos) [e] [] cpos) (fq to t):=
 (rF QW SH SI JB ho (aN ha bF hst) hbase hfew hline hst hplain).imp λσ H Q uu11=>by obtain⟨O,δ,Qd,w,q,k⟩:=uu11;exact⟨O,δ,_,w,q,λx v H1 uu12 s1 r1=>by
  obtain⟨z,e,q1⟩:=uu12;subst e;cases r1;exact⟨rfl,O,δ,_,w.mono s1,q1,λy u H2 uu13 s2 r2=>by obtain⟨ys,e,hz,q2⟩:=uu13;subst e;exact⟨O,z,u,ys,rfl,rfl,r2,hz,k _ _ H2 q2 (s1.trans s2) (.str _)⟩⟩⟩
def ft(t:DA)(u:DT):DA:=λδ Q=>t δ λds=>ds.length<=1000/\u δ λy=>∃i:Int,y= .int i/\0<=i/\i<=1000/\Q (NP i.toNat ds).flatten
theorem JC{e f:US}{t:DA}{u:DT}{pos:Pos}(h:FE X H0 O0 e t)(hf:DE X H0 O0 f u):FE X H0 O0 (.BinOp e .Mult f pos) (ft t u):=
 (bN Bx h hf).imp λσ H Q ⟨O,δ,Qd,w,q,k⟩=>⟨O,δ,_,w,q,λds vs p H1 q1 s1 hp r1=>⟨O,δ,_,w.mono (s1.trans (ao.new hp)),q1.2,λy v H2 uu15 s2 r2=>by
  obtain⟨i,e,i0,i1,q2⟩:=uu15;subst e;cases r2;refine⟨p,i,vs,rfl,rfl,s2 _ _ bh,UC,UC,?_,λp' hp'=>k _ _ p' _ q2 ((s1.trans (ao.new hp)).trans s2) hp' ((r1.rep i.toNat).mono ((ao.new hp).trans s2))⟩;have h1:=r1.length;have h2:(UR:Nat)=16777216:=Ce
  have h3:=q1.1;have h4:vs.length*i.toNat<=1000*1000:=Nat.mul_le_mul UC UC;omega⟩⟩
end
open PySem PySem.Spec PyProof.Rows PySem.W PySem.Calls
section
variable {prog:UX} {w:UZ} {A:U1} {E:UJ->UM->Prop} {s:UM}
theorem Df{j t:UL}{i:Nat}{its:Array UJ}{x:UJ}{Q:UJ->UM->Prop}(hi:s.heap.IsTupleIter j t i)(ht:s.heap.IsTuple t its)(hx:its[i]?=some x)
 (k:∀h2,h2.IsTupleIter j t (i+1)->Qv j s.heap h2->Q x {s with heap:=h2}):UO (UP prog w) A (PV (.ref j)) Q E s:=by
 obtain⟨oi,e1,c1,d1⟩:=id hi;obtain⟨ot,e2,_,n2,d2⟩:=ht;unfold PV;refine UK (U5 (name:=NG "__next__") hi.typeIs F.slot_tuple_iterator_next (U8 F.slot_tuple_iterator_next hi.typeIs F.entry_tuple_iterator_next ?_ (F.args_tuple_iterator_next_1 _)))
 (show UO _ _ (field (.ref j) 0 >>=_) _ _ s);refine UK (Vd e1 d1 (x:= .ref t) rfl ?_)
 (show UO _ _ (if (Oz t==Qa)=true then _ else _) _ _ s);rw [UD (show ¬((Oz t==Qa)=true) from Ou)]
 (show UO _ _ (field (.ref j) 1 >>=_) _ _ s);refine UK (Vd e1 d1 (x:= .int i 0) rfl ?_)
 (show UO _ _ (seqItems? (.ref t) >>=_) _ _ s);refine UK (Vm e2 d2 ?_)
 simp only [O9,hx];refine UK (Vr e1 d1 UH (UN ⟨x,rfl,UN (k _ ?_ (Py ..))⟩));exact⟨_,Pj _ e1 (Qz (PN d1 _)),(Rv ..).trans c1,by rw [PN d1];simp [Vn]⟩
theorem JD{j t:UL}{i:Nat}{its:Array UJ}{Q:UJ->UM->Prop}(hh:A.handled=none)(hi:s.heap.IsTupleIter j t i)(ht:s.heap.IsTuple t its)(hx:its[i]?=none)
 (k:∀h2 e,TC j s.heap h2->(∃o,h2.get? e=some o/\o.cls= .type "StopIteration")->E (.ref e) {s with heap:=h2}):UO (UP prog w) A (PV (.ref j)) Q E s:=by
 obtain⟨oi,e1,c1,d1⟩:=id hi;obtain⟨ot,e2,_,n2,d2⟩:=ht;unfold PV;refine UK (U5 (name:=NG "__next__") hi.typeIs F.slot_tuple_iterator_next (U8 F.slot_tuple_iterator_next hi.typeIs F.entry_tuple_iterator_next ?_ (F.args_tuple_iterator_next_1 _)))
 (show UO _ _ (field (.ref j) 0 >>=_) _ _ s);refine UK (Vd e1 d1 (x:= .ref t) rfl ?_)
 (show UO _ _ (if (Oz t==Qa)=true then _ else _) _ _ s);rw [UD (show ¬((Oz t==Qa)=true) from Ou)]
 (show UO _ _ (field (.ref j) 1 >>=_) _ _ s);refine UK (Vd e1 d1 (x:= .int i 0) rfl ?_)
 (show UO _ _ (seqItems? (.ref t) >>=_) _ _ s);refine UK (Vm e2 d2 ?_)
 simp only [O9,hx];refine UK (VO (UK (Vr e1 d1 UH ?_)))
 (show UO _ _ (newExc (.type "StopIteration") [] >>=_) _ _ _);refine UK ?_;simp only [newExc,newTuple]
 refine UK (U3 ?_ (by size_fits));refine UK (m:=VN _ _) (V2 (a:=Qa) (by first | rfl | (simp only [VN];rfl)) ?_);refine U3 ?_ (by size_fits);simp only [raiseNew];refine UK (wpAny_handled ?_)
 first | rw [show A.in1.handled=none from hh] | rw [hh]
 refine UK (UN (wpAny_throw ?_));exact k _ _ (((Py ..).extBut.push _).push _) ⟨_,N7 _ rfl,rfl⟩
theorem JE{z TI TO i1 i2 l1 l2:UL}{k1 k2:Nat}{xs ys:Array UJ}{x y a b:UJ}{Q:UJ->UM->Prop}(D:Wi z TI TO i1 i2 l1 l2)
 (hz:VV s.heap z TI TO .none)(hI:Vq s.heap TI (.ref i1) (.ref i2))(hO:Vq s.heap TO a b)(h1:s.heap.IsTupleIter i1 l1 k1)(h2:s.heap.IsTupleIter i2 l2 k2)(t1:s.heap.IsTuple l1 xs)(t2:s.heap.IsTuple l2 ys)(hx:xs[k1]?=some x)(hy:ys[k2]?=some y)
 (k:∀g,VV g z TI TO (Vn s.heap.objs.size)->Vq g TO x y->g.IsTupleIter i1 l1 (k1+1)->g.IsTupleIter i2 l2 (k2+1)->Vq g s.heap.objs.size x y->g.objs.size=s.heap.objs.size+1->
  (∀c o,c≠z->c≠TO->c≠i1->c≠i2->s.heap.get? c=some o->g.get? c=some o)->Q (.ref s.heap.objs.size) {s with heap:=g}):
 UO (UP prog w) A (Builtin.«zip.__next__» ⟨[.ref z],[]⟩) (λfin s'=>∃v,fin= .done (.ret v)/\Q v s') E s:=by
 (show UO _ _ (field (.ref z) 2 >>=_) _ _ _);refine UK (Vd hz rfl (x:= .bool false) rfl ?_)
 (show UO _ _ (field (.ref z) 3 >>=_) _ _ _);refine UK (Vd hz rfl (x:= .ref TI) rfl ?_);refine UK (Vm hI rfl ?_)
 (show UO _ _ (Qc (.ref z) >>=_) _ _ _);refine UK ?_;unfold Qc
 refine UK (Vd hz rfl (x:= .none) rfl (UN ?_));simp only [if_true];refine UK (VO ?_);refine UK (Vd hz rfl (x:= .ref TO) rfl ?_);refine UK (VM hz UH λg1 z1 b1=>?_)
 replace z1:VV g1 z TI TO .ellipsis:=z1
 refine UK ?_;simp only [TM,T1,Sx,SG];refine UK (UK (Ws ?_));(show UO _ _ (PV (.ref i1) >>=_) _ _ _);refine UK (Df (h1.extBut b1.extBut D.i1z) (t1.extBut b1.extBut D.l1z) hx λg2 j2 b2=>UN ?_);have o2:Vq g2 TO a b:=b2.extBut _ _ D.TOi1 (b1.extBut _ _ D.TOz hO);refine UK (Vm o2 rfl ?_);refine UK (wpAny_updateSeq_pair o2 λg3 o3 b3=>?_)
 replace o3:Vq g3 TO x b:=o3
 refine UK (wpAny_letGo (UN ?_));refine UK (UK (Ws ?_));(show UO _ _ (PV (.ref i2) >>=_) _ _ _);refine UK (Df (((h2.extBut b1.extBut D.i2z).extBut b2.extBut D.i12.symm).extBut b3.extBut D.TOi2.symm) (((t2.extBut b1.extBut D.l2z).extBut b2.extBut D.l2i1).extBut b3.extBut D.l2TO) hy λg4 j4 b4=>UN ?_);have o4:Vq g4 TO x b:=b4.extBut _ _ D.TOi2 o3;refine UK (Vm o4 rfl ?_);refine UK (wpAny_updateSeq_pair o4 λg5 o5 b5=>?_)
 replace o5:Vq g5 TO x y:=o5
 refine UK (wpAny_letGo (UN (UN ?_)));refine UK (Vm o5 rfl ?_);refine UK (wpAny_newTuple ?_);have sz:g5.objs.size=s.heap.objs.size:=by rw [b5.1,b4.1,b3.1,b2.1,b1.1]
 have z5:VV g5 z TI TO .ellipsis:=b5.extBut _ _ D.TOz.symm (b4.extBut _ _ D.i2z.symm (b3.extBut _ _ D.TOz.symm (b2.extBut _ _ D.i1z.symm z1)));have k5:∀c o,c≠z->c≠TO->c≠i1->c≠i2->s.heap.get? c=some o->g5.get? c=some o:=λc o c1 c2 c3 c4 e=>b5.extBut _ _ c2 (b4.extBut _ _ c4 (b3.extBut _ _ c2 (b2.extBut _ _ c3 (b1.extBut _ _ c1 e))));have j15:g5.IsTupleIter i1 l1 (k1+1):=((j2.extBut b3.extBut D.TOi1.symm).extBut b4.extBut D.i12).extBut b5.extBut D.TOi1.symm;have j25:g5.IsTupleIter i2 l2 (k2+1):=j4.extBut b5.extBut D.TOi2.symm;have zl:z < g5.objs.size:=NW z5
 (show UO _ _ (Rl (.ref z) (.ref g5.objs.size) >>=_) _ _ _);refine UK ?_;unfold Rl
 have z6:VV (g5.push {cls:= .type "tuple",data:= .seq #[x,y]}) z TI TO .ellipsis:=NK _ z5;refine UK (VM z6 UH λg7 z7 b7=>?_)
 replace z7:VV g7 z TI TO (Vn g5.objs.size):=z7
 refine VM z7 UH λg8 z8 b8=>?_
 replace z8:VV g8 z TI TO (Vn g5.objs.size):=z8
 have up:∀c o,c≠z->g5.get? c=some o->g8.get? c=some o:=λc o c1 e=>b8.extBut _ _ c1 (b7.extBut _ _ c1 (NK _ e));have p8:Vq g8 g5.objs.size x y:=b8.extBut _ _ (QZ zl) (b7.extBut _ _ (QZ zl) (N7 _ rfl));have s8:g8.objs.size=g5.objs.size+1:=by rw [b8.1,b7.1,Qb]
 rw [sz] at z8 p8 s8;refine UN ⟨_,rfl,?_⟩;(show Q (.ref g5.objs.size) _);rw [sz];have at1:∀{j t i},g5.IsTupleIter j t i->j≠z->g8.IsTupleIter j t i:=λh hj=>let ⟨o,e,r⟩:=h;⟨o,up _ o hj e,r⟩
 exact k g8 z8 (up _ _ D.TOz o5) (at1 j15 D.i1z) (at1 j25 D.i2z) p8 s8 λc o c1 c2 c3 c4 e=>up c o c1 (k5 c o c1 c2 c3 c4 e)
theorem JF{z TI TO i1 i2 l1 l2:UL}{k1:Nat}{xs:Array UJ}{Q:Fin->UM->Prop}(hh:A.handled=none)(D:Wi z TI TO i1 i2 l1 l2)
 (hz:VV s.heap z TI TO .none)(hI:Vq s.heap TI (.ref i1) (.ref i2))(h1:s.heap.IsTupleIter i1 l1 k1)(t1:s.heap.IsTuple l1 xs)(hx:xs[k1]?=none)
 (k:∀g e,(∀c o,c≠z->c≠i1->s.heap.get? c=some o->g.get? c=some o)->(∃o,g.get? e=some o/\o.cls= .type "StopIteration")->E (.ref e) {s with heap:=g}):
 UO (UP prog w) A (Builtin.«zip.__next__» ⟨[.ref z],[]⟩) Q E s:=by
 (show UO _ _ (field (.ref z) 2 >>=_) _ _ _);refine UK (Vd hz rfl (x:= .bool false) rfl ?_)
 (show UO _ _ (field (.ref z) 3 >>=_) _ _ _);refine UK (Vd hz rfl (x:= .ref TI) rfl ?_);refine UK (Vm hI rfl ?_)
 (show UO _ _ (Qc (.ref z) >>=_) _ _ _);refine UK ?_;unfold Qc
 refine UK (Vd hz rfl (x:= .none) rfl (UN ?_));simp only [if_true];refine UK (VO ?_);refine UK (Vd hz rfl (x:= .ref TO) rfl ?_);refine UK (VM hz UH λg1 z1 b1=>?_)
 replace z1:VV g1 z TI TO .ellipsis:=z1
 refine UK ?_;simp only [TM,T1,Sx,SG];refine UK (UK (Ws ?_));(show UO _ _ (PV (.ref i1) >>=_) _ _ _);refine UK (JD hh (h1.extBut b1.extBut D.i1z) (t1.extBut b1.extBut D.l1z) hx λg2 e b2 he=>?_);obtain⟨oe,hoe,hce⟩:=he;have z2:VV g2 z TI TO .ellipsis:=b2 _ _ D.i1z.symm z1;have ez:e≠z:=λq=>by subst q;rw [z2] at hoe;cases hoe;simp at hce
 exact VM z2 UH λg3 _ b3=>k g3 e (λc o c1 c3 q=>b3.extBut _ _ c1 (b2 _ _ c3 (b1.extBut _ _ c1 q))) ⟨oe,b3.extBut _ _ ez hoe,hce⟩
theorem JG{z TI TO i1 i2 l1 l2:UL}{k1 k2:Nat}{xs ys:Array UJ}{x y a b:UJ}{Q:Option UJ->UM->Prop}(D:Wi z TI TO i1 i2 l1 l2)
 (hz:VV s.heap z TI TO .none)(hI:Vq s.heap TI (.ref i1) (.ref i2))(hO:Vq s.heap TO a b)(h1:s.heap.IsTupleIter i1 l1 k1)(h2:s.heap.IsTupleIter i2 l2 k2)(t1:s.heap.IsTuple l1 xs)(t2:s.heap.IsTuple l2 ys)(hx:xs[k1]?=some x)(hy:ys[k2]?=some y)
 (k:∀g,VV g z TI TO (Vn s.heap.objs.size)->Vq g TO x y->g.IsTupleIter i1 l1 (k1+1)->g.IsTupleIter i2 l2 (k2+1)->Vq g s.heap.objs.size x y->g.objs.size=s.heap.objs.size+1->
  (∀c o,c≠z->c≠TO->c≠i1->c≠i2->s.heap.get? c=some o->g.get? c=some o)->Q (some (.ref s.heap.objs.size)) {s with heap:=g}):UO (UP prog w) A (Vx (.ref z)) Q E s:=by
 have ty:s.TypeIs (.ref z) "zip":=⟨_,hz,rfl⟩;unfold Vx;exact UK (VS (U5 (name:=NG "__next__") ty F.slot_zip_next (U8 F.slot_zip_next ty F.entry_zip_next (JE D hz hI hO h1 h2 t1 t2 hx hy λg a1 a2 a3 a4 a5 a6 a7=>UN (k g a1 a2 a3 a4 a5 a6 a7)) (F.args_zip_next_1 _))))
theorem JH{z TI TO i1 i2 l1 l2:UL}{k1:Nat}{xs:Array UJ}{Q:Option UJ->UM->Prop}(hh:A.handled=none)(D:Wi z TI TO i1 i2 l1 l2)
 (hz:VV s.heap z TI TO .none)(hI:Vq s.heap TI (.ref i1) (.ref i2))(h1:s.heap.IsTupleIter i1 l1 k1)(t1:s.heap.IsTuple l1 xs)(hx:xs[k1]?=none)
 (k:∀g,(∀c o,c≠z->c≠i1->s.heap.get? c=some o->g.get? c=some o)->Q none {s with heap:=g}):UO (UP prog w) A (Vx (.ref z)) Q E s:=by
 have ty:s.TypeIs (.ref z) "zip":=⟨_,hz,rfl⟩;unfold Vx;refine UK (VS (U5 (name:=NG "__next__") ty F.slot_zip_next (U8 F.slot_zip_next ty F.entry_zip_next (JF hh D hz hI h1 t1 hx λg e kk he=>?_) (F.args_zip_next_1 _))));obtain⟨oe,eo,ce⟩:=he;refine UK (V7 (T:="StopIteration") (b:=true) ⟨oe,eo,ce⟩ isSubtype_stop ?_);exact UN (k _ kk)
abbrev ue(h:UW)(a:UL):UW:=h.push {cls:= .type "tuple_iterator",data:= .fields #[.ref a,.int 0 0]}
abbrev uf(h:UW)(a b:UL):UW:=(ue h a).push {cls:= .type "tuple_iterator",data:= .fields #[.ref b,.int 0 0]}
abbrev ug(h:UW)(a b:UL):UW:=(uf h a b).push {cls:= .type "tuple",data:= .seq #[.ref h.objs.size,.ref (ue h a).objs.size]}
abbrev uh(h:UW)(a b:UL):UW:=(ug h a b).push {cls:= .type "tuple",data:= .seq #[.none,.none]}
abbrev qD(h:UW)(a b:UL):UW:=(uh h a b).push {cls:= .type "zip",data:= .fields #[.none,.bool false,.bool false,.ref (uf h a b).objs.size,.ref (ug h a b).objs.size]}
theorem JI(a b:UL)(xs ys:Array UJ):Meets (Builtin.«zip.__new__» ⟨[.type "zip",.ref a,.ref b],[]⟩) (λ_ R s=>s.heap.IsTuple a xs/\s.heap.IsTuple b ys/\R (.ok (.ret (.ref (uh s.heap a b).objs.size))) {s with heap:=qD s.heap a b}):=
 .of_wp λprog w A R s h=>by
  obtain⟨hp,g,d,tk,os⟩:=s;obtain⟨u1,u2,h⟩:=h;have hsub:=sub_zip;have v1:Uk (Uu ⟨hp,g,d,tk,os⟩) a xs:=u1;have v2:Uk (Uu ⟨hp.push {cls:= .type "tuple_iterator",data:= .fields #[.ref a,.int 0 0]},g,d,tk,os⟩) b ys:=Uk.push u2 _
  wp_walk using Wl v1,Wl v2
  exact⟨_,rfl,h⟩
theorem JJ{a b:UL}{xs ys:Array UJ}{Q:UJ->UM->Prop}(ha:s.heap.IsTuple a xs)(hb:s.heap.IsTuple b ys)
 (k:∀g,VV g (s.heap.objs.size+4) (s.heap.objs.size+2) (s.heap.objs.size+3) .none->Vq g (s.heap.objs.size+2) (.ref s.heap.objs.size) (.ref (s.heap.objs.size+1))->Vq g (s.heap.objs.size+3) .none .none->
  g.IsTupleIter s.heap.objs.size a 0->g.IsTupleIter (s.heap.objs.size+1) b 0->(∀c o,s.heap.get? c=some o->g.get? c=some o)->Q (.ref (s.heap.objs.size+4)) {s with heap:=g}):UO (UP prog w) A (call (.type "zip") [.ref a,.ref b]) Q E s:=by
 refine callType_new F.called_zip Ce (F.typeCall_zip_2 _ _) (F.newCall_zip_2 _ _) (λobj=>F.args_object_init_3 obj _ _) F.entry_zip_new (JI a b xs ys) ⟨ha,hb,?_⟩;have n1:(ue s.heap a).objs.size=s.heap.objs.size+1:=Qb ..;have n2:(uf s.heap a b).objs.size=s.heap.objs.size+2:=by rw [Qb,n1]
 have n3:(ug s.heap a b).objs.size=s.heap.objs.size+3:=by rw [Qb,n2]
 have n4:(uh s.heap a b).objs.size=s.heap.objs.size+4:=by rw [Qb,n3]
 have ps:∀{h:UW}{x:Obj}{c:UL}{o:Obj},h.get? c=some o->(h.push x).get? c=some o:=λe=>NK _ e;have g5:(qD s.heap a b).get? (uh s.heap a b).objs.size=some _:=N7 _ rfl;have g4:(qD s.heap a b).get? (ug s.heap a b).objs.size=some _:=ps (N7 _ rfl);have g3:(qD s.heap a b).get? (uf s.heap a b).objs.size=some _:=ps (ps (N7 _ rfl));have g2:(qD s.heap a b).get? (ue s.heap a).objs.size=some _:=ps (ps (ps (N7 _ rfl)));have g1:(qD s.heap a b).get? s.heap.objs.size=some _:=ps (ps (ps (ps (N7 _ rfl))));show _/\_;rw [n2,n3,n4] at g5;rw [n1,n2] at g3;rw [n3] at g4;rw [n1] at g2;rw [n4];exact⟨⟨_,g5,rfl⟩,k _ g5 g3 g4 ⟨_,g1,rfl,rfl⟩ ⟨_,g2,rfl,rfl⟩ λc o e=>ps (ps (ps (ps (ps e))))⟩
end
section
variable {X:Cx} {Wx:List (UL×Obj)} {σ:St} {H:Hp} {s:UM}
theorem ag.still{ch:List UL}{t':Nat}{h':UW}(I:ag X Wx σ H s)(f:∀b∈ch,ml X Wx H b)(k:∀b u,b ∉ ch->s.heap.get? b=some u->h'.get? b=some u):ag X Wx σ H {s with heap:=h',toks:=t'}:=by
 have nC:∀b u,H b=some u->b ∉ ch:=λb u e z=>by rw [(f b z).1] at e;cases e
 refine I.step (g':=s.gens) (d':=s.drawn) (ch:=ch) (λb hb=>?_) (λb o _ _ hc e _=>k b o hc e) (λb o _ _ hc e _=>⟨o.slots,k b o hc e⟩) (λb o hc _ n=>n) (λb o hc e=>⟨o,k b o hc e⟩) (λb xs e=>e) (λb u xs e=>e) (λb ps e=>⟨#[],by rw [e];simp⟩) (λm hm=>hm.at' λo e=>k _ o (λz=>(f _ z).2.1 rfl) e) (λb u e=>?_) I.bare
 ·obtain⟨f0,f1,f2,f3,f4,f5⟩:=f b hb;exact⟨f3,f1,f4,f5⟩
 ·refine(I.hok b u e).stay (λc v hc q=>k c v (λz=>?_) q) (λc q=>q) (λc xs q=>q) (λc xs q=>q);rcases hc with r | r
  ·rw [r] at z;exact nC _ _ e z
  ·exact nC _ _ r z
end
def xI(K:NH)(a b:UL):It:=
 ⟨λi H=>∃xs ys x y,aX K H a xs/\aX K H b ys/\xs[i]?=some x/\ys[i]?=some y,λi H x H'=>∃p v u,H p=none/\x= .ref p/\H'=ak H p (.tup [v,u])/\(∀xs,aX K H a xs->xs[i]?=some v)/\∀ys,aX K H b ys->ys[i]?=some u,λi H=>∃xs,aX K H a xs/\xs.length<=i⟩
theorem JK{P:UX}{w:UZ}{K:NH}{elts:List US}{k0}{pos:Pos}(a b z TI TO i1 i2:UL)(D:Wi z TI TO i1 i2 a b):p9 P w K (.Tuple elts k0 pos) (xI K a b) [z,TI,TO,i1,i2] z
 (λi h=>VV h z TI TO .none/\Vq h TI (.ref i1) (.ref i2)/\(∃u v,Vq h TO u v)/\h.IsTupleIter i1 a i/\h.IsTupleIter i2 b i) where
 mem:=UH
 obj:=λi h st c hc=>by
  simp only [NO,NZ,or_false] at hc;obtain⟨a1,a2,⟨u,v,a3⟩,⟨o4,e4,c4,d4⟩,o5,e5,c5,d5⟩:=st;rcases hc with rfl | rfl | rfl | rfl | rfl
  ·exact⟨_,a1,λv z=>by cases z⟩
  ·exact⟨_,a2,λv z=>by cases z⟩
  ·exact⟨_,a3,λv z=>by cases z⟩
  ·exact⟨o4,e4,λv z=>by rw [d4] at z;cases z⟩
  ·exact⟨o5,e5,λv z=>by rw [d5] at z;cases z⟩
 keep:=λi h h' st k=>by
  obtain⟨a1,a2,⟨u,v,a3⟩,⟨o4,e4,r4⟩,o5,e5,r5⟩:=st;exact⟨k _ UH _ a1,k _ UH _ a2,⟨u,v,k _ UH _ a3⟩,⟨o4,k _ UH _ e4,r4⟩,o5,k _ UH _ e5,r5⟩
 item:=by
  intro X hP hw hK hc i Wx s σ H E I hf st hg;subst hP hw hK;obtain⟨xs,ys,x,y,qa,qb,hx,hy⟩:=hg;obtain⟨ia,ra,pa,_⟩:=I.tuple qa;obtain⟨ib,rb,pb,_⟩:=I.tuple qb;obtain⟨u,hu,ru⟩:=ra.get hx;obtain⟨v,hv,rv⟩:=rb.get hy;obtain⟨a1,a2,⟨_,_,a3⟩,a4,a5⟩:=st;refine JG D a1 a2 a3 a4 a5 (show s.heap.IsTuple a ia.toArray from pa) (show s.heap.IsTuple b ib.toArray from pb) (x:=u) (y:=v) (by simpa using hu) (by simpa using hv) λg b1 b2 b3 b4 b5 b6 hk=>?_;have T0:H s.heap.objs.size=none:=I.hok.fresh (NV _);have lts:∀c∈[z,TI,TO,i1,i2],c < s.heap.objs.size:=λc hc=>by
   simp only [NO,NZ,or_false] at hc;rcases hc with rfl | rfl | rfl | rfl | rfl
   ·exact NW a1
   ·exact NW a2
   ·exact NW a3
   ·obtain⟨_,e,_⟩:=a4;exact NW e
   ·obtain⟨_,e,_⟩:=a5;exact NW e
  have I1:ag X Wx σ (ak H s.heap.objs.size (.tup [x,y])) {s with heap:=g}:=by
   refine I.track (t':=s.toks) (ch:=[s.heap.objs.size,z,TO,i1,i2]) UH (λc hc=>?_) (λc o hc e=>hk c o (λq=>hc (by simp [q])) (λq=>hc (by simp [q])) (λq=>hc (by simp [q])) (λq=>hc (by simp [q])) e) ?_
   ·rcases NO.mp hc with q | q
    ·rw [q];exact I.fpOk (NV _) T0
    ·refine hf c ?_;simp only [NO,NZ,or_false] at q⊢;rcases q with q | q | q | q <;> simp [q]
   ·exact⟨by rw [UY,NJ,NJ,N8];decide,[u,v],.cons ru (.cons rv .nil),_,b5,rfl,0,rfl⟩
  refine⟨_,rfl,wpAny_letOwnedTupleGo_zip b1 λg2 z2 sb=>?_⟩;obtain⟨f0,f1,f2,f3,f4,f5⟩:=hf z UH;have nz:s.heap.objs.size≠z:=QZ (lts z UH);have I2:ag X Wx σ (ak H s.heap.objs.size (.tup [x,y])) {s with heap:=g2}:=I1.turned (t':=s.toks) (λc o hc q=>(sb.2 c hc).trans q) (by rw [av (Ne.symm nz)];exact f0) f1 f3 f4 f5;have at2:∀{j t i},g.IsTupleIter j t i->j≠z->g2.IsTupleIter j t i:=λh hj=>let ⟨o,e,r⟩:=h;⟨o,(sb.2 _ hj).trans e,r⟩
  refine⟨.ref s.heap.objs.size,_,I2,rfl,⟨_,x,y,T0,rfl,rfl,λus hus=>by rw [I.tuple_inj hus qa];exact hx,λus hus=>by rw [I.tuple_inj hus qb];exact hy⟩,⟨z2,(sb.2 _ D.TIz).trans (hk _ _ D.TIz D.TITO D.TIi1 D.TIi2 a2),⟨_,_,(sb.2 _ D.TOz).trans b2⟩,at2 b3 D.i1z,at2 b4 D.i2z⟩,λc hc=>?_⟩;rw [av λq=>?_]
  ·exact(hf c hc).1
  ·have:=lts c hc;rw [q] at this;exact Qq _ this
 done:=by
  intro X hP hw hK hc i Wx s σ H E I hf st hg;subst hP hw hK;obtain⟨xs,qa,hx⟩:=hg;obtain⟨ia,ra,pa,_⟩:=I.tuple qa;obtain⟨a1,a2,_,a4,_⟩:=st;have hl:=ra.length;obtain⟨f0,f1,f2,f3,f4,f5⟩:=hf z UH;obtain⟨e0,e1,e2,e3,e4,e5⟩:=hf i1 UH;refine JH (I.ok.hd hc) D a1 a2 a4 (show s.heap.IsTuple a ia.toArray from pa) (by simp;omega) λg hk=>⟨rfl,?_⟩;exact I.still (ch:=[z,i1]) (t':=s.toks) (λc hc=>by
   simp only [NO,NZ,or_false] at hc;rcases hc with rfl | rfl
   ·exact hf _ UH
   ·exact hf _ UH) λc o hc e=>hk c o (λq=>hc (by simp [q])) (λq=>hc (by simp [q])) e
 self:=λA i s Q E st h=>wpAny_pyIter_zip st.1 h
theorem JL{n u v:Nat}(hu:u < n)(hv:v < n):Wi (n+4) (n+2) (n+3) n (n+1) u v:=by constructor <;> (intro q;have q:(_:Nat)=_:=q;omega)
def JM(K:NH)(ta:TA):TI:=λσ H R=>ta σ H λvs H1=>∃a b xs ys,vs=[.ref a,.ref b]/\aX K H1 a xs/\aX K H1 b ys/\R (xI K a b) H1
theorem JN{X:Cx}{elts:List US}{k0}{tp:Pos}{a b:US}{ta:TA}{p pos:Pos}(hg:Gl X "zip")(hm:X.mg "zip"=none)(ha:PA X [a,b] ta)(hs:UQ [a,b] X.env=(false,eval a X.env)::UQ [b] X.env:=by rfl)(hpl:(U7 pos (UQ [b] X.env)).any (·.1)=false:=by rfl):PI X (.Tuple elts k0 tp) (.Call (.Name "zip" p) [a,b] [] pos) (JM X.K ta):=by
 intro Wx s σ H R I h;refine Call_ (p5 I hg hm boot_zip (Qw (ax (ha pos Wx s σ H _ I h) λus s1 ⟨vs,H1,I1,r1,q1⟩=>?_) hs hpl));obtain⟨u,v,xs,ys,e,qa,qb,q⟩:=q1;subst e;cases r1 with
 | cons r rr=>
  cases rr with
  | cons r2 rr=>
   cases rr;cases r;cases r2;obtain⟨ia,ra,pa,_⟩:=I1.tuple qa;obtain⟨ib,rb,pb,_⟩:=I1.tuple qb;have la:u < s1.heap.objs.size:=by obtain⟨o,e,_⟩:=(show s1.heap.IsTuple u ia.toArray from pa);exact NW e
   have lb:v < s1.heap.objs.size:=by obtain⟨o,e,_⟩:=(show s1.heap.IsTuple v ib.toArray from pb);exact NW e
   refine JJ (show s1.heap.IsTuple u ia.toArray from pa) (show s1.heap.IsTuple v ib.toArray from pb) λg z1 z2 z3 z4 z5 hk=>wpAny_pyIter_zip z1 ?_;have I2:ag X Wx σ H1 {s1 with heap:=g}:=I1.kept (t':=s1.toks) hk;have D:Wi (s1.heap.objs.size+4) (s1.heap.objs.size+2) (s1.heap.objs.size+3) s1.heap.objs.size (s1.heap.objs.size+1) u v:=JL la lb;refine⟨_,_,_,_,H1,rfl,I2,JK u v _ _ _ _ _ D,⟨z1,z2,⟨_,_,z3⟩,z4,z5⟩,λc hc=>?_,q⟩;have le:s1.heap.objs.size<=c:=by
    simp only [NO,NZ,or_false] at hc;rcases hc with rfl | rfl | rfl | rfl | rfl <;> omega
   exact I1.fpOk le (I1.hok.fresh le)
def oO(xs ys:List UI):List UI:=List.zipWith (λx y=>.tuple [x,y]) xs ys
theorem Dg{K:NH}{H H':Hp}{a:UL}{xs:List V}(s:∀o,H a=some o->H' a=some o)(h:aX K H a xs):aX K H' a xs:=by
 rcases h with h | h
 ·exact .inl (h.same s)
 ·exact .inr h
theorem JO{K:NH}{H0:Hp}{O0:Ex}{a b:UL}{vs us:List V}{xs ys:List UI}{g:TG}{dg:DG}{tc:TT}{dc:DB}{te:TE}{de:DT}{k:Nat}{fr:List Nat}{σ:St}{H:Hp}{O:Ex}{δ:Dl}{Qd:List UI->Prop}{Q:VK}(qa:aX K H a vs)(qb:aX K H b us)(gd:GD K g dg)(hf:fr.Nodup)
 (hk:∀v:V,∀σ':St,∀H':Hp,∀R:St->Hp->Prop,g v (bC k fr σ) H' R->g v (bC k fr σ) H' λσ2 H2=>oy (bC k fr σ) σ2/\R σ2 H2)
 (hc:∀σ H Q,jQ K H0 O0 dc σ H Q->tc σ H Q)(he:∀σ H Q,up K H0 O0 de σ H Q->te σ H Q)
 (r1:aq K H O vs xs)(r2:aq K H O us ys)(hl:vs.length=us.length)(w:Wd K H0 O0 H O σ δ)(hz:vs.length<=UR)(q:mw dg dc de (bg k fr δ) (oO xs ys) Qd)
 (k1:∀ds us p H',Qd ds->ao H H'->H' p=none->aq K H' O us ds->Q (.ref p) (ak H' p (.lst us))):oz (xI K a b) g tc te k fr σ H Q:=by
 obtain⟨Iv,q0,qs,qe⟩:=q;intro D hD;have w0:Wd K H0 O0 H O (bC k fr σ) (bg k fr δ):=w.comp hf;have nD:¬O D:=λz=>w.trk D z hD;have D0:H0 D=none:=by
  cases e:H0 D with
  | none=>rfl
  | some o=>rw [w.same _ _ e] at hD;cases hD
 have ex:∀H',mU D H H'->H' D≠none->Wd K H0 O0 H' (λa=>O a\/a=D) (bC k fr σ) (bg k fr δ):=λH' s' hd=>by
  have S':bA H H' O (λa=>O a\/a=D):=⟨λb o e _=>s' b o e (ko e hD),λb hb hn z=>z.elim hn λq=>hb (by rw [q];exact hD)⟩;refine⟨λb o e=>s' b o (w.same b o e) (λz=>by rw [z,D0] at e;cases e),λl z=>.inl (w.sub l z),λl z=>z.elim (w.new l) λq=>.inr (by rw [q];exact D0),λl z=>?_,w0.len,λj y e=>?_,w0.dis⟩
  ·by_cases ql:l=D
   ·rw [ql];exact hd
   ·have hl:=w.trk l (z.resolve_right ql);cases e:H l with
    | none=>exact absurd e hl
    | some o=>rw [s' l o e ql];exact λz=>nomatch z
  ·exact(w0.sl j y e).go S' (λl o _ _ a1 _ a3=>⟨.inl a1,s' _ _ a3 (λz=>nD (by rw [<-z];exact a1))⟩) (λa o u a1 _ a3=>⟨.inl a1,s' _ _ a3 (λz=>nD (by rw [<-z];exact a1))⟩) λa o a1 a3=>s' _ _ a3 (λz=>nD (by rw [<-z];exact w.sub _ a1))
 have zl:(oO xs ys).length=vs.length:=by unfold oO;rw [List.length_zipWith,<-r1.length,<-r2.length,<-hl];exact Nat.min_self _
 have sq:∀H',mU D H H'->aX K H' a vs/\aX K H' b us:=λH' s'=>⟨Dg (λo e=>s' _ _ e (ko e hD)) qa,Dg (λo e=>s' _ _ e (ko e hD)) qb⟩;refine⟨λi m H'=>∃acc ws,m=vs.length - i/\i<=vs.length/\mU D H H'/\H' D=some (.lst ws)/\ws.length<=i/\aq K H' (λa=>O a\/a=D) ws acc/\Iv i acc,⟨vs.length,[],[],UH,PU _,λb o e n=>by rw [av n];exact e,bh,PU _,.nil,q0⟩,?_⟩;rintro i m H1 ⟨acc,ws,rfl,hi,s1,e1,hy,ra,q1⟩;obtain⟨sa,sb⟩:=sq H1 s1;by_cases hlt:i < vs.length
 ·refine .inr ⟨⟨vs,us,vs[i],us[i]'UC,sa,sb,by simp [hlt],by simp [show i < us.length by omega]⟩,λx H' y=>?_⟩;obtain⟨p,v,u,hp,rfl,rfl,hv,hu⟩:=y;obtain⟨d,ed,rd⟩:=r1.get (hv vs sa);obtain⟨e,ee,re⟩:=r2.get (hu us sb);have pD:p≠D:=λz=>by rw [z,e1] at hp;cases hp
  have s2:mU D H (ak H1 p (.tup [v,u])):=λb o e n=>by
   have e':=s1 b o e n;rw [av (λz=>by rw [z,hp] at e';cases e')];exact e'
  have e2:(ak H1 p (.tup [v,u])) D=some (.lst ws):=by rw [av (Ne.symm pD)];exact e1
  have w1:=ex _ s2 (by rw [e2];exact λz=>nomatch z);have sm:ao H1 (ak H1 p (.tup [v,u])):=ao.new hp;have S':bA H (ak H1 p (.tup [v,u])) O (λa=>O a\/a=D):=⟨λb o e _=>s2 b o e (ko e hD),λb hb hn z=>z.elim hn λq=>hb (by rw [q];exact hD)⟩;have np:¬(O p\/p=D):=λz=>z.elim (λz=>by
   have:=w.trk p z;cases eh:H p with
   | none=>exact this eh
   | some o=>rw [s1 p o eh pD] at hp;cases hp) pD
  have dt:Dt K (ak H1 p (.tup [v,u])) (λa=>O a\/a=D) (.ref p) (.tuple [d,e]):= .tup (.inl bh) np (.cons (rd.step S') (.cons (re.step S') .nil));have ez:(oO xs ys)[i]?=some (.tuple [d,e]):=by unfold oO;rw [List.getElem?_zipWith,ed,ee]
  refine hk (.ref p) σ _ _ (gd H0 O0 _ _ _ _ (.ref p) _ _ _ w1 dt (qs i _ acc ez q1) λδ2 σ2 q2 w2=>?_);refine hc σ2 _ _ ⟨_,δ2,_,w2,q2,λok H3 q3 s3=>?_⟩;cases ok with
  | true=>
   rw [UE rfl];refine he σ2 H3 _ ⟨_,δ2,_,w2.mono s3,q3,λd' v' H4 q4 s4 r4=>?_⟩;have e4:=s4 _ _ (s3 _ _ e2);have sD:bA H4 (ak H4 D (.lst (ws++[v']))) (λa=>O a\/a=D) (λa=>O a\/a=D):=⟨λb o e n=>by rw [av (λz=>n (.inr z))];exact e,λ_ _ n=>n⟩;refine⟨ws,e4,UC,vs.length - (i+1),UC,acc++[d'],ws++[v'],rfl,hlt,λb o e n=>by rw [av n];exact s4 _ _ (s3 _ _ (s2 b o e n)),bh,by simpa using hy,?_,q4⟩;exact((ra.mono ((sm.trans s3).trans s4)).append (.cons r4 .nil)).step sD
  | false=>
   rw [UD Ce];exact⟨vs.length - (i+1),UC,acc,ws,rfl,hlt,λb o e n=>s3 _ _ (s2 b o e n),s3 _ _ e2,UC,ra.mono (sm.trans s3),q3⟩
 ·have e:i=vs.length:=UC
  subst e;refine .inl ⟨⟨vs,sa,NV _⟩,?_⟩;rw [<-zl] at q1;have hrest:∃H2:Hp,H2 D=none/\ao H H2/\H1=ak H2 D (.lst ws):=by
   refine⟨λb=>if b=D then none else H1 b,UH,λb o e=>?_,?_⟩
   ·have n:=ko e hD;show(if b=D then none else H1 b)=some o;rw [UD n];exact s1 b o e n
   ·funext b;by_cases z:b=D
    ·rw [z,bh];exact e1
    ·rw [av z];show H1 b=if b=D then none else H1 b;rw [UD z]
  obtain⟨H2,h2,s2,rfl⟩:=hrest;refine k1 acc ws D H2 (qe acc q1) s2 h2 (ra.step ⟨λb o e n=>?_,λb _ n z=>n (.inl z)⟩);rw [av (λz=>n (.inr z))] at e;exact e
def fu(ta:DA)(g:DG)(tc:DB)(te:DT)(k:Nat)(fr:List Nat):DA:=λδ Q=>ta δ λds=>∃xs ys,ds=[.tuple xs,.tuple ys]/\xs.length=ys.length/\xs.length<=UR/\mw g tc te (bg k fr δ) (oO xs ys) Q
section
variable {X:Cx} {H0:Hp} {O0:Ex} {elts:List US} {k0:Nat} {tp:Pos} {elt:US} {ifs:List US} {scope:Vg} {N':List Str} {k:Nat} {fr:List Nat} {g:TG} {dg:DG} {ta:DA} {tc:DB} {te:DT} {pos p ps:Pos} {a b:US}
theorem JP(hc:X.calm=true)(S:fw X.env.scope X.N N' k fr scope)(hgl:Gl X "zip")(hm:X.mg "zip"=none)(ha:PA X [a,b] (me X.K H0 O0 ta))(gd:GD X.K g dg)(hk:oE g k)(hfr:fr.Nodup)
 (hg:∀fp C s H,PG (jP X scope N' fp C s H) (.Tuple elts k0 tp) g)(hf:∀fp C s H,mq (jP X scope N' fp C s H) ifs (jQ X.K H0 O0 tc))(he:∀fp C s H,PE (jP X scope N' fp C s H) elt (up X.K H0 O0 te))
 (hst:UQ [a,b] X.env=(false,eval a X.env)::UQ [b] X.env:=by rfl)(hpl:(U7 ps (UQ [b] X.env)).any (·.1)=false:=by rfl)(hs:∀x,Va (.Call (.Name "zip" p) [a,b] [] ps) X.env x=pure x:=by intro _;rfl):
 FE X H0 O0 (.ListComp elt [⟨.Tuple elts k0 tp,(.Call (.Name "zip" p) [a,b] [] ps),ifs,0⟩] scope pos) (fu ta dg tc te k fr):=
 (pj hc S (JN hgl hm ha hst hpl) hg hf he hs).imp λσ H Q uu17=>by obtain⟨O,δ,Qd,w,q,kk⟩:=uu17;exact⟨O,δ,_,w,q,λds vs H1 uu18 s1 r1=>by
  obtain⟨xs,ys,e,hl,hz,q1⟩:=uu18;subst e;cases r1 with
  | cons r1 r2=>
   cases r2 with
   | cons r2 r3=>
    cases r3;obtain⟨u,us,rfl,qa,ra⟩:=r1.tup;obtain⟨v,vs,rfl,qb,rb⟩:=r2.tup;exact⟨u,v,us,vs,rfl,qa,qb,λD hD=>JO qa qb gd hfr (λv _ H' R h=>hk fr σ v H' R h) (λ_ _ _ z=>z) (λ_ _ _ z=>z) ra rb (by rw [ra.length,rb.length];exact hl) (w.mono s1) (by rw [ra.length];exact hz) q1 (λds us p H' z s' hp r'=>kk ds us p H' z (s1.trans s') hp r') D hD⟩⟩
end
theorem JQ(a b:Int):oq (.int a) (.int b)=true:=rfl
theorem JR(a b:Str):oq (.str a) (.str b)=true:=rfl
theorem JS(a b:Bool):oq (.bl a) (.bl b)=true:=rfl
theorem JT(b:Int):oq .non (.int b)=true:=rfl
theorem JU(b:Int):oq (.int b) .non=true:=rfl
section
variable {x y z w:Option Sl} {l:Dl} {i j k m:Nat} {P:UI->Prop}
theorem jG:kJ j ((x::l).set 0 y) P=kJ j (y::l) P:=rfl
theorem jH:kJ j ((x::l).set (i+1) y) P=kJ j (x::l.set i y) P:=rfl
theorem jI:kJ j (((x::l).set 0 y).set k z) P=kJ j ((y::l).set k z) P:=rfl
theorem jJ:kJ j (((x::l).set (i+1) y).set k z) P=kJ j ((x::l.set i y).set k z) P:=rfl
theorem jK:kJ j ((((x::l).set 0 y).set k z).set m w) P=kJ j (((y::l).set k z).set m w) P:=rfl
theorem jL:kJ j ((((x::l).set (i+1) y).set k z).set m w) P=kJ j (((x::l.set i y).set k z).set m w) P:=rfl
end
section
variable {K:NH} {mg:Str->Option UJ} {h:UW} {x q:Str} {st:U0} {f C:UL} {fd:UT} {ps:List Str}
structure Fn (K:NH) (mg:Str->Option UJ) (x:Str) (st:U0) (f:UL) (fd:UT) (ps:List Str):Prop where
 F:lg K x x st f fd
 m:mg x=some (.ref f)
 b:l9 K fd ps []
structure Mn (K:NH) (x q:Str) (st:U0) (f:UL) (fd:UT) (ps:List Str):Prop where
 F:lg K x q st f fd
 b:l9 K fd ps []
structure DfT (K:NH) (x:Str) (st:U0) (f:UL) (fd:UT):Prop where
 a:Oh K UU x=some (some (.ref f))
 F:lg K x x st f fd
structure DmT (K:NH) (C:UL) (x q:Str) (st:U0) (f:UL) (fd:UT):Prop where
 a:Pm K (.ref C) x=some (some (.ref f))
 i:Tj K (.ref f)=true
 F:lg K x q st f fd
theorem DfT.of{oc:UJ}{od an:Option UL}{osl:Array (Option UJ)}{kV doc pm cdv ct:UJ}(a:Oh K UU x=some (some (.ref f)))(l:K.lookup f=some ⟨oc,od,.func (P8 x x (mT st) (lJ st) (ay st) .none kV doc pm an cdv ct),osl⟩)
 (c:Rn K cdv x=true)(k:Ql K (.ref f)=true):DfT K x st f (P8 x x (mT st) (lJ st) (ay st) .none kV doc pm an cdv ct):=⟨a,BA l c k⟩
theorem DmT.of{oc:UJ}{od an:Option UL}{osl:Array (Option UJ)}{kV doc pm cdv ct:UJ}(a:Pm K (.ref C) x=some (some (.ref f)))(i:Tj K (.ref f)=true)(l:K.lookup f=some ⟨oc,od,.func (P8 x q (mT st) (lJ st) (ay st) .none kV doc pm an cdv ct),osl⟩)
 (c:Rn K cdv q=true)(k:Ql K (.ref f)=true):DmT K C x q st f (P8 x q (mT st) (lJ st) (ay st) .none kV doc pm an cdv ct):=⟨a,i,BA l c k⟩
theorem DfT.fn(D:DfT K x st f fd)(X:K.In h)(G:h.Ns UU mg)(hb:∀(kV doc pm:UJ) (an:Option UL) (cdv ct:UJ) (us:List UJ),us.length=ps.length->bindArgs (P8 x x (mT st) (lJ st) (ay st) .none kV doc pm an cdv ct) ⟨us,[]⟩=pure (ps.zip us):=by walk_at "b"):Fn K mg x st f fd ps:=⟨D.F,O4 X G D.a,D.F.binds hb⟩
theorem DmT.fn(D:DmT K C x q st f fd)(hb:∀(kV doc pm:UJ) (an:Option UL) (cdv ct:UJ) (us:List UJ),us.length=ps.length->bindArgs (P8 x q (mT st) (lJ st) (ay st) .none kV doc pm an cdv ct) ⟨us,[]⟩=pure (ps.zip us):=by walk_at "b"):Mn K x q st f fd ps:=⟨D.F,D.F.binds hb⟩
theorem Fn.kp(N:Fn K mg x st f fd ps):Ql K (.ref f)=true:=N.F.kp
end
section
variable {X:Cx} {k:Nat} {f:UL} {fd:UT} {ps:List Str} {sp:Sp} {st:U0} {x:Str} {p pos:Pos} {e:US} {es:List US} {t:TA}
theorem lu(F:aC X.prog X.w X.K X.mg X.base CX0 k f fd ps sp)(hr:bH k X.A)(hg:Gl X x)(N:Fn X.K X.mg x st f fd ps)
 (ha:PA X (e::es) t)(hdb:(x==("__debug__":Str))=false:=by decide)(he:UQ (e::es) X.env=(false,eval e X.env)::UQ es X.env:=by rfl)(hpl:(U7 pos (UQ es X.env)).any (·.1)=false:=by rfl):
 PE X (.Call (.Name x p) (e::es) [] pos) (rB sp [] E0 t):=F7 F hr hg N.m N.kp N.b .nil Bz ha hdb he hpl
end
theorem fw.of{sc:Vg}{N N':List Str}{k:Nat}{fr:List Nat}{scope:Vg}(a:scope.kind= .function:=by rfl)(b:∀y∈scope.names,y.2= .cell->scope.names.lookup y.1=some .cell:=by decide+kernel)(c:∀y∈scope.names,y.2= .local->scope.names.lookup y.1=some .local:=by decide+kernel)(d:N'.Nodup:=by decide+kernel)(e:fr.map (λj=>N[j]?)=(N'.drop k).map some:=by rfl)(f:∀x∈N'.drop k,scope.names.lookup x=some .free:=by decide+kernel)(g:∀y∈scope.names,y.2= .free->sc.names.lookup y.1=some .cell\/sc.names.lookup y.1=some .free:=by decide+kernel)(h:∀x∈N'.drop k,sc.names.lookup x=some .cell\/sc.names.lookup x=some .free:=by decide+kernel)(i:N'.length=k+fr.length:=by rfl):fw sc N N' k fr scope:=⟨a,b,c,d,e,f,g,h,i⟩
theorem aQ.of{N P:List Str}{sc:Vg}(a:sc.kind= .function:=by rfl)(b:sc.isCoroutine=false:=by rfl)(c:sc.isGenerator=false:=by rfl)(d:N.Nodup:=by decide+kernel)(e:N.take P.length=P:=by rfl)(f:∀x∈P,sc.names.lookup x=some .local\/sc.names.lookup x=some .cell:=by decide+kernel)(g:∀y∈sc.names,y.2≠ .free:=by decide+kernel):aQ N P sc:=⟨a,b,c,d,e,f,g⟩
section
variable {X:Cx} {H0:Hp} {O0:Ex} {pos:Pos} {a b e:US} {es:List US} {ta tb t:DT} {u:DA} {r:R2} {rd:UI->UI->(UI->Prop)->Prop}
theorem aP{op:Operator}(ho:br X (Vl op) r)(hd:cN X.K r rd)(ha:DE X H0 O0 a ta)(hb:DE X H0 O0 b tb):DE X H0 O0 (.BinOp a op b pos) (bw rd ta tb):=Ho ho hd (df ha) (df hb)
theorem aj(ho:qh X r)(hd:cN X.K r rd)(ha:DE X H0 O0 a ta)(hb:DE X H0 O0 b tb)(hs:∀v u,subscripted b false v u=operate [v,u] (V9 v u):=by intro _ _;rfl):DE X H0 O0 (.Subscript a b pos) (bw rd ta tb):=nW ho hd (df ha) (df hb) hs
theorem aI{op:CmpOp}(ho:br X (U2 op) r)(hd:cN X.K r rd)(ha:DE X H0 O0 a ta)(hb:DE X H0 O0 b tb)(hm:Vk op b=false):PT X (.Compare a [op] [b] pos) (jQ X.K H0 O0 (bI (bw rd ta tb))):=Hq ho hd (df ha) (df hb) hm
theorem aw(h:DE X H0 O0 e t)(hs:PA X es (me X.K H0 O0 u))(he:UQ (e::es) X.env=(false,eval e X.env)::UQ es X.env:=by rfl):PA X (e::es) (me X.K H0 O0 (cq t u)):=Hs (df h) hs he
theorem au{k j:Nat}{f:UL}{fd:UT}{ps:List Str}{F:List UI->(UI->Prop)->Prop}{st:U0}{x:Str}{p:Pos}(G:aC X.prog X.w X.K X.mg X.base CX0 k f fd ps (bf X.K F))(hr:bH j X.A)(N:Fn X.K X.mg x st f fd ps)
 (ha:PA X (e::es) (mv X.K H0 O0 u))(hk:k<=j:=by decide)(hg:Gl X x:=by exact rfl)(hdb:(x==("__debug__":Str))=false:=by decide)(he:UQ (e::es) X.env=(false,eval e X.env)::UQ es X.env:=by rfl)(hpl:(U7 pos (UQ es X.env)).any (·.1)=false:=by rfl):
 DE X H0 O0 (.Call (.Name x p) (e::es) [] pos) (cw F u):=PE.imp (lu G (hr.mono hk) hg N ha hdb he hpl) BX
end
def Dh(f:Obj->Obj):Prop:=∀o,(f o).dict=o.dict/\(o.isFreed=false->(f o).isFreed=false)
inductive QT {α:Type}:Sem α->Prop
 | pure (a:α):QT (.pure a)
 | raise (e:UJ):QT (.raise e)
 | uns (w:String):QT (.unsupported w)
 | rule {t:String} {k:Unit->Sem α}:(∀x,QT (k x))->QT (.rule t k)
 | at {p:Pos} {k:Unit->Sem α}:(∀x,QT (k x))->QT (.at p k)
 | load {a:UL} {p:Option UJ} {k:Obj->Sem α}:(∀x,QT (k x))->QT (.load a p k)
 | update {a:UL} {p:Option UJ} {f:Obj->Obj} {k:Unit->Sem α}:Dh f->(∀x,QT (k x))->QT (.update a p f k)
 | alloc {o:Obj} {k:UL->Sem α}:(∀x,QT (k x))->QT (.alloc o k)
 | alive {a:UL} {k:Option Obj->Sem α}:(∀x,QT (k x))->QT (.loadIfAlive a k)
 | point {l:List UJ} {k:Unit->Sem α}:(∀x,QT (k x))->QT (.point l k)
 | reg {a:UL} {k:Unit->Sem α}:QT (.register a k)
 | fresh {k:Tok->Sem α}:(∀x,QT (k x))->QT (.fresh k)
 | ask {k:Setting->Sem α}:(∀x,QT (k x))->QT (.ask k)
 | stack {k:List (Code×Pos)->Sem α}:(∀x,QT (k x))->QT (.stack k)
def DK(h h':UW):Prop:=∀b o,h.get? b=some o->∃o',h'.get? b=some o'/\o'.dict=o.dict
theorem DK.refl(h:UW):DK h h:=λb o e=>⟨o,e,rfl⟩
theorem DK.trans{h1 h2 h3:UW}(x:DK h1 h2)(y:DK h2 h3):DK h1 h3:=λb o e=>by
 obtain⟨o',e',d'⟩:=x b o e;obtain⟨o2,e2,d2⟩:=y b o' e';exact⟨o2,e2,d2.trans d'⟩
theorem QT.and{α:Type}{M:VY}{Γ:PySem.Ctx}{E:UJ->Pos->UM->Prop}{Q:α->Pos->UM->Prop}{t:Sem α}(h:QT t):∀{p:Pos}{s:UM},Qy M Γ t Q E p s->Qy M Γ t (λa p' s'=>Q a p' s'/\DK s.heap s'.heap) (λe p' s'=>E e p' s'/\DK s.heap s'.heap) p s:=by
 have lift:∀{t:Sem α}{h0:UW}{p:Pos}{s:UM},DK h0 s.heap->Qy M Γ t (λa p' s'=>Q a p' s'/\DK s.heap s'.heap) (λe p' s'=>E e p' s'/\DK s.heap s'.heap) p s->Qy M Γ t (λa p' s'=>Q a p' s'/\DK h0 s'.heap) (λe p' s'=>E e p' s'/\DK h0 s'.heap) p s:=λhd hw=>
  Sem.wp_mono _ _ _ (λa p' s' z=>⟨z.1,hd.trans z.2⟩) (λa p' s' z=>⟨z.1,hd.trans z.2⟩) _ _ hw
 induction h with
 | pure a=>intro p s w;rw [Qy] at w⊢;exact⟨w,.refl _⟩
 | raise e=>intro p s w;rw [Qy] at w⊢;exact⟨w,.refl _⟩
 | uns e=>intro p s w;rw [Qy] at w;exact w.elim
 | rule _ ih=>intro p s w;rw [Qy] at w⊢;exact ih _ w
 | «at» _ ih=>intro p s w;rw [Qy] at w⊢;exact ih _ w
 | load _ ih=>
  intro p s w;rw [Qy] at w⊢;obtain⟨o,e,w⟩:=w;exact⟨o,e,ih _ w⟩
 | @update a _ f _ hf _ ih=>
  intro p s w;rw [Qy] at w⊢;refine⟨w.1,lift (λb o e=>?_) (ih _ w.2)⟩;by_cases hb:a=b
  ·subst hb;have fo:o.isFreed=false:=(Heap.get?_some_iff.mp e).2;exact⟨f o,Pj f e ((hf o).2 fo),(hf o).1⟩
  ·exact⟨o,(PR _ f hb).trans e,rfl⟩
 | alloc _ ih=>
  intro p s w;rw [Qy] at w⊢;exact lift (λb o e=>⟨o,NK _ e,rfl⟩) (ih _ w)
 | alive _ ih=>intro p s w;rw [Qy] at w⊢;exact ih _ w
 | point _ ih=>intro p s w;rw [Qy] at w⊢;exact ih _ w
 | reg=>intro p s w;rw [Qy] at w;exact w.elim
 | fresh _ ih=>intro p s w;rw [Qy] at w⊢;exact ih _ w
 | ask _ ih=>intro p s w;rw [Qy] at w⊢;exact ih _ w
 | stack _ ih=>intro p s w;rw [Qy] at w⊢;exact ih _ w
theorem QT.bind{α β:Type}{x:Sem α}{f:α->Sem β}(h:QT x)(hf:∀a,QT (f a)):QT (x >>=f):=by
 show QT (Sem.bind x f)
 induction h with
 | pure a=>exact hf a
 | raise e=>exact .raise e
 | uns w=>exact .uns w
 | rule _ ih=>exact .rule ih
 | «at» _ ih=>exact .at ih
 | load _ ih=>exact .load ih
 | update k _ ih=>exact .update k ih
 | alloc _ ih=>exact .alloc ih
 | alive _ ih=>exact .alive ih
 | point _ ih=>exact .point ih
 | reg=>exact .reg
 | fresh _ ih=>exact .fresh ih
 | ask _ ih=>exact .ask ih
 | stack _ ih=>exact .stack ih
theorem JV(f:Array UJ->Array UJ):Dh (SY f):=λo=>by
 obtain⟨c,d,dt,sl⟩:=o;cases dt <;> exact⟨rfl,λh=>h⟩
theorem JW(v:UJ):QT (fieldsOf v):=by
 unfold fieldsOf;split
 ·refine .bind (.load λx=>.pure x) λo=>?_;split
  ·exact .pure _
  ·exact .uns _
 ·exact .uns _
theorem ui(v:UJ)(i:Nat):QT (Uv v i):=by
 unfold Uv;refine .bind (JW v) λvs=>?_;split
 ·exact .pure _
 ·exact .uns _
theorem xJ(v:UJ)(i:Nat)(x:UJ):QT (setField v i x):=by
 unfold setField;split
 ·unfold updateField;refine .bind (.load λx=>.pure x) λo=>?_;split
  ·split
   ·exact .update (JV _) λx=>.pure x
   ·exact .uns _
  ·exact .uns _
 ·exact .uns _
theorem Di:∀l:List Env,QT (readyFrames l)
 | []=>.pure _
 | env::outer=>by
  unfold readyFrames;split
  ·refine .bind (.load λx=>.pure x) λo=>?_;split
   ·exact .pure _
   ·refine .bind ?_ λa=>.bind ?_ λb=>.bind (.update (λo=>⟨rfl,?_⟩) λx=>.pure x) λ_=>Di outer
    ·unfold behindIsImport;split
     ·exact .pure _
     ·split
      ·exact .pure _
      ·exact .bind (ui _ _) λ_=>.pure _
    ·unfold keptBack;split
     ·split
      ·exact .pure _
      ·unfold underTheClaimsCaller;exact .bind (.bind (.stack λx=>.pure x) λ_=>.pure _) λ_=>.pure _
     ·exact .pure _
    ·obtain⟨c,d,dt,sl⟩:=o;cases dt <;> exact λh=>h
  ·exact .uns _
theorem JX(env:Env):QT (S0 env):=by
 unfold S0 frameEnvs;refine .bind (.bind (.stack λx=>.pure x) λ_=>.pure _) λl=>.bind ?_ λo=>?_
 ·generalize l.dropWhile _=m;cases m with
  | nil=>exact .pure _
  | cons a r=>unfold frameObject;exact .bind (Di _) λ_=>.pure _
 ·split
  ·exact .pure _
  ·exact .uns _
theorem JY(f:UL)(b:Bool):QT (entryPlaceOf f b):=by
 unfold entryPlaceOf;refine .bind (.stack λx=>.pure x) λacts=>?_;split <;> exact .pure _
theorem JZ(a b c d e:UJ)(l:List UJ):QT (RQ a b c d e l):=by
 have fin:∀x:Data,QT (newObjAsIs (.type "traceback") x):=λx=>by
  unfold newObjAsIs;exact .bind (.alloc λx=>.pure x) λ_=>.pure _
 have key:∀xs:Array UJ,QT (newObj (.type "traceback") (.fields xs)):=λxs=>by
  unfold newObj;dsimp only;split
  ·exact .bind (.uns _) λ_=>fin _
  ·exact fin _
 unfold RQ newFields;exact key _
theorem Dj(e:UJ)(env:Env):QT (Wa e env):=by
 unfold Wa;split
 ·refine .bind (ui _ _) λh=>?_;have tail:∀f:UL,QT (do setField e 1 (<-RQ h (<-S0 env) .none (Vn f) .none (<-entryPlaceOf f (h != .none)))):=λf=>.bind (JX env) λ_=>.bind (JY _ _) λ_=>.bind (JZ ..) λ_=>xJ ..;split
  ·refine .bind (ui _ _) λg=>?_;split
   ·exact .pure _
   ·exact .bind (xJ ..) λ_=>tail _
  ·exact tail _
 ·exact .uns _
theorem Dk(e:UJ)(o:Option UL):QT (Wo e o):=by
 unfold Wo;refine .bind (ui _ _) λh=>?_;split
 ·exact xJ ..
 ·exact .pure _
theorem J0(env:Env)(e:UJ):QT (leaving env e):=by
 unfold leaving;exact .bind (Dj _ _) λ_=>Dk _ _
theorem J1{M:VY}{A:U1}{env:Env}{e:UJ}{Q:Unit->UM->Prop}{E:UJ->UM->Prop}{s:UM}(h:UO M A (leaving env e) Q E s):UO M A (leaving env e) (λa s'=>Q a s'/\DK s.heap s'.heap) (λv s'=>E v s'/\DK s.heap s'.heap) s:=
 fun Γ p hΓ=>(J0 env e).and (h Γ p hΓ)
def kc(P:UX)(w:UZ):kH:=λouter H s E ev s'=>∃(e:UL)(cls a0:UJ)(B:UW)(H':Hp),ev= .ref e/\s'.os=s.os/\VX s'.gens/\QK B outer e cls a0 s'.heap/\bJ P w H' B/\
 Un (ck outer) [] H H' s.heap s'.heap/\(∀b o,s.heap.get? b=some o->H b=none->b ∉ ck outer->B.get? b=some o)/\(∀b o,s.heap.get? b=some o->b ∉ ck outer->∃o',B.get? b=some o')/\∃oe,s'.heap.get? e=some oe/\E cls oe.dict H'
def mC(H:Hp)(e:UL):Hp:=λb=>if b=e then none else H b
theorem qE{H:Hp}{e b:UL}(h:b≠e):mC H e b=H b:=UD h
theorem bJ.out{P:UX}{w:UZ}{H:Hp}{h:UW}(x:bJ P w H h){e:UL}{φ:UW->Prop}(he:H e=some (.ext φ)):bJ P w (mC H e) h:=λa o q=>by
 have ne:a≠e:=λz=>by rw [z] at q;unfold mC at q;rw [UE rfl] at q;cases q
 rw [qE ne] at q;have k:∀b u,H b=some u->(∀φ,u≠ .ext φ)->mC H e b=some u:=λb u hb hn=>by
  rw [qE (λz=>by rw [z,he] at hb;cases hb;exact hn φ rfl)];exact hb
 exact(x a o q).stay (λ_ _ _ z=>z) (λb z=>k b _ z λ_ y=>by cases y) (λb xs z=>k b _ z λ_ y=>by cases y) λb z y=>k b _ y λ_ y=>by cases y
section
variable {P:UX} {w:UZ} {K:NH} {mg:Str->Option UJ} {base:UW} {N:List Str} {qual:Str} {scope:Vg} {f:UL} {cd:UJ} {A:U1} {outer:List Env} {s:UM} {H:Hp} {E:XK}
theorem J2{Wx:List (UL×Obj)}{σ:St}{H1:Hp}{s1:UM}{e:UL}{oe:Obj}{vs:Array UJ}{a0:UJ}{φ:UW->Prop}
 (I:ag (jS (kc P w) P w K mg base N qual scope f cd A outer s H E) Wx σ H1 s1)(he:s1.heap.get? e=some oe)(hd:oe.data= .fields vs)(h0:vs[0]?=some a0)(h1:vs[1]?=some .none)(ne0:s.heap.get? e=none)(hE:H1 e=some (.ext φ))
 (q:E oe.cls oe.dict (mC H1 e)):(jS (kc P w) P w K mg base N qual scope f cd A outer s H E).xe (.ref e) s1:=by
 have st:=I.stack;have sf:=I.stkFree;have ub:Un (ck outer) [] H H1 s.heap s1.heap:=I.base;have fo:s1.heap.FunFrames base outer:=I.funs;have hin:∀env∈(jS (kc P w) P w K mg base N qual scope f cd A outer s H E).stack,∀a,env.frame=some a->a∈e::ck (jS (kc P w) P w K mg base N qual scope f cd A outer s H E).stack:=λenv he a hf=>OZ _ (RR.mpr ⟨env,he,hf⟩);have bn:=hideAll_none (e::ck (jS (kc P w) P w K mg base N qual scope f cd A outer s H E).stack) (h:=s1.heap) (b:=e) PJ;show UO (UP P w) _ (leaving _ (.ref e)) _ _ _;refine U6 (J1 (Q:=λ_ s'=>∃h',s'={s1 with heap:=h'}/\Heap.LeftW (hideAll s1.heap (e::ck (jS (kc P w) P w K mg base N qual scope f cd A outer s H E).stack)) (jS (kc P w) P w K mg base N qual scope f cd A outer s H E).stack e oe.cls a0 s1.heap h') (wpAny_leaving_firstW I.ok.frames (funFrames_hide st hin) rfl he (λb o z=>of_hideAll _ z) bn hd h1 h0 λh' hL=>⟨h',rfl,hL⟩)) (λ_ s' hs=>?_) (λ_ _ z=>z.1);obtain⟨⟨h2,rfl,k1,⟨_,_,k2⟩,k3,k4⟩,dk⟩:=hs;have nst:∀b o,s.heap.get? b=some o->b ∉ ck outer->b ∉ e::ck (jS (kc P w) P w K mg base N qual scope f cd A outer s H E).stack:=λb o eb hb hm=>by
  rcases NO.mp hm with z | hm
  ·rw [z,ne0] at eb;cases eb
  rcases NO.mp (I.stkSub b hm) with z | z
  ·have h1:=NW eb;have h2:=I.ok.above;rw [<-z] at h2;exact absurd (OX h1 h2) (Qq _)
  ·exact hb z
 have up:∀b∈ck outer,∀o,s1.heap.get? b=some o->∃sl,h2.get? b=some {o with slots:=sl}:=λb hb o eo=>by
  obtain⟨_,o',ho',hd⟩:=fo.mem hb;rw [eo] at ho';cases ho';exact k4 b o eo hd
 have out:∀b o,s.heap.get? b=some o->mC H1 e b=H1 b:=λb o eb=>qE λz=>by rw [z,ne0] at eb;cases eb
 have oux:∀b u,H1 b=some u->(∀φ,u≠ .ext φ)->mC H1 e b=some u:=λb u hb hn=>by
  rw [qE (λz=>by rw [z,hE] at hb;cases hb;exact hn φ rfl)];exact hb
 obtain⟨oe',he',dd⟩:=dk e oe he;refine⟨e,oe.cls,a0,_,mC H1 e,rfl,I.os,I.bare,⟨k1,bn,k2,k3⟩,(bJ.out I.hok hE).hide (λb hb=>?_),⟨λb o eb n hb hx'=>?_,λb o eb n hb hx'=>?_,λb o eb n hx'=>?_,λb o eb hx'=>?_,λb xs z=>oux b _ (ub.tups b xs z) λ_ y=>(by cases y),λb o u z=>oux b _ (ub.frzs b o u z) λ_ y=>(by cases y),λb ps z=>?_⟩,λb o eb n hb=>?_,λb o eb hb=>?_,oe',he',by rw [dd];exact q⟩
 ·rcases NO.mp hb with z | z
  ·rw [z];exact UE rfl
  ·unfold mC;split
   ·rfl
   ·exact sf b z
 ·exact k1 b o (Wj _ (ub.keep b o eb n hb hx') (nst b o eb hb))
 ·obtain⟨sl,es⟩:=ub.slot b o eb n hb hx';obtain⟨sl',es'⟩:=up b hb _ es;exact⟨sl',es'⟩
 ·rw [out b o eb];exact ub.free b o eb n hx'
 ·obtain⟨o',eo'⟩:=ub.there b o eb hx';by_cases hb:b∈ck outer
  ·obtain⟨sl',es'⟩:=up b hb _ eo';exact⟨_,es'⟩
  ·exact⟨o',k1 b o' (Wj _ eo' (nst b o eb hb))⟩
 ·obtain⟨more,hm⟩:=ub.tbls b ps z;exact⟨more,oux b _ hm λ_ y=>(by cases y)⟩
 ·exact Wj _ (ub.keep b o eb n hb UH) (nst b o eb hb)
 ·obtain⟨o',eo'⟩:=ub.there b o eb UH;exact⟨o',Wj _ eo' (nst b o eb hb)⟩
end
def kE(e:UL)(C:UJ)(dd:Option UL)(h:UW):Prop:=∃o,h.get? e=some o/\o.cls=C/\o.dict=dd/\notCls o=true
theorem Dm{M:VY}{A:U1}{env:Env}{e:UJ}{Q:Unit->UM->Prop}{E:UJ->UM->Prop}{s:UM}(h:UO M A (Wa e env) Q E s):UO M A (Wa e env) (λa s'=>Q a s'/\DK s.heap s'.heap) (λv s'=>E v s'/\DK s.heap s'.heap) s:=
 fun Γ p hΓ=>(Dj e env).and (h Γ p hΓ)
theorem uj{M:VY}{A:U1}{e:UJ}{o:Option UL}{Q:Unit->UM->Prop}{E:UJ->UM->Prop}{s:UM}(h:UO M A (Wo e o) Q E s):UO M A (Wo e o) (λa s'=>Q a s'/\DK s.heap s'.heap) (λv s'=>E v s'/\DK s.heap s'.heap) s:=
 fun Γ p hΓ=>(Dk e o).and (h Γ p hΓ)
section
variable {X:Cx} {CX:kH} {k:Nat} {f C C':UL} {fd:UT} {ps:List Str} {sp:Sp} {x c n:Str} {p cp ep np hp tp:Pos} {a:US} {as:List US} {b₀:U0} {suite:List U0} {t:TA} {i j:Nat} {ts:TS} {y:Str} {yp:Pos}
def J3(sp:Sp)(t:TA)(C:UL)(i j:Nat)(ts:TS):TS:=λD σ H=>t σ H λvs H1=>sp vs H1 (λv H2=>D.nx (σ.set j (some v)) H2) (λcls dd H2=>cls= .ref C/\∀e,H2 e=none->
 ts {nx:=λσ' H'=>D.nx (σ'.set i none) H',rt:=λ_ _=>False} (σ.set i (some (.ref e))) (ak H2 e (.ext (kE e (.ref C) dd))))
end
open PySem PySem.Spec PyProof.Rows PySem.W PySem.Calls PySem.Builtin.ObjectAttr PySem.Builtin
section
variable {prog:UX} {w:UZ} {A:U1} {E:UJ->UM->Prop} {s:UM} {K:NH} {x C:UL} {ox:Obj} {od:Obj} {name:Str} {v:UJ}
theorem J4{tk:Tok}{Q:Fin->UM->Prop}(Z:lC K C)(X:K.In s.heap)(J:Q0 s.heap x ox C (some od))(hf:findObj K C (some od) name=some (.value v))(hq:Q (.done (.ret v)) s):
 UO (UP prog w) A (Builtin.«object.__getattribute__» ⟨[.ref x,.str name tk],[]⟩) Q E s:=by
 obtain⟨hh,gg,dr,tt,os⟩:=s;have p:kI x (.ref C) hh:=⟨ox,J.at_,J.cls⟩;have L0:=kI.type (M:=UP prog w) p;have LF:=looks_find (M:=UP prog w) X J hf;unfold Builtin.«object.__getattribute__»
 repeat (first | with_reducible refine UK (L0.at ?_) | with_reducible refine UK (LF.at ?_) | wp_step)
 exact hq
theorem J5{tk:Tok}{R:Result->UM->Prop}(Z:lC K C)(X:K.In s.heap)(J:Q0 s.heap x ox C (some od))(hf:findObj K C (some od) name=some (.value v))(hq:R (.ok (.ret v)) s):
 VC (UP prog w) A (.call (.builtin "BaseException.__getattribute__") ⟨[.ref x,.str name tk],[]⟩) R s:=
 Vp F.excAttr_ValueError.ga.plain F.entry_bexc_ga (BQ Z X ⟨ox,J.at_,J.cls⟩ (J4 Z X J hf hq))
theorem J6{tk:Tok}{fill expr:Bool}{Q:UJ->UM->Prop}(Z:lC K C)(X:K.In s.heap)(J:Q0 s.heap x ox C (some od))(hf:findObj K C (some od) name=some (.value v))(hv:handedIn v=true)(hq:Q v s):
 UO (UP prog w) A (getAttrBy (.ref x) (.str name tk) fill expr) Q E s:=by
 obtain⟨hh,gg,dr,tt,os⟩:=s;have p:kI x (.ref C) hh:=⟨ox,J.at_,J.cls⟩;have L0:=kI.type (M:=UP prog w) p;have L1:=VD (M:=UP prog w) X Z.ga;have L2:=VD (M:=UP prog w) X Z.hk;have f3:=F.excAttr_ValueError.ga.bind (.ref x);have hx0:(expr && onTheHeap (Qj "BaseException.__getattribute__"))=false:=by cases expr <;> rfl
 have hx2:(Qj "BaseException.__getattribute__"==Qj "object.__getattribute__")=false:=td
 have hx1:(onTheHeap (Oz C) && Qj "BaseException.__getattribute__"==Qj "object.__getattribute__")=false:=by rw [hx2];rfl
 repeat (any_goals (first | assumption | with_reducible refine UK (L0.at ?_) | with_reducible refine UK (L1.at ?_) | with_reducible refine L2.at ?_ | wp_step))
 refine J5 (s:=⟨hh,gg,dr,tt,os⟩) Z X J hf ?_
 repeat (any_goals (first | assumption | wp_step))
 show UO _ _ (handedOut v) _ _ _;rw [handedOut_of hv];exact UN hq
theorem J7{expr:Bool}{Q:UJ->UM->Prop}(Z:lC K C)(X:K.In s.heap)(J:Q0 s.heap x ox C (some od))(hf:findObj K C (some od) name=some (.value v))(hv:handedIn v=true)(hq:Q v {s with toks:=s.toks+1}):
 UO (UP prog w) A (getAttr (.ref x) name expr) Q E s:=by
 obtain⟨hh,gg,dr,tt,os⟩:=s;unfold getAttr
 repeat (any_goals (first | assumption | with_reducible apply J6 (s:=⟨hh,gg,dr,tt+1,os⟩) Z X J hf hv | wp_step))
end
section
variable {X:Cx}
def xK(K:NH)(ta:TE)(f:Str):TE:=λσ H Q=>ta σ H λx H1=>∃(e C d:UL)(fs:List (Str×V))(v:V),x= .ref e/\H1 e=some (.ext (kE e (.ref C) (some d)))/\H1 d=some (.xd fs)/\lC K C/\hasDictIn K C=true/\Pm K (.ref C) f=some none/\fs.lookup f=some v/\(∀u,aD v u->handedIn u=true)/\Q v H1
theorem Dn{e:US}{f:Str}{pos:Pos}{ta:TE}(he:PE X e ta)(hb:Vw e f X.env (eval e X.env)=eval e X.env):PE X (.Attribute e f pos) (xK X.K ta f):=by
 intro Wx s σ H Q I h;refine F2 hb (ax (he Wx s σ H _ I h) λu s1 ⟨x,H1,I1,rx,a,C,d,fs,v,ex,ea,ed,Z,hh,ha,l,hv,q⟩=>?_);subst ex;obtain rfl:u=Oz a:=rx;obtain⟨ob,ho,hc,hd,nc⟩:=(show bE X.prog X.w H1 s1.heap a (.ext (kE a (.ref C) (some d))) from I1.hok a _ ea).1;obtain⟨mA,n,r⟩:=(show bE X.prog X.w H1 s1.heap d (.xd fs) from I1.hok d _ ed);obtain⟨w',hw,rw'⟩:=p4.some_of (v:=v) (o:=mA f) (by rw [<-l];exact r f);obtain⟨od,hod,hl⟩:=Bi n;have J:Q0 s1.heap a ob C (some od):=⟨ho,hc,nc,by rw [hd];exact hod⟩;exact J7 Z I1.kIn J (findObj_own hh ha rfl (by rw [hl,hw])) (hv _ rw') ⟨v,H1,I1.tok _,rw',q⟩
theorem kE.plain{e:UL}{C:UJ}{dd:Option UL}{h:UW}(x:kE e C dd h):kI e C h:=let ⟨o,a,b,_⟩:=x;⟨o,a,b⟩
theorem Ka:kq X (.builtin "isinstance") (λxs H Q=>∃(dd:Option UL)(e C:UL)(c:V)(cv:UJ)(b:Bool),xs=[.ref e,c]/\H e=some (.ext (kE e (.ref C) dd))/\lC X.K C/\(∀u,aD c u->u=cv)/\QH X.K (.ref C) cv=some b/\Q (.bl b) H):=by
 intro Wx s σ H xs us Q I r h;obtain⟨dd0,e,C,c,cv,b,rfl,he,Z,hc,hk,q⟩:=h;obtain⟨u,w',rfl,rx,rt⟩:=pe r;cases (show u=Oz e from rx);have:=hc _ rt;subst this;have p:kI e (.ref C) s.heap:=(show bE X.prog X.w H s.heap e (.ext (kE e (.ref C) dd0)) from I.hok e _ he).1.plain;exact PK (BR Z) I.kIn p hk (λz=>nomatch z) λtk=>⟨.bl b,H,I.tok tk,rfl,q⟩
theorem Kb:kq X (.builtin "isinstance") (λxs H Q=>∃(dd:Option UL)(e C q:UL)(cs:List UL)(b:Bool),xs=[.ref e,.ref q]/\H e=some (.ext (kE e (.ref C) dd))/\H q=some (.tup (cs.map V.ref))/\lC X.K C/\Q1 X.K (.ref C) (cs.map Oz)=some b/\Q (.bl b) H):=by
 intro Wx s σ H xs us Q I r h;obtain⟨dd0,e,C,q,cs,b,rfl,he,hq,Z,hk,k⟩:=h;obtain⟨u,w',rfl,rx,rt⟩:=pe r;cases (show u=Oz e from rx);cases (show w'=Oz q from rt);have p:kI e (.ref C) s.heap:=(show bE X.prog X.w H s.heap e (.ext (kE e (.ref C) dd0)) from I.hok e _ he).1.plain;obtain⟨its,rv,⟨⟨oc,od,odt,osl⟩,eo,c,n,dd⟩,_⟩:=I.tuple (aX.of hq);have:=Hd rv;subst this;simp only at c dd;subst c dd;exact PySem.W.kia_tup (BR Z) I.kIn p eo hk (λz=>nomatch z) λtk=>⟨.bl b,H,I.tok tk,rfl,k⟩
end
section
variable {M:VY} {A:U1} {E:UJ->UM->Prop} {env:Env}
variable {nm q:Str} {C N:UL} {bs bm:List UJ} {hdct:Bool} {sn:List Str} {sub:List UJ} {ab:Bool} {col:Option Bool} {dd:Option UL} {k0 k1 k2 k3 k5:Option UJ} {newId:String}
theorem Kc{s:UM}{x:Sem UJ}{Q:Flow->UM->Prop}(hbase:bm.contains (.type "BaseException")=true)(hh:A.handled=none)
 (h:UO M A x (λv s₁=>∃e oe vs,v= .ref e/\s₁.heap.get? C=some (Vj nm q C N bs bm hdct sn sub ab col dd k0 k1 k2 k3 k5 newId)/\
  s₁.heap.get? e=some oe/\oe.cls= .ref C/\oe.data= .fields vs/\vs[1]?=some .none/\E (.ref e) s₁) E s):UO M A (raiseStmt env (some x) none) Q E s:=by
 have hcB:(Oz C::bm).contains (.type "BaseException")=true:=by rw [RS,hbase,Si]
 unfold raiseStmt;refine UK (U6 h (λv s₁ h₁=>?_) λ_ _ x=>x);obtain⟨e,oe,vs,rfl,hC,he,hc,hd,h1,hE⟩:=h₁;obtain⟨hp,g,d,tk,os⟩:=s₁;obtain⟨oc,odc,odt,osl⟩:=oe;dsimp only at hc hd;subst hc hd
 repeat (first | with_reducible refine Vb he ?_ | with_reducible refine Vb hC ?_ | (with_reducible refine VG hC ?_;rw [hcB]) | wp_step)
 rw [h1]
 repeat (first | wp_step)
 exact wpAny_raiseNew_none hh hE
end
section
variable {prog:UX} {w:UZ} {A:U1} {E:UJ->UM->Prop} {h:UW} {g:Array V4} {d:Drawn} {t:Nat} {os:OsState}
variable {nm q:Str} {C N:UL} {bs bm bmB:List UJ} {hdct:Bool} {sn:List Str} {sub:List UJ} {ab:Bool} {col:Option Bool} {dd:Option UL} {k0 k1 k2 k3 k5:Option UJ} {B newId initId:String}
theorem Kd(F:VF B newId initId bmB)(T:OwnTail h bmB bm){K:NH}{rest:List UJ}{fI:UL}{Q:Fin->UM->Prop}
 (hC:h.get? C=some (Vj nm q C N bs bm hdct sn sub ab col dd k0 k1 k2 k3 k5 newId))(XK:K.In h)(hi:Wb K (.ref C) "__init__"=some (some (.ref fI)))(hf:typeIn K (.ref fI)=some (.type "function"))(hrest:rest.length<=UR)
 (hq:∀h' e,SO h h' e (.ref C) rest->UO (UP prog w) A (call (.ref fI) (.ref e::rest)) (λr s'=>r= .none/\Q (.done (.ret (.ref e))) s') E ⟨h',g,d,t,os⟩):
 UO (UP prog w) A (Builtin.«type.__call__» ⟨.ref C::rest,[]⟩) Q E ⟨h,g,d,t,os⟩:=by
 repeat (first | with_reducible refine Vb hC ?_ | with_reducible refine wpAny_madeBy_exc hC ?_ | wp_step)
 refine codeAny_call_builtin_code (Rj _ F.quiet) (wpAny_check_new_subT F T hC (codeAny_exc_new_subT F T hC ?_ hrest));show UO _ _ _ _ _ _;have k:∀b o,h.get? b=some o->((h.push {cls:= .type "tuple",data:= .seq rest.toArray}).push {cls:= .ref C,data:= .fields #[.ref h.objs.size,.none,.none,.none,.bool false,.none]}).get? b=some o:=λb o e=>NK _ (NK _ e);have hget:((h.push {cls:= .type "tuple",data:= .seq rest.toArray}).push {cls:= .ref C,data:= .fields #[.ref h.objs.size,.none,.none,.none,.bool false,.none]}).get? (h.objs.size+1)=some {cls:= .ref C,data:= .fields #[.ref h.objs.size,.none,.none,.none,.bool false,.none]}:=by heap_get
 have htup:((h.push {cls:= .type "tuple",data:= .seq rest.toArray}).push {cls:= .ref C,data:= .fields #[.ref h.objs.size,.none,.none,.none,.bool false,.none]}).get? h.objs.size=some {cls:= .type "tuple",data:= .seq rest.toArray}:=NK _ (Tx rfl rfl);have hcC:(Oz C::bm).contains (.ref C)=true:=UH
 have made:=λz=>hq ((h.push {cls:= .type "tuple",data:= .seq rest.toArray}).push {cls:= .ref C,data:= .fields #[.ref h.objs.size,.none,.none,.none,.bool false,.none]}) (h.objs.size+1) ⟨k,Q6 (Q7 _),h.objs.size,hget,Q6 (NV _),z⟩;have made:=made htup;have hC₁:=k _ _ hC;have X₁:K.In _:=λa o e=>k a o (XK a o e);have T₁:=T.keeps k;unfold isInstance
 repeat (first | with_reducible refine Vb hget ?_ | (with_reducible refine VG hC₁ ?_;rw [hcC]) | wp_step)
 show UO _ _ (typeLookup (.ref C) _) _ _ _;refine(VD (M:=UP prog w) X₁ hi).at ?_;refine Vc (UK ?_);unfold bindSpecial;refine UK ((looks_typeIn (M:=UP prog w) X₁ hf).at ?_);rw [UE Ce];refine UN (UK (U6 made (λr s' hr=>?_) λ_ _ x=>x));obtain⟨rfl,hQ⟩:=hr
 wp_walk
 exact hQ
theorem Ke(F:VF B newId initId bmB)(T:OwnTail h bmB bm){K:NH}{rest:List UJ}{fI:UL}{Q:UJ->UM->Prop}
 (hC:h.get? C=some (Vj nm q C N bs bm hdct sn sub ab col dd k0 k1 k2 k3 k5 newId))(XK:K.In h)(hi:Wb K (.ref C) "__init__"=some (some (.ref fI)))(hf:typeIn K (.ref fI)=some (.type "function"))(hrest:rest.length<=UR)
 (hq:∀h' e,SO h h' e (.ref C) rest->UO (UP prog w) (A.under (.builtin "type.__call__" ⟨.ref C::rest,[]⟩)) (call (.ref fI) (.ref e::rest)) (λr s'=>r= .none/\Q (.ref e) s') E ⟨h',g,d,t,os⟩):
 UO (UP prog w) A (call (.ref C) rest) Q E ⟨h,g,d,t,os⟩:=by
 have f1:=tc_lookup;have f2:=tc_bind (.ref C);have hT:(⟨h,g,d,t,os⟩:UM).TypeIs (.ref C) "type":=⟨_,hC,rfl⟩;refine VZ (codeAny_of_tree ?_);show UO _ _ (callAny (.ref C) _) _ _ _
 repeat (any_goals (first | assumption | with_reducible refine Vb hC ?_ | wp_step))
 refine⟨rfl,codeAny_call_builtin_at (Rj _ td) entry_typeCall (wpAny_check_type_call_sub hC (Kd F T hC XK hi hf hrest λh' e hm=>hq h' e hm))⟩
end
theorem Kf{h:UW}{bmB bm:List UJ}(T:OwnTail h bmB bm)(self:UJ)(what:Str):refuseLoop self what bm=refuseLoop self what bmB:=by
 induction T with
 | base=>rfl
 | own _ _ _ _ ih=>rw [refuseLoop_ref,ih]
section
variable {prog:UX} {w:UZ} {A:U1} {E:UJ->UM->Prop} {h:UW} {g:Array V4} {d:Drawn} {t:Nat} {os:OsState} {K:NH}
variable {nm q:Str} {C N x:UL} {bs bm bmB:List UJ} {sn:List Str} {sub:List UJ} {ab:Bool} {col:Option Bool} {dd:Option UL} {k0 k1 k2 k3 k5:Option UJ} {B newId sa owner:String} {name:Str} {v:UJ} {o:Obj} {vs:Array UJ}
structure xM (h h':UW) (x:UL) (o:Obj) (name:Str) (v:UJ) (dx:UL):Prop where
 at_:h'.get? x=some {cls:=o.cls,dict:=some dx,data:=o.data,slots:=o.slots}
 new:h.get? dx=none
 ne:dx≠x
 ns:h'.Ns1 dx λy=>if y=name then some v else none
 keep:∀b ob,b≠x->h.get? b=some ob->h'.get? b=some ob
theorem Kg{tk:Tok}{Q:Fin->UM->Prop}(SF:StoreFacts B bmB sa owner)(X:K.In h)(T:OwnTail h bmB bm)
 (hC:h.get? C=some (Vj nm q C N bs bm true sn sub ab col dd k0 k1 k2 k3 k5 newId))(ha:Wb K (.ref C) name=some none)(hx:h.get? x=some o)(hc:o.cls= .ref C)(hd:o.data= .fields vs)(hdn:o.dict=none)
 (hq:∀h' tk' dx,xM h h' x o name v dx->Q (.done (.ret .none)) ⟨h',g,d,tk',os⟩):
 UO (UP prog w) A (Builtin.«object.__setattr__» ⟨[.ref x,.str name tk,v],[]⟩) Q E ⟨h,g,d,t,os⟩:=by
 have hpass:refuseLoop (.ref x) "__setattr__" bm=pure ():=(Kf T _ _).trans (SF.passes (.ref x));have L:=VD (M:=UP prog w) X ha;unfold Builtin.«object.__setattr__»
 repeat (first | rw [refuse_eq] | (rw [refuseLoop_ref,hpass]) | (with_reducible refine Vb hx ?_;rw [hc]) | with_reducible refine wpAny_mroOf_exc hC ?_ | with_reducible refine UK (L.at ?_) | wp_step)
 rw [hdn,hd];dsimp only;rw [UD (by simp [typeHasDict])];have hx₁:(h.push {cls:= .type "dict",data:= .dict #[]}).get? x=some o:=NK _ hx;have hxs:x≠h.objs.size:=OJ (NW hx);refine UK (wpAny_alloc' (UK (wpAny_update' hx₁ (UN ?_))));have hgd:((h.push {cls:= .type "dict",data:= .dict #[]}).update x λo=>{cls:=o.cls,dict:=some h.objs.size,data:=o.data,slots:=o.slots}).get? h.objs.size=some {cls:= .type "dict",data:= .dict #[]}:=
  (S8 _ _ _ _ hxs.symm).trans (Tx rfl rfl)
 have hnd:((h.push {cls:= .type "dict",data:= .dict #[]}).update x λo=>{cls:=o.cls,dict:=some h.objs.size,data:=o.data,slots:=o.slots}).Ns h.objs.size (λ_=>none):=⟨_,#[],_,hgd,rfl,λe he=>absurd he UH,λ_=>rfl⟩;show UO _ _ (storeInDict h.objs.size (.str name tk) name v) _ _ _;unfold storeInDict newKeyGuard;refine UK (UN (UK (wpAny_nsSet1 (Heap.Ns1.of_empty hnd) λh' hn' hs=>?_)));obtain⟨oD,esD,epD,hoD,hdD,hcD⟩:=hn'.count (Within.cons name v Within.nil);refine UK (wpAny_lookBehind hoD (by rw [hdD];exact pastItsLine_dict (OB hcD (by rw [NJ,N8,UY];omega))) ?_)
 wp_walk
 refine hq h' _ h.objs.size ⟨?_,Q6 (NV _),hxs.symm,hn',λb ob hb e=>?_⟩
 ·refine(hs.2 x hxs).trans (Pj _ hx₁ ?_);obtain⟨oc,od,odt,osl⟩:=o;dsimp only at hd;subst hd;rfl
 ·exact(hs.2 b (OJ (NW e))).trans ((S8 _ _ _ _ hb).trans (NK _ e))
theorem Kh{M:VY}{nameV:UJ}{Q:Unit->UM->Prop}(SF:StoreFacts B bmB sa owner)(T:OwnTail h bmB bm)
 (hC:h.get? C=some (Vj nm q C N bs bm true sn sub ab col dd k0 k1 k2 k3 k5 newId))(hx:h.get? x=some o)(hc:o.cls= .ref C)(hq:Q () ⟨h,g,d,t,os⟩):
 UO M A (VP sa ⟨[.ref x,nameV,v],[]⟩) Q E ⟨h,g,d,t,os⟩:=by
 have hcB:(Oz C::bm).contains (.type owner)=true:=by rw [RS,T.hasType SF.hasOwner,Si]
 have ha:=SF.args (.ref x) nameV v;simp only [VP,SF.kind,SF.split];refine UK ?_;unfold isInstance
 repeat (first | (with_reducible refine Vb hx ?_;rw [hc]) | (with_reducible refine VG hC ?_;rw [hcB]) | wp_step)
 cases hsig:Manifest.signature? sa with
 | none=>exact UN hq
 | some sig=>
  simp only [argsOk,hsig] at ha;show UO M A (T7 sa sig ⟨[.ref x,nameV,v],[]⟩) Q E _;rw [show T7 sa sig ⟨[.ref x,nameV,v],[]⟩=pure () from ha];exact UN hq
theorem Ki{Q:Unit->UM->Prop}(SF:StoreFacts B bmB sa owner)(X:K.In h)(T:OwnTail h bmB bm)
 (hC:h.get? C=some (Vj nm q C N bs bm true sn sub ab col dd k0 k1 k2 k3 k5 newId))(hs:Wb K (.ref C) "__setattr__"=some (some (.builtin sa)))(ha:Wb K (.ref C) name=some none)(hx:h.get? x=some o)(hc:o.cls= .ref C)(hd:o.data= .fields vs)(hdn:o.dict=none)
 (hq:∀h' tk' dx,xM h h' x o name v dx->Q () ⟨h',g,d,tk',os⟩):UO (UP prog w) A (setAttr (.ref x) name v) Q E ⟨h,g,d,t,os⟩:=by
 have f3:=SF.slot.bind (.ref x);have L:=VD (M:=UP prog w) X hs;unfold setAttr callSpecial? specialOf
 repeat (any_goals (first | assumption | (with_reducible refine Vb hx ?_;rw [hc]) | with_reducible refine L.at ?_ | with_reducible refine UK (L.at ?_) | wp_step))
 refine Vp SF.slot.plain SF.entry (Kh SF T hC hx hc (Kg SF X T hC ha hx hc hd hdn λh' tk' dx D=>?_))
 repeat (any_goals (first | assumption | wp_step))
 exact hq h' tk' dx D
end
section
variable {prog:UX} {w:UZ} {A:U1} {E:UJ->UM->Prop} {h:UW} {g:Array V4} {d:Drawn} {t:Nat} {os:OsState}
variable {nm q:Str} {C N x:UL} {bs bm bmB:List UJ} {hdct:Bool} {sn:List Str} {sub:List UJ} {ab:Bool} {col:Option Bool} {dd:Option UL} {k0 k1 k2 k3 k5:Option UJ} {B newId initId:String} {o:Obj} {ta:UL}
structure Dp (h h':UW) (x:UL) (o:Obj) (t0:UL):Prop where
 at_:h'.get? x=some {o with data:= .fields #[.ref t0,.none,.none,.none,.bool false,.none]}
 keep:∀b ob,b≠x->h.get? b=some ob->h'.get? b=some ob
theorem Kj{rest:List UJ}{Q:UJ->UM->Prop}(F:VF B newId initId bmB)(T:OwnTail h bmB bm)(hC:h.get? C=some (Vj nm q C N bs bm hdct sn sub ab col dd k0 k1 k2 k3 k5 newId))
 (hx:h.get? x=some o)(hc:o.cls= .ref C)(hd:o.data= .fields #[.ref ta,.none,.none,.none,.bool false,.none])(hr:rest.length<=UR)(hq:∀h' tk t0,Dp h h' x o t0->Q .none ⟨h',g,d,tk,os⟩):
 UO (UP prog w) A (call (.builtin initId) (.ref x::rest)) Q E ⟨h,g,d,t,os⟩:=by
 refine VZ (Vp F.init.plain F.initEntry (wpAny_check_init_subT F T hC hx hc ?_));obtain⟨oc,od,odt,osl⟩:=o;dsimp only at hc hd;subst hc hd
 wp_walk
 refine hq _ _ h.objs.size ⟨?_,λb ob hb e=>?_⟩
 ·exact Pj _ (NK _ hx) rfl
 ·exact(PR _ _ (Ne.symm hb)).trans (NK _ e)
theorem Kk{K:NH}{s:UM}{C':UL}{pl:Sem Bool}{Q:UJ×List UJ->UM->Prop}(X:K.In s.heap)(hs:specialIn K (.ref C') "__getattribute__"=some (some (.builtin "type.__getattribute__")))(hr:readsIn K C' (.type "type")=true)
 (hf:findCls K (.ref C') (.type "type") "__init__"=some (.val (.builtin initId)))(hh:handedIn (.builtin initId)=true)(hq:Q (.builtin initId,[]) {s with toks:=s.toks+1}):UO (UP prog w) A (getMethod (.ref C') "__init__" pl) Q E s:=
 method_cls X hs (cls_value X hr hf hh hq)
end
def mi(e:UL)(C:UJ)(h:UW):Prop:=∃ta,h.get? e=some {cls:=C,data:= .fields #[.ref ta,.none,.none,.none,.bool false,.none]}
def nu(e:UL)(C:UJ)(d:UL)(h:UW):Prop:=∃ta,h.get? e=some {cls:=C,dict:=some d,data:= .fields #[.ref ta,.none,.none,.none,.bool false,.none]}
def oP(K:NH)(C:UL)(bmB:List UJ)(newId:String):Bool:=match K.lookup C with
 | some ⟨.type "type",_,.cls cd,sl⟩=>(match cd.mro,sl.toList with
  | .ref C'::bm,[_,_,_,_,some (.builtin n),_]=>C'==C && n==newId && !cd.hasDel && cd.hasDict && tailIn K bmB bm && nsOkIn K cd.ns
  | _,_=>false)
 | _=>false
theorem pR{K:NH}{h:UW}{C:UL}{bmB:List UJ}{newId:String}(X:K.In h)(q:oP K C bmB newId=true):
 ∃(bm:List UJ)(nm qn:Str)(N:UL)(bs:List UJ)(sn:List Str)(sub:List UJ)(ab:Bool)(col:Option Bool)(dd:Option UL)(k0 k1 k2 k3 k5:Option UJ),
  h.get? C=some (Vj nm qn C N bs bm true sn sub ab col dd k0 k1 k2 k3 k5 newId)/\h.Ns N (h.nsMap N)/\OwnTail h bmB bm:=by
 unfold oP at q;split at q
 ·rename_i dd cd sl ho;split at q
  ·rename_i C' bm k0 k1 k2 k3 n k5 hm hs;simp only [Oo,beq_iff_eq,N1] at q;obtain⟨⟨⟨⟨⟨rfl,rfl⟩,hdel⟩,hdi⟩,ht⟩,hok⟩:=q;obtain⟨nm,bs,mro,ns,qn,hd,sn,sub,ab,col,del⟩:=cd;dsimp only at hm hdel hdi hok;subst hm hdel hdi;have hsl:sl=#[k0,k1,k2,k3,some (.builtin n),k5]:=by
    obtain⟨l⟩:=sl;simp only at hs;rw [hs]
   subst hsl;exact⟨bm,nm,qn,ns,bs,sn,sub,ab,col,dd,k0,k1,k2,k3,k5,X _ _ ho,.of_isNs (isNs_of_in X hok),tail_of_in X ht⟩
  ·cases q
 ·cases q
section
variable {X:Cx} {Wx:List (UL×Obj)} {σ:St} {H:Hp} {s:UM} {h':UW} {e C d:UL} {f:Str} {v:V} {u:UJ}
theorem ag.reargs{tk:Tok}{o:Obj}{t0:UL}(I:ag X Wx σ H s)(he:H e=some (.ext (mi e (.ref C))))(ho:∃ta,o={cls:= .ref C,data:= .fields #[.ref ta,.none,.none,.none,.bool false,.none]})(R:Dp s.heap h' e o t0):ag X Wx σ (ak H e (.ext (mi e (.ref C)))) {s with heap:=h',toks:=tk}:=by
 obtain⟨ta,rfl⟩:=ho;exact I.write (by rw [he];exact PX) (.inl rfl) R.keep ⟨_,R.at_⟩ ⟨⟨t0,R.at_⟩,⟨_,R.at_⟩,λh1 h2 uu20 k=>by obtain⟨x,z⟩:=uu20;exact⟨x,k _ z⟩⟩
theorem ag.dicted{tk:Tok}{o:Obj}(I:ag X Wx σ H s)(he:H e=some (.ext (mi e (.ref C))))(ho:∃ta,o={cls:= .ref C,data:= .fields #[.ref ta,.none,.none,.none,.bool false,.none]})(rv:aD v u)(D:xM s.heap h' e o f u d):
 ag X Wx σ (ak (ak H d (.xd [(f,v)])) e (.ext (nu e (.ref C) d))) {s with heap:=h',toks:=tk}:=by
 obtain⟨ta,rfl⟩:=ho;have hd0:H d=none:=by
  cases z:H d with
  | none=>rfl
  | some w'=>obtain⟨ob,hb⟩:=(I.hok d w' z).there;rw [D.new] at hb;cases hb
 have ne:∀b w',H b=some w'->(∀φ,w'≠ .ext φ)->b≠e/\b≠d:=λb w' z n=>⟨λy=>by rw [y,he] at z;cases z;exact n _ rfl,λy=>by rw [y,hd0] at z;cases z⟩;have oth:∀b,b≠e->b≠d->ak (ak H d (.xd [(f,v)])) e (.ext (nu e (.ref C) d)) b=H b:=λb h1 h2=>by rw [av h1,av h2]
 have keepX:∀b w',H b=some w'->(∀φ,w'≠ .ext φ)->ak (ak H d (.xd [(f,v)])) e (.ext (nu e (.ref C) d)) b=some w':=λb w' z n=>by
  obtain⟨h1,h2⟩:=ne b w' z n;rw [oth b h1 h2];exact z
 have nE:∀b,H b=none->b≠e:=λb n y=>by rw [y,he] at n;cases n
 refine I.un ⟨λb o eb n _ _=>D.keep b o (nE b n) eb,λb o eb n _ _=>⟨o.slots,D.keep b o (nE b n) eb⟩,λb o eb n _=>?_,λb o eb _=>?_,λb xs z=>keepX b _ z λ_ y=>(by cases y),λb o w' z=>keepX b _ z λ_ y=>(by cases y),λb ps z=>⟨#[],by rw [Tn];exact keepX b _ z λ_ y=>(by cases y)⟩⟩ λb w' z=>?_
 ·rw [oth b (nE b n) λy=>by rw [y,D.new] at eb;cases eb];exact n
 ·by_cases hb:b=e
  ·rw [hb];exact⟨_,D.at_⟩
  ·exact⟨o,D.keep b o hb eb⟩
 ·by_cases hb:b=e
  ·subst hb;rw [bh] at z;cases z;exact⟨⟨ta,D.at_⟩,⟨_,D.at_⟩,λh1 h2 uu21 k=>by obtain⟨x,z⟩:=uu21;exact⟨x,k _ z⟩⟩
  ·rw [av hb] at z;by_cases hb2:b=d
   ·subst hb2;rw [bh] at z;cases z;refine⟨_,D.ns,λy=>?_⟩;by_cases hy:y=f
    ·subst hy;rw [UE rfl,O5,beq_self_eq_true];exact rv
    ·rw [UD hy,O5,show(y==f)=false from by simpa using hy];exact PX
   ·rw [av hb2] at z;refine(I.hok b w' z).stay (λb' u' hb' q=>D.keep b' u' (λy=>?_) q) (λb' z'=>keepX b' _ z' λ_ y=>(by cases y)) (λb' xs z'=>keepX b' _ z' λ_ y=>(by cases y)) λb' xs z'=>keepX b' _ z' λ_ y=>(by cases y);rcases hb' with r | r
    ·exact hb (r.symm.trans y)
    ·rw [y,he] at r;cases r
end
section
variable {X:Cx} {C C':UL} {c:Str} {np ap cp pos pos':Pos} {a:US} {as:List US} {ta:TA} {B newId initId:String} {bmB:List UJ} {pl:Sem Bool}
def Dq(C:UL)(ta:TA):TS:=λD σ H=>ta σ H λvs H1=>∃e rest,vs= .ref e::rest/\rest.length<=UR/\H1 e=some (.ext (mi e (.ref C)))/\D.nx σ (ak H1 e (.ext (mi e (.ref C))))
theorem Kl(hmc:X.mg c=some (.ref C'))(hgc:Gl X c)(hs:specialIn X.K (.ref C') "__getattribute__"=some (some (.builtin "type.__getattribute__")))(hr:readsIn X.K C' (.type "type")=true)
 (hf:findCls X.K (.ref C') (.type "type") "__init__"=some (.val (.builtin initId)))(hh:handedIn (.builtin initId)=true)(F:VF B newId initId bmB)(hO:oP X.K C bmB newId=true)(ha:PA X (a::as) ta)
 (ht:eval (.Call (.Attribute (.Name c np) "__init__" ap) (a::as) [] cp) X.env=(do
  let ov<-eval (.Name c np) X.env
  standAt ap.atName
  let (f,first)<-holding [ov] (getMethod ov "__init__" pl)
  callWith cp f first (U7 cp (UQ (a::as) X.env)) (Wg cp (VU [] X.env))):=by rfl)
 (hdc:(c==("__debug__":Str))=false:=by decide)(he:UQ (a::as) X.env=(false,eval a X.env)::UQ as X.env:=by rfl)(hpl:(U7 cp (UQ as X.env)).any (·.1)=false:=by rfl)
 (hsw:Vi (.Call (.Attribute (.Name c np) "__init__" ap) (a::as) [] cp) none pos.line X.env=pure false:=by rfl):
 PS X (.Expr (.Call (.Attribute (.Name c np) "__init__" ap) (a::as) [] cp) pos) (Dq C ta):=by
 intro Wx s σ H D I h;refine wpAny_Expr_any (PySem.W.methodCall_KW (pl:=pl) (oj I hgc hmc ?_ hdc) ht) I.quiet hsw;refine Kk I.kIn hs hr hf hh ?_;have hA:=ha cp Wx _ σ H _ (I.tok (s.toks+1)) h;rw [he] at hA⊢;refine SA (by show(false || (U7 cp (UQ as X.env)).any (·.1))=false;rw [hpl];rfl) (SS ?_);refine ax hA λus s1 ⟨vs,H1,I1,r,e,rest,ev,hl,hE,q⟩=>?_;subst ev;cases r with
 | cons r0 r1=>
  cases r0;obtain⟨ta0,hx⟩:=(show bE X.prog X.w H1 s1.heap e (.ext (mi e (.ref C))) from I1.hok e _ hE).1;obtain⟨bm,nm,qn,N,bs,sn,sub,ab,col,dd,k0,k1,k2,k3,k5,hC,_,T⟩:=pR I1.kIn hO;obtain⟨hp,gg,dr,tk,os⟩:=s1;refine Kj F T hC hx rfl rfl (by rw [<-r1.length];exact hl) λh2 tk2 t0 R=>?_;exact⟨σ,_,I1.reargs hE ⟨ta0,rfl⟩ R,q⟩
def Dr(C:UL)(f:Str)(to tv:TE):TS:=λD σ H=>tv σ H λv H1=>to σ H1 λx H2=>∃e,x= .ref e/\H2 e=some (.ext (mi e (.ref C)))/\∀d,H2 d=none->d≠e->D.nx σ (ak (ak H2 d (.xd [(f,v)])) e (.ext (nu e (.ref C) d)))
theorem Km{o value:US}{f:Str}{to tv:TE}{sa owner:String}(ho:PE X o to)(hv:PE X value tv)(SF:StoreFacts B bmB sa owner)(hO:oP X.K C bmB newId=true)(hsa:Wb X.K (.ref C) "__setattr__"=some (some (.builtin sa)))(ha:Wb X.K (.ref C) f=some none)
 (hs:Vi value (some (.Attribute o f pos')) pos.line X.env=pure false:=by rfl):PS X (.Assign [.Attribute o f pos'] value pos) (Dr C f to tv):=by
 intro Wx s σ H D I h;refine plainObj_wpAny_Assign_Attribute (ax (hv Wx s σ H _ I h) λu s1 ⟨y,H1,I1,ry,q⟩=>ax (ho Wx s1 σ H1 _ I1 q) λov s2 ⟨x,H2,I2,rx,e,ex,hE,q2⟩=>?_) hs;subst ex;obtain rfl:ov=Oz e:=rx;obtain⟨ta0,hx⟩:=(show bE X.prog X.w H2 s2.heap e (.ext (mi e (.ref C))) from I2.hok e _ hE).1;obtain⟨bm,nm,qn,N,bs,sn,sub,ab,col,dd,k0,k1,k2,k3,k5,hC,_,T⟩:=pR I2.kIn hO;obtain⟨hp,gg,dr,tk,os⟩:=s2;refine Ki SF I2.kIn T hC hsa ha hx rfl rfl rfl λh2 tk2 dx D2=>?_;have d0:H2 dx=none:=by
  cases z:H2 dx with
  | none=>rfl
  | some w'=>obtain⟨ob,hb⟩:=(I2.hok dx w' z).there;rw [D2.new] at hb;cases hb
 exact⟨σ,_,I2.dicted hE ⟨ta0,rfl⟩ ry D2,q2 dx d0 D2.ne⟩
end
structure MkX (K:NH) (C f:UL) (bmB:List UJ) (newId:String):Prop where
 seen:oP K C bmB newId=true
 init:Pm K (.ref C) "__init__"=some (some (.ref f))
 fn:Tj K (.ref f)=true
 kp:Ql K (.ref C)=true
section
variable {X:Cx} {CX:kH} {k:Nat} {f C:UL} {fd:UT} {ps:List Str} {sp:Sp} {x:Str} {np cpos pos:Pos} {e:US} {es:List US} {t:TA} {B newId initId:String} {bmB:List UJ}
theorem ag.raw{Wx:List (UL×Obj)}{σ:St}{H:Hp}{s:UM}{h':UW}{a:UL}{args:List UJ}{tk:Tok}(I:ag X Wx σ H s)(hm:SO s.heap h' a (.ref C) args):H a=none/\ag X Wx σ (ak H a (.ext (mi a (.ref C)))) {s with heap:=h',toks:=tk}:=by
 obtain⟨ta,he,_,_⟩:=hm.there;have h0:H a=none:=by
  cases z:H a with
  | none=>rfl
  | some w'=>obtain⟨ob,hb⟩:=(I.hok a w' z).there;rw [hm.new] at hb;cases hb
 have keepX:∀b w',H b=some w'->ak H a (.ext (mi a (.ref C))) b=some w':=λb w' z=>by
  rw [av (λy=>by rw [y,h0] at z;cases z)];exact z
 refine⟨h0,I.un ⟨λb o eb n _ _=>hm.keeps b o eb,λb o eb n _ _=>⟨o.slots,hm.keeps b o eb⟩,λb o eb n _=>?_,λb o eb _=>⟨o,hm.keeps b o eb⟩,λb xs z=>keepX b _ z,λb o w' z=>keepX b _ z,λb ps z=>⟨#[],by rw [Tn];exact keepX b _ z⟩⟩ λb w' z=>?_⟩
 ·rw [av (λy=>by rw [y,hm.new] at eb;cases eb)];exact n
 ·by_cases hb:b=a
  ·subst hb;rw [bh] at z;cases z;exact⟨⟨ta,he⟩,⟨_,he⟩,λh1 h2 uu25 k=>by obtain⟨x,z⟩:=uu25;exact⟨x,k _ z⟩⟩
  ·rw [av hb] at z;exact(I.hok b w' z).stay (λb' u' _ q=>hm.keeps b' u' q) (λb' z'=>keepX b' _ z') (λb' xs z'=>keepX b' _ z') λb' xs z'=>keepX b' _ z'
theorem Kn{Wx:List (UL×Obj)}{σ:St}{H:Hp}{s:UM}{Q:VK}{us:List UJ}{vs:List V}(FB:VF B newId initId bmB)(M:MkX X.K C f bmB newId)(F:aC X.prog X.w X.K X.mg X.base CX k f fd ps sp)(hr:bH (k+1) X.A)(hb:l9 X.K fd ps [])
 (hx:qg CX X E0)(I:ag X Wx σ H s)(r:aG vs us)(hl:us.length<=UR)(hex:X.ex=[])
 (h:∀a,H a=none->X.s₀.heap.get? a=none->sp (.ref a::vs) (ak H a (.ext (mi a (.ref C)))) (λv H2=>v= .non/\Q (.ref a) H2) E0):
 UO (UP X.prog X.w) X.A (call (.ref C) us) (EP X Wx σ Q) X.xe s:=by
 obtain⟨bm,nm,qn,N,bs,sn,sub,ab,col,dd,k0,k1,k2,k3,k5,hC,_,T⟩:=pR I.kIn M.seen;obtain⟨hp,gg,dr,tk,os⟩:=s;refine Ke FB T hC I.kIn M.init (beq_iff_eq.mp M.fn) hl λh' a hm=>?_;obtain⟨h0,I2⟩:=I.raw (tk:=tk) hm;have n0:X.s₀.heap.get? a=none:=by
  cases z:X.s₀.heap.get? a with
  | none=>rfl
  | some o=>
   obtain⟨o',z'⟩:=I.base.there a o z (by rw [hex];simp);have:=hm.new;rw [show(⟨hp,gg,dr,tk,os⟩:UM).heap=hp from rfl] at z';rw [this] at z';cases z'
 have hq:=h a h0 n0;have r2:aG (V.ref a::vs) (Oz a::us):= .cons rfl r;have hl2:(Oz a::us++[]).length=ps.length:=by
  rw [NY,<-r2.length];exact F.len _ _ _ _ hq
 have bd:=hb _ (Oz a::us) I2.kIn hl2;rw [NY] at bd;refine VZ (Vs (F.run _ X.stack _ _ ⟨Oz a::us,[]⟩ (Oz a::us) _ _ E0 (hr.make C us []) (I2.env0.make C us []) bd r2 hq) λr s' hq'=>?_);cases r with
 | error e=>exact hx Wx σ _ _ e s' I2 hq'
 | ok fl=>
  cases fl with
  | ret u=>
   obtain⟨v,H',I3,rv,ev,q3⟩:=I2.after hq';subst ev;exact⟨rv,⟨V.ref a,H',I3,rfl,q3⟩⟩
  | next=>exact Px hq'
  | brk=>exact Px hq'
  | cont=>exact Px hq'
def Ds(X:Cx)(C:UL)(sp:Sp)(t:TA):TE:=λσ H Q=>t σ H λvs H1=>vs.length<=UR/\∀a,H1 a=none->X.s₀.heap.get? a=none->sp (.ref a::vs) (ak H1 a (.ext (mi a (.ref C)))) (λv H2=>v= .non/\Q (.ref a) H2) E0
theorem Ko(FB:VF B newId initId bmB)(M:MkX X.K C f bmB newId)(F:aC X.prog X.w X.K X.mg X.base CX k f fd ps sp)(hr:bH (k+1) X.A)(hg:Gl X x)(hm:X.mg x=some (.ref C))(hb:l9 X.K fd ps [])(hx:qg CX X E0)(hex:X.ex=[])
 (ha:PA X (e::es) t)(hdb:(x==("__debug__":Str))=false:=by decide)(he:UQ (e::es) X.env=(false,eval e X.env)::UQ es X.env:=by rfl)(hpl:(U7 cpos (UQ es X.env)).any (·.1)=false:=by rfl):
 PE X (.Call (.Name x np) (e::es) [] cpos) (Ds X C sp t):=by
 intro Wx s σ H Q I h;refine Vt (oj I hg hm ?_ hdb);refine Rg (h₀:=X.base) I.ok.mod.kin M.kp (ax (ha cpos Wx s σ H _ I h) λus s1 ⟨vs,H1,I1,r,hl,q⟩=>⟨I1.kIn,?_⟩) he hpl;exact Kn FB M F hr hb hx I1 r (by show us.length<=UR;rw [<-r.length];exact hl) hex q
def Kp(X:Cx)(C:UL)(sp:Sp)(t:TA)(Ex:UL->UL->Hp->Prop):TS:=λ_ σ H=>Ds X C sp t σ H λv H2=>∃a d,v= .ref a/\X.s₀.heap.get? a=none/\H2 a=some (.ext (nu a (.ref C) d))/\Ex a d H2
theorem Kq{Ex:UL->UL->Hp->Prop}(hc:X.calm=true)(FB:VF B newId initId bmB)(M:MkX X.K C f bmB newId)(F:aC X.prog X.w X.K X.mg X.base CX k f fd ps sp)(hr:bH (k+1) X.A)(hg:Gl X x)(hm:X.mg x=some (.ref C))(hb:l9 X.K fd ps [])(hx:qg CX X E0)(hex:X.ex=[])
 (ha:PA X (e::es) t)(hxe:∀(Wx:List (UL×Obj)) (σ:St) (H:Hp) (s:UM) (a d:UL),ag X Wx σ H s->X.s₀.heap.get? a=none->H a=some (.ext (nu a (.ref C) d))->Ex a d H->X.xe (.ref a) s)
 (hdb:(x==("__debug__":Str))=false:=by decide)(he:UQ (e::es) X.env=(false,eval e X.env)::UQ es X.env:=by rfl)(hpl:(U7 cpos (UQ es X.env)).any (·.1)=false:=by rfl):
 PS X (.Raise (some (.Call (.Name x np) (e::es) [] cpos)) none pos) (Kp X C sp t Ex):=by
 intro Wx s σ H D I h;obtain⟨bm,nm,qn,N,bs,sn,sub,ab,col,dd,k0,k1,k2,k3,k5,hC,_,T⟩:=pR I.ok.mod.kin M.seen;rw [arm_exec_Raise];simp only [evalOpt,Option.map];refine UK (VQ (Kc (C:=C) (nm:=nm) (q:=qn) (N:=N) (bs:=bs) (bm:=bm) (hdct:=true) (sn:=sn) (sub:=sub) (ab:=ab) (col:=col) (dd:=dd) (k0:=k0) (k1:=k1) (k2:=k2) (k3:=k3) (k5:=k5) (newId:=newId) (T.hasType FB.hasBase) (I.ok.hd hc) ?_));refine UK (ax (Ko FB M F hr hg hm hb hx hex ha hdb he hpl Wx s σ H _ I h) λv s1 ⟨y,H1,I1,r1,a,d,ey,n0,hE,q⟩=>UK (VQ (UN ?_)));subst ey;obtain rfl:v=Oz a:=r1;obtain⟨ta,hx1⟩:=(show bE X.prog X.w H1 s1.heap a (.ext (nu a (.ref C) d)) from I1.hok a _ hE).1;exact⟨a,_,_,rfl,I1.bk _ _ hC,hx1,rfl,rfl,rfl,hxe Wx σ H1 s1 a d I1 n0 hE q⟩
end
section
variable {P:UX} {w:UZ} {K:NH} {mg:Str->Option UJ} {base:UW} {N:List Str} {qual:Str} {scope:Vg} {f:UL} {cd:UJ} {A:U1} {outer:List Env} {s:UM} {H:Hp} {E:XK}
theorem Kr{Wx:List (UL×Obj)}{σ:St}{H1:Hp}{s1:UM}{a C d:UL}(I:ag (jS (kc P w) P w K mg base N qual scope f cd A outer s H E) Wx σ H1 s1)(n0:s.heap.get? a=none)(hE:H1 a=some (.ext (nu a (.ref C) d)))
 (q:E (.ref C) (some d) (mC H1 a)):(jS (kc P w) P w K mg base N qual scope f cd A outer s H E).xe (.ref a) s1:=by
 obtain⟨ta,hx⟩:=(show bE P w H1 s1.heap a (.ext (nu a (.ref C) d)) from I.hok a _ hE).1;exact J2 I hx rfl (a0:= .ref ta) rfl rfl n0 hE q
end
theorem Du(a b:Str):(a++b).length=a.length+b.length:=by
 obtain⟨x⟩:=a;obtain⟨y⟩:=b;show(x++y).size=x.size+y.size;exact R8
section
variable {X:Cx}
def Dv(i:Nat):TE:=λσ H Q=>∃n:Int,σ[i]?=some (some (.int n))/\n.natAbs.log2 < 1920/\(NG (toString n)).length<=1000/\∀z:Str,Q (.str z) H
theorem Ks{i:Nat}{s0 x:Str}{j:Nat}{p1 p2 p3 pos:Pos}(h0:s0.length<=1000)(hx:PE X (.Name x p3) (nJ i)):PE X (.JoinedStr [.Constant (.str s0) j p1,.FormattedValue (.Name x p3) (-1) none p2] pos) (Dv i):=by
 intro Wx s σ H Q I ⟨n,e,hn,hz,q⟩;have sl:=UY;refine JoinedStr_many (joinParts_cons (ax (uU Wx s σ H (λv H1=>v= .str s0/\H1=H) I ⟨rfl,rfl⟩) λv s1 ⟨y,H1,I1,r1,ey,eH⟩=>?_));subst ey eH;obtain⟨t1,rfl⟩:=r1;have l1:(RI++s0).length<=1000:=by rw [Du];show 0+s0.length<=1000;omega
 refine⟨UC,joinParts_cons (FormattedValue_plain (ax (hx Wx s1 σ H1 (λv H2=>v= .int n/\H2=H1) I1 ⟨_,e,rfl,rfl⟩) λv s2 ⟨y,H2,I2,r2,ey,eH⟩=>?_))⟩;subst ey eH;obtain⟨t2,rfl⟩:=r2;refine formatField_int_small hn ?_;have l2:(RI++s0++NG (toString n)).length<=UR:=by rw [Du];omega
 exact⟨l2,joinParts_nil (hsz:=l2) ⟨.str (RI++s0++NG (toString n)),H2,(I2.tok _).tok _,⟨_,rfl⟩,q _⟩⟩
end
theorem Kt{H:Hp}{a:UL}{o:HO}(h:H a=some o):ak H a o=H:=by
 funext b;by_cases e:b=a
 ·rw [e,bh,h]
 ·rw [av e]
def xN(C:UL)(f:Str):Sp:=λvs H Q _=>∃(a:UL)(n:Int),vs=[.ref a,.int n]/\n.natAbs.log2 < 1920/\(NG (toString n)).length<=1000/\H a=some (.ext (mi a (.ref C)))/\∀d,H d=none->d≠a->Q .non (ak (ak H d (.xd [(f,.int n)])) a (.ext (nu a (.ref C) d)))
section
variable {P:UX} {w:UZ} {K:NH} {mg:Str->Option UJ} {base:UW}
theorem lg.okNX{x qual f:Str}{st:U0}{fa C:UL}{fd:UT}{N ps:List Str}{k:Nat}(Fu:lg K x qual st fa fd)(S:aQ N ps (ay st))(h2:ps.length=2)(hN:N=ps)
 (hbody:∀(cdv:UJ) (A:U1) (outer:List Env) (s:UM) (H:Hp) (E:XK),bH k (A.deeper (VR qual (ay st) s.heap.objs.size fa cdv))->bK (jS CX0 P w K mg base N qual (ay st) fa cdv A outer s H E).nox (lJ st) (sH (Dq C (rA (nJ 0) (rA (Dv 1) sV))) (Dr C f (nJ 0) (nJ 1)))):
 aC P w K mg base CX0 (k+1) fa fd ps (xN C f):=by
 refine Fu.ok S (λvs H Q E uu30=>by obtain⟨a,n,e,_⟩:=uu30;rw [e,h2];rfl) λcdv A outer s H vs Q E hr ⟨a,n,ev,hn,hz,hE,q⟩=>⟨_,hbody cdv A outer s H E hr,?_⟩;subst ev hN;have st:start N [V.ref a,V.int n]=[some (V.ref a),some (V.int n)]:=by
  match N,h2 with
  | [y,z],_=>rfl
 rw [st];refine⟨.ref a,rfl,n,rfl,hn,hz,λz=>⟨a,[.str z],rfl,by rw [UY];show 1<=16777216;decide,hE,?_⟩⟩;rw [Kt hE];exact⟨.int n,rfl,.ref a,rfl,a,rfl,hE,λd hd ne=>q d hd ne⟩
end
abbrev uk:=List UI->(UI->Prop)->(Int->Prop)->Prop
inductive um (K:NH) (C:UL) (f:Str) (F:uk) (vs:List V) (H:Hp) (Q:VK) (E:XK):Prop
 | mk (O:Ex) (ds:List UI) (Qd:UI->Prop) (R:Int->Prop):(∀l,O l->H l≠none)->aq K H O vs ds->F ds Qd R->(∀d v H',Qd d->ao H H'->Dt K H' O v d->Q v H')->
  (∀n,R n->∀dd H',ao H H'->H' dd=some (.xd [(f,.int n)])->E (.ref C) (some dd) H')->um K C f F vs H Q E
section
variable {P:UX} {w:UZ} {K:NH} {mg:Str->Option UJ} {base:UW}
theorem lg.okRd{x qual:Str}{st:U0}{f:UL}{fd:UT}{N ps:List Str}{k:Nat}{sp:Sp}(F:lg K x qual st f fd)(S:aQ N ps (ay st))(len:∀vs H Q E,sp vs H Q E->vs.length=ps.length)
 (hbody:∀(cdv:UJ) (A:U1) (outer:List Env) (s:UM) (H:Hp) (vs:List V) (Q:VK) (E:XK),bH k (A.deeper (VR qual (ay st) s.heap.objs.size f cdv))->sp vs H Q E->
  ∃t,bK (jS (kc P w) P w K mg base N qual (ay st) f cdv A outer s H E) (lJ st) t/\t {nx:=λ_ H'=>Q .non H',rt:=Q} (start N vs) H):aC P w K mg base (kc P w) (k+1) f fd ps sp:=by
 obtain⟨oc,od,kV,doc,pm,an,cdv,ct,osl,rfl,lk,hcd⟩:=F.ex;exact Bo lk hcd S len λA outer s H vs Q E hr hsp=>hbody cdv A outer s H vs Q E hr hsp
theorem lg.okDXn{C:UL}{af x qual:Str}{st:U0}{f:UL}{fd:UT}{N ps:List Str}{k:Nat}{F:uk}(Fu:lg K x qual st f fd)(S:aQ N ps (ay st))(len:∀ds Q R,F ds Q R->ds.length=ps.length)
 (hbody:∀(cdv:UJ) (A:U1) (outer:List Env) (s:UM) (H:Hp) (O:Ex) (ds:List UI) (Q:UI->Prop) (R:Int->Prop) (E:XK),bH k (A.deeper (VR qual (ay st) s.heap.objs.size f cdv))->F ds Q R->
  (∀n,R n->∀dd H',ao H H'->H' dd=some (.xd [(af,.int n)])->E (.ref C) (some dd) H')->
  ∃t,bK (jS (kc P w) P w K mg base N qual (ay st) f cdv A outer s H E) (lJ st) (j3 K H O t)/\t {nx:=λ_=>Q .none,rt:=Q} (bQ N ds)):aC P w K mg base (kc P w) (k+1) f fd ps (um K C af F):=by
 refine Fu.okRd S (λvs H Q E h=>?_) (λcdv A outer s H vs Q E hr h=>?_)
 ·obtain⟨O,ds,Qd,R,_,r,q,_⟩:=h;rw [r.length];exact len _ _ _ q
 ·obtain⟨O,ds,Qd,R,tr,r,q,k,kx⟩:=h;obtain⟨t,ht,q'⟩:=hbody cdv A outer s H O ds Qd R E hr q kx;refine⟨_,ht,O,_,_,B5 tr r,q',λO' δ' σ' H' z w' S'=>?_,λd v H' z s' r'=>k d v H' z s' r',λ_ _ _ _ z=>z.elim,λ_ _ _ _ z=>z.elim⟩;exact k _ _ _ z w'.same .non
def fv(R:Int->Prop)(u:DA):DS:=λ_ δ=>u δ λds=>∃n,ds=[.int n]/\n.natAbs.log2 < 1920/\(NG (toString n)).length<=1000/\R n
section
variable {N:List Str} {qual:Str} {scope:Vg} {f0:UL} {cd:UJ} {A:U1} {outer:List Env} {s:UM} {H:Hp} {O:Ex} {E:XK} {R:Int->Prop} {C:UL} {af:Str}
theorem sg{j k:Nat}{fi:UL}{fdi:UT}{psi:List Str}{x:Str}{bm:List UJ}{B newId initId:String}{e:US}{np cpos pos:Pos}{u:DA}(hx:∀n,R n->∀dd H',ao H H'->H' dd=some (.xd [(af,.int n)])->E (.ref C) (some dd) H')
 (FB:VF B newId initId bm)(M:MkX K C fi bm newId)(G:aC P w K mg base CX0 k fi fdi psi (xN C af))(hr:bH j (jS (kc P w) P w K mg base N qual scope f0 cd A outer s H E).A)(hm:mg x=some (.ref C))(hb:l9 K fdi psi [])
 (ha:PA (jS (kc P w) P w K mg base N qual scope f0 cd A outer s H E) [e] (mv K H O u))(hk:k+1<=j:=by decide)(hg:Gl (jS (kc P w) P w K mg base N qual scope f0 cd A outer s H E) x:=by exact rfl)(hd:(x==("__debug__":Str))=false:=by decide)
 (he:UQ [e] (jS (kc P w) P w K mg base N qual scope f0 cd A outer s H E).env=(false,eval e (jS (kc P w) P w K mg base N qual scope f0 cd A outer s H E).env)::UQ [] (jS (kc P w) P w K mg base N qual scope f0 cd A outer s H E).env:=by rfl)
 (hpl:(U7 cpos (UQ [] (jS (kc P w) P w K mg base N qual scope f0 cd A outer s H E).env)).any (·.1)=false:=by rfl):
 PS (jS (kc P w) P w K mg base N qual scope f0 cd A outer s H E) (.Raise (some (.Call (.Name x np) [e] [] cpos)) none pos) (j3 K H O (fv R u)):=
 λWx s1 σ H1 D I ⟨O1,δ,EE,w1,q1,_,_,_,_⟩=>Kq (Ex:=λa d H2=>∃n,R n/\ao H (mC H2 a)/\mC H2 a d=some (.xd [(af,.int n)])) rfl FB M G (hr.mono hk) hg hm hb Bz rfl ha
  (λWx σ H2 s2 a d I2 n0 hE uu33=>by obtain⟨n,r,sm,hd⟩:=uu33;exact Kr I2 n0 hE (hx n r d _ sm hd)) hd he hpl Wx s1 σ H1 D I
  ⟨O1,δ,_,w1,q1,λds vs H2 uu34 s2 r2=>by
   obtain⟨n,ed,hn,hz,r⟩:=uu34;subst ed;cases r2 with
   | cons r3 r4=>
    cases r4;cases r3;refine⟨by rw [UY];show 1<=16777216;decide,λa ha0 n0=>⟨a,n,rfl,hn,hz,bh,λd hd ne=>⟨rfl,a,d,rfl,n0,bh,n,r,?_,?_⟩⟩⟩
    ·intro b o hb;have hb2:H2 b=some o:=(w1.same.trans s2) b o hb;have na:b≠a:=λy=>by rw [y,ha0] at hb2;cases hb2
     have nd:b≠d:=λy=>by rw [av ne] at hd;rw [y,hd] at hb2;cases hb2
     rw [qE na,av na,av nd,av na];exact hb2
    ·rw [qE ne,av ne,bh]⟩
end
end
section
variable {X:Cx} {CX:kH} {k:Nat} {f C C':UL} {fd:UT} {ps:List Str} {sp:Sp} {x c n:Str} {p cp ep np hp tp:Pos} {a:US} {as:List US} {b₀:U0} {suite:List U0} {t:TA} {i j:Nat} {ts:TS} {y:Str} {yp:Pos}
theorem Ku{bmB bmB':List UJ}{newId newId':String}(F:aC X.prog X.w X.K X.mg X.base (kc X.prog X.w) k f fd ps sp)(hr:bH k X.A)(hg:Gl X x)(hm:X.mg x=some (.ref f))(hk:Ql X.K (.ref f)=true)(hb:l9 X.K fd ps [])
 (ha:∀E',PA (X.wish E') (a::as) t)(hst:X.stack=X.env::X.outer)(hfr:X.env.frame=some X.env.locals)
 (hmc:X.mg c=some (.ref C'))(hgc:Gl X c)(q:oP X.K C bmB newId=true)(q':RF X.K C' bmB' newId'=true)(hB:bmB'.contains (.type "BaseException")=true)
 (hin:P2 X.K C (.ref C')=some true)
 (hN:X.N.Nodup)(hj:X.N[j]?=some y)(hy:oT X.env.scope y)(hf:X.fn y=true\/X.env.scope.names.lookup y=some .local)(hi:X.N[i]?=some n)(hn:X.env.scope.names.lookup n=some .local)(hs:∀e,bK (X.inEx e) (b₀::suite) ts)
 (hdb:(x==("__debug__":Str))=false:=by decide)(hdc:(c==("__debug__":Str))=false:=by decide)(he:UQ (a::as) X.env=(false,eval a X.env)::UQ as X.env:=by rfl)(hpl:(U7 cp (UQ as X.env)).any (·.1)=false:=by rfl)(hsw:Vi (.Call (.Name x p) (a::as) [] cp) (some (.Name y yp)) ep.line X.env=pure false:=by rfl):
 PS X (.Try [.Assign [.Name y yp] (.Call (.Name x p) (a::as) [] cp) ep] [.ExceptHandler (some (.Name c np)) (some n) (b₀::suite) hp] [] [] tp) (J3 sp t C i j ts):=by
 intro Wx s σ H D I h;refine wpAny_Try_except ?_;generalize hEh:(λ(e:UJ) (s₁:UM)=>UO (UP X.prog X.w) X.A (Wa e X.env) (λ_ s₂=>UO (UP X.prog X.w) X.A (Wo e none) (λ_ s₃=>UO (UP X.prog X.w) X.A (handleBy e X.env [.ExceptHandler (some (.Name c np)) (some n) (b₀::suite) hp]) (SP X Wx D) X.xe s₃) X.xe s₂) X.xe s₁)=Eh;have I':ag (X.wish Eh) Wx σ H s:=I.wish Eh;have out:UO (UP X.prog X.w) X.A (eval (.Call (.Name x p) (a::as) [] cp) X.env) (λu s₁=>∃v H',ag X Wx σ H' s₁/\aD v u/\D.nx (σ.set j (some v)) H') Eh s:=by
  refine Vt (oj I hg hm ?_ hdb);refine Rg (h₀:=X.base) I.ok.mod.kin hk (ax (ha Eh cp Wx s σ H _ I' h) λus s1 ⟨vs,H1,I1w,r,q1⟩=>⟨I1w.kIn,?_⟩) he hpl;have I1:ag X Wx σ H1 s1:=I1w.unwish;have hl:(us++[]).length=ps.length:=by rw [NY,<-r.length];exact F.len _ _ _ _ q1
  have bd:=hb s1 us I1.kIn hl;rw [NY] at bd;refine VZ (Vs (F.run X.A X.stack s1 H1 ⟨us,[]⟩ us vs _ _ hr I1.env0 bd r q1) λr2 s2 hq=>?_);cases r2 with
  | ok fl=>
   cases fl with
   | ret u=>
    obtain⟨v,H2,I2,rv,q2⟩:=I1.after hq;exact⟨v,H2,I2,rv,q2⟩
   | next=>exact Px hq
   | brk=>exact Px hq
   | cont=>exact Px hq
  | error ev=>
   obtain⟨e,cls,a0,B,H2,rfl,ho,hgn,fl,hB2,un,kb,th,ox,hox,rfl,hsu⟩:=hq;rw [<-hEh];have fl':QK B (X.env::X.outer) e (.ref C) a0 s2.heap:=by rw [<-hst];exact fl
   refine U6 (Dm (Q:=λ_ s'=>∃h4,s'={s2 with heap:=h4}/\Heap.HeldW B (X.env::X.outer) e (.ref C) a0 X.env.locals h4/\s2.heap.UpToSlots h4) (wpAny_looks_onW (by rw [I.ok.frames,hst]) hfr fl' λh4 a b=>⟨h4,rfl,a,b⟩)) (λ_ s4 hs4=>?_) (λ_ _ z=>z.1);obtain⟨⟨h4,rfl,held4,sm4⟩,dk4⟩:=hs4;refine U6 (uj (Q:=λ_ s'=>∃h5,s'={s2 with heap:=h5}/\QK B (X.env::X.outer) e (.ref C) a0 h5/\h4.UpToSlots h5) (wpAny_landsW held4 λh5 a b=>⟨h5,rfl,a,b⟩)) (λ_ s5 hs5=>?_) (λ_ _ z=>z.1);obtain⟨⟨h5,rfl,fl5,sm5⟩,dk5⟩:=hs5;have sm25:=sm4.trans sm5;have I5:ag X Wx σ H2 {s2 with heap:=h5}:=ag.call' (ch:=[]) (s':={s2 with heap:=h5}) I1 ho (tm (X:=X) un fl fl5.1 sm25 kb th) (hB2.kept fl5.1) hgn (λ_ z=>nomatch z);have I5e:=I5.inEx e;obtain⟨ob,hob,hobc⟩:=fl5.there;have O:=(G2 (x:=c) (mg:=X.mg) (C:=C') I.ok.mod.kin hmc q').obj;obtain⟨tl',N',nm',qn',bs',hd',sn',sub',ab',col',dd',k0',k1',k2',k3',k5',mN',hC',_,_,T'⟩:=O;obtain⟨tl,nm,qn,N,bs,sn,sub,ab,col,dd,k0,k1,k2,k3,k5,hC,_,T⟩:=pR I.ok.mod.kin q;refine wpAny_handleBy_cons (codeAny_handlers_test (oj I5e hgc hmc ?_ hdc)) (by intro z;cases z);have hbase':tl'.contains (.type "BaseException")=true:=by rw [T'.hasType hB]
   refine BO (I5.bk _ _ hC) (I5.bk _ _ hC') hob hobc hbase' (BP I.ok.mod.kin hin hC) ?_;refine codeAny_handlers_suite_as ?_;refine U6 (uj (Q:=λ_ s'=>∃h6,s'={s2 with heap:=h6}/\QK B (X.env::X.outer) e (.ref C) a0 h6/\h5.UpToSlots h6) (lands_againW fl5 λh6 a b=>⟨h6,rfl,a,b⟩)) (λ_ s6 hs6=>?_) (λ_ _ z=>z.1);obtain⟨⟨h6,rfl,fl6,sm6⟩,dk6⟩:=hs6;have dk26:DK s2.heap h6:=(dk4.trans dk5).trans dk6;have eB:B.get? e=none:=fl.2.1;have nH2:H2 e=none:=by
    cases z:H2 e with
    | none=>rfl
    | some u=>
     obtain⟨ob',z'⟩:=(hB2 e u z).there;rw [eB] at z';cases z'
   have u6:=tm (X:=X) un fl fl6.1 (sm25.trans sm6) kb th;have n1:∀o,s1.heap.get? e=some o->False:=λo z=>by
    by_cases hbf:e∈ck X.stack
    ·obtain⟨_,o',ho',hd'⟩:=fl.2.2.1.mem hbf;obtain⟨oe,ws,hoe,_,hoed,_⟩:=fl.first;rw [hoe] at ho';cases ho';exact hd' _ hoed
    ·obtain⟨o',z'⟩:=th e o z hbf;rw [eB] at z';cases z'
   have ne2:∀b u,H2 b=some u->b≠e:=λb u z w'=>by rw [w',nH2] at z;cases z
   have un6:Un (ck X.stack) [] H1 (ak H2 e (.ext (kE e (.ref C) ox.dict))) s1.heap h6:=
    ⟨u6.keep,u6.slot,λb o z nn hx=>by rw [av (λw'=>n1 o (by rw [<-w'];exact z))];exact u6.free b o z nn hx,u6.there,
     λb xs z=>by rw [av (ne2 b _ (u6.tups b xs z))];exact u6.tups b xs z,λb o xs z=>by rw [av (ne2 b _ (u6.frzs b o xs z))];exact u6.frzs b o xs z,
     λb pss z=>by obtain⟨mo,z'⟩:=u6.tbls b pss z;exact⟨mo,by rw [av (ne2 b _ z')];exact z'⟩⟩
   have ok6:bJ X.prog X.w (ak H2 e (.ext (kE e (.ref C) ox.dict))) h6:=λb u z=>by
    by_cases hbe:b=e
    ·subst hbe;rw [bh] at z;cases z;obtain⟨o6,vs6,ho6,hc6,hf6,_⟩:=fl6.first;obtain⟨o7,ho7,hd7⟩:=dk26 _ ox hox;rw [ho6] at ho7;cases ho7;exact⟨⟨o6,ho6,hc6,hd7,by unfold notCls;rw [hf6]⟩,⟨o6,ho6⟩,λh1 h2 uu36 kk=>by obtain⟨o,z1,z2⟩:=uu36;exact⟨o,kk o z1,z2⟩⟩
    ·rw [av hbe] at z;exact(hB2 b u z).stay (λcc v _ z'=>fl6.1 cc v z') (λcc z'=>by rw [av (ne2 cc _ z')];exact z') (λcc xs z'=>by rw [av (ne2 cc _ z')];exact z') λcc xs z'=>by rw [av (ne2 cc _ z')];exact z'
   have I6:ag X Wx σ (ak H2 e (.ext (kE e (.ref C) ox.dict))) {s2 with heap:=h6}:=ag.call' (ch:=[]) (s':={s2 with heap:=h6}) I1 ho un6 ok6 hgn (λ_ z=>nomatch z);refine oU (X:=X.inEx e) (I6.inEx e) hN hi (.inl hn) (v:= .ref e) rfl (λs7 I7=>?_) (.inr hn);refine U6 (hs e Wx s7 _ _ _ I7 (hsu e nH2)) (λf s8 q8=>?_) λ_ _ z=>z.elim;cases f with
   | next=>
    obtain⟨σ8,H8,J8,q8⟩:=q8;exact G3 (J8.outEx I.ok.hd) hN hi hn λs9 J9=>⟨σ8.set i none,H8,J9,q8⟩
   | ret v=>obtain⟨_,_,_,_,_,z⟩:=q8;exact z.elim
   | brk=>obtain⟨_,_,_,z⟩:=q8;exact z.elim
   | cont=>obtain⟨_,_,_,z⟩:=q8;exact z.elim
 refine V5 (wpAny_Assign_Name (ax out λu s1 ⟨v,H',I1,r1,q1⟩=>?_) hsw);exact oU I1 hN hj hy r1 (λs2 I2=>VJ (VJ ⟨_,H',I2,q1⟩)) hf
end
theorem Dw{X:Cx}{K':NH}(h:X.K=K'):kq X (.builtin "isinstance") (λxs H Q=>∃(dd:Option UL)(e C:UL)(c:V)(cv:UJ)(b:Bool),xs=[.ref e,c]/\H e=some (.ext (kE e (.ref C) dd))/\lC K' C/\(∀u,aD c u->u=cv)/\QH K' (.ref C) cv=some b/\Q (.bl b) H):=by
 subst h;exact Ka
theorem Dx{X:Cx}{K':NH}(h:X.K=K'):kq X (.builtin "isinstance") (λxs H Q=>∃(dd:Option UL)(e C q:UL)(cs:List UL)(b:Bool),xs=[.ref e,.ref q]/\H e=some (.ext (kE e (.ref C) dd))/\H q=some (.tup (cs.map V.ref))/\lC K' C/\Q1 K' (.ref C) (cs.map Oz)=some b/\Q (.bl b) H):=by
 subst h;exact Kb
section
variable {X:Cx} {CX:kH} {k:Nat} {f C C':UL} {fd:UT} {ps:List Str} {sp:Sp} {x c n:Str} {p cp ep np hp tp:Pos} {a:US} {as:List US} {b₀:U0} {suite:List U0} {t:TA} {i j:Nat} {ts:TS} {y:Str} {yp:Pos}
def Kv(sp:Sp)(t:TA)(C:UL)(ts:TS):TS:=λD σ H=>t σ H λvs H1=>sp vs H1 (λv H2=>D.rt v H2) (λcls dd H2=>cls= .ref C/\∀e,H2 e=none->
 ts {nx:=D.nx,rt:=D.rt} σ (ak H2 e (.ext (kE e (.ref C) dd))))
theorem Kw{bmB bmB':List UJ}{newId newId':String}(F:aC X.prog X.w X.K X.mg X.base (kc X.prog X.w) k f fd ps sp)(hr:bH k X.A)(hg:Gl X x)(hm:X.mg x=some (.ref f))(hk:Ql X.K (.ref f)=true)(hb:l9 X.K fd ps [])
 (ha:∀E',PA (X.wish E') (a::as) t)(hst:X.stack=X.env::X.outer)(hfr:X.env.frame=some X.env.locals)
 (hmc:X.mg c=some (.ref C'))(hgc:Gl X c)(q:oP X.K C bmB newId=true)(q':oP X.K C' bmB' newId'=true)(hB:bmB'.contains (.type "BaseException")=true)
 (hin:P2 X.K C (.ref C')=some true)
 (hs:∀e,bK (X.inEx e) (b₀::suite) ts)
 (hdb:(x==("__debug__":Str))=false:=by decide)(hdc:(c==("__debug__":Str))=false:=by decide)(he:UQ (a::as) X.env=(false,eval a X.env)::UQ as X.env:=by rfl)(hpl:(U7 cp (UQ as X.env)).any (·.1)=false:=by rfl):
 PS X (.Try [.Return (some (.Call (.Name x p) (a::as) [] cp)) ep] [.ExceptHandler (some (.Name c np)) none (b₀::suite) hp] [] [] tp) (Kv sp t C ts):=by
 intro Wx s σ H D I h;refine wpAny_Try_except ?_;generalize hEh:(λ(e:UJ) (s₁:UM)=>UO (UP X.prog X.w) X.A (Wa e X.env) (λ_ s₂=>UO (UP X.prog X.w) X.A (Wo e none) (λ_ s₃=>UO (UP X.prog X.w) X.A (handleBy e X.env [.ExceptHandler (some (.Name c np)) none (b₀::suite) hp]) (SP X Wx D) X.xe s₃) X.xe s₂) X.xe s₁)=Eh;have I':ag (X.wish Eh) Wx σ H s:=I.wish Eh;have out:UO (UP X.prog X.w) X.A (eval (.Call (.Name x p) (a::as) [] cp) X.env) (λu s₁=>∃v H',ag X Wx σ H' s₁/\aD v u/\D.rt v H') Eh s:=by
  refine Vt (oj I hg hm ?_ hdb);refine Rg (h₀:=X.base) I.ok.mod.kin hk (ax (ha Eh cp Wx s σ H _ I' h) λus s1 ⟨vs,H1,I1w,r,q1⟩=>⟨I1w.kIn,?_⟩) he hpl;have I1:ag X Wx σ H1 s1:=I1w.unwish;have hl:(us++[]).length=ps.length:=by rw [NY,<-r.length];exact F.len _ _ _ _ q1
  have bd:=hb s1 us I1.kIn hl;rw [NY] at bd;refine VZ (Vs (F.run X.A X.stack s1 H1 ⟨us,[]⟩ us vs _ _ hr I1.env0 bd r q1) λr2 s2 hq=>?_);cases r2 with
  | ok fl=>
   cases fl with
   | ret u=>
    obtain⟨v,H2,I2,rv,q2⟩:=I1.after hq;exact⟨v,H2,I2,rv,q2⟩
   | next=>exact Px hq
   | brk=>exact Px hq
   | cont=>exact Px hq
  | error ev=>
   obtain⟨e,cls,a0,B,H2,rfl,ho,hgn,fl,hB2,un,kb,th,ox,hox,rfl,hsu⟩:=hq;rw [<-hEh];have fl':QK B (X.env::X.outer) e (.ref C) a0 s2.heap:=by rw [<-hst];exact fl
   refine U6 (Dm (Q:=λ_ s'=>∃h4,s'={s2 with heap:=h4}/\Heap.HeldW B (X.env::X.outer) e (.ref C) a0 X.env.locals h4/\s2.heap.UpToSlots h4) (wpAny_looks_onW (by rw [I.ok.frames,hst]) hfr fl' λh4 a b=>⟨h4,rfl,a,b⟩)) (λ_ s4 hs4=>?_) (λ_ _ z=>z.1);obtain⟨⟨h4,rfl,held4,sm4⟩,dk4⟩:=hs4;refine U6 (uj (Q:=λ_ s'=>∃h5,s'={s2 with heap:=h5}/\QK B (X.env::X.outer) e (.ref C) a0 h5/\h4.UpToSlots h5) (wpAny_landsW held4 λh5 a b=>⟨h5,rfl,a,b⟩)) (λ_ s5 hs5=>?_) (λ_ _ z=>z.1);obtain⟨⟨h5,rfl,fl5,sm5⟩,dk5⟩:=hs5;have sm25:=sm4.trans sm5;have I5:ag X Wx σ H2 {s2 with heap:=h5}:=ag.call' (ch:=[]) (s':={s2 with heap:=h5}) I1 ho (tm (X:=X) un fl fl5.1 sm25 kb th) (hB2.kept fl5.1) hgn (λ_ z=>nomatch z);have I5e:=I5.inEx e;obtain⟨ob,hob,hobc⟩:=fl5.there;obtain⟨tl',nm',qn',N',bs',sn',sub',ab',col',dd',k0',k1',k2',k3',k5',hC',_,T'⟩:=pR I.ok.mod.kin q';obtain⟨tl,nm,qn,N,bs,sn,sub,ab,col,dd,k0,k1,k2,k3,k5,hC,_,T⟩:=pR I.ok.mod.kin q;refine wpAny_handleBy_cons (codeAny_handlers_test (oj I5e hgc hmc ?_ hdc)) (by intro z;cases z);have hbase':tl'.contains (.type "BaseException")=true:=by rw [T'.hasType hB]
   refine BO (I5.bk _ _ hC) (I5.bk _ _ hC') hob hobc hbase' (BP I.ok.mod.kin hin hC) ?_;refine codeAny_handlers_suite ?_;refine U6 (uj (Q:=λ_ s'=>∃h6,s'={s2 with heap:=h6}/\QK B (X.env::X.outer) e (.ref C) a0 h6/\h5.UpToSlots h6) (lands_againW fl5 λh6 a b=>⟨h6,rfl,a,b⟩)) (λ_ s6 hs6=>?_) (λ_ _ z=>z.1);obtain⟨⟨h6,rfl,fl6,sm6⟩,dk6⟩:=hs6;have dk26:DK s2.heap h6:=(dk4.trans dk5).trans dk6;have eB:B.get? e=none:=fl.2.1;have nH2:H2 e=none:=by
    cases z:H2 e with
    | none=>rfl
    | some u=>
     obtain⟨ob',z'⟩:=(hB2 e u z).there;rw [eB] at z';cases z'
   have u6:=tm (X:=X) un fl fl6.1 (sm25.trans sm6) kb th;have n1:∀o,s1.heap.get? e=some o->False:=λo z=>by
    by_cases hbf:e∈ck X.stack
    ·obtain⟨_,o',ho',hd'⟩:=fl.2.2.1.mem hbf;obtain⟨oe,ws,hoe,_,hoed,_⟩:=fl.first;rw [hoe] at ho';cases ho';exact hd' _ hoed
    ·obtain⟨o',z'⟩:=th e o z hbf;rw [eB] at z';cases z'
   have ne2:∀b u,H2 b=some u->b≠e:=λb u z w'=>by rw [w',nH2] at z;cases z
   have un6:Un (ck X.stack) [] H1 (ak H2 e (.ext (kE e (.ref C) ox.dict))) s1.heap h6:=
    ⟨u6.keep,u6.slot,λb o z nn hx=>by rw [av (λw'=>n1 o (by rw [<-w'];exact z))];exact u6.free b o z nn hx,u6.there,
     λb xs z=>by rw [av (ne2 b _ (u6.tups b xs z))];exact u6.tups b xs z,λb o xs z=>by rw [av (ne2 b _ (u6.frzs b o xs z))];exact u6.frzs b o xs z,
     λb pss z=>by obtain⟨mo,z'⟩:=u6.tbls b pss z;exact⟨mo,by rw [av (ne2 b _ z')];exact z'⟩⟩
   have ok6:bJ X.prog X.w (ak H2 e (.ext (kE e (.ref C) ox.dict))) h6:=λb u z=>by
    by_cases hbe:b=e
    ·subst hbe;rw [bh] at z;cases z;obtain⟨o6,vs6,ho6,hc6,hf6,_⟩:=fl6.first;obtain⟨o7,ho7,hd7⟩:=dk26 _ ox hox;rw [ho6] at ho7;cases ho7;exact⟨⟨o6,ho6,hc6,hd7,by unfold notCls;rw [hf6]⟩,⟨o6,ho6⟩,λh1 h2 uu39 kk=>by obtain⟨o,z1,z2⟩:=uu39;exact⟨o,kk o z1,z2⟩⟩
    ·rw [av hbe] at z;exact(hB2 b u z).stay (λcc v _ z'=>fl6.1 cc v z') (λcc z'=>by rw [av (ne2 cc _ z')];exact z') (λcc xs z'=>by rw [av (ne2 cc _ z')];exact z') λcc xs z'=>by rw [av (ne2 cc _ z')];exact z'
   have I6:ag X Wx σ (ak H2 e (.ext (kE e (.ref C) ox.dict))) {s2 with heap:=h6}:=ag.call' (ch:=[]) (s':={s2 with heap:=h6}) I1 ho un6 ok6 hgn (λ_ z=>nomatch z);refine U6 (hs e Wx _ _ _ _ (I6.inEx e) (hsu e nH2)) (λf s8 q8=>?_) λ_ _ z=>z.elim;cases f with
   | next=>obtain⟨σ8,H8,J8,q8⟩:=q8;exact⟨σ8,H8,J8.outEx I.ok.hd,q8⟩
   | ret v=>obtain⟨v8,σ8,H8,J8,r8,q8⟩:=q8;exact⟨v8,σ8,H8,J8.outEx I.ok.hd,r8,q8⟩
   | brk=>obtain⟨_,_,_,z⟩:=q8;exact z.elim
   | cont=>obtain⟨_,_,_,z⟩:=q8;exact z.elim
 refine V5 (wpAny_Return_some (ax out λu s1 uu40=>by obtain⟨v,H',I1,r1,q1⟩:=uu40;exact⟨v,σ,H',I1,r1,q1⟩))
end
section
variable {X:Cx} {H0:Hp} {O0:Ex}
def jM(to t:DT):DT:=λδ Q=>to δ λx=>∃z:Str,x= .str z/\t δ λy=>∃c:Str,y= .str c/\z.length<=UR/\Q (.str (Txt.stripChars z c))
def jN(i:Nat)(tk tv:DT):DS:=λE δ=>tv δ λd=>∃ds,δ[i]?=some (some (.o ds))/\tk δ λy=>∃k:Int,y= .int k/\∃j,nQ ds.length k=some j/\E.nx (δ.set i (some (.o (ds.set j d))))
end
end L2
namespace PySem.SeqAt
open AutoSeq1 (wpAny_loadPart')
open MeetsSeq
end PySem.SeqAt
namespace L2
open PySem PySem.Spec PyProof.Rows PySem.W
section
variable {X:Cx} {H0:Hp} {O0:Ex}
open PySem PySem.Spec PyProof.Rows PySem.W PySem.Calls
end
end L2
namespace PySem.SeqAt
open AutoSeq1 (wpAny_loadPart')
open MeetsSeq
end PySem.SeqAt
namespace L2
open PySem PySem.Spec PyProof.Rows PySem.W
section
variable {X:Cx} {H0:Hp} {O0:Ex}
def jO:UI->UI->(UI->Prop)->Prop:=λx y Q=>∃z,y= .str z/\kz x=true/\Q (.bool (!NT x (.str z)))
end
end L2
namespace K59
open PySem L2
def aY(i:Nat):U0:=PySem.Challenge.pw_goneday_k59_texts_of_no_deed.main.body.getD i (.Pass ⟨0,0,0,0⟩)
abbrev xO:U0:=L2.inClass (aY 11) 0
abbrev xP:U0:=aY 21
abbrev xQ:U0:=aY 22
abbrev xR:U0:=aY 23
abbrev xS:U0:=aY 24
abbrev xT:U0:=aY 25
abbrev xU:U0:=aY 26
abbrev xV:U0:=aY 27
abbrev xW:U0:=aY 28
abbrev uo:U0:=aY 29
abbrev xX:U0:=aY 30
abbrev xY:U0:=aY 31
abbrev uq:U0:=aY 32
abbrev xZ:U0:=aY 33
abbrev x4:U0:=aY 40
abbrev ur:U0:=aY 41
abbrev x5:U0:=aY 42
abbrev x6:U0:=aY 43
abbrev x8:U0:=aY 44
abbrev si:U0:=aY 45
abbrev x9:U0:=aY 46
abbrev y4:U0:=aY 47
abbrev y6:U0:=aY 48
abbrev y8:U0:=aY 51
abbrev y9:U0:=aY 52
abbrev z9:U0:=aY 53
abbrev Aa:U0:=aY 54
abbrev Ab:U0:=aY 55
abbrev Ac:U0:=aY 56
abbrev Ad:U0:=aY 57
abbrev Ae:U0:=aY 58
abbrev Af:U0:=aY 59
abbrev Ag:U0:=aY 61
abbrev Ah:U0:=aY 62
abbrev Ai:U0:=aY 63
abbrev sj:U0:=aY 64
abbrev Aj:U0:=aY 65
abbrev Ak:U0:=aY 66
abbrev Al:U0:=aY 67
abbrev Am:U0:=aY 68
abbrev uu:U0:=aY 69
abbrev uw:U0:=aY 70
abbrev An:U0:=aY 71
abbrev ux:U0:=aY 72
abbrev Ao:U0:=aY 73
abbrev uy:U0:=aY 74
abbrev uz:U0:=aY 75
abbrev pS:U0:=aY 76
abbrev Ap:U0:=aY 77
abbrev uA:U0:=aY 78
abbrev Aq:U0:=aY 79
abbrev Ar:U0:=aY 80
abbrev As:U0:=aY 81
abbrev Au:U0:=aY 82
set_option genInjectivity false in
set_option genSizeOfSpec false in
structure k9 where
 a_A:UL
 d_A:UT
 a_B:UL
 d_B:UT
 a_C:UL
 d_C:UT
 a_D:UL
 d_D:UT
 a_E:UL
 d_E:UT
 a_F:UL
 d_F:UT
 a_G:UL
 d_G:UT
 a_H:UL
 d_H:UT
 a_I:UL
 d_I:UT
 a_J:UL
 d_J:UT
 a_K:UL
 d_K:UT
 a_L:UL
 d_L:UT
 a_M:UL
 d_M:UT
 a_N:UL
 d_N:UT
 a_O:UL
 d_O:UT
 a_P:UL
 d_P:UT
 a_Q:UL
 d_Q:UT
 a_R:UL
 d_R:UT
 a_S:UL
 d_S:UT
 a_T:UL
 d_T:UT
 a_U:UL
 d_U:UT
 a_V:UL
 d_V:UT
 a_W:UL
 d_W:UT
 a_X:UL
 d_X:UT
 a_Y:UL
 d_Y:UT
 a_Z:UL
 d_Z:UT
 a_a:UL
 d_a:UT
 a_b:UL
 d_b:UT
 a_c:UL
 d_c:UT
 a_d:UL
 d_d:UT
 a_e:UL
 d_e:UT
 a_f:UL
 d_f:UT
 a_g:UL
 d_g:UT
 a_h:UL
 d_h:UT
 a_i:UL
 d_i:UT
 a_j:UL
 d_j:UT
 a_k:UL
 d_k:UT
 a_l:UL
 d_l:UT
 a_m:UL
 d_m:UT
 a_n:UL
 d_n:UT
 a_o:UL
 d_o:UT
 a_p:UL
 d_p:UT
 a_q:UL
 d_q:UT
 a_r:UL
 d_r:UT
 a_s:UL
 d_s:UT
 a_t:UL
 d_t:UT
 a_u:UL
 d_u:UT
 a_v:UL
 d_v:UT
 a_w:UL
 d_w:UT
 a_x:UL
 d_x:UT
 a_y:UL
 d_y:UT
 a_z:UL
 d_z:UT
 a_AA:UL
 d_AA:UT
 a_AB:UL
 d_AB:UT
 u_ArchiveError:UL
 u_LAST_WRITTEN:UJ
 u_MONTH_DAYS:UJ
 u_FIRST_YEAR:UJ
 u_ROUND_DAYS:UJ
 u_ROUND_YEARS:UJ
 u_LAST_YEAR:UJ
 u_FIGURES:UJ
 u_NoText:UL
 u_LONGEST_NAME:UJ
 u_LETTERS:UJ
 u_MOST_MANY:UJ
 u_UNITS:UJ
 u_MOST_MAKERS:UJ
 u_MANY_FIGURES:UJ
 u_GoneMaker:UL
 u_Held:UL
 u_MustStay:UL
 u_NoCall:UL
 u_NoDay:UL
 u_NoDeed:UL
 u_NoLeave:UL
 u_NoNumber:UL
 u_NoPaper:UL
 u_Twice:UL
structure Txt (K:NH) (mg:Str->Option UJ) (t:k9):Prop where
 F_A:Mn K "__init__" "NoText.__init__" xO t.a_A t.d_A ["self","row"]
 F_B:Fn K mg "is_whole" xP t.a_B t.d_B ["thing"]
 F_C:Fn K mg "is_day" xQ t.a_C t.d_C ["thing"]
 F_D:Fn K mg "is_leap" xR t.a_D t.d_D ["year"]
 F_E:Fn K mg "month_length" xS t.a_E t.d_E ["year","month"]
 F_F:Fn K mg "leaps_before" xT t.a_F t.d_F ["year"]
 F_G:Fn K mg "year_start" xU t.a_G t.d_G ["year"]
 F_H:Fn K mg "year_of" xV t.a_H t.d_H ["day"]
 F_I:Fn K mg "parts_of" xW t.a_I t.d_I ["day"]
 F_J:Fn K mg "number_of" uo t.a_J t.d_J ["year","month","day"]
 F_K:Fn K mg "is_date" xX t.a_K t.d_K ["year","month","day"]
 F_L:Fn K mg "show_day" xY t.a_L t.d_L ["day"]
 F_M:Fn K mg "is_figures" uq t.a_M t.d_M ["text","length"]
 F_N:Fn K mg "read_day" xZ t.a_N t.d_N ["text"]
 F_O:Fn K mg "is_tuple_of" x4 t.a_O t.d_O ["thing","length"]
 F_P:Fn K mg "is_name" ur t.a_P t.d_P ["thing"]
 F_Q:Fn K mg "is_since" x5 t.a_Q t.d_Q ["thing"]
 F_R:Fn K mg "is_span" x6 t.a_R t.d_R ["many","unit"]
 F_S:Fn K mg "is_rule" x8 t.a_S t.d_S ["thing"]
 F_T:Fn K mg "is_makers" si t.a_T t.d_T ["thing"]
 F_U:Fn K mg "is_target" x9 t.a_U t.d_U ["thing"]
 F_V:Fn K mg "are_parts" y4 t.a_V t.d_V ["word","parts"]
 F_W:Fn K mg "is_deed" y6 t.a_W t.d_W ["thing"]
 F_X:Fn K mg "rule_words" y8 t.a_X t.d_X ["parts"]
 F_Y:Fn K mg "part_words" y9 t.a_Y t.d_Y ["word","parts"]
 F_Z:Fn K mg "show_deed" z9 t.a_Z t.d_Z ["deed"]
 F_a:Fn K mg "number_in" Aa t.a_a t.d_a ["word","figures"]
 F_b:Fn K mg "day_in" Ab t.a_b t.d_b ["word"]
 F_c:Fn K mg "rule_in" Ac t.a_c t.d_c ["words"]
 F_d:Fn K mg "parts_in" Ad t.a_d t.d_d ["word","words"]
 F_e:Fn K mg "deed_in" Ae t.a_e t.d_e ["row"]
 F_f:Fn K mg "read_deed" Af t.a_f t.d_f ["text"]
 F_g:Fn K mg "_law_mixed" Ag t.a_g t.d_g ["_law_cell"]
 F_h:Fn K mg "_law_pack" Ah t.a_h t.d_h ["_law_script","_law_k"]
 F_i:Fn K mg "_law_take" Ai t.a_i t.d_i ["_law_pack_here","_law_size"]
 F_j:Fn K mg "_law_names" sj t.a_j t.d_j ["_law_pack_here","_law_many"]
 F_k:Fn K mg "_law_rule" Aj t.a_k t.d_k ["_law_pack_here","_law_names_here"]
 F_l:Fn K mg "_law_length" Ak t.a_l t.d_l ["_law_year","_law_month"]
 F_m:Fn K mg "_law_ahead" Al t.a_m t.d_m ["_law_year"]
 F_n:Fn K mg "_law_day_text" Am t.a_n t.d_n ["_law_day"]
 F_o:Fn K mg "_law_any_day" uu t.a_o t.d_o ["_law_pack_here"]
 F_p:Fn K mg "_law_drawn" uw t.a_p t.d_p ["_law_pack_here","_law_names_here"]
 F_q:Fn K mg "_law_written" An t.a_q t.d_q ["_law_deed"]
 F_r:Fn K mg "_law_same" ux t.a_r t.d_r ["_law_found","_law_due"]
 F_s:Fn K mg "_law_only" Ao t.a_s t.d_s ["_law_e"]
 F_t:Fn K mg "_law_figures" uy t.a_t t.d_t ["_law_word","_law_most"]
 F_u:Fn K mg "_law_name" uz t.a_u t.d_u ["_law_word"]
 F_v:Fn K mg "_law_day_in" pS t.a_v t.d_v ["_law_word"]
 F_w:Fn K mg "_law_rule_in" Ap t.a_w t.d_w ["_law_words"]
 F_x:Fn K mg "_law_read" uA t.a_x t.d_x ["_law_text"]
 F_y:Fn K mg "_law_odd" Aq t.a_y t.d_y ["_law_pack_here","_law_names_here"]
 F_z:Fn K mg "_law_spoilt" Ar t.a_z t.d_z ["_law_pack_here","_law_text","_law_names_here"]
 F_AA:Fn K mg "_law_right" As t.a_AA t.d_AA ["_law_thing","_law_due"]
 F_AB:Fn K mg "law" Au t.a_AB t.d_AB ["_law_script"]
 bt_AB:∀(s:UM)(u:UJ),BindsTo s t.d_AB ⟨[u],[]⟩ [("_law_script",u)]
 c_ArchiveError:mg "ArchiveError"=some (.ref t.u_ArchiveError)
 c_LAST_WRITTEN:mg "LAST_WRITTEN"=some t.u_LAST_WRITTEN
 r_LAST_WRITTEN:aD (.int 99999) t.u_LAST_WRITTEN
 c_MONTH_DAYS:mg "MONTH_DAYS"=some t.u_MONTH_DAYS
 e_MONTH_DAYS:∃a,t.u_MONTH_DAYS= .ref a/\∀H,aX K H a [V.int 31,V.int 28,V.int 31,V.int 30,V.int 31,V.int 30,V.int 31,V.int 31,V.int 30,V.int 31,V.int 30,V.int 31]
 c_FIRST_YEAR:mg "FIRST_YEAR"=some t.u_FIRST_YEAR
 r_FIRST_YEAR:aD (.int 2000) t.u_FIRST_YEAR
 c_ROUND_DAYS:mg "ROUND_DAYS"=some t.u_ROUND_DAYS
 r_ROUND_DAYS:aD (.int 146097) t.u_ROUND_DAYS
 c_ROUND_YEARS:mg "ROUND_YEARS"=some t.u_ROUND_YEARS
 r_ROUND_YEARS:aD (.int 400) t.u_ROUND_YEARS
 c_LAST_YEAR:mg "LAST_YEAR"=some t.u_LAST_YEAR
 r_LAST_YEAR:aD (.int 9999) t.u_LAST_YEAR
 c_FIGURES:mg "FIGURES"=some t.u_FIGURES
 r_FIGURES:aD (.str "0123456789") t.u_FIGURES
 c_NoText:mg "NoText"=some (.ref t.u_NoText)
 c_LONGEST_NAME:mg "LONGEST_NAME"=some t.u_LONGEST_NAME
 r_LONGEST_NAME:aD (.int 8) t.u_LONGEST_NAME
 c_LETTERS:mg "LETTERS"=some t.u_LETTERS
 r_LETTERS:aD (.str "abcdefghijklmnopqrstuvwxyz") t.u_LETTERS
 c_MOST_MANY:mg "MOST_MANY"=some t.u_MOST_MANY
 r_MOST_MANY:aD (.int 999) t.u_MOST_MANY
 c_UNITS:mg "UNITS"=some t.u_UNITS
 e_UNITS:∃a,t.u_UNITS= .ref a/\∀H,aX K H a [V.str "days",V.str "months",V.str "years"]
 c_MOST_MAKERS:mg "MOST_MAKERS"=some t.u_MOST_MAKERS
 r_MOST_MAKERS:aD (.int 4) t.u_MOST_MAKERS
 c_MANY_FIGURES:mg "MANY_FIGURES"=some t.u_MANY_FIGURES
 r_MANY_FIGURES:aD (.int 3) t.u_MANY_FIGURES
 c_GoneMaker:mg "GoneMaker"=some (.ref t.u_GoneMaker)
 c_Held:mg "Held"=some (.ref t.u_Held)
 c_MustStay:mg "MustStay"=some (.ref t.u_MustStay)
 c_NoCall:mg "NoCall"=some (.ref t.u_NoCall)
 c_NoDay:mg "NoDay"=some (.ref t.u_NoDay)
 c_NoDeed:mg "NoDeed"=some (.ref t.u_NoDeed)
 c_NoLeave:mg "NoLeave"=some (.ref t.u_NoLeave)
 c_NoNumber:mg "NoNumber"=some (.ref t.u_NoNumber)
 c_NoPaper:mg "NoPaper"=some (.ref t.u_NoPaper)
 c_Twice:mg "Twice"=some (.ref t.u_Twice)
 xm_NoText:L2.MkX K t.u_NoText t.a_A [.type "ValueError",.type "Exception",.type "BaseException",.type "object"] "ValueError.__new__"
 xsa:Pm K (.ref t.u_NoText) "__setattr__"=some (some (.builtin "object.__setattr__"))
 xrow:Pm K (.ref t.u_NoText) "row"=some none
 xsp:QX K (.ref t.u_ArchiveError) "__getattribute__"=some (some (.builtin "type.__getattribute__"))
 xrd:T2 K t.u_ArchiveError (.type "type")=true
 xfc:T3 K (.ref t.u_ArchiveError) (.type "type") "__init__"=some (.val (.builtin "ValueError.__init__"))
 xhd:R5 K t.u_NoText=true
 q_ArchiveError:RF K t.u_ArchiveError [.type "ValueError",.type "Exception",.type "BaseException",.type "object"] "ValueError.__new__"=true
 z1:Pm K (.ref t.u_NoText) "__getattribute__"=some (some (.builtin "BaseException.__getattribute__"))
 z2:Pm K (.ref t.u_NoText) "__getattr__"=some none
 z3:Pm K (.ref t.u_NoText) "__class__"=some (some (.builtin "object.__class__"))
 z4:QX K (.builtin "object.__class__") "__get__"=some (some (.builtin "getset_descriptor.__get__"))
 z5:Sv K (.builtin "object.__class__")=some true
 z6:P2 K t.u_NoText (.type "object")=some true
 z7:P2 K t.u_NoText (.type "BaseException")=some true
 z8:T4 K t.u_NoText=true
 i_NoText_ArchiveError:P2 K t.u_NoText (.ref t.u_ArchiveError)=some true
 kv:QH K (.ref t.u_NoText) (.type "ValueError")=some true
 ka:Q1 K (.ref t.u_NoText) [.ref t.u_GoneMaker,.ref t.u_Held,.ref t.u_MustStay,.ref t.u_NoCall,.ref t.u_NoDay]=some false
 kb:Q1 K (.ref t.u_NoText) [.ref t.u_NoDeed,.ref t.u_NoLeave,.ref t.u_NoNumber,.ref t.u_NoPaper,.ref t.u_Twice]=some false
 i_NoText_NoText:P2 K t.u_NoText (.ref t.u_NoText)=some true
 n_ValueError:mg "ValueError"=none
 n_all:mg "all"=none
 n_bool:mg "bool"=none
 n_divmod:mg "divmod"=none
 n_int:mg "int"=none
 n_isinstance:mg "isinstance"=none
 n_len:mg "len"=none
 n_list:mg "list"=none
 n_max:mg "max"=none
 n_min:mg "min"=none
 n_range:mg "range"=none
 n_set:mg "set"=none
 n_sorted:mg "sorted"=none
 n_str:mg "str"=none
 n_sum:mg "sum"=none
 n_tuple:mg "tuple"=none
 n_zip:mg "zip"=none
theorem Kx:aQ ["self","row"] ["self","row"] (ay xO):= .of
theorem Ky:aQ ["thing"] ["thing"] (ay xP):= .of
theorem Kz:aQ ["thing"] ["thing"] (ay xQ):= .of
theorem KA:aQ ["year"] ["year"] (ay xR):= .of
theorem KC:aQ ["year","month"] ["year","month"] (ay xS):= .of
theorem Dy:aQ ["year","past"] ["year"] (ay xT):= .of
theorem KD:aQ ["year"] ["year"] (ay xU):= .of
theorem Dz:aQ ["day","year"] ["day"] (ay xV):= .of
theorem qF:aQ ["day","year","left","month"] ["day"] (ay xW):= .of
theorem DC:aQ ["year","month","day","before"] ["year","month","day"] (ay uo):= .of
theorem KG:aQ ["year","month","day"] ["year","month","day"] (ay xX):= .of
theorem sk:aQ ["day","parts","year","month","number"] ["day"] (ay xY):= .of
theorem KH:aQ ["text","length"] ["text","length"] (ay uq):= .of
theorem so:aQ ["text","words","year","month","number"] ["text"] (ay xZ):= .of
theorem KI:aQ ["thing","length"] ["thing","length"] (ay x4):= .of
theorem KJ:aQ ["thing"] ["thing"] (ay ur):= .of
theorem KL:aQ ["thing"] ["thing"] (ay x5):= .of
theorem KN:aQ ["many","unit"] ["many","unit"] (ay x6):= .of
theorem DD:aQ ["thing","named"] ["thing"] (ay x8):= .of
theorem KO:aQ ["thing"] ["thing"] (ay si):= .of
theorem KP:aQ ["thing"] ["thing"] (ay x9):= .of
theorem KQ:aQ ["word","parts"] ["word","parts"] (ay y4):= .of
theorem KR:aQ ["thing"] ["thing"] (ay y6):= .of
theorem KS:aQ ["parts"] ["parts"] (ay y8):= .of
theorem KU:aQ ["word","parts"] ["word","parts"] (ay y9):= .of
theorem KW:aQ ["deed"] ["deed"] (ay z9):= .of
theorem KY:aQ ["word","figures"] ["word","figures"] (ay Aa):= .of
theorem KZ:aQ ["word"] ["word"] (ay Ab):= .of
theorem K0:aQ ["words"] ["words"] (ay Ac):= .of
theorem K1:aQ ["word","words"] ["word","words"] (ay Ad):= .of
theorem Av:aQ ["row","words","deed"] ["row"] (ay Ae):= .of
theorem DH:aQ ["text","deed"] ["text"] (ay Af):= .of
theorem K2:aQ ["_law_cell"] ["_law_cell"] (ay Ag):= .of
theorem K3:aQ ["_law_script","_law_k"] ["_law_script","_law_k"] (ay Ah):= .of
theorem DI:aQ ["_law_pack_here","_law_size","_law_digit"] ["_law_pack_here","_law_size"] (ay Ai):= .of
theorem n5:aQ ["_law_pack_here","_law_many","_law_letters","_law_words","_law_turn","_law_size","_law_at","_law_stem","_law_first"] ["_law_pack_here","_law_many"] (ay sj):= .of
theorem n6:aQ ["_law_pack_here","_law_names_here","_law_word","_law_kind","_law_since","_law_way","_law_many"] ["_law_pack_here","_law_names_here"] (ay Aj):= .of
theorem K4:aQ ["_law_year","_law_month"] ["_law_year","_law_month"] (ay Ak):= .of
theorem DJ:aQ ["_law_year","_law_years"] ["_law_year"] (ay Al):= .of
theorem qG:aQ ["_law_day","_law_year","_law_month","_law_number"] ["_law_day"] (ay Am):= .of
theorem sr:aQ ["_law_pack_here","_law_way","_law_year","_law_month","_law_last"] ["_law_pack_here"] (ay uu):= .of
theorem qH:aQ ["_law_pack_here","_law_names_here","_law_word","_law_head","_law_other","_law_some","_law_target"] ["_law_pack_here","_law_names_here"] (ay uw):= .of
theorem qI:aQ ["_law_deed","_law_words"] ["_law_deed"] (ay An):= .of
theorem K5:aQ ["_law_found","_law_due"] ["_law_found","_law_due"] (ay ux):= .of
theorem K6:aQ ["_law_e"] ["_law_e"] (ay Ao):= .of
theorem K7:aQ ["_law_word","_law_most"] ["_law_word","_law_most"] (ay uy):= .of
theorem K8:aQ ["_law_word"] ["_law_word"] (ay uz):= .of
theorem qJ:aQ ["_law_word","_law_parts","_law_year","_law_month","_law_number","_law_day"] ["_law_word"] (ay pS):= .of
theorem Aw:aQ ["_law_words","_law_since","_law_many"] ["_law_words"] (ay Ap):= .of
theorem uB:aQ ["_law_text","_law_words","_law_head","_law_more"] ["_law_text"] (ay uA):= .of
theorem pT:aQ ["_law_pack_here","_law_names_here","_law_some"] ["_law_pack_here","_law_names_here"] (ay Aq):= .of
theorem mP:aQ ["_law_pack_here","_law_text","_law_names_here","_law_signs","_law_way","_law_at","_law_sign","_law_words","_law_more","_law_some","_law_two"] ["_law_pack_here","_law_text","_law_names_here"] (ay Ar):= .of
theorem su:aQ ["_law_thing","_law_due","_law_caught","_law_found","_law_e"] ["_law_thing","_law_due"] (ay As):= .of
theorem ny:aQ ["_law_script","_law_thing","_law_k","_law_pack_here","_law_names_here","_law_text","_law_turn","_law_some","_law_j"] ["_law_script"] (ay Au):= .of
theorem DL{α:Type}{us:List α}(h:us.length=1):∃a,us=[a]:=List.length_eq_one_iff.mp h
theorem DM{α:Type}{us:List α}(h0:us.length=2):∃a b,us=[a,b]:=by
 cases us with
 | nil=>cases h0
 | cons a us=>
  obtain⟨b,z0⟩:=DL (us:=us) (Ul h0);exact⟨a,b,by rw [z0]⟩
theorem K9{α:Type}{us:List α}(h0:us.length=3):∃a b c,us=[a,b,c]:=by
 cases us with
 | nil=>cases h0
 | cons a us=>
  obtain⟨b,c,z0⟩:=DM (us:=us) (Ul h0);exact⟨a,b,c,by rw [z0]⟩
local macro_rules | `(tactic| walk_at "b")=>`(tactic| (intro _ _ _ _ _ _ us hl;first | (cases ls0 (us:=us) hl;rfl) | (obtain⟨a,e⟩:=DL (us:=us) hl;subst e;rfl) | (obtain⟨a,b,e⟩:=DM (us:=us) hl;subst e;rfl) | (obtain⟨a,b,c,e⟩:=K9 (us:=us) hl;subst e;rfl)))
theorem txt_mk{K:NH}{h:UW}{mg:Str->Option UJ}(X:K.In h)(G:h.Ns UU mg)
 {f0 f1 f2 f3 f4 f5 f6 f7 f8 f9 f10 f11 f12 f13 f14 f15 f16 f17 f18 f19 f20 f21 f22 f23 f24 f25 f26 f27 f28 f29 f30 f31 f32 f33 f34 f35 f36 f37 f38 f39 f40 f41 f42 f43 f44 f45 f46 f47 f48 f49 f50 f51 f52 f53:UL}{e0 e1 e2 e3 e4 e5 e6 e7 e8 e9 e10 e11 e12 e13 e14 e15 e16 e17 e18 e19 e20 e21 e22 e23 e24 e25 e26 e27 e28 e29 e30 e31 e32 e33 e34 e35 e36 e37 e38 e39 e40 e41 e42 e43 e44 e45 e46 e47 e48 e49 e50 e51 e52 e53:UT}
 {u_ArchiveError u_NoText u_GoneMaker u_Held u_MustStay u_NoCall u_NoDay u_NoDeed u_NoLeave u_NoNumber u_NoPaper u_Twice:UL}
 {u_LAST_WRITTEN u_FIRST_YEAR u_ROUND_DAYS u_ROUND_YEARS u_LAST_YEAR u_FIGURES u_LONGEST_NAME u_LETTERS u_MOST_MANY u_MOST_MAKERS u_MANY_FIGURES:UJ}
 {A_MONTH_DAYS:UL}{dd_MONTH_DAYS:Option UL}{its_MONTH_DAYS:Array UJ}{n_MONTH_DAYS:Nat}{sl_MONTH_DAYS:Array (Option UJ)}
 {A_UNITS:UL}{dd_UNITS:Option UL}{its_UNITS:Array UJ}{n_UNITS:Nat}{sl_UNITS:Array (Option UJ)}
 (a0:DmT K u_NoText "__init__" "NoText.__init__" xO f0 e0)
 (a1:DfT K "is_whole" xP f1 e1)
 (a2:DfT K "is_day" xQ f2 e2)
 (a3:DfT K "is_leap" xR f3 e3)
 (a4:DfT K "month_length" xS f4 e4)
 (a5:DfT K "leaps_before" xT f5 e5)
 (a6:DfT K "year_start" xU f6 e6)
 (a7:DfT K "year_of" xV f7 e7)
 (a8:DfT K "parts_of" xW f8 e8)
 (a9:DfT K "number_of" uo f9 e9)
 (a10:DfT K "is_date" xX f10 e10)
 (a11:DfT K "show_day" xY f11 e11)
 (a12:DfT K "is_figures" uq f12 e12)
 (a13:DfT K "read_day" xZ f13 e13)
 (a14:DfT K "is_tuple_of" x4 f14 e14)
 (a15:DfT K "is_name" ur f15 e15)
 (a16:DfT K "is_since" x5 f16 e16)
 (a17:DfT K "is_span" x6 f17 e17)
 (a18:DfT K "is_rule" x8 f18 e18)
 (a19:DfT K "is_makers" si f19 e19)
 (a20:DfT K "is_target" x9 f20 e20)
 (a21:DfT K "are_parts" y4 f21 e21)
 (a22:DfT K "is_deed" y6 f22 e22)
 (a23:DfT K "rule_words" y8 f23 e23)
 (a24:DfT K "part_words" y9 f24 e24)
 (a25:DfT K "show_deed" z9 f25 e25)
 (a26:DfT K "number_in" Aa f26 e26)
 (a27:DfT K "day_in" Ab f27 e27)
 (a28:DfT K "rule_in" Ac f28 e28)
 (a29:DfT K "parts_in" Ad f29 e29)
 (a30:DfT K "deed_in" Ae f30 e30)
 (a31:DfT K "read_deed" Af f31 e31)
 (a32:DfT K "_law_mixed" Ag f32 e32)
 (a33:DfT K "_law_pack" Ah f33 e33)
 (a34:DfT K "_law_take" Ai f34 e34)
 (a35:DfT K "_law_names" sj f35 e35)
 (a36:DfT K "_law_rule" Aj f36 e36)
 (a37:DfT K "_law_length" Ak f37 e37)
 (a38:DfT K "_law_ahead" Al f38 e38)
 (a39:DfT K "_law_day_text" Am f39 e39)
 (a40:DfT K "_law_any_day" uu f40 e40)
 (a41:DfT K "_law_drawn" uw f41 e41)
 (a42:DfT K "_law_written" An f42 e42)
 (a43:DfT K "_law_same" ux f43 e43)
 (a44:DfT K "_law_only" Ao f44 e44)
 (a45:DfT K "_law_figures" uy f45 e45)
 (a46:DfT K "_law_name" uz f46 e46)
 (a47:DfT K "_law_day_in" pS f47 e47)
 (a48:DfT K "_law_rule_in" Ap f48 e48)
 (a49:DfT K "_law_read" uA f49 e49)
 (a50:DfT K "_law_odd" Aq f50 e50)
 (a51:DfT K "_law_spoilt" Ar f51 e51)
 (a52:DfT K "_law_right" As f52 e52)
 (a53:DfT K "law" Au f53 e53)
 (x_ArchiveError:Oh K UU "ArchiveError"=some (some (.ref u_ArchiveError)))
 (x_LAST_WRITTEN:Oh K UU "LAST_WRITTEN"=some (some u_LAST_WRITTEN))(r_LAST_WRITTEN:aD (.int 99999) u_LAST_WRITTEN)
 (x_MONTH_DAYS:Oh K UU "MONTH_DAYS"=some (some (.ref A_MONTH_DAYS)))(y_MONTH_DAYS:K.lookup A_MONTH_DAYS=some ⟨.type "tuple",dd_MONTH_DAYS,.seq its_MONTH_DAYS n_MONTH_DAYS,sl_MONTH_DAYS⟩)(z_MONTH_DAYS:aG [V.int 31,V.int 28,V.int 31,V.int 30,V.int 31,V.int 30,V.int 31,V.int 31,V.int 30,V.int 31,V.int 30,V.int 31] its_MONTH_DAYS.toList)(w_MONTH_DAYS:its_MONTH_DAYS.size<=UR)
 (x_FIRST_YEAR:Oh K UU "FIRST_YEAR"=some (some u_FIRST_YEAR))(r_FIRST_YEAR:aD (.int 2000) u_FIRST_YEAR)
 (x_ROUND_DAYS:Oh K UU "ROUND_DAYS"=some (some u_ROUND_DAYS))(r_ROUND_DAYS:aD (.int 146097) u_ROUND_DAYS)
 (x_ROUND_YEARS:Oh K UU "ROUND_YEARS"=some (some u_ROUND_YEARS))(r_ROUND_YEARS:aD (.int 400) u_ROUND_YEARS)
 (x_LAST_YEAR:Oh K UU "LAST_YEAR"=some (some u_LAST_YEAR))(r_LAST_YEAR:aD (.int 9999) u_LAST_YEAR)
 (x_FIGURES:Oh K UU "FIGURES"=some (some u_FIGURES))(r_FIGURES:aD (.str "0123456789") u_FIGURES)
 (x_NoText:Oh K UU "NoText"=some (some (.ref u_NoText)))
 (x_LONGEST_NAME:Oh K UU "LONGEST_NAME"=some (some u_LONGEST_NAME))(r_LONGEST_NAME:aD (.int 8) u_LONGEST_NAME)
 (x_LETTERS:Oh K UU "LETTERS"=some (some u_LETTERS))(r_LETTERS:aD (.str "abcdefghijklmnopqrstuvwxyz") u_LETTERS)
 (x_MOST_MANY:Oh K UU "MOST_MANY"=some (some u_MOST_MANY))(r_MOST_MANY:aD (.int 999) u_MOST_MANY)
 (x_UNITS:Oh K UU "UNITS"=some (some (.ref A_UNITS)))(y_UNITS:K.lookup A_UNITS=some ⟨.type "tuple",dd_UNITS,.seq its_UNITS n_UNITS,sl_UNITS⟩)(z_UNITS:aG [V.str "days",V.str "months",V.str "years"] its_UNITS.toList)(w_UNITS:its_UNITS.size<=UR)
 (x_MOST_MAKERS:Oh K UU "MOST_MAKERS"=some (some u_MOST_MAKERS))(r_MOST_MAKERS:aD (.int 4) u_MOST_MAKERS)
 (x_MANY_FIGURES:Oh K UU "MANY_FIGURES"=some (some u_MANY_FIGURES))(r_MANY_FIGURES:aD (.int 3) u_MANY_FIGURES)
 (x_GoneMaker:Oh K UU "GoneMaker"=some (some (.ref u_GoneMaker)))
 (x_Held:Oh K UU "Held"=some (some (.ref u_Held)))
 (x_MustStay:Oh K UU "MustStay"=some (some (.ref u_MustStay)))
 (x_NoCall:Oh K UU "NoCall"=some (some (.ref u_NoCall)))
 (x_NoDay:Oh K UU "NoDay"=some (some (.ref u_NoDay)))
 (x_NoDeed:Oh K UU "NoDeed"=some (some (.ref u_NoDeed)))
 (x_NoLeave:Oh K UU "NoLeave"=some (some (.ref u_NoLeave)))
 (x_NoNumber:Oh K UU "NoNumber"=some (some (.ref u_NoNumber)))
 (x_NoPaper:Oh K UU "NoPaper"=some (some (.ref u_NoPaper)))
 (x_Twice:Oh K UU "Twice"=some (some (.ref u_Twice)))
 (f_xm_NoText:L2.MkX K u_NoText f0 [.type "ValueError",.type "Exception",.type "BaseException",.type "object"] "ValueError.__new__")
 (f_xsa:Pm K (.ref u_NoText) "__setattr__"=some (some (.builtin "object.__setattr__")))
 (f_xrow:Pm K (.ref u_NoText) "row"=some none)
 (f_xsp:QX K (.ref u_ArchiveError) "__getattribute__"=some (some (.builtin "type.__getattribute__")))
 (f_xrd:T2 K u_ArchiveError (.type "type")=true)
 (f_xfc:T3 K (.ref u_ArchiveError) (.type "type") "__init__"=some (.val (.builtin "ValueError.__init__")))
 (f_xhd:R5 K u_NoText=true)
 (f_q_ArchiveError:RF K u_ArchiveError [.type "ValueError",.type "Exception",.type "BaseException",.type "object"] "ValueError.__new__"=true)
 (f_z1:Pm K (.ref u_NoText) "__getattribute__"=some (some (.builtin "BaseException.__getattribute__")))
 (f_z2:Pm K (.ref u_NoText) "__getattr__"=some none)
 (f_z3:Pm K (.ref u_NoText) "__class__"=some (some (.builtin "object.__class__")))
 (f_z4:QX K (.builtin "object.__class__") "__get__"=some (some (.builtin "getset_descriptor.__get__")))
 (f_z5:Sv K (.builtin "object.__class__")=some true)
 (f_z6:P2 K u_NoText (.type "object")=some true)
 (f_z7:P2 K u_NoText (.type "BaseException")=some true)
 (f_z8:T4 K u_NoText=true)
 (f_i_NoText_ArchiveError:P2 K u_NoText (.ref u_ArchiveError)=some true)
 (f_kv:QH K (.ref u_NoText) (.type "ValueError")=some true)
 (f_ka:Q1 K (.ref u_NoText) [.ref u_GoneMaker,.ref u_Held,.ref u_MustStay,.ref u_NoCall,.ref u_NoDay]=some false)
 (f_kb:Q1 K (.ref u_NoText) [.ref u_NoDeed,.ref u_NoLeave,.ref u_NoNumber,.ref u_NoPaper,.ref u_Twice]=some false)
 (f_i_NoText_NoText:P2 K u_NoText (.ref u_NoText)=some true)
 (n_ValueError:Oh K UU "ValueError"=some none)
 (n_all:Oh K UU "all"=some none)
 (n_bool:Oh K UU "bool"=some none)
 (n_divmod:Oh K UU "divmod"=some none)
 (n_int:Oh K UU "int"=some none)
 (n_isinstance:Oh K UU "isinstance"=some none)
 (n_len:Oh K UU "len"=some none)
 (n_list:Oh K UU "list"=some none)
 (n_max:Oh K UU "max"=some none)
 (n_min:Oh K UU "min"=some none)
 (n_range:Oh K UU "range"=some none)
 (n_set:Oh K UU "set"=some none)
 (n_sorted:Oh K UU "sorted"=some none)
 (n_str:Oh K UU "str"=some none)
 (n_sum:Oh K UU "sum"=some none)
 (n_tuple:Oh K UU "tuple"=some none)
 (n_zip:Oh K UU "zip"=some none):∃t:k9,Txt K mg t:=by
 refine⟨⟨f0,e0,f1,e1,f2,e2,f3,e3,f4,e4,f5,e5,f6,e6,f7,e7,f8,e8,f9,e9,f10,e10,f11,e11,f12,e12,f13,e13,f14,e14,f15,e15,f16,e16,f17,e17,f18,e18,f19,e19,f20,e20,f21,e21,f22,e22,f23,e23,f24,e24,f25,e25,f26,e26,f27,e27,f28,e28,f29,e29,f30,e30,f31,e31,f32,e32,f33,e33,f34,e34,f35,e35,f36,e36,f37,e37,f38,e38,f39,e39,f40,e40,f41,e41,f42,e42,f43,e43,f44,e44,f45,e45,f46,e46,f47,e47,f48,e48,f49,e49,f50,e50,f51,e51,f52,e52,f53,e53,u_ArchiveError,u_LAST_WRITTEN,.ref A_MONTH_DAYS,u_FIRST_YEAR,u_ROUND_DAYS,u_ROUND_YEARS,u_LAST_YEAR,u_FIGURES,u_NoText,u_LONGEST_NAME,u_LETTERS,u_MOST_MANY,.ref A_UNITS,u_MOST_MAKERS,u_MANY_FIGURES,u_GoneMaker,u_Held,u_MustStay,u_NoCall,u_NoDay,u_NoDeed,u_NoLeave,u_NoNumber,u_NoPaper,u_Twice⟩,?_⟩;have bl:∀(s:UM)(u:UJ),BindsTo s e53 ⟨[u],[]⟩ [("_law_script",u)]:=λs v=>by
  obtain⟨oc,od,kV,doc,pm,an,cdv,ct,osl,rfl,_⟩:=a53.F.ex;exact .of_eq rfl
 exact⟨a0.fn,a1.fn X G,a2.fn X G,a3.fn X G,a4.fn X G,a5.fn X G,a6.fn X G,a7.fn X G,a8.fn X G,a9.fn X G,a10.fn X G,a11.fn X G,a12.fn X G,a13.fn X G,a14.fn X G,a15.fn X G,a16.fn X G,a17.fn X G,a18.fn X G,a19.fn X G,a20.fn X G,a21.fn X G,a22.fn X G,a23.fn X G,a24.fn X G,a25.fn X G,a26.fn X G,a27.fn X G,a28.fn X G,a29.fn X G,a30.fn X G,a31.fn X G,a32.fn X G,a33.fn X G,a34.fn X G,a35.fn X G,a36.fn X G,a37.fn X G,a38.fn X G,a39.fn X G,a40.fn X G,a41.fn X G,a42.fn X G,a43.fn X G,a44.fn X G,a45.fn X G,a46.fn X G,a47.fn X G,a48.fn X G,a49.fn X G,a50.fn X G,a51.fn X G,a52.fn X G,a53.fn X G,bl,O4 X G x_ArchiveError,O4 X G x_LAST_WRITTEN,r_LAST_WRITTEN,O4 X G x_MONTH_DAYS,⟨A_MONTH_DAYS,rfl,λH=>.inr ⟨_,_,_,y_MONTH_DAYS,rfl,rfl,w_MONTH_DAYS,z_MONTH_DAYS⟩⟩,O4 X G x_FIRST_YEAR,r_FIRST_YEAR,O4 X G x_ROUND_DAYS,r_ROUND_DAYS,O4 X G x_ROUND_YEARS,r_ROUND_YEARS,O4 X G x_LAST_YEAR,r_LAST_YEAR,O4 X G x_FIGURES,r_FIGURES,O4 X G x_NoText,O4 X G x_LONGEST_NAME,r_LONGEST_NAME,O4 X G x_LETTERS,r_LETTERS,O4 X G x_MOST_MANY,r_MOST_MANY,O4 X G x_UNITS,⟨A_UNITS,rfl,λH=>.inr ⟨_,_,_,y_UNITS,rfl,rfl,w_UNITS,z_UNITS⟩⟩,O4 X G x_MOST_MAKERS,r_MOST_MAKERS,O4 X G x_MANY_FIGURES,r_MANY_FIGURES,O4 X G x_GoneMaker,O4 X G x_Held,O4 X G x_MustStay,O4 X G x_NoCall,O4 X G x_NoDay,O4 X G x_NoDeed,O4 X G x_NoLeave,O4 X G x_NoNumber,O4 X G x_NoPaper,O4 X G x_Twice,f_xm_NoText,f_xsa,f_xrow,f_xsp,f_xrd,f_xfc,f_xhd,f_q_ArchiveError,f_z1,f_z2,f_z3,f_z4,f_z5,f_z6,f_z7,f_z8,f_i_NoText_ArchiveError,f_kv,f_ka,f_kb,f_i_NoText_NoText,Pa X G n_ValueError,Pa X G n_all,Pa X G n_bool,Pa X G n_divmod,Pa X G n_int,Pa X G n_isinstance,Pa X G n_len,Pa X G n_list,Pa X G n_max,Pa X G n_min,Pa X G n_range,Pa X G n_set,Pa X G n_sorted,Pa X G n_str,Pa X G n_sum,Pa X G n_tuple,Pa X G n_zip⟩
local macro_rules | `(tactic| walk_at "o")=>`(tactic| first | exact Sg rfl | exact RA rfl)
theorem UG{p:Prop}(h:p:=by walk_at "o"):p:=h
local macro_rules | `(tactic| walk_at "a") =>do let a <- rzT "bQ NN Of NJ N8 OE OF NP N6 N9"; let b <- rzT rzS; `(tactic| ((try $a:tactic); $b:tactic))
section
variable {P:UX} {w:UZ} {K:NH} {mg:Str->Option UJ} {base:UW} {t:k9}
theorem DN(T:Txt K mg t):aC P w K mg base CX0 1 t.a_A t.d_A ["self","row"] (xN t.u_NoText "row"):=by
 refine T.F_A.F.okNX Kx rfl rfl (λcdv A outer s H E hr=>?_);refine kF (Kl (C:=t.u_NoText) T.c_ArchiveError rfl T.xsp T.xrd T.xfc rfl P4 T.xm_NoText.seen (aN (oV (i:=0) rfl ?a) (aN (Ks ?b (oV (i:=1) rfl ?c)) bF))) (kh (Km (C:=t.u_NoText) (oV (i:=0) rfl ?d) (oV (i:=1) rfl ?e) PySem.F.store_ValueError T.xm_NoText.seen T.xsa T.xrow))
 case b=>decide+kernel
 all_goals (first | exact Sg rfl | exact RA rfl)
end
local macro_rules | `(tactic| walk_at "c") =>rzT "sH ve vh vg vf sJ nK nJ tC oX vw rI mn rU vy vz JQ JR JS JT JU sR tB uV uW uX va vb vc vd rB rA sV rC vE vF rg p7 qZ vm vn BE BF BG BH BI BJ BK BL bV cn bW L2.start NN Of NJ N8 NP N6 N9 NY OE OF ON OO OP NU NR N4 N5 Oa exists_eq_left' exists_eq_left exists_and_left exists_and_right V.int.injEq V.bl.injEq V.str.injEq V.ref.injEq NQ and_true true_and OQ exists_const decide_eq_true_eq OR OS OH OI N1 decide_eq_false_iff_not and_assoc bC Oi Oc Oj L2.cxK L2.cmK or_true true_or"
open Day
theorem DP:fw (ay uo) ["year","month","day","before"] ["other","year"] 1 [0] ⟨OL,[ (NM ".0",Ww),(NM "other",Ww),(NM "month_length",OV),(NM "year",Pt)],false,false,[]⟩:= .of
section
variable {P:UX} {w:UZ} {K:NH} {mg:Str->Option UJ} {base:UW} {t:k9}
def DQ:Sp:=λvs H Q _=>∃(y:Int),vs=[.int y]/\Q (.bl (mO y)) H
theorem La(T:Txt K mg t):aC P w K mg base CX0 1 t.a_D t.d_D ["year"] DQ:=by
 refine T.F_D.F.ok KA (λvs H Q E h=>?_) (λcdv A outer s H vs Q E hr h=>?_)
 ·obtain⟨y,rfl,_⟩:=h;rfl
 ·obtain⟨y,rfl,k⟩:=h;refine⟨_,(kh (kG (Fx (oZ sO (bN nN (pv 0) cm) cm (aB _)) (qW (qX (oZ sO (bN nN (pv 0) cm) cm (aB _)) (qW (oZ FQ (bN nN (pv 0) cm) cm (aB _)))))))),?_⟩;walk_at "c";have e:mO y=(decide (y % 400=0) || (decide (y % 4=0) && !decide (y % 100=0))):=rfl;rw [e] at k;by_cases h1:y % 400=0
  ·simpa [h1] using k
  ·by_cases h2:y % 4=0
   ·simpa [h1,h2] using k
   ·simpa [h1,h2] using k
def DR:Sp:=λvs H Q _=>∃(y m:Int),vs=[.int y,.int m]/\1<=m/\m<=12/\Q (.int (aW y m)) H
theorem Ax(T:Txt K mg t):aC P w K mg base CX0 2 t.a_E t.d_E ["year","month"] DR:=by
 have G_D:=@La P w _ _ base _ T;refine T.F_E.F.ok KC (λvs H Q E h=>?_) (λcdv A outer s H vs Q E hr h=>?_)
 ·obtain⟨y,m,rfl,_⟩:=h;rfl
 ·obtain⟨y,m,rfl,h1,h2,k⟩:=h;obtain⟨a,ea,hM⟩:=T.e_MONTH_DAYS;have T_r:aD (.ref a) t.u_MONTH_DAYS:=ea;refine⟨_,(kF (oo (PW.pt (A2 (o9 sO (pv 1) cm (aB _)) (A0 (p6 (lu G_D (hr.mono Ce) rfl T.F_D (aN (pv 0) bF)))))) (kh (kG cm)) om)
   (kh (kG (sX aO (jX rfl T.c_MONTH_DAYS T_r) (bN kO (pv 1) cm) (λ_ _=>rfl))))),?_⟩
  walk_at "c";simp only [DQ];walk_at "c";have fin:∀{v:Int},v=aW y m->Q (.int v) H:=λe=>by rw [e];exact k
  have tail:aW y m=wQ.getD (m - 1).toNat 0->vL K (.ref a) (.int (m - 1)) H Q:=λe=>by
   refine⟨a,_,m - 1,.int (aW y m),rfl,rfl,hM H,?_,k⟩;rw [e];rcases wV h1 h2 with z | z | z | z | z | z | z | z | z | z | z | z <;> subst z <;> rfl
  by_cases hm:m=2
  ·rw [UE hm];by_cases hl:mO y=true
   ·rw [UE hl];exact fin (by unfold aW;rw [UE ⟨hm,hl⟩])
   ·rw [UD hl];exact tail (by unfold aW;rw [UD (λz=>hl z.2)])
  ·rw [UD hm];exact tail (C7 hm)
def DU:Sp:=λvs H Q _=>∃(y:Int),vs=[.int y]/\Q (.int (lb y)) H
theorem Lb(T:Txt K mg t):aC P w K mg base CX0 1 t.a_F t.d_F ["year"] DU:=by
 refine T.F_F.F.ok Dy (λvs H Q E h=>?_) (λcdv A outer s H vs Q E hr h=>?_)
 ·obtain⟨y,rfl,_⟩:=h;rfl
 ·obtain⟨y,rfl,k⟩:=h;refine⟨_,(kF (l7 (i:=1) Dy.nd rfl UG (bN kO (pv 0) cm))
   (kh (kG (bN bO (bN kO (bN nM (pv 1) cm) (bN nM (pv 1) cm)) (bN nM (pv 1) cm))))),?_⟩
  walk_at "c";exact k
def uC:Sp:=λvs H Q _=>∃(y:Int),vs=[.int y]/\Q (.int (bb y)) H
theorem Ay(T:Txt K mg t):aC P w K mg base CX0 2 t.a_G t.d_G ["year"] uC:=by
 have G_F:=@Lb P w _ _ base _ T;refine T.F_G.F.ok KD (λvs H Q E h=>?_) (λcdv A outer s H vs Q E hr h=>?_)
 ·obtain⟨y,rfl,_⟩:=h;rfl
 ·obtain⟨y,rfl,k⟩:=h;refine⟨_,(kh (kG (bN kO (bN bO (bN qc cm (bN kO (pv 0) (jX rfl T.c_FIRST_YEAR T.r_FIRST_YEAR))) (lu G_F (hr.mono Ce) rfl T.F_F (aN (pv 0) bF))) (lu G_F (hr.mono Ce) rfl T.F_F (aN (jX rfl T.c_FIRST_YEAR T.r_FIRST_YEAR) bF))))),?_⟩;walk_at "c";simp only [DU];walk_at "c";exact k
def DV:Sp:=λvs H Q _=>∃(d:Int),vs=[.int d]/\Q (.int (pP d)) H
theorem Lc(T:Txt K mg t):aC P w K mg base CX0 3 t.a_H t.d_H ["day"] DV:=by
 have G_G:=@Ay P w _ _ base _ T;refine T.F_H.F.ok Dz (λvs H Q E h=>?_) (λcdv A outer s H vs Q E hr h=>?_)
 ·obtain⟨d,rfl,_⟩:=h;rfl
 ·obtain⟨d,rfl,k⟩:=h;refine⟨_,(kF (l7 (i:=1) Dz.nd rfl UG (bN bO (jX rfl T.c_FIRST_YEAR T.r_FIRST_YEAR) (bN nM (bN qc (pv 0) (jX rfl T.c_ROUND_YEARS T.r_ROUND_YEARS)) (jX rfl T.c_ROUND_DAYS T.r_ROUND_DAYS))))
   (kF (oo (o9 oY (lu G_G (hr.mono Ce) rfl T.F_G (aN (pv 1) bF)) (pv 0) (aB _)) (kh (kG (bN kO (pv 1) cm))) om)
   (kF (oo (o9 jY (lu G_G (hr.mono Ce) rfl T.F_G (aN (bN bO (pv 1) cm) bF)) (pv 0) (aB _)) (kh (kG (bN bO (pv 1) cm))) om)
   (kh (kG (pv 1)))))),?_⟩
  walk_at "c";simp only [uC];walk_at "c";unfold pP at k;split
  ·rename_i h;rw [UE h] at k;exact k
  ·rename_i h;rw [UD h] at k;split
   ·rename_i h;rw [UE h] at k;exact k
   ·rename_i h;rw [UD h] at k;exact k
def Ld:Sp:=λvs H Q _=>∃(d:Int),vs=[.int d]/\∀(p:UL)(H':Hp)(y m n:Int),k8 d y m n->ao H H'->H p=none->H' p=some (.tup [.int y,.int m,.int n])->Q (.ref p) H'
theorem Le(T:Txt K mg t):aC P w K mg base CX0 4 t.a_I t.d_I ["day"] Ld:=by
 have G_H:=@Lc P w _ _ base _ T;have G_G:=@Ay P w _ _ base _ T;have G_E:=@Ax P w _ _ base _ T;refine T.F_I.F.ok qF (λvs H Q E h=>?_) (λcdv A outer s H vs Q E hr h=>?_)
 ·obtain⟨d,rfl,_⟩:=h;rfl
 ·obtain⟨d,rfl,k⟩:=h;refine⟨_,(kF (l7 (i:=1) qF.nd rfl UG (lu G_H (hr.mono Ce) rfl T.F_H (aN (pv 0) bF)))
   (kF (l7 (i:=2) qF.nd rfl UG (bN kO (pv 0) (lu G_G (hr.mono Ce) rfl T.F_G (aN (pv 1) bF))))
   (kF (l7 (i:=3) qF.nd rfl UG cm)
   (kF (A6 QA (o9 FT (pv 2) (lu G_E (hr.mono Ce) rfl T.F_E (aN (pv 1) (aN (pv 3) bF))) (aB _)) (kF (l7 (i:=2) qF.nd rfl UG (bN kO (pv 2) (lu G_E (hr.mono Ce) rfl T.F_E (aN (pv 1) (aN (pv 3) bF)))))
   (kh (l7 (i:=3) qF.nd rfl UG (bN bO (pv 3) cm)))))
   (kh (kG (sW (aN (pv 1) (aN (pv 3) (aN (bN bO (pv 2) cm) bF)))))))))),?_⟩
  walk_at "c";simp only [DV];walk_at "c";simp only [uC];walk_at "c";have yo:=Dc d;generalize pP d=y at*;refine⟨λm σ H'=>H'=H/\∃mo:Int,1<=mo/\mo<=12/\aH y mo<=d - bb y/\m=(12 - mo).toNat/\σ=[some (.int d),some (.int y),some (.int (d - bb y - aH y mo)),some (.int mo)],⟨11,rfl,1,Ce,Ce,?_,rfl,?_⟩,?_⟩
  ·rw [qz];omega
  ·rw [qz];simp
  ·rintro m σ H' ⟨rfl,mo,h1,h2,hb,rfl,rfl⟩;walk_at "c";simp only [DR];walk_at "c";refine⟨h1,h2,?_⟩;have ys:=tX y;have ba:=t4 (y:=y) h1 h2;split
   ·rename_i hge;have lt12:mo < 12:=by
     by_cases z:mo < 12
     ·exact z
     ·have e:mo=12:=UC
      subst e;have:=(se y);have:=tZ y;omega
    refine⟨_,λ_ _ h=>h,h1,h2,(12 - (mo+1)).toNat,UC,rfl,mo+1,UC,UC,?_,rfl,?_⟩
    ·rw [kU h1];omega
    ·rw [kU h1,show d - bb y - (aH y mo+aW y mo)=d - bb y - aH y mo - aW y mo by omega]
   ·rename_i hlt;refine⟨by show 3<=UR;decide,λp hp=>?_⟩;refine k p _ y mo (d - bb y - aH y mo+1) ⟨h1,h2,UC,UC,by unfold lE;omega⟩ (ao.new hp) hp bh
def Lf:Sp:=λvs H Q _=>∃(y m n:Int),vs=[.int y,.int m,.int n]/\1<=m/\m<=12/\∀H',ao H H'->Q (.int (lE y m n)) H'
theorem Lg(T:Txt K mg t):aC P w K mg base CX0 3 t.a_J t.d_J ["year","month","day"] Lf:=by
 have G_G:=@Ay P w _ _ base _ T;have G_E:=@Ax P w _ _ base _ T;refine T.F_J.F.ok DC (λvs H Q E h=>?_) (λcdv A outer s H vs Q E hr h=>?_)
 ·obtain⟨y,m,n,rfl,_⟩:=h;rfl
 ·obtain⟨y,m,n,rfl,h1,h2,k⟩:=h;refine⟨_,(kF (l7 (i:=3) DC.nd rfl UG (aT (vU rfl) rfl T.n_sum RJ (aN (pj rfl DP (Bb rfl T.n_range (aN cm (aN (pv 1) bF))) (λ_ _ _ _=>(jU (i:=0) DP.nd rfl UG)) (λ_ _ _ _=>BD) (λ_ _ _ _=>(lu G_E (hr.mono Ce) rfl T.F_E (aN (pv 1) (aN (pv 0) bF))))) bF)))
   (kh (kG (bN kO (bN bO (bN bO (lu G_G (hr.mono Ce) rfl T.F_G (aN (pv 0) bF)) (pv 3)) (pv 2)) cm)))),?_⟩
  walk_at "c";refine⟨UC,UC,?_⟩;refine G0 (λi=>.int (aW y (1+(i:Int)))) UC (λi H' R hi s1 hR=>?_) (λD H' hD s1 e1=>?_)
  ·walk_at "c";exact⟨_,_,rfl,UC,UC,hR H' (ao.refl _)⟩
  ·refine⟨D,rfl,(PH (m - 1).toNat).map λ(i:Nat)=>aW y (1+(i:Int)),bj.of (by rw [e1,Pu];rfl),?_⟩;simp only [uC];walk_at "c";exact k H' s1
def DX:List UI->(UI->Prop)->Prop:=λds Q=>∃y m:Int,ds=[.int y,.int m]/\1<=m/\m<=12/\Q (.int (aW y m))
theorem Lh(T:Txt K mg t):aC P w K mg base CX0 2 t.a_E t.d_E ["year","month"] (bf K DX):=
 (Ax T).imp λvs H Q E uu41=>by
  obtain⟨O,ds,Qd,tr,hs,⟨y,m,e,h1,h2,q⟩,k⟩:=uu41;subst e;cases hs with
  | cons a r=>cases r with
   | cons b r=>cases r;cases a;cases b;exact⟨y,m,rfl,h1,h2,k _ _ H q (ao.refl _) (.int _)⟩
def DY:List UI->(UI->Prop)->Prop:=λds Q=>∃d:Int,ds=[.int d]/\∀y m n,k8 d y m n->Q (.tuple [.int y,.int m,.int n])
theorem Li(T:Txt K mg t):aC P w K mg base CX0 4 t.a_I t.d_I ["day"] (bf K DY):=
 (Le T).imp λvs H Q E uu42=>by
  obtain⟨O,ds,Qd,tr,hs,⟨d,e,q⟩,k⟩:=uu42;subst e;cases hs with
  | cons a r=>cases r;cases a;exact⟨d,rfl,λp H' y m n D s1 hp e1=>k _ _ H' (q y m n D) s1 (.tup (.inl e1) (λz=>tr p z hp) (.cons (.int _) (.cons (.int _) (.cons (.int _) .nil))))⟩
def DZ:List UI->(UI->Prop)->Prop:=λds Q=>∃y m n:Int,ds=[.int y,.int m,.int n]/\1<=m/\m<=12/\Q (.int (lE y m n))
theorem Lj(T:Txt K mg t):aC P w K mg base CX0 3 t.a_J t.d_J ["year","month","day"] (bf K DZ):=
 (Lg T).imp λvs H Q E uu43=>by
  obtain⟨O,ds,Qd,tr,hs,⟨y,m,n,e,h1,h2,q⟩,k⟩:=uu43;subst e;cases hs with
  | cons a r=>cases r with
   | cons b r=>cases r with
    | cons c r=>cases r;cases a;cases b;cases c;exact⟨y,m,n,rfl,h1,h2,λH' s1=>k _ _ H' q s1 (.int _)⟩
end
theorem D1:fw (ay uq) ["text","length"] ["sign"] 1 [] ⟨OL,[ (NM ".0",Ww),(NM "sign",Ww),(NM "FIGURES",OV)],false,false,[]⟩:= .of
section
variable {P:UX} {w:UZ} {K:NH} {mg:Str->Option UJ} {base:UW} {t:k9}
theorem Lk{y m:Int}{Q:UI->Prop}:DX [.int y,.int m] Q↔1<=m/\m<=12/\Q (.int (aW y m)):=⟨λuu44=>by obtain⟨_,_,e,h⟩:=uu44;cases e;exact h,λh=>⟨_,_,rfl,h⟩⟩
theorem Ll{d:Int}{Q:UI->Prop}:DY [.int d] Q↔∀y m n,k8 d y m n->Q (.tuple [.int y,.int m,.int n]):=⟨λuu45=>by obtain⟨_,e,h⟩:=uu45;cases e;exact h,λh=>⟨_,rfl,h⟩⟩
theorem Lm{y m n:Int}{Q:UI->Prop}:DZ [.int y,.int m,.int n] Q↔1<=m/\m<=12/\Q (.int (lE y m n)):=⟨λuu46=>by obtain⟨_,_,_,e,h⟩:=uu46;cases e;exact h,λh=>⟨_,_,_,rfl,h⟩⟩
def D3:List UI->(UI->Prop)->Prop:=λds Q=>∃d,ds=[d]/\bp d=true/\Q (.bool (qt d))
theorem Az(T:Txt K mg t):aC P w K mg base CX0 1 t.a_B t.d_B ["thing"] (bf K D3):=by
 refine T.F_B.F.okD Ky (λds Q h=>?_) (λ_ _ _ _ H O ds Q E hr h=>?_)
 ·obtain⟨d,rfl,_⟩:=h;rfl
 ·obtain⟨d,rfl,hd,q⟩:=h;refine⟨_,(ar (aA (ky (mh (K':=K) (T:="int") rfl rfl T.n_isinstance kZ (df (dv 0)) (lI (v:= .ty "int") rfl T.n_int mH rfl)) (lj (Hr (mh (K':=K) (T:="bool") rfl rfl T.n_isinstance kZ (df (dv 0)) (lI (v:= .ty "bool") rfl T.n_bool rG rfl))))))),?_⟩;walk_at "a";simp only [Ip,wA];walk_at "a";refine⟨qr hd,?_⟩;cases d <;> simp [Cp,rS,qt] at q⊢<;> exact q
theorem Ln{i:Int}{Q:UI->Prop}:D3 [.int i] Q↔Q (.bool true):=⟨λuu47=>by obtain⟨_,e,_,h⟩:=uu47;cases e;exact h,λh=>⟨_,rfl,rfl,h⟩⟩
def D4:List UI->(UI->Prop)->Prop:=λds Q=>∃d,ds=[d]/\bp d=true/\Q (.bool (my d))
theorem D5(T:Txt K mg t):aC P w K mg base CX0 2 t.a_C t.d_C ["thing"] (bf K D4):=by
 have G_B:=@Az P w _ _ base _ T;refine T.F_C.F.okD Kz (λds Q h=>?_) (λ_ _ _ _ H O ds Q E hr h=>?_)
 ·obtain⟨d,rfl,_⟩:=h;rfl
 ·obtain⟨d,rfl,hd,q⟩:=h;refine⟨_,(ar (aA (ky (au G_B hr T.F_B (aa (dv 0) ah)) (lj (tF jY jY bT bT (df ae) (df (dv 0)) (df (dc (jX rfl T.c_LAST_WRITTEN T.r_LAST_WRITTEN) (λ_ _=>.int _)))))))),?_⟩;walk_at "a";refine⟨d,rfl,hd,?_⟩;cases d with
  | int i=>
   walk_at "a";simp only [qt,my] at q⊢;by_cases h0:0<=i
   ·rw [UE h0];simpa [h0] using q
   ·rw [UD h0];simpa [h0] using q
  | _=>exact⟨_,rfl,by simpa [qt,my] using q⟩
theorem Lo{i:Int}{Q:UI->Prop}:D4 [.int i] Q↔Q (.bool (my (.int i))):=⟨λuu48=>by obtain⟨_,e,_,h⟩:=uu48;cases e;exact h,λh=>⟨_,rfl,rfl,h⟩⟩
def lx(y m n:Int):Prop:=2000<=y/\y<=9999/\1<=m/\m<=12/\1<=n/\n<=aW y m
instance {y m n:Int}:Decidable (lx y m n):=by unfold lx;infer_instance
def D6:List UI->(UI->Prop)->Prop:=λds Q=>∃y m n:Int,ds=[.int y,.int m,.int n]/\Q (.bool (decide (lx y m n)))
theorem Lp(T:Txt K mg t):aC P w K mg base CX0 3 t.a_K t.d_K ["year","month","day"] (bf K D6):=by
 have G_B:=@Az P w _ _ base _ T;have G_E:=@Lh P w _ _ base _ T;refine T.F_K.F.okD KG (λds Q h=>?_) (λ_ _ _ _ H O ds Q E hr h=>?_)
 ·obtain⟨y,m,n,rfl,_⟩:=h;rfl
 ·obtain⟨y,m,n,rfl,q⟩:=h;refine'⟨_,?A,?B⟩
  case A=>
   refine' ai ?C ?D
   case C=>
    refine' aL ?E ?F aK
    case E=>exact(kr (PW.pt (kQ (cy (au G_B hr T.F_B (aa (dv 0) ah))) (kQ (cy (au G_B hr T.F_B (aa (dv 1) ah))) (md (cy (au G_B hr T.F_B (aa (dv 2) ah))))))))
    case F=>refine' ar (aA lU)
   case' D=>refine' ai ?G ?H
   case G=>
    refine' aL ?I ?J aK
    case I=>exact(kr (PW.pt (kQ (oC jY jY bT bT (df (dc (jX rfl T.c_FIRST_YEAR T.r_FIRST_YEAR) (λ_ _=>.int _))) (df (dv 0)) (df (dc (jX rfl T.c_LAST_YEAR T.r_LAST_YEAR) (λ_ _=>.int _)))) (md (oC jY jY bT bT (df ae) (df (dv 1)) (df ae))))))
    case J=>refine' ar (aA lU)
   case' H=>refine' ar ?K
   case' K=>refine' aA ?L
   case L=>exact(tF jY jY bT bT (df ae) (df (dv 2)) (df (au G_E hr T.F_E (aa (dv 0) (aa (dv 1) ah)))))
  case B=>
  walk_at "a";simp only [Ln,Lk];walk_at "a";have no:¬lx y m n->Q (.bool false):=λz=>by rw [decide_eq_false z] at q;exact q
  split
  ·split
   ·split
    ·split
     ·exact no (by unfold lx;omega)
     ·split
      ·refine⟨UC,UC,?_⟩;rw [show decide (n<=aW y m)=decide (lx y m n) from decide_eq_decide.mpr (by unfold lx;omega)];exact q
      ·exact no (by unfold lx;omega)
    ·exact no (by unfold lx;omega)
   ·exact no (by unfold lx;omega)
  ·exact no (by unfold lx;omega)
theorem Lq{y m n:Int}{Q:UI->Prop}:D6 [.int y,.int m,.int n] Q↔Q (.bool (decide (lx y m n))):=⟨λuu49=>by obtain⟨_,_,_,e,h⟩:=uu49;cases e;exact h,λh=>⟨_,_,_,rfl,h⟩⟩
theorem n8{i:Int}(h0:0<=i)(h1:i < 10000):i.natAbs.log2 < 1920:=by
 by_cases z:i.natAbs=0
 ·rw [z];decide
 ·rw [Nat.log2_lt z];exact OX (show i.natAbs < 2 ^ 14 by omega) (Nat.pow_le_pow_right Ce Ce)
theorem D7{m:Int}(h0:0<=m)(h1:m < 100):(Txt.zfill (NG (toString m)) 2).length=2:=by
 obtain⟨m,rfl⟩:=OY h0;have e:=wY ⟨m,UC⟩;simp only at e;rw [e];rfl
theorem Lr{m:Int}(h0:1000<=m)(h1:m < 10000):(NG (toString m)).length=4:=by
 obtain⟨m,rfl⟩:=OY (show 0<=m by omega);rw [ua UC UC];rfl
theorem Lu(a b:Str):(a++b).length=a.length+b.length:=by
 show(a.cps++b.cps).size=a.cps.size+b.cps.size;exact R8
def Lv:List UI->(UI->Prop)->Prop:=λds Q=>∃d:Int,ds=[.int d]/\0<=d/\d < bb 10000/\∀y m n,k8 d y m n->Q (.str (kW y m n))
theorem Lw(T:Txt K mg t):aC P w K mg base CX0 5 t.a_L t.d_L ["day"] (bf K Lv):=by
 have G_I:=@Li P w _ _ base _ T;refine T.F_L.F.okD sk (λds Q h=>?_) (λ_ _ _ _ H O ds Q E hr h=>?_)
 ·obtain⟨d,rfl,_⟩:=h;rfl
 ·obtain⟨d,rfl,h0,h1,q⟩:=h;refine'⟨_,?A,?B⟩
  case A=>
   refine' ai ?C ?D
   case C=>exact(aJ (i:=1) sk.nd rfl UG (au G_I hr T.F_I (aa (dv 0) ah)))
   case' D=>refine' ai ?E ?F
   case E=>exact(aJ (i:=2) sk.nd rfl UG (PE.imp (cJ nO rfl T.n_str mr (aw (aj aO aS (dv 1) ae) az)) (aE nY)))
   case' F=>refine' ai ?G ?H
   case G=>
    refine' aJ (i:=3) sk.nd rfl UG ?I (hs:=pN)
    case I=>exact(CD (PE.imp (cJ nO rfl T.n_str mr (aw (aj aO aS (dv 1) ae) az)) (aE nY)) ae)
   case' H=>refine' ai ?J ?K
   case J=>
    refine' aJ (i:=4) sk.nd rfl UG ?L (hs:=pN)
    case L=>exact(CD (PE.imp (cJ nO rfl T.n_str mr (aw (aj aO aS (dv 1) ae) az)) (aE nY)) ae)
   case' K=>refine' ar ?M
   case' M=>refine' aA ?N
   case N=>exact(IJ (.cons (wH (dv 2)) (.cons CG (.cons (wH (dv 3)) (.cons CG (.cons (wH (dv 4)) .nil))))))
  case B=>
  walk_at "a";simp only [Ll];walk_at "a";intro y m n D;have hy:=t6 D h0 h1;have hb:=qy (y:=y) D.m1 D.m12;have:=D.m1;have:=D.m12;have:=D.n1;have:=D.nl;have ly:=Lr (m:=y) UC UC;have lm:=D7 (m:=m) UC UC;have ln:=D7 (m:=n) UC UC;have le:RI.length=0:=rfl;have ld:(NG "-").length=1:=td
  refine⟨n8 UC UC,n8 UC UC,Ce,n8 UC UC,Ce,?_⟩;rw [Jz UC UC UC];simp only [Lu,ly,lm,ln,le,ld,Dd];exact⟨Ce,Ce,Ce,Ce,Ce,Ce,Ce,Ce,Ce,Ce,Ce,q y m n D⟩
def oQ:Str:="0123456789"
def bG(z:Str)(k:Int):Bool:=decide ((z.length:Int)=k) && z.cps.toList.all λc=>decide (c∈oQ.cps.toList)
def D8:List UI->(UI->Prop)->Prop:=λds Q=>∃(z:Str)(k:Int),ds=[.str z,.int k]/\z.length<=16777216/\Q (.bool (bG z k))
theorem D9(T:Txt K mg t):aC P w K mg base CX0 1 t.a_M t.d_M ["text","length"] (bf K D8):=by
 refine T.F_M.F.okD KH (λds Q h=>?_) (λ_ _ _ _ H O ds Q E hr h=>?_)
 ·obtain⟨z,k,rfl,_⟩:=h;rfl
 ·obtain⟨z,k,rfl,hz,q⟩:=h;refine'⟨_,?A,?B⟩
  case A=>
   refine' ar ?C
   case' C=>refine' aA ?D
   case D=>exact(ky (j5 (j7 hr.units) j8 (df (PE.imp (aT mS rfl T.n_len Og (aw (dv 0) az)) (aE nh))) (df (dv 1)) (aB _)) (lj (PE.imp (aT (oA rfl) rfl T.n_all oB (aw (fe (tM rfl D1 (df (dv 0)) j6 lL Ce (λ_ _ _ _=>(jU (i:=0) D1.nd rfl UG)) (λ_ _ _ _=>lM) (λ_ _ _ _=>(j5 sP tO (df (dv 0)) (df (dc (jX rfl T.c_FIGURES T.r_FIGURES) (λ_ _=>.str _))) rfl)))) az)) (aE oF))))
  case B=>
  walk_at "a";refine⟨hz,?_⟩;unfold bG at q;split
  ·rename_i h1;rw [decide_eq_true (p:=(z.length:Int)=k) (by simpa using h1)] at q;refine⟨UC,pL (p:=λb=>Q (.bool b)) (λx=>match x with | .str y=>decide (y.cps.toList.headD 0∈oQ.cps.toList) | _=>false) (λx hx R hR=>?_) ?_⟩
   ·obtain⟨c,_,rfl⟩:=Pb.mp hx;walk_at "a";rw [Rx];exact hR
   ·unfold qp;rw [Pu,QL];exact q
  ·rename_i h1;rw [decide_eq_false (p:=(z.length:Int)=k) (by simpa using h1)] at q;exact q
theorem Ea{z:Str}{k:Int}{Q:UI->Prop}:D8 [.str z,.int k] Q↔z.length<=16777216/\Q (.bool (bG z k)):=⟨λuu50=>by obtain⟨_,_,e,h⟩:=uu50;cases e;exact h,λh=>⟨_,_,rfl,h⟩⟩
theorem Eb{m:Nat}(h:m < 100):bG ⟨(d2 m).toArray⟩ 2=true:=by
 have:∀m:Fin 100,bG ⟨(d2 m.val).toArray⟩ 2=true:=td
 exact this ⟨m,h⟩
theorem Lx:∀c:Fin 10,48+c.val∈oQ.cps.toList:=td
theorem Ly{y:Nat}(h:y < 10000):bG ⟨(d4 y).toArray⟩ 4=true:=by
 have f:∀{c:Nat},c < 10->48+c∈oQ.cps.toList:=λ{c} hc=>Lx ⟨c,hc⟩;unfold bG;rw [decide_eq_true (by rfl)];simp only [d4,Od,OG,OT,N3,Oo,decide_eq_true_eq];exact⟨f UC,f UC,f UC,f UC⟩
theorem sA{c:Nat}(h:c∈oQ.cps.toList):48<=c/\c < 58:=by
 have e:oQ.cps.toList=[48,49,50,51,52,53,54,55,56,57]:=td
 rw [e] at h;simp only [NO,NZ,or_false] at h;omega
theorem pU{z:Str}{l:List Nat}(h:z.cps.toList=l):z=⟨l.toArray⟩:=by
 obtain⟨⟨a⟩⟩:=z;exact congrArg (λl:List Nat=>(⟨l.toArray⟩:Str)) h
theorem Ec:∀y:Fin 1000,intText? ⟨(d4 y.val).toArray⟩=some (y.val:Int):=td
theorem sC{z:Str}(h:bG z 4=true):∃y:Nat,y < 10000/\z.length=4/\intText? z=some (y:Int)/\(atI z.cps.toList 0=some 48->y < 1000):=by
 unfold bG at h;rw [Oo,decide_eq_true_eq,Pg] at h;obtain⟨hl,hm⟩:=h;have hz:z.cps.toList.length=4:=by rw [show z.cps.toList.length=z.length from N0];omega
 match e:z.cps.toList,hz with
 | [a,b,c,d],_=>
  rw [e] at hm;have f:∀x∈[a,b,c,d],48<=x/\x < 58:=λx hx=>sA (by simpa using hm x hx);have ha:=f a UH;have hb:=f b UH;have hc:=f c UH;have hd:=f d UH;have ez:=pU e;have e4:[a,b,c,d]=d4 ((a - 48)*1000+(b - 48)*100+(c - 48)*10+(d - 48)):=by
   unfold d4;rw [NQ,NQ,NQ,NQ];exact⟨UC,UC,UC,UC,rfl⟩
  refine⟨(a - 48)*1000+(b - 48)*100+(c - 48)*10+(d - 48),UC,UC,?_,λh0=>?_⟩
  ·rw [ez,e4];generalize hy:(a - 48)*1000+(b - 48)*100+(c - 48)*10+(d - 48)=y;by_cases h:y < 1000
   ·exact Ec ⟨y,h⟩
   ·exact wZ UC UC
  ·rw [aV,Oa] at h0;omega
theorem qK{z:Str}(h:bG z 2=true):∃y:Nat,y < 100/\z.length=2/\intText? z=some (y:Int):=by
 unfold bG at h;rw [Oo,decide_eq_true_eq,Pg] at h;obtain⟨hl,hm⟩:=h;have hz:z.cps.toList.length=2:=by rw [show z.cps.toList.length=z.length from N0];omega
 match e:z.cps.toList,hz with
 | [a,b],_=>
  rw [e] at hm;have f:∀x∈[a,b],48<=x/\x < 58:=λx hx=>sA (by simpa using hm x hx);have ha:=f a UH;have hb:=f b UH;have ez:=pU e;have e2:[a,b]=d2 ((a - 48)*10+(b - 48)):=by
   unfold d2;rw [NQ,NQ];exact⟨UC,UC,rfl⟩
  refine⟨(a - 48)*10+(b - 48),UC,UC,?_⟩;rw [ez,e2];exact qA ⟨_,UC⟩
theorem sE{c:Nat}:∀{l:List Nat},∀p∈km c l,p.length<=l.length
 | [],p,h=>by simp [km] at h;rw [h];exact NV _
 | x::xs,p,h=>by
  unfold km at h;split at h
  ·rcases NO.mp h with e | h
   ·rw [e];exact PU _
   ·exact Tz (sE p h)
  ·split at h
   ·rename_i e;exact absurd e (xF c xs)
   ·rename_i q qs e;rcases NO.mp h with e2 | h
    ·rw [e2];have:=sE q (by rw [e];simp);simp only [NJ];omega
    ·exact Tz (sE p (by rw [e];simp [h]))
theorem Ed{z p:Str}(h:p∈Txt.split z (NG "-")):p.length<=z.length:=by
 rw [show NG "-"=⟨#[45]⟩ by decide+kernel] at h;have h2:p.cps.toList∈km 45 z.cps.toList:=by
  rw [<-qC];exact Pb.mpr ⟨p,h,rfl⟩
 have:=sE _ h2;have e1:p.cps.toList.length=p.length:=N0;have e2:z.cps.toList.length=z.length:=N0;omega
def nv(z:Str):Int:=(intText? z).getD 0
def lQ(z:Str):Option Int:=match Txt.split z (NG "-") with
 | [a,b,c]=>if bG a 4=true/\bG b 2=true/\bG c 2=true/\lx (nv a) (nv b) (nv c)/\lE (nv a) (nv b) (nv c)<=99999 then some (lE (nv a) (nv b) (nv c)) else none
 | _=>none
def Ee:UI->Option Int
 | .str z=>lQ z
 | _=>none
def Ef(d:UI):Prop:=(∀x,d≠ .dict [(.none,x)])/\∀z,d= .str z->z.length<=1000
def Lz:uk:=λds Q R=>∃d,ds=[d]/\Ef d/\(∀k,Ee d=some k->Q (.int k))/\(Ee d=none->R 0)
theorem Eg{y m n:Int}(h:lx y m n):0<=lE y m n:=by
 obtain⟨y1,y2,m1,m2,n1,n2⟩:=h;have:365*(y - 2000)<=bb y:=by unfold bb lb;omega
 have hb:=t4 (y:=y) m1 m2;unfold lE;omega
theorem LA(T:Txt K mg t):aC P w K mg base (kc P w) 4 t.a_N t.d_N ["text"] (um K t.u_NoText "row" Lz):=by
 have G_M:=@D9 P w _ _ base _ T;have G_K:=@Lp P w _ _ base _ T;have G_C:=@D5 P w _ _ base _ T;have G_J:=@Lj P w _ _ base _ T;have G_A:=@DN P w _ _ base _ T;refine T.F_N.F.okDXn so (λds Q R h=>?_) (λcdv A outer s H O ds Q R E hr h hx=>?_)
 ·obtain⟨d,rfl,_⟩:=h;rfl
 ·obtain⟨d,rfl,hd,q1,q2⟩:=h;refine'⟨_,?A,?B⟩
  case A=>
   refine' ai ?C ?D
   case C=>
    refine' aL ?E ?F aK
    case E=>exact(kr (cy (mh (K':=K) (T:="str") rfl rfl T.n_isinstance kZ (df (dv 0)) (lI (v:= .ty "str") rfl T.n_str mr rfl))))
    case' F=>refine' ar ?G
    case G=>exact(sg hx P4 T.xm_NoText G_A hr T.c_NoText T.F_A.b (aa ae ah))
   case' D=>refine' ai ?H ?I
   case H=>exact(aJ (i:=1) so.nd rfl UG (fe (pO (dv 0) aF)))
   case' I=>refine' ai ?J ?K
   case J=>
    refine' aL ?L ?M aK
    case L=>exact(PW.pt (kB (aI (mV hr.units) mW (PE.imp (aT jZ rfl T.n_len Og (aw (dv 1) az)) (aE j9)) ae (aB _)) (lh (kr (cy (au G_M hr T.F_M (aa (aj aM aR (dv 1) ae) (aa ae ah))))))))
    case' M=>refine' ar ?N
    case N=>exact(sg hx P4 T.xm_NoText G_A hr T.c_NoText T.F_A.b (aa ae ah))
   case' K=>refine' ai ?O ?P
   case O=>
    refine' aL ?Q ?R aK
    case Q=>exact(kr (PW.pt (kQ (cy (au G_M hr T.F_M (aa (aj aM aR (dv 1) ae) (aa ae ah)))) (md (cy (au G_M hr T.F_M (aa (aj aM aR (dv 1) ae) (aa ae ah))))))))
    case' R=>refine' ar ?S
    case S=>exact(sg hx P4 T.xm_NoText G_A hr T.c_NoText T.F_A.b (aa ae ah))
   case' P=>refine' ai ?T ?U
   case T=>exact(aJ (i:=2) so.nd rfl UG (PE.imp (cJ qw rfl T.n_int mH (aw (aj aM aR (dv 1) ae) az)) (aE qx)))
   case' U=>refine' ai ?V ?W
   case V=>exact(aJ (i:=3) so.nd rfl UG (PE.imp (cJ qw rfl T.n_int mH (aw (aj aM aR (dv 1) ae) az)) (aE qx)))
   case' W=>refine' ai ?X ?Y
   case X=>exact(aJ (i:=4) so.nd rfl UG (PE.imp (cJ qw rfl T.n_int mH (aw (aj aM aR (dv 1) ae) az)) (aE qx)))
   case' Y=>refine' ai ?Z ?a
   case Z=>
    refine' aL ?b ?c aK
    case b=>exact(PW.pt (kB (kr (cy (au G_K hr T.F_K (aa (dv 2) (aa (dv 3) (aa (dv 4) ah)))))) (lh (kr (cy (au G_C hr T.F_C (aa (au G_J hr T.F_J (aa (dv 2) (aa (dv 3) (aa (dv 4) ah)))) ah)))))))
    case' c=>refine' ar ?d
    case d=>exact(sg hx P4 T.xm_NoText G_A hr T.c_NoText T.F_A.b (aa ae ah))
   case' a=>refine' ar ?e
   case e=>exact(aA (au G_J hr T.F_J (aa (dv 2) (aa (dv 3) (aa (dv 4) ah)))))
  case B=>
  clear hr T hx G_M G_K G_C G_J G_A;walk_at "a";simp only [wz];refine⟨_,rfl,hd.1,?_⟩;cases d with
  | str z=>
   have hz:=hd.2 z rfl;simp only [rR];walk_at "a";refine⟨td,UC,?_⟩;have nf:lQ z=none->(Int.natAbs 0).log2 < 1920/\(NG (toString (0:Int))).length<=1000/\R 0:=λe=>⟨Ce,td,q2 e⟩;have wl:=λp=>Ed (z:=z) (p:=p);have q1:∀k,lQ z=some k->Q (.int k):=q1;clear q2 hd;unfold lQ at nf q1;generalize Txt.split z (NG "-")=ws at*
   match ws with
   | [a,b,c]=>
    have la:=wl a UH;have lb:=wl b UH;have lc:=wl c UH;rw [UD UH];simp only [] at nf q1;simp only [Ea,Lq,Lo,Lm,↓iU,↓i6,↓i8,↓i9,↓ja,↓jb,↓jd,↓iV,↓eZ,↓iu,↓jG,↓jH,↓jI,↓jJ,↓jK,↓jL,↓iw,↓ix,↓iy,↓iz,↓iA,↓iB,↓iC,↓iD,↓iE,↓iF,↓iG,↓iH,↓iI,↓iJ,↓iK,↓iL,↓iM,↓iN,↓iO,↓iP,↓iQ,↓iR,↓iS,↓iT,cf,cz,cg,cV,fA,fB,cU,cW,cX,di,dj,fJ,cK,dC,bw,dI,dA,dB,dD,fO,dE,bX,dW,dU,dG,dF,dL,cC,cL,fx,cx,cq,bI,cO,cP,cQ,cR,fy,cS,cT,cu,cw,fz,gu,gx,gy,gz,gA,gB,gC,gD,gE,gF,gG,gH,gI,gJ,gK,gL,gM,gN,gO,gP,gQ,gR,gS,gT,gU,gW,gX,gY,gZ,g6,g9,hG,hJ,hV,hW,hX,hZ,ic,ie,ig,ij,ik,il,eR,dN,fN,dX,cH,fQ,d6,dH,dJ,dO,dP,dQ,dR,dS,cF,dY,dZ,d3,bS,fK,fL,fM,fC,fD,fE,fF,dm,fG,dn,fH,eM,eQ,gn,gp,gr,gm,gs,eF,eG,eJ,eL,bY,eO,eN,er,eD,eT,eV,eX,eY,b0,ip,iq,iX,iW,iY,iZ,i3,i4,i5,ff,fg,jh,jf,jg,je,jm,ji,jj,jk,jl,cI,fh,jr,jt,jn,jo,jq,ju,jv,jw,fj,jx,jy,jA,jB,fk,jC,jD,jE,jz,jF,fq,ft,fu,fv,jM,jN,jO,bL,fY,fZ,gb,gc,gf,gh,gi,gj,gk,ne_eq,bZ,fU,fV,fW,fX,fR,fS,fT,cD,cE,dz,cY,dh,c7,cZ,bR,bQ,bg,bV,cn,bW,NN,Of,NJ,N8,NP,N6,N9,NY,OE,OF,ON,OO,OP,NU,NR,Oc,N4,N5,Oa,exists_eq_left',exists_eq_left,exists_and_left,exists_and_right,Oi,Oj,Sl.v.injEq,Sl.o.injEq,Sl.k.injEq,Oq,Ol,Ov,Oe,Om,NQ,and_true,true_and,OQ,Ow,exists_const,decide_eq_true_eq,OR,OS,OH,OI,N1,decide_eq_false_iff_not,and_assoc,or_true,true_or,↓reduceIte,if_true,if_false,N2,Ob,not_true_eq_false,not_false_eq_true,OK,OA,ite_true,ite_false,eq_self,exists_eq,reduceCtorEq,false_and,and_false,or_false,false_or,exists_false,Ox,Oy,cb,OG,OT,OD,OU,N3,OC,Od,OM,aV,bz,bU,cG,d7,bo,eg,ei,beq_self_eq_true,d8,d9,fP,bu,UY]
    refine⟨UC,?_⟩;by_cases fa:bG a 4=true
    ·rw [UD (by rw [fa];decide)];refine⟨UC,?_⟩;by_cases fb:bG b 2=true
     ·rw [UE fb];refine⟨UC,?_⟩;by_cases fc:bG c 2=true
      ·rw [UD (by rw [fc];decide)];obtain⟨y,y1,y2,y3,_⟩:=sC fa;obtain⟨m,m1,m2,m3⟩:=qK fb;obtain⟨n,n1,n2,n3⟩:=qK fc;refine⟨y,y3,UC,m,m3,UC,n,n3,UC,?_⟩;have ea:nv a=y:=by unfold nv;rw [y3];rfl
       have eb:nv b=m:=by unfold nv;rw [m3];rfl
       have ec:nv c=n:=by unfold nv;rw [n3];rfl
       rw [ea,eb,ec] at nf q1;by_cases hd:lx y m n
       ·rw [UD (λz=>z hd)];refine⟨hd.2.2.1,hd.2.2.2.1,?_⟩;have nn:=Eg hd;by_cases hy:lE y m n<=99999
        ·rw [UD (by simp [my,nn,hy])];exact⟨hd.2.2.1,hd.2.2.2.1,q1 _ (UE ⟨fa,fb,fc,hd,hy⟩)⟩
        ·rw [UE (by simp [my,hy])];exact nf (UD λz=>hy z.2.2.2.2)
       ·rw [UE hd];exact nf (UD λz=>hd z.2.2.2.1)
      ·rw [UE (by simpa using fc)];exact nf (UD λz=>fc z.2.2.1)
     ·rw [UD fb];exact nf (UD λz=>fb z.2.1)
    ·rw [UE (by simpa using fa)];exact nf (UD λz=>fa z.1)
   | []=>rw [UE UH];exact nf rfl
   | [a]=>rw [UE UH];exact nf rfl
   | [a,b]=>rw [UE UH];exact nf rfl
   | a::b::c::d::r=>rw [UE (by simp;omega)];exact nf rfl
  | _=>exact⟨Ce,td,q2 rfl⟩
end
theorem Ei:fw (ay ur) ["thing"] ["sign"] 1 [] ⟨OL,[ (NM ".0",Ww),(NM "sign",Ww),(NM "LETTERS",OV)],false,false,[]⟩:= .of
theorem Ej:fw (ay si) ["thing"] ["name"] 1 [] ⟨OL,[ (NM ".0",Ww),(NM "name",Ww),(NM "is_name",OV)],false,false,[]⟩:= .of
theorem Ek:fw (ay si) ["thing"] ["place","thing"] 1 [0] ⟨OL,[ (NM ".0",Ww),(NM "place",Ww),(NM "thing",Pt)],false,false,[]⟩:= .of
section
variable {P:UX} {w:UZ} {K:NH} {mg:Str->Option UJ} {base:UW} {t:k9}
def uD:List UI->(UI->Prop)->Prop:=λds Q=>∃d,∃n:Int,ds=[d,.int n]/\bp d=true/\Q (.bool (k7 d n))
theorem AA(T:Txt K mg t):aC P w K mg base CX0 1 t.a_O t.d_O ["thing","length"] (bf K uD):=by
 refine T.F_O.F.okD KI (λds Q h=>?_) (λ_ _ _ _ H O ds Q E hr h=>?_)
 ·obtain⟨d,n,rfl,_⟩:=h;rfl
 ·obtain⟨d,n,rfl,hd,q⟩:=h;refine⟨_,(ar (aA (ky (mh (K':=K) (T:="tuple") rfl rfl T.n_isinstance kZ (df (dv 0)) (lI (v:= .ty "tuple") rfl T.n_tuple lz rfl)) (lj (j5 (j7 hr.units) j8 (df (PE.imp (aT jZ rfl T.n_len Og (aw (dv 0) az)) (aE j9))) (df (dv 1)) (aB _)))))),?_⟩;walk_at "a";simp only [tQ];walk_at "a";refine⟨qr hd,?_⟩;cases d with
  | tuple l=>simp only [oI];walk_at "a";exact q
  | _=>simpa [oI,k7] using q
def pV:List UI->(UI->Prop)->Prop:=λds Q=>∃d,ds=[d]/\bp d=true/\Q (.bool (cj d))
theorem qL(T:Txt K mg t):aC P w K mg base CX0 1 t.a_P t.d_P ["thing"] (bf K pV):=by
 refine T.F_P.F.okD KJ (λds Q h=>?_) (λ_ _ _ _ H O ds Q E hr h=>?_)
 ·obtain⟨d,rfl,_⟩:=h;rfl
 ·obtain⟨d,rfl,hd,q⟩:=h;refine⟨_,(ai (aL (PW.pt (kB (kr (cy (mh (K':=K) (T:="str") rfl rfl T.n_isinstance kZ (df (dv 0)) (lI (v:= .ty "str") rfl T.n_str mr rfl)))) (lh (kr (oC jY jY bT bT (df ae) (df (PE.imp (aT mS rfl T.n_len Og (aw (dv 0) az)) (aE nh))) (df (dc (jX rfl T.c_LONGEST_NAME T.r_LONGEST_NAME) (λ_ _=>.int _)))))))) (ar (aA lU)) aK)
   (ar (aA (PE.imp (aT (oA rfl) rfl T.n_all oB (aw (fe (tM rfl Ei (df (dv 0)) j6 lL Ce (λ_ _ _ _=>(jU (i:=0) Ei.nd rfl UG)) (λ_ _ _ _=>lM) (λ_ _ _ _=>(j5 sP tO (df (dv 0)) (df (dc (jX rfl T.c_LETTERS T.r_LETTERS) (λ_ _=>.str _))) rfl)))) az)) (aE oF))))),?_⟩
  walk_at "a";simp only [wz];walk_at "a";refine⟨qr hd,?_⟩;cases d with
  | str z=>
   have hz:=Iq hd;simp only [rR];walk_at "a";refine⟨UC,?_⟩;simp only [cj] at q;split
   ·rename_i h1;split
    ·rename_i h2;rw [decide_eq_false (p:=z.length<=8) UC] at q;simpa using q
    ·rename_i h2;rw [decide_eq_true (p:=1<=z.length) UC,decide_eq_true (p:=z.length<=8) UC] at q;refine⟨UC,pL (p:=λb=>Q (.bool b)) (λx=>match x with | .str y=>decide (y.cps.toList.headD 0∈kS.cps.toList) | _=>false) (λx hx R hR=>?_) ?_⟩
     ·obtain⟨c,_,rfl⟩:=Pb.mp hx;walk_at "a";rw [Rx];exact hR
     ·unfold qp;rw [Pu,QL];exact q
   ·rename_i h1;rw [decide_eq_false (p:=1<=z.length) UC] at q;simpa using q
  | _=>simpa [rR,cj] using q
def El:List UI->(UI->Prop)->Prop:=λds Q=>∃d,ds=[d]/\bp d=true/\Q (.bool (lV d))
theorem LB(T:Txt K mg t):aC P w K mg base CX0 2 t.a_Q t.d_Q ["thing"] (bf K El):=by
 have G_O:=@AA P w _ _ base _ T;have G_P:=@qL P w _ _ base _ T;refine T.F_Q.F.okD KL (λds Q h=>?_) (λ_ _ _ _ H O ds Q E hr h=>?_)
 ·obtain⟨d,rfl,_⟩:=h;rfl
 ·obtain⟨d,rfl,hd,q⟩:=h;refine⟨_,(ai (aL (cy (au G_O hr T.F_O (aa (dv 0) (aa ae ah)))) (ar (aA (j5 (ki hr) kj (df (aj aO aS (dv 0) ae)) (df aF) (aB _)))) aK)
   (ai (aL (cy (au G_O hr T.F_O (aa (dv 0) (aa ae ah)))) (ar (aA (ky (j5 (pH hr) pI (df (aj aO aS (dv 0) ae)) (df (cM (aa aF (aa aF ah)))) rfl) (lj (au G_P hr T.F_P (aa (aj aO aS (dv 0) ae) ah)))))) aK)
   (ar (aA lU)))),?_⟩
  walk_at "a";simp only [uD];walk_at "a";refine⟨hd,?_⟩;rcases rW d with⟨l,rfl⟩ | hn
  ·have hl:=rT hd
   match l,hl with
   | [],_=>simpa [lV,k7,hd] using q
   | [a],hl=>
    have ha:=hl a UH;simp [lV,k7,pJ ha,aV] at q⊢;exact q
   | [a,b],hl=>
    have ha:=hl a UH;have hb:=hl b UH;simp [lV,lq,k7,pJ ha,hd,pV,hb,aV,bz] at q⊢;generalize ((NI (NG "first")).eqv a)=A at*;generalize ((NI (NG "last")).eqv a)=B at*;cases A <;> cases B <;> simp at q⊢<;> exact q
   | _::_::_::r,_=>
    have h1:¬((r.length:Int)+1+1+1=1):=UC
    have h2:¬((r.length:Int)+1+1+1=2):=UC
    simpa [lV,k7,hd,h1,h2] using q
  ·have e:lV d=false:=by
    unfold lV;split
    ·exact absurd rfl (hn _)
    ·exact absurd rfl (hn _)
    ·rfl
   rw [e] at q;simpa [wB hn,hd] using q
theorem LC{a:UL}(h:∀H,aX K H a [V.str "days",V.str "months",V.str "years"]):∀H O,Dt K H O (.ref a) (.tuple [.str "days",.str "months",.str "years"]):=λH O=>
 .tupK (h rH) (.cons (.str _) (.cons (.str _) (.cons (.str _) .nil)))
def Em:List UI->(UI->Prop)->Prop:=λds Q=>∃m u,ds=[m,u]/\bp m=true/\bp u=true/\Q (.bool (qu m u))
theorem LD(T:Txt K mg t):aC P w K mg base CX0 2 t.a_R t.d_R ["many","unit"] (bf K Em):=by
 have G_B:=@Az P w _ _ base _ T;obtain⟨aU,eU,hU⟩:=T.e_UNITS;have Tr_UNITS:aD (.ref aU) t.u_UNITS:=eU;have Td_UNITS:=LC hU;refine T.F_R.F.okD KN (λds Q h=>?_) (λ_ _ _ _ H O ds Q E hr h=>?_)
 ·obtain⟨d,u,rfl,_⟩:=h;rfl
 ·obtain⟨m,u,rfl,hm,hu,q⟩:=h;refine⟨_,(ar (aA (ky (au G_B hr T.F_B (aa (dv 0) ah)) (ky (tF jY jY bT bT (df ae) (df (dv 0)) (df (dc (jX rfl T.c_MOST_MANY T.r_MOST_MANY) (λ_ _=>.int _)))) (lj (j5 (pH hr) pI (df (dv 1)) (df (dc (jX rfl T.c_UNITS Tr_UNITS) Td_UNITS)) rfl)))))),?_⟩;walk_at "a";refine⟨m,rfl,hm,?_⟩;cases m with
  | int i=>
   walk_at "a";simp only [qt,qu,rV,lq] at q⊢;simp only [if_true];by_cases h0:0<=i
   ·rw [UE h0];by_cases h1:i<=999
    ·simp [h0,h1,pJ hu] at q⊢;exact q
    ·simp [h0,h1] at q⊢;exact q
   ·simp [h0] at q⊢;exact q
  | _=>exact⟨_,rfl,by simpa [qt,qu,rV] using q⟩
def En:List UI->(UI->Prop)->Prop:=λds Q=>∃d,ds=[d]/\bp d=true/\Q (.bool (lP d))
theorem LG(T:Txt K mg t):aC P w K mg base CX0 3 t.a_S t.d_S ["thing"] (bf K En):=by
 have G_O:=@AA P w _ _ base _ T;have G_P:=@qL P w _ _ base _ T;have G_Q:=@LB P w _ _ base _ T;have G_R:=@LD P w _ _ base _ T;refine T.F_S.F.okD DD (λds Q h=>?_) (λ_ _ _ _ H O ds Q E hr h=>?_)
 ·obtain⟨d,rfl,_⟩:=h;rfl
 ·obtain⟨d,rfl,hd,q⟩:=h;refine⟨_,(ai (aL (cy (au G_O hr T.F_O (aa (dv 0) (aa ae ah)))) (ar (aA (ky (j5 (pH hr) pI (df (aj aO aS (dv 0) ae)) (df (cM (mY (ds:=[.str "while",.str "follow",.str "leave"]) (by rfl)))) rfl) (lj (au G_P hr T.F_P (aa (aj aO aS (dv 0) ae) ah)))))) aK)
   (ai (aL (cy (au G_O hr T.F_O (aa (dv 0) (aa ae ah)))) (ai (aJ (i:=1) DD.nd rfl UG (ky (j5 (pH hr) pI (df (aj aO aS (dv 0) ae)) (df (cM (aa aF (aa aF ah)))) rfl) (lj (au G_P hr T.F_P (aa (aj aO aS (dv 0) ae) ah)))))
   (ar (aA (ky (dv 1) (ky (au G_Q hr T.F_Q (aa (aj aO aS (dv 0) ae) ah)) (lj (au G_R hr T.F_R (aa (aj aO aS (dv 0) ae) (aa (aj aO aS (dv 0) ae) ah))))))))) aK)
   (ar (aA lU)))),?_⟩
  walk_at "a";simp only [uD];walk_at "a";refine⟨hd,?_⟩;rcases rW d with⟨l,rfl⟩ | hn
  ·have hl:=rT hd
   match l,hl with
   | [],_=>simpa [lP,k7,hd] using q
   | [a],_=>simpa [lP,k7,hd] using q
   | [_,_,_],_=>simpa [lP,k7,hd] using q
   | [_,_,_,_],_=>simpa [lP,k7,hd] using q
   | [a,b],hl=>
    have ha:=hl a UH;have hb:=hl b UH;simp [lP,lq,k7,pJ ha,hd,pV,hb,aV,bz] at q⊢;generalize ((NI (NG "while")).eqv a)=A at*;generalize ((NI (NG "follow")).eqv a)=B at*;generalize ((NI (NG "leave")).eqv a)=C at*;cases A <;> cases B <;> cases C <;> simp at q⊢<;> exact q
   | [a,b,c,d,e],hl=>
    have ha:=hl a UH;have hb:=hl b UH;have hc:=hl c UH;have hd':=hl d UH;have he:=hl e UH;simp [lP,lq,k7,pJ ha,hd,pV,El,Em,hb,hc,hd',he,aV,bz,bU,cG,d7] at q⊢;generalize ((NI (NG "keep")).eqv a)=A at*;generalize ((NI (NG "gone")).eqv a)=B at*;generalize cj b=C at*;generalize lV c=D at*;cases A <;> cases B <;> cases C <;> cases D <;> simp at q⊢<;> first | exact q | exact⟨_,_,⟨rfl,rfl⟩,hd',he,q⟩
   | _::_::_::_::_::_::r,_=>
    have h1:¬((r.length:Int)+1+1+1+1+1+1=2):=UC
    have h2:¬((r.length:Int)+1+1+1+1+1+1=5):=UC
    simpa [lP,k7,hd,h1,h2] using q
  ·have e:lP d=false:=by
    unfold lP;split
    ·exact absurd rfl (hn _)
    ·exact absurd rfl (hn _)
    ·rfl
   rw [e] at q;simpa [wB hn,hd] using q
def Eo:List UI->(UI->Prop)->Prop:=λds Q=>∃d,ds=[d]/\bp d=true/\Q (.bool (oJ d))
theorem LH(T:Txt K mg t):aC P w K mg base CX0 2 t.a_T t.d_T ["thing"] (bf K Eo):=by
 have G_P:=@qL P w _ _ base _ T;refine T.F_T.F.okD KO (λds Q h=>?_) (λ_ _ _ _ H O ds Q E hr h=>?_)
 ·obtain⟨d,rfl,_⟩:=h;rfl
 ·obtain⟨d,rfl,hd,q⟩:=h;refine⟨_,(ai (aL (PW.pt (kB (kr (cy (mh (K':=K) (T:="tuple") rfl rfl T.n_isinstance kZ (df (dv 0)) (lI (v:= .ty "tuple") rfl T.n_tuple lz rfl)))) (lh (aI oY bT (PE.imp (aT jZ rfl T.n_len Og (aw (dv 0) az)) (aE j9)) (dc (jX rfl T.c_MOST_MAKERS T.r_MOST_MAKERS) (λ_ _=>.int _)) (aB _))))) (ar (aA lU)) aK)
   (ai (aL (kr (cy (PE.imp (aT (oA rfl) rfl T.n_all oB (aw (fe (Hw rfl Ej (df (dv 0)) j6 lL Ce (λ_ _ _ _=>(jU (i:=0) Ej.nd rfl UG)) (λ_ _ _ _=>lM) (λ_ _ _ _=>(au G_P hr T.F_P (aa (dv 0) ah))))) az)) (aE oF)))) (ar (aA lU)) aK)
   (ar (aA (PE.imp (aT (oA rfl) rfl T.n_all oB (aw (fe (v9 rfl Ek rfl T.n_range (aw ae (aw (PE.imp (aT jZ rfl T.n_len Og (aw (dv 0) az)) (aE j9)) az)) j6 lL Ce (λ_ _ _ _=>(jU (i:=0) Ek.nd rfl UG)) (λ_ _ _ _=>lM) (λ_ _ _ _=>(j5 FU Ia (df (aj aO aS (dv 1) (aP kO bP (dv 0) ae))) (df (aj aO aS (dv 1) (dv 0))) (aB _))))) az)) (aE oF)))))),?_⟩
  walk_at "a";simp only [tQ];walk_at "a";refine⟨qr hd,?_⟩;rcases rW d with⟨l,rfl⟩ | hn
  ·have hl:=rT hd;simp only [oI];walk_at "a";simp only [oJ] at q;split
   ·rename_i h4;rw [decide_eq_false (p:=l.length<=4) UC] at q;simpa using q
   ·rename_i h4;rw [decide_eq_true (p:=l.length<=4) UC] at q;refine⟨UC,pL (p:=λb=>if b=false then Q (.bool false) else _) cj (λx hx R hR=>?_) ?_⟩
    ·walk_at "a";exact⟨x,rfl,hl x hx,hR⟩
    ·have ea:(l.map cj).all id=l.all cj:=by rw [QL];rfl
     rw [ea];split
     ·rename_i h5;rw [h5] at q;simpa using q
     ·rename_i h5;rw [Bool.not_eq_false] at h5;rw [h5] at q;refine⟨by have:((16777216:Nat):Int)=16777216:=rfl;omega,UC,UC,pL (p:=λb=>Q (.bool b)) (λx=>match x with | .int p=>tR (l.getD (p - 1).toNat .none) (l.getD p.toNat .none) | _=>false) (λx hx R hR=>?_) ?_⟩
      ·obtain⟨i,hi,rfl⟩:=Pb.mp hx;have hi':=QG.mp hi;have l1:i < l.length:=UC
       have l2:i+1 < l.length:=UC
       have n1:cj l[i]=true:=Pg.mp h5 _ (Qk l1);have n2:cj l[i+1]=true:=Pg.mp h5 _ (Qk l2);obtain⟨z1,e1,_⟩:=mB n1;obtain⟨z2,e2,_⟩:=mB n2;have a1:(1:Int)+(i:Int) - 1=((i:Nat):Int):=UC
       have a2:(1:Int)+(i:Int)=((i+1:Nat):Int):=UC
       simp only [a1] at hR;rw [a2] at hR;simp only [O9,QC,O8 l1,O8 l2,Option.getD_some,e1,e2,tR] at hR;walk_at "a";rw [a1,a2];exact⟨_,mF (by rw [O8 l1,e1]),_,mF (by rw [O8 l2,e2]),z1,rfl,z2,rfl,hR⟩
      ·simp only [Od] at q
       match l,h4,q with
       | [],_,q=>simpa [mM,kR] using q
       | [a],_,q=>simpa [mM,kR] using q
       | [a,b],_,q=>simpa [mM,kR,QR] using q
       | [a,b,c],_,q=>simpa [mM,kR,QR] using q
       | [a,b,c,d],_,q=>simpa [mM,kR,QR] using q
       | _::_::_::_::_::r,h4,_=>simp only [NJ] at h4;omega
  ·rw [Cr hn];have e:oJ d=false:=by
    unfold oJ;split
    ·exact absurd rfl (hn _)
    ·rfl
   rw [e] at q;simpa using q
def Ep:List UI->(UI->Prop)->Prop:=λds Q=>∃d,ds=[d]/\bp d=true/\Q (.bool (mz d))
theorem LJ(T:Txt K mg t):aC P w K mg base CX0 2 t.a_U t.d_U ["thing"] (bf K Ep):=by
 have G_O:=@AA P w _ _ base _ T;have G_P:=@qL P w _ _ base _ T;refine T.F_U.F.okD KP (λds Q h=>?_) (λ_ _ _ _ H O ds Q E hr h=>?_)
 ·obtain⟨d,rfl,_⟩:=h;rfl
 ·obtain⟨d,rfl,hd,q⟩:=h;refine⟨_,(ar (aA (ky (au G_O hr T.F_O (aa (dv 0) (aa ae ah))) (ky (j5 (pH hr) pI (df (aj aO aS (dv 0) ae)) (df (cM (aa aF (aa aF ah)))) rfl) (lj (au G_P hr T.F_P (aa (aj aO aS (dv 0) ae) ah))))))),?_⟩;walk_at "a";simp only [uD];walk_at "a";refine⟨hd,?_⟩;rcases rW d with⟨l,rfl⟩ | hn
  ·have hl:=rT hd
   match l,hl with
   | [],_=>simpa [mz,k7] using q
   | [a],_=>simpa [mz,k7] using q
   | [a,b],hl=>
    have ha:=hl a UH;have hb:=hl b UH;simp [mz,lq,k7,pJ ha,pV,hb,aV,bz] at q⊢;generalize ((NI (NG "paper")).eqv a)=A at*;generalize ((NI (NG "kind")).eqv a)=B at*;cases A <;> cases B <;> simp at q⊢<;> exact q
   | _::_::_::r,_=>
    have h2:¬((r.length:Int)+1+1+1=2):=UC
    simpa [mz,k7,h2] using q
  ·have e:mz d=false:=by
    unfold mz;split
    ·exact absurd rfl (hn _)
    ·rfl
   rw [e] at q;simpa [wB hn] using q
def LK:List UI->(UI->Prop)->Prop:=λds Q=>∃d ps,ds=[d,.tuple ps]/\bp d=true/\(∀p∈ps,bp p=true)/\Q (.bool (nX d ps))
theorem LL(T:Txt K mg t):aC P w K mg base CX0 4 t.a_V t.d_V ["word","parts"] (bf K LK):=by
 have G_P:=@qL P w _ _ base _ T;have G_S:=@LG P w _ _ base _ T;have G_T:=@LH P w _ _ base _ T;have G_U:=@LJ P w _ _ base _ T;refine T.F_V.F.okD KQ (λds Q h=>?_) (λ_ _ _ _ H O ds Q E hr h=>?_)
 ·obtain⟨d,ps,rfl,_⟩:=h;rfl
 ·obtain⟨d,ps,rfl,hd,hp,q⟩:=h;refine⟨_,(ai (aL (aI (pH hr) pI (dv 0) (cM (aa aF (aa aF ah))) rfl) (ar (aA (j5 (j7 hr.units) j8 (df (PE.imp (aT jZ rfl T.n_len Og (aw (dv 1) az)) (aE j9))) (df ae) (aB _)))) aK)
   (ai (aL (aI (pH hr) pI (dv 0) (cM (aa aF (aa aF ah))) rfl) (ar (aA (ky (j5 (j7 hr.units) j8 (df (PE.imp (aT jZ rfl T.n_len Og (aw (dv 1) az)) (aE j9))) (df ae) (aB _)) (lj (au G_P hr T.F_P (aa (aj aO aS (dv 1) ae) ah)))))) aK)
   (ai (aL (aI (ki hr) kj (dv 0) aF (aB _)) (ar (aA (ky (j5 (j7 hr.units) j8 (df (PE.imp (aT jZ rfl T.n_len Og (aw (dv 1) az)) (aE j9))) (df ae) (aB _)) (lj (au G_S hr T.F_S (aa (aj aO aS (dv 1) ae) ah)))))) aK)
   (ai (aL (aI (ki hr) kj (dv 0) aF (aB _)) (ar (aA (ky (j5 (j7 hr.units) j8 (df (PE.imp (aT jZ rfl T.n_len Og (aw (dv 1) az)) (aE j9))) (df ae) (aB _)) (ky (au G_P hr T.F_P (aa (aj aO aS (dv 1) ae) ah)) (lj (au G_T hr T.F_T (aa (aj aO aS (dv 1) ae) ah))))))) aK)
   (ai (aL (aI (ki hr) kj (dv 0) aF (aB _)) (ar (aA (ky (j5 (j7 hr.units) j8 (df (PE.imp (aT jZ rfl T.n_len Og (aw (dv 1) az)) (aE j9))) (df ae) (aB _)) (ky (au G_U hr T.F_U (aa (aj aO aS (dv 1) ae) ah)) (lj (mh (K':=K) (T:="bool") rfl rfl T.n_isinstance kZ (df (aj aO aS (dv 1) ae)) (lI (v:= .ty "bool") rfl T.n_bool rG rfl))))))) aK)
   (ar (aA lU))))))),?_⟩
  walk_at "a";simp only [pJ hd,wA];walk_at "a";simp only [nX,lq,OD,OU,OC] at q;split
  ·rename_i h;rw [UE h] at q
   match ps with
   | []=>simpa using q
   | _::r=>
    have h1:(((r.length+1:Nat):Int)==0)=false:=by rw [beq_eq_false_iff_ne];omega
    rw [NJ,h1];simpa using q
  rename_i h;rw [UD h] at q;clear h;split
  ·rename_i h;rw [UE h] at q
   match ps,hp with
   | [],_=>simpa using q
   | [a],hp=>have ha:=hp a UH;simpa [aV,pV,ha] using q
   | _::_::r,_=>
    have h1:¬((r.length:Int)+1+1=1):=UC
    simpa [h1] using q
  rename_i h;rw [UD h] at q;clear h;split
  ·rename_i h;rw [UE h] at q
   match ps,hp with
   | [],_=>simpa using q
   | [a],hp=>have ha:=hp a UH;simpa [aV,En,ha] using q
   | _::_::r,_=>
    have h1:¬((r.length:Int)+1+1=1):=UC
    simpa [h1] using q
  rename_i h;rw [UD h] at q;clear h;split
  ·rename_i h;rw [UE h] at q
   match ps,hp with
   | [],_=>simpa using q
   | [a],_=>simpa using q
   | [a,b],hp=>
    have ha:=hp a UH;have hb:=hp b UH;simp [aV,bz,pV,Eo,ha,hb] at q⊢;generalize cj a=A at*;cases A <;> simp at q⊢<;> exact q
   | _::_::_::r,_=>
    have h1:¬((r.length:Int)+1+1+1=2):=UC
    simpa [h1] using q
  rename_i h;rw [UD h] at q;clear h;split
  ·rename_i h;rw [UE h] at q
   match ps,hp with
   | [],_=>simpa using q
   | [a],_=>simpa using q
   | [a,b],hp=>
    have ha:=hp a UH;have hb:=qr (hp b UH);simp [aV,bz,Ep,ha] at q⊢;generalize mz a=A at*;cases A <;> simp at q⊢<;> first | exact q | exact⟨hb,q⟩
   | _::_::_::r,_=>
    have h1:¬((r.length:Int)+1+1+1=2):=UC
    simpa [h1] using q
  ·rename_i h;rw [UD h] at q;exact q
def LN:List UI->(UI->Prop)->Prop:=λds Q=>∃d,ds=[d]/\bp d=true/\Q (.bool (lr d))
theorem LO(T:Txt K mg t):aC P w K mg base CX0 5 t.a_W t.d_W ["thing"] (bf K LN):=by
 have G_P:=@qL P w _ _ base _ T;have G_C:=@D5 P w _ _ base _ T;have G_V:=@LL P w _ _ base _ T;refine T.F_W.F.okD KR (λds Q h=>?_) (λ_ _ _ _ H O ds Q E hr h=>?_)
 ·obtain⟨d,rfl,_⟩:=h;rfl
 ·obtain⟨d,rfl,hd,q⟩:=h;refine⟨_,(ai (aL (PW.pt (kB (kr (cy (mh (K':=K) (T:="tuple") rfl rfl T.n_isinstance kZ (df (dv 0)) (lI (v:= .ty "tuple") rfl T.n_tuple lz rfl)))) (lh (aI qf bT (PE.imp (aT jZ rfl T.n_len Og (aw (dv 0) az)) (aE j9)) ae (aB _))))) (ar (aA lU)) aK)
   (ar (aA (ky (au G_C hr T.F_C (aa (aj aO aS (dv 0) ae) ah)) (ky (au G_P hr T.F_P (aa (aj aO aS (dv 0) ae) ah)) (lj (au G_V hr T.F_V (aa (aj aO aS (dv 0) ae) (aa (wm (df (dv 0)) (dM ae) jR) ah))))))))),?_⟩
  walk_at "a";simp only [tQ];walk_at "a";refine⟨qr hd,?_⟩;rcases rW d with⟨l,rfl⟩ | hn
  ·have hl:=rT hd;simp only [oI];walk_at "a"
   match l,hl with
   | [],_=>simpa [lr] using q
   | [a],_=>simpa [lr] using q
   | [a,b],_=>simpa [lr] using q
   | w::n::x::r,hl=>
    have h3:¬((((w::n::x::r).length:Nat):Int) < 3):=by simp only [NJ];omega
    rw [UD h3];have hw:=hl w UH;have hn:=hl n UH;have hx:=hl x UH;have hr':∀p∈r,bp p=true:=λp hp=>hl p (by simp [hp]);have ec:bx (w::n::x::r) (some 3) none=r:=by rw [pF Ce (by simp only [NJ];omega)];rfl
    simp only [lr] at q;refine⟨_,bz,n,rfl,hn,?_⟩;refine⟨_,rfl,?_⟩;cases e1:my n with
    | false=>simpa [e1] using q
    | true=>
     rw [UE rfl];refine⟨_,bU,x,rfl,hx,_,rfl,?_⟩;cases e2:cj x with
     | false=>simpa [e1,e2] using q
     | true=>
      rw [UE rfl];refine⟨_,aV,w,r,by rw [ec],hw,hr',?_⟩;simpa [e1,e2] using q
  ·rw [Cr hn];have e:lr d=false:=by
    unfold lr;split
    ·exact absurd rfl (hn _)
    ·rfl
   rw [e] at q;simpa using q
def AB:Sp:=λvs H Q _=>∃(c:Int),vs=[.int c]/\Pk c<=2000000/\∀n:Int,Q (.int n) H
theorem LP(T:Txt K mg t):aC P w K mg base CX0 1 t.a_g t.d_g ["_law_cell"] AB:=by
 refine T.F_g.F.ok K2 (λvs H Q E h=>?_) (λcdv A outer s H vs Q E hr h=>?_)
 ·obtain⟨c,rfl,_⟩:=h;rfl
 ·obtain⟨c,rfl,hb,k⟩:=h;refine⟨_,(kh (kG (bN nN (bN GW (pv 0) cm) (bN FN cm cm)))),?_⟩;walk_at "c";refine⟨IntMulOk.of_le (m:=2000000) (n:=256) hb (intBits_le_iff.mpr Ce) Ce,?_,?_,k _⟩
  ·decide
  ·decide
theorem Er{x:Int}(h1:0<=x)(h2:x<=1000000):Pk x<=20:=intBits_le_iff.mpr (by
 have:(2:Nat)^ 20=1048576:=Ce
 omega)
theorem LQ{H:Hp}{O:Ex}{v:V}{ns:List Int}(h:Dt K H O v (ma (ns.map .int))):∃a,v= .ref a/\bj K H a (ns.map V.int):=by
 obtain⟨a,xs,rfl,hs,r⟩:=(Sh.dt h).scr;refine⟨a,rfl,?_⟩;have:xs=ns.map V.int:=by
  clear hs h
  induction ns generalizing xs with
  | nil=>rw [Of] at r;cases r;rfl
  | cons n ns ih=>
   rw [NN] at r;cases r with
   | cons h r=>cases h;rw [NN,ih _ r]
 rw [<-this];exact hs
theorem LR(T:Txt K mg t):aC P w K mg base CX0 2 t.a_h t.d_h ["_law_script","_law_k"] (bf K HJ):=by
 have G_g:=@LP P w _ _ base _ T;refine T.F_h.F.ok K3 (λvs H Q E h=>?_) (λcdv A outer s H vs Q E hr h=>?_)
 ·obtain⟨O,ds,Qd,_,r,⟨ns,i,rfl,_⟩,_⟩:=h;exact r.length
 ·obtain⟨O,ds,Qd,tr,r,⟨ns,i,rfl,hb,i0,i1,q⟩,k⟩:=h;cases r with
  | cons r1 r2=>
   cases r2 with
   | cons r2 r3=>
    cases r3;cases r2;obtain⟨a,rfl,hS⟩:=LQ r1;refine⟨_,bK.newPack (kF (oo (o9 qf (pv 1) (aT FZ rfl T.n_len Og (aN (pv 0) bF)) (aB _)) (kh (kG (vG (aN (lu G_g (hr.mono Ce) rfl T.F_g (aN (bN bO (sX aM (pv 0) (pv 1) (λ_ _=>rfl)) (bN qc cm (pv 1))) bF)) bF)))) om)
   (kh (kG (vG (aN (lu G_g (hr.mono Ce) rfl T.F_g (aN (bN bO (bN qc cm (pv 1)) cm) bF)) bF))))),?_⟩
    have fin:∀(n:Int)(p:UL),H p=none->∃p' n',V.ref p=V.ref p'/\ak H p (.lst [.int n]) p'=some (.lst [.int n'])/\Q (.ref p) (ak (ak H p (.lst [.int n])) p' (nR p')):=λn p hp=>
     ⟨p,n,rfl,bh,k _ _ _ q (λb o e=>by rw [av (ko e hp),av (ko e hp)];exact e) (.pack bh λz=>tr p z hp)⟩
    walk_at "c";refine⟨ns.length,.inl ⟨_,hS,UH⟩,?_⟩;split
    ·rename_i hlt;obtain⟨j,rfl⟩:=OY i0;have hj:j < ns.length:=UC
     refine BN (v:= .int ns[j]) hS (mF (by simp [hj])) ⟨_,rfl,?_⟩;simp only [AB];walk_at "c";refine⟨?_,λn=>⟨by show 1<=UR;decide,λp hp=>?_⟩⟩
     ·have e1:=hb ns[j] (Qk hj);have e2:Pk (23*(j:Int))<=20:=Er UC UC;exact OB (intBits_add_le e1 e2) Ce
     ·simpa using fin n p hp
    ·simp only [AB];walk_at "c";refine⟨?_,λn=>⟨by show 1<=UR;decide,λp hp=>?_⟩⟩
     ·exact OB (Er UC UC) Ce
     ·simpa using fin n p hp
theorem pW(T:Txt K mg t):aC P w K mg base CX0 1 t.a_i t.d_i ["_law_pack_here","_law_size"] (bf K vZ):=by
 refine T.F_i.F.ok DI (λvs H Q E h=>?_) (λcdv A outer s H vs Q E hr h=>?_)
 ·obtain⟨O,ds,Qd,_,r,⟨z,rfl,_⟩,_⟩:=h;exact r.length
 ·obtain⟨O,ds,Qd,tr,r,⟨z,rfl,z0,z1,qq⟩,k⟩:=h;cases r with
  | cons r1 r2=>
   cases r2 with
   | cons r2 r3=>
    cases r3;cases r2;cases r1 with
    | @pack p hp hn=>
     refine⟨_,bK.pack (kF (A5 (aT F0 rfl T.n_divmod G1 (aN (sX aM (pv 0) cm (λ_ _=>rfl)) (aN (pv 1) bF))) (vj (n:=2) rfl (nL (FC (pv 0) cm Gr) (nL (jU (i:=2) DI.nd rfl UG) sI))))
   (kh (kG (pv 2)))),p,hp,λn=>?_⟩
     walk_at "c";refine BN (bj.of bh) rfl ⟨n,rfl,z0,UC,λq hq=>?_⟩;have hpq:p≠q:=ko bh hq;refine⟨_,aX.of bh,rfl,_,_,rfl,?_⟩;refine⟨p,[.int n],0,0,rfl,rfl,by rw [av hpq,bh],rfl,?_⟩;refine⟨_,_,rfl,rfl,?_⟩;refine⟨⟨_,bh⟩,k _ _ _ (qq (n % z) (Int.emod_nonneg _ UC) (Int.emod_lt_of_pos _ z0)) (λb o e=>?_) (.int _)⟩;by_cases hb:b=p
     ·subst hb;rw [bh,<-hp,e]
     ·have hbq:b≠q:=λy=>by
       subst y;rw [av hb] at hq;rw [hq] at e;cases e
      rw [av hb,av hb,av hbq,av hb];exact e
end
end K59
local macro_rules | `(tactic| walk_at "o")=>`(tactic| first | exact Sg rfl | exact RA rfl)
local macro_rules | `(tactic| walk_at "a") =>do let a <- rzT "bQ NN Of NJ N8 OE OF NP N6 N9"; let b <- rzT rzS; `(tactic| ((try $a:tactic); $b:tactic))
open PySem L2
namespace K59
theorem Es:fw (ay sj) ["_law_pack_here","_law_many","_law_letters","_law_words","_law_turn","_law_size","_law_at","_law_stem","_law_first"] ["_law_k","_law_letters","_law_pack_here"] 1 [2,0] ⟨OL,[ (NM ".0",Ww),(NM "_law_k",Ww),(NM "_law_take",OV),(NM "_law_letters",Pt),(NM "_law_pack_here",Pt)],false,false,[]⟩:= .of
theorem Et:fw (ay sj) ["_law_pack_here","_law_many","_law_letters","_law_words","_law_turn","_law_size","_law_at","_law_stem","_law_first"] ["_law_k","_law_stem","_law_letters","_law_at","_law_first"] 1 [7,2,6,8] ⟨OL,[ (NM ".0",Ww),(NM "_law_k",Ww),(NM "_law_at",Pt),(NM "_law_first",Pt),(NM "_law_letters",Pt),(NM "_law_stem",Pt)],false,false,[]⟩:= .of
section
variable {P:UX} {w:UZ} {K:NH} {mg:Str->Option UJ} {base:UW} {t:k9}
structure LS (ns:List Str):Prop where
 len:ns.length=5
 nd:ns.Nodup
 nm:∀n∈ns,Nm n
def kP:List Str:=["paper","kind","keep","days","coming","first","deep","none","never","gone","held","rule","last","end","hold","lift","leave","happens","while","follow","months","years"]
theorem LU:kP.Nodup:=td
theorem LV:∀n∈kP,cj (.str n)=true:=td
theorem LW{n:Str}(h:n∈kP):Nm n:=by
 obtain⟨z,e,hz⟩:=mB (LV n h);injection e with e;rw [e];exact hz
theorem LX{j:Nat}{n:Str}(h:n∈kP.drop j++kP.take j):n∈kP:=by
 rcases P5.mp h with z | z
 ·exact P1 z
 ·exact PQ z
theorem LY{j:Int}(h0:0<=j)(h1:j < 26):lN j∈kS.cps.toList:=by
 obtain⟨c,_,e2,_⟩:=rQ h0 h1;have:lN j=c:=by unfold lN;rw [e2];rfl
 rw [this];exact PL e2
def uE(a b:Str)(fi:Int)(k:Nat):Str:=a++⟨#[lN ((fi+5*(k:Int))% 26)]⟩++b
def LZ:List UI->(UI->Prop)->Prop:=λds Q=>ds=[lT,.int 5]/\∀ns,LS ns->Q (.list (ns.map .str))
theorem L4(T:Txt K mg t):aC P w K mg base CX0 2 t.a_j t.d_j ["_law_pack_here","_law_many"] (bf K LZ):=by
 have G_i:=@pW P w _ _ base _ T;refine T.F_j.F.okD n5 (λds Q h=>?_) (λ_ _ _ _ H O ds Q E hr h=>?_)
 ·obtain⟨rfl,_⟩:=h;rfl
 ·obtain⟨rfl,q⟩:=h;refine'⟨_,?A,?B⟩
  case A=>
   refine' ai ?C ?D
   case C=>exact(aJ (i:=2) n5.nd rfl UG aF)
   case' D=>refine' ai ?E ?F
   case E=>
    refine' aL ?G ?H aK
    case G=>exact(aI (j7 hr.units) j8 (au G_i hr T.F_i (aa (dv 0) (aa ae ah))) ae (aB _))
    case' H=>refine' ai ?I ?J
    case I=>
     generalize hE6_0:Qs _ _=ee6_0;exact aJ (i:=3) n5.nd rfl UG (fe (mL (ds:=[.str "paper",.str "kind",.str "keep",.str "days",.str "coming",.str "first",.str "deep",.str "none",.str "never",.str "gone",.str "held",.str "rule"]) (by first | (subst hE6_0;rfl)))) (hs:=B8 (ds:=[.str "paper",.str "kind",.str "keep",.str "days",.str "coming",.str "first",.str "deep",.str "none",.str "never",.str "gone",.str "held",.str "rule"]) (by first | (subst hE6_0;rfl)))
    case' J=>refine' ai ?K ?L
    case K=>
     generalize hE8_0:Qs _ _=ee8_0;exact(aJ (i:=3) n5.nd rfl UG (fe (kK (df (dv 3)) (df (fe (mL (ds:=[.str "last",.str "end",.str "hold",.str "lift",.str "leave",.str "happens",.str "while",.str "follow",.str "months",.str "years"]) (by first | (subst hE8_0;rfl))))))))
    case' L=>refine' ai ?M ?N
    case M=>exact(aJ (i:=4) n5.nd rfl UG (au G_i hr T.F_i (aa (dv 0) (aa (PE.imp (aT jZ rfl T.n_len Og (aw (dv 3) az)) (aE j9)) ah))))
    case' N=>refine' ar ?O
    case' O=>refine' aA ?P
    case' P=>refine' fe ?Q
    case Q=>exact(kC (df (fe (kK (df (fe (kC (df (dv 3)) (dM (dv 4)) jR))) (df (fe (kC (df (dv 3)) jR (dM (dv 4)))))))) jR (dM (dv 1)))
   case' F=>refine' ai ?R ?S
   case R=>exact(aJ (i:=5) n5.nd rfl UG (aP bO bP ae (au G_i hr T.F_i (aa (dv 0) (aa ae ah)))))
   case' S=>refine' ai ?T ?U
   case T=>exact(aJ (i:=6) n5.nd rfl UG (au G_i hr T.F_i (aa (dv 0) (aa (dv 5) ah))))
   case' U=>refine' ai ?V ?W
   case V=>
    refine' aJ (i:=7) n5.nd rfl UG ?X (hs:=pN)
    case X=>exact(qo aF (df (fe (B2 rfl Es rfl T.n_range (aw (dv 5) az) j6 lL Ce (λ_ _ _ _=>(jU (i:=0) Es.nd rfl UG)) (λ_ _ _ _=>lM) (λ_ _ _ _=>(aj sY tJ (dv 1) (au G_i hr T.F_i (aa (dv 2) (aa ae ah)))))))))
   case' W=>refine' ai ?Y ?Z
   case Y=>exact(aJ (i:=8) n5.nd rfl UG (au G_i hr T.F_i (aa (dv 0) (aa ae ah))))
   case' Z=>refine' ar ?a
   case' a=>refine' aA ?b
   case' b=>refine' fe ?c
   case c=>exact(B2 rfl Et rfl T.n_range (aw (dv 1) az) j6 lL Ce (λ_ _ _ _=>(jU (i:=0) Et.nd rfl UG)) (λ_ _ _ _=>lM) (λ_ _ _ _=>(aP sT tI (aP sT tI (qm (df (dv 1)) jR (dM (dv 3))) (aj sY tJ (dv 2) (aP nN mx (aP bO bP (dv 4) (aP qc mx ae (dv 0))) ae))) (qm (df (dv 1)) (dM (aP bO bP (dv 3) ae)) jR))))
  case B=>
  walk_at "a";rw [show([NI "paper",NI "kind",NI "keep",NI "days",NI "coming",NI "first",NI "deep",NI "none",NI "never",NI "gone",NI "held",NI "rule",NI "last",NI "end",NI "hold",NI "lift",NI "leave",NI "happens",NI "while",NI "follow",NI "months",NI "years"]:List UI)=kP.map NI from rfl];have hl:(kP.map NI).length=22:=rfl;intro c c0 c1;split
  ·refine⟨Ce,Ce,λj j0 j1=>?_⟩;have j2:j < 22:=j1;have hj:(j.toNat:Int)=j:=QN j0;rw [pF j0 (by rw [hl];omega),pE j0 (by rw [hl];omega)];have e5:((kP.map NI).drop j.toNat++(kP.map NI).take j.toNat)=(kP.drop j.toNat++kP.take j.toNat).map NI:=by
    rw [P0,S4,RG]
   have l5:(kP.drop j.toNat++kP.take j.toNat).length=22:=by
    rw [Pq,Pw,Pn,show kP.length=22 from rfl];omega
   refine⟨by rw [Pw,Pn,hl];omega,?_⟩;rw [e5,pE Ce (by rw [NS,l5];decide),<-RG];refine q _ ⟨by rw [Pn,l5];rfl,?_,λn hn=>?_⟩
   ·refine List.Nodup.sublist (R6 _ _) ?_;have hp:(kP.drop j.toNat++kP.take j.toNat).Perm kP:=by
     have:=List.perm_append_comm (l₁:=kP.drop j.toNat) (l₂:=kP.take j.toNat)
     rwa [Q2] at this
    exact hp.nodup_iff.mpr LU
   ·exact LW (LX (PQ hn))
  ·intro x x0 x1;refine⟨UC,UC,λat0 a0 a1=>⟨UC,by have:(16777216:Nat)=(16777216:Int):=rfl;omega,?_⟩⟩;refine Ir (λy=>∃c,y= .str ⟨#[c]⟩/\c∈kS.cps.toList) (λy hy R hR=>?_) λds hdl hds=>?_
   ·obtain⟨k,hk,rfl⟩:=Pb.mp hy;walk_at "a";refine λj j0 j1=>⟨td,?_⟩;obtain⟨ch,e1,e2,_⟩:=rQ j0 j1;exact⟨ch,e1,hR _ ⟨ch,rfl,PL e2⟩⟩
   ·obtain⟨cs,rfl,hcs⟩:∃cs:List Nat,ds=(cs.map λc=>(⟨#[c]⟩:Str)).map .str/\∀c∈cs,c∈kS.cps.toList:=by
     clear hdl
     induction ds with
     | nil=>exact⟨[],rfl,UH⟩
     | cons d r ih=>
      obtain⟨c,rfl,hc⟩:=hds d UH;obtain⟨cs,rfl,h⟩:=ih λy hy=>hds y (by simp [hy]);exact⟨c::cs,rfl,λz hz=>by
       rcases NO.mp hz with e | e
       ·rw [e];exact hc
       ·exact h z e⟩
    rw [B7,NS,NS] at hdl;have jc:(Txt.join "" (cs.map λc=>(⟨#[c]⟩:Str))).cps.toList=cs:=by
     rw [IC,Pu];clear hdl hds hcs
     induction cs with
     | nil=>rfl
     | cons c r ih=>rw [NN,Qf,ih];rfl
    have sm:((cs.map λc=>(⟨#[c]⟩:Str)).map λx=>x.length).sum=cs.length:=by
     clear hdl hds hcs jc
     induction cs with
     | nil=>rfl
     | cons c r ih=>
      simp only [NN,Qr,NJ] at ih⊢;rw [ih,show(⟨#[c]⟩:Str).length=1 from rfl];omega
    refine⟨_,rfl,by rw [sm,NS,show(NG "").length=0 by decide+kernel];omega,λfi f0 f1=>⟨Ce,?_⟩⟩;have hst:(Txt.join "" (cs.map λc=>(⟨#[c]⟩:Str))).length=cs.length:=by rw [oK,jc]
    generalize Txt.join "" (cs.map λc=>(⟨#[c]⟩:Str))=stem at*;have cA:(Txt.slice stem none (some at0)).cps.toList=cs.take at0.toNat:=by rw [wC,jc,Iw a0 UC]
    have cB:(Txt.slice stem (some (at0+1)) none).cps.toList=cs.drop (at0+1).toNat:=by rw [wC,jc,Iy UC UC]
    have lA:(Txt.slice stem none (some at0)).length=at0.toNat:=by rw [oK,cA,Pn];omega
    have lB:(Txt.slice stem (some (at0+1)) none).length=cs.length - (at0+1).toNat:=by rw [oK,cB,Pw]
    have lc:∀j,(⟨#[j]⟩:Str).length=1:=λ_=>rfl;refine pK (λy=>match y with | .int k=>.str (uE (Txt.slice stem none (some at0)) (Txt.slice stem (some (at0+1)) none) fi k.toNat) | _=>.none) (λy hy R hR=>?_) ?_
    ·obtain⟨k,hk,rfl⟩:=Pb.mp hy;walk_at "a";simp only [Um,O9] at hR⊢;have r0:0<=(fi+5*(k:Int))% 26:=UC
     have r1:(fi+5*(k:Int))% 26 < 26:=UC
     obtain⟨e1,e2⟩:=HR r0 r1;refine⟨UC,td,_,e1,by rw [lA,lc];omega,UC,?_⟩;exact⟨by rw [oH,lA,lB,lc];omega,hR⟩
    ·have e:(kR 0 (Int.toNat 5)).map (λy=>match y with | .int k=>NI (uE (Txt.slice stem none (some at0)) (Txt.slice stem (some (at0+1)) none) fi k.toNat) | _=>.none)=((PH 5).map λ(k:Nat)=>uE (Txt.slice stem none (some at0)) (Txt.slice stem (some (at0+1)) none) fi k).map .str:=by
      unfold kR;rw [Pu,Pu];refine RP λk _=>?_;simp only [Function.comp,Um,O9]
     rw [e];refine q _ ⟨UH,?_,λn hn=>?_⟩
     ·rw [List.Nodup,List.pairwise_map];refine Uo ?_ (List.nodup_range (n:=5));intro a b ha hb hab e;have ha':=QG.mp ha;have hb':=QG.mp hb;have z:=HN e;have:=HS UC UC UC UC z;omega
     ·obtain⟨k,_,rfl⟩:=Pb.mp hn;have r0:0<=(fi+5*(k:Int))% 26:=UC
      have r1:(fi+5*(k:Int))% 26 < 26:=UC
      unfold uE;refine⟨by rw [oH,oH,lA,lB,lc];omega,by rw [oH,oH,lA,lB,lc];omega,λc hc=>?_⟩;simp only [rO,Qt,P5] at hc;rcases hc with(h | h) | h
      ·rw [cA] at h;exact hcs c (PQ h)
      ·have:c=lN ((fi+5*(k:Int))% 26):=by simpa using h
       rw [this];exact LY r0 r1
      ·rw [cB] at h;exact hcs c (P1 h)
open Day
theorem L5{d y m n y' m' n':Int}(D:k8 d y m n)(D':k8 d y' m' n'):kW y m n=kW y' m' n':=by
 obtain⟨rfl,rfl,rfl⟩:=D.uniq D';rfl
open Classical in
def kA(d:Int):Str:=if h:∃z y m n,k8 d y m n/\z=kW y m n then h.choose else NG ""
theorem uF{d y m n:Int}(D:k8 d y m n):kW y m n=kA d:=by
 have h:∃z y m n,k8 d y m n/\z=kW y m n:=⟨_,y,m,n,D,rfl⟩;unfold kA;rw [dif_pos h];obtain⟨y',m',n',D',e⟩:=h.choose_spec;rw [e];exact L5 D D'
def jV:UI->List Str
 | .tuple [.str a]=>[a]
 | .tuple [.str a,.str b]=>[a,b]
 | _=>[]
def lG:UI->List Str
 | .tuple [.str w,.str k]=>[w,k]
 | .tuple [.str w,.str k,s,.int m,.str u]=>[w,k,Txt.join (NG ":") (jV s),NG (toString m),u]
 | _=>[]
def oR:UI->List Str
 | .tuple l=>l.filterMap λd=>match d with | .str z=>some z | _=>none
 | _=>[]
def mj:List UI->List Str
 | [.str k,.tuple l]=>k::oR (.tuple l)
 | [.tuple [.str g,.str y],.bool b]=>[g,y]++if b=true then [NG "deep"] else []
 | [.str y]=>[y]
 | [.tuple l]=>lG (.tuple l)
 | _=>[]
theorem qM(ms:List Str):oR (.tuple (ms.map .str))=ms:=by
 show List.filterMap _ (ms.map NI)=ms;rw [Td];exact List.filterMap_some
theorem L6:(NG ":").length=1:=td
theorem AD:(NG " ").length=1:=td
theorem uG{s:UI}(h:lX s):s= .tuple ((jV s).map .str)/\((jV s).map (λx:Str=>x.length)).sum+(jV s).length*(NG ":").length<=16777216:=by
 rw [L6];cases h with
 | coming=>exact⟨rfl,td⟩
 | @first h hn=>
  refine⟨rfl,?_⟩;have a:(NG "first").length=5:=td
  have:=hn.hi;simp only [jV,NN,Of,Qr,Ti,NJ,N8,a];omega
 | @last h hn=>
  refine⟨rfl,?_⟩;have a:(NG "last").length=4:=td
  have:=hn.hi;simp only [jV,NN,Of,Qr,Ti,NJ,N8,a];omega
theorem n9{d:UI}(h:bM d):∃w n x r,d= .tuple (.str w:: .int n:: .str x::r)/\kT n:=by
 cases h with
 | paper a=>exact⟨_,_,_,_,rfl,a⟩
 | two _ a=>exact⟨_,_,_,_,rfl,a⟩
 | rule a=>exact⟨_,_,_,_,rfl,a⟩
 | one _ a=>exact⟨_,_,_,_,rfl,a⟩
 | hold a=>exact⟨_,_,_,_,rfl,a⟩
def L7:List UI->(UI->Prop)->Prop:=λds Q=>∃p,ds=[p]/\mf p/\Q (.list ((lG p).map .str))
theorem L8(T:Txt K mg t):aC P w K mg base CX0 1 t.a_X t.d_X ["parts"] (bf K L7):=by
 refine T.F_X.F.okD KS (λds Q h=>?_) (λ_ _ _ _ H O ds Q E hr h=>?_)
 ·obtain⟨p,rfl,_⟩:=h;rfl
 ·obtain⟨p,rfl,hp,q⟩:=h;refine'⟨_,?A,?B⟩
  case A=>
   refine' ai ?C ?D
   case C=>
    refine' aL ?E ?F aK
    case E=>exact(aI (j7 hr.units) j8 (PE.imp (aT jZ rfl T.n_len Og (aw (dv 0) az)) (aE j9)) ae (aB _))
    case' F=>refine' ar ?G
    case G=>exact(aA (fe (pC rfl T.n_list pk (aw (dv 0) az))))
   case' D=>refine' ar ?H
   case' H=>generalize hG6:Qs _ _=eg6
   refine' aA ?I
   case' I=>subst hG6
   refine' fe ?J
   case' J=>refine' bB ?K
   case' K=>refine' aa ?L ?M
   case L=>exact(aj aO aS (dv 0) ae)
   case' M=>refine' aa ?N ?O
   case N=>exact(aj aO aS (dv 0) ae)
   case' O=>refine' aa ?P ?Q
   case P=>exact(De aF (df (aj aO aS (dv 0) ae)))
   case' Q=>refine' aa ?R ?S
   case R=>exact(PE.imp (cJ nO rfl T.n_str mr (aw (aj aO aS (dv 0) ae) az)) (aE nY))
   case' S=>refine' aa ?T ah
   case T=>exact(aj aO aS (dv 0) ae)
  case B=>
  clear hr T;cases hp with
  | wfl hw hk=>
   walk_at "a";rw [UE Ce];exact q
  | kg hw hk hs h0 h1 hu=>
   walk_at "a";rw [UD Ce];obtain⟨e,z⟩:=uG hs;exact⟨_,e,z,n8 h0 UC,q⟩
def L9:List UI->(UI->Prop)->Prop:=λds Q=>∃(w:Str)(r:List UI)(n:Int)(x:Str),ds=[.str w,.tuple r]/\bM (.tuple (.str w:: .int n:: .str x::r))/\Q (.list ((mj r).map .str))
theorem Ma(T:Txt K mg t):aC P w K mg base CX0 2 t.a_Y t.d_Y ["word","parts"] (bf K L9):=by
 have G_X:=@L8 P w _ _ base _ T;refine T.F_Y.F.okD KU (λds Q h=>?_) (λ_ _ _ _ H O ds Q E hr h=>?_)
 ·obtain⟨w,r,n,x,rfl,_⟩:=h;rfl
 ·obtain⟨w,r,n,x,rfl,hd,q⟩:=h;refine'⟨_,?A,?B⟩
  case A=>
   refine' ai ?C ?D
   case C=>
    refine' aL ?E ?F aK
    case E=>exact(aI (ki hr) kj (dv 0) aF (aB _))
    case' F=>refine' ar ?G
    case' G=>refine' aA ?H
    case' H=>refine' fe ?I
    case' I=>refine' kK (df ?J) (df ?K)
    case J=>exact(fe (bB (aa (aj aO aS (dv 1) ae) ah)))
    case K=>exact(fe (pC rfl T.n_list pk (aw (aj aO aS (dv 1) ae) az)))
   case' D=>refine' ai ?L ?M
   case L=>
    refine' aL ?N ?O aK
    case N=>exact(aI (ki hr) kj (dv 0) aF (aB _))
    case' O=>refine' ar ?P
    case P=>exact(aA (au G_X hr T.F_X (aa (aj aO aS (dv 1) ae) ah)))
   case' M=>refine' ai ?Q ?R
   case Q=>
    refine' aL ?S ?T aK
    case S=>exact(aI (ki hr) kj (dv 0) aF (aB _))
    case' T=>refine' ar ?U
    case' U=>refine' aA ?V
    case' V=>refine' fe ?W
    case' W=>refine' kK (df ?X) (df ?Y)
    case X=>exact(fe (pC rfl T.n_list pk (aw (aj aO aS (dv 1) ae) az)))
    case Y=>exact(tE (cy (aj aO aS (dv 1) ae)) (fe (bB (aa aF ah))) (fe (bB ah)))
   case' R=>refine' ar ?Z
   case Z=>exact(aA (fe (pC rfl T.n_list pk (aw (dv 1) az))))
  case B=>
  clear hr T G_X;have nw:∀{u v:Str}{l:List Str},u∈l->(∀z∈l,z≠v)->(u==v)=false:=λh h2=>by simpa using h2 _ h
  cases hd with
  | @paper _ _ k ms _ _ _ hm=>
   walk_at "a";have:=hm.len;refine⟨by rw [NS];omega,?_⟩;have e:mj [NI k,O6 (Pd NI ms)]=k::ms:=by
    show k::oR (.tuple (ms.map .str))=_;rw [qM]
   rw [e] at q;exact q
  | two hw=>
   walk_at "a";rw [nw hw td,nw hw td,nw hw td,UD Ou,UD Ou,UD Ou];exact q
  | rule _ _ hp=>
   walk_at "a";refine⟨_,rfl,hp,?_⟩;cases hp <;> exact q
  | one hw=>
   walk_at "a";rw [nw hw td,nw hw td,nw hw td,UD Ou,UD Ou,UD Ou];exact q
  | @hold _ _ g y b=>
   walk_at "a";cases b
   ·rw [UD Ou];exact q
   ·rw [UE rfl];exact q
def kn:UI->List Str
 | .tuple (.str w:: .int n:: .str x::r)=>w::kA n::x::mj r
 | _=>[]
def jT(d:UI):Str:=Txt.join (NG " ") (kn d)
def Wz(z:Str):Prop:=z.length<=20/\∀c∈z.cps.toList,c≠32/\c < 128
theorem rP:∀c∈kS.cps.toList,(c≠32/\c < 128)/\c≠58:=td
theorem nA{z:Str}(h:Nm z):Wz z:=⟨OB h.hi Ce,λc hc=>(rP c (h.ab _ hc)).1⟩
theorem Eu{z:Str}(h:Nm z):58 ∉ z.cps.toList:=λc=>(rP 58 (h.ab _ c)).2 rfl
theorem Mb{z:Str}(h:Wz z):32 ∉ z.cps.toList:=λc=>(h.2 32 c).1 rfl
theorem uH{n:Int}(h:kT n):n < bb 10000:=by
 have:bb 10000=2921940:=Ce
 have:=h.2;omega
theorem Mc{n:Int}(h:kT n):Wz (kA n):=by
 unfold kA;split
 ·rename_i hx;obtain⟨y,m,k,D,e⟩:=hx.choose_spec;rw [e];refine⟨by rw [Dd];decide,?_⟩;have e:(kW y m k).cps.toList=d4 y.toNat++45::(d2 m.toNat++45::d2 k.toNat):=by simp [kW,qB]
  have hy:=t6 D h.1 (uH h);have hb:=qy (y:=y) D.m1 D.m12;have:=D.m12;have:=D.nl;intro c hc;rw [e] at hc;simp only [d4,d2,N6,N9,NO,NZ,or_false] at hc;rcases hc with h | h | h | h | h | h | h | h | h | h <;> omega
 ·unfold Wz;decide+kernel
theorem AE:∀{a b:List Str},a.map (λp:Str=>p.cps.toList)=b.map (λp:Str=>p.cps.toList)->a=b
 | [],[],_=>rfl
 | [],_::_,h=>by simp at h
 | _::_,[],h=>by simp at h
 | ⟨⟨x⟩⟩::a,⟨⟨y⟩⟩::b,h=>by
  simp only [NN,NQ] at h;rw [AE h.2,h.1]
theorem AF{c:Nat}{ws:List Str}(hn:ws≠[])(h:∀z∈ws,c ∉ z.cps.toList):Txt.split (Txt.join ⟨#[c]⟩ ws) ⟨#[c]⟩=ws:=by
 have e:Txt.join ⟨#[c]⟩ ws=QM ⟨#[c]⟩ ws:=P7 _ _;have h1:=qC (Txt.join ⟨#[c]⟩ ws) c;rw [e,pQ,xH c _ (by simpa using hn) (λp hp=>by obtain⟨q,hq,rfl⟩:=Pb.mp hp;exact h q hq)] at h1;rw [e];exact AE h1
theorem qN:NG ":"=⟨#[58]⟩:=td
theorem mQ:NG " "=⟨#[32]⟩:=td
def ke(m:Int):Str:=NG (toString m)
theorem Md:∀m:Fin 1000,((ke (m.val:Int)).length<=3/\1<=(ke (m.val:Int)).length)/\bG (ke (m.val:Int)) ((ke (m.val:Int)).length:Int)=true/\(1 < (ke (m.val:Int)).length->(ke (m.val:Int)).cps.toList.headD 48≠48)/\(ke (m.val:Int)).cps.toList.all (λc=>decide (48<=c/\c<=57))=true:=td
theorem AG{m:Int}(h0:0<=m)(h1:m<=999):((ke m).length<=3/\1<=(ke m).length)/\bG (ke m) ((ke m).length:Int)=true/\(1 < (ke m).length->(ke m).cps.toList.headD 48≠48)/\(ke m).cps.toList.all (λc=>decide (48<=c/\c<=57))=true:=by
 obtain⟨k,rfl⟩:=OY h0;exact Md ⟨k,UC⟩
theorem Ew{m:Int}(h0:0<=m)(h1:m<=999):Wz (ke m):=by
 obtain⟨a,_,_,b⟩:=AG h0 h1;refine⟨OB a.1 Ce,λc hc=>?_⟩;have:=of_decide_eq_true (Pg.mp b _ hc);omega
theorem uI{c x:Nat}:∀{ps:List (List Nat)},x∈lF c ps->x=c\/∃p∈ps,x∈p
 | [],h=>by cases h
 | [p],h=>.inr ⟨p,UH,h⟩
 | p::q::r,h=>by
  have h:x∈p++c::lF c (q::r):=h;rcases P5.mp h with z | z
  ·exact .inr ⟨p,UH,z⟩
  ·rcases NO.mp z with z | z
   ·exact .inl z
   ·rcases uI z with z | ⟨s,hs,z⟩
    ·exact .inl z
    ·exact .inr ⟨s,by simp at hs⊢;exact .inr hs,z⟩
theorem AH{s:UI}(h:lX s):jV s≠[]/\∀z∈jV s,Wz z/\58 ∉ z.cps.toList/\z.length<=8:=by
 have c1:Wz (NG "coming")/\58 ∉ (NG "coming").cps.toList/\(NG "coming").length<=8:=by unfold Wz;decide+kernel
 have c2:Wz (NG "first")/\58 ∉ (NG "first").cps.toList/\(NG "first").length<=8:=by unfold Wz;decide+kernel
 have c3:Wz (NG "last")/\58 ∉ (NG "last").cps.toList/\(NG "last").length<=8:=by unfold Wz;decide+kernel
 cases h with
 | coming=>exact⟨by simp [jV],λz hz=>by rw [jV,PM] at hz;rw [hz];exact c1⟩
 | first hn=>
  refine⟨by simp [jV],λz hz=>?_⟩;simp only [jV,NO,NZ,or_false] at hz;rcases hz with rfl | rfl
  ·exact c2
  ·exact⟨nA hn,Eu hn,hn.hi⟩
 | last hn=>
  refine⟨by simp [jV],λz hz=>?_⟩;simp only [jV,NO,NZ,or_false] at hz;rcases hz with rfl | rfl
  ·exact c3
  ·exact⟨nA hn,Eu hn,hn.hi⟩
theorem AI(c:Nat):∀ps:List (List Nat),(lF c ps).length<=(ps.map QV).sum+ps.length
 | []=>PU _
 | [p]=>by show p.length<=_;simp
 | p::q::r=>by
  have ih:=AI c (q::r);show(p++c::lF c (q::r)).length<=_;rw [Pq,NJ,NN,Qr,NJ];omega
theorem Me{s:UI}(h:lX s):Wz (Txt.join (NG ":") (jV s)):=by
 obtain⟨_,hw⟩:=AH h;have hl:(jV s).length<=2:=by cases h <;> simp [jV]
 rw [qN];have e:(Txt.join ⟨#[58]⟩ (jV s)).cps.toList=lF 58 ((jV s).map λp=>p.cps.toList):=by
  rw [show Txt.join ⟨#[58]⟩ (jV s)=QM ⟨#[58]⟩ (jV s) from P7 _ _,pQ]
 refine⟨?_,λc hc=>?_⟩
 ·show(Txt.join ⟨#[58]⟩ (jV s)).cps.size<=20;rw [<-N0,e];refine OB (AI _ _) ?_;rw [Pu,NS];have:∀l:List Str,(∀z∈l,z.length<=8)->(l.map (QV ∘ λp:Str=>p.cps.toList)).sum<=8*l.length:=λl=>by
   induction l with
   | nil=>simp
   | cons a l ih=>
    intro hh;have h1:=ih λz hz=>hh z (by simp [hz]);have h2:a.cps.toList.length<=8:=by rw [N0];exact hh a UH
    rw [NN,Qr,NJ];show a.cps.toList.length+_<=_;omega
  have:=this (jV s) λz hz=>(hw z hz).2.2;omega
 ·rw [e] at hc;rcases uI hc with z | ⟨p,hp,z⟩
  ·rw [z];decide
  ·obtain⟨q,hq,rfl⟩:=Pb.mp hp;exact(hw q hq).1.2 c z
theorem lits_wz:∀z∈(["keep","gone","while","follow","leave","days","months","years","paper","kind","happens","rule","end","lift","hold","deep"]:List Str),Wz z:=by unfold Wz;decide+kernel
theorem Mf{p:UI}(h:mf p):(lG p).length<=5/\∀z∈lG p,Wz z:=by
 cases h with
 | wfl hw hk=>
  refine⟨by simp [lG],λz hz=>?_⟩;simp only [lG,NO,NZ,or_false] at hz hw;rcases hz with rfl | rfl
  ·rcases hw with rfl | rfl | rfl <;> exact lits_wz _ UH
  ·exact nA hk
 | kg hw hk hs h0 h1 hu=>
  refine⟨by simp [lG],λz hz=>?_⟩;simp only [lG,units,NO,NZ,or_false] at hz hw hu;rcases hz with rfl | rfl | rfl | rfl | rfl
  ·rcases hw with rfl | rfl <;> exact lits_wz _ UH
  ·exact nA hk
  ·exact Me hs
  ·exact Ew h0 h1
  ·rcases hu with rfl | rfl | rfl <;> exact lits_wz _ UH
theorem uJ{d:UI}(h:bM d):(kn d).length<=8/\∀z∈kn d,Wz z:=by
 have key:∀{w:Str}{n:Int}{x:Str}{ws:List Str},Wz w->kT n->Nm x->ws.length<=5->(∀z∈ws,Wz z)->(w::kA n::x::ws).length<=8/\∀z∈w::kA n::x::ws,Wz z:=λhw hn hx hl hz=>by
  refine⟨by simp only [NJ];omega,λz hz'=>?_⟩;rcases NO.mp hz' with rfl | hz'
  ·exact hw
  ·rcases NO.mp hz' with rfl | hz'
   ·exact Mc hn
   ·rcases NO.mp hz' with rfl | hz'
    ·exact nA hx
    ·exact hz z hz'
 cases h with
 | @paper n x k ms hn hx hk hm=>
  have e:kn (.tuple [.str "paper",.int n,.str x,.str k,.tuple (ms.map .str)])=NG "paper"::kA n::x::k::ms:=by
   show NG "paper"::kA n::x::k::oR (.tuple (ms.map .str))=_;rw [qM]
  rw [e];have:=hm.len;refine key (lits_wz _ UH) hn hx (by rw [NJ];omega) λz hz=>?_;rcases NO.mp hz with rfl | hz
  ·exact nA hk
  ·exact nA (hm.nm z hz)
 | two hw hn hx hy=>
  simp only [NO,NZ,or_false] at hw;refine key (ws:=[_]) (by rcases hw with rfl | rfl <;> exact lits_wz _ UH) hn hx UH λz hz=>?_;rw [PM] at hz;rw [hz];exact nA hy
 | rule hn hx hp=>
  have hr:=Mf hp;cases hp <;> exact key (lits_wz _ UH) hn hx hr.1 hr.2
 | one hw hn hx=>
  simp only [NO,NZ,or_false] at hw;exact key (ws:=[]) (by rcases hw with rfl | rfl <;> exact lits_wz _ UH) hn hx UH λz hz=>by cases hz
 | @hold n x g y b hn hx hg hy=>
  simp only [NO,NZ,or_false] at hg;have wg:Wz g:=by rcases hg with rfl | rfl <;> exact lits_wz _ UH
  refine key (ws:=[g,y]++if b=true then [NG "deep"] else []) (lits_wz _ UH) hn hx (by cases b <;> simp) λz hz=>?_;cases b
  ·simp only [NY,NO,NZ,or_false,N2,if_false] at hz;rcases hz with rfl | rfl
   ·exact wg
   ·exact nA hy
  ·simp only [if_true,N6,N9,NO,NZ,or_false] at hz;rcases hz with rfl | rfl | rfl
   ·exact wg
   ·exact nA hy
   ·exact lits_wz _ UH
theorem uK:∀{ws:List Str},(∀z∈ws,Wz z)->(ws.map (λx:Str=>x.length)).sum<=20*ws.length
 | [],_=>by simp
 | a::l,h=>by
  have ih:=uK (ws:=l) λz hz=>h z (by simp [hz]);have:=(h a UH).1;rw [NN,Qr,NJ];omega
theorem Mg{d:UI}(h:bM d):Pc (jT d)=true/\(jT d).length<=200:=by
 obtain⟨hl,hw⟩:=uJ h;have e:(jT d).cps.toList=lF 32 ((kn d).map λp=>p.cps.toList):=by
  unfold jT;rw [mQ,show Txt.join ⟨#[32]⟩ (kn d)=QM ⟨#[32]⟩ (kn d) from P7 _ _,pQ]
 refine⟨mZ.mpr λc hc=>?_,?_⟩
 ·rw [e] at hc;rcases uI hc with z | ⟨p,hp,z⟩
  ·rw [z];decide
  ·obtain⟨q,hq,rfl⟩:=Pb.mp hp;exact Tg (hw q hq |>.2 c z).2 Ce
 ·show(jT d).cps.size<=200;rw [<-N0,e];refine OB (AI _ _) ?_;rw [Pu,NS];have sm:=uK hw;have e2:(kn d).map (QV ∘ λp:Str=>p.cps.toList)=(kn d).map λx:Str=>x.length:=RP λz _=>N0;rw [e2];omega
def Mh:List UI->(UI->Prop)->Prop:=λds Q=>∃d,ds=[d]/\bM d/\Q (.str (jT d))
theorem Mi(T:Txt K mg t):aC P w K mg base CX0 6 t.a_Z t.d_Z ["deed"] (bf K Mh):=by
 have G_L:=@Lw P w _ _ base _ T;have G_Y:=@Ma P w _ _ base _ T;refine T.F_Z.F.okD KW (λds Q h=>?_) (λ_ _ _ _ H O ds Q E hr h=>?_)
 ·obtain⟨d,rfl,_⟩:=h;rfl
 ·obtain⟨d,rfl,hd,q⟩:=h;refine'⟨_,?A,?B⟩
  case A=>
   refine' ar ?C
   case' C=>generalize hG2:UA _ _ _ _=eg2
   refine' aA ?D
   case' D=>subst hG2
   exact(qo aF (df (fe (kK (df (fe (bB (aa (aj aO aS (dv 0) ae) (aa (au G_L hr T.F_L (aa (aj aO aS (dv 0) ae) ah)) (aa (aj aO aS (dv 0) ae) ah)))))) (df (au G_Y hr T.F_Y (aa (aj aO aS (dv 0) ae) (aa (wm (df (dv 0)) (dM ae) jR) ah))))))))
  case B=>
  clear hr T G_L G_Y;have hw:=uJ hd;obtain⟨w,n,x,r,rfl,hn⟩:=n9 hd;walk_at "a";have sm:=uK hw.2;have hl:=hw.1;have e:kn (.tuple (.str w:: .int n:: .str x::r))=w::kA n::x::mj r:=rfl;rw [e] at sm hl;refine⟨n,rfl,hn.1,uH hn,λy m k D=>?_⟩;rw [uF D];refine⟨w,r,n,x,rfl,hd,_,rfl,?_,w::kA n::x::mj r,rfl,?_,q⟩
  ·rw [NS];simp only [NJ] at hl;omega
  ·rw [AD];omega
local macro_rules | `(tactic| walk_at "d") =>rzT "sH ve vh vg vf sJ nK nJ tC oX vw rI mn rU vy vz oq sR tB uV uW uX va vb vc vd rB rA sV rC vE vF rg p7 qZ vm vn BE BF BG BH BI BJ BK BL bV cn bW L2.start NN Of NJ N8 NP N6 N9 NY OE OF ON OO OP NU NR N4 N5 Oa exists_eq_left' exists_eq_left exists_and_left exists_and_right V.int.injEq V.bl.injEq V.str.injEq V.ref.injEq NQ and_true true_and OQ exists_const decide_eq_true_eq OR OS OH OI N1 decide_eq_false_iff_not and_assoc bC Oi Oc Oj L2.cxK L2.cmK or_true true_or sS if_true if_false N2 Ob not_true_eq_false not_false_eq_true OK OA ite_true ite_false eq_self L2.E0 exists_eq forall_eq'"
def kM(z:Str):UI:=match lQ z with
 | some k=>.int k
 | none=>.none
def Mj:List UI->(UI->Prop)->Prop:=λds Q=>∃z:Str,ds=[.str z]/\z.length<=1000/\Q (kM z)
theorem Mk(T:Txt K mg t):aC P w K mg base CX0 5 t.a_b t.d_b ["word"] (bf K Mj):=by
 have G_N:=@LA P w _ _ base _ T;refine T.F_b.F.ok KZ (λvs H Q E h=>?_) (λcdv A outer s H vs Q E hr h=>?_)
 ·obtain⟨O,ds,Qd,_,r,⟨d,rfl,_⟩,_⟩:=h;exact r.length
 ·obtain⟨O,ds,Qd,tr,r,⟨z,rfl,hz,q⟩,k⟩:=h;obtain⟨v,rfl,r1⟩:∃v,vs=[v]/\Dt K H O v (.str z):=by
   cases r with
   | cons r1 r2=>cases r2;exact⟨_,rfl,r1⟩
  refine'⟨_,?A,?B⟩
  case A=>
   refine' kh ?C
   case C=>exact(Kw (C:=t.u_NoText) G_N (hr.mono Ce) rfl T.F_N.m T.F_N.kp T.F_N.b (λE'=>(aN (pv 0) bF)) rfl rfl T.c_NoText rfl T.xm_NoText.seen T.xm_NoText.seen Ce T.i_NoText_NoText (λe=>(kh (kG oW))))
  case B=>
  walk_at "d";have ha:Ef (.str z):=And.intro (λx h=>by cases h) (λy h=>by cases h;exact hz);refine⟨_,rfl,O,[.str z],λx=>x=kM z,λn=>lQ z=none,tr,.cons r1 .nil,⟨_,rfl,ha,λk hk=>?_,λh=>h⟩,?_,?_⟩
  ·unfold kM;rw [show lQ z=some k from hk]
  ·rintro x v2 H2 rfl s2 r2;exact k _ _ _ q s2 r2
  ·rintro n hn dd H2 s2 hdd;refine⟨rfl,λe he=>?_⟩;walk_at "d";have e0:kM z= .none:=by unfold kM;rw [hn]
   rw [e0] at q;exact k _ _ _ q (s2.trans (ao.new he)) .non
def AJ(a:Nat):List Nat:=[48+a]
def AK(a:Nat):List Nat:=[48+a / 100,48+a / 10 % 10,48+a % 10]
theorem Ml:∀m:Fin 10,intText? ⟨(AJ m.val).toArray⟩=some (m.val:Int):=td
theorem Mm:∀m:Fin 1000,intText? ⟨(AK m.val).toArray⟩=some (m.val:Int):=td
theorem AL{z:Str}{k:Int}(h:bG z k=true)(h1:1<=k)(h3:k<=3):∃y:Nat,y < 1000/\intText? z=some (y:Int):=by
 unfold bG at h;rw [Oo,decide_eq_true_eq,Pg] at h;obtain⟨hl,hm⟩:=h;have hz:z.cps.toList.length=1\/z.cps.toList.length=2\/z.cps.toList.length=3:=by rw [show z.cps.toList.length=z.length from N0];omega
 have fm:∀x∈z.cps.toList,48<=x/\x < 58:=λx hx=>sA (by simpa using hm x hx)
 match e:z.cps.toList with
 | [a]=>
  have ha:=fm a (by rw [e];simp);have e1:[a]=AJ (a - 48):=by unfold AJ;rw [NQ];exact⟨UC,rfl⟩
  exact⟨a - 48,UC,by rw [pU e,e1];exact Ml ⟨a - 48,UC⟩⟩
 | [a,b]=>
  have ha:=fm a (by rw [e];simp);have hb:=fm b (by rw [e];simp);have e1:[a,b]=d2 ((a - 48)*10+(b - 48)):=by unfold d2;rw [NQ,NQ];exact⟨UC,UC,rfl⟩
  exact⟨(a - 48)*10+(b - 48),UC,by rw [pU e,e1];exact qA ⟨_,UC⟩⟩
 | [a,b,c]=>
  have ha:=fm a (by rw [e];simp);have hb:=fm b (by rw [e];simp);have hc:=fm c (by rw [e];simp);have e1:[a,b,c]=AK ((a - 48)*100+(b - 48)*10+(c - 48)):=by unfold AK;rw [NQ,NQ,NQ];exact⟨UC,UC,UC,rfl⟩
  exact⟨(a - 48)*100+(b - 48)*10+(c - 48),UC,by rw [pU e,e1];exact Mm ⟨_,UC⟩⟩
 | []=>rw [e] at hz;simp at hz
 | _::_::_::_::r=>rw [e] at hz;simp at hz
def sF(z:Str):Prop:=1<=z.length/\z.length<=3/\bG z (z.length:Int)=true/\¬(1 < z.length/\z.cps.toList.headD 48=48)
instance {z:Str}:Decidable (sF z):=by unfold sF;infer_instance
def nB(z:Str):UI:=if sF z then .int (nv z) else .none
def Mo:List UI->(UI->Prop)->Prop:=λds Q=>∃z:Str,ds=[.str z,.int 3]/\z.length<=1000/\Q (nB z)
theorem Mp(T:Txt K mg t):aC P w K mg base CX0 2 t.a_a t.d_a ["word","figures"] (bf K Mo):=by
 have G_M:=@D9 P w _ _ base _ T;refine T.F_a.F.okD KY (λds Q h=>?_) (λ_ _ _ _ H O ds Q E hr h=>?_)
 ·obtain⟨m,rfl,_⟩:=h;rfl
 ·obtain⟨z,rfl,hz,q⟩:=h;refine'⟨_,?A,?B⟩
  case A=>
   refine' ai ?C ?D
   case C=>
    refine' aL ?E ?F aK
    case E=>exact(PW.pt (kB (kr (oC jY jY bT bT (df ae) (df (PE.imp (aT mS rfl T.n_len Og (aw (dv 0) az)) (aE nh))) (df (dv 1)))) (lh (kr (cy (au G_M hr T.F_M (aa (dv 0) (aa (PE.imp (aT mS rfl T.n_len Og (aw (dv 0) az)) (aE nh)) ah))))))))
    case F=>refine' ar (aA ku)
   case' D=>refine' ar ?G
   case' G=>refine' aA ?H
   case H=>exact(tE (PW.pt (kQ (aI oY bT (PE.imp (aT mS rfl T.n_len Og (aw (dv 0) az)) (aE nh)) ae (aB _)) (md (aI (ki hr) kj (aj sY tJ (dv 0) ae) aF (aB _))))) ku (PE.imp (cJ qw rfl T.n_int mH (aw (dv 0) az)) (aE qx)))
  case B=>
  clear hr T G_M;simp only [Ea,true_and,↓iU,↓i6,↓i8,↓i9,↓ja,↓jb,↓jd,↓iV,↓eZ,↓iu,↓jG,↓jH,↓jI,↓jJ,↓jK,↓jL,↓iw,↓ix,↓iy,↓iz,↓iA,↓iB,↓iC,↓iD,↓iE,↓iF,↓iG,↓iH,↓iI,↓iJ,↓iK,↓iL,↓iM,↓iN,↓iO,↓iP,↓iQ,↓iR,↓iS,↓iT,cf,cz,cg,cV,fA,fB,cU,cW,cX,di,dj,fJ,cK,dC,bw,dI,dA,dB,dD,fO,dE,bX,dW,dU,dG,dF,dL,cC,cL,fx,cx,cq,bI,cO,cP,cQ,cR,fy,cS,cT,cu,cw,fz,gu,gx,gy,gz,gA,gB,gC,gD,gE,gF,gG,gH,gI,gJ,gK,gL,gM,gN,gO,gP,gQ,gR,gS,gT,gU,gW,gX,gY,gZ,g6,g9,hG,hJ,hV,hW,hX,hZ,ic,ie,ig,ij,ik,il,eR,dN,fN,dX,cH,fQ,d6,dH,dJ,dO,dP,dQ,dR,dS,cF,dY,dZ,d3,bS,fK,fL,fM,fC,fD,fE,fF,dm,fG,dn,fH,eM,eQ,gn,gp,gr,gm,gs,eF,eG,eJ,eL,bY,eO,eN,er,eD,eT,eV,eX,eY,b0,ip,iq,iX,iW,iY,iZ,i3,i4,i5,ff,fg,jh,jf,jg,je,jm,ji,jj,jk,jl,cI,fh,jr,jt,jn,jo,jq,ju,jv,jw,fj,jx,jy,jA,jB,fk,jC,jD,jE,jz,jF,fq,ft,fu,fv,jM,jN,jO,bL,fY,fZ,gb,gc,gf,gh,gi,gj,gk,ne_eq,bZ,fU,fV,fW,fX,fR,fS,fT,cD,cE,dz,cY,dh,c7,cZ,bR,bQ,bg,bV,cn,bW,NN,Of,NJ,N8,NP,N6,N9,NY,OE,OF,ON,OO,OP,NU,NR,Oc,N4,N5,Oa,exists_eq_left',exists_eq_left,exists_and_left,exists_and_right,Oi,Oj,Sl.v.injEq,Sl.o.injEq,Sl.k.injEq,Oq,Ol,Ov,Oe,Om,NQ,and_true,true_and,OQ,Ow,exists_const,decide_eq_true_eq,OR,OS,OH,OI,N1,decide_eq_false_iff_not,and_assoc,or_true,true_or,↓reduceIte,if_true,if_false,N2,Ob,not_true_eq_false,not_false_eq_true,OK,OA,ite_true,ite_false,eq_self,exists_eq,reduceCtorEq,false_and,and_false,or_false,false_or,exists_false,Ox,Oy,cb,OG,OT,OD,OU,N3,OC,Od,OM,aV,bz,bU,cG,d7,bo,eg,ei,beq_self_eq_true,d8,d9,fP,bu,UY];have hl:z.cps.toList.length=z.length:=N0;have no:¬sF z->Q .none:=λh=>by unfold nB at q;rw [UD h] at q;exact q
  refine⟨UC,?_⟩;split
  ·rename_i h1;split
   ·rename_i h2;exact no λh=>by have:=h.2.1;omega
   ·rename_i h2;refine⟨UC,UC,?_⟩;by_cases hf:bG z (z.length:Int)=true
    ·rw [UD (by rw [hf];decide)];refine⟨UC,?_⟩;obtain⟨y,y1,y2⟩:=AL hf h1 UC;have fin:¬(1 < z.length/\z.cps.toList.headD 48=48)->∃x,intText? z=some x/\z.length<=640/\Q (.int x):=λh=>by
      have g:sF z:=⟨UC,UC,hf,h⟩;unfold nB at q;rw [UE g] at q;exact⟨_,y2,UC,by unfold nv at q;rw [y2] at q;exact q⟩
     split
     ·rename_i h3;refine⟨UC,?_⟩
      match e:z.cps.toList with
      | []=>rw [e] at hl;simp at hl;omega
      | c::r=>
       refine⟨c,aV,?_⟩;by_cases hc:c=48
       ·rw [UE (by rw [hc];decide+kernel)];exact no λh=>h.2.2.2 ⟨UC,by rw [e,hc];rfl⟩
       ·rw [UD λz=>hc (by
         have z:=eq_of_beq z;rw [show NG "0"=⟨#[48]⟩ by decide+kernel] at z;simpa using z)]
        exact fin λh=>hc (by have:=h.2;rw [e] at this;exact this)
     ·rename_i h3;exact fin λh=>h3 UC
    ·rw [UE (by simpa using hf)];exact no λh=>hf h.2.2.1
  ·rename_i h1;exact no λh=>by have:=h.1;omega
theorem Ey{xs:List UI}{k:Nat}:bx xs none (some (k:Int))=xs.take k:=by
 by_cases h:k<=xs.length
 ·rw [pE UC UC,O9]
 ·unfold bx;have e:HT.sIx xs.length xs.length (some (k:Int))=xs.length:=by
   simp only [HT.sIx];rw [UD UC,O9];omega
  rw [ph,SJ,Uj,e,Po (NV _),Po UC]
theorem Mq{xs:List UI}{k:Nat}:bx xs (some (k:Int)) none=xs.drop k:=by
 by_cases h:k<=xs.length
 ·rw [pF UC UC,O9]
 ·unfold bx;have e:HT.sIx xs.length 0 (some (k:Int))=xs.length:=by
   simp only [HT.sIx];rw [UD UC,O9];omega
  rw [e,RB (NV _),RB UC,List.take_nil]
theorem uL{ws:List Str}{k:Nat}:bx (ws.map NI) none (some (k:Int))=(ws.take k).map .str:=by rw [Ey,RG]
theorem oS{ws:List Str}{k:Nat}:bx (ws.map NI) (some (k:Int)) none=(ws.drop k).map .str:=by rw [Mq,S4]
theorem Ez:∀{ws:List Str},(∀z∈ws,Pc z=true)->Pz (ws.map .str)=true/\QS (ws.map .str)=0
 | [],_=>⟨rfl,rfl⟩
 | z::r,h=>by
  obtain⟨a,b⟩:=Ez (ws:=r) λy hy=>h y (by simp [hy]);rw [NN,Pz,QS,a,b,Pe,h z UH];exact⟨rfl,rfl⟩
theorem pX{ws:List Str}(h:∀z∈ws,Pc z=true):P9 (.list (ws.map .str))=true/\P9 (.tuple (ws.map .str))=true:=by
 obtain⟨a,b⟩:=Ez h;unfold P9;rw [Pe,Pe,Sj,Sj,a,b];exact⟨rfl,rfl⟩
theorem uM:∀{a b:List Str},Pl (a.map .str) (b.map .str)=decide (a=b)
 | [],[]=>by simp [Pl]
 | [],_::_=>by simp [Pl]
 | _::_,[]=>by simp [Pl]
 | x::a,y::b=>by
  rw [NN,NN,Pl,bo,uM,P6];simp
def kX(ws:List Str):List UI:=ws.map .str
def qO:List Str->UI
 | [a,b,c,d,e]=>.tuple [.str a,.str b,.tuple (kX (Txt.split c (NG ":"))),nB d,.str e]
 | ws=>.tuple (kX ws)
def Mr:List UI->(UI->Prop)->Prop:=λds Q=>∃ws:List Str,ds=[.list (kX ws)]/\ws.length<=1002/\(∀z∈ws,z.length<=1000)/\Q (qO ws)
theorem Ms(T:Txt K mg t):aC P w K mg base CX0 3 t.a_c t.d_c ["words"] (bf K Mr):=by
 have G_a:=@Mp P w _ _ base _ T;refine T.F_c.F.okD K0 (λds Q h=>?_) (λ_ _ _ _ H O ds Q E hr h=>?_)
 ·obtain⟨p,rfl,_⟩:=h;rfl
 ·obtain⟨ws,rfl,hl,hw,q⟩:=h;refine'⟨_,?A,?B⟩
  case A=>
   refine' ai ?C ?D
   case C=>
    refine' aL ?E ?F aK
    case E=>exact(aI (mV hr.units) mW (PE.imp (aT jZ rfl T.n_len Og (aw (dv 0) az)) (aE j9)) ae (aB _))
    case' F=>refine' ar ?G
    case G=>exact(aA (PE.imp (cJ mG rfl T.n_tuple lz (aw (dv 0) az)) (aE mK)))
   case' D=>refine' ar ?H
   case' H=>generalize hG6:Expr.Tuple _ _ _=eg6
   refine' aA ?I
   case' I=>subst hG6
   refine' cM ?J
   case' J=>refine' aa ?K ?L
   case K=>exact(aj aM aR (dv 0) ae)
   case' L=>refine' aa ?M ?N
   case M=>exact(aj aM aR (dv 0) ae)
   case' N=>refine' aa ?O ?P
   case O=>exact(PE.imp (cJ mG rfl T.n_tuple lz (aw (fe (pO (aj aM aR (dv 0) ae) aF)) az)) (aE mK))
   case' P=>refine' aa ?Q ?R
   case Q=>exact(au G_a hr T.F_a (aa (aj aM aR (dv 0) ae) (aa (dc (jX rfl T.c_MANY_FIGURES T.r_MANY_FIGURES) (λ_ _=>.int _)) ah)))
   case' R=>refine' aa ?S ah
   case S=>exact(aj aM aR (dv 0) ae)
  case B=>
  clear hr T G_a;unfold kX;walk_at "a"
  match ws,hl,hw,q with
  | [a,b,c,d,e],hl,hw,q=>
   rw [UD UH];simp only [true_and,and_true,↓iU,↓i6,↓i8,↓i9,↓ja,↓jb,↓jd,↓iV,↓eZ,↓iu,↓jG,↓jH,↓jI,↓jJ,↓jK,↓jL,↓iw,↓ix,↓iy,↓iz,↓iA,↓iB,↓iC,↓iD,↓iE,↓iF,↓iG,↓iH,↓iI,↓iJ,↓iK,↓iL,↓iM,↓iN,↓iO,↓iP,↓iQ,↓iR,↓iS,↓iT,cf,cz,cg,cV,fA,fB,cU,cW,cX,di,dj,fJ,cK,dC,bw,dI,dA,dB,dD,fO,dE,bX,dW,dU,dG,dF,dL,cC,cL,fx,cx,cq,bI,cO,cP,cQ,cR,fy,cS,cT,cu,cw,fz,gu,gx,gy,gz,gA,gB,gC,gD,gE,gF,gG,gH,gI,gJ,gK,gL,gM,gN,gO,gP,gQ,gR,gS,gT,gU,gW,gX,gY,gZ,g6,g9,hG,hJ,hV,hW,hX,hZ,ic,ie,ig,ij,ik,il,eR,dN,fN,dX,cH,fQ,d6,dH,dJ,dO,dP,dQ,dR,dS,cF,dY,dZ,d3,bS,fK,fL,fM,fC,fD,fE,fF,dm,fG,dn,fH,eM,eQ,gn,gp,gr,gm,gs,eF,eG,eJ,eL,bY,eO,eN,er,eD,eT,eV,eX,eY,b0,ip,iq,iX,iW,iY,iZ,i3,i4,i5,ff,fg,jh,jf,jg,je,jm,ji,jj,jk,jl,cI,fh,jr,jt,jn,jo,jq,ju,jv,jw,fj,jx,jy,jA,jB,fk,jC,jD,jE,jz,jF,fq,ft,fu,fv,jM,jN,jO,bL,fY,fZ,gb,gc,gf,gh,gi,gj,gk,ne_eq,bZ,fU,fV,fW,fX,fR,fS,fT,cD,cE,dz,cY,dh,c7,cZ,bR,bQ,bg,bV,cn,bW,NN,Of,NJ,N8,NP,N6,N9,NY,OE,OF,ON,OO,OP,NU,NR,Oc,N4,N5,Oa,exists_eq_left',exists_eq_left,exists_and_left,exists_and_right,Oi,Oj,Sl.v.injEq,Sl.o.injEq,Sl.k.injEq,Oq,Ol,Ov,Oe,Om,NQ,and_true,true_and,OQ,Ow,exists_const,decide_eq_true_eq,OR,OS,OH,OI,N1,decide_eq_false_iff_not,and_assoc,or_true,true_or,↓reduceIte,if_true,if_false,N2,Ob,not_true_eq_false,not_false_eq_true,OK,OA,ite_true,ite_false,eq_self,exists_eq,reduceCtorEq,false_and,and_false,or_false,false_or,exists_false,Ox,Oy,cb,OG,OT,OD,OU,N3,OC,Od,OM,aV,bz,bU,cG,d7,bo,eg,ei,beq_self_eq_true,d8,d9,fP,bu,UY];have hc:=hw c UH;have hd:=hw d UH;exact⟨td,UC,d,rfl,hd,q⟩
  | [],_,_,q=>rw [UE UH];exact q
  | [_],_,_,q=>rw [UE UH];exact q
  | [_,_],_,_,q=>rw [UE UH];exact q
  | [_,_,_],_,_,q=>rw [UE UH];exact q
  | [_,_,_,_],_,_,q=>rw [UE UH];exact q
  | _::_::_::_::_::_::r,_,_,q=>rw [UE (by simp;omega)];exact q
def mD(w:Str)(ws:List Str):List UI:=
 if w="paper" then kX (ws.take 1)++[.tuple (kX (ws.drop 1))]
 else if w="rule" then [qO ws]
 else if w="hold" then [.tuple (kX (ws.take 2)),.bool (decide (ws.drop 2=[NG "deep"]))]
 else kX ws
def Mt:List UI->(UI->Prop)->Prop:=λds Q=>∃(w:Str)(ws:List Str),ds=[.str w,.list (kX ws)]/\ws.length<=1002/\(∀z∈ws,z.length<=1000/\Pc z=true)/\Q (.tuple (mD w ws))
theorem Mu(T:Txt K mg t):aC P w K mg base CX0 4 t.a_d t.d_d ["word","words"] (bf K Mt):=by
 have G_c:=@Ms P w _ _ base _ T;refine T.F_d.F.okD K1 (λds Q h=>?_) (λ_ _ _ _ H O ds Q E hr h=>?_)
 ·obtain⟨w,ws,rfl,_⟩:=h;rfl
 ·obtain⟨w,ws,rfl,hl,hw,q⟩:=h;refine'⟨_,?A,?B⟩
  case A=>
   refine' ai ?C ?D
   case C=>
    refine' aL ?E ?F aK
    case E=>exact(aI (ki hr) kj (dv 0) aF (aB _))
    case' F=>refine' ar ?G
    case' G=>refine' aA ?H
    case' H=>refine' aP nj nk ?I ?J
    case I=>exact(PE.imp (cJ mG rfl T.n_tuple lz (aw (fe (kC (df (dv 1)) jR (dM ae))) az)) (aE mK))
    case J=>exact(cM (aa (PE.imp (cJ mG rfl T.n_tuple lz (aw (fe (kC (df (dv 1)) (dM ae) jR)) az)) (aE mK)) ah))
   case' D=>refine' ai ?K ?L
   case K=>
    refine' aL ?M ?N aK
    case M=>exact(aI (ki hr) kj (dv 0) aF (aB _))
    case' N=>refine' ar ?O
    case O=>exact(aA (cM (aa (au G_c hr T.F_c (aa (dv 1) ah)) ah)))
   case' L=>refine' ai ?P ?Q
   case P=>
    refine' aL ?R ?S aK
    case R=>exact(aI (ki hr) kj (dv 0) aF (aB _))
    case' S=>refine' ar ?T
    case' T=>refine' aA ?U
    case' U=>refine' cM ?V
    case' V=>refine' aa ?W ?X
    case W=>exact(PE.imp (cJ mG rfl T.n_tuple lz (aw (fe (kC (df (dv 1)) jR (dM ae))) az)) (aE mK))
    case' X=>refine' aa ?Y ah
    case Y=>exact(j5 (j7 hr.units) j8 (df (fe (kC (df (dv 1)) (dM ae) jR))) (df (fe (bB (aa aF ah)))) (aB _))
   case' Q=>refine' ar ?Z
   case Z=>exact(aA (PE.imp (cJ mG rfl T.n_tuple lz (aw (dv 1) az)) (aE mK)))
  case B=>
  clear hr T G_c;unfold kX;walk_at "a";have t1:bx (ws.map NI) none (some 1)=(ws.take 1).map .str:=uL (k:=1);have t2:bx (ws.map NI) none (some 2)=(ws.take 2).map .str:=uL (k:=2);have d1:bx (ws.map NI) (some 1) none=(ws.drop 1).map .str:=oS (k:=1);have d2:bx (ws.map NI) (some 2) none=(ws.drop 2).map .str:=oS (k:=2);rw [t1,t2,d1,d2];unfold mD kX at q;have bq:∀{u v:Str},(u==v)=true↔u=v:=beq_iff_eq;simp only [bq];split
  ·rename_i h;rw [UE h] at q;exact⟨by rw [NS,Pn];omega,q⟩
  ·rename_i h;rw [UD h] at q;split
   ·rename_i h2;rw [UE h2] at q;exact⟨ws,rfl,hl,λz hz=>(hw z hz).1,q⟩
   ·rename_i h2;rw [UD h2] at q;split
    ·rename_i h3;rw [UE h3] at q;refine⟨(pX λz hz=>(hw z (P1 hz)).2).1,td,?_⟩;rw [show((O7 ((ws.drop 2).map .str)).eqv (O7 [NI (NG "deep")]))=decide (ws.drop 2=[NG "deep"]) by rw [NT];exact uM (b:=[NG "deep"])];exact q
    ·rename_i h3;rw [UD h3] at q;exact q
def sG:List Str->UI
 | w::b::x::more=>.tuple ([.str w,kM b,.str x]++mD w more)
 | _=>.none
theorem Mv(d:Int):∃y m n,k8 d y m n:=by
 have yo:=Dc d;generalize pP d=y at yo;have key:∀k:Nat,k<=12->d - bb y < aH y ((k:Int)+1)->∃mo:Int,1<=mo/\mo<=12/\aH y mo<=d - bb y/\d - bb y < aH y (mo+1):=λk=>by
  induction k with
  | zero=>intro _ h;rw [show((0:Nat):Int)+1=1 from rfl,qz] at h;omega
  | succ k ih=>
   intro hk h;by_cases z:d - bb y < aH y ((k:Int)+1)
   ·exact ih UC z
   ·exact⟨(k:Int)+1,UC,UC,UC,by rw [show((k+1:Nat):Int)+1=(k:Int)+1+1 by omega] at h;exact h⟩
 have ys:=tX y;have ba:=se y;obtain⟨mo,m1,m2,h1,h2⟩:=key 12 (NV _) (by rw [show((12:Nat):Int)+1=13 from rfl];omega);have bs:=kU (y:=y) m1;exact⟨y,mo,d - bb y - aH y mo+1,m1,m2,UC,UC,by unfold lE;omega⟩
theorem EA{n:Int}(h:kT n):lQ (kA n)=some n:=by
 obtain⟨y,m,k,D⟩:=Mv n;have hy:=t6 D h.1 (uH h);have hb:=qy (y:=y) D.m1 D.m12;have:=D.m1;have:=D.m12;have:=D.n1;have:=D.nl;have e1:=wZ (y:=y.toNat) UC UC;have e2:=qA ⟨m.toNat,UC⟩;have e3:=qA ⟨k.toNat,UC⟩;simp only [QN (show 0<=y by omega),QN (show 0<=m by omega),QN (show 0<=k by omega)] at e1 e2 e3;rw [<-uF D];unfold lQ;rw [JA];have v1:nv ⟨(d4 y.toNat).toArray⟩=y:=by unfold nv;rw [e1];rfl
 have v2:nv ⟨(d2 m.toNat).toArray⟩=m:=by unfold nv;rw [e2];rfl
 have v3:nv ⟨(d2 k.toNat).toArray⟩=k:=by unfold nv;rw [e3];rfl
 have en:lE y m k=n:=D.eq;dsimp only;rw [v1,v2,v3,en,UE ⟨Ly UC,Eb UC,Eb UC,⟨UC,UC,UC,UC,UC,UC⟩,h.2⟩]
theorem Mw{n:Int}(h:kT n):kM (kA n)= .int n:=by unfold kM;rw [EA h]
theorem Mx{m:Int}(h0:0<=m)(h1:m<=999):nB (ke m)= .int m:=by
 obtain⟨⟨l1,l2⟩,f1,f2,_⟩:=AG h0 h1;have rd:intText? (ke m)=some m:=by
  obtain⟨k,rfl⟩:=OY h0;exact SQ UC UC
 unfold nB;rw [UE ⟨l2,l1,f1,λh=>f2 h.1 h.2⟩];unfold nv;rw [rd];rfl
theorem My{p:UI}(h:mf p):qO (lG p)=p:=by
 cases h with
 | wfl hw hk=>rfl
 | kg hw hk hs h0 h1 hu=>
  have hw:=AH hs;show O6 [_,_,.tuple (kX (Txt.split (Txt.join (NG ":") (jV _)) (NG ":"))),nB (ke _),_]=_;rw [qN,AF hw.1 λz hz=>(hw.2 z hz).2.1,Mx h0 h1];unfold kX;rw [<-(uG hs).1]
theorem Mz{w:Str}{n:Int}{x:Str}{r:List UI}(h:bM (.tuple (.str w:: .int n:: .str x::r))):mD w (mj r)=r:=by
 have nw:∀{u v:Str}{l:List Str},u∈l->(∀z∈l,z≠v)->¬u=v:=λh h2=>h2 _ h;have n1:¬(NG "rule"=NG "paper"):=td
 have n2:¬(NG "hold"=NG "paper"):=td
 have n3:¬(NG "hold"=NG "rule"):=td
 unfold mD;cases h with
 | @paper _ _ k ms _ _ _ hm=>
  have e:mj [NI k,O6 (Pd NI ms)]=k::ms:=by
   show k::oR (.tuple (ms.map .str))=_;rw [qM]
  rw [e,UE rfl];rfl
 | two hw=>rw [UD (nw hw td),UD (nw hw td),UD (nw hw td)];rfl
 | rule _ _ hp=>
  rw [UD n1,UE rfl];have e:∀{p:UI},mf p->mj [p]=lG p:=λh=>by cases h <;> rfl
  rw [e hp,My hp]
 | one hw=>rw [UD (nw hw td),UD (nw hw td),UD (nw hw td)];rfl
 | @hold _ _ g y b=>
  rw [UD n2,UD n3,UE rfl];have dd:(decide (([]:List Str)=[NG "deep"]))=false:=td
  have de:(decide (([NG "deep"]:List Str)=[NG "deep"]))=true:=td
  cases b
  ·show [_,RC (decide (([]:List Str)=[NG "deep"]))]=_;rw [dd];rfl
  ·show [_,RC (decide (([NG "deep"]:List Str)=[NG "deep"]))]=_;rw [de];rfl
theorem qP{d:UI}(h:bM d):Txt.split (jT d) (NG " ")=kn d/\sG (kn d)=d:=by
 have hw:=uJ h;obtain⟨w,n,x,r,rfl,hn⟩:=n9 h;constructor
 ·unfold jT;rw [mQ];exact AF (by simp [kn]) λz hz=>Mb (hw.2 z hz)
 ·show O6 ([.str w,kM (kA n),.str x]++mD w (mj r))=_;rw [Mw hn,Mz h];rfl
theorem uN{c:Nat}{z p:Str}(h:p∈Txt.split z ⟨#[c]⟩):p.length<=z.length:=by
 have h2:p.cps.toList∈km c z.cps.toList:=by
  rw [<-qC];exact Pb.mpr ⟨p,h,rfl⟩
 have:=sE _ h2;have e1:p.cps.toList.length=p.length:=N0;have e2:z.cps.toList.length=z.length:=N0;omega
theorem uO{c:Nat}:∀{l:List Nat},∀p∈km c l,∀x∈p,x∈l
 | [],p,h,x,hx=>by simp [km] at h;rw [h] at hx;cases hx
 | a::xs,p,h,x,hx=>by
  unfold km at h;split at h
  ·rcases NO.mp h with e | h
   ·rw [e] at hx;cases hx
   ·exact OZ _ (uO p h x hx)
  ·split at h
   ·rename_i e;exact absurd e (xF c xs)
   ·rename_i q qs e;rcases NO.mp h with e2 | h
    ·rw [e2] at hx;rcases NO.mp hx with e3 | hx
     ·rw [e3];simp
     ·exact OZ _ (uO q (by rw [e];simp) x hx)
    ·exact OZ _ (uO p (by rw [e];simp [h]) x hx)
theorem uP{c:Nat}{z p:Str}(hz:Pc z=true)(h:p∈Txt.split z ⟨#[c]⟩):Pc p=true:=by
 have h2:p.cps.toList∈km c z.cps.toList:=by
  rw [<-qC];exact Pb.mpr ⟨p,h,rfl⟩
 exact mZ.mpr λx hx=>mZ.mp hz x (uO _ h2 x hx)
def nF(z:Str):Prop:=z.length<=1000/\Pc z=true
theorem qQ:∀{ws:List Str},(∀z∈ws,z.length<=1000)->lO (kX ws)=true
 | [],_=>rfl
 | z::r,h=>by
  show(bp (.str z) && lO (kX r))=true;rw [qQ λy hy=>h y (by simp [hy]),N3];show decide (z.length<=1000)=true;exact decide_eq_true (h z UH)
theorem EB:∀{a b:List UI},lO a=true->lO b=true->lO (a++b)=true
 | [],_,_,h=>h
 | x::a,b,h,h2=>by
  have h:(bp x && lO a)=true:=h;rw [Oo] at h;show(bp x && lO (a++b))=true;rw [h.1,EB h.2 h2];rfl
theorem MA(z:Str):bp (kM z)=true:=by unfold kM;split <;> rfl
theorem MB(z:Str):bp (nB z)=true:=by unfold nB;split <;> rfl
theorem qR{l:List UI}(h:lO l=true):bp (.tuple l)=true:=by simpa [bp] using h
theorem MC{ws:List Str}(h:∀z∈ws,z.length<=1000):bp (qO ws)=true:=by
 unfold qO;split
 ·rename_i a b c d e;have st:∀z∈[a,b,c,d,e],bp (.str z)=true:=λz hz=>decide_eq_true (h z hz);have tc:=qQ (ws:=Txt.split c (NG ":")) λz hz=>by
   rw [qN] at hz;exact OB (uN hz) (h c UH)
  refine qR ?_;show(bp (.str a) && (bp (.str b) && (bp (.tuple _) && (bp (nB d) && (bp (.str e) && true)))))=true;rw [st a UH,st b UH,st e UH,MB,qR tc];rfl
 ·exact qR (qQ h)
theorem MD{w:Str}{ws:List Str}(h:∀z∈ws,z.length<=1000):lO (mD w ws)=true:=by
 have tk:=λk=>qQ (ws:=ws.take k) λz hz=>h z (PQ hz);have dk:=λk=>qQ (ws:=ws.drop k) λz hz=>h z (P1 hz);unfold mD;split
 ·exact EB (tk 1) (by show(bp (.tuple _) && true)=true;rw [qR (dk 1)];rfl)
 ·split
  ·show(bp (qO ws) && true)=true;rw [MC h];rfl
  ·split
   ·show(bp (.tuple _) && (bp (.bool _) && true))=true;rw [qR (tk 2)];rfl
   ·exact qQ h
def ME:List UI->(UI->Prop)->Prop:=λds Q=>∃z,ds=[.str z]/\nF z/\(∀d,bM d->jT d=z->Q d)/\((∀d,bM d->jT d≠z)->Q .none)
theorem MF(T:Txt K mg t):aC P w K mg base CX0 7 t.a_e t.d_e ["row"] (bf K ME):=by
 have G_b:=@Mk P w _ _ base _ T;have G_d:=@Mu P w _ _ base _ T;have G_W:=@LO P w _ _ base _ T;have G_Z:=@Mi P w _ _ base _ T;refine T.F_e.F.okD Av (λds Q h=>?_) (λ_ _ _ _ H O ds Q E hr h=>?_)
 ·obtain⟨d,rfl,_⟩:=h;rfl
 ·obtain⟨z,rfl,hz,q1,q2⟩:=h;refine'⟨_,?A,?B⟩
  case A=>
   refine' ai ?C ?D
   case C=>exact(aJ (i:=1) Av.nd rfl UG (fe (pO (dv 0) aF)))
   case' D=>refine' ai ?E ?F
   case E=>
    refine' aL ?G ?H aK
    case G=>exact(aI qf bT (PE.imp (aT jZ rfl T.n_len Og (aw (dv 1) az)) (aE j9)) ae (aB _))
    case H=>refine' ar (aA ku)
   case' F=>refine' ai ?I ?J
   case I=>
    generalize hG8:T5 _ _ _ _=eg8;refine' aJ (i:=2) Av.nd rfl UG ?K (hs:=by subst hG8;exact pM)
    case' K=>subst hG8
    refine' aP nj nk ?L ?M
    case L=>
     refine' cM ?N
     case' N=>refine' aa ?O ?P
     case O=>exact(aj aM aR (dv 1) ae)
     case' P=>refine' aa ?Q ?R
     case Q=>exact(au G_b hr T.F_b (aa (aj aM aR (dv 1) ae) ah))
     case' R=>refine' aa ?S ah
     case S=>exact(aj aM aR (dv 1) ae)
    case M=>exact(au G_d hr T.F_d (aa (aj aM aR (dv 1) ae) (aa (fe (kC (df (dv 1)) (dM ae) jR)) ah)))
   case' J=>refine' ar ?T
   case' T=>refine' aA ?U
   case U=>exact(tE (PW.pt (kQ (cy (au G_W hr T.F_W (aa (dv 2) ah))) (md (aI (ki hr) kj (au G_Z hr T.F_Z (aa (dv 2) ah)) (dv 0) (aB _))))) (dv 2) ku)
  case B=>
  clear hr T G_b G_d G_W G_Z;walk_at "a";have hd:∀d,bM d->jT d=z->sG (Txt.split z (NG " "))=d:=λd h e=>by
   rw [<-e,(qP h).1];exact(qP h).2
  have hb:∀p∈Txt.split z (NG " "),p.length<=1000/\Pc p=true:=λp hp=>by
   rw [mQ] at hp;exact⟨OB (uN hp) hz.1,uP hz.2 hp⟩
  have hl:(Txt.split z (NG " ")).length<=1002:=OB (Q3 z _) (by have:=hz.1;omega);refine⟨td,by have:=hz.1;omega,?_⟩;generalize Txt.split z (NG " ")=ws at*;have few:ws.length < 3->Q .none:=λh=>q2 λd hv e=>by
   have e:=hd d hv e;obtain⟨w,n,x,r,rfl,_⟩:=n9 hv
   match ws,h with
   | [],_=>cases e
   | [_],_=>cases e
   | [_,_],_=>cases e
  match ws with
  | []=>rw [UE UH];exact few UH
  | [_]=>rw [UE UH];exact few UH
  | [_,_]=>rw [UE UH];exact few UH
  | w::b::x::more=>
   clear few;rw [UD (by simp only [NS,NJ];omega)];have ec:bx (Pd NI (w::b::x::more)) (some 3) none=kX more:=by
    rw [show bx (Pd NI (w::b::x::more)) (some 3) none=_ from oS (k:=3)];rfl
   rw [ec];have hm:∀z∈more,z.length<=1000/\Pc z=true:=λz hz=>hb z (by simp [hz]);have pl:(mD w more).length<=1004:=by
    simp only [NJ] at hl;unfold mD kX;split
    ·rw [Pq,NS,Pn];simp;omega
    ·split
     ·simp
     ·split
      ·simp
      ·rw [NS];omega
   refine⟨.str w,aV,.str b,bz,b,rfl,(hb b UH).1,.str x,bU,.str w,aV,w,more,rfl,by simp only [NJ] at hl;omega,hm,_,rfl,UC,?_⟩;have ed:O6 (.str w::kM b:: .str x::mD w more)=sG (w::b::x::more):=rfl;rw [ed];have tg:bp (sG (w::b::x::more))=true:=by
    refine qR ?_;show(bp (.str w) && (bp (kM b) && (bp (.str x) && lO (mD w more))))=true;rw [MA,MD λz hz=>(hm z hz).1,show bp (.str w)=true from decide_eq_true (hb w UH).1,show bp (.str x)=true from decide_eq_true (hb x UH).1];rfl
   refine⟨_,rfl,tg,_,rfl,?_⟩;generalize sG (w::b::x::more)=d0 at*;by_cases hv:lr d0=true
   ·rw [UE hv];have hv:=CB.mp hv;refine⟨d0,rfl,hv,rfl,?_⟩;rw [bo];by_cases ee:jT d0=z
    ·rw [UE (by rw [ee];simp)];exact q1 d0 hv ee
    ·rw [UD (by simpa using ee)];exact q2 λd h e=>ee (by rw [hd d h e];exact e)
   ·rw [UD hv];exact q2 λd h e=>hv (by rw [hd d h e];exact CB.mpr h)
def MG:uk:=λds Q R=>∃d,ds=[d]/\(∀x,d≠ .dict [(.none,x)])/\(∀z,d= .str z->nF z)/\(∀e,bM e->d= .str (jT e)->Q e)/\((∀e,bM e->d≠ .str (jT e))->R 0)
theorem MH(T:Txt K mg t):aC P w K mg base (kc P w) 8 t.a_f t.d_f ["text"] (um K t.u_NoText "row" MG):=by
 have G_e:=@MF P w _ _ base _ T;have G_A:=@DN P w _ _ base _ T;refine T.F_f.F.okDXn DH (λds Q R h=>?_) (λcdv A outer s H O ds Q R E hr h hx=>?_)
 ·obtain⟨d,rfl,_⟩:=h;rfl
 ·obtain⟨d,rfl,hd,hz,q1,q2⟩:=h;refine'⟨_,?A,?B⟩
  case A=>
   refine' ai ?C ?D
   case C=>
    refine' aJ (i:=1) DH.nd rfl UG ?E (hs:=ID)
    case E=>exact(tE (cy (mh (K':=K) (T:="str") rfl rfl T.n_isinstance kZ (df (dv 0)) (lI (v:= .ty "str") rfl T.n_str mr rfl))) (au G_e hr T.F_e (aa (dv 0) ah)) ku)
   case' D=>refine' ai ?F ?G
   case F=>
    refine' aL ?H ?I aK
    case H=>exact(aI sQ wI (dv 1) ku (aB _))
    case' I=>refine' ar ?J
    case J=>exact(sg hx P4 T.xm_NoText G_A hr T.c_NoText T.F_A.b (aa ae ah))
   case' G=>refine' ar ?K
   case K=>exact(aA (dv 1))
  case B=>
  clear hr T hx G_e G_A;walk_at "a";simp only [wz];refine⟨_,rfl,hd,?_⟩;cases d with
  | str z=>
   rw [show rR (.str z)=true from rfl,UE rfl];refine⟨z,rfl,hz z rfl,λe he ee=>?_,λh=>?_⟩
   ·dsimp only;rw [UD (by cases he <;> simp [mN])];exact q1 e he (by rw [ee])
   ·dsimp only;rw [UE Ce];exact⟨Ce,td,q2 λe he ee=>h e he (by injection ee with ee;exact ee.symm)⟩
  | _=>exact⟨Ce,td,q2 λe he ee=>by cases ee⟩
end
local macro_rules | `(tactic| walk_at "d") =>rzT "sH ve vh vg vf sJ nK nJ tC oX vw rI mn rU vy vz oq sR tB uV uW uX va vb vc vd rB rA sV rC vE vF rg p7 qZ vm vn BE BF BG BH BI BJ BK BL bV cn bW L2.start NN Of NJ N8 NP N6 N9 NY OE OF ON OO OP NU NR N4 N5 Oa exists_eq_left' exists_eq_left exists_and_left exists_and_right V.int.injEq V.bl.injEq V.str.injEq V.ref.injEq NQ and_true true_and OQ exists_const decide_eq_true_eq OR OS OH OI N1 decide_eq_false_iff_not and_assoc bC Oi Oc Oj L2.cxK L2.cmK or_true true_or sS if_true if_false N2 Ob not_true_eq_false not_false_eq_true OK OA ite_true ite_false eq_self L2.E0 exists_eq forall_eq'"
open Day
theorem EC:fw (ay uu) ["_law_pack_here","_law_way","_law_year","_law_month","_law_last"] ["_law_k","_law_year"] 1 [2] ⟨OL,[ (NM ".0",Ww),(NM "_law_k",Ww),(NM "_law_length",OV),(NM "_law_year",Pt)],false,false,[]⟩:= .of
section
variable {P:UX} {w:UZ} {K:NH} {mg:Str->Option UJ} {base:UW} {t:k9}
theorem MI{y m:Int}(h1:1<=m)(h2:m<=12)(hm:m≠2):atI [NX 31,NX 29,NX 31,NX 30,NX 31,NX 30,NX 31,NX 31,NX 30,NX 31,NX 30,NX 31] (m - 1)=some (.int (aW y m)):=by
 have a:=tZ y;rcases wV h1 h2 with z | z | z | z | z | z | z | z | z | z | z | z <;> subst z
 ·rw [a.1];rfl
 ·exact absurd rfl hm
 ·rw [a.2.1];rfl
 ·rw [a.2.2.1];rfl
 ·rw [a.2.2.2.1];rfl
 ·rw [a.2.2.2.2.1];rfl
 ·rw [a.2.2.2.2.2.1];rfl
 ·rw [a.2.2.2.2.2.2.1];rfl
 ·rw [a.2.2.2.2.2.2.2.1];rfl
 ·rw [a.2.2.2.2.2.2.2.2.1];rfl
 ·rw [a.2.2.2.2.2.2.2.2.2.1];rfl
 ·rw [a.2.2.2.2.2.2.2.2.2.2];rfl
theorem ED{y:Int}(h:2000<=y):365*(y - 2000)<=bb y:=by unfold bb lb;omega
theorem pY(ss:List Str){i:Int}(h0:0<=i)(h1:i < ss.length):∃nm∈ss,atI (ss.map NI) i=some (.str nm):=by
 obtain⟨v,e,m⟩:=vV (xs:=ss.map NI) h0 (by rw [NS];exact h1);obtain⟨nm,hn,rfl⟩:=Pb.mp m;exact⟨nm,hn,e⟩
theorem MJ:∀m:Fin 100,Txt.slice (NG (toString (100+(m.val:Int)))) (some 1) none=⟨(d2 m.val).toArray⟩/\(NG (toString (100+(m.val:Int)))).length=3:=td
theorem EF{m:Int}(h0:0<=m)(h1:m < 100):Txt.slice (NG (toString (100+m))) (some 1) none=⟨(d2 m.toNat).toArray⟩/\(NG (toString (100+m))).length=3:=by
 obtain⟨k,rfl⟩:=OY h0;exact MJ ⟨k,UC⟩
theorem EG{y m n:Int}:Txt.join (NG "-") [⟨(d4 y.toNat).toArray⟩,⟨(d2 m.toNat).toArray⟩,⟨(d2 n.toNat).toArray⟩]=kW y m n:=by
 have e:NG "-"=⟨#[45]⟩:=td
 have h:(Txt.join (NG "-") [⟨(d4 y.toNat).toArray⟩,⟨(d2 m.toNat).toArray⟩,⟨(d2 n.toNat).toArray⟩]).cps.toList=(kW y m n).cps.toList:=by
  rw [e,show Txt.join ⟨#[45]⟩ [⟨(d4 y.toNat).toArray⟩,⟨(d2 m.toNat).toArray⟩,⟨(d2 n.toNat).toArray⟩]=QM ⟨#[45]⟩ _ from P7 _ _,pQ];simp [kW,qB,lF]
 have:=AE (a:=[_]) (b:=[_]) (congrArg (λl=>[l]) h);exact(List.cons.inj this).1
def EH:List UI->(UI->Prop)->Prop:=λds Q=>∃y m:Int,ds=[.int y,.int m]/\1<=m/\m<=12/\Q (.int (aW y m))
theorem AM(T:Txt K mg t):aC P w K mg base CX0 1 t.a_l t.d_l ["_law_year","_law_month"] (bf K EH):=by
 refine T.F_l.F.okD K4 (λds Q h=>?_) (λ_ _ _ _ H O ds Q E hr h=>?_)
 ·obtain⟨y,m,rfl,_⟩:=h;rfl
 ·obtain⟨y,m,rfl,h1,h2,q⟩:=h;refine'⟨_,?A,?B⟩
  case A=>
   refine' ai ?C ?D
   case C=>
    refine' aL ?E ?F aK
    case E=>exact(PW.pt (kQ (aI (j7 hr.units) j8 (dv 1) ae (aB _)) (md (PW.pt (kB (aI (mV hr.units) mW (aP nN mx (dv 0) ae) ae (aB _)) (lh (PW.pt (kQ (aI (j7 hr.units) j8 (aP nN mx (dv 0) ae) ae (aB _)) (md (aI (mV hr.units) mW (aP nN mx (dv 0) ae) ae (aB _)))))))))))
    case F=>refine' ar (aA ae)
   case' D=>refine' ar ?G
   case' G=>generalize hE6_0:Qs _ _=ee6_0
   exact(aA (aj aM aR (fe (mL (ds:=[.int 31,.int 29,.int 31,.int 30,.int 31,.int 30,.int 31,.int 31,.int 30,.int 31,.int 30,.int 31]) (by first | (subst hE6_0;rfl)))) (aP kO bP (dv 1) ae)))
  case B=>
  clear hr T;walk_at "a";have tb:=MI (y:=y) h1 h2;by_cases hm:m=2
  ·subst hm;have l1:=wR y;have e2:=wU y;have t29:mO y=true->∃d,atI [NX 31,NX 29,NX 31,NX 30,NX 31,NX 30,NX 31,NX 31,NX 30,NX 31,NX 30,NX 31] (2 - 1)=some d/\Q d:=λh=>⟨.int 29,rfl,by rw [e2] at q;unfold ld at q;rw [h] at q;exact q⟩;have t28:¬mO y=true->Q (.int 28):=λh=>by rw [e2] at q;unfold ld at q;rw [UD h] at q;exact q
   rw [UE Ce];split
   ·rename_i h4;exact t28 (by rw [l1];simp at h4;omega)
   ·rename_i h4;simp at h4;split
    ·rename_i h5;simp at h5;split
     ·rename_i h6;exact t28 (by rw [l1];simp at h6;omega)
     ·rename_i h6;exact t29 (l1.mpr (by simp at h6;omega))
    ·rename_i h5;exact t29 (l1.mpr (by simp at h5;omega))
  ·rw [UD (by simpa using hm)];exact⟨_,tb hm,q⟩
def EI:List UI->(UI->Prop)->Prop:=λds Q=>∃y:Int,ds=[.int y]/\Q (.int (bb y))
theorem AN(T:Txt K mg t):aC P w K mg base CX0 1 t.a_m t.d_m ["_law_year"] (bf K EI):=by
 refine T.F_m.F.okD DJ (λds Q h=>?_) (λ_ _ _ _ H O ds Q E hr h=>?_)
 ·obtain⟨y,rfl,_⟩:=h;rfl
 ·obtain⟨y,rfl,q⟩:=h;refine'⟨_,?A,?B⟩
  case A=>
   refine' ai ?C ?D
   case C=>exact(aJ (i:=1) DJ.nd rfl UG (aP kO bP (dv 0) ae))
   case' D=>refine' ar ?E
   case' E=>generalize hG4:T5 _ _ _ _=eg4
   refine' aA ?F
   case' F=>subst hG4
   exact(aP bO bP (aP kO bP (aP bO bP (aP qc mx ae (dv 1)) (aP nM mx (aP bO bP (dv 1) ae) ae)) (aP nM mx (aP bO bP (dv 1) ae) ae)) (aP nM mx (aP bO bP (dv 1) ae) ae))
  case B=>
  clear hr T;walk_at "a";have e:365*(y - 2000)+(y - 2000+3)/ 4 - (y - 2000+99)/ 100+(y - 2000+399)/ 400=bb y:=by rw [<-Jw y]
  rw [e];exact q
def MK:List UI->(UI->Prop)->Prop:=λds Q=>∃d:Int,ds=[.int d]/\kT d/\Q (.str (kA d))
theorem ML(T:Txt K mg t):aC P w K mg base CX0 2 t.a_n t.d_n ["_law_day"] (bf K MK):=by
 have G_m:=@AN P w _ _ base _ T;have G_l:=@AM P w _ _ base _ T;refine T.F_n.F.okD qG (λds Q h=>?_) (λ_ _ _ _ H O ds Q E hr h=>?_)
 ·obtain⟨d,rfl,_⟩:=h;rfl
 ·obtain⟨d,rfl,hd,q⟩:=h;refine'⟨_,?A,?B⟩
  case A=>
   refine' ai ?C ?D
   case C=>exact(aJ (i:=1) qG.nd rfl UG (aP bO bP ae (aP nM mx (dv 0) ae)))
   case' D=>refine' ai ?E ?F
   case E=>
    refine' C1 QA ?G ?H
    case G=>exact(aI jY bT (au G_m hr T.F_m (aa (aP bO bP (dv 1) ae) ah)) (dv 0) (aB _))
    case' H=>refine' ar ?I
    case I=>exact(aJ (i:=1) qG.nd rfl UG (aP bO bP (dv 1) ae))
   case' F=>refine' ai ?J ?K
   case J=>exact(Hu (i:=2) (j:=3) rfl qG.nd rfl rfl Ce rfl rfl (aa ae (aa (aP bO bP (aP kO bP (dv 0) (au G_m hr T.F_m (aa (dv 1) ah))) ae) ah)) (by rfl))
   case' K=>refine' ai ?L ?M
   case L=>
    refine' C1 QA ?N ?O
    case N=>exact(aI oY bT (dv 3) (au G_l hr T.F_l (aa (dv 1) (aa (dv 2) ah))) (aB _))
    case' O=>refine' ai ?P ?Q
    case P=>exact(aJ (i:=3) qG.nd rfl UG (aP kO bP (dv 3) (au G_l hr T.F_l (aa (dv 1) (aa (dv 2) ah)))))
    case' Q=>refine' ar ?R
    case R=>exact(aJ (i:=2) qG.nd rfl UG (aP bO bP (dv 2) ae))
   case' M=>refine' ar ?S
   case' S=>generalize hG16:UA _ _ _ _=eg16
   refine' aA ?T
   case' T=>subst hG16
   exact(qo aF (df (fe (bB (aa (PE.imp (cJ nO rfl T.n_str mr (aw (dv 1) az)) (aE nY)) (aa (qm (df (PE.imp (cJ nO rfl T.n_str mr (aw (aP bO bP ae (dv 2)) az)) (aE nY))) (dM ae) jR) (aa (qm (df (PE.imp (cJ nO rfl T.n_str mr (aw (aP bO bP ae (dv 3)) az)) (aE nY))) (dM ae) jR) ah)))))))
  case B=>
  clear hr T G_m G_l;walk_at "a";have d0:=hd.1;refine⟨λm δ=>∃y:Int,2000<=y/\bb y<=d/\m=(2001+d - y).toNat/\δ=[some (Sl.v (NX d)),some (Sl.v (NX y)),none,none],⟨_,_,UC,Jx d0,rfl,rfl⟩,?_⟩;rintro m δ ⟨y,y0,hy,rfl,rfl⟩;walk_at "a";refine⟨y+1,rfl,?_⟩;walk_at "a";by_cases hc:bb (y+1)<=d
  ·rw [UE hc];have:=ED (y:=y+1) UC;exact⟨_,UC,y+1,UC,hc,rfl,rfl⟩
  ·rw [UD hc];refine⟨y,rfl,?_⟩;walk_at "a";have ys:=tX y;refine⟨λm δ=>∃mo:Int,1<=mo/\mo<=12/\aH y mo<=d - bb y/\m=(12 - mo).toNat/\δ=[some (Sl.v (NX d)),some (Sl.v (NX y)),some (Sl.v (NX mo)),some (Sl.v (NX (d - bb y - aH y mo+1)))],⟨11,1,UC,UC,by rw [qz];omega,rfl,by rw [qz,Int.sub_zero]⟩,?_⟩;rintro m δ ⟨mo,m1,m2,hb,rfl,rfl⟩;have ba:=t4 (y:=y) m1 m2;have bs:=kU (y:=y) m1;walk_at "a";refine⟨y,mo,rfl,m1,m2,?_⟩;walk_at "a";split
   ·rename_i hge;have lt12:mo < 12:=by
     by_cases z:mo < 12
     ·exact z
     ·have e:mo=12:=UC
      subst e;rw [show(12:Int)+1=13 from rfl] at bs;have:=(se y);omega
    refine⟨y,mo,rfl,m1,m2,?_⟩;walk_at "a";exact⟨_,UC,mo+1,UC,UC,by rw [bs];omega,rfl,rfl,by rw [bs];omega⟩
   ·rename_i hlt;have D:k8 d y mo (d - bb y - aH y mo+1):=⟨m1,m2,UC,UC,by unfold lE;omega⟩;generalize d - bb y - aH y mo+1=n at D⊢;have hyb:=t6 D d0 (uH hd);have hb2:=qy (y:=y) m1 m2;have:=D.n1;have:=D.nl;have e1:=ua (y:=y.toNat) UC UC;rw [QN UC] at e1;obtain⟨s1,s2⟩:=EF (m:=mo) UC UC;obtain⟨s3,s4⟩:=EF (m:=n) UC UC;have lm:(NG "-").length=1:=td
    refine⟨n8 UC UC,n8 UC UC,by rw [s2];decide,n8 UC UC,by rw [s4];decide,?_,?_⟩
    ·rw [e1,s1,s3,lm];show 4+(2+(2+0))+3*1<=16777216;decide
    ·rw [e1,s1,s3,EG,uF D];exact q
def EJ:List UI->(UI->Prop)->Prop:=λds Q=>ds=[lT]/\∀d:Int,kT d->Q (.int d)
theorem MM(T:Txt K mg t):aC P w K mg base CX0 2 t.a_o t.d_o ["_law_pack_here"] (bf K EJ):=by
 have G_i:=@pW P w _ _ base _ T;have G_m:=@AN P w _ _ base _ T;have G_l:=@AM P w _ _ base _ T;refine T.F_o.F.okD sr (λds Q h=>?_) (λ_ _ _ _ H O ds Q E hr h=>?_)
 ·obtain⟨rfl,_⟩:=h;rfl
 ·obtain⟨rfl,q⟩:=h;refine'⟨_,?A,?B⟩
  case A=>
   refine' ai ?C ?D
   case C=>exact(aJ (i:=1) sr.nd rfl UG (au G_i hr T.F_i (aa (dv 0) (aa ae ah))))
   case' D=>refine' ai ?E ?F
   case E=>
    refine' aL ?G ?H aK
    case G=>exact(aI (j7 hr.units) j8 (dv 1) ae (aB _))
    case' H=>refine' ar ?I
    case I=>exact(aA (au G_i hr T.F_i (aa (dv 0) (aa ae ah))))
   case' F=>refine' ai ?J ?K
   case J=>
    refine' aL ?L ?M aK
    case L=>exact(aI (j7 hr.units) j8 (dv 1) ae (aB _))
    case' M=>refine' ar ?N
    case N=>exact(aA (au G_i hr T.F_i (aa (dv 0) (aa ae ah))))
   case' K=>refine' ai ?O ?P
   case O=>
    refine' aL ?Q ?R aK
    case Q=>exact(aI (j7 hr.units) j8 (dv 1) ae (aB _))
    case' R=>refine' ar ?S
    case' S=>generalize hE14_0:Qs _ _=ee14_0
    exact(aA (aj aM aR (fe (mL (ds:=[.int 0,.int 99999,.int 59,.int 60,.int 365,.int 366,.int 36524,.int 36525,.int 99996]) (by first | (subst hE14_0;rfl)))) (au G_i hr T.F_i (aa (dv 0) (aa ae ah)))))
   case' P=>refine' ai ?T ?U
   case T=>exact(B0 (cM (aa (aP bO bP ae (au G_i hr T.F_i (aa (dv 0) (aa ae ah)))) (aa (aP bO bP ae (au G_i hr T.F_i (aa (dv 0) (aa ae ah)))) ah))) (vj (n:=2) rfl (nL (jU (i:=2) sr.nd rfl UG) (nL (jU (i:=3) sr.nd rfl UG) sI))) (BZ (pz j6 (pz j6 vX))))
   case' U=>refine' ai ?V ?W
   case V=>
    refine' aJ (i:=4) sr.nd rfl UG ?X (hs:=pM)
    case X=>exact(aP kO bP (aP bO bP (au G_m hr T.F_m (aa (dv 2) ah)) (PE.imp (aT (vU rfl) rfl T.n_sum RJ (aw (fe (v9 rfl EC rfl T.n_range (aw ae (aw (aP bO bP (dv 3) ae) az)) j6 lL Ce (λ_ _ _ _=>(jU (i:=0) EC.nd rfl UG)) (λ_ _ _ _=>lM) (λ_ _ _ _=>(au G_l hr T.F_l (aa (dv 1) (aa (dv 0) ah)))))) az)) (aE C6))) ae)
   case' W=>refine' ar ?Y
   case' Y=>refine' aA ?Z
   case Z=>exact(PE.imp (aT (vB rfl) rfl T.n_min RK (aw ae (aw (aP bO bP (dv 4) (au G_i hr T.F_i (aa (dv 0) (aa ae ah)))) az))) (aE tH))
  case B=>
  clear hr T G_i G_m G_l;simp only [bL,true_and,↓iU,↓i6,↓i8,↓i9,↓ja,↓jb,↓jd,↓iV,↓eZ,↓iu,↓jG,↓jH,↓jI,↓jJ,↓jK,↓jL,↓iw,↓ix,↓iy,↓iz,↓iA,↓iB,↓iC,↓iD,↓iE,↓iF,↓iG,↓iH,↓iI,↓iJ,↓iK,↓iL,↓iM,↓iN,↓iO,↓iP,↓iQ,↓iR,↓iS,↓iT,cf,cz,cg,cV,fA,fB,cU,cW,cX,di,dj,fJ,cK,dC,bw,dI,dA,dB,dD,fO,dE,bX,dW,dU,dG,dF,dL,cC,cL,fx,cx,cq,bI,cO,cP,cQ,cR,fy,cS,cT,cu,cw,fz,gu,gx,gy,gz,gA,gB,gC,gD,gE,gF,gG,gH,gI,gJ,gK,gL,gM,gN,gO,gP,gQ,gR,gS,gT,gU,gW,gX,gY,gZ,g6,g9,hG,hJ,hV,hW,hX,hZ,ic,ie,ig,ij,ik,il,eR,dN,fN,dX,cH,fQ,d6,dH,dJ,dO,dP,dQ,dR,dS,cF,dY,dZ,d3,bS,fK,fL,fM,fC,fD,fE,fF,dm,fG,dn,fH,eM,eQ,gn,gp,gr,gm,gs,eF,eG,eJ,eL,bY,eO,eN,er,eD,eT,eV,eX,eY,b0,ip,iq,iX,iW,iY,iZ,i3,i4,i5,ff,fg,jh,jf,jg,je,jm,ji,jj,jk,jl,cI,fh,jr,jt,jn,jo,jq,ju,jv,jw,fj,jx,jy,jA,jB,fk,jC,jD,jE,jz,jF,fq,ft,fu,fv,jM,jN,jO,bL,fY,fZ,gb,gc,gf,gh,gi,gj,gk,ne_eq,bZ,fU,fV,fW,fX,fR,fS,fT,cD,cE,dz,cY,dh,c7,cZ,bR,bQ,bg,bV,cn,bW,NN,Of,NJ,N8,NP,N6,N9,NY,OE,OF,ON,OO,OP,NU,NR,Oc,N4,N5,Oa,exists_eq_left',exists_eq_left,exists_and_left,exists_and_right,Oi,Oj,Sl.v.injEq,Sl.o.injEq,Sl.k.injEq,Oq,Ol,Ov,Oe,Om,NQ,and_true,true_and,OQ,Ow,exists_const,decide_eq_true_eq,OR,OS,OH,OI,N1,decide_eq_false_iff_not,and_assoc,or_true,true_or,↓reduceIte,if_true,if_false,N2,Ob,not_true_eq_false,not_false_eq_true,OK,OA,ite_true,ite_false,eq_self,exists_eq,reduceCtorEq,false_and,and_false,or_false,false_or,exists_false,Ox,Oy,cb,OG,OT,OD,OU,N3,OC,Od,OM,aV,bz,bU,cG,d7,bo,eg,ei,beq_self_eq_true,d8,d9,fP,bu,UY];intro i i0 i1;split
  ·exact λj j0 j1=>q j ⟨j0,UC⟩
  ·split
   ·exact λj j0 j1=>q j ⟨j0,UC⟩
   ·split
    ·intro j j0 j1;obtain⟨v,e,hv⟩:=vV (xs:=[NX 0,NX 99999,NX 59,NX 60,NX 365,NX 366,NX 36524,NX 36525,NX 99996]) (i:=j) j0 (by show _ < ((9:Nat):Int);omega);refine⟨v,e,?_⟩;simp only [NO,NZ,or_false] at hv;rcases hv with rfl | rfl | rfl | rfl | rfl | rfl | rfl | rfl | rfl <;> exact q _ ⟨Ce,Ce⟩
    ·intro y y0 y1 m m0 m1;have yg:=ED (y:=2000+y) UC;refine⟨_,rfl,by have:((16777216:Nat):Int)=16777216:=rfl;omega,UC,UC,?_⟩;refine⟨λi acc=>∃ns:List Int,acc=ns.map .int/\(i:Int)<=ns.sum,⟨[],rfl,UH⟩,?_,?_⟩
     ·rintro i z acc hz ⟨ns,rfl,hs⟩;obtain⟨hi,rfl⟩:=tL hz;have hb:=qy (y:=2000+y) (m:=1+(i:Int)) UC UC;walk_at "a";exact⟨_,_,rfl,UC,UC,ns++[_],by rw [P0];rfl,by rw [Sy,List.sum_singleton];omega⟩
     ·rintro acc ⟨ns,rfl,hs⟩;rw [B7] at hs;refine⟨ns,rfl,_,rfl,λj j0 j1=>q _ ?_⟩;unfold kT;split <;> omega
def MN:List UI->(UI->Prop)->Prop:=λds Q=>∃a b c d e:Str,ds=[lT,.list [.str a,.str b,.str c,.str d,.str e]]/\(∀z∈[a,b,c,d,e],Nm z)/\∀p,mf p->Q p
theorem MO(T:Txt K mg t):aC P w K mg base CX0 2 t.a_k t.d_k ["_law_pack_here","_law_names_here"] (bf K MN):=by
 have G_i:=@pW P w _ _ base _ T;refine T.F_k.F.okD n6 (λds Q h=>?_) (λ_ _ _ _ H O ds Q E hr h=>?_)
 ·obtain⟨a,b,c,d,e,rfl,_⟩:=h;rfl
 ·obtain⟨a,b,c,d,e,rfl,hn,q⟩:=h;refine'⟨_,?A,?B⟩
  case A=>
   refine' ai ?C ?D
   case C=>
    generalize hE2_0:Qs _ _=ee2_0;exact(aJ (i:=2) n6.nd rfl UG (aj aM aR (fe (mL (ds:=[.str "keep",.str "gone",.str "keep",.str "gone",.str "while",.str "follow",.str "leave"]) (by first | (subst hE2_0;rfl)))) (au G_i hr T.F_i (aa (dv 0) (aa ae ah)))))
   case' D=>refine' ai ?E ?F
   case E=>exact(aJ (i:=3) n6.nd rfl UG (aj aM aR (dv 1) (au G_i hr T.F_i (aa (dv 0) (aa ae ah)))))
   case' F=>refine' ai ?G ?H
   case G=>
    refine' aL ?I ?J aK
    case I=>exact(aI (pG hr) ng (dv 2) (fe (bB (mY (ds:=[.str "while",.str "follow",.str "leave"]) (by rfl)))) rfl)
    case' J=>refine' ar ?K
    case K=>exact(aA (cM (aa (dv 2) (aa (dv 3) ah))))
   case' H=>refine' ai ?L ?M
   case L=>exact(aJ (i:=4) n6.nd rfl UG (cM (aa aF ah)))
   case' M=>refine' ai ?N ?O
   case N=>exact(aJ (i:=5) n6.nd rfl UG (au G_i hr T.F_i (aa (dv 0) (aa ae ah))))
   case' O=>refine' ai ?P ?Q
   case P=>
    refine' aL ?R ?S aK
    case R=>exact(aI oY bT (dv 5) ae (aB _))
    case' S=>refine' ar ?T
    case' T=>refine' aJ (i:=4) n6.nd rfl UG ?U (hs:=wG)
    case' U=>refine' cM ?V
    case' V=>refine' aa ?W ?X
    case W=>exact(aj aM aR (fe (bB (aa aF (aa aF ah)))) (aP kO bP (dv 5) ae))
    case' X=>refine' aa ?Y ah
    case Y=>exact(aj aM aR (dv 1) (au G_i hr T.F_i (aa (dv 0) (aa ae ah))))
   case' Q=>refine' ai ?Z ?a
   case Z=>exact(aJ (i:=5) n6.nd rfl UG (au G_i hr T.F_i (aa (dv 0) (aa ae ah))))
   case' a=>refine' ai ?b ?c
   case b=>exact(aJ (i:=6) n6.nd rfl UG (aj aM aR (fe (bB (aa ae (aa ae ah)))) (aP nN mx (dv 5) ae)))
   case' c=>refine' ai ?d ?e
   case d=>
    refine' aL ?f ?g aK
    case f=>exact(aI oY bT (dv 5) ae (aB _))
    case' g=>refine' ar ?h
    case' h=>refine' aJ (i:=6) n6.nd rfl UG ?i (hs:=pN)
    case i=>exact(au G_i hr T.F_i (aa (dv 0) (aa (aj aM aR (fe (bB (aa ae (aa ae ah)))) (aP kO bP (dv 5) ae)) ah)))
   case' e=>refine' ar ?j
   case' j=>refine' aA ?k
   case' k=>refine' cM ?l
   case' l=>refine' aa (dv 2) ?m
   case' m=>refine' aa (dv 3) ?n
   case' n=>refine' aa (dv 4) ?o
   case' o=>refine' aa (dv 6) ?p
   case' p=>refine' aa ?q ah
   case' q=>refine' nW aM aR (df ?r) ?s
   case r=>exact(fe (bB (mY (ds:=[.str "days",.str "months",.str "years"]) (by rfl))))
   case s=>exact(df (au G_i hr T.F_i (aa (dv 0) (aa ae ah))))
  case B=>
  clear hr T G_i;simp only [bL,true_and,↓iU,↓i6,↓i8,↓i9,↓ja,↓jb,↓jd,↓iV,↓eZ,↓iu,↓jG,↓jH,↓jI,↓jJ,↓jK,↓jL,↓iw,↓ix,↓iy,↓iz,↓iA,↓iB,↓iC,↓iD,↓iE,↓iF,↓iG,↓iH,↓iI,↓iJ,↓iK,↓iL,↓iM,↓iN,↓iO,↓iP,↓iQ,↓iR,↓iS,↓iT,cf,cz,cg,cV,fA,fB,cU,cW,cX,di,dj,fJ,cK,dC,bw,dI,dA,dB,dD,fO,dE,bX,dW,dU,dG,dF,dL,cC,cL,fx,cx,cq,bI,cO,cP,cQ,cR,fy,cS,cT,cu,cw,fz,gu,gx,gy,gz,gA,gB,gC,gD,gE,gF,gG,gH,gI,gJ,gK,gL,gM,gN,gO,gP,gQ,gR,gS,gT,gU,gW,gX,gY,gZ,g6,g9,hG,hJ,hV,hW,hX,hZ,ic,ie,ig,ij,ik,il,eR,dN,fN,dX,cH,fQ,d6,dH,dJ,dO,dP,dQ,dR,dS,cF,dY,dZ,d3,bS,fK,fL,fM,fC,fD,fE,fF,dm,fG,dn,fH,eM,eQ,gn,gp,gr,gm,gs,eF,eG,eJ,eL,bY,eO,eN,er,eD,eT,eV,eX,eY,b0,ip,iq,iX,iW,iY,iZ,i3,i4,i5,ff,fg,jh,jf,jg,je,jm,ji,jj,jk,jl,cI,fh,jr,jt,jn,jo,jq,ju,jv,jw,fj,jx,jy,jA,jB,fk,jC,jD,jE,jz,jF,fq,ft,fu,fv,jM,jN,jO,bL,fY,fZ,gb,gc,gf,gh,gi,gj,gk,ne_eq,bZ,fU,fV,fW,fX,fR,fS,fT,cD,cE,dz,cY,dh,c7,cZ,bR,bQ,bg,bV,cn,bW,NN,Of,NJ,N8,NP,N6,N9,NY,OE,OF,ON,OO,OP,NU,NR,Oc,N4,N5,Oa,exists_eq_left',exists_eq_left,exists_and_left,exists_and_right,Oi,Oj,Sl.v.injEq,Sl.o.injEq,Sl.k.injEq,Oq,Ol,Ov,Oe,Om,NQ,and_true,true_and,OQ,Ow,exists_const,decide_eq_true_eq,OR,OS,OH,OI,N1,decide_eq_false_iff_not,and_assoc,or_true,true_or,↓reduceIte,if_true,if_false,N2,Ob,not_true_eq_false,not_false_eq_true,OK,OA,ite_true,ite_false,eq_self,exists_eq,reduceCtorEq,false_and,and_false,or_false,false_or,exists_false,Ox,Oy,cb,OG,OT,OD,OU,N3,OC,Od,OM,aV,bz,bU,cG,d7,bo,eg,ei,beq_self_eq_true,d8,d9,fP,bu,UY];intro i i0 i1;obtain⟨wo,hw,ew⟩:=pY [NG "keep",NG "gone",NG "keep",NG "gone",NG "while",NG "follow",NG "leave"] (i:=i) i0 (by show _ < ((7:Nat):Int);omega)
  refine⟨_,ew,λi i0 i1=>?_⟩;have nm5:∀i:Int,0<=i->i < 5->∃nm,atI [NI a,NI b,NI c,NI d,NI e] i=some (.str nm)/\Nm nm:=λi i0 i1=>by
   obtain⟨nm,hm,en⟩:=pY [a,b,c,d,e] i0 (show i < ((5:Nat):Int) by omega);exact⟨nm,en,hn nm hm⟩
  obtain⟨kd,ek,hk⟩:=nm5 i i0 i1;have hw2:wo∈(["while","follow","leave"]:List Str)\/wo∈(["keep","gone"]:List Str):=by
   simp only [NO,NZ,or_false] at hw⊢;rcases hw with h | h | h | h | h | h | h <;> simp [h]
  have wl:∀z∈(["while","follow","leave","keep","gone"]:List Str),P9 (.str z)=true:=td
  refine⟨_,ek,wl wo (by
   simp only [NO,NZ,or_false] at hw2⊢;rcases hw2 with(h | h | h) | (h | h) <;> simp [h]),td,?_⟩
  rw [bo,bo,bo];split
  ·rename_i h;refine q _ (.wfl ?_ hk);simp only [Rc,beq_iff_eq] at h;simp only [NO,NZ,or_false];rcases h with h | h | h <;> simp [h]
  ·rename_i h;have hkg:wo∈(["keep","gone"]:List Str):=by
    rcases hw2 with z | z
    ·exfalso;apply h;simp only [NO,NZ,or_false] at z;rcases z with rfl | rfl | rfl <;> decide+kernel
    ·exact z
   have un:∀(s:UI)(m:Int),lX s->0<=m->m<=999->∀i:Int,0<=i->i < 3->∃x_3,atI [NI (NG "days"),NI (NG "months"),NI (NG "years")] i=some x_3/\Q (O6 [.str wo,.str kd,s,.int m,x_3]):=λs m hs m0 m1 i i0 i1=>by
    obtain⟨u,hu,eu⟩:=pY [NG "days",NG "months",NG "years"] i0 (show i < ((3:Nat):Int) by omega);exact⟨_,eu,q _ (.kg hkg hk hs m0 m1 hu)⟩
   have tl:∀s:UI,lX s->∀i:Int,0<=i->i < 4->∃d,atI [NX 0,NX 999] (i % 2)=some d/\if 1 < i then ∃d,atI [NX 1000,NX 13] (i - 2)=some d/\vZ [lT,d] λd=>∀i:Int,0<=i->i < 3->∃x_3,atI [NI (NG "days"),NI (NG "months"),NI (NG "years")] i=some x_3/\Q (O6 [.str wo,.str kd,s,d,x_3]) else ∀i:Int,0<=i->i < 3->∃x_3,atI [NI (NG "days"),NI (NG "months"),NI (NG "years")] i=some x_3/\Q (O6 [.str wo,.str kd,s,d,x_3]):=λs hs i i0 i1=>by
    rcases(show i=0\/i=1\/i=2\/i=3 by omega) with rfl | rfl | rfl | rfl
    ·exact⟨_,rfl,un s 0 hs Ce Ce⟩
    ·exact⟨_,rfl,un s 999 hs Ce Ce⟩
    ·exact⟨_,rfl,_,rfl,1000,rfl,Ce,Ce,λj j0 j1=>un s j hs j0 UC⟩
    ·exact⟨_,rfl,_,rfl,13,rfl,Ce,Ce,λj j0 j1=>un s j hs j0 UC⟩
   intro i i0 i1;rcases(show i=0\/i=1\/i=2 by omega) with rfl | rfl | rfl
   ·exact tl _ .coming
   ·refine⟨_,rfl,λj j0 j1=>?_⟩;obtain⟨h,eh,hh⟩:=nm5 j j0 j1;exact⟨_,eh,tl _ (.first hh)⟩
   ·refine⟨_,rfl,λj j0 j1=>?_⟩;obtain⟨h,eh,hh⟩:=nm5 j j0 j1;exact⟨_,eh,tl _ (.last hh)⟩
end
theorem EK:fw (ay uy) ["_law_word","_law_most"] ["_law_sign"] 1 [] ⟨OL,[(NM ".0",Ww),(NM "_law_sign",Ww)],false,false,[]⟩:= .of
theorem EL:fw (ay uz) ["_law_word"] ["_law_sign"] 1 [] ⟨OL,[(NM ".0",Ww),(NM "_law_sign",Ww)],false,false,[]⟩:= .of
theorem EM:fw (ay pS) ["_law_word","_law_parts","_law_year","_law_month","_law_number","_law_day"] ["_law_part"] 1 [] ⟨OL,[ (NM ".0",Ww),(NM "_law_part",Ww),(NM "_law_figures",OV)],false,false,[]⟩:= .of
theorem EN:fw (ay pS) ["_law_word","_law_parts","_law_year","_law_month","_law_number","_law_day"] ["_law_part"] 1 [] ⟨OL,[ (NM ".0",Ww),(NM "_law_part",Ww),(NM "len",OV)],false,false,[]⟩:= .of
theorem EO:fw (ay pS) ["_law_word","_law_parts","_law_year","_law_month","_law_number","_law_day"] ["_law_part"] 1 [] ⟨OL,[ (NM ".0",Ww),(NM "_law_part",Ww),(NM "int",OV)],false,false,[]⟩:= .of
theorem ER:fw (ay pS) ["_law_word","_law_parts","_law_year","_law_month","_law_number","_law_day"] ["_law_k","_law_year"] 1 [2] ⟨OL,[ (NM ".0",Ww),(NM "_law_k",Ww),(NM "_law_length",OV),(NM "_law_year",Pt)],false,false,[]⟩:= .of
section
variable {P:UX} {w:UZ} {K:NH} {mg:Str->Option UJ} {base:UW} {t:k9}
theorem MP{z:Str}(h:bG z (z.length:Int)=true)(h1:1<=z.length)(h4:z.length<=4):∃y:Nat,intText? z=some (y:Int):=by
 by_cases e:z.length=4
 ·obtain⟨y,_,_,h,_⟩:=sC (z:=z) (by rw [e] at h;exact h);exact⟨y,h⟩
 ·obtain⟨y,_,h⟩:=AL h UC UC;exact⟨y,h⟩
def l3(z:Str)(m:Int):Prop:=1<=z.length/\(z.length:Int)<=m/\bG z (z.length:Int)=true
instance {z:Str} {m:Int}:Decidable (l3 z m):=by unfold l3;infer_instance
def kN(z:Str)(m:Int):UI:=if l3 z m then .int (nv z) else .none
def ES:List UI->(UI->Prop)->Prop:=λds Q=>∃(z:Str)(m:Int),ds=[.str z,.int m]/\z.length<=1000/\m<=4/\Q (kN z m)
theorem ET(T:Txt K mg t):aC P w K mg base CX0 1 t.a_t t.d_t ["_law_word","_law_most"] (bf K ES):=by
 refine T.F_t.F.okD K7 (λds Q h=>?_) (λ_ _ _ _ H O ds Q E hr h=>?_)
 ·obtain⟨z,m,rfl,_⟩:=h;rfl
 ·obtain⟨z,m,rfl,hz,hm,q⟩:=h;refine'⟨_,?A,?B⟩
  case A=>
   refine' ai ?C ?D
   case C=>
    refine' aL ?E ?F aK
    case E=>exact(PW.pt (kB (kr (oC jY jY bT bT (df ae) (df (PE.imp (aT mS rfl T.n_len Og (aw (dv 0) az)) (aE nh))) (df (dv 1)))) (lh (kr (cy (PE.imp (aT (oA rfl) rfl T.n_all oB (aw (fe (tM rfl EK (df (dv 0)) j6 lL Ce (λ_ _ _ _=>(jU (i:=0) EK.nd rfl UG)) (λ_ _ _ _=>lM) (λ_ _ _ _=>(j5 sP tO (df (dv 0)) (df aF) rfl)))) az)) (aE oF)))))))
    case F=>refine' ar (aA ku)
   case' D=>refine' ar ?G
   case G=>exact(aA (PE.imp (cJ qw rfl T.n_int mH (aw (dv 0) az)) (aE qx)))
  case B=>
  clear hr T;walk_at "a";refine⟨UC,?_⟩;have no:¬l3 z m->Q .none:=λh=>by unfold kN at q;rw [UD h] at q;exact q
  split
  ·rename_i h1;split
   ·rename_i h2;exact no λh=>h2 h.2.1
   ·rename_i h2;refine⟨UC,pL (p:=λb=>if b=false then Q .none else ∃x,intText? z=some x/\z.length<=640/\Q (.int x)) (λx=>match x with | .str y=>decide (y.cps.toList.headD 0∈oQ.cps.toList) | _=>false) (λx hx R hR=>?_) ?_⟩
    ·obtain⟨c,_,rfl⟩:=Pb.mp hx;walk_at "a";rw [Rx];exact hR
    ·have e:(Pd (λx=>match x with | NI y=>decide (y.cps.toList.headD 0∈oQ.cps.toList) | _=>false) (qp z)).all id=bG z (z.length:Int):=by
      unfold bG qp;rw [decide_eq_true rfl,Od,Pu,QL];rfl
     simp only [e];by_cases hf:bG z (z.length:Int)=true
     ·rw [UD (by rw [hf];decide)];obtain⟨y,hy⟩:=MP hf UC UC;have g:l3 z m:=⟨UC,UC,hf⟩;unfold kN nv at q;rw [UE g,hy] at q;exact⟨_,hy,UC,q⟩
     ·rw [UE (by simpa using hf)];exact no λh=>hf h.2.2
  ·rename_i h1;exact no λh=>by have:=h.1;omega
def AO:List UI->(UI->Prop)->Prop:=λds Q=>∃z:Str,ds=[.str z]/\z.length<=1000/\Q (.bool (cj (.str z)))
theorem EU(T:Txt K mg t):aC P w K mg base CX0 1 t.a_u t.d_u ["_law_word"] (bf K AO):=by
 refine T.F_u.F.okD K8 (λds Q h=>?_) (λ_ _ _ _ H O ds Q E hr h=>?_)
 ·obtain⟨z,rfl,_⟩:=h;rfl
 ·obtain⟨z,rfl,hz,q⟩:=h;refine'⟨_,?A,?B⟩
  case A=>
   refine' ar ?C
   case' C=>refine' aA ?D
   case D=>exact(ky (tF jY jY bT bT (df ae) (df (PE.imp (aT mS rfl T.n_len Og (aw (dv 0) az)) (aE nh))) (df ae)) (lj (PE.imp (aT (oA rfl) rfl T.n_all oB (aw (fe (tM rfl EL (df (dv 0)) j6 lL Ce (λ_ _ _ _=>(jU (i:=0) EL.nd rfl UG)) (λ_ _ _ _=>lM) (λ_ _ _ _=>(j5 sP tO (df (dv 0)) (df aF) rfl)))) az)) (aE oF))))
  case B=>
  clear hr T;walk_at "a";refine⟨UC,?_⟩;simp only [cj] at q;split
  ·rename_i h1;rw [decide_eq_true (p:=1<=z.length) UC,Od] at q;split
   ·rename_i h2;rw [decide_eq_true (p:=z.length<=8) UC,Od] at q;refine⟨UC,pL (p:=λb=>Q (.bool b)) (λx=>match x with | .str y=>decide (y.cps.toList.headD 0∈kS.cps.toList) | _=>false) (λx hx R hR=>?_) ?_⟩
    ·obtain⟨c,_,rfl⟩:=Pb.mp hx;walk_at "a";rw [Rx];exact hR
    ·unfold qp;rw [Pu,QL];exact q
   ·rename_i h2;rw [decide_eq_false (p:=z.length<=8) UC] at q;exact q
  ·rename_i h1;rw [decide_eq_false (p:=1<=z.length) UC] at q;exact q
theorem AQ{z:Str}{m:Int}{Q:UI->Prop}:ES [.str z,.int m] Q↔z.length<=1000/\m<=4/\Q (kN z m):=⟨λuu51=>by obtain⟨_,_,e,h⟩:=uu51;cases e;exact h,λh=>⟨_,_,rfl,h⟩⟩
theorem EV{y m:Int}{Q:UI->Prop}:EH [.int y,.int m] Q↔1<=m/\m<=12/\Q (.int (aW y m)):=⟨λuu52=>by obtain⟨_,_,e,h⟩:=uu52;cases e;exact h,λh=>⟨_,_,rfl,h⟩⟩
theorem MQ{y:Int}{Q:UI->Prop}:EI [.int y] Q↔Q (.int (bb y)):=⟨λuu53=>by obtain⟨_,e,h⟩:=uu53;cases e;exact h,λh=>⟨_,rfl,h⟩⟩
theorem EW:∀{ns:List Int},Pz (ns.map .int)=true/\QS (ns.map .int)=0
 | []=>⟨rfl,rfl⟩
 | n::r=>by
  obtain⟨a,b⟩:=EW (ns:=r);rw [NN,Pz,QS,a,b,Pe];exact⟨rfl,rfl⟩
theorem MR{ns:List Int}:P9 (.list (ns.map .int))=true:=by
 obtain⟨a,b⟩:=EW (ns:=ns);unfold P9;rw [Pe,Sj,a,b];rfl
theorem EX(z:Str)(m:Int):Pe (kN z m)=true/\(kN z m).eqv .none=!decide (l3 z m):=by
 unfold kN;split
 ·rename_i h;rw [decide_eq_true h];exact⟨rfl,rfl⟩
 ·rename_i h;rw [decide_eq_false h];exact⟨rfl,rfl⟩
def EY:UI->UI | .str y=>.int y.length | _=>.none
def MS:UI->UI | .str y=>kN y 4 | _=>.none
def EZ:UI->UI | .str y=>.int (nv y) | _=>.none
theorem MT(ws:List Str):(ws.map NI).map EY=(ws.map λy:Str=>(y.length:Int)).map .int:=by rw [Pu,Pu];rfl
def E1:List UI->(UI->Prop)->Prop:=λds Q=>∃z:Str,ds=[.str z]/\z.length<=1000/\Q (kM z)
theorem MU(T:Txt K mg t):aC P w K mg base CX0 2 t.a_v t.d_v ["_law_word"] (bf K E1):=by
 have G_t:=@ET P w _ _ base _ T;have G_m:=@AN P w _ _ base _ T;have G_l:=@AM P w _ _ base _ T;refine T.F_v.F.okD qJ (λds Q h=>?_) (λ_ _ _ _ H O ds Q E hr h=>?_)
 ·obtain⟨z,rfl,_⟩:=h;rfl
 ·obtain⟨z,rfl,hz,q⟩:=h;refine'⟨_,?A,?B⟩
  case A=>
   refine' ai ?C ?D
   case C=>exact(aJ (i:=1) qJ.nd rfl UG (fe (pO (dv 0) aF)))
   case' D=>refine' ai ?E ?F
   case E=>
    refine' aL ?G ?H aK
    case G=>exact(PW.pt (kB (aI (mV hr.units) mW (fe (rN rfl EN (df (dv 1)) j6 lL Ce (λ_ _ _ _=>(jU (i:=0) EN.nd rfl UG)) (λ_ _ _ _=>lM) (λ_ _ _ _=>(PE.imp (aT mS rfl T.n_len Og (aw (dv 0) az)) (aE nh))))) (fe (bB (mY (ds:=[.int 4,.int 2,.int 2]) (by rfl)))) (aB _)) (lh (aI (pG hr) ng ku (fe (rN rfl EM (df (dv 1)) j6 lL Ce (λ_ _ _ _=>(jU (i:=0) EM.nd rfl UG)) (λ_ _ _ _=>lM) (λ_ _ _ _=>(au G_t hr T.F_t (aa (dv 0) (aa ae ah)))))) rfl))))
    case H=>refine' ar (aA ku)
   case' F=>refine' ai ?I ?J
   case I=>exact(B0 (fe (rN rfl EO (df (dv 1)) j6 lL Ce (λ_ _ _ _=>(jU (i:=0) EO.nd rfl UG)) (λ_ _ _ _=>lM) (λ_ _ _ _=>(PE.imp (cJ qw rfl T.n_int mH (aw (dv 0) az)) (aE qx))))) (HU (n:=3) rfl (nL (jU (i:=2) qJ.nd rfl UG) (nL (jU (i:=3) qJ.nd rfl UG) (nL (jU (i:=4) qJ.nd rfl UG) sI)))) (HV (pz j6 (pz j6 (pz j6 vX)))))
   case' J=>refine' ai ?K ?L
   case K=>
    refine' aL ?M ?N aK
    case M=>exact(PW.pt (kB (aI qf bT (dv 2) ae (aB _)) (kB (kr (oC jY jY bT bT (df ae) (df (dv 3)) (df ae))) (lh (kr (oC jY jY bT bT (df ae) (df (dv 4)) (df (au G_l hr T.F_l (aa (dv 2) (aa (dv 3) ah))))))))))
    case N=>refine' ar (aA ku)
   case' L=>refine' ai ?O ?P
   case O=>
    refine' aJ (i:=5) qJ.nd rfl UG ?Q (hs:=pM)
    case Q=>exact(aP kO bP (aP bO bP (aP bO bP (au G_m hr T.F_m (aa (dv 2) ah)) (PE.imp (aT (vU rfl) rfl T.n_sum RJ (aw (fe (v9 rfl ER rfl T.n_range (aw ae (aw (dv 3) az)) j6 lL Ce (λ_ _ _ _=>(jU (i:=0) ER.nd rfl UG)) (λ_ _ _ _=>lM) (λ_ _ _ _=>(au G_l hr T.F_l (aa (dv 1) (aa (dv 0) ah)))))) az)) (aE C6))) (dv 4)) ae)
   case' P=>refine' ar ?R
   case' R=>refine' aA ?S
   case' S=>refine' nW aM aR (df ?T) ?U
   case T=>exact(fe (bB (aa ku (aa (dv 5) ah))))
   case U=>exact(df (PE.imp (cJ sU rfl T.n_int mH (aw (j5 jY bT (df (dv 5)) (df ae) (aB _)) az)) (aE tK)))
  case B=>
  clear hr T G_t G_m G_l;walk_at "a";have hl:(Txt.split z (NG "-")).length<=1002:=OB (Q3 z _) UC;refine⟨td,UC,by rw [NS];omega,?_⟩;have wl:=λp=>Ed (z:=z) (p:=p);have q1:∀k,lQ z=some k->Q (.int k):=λk e=>by unfold kM at q;rw [e] at q;exact q
  have q2:lQ z=none->Q .none:=λe=>by unfold kM at q;rw [e] at q;exact q
  clear q;unfold lQ at q1 q2;generalize Txt.split z (NG "-")=ws at*;refine pK EY (λx hx R hR=>?_) ?_
  ·obtain⟨p,hp,rfl⟩:=Pb.mp hx;walk_at "a";have:=wl p hp;exact⟨UC,hR⟩
  ·rw [MT];refine⟨MR,td,?_⟩
   match ws with
   | [a,b,c]=>
    have la:=wl a UH;have lb:=wl b UH;have lc:=wl c UH;simp only [] at q1 q2;have e:(O7 (([a,b,c].map λy:Str=>(y.length:Int)).map .int)).eqv (O7 [NX 4,NX 2,NX 2])=decide (a.length=4/\b.length=2/\c.length=2):=by
     rw [P6];simp [NT,Pl];omega
    rw [e];by_cases hL:a.length=4/\b.length=2/\c.length=2
    ·rw [UD (by rw [decide_eq_true hL];decide)];obtain⟨l4,l2,l2'⟩:=hL;refine⟨by rw [NS];exact OB hl Ce,?_⟩;refine pK MS (λx hx R hR=>?_) ?_
     ·obtain⟨p,hp,rfl⟩:=Pb.mp hx;have:=wl p hp;simp only [AQ,true_and,↓iU,↓i6,↓i8,↓i9,↓ja,↓jb,↓jd,↓iV,↓eZ,↓iu,↓jG,↓jH,↓jI,↓jJ,↓jK,↓jL,↓iw,↓ix,↓iy,↓iz,↓iA,↓iB,↓iC,↓iD,↓iE,↓iF,↓iG,↓iH,↓iI,↓iJ,↓iK,↓iL,↓iM,↓iN,↓iO,↓iP,↓iQ,↓iR,↓iS,↓iT,cf,cz,cg,cV,fA,fB,cU,cW,cX,di,dj,fJ,cK,dC,bw,dI,dA,dB,dD,fO,dE,bX,dW,dU,dG,dF,dL,cC,cL,fx,cx,cq,bI,cO,cP,cQ,cR,fy,cS,cT,cu,cw,fz,gu,gx,gy,gz,gA,gB,gC,gD,gE,gF,gG,gH,gI,gJ,gK,gL,gM,gN,gO,gP,gQ,gR,gS,gT,gU,gW,gX,gY,gZ,g6,g9,hG,hJ,hV,hW,hX,hZ,ic,ie,ig,ij,ik,il,eR,dN,fN,dX,cH,fQ,d6,dH,dJ,dO,dP,dQ,dR,dS,cF,dY,dZ,d3,bS,fK,fL,fM,fC,fD,fE,fF,dm,fG,dn,fH,eM,eQ,gn,gp,gr,gm,gs,eF,eG,eJ,eL,bY,eO,eN,er,eD,eT,eV,eX,eY,b0,ip,iq,iX,iW,iY,iZ,i3,i4,i5,ff,fg,jh,jf,jg,je,jm,ji,jj,jk,jl,cI,fh,jr,jt,jn,jo,jq,ju,jv,jw,fj,jx,jy,jA,jB,fk,jC,jD,jE,jz,jF,fq,ft,fu,fv,jM,jN,jO,bL,fY,fZ,gb,gc,gf,gh,gi,gj,gk,ne_eq,bZ,fU,fV,fW,fX,fR,fS,fT,cD,cE,dz,cY,dh,c7,cZ,bR,bQ,bg,bV,cn,bW,NN,Of,NJ,N8,NP,N6,N9,NY,OE,OF,ON,OO,OP,NU,NR,Oc,N4,N5,Oa,exists_eq_left',exists_eq_left,exists_and_left,exists_and_right,Oi,Oj,Sl.v.injEq,Sl.o.injEq,Sl.k.injEq,Oq,Ol,Ov,Oe,Om,NQ,and_true,true_and,OQ,Ow,exists_const,decide_eq_true_eq,OR,OS,OH,OI,N1,decide_eq_false_iff_not,and_assoc,or_true,true_or,↓reduceIte,if_true,if_false,N2,Ob,not_true_eq_false,not_false_eq_true,OK,OA,ite_true,ite_false,eq_self,exists_eq,reduceCtorEq,false_and,and_false,or_false,false_or,exists_false,Ox,Oy,cb,OG,OT,OD,OU,N3,OC,Od,OM,aV,bz,bU,cG,d7,bo,eg,ei,beq_self_eq_true,d8,d9,fP,bu,UY];exact⟨UC,hR⟩
     ·have f4:l3 a 4↔bG a 4=true:=by unfold l3;rw [l4];simp
      have f2:l3 b 4↔bG b 2=true:=by unfold l3;rw [l2];simp
      have f2':l3 c 4↔bG c 2=true:=by unfold l3;rw [l2'];simp
      show Pz [kN a 4,kN b 4,kN c 4]=true/\if ([kN a 4,kN b 4,kN c 4].any λd=>d.eqv .none)=true then _ else _
      refine⟨by simp [Pz,EX],?_⟩;rw [show([kN a 4,kN b 4,kN c 4].any λd=>d.eqv .none)=!decide (bG a 4=true/\bG b 2=true/\bG c 2=true) by
       rw [P6];simp [EX,f4,f2,f2']]
      by_cases hF:bG a 4=true/\bG b 2=true/\bG c 2=true
      ·rw [UD (by rw [decide_eq_true hF];decide)];obtain⟨fa,fb,fc⟩:=hF;obtain⟨y,y1,y2,y3,_⟩:=sC fa;obtain⟨m,m1,m2,m3⟩:=qK fb;obtain⟨n,n1,n2,n3⟩:=qK fc;have ea:nv a=y:=by unfold nv;rw [y3];rfl
       have eb:nv b=m:=by unfold nv;rw [m3];rfl
       have ec:nv c=n:=by unfold nv;rw [n3];rfl
       rw [ea,eb,ec] at q1 q2;refine⟨by rw [NS];exact OB hl Ce,?_⟩;refine pK EZ (λx hx R hR=>?_) ?_
       ·obtain⟨p,hp,rfl⟩:=Pb.mp hx;walk_at "a";simp only [NO,NZ,or_false] at hp;rcases hp with rfl | rfl | rfl
        ·exact⟨_,y3,UC,by rw [<-ea];exact hR⟩
        ·exact⟨_,m3,UC,by rw [<-eb];exact hR⟩
        ·exact⟨_,n3,UC,by rw [<-ec];exact hR⟩
       ·simp only [NN,Of,EZ];rw [ea,eb,ec];unfold Ca;simp only [EV,MQ,true_and,↓iU,↓i6,↓i8,↓i9,↓ja,↓jb,↓jd,↓iV,↓eZ,↓iu,↓jG,↓jH,↓jI,↓jJ,↓jK,↓jL,↓iw,↓ix,↓iy,↓iz,↓iA,↓iB,↓iC,↓iD,↓iE,↓iF,↓iG,↓iH,↓iI,↓iJ,↓iK,↓iL,↓iM,↓iN,↓iO,↓iP,↓iQ,↓iR,↓iS,↓iT,cf,cz,cg,cV,fA,fB,cU,cW,cX,di,dj,fJ,cK,dC,bw,dI,dA,dB,dD,fO,dE,bX,dW,dU,dG,dF,dL,cC,cL,fx,cx,cq,bI,cO,cP,cQ,cR,fy,cS,cT,cu,cw,fz,gu,gx,gy,gz,gA,gB,gC,gD,gE,gF,gG,gH,gI,gJ,gK,gL,gM,gN,gO,gP,gQ,gR,gS,gT,gU,gW,gX,gY,gZ,g6,g9,hG,hJ,hV,hW,hX,hZ,ic,ie,ig,ij,ik,il,eR,dN,fN,dX,cH,fQ,d6,dH,dJ,dO,dP,dQ,dR,dS,cF,dY,dZ,d3,bS,fK,fL,fM,fC,fD,fE,fF,dm,fG,dn,fH,eM,eQ,gn,gp,gr,gm,gs,eF,eG,eJ,eL,bY,eO,eN,er,eD,eT,eV,eX,eY,b0,ip,iq,iX,iW,iY,iZ,i3,i4,i5,ff,fg,jh,jf,jg,je,jm,ji,jj,jk,jl,cI,fh,jr,jt,jn,jo,jq,ju,jv,jw,fj,jx,jy,jA,jB,fk,jC,jD,jE,jz,jF,fq,ft,fu,fv,jM,jN,jO,bL,fY,fZ,gb,gc,gf,gh,gi,gj,gk,ne_eq,bZ,fU,fV,fW,fX,fR,fS,fT,cD,cE,dz,cY,dh,c7,cZ,bR,bQ,bg,bV,cn,bW,NN,Of,NJ,N8,NP,N6,N9,NY,OE,OF,ON,OO,OP,NU,NR,Oc,N4,N5,Oa,exists_eq_left',exists_eq_left,exists_and_left,exists_and_right,Oi,Oj,Sl.v.injEq,Sl.o.injEq,Sl.k.injEq,Oq,Ol,Ov,Oe,Om,NQ,and_true,true_and,OQ,Ow,exists_const,decide_eq_true_eq,OR,OS,OH,OI,N1,decide_eq_false_iff_not,and_assoc,or_true,true_or,↓reduceIte,if_true,if_false,N2,Ob,not_true_eq_false,not_false_eq_true,OK,OA,ite_true,ite_false,eq_self,exists_eq,reduceCtorEq,false_and,and_false,or_false,false_or,exists_false,Ox,Oy,cb,OG,OT,OD,OU,N3,OC,Od,OM,aV,bz,bU,cG,d7,bo,eg,ei,beq_self_eq_true,d8,d9,fP,bu,UY];have no:¬lx y m n->Q .none:=λz=>q2 (UD λw=>z w.2.2.2.1)
        split
        ·exact no λz=>by have:=z.1;omega
        ·split
         ·split
          ·exact no λz=>by have:=z.2.2.2.1;omega
          ·split
           ·refine⟨UC,UC,?_⟩;split
            ·exact no λz=>by have:=z.2.2.2.2.2;omega
            ·have hd:lx y m n:=⟨UC,UC,UC,UC,UC,UC⟩;refine⟨UC,UC,UC,?_⟩;refine pK (λx=>match x with | .int k=>.int (aW y k) | _=>.none) (λx hx R hR=>?_) ?_
             ·obtain⟨k,hk,rfl⟩:=Pb.mp hx;have hk:=QG.mp hk;simp only [EV,true_and,↓iU,↓i6,↓i8,↓i9,↓ja,↓jb,↓jd,↓iV,↓eZ,↓iu,↓jG,↓jH,↓jI,↓jJ,↓jK,↓jL,↓iw,↓ix,↓iy,↓iz,↓iA,↓iB,↓iC,↓iD,↓iE,↓iF,↓iG,↓iH,↓iI,↓iJ,↓iK,↓iL,↓iM,↓iN,↓iO,↓iP,↓iQ,↓iR,↓iS,↓iT,cf,cz,cg,cV,fA,fB,cU,cW,cX,di,dj,fJ,cK,dC,bw,dI,dA,dB,dD,fO,dE,bX,dW,dU,dG,dF,dL,cC,cL,fx,cx,cq,bI,cO,cP,cQ,cR,fy,cS,cT,cu,cw,fz,gu,gx,gy,gz,gA,gB,gC,gD,gE,gF,gG,gH,gI,gJ,gK,gL,gM,gN,gO,gP,gQ,gR,gS,gT,gU,gW,gX,gY,gZ,g6,g9,hG,hJ,hV,hW,hX,hZ,ic,ie,ig,ij,ik,il,eR,dN,fN,dX,cH,fQ,d6,dH,dJ,dO,dP,dQ,dR,dS,cF,dY,dZ,d3,bS,fK,fL,fM,fC,fD,fE,fF,dm,fG,dn,fH,eM,eQ,gn,gp,gr,gm,gs,eF,eG,eJ,eL,bY,eO,eN,er,eD,eT,eV,eX,eY,b0,ip,iq,iX,iW,iY,iZ,i3,i4,i5,ff,fg,jh,jf,jg,je,jm,ji,jj,jk,jl,cI,fh,jr,jt,jn,jo,jq,ju,jv,jw,fj,jx,jy,jA,jB,fk,jC,jD,jE,jz,jF,fq,ft,fu,fv,jM,jN,jO,bL,fY,fZ,gb,gc,gf,gh,gi,gj,gk,ne_eq,bZ,fU,fV,fW,fX,fR,fS,fT,cD,cE,dz,cY,dh,c7,cZ,bR,bQ,bg,bV,cn,bW,NN,Of,NJ,N8,NP,N6,N9,NY,OE,OF,ON,OO,OP,NU,NR,Oc,N4,N5,Oa,exists_eq_left',exists_eq_left,exists_and_left,exists_and_right,Oi,Oj,Sl.v.injEq,Sl.o.injEq,Sl.k.injEq,Oq,Ol,Ov,Oe,Om,NQ,and_true,true_and,OQ,Ow,exists_const,decide_eq_true_eq,OR,OS,OH,OI,N1,decide_eq_false_iff_not,and_assoc,or_true,true_or,↓reduceIte,if_true,if_false,N2,Ob,not_true_eq_false,not_false_eq_true,OK,OA,ite_true,ite_false,eq_self,exists_eq,reduceCtorEq,false_and,and_false,or_false,false_or,exists_false,Ox,Oy,cb,OG,OT,OD,OU,N3,OC,Od,OM,aV,bz,bU,cG,d7,bo,eg,ei,beq_self_eq_true,d8,d9,fP,bu,UY];exact⟨UC,UC,hR⟩
             ·refine⟨(PH ((m:Int) - 1).toNat).map λ(i:Nat)=>aW y (1+(i:Int)),?_,?_⟩
              ·unfold kR;rw [Pu,Pu];rfl
              ·rw [show bb y+((PH ((m:Int) - 1).toNat).map λ(i:Nat)=>aW y (1+(i:Int))).sum+n - 1=lE y m n from rfl];split
               ·exact⟨_,rfl,q1 _ (UE ⟨fa,fb,fc,hd,UC⟩)⟩
               ·exact⟨_,rfl,q2 (UD λw=>by have:=w.2.2.2.2;omega)⟩
           ·exact no λz=>by have:=z.2.2.2.2.1;omega
         ·exact no λz=>by have:=z.2.2.1;omega
      ·rw [UE (by rw [decide_eq_false hF];decide)];exact q2 (UD λz=>hF ⟨z.1,z.2.1,z.2.2.1⟩)
    ·rw [UE (by rw [decide_eq_false hL])];exact q2 (UD λz=>hL (by
      obtain⟨_,_,h4,_⟩:=sC z.1;obtain⟨_,_,h2,_⟩:=qK z.2.1;obtain⟨_,_,h2',_⟩:=qK z.2.2.1;exact⟨h4,h2,h2'⟩))
   | []=>rw [UE (by simp [NT,Pl])];exact q2 rfl
   | [a]=>rw [UE (by simp [NT,Pl])];exact q2 rfl
   | [a,b]=>rw [UE (by simp [NT,Pl])];exact q2 rfl
   | a::b::c::d::r=>rw [UE (by simp [NT,Pl])];exact q2 rfl
end
theorem E2:fw (ay uw) ["_law_pack_here","_law_names_here","_law_word","_law_head","_law_other","_law_some","_law_target"] ["_law_name_here","_law_pack_here"] 1 [0] ⟨OL,[ (NM ".0",Ww),(NM "_law_name_here",Ww),(NM "_law_take",OV),(NM "_law_pack_here",Pt)],false,false,[]⟩:= .of
section
variable {P:UX} {w:UZ} {K:NH} {mg:Str->Option UJ} {base:UW} {t:k9}
theorem E3{ns:List Str}(h:ns.Nodup):(kL ns).Pairwise oM:=by
 have p:=Cg ns;have n:(kL ns).Nodup:=(tP ns).nodup_iff.mpr h;refine List.Pairwise.imp₂ (λa b h1 h2=>?_) p n;by_cases q:a.cps.toList < b.cps.toList
 ·exact q
 ·exact absurd (Cf h1 (decide_eq_true (Us.mp q))) h2
theorem MV{Q:UI->Prop}:EJ [lT] Q↔∀d:Int,kT d->Q (.int d):=⟨λuu54=>by obtain⟨_,h⟩:=uu54;exact h,λh=>⟨rfl,h⟩⟩
def MW:List UI->(UI->Prop)->Prop:=λds Q=>∃a b c d e:Str,ds=[lT,.list [.str a,.str b,.str c,.str d,.str e]]/\(∀z∈[a,b,c,d,e],Nm z)/\[a,b,c,d,e].Nodup/\∀p,bM p->Q p
theorem MX(T:Txt K mg t):aC P w K mg base CX0 3 t.a_p t.d_p ["_law_pack_here","_law_names_here"] (bf K MW):=by
 have G_i:=@pW P w _ _ base _ T;have G_o:=@MM P w _ _ base _ T;have G_k:=@MO P w _ _ base _ T;refine T.F_p.F.okD qH (λds Q h=>?_) (λ_ _ _ _ H O ds Q E hr h=>?_)
 ·obtain⟨a,b,c,d,e,rfl,_⟩:=h;rfl
 ·obtain⟨a,b,c,d,e,rfl,hn,nd,q⟩:=h;refine'⟨_,?A,?B⟩
  case A=>
   refine' ai ?C ?D
   case C=>
    generalize hE2_0:Qs _ _=ee2_0;exact(aJ (i:=2) qH.nd rfl UG (aj aM aR (fe (mL (ds:=[.str "paper",.str "happens",.str "rule",.str "rule",.str "end",.str "hold",.str "lift",.str "leave"]) (by first | (subst hE2_0;rfl)))) (au G_i hr T.F_i (aa (dv 0) (aa ae ah)))))
   case' D=>refine' ai ?E ?F
   case E=>
    refine' aJ (i:=3) qH.nd rfl UG ?G (hs:=wG)
    case' G=>refine' cM ?H
    case' H=>refine' aa (dv 2) ?I
    case' I=>refine' aa ?J ?K
    case J=>exact(au G_o hr T.F_o (aa (dv 0) ah))
    case' K=>refine' aa ?L ah
    case L=>exact(aj aM aR (dv 1) (au G_i hr T.F_i (aa (dv 0) (aa ae ah))))
   case' F=>refine' ai ?M ?N
   case M=>exact(aJ (i:=4) qH.nd rfl UG (aj aM aR (dv 1) (au G_i hr T.F_i (aa (dv 0) (aa ae ah)))))
   case' N=>refine' ai ?O ?P
   case O=>
    refine' aL ?Q ?R aK
    case Q=>exact(aI (ki hr) kj (dv 2) aF (aB _))
    case' R=>refine' ai ?S ?T
    case S=>
     refine' aJ (i:=5) qH.nd rfl UG ?U (hs:=pN)
     case U=>exact(fe (Ik rfl T.n_sorted So (aw (fe (rN rfl E2 (df (dv 1)) j6 lL Ce (λ_ _ _ _=>(jU (i:=0) E2.nd rfl UG)) (λ_ _ _ _=>(GS (aI (j7 hr.units) j8 (au G_i hr T.F_i (aa (dv 1) (aa ae ah))) ae (aB _)))) (λ_ _ _ _=>(dv 0)))) az)))
    case' T=>refine' ar ?V
    case' V=>refine' aA ?W
    case' W=>refine' aP nj nk (dv 3) ?X
    case' X=>refine' cM ?Y
    case' Y=>refine' aa (dv 4) ?Z
    case' Z=>refine' aa ?a ah
    case a=>exact(PE.imp (cJ mG rfl T.n_tuple lz (aw (fe (kC (df (dv 5)) jR (dM ae))) az)) (aE mK))
   case' P=>refine' ai ?b ?c
   case b=>
    refine' aL ?d ?e aK
    case d=>exact(aI (ki hr) kj (dv 2) aF (aB _))
    case' e=>refine' ar ?f
    case' f=>refine' aA ?g
    case' g=>refine' aP nj nk (dv 3) ?h
    case h=>exact(cM (aa (au G_k hr T.F_k (aa (dv 0) (aa (dv 1) ah))) ah))
   case' c=>refine' ai ?i ?j
   case i=>
    refine' aL ?k ?l aK
    case k=>exact(aI (ki hr) kj (dv 2) aF (aB _))
    case' l=>refine' ai ?m ?n
    case m=>
     refine' aJ (i:=6) qH.nd rfl UG ?o (hs:=tS)
     case' o=>refine' nW aM aR (df ?p) ?q
     case p=>
      refine' fe ?r
      case' r=>refine' bB ?s
      case' s=>refine' aa ?t ?u
      case t=>exact(cM (aa aF (aa (dv 4) ah)))
      case' u=>refine' aa ?v ah
      case v=>exact(cM (aa aF (aa (dv 4) ah)))
     case q=>exact(df (au G_i hr T.F_i (aa (dv 0) (aa ae ah))))
    case' n=>refine' ar ?w
    case' w=>refine' aA ?x
    case' x=>refine' aP nj nk (dv 3) ?y
    case' y=>refine' cM ?z
    case' z=>refine' aa (dv 6) ?A0
    case' A0=>refine' aa ?A1 ah
    case A1=>exact(j5 (j7 hr.units) j8 (df (au G_i hr T.F_i (aa (dv 0) (aa ae ah)))) (df ae) (aB _))
   case' j=>refine' ai ?A2 ?A3
   case A2=>
    refine' aL ?A4 ?A5 aK
    case A4=>exact(PW.pt (kB (aI (ki hr) kj (dv 2) aF (aB _)) (lh (aI (ki hr) kj (dv 2) aF (aB _)))))
    case' A5=>refine' ar ?A6
    case A6=>exact(aA (aP nj nk (dv 3) (cM (aa (dv 4) ah))))
   case' A3=>refine' ar ?A7
   case A7=>exact(aA (dv 3))
  case B=>
  clear hr T G_i G_o G_k;simp only [bL,MV,true_and,↓iU,↓i6,↓i8,↓i9,↓ja,↓jb,↓jd,↓iV,↓eZ,↓iu,↓jG,↓jH,↓jI,↓jJ,↓jK,↓jL,↓iw,↓ix,↓iy,↓iz,↓iA,↓iB,↓iC,↓iD,↓iE,↓iF,↓iG,↓iH,↓iI,↓iJ,↓iK,↓iL,↓iM,↓iN,↓iO,↓iP,↓iQ,↓iR,↓iS,↓iT,cf,cz,cg,cV,fA,fB,cU,cW,cX,di,dj,fJ,cK,dC,bw,dI,dA,dB,dD,fO,dE,bX,dW,dU,dG,dF,dL,cC,cL,fx,cx,cq,bI,cO,cP,cQ,cR,fy,cS,cT,cu,cw,fz,gu,gx,gy,gz,gA,gB,gC,gD,gE,gF,gG,gH,gI,gJ,gK,gL,gM,gN,gO,gP,gQ,gR,gS,gT,gU,gW,gX,gY,gZ,g6,g9,hG,hJ,hV,hW,hX,hZ,ic,ie,ig,ij,ik,il,eR,dN,fN,dX,cH,fQ,d6,dH,dJ,dO,dP,dQ,dR,dS,cF,dY,dZ,d3,bS,fK,fL,fM,fC,fD,fE,fF,dm,fG,dn,fH,eM,eQ,gn,gp,gr,gm,gs,eF,eG,eJ,eL,bY,eO,eN,er,eD,eT,eV,eX,eY,b0,ip,iq,iX,iW,iY,iZ,i3,i4,i5,ff,fg,jh,jf,jg,je,jm,ji,jj,jk,jl,cI,fh,jr,jt,jn,jo,jq,ju,jv,jw,fj,jx,jy,jA,jB,fk,jC,jD,jE,jz,jF,fq,ft,fu,fv,jM,jN,jO,bL,fY,fZ,gb,gc,gf,gh,gi,gj,gk,ne_eq,bZ,fU,fV,fW,fX,fR,fS,fT,cD,cE,dz,cY,dh,c7,cZ,bR,bQ,bg,bV,cn,bW,NN,Of,NJ,N8,NP,N6,N9,NY,OE,OF,ON,OO,OP,NU,NR,Oc,N4,N5,Oa,exists_eq_left',exists_eq_left,exists_and_left,exists_and_right,Oi,Oj,Sl.v.injEq,Sl.o.injEq,Sl.k.injEq,Oq,Ol,Ov,Oe,Om,NQ,and_true,true_and,OQ,Ow,exists_const,decide_eq_true_eq,OR,OS,OH,OI,N1,decide_eq_false_iff_not,and_assoc,or_true,true_or,↓reduceIte,if_true,if_false,N2,Ob,not_true_eq_false,not_false_eq_true,OK,OA,ite_true,ite_false,eq_self,exists_eq,reduceCtorEq,false_and,and_false,or_false,false_or,exists_false,Ox,Oy,cb,OG,OT,OD,OU,N3,OC,Od,OM,aV,bz,bU,cG,d7,bo,eg,ei,beq_self_eq_true,d8,d9,fP,bu,UY];intro i i0 i1;obtain⟨wo,hw,ew⟩:=pY [NG "paper",NG "happens",NG "rule",NG "rule",NG "end",NG "hold",NG "lift",NG "leave"] (i:=i) i0 (by show _ < ((8:Nat):Int);omega)
  have nm5:∀i:Int,0<=i->i < 5->∃nm,atI [NI a,NI b,NI c,NI d,NI e] i=some (.str nm)/\Nm nm:=λi i0 i1=>by
   obtain⟨nm,hm,en⟩:=pY [a,b,c,d,e] i0 (show i < ((5:Nat):Int) by omega);exact⟨nm,en,hn nm hm⟩
  refine⟨_,ew,λn hd i i0 i1=>?_⟩;obtain⟨x,ex,hx⟩:=nm5 i i0 i1;refine⟨_,ex,λi i0 i1=>?_⟩;obtain⟨y,ey,hy⟩:=nm5 i i0 i1;refine⟨_,ey,bZ,?_⟩;rw [bo];split
  ·rename_i h;rw [eq_of_beq h];refine IF (λx hx R S hR hS=>?_) λys hy'=>?_
   ·walk_at "a";intro i i0 i1;split
    ·exact hR
    ·exact hS
   ·have e5:([NI a,.str b,.str c,.str d,.str e]:List UI)=[a,b,c,d,e].map .str:=rfl;rw [e5] at hy';obtain⟨zs,hz,rfl⟩:=List.sublist_map_iff.mp hy';have zl:zs.length<=5:=hz.length_le;refine⟨zs,rfl,UC,?_⟩;have ce:bx ((kL zs).map NI) none (some 4)=((kL zs).take 4).map .str:=by rw [RG];exact Ey (k:=4)
    rw [ce];refine q _ (.paper hd hx hy ⟨by rw [Pn];omega,λm hm=>hn m (hz.subset ((tP zs).mem_iff.mp (PQ hm))),(E3 (nd.sublist hz)).sublist (R6 _ _)⟩)
  ·rename_i hp;refine⟨bZ,?_⟩;rw [bo];split
   ·rename_i h;rw [eq_of_beq h];exact⟨a,b,c,d,e,rfl,hn,λp pp=>q _ (.rule hd hx pp)⟩
   ·rename_i hr;refine⟨bZ,?_⟩;rw [bo];split
    ·rename_i h;rw [eq_of_beq h];intro i i0 i1;rcases(show i=0\/i=1 by omega) with rfl | rfl
     ·exact⟨_,rfl,λj _ _=>q _ (.hold hd hx UH hy)⟩
     ·exact⟨_,rfl,λj _ _=>q _ (.hold hd hx UH hy)⟩
    ·rename_i ho;refine⟨bZ,?_⟩;rw [bo];split
     ·rename_i h;exact q _ (.two (by rw [eq_of_beq h];simp) hd hx hy)
     ·rename_i hh;refine⟨bZ,?_⟩;rw [bo];split
      ·rename_i h;exact q _ (.two (by rw [eq_of_beq h];simp) hd hx hy)
      ·rename_i hl;refine q _ (.one ?_ hd hx);simp only [NO,NZ,or_false] at hw⊢;rcases hw with h | h | h | h | h | h | h | h
       ·exact absurd (by rw [h];rfl) hp
       ·exact absurd (by rw [h];rfl) hh
       ·exact absurd (by rw [h];rfl) hr
       ·exact absurd (by rw [h];rfl) hr
       ·exact .inl h
       ·exact absurd (by rw [h];rfl) ho
       ·exact .inr h
       ·exact absurd (by rw [h];rfl) hl
theorem MY{d:UI}(h:bM d):((kn d).map (λx:Str=>x.length)).sum+(kn d).length*(NG " ").length<=16777216:=by
 have dw:=uJ h;have:=uK dw.2;have:=dw.1;rw [AD];omega
def MZ:List UI->(UI->Prop)->Prop:=λds Q=>∃d,ds=[d]/\bM d/\Q (.str (jT d))
theorem M0(T:Txt K mg t):aC P w K mg base CX0 3 t.a_q t.d_q ["_law_deed"] (bf K MZ):=by
 have G_n:=@ML P w _ _ base _ T;refine T.F_q.F.okD qI (λds Q h=>?_) (λ_ _ _ _ H O ds Q E hr h=>?_)
 ·obtain⟨d,rfl,_⟩:=h;rfl
 ·obtain⟨d,rfl,hd,q⟩:=h;refine'⟨_,?A,?B⟩
  case A=>
   refine' ai ?C ?D
   case C=>
    refine' rK (i:=1) qI.nd rfl UG ?E (hs:=CC)
    case' E=>refine' bB ?F
    case' F=>refine' aa ?G ?H
    case G=>exact(aj aO aS (dv 0) ae)
    case' H=>refine' aa ?I ?J
    case I=>exact(au G_n hr T.F_n (aa (aj aO aS (dv 0) ae) ah))
    case' J=>refine' aa ?K ah
    case K=>exact(aj aO aS (dv 0) ae)
   case' D=>refine' ai ?L ?M
   case L=>
    refine' aL ?N ?O aK
    case N=>exact(aI (ki hr) kj (aj aO aS (dv 0) ae) aF (aB _))
    case' O=>refine' ar ?P
    case' P=>refine' rK (i:=1) qI.nd rfl UG ?Q (hs:=pM)
    case' Q=>refine' kK (df ?R) (df ?S)
    case R=>exact(fe (kK (dw 1) (df (fe (bB (aa (aj aO aS (dv 0) ae) ah))))))
    case S=>exact(fe (pC rfl T.n_list pk (aw (aj aO aS (dv 0) ae) az)))
   case' M=>refine' ai ?T ?U
   case T=>
    refine' aL ?V ?W aK
    case V=>exact(aI (ki hr) kj (aj aO aS (dv 0) ae) aF (aB _))
    case' W=>refine' ai ?X ?Y
    case X=>
     refine' rK (i:=1) qI.nd rfl UG ?Z (hs:=pM)
     case' Z=>refine' kK (dw 1) (df ?a)
     case a=>exact(fe (pC rfl T.n_list pk (aw (wm (df (aj aO aS (dv 0) ae)) jR (dM ae)) az)))
    case' Y=>refine' ar ?b
    case' b=>refine' aL ?c ?d aK
    case c=>exact(aI (j7 hr.units) j8 (PE.imp (aT jZ rfl T.n_len Og (aw (aj aO aS (dv 0) ae) az)) (aE j9)) ae (aB _))
    case' d=>refine' ar ?e
    case' e=>generalize hG27:T5 _ _ _ _=eg27
    refine' rK (i:=1) qI.nd rfl UG ?f (hs:=by subst hG27;exact pM)
    case' f=>subst hG27
    refine' kK (dw 1) (df ?g)
    case' g=>refine' fe ?h
    case' h=>refine' bB ?i
    case' i=>refine' aa ?j ?k
    case j=>exact(De aF (df (aj aO aS (aj aO aS (dv 0) ae) ae)))
    case' k=>refine' aa ?l ?m
    case l=>exact(PE.imp (cJ nO rfl T.n_str mr (aw (aj aO aS (aj aO aS (dv 0) ae) ae) az)) (aE nY))
    case' m=>refine' aa ?n ah
    case n=>exact(aj aO aS (aj aO aS (dv 0) ae) ae)
   case' U=>refine' ai ?o ?p
   case o=>
    refine' aL ?q ?r aK
    case q=>exact(aI (ki hr) kj (aj aO aS (dv 0) ae) aF (aB _))
    case' r=>refine' ar ?s
    case' s=>refine' rK (i:=1) qI.nd rfl UG ?t (hs:=pM)
    case' t=>refine' kK (df ?u) (df ?v)
    case u=>
     refine' fe ?w
     case' w=>refine' kK (dw 1) (df ?x)
     case x=>exact(fe (pC rfl T.n_list pk (aw (aj aO aS (dv 0) ae) az)))
    case' v=>refine' fe ?y
    case y=>exact(JC (bB (aa aF ah)) (PE.imp (cJ sU rfl T.n_int mH (aw (aj aO aS (dv 0) ae) az)) (aE tK)))
   case' p=>refine' ai ?z ?A0
   case z=>
    refine' aL ?A1 ?A2 aK
    case A1=>exact(PW.pt (kB (aI (ki hr) kj (aj aO aS (dv 0) ae) aF (aB _)) (lh (aI (ki hr) kj (aj aO aS (dv 0) ae) aF (aB _)))))
    case' A2=>refine' ar ?A3
    case A3=>exact(Ht (i:=1) (pv 1) (aj aO aS (dv 0) ae))
   case' A0=>refine' ar ?A4
   case A4=>exact(aA (qo aF (dw 1)))
  case B=>
  clear hr T G_n;have sz:=MY hd;cases hd with
  | @paper n x k ms hn hx hk hm=>
   have e:kn (.tuple [.str "paper",.int n,.str x,.str k,.tuple (ms.map .str)])=NG "paper"::kA n::x::k::ms:=by
    show NG "paper"::kA n::x::k::oR (.tuple (ms.map .str))=_;rw [qM]
   walk_at "a";have:=hm.len;unfold jT at q;rw [e] at sz q;exact⟨n,rfl,hn,by rw [NS];omega,_,rfl,sz,q⟩
  | two hw hn hx hy=>
   simp only [NO,NZ,or_false] at hw;rcases hw with rfl | rfl
   ·walk_at "a";exact⟨_,rfl,hn,_,rfl,sz,q⟩
   ·walk_at "a";exact⟨_,rfl,hn,_,rfl,sz,q⟩
  | rule hn hx hp=>
   cases hp with
   | wfl hw hk=>
    walk_at "a";refine⟨_,rfl,hn,?_⟩;dsimp only;rw [UD Ce];exact⟨_,rfl,sz,q⟩
   | kg hw hk hs h0 h1 hu=>
    walk_at "a";refine⟨_,rfl,hn,?_⟩;dsimp only;rw [UE Ce];obtain⟨e,z⟩:=uG hs;exact⟨_,e,z,n8 h0 UC,_,rfl,sz,q⟩
  | one hw hn hx=>
   simp only [NO,NZ,or_false] at hw;rcases hw with rfl | rfl
   ·walk_at "a";exact⟨_,rfl,hn,_,rfl,sz,q⟩
   ·walk_at "a";exact⟨_,rfl,hn,_,rfl,sz,q⟩
  | @hold n x g y b hn hx hg hy=>
   cases b
   ·walk_at "a";exact⟨n,rfl,hn,(by show(5:Nat)<=16777216;decide),[NG "hold",kA n,x,g,y],rfl,sz,q⟩
   ·walk_at "a";exact⟨n,rfl,hn,(by show(6:Nat)<=16777216;decide),[NG "hold",kA n,x,g,y,NG "deep"],rfl,sz,q⟩
end
theorem E4:fw (ay uA) ["_law_text","_law_words","_law_head","_law_more"] ["_law_word"] 1 [] ⟨OL,[ (NM ".0",Ww),(NM "_law_word",Ww),(NM "_law_name",OV)],false,false,[]⟩:= .of
section
variable {P:UX} {w:UZ} {K:NH} {mg:Str->Option UJ} {base:UW} {t:k9}
theorem mE{z:Str}{Q:UI->Prop}:AO [.str z] Q↔z.length<=1000/\Q (.bool (cj (.str z))):=⟨λuu55=>by obtain⟨_,e,h⟩:=uu55;cases e;exact h,λh=>⟨_,rfl,h⟩⟩
theorem nG{z:Str}{Q:UI->Prop}:E1 [.str z] Q↔z.length<=1000/\Q (kM z):=⟨λuu56=>by obtain⟨_,e,h⟩:=uu56;cases e;exact h,λh=>⟨_,rfl,h⟩⟩
theorem lH{z:Str}:cj (.str z)=true↔Nm z:=⟨λh=>by obtain⟨y,e,hy⟩:=mB h;injection e with e;rw [e];exact hy,Nm.is⟩
theorem AR{u v a:Str}:(u==a || v==a)=decide (a∈[u,v]):=by
 rw [P6,Rc,beq_iff_eq,beq_iff_eq,decide_eq_true_eq,NO,PM];exact or_congr eq_comm eq_comm
theorem E5{u v w a:Str}:(u==a || (v==a || w==a))=decide (a∈[u,v,w]):=by
 rw [P6,Rc,Rc,beq_iff_eq,beq_iff_eq,beq_iff_eq,decide_eq_true_eq,NO,NO,PM];exact or_congr eq_comm (or_congr eq_comm eq_comm)
theorem uQ{z:Str}{c:Nat}:Txt.join ⟨#[c]⟩ (Txt.split z ⟨#[c]⟩)=z:=by
 rw [show Txt.join ⟨#[c]⟩ (Txt.split z ⟨#[c]⟩)=QM ⟨#[c]⟩ _ from P7 _ _];exact RW z ⟨#[c]⟩
theorem M1{a b:List Str}:(O6 (a.map .str)).eqv (O6 (b.map .str))=decide (a=b):=by rw [NT];exact uM
theorem qS{a b:List Str}:(O7 (a.map .str)).eqv (O7 (b.map .str))=decide (a=b):=by rw [NT];exact uM
theorem M3{cs:List Str}{Q:UI->Prop}{X:Prop}(hw:∀z∈cs,nF z)(q:(∀s,lX s->jV s≠cs)->Q .none)(hx:∀s,lX s->jV s=cs->X):
 P9 (O6 (Pd NI cs))=true/\P9 (O6 [NI (NG "coming")])=true/\
  if (O6 (Pd NI cs)).eqv (O6 [NI (NG "coming")])=false then
   if (((Pd NI cs).length:Int)==2)=false then Q Q8
   else ∃x,atI (Pd NI cs) 0=some x/\P9 x=true/\Pz [NI (NG "first"),NI (NG "last")]=true/\
    if ((NI (NG "first")).eqv x || (NI (NG "last")).eqv x)=false then Q Q8
    else ∃x,atI (Pd NI cs) 1=some x/\AO [x] λd=>∃b,d=RC b/\if b=false then Q Q8 else X
  else X:=by
 refine⟨(pX λz hz=>(hw z hz).2).2,td,?_⟩;rw [show(O6 (Pd NI cs)).eqv (O6 [NI (NG "coming")])=decide (cs=[NG "coming"]) from M1 (b:=[NG "coming"])];by_cases hc:cs=[NG "coming"]
 ·rw [UD (by rw [decide_eq_true hc];decide)];exact hx _ .coming hc.symm
 ·rw [UE (decide_eq_false hc)];have no:(∀a b,cs=[a,b]->¬(a∈[NG "first",NG "last"]/\Nm b))->Q .none:=λh=>q λs hs e=>by
   cases hs with
   | coming=>exact hc e.symm
   | first hh=>exact h _ _ e.symm ⟨UH,hh⟩
   | last hh=>exact h _ _ e.symm ⟨UH,hh⟩
  match cs,hw with
  | [a,b],hw=>
   have wa:=hw a UH;have wb:=hw b UH;rw [UD UH];refine⟨_,aV,mX.mpr wa.2,td,?_⟩;rw [bo,bo,AR];by_cases ha:a∈[NG "first",NG "last"]
   ·rw [UD (by rw [decide_eq_true ha];decide)];refine⟨_,bz,_,rfl,wb.1,_,rfl,?_⟩;by_cases hb:Nm b
    ·rw [UD (by rw [lH.mpr hb];decide)];simp only [NO,NZ,or_false] at ha;rcases ha with rfl | rfl
     ·exact hx _ (.first hb) rfl
     ·exact hx _ (.last hb) rfl
    ·rw [UE (by simpa using λz=>hb (lH.mp z))];exact no λ_ _ e z=>by injection e with _ e;injection e with e;exact hb (e▸z.2)
   ·rw [UE (decide_eq_false ha)];exact no λ_ _ e z=>by injection e with e _;exact ha (e▸z.1)
  | [],_=>rw [UE UH];exact no λ_ _ e=>by cases e
  | [_],_=>rw [UE UH];exact no λ_ _ e=>by cases e
  | _::_::_::_,_=>rw [UE (by simp;omega)];exact no λ_ _ e=>by cases e
theorem M4{z:Str}(h:Wz z):Pc z=true:=mZ.mpr λc hc=>Tg (h.2 c hc).2 Ce
def M5:List UI->(UI->Prop)->Prop:=λds Q=>∃ws:List Str,ds=[.list (kX ws)]/\ws.length<=1002/\(∀z∈ws,nF z)/\(∀p,mf p->lG p=ws->Q p)/\((∀p,mf p->lG p≠ws)->Q .none)
theorem M6(T:Txt K mg t):aC P w K mg base CX0 2 t.a_w t.d_w ["_law_words"] (bf K M5):=by
 have G_t:=@ET P w _ _ base _ T;have G_u:=@EU P w _ _ base _ T;refine T.F_w.F.okD Aw (λds Q h=>?_) (λ_ _ _ _ H O ds Q E hr h=>?_)
 ·obtain⟨ws,rfl,_⟩:=h;rfl
 ·obtain⟨ws,rfl,hl,hw,q1,q2⟩:=h;refine'⟨_,?A,?B⟩
  case A=>
   refine' ai ?C ?D
   case C=>
    refine' aL ?E ?F aK
    case E=>exact(PW.pt (kQ (aI (j7 hr.units) j8 (PE.imp (aT jZ rfl T.n_len Og (aw (dv 0) az)) (aE j9)) ae (aB _)) (kQ (aI (pG hr) ng (aj aM aR (dv 0) ae) (fe (bB (mY (ds:=[.str "while",.str "follow",.str "leave"]) (by rfl)))) rfl) (md (cy (au G_u hr T.F_u (aa (aj aM aR (dv 0) ae) ah)))))))
    case' F=>refine' ar ?G
    case G=>exact(aA (PE.imp (cJ mG rfl T.n_tuple lz (aw (dv 0) az)) (aE mK)))
   case' D=>refine' ai ?H ?I
   case H=>
    refine' aL ?J ?K aK
    case J=>exact(PW.pt (kB (aI (mV hr.units) mW (PE.imp (aT jZ rfl T.n_len Og (aw (dv 0) az)) (aE j9)) ae (aB _)) (kB (aI (wk hr) ng (aj aM aR (dv 0) ae) (fe (bB (aa aF (aa aF ah)))) rfl) (lh (kr (cy (au G_u hr T.F_u (aa (aj aM aR (dv 0) ae) ah))))))))
    case K=>refine' ar (aA ku)
   case' I=>refine' ai ?L ?M
   case L=>
    refine' aJ (i:=1) Aw.nd rfl UG ?N (hs:=pN)
    case N=>exact(PE.imp (cJ mG rfl T.n_tuple lz (aw (fe (pO (aj aM aR (dv 0) ae) aF)) az)) (aE mK))
   case' M=>refine' ai ?O ?P
   case O=>
    refine' aL ?Q ?R aK
    case Q=>exact(aI (mV hr.units) mW (dv 1) (cM (aa aF ah)) (aB _))
    case' R=>refine' ar ?S
    case' S=>refine' aL ?T ?U aK
    case T=>exact(PW.pt (kB (aI (mV hr.units) mW (PE.imp (aT jZ rfl T.n_len Og (aw (dv 1) az)) (aE j9)) ae (aB _)) (kB (aI (wk hr) ng (aj aO aS (dv 1) ae) (fe (bB (aa aF (aa aF ah)))) rfl) (lh (kr (cy (au G_u hr T.F_u (aa (aj aO aS (dv 1) ae) ah))))))))
    case U=>refine' ar (aA ku)
   case' P=>refine' ai ?V ?W
   case V=>exact(aJ (i:=2) Aw.nd rfl UG (au G_t hr T.F_t (aa (aj aM aR (dv 0) ae) (aa ae ah))))
   case' W=>refine' ai ?X ?Y
   case X=>
    refine' aL ?Z ?a aK
    case Z=>exact(PW.pt (kB (aI sQ wI (dv 2) ku (aB _)) (kB (aI (mV hr.units) mW (PE.imp (cJ nO rfl T.n_str mr (aw (dv 2) az)) (aE nY)) (aj aM aR (dv 0) ae) (aB _)) (lh (aI (wk hr) ng (aj aM aR (dv 0) ae) (fe (bB (mY (ds:=[.str "days",.str "months",.str "years"]) (by rfl)))) rfl)))))
    case a=>refine' ar (aA ku)
   case' Y=>refine' ar ?b
   case' b=>refine' aA ?c
   case' c=>refine' cM ?d
   case' d=>refine' aa ?e ?f
   case e=>exact(aj aM aR (dv 0) ae)
   case' f=>refine' aa ?g ?h
   case g=>exact(aj aM aR (dv 0) ae)
   case' h=>refine' aa (dv 1) ?i
   case' i=>refine' aa (dv 2) ?j
   case' j=>refine' aa ?k ah
   case k=>exact(aj aM aR (dv 0) ae)
  case B=>
  clear hr T G_t G_u;unfold kX;have two:(∀(a b:Str),ws≠[a,b])->(∀(a b c d e:Str),ws≠[a,b,c,d,e])->Q .none:=λh h2=>q2 λp hp e=>by
   cases hp with
   | wfl _ _=>exact h _ _ e.symm
   | kg _ _ _ _ _ _=>exact h2 _ _ _ _ _ e.symm
  match ws,hl,hw,q1,q2,two with
  | [a,b],hl,hw,q1,q2,_=>
   simp only [mE,AQ,true_and,↓iU,↓i6,↓i8,↓i9,↓ja,↓jb,↓jd,↓iV,↓eZ,↓iu,↓jG,↓jH,↓jI,↓jJ,↓jK,↓jL,↓iw,↓ix,↓iy,↓iz,↓iA,↓iB,↓iC,↓iD,↓iE,↓iF,↓iG,↓iH,↓iI,↓iJ,↓iK,↓iL,↓iM,↓iN,↓iO,↓iP,↓iQ,↓iR,↓iS,↓iT,cf,cz,cg,cV,fA,fB,cU,cW,cX,di,dj,fJ,cK,dC,bw,dI,dA,dB,dD,fO,dE,bX,dW,dU,dG,dF,dL,cC,cL,fx,cx,cq,bI,cO,cP,cQ,cR,fy,cS,cT,cu,cw,fz,gu,gx,gy,gz,gA,gB,gC,gD,gE,gF,gG,gH,gI,gJ,gK,gL,gM,gN,gO,gP,gQ,gR,gS,gT,gU,gW,gX,gY,gZ,g6,g9,hG,hJ,hV,hW,hX,hZ,ic,ie,ig,ij,ik,il,eR,dN,fN,dX,cH,fQ,d6,dH,dJ,dO,dP,dQ,dR,dS,cF,dY,dZ,d3,bS,fK,fL,fM,fC,fD,fE,fF,dm,fG,dn,fH,eM,eQ,gn,gp,gr,gm,gs,eF,eG,eJ,eL,bY,eO,eN,er,eD,eT,eV,eX,eY,b0,ip,iq,iX,iW,iY,iZ,i3,i4,i5,ff,fg,jh,jf,jg,je,jm,ji,jj,jk,jl,cI,fh,jr,jt,jn,jo,jq,ju,jv,jw,fj,jx,jy,jA,jB,fk,jC,jD,jE,jz,jF,fq,ft,fu,fv,jM,jN,jO,bL,fY,fZ,gb,gc,gf,gh,gi,gj,gk,ne_eq,bZ,fU,fV,fW,fX,fR,fS,fT,cD,cE,dz,cY,dh,c7,cZ,bR,bQ,bg,bV,cn,bW,NN,Of,NJ,N8,NP,N6,N9,NY,OE,OF,ON,OO,OP,NU,NR,Oc,N4,N5,Oa,exists_eq_left',exists_eq_left,exists_and_left,exists_and_right,Oi,Oj,Sl.v.injEq,Sl.o.injEq,Sl.k.injEq,Oq,Ol,Ov,Oe,Om,NQ,and_true,true_and,OQ,Ow,exists_const,decide_eq_true_eq,OR,OS,OH,OI,N1,decide_eq_false_iff_not,and_assoc,or_true,true_or,↓reduceIte,if_true,if_false,N2,Ob,not_true_eq_false,not_false_eq_true,OK,OA,ite_true,ite_false,eq_self,exists_eq,reduceCtorEq,false_and,and_false,or_false,false_or,exists_false,Ox,Oy,cb,OG,OT,OD,OU,N3,OC,Od,OM,aV,bz,bU,cG,d7,bo,eg,ei,beq_self_eq_true,d8,d9,fP,bu,UY];have wa:=hw a UH;have wb:=hw b UH;have no:¬(a∈[NG "while",NG "follow",NG "leave"]/\Nm b)->Q .none:=λh=>q2 λp hp e=>by
    cases hp with
    | wfl h1 h2=>
     injection e with e1 e;injection e with e2 _
     subst e1 e2;exact h ⟨h1,h2⟩
    | kg _ _ _ _ _ _=>exact absurd (congrArg QV e) (by simp [lG])
   rw [UE Ce,E5];refine⟨mX.mpr wa.2,td,?_⟩;by_cases ha:a∈[NG "while",NG "follow",NG "leave"]
   ·rw [UE (decide_eq_true ha)];refine⟨wb.1,?_⟩;by_cases hb:Nm b
    ·rw [UE (lH.mpr hb)];exact q1 _ (.wfl ha hb) rfl
    ·rw [UD (λz=>hb (lH.mp z)),UE Ce];exact no λz=>hb z.2
   ·rw [UD (by simpa using ha),UE Ce];exact no λz=>ha z.1
  | [a,b,c,d,e],hl,hw,q1,q2,_=>
   simp only [mE,AQ,true_and,↓iU,↓i6,↓i8,↓i9,↓ja,↓jb,↓jd,↓iV,↓eZ,↓iu,↓jG,↓jH,↓jI,↓jJ,↓jK,↓jL,↓iw,↓ix,↓iy,↓iz,↓iA,↓iB,↓iC,↓iD,↓iE,↓iF,↓iG,↓iH,↓iI,↓iJ,↓iK,↓iL,↓iM,↓iN,↓iO,↓iP,↓iQ,↓iR,↓iS,↓iT,cf,cz,cg,cV,fA,fB,cU,cW,cX,di,dj,fJ,cK,dC,bw,dI,dA,dB,dD,fO,dE,bX,dW,dU,dG,dF,dL,cC,cL,fx,cx,cq,bI,cO,cP,cQ,cR,fy,cS,cT,cu,cw,fz,gu,gx,gy,gz,gA,gB,gC,gD,gE,gF,gG,gH,gI,gJ,gK,gL,gM,gN,gO,gP,gQ,gR,gS,gT,gU,gW,gX,gY,gZ,g6,g9,hG,hJ,hV,hW,hX,hZ,ic,ie,ig,ij,ik,il,eR,dN,fN,dX,cH,fQ,d6,dH,dJ,dO,dP,dQ,dR,dS,cF,dY,dZ,d3,bS,fK,fL,fM,fC,fD,fE,fF,dm,fG,dn,fH,eM,eQ,gn,gp,gr,gm,gs,eF,eG,eJ,eL,bY,eO,eN,er,eD,eT,eV,eX,eY,b0,ip,iq,iX,iW,iY,iZ,i3,i4,i5,ff,fg,jh,jf,jg,je,jm,ji,jj,jk,jl,cI,fh,jr,jt,jn,jo,jq,ju,jv,jw,fj,jx,jy,jA,jB,fk,jC,jD,jE,jz,jF,fq,ft,fu,fv,jM,jN,jO,bL,fY,fZ,gb,gc,gf,gh,gi,gj,gk,ne_eq,bZ,fU,fV,fW,fX,fR,fS,fT,cD,cE,dz,cY,dh,c7,cZ,bR,bQ,bg,bV,cn,bW,NN,Of,NJ,N8,NP,N6,N9,NY,OE,OF,ON,OO,OP,NU,NR,Oc,N4,N5,Oa,exists_eq_left',exists_eq_left,exists_and_left,exists_and_right,Oi,Oj,Sl.v.injEq,Sl.o.injEq,Sl.k.injEq,Oq,Ol,Ov,Oe,Om,NQ,and_true,true_and,OQ,Ow,exists_const,decide_eq_true_eq,OR,OS,OH,OI,N1,decide_eq_false_iff_not,and_assoc,or_true,true_or,↓reduceIte,if_true,if_false,N2,Ob,not_true_eq_false,not_false_eq_true,OK,OA,ite_true,ite_false,eq_self,exists_eq,reduceCtorEq,false_and,and_false,or_false,false_or,exists_false,Ox,Oy,cb,OG,OT,OD,OU,N3,OC,Od,OM,aV,bz,bU,cG,d7,bo,eg,ei,beq_self_eq_true,d8,d9,fP,bu,UY];have wa:=hw a UH;have wb:=hw b UH;have wc:=hw c UH;have wd:=hw d UH;have we:=hw e UH
   have no:¬(a∈[NG "keep",NG "gone"]/\Nm b/\(∃s,lX s/\jV s=Txt.split c (NG ":"))/\(l3 d 3/\ke (nv d)=d)/\e∈[NG "days",NG "months",NG "years"])->Q .none:=λh=>q2 λp hp ee=>by
    cases hp with
    | wfl _ _=>exact absurd (congrArg QV ee) (by simp [lG])
    | @kg _ _ _ s m hw2 hk hs h0 h1 hu=>
     injection ee with e1 ee;injection ee with e2 ee;injection ee with e3 ee;injection ee with e4 ee;injection ee with e5 _
     subst e1 e2 e3 e4 e5;have sw:=AH hs;obtain⟨⟨l1,l2⟩,f1,f2,_⟩:=AG h0 h1;have rd:intText? (ke m)=some m:=by
      obtain⟨k,rfl⟩:=OY h0;exact SQ UC UC
     refine h ⟨hw2,hk,⟨s,hs,?_⟩,⟨⟨l2,by show((ke m).length:Int)<=3;omega,f1⟩,?_⟩,hu⟩
     ·rw [qN,AF sw.1 λz hz=>(sw.2 z hz).2.1]
     ·show ke (nv (ke m))=ke m;unfold nv;rw [rd];rfl
   rw [UD Ce,UD Ce,AR,E5];refine⟨mX.mpr wa.2,td,?_⟩;by_cases ha:a∈[NG "keep",NG "gone"]
   ·rw [UD (by rw [decide_eq_true ha];decide)];refine⟨wb.1,?_⟩;by_cases hb:Nm b
    ·rw [UD (by rw [lH.mpr hb];decide)];refine⟨td,by have:=wc.1;omega,M3 (λz hz=>?_) (λh=>no λz=>?_) λs hs es=>?_⟩
     ·rw [qN] at hz;exact⟨OB (uN hz) wc.1,uP wc.2 hz⟩
     ·obtain⟨s,hs,es⟩:=z.2.2.1;exact h s hs es
     ·refine⟨wd.1,?_⟩;by_cases hf:l3 d 3
      ·have ef:kN d 3= .int (nv d):=by unfold kN;rw [UE hf]
       have dl:d.length<=3:=by have:=hf.2.1;omega
       obtain⟨y,y1,y2⟩:=AL hf.2.2 (by have:=hf.1;omega) UC;have en:nv d=y:=by unfold nv;rw [y2];rfl
       have nw:=Ew (m:=(y:Int)) UC UC;rw [ef,en,UD (by simp [mN])];refine⟨_,rfl,n8 UC UC,mX.mpr (M4 nw),mX.mpr wd.2,?_⟩;by_cases ed:ke (y:Int)=d
       ·rw [UD (by rw [show NG (toString (y:Int))=d from ed];simp)];refine⟨mX.mpr we.2,td,?_⟩;by_cases hu:e∈[NG "days",NG "months",NG "years"]
        ·rw [UD (by rw [decide_eq_true hu];decide)];have ex:O6 (Pd .str (Txt.split c (NG ":")))=s:=by rw [<-es];exact(uG hs).1.symm
         rw [ex];refine q1 _ (.kg ha hb hs UC UC hu) ?_;show [a,b,Txt.join (NG ":") (jV s),ke (y:Int),e]=_;rw [es,ed,qN,uQ]
        ·rw [UE (decide_eq_false hu)];exact no λz=>hu z.2.2.2.2
       ·rw [UE (show(NG (toString (y:Int))==d)=false from beq_eq_false_iff_ne.mpr ed)];exact no λz=>ed (by rw [<-en];exact z.2.2.2.1.2)
      ·have ef:kN d 3= .none:=by unfold kN;rw [UD hf]
       rw [ef,UE Ce];exact no λz=>hf z.2.2.2.1.1
    ·rw [UE (by simpa using λz=>hb (lH.mp z))];exact no λz=>hb z.2.1
   ·rw [UE (decide_eq_false ha)];exact no λz=>ha z.1
  | [],_,_,_,q2,two=>walk_at "a";rw [UD Ce,UE Ce];exact two (λ_ _ e=>by cases e) λ_ _ _ _ _ e=>by cases e
  | [_],_,_,_,q2,two=>walk_at "a";rw [UD Ce,UE Ce];exact two (λ_ _ e=>by cases e) λ_ _ _ _ _ e=>by cases e
  | [_,_,_],_,_,_,q2,two=>walk_at "a";rw [UD Ce,UE Ce];exact two (λ_ _ e=>by cases e) λ_ _ _ _ _ e=>by cases e
  | [_,_,_,_],_,_,_,q2,two=>walk_at "a";rw [UD Ce,UE Ce];exact two (λ_ _ e=>by cases e) λ_ _ _ _ _ e=>by cases e
  | _::_::_::_::_::_::r,_,_,_,q2,two=>walk_at "a";rw [UD (by simp;omega),UE (by simp;omega)];exact two (λ_ _ e=>by cases e) λ_ _ _ _ _ e=>by cases e
theorem M7{z:Str}(h:bG z 4=true):∃y:Nat,y < 10000/\z=⟨(d4 y).toArray⟩:=by
 unfold bG at h;rw [Oo,decide_eq_true_eq,Pg] at h;obtain⟨hl,hm⟩:=h;have hz:z.cps.toList.length=4:=by rw [show z.cps.toList.length=z.length from N0];omega
 match e:z.cps.toList,hz with
 | [a,b,c,d],_=>
  rw [e] at hm;have f:∀x∈[a,b,c,d],48<=x/\x < 58:=λx hx=>sA (by simpa using hm x hx);have ha:=f a UH;have hb:=f b UH;have hc:=f c UH;have hd:=f d UH;refine⟨(a - 48)*1000+(b - 48)*100+(c - 48)*10+(d - 48),UC,(pU e).trans (congrArg (λl:List Nat=>(⟨l.toArray⟩:Str)) ?_)⟩;unfold d4;rw [NQ,NQ,NQ,NQ];exact⟨UC,UC,UC,UC,rfl⟩
theorem E6{z:Str}(h:bG z 2=true):∃y:Nat,y < 100/\z=⟨(d2 y).toArray⟩:=by
 unfold bG at h;rw [Oo,decide_eq_true_eq,Pg] at h;obtain⟨hl,hm⟩:=h;have hz:z.cps.toList.length=2:=by rw [show z.cps.toList.length=z.length from N0];omega
 match e:z.cps.toList,hz with
 | [a,b],_=>
  rw [e] at hm;have f:∀x∈[a,b],48<=x/\x < 58:=λx hx=>sA (by simpa using hm x hx);have ha:=f a UH;have hb:=f b UH;refine⟨(a - 48)*10+(b - 48),UC,(pU e).trans (congrArg (λl:List Nat=>(⟨l.toArray⟩:Str)) ?_)⟩;unfold d2;rw [NQ,NQ];exact⟨UC,UC,rfl⟩
theorem M8{z:Str}{k:Int}(h:lQ z=some k):z=kA k/\kT k:=by
 have hj:=uQ (z:=z) (c:=45);rw [show(⟨#[45]⟩:Str)=NG "-" by decide+kernel] at hj;unfold lQ at h;generalize Txt.split z (NG "-")=ws at*
 match ws with
 | [a,b,c]=>
  simp only [] at h;split at h
  ·rename_i hc;obtain⟨fa,fb,fc,hd,hn⟩:=hc;injection h with h
   obtain⟨y,y1,rfl⟩:=M7 fa;obtain⟨m,m1,rfl⟩:=E6 fb;obtain⟨n,n1,rfl⟩:=E6 fc;have v1:nv ⟨(d4 y).toArray⟩=y:=by
    unfold nv;obtain⟨y',_,_,e,_⟩:=sC fa;by_cases q:y < 1000
    ·rw [Ec ⟨y,q⟩];rfl
    ·rw [wZ UC UC];rfl
   have v2:nv ⟨(d2 m).toArray⟩=m:=by unfold nv;rw [qA ⟨m,m1⟩];rfl
   have v3:nv ⟨(d2 n).toArray⟩=n:=by unfold nv;rw [qA ⟨n,n1⟩];rfl
   rw [v1,v2,v3] at hd hn h;have D:k8 k y m n:=⟨hd.2.2.1,hd.2.2.2.1,hd.2.2.2.2.1,hd.2.2.2.2.2,h⟩;have nn:=Eg hd;refine⟨?_,UC,UC⟩;rw [<-uF D,<-hj,<-EG];simp only [O9]
  ·cases h
 | []=>cases h
 | [_]=>cases h
 | [_,_]=>cases h
 | _::_::_::_::_=>cases h
theorem M9{ms:List Str}(h:ms.Pairwise oM):kL (ms.foldl kl [])=ms:=by
 have nd:ms.Nodup:=h.imp λ{a b} z e=>by subst e;exact absurd z (List.lt_irrefl _)
 refine(wq ?_ (h.imp λ{a b} z=>decide_eq_true (Std.le_of_lt z))).symm;exact(List.perm_ext_iff_of_nodup nd (wK .nil)).mpr λa=>by rw [wJ];simp
structure DW (w:Str) (more:List Str):Prop where
 fin:w∈(["end","lift"]:List Str)->more=[]
 tw:w∈(["happens","leave"]:List Str)->∃y,more=[y]/\Nm y
 ru:w="rule"->∃p,mf p/\lG p=more
 ho:w="hold"->∃g y,g∈(["paper","kind"]:List Str)/\Nm y/\(more=[g,y]\/more=[g,y,"deep"])
 pa:w="paper"->∃k ms,more=k::ms/\Nm k/\wD ms
 al:w∈(["end","lift","happens","leave","hold","paper","rule"]:List Str)
theorem E7{p:UI}(h:mf p):mj [p]=lG p:=by cases h <;> rfl
theorem Na{w x:Str}{n:Int}{r:List UI}(h:bM (.tuple (.str w:: .int n:: .str x::r))):DW w (mj r):=by
 have nm:∀{u:Str}{l m:List Str},u∈l->(∀z∈l,z ∉ m)->u ∉ m:=λh h2=>h2 _ h;have ne:∀{u v:Str}{l:List Str},u∈l->(∀z∈l,z≠v)->u≠v:=λh h2=>h2 _ h;cases h with
 | @paper _ _ k ms _ _ hk hm=>
  have e:mj [NI k,O6 (Pd NI ms)]=k::ms:=by
   show k::oR (.tuple (ms.map .str))=_;rw [qM]
  rw [e];exact⟨λz=>absurd z td,λz=>absurd z td,λz=>absurd z td,λz=>absurd z td,λ_=>⟨k,ms,rfl,hk,hm⟩,td⟩
 | two hw _ _ hy=>exact⟨λz=>absurd z (nm hw td),λ_=>⟨_,rfl,hy⟩,λz=>absurd z (ne hw td),λz=>absurd z (ne hw td),λz=>absurd z (ne hw td),by
  simp only [NO,NZ,or_false] at hw⊢;rcases hw with h | h <;> simp [h]⟩
 | rule _ _ hp=>
  rw [E7 hp];exact⟨λz=>absurd z td,λz=>absurd z td,λ_=>⟨_,hp,rfl⟩,λz=>absurd z td,λz=>absurd z td,td⟩
 | one hw=>exact⟨λ_=>rfl,λz=>absurd z (nm hw td),λz=>absurd z (ne hw td),λz=>absurd z (ne hw td),λz=>absurd z (ne hw td),by
  simp only [NO,NZ,or_false] at hw⊢;rcases hw with h | h <;> simp [h]⟩
 | @hold _ _ g y b _ _ hg hy=>exact⟨λz=>absurd z td,λz=>absurd z td,λz=>absurd z td,λ_=>⟨g,y,hg,hy,by cases b;exact .inl rfl;exact .inr rfl⟩,λz=>absurd z td,td⟩
theorem Nb{c:DB}{t r:DS}{E:qj}{δ:Dl}(h:∀R,R=r->c δ λb=>if b=true then t {E with nx:=R E} δ else R E δ):cf (cg c t cz) r E δ:=h r rfl
def Nc:List UI->(UI->Prop)->Prop:=λds Q=>∃z,ds=[.str z]/\nF z/\(∀d,bM d->jT d=z->Q d)/\((∀d,bM d->jT d≠z)->Q .none)
theorem Nd(T:Txt K mg t):aC P w K mg base CX0 3 t.a_x t.d_x ["_law_text"] (bf K Nc):=by
 have G_v:=@MU P w _ _ base _ T;have G_u:=@EU P w _ _ base _ T;have G_w:=@M6 P w _ _ base _ T;refine T.F_x.F.okD uB (λds Q h=>?_) (λ_ _ _ _ H O ds Q E hr h=>?_)
 ·obtain⟨d,rfl,_⟩:=h;rfl
 ·obtain⟨z,rfl,hz,q1,q2⟩:=h;refine'⟨_,?A,?B⟩
  case A=>
   refine' ai ?C ?D
   case C=>exact(aJ (i:=1) uB.nd rfl UG (fe (pO (dv 0) aF)))
   case' D=>refine' ai ?E ?F
   case E=>
    refine' aL ?G ?H aK
    case G=>exact(PW.pt (kB (aI qf bT (PE.imp (aT jZ rfl T.n_len Og (aw (dv 1) az)) (aE j9)) ae (aB _)) (kB (aI sQ wI (au G_v hr T.F_v (aa (aj aM aR (dv 1) ae) ah)) ku (aB _)) (lh (kr (cy (au G_u hr T.F_u (aa (aj aM aR (dv 1) ae) ah))))))))
    case H=>refine' ar (aA ku)
   case' F=>refine' ai ?I ?J
   case I=>
    refine' aJ (i:=2) uB.nd rfl UG ?K (hs:=wG)
    case' K=>refine' cM ?L
    case' L=>refine' aa ?M ?N
    case M=>exact(aj aM aR (dv 1) ae)
    case' N=>refine' aa ?O ?P
    case O=>exact(au G_v hr T.F_v (aa (aj aM aR (dv 1) ae) ah))
    case' P=>refine' aa ?Q ah
    case Q=>exact(aj aM aR (dv 1) ae)
   case' J=>refine' ai ?R ?S
   case R=>exact(aJ (i:=3) uB.nd rfl UG (fe (kC (df (dv 1)) (dM ae) jR)))
   case' S=>refine' ai ?T ?U
   case T=>
    refine' aL ?V ?W aK
    case V=>exact(PW.pt (kQ (aI (pG hr) ng (aj aM aR (dv 1) ae) (fe (bB (aa aF (aa aF ah)))) rfl) (md (aI (j7 hr.units) j8 (dv 3) (fe (bB ah)) (aB _)))))
    case' W=>refine' ar ?X
    case X=>exact(aA (dv 2))
   case' U=>refine' ai ?Y ?Z
   case Y=>
    refine' aL ?a ?b aK
    case a=>exact(PW.pt (kQ (aI (pG hr) ng (aj aM aR (dv 1) ae) (fe (bB (aa aF (aa aF ah)))) rfl) (kQ (aI (j7 hr.units) j8 (PE.imp (aT jZ rfl T.n_len Og (aw (dv 3) az)) (aE j9)) ae (aB _)) (md (cy (au G_u hr T.F_u (aa (aj aM aR (dv 3) ae) ah)))))))
    case' b=>refine' ar ?c
    case c=>exact(aA (aP nj nk (dv 2) (cM (aa (aj aM aR (dv 3) ae) ah))))
   case' Z=>refine' ai ?d ?e
   case d=>
    refine' aL ?f ?g aK
    case f=>exact(PW.pt (kQ (aI (ki hr) kj (aj aM aR (dv 1) ae) aF (aB _)) (kQ (aI oY bT (PE.imp (aT jZ rfl T.n_len Og (aw (dv 3) az)) (aE j9)) ae (aB _)) (kQ (aI (pG hr) ng (aj aM aR (dv 3) ae) (fe (bB (aa aF (aa aF ah)))) rfl) (md (cy (au G_u hr T.F_u (aa (aj aM aR (dv 3) ae) ah))))))))
    case' g=>refine' ar ?h
    case' h=>generalize hG30:T8 _ _ _=eg30
    refine' aA ?i
    case' i=>subst hG30
    refine' nW aM aR (df ?j) ?k
    case j=>
     refine' fe ?l
     case' l=>refine' bB ?m
     case' m=>refine' aa ku ?n
     case' n=>refine' aa ?o ah
     case' o=>refine' aP nj nk (dv 2) ?p
     case' p=>refine' cM ?q
     case' q=>refine' aa ?r ?s
     case r=>exact(PE.imp (cJ mG rfl T.n_tuple lz (aw (fe (kC (df (dv 3)) jR (dM ae))) az)) (aE mK))
     case' s=>refine' aa ?t ah
     case t=>exact(j5 (j7 hr.units) j8 (df (fe (kC (df (dv 3)) (dM ae) jR))) (df (fe (bB (aa aF ah)))) (aB _))
    case k=>exact(df (PE.imp (cJ sU rfl T.n_int mH (aw (j5 (pG hr) ng (df (fe (kC (df (dv 3)) (dM ae) jR))) (df (fe (bB (aa (fe (bB ah)) (aa (fe (bB (aa aF ah))) ah))))) rfl) az)) (aE tK)))
   case' e=>refine' ai ?u ?v
   case u=>
    refine' aL ?w ?x aK
    case w=>exact(PW.pt (kQ (aI (ki hr) kj (aj aM aR (dv 1) ae) aF (aB _)) (kQ (oC jY jY bT bT (df ae) (df (PE.imp (aT jZ rfl T.n_len Og (aw (dv 3) az)) (aE j9))) (df ae)) (md (cy (PE.imp (aT (oA rfl) rfl T.n_all oB (aw (fe (rN rfl E4 (df (dv 3)) j6 lL Ce (λ_ _ _ _=>(jU (i:=0) E4.nd rfl UG)) (λ_ _ _ _=>lM) (λ_ _ _ _=>(au G_u hr T.F_u (aa (dv 0) ah))))) az)) (aE oF)))))))
    case' x=>refine' ar ?y
    case' y=>generalize hG49:T8 _ _ _=eg49
    refine' aA ?z
    case' z=>subst hG49
    refine' nW aM aR (df ?A0) ?A1
    case A0=>
     refine' fe ?A2
     case' A2=>refine' bB ?A3
     case' A3=>refine' aa ku ?A4
     case' A4=>refine' aa ?A5 ah
     case' A5=>refine' aP nj nk (dv 2) ?A6
     case' A6=>refine' cM ?A7
     case' A7=>refine' aa ?A8 ?A9
     case A8=>exact(aj aM aR (dv 3) ae)
     case' A9=>refine' aa ?AA ah
     case AA=>exact(PE.imp (cJ mG rfl T.n_tuple lz (aw (fe (kC (df (dv 3)) (dM ae) jR)) az)) (aE mK))
    case A1=>exact(df (PE.imp (cJ sU rfl T.n_int mH (aw (j5 (j7 hr.units) j8 (df (fe (kC (df (dv 3)) (dM ae) jR))) (df (fe (Jp rfl rfl T.n_sorted So rfl T.n_set (aw (fe (kC (df (dv 3)) (dM ae) jR)) az)))) (aB _)) az)) (aE tK)))
   case' v=>refine' ai ?AB ?AC
   case AB=>
    refine' aL ?AD ?AE aK
    case AD=>exact(PW.pt (kQ (aI (ki hr) kj (aj aM aR (dv 1) ae) aF (aB _)) (md (aI vA IK (au G_w hr T.F_w (aa (dv 3) ah)) ku (aB _)))))
    case' AE=>refine' ar ?AF
    case AF=>exact(aA (aP nj nk (dv 2) (cM (aa (au G_w hr T.F_w (aa (dv 3) ah)) ah))))
   case AC=>refine' ar (aA ku)
  case B=>
  clear hr T G_v G_u G_w;generalize hB:cf (cg _ _ _) _=TB;walk_at "a";have hd:∀d,bM d->jT d=z->kn d=Txt.split z (NG " "):=λd h e=>by rw [<-e,(qP h).1]
  have hd2:∀d,bM d->kn d=Txt.split z (NG " ")->jT d=z:=λd h e=>by
   unfold jT;rw [e,mQ,uQ]
  have hb:∀p∈Txt.split z (NG " "),nF p:=λp hp=>by
   rw [mQ] at hp;exact⟨OB (uN hp) hz.1,uP hz.2 hp⟩
  have hl:(Txt.split z (NG " ")).length<=1002:=OB (Q3 z _) (by have:=hz.1;omega);refine⟨td,by have:=hz.1;omega,?_⟩
  replace q1:∀d,bM d->kn d=Txt.split z (NG " ")->Q d:=λd h e=>q1 d h (hd2 d h e)
  replace q2:(∀d,bM d->kn d≠Txt.split z (NG " "))->Q .none:=λh=>q2 λd h2 e=>h d h2 (hd d h2 e)
  clear hd hd2 hz;generalize Txt.split z (NG " ")=ws at*;have few:ws.length < 3->Q .none:=λh=>q2 λd hv e=>by
   obtain⟨w,n,x,r,rfl,_⟩:=n9 hv;rw [<-e] at h;simp only [kn,NJ] at h;omega
  subst hB;refine Nb λR hR=>?_;simp only [mE,nG,true_and,↓iU,↓i6,↓i8,↓i9,↓ja,↓jb,↓jd,↓iV,↓eZ,↓iu,↓jG,↓jH,↓jI,↓jJ,↓jK,↓jL,↓iw,↓ix,↓iy,↓iz,↓iA,↓iB,↓iC,↓iD,↓iE,↓iF,↓iG,↓iH,↓iI,↓iJ,↓iK,↓iL,↓iM,↓iN,↓iO,↓iP,↓iQ,↓iR,↓iS,↓iT,cf,cz,cg,cV,fA,fB,cU,cW,cX,di,dj,fJ,cK,dC,bw,dI,dA,dB,dD,fO,dE,bX,dW,dU,dG,dF,dL,cC,cL,fx,cx,cq,bI,cO,cP,cQ,cR,fy,cS,cT,cu,cw,fz,gu,gx,gy,gz,gA,gB,gC,gD,gE,gF,gG,gH,gI,gJ,gK,gL,gM,gN,gO,gP,gQ,gR,gS,gT,gU,gW,gX,gY,gZ,g6,g9,hG,hJ,hV,hW,hX,hZ,ic,ie,ig,ij,ik,il,eR,dN,fN,dX,cH,fQ,d6,dH,dJ,dO,dP,dQ,dR,dS,cF,dY,dZ,d3,bS,fK,fL,fM,fC,fD,fE,fF,dm,fG,dn,fH,eM,eQ,gn,gp,gr,gm,gs,eF,eG,eJ,eL,bY,eO,eN,er,eD,eT,eV,eX,eY,b0,ip,iq,iX,iW,iY,iZ,i3,i4,i5,ff,fg,jh,jf,jg,je,jm,ji,jj,jk,jl,cI,fh,jr,jt,jn,jo,jq,ju,jv,jw,fj,jx,jy,jA,jB,fk,jC,jD,jE,jz,jF,fq,ft,fu,fv,jM,jN,jO,bL,fY,fZ,gb,gc,gf,gh,gi,gj,gk,ne_eq,bZ,fU,fV,fW,fX,fR,fS,fT,cD,cE,dz,cY,dh,c7,cZ,bR,bQ,bg,bV,cn,bW,NN,Of,NJ,N8,NP,N6,N9,NY,OE,OF,ON,OO,OP,NU,NR,Oc,N4,N5,Oa,exists_eq_left',exists_eq_left,exists_and_left,exists_and_right,Oi,Oj,Sl.v.injEq,Sl.o.injEq,Sl.k.injEq,Oq,Ol,Ov,Oe,Om,NQ,and_true,true_and,OQ,Ow,exists_const,decide_eq_true_eq,OR,OS,OH,OI,N1,decide_eq_false_iff_not,and_assoc,or_true,true_or,↓reduceIte,if_true,if_false,N2,Ob,not_true_eq_false,not_false_eq_true,OK,OA,ite_true,ite_false,eq_self,exists_eq,reduceCtorEq,false_and,and_false,or_false,false_or,exists_false,Ox,Oy,cb,OG,OT,OD,OU,N3,OC,Od,OM,aV,bz,bU,cG,d7,bo,eg,ei,beq_self_eq_true,d8,d9,fP,bu,UY]
  match ws with
  | []=>rw [UE UH];exact few UH
  | [_]=>rw [UE UH];exact few UH
  | [_,_]=>rw [UE UH];exact few UH
  | w::b::x::more=>
   clear few;rw [UD (by simp only [NS,NJ];omega)];have ec:bx (Pd NI (w::b::x::more)) (some 3) none=more.map .str:=by
    rw [show bx (Pd NI (w::b::x::more)) (some 3) none=_ from oS (k:=3)];rfl
   have ww:=hb w UH;have wb:=hb b UH;have wx:=hb x UH;have hm:∀z∈more,nF z:=λz hz=>hb z (by simp [hz]);have lm:more.length<=1000:=by simp only [NJ] at hl;omega
   clear hb hl;have hday:(∃n,b=kA n/\kM b= .int n/\kT n)\/kM b= .none/\Q .none:=by
    cases e:lQ b with
    | none=>exact .inr ⟨by unfold kM;rw [e],q2 λd hv ee=>by
     obtain⟨w',n,x',r,rfl,hn⟩:=n9 hv;simp only [kn,NQ] at ee;rw [<-ee.2.1,EA hn] at e;cases e⟩
    | some n=>
     obtain⟨h1,h2⟩:=M8 e;exact .inl ⟨n,h1,by unfold kM;rw [e],h2⟩
   have a1:atI (Pd NI (w::b::x::more)) 1=some (.str b):=bz;have a2:atI (Pd NI (w::b::x::more)) 2=some (.str x):=bU;refine⟨_,a1,b,rfl,wb.1,?_⟩;rcases hday with⟨n,eb,en,hn⟩ | ⟨en,qn⟩
   ·rw [en,UD (show ¬mN (NX n)=true from λz=>by cases z)];refine⟨_,a2,x,rfl,wx.1,_,rfl,?_⟩;by_cases hx:Nm x
    ·have hx2:cj (.str x)=true:=lH.mpr hx;rw [hx2,UD (show ¬true=false by decide)];have key:(DW w more->False)->Q .none:=λh=>q2 λd hv ee=>by
      obtain⟨w',n',x',r,rfl,hn'⟩:=n9 hv;simp only [kn,NQ] at ee;obtain⟨rfl,e2,rfl,e4⟩:=ee;rw [<-e4] at h;exact h (Na hv)
     subst hR;generalize hB:cf (cg _ _ _) _=TB;simp only [nG,en,↓iU,↓i6,↓i8,↓i9,↓ja,↓jb,↓jd,↓iV,↓eZ,↓iu,↓jG,↓jH,↓jI,↓jJ,↓jK,↓jL,↓iw,↓ix,↓iy,↓iz,↓iA,↓iB,↓iC,↓iD,↓iE,↓iF,↓iG,↓iH,↓iI,↓iJ,↓iK,↓iL,↓iM,↓iN,↓iO,↓iP,↓iQ,↓iR,↓iS,↓iT,cf,cz,cg,cV,fA,fB,cU,cW,cX,di,dj,fJ,cK,dC,bw,dI,dA,dB,dD,fO,dE,bX,dW,dU,dG,dF,dL,cC,cL,fx,cx,cq,bI,cO,cP,cQ,cR,fy,cS,cT,cu,cw,fz,gu,gx,gy,gz,gA,gB,gC,gD,gE,gF,gG,gH,gI,gJ,gK,gL,gM,gN,gO,gP,gQ,gR,gS,gT,gU,gW,gX,gY,gZ,g6,g9,hG,hJ,hV,hW,hX,hZ,ic,ie,ig,ij,ik,il,eR,dN,fN,dX,cH,fQ,d6,dH,dJ,dO,dP,dQ,dR,dS,cF,dY,dZ,d3,bS,fK,fL,fM,fC,fD,fE,fF,dm,fG,dn,fH,eM,eQ,gn,gp,gr,gm,gs,eF,eG,eJ,eL,bY,eO,eN,er,eD,eT,eV,eX,eY,b0,ip,iq,iX,iW,iY,iZ,i3,i4,i5,ff,fg,jh,jf,jg,je,jm,ji,jj,jk,jl,cI,fh,jr,jt,jn,jo,jq,ju,jv,jw,fj,jx,jy,jA,jB,fk,jC,jD,jE,jz,jF,fq,ft,fu,fv,jM,jN,jO,bL,fY,fZ,gb,gc,gf,gh,gi,gj,gk,ne_eq,bZ,fU,fV,fW,fX,fR,fS,fT,cD,cE,dz,cY,dh,c7,cZ,bR,bQ,bg,bV,cn,bW,NN,Of,NJ,N8,NP,N6,N9,NY,OE,OF,ON,OO,OP,NU,NR,Oc,N4,N5,Oa,exists_eq_left',exists_eq_left,exists_and_left,exists_and_right,Oi,Oj,Sl.v.injEq,Sl.o.injEq,Sl.k.injEq,Oq,Ol,Ov,Oe,Om,NQ,and_true,true_and,OQ,Ow,exists_const,decide_eq_true_eq,OR,OS,OH,OI,N1,decide_eq_false_iff_not,and_assoc,or_true,true_or,↓reduceIte,if_true,if_false,N2,Ob,not_true_eq_false,not_false_eq_true,OK,OA,ite_true,ite_false,eq_self,exists_eq,reduceCtorEq,false_and,and_false,or_false,false_or,exists_false,Ox,Oy,cb,OG,OT,OD,OU,N3,OC,Od,OM,aV,bz,bU,cG,d7,bo,eg,ei,beq_self_eq_true,d8,d9,fP,bu,UY];refine⟨wb.1,?_⟩;subst eb;subst hB;by_cases hw:w∈[NG "end",NG "lift",NG "happens",NG "leave",NG "hold",NG "paper",NG "rule"]
     ·simp only [NO,NZ,or_false] at hw;rcases hw with rfl | rfl | rfl | rfl | rfl | rfl | rfl
      ·simp only [mE,nG,en,↓iU,↓i6,↓i8,↓i9,↓ja,↓jb,↓jd,↓iV,↓eZ,↓iu,↓jG,↓jH,↓jI,↓jJ,↓jK,↓jL,↓iw,↓ix,↓iy,↓iz,↓iA,↓iB,↓iC,↓iD,↓iE,↓iF,↓iG,↓iH,↓iI,↓iJ,↓iK,↓iL,↓iM,↓iN,↓iO,↓iP,↓iQ,↓iR,↓iS,↓iT,cf,cz,cg,cV,fA,fB,cU,cW,cX,di,dj,fJ,cK,dC,bw,dI,dA,dB,dD,fO,dE,bX,dW,dU,dG,dF,dL,cC,cL,fx,cx,cq,bI,cO,cP,cQ,cR,fy,cS,cT,cu,cw,fz,gu,gx,gy,gz,gA,gB,gC,gD,gE,gF,gG,gH,gI,gJ,gK,gL,gM,gN,gO,gP,gQ,gR,gS,gT,gU,gW,gX,gY,gZ,g6,g9,hG,hJ,hV,hW,hX,hZ,ic,ie,ig,ij,ik,il,eR,dN,fN,dX,cH,fQ,d6,dH,dJ,dO,dP,dQ,dR,dS,cF,dY,dZ,d3,bS,fK,fL,fM,fC,fD,fE,fF,dm,fG,dn,fH,eM,eQ,gn,gp,gr,gm,gs,eF,eG,eJ,eL,bY,eO,eN,er,eD,eT,eV,eX,eY,b0,ip,iq,iX,iW,iY,iZ,i3,i4,i5,ff,fg,jh,jf,jg,je,jm,ji,jj,jk,jl,cI,fh,jr,jt,jn,jo,jq,ju,jv,jw,fj,jx,jy,jA,jB,fk,jC,jD,jE,jz,jF,fq,ft,fu,fv,jM,jN,jO,bL,fY,fZ,gb,gc,gf,gh,gi,gj,gk,ne_eq,bZ,fU,fV,fW,fX,fR,fS,fT,cD,cE,dz,cY,dh,c7,cZ,bR,bQ,bg,bV,cn,bW,NN,Of,NJ,N8,NP,N6,N9,NY,OE,OF,ON,OO,OP,NU,NR,Oc,N4,N5,Oa,exists_eq_left',exists_eq_left,exists_and_left,exists_and_right,Oi,Oj,Sl.v.injEq,Sl.o.injEq,Sl.k.injEq,Oq,Ol,Ov,Oe,Om,NQ,and_true,true_and,OQ,Ow,exists_const,decide_eq_true_eq,OR,OS,OH,OI,N1,decide_eq_false_iff_not,and_assoc,or_true,true_or,↓reduceIte,if_true,if_false,N2,Ob,not_true_eq_false,not_false_eq_true,OK,OA,ite_true,ite_false,eq_self,exists_eq,reduceCtorEq,false_and,and_false,or_false,false_or,exists_false,Ox,Oy,cb,OG,OT,OD,OU,N3,OC,Od,OM,aV,bz,bU,cG,d7,bo,eg,ei,beq_self_eq_true,d8,d9,fP,bu,UY];refine⟨td,td,(pX λz hz=>(hm z hz).2).1,td,?_⟩
       rw [show(O7 (Pd NI more)).eqv (O7 [])=decide (more=[]) from qS (b:=[])];by_cases he:more=[]
       ·rw [UE (decide_eq_true he)];exact q1 _ (.one UH hn hx) (by rw [he];rfl)
       ·rw [UD (by simpa using he)];exact⟨td,td,key λk=>he (k.fin td)⟩
      ·simp only [mE,nG,en,↓iU,↓i6,↓i8,↓i9,↓ja,↓jb,↓jd,↓iV,↓eZ,↓iu,↓jG,↓jH,↓jI,↓jJ,↓jK,↓jL,↓iw,↓ix,↓iy,↓iz,↓iA,↓iB,↓iC,↓iD,↓iE,↓iF,↓iG,↓iH,↓iI,↓iJ,↓iK,↓iL,↓iM,↓iN,↓iO,↓iP,↓iQ,↓iR,↓iS,↓iT,cf,cz,cg,cV,fA,fB,cU,cW,cX,di,dj,fJ,cK,dC,bw,dI,dA,dB,dD,fO,dE,bX,dW,dU,dG,dF,dL,cC,cL,fx,cx,cq,bI,cO,cP,cQ,cR,fy,cS,cT,cu,cw,fz,gu,gx,gy,gz,gA,gB,gC,gD,gE,gF,gG,gH,gI,gJ,gK,gL,gM,gN,gO,gP,gQ,gR,gS,gT,gU,gW,gX,gY,gZ,g6,g9,hG,hJ,hV,hW,hX,hZ,ic,ie,ig,ij,ik,il,eR,dN,fN,dX,cH,fQ,d6,dH,dJ,dO,dP,dQ,dR,dS,cF,dY,dZ,d3,bS,fK,fL,fM,fC,fD,fE,fF,dm,fG,dn,fH,eM,eQ,gn,gp,gr,gm,gs,eF,eG,eJ,eL,bY,eO,eN,er,eD,eT,eV,eX,eY,b0,ip,iq,iX,iW,iY,iZ,i3,i4,i5,ff,fg,jh,jf,jg,je,jm,ji,jj,jk,jl,cI,fh,jr,jt,jn,jo,jq,ju,jv,jw,fj,jx,jy,jA,jB,fk,jC,jD,jE,jz,jF,fq,ft,fu,fv,jM,jN,jO,bL,fY,fZ,gb,gc,gf,gh,gi,gj,gk,ne_eq,bZ,fU,fV,fW,fX,fR,fS,fT,cD,cE,dz,cY,dh,c7,cZ,bR,bQ,bg,bV,cn,bW,NN,Of,NJ,N8,NP,N6,N9,NY,OE,OF,ON,OO,OP,NU,NR,Oc,N4,N5,Oa,exists_eq_left',exists_eq_left,exists_and_left,exists_and_right,Oi,Oj,Sl.v.injEq,Sl.o.injEq,Sl.k.injEq,Oq,Ol,Ov,Oe,Om,NQ,and_true,true_and,OQ,Ow,exists_const,decide_eq_true_eq,OR,OS,OH,OI,N1,decide_eq_false_iff_not,and_assoc,or_true,true_or,↓reduceIte,if_true,if_false,N2,Ob,not_true_eq_false,not_false_eq_true,OK,OA,ite_true,ite_false,eq_self,exists_eq,reduceCtorEq,false_and,and_false,or_false,false_or,exists_false,Ox,Oy,cb,OG,OT,OD,OU,N3,OC,Od,OM,aV,bz,bU,cG,d7,bo,eg,ei,beq_self_eq_true,d8,d9,fP,bu,UY];refine⟨td,td,(pX λz hz=>(hm z hz).2).1,td,?_⟩
       rw [show(O7 (Pd NI more)).eqv (O7 [])=decide (more=[]) from qS (b:=[])];by_cases he:more=[]
       ·rw [UE (decide_eq_true he)];exact q1 _ (.one UH hn hx) (by rw [he];rfl)
       ·rw [UD (by simpa using he)];exact⟨td,td,key λk=>he (k.fin td)⟩
      ·simp only [mE,nG,en,↓iU,↓i6,↓i8,↓i9,↓ja,↓jb,↓jd,↓iV,↓eZ,↓iu,↓jG,↓jH,↓jI,↓jJ,↓jK,↓jL,↓iw,↓ix,↓iy,↓iz,↓iA,↓iB,↓iC,↓iD,↓iE,↓iF,↓iG,↓iH,↓iI,↓iJ,↓iK,↓iL,↓iM,↓iN,↓iO,↓iP,↓iQ,↓iR,↓iS,↓iT,cf,cz,cg,cV,fA,fB,cU,cW,cX,di,dj,fJ,cK,dC,bw,dI,dA,dB,dD,fO,dE,bX,dW,dU,dG,dF,dL,cC,cL,fx,cx,cq,bI,cO,cP,cQ,cR,fy,cS,cT,cu,cw,fz,gu,gx,gy,gz,gA,gB,gC,gD,gE,gF,gG,gH,gI,gJ,gK,gL,gM,gN,gO,gP,gQ,gR,gS,gT,gU,gW,gX,gY,gZ,g6,g9,hG,hJ,hV,hW,hX,hZ,ic,ie,ig,ij,ik,il,eR,dN,fN,dX,cH,fQ,d6,dH,dJ,dO,dP,dQ,dR,dS,cF,dY,dZ,d3,bS,fK,fL,fM,fC,fD,fE,fF,dm,fG,dn,fH,eM,eQ,gn,gp,gr,gm,gs,eF,eG,eJ,eL,bY,eO,eN,er,eD,eT,eV,eX,eY,b0,ip,iq,iX,iW,iY,iZ,i3,i4,i5,ff,fg,jh,jf,jg,je,jm,ji,jj,jk,jl,cI,fh,jr,jt,jn,jo,jq,ju,jv,jw,fj,jx,jy,jA,jB,fk,jC,jD,jE,jz,jF,fq,ft,fu,fv,jM,jN,jO,bL,fY,fZ,gb,gc,gf,gh,gi,gj,gk,ne_eq,bZ,fU,fV,fW,fX,fR,fS,fT,cD,cE,dz,cY,dh,c7,cZ,bR,bQ,bg,bV,cn,bW,NN,Of,NJ,N8,NP,N6,N9,NY,OE,OF,ON,OO,OP,NU,NR,Oc,N4,N5,Oa,exists_eq_left',exists_eq_left,exists_and_left,exists_and_right,Oi,Oj,Sl.v.injEq,Sl.o.injEq,Sl.k.injEq,Oq,Ol,Ov,Oe,Om,NQ,and_true,true_and,OQ,Ow,exists_const,decide_eq_true_eq,OR,OS,OH,OI,N1,decide_eq_false_iff_not,and_assoc,or_true,true_or,↓reduceIte,if_true,if_false,N2,Ob,not_true_eq_false,not_false_eq_true,OK,OA,ite_true,ite_false,eq_self,exists_eq,reduceCtorEq,false_and,and_false,or_false,false_or,exists_false,Ox,Oy,cb,OG,OT,OD,OU,N3,OC,Od,OM,aV,bz,bU,cG,d7,bo,eg,ei,beq_self_eq_true,d8,d9,fP,bu,UY];refine⟨td,td,td,td,?_⟩
       match more,hm with
       | [y],hm=>
        rw [UE UH];refine⟨_,aV,_,rfl,(hm y UH).1,_,rfl,?_⟩;by_cases hy:Nm y
        ·rw [UE (lH.mpr hy)];exact⟨_,aV,q1 _ (.two UH hn hx hy) rfl⟩
        ·rw [UD (λz=>hy (lH.mp z))];exact key λk=>by
          obtain⟨y',e,h⟩:=k.tw td;injection e with e
          exact hy (e▸h)
       | [],_=>rw [UD UH];exact key λk=>by obtain⟨_,e,_⟩:=k.tw td;cases e
       | _::_::_,_=>rw [UD (by simp;omega)];exact key λk=>by obtain⟨_,e,_⟩:=k.tw td;cases e
      ·simp only [mE,nG,en,↓iU,↓i6,↓i8,↓i9,↓ja,↓jb,↓jd,↓iV,↓eZ,↓iu,↓jG,↓jH,↓jI,↓jJ,↓jK,↓jL,↓iw,↓ix,↓iy,↓iz,↓iA,↓iB,↓iC,↓iD,↓iE,↓iF,↓iG,↓iH,↓iI,↓iJ,↓iK,↓iL,↓iM,↓iN,↓iO,↓iP,↓iQ,↓iR,↓iS,↓iT,cf,cz,cg,cV,fA,fB,cU,cW,cX,di,dj,fJ,cK,dC,bw,dI,dA,dB,dD,fO,dE,bX,dW,dU,dG,dF,dL,cC,cL,fx,cx,cq,bI,cO,cP,cQ,cR,fy,cS,cT,cu,cw,fz,gu,gx,gy,gz,gA,gB,gC,gD,gE,gF,gG,gH,gI,gJ,gK,gL,gM,gN,gO,gP,gQ,gR,gS,gT,gU,gW,gX,gY,gZ,g6,g9,hG,hJ,hV,hW,hX,hZ,ic,ie,ig,ij,ik,il,eR,dN,fN,dX,cH,fQ,d6,dH,dJ,dO,dP,dQ,dR,dS,cF,dY,dZ,d3,bS,fK,fL,fM,fC,fD,fE,fF,dm,fG,dn,fH,eM,eQ,gn,gp,gr,gm,gs,eF,eG,eJ,eL,bY,eO,eN,er,eD,eT,eV,eX,eY,b0,ip,iq,iX,iW,iY,iZ,i3,i4,i5,ff,fg,jh,jf,jg,je,jm,ji,jj,jk,jl,cI,fh,jr,jt,jn,jo,jq,ju,jv,jw,fj,jx,jy,jA,jB,fk,jC,jD,jE,jz,jF,fq,ft,fu,fv,jM,jN,jO,bL,fY,fZ,gb,gc,gf,gh,gi,gj,gk,ne_eq,bZ,fU,fV,fW,fX,fR,fS,fT,cD,cE,dz,cY,dh,c7,cZ,bR,bQ,bg,bV,cn,bW,NN,Of,NJ,N8,NP,N6,N9,NY,OE,OF,ON,OO,OP,NU,NR,Oc,N4,N5,Oa,exists_eq_left',exists_eq_left,exists_and_left,exists_and_right,Oi,Oj,Sl.v.injEq,Sl.o.injEq,Sl.k.injEq,Oq,Ol,Ov,Oe,Om,NQ,and_true,true_and,OQ,Ow,exists_const,decide_eq_true_eq,OR,OS,OH,OI,N1,decide_eq_false_iff_not,and_assoc,or_true,true_or,↓reduceIte,if_true,if_false,N2,Ob,not_true_eq_false,not_false_eq_true,OK,OA,ite_true,ite_false,eq_self,exists_eq,reduceCtorEq,false_and,and_false,or_false,false_or,exists_false,Ox,Oy,cb,OG,OT,OD,OU,N3,OC,Od,OM,aV,bz,bU,cG,d7,bo,eg,ei,beq_self_eq_true,d8,d9,fP,bu,UY];refine⟨td,td,td,td,?_⟩
       match more,hm with
       | [y],hm=>
        rw [UE UH];refine⟨_,aV,_,rfl,(hm y UH).1,_,rfl,?_⟩;by_cases hy:Nm y
        ·rw [UE (lH.mpr hy)];exact⟨_,aV,q1 _ (.two UH hn hx hy) rfl⟩
        ·rw [UD (λz=>hy (lH.mp z))];exact key λk=>by
          obtain⟨y',e,h⟩:=k.tw td;injection e with e
          exact hy (e▸h)
       | [],_=>rw [UD UH];exact key λk=>by obtain⟨_,e,_⟩:=k.tw td;cases e
       | _::_::_,_=>rw [UD (by simp;omega)];exact key λk=>by obtain⟨_,e,_⟩:=k.tw td;cases e
      ·simp only [mE,nG,en,↓iU,↓i6,↓i8,↓i9,↓ja,↓jb,↓jd,↓iV,↓eZ,↓iu,↓jG,↓jH,↓jI,↓jJ,↓jK,↓jL,↓iw,↓ix,↓iy,↓iz,↓iA,↓iB,↓iC,↓iD,↓iE,↓iF,↓iG,↓iH,↓iI,↓iJ,↓iK,↓iL,↓iM,↓iN,↓iO,↓iP,↓iQ,↓iR,↓iS,↓iT,cf,cz,cg,cV,fA,fB,cU,cW,cX,di,dj,fJ,cK,dC,bw,dI,dA,dB,dD,fO,dE,bX,dW,dU,dG,dF,dL,cC,cL,fx,cx,cq,bI,cO,cP,cQ,cR,fy,cS,cT,cu,cw,fz,gu,gx,gy,gz,gA,gB,gC,gD,gE,gF,gG,gH,gI,gJ,gK,gL,gM,gN,gO,gP,gQ,gR,gS,gT,gU,gW,gX,gY,gZ,g6,g9,hG,hJ,hV,hW,hX,hZ,ic,ie,ig,ij,ik,il,eR,dN,fN,dX,cH,fQ,d6,dH,dJ,dO,dP,dQ,dR,dS,cF,dY,dZ,d3,bS,fK,fL,fM,fC,fD,fE,fF,dm,fG,dn,fH,eM,eQ,gn,gp,gr,gm,gs,eF,eG,eJ,eL,bY,eO,eN,er,eD,eT,eV,eX,eY,b0,ip,iq,iX,iW,iY,iZ,i3,i4,i5,ff,fg,jh,jf,jg,je,jm,ji,jj,jk,jl,cI,fh,jr,jt,jn,jo,jq,ju,jv,jw,fj,jx,jy,jA,jB,fk,jC,jD,jE,jz,jF,fq,ft,fu,fv,jM,jN,jO,bL,fY,fZ,gb,gc,gf,gh,gi,gj,gk,ne_eq,bZ,fU,fV,fW,fX,fR,fS,fT,cD,cE,dz,cY,dh,c7,cZ,bR,bQ,bg,bV,cn,bW,NN,Of,NJ,N8,NP,N6,N9,NY,OE,OF,ON,OO,OP,NU,NR,Oc,N4,N5,Oa,exists_eq_left',exists_eq_left,exists_and_left,exists_and_right,Oi,Oj,Sl.v.injEq,Sl.o.injEq,Sl.k.injEq,Oq,Ol,Ov,Oe,Om,NQ,and_true,true_and,OQ,Ow,exists_const,decide_eq_true_eq,OR,OS,OH,OI,N1,decide_eq_false_iff_not,and_assoc,or_true,true_or,↓reduceIte,if_true,if_false,N2,Ob,not_true_eq_false,not_false_eq_true,OK,OA,ite_true,ite_false,eq_self,exists_eq,reduceCtorEq,false_and,and_false,or_false,false_or,exists_false,Ox,Oy,cb,OG,OT,OD,OU,N3,OC,Od,OM,aV,bz,bU,cG,d7,bo,eg,ei,beq_self_eq_true,d8,d9,fP,bu,UY];refine⟨td,td,td,td,?_⟩
       match more,hm with
       | g::y::tl,hm=>
        have wg:=hm g UH;have wy:=hm y UH;rw [UE (by simp only [NS,NJ];omega)];refine⟨_,aV,mX.mpr wg.2,td,?_⟩;rw [bo,bo,AR];by_cases hg:g∈[NG "paper",NG "kind"]
        ·rw [UE (decide_eq_true hg)];refine⟨_,bz,_,rfl,wy.1,_,rfl,?_⟩;by_cases hy:Nm y
         ·rw [UE (lH.mpr hy),show bx (Pd NI (g::y::tl)) (some 2) none=tl.map .str from oS (k:=2),show bx (Pd NI (g::y::tl)) none (some 2)=[g,y].map .str from uL (k:=2)];have st:=(pX λz (hz:z∈tl)=>(hm z (by simp [hz])).2).1;rw [show(O7 (Pd NI tl)).eqv (O7 [NI (NG "deep")])=decide (tl=[NG "deep"]) from qS (b:=[_]),
           show(O7 []).eqv (O7 (Pd NI tl))=decide ([]=tl) from qS (a:=[]),
           show(O7 [NI (NG "deep")]).eqv (O7 (Pd NI tl))=decide ([NG "deep"]=tl) from qS (a:=[_])]
          refine⟨st,td,st,td,?_⟩;by_cases e0:tl=[]
          ·subst e0;rw [UE UH,show decide (([]:List Str)=[NG "deep"])=false by decide+kernel];exact⟨_,bz,q1 _ (.hold hn hx hg hy) rfl⟩
          ·by_cases e1:tl=[NG "deep"]
           ·subst e1;rw [UE UH,show decide ([NG "deep"]=[NG "deep"])=true by decide+kernel];exact⟨_,bz,q1 _ (.hold hn hx hg hy) rfl⟩
           ·rw [UD (by
             rw [Rc,decide_eq_true_eq,decide_eq_true_eq];exact λz=>z.elim (λz=>e0 z.symm) λz=>e1 z.symm)]
            exact⟨_,aV,key λk=>by
             obtain⟨g',y',_,_,h⟩:=k.ho rfl;rcases h with h | h
             ·injection h with _ h;injection h with _ h;exact e0 h
             ·injection h with _ h;injection h with _ h;exact e1 h⟩
         ·rw [UD (λz=>hy (lH.mp z))];exact key λk=>by
           obtain⟨g',y',_,h2,h⟩:=k.ho rfl;rcases h with h | h <;> (injection h with _ h;injection h with h _;exact hy (h▸h2))
        ·rw [UD (by simpa using hg)];exact key λk=>by
          obtain⟨g',y',h2,_,h⟩:=k.ho rfl;rcases h with h | h <;> (injection h with h _;exact hg (h▸h2))
       | [],_=>rw [UD UH];exact key λk=>by obtain⟨_,_,_,_,h⟩:=k.ho rfl;rcases h with h | h <;> cases h
       | [_],_=>rw [UD UH];exact key λk=>by obtain⟨_,_,_,_,h⟩:=k.ho rfl;rcases h with h | h <;> cases h
      ·simp only [mE,nG,en,↓iU,↓i6,↓i8,↓i9,↓ja,↓jb,↓jd,↓iV,↓eZ,↓iu,↓jG,↓jH,↓jI,↓jJ,↓jK,↓jL,↓iw,↓ix,↓iy,↓iz,↓iA,↓iB,↓iC,↓iD,↓iE,↓iF,↓iG,↓iH,↓iI,↓iJ,↓iK,↓iL,↓iM,↓iN,↓iO,↓iP,↓iQ,↓iR,↓iS,↓iT,cf,cz,cg,cV,fA,fB,cU,cW,cX,di,dj,fJ,cK,dC,bw,dI,dA,dB,dD,fO,dE,bX,dW,dU,dG,dF,dL,cC,cL,fx,cx,cq,bI,cO,cP,cQ,cR,fy,cS,cT,cu,cw,fz,gu,gx,gy,gz,gA,gB,gC,gD,gE,gF,gG,gH,gI,gJ,gK,gL,gM,gN,gO,gP,gQ,gR,gS,gT,gU,gW,gX,gY,gZ,g6,g9,hG,hJ,hV,hW,hX,hZ,ic,ie,ig,ij,ik,il,eR,dN,fN,dX,cH,fQ,d6,dH,dJ,dO,dP,dQ,dR,dS,cF,dY,dZ,d3,bS,fK,fL,fM,fC,fD,fE,fF,dm,fG,dn,fH,eM,eQ,gn,gp,gr,gm,gs,eF,eG,eJ,eL,bY,eO,eN,er,eD,eT,eV,eX,eY,b0,ip,iq,iX,iW,iY,iZ,i3,i4,i5,ff,fg,jh,jf,jg,je,jm,ji,jj,jk,jl,cI,fh,jr,jt,jn,jo,jq,ju,jv,jw,fj,jx,jy,jA,jB,fk,jC,jD,jE,jz,jF,fq,ft,fu,fv,jM,jN,jO,bL,fY,fZ,gb,gc,gf,gh,gi,gj,gk,ne_eq,bZ,fU,fV,fW,fX,fR,fS,fT,cD,cE,dz,cY,dh,c7,cZ,bR,bQ,bg,bV,cn,bW,NN,Of,NJ,N8,NP,N6,N9,NY,OE,OF,ON,OO,OP,NU,NR,Oc,N4,N5,Oa,exists_eq_left',exists_eq_left,exists_and_left,exists_and_right,Oi,Oj,Sl.v.injEq,Sl.o.injEq,Sl.k.injEq,Oq,Ol,Ov,Oe,Om,NQ,and_true,true_and,OQ,Ow,exists_const,decide_eq_true_eq,OR,OS,OH,OI,N1,decide_eq_false_iff_not,and_assoc,or_true,true_or,↓reduceIte,if_true,if_false,N2,Ob,not_true_eq_false,not_false_eq_true,OK,OA,ite_true,ite_false,eq_self,exists_eq,reduceCtorEq,false_and,and_false,or_false,false_or,exists_false,Ox,Oy,cb,OG,OT,OD,OU,N3,OC,Od,OM,aV,bz,bU,cG,d7,bo,eg,ei,beq_self_eq_true,d8,d9,fP,bu,UY];refine⟨td,td,td,td,?_⟩
       match more,hm with
       | k::ms,hm=>
        rw [UE (by simp only [NS,NJ];omega)];by_cases h5:ms.length<=4
        ·rw [UE (by simp only [NS,NJ];omega)];refine⟨by simp only [NS,NJ];omega,pK (λz=>.bool (cj z)) (λz hz R hR=>?_) ⟨(k::ms).map λy=>cj (.str y),by rw [Pu,Pu];rfl,?_⟩⟩
         ·obtain⟨y,hy,rfl⟩:=Pb.mp hz;simp only [mE,true_and,↓iU,↓i6,↓i8,↓i9,↓ja,↓jb,↓jd,↓iV,↓eZ,↓iu,↓jG,↓jH,↓jI,↓jJ,↓jK,↓jL,↓iw,↓ix,↓iy,↓iz,↓iA,↓iB,↓iC,↓iD,↓iE,↓iF,↓iG,↓iH,↓iI,↓iJ,↓iK,↓iL,↓iM,↓iN,↓iO,↓iP,↓iQ,↓iR,↓iS,↓iT,cf,cz,cg,cV,fA,fB,cU,cW,cX,di,dj,fJ,cK,dC,bw,dI,dA,dB,dD,fO,dE,bX,dW,dU,dG,dF,dL,cC,cL,fx,cx,cq,bI,cO,cP,cQ,cR,fy,cS,cT,cu,cw,fz,gu,gx,gy,gz,gA,gB,gC,gD,gE,gF,gG,gH,gI,gJ,gK,gL,gM,gN,gO,gP,gQ,gR,gS,gT,gU,gW,gX,gY,gZ,g6,g9,hG,hJ,hV,hW,hX,hZ,ic,ie,ig,ij,ik,il,eR,dN,fN,dX,cH,fQ,d6,dH,dJ,dO,dP,dQ,dR,dS,cF,dY,dZ,d3,bS,fK,fL,fM,fC,fD,fE,fF,dm,fG,dn,fH,eM,eQ,gn,gp,gr,gm,gs,eF,eG,eJ,eL,bY,eO,eN,er,eD,eT,eV,eX,eY,b0,ip,iq,iX,iW,iY,iZ,i3,i4,i5,ff,fg,jh,jf,jg,je,jm,ji,jj,jk,jl,cI,fh,jr,jt,jn,jo,jq,ju,jv,jw,fj,jx,jy,jA,jB,fk,jC,jD,jE,jz,jF,fq,ft,fu,fv,jM,jN,jO,bL,fY,fZ,gb,gc,gf,gh,gi,gj,gk,ne_eq,bZ,fU,fV,fW,fX,fR,fS,fT,cD,cE,dz,cY,dh,c7,cZ,bR,bQ,bg,bV,cn,bW,NN,Of,NJ,N8,NP,N6,N9,NY,OE,OF,ON,OO,OP,NU,NR,Oc,N4,N5,Oa,exists_eq_left',exists_eq_left,exists_and_left,exists_and_right,Oi,Oj,Sl.v.injEq,Sl.o.injEq,Sl.k.injEq,Oq,Ol,Ov,Oe,Om,NQ,and_true,true_and,OQ,Ow,exists_const,decide_eq_true_eq,OR,OS,OH,OI,N1,decide_eq_false_iff_not,and_assoc,or_true,true_or,↓reduceIte,if_true,if_false,N2,Ob,not_true_eq_false,not_false_eq_true,OK,OA,ite_true,ite_false,eq_self,exists_eq,reduceCtorEq,false_and,and_false,or_false,false_or,exists_false,Ox,Oy,cb,OG,OT,OD,OU,N3,OC,Od,OM,aV,bz,bU,cG,d7,bo,eg,ei,beq_self_eq_true,d8,d9,fP,bu,UY];exact⟨(hm y hy).1,hR⟩
         ·have ea:((k::ms).map λy=>cj (.str y)).all id=true↔∀y∈k::ms,Nm y:=by
           rw [QL,Pg];exact⟨λh y hy=>lH.mp (h y hy),λh y hy=>lH.mpr (h y hy)⟩
          by_cases ha:∀y∈k::ms,Nm y
          ·rw [UE (ea.mpr ha),show bx (Pd NI (k::ms)) (some 1) none=ms.map .str from oS (k:=1)];have mm:∀z∈kL (ms.foldl kl []),z∈ms:=λz hz=>by
            have:=wJ.mp ((tP _).mem_iff.mp hz);simpa using this
           refine⟨_,aV,ms,rfl,UC,(pX λz hz=>(hm z (by simp [hz])).2).1,(pX λz hz=>(hm z (by simp [mm z hz])).2).1,?_⟩;rw [qS];by_cases hs:ms=kL (ms.foldl kl [])
           ·rw [UE (decide_eq_true hs)];have up:ms.Pairwise oM:=by rw [hs];exact E3 (wK .nil)
            refine⟨_,bz,q1 _ (.paper hn hx (ha k UH) ⟨h5,λz hz=>ha z (by simp [hz]),up⟩) ?_⟩;show NG "paper"::kA n::x::k::oR (.tuple (ms.map .str))=_;rw [qM]
           ·rw [UD (by simpa using hs)];exact⟨_,aV,key λkk=>by
             obtain⟨k',ms',e,_,h⟩:=kk.pa rfl;injection e with _ e
             exact hs (by rw [e];exact(M9 h.up).symm)⟩
          ·rw [UD (λz=>ha (ea.mp z))];exact key λkk=>by
            obtain⟨k',ms',e,h1,h⟩:=kk.pa rfl;rw [e] at ha;exact ha λy hy=>by
             rcases NO.mp hy with rfl | hy
             ·exact h1
             ·exact h.nm y hy
        ·rw [UD (by simp only [NS,NJ];omega)];exact key λkk=>by
          obtain⟨k',ms',e,_,h⟩:=kk.pa rfl;injection e with _ e
          exact h5 (by rw [e];exact h.len)
       | [],_=>rw [UD UH];exact key λkk=>by obtain⟨_,_,e,_⟩:=kk.pa rfl;cases e
      ·simp only [mE,nG,en,↓iU,↓i6,↓i8,↓i9,↓ja,↓jb,↓jd,↓iV,↓eZ,↓iu,↓jG,↓jH,↓jI,↓jJ,↓jK,↓jL,↓iw,↓ix,↓iy,↓iz,↓iA,↓iB,↓iC,↓iD,↓iE,↓iF,↓iG,↓iH,↓iI,↓iJ,↓iK,↓iL,↓iM,↓iN,↓iO,↓iP,↓iQ,↓iR,↓iS,↓iT,cf,cz,cg,cV,fA,fB,cU,cW,cX,di,dj,fJ,cK,dC,bw,dI,dA,dB,dD,fO,dE,bX,dW,dU,dG,dF,dL,cC,cL,fx,cx,cq,bI,cO,cP,cQ,cR,fy,cS,cT,cu,cw,fz,gu,gx,gy,gz,gA,gB,gC,gD,gE,gF,gG,gH,gI,gJ,gK,gL,gM,gN,gO,gP,gQ,gR,gS,gT,gU,gW,gX,gY,gZ,g6,g9,hG,hJ,hV,hW,hX,hZ,ic,ie,ig,ij,ik,il,eR,dN,fN,dX,cH,fQ,d6,dH,dJ,dO,dP,dQ,dR,dS,cF,dY,dZ,d3,bS,fK,fL,fM,fC,fD,fE,fF,dm,fG,dn,fH,eM,eQ,gn,gp,gr,gm,gs,eF,eG,eJ,eL,bY,eO,eN,er,eD,eT,eV,eX,eY,b0,ip,iq,iX,iW,iY,iZ,i3,i4,i5,ff,fg,jh,jf,jg,je,jm,ji,jj,jk,jl,cI,fh,jr,jt,jn,jo,jq,ju,jv,jw,fj,jx,jy,jA,jB,fk,jC,jD,jE,jz,jF,fq,ft,fu,fv,jM,jN,jO,bL,fY,fZ,gb,gc,gf,gh,gi,gj,gk,ne_eq,bZ,fU,fV,fW,fX,fR,fS,fT,cD,cE,dz,cY,dh,c7,cZ,bR,bQ,bg,bV,cn,bW,NN,Of,NJ,N8,NP,N6,N9,NY,OE,OF,ON,OO,OP,NU,NR,Oc,N4,N5,Oa,exists_eq_left',exists_eq_left,exists_and_left,exists_and_right,Oi,Oj,Sl.v.injEq,Sl.o.injEq,Sl.k.injEq,Oq,Ol,Ov,Oe,Om,NQ,and_true,true_and,OQ,Ow,exists_const,decide_eq_true_eq,OR,OS,OH,OI,N1,decide_eq_false_iff_not,and_assoc,or_true,true_or,↓reduceIte,if_true,if_false,N2,Ob,not_true_eq_false,not_false_eq_true,OK,OA,ite_true,ite_false,eq_self,exists_eq,reduceCtorEq,false_and,and_false,or_false,false_or,exists_false,Ox,Oy,cb,OG,OT,OD,OU,N3,OC,Od,OM,aV,bz,bU,cG,d7,bo,eg,ei,beq_self_eq_true,d8,d9,fP,bu,UY];refine⟨td,td,td,td,more,rfl,UC,hm,λp hp e=>?_,λh=>?_⟩
       ·dsimp only;rw [UE (show mN p=false by cases hp <;> rfl)];exact⟨more,rfl,UC,hm,λp' hp' e'=>q1 _ (.rule hn hx hp') (by
         show NG "rule"::kA n::x::mj [p']=_;rw [E7 hp',e']),λh=>absurd e (h p hp)⟩
       ·dsimp only;rw [UD (show ¬mN Q8=false by decide)];exact key λk=>by
         obtain⟨p,hp,e⟩:=k.ru rfl;exact h p hp e
     ·simp only [NO,NZ,or_false,not_or] at hw;have b1:(NG "end"==w)=false:=beq_eq_false_iff_ne.mpr λz=>hw.1 z.symm;have b2:(NG "lift"==w)=false:=beq_eq_false_iff_ne.mpr λz=>hw.2.1 z.symm;have b3:(NG "happens"==w)=false:=beq_eq_false_iff_ne.mpr λz=>hw.2.2.1 z.symm;have b4:(NG "leave"==w)=false:=beq_eq_false_iff_ne.mpr λz=>hw.2.2.2.1 z.symm;have b5:(w==NG "hold")=false:=beq_eq_false_iff_ne.mpr hw.2.2.2.2.1;have b6:(w==NG "paper")=false:=beq_eq_false_iff_ne.mpr hw.2.2.2.2.2.1;have b7:(w==NG "rule")=false:=beq_eq_false_iff_ne.mpr hw.2.2.2.2.2.2;simp only [mE,nG,en,b1,b2,b3,b4,b5,b6,b7,↓iU,↓i6,↓i8,↓i9,↓ja,↓jb,↓jd,↓iV,↓eZ,↓iu,↓jG,↓jH,↓jI,↓jJ,↓jK,↓jL,↓iw,↓ix,↓iy,↓iz,↓iA,↓iB,↓iC,↓iD,↓iE,↓iF,↓iG,↓iH,↓iI,↓iJ,↓iK,↓iL,↓iM,↓iN,↓iO,↓iP,↓iQ,↓iR,↓iS,↓iT,cf,cz,cg,cV,fA,fB,cU,cW,cX,di,dj,fJ,cK,dC,bw,dI,dA,dB,dD,fO,dE,bX,dW,dU,dG,dF,dL,cC,cL,fx,cx,cq,bI,cO,cP,cQ,cR,fy,cS,cT,cu,cw,fz,gu,gx,gy,gz,gA,gB,gC,gD,gE,gF,gG,gH,gI,gJ,gK,gL,gM,gN,gO,gP,gQ,gR,gS,gT,gU,gW,gX,gY,gZ,g6,g9,hG,hJ,hV,hW,hX,hZ,ic,ie,ig,ij,ik,il,eR,dN,fN,dX,cH,fQ,d6,dH,dJ,dO,dP,dQ,dR,dS,cF,dY,dZ,d3,bS,fK,fL,fM,fC,fD,fE,fF,dm,fG,dn,fH,eM,eQ,gn,gp,gr,gm,gs,eF,eG,eJ,eL,bY,eO,eN,er,eD,eT,eV,eX,eY,b0,ip,iq,iX,iW,iY,iZ,i3,i4,i5,ff,fg,jh,jf,jg,je,jm,ji,jj,jk,jl,cI,fh,jr,jt,jn,jo,jq,ju,jv,jw,fj,jx,jy,jA,jB,fk,jC,jD,jE,jz,jF,fq,ft,fu,fv,jM,jN,jO,bL,fY,fZ,gb,gc,gf,gh,gi,gj,gk,ne_eq,bZ,fU,fV,fW,fX,fR,fS,fT,cD,cE,dz,cY,dh,c7,cZ,bR,bQ,bg,bV,cn,bW,NN,Of,NJ,N8,NP,N6,N9,NY,OE,OF,ON,OO,OP,NU,NR,Oc,N4,N5,Oa,exists_eq_left',exists_eq_left,exists_and_left,exists_and_right,Oi,Oj,Sl.v.injEq,Sl.o.injEq,Sl.k.injEq,Oq,Ol,Ov,Oe,Om,NQ,and_true,true_and,OQ,Ow,exists_const,decide_eq_true_eq,OR,OS,OH,OI,N1,decide_eq_false_iff_not,and_assoc,or_true,true_or,↓reduceIte,if_true,if_false,N2,Ob,not_true_eq_false,not_false_eq_true,OK,OA,ite_true,ite_false,eq_self,exists_eq,reduceCtorEq,false_and,and_false,or_false,false_or,exists_false,Ox,Oy,cb,OG,OT,OD,OU,N3,OC,Od,OM,aV,bz,bU,cG,d7,bo,eg,ei,beq_self_eq_true,d8,d9,fP,bu,UY]
      exact⟨mX.mpr ww.2,td,mX.mpr ww.2,td,key λk=>by
       have:=k.al;simp only [NO,NZ,or_false] at this;exact absurd this (by simp only [not_or];exact hw)⟩
    ·have no:Q .none:=q2 λd hv ee=>by
      obtain⟨w',n',x',r,rfl,_⟩:=n9 hv;simp only [kn,NQ] at ee;have hx':Nm x':=by cases hv <;> assumption
      exact hx (ee.2.2.1▸hx')
     rw [UE (show cj (.str x)=false by simpa using λz=>hx (lH.mp z))];exact no
   ·rw [en,UE (show mN Q8=true from rfl)];exact qn
def Sm(m:Nat)(z:Str):Prop:=z.length<=m/\Pc z=true
instance {m:Nat} {z:Str}:Decidable (Sm m z):=by unfold Sm;infer_instance
def Nf:List Str:=["","00","01","007","999","1000","-1","+1","1.0","0","2000-02-30","2001-02-29","2000-02-29","2000-1-01","2000-01-1","02000-01-01","1999-12-31","2273-10-15","2273-10-16","2000-13-01","2000-00-01","2000-01-00","2000-01-32","2000-01"]
def Ng:List Str:=["2000-01-01-01","10000-01-01","deep","Deep","coming","coming:","first:","first","last:a","last:A","first:a:a",":a","Coming","day","days","weeks","paper","kind","kinds","keep","while","abcdefghi","A","a1"]
def AS:List Str:=Nf++Ng
theorem Nh:∀z∈AS,Sm 13 z:=td
theorem Ni{z:Str}(h:Nm z):Sm 13 z:=⟨OB h.hi Ce,h.ok⟩
def Nj:List UI->(UI->Prop)->Prop:=λds Q=>∃a b c d e:Str,ds=[lT,.list [.str a,.str b,.str c,.str d,.str e]]/\(∀z∈[a,b,c,d,e],Nm z)/\∀z,Sm 13 z->Q (.str z)
theorem Nk(T:Txt K mg t):aC P w K mg base CX0 2 t.a_y t.d_y ["_law_pack_here","_law_names_here"] (bf K Nj):=by
 have G_i:=@pW P w _ _ base _ T;refine T.F_y.F.okD pT (λds Q h=>?_) (λ_ _ _ _ H O ds Q E hr h=>?_)
 ·obtain⟨a,b,c,d,e,rfl,_⟩:=h;rfl
 ·obtain⟨a,b,c,d,e,rfl,hn,q⟩:=h;refine'⟨_,?A,?B⟩
  case A=>
   refine' ai ?C ?D
   case C=>
    generalize hE2_0:Qs _ _=ee2_0;exact aJ (i:=2) pT.nd rfl UG (fe (mL (ds:=[.str "",.str "00",.str "01",.str "007",.str "999",.str "1000",.str "-1",.str "+1",.str "1.0",.str "0",.str "2000-02-30",.str "2001-02-29",.str "2000-02-29"]) (by first | (subst hE2_0;rfl)))) (hs:=B8 (ds:=[.str "",.str "00",.str "01",.str "007",.str "999",.str "1000",.str "-1",.str "+1",.str "1.0",.str "0",.str "2000-02-30",.str "2001-02-29",.str "2000-02-29"]) (by first | (subst hE2_0;rfl)))
   case' D=>refine' ai ?E ?F
   case E=>
    generalize hE4_0:Qs _ _=ee4_0;exact(aJ (i:=2) pT.nd rfl UG (fe (kK (df (dv 2)) (df (fe (mL (ds:=[.str "2000-1-01",.str "2000-01-1",.str "02000-01-01",.str "1999-12-31",.str "2273-10-15",.str "2273-10-16",.str "2000-13-01"]) (by first | (subst hE4_0;rfl))))))))
   case' F=>refine' ai ?G ?H
   case G=>
    generalize hE6_0:Qs _ _=ee6_0;exact(aJ (i:=2) pT.nd rfl UG (fe (kK (df (dv 2)) (df (fe (mL (ds:=[.str "2000-00-01",.str "2000-01-00",.str "2000-01-32",.str "2000-01",.str "2000-01-01-01",.str "10000-01-01",.str "deep",.str "Deep"]) (by first | (subst hE6_0;rfl))))))))
   case' H=>refine' ai ?I ?J
   case I=>
    generalize hE8_0:Qs _ _=ee8_0;exact(aJ (i:=2) pT.nd rfl UG (fe (kK (df (dv 2)) (df (fe (mL (ds:=[.str "coming",.str "coming:",.str "first:",.str "first",.str "last:a",.str "last:A",.str "first:a:a",.str ":a",.str "Coming",.str "day"]) (by first | (subst hE8_0;rfl))))))))
   case' J=>refine' ai ?K ?L
   case K=>
    generalize hE10_0:Qs _ _=ee10_0;exact(aJ (i:=2) pT.nd rfl UG (fe (kK (df (dv 2)) (df (fe (mL (ds:=[.str "days",.str "weeks",.str "paper",.str "kind",.str "kinds",.str "keep",.str "while",.str "abcdefghi",.str "A",.str "a1"]) (by first | (subst hE10_0;rfl))))))))
   case' L=>refine' ai ?M ?N
   case M=>exact(aJ (i:=2) pT.nd rfl UG (fe (kK (df (dv 2)) (df (fe (kC (df (dv 1)) jR (dM ae)))))))
   case' N=>refine' ar ?O
   case' O=>refine' aA ?P
   case' P=>refine' nW aM aR (df (dv 2)) ?Q
   case Q=>exact(df (au G_i hr T.F_i (aa (dv 0) (aa (PE.imp (aT jZ rfl T.n_len Og (aw (dv 2) az)) (aE j9)) ah))))
  case B=>
  clear hr T G_i;simp only [bL,true_and,↓iU,↓i6,↓i8,↓i9,↓ja,↓jb,↓jd,↓iV,↓eZ,↓iu,↓jG,↓jH,↓jI,↓jJ,↓jK,↓jL,↓iw,↓ix,↓iy,↓iz,↓iA,↓iB,↓iC,↓iD,↓iE,↓iF,↓iG,↓iH,↓iI,↓iJ,↓iK,↓iL,↓iM,↓iN,↓iO,↓iP,↓iQ,↓iR,↓iS,↓iT,cf,cz,cg,cV,fA,fB,cU,cW,cX,di,dj,fJ,cK,dC,bw,dI,dA,dB,dD,fO,dE,bX,dW,dU,dG,dF,dL,cC,cL,fx,cx,cq,bI,cO,cP,cQ,cR,fy,cS,cT,cu,cw,fz,gu,gx,gy,gz,gA,gB,gC,gD,gE,gF,gG,gH,gI,gJ,gK,gL,gM,gN,gO,gP,gQ,gR,gS,gT,gU,gW,gX,gY,gZ,g6,g9,hG,hJ,hV,hW,hX,hZ,ic,ie,ig,ij,ik,il,eR,dN,fN,dX,cH,fQ,d6,dH,dJ,dO,dP,dQ,dR,dS,cF,dY,dZ,d3,bS,fK,fL,fM,fC,fD,fE,fF,dm,fG,dn,fH,eM,eQ,gn,gp,gr,gm,gs,eF,eG,eJ,eL,bY,eO,eN,er,eD,eT,eV,eX,eY,b0,ip,iq,iX,iW,iY,iZ,i3,i4,i5,ff,fg,jh,jf,jg,je,jm,ji,jj,jk,jl,cI,fh,jr,jt,jn,jo,jq,ju,jv,jw,fj,jx,jy,jA,jB,fk,jC,jD,jE,jz,jF,fq,ft,fu,fv,jM,jN,jO,bL,fY,fZ,gb,gc,gf,gh,gi,gj,gk,ne_eq,bZ,fU,fV,fW,fX,fR,fS,fT,cD,cE,dz,cY,dh,c7,cZ,bR,bQ,bg,bV,cn,bW,NN,Of,NJ,N8,NP,N6,N9,NY,OE,OF,ON,OO,OP,NU,NR,Oc,N4,N5,Oa,exists_eq_left',exists_eq_left,exists_and_left,exists_and_right,Oi,Oj,Sl.v.injEq,Sl.o.injEq,Sl.k.injEq,Oq,Ol,Ov,Oe,Om,NQ,and_true,true_and,OQ,Ow,exists_const,decide_eq_true_eq,OR,OS,OH,OI,N1,decide_eq_false_iff_not,and_assoc,or_true,true_or,↓reduceIte,if_true,if_false,N2,Ob,not_true_eq_false,not_false_eq_true,OK,OA,ite_true,ite_false,eq_self,exists_eq,reduceCtorEq,false_and,and_false,or_false,false_or,exists_false,Ox,Oy,cb,OG,OT,OD,OU,N3,OC,Od,OM,aV,bz,bU,cG,d7,bo,eg,ei,beq_self_eq_true,d8,d9,fP,bu,UY];refine⟨Ce,Ce,λi i0 i1=>?_⟩;obtain⟨nm,hm,em⟩:=pY (AS++[a,b]) i0 (by rw [show(AS++[a,b]).length=50 from rfl];exact i1)
  refine⟨_,em,q nm ?_⟩;rcases P5.mp hm with h | h
  ·exact Nh _ h
  ·exact Ni (hn nm (by simp only [NO,NZ,or_false] at h⊢;rcases h with h | h <;> simp [h]))
theorem E8{z:Str}{lo hi:Option Int}{c:Nat}(h:c∈(Txt.slice z lo hi).cps.toList):c∈z.cps.toList:=by
 rw [wC] at h;exact P1 (PQ h)
def jW(ws:List Str):Nat:=(ws.map λp=>p.length+1).sum
theorem pZ{a b:List Str}:jW (a++b)=jW a+jW b:=by unfold jW;rw [P0,Sy]
theorem uR{a:Str}{b:List Str}:jW (a::b)=a.length+1+jW b:=by unfold jW;rw [NN,Qr]
theorem Nl{a:List Str}:jW a.reverse=jW a:=by unfold jW;rw [TN,List.sum_reverse]
theorem E9:∀{ws:List Str},(ws.map λp:Str=>p.length).sum+ws.length=jW ws
 | []=>rfl
 | a::l=>by
  have:=E9 (ws:=l);rw [uR,NN,Qr,NJ];omega
theorem AU(c:Nat):∀{ws:List Str},ws≠[]->(lF c (ws.map λp=>p.cps.toList)).length+1=jW ws
 | [a],_=>by rw [uR,oK];rfl
 | a::b::r,_=>by
  have:=AU c (ws:=b::r) UH;rw [uR,<-this,oK];show(a.cps.toList++c::lF c ((b::r).map λp=>p.cps.toList)).length+1=_;rw [Pq,NJ];omega
theorem AV{c:Nat}{ws:List Str}:(Txt.join ⟨#[c]⟩ ws).cps.toList=lF c (ws.map λp=>p.cps.toList):=by
 rw [show Txt.join ⟨#[c]⟩ ws=QM ⟨#[c]⟩ ws from P7 _ _,pQ]
theorem Nn{z:Str}:jW (Txt.split z (NG " "))=z.length+1:=by
 have hj:=uQ (z:=z) (c:=32);rw [<-mQ] at hj;have hn:Txt.split z (NG " ")≠[]:=λe=>by
  have h1:=qC z 32;rw [<-mQ,e] at h1;exact xF _ _ h1.symm
 have:=AU 32 hn;rw [<-this,<-AV,<-mQ,hj,oK]
theorem Np{ws:List Str}{m:Nat}(h:∀p∈ws,Pc p=true)(hm:jW ws<=m+1):Sm m (Txt.join (NG " ") ws):=by
 refine⟨?_,mZ.mpr λc hc=>?_⟩
 ·rw [mQ,oK,AV];by_cases hn:ws=[]
  ·rw [hn];exact PU _
  ·have:=AU 32 hn;omega
 ·rw [mQ,AV] at hc;rcases uI hc with z | ⟨p,hp,z⟩
  ·rw [z];decide
  ·obtain⟨q,hq,rfl⟩:=Pb.mp hp;exact mZ.mp (h q hq) c z
theorem Nq{ws:List Str}{k:Nat}(hk:k<=ws.length):bx (ws.map NI) (some (k:Int)) (some ((k:Int)+2))=((ws.drop k).take 2).map .str:=by
 unfold bx;rw [NS,oG (i:=(k:Int)) UC UC,O9,RG,S4];by_cases h:k+2<=ws.length
 ·rw [oG UC UC,show((k:Int)+2).toNat - k=2 by omega]
 ·rw [show HT.sIx ws.length ws.length (some ((k:Int)+2))=ws.length by rw [show(k:Int)+2=((k+2:Nat):Int) by omega,HT.sIx_nat];omega];rw [Po (by rw [Pw,NS];omega),Po (by rw [Pw,NS];omega)]
theorem Nr:∀s∈([" !\"#$&'()*+,-./0123456789:;<=>?@ABCDEFGHIJKLMNOPQRSTUVWXYZ[\\]^_`abcdefghijklmnopqrstuvwxyz{|}~\n","  --::0019adfklmpwy"]:List Str),0 < s.length/\s.length<=100/\∀c∈s.cps.toList,c < 0x110000:=td
def Nt:List UI->(UI->Prop)->Prop:=λds Q=>∃a b c d e z:Str,ds=[lT,.str z,.list [.str a,.str b,.str c,.str d,.str e]]/\(∀z∈[a,b,c,d,e],Nm z)/\Sm 430 z/\∀z',Sm (2*z.length+20) z'->Q (.str z')
theorem Nu(T:Txt K mg t):aC P w K mg base CX0 3 t.a_z t.d_z ["_law_pack_here","_law_text","_law_names_here"] (bf K Nt):=by
 have G_i:=@pW P w _ _ base _ T;have G_y:=@Nk P w _ _ base _ T;refine T.F_z.F.okD mP (λds Q h=>?_) (λ_ _ _ _ H O ds Q E hr h=>?_)
 ·obtain⟨a,b,c,d,e,z,rfl,_⟩:=h;rfl
 ·obtain⟨a,b,c,d,e,z,rfl,hn,hz,q⟩:=h;refine'⟨_,?A,?B⟩
  case A=>
   refine' ai ?C ?D
   case C=>exact(aJ (i:=3) mP.nd rfl UG aF)
   case' D=>refine' ai ?E ?F
   case E=>exact(aJ (i:=4) mP.nd rfl UG (au G_i hr T.F_i (aa (dv 0) (aa ae ah))))
   case' F=>refine' ai ?G ?H
   case G=>
    refine' aL ?I ?J aK
    case I=>exact(aI qf bT (dv 4) ae (aB _))
    case' J=>refine' ai ?K ?L
    case K=>
     refine' aJ (i:=5) mP.nd rfl UG ?M (hs:=pN)
     case M=>exact(au G_i hr T.F_i (aa (dv 0) (aa (aP bO bP (PE.imp (aT mS rfl T.n_len Og (aw (dv 1) az)) (aE nh)) ae) ah)))
    case' L=>refine' ai ?N ?O
    case N=>
     refine' aJ (i:=6) mP.nd rfl UG ?P (hs:=tS)
     case' P=>refine' nW aM aR (df ?Q) ?R
     case Q=>exact(fe (bB (aa (dv 3) (aa aF ah))))
     case R=>exact(df (au G_i hr T.F_i (aa (dv 0) (aa ae ah))))
    case' O=>refine' ai ?S ?T
    case S=>
     refine' aJ (i:=6) mP.nd rfl UG ?U (hs:=tS)
     case' U=>refine' nW aM aR (df ?V) ?W
     case V=>
      refine' fe ?X
      case' X=>refine' bB ?Y
      case' Y=>refine' aa ?Z ?a
      case Z=>exact(aj sY tJ (dv 6) (au G_i hr T.F_i (aa (dv 0) (aa (PE.imp (aT mS rfl T.n_len Og (aw (dv 6) az)) (aE nh)) ah))))
      case a=>refine' aa aF ah
     case W=>exact(df (aP nM mx (dv 4) ae))
    case' T=>refine' ar ?b
    case' b=>refine' aA ?c
    case c=>exact(aP sT tI (aP sT tI (qm (df (dv 1)) jR (dM (dv 5))) (dv 6)) (qm (df (dv 1)) (dM (aP bO bP (dv 5) (PE.imp (aT (vB rfl) rfl T.n_min RK (aw (dv 4) (aw ae az))) (aE tH)))) jR))
   case' H=>refine' ai ?d ?e
   case d=>exact(aJ (i:=7) mP.nd rfl UG (fe (pO (dv 1) aF)))
   case' e=>refine' ai ?f ?g
   case f=>exact(aJ (i:=5) mP.nd rfl UG (au G_i hr T.F_i (aa (dv 0) (aa (PE.imp (aT jZ rfl T.n_len Og (aw (dv 7) az)) (aE j9)) ah))))
   case' g=>refine' ai ?h ?i
   case h=>exact(aJ (i:=8) mP.nd rfl UG (fe (bB (aa (au G_y hr T.F_y (aa (dv 0) (aa (dv 2) ah))) ah))))
   case' i=>refine' ai ?j ?k
   case j=>
    refine' aJ (i:=9) mP.nd rfl UG ?l (hs:=CC)
    case' l=>refine' fe ?m
    case' m=>refine' bB ?n
    case' n=>refine' aa ?o ?p
    case o=>exact(fe (bB ah))
    case' p=>refine' aa ?q ?r
    case q=>exact(fe (IE (bB (aa (aj aM aR (dv 7) (dv 5)) ah))))
    case' r=>refine' aa (dv 8) ?s
    case' s=>refine' aa ?t ah
    case' t=>refine' fe ?u
    case' u=>refine' kK (df (dv 8)) (df ?v)
    case v=>exact(fe (bB (aa (aj aM aR (dv 7) (dv 5)) ah)))
   case' k=>refine' ai ?w ?x
   case w=>
    refine' aL ?y ?z aK
    case y=>exact(aI (j7 hr.units) j8 (dv 4) ae (aB _))
    case' z=>refine' ai ?A0 ?A1
    case A0=>
     refine' aJ (i:=10) mP.nd rfl UG ?A2 (hs:=tS)
     case' A2=>refine' fe ?A3
     case A3=>exact(HI (df (fe (kC (df (dv 7)) (dM (dv 5)) (dM (aP bO bP (dv 5) ae))))))
    case' A1=>refine' ar ?A4
    case' A4=>refine' aA ?A5
    case A5=>exact(qo aF (df (fe (kK (df (fe (kK (df (fe (kC (df (dv 7)) jR (dM (dv 5))))) (df (dv 10))))) (df (fe (kC (df (dv 7)) (dM (aP bO bP (dv 5) ae)) jR)))))))
   case' x=>refine' ar ?A6
   case' A6=>refine' aA ?A7
   case A7=>exact(qo aF (df (fe (kK (df (fe (kK (df (fe (kC (df (dv 7)) jR (dM (dv 5))))) (df (aj aM aR (dv 9) (aP kO bP (dv 4) ae)))))) (df (fe (kC (df (dv 7)) (dM (aP bO bP (dv 5) ae)) jR)))))))
  case B=>
  clear hr T G_i G_y;simp only [bL,true_and,↓iU,↓i6,↓i8,↓i9,↓ja,↓jb,↓jd,↓iV,↓eZ,↓iu,↓jG,↓jH,↓jI,↓jJ,↓jK,↓jL,↓iw,↓ix,↓iy,↓iz,↓iA,↓iB,↓iC,↓iD,↓iE,↓iF,↓iG,↓iH,↓iI,↓iJ,↓iK,↓iL,↓iM,↓iN,↓iO,↓iP,↓iQ,↓iR,↓iS,↓iT,cf,cz,cg,cV,fA,fB,cU,cW,cX,di,dj,fJ,cK,dC,bw,dI,dA,dB,dD,fO,dE,bX,dW,dU,dG,dF,dL,cC,cL,fx,cx,cq,bI,cO,cP,cQ,cR,fy,cS,cT,cu,cw,fz,gu,gx,gy,gz,gA,gB,gC,gD,gE,gF,gG,gH,gI,gJ,gK,gL,gM,gN,gO,gP,gQ,gR,gS,gT,gU,gW,gX,gY,gZ,g6,g9,hG,hJ,hV,hW,hX,hZ,ic,ie,ig,ij,ik,il,eR,dN,fN,dX,cH,fQ,d6,dH,dJ,dO,dP,dQ,dR,dS,cF,dY,dZ,d3,bS,fK,fL,fM,fC,fD,fE,fF,dm,fG,dn,fH,eM,eQ,gn,gp,gr,gm,gs,eF,eG,eJ,eL,bY,eO,eN,er,eD,eT,eV,eX,eY,b0,ip,iq,iX,iW,iY,iZ,i3,i4,i5,ff,fg,jh,jf,jg,je,jm,ji,jj,jk,jl,cI,fh,jr,jt,jn,jo,jq,ju,jv,jw,fj,jx,jy,jA,jB,fk,jC,jD,jE,jz,jF,fq,ft,fu,fv,jM,jN,jO,bL,fY,fZ,gb,gc,gf,gh,gi,gj,gk,ne_eq,bZ,fU,fV,fW,fX,fR,fS,fT,cD,cE,dz,cY,dh,c7,cZ,bR,bQ,bg,bV,cn,bW,NN,Of,NJ,N8,NP,N6,N9,NY,OE,OF,ON,OO,OP,NU,NR,Oc,N4,N5,Oa,exists_eq_left',exists_eq_left,exists_and_left,exists_and_right,Oi,Oj,Sl.v.injEq,Sl.o.injEq,Sl.k.injEq,Oq,Ol,Ov,Oe,Om,NQ,and_true,true_and,OQ,Ow,exists_const,decide_eq_true_eq,OR,OS,OH,OI,N1,decide_eq_false_iff_not,and_assoc,or_true,true_or,↓reduceIte,if_true,if_false,N2,Ob,not_true_eq_false,not_false_eq_true,OK,OA,ite_true,ite_false,eq_self,exists_eq,reduceCtorEq,false_and,and_false,or_false,false_or,exists_false,Ox,Oy,cb,OG,OT,OD,OU,N3,OC,Od,OM,aV,bz,bU,cG,d7,bo,eg,ei,beq_self_eq_true,d8,d9,fP,bu,UY];have zl:=hz.1;intro i i0 i1;split
  ·rename_i h3;refine⟨UC,UC,UC,λat0 a0 a1 u u0 u1=>?_⟩;obtain⟨s,hs,es⟩:=pY [" !\"#$&'()*+,-./0123456789:;<=>?@ABCDEFGHIJKLMNOPQRSTUVWXYZ[\\]^_`abcdefghijklmnopqrstuvwxyz{|}~\n","  --::0019adfklmpwy"] u0 (show u < ((2:Nat):Int) from u1);obtain⟨s1,s2,s3⟩:=Nr s hs;refine⟨_,es,s,rfl,UC,UC,UC,λg g0 g1=>⟨s,rfl,UC,?_⟩⟩;obtain⟨c,ec,hc⟩:=vV (xs:=s.cps.toList) g0 (by rw [<-oK];exact g1);obtain⟨v,ev,lv,okv⟩:∃v:Str,atI [NI ⟨#[c]⟩,NI (NG "")] (i / 2)=some (.str v)/\v.length<=1/\∀x∈v.cps.toList,x < 0x110000:=by
    rcases(show i / 2=0\/i / 2=1 by omega) with e | e
    ·rw [e];exact⟨_,rfl,by show(1:Nat)<=1;decide,λx hx=>by
      have:x=c:=by simpa using hx
      rw [this];exact s3 c hc⟩
    ·rw [e];exact⟨_,rfl,td,td⟩
   have l1:=Txt.slice_le z none (some at0);refine⟨c,ec,_,ev,UC,v,rfl,UC,UC,?_⟩;have fin:∀lo,(Txt.slice z none (some at0)++v).length+(Txt.slice z lo none).length<=16777216/\Q (.str (Txt.slice z none (some at0)++v++Txt.slice z lo none)):=λlo=>by
    have l2:=Txt.slice_le z lo none;refine⟨by rw [oH];omega,q _ ⟨by rw [oH,oH];omega,mZ.mpr λx hx=>?_⟩⟩;simp only [rO,Qt,P5] at hx;rcases hx with(h | h) | h
    ·exact mZ.mp hz.2 x (E8 h)
    ·exact okv x h
    ·exact mZ.mp hz.2 x (E8 h)
   exact fin _
  ·rename_i h3;have ts:=Nn (z:=z);have hb:∀p∈Txt.split z (NG " "),Pc p=true:=λp hp=>by
    rw [mQ] at hp;exact uP hz.2 hp
   have hl:(Txt.split z (NG " ")).length<=1002:=OB (Q3 z _) UC;refine⟨td,UC,?_⟩;generalize Txt.split z (NG " ")=ws at*;rw [NS];have wn:0 < ws.length:=by
    cases ws with
    | nil=>simp [jW] at ts
    | cons _ _=>simp
   have fin:∀ys:List Str,(∀p∈ys,Pc p=true)->jW ys<=2*z.length+21->(ys.map λx:Str=>x.length).sum+ys.length*(NG " ").length<=16777216/\Q (.str (Txt.join (NG " ") ys)):=λys h1 h2=>by
    have:=E9 (ws:=ys);exact⟨by rw [AD];omega,q _ (Np h1 h2)⟩
   refine⟨UC,UC,λk k0 k1=>⟨a,b,c,d,e,rfl,hn,λo ho=>?_⟩⟩;obtain⟨k,rfl⟩:=OY k0;have hk:k < ws.length:=UC
   have ek:atI (ws.map NI) (k:Int)=some (.str ws[k]):=mF (by simp [hk]);have sp:jW ws=jW (ws.take k)+(ws[k].length+1+jW (ws.drop (k+1))):=by
    rw [<-uR,<-Sa hk,<-pZ,Q2]
   refine⟨_,ek,_,ek,?_⟩;have okk:Pc ws[k]=true:=hb _ (Qk hk);have t1:=uL (ws:=ws) (k:=k);split
   ·have t2:=Nq (ws:=ws) (k:=k) UC;have t3:bx (ws.map NI) (some ((k:Int)+2)) none=(ws.drop (k+2)).map .str:=by
     rw [show(k:Int)+2=((k+2:Nat):Int) by omega];exact oS
    rw [t1,t2,t3,<-TN,<-P0,<-P0];have st:jW ws=jW (ws.take k)+(jW ((ws.drop k).take 2)+jW (ws.drop (k+2))):=by
     rw [<-List.drop_drop,<-pZ,Q2,<-pZ,Q2]
    refine⟨by simp only [NS,Pn,Pw,RO];omega,by simp only [NS,Pq,Pn,Pw,RO];omega,_,rfl,?_⟩;refine fin _ (λp hp=>hb p ?_) (by rw [pZ,pZ,Nl];omega);simp only [P5,List.mem_reverse] at hp;rcases hp with(h | h) | h
    ·exact PQ h
    ·exact P1 (PQ h)
    ·exact P1 h
   ·rename_i h7;have t3:bx (ws.map NI) (some ((k:Int)+1)) none=(ws.drop (k+1)).map .str:=by
     rw [show(k:Int)+1=((k+1:Nat):Int) by omega];exact oS
    obtain⟨xs,ex,hx,tx⟩:∃xs:List Str,atI [O7 [],O7 [.str ws[k],.str ws[k]],O7 [.str o],O7 [.str o,.str ws[k]]] (i - 3)=some (.list (xs.map .str))/\(∀p∈xs,Pc p=true)/\(xs.length<=2/\jW xs<=ws[k].length+1+(z.length+15)):=by
     have lk:ws[k].length<=z.length:=UC
     have:=ho.1;have i7:¬i=7:=by simpa using h7
     rcases(show i - 3=0\/i - 3=1\/i - 3=2\/i - 3=3 by omega) with e | e | e | e <;> rw [e]
     ·exact⟨[],rfl,(λp hp=>by cases hp),UH,by simp [jW]⟩
     ·exact⟨[ws[k],ws[k]],rfl,(λp hp=>by simp at hp;rw [hp];exact okk),UH,by simp [jW];omega⟩
     ·exact⟨[o],rfl,(λp hp=>by simp at hp;rw [hp];exact ho.2),UH,by simp [jW];omega⟩
     ·exact⟨[o,ws[k]],rfl,(λp hp=>by simp at hp;rcases hp with h | h <;> rw [h];exact ho.2;exact okk),UH,by simp [jW];omega⟩
    refine⟨_,ex,_,rfl,?_⟩;rw [t1,t3,<-P0,<-P0];refine⟨by simp only [NS,Pn];omega,by simp only [NS,Pq,Pn,Pw];omega,_,rfl,?_⟩;refine fin _ (λp hp=>?_) (by rw [pZ,pZ];omega);simp only [P5] at hp;rcases hp with(h | h) | h
    ·exact hb p (PQ h)
    ·exact hx p h
    ·exact hb p (P1 h)
end
theorem AW:fw (ay ux) ["_law_found","_law_due"] ["_law_one","_law_other"] 2 [] ⟨OL,[ (NM ".0",Ww),(NM "_law_one",Ww),(NM "_law_other",Ww),(NM "_law_same",OV)],false,false,[]⟩:= .of
section
variable {P:UX} {w:UZ} {K:NH} {mg:Str->Option UJ} {base:UW} {t:k9}
def AX:UI->Prop
 | .bool _=>True
 | .int _=>True
 | .str z=>Pc z=true
 | _=>False
def oa:Nat->UI->Prop
 | 0,x=>AX x
 | d+1,x=>AX x\/∃xs,x= .tuple xs/\xs.length<=1000/\∀y∈xs,oa d y
theorem Fb:∀{xs:List UI}{x:UI},x∈oO xs xs->∃y∈xs,x= .tuple [y,y]
 | [],_,h=>by cases h
 | a::l,x,h=>by
  have h:x∈O6 [a,a]::oO l l:=h;rcases NO.mp h with e | e
  ·exact⟨a,UH,e⟩
  ·obtain⟨y,hy,e⟩:=Fb e;exact⟨y,by simp [hy],e⟩
def Nv(d:Nat):List UI->(UI->Prop)->Prop:=λds Q=>∃x,ds=[x,x]/\oa d x/\Q (.bool true)
theorem Nw{k:Nat}{f:UL}{fd:UT}{ps:List Str}:aC P w K mg base CX0 k f fd ps (bf K λ_ _=>False):=⟨λvs H Q E uu57=>by obtain⟨_,_,_,_,_,h,_⟩:=uu57;exact h.elim,λ_ _ _ _ _ _ _ _ _ _ _ _ _ uu58=>by obtain⟨_,_,_,_,_,h,_⟩:=uu58;exact h.elim⟩
theorem Fc{d:Nat}{F:List UI->(UI->Prop)->Prop}(T:Txt K mg t)(G_r:aC P w K mg base CX0 d t.a_r t.d_r ["_law_found","_law_due"] (bf K F)):
 aC P w K mg base CX0 (d+1) t.a_r t.d_r ["_law_found","_law_due"] (bf K λds Q=>∃x,ds=[x,x]/\(AX x\/∃xs,x= .tuple xs/\xs.length<=1000/\∀y∈xs,∀R:UI->Prop,R (.bool true)->F [y,y] R)/\Q (.bool true)):=by
 refine T.F_r.F.okD K5 (λds Q h=>?_) (λ_ _ _ _ H O ds Q E hr h=>?_)
 ·obtain⟨x,rfl,_⟩:=h;rfl
 ·obtain⟨x,rfl,hx,q⟩:=h;refine'⟨_,?A,?B⟩
  case A=>
   refine' ai ?C ?D
   case C=>
    refine' aL ?E ?F aK
    case E=>exact(cy (mh (K':=K) (T:="tuple") rfl rfl T.n_isinstance kZ (df (dv 1)) (lI (v:= .ty "tuple") rfl T.n_tuple lz rfl)))
    case' F=>refine' ai ?G ?H
    case G=>
     refine' aL ?I ?J aK
     case I=>exact(PW.pt (kB (kr (cy (mh (K':=K) (T:="tuple") rfl rfl T.n_isinstance kZ (df (dv 0)) (lI (v:= .ty "tuple") rfl T.n_tuple lz rfl)))) (lh (aI (mV hr.units) mW (PE.imp (aT jZ rfl T.n_len Og (aw (dv 0) az)) (aE j9)) (PE.imp (aT jZ rfl T.n_len Og (aw (dv 1) az)) (aE j9)) (aB _)))))
     case J=>refine' ar (aA lU)
    case' H=>refine' ar ?K
    case' K=>refine' aA ?L
    case L=>exact(PE.imp (aT (oA rfl) rfl T.n_all oB (aw (fe (JP rfl AW rfl T.n_zip (aw (dv 0) (aw (dv 1) az)) (BZ (pz j6 (pz j6 vX))) Js Ce (λ_ _ _ _=>(vj (n:=2) rfl (nL (jU (i:=0) AW.nd rfl UG) (nL (jU (i:=1) AW.nd rfl UG) sI)))) (λ_ _ _ _=>lM) (λ_ _ _ _=>(PE.imp (lu G_r (hr.mono (NV _)) rfl T.F_r (aa (dv 0) (aa (dv 1) ah))) BX)))) az)) (aE oF))
   case' D=>refine' ar ?M
   case' M=>refine' aA ?N
   case N=>exact(ky (j5 (j7 hr.units) j8 (df (mh (K':=K) (T:="bool") rfl rfl T.n_isinstance kZ (df (dv 0)) (lI (v:= .ty "bool") rfl T.n_bool rG rfl))) (df (mh (K':=K) (T:="bool") rfl rfl T.n_isinstance kZ (df (dv 1)) (lI (v:= .ty "bool") rfl T.n_bool rG rfl))) (aB _)) (lj (j5 (j7 hr.units) j8 (df (dv 0)) (df (dv 1)) (aB _))))
  case B=>
  clear hr T G_r;walk_at "a";simp only [tQ,wA];rcases hx with hs | ⟨xs,rfl,hl,hF⟩
  ·obtain⟨t0,nd,sh,ev⟩:oI x=false/\(∀y:UI,¬x=Uw [(Q8,y)])/\P9 x=true/\x.eqv x=true:=by
    cases x with
    | bool b=>exact⟨rfl,(λ_ e=>by cases e),d9,by rw [ei];exact beq_self_eq_true _⟩
    | int i=>exact⟨rfl,(λ_ e=>by cases e),d8,by rw [eg];exact beq_self_eq_true _⟩
    | str z=>exact⟨rfl,(λ_ e=>by cases e),mX.mpr hs,by rw [bo];exact beq_self_eq_true _⟩
    | none=>exact hs.elim
    | list l=>exact hs.elim
    | tuple l=>exact hs.elim
    | dict l=>exact hs.elim
   refine⟨_,rfl,nd,?_⟩;rw [t0,UD Ou];refine⟨_,rfl,nd,_,rfl,nd,?_⟩;rw [UE UH,ev];exact⟨sh,sh,q⟩
  ·have nd:∀y:UI,¬O6 xs=Uw [(Q8,y)]:=λ_ e=>by cases e
   refine⟨_,rfl,nd,?_⟩;rw [show oI (.tuple xs)=true from rfl,UE rfl];refine⟨_,rfl,nd,?_⟩;rw [UD Ce];refine⟨xs,.inr rfl,xs,.inr rfl,?_⟩;rw [UD UH];refine⟨xs,rfl,xs,rfl,rfl,UC,pL (p:=λb=>Q (.bool b)) (λ_=>true) (λx hx R hR=>?_) ?_⟩
   ·obtain⟨y,hy,rfl⟩:=Fb hx;walk_at "a";exact hF y hy R hR
   ·have e:∀l:List UI,((l.map λ_=>true).all id)=true:=λl=>by rw [QL];exact Pg.mpr λ_ _=>rfl
    rw [e];exact q
theorem Fd(T:Txt K mg t):∀n,aC P w K mg base CX0 (16+n) t.a_r t.d_r ["_law_found","_law_due"] (bf K (Nv n))
 | 0=>(Fc T (d:=15) Nw).imp λvs H Q E uu59=>by obtain⟨O,ds,Qd,a,b,⟨x,e,hx,q⟩,k⟩:=uu59;exact⟨O,ds,Qd,a,b,⟨x,e,.inl hx,q⟩,k⟩
 | n+1=>(Fc T (Fd T n)).imp λvs H Q E uu60=>by obtain⟨O,ds,Qd,a,b,⟨x,e,hx,q⟩,k⟩:=uu60;exact⟨O,ds,Qd,a,b,⟨x,e,hx.imp id (λuu61=>by obtain⟨xs,e1,e2,e3⟩:=uu61;exact⟨xs,e1,e2,λy hy R hR=>⟨y,rfl,e3 y hy,hR⟩⟩),q⟩,k⟩
theorem Nx{d:UI}(h:bM d):oa 3 d:=by
 have st:∀{z:Str}(n:Nat),Pc z=true->oa n (.str z):=λn h=>by cases n;exact h;exact .inl h
 have it:∀{z:Int}(n:Nat),oa n (.int z):=λn=>by cases n;exact trivial;exact .inl trivial
 have bt:∀{z:Bool}(n:Nat),oa n (.bool z):=λn=>by cases n;exact trivial;exact .inl trivial
 have tp:∀{l:List UI}{n:Nat},l.length<=1000->(∀x∈l,oa n x)->oa (n+1) (.tuple l):=λh1 h2=>.inr ⟨_,rfl,h1,h2⟩;have ac:∀{p:UI->Prop}{a:UI}{l:List UI},p a->(∀x∈l,p x)->∀x∈a::l,p x:=λh1 h2=>List.forall_mem_cons.mpr ⟨h1,h2⟩;have an:∀{p:UI->Prop},∀x∈([]:List UI),p x:=λx hx=>by cases hx
 have wl:∀{u:Str}{l:List Str},u∈l->(∀z∈l,Pc z=true)->Pc u=true:=λh h2=>h2 _ h;have sn:∀{s:UI},lX s->oa 1 s:=λh=>by
  cases h with
  | coming=>exact tp UH (ac (st 0 td) an)
  | first h=>exact tp UH (ac (st 0 td) (ac (st 0 h.ok) an))
  | last h=>exact tp UH (ac (st 0 td) (ac (st 0 h.ok) an))
 cases h with
 | paper _ hx hk hm=>exact tp UH (ac (st _ td) (ac (it _) (ac (st _ hx.ok) (ac (st _ hk.ok) (ac (tp (by rw [NS];have:=hm.len;omega) λx hx=>by obtain⟨m,hm',rfl⟩:=Pb.mp hx;exact st _ (hm.nm m hm').ok) an)))))
 | two hw _ hx hy=>exact tp UH (ac (st _ (wl hw td)) (ac (it _) (ac (st _ hx.ok) (ac (st _ hy.ok) an))))
 | rule _ hx hp=>
  refine tp UH (ac (st _ td) (ac (it _) (ac (st _ hx.ok) (ac ?_ an))));cases hp with
  | wfl hw hk=>exact tp UH (ac (st _ (wl hw td)) (ac (st _ hk.ok) an))
  | kg hw hk hs _ _ hu=>exact tp UH (ac (st _ (wl hw td)) (ac (st _ hk.ok) (ac (sn hs) (ac (it _) (ac (st _ (wl hu td)) an)))))
 | one hw _ hx=>exact tp UH (ac (st _ (wl hw td)) (ac (it _) (ac (st _ hx.ok) an)))
 | hold _ hx hg hy=>exact tp UH (ac (st _ td) (ac (it _) (ac (st _ hx.ok) (ac (tp UH (ac (st _ (wl hg td)) (ac (st _ hy.ok) an))) (ac (bt _) an)))))
theorem zk(T:Txt K mg t):lC K t.u_NoText:=⟨T.z1,T.z2,T.z3,T.z4,T.z5,T.z6,T.z7,T.z8⟩
def Ny(C:UL):Sp:=λvs H Q _=>∃e dd:UL,vs=[.ref e]/\H e=some (.ext (kE e (.ref C) (some dd)))/\H dd=some (.xd [("row",.int 0)])/\∀H',ao H H'->Q (.bl true) H'
theorem Nz(T:Txt K mg t):aC P w K mg base CX0 1 t.a_s t.d_s ["_law_e"] (Ny t.u_NoText):=by
 refine T.F_s.F.ok K6 (λvs H Q E h=>?_) (λcdv A outer s H vs Q E hr h=>?_)
 ·obtain⟨e,dd,rfl,_⟩:=h;rfl
 ·obtain⟨e,dd,rfl,he,hd,k⟩:=h;refine'⟨_,?A,?B⟩
  case A=>
   refine' kF ?C ?D
   case C=>
    refine' oo ?E ?F om
    case E=>exact(PW.pt (uY (uZ (p6 (aT (Dw (K':=K) rfl) rfl T.n_isinstance kZ (aN (pv 0) (aN (jX (v:= .ref t.u_NoText) rfl T.c_NoText rfl) bF))))) (uY (uZ (p6 (aT (Dw (K':=K) rfl) rfl T.n_isinstance kZ (aN (pv 0) (aN (lI (v:= .ty "ValueError") rfl T.n_ValueError He rfl) bF))))) (A1 (p6 (aT GX rfl T.n_isinstance kZ (aN (Dn (pv 0) rfl) (aN (lI (v:= .ty "bool") rfl T.n_bool rG rfl) bF))))))))
    case' F=>refine' kh ?G
    case G=>refine' kG uT
   case' D=>refine' kF ?H ?I
   case H=>
    refine' oo ?J ?K om
    case J=>exact(p6 (aT (Dx (K':=K) rfl) rfl T.n_isinstance kZ (aN (pv 0) (aN (sW (aN (jX (v:= .ref t.u_GoneMaker) rfl T.c_GoneMaker rfl) (aN (jX (v:= .ref t.u_Held) rfl T.c_Held rfl) (aN (jX (v:= .ref t.u_MustStay) rfl T.c_MustStay rfl) (aN (jX (v:= .ref t.u_NoCall) rfl T.c_NoCall rfl) (aN (jX (v:= .ref t.u_NoDay) rfl T.c_NoDay rfl) bF)))))) bF))))
    case' K=>refine' kh ?L
    case L=>refine' kG uT
   case' I=>refine' kh ?M
   case' M=>refine' kG ?N
   case N=>exact(A3 (aT (Dx (K':=K) rfl) rfl T.n_isinstance kZ (aN (pv 0) (aN (sW (aN (jX (v:= .ref t.u_NoDeed) rfl T.c_NoDeed rfl) (aN (jX (v:= .ref t.u_NoLeave) rfl T.c_NoLeave rfl) (aN (jX (v:= .ref t.u_NoNumber) rfl T.c_NoNumber rfl) (aN (jX (v:= .ref t.u_NoPaper) rfl T.c_NoPaper rfl) (aN (jX (v:= .ref t.u_Twice) rfl T.c_Twice rfl) bF)))))) bF))))
  case B=>
  walk_at "d";have hi:∀u:UJ,aD (.int 0) u->TQ u=true:=λu uu62=>by obtain⟨_,h⟩:=uu62;rw [h];rfl
  refine⟨_,_,he,zk T,.ref t.u_NoText,λu h=>h,true,by unfold QH;rw [UE UH],?_⟩;rw [UD Ce];refine⟨_,_,he,zk T,.type "ValueError",λu h=>h,true,T.kv,?_⟩;rw [UD Ce];unfold xK;walk_at "d";refine⟨_,_,he,_,hd,zk T,T.xhd,T.xrow,.int 0,rfl,hi,"bool",rfl,_,.int 0,false,rfl,?_⟩;rw [UD Ce];refine⟨by rw [UY];decide,λp hp=>?_⟩;have n1:e≠p:=λz=>by rw [<-z,he] at hp;cases hp
  have e1:=(av (H:=H) (a:=p) (o:=HO.tup [V.ref t.u_GoneMaker,V.ref t.u_Held,V.ref t.u_MustStay,V.ref t.u_NoCall,V.ref t.u_NoDay]) n1).trans he;refine⟨_,_,e1,[t.u_GoneMaker,t.u_Held,t.u_MustStay,t.u_NoCall,t.u_NoDay],bh,zk T,false,T.ka,?_⟩;rw [UD Ce];refine⟨by rw [UY];decide,λp2 hp2=>?_⟩;have n2:e≠p2:=λz=>by rw [<-z,e1] at hp2;cases hp2
  have e2:=(av (H:=ak H p (HO.tup [V.ref t.u_GoneMaker,V.ref t.u_Held,V.ref t.u_MustStay,V.ref t.u_NoCall,V.ref t.u_NoDay])) (a:=p2) (o:=HO.tup [V.ref t.u_NoDeed,V.ref t.u_NoLeave,V.ref t.u_NoNumber,V.ref t.u_NoPaper,V.ref t.u_Twice]) n2).trans e1;refine⟨_,_,e2,[t.u_NoDeed,t.u_NoLeave,t.u_NoNumber,t.u_NoPaper,t.u_Twice],bh,zk T,false,T.kb,?_⟩;exact k _ ((ao.new hp).trans (ao.new hp2))
def Fe:List UI->(UI->Prop)->Prop:=λds Q=>∃d x,ds=[d,x]/\(∀y,d≠ .dict [(.none,y)])/\(∀z,d= .str z->nF z)/\(bM x/\d= .str (jT x)\/(∀e,bM e->d≠ .str (jT e))/\x= .none)/\Q (.bool true)
theorem NA(T:Txt K mg t):aC P w K mg base CX0 21 t.a_AA t.d_AA ["_law_thing","_law_due"] (bf K Fe):=by
 have G_f:=@MH P w _ _ base _ T;have G_s:=@Nz P w _ _ base _ T;have G_r:=@Fd P w _ _ base _ T 3;refine T.F_AA.F.ok su (λvs H Q E h=>?_) (λcdv A outer s H vs Q E hr h=>?_)
 ·obtain⟨O,ds,Qd,_,r,⟨d,x,rfl,_⟩,_⟩:=h;exact r.length
 ·obtain⟨O,ds,Qd,tr,r,⟨d,x,rfl,hd,hz,hx,q⟩,k⟩:=h;obtain⟨v,u,rfl,r1,r2⟩:∃v u,vs=[v,u]/\Dt K H O v d/\Dt K H O u x:=by
   cases r with
   | cons r1 r2=>cases r2 with
    | cons r2 r3=>cases r3;exact⟨_,_,rfl,r1,r2⟩
  refine'⟨_,?A,?B⟩
  case A=>
   refine' kF ?C ?D
   case C=>refine' l7 (i:=2) su.nd rfl UG oW
   case' D=>refine' kF ?E ?F
   case E=>refine' l7 (i:=3) su.nd rfl UG oW
   case' F=>refine' kF ?G ?H
   case G=>exact(Ku (C:=t.u_NoText) (i:=4) (j:=3) G_f (hr.mono Ce) rfl T.F_f.m T.F_f.kp T.F_f.b (λE'=>(aN (pv 0) bF)) rfl rfl T.c_ArchiveError rfl T.xm_NoText.seen T.q_ArchiveError Ce T.i_NoText_ArchiveError su.nd rfl UG UG rfl rfl (λe=>(kh (l7 (i:=2) su.nd rfl UG (pv 4)))))
   case' H=>refine' kF ?I ?J
   case I=>
    refine' oo ?K ?L om
    case K=>exact(o9 vA (pv 1) oW (aB _))
    case' L=>refine' kh ?M
    case' M=>refine' kG ?N
    case N=>exact(qX (oZ sQ (pv 2) oW (aB _)) (qW (lu G_r (hr.mono Ce) rfl T.F_r (aN (pv 3) (aN (pv 1) bF)))))
   case' J=>refine' kh ?O
   case' O=>refine' kG ?P
   case P=>exact(qX (oZ vA (pv 2) oW (aB _)) (qX (lu G_s (hr.mono Ce) rfl T.F_s (aN (pv 2) bF)) (qW (oZ sO (Dn (pv 2) rfl) cm (aB _)))))
  case B=>
  walk_at "d";refine⟨_,rfl,O,[d],λy=>bM x/\y=x,λn=>n=0/\x= .none,tr,.cons r1 .nil,⟨d,rfl,hd,hz,λe he ee=>?_,λh=>?_⟩,?_,?_⟩
  ·rcases hx with⟨hv,e2⟩ | ⟨hn,_⟩
   ·refine⟨hv,?_⟩;rw [ee] at e2;injection e2 with e2
    have a:=qP he;have b:=qP hv;rw [<-a.2,<-b.2,<-a.1,<-b.1,e2]
   ·exact absurd ee (hn e he)
  ·rcases hx with⟨hv,e2⟩ | ⟨_,hn⟩
   ·exact absurd e2 (h x hv)
   ·exact⟨rfl,hn⟩
  ·rintro y v2 H2 ⟨hv,rfl⟩ s2 r3;walk_at "d";have un:u≠ .non:=λz=>by
    subst z;obtain⟨_,_,_,_,rfl,_⟩:=n9 hv;cases r2
   rw [UE (by simpa using un)];refine⟨O,[y,y],λb=>b= .bool true,λl h z=>?_,.cons r3 (.cons (r2.mono s2) .nil),⟨y,rfl,Nx hv,rfl⟩,?_⟩
   ·cases h1:H l with
    | none=>exact tr l h h1
    | some o=>have:=s2 l o h1;rw [z] at this;cases this
   ·rintro b v3 H3 rfl s3 r4;exact k _ _ _ q (s2.trans s3) r4
  ·rintro n ⟨rfl,rfl⟩ dd H2 s2 hdd;refine⟨rfl,λe he=>?_⟩;walk_at "d";have un:u= .non:=by cases r2;rfl
   subst un;rw [UD (λz=>z rfl),UE (λz=>by cases z)];have nd:dd≠e:=λz=>by rw [z,he] at hdd;cases hdd
   have ed:=(av (H:=H2) (a:=e) (o:=HO.ext (kE e (.ref t.u_NoText) (some dd))) nd).trans hdd;have s3:=s2.trans (ao.new (o:=HO.ext (kE e (.ref t.u_NoText) (some dd))) he);have ee:=bh (H:=H2) (a:=e) (o:=HO.ext (kE e (.ref t.u_NoText) (some dd)));generalize ak H2 e _=H3 at*;refine⟨e,dd,rfl,ee,ed,λH4 s4=>⟨true,rfl,?_⟩⟩;rw [UE rfl];unfold xK;walk_at "d";have hi:∀u:UJ,aD (.int 0) u->TQ u=true:=λu uu63=>by obtain⟨_,h⟩:=uu63;rw [h];rfl
   exact⟨_,_,s4 _ _ ee,_,s4 _ _ ed,zk T,T.xhd,T.xrow,.int 0,rfl,hi,rfl,k _ _ _ q (s3.trans s4) (.bl _)⟩
def F_AB:List UI->(UI->Prop)->Prop:=λds Q=>∃ns:List Int,ds=[ma (ns.map .int)]/\ns.length<=63/\(∀z∈ns,Pk z<=1048576)/\Q (.bool true)
def sp_law(K:NH):Sp:=bf K F_AB
theorem start_law{K:NH}{H:Hp}{a:UL}{ns:List Int}(hl:ns.length<=63)(hb:∀z∈ns,Pk z<=1048576)(hS:bj K H a (ns.map V.int)):sp_law K [.ref a] H (λv _=>v= .bl true) λ_ _ _=>False:=
 ⟨λ_=>False,[ma (ns.map .int)],λd=>d= .bool true,λ_ z=>z.elim,.cons (.scr (by
  rcases hS with h | h
  ·exact .inl ⟨h,λz=>z⟩
  ·exact .inr (.inr h)) (aq.ints ns)) .nil,⟨ns,rfl,hl,hb,rfl⟩,λd v H' e _ r=>by subst e;cases r;rfl⟩
theorem qT{d x:UI}{Q:UI->Prop}:Fe [d,x] Q↔(∀y,d≠ .dict [(.none,y)])/\(∀z,d= .str z->nF z)/\(bM x/\d= .str (jT x)\/(∀e,bM e->d≠ .str (jT e))/\x= .none)/\Q (.bool true):=⟨λuu64=>by obtain⟨_,_,e,h⟩:=uu64;cases e;exact h,λh=>⟨_,_,rfl,h⟩⟩
theorem NB{e:UI}(h:bM e):jT e≠NG "":=λz=>by
 have a:=(qP h).1;rw [z] at a;obtain⟨w,n,x,r,rfl,_⟩:=n9 h;have b:=congrArg QV a;rw [show(Txt.split (NG "") (NG " ")).length=1 by decide+kernel] at b;simp only [kn,NJ] at b;omega
theorem ok_law(T:Txt K mg t):aC P w K mg base CX0 22 t.a_AB t.d_AB ["_law_script"] (sp_law K):=by
 have G_h:=@LR P w _ _ base _ T;have G_i:=@pW P w _ _ base _ T;have G_j:=@L4 P w _ _ base _ T;have G_p:=@MX P w _ _ base _ T;have G_q:=@M0 P w _ _ base _ T;have G_z:=@Nu P w _ _ base _ T;have G_x:=@Nd P w _ _ base _ T;have G_AA:=@NA P w _ _ base _ T;refine T.F_AB.F.okD ny (λds Q h=>?_) (λ_ _ _ _ H O ds Q E hr h=>?_)
 ·obtain⟨ns,rfl,_⟩:=h;rfl
 ·obtain⟨ns,rfl,hl,hb,q⟩:=h;refine'⟨_,?A,?B⟩
  case A=>
   refine' ai ?C ?D
   case C=>
    generalize hG2:Qs _ _=eg2;refine' Hv QA rfl ?E ?F j6 ?G (hs:=by subst hG2;intro _;rfl)
    case E=>
     subst hG2;refine' fe ?H
     case' H=>refine' bB ?I
     case' I=>refine' aa ?J ?K
     case J=>exact((ku))
     case' K=>refine' aa ?L ?M
     case L=>exact((ae))
     case' M=>refine' aa ?N ?O
     case N=>exact((lU))
     case' O=>refine' aa ?P ?Q
     case P=>exact(((cM ah)))
     case' Q=>refine' aa ?R ?S
     case R=>exact(((fe (bB ah))))
     case' S=>refine' aa ?T ?U
     case T=>exact((IB))
     case' U=>refine' aa ?V ?W
     case V=>exact(((fe (bB (aa aF ah)))))
     case' W=>refine' aa ?X ?Y
     case X=>exact(((cM (mY (ds:=[.str "end",.int 0,.str "a"]) (by rfl)))))
     case' Y=>refine' aa ?Z ?a
     case Z=>exact(((fe (bB (aa (fe (bB ah)) ah)))))
     case' a=>refine' aa ?b ah
     case b=>exact((aF))
    case F=>exact(jU (i:=1) ny.nd rfl UG)
    case' G=>refine' ar ?c
    case' c=>refine' aL ?d ?e aK
    case d=>exact(kr (cy (au G_AA hr T.F_AA (aa (dv 1) (aa ku ah)))))
    case e=>refine' ar (aA lU)
   case' D=>refine' ai ?f ?g
   case f=>
    refine' vY QA rfl rfl T.n_range (aa (PE.imp (aT (FX rfl) rfl T.n_max Ux (aw ae (aw (PE.imp (aT (vB rfl) rfl T.n_min RK (aw (PE.imp (aT jZ rfl T.n_len Og (aw (dv 0) az)) (aE HA)) (aw ae az))) (aE tH)) az))) (aE tH)) ah) ?h j6 ?i
    case h=>exact(jU (i:=2) ny.nd rfl UG)
    case' i=>refine' ai ?j ?k
    case j=>exact(aJ (i:=3) ny.nd rfl UG (au G_h hr T.F_h (aa (dv 0) (aa (dv 2) ah))))
    case' k=>refine' ai ?l ?m
    case l=>exact(aJ (i:=4) ny.nd rfl UG (au G_j hr T.F_j (aa (dv 3) (aa ae ah))))
    case' m=>refine' ai ?n ?o
    case n=>exact(aJ (i:=5) ny.nd rfl UG (au G_q hr T.F_q (aa (au G_p hr T.F_p (aa (dv 3) (aa (dv 4) ah))) ah)))
    case' o=>refine' ar ?p
    case' p=>refine' vY QA rfl rfl T.n_range (aa ae ah) ?q j6 ?r
    case q=>exact(jU (i:=6) ny.nd rfl UG)
    case' r=>refine' ai ?s ?t
    case s=>exact(aJ (i:=7) ny.nd rfl UG (dv 5))
    case' t=>refine' ai ?u ?v
    case u=>
     refine' vY QA rfl rfl T.n_range (aa (au G_i hr T.F_i (aa (dv 3) (aa ae ah))) ah) ?w j6 ?x
     case w=>exact(jU (i:=8) ny.nd rfl UG)
     case' x=>refine' ar ?y
     case y=>exact(aJ (i:=7) ny.nd rfl UG (au G_z hr T.F_z (aa (dv 3) (aa (dv 7) (aa (dv 4) ah)))))
    case' v=>refine' ar ?z
    case' z=>refine' aL ?A0 ?A1 aK
    case A0=>exact(kr (cy (au G_AA hr T.F_AA (aa (dv 7) (aa (au G_x hr T.F_x (aa (dv 7) ah)) ah)))))
    case A1=>refine' ar (aA lU)
   case g=>refine' ar (aA lU)
  case B=>
  clear G_h G_i G_j G_p G_q G_z G_x G_AA hr T;walk_at "a";refine⟨λ_ δ=>∃o:Option Sl,δ=[some (Sl.v (ma (ns.map .int))),o,none,none,none,none,none,none,none],⟨_,rfl⟩,?_,?_⟩
  ·rintro j x δ hx ⟨o,rfl⟩;have hx:=PL hx;have hh:(∀y,x≠ .dict [(.none,y)])/\∀z,x= .str z->z=NG "":=by
    simp only [NO,NZ,or_false] at hx;rcases hx with rfl | rfl | rfl | rfl | rfl | rfl | rfl | rfl | rfl | rfl <;> exact⟨(λy e=>by cases e),λz e=>by first | (cases e;done) | (injection e with e;exact e.symm)⟩
   simp only [qT,true_and,↓iU,↓i6,↓i8,↓i9,↓ja,↓jb,↓jd,↓iV,↓eZ,↓iu,↓jG,↓jH,↓jI,↓jJ,↓jK,↓jL,↓iw,↓ix,↓iy,↓iz,↓iA,↓iB,↓iC,↓iD,↓iE,↓iF,↓iG,↓iH,↓iI,↓iJ,↓iK,↓iL,↓iM,↓iN,↓iO,↓iP,↓iQ,↓iR,↓iS,↓iT,cf,cz,cg,cV,fA,fB,cU,cW,cX,di,dj,fJ,cK,dC,bw,dI,dA,dB,dD,fO,dE,bX,dW,dU,dG,dF,dL,cC,cL,fx,cx,cq,bI,cO,cP,cQ,cR,fy,cS,cT,cu,cw,fz,gu,gx,gy,gz,gA,gB,gC,gD,gE,gF,gG,gH,gI,gJ,gK,gL,gM,gN,gO,gP,gQ,gR,gS,gT,gU,gW,gX,gY,gZ,g6,g9,hG,hJ,hV,hW,hX,hZ,ic,ie,ig,ij,ik,il,eR,dN,fN,dX,cH,fQ,d6,dH,dJ,dO,dP,dQ,dR,dS,cF,dY,dZ,d3,bS,fK,fL,fM,fC,fD,fE,fF,dm,fG,dn,fH,eM,eQ,gn,gp,gr,gm,gs,eF,eG,eJ,eL,bY,eO,eN,er,eD,eT,eV,eX,eY,b0,ip,iq,iX,iW,iY,iZ,i3,i4,i5,ff,fg,jh,jf,jg,je,jm,ji,jj,jk,jl,cI,fh,jr,jt,jn,jo,jq,ju,jv,jw,fj,jx,jy,jA,jB,fk,jC,jD,jE,jz,jF,fq,ft,fu,fv,jM,jN,jO,bL,fY,fZ,gb,gc,gf,gh,gi,gj,gk,ne_eq,bZ,fU,fV,fW,fX,fR,fS,fT,cD,cE,dz,cY,dh,c7,cZ,bR,bQ,bg,bV,cn,bW,NN,Of,NJ,N8,NP,N6,N9,NY,OE,OF,ON,OO,OP,NU,NR,Oc,N4,N5,Oa,exists_eq_left',exists_eq_left,exists_and_left,exists_and_right,Oi,Oj,Sl.v.injEq,Sl.o.injEq,Sl.k.injEq,Oq,Ol,Ov,Oe,Om,NQ,and_true,true_and,OQ,Ow,exists_const,decide_eq_true_eq,OR,OS,OH,OI,N1,decide_eq_false_iff_not,and_assoc,or_true,true_or,↓reduceIte,if_true,if_false,N2,Ob,not_true_eq_false,not_false_eq_true,OK,OA,ite_true,ite_false,eq_self,exists_eq,reduceCtorEq,false_and,and_false,or_false,false_or,exists_false,Ox,Oy,cb,OG,OT,OD,OU,N3,OC,Od,OM,aV,bz,bU,cG,d7,bo,eg,ei,beq_self_eq_true,d8,d9,fP,bu,UY];refine⟨hh.1,λz e=>?_,.inr λe he z=>NB he (hh.2 _ z),?_⟩
   ·rw [hh.2 z e];exact⟨td,td⟩
   ·exact⟨_,rfl⟩
  ·rintro δ ⟨o,rfl⟩;simp only [qT,true_and,↓iU,↓i6,↓i8,↓i9,↓ja,↓jb,↓jd,↓iV,↓eZ,↓iu,↓jG,↓jH,↓jI,↓jJ,↓jK,↓jL,↓iw,↓ix,↓iy,↓iz,↓iA,↓iB,↓iC,↓iD,↓iE,↓iF,↓iG,↓iH,↓iI,↓iJ,↓iK,↓iL,↓iM,↓iN,↓iO,↓iP,↓iQ,↓iR,↓iS,↓iT,cf,cz,cg,cV,fA,fB,cU,cW,cX,di,dj,fJ,cK,dC,bw,dI,dA,dB,dD,fO,dE,bX,dW,dU,dG,dF,dL,cC,cL,fx,cx,cq,bI,cO,cP,cQ,cR,fy,cS,cT,cu,cw,fz,gu,gx,gy,gz,gA,gB,gC,gD,gE,gF,gG,gH,gI,gJ,gK,gL,gM,gN,gO,gP,gQ,gR,gS,gT,gU,gW,gX,gY,gZ,g6,g9,hG,hJ,hV,hW,hX,hZ,ic,ie,ig,ij,ik,il,eR,dN,fN,dX,cH,fQ,d6,dH,dJ,dO,dP,dQ,dR,dS,cF,dY,dZ,d3,bS,fK,fL,fM,fC,fD,fE,fF,dm,fG,dn,fH,eM,eQ,gn,gp,gr,gm,gs,eF,eG,eJ,eL,bY,eO,eN,er,eD,eT,eV,eX,eY,b0,ip,iq,iX,iW,iY,iZ,i3,i4,i5,ff,fg,jh,jf,jg,je,jm,ji,jj,jk,jl,cI,fh,jr,jt,jn,jo,jq,ju,jv,jw,fj,jx,jy,jA,jB,fk,jC,jD,jE,jz,jF,fq,ft,fu,fv,jM,jN,jO,bL,fY,fZ,gb,gc,gf,gh,gi,gj,gk,ne_eq,bZ,fU,fV,fW,fX,fR,fS,fT,cD,cE,dz,cY,dh,c7,cZ,bR,bQ,bg,bV,cn,bW,NN,Of,NJ,N8,NP,N6,N9,NY,OE,OF,ON,OO,OP,NU,NR,Oc,N4,N5,Oa,exists_eq_left',exists_eq_left,exists_and_left,exists_and_right,Oi,Oj,Sl.v.injEq,Sl.o.injEq,Sl.k.injEq,Oq,Ol,Ov,Oe,Om,NQ,and_true,true_and,OQ,Ow,exists_const,decide_eq_true_eq,OR,OS,OH,OI,N1,decide_eq_false_iff_not,and_assoc,or_true,true_or,↓reduceIte,if_true,if_false,N2,Ob,not_true_eq_false,not_false_eq_true,OK,OA,ite_true,ite_false,eq_self,exists_eq,reduceCtorEq,false_and,and_false,or_false,false_or,exists_false,Ox,Oy,cb,OG,OT,OD,OU,N3,OC,Od,OM,aV,bz,bU,cG,d7,bo,eg,ei,beq_self_eq_true,d8,d9,fP,bu,UY];refine⟨_,rfl,?_⟩;generalize hm:(if (if (14:Int) < ((Pd NX ns).length:Int) then 14 else((Pd NX ns).length:Int)) > 1 then if (14:Int) < ((Pd NX ns).length:Int) then 14 else((Pd NX ns).length:Int) else 1)=m
   have m16:m<=14:=by
    rw [<-hm]
    repeat' split
    all_goals omega
   have m1:1<=m:=by
    rw [<-hm]
    repeat' split
    all_goals omega
   clear hm;refine⟨UC,UC,?_⟩;refine⟨λi δ=>∃(o1 o2 o3 o4 o5 o6 o7 o8:Option Sl),δ=[some (Sl.v (ma (ns.map .int))),o1,o2,o3,o4,o5,o6,o7,o8],⟨_,_,_,_,_,_,_,_,rfl⟩,?_,?_⟩
   ·rintro i z δ hz ⟨o1,o2,o3,o4,o5,o6,o7,o8,rfl⟩;obtain⟨hi,rfl⟩:=tL hz;clear hz;simp only [qT,true_and,↓iU,↓i6,↓i8,↓i9,↓ja,↓jb,↓jd,↓iV,↓eZ,↓iu,↓jG,↓jH,↓jI,↓jJ,↓jK,↓jL,↓iw,↓ix,↓iy,↓iz,↓iA,↓iB,↓iC,↓iD,↓iE,↓iF,↓iG,↓iH,↓iI,↓iJ,↓iK,↓iL,↓iM,↓iN,↓iO,↓iP,↓iQ,↓iR,↓iS,↓iT,cf,cz,cg,cV,fA,fB,cU,cW,cX,di,dj,fJ,cK,dC,bw,dI,dA,dB,dD,fO,dE,bX,dW,dU,dG,dF,dL,cC,cL,fx,cx,cq,bI,cO,cP,cQ,cR,fy,cS,cT,cu,cw,fz,gu,gx,gy,gz,gA,gB,gC,gD,gE,gF,gG,gH,gI,gJ,gK,gL,gM,gN,gO,gP,gQ,gR,gS,gT,gU,gW,gX,gY,gZ,g6,g9,hG,hJ,hV,hW,hX,hZ,ic,ie,ig,ij,ik,il,eR,dN,fN,dX,cH,fQ,d6,dH,dJ,dO,dP,dQ,dR,dS,cF,dY,dZ,d3,bS,fK,fL,fM,fC,fD,fE,fF,dm,fG,dn,fH,eM,eQ,gn,gp,gr,gm,gs,eF,eG,eJ,eL,bY,eO,eN,er,eD,eT,eV,eX,eY,b0,ip,iq,iX,iW,iY,iZ,i3,i4,i5,ff,fg,jh,jf,jg,je,jm,ji,jj,jk,jl,cI,fh,jr,jt,jn,jo,jq,ju,jv,jw,fj,jx,jy,jA,jB,fk,jC,jD,jE,jz,jF,fq,ft,fu,fv,jM,jN,jO,bL,fY,fZ,gb,gc,gf,gh,gi,gj,gk,ne_eq,bZ,fU,fV,fW,fX,fR,fS,fT,cD,cE,dz,cY,dh,c7,cZ,bR,bQ,bg,bV,cn,bW,NN,Of,NJ,N8,NP,N6,N9,NY,OE,OF,ON,OO,OP,NU,NR,Oc,N4,N5,Oa,exists_eq_left',exists_eq_left,exists_and_left,exists_and_right,Oi,Oj,Sl.v.injEq,Sl.o.injEq,Sl.k.injEq,Oq,Ol,Ov,Oe,Om,NQ,and_true,true_and,OQ,Ow,exists_const,decide_eq_true_eq,OR,OS,OH,OI,N1,decide_eq_false_iff_not,and_assoc,or_true,true_or,↓reduceIte,if_true,if_false,N2,Ob,not_true_eq_false,not_false_eq_true,OK,OA,ite_true,ite_false,eq_self,exists_eq,reduceCtorEq,false_and,and_false,or_false,false_or,exists_false,Ox,Oy,cb,OG,OT,OD,OU,N3,OC,Od,OM,aV,bz,bU,cG,d7,bo,eg,ei,beq_self_eq_true,d8,d9,fP,bu,UY];refine⟨ns,_,rfl,hb,UC,UC,rfl,λnms hN=>?_⟩
    obtain⟨a,b,c,d,e,rfl⟩:∃a b c d e,nms=[a,b,c,d,e]:=by
     match nms,hN.len with
     | [a,b,c,d,e],_=>exact⟨_,_,_,_,_,rfl⟩
    refine⟨a,b,c,d,e,rfl,hN.nm,hN.nd,λp hp=>⟨p,rfl,hp,?_⟩⟩;have tk:=Mg hp;dsimp only;refine⟨λj δ=>∃(o6 o7 o8:Option Sl),δ=[some (Sl.v (ma (ns.map .int))),o1,some (Sl.v (NX (0+(i:Int)))),some (Sl.v lT),some (Sl.v (O7 (Pd NI [a,b,c,d,e]))),some (Sl.v (NI (jT p))),o6,o7,o8],⟨_,_,_,rfl⟩,?_,?_⟩
    ·rintro j z δ hz ⟨o6,o7,o8,rfl⟩;obtain⟨hj,rfl⟩:=tL hz;clear hz;simp only [qT,bL,true_and,↓iU,↓i6,↓i8,↓i9,↓ja,↓jb,↓jd,↓iV,↓eZ,↓iu,↓jG,↓jH,↓jI,↓jJ,↓jK,↓jL,↓iw,↓ix,↓iy,↓iz,↓iA,↓iB,↓iC,↓iD,↓iE,↓iF,↓iG,↓iH,↓iI,↓iJ,↓iK,↓iL,↓iM,↓iN,↓iO,↓iP,↓iQ,↓iR,↓iS,↓iT,cf,cz,cg,cV,fA,fB,cU,cW,cX,di,dj,fJ,cK,dC,bw,dI,dA,dB,dD,fO,dE,bX,dW,dU,dG,dF,dL,cC,cL,fx,cx,cq,bI,cO,cP,cQ,cR,fy,cS,cT,cu,cw,fz,gu,gx,gy,gz,gA,gB,gC,gD,gE,gF,gG,gH,gI,gJ,gK,gL,gM,gN,gO,gP,gQ,gR,gS,gT,gU,gW,gX,gY,gZ,g6,g9,hG,hJ,hV,hW,hX,hZ,ic,ie,ig,ij,ik,il,eR,dN,fN,dX,cH,fQ,d6,dH,dJ,dO,dP,dQ,dR,dS,cF,dY,dZ,d3,bS,fK,fL,fM,fC,fD,fE,fF,dm,fG,dn,fH,eM,eQ,gn,gp,gr,gm,gs,eF,eG,eJ,eL,bY,eO,eN,er,eD,eT,eV,eX,eY,b0,ip,iq,iX,iW,iY,iZ,i3,i4,i5,ff,fg,jh,jf,jg,je,jm,ji,jj,jk,jl,cI,fh,jr,jt,jn,jo,jq,ju,jv,jw,fj,jx,jy,jA,jB,fk,jC,jD,jE,jz,jF,fq,ft,fu,fv,jM,jN,jO,bL,fY,fZ,gb,gc,gf,gh,gi,gj,gk,ne_eq,bZ,fU,fV,fW,fX,fR,fS,fT,cD,cE,dz,cY,dh,c7,cZ,bR,bQ,bg,bV,cn,bW,NN,Of,NJ,N8,NP,N6,N9,NY,OE,OF,ON,OO,OP,NU,NR,Oc,N4,N5,Oa,exists_eq_left',exists_eq_left,exists_and_left,exists_and_right,Oi,Oj,Sl.v.injEq,Sl.o.injEq,Sl.k.injEq,Oq,Ol,Ov,Oe,Om,NQ,and_true,true_and,OQ,Ow,exists_const,decide_eq_true_eq,OR,OS,OH,OI,N1,decide_eq_false_iff_not,and_assoc,or_true,true_or,↓reduceIte,if_true,if_false,N2,Ob,not_true_eq_false,not_false_eq_true,OK,OA,ite_true,ite_false,eq_self,exists_eq,reduceCtorEq,false_and,and_false,or_false,false_or,exists_false,Ox,Oy,cb,OG,OT,OD,OU,N3,OC,Od,OM,aV,bz,bU,cG,d7,bo,eg,ei,beq_self_eq_true,d8,d9,fP,bu,UY];intro g g0 g1;refine⟨UC,UC,?_⟩
     refine⟨λh δ=>∃(z:Str)(o8:Option Sl),Sm (if h=0 then 200 else if h=1 then 420 else 860) z/\δ=[some (Sl.v (ma (ns.map .int))),o1,some (Sl.v (NX (0+(i:Int)))),some (Sl.v lT),some (Sl.v (O7 (Pd NI [a,b,c,d,e]))),some (Sl.v (NI (jT p))),some (Sl.v (NX (0+(j:Int)))),some (Sl.v (NI z)),o8],⟨jT p,_,⟨tk.2,tk.1⟩,rfl⟩,?_,?_⟩
     ·rintro h z δ hz ⟨z,o8,hs,rfl⟩;obtain⟨hh,rfl⟩:=tL hz;clear hz;simp only [qT,bL,true_and,↓iU,↓i6,↓i8,↓i9,↓ja,↓jb,↓jd,↓iV,↓eZ,↓iu,↓jG,↓jH,↓jI,↓jJ,↓jK,↓jL,↓iw,↓ix,↓iy,↓iz,↓iA,↓iB,↓iC,↓iD,↓iE,↓iF,↓iG,↓iH,↓iI,↓iJ,↓iK,↓iL,↓iM,↓iN,↓iO,↓iP,↓iQ,↓iR,↓iS,↓iT,cf,cz,cg,cV,fA,fB,cU,cW,cX,di,dj,fJ,cK,dC,bw,dI,dA,dB,dD,fO,dE,bX,dW,dU,dG,dF,dL,cC,cL,fx,cx,cq,bI,cO,cP,cQ,cR,fy,cS,cT,cu,cw,fz,gu,gx,gy,gz,gA,gB,gC,gD,gE,gF,gG,gH,gI,gJ,gK,gL,gM,gN,gO,gP,gQ,gR,gS,gT,gU,gW,gX,gY,gZ,g6,g9,hG,hJ,hV,hW,hX,hZ,ic,ie,ig,ij,ik,il,eR,dN,fN,dX,cH,fQ,d6,dH,dJ,dO,dP,dQ,dR,dS,cF,dY,dZ,d3,bS,fK,fL,fM,fC,fD,fE,fF,dm,fG,dn,fH,eM,eQ,gn,gp,gr,gm,gs,eF,eG,eJ,eL,bY,eO,eN,er,eD,eT,eV,eX,eY,b0,ip,iq,iX,iW,iY,iZ,i3,i4,i5,ff,fg,jh,jf,jg,je,jm,ji,jj,jk,jl,cI,fh,jr,jt,jn,jo,jq,ju,jv,jw,fj,jx,jy,jA,jB,fk,jC,jD,jE,jz,jF,fq,ft,fu,fv,jM,jN,jO,bL,fY,fZ,gb,gc,gf,gh,gi,gj,gk,ne_eq,bZ,fU,fV,fW,fX,fR,fS,fT,cD,cE,dz,cY,dh,c7,cZ,bR,bQ,bg,bV,cn,bW,NN,Of,NJ,N8,NP,N6,N9,NY,OE,OF,ON,OO,OP,NU,NR,Oc,N4,N5,Oa,exists_eq_left',exists_eq_left,exists_and_left,exists_and_right,Oi,Oj,Sl.v.injEq,Sl.o.injEq,Sl.k.injEq,Oq,Ol,Ov,Oe,Om,NQ,and_true,true_and,OQ,Ow,exists_const,decide_eq_true_eq,OR,OS,OH,OI,N1,decide_eq_false_iff_not,and_assoc,or_true,true_or,↓reduceIte,if_true,if_false,N2,Ob,not_true_eq_false,not_false_eq_true,OK,OA,ite_true,ite_false,eq_self,exists_eq,reduceCtorEq,false_and,and_false,or_false,false_or,exists_false,Ox,Oy,cb,OG,OT,OD,OU,N3,OC,Od,OM,aV,bz,bU,cG,d7,bo,eg,ei,beq_self_eq_true,d8,d9,fP,bu,UY];have hlt:h < 2:=UC
      have zl:z.length<=if h=0 then 200 else if h=1 then 420 else 860:=hs.1
      refine⟨a,b,c,d,e,z,rfl,hN.nm,⟨OB zl (by(repeat' split) <;> omega),hs.2⟩,λz' hz'=>⟨z',⟨OB hz'.1 ?_,hz'.2⟩,rfl,_,rfl⟩⟩;rcases(show h=0\/h=1 by omega) with rfl | rfl
      ·rw [UE rfl] at zl⊢;omega
      ·rw [UD Ce,UE rfl] at zl;rw [UD Ce];omega
     ·rintro δ ⟨z,o8,hs,rfl⟩;simp only [qT,bL,true_and,↓iU,↓i6,↓i8,↓i9,↓ja,↓jb,↓jd,↓iV,↓eZ,↓iu,↓jG,↓jH,↓jI,↓jJ,↓jK,↓jL,↓iw,↓ix,↓iy,↓iz,↓iA,↓iB,↓iC,↓iD,↓iE,↓iF,↓iG,↓iH,↓iI,↓iJ,↓iK,↓iL,↓iM,↓iN,↓iO,↓iP,↓iQ,↓iR,↓iS,↓iT,cf,cz,cg,cV,fA,fB,cU,cW,cX,di,dj,fJ,cK,dC,bw,dI,dA,dB,dD,fO,dE,bX,dW,dU,dG,dF,dL,cC,cL,fx,cx,cq,bI,cO,cP,cQ,cR,fy,cS,cT,cu,cw,fz,gu,gx,gy,gz,gA,gB,gC,gD,gE,gF,gG,gH,gI,gJ,gK,gL,gM,gN,gO,gP,gQ,gR,gS,gT,gU,gW,gX,gY,gZ,g6,g9,hG,hJ,hV,hW,hX,hZ,ic,ie,ig,ij,ik,il,eR,dN,fN,dX,cH,fQ,d6,dH,dJ,dO,dP,dQ,dR,dS,cF,dY,dZ,d3,bS,fK,fL,fM,fC,fD,fE,fF,dm,fG,dn,fH,eM,eQ,gn,gp,gr,gm,gs,eF,eG,eJ,eL,bY,eO,eN,er,eD,eT,eV,eX,eY,b0,ip,iq,iX,iW,iY,iZ,i3,i4,i5,ff,fg,jh,jf,jg,je,jm,ji,jj,jk,jl,cI,fh,jr,jt,jn,jo,jq,ju,jv,jw,fj,jx,jy,jA,jB,fk,jC,jD,jE,jz,jF,fq,ft,fu,fv,jM,jN,jO,bL,fY,fZ,gb,gc,gf,gh,gi,gj,gk,ne_eq,bZ,fU,fV,fW,fX,fR,fS,fT,cD,cE,dz,cY,dh,c7,cZ,bR,bQ,bg,bV,cn,bW,NN,Of,NJ,N8,NP,N6,N9,NY,OE,OF,ON,OO,OP,NU,NR,Oc,N4,N5,Oa,exists_eq_left',exists_eq_left,exists_and_left,exists_and_right,Oi,Oj,Sl.v.injEq,Sl.o.injEq,Sl.k.injEq,Oq,Ol,Ov,Oe,Om,NQ,and_true,true_and,OQ,Ow,exists_const,decide_eq_true_eq,OR,OS,OH,OI,N1,decide_eq_false_iff_not,and_assoc,or_true,true_or,↓reduceIte,if_true,if_false,N2,Ob,not_true_eq_false,not_false_eq_true,OK,OA,ite_true,ite_false,eq_self,exists_eq,reduceCtorEq,false_and,and_false,or_false,false_or,exists_false,Ox,Oy,cb,OG,OT,OD,OU,N3,OC,Od,OM,aV,bz,bU,cG,d7,bo,eg,ei,beq_self_eq_true,d8,d9,fP,bu,UY];have zk:nF z:=⟨OB hs.1 (by(repeat' split) <;> omega),hs.2⟩
      refine⟨z,rfl,zk,λd hd e=>⟨λ_=>trivial,λ_ e=>e▸zk,.inl ⟨hd,e.symm⟩,_,rfl⟩,λh=>⟨λ_=>trivial,λ_ e=>e▸zk,.inr ⟨λe he ee=>h e he ee.symm,rfl⟩,_,rfl⟩⟩
    ·rintro δ ⟨o6,o7,o8,rfl⟩;exact⟨_,_,_,_,_,_,_,_,rfl⟩
   ·rintro δ ⟨o1,o2,o3,o4,o5,o6,o7,o8,rfl⟩;walk_at "a";exact q
end
end K59
namespace PySem.W.Fast
def tw3132585385580641912:=0
def tw18397195616395592277:=0
def tw11413793026773207130:=0
def tw11407412203800939461:=0
def tw6231538171434911152:=0
def tw15760580259674871604:=0
def tw18222251929512714789:=0
def tw4760230002746947695:=0
def tw6839058596277589050:=0
def tw13595889489903322150:=0
def tw5483835588717767134:=0
def tw17870937370931657692:=0
def tw12173360375265819485:=0
def tw4749296611325222482:=0
def tw14358472040532331961:=0
def tw1427443808059776148:=0
def tw17537727761285899490:=0
def tw12022976899482221619:=0
def tw1582023832425862023:=0
def tw12517878479764120275:=0
def tw11113340202389427686:=0
def tw176994148925500150:=0
def tw5504813902750577095:=0
def tw2515886138535527816:=0
def tw17875300470132385219:=0
def tw4633995675660840968:=0
def tw6932849717442883541:=0
def tw15724606544881566435:=0
def tw16529440211409823634:=0
def tw12945182970745170326:=0
def tw16773538031195246453:=0
def tw14797194620498750602:=0
def tw2639231962559838635:=0
def tw12429984907312691406:=0
def tw2403732155322708975:=0
def tw12401279169579584971:=0
def tw15492645584137720280:=0
def tw6504168614685648073:=0
def tw5597030724714664565:=0
def tw6093911464946715152:=0
def tw16457838108221559335:=0
def tw14009125251407523660:=0
def tw3565109855828173992:=0
def tw665976066181153884:=0
def tw15772283372383742057:=0
def tw6636300456465072559:=0
def tw8811078544382048376:=0
def tw1297634122712235001:=0
def tw2529781967893626657:=0
def tw3098711456304730873:=0
def tw9607698539674842056:=0
def tw18253790004108104598:=0
def tw6847328599618633474:=0
def tw14018140068277145312:=0
def tw4157890501072713095:=0
def tw15563867351269237534:=0
def tw3195598095334291435:=0
def tw4616970282889496257:=0
def tw8098649784335593447:=0
def tw4403368052504379110:=0
def tw16905729303416034999:=0
def tw4278314039399587092:=0
def tw15906899600707159982:=0
def tw7703038670280477702:=0
def tw7588247020984178393:=0
def tw8077356860262269562:=0
def tw15190376227654917054:=0
def tw4147340736661314565:=0
def tw14258178655349681804:=0
def tw17283525024982428553:=0
def tw10600389985886143466:=0
def tw16477659905800693715:=0
def tw1214244344218078108:=0
def tw10309402979646902229:=0
def tw1592090644816242956:=0
def tw6145812272311896978:=0
def tw13346488002369725613:=0
def tw6071745201907012303:=0
def tw12249367248612028040:=0
def tw9973469978111566762:=0
def tw1359304433279282856:=0
def tw17285169520867417762:=0
def tw3380902531840257728:=0
def tw15436068055515546177:=0
def tw1868884174801260695:=0
def tw11837471234653090248:=0
def tw10110706300701067851:=0
def tw16199538266500413125:=0
def tw15021430724603147291:=0
def tw14779409204540936377:=0
def tw11606242584830130630:=0
def tw15131830558137200824:=0
def tw12617982395083185602:=0
def tw5390459155709855463:=0
def tw2604144659109749717:=0
def tw14696261480905357136:=0
def tw1042783220161865684:=0
def tw8058141374601753946:=0
def tw604527526444907287:=0
def tw8153637928350472680:=0
def tw12146264499514110643:=0
def tw18395850772520174167:=0
def tw12085642484801538126:=0
def tw3401316245059217725:=0
def tw9717263480826217810:=0
def tw15939400999693958902:=0
def tw1221069496589637710:=0
def tw3202340732262363598:=0
def tw6543099327225072263:=0
def tw1862047294031592574:=0
def tw5555389200964165326:=0
def tw6787233831008925109:=0
def tw17357072328498246089:=0
def tw4729056588730105315:=0
def tw10070970117008898092:=0
def tw13626656996612916224:=0
def tw12865806481235751531:=0
def tw577317958087515769:=0
def tw5594889167760884332:=0
def tw9836770703899368312:=0
def tw371170834105211489:=0
def tw11917223617324808466:=0
def tw5362480558547423315:=0
def tw11627160049441056933:=0
def tw17998133481754187412:=0
def tw7722176164209916347:=0
def tw11390625400714366038:=0
def tw2207640432287459161:=0
def tw8632454557495234656:=0
def tw9226243920767125146:=0
def tw14774536124727961152:=0
def tw17982279040926357605:=0
def tw15326957084619585100:=0
def tw14361916973707175298:=0
def tw16716256355089454043:=0
def tw16653012802024480214:=0
def tw11913017862931401973:=0
def tw15993335626212184227:=0
def tw15423352005363804276:=0
def tw1497518476611160800:=0
def tw10118082660765388704:=0
def tw5387212247425924801:=0
def tw8647401814891228215:=0
def tw8450247643484000812:=0
def tw2837918012894841325:=0
def tw15926949864964211786:=0
def tw4247677968417387065:=0
def tw11102067518496510098:=0
def tw7879625870155191314:=0
def tw14897208752176574899:=0
def tw188130470751656204:=0
def tw13300459512076980383:=0
def tw1790396106286904345:=0
def tw17755535624198042709:=0
def tw1755780206381167342:=0
def tw12255298124215906545:=0
def tw946380924729752618:=0
def tw2858643225771072754:=0
def tw9674826894056934711:=0
def tw2162485532276059432:=0
def tw3912852761761013686:=0
def tw8940181959869871456:=0
def tw725289438567781497:=0
def tw14175104605690711094:=0
def tw15209953965622746013:=0
def tw2648693819229133829:=0
def tw14895486962435925024:=0
def tw2126114229384116314:=0
def tw11336123113709541486:=0
def tw8063677562470756494:=0
def tw12234161993642506025:=0
def tw6470163578239373831:=0
def tw7303142303244861096:=0
def tw1594261692089114854:=0
def tw13295602449680310179:=0
def tw8674292478946184230:=0
def tw6310833076875097697:=0
def tw3562655486201173480:=0
def tw17225801560572670143:=0
def tw17066799121171119938:=0
def tw12013869220561794758:=0
def tw18092807759549927997:=0
def tw11272817597547499546:=0
def tw6919747381580912677:=0
def tw11207871596021351307:=0
def tw8956334977333125310:=0
def tw15376784956646038209:=0
def tw5803532547704278477:=0
def tw17788344646409065573:=0
def tw1009954870348154270:=0
def tw2726596061073955347:=0
def tw2003438986875603991:=0
def tw5993742982750205135:=0
def tw16999364140274101582:=0
def tw1154127146064584913:=0
def tw783585932572031484:=0
def tw2863122860570981261:=0
def tw15040335101431952467:=0
def tw1984740119741872712:=0
def tw10879092938110430909:=0
def tw1106472442777072956:=0
def tw1997089811568432332:=0
def tw5961541286335447568:=0
def tw12271809387414890821:=0
def tw10567592457330617854:=0
def tw365681888626890452:=0
def tw4891469206561729568:=0
def tw13363454138996141935:=0
def tw16048907357627288969:=0
def tw1672277711922890545:=0
def tw6205277993181302351:=0
def tw11935851054645057425:=0
def tw7751869527023618404:=0
def tw14453644861252052649:=0
def tw17739817674172985721:=0
def tw13071073404918472118:=0
def tw425891516004587527:=0
def tw13569375697988992532:=0
def tw12783991764988539634:=0
def tw16017790774737777584:=0
def tw18435540811610529314:=0
def tw17448333521489034894:=0
def tw14204014286361520388:=0
def tw11217112598714515343:=0
def tw7379117611742622434:=0
def tw2718464658812631603:=0
def tw1999380196952964894:=0
def tw15560403125224234201:=0
def tw6806532425805445313:=0
def tw7995506865236738077:=0
def tw6957931779728443567:=0
def tw910428627102101002:=0
def tw2303471190913547151:=0
def tw11720545200610092597:=0
def tw8865583551120888335:=0
def tw4690948985349207950:=0
def tw10845951049492631716:=0
def tw13619551343159818904:=0
def tw5867223190229829643:=0
def tw15748260528123676768:=0
def tw15112703548582241717:=0
def tw13997880131377079730:=0
def tw11969924470641528264:=0
def tw779962512176156798:=0
def tw6119459632908948564:=0
def tw10293209378719402933:=0
def tw4141881677777188896:=0
def tw16451439216678868824:=0
def tw9689563743537770424:=0
def tw8450863199251512733:=0
def tw5868969889386763817:=0
def tw5620039801837291462:=0
def tw384978400443458616:=0
def tw17759132305344411165:=0
def tw1753506726204218026:=0
def tw15395823680339472803:=0
def tw11946252257977043597:=0
def tw15490489149873291419:=0
def tw13308644982333155561:=0
def tw6528876202070078536:=0
def tw3094041374086349891:=0
def tw16695745612550857812:=0
def tw15012749855003603008:=0
def tw14151432130116857118:=0
def tw2596262474731200907:=0
def tw2673909755136865117:=0
def tw12637981676565974668:=0
def tw3401607247031430281:=0
def tw5591888676799056498:=0
def tw486788690071301220:=0
def tw17094278137607394129:=0
def tw15293004394996012821:=0
def tw11760707853267662142:=0
def tw10154924513554196863:=0
def tw5269925016661955920:=0
def tw5231707533106217744:=0
def tw3780726787424594873:=0
def tw14976204576982899875:=0
def tw10722572259287202939:=0
def tw14140626049364032002:=0
def tw10363557626460092969:=0
def tw9469588303873390520:=0
def tw7915665970123988234:=0
def tw7518127891443506893:=0
def tw6467886991038444957:=0
def tw11664994359500951042:=0
def tw1252594719103779746:=0
def tw8060614628724302993:=0
def tw8839369354840898842:=0
def tw5081550270417601496:=0
def tw14077246962026661443:=0
def tw15730427586072973348:=0
def tw16099008331703383732:=0
def tw16722899521472586244:=0
def tw15700116567595654513:=0
def tw15236766152894069814:=0
def tw15234379307336237426:=0
def tw5735841594058926877:=0
def tw17084549727974920676:=0
def tw16089639827141104300:=0
def tw8672596747904029718:=0
def tw9181564882215516865:=0
def tw8272358718187351803:=0
def tw12790239366717964070:=0
def tw17583131975721352581:=0
def tw1587729655059852010:=0
def tw892104925168353549:=0
def tw10639279406781423959:=0
def tw4928348367006197777:=0
def tw390948481052843423:=0
def tw17170499293609957054:=0
def tw1950178359079177945:=0
def tw7668305063265306661:=0
def tw13520605925199188444:=0
def tw4588782656267186263:=0
def tw2502868099472002622:=0
def tw16455185678995301715:=0
def tw16210751381540249607:=0
def tw7792089078025979640:=0
def tw4268377072196130799:=0
def tw334799730278062208:=0
def tw2322605138498304877:=0
def tw18200030970604053853:=0
def tw18102490255399235559:=0
def tw16662558244631587437:=0
def tw16636984298508792374:=0
def tw16424537337481604574:=0
def tw15400715938775084499:=0
def tw15234071916506469829:=0
def tw12843716271478581952:=0
def tw2063762088858707591:=0
def tw1608378097390844309:=0
def tw8891565600645370544:=0
def tw4884485109936645275:=0
def tw3530055913167161332:=0
def tw14888824321402177760:=0
def tw14322614541667515936:=0
def tw12023792330738289751:=0
def tw17525968226024524837:=0
def tw11947587938869818227:=0
def tw17814879649099411525:=0
def tw6287305079939002432:=0
def tw18016908012247556181:=0
def tw7150219020877214815:=0
def tw380450912676065909:=0
def tw14211075551423518226:=0
def tw10329213893321532915:=0
def tw17457296710880649784:=0
def tw6793678798918973365:=0
def tw5594817102913911586:=0
def tw15196497501713833253:=0
def tw14497581307907196911:=0
def tw14277072266065224343:=0
def tw13031404238928765901:=0
def tw11913463028924032056:=0
def tw4059301861903712635:=0
def tw908078687931921217:=0
def tw2858830493694903875:=0
def tw2007073113556455155:=0
def tw1848593617503934714:=0
def tw14909966191750337748:=0
def tw18416402177372780091:=0
def tw15674263338522073289:=0
def tw7270156500201875008:=0
def tw9894365071613216521:=0
def tw9105250119009784883:=0
def tw6622271544918140795:=0
def tw6060028166877016565:=0
def tw5870512606276150269:=0
def tw5038077066165834259:=0
def tw3052898367511119760:=0
def tw2860675050520456892:=0
def tw16246238399877571519:=0
def tw1252679767279641083:=0
def tw12444366057786282385:=0
def tw10844933452277005571:=0
def tw5135715940747669531:=0
def tw8603889868290658245:=0
def tw7911368419694005926:=0
def tw6414652635956430784:=0
def tw3624346612690058846:=0
def tw2735424019602637513:=0
def tw16041132236753105141:=0
def tw14418640308571582933:=0
def tw12538046807427319817:=0
def tw1217275591735173844:=0
def tw11281947283673457935:=0
def tw10638384252812212621:=0
def tw10371009507395246739:=0
def tw17495370402910239645:=0
def tw9652733662660259319:=0
def tw9295118025458168286:=0
def tw8441859571420841609:=0
def tw2565443248678172424:=0
def tw2515750149168027194:=0
def tw2302233511105624523:=0
def tw16127891384094350277:=0
def tw15129757173512583512:=0
def tw12948694628987137958:=0
def tw11221283158212014968:=0
def tw10571494021320039358:=0
def tw8886757591540165040:=0
def tw8777877870364430851:=0
def tw7714545194552980403:=0
def tw6386466512322146183:=0
def tw5170583293945269488:=0
def tw2685360458413787617:=0
def tw17742641130174375624:=0
def tw16572939743985045919:=0
def tw15746034860629689841:=0
def tw1524462766329725593:=0
def tw12619741814537286432:=0
def tw11519506231371150935:=0
def tw9557734355631235352:=0
def tw9309737048830121310:=0
def tw8922048907875771498:=0
def tw8676384357973327176:=0
def tw8562299727571716185:=0
def tw8474719503946210574:=0
def tw8472697556410067569:=0
def tw8430384447857566615:=0
def tw842837007000313407:=0
def tw8393663696833294488:=0
def tw8368281785475345311:=0
def tw8356818022725157907:=0
def tw8160433854138839192:=0
def tw801617988542865231:=0
def tw788625184757021832:=0
def tw7885795435825506037:=0
def tw7839100524430822030:=0
def tw7739601203412795160:=0
def tw7575221717769855573:=0
def tw7562681900341612823:=0
def tw7473198391551523920:=0
def tw7454314198177596660:=0
def tw7368324352057373908:=0
def tw7311909090049130197:=0
def tw6996051281712992689:=0
def tw6867771170741361088:=0
def tw6765040311516184337:=0
def tw6692040310680075272:=0
def tw6685516139462048165:=0
def tw6586706346565238818:=0
def tw6480223033794538956:=0
def tw6294026258350445690:=0
def tw6124923372330170607:=0
def tw6050962648000144346:=0
def tw5967538920386484114:=0
def tw5938089184020401398:=0
def tw5921162006034616555:=0
def tw5806722593978230884:=0
def tw5794805256971647254:=0
def tw5773844873137698017:=0
def tw5712208418110835526:=0
def tw5609313227873429935:=0
def tw5545699870490725820:=0
def tw5290562252216478388:=0
def tw5236463739500098443:=0
def tw5080979230117807951:=0
def tw5075989252234780260:=0
def tw502322321295500272:=0
def tw4956188819914258091:=0
def tw4687763227282642493:=0
def tw4603885305930120833:=0
def tw4332878822058903099:=0
def tw4161216342073108912:=0
def tw4109030442751017282:=0
def tw381363528741754326:=0
def tw3761517332942829652:=0
def tw360747531221006791:=0
def tw3561453735420230679:=0
def tw355514419339993606:=0
def tw3351784612455323460:=0
def tw3279840041783341249:=0
def tw3252265457494553310:=0
def tw3225512247611866492:=0
def tw3188988404008101324:=0
def tw2847718852117112875:=0
def tw2750559327015148542:=0
def tw2738903050334606068:=0
def tw2381037964080214348:=0
def tw2376589005912541724:=0
def tw2317586777777009471:=0
def tw2203518306762432645:=0
def tw2167998220971223630:=0
def tw1951620353624300057:=0
def tw1914325353361096278:=0
def tw1845359077152580777:=0
def tw18344656574476063737:=0
def tw18163676209530239450:=0
def tw1812458131020260352:=0
def tw18010263555689731684:=0
def tw176648721366573550:=0
def tw17571208310802623296:=0
def tw17419436897333748858:=0
def tw17349124764113017259:=0
def tw17061168865626884046:=0
def tw16847867618765290702:=0
def tw16701880283381746569:=0
def tw16427617780086776290:=0
def tw1609764263231385168:=0
def tw15909875093139656769:=0
def tw15880779331759779840:=0
def tw1578488033118038585:=0
def tw14726359878849741919:=0
def tw14630275890204371537:=0
def tw14375807796450099828:=0
def tw14329916815224475425:=0
def tw13742811100036686950:=0
def tw13224906297361054536:=0
def tw13086078638020240605:=0
def tw13015238095893998530:=0
def tw12922102824596267637:=0
def tw12696064082447865225:=0
def tw12626677987604674659:=0
def tw12558162228878722012:=0
def tw12480750707181121303:=0
def tw12283431871315806282:=0
def tw12235288010868660385:=0
def tw11568521677665342816:=0
def tw11320445553990453551:=0
def tw11223094799338529767:=0
def tw11123660882566006149:=0
def tw1096966010236140903:=0
def tw1094015291891309089:=0
def tw10842386277232071793:=0
def tw1083015557129207260:=0
def tw10823779149861921379:=0
def tw10770896171631202375:=0
def tw10733535658934082069:=0
def tw10633346086210976981:=0
def tw10584571505855225216:=0
def tw10405585271255530723:=0
def tw10340863455677413638:=0
def tw1020227070014204935:=0
def tw10184706685028760629:=0
def tw10103238074981810533:=0
def tw10096131854179754672:=0
end PySem.W.Fast
open PySem PySem.W PyProof.Rows
local macro_rules | `(tactic| walk_at "f")=>`(tactic| (refine' L2.DfT.of ?a ?l ?c ?k;(case a=>k_is);(case l=>k_is);(case c=>k_is);(case k=>k_is)))
local macro_rules | `(tactic| walk_at "m")=>`(tactic| (refine' L2.DmT.of ?a ?i ?l ?c ?k;(case a=>k_is);(case i=>k_is);(case l=>k_is);(case c=>k_is);(case k=>k_is)))
set_option maxRecDepth 100000 in
theorem PySem.Challenge.cw_goneday_k59_texts_of_no_deed_holds : PySem.Challenge.rw_goneday_k59_texts_of_no_deed.Holds := by
 w_on;o_law;k_head;(case hw=>w_witness2)
 k_fill
 refine L2.walk_ofBK (l:=PySem.Challenge.rw_goneday_k59_texts_of_no_deed) (n:=63) (k:=22) (x:="_law_script") (CX:=L2.CX0) (sp:=K59.sp_law) rfl Ce rfl ⟨rfl,Ce,Ce⟩ (λw h Y=>PySem.W.kIn_of Y) ?F ?S ?C
 case F=>
  intro w mg fa h KX G hmg;have T:∃t,K59.Txt (L2.KOf KX) mg t:=by
   dsimp only [L2.KOf];refine' K59.txt_mk KX G ?za ?zb ?zc ?zd ?ze ?zf ?zg ?zh ?zi ?zj ?zk ?zl ?zm ?zn ?zo ?zp ?zq ?zr ?zs ?zt ?zu ?zv ?zw ?zx ?zy ?zz ?zA ?zB ?zC ?zD ?zE ?zF ?zG ?zH ?zI ?zJ ?zK ?zL ?zM ?zN ?zO ?zP ?zQ ?zR ?zS ?zT ?zU ?zV ?zW ?zX ?zY ?zZ ?ya ?yb ?yc ?yd ?ye ?yf ?yg ?yh ?yi ?yj ?yk ?yl ?ym ?yn ?yo ?yp ?yq ?yr ?ys ?yt ?yu ?yv ?yw ?yx ?yy ?yz ?yA ?yB ?yC ?yD ?yE ?yF ?yG ?yH ?yI ?yJ ?yK ?yL ?yM ?yN ?yO ?yP ?yQ ?yR ?yS ?yT ?yU ?yV ?yW ?yX ?yY ?yZ ?xa ?xb ?xc ?xd ?xe ?xf ?xg ?xh ?xi ?xj ?xk ?xl ?xm ?xn ?xo ?xp ?xq ?xr ?xs ?xt ?xu ?xv ?xw ?xx ?xy ?xz ?xA ?xB ?xC ?xD
   (case zb | zc | zd | ze | zf | zg | zh | zi | zj | zk | zl | zm | zn | zo | zp | zq | zr | zs | zt | zu | zv | zw | zx | zy | zz | zA | zB | zC | zD | zE | zF | zG | zH | zI | zJ | zK | zL | zM | zN | zO | zP | zQ | zR | zS | zT | zU | zV | zW | zX | zY | zZ | ya | yb=>walk_at "f")
   (case yc | yd=>k_is)
   (case ye=>exact⟨_,rfl⟩)
   (case yf | yg=>k_is)
   (case yh=>first | (repeat (first | exact .nil | refine .cons ⟨_,rfl⟩ ?_)))
   (case yi=>decide)
   (case yj=>k_is)
   (case yk=>exact⟨_,rfl⟩)
   (case yl=>k_is)
   (case ym=>exact⟨_,rfl⟩)
   (case yn=>k_is)
   (case yo=>exact⟨_,rfl⟩)
   (case yp=>k_is)
   (case yq=>exact⟨_,rfl⟩)
   (case yr=>k_is)
   (case ys=>exact⟨_,rfl⟩)
   (case yt | yu=>k_is)
   (case yv=>exact⟨_,rfl⟩)
   (case yw=>k_is)
   (case yx=>exact⟨_,rfl⟩)
   (case yy=>k_is)
   (case yz=>exact⟨_,rfl⟩)
   (case yA | yB=>k_is)
   (case yC=>first | (repeat (first | exact .nil | refine .cons ⟨_,rfl⟩ ?_)))
   (case yD=>decide)
   (case yE=>k_is)
   (case yF=>exact⟨_,rfl⟩)
   (case yG=>k_is)
   (case yH=>exact⟨_,rfl⟩)
   (case yI | yJ | yK | yL | yM | yN | yO | yP | yQ | yR=>k_is)
   (case yT | yU | yV | yW | yX | yY | yZ | xa | xb | xc | xd | xe | xf | xg | xh | xi | xj | xk | xl | xm=>first | k_is | k_exc | kit_is)
   (case xn | xo | xp | xq | xr | xs | xt | xu | xv | xw | xx | xy | xz | xA | xB | xC | xD=>k_is)
   (case za=>walk_at "m")
   (case yS=>refine'⟨?a,?b,?c,?d⟩;(case a=>kernel_rfl);(case b=>k_is);(case c=>k_is);(case d=>k_is))
  obtain⟨t,T⟩:=T;have e0:=hmg.symm.trans T.F_AB.m;cases e0;exact⟨t.d_AB,T.bt_AB,λbase kb nb=>K59.ok_law T⟩
 case S=>exact λK H a ns hl hb hO hS=>K59.start_law hl hb hS
 case C=>exact λ_ _ _ _ z=>z
