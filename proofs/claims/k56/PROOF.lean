import PyProof.Rows.All
import Wide.All
import OpenK.AllK
import PySem.Challenge.RW_goneday_k56_papers_of_making_and_holds
open PySem.W renaming Frag->Og,nsIn->OV,mg_none_of->Pe,mg_of->Pw,excIn->QC,fnOf->Q0,mroIn->Q5,keepIn->Rb,findIn->Ru,kitOne->RO,cellsFrom_some->R1,codeIn->Sm,kitAny->Sn,callWith_K->Su,methodObj->SN,specialIn->UG,takesIn->UX,isClsIn->UY
open PySem.Str renaming ofString->Oh,ofString->Oj,join->UO
open List renaming length_map->Oi,map_cons->Ov,mem_map->Ow,mem_cons->Ox,getElem?_eq_some_iff->Oy,size_toArray->OC,getElem?_map->OD,length_cons->OG,mem_of_getElem?->OH,mem_append->OJ,mem_singleton->ON,replicate->OQ,mem_cons_of_mem->OR,getElem?_eq_getElem->OS,getElem?_set_ne->OY,mem_cons_self->O3,length_append->O4,mem_filter->O7,map->O8,map_append->O9,mem_append_right->Pa,getElem?_set_self->Pb,not_mem_nil->Pc,take_of_length_le->Pd,lookup_cons->Pf,map_map->Pl,length_take->Pn,append_nil->Po,pairwise_cons->Pq,getElem?_append_left->Pr,mem_of_find?_eq_some->Pt,range->Py,mem_append_left->Pz,getElem_mem->PB,find?_eq_none->PJ,mem_of_mem_take->PQ,map_nil->PV,any_eq_true->PX,contains_iff_mem->P4,take_succ->Qa,find?_cons->Qc,all_eq_true->Qe,pairwise_map->Qf,getElem?_append_right->Qj,getD_eq_getElem?_getD->Qk,find?_some->Qr,length_filter_le->Qs,append_assoc->Qv,length_nil->Qx,filterMap_cons->Qy,replicate_succ->Qz,any_cons->QD,mem_filterMap->QE,length_replicate->QF,getElem?_eq_none->QG,nodup_cons->QK,foldl_cons->QM,nil_append->QN,getElem?_of_mem->QP,getElem?_cons_succ->QR,mem_range->QS,length_drop->QT,take_sublist->Q6,flatten_cons->Q7,foldl->Q8,drop_eq_getElem_cons->Q9,getElem?_replicate->Rh,map_take->Ri,range_succ->Rm,eq_nil_of_length_eq_zero->Rn,length_range->Ro,cons_append->Rz,mem_of_mem_drop->RB,filter_sublist->RD,any_map->RL,length_eq_zero_iff->RT,getElem?_cons_zero->RU,reverse_cons->RW,nodup_append->RY,any_eq_false->R0,drop_of_length_le->R5,ext_getElem->Sd,Nodup->Si,map_congr_left->Sj,dropLast_concat_getLast->Sr,filterMap_map->Sv,set_cons_zero->Sz,set_cons_succ->SA,length_eraseIdx_of_lt->SI,getElem?_nil->SR,pairwise_iff_getElem->S0,getElem_inj->S5,filter_cons->Td,pairwise_singleton->Ti,of_mem_zip->Tn,filter->Ts,take_append_drop->TC,filterMap_append->TF,pairwise_append->TU,getLast?_append->TV,lt_trans->TY,all_cons->TZ,map_drop->T2,getElem_of_mem->T6,length_reverse->T7,length_pos_iff->T8,getElem?_drop->Ue,contains_cons->Ui,all_map->Um,getElem_range->Uz,getElem?_inj->UA,find?_append->UI,getLast?_map->UJ,not_lt->UK,le_antisymm->UP,any_toArray->UQ,cons_ne_nil->UR,forIn_cons->UT,forIn_nil->U0,take_zero->U2,sum_cons->Va,Pairwise->Vd,toArray->Vh,any_nil->Vk,length->Vp
open PySem.PyData renaming str->Ol,eqv->Om,int->Ou,tuple->Oz,strOk->O5,canLay0->Ph,canLayAll0->Pj,eqvAll->Pu,list->PL,bool->Ql,depthAll->QO,none->QW,depth->RK,dict->Tu
open PySem.Heap renaming get?_push_of_some->Oo,lt_size->OB,get?_push_size->OP,get?_update_self->Qh,get?_update_other->QB,SameBut->QY,size_push->RN,FlyingW->Uh,get?_push_ne->UB,MadeExcOf->U1,ExtBut->Vt
open PySem renaming Spec->Oq,boot_len->OF,Scope->Pm,mem_of_lookup->PZ,Fin->U5,call->Vw
open Nat renaming le_refl->Ot,lt_of_lt_of_le->OW,ne_of_lt->OX,le_trans->OZ,zero_le->PK,lt_succ_of_lt->P6,lt_irrefl->Qg,le_of_lt->QJ,lt_or_ge->Q1,lt_succ_self->Rf,ne_of_gt->RI,le_succ->R6,reduceAdd->SK,reduceSub->SM,le_of_succ_le->SO,le_of_not_lt->S6,le_of_ble_eq_true->TB,add_comm->Ud,add_zero->Ur,zero_add->Us,sub_self->Ut,reduceLT->Uu,min_le_right->UL,le_of_eq->Vj
open PySem.SeqAt renaming shaped->OA,canLay_of_shaped->Px,depth_of_shaped->Tv,EqAt->TK,pairEq->Vi
open PySem.ScopeKind renaming function->OE
open Bool renaming and_eq_true->OI,false_ne_true->O6,true_and->PD,and_true->Qb,eq_false_iff->Qo,not_eq_true'->Qw,false_eq_true->QH,false_or->QQ,eq_iff_iff->Rl,false_and->Rq,or_eq_true->RH,or_false->R8,not_eq_true->Te,true_eq_false->Ux,not_eq_false->UH,not_false->U3,not_true->Vb,and_comm->Vc,or_true->Vg
open PySem.NameKind renaming free->OM,globalImplicit->OT,free->P9,cell->R9
open Array renaming length_toList->OO,getD_eq_getD_getElem?->P2,toList_append->QA,getElem?_toList->Rr,getElem?_eq_getElem->RF,getElem?_eq_none->R7,append_assoc->Ss,perm_iff_toList_perm->SJ,getD->SY,toArray_toList->TN,toList_push->UD,toList_inj->US,toList->Ve
open PySem.Value renaming ref->OU,str->Qm,bool->QI,none->QV,int->QX,type->Rx,builtin->Sa,isStrOf->TX,isStrOf_shape->T5,isInt->Vn
open PySem.PassesOwn renaming never->Pg,leaving->Rp
open Option.some renaming inj->Pk,injEq->RZ
open PySem.Heap.SameBut renaming update->PF
open List.cons renaming injEq->PH
open Sum renaming inr->PM,inl->S4
open PySem.Builtin.Slice renaming slicePlaces->PN,sliceAdjust->Qq,sliceApplied->Q3,sliceFields->SS
open PySem.Builtin.Tuple renaming tupleExact->PR,tupleItemsOf->RC
open False renaming elim->PY
open PySem.Obj renaming mapSeq->P0,data_mapFields->Qt,isFreed_of_fields->Rt,cls_mapFields->SQ,putSet->SW,mapFields->U9
open True renaming intro->P1
open Int renaming toNat_natCast->P5,eq_ofNat_of_zero_le->P8,emod_lt_of_pos->SD,fdiv_eq_ediv_of_nonneg->SG,fmod_eq_emod_of_nonneg->SH,emod_nonneg->To,reduceNeg->T3,reducePow->T4,ediv_one->Ub,reduceLT->Uv,reduceLE->Uw,zero_add->Vl,le_refl->Vr
open PyProof.Rows renaming slot_tuple_getitem->P7,boot_sorted->Rg,callWith_type1->Rv,entry_tuple_getitem->Sb,args_tuple_getitem->Sf,bubble->Sk,boot_max->TH,boot_sum->Vv
open PySem.PyData.str renaming injEq->Qi
open PySem.Builtin.Int renaming intBits->Qp
open PySem.PyData.tuple renaming injEq->Qu
open Option renaming isSome_iff_exists->QL,isSome_map->RX,join_some->Tb,join_none->Tc,isSome_some->Ug,getD_none->UM,map_some->UZ,bind->Vs
open PySem.SetTable renaming grown->QU,below->RP,sizeAbove->Uo,layClean->UC,relaid->UW,laid->U8
open PySem.Calls renaming spliced_cons->QZ,evalArgs_plain->Ry,spliced_nil->RV,callWith_builtin->R4,Name_function_global->SF,call_function_entry->SV
open PyProof.Rows.F renaming plain_set_update_loop->Q2,entry_set_update_loop->RM
open PySem.Builtin.List renaming listFitsIndex->Q4,listTooLong->Rc,listLengthHint->Sx,listExtendWith->Sy,listSameRef->S8,listUpdate->Vm
open PySem.Around renaming under_plainId->Ra,frames_deeper->TJ
open PySem.W.WData renaming int->Rj,weightAll->RE,list->SU,layableAll->UN,weight->Vf
open ForInStep renaming yield->Rk
open PySem.PyData.int renaming injEq->RA
open PySem.W.KasT renaming kasWp_bind->RG
open PySem.F renaming args_tuple_add_2->RJ,entry_tuple_add->RR,plainAttrs_list->RS,slot_tuple_add->R3,slot_dict_get->Se,slot_dict_setdefault->Sq,plain_extend_loop->SX,slot_list_insert->S9,args_dict_get_2->Tf,plainAttrs_dict->Tg,plain_list_iadd->Th,entry_dict_get->Tr,plain_set_new->Tx,slot_set_iter->Tz
open PySem.Builtin.Str renaming occurrences->RQ,strSliceIndices->Sw
open Or renaming inr->Sg,inl->S7
open BEq renaming comm->So
open PySem.Paired renaming length->SE,snoc->Vq
open Nat.succ renaming inj->Ta
open PyProof.Rows.IsTup renaming new->Tj
open Sum.inr renaming inj->Tp
open PyProof renaming noPylong_small->Tq
open List.Perm renaming pairwise_iff->Tt
open PySem.StrLaws renaming glued_eq_join->Tw
open PySem.SeqAt.RcAt renaming tuple_str->TL,str_tuple->TR,str_str->Uk
open PySem.SeqAt.EqAt renaming str_tuple->TM,tuple_str->TQ,int_str->T9,str_int->Ua,str_str->Ul
open Function renaming comp->T1
open PySem.Heap.IsSliceOf renaming new->Uc
open PySem.Code renaming quiet_builtin->Uj
open PySem.Expr renaming Call->Uy,Subscript->U4,List->U6,Dict->U7,BinOp->Vx
open PySem.SetTable.below renaming go->UE
open PySem.Walks renaming list->UU
open PySem.CmpOp renaming NotIn->Vo
open List.Pairwise renaming sublist->Vu
open PySem.Flow renaming next->Vy
open PySem.PyData.bool renaming injEq->Vz
open PySem.PyData.list renaming injEq->VA
open PySem.Heap.DictOf renaming new->VB
open PySem renaming PyData->VI,Value->VJ,wpAny_bind->VL,Addr->VM,Shared->VN,wpAny_pure->VO,starEach->VP,wpAny->VQ,Expr->VR,model->VS,sizeLine->VT,FuncData->VU,Program->VW,mainGlobals->VX,Heap->VY,World->VZ,Stmt->V0,Around->V1,compareOp->V2,bootBuiltins->V3,wpAny_newObj_type->V4,foldedSetIterable->V5,backTo->V6,wpAny_truthy_bool->V7,wpAny_mono->V8,cLine->V9,wpAny_holding->Wa,swapsWith->Wb,Scope->Wc,behindInMarks->Wg,wpAny_call_entry->Wi,wpAny_loadPart'->Wj,wpAny_callSpecial?_slot->Wk,cellsFrom->Wl,NameKind->Wm,binaryOp->Wn,sysModules->Wo,sizeLine_eq->Wq,codeAny_mono->Wr,wpAny_Call_Name_kw->Ws,wpAny_passesOwn->Wt,Keyword->Wu,codeAny_builtin->Wv,rawInt->Ww,wpAny_setState_of->Wx,getItem->Wy,wpAny_askSetting->Wz,wpAny_setEntries_of->WA,codeAny->WB,attributeBase->WC,wpAny_execs_nil->WD,call_meets->WG,tupleKind_room_in1->WH,scanBound->WI,wpAny_setField->WJ,pyNext->WK,sliceBounds->WL,keywordEach->WM,wpAny_ite_split->WN,PassesOwn->WO,wpAny_typeOf->WQ,SetTable->WR,builtinsNs->WS,assignEach->WU,typeIs_str->WV,setNext->WW,wpAny_field->WX,subscripted->WY,strIterType->W0,plainId_quiet->W2,wpAny_attempt->W3,relayAll->W4,wpAny_Name->W6,wpAny_rule->W7,letOwnedTupleGo->W8,codeAny_call_builtin->W9,backToKw->Xb,wpAny_fieldsOf->Xc,firstArgMember->Xd,wpAny_of_eq->Xe,tupleKind->Xf,Arguments->Xh,DictEntry->Xi,pickOrder->Xj,wpAny_standAt->Xk,swapsWithSole->Xl,swappedStores->Xm,wpAny_newList->Xo,wpAny_pyIter_list->Xq,wpAny_sequenceKey->Xr,wpAny_execs_cons->Xs,noFill_tuple_add->Xt,wpAny_comprehension_free->Xu,checkBuiltinCall->Xv,wpAny_isInstance->Xw,GenState->Xx
open PyProof.Rows renaming seqObj->We,StrsAre->Wh,envOfC->WE,AllBare->WT,slicePart_none->Xa,assignInOrder_cons->Xg,subscriptTail->Xn,listUpdate_at->Xp
open PySem.W renaming hideAll_get->WZ,kia_one->W5
theorem Ce{p:Prop}[Decidable p](h:decide p=true:=by decide+kernel):p:=of_decide_eq_true h
theorem VC{p:Prop}(h:p:=by decide):p:=h
theorem VD{p:Prop}(h:p:=by omega):p:=h
theorem VH{p:Prop}(h:p:=by simp):p:=h
theorem VE{c:Prop}{h:Decidable c}(k:¬c){α:Sort u}{t e:α}:ite c t e=e:=if_neg k
theorem VF{c:Prop}{h:Decidable c}(k:c){α:Sort u}{t e:α}:ite c t e=t:=if_pos k
abbrev Xy:=PySem.NameKind.local
set_option compiler.extract_closed false
def rzT (n : String) : Lean.MacroM (Lean.TSyntax `tactic) := do
 let ts : Array (Lean.TSyntax `Lean.Parser.Tactic.simpLemma) <- ((n.splitOn " ").toArray).mapM λs =>do
  if s.startsWith "↓" then
   let i := Lean.mkIdent (s.drop 1).toString.toName
   `(Lean.Parser.Tactic.simpLemma| ↓ $i:ident)
  else
   let i := Lean.mkIdent s.toName
   `(Lean.Parser.Tactic.simpLemma| $i:ident)
 `(tactic| simp only [$ts,*])
local macro_rules|`(command|def $i:declId $s:optDeclSig $v:declVal)=>`(command|noncomputable def $i:declId $s:optDeclSig $v:declVal)|`(command|abbrev $i:declId $s:optDeclSig $v:declVal)=>`(command|noncomputable abbrev $i:declId $s:optDeclSig $v:declVal)
noncomputable section
set_option Elab.async false
set_option linter.all false
set_option maxRecDepth 100000
set_option maxHeartbeats 0
set_option genSizeOf false
namespace L2
open PySem PySem.Spec PyProof.Rows
abbrev ak:=Sum Int Str
def j6:ak->VJ->Bool
 | .inl k,v=>Vn k v
 | .inr x,v=>TX x v
def EG(w:VZ):ak->Int
 | .inl k=>hashInt k
 | .inr x=>hashStr w x
theorem gW:∀{k:ak}{v:VJ},j6 k v=true->(∃i t,k=S4 i/\v=QX i t)\/(∃x t,k=PM x/\v=Qm x t)
 | .inl i,v,h=>by
  obtain⟨t,e⟩:=Value.isInt_shape (k:=i) (v:=v) h;exact .inl ⟨i,t,rfl,e⟩
 | .inr x,v,h=>by
  obtain⟨t,e⟩:=T5 (x:=x) (v:=v) h;exact .inr ⟨x,t,rfl,e⟩
theorem EH(i:Int)(t:Tok):j6 (.inl i) (.int i t)=true:=by simp [j6,Vn]
theorem EI(x:Str)(t:Tok):j6 (.inr x) (.str x t)=true:=by simp [j6,TX]
theorem EJ(a b:Int):decide ((S4 a:ak)=S4 b)=(a==b):=by
 by_cases e:a=b
 ·subst e;simp
 ·have h:¬(S4 a:ak)=S4 b:=λq=>e (S4.inj q);rw [decide_eq_false h];exact(beq_eq_false_iff_ne.mpr e).symm
theorem EK(a b:Str):decide ((PM a:ak)=PM b)=decide (a=b):=by
 by_cases e:a=b
 ·subst e;simp
 ·have h:¬(PM a:ak)=PM b:=λq=>e (Tp q);rw [decide_eq_false h,decide_eq_false e]
theorem EL(a:Int)(b:Str):decide ((S4 a:ak)=PM b)=false:=decide_eq_false (λq=>nomatch q)
theorem EM(a:Str)(b:Int):decide ((PM a:ak)=S4 b)=false:=decide_eq_false (λq=>nomatch q)
def cY(prog:VW)(w:VZ):PySem.KeyKind prog w ak where
 is:=j6
 hash:=EG w
 inj:=λv a b ha hb=>by
  rcases gW ha with⟨i,t,rfl,rfl⟩ | ⟨x,t,rfl,rfl⟩
  ·rcases gW hb with⟨j,u,rfl,e⟩ | ⟨y,u,rfl,e⟩
   ·injection e with e1 _;rw [e1]
   ·exact nomatch e
  ·rcases gW hb with⟨j,u,rfl,e⟩ | ⟨y,u,rfl,e⟩
   ·exact nomatch e
   ·injection e with e1 _;rw [e1]
 byValue:=λk v h=>by
  rcases gW h with⟨i,t,rfl,rfl⟩ | ⟨x,t,rfl,rfl⟩ <;> rfl
 pyHash:=λhv h=>by
  rcases gW hv with⟨i,t,rfl,rfl⟩ | ⟨x,t,rfl,rfl⟩
  ·exact wpAny_pyHash_int h
  ·exact wpAny_pyHash_str h
 eqBool:=λhu hv h=>by
  rcases gW hu with⟨i,t,rfl,rfl⟩ | ⟨x,t,rfl,rfl⟩
  ·rcases gW hv with⟨j,u,rfl,rfl⟩ | ⟨y,u,rfl,rfl⟩
   ·rw [EJ] at h;exact wpAny_eqBool_int h
   ·rw [EL] at h;exact T9 i t y u _ _ _ _ h
  ·rcases gW hv with⟨j,u,rfl,rfl⟩ | ⟨y,u,rfl,rfl⟩
   ·rw [EM] at h;exact Ua x t j u _ _ _ _ h
   ·rw [EK] at h;exact wpAny_eqBool_str h
 «strs»:=λk x t v h=>by
  rcases gW h with⟨i,u,rfl,e⟩ | ⟨y,u,rfl,e⟩
  ·exact nomatch e
  ·injection e with e1 _
   subst e1;cases v <;> rfl
theorem EN(prog:VW)(w:VZ)(i:Int)(t:Tok):(cY prog w).is (.inl i) (.int i t)=true:=EH i t
theorem EO(prog:VW)(w:VZ)(x:Str)(t:Tok):(cY prog w).is (.inr x) (.str x t)=true:=EI x t
inductive V where
 | non | bl (b:Bool) | int (i:Int) | str (x:Str) | byt (b:Array UInt8) | flt (b:UInt64) | ref (a:VM) | ty (n:String)
 deriving DecidableEq
def aH:V->VJ->Prop
 | .non,u=>u=QV
 | .bl b,u=>u=QI b
 | .int i,u=>∃t,u=QX i t
 | .str x,u=>∃t,u=Qm x t
 | .byt b,u=>∃t,u=Value.bytes b t
 | .flt b,u=>∃t,u=Value.float b t
 | .ref a,u=>u=OU a
 | .ty n,u=>u=Rx n
abbrev aI:List V->List VJ->Prop:=Paired aH
theorem aI.length{xs:List V}{us:List VJ}(r:aI xs us):xs.length=us.length:=SE r
theorem aI.get:∀{xs:List V}{us:List VJ}{i:Nat}{x:V},aI xs us->xs[i]?=some x->∃u,us[i]?=some u/\aH x u
 | _,_,_,_,.nil,e=>by simp at e
 | _,_,0,_,.cons r _,e=>by simp at e;subst e;exact⟨_,rfl,r⟩
 | _,_,i+1,x,.cons _ t,e=>by
  obtain⟨u,h1,h2⟩:=aI.get (i:=i) (x:=x) t (by simpa using e);exact⟨u,by simpa using h1,h2⟩
theorem aI.set{x:V}{u:VJ}(r:aH x u):∀{xs:List V}{us:List VJ}(i:Nat),aI xs us->aI (xs.set i x) (us.set i u)
 | _,_,_,.nil=>.nil
 | _,_,0,.cons _ t=>.cons r t
 | _,_,i+1,.cons q t=>.cons q (aI.set r i t)
theorem aI.append:∀{xs ys:List V}{us ws:List VJ},aI xs us->aI ys ws->aI (xs++ys) (us++ws)
 | _,_,_,_,.nil,s=>s
 | _,_,_,_,.cons r t,s=>.cons r (aI.append t s)
theorem aI.take:∀{xs:List V}{us:List VJ}(n:Nat),aI xs us->aI (xs.take n) (us.take n)
 | _,_,0,_=>.nil
 | _,_,_+1,.nil=>.nil
 | _,_,n+1,.cons r t=>.cons r (aI.take n t)
theorem aI.drop:∀{xs:List V}{us:List VJ}(n:Nat),aI xs us->aI (xs.drop n) (us.drop n)
 | _,_,0,r=>r
 | _,_,_+1,.nil=>.nil
 | _,_,n+1,.cons _ t=>aI.drop n t
def fw:Option V->Option VJ->Prop
 | some v,some u=>aH v u
 | none,none=>True
 | _,_=>False
def KV{κ:Type}:List (κ×V)->List (κ×VJ)->Prop:=Paired λ(p:κ×V) (q:κ×VJ)=>p.1=q.1/\aH p.2 q.2
def kV:ak->V
 | .inl i=>.int i
 | .inr x=>.str x
inductive HO where
 | lst (xs:List V)
 | tup (xs:List V)
 | dK (kvs:List (ak×V)) | dT (kvs:List (List ak×V))
 | set (S:Int->Bool) (n:Nat)
 | ins (C dx:VM) (fs:List (Str×V))
 | own (x:VM)
 | xd (fs:List (Str×V))
 | met (f x:VM)
 | rng (lo hi:Int)
 | frz (o:Obj) (u:HO)
 | tbl (ps:Array VJ)
 | cod (q:Str)
 | ext (φ:VY->Prop)
abbrev Hp:=VM->Option HO
def av(H:Hp)(a:VM)(o:HO):Hp:=λb=>if b=a then some o else H b
theorem bb{H:Hp}{a:VM}{o:HO}:av H a o a=some o:=by unfold av;rw [VF rfl]
theorem aE{H:Hp}{a b:VM}{o:HO}(h:b≠a):av H a o b=H b:=by unfold av;rw [VE h]
theorem ER{H:Hp}{a b:VM}{o u:HO}(h:H a=some o)(h':H b=some u)(d:o≠u):a≠b:=by
 intro e;subst e;rw [h] at h';exact d (Pk h')
theorem cR{H:Hp}{a b:VM}{o:HO}(h:H a=some o)(h':H b=none):a≠b:=by
 intro e;subst e;rw [h] at h';cases h'
def ES(h:VY)(a:VM)(q:Str):Prop:=∃oc vs t,h.get? a=some oc/\oc.data= .fields vs/\vs[1]?=some (.str q t)
def ET(H:Hp)(h:VY)(a:VM)(q:Str):Prop:=∃ps:Array VJ,h.get? a=some {cls:= .none,data:= .fields ps}/\PySem.TriplesOk ps.toList/\∀pos cv,PySem.codeAmong pos ps.toList=some cv->∃c,cv= .ref c/\H c=some (.cod q)
section
variable (P:VW) (w:VZ)
def bI(H:Hp)(h:VY)(a:VM):HO->Prop
 | .lst xs=>xs.length<=VT/\∃(its:List VJ)(n:Nat),aI xs its/\h.get? a=some {cls:= .type "list",data:= .seq its.toArray n}
 | .tup xs=>xs.length<=VT/\∃its:List VJ,aI xs its/\IsTup h a its.toArray
 | .dK kvs=>kvs.length<=VT/\(a==Wo)=false/\∃vs,KV kvs vs/\h.DictOf (cY P w) a vs
 | .dT kvs=>kvs.length<=VT/\(a==Wo)=false/\∃xs:List (List ak×VM×VJ),
  Paired (λ(p:List ak×V) (q:List ak×VM×VJ)=>p.1=q.1/\H q.2.1=some (.tup (p.1.map kV))/\aH p.2 q.2.2) kvs xs/\
  ∃o es ep,h.get? a=some o/\o.ExactDict/\o.data= .dict es ep/\es.toList=xs.map (entryOfKey (Xf (cY P w)))/\(xs.map (·.1)).Nodup
 | .set S n=>h.SetOf (intKind P w) a S n
 | .ins C dx fs=>H dx=some (.own a)/\fs.length<=1000/\dx≠a/\h.get? a=some (PySem.W.instObj C dx)/\
  ∃mA,h.Ns1 dx mA/\(∀f,fw (fs.lookup f) (mA f))/\PySem.Within mA (fs.map (·.1))
 | .own _=>∃o,h.get? a=some o
 | .xd fs=>∃mA,h.Ns1 a mA/\∀f,fw (fs.lookup f) (mA f)
 | .rng lo hi=>∃t u v,h.get? a=some {cls:= .type "range",data:= .fields #[.int lo t,.int hi u,.int 1 v]}
 | .frz o u=>h.get? a=some o/\bI H h a u
 | .tbl ps=>∃q t,ps[0]?=some (.str q t)/\ET H h a q
 | .cod q=>ES h a q
 | .met f x=>h.get? a=some (SN (.ref f) (.ref x))
 | .ext φ=>φ h/\(∃o,h.get? a=some o)/\∀h1 h2:VY,φ h1->(∀o,h1.get? a=some o->h2.get? a=some o)->φ h2
def bJ(H:Hp)(h:VY):Prop:=∀a o,H a=some o->bI P w H h a o
end
section
variable {P:VW} {w:VZ} {H H':Hp} {h h':VY} {a:VM} {o:HO}
theorem bI.lt(x:bI P w H h a o):a < h.objs.size:=by
 cases o with
 | lst xs=>obtain⟨_,_,_,_,e⟩:=x;exact OB e
 | tup xs=>obtain⟨_,_,_,p⟩:=x;exact p.lt
 | dK kvs=>obtain⟨_,_,_,_,o,_,_,e,_⟩:=x;exact OB e
 | dT kvs=>obtain⟨_,_,_,_,o,_,_,e,_⟩:=x;exact OB e
 | set S n=>obtain⟨o,_,_,_,e,_⟩:=x;exact OB e
 | ins C dx fs=>obtain⟨_,_,_,e,_⟩:=x;exact OB e
 | own y=>obtain⟨_,e⟩:=x;exact OB e
 | xd fs=>obtain⟨_,⟨_,_,_,e,_⟩,_⟩:=x;exact OB e
 | rng lo hi=>obtain⟨_,_,_,e⟩:=x;exact OB e
 | frz ob u=>obtain⟨e,_⟩:=x;exact OB e
 | tbl ps=>obtain⟨_,_,_,_,e,_⟩:=x;exact OB e
 | cod q=>obtain⟨_,_,_,e,_⟩:=x;exact OB e
 | met f y=>exact OB (show h.get? a=some _ from x)
 | ext φ=>obtain⟨_,⟨_,e⟩,_⟩:=x;exact OB e
theorem Paired.mapP{α β:Type}{F G:α->β->Prop}:∀{l₁:List α}{l₂:List β},Paired F l₁ l₂->(∀a b,F a b->G a b)->Paired G l₁ l₂
 | _,_,.nil,_=>.nil
 | _,_,.cons r t,f=>.cons (f _ _ r) (Paired.mapP t f)
theorem bI.stay(x:bI P w H h a o)(k:∀b u,(b=a\/H b=some (.own a))->h.get? b=some u->h'.get? b=some u)
 (ho:∀b,H b=some (.own a)->H' b=some (.own a))(ht:∀b xs,H b=some (.tup xs)->H' b=some (.tup xs))(hc:∀b q,H b=some (.cod q)->H' b=some (.cod q)):bI P w H' h' a o:=by
 induction o with
 | lst xs=>obtain⟨z,its,n,r,e⟩:=x;exact⟨z,its,n,r,k _ _ (.inl rfl) e⟩
 | tup xs=>obtain⟨z,its,r,ob,e,c⟩:=x;exact⟨z,its,r,ob,k _ _ (.inl rfl) e,c⟩
 | dK kvs=>obtain⟨z,y,vs,r,ob,es,ep,e,c⟩:=x;exact⟨z,y,vs,r,ob,es,ep,k _ _ (.inl rfl) e,c⟩
 | dT kvs=>
  obtain⟨z,y,xs,r,ob,es,ep,e,c⟩:=x;exact⟨z,y,xs,Paired.mapP r λp q z=>⟨z.1,ht _ _ z.2.1,z.2.2⟩,ob,es,ep,k _ _ (.inl rfl) e,c⟩
 | set S n=>obtain⟨ob,es,ep,t,e,c⟩:=x;exact⟨ob,es,ep,t,k _ _ (.inl rfl) e,c⟩
 | ins C dx fs=>
  obtain⟨d,z,ne,e,mA,⟨od,es,ep,e2,c⟩,r⟩:=x;exact⟨ho _ d,z,ne,k _ _ (.inl rfl) e,mA,⟨od,es,ep,k _ _ (.inr d) e2,c⟩,r⟩
 | own y=>obtain⟨ob,e⟩:=x;exact⟨ob,k _ _ (.inl rfl) e⟩
 | xd fs=>obtain⟨mA,⟨od,es,ep,e,c⟩,r⟩:=x;exact⟨mA,⟨od,es,ep,k _ _ (.inl rfl) e,c⟩,r⟩
 | rng lo hi=>obtain⟨t,u,v,e⟩:=x;exact⟨t,u,v,k _ _ (.inl rfl) e⟩
 | frz ob u ih=>obtain⟨e,q⟩:=x;exact⟨k _ _ (.inl rfl) e,ih q⟩
 | tbl ps=>
  obtain⟨q,t,z,qs,e,tr,y⟩:=x;exact⟨q,t,z,qs,k _ _ (.inl rfl) e,tr,λpos cv w=>let ⟨c,e1,e2⟩:=y pos cv w;⟨c,e1,hc _ _ e2⟩⟩
 | cod q=>obtain⟨oc,vs,t,e,r⟩:=x;exact⟨oc,vs,t,k _ _ (.inl rfl) e,r⟩
 | met f y=>
  have e:h.get? a=some (SN (.ref f) (.ref y)):=x;show h'.get? a=some (SN (.ref f) (.ref y));exact k a _ (.inl rfl) e
 | ext φ=>obtain⟨p,⟨o,e⟩,st⟩:=x;exact⟨st _ _ p λo q=>k _ _ (.inl rfl) q,⟨o,k _ _ (.inl rfl) e⟩,st⟩
theorem bJ.lt(x:bJ P w H h)(e:H a=some o):a < h.objs.size:=(x a o e).lt
theorem bJ.fresh(x:bJ P w H h)(e:h.objs.size<=a):H a=none:=by
 cases q:H a with
 | none=>rfl
 | some u=>exact absurd (OW (x.lt q) e) (Qg _)
theorem bJ.kept(x:bJ P w H h)(k:∀b u,h.get? b=some u->h'.get? b=some u):bJ P w H h':=λa o e=>
 (x a o e).stay (λb u _ q=>k b u q) (λ_ q=>q) (λ_ _ q=>q) λ_ _ q=>q
theorem bJ.laid(x:bJ P w H h)(k:∀b u,h.get? b=some u->h'.get? b=some u)(hp:h.objs.size<=a)(new:bI P w (av H a o) h' a o):bJ P w (av H a o) h':=λb u e=>by
 have hn:=x.fresh hp;by_cases hb:b=a
 ·subst hb;rw [bb] at e;cases e;exact new
 ·rw [aE hb] at e;exact(x b u e).stay (λc v _ q=>k c v q) (λc q=>by rw [aE (cR q hn)];exact q) (λc xs q=>by rw [aE (cR q hn)];exact q) λc xs q=>by rw [aE (cR q hn)];exact q
end
def Rd(H:Hp)(a:VM)(u:HO):Prop:=H a=some u\/∃o,H a=some (.frz o u)
theorem Rd.ok{P:VW}{w:VZ}{H:Hp}{h:VY}{a:VM}{u:HO}(r:Rd H a u)(x:bJ P w H h):bI P w H h a u:=by
 rcases r with r | ⟨o,r⟩
 ·exact x a u r
 ·obtain⟨_,q⟩:=x a _ r;exact q
def j7:Option HO->Prop
 | some (.lst _)=>True
 | some (.dK _)=>True
 | some (.dT _)=>True
 | some (.set _ _)=>True
 | some (.ins _ _ _)=>True
 | some (.ext _)=>True
 | _=>False
section
variable {P:VW} {w:VZ} {H:Hp} {h h':VY} {x e:VM} {o':HO}
theorem bJ.write(ok:bJ P w H h)(mu:j7 (H x))(he:e=x\/H e=some (.own x))(k:∀b u,b≠e->h.get? b=some u->h'.get? b=some u)(heo:∃u,h'.get? e=some u)
 (new:bI P w (av H x o') h' x o'):bJ P w (av H x o') h':=λb u q=>by
 have nown:∀c y,H c=some (.own y)->c≠x:=λc y r z=>by subst z;rw [r] at mu;exact mu
 have ntup:∀c xs,H c=some (.tup xs)->c≠x:=λc xs r z=>by subst z;rw [r] at mu;exact mu
 have ncod:∀c xs,H c=some (.cod xs)->c≠x:=λc xs r z=>by subst z;rw [r] at mu;exact mu
 by_cases hb:b=x
 ·subst hb;rw [bb] at q;cases q;exact new
 ·rw [aE hb] at q;by_cases hbe:b=e
  ·have q':H b=some (.own x):=by
    rcases he with z | z
    ·exact absurd (hbe.trans z) hb
    ·rw [hbe];exact z
   rw [q] at q';cases q';obtain⟨v,hv⟩:=heo;exact⟨v,by rw [hbe];exact hv⟩
  ·refine(ok b u q).stay (λc v hc r=>k c v ?_ r) (λc r=>by rw [aE (nown c b r)];exact r) (λc xs r=>by rw [aE (ntup c xs r)];exact r) λc xs r=>by rw [aE (ncod c xs r)];exact r
   rcases hc with rfl | hc
   ·exact hbe
   ·rintro rfl;rcases he with z | z
    ·exact nown c b hc z
    ·rw [hc] at z;cases z;exact hb rfl
end
structure Un (fs ex:List VM) (H H':Hp) (h h':VY):Prop where
 keep:∀b o,h.get? b=some o->H b=none->b ∉ fs->b ∉ ex->h'.get? b=some o
 slot:∀b o,h.get? b=some o->H b=none->b∈fs->b ∉ ex->∃sl,h'.get? b=some {o with slots:=sl}
 free:∀b o,h.get? b=some o->H b=none->b ∉ ex->H' b=none
 there:∀b o,h.get? b=some o->b ∉ ex->∃o',h'.get? b=some o'
 tups:∀b xs,H b=some (.tup xs)->H' b=some (.tup xs)
 frzs:∀b o u,H b=some (.frz o u)->H' b=some (.frz o u)
 tbls:∀b ps,H b=some (.tbl ps)->∃more,H' b=some (.tbl (ps++more))
section
variable {fs fs' ex ex':List VM} {H H1 H2:Hp} {h h1 h2 h':VY} {a x e:VM} {o:HO}
theorem Un.any(u:Un fs ex H H1 h h1){b:VM}{ob:Obj}(q:h.get? b=some ob)(n:H b=none)(hx:b ∉ ex):∃sl,h1.get? b=some {ob with slots:=sl}:=by
 by_cases hb:b∈fs
 ·exact u.slot b ob q n hb hx
 ·exact⟨ob.slots,u.keep b ob q n hb hx⟩
theorem Un.kept(k:∀b u,h.get? b=some u->h'.get? b=some u):Un fs ex H H h h':=
 ⟨λb ob q _ _ _=>k b ob q,λb ob q _ _ _=>⟨ob.slots,k b ob q⟩,λ_ _ _ n _=>n,λb ob q _=>⟨ob,k b ob q⟩,λ_ _ q=>q,λ_ _ _ q=>q,λ_ ps q=>⟨#[],by rw [q];simp⟩⟩
theorem Un.refl:Un fs ex H H h h:=Un.kept λ_ _ q=>q
theorem Un.laid(k:∀b u,h.get? b=some u->h'.get? b=some u)(hp:h.objs.size<=a)(hn:H a=none):Un fs ex H (av H a o) h h' where
 keep:=λb u q _ _ _=>k b u q
 slot:=λb u q _ _ _=>⟨u.slots,k b u q⟩
 free:=λb u q n _=>by rw [aE (OX (OW (OB q) hp))];exact n
 there:=λb u q _=>⟨u,k b u q⟩
 tups:=λb xs q=>by rw [aE (cR q hn)];exact q
 frzs:=λb u xs q=>by rw [aE (cR q hn)];exact q
 tbls:=λb ps q=>⟨#[],by rw [aE (cR q hn),q];simp⟩
theorem Un.write(mu:j7 (H x))(he:e=x\/H e=some (.own x))(k:∀b u,b≠e->h.get? b=some u->h'.get? b=some u)(heo:∃u,h'.get? e=some u):Un fs ex H (av H x o) h h':=by
 have hx:∀b,H b=none->b≠x:=λb n z=>by subst z;rw [n] at mu;exact mu
 have hb:∀b,H b=none->b≠e:=λb n z=>by
  subst z;rcases he with r | r
  ·exact hx b n r
  ·rw [n] at r;cases r
 have hm:∀b u,H b=some u->¬j7 (some u)->b≠x:=λb u q nm z=>by subst z;rw [q] at mu;exact nm mu
 refine⟨λb u q n _ _=>k b u (hb b n) q,λb u q n _ _=>⟨u.slots,k b u (hb b n) q⟩,λb u q n _=>by rw [aE (hx b n)];exact n,λb u q _=>?_,
  λb xs q=>by rw [aE (hm b _ q λz=>z)];exact q,λb u xs q=>by rw [aE (hm b _ q λz=>z)];exact q,λb ps q=>⟨#[],by rw [aE (hm b _ q λz=>z),q];simp⟩⟩
 by_cases hbe:b=e
 ·subst hbe;exact heo
 ·exact⟨u,k b u hbe q⟩
end
def trk(h:VY)(H:Hp):List VM:=(Py h.objs.size).filter λa=>(H a).isSome
def gX(h:VY)(H:Hp):VY:=PySem.W.hideAll h (trk h H)
theorem EU(h:VY)(H:Hp):(gX h H).objs.size=h.objs.size:=PySem.W.hideAll_size _ _
theorem EV{h:VY}{H:Hp}{b:VM}{o:Obj}(e:h.get? b=some o)(n:H b=none):(gX h H).get? b=some o:=
 PySem.W.hideAll_get _ e λhm=>by
  have q:(H b).isSome=true:=(O7.mp hm).2;rw [n] at q;simp at q
theorem EW{h:VY}{H:Hp}{b:VM}{o:Obj}(e:(gX h H).get? b=some o):h.get? b=some o/\H b=none:=by
 have e':h.get? b=some o:=PySem.W.of_hideAll (trk h H) e;refine⟨e',?_⟩;cases q:H b with
 | none=>rfl
 | some x=>
  have hm:b∈trk h H:=O7.mpr ⟨QS.mpr (OB e'),by simp [q]⟩;have z:(gX h H).get? b=none:=PySem.W.hideAll_none (trk h H) hm;rw [z] at e;cases e
def EX(g h:VY)(L:VM):List (VM×Obj):=(Py h.objs.size).filterMap λa=>if a=L\/(g.get? a).isSome=true then none else(h.get? a).map λo=>(a,o)
def rest(g h:VY)(L d:VM):List (VM×Obj):=(EX g h L).filter λp=>decide (p.1≠d)
structure Mod (K:Og) (mg:Str->Option VJ) (base:VY):Prop where
 kin:K.In base
 glob:base.Ns VX mg
 blt:∃mb,base.Ns WS mb/\∀x:Str,x≠"__name__"->mb x=V3 x
 nolimit:base.NoLimit
structure Cx where
 prog:VW
 w:VZ
 K:Og
 mg:Str->Option VJ
 base:VY
 A:V1
 N:List Str
 s₀:VN
 H₀:Hp
 env:Env
 outer:List Env
 stack:List Env
 ex:List VM
 fn:Str->Bool
 calm:Bool
 pn:List (VM×Obj)
 xe:VJ->VN->Prop
def aX(l:List Env):List VM:=l.filterMap (·.frame)
abbrev Cx.fs(X:Cx):List VM:=aX X.outer
def iw(sc:Wc)(x:Str):Prop:=sc.names.lookup x=some .local\/sc.names.lookup x=some .cell\/sc.names.lookup x=some .free
def gY(sc:Wc)(x:Str):Prop:=sc.names.lookup x=some .local\/sc.names.lookup x=some .cell
def EY(env:Env)(h:VY)(m:Str->Option VJ)(x:Str)(u:VJ):Prop:=
 (env.kindOf x=some .local/\m x=some u)\/((env.kindOf x=some .cell\/env.kindOf x=some .free)/\∃c,env.cells.lookup x=some c/\h.IsCell c (some u))
structure Cx.Ok (X:Cx):Prop where
 mod:Mod X.K X.mg X.base
 kind:X.env.scope.kind= .function
 glob:X.env.globals=VX
 blt:X.env.builtins=WS
 above:X.s₀.heap.objs.size<=X.env.locals
 inj:∀x y c,X.env.cells.lookup x=some c->X.env.cells.lookup y=some c->x=y
 has:∀x,(X.env.kindOf x=some .cell\/X.env.kindOf x=some .free)->∃c,X.env.cells.lookup x=some c
 cab:∀x c,X.fn x=true->X.env.cells.lookup x=some c->X.s₀.heap.objs.size<=c
 hd:X.calm=true->X.A.handled=none
 frames:X.A.frames=some X.stack
 stk:X.stack=X.outer\/(X.stack=X.env::X.outer/\X.env.frame=some X.env.locals)
 exf:∀b∈X.ex,b≠X.env.locals/\∀x c,X.env.cells.lookup x=some c->c≠b
 bs:∀b o,X.base.get? b=some o->X.s₀.heap.get? b=some o/\X.H₀ b=none
 bsz:X.base.objs.size<=X.s₀.heap.objs.size
 noex:∀b o,X.base.get? b=some o->b ∉ X.ex
 exfs:∀b∈X.ex,b ∉ X.fs
 funs:X.s₀.heap.FunFrames X.base X.outer
 frf:∀b∈X.fs,X.H₀ b=none
structure ae (X:Cx) (Xz:List (VM×Obj)) (σ:List (Option V)) (H:Hp) (s:VN):Prop where
 ok:X.Ok
 os:s.os=X.s₀.os
 bare:WT s.gens
 base:Un X.fs X.ex X.H₀ H X.s₀.heap s.heap
 loc:∃m,s.heap.Ns X.env.locals m/\∀(i:Nat)(x:Str)(v:V),X.N[i]?=some x->σ[i]?=some (some v)->iw X.env.scope x->∃u,aH v u/\EY X.env s.heap m x u
 cell:∀x c,X.env.cells.lookup x=some c->∃v,s.heap.IsCell c v
 free:H X.env.locals=none
 freeC:∀x c,X.env.cells.lookup x=some c->H c=none
 pin:∀p∈X.pn++Xz,s.heap.get? p.1=some p.2/\H p.1=none/\p.1≠X.env.locals/\p.1 ∉ X.fs/\∀v,p.2.data≠ .cell v
 hok:bJ X.prog X.w H s.heap
 len:σ.length=X.N.length
section
variable {X:Cx} {Xz:List (VM×Obj)} {σ:List (Option V)} {H H':Hp} {s:VN} {h':VY}
theorem Cx.Ok.nofr(ok:X.Ok){b:VM}{o:Obj}(e:X.base.get? b=some o):b ∉ X.fs:=λhb=>by
 have:=(ok.funs.mem hb).1;rw [e] at this;cases this
theorem ae.bs(I:ae X Xz σ H s):∀b o,X.base.get? b=some o->s.heap.get? b=some o/\H b=none:=λb o e=>
 ⟨I.base.keep b o (I.ok.bs b o e).1 (I.ok.bs b o e).2 (I.ok.nofr e) (I.ok.noex b o e),I.base.free b o (I.ok.bs b o e).1 (I.ok.bs b o e).2 (I.ok.noex b o e)⟩
theorem ae.bk(I:ae X Xz σ H s):∀b o,X.base.get? b=some o->s.heap.get? b=some o:=λb o e=>(I.bs b o e).1
theorem ae.mod(I:ae X Xz σ H s):Mod X.K X.mg X.base:=I.ok.mod
theorem ae.kIn(I:ae X Xz σ H s):X.K.In s.heap:=I.ok.mod.kin.keeps I.bk
theorem ae.fr(I:ae X Xz σ H s):∃m,Fr X.base X.env.locals s.heap m:=
 let ⟨m,hn,_⟩:=I.loc
 ⟨m,hn,I.bk,OZ I.ok.bsz I.ok.above⟩
theorem ae.lt(I:ae X Xz σ H s):X.env.locals < s.heap.objs.size:=let ⟨_,hn,_⟩:=I.loc;hn.lt
theorem ae.sz(I:ae X Xz σ H s):X.s₀.heap.objs.size<=s.heap.objs.size:=OZ I.ok.above (QJ I.lt)
theorem ae.nofs(I:ae X Xz σ H s){a:VM}(h:s.heap.objs.size<=a):a ∉ X.fs:=λhb=>by
 obtain⟨_,o,ho,_⟩:=I.ok.funs.mem hb;exact absurd (OW (OB ho) (OZ I.sz h)) (Qg _)
theorem ae.cne(I:ae X Xz σ H s):∀x c,X.env.cells.lookup x=some c->c≠X.env.locals:=λx c e z=>by
 obtain⟨v,o,ho,hd⟩:=I.cell x c e;obtain⟨m,⟨o',es,ep,ho',hd',_⟩,_⟩:=I.loc;rw [z,ho'] at ho;cases ho;rw [hd'] at hd;cases hd
theorem ae.funs(I:ae X Xz σ H s):s.heap.FunFrames X.base X.outer:=by
 have all:∀(l:List Env),(∀b∈aX l,b∈X.fs)->X.s₀.heap.FunFrames X.base l->s.heap.FunFrames X.base l:=by
  intro l
  induction l with
  | nil=>intro _ _;trivial
  | cons env r ih=>
   intro hs hl;obtain⟨hk,⟨L,o,hf,hn,ho,hd⟩,hr⟩:=hl;have hL:L∈X.fs:=hs L (by unfold aX;rw [Qy,hf];exact O3);obtain⟨sl,e⟩:=I.base.slot L o ho (I.ok.frf L hL) hL λz=>I.ok.exfs L z hL;exact⟨hk,⟨L,_,hf,hn,e,hd⟩,ih (λb hb=>hs b (by unfold aX;rw [Qy,hf];exact OR _ hb)) hr⟩
 exact all X.outer (λ_ hb=>hb) I.ok.funs
theorem ae.stack(I:ae X Xz σ H s):s.heap.FunFrames X.base X.stack:=by
 rcases I.ok.stk with e | ⟨e,hf⟩
 ·rw [e];exact I.funs
 ·rw [e];obtain⟨m,hn,_⟩:=I.loc;refine .cons (by rw [I.ok.kind];decide) hf hn ?_ I.funs;exact Heap.get?_none_of_le (OZ I.ok.bsz I.ok.above)
theorem ae.stkSub(I:ae X Xz σ H s):∀b∈aX X.stack,b∈X.env.locals::X.fs:=λb hb=>by
 rcases I.ok.stk with e | ⟨e,hf⟩
 ·rw [e] at hb;exact OR _ hb
 ·rw [e] at hb;unfold aX at hb;rw [Qy,hf] at hb;exact hb
theorem ae.stkFree(I:ae X Xz σ H s):∀b∈aX X.stack,H b=none:=λb hb=>by
 rcases Ox.mp (I.stkSub b hb) with e | hb
 ·rw [e];exact I.free
 ·obtain⟨_,o,ho,_⟩:=I.ok.funs.mem hb;exact I.base.free b o ho (I.ok.frf b hb) λz=>I.ok.exfs b z hb
theorem ae.step{g':Array Xx}{t':Nat}{d':Drawn}{ch:List VM}(I:ae X Xz σ H s)
 (hch:∀b∈ch,(b∈X.ex\/X.s₀.heap.objs.size<=b)/\b≠X.env.locals/\(∀x c,X.env.cells.lookup x=some c->c≠b)/\∀p∈X.pn++Xz,p.1≠b)
 (keep:∀b o,b≠X.env.locals->b ∉ X.fs->b ∉ ch->s.heap.get? b=some o->H b=none->h'.get? b=some o)
 (slot:∀b o,b≠X.env.locals->b∈X.fs->b ∉ ch->s.heap.get? b=some o->H b=none->∃sl,h'.get? b=some {o with slots:=sl})(free:∀b o,b ∉ ch->s.heap.get? b=some o->H b=none->H' b=none)
 (there:∀b o,b ∉ ch->s.heap.get? b=some o->∃o',h'.get? b=some o')
 (tups:∀b xs,H b=some (.tup xs)->H' b=some (.tup xs))(frzs:∀b o u,H b=some (.frz o u)->H' b=some (.frz o u))(tbls:∀b ps,H b=some (.tbl ps)->∃more,H' b=some (.tbl (ps++more)))
 (ns:∀m,s.heap.Ns X.env.locals m->h'.Ns X.env.locals m)(hok:bJ X.prog X.w H' h')(hg:WT g'):
 ae X Xz σ H' {s with heap:=h',gens:=g',drawn:=d',toks:=t'}:=by
 have neL:∀b o,X.s₀.heap.get? b=some o->b≠X.env.locals:=λb o e=>OX (OW (OB e) I.ok.above);have neC:∀b o,X.s₀.heap.get? b=some o->b ∉ X.ex->b ∉ ch:=λb o e hx hb=>by
  rcases(hch b hb).1 with z | z
  ·exact hx z
  ·exact absurd (OW (OB e) z) (Qg _)
 have cellK:∀x c,X.env.cells.lookup x=some c->∀v,s.heap.IsCell c v->h'.IsCell c v:=λx c e v uu1=>by
  obtain⟨o,ho,hd⟩:=uu1;have nch:c ∉ ch:=λz=>(hch c z).2.2.1 x c e rfl;by_cases hc:c∈X.fs
  ·obtain⟨sl,q⟩:=slot c o (I.cne x c e) hc nch ho (I.freeC x c e);exact⟨_,q,hd⟩
  ·exact⟨o,keep c o (I.cne x c e) hc nch ho (I.freeC x c e),hd⟩
 refine⟨I.ok,I.os,hg,⟨λb o e n hb hx=>?_,λb o e n hb hx=>?_,λb o e n hx=>?_,λb o e hx=>?_,λb xs e=>tups b xs (I.base.tups b xs e),λb o xs e=>frzs b o xs (I.base.frzs b o xs e),λb ps e=>?_⟩,?_,λx c e=>?_,?_,λx c e=>?_,λp hp=>?_,hok,I.len⟩
 ·exact keep b o (neL b o e) hb (neC b o e hx) (I.base.keep b o e n hb hx) (I.base.free b o e n hx)
 ·obtain⟨sl,e1⟩:=I.base.slot b o e n hb hx;obtain⟨sl',e2⟩:=slot b _ (neL b o e) hb (neC b o e hx) e1 (I.base.free b o e n hx);exact⟨sl',e2⟩
 ·obtain⟨o',e1⟩:=I.base.there b o e hx;exact free b o' (neC b o e hx) e1 (I.base.free b o e n hx)
 ·obtain⟨o',e1⟩:=I.base.there b o e hx;exact there b o' (neC b o e hx) e1
 ·obtain⟨m1,e1⟩:=I.base.tbls b ps e;obtain⟨m2,e2⟩:=tbls b _ e1;exact⟨m1++m2,by rw [e2,Ss]⟩
 ·obtain⟨m,hn,hl⟩:=I.loc;refine⟨m,ns m hn,λi x v e1 e2 e3=>?_⟩;obtain⟨u,r,l⟩:=hl i x v e1 e2 e3;refine⟨u,r,?_⟩;rcases l with l | ⟨k,c,e,z⟩
  ·exact .inl l
  ·exact .inr ⟨k,c,e,cellK x c e _ z⟩
 ·obtain⟨v,z⟩:=I.cell x c e;exact⟨v,cellK x c e v z⟩
 ·obtain⟨m,⟨o,_,_,ho,_⟩,_⟩:=I.loc;exact free _ o (λz=>(hch _ z).2.1 rfl) ho I.free
 ·obtain⟨v,o,ho,hd⟩:=I.cell x c e;exact free c o (λz=>(hch c z).2.2.1 x c e rfl) ho (I.freeC x c e)
 ·obtain⟨e,n,ne,nf,d⟩:=I.pin p hp;have nch:p.1 ∉ ch:=λz=>(hch p.1 z).2.2.2 p hp rfl;exact⟨keep p.1 p.2 ne nf nch e n,free p.1 p.2 nch e n,ne,nf,d⟩
theorem ae.un{t':Nat}(I:ae X Xz σ H s)(u:Un X.fs [] H H' s.heap h')(hok:bJ X.prog X.w H' h'):ae X Xz σ H' {s with heap:=h',toks:=t'}:=by
 obtain⟨m,⟨o,es,ep,ho,r⟩,_⟩:=id I.loc;obtain⟨sl,hL⟩:=u.any ho I.free VH;exact I.step (g':=s.gens) (d':=s.drawn) (ch:=[]) (λ_ z=>nomatch z) (λb o _ hb _ e n=>u.keep b o e n hb VH) (λb o _ hb _ e n=>u.slot b o e n hb VH) (λb o _ e n=>u.free b o e n VH) (λb o _ e=>u.there b o e VH) u.tups u.frzs u.tbls (λm' hm=>by
  obtain⟨o',es',ep',ho',r'⟩:=hm;rw [ho] at ho';cases ho';exact⟨_,es',ep',hL,r'⟩) hok I.bare
theorem ae.call{g':Array Xx}{t':Nat}{d':Drawn}{ch:List VM}(I:ae X Xz σ H s)(u:Un (aX X.stack) ch H H' s.heap h')(hok:bJ X.prog X.w H' h')(hg:WT g')
 (hch:∀b∈ch,(b∈X.ex\/X.s₀.heap.objs.size<=b)/\b≠X.env.locals/\(∀x c,X.env.cells.lookup x=some c->c≠b)/\∀p∈X.pn++Xz,p.1≠b):
 ae X Xz σ H' {s with heap:=h',gens:=g',drawn:=d',toks:=t'}:=by
 obtain⟨m,⟨o,es,ep,ho,r⟩,_⟩:=id I.loc;obtain⟨sl,hL⟩:=u.any ho I.free λz=>(hch _ z).2.1 rfl;exact I.step (ch:=ch) hch (λb o hL hb hc e n=>u.keep b o e n (λz=>(Ox.mp (I.stkSub b z)).elim hL hb) hc) (λb o _ _ hc e n=>u.any e n hc) (λb o hc e n=>u.free b o e n hc) (λb o hc e=>u.there b o e hc) u.tups u.frzs u.tbls (λm' hm=>by
  obtain⟨o',es',ep',ho',r'⟩:=hm;rw [ho] at ho';cases ho';exact⟨_,es',ep',hL,r'⟩) hok hg
theorem ae.turned{t':Nat}{it:VM}(I:ae X Xz σ H s)(k:∀b o,b≠it->s.heap.get? b=some o->h'.get? b=some o)(hn:H it=none)(hL:it≠X.env.locals)
 (h1:it∈X.ex\/X.s₀.heap.objs.size<=it)(h2:∀x c,X.env.cells.lookup x=some c->c≠it)(h3:∀p∈X.pn++Xz,p.1≠it):ae X Xz σ H {s with heap:=h',toks:=t'}:=by
 have nit:∀b u,H b=some u->b≠it:=λb u e z=>by rw [z,hn] at e;cases e
 refine I.step (g':=s.gens) (d':=s.drawn) (ch:=[it]) (λb hb=>?_) (λb o _ _ hc e _=>k b o (λz=>hc (by simp [z])) e) (λb o _ _ hc e _=>⟨o.slots,k b o (λz=>hc (by simp [z])) e⟩) (λ_ _ _ _ n=>n)
  (λb o hc e=>⟨o,k b o (λz=>hc (by simp [z])) e⟩) (λ_ _ e=>e) (λ_ _ _ e=>e) (λb ps e=>⟨#[],by rw [e];simp⟩) (λm hm=>?_) (λb u e=>?_) I.bare
 ·have e:b=it:=by simpa using hb
  subst e;exact⟨h1,hL,h2,h3⟩
 ·obtain⟨o,es,ep,ho,r⟩:=hm;exact⟨o,es,ep,k _ o (Ne.symm hL) ho,r⟩
 ·refine(I.hok b u e).stay (λc v hc q=>k c v ?_ q) (λ_ q=>q) (λ_ _ q=>q) λ_ _ q=>q;rcases hc with z | z
  ·rw [z];exact nit b u e
  ·exact nit c _ z
theorem ae.tok(I:ae X Xz σ H s)(t:Nat):ae X Xz σ H {s with toks:=t}:=I.un (h':=s.heap) (t':=t) Un.refl I.hok
theorem ae.kept{t':Nat}(I:ae X Xz σ H s)(k:∀b u,s.heap.get? b=some u->h'.get? b=some u):ae X Xz σ H {s with heap:=h',toks:=t'}:=I.un (Un.kept k) (I.hok.kept k)
theorem ae.laid{a:VM}{o:HO}{t':Nat}(I:ae X Xz σ H s)(k:∀b u,s.heap.get? b=some u->h'.get? b=some u)(hp:s.heap.objs.size<=a)(new:bI X.prog X.w (av H a o) h' a o):
 ae X Xz σ (av H a o) {s with heap:=h',toks:=t'}:=I.un (Un.laid k hp (I.hok.fresh hp)) (I.hok.laid k hp new)
theorem ae.write{x e:VM}{o:HO}{t':Nat}(I:ae X Xz σ H s)(mu:j7 (H x))(he:e=x\/H e=some (.own x))(k:∀b u,b≠e->s.heap.get? b=some u->h'.get? b=some u)(heo:∃u,h'.get? e=some u)
 (new:bI X.prog X.w (av H x o) h' x o):ae X Xz σ (av H x o) {s with heap:=h',toks:=t'}:=I.un (Un.write mu he k heo) (I.hok.write mu he k heo new)
theorem ae.weak{σ':List (Option V)}(I:ae X Xz σ H s)(hl:σ'.length=σ.length)(w:∀(i:Nat) v,σ'[i]?=some (some v)->σ[i]?=some (some v)):ae X Xz σ' H s:=
 ⟨I.ok,I.os,I.bare,I.base,let ⟨m,hn,hl'⟩:=I.loc;⟨m,hn,λi x v e1 e2 e3=>hl' i x v e1 (w i v e2) e3⟩,I.cell,I.free,I.freeC,I.pin,I.hok,hl.trans I.len⟩
theorem ae.pins_of{pins':List (VM×Obj)}(I:ae X Xz σ H s)(h:∀p∈pins',s.heap.get? p.1=some p.2/\H p.1=none/\p.1≠X.env.locals/\p.1 ∉ X.fs/\∀v,p.2.data≠ .cell v):ae X pins' σ H s:=
 ⟨I.ok,I.os,I.bare,I.base,I.loc,I.cell,I.free,I.freeC,λp hp=>(OJ.mp hp).elim (λz=>I.pin p (Pz _ z)) (h p),I.hok,I.len⟩
theorem qr{N:List Str}(hN:N.Nodup){i j:Nat}{x:Str}(a:N[i]?=some x)(b:N[j]?=some x):i=j:=by
 obtain⟨h1,e1⟩:=Oy.mp a;obtain⟨h2,e2⟩:=Oy.mp b;exact(S5 hN).mp (e1.trans e2.symm)
theorem uV{M:Model}{A:V1}{E:VJ->VN->Prop}{i:Nat}{x:Str}{v:V}{u:VJ}{Q:Unit->VN->Prop}(I:ae X Xz σ H s)(hN:X.N.Nodup)(hi:X.N[i]?=some x)(hx:gY X.env.scope x)(r:aH v u)
 (h:∀s',ae X Xz (σ.set i (some v)) H s'->(∃a,QY a s.heap s'.heap/\(a=X.env.locals\/X.env.cells.lookup x=some a))->Q () s')(hf:X.fn x=true\/X.env.scope.names.lookup x=some .local:=by first | exact .inl rfl | exact .inr rfl | assumption):VQ M A (storeName X.env x u) Q E s:=by
 obtain⟨m,hn,hl⟩:=id I.loc;have hcls:(X.env.scope.kind== .class || (X.env.scope.kind== .module && X.env.locals !=X.env.globals))=false:=by rw [I.ok.kind];rfl
 have hiσ:i < σ.length:=by rw [I.len];exact(Oy.mp hi).1
 have cne:=I.cne;have tracked:∀{a:VM}{h':VY},(∃o,s.heap.get? a=some o/\H a=none)->QY a s.heap h'->bJ X.prog X.w H h':=λ{a h'} ha hs b ob e=>by
  obtain⟨_,_,hfree⟩:=ha;refine(I.hok b ob e).stay (λc w' hc q=>(hs.2 c ?_).trans q) (λ_ q=>q) (λ_ _ q=>q) λ_ _ q=>q;rintro rfl;rcases hc with rfl | hc
  ·rw [hfree] at e;cases e
  ·rw [hfree] at hc;cases hc
 rcases hx with hk | hk
 ·refine wpAny_storeName_local hk hn (λh' hn' hs=>?_) hcls;obtain⟨oL,_,_,hoL,_⟩:=id hn;refine h _ ⟨I.ok,I.os,I.bare,⟨λb o e n hb hx=>?_,λb o e n hb hx=>?_,I.base.free,λb o e hx=>?_,I.base.tups,I.base.frzs,I.base.tbls⟩,⟨_,hn',λj y v' e1 e2 e3=>?_⟩,λy c e=>?_,I.free,I.freeC,λp hp=>?_,tracked ⟨oL,hoL,I.free⟩ hs,by simpa using I.len⟩ ⟨_,hs,.inl rfl⟩
  ·exact(hs.2 b (OX (OW (OB e) I.ok.above))).trans (I.base.keep b o e n hb hx)
  ·obtain⟨sl,e1⟩:=I.base.slot b o e n hb hx;exact⟨sl,(hs.2 b (OX (OW (OB e) I.ok.above))).trans e1⟩
  ·obtain⟨o',e1⟩:=I.base.there b o e hx;exact⟨o',(hs.2 b (OX (OW (OB e) I.ok.above))).trans e1⟩
  ·by_cases hj:j=i
   ·subst hj;rw [hi] at e1;cases e1;rw [Pb hiσ] at e2;cases e2;exact⟨u,r,.inl ⟨hk,VH⟩⟩
   ·rw [OY (Ne.symm hj)] at e2;obtain⟨u',r',q⟩:=hl j y v' e1 e2 e3;refine⟨u',r',?_⟩;rcases q with⟨k,e⟩ | ⟨k,c,e,z⟩
    ·refine .inl ⟨k,?_⟩;have:y≠x:=λe=>hj (qr hN e1 (e▸hi));simp [this,e]
    ·exact .inr ⟨k,c,e,z.sameBut hs (cne y c e)⟩
  ·obtain⟨w',z⟩:=I.cell y c e;exact⟨w',z.sameBut hs (cne y c e)⟩
  ·obtain⟨e,n,ne,nf,d⟩:=I.pin p hp;exact⟨(hs.2 p.1 ne).trans e,n,ne,nf,d⟩
 ·have hfn:X.fn x=true:=by
   rcases hf with z | z
   ·exact z
   ·rw [z] at hk;cases hk
  obtain⟨c,hc⟩:=I.ok.has x (.inl hk);obtain⟨w',z⟩:=I.cell x c hc;refine wpAny_storeName_cell I.ok.kind hk hc z (λh' hc' hs=>?_);obtain⟨oc,hoc,hocd⟩:=id z;refine h {s with heap:=h'} ⟨I.ok,I.os,I.bare,⟨λb o e n hb hx=>?_,λb o e n hb hx=>?_,I.base.free,λb o e hx=>?_,I.base.tups,I.base.frzs,I.base.tbls⟩,⟨m,hn.sameBut hs (Ne.symm (cne x c hc)),λj y v' e1 e2 e3=>?_⟩,λy c' e=>?_,I.free,I.freeC,λp hp=>?_,tracked ⟨oc,hoc,I.freeC x c hc⟩ hs,by simpa using I.len⟩ ⟨c,hs,.inr hc⟩
  ·exact(hs.2 b (OX (OW (OB e) (I.ok.cab x c hfn hc)))).trans (I.base.keep b o e n hb hx)
  ·obtain⟨sl,e1⟩:=I.base.slot b o e n hb hx;exact⟨sl,(hs.2 b (OX (OW (OB e) (I.ok.cab x c hfn hc)))).trans e1⟩
  ·obtain⟨o',e1⟩:=I.base.there b o e hx;exact⟨o',(hs.2 b (OX (OW (OB e) (I.ok.cab x c hfn hc)))).trans e1⟩
  ·by_cases hj:j=i
   ·subst hj;rw [hi] at e1;cases e1;rw [Pb hiσ] at e2;cases e2;exact⟨u,r,.inr ⟨.inl hk,c,hc,hc'⟩⟩
   ·rw [OY (Ne.symm hj)] at e2;obtain⟨u',r',q⟩:=hl j y v' e1 e2 e3;refine⟨u',r',?_⟩;rcases q with q | ⟨k,c',e,z'⟩
    ·exact .inl q
    ·refine .inr ⟨k,c',e,z'.sameBut hs ?_⟩;rintro rfl;exact hj (qr hN e1 (I.ok.inj _ _ _ e hc▸hi))
  ·by_cases hcc:c'=c
   ·subst hcc;exact⟨_,hc'⟩
   ·obtain⟨w2,z2⟩:=I.cell y c' e;exact⟨w2,z2.sameBut hs hcc⟩
  ·obtain⟨e,n,ne,nf,d⟩:=I.pin p hp;refine⟨(hs.2 p.1 ?_).trans e,n,ne,nf,d⟩;intro q;rw [q,hoc] at e;have q':oc=p.2:=Pk e;exact d w' (by rw [<-q'];exact hocd)
theorem j9{M:Model}{A:V1}{E:VJ->VN->Prop}{i:Nat}{x:Str}{v:V}{u:VJ}{Q:Unit->VN->Prop}(I:ae X Xz σ H s)(hN:X.N.Nodup)(hi:X.N[i]?=some x)(hx:gY X.env.scope x)(r:aH v u)
 (h:∀s',ae X Xz (σ.set i (some v)) H s'->Q () s')(hf:X.fn x=true\/X.env.scope.names.lookup x=some .local:=by first | exact .inl rfl | exact .inr rfl | assumption):VQ M A (storeName X.env x u) Q E s:=
 uV I hN hi hx r (λs' I' _=>h s' I') hf
theorem ae.call'{s':VN}{ch:List VM}(I:ae X Xz σ H s)(ho:s'.os=s.os)(u:Un (aX X.stack) ch H H' s.heap s'.heap)(hok:bJ X.prog X.w H' s'.heap)(hg:WT s'.gens)
 (hch:∀b∈ch,(b∈X.ex\/X.s₀.heap.objs.size<=b)/\b≠X.env.locals/\(∀x c,X.env.cells.lookup x=some c->c≠b)/\∀p∈X.pn++Xz,p.1≠b):ae X Xz σ H' s':=by
 obtain⟨h',g',d',t',o'⟩:=s';have e:o'=s.os:=ho;subst e;exact I.call (g':=g') (t':=t') (d':=d') u hok hg hch
end
abbrev XK:=VJ->Option VM->Hp->Prop
abbrev St:=List (Option V)
abbrev VK:=V->Hp->Prop
abbrev TE:=St->Hp->VK->Prop
abbrev TT:=St->Hp->(Bool->Hp->Prop)->Prop
abbrev TA:=St->Hp->(List V->Hp->Prop)->Prop
structure ix where
 nx:St->Hp->Prop
 rt:VK
 bk:St->Hp->Prop:=λ_ _=>False
 ct:St->Hp->Prop:=λ_ _=>False
abbrev TS:=ix->St->Hp->Prop
inductive EP (X:Cx) (Xz:List (VM×Obj)) (σ:St) (Q:VK) (u:VJ) (s':VN):Prop
 | mk (v:V) (H':Hp):ae X Xz σ H' s'->aH v u->Q v H'->EP X Xz σ Q u s'
inductive TP (X:Cx) (Xz:List (VM×Obj)) (σ:St) (Q:Bool->Hp->Prop) (b:Bool) (s':VN):Prop
 | mk (H':Hp):ae X Xz σ H' s'->Q b H'->TP X Xz σ Q b s'
inductive AP (X:Cx) (Xz:List (VM×Obj)) (σ:St) (Q:List V->Hp->Prop) (us:List VJ) (s':VN):Prop
 | mk (vs:List V) (H':Hp):ae X Xz σ H' s'->aI vs us->Q vs H'->AP X Xz σ Q us s'
def SP(X:Cx)(Xz:List (VM×Obj))(D:ix)(f:Flow)(s':VN):Prop:=
 match f with
 | .next=>∃σ' H',ae X Xz σ' H' s'/\D.nx σ' H'
 | .brk=>∃σ' H',ae X Xz σ' H' s'/\D.bk σ' H'
 | .cont=>∃σ' H',ae X Xz σ' H' s'/\D.ct σ' H'
 | .ret u=>∃v σ' H',ae X Xz σ' H' s'/\aH v u/\D.rt v H'
def PE(X:Cx)(e:VR)(t:TE):Prop:=
 ∀(Xz:List (VM×Obj))(s:VN)(σ:St)(H:Hp)(Q:VK),ae X Xz σ H s->t σ H Q->VQ (VS X.prog X.w) X.A (eval e X.env) (EP X Xz σ Q) X.xe s
def PT(X:Cx)(e:VR)(t:TT):Prop:=
 ∀(Xz:List (VM×Obj))(s:VN)(σ:St)(H:Hp)(Q:Bool->Hp->Prop),ae X Xz σ H s->t σ H Q->VQ (VS X.prog X.w) X.A (isTrue e X.env (eval e X.env)) (TP X Xz σ Q) X.xe s
def PW(X:Cx)(e:VR)(t:TT):Prop:=
 ∀(whole:Sem VJ)(Xz:List (VM×Obj))(s:VN)(σ:St)(H:Hp)(Q:Bool->Hp->Prop),ae X Xz σ H s->t σ H Q->VQ (VS X.prog X.w) X.A (isTrue e X.env whole) (TP X Xz σ Q) X.xe s
theorem PW.pt{X:Cx}{e:VR}{t:TT}(h:PW X e t):PT X e t:=h _
def PA(X:Cx)(es:List VR)(t:TA):Prop:=
 ∀(pos:Pos)(Xz:List (VM×Obj))(s:VN)(σ:St)(H:Hp)(Q:List V->Hp->Prop),ae X Xz σ H s->t σ H Q->VQ (VS X.prog X.w) X.A (spliced (V6 pos (VP es X.env))) (AP X Xz σ Q) X.xe s
def PS(X:Cx)(st:V0)(t:TS):Prop:=
 ∀(Xz:List (VM×Obj))(s:VN)(σ:St)(H:Hp)(D:ix),ae X Xz σ H s->t D σ H->VQ (VS X.prog X.w) X.A (exec st X.env) (SP X Xz D) X.xe s
def bD(X:Cx)(st:List V0)(t:TS):Prop:=
 ∀(Xz:List (VM×Obj))(s:VN)(σ:St)(H:Hp)(D:ix),ae X Xz σ H s->t D σ H->VQ (VS X.prog X.w) X.A (execs st X.env) (SP X Xz D) X.xe s
theorem az{α:Type}{t:Sem α}{Q Q':α->VN->Prop}{M:Model}{A:V1}{E:VJ->VN->Prop}{s:VN}(h:VQ M A t Q E s)(hQ:∀a s,Q a s->Q' a s):VQ M A t Q' E s:=V8 h hQ λ_ _ x=>x
section
variable {X:Cx}
theorem Oc{a b:VR}{ta tb:TE}(ha:PE X a ta)(hb:PE X b tb){Xz:List (VM×Obj)}{s:VN}{σ:St}{H:Hp}{R:V->V->Hp->Prop}(I:ae X Xz σ H s)(h:ta σ H λx H1=>tb σ H1 λy H2=>R x y H2)
 {α:Type}{Q:α->VN->Prop}{f:VJ->VJ->Sem α}
 (hf:∀v u s2 x y H2,ae X Xz σ H2 s2->aH x v->aH y u->R x y H2->VQ (VS X.prog X.w) X.A (f v u) Q X.xe s2):
 VQ (VS X.prog X.w) X.A (eval a X.env) (λv s₁=>VQ (VS X.prog X.w) X.A (eval b X.env) (λu s₂=>VQ (VS X.prog X.w) X.A (f v u) Q X.xe s₂) X.xe s₁) X.xe s:=by
 refine az (ha Xz s σ H _ I h) λv s1 ⟨x,H1,I1,r1,q1⟩=>?_;refine az (hb Xz s1 σ H1 _ I1 q1) λu s2 ⟨y,H2,I2,r2,q2⟩=>?_;exact hf v u s2 x y H2 I2 r1 r2 q2
def dR(i:Nat):TE:=λσ H Q=>∃v,σ[i]?=some (some v)/\Q v H
def tC(v:V):TE:=λ_ H Q=>Q v H
theorem nu{i:Nat}{x:Str}{pos:Pos}(hN:X.N[i]?=some x)(hv:iw X.env.scope x)(hd:(x==("__debug__":Str))=false:=by decide)(hcd:(x==("__classdict__":Str))=false:=by decide):PE X (.Name x pos) (dR i):=by
 intro Xz s σ H Q I h;obtain⟨v,e,h⟩:=h;obtain⟨m,hn,hl⟩:=I.loc;obtain⟨u,r,l⟩:=hl i x v hN e hv;have fin:EP X Xz σ Q u s:=⟨v,H,I,r,h⟩;rcases l with⟨hk,hm⟩ | ⟨hk,c,hc,hcell⟩
 ·exact W6 (wpAny_loadName_local I.ok.kind hk hn hm fin) hd
 ·rcases hk with hk | hk
  ·exact W6 (wpAny_loadName_cell I.ok.kind hk hc hcell fin) hd
  ·exact W6 (wpAny_loadName_free I.ok.kind hk hc hcell fin hcd) hd
theorem cL{i j pos}:PE X (.Constant (.int i) j pos) (tC (.int i)):=λ_ _ _ H _ I h=>wpAny_Constant_int ⟨.int i,H,I.tok _,⟨_,rfl⟩,h⟩
theorem uW{b j pos}:PE X (.Constant (.bool b) j pos) (tC (.bl b)):=λ_ _ _ H _ I h=>Constant_bool ⟨.bl b,H,I,rfl,h⟩
theorem uX{j pos}:PE X (.Constant .none j pos) (tC .non):=λ_ _ _ H _ I h=>Constant_none ⟨.non,H,I,rfl,h⟩
theorem EZ{x j pos}:PE X (.Constant (.str x) j pos) (tC (.str x)):=λ_ _ _ H _ I h=>Calls.Constant_str ⟨.str x,H,I.tok _,⟨_,rfl⟩,h⟩
def Gl(X:Cx)(x:Str):Prop:=X.env.kindOf x=some .globalImplicit
theorem kc{E:VJ->VN->Prop}{Xz:List (VM×Obj)}{s:VN}{σ:St}{H:Hp}{x:Str}{u:VJ}{pos:Pos}{Q:VJ->VN->Prop}(I:ae X Xz σ H s)(hg:Gl X x)(hm:X.mg x=some u)(h:Q u s)
 (hd:(x==("__debug__":Str))=false:=by decide):VQ (VS X.prog X.w) X.A (eval (.Name x pos) X.env) Q E s:=
 SF I.ok.kind hg (Calls.loadGlobal_global (by rw [I.ok.glob];exact I.mod.glob.keeps I.bk) hm h) hd
theorem ke{E:VJ->VN->Prop}{Xz:List (VM×Obj)}{s:VN}{σ:St}{H:Hp}{x:Str}{u:VJ}{pos:Pos}{Q:VJ->VN->Prop}(I:ae X Xz σ H s)(hg:Gl X x)(hm:X.mg x=none)(hv:V3 x=some u)(h:Q u s)
 (hn:x≠"__name__":=by decide)(hd:(x==("__debug__":Str))=false:=by decide):VQ (VS X.prog X.w) X.A (eval (.Name x pos) X.env) Q E s:=by
 obtain⟨mb,h1,h2⟩:=I.mod.blt;exact SF I.ok.kind hg (Calls.loadGlobal_builtin (by rw [I.ok.glob];exact I.mod.glob.keeps I.bk) hm (by rw [I.ok.blt];exact h1.keeps I.bk) ((h2 x hn).trans hv) h) hd
theorem dS{x:Str}{v:V}{u:VJ}{pos:Pos}(hg:Gl X x)(hm:X.mg x=some u)(r:aH v u)(hd:(x==("__debug__":Str))=false:=by decide):PE X (.Name x pos) (tC v):=
 λ_ _ _ H _ I h=>kc I hg hm ⟨v,H,I,r,h⟩ hd
theorem eX{x:Str}{v:V}{u:VJ}{pos:Pos}(hg:Gl X x)(hm:X.mg x=none)(hv:V3 x=some u)(r:aH v u)(hn:x≠"__name__":=by decide)(hd:(x==("__debug__":Str))=false:=by decide):PE X (.Name x pos) (tC v):=
 λ_ _ _ H _ I h=>ke I hg hm hv ⟨v,H,I,r,h⟩ hn hd
variable {a b:VR} {ta tb:TE} {pos:Pos}
def PC(X:Cx)(op:CmpOp)(a b:VR)(t:TE):Prop:=
 ∀(Xz:List (VM×Obj))(s:VN)(σ:St)(H:Hp)(Q:VK),ae X Xz σ H s->t σ H Q->
  VQ (VS X.prog X.w) X.A (eval a X.env) (λv s₁=>VQ (VS X.prog X.w) X.A (eval b X.env) (λu s₂=>VQ (VS X.prog X.w) X.A (V2 op v u) (EP X Xz σ Q) X.xe s₂) X.xe s₁) X.xe s
theorem E1(b:VR){op:CmpOp}(h:op≠ .In)(h2:op≠ .NotIn):Wg op b=false:=by
 have e1:(op==CmpOp.In)=false:=by cases op <;> first | rfl | exact absurd rfl h
 have e2:(op==Vo)=false:=by cases op <;> first | rfl | exact absurd rfl h2
 cases b <;> simp [Wg,e1,e2]
def tB(t:TE):TT:=λσ H Q=>t σ H λx H1=>∃c,x= .bl c/\Q c H1
theorem nv{op:CmpOp}{t:TE}(h:PC X op a b t)(h1:Wg op b=false:=by first | exact E1 _ VC VC | rfl):PT X (.Compare a [op] [b] pos) (tB t):=by
 intro Xz s σ H Q I hw;refine wpAny_isTrue_Compare1 (az (h Xz s σ H _ I hw) λv s1 h1=>az h1 λu s2 h2=>az h2 λc s3 ⟨x,H1,I1,r1,q1⟩=>?_) h1;obtain⟨d,rfl,q⟩:=q1;cases r1;exact V7 ⟨H1,I1,q⟩
theorem uY{e:VR}{t:TE}(h:PE X e t)(he:∀whole,isTrue e X.env whole=(do let v<-whole;standAt e.pos;holding [v] (truthy v)):=by intro _;rfl):PT X e (tB t):=by
 intro Xz s σ H Q I hw;refine isTrue_plain (az (h Xz s σ H _ I hw) λv s1 ⟨x,H1,I1,r1,q1⟩=>?_) (he _);obtain⟨d,rfl,q⟩:=q1;cases r1;exact V7 ⟨H1,I1,q⟩
variable {tA tB':TT} {rest:List VR}
def qu(t u:TT):TT:=λσ H Q=>t σ H λc H1=>if c=true then u σ H1 Q else Q false H1
def qv(t u:TT):TT:=λσ H Q=>t σ H λc H1=>if c=true then Q true H1 else u σ H1 Q
def qw(t:TT):TT:=λσ H Q=>t σ H λc H1=>Q (!c) H1
theorem E2(ha:PT X a tA):PW X (.BoolOp .And [a] pos) tA:=by
 intro wh Xz s σ H Q I h;refine isTrue_and (az (ha Xz s σ H Q I h) λc s1 e=>?_);cases c with
 | true=>exact isTrue_and_nil e
 | false=>exact e
theorem uZ(ha:PT X a tA):PW X (.BoolOp .Or [a] pos) tA:=by
 intro wh Xz s σ H Q I h;refine isTrue_or (az (ha Xz s σ H Q I h) λc s1 e=>?_);cases c with
 | false=>exact isTrue_or_nil e
 | true=>exact e
theorem E3(ha:PT X a tA)(hb:PW X (.BoolOp .And (b::rest) pos) tB'):PW X (.BoolOp .And (a::b::rest) pos) (qu tA tB'):=by
 intro wh Xz s σ H Q I h;refine isTrue_and (az (ha Xz s σ H _ I h) λc s1 ⟨H1,I1,q1⟩=>?_);cases c with
 | true=>exact hb wh Xz s1 σ H1 Q I1 q1
 | false=>exact⟨H1,I1,q1⟩
theorem u5(ha:PT X a tA)(hb:PW X (.BoolOp .Or (b::rest) pos) tB'):PW X (.BoolOp .Or (a::b::rest) pos) (qv tA tB'):=by
 intro wh Xz s σ H Q I h;refine isTrue_or (az (ha Xz s σ H _ I h) λc s1 ⟨H1,I1,q1⟩=>?_);cases c with
 | true=>exact⟨H1,I1,q1⟩
 | false=>exact hb wh Xz s1 σ H1 Q I1 q1
theorem E4(ha:PT X a tA):PT X (.UnaryOp .Not a pos) (qw tA):=by
 intro Xz s σ H Q I h;exact isTrue_not (az (ha Xz s σ H (λc H1=>Q (!c) H1) I h) λc s1 uu8=>by obtain⟨H1,I1,q⟩:=uu8;exact⟨H1,I1,q⟩)
def qx(ta tb:TE):TE:=λσ H Q=>ta σ H λx H1=>∃c,x= .bl c/\if c=true then tb σ H1 Q else Q (.bl false) H1
def qy(ta tb:TE):TE:=λσ H Q=>ta σ H λx H1=>∃c,x= .bl c/\if c=true then Q (.bl true) H1 else tb σ H1 Q
def qz(ta:TE):TE:=λσ H Q=>ta σ H λx H1=>∃c,x= .bl c/\Q (.bl (!c)) H1
theorem u7{op}{t:TE}(h:PE X a t):PE X (.BoolOp op [a] pos) t:=λXz s σ H Q I hw=>BoolOp_one (h Xz s σ H Q I hw)
theorem va(ha:PE X a ta)(hb:PE X (.BoolOp .And (b::rest) pos) tb):PE X (.BoolOp .And (a::b::rest) pos) (qx ta tb):=by
 intro Xz s σ H Q I h;refine BoolOp_and (az (ha Xz s σ H _ I h) λv s1 ⟨x,H1,I1,r1,q1⟩=>?_);obtain⟨c,rfl,q1⟩:=q1;cases r1;refine V7 ?_;cases c with
 | true=>exact hb Xz s1 σ H1 Q I1 q1
 | false=>exact⟨.bl false,H1,I1,rfl,q1⟩
theorem E5(ha:PE X a ta)(hb:PE X (.BoolOp .Or (b::rest) pos) tb):PE X (.BoolOp .Or (a::b::rest) pos) (qy ta tb):=by
 intro Xz s σ H Q I h;refine BoolOp_or (az (ha Xz s σ H _ I h) λv s1 ⟨x,H1,I1,r1,q1⟩=>?_);obtain⟨c,rfl,q1⟩:=q1;cases r1;refine V7 ?_;cases c with
 | false=>exact hb Xz s1 σ H1 Q I1 q1
 | true=>exact⟨.bl true,H1,I1,rfl,q1⟩
theorem E6(ha:PE X a ta):PE X (.UnaryOp .Not a pos) (qz ta):=by
 intro Xz s σ H Q I h;refine UnaryOp_ (az (ha Xz s σ H _ I h) λv s1 ⟨x,H1,I1,r1,q1⟩=>?_);obtain⟨c,rfl,q1⟩:=q1;cases r1;exact not_of (V7 ⟨.bl (!c),H1,I1,rfl,q1⟩)
def qA(t:TT)(ta tb:TE):TE:=λσ H Q=>t σ H λc H1=>if c=true then ta σ H1 Q else tb σ H1 Q
theorem E7{c:VR}(hc:PT X c tA)(ha:PE X a ta)(hb:PE X b tb):PE X (.IfExp c a b pos) (qA tA ta tb):=by
 intro Xz s σ H Q I h;refine wpAny_IfExp (az (hc Xz s σ H _ I h) λd s1 ⟨H1,I1,q1⟩=>?_);cases d with
 | true=>exact ha Xz s1 σ H1 Q I1 q1
 | false=>exact hb Xz s1 σ H1 Q I1 q1
end
def bf(K:Og)(H:Hp)(a:VM)(xs:List V):Prop:=
 Rd H a (.lst xs)\/
  ∃(o:Obj)(its:Array VJ)(n:Nat),K.lookup a=some o/\o.cls= .type "list"/\o.dict=none/\o.data= .seq its n/\its.size<=VT/\aI xs its.toList
def br(K:Og)(H:Hp)(a:VM)(xs:List V):Prop:=
 Rd H a (.tup xs)\/
  ∃(o:Obj)(its:Array VJ)(n:Nat),K.lookup a=some o/\o.cls= .type "tuple"/\o.data= .seq its n/\its.size<=VT/\aI xs its.toList
def E8:VJ->Option V
 | .none=>some .non
 | .bool b=>some (.bl b)
 | .int i _=>some (.int i)
 | .str x _=>some (.str x)
 | .bytes b _=>some (.byt b)
 | .float b _=>some (.flt b)
 | .ref a=>some (.ref a)
 | .type n=>some (.ty n)
 | _=>none
theorem aH.abs{x:V}{u:VJ}(r:aH x u):E8 u=some x:=by
 cases x with
 | non=>cases r;rfl
 | bl _=>cases r;rfl
 | int _=>obtain⟨t,rfl⟩:=r;rfl
 | str _=>obtain⟨t,rfl⟩:=r;rfl
 | byt _=>obtain⟨t,rfl⟩:=r;rfl
 | flt _=>obtain⟨t,rfl⟩:=r;rfl
 | ref _=>cases r;rfl
 | ty _=>cases r;rfl
theorem aH.inj{x y:V}{u:VJ}(r:aH x u)(q:aH y u):x=y:=Pk (r.abs.symm.trans q.abs)
theorem aI.inj:∀{xs ys:List V}{us:List VJ},aI xs us->aI ys us->xs=ys
 | _,_,_,.nil,.nil=>rfl
 | _,_,_,.cons r t,.cons r' t'=>by rw [r.inj r',aI.inj t t']
section
variable {X:Cx} {Xz:List (VM×Obj)} {σ:St} {H:Hp} {s:VN} {a:VM} {xs ys:List V}
theorem bf.of{K:Og}(h:H a=some (.lst xs)):bf K H a xs:= .inl (.inl h)
theorem br.of{K:Og}(h:H a=some (.tup xs)):br K H a xs:= .inl (.inl h)
theorem ae.list(I:ae X Xz σ H s)(h:bf X.K H a xs):∃its:List VJ,aI xs its/\PlainL s.heap a its.toArray/\xs.length<=VT:=by
 rcases h with h | ⟨o,its,n,hk,hc,hd,hs,hz,r⟩
 ·obtain⟨z,its,n,r,e⟩:=h.ok I.hok;exact⟨its,r,⟨_,n,e,rfl,rfl,rfl⟩,z⟩
 ·refine⟨its.toList,r,⟨o,n,I.kIn a o hk,hc,hd,by simpa using hs⟩,?_⟩;have e:=r.length;simp only [OO] at e;omega
theorem ae.tuple(I:ae X Xz σ H s)(h:br X.K H a xs):∃its:List VJ,aI xs its/\IsTup s.heap a its.toArray/\xs.length<=VT:=by
 rcases h with h | ⟨o,its,n,hk,hc,hs,hz,r⟩
 ·obtain⟨z,its,r,p⟩:=h.ok I.hok;exact⟨its,r,p,z⟩
 ·refine⟨its.toList,r,⟨o,I.kIn a o hk,hc,n,by simpa using hs⟩,?_⟩;have e:=r.length;simp only [OO] at e;omega
theorem ae.list_inj(I:ae X Xz σ H s)(h:bf X.K H a xs)(h':bf X.K H a ys):xs=ys:=by
 obtain⟨its,r,⟨o,n,e,_,_,d⟩,_⟩:=I.list h;obtain⟨its',r',⟨o',n',e',_,_,d'⟩,_⟩:=I.list h';rw [e] at e';cases e';rw [d] at d';injection d' with d1 _
 have:its=its':=by simpa using congrArg Ve d1
 subst this;exact r.inj r'
theorem ae.tuple_inj(I:ae X Xz σ H s)(h:br X.K H a xs)(h':br X.K H a ys):xs=ys:=by
 obtain⟨its,r,⟨o,e,_,n,d⟩,_⟩:=I.tuple h;obtain⟨its',r',⟨o',e',_,n',d'⟩,_⟩:=I.tuple h';rw [e] at e';cases e';rw [d] at d';injection d' with d1 _
 have:its=its':=by simpa using congrArg Ve d1
 subst this;exact r.inj r'
end
abbrev Cx.wish(X:Cx)(E:VJ->VN->Prop):Cx:={X with xe:=E}
abbrev Cx.nox(X:Cx):Cx:=X.wish λ_ _=>False
theorem Cx.Ok.wish{X:Cx}(ok:X.Ok)(E:VJ->VN->Prop):(X.wish E).Ok:=
 ⟨ok.mod,ok.kind,ok.glob,ok.blt,ok.above,ok.inj,ok.has,ok.cab,ok.hd,ok.frames,ok.stk,ok.exf,ok.bs,ok.bsz,ok.noex,ok.exfs,ok.funs,ok.frf⟩
theorem Cx.Ok.unwish{X:Cx}{E:VJ->VN->Prop}(ok:(X.wish E).Ok):X.Ok:=
 ⟨ok.mod,ok.kind,ok.glob,ok.blt,ok.above,ok.inj,ok.has,ok.cab,ok.hd,ok.frames,ok.stk,ok.exf,ok.bs,ok.bsz,ok.noex,ok.exfs,ok.funs,ok.frf⟩
section
variable {X:Cx} {Xz:List (VM×Obj)} {σ:St} {H:Hp} {s:VN} {E:VJ->VN->Prop}
theorem ae.wish(I:ae X Xz σ H s)(E:VJ->VN->Prop):ae (X.wish E) Xz σ H s:=⟨I.ok.wish E,I.os,I.bare,I.base,I.loc,I.cell,I.free,I.freeC,I.pin,I.hok,I.len⟩
theorem ae.unwish(I:ae (X.wish E) Xz σ H s):ae X Xz σ H s:=⟨I.ok.unwish,I.os,I.bare,I.base,I.loc,I.cell,I.free,I.freeC,I.pin,I.hok,I.len⟩
theorem SP.unwish{D:ix}{f:Flow}{s':VN}(h:SP (X.wish E) Xz D f s'):SP X Xz D f s':=by
 cases f with
 | next=>obtain⟨σ',H',I,q⟩:=h;exact⟨σ',H',I.unwish,q⟩
 | brk=>obtain⟨σ',H',I,q⟩:=h;exact⟨σ',H',I.unwish,q⟩
 | cont=>obtain⟨σ',H',I,q⟩:=h;exact⟨σ',H',I.unwish,q⟩
 | ret u=>obtain⟨v,σ',H',I,r,q⟩:=h;exact⟨v,σ',H',I.unwish,r,q⟩
theorem bD.nox{st:List V0}{t:TS}(h:bD X.nox st t):bD X st t:=λXz s σ H D I hw=>
 V8 (h Xz s σ H D (I.wish _) hw) (λ_ _ q=>q.unwish) λ_ _ z=>PY z
end
section
variable {X:Cx} {st:V0} {rest:List V0} {t u:TS} {e:VR} {te:TE} {pos:Pos}
def qB:TS:=λD σ H=>D.nx σ H
def qC(t u:TS):TS:=λD σ H=>t {D with nx:=u D} σ H
theorem nz:bD X [] qB:=λ_ _ σ H _ I h=>WD ⟨σ,H,I,h⟩
theorem gF(h1:PS X st t)(h2:bD X rest u):bD X (st::rest) (qC t u):=by
 intro Xz s σ H D I h;refine Xs (az (h1 Xz s σ H {D with nx:=u D} I h) λf s1 q=>?_);cases f with
 | next=>
  obtain⟨σ',H',I',q⟩:=q;exact h2 Xz s1 σ' H' D I' q
 | ret v=>exact q
 | brk=>exact q
 | cont=>exact q
theorem iX(h1:PS X st t):bD X [st] t:=by
 intro Xz s σ H D I h;refine Xs (az (h1 Xz s σ H D I h) λf s1 q=>?_);cases f with
 | next=>exact WD q
 | ret v=>exact q
 | brk=>exact q
 | cont=>exact q
theorem ae.quiet{Xz:List (VM×Obj)}{σ:St}{H:Hp}{s:VN}(I:ae X Xz σ H s):interactive X.env=false:=by simp [interactive,I.ok.kind]
def qD(te:TE):TS:=λD σ H=>te σ H λ_ H1=>D.nx σ H1
theorem lC(he:PE X e te)(hs:Wb e none pos.line X.env=pure false:=by rfl):PS X (.Expr e pos) (qD te):=by
 intro Xz s σ H D I h;exact wpAny_Expr_any (az (he Xz s σ H _ I h) λv s1 uu13=>by obtain⟨x,H1,I1,r1,q1⟩:=uu13;exact⟨σ,H1,I1,q1⟩) I.quiet hs
def qE(te:TE):TS:=λD σ H=>te σ H D.rt
theorem jv(he:PE X e te):PS X (.Return (some e) pos) (qE te):=by
 intro Xz s σ H D I h;exact wpAny_Return_some (az (he Xz s σ H _ I h) λv s1 uu14=>by obtain⟨x,H1,I1,r1,q1⟩:=uu14;exact⟨x,σ,H1,I1,r1,q1⟩)
def qF(c:TT)(t u:TS):TS:=λD σ H=>c σ H λb H1=>if b=true then t D σ H1 else u D σ H1
theorem nA{c:VR}{a b:List V0}{tc:TT}(hc:PT X c tc)(ha:bD X a t)(hb:bD X b u):PS X (.If c a b pos) (qF tc t u):=by
 intro Xz s σ H D I h;refine wpAny_If (az (hc Xz s σ H _ I h) λd s1 ⟨H1,I1,q1⟩=>?_);cases d with
 | true=>exact ha Xz s1 σ H1 D I1 q1
 | false=>exact hb Xz s1 σ H1 D I1 q1
def E9:TS:=λ_ _ _=>False
theorem Fb:PS X st E9:=λ_ _ _ _ _ _ h=>h.elim
end
abbrev TG:=V->St->Hp->(St->Hp->Prop)->Prop
abbrev gZ:=List V->St->Hp->(St->Hp->Prop)->Prop
def PG(X:Cx)(target:VR)(t:TG):Prop:=
 ∀(Xz:List (VM×Obj))(s:VN)(σ:St)(H:Hp)(v:V)(u:VJ)(Q:St->Hp->Prop),ae X Xz σ H s->aH v u->t v σ H Q->
  VQ (VS X.prog X.w) X.A (assign target X.env u) (λ_ s'=>∃σ' H',ae X Xz σ' H' s'/\Q σ' H') X.xe s
def nB(X:Cx)(ts:List VR)(t:gZ):Prop:=
 ∀(Xz:List (VM×Obj))(s:VN)(σ:St)(H:Hp)(vs:List V)(us:List VJ)(Q:St->Hp->Prop),ae X Xz σ H s->aI vs us->t vs σ H Q->
  VQ (VS X.prog X.w) X.A (assignInOrder ((WU ts X.env).map (·.2)) us) (λ_ s'=>∃σ' H',ae X Xz σ' H' s'/\Q σ' H') X.xe s
abbrev qG:=V->V->V->Hp->(Hp->Prop)->Prop
def vb(X:Cx)(t:qG):Prop:=
 ∀(Xz:List (VM×Obj))(s:VN)(σ:St)(H:Hp)(o i v:V)(ov iv u:VJ)(Q:Hp->Prop),ae X Xz σ H s->aH o ov->aH i iv->aH v u->t o i v H Q->
  VQ (VS X.prog X.w) X.A (setItem ov iv u) (λ_ s'=>∃H',ae X Xz σ H' s'/\Q H') X.xe s
section
variable {X:Cx} {pos:Pos}
def iY(i:Nat):TG:=λv σ H Q=>Q (σ.set i (some v)) H
theorem aR{i:Nat}{x:Str}(hN:X.N.Nodup)(hi:X.N[i]?=some x)(hx:gY X.env.scope x)(hf:X.fn x=true\/X.env.scope.names.lookup x=some .local:=by first | exact .inl rfl | exact .inr rfl | assumption):PG X (.Name x pos) (iY i):=by
 intro Xz s σ H v u Q I r h;exact wpAny_assign_Name (j9 I hN hi hx r (λs' I'=>⟨_,H,I',h⟩) hf)
def nE:gZ:=λvs σ H Q=>vs=[]/\Q σ H
def nF(t:TG)(u:gZ):gZ:=λvs σ H Q=>∃v r,vs=v::r/\t v σ H λσ' H'=>u r σ' H' Q
theorem jw:nB X [] nE:=by
 intro Xz s σ H vs us Q I r h;obtain⟨e,h⟩:=h;subst e;cases r;exact assignInOrder_nil ⟨σ,H,I,h⟩
theorem di{e:VR}{es:List VR}{t:TG}{u:gZ}(h1:PG X e t)(h2:nB X es u)
 (hs:(WU (e::es) X.env).map (·.2)=assign e X.env::(WU es X.env).map (·.2):=by rfl):nB X (e::es) (nF t u):=by
 intro Xz s σ H vs us Q I r h;obtain⟨v,vr,e1,h⟩:=h;subst e1;cases r with
 | cons r rr=>
  rw [hs];refine Xg (az (h1 Xz s σ H _ _ _ I r h) λ_ s1 ⟨σ1,H1,I1,q1⟩=>?_);exact h2 Xz s1 σ1 H1 _ _ Q I1 rr q1
def nG(K:Og)(n:Nat)(t:gZ):TG:=λv σ H Q=>∃a xs,v= .ref a/\br K H a xs/\xs.length=n/\t xs σ H Q
theorem jx{es:List VR}{k:Nat}{t:gZ}{n:Nat}(hc:X.calm=true)(h:nB X es t)
 (hn:(WU es X.env).length=n:=by rfl)(hst:(WU es X.env).findIdx? (·.1)=none:=by rfl):PG X (.Tuple es k pos) (nG X.K n t):=by
 intro Xz s σ H v u Q I r hw;obtain⟨a,xs,e1,hq,hl,hw⟩:=hw;subst e1;cases r;obtain⟨its,rv,ht,hz⟩:=I.tuple hq;refine assign_Tuple_tuple (I.ok.hd hc) ht (by simp [hn,<-hl,rv.length]) hst λh' hx=>?_;have I1:ae X Xz σ H {s with heap:=h'}:=I.kept (t':=s.toks) λb o e=>hx b o (OX (OB e)) e;exact h Xz _ σ H xs _ Q I1 (by simpa using rv) hw
def qH(to ti:TE)(t:qG):TG:=λv σ H Q=>to σ H λo H1=>ti σ H1 λi H2=>t o i v H2 λH3=>Q σ H3
theorem qI{o i:VR}{to ti:TE}{t:qG}(ho:PE X o to)(hi:PE X i ti)(hs:vb X t)
 (ha:∀v,assign (.Subscript o i pos) X.env v=(do
   let ov<-holding [v] (eval o X.env)
   let iv<-holding [v,ov] (eval i X.env)
   standAt pos
   holding [v,ov,iv] (setItem ov iv v)
   release [v,ov,iv] []):=by intro _;rfl):PG X (.Subscript o i pos) (qH to ti t):=by
 intro Xz s σ H v u Q I r h;rw [ha];refine VL (Wa (az (ho Xz s σ H _ I h) λov s1 ⟨x,H1,I1,r1,q1⟩=>?_));refine VL (Wa (az (hi Xz s1 σ H1 _ I1 q1) λiv s2 ⟨y,H2,I2,r2,q2⟩=>?_));refine VL (Xk (VL (Wa (az (hs Xz s2 σ H2 x y v ov iv u _ I2 r1 r2 r q2) λ_ s3 ⟨H3,I3,q3⟩=>?_))));exact wpAny_release ⟨σ,H3,I3,q3⟩
def kh(te:TE)(g:TG):TS:=λD σ H=>te σ H λx H1=>g x σ H1 D.nx
theorem nH{tg e:VR}{te:TE}{g:TG}(he:PE X e te)(hg:PG X tg g)(hs:Xl [tg] e pos.line X.env=pure false:=by rfl)(hw:Xm [tg] e X.env=pure none:=by rfl)
 (h1:(WU [tg] X.env).map (·.2)=[assign tg X.env]:=by rfl):PS X (.Assign [tg] e pos) (kh te g):=by
 intro Xz s σ H D I h;refine wpAny_Assign_stores (az (he Xz s σ H _ I h) λv s1 ⟨x,H1,I1,r1,q1⟩=>?_) hs hw;rw [h1];exact az (hg Xz s1 σ H1 x v _ I1 r1 q1) λ_ s2 q=>q
theorem iZ{i:Nat}{x:Str}{e:VR}{te:TE}{pos':Pos}(hN:X.N.Nodup)(hi:X.N[i]?=some x)(hx:gY X.env.scope x)(he:PE X e te)(hs:Wb e (some (.Name x pos')) pos.line X.env=pure false:=by rfl)(hf:X.fn x=true\/X.env.scope.names.lookup x=some .local:=by first | exact .inl rfl | exact .inr rfl | assumption):
 PS X (.Assign [.Name x pos'] e pos) (kh te (iY i)):=by
 intro Xz s σ H D I h;refine wpAny_Assign_Name (az (he Xz s σ H _ I h) λv s1 ⟨y,H1,I1,r1,q1⟩=>?_) hs;exact j9 I1 hN hi hx r1 (λs2 I2=>⟨_,H1,I2,q1⟩) hf
def qJ(i j:Nat)(ta:TA):TS:=λD σ H=>ta σ H λvs H1=>∃v w,vs=[v,w]/\D.nx ((σ.set i (some v)).set j (some w)) H1
theorem Fc{i j:Nat}{x y:Str}{a b:VR}{ta:TA}{px py pt:Pos}{kt k2 pt2}(hc:X.calm=true)(hN:X.N.Nodup)(hi:X.N[i]?=some x)(hj:X.N[j]?=some y)(hij:i≠j)
 (hx:X.env.scope.names.lookup x=some .local)(hy:X.env.scope.names.lookup y=some .local)(ha:PA X [a,b] ta)
 (hw:Xm [.Tuple [.Name x px,.Name y py] kt pt] (.Tuple [a,b] k2 pt2) X.env=pure (some [x,y]))
 (hs:Xl [.Tuple [.Name x px,.Name y py] kt pt] (.Tuple [a,b] k2 pt2) pos.line X.env=pure false:=by rfl):
 PS X (.Assign [.Tuple [.Name x px,.Name y py] kt pt] (.Tuple [a,b] k2 pt2) pos) (qJ i j ta):=by
 intro Xz s σ H D I h;rw [exec_Assign_arm];refine VL (Xk ?_);rw [hs];refine VL (VO ?_);rw [VE VC];refine VL (Tuple_ (az (ha _ Xz s σ H _ I h) λus s1 ⟨vs,H1,I1,r1,q1⟩=>?_));obtain⟨v,w,e1,q1⟩:=q1;subst e1;obtain⟨u1,u2,rfl,rv,rw'⟩:∃u1 u2,us=[u1,u2]/\aH v u1/\aH w u2:=by
  cases r1 with
  | cons p q=>
   cases q with
   | cons p' q'=>
    cases q';exact⟨_,_,rfl,p,p'⟩
 refine V4 ?_ (by show 2<=VT;decide);have I2:ae X Xz σ H1 {s1 with heap:=s1.heap.push {cls:= .type "tuple",data:= .seq [u1,u2].toArray}}:=I1.kept (t':=s1.toks) λb o e=>Oo _ e;rw [hw];refine VL (VO ?_);show VQ (VS X.prog X.w) X.A (do rule "assign.swapped-stores";let items<-unpackItems (.ref s1.heap.objs.size) 2 none;assignInOrder [λv=>bindName X.env y v,λv=>bindName X.env x v] items.reverse;pure Vy) _ _ _;refine VL (W7 (VL (unpackItems_tuple (items:=#[u1,u2]) (I.ok.hd hc) (Tj s1.heap _) λh' hx'=>?_)));have I3:=I2.kept (h':=h') (t':=s1.toks) λb o e=>hx' b o (OX (OB e)) e;show VQ _ _ (assignInOrder [λv=>bindName X.env y v,λv=>bindName X.env x v] [u2,u1] >>=λ_=>pure Vy) _ _ _;refine VL (Xg (wpAny_bindName (j9 I3 hN hj (.inl hy) rw' (λs2 I4=>?_) (.inr hy))));refine Xg (wpAny_bindName (j9 I4 hN hi (.inl hx) rv (λs3 I5=>assignInOrder_nil (VO ?_)) (.inr hx)));rw [List.set_comm _ _ (Ne.symm hij)] at I5;exact⟨_,H1,I5,q1⟩
def Fd(c:TT)(tb:TS):TS:=λD σ H=>∃W:Nat->St->Hp->Prop,(∃m,W m σ H)/\∀m σ H,W m σ H->
 c σ H λb H1=>if b=true then ∃N:St->Hp->Prop,(∀σ' H',N σ' H'->∃m',m' < m/\W m' σ' H')/\tb {D with nx:=N,ct:=N,bk:=D.nx} σ H1 else D.nx σ H1
theorem Fe{c:VR}{body:List V0}{tc:TT}{tb:TS}(hp:WO (VS X.prog X.w) X.A X.env X.xe)(hc:PT X c tc)(hb:bD X body tb):PS X (.While c body [] pos) (Fd tc tb):=by
 intro Xz s σ H D I h;obtain⟨W,⟨m0,w0⟩,turn⟩:=h;refine wpAny_While (codeAny_whileLoop (λn s'=>∃σ' H',ae X Xz σ' H' s'/\W n σ' H') ?_ m0 ⟨σ,H,I,w0⟩);rintro n s1 ⟨σ1,H1,I1,w1⟩;refine Wt hp (az (hc Xz s1 σ1 H1 _ I1 (turn n σ1 H1 w1)) λb s2 ⟨H2,I2,q2⟩=>?_);cases b with
 | true=>
  obtain⟨N,hN,q2⟩:=q2;rw [VF rfl];refine Wt hp (az (hb Xz s2 σ1 H2 _ I2 q2) λf s3 q3=>?_);cases f with
  | next=>
   obtain⟨σ3,H3,I3,n3⟩:=q3;obtain⟨m',hm,w3⟩:=hN σ3 H3 n3;exact⟨m',hm,σ3,H3,I3,w3⟩
  | cont=>
   obtain⟨σ3,H3,I3,n3⟩:=q3;obtain⟨m',hm,w3⟩:=hN σ3 H3 n3;exact⟨m',hm,σ3,H3,I3,w3⟩
  | brk=>exact q3
  | ret v=>exact q3
 | false=>
  rw [VE O6];exact WD ⟨σ1,H2,I2,q2⟩
end
structure It where
 go:Nat->Hp->Prop
 yld:Nat->Hp->V->Hp->Prop
 stop:Nat->Hp->Prop
def gG(X:Cx)(Xz:List (VM×Obj))(H:Hp)(b:VM):Prop:=
 H b=none/\b≠X.env.locals/\b ∉ X.fs/\(b∈X.ex\/X.s₀.heap.objs.size<=b)/\(∀x c,X.env.cells.lookup x=some c->c≠b)/\∀p∈X.pn++Xz,p.1≠b
theorem ae.fpOk{X:Cx}{Xz:List (VM×Obj)}{σ:St}{H H':Hp}{s:VN}{b:VM}(I:ae X Xz σ H s)(hb:s.heap.objs.size<=b)(hn:H' b=none):gG X Xz H' b:=by
 refine⟨hn,RI (OW I.lt hb),I.nofs hb,.inr (OZ I.sz hb),λx c e z=>?_,λp hp z=>?_⟩
 ·obtain⟨v,q⟩:=I.cell x c e;exact absurd (OW q.lt (by rw [z];exact hb)) (Qg _)
 ·exact absurd (OW (OB (I.pin p hp).1) (by rw [z];exact hb)) (Qg _)
structure lE (P:VW) (w:VZ) (K:Og) (tg:VR) (J:It) (fp:List VM) (it:VM) (tn:Nat->VY->Prop):Prop where
 mem:it∈fp
 obj:∀i h,tn i h->∀b∈fp,∃o,h.get? b=some o/\∀v,o.data≠ .cell v
 keep:∀i h h',tn i h->(∀b∈fp,∀o,h.get? b=some o->h'.get? b=some o)->tn i h'
 item:∀(X:Cx),X.prog=P->X.w=w->X.K=K->X.calm=true->∀(i:Nat)(Xz:List (VM×Obj))(s:VN)(σ:St)(H:Hp)(E:VJ->VN->Prop),ae X Xz σ H s->(∀b∈fp,gG X Xz H b)->tn i s.heap->J.go i H->
  VQ (VS P w) X.A (WK (.ref it)) (λr s1=>∃u,r=some u/\
   VQ (VS P w) X.A (W8 tg (.ref it) u) (λ_ s2=>∃x H',ae X Xz σ H' s2/\aH x u/\J.yld i H x H'/\tn (i+1) s2.heap/\∀b∈fp,H' b=none) E s1) E s
 done:∀(X:Cx),X.prog=P->X.w=w->X.K=K->X.calm=true->∀(i:Nat)(Xz:List (VM×Obj))(s:VN)(σ:St)(H:Hp)(E:VJ->VN->Prop),ae X Xz σ H s->(∀b∈fp,gG X Xz H b)->tn i s.heap->J.stop i H->
  VQ (VS P w) X.A (WK (.ref it)) (λr s1=>r=none/\ae X Xz σ H s1) E s
 self:∀(A:V1)(i:Nat)(s:VN)(Q:VJ->VN->Prop)(E:VJ->VN->Prop),tn i s.heap->Q (.ref it) s->VQ (VS P w) A (pyIter (.ref it)) Q E s
abbrev TI:=St->Hp->(It->Hp->Prop)->Prop
def vc(X:Cx)(Xz:List (VM×Obj))(σ:St)(tg:VR)(R:It->Hp->Prop)(itv:VJ)(s2:VN):Prop:=
 ∃(it:VM)(fp:List VM)(tn:Nat->VY->Prop)(J:It)(H':Hp),itv= .ref it/\ae X Xz σ H' s2/\lE X.prog X.w X.K tg J fp it tn/\tn 0 s2.heap/\(∀b∈fp,gG X Xz H' b)/\R J H'
def PI(X:Cx)(tg iter:VR)(wi:TI):Prop:=
 ∀(Xz:List (VM×Obj))(s:VN)(σ:St)(H:Hp)(R:It->Hp->Prop),ae X Xz σ H s->wi σ H R->
  VQ (VS X.prog X.w) X.A (eval iter X.env) (λv s1=>VQ (VS X.prog X.w) X.A (pyIter v) (vc X Xz σ tg R) X.xe s1) X.xe s
theorem nI{M:Model}{A:V1}{E:VJ->VN->Prop}{s:VN}{tg:VR}{it:VM}{u:VJ}{o:Obj}{n:String}{vs:Array VJ}{Q:Unit->VN->Prop}(ho:s.heap.get? it=some o)(hc:o.cls= .type n)(hd:o.data= .fields vs)
 (hn:["enumerate","zip","dict_itemiterator","dict_reverseitemiterator","odict_iterator","itertools.zip_longest","itertools.pairwise"].contains n=false)(hQ:Q () s):VQ M A (W8 tg (.ref it) u) Q E s:=by
 unfold W8;cases tg <;> first
  | exact VO hQ
  | (cases u <;> first
      | exact VO hQ
      | (refine VL (wpAny_load ho ?_)
         rw [hc,hd];show VQ M A (if (["enumerate","zip","dict_itemiterator","dict_reverseitemiterator","odict_iterator","itertools.zip_longest","itertools.pairwise"].contains n && vs[0]?==some (Ww _))=true then _ else _) Q E s;rw [VE (by intro h;rw [hn,Rq] at h;cases h)];exact VO hQ))
def lF(K:Og)(a:VM):It:=
 ⟨λi H=>∃xs x,bf K H a xs/\xs[i]?=some x,λi H x H'=>H'=H/\∀xs,bf K H a xs->xs[i]?=some x,λi H=>∃xs,bf K H a xs/\xs.length<=i⟩
def lG(K:Og)(a:VM):It:=
 ⟨λi H=>∃xs x,br K H a xs/\xs[i]?=some x,λi H x H'=>H'=H/\∀xs,br K H a xs->xs[i]?=some x,λi H=>∃xs,br K H a xs/\xs.length<=i⟩
def iy(lo:Int)(n:Nat):It:=⟨λi _=>i < n,λi H x H'=>H'=H/\x= .int (lo+i),λi _=>n<=i⟩
theorem Fg{P:VW}{w:VZ}{K:Og}{tg:VR}(a it:VM):lE P w K tg (lF K a) [it] it (λi h=>h.IsListIter it a i) where
 mem:=VH
 obj:=λi h st b hb=>by
  have e:b=it:=by simpa using hb
  subst e;obtain⟨o,e,c,d⟩:=st;exact⟨o,e,λv z=>by rw [d] at z;cases z⟩
 keep:=λi h h' st k=>st.at λo e=>k it VH o e
 item:=by
  intro X hP hw hK hc i Xz s σ H E I hf st hg;subst hP hw hK;obtain⟨xs,x,hq,hx⟩:=hg;obtain⟨its,rv,p,hz⟩:=I.list hq;obtain⟨u,hu,ru⟩:=rv.get hx;obtain⟨f0,f1,f2,f3,f4,f5⟩:=hf it VH;refine wpAny_pyNext_list_item st p.isList (x:=u) (by simpa using hu) λh' st' sb=>?_;have I1:ae X Xz σ H {s with heap:=h'}:=I.turned (t':=s.toks) (λb o hb e=>(sb.2 b hb).trans e) f0 f1 f3 f4 f5;obtain⟨o,e,c,d⟩:=id st';exact⟨u,rfl,nI (s:={s with heap:=h'}) e c d VC ⟨x,H,I1,ru,⟨rfl,λys hy=>by rw [I.list_inj hy hq];exact hx⟩,st',λb hb=>(hf b hb).1⟩⟩
 done:=by
  intro X hP hw hK hc i Xz s σ H E I hf st hg;subst hP hw hK;obtain⟨xs,hq,hx⟩:=hg;obtain⟨its,rv,p,hz⟩:=I.list hq;obtain⟨f0,f1,f2,f3,f4,f5⟩:=hf it VH;have hl:=rv.length;exact wpAny_pyNext_list_end (I.ok.hd hc) st p.isList (by simp;omega) λh' eb=>⟨rfl,I.turned (t':=s.toks) (λb o hb e=>eb b o hb e) f0 f1 f3 f4 f5⟩
 self:=λ_ _ _ _ _ st h=>wpAny_pyIter_listiter st h
theorem Fh{P:VW}{w:VZ}{K:Og}{tg:VR}(a it:VM):lE P w K tg (lG K a) [it] it (λi h=>h.IsTupleIter it a i) where
 mem:=VH
 obj:=λi h st b hb=>by
  have e:b=it:=by simpa using hb
  subst e;obtain⟨o,e,c,d⟩:=st;exact⟨o,e,λv z=>by rw [d] at z;cases z⟩
 keep:=λi h h' st k=>st.at λo e=>k it VH o e
 item:=by
  intro X hP hw hK hc i Xz s σ H E I hf st hg;subst hP hw hK;obtain⟨xs,x,hq,hx⟩:=hg;obtain⟨its,rv,p,hz⟩:=I.tuple hq;obtain⟨u,hu,ru⟩:=rv.get hx;obtain⟨f0,f1,f2,f3,f4,f5⟩:=hf it VH;refine wpAny_pyNext_tuple_item st (show s.heap.IsTuple a its.toArray from p) (x:=u) (by simpa using hu) λh' st' sb=>?_;have I1:ae X Xz σ H {s with heap:=h'}:=I.turned (t':=s.toks) (λb o hb e=>(sb.2 b hb).trans e) f0 f1 f3 f4 f5;obtain⟨o,e,c,d⟩:=id st';exact⟨u,rfl,nI (s:={s with heap:=h'}) e c d VC ⟨x,H,I1,ru,⟨rfl,λys hy=>by rw [I.tuple_inj hy hq];exact hx⟩,st',λb hb=>(hf b hb).1⟩⟩
 done:=by
  intro X hP hw hK hc i Xz s σ H E I hf st hg;subst hP hw hK;obtain⟨xs,hq,hx⟩:=hg;obtain⟨its,rv,p,hz⟩:=I.tuple hq;obtain⟨f0,f1,f2,f3,f4,f5⟩:=hf it VH;have hl:=rv.length;exact wpAny_pyNext_tuple_end (I.ok.hd hc) st (show s.heap.IsTuple a its.toArray from p) (by simp;omega) λh' eb=>⟨rfl,I.turned (t':=s.toks) (λb o hb e=>eb b o hb e) f0 f1 f3 f4 f5⟩
 self:=λ_ _ _ _ _ st h=>wpAny_pyIter_tupleiter st h
theorem Fi{P:VW}{w:VZ}{K:Og}{tg:VR}(it:VM)(lo:Int)(n:Nat):lE P w K tg (iy lo n) [it] it (λi h=>IsRangeIter h it (lo+(i:Nat)*1) ((n:Int) - (i:Nat)) 1) where
 mem:=VH
 obj:=λi h st b hb=>by
  have e:b=it:=by simpa using hb
  subst e;exact⟨_,st,λv z=>by
   have z':Data.fields _=Data.cell v:=z;cases z'⟩
 keep:=λi h h' st k=>k it VH _ st
 item:=by
  intro X hP hw hK hc i Xz s σ H E I hf st hg;subst hP hw hK;obtain⟨f0,f1,f2,f3,f4,f5⟩:=hf it VH;have W:=Walks.range (prog:=X.prog) (w:=X.w) (I.ok.hd hc) it lo 1 n;refine W.item i s _ _ hg st λv h' tk hv st' kk=>?_;obtain⟨t,rfl⟩:=hv;have I1:ae X Xz σ H {s with heap:=h',toks:=tk}:=I.turned (λb o hb e=>kk b o (by simpa using hb) e) f0 f1 f3 f4 f5;refine⟨_,rfl,nI (s:={s with heap:=h',toks:=tk}) (n:="range_iterator") st' rfl rfl VC ⟨.int (lo+i),H,I1,⟨t,?_⟩,⟨rfl,rfl⟩,st',λb hb=>(hf b hb).1⟩⟩;rw [Int.mul_one]
 done:=by
  intro X hP hw hK hc i Xz s σ H E I hf st hg;subst hP hw hK;obtain⟨f0,f1,f2,f3,f4,f5⟩:=hf it VH;exact wpAny_pyNext_range_end (I.ok.hd hc) st (by have:n<=i:=hg;omega) λh' eb=>⟨rfl,I.turned (t':=s.toks) (λb o hb e=>eb b o hb e) f0 f1 f3 f4 f5⟩
 self:=λ_ _ _ _ _ st h=>wpAny_pyIter_rangeiter st h
section
variable {X:Cx} {tg:VR}
def qK(K:Og)(tl:TE):TI:=λσ H R=>tl σ H λx H1=>∃a,x= .ref a/\(∃xs,bf K H1 a xs)/\R (lF K a) H1
def qL(K:Og)(tl:TE):TI:=λσ H R=>tl σ H λx H1=>∃a,x= .ref a/\(∃xs,br K H1 a xs)/\R (lG K a) H1
theorem qM{l:VR}{tl:TE}(hl:PE X l tl):PI X tg l (qK X.K tl):=by
 intro Xz s σ H R I h;refine az (hl Xz s σ H _ I h) λv s1 ⟨x,H1,I1,r1,q1⟩=>?_;obtain⟨a,e,⟨xs,hq⟩,q⟩:=q1;subst e;cases r1;obtain⟨its,rv,p,hz⟩:=I1.list hq;refine Xq p.isList ?_;refine⟨s1.heap.objs.size,[s1.heap.objs.size],_,_,H1,rfl,I1.kept (t':=s1.toks) λb o e=>Oo _ e,Fg a _,⟨_,OP _ rfl,rfl,rfl⟩,λb hb=>?_,q⟩;have e:b=s1.heap.objs.size:=by simpa using hb
 subst e;exact I1.fpOk (Ot _) (I1.hok.fresh (Ot _))
theorem nJ{l:VR}{tl:TE}(hl:PE X l tl):PI X tg l (qL X.K tl):=by
 intro Xz s σ H R I h;refine az (hl Xz s σ H _ I h) λv s1 ⟨x,H1,I1,r1,q1⟩=>?_;obtain⟨a,e,⟨xs,hq⟩,q⟩:=q1;subst e;cases r1;obtain⟨its,rv,p,hz⟩:=I1.tuple hq;refine wpAny_pyIter_tuple (show s1.heap.IsTuple a its.toArray from p) ?_;refine⟨s1.heap.objs.size,[s1.heap.objs.size],_,_,H1,rfl,I1.kept (t':=s1.toks) λb o e=>Oo _ e,Fh a _,⟨_,OP _ rfl,rfl,rfl⟩,λb hb=>?_,q⟩;have e:b=s1.heap.objs.size:=by simpa using hb
 subst e;exact I1.fpOk (Ot _) (I1.hok.fresh (Ot _))
theorem vd{Xz:List (VM×Obj)}{σ:St}{H:Hp}{s:VN}{R:It->Hp->Prop}{E:VJ->VN->Prop}{lo hi:Int}{t u v:Tok}{tk:Nat}(I:ae X Xz σ H s)(h1:-(2 ^ 62)<=lo)(h2:lo < 2 ^ 62)(h3:-(2 ^ 62)<=hi)(h4:hi < 2 ^ 62)
 (q:R (iy lo (hi - lo).toNat) H):VQ (VS X.prog X.w) X.A (pyIter (.ref s.heap.objs.size)) (vc X Xz σ tg R) E {s with heap:=s.heap.push {cls:= .type "range",data:= .fields #[.int lo t,.int hi u,.int 1 v]},toks:=tk}:=by
 refine wpAny_pyIter_range (IsRange.new ..) (small_one h1 h2 h3 h4) ?_;have I1:ae X Xz σ H {s with heap:=s.heap.push {cls:= .type "range",data:= .fields #[.int lo t,.int hi u,.int 1 v]},toks:=tk}:=I.kept λb o e=>Oo _ e;refine⟨(s.heap.push {cls:= .type "range",data:= .fields #[.int lo t,.int hi u,.int 1 v]}).objs.size,[(s.heap.push {cls:= .type "range",data:= .fields #[.int lo t,.int hi u,.int 1 v]}).objs.size],_,_,H,rfl,
  I1.kept (t':=tk) λb o e=>Oo _ e,Fi _ lo (hi - lo).toNat,?_,λb hb=>?_,q⟩
 ·have e1:lo+((0:Nat):Int)*1=lo:=VH
  have e2:(((hi - lo).toNat:Nat):Int) - ((0:Nat):Int)=Builtin.Range.rangeSize lo hi 1:=by rw [rangeSize_one];split <;> omega
  show IsRangeIter _ _ (lo+((0:Nat):Int)*1) ((((hi - lo).toNat:Nat):Int) - ((0:Nat):Int)) 1;rw [e1,e2];exact OP _ rfl
 ·have e:b=(s.heap.push {cls:= .type "range",data:= .fields #[.int lo t,.int hi u,.int 1 v]}).objs.size:=by simpa using hb
  subst e;exact I1.fpOk (Ot _) (I1.hok.fresh (Ot _))
def qN(ta:TA):TI:=λσ H R=>ta σ H λvs H1=>∃j:Int,vs=[.int j]/\-(2 ^ 62)<=j/\j < 2 ^ 62/\R (iy 0 j.toNat) H1
def qO(ta:TA):TI:=λσ H R=>ta σ H λvs H1=>∃i j:Int,vs=[.int i,.int j]/\(-(2 ^ 62)<=i/\i < 2 ^ 62/\-(2 ^ 62)<=j/\j < 2 ^ 62)/\R (iy i (j - i).toNat) H1
theorem ve{a:VR}{ta:TA}{p pos:Pos}(hg:Gl X "range")(hm:X.mg "range"=none)(ha:PA X [a] ta)(hs:VP [a] X.env=[(false,eval a X.env)]:=by rfl):PI X tg (.Call (.Name "range" p) [a] [] pos) (qN ta):=by
 intro Xz s σ H R I h;refine Call_ (ke I hg hm boot_range (Rv (az (ha pos Xz s σ H _ I h) λus s1 ⟨vs,H1,I1,r1,q1⟩=>?_) hs rfl));obtain⟨j,e,q1,q2,q⟩:=q1;subst e;cases r1 with
 | cons r rr=>
  cases rr;obtain⟨t,rfl⟩:=r;exact call_range_1 (vd I1 VD VD q1 q2 (by simpa using q))
theorem vf{a b:VR}{ta:TA}{p pos:Pos}(hg:Gl X "range")(hm:X.mg "range"=none)(ha:PA X [a,b] ta)(hs:VP [a,b] X.env=[(false,eval a X.env),(false,eval b X.env)]:=by rfl)(hs2:VP [b] X.env=[(false,eval b X.env)]:=by rfl):
 PI X tg (.Call (.Name "range" p) [a,b] [] pos) (qO ta):=by
 intro Xz s σ H R I h;refine Call_ (ke I hg hm boot_range (Rv (az (ha pos Xz s σ H _ I h) λus s1 ⟨vs,H1,I1,r1,q1⟩=>?_) (by rw [hs,hs2]) (by rw [hs2];rfl)));obtain⟨i,j,e,⟨q1,q2,q3,q4⟩,q⟩:=q1;subst e;cases r1 with
 | cons r rr=>
  cases rr with
  | cons r' rr=>
   cases rr;obtain⟨t,rfl⟩:=r;obtain⟨t',rfl⟩:=r';exact call_range_2 (vd I1 q1 q2 q3 q4 q)
def lH(wi:TI)(g:TG)(tb:TS):TS:=λD σ H=>wi σ H λJ H1=>∃W:Nat->Nat->St->Hp->Prop,(∃m,W 0 m σ H1)/\∀i m σ H,W i m σ H->
 (J.stop i H/\D.nx σ H)\/(J.go i H/\∃N:St->Hp->Prop,(∀σ' H',N σ' H'->∃m',m' < m/\W (i+1) m' σ' H')/\∀x H',J.yld i H x H'->g x σ H' λσ2 H2=>tb {D with nx:=N,ct:=N,bk:=D.nx} σ2 H2)
def lI(fp:List VM)(h:VY):List (VM×Obj):=fp.filterMap λb=>(h.get? b).map λo=>(b,o)
theorem nK{fp:List VM}{h:VY}{b:VM}{o:Obj}(hb:b∈fp)(e:h.get? b=some o):(b,o)∈lI fp h:=QE.mpr ⟨b,hb,by rw [e];rfl⟩
theorem Fj{fp:List VM}{h:VY}{p:VM×Obj}(hp:p∈lI fp h):p.1∈fp/\h.get? p.1=some p.2:=by
 obtain⟨b,hb,e⟩:=QE.mp hp;cases q:h.get? b with
 | none=>rw [q] at e;cases e
 | some o=>
  rw [q] at e;have e':(b,o)=p:=Pk e;subst e';exact⟨hb,q⟩
theorem ae.pinned{Xz:List (VM×Obj)}{σ:St}{H:Hp}{s:VN}{fp:List VM}(I:ae X Xz σ H s)(hf:∀b∈fp,gG X Xz H b)(ho:∀b∈fp,∃o,s.heap.get? b=some o/\∀v,o.data≠ .cell v):ae X (Xz++lI fp s.heap) σ H s:=
 I.pins_of λp hp=>(OJ.mp hp).elim (λz=>I.pin p (Pa _ z)) λz=>by
  obtain⟨hb,e⟩:=Fj z;obtain⟨f0,f1,f2,_⟩:=hf p.1 hb;obtain⟨o,e',d⟩:=ho p.1 hb;rw [e] at e';cases e';exact⟨e,f0,f1,f2,d⟩
theorem ae.unpinned{Xz pl:List (VM×Obj)}{σ:St}{H:Hp}{s:VN}(I:ae X (Xz++pl) σ H s):ae X Xz σ H s:=I.pins_of λp hp=>I.pin p (Pa _ (Pz _ hp))
theorem lJ{iter:VR}{body:List V0}{wi:TI}{g:TG}{tb:TS}{pos:Pos}(hp:WO (VS X.prog X.w) X.A X.env X.xe)(hc:X.calm=true)(hi:PI X tg iter wi)(hg:PG X tg g)(hb:bD X body tb)
 (hs:∀x,V5 iter X.env x=pure x:=by intro _;rfl):PS X (.For tg iter body [] pos) (lH wi g tb):=by
 intro Xz s σ H D I h;refine wpAny_For (az (hi Xz s σ H _ I h) λv s1 h1=>az h1 λitv s2 h2=>?_) hs;obtain⟨it,fp,tn,J,H2,e,I2,T,st2,f2,W,⟨m0,w0⟩,turn⟩:=h2;subst e;have stat:∀{H':Hp},(∀b∈fp,H' b=none)->∀b∈fp,gG X Xz H' b:=λhn b hb=>⟨hn b hb,(f2 b hb).2⟩;refine codeAny_forLoop_any (λn s'=>∃i σ' H',ae X Xz σ' H' s'/\tn i s'.heap/\(∀b∈fp,H' b=none)/\W i n σ' H') ?_ m0 ⟨0,σ,H2,I2,st2,λb hb=>(f2 b hb).1,w0⟩;rintro n s3 ⟨i,σ3,H3,I3,st3,fr3,w3⟩;rcases turn i n σ3 H3 w3 with⟨stop,qn⟩ | ⟨go,N,hN,step⟩
 ·refine Wt hp (az (T.done X rfl rfl rfl hc i Xz s3 σ3 H3 X.xe I3 (stat fr3) st3 stop) λr s4 ⟨hr,I4⟩=>?_);subst hr;exact WD ⟨σ3,H3,I4,qn⟩
 ·refine Wt hp (az (T.item X rfl rfl rfl hc i Xz s3 σ3 H3 X.xe I3 (stat fr3) st3 go) λr s4 ⟨u,hr,h4⟩=>?_);subst hr;refine Wt hp (az h4 λ_ s5 ⟨x,H5,I5,r5,y5,st5,fr5⟩=>?_);have I5':=I5.pinned (stat fr5) (T.obj _ _ st5);refine Wt hp (az (hg _ s5 σ3 H5 x u _ I5' r5 (step x H5 y5)) λ_ s6 ⟨σ6,H6,I6,q6⟩=>?_);refine Wt hp (az (hb _ s6 σ6 H6 _ I6 q6) λf s7 q7=>?_);have again:∀{σ7:St}{H7:Hp},ae X (Xz++lI fp s5.heap) σ7 H7 s7->N σ7 H7->∃m,m < n/\∃i σ' H',ae X Xz σ' H' s7/\tn i s7.heap/\(∀b∈fp,H' b=none)/\W i m σ' H':=λ{σ7 H7} I7 n7=>by
   obtain⟨m',hm,w7⟩:=hN σ7 H7 n7;refine⟨m',hm,i+1,σ7,H7,I7.unpinned,T.keep _ _ _ st5 λb hb o e=>(I7.pin (b,o) (Pa _ (Pa _ (nK hb e)))).1,λb hb=>?_,w7⟩;obtain⟨o,e,d⟩:=T.obj _ _ st5 b hb;exact(I7.pin (b,o) (Pa _ (Pa _ (nK hb e)))).2.1
  cases f with
  | next=>obtain⟨σ7,H7,I7,n7⟩:=q7;exact again I7 n7
  | cont=>obtain⟨σ7,H7,I7,n7⟩:=q7;exact again I7 n7
  | brk=>obtain⟨σ7,H7,I7,q7⟩:=q7;exact⟨σ7,H7,I7.unpinned,q7⟩
  | ret v=>obtain⟨x7,σ7,H7,I7,r7,q7⟩:=q7;exact⟨x7,σ7,H7,I7.unpinned,r7,q7⟩
end
abbrev R2:=V->V->Hp->VK->Prop
def bq(X:Cx)(f:VJ->VJ->Sem VJ)(r:R2):Prop:=
 ∀(Xz:List (VM×Obj))(s:VN)(σ:St)(H:Hp)(x y:V)(v u:VJ)(Q:VK),ae X Xz σ H s->aH x v->aH y u->r x y H Q->
  VQ (VS X.prog X.w) X.A (f v u) (EP X Xz σ Q) X.xe s
def qP(X:Cx)(f:VJ->Sem VJ)(r:V->Hp->VK->Prop):Prop:=
 ∀(Xz:List (VM×Obj))(s:VN)(σ:St)(H:Hp)(x:V)(v:VJ)(Q:VK),ae X Xz σ H s->aH x v->r x H Q->
  VQ (VS X.prog X.w) X.A (f v) (EP X Xz σ Q) X.xe s
def cO(X:Cx)(f:VJ)(r:List V->Hp->VK->Prop):Prop:=
 ∀(Xz:List (VM×Obj))(s:VN)(σ:St)(H:Hp)(xs:List V)(us:List VJ)(Q:VK),ae X Xz σ H s->aI xs us->r xs H Q->
  VQ (VS X.prog X.w) X.A (call f us) (EP X Xz σ Q) X.xe s
def Fl(X:Cx)(r:V->Hp->(Bool->Hp->Prop)->Prop):Prop:=
 ∀(Xz:List (VM×Obj))(s:VN)(σ:St)(H:Hp)(x:V)(v:VJ)(Q:Bool->Hp->Prop),ae X Xz σ H s->aH x v->r x H Q->
  VQ (VS X.prog X.w) X.A (truthy v) (TP X Xz σ Q) X.xe s
def jy(r:R2)(ta tb:TE):TE:=λσ H Q=>ta σ H λx H1=>tb σ H1 λy H2=>r x y H2 Q
def qQ(r:V->Hp->VK->Prop)(ta:TE):TE:=λσ H Q=>ta σ H λx H1=>r x H1 Q
def rI(C:Int->Int->Prop)(g:Int->Int->V):R2:=λx y H Q=>∃i j,x= .int i/\y= .int j/\C i j/\Q (g i j) H
def fO(g:Int->Int->V):R2:=λx y H Q=>∃i j,x= .int i/\y= .int j/\Q (g i j) H
def rU(g:Int->V):V->Hp->VK->Prop:=λx H Q=>∃i,x= .int i/\Q (g i) H
section
variable {X:Cx} {a b c:VR} {ta tb tc:TE} {pos:Pos}
theorem qR(ha:PE X a ta)(hb:PE X b tb){Xz:List (VM×Obj)}{s:VN}{σ:St}{H:Hp}{R:V->V->Hp->Prop}(I:ae X Xz σ H s)
 (h:ta σ H λx H1=>tb σ H1 λy H2=>R x y H2){Q:VJ->VN->Prop}{f:VJ->VJ->Sem VJ}
 (hf:∀v u s2 x y H2,ae X Xz σ H2 s2->aH x v->aH y u->R x y H2->VQ (VS X.prog X.w) X.A (f v u) Q X.xe s2):
 VQ (VS X.prog X.w) X.A (eval a X.env) (λv s₁=>VQ (VS X.prog X.w) X.A (eval b X.env) (λu s₂=>VQ (VS X.prog X.w) X.A (f v u) Q X.xe s₂) X.xe s₁) X.xe s:=by
 refine az (ha Xz s σ H _ I h) λv s1 ⟨x,H1,I1,r1,q1⟩=>?_;refine az (hb Xz s1 σ H1 _ I1 q1) λu s2 ⟨y,H2,I2,r2,q2⟩=>?_;exact hf v u s2 x y H2 I2 r1 r2 q2
theorem eY{op:Operator}{r:R2}(ho:bq X (Wn op) r)(ha:PE X a ta)(hb:PE X b tb):PE X (.BinOp a op b pos) (jy r ta tb):=by
 intro Xz s σ H Q I h;exact wpAny_BinOp (qR ha hb I h λv u s2 x y H2 I2 rx ry q=>ho Xz s2 σ H2 x y v u Q I2 rx ry q)
theorem vg{op:UnaryOp}{r:V->Hp->VK->Prop}(ho:qP X (unaryOp op) r)(ha:PE X a ta):PE X (.UnaryOp op a pos) (qQ r ta):=by
 intro Xz s σ H Q I h;exact UnaryOp_ (az (ha Xz s σ H _ I h) λv s1 uu34=>by obtain⟨x,H1,I1,r1,q1⟩:=uu34;exact ho Xz s1 σ H1 x v Q I1 r1 q1)
theorem nL{f:VJ->VJ->Sem VJ}{C:Int->Int->Prop}{g:Int->Int->Int}
 (rule:∀(i j:Int) (t u:Tok) (s:VN) (Q:VJ->VN->Prop) (E:VJ->VN->Prop),C i j->Q (.int (g i j) s.toks) {s with toks:=s.toks+1}->VQ (VS X.prog X.w) X.A (f (.int i t) (.int j u)) Q E s):
 bq X f (rI C λi j=>.int (g i j)):=by
 intro Xz s σ H x y v u Q I rx ry h;obtain⟨i,j,rfl,rfl,hc,q⟩:=h;obtain⟨t,rfl⟩:=rx;obtain⟨t',rfl⟩:=ry;exact rule i j t t' s _ _ hc ⟨.int (g i j),H,I.tok _,⟨_,rfl⟩,q⟩
theorem vh{f:VJ->VJ->Sem VJ}{g:Int->Int->Int}
 (rule:∀(i j:Int) (t u:Tok) (s:VN) (Q:VJ->VN->Prop) (E:VJ->VN->Prop),Q (.int (g i j) s.toks) {s with toks:=s.toks+1}->VQ (VS X.prog X.w) X.A (f (.int i t) (.int j u)) Q E s):
 bq X f (fO λi j=>.int (g i j)):=by
 intro Xz s σ H x y v u Q I rx ry h;obtain⟨i,j,rfl,rfl,q⟩:=h;obtain⟨t,rfl⟩:=rx;obtain⟨t',rfl⟩:=ry;exact rule i j t t' s _ _ ⟨.int (g i j),H,I.tok _,⟨_,rfl⟩,q⟩
theorem nM{f:VJ->VJ->Sem VJ}{g:Int->Int->Bool}
 (rule:∀(i j:Int) (t u:Tok) (s:VN) (Q:VJ->VN->Prop) (E:VJ->VN->Prop),Q (.bool (g i j)) s->VQ (VS X.prog X.w) X.A (f (.int i t) (.int j u)) Q E s):
 bq X f (fO λi j=>.bl (g i j)):=by
 intro Xz s σ H x y v u Q I rx ry h;obtain⟨i,j,rfl,rfl,q⟩:=h;obtain⟨t,rfl⟩:=rx;obtain⟨t',rfl⟩:=ry;exact rule i j t t' s _ _ ⟨.bl (g i j),H,I,rfl,q⟩
def lK(i j:Int):Prop:=0 < j/\j < 1073741824
def nN(i j:Int):Prop:=0<=j/\j<=1000000/\i.natAbs < 2 ^ 64
def ki(i j:Int):Prop:=(-(2 ^ 64) < i/\i < 2 ^ 64)\/(-(2 ^ 64) < j/\j < 2 ^ 64)
theorem ki.ok{i j:Int}(h:ki i j):IntMulOk i j:=by
 rcases h with⟨h1,h2⟩ | ⟨h1,h2⟩
 ·exact .of_left (intBits_le_64 h1 h2)
 ·exact .of_right (intBits_le_64 h1 h2)
theorem cA:bq X (Wn .Add) (fO λi j=>.int (i+j)):=vh λ_ _ _ _ _ _ _ q=>add_int q
theorem g5:bq X (Wn .Sub) (fO λi j=>.int (i - j)):=vh λ_ _ _ _ _ _ _ q=>sub_int q
theorem g6:bq X (Wn .Mult) (rI ki λi j=>.int (i*j)):=nL λ_ _ _ _ _ _ _ hc q=>mul_int q hc.ok
theorem nO:bq X (Wn .FloorDiv) (rI lK λi j=>.int (i / j)):=nL λi j _ _ _ _ _ hc q=>by
 have h1:(0:Int) < j:=hc.1;have h2:j < 1073741824:=hc.2;exact floordiv_int VD (by rw [SG i VD];exact q) (.inl (Tq VD))
theorem gH:bq X (Wn .Mod) (rI (λ_ j=>0 < j) λi j=>.int (i % j)):=nL λi j _ _ _ _ _ hc q=>by
 have h1:(0:Int) < j:=hc;exact mod_int' VD (by rw [SH i VD];exact q)
theorem vi:bq X (Wn .Pow) (rI nN λi j=>.int (i ^ j.toNat)):=nL λ_ _ _ _ _ _ _ hc q=>pow_int_small hc.1 hc.2.1 hc.2.2 q
theorem Fm{f:VJ->Sem VJ}{g:Int->Int}
 (rule:∀(i:Int) (t:Tok) (s:VN) (Q:VJ->VN->Prop) (E:VJ->VN->Prop),Q (.int (g i) s.toks) {s with toks:=s.toks+1}->VQ (VS X.prog X.w) X.A (f (.int i t)) Q E s):
 qP X f (rU λi=>.int (g i)):=by
 intro Xz s σ H x v Q I rx h;obtain⟨i,rfl,q⟩:=h;obtain⟨t,rfl⟩:=rx;exact rule i t s _ _ ⟨.int (g i),H,I.tok _,⟨_,rfl⟩,q⟩
theorem vj:qP X (unaryOp .USub) (rU λi=>.int (-i)):=Fm λ_ _ _ _ _ q=>neg_int q
end
def kj:V->V->Bool
 | .non,.non=>true | .non,.int _=>true | .int _,.non=>true | .non,.bl _=>true | .bl _,.non=>true | .non,.str _=>true | .str _,.non=>true
 | .int _,.int _=>true | .bl _,.bl _=>true | .str _,.str _=>true | .byt _,.byt _=>true
 | .int _,.str _=>true | .str _,.int _=>true | .bl _,.str _=>true | .str _,.bl _=>true
 | _,_=>false
section
variable {X:Cx} {a b c:VR} {ta tb tc:TE} {pos:Pos}
theorem d4{Xz:List (VM×Obj)}{σ:St}{H:Hp}{s:VN}{Q:VK}{k k':Bool}(I:ae X Xz σ H s)(q:Q (.bl k) H)(e:k=k'):EP X Xz σ Q (.bool k') s:=by
 subst e;exact⟨.bl k,H,I,rfl,q⟩
theorem iz:bq X (V2 .Lt) (fO λi j=>.bl (decide (i < j))):=nM λ_ _ _ _ _ _ _ q=>lt_int q
theorem jz:bq X (V2 .LtE) (fO λi j=>.bl (decide (i<=j))):=nM λ_ _ _ _ _ _ _ q=>le_int q
theorem qS:bq X (V2 .Gt) (fO λi j=>.bl (decide (j < i))):=nM λ_ _ _ _ _ _ _ q=>gt_int q
theorem vm:bq X (V2 .GtE) (fO λi j=>.bl (decide (j<=i))):=nM λ_ _ _ _ _ _ _ q=>ge_int q
theorem Fo:bq X (V2 .Lt) (λx y H Q=>∃i j,x= .str i/\y= .str j/\Q (.bl (decide (i.cps.toList < j.cps.toList))) H):=by
 intro Xz s σ H x y v u Q I rx ry h;obtain⟨i,j,rfl,rfl,q⟩:=h;obtain⟨t,rfl⟩:=rx;obtain⟨t',rfl⟩:=ry;exact lt_str (d4 I q rfl)
theorem Fp:bq X (V2 .In) (λx y H Q=>∃i j,x= .str i/\y= .str j/\Q (.bl (!(RQ j i 0 j.length 1).isEmpty)) H):=by
 intro Xz s σ H x y v u Q I rx ry h;obtain⟨i,j,rfl,rfl,q⟩:=h;obtain⟨t,rfl⟩:=rx;obtain⟨t',rfl⟩:=ry;exact in_str (d4 I q rfl)
theorem Fq:bq X (V2 .Is) (λx y H Q=>y= .non/\Q (.bl (decide (x= .non))) H):=by
 intro Xz s σ H x y v u Q I rx ry h;obtain⟨rfl,q⟩:=h;cases ry;refine is_none_gen (d4 I q ?_);cases x <;> first
  | (cases rx;rfl)
  | (obtain⟨t,rfl⟩:=rx;rfl)
theorem vn:bq X (V2 .IsNot) (λx y H Q=>y= .non/\Q (.bl (!decide (x= .non))) H):=by
 intro Xz s σ H x y v u Q I rx ry h;obtain⟨rfl,q⟩:=h;cases ry;refine isnot_none_gen (d4 I q ?_);cases x <;> first
  | (cases rx;rfl)
  | (obtain⟨t,rfl⟩:=rx;rfl)
theorem aB(b:VR){op:CmpOp}(h:op≠ .In:=by decide)(h2:op≠ .NotIn:=by decide):Wg op b=false:=by
 have e1:(op==CmpOp.In)=false:=by cases op <;> first | rfl | exact absurd rfl h
 have e2:(op==Vo)=false:=by cases op <;> first | rfl | exact absurd rfl h2
 cases b <;> simp [Wg,e1,e2]
theorem Fs{op:CmpOp}{r:R2}(ho:bq X (V2 op) r)(ha:PE X a ta)(hb:PE X b tb)(hm:Wg op b=false):PE X (.Compare a [op] [b] pos) (jy r ta tb):=by
 intro Xz s σ H Q I h;exact wpAny_Compare1 (qR ha hb I h λv u s2 x y H2 I2 rx ry q=>ho Xz s2 σ H2 x y v u Q I2 rx ry q) hm
def nQ(t:TE):TT:=λσ H Q=>t σ H λx H'=>∃k,x= .bl k/\Q k H'
theorem nR{op:CmpOp}{r:R2}(ho:bq X (V2 op) r)(ha:PE X a ta)(hb:PE X b tb)(hm:Wg op b=false):PT X (.Compare a [op] [b] pos) (nQ (jy r ta tb)):=by
 intro Xz s σ H Q I h;refine wpAny_isTrue_Compare1 (az (ha Xz s σ H _ I h) λv s1 ⟨x,H1,I1,r1,q1⟩=>az (hb Xz s1 σ H1 _ I1 q1) λu s2 ⟨y,H2,I2,r2,q2⟩=>
  az (ho Xz s2 σ H2 x y v u _ I2 r1 r2 q2) λc s3 ⟨z,H3,I3,r3,k,e,q3⟩=>?_) hm
 subst e;cases r3;exact V7 ⟨H3,I3,q3⟩
def nS(r r':R2)(ta tb tc:TE):TE:=λσ H Q=>ta σ H λx H1=>tb σ H1 λy H2=>r x y H2 λz H3=>∃k,z= .bl k/\
 (if k=true then tc σ H3 λw' H4=>r' y w' H4 Q else Q (.bl false) H3)
theorem Ft{op op':CmpOp}{r r':R2}(ho:bq X (V2 op) r)(ho':bq X (V2 op') r')(ha:PE X a ta)(hb:PE X b tb)(hc:PE X c tc)
 (hm:lastMarks [op,op'] [b,c]=false:=by with_unfolding_all rfl):PE X (.Compare a [op,op'] [b,c] pos) (nS r r' ta tb tc):=by
 intro Xz s σ H Q I h;refine Compare_chain (az (ha Xz s σ H _ I h) λv s1 ⟨x,H1,I1,r1,q1⟩=>chain_link (az (hb Xz s1 σ H1 _ I1 q1) λu s2 ⟨y,H2,I2,r2,q2⟩=>
  az (ho Xz s2 σ H2 x y v u _ I2 r1 r2 q2) λd s3 ⟨z,H3,I3,r3,k,e,q3⟩=>?_)) hm
 subst e;cases r3;refine V7 ?_;cases k with
 | false=>exact ite_ff ⟨.bl false,H3,I3,rfl,q3⟩
 | true=>exact ite_tt (chain_last (az (hc Xz s3 σ H3 _ I3 q3) λw' s4 uu41=>by obtain⟨z',H4,I4,r4,q4⟩:=uu41;exact ho' Xz s4 σ H4 y z' u w' Q I4 r2 r4 q4))
theorem Fv{op op':CmpOp}{r r':R2}(ho:bq X (V2 op) r)(ho':bq X (V2 op') r')(ha:PE X a ta)(hb:PE X b tb)(hc:PE X c tc)
 (hm:lastMarks [op,op'] [b,c]=false:=by with_unfolding_all rfl):PT X (.Compare a [op,op'] [b,c] pos) (nQ (nS r r' ta tb tc)):=by
 intro Xz s σ H Q I h;refine isTrue_chain (az (ha Xz s σ H _ I h) λv s1 ⟨x,H1,I1,r1,q1⟩=>test_link (az (hb Xz s1 σ H1 _ I1 q1) λu s2 ⟨y,H2,I2,r2,q2⟩=>
  az (ho Xz s2 σ H2 x y v u _ I2 r1 r2 q2) λd s3 ⟨z,H3,I3,r3,k,e,q3⟩=>?_)) hm
 subst e;cases r3;refine V7 ?_;cases k with
 | false=>
  obtain⟨k',e',q'⟩:=q3;cases e';exact ite_ff ⟨H3,I3,q'⟩
 | true=>
  refine ite_tt (test_last (az (hc Xz s3 σ H3 _ I3 q3) λw' s4 ⟨z',H4,I4,r4,q4⟩=>az (ho' Xz s4 σ H4 y z' u w' _ I4 r2 r4 q4) λd' s5 ⟨z2,H5,I5,r5,k2,e2,q5⟩=>?_));subst e2;cases r5;exact V7 ⟨H5,I5,q5⟩
def vo(K:Og)(x:V)(H:Hp)(k:Bool):Prop:=
 match x with
 | .non=>k=false
 | .bl b=>k=b
 | .int i=>k=(i !=0)
 | .str y=>y.length<=VT/\k=((y.length:Int) !=0)
 | .byt y=>y.size<=VT/\k=((y.size:Int) !=0)
 | .ref p=>(∃xs,bf K H p xs/\k=!xs.isEmpty)\/(∃xs,br K H p xs/\k=!xs.isEmpty)\/∃kvs,H p=some (.dK kvs)/\k=!kvs.isEmpty
 | _=>False
theorem Fw{κ:Type}{kvs:List (κ×V)}{vs:List (κ×VJ)}(r:KV kvs vs):(!vs.isEmpty)=!kvs.isEmpty:=by
 cases r <;> rfl
theorem vp{xs:List V}{its:List VJ}(r:aI xs its):(!its.toArray.isEmpty)=!xs.isEmpty:=by
 cases r <;> simp
theorem jA:(VT:Nat) < 2 ^ 63:=by rw [Wq];decide
theorem Fx:Fl X (λx H Q=>∃k,vo X.K x H k/\Q k H):=by
 intro Xz s σ H x v Q I rx h;obtain⟨k,e,q⟩:=h;have hl:=jA;have hs:VT=16777216:=Wq;cases x with
 | non=>
  cases rx;have e':k=false:=e;subst e';exact truthy_none ⟨H,I,q⟩
 | bl b=>
  cases rx;have e':k=b:=e;subst e';exact V7 ⟨H,I,q⟩
 | int i=>
  obtain⟨t,rfl⟩:=rx;have e':k=(i !=0):=e;subst e';exact PySem.P.truthy_int ⟨H,I,q⟩
 | str y=>
  obtain⟨t,rfl⟩:=rx;obtain⟨hy,e'⟩:y.length<=VT/\k=((y.length:Int) !=0):=e;subst e';exact PySem.P.truthy_str VD ⟨H,I.tok _,q⟩
 | byt y=>
  obtain⟨t,rfl⟩:=rx;obtain⟨hy,e'⟩:y.size<=VT/\k=((y.size:Int) !=0):=e;subst e';exact PySem.W.truthy_bytes VD ⟨H,I.tok _,q⟩
 | ref p=>
  cases rx;have e':(∃xs,bf X.K H p xs/\k=!xs.isEmpty)\/(∃xs,br X.K H p xs/\k=!xs.isEmpty)\/∃kvs,H p=some (.dK kvs)/\k=!kvs.isEmpty:=e;rcases e' with⟨xs,hx,e'⟩ | ⟨xs,hx,e'⟩ | ⟨kvs,hx,e'⟩
  ·subst e';obtain⟨its,r,pl,hz⟩:=I.list hx;have hlen:=r.length;exact wpAny_truthy_list pl.isList (by simp only [OC];omega) ⟨H,I.tok _,by rw [vp r];exact q⟩
  ·subst e';obtain⟨its,r,pl,hz⟩:=I.tuple hx;have hlen:=r.length;exact truthy_tuple pl (by simp only [OC];omega) ⟨H,I.tok _,by rw [vp r];exact q⟩
  ·subst e';obtain⟨hz,hS,vs,r,m⟩:kvs.length<=VT/\(p==Wo)=false/\∃vs,KV kvs vs/\s.heap.DictOf (cY X.prog X.w) p vs:=I.hok p _ hx;have hlen:kvs.length=vs.length:=SE r;exact wpAny_truthy_dict hS m VD ⟨H,I.tok _,by rw [Fw r];exact q⟩
 | _=>exact(show False from e).elim
theorem Fy(ha:PE X a ta)(he:∀whole,isTrue a X.env whole=(do let v<-whole;standAt a.pos;holding [v] (truthy v))):
 PT X a (λσ H Q=>ta σ H λx H'=>∃k,vo X.K x H' k/\Q k H'):=by
 intro Xz s σ H Q I h;exact isTrue_plain (az (ha Xz s σ H _ I h) λv s1 uu47=>by obtain⟨x,H1,I1,r1,q1⟩:=uu47;exact Fx Xz s1 σ H1 x v Q I1 r1 q1) (he _)
theorem vq:bq X (Wn .Add) (λx y H Q=>∃i j,x= .str i/\y= .str j/\i.length+j.length<=VT/\Q (.str (i++j)) H):=by
 intro Xz s σ H x y v u Q I rx ry h;obtain⟨i,j,rfl,rfl,hz,q⟩:=h;obtain⟨t,rfl⟩:=rx;obtain⟨t',rfl⟩:=ry;exact add_str (λt' tk=>⟨.str (i++j),H,I.tok _,⟨_,rfl⟩,q⟩) hz
theorem dj{x:V}{us:List VJ}(r:aI [x] us):∃u,us=[u]/\aH x u:=by
 cases r with
 | cons r1 r2=>cases r2;exact⟨_,rfl,r1⟩
theorem lL{x y:V}{us:List VJ}(r:aI [x,y] us):∃u w',us=[u,w']/\aH x u/\aH y w':=by
 cases r with
 | cons r1 r2=>
  cases r2 with
  | cons r3 r4=>cases r4;exact⟨_,_,rfl,r1,r3⟩
theorem Fz:cO X (.builtin "abs") (λxs H Q=>∃i,xs=[.int i]/\Q (.int (if i < 0 then -i else i)) H):=by
 intro Xz s σ H xs us Q I r h;obtain⟨i,rfl,q⟩:=h;obtain⟨u,rfl,t,rfl⟩:=dj r;exact call_abs_int λu tk=>⟨.int (if i < 0 then -i else i),H,I.tok _,⟨_,rfl⟩,q⟩
theorem vt(hc:X.calm=true):cO X (.builtin "max") (λxs H Q=>∃i j,xs=[.int i,.int j]/\Q (.int (if j > i then j else i)) H):=by
 intro Xz s σ H xs us Q I r h;obtain⟨i,j,rfl,q⟩:=h;obtain⟨u,w',rfl,⟨t,rfl⟩,⟨t',rfl⟩⟩:=lL r;refine max_two_ints (I.ok.hd hc) λh' tk k=>⟨_,H,I.kept k,?_,q⟩;by_cases hj:j > i
 ·rw [VF hj,VF hj];exact⟨_,rfl⟩
 ·rw [VE hj,VE hj];exact⟨_,rfl⟩
theorem vv:cO X (.type "int") (λxs H Q=>(∃i,xs=[.int i]/\Q (.int i) H)\/∃k,xs=[.bl k]/\Q (.int (if k then 1 else 0)) H):=by
 intro Xz s σ H xs us Q I r h;rcases h with⟨i,rfl,q⟩ | ⟨k,rfl,q⟩
 ·obtain⟨u,rfl,t,rfl⟩:=dj r;exact call_int_int ⟨.int i,H,I,⟨_,rfl⟩,q⟩
 ·obtain⟨u,rfl,r1⟩:=dj r;cases r1;exact call_int_bool ⟨.int (if k then 1 else 0),H,I.tok _,⟨_,rfl⟩,q⟩
theorem FA:cO X (.builtin "divmod") (λxs H Q=>∃i j,xs=[.int i,.int j]/\lK i j/\∀p,H p=none->Q (.ref p) (av H p (.tup [.int (i / j),.int (i % j)]))):=by
 intro Xz s σ H xs us Q I r h;obtain⟨i,j,rfl,⟨h1,h2⟩,q⟩:=h;obtain⟨u,w',rfl,⟨t,rfl⟩,⟨t',rfl⟩⟩:=lL r;refine divmod_int VD ?_ (.inl (Tq VD));rw [SG i VD,SH i VD];have hn:H s.heap.objs.size=none:=I.hok.fresh (Ot _);refine⟨.ref s.heap.objs.size,_,?_,rfl,q _ hn⟩;refine I.laid (λb o e=>Oo _ e) (Ot _) ⟨by simp only [OG,Qx];rw [Wq];decide,[.int (i / j) s.toks,.int (i % j) (s.toks+1)],.cons ⟨_,rfl⟩ (.cons ⟨_,rfl⟩ .nil),?_⟩;exact⟨_,OP s.heap rfl,rfl,0,rfl⟩
end
theorem fw.some_of{v:V}{o:Option VJ}(r:fw (some v) o):∃u,o=some u/\aH v u:=by
 cases o with
 | none=>exact(show False from r).elim
 | some u=>exact⟨u,rfl,r⟩
structure bp (k:Nat) (A:V1):Prop where
 hd:A.handled=none
 dp:A.depth+3*k+5 < recursionLimit
 un:A.units+16*k+200 < V9
theorem bp.mono{j k:Nat}{A:V1}(r:bp k A)(h:j<=k):bp j A:=⟨r.hd,by have:=r.dp;omega,by have:=r.un;omega⟩
theorem bp.deeper{k:Nat}{A:V1}(r:bp (k+1) A)(env:Env):bp k (A.deeper env):=
 ⟨r.hd,by have:=r.dp;show A.depth+1+3*k+5 < _;omega,by have:=r.un;show A.units+3+16*k+200 < _;omega⟩
theorem bp.in1{k:Nat}{A:V1}(r:bp (k+1) A):bp k A.in1:=
 ⟨r.hd,by have:=r.dp;show A.depth+3*k+5 < _;omega,by have:=r.un;show A.units+1+16*k+200 < _;omega⟩
theorem bp.depth{k:Nat}{A:V1}(r:bp k A):A.depth < recursionLimit:=by have:=r.dp;omega
theorem bp.units{k:Nat}{A:V1}(r:bp k A):A.units+64 < V9:=by have:=r.un;omega
theorem bp.units0{k:Nat}{A:V1}(r:bp k A):A.units < V9:=by have:=r.un;omega
def qT:TA:=λ_ H Q=>Q [] H
def qU(ta:TE)(tr:TA):TA:=λσ H Q=>ta σ H λx H1=>tr σ H1 λxs H2=>Q (x::xs) H2
section
variable {X:Cx} {e:VR} {es:List VR} {te:TE} {t:TA} {pos:Pos}
theorem dF:PA X [] qT:=λ_ _ _ _ H Q I h=>RV ⟨[],H,I,.nil,h⟩
theorem bS(ha:PE X e te)(hr:PA X es t)(hs:VP (e::es) X.env=(false,eval e X.env)::VP es X.env:=by rfl):PA X (e::es) (qU te t):=by
 intro pos Xz s σ H Q I h;rw [hs];show VQ _ _ (spliced ((false,eval e X.env)::V6 pos (VP es X.env))) _ _ s;refine QZ (az (ha Xz s σ H _ I h) λu s1 ⟨x,H1,I1,r1,q1⟩=>?_);exact az (hr pos Xz s1 σ H1 _ I1 q1) λus s2 uu49=>by obtain⟨xs,H2,I2,r2,q2⟩:=uu49;exact⟨x::xs,H2,I2,.cons r1 r2,q2⟩
def qV(t:TA):TE:=λσ H Q=>t σ H λxs H1=>xs.length<=VT/\∀p,H1 p=none->Q (.ref p) (av H1 p (.tup xs))
def qW(t:TA):TE:=λσ H Q=>t σ H λxs H1=>xs.length<=VT/\∀p,H1 p=none->Q (.ref p) (av H1 p (.lst xs))
theorem vw{x1}(h:PA X es t):PE X (.Tuple es x1 pos) (qV t):=by
 intro Xz s σ H Q I hq;refine wpAny_Tuple_spliced (az (h pos Xz s σ H _ I hq) λus s1 ⟨xs,H1,I1,r,z,q⟩=>⟨by rw [<-r.length];exact z,?_⟩);have hf:H1 s1.heap.objs.size=none:=I1.hok.fresh (Ot _);refine⟨.ref s1.heap.objs.size,av H1 s1.heap.objs.size (.tup xs),I1.laid (t':=s1.toks) (λb u e=>Oo _ e) (Ot _) ?_,rfl,q _ hf⟩;exact⟨z,us,r,⟨_,OP _ rfl,rfl,_,rfl⟩⟩
theorem vz(h:PA X es t):PE X (.List es pos) (qW t):=by
 intro Xz s σ H Q I hq;refine wpAny_List_spliced (az (h pos Xz s σ H _ I hq) λus s1 ⟨xs,H1,I1,r,z,q⟩=>⟨by rw [<-r.length];exact z,?_⟩);have hf:H1 s1.heap.objs.size=none:=I1.hok.fresh (Ot _);refine⟨.ref s1.heap.objs.size,av H1 s1.heap.objs.size (.lst xs),I1.laid (t':=s1.toks) (λb u e=>Oo _ e) (Ot _) ?_,rfl,q _ hf⟩;exact⟨z,us,0,r,OP _ rfl⟩
end
abbrev Sp:=List V->Hp->VK->XK->Prop
abbrev eJ:=List Env->Hp->VN->XK->VJ->VN->Prop
structure i4 (P:VW) (w:VZ) (K:Og) (mg:Str->Option VJ) (base:VY) (A:V1) (outer:List Env) (s:VN) (H:Hp):Prop where
 frames:A.frames=some outer
 mod:Mod K mg base
 bs:∀b o,base.get? b=some o->s.heap.get? b=some o/\H b=none
 bsz:base.objs.size<=s.heap.objs.size
 funs:s.heap.FunFrames base outer
 frf:∀b∈aX outer,H b=none
 hok:bJ P w H s.heap
 bare:WT s.gens
def CE(outer:List Env)(P:VW)(w:VZ)(H:Hp)(s:VN)(Q:VK)(u:VJ)(s':VN):Prop:=
 ∃v H',s'.os=s.os/\WT s'.gens/\Un (aX outer) [] H H' s.heap s'.heap/\bJ P w H' s'.heap/\aH v u/\Q v H'
def CR(CX:eJ)(outer:List Env)(P:VW)(w:VZ)(H:Hp)(s:VN)(Q:VK)(E:XK)(r:Result)(s':VN):Prop:=
 match r with
 | .ok (.ret u)=>CE outer P w H s Q u s'
 | .ok _=>False
 | .error e=>CX outer H s E e s'
structure aF (P:VW) (w:VZ) (K:Og) (mg:Str->Option VJ) (base:VY) (CX:eJ) (k:Nat) (f:VM) (fd:VU) (ps:List Str) (sp:Sp):Prop where
 len:∀vs H Q E,sp vs H Q E->vs.length=ps.length
 run:∀(A:V1)(outer:List Env)(s:VN)(H:Hp)(args:Args)(us:List VJ)(vs:List V)(Q:VK)(E:XK),bp k A->i4 P w K mg base A outer s H->BindsTo s fd args (ps.zip us)->aI vs us->sp vs H Q E->
  WB (VS P w) A (.call (.ref f) args) (CR CX outer P w H s Q E) s
theorem i4.in1{P:VW}{w:VZ}{K:Og}{mg:Str->Option VJ}{base:VY}{A:V1}{outer:List Env}{s:VN}{H:Hp}(e:i4 P w K mg base A outer s H):
 i4 P w K mg base A.in1 outer s H:=⟨e.frames,e.mod,e.bs,e.bsz,e.funs,e.frf,e.hok,e.bare⟩
section
variable {X:Cx} {Xz:List (VM×Obj)} {σ:St} {H:Hp} {s s':VN}
theorem ae.env0(I:ae X Xz σ H s):i4 X.prog X.w X.K X.mg X.base X.A X.stack s H:=
 ⟨I.ok.frames,I.ok.mod,I.bs,OZ I.ok.bsz I.sz,I.stack,I.stkFree,I.hok,I.bare⟩
theorem ae.after{Q:VK}{u:VJ}(I:ae X Xz σ H s)(h:CE X.stack X.prog X.w H s Q u s'):EP X Xz σ Q u s':=by
 obtain⟨v,H',os,bare,un,hok,r,q⟩:=h;obtain⟨hh,g,d,t,os'⟩:=s';obtain rfl:os'=s.os:=os;exact⟨v,H',I.call (h':=hh) (g':=g) (d':=d) (t':=t) (ch:=[]) un hok bare (λb z=>absurd z VH),r,q⟩
end
def lM(sp:Sp)(dvs:List V)(E:XK)(t:TA):TE:=λσ H Q=>t σ H λvs H1=>sp (vs++dvs) H1 Q E
def eL(K:Og)(fd:VU)(ps:List Str)(ds:List VJ):Prop:=
 ∀(s:VN)(us:List VJ),K.In s.heap->(us++ds).length=ps.length->BindsTo s fd ⟨us,[]⟩ (ps.zip (us++ds))
theorem eL.all{K:Og}{fd:VU}{ps:List Str}(h:∀us:List VJ,us.length=ps.length->bindArgs fd ⟨us,[]⟩=pure (ps.zip us)):eL K fd ps []:=λs us _ hl=>by
 rw [Po] at hl⊢;exact .of_eq (h us hl)
def lN(CX:eJ)(X:Cx)(E:XK):Prop:=∀(Xz:List (VM×Obj))(σ:St)(H:Hp)(s:VN)(e:VJ)(s':VN),ae X Xz σ H s->CX X.stack H s E e s'->X.xe e s'
section
variable {X:Cx} {CX:eJ} {k:Nat} {f C:VM} {fd:VU} {ps:List Str} {sp:Sp} {dvs:List V} {ds:List VJ} {E:XK} {x m:Str} {p pos apos:Pos} {e o:VR} {es:List VR} {ta:TE} {t:TA}
theorem FC{Xz:List (VM×Obj)}{σ:St}{H:Hp}{s:VN}{Q:VK}{us:List VJ}{vs:List V}(F:aF X.prog X.w X.K X.mg X.base CX k f fd ps sp)(hr:bp k X.A)(hb:eL X.K fd ps ds)(hd:aI dvs ds)(hx:lN CX X E)
 (I:ae X Xz σ H s)(r:aI vs us)(h:sp (vs++dvs) H Q E):VQ (VS X.prog X.w) X.A (call (.ref f) us) (EP X Xz σ Q) X.xe s:=by
 have r2:aI (vs++dvs) (us++ds):=r.append hd;have hl:(us++ds).length=ps.length:=by rw [<-r2.length];exact F.len _ _ _ _ h
 refine wpAny_call (Wr (F.run X.A X.stack s H ⟨us,[]⟩ (us++ds) (vs++dvs) Q E hr I.env0 (hb s us I.kIn hl) r2 h) λr s' hq=>?_);cases r with
 | error e=>exact hx Xz σ H s e s' I hq
 | ok fl=>
  cases fl with
  | ret u=>exact I.after hq
  | next=>exact PY hq
  | brk=>exact PY hq
  | cont=>exact PY hq
theorem qX(F:aF X.prog X.w X.K X.mg X.base CX k f fd ps sp)(hr:bp k X.A)(hg:Gl X x)(hm:X.mg x=some (.ref f))(hk:Rb X.K (.ref f)=true)(hb:eL X.K fd ps ds)(hd:aI dvs ds)(hx:lN CX X E)
 (ha:PA X (e::es) t)(hdb:(x==("__debug__":Str))=false:=by decide)(he:VP (e::es) X.env=(false,eval e X.env)::VP es X.env:=by rfl)(hpl:(V6 pos (VP es X.env)).any (·.1)=false:=by rfl):
 PE X (.Call (.Name x p) (e::es) [] pos) (lM sp dvs E t):=by
 intro Xz s σ H Q I h;refine Ws (kc I hg hm ?_ hdb);refine Su (h₀:=X.base) I.ok.mod.kin hk (az (ha pos Xz s σ H _ I h) λus s1 ⟨vs,H1,I1,r,q⟩=>⟨I1.kIn,?_⟩) he hpl;exact FC F hr hb hd hx I1 r q
end
section
variable {X:Cx} {CX:eJ} {k:Nat} {f C:VM} {fd:VU} {ps ks:List Str} {sp:Sp} {E:XK} {x m:Str} {p pos apos kpos:Pos} {e o:VR} {es:List VR} {kws:List Wu} {te ta:TE} {t tk:TA} {nm:Option Str}
variable {g:List VJ->List VJ->List VJ} {gV:List V->List V->List V}
end
structure aP (N P:List Str) (sc:Wc):Prop where
 kind:sc.kind= .function
 co:sc.isCoroutine=false
 gen:sc.isGenerator=false
 nd:N.Nodup
 pre:N.take P.length=P
 par:∀x∈P,sc.names.lookup x=some .local\/sc.names.lookup x=some .cell
 nofree:∀y∈sc.names,y.2≠ .free
theorem vA{kindOf:Str->Option Wm}{x:Str}:∀{binds:List (Str×VJ)}{m:Str->Option VJ},(∀v,(x,v)∉ binds)->bindL kindOf binds m x=m x
 | [],_,_=>rfl
 | (n,v)::r,m,h=>by
  unfold bindL;rw [vA λw hw=>h w (OR _ hw)];split
  ·have:x≠n:=by rintro rfl;exact h v O3
   simp [this]
  ·rfl
theorem vB{kindOf:Str->Option Wm}{x:Str}:∀{binds:List (Str×VJ)}{m:Str->Option VJ},(∀v,(x,v)∉ binds)->bindC kindOf binds m x=m x
 | [],_,_=>rfl
 | (n,v)::r,m,h=>by
  unfold bindC;rw [vB λw hw=>h w (OR _ hw)];split
  ·rfl
  ·have:x≠n:=by rintro rfl;exact h v O3
   simp [this]
theorem vC{kindOf:Str->Option Wm}{x:Str}{v:VJ}:∀{P:List Str}{vs:List VJ}{i:Nat}{m:Str->Option VJ},P.Nodup->P[i]?=some x->vs[i]?=some v->kindOf x=some .local->
 bindL kindOf (P.zip vs) m x=some v
 | [],_,_,_,_,h,_,_=>by simp at h
 | _::_,[],_,_,_,_,h,_=>by simp at h
 | p::P,w::vs,0,m,nd,h1,h2,hk=>by
  simp at h1 h2;subst h1;subst h2;show bindL kindOf ((p,w)::P.zip vs) m p=_;unfold bindL;rw [vA λv hv=>(QK.mp nd).1 (Tn hv).1,VF hk];simp
 | p::P,w::vs,i+1,m,nd,h1,h2,hk=>by
  show bindL kindOf ((p,w)::P.zip vs) m x=_;unfold bindL;exact vC (i:=i) (QK.mp nd).2 (by simpa using h1) (by simpa using h2) hk
theorem vD{kindOf:Str->Option Wm}{x:Str}{v:VJ}:∀{P:List Str}{vs:List VJ}{i:Nat}{m:Str->Option VJ},P.Nodup->P[i]?=some x->vs[i]?=some v->kindOf x≠some .local->
 bindC kindOf (P.zip vs) m x=some v
 | [],_,_,_,_,h,_,_=>by simp at h
 | _::_,[],_,_,_,_,h,_=>by simp at h
 | p::P,w::vs,0,m,nd,h1,h2,hk=>by
  simp at h1 h2;subst h1;subst h2;show bindC kindOf ((p,w)::P.zip vs) m p=_;unfold bindC;rw [vB λv hv=>(QK.mp nd).1 (Tn hv).1,VE hk];simp
 | p::P,w::vs,i+1,m,nd,h1,h2,hk=>by
  show bindC kindOf ((p,w)::P.zip vs) m x=_;unfold bindC;exact vD (i:=i) (QK.mp nd).2 (by simpa using h1) (by simpa using h2) hk
def start(N:List Str)(vs:List V):St:=vs.map some++OQ (N.length - vs.length) none
def bO(CX:eJ)(P:VW)(w:VZ)(K:Og)(mg:Str->Option VJ)(base:VY)(N:List Str)(qual:Str)(scope:Wc)(f:VM)(cd:VJ)(A:V1)(outer:List Env)(s:VN)(H:Hp)(E:XK):Cx where
 prog:=P
 w:=w
 K:=K
 mg:=mg
 base:=base
 A:=A.deeper (WE qual scope s.heap.objs.size f cd)
 N:=N
 s₀:=s
 H₀:=H
 env:=WE qual scope s.heap.objs.size f cd
 outer:=outer
 stack:=WE qual scope s.heap.objs.size f cd::outer
 ex:=[]
 calm:=true
 fn:=λ_=>true
 pn:=[]
 xe:=λe s'=>VQ (VS P w) (A.deeper (WE qual scope s.heap.objs.size f cd)) (leaving (WE qual scope s.heap.objs.size f cd) e) (λ_ s''=>CX outer H s E e s'') (λe' s''=>CX outer H s E e' s'') s'
theorem vE{sc:Wc}{n:Nat}{x:Str}(h:sc.names.lookup x=some .cell):∃c,(Wl n sc.names []).lookup x=some c:=by
 have q:=R1 sc.names n [] (.inl h);exact QL.mp q
theorem FD{CX:eJ}{P:VW}{w:VZ}{K:Og}{mg:Str->Option VJ}{base:VY}{N ps:List Str}{qual:Str}{scope:Wc}{f:VM}{cd:VJ}{A:V1}{outer:List Env}{s s1:VN}{H:Hp}{E:XK}{us:List VJ}{vs:List V}
 (S:aP N ps scope)(hd:A.handled=none)(e0:i4 P w K mg base A outer s H)(hl:vs.length=ps.length)(r:aI vs us)
 (x:InCallC s s.heap.objs.size (bindL (WE qual scope s.heap.objs.size f cd).kindOf (ps.zip us) λ_=>none) (Wl (s.heap.objs.size+1) scope.names []) (bindC (WE qual scope s.heap.objs.size f cd).kindOf (ps.zip us) λ_=>none) s1):
 ae (bO CX P w K mg base N qual scope f cd A outer s H E) [] (start N vs) H s1:=by
 have hpl:ps.length<=N.length:=by have:=congrArg Vp S.pre;rw [Pn] at this;omega
 obtain⟨h1,tk,rfl,hk⟩:=x.done;have noA:∀b:VM,b ∉ (bO CX P w K mg base N qual scope f cd A outer s H E).ex:=λb z=>absurd (show b∈([]:List VM) from z) VH;refine⟨⟨e0.mod,S.kind,rfl,rfl,Ot _,λy z c h1 h2=>?_,λy hy=>?_,λy c _ h=>?_,λ_=>hd,TJ e0.frames,.inr ⟨rfl,rfl⟩,λb z=>absurd z (noA b),e0.bs,e0.bsz,λb _ _=>noA b,λb z=>absurd z (noA b),e0.funs,e0.frf⟩,
  rfl,e0.bare,Un.kept hk,⟨_,x.toInCall.ns,λi y v h1 h2 h3=>?_⟩,λy c h=>⟨_,x.cell y c h⟩,e0.hok.fresh (Ot _),λy c h=>?_,λp hp=>absurd (show p∈([]:List (VM×Obj)) from hp) VH,e0.hok.kept hk,?_⟩
 ·exact name_of_addr x.apart (PZ h1) (PZ h2)
 ·have hy:scope.names.lookup y=some .cell\/scope.names.lookup y=some .free:=hy;rcases hy with hy | hy
  ·exact vE hy
  ·exact absurd rfl (S.nofree _ (PZ hy))
 ·exact QJ (x.above y c (PZ h))
 ·have hi:i < vs.length:=by
   unfold start at h2;by_cases hi:i < vs.length
   ·exact hi
   ·rw [Qj (by simpa using hi)] at h2;rw [Rh] at h2;split at h2 <;> cases h2
  have ha:vs[i]?=some v:=by
   unfold start at h2;rw [Pr (by simpa using hi),OD] at h2;cases e:vs[i]? with
   | none=>rw [e] at h2;cases h2
   | some a=>rw [e] at h2;cases h2;rfl
  obtain⟨u,hu,rv⟩:=r.get ha;have hp:ps[i]?=some y:=by
   rw [<-S.pre,List.getElem?_take_of_lt VD];exact h1
  have ndP:ps.Nodup:=by rw [<-S.pre];exact S.nd.sublist (Q6 _ _)
  refine⟨u,rv,?_⟩;rcases S.par y (OH hp) with k | k
  ·exact .inl ⟨k,vC ndP hp hu k⟩
  ·obtain⟨c,e⟩:=vE (n:=s.heap.objs.size+1) k;refine .inr ⟨.inl k,c,e,?_⟩;have q:=x.cell y c e;rw [vD ndP hp hu (by show scope.names.lookup y≠_;rw [k];decide)] at q;exact q
 ·exact e0.hok.fresh (QJ (x.above y c (PZ h)))
 ·unfold start;show _=N.length;rw [O4,Oi,QF];omega
theorem nT{CX:eJ}{P:VW}{w:VZ}{K:Og}{mg:Str->Option VJ}{base:VY}{k:Nat}{f:VM}{name qual:Str}{params:Xh}{body:List V0}{scope:Wc}{dV kV doc pm cdv ct oc:VJ}{an od:Option VM}
 {osl:Array (Option VJ)}{N ps:List Str}{sp:Sp}(lk:K.lookup f=some ⟨oc,od,.func (Q0 name qual params body scope dV kV doc pm an cdv ct),osl⟩)(hcd:Sm K cdv qual=true)(S:aP N ps scope)
 (len:∀vs H Q E,sp vs H Q E->vs.length=ps.length)
 (hbody:∀(A:V1) (outer:List Env) (s:VN) (H:Hp) (vs:List V) (Q:VK) (E:XK),bp k (A.deeper (WE qual scope s.heap.objs.size f cdv))->sp vs H Q E->
   ∃t,bD (bO CX P w K mg base N qual scope f cdv A outer s H E) body t/\t {nx:=λ_ H'=>Q .non H',rt:=Q} (start N vs) H):
 aF P w K mg base CX (k+1) f (Q0 name qual params body scope dV kV doc pm an cdv ct) ps sp:=by
 refine⟨len,λA outer s H args us vs Q E hr e0 hb r hsp=>?_⟩;have hl:=len _ _ _ _ hsp;have KX:K.In s.heap:=e0.mod.kin.keeps λb o e=>(e0.bs b o e).1;have lim:s.heap.NoLimit:=e0.mod.nolimit.keeps λb o e=>(e0.bs b o e).1;have hkind:∀y∈ps.zip us,scope.names.lookup y.1=some .local\/(scope.names.lookup y.1=some .cell/\((Wl (s.heap.objs.size+1) scope.names []).lookup y.1).isSome=true):=λuu53 hy=>by
  obtain⟨n,v⟩:=uu53;rcases S.par n (Tn hy).1 with q | q
  ·exact .inl q
  ·exact .inr ⟨q,R1 _ _ _ (.inl q)⟩
 refine codeAny_call_function hr.depth (KX _ _ lk) rfl S.co S.gen rfl (PySem.W.codeRec_of KX hcd) (hb _ _ _ _ ?_);refine wpAny_newFunctionEnv_cells S.kind hkind λenv he s1 x=>?_;subst he;refine⟨lim.keeps x.toInCall.keep,codeAny_func ?_⟩;obtain⟨t,ht,hq⟩:=hbody A outer s H vs Q E (hr.deeper _) hsp;have I:ae (bO CX P w K mg base N qual scope f cdv A outer s H E) [] (start N vs) H s1:=FD S hr.hd e0 hl r x;refine V8 (ht [] s1 (start N vs) H _ I hq) (λfl s' hs=>?_) λe s' hs=>hs;have fin:∀{σ':St}{H':Hp}{v:V}{u:VJ},ae (bO CX P w K mg base N qual scope f cdv A outer s H E) [] σ' H' s'->aH v u->Q v H'->CE outer P w H s Q u s':=
  λ{σ' H' v u} J rv q=>⟨v,H',J.os,J.bare,J.base,J.hok,rv,q⟩
 cases fl with
 | ret u=>
  obtain⟨v,σ',H',J,rv,q⟩:=hs;exact fin J rv q
 | next=>
  obtain⟨σ',H',J,q⟩:=hs;exact fin (v:=V.non) (u:=QV) J rfl q
 | brk=>
  obtain⟨_,_,_,q⟩:=hs;exact PY q
 | cont=>
  obtain⟨_,_,_,q⟩:=hs;exact PY q
section
variable {X:Cx} {x:Str} {p pos:Pos} {e:VR} {es:List VR} {t:TA} {id T:String} {r:List V->Hp->VK->Prop}
def lO(r:List V->Hp->VK->Prop)(t:TA):TE:=λσ H Q=>t σ H λvs H1=>r vs H1 Q
theorem aS(hc:cO X (.builtin id) r)(hg:Gl X x)(hm:X.mg x=none)(hv:V3 x=some (.builtin id))(ha:PA X (e::es) t)(hn:x≠"__name__":=by decide)(hdb:(x==("__debug__":Str))=false:=by decide)
 (he:VP (e::es) X.env=(false,eval e X.env)::VP es X.env:=by rfl)(hpl:(V6 pos (VP es X.env)).any (·.1)=false:=by rfl):PE X (.Call (.Name x p) (e::es) [] pos) (lO r t):=by
 intro Xz s σ H Q I h;refine Ws (ke I hg hm hv ?_ hn hdb);exact PyProof.Rows.callWith_builtin1 (az (ha pos Xz s σ H _ I h) λus s1 uu54=>by obtain⟨vs,H1,I1,r1,q1⟩:=uu54;exact hc Xz s1 σ H1 vs us Q I1 r1 q1) he hpl
theorem fP(hc:cO X (.type T) r)(hg:Gl X x)(hm:X.mg x=none)(hv:V3 x=some (.type T))(ha:PA X (e::es) t)(hn:x≠"__name__":=by decide)(hdb:(x==("__debug__":Str))=false:=by decide)
 (he:VP (e::es) X.env=(false,eval e X.env)::VP es X.env:=by rfl)(hpl:(V6 pos (VP es X.env)).any (·.1)=false:=by rfl):PE X (.Call (.Name x p) (e::es) [] pos) (lO r t):=by
 intro Xz s σ H Q I h;refine Ws (ke I hg hm hv ?_ hn hdb);exact Rv (az (ha pos Xz s σ H _ I h) λus s1 uu55=>by obtain⟨vs,H1,I1,r1,q1⟩:=uu55;exact hc Xz s1 σ H1 vs us Q I1 r1 q1) he hpl
end
end L2
namespace HT
open PySem PyProof.Rows
theorem eqAt_int(A:V1)(s:VN)(a:Int)(t:Tok)(c:Int)(u:Tok):∃e,TK A s (.int a t) (.int c u) e/\(e=true↔a=c):=
 ⟨(a==c),TK.int_int a t c u,VH⟩
theorem rcLt_int(A:V1)(s:VN)(a:Int)(t:Tok)(c:Int)(u:Tok)(prog:VW)(w:VZ)(E:VJ->VN->Prop)(Q:VJ->VN->Prop)(h:Q (.bool (decide (a < c))) s):
 VQ (VS prog w) A (richCompare .Lt (.int a t) (.int c u)) Q E s:=
 (PyProof.Rows.lt_int h:VQ (VS prog w) A (V2 .Lt (.int a t) (.int c u)) Q E s)
section
open PySem.SeqAt
open PySem.AutoSeq1 (wpAny_loadPart')
open PySem.MeetsSeq PySem.MeetsSeq2 PySem.MeetsSeq3
end
section
variable {prog:VW} {w:VZ} {A:V1} {E:VJ->VN->Prop} {s:VN}
theorem cat_tup{t b:VM}{vs ws:List VJ}{Q:VJ->VN->Prop}(ht:IsTup s.heap t vs.toArray)(hb:IsTup s.heap b ws.toArray)(hv:vs≠[])
 (h1:ws=[]->Q (.ref t) s)(h2:ws≠[]->Q (.ref s.heap.objs.size) {s with heap:=s.heap.push {cls:= .type "tuple",data:= .seq (vs++ws).toArray}})
 (hsz:vs.length+ws.length<=VT):VQ (VS prog w) A (Wn .Add (.ref t) (.ref b)) Q E s:=by
 obtain⟨⟨cls,dd,data,sl⟩,ho,hc,n,hd⟩:=id ht;obtain⟨⟨cls2,dd2,data2,sl2⟩,ho2,hc2,n2,hd2⟩:=id hb;simp only at hc hd hc2 hd2;subst hc hd hc2 hd2;have e:vs.toArray++ws.toArray=(vs++ws).toArray:=VH
 by_cases hw:ws=[]
 ·exact concat_meets ⟨_,ho,rfl⟩ ⟨_,ho2,rfl⟩ Xt seq_tuple_add R3 RR (RJ _ _)
   (tuple_addW1 t b vs.toArray ws.toArray n n2 dd dd2 sl sl2 (by simpa using hv) (by simp [hw])) ⟨ho,ho2,h1 hw⟩
 ·refine concat_meets ⟨_,ho,rfl⟩ ⟨_,ho2,rfl⟩ Xt seq_tuple_add R3 RR (RJ _ _)
   (tuple_addW2 t b vs.toArray ws.toArray n n2 dd dd2 sl sl2 (by simpa using hv) (by simpa using hw) (by rw [OC,OC];exact hsz)) ⟨ho,ho2,?_⟩
  rw [e];exact h2 hw
def sIx(n d:Nat):Option Int->Nat
 | none=>d
 | some v=>if v < 0 then(v+(n:Int)).toNat else min v.toNat n
theorem lP(n d:Nat):sIx n d none=d:=rfl
theorem sIx_nat(n d k:Nat):sIx n d (some (k:Int))=min k n:=by
 show(if (k:Int) < 0 then((k:Int)+(n:Int)).toNat else min (k:Int).toNat n)=min k n;rw [VE VD,P5]
theorem sIx_le(n d:Nat)(hd:d<=n)(o:Option Int):sIx n d o<=n:=by
 cases o with
 | none=>exact hd
 | some v=>
  show(if v < 0 then(v+(n:Int)).toNat else min v.toNat n)<=n;by_cases hv:v < 0
  ·rw [VF hv];omega
  ·rw [VE hv];exact UL _ _
theorem vF(v:Int)(n d:Nat):(if v < 0 then max (v+(n:Int)) 0 else min v (n:Int))=((sIx n d (some v):Nat):Int):=by
 show(if v < 0 then max (v+(n:Int)) 0 else min v (n:Int))=(((if v < 0 then(v+(n:Int)).toNat else min v.toNat n):Nat):Int);by_cases hv:v < 0
 ·simp only [VF hv];omega
 ·simp only [VE hv];omega
theorem FF(lo hi:Option Int)(n:Nat):Qq lo hi 1 (n:Int)=(((sIx n 0 lo:Nat):Int),((sIx n n hi:Nat):Int)):=by
 have h1:¬((1:Int) < 0):=VD
 unfold Qq;simp only [h1,if_false];refine Prod.ext ?_ ?_
 ·cases lo with
  | none=>rfl
  | some v=>exact vF v n 0
 ·cases hi with
  | none=>rfl
  | some v=>exact vF v n n
theorem FG(i j:Nat):PN (i:Int) (j:Int) 1=j - i:=by
 unfold PN;have h1:(1:Int) > 0:=VD
 simp only [h1,if_true,Ub];split <;> omega
theorem vG{v:VJ}{o:Option Int}{Q:Option Int->VN->Prop}(p:IsPart v o)(h:Q o s):VQ (VS prog w) A (Builtin.Slice.slicePartIndex v) Q E s:=by
 cases p with
 | none=>exact Xa h
 | int i t=>exact slicePart_int h
theorem sliceApplied_gen{sl:VM}{vl vu:VJ}{lo hi:Option Int}{n:Nat}{Q:Int×Int×Nat->VN->Prop}(hs:s.heap.IsSliceOf sl vl vu .none)(pl:IsPart vl lo)(pu:IsPart vu hi)
 (h:Q (((sIx n 0 lo:Nat):Int),1,sIx n n hi - sIx n 0 lo) s):VQ (VS prog w) A (Q3 (.ref sl) (pure (n:Int))) Q E s:=by
 obtain⟨os,hos,hcs,hds⟩:=id hs;unfold Q3 SS;refine VL (VL (WX hos hds (x:=vl) rfl (VL (WX hos hds (x:=vu) rfl (VL (WX hos hds (x:= .none) rfl (VO ?_)))))));refine VL (Xa ?_);show VQ _ _ (if ((1:Int)==0)=true then _ else _) _ _ s;rw [VE VC];refine VL (vG pl (VL (vG pu (VL (VO ?_)))));show VQ _ _ (match Qq lo hi 1 (n:Int) with | (lo,hi)=>pure (lo,(1:Int),PN lo hi 1)) _ _ s;rw [FF lo hi n];show VQ _ _ (pure (((sIx n 0 lo:Nat):Int),(1:Int),PN ((sIx n 0 lo:Nat):Int) ((sIx n n hi:Nat):Int) 1)) _ _ s;rw [FG];exact VO h
theorem FH(xs:Array VJ)(i k:Nat):((Py k).filterMap λ(m:Nat)=>xs[((i:Int)+(m:Int)*1).toNat]?).toArray=((xs.toList.drop i).take k).toArray:=by
 have e:(λ(m:Nat)=>xs[((i:Int)+(m:Int)*1).toNat]?)=λm=>xs[i+m]?:=by
  funext m;have:((i:Int)+(m:Int)*1).toNat=i+m:=VD
  rw [this]
 rw [e];have:=pick_run xs i k;rw [Sv] at this;have e2:((λx=>xs[x]?)∘ λx=>i+x)=λm=>xs[i+m]?:=rfl;rw [e2] at this;rw [this]
theorem getItem_tuple_cut{t sl:VM}{items:Array VJ}{vl vu:VJ}{lo hi:Option Int}{Q:VJ->VN->Prop}(ht:IsTup s.heap t items)(hs:s.heap.IsSliceOf sl vl vu .none)(pl:IsPart vl lo)(pu:IsPart vu hi)
 (hw:¬(sIx items.size 0 lo=0/\sIx items.size items.size hi=items.size))
 (h:Q (.ref s.heap.objs.size) {s with heap:=s.heap.push {cls:= .type "tuple",data:= .seq ((items.toList.drop (sIx items.size 0 lo)).take (sIx items.size items.size hi - sIx items.size 0 lo)).toArray}})
 (hsz:items.size<=VT):VQ (VS prog w) A (Wy (.ref t) (.ref sl)) Q E s:=by
 have htake:sizeOk (.seq ((items.toList.drop (sIx items.size 0 lo)).take (sIx items.size items.size hi - sIx items.size 0 lo)).toArray):=by
  show((items.toList.drop (sIx items.size 0 lo)).take (sIx items.size items.size hi - sIx items.size 0 lo)).toArray.size<=VT;rw [OC,Pn,QT,OO];omega
 have hj:sIx items.size items.size hi<=items.size:=sIx_le _ _ (Ot _) hi;obtain⟨os,hos,hcs,hds⟩:=id hs;have hTs:s.TypeIs (.ref sl) "slice":=⟨os,hos,hcs⟩;unfold Wy
 try with_reducible refine Wa ?_
 first | refine VL (VO ?_) | skip
 refine VL (Xr ht.typeIs VC ?_);refine VL (Wk (name:=Oh "__getitem__") ht.typeIs P7
  (Wi P7 ht.typeIs entry_tuple_getitem ?_ (args_tuple_getitem _ _)))
 show VQ _ _ (RC (.ref t) >>=_) _ _ s;refine VL (tupleItemsOf_ ht ?_);refine VL (WQ hTs ?_);rw [VF VC];refine VL (sliceApplied_gen hs pl pu ?_);have hno:¬((((sIx items.size 0 lo:Nat):Int)==0 && (1:Int)==1 && (sIx items.size items.size hi - sIx items.size 0 lo)==items.size)=true):=by
  intro q;rw [OI,OI] at q;have q1:((sIx items.size 0 lo:Nat):Int)=0:=eq_of_beq q.1.1;have q2:sIx items.size items.size hi - sIx items.size 0 lo=items.size:=eq_of_beq q.2;exact hw ⟨VD,VD⟩
 show VQ _ _ (if (((sIx items.size 0 lo:Nat):Int)==0 && (1:Int)==1 && (sIx items.size items.size hi - sIx items.size 0 lo)==items.size)=true then _ else _) _ _ s;rw [VE hno,FH]
 first
  | exact VL (m:=PR _) (V4 (VO ⟨_,rfl,VO h⟩) htake)
  | exact VL (m:=PR _) (V4 (VL (VO (VO ⟨_,rfl,VO h⟩))) htake)
  | exact VL (VL (m:=PR _) (V4 (VO (VO ⟨_,rfl,VO h⟩)) htake))
  | exact VL (VL (m:=PR _) (V4 (VO ⟨_,rfl,VO h⟩) htake))
end
end HT
namespace L2
open PySem PySem.Spec PyProof.Rows
abbrev TO:=St->Hp->(Option Int->Hp->Prop)->Prop
def PO(X:Cx)(e:Option VR)(t:TO):Prop:=
 ∀(Xz:List (VM×Obj))(s:VN)(σ:St)(H:Hp)(Q:Option Int->Hp->Prop),ae X Xz σ H s->t σ H Q->
  VQ (VS X.prog X.w) X.A (evalPart e X.env) (λu s'=>∃o H',ae X Xz σ H' s'/\IsPart u o/\Q o H') X.xe s
def FI:TO:=λ_ H Q=>Q none H
def FJ(t:TE):TO:=λσ H Q=>t σ H λx H1=>∃i,x= .int i/\Q (some i) H1
theorem FK{ns:List Int}:∀{us:List VJ},aI (ns.map V.int) us->IntsAre us ns:=by
 induction ns with
 | nil=>intro us r;rw [PV] at r;cases r;exact .nil
 | cons n ns ih=>
  intro us r;rw [Ov] at r;cases r with
  | cons r1 r2=>
   obtain⟨t,e⟩:=r1;subst e;exact .cons n t (ih r2)
section
variable {X:Cx} {e:VR} {te:TE} {lo hi:Option VR} {tl th:TO} {pos p2:Pos}
theorem FL:PO X none FI:=by
 intro Xz s σ H Q I h;rw [evalPart_none];exact VO ⟨none,H,I,.none,h⟩
theorem FN(h:PE X e te):PO X (some e) (FJ te):=by
 intro Xz s σ H Q I hw;rw [evalPart_some];refine az (h Xz s σ H _ I hw) λu s1 ⟨x,H1,I1,r1,q1⟩=>?_;obtain⟨i,rfl,q⟩:=q1;obtain⟨t,rfl⟩:=r1;exact⟨some i,H1,I1,.int i t,q⟩
def lQ(X:Cx)(r:V->Option Int->Option Int->Hp->VK->Prop):Prop:=
 ∀(Xz:List (VM×Obj))(s:VN)(σ:St)(H:Hp)(x:V)(v vl vu:VJ)(lo hi:Option Int)(sl:VM)(Q:VK),ae X Xz σ H s->aH x v->s.heap.IsSliceOf sl vl vu .none->IsPart vl lo->IsPart vu hi->r x lo hi H Q->
  ∃T id,typeLookup (.type T) "__getitem__"=pure (some (.builtin id))/\s.TypeIs v T/\VQ (VS X.prog X.w) X.A (Wy v (.ref sl)) (EP X Xz σ Q) X.xe s
def FO(r:V->Option Int->Option Int->Hp->VK->Prop)(te:TE)(tl th:TO):TE:=λσ H Q=>te σ H λx H1=>tl σ H1 λl H2=>th σ H2 λu H3=>r x l u H3 Q
theorem nU{r:V->Option Int->Option Int->Hp->VK->Prop}(hr:lQ X r)(he:PE X e te)(hl:PO X lo tl)(hu:PO X hi th):PE X (.Subscript e (.Slice lo hi none p2) pos) (FO r te tl th):=by
 intro Xz s σ H Q I h;refine Subscript_ (az (he Xz s σ H _ I h) λv s1 ⟨x,H1,I1,r1,q1⟩=>?_);refine wpAny_Slice (az (hl Xz s1 σ H1 _ I1 q1) λvl s2 ⟨l,H2,I2,pl,q2⟩=>az (hu Xz s2 σ H2 _ I2 q2) λvu s3 ⟨u,H3,I3,pu,q3⟩=>?_);rw [evalPart_none];refine VO ?_;have I4:ae X Xz σ H3 {s3 with heap:=s3.heap.push {cls:= .type "slice",data:= .fields #[vl,vu,.none]}}:=I3.kept (t':=s3.toks) λb ob q=>Oo _ q;obtain⟨T,id,hT,ht,hg⟩:=hr Xz {s3 with heap:=s3.heap.push {cls:= .type "slice",data:= .fields #[vl,vu,.none]}} σ H3 x v vl vu l u s3.heap.objs.size Q I4 r1 (Uc ..) pl pu q3;show VQ (VS X.prog X.w) X.A (Xn e (.Slice lo hi none p2) v (.ref s3.heap.objs.size)) (EP X Xz σ Q) X.xe {s3 with heap:=s3.heap.push {cls:= .type "slice",data:= .fields #[vl,vu,.none]}};exact tail_any (ops:=[.ref s3.heap.objs.size,v]) ht hT hg (by with_unfolding_all rfl)
def iA(xs:List V)(lo hi:Option Int):List V:=(xs.drop (HT.sIx xs.length 0 lo)).take (HT.sIx xs.length xs.length hi - HT.sIx xs.length 0 lo)
theorem vH(xs:List V)(lo hi:Option Int):(iA xs lo hi).length<=xs.length:=by
 unfold iA;rw [Pn,QT];omega
def FP(K:Og):V->Option Int->Option Int->Hp->VK->Prop:=λx lo hi H Q=>∃a xs,x= .ref a/\br K H a xs/\
 ¬(HT.sIx xs.length 0 lo=0/\HT.sIx xs.length xs.length hi=xs.length)/\∀p,H p=none->Q (.ref p) (av H p (.tup (iA xs lo hi)))
theorem FQ:lQ X (FP X.K):=by
 intro Xz s σ H x v vl vu lo hi sl Q I rx hs pl pu h;obtain⟨a,xs,rfl,hx,hw,q⟩:=h;cases rx;obtain⟨its,r,ht,hz⟩:=I.tuple hx;have hlen:its.toArray.size=xs.length:=by rw [OC];exact r.length.symm
 refine⟨"tuple",_,P7.lookup,ht.typeIs,?_⟩;refine HT.getItem_tuple_cut ht hs pl pu (by rw [hlen];exact hw) ?_ (by rw [hlen];exact hz);rw [hlen];refine⟨.ref s.heap.objs.size,_,I.laid (t':=s.toks) (o:= .tup (iA xs lo hi)) (λb ob q=>Oo _ q) (Ot _) ?_,rfl,q _ (I.hok.fresh (Ot _))⟩;exact⟨OZ (vH xs lo hi) hz,_,(r.drop (HT.sIx xs.length 0 lo)).take (HT.sIx xs.length xs.length hi - HT.sIx xs.length 0 lo),Tj _ _⟩
def qY(K:Og):R2:=λx y H Q=>∃a b xs ys,x= .ref a/\y= .ref b/\br K H a xs/\br K H b ys/\xs≠[]/\xs.length+ys.length<=VT/\
 (ys=[]->Q (.ref a) H)/\(ys≠[]->∀p,H p=none->Q (.ref p) (av H p (.tup (xs++ys))))
theorem aI.nil_iff{xs:List V}{us:List VJ}(r:aI xs us):us=[]↔xs=[]:=by
 cases r with
 | nil=>simp
 | cons _ _=>simp
theorem FT:bq X (Wn .Add) (qY X.K):=by
 intro Xz s σ H x y v u Q I rx ry h;obtain⟨a,b,xs,ys,rfl,rfl,ha,hb,hx,hz,q1,q2⟩:=h;cases rx;cases ry;obtain⟨its,r1,p1,_⟩:=I.tuple ha;obtain⟨its2,r2,p2,_⟩:=I.tuple hb;refine HT.cat_tup p1 p2 (λz=>hx (r1.nil_iff.mp z)) (λz=>⟨.ref a,H,I,rfl,q1 (r2.nil_iff.mp z)⟩) (λz=>?_) (by rw [<-r1.length,<-r2.length];exact hz);refine⟨.ref s.heap.objs.size,_,I.laid (t':=s.toks) (o:= .tup (xs++ys)) (λb ob q=>Oo _ q) (Ot _) ?_,rfl,q2 (λw=>z (r2.nil_iff.mpr w)) _ (I.hok.fresh (Ot _))⟩;exact⟨by rw [O4];exact hz,_,r1.append r2,Tj _ _⟩
end
def g7(n:Nat)(i:Int):Option Nat:=if 0<=i then(if i < n then some i.toNat else none) else if -(n:Int)<=i then some (i+n).toNat else none
def atI{α:Type}(xs:List α)(i:Int):Option α:=(g7 xs.length i).bind λj=>xs[j]?
theorem vI{n:Nat}{i:Int}{j:Nat}(h:g7 n i=some j):seqIndex? i n=some j/\j < n/\-(n:Int)<=i/\i < n:=by
 unfold g7 at h;by_cases h0:0<=i
 ·rw [VF h0] at h;by_cases h1:i < n
  ·rw [VF h1] at h;have e:i.toNat=j:=Pk h;exact⟨by rw [seqIndex_of h0 h1,e],VD,VD,h1⟩
  ·rw [VE h1] at h;cases h
 ·rw [VE h0] at h;by_cases h1:-(n:Int)<=i
  ·rw [VF h1] at h;have e:(i+n).toNat=j:=Pk h;exact⟨by rw [seqIndex_neg VD h1,e],VD,h1,VD⟩
  ·rw [VE h1] at h;cases h
theorem qZ{α:Type}{xs:List α}{i:Int}{v:α}(h:atI xs i=some v):∃j,seqIndex? i xs.length=some j/\xs[j]?=some v/\j < xs.length/\-(xs.length:Int)<=i/\i < xs.length:=by
 unfold atI at h;cases e:g7 xs.length i with
 | none=>rw [e] at h;cases h
 | some j=>
  rw [e] at h;obtain⟨h1,h2,h3,h4⟩:=vI e;exact⟨j,h1,h,h2,h3,h4⟩
theorem dG{α:Type}{xs:List α}{j:Nat}{v:α}(h:xs[j]?=some v):atI xs (j:Int)=some v:=by
 have hj:j < xs.length:=(Oy.mp h).1;have e:g7 xs.length (j:Int)=some j:=by
  unfold g7;rw [VF VD,VF VD];simp
 unfold atI;rw [e];exact h
theorem atI_last{α:Type}(xs:List α)(v:α):atI (xs++[v]) (-1)=some v:=by
 have hl:(xs++[v]).length=xs.length+1:=VH
 have e:g7 (xs++[v]).length (-1)=some xs.length:=by
  unfold g7;rw [hl,VE VC,VF VD];congr 1;omega
 unfold atI;rw [e];show(xs++[v])[xs.length]?=some v;simp
def FU(b:VR):Prop:=∀o i,WY b false o i=operate [o,i] (Wy o i)
def kl(X:Cx)(r:R2):Prop:=
 ∀(value slice:VR)(Xz:List (VM×Obj))(s:VN)(σ:St)(H:Hp)(x y:V)(v u:VJ)(Q:VK),ae X Xz σ H s->aH x v->aH y u->r x y H Q->
  WY slice false v u=operate [v,u] (Wy v u)->VQ (VS X.prog X.w) X.A (Xn value slice v u) (EP X Xz σ Q) X.xe s
def vJ(X:Cx)(id:String)(r:V->List V->Hp->VK->Prop):Prop:=
 ∀(Xz:List (VM×Obj))(s:VN)(σ:St)(H:Hp)(x:V)(xs:List V)(v:VJ)(us:List VJ)(Q:VK),ae X Xz σ H s->aH x v->aI xs us->r x xs H Q->
  VQ (VS X.prog X.w) X.A (call (.builtin id) (v::us)) (EP X Xz σ Q) X.xe s
section
variable {X:Cx} {a b:VR} {ta tb:TE} {pos:Pos}
theorem jB{r:R2}(hr:kl X r)(ha:PE X a ta)(hb:PE X b tb)(hs:FU b):PE X (.Subscript a b pos) (jy r ta tb):=by
 intro Xz s σ H Q I h;exact Subscript_ (qR ha hb I h λv u s2 x y H2 I2 rx ry q=>hr a b Xz s2 σ H2 x y v u Q I2 rx ry q (hs _ _))
def nV(K:Og):R2:=λx y H Q=>∃p xs i v,x= .ref p/\y= .int i/\bf K H p xs/\atI xs i=some v/\Q v H
def vK(K:Og):R2:=λx y H Q=>∃p xs i v,x= .ref p/\y= .int i/\br K H p xs/\atI xs i=some v/\Q v H
def vL:R2:=λx y H Q=>∃z i c,x= .str z/\y= .int i/\z.length<=VT/\atI z.cps.toList i=some c/\Q (.str ⟨#[c]⟩) H
theorem bT:kl X (nV X.K):=by
 intro value slice Xz s σ H x y v u Q I rx ry h hs;obtain⟨p,xs,i,z,rfl,rfl,hq,he,q⟩:=h;cases rx;obtain⟨t,rfl⟩:=ry;obtain⟨its,r,pl,hz⟩:=I.list hq;obtain⟨j,h1,h2,h3,h4,h5⟩:=qZ he;obtain⟨w,ew,rw'⟩:=r.get h2;have hl:=r.length;have hn:=jA;have fin:EP X Xz σ Q w s:=⟨z,H,I,rw',q⟩;by_cases h0:0<=i
 ·have hj:i.toNat=j:=by
   rw [seqIndex_of h0 h5] at h1;exact Pk h1
  exact item_listR pl.isList h0 VD (by rw [hj];simpa using ew) fin hs
 ·have hj:(i+(its.toArray.size:Int)).toNat=j:=by
   rw [seqIndex_neg VD h4] at h1;rw [OC,<-hl];exact Pk h1
  exact subscriptTail_builtinR (x:=w) pl.isList.typeIs slot_list_getitem.lookup
   (wpAny_getItem_list_neg (Q:=λr s'=>r=w/\EP X Xz σ Q r s') pl.isList VD (by rw [OC] <;> omega) VD (by rw [hj];simpa using ew) ⟨rfl,fin⟩) hs
theorem aC:kl X (vK X.K):=by
 intro value slice Xz s σ H x y v u Q I rx ry h hs;obtain⟨p,xs,i,z,rfl,rfl,hq,he,q⟩:=h;cases rx;obtain⟨t,rfl⟩:=ry;obtain⟨its,r,pl,hz⟩:=I.tuple hq;obtain⟨j,h1,h2,h3,h4,h5⟩:=qZ he;obtain⟨w,ew,rw'⟩:=r.get h2;have hl:=r.length;have hn:=jA;have fin:EP X Xz σ Q w s:=⟨z,H,I,rw',q⟩;exact subscriptTail_builtinR (x:=w) pl.typeIs slot_tuple_getitem.lookup
  (getItem_tuple (j:=j) (Q:=λr s'=>r=w/\EP X Xz σ Q r s') pl VD VD (by rw [OC,<-hl];exact h1) (by simpa using ew) ⟨rfl,fin⟩) hs
theorem vM:kl X vL:=by
 intro value slice Xz s σ H x y v u Q I rx ry h hs;obtain⟨z,i,c,rfl,rfl,hz,he,q⟩:=h;obtain⟨t,rfl⟩:=rx;obtain⟨t',rfl⟩:=ry;obtain⟨j,h1,h2,h3,h4,h5⟩:=qZ he;have hl:z.cps.toList.length=z.length:=by simp [Str.length]
 rw [hl] at h1 h4 h5;have hn:=jA;exact tail_any (WV s z t) slot_str_getitem.lookup (getItem_str (c:=c) (by
  have e1:decide (i < -(2 ^ 63:Int))=false:=decide_eq_false VD;have e2:decide (i >= 2 ^ 63)=false:=decide_eq_false VD;rw [e1,e2,R8]) (by rw [h1];simpa using h2) ⟨.str ⟨#[c]⟩,H,I.tok _,⟨_,rfl⟩,q⟩) hs
theorem FV(its:List VJ)(n j:Nat)(u:VJ):P0 (·.setIfInBounds j u) {cls:= .type "list",data:= .seq its.toArray n}={cls:= .type "list",data:= .seq (its.set j u).toArray n}:=by
 simp [P0]
theorem ae.lst{Xz:List (VM×Obj)}{σ:St}{H:Hp}{s:VN}{p:VM}{xs:List V}(I:ae X Xz σ H s)(h:H p=some (.lst xs)):
 ∃(its:List VJ)(n:Nat),aI xs its/\s.heap.get? p=some {cls:= .type "list",data:= .seq its.toArray n}/\xs.length<=VT:=by
 obtain⟨z,its,n,r,e⟩:=I.hok p _ h;exact⟨its,n,r,e,z⟩
theorem ae.lstUpd{Xz:List (VM×Obj)}{σ:St}{H:Hp}{s:VN}{p:VM}{xs ys:List V}{its its':List VJ}{n n':Nat}{f:Obj->Obj}(I:ae X Xz σ H s)(h:H p=some (.lst xs))
 (ho:s.heap.get? p=some {cls:= .type "list",data:= .seq its.toArray n})(hf:f {cls:= .type "list",data:= .seq its.toArray n}={cls:= .type "list",data:= .seq its'.toArray n'})(r:aI ys its')(hz:ys.length<=VT)(t:Nat):
 ae X Xz σ (av H p (.lst ys)) {s with heap:=s.heap.update p f,toks:=t}:=by
 have e:(s.heap.update p f).get? p=some {cls:= .type "list",data:= .seq its'.toArray n'}:=by
  rw [Qh f ho (by rw [hf] <;> rfl),hf]
 refine I.write (x:=p) (e:=p) (by rw [h];trivial) (.inl rfl) (λb u hb q=>(QB _ _ (Ne.symm hb)).trans q) ⟨_,e⟩ ?_;exact⟨hz,its',n',r,e⟩
def FW:V->V->V->Hp->(Hp->Prop)->Prop:=λo i v H Q=>∃p xs k j,o= .ref p/\i= .int k/\H p=some (.lst xs)/\g7 xs.length k=some j/\Q (av H p (.lst (xs.set j v)))
theorem rg:vb X FW:=by
 intro Xz s σ H o i v ov iv u Q I ro ri rv h;obtain⟨p,xs,k,j,rfl,rfl,hp,hj,q⟩:=h;cases ro;obtain⟨t,rfl⟩:=ri;obtain⟨its,n,r,ho,hz⟩:=I.lst hp;obtain⟨h1,h2,h3,h4⟩:=vI hj;have hl:=r.length;have hn:=jA;have I':ae X Xz σ (av H p (.lst (xs.set j v))) {s with heap:=s.heap.update p (P0 (·.setIfInBounds j u))}:=
  I.lstUpd hp ho (FV its n j u) (r.set rv j) (by rw [List.length_set];exact hz) s.toks
 by_cases h0:0<=k
 ·have hk:k.toNat=j:=by
   rw [seqIndex_of h0 h4] at h1;exact Pk h1
  exact PySem.W.ki_setAt ho h0 VD (by rw [OC,<-hl];exact h4) (by rw [hk];exact⟨_,I',q⟩)
 ·have hk:(k+(its.toArray.size:Int)).toNat=j:=by
   rw [seqIndex_neg VD h3] at h1;rw [OC,<-hl];exact Pk h1
  exact PySem.W.ki_setBack ho VD (by rw [OC,<-hl];exact h3) VD (by rw [hk];exact⟨_,I',q⟩)
theorem FX(lo hi:Option Int)(n:Nat):(WL lo hi none n).1=((HT.sIx n 0 lo:Nat):Int)/\(WL lo hi none n).2.1=((HT.sIx n n hi:Nat):Int)/\(WL lo hi none n).2.2=1:=by
 refine⟨?_,?_,rfl⟩
 ·cases lo with
  | none=>simp [WL,HT.sIx]
  | some i=>
   simp only [WL,HT.sIx,UM,show(1:Int) > 0 by decide,if_true];by_cases h:i < 0
   ·simp only [h,if_true] <;> omega
   ·simp only [h,if_false] <;> omega
 ·cases hi with
  | none=>simp [WL,HT.sIx]
  | some i=>
   simp only [WL,HT.sIx,UM,show(1:Int) > 0 by decide,if_true];by_cases h:i < 0
   ·simp only [h,if_true] <;> omega
   ·simp only [h,if_false] <;> omega
theorem FY(its:List VJ)(lo hi:Option Int):slicePick its.toArray lo hi none=((its.drop (HT.sIx its.length 0 lo)).take (HT.sIx its.length its.length hi - HT.sIx its.length 0 lo)).toArray:=by
 obtain⟨h1,h2,h3⟩:=FX lo hi its.toArray.size;unfold slicePick;rw [h1,h2,h3];simp only [sliceRange_one,pick_run,OC] <;> rfl
def FZ(K:Og):V->Option Int->Option Int->Hp->VK->Prop:=λx lo hi H Q=>∃a xs,x= .ref a/\bf K H a xs/\∀p,H p=none->Q (.ref p) (av H p (.lst (iA xs lo hi)))
theorem vN:lQ X (FZ X.K):=by
 intro Xz s σ H x v vl vu lo hi sl Q I rx hs pl pu h;obtain⟨a,xs,rfl,hx,q⟩:=h;cases rx;obtain⟨its,r,ht,hz⟩:=I.list hx;have hlen:=r.length;refine⟨"list",_,slot_list_getitem.lookup,ht.isList.typeIs,?_⟩;refine wpAny_getItem_list_slice ht.isList hs pl pu .none VH ?_ (by rw [OC] <;> omega);rw [FY,<-hlen];refine⟨.ref s.heap.objs.size,_,I.laid (t':=s.toks) (o:= .lst (iA xs lo hi)) (λb ob q=>Oo _ q) (Ot _) ?_,rfl,q _ (I.hok.fresh (Ot _))⟩;exact⟨OZ (vH xs lo hi) hz,_,0,(r.drop (HT.sIx xs.length 0 lo)).take (HT.sIx xs.length xs.length hi - HT.sIx xs.length 0 lo),OP _ rfl⟩
theorem bG:cO X (.builtin "len") (λxs H Q=>∃p ys,xs=[.ref p]/\(bf X.K H p ys\/br X.K H p ys)/\Q (.int ys.length) H):=by
 intro Xz s σ H xs us Q I r h;obtain⟨p,ys,rfl,hq,q⟩:=h;obtain⟨u,rfl,rx⟩:=dj r;cases rx;have hn:=jA;rcases hq with hq | hq
 ·obtain⟨its,r',pl,hz⟩:=I.list hq;have hlen:=r'.length;exact Calls.call_len_list pl.isList (by simp only [OC] <;> omega) ⟨.int ys.length,H,I.tok _,⟨s.toks+1,by rw [OC,hlen]⟩,q⟩
 ·obtain⟨its,r',pl,hz⟩:=I.tuple hq;have hlen:=r'.length;exact len_tuple pl (by simp only [OC] <;> omega) ⟨.int ys.length,H,I.tok _,⟨s.toks+1,by rw [OC,hlen]⟩,q⟩
theorem vO:cO X (.builtin "len") (λxs H Q=>∃z,xs=[.str z]/\z.length<=VT/\Q (.int z.length) H):=by
 intro Xz s σ H xs us Q I r h;obtain⟨z,rfl,hz,q⟩:=h;obtain⟨u,rfl,t,rfl⟩:=dj r;have hn:=jA;exact len_str VD ⟨.int z.length,H,I.tok _,⟨_,rfl⟩,q⟩
theorem F0:cO X (.type "list") (λxs H Q=>∃p ys,xs=[.ref p]/\(bf X.K H p ys\/br X.K H p ys)/\∀l,H l=none->Q (.ref l) (av H l (.lst ys))):=by
 intro Xz s σ H xs us Q I r h;obtain⟨p,ys,rfl,hq,q⟩:=h;obtain⟨u,rfl,rx⟩:=dj r;cases rx;have fin:∀(its:List VJ),aI ys its->ys.length<=VT->∀(h':VY)(c':Nat),(∀b o',s.heap.get? b=some o'->h'.get? b=some o')->
  h'.get? s.heap.objs.size=some {cls:= .type "list",dict:=none,data:= .seq its.toArray c',slots:=#[]}->EP X Xz σ Q (.ref s.heap.objs.size) {s with heap:=h'}:=λits r' hz h' c' kp e=>
  ⟨.ref s.heap.objs.size,_,I.laid (t':=s.toks) kp (Ot _) (show bI X.prog X.w _ h' _ (.lst ys) from⟨hz,its,c',r',e⟩),rfl,q _ (I.hok.fresh (Ot _))⟩
 rcases hq with hq | hq
 ·obtain⟨its,r',pl,hz⟩:=I.list hq;have hlen:=r'.length;obtain⟨o,ho,hc,n,hd⟩:=pl.isList;exact call_list_seq p (.inl rfl) ho hc hd (λh' c' kp e=>fin its r' hz h' c' kp e) (by simp only [OC] <;> omega)
 ·obtain⟨its,r',pl,hz⟩:=I.tuple hq;have hlen:=r'.length;obtain⟨o,ho,hc,n,hd⟩:=pl;exact call_list_seq p (.inr rfl) ho hc hd (λh' c' kp e=>fin its r' hz h' c' kp e) (by simp only [OC] <;> omega)
theorem jC:cO X (.type "tuple") (λxs H Q=>∃p ys,xs=[.ref p]/\((bf X.K H p ys/\∀l,H l=none->Q (.ref l) (av H l (.tup ys)))\/(br X.K H p ys/\Q (.ref p) H))):=by
 intro Xz s σ H xs us Q I r h;obtain⟨p,ys,rfl,h⟩:=h;obtain⟨u,rfl,rx⟩:=dj r;cases rx;rcases h with⟨hq,q⟩ | ⟨hq,q⟩
 ·obtain⟨its,r',pl,hz⟩:=I.list hq;have hlen:=r'.length;refine call_tuple_list pl.isList (λh' kp=>?_) (by simp only [OC] <;> omega);have I1:ae X Xz σ H {s with heap:=h'}:=I.kept (t':=s.toks) kp;have I2:ae X Xz σ (av H h'.objs.size (.tup ys)) {s with heap:=h'.push {cls:= .type "tuple",data:= .seq its.toArray}}:=
   I1.laid (t':=s.toks) (λb o e=>Oo _ e) (Ot _) (show bI X.prog X.w _ _ _ (.tup ys) from⟨hz,its,r',Tj _ _⟩)
  exact⟨.ref h'.objs.size,_,I2,rfl,q _ (I1.hok.fresh (Ot _))⟩
 ·obtain⟨its,r',pl,hz⟩:=I.tuple hq;exact call_tuple_same pl ⟨.ref p,H,I,rfl,q⟩
def vP(K:Og)(T:String)(x:V)(H:Hp):Prop:=match x with
 | .str _=>T="str"
 | .int _=>T="int"
 | .ref p=>(T="list"/\∃xs,bf K H p xs)\/(T="tuple"/\∃o,K.lookup p=some o/\o.cls= .type "tuple"/\o.dict=none)\/
  (T="dict"/\((∃kvs,H p=some (.dK kvs))\/∃kvs,H p=some (.dT kvs)))\/(T="set"/\∃S n,H p=some (.set S n))
 | _=>False
theorem F3{Xz:List (VM×Obj)}{σ:St}{H:Hp}{s:VN}{T:String}{x:V}{v:VJ}(I:ae X Xz σ H s)(r:aH x v)(ty:vP X.K T x H):
 s.TypeIs v T/\∀a,v= .ref a->∃ob,s.heap.get? a=some ob/\ob.dict=none:=by
 cases x with
 | str z=>
  obtain⟨t,rfl⟩:=r;cases (show T="str" from ty);exact⟨WV s z t,λ_ e=>nomatch e⟩
 | int i=>
  obtain⟨t,rfl⟩:=r;cases (show T="int" from ty);exact⟨typeIs_int s i t,λ_ e=>nomatch e⟩
 | ref p=>
  cases r;rcases ty with⟨rfl,xs,hq⟩ | ⟨rfl,o,hk,hc,hd⟩ | ⟨rfl,hk⟩ | ⟨rfl,S,n,hk⟩
  ·obtain⟨its,_,pl,_⟩:=I.list hq;refine⟨pl.isList.typeIs,λa e=>?_⟩;cases e;obtain⟨o,n,e,c,hd,_⟩:=pl;exact⟨o,e,hd⟩
  ·refine⟨⟨o,I.kIn p o hk,hc⟩,λa e=>?_⟩;cases e;exact⟨o,I.kIn _ o hk,hd⟩
  ·have z:∃o,s.heap.get? p=some o/\o.ExactDict:=by
    rcases hk with⟨kvs,hk⟩ | ⟨kvs,hk⟩
    ·obtain⟨_,_,_,_,o,_,_,e,ex,_⟩:=I.hok p _ hk;exact⟨o,e,ex⟩
    ·obtain⟨_,_,_,_,o,_,_,e,ex,_⟩:=I.hok p _ hk;exact⟨o,e,ex⟩
   obtain⟨o,e,ex⟩:=z;refine⟨⟨o,e,ex.1⟩,λa e2=>?_⟩;cases e2;exact⟨o,e,ex.2.1⟩
  ·obtain⟨o,_,_,_,e,ex,_⟩:=I.hok p _ hk;refine⟨⟨o,e,ex.1⟩,λa e2=>?_⟩;cases e2;exact⟨o,e,ex.2.1⟩
 | _=>exact PY ty
def F4(K:Og)(T:String)(r:V->List V->Hp->VK->Prop)(to:TE)(t:TA):TE:=λσ H Q=>to σ H λx H1=>vP K T x H1/\t σ H1 λxs H2=>r x xs H2 Q
variable {o e:VR} {es:List VR} {to:TE} {t:TA} {name:Str} {apos cpos:Pos} {T id:String} {r:V->List V->Hp->VK->Prop}
theorem nW(pa:PlainAttrs T)(slot:Slot T name id)(hty:typeOf (.builtin id)=pure (.type "method_descriptor"))(hm:vJ X id r)(ho:PE X o to)(ha:PA X (e::es) t)
 (hbase:WC o name X.env (eval o X.env)=eval o X.env:=by rfl)
 (hfew:((V6 cpos (VP (e::es) X.env)).all (λx=>!x.1) && (Xb cpos (WM [] X.env)).all (λx=>x.1.isSome)
   && decide ((e::es).length+([]:List Wu).length+(if ([]:List Wu).isEmpty then 0 else 1) < 30))=true:=by rfl)
 (hline:(apos.endLine==cpos.line)=true:=by rfl)(hs:VP (e::es) X.env=(false,eval e X.env)::VP es X.env:=by rfl)(hplain:(V6 cpos (VP es X.env)).any (·.1)=false:=by rfl):
 PE X (.Call (.Attribute o name apos) (e::es) [] cpos) (F4 X.K T r to t):=by
 intro Xz s σ H Q I h;refine wpAny_Call_method_late hbase hfew hline rfl (az (ho Xz s σ H _ I h) λv s1 ⟨x,H1,I1,r1,ty,q1⟩=>?_);obtain⟨h1,h2⟩:=F3 I1 r1 ty;refine⟨T,id,pa,slot,hty,h1,h2,?_⟩;have hA:=ha cpos Xz s1 σ H1 _ I1 q1;rw [hs] at hA⊢;refine R4 (by show(false || (V6 cpos (VP es X.env)).any (·.1))=false;rw [hplain] <;> rfl) (Ry ?_);exact az hA λus s2 uu61=>by obtain⟨vs,H2,I2,r2,q2⟩:=uu61;exact hm Xz s2 σ H2 x vs v us Q I2 r1 r2 q2
end
def rh(X:Cx)(id:String)(r:V->List V->Hp->VK->Prop):Prop:=
 ∀(Xz:List (VM×Obj))(s:VN)(σ:St)(H:Hp)(x:V)(xs:List V)(v:VJ)(us:List VJ)(Q:VK),ae X Xz σ H s->aH x v->aI xs us->r x xs H Q->
  VQ (VS X.prog X.w) X.A (call (.builtin id) (v::us)) (EP X Xz σ Q) X.xe s
theorem aI.one:∀{x:V}{us:List VJ},aI [x] us->∃u,us=[u]/\aH x u
 | _,_,.cons r .nil=>⟨_,rfl,r⟩
theorem aI.rep{xs:List V}{us:List VJ}(h:aI xs us):∀k:Nat,aI (OQ k xs).flatten (OQ k us).flatten
 | 0=>.nil
 | k+1=>by
  rw [Qz,Qz,Q7,Q7];exact aI.append h (aI.rep h k)
theorem vQ(its:List VJ):∀(k:Nat)(acc:List VJ),
 Q8 (λx1 x2=>x1++x2) acc.toArray (OQ k its.toArray)=(acc++(OQ k its).flatten).toArray
 | 0,acc=>by simp
 | k+1,acc=>by
  have e:acc.toArray++its.toArray=(acc++its).toArray:=VH
  have e2:(acc++its)++(OQ k its).flatten=acc++(OQ (k+1) its).flatten:=by
   rw [Qz,Q7,Qv]
  rw [<-e2,<-vQ its k (acc++its),<-e,Qz,QM]
section
variable {X:Cx} {Xz:List (VM×Obj)} {σ:St} {H:Hp} {s:VN} {l b:VM} {xs ys zs:List V}
theorem ae.lset{its its':List VJ}{n:Nat}{f:Array VJ->Array VJ}{t':Nat}(I:ae X Xz σ H s)(hH:H l=some (.lst xs))
 (e:s.heap.get? l=some {cls:= .type "list",data:= .seq its.toArray n})(hf:f its.toArray=its'.toArray)(hv:aI ys its')(hz:ys.length<=VT):
 ae X Xz σ (av H l (.lst ys)) {s with heap:=s.heap.update l (P0 f),toks:=t'}:=by
 have q:=PySem.IsL.update e f;rw [hf] at q;refine I.write (x:=l) (e:=l) (by rw [hH];exact trivial) (.inl rfl) (λb' u hb hu=>(QB s.heap (P0 f) (Ne.symm hb)).trans hu) ⟨_,q⟩ ?_;exact⟨hz,its',_,hv,q⟩
theorem ae.lnew{its:List VJ}{t':Nat}(I:ae X Xz σ H s)(hv:aI ys its)(hz:ys.length<=VT):
 ae X Xz σ (av H s.heap.objs.size (.lst ys)) {s with heap:=s.heap.push {cls:= .type "list",data:= .seq its.toArray},toks:=t'}:=
 I.laid (λ_ _ q=>Oo _ q) (Ot _) ⟨hz,its,0,hv,OP _ rfl⟩
theorem ae.fresh(I:ae X Xz σ H s):H s.heap.objs.size=none:=I.hok.fresh (Ot _)
theorem ae.lstM(I:ae X Xz σ H s)(hH:H l=some (.lst xs)):xs.length<=VT/\∃(its:List VJ)(n:Nat),aI xs its/\xs.length=its.length/\s.heap.get? l=some {cls:= .type "list",data:= .seq its.toArray n}:=by
 obtain⟨z,its,n,r,e⟩:=I.hok l _ hH;exact⟨z,its,n,r,r.length,e⟩
theorem vR{n:Nat}(h:n<=VT):Rc n=false:=by
 unfold Rc;exact decide_eq_false VD
end
section
variable {X:Cx}
def F5:V->List V->Hp->VK->Prop:=λx vs H Q=>∃l xs y,x= .ref l/\vs=[y]/\H l=some (.lst xs)/\xs.length < VT/\Q .non (av H l (.lst (xs++[y])))
theorem vS:rh X "list.append" F5:=by
 intro Xz s σ H x vs v us Q I rx rv h;obtain⟨l,xs,y,rfl,rfl,hH,hz,q⟩:=h;cases rx;obtain⟨u,rfl,ru⟩:=rv.one;obtain⟨z,its,n,r,hl,e⟩:=I.lstM hH;refine WG F.slot_list_append ⟨_,e,rfl⟩ F.entry_list_append (F.args_list_append_2 _ _) (PySem.list_append l its.toArray n u (by rw [OC];omega)) ⟨e,?_⟩;refine⟨.non,_,I.lset (its':=its++[u]) hH e VH (r.append (.cons ru .nil)) ?_,rfl,q⟩;rw [O4,List.length_singleton];omega
def F6:V->List V->Hp->VK->Prop:=λx vs H Q=>∃l b xs zs,x= .ref l/\vs=[.ref b]/\H l=some (.lst xs)/\H b=some (.lst zs)/\xs.length+zs.length<=VT/\Q .non (av H l (.lst (xs++zs)))
theorem F7:rh X "list.extend" F6:=by
 intro Xz s σ H x vs v us Q I rx rv h;obtain⟨l,b,xs,zs,rfl,rfl,hH,hB,hz,q⟩:=h;cases rx;obtain⟨u,rfl,ru⟩:=rv.one;cases ru;obtain⟨z,its,n,r,hl,e⟩:=I.lstM hH;obtain⟨z2,its2,n2,r2,hl2,e2⟩:=I.lstM hB;have hsz:its.toArray.size+its2.toArray.size<=VT:=by rw [OC,OC];omega
 have hlong:¬(!its.toArray.isEmpty && Rc (its.toArray.size+its2.toArray.size))=true:=by
  rw [vR hsz,Bool.and_false];exact O6
 refine WG F.slot_list_extend ⟨_,e,rfl⟩ F.entry_list_extend (F.args_list_extend_2 _ _)
  (AutoSeq1.list_extend_list_list_0 l its.toArray n b its2.toArray n2 hlong (by rw [OC];omega) VD) ⟨e,e2,?_⟩
 refine⟨.non,_,I.lset (its':=its++its2) hH e VH (r.append r2) ?_,rfl,q⟩;rw [O4];omega
def F8:R2:=λx y H Q=>∃l k xs,x= .ref l/\y= .int k/\H l=some (.lst xs)/\-(2 ^ 63)<=k/\k < 2 ^ 63/\xs.length*k.toNat<=VT/\
 ∀p,H p=none->Q (.ref p) (av H p (.lst (OQ k.toNat xs).flatten))
theorem F9{α:Type}(xs:List α)(k:Nat):(OQ k xs).flatten.length=k*xs.length:=by
 induction k with
 | zero=>simp
 | succ k ih=>rw [Qz,Q7,O4,ih,Nat.succ_mul,Ud]
theorem Ga:bq X (Wn .Mult) F8:=by
 intro Xz s σ H x y v u Q I rx ry h;obtain⟨l,k,xs,rfl,rfl,hH,h1,h2,hz,q⟩:=h;cases rx;obtain⟨t,rfl⟩:=ry;obtain⟨z,its,n,r,hl,e⟩:=I.lstM hH;have hlen:its.toArray.size*k.toNat<=VT:=by rw [OC,<-hl];exact hz
 have hcap:¬its.toArray.size*k.toNat > (2 ^ 63 - 1)/ 8:=by
  have:(VT:Nat)<=(2 ^ 63 - 1)/ 8:=VC
  omega
 have hfit:¬(!Q4 k)=true:=by
  rw [fitsIndex_both h1 h2];exact O6
 have hlong:¬Rc (its.toArray.size*k.toNat)=true:=by
  rw [vR hlen];exact O6
 have hnew:Q8 (λx1 x2=>x1++x2) #[] (OQ (if its.toArray.isEmpty=true then 0 else k.toNat) its.toArray)=(OQ k.toNat its).flatten.toArray:=by
  have f0:∀m:Nat,Q8 (λx1 x2=>x1++x2) #[] (OQ m its.toArray)=(OQ m its).flatten.toArray:=λm=>by
   have:=vQ its m [];rw [QN] at this;exact this
  rw [f0];cases its with
  | nil=>simp
  | cons a r'=>rw [VE VH]
 refine wpAny_binaryOp_repeat_ref (T:="list") (U:="int") VC ⟨_,e,rfl⟩ (λs'=>typeIs_int s' k t) noFill_list_mul F.fills_int_mul F.slot_int_rmul repeat_list F.slot_int_index.lookup
  (WG F.slot_int_rmul (typeIs_int s k t) F.entry_int_rmul (F.args_int_rmul_2 _ _) (int___rmul___int_list k t l its.toArray n)
    ⟨e,rfl,⟨_,e,rfl⟩,WG F.slot_list_mul ⟨_,e,rfl⟩ F.entry_list_mul (F.args_list_mul_2 _ _) (AutoListH.list___mul___list_int_3 l its.toArray n k t hfit hcap hlong) ⟨e,?_⟩⟩)
 rw [hnew];exact⟨.ref _,_,I.lnew (t':=s.toks) (r.rep k.toNat) (by rw [F9,Nat.mul_comm];exact hz),rfl,q _ I.fresh⟩
end
end L2
namespace Att
open PySem PySem.W PySem.Calls PyProof.Rows
theorem Gb{P:Params}{h:VY}:∀(ns:List Int)(vs:List VJ),WellAll P h vs (ns.map Rj)->IntsAre vs ns:=by
 intro ns
 induction ns with
 | nil=>
  intro vs w;rw [PV] at w;cases w;exact .nil
 | cons n ns ih=>
  intro vs w;rw [Ov] at w;cases w with
  | cons a b=>
   cases a;exact .cons _ _ (ih _ b)
theorem Gd{l:OpenLaw}{n:Nat}(hn:l.most=some n){P:Params}{h:VY}{args:List WData}{vals:List VJ}
 (hpre:l.row.toRowW.claim.pre args=true)(hwl:WellAll P h vals args):
 ∃a vs ns,vals=[OU a]/\args=[SU (ns.map Rj)]/\h.get? a=some {cls:= .type "list",data:= .seq vs.toArray}/\IntsAre vs ns/\ns.length<=n:=by
 have hsh:WShape.hasAll [] args [.list .int]=true:=(pre_splitW hpre).1;have hc:l.pre.holds [] {args:=args}=true:=(pre_splitW hpre).2;obtain⟨d,r,rfl,h1,h2⟩:=hasAllW_cons hsh;obtain rfl:=hasAllW_nil h2;obtain⟨xs,rfl,h3⟩:=hasW_list h1;obtain⟨ns,rfl⟩:=items_int h3;have hlen:ns.length<=n:=by
  unfold OpenLaw.pre at hc;have h4:(WTm.not (.lt (.lit (.int (n:Int))) (.len (.arg 0)))).holds [] {args:=[.list (ns.map .int)]}=true:=by
   have h4:=(holds_andW hc).1;rw [hn] at h4;exact h4
  have h5:=condW_of h4 (w_not (w_lt w_lit (w_len_list (w_arg rfl))));rw [Oi] at h5;refine S6 λq=>?_;have q':(n:Int) < ((ns.length:Nat):Int):=VD
  first
   | (rw [decide_eq_true q'] at h5;exact absurd h5 VC)
   | (simp at h5;omega)
 cases hwl with
 | cons w1 w2=>
  cases w2;cases w1 with
  | list ho hall=>exact⟨_,_,ns,rfl,rfl,ho,Gb ns _ hall,hlen⟩
theorem Ge(l:OpenLaw)(args:List WData):l.row.toRowW.claim.post args (.bool true) args=true:=
 postW_of (r:=l.row.toRowW) (X:=(true==true))
  (show WShape.has [] (.bool true) .bool=true by first | rfl | decide | simp [WShape.has,WShape.arms,WShape.armsAll])
  (show(WTm.eq .res (.lit (.bool true))).value [] {args:=args,res:=some (.bool true),after:=args}=some (.bool (true==true)) from w_eq_bool (w_res rfl) w_lit) rfl
end Att
namespace L2
open PySem PySem.Spec PyProof.Rows
theorem vT:∀{vs:List VJ}{ns:List Int},IntsAre vs ns->aI (ns.map V.int) vs
 | _,_,.nil=>.nil
 | _,_,.cons n t h=>.cons ⟨t,rfl⟩ (vT h)
abbrev KOf{K:Og}{h:VY}(_:K.In h):Og:=K
def jD(s:V0):Xh:=match s with
 | .FunctionDef _ a _ _ _ _ _ _ _ _=>a
 | _=>{posonlyargs:=[],args:=[],vararg:=none,kwonlyargs:=[],kw_defaults:=[],kwarg:=none,defaults:=[]}
def fx(s:V0):List V0:=match s with
 | .FunctionDef _ _ b _ _ _ _ _ _ _=>b
 | _=>[]
def aA(s:V0):Wc:=match s with
 | .FunctionDef _ _ _ _ _ _ sc _ _ _=>sc
 | _=>{kind:= .function,names:=[],isGenerator:=false,isCoroutine:=false}
abbrev aK:eJ:=λ_ _ _ _ _ _=>False
abbrev E0:XK:=λ_ _ _=>False
theorem Gf{X:Cx}:lN aK X E0:=λ_ _ _ _ _ _ _ h=>h.elim
structure dU (K:Og) (x qual:Str) (st:V0) (f:VM) (fd:VU):Prop where
 ex:∃(oc:VJ)(od:Option VM)(kV doc pm:VJ)(an:Option VM)(cdv ct:VJ)(osl:Array (Option VJ)),
  fd=Q0 x qual (jD st) (fx st) (aA st) .none kV doc pm an cdv ct/\K.lookup f=some ⟨oc,od,.func fd,osl⟩/\Sm K cdv qual=true
 kp:Rb K (.ref f)=true
section
variable {P:VW} {w:VZ} {K:Og} {mg:Str->Option VJ} {base:VY}
theorem dU.ok{x qual:Str}{st:V0}{f:VM}{fd:VU}{N ps:List Str}{k:Nat}{sp:Sp}(F:dU K x qual st f fd)(S:aP N ps (aA st))(len:∀vs H Q E,sp vs H Q E->vs.length=ps.length)
 (hbody:∀(cdv:VJ) (A:V1) (outer:List Env) (s:VN) (H:Hp) (vs:List V) (Q:VK) (E:XK),bp k (A.deeper (WE qual (aA st) s.heap.objs.size f cdv))->sp vs H Q E->
   ∃t,bD (bO aK P w K mg base N qual (aA st) f cdv A outer s H E).nox (fx st) t/\t {nx:=λ_ H'=>Q .non H',rt:=Q} (start N vs) H):aF P w K mg base aK (k+1) f fd ps sp:=by
 obtain⟨oc,od,kV,doc,pm,an,cdv,ct,osl,rfl,lk,hcd⟩:=F.ex;refine nT lk hcd S len λA outer s H vs Q E hr hsp=>?_;obtain⟨t,h,q⟩:=hbody cdv A outer s H vs Q E hr hsp;exact⟨t,h.nox,q⟩
theorem dU.binds{x qual:Str}{st:V0}{f:VM}{fd:VU}{ps:List Str}(F:dU K x qual st f fd)
 (h:∀(kV doc pm:VJ) (an:Option VM) (cdv ct:VJ) (us:List VJ),us.length=ps.length->bindArgs (Q0 x qual (jD st) (fx st) (aA st) .none kV doc pm an cdv ct) ⟨us,[]⟩=pure (ps.zip us)):eL K fd ps []:=by
 obtain⟨oc,od,kV,doc,pm,an,cdv,ct,osl,rfl,lk,hcd⟩:=F.ex;exact .all (h kV doc pm an cdv ct)
theorem Gh{x qual:Str}{st:V0}{f:VM}{oc:VJ}{od an:Option VM}{osl:Array (Option VJ)}{kV doc pm cdv ct:VJ}(l:K.lookup f=some ⟨oc,od,.func (Q0 x qual (jD st) (fx st) (aA st) .none kV doc pm an cdv ct),osl⟩)
 (c:Sm K cdv qual=true)(k:Rb K (.ref f)=true):dU K x qual st f (Q0 x qual (jD st) (fx st) (aA st) .none kV doc pm an cdv ct):=⟨⟨oc,od,kV,doc,pm,an,cdv,ct,osl,rfl,l,c⟩,k⟩
end
section
variable {X:Cx}
theorem pv(i:Nat){x:Str}{pos:Pos}(hN:X.N[i]?=some x:=by rfl)(hv:iw X.env.scope x:=by first | exact S7 rfl | exact Sg (S7 rfl) | exact Sg (Sg rfl))(hd:(x==("__debug__":Str))=false:=by decide)
 (hcd:(x==("__classdict__":Str))=false:=by decide):PE X (.Name x pos) (dR i):=nu hN hv hd hcd
end
def au(H H':Hp):Prop:=∀b o,H b=some o->H' b=some o
theorem au.refl(H:Hp):au H H:=λ_ _ h=>h
theorem au.trans{H H1 H2:Hp}(a:au H H1)(b:au H1 H2):au H H2:=λc o h=>b c o (a c o h)
def dz(env:Env)(names:List (Str×Wm))(cs:List (Str×VM)):List (Str×VM):=
 names.foldl (λcs p=>if (p.2==P9)=true then(p.1,(env.cells.lookup p.1).getD 0)::cs else cs) cs
theorem rj{scope:Wc}{env:Env}(h:∀y∈scope.names,y.2= .free->∃c,env.cells.lookup y.1=some c):closureFor scope env=pure (dz env scope.names []):=by
 unfold closureFor;have key:∀(l:List (Str×Wm))(cs:List (Str×VM)),(∀y∈l,y.2= .free->∃c,env.cells.lookup y.1=some c)->
  (forIn l cs λ(x:Str×Wm) (r:List (Str×VM))=>(if (x.2==P9)=true then do let a<-cellOf env x.1;pure (Rk ((x.1,a)::r)) else pure (Rk r):Sem (ForInStep (List (Str×VM)))))=pure (dz env l cs):=by
  intro l
  induction l with
  | nil=>intro cs _;rfl
  | cons p r ih=>
   intro cs hl;rw [UT];by_cases hk:(p.2==P9)=true
   ·obtain⟨c,hc⟩:=hl p O3 (by simpa using hk);rw [VF hk];have e:cellOf env p.1=pure c:=by unfold cellOf;rw [hc]
    rw [e];simp only [pure_bind];rw [ih _ λy hy=>hl y (OR _ hy)];unfold dz;rw [QM,VF hk,hc];rfl
   ·rw [VE hk];simp only [pure_bind];rw [ih _ λy hy=>hl y (OR _ hy)];unfold dz;rw [QM,VE hk]
 have:=key scope.names [] h;simp only [bind_pure];exact this
theorem rn{env:Env}:∀(l:List (Str×Wm))(cs:List (Str×VM)){x:Str}{c:VM},(∀y∈l,y.2= .free->∃c,env.cells.lookup y.1=some c)->(∀y d,cs.lookup y=some d->env.cells.lookup y=some d)->
 (dz env l cs).lookup x=some c->env.cells.lookup x=some c
 | [],cs,x,c,_,hc,h=>hc x c h
 | p::r,cs,x,c,hl,hc,h=>by
  unfold dz at h;rw [QM] at h;by_cases hk:(p.2==P9)=true
  ·rw [VF hk] at h;refine rn r _ (λy hy=>hl y (OR _ hy)) (λy d e=>?_) h;obtain⟨a,ha⟩:=hl p O3 (by simpa using hk);rw [Pf] at e;cases hx:y==p.1 with
   | true=>
    rw [hx] at e;have hy:y=p.1:=by simpa using hx
    rw [ha] at e;cases e;rw [hy];exact ha
   | false=>rw [hx] at e;exact hc y d e
  ·rw [VE hk] at h;exact rn r cs (λy hy=>hl y (OR _ hy)) hc h
theorem rA{env:Env}:∀(l:List (Str×Wm))(cs:List (Str×VM)){x:Str},(∃c,cs.lookup x=some c)->∃c,(dz env l cs).lookup x=some c
 | [],cs,x,h=>h
 | p::r,cs,x,⟨c,h⟩=>by
  unfold dz;rw [QM];by_cases hk:(p.2==P9)=true
  ·rw [VF hk];refine rA r _ ?_;rw [Pf];cases hx:x==p.1 with
   | true=>exact⟨_,rfl⟩
   | false=>exact⟨c,h⟩
  ·rw [VE hk];exact rA r cs ⟨c,h⟩
theorem lR{env:Env}:∀(l:List (Str×Wm))(cs:List (Str×VM)){x:Str},(x,P9)∈l->∃c,(dz env l cs).lookup x=some c
 | [],_,_,h=>by simp at h
 | p::r,cs,x,h=>by
  unfold dz;rw [QM];rcases Ox.mp h with e | e
  ·subst e;rw [VF (by rfl)];exact rA r _ ⟨(env.cells.lookup x).getD 0,by rw [Pf];simp⟩
  ·exact lR r _ e
theorem Gi{env:Env}{scope:Wc}{x:Str}(h:(relabel scope env).names.lookup x=some .cell\/(relabel scope env).names.lookup x=some .free):scope.names.lookup x=some .free\/scope.names.lookup x=some .cell:=by
 have key:∀(l:List (Str×Wm)),
  ((l.map λ(n,k)=>if (k==P9 && env.scope.kind== .function && env.kindOf n==some .cell) then(n,R9) else(n,k)).lookup x=some .cell\/
  (l.map λ(n,k)=>if (k==P9 && env.scope.kind== .function && env.kindOf n==some .cell) then(n,R9) else(n,k)).lookup x=some .free)->l.lookup x=some .free\/l.lookup x=some .cell:=by
  intro l
  induction l with
  | nil=>intro h;simp at h
  | cons p r ih=>
   obtain⟨n,k⟩:=p;intro h;rw [Ov] at h;rw [Pf];by_cases hx:x=n
   ·subst hx;rw [beq_self_eq_true];by_cases hq:(k==P9 && env.scope.kind== .function && env.kindOf x==some .cell)=true
    ·have:k= .free:=by simp only [OI,beq_iff_eq] at hq;exact hq.1.1
     subst this;exact .inl rfl
    ·simp only [VE hq,Pf,beq_self_eq_true] at h;exact h.symm
   ·have hb:(x==n)=false:=by simpa using hx
    rw [hb];refine ih ?_;by_cases hq:(k==P9 && env.scope.kind== .function && env.kindOf n==some .cell)=true
    ·simpa only [VF hq,Pf,hb] using h
    ·simpa only [VE hq,Pf,hb] using h
 exact key scope.names h
theorem Gj{env:Env}{scope:Wc}{x:Str}(h:scope.names.lookup x=some .cell\/scope.names.lookup x=some .free):(relabel scope env).names.lookup x=some .cell\/(relabel scope env).names.lookup x=some .free:=by
 have key:∀(l:List (Str×Wm)),l.lookup x=some .cell\/l.lookup x=some .free->
  ((l.map λ(n,k)=>if (k==P9 && env.scope.kind== .function && env.kindOf n==some .cell) then(n,R9) else(n,k)).lookup x=some .cell\/
  (l.map λ(n,k)=>if (k==P9 && env.scope.kind== .function && env.kindOf n==some .cell) then(n,R9) else(n,k)).lookup x=some .free):=by
  intro l
  induction l with
  | nil=>intro h;simp at h
  | cons p r ih=>
   obtain⟨n,k⟩:=p;intro h;rw [Ov];by_cases hx:x=n
   ·subst hx;rw [Pf,beq_self_eq_true] at h;by_cases hq:(k==P9 && env.scope.kind== .function && env.kindOf x==some .cell)=true
    ·left;simp only [VF hq,Pf,beq_self_eq_true]
    ·simp only [VE hq,Pf,beq_self_eq_true];exact h
   ·have hb:(x==n)=false:=by simpa using hx
    rw [Pf,hb] at h;by_cases hq:(k==P9 && env.scope.kind== .function && env.kindOf n==some .cell)=true
    ·simpa only [VF hq,Pf,hb] using ih h
    ·simpa only [VE hq,Pf,hb] using ih h
 exact key scope.names h
structure bt (sc:Wc) (N N':List Str) (k:Nat) (fr:List Nat) (scope:Wc):Prop where
 kind:scope.kind= .function
 cell:∀y∈scope.names,y.2= .cell->scope.names.lookup y.1=some .cell
 names:∀y∈scope.names,y.2= .local->scope.names.lookup y.1=some .local
 nd:N'.Nodup
 slot:fr.map (λj=>N[j]?)=(N'.drop k).map some
 frees:∀x∈N'.drop k,scope.names.lookup x=some .free
 outer:∀y∈scope.names,y.2= .free->sc.names.lookup y.1=some .cell\/sc.names.lookup y.1=some .free
 outer':∀x∈N'.drop k,sc.names.lookup x=some .cell\/sc.names.lookup x=some .free
 len:N'.length=k+fr.length
theorem nX:∀(l:List (Str×Wm)){n:Nat}{a:List (Str×VM)}{x:Str}{c:VM},(Wl n l a).lookup x=some c->n<=c\/a.lookup x=some c
 | [],_,_,_,_,h=>.inr h
 | (y,k)::r,n,a,x,c,h=>by
  unfold Wl at h;split at h
  ·rcases nX r h with z | z
   ·exact .inl VD
   ·rw [Pf] at z;split at z
    ·exact .inl (by cases z;exact Ot _)
    ·exact .inr z
  ·exact nX r h
theorem rB:∀(l:List (Str×Wm)){n:Nat}{a:List (Str×VM)}{x:Str}{c:VM},l.lookup x=some .cell->(Wl n l a).lookup x=some c->n<=c
 | [],_,_,_,_,e,_=>nomatch e
 | (y,k)::r,n,a,x,c,e,h=>by
  unfold Wl at h;rw [Pf] at e;cases hx:x==y with
  | true=>
   rw [hx] at e;cases e;have h:List.lookup x (Wl (n+1) r ((y,n)::a))=some c:=h;rcases nX r h with z | z
   ·exact SO z
   ·rw [Pf,hx] at z;cases z;exact Ot _
  | false=>
   rw [hx] at e;split at h
   ·exact SO (rB r e h)
   ·exact rB r e h
theorem rC:∀(l:List (Str×Wm)){n:Nat}{a:List (Str×VM)}{x:Str},(∀y∈l,y.2= .cell->y.1≠x)->(Wl n l a).lookup x=a.lookup x
 | [],_,_,_,_=>rfl
 | (y,k)::r,n,a,x,h=>by
  unfold Wl;split
  ·rename_i hk;rw [rC r λz hz=>h z (OR _ hz),Pf];have:(x==y)=false:=by simpa using Ne.symm (h (y,k) O3 (by simpa using hk))
   rw [this]
  ·exact rC r λz hz=>h z (OR _ hz)
theorem rD:∀(l:List (Str×Wm)){n:Nat}{a:List (Str×VM)},(∀x c,a.lookup x=some c->c < n)->(∀x y c,a.lookup x=some c->a.lookup y=some c->x=y)->∀x y c,(Wl n l a).lookup x=some c->(Wl n l a).lookup y=some c->x=y
 | [],_,_,_,h=>h
 | (z,k)::r,n,a,hl,hi=>by
  unfold Wl;split
  ·have one:∀x c,((z,n)::a).lookup x=some c->x=z/\c=n\/c < n/\a.lookup x=some c:=λx c e=>by
    rw [Pf] at e;cases hx:x==z with
    | true=>rw [hx] at e;cases e;exact .inl ⟨by simpa using hx,rfl⟩
    | false=>rw [hx] at e;exact .inr ⟨hl x c e,e⟩
   refine rD r (λx c e=>?_) λx y c e1 e2=>?_
   ·rcases one x c e with⟨_,z⟩ | ⟨z,_⟩
    ·rw [z];exact Rf _
    ·exact P6 z
   ·rcases one x c e1 with⟨a1,b1⟩ | ⟨a1,b1⟩ <;> rcases one y c e2 with⟨a2,b2⟩ | ⟨a2,b2⟩
    ·rw [a1,a2]
    ·omega
    ·omega
    ·exact hi x y c b1 b2
  ·exact rD r hl hi
theorem rE:∀(l:List (Str×Wm)){h:VY}{a:List (Str×VM)},(∀x c,a.lookup x=some c->∃v,h.IsCell c v)->∀x c,(Wl h.objs.size l a).lookup x=some c->∃v,(pushCells h l).IsCell c v
 | [],_,_,h=>h
 | (z,k)::r,h,a,ha=>by
  unfold Wl pushCells;split
  ·have:=rE r (h:=h.push {cls:= .type "cell",data:= .cell none}) (a:=(z,h.objs.size)::a) λx c e=>by
    rw [Pf] at e;split at e
    ·cases e;exact⟨none,_,OP _ rfl,rfl⟩
    ·obtain⟨v,q⟩:=ha x c e;exact⟨v,q.keeps λb o e=>Oo _ e⟩
   rwa [RN] at this
  ·exact rE r ha
def nY(X:Cx)(scope:Wc)(C:VM):List (Str×VM):=Wl (C+1) scope.names (dz X.env scope.names [])
def bE(X:Cx)(scope:Wc)(N':List Str)(fp:List VM)(C:VM)(s:VN)(H:Hp):Cx where
 prog:=X.prog
 w:=X.w
 K:=X.K
 mg:=X.mg
 base:=X.base
 A:=X.A
 N:=N'
 s₀:=s
 H₀:=H
 env:=compEnvC scope (nY X scope C) C X.env
 outer:=X.stack
 stack:=X.stack
 ex:=fp
 fn:=λx=>scope.names.lookup x==some .cell
 calm:=X.calm
 pn:=[]
 xe:=λ_ _=>False
def bW(k:Nat)(fr:List Nat)(σ:St):St:=OQ k none++fr.map λj=>(σ[j]?).join
def km(σ σ':St):Prop:=σ.length=σ'.length/\∀(i:Nat) v,σ[i]?=some (some v)->σ'[i]?=some (some v)
section
variable {X:Cx} {Xz:List (VM×Obj)} {σ:St} {H:Hp} {s:VN} {scope:Wc} {N':List Str} {k:Nat} {fr:List Nat} {fp:List VM}
theorem nZ(S:bt X.env.scope X.N N' k fr scope)(I:ae X Xz σ H s):∀x c,(dz X.env scope.names []).lookup x=some c->X.env.cells.lookup x=some c:=λx c e=>rn scope.names [] (λy hy e=>I.ok.has y.1 (S.outer y hy e)) (λ_ _ z=>by simp at z) e
theorem vU(S:bt X.env.scope X.N N' k fr scope)(I:ae X Xz σ H s){x:Str}{c:VM}(e:(nY X scope s.heap.objs.size).lookup x=some c):s.heap.objs.size < c\/X.env.cells.lookup x=some c:=
 (nX _ e).imp (λz=>z) λz=>nZ S I x c z
theorem Gk(S:bt X.env.scope X.N N' k fr scope)(I:ae X Xz σ H s)(hf:∀b∈fp,gG X Xz H b)(hlt:∀b∈fp,b < s.heap.objs.size):
 (bE X scope N' fp s.heap.objs.size s H).Ok:=by
 have hcl:=nZ S I;refine⟨I.ok.mod,S.kind,I.ok.glob,I.ok.blt,Ot _,rD _ (λx c e=>?_) (λx y c h1 h2=>I.ok.inj x y c (hcl x c h1) (hcl y c h2)),λx hx=>QL.mp (R1 _ _ _ ?_),λx c h e=>SO (rB _ (eq_of_beq h) e),I.ok.hd,I.ok.frames,.inl rfl,λb hb=>⟨OX (hlt b hb),λx c e=>?_⟩,
  I.bs,OZ I.ok.bsz I.sz,λb o e hb=>?_,λb hb hb'=>?_,I.stack,I.stkFree⟩
 ·obtain⟨v,o,ho,_⟩:=I.cell x c (hcl x c e);exact P6 (OB ho)
 ·rcases Gi hx with z | z
  ·exact .inr (QL.mpr (lR _ _ (PZ z)))
  ·exact .inl z
 ·rcases vU S I e with z | z
  ·exact λq=>absurd (hlt b hb) (by rw [<-q];exact Nat.lt_asymm z)
  ·exact(hf b hb).2.2.2.2.1 x c z
 ·rcases(hf b hb).2.2.2.1 with z | z
  ·exact I.ok.noex b o e z
  ·exact absurd (OW (OB e) (OZ I.ok.bsz z)) (Qg _)
 ·rcases Ox.mp (I.stkSub b hb') with z | z
  ·exact(hf b hb).2.1 z
  ·exact(hf b hb).2.2.1 z
theorem Gm(S:bt X.env.scope X.N N' k fr scope)(I:ae X Xz σ H s)(hf:∀b∈fp,gG X Xz H b)(hlt:∀b∈fp,b < s.heap.objs.size){o:Obj}{h':VY}(e':h'=pushCells (s.heap.push o) scope.names)
 (hn:h'.Ns s.heap.objs.size (λ_=>none))(hk:∀b o,s.heap.get? b=some o->h'.get? b=some o):
 ae (bE X scope N' fp s.heap.objs.size s H) [] (bW k fr σ) H {s with heap:=h'}:=by
 have hcl:=nZ S I;refine⟨Gk S I hf hlt,rfl,I.bare,Un.kept hk,⟨_,hn,λi x v h1 h2 h3=>?_⟩,λx c e=>?_,I.hok.fresh (Ot _),λx c e=>?_,λp hp=>absurd hp (by simp [bE]),I.hok.kept hk,?_⟩
 ·have hi:k<=i:=by
   rcases Q1 i k with z | z
   ·exfalso;unfold bW at h2;rw [Pr (by simpa using z),Rh,VF z] at h2;cases h2
   ·exact z
  have h2':(fr.map λj=>(σ[j]?).join)[i - k]?=some (some v):=by
   unfold bW at h2;rw [Qj (by simpa using hi)] at h2;simpa using h2
  have h1':(N'.drop k)[i - k]?=some x:=by
   rw [Ue,Nat.add_sub_cancel' hi];exact h1
  have hmem:x∈N'.drop k:=OH h1';have e2:(fr.map λj=>X.N[j]?)[i - k]?=some (some x):=by
   rw [S.slot,OD,h1'];rfl
  obtain⟨j,hj,ej⟩:∃j,fr[i - k]?=some j/\X.N[j]?=some x:=by
   rw [OD] at e2;cases e:fr[i - k]? with
   | none=>rw [e] at e2;cases e2
   | some j=>rw [e] at e2;exact⟨j,rfl,Pk e2⟩
  have hv:σ[j]?=some (some v):=by
   rw [OD,hj] at h2';have h3':(σ[j]?).join=some v:=Pk h2';cases e:σ[j]? with
   | none=>rw [e] at h3';cases h3'
   | some o=>rw [e] at h3';rw [show o=some v from h3']
  obtain⟨m,hn0,hl⟩:=I.loc;have ho:=S.outer' x hmem;obtain⟨u,ru,lk⟩:=hl j x v ej hv (.inr ho);refine⟨u,ru,.inr ⟨Gj (.inr (S.frees x hmem)),?_⟩⟩;rcases lk with⟨z,_⟩ | ⟨_,c,hc,hx⟩
  ·exfalso;rcases ho with ho | ho
   ·exact absurd (z.symm.trans ho) VH
   ·exact absurd (z.symm.trans ho) VH
  ·obtain⟨c',hc'⟩:=lR (env:=X.env) scope.names [] (PZ (S.frees x hmem));have:=hcl x c' hc';rw [hc] at this;cases this;obtain⟨o,ho,hd⟩:=hx;exact⟨c,(rC _ λy hy ey ex=>by have q:=S.cell y hy ey;rw [ex,S.frees x hmem] at q;cases q).trans hc',o,hk c o ho,hd⟩
 ·subst e';have:=rE scope.names (h:=s.heap.push o) (a:=dz X.env scope.names []) (λx c e=>by
   obtain⟨v,q⟩:=I.cell x c (hcl x c e);exact⟨v,q.keeps λb o e=>Oo _ e⟩) x c
  rw [RN] at this;exact this e
 ·rcases vU S I e with z | z
  ·exact I.hok.fresh (QJ z)
  ·exact I.freeC x c z
 ·unfold bW;show _=N'.length;rw [O4,QF,Oi,S.len]
end
section
variable {prog:VW} {w:VZ} {A:V1} {E:VJ->VN->Prop} {R:Result->VN->Prop} {s:VN}
theorem Gn{elt target iter:VR}{ifs:List VR}{scope:Wc}{pos:Pos}{it acc:VJ}{env:Env}(I:Nat->VN->Prop)
 (turn:∀n s,I n s->VQ (VS prog w) A (WK it) (λr s₁=>match r with
  | none=>R (.ok .next) s₁
  | some v=>VQ (VS prog w) A (W8 target it v) (λ_ s₁'=>VQ (VS prog w) A (assign target env v) (λ_ s₂=>
   VQ (VS prog w) A (forIn ifs true λc r=>if r=true then do let ok<-isTrue c env (eval c env);pure (Rk ok) else pure (Rk r)) (λok s₃=>
    if ok=true then VQ (VS prog w) A (eval elt env) (λx s₄=>
     VQ (VS prog w) A (call (.builtin "list.append") [acc,x]) (λ_ s₅=>∃m,m < n/\I m s₅) (λ_ _=>False) s₄) (λ_ _=>False) s₃
    else ∃m,m < n/\I m s₃) (λ_ _=>False) s₂) (λ_ _=>False) s₁') (λ_ _=>False) s₁) (λ_ _=>False) s)
 (n:Nat)(h:I n s):
 WB (VS prog w) A (.compLoop (.ListComp elt [⟨target,iter,ifs,0⟩] scope pos) 0 it acc env) R s:=by
 refine codeAny_loop rfl I (λn s hI=>?_) n h;show VQ _ A ((compTurn (.ListComp elt [⟨target,iter,ifs,0⟩] scope pos) 0 it acc env).onRaise (λx=>do noteFrame x env;theTreesLotGoes x)) _ _ s;refine wpAny_noted ?_;rw [compTurn_list];refine VL (Xk (VL (V8 (turn n s hI) (λr s₁ h₁=>?_) λ_ _ h'=>h'.elim)));cases r with
 | none=>exact VO h₁
 | some v=>
  refine VL (V8 h₁ (λ_ s₁' h₁'=>?_) λ_ _ h'=>h'.elim);refine VL (V8 h₁' (λ_ s₂ h₂=>VL (V8 h₂ (λok s₃ h₃=>?_) λ_ _ h'=>h'.elim)) λ_ _ h'=>h'.elim);cases ok with
  | false=>exact VO ⟨rfl,h₃⟩
  | true=>
   exact VL (VL (V8 h₃ (λx s₄ h₄=>VL (V8 h₄ (λ_ s₅ h₅=>VO (VO ⟨rfl,h₅⟩)) λ_ _ h'=>h'.elim)) λ_ _ h'=>h'.elim))
end
def d5(X:Cx)(ifs:List VR)(t:TT):Prop:=
 ∀(Xz:List (VM×Obj))(s:VN)(σ:St)(H:Hp)(Q:Bool->Hp->Prop),ae X Xz σ H s->t σ H Q->
  VQ (VS X.prog X.w) X.A (forIn ifs true λc r=>if r=true then do let ok<-isTrue c X.env (eval c X.env);pure (Rk ok) else pure (Rk r)) (TP X Xz σ Q) X.xe s
def Gp:TT:=λ_ H Q=>Q true H
theorem Gq{X:Cx}:d5 X [] Gp:=λXz s σ H Q I h=>wpAny_tests_nil ⟨H,I,h⟩
theorem fQ{X:Cx}{c:VR}{t:TT}(h:PT X c t):d5 X [c] t:=λXz s σ H Q I hq=>wpAny_tests_one (h Xz s σ H Q I hq)
theorem bJ.but{P:VW}{w:VZ}{H:Hp}{h h':VY}{C:VM}(x:bJ P w H h)(hC:H C=none)(k:∀b o,b≠C->h.get? b=some o->h'.get? b=some o):bJ P w H h':=λa o e=>by
 refine(x a o e).stay (λb u hb q=>k b u ?_ q) (λ_ q=>q) (λ_ _ q=>q) λ_ _ q=>q;intro z;subst z;rcases hb with z | z
 ·rw [<-z,hC] at e;cases e
 ·rw [hC] at z;cases z
theorem Gr{M:Model}{A:V1}{E:VJ->VN->Prop}{s:VN}{scope:Wc}{g:VM}{cl:List (Str×VM)}{qual:Str}{e:Env}{Q:Env->VN->Prop}
 (hQ:∀h',h'=pushCells (s.heap.push {cls:= .type "dict",data:= .dict #[]}) scope.names->h'.Ns s.heap.objs.size (λ_=>none)->(∀b o,s.heap.get? b=some o->h'.get? b=some o)->
  Q (newEnv scope s.heap.objs.size g (Wl (s.heap.objs.size+1) scope.names cl) qual none .none (some e) WS) {s with heap:=h'}):
 VQ M A (newFunctionEnv scope g cl [] qual none .none (some e)) Q E s:=by
 simp only [newFunctionEnv,Ug,if_true];refine VL (wpAny_alloc (VL (wpAny_layCells _ (λname kind cells=>by cases hkc:kind==R9 <;> simp [hkc]) _ _ _ _ ?_)));rw [show({s with heap:=s.heap.push {cls:= .type "dict",data:= .dict #[]}}:VN).heap.objs.size=s.heap.objs.size+1 from RN ..];rw [U0];exact VL (VO (VO (hQ _ rfl ((Heap.Ns.new s.heap (.type "dict")).keeps (pushCells_keeps _ _)) λb o e=>pushCells_keeps _ _ b o (Oo _ e))))
def i6(wi:TI)(g:TG)(tc:TT)(te:TE)(k:Nat)(fr:List Nat):TE:=λσ H Q=>wi σ H λJ H1=>∀D,H1 D=none->∃W:Nat->Nat->Hp->Prop,(∃m,W 0 m (av H1 D (.lst [])))/\∀i m H,W i m H->
 (J.stop i H/\Q (.ref D) H)\/(J.go i H/\∀x H',J.yld i H x H'->g x (bW k fr σ) H' λσ2 H2=>km (bW k fr σ) σ2/\tc σ2 H2 λok H3=>
  if ok=true then te σ2 H3 λy H4=>∃ys,H4 D=some (.lst ys)/\ys.length < VT/\∃m',m' < m/\W (i+1) m' (av H4 D (.lst (ys++[y])))
  else ∃m',m' < m/\W (i+1) m' H3)
section
variable {X:Cx} {tg iter elt:VR} {ifs:List VR} {scope:Wc} {N':List Str} {k:Nat} {fr:List Nat} {wi:TI} {g:TG} {tc:TT} {te:TE} {pos:Pos}
theorem vV{use:Option (VJ->Sem Unit)}{Q':VJ->VN->Prop}{Xz:List (VM×Obj)}{s:VN}{σ:St}{H:Hp}{Q:VK}(hc:X.calm=true)(S:bt X.env.scope X.N N' k fr scope)(hi:PI X tg iter wi)
 (hg:∀fp C s H,PG (bE X scope N' fp C s H) tg g)(hf:∀fp C s H,d5 (bE X scope N' fp C s H) ifs tc)(he:∀fp C s H,PE (bE X scope N' fp C s H) elt te)
 (I:ae X Xz σ H s)(h:i6 wi g tc te k fr σ H Q)
 (hQ:∀D C s' H',C≠X.env.locals->ae X Xz σ H' s'->(∀h',QY C s'.heap h'->ae X Xz σ H' {s' with heap:=h'})->Q (.ref D) H'->(∃m,s'.heap.Ns C m)->X.env.locals < C->H' C=none/\(∀x c,X.env.cells.lookup x=some c->c≠C)/\(∀p∈X.pn++Xz,p.1≠C)->compPost (VS X.prog X.w) X.A X.xe use Q' (.ref D) C (.ok .next) s'):
 VQ (VS X.prog X.w) X.A (eval iter X.env) (λx s₁=>VQ (VS X.prog X.w) X.A (pyIter x) (λit s₂=>VQ (VS X.prog X.w) X.A (newList []) (λacc s₃=>
  VQ (VS X.prog X.w) X.A (newFunctionEnv scope X.env.globals (dz X.env scope.names []) [] X.env.qual none .none (some X.env)) (λcenv s₄=>
   WB (VS X.prog X.w) X.A (.compStart (.ListComp elt [⟨tg,iter,ifs,0⟩] scope pos) 0 it acc {cenv with scope:=relabel scope X.env}) (compPost (VS X.prog X.w) X.A X.xe use Q' acc cenv.locals) s₄) X.xe s₃) X.xe s₂) X.xe s₁) X.xe s:=by
 refine az (hi Xz s σ H _ I h) λv s1 h1=>az h1 λitv s2 h2=>?_;obtain⟨it,fp,tn,J,H2,e,I2,T,st2,f2,wW⟩:=h2;subst e;refine V4 ?_;have hD0:H2 s2.heap.objs.size=none:=I2.hok.fresh (Ot _);obtain⟨W,⟨m0,w0⟩,turn⟩:=wW _ hD0;generalize hD:s2.heap.objs.size=D at*;have I3:ae X Xz σ (av H2 D (.lst [])) {s2 with heap:=s2.heap.push {cls:= .type "list",dict:=none,data:= .seq ([]:List VJ).toArray}}:=by
  have:=I2.lnew (ys:=[]) (its:=[]) (t':=s2.toks) .nil (PK _);rw [hD] at this;exact this
 generalize hs3:({s2 with heap:=s2.heap.push {cls:= .type "list",dict:=none,data:= .seq ([]:List VJ).toArray}}:VN)=s3 at*;have up23:∀b o,s2.heap.get? b=some o->s3.heap.get? b=some o:=λb o e=>by rw [<-hs3];exact Oo _ e
 have fpD:∀b∈fp,b≠D:=λb hb z=>by
  obtain⟨o,ho,_⟩:=T.obj _ _ st2 b hb;have:=OB ho;rw [hD,z] at this;exact Qg _ this
 have f3:∀b∈fp,gG X Xz (av H2 D (.lst [])) b:=λb hb=>⟨by rw [aE (fpD b hb)];exact(f2 b hb).1,(f2 b hb).2⟩;have st3:tn 0 s3.heap:=T.keep _ _ _ st2 λb hb o e=>up23 b o e;have lt3:∀b∈fp,b < s3.heap.objs.size:=λb hb=>by obtain⟨o,ho,_⟩:=T.obj _ _ st3 b hb;exact OB ho
 refine Gr λh₁ e₁ hns₁ up34=>?_;have I4:=Gm S I3 f3 lt3 e₁ hns₁ up34;have st4:tn 0 h₁:=T.keep _ _ _ st3 λb hb o e=>up34 b o e;generalize hX':bE X scope N' fp s3.heap.objs.size s3 (av H2 D (.lst []))=X' at*;have hg':PG X' tg g:=by rw [<-hX'];exact hg _ _ _ _
 have hf':d5 X' ifs tc:=by rw [<-hX'];exact hf _ _ _ _
 have he':PE X' elt te:=by rw [<-hX'];exact he _ _ _ _
 have eP:X'.prog=X.prog:=by rw [<-hX'];rfl
 have eW:X'.w=X.w:=by rw [<-hX'];rfl
 have eK:X'.K=X.K:=by rw [<-hX'];rfl
 have eA:X'.A=X.A:=by rw [<-hX'];rfl
 have eC:X'.calm=true:=by rw [<-hX'];exact hc
 have eE:X'.xe=λ_ _=>False:=by rw [<-hX'];rfl
 have eEnv:X'.env=compEnvC scope (nY X scope s3.heap.objs.size) s3.heap.objs.size X.env:=by rw [<-hX'];rfl
 have fpx:∀{H':Hp},(∀b∈fp,H' b=none)->∀b∈fp,gG X' [] H' b:=λ{H'} hn b hb=>by
  refine⟨hn b hb,?_,?_,.inl ?_,?_,?_⟩
  ·rw [eEnv];exact OX (lt3 b hb)
  ·have:=I4.ok.exfs b (by rw [<-hX'];exact hb);exact this
  ·rw [<-hX'];exact hb
  ·have:=I4.ok.exf b (by rw [<-hX'];exact hb);exact this.2
  ·intro p hp;rw [<-hX'] at hp;simp [bE] at hp
 have fin:∀(s':VN)(H':Hp)(σ':St),ae X' [] σ' H' s'->Q (.ref D) H'->compPost (VS X.prog X.w) X.A X.xe use Q' (.ref D) s3.heap.objs.size (.ok .next) s':=λs' H' σ' J q=>by
  have un:Un (aX X.stack) fp (av H2 D (.lst [])) H' s3.heap s'.heap:=by have:=J.base;rw [<-hX'] at this;exact this
  have jos:s'.os=s3.os:=by have:=J.os;rw [<-hX'] at this;exact this
  have hC:H' s3.heap.objs.size=none:=by have:=J.free;rw [eEnv] at this;exact this
  have hok':bJ X.prog X.w H' s'.heap:=by have:=J.hok;rw [eP,eW] at this;exact this
  have gL:∀h',QY s3.heap.objs.size s'.heap h'->ae X Xz σ H' {s' with heap:=h'}:=λh' hs'=>by
   have un':Un (aX X.stack) fp (av H2 D (.lst [])) H' s3.heap h':=
    ⟨λb o e n h1 h2=>hs'.extBut b o (OX (OB e)) (un.keep b o e n h1 h2),λb o e n h1 h2=>by
     obtain⟨sl,z⟩:=un.slot b o e n h1 h2;exact⟨sl,hs'.extBut b _ (OX (OB e)) z⟩,un.free,λb o e h2=>by
     obtain⟨o',z⟩:=un.there b o e h2;exact⟨o',hs'.extBut b o' (OX (OB e)) z⟩,un.tups,un.frzs,un.tbls⟩
   exact ae.call' (s':={s' with heap:=h'}) I3 jos un' (hok'.but hC hs'.extBut) J.bare λb hb=>⟨(f3 b hb).2.2.2.1,(f3 b hb).2.1,(f3 b hb).2.2.2.2.1,(f3 b hb).2.2.2.2.2⟩
  have nsC:∃m,s'.heap.Ns s3.heap.objs.size m:=by
   obtain⟨m,hn,_⟩:=J.loc;rw [eEnv] at hn;exact⟨m,hn⟩
  exact hQ D s3.heap.objs.size s' H' (RI I3.lt) (gL s'.heap (.refl ..)) gL q nsC I3.lt
   ⟨hC,λx c e=>by obtain⟨v,o,ho,_⟩:=I3.cell x c e;exact OX (OB ho),λp hp=>OX (OB (I3.pin p hp).1)⟩
 have loop:∀s4:VN,s4=({s3 with heap:=h₁}:VN)->
  WB (VS X.prog X.w) X.A (.compLoop (.ListComp elt [⟨tg,iter,ifs,0⟩] scope pos) 0 (.ref it) (.ref D) X'.env) (compPost (VS X.prog X.w) X.A X.xe use Q' (.ref D) s3.heap.objs.size) s4:=by
  rintro s4 rfl;refine Gn (λn s'=>∃i H',ae X' [] (bW k fr σ) H' s'/\tn i s'.heap/\(∀b∈fp,H' b=none)/\W i n H') ?_ m0 ⟨0,_,I4,st4,λb hb=>(f3 b hb).1,w0⟩;rintro n s5 ⟨i,H5,I5,st5,fr5,w5⟩;rcases turn i n H5 w5 with⟨stop,qn⟩ | ⟨go,step⟩
  ·have:=T.done X' eP eW eK eC i [] s5 _ H5 (λ_ _=>False) I5 (fpx fr5) st5 stop;rw [eA] at this;refine az this λr s6 ⟨hr,I6⟩=>?_;subst hr;exact fin s6 H5 _ I6 qn
  ·have:=T.item X' eP eW eK eC i [] s5 _ H5 (λ_ _=>False) I5 (fpx fr5) st5 go;rw [eA] at this;refine az this λr s6 ⟨u,hr,h6⟩=>?_;subst hr;refine az h6 λ_ s7 ⟨x,H7,I7,r7,y7,st7,fr7⟩=>?_;have I7':=I7.pinned (fpx fr7) (T.obj _ _ st7);have h8:=hg' _ s7 _ H7 x u _ I7' r7 (step x H7 y7);rw [eP,eW,eA,eE] at h8;refine az h8 λ_ s8 ⟨σ8,H8,I8,kp,q8⟩=>?_;have h9:=hf' _ s8 σ8 H8 _ I8 q8;rw [eP,eW,eA,eE] at h9;have again:∀{s9:VN}{H9:Hp}{n':Nat},ae X' ([]++lI fp s7.heap) σ8 H9 s9->n' < n->W (i+1) n' H9->∃m,m < n/\∃i H',ae X' [] (bW k fr σ) H' s9/\tn i s9.heap/\(∀b∈fp,H' b=none)/\W i m H':=λ{s9 H9 n'} I9 hn' w9=>by
    refine⟨n',hn',i+1,H9,I9.unpinned.weak kp.1 kp.2,T.keep _ _ _ st7 λb hb o e=>(I9.pin (b,o) (Pa _ (Pa _ (nK hb e)))).1,λb hb=>?_,w9⟩;obtain⟨o,e,d⟩:=T.obj _ _ st7 b hb;exact(I9.pin (b,o) (Pa _ (Pa _ (nK hb e)))).2.1
   refine az h9 λok s9 ⟨H9,I9,q9⟩=>?_;cases ok with
   | false=>
    rw [VE O6] at q9;obtain⟨m',hm',w9⟩:=q9;rw [VE O6];exact again I9 hm' w9
   | true=>
    rw [VF rfl] at q9;rw [VF rfl];have h10:=he' _ s9 σ8 H9 _ I9 q9;rw [eP,eW,eA,eE] at h10;refine az h10 λy s10 ⟨yv,H10,I10,r10,ys,hys,hz,m',hm',w10⟩=>?_;have h11:=vS (X:=X') _ s10 σ8 H10 (.ref D) [yv] (.ref D) [y] (λ_ H'=>W (i+1) m' H') I10 rfl (.cons r10 .nil) ⟨D,ys,yv,rfl,rfl,hys,hz,w10⟩;rw [eP,eW,eA,eE] at h11;exact az h11 λ_ s11 uu68=>by obtain⟨_,H11,I11,_,q11⟩:=uu68;exact again I11 hm' q11
 have hE:({newEnv scope s3.heap.objs.size X.env.globals (nY X scope s3.heap.objs.size) X.env.qual none .none (some X.env) WS with scope:=relabel scope X.env}:Env)=X'.env:=by
  rw [eEnv];rfl
 have goal:=codeAny_compStart_list (elt:=elt) (target:=tg) (iter:=iter) (ifs:=ifs) (rest:=[]) (scope:=scope) (pos:=pos) (loop _ rfl) (T.self X.A 0 _ _ _ st4 (loop _ rfl));rw [<-hE] at goal;exact goal
theorem lT(hc:X.calm=true)(S:bt X.env.scope X.N N' k fr scope)(hi:PI X tg iter wi)
 (hg:∀fp C s H,PG (bE X scope N' fp C s H) tg g)(hf:∀fp C s H,d5 (bE X scope N' fp C s H) ifs tc)(he:∀fp C s H,PE (bE X scope N' fp C s H) elt te)
 (hs:∀x,V5 iter X.env x=pure x:=by intro _;rfl):PE X (.ListComp elt [⟨tg,iter,ifs,0⟩] scope pos) (i6 wi g tc te k fr):=by
 intro Xz s σ H Q I h;have hcell:∀y∈scope.names,y.2= .free->∃c,X.env.cells.lookup y.1=some c:=λy hy e=>I.ok.has y.1 (S.outer y hy e);rw [eval_ListComp];refine Xu (use:=none) rfl hs (rj hcell) S.kind S.names (vV hc S hi hg hf he I h ?_);intro D C s' H' hC J gL q ns hlt _;obtain⟨m,hn⟩:=ns;exact⟨m,hn,λh' hs'=>⟨.ref D,H',gL h' hs',rfl,q⟩⟩
theorem Gs{i:Nat}{x:Str}{pos' spos:Pos}(hN:X.N.Nodup)(hxi:X.N[i]?=some x)(hx:gY X.env.scope x)(hc:X.calm=true)(S:bt X.env.scope X.N N' k fr scope)(hi:PI X tg iter wi)
 (hg:∀fp C s H,PG (bE X scope N' fp C s H) tg g)(hf:∀fp C s H,d5 (bE X scope N' fp C s H) ifs tc)(he:∀fp C s H,PE (bE X scope N' fp C s H) elt te)
 (hsw:Wb (.ListComp elt [⟨tg,iter,ifs,0⟩] scope pos) (some (.Name x pos')) spos.line X.env=pure true)
 (hs:∀x,V5 iter X.env x=pure x:=by intro _;rfl)(hfn:X.fn x=true\/X.env.scope.names.lookup x=some .local:=by first | exact .inl rfl | exact .inr rfl | assumption):
 PS X (.Assign [.Name x pos'] (.ListComp elt [⟨tg,iter,ifs,0⟩] scope pos) spos) (kh (i6 wi g tc te k fr) (iY i)):=by
 intro Xz s σ H D I h;have hcell:∀y∈scope.names,y.2= .free->∃c,X.env.cells.lookup y.1=some c:=λy hy e=>I.ok.has y.1 (S.outer y hy e);rw [exec_Assign_Name_used _ _ _ _ hsw];refine VL (Xk (VL ?_));show VQ _ X.A (do let _<-comprehension (.ListComp elt [⟨tg,iter,ifs,0⟩] scope pos) scope X.env _ (newList []) false (eval iter X.env) (some (assign (.Name x pos') X.env))) _ _ s;refine VL (V8 (Xu (use:=some (assign (.Name x pos') X.env)) (Q:=λ_ s'=>∃σ' H',ae X Xz σ' H' s'/\D.nx σ' H') rfl hs (rj hcell) S.kind S.names (vV hc S hi hg hf he I h ?_)) (λ_ s' hq=>VO (VO hq)) λ_ _ e=>e);intro D' C s' H' hC J gL q ns hlt ⟨c1,c2,c3⟩;obtain⟨m,hn⟩:=ns;show VQ _ X.A (assign (.Name x pos') X.env (.ref D')) _ _ _;refine wpAny_assign_Name (uV J hN hxi hx (v:= .ref D') rfl (λs2 J2 sb=>?_) hfn);obtain⟨a,sb,ha⟩:=sb;have hCa:C≠a:=by
  rcases ha with z | z
  ·rw [z];exact hC
  ·exact Ne.symm (c2 _ _ z)
 refine⟨m,hn.sameBut sb hCa,λh3 hs3=>⟨_,H',?_,q⟩⟩;exact J2.turned (t':=s2.toks) hs3.extBut c1 hC (.inr (OZ J.ok.above (QJ hlt))) c2 c3
end
section
variable {X:Cx}
theorem Gu(hc:X.calm=true):cO X (.builtin "sum") (λxs H Q=>∃(a:VM)(ns:List Int),xs=[.ref a]/\bf X.K H a (ns.map V.int)/\Q (.int ns.sum) H):=by
 intro Xz s σ H xs us Q I r h;obtain⟨a,ns,rfl,hl,q⟩:=h;obtain⟨u,rfl,rx⟩:=dj r;cases rx;obtain⟨its,rv,p,hz⟩:=I.list hl;have hi:IntsAre its ns:=FK rv;have hall:AllInts its.toArray:=hi.allInts;obtain⟨ys,hys⟩:=hall.items;have hn:numsOf its.toArray.toList=ns:=by rw [show its.toArray.toList=its from rfl,hi.numsOf]
 rw [hys,nums_intItems] at hn;have hl':=p.isList;rw [hys] at hl';refine sum_intListG (I.ok.hd hc) hl' λh' tk t' hk=>?_;refine⟨.int ns.sum,H,I.kept hk,⟨t',?_⟩,q⟩;rw [preSum_eq,Pd VH,hn]
end
end L2
namespace Att
open PySem PySem.W PySem.Calls PyProof.Rows
theorem Gv{ns:List Int}(h:UN [SU (ns.map Rj)]=true):∀n∈ns,Qp n<=1048576:=by
 have h1:(SU (ns.map Rj)).layable=true:=by simpa [UN] using h
 have h2:(SU (ns.map Rj)).weight<=1048576:=(PySem.W.layableW_iff.mp h1).2.2;have key:∀l:List Int,∀n∈l,Qp n<=RE (l.map Rj):=by
  intro l
  induction l with
  | nil=>intro n hn;simp at hn
  | cons x r ih=>
   intro n hn;have e:RE ((x::r).map Rj)=Qp x+1+RE (r.map Rj):=by
    rw [Ov,RE,Vf];rfl
   rw [e];rcases Ox.mp hn with z | z
   ·subst z;omega
   ·have:=ih n z;omega
 intro n hn;have e:(SU (ns.map Rj)).weight=RE (ns.map Rj):=by rw [Vf]
 rw [e] at h2;exact OZ (key ns n hn) h2
theorem attach_callB{l:OpenLaw}{n:Nat}{q:VW}{loose:List Str}{XP:(Str->Option VJ)->VY->Prop}{YP:VZ->VY->Prop}{d:DefRec}
 (hn:l.most=some n)(hdf:d.params.defaults=[])
 (call:∀(w:VZ) (s₀ s₁:VN) (mg mb:Str->Option VJ) (fa:VM) (o:Obj) (pm cd doc:VJ) (a:VM) (vs:List VJ) (ns:List Int),
  Ground q loose [] XP w s₀ mg mb s₁.heap->YP w s₁.heap->
  s₁.heap.get? fa=some o->o.data= .func (docDef d.name d.params d.body d.scope pm cd doc)->s₁.heap.CodeRec cd d.name->mg d.name=some (.ref fa)->
  s₁.heap.get? a=some {cls:= .type "list",data:= .seq vs.toArray}->IntsAre vs ns->ns.length<=n->(∀z∈ns,Qp z<=1048576)->s₁.gens=#[]->
  WB (VS l.prog w) callerA (.call (.ref fa) ⟨[.ref a],[]⟩) (λr s'=>r= .ok (.ret (.bool true))/\OldK s₁.heap s'.heap/\s'.os=s₁.os/\WT s'.gens) s₁):
 WalkO q loose XP YP l.row.toRowW d [] (λf vs=>Vw f vs):=by
 intro w s₀ s₁ mg mb G Y fa o pm cd doc dV kV ho hd hcd hD hmg hg args vals as hpre hlay hrd hwl hlo;obtain rfl:dV= .none:=Dflts.none hD hdf;obtain rfl:kV= .none:=Dflts.noKw hD;obtain⟨a,vs,ns,rfl,rfl,hobj,hints,hlen⟩:=Gd hn hpre hwl;have hb:∀z∈ns,Qp z<=1048576:=Gv hlay;refine enter_call (Wr (call w s₀ s₁ mg mb fa o pm cd doc a vs ns G Y ho (fd_plain hd) hcd hmg hobj hints hlen hb hg) λr s' hq=>?_);obtain⟨rfl,h2,h3,h4⟩:=hq;exact⟨.inl ⟨.bool true,.bool true,[],rfl,λ_=>rfl,.bool true,Ge l _,λ_=>⟨Vd.nil,λ_ hm=>(nomatch hm)⟩⟩,h2,h3,h4⟩
end Att
namespace L2
open PySem PySem.Spec PyProof.Rows
def kn(p:VM)(H H':Hp):Prop:=∀b o,H b=some o->b≠p->H' b=some o
theorem au.new{H:Hp}{p:VM}{o:HO}(h:H p=none):au H (av H p o):=λb u e=>by rw [aE (cR e h)];exact e
def FR(J:It)(g:TG)(tb:TS)(D:ix)(σ:St)(H1:Hp):Prop:=∃W:Nat->Nat->St->Hp->Prop,(∃m,W 0 m σ H1)/\∀i m σ H,W i m σ H->
 (J.stop i H/\D.nx σ H)\/(J.go i H/\∃N:St->Hp->Prop,(∀σ' H',N σ' H'->∃m',m' < m/\W (i+1) m' σ' H')/\∀x H',J.yld i H x H'->g x σ H' λσ2 H2=>tb {D with nx:=N,ct:=N,bk:=D.nx} σ2 H2)
theorem vW{ta:TA}{g:TG}{tb:TS}:lH (qN ta) g tb=λD σ H=>ta σ H λvs H1=>∃j:Int,vs=[.int j]/\-(2 ^ 62)<=j/\j < 2 ^ 62/\FR (iy 0 j.toNat) g tb D σ H1:=rfl
theorem vX{ta:TA}{g:TG}{tb:TS}:lH (qO ta) g tb=λD σ H=>ta σ H λvs H1=>∃i j:Int,vs=[.int i,.int j]/\(-(2 ^ 62)<=i/\i < 2 ^ 62/\-(2 ^ 62)<=j/\j < 2 ^ 62)/\FR (iy i (j - i).toNat) g tb D σ H1:=rfl
theorem vY{K:Og}{tl:TE}{g:TG}{tb:TS}:lH (qK K tl) g tb=λD σ H=>tl σ H λx H1=>∃a,x= .ref a/\(∃xs,bf K H1 a xs)/\FR (lF K a) g tb D σ H1:=rfl
theorem vZ{K:Og}{tl:TE}{g:TG}{tb:TS}:lH (qL K tl) g tb=λD σ H=>tl σ H λx H1=>∃a,x= .ref a/\(∃xs,br K H1 a xs)/\FR (lG K a) g tb D σ H1:=rfl
def kq(J:It)(g:TG)(tc:TT)(te:TE)(k:Nat)(fr:List Nat)(σ:St)(H1:Hp)(Q:VK):Prop:=∀D,H1 D=none->∃W:Nat->Nat->Hp->Prop,(∃m,W 0 m (av H1 D (.lst [])))/\∀i m H,W i m H->
 (J.stop i H/\Q (.ref D) H)\/(J.go i H/\∀x H',J.yld i H x H'->g x (bW k fr σ) H' λσ2 H2=>km (bW k fr σ) σ2/\tc σ2 H2 λok H3=>
  if ok=true then te σ2 H3 λy H4=>∃ys,H4 D=some (.lst ys)/\ys.length < VT/\∃m',m' < m/\W (i+1) m' (av H4 D (.lst (ys++[y])))
  else ∃m',m' < m/\W (i+1) m' H3)
theorem v3{ta:TA}{g:TG}{tc:TT}{te:TE}{k:Nat}{fr:List Nat}:i6 (qN ta) g tc te k fr=λσ H Q=>ta σ H λvs H1=>∃j:Int,vs=[.int j]/\-(2 ^ 62)<=j/\j < 2 ^ 62/\kq (iy 0 j.toNat) g tc te k fr σ H1 Q:=rfl
theorem v5{ta:TA}{g:TG}{tc:TT}{te:TE}{k:Nat}{fr:List Nat}:i6 (qO ta) g tc te k fr=λσ H Q=>ta σ H λvs H1=>∃i j:Int,vs=[.int i,.int j]/\(-(2 ^ 62)<=i/\i < 2 ^ 62/\-(2 ^ 62)<=j/\j < 2 ^ 62)/\kq (iy i (j - i).toNat) g tc te k fr σ H1 Q:=rfl
theorem v7{K:Og}{tl:TE}{g:TG}{tc:TT}{te:TE}{k:Nat}{fr:List Nat}:i6 (qK K tl) g tc te k fr=λσ H Q=>tl σ H λx H1=>∃a,x= .ref a/\(∃xs,bf K H1 a xs)/\kq (lF K a) g tc te k fr σ H1 Q:=rfl
theorem v9{K:Og}{tl:TE}{g:TG}{tc:TT}{te:TE}{k:Nat}{fr:List Nat}:i6 (qL K tl) g tc te k fr=λσ H Q=>tl σ H λx H1=>∃a,x= .ref a/\(∃xs,br K H1 a xs)/\kq (lG K a) g tc te k fr σ H1 Q:=rfl
theorem Gw{fr:List Nat}{σ:St}{v:Option V}:km (bW 1 fr σ) ((bW 1 fr σ).set 0 v):=by
 refine⟨VH,λi w h=>?_⟩;cases i with
 | zero=>simp [bW,OQ] at h
 | succ i=>simpa [bW,OQ] using h
theorem cxK{CX:eJ}{P:VW}{w:VZ}{K:Og}{mg:Str->Option VJ}{base:VY}{N:List Str}{qual:Str}{scope:Wc}{f:VM}{cd:VJ}{A:V1}{outer:List Env}{s:VN}{H:Hp}{E:XK}:(bO CX P w K mg base N qual scope f cd A outer s H E).K=K:=rfl
theorem cmK{X:Cx}{scope:Wc}{N':List Str}{fp:List VM}{C:VM}{s:VN}{H:Hp}:(bE X scope N' fp C s H).K=X.K:=rfl
theorem kr{K:Og}{p:VM}{xs:List V}{i:Int}{v:V}{H:Hp}{Q:VK}(h:bf K H p xs)(hv:atI xs i=some v)(q:Q v H):nV K (.ref p) (.int i) H Q:=⟨p,xs,i,v,rfl,rfl,h,hv,q⟩
theorem Gx:V3 "divmod"=some (.builtin "divmod"):=Ce
theorem d6:V3 "isinstance"=some (.builtin "isinstance"):=Ce
theorem rF:V3 "int"=some (.type "int"):=Ce
theorem wa:V3 "bool"=some (.type "bool"):=Ce
theorem Gy:V3 "str"=some (.type "str"):=Ce
theorem d7:V3 "tuple"=some (.type "tuple"):=Ce
theorem rG:V3 "list"=some (.type "list"):=Ce
open PySem PySem.Spec PyProof.Rows PySem.W
def bx(P:VW)(w:VZ):eJ:=λouter H s E ev s'=>∃(e:VM)(cls a0:VJ)(B:VY)(H':Hp),ev= .ref e/\s'.os=s.os/\WT s'.gens/\Uh B outer e cls a0 s'.heap/\bJ P w H' B/\
 Un (aX outer) [] H H' s.heap s'.heap/\(∀b o,s.heap.get? b=some o->H b=none->b ∉ aX outer->B.get? b=some o)/\(∀b o,s.heap.get? b=some o->b ∉ aX outer->∃o',B.get? b=some o')/\E cls none H'
theorem bJ.hide{P:VW}{w:VZ}{H:Hp}{h:VY}{as:List VM}(x:bJ P w H h)(hn:∀b∈as,H b=none):bJ P w H (hideAll h as):=λa o e=>by
 refine(x a o e).stay (λb u hb q=>WZ _ q λhm=>?_) (λ_ q=>q) (λ_ _ q=>q) λ_ _ q=>q;have z:=hn b hm;rcases hb with r | r
 ·rw [r] at z;rw [z] at e;cases e
 ·rw [z] at r;cases r
section
variable {P:VW} {w:VZ} {K:Og} {mg:Str->Option VJ} {base:VY} {N:List Str} {qual:Str} {scope:Wc} {f:VM} {cd:VJ} {A:V1} {outer:List Env} {s:VN} {H:Hp} {E:XK}
theorem Gz{Xz:List (VM×Obj)}{σ:St}{H1:Hp}{s1:VN}{h':VY}{e:VM}{cls:VJ}{args:List VJ}
 (I:ae (bO (bx P w) P w K mg base N qual scope f cd A outer s H E) Xz σ H1 s1)(hx:U1 s1.heap h' e cls args)(q:E cls none H1):
 (bO (bx P w) P w K mg base N qual scope f cd A outer s H E).xe (.ref e) {s1 with heap:=h'}:=by
 have st:=I.stack;have sf:=I.stkFree;have ub:Un (aX outer) [] H H1 s.heap s1.heap:=I.base;have fo:s1.heap.FunFrames base outer:=I.funs;have hin:∀env∈(bO (bx P w) P w K mg base N qual scope f cd A outer s H E).stack,∀a,env.frame=some a->a∈aX (bO (bx P w) P w K mg base N qual scope f cd A outer s H E).stack:=λenv he a hf=>QE.mpr ⟨env,he,hf⟩;show VQ (VS P w) _ (leaving _ (.ref e)) _ _ _;refine wpAny_leaves_madeW (base:=hideAll s1.heap (aX (bO (bx P w) P w K mg base N qual scope f cd A outer s H E).stack)) (h:=s1.heap) I.ok.frames rfl (λb o z=>of_hideAll _ z) (funFrames_hide st hin) hx λh2 t x1 x2 x3 x4=>?_;have nst:∀b o,s.heap.get? b=some o->b ∉ aX outer->b ∉ aX (bO (bx P w) P w K mg base N qual scope f cd A outer s H E).stack:=λb o eb hb hm=>by
  rcases Ox.mp (I.stkSub b hm) with z | z
  ·have h1:=OB eb;have h2:=I.ok.above;rw [<-z] at h2;exact absurd (OW h1 h2) (Qg _)
  ·exact hb z
 have up:∀b∈aX outer,∀o,s1.heap.get? b=some o->∃sl,h2.get? b=some {o with slots:=sl}:=λb hb o eo=>by
  obtain⟨_,o',ho',hd⟩:=fo.mem hb;rw [eo] at ho';cases ho';exact x4 b o (hx.keeps _ _ eo) hd
 refine⟨e,cls,.ref t,_,H1,rfl,I.os,I.bare,x1,I.hok.hide sf,⟨λb o eb n hb hx'=>?_,λb o eb n hb hx'=>?_,ub.free,λb o eb hx'=>?_,ub.tups,ub.frzs,ub.tbls⟩,λb o eb n hb=>?_,λb o eb hb=>?_,q⟩
 ·exact x1.1 b o (WZ _ (ub.keep b o eb n hb hx') (nst b o eb hb))
 ·obtain⟨sl,es⟩:=ub.slot b o eb n hb hx';obtain⟨sl',es'⟩:=up b hb _ es;exact⟨sl',es'⟩
 ·obtain⟨o',eo'⟩:=ub.there b o eb hx';by_cases hb:b∈aX outer
  ·obtain⟨sl',es'⟩:=up b hb _ eo';exact⟨_,es'⟩
  ·exact⟨o',x1.1 b o' (WZ _ eo' (nst b o eb hb))⟩
 ·exact WZ _ (ub.keep b o eb n hb VH) (nst b o eb hb)
 ·obtain⟨o',eo'⟩:=ub.there b o eb VH;exact⟨o',WZ _ eo' (nst b o eb hb)⟩
theorem GA{E':XK}(hE:∀cls d H',E' cls d H'->E cls d H'):lN (bx P w) (bO (bx P w) P w K mg base N qual scope f cd A outer s H E) E':=by
 intro Xz σ H1 s1 ev s2 I h;obtain⟨e,cls,a0,B,H2,rfl,ho,hg,fl,hb,un,kb,th,q⟩:=h;have ub:Un (aX outer) [] H H1 s.heap s1.heap:=I.base;have stk:(bO (bx P w) P w K mg base N qual scope f cd A outer s H E).stack=WE qual scope s.heap.objs.size f cd::outer:=rfl;show VQ (VS P w) _ (leaving _ (.ref e)) _ _ _;refine wpAny_leaves_onW I.ok.frames rfl fl λh2 x1 x2=>?_;have nst:∀b o,s.heap.get? b=some o->b ∉ aX outer->b ∉ aX (bO (bx P w) P w K mg base N qual scope f cd A outer s H E).stack:=λb o eb hb hm=>by
  rcases Ox.mp (I.stkSub b hm) with z | z
  ·have h1:=OB eb;have h2:=I.ok.above;rw [<-z] at h2;exact absurd (OW h1 h2) (Qg _)
  ·exact hb z
 have sub:∀b∈aX outer,b∈aX (bO (bx P w) P w K mg base N qual scope f cd A outer s H E).stack:=λb hb=>by
  rw [stk];unfold aX;rw [Qy];exact OR _ hb
 have up:∀b∈aX outer,∀o,s2.heap.get? b=some o->∃sl,h2.get? b=some {o with slots:=sl}:=λb hb o eo=>by
  obtain⟨_,o',ho',hd⟩:=fl.2.2.1.mem (sub b hb);rw [eo] at ho';cases ho';exact x2 b o eo hd
 have kB:∀b o,s.heap.get? b=some o->H b=none->b ∉ aX outer->B.get? b=some o:=λb o eb n hb=>kb b o (ub.keep b o eb n hb VH) (ub.free b o eb n VH) (nst b o eb hb);have tB:∀b o,s.heap.get? b=some o->b ∉ aX outer->∃o',B.get? b=some o':=λb o eb hb=>by
  obtain⟨o',eo'⟩:=ub.there b o eb VH;exact th b o' eo' (nst b o eb hb)
 refine⟨e,cls,a0,B,H2,rfl,ho.trans I.os,hg,x1,hb,⟨λb o eb n hb' hx'=>x1.1 b o (kB b o eb n hb'),λb o eb n hb' hx'=>?_,λb o eb n hx'=>?_,λb o eb hx'=>?_,λb xs z=>un.tups b xs (ub.tups b xs z),λb o u z=>un.frzs b o u (ub.frzs b o u z),λb ps z=>?_⟩,kB,tB,hE _ _ _ q⟩
 ·obtain⟨sl,es⟩:=ub.slot b o eb n hb' hx';obtain⟨sl1,es1⟩:=un.slot b _ es (ub.free b o eb n hx') (sub b hb') VH;obtain⟨sl2,es2⟩:=up b hb' _ es1;exact⟨sl2,es2⟩
 ·obtain⟨o',eo'⟩:=ub.there b o eb hx';exact un.free b o' eo' (ub.free b o eb n hx') VH
 ·by_cases hb':b∈aX outer
  ·obtain⟨o',eo'⟩:=ub.there b o eb hx';obtain⟨o2,eo2⟩:=un.there b o' eo' VH;obtain⟨sl',es'⟩:=up b hb' _ eo2;exact⟨_,es'⟩
  ·obtain⟨o',eo'⟩:=tB b o eb hb';exact⟨o',x1.1 b o' eo'⟩
 ·obtain⟨m1,e1⟩:=ub.tbls b ps z;obtain⟨m2,e2⟩:=un.tbls b _ e1;exact⟨m1++m2,by rw [e2,Ss]⟩
end
theorem rH{K:Og}{h:VY}{mg:Str->Option VJ}{x:Str}{C:VM}{bmB:List VJ}{newId:String}(X:K.In h)(hm:mg x=some (.ref C))(q:QC K C bmB newId=true):OwnCls x C bmB newId mg h:=by
 refine⟨hm,?_⟩;unfold QC at q;split at q
 ·rename_i dd cd sl ho;split at q
  ·rename_i C' bm k0 k1 k2 k3 n k5 hm hs;simp only [OI,beq_iff_eq,Qw] at q;obtain⟨⟨⟨⟨⟨rfl,rfl⟩,hdel⟩,ht⟩,hok⟩,hni⟩:=q;obtain⟨nm,bs,mro,ns,qn,hd,sn,sub,ab,col,del⟩:=cd;dsimp only at hm hdel hok hni;subst hm hdel;have hsl:sl=#[k0,k1,k2,k3,some (.builtin n),k5]:=by
    obtain⟨l⟩:=sl;simp only at hs;rw [hs]
   subst hsl;exact⟨bm,ns,nm,qn,bs,hd,sn,sub,ab,col,dd,k0,k1,k2,k3,k5,_,X _ _ ho,.of_isNs (isNs_of_in X hok),nsMap_none_of_in X hok hni,tail_of_in X ht⟩
  ·cases q
 ·cases q
section
variable {X:Cx}
def wb(ta:TA)(Ex:Hp->Prop):TS:=λ_ σ H=>ta σ H λvs H1=>vs.length<=VT/\Ex H1
theorem GB{x:Str}{C:VM}{bm:List VJ}{B newId initId:String}{e:VR}{es:List VR}{np cpos pos:Pos}{ta:TA}{Ex:Hp->Prop}(hm:X.mg x=some (.ref C))(O:QC X.K C bm newId=true)(FB:ExcBaseFacts B newId initId bm)(hc:X.calm=true)
 (hg:Gl X x)(ha:PA X (e::es) ta)(hxe:∀(Xz:List (VM×Obj)) (σ:St) (H:Hp) (s:VN) (h':VY) (e:VM) (args:List VJ),ae X Xz σ H s->U1 s.heap h' e (.ref C) args->Ex H->X.xe (.ref e) {s with heap:=h'})
 (hd:(x==("__debug__":Str))=false:=by decide)(he:VP (e::es) X.env=(false,eval e X.env)::VP es X.env:=by rfl)(hpl:(V6 cpos (VP es X.env)).any (·.1)=false:=by rfl):
 PS X (.Raise (some (.Call (.Name x np) (e::es) [] cpos)) none pos) (wb ta Ex):=by
 intro Xz s σ H D I h;obtain⟨tl,N,nm,q,bs,hdct,sn,sub,ab,col,dd,k0,k1,k2,k3,k5,mN,hC,hN,hni,T⟩:=(rH (x:=x) I.ok.mod.kin hm O).obj;have h':=ha cpos Xz s σ H _ I h;refine wpAny_Raise_call_subT (C:=C) (nm:=nm) (q:=q) (N:=N) (bs:=bs) (bm:=tl) (hdct:=hdct) (sn:=sn) (sub:=sub) (ab:=ab) (col:=col) (dd:=dd) (k0:=k0) (k1:=k1) (k2:=k2) (k3:=k3) (k5:=k5)
  FB (mN:=mN) (T.hasType FB.hasBase) (I.ok.hd hc) (by rw [he];show(false || (V6 cpos (VP es X.env)).any (·.1))=false;rw [hpl];rfl) hni (kc I hg hm ⟨rfl,?_⟩ hd)
 rw [he] at h'⊢;refine Ry (az h' λus s1 uu69=>by obtain⟨vs,H1,I1,r,hz,q1⟩:=uu69;exact⟨rfl,by rw [<-r.length];exact hz,I1.bk _ _ hC,hN.keeps I1.bk,T.keeps I1.bk,λh2 e2 hm2=>hxe Xz σ H1 s1 h2 e2 us I1 hm2 q1⟩)
end
section
variable {P:VW} {w:VZ} {K:Og} {mg:Str->Option VJ} {base:VY}
theorem dU.okR{x qual:Str}{st:V0}{f:VM}{fd:VU}{N ps:List Str}{k:Nat}{sp:Sp}(F:dU K x qual st f fd)(S:aP N ps (aA st))(len:∀vs H Q E,sp vs H Q E->vs.length=ps.length)
 (hbody:∀(cdv:VJ) (A:V1) (outer:List Env) (s:VN) (H:Hp) (vs:List V) (Q:VK) (E:XK),bp k (A.deeper (WE qual (aA st) s.heap.objs.size f cdv))->sp vs H Q E->
  ∃t,bD (bO (bx P w) P w K mg base N qual (aA st) f cdv A outer s H E) (fx st) t/\t {nx:=λ_ H'=>Q .non H',rt:=Q} (start N vs) H):aF P w K mg base (bx P w) (k+1) f fd ps sp:=by
 obtain⟨oc,od,kV,doc,pm,an,cdv,ct,osl,rfl,lk,hcd⟩:=F.ex;exact nT lk hcd S len λA outer s H vs Q E hr hsp=>hbody cdv A outer s H vs Q E hr hsp
end
section
variable {M:Model} {A:V1} {E:VJ->VN->Prop}
variable {nm q:Str} {C N:VM} {bs bm:List VJ} {hdct:Bool} {sn:List Str} {sub:List VJ} {ab:Bool} {col:Option Bool} {dd:Option VM} {k0 k1 k2 k3 k5:Option VJ} {newId:String}
variable {nm' q':Str} {C' N':VM} {bs' bm':List VJ} {hdct':Bool} {sn':List Str} {sub':List VJ} {ab':Bool} {col':Option Bool} {dd':Option VM} {k0' k1' k2' k3' k5':Option VJ} {newId':String}
theorem GC{h:VY}{g:Array Xx}{d:Drawn}{t:Nat}{os:OsState}{e:VM}{oe:Obj}{Q:Bool->VN->Prop}
 (hC:h.get? C=some (excClassObj nm q C N bs bm hdct sn sub ab col dd k0 k1 k2 k3 k5 newId))(hC':h.get? C'=some (excClassObj nm' q' C' N' bs' bm' hdct' sn' sub' ab' col' dd' k0' k1' k2' k3' k5' newId'))
 (he:h.get? e=some oe)(hcls:oe.cls= .ref C)(hbase:bm'.contains (.type "BaseException")=true)(hin:(OU C::bm).contains (.ref C')=true)
 (hq:Q true ⟨h,g,d,t,os⟩):VQ M A (excMatches (.ref e) (.ref C')) Q E ⟨h,g,d,t,os⟩:=by
 have hcB:(OU C'::bm').contains (.type "BaseException")=true:=by rw [Ui,hbase,Vg]
 have f:=tc_notTuple;unfold excMatches
 repeat (first | (with_reducible refine wpAny_loadPart_at he ?_;rw [hcls]) | with_reducible refine wpAny_loadPart_at hC' ?_ | (with_reducible refine wpAny_isSubtype_exc hC' ?_;rw [hcB]) | (with_reducible refine wpAny_isSubtype_exc hC ?_;rw [hin]) | wp_step)
 exact hq
end
section
variable {X:Cx} {Xz:List (VM×Obj)} {σ:St} {H:Hp} {s:VN}
theorem wc{M:Model}{A:V1}{E:VJ->VN->Prop}{i:Nat}{x:Str}{pos:Pos}{Q:Unit->VN->Prop}(I:ae X Xz σ H s)(hN:X.N.Nodup)(hi:X.N[i]?=some x)(hx:X.env.scope.names.lookup x=some .local)
 (h:∀s',ae X Xz (σ.set i none) H s'->Q () s'):VQ M A (do bindName X.env x .none;unbindBehindTheSuite X.env x pos) Q E s:=by
 have hcls:(X.env.scope.kind== .class || (X.env.scope.kind== .module && X.env.locals !=X.env.globals))=false:=by rw [I.ok.kind];rfl
 have hiσ:i < σ.length:=by rw [I.len];exact(Oy.mp hi).1
 refine VL (wpAny_bindName (j9 I hN hi (.inl hx) (v:= .non) rfl (λs1 I1=>?_) (.inr hx)));obtain⟨m,hn,hl⟩:=id I1.loc;obtain⟨u0,r0,lk⟩:=hl i x .non hi (by rw [Pb hiσ]) (.inl hx);have hv:∃v,m x=some v:=by
  rcases lk with⟨_,z⟩ | ⟨z,_⟩
  ·exact⟨_,z⟩
  ·rcases z with z | z
   ·exact absurd (z.symm.trans hx) VH
   ·exact absurd (z.symm.trans hx) VH
 obtain⟨v,hv⟩:=hv;unfold unbindBehindTheSuite;refine wpAny_onRaise (V8 (wpAny_unbindName_local (E:=λ_ _=>False) hx hn hv hcls λh' u hn' hs=>?_) (λ_ _ z=>z) λ_ _ z=>z.elim);obtain⟨oL,_,_,hoL,_⟩:=id hn;have cne:=I1.cne;have tracked:bJ X.prog X.w H h':=λb ob e=>by
  refine(I1.hok b ob e).stay (λc w' hc q=>(hs.2 c ?_).trans q) (λ_ q=>q) (λ_ _ q=>q) λ_ _ q=>q;rintro rfl;rcases hc with z | hc
  ·rw [<-z,I1.free] at e;cases e
  ·rw [I1.free] at hc;cases hc
 refine h _ ⟨I1.ok,I1.os,I1.bare,⟨λb o e n hb hx'=>?_,λb o e n hb hx'=>?_,I1.base.free,λb o e hx'=>?_,I1.base.tups,I1.base.frzs,I1.base.tbls⟩,⟨_,hn',λj y v' e1 e2 e3=>?_⟩,λy c e=>?_,I1.free,I1.freeC,λp hp=>?_,tracked,by simpa using I.len⟩
 ·exact(hs.2 b (OX (OW (OB e) I.ok.above))).trans (I1.base.keep b o e n hb hx')
 ·obtain⟨sl,e1⟩:=I1.base.slot b o e n hb hx';exact⟨sl,(hs.2 b (OX (OW (OB e) I.ok.above))).trans e1⟩
 ·obtain⟨o',e1⟩:=I1.base.there b o e hx';exact⟨o',(hs.2 b (OX (OW (OB e) I.ok.above))).trans e1⟩
 ·by_cases hj:j=i
  ·subst hj;rw [Pb hiσ] at e2;cases e2
  ·rw [OY (Ne.symm hj)] at e2;obtain⟨u',r',q⟩:=hl j y v' e1 (by rw [OY (Ne.symm hj)];exact e2) e3;refine⟨u',r',?_⟩;rcases q with⟨k,e⟩ | ⟨k,c,e,z⟩
   ·refine .inl ⟨k,?_⟩;have:y≠x:=λe=>hj (qr hN e1 (e▸hi));simp [this,e]
   ·exact .inr ⟨k,c,e,z.sameBut hs (cne y c e)⟩
 ·obtain⟨w',z⟩:=I1.cell y c e;exact⟨w',z.sameBut hs (cne y c e)⟩
 ·obtain⟨e,n,ne,nf,d⟩:=I1.pin p hp;exact⟨(hs.2 p.1 ne).trans e,n,ne,nf,d⟩
end
def cB(e:VM)(C:VJ)(h:VY):Prop:=∃o,h.get? e=some o/\o.cls=C
theorem bI.there{P:VW}{w:VZ}{H:Hp}{h:VY}{a:VM}{o:HO}(x:bI P w H h a o):∃ob,h.get? a=some ob:=by
 cases o with
 | lst xs=>obtain⟨_,_,_,_,e⟩:=x;exact⟨_,e⟩
 | tup xs=>obtain⟨_,_,_,ob,e,_⟩:=x;exact⟨_,e⟩
 | dK kvs=>obtain⟨_,_,_,_,o,_,_,e,_⟩:=x;exact⟨_,e⟩
 | dT kvs=>obtain⟨_,_,_,_,o,_,_,e,_⟩:=x;exact⟨_,e⟩
 | set S n=>obtain⟨o,_,_,_,e,_⟩:=x;exact⟨_,e⟩
 | ins C dx fs=>obtain⟨_,_,_,e,_⟩:=x;exact⟨_,e⟩
 | own y=>exact x
 | xd fs=>obtain⟨_,⟨_,_,_,e,_⟩,_⟩:=x;exact⟨_,e⟩
 | rng lo hi=>obtain⟨_,_,_,e⟩:=x;exact⟨_,e⟩
 | frz ob u=>obtain⟨e,_⟩:=x;exact⟨_,e⟩
 | tbl ps=>obtain⟨_,_,_,_,e,_⟩:=x;exact⟨_,e⟩
 | cod q=>obtain⟨_,_,_,e,_⟩:=x;exact⟨_,e⟩
 | met f y=>exact⟨_,(show h.get? a=some _ from x)⟩
 | ext φ=>exact x.2.1
theorem we{X:Cx}{outer:List Env}{H H':Hp}{h h1 h2 B:VY}{e:VM}{cls a0:VJ}(un:Un (aX outer) [] H H' h h1)(fl:Uh B outer e cls a0 h1)(st:B.StaysIn h2)(sm:h1.UpToSlots h2)
 (kb:∀b o,h.get? b=some o->H b=none->b ∉ aX outer->B.get? b=some o)(th:∀b o,h.get? b=some o->b ∉ aX outer->∃o',B.get? b=some o'):Un (aX outer) [] H H' h h2:=by
 have up:∀b∈aX outer,∀o,h1.get? b=some o->∃sl,h2.get? b=some {o with slots:=sl}:=λb hb o eo=>by
  obtain⟨_,o',ho',hd⟩:=fl.2.2.1.mem hb;rw [eo] at ho';cases ho';exact sm b o eo hd
 refine⟨λb o eb n hb _=>st b o (kb b o eb n hb),λb o eb n hb hx=>?_,un.free,λb o eb hx=>?_,un.tups,un.frzs,un.tbls⟩
 ·obtain⟨sl,es⟩:=un.slot b o eb n hb hx;obtain⟨sl',es'⟩:=up b hb _ es;exact⟨sl',es'⟩
 ·by_cases hb:b∈aX outer
  ·obtain⟨o',eo'⟩:=un.there b o eb hx;obtain⟨sl',es'⟩:=up b hb _ eo';exact⟨_,es'⟩
  ·obtain⟨o',eo'⟩:=th b o eb hb;exact⟨o',st b o' eo'⟩
abbrev Cx.inEx(X:Cx)(e:VM):Cx:={X with A:=X.A.mark (some (.ref e)),calm:=false,xe:=λ_ _=>False}
theorem Cx.Ok.inEx{X:Cx}(ok:X.Ok)(e:VM):(X.inEx e).Ok:=
 ⟨ok.mod,ok.kind,ok.glob,ok.blt,ok.above,ok.inj,ok.has,ok.cab,λz=>absurd z VH,ok.frames,ok.stk,ok.exf,ok.bs,ok.bsz,ok.noex,ok.exfs,ok.funs,ok.frf⟩
theorem Cx.Ok.outEx{X:Cx}{e:VM}(ok:(X.inEx e).Ok)(hd:X.calm=true->X.A.handled=none):X.Ok:=
 ⟨ok.mod,ok.kind,ok.glob,ok.blt,ok.above,ok.inj,ok.has,ok.cab,hd,ok.frames,ok.stk,ok.exf,ok.bs,ok.bsz,ok.noex,ok.exfs,ok.funs,ok.frf⟩
section
variable {X:Cx} {Xz:List (VM×Obj)} {σ:St} {H:Hp} {s:VN}
theorem ae.inEx(I:ae X Xz σ H s)(e:VM):ae (X.inEx e) Xz σ H s:=⟨I.ok.inEx e,I.os,I.bare,I.base,I.loc,I.cell,I.free,I.freeC,I.pin,I.hok,I.len⟩
theorem ae.outEx{e:VM}(I:ae (X.inEx e) Xz σ H s)(hd:X.calm=true->X.A.handled=none):ae X Xz σ H s:=⟨I.ok.outEx hd,I.os,I.bare,I.base,I.loc,I.cell,I.free,I.freeC,I.pin,I.hok,I.len⟩
end
theorem GF{K:Og}{h:VY}{C C':VM}{nm qn:Str}{N:VM}{bs bm:List VJ}{hdct:Bool}{sn:List Str}{sub:List VJ}{ab:Bool}{col:Option Bool}{dd:Option VM}{k0 k1 k2 k3 k5:Option VJ}{newId:String}(X:K.In h)(e:Q5 K C (.ref C')=some true)
 (hC:h.get? C=some (excClassObj nm qn C N bs bm hdct sn sub ab col dd k0 k1 k2 k3 k5 newId)):(OU C::bm).contains (.ref C')=true:=by
 obtain⟨cd,a,b⟩:=Option.bind_eq_some_iff.mp e;unfold PySem.W.clsIn at a;split at a
 ·rename_i ho;cases a;have z:=(X _ _ ho).symm.trans hC;have z1:cd.mro=OU C::bm:=by unfold excClassObj at z;cases z;rfl
  split at b
  ·cases b
  ·rw [z1] at b;exact Pk b
 ·cases a
section
variable {X:Cx}
theorem wg{bs:List Bool}{its:List VJ}(r:aI (bs.map V.bl) its):its=bs.map QI:=by
 induction bs generalizing its with
 | nil=>cases r;rfl
 | cons b bs ih=>
  rw [Ov] at r;cases r with
  | cons r1 r2=>
   rw [Ov,<-ih r2];exact congrArg (·::_) r1
theorem GG(bs:List Bool)(f:Nat->Bool)(h:∀i,i < bs.length->f i=bs.getD i true):(Py bs.length).all f=bs.all id:=by
 rw [Rl,Qe,Qe];constructor
 ·intro z b hb;obtain⟨i,hi,e⟩:=T6 hb;have:=z i (QS.mpr hi);rw [h i hi,Qk,OS hi] at this;rw [<-e];exact this
 ·intro z i hi;have hi:=QS.mp hi;rw [h i hi,Qk,OS hi];exact z _ (PB hi)
theorem GH(bs:List Bool)(f:Nat->Bool)(h:∀i,i < bs.length->f i=bs.getD i true):(Py bs.length).any f=bs.any id:=by
 rw [Rl,PX,PX];constructor
 ·rintro⟨i,hi,z⟩;have hi:=QS.mp hi;rw [h i hi,Qk,OS hi] at z;exact⟨_,PB hi,z⟩
 ·rintro⟨b,hb,z⟩;obtain⟨i,hi,e⟩:=T6 hb;refine⟨i,QS.mpr hi,?_⟩;rw [h i hi,Qk,OS hi];show bs[i]=true;rw [e];exact z
theorem wj{bs:List Bool}{i:Nat}{v:VJ}(h:(bs.map QI).toArray[i]?=some v):v= .bool (bs.getD i true):=by
 have h':(bs.map QI)[i]?=some v:=by simpa using h
 rw [OD] at h';cases e:bs[i]? with
 | none=>rw [e] at h';cases h'
 | some b=>
  rw [e] at h';rw [Qk,e];exact(Pk h').symm
theorem wk{prog:VW}{w:VZ}{A:V1}{E:VJ->VN->Prop}{s:VN}{l:VM}{items:Array VJ}{Q:VJ->VN->Prop}(hl:s.heap.IsList l items)
 (h:∀s₂:VN,s₂={s with heap:=s.heap.push {cls:= .type "list_iterator",data:= .fields #[.ref l,.int 0 0]}}->
  (s₂.heap.IsListIter s.heap.objs.size l 0/\s₂.heap.IsList l items)->l≠s.heap.objs.size->Q (.ref s.heap.objs.size) s₂):VQ (VS prog w) A (pyIter (.ref l)) Q E s:=by
 have hlt:l < s.heap.objs.size:=by obtain⟨_,e,_⟩:=hl;exact OB e
 exact Xq hl (h _ rfl ⟨⟨_,OP _ rfl,rfl,rfl⟩,hl.push _⟩ (OX hlt))
theorem n4(hc:X.calm=true):cO X (.builtin "all") (λxs H Q=>∃(a:VM)(bs:List Bool),xs=[.ref a]/\bf X.K H a (bs.map V.bl)/\Q (.bl (bs.all id)) H):=by
 intro Xz s σ H xs us Q I r h;obtain⟨a,bs,rfl,hl,q⟩:=h;obtain⟨u,rfl,rx⟩:=dj r;cases rx;obtain⟨its,rv,p,hz⟩:=I.list hl;have hi:=wg rv;subst hi;refine call_all_walk (wk p.isList λs₂ e st hlI=>?_);subst e;refine⟨_,_,_,_,_,_,λi=>bs.getD i true,rfl,UU (A:=X.A.in1) (I.ok.hd hc) _ a hlI _,st,λi v s' Q' E' hP hq=>by rw [wj hP];exact V7 hq,λh' tk hk=>?_⟩;have e:=GG bs (λi=>bs.getD i true) λ_ _=>rfl;have e2:(O8 QI bs).toArray.size=bs.length:=VH
 rw [e2,e];exact⟨.bl (bs.all id),H,I.kept (old_kept hk),rfl,q⟩
theorem rJ(hc:X.calm=true):cO X (.builtin "any") (λxs H Q=>∃(a:VM)(bs:List Bool),xs=[.ref a]/\bf X.K H a (bs.map V.bl)/\Q (.bl (bs.any id)) H):=by
 intro Xz s σ H xs us Q I r h;obtain⟨a,bs,rfl,hl,q⟩:=h;obtain⟨u,rfl,rx⟩:=dj r;cases rx;obtain⟨its,rv,p,hz⟩:=I.list hl;have hi:=wg rv;subst hi;refine call_any_walk (wk p.isList λs₂ e st hlI=>?_);subst e;refine⟨_,_,_,_,_,_,λi=>bs.getD i true,rfl,UU (A:=X.A.in1) (I.ok.hd hc) _ a hlI _,st,λi v s' Q' E' hP hq=>by rw [wj hP];exact V7 hq,λh' tk hk=>?_⟩;have e:=GH bs (λi=>bs.getD i true) λ_ _=>rfl;have e2:(O8 QI bs).toArray.size=bs.length:=VH
 rw [e2,e];exact⟨.bl (bs.any id),H,I.kept (old_kept hk),rfl,q⟩
end
open PySem PySem.Spec PyProof.Rows PySem.W PySem.Calls PySem.Builtin.ObjectAttr PySem.Builtin PySem.Builtin.Getset_descriptor
section
variable {prog:VW} {w:VZ} {A:V1} {E:VJ->VN->Prop} {s:VN} {K:Og} {x C:VM}
theorem cB.type{M:Model}{h:VY}(p:cB x (.ref C) h):Looks M h (typeOf (.ref x)) (.ref C):=by
 obtain⟨o,h1,h2⟩:=p;exact h2▸(Looks.ld h1).andThen .now
theorem GI{tp:VJ}{R:Result->VN->Prop}(X:K.In s.heap)(p:cB x (.ref C) s.heap)(hm:mroIn K C (.type "object")=some true)(hq:R (.ok (.ret (.ref C))) s):
 WB (VS prog w) A (.call (.builtin "getset_descriptor.__get__") ⟨[.builtin "object.__class__",.ref x,tp],[]⟩) R s:=by
 obtain⟨hh,gg,dr,tt,os⟩:=s;have LT:=cB.type (M:=VS prog w) p;have LM:=looks_mroIn (M:=VS prog w) X hm;refine W9 KF.slot_gs.plain KF.entry_gs (KF.slot_gs.check _ _ _ _ _ _ _ _ KF.type_class (KF.args_gs _ _ _) ?_);unfold Builtin.«getset_descriptor.__get__» descrGet;rw [dga_obj];refine VL (VO ?_);unfold descrGetter descrCheckInstance descrNameAndClass isInstance;simp only [KF.owner_class]
 repeat lk
 refine⟨Uj _ Ce,Wv KF.entry_class ?_⟩;unfold Builtin.«object.__class__» shownTypeOf;(repeat lk);exact hq
structure gI (K:Og) (C:VM):Prop where
 ga:findIn K (.ref C) "__getattribute__"=some (some (.builtin "BaseException.__getattribute__"))
 hk:findIn K (.ref C) "__getattr__"=some none
 cl:findIn K (.ref C) "__class__"=some (some (.builtin "object.__class__"))
 gt:specialIn K (.builtin "object.__class__") "__get__"=some (some (.builtin "getset_descriptor.__get__"))
 tk:takesIn K (.builtin "object.__class__")=some true
 ob:mroIn K C (.type "object")=some true
 be:mroIn K C (.type "BaseException")=some true
 cd:(clsIn K C).isSome=true
theorem GJ{nameV:VJ}{Q:Unit->VN->Prop}(Z:gI K C)(X:K.In s.heap)(p:cB x (.ref C) s.heap)(hq:Q () s):
 VQ (VS prog w) A (Xv "BaseException.__getattribute__" ⟨[.ref x,nameV],[]⟩) Q E s:=by
 have hk:builtinKind "BaseException.__getattribute__"=some .slot:=Ce
 have hsp:splitId "BaseException.__getattribute__"=some ("BaseException","__getattribute__"):=Ce
 have ha:=F.args_bexc_ga (.ref x) nameV;have LI:Looks (VS prog w) s.heap (isInstance (.ref x) (.type "BaseException")) true:=(cB.type p).andThen (looks_mroIn X Z.be);simp only [Xv,hk,hsp];refine VL (LI.at ?_)
 repeat (first | wp_step)
 exact hq
theorem GK{tk:Tok}{Q:Fin->VN->Prop}(Z:gI K C)(X:K.In s.heap)(p:cB x (.ref C) s.heap)(hq:Q (.done (.ret (.ref C))) s):
 VQ (VS prog w) A (Builtin.«object.__getattribute__» ⟨[.ref x,.str "__class__" tk],[]⟩) Q E s:=by
 obtain⟨hh,gg,dr,tt,os⟩:=s;have L0:=cB.type (M:=VS prog w) p;have L1:=looks_findIn (M:=VS prog w) X Z.cl;have L2:=looks_specialIn (M:=VS prog w) X Z.gt;have L3:=looks_takesIn (M:=VS prog w) X Z.tk;have LF:Looks (VS prog w) hh (PySem.Builtin.ObjectAttr.find (.ref x) (.ref C) "__class__") (.bind (.builtin "getset_descriptor.__get__") (.builtin "object.__class__")):=
  L1.andThen (L2.andThen ((show Looks (VS prog w) hh (dataDescriptor? (some (.builtin "object.__class__")) (some (.builtin "getset_descriptor.__get__"))) (some (.builtin "getset_descriptor.__get__",.builtin "object.__class__")) from L3.andThen .now).andThen (Looks.tag .now)))
 unfold Builtin.«object.__getattribute__»
 repeat (first | with_reducible refine VL (L0.at ?_) | with_reducible refine VL (LF.at ?_) | wp_step)
 refine GI X p Z.ob ?_
 repeat (first | wp_step)
 exact hq
theorem GL{tk:Tok}{R:Result->VN->Prop}(Z:gI K C)(X:K.In s.heap)(p:cB x (.ref C) s.heap)(hq:R (.ok (.ret (.ref C))) s):
 WB (VS prog w) A (.call (.builtin "BaseException.__getattribute__") ⟨[.ref x,.str "__class__" tk],[]⟩) R s:=
 W9 F.excAttr_ValueError.ga.plain F.entry_bexc_ga (GJ Z X p (GK Z X p hq))
theorem GN{tk:Tok}{Q:VJ->VN->Prop}(Z:gI K C)(X:K.In s.heap)(p:cB x (.ref C) s.heap)(hq:Q (.ref C) s):
 VQ (VS prog w) A (getAttrBy (.ref x) (.str "__class__" tk) false) Q E s:=by
 obtain⟨hh,gg,dr,tt,os⟩:=s;have L0:=cB.type (M:=VS prog w) p;have L1:=looks_findIn (M:=VS prog w) X Z.ga;have L2:=looks_findIn (M:=VS prog w) X Z.hk;have f3:=F.excAttr_ValueError.ga.bind (.ref x);have hx0:(false && onTheHeap (Sa "BaseException.__getattribute__"))=false:=rfl;have hx2:(Sa "BaseException.__getattribute__"==Sa "object.__getattribute__")=false:=Ce
 have hx1:(onTheHeap (OU C) && Sa "BaseException.__getattribute__"==Sa "object.__getattribute__")=false:=by rw [hx2];rfl
 repeat (first | with_reducible refine VL (L0.at ?_) | with_reducible refine VL (L1.at ?_) | with_reducible refine L2.at ?_ | wp_step)
 refine GL (s:=⟨hh,gg,dr,tt,os⟩) Z X p ?_
 repeat (first | wp_step)
 exact hq
theorem GO{Q:Option VJ->VN->Prop}(Z:gI K C)(X:K.In s.heap)(p:cB x (.ref C) s.heap)(hq:Q (some (.ref C)) {s with toks:=s.toks+1}):
 VQ (VS prog w) A (getAttr? (.ref x) "__class__") Q E s:=by
 obtain⟨hh,gg,dr,tt,os⟩:=s;unfold getAttr? getAttrBy?
 repeat (any_goals (first | assumption | with_reducible apply GN (s:=⟨hh,gg,dr,tt+1,os⟩) Z X p | wp_step))
theorem wq(Z:gI K C):KitX K (.ref x) (.ref C) (cB x (.ref C)) where
 ty:=λM h _ p=>cB.type p
 it:=λM h X _=>by
  obtain⟨cdD,hcD⟩:=QL.mp Z.cd;unfold clsIn at hcD;split at hcD
  ·rename_i ho;intro A' Q' E' s' k q;unfold isType loadHead;exact VL (wpAny_loadPart (k _ _ (X _ _ ho)) (VO q))
  ·cases hcD
 ne:=λh tp dd its n sl X htp=>by
  obtain⟨cdD,hcD⟩:=QL.mp Z.cd;refine Qo.mpr λq=>?_;have e:=OU.inj (beq_iff_eq.mp q);subst e;unfold clsIn at hcD;split at hcD
  ·rename_i ho;have z:=(X _ _ ho).symm.trans htp;cases z
  ·cases hcD
 ca:=λX p k=>GO Z X p k
end
section
variable {X:Cx}
theorem GP:cO X (.builtin "isinstance") (λxs H Q=>∃(e C:VM)(c:V)(cv:VJ)(b:Bool),xs=[.ref e,c]/\H e=some (.ext (cB e (.ref C)))/\gI X.K C/\(∀u,aH c u->u=cv)/\RO X.K (.ref C) cv=some b/\Q (.bl b) H):=by
 intro Xz s σ H xs us Q I r h;obtain⟨e,C,c,cv,b,rfl,he,Z,hc,hk,q⟩:=h;obtain⟨u,w',rfl,rx,rt⟩:=lL r;cases (show u=OU e from rx);have:=hc _ rt;subst this;have p:cB e (.ref C) s.heap:=(show bI X.prog X.w H s.heap e (.ext (cB e (.ref C))) from I.hok e _ he).1;exact PySem.W.kia_one (wq Z) I.kIn p hk (λz=>nomatch z) λtk=>⟨.bl b,H,I.tok tk,rfl,q⟩
end
section
variable {X:Cx}
abbrev bU(d:VI):Prop:=OA d=true
theorem GQ{cs:List VM}{its:List VJ}(r:aI (cs.map V.ref) its):its=cs.map OU:=by
 induction cs generalizing its with
 | nil=>cases r;rfl
 | cons b bs ih=>
  rw [Ov] at r;cases r with
  | cons r1 r2=>
   rw [Ov,<-ih r2];exact congrArg (·::_) r1
theorem GR:cO X (.builtin "isinstance") (λxs H Q=>∃(e C q:VM)(cs:List VM)(b:Bool),xs=[.ref e,.ref q]/\H e=some (.ext (cB e (.ref C)))/\H q=some (.tup (cs.map V.ref))/\gI X.K C/\Sn X.K (.ref C) (cs.map OU)=some b/\Q (.bl b) H):=by
 intro Xz s σ H xs us Q I r h;obtain⟨e,C,q,cs,b,rfl,he,hq,Z,hk,k⟩:=h;obtain⟨u,w',rfl,rx,rt⟩:=lL r;cases (show u=OU e from rx);cases (show w'=OU q from rt);have p:cB e (.ref C) s.heap:=(show bI X.prog X.w H s.heap e (.ext (cB e (.ref C))) from I.hok e _ he).1;obtain⟨its,rv,⟨⟨oc,od,odt,osl⟩,eo,c,n,dd⟩,_⟩:=I.tuple (br.of hq);have:=GQ rv;subst this;simp only at c dd;subst c dd;exact PySem.W.kia_tup (wq Z) I.kIn p eo hk (λz=>nomatch z) λtk=>⟨.bl b,H,I.tok tk,rfl,k⟩
end
theorem n5:V3 "all"=some (.builtin "all"):=Ce
theorem rK:V3 "any"=some (.builtin "any"):=Ce
theorem GS:V3 "ValueError"=some (.type "ValueError"):=Ce
def GU(p:VM)(h:VY):Prop:=∃(n:Int)(t:Tok)(k:Nat),h.get? p=some {cls:= .type "list",data:= .seq #[.int n t] k}
abbrev GV(p:VM):HO:= .ext (GU p)
abbrev GW:VI:= .dict [(.none,.none)]
def GX(p:VM)(h:VY):Prop:=∃(a b c:Int)(t u v:Tok)(k:Nat),h.get? p=some {cls:= .type "list",data:= .seq #[.int a t,.int b u,.int c v] k}
abbrev gJ(p:VM):HO:= .ext (GX p)
abbrev fS:VI:= .dict [(.none,.bool true)]
abbrev fy(ds:List VI):VI:= .dict [(.none,.list ds)]
abbrev GY(C:VM)(kp ds:List VI):VI:= .dict [(.none,.tuple [.int (C:Int),.list kp,.list ds])]
abbrev wt(kp ds:List VI):VI:= .dict [(.bool true,.tuple [.list kp,.list ds])]
abbrev Ex:=VM->Prop
abbrev lU:Hp:=λ_=>none
mutual
inductive Dt (K:Og) (H:Hp) (O:Ex):V->VI->Prop
 | non:Dt K H O .non .none
 | bl (b:Bool):Dt K H O (.bl b) (.bool b)
 | int (i:Int):Dt K H O (.int i) (.int i)
 | str (x:Str):Dt K H O (.str x) (.str x)
 | tup {a:VM} {xs:List V} {ds:List VI}:Rd H a (.tup xs)->¬O a->aq K H O xs ds->Dt K H O (.ref a) (.tuple ds)
 | tupK {a:VM} {xs:List V} {ds:List VI}:br K lU a xs->aq K H O xs ds->Dt K H O (.ref a) (.tuple ds)
 | lst {a:VM} {xs:List V} {ds:List VI}:Rd H a (.lst xs)->¬O a->aq K H O xs ds->Dt K H O (.ref a) (.list ds)
 | pack {p:VM}:H p=some (GV p)->¬O p->Dt K H O (.ref p) GW
 | purse {p:VM}:H p=some (gJ p)->¬O p->Dt K H O (.ref p) fS
 | dct0 {a:VM}:H a=some (.dK [])->¬O a->Dt K H O (.ref a) (.dict [])
 | obj {a C dx:VM} {fs:List (Str×V)} {kp ds:List VI}:H a=some (.ins C dx fs)->kp=fs.map (λp=>Ol p.1)->¬O a->aq K H O (fs.map (·.2)) ds->Dt K H O (.ref a) (GY C kp ds)
 | dic {a:VM} {ob:Obj} {kv:List (ak×V)} {ks:List Str} {kp ds:List VI}:H a=some (.frz ob (.dK kv))->kv.map (·.1)=ks.map PM->kp=ks.map Ol->¬O a->aq K H O (kv.map (·.2)) ds->Dt K H O (.ref a) (wt kp ds)
 | scr {a:VM} {xs:List V} {ds:List VI}:(Rd H a (.lst xs)/\¬O a)\/bf K lU a xs->aq K H O xs ds->Dt K H O (.ref a) (fy ds)
inductive aq (K:Og) (H:Hp) (O:Ex):List V->List VI->Prop
 | nil:aq K H O [] []
 | cons {v:V} {d:VI} {vs:List V} {ds:List VI}:Dt K H O v d->aq K H O vs ds->aq K H O (v::vs) (d::ds)
end
theorem Rd.same{H H':Hp}{a:VM}{u:HO}(s:∀o,H a=some o->H' a=some o)(h:Rd H a u):Rd H' a u:=by
 rcases h with h | ⟨o,h⟩
 ·exact .inl (s _ h)
 ·exact .inr ⟨o,s _ h⟩
theorem Rd.trk{H:Hp}{a:VM}{u:HO}(h:Rd H a u):H a≠none:=by
 rcases h with h | ⟨o,h⟩ <;> rw [h] <;> exact λz=>nomatch z
section
variable {K:Og}
structure aY (H H':Hp) (O O':Ex):Prop where
 keep:∀b o,H b=some o->¬O b->H' b=some o
 out:∀b,H b≠none->¬O b->¬O' b
mutual
theorem Dt.step{H H':Hp}{O O':Ex}(S:aY H H' O O'):∀{v:V}{d:VI},Dt K H O v d->Dt K H' O' v d
 | _,_,.non=>.non
 | _,_,.bl b=>.bl b
 | _,_,.int i=>.int i
 | _,_,.str x=>.str x
 | _,_,.tup h n r=>.tup (h.same λo e=>S.keep _ o e n) (S.out _ h.trk n) (aq.step S r)
 | _,_,.tupK h r=>.tupK h (aq.step S r)
 | _,_,.lst h n r=>.lst (h.same λo e=>S.keep _ o e n) (S.out _ h.trk n) (aq.step S r)
 | _,_,.pack h n=>.pack (S.keep _ _ h n) (S.out _ (by rw [h];exact λz=>nomatch z) n)
 | _,_,.purse h n=>.purse (S.keep _ _ h n) (S.out _ (by rw [h];exact λz=>nomatch z) n)
 | _,_,.dct0 h n=>.dct0 (S.keep _ _ h n) (S.out _ (by rw [h];exact λz=>nomatch z) n)
 | _,_,.obj h e n r=>.obj (S.keep _ _ h n) e (S.out _ (by rw [h];exact λz=>nomatch z) n) (aq.step S r)
 | _,_,.dic h e1 e2 n r=>.dic (S.keep _ _ h n) e1 e2 (S.out _ (by rw [h];exact λz=>nomatch z) n) (aq.step S r)
 | _,_,.scr h r=>.scr (h.imp (λh=>⟨h.1.same λo e=>S.keep _ o e h.2,S.out _ h.1.trk h.2⟩) id) (aq.step S r)
theorem aq.step{H H':Hp}{O O':Ex}(S:aY H H' O O'):∀{vs:List V}{ds:List VI},aq K H O vs ds->aq K H' O' vs ds
 | _,_,.nil=>.nil
 | _,_,.cons h r=>.cons (Dt.step S h) (aq.step S r)
end
theorem aY.same{H H':Hp}{O:Ex}(s:au H H'):aY H H' O O:=⟨λb o e _=>s b o e,λ_ _ n=>n⟩
theorem Dt.mono{H H':Hp}{O:Ex}{v:V}{d:VI}(s:au H H')(h:Dt K H O v d):Dt K H' O v d:=h.step (.same s)
theorem aq.mono{H H':Hp}{O:Ex}{v:List V}{d:List VI}(s:au H H')(h:aq K H O v d):aq K H' O v d:=h.step (.same s)
theorem aq.length{H:Hp}{O:Ex}:∀{vs:List V}{ds:List VI},aq K H O vs ds->vs.length=ds.length
 | _,_,.nil=>rfl
 | _,_,.cons _ r=>by rw [OG,OG,aq.length r]
theorem aq.get{H:Hp}{O:Ex}:∀{vs:List V}{ds:List VI}{i:Nat}{v:V},aq K H O vs ds->vs[i]?=some v->∃d,ds[i]?=some d/\Dt K H O v d
 | _,_,_,_,.nil,e=>by simp at e
 | _,_,0,_,.cons h _,e=>by simp at e;subst e;exact⟨_,rfl,h⟩
 | _,_,i+1,_,.cons _ r,e=>by simpa using aq.get (i:=i) r (by simpa using e)
theorem aq.getD{H:Hp}{O:Ex}:∀{vs:List V}{ds:List VI}{i:Nat}{d:VI},aq K H O vs ds->ds[i]?=some d->∃v,vs[i]?=some v/\Dt K H O v d
 | _,_,_,_,.nil,e=>by simp at e
 | _,_,0,_,.cons h _,e=>by simp at e;subst e;exact⟨_,rfl,h⟩
 | _,_,i+1,_,.cons _ r,e=>by simpa using aq.getD (i:=i) r (by simpa using e)
theorem aq.append{H:Hp}{O:Ex}:∀{vs ws:List V}{ds es:List VI},aq K H O vs ds->aq K H O ws es->aq K H O (vs++ws) (ds++es)
 | _,_,_,_,.nil,s=>s
 | _,_,_,_,.cons h r,s=>.cons h (aq.append r s)
theorem aq.take{H:Hp}{O:Ex}:∀{vs:List V}{ds:List VI}(n:Nat),aq K H O vs ds->aq K H O (vs.take n) (ds.take n)
 | _,_,0,_=>.nil
 | _,_,_+1,.nil=>.nil
 | _,_,n+1,.cons h r=>.cons h (aq.take n r)
theorem aq.drop{H:Hp}{O:Ex}:∀{vs:List V}{ds:List VI}(n:Nat),aq K H O vs ds->aq K H O (vs.drop n) (ds.drop n)
 | _,_,0,r=>r
 | _,_,_+1,.nil=>.nil
 | _,_,n+1,.cons _ r=>aq.drop n r
theorem aq.reverse{H:Hp}{O:Ex}:∀{vs:List V}{ds:List VI},aq K H O vs ds->aq K H O vs.reverse ds.reverse
 | _,_,.nil=>.nil
 | _,_,.cons h r=>by rw [RW,RW];exact(aq.reverse r).append (.cons h .nil)
theorem aq.ints{H:Hp}{O:Ex}:∀(ns:List Int),aq K H O (ns.map V.int) (ns.map Ou)
 | []=>.nil
 | n::r=>.cons (.int n) (aq.ints r)
inductive Sh (K:Og) (H:Hp) (O:Ex):V->VI->Prop
 | dt {v:V} {d:VI}:Dt K H O v d->Sh K H O v d
 | own {l:VM} {vs:List V} {ds:List VI}:H l=some (.lst vs)->aq K H O vs ds->Sh K H O (.ref l) (.list ds)
theorem Sh.mono{H H':Hp}{O:Ex}{v:V}{d:VI}(s:au H H'):Sh K H O v d->Sh K H' O v d
 | .dt h=>.dt (h.mono s)
 | .own h r=>.own (s _ _ h) (r.mono s)
theorem Dt.all{H:Hp}{O:Ex}{v:V}{d:VI}(h:Dt K H O v d):Dt K H (λ_=>False) v d:=h.step ⟨λ_ _ e _=>e,λ_ _ _ z=>z⟩
theorem aq.all{H:Hp}{O:Ex}{v:List V}{d:List VI}(h:aq K H O v d):aq K H (λ_=>False) v d:=h.step ⟨λ_ _ e _=>e,λ_ _ _ z=>z⟩
theorem Sh.all{H:Hp}{O:Ex}{v:V}{d:VI}:Sh K H O v d->Dt K H (λ_=>False) v d
 | .dt h=>h.all
 | .own h r=>.lst (.inl h) (λz=>z) r.all
theorem br.of0{H:Hp}{a:VM}{xs:List V}(h:br K lU a xs):br K H a xs:=by
 rcases h with(h | ⟨o,h⟩) | h
 ·cases h
 ·cases h
 ·exact .inr h
theorem bf.of0{H:Hp}{a:VM}{xs:List V}(h:bf K lU a xs):bf K H a xs:=by
 rcases h with(h | ⟨o,h⟩) | h
 ·cases h
 ·cases h
 ·exact .inr h
theorem Sh.tup{H:Hp}{O:Ex}{v:V}{ds:List VI}(h:Sh K H O v (.tuple ds)):∃a xs,v= .ref a/\br K H a xs/\aq K H O xs ds:=by
 cases h with
 | dt h=>
  cases h with
  | tup h _ r=>exact⟨_,_,rfl,.inl h,r⟩
  | tupK h r=>exact⟨_,_,rfl,h.of0,r⟩
theorem Sh.lstR{H:Hp}{O:Ex}{v:V}{ds:List VI}(h:Sh K H O v (.list ds)):∃a xs,v= .ref a/\Rd H a (.lst xs)/\aq K H O xs ds:=by
 cases h with
 | dt h=>
  cases h with
  | lst h _ r=>exact⟨_,_,rfl,h,r⟩
 | own h r=>exact⟨_,_,rfl,.inl h,r⟩
theorem Sh.lst{H:Hp}{O:Ex}{v:V}{ds:List VI}(h:Sh K H O v (.list ds)):∃a xs,v= .ref a/\bf K H a xs/\aq K H O xs ds:=by
 obtain⟨a,xs,e,h,r⟩:=h.lstR;exact⟨a,xs,e,.inl h,r⟩
theorem Sh.scr{H:Hp}{O:Ex}{v:V}{ds:List VI}(h:Sh K H O v (fy ds)):∃a xs,v= .ref a/\bf K H a xs/\aq K H O xs ds:=by
 cases h with
 | dt h=>
  cases h with
  | scr h r=>
   rcases h with h | h
   ·exact⟨_,_,rfl,.inl h.1,r⟩
   ·exact⟨_,_,rfl,h.of0,r⟩
theorem Sh.int{H:Hp}{O:Ex}{v:V}{i:Int}(h:Sh K H O v (.int i)):v= .int i:=by cases h with | dt h=>cases h;rfl
theorem Sh.bl{H:Hp}{O:Ex}{v:V}{i:Bool}(h:Sh K H O v (.bool i)):v= .bl i:=by cases h with | dt h=>cases h;rfl
theorem Sh.str{H:Hp}{O:Ex}{v:V}{i:Str}(h:Sh K H O v (.str i)):v= .str i:=by cases h with | dt h=>cases h;rfl
theorem Sh.non{H:Hp}{O:Ex}{v:V}(h:Sh K H O v .none):v= .non:=by cases h with | dt h=>cases h;rfl
def n8:VI->Bool
 | .none | .bool _ | .int _ | .str _=>true
 | _=>false
end
section
variable {X:Cx} {Xz:List (VM×Obj)} {σ:St} {H:Hp} {s:VN}
mutual
theorem gK(I:ae X Xz σ H s){O:Ex}:∀{v:V}{d:VI}{u:VJ},Dt X.K H O v d->d.canLay0=true->aH v u->∃as,Reads s.heap u d as
 | _,_,_,.non,_,r=>by cases r;exact⟨_,Reads.none⟩
 | _,_,_,.bl b,_,r=>by cases r;exact⟨_,Reads.bool b⟩
 | _,_,_,.int i,_,r=>by obtain⟨t,rfl⟩:=r;exact⟨_,Reads.int i t⟩
 | _,_,_,.str x,_,r=>by obtain⟨t,rfl⟩:=r;exact⟨_,Reads.str x t⟩
 | _,_,_,.tup h _ hs,c,r=>by
  cases r;obtain⟨its,rv,⟨o,e,c',n,dd⟩,_⟩:=I.tuple (.inl h);obtain⟨as,q⟩:=n9 I hs (by simpa [Ph] using c) rv;exact⟨as,reads_tuple_at e c' dd (by simpa using q)⟩
 | _,_,_,.tupK h hs,c,r=>by
  cases r;obtain⟨its,rv,⟨o,e,c',n,dd⟩,_⟩:=I.tuple h.of0;obtain⟨as,q⟩:=n9 I hs (by simpa [Ph] using c) rv;exact⟨as,reads_tuple_at e c' dd (by simpa using q)⟩
 | _,_,_,.lst h _ hs,c,r=>by
  cases r;obtain⟨its,rv,⟨o,n,e,c',_,dd⟩,_⟩:=I.list (.inl h);obtain⟨as,q⟩:=n9 I hs (by simpa [Ph] using c) rv;exact⟨_,reads_list_at e c' dd (by simpa using q)⟩
 | _,_,_,.pack _ _,c,_=>by simp [Ph] at c
 | _,_,_,.purse _ _,c,_=>by simp [Ph] at c
 | _,_,_,.dct0 _ _,c,_=>by simp [Ph] at c
 | _,_,_,.obj _ _ _ _,c,_=>by simp [Ph] at c
 | _,_,_,.dic _ _ _ _ _,c,_=>by simp [Ph] at c
 | _,_,_,.scr _ _,c,_=>by simp [Ph] at c
theorem n9(I:ae X Xz σ H s){O:Ex}:∀{vs:List V}{ds:List VI}{us:List VJ},aq X.K H O vs ds->Pj ds=true->aI vs us->∃as,ReadsAll s.heap us ds as
 | _,_,_,.nil,_,r=>by cases r;exact⟨_,ReadsAll.nil⟩
 | _,_,_,.cons h hs,c,r=>by
  rw [Pj,OI] at c;cases r with
  | cons r1 r2=>
   obtain⟨as,q⟩:=gK I h c.1 r1;obtain⟨bs,p⟩:=n9 I hs c.2 r2;exact⟨_,ReadsAll.cons q p⟩
end
end
inductive Sl where
 | v (d:VI)
 | o (ds:List VI)
 | k (kd:List (ak×VI))
 | i (l C:VM) (fd:List (Str×VI))
 | r (l C g u:VM) (fd:List (Str×VI)) (gd ud:List (ak×VI))
 | b (ds:List VI)
 | f (kd:List (ak×VI))
abbrev Dl:=List (Option Sl)
inductive bu (K:Og) (H:Hp) (O:Ex):List (ak×V)->List (ak×VI)->Prop
 | nil:bu K H O [] []
 | cons {k:ak} {v:V} {d:VI} {r:List (ak×V)} {s:List (ak×VI)}:Dt K H O v d->bu K H O r s->bu K H O ((k,v)::r) ((k,d)::s)
theorem bu.step{K:Og}{H H':Hp}{O O':Ex}(S:aY H H' O O'){r:List (ak×V)}{s:List (ak×VI)}(h:bu K H O r s):bu K H' O' r s:=by
 induction h with
 | nil=>exact .nil
 | cons a _ ih=>exact .cons (a.step S) ih
theorem bu.mono{K:Og}{H H':Hp}{O:Ex}(S:au H H'){r:List (ak×V)}{s:List (ak×VI)}(h:bu K H O r s):bu K H' O r s:=h.step (.same S)
def rL(K:Og)(H:Hp)(O:Ex)(fs:List (Str×V))(fd:List (Str×VI)):Prop:=fs.map (·.1)=fd.map (·.1)/\aq K H O (fs.map (·.2)) (fd.map (·.2))
def Sl.own:Sl->Prop
 | .v _=>False
 | .b _=>False
 | .f _=>False
 | _=>True
abbrev GZ:Str:=Oh "gone"
abbrev G0:Str:=Oh "used"
def wu(K:Og)(H:Hp)(O0 O:Ex)(l C g u:VM)(fd:List (Str×VI))(gd ud:List (ak×VI)):Prop:=∃dx fs og ou gv uv,H l=some (.ins C dx (fs++[(GZ,.ref g),(G0,.ref u)]))/\rL K H O fs fd/\g≠u/\
 (O g/\¬O0 g/\H g=some (.frz og (.dK gv))/\bu K H O gv gd)/\(O u/\¬O0 u/\H u=some (.frz ou (.dK uv))/\bu K H O uv ud)
def iB(K:Og)(H:Hp)(O0 O:Ex)(x:Option V):Option Sl->Prop
 | none=>True
 | some (.v d)=>∃v,x=some v/\Dt K H O v d
 | some (.o ds)=>∃l vs,x=some (.ref l)/\O l/\¬O0 l/\H l=some (.lst vs)/\aq K H O vs ds
 | some (.k kd)=>∃l kv,x=some (.ref l)/\O l/\¬O0 l/\H l=some (.dK kv)/\bu K H O kv kd
 | some (.i l C fd)=>∃dx fs,x=some (.ref l)/\O l/\¬O0 l/\H l=some (.ins C dx fs)/\rL K H O fs fd
 | some (.r l C g u fd gd ud)=>x=some (.ref l)/\O l/\¬O0 l/\wu K H O0 O l C g u fd gd ud
 | some (.b ds)=>∃l vs,x=some (.ref l)/\O0 l/\H l=some (.lst vs)/\aq K H O vs ds
 | some (.f kd)=>∃l o kv,x=some (.ref l)/\¬O l/\H l=some (.frz o (.dK kv))/\bu K H O kv kd
structure Wd (K:Og) (H0:Hp) (O0:Ex) (H:Hp) (O:Ex) (σ:St) (δ:Dl):Prop where
 same:au H0 H
 sub:∀l,O0 l->O l
 new:∀l,O l->O0 l\/H0 l=none
 trk:∀l,O l->H l≠none
 len:σ.length=δ.length
 sl:∀(i:Nat) y,δ[i]?=some y->iB K H O0 O ((σ[i]?).join) y
 dis:∀(i j:Nat) y z l,δ[i]?=some (some y)->y.own->δ[j]?=some (some z)->z.own->σ[i]?=some (some (.ref l))->σ[j]?=some (some (.ref l))->i=j
section
variable {K:Og} {H0 H H':Hp} {O0 O:Ex} {σ:St} {δ:Dl}
theorem iB.mono{x:Option V}{y:Option Sl}(s:au H H')(h:iB K H O0 O x y):iB K H' O0 O x y:=by
 cases y with
 | none=>exact P1
 | some y=>
  cases y with
  | v d=>
   obtain⟨v,e,r⟩:=h;exact⟨v,e,r.mono s⟩
  | o ds=>
   obtain⟨l,vs,e,a,b,c,r⟩:=h;exact⟨l,vs,e,a,b,s _ _ c,r.mono s⟩
  | k ds=>
   obtain⟨l,vs,e,a,b,c,r⟩:=h;exact⟨l,vs,e,a,b,s _ _ c,r.mono s⟩
  | i l C ds=>
   obtain⟨dx,vs,e,a,b,c,r1,r2⟩:=h;exact⟨dx,vs,e,a,b,s _ _ c,r1,r2.mono s⟩
  | r l C g u fd gd ud=>
   obtain⟨e,a,b,dx,fs,og,ou,gv,uv,c,⟨r1,r2⟩,ne,⟨g1,g2,g3,g4⟩,u1,u2,u3,u4⟩:=h;exact⟨e,a,b,dx,fs,og,ou,gv,uv,s _ _ c,⟨r1,r2.mono s⟩,ne,⟨g1,g2,s _ _ g3,g4.mono s⟩,u1,u2,s _ _ u3,u4.mono s⟩
  | b ds=>
   obtain⟨l,vs,e,a,c,r⟩:=h;exact⟨l,vs,e,a,s _ _ c,r.mono s⟩
  | f kd=>
   obtain⟨l,o,kv,e,a,c,r⟩:=h;exact⟨l,o,kv,e,a,s _ _ c,r.mono s⟩
theorem iB.go{O':Ex}{x:Option V}{y:Option Sl}(h:iB K H O0 O x y)(S:aY H H' O O')(kp:∀l o,y.any (λz=>match z with | .v _=>false | .b _=>false | .f _=>false | _=>true)=true->x=some (.ref l)->O l->¬O0 l->H l=some o->O' l/\H' l=some o)
 (kp2:∀a o u,O a->¬O0 a->H a=some (.frz o u)->O' a/\H' a=some (.frz o u))(kp3:∀a o,O0 a->H a=some o->H' a=some o):iB K H' O0 O' x y:=by
 cases y with
 | none=>exact P1
 | some y=>
  cases y with
  | v d=>
   obtain⟨v,e,r⟩:=h;exact⟨v,e,r.step S⟩
  | o ds=>
   obtain⟨l,vs,e,a,b,c,r⟩:=h;exact⟨l,vs,e,(kp l _ rfl e a b c).1,b,(kp l _ rfl e a b c).2,r.step S⟩
  | k ds=>
   obtain⟨l,vs,e,a,b,c,r⟩:=h;exact⟨l,vs,e,(kp l _ rfl e a b c).1,b,(kp l _ rfl e a b c).2,r.step S⟩
  | i l C ds=>
   obtain⟨dx,vs,e,a,b,c,r1,r2⟩:=h;exact⟨dx,vs,e,(kp l _ rfl e a b c).1,b,(kp l _ rfl e a b c).2,r1,r2.step S⟩
  | r l C g u fd gd ud=>
   obtain⟨e,a,b,dx,fs,og,ou,gv,uv,c,⟨r1,r2⟩,ne,⟨g1,g2,g3,g4⟩,u1,u2,u3,u4⟩:=h;exact⟨e,(kp l _ rfl e a b c).1,b,dx,fs,og,ou,gv,uv,(kp l _ rfl e a b c).2,⟨r1,r2.step S⟩,ne,⟨(kp2 _ _ _ g1 g2 g3).1,g2,(kp2 _ _ _ g1 g2 g3).2,g4.step S⟩,(kp2 _ _ _ u1 u2 u3).1,u2,(kp2 _ _ _ u1 u2 u3).2,u4.step S⟩
  | b ds=>
   obtain⟨l,vs,e,a,c,r⟩:=h;exact⟨l,vs,e,a,kp3 _ _ a c,r.step S⟩
  | f kd=>
   obtain⟨l,o,kv,e,a,c,r⟩:=h;exact⟨l,o,kv,e,S.out _ (by rw [c];exact λz=>nomatch z) a,S.keep _ _ c a,r.step S⟩
theorem Wd.mono(s:au H H')(w:Wd K H0 O0 H O σ δ):Wd K H0 O0 H' O σ δ:=
 ⟨w.same.trans s,w.sub,w.new,λl h z=>(by
  cases e:H l with
  | none=>exact w.trk l h e
  | some o=>rw [s _ _ e] at z;cases z),w.len,λi y e=>(w.sl i y e).mono s,w.dis⟩
theorem i7{i:Nat}{v:V}(h:(σ[i]?).join=some v):σ[i]?=some (some v):=by
 cases q:σ[i]? with
 | none=>rw [q] at h;cases h
 | some o=>rw [q] at h;rw [show o=some v from h]
theorem Wd.val(w:Wd K H0 O0 H O σ δ){i:Nat}{d:VI}(e:δ[i]?=some (some (.v d))):∃v,σ[i]?=some (some v)/\Dt K H O v d:=by
 obtain⟨v,h,r⟩:=w.sl i _ e;exact⟨v,i7 h,r⟩
theorem Wd.own(w:Wd K H0 O0 H O σ δ){i:Nat}{ds:List VI}(e:δ[i]?=some (some (.o ds))):∃l vs,σ[i]?=some (some (.ref l))/\O l/\¬O0 l/\H l=some (.lst vs)/\aq K H O vs ds:=by
 obtain⟨l,vs,h,r⟩:=w.sl i _ e;exact⟨l,vs,i7 h,r⟩
theorem Wd.ownK(w:Wd K H0 O0 H O σ δ){i:Nat}{kd:List (ak×VI)}(e:δ[i]?=some (some (.k kd))):∃l kv,σ[i]?=some (some (.ref l))/\O l/\¬O0 l/\H l=some (.dK kv)/\bu K H O kv kd:=by
 obtain⟨l,vs,h,r⟩:=w.sl i _ e;exact⟨l,vs,i7 h,r⟩
theorem Wd.ownI(w:Wd K H0 O0 H O σ δ){i:Nat}{l C:VM}{fd:List (Str×VI)}(e:δ[i]?=some (some (.i l C fd))):∃dx fs,σ[i]?=some (some (.ref l))/\O l/\¬O0 l/\H l=some (.ins C dx fs)/\rL K H O fs fd:=by
 obtain⟨dx,vs,h,r⟩:=w.sl i _ e;exact⟨dx,vs,i7 h,r⟩
theorem Wd.adr(w:Wd K H0 O0 H O σ δ){i:Nat}{y:Sl}(e:δ[i]?=some (some y))(h:y.own):∃l,σ[i]?=some (some (.ref l))/\O l/\¬O0 l:=by
 match y,h,e with
 | .o ds,_,e=>obtain⟨l,vs,a,b,c,_⟩:=w.own e;exact⟨l,a,b,c⟩
 | .k ds,_,e=>obtain⟨l,vs,a,b,c,_⟩:=w.ownK e;exact⟨l,a,b,c⟩
 | .i l C ds,_,e=>obtain⟨dx,vs,a,b,c,_⟩:=w.ownI e;exact⟨l,a,b,c⟩
 | .r l C g u fd gd ud,_,e=>obtain⟨a,b,c,_⟩:=w.sl i _ e;exact⟨l,i7 a,b,c⟩
theorem Wd.nofrz(w:Wd K H0 O0 H O σ δ){i:Nat}{y:Sl}{l:VM}(e:δ[i]?=some (some y))(h:y.own)(hl:σ[i]?=some (some (.ref l)))(o:Obj)(u:HO):H l≠some (.frz o u):=by
 match y,h,e with
 | .o ds,_,e=>obtain⟨l',vs,a,b,c,d,_⟩:=w.own e;rw [hl] at a;cases a;rw [d];exact λz=>nomatch z
 | .k ds,_,e=>obtain⟨l',vs,a,b,c,d,_⟩:=w.ownK e;rw [hl] at a;cases a;rw [d];exact λz=>nomatch z
 | .i l C ds,_,e=>obtain⟨dx,vs,a,b,c,d,_⟩:=w.ownI e;rw [hl] at a;cases a;rw [d];exact λz=>nomatch z
 | .r l C g u fd gd ud,_,e=>obtain⟨a,b,c,_,_,_,_,_,_,d,_⟩:=w.sl i _ e;have a:=i7 a;rw [hl] at a;cases a;rw [d];exact λz=>nomatch z
theorem Wd.set(w:Wd K H0 O0 H O σ δ){i:Nat}{v:V}{d:VI}(h:Dt K H O v d):Wd K H0 O0 H O (σ.set i (some v)) (δ.set i (some (.v d))):=by
 refine⟨w.same,w.sub,w.new,w.trk,by simp [w.len],λj y e=>?_,λj k y z l e1 y1 e2 z2 e3 e4=>?_⟩
 ·by_cases hj:j=i
  ·subst hj;have hl:j < δ.length:=by
    have:=(Oy.mp e).1;simpa using this
   rw [Pb hl] at e;cases e;rw [Pb (by rw [w.len];exact hl)];exact⟨v,rfl,h⟩
  ·rw [OY (Ne.symm hj)] at e⊢;exact w.sl j y e
 ·have ne:∀{j:Nat}{y:Sl},(δ.set i (some (.v d)))[j]?=some (some y)->y.own->j≠i:=λ{j y} e ho z=>by
   subst z;by_cases hl:j < δ.length
   ·rw [Pb hl] at e;cases e;exact ho
   ·rw [QG (by simpa using hl)] at e;cases e
  have n1:=ne e1 y1;have n2:=ne e2 z2;rw [OY (Ne.symm n1)] at e1 e3;rw [OY (Ne.symm n2)] at e2 e4;exact w.dis j k y z l e1 y1 e2 z2 e3 e4
theorem Wd.setY(w:Wd K H0 O0 H O σ δ){i:Nat}{p:VM}{ho:HO}{y0:Sl}(hy:y0.own)(hp:H p=none)(h:∀O',aY H (av H p ho) O O'->O' p->¬O0 p->iB K (av H p ho) O0 O' (some (.ref p)) (some y0)):
 Wd K H0 O0 (av H p ho) (λl=>O l\/l=p) (σ.set i (some (.ref p))) (δ.set i (some y0)):=by
 have sm:au H (av H p ho):=au.new hp;have np:∀l,O l->l≠p:=λl hl z=>w.trk l hl (by rw [z];exact hp);have p0:H0 p=none:=by
  cases e:H0 p with
  | none=>rfl
  | some o=>rw [w.same _ _ e] at hp;cases hp
 have S:aY H (av H p ho) O (λl=>O l\/l=p):=⟨λb o e _=>sm b o e,λb hb hn z=>z.elim hn λq=>hb (by rw [q];exact hp)⟩;have n0:¬O0 p:=λz=>np p (w.sub p z) rfl;refine⟨w.same.trans sm,λl z=>.inl (w.sub l z),λl z=>z.elim (w.new l) λq=>.inr (by rw [q];exact p0),λl z=>?_,by simp [w.len],λj y e=>?_,λj k y z l e1 y1 e2 z2 e3 e4=>?_⟩
 ·by_cases q:l=p
  ·rw [q,bb];exact λz=>nomatch z
  ·rw [aE q];exact w.trk l (z.resolve_right q)
 ·by_cases hj:j=i
  ·subst hj;have hl:j < δ.length:=by
    have:=(Oy.mp e).1;simpa using this
   rw [Pb hl] at e;cases e;rw [Pb (by rw [w.len];exact hl)];exact h _ S (.inr rfl) n0
  ·rw [OY (Ne.symm hj)] at e⊢;exact(w.sl j y e).go S (λl o _ _ a _ c=>⟨.inl a,sm _ _ c⟩) (λa o u a1 _ a3=>⟨.inl a1,sm _ _ a3⟩) λa o _ a3=>sm _ _ a3
 ·by_cases hj:j=i
  ·by_cases hk:k=i
   ·rw [hj,hk]
   ·exfalso;rw [hj] at e1 e3;have hl:i < σ.length:=by
     have:=(Oy.mp e3).1;simpa using this
    rw [Pb hl] at e3;cases e3;rw [OY (Ne.symm hk)] at e2 e4;obtain⟨l',x1,x2,_⟩:=w.adr e2 z2;rw [e4] at x1;cases x1;exact np _ x2 rfl
  ·by_cases hk:k=i
   ·exfalso;rw [hk] at e2 e4;have hl:i < σ.length:=by
     have:=(Oy.mp e4).1;simpa using this
    rw [Pb hl] at e4;cases e4;rw [OY (Ne.symm hj)] at e1 e3;obtain⟨l',x1,x2,_⟩:=w.adr e1 y1;rw [e3] at x1;cases x1;exact np _ x2 rfl
   ·rw [OY (Ne.symm hj)] at e1 e3;rw [OY (Ne.symm hk)] at e2 e4;exact w.dis j k _ _ l e1 y1 e2 z2 e3 e4
theorem Wd.setO(w:Wd K H0 O0 H O σ δ){i:Nat}{p:VM}{vs:List V}{ds:List VI}(hp:H p=none)(h:aq K H O vs ds):
 Wd K H0 O0 (av H p (.lst vs)) (λl=>O l\/l=p) (σ.set i (some (.ref p))) (δ.set i (some (.o ds))):=
 w.setY trivial hp λO' S a b=>⟨p,vs,rfl,a,b,bb,h.step S⟩
theorem Wd.setK(w:Wd K H0 O0 H O σ δ){i:Nat}{p:VM}{kv:List (ak×V)}{kd:List (ak×VI)}(hp:H p=none)(h:bu K H O kv kd):
 Wd K H0 O0 (av H p (.dK kv)) (λl=>O l\/l=p) (σ.set i (some (.ref p))) (δ.set i (some (.k kd))):=
 w.setY trivial hp λO' S a b=>⟨p,kv,rfl,a,b,bb,h.step S⟩
theorem Wd.putY(w:Wd K H0 O0 H O σ δ){i:Nat}{l:VM}{ho:HO}{y0 y1:Sl}(h0:y0.own)(h1:y1.own)(e:δ[i]?=some (some y0))(hl:σ[i]?=some (some (.ref l)))(h:aY H (av H l ho) O O->O l->¬O0 l->iB K (av H l ho) O0 O (some (.ref l)) (some y1)):
 Wd K H0 O0 (av H l ho) O σ (δ.set i (some y1)):=by
 obtain⟨l',x1,x2,x3⟩:=w.adr e h0;rw [hl] at x1;cases x1;have l0:H0 l=none:=(w.new l x2).resolve_left x3;have S:aY H (av H l ho) O O:=⟨λb o q n=>by rw [aE (λz=>n (by rw [z];exact x2))];exact q,λ_ _ n=>n⟩;have li:i < δ.length:=(Oy.mp e).1;refine⟨λb o q=>by rw [aE (λz=>by rw [z,l0] at q;cases q)];exact w.same b o q,w.sub,w.new,λb z=>?_,by simp [w.len],λj y q=>?_,λj k y z b e1 y1' e2 z2 e3 e4=>?_⟩
 ·by_cases q:b=l
  ·rw [q,bb];exact λz=>nomatch z
  ·rw [aE q];exact w.trk b z
 ·by_cases hj:j=i
  ·subst hj;rw [Pb li] at q;cases q;rw [hl];exact h S x2 x3
  ·rw [OY (Ne.symm hj)] at q;refine(w.sl j y q).go S (λb o ho' e' a1 a2 a3=>⟨a1,?_⟩) (λb o u a1 a2 a3=>⟨a1,by rw [aE (λz=>w.nofrz e h0 hl o u (by rw [<-z];exact a3))];exact a3⟩) λb o a1 a3=>by rw [aE (λz=>x3 (by rw [<-z];exact a1))];exact a3
   have nb:b≠l:=λz=>by
    subst z
    match y,ho',q with
    | some z,ho',q=>exact hj (w.dis j i z y0 b q (by cases z <;> first | trivial | cases ho') e h0 (i7 e') hl)
   rw [aE nb];exact a3
 ·have gL:∀{j:Nat}{y:Sl},(δ.set i (some y1))[j]?=some (some y)->y.own->∃y',δ[j]?=some (some y')/\y'.own:=λ{j y} q hq=>by
   by_cases hj:j=i
   ·subst hj;exact⟨_,e,h0⟩
   ·rw [OY (Ne.symm hj)] at q;exact⟨_,q,hq⟩
  obtain⟨_,q1,r1⟩:=gL e1 y1';obtain⟨_,q2,r2⟩:=gL e2 z2;exact w.dis j k _ _ b q1 r1 q2 r2 e3 e4
theorem Wd.putO(w:Wd K H0 O0 H O σ δ){i:Nat}{l:VM}{vs us:List V}{ds es:List VI}(e:δ[i]?=some (some (.o ds)))(hl:σ[i]?=some (some (.ref l)))(h:aq K H O us es):
 Wd K H0 O0 (av H l (.lst us)) O σ (δ.set i (some (.o es))):=
 w.putY (y0:= .o ds) (y1:= .o es) trivial trivial e hl λS a b=>⟨l,us,rfl,a,b,bb,h.step S⟩
theorem Wd.putK(w:Wd K H0 O0 H O σ δ){i:Nat}{l:VM}{kv:List (ak×V)}{kd kd':List (ak×VI)}(e:δ[i]?=some (some (.k kd)))(hl:σ[i]?=some (some (.ref l)))(h:bu K H O kv kd'):
 Wd K H0 O0 (av H l (.dK kv)) O σ (δ.set i (some (.k kd'))):=
 w.putY (y0:= .k kd) (y1:= .k kd') trivial trivial e hl λS a b=>⟨l,kv,rfl,a,b,bb,h.step S⟩
end
abbrev DT:=Dl->(VI->Prop)->Prop
abbrev DA:=Dl->(List VI->Prop)->Prop
abbrev DB:=Dl->(Bool->Prop)->Prop
structure ku where
 nx:Dl->Prop
 rt:VI->Prop
 bk:Dl->Prop:=λ_=>False
 ct:Dl->Prop:=λ_=>False
abbrev DS:=ku->Dl->Prop
section
variable (K:Og) (H0:Hp) (O0:Ex)
inductive up (t:DT) (σ:St) (H:Hp) (R:VK):Prop
 | mk (O:Ex) (δ:Dl) (Qd:VI->Prop):Wd K H0 O0 H O σ δ->t δ Qd->(∀d v H',Qd d->au H H'->Dt K H' O v d->R v H')->up t σ H R
inductive jE (t:DT) (σ:St) (H:Hp) (R:VK):Prop
 | mk (O:Ex) (δ:Dl) (Qd:VI->Prop):Wd K H0 O0 H O σ δ->t δ Qd->(∀d v H',Qd d->au H H'->Sh K H' O v d->R v H')->jE t σ H R
inductive d8 (t:DA) (σ:St) (H:Hp) (R:List V->Hp->Prop):Prop
 | mk (O:Ex) (δ:Dl) (Qd:List VI->Prop):Wd K H0 O0 H O σ δ->t δ Qd->(∀ds vs H',Qd ds->au H H'->aq K H' O vs ds->R vs H')->d8 t σ H R
inductive bP (t:DB) (σ:St) (H:Hp) (R:Bool->Hp->Prop):Prop
 | mk (O:Ex) (δ:Dl) (Qd:Bool->Prop):Wd K H0 O0 H O σ δ->t δ Qd->(∀b H',Qd b->au H H'->R b H')->bP t σ H R
inductive bw (t:DS) (D:ix) (σ:St) (H:Hp):Prop
 | mk (O:Ex) (δ:Dl) (E:ku):Wd K H0 O0 H O σ δ->t E δ->(∀O' δ' σ' H',E.nx δ'->Wd K H0 O0 H' O' σ' δ'->aY H H' O O'->D.nx σ' H')->(∀d v H',E.rt d->au H0 H'->Dt K H' O0 v d->D.rt v H')->
 (∀O' δ' σ' H',E.bk δ'->Wd K H0 O0 H' O' σ' δ'->aY H H' O O'->D.bk σ' H')->(∀O' δ' σ' H',E.ct δ'->Wd K H0 O0 H' O' σ' δ'->aY H H' O O'->D.ct σ' H')->bw t D σ H
end
theorem PE.imp{X:Cx}{e:VR}{t u:TE}(h:PE X e t)(i:∀σ H Q,u σ H Q->t σ H Q):PE X e u:=λXz s σ H Q I z=>h Xz s σ H Q I (i σ H Q z)
theorem PT.imp{X:Cx}{e:VR}{t u:TT}(h:PT X e t)(i:∀σ H Q,u σ H Q->t σ H Q):PT X e u:=λXz s σ H Q I z=>h Xz s σ H Q I (i σ H Q z)
theorem PW.imp{X:Cx}{e:VR}{t u:TT}(h:PW X e t)(i:∀σ H Q,u σ H Q->t σ H Q):PW X e u:=λwh Xz s σ H Q I z=>h wh Xz s σ H Q I (i σ H Q z)
theorem PA.imp{X:Cx}{e:List VR}{t u:TA}(h:PA X e t)(i:∀σ H Q,u σ H Q->t σ H Q):PA X e u:=λpos Xz s σ H Q I z=>h pos Xz s σ H Q I (i σ H Q z)
theorem PS.imp{X:Cx}{e:V0}{t u:TS}(h:PS X e t)(i:∀D σ H,u D σ H->t D σ H):PS X e u:=λXz s σ H D I z=>h Xz s σ H D I (i D σ H z)
theorem bD.imp{X:Cx}{e:List V0}{t u:TS}(h:bD X e t)(i:∀D σ H,u D σ H->t D σ H):bD X e u:=λXz s σ H D I z=>h Xz s σ H D I (i D σ H z)
section
variable {X:Cx} {H0:Hp} {O0:Ex}
abbrev DE(X:Cx)(H0:Hp)(O0:Ex)(e:VR)(t:DT):Prop:=PE X e (up X.K H0 O0 t)
abbrev DF(X:Cx)(H0:Hp)(O0:Ex)(e:VR)(t:DT):Prop:=PE X e (jE X.K H0 O0 t)
theorem df{e:VR}{t:DT}(h:DE X H0 O0 e t):DF X H0 O0 e t:=h.imp λσ H Q uu70=>by obtain⟨O,δ,Qd,w,q,k⟩:=uu70;exact⟨O,δ,Qd,w,q,λd v H' a b c=>k d v H' a b (.dt c)⟩
def wz(Q:VI->Prop):Option (Option Sl)->Prop
 | some (some (.v d))=>Q d
 | _=>False
def cC(i:Nat):DT:=λδ Q=>wz Q δ[i]?
theorem G1{Q:VI->Prop}{o:Option (Option Sl)}:wz Q o↔∃d,o=some (some (.v d))/\Q d:=by
 constructor
 ·intro h
  match o,h with
  | some (some (.v d)),h=>exact⟨d,rfl,h⟩
 ·rintro⟨d,rfl,h⟩;exact h
theorem G2{i:Nat}{δ:Dl}{Q:VI->Prop}(h:cC i δ Q):∃d,δ[i]?=some (some (.v d))/\Q d:=G1.mp h
def wA(i:Nat):DT:=λδ Q=>∃ds,δ[i]?=some (some (.o ds))/\Q (.list ds)
def dC(d:VI):DT:=λ_ Q=>Q d
theorem dv(i:Nat){x:Str}{pos:Pos}(hN:X.N[i]?=some x:=by rfl)(hv:iw X.env.scope x:=by first | exact S7 rfl | exact Sg (S7 rfl) | exact Sg (Sg rfl))
 (hd:(x==("__debug__":Str))=false:=by decide)(hcd:(x==("__classdict__":Str))=false:=by decide):DE X H0 O0 (.Name x pos) (cC i):=
 (nu hN hv hd hcd).imp λσ H Q uu71=>by
  obtain⟨O,δ,Qd,w,dq,k⟩:=uu71;obtain⟨d,e,q⟩:=G2 dq;obtain⟨v,h,r⟩:=w.val e;exact⟨v,h,k d v H q (au.refl _) r⟩
theorem dw(i:Nat){x:Str}{pos:Pos}(hN:X.N[i]?=some x:=by rfl)(hv:iw X.env.scope x:=by first | exact S7 rfl | exact Sg (S7 rfl) | exact Sg (Sg rfl))
 (hd:(x==("__debug__":Str))=false:=by decide)(hcd:(x==("__classdict__":Str))=false:=by decide):DF X H0 O0 (.Name x pos) (wA i):=
 (nu hN hv hd hcd).imp λσ H Q uu72=>by
  obtain⟨O,δ,Qd,w,⟨ds,e,q⟩,k⟩:=uu72;obtain⟨l,vs,h,_,_,r,rs⟩:=w.own e;exact⟨_,h,k _ _ H q (au.refl _) (.own r rs)⟩
theorem dc{e:VR}{v:V}{d:VI}(h:PE X e (tC v))(r:∀H O,Dt X.K H O v d):DE X H0 O0 e (dC d):=h.imp λσ H Q uu73=>by obtain⟨O,δ,Qd,w,q,k⟩:=uu73;exact k d v H q (au.refl _) (r H O)
theorem af{i j pos}:DE X H0 O0 (.Constant (.int i) j pos) (dC (.int i)):=dc cL λ_ _=>.int i
theorem bH{b j pos}:DE X H0 O0 (.Constant (.bool b) j pos) (dC (.bool b)):=dc uW λ_ _=>.bl b
theorem iC{j pos}:DE X H0 O0 (.Constant .none j pos) (dC .none):=dc uX λ_ _=>.non
theorem aJ{x j pos}:DE X H0 O0 (.Constant (.str x) j pos) (dC (.str x)):=dc EZ λ_ _=>.str x
def jF:DA:=λ_ Q=>Q []
def fT(t:DT)(u:DA):DA:=λδ Q=>t δ λd=>u δ λds=>Q (d::ds)
theorem ag:PA X [] (d8 X.K H0 O0 jF):=dF.imp λσ H Q uu74=>by obtain⟨O,δ,Qd,w,q,k⟩:=uu74;exact k [] [] H q (au.refl _) .nil
theorem aa{e:VR}{es:List VR}{t:DT}{u:DA}(h:DE X H0 O0 e t)(hs:PA X es (d8 X.K H0 O0 u))(he:VP (e::es) X.env=(false,eval e X.env)::VP es X.env:=by rfl):PA X (e::es) (d8 X.K H0 O0 (fT t u)):=
 (bS h hs he).imp λσ H Q uu75=>by obtain⟨O,δ,Qd,w,q,k⟩:=uu75;exact⟨O,δ,_,w,q,λd v H1 q1 s1 r1=>⟨O,δ,_,w.mono s1,q1,λds vs H2 q2 s2 r2=>k (d::ds) (v::vs) H2 q2 (s1.trans s2) (.cons (r1.mono s2) r2)⟩⟩
def wB(t:DA):DT:=λδ Q=>t δ λds=>ds.length<=VT/\Q (.tuple ds)
theorem kA{H:Hp}{O:Ex}{σ:St}{δ:Dl}{H1:Hp}{p:VM}{K:Og}(w:Wd K H0 O0 H O σ δ)(s:au H H1)(hp:H1 p=none):¬O p:=λz=>(w.mono s).trk p z hp
theorem bg{es:List VR}{t:DA}{x1}{pos:Pos}(h:PA X es (d8 X.K H0 O0 t)):DE X H0 O0 (.Tuple es x1 pos) (wB t):=
 (vw h).imp λσ H Q uu76=>by obtain⟨O,δ,Qd,w,q,k⟩:=uu76;exact⟨O,δ,_,w,q,λds vs H1 q1 s1 r1=>⟨by rw [r1.length];exact q1.1,λp hp=>k _ _ _ q1.2 (s1.trans (au.new hp)) (.tup (.inl bb) (kA w s1 hp) (r1.mono (au.new hp)))⟩⟩
end
theorem aY.refl(H:Hp)(O:Ex):aY H H O O:=⟨λ_ _ e _=>e,λ_ _ n=>n⟩
theorem aY.trans{H H1 H2:Hp}{O O1 O2:Ex}(a:aY H H1 O O1)(b:aY H1 H2 O1 O2):aY H H2 O O2:=by
 refine⟨λc o e n=>?_,λc e n=>?_⟩
 ·have h1:=a.keep c o e n;exact b.keep c o h1 (a.out c (by rw [e];exact λz=>nomatch z) n)
 ·cases q:H c with
  | none=>exact absurd q e
  | some o=>exact b.out c (by rw [a.keep c o q n];exact λz=>nomatch z) (a.out c e n)
section
variable {X:Cx} {H0:Hp} {O0:Ex}
def bN(K:Og)(r:R2)(rd:VI->VI->(VI->Prop)->Prop):Prop:=
 ∀(H:Hp)(O:Ex)(x y:V)(dx dy:VI)(Qd:VI->Prop)(R:VK),(∀l,O l->H l≠none)->Sh K H O x dx->Sh K H O y dy->rd dx dy Qd->(∀d v H',Qd d->au H H'->Dt K H' O v d->R v H')->r x y H R
def fU(rd:VI->VI->(VI->Prop)->Prop)(ta tb:DT):DT:=λδ Q=>ta δ λx=>tb δ λy=>rd x y Q
theorem oh{K:Og}{r:R2}{rd:VI->VI->(VI->Prop)->Prop}{ta tb:DT}(hd:bN K r rd):∀σ H Q,up K H0 O0 (fU rd ta tb) σ H Q->jy r (jE K H0 O0 ta) (jE K H0 O0 tb) σ H Q:=
 λσ H Q uu77=>by obtain⟨O,δ,Qd,w,q,k⟩:=uu77;exact⟨O,δ,_,w,q,λx v H1 q1 s1 r1=>⟨O,δ,_,w.mono s1,q1,λy u H2 q2 s2 r2=>hd H2 O v u x y Qd _ (w.mono (s1.trans s2)).trk (r1.mono s2) r2 q2 λd z H3 qd s3 r3=>k d z H3 qd (s1.trans (s2.trans s3)) r3⟩⟩
theorem G3{a b:VR}{ta tb:DT}{op:Operator}{r:R2}{rd:VI->VI->(VI->Prop)->Prop}{pos:Pos}(ho:bq X (Wn op) r)(hd:bN X.K r rd)(ha:DF X H0 O0 a ta)(hb:DF X H0 O0 b tb):DE X H0 O0 (.BinOp a op b pos) (fU rd ta tb):=(eY ho ha hb).imp (oh hd)
theorem b7{a b:VR}{ta tb:DT}{op:CmpOp}{r:R2}{rd:VI->VI->(VI->Prop)->Prop}{pos:Pos}(ho:bq X (V2 op) r)(hd:bN X.K r rd)(ha:DF X H0 O0 a ta)(hb:DF X H0 O0 b tb)(hm:Wg op b=false):DE X H0 O0 (.Compare a [op] [b] pos) (fU rd ta tb):=(Fs ho ha hb hm).imp (oh hd)
def fV(t:DT):DB:=λδ Q=>t δ λd=>∃b,d= .bool b/\Q b
theorem oi{a b:VR}{ta tb:DT}{op:CmpOp}{r:R2}{rd:VI->VI->(VI->Prop)->Prop}{pos:Pos}(ho:bq X (V2 op) r)(hd:bN X.K r rd)(ha:DF X H0 O0 a ta)(hb:DF X H0 O0 b tb)(hm:Wg op b=false):PT X (.Compare a [op] [b] pos) (bP X.K H0 O0 (fV (fU rd ta tb))):=
 (nR ho ha hb hm).imp λσ H Q uu78=>by obtain⟨O,δ,Qd,w,q,k⟩:=uu78;exact oh hd σ H _ ⟨O,δ,_,w,q,λd v H' uu79 s r=>by obtain⟨b,e,qb⟩:=uu79;subst e;cases r;exact⟨b,rfl,k b H' qb s⟩⟩
theorem bQ{e:VR}{t:DT}(h:DE X H0 O0 e t)(he:∀whole,isTrue e X.env whole=(do let v<-whole;standAt e.pos;holding [v] (truthy v)):=by intro _;rfl):PT X e (bP X.K H0 O0 (fV t)):=
 (uY h he).imp λσ H Q uu80=>by obtain⟨O,δ,Qd,w,q,k⟩:=uu80;exact⟨O,δ,_,w,q,λd v H' uu81 s r=>by obtain⟨b,e,qb⟩:=uu81;subst e;cases r;exact⟨b,rfl,k b H' qb s⟩⟩
def wC(t u:DB):DB:=λδ Q=>t δ λc=>if c=true then u δ Q else Q false
def wD(t u:DB):DB:=λδ Q=>t δ λc=>if c=true then Q true else u δ Q
def wF(t:DB):DB:=λδ Q=>t δ λc=>Q (!c)
theorem cw{a:VR}{t:DB}{pos:Pos}(h:PT X a (bP X.K H0 O0 t)):PW X (.BoolOp .And [a] pos) (bP X.K H0 O0 t):=E2 h
theorem dH{a:VR}{t:DB}{pos:Pos}(h:PT X a (bP X.K H0 O0 t)):PW X (.BoolOp .Or [a] pos) (bP X.K H0 O0 t):=uZ h
theorem cj{a b:VR}{rest:List VR}{t u:DB}{pos:Pos}(h:PT X a (bP X.K H0 O0 t))(hb:PW X (.BoolOp .And (b::rest) pos) (bP X.K H0 O0 u)):PW X (.BoolOp .And (a::b::rest) pos) (bP X.K H0 O0 (wC t u)):=
 (E3 h hb).imp λσ H Q uu82=>by obtain⟨O,δ,Qd,w,q,k⟩:=uu82;exact⟨O,δ,_,w,q,λc H1 q1 s1=>by
  cases c with
  | true=>exact⟨O,δ,_,w.mono s1,q1,λb H2 q2 s2=>k b H2 q2 (s1.trans s2)⟩
  | false=>exact k false H1 q1 s1⟩
theorem cS{a b:VR}{rest:List VR}{t u:DB}{pos:Pos}(h:PT X a (bP X.K H0 O0 t))(hb:PW X (.BoolOp .Or (b::rest) pos) (bP X.K H0 O0 u)):PW X (.BoolOp .Or (a::b::rest) pos) (bP X.K H0 O0 (wD t u)):=
 (u5 h hb).imp λσ H Q uu83=>by obtain⟨O,δ,Qd,w,q,k⟩:=uu83;exact⟨O,δ,_,w,q,λc H1 q1 s1=>by
  cases c with
  | false=>exact⟨O,δ,_,w.mono s1,q1,λb H2 q2 s2=>k b H2 q2 (s1.trans s2)⟩
  | true=>exact k true H1 q1 s1⟩
theorem cM{a:VR}{t:DB}{pos:Pos}(h:PT X a (bP X.K H0 O0 t)):PT X (.UnaryOp .Not a pos) (bP X.K H0 O0 (wF t)):=
 (E4 h).imp λσ H Q uu84=>by obtain⟨O,δ,Qd,w,q,k⟩:=uu84;exact⟨O,δ,_,w,q,λc H1 q1 s1=>k (!c) H1 q1 s1⟩
def wG(t u:DT):DT:=λδ Q=>t δ λd=>∃c,d= .bool c/\if c=true then u δ Q else Q (.bool false)
def wH(t u:DT):DT:=λδ Q=>t δ λd=>∃c,d= .bool c/\if c=true then Q (.bool true) else u δ Q
def wI(t:DT):DT:=λδ Q=>t δ λd=>∃c,d= .bool c/\Q (.bool (!c))
theorem cU{op}{a:VR}{t:DT}{pos:Pos}(h:DE X H0 O0 a t):DE X H0 O0 (.BoolOp op [a] pos) t:=u7 h
theorem cx{a b:VR}{rest:List VR}{t u:DT}{pos:Pos}(h:DE X H0 O0 a t)(hb:DE X H0 O0 (.BoolOp .And (b::rest) pos) u):DE X H0 O0 (.BoolOp .And (a::b::rest) pos) (wG t u):=
 (va h hb).imp λσ H Q ⟨O,δ,Qd,w,q,k⟩=>⟨O,δ,_,w,q,λd v H1 uu86 s1 r=>by
  obtain⟨c,e,q1⟩:=uu86;subst e;cases r;refine⟨c,rfl,?_⟩;cases c with
  | true=>exact⟨O,δ,_,w.mono s1,q1,λd v H2 q2 s2 r2=>k d v H2 q2 (s1.trans s2) r2⟩
  | false=>exact k _ _ H1 q1 s1 (.bl false)⟩
theorem G4{a b:VR}{rest:List VR}{t u:DT}{pos:Pos}(h:DE X H0 O0 a t)(hb:DE X H0 O0 (.BoolOp .Or (b::rest) pos) u):DE X H0 O0 (.BoolOp .Or (a::b::rest) pos) (wH t u):=
 (E5 h hb).imp λσ H Q ⟨O,δ,Qd,w,q,k⟩=>⟨O,δ,_,w,q,λd v H1 uu88 s1 r=>by
  obtain⟨c,e,q1⟩:=uu88;subst e;cases r;refine⟨c,rfl,?_⟩;cases c with
  | false=>exact⟨O,δ,_,w.mono s1,q1,λd v H2 q2 s2 r2=>k d v H2 q2 (s1.trans s2) r2⟩
  | true=>exact k _ _ H1 q1 s1 (.bl true)⟩
theorem G5{a:VR}{t:DT}{pos:Pos}(h:DE X H0 O0 a t):DE X H0 O0 (.UnaryOp .Not a pos) (wI t):=
 (E6 h).imp λσ H Q uu89=>by obtain⟨O,δ,Qd,w,q,k⟩:=uu89;exact⟨O,δ,_,w,q,λd v H1 uu90 s1 r=>by
  obtain⟨c,e,q1⟩:=uu90;subst e;cases r;exact⟨c,rfl,k _ _ H1 q1 s1 (.bl _)⟩⟩
def wJ(c:DB)(t u:DT):DT:=λδ Q=>c δ λb=>if b=true then t δ Q else u δ Q
theorem oj{c a b:VR}{tc:DB}{t u:DT}{pos:Pos}(hc:PT X c (bP X.K H0 O0 tc))(ha:DE X H0 O0 a t)(hb:DE X H0 O0 b u):DE X H0 O0 (.IfExp c a b pos) (wJ tc t u):=
 (E7 hc ha hb).imp λσ H Q uu91=>by obtain⟨O,δ,Qd,w,q,k⟩:=uu91;exact⟨O,δ,_,w,q,λc H1 q1 s1=>by
  cases c with
  | true=>exact⟨O,δ,_,w.mono s1,q1,λd v H2 q2 s2 r2=>k d v H2 q2 (s1.trans s2) r2⟩
  | false=>exact⟨O,δ,_,w.mono s1,q1,λd v H2 q2 s2 r2=>k d v H2 q2 (s1.trans s2) r2⟩⟩
def om(rd rd':VI->VI->(VI->Prop)->Prop)(ta tb tc:DT):DT:=λδ Q=>ta δ λx=>tb δ λy=>rd x y λz=>∃k,z= .bool k/\if k=true then tc δ λu=>rd' y u Q else Q (.bool false)
theorem wK{K:Og}{r r':R2}{rd rd':VI->VI->(VI->Prop)->Prop}{ta tb tc:DT}(hd:bN K r rd)(hd':bN K r' rd'):∀σ H Q,up K H0 O0 (om rd rd' ta tb tc) σ H Q->nS r r' (jE K H0 O0 ta) (jE K H0 O0 tb) (jE K H0 O0 tc) σ H Q:=
 λσ H Q ⟨O,δ,Qd,w,q,k⟩=>⟨O,δ,_,w,q,λx v H1 q1 s1 r1=>⟨O,δ,_,w.mono s1,q1,λy u H2 q2 s2 r2=>hd H2 O v u x y _ _ (w.mono (s1.trans s2)).trk (r1.mono s2) r2 q2 λd z H3 uu93 s3 r3=>by
  obtain⟨c,e,q3⟩:=uu93;subst e;cases r3;refine⟨c,rfl,?_⟩;cases c with
  | true=>exact⟨O,δ,_,w.mono (s1.trans (s2.trans s3)),q3,λu' p H4 q4 s4 r4=>hd' H4 O u p y u' Qd _ (w.mono (s1.trans (s2.trans (s3.trans s4)))).trk (r2.mono (s3.trans s4)) r4 q4 λd z H5 qd s5 r5=>k d z H5 qd (s1.trans (s2.trans (s3.trans (s4.trans s5)))) r5⟩
  | false=>exact k _ _ H3 q3 (s1.trans (s2.trans s3)) (.bl false)⟩⟩
theorem wL{a b c:VR}{ta tb tc:DT}{op op':CmpOp}{r r':R2}{rd rd':VI->VI->(VI->Prop)->Prop}{pos:Pos}(ho:bq X (V2 op) r)(ho':bq X (V2 op') r')(hd:bN X.K r rd)(hd':bN X.K r' rd')(ha:DF X H0 O0 a ta)(hb:DF X H0 O0 b tb)(hc:DF X H0 O0 c tc)
 (hm:lastMarks [op,op'] [b,c]=false:=by with_unfolding_all rfl):DE X H0 O0 (.Compare a [op,op'] [b,c] pos) (om rd rd' ta tb tc):=(Ft ho ho' ha hb hc hm).imp (wK hd hd')
theorem G6{a b c:VR}{ta tb tc:DT}{op op':CmpOp}{r r':R2}{rd rd':VI->VI->(VI->Prop)->Prop}{pos:Pos}(ho:bq X (V2 op) r)(ho':bq X (V2 op') r')(hd:bN X.K r rd)(hd':bN X.K r' rd')(ha:DF X H0 O0 a ta)(hb:DF X H0 O0 b tb)(hc:DF X H0 O0 c tc)
 (hm:lastMarks [op,op'] [b,c]=false:=by with_unfolding_all rfl):PT X (.Compare a [op,op'] [b,c] pos) (bP X.K H0 O0 (fV (om rd rd' ta tb tc))):=
 (Fv ho ho' ha hb hc hm).imp λσ H Q uu94=>by obtain⟨O,δ,Qd,w,q,k⟩:=uu94;exact wK hd hd' σ H _ ⟨O,δ,_,w,q,λd v H' uu95 s r=>by obtain⟨b,e,qb⟩:=uu95;subst e;cases r;exact⟨b,rfl,k b H' qb s⟩⟩
inductive aQ (K:Og) (F:List VI->(VI->Prop)->Prop) (vs:List V) (H:Hp) (Q:VK) (E:XK):Prop
 | mk (O:Ex) (ds:List VI) (Qd:VI->Prop):(∀l,O l->H l≠none)->aq K H O vs ds->F ds Qd->(∀d v H',Qd d->au H H'->Dt K H' O v d->Q v H')->aQ K F vs H Q E
def iD(F:List VI->(VI->Prop)->Prop)(t:DA):DT:=λδ Q=>t δ λds=>F ds Q
theorem G7{K:Og}{F:List VI->(VI->Prop)->Prop}{t:DA}{E:XK}:∀σ H Q,up K H0 O0 (iD F t) σ H Q->lM (aQ K F) [] E (d8 K H0 O0 t) σ H Q:=
 λσ H Q uu96=>by obtain⟨O,δ,Qd,w,q,k⟩:=uu96;exact⟨O,δ,_,w,q,λds vs H1 q1 s1 r1=>⟨O,ds,Qd,(w.mono s1).trk,by rw [Po];exact r1,q1,λd v H2 q2 s2 r2=>k d v H2 q2 (s1.trans s2) r2⟩⟩
inductive kC (K:Og) (H:Hp) (O:Ex):List V->List VI->Prop
 | nil:kC K H O [] []
 | cons {v:V} {d:VI} {vs:List V} {ds:List VI}:Sh K H O v d->kC K H O vs ds->kC K H O (v::vs) (d::ds)
inductive fz (K:Og) (H0:Hp) (O0:Ex) (t:DA) (σ:St) (H:Hp) (R:List V->Hp->Prop):Prop
 | mk (O:Ex) (δ:Dl) (Qd:List VI->Prop):Wd K H0 O0 H O σ δ->t δ Qd->(∀ds vs H',Qd ds->au H H'->kC K H' O vs ds->R vs H')->fz K H0 O0 t σ H R
theorem aN:PA X [] (fz X.K H0 O0 jF):=dF.imp λσ H Q uu0=>by obtain⟨O,δ,Qd,w,q,k⟩:=uu0;exact k [] [] H q (au.refl _) .nil
theorem i8{e:VR}{es:List VR}{t:DT}{u:DA}(h:DF X H0 O0 e t)(hs:PA X es (fz X.K H0 O0 u))(he:VP (e::es) X.env=(false,eval e X.env)::VP es X.env:=by rfl):PA X (e::es) (fz X.K H0 O0 (fT t u)):=
 (bS h hs he).imp λσ H Q uu1=>by obtain⟨O,δ,Qd,w,q,k⟩:=uu1;exact⟨O,δ,_,w,q,λd v H1 q1 s1 r1=>⟨O,δ,_,w.mono s1,q1,λds vs H2 q2 s2 r2=>k (d::ds) (v::vs) H2 q2 (s1.trans s2) (.cons (r1.mono s2) r2)⟩⟩
def iE(K:Og)(r:List V->Hp->VK->Prop)(rd:List VI->(VI->Prop)->Prop):Prop:=
 ∀(H:Hp)(O:Ex)(xs:List V)(ds:List VI)(Qd:VI->Prop)(R:VK),(∀l,O l->H l≠none)->kC K H O xs ds->rd ds Qd->(∀d v H',Qd d->au H H'->Dt K H' O v d->R v H')->r xs H R
theorem aT{K:Og}{r:List V->Hp->VK->Prop}{rd:List VI->(VI->Prop)->Prop}{t:DA}(hd:iE K r rd):∀σ H Q,up K H0 O0 (iD rd t) σ H Q->lO r (fz K H0 O0 t) σ H Q:=
 λσ H Q uu2=>by obtain⟨O,δ,Qd,w,q,k⟩:=uu2;exact⟨O,δ,_,w,q,λds vs H1 q1 s1 r1=>hd H1 O vs ds Qd _ (w.mono s1).trk r1 q1 λd v H2 q2 s2 r2=>k d v H2 q2 (s1.trans s2) r2⟩
def wM(t u:DS):DS:=λE δ=>t {E with nx:=u E} δ
theorem ao{st:V0}{rest:List V0}{t u:DS}(h:PS X st (bw X.K H0 O0 t))(h2:bD X rest (bw X.K H0 O0 u)):bD X (st::rest) (bw X.K H0 O0 (wM t u)):=
 (gF h h2).imp λD σ H uu3=>by obtain⟨O,δ,E,w,q,k1,k2,k3,k4⟩:=uu3;exact⟨O,δ,_,w,q,λO' δ' σ' H' z w' S=>⟨O',δ',E,w',z,λO2 δ2 σ2 H2 z2 w2 S2=>k1 O2 δ2 σ2 H2 z2 w2 (S.trans S2),k2,λO2 δ2 σ2 H2 z2 w2 S2=>k3 O2 δ2 σ2 H2 z2 w2 (S.trans S2),λO2 δ2 σ2 H2 z2 w2 S2=>k4 O2 δ2 σ2 H2 z2 w2 (S.trans S2)⟩,k2,k3,k4⟩
def wN:DS:=λE δ=>E.nx δ
theorem aL:bD X [] (bw X.K H0 O0 wN):=nz.imp λD σ H uu4=>by obtain⟨O,δ,E,w,q,k1,k2,k3,k4⟩:=uu4;exact k1 O δ σ H q w (aY.refl _ _)
theorem ai{st:V0}{t:DS}(h:PS X st (bw X.K H0 O0 t)):bD X [st] (bw X.K H0 O0 t):=iX h
def rM(i:Nat)(t:DT):DS:=λE δ=>t δ λd=>E.nx (δ.set i (some (.v d)))
theorem bj{i:Nat}{x:Str}{e:VR}{t:DT}{pos pos':Pos}(hN:X.N.Nodup)(hi:X.N[i]?=some x)(hx:gY X.env.scope x)(he:DE X H0 O0 e t)(hs:Wb e (some (.Name x pos')) pos.line X.env=pure false:=by rfl)(hf:X.fn x=true\/X.env.scope.names.lookup x=some .local:=by first | exact .inl rfl | exact .inr rfl | assumption):
 PS X (.Assign [.Name x pos'] e pos) (bw X.K H0 O0 (rM i t)):=
 (iZ hN hi hx he hs hf).imp λD σ H uu5=>by obtain⟨O,δ,E,w,q,k1,k2,k3,k4⟩:=uu5;exact⟨O,δ,_,w,q,λd v H1 q1 s1 r1=>k1 O _ _ H1 q1 ((w.mono s1).set r1) (.same s1)⟩
def wO(t:DT):DS:=λE δ=>t δ E.rt
theorem gL{K:Og}{H:Hp}{O:Ex}{σ:St}{δ:Dl}(w:Wd K H0 O0 H O σ δ):aY H H O O0:=⟨λ_ _ e _=>e,λb _ n z=>n (w.sub b z)⟩
theorem ay{e:VR}{t:DT}{pos:Pos}(he:DE X H0 O0 e t):PS X (.Return (some e) pos) (bw X.K H0 O0 (wO t)):=
 (jv he).imp λD σ H uu6=>by obtain⟨O,δ,E,w,q,k1,k2,k3,k4⟩:=uu6;exact⟨O,δ,_,w,q,λd v H1 q1 s1 r1=>k2 d v H1 q1 (w.same.trans s1) (r1.step (gL (w.mono s1)))⟩
def wQ(i:Nat):DS:=λE δ=>∃ds,δ[i]?=some (some (.o ds))/\E.rt (.list ds)
theorem rN{e:VR}{i:Nat}{pos:Pos}(he:PE X e (dR i)):PS X (.Return (some e) pos) (bw X.K H0 O0 (wQ i)):=
 (jv he).imp λD σ H uu7=>by
  obtain⟨O,δ,E,w,⟨ds,e,q⟩,k1,k2,k3,k4⟩:=uu7;obtain⟨l,vs,h,a,b,c,r⟩:=w.own e;exact⟨_,h,k2 _ _ H q w.same (.lst (.inl c) b (r.step (gL w)))⟩
def wR(c:DB)(t u:DS):DS:=λE δ=>c δ λb=>if b=true then t E δ else u E δ
theorem aM{c:VR}{a b:List V0}{tc:DB}{t u:DS}{pos:Pos}(hc:PT X c (bP X.K H0 O0 tc))(ha:bD X a (bw X.K H0 O0 t))(hb:bD X b (bw X.K H0 O0 u)):PS X (.If c a b pos) (bw X.K H0 O0 (wR tc t u)):=
 (nA hc ha hb).imp λD σ H uu8=>by obtain⟨O,δ,E,w,q,k1,k2,k3,k4⟩:=uu8;exact⟨O,δ,_,w,q,λc H1 q1 s1=>by
  have g:∀{t':DS},t' E δ->bw X.K H0 O0 t' D σ H1:=λz=>⟨O,δ,E,w.mono s1,z,λO2 δ2 σ2 H2 z2 w2 S2=>k1 O2 δ2 σ2 H2 z2 w2 (aY.trans (.same s1) S2),k2,λO2 δ2 σ2 H2 z2 w2 S2=>k3 O2 δ2 σ2 H2 z2 w2 (aY.trans (.same s1) S2),λO2 δ2 σ2 H2 z2 w2 S2=>k4 O2 δ2 σ2 H2 z2 w2 (aY.trans (.same s1) S2)⟩;cases c with
  | true=>exact g q1
  | false=>exact g q1⟩
def wU(t:DT):DS:=λE δ=>t δ λ_=>E.nx δ
theorem rO{e:VR}{t:DT}{pos:Pos}(he:DE X H0 O0 e t)(hs:Wb e none pos.line X.env=pure false:=by rfl):PS X (.Expr e pos) (bw X.K H0 O0 (wU t)):=
 (lC he hs).imp λD σ H uu9=>by obtain⟨O,δ,E,w,q,k1,k2,k3,k4⟩:=uu9;exact⟨O,δ,_,w,q,λd v H1 q1 s1 r1=>k1 O δ σ H1 q1 (w.mono s1) (.same s1)⟩
inductive lV (K:Og) (H0:Hp) (O0:Ex) (t:DA) (σ:St) (H:Hp) (R:VK):Prop
 | mk (O:Ex) (δ:Dl) (Qd:List VI->Prop):Wd K H0 O0 H O σ δ->t δ Qd->(∀ds vs p H',Qd ds->au H H'->H' p=none->aq K H' O vs ds->R (.ref p) (av H' p (.lst vs)))->lV K H0 O0 t σ H R
abbrev FE(X:Cx)(H0:Hp)(O0:Ex)(e:VR)(t:DA):Prop:=PE X e (lV X.K H0 O0 t)
def dL(t:DA):DT:=λδ Q=>t δ λds=>Q (.list ds)
theorem fe{e:VR}{t:DA}(h:FE X H0 O0 e t):DE X H0 O0 e (dL t):=
 h.imp λσ H Q uu10=>by obtain⟨O,δ,Qd,w,q,k⟩:=uu10;exact⟨O,δ,_,w,q,λds vs p H1 q1 s1 hp r1=>k _ _ _ q1 (s1.trans (au.new hp)) (.lst (.inl bb) (kA w s1 hp) (r1.mono (au.new hp)))⟩
def rP(t:DA):DA:=λδ Q=>t δ λds=>ds.length<=VT/\Q ds
theorem cZ{es:List VR}{t:DA}{pos:Pos}(h:PA X es (d8 X.K H0 O0 t)):FE X H0 O0 (.List es pos) (rP t):=
 (vz h).imp λσ H Q uu11=>by obtain⟨O,δ,Qd,w,q,k⟩:=uu11;exact⟨O,δ,_,w,q,λds vs H1 q1 s1 r1=>⟨by rw [r1.length];exact q1.1,λp hp=>k _ _ _ _ q1.2 s1 hp r1⟩⟩
def wV(i:Nat)(t:DA):DS:=λE δ=>t δ λds=>E.nx (δ.set i (some (.o ds)))
theorem kD{i:Nat}{x:Str}{e:VR}{t:DA}{pos pos':Pos}(hN:X.N.Nodup)(hi:X.N[i]?=some x)(hx:gY X.env.scope x)(he:FE X H0 O0 e t)(hs:Wb e (some (.Name x pos')) pos.line X.env=pure false:=by rfl)(hf:X.fn x=true\/X.env.scope.names.lookup x=some .local:=by first | exact .inl rfl | exact .inr rfl | assumption):
 PS X (.Assign [.Name x pos'] e pos) (bw X.K H0 O0 (wV i t)):=
 (iZ hN hi hx he hs hf).imp λD σ H ⟨O,δ,E,w,q,k1,k2,k3,k4⟩=>⟨O,δ,_,w,q,λds vs p H1 q1 s1 hp r1=>k1 _ _ _ _ q1 ((w.mono s1).setO hp r1)
  ⟨λb o e _=>(s1.trans (au.new hp)) b o e,λb e n z=>z.elim n λy=>by
   cases q:H b with
   | none=>exact e q
   | some o=>have:=s1 _ _ q;rw [y,hp] at this;cases this⟩⟩
def wX(i:Nat)(t:DT):DS:=λE δ=>∃ds,δ[i]?=some (some (.o ds))/\t δ λd=>ds.length < VT/\E.nx (δ.set i (some (.o (ds++[d]))))
theorem wY{i:Nat}{o e:VR}{t:DT}{apos cpos pos:Pos}(ho:PE X o (dR i))(he:DE X H0 O0 e t)(hbase:WC o "append" X.env (eval o X.env)=eval o X.env:=by rfl)
 (hfew:((V6 cpos (VP [e] X.env)).all (λx=>!x.1) && (Xb cpos (WM [] X.env)).all (λx=>x.1.isSome) && decide ([e].length+([]:List Wu).length+(if ([]:List Wu).isEmpty then 0 else 1) < 30))=true:=by rfl)
 (hline:(apos.endLine==cpos.line)=true:=by rfl)(hst:VP [e] X.env=(false,eval e X.env)::VP [] X.env:=by rfl)(hplain:(V6 cpos (VP [] X.env)).any (·.1)=false:=by rfl)
 (hs:Wb (.Call (.Attribute o "append" apos) [e] [] cpos) none pos.line X.env=pure false:=by rfl):PS X (.Expr (.Call (.Attribute o "append" apos) [e] [] cpos) pos) (bw X.K H0 O0 (wX i t)):=
 (lC (nW RS PySem.F.slot_list_append PySem.F.type_list_append vS ho (bS he dF hst) hbase hfew hline hst hplain) hs).imp λD σ H uu13=>by
  obtain⟨O,δ,E,w,⟨ds,e,q⟩,k1,k2,k3,k4⟩:=uu13;obtain⟨l,vs,h,a,b,c,r⟩:=w.own e;refine⟨_,h,.inl ⟨rfl,_,bf.of c⟩,O,δ,_,w,q,λd v H1 q1 s1 r1=>?_⟩;refine⟨l,vs,v,rfl,rfl,s1 _ _ c,by rw [r.length];exact q1.1,?_⟩;exact k1 _ _ _ _ q1.2 ((w.mono s1).putO (vs:=vs) e h ((r.mono s1).append (.cons r1 .nil))) ⟨λb' o' z n=>by rw [aE (λy=>n (by rw [y];exact a))];exact s1 _ _ z,λ_ _ n=>n⟩
end
structure cN (J:It) (P:Hp->Prop) (vs:List V):Prop where
 go:∀i H',P H'->i < vs.length->J.go i H'
 yl:∀i H' x H'',P H'->i < vs.length->J.yld i H' x H''->H''=H'/\vs[i]?=some x
 st:∀i H',P H'->vs.length<=i->J.stop i H'
def oo(H1:Hp)(a:VM)(H':Hp):Prop:=∀o,H1 a=some o->H' a=some o
theorem bf.keep{K:Og}{H H':Hp}{a:VM}{xs:List V}(s:oo H a H')(h:bf K H a xs):bf K H' a xs:=by
 rcases h with(h | ⟨o,h⟩) | h
 ·exact .inl (.inl (s _ h))
 ·exact .inl (.inr ⟨o,s _ h⟩)
 ·exact .inr h
theorem br.keep{K:Og}{H H':Hp}{a:VM}{xs:List V}(s:oo H a H')(h:br K H a xs):br K H' a xs:=by
 rcases h with(h | ⟨o,h⟩) | h
 ·exact .inl (.inl (s _ h))
 ·exact .inl (.inr ⟨o,s _ h⟩)
 ·exact .inr h
theorem cN.list{K:Og}{H:Hp}{a:VM}{vs:List V}(h:bf K H a vs):cN (lF K a) (oo H a) vs:=
 ⟨λi H' s hi=>⟨vs,vs[i],h.keep s,by simp [hi]⟩,λi H' x H'' s _ y=>⟨y.1,y.2 vs (h.keep s)⟩,λi H' s hi=>⟨vs,h.keep s,hi⟩⟩
theorem cN.tup{K:Og}{H:Hp}{a:VM}{vs:List V}(h:br K H a vs):cN (lG K a) (oo H a) vs:=
 ⟨λi H' s hi=>⟨vs,vs[i],h.keep s,by simp [hi]⟩,λi H' x H'' s _ y=>⟨y.1,y.2 vs (h.keep s)⟩,λi H' s hi=>⟨vs,h.keep s,hi⟩⟩
def eZ(lo:Int)(n:Nat):List VI:=(Py n).map λ(k:Nat)=>.int (lo+k)
theorem cN.rng{lo:Int}{n:Nat}:cN (iy lo n) (λ_=>True) ((Py n).map λ(k:Nat)=>V.int (lo+k)):=by
 refine⟨λi H' s hi=>(by simpa using hi:i < n),λi H' x H'' s hi y=>⟨y.1,?_⟩,λi H' s hi=>(by simpa using hi:n<=i)⟩;obtain⟨_,rfl⟩:=y;have hn:i < n:=by simpa using hi
 simp [hn]
theorem aq.rng{K:Og}{H:Hp}{O:Ex}{lo:Int}:∀(l:List Nat),aq K H O (l.map λ(k:Nat)=>V.int (lo+k)) (l.map λ(k:Nat)=>Ou (lo+k))
 | []=>.nil
 | n::r=>.cons (.int _) (aq.rng r)
abbrev DG:=VI->Dl->(Dl->Prop)->Prop
def GD(K:Og)(g:TG)(dg:DG):Prop:=∀(H0:Hp)(O0:Ex)(H:Hp)(O:Ex)(σ:St)(δ:Dl)(v:V)(x:VI)(R:St->Hp->Prop)(Qd:Dl->Prop),Wd K H0 O0 H O σ δ->Dt K H O v x->dg x δ Qd->(∀δ' σ',Qd δ'->Wd K H0 O0 H O σ' δ'->R σ' H)->g v σ H R
def lW(i:Nat):DG:=λx δ Q=>Q (δ.set i (some (.v x)))
theorem aV{K:Og}{i:Nat}:GD K (iY i) (lW i):=λH0 O0 H O σ δ v x R Qd w r q k=>k _ _ q (w.set r)
abbrev jG:=List VI->Dl->(Dl->Prop)->Prop
def oq(K:Og)(g:gZ)(dg:jG):Prop:=∀(H0:Hp)(O0:Ex)(H:Hp)(O:Ex)(σ:St)(δ:Dl)(vs:List V)(xs:List VI)(R:St->Hp->Prop)(Qd:Dl->Prop),Wd K H0 O0 H O σ δ->aq K H O vs xs->dg xs δ Qd->(∀δ' σ',Qd δ'->Wd K H0 O0 H O σ' δ'->R σ' H)->g vs σ H R
def wZ:jG:=λxs δ Q=>xs=[]/\Q δ
def w6(t:DG)(u:jG):jG:=λxs δ Q=>∃x r,xs=x::r/\t x δ λδ'=>u r δ' Q
theorem kF{K:Og}:oq K nE wZ:=λH0 O0 H O σ δ vs xs R Qd w r uu14 k=>by obtain⟨e,q⟩:=uu14;subst e;cases r;exact⟨rfl,k _ _ q w⟩
theorem dW{K:Og}{t:TG}{u:gZ}{dt:DG}{du:jG}(h:GD K t dt)(h2:oq K u du):oq K (nF t u) (w6 dt du):=λH0 O0 H O σ δ vs xs R Qd w r uu15 k=>by
 obtain⟨x,rr,e,q⟩:=uu15;subst e;cases r with
 | cons r1 r2=>exact⟨_,_,rfl,h H0 O0 H O σ δ _ _ _ _ w r1 q λδ' σ' q' w'=>h2 H0 O0 H O σ' δ' _ _ R Qd w' r2 q' k⟩
def w8(n:Nat)(t:jG):DG:=λx δ Q=>∃xs,x= .tuple xs/\xs.length=n/\t xs δ Q
theorem kG{K:Og}{n:Nat}{t:gZ}{dt:jG}(h:oq K t dt):GD K (nG K n t) (w8 n dt):=λH0 O0 H O σ δ v x R Qd w r uu16 k=>by
 obtain⟨xs,e,hl,q⟩:=uu16;subst e;obtain⟨a,vs,rfl,hs,rr⟩:=(Sh.dt r).tup;exact⟨a,vs,rfl,hs,by rw [rr.length];exact hl,h H0 O0 H O σ δ _ _ R Qd w rr q k⟩
section
variable {X:Cx} {H0:Hp} {O0:Ex}
def xh(t:DT)(g:DG):DS:=λE δ=>t δ λd=>g d δ E.nx
theorem xi{tg e:VR}{t:DT}{g:TG}{dg:DG}{pos:Pos}(he:DE X H0 O0 e t)(hg:PG X tg g)(gd:GD X.K g dg)(hs:Xl [tg] e pos.line X.env=pure false:=by rfl)(hw:Xm [tg] e X.env=pure none:=by rfl)
 (h1:(WU [tg] X.env).map (·.2)=[assign tg X.env]:=by rfl):PS X (.Assign [tg] e pos) (bw X.K H0 O0 (xh t dg)):=
 (nH he hg hs hw h1).imp λD σ H uu17=>by obtain⟨O,δ,E,w,q,k1,k2,k3,k4⟩:=uu17;exact⟨O,δ,_,w,q,λd v H1 q1 s1 r1=>gd H0 O0 H1 O σ δ v d _ _ (w.mono s1) r1 q1 λδ' σ' q' w'=>k1 O δ' σ' H1 q' w' (.same s1)⟩
def xj(i j:Nat)(t:DA):DS:=λE δ=>t δ λds=>∃x y,ds=[x,y]/\E.nx ((δ.set i (some (.v x))).set j (some (.v y)))
theorem xk{i j:Nat}{x y:Str}{a b:VR}{ta:DA}{px py pt pos:Pos}{kt k2 pt2}(hc:X.calm=true)(hN:X.N.Nodup)(hi:X.N[i]?=some x)(hj:X.N[j]?=some y)(hij:i≠j)
 (hx:X.env.scope.names.lookup x=some .local)(hy:X.env.scope.names.lookup y=some .local)(ha:PA X [a,b] (d8 X.K H0 O0 ta))
 (hw:Xm [.Tuple [.Name x px,.Name y py] kt pt] (.Tuple [a,b] k2 pt2) X.env=pure (some [x,y]))
 (hs:Xl [.Tuple [.Name x px,.Name y py] kt pt] (.Tuple [a,b] k2 pt2) pos.line X.env=pure false:=by rfl):
 PS X (.Assign [.Tuple [.Name x px,.Name y py] kt pt] (.Tuple [a,b] k2 pt2) pos) (bw X.K H0 O0 (xj i j ta)):=
 (Fc hc hN hi hj hij hx hy ha hw hs).imp λD σ H uu18=>by obtain⟨O,δ,E,w,q,k1,k2,k3,k4⟩:=uu18;exact⟨O,δ,_,w,q,λds vs H1 uu19 s1 r1=>by
  obtain⟨d1,d2,e,q1⟩:=uu19;subst e;cases r1 with
  | cons r1 r2=>
   cases r2 with
   | cons r2 r3=>
    cases r3;exact⟨_,_,rfl,k1 _ _ _ _ q1 (((w.mono s1).set r1).set r2) (.same s1)⟩⟩
def jH(g:DG)(tb:DS)(E:ku):List VI->Dl->Prop
 | [],δ=>E.nx δ
 | x::xs,δ=>g x δ λδ2=>tb {E with nx:=jH g tb E xs,ct:=jH g tb E xs,bk:=E.nx} δ2
theorem xm{K:Og}{J:It}{P:Hp->Prop}{vs:List V}{xs:List VI}{g:TG}{dg:DG}{tb:DS}{D:ix}{E:ku}{σ:St}{H:Hp}{O:Ex}{δ:Dl}(S:cN J P vs)(gd:GD K g dg)
 (hP:∀H' O',aY H H' O O'->P H')(r:aq K H O vs xs)(w:Wd K H0 O0 H O σ δ)(q:jH dg tb E xs δ)
 (k1:∀O' δ' σ' H',E.nx δ'->Wd K H0 O0 H' O' σ' δ'->aY H H' O O'->D.nx σ' H')(k2:∀d v H',E.rt d->au H0 H'->Dt K H' O0 v d->D.rt v H'):FR J g (bw K H0 O0 tb) D σ H:=by
 refine⟨λi m σ' H'=>∃O' δ',m=vs.length - i/\i<=vs.length/\Wd K H0 O0 H' O' σ' δ'/\aY H H' O O'/\jH dg tb E (xs.drop i) δ',⟨vs.length,O,δ,VH,PK _,w,aY.refl _ _,by simpa using q⟩,?_⟩;rintro i m σ1 H1 ⟨O1,δ1,rfl,hi,w1,S1,q1⟩;by_cases hlt:i < vs.length
 ·refine .inr ⟨S.go i H1 (hP _ _ S1) hlt,λσ' H'=>∃O' δ',Wd K H0 O0 H' O' σ' δ'/\aY H H' O O'/\jH dg tb E (xs.drop (i+1)) δ',λσ' H' uu20=>by obtain⟨O',δ',w',S',q'⟩:=uu20;exact⟨vs.length - (i+1),VD,O',δ',rfl,hlt,w',S',q'⟩,λx H' y=>?_⟩;have yy:=S.yl i H1 x H' (hP _ _ S1) hlt y;clear y;obtain⟨e,y⟩:=yy;subst e;obtain⟨d,ed,rd⟩:=r.get y;have hd:xs.drop i=d::xs.drop (i+1):=by
   rw [Q9 (h:=(Oy.mp ed).1),(Oy.mp ed).2]
  rw [hd] at q1;refine gd H0 O0 _ O1 σ1 δ1 x d _ _ w1 (rd.step S1) q1 λδ2 σ2 q2 w2=>?_;refine⟨O1,δ2,_,w2,q2,λO' δ' σ' H' z w' S'=>⟨O',δ',w',S1.trans S',z⟩,k2,λO' δ' σ' H' z w' S'=>k1 O' δ' σ' H' z w' (S1.trans S'),λO' δ' σ' H' z w' S'=>⟨O',δ',w',S1.trans S',z⟩⟩
 ·have e:i=vs.length:=VD
  subst e;refine .inl ⟨S.st _ H1 (hP _ _ S1) (Ot _),?_⟩;rw [r.length,R5 (Ot _)] at q1;exact k1 O1 δ1 σ1 H1 q1 w1 S1
def lX(g:DG)(tb:DS)(E:ku)(xs:List VI)(δ:Dl):Prop:=∃I:Nat->Dl->Prop,I 0 δ/\(∀i x δ,xs[i]?=some x->I i δ->g x δ λδ2=>tb {E with nx:=I (i+1),ct:=I (i+1),bk:=E.nx} δ2)/\∀δ,I xs.length δ->E.nx δ
theorem lY{K:Og}{J:It}{P:Hp->Prop}{vs:List V}{xs:List VI}{g:TG}{dg:DG}{tb:DS}{D:ix}{E:ku}{σ:St}{H:Hp}{O:Ex}{δ:Dl}(S:cN J P vs)(gd:GD K g dg)
 (hP:∀H' O',aY H H' O O'->P H')(r:aq K H O vs xs)(w:Wd K H0 O0 H O σ δ)(q:lX dg tb E xs δ)
 (k1:∀O' δ' σ' H',E.nx δ'->Wd K H0 O0 H' O' σ' δ'->aY H H' O O'->D.nx σ' H')(k2:∀d v H',E.rt d->au H0 H'->Dt K H' O0 v d->D.rt v H'):FR J g (bw K H0 O0 tb) D σ H:=by
 obtain⟨Iv,q0,qs,qe⟩:=q;refine⟨λi m σ' H'=>∃O' δ',m=vs.length - i/\i<=vs.length/\Wd K H0 O0 H' O' σ' δ'/\aY H H' O O'/\Iv i δ',⟨vs.length,O,δ,VH,PK _,w,aY.refl _ _,q0⟩,?_⟩;rintro i m σ1 H1 ⟨O1,δ1,rfl,hi,w1,S1,q1⟩;by_cases hlt:i < vs.length
 ·refine .inr ⟨S.go i H1 (hP _ _ S1) hlt,λσ' H'=>∃O' δ',Wd K H0 O0 H' O' σ' δ'/\aY H H' O O'/\Iv (i+1) δ',λσ' H' uu21=>by obtain⟨O',δ',w',S',q'⟩:=uu21;exact⟨vs.length - (i+1),VD,O',δ',rfl,hlt,w',S',q'⟩,λx H' y=>?_⟩;have yy:=S.yl i H1 x H' (hP _ _ S1) hlt y;clear y;obtain⟨e,y⟩:=yy;subst e;obtain⟨d,ed,rd⟩:=r.get y;refine gd H0 O0 _ O1 σ1 δ1 x d _ _ w1 (rd.step S1) (qs i d δ1 ed q1) λδ2 σ2 q2 w2=>?_;refine⟨O1,δ2,_,w2,q2,λO' δ' σ' H' z w' S'=>⟨O',δ',w',S1.trans S',z⟩,k2,λO' δ' σ' H' z w' S'=>k1 O' δ' σ' H' z w' (S1.trans S'),λO' δ' σ' H' z w' S'=>⟨O',δ',w',S1.trans S',z⟩⟩
 ·have e:i=vs.length:=VD
  subst e;refine .inl ⟨S.st _ H1 (hP _ _ S1) (Ot _),?_⟩;rw [r.length] at q1;exact k1 O1 δ1 σ1 H1 (qe δ1 q1) w1 S1
def xn(t:DT)(g:DG)(tb:DS):DS:=λE δ=>t δ λd=>∃xs,d= .tuple xs/\jH g tb E xs δ
section
variable {tg iter:VR} {body:List V0} {t:DT} {ta:DA} {g:TG} {dg:DG} {tb:DS} {pos p ps:Pos}
theorem xo(hp:WO (VS X.prog X.w) X.A X.env X.xe)(hc:X.calm=true)(hi:DE X H0 O0 iter t)(hg:PG X tg g)(gd:GD X.K g dg)(hb:bD X body (bw X.K H0 O0 tb))(hs:∀x,V5 iter X.env x=pure x:=by intro _;rfl):
 PS X (.For tg iter body [] pos) (bw X.K H0 O0 (xn t dg tb)):=
 (lJ hp hc (nJ hi) hg hb hs).imp λD σ H uu22=>by obtain⟨O,δ,E,w,q,k1,k2,k3,k4⟩:=uu22;exact⟨O,δ,_,w,q,λd v H1 uu23 s1 r1=>by
  obtain⟨xs,e,q1⟩:=uu23;subst e;cases r1 with
  | tup h n r=>
   refine⟨_,rfl,⟨_,.inl h⟩,xm (cN.tup (.inl h)) gd (λH' O' S o e=>S.keep _ _ e n) r (w.mono s1) q1 (λO' δ' σ' H' z w' S=>k1 O' δ' σ' H' z w' (aY.trans (.same s1) S)) k2⟩
  | tupK h r=>
   refine⟨_,rfl,⟨_,h.of0⟩,xm (P:=λ_=>True) ⟨λi H' _ hi=>⟨_,_,h.of0,by simp [hi];rfl⟩,λi H' x H'' _ _ y=>⟨y.1,y.2 _ h.of0⟩,λi H' _ hi=>⟨_,h.of0,hi⟩⟩ gd (λ_ _ _=>trivial) r (w.mono s1) q1 (λO' δ' σ' H' z w' S=>k1 O' δ' σ' H' z w' (aY.trans (.same s1) S)) k2⟩⟩
end
def xp(t:DT)(g:DG)(tb:DS):DS:=λE δ=>t δ λd=>∃xs,d= .list xs/\lX g tb E xs δ
def xt(t:DT)(g:DG)(tb:DS):DS:=λE δ=>t δ λd=>∃xs,d= .tuple xs/\lX g tb E xs δ
def xu(t:DA)(g:DG)(tb:DS):DS:=λE δ=>t δ λds=>∃j:Int,ds=[.int j]/\-(2 ^ 62)<=j/\j < 2 ^ 62/\lX g tb E (eZ 0 j.toNat) δ
def xv(t:DA)(g:DG)(tb:DS):DS:=λE δ=>t δ λds=>∃i j:Int,ds=[.int i,.int j]/\(-(2 ^ 62)<=i/\i < 2 ^ 62/\-(2 ^ 62)<=j/\j < 2 ^ 62)/\lX g tb E (eZ i (j - i).toNat) δ
section
variable {tg iter:VR} {body:List V0} {t:DT} {ta:DA} {g:TG} {dg:DG} {tb:DS} {pos p ps:Pos}
theorem ot(hp:WO (VS X.prog X.w) X.A X.env X.xe)(hc:X.calm=true)(hi:DE X H0 O0 iter t)(hg:PG X tg g)(gd:GD X.K g dg)(hb:bD X body (bw X.K H0 O0 tb))(hs:∀x,V5 iter X.env x=pure x:=by intro _;rfl):
 PS X (.For tg iter body [] pos) (bw X.K H0 O0 (xp t dg tb)):=
 (lJ hp hc (qM hi) hg hb hs).imp λD σ H uu24=>by obtain⟨O,δ,E,w,q,k1,k2,k3,k4⟩:=uu24;exact⟨O,δ,_,w,q,λd v H1 uu25 s1 r1=>by
  obtain⟨xs,e,q1⟩:=uu25;subst e;cases r1 with
  | lst h n r=>
   refine⟨_,rfl,⟨_,.inl h⟩,lY (cN.list (.inl h)) gd (λH' O' S o e=>S.keep _ _ e n) r (w.mono s1) q1 (λO' δ' σ' H' z w' S=>k1 O' δ' σ' H' z w' (aY.trans (.same s1) S)) k2⟩⟩
theorem fW(hp:WO (VS X.prog X.w) X.A X.env X.xe)(hc:X.calm=true)(hi:DE X H0 O0 iter t)(hg:PG X tg g)(gd:GD X.K g dg)(hb:bD X body (bw X.K H0 O0 tb))(hs:∀x,V5 iter X.env x=pure x:=by intro _;rfl):
 PS X (.For tg iter body [] pos) (bw X.K H0 O0 (xt t dg tb)):=
 (lJ hp hc (nJ hi) hg hb hs).imp λD σ H uu26=>by obtain⟨O,δ,E,w,q,k1,k2,k3,k4⟩:=uu26;exact⟨O,δ,_,w,q,λd v H1 uu27 s1 r1=>by
  obtain⟨xs,e,q1⟩:=uu27;subst e;cases r1 with
  | tup h n r=>
   refine⟨_,rfl,⟨_,.inl h⟩,lY (cN.tup (.inl h)) gd (λH' O' S o e=>S.keep _ _ e n) r (w.mono s1) q1 (λO' δ' σ' H' z w' S=>k1 O' δ' σ' H' z w' (aY.trans (.same s1) S)) k2⟩
  | tupK h r=>
   refine⟨_,rfl,⟨_,h.of0⟩,lY (P:=λ_=>True) ⟨λi H' _ hi=>⟨_,_,h.of0,by simp [hi];rfl⟩,λi H' x H'' _ _ y=>⟨y.1,y.2 _ h.of0⟩,λi H' _ hi=>⟨_,h.of0,hi⟩⟩ gd (λ_ _ _=>trivial) r (w.mono s1) q1 (λO' δ' σ' H' z w' S=>k1 O' δ' σ' H' z w' (aY.trans (.same s1) S)) k2⟩⟩
theorem rQ(hp:WO (VS X.prog X.w) X.A X.env X.xe)(hc:X.calm=true){a:VR}(hgl:Gl X "range")(hm:X.mg "range"=none)(ha:PA X [a] (d8 X.K H0 O0 ta))(hg:PG X tg g)(gd:GD X.K g dg)(hb:bD X body (bw X.K H0 O0 tb))
 (hst:VP [a] X.env=[(false,eval a X.env)]:=by rfl)(hs:∀x,V5 (.Call (.Name "range" p) [a] [] ps) X.env x=pure x:=by intro _;rfl):
 PS X (.For tg (.Call (.Name "range" p) [a] [] ps) body [] pos) (bw X.K H0 O0 (xu ta dg tb)):=
 (lJ hp hc (ve hgl hm ha hst) hg hb hs).imp λD σ H uu28=>by obtain⟨O,δ,E,w,q,k1,k2,k3,k4⟩:=uu28;exact⟨O,δ,_,w,q,λds vs H1 uu29 s1 r1=>by
  obtain⟨j,e,b1,b2,q1⟩:=uu29;subst e;cases r1 with
  | cons r1 r2=>
   cases r2;cases r1;exact⟨j,rfl,b1,b2,lY cN.rng gd (λ_ _ _=>trivial) (aq.rng _) (w.mono s1) q1 (λO' δ' σ' H' z w' S=>k1 O' δ' σ' H' z w' (aY.trans (.same s1) S)) k2⟩⟩
theorem xw(hp:WO (VS X.prog X.w) X.A X.env X.xe)(hc:X.calm=true){a b:VR}(hgl:Gl X "range")(hm:X.mg "range"=none)(ha:PA X [a,b] (d8 X.K H0 O0 ta))(hg:PG X tg g)(gd:GD X.K g dg)(hb:bD X body (bw X.K H0 O0 tb))
 (hst:VP [a,b] X.env=[(false,eval a X.env),(false,eval b X.env)]:=by rfl)(hst2:VP [b] X.env=[(false,eval b X.env)]:=by rfl)(hs:∀x,V5 (.Call (.Name "range" p) [a,b] [] ps) X.env x=pure x:=by intro _;rfl):
 PS X (.For tg (.Call (.Name "range" p) [a,b] [] ps) body [] pos) (bw X.K H0 O0 (xv ta dg tb)):=
 (lJ hp hc (vf hgl hm ha hst hst2) hg hb hs).imp λD σ H uu30=>by obtain⟨O,δ,E,w,q,k1,k2,k3,k4⟩:=uu30;exact⟨O,δ,_,w,q,λds vs H1 uu31 s1 r1=>by
  obtain⟨i,j,e,b1,q1⟩:=uu31;subst e;cases r1 with
  | cons r1 r2=>
   cases r2 with
   | cons r2 r3=>
    cases r3;cases r1;cases r2;exact⟨i,j,rfl,b1,lY cN.rng gd (λ_ _ _=>trivial) (aq.rng _) (w.mono s1) q1 (λO' δ' σ' H' z w' S=>k1 O' δ' σ' H' z w' (aY.trans (.same s1) S)) k2⟩⟩
end
def eM(k:Nat)(fr:List Nat)(δ:Dl):Dl:=OQ k none++fr.map λj=>(δ[j]?).join
def oz(g:DG)(tc:DB)(te:DT)(δ0:Dl):List VI->List VI->(List VI->Prop)->Prop
 | [],acc,Q=>Q acc
 | x::xs,acc,Q=>g x δ0 λδ2=>tc δ2 λok=>if ok=true then te δ2 λy=>oz g tc te δ0 xs (acc++[y]) Q else oz g tc te δ0 xs acc Q
theorem Wd.comp{K:Og}{H:Hp}{O:Ex}{σ:St}{δ:Dl}(w:Wd K H0 O0 H O σ δ){k:Nat}{fr:List Nat}(hf:fr.Nodup):Wd K H0 O0 H O (bW k fr σ) (eM k fr δ):=by
 have at1:∀{α:Type}(l:List (Option α))(i:Nat),(OQ k none++fr.map λj=>(l[j]?).join)[i]?=if i < k then some none else(fr[i - k]?).map λj=>(l[j]?).join:=by
  intro α l i;by_cases h:i < k
  ·rw [VF h,Pr (by simpa using h),Rh,VF h]
  ·rw [VE h,Qj (by simpa using S6 h),OD];simp
 have un:∀{α:Type}(l:List (Option α))(i:Nat)(x:α),(OQ k none++fr.map λj=>(l[j]?).join)[i]?=some (some x)->∃j,fr[i - k]?=some j/\k<=i/\l[j]?=some (some x):=by
  intro α l i x h;rw [at1] at h;split at h
  ·cases h
  ·cases e:fr[i - k]? with
   | none=>rw [e] at h;cases h
   | some j=>
    rw [e] at h;refine⟨j,rfl,VD,?_⟩;have h':(l[j]?).join=some x:=Pk h;cases q:l[j]? with
    | none=>rw [q] at h';cases h'
    | some o=>rw [q] at h';rw [show o=some x from h']
 refine⟨w.same,w.sub,w.new,w.trk,by simp [bW,eM],λi y e=>?_,λi j y z l e1 y1 e2 z2 e3 e4=>?_⟩
 ·match y,e with
  | none,_=>exact P1
  | some x,e=>
   obtain⟨j,hj,hk,ej⟩:=un δ i x e;have q:=w.sl j _ ej;have e2:((bW k fr σ)[i]?).join=(σ[j]?).join:=by
    unfold bW;rw [at1,VE VD,hj];rfl
   rw [e2];exact q
 ·obtain⟨a,ha,ka,ea⟩:=un δ i _ e1;obtain⟨b,hb,kb,eb⟩:=un δ j _ e2;obtain⟨a',ha',_,ea'⟩:=un σ i _ e3;obtain⟨b',hb',_,eb'⟩:=un σ j _ e4;rw [ha] at ha';cases ha';rw [hb] at hb';cases hb';have:=w.dis a b y z l ea y1 eb z2 ea' eb';subst this;have e5:=(UA (l:=fr) (i:=i - k) (j:=j - k) (Oy.mp ha).1 hf).mp (by rw [ha,hb]);omega
theorem Od{K:Og}{J:It}{P:Hp->Prop}{vs:List V}{xs:List VI}{g:TG}{dg:DG}{tc:TT}{dc:DB}{te:TE}{de:DT}{k:Nat}{fr:List Nat}{σ:St}{H:Hp}{O:Ex}{δ:Dl}{Qd:List VI->Prop}{Q:VK}(S:cN J P vs)(gd:GD K g dg)(hf:fr.Nodup)
 (hk:∀v:V,∀σ':St,∀H':Hp,∀R:St->Hp->Prop,g v (bW k fr σ) H' R->g v (bW k fr σ) H' λσ2 H2=>km (bW k fr σ) σ2/\R σ2 H2)
 (hc:∀σ H Q,bP K H0 O0 dc σ H Q->tc σ H Q)(he:∀σ H Q,up K H0 O0 de σ H Q->te σ H Q)
 (hP:∀D H',H D=none->kn D H H'->P H')(r:aq K H O vs xs)(w:Wd K H0 O0 H O σ δ)(hz:vs.length<=VT)(q:oz dg dc de (eM k fr δ) xs [] Qd)
 (k1:∀ds us p H',Qd ds->au H H'->H' p=none->aq K H' O us ds->Q (.ref p) (av H' p (.lst us))):kq J g tc te k fr σ H Q:=by
 intro D hD;have w0:Wd K H0 O0 H O (bW k fr σ) (eM k fr δ):=w.comp hf;have nD:¬O D:=λz=>w.trk D z hD;have D0:H0 D=none:=by
  cases e:H0 D with
  | none=>rfl
  | some o=>rw [w.same _ _ e] at hD;cases hD
 have ex:∀H',kn D H H'->H' D≠none->Wd K H0 O0 H' (λa=>O a\/a=D) (bW k fr σ) (eM k fr δ):=λH' s' hd=>by
  have S':aY H H' O (λa=>O a\/a=D):=⟨λb o e _=>s' b o e (cR e hD),λb hb hn z=>z.elim hn λq=>hb (by rw [q];exact hD)⟩;refine⟨λb o e=>s' b o (w.same b o e) (λz=>by rw [z,D0] at e;cases e),λl z=>.inl (w.sub l z),λl z=>z.elim (w.new l) λq=>.inr (by rw [q];exact D0),λl z=>?_,w0.len,λj y e=>?_,w0.dis⟩
  ·by_cases ql:l=D
   ·rw [ql];exact hd
   ·have hl:=w.trk l (z.resolve_right ql);cases e:H l with
    | none=>exact absurd e hl
    | some o=>rw [s' l o e ql];exact λz=>nomatch z
  ·exact(w0.sl j y e).go S' (λl o _ _ a1 _ a3=>⟨.inl a1,s' _ _ a3 (λz=>nD (by rw [<-z];exact a1))⟩) (λa o u a1 _ a3=>⟨.inl a1,s' _ _ a3 (λz=>nD (by rw [<-z];exact a1))⟩) λa o a1 a3=>s' _ _ a3 (λz=>nD (by rw [<-z];exact w.sub _ a1))
 refine⟨λi m H'=>∃acc ys,m=vs.length - i/\i<=vs.length/\kn D H H'/\H' D=some (.lst ys)/\ys.length<=i/\aq K H' (λa=>O a\/a=D) ys acc/\oz dg dc de (eM k fr δ) (xs.drop i) acc Qd,⟨vs.length,[],[],VH,PK _,λb o e n=>by rw [aE n];exact e,bb,PK _,.nil,by simpa using q⟩,?_⟩;rintro i m H1 ⟨acc,ys,rfl,hi,s1,e1,hy,ra,q1⟩;by_cases hlt:i < vs.length
 ·refine .inr ⟨S.go i H1 (hP D H1 hD s1) hlt,λx H' y=>?_⟩;have yy:=S.yl i H1 x H' (hP D H1 hD s1) hlt y;clear y;obtain⟨e,y⟩:=yy;subst e;obtain⟨d,ed,rd⟩:=r.get y;have hd:xs.drop i=d::xs.drop (i+1):=by
   rw [Q9 (h:=(Oy.mp ed).1),(Oy.mp ed).2]
  rw [hd] at q1;have w1:=ex _ s1 (by rw [e1];exact λz=>nomatch z);have S':aY H H' O (λa=>O a\/a=D):=⟨λb o e _=>s1 b o e (cR e hD),λb hb hn z=>z.elim hn λq=>hb (by rw [q];exact hD)⟩;refine hk x σ _ _ (gd H0 O0 _ _ _ _ x d _ _ w1 (rd.step S') q1 λδ2 σ2 q2 w2=>?_);refine hc σ2 _ _ ⟨_,δ2,_,w2,q2,λok H3 q3 s3=>?_⟩;cases ok with
  | true=>
   rw [VF rfl];refine he σ2 H3 _ ⟨_,δ2,_,w2.mono s3,q3,λd' v H4 q4 s4 r4=>?_⟩;have e4:=s4 _ _ (s3 _ _ e1);have sD:aY H4 (av H4 D (.lst (ys++[v]))) (λa=>O a\/a=D) (λa=>O a\/a=D):=⟨λb o e n=>by rw [aE (λz=>n (.inr z))];exact e,λ_ _ n=>n⟩;refine⟨ys,e4,VD,vs.length - (i+1),VD,acc++[d'],ys++[v],rfl,hlt,λb o e n=>by rw [aE n];exact s4 _ _ (s3 _ _ (s1 b o e n)),bb,by simpa using hy,?_,q4⟩;exact((ra.mono (s3.trans s4)).append (.cons r4 .nil)).step sD
  | false=>
   rw [VE VC];exact⟨vs.length - (i+1),VD,acc,ys,rfl,hlt,λb o e n=>s3 _ _ (s1 b o e n),s3 _ _ e1,VD,ra.mono s3,q3⟩
 ·have e:i=vs.length:=VD
  subst e;refine .inl ⟨S.st _ H1 (hP D H1 hD s1) (Ot _),?_⟩;rw [r.length,R5 (Ot _)] at q1;have hrest:∃H2:Hp,H2 D=none/\au H H2/\H1=av H2 D (.lst ys):=by
   refine⟨λb=>if b=D then none else H1 b,VH,λb o e=>?_,?_⟩
   ·have n:=cR e hD;show(if b=D then none else H1 b)=some o;rw [VE n];exact s1 b o e n
   ·funext b;by_cases z:b=D
    ·rw [z,bb];exact e1
    ·rw [aE z];show H1 b=if b=D then none else H1 b;rw [VE z]
  obtain⟨H2,h2,s2,rfl⟩:=hrest;refine k1 acc ys D H2 q1 s2 h2 (ra.step ⟨λb o e n=>?_,λb _ n z=>n (.inl z)⟩);rw [aE (λz=>n (.inr z))] at e;exact e
def fA(g:DG)(tc:DB)(te:DT)(δ0:Dl)(xs:List VI)(Q:List VI->Prop):Prop:=∃I:Nat->List VI->Prop,I 0 []/\(∀i x acc,xs[i]?=some x->I i acc->g x δ0 λδ2=>tc δ2 λok=>if ok=true then te δ2 λy=>I (i+1) (acc++[y]) else I (i+1) acc)/\∀acc,I xs.length acc->Q acc
theorem jI{K:Og}{J:It}{P:Hp->Prop}{vs:List V}{xs:List VI}{g:TG}{dg:DG}{tc:TT}{dc:DB}{te:TE}{de:DT}{k:Nat}{fr:List Nat}{σ:St}{H:Hp}{O:Ex}{δ:Dl}{Qd:List VI->Prop}{Q:VK}(S:cN J P vs)(gd:GD K g dg)(hf:fr.Nodup)
 (hk:∀v:V,∀σ':St,∀H':Hp,∀R:St->Hp->Prop,g v (bW k fr σ) H' R->g v (bW k fr σ) H' λσ2 H2=>km (bW k fr σ) σ2/\R σ2 H2)
 (hc:∀σ H Q,bP K H0 O0 dc σ H Q->tc σ H Q)(he:∀σ H Q,up K H0 O0 de σ H Q->te σ H Q)
 (hP:∀D H',H D=none->kn D H H'->P H')(r:aq K H O vs xs)(w:Wd K H0 O0 H O σ δ)(hz:vs.length<=VT)(q:fA dg dc de (eM k fr δ) xs Qd)
 (k1:∀ds us p H',Qd ds->au H H'->H' p=none->aq K H' O us ds->Q (.ref p) (av H' p (.lst us))):kq J g tc te k fr σ H Q:=by
 obtain⟨Iv,q0,qs,qe⟩:=q;intro D hD;have w0:Wd K H0 O0 H O (bW k fr σ) (eM k fr δ):=w.comp hf;have nD:¬O D:=λz=>w.trk D z hD;have D0:H0 D=none:=by
  cases e:H0 D with
  | none=>rfl
  | some o=>rw [w.same _ _ e] at hD;cases hD
 have ex:∀H',kn D H H'->H' D≠none->Wd K H0 O0 H' (λa=>O a\/a=D) (bW k fr σ) (eM k fr δ):=λH' s' hd=>by
  have S':aY H H' O (λa=>O a\/a=D):=⟨λb o e _=>s' b o e (cR e hD),λb hb hn z=>z.elim hn λq=>hb (by rw [q];exact hD)⟩;refine⟨λb o e=>s' b o (w.same b o e) (λz=>by rw [z,D0] at e;cases e),λl z=>.inl (w.sub l z),λl z=>z.elim (w.new l) λq=>.inr (by rw [q];exact D0),λl z=>?_,w0.len,λj y e=>?_,w0.dis⟩
  ·by_cases ql:l=D
   ·rw [ql];exact hd
   ·have hl:=w.trk l (z.resolve_right ql);cases e:H l with
    | none=>exact absurd e hl
    | some o=>rw [s' l o e ql];exact λz=>nomatch z
  ·exact(w0.sl j y e).go S' (λl o _ _ a1 _ a3=>⟨.inl a1,s' _ _ a3 (λz=>nD (by rw [<-z];exact a1))⟩) (λa o u a1 _ a3=>⟨.inl a1,s' _ _ a3 (λz=>nD (by rw [<-z];exact a1))⟩) λa o a1 a3=>s' _ _ a3 (λz=>nD (by rw [<-z];exact w.sub _ a1))
 refine⟨λi m H'=>∃acc ys,m=vs.length - i/\i<=vs.length/\kn D H H'/\H' D=some (.lst ys)/\ys.length<=i/\aq K H' (λa=>O a\/a=D) ys acc/\Iv i acc,⟨vs.length,[],[],VH,PK _,λb o e n=>by rw [aE n];exact e,bb,PK _,.nil,q0⟩,?_⟩;rintro i m H1 ⟨acc,ys,rfl,hi,s1,e1,hy,ra,q1⟩;by_cases hlt:i < vs.length
 ·refine .inr ⟨S.go i H1 (hP D H1 hD s1) hlt,λx H' y=>?_⟩;have yy:=S.yl i H1 x H' (hP D H1 hD s1) hlt y;clear y;obtain⟨e,y⟩:=yy;subst e;obtain⟨d,ed,rd⟩:=r.get y;have w1:=ex _ s1 (by rw [e1];exact λz=>nomatch z);have S':aY H H' O (λa=>O a\/a=D):=⟨λb o e _=>s1 b o e (cR e hD),λb hb hn z=>z.elim hn λq=>hb (by rw [q];exact hD)⟩;refine hk x σ _ _ (gd H0 O0 _ _ _ _ x d _ _ w1 (rd.step S') (qs i d acc ed q1) λδ2 σ2 q2 w2=>?_);refine hc σ2 _ _ ⟨_,δ2,_,w2,q2,λok H3 q3 s3=>?_⟩;cases ok with
  | true=>
   rw [VF rfl];refine he σ2 H3 _ ⟨_,δ2,_,w2.mono s3,q3,λd' v H4 q4 s4 r4=>?_⟩;have e4:=s4 _ _ (s3 _ _ e1);have sD:aY H4 (av H4 D (.lst (ys++[v]))) (λa=>O a\/a=D) (λa=>O a\/a=D):=⟨λb o e n=>by rw [aE (λz=>n (.inr z))];exact e,λ_ _ n=>n⟩;refine⟨ys,e4,VD,vs.length - (i+1),VD,acc++[d'],ys++[v],rfl,hlt,λb o e n=>by rw [aE n];exact s4 _ _ (s3 _ _ (s1 b o e n)),bb,by simpa using hy,?_,q4⟩;exact((ra.mono (s3.trans s4)).append (.cons r4 .nil)).step sD
  | false=>
   rw [VE VC];exact⟨vs.length - (i+1),VD,acc,ys,rfl,hlt,λb o e n=>s3 _ _ (s1 b o e n),s3 _ _ e1,VD,ra.mono s3,q3⟩
 ·have e:i=vs.length:=VD
  subst e;refine .inl ⟨S.st _ H1 (hP D H1 hD s1) (Ot _),?_⟩;rw [r.length] at q1;have hrest:∃H2:Hp,H2 D=none/\au H H2/\H1=av H2 D (.lst ys):=by
   refine⟨λb=>if b=D then none else H1 b,VH,λb o e=>?_,?_⟩
   ·have n:=cR e hD;show(if b=D then none else H1 b)=some o;rw [VE n];exact s1 b o e n
   ·funext b;by_cases z:b=D
    ·rw [z,bb];exact e1
    ·rw [aE z];show H1 b=if b=D then none else H1 b;rw [VE z]
  obtain⟨H2,h2,s2,rfl⟩:=hrest;refine k1 acc ys D H2 (qe acc q1) s2 h2 (ra.step ⟨λb o e n=>?_,λb _ n z=>n (.inl z)⟩);rw [aE (λz=>n (.inr z))] at e;exact e
def jJ:DB:=λ_ Q=>Q true
def iF(g:TG)(k:Nat):Prop:=∀(fr:List Nat)(σ:St)(v:V)(H':Hp)(R:St->Hp->Prop),g v (bW k fr σ) H' R->g v (bW k fr σ) H' λσ2 H2=>km (bW k fr σ) σ2/\R σ2 H2
theorem cI:iF (iY 0) 1:=λfr σ v H' R h=>⟨Gw,h⟩
def oA(t:DT)(g:DG)(tc:DB)(te:DT)(k:Nat)(fr:List Nat):DA:=λδ Q=>t δ λd=>∃xs,d= .list xs/\xs.length<=VT/\fA g tc te (eM k fr δ) xs Q
def oB(t:DT)(g:DG)(tc:DB)(te:DT)(k:Nat)(fr:List Nat):DA:=λδ Q=>t δ λd=>∃xs,d= .tuple xs/\xs.length<=VT/\fA g tc te (eM k fr δ) xs Q
def xx(ta:DA)(g:DG)(tc:DB)(te:DT)(k:Nat)(fr:List Nat):DA:=λδ Q=>ta δ λds=>∃j:Int,ds=[.int j]/\-(2 ^ 62)<=j/\j < VT/\fA g tc te (eM k fr δ) (eZ 0 j.toNat) Q
section
variable {tg iter elt:VR} {ifs:List VR} {scope:Wc} {N':List Str} {k:Nat} {fr:List Nat} {g:TG} {dg:DG} {t:DT} {ta:DA} {tc:DB} {te:DT} {pos p ps:Pos}
theorem g9(hc:X.calm=true)(S:bt X.env.scope X.N N' k fr scope)(hi:DF X H0 O0 iter t)(gd:GD X.K g dg)(hk:iF g k)(hfr:fr.Nodup)
 (hg:∀fp C s H,PG (bE X scope N' fp C s H) tg g)(hf:∀fp C s H,d5 (bE X scope N' fp C s H) ifs (bP X.K H0 O0 tc))(he:∀fp C s H,PE (bE X scope N' fp C s H) elt (up X.K H0 O0 te))
 (hs:∀x,V5 iter X.env x=pure x:=by intro _;rfl):FE X H0 O0 (.ListComp elt [⟨tg,iter,ifs,0⟩] scope pos) (oA t dg tc te k fr):=
 (lT hc S (qM hi) hg hf he hs).imp λσ H Q uu32=>by obtain⟨O,δ,Qd,w,q,kk⟩:=uu32;exact⟨O,δ,_,w,q,λd v H1 uu33 s1 r1=>by
  obtain⟨xs,e,hz,q1⟩:=uu33;subst e;obtain⟨a,vs,rfl,hq,rr⟩:=r1.lst;refine⟨a,rfl,⟨_,hq⟩,λD hD=>jI (cN.list hq) gd hfr (λv _ H' R h=>hk fr σ v H' R h) (λ_ _ _ z=>z) (λ_ _ _ z=>z) (λD H' hD s' o e=>s' _ _ e (cR e hD)) rr (w.mono s1) (by rw [rr.length];exact hz) q1 (λds us p H' z s' hp r'=>kk ds us p H' z (s1.trans s') hp r') D hD⟩⟩
theorem kH(hc:X.calm=true)(S:bt X.env.scope X.N N' k fr scope)(hi:DF X H0 O0 iter t)(gd:GD X.K g dg)(hk:iF g k)(hfr:fr.Nodup)
 (hg:∀fp C s H,PG (bE X scope N' fp C s H) tg g)(hf:∀fp C s H,d5 (bE X scope N' fp C s H) ifs (bP X.K H0 O0 tc))(he:∀fp C s H,PE (bE X scope N' fp C s H) elt (up X.K H0 O0 te))
 (hs:∀x,V5 iter X.env x=pure x:=by intro _;rfl):FE X H0 O0 (.ListComp elt [⟨tg,iter,ifs,0⟩] scope pos) (oB t dg tc te k fr):=
 (lT hc S (nJ hi) hg hf he hs).imp λσ H Q uu34=>by obtain⟨O,δ,Qd,w,q,kk⟩:=uu34;exact⟨O,δ,_,w,q,λd v H1 uu35 s1 r1=>by
  obtain⟨xs,e,hz,q1⟩:=uu35;subst e;obtain⟨a,vs,rfl,hq,rr⟩:=r1.tup;refine⟨a,rfl,⟨_,hq⟩,λD hD=>jI (cN.tup hq) gd hfr (λv _ H' R h=>hk fr σ v H' R h) (λ_ _ _ z=>z) (λ_ _ _ z=>z) (λD H' hD s' o e=>s' _ _ e (cR e hD)) rr (w.mono s1) (by rw [rr.length];exact hz) q1 (λds us p H' z s' hp r'=>kk ds us p H' z (s1.trans s') hp r') D hD⟩⟩
theorem xy(hc:X.calm=true){a:VR}(S:bt X.env.scope X.N N' k fr scope)(hgl:Gl X "range")(hm:X.mg "range"=none)(ha:PA X [a] (fz X.K H0 O0 ta))(gd:GD X.K g dg)(hk:iF g k)(hfr:fr.Nodup)
 (hg:∀fp C s H,PG (bE X scope N' fp C s H) tg g)(hf:∀fp C s H,d5 (bE X scope N' fp C s H) ifs (bP X.K H0 O0 tc))(he:∀fp C s H,PE (bE X scope N' fp C s H) elt (up X.K H0 O0 te))
 (hst:VP [a] X.env=[(false,eval a X.env)]:=by rfl)(hs:∀x,V5 (.Call (.Name "range" p) [a] [] ps) X.env x=pure x:=by intro _;rfl):
 FE X H0 O0 (.ListComp elt [⟨tg,(.Call (.Name "range" p) [a] [] ps),ifs,0⟩] scope pos) (xx ta dg tc te k fr):=
 (lT hc S (ve hgl hm ha hst) hg hf he hs).imp λσ H Q uu36=>by obtain⟨O,δ,Qd,w,q,kk⟩:=uu36;exact⟨O,δ,_,w,q,λds vs H1 uu37 s1 r1=>by
  obtain⟨j,e,b1,b2,q1⟩:=uu37;subst e;cases r1 with
  | cons r1 r2=>
   cases r2;cases r1.int;have hb:(VT:Int) < 2 ^ 62:=VC
   exact⟨j,rfl,b1,VD,λD hD=>jI (P:=λ_=>True) cN.rng gd hfr (λv _ H' R h=>hk fr σ v H' R h) (λ_ _ _ z=>z) (λ_ _ _ z=>z) (λ_ _ _ _=>trivial) (aq.rng _) (w.mono s1) (by rw [Oi,Ro];omega) q1 (λds us p H' z s' hp r'=>kk ds us p H' z (s1.trans s') hp r') D hD⟩⟩
end
end
section
variable {K:Og}
def dI(g:Int->Int->VI):VI->VI->(VI->Prop)->Prop:=λx y Q=>∃i j,x= .int i/\y= .int j/\Q (g i j)
def xA(C:Int->Int->Prop)(g:Int->Int->VI):VI->VI->(VI->Prop)->Prop:=λx y Q=>∃i j,x= .int i/\y= .int j/\C i j/\Q (g i j)
theorem bX{g:Int->Int->Int}:bN K (fO λi j=>.int (g i j)) (dI λi j=>.int (g i j)):=λH O x y dx dy Qd R _ hx hy uu38 k=>by
 obtain⟨i,j,e1,e2,q⟩:=uu38;subst e1 e2;cases hx.int;cases hy.int;exact⟨i,j,rfl,rfl,k _ _ H q (au.refl _) (.int _)⟩
theorem dJ{g:Int->Int->Bool}:bN K (fO λi j=>.bl (g i j)) (dI λi j=>.bool (g i j)):=λH O x y dx dy Qd R _ hx hy uu39 k=>by
 obtain⟨i,j,e1,e2,q⟩:=uu39;subst e1 e2;cases hx.int;cases hy.int;exact⟨i,j,rfl,rfl,k _ _ H q (au.refl _) (.bl _)⟩
theorem dA{C:Int->Int->Prop}{g:Int->Int->Int}:bN K (rI C λi j=>.int (g i j)) (xA C λi j=>.int (g i j)):=λH O x y dx dy Qd R _ hx hy uu40 k=>by
 obtain⟨i,j,e1,e2,c,q⟩:=uu40;subst e1 e2;cases hx.int;cases hy.int;exact⟨i,j,rfl,rfl,c,k _ _ H q (au.refl _) (.int _)⟩
def xB(K:Og):R2:=λx y H Q=>∃O dx dy,Sh K H O x dx/\Sh K H O y dy/\bU dx/\bU dy/\Q (.bl (Om dx dy)) H
def xC(K:Og):R2:=λx y H Q=>∃O dx dy,Sh K H O x dx/\Sh K H O y dy/\bU dx/\bU dy/\Q (.bl (!Om dx dy)) H
theorem bA{X:Cx}(hu:X.A.units+64 < V9):bq X (V2 .Eq) (xB X.K):=by
 intro Xz s σ H x y v u Q I rx ry h;obtain⟨O,dx,dy,hx,hy,sx,sy,q⟩:=h;obtain⟨as,ra⟩:=gK I hx.all (Px sx) rx;obtain⟨bs,rb⟩:=gK I hy.all (Px sy) ry;exact SeqAt.compareEq_shaped ra rb sx sy hu (d4 I q rfl)
theorem lZ{X:Cx}(hu:X.A.units+64 < V9):bq X (V2 .NotEq) (xC X.K):=by
 intro Xz s σ H x y v u Q I rx ry h;obtain⟨O,dx,dy,hx,hy,sx,sy,q⟩:=h;obtain⟨as,ra⟩:=gK I hx.all (Px sx) rx;obtain⟨bs,rb⟩:=gK I hy.all (Px sy) ry;exact SeqAt.compareNe_shaped ra rb sx sy hu (d4 I q rfl)
def xD:VI->VI->(VI->Prop)->Prop:=λx y Q=>bU x/\bU y/\Q (.bool (Om x y))
def xE:VI->VI->(VI->Prop)->Prop:=λx y Q=>bU x/\bU y/\Q (.bool (!Om x y))
theorem bB:bN K (xB K) xD:=λH O x y dx dy Qd R _ hx hy uu41 k=>by obtain⟨a,b,q⟩:=uu41;exact⟨O,dx,dy,hx,hy,a,b,k _ _ H q (au.refl _) (.bl _)⟩
theorem l3:bN K (xC K) xE:=λH O x y dx dy Qd R _ hx hy uu42 k=>by obtain⟨a,b,q⟩:=uu42;exact⟨O,dx,dy,hx,hy,a,b,k _ _ H q (au.refl _) (.bl _)⟩
def xF:VI->VI->(VI->Prop)->Prop:=λx y Q=>∃ds i d,x= .list ds/\y= .int i/\atI ds i=some d/\Q d
def oC:VI->VI->(VI->Prop)->Prop:=λx y Q=>∃ds i d,x= .tuple ds/\y= .int i/\atI ds i=some d/\Q d
theorem aq.atI{H:Hp}{O:Ex}{vs:List V}{ds:List VI}{i:Int}{d:VI}(r:aq K H O vs ds)(e:L2.atI ds i=some d):∃v,L2.atI vs i=some v/\Dt K H O v d:=by
 unfold L2.atI at e⊢;rw [r.length];cases q:g7 ds.length i with
 | none=>rw [q] at e;cases e
 | some j=>rw [q] at e;exact r.getD e
theorem ck:bN K (nV K) xF:=λH O x y dx dy Qd R _ hx hy uu43 k=>by
 obtain⟨ds,i,d,e1,e2,e3,q⟩:=uu43;subst e1 e2;obtain⟨a,vs,rfl,hs,r⟩:=hx.lst;cases hy.int;obtain⟨v,hv,rv⟩:=r.atI e3;exact⟨a,vs,i,v,rfl,rfl,hs,hv,k d v H q (au.refl _) rv⟩
theorem aD:bN K (vK K) oC:=λH O x y dx dy Qd R _ hx hy uu44 k=>by
 obtain⟨ds,i,d,e1,e2,e3,q⟩:=uu44;subst e1 e2;obtain⟨a,vs,rfl,hs,r⟩:=hx.tup;cases hy.int;obtain⟨v,hv,rv⟩:=r.atI e3;exact⟨a,vs,i,v,rfl,rfl,hs,hv,k d v H q (au.refl _) rv⟩
end
section
variable {X:Cx} {H0:Hp} {O0:Ex}
def G8:R2:=λx y H Q=>∃l b xs zs,x= .ref l/\y= .ref b/\Rd H l (.lst xs)/\Rd H b (.lst zs)/\xs.length+zs.length<=VT/\∀p,H p=none->Q (.ref p) (av H p (.lst (xs++zs)))
theorem G9:bq X (Wn .Add) G8:=by
 intro Xz s σ H x y v u Q I rx ry h;obtain⟨l,b,xs,zs,rfl,rfl,hH,hB,hz,q⟩:=h;cases rx;cases ry;obtain⟨z,its,n,r,e⟩:=hH.ok I.hok;obtain⟨z2,its2,n2,r2,e2⟩:=hB.ok I.hok;have l1:=r.length;have l2:=r2.length;refine PySem.P.add_list e e2 ?_ (by rw [OC,OC];omega);have ea:its.toArray++its2.toArray=(its++its2).toArray:=VH
 rw [ea];exact⟨.ref _,_,I.lnew (t':=s.toks) (r.append r2) (by rw [O4];omega),rfl,q _ I.fresh⟩
def xG(ta tb:DT):DA:=λδ Q=>ta δ λx=>tb δ λy=>∃xs ys,x= .list xs/\y= .list ys/\xs.length+ys.length<=VT/\Q (xs++ys)
theorem xH{a b:VR}{ta tb:DT}{pos:Pos}(ha:DF X H0 O0 a ta)(hb:DF X H0 O0 b tb):FE X H0 O0 (.BinOp a .Add b pos) (xG ta tb):=
 (eY G9 ha hb).imp λσ H Q uu45=>by obtain⟨O,δ,Qd,w,q,k⟩:=uu45;exact⟨O,δ,_,w,q,λx v H1 q1 s1 r1=>⟨O,δ,_,w.mono s1,q1,λy u H2 uu46 s2 r2=>by
  obtain⟨xs,ys,e1,e2,hz,q2⟩:=uu46;subst e1 e2;obtain⟨a,vs,rfl,h1,d1⟩:=(r1.mono s2).lstR;obtain⟨b,us,rfl,h2,d2⟩:=r2.lstR;exact⟨a,b,vs,us,rfl,rfl,h1,h2,by rw [d1.length,d2.length];exact hz,λp hp=>k _ _ _ _ q2 (s1.trans s2) hp (d1.append d2)⟩⟩⟩
def xI:VI->VI->(VI->Prop)->Prop:=λx y Q=>∃xs ys,x= .tuple xs/\y= .tuple ys/\xs≠[]/\xs.length+ys.length<=VT/\Q (.tuple (xs++ys))
theorem Ha{K:Og}:bN K (qY K) xI:=λH O x y dx dy Qd R tr hx hy uu47 k=>by
 obtain⟨xs,ys,e1,e2,hn,hz,q⟩:=uu47;subst e1 e2;have hx0:=hx;obtain⟨a,vs,rfl,h1,d1⟩:=hx.tup;obtain⟨b,us,rfl,h2,d2⟩:=hy.tup;refine⟨a,b,vs,us,rfl,rfl,h1,h2,λz=>?_,by rw [d1.length,d2.length];exact hz,λz=>?_,λ_ p hp=>?_⟩
 ·subst z;cases d1;exact hn rfl
 ·subst z;cases d2;rw [Po] at q;cases hx0 with
  | dt hx0=>exact k _ _ H q (au.refl _) hx0
 ·exact k _ _ _ q (au.new hp) (.tup (.inl bb) (λz=>tr p z hp) ((d1.append d2).mono (au.new hp)))
def bY(xs:List VI)(lo hi:Option Int):List VI:=(xs.drop (HT.sIx xs.length 0 lo)).take (HT.sIx xs.length xs.length hi - HT.sIx xs.length 0 lo)
theorem aq.cut{K:Og}{H:Hp}{O:Ex}{vs:List V}{ds:List VI}(r:aq K H O vs ds)(lo hi:Option Int):aq K H O (iA vs lo hi) (bY ds lo hi):=by
 unfold iA bY;rw [r.length];exact(r.drop _).take _
abbrev DO:=Dl->(Option Int->Prop)->Prop
inductive gM (K:Og) (H0:Hp) (O0:Ex) (t:DO) (σ:St) (H:Hp) (R:Option Int->Hp->Prop):Prop
 | mk (O:Ex) (δ:Dl) (Qd:Option Int->Prop):Wd K H0 O0 H O σ δ->t δ Qd->(∀d H',Qd d->au H H'->R d H')->gM K H0 O0 t σ H R
def xJ:DO:=λ_ Q=>Q none
def xK(t:DT):DO:=λδ Q=>t δ λd=>∃i,d= .int i/\Q (some i)
theorem PO.imp{X:Cx}{e:Option VR}{t u:TO}(h:PO X e t)(i:∀σ H Q,u σ H Q->t σ H Q):PO X e u:=λXz s σ H Q I z=>h Xz s σ H Q I (i σ H Q z)
theorem fB:PO X none (gM X.K H0 O0 xJ):=FL.imp λσ H Q uu48=>by obtain⟨O,δ,Qd,w,q,k⟩:=uu48;exact k none H q (au.refl _)
theorem dB{e:VR}{t:DT}(h:DE X H0 O0 e t):PO X (some e) (gM X.K H0 O0 (xK t)):=(FN h).imp λσ H Q uu49=>by obtain⟨O,δ,Qd,w,q,k⟩:=uu49;exact⟨O,δ,_,w,q,λd v H1 uu50 s1 r1=>by obtain⟨i,e,q1⟩:=uu50;subst e;cases r1;exact⟨i,rfl,k _ H1 q1 s1⟩⟩
def xM(t:DT)(tl th:DO):DA:=λδ Q=>t δ λd=>tl δ λl=>th δ λu=>∃xs,d= .list xs/\Q (bY xs l u)
theorem jK{e:VR}{lo hi:Option VR}{t:DT}{tl th:DO}{pos p2:Pos}(h:DF X H0 O0 e t)(hl:PO X lo (gM X.K H0 O0 tl))(hu:PO X hi (gM X.K H0 O0 th)):FE X H0 O0 (.Subscript e (.Slice lo hi none p2) pos) (xM t tl th):=
 (nU vN h hl hu).imp λσ H Q uu51=>by obtain⟨O,δ,Qd,w,q,k⟩:=uu51;exact⟨O,δ,_,w,q,λd v H1 q1 s1 r1=>⟨O,δ,_,w.mono s1,q1,λl H2 q2 s2=>⟨O,δ,_,w.mono (s1.trans s2),q2,λu H3 uu52 s3=>by
  obtain⟨xs,e,q3⟩:=uu52;subst e;obtain⟨a,vs,rfl,h1,d1⟩:=(r1.mono (s2.trans s3)).lst;exact⟨a,vs,rfl,h1,λp hp=>k _ _ _ _ q3 (s1.trans (s2.trans s3)) hp (d1.cut l u)⟩⟩⟩⟩
theorem d9{a b:VR}{ta tb:DT}{r:R2}{rd:VI->VI->(VI->Prop)->Prop}{pos:Pos}(ho:kl X r)(hd:bN X.K r rd)(ha:DF X H0 O0 a ta)(hb:DF X H0 O0 b tb)(hs:∀v u,WY b false v u=operate [v,u] (Wy v u):=by intro _ _;rfl):DE X H0 O0 (.Subscript a b pos) (fU rd ta tb):=(jB ho ha hb hs).imp (oh hd)
def xN:List VI->(VI->Prop)->Prop:=λds Q=>∃xs,(ds=[.list xs]\/ds=[.tuple xs])/\Q (.int xs.length)
def xO:List VI->(VI->Prop)->Prop:=λds Q=>∃xs,ds=[fy xs]/\Q (.int xs.length)
theorem bK{K:Og}:iE K (λxs H Q=>∃p ys,xs=[.ref p]/\(bf K H p ys\/br K H p ys)/\Q (.int ys.length) H) xN:=λH O xs ds Qd R _ hs uu53 k=>by
 obtain⟨ys,e,q⟩:=uu53;rcases e with e | e <;> subst e
 ·cases hs with
  | cons h r=>
   cases r;obtain⟨a,vs,rfl,h1,d1⟩:=h.lst;exact⟨a,vs,rfl,.inl h1,by rw [d1.length];exact k _ _ H q (au.refl _) (.int _)⟩
 ·cases hs with
  | cons h r=>
   cases r;obtain⟨a,vs,rfl,h1,d1⟩:=h.tup;exact⟨a,vs,rfl,.inr h1,by rw [d1.length];exact k _ _ H q (au.refl _) (.int _)⟩
theorem Hb{K:Og}:iE K (λxs H Q=>∃p ys,xs=[.ref p]/\(bf K H p ys\/br K H p ys)/\Q (.int ys.length) H) xO:=λH O xs ds Qd R _ hs uu54 k=>by
 obtain⟨ys,e,q⟩:=uu54;subst e;cases hs with
 | cons h r=>
  cases r;obtain⟨a,vs,rfl,h1,d1⟩:=h.scr;exact⟨a,vs,rfl,.inl h1,by rw [d1.length];exact k _ _ H q (au.refl _) (.int _)⟩
def xP:List VI->(VI->Prop)->Prop:=λds Q=>∃xs,ds=[.list xs]/\Q (.tuple xs)
theorem jL{K:Og}:iE K (λxs H Q=>∃p ys,xs=[.ref p]/\((bf K H p ys/\∀l,H l=none->Q (.ref l) (av H l (.tup ys)))\/(br K H p ys/\Q (.ref p) H))) xP:=λH O xs ds Qd R tr hs uu55 k=>by
 obtain⟨ys,e,q⟩:=uu55;subst e;cases hs with
 | cons h r=>
  cases r;obtain⟨a,vs,rfl,h1,d1⟩:=h.lst;exact⟨a,vs,rfl,.inl ⟨h1,λl hl=>k _ _ _ q (au.new hl) (.tup (.inl bb) (λz=>tr l z hl) (d1.mono (au.new hl)))⟩⟩
theorem aq.bools{K:Og}{H:Hp}{O:Ex}:∀{bs:List Bool}{vs:List V},aq K H O vs (bs.map Ql)->vs=bs.map V.bl
 | [],_,r=>by rw [PV] at r;cases r;rfl
 | b::bs,_,r=>by
  rw [Ov] at r;cases r with
  | cons h r=>cases h;rw [Ov,aq.bools r]
def xQ(g:List Bool->Bool):List VI->(VI->Prop)->Prop:=λds Q=>∃bs:List Bool,ds=[.list (bs.map .bool)]/\Q (.bool (g bs))
theorem jM{K:Og}{g:List Bool->Bool}:iE K (λxs H Q=>∃(a:VM)(bs:List Bool),xs=[.ref a]/\bf K H a (bs.map V.bl)/\Q (.bl (g bs)) H) (xQ g):=λH O xs ds Qd R tr hs uu56 k=>by
 obtain⟨bs,e,q⟩:=uu56;subst e;cases hs with
 | cons h r=>
  cases r;obtain⟨a,vs,rfl,h1,d1⟩:=h.lst;cases d1.bools;exact⟨a,bs,rfl,h1,k _ _ H q (au.refl _) (.bl _)⟩
def xR(g:Int->Int->Int):List VI->(VI->Prop)->Prop:=λds Q=>∃i j,ds=[.int i,.int j]/\Q (.int (g i j))
theorem xS{K:Og}{g:Int->Int->Int}:iE K (λxs H Q=>∃i j,xs=[.int i,.int j]/\Q (.int (g i j)) H) (xR g):=λH O xs ds Qd R tr hs uu57 k=>by
 obtain⟨i,j,e,q⟩:=uu57;subst e;cases hs with
 | cons h r=>
  cases r with
  | cons h2 r=>
   cases r;cases h.int;cases h2.int;exact⟨i,j,rfl,k _ _ H q (au.refl _) (.int _)⟩
def kI:VI->String
 | .none=> "NoneType" | .bool _=> "bool" | .int _=> "int" | .str _=> "str" | .list _=> "list" | .tuple _=> "tuple" | .dict _=> "dict"
end
section
variable {P:VW} {w:VZ} {K:Og} {mg:Str->Option VJ} {base:VY}
def hG(N:List Str)(ds:List VI):Dl:=ds.map (λd=>some (.v d))++OQ (N.length - ds.length) none
theorem oE{H:Hp}{O:Ex}{N:List Str}{vs:List V}{ds:List VI}(tr:∀l,O l->H l≠none)(r:aq K H O vs ds):Wd K H O H O (start N vs) (hG N ds):=by
 have hl:=r.length;have at1:∀(i:Nat) y,(hG N ds)[i]?=some y->(∃d,ds[i]?=some d/\y=some (.v d))\/y=none:=λi y e=>by
  unfold hG at e;by_cases h:i < ds.length
  ·rw [Pr (by simpa using h),OD] at e;cases q:ds[i]? with
   | none=>rw [q] at e;cases e
   | some d=>rw [q] at e;exact .inl ⟨d,rfl,(Pk e).symm⟩
  ·rw [Qj (by simpa using S6 h),Rh] at e;split at e
   ·exact .inr (Pk e).symm
   ·cases e
 refine⟨au.refl _,λ_ z=>z,λ_ z=>.inl z,tr,by simp [start,hG,hl],λi y e=>?_,λi j ds' es l e1=>?_⟩
 ·rcases at1 i y e with⟨d,hd,rfl⟩ | rfl
  ·obtain⟨v,hv,rv⟩:=r.getD hd;refine⟨v,?_,rv⟩;unfold start;rw [Pr (by simpa using(Oy.mp hv).1),OD,hv];rfl
  ·exact P1
 ·rcases at1 i _ e1 with⟨d,_,z⟩ | z
  ·cases z;intro h;exact h.elim
  ·cases z
theorem dU.okD{x qual:Str}{st:V0}{f:VM}{fd:VU}{N ps:List Str}{k:Nat}{F:List VI->(VI->Prop)->Prop}(Fu:dU K x qual st f fd)(S:aP N ps (aA st))(len:∀ds Q,F ds Q->ds.length=ps.length)
 (hbody:∀(cdv:VJ) (A:V1) (outer:List Env) (s:VN) (H:Hp) (O:Ex) (ds:List VI) (Q:VI->Prop) (E:XK),bp k (A.deeper (WE qual (aA st) s.heap.objs.size f cdv))->F ds Q->
  ∃t,bD (bO aK P w K mg base N qual (aA st) f cdv A outer s H E).nox (fx st) (bw K H O t)/\t {nx:=λ_=>Q .none,rt:=Q} (hG N ds)):aF P w K mg base aK (k+1) f fd ps (aQ K F):=by
 refine Fu.ok S (λvs H Q E h=>?_) (λcdv A outer s H vs Q E hr h=>?_)
 ·obtain⟨O,ds,Qd,_,r,q,_⟩:=h;rw [r.length];exact len _ _ q
 ·obtain⟨O,ds,Qd,tr,r,q,k⟩:=h;obtain⟨t,ht,q'⟩:=hbody cdv A outer s H O ds Qd E hr q;refine⟨_,ht,O,_,_,oE tr r,q',λO' δ' σ' H' z w' S'=>?_,λd v H' z s' r'=>k d v H' z s' r',λ_ _ _ _ z=>z.elim,λ_ _ _ _ z=>z.elim⟩;exact k _ _ _ z w'.same .non
end
section
variable {X:Cx} {H0:Hp} {O0:Ex}
theorem fC:d5 X [] (bP X.K H0 O0 jJ):=λXz s σ H Q I h=>by
 obtain⟨O,δ,Qd,w,q,k⟩:=h;exact Gq Xz s σ H Q I (k true H q (au.refl _))
theorem Hc:cO X (.builtin "isinstance") (λxs H Q=>∃O d T b x,xs=[x,.ty T]/\Dt X.K H O x d/\(∀x,d≠ .dict [(.none,x)])/\kitOne X.K (.type (kI d)) (.type T)=some b/\Q (.bl b) H):=by
 intro Xz s σ H xs us Q I r h;obtain⟨O,d,T,b,x,rfl,hd,hp,hk,q⟩:=h;obtain⟨u,w',rfl,rx,rt⟩:=lL r;cases (show w'=Rx T from rt);have fin:∀tk,EP X Xz σ Q (.bool b) {s with toks:=tk}:=λtk=>⟨.bl b,H,I.tok tk,rfl,q⟩;cases hd with
 | non=>cases (show u=QV from rx);exact W5 kitx_none I.kIn P1 hk (λz=>nomatch z) fin
 | bl y=>cases (show u=QI y from rx);exact W5 kitx_bool I.kIn P1 hk (λz=>nomatch z) fin
 | int i=>obtain⟨t,e⟩:=(show ∃t,u=QX i t from rx);cases e;exact W5 kitx_int I.kIn P1 hk (λz=>nomatch z) fin
 | str y=>obtain⟨t,e⟩:=(show ∃t,u=Qm y t from rx);cases e;exact W5 kitx_str I.kIn P1 hk (λz=>nomatch z) fin
 | @tup a xs ds h n rr=>
  cases (show u=OU a from rx);obtain⟨its,rv,⟨o,e,c,_⟩,_⟩:=I.tuple (.inl h);exact W5 kitx_tuple I.kIn ⟨o,e,c⟩ hk (λz=>nomatch z) fin
 | @tupK a xs ds h rr=>
  cases (show u=OU a from rx);obtain⟨its,rv,⟨o,e,c,_⟩,_⟩:=I.tuple h.of0;exact W5 kitx_tuple I.kIn ⟨o,e,c⟩ hk (λz=>nomatch z) fin
 | @lst a xs ds h n rr=>
  cases (show u=OU a from rx);obtain⟨its,rv,⟨o,_,e,c,_⟩,_⟩:=I.list (.inl h);exact W5 kitx_list I.kIn ⟨o,e,c⟩ hk (λz=>nomatch z) fin
 | pack h n=>exact absurd rfl (hp _)
 | purse h n=>exact absurd rfl (hp _)
 | scr h r=>exact absurd rfl (hp _)
 | obj h e n r=>exact absurd rfl (hp _)
 | @dct0 a h n=>
  cases (show u=OU a from rx);obtain⟨_,_,_,_,o,_,_,e,c,_⟩:=(show bI X.prog X.w H s.heap a (.dK []) from I.hok a _ h);exact W5 kitx_dict I.kIn ⟨o,e,c.1⟩ hk (λz=>nomatch z) fin
 | @dic a ob kv ks kp ds h e1 e2 n rr=>
  cases (show u=OU a from rx);obtain⟨_,_,_,_,o,_,_,e,c,_⟩:=(show bI X.prog X.w H s.heap a (.dK kv) from(I.hok a _ h).2);exact W5 kitx_dict I.kIn ⟨o,e,c.1⟩ hk (λz=>nomatch z) fin
def rR(K:Og)(T:String)(t:DT):DT:=λδ Q=>t δ λd=>∃b,kitOne K (.type (kI d)) (.type T)=some b/\(∀x,d≠ .dict [(.none,x)])/\Q (.bool b)
theorem He{T:String}{a c:VR}{t:DT}{np p:Pos}(hg:Gl X "isinstance")(hm:X.mg "isinstance"=none)(hv:V3 "isinstance"=some (.builtin "isinstance"))(ha:DF X H0 O0 a t)(hc:PE X c (tC (.ty T)))
 (hs:VP [a,c] X.env=(false,eval a X.env)::VP [c] X.env:=by rfl)(hs2:VP [c] X.env=[(false,eval c X.env)]:=by rfl)(hb:(V6 p (VP [c] X.env)).any (·.1)=false:=by rfl):DE X H0 O0 (.Call (.Name "isinstance" np) [a,c] [] p) (rR X.K T t):=
 (aS Hc hg hm hv (bS ha (bS hc dF hs2) hs) (he:=hs) (hpl:=hb)).imp λσ H Q uu58=>by obtain⟨O,δ,Qd,w,q,k⟩:=uu58;exact⟨O,δ,_,w,q,λd v H1 uu59 s1 r1=>by obtain⟨b,e,hp,q1⟩:=uu59;exact⟨λ_=>False,d,T,b,v,rfl,r1.all,hp,e,k _ _ H1 q1 s1 (.bl b)⟩⟩
def xT:VI->VI->(VI->Prop)->Prop:=λx y Q=>∃i j,x= .str i/\y= .str j/\i.length+j.length<=VT/\Q (.str (i++j))
theorem xU{K:Og}:bN K (λx y H Q=>∃i j,x= .str i/\y= .str j/\i.length+j.length<=VT/\Q (.str (i++j)) H) xT:=λH O x y dx dy Qd R tr hx hy uu60 k=>by
 obtain⟨i,j,e1,e2,hz,q⟩:=uu60;subst e1 e2;cases hx.str;cases hy.str;exact⟨i,j,rfl,rfl,hz,k _ _ H q (au.refl _) (.str _)⟩
def xV:VI->VI->(VI->Prop)->Prop:=λx y Q=>∃z i c,x= .str z/\y= .int i/\z.length<=VT/\atI z.cps.toList i=some c/\Q (.str ⟨#[c]⟩)
theorem xW{K:Og}:bN K vL xV:=λH O x y dx dy Qd R tr hx hy uu61 k=>by
 obtain⟨z,i,c,e1,e2,hz,e3,q⟩:=uu61;subst e1 e2;cases hx.str;cases hy.int;exact⟨z,i,c,rfl,rfl,hz,e3,k _ _ H q (au.refl _) (.str _)⟩
def Hf:V->Option Int->Option Int->Hp->VK->Prop:=λx lo hi H Q=>∃z,x= .str z/\z.length<=VT/\Q (.str (Txt.slice z lo hi)) H
theorem Hg:lQ X Hf:=by
 intro Xz s σ H x v vl vu lo hi sl Q I rx hs pl pu h;obtain⟨z,rfl,hz,q⟩:=h;obtain⟨t,rfl⟩:=rx;have e1:∃l:Option (Int×Tok),vl=partValue l/\l.map (·.1)=lo:=by
  cases pl with
  | none=>exact⟨none,rfl,rfl⟩
  | int i t=>exact⟨some (i,t),rfl,rfl⟩
 have e2:∃l:Option (Int×Tok),vu=partValue l/\l.map (·.1)=hi:=by
  cases pu with
  | none=>exact⟨none,rfl,rfl⟩
  | int i t=>exact⟨some (i,t),rfl,rfl⟩
 obtain⟨l,rfl,rfl⟩:=e1;obtain⟨u,rfl,rfl⟩:=e2;refine⟨"str",_,F.slot_str_getitem.lookup,WV _ _ _,wpAny_getItem_str_slice (l:=l) (u:=u) (st:=none) hs rfl ?_⟩;exact post_val_or_str ⟨OZ (Txt.slice_le z _ _) hz,λt' k=>⟨.str (Txt.slice z (l.map (·.1)) (u.map (·.1))),H,I.tok _,⟨_,rfl⟩,q⟩⟩
def xX(t:DT)(tl th:DO):DT:=λδ Q=>t δ λd=>tl δ λl=>th δ λu=>∃z,d= .str z/\z.length<=VT/\Q (.str (Txt.slice z l u))
theorem xY{e:VR}{lo hi:Option VR}{t:DT}{tl th:DO}{pos p2:Pos}(h:DF X H0 O0 e t)(hl:PO X lo (gM X.K H0 O0 tl))(hu:PO X hi (gM X.K H0 O0 th)):DE X H0 O0 (.Subscript e (.Slice lo hi none p2) pos) (xX t tl th):=
 (nU Hg h hl hu).imp λσ H Q uu62=>by obtain⟨O,δ,Qd,w,q,k⟩:=uu62;exact⟨O,δ,_,w,q,λd v H1 q1 s1 r1=>⟨O,δ,_,w.mono s1,q1,λl H2 q2 s2=>⟨O,δ,_,w.mono (s1.trans s2),q2,λu H3 uu63 s3=>by
  obtain⟨z,e,hz,q3⟩:=uu63;subst e;cases r1.str;exact⟨z,rfl,hz,k _ _ H3 q3 (s1.trans (s2.trans s3)) (.str _)⟩⟩⟩⟩
theorem Hh{K:Og}{H:Hp}{O:Ex}:∀{ys:List Str}{vs:List V}{us:List VJ},aq K H O vs (ys.map Ol)->aI vs us->Wh us ys:=by
 intro ys
 induction ys with
 | nil=>intro vs us r rv;rw [PV] at r;cases r;cases rv;exact .nil
 | cons y ys ih=>
  intro vs us r rv;rw [Ov] at r;cases r with
  | cons h r=>
   cases h;cases rv with
   | cons r1 r2=>
    obtain⟨t,rfl⟩:=r1;exact .cons y t (ih r r2)
theorem Hi:vJ X "str.join" (λx xs H Q=>∃(O:Ex)(z:Str)(a:V)(ys:List Str),x= .str z/\xs=[a]/\Sh X.K H O a (.list (ys.map .str))/\(ys.map (·.length)).sum+ys.length*z.length<=16777216/\Q (.str (Txt.join z ys)) H):=by
 intro Xz s σ H x xs v us Q I rx rs h;obtain⟨O,z,a,ys,rfl,rfl,ha,hz,q⟩:=h;obtain⟨t,rfl⟩:=rx;obtain⟨u,rfl,ru⟩:=dj rs;obtain⟨l,vs,rfl,hl,dl⟩:=ha.lst;cases ru;obtain⟨its,rv,pl,_⟩:=I.list hl;exact join_list pl.isList (by simpa using Hh dl rv) hz λt' k=>⟨.str _,H,I.tok _,⟨_,rfl⟩,q⟩
def xZ(to:DT)(t:DT):DT:=λδ Q=>to δ λx=>∃z:Str,x= .str z/\t δ λy=>∃(ys:List Str),y= .list (ys.map .str)/\(ys.map (·.length)).sum+ys.length*z.length<=16777216/\Q (.str (Txt.join z ys))
theorem Hj{o e:VR}{to t:DT}{apos cpos:Pos}(ho:DE X H0 O0 o to)(ha:DF X H0 O0 e t)(hbase:WC o "join" X.env (eval o X.env)=eval o X.env:=by rfl)
 (hfew:((V6 cpos (VP [e] X.env)).all (λx=>!x.1) && (Xb cpos (WM [] X.env)).all (λx=>x.1.isSome) && decide ([e].length+([]:List Wu).length+(if ([]:List Wu).isEmpty then 0 else 1) < 30))=true:=by rfl)
 (hline:(apos.endLine==cpos.line)=true:=by rfl)(hst:VP [e] X.env=(false,eval e X.env)::VP [] X.env:=by rfl)(hplain:(V6 cpos (VP [] X.env)).any (·.1)=false:=by rfl):
 DE X H0 O0 (.Call (.Attribute o "join" apos) [e] [] cpos) (xZ to t):=
 (nW PySem.F.plainAttrs_str PySem.F.slot_str_join PySem.F.type_str_join Hi ho (bS ha dF hst) hbase hfew hline hst hplain).imp λσ H Q uu64=>by obtain⟨O,δ,Qd,w,q,k⟩:=uu64;exact⟨O,δ,_,w,q,λx v H1 uu65 s1 r1=>by
  obtain⟨z,e,q1⟩:=uu65;subst e;cases r1;exact⟨rfl,O,δ,_,w.mono s1,q1,λy u H2 uu66 s2 r2=>by obtain⟨ys,e,hz,q2⟩:=uu66;subst e;exact⟨O,z,u,ys,rfl,rfl,r2,hz,k _ _ H2 q2 (s1.trans s2) (.str _)⟩⟩⟩
def x9:List VI->(VI->Prop)->Prop:=λds Q=>(∃i,ds=[.int i]/\Q (.int i))\/∃b,ds=[.bool b]/\Q (.int (if b then 1 else 0))
theorem z9{K:Og}:iE K (λxs H Q=>(∃i,xs=[.int i]/\Q (.int i) H)\/∃k,xs=[.bl k]/\Q (.int (if k then 1 else 0)) H) x9:=λH O xs ds Qd R tr hs h k=>by
 rcases h with⟨i,e,q⟩ | ⟨b,e,q⟩ <;> subst e
 ·cases hs with
  | cons h r=>cases r;cases h.int;exact .inl ⟨i,rfl,k _ _ H q (au.refl _) (.int _)⟩
 ·cases hs with
  | cons h r=>cases r;cases h.bl;exact .inr ⟨b,rfl,k _ _ H q (au.refl _) (.int _)⟩
def Aa(t:DA):DA:=λδ Q=>t δ λds=>∃xs,(ds=[.list xs]\/ds=[.tuple xs])/\Q xs
theorem Hk{a:VR}{t:DA}{np p:Pos}(hg:Gl X "list")(hm:X.mg "list"=none)(hv:V3 "list"=some (.type "list"))(ha:PA X [a] (fz X.K H0 O0 t))(he:VP [a] X.env=(false,eval a X.env)::VP [] X.env:=by rfl)(hpl:(V6 p (VP [] X.env)).any (·.1)=false:=by rfl):FE X H0 O0 (.Call (.Name "list" np) [a] [] p) (Aa t):=
 (fP F0 hg hm hv ha (he:=he) (hpl:=hpl)).imp λσ H Q uu67=>by obtain⟨O,δ,Qd,w,q,k⟩:=uu67;exact⟨O,δ,_,w,q,λds vs H1 uu68 s1 r1=>by
  obtain⟨xs,e,q1⟩:=uu68;rcases e with e | e <;> subst e
  ·cases r1 with
   | cons h r=>
    cases r;obtain⟨a,us,rfl,h1,d1⟩:=h.lst;exact⟨a,us,rfl,.inl h1,λl hl=>k _ _ _ _ q1 s1 hl d1⟩
  ·cases r1 with
   | cons h r=>
    cases r;obtain⟨a,us,rfl,h1,d1⟩:=h.tup;exact⟨a,us,rfl,.inr h1,λl hl=>k _ _ _ _ q1 s1 hl d1⟩⟩
theorem Hl{xs:List V}{us:List VJ}(r:aI xs us):aI xs.reverse us.reverse:=by
 induction r with
 | nil=>exact .nil
 | cons h r ih=>rw [RW,RW];exact ih.append (.cons h .nil)
end
section
variable {X:Cx} {Xz:List (VM×Obj)} {σ:St} {H:Hp} {s:VN}
theorem ae.swap{p:VM}{o':HO}(I:ae X Xz σ H s)(mu:j7 (H p))(new:bI X.prog X.w (av H p o') s.heap p o'):ae X Xz σ (av H p o') s:=by
 have hp:∃o,H p=some o:=by
  cases e:H p with
  | none=>rw [e] at mu;exact mu.elim
  | some o=>exact⟨o,rfl⟩
 obtain⟨o,ho⟩:=hp;have nn:∀{b:VM},H b=none->b≠p:=λhb z=>by rw [z,ho] at hb;cases hb
 have nt:∀{b:VM}{xs:List V},H b=some (.tup xs)->b≠p:=λhb z=>by rw [z] at hb;rw [hb] at mu;exact mu
 have nw:∀{b y:VM},H b=some (.own y)->b≠p:=λhb z=>by rw [z] at hb;rw [hb] at mu;exact mu
 have nf:∀{b:VM}{ob:Obj}{u:HO},H b=some (.frz ob u)->b≠p:=λhb z=>by rw [z] at hb;rw [hb] at mu;exact mu
 have nc:∀{b:VM}{q:Str},H b=some (.cod q)->b≠p:=λhb z=>by rw [z] at hb;rw [hb] at mu;exact mu
 have nb:∀{b:VM}{ps:Array VJ},H b=some (.tbl ps)->b≠p:=λhb z=>by rw [z] at hb;rw [hb] at mu;exact mu
 have ub:=I.base;refine⟨I.ok,I.os,I.bare,⟨ub.keep,ub.slot,λb ob e n hx=>?_,ub.there,λb xs z=>?_,λb ob u z=>?_,λb ps z=>?_⟩,I.loc,I.cell,?_,λx c e=>?_,λq hq=>?_,λb u e=>?_,I.len⟩
 ·have:=ub.free b ob e n hx;rw [aE (nn this)];exact this
 ·have:=ub.tups b xs z;rw [aE (nt this)];exact this
 ·have:=ub.frzs b ob u z;rw [aE (nf this)];exact this
 ·obtain⟨m,this⟩:=ub.tbls b ps z;exact⟨m,by rw [aE (nb this)];exact this⟩
 ·rw [aE (nn I.free)];exact I.free
 ·have:=I.freeC x c e;rw [aE (nn this)];exact this
 ·obtain⟨a,b,c⟩:=I.pin q hq;exact⟨a,by rw [aE (nn b)];exact b,c⟩
 ·by_cases hb:b=p
  ·subst hb;rw [bb] at e;cases e;exact new
  ·rw [aE hb] at e;exact(I.hok b u e).stay (λ_ _ _ q=>q) (λc z=>by rw [aE (nw z)];exact z) (λc xs z=>by rw [aE (nt z)];exact z) λc xs z=>by rw [aE (nc z)];exact z
theorem ae.open3{p:VM}(I:ae X Xz σ H s)(e:H p=some (gJ p)):∃a b c,ae X Xz σ (av H p (.lst [.int a,.int b,.int c])) s:=by
 obtain⟨⟨a,b,c,t,u,v,k,h⟩,_,_⟩:=(show bI X.prog X.w H s.heap p (gJ p) from I.hok p _ e);exact⟨a,b,c,I.swap (by rw [e];exact P1) ⟨(show 3<=VT by decide),[.int a t,.int b u,.int c v],k,.cons ⟨t,rfl⟩ (.cons ⟨u,rfl⟩ (.cons ⟨v,rfl⟩ .nil)),h⟩⟩
theorem ae.shut3{p:VM}{a b c:Int}(I:ae X Xz σ H s)(e:H p=some (.lst [.int a,.int b,.int c])):ae X Xz σ (av H p (gJ p)) s:=by
 obtain⟨_,its,k,r,h⟩:=(show bI X.prog X.w H s.heap p (.lst [.int a,.int b,.int c]) from I.hok p _ e);cases r with
 | cons r1 r2=>
  cases r2 with
  | cons r2 r3=>
   cases r3 with
   | cons r3 r4=>
    cases r4;obtain⟨t,rfl⟩:=r1;obtain⟨u,rfl⟩:=r2;obtain⟨v,rfl⟩:=r3;exact I.swap (by rw [e];exact P1) ⟨⟨a,b,c,t,u,v,k,h⟩,⟨_,h⟩,λh1 h2 uu69 kk=>by obtain⟨a,b,c,t,u,v,k,z⟩:=uu69;exact⟨a,b,c,t,u,v,k,kk _ z⟩⟩
theorem bD.purse{st:List V0}{t:TS}(h:bD X st t):bD X st (λD σ H=>∃p,H p=some (gJ p)/\∀a b c,t {nx:=λσ' H'=>∃a b c,H' p=some (.lst [.int a,.int b,.int c])/\D.nx σ' (av H' p (gJ p)),rt:=λv H'=>∃a b c,H' p=some (.lst [.int a,.int b,.int c])/\D.rt v (av H' p (gJ p))} σ (av H p (.lst [.int a,.int b,.int c]))):=by
 intro Xz s σ H D I ⟨p,e,q⟩;obtain⟨a,b,c,I1⟩:=I.open3 e;refine az (h Xz s σ _ _ I1 (q a b c)) λf s1 z=>?_;cases f with
 | next=>obtain⟨σ',H',J,_,_,_,e',q'⟩:=z;exact⟨σ',_,J.shut3 e',q'⟩
 | ret u=>obtain⟨v,σ',H',J,r,_,_,_,e',q'⟩:=z;exact⟨v,σ',_,J.shut3 e',r,q'⟩
 | brk=>obtain⟨_,_,_,z⟩:=z;exact z.elim
 | cont=>obtain⟨_,_,_,z⟩:=z;exact z.elim
theorem bD.newPurse{st:List V0}{t:TS}(h:bD X st t):bD X st (λD σ H=>t {nx:=λ_ _=>False,rt:=λv H'=>∃p a b c,v= .ref p/\H' p=some (.lst [.int a,.int b,.int c])/\D.rt v (av H' p (gJ p))} σ H):=by
 intro Xz s σ H D I q;refine az (h Xz s σ _ _ I q) λf s1 z=>?_;cases f with
 | next=>obtain⟨_,_,_,z⟩:=z;exact z.elim
 | ret u=>obtain⟨v,σ',H',J,r,p,a,b,c,e,e',q'⟩:=z;subst e;exact⟨_,σ',_,J.shut3 e',r,q'⟩
 | brk=>obtain⟨_,_,_,z⟩:=z;exact z.elim
 | cont=>obtain⟨_,_,_,z⟩:=z;exact z.elim
end
def rS:List VI->(VI->Prop)->Prop:=λds Q=>∃z:Int,ds=[fS,.int z]/\0 < z/\z<=1000000/\∀i:Int,0<=i->i < z->Q (.int i)
theorem dM{α:Type}{a:α}{l:List α}:atI (a::l) 0=some a:=dG (j:=0) rfl
theorem eN{α:Type}{a b:α}{l:List α}:atI (a::b::l) 1=some b:=dG (j:=1) rfl
theorem l4{α:Type}{a b c:α}{l:List α}:atI (a::b::c::l) 2=some c:=dG (j:=2) rfl
theorem l5{α:Type}{a b c d:α}{l:List α}:atI (a::b::c::d::l) 3=some d:=dG (j:=3) rfl
theorem rT{α:Type}{a b c d e:α}{l:List α}:atI (a::b::c::d::e::l) 4=some e:=dG (j:=4) rfl
theorem iG{i:Int}:bU (.int i):=rfl
theorem Hm{i:Bool}:bU (.bool i):=rfl
theorem Ab:bU .none:=rfl
theorem gN{x y:Str}:Om (.str x) (.str y)=(x==y):=by simp [Om]
theorem oF{x y:Int}:Om (.int x) (.int y)=(x==y):=by simp [Om]
theorem cP{x:Str}:bU (.str x)↔O5 x=true:=by
 unfold bU OA;simp [Ph,RK]
theorem hJ{ds:List VI}(h:bU (.tuple ds)):∀d∈ds,bU d:=by
 have h1:=Px h;have h2:=Tv h;have k:∀(ds:List VI)(d:VI),d∈ds->(Pj ds=true->d.canLay0=true)/\d.depth<=QO ds:=by
  intro ds
  induction ds with
  | nil=>intro d hd;simp at hd
  | cons e r ih=>
   intro d hd;rcases Ox.mp hd with z | z
   ·subst z;refine⟨λq=>?_,?_⟩
    ·rw [Pj,OI] at q;exact q.1
    ·rw [QO];exact Nat.le_max_left _ _
   ·obtain⟨a,b⟩:=ih d z;refine⟨λq=>?_,?_⟩
    ·rw [Pj,OI] at q;exact a q.2
    ·rw [QO];exact OZ b (Nat.le_max_right _ _)
 intro d hd;obtain⟨a,b⟩:=k ds d hd;unfold bU OA;rw [OI];refine⟨a (by simpa [Ph] using h1),decide_eq_true ?_⟩;rw [RK] at h2;omega
theorem lP{n d:Nat}:HT.sIx n d none=d:=rfl
theorem iH{n d:Nat}{i:Int}(h0:0<=i)(h1:i<=n):HT.sIx n d (some i)=i.toNat:=by
 obtain⟨j,rfl⟩:=P8 h0;rw [HT.sIx_nat,P5];omega
theorem jN{xs:List VI}{i:Int}(h0:0<=i)(h1:i<=xs.length):bY xs none (some i)=xs.take i.toNat:=by
 unfold bY;rw [lP,iH h0 h1];simp
theorem rV{xs:List VI}{i:Int}(h0:0<=i)(h1:i<=xs.length):bY xs (some i) none=xs.drop i.toNat:=by
 unfold bY;rw [lP,iH h0 h1,Pd (by rw [QT];exact Ot _)]
theorem i9{lo:Int}{n i:Nat}{x:VI}(h:(eZ lo n)[i]?=some x):i < n/\x= .int (lo+i):=by
 unfold eZ at h;rw [OD] at h;by_cases hi:i < n
 ·rw [List.getElem?_range hi] at h;exact⟨hi,(Pk h).symm⟩
 ·rw [QG (by simpa using hi)] at h;cases h
theorem kJ{lo:Int}{n:Nat}:(eZ lo n).length=n:=by unfold eZ;simp
section
variable {κ:Type} [DecidableEq κ]
def cJ(kvs:List (κ×V))(k:κ):Option V:=(kvs.find? λkv=>decide (kv.1=k)).map (·.2)
def putK(kvs:List (κ×V))(k:κ)(v:V):List (κ×V):=
 if (kvs.any λkv=>decide (kv.1=k))=true then kvs.map (λkv=>if kv.1=k then(kv.1,v) else kv) else kvs++[(k,v)]
theorem l6{p:κ×V}{r:List (κ×V)}{k:κ}(e:p.1=k):cJ (p::r) k=some p.2:=by simp [cJ,Qc,e]
theorem kK{p:κ×V}{r:List (κ×V)}{k:κ}(e:¬p.1=k):cJ (p::r) k=cJ r k:=by simp [cJ,Qc,e]
theorem Ac(k:κ):∀kvs:List (κ×V),(kvs.any λkv=>decide (kv.1=k))=(cJ kvs k).isSome
 | []=>rfl
 | p::r=>by
  rw [QD];by_cases e:p.1=k
  ·simp only [l6 e,decide_eq_true e,Bool.true_or,Ug]
  ·rw [kK e,decide_eq_false e,QQ];exact Ac k r
theorem oG(kvs:List (κ×V))(k:κ)(v:V):(putK kvs k v).length<=kvs.length+1:=by
 unfold putK;split
 ·rw [Oi];omega
 ·rw [O4,OG,Qx];omega
theorem fw.isSome_eq{o:Option V}{u:Option VJ}(r:fw o u):o.isSome=u.isSome:=by
 cases o with
 | none=>cases u with
  | none=>rfl
  | some _=>exact(show False from r).elim
 | some _=>cases u with
  | none=>exact(show False from r).elim
  | some _=>rfl
theorem fw.getD{o:Option V}{u:Option VJ}{d:V}{d':VJ}(r:fw o u)(rd:aH d d'):aH (o.getD d) (u.getD d'):=by
 cases o with
 | none=>cases u with
  | none=>exact rd
  | some _=>exact(show False from r).elim
 | some _=>cases u with
  | none=>exact(show False from r).elim
  | some _=>exact r
theorem KV.val{kvs:List (κ×V)}{vs:List (κ×VJ)}(r:KV kvs vs)(k:κ):fw (cJ kvs k) (valueAt vs k):=by
 unfold KV at r
 induction r with
 | nil=>exact P1
 | @cons p q ps qs h t ih=>
  obtain⟨h1,h2⟩:=h;by_cases e:p.1=k
  ·have e':q.1=k:=h1.symm.trans e;have b:valueAt (q::qs) k=some q.2:=by simp [valueAt,Qc,e']
   rw [l6 e,b];exact h2
  ·have e':¬q.1=k:=λz=>e (h1.trans z);have b:valueAt (q::qs) k=valueAt qs k:=by simp [valueAt,Qc,e']
   rw [kK e,b];exact ih
theorem KV.any{kvs:List (κ×V)}{vs:List (κ×VJ)}(r:KV kvs vs)(k:κ):(kvs.any λkv=>decide (kv.1=k))=vs.any λkv=>decide (kv.1=k):=by
 unfold KV at r
 induction r with
 | nil=>rfl
 | cons h t ih=>rw [QD,QD,ih,h.1]
theorem KV.repl{kvs:List (κ×V)}{vs:List (κ×VJ)}(r:KV kvs vs)(k:κ){y:V}{u:VJ}(ry:aH y u):
 KV (kvs.map λkv=>if kv.1=k then(kv.1,y) else kv) (vs.map λkv=>if kv.1=k then(kv.1,u) else kv):=by
 unfold KV at r⊢
 induction r with
 | nil=>exact .nil
 | @cons p q ps qs h t ih=>
  rw [Ov,Ov];refine .cons ?_ ih;obtain⟨h1,h2⟩:=h;by_cases e:p.1=k
  ·rw [VF e,VF (h1.symm.trans e)];exact⟨h1,ry⟩
  ·rw [VE e,VE (λz=>e (h1.trans z))];exact⟨h1,h2⟩
theorem KV.put{kvs:List (κ×V)}{vs:List (κ×VJ)}(r:KV kvs vs)(k:κ){y:V}{u:VJ}(ry:aH y u):KV (putK kvs k y) (stored vs k u):=by
 unfold putK stored;rw [r.any k];by_cases e:(vs.any λkv=>decide (kv.1=k))=true
 ·rw [VF e,VF e];exact r.repl k ry
 ·rw [VE e,VE e];exact Vq r ⟨rfl,ry⟩
theorem KV.keys{kvs:List (κ×V)}{vs:List (κ×VJ)}(r:KV kvs vs):kvs.map (·.1)=vs.map (·.1):=by
 unfold KV at r
 induction r with
 | nil=>rfl
 | cons h t ih=>rw [Ov,Ov,ih,h.1]
theorem KV.length{kvs:List (κ×V)}{vs:List (κ×VJ)}(r:KV kvs vs):kvs.length=vs.length:=SE r
end
theorem ja{P:VW}{w:VZ}{k:ak}{u:VJ}(r:aH (kV k) u):(cY P w).is k u=true:=by
 cases k with
 | inl i=>obtain⟨t,e⟩:=(show ∃t,u=QX i t from r);subst e;exact EN P w i t
 | inr x=>obtain⟨t,e⟩:=(show ∃t,u=Qm x t from r);subst e;exact EO P w x t
theorem Ad{P:VW}{w:VZ}:∀{ks:List ak}{us:List VJ},aI (ks.map kV) us->ItemsAre (cY P w) ks us
 | [],_,r=>by rw [PV] at r;cases r;exact .nil
 | k::ks,_,r=>by
  rw [Ov] at r;cases r with
  | cons h t=>exact .cons (ja h) (Ad t)
abbrev KT(H:Hp):List (List ak×V)->List (List ak×VM×VJ)->Prop:=Paired λp q=>p.1=q.1/\H q.2.1=some (.tup (p.1.map kV))/\aH p.2 q.2.2
theorem KT.val{H:Hp}{kvs:List (List ak×V)}{xs:List (List ak×VM×VJ)}(r:KT H kvs xs)(k:List ak):fw (cJ kvs k) ((atKey xs k).map (·.2)):=by
 induction r with
 | nil=>exact P1
 | @cons p q ps qs h t ih=>
  obtain⟨h1,_,h2⟩:=h;by_cases e:p.1=k
  ·have e':q.1=k:=h1.symm.trans e;have b:atKey (q::qs) k=some q.2:=by simp [atKey,Qc,e']
   rw [l6 e,b];exact h2
  ·have e':¬q.1=k:=λz=>e (h1.trans z);have b:atKey (q::qs) k=atKey qs k:=by simp [atKey,Qc,e']
   rw [kK e,b];exact ih
theorem KT.repl{H:Hp}{kvs:List (List ak×V)}{xs:List (List ak×VM×VJ)}(r:KT H kvs xs)(k:List ak){y:V}{u:VJ}(ry:aH y u):
 KT H (kvs.map λkv=>if kv.1=k then(kv.1,y) else kv) (xs.map (putAt k u)):=by
 induction r with
 | nil=>exact .nil
 | @cons p q ps qs h t ih=>
  rw [Ov,Ov];refine .cons ?_ ih;obtain⟨h1,h2,h3⟩:=h;unfold putAt;by_cases e:p.1=k
  ·rw [VF e,VF (h1.symm.trans e)];exact⟨h1,h2,ry⟩
  ·rw [VE e,VE (λz=>e (h1.trans z))];exact⟨h1,h2,h3⟩
theorem KT.put{H:Hp}{kvs:List (List ak×V)}{xs:List (List ak×VM×VJ)}(r:KT H kvs xs)(k:List ak){b:VM}{y:V}{u:VJ}(hb:H b=some (.tup (k.map kV)))(ry:aH y u):
 KT H (putK kvs k y) (storedH xs k b u):=by
 have e:(kvs.any λkv=>decide (kv.1=k))=(atKey xs k).isSome:=by
  rw [Ac,(r.val k).isSome_eq,RX]
 unfold putK storedH;rw [e];by_cases q:(atKey xs k).isSome=true
 ·rw [VF q,VF q];exact r.repl k ry
 ·rw [VE q,VE q];exact Vq r ⟨rfl,hb,ry⟩
theorem KT.keeps{H H':Hp}{kvs:List (List ak×V)}{xs:List (List ak×VM×VJ)}(r:KT H kvs xs)(ht:∀b ys,H b=some (.tup ys)->H' b=some (.tup ys)):KT H' kvs xs:=
 Paired.mapP r λ_ _ z=>⟨z.1,ht _ _ z.2.1,z.2.2⟩
section
variable {P:VW} {w:VZ} {H:Hp} {h:VY} {a:VM}
theorem Ae{u:HO}(ok:bJ P w H h)(e:Rd H a u):bI P w H h a u:=e.ok ok
theorem iI{kvs:List (ak×V)}(ok:bJ P w H h)(e:Rd H a (.dK kvs)):kvs.length<=VT/\(a==Wo)=false/\∃vs,KV kvs vs/\h.DictOf (cY P w) a vs:=
 show bI P w H h a (.dK kvs) from Ae ok e
theorem rW{kvs:List (ak×V)}(ok:bJ P w H h)(e:H a=some (.dK kvs)):kvs.length<=VT/\(a==Wo)=false/\∃vs,KV kvs vs/\h.DictOf (cY P w) a vs:=iI ok (.inl e)
theorem kL{ks:List ak}(ok:bJ P w H h)(e:H a=some (.tup (ks.map kV))):(Xf (cY P w)).is h ks a:=by
 obtain⟨_,its,r,o,h1,h2,n,h3⟩:=(show bI P w H h a (.tup (ks.map kV)) from ok a _ e);exact⟨o,its.toArray,n,h1,h2,h3,by simpa using Ad r⟩
theorem jO{kvs:List (List ak×V)}(ok:bJ P w H h)(e:Rd H a (.dT kvs)):kvs.length<=VT/\(a==Wo)=false/\
 ∃xs,KT H kvs xs/\h.DictOfH (Xf (cY P w)) a xs:=by
 obtain⟨z,y,xs,r,o,es,ep,h1,h2,h3,h4,h5⟩:=(show bI P w H h a (.dT kvs) from Ae ok e);refine⟨z,y,xs,r,o,es,ep,h1,h2,h3,h4,λx hx=>?_,h5⟩;have all:∀{l:List (List ak×V)}{m:List (List ak×VM×VJ)},KT H l m->∀x∈m,(Xf (cY P w)).is h x.1 x.2.1:=by
  intro l m q
  induction q with
  | nil=>intro x hx;exact nomatch hx
  | @cons p q ps qs hq t ih=>
   intro x hx;rcases Ox.mp hx with e | hx
   ·subst e;exact kL ok (by rw [<-hq.1];exact hq.2.1)
   ·exact ih x hx
 exact all r x hx
theorem Hn{kvs:List (List ak×V)}(ok:bJ P w H h)(e:H a=some (.dT kvs)):kvs.length<=VT/\(a==Wo)=false/\
 ∃xs,KT H kvs xs/\h.DictOfH (Xf (cY P w)) a xs:=jO ok (.inl e)
end
def c5(H:Hp)(a:VM)(y:V)(r:Option V):Prop:=
 (∃kvs k,Rd H a (.dK kvs)/\y=kV k/\r=cJ kvs k)\/∃kvs k b,Rd H a (.dT kvs)/\y= .ref b/\H b=some (.tup (k.map kV))/\r=cJ kvs k
def l8(H:Hp)(a:VM)(y v:V)(H':Hp):Prop:=
 (∃kvs k,H a=some (.dK kvs)/\y=kV k/\kvs.length < VT/\H'=av H a (.dK (putK kvs k v)))\/
 ∃kvs k b,H a=some (.dT kvs)/\y= .ref b/\H b=some (.tup (k.map kV))/\kvs.length < VT/\H'=av H a (.dT (putK kvs k v))
theorem c5.k{H:Hp}{a:VM}{kvs:List (ak×V)}{k:ak}(e:H a=some (.dK kvs)):c5 H a (kV k) (cJ kvs k):= .inl ⟨kvs,k,.inl e,rfl,rfl⟩
theorem l8.k{H:Hp}{a:VM}{kvs:List (ak×V)}{k:ak}{v:V}(e:H a=some (.dK kvs))(hl:kvs.length < VT):l8 H a (kV k) v (av H a (.dK (putK kvs k v))):= .inl ⟨kvs,k,e,rfl,hl,rfl⟩
section
variable {X:Cx} {Xz:List (VM×Obj)} {σ:St} {H:Hp} {s:VN} {a:VM} {y v:V} {u r:VJ} {o:Option V} {A:V1} {E:VJ->VN->Prop}
theorem ae.big(I:ae X Xz σ H s):Wo < s.heap.objs.size:=by
 have h:VX < s.heap.objs.size:=(I.mod.glob.keeps I.bk).lt;exact Nat.lt_trans VC h
theorem Ho{Q:VJ->VN->Prop}(hu:A.units+1 < V9)(I:ae X Xz σ H s)(g:c5 H a y (some v))(ry:aH y u)(h:∀w' s',ae X Xz σ H s'->aH v w'->Q w' s'):
 VQ (VS X.prog X.w) A (Wy (.ref a) u) Q E s:=by
 rcases g with⟨kvs,k,e,ey,l⟩ | ⟨kvs,k,b,e,ey,eb,l⟩
 ·subst ey;obtain⟨z,hd,vs,rel,dd⟩:=iI I.hok e;obtain⟨w',hw,rw'⟩:=fw.some_of (v:=v) (o:=valueAt vs k) (by rw [l];exact rel.val k);exact wpAny_getItem_of (ja ry) dd.mapOf hw (h w' _ (I.tok _) rw')
 ·subst ey;cases (show u=OU b from ry);obtain⟨z,hd,xs,rel,dd⟩:=jO I.hok e;obtain⟨w',hw,rw'⟩:=fw.some_of (v:=v) (o:=(atKey xs k).map (·.2)) (by rw [l];exact rel.val k);obtain⟨p,hp,hp2⟩:=Option.map_eq_some_iff.mp hw;refine wpAny_getItem_heap (WH hu) (kL I.hok eb) dd hp ?_;rw [hp2];exact h w' _ (I.tok _) rw'
theorem Hq{Q:VJ->VN->Prop}(hu:A.units+1 < V9)(I:ae X Xz σ H s)(g:c5 H a y o)(ry:aH y u)(h:∀s',ae X Xz σ H s'->Q (.bool o.isSome) s'):
 VQ (VS X.prog X.w) A (V2 .In u (.ref a)) Q E s:=by
 rcases g with⟨kvs,k,e,ey,l⟩ | ⟨kvs,k,b,e,ey,eb,l⟩
 ·subst ey;obtain⟨z,hd,vs,rel,dd⟩:=iI I.hok e;refine wpAny_in_of (ja ry) hd dd.mapOf ?_;rw [<-(rel.val k).isSome_eq,<-l];exact h _ (I.tok _)
 ·subst ey;cases (show u=OU b from ry);obtain⟨z,hd,xs,rel,dd⟩:=jO I.hok e;refine wpAny_in_heap (WH hu) (kL I.hok eb) hd dd ?_;have q:=(rel.val k).isSome_eq;rw [RX] at q;rw [<-q,<-l];exact h _ (I.tok _)
theorem Hr{Q:VJ->VN->Prop}(hu:A.units+1 < V9)(I:ae X Xz σ H s)(g:c5 H a y o)(ry:aH y u)(h:∀s',ae X Xz σ H s'->Q (.bool (!o.isSome)) s'):
 VQ (VS X.prog X.w) A (V2 .NotIn u (.ref a)) Q E s:=by
 rcases g with⟨kvs,k,e,ey,l⟩ | ⟨kvs,k,b,e,ey,eb,l⟩
 ·subst ey;obtain⟨z,hd,vs,rel,dd⟩:=iI I.hok e;refine wpAny_notIn_of (ja ry) hd dd.mapOf ?_;rw [<-(rel.val k).isSome_eq,<-l];exact h _ (I.tok _)
 ·subst ey;cases (show u=OU b from ry);obtain⟨z,hd,xs,rel,dd⟩:=jO I.hok e;refine wpAny_notIn_heap (WH hu) (kL I.hok eb) hd dd ?_;have q:=(rel.val k).isSome_eq;rw [RX] at q;rw [<-q,<-l];exact h _ (I.tok _)
theorem oH{h':VY}{t':Nat}{ob:HO}(I:ae X Xz σ H s)(mu:j7 (H a))(hs:QY a s.heap h')(he:∃q,h'.get? a=some q)(new:bI X.prog X.w (av H a ob) h' a ob):
 ae X Xz σ (av H a ob) {s with heap:=h',toks:=t'}:=
 I.write (x:=a) (e:=a) mu (.inl rfl) (λb q hb z=>(hs.2 b hb).trans z) he new
theorem rX{P:VW}{w:VZ}{H':Hp}{h':VY}{kvs:List (ak×V)}{vs:List (ak×VJ)}(z:kvs.length<=VT)(hd:(a==Wo)=false)(rel:KV kvs vs)(dd:h'.DictOf (cY P w) a vs):
 bI P w H' h' a (.dK kvs):=⟨z,hd,vs,rel,dd⟩
theorem Hs{H':Hp}{Q:Unit->VN->Prop}(hu:A.units+1 < V9)(I:ae X Xz σ H s)(g:l8 H a y v H')(ry:aH y u)(rv:aH v r)(h:∀s',ae X Xz σ H' s'->Q () s'):
 VQ (VS X.prog X.w) A (setItem (.ref a) u r) Q E s:=by
 rcases g with⟨kvs,k,e,ey,l,eH⟩ | ⟨kvs,k,b,e,ey,eb,l,eH⟩
 ·subst ey eH;obtain⟨z,hd,vs,rel,dd⟩:=rW I.hok e;have hz:vs.length<=VT:=by rw [<-rel.length];exact z
  have hl:(putK kvs k v).length<=VT:=by have:=oG kvs k v;omega
  refine wpAny_setItem_pairs (hsz:=hz) (ja ry) dd λh' dd' hs=>h _ ?_;have he:∃q,h'.get? a=some q:=let ⟨q,_,_,hq,_⟩:=dd';⟨q,hq⟩
  exact oH I (by rw [e];exact P1) hs he (rX hl hd (rel.put k rv) dd')
 ·subst ey eH;cases (show u=OU b from ry);obtain⟨z,hd,xs,rel,dd⟩:=Hn I.hok e;have hz:xs.length<=VT:=by rw [<-SE rel];exact z
  have hl:(putK kvs k v).length<=VT:=by have:=oG kvs k v;omega
  refine wpAny_setItem_heap (hsz:=hz) (WH hu) (kL I.hok eb) dd λh' dd' hs=>h _ ?_;obtain⟨q,es,ep,hq,h2,h3,h4,_,h5⟩:=dd';refine oH I (by rw [e];exact P1) hs ⟨q,hq⟩ ⟨hl,hd,_,(rel.put k eb rv).keeps λc ys ec=>?_,q,es,ep,hq,h2,h3,h4,h5⟩;rw [aE (ER ec e (λz=>nomatch z))];exact ec
end
def oI(i:VR):Prop:=∀ov iv,WY i false ov iv=operate [ov,iv] (Wy ov iv)
theorem Ht{prog:VW}{w:VZ}{A:V1}{E:VJ->VN->Prop}{s:VN}{env:Env}{value slice:VR}{pos:Pos}{T id:String}{Q:VJ->VN->Prop}
 (hl:typeLookup (.type T) "__getitem__"=pure (some (.builtin id)))(hs:oI slice)
 (h:VQ (VS prog w) A (eval value env) (λo s₁=>VQ (VS prog w) A (eval slice env) (λi s₂=>s₂.TypeIs o T/\VQ (VS prog w) A (Wy o i) Q E s₂) E s₁) E s):
 VQ (VS prog w) A (eval (.Subscript value slice pos) env) Q E s:=by
 refine Subscript_ (V8 h (λo s₁ h₁=>V8 h₁ (λi s₂ h₂=>?_) λ_ _ x=>x) λ_ _ x=>x);obtain⟨hT,h₂⟩:=h₂;unfold Xn;refine VL ?_;rw [getitemInPython_of_ne hT.not_modules];refine VL (wpAny_specialOf hT hl ?_);have fin:VQ (VS prog w) A (WY slice false o i) (λr s₃=>VQ (VS prog w) A (letTemporaryGo value o r >>=λ_=>pure r) Q E s₃) E s₂:=by
  rw [hs o i];exact wpAny_operating (V8 h₂ (λr s₃ h₃=>VL (wpAny_letTemporaryGo (VO h₃))) λ_ _ x=>x)
 first
  | exact VO (VL fin)
  | exact VL (VO (VL fin))
  | exact VL fin
theorem Hu{X:Cx}{Xz:List (VM×Obj)}{σ:St}{H:Hp}{s:VN}{a:VM}{y:V}{o:Option V}(I:ae X Xz σ H s)(g:c5 H a y o):s.TypeIs (.ref a) "dict":=by
 rcases g with⟨kvs,k,e,_,_⟩ | ⟨kvs,k,b,e,_,_,_⟩
 ·obtain⟨_,_,vs,_,dd⟩:=iI I.hok e;exact dd.typeIs
 ·obtain⟨_,_,xs,_,dd⟩:=jO I.hok e;exact dd.typeIs
def Hv(td ty:TE):TE:=λσ H Q=>td σ H λx H1=>ty σ H1 λy H2=>∃a v,x= .ref a/\c5 H2 a y (some v)/\Q v H2
def Hw(ty td:TE):TE:=λσ H Q=>ty σ H λy H1=>td σ H1 λx H2=>∃a o,x= .ref a/\c5 H2 a y o/\Q (.bl o.isSome) H2
def Hx(ty td:TE):TE:=λσ H Q=>ty σ H λy H1=>td σ H1 λx H2=>∃a o,x= .ref a/\c5 H2 a y o/\Q (.bl (!o.isSome)) H2
def Hy(td ty tv:TE):TS:=λD σ H=>tv σ H λv H1=>td σ H1 λx H2=>ty σ H2 λy H3=>∃a H4,x= .ref a/\l8 H3 a y v H4/\D.nx σ H4
section
variable {X:Cx} {o i e value:VR} {pos pos' tpos:Pos} {td ty tv:TE}
theorem Af(hu:X.A.units+1 < V9)(ho:PE X o td)(hi:PE X i ty)(hs:oI i):PE X (.Subscript o i pos) (Hv td ty):=by
 intro Xz s σ H Q I h;refine Ht PySem.F.slot_dict_getitem.lookup hs (az (ho Xz s σ H _ I h) λu s1 ⟨x,H1,I1,rx,q1⟩=>az (hi Xz s1 σ H1 _ I1 q1) λiv s2 ⟨y,H2,I2,ry,a,v,ex,g,q2⟩=>?_);subst ex;obtain rfl:u=OU a:=rx;exact⟨Hu I2 g,Ho hu I2 g ry λw' s3 I3 rw'=>⟨v,H2,I3,rw',q2⟩⟩
theorem Ag(hu:X.A.units+1 < V9)(hi:PE X i ty)(ho:PE X o td):PC X .In i o (Hw ty td):=by
 intro Xz s σ H Q I h;refine az (hi Xz s σ H _ I h) λiv s1 ⟨y,H1,I1,ry,q1⟩=>az (ho Xz s1 σ H1 _ I1 q1) λu s2 ⟨x,H2,I2,rx,a,ov,ex,g,q2⟩=>?_;subst ex;obtain rfl:u=OU a:=rx;exact Hq hu I2 g ry λs3 I3=>⟨.bl ov.isSome,H2,I3,rfl,q2⟩
theorem Ah(hu:X.A.units+1 < V9)(hi:PE X i ty)(ho:PE X o td):PC X .NotIn i o (Hx ty td):=by
 intro Xz s σ H Q I h;refine az (hi Xz s σ H _ I h) λiv s1 ⟨y,H1,I1,ry,q1⟩=>az (ho Xz s1 σ H1 _ I1 q1) λu s2 ⟨x,H2,I2,rx,a,ov,ex,g,q2⟩=>?_;subst ex;obtain rfl:u=OU a:=rx;exact Hr hu I2 g ry λs3 I3=>⟨.bl (!ov.isSome),H2,I3,rfl,q2⟩
theorem Hz(hu:X.A.units+1 < V9)(ho:PE X o td)(hi:PE X i ty)(hv:PE X value tv)(hs:Wb value (some (.Subscript o i pos')) pos.line X.env=pure false):
 PS X (.Assign [.Subscript o i pos'] value pos) (Hy td ty tv):=by
 intro Xz s σ H D I h;refine wpAny_Assign_Subscript (az (hv Xz s σ H _ I h) λr s1 ⟨v,H1,I1,rv,q1⟩=>az (ho Xz s1 σ H1 _ I1 q1) λu s2 ⟨x,H2,I2,rx,q2⟩=>az (hi Xz s2 σ H2 _ I2 q2) λiv s3 ⟨y,H3,I3,ry,a,H4,ex,g,q3⟩=>?_) hs;subst ex;obtain rfl:u=OU a:=rx;exact Hs hu I3 g ry rv λs4 I4=>⟨σ,H4,I4,q3⟩
end
theorem Ai{P:VW}{w:VZ}{H:Hp}(h:VY)(hb:Wo < h.objs.size):bI P w H (h.push {cls:= .type "dict",data:= .dict #[]}) h.objs.size (.dK []):=
 ⟨PK _,beq_eq_false_iff_ne.mpr (Ne.symm (OX hb)),[],.nil,VB h⟩
def HA:TE:=λ_ H Q=>∀p,H p=none->Q (.ref p) (av H p (.dK []))
section
variable {X:Cx} {pos:Pos}
theorem Aj:PE X (.Dict [] [] pos) HA:=λXz s σ H Q I h=>
 wpAny_Dict_empty ⟨.ref s.heap.objs.size,_,I.laid (a:=s.heap.objs.size) (o:= .dK []) (t':=s.toks) (λ_ _ q=>Oo _ q) (Ot _) (Ai s.heap I.big),rfl,h _ (I.hok.fresh (Ot _))⟩
end
def oJ:List (TE×TE)->St->Hp->(List (V×V)->Hp->Prop)->Prop
 | [],_,H,Q=>Q [] H
 | (tk,tv)::r,σ,H,Q=>tk σ H λx H1=>tv σ H1 λy H2=>oJ r σ H2 λps H3=>Q ((x,y)::ps) H3
abbrev VV:List (V×V)->List (VJ×VJ)->Prop:=Paired λp q=>aH p.1 q.1/\aH p.2 q.2
def l9(X:Cx)(pos:Pos)(keys:List (Option VR))(values:List VR)(trs:List (TE×TE)):Prop:=
 ∀(Xz:List (VM×Obj))(s:VN)(σ:St)(H:Hp)(Q:List (V×V)->Hp->Prop),ae X Xz σ H s->oJ trs σ H Q->
  VQ (VS X.prog X.w) X.A (evalPairs (pairTrees keys values X.env pos)) (λvs s'=>∃ps H',ae X Xz σ H' s'/\VV ps vs/\Q ps H') X.xe s
theorem HB{X:Cx}{pos:Pos}:l9 X pos [] [] []:=λXz s σ H Q I h=>pairTrees_nil_walk ⟨[],H,I,.nil,h⟩
theorem HC{X:Cx}{pos:Pos}{k v:VR}{ks:List (Option VR)}{vs:List VR}{tk tv:TE}{trs:List (TE×TE)}(hk:PE X k tk)(hv:PE X v tv)(hr:l9 X pos ks vs trs):
 l9 X pos (some k::ks) (v::vs) ((tk,tv)::trs):=λXz s σ H Q I h=>
 pairTrees_cons_walk (az (hk Xz s σ H _ I h) λu s1 ⟨x,H1,I1,rx,q1⟩=>az (hv Xz s1 σ H1 _ I1 q1) λw2 s2 ⟨y,H2,I2,ry,q2⟩=>
  az (hr Xz s2 σ H2 _ I2 q2) λws s3 uu81=>by obtain⟨ps,H3,I3,rel,q3⟩:=uu81;exact⟨(x,y)::ps,H3,I3,.cons ⟨rx,ry⟩ rel,q3⟩)
def hV(kvs more:List (ak×V)):List (ak×V):=more.foldl (λacc kv=>putK acc kv.1 kv.2) kvs
theorem KV.merge:∀{more:List (ak×V)}{rs:List (ak×VJ)}{kvs:List (ak×V)}{vs:List (ak×VJ)},KV more rs->KV kvs vs->KV (hV kvs more) (merged vs rs):=by
 intro more rs kvs vs r;unfold KV at r
 induction r generalizing kvs vs with
 | nil=>intro q;exact q
 | @cons p q ps qs h t ih=>
  intro r0;have e:KV (putK kvs p.1 p.2) (stored vs q.1 q.2):=by
   have:=r0.put p.1 h.2;rw [<-h.1];exact this
  exact ih e
theorem Ak:∀(more kvs:List (ak×V)),(hV kvs more).length<=kvs.length+more.length
 | [],kvs=>by show kvs.length<=kvs.length+0;omega
 | p::r,kvs=>by
  have h1:=Ak r (putK kvs p.1 p.2);have h2:=oG kvs p.1 p.2;show(hV (putK kvs p.1 p.2) r).length<=_;rw [OG];omega
theorem Al{P:VW}{w:VZ}:∀{kvs:List (ak×V)}{ws:List (VJ×VJ)},VV (kvs.map λkv=>(kV kv.1,kv.2)) ws->∃rs,Carries (cY P w) ws rs/\KV kvs rs
 | [],_,r=>by rw [PV] at r;cases r;exact⟨[],P1,.nil⟩
 | p::kvs,_,r=>by
  rw [Ov] at r;cases r with
  | @cons a b as bs h t=>
   obtain⟨rs,c,q⟩:=Al (P:=P) (w:=w) t;obtain⟨b1,b2⟩:=b;exact⟨(p.1,b2)::rs,⟨ja h.1,rfl,c⟩,.cons ⟨rfl,h.2⟩ q⟩
def HD(trs:List (TE×TE)):TE:=λσ H Q=>∀p,H p=none->oJ trs σ (av H p (.dK [])) λps H2=>H2 p=some (.dK [])/\∃kvs:List (ak×V),ps=kvs.map (λkv=>(kV kv.1,kv.2))/\kvs.length<=15/\Q (.ref p) (av H2 p (.dK (hV [] kvs)))
theorem Am{X:Cx}{pos:Pos}{keys:List (Option VR)}{values:List VR}{trs:List (TE×TE)}(h:l9 X pos keys values trs)(hall:keys.all (·.isSome)=true)(hl:keys.length=values.length)(h0:keys≠[])
 (h15:keys.length<=15):PE X (.Dict keys values pos) (HD trs):=by
 intro Xz s σ H Q I q;have hn:=I.hok.fresh (Ot s.heap.objs.size);have I1:=I.laid (a:=s.heap.objs.size) (o:= .dK []) (h':=s.heap.push {cls:= .type "dict",data:= .dict #[]}) (t':=s.toks) (λ_ _ q=>Oo _ q) (Ot _) (Ai s.heap I.big);refine wpAny_Dict_walk (knd:=cY X.prog X.w) hall hl h0 h15 (az (h Xz _ σ _ _ I1 (q _ hn)) λws s2 ⟨ps,H2,I2,rel,e,kvs,ep,lk,q2⟩=>?_);subst ep;obtain⟨rs,c,rk⟩:=Al (P:=X.prog) (w:=X.w) rel;obtain⟨z,hd,vs0,r0,dd⟩:=rW I2.hok e;cases r0;refine⟨rs,c,dd,λh' dd' hs=>⟨.ref s.heap.objs.size,_,?_,rfl,q2⟩⟩;have hz:(hV [] kvs).length<=VT:=by
  have h1:=Ak kvs [];rw [Qx] at h1;rw [Wq];omega
 have he:∃q,h'.get? s.heap.objs.size=some q:=let ⟨q,_,_,hq,_⟩:=dd';⟨q,hq⟩
 exact oH I2 (by rw [e];exact P1) hs he (rX hz hd (rk.merge .nil) dd')
structure M1 (X:Cx) (o:VR) (m:Str) (apos:Pos) (e:VR) (cpos:Pos):Prop where
 base:WC o m X.env (eval o X.env)=eval o X.env
 few:((V6 cpos (VP [e] X.env)).all (λx=>!x.1) && (Xb cpos (WM [] X.env)).all (λx=>x.1.isSome)
  && decide (([e]:List VR).length+([]:List Wu).length+(if ([]:List Wu).isEmpty then 0 else 1) < 30))=true
 line:(apos.endLine==cpos.line)=true
 trees:V6 cpos (VP [e] X.env)=[(false,eval e X.env)]
structure M2 (X:Cx) (o:VR) (m:Str) (apos:Pos) (e f:VR) (cpos:Pos):Prop where
 base:WC o m X.env (eval o X.env)=eval o X.env
 few:((V6 cpos (VP [e,f] X.env)).all (λx=>!x.1) && (Xb cpos (WM [] X.env)).all (λx=>x.1.isSome)
  && decide (([e,f]:List VR).length+([]:List Wu).length+(if ([]:List Wu).isEmpty then 0 else 1) < 30))=true
 line:(apos.endLine==cpos.line)=true
 trees:V6 cpos (VP [e,f] X.env)=[(false,eval e X.env),(false,eval f X.env)]
def rY(H:Hp)(a:VM):Prop:=(∃kvs,Rd H a (.dK kvs))\/∃kvs,Rd H a (.dT kvs)
theorem An{X:Cx}{Xz:List (VM×Obj)}{σ:St}{H:Hp}{s:VN}{a:VM}(I:ae X Xz σ H s)(d:rY H a):
 s.TypeIs (.ref a) "dict"/\(∀b,OU a= .ref b->∃ob,s.heap.get? b=some ob/\ob.dict=none)/\(a==Wo)=false:=by
 rcases d with⟨kvs,e⟩ | ⟨kvs,e⟩
 ·obtain⟨_,hd,vs,_,dd⟩:=iI I.hok e;refine⟨dd.typeIs,λb q=>?_,hd⟩;cases q;obtain⟨ob,_,_,h1,h2,_⟩:=dd;exact⟨ob,h1,h2.2.1⟩
 ·obtain⟨_,hd,xs,_,dd⟩:=jO I.hok e;refine⟨dd.typeIs,λb q=>?_,hd⟩;cases q;obtain⟨ob,_,_,h1,h2,_⟩:=dd;exact⟨ob,h1,h2.2.1⟩
section
variable {X:Cx} {Xz:List (VM×Obj)} {σ:St} {H:Hp} {s:VN} {a:VM} {y d:V} {u r:VJ} {o:Option V} {A:V1} {E:VJ->VN->Prop}
theorem HE{Q:VJ->VN->Prop}(hu:A.units+1 < V9)(I:ae X Xz σ H s)(g:c5 H a y o)(ry:aH y u)(h:∀w' s',ae X Xz σ H s'->aH (o.getD .non) w'->Q w' s'):
 VQ (VS X.prog X.w) A (call (.builtin "dict.get") [.ref a,u]) Q E s:=by
 rcases g with⟨kvs,k,e,ey,l⟩ | ⟨kvs,k,b,e,ey,eb,l⟩
 ·subst ey;obtain⟨z,hd,vs,rel,dd⟩:=iI I.hok e;refine call_meetsIn Se dd.typeIs Tr (Tf _ _) (meets_dict_get (cY X.prog X.w) a (ja ry) hd) ⟨_,dd.mapOf,h _ _ (I.tok _) ?_⟩;rw [l];exact(rel.val k).getD rfl
 ·subst ey;cases (show u=OU b from ry);obtain⟨z,hd,xs,rel,dd⟩:=jO I.hok e;refine call_meetsIn Se dd.typeIs Tr (Tf _ _) (meetsH_dict_get (Xf (cY X.prog X.w)) a b hd) ⟨WH hu,k,xs,kL I.hok eb,dd,h _ _ (I.tok _) ?_⟩;rw [l];exact(rel.val k).getD rfl
end
def HF(td ty:TE):TE:=λσ H Q=>td σ H λx H1=>∃a,x= .ref a/\rY H1 a/\ty σ H1 λy H2=>∃o,c5 H2 a y o/\Q (o.getD .non) H2
section
variable {X:Cx} {o e f:VR} {apos cpos:Pos} {td ty tx:TE}
theorem HG(hu:X.A.units+1 < V9)(ho:PE X o td)(he:PE X e ty)(m:M1 X o "get" apos e cpos):PE X (.Call (.Attribute o "get" apos) [e] [] cpos) (HF td ty):=by
 intro Xz s σ H Q I h;refine wpAny_Call_method m.base m.few m.line Tg Se PySem.F.type_dict_get (az (ho Xz s σ H _ I h) λu s1 ⟨x,H1,I1,rx,a,ex,d,q1⟩=>?_);subst ex;obtain rfl:u=OU a:=rx;obtain⟨t1,t2,_⟩:=An I1 d;refine⟨t1,t2,?_⟩;rw [m.trees];refine R4 rfl (Ry (QZ (az (he Xz s1 σ H1 _ I1 q1) λiv s2 ⟨y,H2,I2,ry,ov,g,q2⟩=>RV ?_)));exact HE hu I2 g ry λw' s3 I3 rw'=>⟨_,H2,I3,rw',q2⟩
end
section
variable {X:Cx} {H0:Hp} {O0:Ex}
def litsOf:List VR->Option (List VI)
 | []=>some []
 | .Constant (.int i) _ _::r=>(litsOf r).map (.int i::·)
 | .Constant (.str x) _ _::r=>(litsOf r).map (.str x::·)
 | _::_=>none
def rZ(ds:List VI):DA:=λ_ Q=>Q ds
theorem jP:∀{es:List VR}{ds:List VI},litsOf es=some ds->PA X es (d8 X.K H0 O0 (rZ ds))
 | [],ds,h=>by cases h;exact ag
 | e::r,ds,h=>by
  cases e with
  | Constant c j p=>
   cases c with
   | int i=>
    have h':(litsOf r).map (.int i::·)=some ds:=h;cases q:litsOf r with
    | none=>rw [q] at h';cases h'
    | some ms=>rw [q] at h';cases h';exact aa af (jP q)
   | str x=>
    have h':(litsOf r).map (.str x::·)=some ds:=h;cases q:litsOf r with
    | none=>rw [q] at h';cases h'
    | some ms=>rw [q] at h';cases h';exact aa aJ (jP q)
   | _=>cases h
  | _=>cases h
def litsE:VR->Option (List VI)
 | .List es _=>litsOf es
 | _=>none
theorem sa{e:VR}{ds:List VI}(h:litsE e=some ds):FE X H0 O0 e (rP (rZ ds)):=by
 cases e with
 | List es p=>exact cZ (jP h)
 | _=>cases h
theorem HH{e:VR}{ds:List VI}{x:Option VR}{n:Nat}{env:Env}(h:litsE e=some ds):Wb e x n env=pure false:=by
 cases e with
 | List es p=>rfl
 | _=>cases h
end
structure cQ (n:Nat) (x:Str):Prop where
 ok:O5 x=true
 le:x.length<=n
theorem jb{x:Str}:O5 x=true↔∀c∈x.cps.toList,c < 0x110000:=by
 unfold O5;rw [<-Array.all_toList,Qe];simp
theorem mf(x y:Str):(x++y).cps=x.cps++y.cps:=rfl
theorem Ao(x y:Str):(x++y).length=x.length+y.length:=by
 show(x.cps++y.cps).size=_;rw [Array.size_append];rfl
theorem cQ.append{a b:Nat}{x y:Str}(h:cQ a x)(h':cQ b y):cQ (a+b) (x++y):=by
 refine⟨jb.mpr λc hc=>?_,by rw [Ao];have:=h.le;have:=h'.le;omega⟩;rw [mf,QA] at hc;rcases OJ.mp hc with z | z
 ·exact jb.mp h.ok c z
 ·exact jb.mp h'.ok c z
theorem cQ.mono{a b:Nat}{x:Str}(h:cQ a x)(hb:a<=b):cQ b x:=⟨h.ok,OZ h.le hb⟩
theorem cQ.slice{a:Nat}{x:Str}(h:cQ a x)(l u:Option Int):cQ a (Txt.slice x l u):=by
 refine⟨jb.mpr λc hc=>?_,OZ (Txt.slice_le x l u) h.le⟩;unfold Txt.slice at hc;split at hc
 ·exact jb.mp h.ok c hc
 ·simp only [QE] at hc;obtain⟨i,_,hi⟩:=hc;exact jb.mp h.ok c (by
   have:=Array.mem_of_getElem? hi;simpa using this)
theorem cQ.chr{c:Nat}(h:c < 0x110000):cQ 1 ⟨#[c]⟩:=⟨jb.mpr λd hd=>by
 have:d=c:=by simpa using hd
 rw [this];exact h,Ot _⟩
theorem cQ.join:∀{ys:List Str},(∀y∈ys,cQ 1 y)->cQ ys.length (Txt.join "" ys):=by
 have key:∀ys:List Str,(∀y∈ys,cQ 1 y)->cQ ys.length (UO "" ys):=by
  intro ys
  induction ys with
  | nil=>intro _;exact⟨Ce,Ce⟩
  | cons y r ih=>
   intro h;cases r with
   | nil=>exact h y VH
   | cons z r=>
    have a:=h y VH;have b:=ih λw hw=>h w (by simp [hw]);have e:cQ 0 ("":Str):=⟨Ce,Ce⟩;have:=(a.append e).append b;refine this.mono ?_;simp only [OG];omega
 intro ys h;have e:Txt.join "" ys=UO "" ys:=Tw "" ys;rw [e];exact key ys h
def dD:Str:="abcdefghijklmnopqrstuvwxyz"
theorem HI:dD.cps.toList.length=26:=Ce
theorem HJ:dD.cps.toList.Nodup:=Ce
theorem Ap:∀c∈dD.cps.toList,c < 0x110000:=Ce
theorem mh{j:Int}(h0:0<=j)(h1:j < 26):∃c,atI dD.cps.toList j=some c/\dD.cps.toList[j.toNat]?=some c/\c < 0x110000:=by
 obtain⟨k,rfl⟩:=P8 h0;have hk:k < dD.cps.toList.length:=by rw [HI];omega
 refine⟨dD.cps.toList[k],dG (by simp [hk]),by simp [hk],Ap _ (PB hk)⟩
def c7(j:Int):Nat:=(dD.cps.toList[j.toNat]?).getD 0
theorem HK{j:Int}(h0:0<=j)(h1:j < 26):atI dD.cps.toList j=some (c7 j)/\c7 j < 0x110000:=by
 obtain⟨c,e1,e2,e3⟩:=mh h0 h1;have:c7 j=c:=by unfold c7;rw [e2];rfl
 rw [this];exact⟨e1,e3⟩
theorem HL{i j:Int}(h0:0<=i)(h1:i < 26)(g0:0<=j)(g1:j < 26)(e:c7 i=c7 j):i=j:=by
 obtain⟨c,_,e2,_⟩:=mh h0 h1;obtain⟨d,_,e4,_⟩:=mh g0 g1;have a:c7 i=c:=by unfold c7;rw [e2];rfl
 have b:c7 j=d:=by unfold c7;rw [e4];rfl
 have cd:c=d:=by rw [<-a,<-b,e]
 subst cd;have hi:i.toNat < dD.cps.toList.length:=(Oy.mp e2).1;have:=(UA (l:=dD.cps.toList) (i:=i.toNat) (j:=j.toNat) hi HJ).mp (by rw [e2,e4]);omega
structure cK (n:Nat) (d:VI):Prop where
 can:d.canLay0=true
 dep:d.depth<=n
theorem cK.shp{n:Nat}{d:VI}(h:cK n d)(hn:n<=64):OA d=true:=by
 unfold OA;rw [h.can,decide_eq_true (OZ h.dep hn)];rfl
theorem cK.mono{n m:Nat}{d:VI}(h:cK n d)(hn:n<=m):cK m d:=⟨h.can,OZ h.dep hn⟩
theorem Aq{x:Str}(h:O5 x=true):cK 1 (.str x):=⟨by simpa [Ph] using h,by simp [RK]⟩
theorem HM{i:Int}:cK 1 (.int i):=⟨by simp [Ph],by simp [RK]⟩
theorem HN{i:Bool}:cK 1 (.bool i):=⟨by simp [Ph],by simp [RK]⟩
theorem oK{n:Nat}:∀{ds:List VI},(∀d∈ds,cK n d)->Pj ds=true/\QO ds<=n
 | [],_=>⟨by simp [Pj],by simp [QO]⟩
 | d::r,h=>by
  obtain⟨a,b⟩:=oK (ds:=r) λe he=>h e (by simp [he]);have c:=h d VH;refine⟨by rw [Pj,c.can,a];rfl,?_⟩;rw [QO];exact Nat.max_le.mpr ⟨c.dep,b⟩
theorem dN{n:Nat}{ds:List VI}(h:∀d∈ds,cK n d):cK (n+1) (.tuple ds):=by
 obtain⟨a,b⟩:=oK h;refine⟨by simpa [Ph] using a,?_⟩;rw [RK];omega
def PU(X:Cx)(e:VR)(te:TE):Prop:=∀(i:Nat)(x:Str)(pos' spos:Pos)(hN:X.N.Nodup)(hxi:X.N[i]?=some x)(hx:gY X.env.scope x)(hsw:Wb e (some (.Name x pos')) spos.line X.env=pure true)
 (hfn:X.fn x=true\/X.env.scope.names.lookup x=some .local),PS X (.Assign [.Name x pos'] e spos) (kh te (iY i))
theorem PU.imp{X:Cx}{e:VR}{t u:TE}(h:PU X e t)(i:∀σ H Q,u σ H Q->t σ H Q):PU X e u:=λi' x p1 p2 hN hxi hx hsw hfn=>(h i' x p1 p2 hN hxi hx hsw hfn).imp λD σ H z=>i σ H _ z
section
variable {X:Cx} {H0:Hp} {O0:Ex}
section
variable {tg iter elt:VR} {ifs:List VR} {scope:Wc} {N':List Str} {k:Nat} {fr:List Nat} {g:TG} {dg:DG} {t:DT} {ta:DA} {tc:DB} {te:DT} {pos p ps:Pos}
theorem Ar{wi:TI}{tc:TT}{te:TE}(hc:X.calm=true)(S:bt X.env.scope X.N N' k fr scope)(hi:PI X tg iter wi)
 (hg:∀fp C s H,PG (bE X scope N' fp C s H) tg g)(hf:∀fp C s H,d5 (bE X scope N' fp C s H) ifs tc)(he:∀fp C s H,PE (bE X scope N' fp C s H) elt te)
 (hs:∀x,V5 iter X.env x=pure x:=by intro _;rfl):PU X (.ListComp elt [⟨tg,iter,ifs,0⟩] scope pos) (i6 wi g tc te k fr):=
 λ_ _ _ _ hN hxi hx hsw hfn=>Gs hN hxi hx hc S hi hg hf he hsw hs hfn
theorem oM(hc:X.calm=true)(S:bt X.env.scope X.N N' k fr scope)(hi:DF X H0 O0 iter t)(gd:GD X.K g dg)(hk:iF g k)(hfr:fr.Nodup)
 (hg:∀fp C s H,PG (bE X scope N' fp C s H) tg g)(hf:∀fp C s H,d5 (bE X scope N' fp C s H) ifs (bP X.K H0 O0 tc))(he:∀fp C s H,PE (bE X scope N' fp C s H) elt (up X.K H0 O0 te))
 (hs:∀x,V5 iter X.env x=pure x:=by intro _;rfl):PU X (.ListComp elt [⟨tg,iter,ifs,0⟩] scope pos) (lV X.K H0 O0 (oA t dg tc te k fr)):=
 (Ar hc S (qM hi) hg hf he hs).imp λσ H Q uu85=>by obtain⟨O,δ,Qd,w,q,kk⟩:=uu85;exact⟨O,δ,_,w,q,λd v H1 uu86 s1 r1=>by
  obtain⟨xs,e,hz,q1⟩:=uu86;subst e;obtain⟨a,vs,rfl,hq,rr⟩:=r1.lst;refine⟨a,rfl,⟨_,hq⟩,λD hD=>jI (cN.list hq) gd hfr (λv _ H' R h=>hk fr σ v H' R h) (λ_ _ _ z=>z) (λ_ _ _ z=>z) (λD H' hD s' o e=>s' _ _ e (cR e hD)) rr (w.mono s1) (by rw [rr.length];exact hz) q1 (λds us p H' z s' hp r'=>kk ds us p H' z (s1.trans s') hp r') D hD⟩⟩
end
theorem mi{i:Nat}{x:Str}{e:VR}{t:DA}{pos pos':Pos}(hN:X.N.Nodup)(hi:X.N[i]?=some x)(hx:gY X.env.scope x)(he:PU X e (lV X.K H0 O0 t))(hs:Wb e (some (.Name x pos')) pos.line X.env=pure true:=by rfl)(hf:X.fn x=true\/X.env.scope.names.lookup x=some .local:=by first | exact .inl rfl | exact .inr rfl | assumption):
 PS X (.Assign [.Name x pos'] e pos) (bw X.K H0 O0 (rM i (dL t))):=
 (he _ _ _ _ hN hi hx hs hf).imp λD σ H ⟨O,δ,E,w,q,k1,k2,k3,k4⟩=>⟨O,δ,_,w,q,λds vs p H1 q1 s1 hp r1=>
  k1 O _ _ _ q1 ((w.mono (s1.trans (au.new hp))).set (.lst (.inl bb) (kA w s1 hp) (r1.mono (au.new hp)))) (.same (s1.trans (au.new hp)))⟩
end
mutual
theorem sg:∀d e:VI,Om d e=Om e d
 | .list xs,.list ys=>by rw [Om,Om];exact si xs ys
 | .tuple xs,.tuple ys=>by rw [Om,Om];exact si xs ys
 | .bool _,.bool _ | .int _,.int _ | .str _,.str _=>by simp only [Om];exact So
 | .bool a,.int j | .int j,.bool a=>by simp only [Om];exact So
 | .none,.none=>rfl
 | .dict _,.dict _=>by simp only [Om]
 | .none,.bool _ | .none,.int _ | .none,.str _ | .none,.list _ | .none,.tuple _ | .none,.dict _=>by simp only [Om]
 | .bool _,.none | .bool _,.str _ | .bool _,.list _ | .bool _,.tuple _ | .bool _,.dict _=>by simp only [Om]
 | .int _,.none | .int _,.str _ | .int _,.list _ | .int _,.tuple _ | .int _,.dict _=>by simp only [Om]
 | .str _,.none | .str _,.bool _ | .str _,.int _ | .str _,.list _ | .str _,.tuple _ | .str _,.dict _=>by simp only [Om]
 | .list _,.none | .list _,.bool _ | .list _,.int _ | .list _,.str _ | .list _,.tuple _ | .list _,.dict _=>by simp only [Om]
 | .tuple _,.none | .tuple _,.bool _ | .tuple _,.int _ | .tuple _,.str _ | .tuple _,.list _ | .tuple _,.dict _=>by simp only [Om]
 | .dict _,.none | .dict _,.bool _ | .dict _,.int _ | .dict _,.str _ | .dict _,.list _ | .dict _,.tuple _=>by simp only [Om]
theorem si:∀xs ys:List VI,Pu xs ys=Pu ys xs
 | [],[]=>rfl
 | x::xs,y::ys=>by rw [Pu,Pu,sg x y,si xs ys]
 | [],_::_=>by rw [Pu,Pu]
 | _::_,[]=>by rw [Pu,Pu]
end
def sj(z:Str):It:=⟨λi _=>i < z.cps.size,λi H x H'=>H'=H/\∃c,z.cps[i]?=some c/\x= .str ⟨#[c]⟩,λi _=>z.cps.size<=i⟩
theorem HP(z:Str):["enumerate","zip","dict_itemiterator","dict_reverseitemiterator","odict_iterator","itertools.zip_longest","itertools.pairwise"].contains (W0 z)=false:=by
 unfold W0;split <;> decide
theorem As{P:VW}{w:VZ}{A:V1}(hh:A.handled=none)(I:VM)(z:Str)(t:Tok):Walks P w A I [I] [I] z.cps.size (SignAt z) (λi h=>h.IsStrIter I (W0 z) z t i):=by
 unfold W0;split
 ·exact Walks.strAscii hh I z t
 ·exact Walks.strWide hh I z t
theorem HQ{P:VW}{w:VZ}{K:Og}{tg:VR}(it:VM)(z:Str)(t:Tok):lE P w K tg (sj z) [it] it (λi h=>h.IsStrIter it (W0 z) z t i/\i<=z.cps.size) where
 mem:=VH
 obj:=λi h st b hb=>by
  have e:b=it:=by simpa using hb
  subst e;obtain⟨⟨o,e,c,d⟩,_⟩:=st;exact⟨o,e,λv z=>by rw [d] at z;cases z⟩
 keep:=λi h h' st k=>by
  obtain⟨⟨o,e,c,d⟩,l⟩:=st;exact⟨⟨o,k it VH o e,c,d⟩,l⟩
 item:=by
  intro X hP hw hK hc i Xz s σ H E I hf st hg;subst hP hw hK;obtain⟨f0,f1,f2,f3,f4,f5⟩:=hf it VH;have W:=As (P:=X.prog) (w:=X.w) (I.ok.hd hc) it z t;refine W.item i s _ _ hg st.1 λv h' tk hv st' kk=>?_;obtain⟨c,u,hc',rfl⟩:=hv;have I1:ae X Xz σ H {s with heap:=h',toks:=tk}:=I.turned (λb o hb e=>kk b o (by simpa using hb) e) f0 f1 f3 f4 f5;obtain⟨o,e,cc,d⟩:=id st';exact⟨_,rfl,nI (s:={s with heap:=h',toks:=tk}) e cc d (HP z) ⟨.str ⟨#[c]⟩,H,I1,⟨u,rfl⟩,⟨rfl,c,hc',rfl⟩,⟨st',hg⟩,λb hb=>(hf b hb).1⟩⟩
 done:=by
  intro X hP hw hK hc i Xz s σ H E I hf st hg;subst hP hw hK;obtain⟨f0,f1,f2,f3,f4,f5⟩:=hf it VH;have W:=As (P:=X.prog) (w:=X.w) (I.ok.hd hc) it z t;have e:i=z.cps.size:=Nat.le_antisymm st.2 hg;subst e;exact W.done s _ _ st.1 λh' tk eb=>⟨rfl,I.turned (λb o hb e=>eb b o (by simpa using hb) e) f0 f1 f3 f4 f5⟩
 self:=λA i s Q E st h=>by
  obtain⟨st,_⟩:=st
  revert st
  unfold W0;split
  ·exact λst=>wpAny_pyIter_striter_ascii st h
  ·exact λst=>wpAny_pyIter_striter_wide st h
def HR(tl:TE):TI:=λσ H R=>tl σ H λx H1=>∃z,x= .str z/\R (sj z) H1
theorem HS{X:Cx}{tg l:VR}{tl:TE}(hl:PE X l tl):PI X tg l (HR tl):=by
 intro Xz s σ H R I h;refine az (hl Xz s σ H _ I h) λv s1 ⟨x,H1,I1,r1,q1⟩=>?_;obtain⟨z,e,q⟩:=q1;subst e;obtain⟨t,rfl⟩:=r1;refine wpAny_pyIter_strU ?_;refine⟨s1.heap.objs.size,[s1.heap.objs.size],_,_,H1,rfl,I1.kept (t':=s1.toks) λb o e=>Oo _ e,HQ _ z t,⟨⟨_,OP _ rfl,rfl,rfl⟩,PK _⟩,λb hb=>?_,q⟩;have e:b=s1.heap.objs.size:=by simpa using hb
 subst e;exact I1.fpOk (Ot _) (I1.hok.fresh (Ot _))
def Au(z:Str):List VI:=z.cps.toList.map λc=>.str ⟨#[c]⟩
theorem cN.str{z:Str}:cN (sj z) (λ_=>True) (z.cps.toList.map λc=>V.str ⟨#[c]⟩):=by
 refine⟨λi H' s hi=>(by simpa using hi:i < z.cps.size),λi H' x H'' s hi y=>⟨y.1,?_⟩,λi H' s hi=>(by simpa using hi:z.cps.size<=i)⟩;obtain⟨_,c,hc,rfl⟩:=y;simp [hc]
theorem aq.signs{K:Og}{H:Hp}{O:Ex}:∀(l:List Nat),aq K H O (l.map λc=>V.str ⟨#[c]⟩) (l.map λc=>Ol ⟨#[c]⟩)
 | []=>.nil
 | n::r=>.cons (.str _) (aq.signs r)
section
variable {X:Cx} {H0:Hp} {O0:Ex}
def Av(t:DT)(g:DG)(tc:DB)(te:DT)(k:Nat)(fr:List Nat):DA:=λδ Q=>t δ λd=>∃z,d= .str z/\z.length<=VT/\fA g tc te (eM k fr δ) (Au z) Q
def Aw(ta:DA)(g:DG)(tc:DB)(te:DT)(k:Nat)(fr:List Nat):DA:=λδ Q=>ta δ λds=>∃i j:Int,ds=[.int i,.int j]/\-(2 ^ 62)<=i/\j - i < VT/\i < 2 ^ 62/\-(2 ^ 62)<=j/\j < 2 ^ 62/\fA g tc te (eM k fr δ) (eZ i (j - i).toNat) Q
section
variable {tg iter elt:VR} {ifs:List VR} {scope:Wc} {N':List Str} {k:Nat} {fr:List Nat} {g:TG} {dg:DG} {t:DT} {ta:DA} {tc:DB} {te:DT} {pos p ps:Pos}
theorem HU(hc:X.calm=true)(S:bt X.env.scope X.N N' k fr scope)(hi:DF X H0 O0 iter t)(gd:GD X.K g dg)(hk:iF g k)(hfr:fr.Nodup)
 (hg:∀fp C s H,PG (bE X scope N' fp C s H) tg g)(hf:∀fp C s H,d5 (bE X scope N' fp C s H) ifs (bP X.K H0 O0 tc))(he:∀fp C s H,PE (bE X scope N' fp C s H) elt (up X.K H0 O0 te))
 (hs:∀x,V5 iter X.env x=pure x:=by intro _;rfl):FE X H0 O0 (.ListComp elt [⟨tg,iter,ifs,0⟩] scope pos) (Av t dg tc te k fr):=
 (lT hc S (HS hi) hg hf he hs).imp λσ H Q uu89=>by obtain⟨O,δ,Qd,w,q,kk⟩:=uu89;exact⟨O,δ,_,w,q,λd v H1 uu90 s1 r1=>by
  obtain⟨z,e,hz,q1⟩:=uu90;subst e;cases r1.str;have hz':(z.cps.toList.map λc=>V.str ⟨#[c]⟩).length<=VT:=by rw [Oi,OO];exact hz
  exact⟨z,rfl,λD hD=>jI (P:=λ_=>True) cN.str gd hfr (λv _ H' R h=>hk fr σ v H' R h) (λ_ _ _ z=>z) (λ_ _ _ z=>z) (λ_ _ _ _=>trivial) (aq.signs _) (w.mono s1) hz' q1 (λds us p H' z s' hp r'=>kk ds us p H' z (s1.trans s') hp r') D hD⟩⟩
theorem Ax(hc:X.calm=true){a b:VR}(S:bt X.env.scope X.N N' k fr scope)(hgl:Gl X "range")(hm:X.mg "range"=none)(ha:PA X [a,b] (fz X.K H0 O0 ta))(gd:GD X.K g dg)(hk:iF g k)(hfr:fr.Nodup)
 (hg:∀fp C s H,PG (bE X scope N' fp C s H) tg g)(hf:∀fp C s H,d5 (bE X scope N' fp C s H) ifs (bP X.K H0 O0 tc))(he:∀fp C s H,PE (bE X scope N' fp C s H) elt (up X.K H0 O0 te))
 (hst:VP [a,b] X.env=[(false,eval a X.env),(false,eval b X.env)]:=by rfl)(hst2:VP [b] X.env=[(false,eval b X.env)]:=by rfl)(hs:∀x,V5 (.Call (.Name "range" p) [a,b] [] ps) X.env x=pure x:=by intro _;rfl):
 FE X H0 O0 (.ListComp elt [⟨tg,(.Call (.Name "range" p) [a,b] [] ps),ifs,0⟩] scope pos) (Aw ta dg tc te k fr):=
 (lT hc S (vf hgl hm ha hst hst2) hg hf he hs).imp λσ H Q uu91=>by obtain⟨O,δ,Qd,w,q,kk⟩:=uu91;exact⟨O,δ,_,w,q,λds vs H1 uu92 s1 r1=>by
  obtain⟨i,j,e,b1,b2,b3,b4,b5,q1⟩:=uu92;subst e;cases r1 with
  | cons r1 r2=>
   cases r2 with
   | cons r2 r3=>
    cases r3;cases r1.int;cases r2.int;exact⟨i,j,rfl,⟨b1,b3,b4,b5⟩,λD hD=>jI (P:=λ_=>True) cN.rng gd hfr (λv _ H' R h=>hk fr σ v H' R h) (λ_ _ _ z=>z) (λ_ _ _ z=>z) (λ_ _ _ _=>trivial) (aq.rng _) (w.mono s1) (by rw [Oi,Ro];omega) q1 (λds us p H' z s' hp r'=>kk ds us p H' z (s1.trans s') hp r') D hD⟩⟩
end
def sk(K:Og)(neg:Bool):R2:=λx y H Q=>∃O dx ds dy,Sh K H O x dx/\Sh K H O y dy/\(dy= .list ds\/dy= .tuple ds)/\bU dx/\Pj ds=true/\Q (.bl (if neg then !(ds.any λd=>Om d dx) else ds.any λd=>Om d dx)) H
theorem oN{A:V1}{k:Nat}{xs:List VI}{d:VI}(hd:bU d)(hr:bp k A):A.units+1+min (QO xs) d.depth < V9:=by
 have:=Tv hd;have h1:min (QO xs) d.depth<=d.depth:=UL _ _;have:=hr.un;omega
theorem mj{k:Nat}(hr:bp k X.A):bq X (V2 .In) (sk X.K false):=by
 intro Xz s σ H x y v u Q I rx ry h;obtain⟨O,dx,ds,dy,hx,hy,e,sx,sy,q⟩:=h;obtain⟨as,ra⟩:=gK I hx.all (Px sx) rx;rcases e with e | e <;> subst e
 ·obtain⟨bs,rb⟩:=gK I hy.all (by simpa [Ph] using sy) ry;exact SeqAt.in_list_reads rb ra sy (Px sx) (oN sx hr) (d4 I q rfl)
 ·obtain⟨bs,rb⟩:=gK I hy.all (by simpa [Ph] using sy) ry;exact SeqAt.in_tuple_reads rb ra sy (Px sx) (oN sx hr) (d4 I q rfl)
theorem jc{k:Nat}(hr:bp k X.A):bq X (V2 .NotIn) (sk X.K true):=by
 intro Xz s σ H x y v u Q I rx ry h;obtain⟨O,dx,ds,dy,hx,hy,e,sx,sy,q⟩:=h;obtain⟨as,ra⟩:=gK I hx.all (Px sx) rx;rcases e with e | e <;> subst e
 ·obtain⟨bs,rb⟩:=gK I hy.all (by simpa [Ph] using sy) ry;exact SeqAt.notIn_list_reads rb ra sy (Px sx) (oN sx hr) (d4 I q rfl)
 ·obtain⟨bs,rb⟩:=gK I hy.all (by simpa [Ph] using sy) ry;exact SeqAt.notIn_tuple_reads rb ra sy (Px sx) (oN sx hr) (d4 I q rfl)
def Ay(neg:Bool):VI->VI->(VI->Prop)->Prop:=λx y Q=>∃ds,(y= .list ds\/y= .tuple ds)/\bU x/\Pj ds=true/\Q (.bool (if neg then !(ds.any λd=>Om d x) else ds.any λd=>Om d x))
theorem fD{K:Og}{neg:Bool}:bN K (sk K neg) (Ay neg):=λH O x y dx dy Qd R _ hx hy uu93 k=>by obtain⟨ds,e,a,b,q⟩:=uu93;exact⟨O,dx,ds,dy,hx,hy,e,a,b,k _ _ H q (au.refl _) (.bl _)⟩
def Az:List VI->(VI->Prop)->Prop:=λds Q=>∃z:Str,ds=[.str z]/\z.length<=VT/\Q (.int z.length)
theorem AA{K:Og}:iE K (λxs H Q=>∃z,xs=[.str z]/\z.length<=VT/\Q (.int z.length) H) Az:=λH O xs ds Qd R _ hs uu94 k=>by
 obtain⟨z,e,hz,q⟩:=uu94;subst e;cases hs with
 | cons h r=>cases r;cases h.str;exact⟨z,rfl,hz,k _ _ H q (au.refl _) (.int _)⟩
def AB:VI->VI->(VI->Prop)->Prop:=λx y Q=>∃i j:Str,x= .str i/\y= .str j/\Q (.bool (decide (i.cps.toList < j.cps.toList)))
theorem HV{K:Og}:bN K (λx y H Q=>∃i j,x= .str i/\y= .str j/\Q (.bl (decide (i.cps.toList < j.cps.toList))) H) AB:=λH O x y dx dy Qd R _ hx hy uu95 k=>by
 obtain⟨i,j,e1,e2,q⟩:=uu95;subst e1 e2;cases hx.str;cases hy.str;exact⟨i,j,rfl,rfl,k _ _ H q (au.refl _) (.bl _)⟩
def AD:VI->VI->(VI->Prop)->Prop:=λx y Q=>∃i j:Str,x= .str i/\y= .str j/\Q (.bool (!(RQ j i 0 j.length 1).isEmpty))
theorem HW{K:Og}:bN K (λx y H Q=>∃i j,x= .str i/\y= .str j/\Q (.bl (!(RQ j i 0 j.length 1).isEmpty)) H) AD:=λH O x y dx dy Qd R _ hx hy uu96 k=>by
 obtain⟨i,j,e1,e2,q⟩:=uu96;subst e1 e2;cases hx.str;cases hy.str;exact⟨i,j,rfl,rfl,k _ _ H q (au.refl _) (.bl _)⟩
theorem HX{prog:VW}{w:VZ}{A:V1}{E:VJ->VN->Prop}{s:VN}{t sl:VM}{items:Array VJ}{vl vu:VJ}{lo hi:Option Int}{Q:VJ->VN->Prop}(ht:IsTup s.heap t items)(hs:s.heap.IsSliceOf sl vl vu .none)(pl:IsPart vl lo)(pu:IsPart vu hi)
 (hw:HT.sIx items.size 0 lo=0/\HT.sIx items.size items.size hi=items.size)(h:Q (.ref t) s):VQ (VS prog w) A (Wy (.ref t) (.ref sl)) Q E s:=by
 obtain⟨os,hos,hcs,hds⟩:=id hs;have hTs:s.TypeIs (.ref sl) "slice":=⟨os,hos,hcs⟩;unfold Wy
 try with_reducible refine Wa ?_
 first | refine VL (VO ?_) | skip
 refine VL (Xr ht.typeIs VC ?_);refine VL (Wk (name:=Oh "__getitem__") ht.typeIs P7
  (Wi P7 ht.typeIs Sb ?_ (Sf _ _)))
 show VQ _ _ (RC (.ref t) >>=_) _ _ s;refine VL (tupleItemsOf_ ht ?_);refine VL (WQ hTs ?_);rw [VF VC];refine VL (HT.sliceApplied_gen hs pl pu ?_);show VQ _ _ (if (((HT.sIx items.size 0 lo:Nat):Int)==0 && (1:Int)==1 && (HT.sIx items.size items.size hi - HT.sIx items.size 0 lo)==items.size)=true then _ else _) _ _ s;rw [VF (by rw [hw.1,hw.2];simp)];unfold Builtin.Tuple.tupleIsExact;refine VL (VL (WQ ht.typeIs (VO ?_)));rw [VF VC];exact VL (W7 (VO ⟨_,rfl,VO h⟩))
def HY(K:Og):V->Option Int->Option Int->Hp->VK->Prop:=λx lo hi H Q=>∃a xs,x= .ref a/\br K H a xs/\
 ((HT.sIx xs.length 0 lo=0/\HT.sIx xs.length xs.length hi=xs.length)->Q x H)/\(¬(HT.sIx xs.length 0 lo=0/\HT.sIx xs.length xs.length hi=xs.length)->∀p,H p=none->Q (.ref p) (av H p (.tup (iA xs lo hi))))
theorem HZ:lQ X (HY X.K):=by
 intro Xz s σ H x v vl vu lo hi sl Q I rx hs pl pu h;obtain⟨a,xs,rfl,hx,q1,q2⟩:=h;by_cases hw:HT.sIx xs.length 0 lo=0/\HT.sIx xs.length xs.length hi=xs.length
 ·cases rx;obtain⟨its,r,ht,hz⟩:=I.tuple hx;have hlen:its.toArray.size=xs.length:=by rw [OC];exact r.length.symm
  refine⟨"tuple",_,P7.lookup,ht.typeIs,?_⟩;exact HX ht hs pl pu (by rw [hlen];exact hw) ⟨.ref a,H,I,rfl,q1 hw⟩
 ·exact FQ Xz s σ H _ v vl vu lo hi sl Q I rx hs pl pu ⟨a,xs,rfl,hx,hw,q2 hw⟩
theorem Ia{xs:List VI}{l u:Option Int}(h:HT.sIx xs.length 0 l=0/\HT.sIx xs.length xs.length u=xs.length):bY xs l u=xs:=by
 unfold bY;rw [h.1,h.2];simp
def AE(t:DT)(tl th:DO):DT:=λδ Q=>t δ λd=>tl δ λl=>th δ λu=>∃xs,d= .tuple xs/\Q (.tuple (bY xs l u))
theorem kM{e:VR}{lo hi:Option VR}{t:DT}{tl th:DO}{pos p2:Pos}(h:DF X H0 O0 e t)(hl:PO X lo (gM X.K H0 O0 tl))(hu:PO X hi (gM X.K H0 O0 th)):DE X H0 O0 (.Subscript e (.Slice lo hi none p2) pos) (AE t tl th):=
 (nU HZ h hl hu).imp λσ H Q ⟨O,δ,Qd,w,q,k⟩=>⟨O,δ,_,w,q,λd v H1 q1 s1 r1=>⟨O,δ,_,w.mono s1,q1,λl H2 q2 s2=>⟨O,δ,_,w.mono (s1.trans s2),q2,λu H3 uu1 s3=>by
  obtain⟨xs,e,q3⟩:=uu1;subst e;have r3:=r1.mono (s2.trans s3);have r4:=r3;obtain⟨a,vs,rfl,h1,d1⟩:=r4.tup;refine⟨a,vs,rfl,h1,λhw=>?_,λ_ p hp=>k _ _ _ q3 (s1.trans (s2.trans (s3.trans (au.new hp)))) (.tup (.inl bb) (kA w (s1.trans (s2.trans s3)) hp) ((d1.cut l u).mono (au.new hp)))⟩;rw [d1.length] at hw;rw [Ia hw] at q3;cases r3 with
  | dt r3=>exact k _ _ _ q3 (s1.trans (s2.trans s3)) r3⟩⟩⟩
def c9(a b:Str):Bool:=decide (a.cps.toList<=b.cps.toList)
def cD(l:List Str):List Str:=l.mergeSort c9
theorem AF(a b c:Str)(h:c9 a b=true)(h':c9 b c=true):c9 a c=true:=
 decide_eq_true (List.le_trans (of_decide_eq_true h) (of_decide_eq_true h'))
theorem Ib(a b:Str):(c9 a b || c9 b a)=true:=by
 rcases List.le_total a.cps.toList b.cps.toList with h | h
 ·unfold c9;rw [decide_eq_true h];rfl
 ·unfold c9;rw [decide_eq_true h,Vg]
theorem AG{a b:Str}(h:a.cps.toList=b.cps.toList):a=b:=by
 cases a;cases b;congr 1;exact Array.ext' h
theorem AH{a b:Str}(h:c9 a b=true)(h':c9 b a=true):a=b:=AG (UP (of_decide_eq_true h) (of_decide_eq_true h'))
theorem fX(l:List Str):(cD l).Perm l:=List.mergeSort_perm l c9
theorem sq(l:List Str):(cD l).Pairwise λa b=>c9 a b=true:=List.pairwise_mergeSort AF Ib l
theorem sr{l m:List Str}(h:m.Perm l)(p:m.Pairwise λa b=>c9 a b=true):m=cD l:=
 List.Perm.eq_of_pairwise (λa b _ _ x y=>AH x y) p (sq l) (h.trans (fX l).symm)
theorem AI:∀(p:Str)(l:List Str),risingS p l=true->(p::l).Pairwise λa b=>c9 a b=true
 | p,[],_=>by simp
 | p,x::r,h=>by
  rw [risingS,OI,Qw,ltCps_eq,decide_eq_false_iff_not] at h;have h1:c9 p x=true:=decide_eq_true (UK.mp h.1);have h2:=AI x r h.2;rw [Pq];refine⟨λy hy=>?_,h2⟩;rcases Ox.mp hy with z | z
  ·rw [z];exact h1
  ·exact AF p x y h1 ((Pq.mp h2).1 y z)
theorem su:∀(l:List Str),sortedS l=true->l.Pairwise λa b=>c9 a b=true
 | [],_=>.nil
 | x::r,h=>AI x r h
theorem oO:∀{ys:List Str}{us:List VJ},aI (ys.map V.str) us->Wh us ys:=by
 intro ys
 induction ys with
 | nil=>intro us rv;cases rv;exact .nil
 | cons y ys ih=>
  intro us rv;rw [Ov] at rv;cases rv with
  | cons r1 r2=>obtain⟨t,rfl⟩:=r1;exact .cons y t (ih r2)
theorem mn:∀{ys:List Str}{us:List VJ},Wh us ys->aI (ys.map V.str) us
 | _,_,.nil=>.nil
 | _,_,.cons y t r=>.cons ⟨t,rfl⟩ (mn r)
theorem Ic:cO X (.builtin "sorted") (λxs H Q=>∃p ss,xs=[.ref p]/\bf X.K H p (ss.map V.str)/\ss.length < 64/\∀l,H l=none->Q (.ref l) (av H l (.lst ((cD ss).map V.str)))):=by
 intro Xz s σ H xs us Q I r h;obtain⟨p,ss,rfl,hq,h64,q⟩:=h;obtain⟨u,rfl,rx⟩:=dj r;cases rx;obtain⟨its,rv,pl,hz⟩:=I.list hq;have hlen:=rv.length;rw [Oi] at hlen;refine sorted_strs pl.isList (oO rv) VD λout ss' a1 a2 a3=>?_;obtain⟨e,he⟩:=sortedAll_at s.heap its out;have es:ss'=cD ss:=sr a2 (su _ a3);subst es;have hl2:(cD ss).length=ss.length:=a2.length_eq;refine⟨.ref _,_,I.laid (t':=s.toks) (o:= .lst ((cD ss).map V.str)) (λb ob q=>sortedAll_old q) (R6 _) ?_,rfl,q _ (I.hok.fresh (R6 _))⟩;refine⟨by rw [Oi,hl2];exact OZ (QJ h64) VC,out.toList,e,mn a1,?_⟩;rw [he]
theorem aq.strs{K:Og}{H:Hp}{O:Ex}:∀{ss:List Str}{vs:List V},aq K H O vs (ss.map Ol)->vs=ss.map V.str
 | [],_,r=>by rw [PV] at r;cases r;rfl
 | b::bs,_,r=>by
  rw [Ov] at r;cases r with
  | cons h r=>cases h;rw [Ov,aq.strs r]
theorem aq.ofStrs{K:Og}{H:Hp}{O:Ex}:∀(ss:List Str),aq K H O (ss.map V.str) (ss.map Ol)
 | []=>.nil
 | s::r=>.cons (.str s) (aq.ofStrs r)
def AJ(t:DA):DA:=λδ Q=>t δ λds=>∃ss:List Str,ds=[.list (ss.map .str)]/\ss.length < 64/\Q ((cD ss).map .str)
theorem Ie{a:VR}{t:DA}{np p:Pos}(hg:Gl X "sorted")(hm:X.mg "sorted"=none)(hv:V3 "sorted"=some (.builtin "sorted"))(ha:PA X [a] (fz X.K H0 O0 t))(he:VP [a] X.env=(false,eval a X.env)::VP [] X.env:=by rfl)(hpl:(V6 p (VP [] X.env)).any (·.1)=false:=by rfl):FE X H0 O0 (.Call (.Name "sorted" np) [a] [] p) (AJ t):=
 (aS Ic hg hm hv ha (he:=he) (hpl:=hpl)).imp λσ H Q uu2=>by obtain⟨O,δ,Qd,w,q,k⟩:=uu2;exact⟨O,δ,_,w,q,λds vs H1 uu3 s1 r1=>by
  obtain⟨ss,e,h64,q1⟩:=uu3;subst e;cases r1 with
  | cons h r=>
   cases r;obtain⟨a,us,rfl,h1,d1⟩:=h.lst;cases d1.strs;exact⟨a,ss,rfl,h1,h64,λl hl=>k _ _ _ _ q1 s1 hl (aq.ofStrs _)⟩⟩
end
end L2
namespace PySem.SeqAt
open AutoSeq1 (wpAny_loadPart')
open MeetsSeq
theorem AK(l:VM)(es:Array Xi)(n:Nat)(dd:Option VM)(sl:Array (Option VJ))(b:Str)(u:Tok):
 Meets (Builtin.«dict.__eq__» ⟨[.ref l,.str b u],[]⟩) (λ_ R s=>s.heap.get? l=some {cls:= .type "dict",dict:=dd,data:= .dict es n,slots:=sl}/\R (.ok (.ret .notImplemented)) s):=
 .of_wp λprog w A R s h=>by obtain⟨hp,g,d,tk,os⟩:=s;obtain⟨hl,h⟩:=h;have f1:=F.sub_str_dict;wp_walk using Wj hl;exact⟨_,rfl,h⟩
theorem AL(b:Str)(u:Tok)(l:VM)(c:VJ)(es:Array Xi)(n:Nat)(dd:Option VM)(sl:Array (Option VJ)):
 Meets (Builtin.«str.__eq__» ⟨[.str b u,.ref l],[]⟩) (λ_ R s=>s.heap.get? l=some {cls:=c,dict:=dd,data:= .dict es n,slots:=sl}/\R (.ok (.ret .notImplemented)) s):=
 .of_wp λprog w A R s h=>by obtain⟨hp,g,d,tk,os⟩:=s;obtain⟨hl,h⟩:=h;wp_walk using Wj hl,wpAny_load hl;exact⟨_,rfl,h⟩
section
variable {A:V1} {s:VN}
theorem RcAt.dict_str{l:VM}{es:Array Xi}{n:Nat}{o:Obj}(b:Str)(u:Tok)(ho:s.heap.get? l=some o)(hc:o.cls= .type "dict")(hd:o.data= .dict es n)(hu:A.units < V9):RcAt A s (.ref l) (.str b u) false:=λprog w E Q h=>by
 obtain⟨cls,dd,data,sl⟩:=o;simp only at hc hd;subst hc hd;exact rc_eq_decline_or (k:=false) ⟨_,ho,rfl⟩ (WV s b u) VC F.sub_str_dict F.slot_dict_eq F.slot_str_eq_refl
  (λ_ hq=>WG F.slot_dict_eq ⟨_,ho,rfl⟩ F.entry_dict_eq (F.args_dict_eq_2 _ _) (AK l es n dd sl b u) ⟨ho,hq⟩)
  (λ_ hq=>WG F.slot_str_eq_refl (WV s b u) F.entry_str_eq (F.args_str_eq_2 _ _) (AL b u l (.type "dict") es n dd sl) ⟨ho,hq⟩)
  (λ_ hq=>Xe (rfl:isSame (.ref l) (.str b u)=pure false) hq) (.inr hu) h
theorem RcAt.str_dict{l:VM}{es:Array Xi}{n:Nat}{o:Obj}(b:Str)(u:Tok)(ho:s.heap.get? l=some o)(hc:o.cls= .type "dict")(hd:o.data= .dict es n)(hu:A.units < V9):RcAt A s (.str b u) (.ref l) false:=λprog w E Q h=>by
 obtain⟨cls,dd,data,sl⟩:=o;simp only at hc hd;subst hc hd;exact rc_eq_decline_or (k:=false) (WV s b u) ⟨_,ho,rfl⟩ VC F.sub_dict_str F.slot_str_eq F.slot_dict_eq_refl
  (λ_ hq=>WG F.slot_str_eq (WV s b u) F.entry_str_eq (F.args_str_eq_2 _ _) (AL b u l (.type "dict") es n dd sl) ⟨ho,hq⟩)
  (λ_ hq=>WG F.slot_dict_eq_refl ⟨_,ho,rfl⟩ F.entry_dict_eq (F.args_dict_eq_2 _ _) (AK l es n dd sl b u) ⟨ho,hq⟩)
  (λ_ hq=>Xe (rfl:isSame (.str b u) (.ref l)=pure false) hq) (.inr hu) h
theorem EqAt.str_dict{l:VM}{es:Array Xi}{n:Nat}{o:Obj}(b:Str)(u:Tok)(ho:s.heap.get? l=some o)(hc:o.cls= .type "dict")(hd:o.data= .dict es n)(hu:A.units < V9):EqAt A s (.str b u) (.ref l) false:=λprog w E Q h=>by
 unfold eqBool;refine Wa ?_;refine WN (λhab=>absurd (eq_of_beq hab) nofun) (λ_=>?_);exact VL (RcAt.str_dict b u ho hc hd hu prog w E _ (V7 h))
end
end PySem.SeqAt
namespace L2
open PySem PySem.Spec PyProof.Rows PySem.W
section
variable {X:Cx} {Xz:List (VM×Obj)} {σ:St} {H:Hp} {s:VN}
def bL:VI->Bool
 | .dict [(.none,_)]=>false
 | _=>true
theorem Ig(I:ae X Xz σ H s){O:Ex}{v:V}{d:VI}{u:VJ}(h:Dt X.K H O v d)(ht:bL d=true)(r:aH v u)(y:Str)(t:Tok)(hu:X.A.units < V9):SeqAt.RcAt X.A s u (.str y t) (Om d (.str y)):=by
 cases h with
 | non=>cases (show u=QV from r);simpa [Om] using SeqAt.RcAt.none_str y t
 | bl b=>cases (show u=QI b from r);simpa [Om] using SeqAt.RcAt.bool_str b y t
 | int i=>obtain⟨k,e⟩:=(show ∃t,u=QX i t from r);cases e;simpa [Om] using SeqAt.RcAt.int_str i k y t
 | str x=>obtain⟨k,e⟩:=(show ∃t,u=Qm x t from r);cases e;simpa [Om] using Uk x k y t
 | @tup a xs ds h n rr=>
  cases (show u=OU a from r);obtain⟨its,rv,p,_⟩:=I.tuple (.inl h);simpa [Om] using TL y t (show s.heap.IsTuple a its.toArray from p) hu
 | @tupK a xs ds h rr=>
  cases (show u=OU a from r);obtain⟨its,rv,p,_⟩:=I.tuple h.of0;simpa [Om] using TL y t (show s.heap.IsTuple a its.toArray from p) hu
 | @lst a xs ds h n rr=>
  cases (show u=OU a from r);obtain⟨its,rv,p,_⟩:=I.list (.inl h);simpa [Om] using SeqAt.RcAt.list_str y t p.isList hu
 | pack h n=>exact absurd ht (by simp [bL])
 | purse h n=>exact absurd ht (by simp [bL])
 | scr h r=>exact absurd ht (by simp [bL])
 | obj h e n r=>exact absurd ht (by simp [bL])
 | @dct0 a h n=>
  cases (show u=OU a from r);obtain⟨_,_,_,_,o,es,ep,e,c,dd,_⟩:=(show bI X.prog X.w H s.heap a (.dK []) from I.hok a _ h);simpa [Om] using SeqAt.RcAt.dict_str y t e c.1 dd hu
 | @dic a ob kv ks kp ds h e1 e2 n rr=>
  cases (show u=OU a from r);obtain⟨_,_,_,_,o,es,ep,e,c,dd,_⟩:=(show bI X.prog X.w H s.heap a (.dK kv) from(I.hok a _ h).2);simpa [Om] using SeqAt.RcAt.dict_str y t e c.1 dd hu
theorem AM(I:ae X Xz σ H s){A:V1}{O:Ex}{v:V}{d:VI}{u:VJ}(h:Dt X.K H O v d)(ht:bL d=true)(r:aH v u)(y:Str)(t:Tok)(hu:A.units < V9):TK A s (.str y t) u (Om (.str y) d):=by
 cases h with
 | non=>cases (show u=QV from r);simpa [Om] using TK.str_none y t
 | bl b=>cases (show u=QI b from r);simpa [Om] using TK.str_bool y t b
 | int i=>obtain⟨k,e⟩:=(show ∃t,u=QX i t from r);cases e;simpa [Om] using Ua y t i k
 | str x=>obtain⟨k,e⟩:=(show ∃t,u=Qm x t from r);cases e;simpa [Om] using Ul y t x k
 | @tup a xs ds h n rr=>
  cases (show u=OU a from r);obtain⟨its,rv,p,_⟩:=I.tuple (.inl h);simpa [Om] using TM y t (show s.heap.IsTuple a its.toArray from p) hu
 | @tupK a xs ds h rr=>
  cases (show u=OU a from r);obtain⟨its,rv,p,_⟩:=I.tuple h.of0;simpa [Om] using TM y t (show s.heap.IsTuple a its.toArray from p) hu
 | @lst a xs ds h n rr=>
  cases (show u=OU a from r);obtain⟨its,rv,p,_⟩:=I.list (.inl h);simpa [Om] using TK.str_list y t p.isList hu
 | pack h n=>exact absurd ht (by simp [bL])
 | purse h n=>exact absurd ht (by simp [bL])
 | scr h r=>exact absurd ht (by simp [bL])
 | obj h e n r=>exact absurd ht (by simp [bL])
 | @dct0 a h n=>
  cases (show u=OU a from r);obtain⟨_,_,_,_,o,es,ep,e,c,dd,_⟩:=(show bI X.prog X.w H s.heap a (.dK []) from I.hok a _ h);simpa [Om] using TK.str_dict y t e c.1 dd hu
 | @dic a ob kv ks kp ds h e1 e2 n rr=>
  cases (show u=OU a from r);obtain⟨_,_,_,_,o,es,ep,e,c,dd,_⟩:=(show bI X.prog X.w H s.heap a (.dK kv) from(I.hok a _ h).2);simpa [Om] using TK.str_dict y t e c.1 dd hu
end
section
variable {X:Cx} {H0:Hp} {O0:Ex}
def AN(K:Og):R2:=λx y H Q=>∃O dx z,Dt K H O x dx/\bL dx=true/\y= .str z/\Q (.bl (Om dx (.str z))) H
theorem cq{k:Nat}(hr:bp k X.A):bq X (V2 .Eq) (AN X.K):=by
 intro Xz s σ H x y v u Q I rx ry h;obtain⟨O,dx,z,hx,ht,rfl,q⟩:=h;obtain⟨t,rfl⟩:=ry;have hc:V2 .Eq v (.str z t)=richCompare .Eq v (.str z t):=rfl;rw [hc];exact Ig I hx ht rx z t hr.units0 X.prog X.w X.xe _ (d4 I q rfl)
def oP:VI->VI->(VI->Prop)->Prop:=λx y Q=>∃z,y= .str z/\bL x=true/\Q (.bool (Om x (.str z)))
theorem cu{K:Og}:bN K (AN K) oP:=λH O x y dx dy Qd R _ hx hy uu4 k=>by
 obtain⟨z,e,ht,q⟩:=uu4;subst e;cases hy.str;exact⟨_,dx,z,hx.all,ht,rfl,k _ _ H q (au.refl _) (.bl _)⟩
theorem AO(dx:VI){its:List VJ}{zs:List Str}(hS:Wh its zs):its.any (λy=>Om (.str (strOf y)) dx)=zs.any λz=>Om (.str z) dx:=by
 induction hS with
 | nil=>rfl
 | cons y t r ih=>rw [QD,QD,ih];rfl
def AQ(K:Og):R2:=λx y H Q=>∃(O:Ex)(dx:VI)(zs:List Str)(a:VM),Dt K H O x dx/\bL dx=true/\y= .ref a/\br K H a (zs.map V.str)/\Q (.bl (zs.any λz=>Om (.str z) dx)) H
theorem fY{k:Nat}(hr:bp k X.A):bq X (V2 .In) (AQ X.K):=by
 intro Xz s σ H x y v u Q I rx ry h;obtain⟨O,dx,zs,a,hx,ht,rfl,ha,q⟩:=h;cases ry;obtain⟨its,rv,p,_⟩:=I.tuple ha;have hS:=oO rv;have hl:=AO dx hS;refine SeqAt.in_tupleAt (λy=>Om (.str (strOf y)) dx) (show s.heap.IsTuple a its.toArray from p) (λy hy=>?_) (by rw [UQ,hl];exact d4 I q rfl);obtain⟨z,t,rfl⟩:=hS.all y (by simpa using hy);exact AM I hx ht rx z t (by show X.A.units+1 < V9;have:=hr.un;omega)
def AR:VI->VI->(VI->Prop)->Prop:=λx y Q=>∃zs:List Str,y= .tuple (zs.map .str)/\bL x=true/\Q (.bool (zs.any λz=>Om (.str z) x))
theorem fZ{K:Og}:bN K (AQ K) AR:=λH O x y dx dy Qd R _ hx hy uu5 k=>by
 obtain⟨zs,e,ht,q⟩:=uu5;subst e;obtain⟨a,vs,rfl,hs,r⟩:=hy.tup;cases r.strs;exact⟨_,dx,zs,a,hx.all,ht,rfl,hs,k _ _ H q (au.refl _) (.bl _)⟩
end
def sA:VI->Bool | .str _=>true | _=>false
def AS:VI->Bool | .int _=>true | .bool _=>true | _=>false
def oQ:VI->Bool | .bool _=>true | _=>false
def fE:VI->Bool | .tuple _=>true | _=>false
theorem Ih{K:Og}(d:VI):kitOne K (.type (kI d)) (.type "str")=some (sA d):=by cases d <;> rfl
theorem Ii{K:Og}(d:VI):kitOne K (.type (kI d)) (.type "int")=some (AS d):=by cases d <;> rfl
theorem AU{K:Og}(d:VI):kitOne K (.type (kI d)) (.type "bool")=some (oQ d):=by cases d <;> rfl
theorem jd{K:Og}(d:VI):kitOne K (.type (kI d)) (.type "tuple")=some (fE d):=by cases d <;> rfl
mutual
def thg:VI->Bool
 | .dict []=>true
 | .dict (_::_)=>false
 | .str z=>decide (z.length<=1000)
 | .tuple l=>gb l
 | .list l=>gb l
 | .none=>true
 | .bool _=>true
 | .int _=>true
def gb:List VI->Bool
 | []=>true
 | d::r=>thg d && gb r
end
theorem jQ{d:VI}(h:thg d=true):∀x,d≠ .dict [(.none,x)]:=by
 rintro x rfl;simp [thg] at h
theorem hX{d:VI}(h:thg d=true):bL d=true:=by
 unfold bL;split
 ·simp [thg] at h
 ·rfl
theorem oR:∀{l:List VI}{d:VI},gb l=true->d∈l->thg d=true
 | e::r,d,h,m=>by
  rw [gb,OI] at h;rcases Ox.mp m with z | z
  ·rw [z];exact h.1
  ·exact oR h.2 z
theorem Ij{l:List VI}(h:∀d∈l,thg d=true):gb l=true:=by
 induction l with
 | nil=>rfl
 | cons e r ih=>rw [gb,h e VH,ih λd hd=>h d (by simp [hd])];rfl
theorem mq{l:List VI}(h:thg (.tuple l)=true):∀d∈l,thg d=true:=λd hd=>oR (by simpa [thg] using h) hd
theorem Ik{z:Str}(h:thg (.str z)=true):z.length<=1000:=by simpa [thg] using h
def dX(zs:List Str)(d:VI):Bool:=zs.any λz=>Om (.str z) d
def jR:VI->Bool | .int _=>true | _=>false
def iJ:VI->Bool | .int i=>decide (0<=i) && decide (i<=99999) | _=>false
def cE:VI->Bool | .str z=>decide (1<=z.length) && decide (z.length<=8) && z.cps.toList.all (λc=>decide (c∈dD.cps.toList)) | _=>false
def fb:VI->Bool
 | .tuple [a]=>Om a (.str "coming")
 | .tuple [a,b]=>dX ["first","last"] a && cE b
 | _=>false
def mr:VI->Bool | .int i=>decide (0<=i) && decide (i<=999) | _=>false
def kN(m u:VI):Bool:=mr m && dX ["days","months","years"] u
def eO:VI->Bool
 | .tuple [a,b]=>dX ["while","follow","leave"] a && cE b
 | .tuple [a,b,c,d,e]=>dX ["keep","gone"] a && cE b && (fb c && kN d e)
 | _=>false
def oT:VI->VI->Bool | .str a,.str b=>decide (a.cps.toList < b.cps.toList) | _,_=>false
def gO:List VI->Bool
 | a::b::r=>oT a b && gO (b::r)
 | _=>true
def je:VI->Bool | .tuple l=>decide (l.length<=4) && (l.all cE && gO l) | _=>false
def gc:VI->Bool | .tuple [a,b]=>dX ["paper","kind"] a && cE b | _=>false
def jf(w:VI)(ps:List VI):Bool:=
 if dX ["end","lift"] w then ps.length==0
 else if dX ["happens","leave"] w then(match ps with | [a]=>cE a | _=>false)
 else if Om w (.str "rule") then(match ps with | [a]=>eO a | _=>false)
 else if Om w (.str "paper") then(match ps with | [a,b]=>cE a && je b | _=>false)
 else if Om w (.str "hold") then(match ps with | [a,b]=>gc a && oQ b | _=>false)
 else false
def fF:VI->Bool
 | .tuple (w::n::x::r)=>iJ n && cE x && jf w r
 | _=>false
structure Nm (z:Str):Prop where
 lo:1<=z.length
 hi:z.length<=8
 ab:∀c∈z.cps.toList,c∈dD.cps.toList
theorem Nm.is{z:Str}(h:Nm z):cE (.str z)=true:=by
 simp only [cE,decide_eq_true h.lo,decide_eq_true h.hi,PD,Qe,decide_eq_true_eq];exact h.ab
theorem jg{d:VI}(h:cE d=true):∃z,d= .str z/\Nm z:=by
 cases d with
 | str z=>
  simp only [cE,OI,decide_eq_true_eq,Qe] at h;exact⟨z,rfl,h.1.1,h.1.2,h.2⟩
 | _=>simp [cE] at h
theorem Nm.ok{z:Str}(h:Nm z):O5 z=true:=jb.mpr λc hc=>Ap c (h.ab c hc)
theorem sC{g:DG}{te:DT}{δ0:Dl}{xs:List VI}{Q:List VI->Prop}(f:VI->VI)
 (h:∀x∈xs,∀R:VI->Prop,R (f x)->g x δ0 λδ2=>te δ2 R)(q:Q (xs.map f)):fA g jJ te δ0 xs Q:=by
 refine⟨λi acc=>acc=(xs.take i).map f,rfl,?_,?_⟩
 ·rintro i x acc hx rfl;have:=h x (OH hx) (λy=>(xs.take i).map f++[y]=(xs.take (i+1)).map f) (by rw [Qa,hx];simp);simpa [jJ] using this
 ·rintro acc rfl;rw [Pd (Ot _)];exact q
theorem sE{g:DG}{te:DT}{δ0:Dl}{xs:List VI}{p:Bool->Prop}{gg:List Bool->Bool}(f:VI->Bool)
 (h:∀x∈xs,∀R:VI->Prop,R (.bool (f x))->g x δ0 λδ2=>te δ2 R)(q:p (gg (xs.map f))):fA g jJ te δ0 xs λds=>∃bs:List Bool,ds=bs.map Ql/\p (gg bs):=
 sC (λx=>.bool (f x)) h ⟨xs.map f,by rw [Pl];rfl,q⟩
theorem Il{a b:Str}{P:List Str->Prop}:(∃zs,[Ol a,Ol b]=O8 Ol zs/\P zs)↔P [a,b]:=by
 refine⟨λ⟨zs,e,h⟩=>?_,λh=>⟨_,rfl,h⟩⟩
 match zs,e with
 | [x,y],e=>simp at e;rw [e.1,e.2];exact h
theorem Im{a b c:Str}{P:List Str->Prop}:(∃zs,[Ol a,Ol b,Ol c]=O8 Ol zs/\P zs)↔P [a,b,c]:=by
 refine⟨λ⟨zs,e,h⟩=>?_,λh=>⟨_,rfl,h⟩⟩
 match zs,e with
 | [x,y,z],e=>simp at e;rw [e.1,e.2.1,e.2.2];exact h
theorem mv(d:VI):(∃l,d= .tuple l)\/(∀l,d≠ .tuple l):=by
 cases d <;> simp
theorem AV{d:VI}(h:∀l,d≠ .tuple l):fE d=false:=by
 cases d with
 | tuple l=>exact absurd rfl (h l)
 | _=>rfl
def dO(d:VI)(n:Int):Bool:=match d with | .tuple l=>decide ((l.length:Int)=n) | _=>false
theorem sF{d:VI}(h:∀l,d≠ .tuple l)(n:Int):dO d n=false:=by
 cases d with
 | tuple l=>exact absurd rfl (h l)
 | _=>rfl
theorem Io{x:Str}:bL (.str x)=true:=rfl
theorem Ip{x:Int}:bL (.int x)=true:=rfl
theorem Iq{x:Bool}:bL (.bool x)=true:=rfl
theorem Ir{x:List VI}:bL (.tuple x)=true:=rfl
theorem Iu{x:List VI}:bL (.list x)=true:=rfl
theorem Iw(l u:Option Int)(n:Nat):Sw l u 1 n=(Py (HT.sIx n n u - HT.sIx n 0 l)).map (HT.sIx n 0 l+·):=by
 unfold Sw sliceRange;have c:∀(o:Option Int)(d:Nat),(match o with | none=>(d:Int) | some i=>max 0 (min (if i < 0 then i+(n:Int) else i) (n:Int)))=((HT.sIx n d o:Nat):Int):=by
  intro o d;cases o with
  | none=>rfl
  | some v=>
   show max 0 (min (if v < 0 then v+(n:Int) else v) (n:Int))=(((if v < 0 then(v+(n:Int)).toNat else min v.toNat n):Nat):Int);by_cases hv:v < 0
   ·rw [VF hv,VF hv];omega
   ·rw [VE hv,VE hv];omega
 have c0:=c l 0;have c1:=c u n;simp only [show(1:Int) > 0 by decide,if_true] at c0 c1⊢;simp only [Int.natCast_zero] at c0;have key:∀a b:Int,a=((HT.sIx n 0 l:Nat):Int)->b=((HT.sIx n n u:Nat):Int)->((Py (if a < b then(b - a+1 - 1)/ 1 else 0).toNat).map λ(k:Nat)=>(a+1*(k:Int)).toNat)=(Py (HT.sIx n n u - HT.sIx n 0 l)).map (HT.sIx n 0 l+·):=by
  intro a b ea eb;have e:(if a < b then(b - a+1 - 1)/ 1 else 0).toNat=HT.sIx n n u - HT.sIx n 0 l:=by
   rw [Ub];split <;> omega
  rw [e];refine Sj λk _=>?_;show(a+1*(k:Int)).toNat=_;omega
 exact key _ _ c0 c1
def kO(xs:List Nat)(l u:Option Int):List Nat:=(xs.drop (HT.sIx xs.length 0 l)).take (HT.sIx xs.length xs.length u - HT.sIx xs.length 0 l)
theorem AW(x:Str)(l u:Option Int):(Txt.slice x l u).cps.toList=kO x.cps.toList l u:=by
 have hl:x.cps.toList.length=x.length:=by rw [OO];rfl
 unfold Txt.slice;rw [Iw,Oi,Ro];unfold kO;rw [hl];split
 ·rename_i h;have h2:HT.sIx x.length x.length u - HT.sIx x.length 0 l=x.length:=by simpa using h
  have h3:HT.sIx x.length x.length u<=x.length:=HT.sIx_le _ _ (Ot _) u;by_cases hz:x.length=0
  ·have:x.cps.toList=[]:=RT.mp VD;rw [this];simp
  ·have h4:HT.sIx x.length 0 l=0:=VD
   rw [h2,h4,List.drop_zero,Pd VD]
 ·rw [pick_run]
theorem Iy{xs:List Nat}{i:Int}(h0:0<=i)(h1:i<=xs.length):kO xs none (some i)=xs.take i.toNat:=by
 unfold kO;rw [lP,iH h0 h1];simp
theorem Iz{xs:List Nat}{i:Int}(h0:0<=i)(h1:i<=xs.length):kO xs (some i) none=xs.drop i.toNat:=by
 unfold kO;rw [lP,iH h0 h1,Pd (by rw [QT];exact Ot _)]
theorem sG(x:Str):x.length=x.cps.toList.length:=by rw [OO];rfl
theorem Nm.of{z:Str}{l:List Nat}(e:z.cps.toList=l)(lo:1<=l.length)(hi:l.length<=8)(ab:∀c∈l,c∈dD.cps.toList):Nm z:=
 ⟨by rw [sG,e];exact lo,by rw [sG,e];exact hi,by rw [e];exact ab⟩
theorem AX{z:Str}{d:VI}:Om (.str z) d=true↔d= .str z:=by
 cases d <;> simp [Om];exact⟨λh=>h.symm,λh=>h.symm⟩
theorem AY{z:Str}{d:VI}:Om d (.str z)=true↔d= .str z:=by rw [sg];exact AX
theorem gf{zs:List Str}{d:VI}:dX zs d=true↔∃z∈zs,d= .str z:=by
 unfold dX;simp only [PX,AX]
def jS(a b:Str):Prop:=a.cps.toList < b.cps.toList
theorem IA{a b c:Str}(h:jS a b)(h':jS b c):jS a c:=TY h h'
inductive hZ:VI->Prop
 | coming:hZ (.tuple [.str "coming"])
 | first {h:Str}:Nm h->hZ (.tuple [.str "first",.str h])
 | last {h:Str}:Nm h->hZ (.tuple [.str "last",.str h])
def units:List Str:=["days","months","years"]
inductive iK:VI->Prop
 | kg {w k u:Str} {s:VI} {m:Int}:w∈(["keep","gone"]:List Str)->Nm k->hZ s->0<=m->m<=999->u∈units->iK (.tuple [.str w,.str k,s,.int m,.str u])
 | wfl {w k:Str}:w∈(["while","follow","leave"]:List Str)->Nm k->iK (.tuple [.str w,.str k])
def jh(n:Int):Prop:=0<=n/\n<=99999
structure mw (ms:List Str):Prop where
 len:ms.length<=4
 nm:∀m∈ms,Nm m
 up:ms.Pairwise jS
inductive dE:VI->Prop
 | paper {n:Int} {x k:Str} {ms:List Str}:jh n->Nm x->Nm k->mw ms->dE (.tuple [.str "paper",.int n,.str x,.str k,.tuple (ms.map .str)])
 | two {w x y:Str} {n:Int}:w∈(["happens","leave"]:List Str)->jh n->Nm x->Nm y->dE (.tuple [.str w,.int n,.str x,.str y])
 | rule {n:Int} {x:Str} {p:VI}:jh n->Nm x->iK p->dE (.tuple [.str "rule",.int n,.str x,p])
 | one {w x:Str} {n:Int}:w∈(["end","lift"]:List Str)->jh n->Nm x->dE (.tuple [.str w,.int n,.str x])
 | hold {n:Int} {x g y:Str} {b:Bool}:jh n->Nm x->g∈(["paper","kind"]:List Str)->Nm y->dE (.tuple [.str "hold",.int n,.str x,.tuple [.str g,.str y],.bool b])
theorem AZ{d:VI}:fb d=true↔hZ d:=by
 constructor
 ·intro h;unfold fb at h;split at h
  ·rw [AY] at h;subst h;exact .coming
  ·rw [OI,gf] at h;obtain⟨⟨z,hz,rfl⟩,hb⟩:=h;obtain⟨y,rfl,hy⟩:=jg hb;simp only [Ox,Pc,or_false] at hz;rcases hz with rfl | rfl
   ·exact .first hy
   ·exact .last hy
  ·cases h
 ·intro h;cases h with
  | coming=>unfold fb;rw [AY]
  | first hy=>simp only [fb,hy.is,Qb];exact gf.mpr ⟨_,VH,rfl⟩
  | last hy=>simp only [fb,hy.is,Qb];exact gf.mpr ⟨_,VH,rfl⟩
theorem A1{m u:VI}:kN m u=true↔∃i z,m= .int i/\u= .str z/\0<=i/\i<=999/\z∈units:=by
 unfold kN;rw [OI,gf];constructor
 ·rintro⟨h,z,hz,rfl⟩;cases m <;> simp [mr] at h;exact⟨_,z,rfl,rfl,h.1,h.2,hz⟩
 ·rintro⟨i,z,rfl,rfl,h0,h1,hz⟩;exact⟨by simp [mr,h0,h1],z,hz,rfl⟩
theorem IB{d:VI}:eO d=true↔iK d:=by
 constructor
 ·intro h;unfold eO at h;split at h
  ·rw [OI,gf] at h;obtain⟨⟨z,hz,rfl⟩,hb⟩:=h;obtain⟨y,rfl,hy⟩:=jg hb;exact .wfl hz hy
  ·rw [OI,OI,OI,gf,AZ,A1] at h;obtain⟨⟨⟨z,hz,rfl⟩,hb⟩,hs,i,u,rfl,rfl,h0,h1,hu⟩:=h;obtain⟨y,rfl,hy⟩:=jg hb;exact .kg hz hy hs h0 h1 hu
  ·cases h
 ·intro h;cases h with
  | kg hw hk hs h0 h1 hu=>
   simp only [eO,hk.is,AZ.mpr hs,A1.mpr ⟨_,_,rfl,rfl,h0,h1,hu⟩,Qb];exact gf.mpr ⟨_,hw,rfl⟩
  | wfl hw hk=>simp only [eO,hk.is,Qb];exact gf.mpr ⟨_,hw,rfl⟩
theorem sH:∀{ms:List Str},gO (ms.map .str)=true↔ms.Pairwise jS
 | []=>by simp [gO]
 | [a]=>by simp [gO]
 | a::b::r=>by
  have ih:=sH (ms:=b::r);rw [Ov,Ov,gO,OI,<-Ov,ih];simp only [oT,decide_eq_true_eq];constructor
  ·rintro⟨h1,h2⟩;rw [Pq];refine⟨λy hy=>?_,h2⟩;rcases Ox.mp hy with z | z
   ·rw [z];exact h1
   ·exact IA h1 ((Pq.mp h2).1 y z)
  ·intro h;rw [Pq] at h;exact⟨h.1 b VH,h.2⟩
theorem A2:∀{l:List VI},l.all cE=true->∃ms:List Str,l=ms.map .str/\∀m∈ms,Nm m
 | [],_=>⟨[],rfl,VH⟩
 | d::r,h=>by
  rw [TZ,OI] at h;obtain⟨z,rfl,hz⟩:=jg h.1;obtain⟨ms,rfl,hm⟩:=A2 h.2;exact⟨z::ms,rfl,λm hm'=>by
   rcases Ox.mp hm' with e | e
   ·rw [e];exact hz
   ·exact hm m e⟩
theorem IC{d:VI}:je d=true↔∃ms:List Str,d= .tuple (ms.map .str)/\mw ms:=by
 constructor
 ·intro h;unfold je at h;split at h
  ·rw [OI,OI,decide_eq_true_eq] at h;obtain⟨h4,ha,hr⟩:=h;obtain⟨ms,rfl,hm⟩:=A2 ha;exact⟨ms,rfl,by simpa using h4,hm,sH.mp hr⟩
  ·cases h
 ·rintro⟨ms,rfl,h⟩;simp only [je,Oi,decide_eq_true h.len,sH.mpr h.up,Qb,PD,Um,Qe];exact λm hm=>(h.nm m hm).is
theorem ID{d:VI}:gc d=true↔∃g y,d= .tuple [.str g,.str y]/\g∈(["paper","kind"]:List Str)/\Nm y:=by
 constructor
 ·intro h;unfold gc at h;split at h
  ·rw [OI,gf] at h;obtain⟨⟨z,hz,rfl⟩,hb⟩:=h;obtain⟨y,rfl,hy⟩:=jg hb;exact⟨z,y,rfl,hz,hy⟩
  ·cases h
 ·rintro⟨g,y,rfl,hg,hy⟩;simp only [gc,hy.is,Qb];exact gf.mpr ⟨_,hg,rfl⟩
theorem IE{d:VI}:iJ d=true↔∃n,d= .int n/\jh n:=by
 constructor
 ·intro h;cases d <;> simp [iJ] at h;exact⟨_,rfl,h.1,h.2⟩
 ·rintro⟨n,rfl,h0,h1⟩;simp [iJ,h0,h1]
theorem dE.is{d:VI}(h:dE d):fF d=true:=by
 have dy:∀{n:Int},jh n->iJ (.int n)=true:=λh=>IE.mpr ⟨_,rfl,h⟩;have no:∀{zs:List Str}{w:Str},w ∉ zs->dX zs (.str w)=false:=λ{zs w} h=>by
  rw [Qo];intro q;obtain⟨z,hz,e⟩:=gf.mp q;injection e with e;rw [e] at h;exact h hz
 have ye:∀{zs:List Str}{w:Str},w∈zs->dX zs (.str w)=true:=λh=>gf.mpr ⟨_,h,rfl⟩;have nq:∀{z w:Str},w≠z->Om (.str w) (.str z)=false:=λ{z w} h=>by rw [gN];simpa using h
 have yq:∀{z:Str},Om (.str z) (.str z)=true:=by intro z;rw [gN];simp
 cases h with
 | paper hn hx hk hm=>
  simp only [fF,dy hn,hx.is,Qb,PD,jf];rw [VE (by rw [no Ce];decide),VE (by rw [no Ce];decide),VE (by rw [nq Ce];decide),VF yq];simp only [hk.is,IC.mpr ⟨_,rfl,hm⟩,Qb]
 | two hw hn hx hy=>
  simp only [fF,dy hn,hx.is,Qb,PD,jf];rename_i w x y n;have h1:w ∉ (["end","lift"]:List Str):=by
   simp only [Ox,Pc,or_false] at hw;rcases hw with rfl | rfl <;> decide+kernel
  rw [VE (by rw [no h1];decide),VF (ye hw)];exact hy.is
 | rule hn hx hp=>
  simp only [fF,dy hn,hx.is,Qb,PD,jf];rw [VE (by rw [no Ce];decide),VE (by rw [no Ce];decide),VF yq];exact IB.mpr hp
 | one hw hn hx=>
  simp only [fF,dy hn,hx.is,Qb,PD,jf];rw [VF (ye hw)];rfl
 | hold hn hx hg hy=>
  simp only [fF,dy hn,hx.is,Qb,PD,jf];rw [VE (by rw [no Ce];decide),VE (by rw [no Ce];decide),VE (by rw [nq Ce];decide),VE (by rw [nq Ce];decide),VF yq];simp only [ID.mpr ⟨_,_,rfl,hg,hy⟩,oQ,Qb]
theorem eQ{n:Nat}:∀d∈([]:List VI),cK n d:=λd hd=>by simp at hd
theorem bo{n:Nat}{d:VI}{r:List VI}(h:cK n d)(hr:∀e∈r,cK n e):∀e∈d::r,cK n e:=λe he=>by
 rcases Ox.mp he with z | z
 ·rw [z];exact h
 ·exact hr e z
theorem bV{n:Nat}{x:Str}(h:O5 x=true)(hn:1<=n:=by decide):cK n (.str x):=(Aq h).mono hn
theorem iL{n:Nat}{x:Int}(hn:1<=n:=by decide):cK n (.int x):=HM.mono hn
theorem IF{n:Nat}{x:Bool}(hn:1<=n:=by decide):cK n (.bool x):=HN.mono hn
theorem sI{n:Nat}{ms:List Str}(h:∀m∈ms,O5 m=true)(hn:1<=n:=by decide):∀d∈ms.map Ol,cK n d:=λd hd=>by
 obtain⟨m,hm,rfl⟩:=Ow.mp hd;exact(Aq (h m hm)).mono hn
theorem hZ.lay{d:VI}(h:hZ d):cK 2 d:=by
 cases h with
 | coming=>exact dN (bo (bV Ce) eQ)
 | first h=>exact dN (bo (bV Ce) (bo (bV h.ok) eQ))
 | last h=>exact dN (bo (bV Ce) (bo (bV h.ok) eQ))
theorem gh{zs:List Str}{w:Str}(h:w∈zs)(hz:∀z∈zs,O5 z=true/\z.length<=1000):O5 w=true/\w.length<=1000:=hz w h
theorem iK.lay{d:VI}(h:iK d):cK 3 d:=by
 cases h with
 | kg hw hk hs _ _ hu=>exact dN (bo (bV (gh hw Ce).1) (bo (bV hk.ok) (bo hs.lay (bo iL (bo (bV (gh hu Ce).1) eQ)))))
 | wfl hw hk=>exact(dN (n:=1) (bo (bV (gh hw Ce).1) (bo (bV hk.ok) eQ))).mono VC
theorem dE.lay{d:VI}(h:dE d):cK 4 d:=by
 cases h with
 | paper hn hx hk hm=>exact dN (bo (bV Ce) (bo iL (bo (bV hx.ok) (bo (bV hk.ok) (bo ((dN (n:=1) (sI λm h=>(hm.nm m h).ok)).mono VC) eQ)))))
 | two hw hn hx hy=>exact dN (bo (bV (gh hw Ce).1) (bo iL (bo (bV hx.ok) (bo (bV hy.ok) eQ))))
 | rule hn hx hp=>exact dN (bo (bV Ce) (bo iL (bo (bV hx.ok) (bo hp.lay eQ))))
 | one hw hn hx=>exact dN (bo (bV (gh hw Ce).1) (bo iL (bo (bV hx.ok) eQ)))
 | hold hn hx hg hy=>exact dN (bo (bV Ce) (bo iL (bo (bV hx.ok) (bo ((dN (n:=1) (bo (bV (gh hg Ce).1) (bo (bV hy.ok) eQ))).mono VC) (bo IF eQ)))))
theorem dE.shp{d:VI}(h:dE d):bU d:=h.lay.shp VC
theorem bR{d:VI}{r:List VI}(h:thg d=true)(hr:gb r=true):gb (d::r)=true:=by rw [gb,h,hr];rfl
theorem gi{r:List VI}(hr:gb r=true):thg (.tuple r)=true:=by rw [thg];exact hr
theorem Nm.thg{z:Str}(h:Nm z):thg (.str z)=true:=by rw [L2.thg];exact decide_eq_true (OZ h.hi VC)
theorem gm{z:Str}(h:z.length<=1000):thg (.str z)=true:=by rw [thg];exact decide_eq_true h
theorem kP{i:Int}:thg (.int i)=true:=by rw [thg]
theorem IG{i:Bool}:thg (.bool i)=true:=by rw [thg]
theorem IH{ms:List Str}(h:∀m∈ms,Nm m):gb (ms.map .str)=true:=Ij λd hd=>by
 obtain⟨m,hm,rfl⟩:=Ow.mp hd;exact(h m hm).thg
theorem hZ.thg{d:VI}(h:hZ d):L2.thg d=true:=by
 cases h with
 | coming=>exact gi (bR (gm Ce) rfl)
 | first h=>exact gi (bR (gm Ce) (bR h.thg rfl))
 | last h=>exact gi (bR (gm Ce) (bR h.thg rfl))
theorem iK.thg{d:VI}(h:iK d):L2.thg d=true:=by
 cases h with
 | kg hw hk hs _ _ hu=>exact gi (bR (gm (gh hw Ce).2) (bR hk.thg (bR hs.thg (bR kP (bR (gm (gh hu Ce).2) rfl)))))
 | wfl hw hk=>exact gi (bR (gm (gh hw Ce).2) (bR hk.thg rfl))
theorem dE.thg{d:VI}(h:dE d):L2.thg d=true:=by
 cases h with
 | paper hn hx hk hm=>exact gi (bR (gm Ce) (bR kP (bR hx.thg (bR hk.thg (bR (gi (IH hm.nm)) rfl)))))
 | two hw hn hx hy=>exact gi (bR (gm (gh hw Ce).2) (bR kP (bR hx.thg (bR hy.thg rfl))))
 | rule hn hx hp=>exact gi (bR (gm Ce) (bR kP (bR hx.thg (bR hp.thg rfl))))
 | one hw hn hx=>exact gi (bR (gm (gh hw Ce).2) (bR kP (bR hx.thg rfl)))
 | hold hn hx hg hy=>exact gi (bR (gm Ce) (bR kP (bR hx.thg (bR (gi (bR (gm (gh hg Ce).2) (bR hy.thg rfl))) (bR IG rfl)))))
theorem II{a b c:VI}{l:List VI}:bY (a::b::c::l) (some 3) none=l:=by
 rw [rV VC (by simp only [OG];omega)];rfl
theorem IJ{a b c:VI}{l:List VI}:bY (a::b::c::l) (some 1) (some 3)=[b,c]:=by
 unfold bY;rw [iH VC (by simp only [OG];omega),iH VC (by simp only [OG];omega)];rfl
end L2
namespace PySem
open Builtin
open AutoSeq1 (wpAny_loadPart')
end PySem
namespace L2
open PySem PySem.Spec PyProof.Rows PySem.W
section
variable {X:Cx} {H0:Hp} {O0:Ex}
def A3:DT:=λ_ Q=>Q (.dict [])
theorem IK{pos:Pos}:DE X H0 O0 (.Dict [] [] pos) A3:=Aj.imp λσ H Q uu8=>by obtain⟨O,δ,Qd,w,q,k⟩:=uu8;exact λp hp=>k _ _ _ q (au.new hp) (.dct0 bb (kA w (au.refl _) hp))
def A4(t:DT):DT:=λδ Q=>t δ λd=>∃i,d= .int i/\Q (.int (-i))
theorem sJ{e:VR}{t:DT}{pos:Pos}(h:DE X H0 O0 e t):DE X H0 O0 (.UnaryOp .USub e pos) (A4 t):=
 (vg vj h).imp λσ H Q uu9=>by obtain⟨O,δ,Qd,w,q,k⟩:=uu9;exact⟨O,δ,_,w,q,λd v H1 uu10 s1 r1=>by obtain⟨i,e,q1⟩:=uu10;subst e;cases r1;exact⟨i,rfl,k _ _ H1 q1 s1 (.int _)⟩⟩
end
theorem IL(n:Nat):Qq none none (-1) (n:Int)=((n:Int) - 1,-1):=by
 unfold Qq;rfl
theorem IM(n:Nat):PN ((n:Int) - 1) (-1) (-1)=n:=by
 unfold PN;rw [VE VC];split
 ·rw [show(- -1:Int)=1 by decide,Ub];omega
 ·omega
theorem IP(xs:Array VJ):((Py xs.size).filterMap λ(m:Nat)=>xs[((xs.size:Int) - 1+(m:Int)*(-1)).toNat]?).toArray=xs.toList.reverse.toArray:=by
 have e:(Py xs.size).filterMap (λ(m:Nat)=>xs[((xs.size:Int) - 1+(m:Int)*(-1)).toNat]?)=((Py xs.size).map λk=>xs.size - 1 - k).filterMap (xs[·]?):=by
  have e2:((Py xs.size).map λk=>xs.size - 1 - k)=(Py xs.size).map λ(m:Nat)=>((xs.size:Int) - 1+(m:Int)*(-1)).toNat:=
   Sj λm hm=>by have:=QS.mp hm;omega
  rw [e2,Sv];rfl
 have k:=krv_pick xs;unfold slicePick at k;rw [krv_bounds] at k;have k2:((sliceRange ((xs.size:Int) - 1) (-1) (-1)).filterMap (xs[·]?)).toArray=xs.toList.reverse.toArray:=k;rw [krv_sliceRange] at k2;rw [e];exact k2
theorem IQ{prog:VW}{w:VZ}{A:V1}{E:VJ->VN->Prop}{s:VN}{sl:VM}{tk:Tok}{n:Nat}{Q:Int×Int×Nat->VN->Prop}(hs:s.heap.IsSliceOf sl .none .none (.int (-1) tk))
 (h:Q ((n:Int) - 1,-1,n) s):VQ (VS prog w) A (Q3 (.ref sl) (pure (n:Int))) Q E s:=by
 obtain⟨os,hos,hcs,hds⟩:=id hs;unfold Q3 SS;refine VL (VL (WX hos hds (x:= .none) rfl (VL (WX hos hds (x:= .none) rfl (VL (WX hos hds (x:= .int (-1) tk) rfl (VO ?_)))))));refine VL (slicePart_int ?_);show VQ _ _ (if ((-1:Int)==0)=true then _ else _) _ _ s;rw [VE VC];refine VL (Xa (VL (Xa (VL (VO ?_)))));show VQ _ _ (match Qq none none (-1) (n:Int) with | (lo,hi)=>pure (lo,(-1:Int),PN lo hi (-1))) _ _ s;rw [IL];show VQ _ _ (pure ((n:Int) - 1,(-1:Int),PN ((n:Int) - 1) (-1) (-1))) _ _ s;rw [IM];exact VO h
theorem IS{prog:VW}{w:VZ}{A:V1}{E:VJ->VN->Prop}{s:VN}{t sl:VM}{items:Array VJ}{tk:Tok}{Q:VJ->VN->Prop}(ht:IsTup s.heap t items)(hs:s.heap.IsSliceOf sl .none .none (.int (-1) tk))(hz:items.size<=VT)
 (h:Q (.ref s.heap.objs.size) {s with heap:=s.heap.push {cls:= .type "tuple",data:= .seq items.toList.reverse.toArray}}):VQ (VS prog w) A (Wy (.ref t) (.ref sl)) Q E s:=by
 have htake:sizeOk (.seq items.toList.reverse.toArray):=by
  show items.toList.reverse.toArray.size<=VT;rw [OC,T7,OO];exact hz
 obtain⟨os,hos,hcs,hds⟩:=id hs;have hTs:s.TypeIs (.ref sl) "slice":=⟨os,hos,hcs⟩;unfold Wy
 try with_reducible refine Wa ?_
 first | refine VL (VO ?_) | skip
 refine VL (Xr ht.typeIs VC ?_);refine VL (Wk (name:=Oh "__getitem__") ht.typeIs P7
  (Wi P7 ht.typeIs Sb ?_ (Sf _ _)))
 show VQ _ _ (RC (.ref t) >>=_) _ _ s;refine VL (tupleItemsOf_ ht ?_);refine VL (WQ hTs ?_);rw [VF VC];refine VL (IQ hs ?_);show VQ _ _ (if (((items.size:Int) - 1)==0 && (-1:Int)==1 && items.size==items.size)=true then _ else _) _ _ s;rw [VE VH,IP]
 first
  | exact VL (m:=PR _) (V4 (VO ⟨_,rfl,VO h⟩) htake)
  | exact VL (m:=PR _) (V4 (VL (VO (VO ⟨_,rfl,VO h⟩))) htake)
  | exact VL (VL (m:=PR _) (V4 (VO (VO ⟨_,rfl,VO h⟩)) htake))
  | exact VL (VL (m:=PR _) (V4 (VO ⟨_,rfl,VO h⟩) htake))
section
variable {X:Cx} {H0:Hp} {O0:Ex}
theorem IT{e:VR}{te:TE}{pos p2 up cp:Pos}{j}(he:PE X e te):PE X (.Subscript e (.Slice none none (some (.UnaryOp .USub (.Constant (.int 1) j cp) up)) p2) pos) (λσ H Q=>te σ H λx H1=>∃a xs,x= .ref a/\br X.K H1 a xs/\∀p,H1 p=none->Q (.ref p) (av H1 p (.tup xs.reverse))):=by
 intro Xz s σ H Q I h;refine Subscript_ (az (he Xz s σ H _ I h) λv s1 ⟨x,H1,I1,r1,q1⟩=>?_);obtain⟨a,xs,rfl,hq,q⟩:=q1;cases r1;refine wpAny_Slice ?_;rw [evalPart_none];refine VO (VO ?_);rw [evalPart_some];refine az (vg vj cL Xz s1 σ H1 (λx H2=>x= .int (-1)/\H2=H1) I1 ⟨1,rfl,rfl,rfl⟩) λvk s3 ⟨x3,H3,I3,r3,e3,e4⟩=>?_;subst e3 e4;obtain⟨tk,rfl⟩:=r3;have I4:ae X Xz σ H3 {s3 with heap:=s3.heap.push {cls:= .type "slice",data:= .fields #[.none,.none,.int (-1) tk]}}:=I3.kept (t':=s3.toks) λb ob q=>Oo _ q;show VQ (VS X.prog X.w) X.A (Xn e (.Slice none none (some (.UnaryOp .USub (.Constant (.int 1) j cp) up)) p2) (.ref a) (.ref s3.heap.objs.size)) (EP X Xz σ Q) X.xe {s3 with heap:=s3.heap.push {cls:= .type "slice",data:= .fields #[.none,.none,.int (-1) tk]}};obtain⟨its,r,ht,hz⟩:=I4.tuple hq;have hlen:=r.length;refine tail_any (ops:=[.ref a,.ref s3.heap.objs.size]) ht.typeIs P7.lookup ?_ (by with_unfolding_all rfl);refine IS ht (Uc ..) (by rw [OC];omega) ?_;refine⟨.ref _,_,I4.laid (t':=s3.toks) (o:= .tup xs.reverse) (λb ob q=>Oo _ q) (Ot _) ?_,rfl,q _ (I4.hok.fresh (Ot _))⟩;exact⟨by rw [T7];exact hz,_,(show aI xs.reverse its.reverse from Hl r),Tj _ _⟩
def A5(t:DT):DT:=λδ Q=>t δ λd=>∃xs,d= .tuple xs/\Q (.tuple xs.reverse)
theorem IU{e:VR}{t:DT}{pos p2 up cp:Pos}{j}(h:DF X H0 O0 e t):DE X H0 O0 (.Subscript e (.Slice none none (some (.UnaryOp .USub (.Constant (.int 1) j cp) up)) p2) pos) (A5 t):=
 (IT h).imp λσ H Q uu13=>by obtain⟨O,δ,Qd,w,q,k⟩:=uu13;exact⟨O,δ,_,w,q,λd v H1 uu14 s1 r1=>by
  obtain⟨xs,e,q1⟩:=uu14;subst e;obtain⟨a,us,rfl,h1,d1⟩:=r1.tup;exact⟨a,us,rfl,h1,λp hp=>k _ _ _ q1 (s1.trans (au.new hp)) (.tup (.inl bb) (kA w s1 hp) (d1.reverse.mono (au.new hp)))⟩⟩
end
section
variable {x:Option VR} {n:Nat} {env:Env}
theorem IV{a b c}:Wb (.Tuple a b c) x n env=pure false:=rfl
theorem my{a b c d}:Wb (.BinOp a b c d) x n env=pure false:=rfl
theorem jT{a b c d}:Wb (.Call a b c d) x n env=pure false:=rfl
theorem mz{a b c}:Wb (.Subscript a b c) x n env=pure false:=rfl
theorem A6{a b c d}:Wb (.IfExp a b c d) x n env=pure false:=rfl
theorem sL{a b c}:Wb (.Dict a b c) x n env=pure false:=rfl
end
section
variable {X:Cx} {H0:Hp} {O0:Ex}
def A7:DS:=λ_ _=>False
theorem iM{st:V0}:PS X st (bw X.K H0 O0 A7):=Fb.imp λD σ H uu15=>by obtain⟨O,δ,E,w,q,_,_,_,_⟩:=uu15;exact q.elim
end
section
variable {α:Type} {P:α->Prop}
theorem A8{a:VI}{r:Dl}{P:VI->Prop}:cC 0 (some (Sl.v a)::r) P=P a:=rfl
theorem IW{x:Option Sl}{r:Dl}{i:Nat}{P:VI->Prop}:cC (i+1) (x::r) P=cC i r P:=rfl
theorem IX{a:List VI}{r:Dl}{P:List VI->Prop}:(∃d,(some (Sl.o a)::r)[0]?=some (some (Sl.o d))/\P d)=P a:=VH
theorem IY{x:Option Sl}{r:Dl}{i:Nat}{P:List VI->Prop}:(∃d,(x::r)[i+1]?=some (some (Sl.o d))/\P d)=(∃d,r[i]?=some (some (Sl.o d))/\P d):=VH
theorem IZ{x:Option Sl}{l:Dl}{i j:Nat}{P:List VI->Prop}(h:i≠j):(∃d,(l.set i x)[j]?=some (some (Sl.o d))/\P d)=(∃d,l[j]?=some (some (Sl.o d))/\P d):=by rw [OY h]
theorem I0{a:Bool}{P:Bool->Prop}:(∃b,Ql a= .bool b/\P b)=P a:=VH
theorem Ja{a:Int}{P:Int->Prop}:(∃b,Ou a= .int b/\P b)=P a:=VH
theorem Jb{a:Str}{P:Str->Prop}:(∃b,Ol a= .str b/\P b)=P a:=VH
theorem Jc{a:List VI}{P:List VI->Prop}:(∃b,Oz a= .tuple b/\P b)=P a:=VH
theorem Jd{a:List VI}{P:List VI->Prop}:(∃b,PL a= .list b/\P b)=P a:=VH
theorem Je{a b:Int}{P:Int->Int->Prop}:(∃i j,Ou a= .int i/\Ou b= .int j/\P i j)=P a b:=VH
theorem Jf{a b:Str}{P:Str->Str->Prop}:(∃i j,Ol a= .str i/\Ol b= .str j/\P i j)=P a b:=VH
theorem Jg{a b:List VI}{P:List VI->List VI->Prop}:(∃i j,PL a= .list i/\PL b= .list j/\P i j)=P a b:=VH
theorem Jh{a:VI}{r:List VI}{P:VI->List VI->Prop}:(∃x y,a::r=x::y/\P x y)=P a r:=propext ⟨λuu16=>by obtain⟨_,_,e,p⟩:=uu16;cases e;exact p,λp=>⟨_,_,rfl,p⟩⟩
theorem Ji{a b:VI}{P:VI->VI->Prop}:(∃x y,[a,b]=[x,y]/\P x y)=P a b:=propext ⟨λuu17=>by obtain⟨_,_,e,p⟩:=uu17;cases e;exact p,λp=>⟨_,_,rfl,p⟩⟩
theorem Jj{a:VI}{r:List VI}{P:VI->Prop}:(∃ds i d,Oz (a::r)= .tuple ds/\Ou 0= .int i/\atI ds i=some d/\P d)=P a:=by simp [dM]
theorem Jk{a b:VI}{r:List VI}{P:VI->Prop}:(∃ds i d,Oz (a::b::r)= .tuple ds/\Ou 1= .int i/\atI ds i=some d/\P d)=P b:=by simp [eN]
theorem Jl{a b c:VI}{r:List VI}{P:VI->Prop}:(∃ds i d,Oz (a::b::c::r)= .tuple ds/\Ou 2= .int i/\atI ds i=some d/\P d)=P c:=by simp [l4]
theorem Jm{a b c e:VI}{r:List VI}{P:VI->Prop}:(∃ds i d,Oz (a::b::c::e::r)= .tuple ds/\Ou 3= .int i/\atI ds i=some d/\P d)=P e:=by simp [l5]
theorem Jn{xs:List VI}{k:Int}{P:VI->Prop}:(∃ds i d,Oz xs= .tuple ds/\Ou k= .int i/\atI ds i=some d/\P d)=(∃d,atI xs k=some d/\P d):=VH
theorem Jo{xs:List VI}{k:Int}{P:VI->Prop}:(∃ds i d,PL xs= .list ds/\Ou k= .int i/\atI ds i=some d/\P d)=(∃d,atI xs k=some d/\P d):=VH
end
theorem Jp{w v:Str}{r:List VI}{l:Dl}{Q:Bool->Prop}:fV (fU oP (fU oC (cC 0) (dC (.int 0))) (dC (.str v))) (some (.v (.tuple (.str w::r)))::l) Q=Q (w==v):=by
 simp [fV,fU,oP,oC,A8,dC,dM,bL,gN]
def fG:ak->VI
 | .inl i=>.int i
 | .inr x=>.str x
def cy(kd:List (ak×VI))(k:ak):Option VI:=(kd.find? λp=>decide (p.1=k)).map (·.2)
def eg(kd:List (ak×VI))(k:ak)(d:VI):List (ak×VI):=if (kd.any λp=>decide (p.1=k))=true then kd.map (λp=>if p.1=k then(p.1,d) else p) else kd++[(k,d)]
section
variable {K:Og} {H:Hp} {O:Ex}
theorem Dt.key{v:V}{k:ak}(h:Dt K H O v (fG k)):v=kV k:=by
 cases k with
 | inl i=>cases h;rfl
 | inr x=>cases h;rfl
theorem bu.val{kv:List (ak×V)}{kd:List (ak×VI)}(h:bu K H O kv kd)(k:ak):(cJ kv k=none/\cy kd k=none)\/∃v d,cJ kv k=some v/\cy kd k=some d/\Dt K H O v d:=by
 induction h with
 | nil=>exact .inl ⟨rfl,rfl⟩
 | @cons j v d r s a _ ih=>
  by_cases e:j=k
  ·exact .inr ⟨v,d,l6 e,by simp [cy,Qc,e],a⟩
  ·rw [kK e,show cy ((j,d)::s) k=cy s k by simp [cy,Qc,e]];exact ih
theorem bu.any{kv:List (ak×V)}{kd:List (ak×VI)}(h:bu K H O kv kd)(k:ak):(kv.any λp=>decide (p.1=k))=(kd.any λp=>decide (p.1=k)):=by
 induction h with
 | nil=>rfl
 | cons a _ ih=>simp only [QD,ih]
theorem bu.length{kv:List (ak×V)}{kd:List (ak×VI)}(h:bu K H O kv kd):kv.length=kd.length:=by
 induction h with
 | nil=>rfl
 | cons a _ ih=>simp only [OG,ih]
theorem bu.append{kv kv':List (ak×V)}{kd kd':List (ak×VI)}(h:bu K H O kv kd)(h':bu K H O kv' kd'):bu K H O (kv++kv') (kd++kd'):=by
 induction h with
 | nil=>exact h'
 | cons a _ ih=>exact .cons a ih
theorem bu.repl{kv:List (ak×V)}{kd:List (ak×VI)}(h:bu K H O kv kd)(k:ak){v:V}{d:VI}(hv:Dt K H O v d):bu K H O (kv.map λp=>if p.1=k then(p.1,v) else p) (kd.map λp=>if p.1=k then(p.1,d) else p):=by
 induction h with
 | nil=>exact .nil
 | @cons j u e r s a _ ih=>
  simp only [Ov];by_cases z:j=k
  ·rw [VF z,VF z];exact .cons hv ih
  ·rw [VE z,VE z];exact .cons a ih
theorem bu.put{kv:List (ak×V)}{kd:List (ak×VI)}(h:bu K H O kv kd)(k:ak){v:V}{d:VI}(hv:Dt K H O v d):bu K H O (putK kv k v) (eg kd k d):=by
 unfold putK eg;rw [h.any k];split
 ·exact h.repl k hv
 ·exact h.append (.cons hv .nil)
end
section
variable {X:Cx} {H0:Hp} {O0:Ex}
abbrev jU:=Dl->(List (ak×VI)->Prop)->Prop
inductive A9 (K:Og) (H0:Hp) (O0:Ex) (t:jU) (σ:St) (H:Hp) (R:VK):Prop
 | mk (O:Ex) (δ:Dl) (Qd:List (ak×VI)->Prop):Wd K H0 O0 H O σ δ->t δ Qd->(∀kd kv p H',Qd kd->au H H'->H' p=none->bu K H' O kv kd->R (.ref p) (av H' p (.dK kv)))->A9 K H0 O0 t σ H R
abbrev KE(X:Cx)(H0:Hp)(O0:Ex)(e:VR)(t:jU):Prop:=PE X e (A9 X.K H0 O0 t)
def Ba:jU:=λ_ Q=>Q []
theorem Jq{pos:Pos}:KE X H0 O0 (.Dict [] [] pos) Ba:=Aj.imp λσ H Q uu18=>by obtain⟨O,δ,Qd,w,q,k⟩:=uu18;exact λp hp=>k [] [] p H q (au.refl _) hp .nil
def Bb(i:Nat)(t:jU):DS:=λE δ=>t δ λkd=>E.nx (δ.set i (some (.k kd)))
theorem oU{i:Nat}{x:Str}{e:VR}{t:jU}{pos pos':Pos}(hN:X.N.Nodup)(hi:X.N[i]?=some x)(hx:gY X.env.scope x)(he:KE X H0 O0 e t)(hs:Wb e (some (.Name x pos')) pos.line X.env=pure false:=by rfl)(hf:X.fn x=true\/X.env.scope.names.lookup x=some .local:=by first | exact .inl rfl | exact .inr rfl | assumption):
 PS X (.Assign [.Name x pos'] e pos) (bw X.K H0 O0 (Bb i t)):=
 (iZ hN hi hx he hs hf).imp λD σ H ⟨O,δ,E,w,q,k1,k2,k3,k4⟩=>⟨O,δ,_,w,q,λds vs p H1 q1 s1 hp r1=>k1 _ _ _ _ q1 ((w.mono s1).setK hp r1)
  ⟨λb o e _=>(s1.trans (au.new hp)) b o e,λb e n z=>z.elim n λy=>by
   cases q:H b with
   | none=>exact e q
   | some o=>have:=s1 _ _ q;rw [y,hp] at this;cases this⟩⟩
def Bc(i:Nat)(tk tv:DT):DS:=λE δ=>tv δ λd=>∃kd,δ[i]?=some (some (.k kd))/\tk δ λy=>∃k,y=fG k/\kd.length < VT/\E.nx (δ.set i (some (.k (eg kd k d))))
theorem Jr{i:Nat}{o e v:VR}{tk tv:DT}{pos pos':Pos}(hu:X.A.units+64 < V9)(ho:PE X o (dR i))(he:DE X H0 O0 e tk)(hv:DE X H0 O0 v tv)(hs:Wb v (some (.Subscript o e pos')) pos.line X.env=pure false:=by rfl):
 PS X (.Assign [.Subscript o e pos'] v pos) (bw X.K H0 O0 (Bc i tk tv)):=
 (Hz VD ho he hv hs).imp λD σ H ⟨O,δ,E,w,q,k1,k2,k3,k4⟩=>⟨O,δ,_,w,q,λd u H1 uu21 s1 r1=>by
  obtain⟨kd,e,qk⟩:=uu21;have w1:=w.mono s1;obtain⟨l,kv,h,a,b,c,r⟩:=w1.ownK e;refine⟨.ref l,h,O,δ,_,w1,qk,λy uy H2 ⟨k,ek,hl,q2⟩ s2 r2=>?_⟩;subst ek;obtain rfl:=r2.key;refine⟨l,_,rfl,l8.k (s2 _ _ c) (by rw [r.length];exact hl),k1 _ _ _ _ q2 ((w1.mono s2).putK e h ((r.mono s2).put k (r1.mono s2))) ⟨λb' o' z n=>?_,λ_ _ n=>n⟩⟩;rw [aE (λy=>n (by rw [y];exact a))];exact(s1.trans s2) _ _ z⟩
def Bd(i:Nat)(tk:DT):DT:=λδ Q=>∃kd,δ[i]?=some (some (.k kd))/\tk δ λy=>∃k d,y=fG k/\cy kd k=some d/\Q d
theorem bu.got{K:Og}{H:Hp}{O:Ex}{kv:List (ak×V)}{kd:List (ak×VI)}(h:bu K H O kv kd){k:ak}{d:VI}(e:cy kd k=some d):∃v,cJ kv k=some v/\Dt K H O v d:=by
 rcases h.val k with⟨_,z⟩ | ⟨v,d',a,b,c⟩
 ·rw [e] at z;cases z
 ·rw [e] at b;cases b;exact⟨v,a,c⟩
theorem bu.none{K:Og}{H:Hp}{O:Ex}{kv:List (ak×V)}{kd:List (ak×VI)}(h:bu K H O kv kd){k:ak}:(cJ kv k).isSome=(cy kd k).isSome:=by
 rcases h.val k with⟨y,z⟩ | ⟨v,d',a,b,c⟩
 ·rw [y,z];rfl
 ·rw [a,b];rfl
theorem oV{i:Nat}{o e:VR}{tk:DT}{pos:Pos}(hu:X.A.units+64 < V9)(ho:PE X o (dR i))(he:DE X H0 O0 e tk)(hs:oI e):DE X H0 O0 (.Subscript o e pos) (Bd i tk):=
 (Af VD ho he hs).imp λσ H Q uu23=>by
  obtain⟨O,δ,Qd,w,⟨kd,e,q⟩,k⟩:=uu23;obtain⟨l,kv,h,a,b,c,r⟩:=w.ownK e;refine⟨.ref l,h,O,δ,_,w,q,λy uy H2 ⟨ky,d,ek,ev,q2⟩ s2 r2=>?_⟩;subst ek;obtain rfl:=r2.key;obtain⟨v,hv,dv⟩:=r.got ev;exact⟨l,v,rfl,by rw [<-hv];exact c5.k (s2 _ _ c),k _ _ _ q2 s2 (dv.mono s2)⟩
def Be(i:Nat)(tk:DT):DT:=λδ Q=>∃kd,δ[i]?=some (some (.k kd))/\tk δ λy=>∃k,y=fG k/\Q ((cy kd k).getD .none)
theorem Bf{i:Nat}{o e:VR}{tk:DT}{apos cpos:Pos}(hu:X.A.units+64 < V9)(ho:PE X o (dR i))(he:DE X H0 O0 e tk)(m:M1 X o "get" apos e cpos):DE X H0 O0 (.Call (.Attribute o "get" apos) [e] [] cpos) (Be i tk):=
 (HG VD ho he m).imp λσ H Q uu25=>by
  obtain⟨O,δ,Qd,w,⟨kd,e,q⟩,k⟩:=uu25;obtain⟨l,kv,h,a,b,c,r⟩:=w.ownK e;refine⟨.ref l,h,l,rfl,.inl ⟨kv,.inl c⟩,O,δ,_,w,q,λy uy H2 ⟨ky,ek,q2⟩ s2 r2=>?_⟩;subst ek;obtain rfl:=r2.key;refine⟨_,c5.k (s2 _ _ c),k _ _ _ q2 s2 ?_⟩;rcases r.val ky with⟨y,z⟩ | ⟨v,d',a',b',c'⟩
  ·rw [y,z];exact .non
  ·rw [a',b'];exact c'.mono s2
def mB(neg:Bool)(i:Nat)(tk:DT):DT:=λδ Q=>tk δ λy=>∃k,y=fG k/\∃kd,δ[i]?=some (some (.k kd))/\Q (.bool (if neg then !(cy kd k).isSome else(cy kd k).isSome))
theorem Js{i:Nat}{o e:VR}{tk:DT}(hu:X.A.units+64 < V9)(ho:PE X o (dR i))(he:DE X H0 O0 e tk):PC X .In e o (up X.K H0 O0 (mB false i tk)):=λXz s σ H Q I ⟨O,δ,Qd,w,q,k⟩=>
 Ag VD he ho Xz s σ H Q I ⟨O,δ,_,w,q,λy uy H2 uu28 s2 r2=>by
  obtain⟨ky,ek,kd,e,q2⟩:=uu28;subst ek;obtain rfl:=r2.key;obtain⟨l,kv,h,a,b,c,r⟩:=(w.mono s2).ownK e;exact⟨.ref l,h,l,_,rfl,c5.k c,by rw [r.none];exact k _ _ _ q2 s2 (.bl _)⟩⟩
theorem Jt{i:Nat}{o e:VR}{tk:DT}(hu:X.A.units+64 < V9)(ho:PE X o (dR i))(he:DE X H0 O0 e tk):PC X .NotIn e o (up X.K H0 O0 (mB true i tk)):=λXz s σ H Q I ⟨O,δ,Qd,w,q,k⟩=>
 Ah VD he ho Xz s σ H Q I ⟨O,δ,_,w,q,λy uy H2 uu30 s2 r2=>by
  obtain⟨ky,ek,kd,e,q2⟩:=uu30;subst ek;obtain rfl:=r2.key;obtain⟨l,kv,h,a,b,c,r⟩:=(w.mono s2).ownK e;exact⟨.ref l,h,l,_,rfl,c5.k c,by rw [r.none];exact k _ _ _ q2 s2 (.bl _)⟩⟩
end
open PySem PySem.Spec PyProof.Rows PySem.W PySem.Calls
theorem Ju{prog:VW}{w:VZ}{A:V1}{E:VJ->VN->Prop}{s:VN}{T:String}{r d:VM}{n:Nat}{P:Nat->VJ->Prop}{OK:VY->Prop}{ss:List Str}{Q:VJ->VN->Prop}
 (K:KdlSrc prog w T r d n P OK)(hh:A.handled=none)(hok:OK s.heap)(hn:n < 64)(hP:∀vs:List VJ,vs.length=n->(∀j v,vs[j]?=some v->P j v)->Wh vs ss)
 (h:∀(h' h2:VY) (tk:Nat) (out:Array VJ) (e:Nat) (ss':List Str),(∀b o,s.heap.get? b=some o->h'.get? b=some o)->(∀b o,h'.get? b=some o->h2.get? b=some o)->h2.get? h'.objs.size=some (We "list" out e)->Wh out.toList ss'->ss'.Perm ss->sortedS ss'=true->Q (.ref h'.objs.size) {s with heap:=h2,toks:=tk}):
 VQ (VS prog w) A (call (.builtin "sorted") [.ref r]) Q E s:=by
 refine SV kind_sorted plain_sorted entry_sorted (args_sorted1 _) ?_;unfold Builtin.«sorted»;refine VL (m:=checkCount "sorted" 1 1 _) (VO ?_);refine VL (kdu_collect (A:=A.in1) K hh hok (OZ (QJ hn) VC) λh' tk acc hk hacc=>?_);have hl:acc.toList.length=n:=by rw [OO];exact hacc.1
 refine VL (Xo ?_);have hS:=hP acc.toList hl (λj v e=>hacc.2 j v (by rw [<-Rr];exact e));have hoL:(h'.push (We "list" acc.toList.toArray 0)).get? h'.objs.size=some (We "list" acc.toList.toArray 0):=OP _ rfl;refine VL (Wa (Wi slot_list_sort ⟨_,hoL,rfl⟩ entry_list_sort (list_sort_treeK (s:={s with heap:=h'.push (We "list" acc.toList.toArray 0),toks:=tk}) strKind_oneLt hoL hS.keysOf (λv₁ v₂ rest e=>keyKind_strs (by rw [<-e];exact hS)) (by rw [hl];exact hn) λst' a1 a2=>⟨_,rfl,?_⟩) (args_list_sort _)));obtain⟨ss',h1,h2,h3⟩:=sorted_out_str hS a1 a2;obtain⟨e,he⟩:=sortedHeap_at (n:=0) (vs:=acc.toList) (out:=(arrOf st').map (·.2)) hoL;refine VO ⟨_,rfl,h h' _ tk _ e ss' hk (λb o q=>?_) he h1 h2 h3⟩;have hlt:b < h'.objs.size:=OB q;rw [sortedHeap_old (OX hlt) (by rw [size_push'];exact P6 hlt),UB _ _ _ (OX hlt)];exact q
theorem sM{P:VW}{w:VZ}:∀{ss:List Str}{vs:List VJ},vs.length=ss.length->(∀(j:Nat)(v:VJ),vs[j]?=some v->∃x:Str,ss[j]?=some x/\(cY P w).is (.inr x) v=true)->Wh vs ss
 | [],[],_,_=>.nil
 | x::ss,v::vs,hl,h=>by
  obtain⟨y,e,k⟩:=h 0 v rfl;cases e;rcases gW (k:= .inr x) (v:=v) k with⟨i,t,e,_⟩ | ⟨z,t,e,ev⟩
  ·cases e
  ·cases e;subst ev;exact .cons x t (sM (by simpa using hl) λj v e=>h (j+1) v e)
theorem Jv{X:Cx}:cO X (.builtin "sorted") (λxs H Q=>X.calm=true/\∃a kv ss,xs=[.ref a]/\Rd H a (.dK kv)/\kv.map (·.1)=ss.map PM/\ss.length < 64/\∀l,H l=none->Q (.ref l) (av H l (.lst ((cD ss).map V.str)))):=by
 intro Xz s σ H xs us Q I r h;obtain⟨hc,a,kv,ss,rfl,ha,hk,h64,q⟩:=h;obtain⟨u,rfl,rx⟩:=dj r;cases rx;obtain⟨hz,lo,vs,rel,dd⟩:=iI I.hok ha;obtain⟨ep,da⟩:=dd.dictAt;have hlen:vs.length=ss.length:=by rw [<-rel.length,<-Oi (f:=(·.1)),hk,Oi]
 refine Ju (ss:=ss) (kdl_dict (kvs:=vs) (ep:=ep) lo) (I.ok.hd hc) da VD (λus hl hp=>sM (P:=X.prog) (w:=X.w) VD λj v e=>?_) λh' h2 tk out e ss' k1 k2 ly s1 s2 s3=>?_
 ·obtain⟨k,x,ek,kk⟩:=hp j v e;have e1:(vs.map (·.1))[j]?=some k:=by rw [OD,ek];rfl
  rw [<-rel.keys,hk,OD] at e1;cases es:ss[j]? with
  | none=>rw [es] at e1;cases e1
  | some y=>rw [es] at e1;cases e1;exact⟨y,rfl,kk⟩
 ·have es:ss'=cD ss:=sr s2 (su _ s3);subst es;have hl2:(cD ss).length=ss.length:=s2.length_eq;have I1:ae X Xz σ H {s with heap:=h',toks:=tk}:=I.kept (t':=tk) k1;refine⟨.ref _,_,I1.laid (t':=tk) (o:= .lst ((cD ss).map V.str)) k2 (Ot _) ?_,rfl,q _ (I1.hok.fresh (Ot _))⟩;refine⟨by rw [Oi,hl2];exact OZ (QJ h64) VC,out.toList,e,mn s1,?_⟩;rw [ly]
theorem bu.keys{K:Og}{H:Hp}{O:Ex}{kv:List (ak×V)}{kd:List (ak×VI)}(h:bu K H O kv kd):kv.map (·.1)=kd.map (·.1):=by
 induction h with
 | nil=>rfl
 | cons a _ ih=>simp only [Ov,ih]
section
variable {X:Cx} {H0:Hp} {O0:Ex}
def Bg(i:Nat):DA:=λδ Q=>∃kd,δ[i]?=some (some (.k kd))/\∃ss:List Str,kd.map (·.1)=ss.map PM/\ss.length < 64/\Q ((cD ss).map .str)
theorem Jw{i:Nat}{o:VR}{np p:Pos}(hc:X.calm=true)(hg:Gl X "sorted")(hm:X.mg "sorted"=none)(hv:V3 "sorted"=some (.builtin "sorted"))(ho:PE X o (dR i))(he:VP [o] X.env=(false,eval o X.env)::VP [] X.env:=by rfl)(hpl:(V6 p (VP [] X.env)).any (·.1)=false:=by rfl):
 FE X H0 O0 (.Call (.Name "sorted" np) [o] [] p) (Bg i):=
 (aS Jv hg hm hv (bS ho dF he) (he:=he) (hpl:=hpl)).imp λσ H Q uu31=>by
  obtain⟨O,δ,Qd,w,⟨kd,e,ss,ek,h64,q⟩,k⟩:=uu31;obtain⟨l,kv,h,a,b,c,r⟩:=w.ownK e;exact⟨.ref l,h,hc,l,kv,ss,rfl,.inl c,by rw [r.keys];exact ek,h64,λp hp=>k _ _ _ _ q (au.refl _) hp (aq.ofStrs _)⟩
theorem Oe{i:Nat}{o e:VR}{tk:DT}{pos:Pos}(hu:X.A.units+64 < V9)(ho:PE X o (dR i))(he:DE X H0 O0 e tk)(hm:Wg .In o=false:=by rfl):PT X (.Compare e [.In] [o] pos) (bP X.K H0 O0 (fV (mB false i tk))):=
 (nv (Js hu ho he) hm).imp λσ H Q uu32=>by obtain⟨O,δ,Qd,w,q,k⟩:=uu32;exact⟨O,δ,_,w,q,λd v H' uu33 s r=>by obtain⟨b,e,qb⟩:=uu33;subst e;cases r;exact⟨b,rfl,k b H' qb s⟩⟩
theorem Jx{i:Nat}{o e:VR}{tk:DT}{pos:Pos}(hu:X.A.units+64 < V9)(ho:PE X o (dR i))(he:DE X H0 O0 e tk)(hm:Wg .NotIn o=false:=by rfl):PT X (.Compare e [.NotIn] [o] pos) (bP X.K H0 O0 (fV (mB true i tk))):=
 (nv (Jt hu ho he) hm).imp λσ H Q uu34=>by obtain⟨O,δ,Qd,w,q,k⟩:=uu34;exact⟨O,δ,_,w,q,λd v H' uu35 s r=>by obtain⟨b,e,qb⟩:=uu35;subst e;cases r;exact⟨b,rfl,k b H' qb s⟩⟩
end
section
theorem Jy{a:List (ak×VI)}{r:Dl}{P:List (ak×VI)->Prop}:(∃d,(some (Sl.k a)::r)[0]?=some (some (Sl.k d))/\P d)=P a:=VH
theorem Jz{x:Option Sl}{r:Dl}{i:Nat}{P:List (ak×VI)->Prop}:(∃d,(x::r)[i+1]?=some (some (Sl.k d))/\P d)=(∃d,r[i]?=some (some (Sl.k d))/\P d):=VH
theorem JA{a:List (ak×VI)}{l:Dl}{i:Nat}{P:List (ak×VI)->Prop}:(∃d,(l.set i (some (Sl.k a)))[i]?=some (some (Sl.k d))/\P d)=(i < l.length/\P a):=by
 apply propext;rw [List.getElem?_set_self'];constructor
 ·rintro⟨d,e,p⟩;by_cases h:i < l.length
  ·rw [OS h] at e;cases e;exact⟨h,p⟩
  ·rw [QG VD] at e;cases e
 ·rintro⟨h,p⟩;exact⟨a,by rw [OS h];rfl,p⟩
theorem JB{x:Option Sl}{l:Dl}{i j:Nat}{P:List (ak×VI)->Prop}(h:i≠j):(∃d,(l.set i x)[j]?=some (some (Sl.k d))/\P d)=(∃d,l[j]?=some (some (Sl.k d))/\P d):=by rw [OY h]
theorem JC{x:Str}{P:ak->Prop}:(∃k,Ol x=fG k/\P k)=P (.inr x):=propext ⟨λuu36=>by obtain⟨k,e,p⟩:=uu36;cases k with | inl i=>cases e | inr y=>cases e;exact p,λp=>⟨_,rfl,p⟩⟩
end
def iN:VI->Bool
 | .none=>true
 | _=>false
def Bh:VI->VI->(VI->Prop)->Prop:=λx y Q=>y= .none/\Q (.bool (iN x))
def Bi:VI->VI->(VI->Prop)->Prop:=λx y Q=>y= .none/\Q (.bool (!iN x))
theorem Sh.isN{K:Og}{H:Hp}{O:Ex}{x:V}{d:VI}(h:Sh K H O x d):decide (x= .non)=iN d:=by
 cases h with
 | dt h=>cases h <;> simp [iN]
 | _=>simp [iN]
theorem JD{K:Og}:bN K (λx y H Q=>y= .non/\Q (.bl (decide (x= .non))) H) Bh:=λH O x y dx dy Qd R _ hx hy uu37 k=>by
 obtain⟨e,q⟩:=uu37;subst e;refine⟨hy.non,?_⟩;rw [hx.isN];exact k _ _ H q (au.refl _) (.bl _)
theorem Bj{K:Og}:bN K (λx y H Q=>y= .non/\Q (.bl (!decide (x= .non))) H) Bi:=λH O x y dx dy Qd R _ hx hy uu38 k=>by
 obtain⟨e,q⟩:=uu38;subst e;refine⟨hy.non,?_⟩;rw [hx.isN];exact k _ _ H q (au.refl _) (.bl _)
def Bk:VI->VI->(VI->Prop)->Prop:=λx y Q=>∃ds i d,x=fy ds/\y= .int i/\atI ds i=some d/\Q d
theorem JE{K:Og}:bN K (nV K) Bk:=λH O x y dx dy Qd R _ hx hy uu39 k=>by
 obtain⟨ds,i,d,e1,e2,e3,q⟩:=uu39;subst e1 e2;obtain⟨a,vs,rfl,hs,r⟩:=hx.scr;cases hy.int;obtain⟨v,hv,rv⟩:=r.atI e3;exact⟨a,vs,i,v,rfl,rfl,hs,hv,k d v H q (au.refl _) rv⟩
section
variable {X:Cx} {H0:Hp} {O0:Ex}
def Bl(t:DT)(tl th:DO):DA:=λδ Q=>t δ λd=>tl δ λl=>th δ λu=>∃xs,d=fy xs/\Q (bY xs l u)
theorem JF{e:VR}{lo hi:Option VR}{t:DT}{tl th:DO}{pos p2:Pos}(h:DF X H0 O0 e t)(hl:PO X lo (gM X.K H0 O0 tl))(hu:PO X hi (gM X.K H0 O0 th)):FE X H0 O0 (.Subscript e (.Slice lo hi none p2) pos) (Bl t tl th):=
 (nU vN h hl hu).imp λσ H Q uu40=>by obtain⟨O,δ,Qd,w,q,k⟩:=uu40;exact⟨O,δ,_,w,q,λd v H1 q1 s1 r1=>⟨O,δ,_,w.mono s1,q1,λl H2 q2 s2=>⟨O,δ,_,w.mono (s1.trans s2),q2,λu H3 uu41 s3=>by
  obtain⟨xs,e,q3⟩:=uu41;subst e;obtain⟨a,vs,rfl,h1,d1⟩:=(r1.mono (s2.trans s3)).scr;exact⟨a,vs,rfl,h1,λp hp=>k _ _ _ _ q3 (s1.trans (s2.trans s3)) hp (d1.cut l u)⟩⟩⟩⟩
end
structure Rw where
 w:Str
 n:Int
 nm:Str
 r:List VI
def Rw.enc(x:Rw):VI:= .tuple (.str x.w:: .int x.n:: .str x.nm::x.r)
def fH(ws:List Str)(day:Int)(x:Rw):Prop:=x.w∈ws/\x.n<=day
instance {ws:List Str} {day:Int} {x:Rw}:Decidable (fH ws day x):=by unfold fH;infer_instance
abbrev Ls:=List (Str×Rw)
def gr(L:Ls):List (ak×VI):=L.map λp=>(.inr p.1,p.2.enc)
def dP(L:Ls)(nm:Str):Option Rw:=(L.find? λp=>decide (p.1=nm)).map (·.2)
def oW(L:Ls)(nm:Str)(x:Rw):Ls:=if (L.any λp=>decide (p.1=nm))=true then L.map (λp=>if p.1=nm then(p.1,x) else p) else L++[(nm,x)]
theorem mC{a b:Str}:((PM a:ak)=PM b)↔a=b:=⟨λh=>by cases h;rfl,λh=>by rw [h]⟩
theorem sN(nm:Str):∀L:Ls,cy (gr L) (.inr nm)=(dP L nm).map Rw.enc
 | []=>rfl
 | p::L=>by
  have ih:=sN nm L;unfold cy dP gr at*;by_cases h:p.1=nm
  ·simp [Qc,h]
  ·have h':¬((PM p.1:ak)=PM nm):=λz=>h (mC.mp z);simp only [Ov,Qc,decide_eq_false h,decide_eq_false h'];exact ih
theorem Bm(L:Ls)(nm:Str)(x:Rw):eg (gr L) (.inr nm) x.enc=gr (oW L nm x):=by
 have ha:(gr L).any (λp=>decide (p.1=(PM nm:ak)))=L.any λp=>decide (p.1=nm):=by
  unfold gr;rw [RL];congr 1;funext p;simp only [T1,mC]
 unfold eg oW;rw [ha];split
 ·unfold gr;rw [Pl,Pl];apply Sj;intro p _;simp only [T1,mC];split <;> rfl
 ·unfold gr;simp
structure eD (ws:List Str) (day:Int) (xs:List Rw) (L:Ls):Prop where
 nd:(L.map (·.1)).Nodup
 it:∀p∈L,p.1=p.2.nm/\p.2∈xs/\fH ws day p.2/\∀y∈xs,fH ws day y->y.nm=p.1->y.n<=p.2.n
 al:∀y∈xs,fH ws day y->∃p∈L,p.1=y.nm
 le:L.length<=xs.length
theorem eD.nil(ws:List Str)(day:Int):eD ws day [] []:=⟨List.nodup_nil,(λp h=>by cases h),(λp h=>by cases h),Ot _⟩
theorem oX{L:Ls}{nm:Str}{y:Rw}(h:dP L nm=some y):∃p∈L,p.1=nm/\p.2=y:=by
 unfold dP at h;cases e:L.find? (λp=>decide (p.1=nm)) with
 | none=>rw [e] at h;cases h
 | some p=>
  rw [e] at h;cases h;exact⟨p,Pt e,by simpa using Qr e,rfl⟩
theorem Bn{L:Ls}{nm:Str}(h:dP L nm=none):∀p∈L,p.1≠nm:=by
 intro p hp e;unfold dP at h;rw [Option.map_eq_none_iff,PJ] at h;exact h p hp (by simpa using e)
section
variable {ws:List Str} {day:Int} {xs:List Rw} {L:Ls} {x:Rw}
theorem eD.skip(h:eD ws day xs L)(hx:¬fH ws day x):eD ws day (xs++[x]) L:=by
 refine⟨h.nd,λp hp=>?_,λy hy ho=>?_,by have:=h.le;simp;omega⟩
 ·obtain⟨a,b,c,d⟩:=h.it p hp;refine⟨a,by simp [b],c,λy hy ho e=>?_⟩;rcases OJ.mp hy with z | z
  ·exact d y z ho e
  ·rw [ON] at z;subst z;exact absurd ho hx
 ·rcases OJ.mp hy with z | z
  ·exact h.al y z ho
  ·rw [ON] at z;subst z;exact absurd ho hx
theorem eD.keep(h:eD ws day xs L){y0:Rw}(hl:dP L x.nm=some y0)(hn:¬y0.n < x.n):eD ws day (xs++[x]) L:=by
 obtain⟨p0,hp0,e0,rfl⟩:=oX hl;have uq:∀p∈L,p.1=x.nm->p=p0:=λp hp e=>by
  have nd:=h.nd;clear h hl hn
  induction L with
  | nil=>cases hp
  | cons q L ih=>
   rw [Ov,QK] at nd;rcases Ox.mp hp with a | a <;> rcases Ox.mp hp0 with b | b
   ·rw [a,b]
   ·exact absurd (Ow.mpr ⟨p0,b,by rw [e0,<-e,a]⟩) nd.1
   ·exact absurd (Ow.mpr ⟨p,a,by rw [e,<-e0,b]⟩) nd.1
   ·exact ih b a nd.2
 refine⟨h.nd,λp hp=>?_,λy hy ho=>?_,by have:=h.le;simp;omega⟩
 ·obtain⟨a,b,c,d⟩:=h.it p hp;refine⟨a,by simp [b],c,λy hy ho e=>?_⟩;rcases OJ.mp hy with z | z
  ·exact d y z ho e
  ·rw [ON] at z;subst z;rw [uq p hp e.symm];omega
 ·rcases OJ.mp hy with z | z
  ·exact h.al y z ho
  ·rw [ON] at z;subst z;exact⟨p0,hp0,e0⟩
theorem eD.put(h:eD ws day xs L)(ho:fH ws day x)(hl:∀y,dP L x.nm=some y->y.n < x.n):eD ws day (xs++[x]) (oW L x.nm x):=by
 unfold oW;split
 ·rename_i ha;obtain⟨p0,hp0,e0⟩:=PX.mp ha;have e0:p0.1=x.nm:=of_decide_eq_true e0;have hmx:∀y∈xs,fH ws day y->y.nm=x.nm->y.n<=x.n:=λy hy ho' e=>by
   cases hk:dP L x.nm with
   | none=>exact absurd e0 (Bn hk p0 hp0)
   | some z=>
    obtain⟨p,hp,ep,rfl⟩:=oX hk;have:=(h.it p hp).2.2.2 y hy ho' (by rw [ep];exact e);have:=hl _ hk;omega
  refine⟨?_,λp hp=>?_,λy hy ho'=>?_,by have:=h.le;simp;omega⟩
  ·rw [Pl,show((λp:Str×Rw=>p.1)∘ λp=>if p.1=x.nm then(p.1,x) else p)=λp=>p.1 by funext p;simp only [T1];split <;> rfl];exact h.nd
  ·obtain⟨q,hq,rfl⟩:=Ow.mp hp;by_cases z:q.1=x.nm
   ·rw [VF z];refine⟨z,VH,ho,λy hy ho' e=>?_⟩;rcases OJ.mp hy with m | m
    ·exact hmx y m ho' (by rw [e];exact z)
    ·rw [ON] at m;subst m;exact Vr _
   ·rw [VE z];obtain⟨a,b,c,d⟩:=h.it q hq;refine⟨a,by simp [b],c,λy hy ho' e=>?_⟩;rcases OJ.mp hy with m | m
    ·exact d y m ho' e
    ·rw [ON] at m;subst m;exact absurd e.symm z
  ·rcases OJ.mp hy with m | m
   ·obtain⟨p,hp,e⟩:=h.al y m ho';refine⟨_,Ow.mpr ⟨p,hp,rfl⟩,?_⟩;split <;> exact e
   ·rw [ON] at m;subst m;refine⟨_,Ow.mpr ⟨p0,hp0,rfl⟩,?_⟩;rw [VF e0];exact e0
 ·rename_i ha;have hno:∀p∈L,p.1≠x.nm:=λp hp e=>ha (PX.mpr ⟨p,hp,decide_eq_true e⟩);refine⟨?_,λp hp=>?_,λy hy ho'=>?_,by have:=h.le;simp;omega⟩
  ·rw [O9];refine RY.mpr ⟨h.nd,VH,λa ha' b hb=>?_⟩;simp only [Ov,PV,ON] at hb;obtain⟨p,hp,rfl⟩:=Ow.mp ha';rw [hb];exact hno p hp
  ·rcases OJ.mp hp with m | m
   ·obtain⟨a,b,c,d⟩:=h.it p m;refine⟨a,by simp [b],c,λy hy ho' e=>?_⟩;rcases OJ.mp hy with z | z
    ·exact d y z ho' e
    ·rw [ON] at z;subst z;exact absurd e.symm (hno p m)
   ·rw [ON] at m;subst m;refine⟨rfl,VH,ho,λy hy ho' e=>?_⟩;rcases OJ.mp hy with z | z
    ·obtain⟨p,hp,e'⟩:=h.al y z ho';exact absurd (e'.trans e) (hno p hp)
    ·rw [ON] at z;subst z;exact Vr _
  ·rcases OJ.mp hy with m | m
   ·obtain⟨p,hp,e⟩:=h.al y m ho';exact⟨p,by simp [hp],e⟩
   ·rw [ON] at m;subst m;exact⟨(y.nm,y),VH,rfl⟩
end
structure gu (ws:List Str) (day:Int) (xs res:List Rw):Prop where
 up:(res.map (·.nm)).Pairwise λa b=>c9 a b=true
 nd:(res.map (·.nm)).Nodup
 it:∀x∈res,x∈xs/\fH ws day x/\∀y∈xs,fH ws day y->y.nm=x.nm->y.n<=x.n
 al:∀y∈xs,fH ws day y->∃x∈res,x.nm=y.nm
 le:res.length<=xs.length
theorem sO{L:Ls}{nm:Str}(h:nm∈L.map (·.1)):∃x,dP L nm=some x:=by
 cases e:dP L nm with
 | some x=>exact⟨x,rfl⟩
 | none=>
  obtain⟨p,hp,e'⟩:=Ow.mp h;exact absurd e' (Bn e p hp)
def oY(L:Ls):List Rw:=(cD (L.map (·.1))).filterMap (dP L)
theorem JG{ws:List Str}{day:Int}{xs:List Rw}{L:Ls}(h:eD ws day xs L):(oY L).map (·.nm)=cD (L.map (·.1)):=by
 unfold oY;have key:∀l:List Str,(∀a∈l,a∈L.map (·.1))->(l.filterMap (dP L)).map (·.nm)=l:=by
  intro l
  induction l with
  | nil=>intro _;rfl
  | cons a l ih=>
   intro hl;obtain⟨x,hx⟩:=sO (hl a VH);obtain⟨p,hp,e,rfl⟩:=oX hx;rw [Qy,hx];show p.2.nm::_=_;rw [ih λb hb=>hl b (by simp [hb]),<-(h.it p hp).1,e]
 exact key _ λa ha=>(fX _).mem_iff.mp ha
theorem eD.res{ws:List Str}{day:Int}{xs:List Rw}{L:Ls}(h:eD ws day xs L):gu ws day xs (oY L):=by
 have hn:=JG h;refine⟨by rw [hn];exact sq _,by rw [hn];exact(fX _).nodup_iff.mpr h.nd,λx hx=>?_,λy hy ho=>?_,by rw [<-Oi (f:=λx:Rw=>x.nm),hn,(fX _).length_eq,Oi];exact h.le⟩
 ·obtain⟨a,ha,e⟩:=QE.mp hx;obtain⟨p,hp,e1,rfl⟩:=oX e;obtain⟨b1,b2,b3,b4⟩:=h.it p hp;exact⟨b2,b3,λy hy ho e=>b4 y hy ho (by rw [b1];exact e)⟩
 ·obtain⟨p,hp,e⟩:=h.al y hy ho;have:p.1∈(oY L).map (·.nm):=by rw [hn];exact(fX _).mem_iff.mpr (Ow.mpr ⟨p,hp,rfl⟩)
  obtain⟨x,hx,e'⟩:=Ow.mp this;exact⟨x,hx,e'.trans e⟩
theorem JH(t:WR)(n:Nat):(t.orStandIn n).led=t.led:=by unfold SetTable.orStandIn;split <;> rfl
theorem JI(t:WR)(es:Array (Int×VJ))(h:Int)(x:VJ):(layNew t es h x).2.1.led=t.led:=by
 unfold layNew;split
 ·exact JH _ _
 ·rfl
theorem JJ(t:WR)(es:Array (Int×VJ))(n:Nat):(W4 t es n).2.1.led=t.led:=by
 unfold W4 UW U8;cases UC (Uo n - 1) (es.map (·.1)) with
 | none=>rfl
 | some ow=>simp only [bind,Vs,pure];split <;> rfl
theorem JK(t:WR)(es:Array (Int×VJ))(n:Nat):(W4 t es n).2.1.plain=true->t.plain=true:=by
 unfold W4 UW U8;cases UC (Uo n - 1) (es.map (·.1)) with
 | none=>intro e;cases e
 | some ow=>
  simp only [bind,Vs,pure];split
  ·exact id
  ·intro e;cases e
abbrev fc(w:VZ):Bool:=w.params.followText "set-order"
structure JL (P:VW) (w:VZ) (o:Obj) (ss:List Str):Prop where
 ex:o.ExactSet
 da:∃es ep t,o.data= .set es ep t/\ElemsOf (strKind P w) es.toList/\(∃ss',Wh (es.toList.map (·.2)) ss'/\ss'.Perm ss)/\es.size < WI/\t.fits es.size=true/\(fc w=true\/t.led=true)/\(es.size≠0->t.plain=false)
def cT(P:VW)(w:VZ)(h:VY)(a:VM)(ss:List Str):Prop:=∃o,h.get? a=some o/\JL P w o ss
theorem Bo{k:Str}:∀{vs:List VJ}{ss:List Str},Wh vs ss->((∃v∈vs,v.isStrOf k=true)↔k∈ss)
 | _,_,.nil=>by simp
 | _,_,.cons x t r=>by
  have ih:=Bo (k:=k) r;constructor
  ·rintro⟨v,hv,e⟩;rcases Ox.mp hv with z | z
   ·subst z;obtain⟨u,e'⟩:=T5 e;cases e';exact O3
   ·exact OR _ (ih.mp ⟨v,z,e⟩)
  ·intro hk;rcases Ox.mp hk with z | z
   ·subst z;exact⟨_,O3,by simp [TX]⟩
   ·obtain⟨v,hv,e⟩:=ih.mpr z;exact⟨v,OR _ hv,e⟩
theorem oZ{vs vs':List VJ}(p:vs'.Perm vs):∀{ss:List Str},Wh vs ss->∃ss',Wh vs' ss'/\ss'.Perm ss:=by
 induction p with
 | nil=>intro ss h;exact⟨ss,h,.refl _⟩
 | cons x p ih=>
  intro ss h;cases h with
  | cons y t r=>obtain⟨s1,a,b⟩:=ih r;exact⟨y::s1,.cons y t a,b.cons y⟩
 | swap x y l=>
  intro ss h;cases h with
  | cons a t r=>cases r with | cons b u r=>exact⟨b::a::_,.cons b u (.cons a t r),.swap _ _ _⟩
 | trans p q ih1 ih2=>
  intro ss h;obtain⟨s1,a,b⟩:=ih2 h;obtain⟨s2,c,d⟩:=ih1 a;exact⟨s2,c,d.trans b⟩
theorem Bp{x:Str}{t:Tok}:∀{vs:List VJ}{ss:List Str},Wh vs ss->Wh (vs++[.str x t]) (ss++[x])
 | _,_,.nil=>.cons x t .nil
 | _,_,.cons y u r=>.cons y u (Bp r)
theorem mD:∀{vs:List VJ}{ss:List Str},Wh vs ss->vs.length=ss.length
 | _,_,.nil=>rfl
 | _,_,.cons y u r=>by simp [mD r]
def cV(ss:List Str)(x:Str):List Str:=if x∈ss then ss else ss++[x]
section
variable {P:VW} {w:VZ} {A:V1} {E:VJ->VN->Prop} {s:VN}
theorem cT.mk{h:VY}{a:VM}{o:Obj}{es es':Array (Int×VJ)}{ep:Nat}{t t':WR}{ss:List Str}(o1:h.get? a=some o)(x1:o.ExactSet)(d1:o.data= .set es ep t)
 (el:ElemsOf (strKind P w) es'.toList)(sp:∃ss',Wh (es'.toList.map (·.2)) ss'/\ss'.Perm ss)(b1:es'.size < WI)(f1:t'.fits es'.size=true)(l1:fc w=true\/t'.led=true)(p1:es'.size≠0->t'.plain=false):
 (h.update a (SW es' t')).get? a=some {o with data:= .set es' (ep+1) t'}/\cT P w (h.update a (SW es' t')) a ss:=by
 have g:(h.update a (SW es' t')).get? a=some {o with data:= .set es' (ep+1) t'}:=by
  have z:=Qh (SW es' t') o1 (by rw [putSet_of es' t' d1];rfl);rw [putSet_of es' t' d1] at z;exact z
 exact⟨g,_,g,x1,es',ep+1,t',rfl,el,sp,b1,f1,l1,p1⟩
theorem Bq{g:Bool->Sem Unit}(hg:∀(b:Bool) (s₁:VN) (Q':Unit->VN->Prop),Q' () s₁->VQ (VS P w) A (g b) Q' E s₁)
 {a:VM}{o:Obj}{es:Array (Int×VJ)}{ep:Nat}{t:WR}(o1:s.heap.get? a=some o)(x1:o.ExactSet)(d1:o.data= .set es ep t)
 {es1:Array (Int×VJ)}{t2:WR}{ss:List Str}(el:ElemsOf (strKind P w) es1.toList)(sp:∃ss',Wh (es1.toList.map (·.2)) ss'/\ss'.Perm ss)
 (b1:es1.size < WI)(f2:t2.fits es1.size=true)(l2:fc w=true\/t2.led=true)(p2:t2.plain=false){wd:Bool}{R:Option Bool->VN->Prop}
 (h:∀h',QY a s.heap h'->cT P w h' a ss->R (some true) {s with heap:=h'}):
 VQ (VS P w) A (do
  storeSet a es1 t2
  if (!wd && t2.tooFull)=true then do
   g (W4 t2 es1 (QU es1.size)).2.2
   storeSet a (W4 t2 es1 (QU es1.size)).1 (W4 t2 es1 (QU es1.size)).2.1
   pure (some true)
   else pure (some true)) R E s:=by
 refine VL (wpAny_storeSet_of o1 d1 ?_ (fits_of_scanBound b1));obtain⟨o2,S2⟩:=cT.mk (P:=P) o1 x1 d1 el sp b1 f2 l2 (λ_=>p2);have sb:=PF s.heap a (SW es1 t2);split
 ·have rp:=relayAll_perm t2 es1 (QU es1.size);have rf:=relayAll_fits t2 es1 (QU es1.size);have rl:=JJ t2 es1 (QU es1.size);have rq:=JK t2 es1 (QU es1.size);generalize W4 t2 es1 (QU es1.size)=Z at rp rf rl rq⊢;obtain⟨es2,t3,gv⟩:=Z;dsimp only at rp rf rl rq⊢;have sz:es2.size=es1.size:=by rw [<-OO,rp.length_eq,OO]
  obtain⟨ss',q1,q2⟩:=sp;obtain⟨ss2,q3,q4⟩:=oZ (rp.map (·.2)) q1;refine VL (hg _ _ _ (VL (wpAny_storeSet_of o2 rfl ?_ (fits_of_scanBound (by rw [sz];exact b1)))));obtain⟨_,S3⟩:=cT.mk (P:=P) (w:=w) (t':=t3) o2 x1 rfl (el.perm rp) ⟨ss2,q3,q4.trans q2⟩ (by rw [sz];exact b1) rf (by rw [rl];exact l2) (λ_=>by
   cases hb:t3.plain with
   | false=>rfl
   | true=>rw [rq hb] at p2;cases p2)
  exact VO (h _ (sb.trans (PF _ a _)) S3)
 ·exact VO (h _ sb S2)
theorem JM{a:VM}{ss:List Str}{x:Str}{tk:Tok}{Q:Bool->VN->Prop}(hS:cT P w s.heap a ss)(hroom:ss.length+1 < WI)
 (h:∀h' b,QY a s.heap h'->cT P w h' a (cV ss x)->Q b {s with heap:=h'}):
 VQ (VS P w) A (setAddHashed a (.str x tk) (hashStr w x)) Q E s:=by
 obtain⟨o,o1,x1,es,ep,t,d1,el,⟨ss',s1,s2⟩,b1,f1,l1,p1⟩:=hS;have hk:(strKind P w).is x (.str x tk)=true:=strKind_is _ _ _ _;have hsc:(Qm x tk).scannable=true:=rfl;have ln:es.size=ss.length:=by rw [<-s2.length_eq,<-mD s1,Oi,OO]
 unfold setAddHashed setAddHashedIn;refine Wa (VL (Wx o1 d1 f1 ?_));dsimp only;rw [byScan_of hsc b1 el,VF rfl];unfold setAddByScan;refine VL (VL (W7 (VL (wpAny_setScan_of hk o1 d1 f1 el ?_))));have mem:(∃e∈es.toList,(strKind P w).is x e.2=true)↔x∈ss:=by
  rw [<-s2.mem_iff,<-Bo s1];constructor
  ·rintro⟨e,he,q⟩;exact⟨e.2,Ow.mpr ⟨e,he,rfl⟩,q⟩
  ·rintro⟨v,hv,q⟩;obtain⟨e,he,rfl⟩:=Ow.mp hv;exact⟨e,he,q⟩
 cases hr:List.findIdx? (λe=>(strKind P w).is x e.2) es.toList with
 | some j=>
  obtain⟨hj,hp,_⟩:=List.findIdx?_eq_some_iff_getElem.mp hr;have hx:x∈ss:=mem.mp ⟨_,PB hj,hp⟩;refine VO (VO ?_);have z:=h s.heap false (QY.refl a s.heap) (by unfold cV;rw [VF hx];exact⟨o,o1,x1,es,ep,t,d1,el,⟨ss',s1,s2⟩,b1,f1,l1,p1⟩);have e:s={s with heap:=s.heap}:=by cases s;rfl
  rw [e];exact z
 | none=>
  dsimp only;have hx:x ∉ ss:=λz=>by
   obtain⟨e,he,q⟩:=mem.mpr z;have:=List.findIdx?_eq_none_iff.mp hr e he;rw [q] at this;cases this
  have eS:cV ss x=ss++[x]:=VE hx;rw [eS] at h;have lp:=layNew_perm t es (hashStr w x) (.str x tk);have lf:=layNew_fits t es (hashStr w x) (.str x tk);have ll:=JI t es (hashStr w x) (.str x tk);generalize layNew t es (hashStr w x) (.str x tk)=L at lp lf ll⊢;obtain⟨es1,t1,wd,gv⟩:=L;dsimp only at lp lf ll⊢;rw [UD] at lp;have el1:ElemsOf (strKind P w) es1.toList:=(el.push hk hsc).perm lp;have sp1:∃ss',Wh (es1.toList.map (·.2)) ss'/\ss'.Perm (ss++[x]):=by
   have s3:Wh ((es.toList++[(hashStr w x,Qm x tk)]).map (·.2)) (ss'++[x]):=by
    rw [O9];exact Bp s1
   obtain⟨s4,q1,q2⟩:=oZ (lp.map (·.2)) s3;exact⟨s4,q1,q2.trans (s2.append_right _)⟩
  have n1:es1.size=es.size+1:=by rw [<-OO,lp.length_eq];simp
  have b2:es1.size < WI:=VD
  have l2:fc w=true\/t1.led=true:=by rw [ll];exact l1
  have gw:∀(b:Bool)(s₁:VN)(Q':Unit->VN->Prop),Q' () s₁->VQ (VS P w) A (match b with | true=>rule "set.scan.the-table-gave-way" | false=>pure ()) Q' E s₁:=
   λb s₁ Q' z=>by cases b <;> first | exact VO z | exact W7 z
  refine VL (gw _ _ _ ?_);split
  ·refine VL ?_;rw [hashByValue_scannable 8 hsc];refine VO ?_;refine Bq gw o1 x1 d1 el1 sp1 b2 (SetTable.fits_plain_off lf) l2 rfl λh' sb S'=>VO (h h' true sb S')
  ·rename_i hp;refine VL (VO ?_);rw [VF rfl];exact Bq gw o1 x1 d1 el1 sp1 b2 lf l2 (by simpa using hp) λh' sb S'=>VO (h h' true sb S')
end
def iO(val:Nat->Str)(i:Nat):List Str:=((Py i).map val).foldl cV []
theorem Br(val:Nat->Str)(i:Nat):iO val (i+1)=cV (iO val i) (val i):=by
 unfold iO;rw [Rm,O9,List.foldl_append];rfl
theorem Bs(val:Nat->Str):∀i,(iO val i).length<=i
 | 0=>Ot _
 | i+1=>by
  have ih:=Bs val i;rw [Br];unfold cV;split
  ·omega
  ·simp;omega
theorem JN{ss:List Str}{x y:Str}:y∈cV ss x↔y∈ss\/y=x:=by
 unfold cV;split
 ·rename_i hx;exact⟨.inl,λz=>z.elim id λe=>by subst e;exact hx⟩
 ·simp
theorem Bt{y:Str}:∀{l ss:List Str},y∈l.foldl cV ss↔y∈ss\/y∈l
 | [],ss=>by simp
 | a::l,ss=>by rw [QM,Bt,JN,Ox];exact or_assoc
theorem cT.stay{P:VW}{w:VZ}{h h':VY}{a:VM}{ss:List Str}(x:cT P w h a ss)(k:∀o,h.get? a=some o->h'.get? a=some o):cT P w h' a ss:=
 let ⟨o,e,r⟩:=x;⟨o,k o e,r⟩
section
variable {P:VW} {w:VZ} {A:V1} {R:Result->VN->Prop} {I:VM} {fp wr:List VM} {G:Array Xx->Array Xx->Prop} {n:Nat} {Pv:Nat->VJ->Prop} {St:Nat->VN->Prop}
theorem JO(W:WalksS P w A.in1 I fp wr G n Pv St)(S:VM)(hSf:S ∉ fp)(val:Nat->Str)(hval:∀i v,Pv i v->∃t,v= .str (val i) t)(hb:n+1 < WI):
 ∀(k i:Nat)(s:VN),n - i=k->i<=n->St i s->cT P w s.heap S (iO val i)->
  (∀s',Moved (S::wr) G s s'->cT P w s'.heap S (iO val n)->R (.ok (.ret .none)) s')->WB (VS P w) A (.builtin "set.update.loop" ⟨[.ref S,.ref I],[]⟩) R s:=by
 have sw:S ∉ wr:=λz=>hSf (W.sub _ z);have sub:∀b∈wr,b∈S::wr:=λb z=>OR _ z;intro k
 induction k with
 | zero=>
  intro i s e1 e2 st hS q;obtain rfl:i=n:=VD
  refine Wv RM ?_;rw [Ra Q2 _];show VQ _ A.in1 (WK (.ref I) >>=_) _ _ s;exact VL (W.done s _ _ st λs' m=>VO (q s' (m.mono sub) (hS.stay λo e=>m.heap S o sw e)))
 | succ k ih=>
  intro i s e1 e2 st hS q;have lt:i < n:=VD
  refine Wv RM ?_;rw [Ra Q2 _];show VQ _ A.in1 (WK (.ref I) >>=_) _ _ s;refine VL (W.item i s _ _ lt st λv s' hP st' m=>?_);obtain⟨t,rfl⟩:=hval i v hP;have hS':=hS.stay (h':=s'.heap) λo e=>m.heap S o sw e;show VQ _ A.in1 (holding [Qm (val i) t] (setAdd S (.str (val i) t)) >>=_) _ _ s';refine VL (Wa ?_);unfold setAdd;refine Wa (VL ((strKind P w).pyHash (k:=val i) (strKind_is _ _ _ _) ?_));have rm:(iO val i).length+1 < WI:=by have:=Bs val i;omega
  refine JM (s:={s' with toks:=s'.toks+1}) hS' rm λh' b sb S2=>?_;rw [<-Br] at S2;refine VO ⟨W2 Q2 _,ih (i+1) _ VD lt (W.frame _ s' _ _ st' (R6 _) λb hb o e=>?_) S2 λs2 m2 S3=>?_⟩
  ·rw [sb.2 b (λz:b=S=>hSf (by rw [<-z];exact hb))];exact e
  ·refine q s2 (Moved.trans W.gtrans ((m.mono sub).then_heap (R6 _) λb o hb e=>?_) m2) S3;rw [sb.2 b (λz:b=S=>hb (by rw [z];exact O3))];exact e
end
section
variable {P:VW} {w:VZ} {A:V1} {E:VJ->VN->Prop} {s:VN}
theorem JP(a:VJ){Q₁:VJ->VN->Prop}
 (h:Q₁ (.ref s.heap.objs.size) {s with heap:=s.heap.push {cls:= .type "set",dict:=none,data:= .set #[] 0 (.fresh 0 0 (!fc w))}}):
 WB (VS P w) A (.call (.builtin "set.__new__") ⟨[.type "set",a],[]⟩) (wants Q₁ E) s:=by
 refine codeAny_of_tree ?_;show VQ _ A.in1 (Xv "set.__new__" ⟨[.type "set",a],[]⟩ >>=λ_=>again (.builtin "set.__new__" ⟨[.type "set",a],[]⟩)) _ _ s;refine VL (Xe (PySem.F.newCall_set_1 a) (VO ⟨W2 Tx _,Wv PySem.F.entry_set_new ?_⟩));rw [Ra Tx _];unfold Builtin.«set.__new__» Builtin.Frozenset.newClass;have hsb:=sub_set_self;obtain⟨hp,g,d,tk,os⟩:=s;dsimp only
 wp_walk
 refine Wz (VO ?_);dsimp only;simp only [newObj];exact VL (wpAny_alloc (VO (VO h)))
theorem cT.fresh{h:VY}{a:VM}(e:h.get? a=some {cls:= .type "set",dict:=none,data:= .set #[] 0 (.fresh 0 0 (!fc w))}):cT P w h a []:=by
 refine⟨_,e,⟨rfl,rfl,rfl⟩,#[],0,_,rfl,λe he=>by simp at he,⟨[],.nil,.refl _⟩,VC,rfl,?_,λz=>absurd rfl z⟩;cases hb:fc w with
 | true=>exact .inl rfl
 | false=>exact .inr rfl
theorem JQ{l:VM}{items:Array VJ}{ss:List Str}{Q:VJ->VN->Prop}
 (hh:A.handled=none)(hl:s.heap.IsList l items)(hi:Wh items.toList ss)(hb:items.size+1 < WI)
 (h:∀(h':VY) (tk:Nat),cT P w h' s.heap.objs.size (ss.foldl cV [])->(∀b o,s.heap.get? b=some o->h'.get? b=some o)->Q (.ref s.heap.objs.size) {s with heap:=h',toks:=tk}):
 VQ (VS P w) A (call (.type "set") [.ref l]) Q E s:=by
 obtain⟨c,tl,hmro⟩:=PySem.F.called_set.mro;have hmade:=PySem.F.called_set.made;have hsub:=PySem.F.called_set.sub;refine wpAny_call (codeAny_of_tree ?_);show VQ _ _ (callAny (.type "set") _) _ _ _;refine VO ⟨Uj _ Ce,Wv PySem.F.entry_type_call ?_⟩;rw [Around.under_plain (weight_type_call_type "set" [.ref l] []) rfl];have h1:=PySem.F.called_set.notType;have h2:=PySem.F.called_set.canCreate;have hct:=PySem.F.typeCall_set_1 (.ref l)
 repeat (any_goals (first | assumption | wp_step))
 generalize hob:({cls:= .type "set",dict:=none,data:= .set #[] 0 (.fresh 0 0 (!fc w))}:Obj)=ob;refine Wr (JP (P:=P) (w:=w) (.ref l) (E:=E) (Q₁:=λu s₁=>u= .ref s.heap.objs.size/\s₁={s with heap:=s.heap.push ob}) (by subst hob;exact⟨rfl,rfl⟩)) λr s₁ hr=>?_;cases r with
 | error e=>exact hr
 | ok fl=>
  cases fl with
  | ret u=>
   obtain⟨rfl,rfl⟩:=hr;have hS:(s.heap.push ob).get? s.heap.objs.size=some ob:=OP _ (by subst hob;rfl);have hT:Shared.TypeIs {s with heap:=s.heap.push ob} (.ref s.heap.objs.size) "set":=⟨_,hS,by subst hob;rfl⟩;have hli:=PySem.F.called_set.init.lookup;have hbi:=PySem.F.called_set.init.bind (.ref s.heap.objs.size)
   repeat (any_goals (first | assumption | wp_step))
   refine Wr (W9 (R:=wants (λr s₂=>r= .none/\∃h' tk,s₂={s with heap:=h',toks:=tk}/\cT P w h' s.heap.objs.size (ss.foldl cV [])/\∀b o,s.heap.get? b=some o->h'.get? b=some o) E)
    PySem.F.called_set.init.plain PySem.F.entry_set_init (check_set_init_1 hT ?_)) λr₂ s₂ hr₂=>?_
   ·obtain⟨ol,o1,c1,nl,d1⟩:=hl;obtain⟨oc,od,oda,osl⟩:=ol;simp only at c1 d1;subst c1;subst d1;have o2:(s.heap.push ob).get? l=some {cls:= .type "list",dict:=od,data:= .seq items nl,slots:=osl}:=Oo _ o1;have q1:=PySem.F.sub_list_set;have q2:=PySem.F.sub_list_frozenset;have q3:(Rx "list"==Rx "dict")=false:=VC
    have l1:(s.heap.push ob).IsList l items:=⟨_,o2,rfl,nl,rfl⟩;subst hob;unfold Builtin.«set.__init__» noKeywords Builtin.Frozenset.updateFrom;generalize hPI:pyIter=PI
    wp_walk
    subst hPI;refine Xq l1 ?_;refine VL (wpAny_runValue ?_);have ll:l < s.heap.objs.size:=OB o1;have sz:∀ob:Obj,(s.heap.push ob).objs.size=s.heap.objs.size+1:=λ_=>RN _ _;have n1:∀ob:Obj,l≠(s.heap.push ob).objs.size:=λ_=>by rw [sz];exact OX (P6 ll)
    have n2:∀ob:Obj,s.heap.objs.size ∉ [(s.heap.push ob).objs.size,l]:=λ_=>by
     rw [sz];simp only [Ox,Pc,or_false,not_or];exact⟨OX (Rf _),RI ll⟩
    have hv:∀(i:Nat)(v:VJ),items[i]?=some v->∃t,v= .str ((λi=>(ss[i]?).getD (Oh "")) i) t:=λi v e=>by
     rw [<-Rr] at e;have:∀{vs:List VJ}{ss:List Str},Wh vs ss->∀(i:Nat)(v:VJ),vs[i]?=some v->∃t,v= .str ((ss[i]?).getD (Oh "")) t:=by
      intro vs ss x
      induction x with
      | nil=>intro i v e;simp at e
      | cons y t r ih=>
       intro i v e;cases i with
       | zero=>simp at e;exact⟨t,by rw [<-e];rfl⟩
       | succ i=>simp only [QR] at e⊢;exact ih i v e
     exact this hi i v e
    have hm:iO (λi=>(ss[i]?).getD (Oh "")) items.size=ss.foldl cV []:=by
     have e:items.size=ss.length:=by rw [<-mD hi,OO]
     unfold iO;rw [e];congr 1;apply Sd VH;intro i a b;simp at a b⊢;rw [OS VD];rfl
    refine JO (UU (show A.in1.in1.in1.handled=none by simp [hh]) _ l (n1 _) items).toS s.heap.objs.size (n2 _) _ hv hb (items.size - 0) 0 _ VD (PK _)
     ⟨⟨_,OP _ rfl,rfl,rfl⟩,l1.push _⟩ ?hS0 ?hR
    case hS0=>
     exact cT.fresh (Oo _ hS)
    case hR=>
     intro s' m S';rw [hm] at S';obtain⟨h',g',d',tk',os'⟩:=s';obtain rfl:g'=s.gens:=m.gens;obtain rfl:d'=s.drawn:=m.drawn;obtain rfl:os'=s.os:=m.os;show VQ _ _ _ _ _ _;refine VO (VO ⟨rfl,h',tk',rfl,S',λb o e=>?_⟩);have hb1:b < s.heap.objs.size:=OB e;refine m.heap b o ?_ (Oo _ (Oo _ e));rw [sz];simp only [Ox,Pc,or_false,not_or];exact⟨OX hb1,OX (P6 hb1)⟩
   ·cases r₂ with
    | error e=>exact hr₂
    | ok fl₂=>
     cases fl₂ with
     | ret r=>
      obtain⟨rfl,h',tk,rfl,S',k'⟩:=hr₂
      repeat (any_goals (first | assumption | wp_step))
      exact h _ _ S' k'
     | _=>exact hr₂.elim
  | _=>exact hr.elim
end
theorem ia:Slot "set_iterator" "__next__" "set_iterator.__next__":=
 .of (owner:="set_iterator") (n:="__next__") (by rw [typeLookup_type,builtinLookup_eq_fast];kernel_rfl) Ce Ce Ce
  (by first | exact .inl Ce | exact .inr Ce) (by rw [isSubtype_type];kernel_rfl)
theorem pb:entryFor table "set_iterator.__next__"=some Builtin.«set_iterator.__next__»:=entryFor_of_tree (by kernel_rfl)
theorem Bu:Manifest.owners.lookup (String.ofList ['r','o','t','a','r','e','t','i','_','t','e','s'].reverse)=some Manifest.sig_set_iterator:=by kernel_rfl
theorem pd(a:VJ):argsOk "set_iterator.__next__" ⟨[a],[]⟩:=by
 unfold argsOk;rw [signature?_of (id:="set_iterator.__next__") (n:=['_','_','t','x','e','n','_','_']) (o:=['r','o','t','a','r','e','t','i','_','t','e','s']) (by kernel_rfl) Bu];kernel_rfl
theorem JR:entryFor table "set.__iter__"=some Builtin.«frozenset.__iter__»:=entryFor_alias (id':="frozenset.__iter__") (by kernel_rfl) rfl Ce (by kernel_rfl)
theorem sP{α:Type}:∀{l:List α}{i:Nat}(h:i < l.length),(l[i]::l.eraseIdx i).Perm l
 | a::l,0,h=>.refl _
 | a::l,i+1,h=>by
  have:=sP (l:=l) (i:=i) (by simpa using h);simp only [List.getElem_cons_succ,List.eraseIdx_cons_succ];exact(List.Perm.swap _ _ _).trans (this.cons a)
theorem Bv{α:Type}(next:Nat->Nat):∀(f k:Nat)(left:List α)(out:Array α),f=left.length->(pickOrder.go next f k left out).toList.Perm (out.toList++left)
 | 0,k,left,out,e=>by
  rw [Rn e.symm];unfold pickOrder.go;simp
 | f+1,k,left,out,e=>by
  unfold pickOrder.go;have hlt:next k % left.length < left.length:=Nat.mod_lt _ VD;rw [OS hlt];refine(Bv next f (k+1) _ _ (by rw [SI hlt];omega)).trans ?_;rw [UD,Qv];exact List.Perm.append_left _ (sP hlt)
theorem JS{α:Type}(next:Nat->Nat)(xs:Array α):(Xj next xs).toList.Perm xs.toList:=by
 have:=Bv next xs.size 0 xs.toList #[] VH;simpa [Xj] using this
section
variable {P:VW} {w:VZ} {A:V1} {E:VJ->VN->Prop}
theorem Bw{α:Type}:∀(n:Nat)(xs:List α)(s:VN)(Q:List α->VN->Prop),n=xs.length->(∀ys d,ys.Perm xs->Q ys {s with drawn:=d})->VQ (VS P w) A (drawOrder n xs) Q E s
 | 0,xs,s,Q,e,q=>by
  rw [Rn e.symm] at q⊢;unfold drawOrder;exact VO (q [] s.drawn (.refl _))
 | n+1,[],s,Q,e,q=>by cases e
 | n+1,x::xs,s,Q,e,q=>by
  unfold drawOrder;refine VL ?_;intro Γ p hΓ;refine⟨VH,?_⟩;generalize hi:(VS P w).w.draws .order (s.drawn.get .order)% (x::xs).length=i;have hlt:i < (x::xs).length:=by rw [<-hi];exact Nat.mod_lt _ VH
  have key:VQ (VS P w) A (match (x::xs)[i]? with | some y=>(do return y::(<-drawOrder n ((x::xs).eraseIdx i))) | none=>unsupported "internal:drawOrder") Q E {s with drawn:=s.drawn.bump .order}:=by
   rw [OS hlt];refine VL (Bw n _ _ _ (by rw [SI hlt];simp at e⊢;omega) λys d hp=>VO (q _ d ?_));exact(hp.cons _).trans (sP hlt)
  exact key
end
def fh(h:VY)(it:VM)(f:VJ)(i:Nat)(a:VM)(n ep:Nat):Prop:=∃o,h.get? it=some o/\o.cls= .type "set_iterator"/\o.data= .fields #[f,.int i 0,.ref a,.int n 0,.int ep 0]
theorem fh.typeIs{s:VN}{it f i a n ep}(x:fh s.heap it f i a n ep):s.TypeIs (.ref it) "set_iterator":=let ⟨o,h,c,_⟩:=x;⟨o,h,c⟩
section
variable {P:VW} {w:VZ} {A:V1} {E:VJ->VN->Prop} {s:VN} {a:VM} {o:Obj} {es:Array (Int×VJ)} {ep:Nat} {t:WR}
theorem Bx{slot i:Nat}{Q:Option (VJ×Nat)->VN->Prop}(hb:fc w=true)(o1:s.heap.get? a=some o)(d1:o.data= .set es ep t)(f1:t.fits es.size=true)
 (h:Q (((Xj (w.params.setOrder a ep) es)[i]?).map λe=>(e.2,slot)) s):VQ (VS P w) A (WW a slot i ep) Q E s:=by
 unfold WW setWalk setsByText;refine VL (Wx o1 d1 f1 (VL (VL (Wz (VO ?_)))));rw [VF (show(VS P w).w.params.followText "set-order"=true from hb)];rw [VE VH];refine VL (VL (Wx o1 d1 f1 (VL (VL (Wz (VO ?_))))));rw [VF (show(VS P w).w.params.followText "set-order"=true from hb)];exact VL (Wz (VO (VO h)))
theorem By{slot i:Nat}{Q:Option (VJ×Nat)->VN->Prop}(hb:fc w=false)(o1:s.heap.get? a=some o)(d1:o.data= .set es ep t)(f1:t.fits es.size=true)(hd:es.size<=1)(hl:t.led=true)
 (h:Q (match es[RP t.place slot]?,t.place[RP t.place slot]? with | some (_,x),some j=>some (x,j+1) | _,_=>none) s):VQ (VS P w) A (WW a slot i ep) Q E s:=by
 unfold WW setsByText;refine VL (Wx o1 d1 f1 (VL (VL (Wz (VO ?_)))));rw [VE (show ¬(VS P w).w.params.followText "set-order"=true from by show ¬fc w=true;rw [hb];decide)];show VQ _ _ (if (!t.plain && decide (es.size > 1))=true then _ else _) _ _ _;rw [VE (by simp;omega)];refine VL (m:=if (!t.led && !es.isEmpty)=true then unsupported "set:maker-not-led" else pure ()) ?_;rw [VE (by simp [hl])];exact VO (VO h)
theorem JT{it:VM}{slot slot' i:Nat}{x:VJ}{Q:Option VJ->VN->Prop}(hit:fh s.heap it (.int slot 0) i a es.size ep)(o1:s.heap.get? a=some o)(d1:o.data= .set es ep t)(f1:t.fits es.size=true)
 (nx:∀E' Q',Q' (some (x,slot')) s->VQ (VS P w) A.in1 (WW a slot i ep) Q' E' s)
 (hQ:∀h',fh h' it (.int slot' 0) (i+1) a es.size ep->QY it s.heap h'->Q (some x) {s with heap:=h'}):VQ (VS P w) A (WK (.ref it)) Q E s:=by
 obtain⟨u,u1,c1,e1⟩:=id hit;unfold WK;refine VL (W3 (Wk (name:=Oh "__next__") hit.typeIs ia (Wi ia hit.typeIs pb ?_ (pd _))));unfold Builtin.«set_iterator.__next__»;refine VL (m:=slotArgs _ _ _) (VO (VL (Xc u1 e1 ?_)));show VQ _ _ (setEntries a >>=_) _ _ s;refine VL (WA o1 d1 f1 ?_);rw [VE VH];show VQ _ _ (WW a ((slot:Int)).toNat ((i:Int)).toNat ((ep:Int)).toNat >>=_) _ _ s;simp only [P5];refine VL (nx _ _ ?_);show VQ _ _ (setField (.ref it) 0 (Ww (slot':Int)) >>=_) _ _ s;refine VL (WJ u1 e1 VH ?_);have g1:=Qh (U9 (·.setIfInBounds 0 (Ww (slot':Int)))) u1 (Rt (Qt e1 _));have k1:=Qt e1 (·.setIfInBounds 0 (Ww (slot':Int)));refine VL (WJ g1 k1 VH (VO ⟨x,rfl,VO (hQ _ ?_ ((PF ..).trans (PF ..)))⟩));refine⟨_,Qh _ g1 (Rt (Qt k1 _)),(SQ ..).trans ((SQ ..).trans c1),?_⟩;rw [Qt k1];simp [Ww]
theorem JU{it pl:VM}{i k:Nat}{hk:Int}{x:VJ}{ol:Obj}{ps:Array VJ}{nl:Nat}{Q:Option VJ->VN->Prop}(hit:fh s.heap it (.ref pl) i a es.size ep)(o1:s.heap.get? a=some o)(d1:o.data= .set es ep t)(f1:t.fits es.size=true)
 (l1:s.heap.get? pl=some ol)(l2:ol.data= .seq ps nl)(p1:ps[i]?=some (.int (k:Int) 0))(x1:es[k]?=some (hk,x))
 (hQ:∀h',fh h' it (.ref pl) (i+1) a es.size ep->QY it s.heap h'->Q (some x) {s with heap:=h'}):VQ (VS P w) A (WK (.ref it)) Q E s:=by
 obtain⟨u,u1,c1,e1⟩:=id hit;unfold WK;refine VL (W3 (Wk (name:=Oh "__next__") hit.typeIs ia (Wi ia hit.typeIs pb ?_ (pd _))));unfold Builtin.«set_iterator.__next__»;refine VL (m:=slotArgs _ _ _) (VO (VL (Xc u1 e1 ?_)));show VQ _ _ (setEntries a >>=_) _ _ s;refine VL (WA o1 d1 f1 ?_);rw [VE VH];show VQ _ _ (seqItems? (.ref pl) >>=_) _ _ s;refine VL (wpAny_seqItems l1 l2 ?_);simp only [P5,p1];refine VL ?_;unfold setNextDrawn;refine VL (Wx o1 d1 f1 ?_);simp only [P5];rw [VE VH,x1];refine VO (VL (WJ u1 e1 VH (VO ⟨x,rfl,VO (hQ _ ?_ (PF ..))⟩)));refine⟨_,Qh _ u1 (Rt (Qt e1 _)),(SQ ..).trans c1,?_⟩;rw [Qt e1];simp [Ww]
theorem JV{it:VM}{slot i:Nat}{Q:Option VJ->VN->Prop}(hh:A.handled=none)(hit:fh s.heap it (.int slot 0) i a es.size ep)(o1:s.heap.get? a=some o)(d1:o.data= .set es ep t)(f1:t.fits es.size=true)
 (nx:∀E' Q',Q' none s->VQ (VS P w) A.in1 (WW a slot i ep) Q' E' s)
 (hQ:∀h',Vt it s.heap h'->Q none {s with heap:=h'}):VQ (VS P w) A (WK (.ref it)) Q E s:=by
 obtain⟨u,u1,c1,e1⟩:=id hit;unfold WK;refine VL (W3 (Wk (name:=Oh "__next__") hit.typeIs ia (Wi ia hit.typeIs pb ?_ (pd _))));unfold Builtin.«set_iterator.__next__»;refine VL (m:=slotArgs _ _ _) (VO (VL (Xc u1 e1 ?_)));show VQ _ _ (setEntries a >>=_) _ _ s;refine VL (WA o1 d1 f1 ?_);rw [VE VH];show VQ _ _ (WW a ((slot:Int)).toNat ((i:Int)).toNat ((ep:Int)).toNat >>=_) _ _ s;simp only [P5];refine VL (nx _ _ ?_);show VQ _ _ (setField (.ref it) 2 .none >>=_) _ _ s;refine VL (WJ u1 e1 VH ?_);refine VL (m:=newExc (.type "StopIteration") []) ?_;simp only [newExc,newTuple];refine VL (V4 ?_ (by size_fits));refine VL (m:=Xd _ _) (Xe (a:=QV) (by first | rfl | (simp only [Xd];rfl)) ?_);refine V4 ?_ (by size_fits);simp only [raiseNew];refine VL (wpAny_handled ?_);rw [show A.in1.handled=none from hh];refine VL (VO (wpAny_throw ?_));refine VL (Xw (T:="StopIteration") (b:=true) ⟨_,OP _ rfl,rfl⟩ isSubtype_stop ?_);exact VO (hQ _ (((PF ..).extBut.push _).push _))
theorem JW{it pl:VM}{i:Nat}{ol:Obj}{ps:Array VJ}{nl:Nat}{Q:Option VJ->VN->Prop}(hh:A.handled=none)(hit:fh s.heap it (.ref pl) i a es.size ep)(o1:s.heap.get? a=some o)(d1:o.data= .set es ep t)(f1:t.fits es.size=true)
 (l1:s.heap.get? pl=some ol)(l2:ol.data= .seq ps nl)(p1:ps[i]?=none)
 (hQ:∀h',Vt it s.heap h'->Q none {s with heap:=h'}):VQ (VS P w) A (WK (.ref it)) Q E s:=by
 obtain⟨u,u1,c1,e1⟩:=id hit;unfold WK;refine VL (W3 (Wk (name:=Oh "__next__") hit.typeIs ia (Wi ia hit.typeIs pb ?_ (pd _))));unfold Builtin.«set_iterator.__next__»;refine VL (m:=slotArgs _ _ _) (VO (VL (Xc u1 e1 ?_)));show VQ _ _ (setEntries a >>=_) _ _ s;refine VL (WA o1 d1 f1 ?_);rw [VE VH];show VQ _ _ (seqItems? (.ref pl) >>=_) _ _ s;refine VL (wpAny_seqItems l1 l2 ?_);simp only [P5,p1];show VQ _ _ (setField (.ref it) 0 (Ww 0) >>=_) _ _ s;refine VL (WJ u1 e1 VH ?_);have g1:=Qh (U9 (·.setIfInBounds 0 (Ww 0))) u1 (Rt (Qt e1 _));have k1:=Qt e1 (·.setIfInBounds 0 (Ww 0));refine VL (WJ g1 k1 VH ?_);refine VL (m:=newExc (.type "StopIteration") []) ?_;simp only [newExc,newTuple];refine VL (V4 ?_ (by size_fits));refine VL (m:=Xd _ _) (Xe (a:=QV) (by first | rfl | (simp only [Xd];rfl)) ?_);refine V4 ?_ (by size_fits);simp only [raiseNew];refine VL (wpAny_handled ?_);rw [show A.in1.handled=none from hh];refine VL (VO (wpAny_throw ?_));refine VL (Xw (T:="StopIteration") (b:=true) ⟨_,OP _ rfl,rfl⟩ isSubtype_stop ?_);exact VO (hQ _ ((((PF ..).trans (PF ..)).extBut.push _).push _))
end
theorem Bz:Slot "set_iterator" "__iter__" "set_iterator.__iter__":=
 .of (owner:="set_iterator") (n:="__iter__") (by rw [typeLookup_type,builtinLookup_eq_fast];kernel_rfl) Ce Ce Ce
  (by first | exact .inl Ce | exact .inr Ce) (by rw [isSubtype_type];kernel_rfl)
theorem JX:entryFor table "set_iterator.__iter__"=some Builtin.«dict_keyiterator.__iter__»:=entryFor_alias (id':="dict_keyiterator.__iter__") (by kernel_rfl) rfl Ce (by kernel_rfl)
theorem JY(a:VJ):argsOk "set_iterator.__iter__" ⟨[a],[]⟩:=by
 unfold argsOk;rw [signature?_of (id:="set_iterator.__iter__") (n:=['_','_','r','e','t','i','_','_']) (o:=['r','o','t','a','r','e','t','i','_','t','e','s']) (by kernel_rfl) Bu];kernel_rfl
theorem fh.at{h h':VY}{it f i a n ep}(x:fh h it f i a n ep)(e:∀o,h.get? it=some o->h'.get? it=some o):fh h' it f i a n ep:=let ⟨o,ho,r⟩:=x;⟨o,e _ ho,r⟩
section
variable {P:VW} {w:VZ} {A:V1} {E:VJ->VN->Prop} {s:VN} {a:VM} {o:Obj} {es:Array (Int×VJ)} {ep:Nat} {t:WR}
theorem BA{it:VM}{f:VJ}{i n:Nat}{Q:VJ->VN->Prop}(hit:fh s.heap it f i a n ep)(h:Q (.ref it) s):VQ (VS P w) A (pyIter (.ref it)) Q E s:=by
 refine wpAny_pyIter_slot hit.typeIs Bz (Wi Bz hit.typeIs JX ?_ (JY _));exact VL (m:=slotArgs _ _ _) (VO (VO ⟨_,rfl,"set_iterator",_,hit.typeIs,ia.lookup,h⟩))
theorem BB(hh:A.handled=none)(it:VM)(hne:a≠it)(d1:o.data= .set es ep t)(f1:t.fits es.size=true)(vs:List VJ)(hl:vs.length=es.size)(sl:Nat->Nat)
 (nx:∀(s:VN) (i:Nat) (h:i < vs.length) E' Q',s.heap.get? a=some o->Q' (some (vs[i],sl (i+1))) s->VQ (VS P w) A.in1 (WW a (sl i) i ep) Q' E' s)
 (nd:∀(s:VN) E' Q',s.heap.get? a=some o->Q' none s->VQ (VS P w) A.in1 (WW a (sl es.size) es.size ep) Q' E' s):
 Walks P w A it [it,a] [it] es.size (λi v=>vs[i]?=some v) (λi h=>fh h it (.int (sl i:Nat) 0) i a es.size ep/\h.get? a=some o) where
 sub:=λb hb=>by rw [ON] at hb;simp [hb]
 frame:=λ_ _ _ st hk=>⟨st.1.at λo e=>hk it VH o e,hk a VH o st.2⟩
 item:=λi s Q E hi st hQ=>by
  have hi':i < vs.length:=VD
  refine JT st.1 st.2 d1 f1 (λE' Q' q=>nx s i hi' E' Q' st.2 q) λh' it' sb=>?_;exact hQ _ h' s.toks (by simp [hi']) ⟨it',by rw [sb.2 a hne];exact st.2⟩ λb u hb e=>sb.extBut b u (λz=>hb (by simp [z])) e
 done:=λs Q E st hQ=>JV hh st.1 st.2 d1 f1 (λE' Q' q=>nd s E' Q' st.2 q) λh' he=>hQ h' s.toks λb u hb e=>he b u (λz=>hb (by simp [z])) e
 self:=λ_ _ _ _ st hQ=>BA st.1 hQ
theorem JZ(hh:A.handled=none)(it pl:VM)(hne:a≠it)(hnp:pl≠it)(d1:o.data= .set es ep t)(f1:t.fits es.size=true)(vs:List VJ)(ks:List Nat){ol:Obj}{nl:Nat}(l2:ol.data= .seq (ks.map λ(k:Nat)=>QX (k:Int) 0).toArray nl)
 (hl:ks.length=es.size)(hv:∀i k:Nat,ks[i]?=some k->∃h x,es[k]?=some (h,x)/\vs[i]?=some x):
 Walks P w A it [it,a,pl] [it] es.size (λi v=>vs[i]?=some v) (λi h=>fh h it (.ref pl) i a es.size ep/\h.get? a=some o/\h.get? pl=some ol) where
 sub:=λb hb=>by rw [ON] at hb;simp [hb]
 frame:=λ_ _ _ st hk=>⟨st.1.at λo e=>hk it VH o e,hk a VH o st.2.1,hk pl VH ol st.2.2⟩
 item:=λi s Q E hi st hQ=>by
  have hi':i < ks.length:=VD
  obtain⟨h,x,e1,e2⟩:=hv i ks[i] (by simp [hi']);refine JU st.1 st.2.1 d1 f1 st.2.2 l2 (k:=ks[i]) (by simp [hi']) e1 λh' it' sb=>?_;exact hQ _ h' s.toks e2 ⟨it',by rw [sb.2 a hne];exact st.2.1,by rw [sb.2 pl hnp];exact st.2.2⟩ λb u hb e=>sb.extBut b u (λz=>hb (by simp [z])) e
 done:=λs Q E st hQ=>JW hh st.1 st.2.1 d1 f1 st.2.2 l2 (by simp [hl]) λh' he=>hQ h' s.toks λb u hb e=>he b u (λz=>hb (by simp [z])) e
 self:=λ_ _ _ _ st hQ=>BA st.1 hQ
theorem BC{j k:Nat}:RP #[j] k=if j < k then 1 else 0:=by
 unfold RP;show UE #[j] k 1 0 1=_;simp [UE]
theorem J0{ss:List Str}{Q:VJ->VN->Prop}(hh:A.handled=none)(hS:cT P w s.heap a ss)
 (q:∀(I:VM) (h1:VY) (d1:Drawn) (vs:List VJ) (fp wr:List VM) (n:Nat) (St:Nat->VY->Prop),(∀b u,s.heap.get? b=some u->h1.get? b=some u)->(∃ss',Wh vs ss'/\ss'.Perm ss)->n=ss.length->
  Walks P w A I fp wr n (λi v=>vs[i]?=some v) St->St 0 h1->(∀b∈fp,b=a\/s.heap.objs.size<=b)->(∀b∈wr,s.heap.objs.size<=b)->vs.length=n->(∀b∈fp,b < h1.objs.size)->Q (.ref I) {s with heap:=h1,drawn:=d1}):
 VQ (VS P w) A (pyIter (.ref a)) Q E s:=by
 obtain⟨o,o1,x1,es,ep,t,d1,el,⟨ss',s1,s2⟩,b1,f1,l1,p1⟩:=hS;have hT:s.TypeIs (.ref a) "set":=⟨o,o1,x1.1⟩;have la:a < s.heap.objs.size:=OB o1;have ln:es.size=ss.length:=by rw [<-s2.length_eq,<-mD s1,Oi,OO]
 refine wpAny_pyIter_slot hT Tz (Wi Tz hT JR ?_ (PySem.F.args_set_iter_1 _));unfold Builtin.«frozenset.__iter__»;refine VL (m:=Builtin.Frozenset.slot0 _ _) (VO ?_);refine VL (m:=Builtin.Frozenset.sizeOf a) (VL (WA o1 d1 f1 (VO ?_)));refine VL (m:=setDrawn a) ?_;unfold setDrawn setsByText;refine VL (Wx o1 d1 f1 (VL (VL (Wz (VO (VO ?_))))));show VQ _ _ (if (!(fc w) && (!t.plain && decide (es.size > 1)))=true then _ else _) _ _ _;have lastly:∀(f:VJ)(h1:VY)(d:Drawn),h1.get? a=some o->(∀I h2,h2=h1.push {cls:= .type "set_iterator",data:= .fields #[f,.int (0:Nat) 0,.ref a,.int es.size 0,.int ep 0]}->I=h1.objs.size->Q (.ref I) {s with heap:=h2,drawn:=d})->
  VQ (VS P w) A.in1 (setEpoch a >>=λe=>newFields "set_iterator" [f,Ww 0,.ref a,Ww es.size,Ww e] >>=λv=>ret v)
   (λfin s'=>∃v,fin= .done (.ret v)/\∃T' r,s'.TypeIs v T'/\typeLookup (.type T') "__next__"=pure (some r)/\Q v s') E {s with heap:=h1,drawn:=d}:=by
  intro f h1 d e1 k;refine VL (wpAny_setEpoch_of (s:={s with heap:=h1,drawn:=d}) e1 d1 f1 ?_);refine VL (V4 (VO ?_));exact⟨_,rfl,"set_iterator",_,⟨_,OP _ rfl,rfl⟩,ia.lookup,k _ _ rfl rfl⟩
 have szp:∀(h:VY)(ob:Obj),(h.push ob).objs.size=h.objs.size+1:=λ_ _=>RN _ _;have n0:a≠s.heap.objs.size:=OX la;by_cases hdr:(!(fc w) && (!t.plain && decide (es.size > 1)))=true
 ·rw [VF hdr];refine VL (Bw es.size (Py es.size) s _ VH λks d hp=>VL (m:=newTuple _) (V4 ?_ ?_))
  ·have lk:ks.length=es.size:=by rw [hp.length_eq,Ro]
   refine lastly _ (s.heap.push _) d (Oo _ o1) λI h2 e2 eI=>?_;subst e2 eI;have k1:a≠(s.heap.push {cls:= .type "tuple",data:= .seq (ks.map λ(i:Nat)=>Ww i).toArray}).objs.size:=by rw [szp];exact OX (P6 la)
   have k2:s.heap.objs.size≠(s.heap.push {cls:= .type "tuple",data:= .seq (ks.map λ(i:Nat)=>Ww i).toArray}).objs.size:=by rw [szp];exact OX (Rf _)
   have pm:(ks.map λk=>((es[k]?).map (·.2)).getD .none).Perm (es.toList.map (·.2)):=by
    refine(hp.map _).trans (.of_eq ?_);apply Sd VH;intro i a b;simp at a b⊢;rw [RF a];rfl
   obtain⟨ss2,q3,q4⟩:=oZ pm s1;refine q _ _ d _ _ _ es.size _ (λb u e=>Oo _ (Oo _ e)) ⟨ss2,q3,q4.trans s2⟩ ln
    (JZ hh _ _ k1 k2 d1 f1 _ ks rfl lk (λi k e=>?_)) ⟨⟨_,OP _ rfl,rfl,rfl⟩,Oo _ (Oo _ o1),Oo _ (OP _ rfl)⟩ (λb hb=>?_) (λb hb=>?_) (by simp [lk]) (λb hb=>?_)
   ·have hk:k < es.size:=by
     have:=hp.mem_iff.mp (OH e);simpa using this
    refine⟨es[k].1,es[k].2,by simp [hk],?_⟩;rw [OD,e];simp [hk]
   ·simp only [Ox,Pc,or_false] at hb;rcases hb with rfl | rfl | rfl
    ·right;rw [szp];exact R6 _
    ·left;rfl
    ·right;exact Ot _
   ·rw [ON] at hb;rw [hb,szp];exact R6 _
   ·simp only [Ox,Pc,or_false] at hb;rw [szp,szp];rcases hb with rfl | rfl | rfl
    ·rw [szp];exact Rf _
    ·exact P6 (P6 la)
    ·exact P6 (Rf _)
  ·unfold sizeOk;simp [hp.length_eq];have:WI=4096:=rfl;have:VT=16777216:=by first | rfl | exact Wq
   omega
 ·rw [VE hdr];refine VL (VO ?_);have e0:s={s with heap:=s.heap,drawn:=s.drawn}:=by cases s;rfl
  show VQ _ _ _ _ _ {s with heap:=s.heap,drawn:=s.drawn};refine lastly _ s.heap s.drawn o1 λI h2 e2 eI=>?_;subst e2 eI;have fpa:∀b∈[s.heap.objs.size,a],b=a\/s.heap.objs.size<=b:=λb hb=>by
   simp only [Ox,Pc,or_false] at hb;rcases hb with rfl | rfl
   ·right;exact Ot _
   ·left;rfl
  have wra:∀b∈[s.heap.objs.size],s.heap.objs.size<=b:=λb hb=>by rw [ON] at hb;rw [hb];exact Ot _
  have fpl:∀(ob:Obj),∀b∈[s.heap.objs.size,a],b < (s.heap.push ob).objs.size:=λob b hb=>by
   rw [szp];simp only [Ox,Pc,or_false] at hb;rcases hb with rfl | rfl
   ·exact Rf _
   ·exact P6 la
  cases hb:fc w with
  | true=>
   have pm:=JS (w.params.setOrder a ep) es;obtain⟨ss2,q3,q4⟩:=oZ (pm.map (·.2)) s1;have lp:((Xj (w.params.setOrder a ep) es).toList.map (·.2)).length=es.size:=by rw [Oi,pm.length_eq,OO]
   refine q _ _ s.drawn _ _ _ es.size _ (λb u e=>Oo _ e) ⟨ss2,q3,q4.trans s2⟩ ln
    (BB hh _ n0 d1 f1 _ lp (λ_=>0) (λs i hi E' Q' g z=>Bx hb g d1 f1 ?_) (λs E' Q' g z=>Bx hb g d1 f1 ?_)) ⟨⟨_,OP _ rfl,rfl,rfl⟩,Oo _ o1⟩ fpa wra lp (fpl _)
   ·have hi':i < (Xj (w.params.setOrder a ep) es).size:=by rw [<-OO,<-Oi (f:=(·.2))];exact hi
    rw [RF hi'];simpa using z
   ·have:(Xj (w.params.setOrder a ep) es).size=es.size:=by rw [<-OO,pm.length_eq,OO]
    rw [R7 VD];exact z
  | false=>
   have hled:t.led=true:=by
    rcases l1 with l1 | l1
    ·rw [hb] at l1;cases l1
    ·exact l1
   have hsz:es.size<=1:=by
    rcases Q1 1 es.size with z | z
    ·exfalso;apply hdr;rw [hb,p1 VD];simpa using z
    ·exact z
   have hpl:t.place.size=es.size:=by
    simp only [SetTable.fits,OI,beq_iff_eq] at f1;exact f1.1
   have lp:(es.toList.map (·.2)).length=es.size:=by rw [Oi,OO]
   refine q _ _ s.drawn _ _ _ es.size _ (λb u e=>Oo _ e) ⟨ss',s1,s2⟩ ln
    (BB hh _ n0 d1 f1 _ lp (λi=>if i=0 then 0 else t.place.getD 0 0+1) (λs i hi E' Q' g z=>By hb g d1 f1 hsz hled ?_) (λs E' Q' g z=>By hb g d1 f1 hsz hled ?_)) ⟨⟨_,OP _ rfl,rfl,rfl⟩,Oo _ o1⟩ fpa wra lp (fpl _)
   ·have i0:i=0:=VD
    subst i0;have h1:es.size=1:=VD
    obtain⟨j,hj⟩:∃j,t.place=#[j]:=by
     have:t.place.toList.length=1:=by rw [OO];omega
     match hq:t.place.toList,this with
     | [j],_=>exact⟨j,by rw [<-TN (xs:=t.place),hq]⟩
    rw [hj] at z⊢;rw [VF rfl,BC,VE VD];have:es[0]?=some es[0]:=by simp [h1]
    rw [this];simpa using z
   ·have hn:es[RP t.place (if es.size=0 then 0 else t.place.getD 0 0+1)]?=none:=by
     by_cases h0:es.size=0
     ·rw [R7 VD]
     ·have h1:es.size=1:=VD
      obtain⟨j,hj⟩:∃j,t.place=#[j]:=by
       have:t.place.toList.length=1:=by rw [OO];omega
       match hq:t.place.toList,this with
       | [j],_=>exact⟨j,by rw [<-TN (xs:=t.place),hq]⟩
      rw [hj,VE h0,BC,VF VH];rw [R7 VD]
    rw [hn];exact z
end
section
variable {P:VW} {w:VZ} {A:V1} {E:VJ->VN->Prop} {s:VN} {a:VM}
theorem J1{Q:Bool->VN->Prop}(hT:s.TypeIs (.ref a) "set")(h:Q false s):VQ (VS P w) A (Sx (.ref a)) Q E s:=by
 unfold Sx;refine VL (wpAny_specialOf hT PySem.F.slot_set_len.lookup ?_);generalize hid:("set.__len__":String)=id0
 wp_delta
 rw [show splitId id0=some ("set","__len__") from by subst hid;decide+kernel];subst hid;refine VL (Xw (T:="set") (b:=true) hT (by rw [isSubtype_type];kernel_rfl) ?_);refine WN (λz=>absurd z VC) (λ_=>?_);refine WN (λ_=>?_) (λz=>absurd Ce z);exact VL (WQ hT (VO h))
theorem J3{ss:List Str}{R:Result->VN->Prop}(hh:A.handled=none)(hS:cT P w s.heap a ss)(S:VM)(hSa:S≠a)(res:VJ)(c₀:Nat)(l1:s.heap.get? S=some {cls:= .type "list",data:= .seq #[] c₀})(hn:ss.length<=4096)
 (hR:∀h' tk d acc c',(∀b u,b≠S->s.heap.get? b=some u->h'.get? b=some u)->h'.get? S=some {cls:= .type "list",dict:=none,data:= .seq acc c',slots:=#[]}->(∃ss',Wh acc.toList ss'/\ss'.Perm ss)->R (.ok (.ret res)) {s with heap:=h',toks:=tk,drawn:=d}):
 VQ (VS P w) A.in1 (Sy (.ref S) (.ref a) res)
  (λfin s'=>match fin with | .done f=>R (.ok f) s' | .again c'=>c'.quiet=true/\WB (VS P w) A c' R s') (λe s'=>R (.error e) s') s:=by
 obtain⟨o,o1,x1,rest⟩:=id hS;have hT:s.TypeIs (.ref a) "set":=⟨o,o1,x1.1⟩;have lS:S < s.heap.objs.size:=OB l1;unfold Sy;refine VL (WQ hT ?_);have e1:S8 (.ref S) (.ref a)=false:=by simp [S8,hSa]
 have e2:(Rx "set"==Rx "list")=false:=VC
 have e3:(Rx "set"==Rx "tuple")=false:=VC
 simp only [e1,e2,e3,R8,QH,if_false];refine VL (J0 (A:=A.in1) hh hS λI h1 d1 vs fp wr n St k1 sv en W st hf hw hlv hfl=>?_);have nf:S ∉ fp:=λz=>by
  rcases hf S z with e | e
  ·exact hSa e
  ·exact absurd lS (Nat.not_lt.mpr e)
 have key:∀(h:VY)(c₁ tk:Nat),St 0 h->(∀b u,b≠S->s.heap.get? b=some u->h.get? b=some u)->
  h.get? S=some {cls:= .type "list",data:= .seq #[] c₁}->WB (VS P w) A (.builtin "list.extend.loop" ⟨[.ref S,.ref I,res],[]⟩) R {s with heap:=h,toks:=tk,drawn:=d1}:=by
  intro h c₁ tk hst hk g;refine codeAny_extend_loopS W.toS (OZ (by omega:n<=4096) VC) S nf res n 0 _ #[] c₁ rfl (PK _) hst g (ItemsOf.nil _) λs' acc c' m gq hacc=>?_;obtain⟨h',g',d',tk',os'⟩:=s';obtain rfl:g'=s.gens:=m.gens;obtain rfl:d'=d1:=m.drawn;obtain rfl:os'=s.os:=m.os;refine hR h' tk' d' acc c' (λb u hb e=>m.heap b u (λz=>?_) (hk b u hb e)) gq ?_
  ·rcases Ox.mp z with e' | z
   ·exact hb e'
   ·exact absurd (OB e) (Nat.not_lt.mpr (hw b z))
  ·have ea:acc.toList=vs:=by
    apply List.ext_getElem?;intro i;rcases Q1 i n with z | z
    ·have hz:i < acc.size:=by rw [hacc.1];exact z
     have:acc[i]?=some acc[i]:=RF hz;rw [Rr,this,hacc.2 i _ this]
    ·rw [QG (by rw [OO,hacc.1];exact z),QG VD]
   rw [ea];exact sv
 have g1:=k1 S _ l1;refine VL (Wa (J1 (s:={s with heap:=h1,drawn:=d1}) ⟨o,k1 a o o1,x1.1⟩ ?_));refine WN (λ_=>?_) (λ_=>VO ⟨W2 SX _,key _ c₀ _ st (λb u _ e=>k1 b u e) g1⟩);refine VL (W7 (VL ?_));show VQ _ _ (updateSeq S (·.push .none) >>=λ_=>updateSeq S (·.pop)) _ _ {s with heap:=h1,drawn:=d1};refine VL (wpAny_updateSeq g1 rfl ?_);have g2:=Qh (P0 (·.push QV)) g1 rfl;refine wpAny_updateSeq (hz:=by seq_fits) g2 rfl ?_;have g3:=Qh (P0 (·.pop)) g2 rfl;refine VO ⟨W2 SX _,key _ _ _ (W.frame 0 _ _ st λb hb u e=>?_) (λb u hb e=>?_) g3⟩
 ·have hbS:b≠S:=λz=>nf (z▸hb);exact(QB _ _ (Ne.symm hbS)).trans ((QB _ _ (Ne.symm hbS)).trans e)
 ·exact(QB _ _ (Ne.symm hb)).trans ((QB _ _ (Ne.symm hb)).trans (k1 b u e))
theorem J4{ss:List Str}{R:List VJ->VN->Prop}(hh:A.handled=none)(hS:cT P w s.heap a ss)(hn:ss.length<=4096)
 (h:∀(h':VY) (tk:Nat) (d:Drawn) (vs:List VJ),(∀b u,s.heap.get? b=some u->h'.get? b=some u)->(∃ss',Wh vs ss'/\ss'.Perm ss)->R vs {s with heap:=h',toks:=tk,drawn:=d}):
 VQ (VS P w) A (collect (.ref a)) R E s:=by
 have la:a < s.heap.objs.size:=by obtain⟨o,o1,_⟩:=id hS;exact OB o1
 unfold collect;refine VL (wpAny_runValue (Wv entry_proto_collect' ?_));rw [Ra PySem.F.plain_proto_collect _];refine VL (m:=newList []) (V4 ?_);refine VO ⟨W2 Th _,Wv entry_list_iadd' ?_⟩;rw [Ra Th _];have g1:(s.heap.push {cls:= .type "list",data:= .seq ([]:List VJ).toArray}).get? s.heap.objs.size=some {cls:= .type "list",data:= .seq #[]}:=OP _ rfl;have key:=J3 (A:=A) (s:={s with heap:=s.heap.push {cls:= .type "list",data:= .seq ([]:List VJ).toArray}})
  (R:=λ(q:Result) (s':VN)=>∃(h':VY)(tk:Nat)(d:Drawn)(acc:Array VJ)(c':Nat),q= .ok (.ret (.ref s.heap.objs.size))/\s'={s with heap:=h',toks:=tk,drawn:=d}/\
   (∀b u,s.heap.get? b=some u->h'.get? b=some u)/\h'.get? s.heap.objs.size=some {cls:= .type "list",dict:=none,data:= .seq acc c',slots:=#[]}/\(∃ss',Wh acc.toList ss'/\ss'.Perm ss))
  hh (hS.stay λu e=>Oo _ e) s.heap.objs.size (RI la) (.ref s.heap.objs.size) 0 g1 hn
  (λh' tk d acc c' hk g' hacc=>⟨h',tk,d,acc,c',rfl,rfl,λb u e=>hk b u (OX (OB e)) (Oo _ e),g',hacc⟩)
 refine V8 key (λfin s' x=>?_) λe s' x=>?_
 ·cases fin with
  | done f=>
   obtain⟨h',tk,d,acc,c',e,rfl,hk,g',hacc⟩:=x;cases e;exact VL (m:=load s.heap.objs.size) (wpAny_load g' (VO (h h' tk d acc.toList hk hacc)))
  | again c₁=>
   refine⟨x.1,Wr x.2 λq s₂ y=>?_⟩;obtain⟨h',tk,d,acc,c',rfl,rfl,hk,g',hacc⟩:=y;exact VL (m:=load s.heap.objs.size) (wpAny_load g' (VO (h h' tk d acc.toList hk hacc)))
 ·obtain⟨_,_,_,_,_,e',_⟩:=x;cases e'
theorem J5{ss:List Str}{Q:VJ->VN->Prop}(hh:A.handled=none)(hS:cT P w s.heap a ss)(hn:ss.length < 64)
 (h:∀(h' h2:VY) (tk:Nat) (d:Drawn) (out:Array VJ) (e:Nat) (ss':List Str),(∀b o,s.heap.get? b=some o->h'.get? b=some o)->(∀b o,h'.get? b=some o->h2.get? b=some o)->h2.get? h'.objs.size=some (We "list" out e)->Wh out.toList ss'->ss'.Perm ss->sortedS ss'=true->Q (.ref h'.objs.size) {s with heap:=h2,toks:=tk,drawn:=d}):
 VQ (VS P w) A (call (.builtin "sorted") [.ref a]) Q E s:=by
 refine SV kind_sorted plain_sorted entry_sorted (args_sorted1 _) ?_;unfold Builtin.«sorted»;refine VL (m:=checkCount "sorted" 1 1 _) (VO ?_);refine VL (J4 (A:=A.in1) hh hS VD λh' tk d vs hk ⟨s1,sv,sp⟩=>?_);have hl:vs.length=ss.length:=by rw [mD sv,sp.length_eq]
 refine VL (Xo ?_);have hoL:(h'.push (We "list" vs.toArray 0)).get? h'.objs.size=some (We "list" vs.toArray 0):=OP _ rfl;refine VL (Wa (Wi slot_list_sort ⟨_,hoL,rfl⟩ entry_list_sort (list_sort_treeK (s:={s with heap:=h'.push (We "list" vs.toArray 0),toks:=tk,drawn:=d}) strKind_oneLt hoL sv.keysOf (λv₁ v₂ rest e=>keyKind_strs (by rw [<-e];exact sv)) (by rw [hl];exact hn) λst' a1 a2=>⟨_,rfl,?_⟩) (args_list_sort _)));obtain⟨ss',h1,h2,h3⟩:=sorted_out_str sv a1 a2;obtain⟨e,he⟩:=sortedHeap_at (n:=0) (vs:=vs) (out:=(arrOf st').map (·.2)) hoL;refine VO ⟨_,rfl,h h' _ tk d _ e ss' hk (λb o q=>?_) he h1 (h2.trans sp) h3⟩;have hlt:b < h'.objs.size:=OB q;rw [sortedHeap_old (OX hlt) (by rw [size_push'];exact P6 hlt),UB _ _ _ (OX hlt)];exact q
end
def sQ(P:VW)(w:VZ)(a:VM)(ss:List Str):HO:= .ext λh=>cT P w h a ss
theorem ae.drw{X:Cx}{Xz:List (VM×Obj)}{σ:List (Option V)}{H:Hp}{s:VN}{d:Drawn}(I:ae X Xz σ H s):ae X Xz σ H {s with drawn:=d}:=⟨I.ok,I.os,I.bare,I.base,I.loc,I.cell,I.free,I.freeC,I.pin,I.hok,I.len⟩
theorem J6{X:Cx}:cO X (.type "set") (λxs H Q=>X.calm=true/\∃(p:VM)(ss:List Str),xs=[.ref p]/\bf X.K H p (ss.map V.str)/\ss.length < 64/\∀l,H l=none->Q (.ref l) (av H l (sQ X.prog X.w l (ss.foldl cV [])))):=by
 intro Xz s σ H xs us Q I r h;obtain⟨hc,p,ss,rfl,hq,h64,q⟩:=h;obtain⟨u,rfl,rx⟩:=dj r;cases rx;obtain⟨its,rv,pl,hz⟩:=I.list hq;have hlen:=rv.length;rw [Oi] at hlen;refine JQ (I.ok.hd hc) pl.isList (by simpa using oO rv) (by have:WI=4096:=rfl;simp;omega) λh' tk S' k'=>?_;refine⟨.ref _,_,I.laid (t':=tk) (o:=sQ X.prog X.w _ (ss.foldl cV [])) k' (Ot _) ?_,rfl,q _ (I.hok.fresh (Ot _))⟩;obtain⟨o,e,_⟩:=id S';exact⟨S',⟨o,e⟩,λh1 h2 x k=>x.stay k⟩
theorem J7{X:Cx}:cO X (.builtin "sorted") (λxs H Q=>X.calm=true/\∃(a:VM)(ss:List Str),xs=[.ref a]/\H a=some (sQ X.prog X.w a ss)/\ss.length < 64/\∀l,H l=none->Q (.ref l) (av H l (.lst ((cD ss).map V.str)))):=by
 intro Xz s σ H xs us Q I r h;obtain⟨hc,a,ss,rfl,ha,h64,q⟩:=h;obtain⟨u,rfl,rx⟩:=dj r;cases rx;obtain⟨hS,_⟩:=I.hok a _ ha;refine J5 (I.ok.hd hc) hS h64 λh' h2 tk d out e ss' k1 k2 ly s1 s2 s3=>?_;have es:ss'=cD ss:=sr s2 (su _ s3);subst es;have hl2:(cD ss).length=ss.length:=s2.length_eq;have I1:ae X Xz σ H {s with heap:=h',toks:=tk,drawn:=d}:=(I.kept (t':=tk) k1).drw;refine⟨.ref _,_,I1.laid (t':=tk) (o:= .lst ((cD ss).map V.str)) k2 (Ot _) ?_,rfl,q _ (I1.hok.fresh (Ot _))⟩;refine⟨by rw [Oi,hl2];exact OZ (QJ h64) VC,out.toList,e,mn s1,?_⟩;rw [ly]
theorem BD:∀(l ss:List Str),(l.foldl cV ss).length<=ss.length+l.length
 | [],ss=>by simp
 | a::l,ss=>by
  have:=BD l (cV ss a);have h:(cV ss a).length<=ss.length+1:=by unfold cV;split <;> simp
  simp only [QM,OG];omega
theorem Ka:V3 "set"=some (.type "set"):=Ce
section
variable {X:Cx} {H0:Hp} {O0:Ex}
def BE(t:DA):DA:=λδ Q=>t δ λds=>∃ss:List Str,ds=[.list (ss.map .str)]/\ss.length < 64/\Q ((cD (ss.foldl cV [])).map .str)
theorem Kb{a:VR}{t:DA}{np p np' p':Pos}(hc:X.calm=true)(hg:Gl X "sorted")(hm:X.mg "sorted"=none)(hv:V3 "sorted"=some (.builtin "sorted"))(hg':Gl X "set")(hm':X.mg "set"=none)(ha:PA X [a] (fz X.K H0 O0 t))
 (he:VP [a] X.env=(false,eval a X.env)::VP [] X.env:=by rfl)(hpl:(V6 p' (VP [] X.env)).any (·.1)=false:=by rfl)
 (he':VP [.Call (.Name "set" np') [a] [] p'] X.env=(false,eval (.Call (.Name "set" np') [a] [] p') X.env)::VP [] X.env:=by rfl)(hpl':(V6 p (VP [] X.env)).any (·.1)=false:=by rfl):
 FE X H0 O0 (.Call (.Name "sorted" np) [.Call (.Name "set" np') [a] [] p'] [] p) (BE t):=
 (aS J7 hg hm hv (bS (fP J6 hg' hm' Ka ha (he:=he) (hpl:=hpl)) dF he') (he:=he') (hpl:=hpl')).imp λσ H Q ⟨O,δ,Qd,w,q,k⟩=>⟨O,δ,_,w,q,λds vs H1 uu44 s1 r1=>by
  obtain⟨ss,e,h64,q1⟩:=uu44;subst e;cases r1 with
  | cons h r=>
   cases r;obtain⟨a,us,rfl,h1,d1⟩:=h.lst;cases d1.strs;refine⟨hc,a,ss,rfl,h1,h64,λl hl=>⟨hc,l,_,rfl,bb,by have:=BD ss [];simp at this;omega,λl2 hl2=>?_⟩⟩;exact k _ _ _ _ q1 (s1.trans (au.new hl)) hl2 (aq.ofStrs _)⟩
def BF(i:Nat)(t:DA):DS:=λE δ=>∃ds,δ[i]?=some (some (.o ds))/\t δ λes=>ds.length+es.length<=VT/\E.nx (δ.set i (some (.o (ds++es))))
theorem sR{i:Nat}{o e:VR}{t:DA}{apos cpos pos:Pos}(ho:PE X o (dR i))(he:FE X H0 O0 e t)(hbase:WC o "extend" X.env (eval o X.env)=eval o X.env:=by rfl)
 (hfew:((V6 cpos (VP [e] X.env)).all (λx=>!x.1) && (Xb cpos (WM [] X.env)).all (λx=>x.1.isSome) && decide ([e].length+([]:List Wu).length+(if ([]:List Wu).isEmpty then 0 else 1) < 30))=true:=by rfl)
 (hline:(apos.endLine==cpos.line)=true:=by rfl)(hst:VP [e] X.env=(false,eval e X.env)::VP [] X.env:=by rfl)(hplain:(V6 cpos (VP [] X.env)).any (·.1)=false:=by rfl)
 (hs:Wb (.Call (.Attribute o "extend" apos) [e] [] cpos) none pos.line X.env=pure false:=by rfl):PS X (.Expr (.Call (.Attribute o "extend" apos) [e] [] cpos) pos) (bw X.K H0 O0 (BF i t)):=
 (lC (nW RS PySem.F.slot_list_extend PySem.F.type_list_extend F7 ho (bS he dF hst) hbase hfew hline hst hplain) hs).imp λD σ H uu45=>by
  obtain⟨O,δ,E,w,⟨ds,e,q⟩,k1,k2,k3,k4⟩:=uu45;obtain⟨l,vs,h,a,b,c,r⟩:=w.own e;refine⟨_,h,.inl ⟨rfl,_,bf.of c⟩,O,δ,_,w,q,λes ws p H1 q1 s1 hp r1=>?_⟩;have hl:H1 l=some (.lst vs):=s1 _ _ c;have np:l≠p:=λz=>by rw [z,hp] at hl;cases hl
  have S2:au H1 (av H1 p (.lst ws)):=au.new hp;refine⟨l,p,vs,ws,rfl,rfl,by rw [aE np];exact hl,bb,by rw [r.length,r1.length];exact q1.1,?_⟩;exact k1 _ _ _ _ q1.2 (((w.mono s1).mono S2).putO (vs:=vs) e h (((r.mono s1).mono S2).append (r1.mono S2))) ⟨λb' o' z n=>by rw [aE (λy=>n (by rw [y];exact a))];exact S2 _ _ (s1 _ _ z),λ_ _ n=>n⟩
end
theorem aq.intsL{K:Og}{H:Hp}{O:Ex}:∀{ns:List Int}{vs:List V},aq K H O vs (ns.map Ou)->vs=ns.map V.int
 | [],_,r=>by rw [PV] at r;cases r;rfl
 | b::bs,_,r=>by
  rw [Ov] at r;cases r with
  | cons h r=>cases h;rw [Ov,aq.intsL r]
theorem Wd.frzK{K:Og}{H0 H:Hp}{O0 O:Ex}{σ:St}{δ:Dl}(w:Wd K H0 O0 H O σ δ){i:Nat}{l:VM}{y0:Sl}(e:δ[i]?=some (some y0))(ho:y0.own)(h:σ[i]?=some (some (.ref l)))(u:HO):
 ∃O',Wd K H0 O0 (av H l u) O' σ (δ.set i none)/\aY H (av H l u) O O'/\¬O' l:=by
 obtain⟨l',x1,a,b⟩:=w.adr e ho;rw [h] at x1;cases x1;have l0:H0 l=none:=(w.new l a).resolve_left b;have S:aY H (av H l u) O (λx=>O x/\x≠l):=⟨λc q z n=>by rw [aE (λy=>n (by rw [y];exact a))];exact z,λ_ _ n z=>n z.1⟩;have li:i < δ.length:=(Oy.mp e).1;have ne:∀{j:Nat}{y:Sl},(δ.set i none)[j]?=some (some y)->j≠i:=λ{j y} q z=>by
  subst z;rw [Pb li] at q;cases q
 refine⟨_,⟨λc q z=>?_,λx z=>⟨w.sub x z,λy=>b (by rw [<-y];exact z)⟩,λx z=>w.new x z.1,λx z=>by rw [aE z.2];exact w.trk x z.1,by simp [w.len],λj y q=>?_,λj k y z l' e1 y1 e2 z2 e3 e4=>?_⟩,S,λz=>z.2 rfl⟩
 ·have:c≠l:=λy=>by rw [y,l0] at z;cases z
  rw [aE this];exact w.same c q z
 ·by_cases hj:j=i
  ·subst hj;rw [Pb li] at q;cases q;exact P1
  ·rw [OY (Ne.symm hj)] at q;refine(w.sl j y q).go S (λb o ho' e' a1 a2 a3=>?_) (λb o u a1 a2 a3=>by have nb:b≠l:=λz=>w.nofrz e ho h o u (by rw [<-z];exact a3);exact⟨⟨a1,nb⟩,by rw [aE nb];exact a3⟩) λc o a1 a3=>by rw [aE (λz=>b (by rw [<-z];exact a1))];exact a3
   have nb:b≠l:=λz=>by
    subst z
    match y,ho',q with
    | some z,ho',q=>exact hj (w.dis j i z y0 _ q (by cases z <;> first | trivial | cases ho') e ho (i7 e') h)
   exact⟨⟨a1,nb⟩,by rw [aE nb];exact a3⟩
 ·have n1:=ne e1;have n2:=ne e2;rw [OY (Ne.symm n1)] at e1;rw [OY (Ne.symm n2)] at e2;exact w.dis j k _ _ l' e1 y1 e2 z2 e3 e4
def mE:List (DT×DT)->Dl->(List (VI×VI)->Prop)->Prop
 | [],_,Q=>Q []
 | (a,b)::r,δ,Q=>a δ λx=>b δ λy=>mE r δ λps=>Q ((x,y)::ps)
inductive gz (K:Og) (H:Hp) (O:Ex):List (V×V)->List (VI×VI)->Prop
 | nil:gz K H O [] []
 | cons {a b:V} {x y:VI} {r s}:Dt K H O a x->Dt K H O b y->gz K H O r s->gz K H O ((a,b)::r) ((x,y)::s)
theorem sS{K:Og}{H0:Hp}{O0 O:Ex}{σ:St}{δ:Dl}:∀(trs:List (DT×DT)){H:Hp}{Qd:List (VI×VI)->Prop}{R:List (V×V)->Hp->Prop},Wd K H0 O0 H O σ δ->mE trs δ Qd->(∀ds vs H',Qd ds->au H H'->gz K H' O vs ds->R vs H')->oJ (trs.map λp=>(up K H0 O0 p.1,up K H0 O0 p.2)) σ H R
 | [],H,Qd,R,w,q,k=>k [] [] H q (au.refl _) .nil
 | (a,b)::r,H,Qd,R,w,q,k=>by
  refine⟨O,δ,_,w,q,λx v H1 q1 s1 r1=>⟨O,δ,_,w.mono s1,q1,λy u H2 q2 s2 r2=>?_⟩⟩;exact sS r ((w.mono s1).mono s2) q2 λds vs H3 q3 s3 r3=>k _ _ H3 q3 ((s1.trans s2).trans s3) (.cons (r1.mono (s2.trans s3)) (r2.mono s3) r3)
theorem Dt.free{K:Og}{H H':Hp}{O O':Ex}{v:V}{d:VI}(h:Dt K H O v d)(s:n8 d=true):Dt K H' O' v d:=by
 cases h <;> first | exact .non | exact .bl _ | exact .int _ | exact .str _ | cases s
theorem gz.kd{K:Og}{H H':Hp}{O:Ex}:∀{kd:List (ak×VI)}{ps:List (V×V)},gz K H O ps (kd.map λp=>(fG p.1,p.2))->(∀p∈kd,n8 p.2=true)->∃kv:List (ak×V),ps=kv.map (λp=>(kV p.1,p.2))/\bu K H' O kv kd
 | [],_,h,_=>by cases h;exact⟨[],rfl,.nil⟩
 | p::kd,_,h,sc=>by
  cases h with
  | cons a b r=>
   obtain⟨kv,e,k⟩:=gz.kd r λq hq=>sc q (OR _ hq);have:=a.key;exact⟨(p.1,_)::kv,by rw [e,this];rfl,.cons (b.free (sc p O3)) k⟩
theorem bu.merge{K:Og}{H:Hp}{O:Ex}{more:List (ak×V)}{md:List (ak×VI)}(h:bu K H O more md):∀{kv:List (ak×V)}{kd:List (ak×VI)},bu K H O kv kd->bu K H O (hV kv more) (md.foldl (λa p=>eg a p.1 p.2) kd):=by
 induction h with
 | nil=>intro kv kd r;exact r
 | cons a _ ih=>intro kv kd r;exact ih (r.put _ a)
section
variable {X:Cx} {H0:Hp} {O0:Ex}
def BG(trs:List (DT×DT)):jU:=λδ Q=>mE trs δ λps=>∃kd:List (ak×VI),ps=kd.map (λp=>(fG p.1,p.2))/\kd.length<=15/\(∀p∈kd,n8 p.2=true)/\Q (kd.foldl (λa p=>eg a p.1 p.2) [])
def mF(X:Cx)(H0:Hp)(O0:Ex)(pos:Pos)(keys:List (Option VR))(values:List VR)(trs:List (DT×DT)):Prop:=l9 X pos keys values (trs.map λp=>(up X.K H0 O0 p.1,up X.K H0 O0 p.2))
theorem sT{pos:Pos}:mF X H0 O0 pos [] [] []:=HB
theorem kQ{pos:Pos}{k v:VR}{ks:List (Option VR)}{vs:List VR}{tk tv:DT}{trs:List (DT×DT)}(hk:DE X H0 O0 k tk)(hv:DE X H0 O0 v tv)(hr:mF X H0 O0 pos ks vs trs):mF X H0 O0 pos (some k::ks) (v::vs) ((tk,tv)::trs):=HC hk hv hr
theorem Kc{pos:Pos}{keys:List (Option VR)}{values:List VR}{trs:List (DT×DT)}(h:mF X H0 O0 pos keys values trs)(hall:keys.all (·.isSome)=true:=by rfl)(hl:keys.length=values.length:=by rfl)(h0:keys≠[]:=by exact UR _ _)(h15:keys.length<=15:=by exact TB rfl):KE X H0 O0 (.Dict keys values pos) (BG trs):=
 (Am h hall hl h0 h15).imp λσ H Q ⟨O,δ,Qd,w,q,k⟩=>λp hp=>by
  refine sS trs (w.mono (au.new hp)) q λds vs H2 ⟨kd,e,n,sc,q2⟩ s2 r2=>?_;subst e;have hp2:H2 p=some (.dK []):=s2 _ _ bb;obtain⟨kv,e,r⟩:=gz.kd (H':=λb=>if b=p then none else H2 b) r2 sc;refine⟨hp2,kv,e,by rw [r.length];exact n,?_⟩;have eu:av H2 p (.dK (hV [] kv))=av (λb=>if b=p then none else H2 b) p (.dK (hV [] kv)):=by
   funext b;unfold av;split
   ·rfl
   ·rename_i hb;exact(VE hb).symm
  rw [eu];refine k _ _ p _ q2 (λb o z=>?_) (VF rfl) (r.merge .nil);have:b≠p:=λy=>by rw [y,hp] at z;cases z
  show(if b=p then none else H2 b)=some o;rw [VE this];exact s2 _ _ (by rw [aE this];exact z)
theorem Kd{N':List Str}{k:Nat}{fr:List Nat}{scope:Wc}{iter elt tg:VR}{ifs:List VR}{t te:DT}{tc:DB}{g:TG}{dg:DG}{pos:Pos}(hc:X.calm=true)(S:bt X.env.scope X.N N' k fr scope)(hi:DF X H0 O0 iter t)(gd:GD X.K g dg)(hk:iF g k)(hfr:fr.Nodup)
 (hg:∀fp C s H,PG (bE X scope N' fp C s H) tg g)(hf:∀fp C s H,d5 (bE X scope N' fp C s H) ifs (bP X.K H0 O0 tc))(he:∀fp C s H,PE (bE X scope N' fp C s H) elt (up X.K H0 O0 te))
 (hs:∀x,V5 iter X.env x=pure x:=by intro _;rfl):PU X (.ListComp elt [⟨tg,iter,ifs,0⟩] scope pos) (lV X.K H0 O0 (oB t dg tc te k fr)):=
 (Ar hc S (nJ hi) hg hf he hs).imp λσ H Q uu48=>by obtain⟨O,δ,Qd,w,q,kk⟩:=uu48;exact⟨O,δ,_,w,q,λd v H1 uu49 s1 r1=>by
  obtain⟨xs,e,hz,q1⟩:=uu49;subst e;obtain⟨a,vs,rfl,hq,rr⟩:=r1.tup;refine⟨a,rfl,⟨_,hq⟩,λD hD=>jI (cN.tup hq) gd hfr (λv _ H' R h=>hk fr σ v H' R h) (λ_ _ _ z=>z) (λ_ _ _ z=>z) (λD H' hD s' o e=>s' _ _ e (cR e hD)) rr (w.mono s1) (by rw [rr.length];exact hz) q1 (λds us p H' z s' hp r'=>kk ds us p H' z (s1.trans s') hp r') D hD⟩⟩
end
structure kT (n:Nat) (lt:Nat->Nat->Bool) (I:VN->Prop) (cmp:Nat->Nat->(Bool->VN->Prop)->VN->Prop):Prop where
 as:∀i j C s,i < n->j < n->i≠j->I s->(∀s',I s'->C (lt i j) s')->cmp i j C s
structure ib (n:Nat) (lt:Nat->Nat->Bool):Prop where
 tot:∀i j,i < n->j < n->i≠j->lt i j=!lt j i
 tr:∀i j k,i < n->j < n->k < n->lt i j=true->lt j k=true->lt i k=true
structure cg (n:Nat) (p:Array Nat):Prop where
 perm:p.toList.Perm (Py n)
theorem cg.size{n:Nat}{p:Array Nat}(h:cg n p):p.size=n:=by rw [<-OO,h.perm.length_eq,Ro]
theorem cg.lt{n:Nat}{p:Array Nat}(h:cg n p){k:Nat}(hk:k < n):p.getD k 0 < n:=by
 have hs:=h.size;have e:p.getD k 0=p[k]'VD:=by simp [SY,show k < p.size by omega]
 rw [e];have:=h.perm.mem_iff.mp (Array.mem_toList_iff.mpr (Array.getElem_mem (show k < p.size by omega)));simpa using this
theorem cg.ne{n:Nat}{p:Array Nat}(h:cg n p){i j:Nat}(hi:i < n)(hj:j < n)(hij:i≠j):p.getD i 0≠p.getD j 0:=by
 have hs:=h.size;have nd:p.toList.Nodup:=h.perm.nodup_iff.mpr List.nodup_range;have ei:p.getD i 0=p.toList[i]'(by simp;omega):=by simp [SY,show i < p.size by omega]
 have ej:p.getD j 0=p.toList[j]'(by simp;omega):=by simp [SY,show j < p.size by omega]
 rw [ei,ej];intro e;exact hij ((S5 nd).mp e)
theorem cg.bubble{n:Nat}{p:Array Nat}(h:cg n p)(a d:Nat):cg n (Sk p a d):=⟨(SJ.mp (bubble_perm p a d)).trans h.perm⟩
theorem cg.rev{n:Nat}{p:Array Nat}(h:cg n p)(i j:Nat):cg n (kas_rev p i j):=⟨(SJ.mp (mirror_perm p i j _)).trans h.perm⟩
theorem BH(n:Nat):cg n (Vh (Py n)):=⟨VH⟩
def Up(lt:Nat->Nat->Bool)(p:Array Nat)(k:Nat):Prop:=∀i j,i < j->j < k->lt (p.getD i 0) (p.getD j 0)=true
section
variable {n:Nat} {lt:Nat->Nat->Bool} {I:VN->Prop} {cmp:Nat->Nat->(Bool->VN->Prop)->VN->Prop}
theorem Up.snoc(T:ib n lt){p:Array Nat}(hp:cg n p){k:Nat}(hk:k < n)(h:Up lt p k)(h0:0 < k)(hl:lt (p.getD (k - 1) 0) (p.getD k 0)=true):Up lt p (k+1):=by
 intro i j hij hj;rcases Q1 j k with z | z
 ·exact h i j hij z
 ·have:j=k:=VD
  subst this;rcases Q1 i (j - 1) with w | w
  ·exact T.tr _ _ _ (hp.lt VD) (hp.lt VD) (hp.lt hk) (h i (j - 1) w VD) hl
  ·have:i=j - 1:=VD
   subst this;exact hl
theorem sU(A:kT n lt I cmp)(T:ib n lt){p:Array Nat}(hp:cg n p){Q:Nat->VN->Prop}:∀(f m:Nat)(s:VN),1<=m->m+f=n->Up lt p m->I s->
 (∀k s',I s'->m<=k->k<=n->Up lt p k->(k < n->lt (p.getD k 0) (p.getD (k - 1) 0)=true)->Q k s')->(kas_asc p f m).kasWp cmp Q s
 | 0,m,s,h1,hf,hu,hI,q=>q m s hI (Ot _) VD hu (λz=>by omega)
 | f+1,m,s,h1,hf,hu,hI,q=>by
  have hm:m < n:=VD
  refine A.as _ _ _ s (hp.lt hm) (hp.lt VD) (hp.ne hm VD VD) hI λs' hI'=>?_;cases hc:lt (p.getD m 0) (p.getD (m - 1) 0) with
  | true=>
   dsimp only;rw [VF rfl];exact q m s' hI' (Ot _) VD hu (λ_=>hc)
  | false=>
   dsimp only;rw [VE VH];have hl:lt (p.getD (m - 1) 0) (p.getD m 0)=true:=by rw [T.tot _ _ (hp.lt VD) (hp.lt hm) (hp.ne VD hm VD),hc];rfl
   exact sU A T hp f (m+1) s' VD VD (hu.snoc T hp hm VD hl) hI' λk s2 a b c d e=>q k s2 a VD c d e
def Dn(lt:Nat->Nat->Bool)(p:Array Nat)(k:Nat):Prop:=∀i j,i < j->j < k->lt (p.getD j 0) (p.getD i 0)=true
theorem Dn.snoc(T:ib n lt){p:Array Nat}(hp:cg n p){k:Nat}(hk:k < n)(h:Dn lt p k)(h0:0 < k)(hl:lt (p.getD k 0) (p.getD (k - 1) 0)=true):Dn lt p (k+1):=by
 intro i j hij hj;rcases Q1 j k with z | z
 ·exact h i j hij z
 ·have:j=k:=VD
  subst this;rcases Q1 i (j - 1) with w | w
  ·exact T.tr _ _ _ (hp.lt hk) (hp.lt VD) (hp.lt VD) hl (h i (j - 1) w VD)
  ·have:i=j - 1:=VD
   subst this;exact hl
theorem BI(A:kT n lt I cmp)(T:ib n lt){p:Array Nat}(hp:cg n p){Q:Array Nat×Nat×Nat->VN->Prop}:∀(f m:Nat)(s:VN),1<=m->m+f=n->Dn lt p m->I s->
 (∀k s',I s'->m<=k->k<=n->Dn lt p k->Q (p,k,0) s')->(kas_desc f p m 0).kasWp cmp Q s
 | 0,m,s,h1,hf,hu,hI,q=>q m s hI (Ot _) VD hu
 | f+1,m,s,h1,hf,hu,hI,q=>by
  have hm:m < n:=VD
  refine A.as _ _ _ s (hp.lt hm) (hp.lt VD) (hp.ne hm VD VD) hI λs' hI'=>?_;cases hc:lt (p.getD m 0) (p.getD (m - 1) 0) with
  | true=>
   dsimp only;rw [VF rfl,VE VH];exact BI A T hp f (m+1) s' VD VD (hu.snoc T hp hm VD hc) hI' λk s2 a b c d=>q k s2 a VD c d
  | false=>
   dsimp only;rw [VE VH];refine A.as _ _ _ s' (hp.lt VD) (hp.lt hm) (hp.ne VD hm VD) hI' λs2 hI2=>?_;have hl:lt (p.getD (m - 1) 0) (p.getD m 0)=true:=by rw [T.tot _ _ (hp.lt VD) (hp.lt hm) (hp.ne VD hm VD),hc];rfl
   rw [hl];dsimp only;rw [VF rfl];exact q m s2 hI2 (Ot _) VD hu
theorem BJ{p:Array Nat}{j k:Nat}(hj:j<=p.size):(kas_rev p 0 j).getD k 0=if k < j then p.getD (j - 1 - k) 0 else p.getD k 0:=by
 have:=getElem?_mirror_all (xs:=p) (i:=0) (j:=j) hj k;unfold kas_rev;rw [P2,this];by_cases h:k < j
 ·simp [h,P2]
 ·simp [h,P2]
theorem Dn.rev{p:Array Nat}(hp:cg n p){k:Nat}(hk:k<=n)(h:Dn lt p k):Up lt (kas_rev p 0 k) k:=by
 intro i j hij hj;have hs:=hp.size;rw [BJ VD,BJ VD,VF VD,VF hj];exact h _ _ VD VD
theorem Ke(A:kT n lt I cmp)(T:ib n lt)(h2:2<=n){p:Array Nat}(hp:cg n p){Q:Nat×Array Nat->VN->Prop}{s:VN}(hI:I s)
 (q:∀k p' s',I s'->1<=k->k<=n->cg n p'->Up lt p' k->Q (k,p') s'):(kas_count n p).kasWp cmp Q s:=by
 unfold kas_count;rw [RG];refine sU A T hp (n - 1) 1 s (Ot _) VD (λi j a b=>by omega) hI λm s1 hI1 m1 m2 hu hs=>?_;by_cases hm:m=n
 ·subst hm;rw [VF VH];exact q m p s1 hI1 m1 (Ot _) hp hu
 ·rw [VE (by simpa using hm)];by_cases hm1:m > 1
  ·rw [VF hm1];refine A.as _ _ _ s1 (hp.lt VD) (hp.lt VD) (hp.ne VD VD VD) hI1 λs2 hI2=>?_;rw [hu 0 (m - 1) VD VD];dsimp only;rw [VF rfl];exact q m p s2 hI2 m1 VD hp hu
  ·rw [VE hm1];have:m=1:=VD
   subst this;have h10:=hs VD;unfold kas_descPart;rw [RG];refine BI A T hp (n - (1+1)) (1+1) s1 VD VD (λi j a b=>?_) hI1 λk s2 hI2 k1 k2 hd=>?_
   ·have:i=0:=VD
    have:j=1:=VD
    subst_vars
    exact h10
   ·rw [VE VH];unfold kas_tail3;rw [RG];have hp':=hp.rev 0 k;refine sU A T hp' (n - k) k s2 VD VD (hd.rev hp k2) hI2 λm s3 hI3 a b c d=>?_;exact q m _ s3 hI3 VD b hp' c
theorem sV(A:kT n lt I cmp)(T:ib n lt){p:Array Nat}(hp:cg n p){k:Nat}(hk:k < n)(hu:Up lt p k){Q:Nat->VN->Prop}:∀(f l r:Nat)(s:VN),r - l<=f->l<=r->r<=k->I s->
 (∀i,i < l->lt (p.getD i 0) (p.getD k 0)=true)->(∀i,r<=i->i < k->lt (p.getD k 0) (p.getD i 0)=true)->
 (∀l s',I s'->l<=k->(∀i,i < l->lt (p.getD i 0) (p.getD k 0)=true)->(∀i,l<=i->i < k->lt (p.getD k 0) (p.getD i 0)=true)->Q l s')->(kas_place p k f l r).kasWp cmp Q s
 | 0,l,r,s,hf,hlr,hrk,hI,h1,h2,q=>q l s hI VD h1 (λi a b=>h2 i VD b)
 | f+1,l,r,s,hf,hlr,hrk,hI,h1,h2,q=>by
  unfold kas_place;by_cases hge:l >= r
  ·rw [VF hge];exact q l s hI VD h1 (λi a b=>h2 i VD b)
  ·rw [VE hge];have hm:(l+r)/ 2 < k:=VD
   refine A.as _ _ _ s (hp.lt hk) (hp.lt VD) (hp.ne hk VD VD) hI λs' hI'=>?_;cases hc:lt (p.getD k 0) (p.getD ((l+r)/ 2) 0) with
   | true=>
    dsimp only;rw [VF rfl];refine sV A T hp hk hu f l ((l+r)/ 2) s' VD VD VD hI' h1 (λi a b=>?_) q;rcases Q1 ((l+r)/ 2) i with z | z
    ·exact T.tr _ _ _ (hp.lt hk) (hp.lt VD) (hp.lt VD) hc (hu _ _ z b)
    ·have:i=(l+r)/ 2:=VD
     rw [this];exact hc
   | false=>
    dsimp only;rw [VE VH];have hl:lt (p.getD ((l+r)/ 2) 0) (p.getD k 0)=true:=by rw [T.tot _ _ (hp.lt VD) (hp.lt hk) (hp.ne VD hk VD),hc];rfl
    refine sV A T hp hk hu f ((l+r)/ 2+1) r s' VD VD hrk hI' (λi a=>?_) h2 q;rcases Q1 i ((l+r)/ 2) with z | z
    ·exact T.tr _ _ _ (hp.lt VD) (hp.lt VD) (hp.lt hk) (hu _ _ z hm) hl
    ·have:i=(l+r)/ 2:=VD
     rw [this];exact hl
theorem BK{p:Array Nat}{k d i:Nat}(hk:k < p.size)(hd:d<=k):(Sk p k d).getD i 0=if i=k - d then p.getD k 0 else if k - d < i/\i<=k then p.getD (i - 1) 0 else p.getD i 0:=by
 rw [P2,getElem?_bubble hk d hd i];by_cases h1:i=k - d
 ·rw [VF h1,VF h1,P2]
 ·rw [VE h1,VE h1];by_cases h2:k - d < i/\i<=k
  ·rw [VF h2,VF h2,P2]
  ·rw [VE h2,VE h2,P2]
theorem Up.ins(T:ib n lt){p:Array Nat}(hp:cg n p){k l:Nat}(hk:k < n)(hu:Up lt p k)(hl:l<=k)(h1:∀i,i < l->lt (p.getD i 0) (p.getD k 0)=true)(h2:∀i,l<=i->i < k->lt (p.getD k 0) (p.getD i 0)=true):Up lt (Sk p k (k - l)) (k+1):=by
 have hs:=hp.size;intro i j hij hj;rw [BK VD VD,BK VD VD];have e:k - (k - l)=l:=VD
 rw [e];clear hs e hk;by_cases hi:i=l
 ·rw [VF hi,VE VD,VF VD];exact h2 _ VD VD
 ·rw [VE hi];by_cases hi2:l < i/\i<=k
  ·rw [VF hi2,VE VD,VF VD];exact hu _ _ VD VD
  ·rw [VE hi2];by_cases hj1:j=l
   ·rw [VF hj1];exact h1 _ VD
   ·rw [VE hj1];by_cases hj2:l < j/\j<=k
    ·rw [VF hj2];exact hu _ _ VD VD
    ·rw [VE hj2];exact hu _ _ hij VD
theorem BL(A:kT n lt I cmp)(T:ib n lt){Q:Array Nat->VN->Prop}:∀(f:Nat)(p:Array Nat)(k:Nat)(s:VN),k+f=n->cg n p->Up lt p k->I s->(∀p' s',I s'->cg n p'->Up lt p' n->Q p' s')->(kas_bin f p k).kasWp cmp Q s
 | 0,p,k,s,hf,hp,hu,hI,q=>q p s hI hp (by rw [show n=k by omega];exact hu)
 | f+1,p,k,s,hf,hp,hu,hI,q=>by
  unfold kas_bin;rw [RG];have hk:k < n:=VD
  refine sV A T hp hk hu k 0 k s VD VD (Ot _) hI (λi z=>by omega) (λi a b=>by omega) λl s' hI' hl h1 h2=>?_;exact BL A T f _ (k+1) s' VD (hp.bubble _ _) (hu.ins T hp hk hl h1 h2) hI' q
theorem Kf(A:kT n lt I cmp)(T:ib n lt)(h2:2<=n){Q:Array Nat->VN->Prop}{s:VN}(hI:I s)(q:∀p s',I s'->cg n p->Up lt p n->Q p s'):(kas_sort n).kasWp cmp Q s:=by
 unfold kas_sort;rw [RG];refine Ke A T h2 (BH n) hI λk p s1 hI1 k1 k2 hp hu=>?_;dsimp only;by_cases hk:k < n
 ·rw [VF hk,show max k 1=k by omega];exact BL A T (n - k) p k s1 VD hp hu hI1 q
 ·rw [VE hk];exact q p s1 hI1 hp (by rw [show n=k by omega];exact hu)
end
def bz(p q:Int×Str):Bool:=decide (p.1 < q.1) || (decide (p.1=q.1) && decide (p.2.cps.toList < q.2.cps.toList))
def ji(h:VY)(v:VJ)(p:Int×Str):Prop:=∃a o n t u,v= .ref a/\h.get? a=some o/\o.cls= .type "tuple"/\o.data= .seq #[.int p.1 t,.str p.2 u] n
section
variable {P:VW} {w:VZ} {A:V1} {E:VJ->VN->Prop} {s:VN}
theorem Kg{v u:VJ}{p q:Int×Str}{Q:Bool->VN->Prop}(hv:ji s.heap v p)(hu:ji s.heap u q)(h:Q (bz p q) s):VQ (VS P w) A (keyLt' (tuples' true) v u) Q E s:=by
 obtain⟨a,oa,na,t1,t2,rfl,ha,_,da⟩:=hv;obtain⟨b,ob,nb,t3,t4,rfl,hb,_,db⟩:=hu;refine kat_lt ha da hb db (kat_cons ((intKind P w).eqBool (intKind_is _ _ _ _) (intKind_is _ _ _ _) (kat_go (λe1=>?_) λe1=>?_)))
 ·have e1:p.1=q.1:=by simpa using e1
  refine kat_yes (kat_cons ((PySem.strKind P w).eqBool (strKind_is _ _ _ _) (strKind_is _ _ _ _) (kat_go (λe2=>?_) λe2=>?_)))
  ·have e2:p.2=q.2:=by simpa using e2
   refine kat_yes (kat_nil ?_);have:bz p q=false:=by unfold bz;rw [e1,e2];simp
   rw [this] at h;simpa using h
  ·have e2:p.2≠q.2:=by simpa using e2
   refine kat_no (kat_one _ _ ?_);have:bz p q=decide (p.2.cps.toList < q.2.cps.toList):=by unfold bz;simp [e1]
   rw [this] at h;exact lt_str h
 ·have e1:p.1≠q.1:=by simpa using e1
  refine kat_no ?_;show VQ _ _ (oneLt' true _ _) _ _ _;refine oneLt_int ?_;have:bz p q=decide (p.1 < q.1):=by unfold bz;simp [e1]
  rw [this] at h;exact h
theorem BM{n:Nat}{kp:Nat->Int×Str}(hd:∀i j,i < n->j < n->kp i=kp j->i=j):ib n λi j=>bz (kp i) (kp j):=by
 have tl:∀a b:Str,a≠b->(decide (a.cps.toList < b.cps.toList))=!decide (b.cps.toList < a.cps.toList):=λa b h=>by
  by_cases z:a.cps.toList < b.cps.toList
  ·rw [decide_eq_true z,decide_eq_false (List.lt_asymm z)];rfl
  ·have z2:b.cps.toList<=a.cps.toList:=UK.mp z;have:b.cps.toList < a.cps.toList:=by
    rcases Classical.em (b.cps.toList < a.cps.toList) with y | y
    ·exact y
    ·exact absurd (AG (UP (UK.mp y) z2)) h
   rw [decide_eq_false z,decide_eq_true this];rfl
 refine⟨λi j hi hj hij=>?_,λi j k hi hj hk h1 h2=>?_⟩
 ·have hne:kp i≠kp j:=λe=>hij (hd i j hi hj e);unfold bz;by_cases e:(kp i).1=(kp j).1
  ·have e2:(kp i).2≠(kp j).2:=λz=>hne (Prod.ext e z);simp only [e,Int.lt_irrefl,decide_false,QQ,decide_true,PD];exact tl _ _ e2
  ·have e':(kp j).1≠(kp i).1:=λz=>e z.symm;simp only [e,e',decide_false,Rq,R8];by_cases z:(kp i).1 < (kp j).1
   ·rw [decide_eq_true z,decide_eq_false VD];rfl
   ·rw [decide_eq_false z,decide_eq_true VD];rfl
 ·unfold bz at h1 h2⊢;simp only [RH,OI,decide_eq_true_eq] at h1 h2⊢;rcases h1 with h1 | ⟨h1,h1'⟩ <;> rcases h2 with h2 | ⟨h2,h2'⟩
  ·left;omega
  ·left;omega
  ·left;omega
  ·right;exact⟨h1.trans h2,TY h1' h2'⟩
theorem Kh{ks:List VJ}{kp:Nat->Int×Str}(hk:∀i v,ks[i]?=some v->ji s.heap v (kp i))(h2:2<=ks.length){Q:SortKind->VN->Prop}(h:Q (tuples' true) s):VQ (VS P w) A (keyKind' ks.toArray) Q E s:=by
 have key:∀(ks:List VJ)(kp:Nat->Int×Str),(∀i v,ks[i]?=some v->ji s.heap v (kp i))->∃fs:List VJ,KatTups s.heap ks fs/\fs.length=ks.length/\∀v∈fs,∃n t,v=QX n t:=by
  intro ks
  induction ks with
  | nil=>intro kp _;exact⟨[],KatTups.nil,rfl,VH⟩
  | cons v ks ih=>
   intro kp hk;obtain⟨fs,a,b,c⟩:=ih (λi=>kp (i+1)) λi v e=>hk (i+1) v (by simpa using e);obtain⟨ad,o,n,t,u,rfl,h1,h2,h3⟩:=hk 0 v rfl;refine⟨.int (kp 0).1 t::fs,KatTups.cons h1 h2 h3 rfl a,by simp [b],λx hx=>?_⟩;rcases Ox.mp hx with rfl | hx
   ·exact⟨_,_,rfl⟩
   ·exact c x hx
 obtain⟨fs,a,b,c⟩:=key ks kp hk;refine kat_kind (T:= .type "int") a VD (λv hv=>?_) VC h;obtain⟨n,t,rfl⟩:=c v hv;exact .now
theorem Ki{n:Nat}{ks:List VJ}{kp:Nat->Int×Str}(hn:ks.length=n)(h2:2<=n)(hk:∀i v,ks[i]?=some v->ji s.heap v (kp i))(hd:∀i j,i < n->j < n->kp i=kp j->i=j){G:Array Nat->VN->Prop}
 (q:∀p,cg n p->Up (λi j=>bz (kp i) (kp j)) p n->G p s):(kas_sort n).kasWp (kas_ask P w A (tuples' true) ks) G s:=by
 refine Kf (lt:=λi j=>bz (kp i) (kp j)) (I:=λs'=>s'=s) ⟨λi j C s' hi hj hij e c=>?_⟩ (BM hd) h2 rfl λp s' e hp hu=>by subst e;exact q p hp hu
 subst e;have ei:ks[i]?=some (ks.getD i .none):=by simp [show i < ks.length by omega]
 have ej:ks[j]?=some (ks.getD j .none):=by simp [show j < ks.length by omega]
 exact Kg (hk i _ ei) (hk j _ ej) (c _ rfl)
def BN(kS D:VM)(s:VN)(out:List VJ)(C:VN->Prop):Prop:=∀h' c,h'.get? D=some (We "list" out.toArray c)->(∀b u,b≠kS->b≠D->s.heap.get? b=some u->h'.get? b=some u)->C {s with heap:=h'}
theorem BO{st:SortSt}{kS D:VM}{ks out:List VJ}{e e1:Nat}{C:U5->VN->Prop}(hk:s.heap.get? kS=some (We "list" ks.toArray e))(hD:s.heap.get? D=some (We "list" #[] e1))(hne:kS≠D)(hf:failedOf st=none)
 (ho:(arrOf st).map (·.2)=out.toArray)(h64:out.length < 64)(hk64:ks.length < 64)(q:BN kS D s out (C (.done (.ret .none)))):VQ (VS P w) A (ksk_tail D false e1 (.ref kS) st) C E s:=by
 have hsl:VT=16777216:=Wq;unfold ksk_tail;rw [ho];refine VL (Xp hk rfl (VL (wpAny_letGo ?_)) (by rw [OC];omega) (PK _));have u1:=PF s.heap kS (P0 λ_=>(#[]:Array VJ));have hD1:(s.heap.update kS (P0 λ_=>(#[]:Array VJ))).get? D=some (We "list" #[] e1):=(u1.2 D (Ne.symm hne)).trans hD;refine VL (seqEpoch_at (s:={s with heap:=s.heap.update kS (P0 λ_=>(#[]:Array VJ))}) hD1 rfl ?_);rw [VE VH];refine VL (Xp (s:={s with heap:=s.heap.update kS (P0 λ_=>(#[]:Array VJ))}) hD1 rfl ?_ (PK _) (by show out.toArray.size<=_;rw [OC];omega));have u2:=PF (s.heap.update kS (P0 λ_=>(#[]:Array VJ))) D (P0 λ_=>out.toArray);rw [hf];simp only [bne_self_eq_false,QH,if_false];exact VO (q _ _ (get?_update_seq hD1 λ_=>out.toArray) λb u n1 n2 z=>(u2.2 b n2).trans ((u1.2 b n1).trans z))
theorem Kj{kS D:VM}{vs ks:List VJ}{n e e1:Nat}{kp:Nat->Int×Str}{C:U5->VN->Prop}(hv:vs.length=n)(hn:ks.length=n)(h64:n < 64)(hks:s.heap.get? kS=some (We "list" ks.toArray e))(hD:s.heap.get? D=some (We "list" #[] e1))(hne:kS≠D)
 (hk:∀i v,ks[i]?=some v->ji s.heap v (kp i))(hd:∀i j,i < n->j < n->kp i=kp j->i=j)
 (q:∀p,cg n p->Up (λi j=>bz (kp i) (kp j)) p n->BN kS D s (p.toList.map λi=>vs.getD i .none) (C (.done (.ret .none)))):VQ (VS P w) A (ksk_end D false vs.toArray e1 (.ref kS) ks.toArray) C E s:=by
 unfold ksk_end;have hz:vs.toArray.size=n:=by rw [OC];exact hv
 by_cases h2:n < 2
 ·simp only [QH,if_false,hz,h2,if_true];refine VL (VO (VL (VO ?_)));refine BO hks hD hne rfl (out:=vs) ?_ VD VD ?_
  ·show(ks.toArray.zip vs.toArray).map (·.2)=vs.toArray;apply US.mp;simp only [Array.toList_map,Array.toList_zip];rw [List.map_snd_zip VD]
  ·have:=q _ (BH n) (λi j a b=>by omega);have e:((Vh (Py n)).toList.map λi=>vs.getD i QV)=vs:=by
    apply Sd (by simp [hv]);intro i a b;simp at a b⊢;rw [OS b];rfl
   rw [e] at this;exact this
 ·simp only [QH,if_false,hz,h2];refine VL (Kh hk VD ?_);have hl:ks.length=vs.length:=VD
  refine VL (V8 (kat_run (κ:=tuples' true) (E:=λ_ _=>False) (Q:=λst' s'=>s'=s/\∃p,cg n p/\Up (λi j=>bz (kp i) (kp j)) p n/\arrOf st'=p.map (kas_item (ks.toArray.zip vs.toArray))/\failedOf st'=none) (G:=λp s'=>s'=s/\cg n p/\Up (λi j=>bz (kp i) (kp j)) p n) hl VD VD
   (λp st' s' a b c d=>⟨d.1,p,d.2.1,d.2.2,b,c⟩) ?_) (λr s' hr=>?_) λ_ _ x=>x.elim)
  ·rw [hv];exact Ki hn VD hk hd λp a b=>⟨rfl,a,b⟩
  ·obtain⟨rfl,p,p1,p2,p3,p4⟩:=hr;refine BO hks hD hne p4 (kat_snds hl p3) ?_ VD (q p p1 p2);rw [Oi,OO,p1.size];exact h64
end
section
variable {X:Cx} {Xz:List (VM×Obj)} {σ:St} {H:Hp} {s:VN}
theorem ae.track{o:HO}{D:VM}{ch:List VM}{t':Nat}{h':VY}(I:ae X Xz σ H s)(hD:D∈ch)(f:∀b∈ch,gG X Xz H b)(k:∀b u,b ∉ ch->s.heap.get? b=some u->h'.get? b=some u)(new:bI X.prog X.w (av H D o) h' D o):ae X Xz σ (av H D o) {s with heap:=h',toks:=t'}:=by
 have nC:∀b u,H b=some u->b ∉ ch:=λb u e z=>by rw [(f b z).1] at e;cases e
 have nD:∀b u,H b=some u->b≠D:=λb u e z=>nC b u e (by rw [z];exact hD);refine I.step (g':=s.gens) (d':=s.drawn) (ch:=ch) (λb hb=>?_) (λb o _ _ hc e _=>k b o hc e) (λb o _ _ hc e _=>⟨o.slots,k b o hc e⟩) (λb o hc _ n=>by rw [aE (λz=>hc (by rw [z];exact hD))];exact n)
  (λb o hc e=>⟨o,k b o hc e⟩) (λb xs e=>by rw [aE (nD _ _ e)];exact e) (λb u xs e=>by rw [aE (nD _ _ e)];exact e) (λb ps e=>⟨#[],by rw [aE (nD _ _ e),e];simp⟩) (λm hm=>hm.at' λo e=>k _ o (λz=>(f _ z).2.1 rfl) e) (λb u e=>?_) I.bare
 ·obtain⟨f0,f1,f2,f3,f4,f5⟩:=f b hb;exact⟨f3,f1,f4,f5⟩
 ·by_cases hb:b=D
  ·subst hb;rw [bb] at e;cases e;exact new
  ·rw [aE hb] at e;refine(I.hok b u e).stay (λc v hc q=>k c v (λz=>?_) q) (λc q=>by rw [aE (nD _ _ q)];exact q) (λc xs q=>by rw [aE (nD _ _ q)];exact q) (λc xs q=>by rw [aE (nD _ _ q)];exact q);rcases hc with r | r
   ·subst r;exact nC _ _ e z
   ·exact nC _ _ r z
theorem Kk{k:Nat}{f:VM}{fd:VU}{ps:List Str}{sp:Sp}{v:V}{u:VJ}{Q:VK}(Fk:aF X.prog X.w X.K X.mg X.base aK k f fd ps sp)(hr:bp k X.A.in1.in1)(hb:eL X.K fd ps [])(I:ae X Xz σ H s)(r:aH v u)(h:sp [v] H Q E0):
 VQ (VS X.prog X.w) X.A.in1.in1 (call (.ref f) [u]) (EP X Xz σ Q) (λ_ _=>False) s:=by
 have r2:aI [v] [u]:= .cons r .nil;have hl:([u]++[]).length=ps.length:=by
  have:=Fk.len _ _ _ _ h;simpa using this
 have hb2:=hb s [u] I.kIn hl;rw [Po] at hb2;refine wpAny_call (Wr (Fk.run X.A.in1.in1 X.stack s H ⟨[u],[]⟩ [u] [v] Q E0 hr I.env0.in1.in1 hb2 r2 h) λr s' hq=>?_);cases r with
 | error e=>exact hq.elim
 | ok fl=>
  cases fl with
  | ret u=>exact I.after hq
  | next=>exact PY hq
  | brk=>exact PY hq
  | cont=>exact PY hq
def jV(X:Cx)(Xz:List (VM×Obj))(b:VM):Prop:=b≠X.env.locals/\b ∉ X.fs/\(b∈X.ex\/X.s₀.heap.objs.size<=b)/\(∀x c,X.env.cells.lookup x=some c->c≠b)/\∀p∈X.pn++Xz,p.1≠b
theorem ae.out(I:ae X Xz σ H s){b:VM}(hb:s.heap.objs.size<=b):jV X Xz b:=(I.fpOk (H':=H) hb (I.hok.fresh hb)).2
structure jj (X:Cx) (Xz:List (VM×Obj)) (σ:St) (H:Hp) (O:Ex) (kS D:VM) (e1:Nat) (kds:List VI) (ks:List VJ) (s:VN):Prop where
 ex:∃H' kvs e,ae X (Xz++[(kS,We "list" ks.toArray e),(D,We "list" #[] e1)]) σ H' s/\au H H'/\aq X.K H' O kvs kds/\aI kvs ks
theorem jj.push{O:Ex}{kS D:VM}{e1:Nat}{kds:List VI}{ks:List VJ}{H':Hp}{kvs:List V}{e:Nat}{h':VY}{kv:V}{kd:VI}{k:VJ}(oS:jV X Xz kS)(oD:jV X Xz D)(hne:kS≠D)
 (I:ae X (Xz++[(kS,We "list" ks.toArray e),(D,We "list" #[] e1)]) σ H' s)(hs:au H H')(hk:aq X.K H' O kvs kds)(hv:aI kvs ks)(k1:Dt X.K H' O kv kd)(k2:aH kv k)
 (hu:∃e',h'.get? kS=some (We "list" (ks++[k]).toArray e'))(kept:∀b u,b≠kS->s.heap.get? b=some u->h'.get? b=some u):jj X Xz σ H O kS D e1 (kds++[kd]) (ks++[k]) {s with heap:=h'}:=by
 obtain⟨e',hu⟩:=hu;have pS:=I.pin (kS,We "list" ks.toArray e) VH;have pD:=I.pin (D,We "list" #[] e1) VH;have I1:ae X Xz σ H' s:=I.pins_of λp hp=>I.pin p (by simp only [OJ] at hp⊢;exact .inr (.inl hp));have I2:ae X Xz σ H' {s with heap:=h'}:=I1.turned (t':=s.toks) (it:=kS) kept pS.2.1 oS.1 oS.2.2.1 oS.2.2.2.1 oS.2.2.2.2;refine⟨H',kvs++[kv],e',I2.pins_of λp hp=>?_,hs,hk.append (.cons k1 .nil),hv.append (.cons k2 .nil)⟩;rcases OJ.mp hp with z | z
 ·exact I2.pin p (Pa _ z)
 ·simp only [Ox,Pc,or_false] at z;rcases z with rfl | rfl
  ·exact⟨hu,pS.2.1,oS.1,oS.2.1,λv z=>by cases z⟩
  ·exact⟨kept _ _ (Ne.symm hne) pD.1,pD.2.1,oD.1,oD.2.1,λv z=>by cases z⟩
theorem BP{k:Nat}{f:VM}{fd:VU}{ps:List Str}{F:List VI->(VI->Prop)->Prop}{O:Ex}{kS D:VM}{e1:Nat}{kd:VI->VI}(Fk:aF X.prog X.w X.K X.mg X.base aK k f fd ps (aQ X.K F))(hr:bp k X.A.in1.in1)(hb:eL X.K fd ps [])(trk:∀l,O l->H l≠none)
 (oS:jV X Xz kS)(oD:jV X Xz D)(hne:kS≠D){body:VJ->PUnit->Sem (ForInStep PUnit)}{E:VJ->VN->Prop}
 (hbo:∀(x:VJ) (s:VN) (Q':VN->Prop),VQ (VS X.prog X.w) X.A.in1.in1 (call (.ref f) [x]) (λk s'=>VQ (VS X.prog X.w) X.A.in1.in1 (Vm (.ref kS) (·.push k)) (λ_ s''=>Q' s'') (λ_ _=>False) s') (λ_ _=>False) s->VQ (VS X.prog X.w) X.A.in1.in1 (body x ⟨⟩) (λr s'=>r= .yield ⟨⟩/\Q' s') E s):
 ∀(r:List VJ)(xr:List V)(dr:List VI)(kds:List VI)(ks:List VJ)(s:VN)(Q:VN->Prop),aI xr r->aq X.K H O xr dr->(∀d∈dr,∀R:VI->Prop,R (kd d)->F [d] R)->jj X Xz σ H O kS D e1 kds ks s->ks.length+r.length < 64->
  (∀ks' s',jj X Xz σ H O kS D e1 (kds++dr.map kd) ks' s'->ks'.length=ks.length+r.length->Q s')->VQ (VS X.prog X.w) X.A.in1.in1 (forIn r PUnit.unit body) (λ_ s'=>Q s') E s
 | [],xr,dr,kds,ks,s,Q,hv,hd,hF,M,hl,q=>by
  cases hv;cases hd;rw [U0];exact VO (q ks s (by rw [PV,Po];exact M) VH)
 | x::r,xr,dr,kds,ks,s,Q,hv,hd,hF,M,hl,q=>by
  cases hv with
  | @cons v _ xr _ h1 h2=>
   cases hd with
   | @cons _ d _ dr g1 g2=>
    rw [UT];rw [OG] at hl;obtain⟨H',kvs,e,I,hs,hk,hvk⟩:=M.ex;refine VL (V8 (hbo x s (λs'=>∃k,jj X Xz σ H O kS D e1 (kds++[kd d]) (ks++[k]) s') (V8 (Kk (Q:=λv2 H2=>au H' H2/\Dt X.K H2 O v2 (kd d)) Fk hr hb I h1 ⟨O,[d],λy=>y=kd d,λl z e=>trk l z (by
     cases q:H l with
     | none=>rfl
     | some u=>rw [hs _ _ q] at e;cases e),.cons (g1.mono hs) .nil,hF d VH _ rfl,λy v2 H2 e s2 r2=>by subst e;exact⟨s2,r2⟩⟩) (λkk s' hq=>?_) λ_ _ z=>z)) (λr' s' hq=>?_) λ_ _ z=>z)
    ·obtain⟨kv,H2,I2,rk,s2,dk⟩:=hq;have pS:=I2.pin (kS,We "list" ks.toArray e) VH;refine Xp pS.1 rfl ⟨kk,?_⟩ (by rw [OC];have:VT=16777216:=Wq;omega) (by rw [Array.size_push,OC];have:VT=16777216:=Wq;omega);have u1:=PF s'.heap kS (P0 (·.push kk));have gk:=get?_update_seq pS.1 (·.push kk);rw [show ks.toArray.push kk=(ks++[kk]).toArray by simp] at gk;exact jj.push oS oD hne I2 (hs.trans s2) (hk.mono s2) hvk dk rk ⟨_,gk⟩ λb u n z=>(u1.2 b n).trans z
    ·obtain⟨rfl,kk,M'⟩:=hq;refine BP Fk hr hb trk oS oD hne hbo r xr dr (kds++[kd d]) (ks++[kk]) s' Q h2 g2 (λy hy=>hF y (by simp [hy])) M' (by simp;omega) λks' s2 M2 l2=>q ks' s2 ?_ (by rw [l2];simp;omega);rw [Ov,<-List.singleton_append,<-Qv];exact M2
def fI(p:Int×Str):VI:= .tuple [.int p.1,.str p.2]
theorem Kl{h:V}{u:VJ}{O:Ex}{p:Int×Str}(I:ae X Xz σ H s)(d:Dt X.K H O h (fI p))(r:aH h u):ji s.heap u p:=by
 obtain⟨a,xs,rfl,hq,hd⟩:=(Sh.dt d).tup;cases r;obtain⟨its,rv,⟨o,e,c,n,dd⟩,_⟩:=I.tuple hq;cases hd with
 | cons g1 g2=>
  cases g2 with
  | cons g2 g3=>
   cases g3;cases g1;cases g2;cases rv with
   | cons r1 r2=>
    cases r2 with
    | cons r2 r3=>
     cases r3;obtain⟨t,rfl⟩:=r1;obtain⟨u,rfl⟩:=r2;exact⟨a,o,n,t,u,rfl,e,c,dd⟩
theorem sW{K:Og}{H:Hp}{O:Ex}:∀{xs:List V}{ds:List VI}{i:Nat}{d:VI},aq K H O xs ds->ds[i]?=some d->∃x,xs[i]?=some x/\Dt K H O x d
 | _,_,0,d,.cons h r,e=>by simp at e;subst e;exact⟨_,rfl,h⟩
 | _,_,i+1,d,.cons h r,e=>by simp only [QR] at e⊢;exact sW r e
theorem BQ{xs:List V}{us:List VJ}:∀{i:Nat}{u:VJ},aI xs us->us[i]?=some u->∃x,xs[i]?=some x/\aH x u:=by
 intro i u h e;have hl:=h.length;have hi:i < us.length:=(Oy.mp e).1;obtain⟨u',e',r⟩:=h.get (show xs[i]?=some (xs[i]'VD) by simp);rw [e] at e';cases e';exact⟨_,VH,r⟩
theorem Km{O:Ex}{kS D:VM}{e1:Nat}{kps:List (Int×Str)}{ks:List VJ}(M:jj X Xz σ H O kS D e1 (kps.map fI) ks s):(∀i v,ks[i]?=some v->ji s.heap v (kps.getD i (0,Oh "")))/\ks.length=kps.length:=by
 obtain⟨H',kvs,e,I,hs,hk,hv⟩:=M.ex;have hl:ks.length=kps.length:=by rw [<-hv.length,hk.length,Oi]
 refine⟨λi v ei=>?_,hl⟩;have hi:i < kps.length:=by rw [<-hl];exact(Oy.mp ei).1
 obtain⟨x,ex,rx⟩:=BQ hv ei;obtain⟨y,ey,dy⟩:=sW (i:=i) (d:=fI kps[i]) hk (by rw [OD,OS hi];rfl);rw [ex] at ey;cases ey;have:kps.getD i (0,Oh "")=kps[i]:=by simp [hi]
 rw [this];exact Kl I dy rx
theorem Kn{k:Nat}{f:VM}{fd:VU}{ps:List Str}{F:List VI->(VI->Prop)->Prop}{O:Ex}{D:VM}{n0:Nat}{kf:VI->Int×Str}{vs:List VJ}{xs:List V}{ds:List VI}{Q:V->Hp->Prop}{C:U5->VN->Prop}{E:VJ->VN->Prop}
 (Fk:aF X.prog X.w X.K X.mg X.base aK k f fd ps (aQ X.K F))(hr:bp k X.A.in1.in1)(hb:eL X.K fd ps [])(trk:∀l,O l->H l≠none)(I:ae X Xz σ H s)(oD:jV X Xz D)(hHD:H D=none)(hD:s.heap.get? D=some (We "list" vs.toArray n0))
 (hv:aI xs vs)(hd:aq X.K H O xs ds)(hF:∀d∈ds,∀R:VI->Prop,R (fI (kf d))->F [d] R)(h64:ds.length < 64)(nd:(ds.map kf).Nodup)
 (q:∀(H':Hp) (xs':List V) (ds':List VI),au H H'->H' D=none->aq X.K H' O xs' ds'->ds'.Perm ds->ds'.Pairwise (λa b=>bz (kf a) (kf b)=true)->Q (.ref D) (av H' D (.lst xs')))
 (fin:∀s',EP X Xz σ Q (.ref D) s'->C (.done (.ret .none)) s'):VQ (VS X.prog X.w) X.A.in1.in1 (ksk_tree D (.ref f) false) C E s:=by
 have hsl:VT=16777216:=Wq;have lv:vs.length=ds.length:=by rw [<-hv.length,hd.length]
 have lD:D < s.heap.objs.size:=OB hD;unfold ksk_tree;refine VL (listItems_at hD rfl (VL (Xp hD rfl ?_ (by rw [OC];omega) (PK _))));have u1:=PF s.heap D (P0 λ_=>(#[]:Array VJ));have g1:=get?_update_seq hD λ_=>(#[]:Array VJ);have I1:ae X Xz σ H {s with heap:=s.heap.update D (P0 λ_=>(#[]:Array VJ))}:=I.turned (t':=s.toks) (it:=D) (λb u n z=>(u1.2 b n).trans z) hHD oD.1 oD.2.2.1 oD.2.2.2.1 oD.2.2.2.2;generalize s.heap.update D (P0 λ_=>(#[]:Array VJ))=h1 at*;generalize (if (#[]:Array VJ).size==vs.toArray.size then n0 else n0+1)=e1 at*;refine VL (seqEpoch_at (s:={s with heap:=h1}) g1 rfl ?_);refine VL (wpAny_newTuple ?_ (by show vs.length<=_;omega));have I2:ae X Xz σ H {s with heap:=h1.push {cls:= .type "tuple",data:= .seq vs.toArray}}:=I1.kept (t':=s.toks) λb u z=>Oo _ z;have g2:(h1.push {cls:= .type "tuple",data:= .seq vs.toArray}).get? D=some (We "list" #[] e1):=Oo _ g1;show VQ _ _ _ _ _ {s with heap:=h1.push {cls:= .type "tuple",data:= .seq vs.toArray}};generalize h1.push {cls:= .type "tuple",data:= .seq vs.toArray}=h2 at*;refine VL (Xo (s:={s with heap:=h2}) ?_ (PK _));have oS:jV X Xz h2.objs.size:=I2.out (Ot _);have hne:h2.objs.size≠D:=RI (OB g2);have I3:ae X Xz σ H {s with heap:=h2.push (We "list" #[] 0)}:=I2.kept (t':=s.toks) λb u z=>Oo _ z;have hS0:H h2.objs.size=none:=I2.hok.fresh (Ot _);have M0:jj X Xz σ H O h2.objs.size D e1 [] [] {s with heap:=h2.push (We "list" #[] 0)}:=by
  refine⟨H,[],0,I3.pins_of λp hp=>?_,au.refl _,.nil,.nil⟩;rcases OJ.mp hp with z | z
  ·exact I3.pin p (Pa _ z)
  ·simp only [Ox,Pc,or_false] at z;rcases z with rfl | rfl
   ·exact⟨OP _ rfl,hS0,oS.1,oS.2.1,λv z=>by cases z⟩
   ·exact⟨Oo _ g2,hHD,oD.1,oD.2.1,λv z=>by cases z⟩
 refine Wa ?_;unfold ksk_rest;refine VL (W7 ?_);rw [List.forIn_toArray];refine VL (BP (kd:=λd=>fI (kf d)) (E:=E) Fk hr hb trk oS oD hne (λx s' Q' hx=>?_) vs xs ds [] [] _ _ hv hd hF M0 (by simp;omega) λks s' M hkl=>?_)
 ·refine VL (W3 (V8 hx (λkk s2 hk=>?_) λ_ _ z=>z.elim));exact VL (V8 hk (λ_ s3 z=>VO ⟨rfl,z⟩) λ_ _ z=>z.elim)
 ·rw [QN,<-Function.comp_def,<-Pl] at M;obtain⟨hk,hkn⟩:=Km M;rw [Oi] at hkn;obtain⟨H',kvs,e,I4,hs,_,_⟩:=M.ex;have pS:=I4.pin (h2.objs.size,We "list" ks.toArray e) VH;have pD:=I4.pin (D,We "list" #[] e1) VH;have I5:ae X Xz σ H' s':=I4.pins_of λp hp=>I4.pin p (by simp only [OJ] at hp⊢;exact .inr (.inl hp));refine VL (listItems_at pS.1 rfl ?_);refine Kj (n:=ds.length) (kp:=λi=>(ds.map kf).getD i (0,Oh "")) lv hkn h64 pS.1 pD.1 hne hk (λi j hi hj ee=>?_) λp pp pu h' c gD kept=>?_
  ·have e1':(ds.map kf).getD i (0,Oh "")=(ds.map kf)[i]'(by simpa using hi):=by simp [hi]
   have e2':(ds.map kf).getD j (0,Oh "")=(ds.map kf)[j]'(by simpa using hj):=by simp [hj]
   rw [e1',e2'] at ee;exact(S5 nd).mp ee
  ·refine fin _ ⟨.ref D,av H' D (.lst (p.toList.map λi=>xs.getD i .non)),?_,rfl,q H' _ (p.toList.map λi=>ds.getD i .none) hs pD.2.1 ?_ ?_ ?_⟩
   ·refine I5.track (t':=s'.toks) (ch:=[h2.objs.size,D]) VH (λb hb=>?_) (λb u hb z=>kept b u (λy=>hb (by simp [y])) (λy=>hb (by simp [y])) z) ⟨?_,_,c,?_,gD⟩
    ·simp only [Ox,Pc,or_false] at hb;rcases hb with rfl | rfl
     ·exact⟨pS.2.1,oS⟩
     ·exact⟨pD.2.1,oD⟩
    ·rw [Oi,OO,pp.size];omega
    ·have:∀l:List Nat,(∀i∈l,i < ds.length)->aI (l.map λi=>xs.getD i .non) (l.map λi=>vs.getD i .none):=by
      intro l
      induction l with
      | nil=>intro _;exact .nil
      | cons a l ih=>
       intro hl;have ha:=hl a VH;refine .cons ?_ (ih λi hi=>hl i (by simp [hi]));obtain⟨x,ex,rx⟩:=BQ hv (show vs[a]?=some (vs[a]'VD) by simp);have e1':xs.getD a .non=x:=by simp [ex]
       have e2':vs.getD a .none=vs[a]'VD:=by simp [show a < vs.length by omega]
       show aH (xs.getD a .non) (vs.getD a .none);rw [e1',e2'];exact rx
     exact this _ λi hi=>by simpa using pp.perm.mem_iff.mp hi
   ·have:∀l:List Nat,(∀i∈l,i < ds.length)->aq X.K H' O (l.map λi=>xs.getD i .non) (l.map λi=>ds.getD i .none):=by
     intro l
     induction l with
     | nil=>intro _;exact .nil
     | cons a l ih=>
      intro hl;have ha:=hl a VH;refine .cons ?_ (ih λi hi=>hl i (by simp [hi]));obtain⟨x,ex,dx⟩:=sW (i:=a) (d:=ds[a]) hd (by simp [ha]);have e1':xs.getD a .non=x:=by simp [ex]
      have e2':ds.getD a .none=ds[a]:=by simp [ha]
      show Dt X.K H' O (xs.getD a .non) (ds.getD a .none);rw [e1',e2'];exact dx.mono hs
    exact this _ λi hi=>by simpa using pp.perm.mem_iff.mp hi
   ·have h1:=pp.perm.map λi=>ds.getD i .none;have e:(Py ds.length).map (λi=>ds.getD i QW)=ds:=by
     apply Sd VH;intro i a b;simp at a b⊢;rw [OS b];rfl
    rw [e] at h1;exact h1
   ·rw [Qf,S0];intro i j hi hj hij;have:=pu i j hij (by rw [OO,pp.size] at hj;exact hj);have ei:p.getD i 0=p.toList[i]:=by simp [SY,show i < p.size by simpa using hi]
    have ej:p.getD j 0=p.toList[j]:=by simp [SY,show j < p.size by simpa using hj]
    rw [ei,ej] at this;have li:p.toList[i] < ds.length:=by simpa using pp.perm.mem_iff.mp (PB hi)
    have lj:p.toList[j] < ds.length:=by simpa using pp.perm.mem_iff.mp (PB hj)
    have ff:∀a,a < ds.length->(ds.map kf).getD a (0,Oh "")=kf (ds.getD a .none):=λa ha=>by simp [ha]
    dsimp only at this;rw [ff _ li,ff _ lj] at this;exact this
theorem Ko{k:Nat}{f l:VM}{fd:VU}{ps:List Str}{F:List VI->(VI->Prop)->Prop}{O:Ex}{kf:VI->Int×Str}{xs:List V}{ds:List VI}{Q:VK}
 (hc:X.calm=true)(Fk:aF X.prog X.w X.K X.mg X.base aK k f fd ps (aQ X.K F))(hr:bp k X.A.in1.in1)(hb:eL X.K fd ps [])(trk:∀l,O l->H l≠none)(I:ae X Xz σ H s)(hq:bf X.K H l xs)
 (hd:aq X.K H O xs ds)(hF:∀d∈ds,∀R:VI->Prop,R (fI (kf d))->F [d] R)(h64:ds.length < 64)(nd:(ds.map kf).Nodup)
 (q:∀(H':Hp) (p:VM) (xs':List V) (ds':List VI),au H H'->H' p=none->aq X.K H' O xs' ds'->ds'.Perm ds->ds'.Pairwise (λa b=>bz (kf a) (kf b)=true)->Q (.ref p) (av H' p (.lst xs'))):
 VQ (VS X.prog X.w) X.A (call (.builtin "sorted") [.ref l] [(Oh "key",.ref f)]) (EP X Xz σ Q) X.xe s:=by
 have hsl:VT=16777216:=Wq;obtain⟨vs,hv,pl,hz⟩:=I.list hq;have lv:vs.length=ds.length:=by rw [<-hv.length,hd.length]
 refine call_function_entry_kw kind_sorted plain_sorted entry_sorted (ksk_s1 _ _) ?_;unfold Builtin.«sorted»;refine VL (m:=checkCount "sorted" 1 1 _) (VO ?_);refine VL (collect_list pl.isList ?_ VD);have I1:ae X Xz σ H {s with heap:=(s.heap.push (We "list" #[] 0)).update s.heap.objs.size (P0 (·++vs.toArray))}:=by
  refine I.kept (t':=s.toks) λb u z=>?_;have hlt:b < s.heap.objs.size:=OB z;exact(Heap.get?_update_ne _ _ _ _ (OX hlt)).trans (Oo _ z)
 generalize (s.heap.push (We "list" #[] 0)).update s.heap.objs.size (P0 (·++vs.toArray))=h1 at*;refine VL (Xo (s:={s with heap:=h1}) ?_ VD);have I2:ae X Xz σ H {s with heap:=h1.push (We "list" vs.toArray 0)}:=I1.kept (t':=s.toks) λb u z=>Oo _ z;have gD:(h1.push (We "list" vs.toArray 0)).get? h1.objs.size=some (We "list" vs.toArray 0):=OP _ rfl;refine VL (Wa (wpAny_call_entry_kw slot_list_sort ⟨_,gD,rfl⟩ entry_list_sort ?_ (ksk_l1 _ _)));rw [ksk_t1];refine Kn (kf:=kf) Fk hr hb trk I2 (I1.out (Ot _)) (I1.hok.fresh (Ot _)) gD hv hd hF h64 nd (Q:=Q) (λH' xs' ds' a b c d e=>q H' _ xs' ds' a b c d e) λs' hs'=>?_;exact⟨_,rfl,VO ⟨_,rfl,hs'⟩⟩
end
section
variable {X:Cx} {H0:Hp} {O0:Ex}
def BR(F:List VI->(VI->Prop)->Prop)(kf:VI->Int×Str)(t:DA):DA:=λδ Q=>t δ λds0=>∃ds,ds0=[.list ds]/\(∀d∈ds,∀R:VI->Prop,R (fI (kf d))->F [d] R)/\ds.length < 64/\(ds.map kf).Nodup/\∀ds',ds'.Perm ds->ds'.Pairwise (λa b=>bz (kf a) (kf b)=true)->Q ds'
theorem Kp{a:VR}{t:DA}{np p gp kp:Pos}{g:Str}{k:Nat}{f:VM}{fd:VU}{ps:List Str}{F:List VI->(VI->Prop)->Prop}(kf:VI->Int×Str)(hc:X.calm=true)(Fk:aF X.prog X.w X.K X.mg X.base aK k f fd ps (aQ X.K F))(hr:bp k X.A.in1.in1)(hb:eL X.K fd ps [])
 (hgg:Gl X g)(hgm:X.mg g=some (.ref f))(hg:Gl X "sorted")(hm:X.mg "sorted"=none)(hv:V3 "sorted"=some (.builtin "sorted"))(ha:PA X [a] (fz X.K H0 O0 t))(hdb:(g==("__debug__":Str))=false:=by decide)
 (he:V6 p (VP [a] X.env)=(false,eval a X.env)::V6 p (VP [] X.env):=by rfl)(hplain:(V6 p (VP [a] X.env)).any (·.1)=false:=by rfl):
 FE X H0 O0 (.Call (.Name "sorted" np) [a] [⟨some "key",.Name g gp,kp⟩] p) (BR F kf t):=by
 intro Xz s σ H Q I h;obtain⟨O,δ,Qd,w,q,kk⟩:=h;refine Ws (ke I hg hm hv ?_);refine callWith_kw (az (ha p Xz s σ H (λvs H1=>∃ds0,au H H1/\kC X.K H1 O vs ds0/\∃ds,ds0=[.list ds]/\(∀d∈ds,∀R:VI->Prop,R (fI (kf d))->F [d] R)/\ds.length < 64/\(ds.map kf).Nodup/\∀ds',ds'.Perm ds->ds'.Pairwise (λa b=>bz (kf a) (kf b)=true)->Qd ds') I ⟨O,δ,_,w,q,λds0 vs H1 q1 s1 r1=>⟨ds0,s1,r1,q1⟩⟩) λus s1 hus=>?_) he hplain rfl rfl;obtain⟨vs,H1,I1,rv,ds0,s1',r1,ds,e,hF,h64,nd,q1⟩:=hus;subst e;refine kws_cons (kc I1 hgg hgm (kws_nil ?_) hdb);cases r1 with
 | cons h r=>
  cases r;obtain⟨ad,xs,rfl,hq,hd⟩:=h.lst;obtain⟨u,rfl,rx⟩:=dj rv;cases rx;exact Ko (kf:=kf) hc Fk hr hb (w.mono s1').trk I1 hq hd hF h64 nd λH' l xs' ds' a b c d e=>kk _ _ _ _ (q1 ds' d e) (s1'.trans a) b c
end
section
open PySem.SeqAt
open PySem.AutoSeq1 (wpAny_loadPart')
open PySem.MeetsSeq PySem.MeetsSeq2 PySem.MeetsSeq3
theorem Kq(l b:VM)(n n2:Nat)(dd dd2:Option VM)(sl sl2:Array (Option VJ))(p q:Int×Str)(t1 t2 t3 t4:Tok):
 Meets (Builtin.«tuple.__lt__» ⟨[.ref l,.ref b],[]⟩)
  (λ_ R s=>s.heap.get? l=some {cls:= .type "tuple",dict:=dd,data:= .seq #[.int p.1 t1,.str p.2 t2] n,slots:=sl}/\s.heap.get? b=some {cls:= .type "tuple",dict:=dd2,data:= .seq #[.int q.1 t3,.str q.2 t4] n2,slots:=sl2}/\
   R (.ok (.ret (.bool (bz p q)))) s):=
 .of_wp λprog w A R s h=>by
  obtain⟨hp,g,d,tk,os⟩:=s;obtain⟨hl,hb,h⟩:=h;have f2:=AutoSeq1.sub_tuple_tuple
  wp_walk using Wj hl,Wj hb,wpAny_forIn_list _ (λrest b s'=>b.1=none/\s'=⟨hp,g,d,tk,os⟩/\(rest=[(QX p.1 t1,QX q.1 t3),(Qm p.2 t2,Qm q.2 t4)]\/(rest=[(Qm p.2 t2,Qm q.2 t4)]/\p.1=q.1)\/(rest=[]/\p.1=q.1/\p.2=q.2))) _
  case turn=>
   rintro⟨y,x⟩ rest b s' ⟨hb',rfl,h3⟩;rcases h3 with h3 | ⟨h3,e1⟩ | ⟨h3,_⟩
   ·injection h3 with hyx hrest
    injection hyx with hy hx
    subst hy hx;obtain⟨e,he,hiff⟩:=HT.eqAt_int A.in1 ⟨hp,g,d,tk,os⟩ p.1 t1 q.1 t3;refine VL (he prog w _ _ ?_);cases e with
    | true=>
     wp_walk
     exact⟨rfl,rfl,.inr (.inl ⟨hrest,hiff.mp rfl⟩)⟩
    | false=>
     have ne:p.1≠q.1:=λz=>absurd (hiff.mpr z) O6;have hri:=HT.rcLt_int A.in1 ⟨hp,g,d,tk,os⟩ p.1 t1 q.1 t3 prog w;have hv:bz p q=decide (p.1 < q.1):=by unfold bz;simp [ne]
     rw [hv] at h
     wp_walk using hri
     exact⟨_,rfl,by simpa using h⟩
   ·injection h3 with hyx hrest
    injection hyx with hy hx
    subst hy hx;have he:=EqAt.str_str (A:=A.in1) (s:=⟨hp,g,d,tk,os⟩) p.2 t2 q.2 t4;refine VL (he prog w _ _ ?_);cases e:(p.2==q.2) with
    | true=>
     wp_walk
     exact⟨rfl,rfl,.inr (.inr ⟨hrest,e1,eq_of_beq e⟩)⟩
    | false=>
     have hri:∀(E:VJ->VN->Prop)(Q:VJ->VN->Prop),Q (.bool (decide (p.2.cps.toList < q.2.cps.toList))) ⟨hp,g,d,tk,os⟩->VQ (VS prog w) A.in1 (richCompare .Lt (.str p.2 t2) (.str q.2 t4)) Q E ⟨hp,g,d,tk,os⟩:=λE Q z=>(lt_str z:VQ (VS prog w) A.in1 (V2 .Lt (.str p.2 t2) (.str q.2 t4)) Q E _);have hv:bz p q=decide (p.2.cps.toList < q.2.cps.toList):=by unfold bz;simp [e1]
     rw [hv] at h
     wp_walk using hri
     exact⟨_,rfl,by simpa using h⟩
   ·cases h3
  case fin=>
   rintro⟨b1,b2⟩ s' ⟨hb',rfl,h3⟩;simp only at hb';subst hb';rcases h3 with h3 | ⟨h3,e1⟩ | ⟨h3,e1,e2⟩
   ·cases h3
   ·cases h3
   ·have hv:bz p q=false:=by unfold bz;rw [e1,e2];simp
    rw [hv] at h
    wp_walk
    exact⟨_,rfl,by simpa [Builtin.Tuple.tupleCompareSizes] using h⟩
  case h=>
   exact⟨rfl,rfl,.inl rfl⟩
end
def BS(K:Og):R2:=λx y H Q=>∃a b p q,x= .ref a/\y= .ref b/\br K H a [.int p.1,.str p.2]/\br K H b [.int q.1,.str q.2]/\Q (.bl (bz p q)) H
theorem Kr{X:Cx}(hu:X.A.units < V9):bq X (V2 .Lt) (BS X.K):=by
 intro Xz s σ H x y v u Q I rx ry h;obtain⟨a,b,p,q,rfl,rfl,ha,hb,z⟩:=h;cases rx;cases ry;obtain⟨its,r1,⟨⟨c1,d1,da1,s1⟩,o1,k1,n1,e1⟩,_⟩:=I.tuple ha;obtain⟨its2,r2,⟨⟨c2,d2,da2,s2⟩,o2,k2,n2,e2⟩,_⟩:=I.tuple hb;simp only at k1 e1 k2 e2;subst k1 e1 k2 e2;cases r1 with
 | cons x1 r1=>
  cases r1 with
  | cons x2 r1=>
   cases r1;obtain⟨t1,rfl⟩:=x1;obtain⟨t2,rfl⟩:=x2;cases r2 with
   | cons y1 r2=>
    cases r2 with
    | cons y2 r2=>
     cases r2;obtain⟨t3,rfl⟩:=y1;obtain⟨t4,rfl⟩:=y2;exact richCompare_meets_room (op:= .Lt) ⟨_,o1,rfl⟩ ⟨_,o2,rfl⟩ PySem.F.slot_tuple_lt PySem.F.entry_tuple_lt (PySem.F.args_tuple_lt_2 _ _) (Kq a b n1 n2 d1 d2 s1 s2 p q t1 t2 t3 t4) ⟨o1,o2,(λx=>nomatch x),.bl (bz p q),H,I,rfl,z⟩ hu
def BU:VI->VI->(VI->Prop)->Prop:=λx y Q=>∃p q:Int×Str,x=fI p/\y=fI q/\Q (.bool (bz p q))
theorem Ks{K:Og}:bN K (BS K) BU:=λH O x y dx dy Qd R _ hx hy uu50 k=>by
 obtain⟨p,q,e1,e2,z⟩:=uu50;subst e1 e2;obtain⟨a,xs,rfl,h1,g1⟩:=hx.tup;obtain⟨b,ys,rfl,h2,g2⟩:=hy.tup;cases g1 with
 | cons x1 g1=>
  cases g1 with
  | cons x2 g1=>
   cases g1;cases x1;cases x2;cases g2 with
   | cons y1 g2=>
    cases g2 with
    | cons y2 g2=>
     cases g2;cases y1;cases y2;exact⟨a,b,p,q,rfl,rfl,h1,h2,k _ _ H z (au.refl _) (.bl _)⟩
section
variable {X:Cx} {H0:Hp} {O0:Ex}
def Kt(tc:DB)(tb:DS):DS:=λE δ=>∃W:Nat->Dl->Prop,(∃m,W m δ)/\∀m δ,W m δ->tc δ λb=>if b=true then tb {E with nx:=λδ'=>∃m',m' < m/\W m' δ',ct:=λδ'=>∃m',m' < m/\W m' δ',bk:=E.nx} δ else E.nx δ
theorem sX{c:VR}{body:List V0}{tc:DB}{tb:DS}{pos:Pos}(hp:WO (VS X.prog X.w) X.A X.env X.xe)(hc:PT X c (bP X.K H0 O0 tc))(hb:bD X body (bw X.K H0 O0 tb)):PS X (.While c body [] pos) (bw X.K H0 O0 (Kt tc tb)):=
 (Fe hp hc hb).imp λD σ H uu51=>by
  obtain⟨O,δ,E,w,⟨W,⟨m0,w0⟩,st⟩,k1,k2,k3,k4⟩:=uu51;refine⟨λm σ' H'=>∃O' δ',Wd X.K H0 O0 H' O' σ' δ'/\aY H H' O O'/\W m δ',⟨m0,O,δ,w,aY.refl _ _,w0⟩,λm σ1 H1 ⟨O1,δ1,w1,S1,q1⟩=>⟨O1,δ1,_,w1,st m δ1 q1,λb H2 q2 s2=>?_⟩⟩;cases b with
  | false=>
   rw [VE VH] at q2⊢;exact k1 O1 δ1 σ1 H2 q2 (w1.mono s2) (S1.trans (.same s2))
  | true=>
   rw [VF rfl] at q2⊢;refine⟨λσ' H'=>∃O' δ' m',m' < m/\Wd X.K H0 O0 H' O' σ' δ'/\aY H H' O O'/\W m' δ',λσ' H' uu53=>by obtain⟨O',δ',m',lt,w',S',q'⟩:=uu53;exact⟨m',lt,O',δ',w',S',q'⟩,O1,δ1,_,w1.mono s2,q2,?_,k2,?_,?_⟩
   ·rintro O' δ' σ' H' ⟨m',lt,q'⟩ w' S';exact⟨O',δ',m',lt,w',S1.trans ((aY.same s2).trans S'),q'⟩
   ·intro O' δ' σ' H' q' w' S';exact k1 O' δ' σ' H' q' w' (S1.trans ((aY.same s2).trans S'))
   ·rintro O' δ' σ' H' ⟨m',lt,q'⟩ w' S';exact⟨O',δ',m',lt,w',S1.trans ((aY.same s2).trans S'),q'⟩
theorem bu.vals{K:Og}{H:Hp}{O:Ex}{kv:List (ak×V)}{kd:List (ak×VI)}(h:bu K H O kv kd):aq K H O (kv.map (·.2)) (kd.map (·.2)):=by
 induction h with
 | nil=>exact .nil
 | cons a _ ih=>exact .cons a ih
abbrev jk(ks:List Str)(ds:List VI):VI:=wt (ks.map .str) ds
def BV(i:Nat)(t:DS):DS:=λE δ=>∃kd,δ[i]?=some (some (.k kd))/\∃ks:List Str,kd.map (·.1)=ks.map PM/\t E (δ.set i (some (.v (jk ks (kd.map (·.2))))))
theorem c5.z{H:Hp}{a:VM}{ob:Obj}{kvs:List (ak×V)}{k:ak}(e:H a=some (.frz ob (.dK kvs))):c5 H a (kV k) (cJ kvs k):= .inl ⟨kvs,k,.inr ⟨ob,e⟩,rfl,rfl⟩
theorem ae.fast{X:Cx}{Xz:List (VM×Obj)}{σ:St}{H:Hp}{s:VN}(I:ae X Xz σ H s){a:VM}{kv:List (ak×V)}(ha:H a=some (.dK kv)):∃o,ae X Xz σ (av H a (.frz o (.dK kv))) s:=by
 obtain⟨z,hd,vs,rel,o,es,ep,g,r1,r2,r3⟩:=I.hok a _ ha;exact⟨o,I.write (x:=a) (e:=a) (o:= .frz o (.dK kv)) (h':=s.heap) (t':=s.toks) (by rw [ha];exact P1) (.inl rfl) (λ_ _ _ q=>q) ⟨o,g⟩ ⟨g,z,hd,vs,rel,o,es,ep,g,r1,r2,r3⟩⟩
theorem Ku{st:V0}{t:TS}(h:PS X st t)(i:Nat):PS X st (λD σ H=>∃a kv,σ[i]?=some (some (.ref a))/\H a=some (.dK kv)/\∀o,t D σ (av H a (.frz o (.dK kv)))):=by
 intro Xz s σ H D I q;obtain⟨a,kv,_,ha,q⟩:=q;obtain⟨o,I2⟩:=I.fast ha;exact h Xz s σ _ D I2 (q o)
theorem Wd.tell{K:Og}{H0 H:Hp}{O0 O:Ex}{σ:St}{δ:Dl}(w:Wd K H0 O0 H O σ δ){i:Nat}{v:V}{d:VI}(h:σ[i]?=some (some v))(hd:Dt K H O v d):Wd K H0 O0 H O σ (δ.set i (some (.v d))):=by
 have li:i < δ.length:=by rw [<-w.len];exact(Oy.mp h).1
 have ne:∀{j:Nat}{y:Sl},(δ.set i (some (.v d)))[j]?=some (some y)->y.own->j≠i:=λ{j y} q hy z=>by
  subst z;rw [Pb li] at q;cases q;exact hy
 refine⟨w.same,w.sub,w.new,w.trk,by simp [w.len],λj y q=>?_,λj k y z l' e1 y1 e2 z2 e3 e4=>?_⟩
 ·by_cases hj:j=i
  ·subst hj;rw [Pb li] at q;cases q;exact⟨v,by rw [h];rfl,hd⟩
  ·rw [OY (Ne.symm hj)] at q;exact w.sl j y q
 ·have n1:=ne e1 y1;have n2:=ne e2 z2;rw [OY (Ne.symm n1)] at e1;rw [OY (Ne.symm n2)] at e2;exact w.dis j k _ _ l' e1 y1 e2 z2 e3 e4
theorem BW(i:Nat){st:V0}{t:DS}(h:PS X st (bw X.K H0 O0 t)):PS X st (bw X.K H0 O0 (BV i t)):=
 (Ku h i).imp λD σ H uu54=>by
  obtain⟨O,δ,E,w,⟨kd,e,ks,ek,q⟩,k1,k2,k3,k4⟩:=uu54;obtain⟨l,kv,h,a,b,c,r⟩:=w.ownK e;refine⟨l,kv,h,c,λo=>?_⟩;obtain⟨O',w',S,n⟩:=w.frzK (y0:= .k kd) e trivial h (.frz o (.dK kv));have w2:=w'.tell (d:=jk ks (kd.map (·.2))) h (.dic bb (by rw [r.keys];exact ek) rfl n (r.vals.step S));rw [List.set_set] at w2;exact⟨O',_,E,w2,q,λO2 δ2 σ2 H2 z2 w2 S2=>k1 O2 δ2 σ2 H2 z2 w2 (S.trans S2),k2,λO2 δ2 σ2 H2 z2 w2 S2=>k3 O2 δ2 σ2 H2 z2 w2 (S.trans S2),λO2 δ2 σ2 H2 z2 w2 S2=>k4 O2 δ2 σ2 H2 z2 w2 (S.trans S2)⟩
theorem kU:∀{a b:List Str},a.map Ol=b.map Ol->a=b
 | [],[],_=>rfl
 | [],_::_,h=>by cases h
 | _::_,[],h=>by cases h
 | x::a,y::b,h=>by
  simp only [Ov,PH,Qi] at h;rw [h.1,kU h.2]
def dY:List Str->List VI->Str->Option VI
 | k::ks,d::ds,z=>if k=z then some d else dY ks ds z
 | _,_,_=>none
theorem sY{K:Og}{H:Hp}{O:Ex}{z:Str}{d:VI}:∀{kv:List (ak×V)}{ks:List Str}{ds:List VI},kv.map (·.1)=ks.map PM->aq K H O (kv.map (·.2)) ds->dY ks ds z=some d->∃v,cJ kv (.inr z)=some v/\Dt K H O v d
 | [],[],ds,_,_,e=>by unfold dY at e;cases e
 | [],_::_,ds,h,_,_=>by cases h
 | _::_,[],ds,h,_,_=>by cases h
 | p::kv,k::ks,ds,h,hd,e=>by
  rw [Ov] at hd;cases hd with
  | cons h1 h2=>
   simp only [Ov,PH] at h;obtain⟨p1,p2⟩:=p;obtain⟨rfl,h⟩:=h;unfold dY at e;by_cases hk:k=z
   ·rw [VF hk] at e;cases e;exact⟨p2,l6 (by rw [hk]),h1⟩
   ·rw [VE hk] at e;obtain⟨v,a,b⟩:=sY h h2 e;exact⟨v,by rw [kK (λq=>hk (mC.mp q))];exact a,b⟩
def BX(to tk:DT):DT:=λδ Q=>to δ λx=>∃ks ds,x=jk ks ds/\tk δ λy=>∃z,y= .str z/\∃d,dY ks ds z=some d/\Q d
theorem mG{o e:VR}{to tk:DT}{pos:Pos}(hu:X.A.units+64 < V9)(ho:DE X H0 O0 o to)(he:DE X H0 O0 e tk)(hs:oI e):DE X H0 O0 (.Subscript o e pos) (BX to tk):=
 (Af VD ho he hs).imp λσ H Q uu55=>by
  obtain⟨O,δ,Qd,w,q,k⟩:=uu55;refine⟨O,δ,_,w,q,λx vx H1 ⟨ks,ds,ex,q1⟩ s1 r1=>?_⟩;subst ex;refine⟨O,δ,_,w.mono s1,q1,λy vy H2 ⟨z,ey,d,ed,q2⟩ s2 r2=>?_⟩;subst ey;cases r2;cases r1 with
  | @dic a ob kv ks' kp ds h e1 e2 n rr=>
   have ek:ks'=ks:=by
    have:ks'.map Ol=ks.map Ol:=e2.symm;exact kU this
   subst ek;obtain⟨v,hv,dv⟩:=sY e1 rr ed;exact⟨a,v,rfl,by rw [<-hv];exact c5.z (k:= .inr z) (s2 _ _ h),k _ _ _ q2 (s1.trans s2) (dv.mono s2)⟩
def BY(t:DT)(g:DG)(tc:DB)(te:DT)(k:Nat)(fr:List Nat):DA:=λδ Q=>oA t g tc te k fr δ Q\/oB t g tc te k fr δ Q
theorem Kv{N':List Str}{k:Nat}{fr:List Nat}{scope:Wc}{iter elt tg:VR}{ifs:List VR}{t te:DT}{tc:DB}{g:TG}{dg:DG}{pos:Pos}(hc:X.calm=true)(S:bt X.env.scope X.N N' k fr scope)(hi:DF X H0 O0 iter t)(gd:GD X.K g dg)(hk:iF g k)(hfr:fr.Nodup)
 (hg:∀fp C s H,PG (bE X scope N' fp C s H) tg g)(hf:∀fp C s H,d5 (bE X scope N' fp C s H) ifs (bP X.K H0 O0 tc))(he:∀fp C s H,PE (bE X scope N' fp C s H) elt (up X.K H0 O0 te))
 (hs:∀x,V5 iter X.env x=pure x:=by intro _;rfl):FE X H0 O0 (.ListComp elt [⟨tg,iter,ifs,0⟩] scope pos) (BY t dg tc te k fr):=by
 intro Xz s σ H Q I h;obtain⟨O,δ,Qd,w,q,kk⟩:=h;rcases q with q | q
 ·exact g9 hc S hi gd hk hfr hg hf he hs Xz s σ H Q I ⟨O,δ,Qd,w,q,kk⟩
 ·exact kH hc S hi gd hk hfr hg hf he hs Xz s σ H Q I ⟨O,δ,Qd,w,q,kk⟩
theorem fJ{T:String}{a c:VR}{t:DT}{np p:Pos}{K':Og}(hK:X.K=K')(hg:Gl X "isinstance")(hm:X.mg "isinstance"=none)(hv:V3 "isinstance"=some (.builtin "isinstance"))(ha:DF X H0 O0 a t)(hc:PE X c (tC (.ty T)))
 (hs:VP [a,c] X.env=(false,eval a X.env)::VP [c] X.env:=by rfl)(hs2:VP [c] X.env=[(false,eval c X.env)]:=by rfl)(hb:(V6 p (VP [c] X.env)).any (·.1)=false:=by rfl):DE X H0 O0 (.Call (.Name "isinstance" np) [a,c] [] p) (rR K' T t):=by
 subst hK;exact He hg hm hv ha hc hs hs2 hb
end
def BZ(K:Og):R2:=λx y H Q=>∃a b xs ys,x= .ref a/\y= .ref b/\br K H a xs/\br K H b ys/\xs.length+ys.length<=VT/\(xs=[]->Q (.ref b) H)/\(xs≠[]->qY K x y H Q)
theorem B0{X:Cx}:bq X (Wn .Add) (BZ X.K):=by
 intro Xz s σ H x y v u Q I rx ry h;obtain⟨a,b,xs,ys,rfl,rfl,ha,hb,hz,q0,q1⟩:=h;by_cases hx:xs=[]
 ·subst hx;cases rx;cases ry;obtain⟨its,r1,⟨⟨c1,d1,da1,s1⟩,o1,k1,n1,e1⟩,_⟩:=I.tuple ha;obtain⟨its2,r2,⟨⟨c2,d2,da2,s2⟩,o2,k2,n2,e2⟩,_⟩:=I.tuple hb;simp only at k1 e1 k2 e2;subst k1 e1 k2 e2;cases r1;exact concat_meets ⟨_,o1,rfl⟩ ⟨_,o2,rfl⟩ Xt seq_tuple_add R3 RR (RJ _ _)
   (tuple_addW0 a b _ its2.toArray n1 n2 d1 d2 s1 s2 VH) ⟨o1,o2,.ref b,H,I,rfl,q0 rfl⟩
 ·exact FT Xz s σ H _ _ v u Q I rx ry (q1 hx)
def B1:VI->VI->(VI->Prop)->Prop:=λx y Q=>∃xs ys,x= .tuple xs/\y= .tuple ys/\xs.length+ys.length<=VT/\Q (.tuple (xs++ys))
theorem B2{K:Og}:bN K (BZ K) B1:=λH O x y dx dy Qd R tr hx hy uu58 k=>by
 obtain⟨xs,ys,e1,e2,hz,q⟩:=uu58;subst e1 e2;have hx0:=hx;have hy0:=hy;obtain⟨a,vs,rfl,h1,d1⟩:=hx.tup;obtain⟨b,us,rfl,h2,d2⟩:=hy.tup;refine⟨a,b,vs,us,rfl,rfl,h1,h2,by rw [d1.length,d2.length];exact hz,λz=>?_,λz=>?_⟩
 ·subst z;cases d1;rw [QN] at q;cases hy0 with
  | dt hy0=>exact k _ _ H q (au.refl _) hy0
 ·exact Ha H O _ _ _ _ Qd R tr hx0 hy0 ⟨xs,ys,rfl,rfl,λe=>z (by subst e;cases d1;rfl),hz,q⟩ k
def B3:List VI->(VI->Prop)->Prop:=λds Q=>∃ns:List Int,ds=[.list (ns.map .int)]/\Q (.int ns.sum)
theorem Kw{K:Og}:iE K (λxs H Q=>∃(a:VM)(ns:List Int),xs=[.ref a]/\bf K H a (ns.map V.int)/\Q (.int ns.sum) H) B3:=λH O xs ds Qd R tr hs uu59 k=>by
 obtain⟨ns,e,q⟩:=uu59;subst e;cases hs with
 | cons h r=>
  cases r;obtain⟨a,vs,rfl,h1,d1⟩:=h.lst;cases d1.intsL;exact⟨a,ns,rfl,h1,k _ _ H q (au.refl _) (.int _)⟩
section
variable {X:Cx} {H0:Hp} {O0:Ex}
theorem aq.rep{K:Og}{H:Hp}{O:Ex}{vs:List V}{ds:List VI}(h:aq K H O vs ds):∀n:Nat,aq K H O (OQ n vs).flatten (OQ n ds).flatten
 | 0=>.nil
 | n+1=>by rw [Qz,Qz,Q7,Q7];exact h.append (aq.rep h n)
end
end L2
namespace Day
def jl(y:Int):Bool:=decide (y % 400=0) || (decide (y % 4=0) && !decide (y % 100=0))
def ld(y:Int):Int:=if jl y=true then 1 else 0
def B4:List Int:=[31,28,31,30,31,30,31,31,30,31,30,31]
def bF(y m:Int):Int:=if m=2/\jl y=true then 29 else B4.getD (m - 1).toNat 0
def lb(y:Int):Int:=(y - 1)/ 4 - (y - 1)/ 100+(y - 1)/ 400
def jW(y:Int):Int:=365*(y - 2000)+lb y - lb 2000
def aW(y m:Int):Int:=((Py (m - 1).toNat).map λ(i:Nat)=>bF y (1+(i:Int))).sum
def mH(y m n:Int):Int:=jW y+aW y m+n - 1
theorem B5(y:Int):0<=ld y/\ld y<=1:=by unfold ld;split <;> omega
theorem sZ(y:Int):jl y=true↔(y % 400=0\/(y % 4=0/\y % 100≠0)):=by
 unfold jl;simp
theorem pe(y:Int):bF y 2=28+ld y:=by
 unfold bF ld;by_cases h:jl y=true
 ·rw [VF ⟨rfl,h⟩,VF h];rfl
 ·rw [VE (λz=>h z.2),VE h];rfl
theorem B6{y m:Int}(h:m≠2):bF y m=B4.getD (m - 1).toNat 0:=by
 unfold bF;rw [VE (λz=>h z.1)]
theorem tj(y:Int):bF y 1=31/\bF y 3=31/\bF y 4=30/\bF y 5=31/\bF y 6=30/\bF y 7=31/\bF y 8=31/\bF y 9=30/\bF y 10=31/\bF y 11=30/\bF y 12=31:=by
 refine⟨?_,?_,?_,?_,?_,?_,?_,?_,?_,?_,?_⟩ <;> (rw [B6 VC];rfl)
theorem tm{m:Int}(h1:1<=m)(h2:m<=12):m=1\/m=2\/m=3\/m=4\/m=5\/m=6\/m=7\/m=8\/m=9\/m=10\/m=11\/m=12:=by
 obtain⟨k,e⟩:=P8 (show 0<=m - 1 by omega);have e:m=(k:Int)+1:=VD
 have hk:k < 12:=VD
 have key:∀k:Fin 12,((k.1:Nat):Int)+1=1\/((k.1:Nat):Int)+1=2\/((k.1:Nat):Int)+1=3\/((k.1:Nat):Int)+1=4\/((k.1:Nat):Int)+1=5\/((k.1:Nat):Int)+1=6\/((k.1:Nat):Int)+1=7\/((k.1:Nat):Int)+1=8\/((k.1:Nat):Int)+1=9\/((k.1:Nat):Int)+1=10\/((k.1:Nat):Int)+1=11\/((k.1:Nat):Int)+1=12:=Ce
 rw [e];exact key ⟨k,hk⟩
theorem B7{y m:Int}(h1:1<=m)(h2:m<=12):28<=bF y m/\bF y m<=31:=by
 obtain⟨m1,m3,m4,m5,m6,m7,m8,m9,m10,m11,m12⟩:=tj y;have m2:28<=bF y 2/\bF y 2<=31:=by
  have:=B5 y;rw [pe];clear m1 m3 m4 m5 m6 m7 m8 m9 m10 m11 m12 h1 h2;omega
 have k:∀{z:Int},z=31\/z=30->28<=z/\z<=31:=λh=>by rcases h with h | h <;> rw [h] <;> decide
 rcases tm h1 h2 with h | h | h | h | h | h | h | h | h | h | h | h <;> subst h
 ·exact k (.inl m1)
 ·exact m2
 ·exact k (.inl m3)
 ·exact k (.inr m4)
 ·exact k (.inl m5)
 ·exact k (.inr m6)
 ·exact k (.inl m7)
 ·exact k (.inl m8)
 ·exact k (.inr m9)
 ·exact k (.inl m10)
 ·exact k (.inr m11)
 ·exact k (.inl m12)
theorem Kx(y:Int):aW y 1=0:=rfl
theorem fi{y m:Int}(h:1<=m):aW y (m+1)=aW y m+bF y m:=by
 unfold aW;have e:(m+1 - 1).toNat=(m - 1).toNat+1:=VD
 rw [e,Rm,O9,List.sum_append];have e2:(1:Int)+(((m - 1).toNat:Nat):Int)=m:=VD
 simp only [Ov,PV,Va,List.sum_nil,e2];omega
theorem Ky{a b c:Int}(l:Int)(h:a+b=c):a+(b+l)=c+l:=VD
theorem ic{a b c:Int}(l:Int)(h:a+b=c):a+l+b=c+l:=VD
theorem B8(y:Int):aW y 1=0/\aW y 2=31/\aW y 3=59+ld y/\aW y 4=90+ld y/\aW y 5=120+ld y/\aW y 6=151+ld y/\aW y 7=181+ld y/\aW y 8=212+ld y/\aW y 9=243+ld y/\aW y 10=273+ld y/\aW y 11=304+ld y/\aW y 12=334+ld y/\aW y 13=365+ld y:=by
 obtain⟨m1,m3,m4,m5,m6,m7,m8,m9,m10,m11,m12⟩:=tj y;have e2:aW y 2=31:=by rw [show aW y 2=aW y 1+bF y 1 from fi (m:=1) VC,m1];rfl
 have e3:aW y 3=59+ld y:=by rw [show aW y 3=aW y 2+bF y 2 from fi (m:=2) VC,e2,pe];exact Ky _ rfl
 have e4:aW y 4=90+ld y:=by rw [show aW y 4=aW y 3+bF y 3 from fi (m:=3) VC,e3,m3];exact ic _ rfl
 have e5:aW y 5=120+ld y:=by rw [show aW y 5=aW y 4+bF y 4 from fi (m:=4) VC,e4,m4];exact ic _ rfl
 have e6:aW y 6=151+ld y:=by rw [show aW y 6=aW y 5+bF y 5 from fi (m:=5) VC,e5,m5];exact ic _ rfl
 have e7:aW y 7=181+ld y:=by rw [show aW y 7=aW y 6+bF y 6 from fi (m:=6) VC,e6,m6];exact ic _ rfl
 have e8:aW y 8=212+ld y:=by rw [show aW y 8=aW y 7+bF y 7 from fi (m:=7) VC,e7,m7];exact ic _ rfl
 have e9:aW y 9=243+ld y:=by rw [show aW y 9=aW y 8+bF y 8 from fi (m:=8) VC,e8,m8];exact ic _ rfl
 have e10:aW y 10=273+ld y:=by rw [show aW y 10=aW y 9+bF y 9 from fi (m:=9) VC,e9,m9];exact ic _ rfl
 have e11:aW y 11=304+ld y:=by rw [show aW y 11=aW y 10+bF y 10 from fi (m:=10) VC,e10,m10];exact ic _ rfl
 have e12:aW y 12=334+ld y:=by rw [show aW y 12=aW y 11+bF y 11 from fi (m:=11) VC,e11,m11];exact ic _ rfl
 have e13:aW y 13=365+ld y:=by rw [show aW y 13=aW y 12+bF y 12 from fi (m:=12) VC,e12,m12];exact ic _ rfl
 exact⟨Kx y,e2,e3,e4,e5,e6,e7,e8,e9,e10,e11,e12,e13⟩
theorem B9{y m:Int}(h1:1<=m):∀k:Nat,m+k<=13->aW y m<=aW y (m+k)
 | 0,_=>by simp
 | k+1,h=>by
  have ih:=B9 (y:=y) h1 k VD;have e:m+((k+1:Nat):Int)=(m+k)+1:=VD
  rw [e,fi VD];have:=B7 (y:=y) (m:=m+k) VD VD;omega
theorem Ca{y m m':Int}(h1:1<=m)(h2:m<=m')(h3:m'<=13):aW y m<=aW y m':=by
 have:=B9 (y:=y) h1 (m' - m).toNat VD;rw [show m+(((m' - m).toNat:Nat):Int)=m' by omega] at this;exact this
theorem Kz{y m:Int}(h1:1<=m)(h2:m<=12):0<=aW y m/\aW y m+bF y m<=365+ld y:=by
 have a:=Ca (y:=y) (m:=1) (m':=m) VC h1 VD;have b:=Ca (y:=y) (m:=m+1) (m':=13) VD VD VC;rw [fi h1] at b;have c:=(B8 y).1;have e:=(B8 y).2.2.2.2.2.2.2.2.2.2.2.2;omega
theorem length_eq(y m:Int)(h1:1<=m)(h2:m<=12):(if m=2/\(y % 4≠0\/(y % 100=0/\y % 400≠0)) then(28:Int) else [31,29,31,30,31,30,31,31,30,31,30,31].getD (m - 1).toNat 0)=bF y m:=by
 by_cases h:m=2
 ·subst h;rw [pe];unfold ld;by_cases l:jl y=true
  ·rw [VF l,VE (by have:=(sZ y).mp l;omega)];rfl
  ·rw [VE l,VF (by have:=mt (sZ y).mpr l;omega)];rfl
 ·rw [B6 h,VE (λz=>h z.1)];rcases tm h1 h2 with z | z | z | z | z | z | z | z | z | z | z | z <;> subst z <;> first | rfl | exact absurd rfl h
def fst(M:Int):Int:=mH (M / 12) (M % 12+1) 1
def Dn(M n:Int):Int:=fst M+n - 1
end Day
namespace L2
open PySem PySem.Spec PyProof.Rows PySem.W
def d2(m:Nat):List Nat:=[48+m / 10,48+m % 10]
section
variable {X:Cx} {H0:Hp} {O0:Ex}
def Cb(t:DA)(u:DT):DA:=λδ Q=>t δ λds=>ds.length<=1000/\u δ λy=>∃i:Int,y= .int i/\0<=i/\i<=1000/\Q (OQ i.toNat ds).flatten
theorem KA{e f:VR}{t:DA}{u:DT}{pos:Pos}(h:FE X H0 O0 e t)(hf:DE X H0 O0 f u):FE X H0 O0 (.BinOp e .Mult f pos) (Cb t u):=
 (eY Ga h hf).imp λσ H Q ⟨O,δ,Qd,w,q,k⟩=>⟨O,δ,_,w,q,λds vs p H1 q1 s1 hp r1=>⟨O,δ,_,w.mono (s1.trans (au.new hp)),q1.2,λy v H2 uu61 s2 r2=>by
  obtain⟨i,e,i0,i1,q2⟩:=uu61;subst e;cases r2;refine⟨p,i,vs,rfl,rfl,s2 _ _ bb,VD,VD,?_,λp' hp'=>k _ _ p' _ q2 ((s1.trans (au.new hp)).trans s2) hp' ((r1.rep i.toNat).mono ((au.new hp).trans s2))⟩;have h1:=r1.length;have h2:(VT:Nat)=16777216:=VC
  have h3:=q1.1;have h4:vs.length*i.toNat<=1000*1000:=Nat.mul_le_mul VD VD;omega⟩⟩
end
open PySem PySem.Spec PyProof.Rows PySem.W PySem.Calls
def eT{α:Type}(xs:List α)(n:Nat)(y:α):List α:=xs.take n++y::xs.drop n
theorem pf{α:Type}(xs:List α)(n:Nat)(y:α):(eT xs n y).Perm (y::xs):=by
 unfold eT;refine List.perm_middle.trans ?_;rw [TC]
theorem KC{α β:Type}(f:α->β)(xs:List α)(n:Nat)(y:α):(eT xs n y).map f=eT (xs.map f) n (f y):=by
 unfold eT;rw [O9,Ov,Ri,T2]
theorem Cc{α:Type}(xs:List α)(n:Nat)(y:α):(eT xs n y).length=xs.length+1:=(pf xs n y).length_eq
def KD:V->List V->Hp->VK->Prop:=λx vs H Q=>∃l xs y,∃n:Nat,x= .ref l/\vs=[.int (n:Int),y]/\H l=some (.lst xs)/\n<=xs.length/\xs.length < 1000000/\Q .non (av H l (.lst (eT xs n y)))
theorem KG(l:List VJ)(k:Nat)(y:VJ):(l.toArray.extract 0 k).push y++l.toArray.extract k=(eT l k y).toArray:=by
 apply US.mp;simp;unfold eT;congr 2;exact Pd VH
theorem KH{X:Cx}:rh X "list.insert" KD:=by
 intro Xz s σ H x vs v us Q I rx rv h;obtain⟨l,xs,y,n,rfl,rfl,hH,hn,hz,q⟩:=h;cases rx;cases rv with
 | cons r1 r2=>
  obtain⟨u,rfl,ru⟩:=dj r2;obtain⟨t,rfl⟩:=r1;obtain⟨z,its,m,r,hl,e⟩:=I.lstM hH;have ef:Q4 (n:Int)=true:=by
   unfold Q4;simp;omega
  have sl:(1000000:Nat)<=VT:=VC
  have hsz:its.toArray.size<=VT:=by rw [OC];exact OZ VD sl
  have hfi:¬(!Q4 (n:Int))=true:=by rw [ef];decide
  generalize hni:(n:Int)=ni at hfi ef⊢;refine WG S9 ⟨_,e,rfl⟩ PySem.F.entry_list_insert (PySem.F.args_list_insert_3 _ _ _) (PySem.AutoSeq1.list_insert_list_int_val_1 l its.toArray m ni t u hfi hsz) ⟨e,?_⟩;refine⟨.non,_,I.lset (its':=eT its n u) hH e ?_ ((r.take n).append (.cons ru (r.drop n))) ?_,rfl,q⟩
  ·show(its.toArray.extract 0 (if ni < 0 then(ni+(its.toArray.size:Int)).toNat else min ni.toNat its.toArray.size)).push u++its.toArray.extract (if ni < 0 then(ni+(its.toArray.size:Int)).toNat else min ni.toNat its.toArray.size)=_;subst hni;rw [VE VD,OC,P5,Nat.min_eq_left VD];have:=KG its n u;simp only [OC] at this;exact this
  ·show(eT xs n y).length<=VT;rw [Cc];exact OZ VD sl
section
variable {X:Cx} {H0:Hp} {O0:Ex}
theorem aq.takeN{K:Og}{H:Hp}{O:Ex}:∀{vs:List V}{ds:List VI}(n:Nat),aq K H O vs ds->aq K H O (vs.take n) (ds.take n)
 | _,_,0,_=>by rw [U2,U2];exact .nil
 | _,_,n+1,.nil=>.nil
 | _,_,n+1,.cons a r=>.cons a (aq.takeN n r)
theorem aq.dropN{K:Og}{H:Hp}{O:Ex}:∀{vs:List V}{ds:List VI}(n:Nat),aq K H O vs ds->aq K H O (vs.drop n) (ds.drop n)
 | _,_,0,r=>r
 | _,_,n+1,.nil=>.nil
 | _,_,n+1,.cons a r=>aq.dropN n r
def Cd(i:Nat)(t1 t2:DT):DS:=λE δ=>∃ds,δ[i]?=some (some (.o ds))/\t1 δ λa=>t2 δ λd=>∃n:Nat,a= .int (n:Int)/\n<=ds.length/\ds.length < 1000000/\E.nx (δ.set i (some (.o (eT ds n d))))
theorem KI{i:Nat}{o e e2:VR}{t1 t2:DT}{apos cpos pos:Pos}(ho:PE X o (dR i))(he:DE X H0 O0 e t1)(he2:DE X H0 O0 e2 t2)(hbase:WC o "insert" X.env (eval o X.env)=eval o X.env:=by rfl)
 (hfew:((V6 cpos (VP [e,e2] X.env)).all (λx=>!x.1) && (Xb cpos (WM [] X.env)).all (λx=>x.1.isSome) && decide ([e,e2].length+([]:List Wu).length+(if ([]:List Wu).isEmpty then 0 else 1) < 30))=true:=by rfl)
 (hline:(apos.endLine==cpos.line)=true:=by rfl)(hst:VP [e,e2] X.env=(false,eval e X.env)::VP [e2] X.env:=by rfl)(hst2:VP [e2] X.env=(false,eval e2 X.env)::VP [] X.env:=by rfl)(hplain:(V6 cpos (VP [e2] X.env)).any (·.1)=false:=by rfl)
 (hs:Wb (.Call (.Attribute o "insert" apos) [e,e2] [] cpos) none pos.line X.env=pure false:=by rfl):PS X (.Expr (.Call (.Attribute o "insert" apos) [e,e2] [] cpos) pos) (bw X.K H0 O0 (Cd i t1 t2)):=
 (lC (nW RS S9 PySem.F.type_list_insert KH ho (bS he (bS he2 dF hst2) hst) hbase hfew hline hst hplain) hs).imp λD σ H uu62=>by
  obtain⟨O,δ,E,w,⟨ds,e,q⟩,k1,k2,k3,k4⟩:=uu62;obtain⟨l,vs,h,a,b,c,r⟩:=w.own e;refine⟨_,h,.inl ⟨rfl,_,bf.of c⟩,O,δ,_,w,q,λx vx H1 q1 s1 r1=>?_⟩;refine⟨O,δ,_,w.mono s1,q1,λd v H2 q2 s2 r2=>?_⟩;obtain⟨n,rfl,hn,hz,q2⟩:=q2;cases r1;have rl:=r.length;have S:=s1.trans s2;refine⟨l,vs,v,n,rfl,rfl,S _ _ c,VD,VD,?_⟩;exact k1 _ _ _ _ q2 ((w.mono S).putO (vs:=vs) e h (((r.mono S).takeN n).append (.cons r2 ((r.mono S).dropN n)))) ⟨λb' o' z n=>by rw [aE (λy=>n (by rw [y];exact a))];exact S _ _ z,λ_ _ n=>n⟩
def Cf(t:DT):DB:=λδ Q=>t δ λd=>∃ds,d= .list ds/\Q (!ds.isEmpty)
theorem Cg{e:VR}{t:DT}(h:DE X H0 O0 e t)(he:∀whole,isTrue e X.env whole=(do let v<-whole;standAt e.pos;holding [v] (truthy v)):=by intro _;rfl):PT X e (bP X.K H0 O0 (Cf t)):=
 (Fy h he).imp λσ H Q ⟨O,δ,Qd,w,q,k⟩=>⟨O,δ,_,w,q,λd v H' uu64 s r=>by
  obtain⟨ds,e,qb⟩:=uu64;subst e;obtain⟨a,vs,rfl,hs,r⟩:=(Sh.dt r).lst;refine⟨_,.inl ⟨vs,hs,rfl⟩,?_⟩;have:(!vs.isEmpty)=!ds.isEmpty:=by cases r <;> rfl
  rw [this];exact k _ H' qb s⟩
theorem Ci{K:Og}{H:Hp}{O:Ex}{z:Str}:∀{kv:List (ak×V)}{ks:List Str}{ds:List VI},kv.map (·.1)=ks.map PM->aq K H O (kv.map (·.2)) ds->dY ks ds z=none->cJ kv (.inr z)=none
 | [],_,ds,_,_,e=>rfl
 | _::_,[],ds,h,_,_=>by cases h
 | p::kv,k::ks,ds,h,hd,e=>by
  rw [Ov] at hd;cases hd with
  | cons h1 h2=>
   simp only [Ov,PH] at h;obtain⟨p1,p2⟩:=p;obtain⟨rfl,h⟩:=h;unfold dY at e;by_cases hk:k=z
   ·rw [VF hk] at e;cases e
   ·rw [VE hk] at e;rw [kK (λq=>hk (mC.mp q))];exact Ci h h2 e
end
theorem Dt.dicE{K:Og}{H:Hp}{O:Ex}{v:V}{ks:List Str}{ds:List VI}(h:Dt K H O v (jk ks ds)):∃a ob kv,v= .ref a/\H a=some (.frz ob (.dK kv))/\kv.map (·.1)=ks.map PM/\¬O a/\aq K H O (kv.map (·.2)) ds:=by
 cases h with
 | @dic a ob kv ks' kp ds h e1 e2 n rr=>
  have ek:ks'=ks:=kU e2.symm;subst ek;exact⟨a,ob,kv,rfl,h,e1,n,rr⟩
theorem Cj{K:Og}{H:Hp}{O:Ex}{z:Str}{kv:List (ak×V)}{ks:List Str}{ds:List VI}(e1:kv.map (·.1)=ks.map PM)(r:aq K H O (kv.map (·.2)) ds):(cJ kv (.inr z)).isSome=(dY ks ds z).isSome:=by
 cases hd:dY ks ds z with
 | none=>rw [Ci e1 r hd];rfl
 | some d=>
  obtain⟨v,hv,_⟩:=sY e1 r hd;rw [hv];rfl
section
variable {X:Cx} {H0:Hp} {O0:Ex}
def mI(neg:Bool)(tk to:DT):DT:=λδ Q=>tk δ λy=>to δ λx=>∃z ks ds,y= .str z/\x=jk ks ds/\Q (.bool (if neg then !(dY ks ds z).isSome else(dY ks ds z).isSome))
theorem KJ{o e:VR}{tk to:DT}(hu:X.A.units+64 < V9)(ho:DE X H0 O0 o to)(he:DE X H0 O0 e tk):PC X .In e o (up X.K H0 O0 (mI false tk to)):=λXz s σ H Q I ⟨O,δ,Qd,w,q,k⟩=>
 Ag VD he ho Xz s σ H Q I ⟨O,δ,_,w,q,λy uy H2 q2 s2 r2=>⟨O,δ,_,w.mono s2,q2,λx ux H3 uu66 s3 r3=>by
  obtain⟨z,ks,ds,ey,ex,q3⟩:=uu66;subst ey ex;cases r2;obtain⟨a,ob,kv,rfl,h,e1,n,rr⟩:=r3.dicE;exact⟨a,_,rfl,c5.z (k:= .inr z) h,by rw [Cj e1 rr];exact k _ _ _ q3 (s2.trans s3) (.bl _)⟩⟩⟩
theorem KL{o e:VR}{tk to:DT}(hu:X.A.units+64 < V9)(ho:DE X H0 O0 o to)(he:DE X H0 O0 e tk):PC X .NotIn e o (up X.K H0 O0 (mI true tk to)):=λXz s σ H Q I ⟨O,δ,Qd,w,q,k⟩=>
 Ah VD he ho Xz s σ H Q I ⟨O,δ,_,w,q,λy uy H2 q2 s2 r2=>⟨O,δ,_,w.mono s2,q2,λx ux H3 uu68 s3 r3=>by
  obtain⟨z,ks,ds,ey,ex,q3⟩:=uu68;subst ey ex;cases r2;obtain⟨a,ob,kv,rfl,h,e1,n,rr⟩:=r3.dicE;exact⟨a,_,rfl,c5.z (k:= .inr z) h,by rw [Cj e1 rr];exact k _ _ _ q3 (s2.trans s3) (.bl _)⟩⟩⟩
theorem Of{o e:VR}{tk to:DT}{pos:Pos}(hu:X.A.units+64 < V9)(ho:DE X H0 O0 o to)(he:DE X H0 O0 e tk)(hm:Wg .In o=false:=by rfl):PT X (.Compare e [.In] [o] pos) (bP X.K H0 O0 (fV (mI false tk to))):=
 (nv (KJ hu ho he) hm).imp λσ H Q uu69=>by obtain⟨O,δ,Qd,w,q,k⟩:=uu69;exact⟨O,δ,_,w,q,λd v H' uu70 s r=>by obtain⟨b,e,qb⟩:=uu70;subst e;cases r;exact⟨b,rfl,k b H' qb s⟩⟩
theorem tq{o e:VR}{tk to:DT}{pos:Pos}(hu:X.A.units+64 < V9)(ho:DE X H0 O0 o to)(he:DE X H0 O0 e tk)(hm:Wg .NotIn o=false:=by rfl):PT X (.Compare e [.NotIn] [o] pos) (bP X.K H0 O0 (fV (mI true tk to))):=
 (nv (KL hu ho he) hm).imp λσ H Q uu71=>by obtain⟨O,δ,Qd,w,q,k⟩:=uu71;exact⟨O,δ,_,w,q,λd v H' uu72 s r=>by obtain⟨b,e,qb⟩:=uu72;subst e;cases r;exact⟨b,rfl,k b H' qb s⟩⟩
end
section
variable {P:VW} {w:VZ} {K:Og} {mg:Str->Option VJ} {base:VY}
inductive kW (K:Og) (C:VM) (F:List VI->List VI->(List (Str×VI)->List (ak×VI)->List (ak×VI)->Prop)->Prop) (vs:List V) (H:Hp) (Q:VK) (E:XK):Prop
 | mk (x dx:VM) (vs':List V) (l:VM) (ws:List V) (H1:Hp) (O:Ex) (ds es:List VI) (Qd:List (Str×VI)->List (ak×VI)->List (ak×VI)->Prop):vs= .ref x::(vs'++[.ref l])->H=av (av H1 dx (.own x)) x (.ins C dx [])->H1 x=none->H1 dx=none->dx≠x->
 (∀a,O a->H1 a≠none)->aq K H1 O vs' ds->O l->H1 l=some (.lst ws)->aq K H1 O ws es->F ds es Qd->
 (∀fd gd ud g u O' H',Qd fd gd ud->au H1 H'->(∀a,O a->O' a)->(∀a,O' a->O a\/H1 a=none)->(∀a,O' a->H' a≠none)->O' x->¬O x->wu K H' O O' x C g u fd gd ud->Q .non H')->kW K C F vs H Q E
end
section
variable {x y z w:Option Sl} {l:Dl} {i j k m:Nat} {P:VI->Prop}
theorem KN:cC j ((x::l).set 0 y) P=cC j (y::l) P:=rfl
theorem KO:cC j ((x::l).set (i+1) y) P=cC j (x::l.set i y) P:=rfl
theorem KQ:cC j (((x::l).set 0 y).set k z) P=cC j ((y::l).set k z) P:=rfl
theorem KR:cC j (((x::l).set (i+1) y).set k z) P=cC j ((x::l.set i y).set k z) P:=rfl
theorem KS:cC j ((((x::l).set 0 y).set k z).set m w) P=cC j (((y::l).set k z).set m w) P:=rfl
theorem KU:cC j ((((x::l).set (i+1) y).set k z).set m w) P=cC j (((x::l.set i y).set k z).set m w) P:=rfl
end
theorem KW(a b:Int):kj (.int a) (.int b)=true:=rfl
theorem KY(a b:Str):kj (.str a) (.str b)=true:=rfl
theorem KZ(a b:Bool):kj (.bl a) (.bl b)=true:=rfl
theorem K0(b:Int):kj .non (.int b)=true:=rfl
theorem K1(b:Int):kj (.int b) .non=true:=rfl
section
variable {K:Og} {mg:Str->Option VJ} {h:VY} {x q:Str} {st:V0} {f C:VM} {fd:VU} {ps:List Str}
structure Fn (K:Og) (mg:Str->Option VJ) (x:Str) (st:V0) (f:VM) (fd:VU) (ps:List Str):Prop where
 F:dU K x x st f fd
 m:mg x=some (.ref f)
 b:eL K fd ps []
structure DfT (K:Og) (x:Str) (st:V0) (f:VM) (fd:VU):Prop where
 a:OV K VX x=some (some (.ref f))
 F:dU K x x st f fd
theorem DfT.of{oc:VJ}{od an:Option VM}{osl:Array (Option VJ)}{kV doc pm cdv ct:VJ}(a:OV K VX x=some (some (.ref f)))(l:K.lookup f=some ⟨oc,od,.func (Q0 x x (jD st) (fx st) (aA st) .none kV doc pm an cdv ct),osl⟩)
 (c:Sm K cdv x=true)(k:Rb K (.ref f)=true):DfT K x st f (Q0 x x (jD st) (fx st) (aA st) .none kV doc pm an cdv ct):=⟨a,Gh l c k⟩
theorem DfT.fn(D:DfT K x st f fd)(X:K.In h)(G:h.Ns VX mg)(hb:∀(kV doc pm:VJ) (an:Option VM) (cdv ct:VJ) (us:List VJ),us.length=ps.length->bindArgs (Q0 x x (jD st) (fx st) (aA st) .none kV doc pm an cdv ct) ⟨us,[]⟩=pure (ps.zip us):=by walk_at "b"):Fn K mg x st f fd ps:=⟨D.F,Pw X G D.a,D.F.binds hb⟩
theorem Fn.kp(N:Fn K mg x st f fd ps):Rb K (.ref f)=true:=N.F.kp
end
section
variable {X:Cx} {k:Nat} {f:VM} {fd:VU} {ps:List Str} {sp:Sp} {st:V0} {x:Str} {p pos:Pos} {e:VR} {es:List VR} {t:TA}
theorem Ck(F:aF X.prog X.w X.K X.mg X.base aK k f fd ps sp)(hr:bp k X.A)(hg:Gl X x)(N:Fn X.K X.mg x st f fd ps)
 (ha:PA X (e::es) t)(hdb:(x==("__debug__":Str))=false:=by decide)(he:VP (e::es) X.env=(false,eval e X.env)::VP es X.env:=by rfl)(hpl:(V6 pos (VP es X.env)).any (·.1)=false:=by rfl):
 PE X (.Call (.Name x p) (e::es) [] pos) (lM sp [] E0 t):=qX F hr hg N.m N.kp N.b .nil Gf ha hdb he hpl
end
theorem bt.of{sc:Wc}{N N':List Str}{k:Nat}{fr:List Nat}{scope:Wc}(a:scope.kind= .function:=by rfl)(b:∀y∈scope.names,y.2= .cell->scope.names.lookup y.1=some .cell:=by decide+kernel)(c:∀y∈scope.names,y.2= .local->scope.names.lookup y.1=some .local:=by decide+kernel)(d:N'.Nodup:=by decide+kernel)(e:fr.map (λj=>N[j]?)=(N'.drop k).map some:=by rfl)(f:∀x∈N'.drop k,scope.names.lookup x=some .free:=by decide+kernel)(g:∀y∈scope.names,y.2= .free->sc.names.lookup y.1=some .cell\/sc.names.lookup y.1=some .free:=by decide+kernel)(h:∀x∈N'.drop k,sc.names.lookup x=some .cell\/sc.names.lookup x=some .free:=by decide+kernel)(i:N'.length=k+fr.length:=by rfl):bt sc N N' k fr scope:=⟨a,b,c,d,e,f,g,h,i⟩
theorem aP.of{N P:List Str}{sc:Wc}(a:sc.kind= .function:=by rfl)(b:sc.isCoroutine=false:=by rfl)(c:sc.isGenerator=false:=by rfl)(d:N.Nodup:=by decide+kernel)(e:N.take P.length=P:=by rfl)(f:∀x∈P,sc.names.lookup x=some .local\/sc.names.lookup x=some .cell:=by decide+kernel)(g:∀y∈sc.names,y.2≠ .free:=by decide+kernel):aP N P sc:=⟨a,b,c,d,e,f,g⟩
section
variable {X:Cx} {H0:Hp} {O0:Ex} {pos:Pos} {a b e:VR} {es:List VR} {ta tb t:DT} {u:DA} {r:R2} {rd:VI->VI->(VI->Prop)->Prop}
theorem aZ{op:Operator}(ho:bq X (Wn op) r)(hd:bN X.K r rd)(ha:DE X H0 O0 a ta)(hb:DE X H0 O0 b tb):DE X H0 O0 (.BinOp a op b pos) (fU rd ta tb):=G3 ho hd (df ha) (df hb)
theorem ax(ho:kl X r)(hd:bN X.K r rd)(ha:DE X H0 O0 a ta)(hb:DE X H0 O0 b tb)(hs:∀v u,WY b false v u=operate [v,u] (Wy v u):=by intro _ _;rfl):DE X H0 O0 (.Subscript a b pos) (fU rd ta tb):=d9 ho hd (df ha) (df hb) hs
theorem aG{op:CmpOp}(ho:bq X (V2 op) r)(hd:bN X.K r rd)(ha:DE X H0 O0 a ta)(hb:DE X H0 O0 b tb)(hm:Wg op b=false):PT X (.Compare a [op] [b] pos) (bP X.K H0 O0 (fV (fU rd ta tb))):=oi ho hd (df ha) (df hb) hm
theorem aO(h:DE X H0 O0 e t)(hs:PA X es (fz X.K H0 O0 u))(he:VP (e::es) X.env=(false,eval e X.env)::VP es X.env:=by rfl):PA X (e::es) (fz X.K H0 O0 (fT t u)):=i8 (df h) hs he
theorem ar{k j:Nat}{f:VM}{fd:VU}{ps:List Str}{F:List VI->(VI->Prop)->Prop}{st:V0}{x:Str}{p:Pos}(G:aF X.prog X.w X.K X.mg X.base aK k f fd ps (aQ X.K F))(hr:bp j X.A)(N:Fn X.K X.mg x st f fd ps)
 (ha:PA X (e::es) (d8 X.K H0 O0 u))(hk:k<=j:=by decide)(hg:Gl X x:=by exact rfl)(hdb:(x==("__debug__":Str))=false:=by decide)(he:VP (e::es) X.env=(false,eval e X.env)::VP es X.env:=by rfl)(hpl:(V6 pos (VP es X.env)).any (·.1)=false:=by rfl):
 DE X H0 O0 (.Call (.Name x p) (e::es) [] pos) (iD F u):=PE.imp (Ck G (hr.mono hk) hg N ha hdb he hpl) G7
end
end L2
namespace PySem.SeqAt
open AutoSeq1 (wpAny_loadPart')
open MeetsSeq
section
variable {A:V1} {s:VN}
theorem EqAt.dict_str{l:VM}{es:Array Xi}{n:Nat}{o:Obj}(b:Str)(u:Tok)(ho:s.heap.get? l=some o)(hc:o.cls= .type "dict")(hd:o.data= .dict es n)(hu:A.units < V9):EqAt A s (.ref l) (.str b u) false:=λprog w E Q h=>by
 unfold eqBool;refine Wa ?_;refine WN (λhab=>absurd (eq_of_beq hab) nofun) (λ_=>?_);exact VL (RcAt.dict_str b u ho hc hd hu prog w E _ (V7 h))
end
end PySem.SeqAt
namespace L2
open PySem PySem.Spec PyProof.Rows PySem.W
section
variable {X:Cx} {Xz:List (VM×Obj)} {σ:St} {H:Hp} {s:VN}
theorem K2(I:ae X Xz σ H s){A:V1}{O:Ex}{v:V}{d:VI}{u:VJ}(h:Dt X.K H O v d)(ht:bL d=true)(r:aH v u)(y:Str)(t:Tok)(hu:A.units < V9):TK A s u (.str y t) (Om d (.str y)):=by
 cases h with
 | non=>cases (show u=QV from r);simpa [Om] using TK.none_str y t
 | bl b=>cases (show u=QI b from r);simpa [Om] using TK.bool_str b y t
 | int i=>obtain⟨k,e⟩:=(show ∃t,u=QX i t from r);cases e;simpa [Om] using T9 i k y t
 | str x=>obtain⟨k,e⟩:=(show ∃t,u=Qm x t from r);cases e;simpa [Om] using Ul x k y t
 | @tup a xs ds h n rr=>
  cases (show u=OU a from r);obtain⟨its,rv,p,_⟩:=I.tuple (.inl h);simpa [Om] using TQ y t (show s.heap.IsTuple a its.toArray from p) hu
 | @tupK a xs ds h rr=>
  cases (show u=OU a from r);obtain⟨its,rv,p,_⟩:=I.tuple h.of0;simpa [Om] using TQ y t (show s.heap.IsTuple a its.toArray from p) hu
 | @lst a xs ds h n rr=>
  cases (show u=OU a from r);obtain⟨its,rv,p,_⟩:=I.list (.inl h);simpa [Om] using TK.list_str y t p.isList hu
 | pack h n=>exact absurd ht (by simp [bL])
 | purse h n=>exact absurd ht (by simp [bL])
 | scr h r=>exact absurd ht (by simp [bL])
 | obj h e n r=>exact absurd ht (by simp [bL])
 | @dct0 a h n=>
  cases (show u=OU a from r);obtain⟨_,_,_,_,o,es,ep,e,c,dd,_⟩:=(show bI X.prog X.w H s.heap a (.dK []) from I.hok a _ h);simpa [Om] using TK.dict_str y t e c.1 dd hu
 | @dic a ob kv ks kp ds h e1 e2 n rr=>
  cases (show u=OU a from r);obtain⟨_,_,_,_,o,es,ep,e,c,dd,_⟩:=(show bI X.prog X.w H s.heap a (.dK kv) from(I.hok a _ h).2);simpa [Om] using TK.dict_str y t e c.1 dd hu
end
section
variable {X:Cx} {H0:Hp} {O0:Ex}
def Cm(K:Og):R2:=λx y H Q=>∃(O:Ex)(a b:VM)(vs:List V)(ds:List VI)(z:Str),x= .ref a/\br K H a vs/\aq K H O vs ds/\(∀d∈ds,bL d=true)/\y= .ref b/\br K H b [V.str z]/\Q (.bl (!Om (.tuple ds) (.tuple [.str z]))) H
theorem K3{k:Nat}(hr:bp k X.A):bq X (V2 .NotEq) (Cm X.K):=by
 intro Xz s σ H x y v u Q I rx ry h;obtain⟨O,a,b,vs,ds,z,rfl,ha,hd,ht,rfl,hb,q⟩:=h;cases rx;cases ry;obtain⟨its,rv,p,_⟩:=I.tuple ha;obtain⟨jts,rw,p2,_⟩:=I.tuple hb;have hc:V2 .NotEq (.ref a) (.ref b)=richCompare .NotEq (.ref a) (.ref b):=rfl;rw [hc];have hu0:X.A.units < V9:=hr.units0;have hu1:X.A.in1.units < V9:=by show X.A.units+1 < V9;have:=hr.un;omega
 have l1:its.length=ds.length:=by rw [<-rv.length,<-hd.length]
 have l2:jts.length=1:=by rw [<-rw.length];rfl
 have he:∀j(h1:j < its.toArray.size)(h2:j < jts.toArray.size),TK X.A.in1 s its.toArray[j] jts.toArray[j] (Vi ds [.str z] j):=λj h1 h2=>by
  have h1':j < its.length:=by simpa using h1
  have h2':j < jts.length:=by simpa using h2
  have hj:j=0:=VD
  subst hj;cases rv with
  | nil=>simp at h1'
  | @cons x0 u0 xs0 us0 r1 r2=>
   cases rw with
   | @cons x1 u1 xs1 us1 r3 r4=>
    cases hd with
    | @cons _ d0 _ ds0 e1 e2=>
     obtain⟨t,rfl⟩:=(show ∃t,u1=Qm z t from r3);exact K2 I e1 (ht d0 O3) r1 z t hu1
 have:=SeqAt.RcNeAt.tuples (e:=Vi ds [.str z]) (show s.heap.IsTuple a its.toArray from p) (show s.heap.IsTuple b jts.toArray from p2) hu0 he X.prog X.w X.xe;refine this _ ?_;have ee:=SeqAt.eqvAll_eq ds [.str z];have e1:its.toArray.size=ds.length:=by simpa using l1
 have e2:jts.toArray.size=[Ol z].length:=by simpa using l2
 rw [e1,e2,ee];exact d4 I q rfl
def Cn:VI->VI->(VI->Prop)->Prop:=λx y Q=>∃(ds:List VI)(z:Str),x= .tuple ds/\(∀d∈ds,bL d=true)/\y= .tuple [.str z]/\Q (.bool (!Om (.tuple ds) (.tuple [.str z])))
theorem K4{K:Og}:bN K (Cm K) Cn:=λH O x y dx dy Qd R _ hx hy uu73 k=>by
 obtain⟨ds,z,e,ht,e',q⟩:=uu73;subst e e';obtain⟨a,vs,rfl,hs,r⟩:=hx.tup;obtain⟨b,ws,rfl,hs2,r2⟩:=hy.tup;cases (show aq K H _ ws ([z].map Ol) from r2).strs;exact⟨_,a,b,vs,ds,z,rfl,hs,r,ht,rfl,hs2,k _ _ H q (au.refl _) (.bl _)⟩
def Co(K:Og):R2:=λx y H Q=>∃(O:Ex)(dx:VI)(zs:List Str)(a:VM),Dt K H O x dx/\bL dx=true/\y= .ref a/\br K H a (zs.map V.str)/\Q (.bl (!zs.any λz=>Om (.str z) dx)) H
theorem K5{k:Nat}(hr:bp k X.A):bq X (V2 .NotIn) (Co X.K):=by
 intro Xz s σ H x y v u Q I rx ry h;obtain⟨O,dx,zs,a,hx,ht,rfl,ha,q⟩:=h;cases ry;obtain⟨its,rv,p,_⟩:=I.tuple ha;have hS:=oO rv;have hl:=AO dx hS;refine SeqAt.notIn_tupleAt (λy=>Om (.str (strOf y)) dx) (show s.heap.IsTuple a its.toArray from p) (λy hy=>?_) (by rw [UQ,hl];exact d4 I q rfl);obtain⟨z,t,rfl⟩:=hS.all y (by simpa using hy);exact AM I hx ht rx z t (by show X.A.units+1 < V9;have:=hr.un;omega)
def Cp:VI->VI->(VI->Prop)->Prop:=λx y Q=>∃zs:List Str,y= .tuple (zs.map .str)/\bL x=true/\Q (.bool (!zs.any λz=>Om (.str z) x))
theorem K6{K:Og}:bN K (Co K) Cp:=λH O x y dx dy Qd R _ hx hy uu74 k=>by
 obtain⟨zs,e,ht,q⟩:=uu74;subst e;obtain⟨a,vs,rfl,hs,r⟩:=hy.tup;cases r.strs;exact⟨_,dx,zs,a,hx.all,ht,rfl,hs,k _ _ H q (au.refl _) (.bl _)⟩
open PySem PySem.Spec PyProof.Rows PySem.W PySem.Calls
theorem gz.kdF{K:Og}{H H':Hp}{O:Ex}:∀{kd:List (ak×VI)}{ps:List (V×V)},gz K H O ps (kd.map λp=>(fG p.1,p.2))->(∀p∈kd,∀v,Dt K H O v p.2->Dt K H' O v p.2)->∃kv:List (ak×V),ps=kv.map (λp=>(kV p.1,p.2))/\bu K H' O kv kd
 | [],_,h,_=>by cases h;exact⟨[],rfl,.nil⟩
 | p::kd,_,h,sc=>by
  cases h with
  | cons a b r=>
   obtain⟨kv,e,k⟩:=gz.kdF r λq hq=>sc q (OR _ hq);have:=a.key;exact⟨(p.1,_)::kv,by rw [e,this];rfl,.cons (sc p O3 _ b) k⟩
theorem Dt.freeT{K:Og}{H:Hp}{O:Ex}{v:V}{zs:List Str}{p:VM}(h:Dt K H O v (.tuple (zs.map .str)))(hp:H p=some (.dK [])):Dt K (λb=>if b=p then none else H b) O v (.tuple (zs.map .str)):=by
 generalize hd:Oz (zs.map .str)=d at h;cases h with
 | @tup a xs ds h n rr=>
  cases hd;cases rr.strs;refine .tup (h.same λo e=>?_) n (aq.ofStrs zs);have:a≠p:=λy=>by
   rw [y] at h;rcases h with h | ⟨o,h⟩ <;> rw [hp] at h <;> cases h
  show(if a=p then none else H a)=some o;rw [VE this];exact e
 | @tupK a xs ds h rr=>
  cases hd;cases rr.strs;exact .tupK h (aq.ofStrs zs)
 | _=>cases hd
def Cq(trs:List (DT×DT)):jU:=λδ Q=>mE trs δ λps=>∃kd:List (ak×List Str),ps=kd.map (λp=>(fG p.1,Oz (p.2.map .str)))/\kd.length<=15/\Q ((kd.map λp=>(p.1,Oz (p.2.map .str))).foldl (λa p=>eg a p.1 p.2) [])
theorem Cr{pos:Pos}{keys:List (Option VR)}{values:List VR}{trs:List (DT×DT)}(h:mF X H0 O0 pos keys values trs)(hall:keys.all (·.isSome)=true:=by rfl)(hl:keys.length=values.length:=by rfl)(h0:keys≠[]:=by exact UR _ _)(h15:keys.length<=15:=by exact TB rfl):KE X H0 O0 (.Dict keys values pos) (Cq trs):=
 (Am h hall hl h0 h15).imp λσ H Q ⟨O,δ,Qd,w,q,k⟩=>λp hp=>by
  refine sS trs (w.mono (au.new hp)) q λds vs H2 ⟨kz,e,n,q2⟩ s2 r2=>?_;have hp2:H2 p=some (.dK []):=s2 _ _ bb;generalize hk:(kz.map λp=>(p.1,Oz (p.2.map .str)))=kd at q2;have e:ds=kd.map (λp=>(fG p.1,p.2)):=by rw [e,<-hk,Pl];rfl
  subst e;obtain⟨kv,e,r⟩:=gz.kdF (H':=λb=>if b=p then none else H2 b) r2 λy hy v hv=>by
   rw [<-hk] at hy;obtain⟨z,_,rfl⟩:=Ow.mp hy;exact hv.freeT hp2
  refine⟨hp2,kv,e,by rw [r.length,<-hk,Oi];exact n,?_⟩;have eu:av H2 p (.dK (hV [] kv))=av (λb=>if b=p then none else H2 b) p (.dK (hV [] kv)):=by
   funext b;unfold av;split
   ·rfl
   ·rename_i hb;exact(VE hb).symm
  rw [eu];refine k _ _ p _ q2 (λb o z=>?_) (VF rfl) (r.merge .nil);have:b≠p:=λy=>by rw [y,hp] at z;cases z
  show(if b=p then none else H2 b)=some o;rw [VE this];exact s2 _ _ (by rw [aE this];exact z)
end
end L2
namespace PySem.SeqAt
open AutoSeq1 (wpAny_loadPart')
open MeetsSeq
end PySem.SeqAt
namespace L2
open PySem PySem.Spec PyProof.Rows PySem.W
end L2
namespace PySem
open Sem (wp)
open AutoSeq1 (wpAny_loadPart')
end PySem
namespace L2
open PySem PySem.Spec PyProof.Rows PySem.W PySem.Calls
structure jm (base:VY) (mg:Str->Option VJ) (c P:VM):Prop where
 cd:CodeHd base c P
 gP:VX≠P
 bl:base.BuiltinsAt mg P
theorem K7{pos p:Pos}{v cv:VJ}(l:List VJ)(h:TriplesOk l)(e:codeAmong pos (l++[Ww p.line,Ww p.col,v])=some cv):codeAmong pos l=some cv\/cv=v:=by
 fun_induction TriplesOk l with
 | case1=>
  simp only [QN,codeAmong,Ww] at e;split at e
  ·cases e;exact .inr rfl
  ·cases e
 | case2 a t b u x rest ih=>
  simp only [Rz,codeAmong] at e⊢;split at e
  ·rename_i hc;rw [VF hc];exact .inl e
  ·rename_i hc;rw [VE hc];exact ih h e
 | case3 l h1 h2=>exact h.elim
abbrev fj(q:Str):HO:= .tbl #[.str q 0]
section
variable {X:Cx} {Xz:List (VM×Obj)} {σ:St} {H:Hp} {s:VN}
theorem K8{h h':VY}{mg:Str->Option VJ}{P:VM}(b:h.BuiltinsAt mg P)(k:∀b o,h.get? b=some o->h'.get? b=some o):h'.BuiltinsAt mg P:=
 let ⟨bm,o,a1,a2,a3,a4,a5,r⟩:=b;⟨bm,o,a1,a2,a3,a4,k _ _ a5,r⟩
theorem K9{E:VJ->VN->Prop}{Q:VJ->VN->Prop}{c P:VM}{qual:Str}{body:VR}{scope:Wc}{params:Xh}{pos:Pos}{clos:List (Str×VM)}(I:ae X Xz σ H s)(L:jm X.base X.mg c P)(hcode:X.env.code= .ref c)
 (hP:H P=some (fj qual))(hq:X.env.qual++"<lambda>"=qual)(hcl:closureFor scope X.env=pure clos)(hdef:defaultsOf params X.env=([],[]))
 (h:∀f c' pm ctv h' tk H',ae X Xz σ H' {s with heap:=h',toks:=tk}->h'.get? f=some (kla_obj "<lambda>" qual params body scope clos pm c' ctv)->s.heap.objs.size<=f->H' f=none->H' c'=some (.cod qual)->au H H'->
  Q (.ref f) {s with heap:=h',toks:=tk}):VQ (VS X.prog X.w) X.A (eval (.Lambda params body scope pos) X.env) Q E s:=by
 refine kla_eval hdef ?_;rw [hq];obtain⟨q,t,z,ps,eP,tr,ent⟩:=id (I.hok P _ hP);have z:some (Qm qual 0)=some (.str q t):=z;cases z;have hg:s.heap.Ns VX X.mg:=I.ok.mod.glob.keeps I.bk;have C:=L.cd.keeps I.bk;have hb:=K8 L.bl I.bk;cases hf:codeAmong pos ps.toList with
 | some cv=>
  obtain⟨c',rfl,hc'⟩:=ent pos cv hf;refine kla_makeFunctionHit hcl I.ok.glob hg hcode C eP tr hf hb λctv h' tk hk hsz=>?_;have k2:∀b o,s.heap.get? b=some o->(h'.push (kla_obj "<lambda>" qual params body scope clos ((X.mg "__name__").getD .none) c' ctv)).get? b=some o:=λb o e=>Oo _ (hk b o e);exact h h'.objs.size c' _ ctv _ tk H (I.kept k2) (OP _ rfl) hsz (I.hok.fresh hsz) hc' (au.refl _)
 | none=>
  refine kla_makeFunction hcl I.ok.glob hg hcode C eP tr hf L.gP hb λc' ctv h' tk hx hge hlt hrec htb=>?_;have hn:H c'=none:=I.hok.fresh hge;have nP:∀b,H b=none->b≠P:=λb n e=>by rw [e,hP] at n;cases n
  have pk:∀{b o},h'.get? b=some o->(h'.push (kla_obj "<lambda>" qual params body scope clos ((X.mg "__name__").getD .none) c' ctv)).get? b=some o:=λe=>Oo _ e;have sm:au H (av H c' (.cod qual)):=λb o e=>by rw [aE (cR e hn)];exact e
  have hlt':s.heap.objs.size<=h'.objs.size:=OZ hge (QJ hlt);refine h h'.objs.size c' _ ctv _ tk (av H c' (.cod qual)) (I.un ⟨λb o e n _ _=>pk (hx b o (nP b n) e),λb o e n _ _=>⟨o.slots,pk (hx b o (nP b n) e)⟩,λb o e n _=>by rw [aE (OX (OW (OB e) hge))];exact n,λb o e _=>?_,
   λb xs e=>sm b _ e,λb o u e=>sm b _ e,λb qs e=>⟨#[],by rw [Array.append_empty];exact sm b _ e⟩⟩ λb u e=>?_) (OP _ rfl) hlt' (by rw [aE (RI hlt)];exact I.hok.fresh hlt') bb sm
  ·by_cases hb':b=P
   ·exact⟨_,pk (by rw [hb'];exact htb)⟩
   ·exact⟨o,pk (hx b o hb' e)⟩
  ·by_cases hbc:b=c'
   ·subst hbc;rw [bb] at e;cases e;obtain⟨c₂,oc,vs,t',e2,hoc,hd,hv⟩:=hrec;cases e2;exact⟨oc,vs,t',pk hoc,hd,hv⟩
   ·rw [aE hbc] at e;by_cases hbP:b=P
    ·subst hbP;rw [hP] at e;cases e;refine⟨qual,0,rfl,_,pk htb,?_,λp cv e=>?_⟩
     ·rw [QA];exact TriplesOk_snoc _ _ _ _ tr
     ·rw [QA] at e;rcases K7 _ tr e with e | e
      ·obtain⟨c2,e1,e2⟩:=ent p cv e;exact⟨c2,e1,sm _ _ e2⟩
      ·exact⟨c',e,bb⟩
    ·refine(I.hok b u e).stay (λc2 v hc r=>pk (hx c2 v (λw=>?_) r)) (λc2 r=>sm _ _ r) (λc2 xs r=>sm _ _ r) λc2 xs r=>sm _ _ r;rcases hc with hc | hc
     ·exact hbP (hc.symm.trans w)
     ·rw [w,hP] at hc;cases hc
def gQ(X:Cx)(s:VN)(H:Hp):VY:=hideAll s.heap (aX X.stack++trk s.heap H)
theorem mJ{b:VM}{o:Obj}(e:s.heap.get? b=some o)(n:H b=none)(nf:b ∉ aX X.stack):(gQ X s H).get? b=some o:=
 WZ _ e λhm=>by
  rcases OJ.mp hm with h | h
  ·exact nf h
  ·have q:(H b).isSome=true:=(O7.mp h).2;rw [n] at q;simp at q
theorem La{b:VM}{o:Obj}(e:(gQ X s H).get? b=some o):s.heap.get? b=some o/\H b=none:=by
 have e':s.heap.get? b=some o:=of_hideAll _ e;refine⟨e',?_⟩;cases q:H b with
 | none=>rfl
 | some x=>
  have hm:b∈aX X.stack++trk s.heap H:=Pa _ (O7.mpr ⟨QS.mpr (OB e'),by simp [q]⟩);have z:(gQ X s H).get? b=none:=hideAll_none _ hm;rw [z] at e;cases e
theorem ae.lamK(I:ae X Xz σ H s){b:VM}{o:Obj}(e:X.base.get? b=some o):(gQ X s H).get? b=some o:=
 mJ (I.bs b o e).1 (I.bs b o e).2 λhb=>by have:=(I.stack.mem hb).1;rw [e] at this;cases this
theorem ae.lamM(I:ae X Xz σ H s):Mod X.K X.mg (gQ X s H):=
 ⟨I.mod.kin.keeps λ_ _ e=>I.lamK e,I.mod.glob.keeps λ_ _ e=>I.lamK e,let ⟨mb,h1,h2⟩:=I.mod.blt;⟨mb,h1.keeps λ_ _ e=>I.lamK e,h2⟩,I.mod.nolimit.keeps λ_ _ e=>I.lamK e⟩
theorem ae.env0L(I:ae X Xz σ H s):i4 X.prog X.w X.K X.mg (gQ X s H) X.A X.stack s H:=
 ⟨I.ok.frames,I.lamM,λ_ _ e=>La e,Vj (hideAll_size _ _),funFrames_hide I.stack λenv he a hf=>Pz _ (QE.mpr ⟨env,he,hf⟩),I.stkFree,I.hok,I.bare⟩
abbrev jX(scope:Wc)(qual:Str)(L f:VM)(c':VM)(cl:List (Str×VM)):Env:=envX qual scope L f (.ref c') cl
def iP(X:Cx)(base:VY)(scope:Wc)(N':List Str)(cl:List (Str×VM))(qual:Str)(f c':VM)(A:V1)(outer:List Env)(s:VN)(H:Hp)(E:XK):Cx where
 prog:=X.prog
 w:=X.w
 K:=X.K
 mg:=X.mg
 base:=base
 A:=A.deeper (jX scope qual s.heap.objs.size f c' cl)
 N:=N'
 s₀:=s
 H₀:=H
 env:=jX scope qual s.heap.objs.size f c' cl
 outer:=outer
 stack:=jX scope qual s.heap.objs.size f c' cl::outer
 ex:=[]
 calm:=true
 fn:=λ_=>false
 pn:=[]
 xe:=λe s'=>VQ (VS X.prog X.w) (A.deeper (jX scope qual s.heap.objs.size f c' cl)) (leaving (jX scope qual s.heap.objs.size f c' cl) e) (λ_ s''=>bx X.prog X.w outer H s E e s'') (λe' s''=>bx X.prog X.w outer H s E e' s'') s'
theorem Lb{base:VY}{scope:Wc}{N':List Str}{cl:List (Str×VM)}{qual:Str}{f c':VM}{A:V1}{outer:List Env}{s:VN}{H:Hp}{E E':XK}(hE:∀cls d H',E' cls d H'->E cls d H'):lN (bx X.prog X.w) (iP X base scope N' cl qual f c' A outer s H E) E':=by
 intro Xz σ H1 s1 ev s2 I h;obtain⟨e,cls,a0,B,H2,rfl,ho,hg,fl,hb,un,kb,th,q⟩:=h;have ub:Un (aX outer) [] H H1 s.heap s1.heap:=I.base;have stk:(iP X base scope N' cl qual f c' A outer s H E).stack=jX scope qual s.heap.objs.size f c' cl::outer:=rfl;show VQ (VS X.prog X.w) _ (leaving _ (.ref e)) _ _ _;refine wpAny_leaves_onW I.ok.frames rfl fl λh2 x1 x2=>?_;have nst:∀b o,s.heap.get? b=some o->b ∉ aX outer->b ∉ aX (iP X base scope N' cl qual f c' A outer s H E).stack:=λb o eb hb hm=>by
  rcases Ox.mp (I.stkSub b hm) with z | z
  ·have h1:=OB eb;have h2:=I.ok.above;rw [<-z] at h2;exact absurd (OW h1 h2) (Qg _)
  ·exact hb z
 have sub:∀b∈aX outer,b∈aX (iP X base scope N' cl qual f c' A outer s H E).stack:=λb hb=>by
  rw [stk];unfold aX;rw [Qy];exact OR _ hb
 have up:∀b∈aX outer,∀o,s2.heap.get? b=some o->∃sl,h2.get? b=some {o with slots:=sl}:=λb hb o eo=>by
  obtain⟨_,o',ho',hd⟩:=fl.2.2.1.mem (sub b hb);rw [eo] at ho';cases ho';exact x2 b o eo hd
 have kB:∀b o,s.heap.get? b=some o->H b=none->b ∉ aX outer->B.get? b=some o:=λb o eb n hb=>kb b o (ub.keep b o eb n hb VH) (ub.free b o eb n VH) (nst b o eb hb);have tB:∀b o,s.heap.get? b=some o->b ∉ aX outer->∃o',B.get? b=some o':=λb o eb hb=>by
  obtain⟨o',eo'⟩:=ub.there b o eb VH;exact th b o' eo' (nst b o eb hb)
 refine⟨e,cls,a0,B,H2,rfl,ho.trans I.os,hg,x1,hb,⟨λb o eb n hb' hx'=>x1.1 b o (kB b o eb n hb'),λb o eb n hb' hx'=>?_,λb o eb n hx'=>?_,λb o eb hx'=>?_,λb xs z=>un.tups b xs (ub.tups b xs z),λb o u z=>un.frzs b o u (ub.frzs b o u z),λb ps z=>?_⟩,kB,tB,hE _ _ _ q⟩
 ·obtain⟨sl,es⟩:=ub.slot b o eb n hb' hx';obtain⟨sl1,es1⟩:=un.slot b _ es (ub.free b o eb n hx') (sub b hb') VH;obtain⟨sl2,es2⟩:=up b hb' _ es1;exact⟨sl2,es2⟩
 ·obtain⟨o',eo'⟩:=ub.there b o eb hx';exact un.free b o' eo' (ub.free b o eb n hx') VH
 ·by_cases hb':b∈aX outer
  ·obtain⟨o',eo'⟩:=ub.there b o eb hx';obtain⟨o2,eo2⟩:=un.there b o' eo' VH;obtain⟨sl',es'⟩:=up b hb' _ eo2;exact⟨_,es'⟩
  ·obtain⟨o',eo'⟩:=tB b o eb hb';exact⟨o',x1.1 b o' eo'⟩
 ·obtain⟨m1,e1⟩:=ub.tbls b ps z;obtain⟨m2,e2⟩:=un.tbls b _ e1;exact⟨m1++m2,by rw [e2,Ss]⟩
end
abbrev DX:=List VI->(VI->Prop)->Prop->Prop
inductive fk (K:Og) (C:VM) (F:DX) (vs:List V) (H:Hp) (Q:VK) (E:XK):Prop
 | mk (O:Ex) (ds:List VI) (Qd:VI->Prop) (R:Prop):(∀l,O l->H l≠none)->aq K H O vs ds->F ds Qd R->(∀d v H',Qd d->au H H'->Dt K H' O v d->Q v H')->(R->∀H',au H H'->E (.ref C) none H')->fk K C F vs H Q E
section
variable {P:VW} {w:VZ} {K:Og} {mg:Str->Option VJ} {base:VY}
theorem dU.okDX{C:VM}{x qual:Str}{st:V0}{f:VM}{fd:VU}{N ps:List Str}{k:Nat}{F:DX}(Fu:dU K x qual st f fd)(S:aP N ps (aA st))(len:∀ds Q R,F ds Q R->ds.length=ps.length)
 (hbody:∀(cdv:VJ) (A:V1) (outer:List Env) (s:VN) (H:Hp) (O:Ex) (ds:List VI) (Q:VI->Prop) (R:Prop) (E:XK),bp k (A.deeper (WE qual (aA st) s.heap.objs.size f cdv))->F ds Q R->(R->∀H',au H H'->E (.ref C) none H')->
  ∃t,bD (bO (bx P w) P w K mg base N qual (aA st) f cdv A outer s H E) (fx st) (bw K H O t)/\t {nx:=λ_=>Q .none,rt:=Q} (hG N ds)):aF P w K mg base (bx P w) (k+1) f fd ps (fk K C F):=by
 refine Fu.okR S (λvs H Q E h=>?_) (λcdv A outer s H vs Q E hr h=>?_)
 ·obtain⟨O,ds,Qd,R,_,r,q,_⟩:=h;rw [r.length];exact len _ _ _ q
 ·obtain⟨O,ds,Qd,R,tr,r,q,k,kx⟩:=h;obtain⟨t,ht,q'⟩:=hbody cdv A outer s H O ds Qd R E hr q kx;refine⟨_,ht,O,_,_,oE tr r,q',λO' δ' σ' H' z w' S'=>?_,λd v H' z s' r'=>k d v H' z s' r',λ_ _ _ _ z=>z.elim,λ_ _ _ _ z=>z.elim⟩;exact k _ _ _ z w'.same .non
def Cs(R:Prop)(u:DA):DS:=λ_ δ=>u δ λds=>ds.length<=VT/\R
section
variable {N:List Str} {qual:Str} {scope:Wc} {f0:VM} {cd:VJ} {A:V1} {outer:List Env} {s:VN} {H:Hp} {O:Ex} {E:XK} {R:Prop} {C:VM}
theorem Lc{x:Str}{bm:List VJ}{B newId initId:String}{e:VR}{es:List VR}{np cpos pos:Pos}{u:DA}(hx:R->∀H',au H H'->E (.ref C) none H')(hm:mg x=some (.ref C))(q:QC K C bm newId=true)(FB:ExcBaseFacts B newId initId bm)
 (ha:PA (bO (bx P w) P w K mg base N qual scope f0 cd A outer s H E) (e::es) (d8 K H O u))(hg:Gl (bO (bx P w) P w K mg base N qual scope f0 cd A outer s H E) x:=by exact rfl)(hd:(x==("__debug__":Str))=false:=by decide)
 (he:VP (e::es) (bO (bx P w) P w K mg base N qual scope f0 cd A outer s H E).env=(false,eval e (bO (bx P w) P w K mg base N qual scope f0 cd A outer s H E).env)::VP es (bO (bx P w) P w K mg base N qual scope f0 cd A outer s H E).env:=by rfl)
 (hpl:(V6 cpos (VP es (bO (bx P w) P w K mg base N qual scope f0 cd A outer s H E).env)).any (·.1)=false:=by rfl):
 PS (bO (bx P w) P w K mg base N qual scope f0 cd A outer s H E) (.Raise (some (.Call (.Name x np) (e::es) [] cpos)) none pos) (bw K H O (Cs R u)):=
 λXz s1 σ H1 D I ⟨O1,δ,EE,w1,q1,_,_,_,_⟩=>GB (Ex:=λH2=>R/\au H H2) hm q FB rfl hg ha (λXz σ H2 s2 h' e args I2 hM uu78=>by obtain⟨r,sm⟩:=uu78;exact Gz I2 hM (hx r H2 sm)) hd he hpl Xz s1 σ H1 D I
  ⟨O1,δ,_,w1,q1,λds vs H2 uu79 s2 r2=>by obtain⟨hl,r⟩:=uu79;exact⟨by rw [r2.length];exact hl,r,w1.same.trans s2⟩⟩
def Ct(F:DX)(R:Prop)(t:DA):DT:=λδ Q=>t δ λds=>F ds Q R
theorem kX{k j:Nat}{f:VM}{fd:VU}{ps:List Str}{F:DX}{st:V0}{x:Str}{p pos:Pos}{e:VR}{es:List VR}{u:DA}(hx:R->∀H',au H H'->E (.ref C) none H')(G:aF P w K mg base (bx P w) k f fd ps (fk K C F))
 (hr:bp j (bO (bx P w) P w K mg base N qual scope f0 cd A outer s H E).A)(Nf:Fn K mg x st f fd ps)(ha:PA (bO (bx P w) P w K mg base N qual scope f0 cd A outer s H E) (e::es) (d8 K H O u))(hk:k<=j:=by decide)
 (hg:Gl (bO (bx P w) P w K mg base N qual scope f0 cd A outer s H E) x:=by exact rfl)(hdb:(x==("__debug__":Str))=false:=by decide)
 (he:VP (e::es) (bO (bx P w) P w K mg base N qual scope f0 cd A outer s H E).env=(false,eval e (bO (bx P w) P w K mg base N qual scope f0 cd A outer s H E).env)::VP es (bO (bx P w) P w K mg base N qual scope f0 cd A outer s H E).env:=by rfl)
 (hpl:(V6 pos (VP es (bO (bx P w) P w K mg base N qual scope f0 cd A outer s H E).env)).any (·.1)=false:=by rfl):
 DE (bO (bx P w) P w K mg base N qual scope f0 cd A outer s H E) H O (.Call (.Name x p) (e::es) [] pos) (Ct F R u):=
 PE.imp (qX (E:=λcls d H1=>cls= .ref C/\d=none/\R/\au H H1) G (hr.mono hk) hg Nf.m Nf.kp Nf.b .nil (GA λcls d H' uu80=>by obtain⟨e,e2,r,sm⟩:=uu80;exact e▸e2▸hx r H' sm) ha hdb he hpl)
  λσ H1 Q uu81=>by obtain⟨O1,δ,Qd,w1,q,k1⟩:=uu81;exact⟨O1,δ,_,w1,q,λds vs H2 q1 s1 r1=>⟨O1,ds,Qd,R,(w1.mono s1).trk,by rw [Po];exact r1,q1,λd v H3 q2 s2 r2=>k1 d v H3 q2 (s1.trans s2) r2,λr H3 s2=>⟨rfl,rfl,r,w1.same.trans (s1.trans s2)⟩⟩⟩
end
end
section
variable {P:VW} {w:VZ} {K:Og} {mg:Str->Option VJ} {base:VY}
def mK(PT:VM)(q:Str)(K:Og)(F:List VI->(VI->Prop)->Prop):Sp:=λvs H Q E=>H PT=some (fj q)/\aQ K F vs H Q E
theorem dU.okDL{x qual q:Str}{st:V0}{f c PT:VM}{fd:VU}{N ps:List Str}{k:Nat}{F:List VI->(VI->Prop)->Prop}(Fu:dU K x qual st f fd)(hco:fd.code= .ref c)(S:aP N ps (aA st))(len:∀ds Q,F ds Q->ds.length=ps.length)
 (hbody:∀(cdv:VJ) (A:V1) (outer:List Env) (s:VN) (H:Hp) (O:Ex) (ds:List VI) (Q:VI->Prop) (E:XK),cdv= .ref c->H PT=some (fj q)->bp k (A.deeper (WE qual (aA st) s.heap.objs.size f cdv))->F ds Q->
  ∃t,bD (bO aK P w K mg base N qual (aA st) f cdv A outer s H E).nox (fx st) (bw K H O t)/\t {nx:=λ_=>Q .none,rt:=Q} (hG N ds)):aF P w K mg base aK (k+1) f fd ps (mK PT q K F):=by
 obtain⟨oc,od,kV,doc,pm,an,cdv,ct,osl,rfl,lk,hcd⟩:=Fu.ex;refine nT lk hcd S (λvs H Q E h=>?_) λA outer s H vs Q E hr hsp=>?_
 ·obtain⟨_,O,ds,Qd,_,r,q,_⟩:=h;rw [r.length];exact len _ _ q
 ·obtain⟨hP,O,ds,Qd,tr,r,q,k⟩:=hsp;obtain⟨t,ht,q'⟩:=hbody cdv A outer s H O ds Qd E hco hP hr q;refine⟨_,ht.nox,O,_,_,oE tr r,q',λO' δ' σ' H' z w' S'=>?_,λd v H' z s' r'=>k d v H' z s' r',λ_ _ _ _ z=>z.elim,λ_ _ _ _ z=>z.elim⟩;exact k _ _ _ z w'.same .non
end
section
variable {X:Cx} {Xz:List (VM×Obj)} {σ:St} {H:Hp} {s:VN}
theorem Ld(I:ae X Xz σ H s){O:Ex}{v:V}{d:VI}{u:VJ}(h:Dt X.K H O v d)(ht:bL d=true)(r:aH v u)(y:Str)(t:Tok)(hu:X.A.units < V9):SeqAt.RcAt X.A s (.str y t) u (Om (.str y) d):=by
 cases h with
 | non=>cases (show u=QV from r);simpa [Om] using SeqAt.RcAt.str_none y t
 | bl b=>cases (show u=QI b from r);simpa [Om] using SeqAt.RcAt.str_bool y t b
 | int i=>obtain⟨k,e⟩:=(show ∃t,u=QX i t from r);cases e;simpa [Om] using SeqAt.RcAt.str_int y t i k
 | str x=>obtain⟨k,e⟩:=(show ∃t,u=Qm x t from r);cases e;simpa [Om] using Uk y t x k
 | @tup a xs ds h n rr=>
  cases (show u=OU a from r);obtain⟨its,rv,p,_⟩:=I.tuple (.inl h);simpa [Om] using TR y t (show s.heap.IsTuple a its.toArray from p) hu
 | @tupK a xs ds h rr=>
  cases (show u=OU a from r);obtain⟨its,rv,p,_⟩:=I.tuple h.of0;simpa [Om] using TR y t (show s.heap.IsTuple a its.toArray from p) hu
 | @lst a xs ds h n rr=>
  cases (show u=OU a from r);obtain⟨its,rv,p,_⟩:=I.list (.inl h);simpa [Om] using SeqAt.RcAt.str_list y t p.isList hu
 | pack h n=>exact absurd ht (by simp [bL])
 | purse h n=>exact absurd ht (by simp [bL])
 | scr h r=>exact absurd ht (by simp [bL])
 | obj h e n r=>exact absurd ht (by simp [bL])
 | @dct0 a h n=>
  cases (show u=OU a from r);obtain⟨_,_,_,_,o,es,ep,e,c,dd,_⟩:=(show bI X.prog X.w H s.heap a (.dK []) from I.hok a _ h);simpa [Om] using SeqAt.RcAt.str_dict y t e c.1 dd hu
 | @dic a ob kv ks kp ds h e1 e2 n rr=>
  cases (show u=OU a from r);obtain⟨_,_,_,_,o,es,ep,e,c,dd,_⟩:=(show bI X.prog X.w H s.heap a (.dK kv) from(I.hok a _ h).2);simpa [Om] using SeqAt.RcAt.str_dict y t e c.1 dd hu
end
section
variable {X:Cx}
def Cu(K:Og):R2:=λx y H Q=>∃O dy z,Dt K H O y dy/\bL dy=true/\x= .str z/\Q (.bl (Om (.str z) dy)) H
theorem Le{k:Nat}(hr:bp k X.A):bq X (V2 .Eq) (Cu X.K):=by
 intro Xz s σ H x y v u Q I rx ry h;obtain⟨O,dy,z,hy,ht,rfl,q⟩:=h;obtain⟨t,rfl⟩:=rx;exact Ld I hy ht ry z t hr.units0 X.prog X.w X.xe _ (d4 I q rfl)
def Cv:VI->VI->(VI->Prop)->Prop:=λx y Q=>∃z,x= .str z/\bL y=true/\Q (.bool (Om (.str z) y))
theorem Lf{K:Og}:bN K (Cu K) Cv:=λH O x y dx dy Qd R _ hx hy uu82 k=>by
 obtain⟨z,e,ht,q⟩:=uu82;subst e;cases hx.str;exact⟨_,dy,z,hy.all,ht,rfl,k _ _ H q (au.refl _) (.bl _)⟩
end
theorem Cw{X:Cx}{K':Og}(h:X.K=K'):cO X (.builtin "isinstance") (λxs H Q=>∃(e C:VM)(c:V)(cv:VJ)(b:Bool),xs=[.ref e,c]/\H e=some (.ext (cB e (.ref C)))/\gI K' C/\(∀u,aH c u->u=cv)/\RO K' (.ref C) cv=some b/\Q (.bl b) H):=by
 subst h;exact GP
theorem Lg{X:Cx}{K':Og}(h:X.K=K'):cO X (.builtin "isinstance") (λxs H Q=>∃(e C q:VM)(cs:List VM)(b:Bool),xs=[.ref e,.ref q]/\H e=some (.ext (cB e (.ref C)))/\H q=some (.tup (cs.map V.ref))/\gI K' C/\Sn K' (.ref C) (cs.map OU)=some b/\Q (.bl b) H):=by
 subst h;exact GR
def Lh(P:VM)(q:Str)(H:Hp):Prop:=∀b,H b=none\/(∃o xs,H b=some (.frz o (.lst xs)))\/(b=P/\H b=some (fj q))
theorem Li{P:VW}{w:VZ}{K:Og}{mg mb:Str->Option VJ}{CX:eJ}{k:Nat}{fa a c PT:VM}{fd:VU}{x q:Str}{sp:Sp}{s₁:VN}{vs:List VJ}{ns:List Int}
 (KX:K.In s₁.heap)(hnt:noTabs K=true)(hns:s₁.heap.Ns VX mg)(hb:s₁.heap.Ns WS mb)(hbb:∀x:Str,x≠"__name__"->mb x=V3 x)(hlim:s₁.heap.NoLimit)(hg:s₁.gens=#[])
 (hC:CodeHd s₁.heap c PT)(hPT:s₁.heap.get? PT=some (tabObj #[]))(hbm:∃bm ob,mg "__builtins__"=some (.ref bm)/\bm≠WS/\s₁.heap.get? bm=some ob/\ob.cls= .type "module"/\ob.dict=some WS/\ob.data= .plain)
 (ha:s₁.heap.get? a=some {cls:= .type "list",data:= .seq vs.toArray})(hi:IntsAre vs ns)(hl:ns.length<=VT)(hr:bp k callerA)
 (F:∀base:VY,K.In base->base.Ns VX mg->jm base mg c PT->aF P w K mg base CX k fa fd [x] sp)(hbind:∀(s:VN) (u:VJ),BindsTo s fd ⟨[u],[]⟩ [(x,u)])
 (hsp:∀H:Hp,H PT=some (fj q)->bf K H a (ns.map V.int)->sp [.ref a] H (λv _=>v= .bl true) λ_ _ _=>False)
 (hCX:∀H e s',CX [] H s₁ (λ_ _ _=>False) e s'->False):
 WB (VS P w) callerA (.call (.ref fa) ⟨[.ref a],[]⟩) (λr s'=>r= .ok (.ret (.bool true))/\OldK s₁.heap s'.heap/\s'.os=s₁.os/\WT s'.gens) s₁:=by
 have rv:=vT hi;have lenV:=hi.length;have naP:a≠PT:=λe=>by rw [e,hPT] at ha;cases ha
 have KP:K.lookup PT=none:=by
  cases q:K.lookup PT with
  | none=>rfl
  | some o=>
   have e:=KX PT o q;rw [hPT] at e;cases e;have h2:=Qe.mp hnt (PT,tabObj #[]) (mem_of_lookupK q);exact absurd (show false=true from h2) O6
 have core:∀H:Hp,Lh PT q H->H PT=some (fj q)->bf K H a (ns.map V.int)->bJ P w H s₁.heap->(∀b,H b≠none->b=a\/b=PT)->(H a≠none->K.lookup a=none)->
  WB (VS P w) callerA (.call (.ref fa) ⟨[.ref a],[]⟩) (λr s'=>r= .ok (.ret (.bool true))/\OldK s₁.heap s'.heap/\s'.os=s₁.os/\WT s'.gens) s₁:=by
  intro H hO hHP hS hok hA hK;have base_of:∀{b:VM}{o:Obj},s₁.heap.get? b=some o->H b=none->(gX s₁.heap H).get? b=some o:=λe n=>EV e n;have noA:∀{b:VM}{o:Obj},s₁.heap.get? b=some o->(∀xs,o.data≠ .seq xs 0)->(∀xs,o.data≠ .fields xs)->H b=none:=λ{b o} e d d2=>by
   cases q:H b with
   | none=>rfl
   | some u=>
    rcases hA b (by rw [q];simp) with e' | e' <;> subst e'
    ·rw [ha] at e;cases e;exact absurd rfl (d _)
    ·rw [hPT] at e;cases e;exact absurd rfl (d2 _)
  have nsK:∀{b:VM}{m:Str->Option VJ},s₁.heap.Ns b m->(gX s₁.heap H).Ns b m:=λ{b m} ⟨o,es,ep,e,d,r⟩=>⟨o,es,ep,base_of e (noA e (λ_ z=>by rw [d] at z;cases z) λ_ z=>by rw [d] at z;cases z),d,r⟩;have hKb:K.In (gX s₁.heap H):=λb o e=>base_of (KX b o e) (by
   cases q:H b with
   | none=>rfl
   | some u=>
    rcases hA b (by rw [q];simp) with e' | e' <;> subst e'
    ·rw [hK (by rw [q];simp)] at e;cases e
    ·rw [KP] at e;cases e)
  have hM:Mod K mg (gX s₁.heap H):=⟨hKb,nsK hns,⟨mb,nsK hb,hbb⟩,let ⟨mc,h1,h2⟩:=hlim;⟨mc,nsK h1,h2⟩⟩;have e0:i4 P w K mg (gX s₁.heap H) callerA [] s₁ H:=⟨rfl,hM,λb o e=>EW e,Vj (EU _ _),trivial,λb hb=>absurd (show b∈([]:List VM) from hb) VH,hok,.of_eq hg⟩;have hL:jm (gX s₁.heap H) mg c PT:=by
   refine⟨?_,λe=>?_,?_⟩
   ·obtain⟨o,vs,file,tf,flags,tg,inF,text,tt,g1,g2,r1,r2,r3,r4,r5,r6,r7,ne⟩:=hC;refine⟨o,vs,file,tf,flags,tg,inF,text,tt,base_of g1 ?_,g2,r1,r2,r3,r4,r5,r6,r7,ne⟩;cases q:H c with
    | none=>rfl
    | some u=>
     rcases hA c (by rw [q];simp) with e' | e'
     ·rw [e',ha] at g1;cases g1;exact absurd (show("list":String)="code" from by injection g2) VC
     ·exact absurd e' ne
   ·obtain⟨o,es,ep,g1,g2,_⟩:=hns;rw [e,hPT] at g1;cases g1;cases g2
   ·obtain⟨bm,ob,b1,b2,b3,b4,b5,b6⟩:=hbm;refine⟨bm,ob,b1,b2,λe=>?_,λe=>?_,base_of b3 (noA b3 (λ_ z=>by rw [b6] at z;cases z) λ_ z=>by rw [b6] at z;cases z),b4,b5,b6⟩
    ·obtain⟨o,es,ep,g1,g2,_⟩:=hns;rw [<-e,b3] at g1;cases g1;rw [b6] at g2;cases g2
    ·rw [e,hPT] at b3;cases b3;cases b4
  refine Wr ((F _ hKb (nsK hns) hL).run callerA [] s₁ H ⟨[.ref a],[]⟩ [.ref a] [.ref a] _ _ hr e0 (hbind s₁ (.ref a)) (.cons rfl .nil) (hsp H hHP hS)) λr s' h=>?_;cases r with
  | error e=>exact(hCX H e s' h).elim
  | ok fl=>
   cases fl with
   | next=>exact PY h
   | brk=>exact PY h
   | cont=>exact PY h
   | ret u=>
    obtain⟨v,H',os,bare,un,hok',r',q⟩:=h;have q':v= .bl true:=q;subst q';obtain rfl:u=QI true:=r';refine⟨rfl,⟨λb o e=>?_,λb o e=>un.there b o e VH⟩,os,bare⟩;cases q:H b with
    | none=>exact .inl (un.keep b o e q (by intro z;exact absurd (show b∈([]:List VM) from z) VH) VH)
    | some u=>
     rcases hO b with z | ⟨ob,xs,z⟩ | ⟨rfl,z⟩
     ·rw [q] at z;cases z
     ·have z2:=un.frzs b ob _ z;obtain⟨e1,_⟩:=hok b _ z;obtain⟨e2,_⟩:=hok' b _ z2;rw [e] at e1;cases e1;exact .inl e2
     ·obtain⟨more,z2⟩:=un.tbls b _ z;obtain⟨_,_,_,ps,e2,_⟩:=hok' b _ z2;rw [hPT] at e;cases e;exact .inr (.inl ⟨(hC.tab hPT).isCodeTable,rfl,#[],ps,rfl,by rw [Array.empty_append];exact e2⟩)
 cases hk:K.lookup a with
 | some o=>
  have e:=KX a o hk;rw [ha] at e;cases e;refine core (λb=>if b=PT then some (fj q) else none) (λb=>?_) (VF rfl) (.inr ⟨_,vs.toArray,_,hk,rfl,rfl,rfl,by rw [OC,lenV];exact hl,by simpa using rv⟩) (λb u z=>?_) (λb z=>?_) λz=>absurd (VE naP) z
  ·by_cases hb:b=PT
   ·exact .inr (.inr ⟨hb,VF hb⟩)
   ·exact .inl (VE hb)
  ·by_cases hb:b=PT
   ·have z':=(VF hb).symm.trans z;cases z';subst hb;exact⟨q,0,rfl,#[],hPT,trivial,λ_ _ e=>nomatch e⟩
   ·have z':=(VE hb).symm.trans z;cases z'
  ·by_cases hb:b=PT
   ·exact .inr hb
   ·exact absurd (VE hb) z
 | none=>
  refine core (λb=>if b=PT then some (fj q) else if b=a then some (.frz {cls:= .type "list",data:= .seq vs.toArray} (.lst (ns.map V.int))) else none) (λb=>?_) (VF rfl) (.inl (.inr ⟨{cls:= .type "list",data:= .seq vs.toArray},(VE naP).trans (VF rfl)⟩)) (λb u z=>?_) (λb z=>?_) λ_=>hk
  ·by_cases hb:b=PT
   ·exact .inr (.inr ⟨hb,VF hb⟩)
   ·by_cases hb2:b=a
    ·exact .inr (.inl ⟨_,_,(VE hb).trans (VF hb2)⟩)
    ·exact .inl ((VE hb).trans (VE hb2))
  ·by_cases hb:b=PT
   ·have z':=(VF hb).symm.trans z;cases z';subst hb;exact⟨q,0,rfl,#[],hPT,trivial,λ_ _ e=>nomatch e⟩
   ·have z:=(VE hb).symm.trans z;by_cases hb2:b=a
    ·have z':=(VF hb2).symm.trans z;cases z';subst hb2;exact⟨ha,by rw [Oi];exact hl,vs,_,rv,ha⟩
    ·have z':=(VE hb2).symm.trans z;cases z'
  ·by_cases hb:b=PT
   ·exact .inr hb
   ·by_cases hb2:b=a
    ·exact .inl hb2
    ·exact absurd ((VE hb).trans (VE hb2)) z
theorem tabIn_of{K:Og}{x:Str}{f c P:VM}{oc o2:VJ}{od d2:Option VM}{osl s2:Array (Option VJ)}{fd:VU}{vs:Array VJ}(a:nsIn K VX x=some (some (.ref f)))(b:K.lookup f=some ⟨oc,od,.func fd,osl⟩)(e:fd.code= .ref c)
 (g:K.lookup c=some ⟨o2,d2,.fields vs,s2⟩)(j:(vs[11]?:Option VJ)=some (.ref P)):tabIn K x=some (c,P):=by
 unfold tabIn;simp only [a,b,e,g,j]
theorem Cy{X:Cx}:bq X (V2 .Is) (λx y H Q=>∃c d,x= .bl c/\y= .bl d/\Q (.bl (c==d)) H):=by
 intro Xz s σ H x y v u Q I rx ry h;obtain⟨c,d,rfl,rfl,q⟩:=h;cases ry;cases rx;exact is_bool (d4 I q rfl)
def Cz:VI->VI->(VI->Prop)->Prop:=λx y Q=>∃c d,x= .bool c/\y= .bool d/\Q (.bool (c==d))
theorem CA{K:Og}:bN K (λx y H Q=>∃c d,x= .bl c/\y= .bl d/\Q (.bl (c==d)) H) Cz:=λH O x y dx dy Qd R _ hx hy uu83 k=>by
 obtain⟨c,d,e1,e2,q⟩:=uu83;subst e1 e2;exact⟨c,d,hx.bl,hy.bl,k _ _ H q (au.refl _) (.bl _)⟩
section
variable {X:Cx} {Xz:List (VM×Obj)} {σ:St} {H:Hp} {s:VN} {a:VM} {kvs:List (ak×V)} {k:ak} {z:V} {u r:VJ} {A:V1} {E:VJ->VN->Prop}
theorem Lj{Q:VJ->VN->Prop}(I:ae X Xz σ H s)(e:H a=some (.dK kvs))(ry:aH (kV k) u)(rd:aH z r)(l:kvs.length < VT)
 (h1:∀v w' s',cJ kvs k=some v->ae X Xz σ H s'->aH v w'->Q w' s')(h2:cJ kvs k=none->∀s',ae X Xz σ (av H a (.dK (putK kvs k z))) s'->Q r s'):
 VQ (VS X.prog X.w) A (call (.builtin "dict.setdefault") [.ref a,u,r]) Q E s:=by
 obtain⟨zz,hd,vs,rel,dd⟩:=rW I.hok e;have hl:(putK kvs k z).length<=VT:=by have:=oG kvs k z;omega
 refine call_meetsIn Sq dd.typeIs PySem.F.entry_dict_setdefault (PySem.F.args_dict_setdefault_3 _ _ _) (kt_meets_setdefault (cY X.prog X.w) a (ja ry) hd r)
  ⟨vs,dd,by rw [<-rel.length];exact zz,λv hv=>?_,λhn h' dd' hs=>?_⟩
 ·cases hk:cJ kvs k with
  | none=>have:=(rel.val k).isSome_eq;rw [hk,hv] at this;cases this
  | some x=>
   obtain⟨w',hw,rw'⟩:=fw.some_of (v:=x) (o:=valueAt vs k) (by rw [<-hk];exact rel.val k);rw [hv] at hw;cases hw;exact h1 x _ _ hk (I.tok _) rw'
 ·cases hk:cJ kvs k with
  | some x=>have:=(rel.val k).isSome_eq;rw [hk,hn] at this;cases this
  | none=>
   have he:∃q,h'.get? a=some q:=let ⟨q,_,_,hq,_⟩:=dd';⟨q,hq⟩
   exact h2 hk _ (oH I (by rw [e];exact P1) hs he (rX hl hd (rel.put k rd) dd'))
end
def Lk(td ty tx:TE):TE:=λσ H Q=>td σ H λx H1=>∃a,x= .ref a/\rY H1 a/\ty σ H1 λy H2=>tx σ H2 λz H3=>∃kvs k,H3 a=some (.dK kvs)/\y=kV k/\kvs.length < VT/\
 (∀v,cJ kvs k=some v->Q v H3)/\(cJ kvs k=none->Q z (av H3 a (.dK (putK kvs k z))))
section
variable {X:Cx} {o e f:VR} {apos cpos:Pos} {td ty tx:TE}
theorem Ll(ho:PE X o td)(he:PE X e ty)(hf:PE X f tx)(m:M2 X o "setdefault" apos e f cpos):PE X (.Call (.Attribute o "setdefault" apos) [e,f] [] cpos) (Lk td ty tx):=by
 intro Xz s σ H Q I h;refine wpAny_Call_method m.base m.few m.line Tg Sq PySem.F.type_dict_setdefault (az (ho Xz s σ H _ I h) λu s1 ⟨x,H1,I1,rx,a,ex,d,q1⟩=>?_);subst ex;obtain rfl:u=OU a:=rx;obtain⟨t1,t2,_⟩:=An I1 d;refine⟨t1,t2,?_⟩;rw [m.trees];refine R4 rfl (Ry (QZ (az (he Xz s1 σ H1 _ I1 q1) λiv s2 ⟨y,H2,I2,ry,q2⟩=>
  QZ (az (hf Xz s2 σ H2 _ I2 q2) λfv s3 ⟨z,H3,I3,rz,kvs,k,ea,ey,hl,q3,q4⟩=>RV ?_))))
 subst ey;exact Lj I3 ea ry rz hl (λv w' s' hv I' r'=>⟨v,H3,I',r',q3 v hv⟩) (λhn s' I'=>⟨z,_,I',rz,q4 hn⟩)
end
section
variable {X:Cx} {H0:Hp} {O0:Ex}
def CB(i:Nat)(tk tv:DT):DS:=λE δ=>∃kd,δ[i]?=some (some (.k kd))/\tk δ λy=>tv δ λd=>∃k,y=fG k/\kd.length < VT/\if (cy kd k).isSome=true then E.nx δ else E.nx (δ.set i (some (.k (eg kd k d))))
theorem CC{i:Nat}{o e f:VR}{tk tv:DT}{apos cpos pos:Pos}(ho:PE X o (dR i))(he:DE X H0 O0 e tk)(hf:DE X H0 O0 f tv)(m:M2 X o "setdefault" apos e f cpos)(hs:Wb (.Call (.Attribute o "setdefault" apos) [e,f] [] cpos) none pos.line X.env=pure false:=by rfl):
 PS X (.Expr (.Call (.Attribute o "setdefault" apos) [e,f] [] cpos) pos) (bw X.K H0 O0 (CB i tk tv)):=
 (lC (Ll ho he hf m) hs).imp λD σ H uu87=>by
  obtain⟨O,δ,E,w,⟨kd,e,q⟩,k1,k2,k3,k4⟩:=uu87;obtain⟨l,kv,h,a,b,c,r⟩:=w.ownK e;refine⟨.ref l,h,l,rfl,.inl ⟨kv,.inl c⟩,O,δ,_,w,q,λy uy H2 q2 s2 r2=>⟨O,δ,_,w.mono s2,q2,λd u H3 ⟨k,ek,hl,q3⟩ s3 r3=>?_⟩⟩;subst ek;obtain rfl:=r2.key;have s23:=s2.trans s3;have w3:=w.mono s23;have r4:=r.mono s23;refine⟨kv,k,s23 _ _ c,rfl,by rw [r4.length];exact hl,λv hv=>?_,λhn=>?_⟩
  ·have es:(cy kd k).isSome=true:=by rw [<-r4.none,hv];rfl
   rw [VF es] at q3;exact k1 _ _ _ _ q3 w3 (aY.same s23)
  ·have es:¬(cy kd k).isSome=true:=by rw [<-r4.none,hn];exact O6
   rw [VE es] at q3;refine k1 _ _ _ _ q3 (w3.putK e h (r4.put k r3)) ⟨λb' o' z n=>?_,λ_ _ n=>n⟩;rw [aE (λy=>n (by rw [y];exact a))];exact s23 _ _ z
theorem Lm{X:Cx}:cO X (.type "list") (λxs H Q=>X.calm=true/\∃a kv,∃ss:List Str,xs=[.ref a]/\Rd H a (.dK kv)/\kv.map (·.1)=ss.map PM/\∀l,H l=none->Q (.ref l) (av H l (.lst (ss.map V.str)))):=by
 intro Xz s σ H xs us Q I r h;obtain⟨hc,a,kv,ss,rfl,ha,hk,q⟩:=h;obtain⟨u,rfl,rx⟩:=dj r;cases rx;obtain⟨hz,lo,vs,rel,dd⟩:=iI I.hok ha;obtain⟨ep,da⟩:=dd.dictAt;have hlen:vs.length=ss.length:=by rw [<-rel.length,<-Oi (f:=(·.1)),hk,Oi]
 have hz2:ss.length<=VT:=by
  have:kv.length=ss.length:=by rw [<-Oi (f:=(·.1)),hk,Oi]
  omega
 refine kdl_call (kdl_dict (kvs:=vs) (ep:=ep) lo) (I.ok.hd hc) da VD λh' tk acc' c' k' g it=>?_;have S:Wh acc'.toList ss:=sM (P:=X.prog) (w:=X.w) (by rw [OO];exact it.1.trans hlen) λj v e=>by
  obtain⟨k,x,ek,kk⟩:=it.2 j v (by rw [<-Rr];exact e);have e1:(vs.map (·.1))[j]?=some k:=by rw [OD,ek];rfl
  rw [<-rel.keys,hk,OD] at e1;cases es:ss[j]? with
  | none=>rw [es] at e1;cases e1
  | some y=>rw [es] at e1;cases e1;exact⟨y,rfl,kk⟩
 refine⟨.ref _,_,I.laid (t':=tk) (o:= .lst (ss.map V.str)) k' (Ot _) ?_,rfl,q _ (I.hok.fresh (Ot _))⟩;exact⟨by rw [Oi];exact hz2,_,c',mn S,by rw [g]⟩
def CD(t:DT):DA:=λδ Q=>t δ λd=>∃ks ds,d=jk ks ds/\Q (ks.map .str)
theorem CF{o:VR}{t:DT}{np p:Pos}(hc:X.calm=true)(hg:Gl X "list")(hm:X.mg "list"=none)(hv:V3 "list"=some (.type "list"))(ho:DE X H0 O0 o t)(he:VP [o] X.env=(false,eval o X.env)::VP [] X.env:=by rfl)(hpl:(V6 p (VP [] X.env)).any (·.1)=false:=by rfl):
 FE X H0 O0 (.Call (.Name "list" np) [o] [] p) (CD t):=
 (fP Lm hg hm hv (bS ho dF he) (he:=he) (hpl:=hpl)).imp λσ H Q uu89=>by obtain⟨O,δ,Qd,w,q,k⟩:=uu89;exact⟨O,δ,_,w,q,λd v H1 uu90 s1 r1=>by
  obtain⟨ks,ds,e,q1⟩:=uu90;subst e;obtain⟨a,ob,kv,rfl,h,e1,n,rr⟩:=r1.dicE;exact⟨hc,a,kv,ks,rfl,.inr ⟨_,h⟩,e1,λp hp=>k _ _ _ _ q1 s1 hp (aq.ofStrs _)⟩⟩
end
def mL(v:V)(fr:List Nat)(σ:St):St:=some v::fr.map λj=>(σ[j]?).join
section
variable {X:Cx} {Xz:List (VM×Obj)} {σ:St} {H:Hp} {s:VN}
def CG(X:Cx)(base:VY)(σ:St)(scope:Wc)(N':List Str)(fr:List Nat)(cl:List (Str×VM))(qual:Str)(f c' k:Nat)(body:VR):Sp:=λvs H2 Q E=>∃v,vs=[v]/\H2 c'=some (.cod qual)/\
 ∀(A:V1)(outer:List Env)(s2:VN),bp k (A.deeper (jX scope qual s2.heap.objs.size f c' cl))->∃t,PE (iP X base scope N' cl qual f c' A outer s2 H2 E) body t/\t (mL v fr σ) H2 Q
theorem Ln{y:Str}{f c' k:Nat}{pm ctv:VJ}{qual:Str}{body:VR}{scope:Wc}{N':List Str}{fr:List Nat}{params:Xh}(S:bt X.env.scope X.N N' 1 fr scope)(hy:N'[0]?=some y)(hyl:scope.names.lookup y=some .local)(I:ae X Xz σ H s)
 (ho:s.heap.get? f=some (kla_obj "<lambda>" qual params body scope (dz X.env scope.names []) pm c' ctv))(hf:H f=none)(hfs:f ∉ aX X.stack)(hfn:∀x,X.fn x=true)
 (hco:scope.isCoroutine=false)(hgen:scope.isGenerator=false)(hcell:∀x∈scope.names,x.2≠ .cell):
 aF X.prog X.w X.K X.mg (gQ X s H) (bx X.prog X.w) (k+1) f (kla_fn "<lambda>" qual params body scope (dz X.env scope.names []) pm (.ref c') ctv) [y] (CG X (gQ X s H) σ scope N' fr (dz X.env scope.names []) qual f c' k body):=by
 have hcl:=nZ S I;refine⟨λvs H2 Q E h=>by obtain⟨v,rfl,_⟩:=h;rfl,λA outer s2 H2 args us vs Q E hr e0 hb rv hsp=>?_⟩;obtain⟨v,rfl,hc,hbody⟩:=hsp;obtain⟨u,rfl,ru⟩:=dj rv;have fo:=(e0.bs f _ (mJ ho hf hfs)).1;obtain⟨oc,vs,t,g1,g2,g3⟩:=id (e0.hok c' _ hc);have lim:s2.heap.NoLimit:=e0.mod.nolimit.keeps λb o e=>(e0.bs b o e).1;refine kla_callFunE hr.depth fo rfl hco hgen rfl ⟨c',oc,vs,t,rfl,g1,g2,g3⟩ (hb _ _ _ _ ?_);refine wpAny_newFunctionEnv hcell (λx hx=>by have hx:x∈[(y,u)]:=hx;rw [ON.mp hx];exact hyl) (λh₁ hns hsb=>⟨lim.fresh _ hsb,?_⟩) S.kind;obtain⟨t,ht,hq⟩:=hbody A outer s2 (hr.deeper _);have hk₁:∀b o,s2.heap.get? b=some o->h₁.get? b=some o:=λb o e=>hsb.extBut b o (OX (OB e)) (Oo _ e);have hcb:∀x c,(dz X.env scope.names []).lookup x=some c->∀u,s.heap.IsCell c u->s2.heap.IsCell c u:=λx c e u uu91=>by
  obtain⟨o,eo,d⟩:=uu91;have ex:=hcl x c e;refine⟨o,(e0.bs c o (mJ eo (I.freeC x c ex) λhm=>?_)).1,d⟩;rcases Ox.mp (I.stkSub c hm) with z | z
  ·exact I.cne x c ex z
  ·have h1:=I.ok.cab x c (hfn x) ex;obtain⟨_,o',ho',_⟩:=I.ok.funs.mem z;exact absurd (OW (OB ho') h1) (Qg _)
 have J:ae (iP X (gQ X s H) scope N' (dz X.env scope.names []) qual f c' A outer s2 H2 E) [] (mL v fr σ) H2 {s2 with heap:=h₁,toks:=s2.toks+[(y,u)].length}:=by
  refine⟨⟨e0.mod,S.kind,rfl,rfl,Ot _,λx y c h1 h2=>I.ok.inj x y c (hcl x c h1) (hcl y c h2),λx hx=>?_,λx c h=>absurd h (by simp [iP]),λ_=>hr.hd,TJ e0.frames,.inr ⟨rfl,rfl⟩,λb z=>absurd (show b∈([]:List VM) from z) VH,e0.bs,e0.bsz,λb _ _ z=>absurd (show b∈([]:List VM) from z) VH,λb z=>absurd (show b∈([]:List VM) from z) VH,e0.funs,e0.frf⟩,
   rfl,e0.bare,Un.kept hk₁,⟨_,hns,λi x v h1 h2 h3=>?_⟩,λx c e=>?_,e0.hok.fresh (Ot _),λx c e=>?_,λp hp=>absurd (show p∈([]:List (VM×Obj)) from hp) VH,e0.hok.kept hk₁,?_⟩
  ·have hx:scope.names.lookup x=some .cell\/scope.names.lookup x=some .free:=hx;rcases hx with z | z
   ·exact absurd rfl (hcell _ (PZ z))
   ·exact lR _ _ (PZ z)
  ·cases i with
   | zero=>
    have h1:N'[0]?=some x:=h1;rw [hy] at h1;cases h1;cases h2;exact⟨u,ru,.inl ⟨hyl,VH⟩⟩
   | succ i=>
    have h2':(fr.map λj=>(σ[j]?).join)[i]?=some (some v):=h2;have h1':(N'.drop 1)[i]?=some x:=by rw [Ue,Ud];exact h1
    have hmem:x∈N'.drop 1:=OH h1';have e2:(fr.map λj=>X.N[j]?)[i]?=some (some x):=by
     rw [S.slot,OD,h1'];rfl
    obtain⟨j,hj,ej⟩:∃j,fr[i]?=some j/\X.N[j]?=some x:=by
     rw [OD] at e2;cases e:fr[i]? with
     | none=>rw [e] at e2;cases e2
     | some j=>rw [e] at e2;exact⟨j,rfl,Pk e2⟩
    have hv:σ[j]?=some (some v):=by
     rw [OD,hj] at h2';have h3':(σ[j]?).join=some v:=Pk h2';cases e:σ[j]? with
     | none=>rw [e] at h3';cases h3'
     | some o=>rw [e] at h3';rw [show o=some v from h3']
    obtain⟨m,hn0,hl⟩:=I.loc;have ho:=S.outer' x hmem;obtain⟨u,ru,lk⟩:=hl j x v ej hv (.inr ho);refine⟨u,ru,.inr ⟨.inr (S.frees x hmem),?_⟩⟩;rcases lk with⟨z,_⟩ | ⟨_,c,hc,hx⟩
    ·exfalso;rcases ho with ho | ho
     ·exact absurd (z.symm.trans ho) VH
     ·exact absurd (z.symm.trans ho) VH
    ·obtain⟨c2,hc2⟩:=lR (env:=X.env) scope.names [] (PZ (S.frees x hmem));have:=hcl x c2 hc2;rw [hc] at this;cases this;exact⟨c,hc2,(hcb x c hc2 _ hx).keeps hk₁⟩
  ·obtain⟨v,q⟩:=I.cell x c (hcl x c e);exact⟨v,(hcb x c e v q).keeps hk₁⟩
  ·cases q:H2 c with
   | none=>rfl
   | some u=>
    obtain⟨v,o,eo,d⟩:=I.cell x c (hcl x c e);have ex:=hcl x c e;have:=(e0.bs c o (mJ eo (I.freeC x c ex) λhm=>?_)).2
    ·rw [q] at this;cases this
    ·rcases Ox.mp (I.stkSub c hm) with z | z
     ·exact I.cne x c ex z
     ·have h1:=I.ok.cab x c (hfn x) ex;obtain⟨_,o',ho',_⟩:=I.ok.funs.mem z;exact absurd (OW (OB ho') h1) (Qg _)
  ·unfold mL;show _=N'.length;rw [OG,Oi,S.len,Ud]
 refine kla_codeExpr (V8 (ht [] _ (mL v fr σ) H2 Q J hq) (λv s' hl=>?_) λ_ _ y=>y);obtain⟨v',H',J',rv,q⟩:=hl;exact⟨v',H',J'.os,J'.bare,J'.base,J'.hok,rv,q⟩
def CH(X:Cx)(d:Nat)(t:TA)(C:VM)(i:Nat)(ts:TS):TS:=λD σ H=>∃(f:VM)(k:Nat)(fd:VU)(sp:Sp)(pn:Str)(o:VJ×Option VM×Array (Option VJ)),σ[d]?=some (some (.ref f))/\X.base.get? f=some ⟨o.1,o.2.1,.func fd,o.2.2⟩/\bp k X.A/\
 aF X.prog X.w X.K X.mg X.base (bx X.prog X.w) k f fd [pn] sp/\eL X.K fd [pn] []/\t σ H λvs H1=>sp vs H1 (λ_ H2=>D.nx σ H2) (λcls _ H2=>cls= .ref C/\∀e,H2 e=none->
 ts {nx:=λσ' H'=>D.nx (σ'.set i none) H',rt:=D.rt} (σ.set i (some (.ref e))) (av H2 e (.ext (cB e (.ref C)))))
theorem Lo{a:VR}{t:TA}{C C':VM}{x c n:Str}{p cp ep np hp tp:Pos}{b₀:V0}{suite:List V0}{i d:Nat}{ts:TS}{bmB bmB':List VJ}{newId newId':String}(ha:∀E',PA (X.wish E') [a] t)(hd:X.N[d]?=some x)(hv:iw X.env.scope x)
 (hst:X.stack=X.env::X.outer)(hfr:X.env.frame=some X.env.locals)
 (hmc:X.mg c=some (.ref C'))(hgc:Gl X c)(q:QC X.K C bmB newId=true)(q':QC X.K C' bmB' newId'=true)(hB:bmB'.contains (.type "BaseException")=true)
 (hin:Q5 X.K C (.ref C')=some true)
 (hN:X.N.Nodup)(hi:X.N[i]?=some n)(hn:X.env.scope.names.lookup n=some .local)(hs:∀e,bD (X.inEx e) (b₀::suite) ts)
 (hdb:(x==("__debug__":Str))=false:=by decide)(hdc2:(x==("__classdict__":Str))=false:=by decide)(hdc:(c==("__debug__":Str))=false:=by decide)(he:VP [a] X.env=(false,eval a X.env)::VP [] X.env:=by rfl)(hsw:Wb (.Call (.Name x p) [a] [] cp) none ep.line X.env=pure false:=by rfl):
 PS X (.Try [.Expr (.Call (.Name x p) [a] [] cp) ep] [.ExceptHandler (some (.Name c np)) (some n) (b₀::suite) hp] [] [] tp) (CH X d t C i ts):=by
 intro Xz s σ H D I h;refine wpAny_Try_except ?_;generalize hEh:(λ(e:VJ) (s₁:VN)=>VQ (VS X.prog X.w) X.A (noteFrame e X.env) (λ_ s₂=>VQ (VS X.prog X.w) X.A (setFlight e none) (λ_ s₃=>VQ (VS X.prog X.w) X.A (handleBy e X.env [.ExceptHandler (some (.Name c np)) (some n) (b₀::suite) hp]) (SP X Xz D) X.xe s₃) X.xe s₂) X.xe s₁)=Eh;have I':ae (X.wish Eh) Xz σ H s:=I.wish Eh;have out:VQ (VS X.prog X.w) X.A (eval (.Call (.Name x p) [a] [] cp) X.env) (λ_ s₁=>∃H',ae X Xz σ H' s₁/\D.nx σ H') Eh s:=by
  obtain⟨f,k,fd,sp,pn,⟨oc,od,osl⟩,ef,ho,hr,F,hb,q1⟩:=h;refine Ws (az (nu (X:=X.wish Eh) hd hv hdb hdc2 Xz s σ H (λv H'=>v=V.ref f/\H'=H) I' ⟨_,ef,rfl,rfl⟩) λu s1 ⟨x',H1,I1w,r,e1,e2⟩=>?_);subst e1;subst e2;cases r;have X0:∀h:VY,h.get? f=some ⟨oc,od,.func fd,osl⟩->Og.In [(f,⟨oc,od,.func fd,osl⟩)] h:=λh eh a o e=>by
   rw [Pf] at e;split at e
   ·rename_i hh;cases e;have:a=f:=by simpa using hh
    rw [this];exact eh
   ·cases e
  refine Su (K:=[(f,⟨oc,od,.func fd,osl⟩)]) (h₀:=s1.heap) (X0 _ (I1w.unwish.bk _ _ ho)) (by simp [Rb]) (az (ha Eh cp Xz s1 σ H1 _ I1w q1) λus s0 ⟨vs,H0',I0w,rv,q2⟩=>⟨X0 _ (I0w.unwish.bk _ _ ho),?_⟩) he (by rfl);have I1:ae X Xz σ H0' s0:=I0w.unwish;have hl:(us++[]).length=[pn].length:=by rw [Po,<-rv.length];exact F.len _ _ _ _ q2
  have bd:=hb s0 us I1.kIn hl;rw [Po] at bd;refine wpAny_call (Wr (F.run X.A X.stack s0 H0' ⟨us,[]⟩ us vs _ _ hr I1.env0 bd rv q2) λr2 s2 hq=>?_);cases r2 with
  | ok fl=>
   cases fl with
   | ret u=>
    obtain⟨v,H2,I2,_,q2⟩:=I1.after hq;exact⟨H2,I2,q2⟩
   | next=>exact PY hq
   | brk=>exact PY hq
   | cont=>exact PY hq
  | error ev=>
   obtain⟨e,cls,a0,B,H2,rfl,ho,hgn,fl,hB2,un,kb,th,rfl,hsu⟩:=hq;rw [<-hEh];have fl':Uh B (X.env::X.outer) e (.ref C) a0 s2.heap:=by rw [<-hst];exact fl
   refine wpAny_looks_onW (by rw [I.ok.frames,hst]) hfr fl' λh4 held4 sm4=>?_;refine wpAny_landsW held4 λh5 fl5 sm5=>?_;have sm25:=sm4.trans sm5;have I5:ae X Xz σ H2 {s2 with heap:=h5}:=ae.call' (ch:=[]) (s':={s2 with heap:=h5}) I1 ho (we (X:=X) un fl fl5.1 sm25 kb th) (hB2.kept fl5.1) hgn (λ_ z=>nomatch z);have I5e:=I5.inEx e;obtain⟨ob,hob,hobc⟩:=fl5.there;have O:=(rH (x:=c) (mg:=X.mg) (C:=C') I.ok.mod.kin hmc q').obj;obtain⟨tl',N',nm',qn',bs',hd',sn',sub',ab',col',dd',k0',k1',k2',k3',k5',mN',hC',_,_,T'⟩:=O;have O2:=(rH (x:=c) (mg:=λ_=>some (.ref C)) (C:=C) I.ok.mod.kin rfl q).obj;obtain⟨tl,N,nm,qn,bs,hd,sn,sub,ab,col,dd,k0,k1,k2,k3,k5,mN,hC,_,_,T⟩:=O2;refine wpAny_handleBy_cons (codeAny_handlers_test (kc I5e hgc hmc ?_ hdc)) (by intro z;cases z);have hbase':tl'.contains (.type "BaseException")=true:=by rw [T'.hasType hB]
   refine GC (I5.bk _ _ hC) (I5.bk _ _ hC') hob hobc hbase' (GF I.ok.mod.kin hin hC) ?_;refine codeAny_handlers_suite_as ?_;refine lands_againW fl5 λh6 fl6 sm6=>?_;have eB:B.get? e=none:=fl.2.1;have nH2:H2 e=none:=by
    cases z:H2 e with
    | none=>rfl
    | some u=>
     obtain⟨ob',z'⟩:=(hB2 e u z).there;rw [eB] at z';cases z'
   have u6:=we (X:=X) un fl fl6.1 (sm25.trans sm6) kb th;have n1:∀o,s0.heap.get? e=some o->False:=λo z=>by
    by_cases hbf:e∈aX X.stack
    ·obtain⟨_,o',ho',hd'⟩:=fl.2.2.1.mem hbf;obtain⟨oe,ws,hoe,_,hoed,_⟩:=fl.first;rw [hoe] at ho';cases ho';exact hd' _ hoed
    ·obtain⟨o',z'⟩:=th e o z hbf;rw [eB] at z';cases z'
   have ne2:∀b u,H2 b=some u->b≠e:=λb u z w'=>by rw [w',nH2] at z;cases z
   have un6:Un (aX X.stack) [] H0' (av H2 e (.ext (cB e (.ref C)))) s0.heap h6:=
    ⟨u6.keep,u6.slot,λb o z nn hx=>by rw [aE (λw'=>n1 o (by rw [<-w'];exact z))];exact u6.free b o z nn hx,u6.there,
     λb xs z=>by rw [aE (ne2 b _ (u6.tups b xs z))];exact u6.tups b xs z,λb o xs z=>by rw [aE (ne2 b _ (u6.frzs b o xs z))];exact u6.frzs b o xs z,
     λb pss z=>by obtain⟨mo,z'⟩:=u6.tbls b pss z;exact⟨mo,by rw [aE (ne2 b _ z')];exact z'⟩⟩
   have ok6:bJ X.prog X.w (av H2 e (.ext (cB e (.ref C)))) h6:=λb u z=>by
    by_cases hbe:b=e
    ·subst hbe;rw [bb] at z;cases z;obtain⟨o6,ho6,hc6⟩:=fl6.there;exact⟨⟨o6,ho6,hc6⟩,⟨o6,ho6⟩,λh1 h2 uu94 kk=>by obtain⟨o,z1,z2⟩:=uu94;exact⟨o,kk o z1,z2⟩⟩
    ·rw [aE hbe] at z;exact(hB2 b u z).stay (λcc v _ z'=>fl6.1 cc v z') (λcc z'=>by rw [aE (ne2 cc _ z')];exact z') (λcc xs z'=>by rw [aE (ne2 cc _ z')];exact z') λcc xs z'=>by rw [aE (ne2 cc _ z')];exact z'
   have I6:ae X Xz σ (av H2 e (.ext (cB e (.ref C)))) {s2 with heap:=h6}:=ae.call' (ch:=[]) (s':={s2 with heap:=h6}) I1 ho un6 ok6 hgn (λ_ z=>nomatch z);refine j9 (X:=X.inEx e) (I6.inEx e) hN hi (.inl hn) (v:= .ref e) rfl (λs7 I7=>?_) (.inr hn);refine V8 (hs e Xz s7 _ _ _ I7 (hsu e nH2)) (λf s8 q8=>?_) λ_ _ z=>z.elim;cases f with
   | next=>
    obtain⟨σ8,H8,J8,q8⟩:=q8;exact wc (J8.outEx I.ok.hd) hN hi hn λs9 J9=>⟨σ8.set i none,H8,J9,q8⟩
   | ret v=>
    obtain⟨v8,σ8,H8,J8,r8,q8⟩:=q8;exact wc (J8.outEx I.ok.hd) hN hi hn λs9 J9=>⟨v8,σ8.set i none,H8,J9,r8,q8⟩
   | brk=>obtain⟨_,_,_,z⟩:=q8;exact z.elim
   | cont=>obtain⟨_,_,_,z⟩:=q8;exact z.elim
 refine Xs (wpAny_Expr_any (az out λv s1 ⟨H',I1,q1⟩=>?_) I.quiet hsw);exact WD (WD ⟨σ,H',I1,q1⟩)
theorem Lp{E:VJ->VN->Prop}{Q:VJ->VN->Prop}{i:Nat}{x:Str}{pos:Pos}{v:V}(I:ae X Xz σ H s)(hN:X.N[i]?=some x)(hv:iw X.env.scope x)(e:σ[i]?=some (some v))(h:∀u,aH v u->Q u s)
 (hd:(x==("__debug__":Str))=false:=by decide)(hcd:(x==("__classdict__":Str))=false:=by decide):VQ (VS X.prog X.w) X.A (eval (.Name x pos) X.env) Q E s:=by
 obtain⟨m,hn,hl⟩:=I.loc;obtain⟨u,r,l⟩:=hl i x v hN e hv;rcases l with⟨hk,hm⟩ | ⟨hk,c,hc,hcell⟩
 ·exact W6 (wpAny_loadName_local I.ok.kind hk hn hm (h u r)) hd
 ·rcases hk with hk | hk
  ·exact W6 (wpAny_loadName_cell I.ok.kind hk hc hcell (h u r)) hd
  ·exact W6 (wpAny_loadName_free I.ok.kind hk hc hcell (h u r) hcd) hd
def Lq(X:Cx)(P:VM)(qual:Str)(scope:Wc)(N':List Str)(fr:List Nat)(body:VR)(k j:Nat)(y:Str)(kW:VY->Sp):TE:=λσ H Q=>H P=some (fj qual)/\∃v,σ[j]?=some (some v)/\∀(base':VY)(f c':VM)(fd:VU)(o:VJ×Option VM×Array (Option VJ))(cl:List (Str×VM))(H':Hp),
 au H H'->H' c'=some (.cod qual)->base'.get? f=some ⟨o.1,o.2.1,.func fd,o.2.2⟩->aF X.prog X.w X.K X.mg base' (bx X.prog X.w) (k+1) f fd [y] (CG X base' σ scope N' fr cl qual f c' k body)->eL X.K fd [y] []->kW base' [.ref f,v] H' Q E0
theorem Lr{kR k j:Nat}{fR c P:VM}{fdR:VU}{psR:List Str}{x y z:Str}{kW:VY->Sp}{qual:Str}{scope:Wc}{N':List Str}{fr:List Nat}{params:Xh}{body:VR}{p zp lpos pos:Pos}(G:∀base':VY,aF X.prog X.w X.K X.mg base' aK kR fR fdR psR (kW base'))(hr:bp kR X.A)
 (hg:Gl X x)(hm:X.mg x=some (.ref fR))(hk:Rb X.K (.ref fR)=true)(hb:eL X.K fdR psR [])(L:jm X.base X.mg c P)(hcode:X.env.code= .ref c)(hq:X.env.qual++"<lambda>"=qual)(S:bt X.env.scope X.N N' 1 fr scope)(hy:N'[0]?=some y)(hyl:scope.names.lookup y=some .local)(hfn:∀x,X.fn x=true)
 (hz:X.N[j]?=some z)(hzv:iw X.env.scope z)
 (hco:scope.isCoroutine=false)(hgen:scope.isGenerator=false)(hcell:∀x∈scope.names,x.2≠ .cell)(hdef:defaultsOf params X.env=([],[]))(hbp:∀(pm cv ctv:VJ) (cl:List (Str×VM)) (u:VJ),bindArgs (kla_fn "<lambda>" qual params body scope cl pm cv ctv) ⟨[u],[]⟩=pure [(y,u)])
 (hdb:(x==("__debug__":Str))=false:=by decide)(hdz:(z==("__debug__":Str))=false:=by decide)(hcz:(z==("__classdict__":Str))=false:=by decide)(he:VP [.Lambda params body scope lpos,.Name z zp] X.env=(false,eval (.Lambda params body scope lpos) X.env)::(false,eval (.Name z zp) X.env)::VP [] X.env:=by rfl)(hpl:(V6 pos ((false,eval (.Name z zp) X.env)::VP [] X.env)).any (·.1)=false:=by rfl):
 PE X (.Call (.Name x p) [.Lambda params body scope lpos,.Name z zp] [] pos) (Lq X P qual scope N' fr body k j y kW):=by
 intro Xz s σ H Q I ⟨hP,v,ev,h⟩;refine Ws (kc I hg hm ?_ hdb);refine Su (h₀:=X.base) I.ok.mod.kin hk ?_ he hpl;rw [he];show VQ _ _ (spliced ((false,eval (.Lambda params body scope lpos) X.env)::(false,eval (.Name z zp) X.env)::V6 pos (VP [] X.env))) _ _ s;refine QZ (K9 I L hcode hP hq (rj λy hy e=>I.ok.has y.1 (S.outer y hy e)) hdef λf c' pm ctv h' tk H' I1 ho hsz hf hc' sm=>?_);refine QZ (Lp I1 hz hzv ev (λu ru=>?_) hdz hcz);refine RV ⟨I1.kIn,?_⟩;have hfs:f ∉ aX X.stack:=λhb'=>by
  obtain⟨_,o,ho',_⟩:=I.stack.mem hb';exact absurd (OW (OB ho') hsz) (Qg _)
 have h2:=h (gQ X {s with heap:=h',toks:=tk} H') f c' _ (_,_,_) _ H' sm hc' (mJ ho hf hfs) (Ln (k:=k) S hy hyl I1 ho hf hfs hfn hco hgen hcell) (λs2 us _ hl=>by
  cases us with
  | nil=>simp at hl
  | cons a l=>
   cases l with
   | nil=>exact .of_eq (hbp _ _ _ _ _)
   | cons b l=>simp at hl)
 have hl:[OU f,u].length=psR.length:=(G (gQ X {s with heap:=h',toks:=tk} H')).len _ _ _ _ h2;refine wpAny_call (Wr ((G _).run X.A X.stack _ H' ⟨[.ref f,u],[]⟩ [.ref f,u] [.ref f,v] Q E0 hr I1.env0L (by have:=hb _ [.ref f,u] I1.kIn (by rw [Po];exact hl);rw [Po] at this;exact this) (.cons rfl (.cons ru .nil)) h2) λr s' hq=>?_);cases r with
 | error e=>exact hq.elim
 | ok fl=>
  cases fl with
  | ret u=>exact I1.after hq
  | next=>exact PY hq
  | brk=>exact PY hq
  | cont=>exact PY hq
end
def CI(P:VW)(w:VZ)(K:Og)(mg:Str->Option VJ)(C:VM)(k0:Nat)(base:VY):Sp:=λvs H Q _=>∃(f k:Nat)(fd:VU)(sp:Sp)(o:VJ×Option VM×Array (Option VJ))(y:Str)(v:V),vs=[.ref f,v]/\base.get? f=some ⟨o.1,o.2.1,.func fd,o.2.2⟩/\k<=k0/\
 aF P w K mg base (bx P w) k f fd [y] sp/\eL K fd [y] []/\∀(Qn:VK)(En:XK),(∀d H2,(∀H3,au H2 H3->Q (.bl true) H3)->En (.ref C) d H2)->sp [v] H Qn En
section
variable {X:Cx} {H0:Hp} {O0:Ex}
def pg(d:VI)(fr:List Nat)(δ:Dl):Dl:=some (.v d)::fr.map λk=>(δ[k]?).join
theorem Wd.lam{K:Og}{H:Hp}{O:Ex}{σ:St}{δ:Dl}(w:Wd K H0 O0 H O σ δ){fr:List Nat}(hf:fr.Nodup){v:V}{d:VI}(r:Dt K H O v d):Wd K H0 O0 H O (mL v fr σ) (pg d fr δ):=
 (w.comp (k:=1) hf).set (i:=0) r
def CJ(F:DX)(fr:List Nat)(j:Nat)(u:DA):DT:=λδ Q=>∃d,δ[j]?=some (some (.v d))/\u (pg d fr δ) (λds=>F ds (λ_=>False) True)/\Q (.bool true)
theorem tu{C c PT:VM}{kR k0 kg j:Nat}{fR fg:VM}{fdR fdg:VU}{psR:List Str}{x xg y z qual:Str}{psg:List Str}{stR stg:V0}{F:DX}{scope:Wc}{N':List Str}{fr:List Nat}{params:Xh}{a:VR}{as:List VR}{p zp gp gpos lpos pos:Pos}{u:DA}
 (G:∀base':VY,aF X.prog X.w X.K X.mg base' aK kR fR fdR psR (CI X.prog X.w X.K X.mg C k0 base'))(Gg:∀base':VY,aF X.prog X.w X.K X.mg base' (bx X.prog X.w) kg fg fdg psg (fk X.K C F))
 (hr:bp kR X.A)(NR:Fn X.K X.mg x stR fR fdR psR)(Ng:Fn X.K X.mg xg stg fg fdg psg)(hP0:H0 PT=some (fj qual))(L:jm X.base X.mg c PT)(hcode:X.env.code= .ref c)(hq:X.env.qual++"<lambda>"=qual)
 (S:bt X.env.scope X.N N' 1 fr scope)(hfr:fr.Nodup)(hfn:∀x,X.fn x=true)
 (ha:∀base' cl f c' A outer s2 H2 E,PA (iP X base' scope N' cl qual f c' A outer s2 H2 E) (a::as) (d8 X.K H0 O0 u))(hy:N'[0]?=some y:=by rfl)(hyl:scope.names.lookup y=some .local:=by rfl)(hz:X.N[j]?=some z:=by rfl)(hzv:iw X.env.scope z:=by first | exact .inl rfl | exact .inr (.inl rfl))(hk:kg+1<=k0:=by decide)
 (hg:Gl X x:=by exact rfl)(hgl:∀base' cl f c' A outer s2 H2 E,Gl (iP X base' scope N' cl qual f c' A outer s2 H2 E) xg:=by intros;exact rfl)
 (hco:scope.isCoroutine=false:=by rfl)(hgen:scope.isGenerator=false:=by rfl)(hcell:∀x∈scope.names,x.2≠ .cell:=by decide+kernel)(hdef:defaultsOf params X.env=([],[]):=by rfl)
 (hbp:∀(pm cv ctv:VJ) (cl:List (Str×VM)) (u:VJ),bindArgs (kla_fn "<lambda>" qual params (.Call (.Name xg gp) (a::as) [] gpos) scope cl pm cv ctv) ⟨[u],[]⟩=pure [(y,u)]:=by intros;rfl)
 (hdb:(x==("__debug__":Str))=false:=by decide)(hdz:(z==("__debug__":Str))=false:=by decide)(hcz:(z==("__classdict__":Str))=false:=by decide)(hdg:(xg==("__debug__":Str))=false:=by decide)
 (he:VP [.Lambda params (.Call (.Name xg gp) (a::as) [] gpos) scope lpos,.Name z zp] X.env=(false,eval (.Lambda params (.Call (.Name xg gp) (a::as) [] gpos) scope lpos) X.env)::(false,eval (.Name z zp) X.env)::VP [] X.env:=by rfl)(hpl:(V6 pos ((false,eval (.Name z zp) X.env)::VP [] X.env)).any (·.1)=false:=by rfl)
 (heg:∀env:Env,VP (a::as) env=(false,eval a env)::VP as env:=by intro;rfl)(hplg:∀env:Env,(V6 gpos (VP as env)).any (·.1)=false:=by intro;rfl):
 DE X H0 O0 (.Call (.Name x p) [.Lambda params (.Call (.Name xg gp) (a::as) [] gpos) scope lpos,.Name z zp] [] pos) (CJ F fr j u):=
 PE.imp (Lr (k:=kg) G hr hg NR.m NR.F.kp NR.b L hcode hq S hy hyl hfn hz hzv hco hgen hcell hdef hbp hdb hdz hcz he hpl) λσ H Q uu96=>by
  obtain⟨O,δ,Qd,w,⟨d,ed,q,qt⟩,kk⟩:=uu96;obtain⟨v,ev,rv⟩:=w.val ed;exact⟨w.same _ _ hP0,v,ev,λbase' f c' fd o cl H' sm hc' hbf Ff hb'=>⟨f,kg+1,fd,_,o,y,v,rfl,hbf,hk,Ff,hb',λQn En kE=>⟨v,rfl,hc',λA outer s2 hr2=>
   ⟨_,qX (E:=λcls _ H4=>cls= .ref C/\au H' H4) (Gg base') hr2 (hgl _ _ _ _ _ _ _ _ _) Ng.m Ng.F.kp Ng.b .nil (Lb λcls d H4 uu0=>by obtain⟨e,s4⟩:=uu0;exact e▸kE d H4 λH5 s5=>kk (.bool true) (.bl true) H5 qt (sm.trans (s4.trans s5)) (.bl true)) (ha _ _ _ _ _ _ _ _ _) hdg (heg _) (hplg _),
    O,pg d fr δ,_,(w.mono sm).lam hfr (rv.mono sm),q,λds vs H3 q1 s1 r1=>⟨O,ds,_,True,((w.mono sm).mono s1).trk,by rw [Po];exact r1,q1,λd v H4 q2 _ _=>q2.elim,λ_ H4 s2=>⟨rfl,s1.trans s2⟩⟩⟩⟩⟩⟩
end
theorem dU.okDP{P:VW}{w:VZ}{K:Og}{mg:Str->Option VJ}{base:VY}{x qual q:Str}{st:V0}{f PT:VM}{fd:VU}{N ps:List Str}{k:Nat}{F:List VI->(VI->Prop)->Prop}(Fu:dU K x qual st f fd)(S:aP N ps (aA st))(len:∀ds Q,F ds Q->ds.length=ps.length)
 (hbody:∀(cdv:VJ) (A:V1) (outer:List Env) (s:VN) (H:Hp) (O:Ex) (ds:List VI) (Q:VI->Prop) (E:XK),H PT=some (fj q)->bp k (A.deeper (WE qual (aA st) s.heap.objs.size f cdv))->F ds Q->
  ∃t,bD (bO aK P w K mg base N qual (aA st) f cdv A outer s H E).nox (fx st) (bw K H O t)/\t {nx:=λ_=>Q .none,rt:=Q} (hG N ds)):aF P w K mg base aK (k+1) f fd ps (mK PT q K F):=by
 obtain⟨oc,od,kV,doc,pm,an,cdv,ct,osl,rfl,lk,hcd⟩:=Fu.ex;refine nT lk hcd S (λvs H Q E h=>?_) λA outer s H vs Q E hr hsp=>?_
 ·obtain⟨_,O,ds,Qd,_,r,q,_⟩:=h;rw [r.length];exact len _ _ q
 ·obtain⟨hP,O,ds,Qd,tr,r,q,k⟩:=hsp;obtain⟨t,ht,q'⟩:=hbody cdv A outer s H O ds Qd E hP hr q;refine⟨_,ht.nox,O,_,_,oE tr r,q',λO' δ' σ' H' z w' S'=>?_,λd v H' z s' r'=>k d v H' z s' r',λ_ _ _ _ z=>z.elim,λ_ _ _ _ z=>z.elim⟩;exact k _ _ _ z w'.same .non
theorem Lu{X:Cx}{H0:Hp}{O0:Ex}{k j:Nat}{f PT:VM}{fd:VU}{ps:List Str}{F:List VI->(VI->Prop)->Prop}{st:V0}{x q:Str}{p pos:Pos}{e:VR}{es:List VR}{u:DA}(hP0:H0 PT=some (fj q))(G:aF X.prog X.w X.K X.mg X.base aK k f fd ps (mK PT q X.K F))(hr:bp j X.A)(N:Fn X.K X.mg x st f fd ps)
 (ha:PA X (e::es) (d8 X.K H0 O0 u))(hk:k<=j:=by decide)(hg:Gl X x:=by exact rfl)(hdb:(x==("__debug__":Str))=false:=by decide)(he:VP (e::es) X.env=(false,eval e X.env)::VP es X.env:=by rfl)(hpl:(V6 pos (VP es X.env)).any (·.1)=false:=by rfl):
 DE X H0 O0 (.Call (.Name x p) (e::es) [] pos) (iD F u):=PE.imp (Ck G (hr.mono hk) hg N ha hdb he hpl) λσ H Q uu1=>by obtain⟨O,δ,Qd,w,q,k⟩:=uu1;exact
 ⟨O,δ,_,w,q,λds vs H1 q1 s1 r1=>⟨w.same.trans s1 _ _ hP0,O,ds,Qd,(w.mono s1).trk,by rw [Po];exact r1,q1,λd v H2 q2 s2 r2=>k d v H2 q2 (s1.trans s2) r2⟩⟩
theorem walk_ofTL{l:PySem.W.OpenLaw}{n k:Nat}{q:VW}{loose:List Str}{XP:(Str->Option VJ)->VY->Prop}{YP:VZ->VY->Prop}{d dl:DefRec}{K:Params->Og}{sp:Og->VM->Sp}{x qn nm:Str}{c PT:VM}
 (hn:l.most=some n)(hn2:n<=VT)(hdf:d.params.defaults=[])(hr:bp k callerA)
 (hY:∀(w:VZ) (h:VY),YP w h->(K w.params).In h)(hrec:(recsOf q).find? (λe=>e.name==nm)=some dl)
 (F:∀(w:VZ) (mg:Str->Option VJ) (fa:VM) (h:VY),(K w.params).In h->h.Ns VX mg->mg d.name=some (.ref fa)->
  ∃(fd:VU) (fa2:VM) (fd2:VU),noTabs (K w.params)=true/\tabIn (K w.params) nm=some (c,PT)/\(∀(s:VN) (u:VJ),BindsTo s fd ⟨[u],[]⟩ [(x,u)])/\(∃oc od osl,(K w.params).lookup fa=some ⟨oc,od,.func fd,osl⟩)/\mg nm=some (.ref fa2)/\(∃oc od osl,(K w.params).lookup fa2=some ⟨oc,od,.func fd2,osl⟩)/\
   ∀base:VY,(K w.params).In base->base.Ns VX mg->jm base mg c PT->fd2.code= .ref c->aF l.prog w (K w.params) mg base aK k fa fd [x] (sp (K w.params) PT))
 (hsp:∀(K:Og) (H:Hp) (a:VM) (ns:List Int),ns.length<=n->(∀z∈ns,Qp z<=1048576)->H PT=some (fj qn)->bf K H a (ns.map V.int)->sp K PT [.ref a] H (λv _=>v= .bl true) λ_ _ _=>False):
 PySem.W.WalkO q loose XP YP l.row.toRowW d [] (λf vs=>Vw f vs):=by
 refine Att.attach_callB hn hdf λw s₀ s₁ mg mb fa o pm cd doc a vs ns G Y ho hd hcd hmg hobj hints hlen hb hg=>?_;have KX:=hY w _ Y;obtain⟨fd,fa2,fd2,hnt,hti,hbi,⟨oc,od,osl,hl⟩,hm2,⟨oc2,od2,osl2,hl2⟩,hF⟩:=F w mg fa _ KX G.T.g hmg;obtain⟨hC,hPT⟩:=tab_of G.T KX hrec hti;have hco:fd2.code= .ref c:=law_code KX G.T.g hti hm2 (KX _ _ hl2) rfl;exact Li (q:=qn) KX hnt G.T.g G.T.b G.T.builtins G.T.nolimit hg hC hPT G.T.bmain hobj hints (OZ hlen hn2) hr (λbase h1 h2 h3=>hF base h1 h2 h3 hco) hbi (λH hO hS=>hsp _ H a ns hlen hb hO hS) λH e s' h=>h.elim
end L2
namespace K56
open PySem L2
theorem lit0:OA (.str "")=true:=Ce
theorem lit1:OA (.str "A")=true:=Ce
theorem lit2:OA (.str "abcdefghijklmnopqrstuvwxyz")=true:=Ce
theorem lit3:OA (.str "called to stay by rule ")=true:=Ce
theorem lit4:OA (.str "clash")=true:=Ce
theorem lit5:OA (.str "coming")=true:=Ce
theorem lit6:OA (.str "covered")=true:=Ce
theorem lit7:OA (.str "covered by hold ")=true:=Ce
theorem lit8:OA (.str "days")=true:=Ce
theorem lit9:OA (.str "deep")=true:=Ce
theorem lit10:OA (.str "due")=true:=Ce
theorem lit11:OA (.str "end")=true:=Ce
theorem lit12:OA (.str "first")=true:=Ce
theorem lit13:OA (.str "follow")=true:=Ce
theorem lit14:OA (.str "gone")=true:=Ce
theorem lit15:OA (.str "gone, or called to go: ")=true:=Ce
theorem lit16:OA (.str "goneday.calls")=true:=Ce
theorem lit17:OA (.str "goneday.checker")=true:=Ce
theorem lit18:OA (.str "goneday.days")=true:=Ce
theorem lit19:OA (.str "goneday.deeds")=true:=Ce
theorem lit20:OA (.str "goneday.errors")=true:=Ce
theorem lit21:OA (.str "goneday.papers")=true:=Ce
theorem lit22:OA (.str "goneday.standing")=true:=Ce
theorem lit23:OA (.str "goneday.webs")=true:=Ce
theorem lit24:OA (.str "happens")=true:=Ce
theorem lit25:OA (.str "held")=true:=Ce
theorem lit26:OA (.str "hold")=true:=Ce
theorem lit27:OA (.str "keep")=true:=Ce
theorem lit28:OA (.str "kind")=true:=Ce
theorem lit29:OA (.str "lacks")=true:=Ce
theorem lit30:OA (.str "last")=true:=Ce
theorem lit31:OA (.str "law_goneday_k56_papers_of_making_and_holds")=true:=Ce
theorem lit32:OA (.str "leave")=true:=Ce
theorem lit33:OA (.str "lift")=true:=Ce
theorem lit34:OA (.str "made")=true:=Ce
theorem lit35:OA (.str "months")=true:=Ce
theorem lit36:OA (.str "no paper of the deeds")=true:=Ce
theorem lit37:OA (.str "no row that the desk takes")=true:=Ce
theorem lit38:OA (.str "none")=true:=Ce
theorem lit39:OA (.str "not the text asked for, row ")=true:=Ce
theorem lit40:OA (.str "paper")=true:=Ce
theorem lit41:OA (.str "permit")=true:=Ce
theorem lit42:OA (.str "plan")=true:=Ce
theorem lit43:OA (.str "quarrels with the deed of act ")=true:=Ce
theorem lit44:OA (.str "rule")=true:=Ce
theorem lit45:OA (.str "stays")=true:=Ce
theorem lit46:OA (.str "while")=true:=Ce
theorem lit47:OA (.str "years")=true:=Ce
def bh(i:Nat):V0:=PySem.Challenge.pw_goneday_k56_papers_of_making_and_holds.main.body.getD i (.Pass ⟨0,0,0,0⟩)
abbrev tw:V0:=bh 19
abbrev tD:V0:=bh 20
abbrev tE:V0:=bh 31
abbrev ph:V0:=bh 32
abbrev tF:V0:=bh 33
abbrev pj:V0:=bh 34
abbrev mM:V0:=bh 36
abbrev pq:V0:=bh 37
abbrev pz:V0:=bh 38
abbrev tG:V0:=bh 39
abbrev pA:V0:=bh 41
abbrev pB:V0:=bh 43
abbrev tH:V0:=bh 44
abbrev pC:V0:=bh 45
abbrev tI:V0:=bh 46
abbrev tJ:V0:=bh 60
abbrev pE:V0:=bh 61
abbrev tK:V0:=bh 68
abbrev pF:V0:=bh 69
abbrev tL:V0:=bh 70
abbrev tM:V0:=bh 71
abbrev tN:V0:=bh 72
abbrev mO:V0:=bh 73
abbrev tO:V0:=bh 74
abbrev tP:V0:=bh 75
abbrev tQ:V0:=bh 76
abbrev tR:V0:=bh 77
abbrev pG:V0:=bh 78
abbrev pH:V0:=bh 80
abbrev tS:V0:=bh 81
abbrev tT:V0:=bh 83
abbrev tU:V0:=bh 84
abbrev tV:V0:=bh 85
abbrev tW:V0:=bh 89
abbrev tX:V0:=bh 103
abbrev tY:V0:=bh 105
abbrev tZ:V0:=bh 106
abbrev t5:V0:=bh 107
abbrev mP:V0:=bh 108
abbrev t6:V0:=bh 109
abbrev t7:V0:=bh 110
abbrev pI:V0:=bh 111
abbrev t8:V0:=bh 112
abbrev t9:V0:=bh 113
abbrev pJ:V0:=bh 114
abbrev ua:V0:=bh 115
abbrev pK:V0:=bh 116
abbrev pL:V0:=bh 117
abbrev uc:V0:=bh 118
abbrev ue:V0:=bh 119
abbrev uf:V0:=bh 120
abbrev ug:V0:=bh 121
abbrev kY:V0:=bh 122
abbrev mQ:V0:=bh 123
set_option genInjectivity false in
set_option genSizeOfSpec false in
structure cz where
 a_A:VM
 d_A:VU
 a_B:VM
 d_B:VU
 a_C:VM
 d_C:VU
 a_D:VM
 d_D:VU
 a_E:VM
 d_E:VU
 a_F:VM
 d_F:VU
 a_G:VM
 d_G:VU
 a_H:VM
 d_H:VU
 a_I:VM
 d_I:VU
 a_J:VM
 d_J:VU
 a_K:VM
 d_K:VU
 a_L:VM
 d_L:VU
 a_M:VM
 d_M:VU
 a_N:VM
 d_N:VU
 a_O:VM
 d_O:VU
 a_P:VM
 d_P:VU
 a_Q:VM
 d_Q:VU
 a_R:VM
 d_R:VU
 a_S:VM
 d_S:VU
 a_T:VM
 d_T:VU
 a_U:VM
 d_U:VU
 a_V:VM
 d_V:VU
 a_W:VM
 d_W:VU
 a_X:VM
 d_X:VU
 a_Y:VM
 d_Y:VU
 a_Z:VM
 d_Z:VU
 a_a:VM
 d_a:VU
 a_b:VM
 d_b:VU
 a_c:VM
 d_c:VU
 a_d:VM
 d_d:VU
 a_e:VM
 d_e:VU
 a_f:VM
 d_f:VU
 a_g:VM
 d_g:VU
 a_h:VM
 d_h:VU
 a_i:VM
 d_i:VU
 a_j:VM
 d_j:VU
 a_k:VM
 d_k:VU
 a_l:VM
 d_l:VU
 a_m:VM
 d_m:VU
 a_n:VM
 d_n:VU
 a_o:VM
 d_o:VU
 a_p:VM
 d_p:VU
 a_q:VM
 d_q:VU
 a_r:VM
 d_r:VU
 a_s:VM
 d_s:VU
 a_t:VM
 d_t:VU
 a_u:VM
 d_u:VU
 a_v:VM
 d_v:VU
 a_w:VM
 d_w:VU
 a_x:VM
 d_x:VU
 a_y:VM
 d_y:VU
 a_z:VM
 d_z:VU
 a_AA:VM
 d_AA:VU
 a_AB:VM
 d_AB:VU
 u_LAST_WRITTEN:VJ
 u_NoPaper:VM
 u_LONGEST_NAME:VJ
 u_LETTERS:VJ
 u_MOST_MANY:VJ
 u_UNITS:VJ
 u_MOST_MAKERS:VJ
 u_ArchiveError:VM
 u_GoneMaker:VM
 u_Held:VM
 u_MustStay:VM
 u_NoCall:VM
 u_NoDay:VM
 u_NoDeed:VM
 u_NoLeave:VM
 u_NoNumber:VM
 u_NoText:VM
 u_Twice:VM
structure Txt (K:Og) (mg:Str->Option VJ) (t:cz):Prop where
 F_A:Fn K mg "is_whole" tw t.a_A t.d_A ["thing"]
 F_B:Fn K mg "is_day" tD t.a_B t.d_B ["thing"]
 F_C:Fn K mg "place_of" tE t.a_C t.d_C ["deed"]
 F_D:Fn K mg "comings" ph t.a_D t.d_D ["deeds"]
 F_E:Fn K mg "coming_of" tF t.a_E t.d_E ["deeds","paper"]
 F_F:Fn K mg "papers" pj t.a_F t.d_F ["deeds"]
 F_G:Fn K mg "maker_comings" mM t.a_G t.d_G ["deeds","coming"]
 F_H:Fn K mg "makers" pq t.a_H t.d_H ["deeds","paper"]
 F_I:Fn K mg "line_of" pz t.a_I t.d_I ["deeds","paper"]
 F_J:Fn K mg "ways_from" tG t.a_J t.d_J ["deeds","paper"]
 F_K:Fn K mg "latest" pA t.a_K t.d_K ["deeds","words","day"]
 F_L:Fn K mg "holds_on" pB t.a_L t.d_L ["deeds","day"]
 F_M:Fn K mg "is_told" tH t.a_M t.d_M ["target","coming"]
 F_N:Fn K mg "holding" pC t.a_N t.d_N ["holds","line"]
 F_O:Fn K mg "covering" tI t.a_O t.d_O ["deeds","day","paper"]
 F_P:Fn K mg "paper_made" tJ t.a_P t.d_P ["deeds","paper","other"]
 F_Q:Fn K mg "paper_covered" pE t.a_Q t.d_Q ["deeds","day","paper","hold"]
 F_R:Fn K mg "is_tuple_of" tK t.a_R t.d_R ["thing","length"]
 F_S:Fn K mg "is_name" pF t.a_S t.d_S ["thing"]
 F_T:Fn K mg "is_since" tL t.a_T t.d_T ["thing"]
 F_U:Fn K mg "is_span" tM t.a_U t.d_U ["many","unit"]
 F_V:Fn K mg "is_rule" tN t.a_V t.d_V ["thing"]
 F_W:Fn K mg "is_makers" mO t.a_W t.d_W ["thing"]
 F_X:Fn K mg "is_target" tO t.a_X t.d_X ["thing"]
 F_Y:Fn K mg "are_parts" tP t.a_Y t.d_Y ["word","parts"]
 F_Z:Fn K mg "is_deed" tQ t.a_Z t.d_Z ["thing"]
 F_a:Fn K mg "quarrel" tR t.a_a t.d_a ["one","other"]
 F_b:Fn K mg "go_together" pG t.a_b t.d_b ["deeds"]
 F_c:Fn K mg "are_deeds" pH t.a_c t.d_c ["thing"]
 F_d:Fn K mg "is_any_day" tS t.a_d t.d_d ["thing"]
 F_e:Fn K mg "is_way" tT t.a_e t.d_e ["deeds","paper","thing"]
 F_f:Fn K mg "is_made" tU t.a_f t.d_f ["deeds","paper","other","grounds"]
 F_g:Fn K mg "is_asked" tV t.a_g t.d_g ["deeds","day","paper"]
 F_h:Fn K mg "is_covered" tW t.a_h t.d_h ["deeds","day","paper","hold","grounds"]
 F_i:Fn K mg "holds" tX t.a_i t.d_i ["claim","grounds"]
 F_j:Fn K mg "_law_cell" tY t.a_j t.d_j ["_law_script","_law_k"]
 F_k:Fn K mg "_law_purse" tZ t.a_k t.d_k ["_law_cell_here"]
 F_l:Fn K mg "_law_take" t5 t.a_l t.d_l ["_law_purse_here","_law_many"]
 F_m:Fn K mg "_law_names" mP t.a_m t.d_m ["_law_purse_here","_law_many"]
 F_n:Fn K mg "_law_month" t6 t.a_n t.d_n ["_law_year_here","_law_month_here"]
 F_o:Fn K mg "_law_year" t7 t.a_o t.d_o ["_law_year_here"]
 F_p:Fn K mg "_law_day" pI t.a_p t.d_p ["_law_year_here","_law_month_here","_law_number"]
 F_q:Fn K mg "_law_drawn_day" t8 t.a_q t.d_q ["_law_purse_here","_law_far"]
 F_r:Fn K mg "_law_parts" t9 t.a_r t.d_r ["_law_purse_here","_law_word","_law_names_here","_law_kinds","_law_far"]
 F_s:Fn K mg "_law_deed" pJ t.a_s t.d_s ["_law_purse_here","_law_word","_law_names_here","_law_kinds","_law_far"]
 F_t:Fn K mg "_law_quarrels" ua t.a_t t.d_t ["_law_one","_law_other"]
 F_u:Fn K mg "_law_deeds" pK t.a_u t.d_u ["_law_script","_law_menu","_law_most"]
 F_v:Fn K mg "_law_above" pL t.a_v t.d_v ["_law_deeds_here","_law_name"]
 F_w:Fn K mg "_law_taken" uc t.a_w t.d_w ["_law_told","_law_claim"]
 F_x:Fn K mg "_law_pairs_right" ue t.a_x t.d_x ["_law_deeds_here"]
 F_y:Fn K mg "_law_day_right" uf t.a_y t.d_y ["_law_deeds_here","_law_day_here","_law_bars"]
 F_z:Fn K mg "_law_refused" ug t.a_z t.d_z ["_law_asked","_law_thing"]
 F_AA:Fn K mg "_law_no_paper" kY t.a_AA t.d_AA ["_law_deeds_here","_law_thing"]
 F_AB:Fn K mg "law" mQ t.a_AB t.d_AB ["_law_script"]
 bt_AB:∀(s:VN)(u:VJ),BindsTo s t.d_AB ⟨[u],[]⟩ [("_law_script",u)]
 c_LAST_WRITTEN:mg "LAST_WRITTEN"=some t.u_LAST_WRITTEN
 r_LAST_WRITTEN:aH (.int 99999) t.u_LAST_WRITTEN
 c_NoPaper:mg "NoPaper"=some (.ref t.u_NoPaper)
 c_LONGEST_NAME:mg "LONGEST_NAME"=some t.u_LONGEST_NAME
 r_LONGEST_NAME:aH (.int 8) t.u_LONGEST_NAME
 c_LETTERS:mg "LETTERS"=some t.u_LETTERS
 r_LETTERS:aH (.str "abcdefghijklmnopqrstuvwxyz") t.u_LETTERS
 c_MOST_MANY:mg "MOST_MANY"=some t.u_MOST_MANY
 r_MOST_MANY:aH (.int 999) t.u_MOST_MANY
 c_UNITS:mg "UNITS"=some t.u_UNITS
 e_UNITS:∃a,t.u_UNITS= .ref a/\∀H,br K H a [V.str "days",V.str "months",V.str "years"]
 c_MOST_MAKERS:mg "MOST_MAKERS"=some t.u_MOST_MAKERS
 r_MOST_MAKERS:aH (.int 4) t.u_MOST_MAKERS
 c_ArchiveError:mg "ArchiveError"=some (.ref t.u_ArchiveError)
 c_GoneMaker:mg "GoneMaker"=some (.ref t.u_GoneMaker)
 c_Held:mg "Held"=some (.ref t.u_Held)
 c_MustStay:mg "MustStay"=some (.ref t.u_MustStay)
 c_NoCall:mg "NoCall"=some (.ref t.u_NoCall)
 c_NoDay:mg "NoDay"=some (.ref t.u_NoDay)
 c_NoDeed:mg "NoDeed"=some (.ref t.u_NoDeed)
 c_NoLeave:mg "NoLeave"=some (.ref t.u_NoLeave)
 c_NoNumber:mg "NoNumber"=some (.ref t.u_NoNumber)
 c_NoText:mg "NoText"=some (.ref t.u_NoText)
 c_Twice:mg "Twice"=some (.ref t.u_Twice)
 q_NoPaper:QC K t.u_NoPaper [.type "ValueError",.type "Exception",.type "BaseException",.type "object"] "ValueError.__new__"=true
 q_ArchiveError:QC K t.u_ArchiveError [.type "ValueError",.type "Exception",.type "BaseException",.type "object"] "ValueError.__new__"=true
 z1:Ru K (.ref t.u_NoPaper) "__getattribute__"=some (some (.builtin "BaseException.__getattribute__"))
 z2:Ru K (.ref t.u_NoPaper) "__getattr__"=some none
 z3:Ru K (.ref t.u_NoPaper) "__class__"=some (some (.builtin "object.__class__"))
 z4:UG K (.builtin "object.__class__") "__get__"=some (some (.builtin "getset_descriptor.__get__"))
 z5:UX K (.builtin "object.__class__")=some true
 z6:Q5 K t.u_NoPaper (.type "object")=some true
 z7:Q5 K t.u_NoPaper (.type "BaseException")=some true
 z8:UY K t.u_NoPaper=true
 i_NoPaper_ArchiveError:Q5 K t.u_NoPaper (.ref t.u_ArchiveError)=some true
 ka:Sn K (.ref t.u_NoPaper) [.ref t.u_GoneMaker,.ref t.u_Held,.ref t.u_MustStay,.ref t.u_NoCall,.ref t.u_NoDay,.ref t.u_NoDeed,.ref t.u_NoLeave,.ref t.u_NoNumber,.ref t.u_NoText,.ref t.u_Twice]=some false
 kv:RO K (.ref t.u_NoPaper) (.type "ValueError")=some true
 n_ValueError:mg "ValueError"=none
 n__law_one:mg "_law_one"=none
 n_abs:mg "abs"=none
 n_all:mg "all"=none
 n_any:mg "any"=none
 n_bool:mg "bool"=none
 n_divmod:mg "divmod"=none
 n_int:mg "int"=none
 n_isinstance:mg "isinstance"=none
 n_len:mg "len"=none
 n_list:mg "list"=none
 n_max:mg "max"=none
 n_range:mg "range"=none
 n_set:mg "set"=none
 n_sorted:mg "sorted"=none
 n_str:mg "str"=none
 n_sum:mg "sum"=none
 n_tuple:mg "tuple"=none
theorem Lv:aP ["thing"] ["thing"] (aA tw):= .of
theorem Lw:aP ["thing"] ["thing"] (aA tD):= .of
theorem Lx:aP ["deed"] ["deed"] (aA tE):= .of
theorem Ly:aP ["deeds"] ["deeds"] (aA ph):= .of
theorem pM:aP ["deeds","paper","deed"] ["deeds","paper"] (aA tF):= .of
theorem Lz:aP ["deeds"] ["deeds"] (aA pj):= .of
theorem CK:aP ["deeds","coming","named"] ["deeds","coming"] (aA mM):= .of
theorem LA:aP ["deeds","paper"] ["deeds","paper"] (aA pq):= .of
theorem jn:aP ["deeds","paper","line","place"] ["deeds","paper"] (aA pz):= .of
theorem ie:aP ["deeds","paper","line","ways","coming","maker"] ["deeds","paper"] (aA tG):= .of
theorem pN:aP ["deeds","words","day","found","deed","known"] ["deeds","words","day"] (aA pA):= .of
theorem LB:aP ["deeds","day"] ["deeds","day"] (aA pB):= .of
theorem LC:aP ["target","coming"] ["target","coming"] (aA tH):= .of
theorem kZ:aP ["holds","line","names","hold","target","deep","reached"] ["holds","line"] (aA pC):= .of
theorem LD:aP ["deeds","day","paper"] ["deeds","day","paper"] (aA tI):= .of
theorem k6:aP ["deeds","paper","other","ways"] ["deeds","paper","other"] (aA tJ):= .of
theorem fq:aP ["deeds","day","paper","hold","ways","name","target","deep","reached","told"] ["deeds","day","paper","hold"] (aA pE):= .of
theorem LG:aP ["thing","length"] ["thing","length"] (aA tK):= .of
theorem LH:aP ["thing"] ["thing"] (aA pF):= .of
theorem LJ:aP ["thing"] ["thing"] (aA tL):= .of
theorem LK:aP ["many","unit"] ["many","unit"] (aA tM):= .of
theorem CL:aP ["thing","named"] ["thing"] (aA tN):= .of
theorem LL:aP ["thing"] ["thing"] (aA mO):= .of
theorem LN:aP ["thing"] ["thing"] (aA tO):= .of
theorem LO:aP ["word","parts"] ["word","parts"] (aA tP):= .of
theorem LP:aP ["thing"] ["thing"] (aA tQ):= .of
theorem uh:aP ["one","other","word","words"] ["one","other"] (aA tR):= .of
theorem CM:aP ["deeds","place"] ["deeds"] (aA pG):= .of
theorem LQ:aP ["thing"] ["thing"] (aA pH):= .of
theorem LR:aP ["thing"] ["thing"] (aA tS):= .of
theorem CN:aP ["deeds","paper","thing","place"] ["deeds","paper","thing"] (aA tT):= .of
theorem LS:aP ["deeds","paper","other","grounds"] ["deeds","paper","other","grounds"] (aA tU):= .of
theorem LU:aP ["deeds","day","paper"] ["deeds","day","paper"] (aA tV):= .of
theorem pO:aP ["deeds","day","paper","hold","grounds","name","target","deep"] ["deeds","day","paper","hold","grounds"] (aA tW):= .of
theorem k7:aP ["claim","grounds","word","deeds"] ["claim","grounds"] (aA tX):= .of
theorem pP:aP ["_law_script","_law_k","_law_state","_law_cell_here"] ["_law_script","_law_k"] (aA tY):= .of
theorem ui:aP ["_law_cell_here","_law_digits"] ["_law_cell_here"] (aA tZ):= .of
theorem uj:aP ["_law_purse_here","_law_many","_law_state","_law_digit"] ["_law_purse_here","_law_many"] (aA t5):= .of
theorem k8:aP ["_law_purse_here","_law_many","_law_letters","_law_stem","_law_at","_law_first","_law_step"] ["_law_purse_here","_law_many"] (aA mP):= .of
theorem CO:aP ["_law_year_here","_law_month_here","_law_leap"] ["_law_year_here","_law_month_here"] (aA t6):= .of
theorem CP:aP ["_law_year_here"] ["_law_year_here"] (aA t7):= .of
theorem LV:aP ["_law_year_here","_law_month_here","_law_number"] ["_law_year_here","_law_month_here","_law_number"] (aA pI):= .of
theorem CQ:aP ["_law_purse_here","_law_far","_law_year_here","_law_month_here"] ["_law_purse_here","_law_far"] (aA t8):= .of
theorem pQ:aP ["_law_purse_here","_law_word","_law_names_here","_law_kinds","_law_far","_law_kind","_law_since","_law_many"] ["_law_purse_here","_law_word","_law_names_here","_law_kinds","_law_far"] (aA t9):= .of
theorem k9:aP ["_law_purse_here","_law_word","_law_names_here","_law_kinds","_law_far","_law_day_here","_law_name","_law_some","_law_kind","_law_target"] ["_law_purse_here","_law_word","_law_names_here","_law_kinds","_law_far"] (aA pJ):= .of
theorem CS:aP ["_law_one","_law_other","_law_sorts"] ["_law_one","_law_other"] (aA ua):= .of
theorem gA:aP ["_law_script","_law_menu","_law_most","_law_head","_law_far","_law_chain","_law_names_here","_law_kinds","_law_words","_law_turn","_law_deeds_here","_law_k","_law_deed_here","_law_day_here"] ["_law_script","_law_menu","_law_most"] (aA pK):= .of
theorem pR:aP ["_law_deeds_here","_law_name","_law_some","_law_at"] ["_law_deeds_here","_law_name"] (aA pL):= .of
theorem LW:aP ["_law_told","_law_claim"] ["_law_told","_law_claim"] (aA uc):= .of
theorem mR:aP ["_law_deeds_here","_law_name","_law_above_here","_law_other","_law_told"] ["_law_deeds_here"] (aA ue):= .of
theorem mS:aP ["_law_deeds_here","_law_day_here","_law_bars","_law_name","_law_due","_law_bar","_law_told"] ["_law_deeds_here","_law_day_here","_law_bars"] (aA uf):= .of
theorem pT:aP ["_law_asked","_law_thing","_law_caught","e"] ["_law_asked","_law_thing"] (aA ug):= .of
theorem CT:aP ["_law_deeds_here","_law_thing","_law_name"] ["_law_deeds_here","_law_thing"] (aA kY):= .of
theorem gR:aP ["_law_script","_law_menu","_law_deeds_here","_law_names_here","_law_far","_law_bars","_law_odd","_law_k","_law_purse_here","_law_day_here"] ["_law_script"] (aA mQ):= .of
theorem CU{α:Type}{us:List α}(h:us.length=1):∃a,us=[a]:=List.length_eq_one_iff.mp h
theorem CV{α:Type}{us:List α}(h0:us.length=2):∃a b,us=[a,b]:=by
 cases us with
 | nil=>cases h0
 | cons a us=>
  obtain⟨b,z0⟩:=CU (us:=us) (Ta h0);exact⟨a,b,by rw [z0]⟩
theorem CW{α:Type}{us:List α}(h0:us.length=3):∃a b c,us=[a,b,c]:=by
 cases us with
 | nil=>cases h0
 | cons a us=>
  obtain⟨b,c,z0⟩:=CV (us:=us) (Ta h0);exact⟨a,b,c,by rw [z0]⟩
theorem CY{α:Type}{us:List α}(h0:us.length=4):∃a b c d,us=[a,b,c,d]:=by
 cases us with
 | nil=>cases h0
 | cons a us=>
  obtain⟨b,c,d,z0⟩:=CW (us:=us) (Ta h0);exact⟨a,b,c,d,by rw [z0]⟩
theorem LX{α:Type}{us:List α}(h0:us.length=5):∃a b c d p,us=[a,b,c,d,p]:=by
 cases us with
 | nil=>cases h0
 | cons a us=>
  obtain⟨b,c,d,p,z0⟩:=CY (us:=us) (Ta h0);exact⟨a,b,c,d,p,by rw [z0]⟩
local macro_rules | `(tactic| walk_at "b")=>`(tactic| (intro _ _ _ _ _ _ us hl;first | (cases ls0 (us:=us) hl;rfl) | (obtain⟨a,e⟩:=CU (us:=us) hl;subst e;rfl) | (obtain⟨a,b,e⟩:=CV (us:=us) hl;subst e;rfl) | (obtain⟨a,b,c,e⟩:=CW (us:=us) hl;subst e;rfl) | (obtain⟨a,b,c,d,e⟩:=CY (us:=us) hl;subst e;rfl) | (obtain⟨a,b,c,d,p,e⟩:=LX (us:=us) hl;subst e;rfl)))
theorem txt_mk{K:Og}{h:VY}{mg:Str->Option VJ}(X:K.In h)(G:h.Ns VX mg)
 {f0 f1 f2 f3 f4 f5 f6 f7 f8 f9 f10 f11 f12 f13 f14 f15 f16 f17 f18 f19 f20 f21 f22 f23 f24 f25 f26 f27 f28 f29 f30 f31 f32 f33 f34 f35 f36 f37 f38 f39 f40 f41 f42 f43 f44 f45 f46 f47 f48 f49 f50 f51 f52 f53:VM}{e0 e1 e2 e3 e4 e5 e6 e7 e8 e9 e10 e11 e12 e13 e14 e15 e16 e17 e18 e19 e20 e21 e22 e23 e24 e25 e26 e27 e28 e29 e30 e31 e32 e33 e34 e35 e36 e37 e38 e39 e40 e41 e42 e43 e44 e45 e46 e47 e48 e49 e50 e51 e52 e53:VU}
 {u_NoPaper u_ArchiveError u_GoneMaker u_Held u_MustStay u_NoCall u_NoDay u_NoDeed u_NoLeave u_NoNumber u_NoText u_Twice:VM}
 {u_LAST_WRITTEN u_LONGEST_NAME u_LETTERS u_MOST_MANY u_MOST_MAKERS:VJ}
 {A_UNITS:VM}{dd_UNITS:Option VM}{its_UNITS:Array VJ}{n_UNITS:Nat}{sl_UNITS:Array (Option VJ)}
 (a0:DfT K "is_whole" tw f0 e0)
 (a1:DfT K "is_day" tD f1 e1)
 (a2:DfT K "place_of" tE f2 e2)
 (a3:DfT K "comings" ph f3 e3)
 (a4:DfT K "coming_of" tF f4 e4)
 (a5:DfT K "papers" pj f5 e5)
 (a6:DfT K "maker_comings" mM f6 e6)
 (a7:DfT K "makers" pq f7 e7)
 (a8:DfT K "line_of" pz f8 e8)
 (a9:DfT K "ways_from" tG f9 e9)
 (a10:DfT K "latest" pA f10 e10)
 (a11:DfT K "holds_on" pB f11 e11)
 (a12:DfT K "is_told" tH f12 e12)
 (a13:DfT K "holding" pC f13 e13)
 (a14:DfT K "covering" tI f14 e14)
 (a15:DfT K "paper_made" tJ f15 e15)
 (a16:DfT K "paper_covered" pE f16 e16)
 (a17:DfT K "is_tuple_of" tK f17 e17)
 (a18:DfT K "is_name" pF f18 e18)
 (a19:DfT K "is_since" tL f19 e19)
 (a20:DfT K "is_span" tM f20 e20)
 (a21:DfT K "is_rule" tN f21 e21)
 (a22:DfT K "is_makers" mO f22 e22)
 (a23:DfT K "is_target" tO f23 e23)
 (a24:DfT K "are_parts" tP f24 e24)
 (a25:DfT K "is_deed" tQ f25 e25)
 (a26:DfT K "quarrel" tR f26 e26)
 (a27:DfT K "go_together" pG f27 e27)
 (a28:DfT K "are_deeds" pH f28 e28)
 (a29:DfT K "is_any_day" tS f29 e29)
 (a30:DfT K "is_way" tT f30 e30)
 (a31:DfT K "is_made" tU f31 e31)
 (a32:DfT K "is_asked" tV f32 e32)
 (a33:DfT K "is_covered" tW f33 e33)
 (a34:DfT K "holds" tX f34 e34)
 (a35:DfT K "_law_cell" tY f35 e35)
 (a36:DfT K "_law_purse" tZ f36 e36)
 (a37:DfT K "_law_take" t5 f37 e37)
 (a38:DfT K "_law_names" mP f38 e38)
 (a39:DfT K "_law_month" t6 f39 e39)
 (a40:DfT K "_law_year" t7 f40 e40)
 (a41:DfT K "_law_day" pI f41 e41)
 (a42:DfT K "_law_drawn_day" t8 f42 e42)
 (a43:DfT K "_law_parts" t9 f43 e43)
 (a44:DfT K "_law_deed" pJ f44 e44)
 (a45:DfT K "_law_quarrels" ua f45 e45)
 (a46:DfT K "_law_deeds" pK f46 e46)
 (a47:DfT K "_law_above" pL f47 e47)
 (a48:DfT K "_law_taken" uc f48 e48)
 (a49:DfT K "_law_pairs_right" ue f49 e49)
 (a50:DfT K "_law_day_right" uf f50 e50)
 (a51:DfT K "_law_refused" ug f51 e51)
 (a52:DfT K "_law_no_paper" kY f52 e52)
 (a53:DfT K "law" mQ f53 e53)
 (x_LAST_WRITTEN:OV K VX "LAST_WRITTEN"=some (some u_LAST_WRITTEN))(r_LAST_WRITTEN:aH (.int 99999) u_LAST_WRITTEN)
 (x_NoPaper:OV K VX "NoPaper"=some (some (.ref u_NoPaper)))
 (x_LONGEST_NAME:OV K VX "LONGEST_NAME"=some (some u_LONGEST_NAME))(r_LONGEST_NAME:aH (.int 8) u_LONGEST_NAME)
 (x_LETTERS:OV K VX "LETTERS"=some (some u_LETTERS))(r_LETTERS:aH (.str "abcdefghijklmnopqrstuvwxyz") u_LETTERS)
 (x_MOST_MANY:OV K VX "MOST_MANY"=some (some u_MOST_MANY))(r_MOST_MANY:aH (.int 999) u_MOST_MANY)
 (x_UNITS:OV K VX "UNITS"=some (some (.ref A_UNITS)))(y_UNITS:K.lookup A_UNITS=some ⟨.type "tuple",dd_UNITS,.seq its_UNITS n_UNITS,sl_UNITS⟩)(z_UNITS:aI [V.str "days",V.str "months",V.str "years"] its_UNITS.toList)(w_UNITS:its_UNITS.size<=VT)
 (x_MOST_MAKERS:OV K VX "MOST_MAKERS"=some (some u_MOST_MAKERS))(r_MOST_MAKERS:aH (.int 4) u_MOST_MAKERS)
 (x_ArchiveError:OV K VX "ArchiveError"=some (some (.ref u_ArchiveError)))
 (x_GoneMaker:OV K VX "GoneMaker"=some (some (.ref u_GoneMaker)))
 (x_Held:OV K VX "Held"=some (some (.ref u_Held)))
 (x_MustStay:OV K VX "MustStay"=some (some (.ref u_MustStay)))
 (x_NoCall:OV K VX "NoCall"=some (some (.ref u_NoCall)))
 (x_NoDay:OV K VX "NoDay"=some (some (.ref u_NoDay)))
 (x_NoDeed:OV K VX "NoDeed"=some (some (.ref u_NoDeed)))
 (x_NoLeave:OV K VX "NoLeave"=some (some (.ref u_NoLeave)))
 (x_NoNumber:OV K VX "NoNumber"=some (some (.ref u_NoNumber)))
 (x_NoText:OV K VX "NoText"=some (some (.ref u_NoText)))
 (x_Twice:OV K VX "Twice"=some (some (.ref u_Twice)))
 (f_q_NoPaper:QC K u_NoPaper [.type "ValueError",.type "Exception",.type "BaseException",.type "object"] "ValueError.__new__"=true)
 (f_q_ArchiveError:QC K u_ArchiveError [.type "ValueError",.type "Exception",.type "BaseException",.type "object"] "ValueError.__new__"=true)
 (f_z1:Ru K (.ref u_NoPaper) "__getattribute__"=some (some (.builtin "BaseException.__getattribute__")))
 (f_z2:Ru K (.ref u_NoPaper) "__getattr__"=some none)
 (f_z3:Ru K (.ref u_NoPaper) "__class__"=some (some (.builtin "object.__class__")))
 (f_z4:UG K (.builtin "object.__class__") "__get__"=some (some (.builtin "getset_descriptor.__get__")))
 (f_z5:UX K (.builtin "object.__class__")=some true)
 (f_z6:Q5 K u_NoPaper (.type "object")=some true)
 (f_z7:Q5 K u_NoPaper (.type "BaseException")=some true)
 (f_z8:UY K u_NoPaper=true)
 (f_i_NoPaper_ArchiveError:Q5 K u_NoPaper (.ref u_ArchiveError)=some true)
 (f_ka:Sn K (.ref u_NoPaper) [.ref u_GoneMaker,.ref u_Held,.ref u_MustStay,.ref u_NoCall,.ref u_NoDay,.ref u_NoDeed,.ref u_NoLeave,.ref u_NoNumber,.ref u_NoText,.ref u_Twice]=some false)
 (f_kv:RO K (.ref u_NoPaper) (.type "ValueError")=some true)
 (n_ValueError:OV K VX "ValueError"=some none)
 (n__law_one:OV K VX "_law_one"=some none)
 (n_abs:OV K VX "abs"=some none)
 (n_all:OV K VX "all"=some none)
 (n_any:OV K VX "any"=some none)
 (n_bool:OV K VX "bool"=some none)
 (n_divmod:OV K VX "divmod"=some none)
 (n_int:OV K VX "int"=some none)
 (n_isinstance:OV K VX "isinstance"=some none)
 (n_len:OV K VX "len"=some none)
 (n_list:OV K VX "list"=some none)
 (n_max:OV K VX "max"=some none)
 (n_range:OV K VX "range"=some none)
 (n_set:OV K VX "set"=some none)
 (n_sorted:OV K VX "sorted"=some none)
 (n_str:OV K VX "str"=some none)
 (n_sum:OV K VX "sum"=some none)
 (n_tuple:OV K VX "tuple"=some none):∃t:cz,Txt K mg t:=by
 refine⟨⟨f0,e0,f1,e1,f2,e2,f3,e3,f4,e4,f5,e5,f6,e6,f7,e7,f8,e8,f9,e9,f10,e10,f11,e11,f12,e12,f13,e13,f14,e14,f15,e15,f16,e16,f17,e17,f18,e18,f19,e19,f20,e20,f21,e21,f22,e22,f23,e23,f24,e24,f25,e25,f26,e26,f27,e27,f28,e28,f29,e29,f30,e30,f31,e31,f32,e32,f33,e33,f34,e34,f35,e35,f36,e36,f37,e37,f38,e38,f39,e39,f40,e40,f41,e41,f42,e42,f43,e43,f44,e44,f45,e45,f46,e46,f47,e47,f48,e48,f49,e49,f50,e50,f51,e51,f52,e52,f53,e53,u_LAST_WRITTEN,u_NoPaper,u_LONGEST_NAME,u_LETTERS,u_MOST_MANY,.ref A_UNITS,u_MOST_MAKERS,u_ArchiveError,u_GoneMaker,u_Held,u_MustStay,u_NoCall,u_NoDay,u_NoDeed,u_NoLeave,u_NoNumber,u_NoText,u_Twice⟩,?_⟩;have bl:∀(s:VN)(u:VJ),BindsTo s e53 ⟨[u],[]⟩ [("_law_script",u)]:=λs v=>by
  obtain⟨oc,od,kV,doc,pm,an,cdv,ct,osl,rfl,_⟩:=a53.F.ex;exact .of_eq rfl
 exact⟨a0.fn X G,a1.fn X G,a2.fn X G,a3.fn X G,a4.fn X G,a5.fn X G,a6.fn X G,a7.fn X G,a8.fn X G,a9.fn X G,a10.fn X G,a11.fn X G,a12.fn X G,a13.fn X G,a14.fn X G,a15.fn X G,a16.fn X G,a17.fn X G,a18.fn X G,a19.fn X G,a20.fn X G,a21.fn X G,a22.fn X G,a23.fn X G,a24.fn X G,a25.fn X G,a26.fn X G,a27.fn X G,a28.fn X G,a29.fn X G,a30.fn X G,a31.fn X G,a32.fn X G,a33.fn X G,a34.fn X G,a35.fn X G,a36.fn X G,a37.fn X G,a38.fn X G,a39.fn X G,a40.fn X G,a41.fn X G,a42.fn X G,a43.fn X G,a44.fn X G,a45.fn X G,a46.fn X G,a47.fn X G,a48.fn X G,a49.fn X G,a50.fn X G,a51.fn X G,a52.fn X G,a53.fn X G,bl,Pw X G x_LAST_WRITTEN,r_LAST_WRITTEN,Pw X G x_NoPaper,Pw X G x_LONGEST_NAME,r_LONGEST_NAME,Pw X G x_LETTERS,r_LETTERS,Pw X G x_MOST_MANY,r_MOST_MANY,Pw X G x_UNITS,⟨A_UNITS,rfl,λH=>.inr ⟨_,_,_,y_UNITS,rfl,rfl,w_UNITS,z_UNITS⟩⟩,Pw X G x_MOST_MAKERS,r_MOST_MAKERS,Pw X G x_ArchiveError,Pw X G x_GoneMaker,Pw X G x_Held,Pw X G x_MustStay,Pw X G x_NoCall,Pw X G x_NoDay,Pw X G x_NoDeed,Pw X G x_NoLeave,Pw X G x_NoNumber,Pw X G x_NoText,Pw X G x_Twice,f_q_NoPaper,f_q_ArchiveError,f_z1,f_z2,f_z3,f_z4,f_z5,f_z6,f_z7,f_z8,f_i_NoPaper_ArchiveError,f_ka,f_kv,Pe X G n_ValueError,Pe X G n__law_one,Pe X G n_abs,Pe X G n_all,Pe X G n_any,Pe X G n_bool,Pe X G n_divmod,Pe X G n_int,Pe X G n_isinstance,Pe X G n_len,Pe X G n_list,Pe X G n_max,Pe X G n_range,Pe X G n_set,Pe X G n_sorted,Pe X G n_str,Pe X G n_sum,Pe X G n_tuple⟩
local macro_rules | `(tactic| walk_at "o")=>`(tactic| first | exact S7 rfl | exact Sg rfl)
theorem VG{p:Prop}(h:p:=by walk_at "o"):p:=h
local macro_rules | `(tactic| walk_at "a") =>do let a <- rzT "hG Ov PV OG Qx SK SM OQ Rz QN"; let b <- rzT "↓Jp ↓Jy ↓Jz ↓JA ↓JB ↓JC ↓A8 ↓IW ↓KN ↓KO ↓KQ ↓KR ↓KS ↓KU ↓IX ↓IY ↓IZ ↓I0 ↓Ja ↓Jb ↓Jc ↓Jd ↓Je ↓Jf ↓Jg ↓Jh ↓Ji ↓Jj ↓Jk ↓Jl ↓Jm ↓Jn ↓Jo wM wN wR wO wQ wU rM wV wX xh xj wA dC fU dI xA xD xE xF oC xV xT xI xG dL rP wB jF fT fV wC wD wF wG wH wI wJ om iD xM xX rZ xJ xK xN xO xP xQ xR rR xZ x9 Aa jJ xn xp xt xu xv AE A3 A4 A5 Ay Az AB AD oP AR AJ Av Aw A7 Bb Ba Bc Bd Be mB Bg Bh Bi Bk Bl BF BG mE BE BV BX BR BU BY B1 B3 Cb Cz Cv Cs Ct CB CD Cq CJ pg Cd Cf mI II IJ ne_eq Io Ip Iq Ir Iu Il Im oA oB xx lW w8 w6 wZ jH hG eM lK nN ki Ov PV OG Qx OQ Rz QN Po SK SM Ur Us Ut RU QR SR Sz SA RZ exists_eq_left' exists_eq_left exists_and_left exists_and_right Tb Tc Sl.v.injEq Sl.o.injEq Sl.k.injEq RA Vz Qi Qu VA PH and_true true_and Uu Nat.reduceLeDiff exists_const decide_eq_true_eq Uv Uw T3 T4 Qw decide_eq_false_iff_not and_assoc or_true true_or ↓reduceIte if_true if_false QH Ux not_true_eq_false not_false_eq_true Vb U3 ite_true ite_false eq_self exists_eq reduceCtorEq false_and and_false or_false false_or exists_false UZ Option.map_none n8 TZ List.all_nil QD Vk Qb R8 PD QQ dM eN l4 l5 rT gN oF beq_self_eq_true iG Hm Ab bU sizeLine_eq"; `(tactic| ((try $a:tactic); $b:tactic))
theorem CZ:bt (aA pF) ["thing"] ["sign"] 1 [] ⟨OE,[ (Oj ".0",Xy),(Oj "sign",Xy),(Oj "LETTERS",OT)],false,false,[]⟩:= .of
theorem C0:bt (aA mO) ["thing"] ["name"] 1 [] ⟨OE,[ (Oj ".0",Xy),(Oj "name",Xy),(Oj "is_name",OT)],false,false,[]⟩:= .of
theorem C1:bt (aA mO) ["thing"] ["place","thing"] 1 [0] ⟨OE,[ (Oj ".0",Xy),(Oj "place",Xy),(Oj "thing",OM)],false,false,[]⟩:= .of
section
variable {P:VW} {w:VZ} {K:Og} {mg:Str->Option VJ} {base:VY} {t:cz}
def LY:List VI->(VI->Prop)->Prop:=λds Q=>∃d,ds=[d]/\thg d=true/\Q (.bool (jR d))
theorem uk(T:Txt K mg t):aF P w K mg base aK 1 t.a_A t.d_A ["thing"] (aQ K LY):=by
 refine T.F_A.F.okD Lv (λds Q h=>?_) (λ_ _ _ _ H O ds Q E hr h=>?_)
 ·obtain⟨d,rfl,_⟩:=h;rfl
 ·obtain⟨d,rfl,hd,q⟩:=h;refine⟨_,(ai (ay (cx (fJ (K':=K) (T:="int") rfl rfl T.n_isinstance d6 (df (dv 0)) (eX (v:= .ty "int") rfl T.n_int rF rfl)) (cU (G5 (fJ (K':=K) (T:="bool") rfl rfl T.n_isinstance d6 (df (dv 0)) (eX (v:= .ty "bool") rfl T.n_bool wa rfl))))))),?_⟩;walk_at "a";simp only [Ii,AU];walk_at "a";refine⟨jQ hd,?_⟩;cases d <;> simp [AS,oQ,jR] at q⊢<;> exact q
def LZ:List VI->(VI->Prop)->Prop:=λds Q=>∃d,ds=[d]/\thg d=true/\Q (.bool (iJ d))
theorem L4(T:Txt K mg t):aF P w K mg base aK 2 t.a_B t.d_B ["thing"] (aQ K LZ):=by
 have G_A:=@uk P w _ _ base _ T;refine T.F_B.F.okD Lw (λds Q h=>?_) (λ_ _ _ _ H O ds Q E hr h=>?_)
 ·obtain⟨d,rfl,_⟩:=h;rfl
 ·obtain⟨d,rfl,hd,q⟩:=h;refine⟨_,(ai (ay (cx (ar G_A hr T.F_A (aa (dv 0) ag)) (cU (wL jz jz dJ dJ (df af) (df (dv 0)) (df (dc (dS rfl T.c_LAST_WRITTEN T.r_LAST_WRITTEN) (λ_ _=>.int _)))))))),?_⟩;walk_at "a";refine⟨d,rfl,hd,?_⟩;cases d with
  | int i=>
   walk_at "a";simp only [jR,iJ] at q⊢;by_cases h0:0<=i
   ·rw [VF h0];simpa [h0] using q
   ·rw [VE h0];simpa [h0] using q
  | _=>exact⟨_,rfl,by simpa [jR,iJ] using q⟩
def pU:List VI->(VI->Prop)->Prop:=λds Q=>∃d,∃n:Int,ds=[d,.int n]/\thg d=true/\Q (.bool (dO d n))
theorem um(T:Txt K mg t):aF P w K mg base aK 1 t.a_R t.d_R ["thing","length"] (aQ K pU):=by
 refine T.F_R.F.okD LG (λds Q h=>?_) (λ_ _ _ _ H O ds Q E hr h=>?_)
 ·obtain⟨d,n,rfl,_⟩:=h;rfl
 ·obtain⟨d,n,rfl,hd,q⟩:=h;refine⟨_,(ai (ay (cx (fJ (K':=K) (T:="tuple") rfl rfl T.n_isinstance d6 (df (dv 0)) (eX (v:= .ty "tuple") rfl T.n_tuple d7 rfl)) (cU (b7 (bA hr.units) bB (df (PE.imp (aS bG rfl T.n_len OF (aO (dv 0) aN)) (aT bK))) (df (dv 1)) (aB _)))))),?_⟩;walk_at "a";simp only [jd];walk_at "a";refine⟨jQ hd,?_⟩;cases d with
  | tuple l=>simp only [fE];walk_at "a";exact q
  | _=>simpa [fE,dO] using q
def jY:List VI->(VI->Prop)->Prop:=λds Q=>∃d,ds=[d]/\thg d=true/\Q (.bool (cE d))
theorem lg(T:Txt K mg t):aF P w K mg base aK 1 t.a_S t.d_S ["thing"] (aQ K jY):=by
 refine T.F_S.F.okD LH (λds Q h=>?_) (λ_ _ _ _ H O ds Q E hr h=>?_)
 ·obtain⟨d,rfl,_⟩:=h;rfl
 ·obtain⟨d,rfl,hd,q⟩:=h;refine⟨_,(ao (aM (PW.pt (cS (cM (bQ (fJ (K':=K) (T:="str") rfl rfl T.n_isinstance d6 (df (dv 0)) (eX (v:= .ty "str") rfl T.n_str Gy rfl)))) (dH (cM (G6 jz jz dJ dJ (df af) (df (PE.imp (aS vO rfl T.n_len OF (aO (dv 0) aN)) (aT AA))) (df (dc (dS rfl T.c_LONGEST_NAME T.r_LONGEST_NAME) (λ_ _=>.int _)))))))) (ai (ay bH)) aL)
   (ai (ay (PE.imp (aS (n4 rfl) rfl T.n_all n5 (aO (fe (HU rfl CZ (df (dv 0)) aV cI VC (λ_ _ _ _=>(aR (i:=0) CZ.nd rfl VG)) (λ_ _ _ _=>fC) (λ_ _ _ _=>(b7 Fp HW (df (dv 0)) (df (dc (dS rfl T.c_LETTERS T.r_LETTERS) (λ_ _=>.str _))) rfl)))) aN)) (aT jM))))),?_⟩
  walk_at "a";simp only [Ih];walk_at "a";refine⟨jQ hd,?_⟩;cases d with
  | str z=>
   have hz:=Ik hd;simp only [sA];walk_at "a";refine⟨VD,?_⟩;simp only [cE] at q;split
   ·rename_i h1;split
    ·rename_i h2;rw [decide_eq_false (p:=z.length<=8) VD] at q;simpa using q
    ·rename_i h2;rw [decide_eq_true (p:=1<=z.length) VD,decide_eq_true (p:=z.length<=8) VD] at q;refine⟨VD,sE (p:=λb=>Q (.bool b)) (λx=>match x with | .str y=>decide (y.cps.toList.headD 0∈dD.cps.toList) | _=>false) (λx hx R hR=>?_) ?_⟩
     ·obtain⟨c,_,rfl⟩:=Ow.mp hx;walk_at "a";rw [StrLaws.found_one];exact hR
     ·unfold Au;rw [Pl,Um];exact q
   ·rename_i h1;rw [decide_eq_false (p:=1<=z.length) VD] at q;simpa using q
  | _=>simpa [sA,cE] using q
def C2:List VI->(VI->Prop)->Prop:=λds Q=>∃d,ds=[d]/\thg d=true/\Q (.bool (fb d))
theorem L5(T:Txt K mg t):aF P w K mg base aK 2 t.a_T t.d_T ["thing"] (aQ K C2):=by
 have G_R:=@um P w _ _ base _ T;have G_S:=@lg P w _ _ base _ T;refine T.F_T.F.okD LJ (λds Q h=>?_) (λ_ _ _ _ H O ds Q E hr h=>?_)
 ·obtain⟨d,rfl,_⟩:=h;rfl
 ·obtain⟨d,rfl,hd,q⟩:=h;refine⟨_,(ao (aM (bQ (ar G_R hr T.F_R (aa (dv 0) (aa af ag)))) (ai (ay (b7 (cq hr) cu (df (ax aC aD (dv 0) af)) (df aJ) (aB _)))) aL)
   (ao (aM (bQ (ar G_R hr T.F_R (aa (dv 0) (aa af ag)))) (ai (ay (cx (b7 (fY hr) fZ (df (ax aC aD (dv 0) af)) (df (bg (aa aJ (aa aJ ag)))) rfl) (cU (ar G_S hr T.F_S (aa (ax aC aD (dv 0) af) ag)))))) aL)
   (ai (ay bH)))),?_⟩
  walk_at "a";simp only [pU];walk_at "a";refine⟨hd,?_⟩;rcases mv d with⟨l,rfl⟩ | hn
  ·have hl:=mq hd
   match l,hl with
   | [],_=>simpa [fb,dO,hd] using q
   | [a],hl=>
    have ha:=hl a VH;simp [fb,dO,hX ha,dM] at q⊢;exact q
   | [a,b],hl=>
    have ha:=hl a VH;have hb:=hl b VH;simp [fb,dX,dO,hX ha,hd,jY,hb,dM,eN] at q⊢;generalize ((Ol (Oh "first")).eqv a)=A at*;generalize ((Ol (Oh "last")).eqv a)=B at*;cases A <;> cases B <;> simp at q⊢<;> exact q
   | _::_::_::r,_=>
    have h1:¬((r.length:Int)+1+1+1=1):=VD
    have h2:¬((r.length:Int)+1+1+1=2):=VD
    simpa [fb,dO,hd,h1,h2] using q
  ·have e:fb d=false:=by
    unfold fb;split
    ·exact absurd rfl (hn _)
    ·exact absurd rfl (hn _)
    ·rfl
   rw [e] at q;simpa [sF hn,hd] using q
theorem L6{a:VM}(h:∀H,br K H a [V.str "days",V.str "months",V.str "years"]):∀H O,Dt K H O (.ref a) (.tuple [.str "days",.str "months",.str "years"]):=λH O=>
 .tupK (h lU) (.cons (.str _) (.cons (.str _) (.cons (.str _) .nil)))
def C3:List VI->(VI->Prop)->Prop:=λds Q=>∃m u,ds=[m,u]/\thg m=true/\thg u=true/\Q (.bool (kN m u))
theorem L7(T:Txt K mg t):aF P w K mg base aK 2 t.a_U t.d_U ["many","unit"] (aQ K C3):=by
 have G_A:=@uk P w _ _ base _ T;obtain⟨aU,eU,hU⟩:=T.e_UNITS;have Tr_UNITS:aH (.ref aU) t.u_UNITS:=eU;have Td_UNITS:=L6 hU;refine T.F_U.F.okD LK (λds Q h=>?_) (λ_ _ _ _ H O ds Q E hr h=>?_)
 ·obtain⟨d,u,rfl,_⟩:=h;rfl
 ·obtain⟨m,u,rfl,hm,hu,q⟩:=h;refine⟨_,(ai (ay (cx (ar G_A hr T.F_A (aa (dv 0) ag)) (cx (wL jz jz dJ dJ (df af) (df (dv 0)) (df (dc (dS rfl T.c_MOST_MANY T.r_MOST_MANY) (λ_ _=>.int _)))) (cU (b7 (fY hr) fZ (df (dv 1)) (df (dc (dS rfl T.c_UNITS Tr_UNITS) Td_UNITS)) rfl)))))),?_⟩;walk_at "a";refine⟨m,rfl,hm,?_⟩;cases m with
  | int i=>
   walk_at "a";simp only [jR,kN,mr,dX] at q⊢;simp only [if_true];by_cases h0:0<=i
   ·rw [VF h0];by_cases h1:i<=999
    ·simp [h0,h1,hX hu] at q⊢;exact q
    ·simp [h0,h1] at q⊢;exact q
   ·simp [h0] at q⊢;exact q
  | _=>exact⟨_,rfl,by simpa [jR,kN,mr] using q⟩
def C4:List VI->(VI->Prop)->Prop:=λds Q=>∃d,ds=[d]/\thg d=true/\Q (.bool (eO d))
theorem L8(T:Txt K mg t):aF P w K mg base aK 3 t.a_V t.d_V ["thing"] (aQ K C4):=by
 have G_R:=@um P w _ _ base _ T;have G_S:=@lg P w _ _ base _ T;have G_T:=@L5 P w _ _ base _ T;have G_U:=@L7 P w _ _ base _ T;refine T.F_V.F.okD CL (λds Q h=>?_) (λ_ _ _ _ H O ds Q E hr h=>?_)
 ·obtain⟨d,rfl,_⟩:=h;rfl
 ·obtain⟨d,rfl,hd,q⟩:=h;refine⟨_,(ao (aM (bQ (ar G_R hr T.F_R (aa (dv 0) (aa af ag)))) (ai (ay (cx (b7 (fY hr) fZ (df (ax aC aD (dv 0) af)) (df (bg (jP (ds:=[.str "while",.str "follow",.str "leave"]) (by rfl)))) rfl) (cU (ar G_S hr T.F_S (aa (ax aC aD (dv 0) af) ag)))))) aL)
   (ao (aM (bQ (ar G_R hr T.F_R (aa (dv 0) (aa af ag)))) (ao (bj (i:=1) CL.nd rfl VG (cx (b7 (fY hr) fZ (df (ax aC aD (dv 0) af)) (df (bg (aa aJ (aa aJ ag)))) rfl) (cU (ar G_S hr T.F_S (aa (ax aC aD (dv 0) af) ag)))))
   (ai (ay (cx (dv 1) (cx (ar G_T hr T.F_T (aa (ax aC aD (dv 0) af) ag)) (cU (ar G_U hr T.F_U (aa (ax aC aD (dv 0) af) (aa (ax aC aD (dv 0) af) ag))))))))) aL)
   (ai (ay bH)))),?_⟩
  walk_at "a";simp only [pU];walk_at "a";refine⟨hd,?_⟩;rcases mv d with⟨l,rfl⟩ | hn
  ·have hl:=mq hd
   match l,hl with
   | [],_=>simpa [eO,dO,hd] using q
   | [a],_=>simpa [eO,dO,hd] using q
   | [_,_,_],_=>simpa [eO,dO,hd] using q
   | [_,_,_,_],_=>simpa [eO,dO,hd] using q
   | [a,b],hl=>
    have ha:=hl a VH;have hb:=hl b VH;simp [eO,dX,dO,hX ha,hd,jY,hb,dM,eN] at q⊢;generalize ((Ol (Oh "while")).eqv a)=A at*;generalize ((Ol (Oh "follow")).eqv a)=B at*;generalize ((Ol (Oh "leave")).eqv a)=C at*;cases A <;> cases B <;> cases C <;> simp at q⊢<;> exact q
   | [a,b,c,d,e],hl=>
    have ha:=hl a VH;have hb:=hl b VH;have hc:=hl c VH;have hd':=hl d VH;have he:=hl e VH;simp [eO,dX,dO,hX ha,hd,jY,C2,C3,hb,hc,hd',he,dM,eN,l4,l5,rT] at q⊢;generalize ((Ol (Oh "keep")).eqv a)=A at*;generalize ((Ol (Oh "gone")).eqv a)=B at*;generalize cE b=C at*;generalize fb c=D at*;cases A <;> cases B <;> cases C <;> cases D <;> simp at q⊢<;> first | exact q | exact⟨_,_,⟨rfl,rfl⟩,hd',he,q⟩
   | _::_::_::_::_::_::r,_=>
    have h1:¬((r.length:Int)+1+1+1+1+1+1=2):=VD
    have h2:¬((r.length:Int)+1+1+1+1+1+1=5):=VD
    simpa [eO,dO,hd,h1,h2] using q
  ·have e:eO d=false:=by
    unfold eO;split
    ·exact absurd rfl (hn _)
    ·exact absurd rfl (hn _)
    ·rfl
   rw [e] at q;simpa [sF hn,hd] using q
def C5:List VI->(VI->Prop)->Prop:=λds Q=>∃d,ds=[d]/\thg d=true/\Q (.bool (je d))
theorem L9(T:Txt K mg t):aF P w K mg base aK 2 t.a_W t.d_W ["thing"] (aQ K C5):=by
 have G_S:=@lg P w _ _ base _ T;refine T.F_W.F.okD LL (λds Q h=>?_) (λ_ _ _ _ H O ds Q E hr h=>?_)
 ·obtain⟨d,rfl,_⟩:=h;rfl
 ·obtain⟨d,rfl,hd,q⟩:=h;refine⟨_,(ao (aM (PW.pt (cS (cM (bQ (fJ (K':=K) (T:="tuple") rfl rfl T.n_isinstance d6 (df (dv 0)) (eX (v:= .ty "tuple") rfl T.n_tuple d7 rfl)))) (dH (aG qS dJ (PE.imp (aS bG rfl T.n_len OF (aO (dv 0) aN)) (aT bK)) (dc (dS rfl T.c_MOST_MAKERS T.r_MOST_MAKERS) (λ_ _=>.int _)) (aB _))))) (ai (ay bH)) aL)
   (ao (aM (cM (bQ (PE.imp (aS (n4 rfl) rfl T.n_all n5 (aO (fe (kH rfl C0 (df (dv 0)) aV cI VC (λ_ _ _ _=>(aR (i:=0) C0.nd rfl VG)) (λ_ _ _ _=>fC) (λ_ _ _ _=>(ar G_S hr T.F_S (aa (dv 0) ag))))) aN)) (aT jM)))) (ai (ay bH)) aL)
   (ai (ay (PE.imp (aS (n4 rfl) rfl T.n_all n5 (aO (fe (Ax rfl C1 rfl T.n_range (aO af (aO (PE.imp (aS bG rfl T.n_len OF (aO (dv 0) aN)) (aT bK)) aN)) aV cI VC (λ_ _ _ _=>(aR (i:=0) C1.nd rfl VG)) (λ_ _ _ _=>fC) (λ_ _ _ _=>(b7 Fo HV (df (ax aC aD (dv 1) (aZ g5 bX (dv 0) af))) (df (ax aC aD (dv 1) (dv 0))) (aB _))))) aN)) (aT jM)))))),?_⟩
  walk_at "a";simp only [jd];walk_at "a";refine⟨jQ hd,?_⟩;rcases mv d with⟨l,rfl⟩ | hn
  ·have hl:=mq hd;simp only [fE];walk_at "a";simp only [je] at q;split
   ·rename_i h4;rw [decide_eq_false (p:=l.length<=4) VD] at q;simpa using q
   ·rename_i h4;rw [decide_eq_true (p:=l.length<=4) VD] at q;refine⟨VD,sE (p:=λb=>if b=false then Q (.bool false) else _) cE (λx hx R hR=>?_) ?_⟩
    ·walk_at "a";exact⟨x,rfl,hl x hx,hR⟩
    ·have ea:(l.map cE).all id=l.all cE:=by rw [Um];rfl
     rw [ea];split
     ·rename_i h5;rw [h5] at q;simpa using q
     ·rename_i h5;rw [UH] at h5;rw [h5] at q;refine⟨by have:((16777216:Nat):Int)=16777216:=rfl;omega,VD,VD,sE (p:=λb=>Q (.bool b)) (λx=>match x with | .int p=>oT (l.getD (p - 1).toNat .none) (l.getD p.toNat .none) | _=>false) (λx hx R hR=>?_) ?_⟩
      ·obtain⟨i,hi,rfl⟩:=Ow.mp hx;have hi':=QS.mp hi;have l1:i < l.length:=VD
       have l2:i+1 < l.length:=VD
       have n1:cE l[i]=true:=Qe.mp h5 _ (PB l1);have n2:cE l[i+1]=true:=Qe.mp h5 _ (PB l2);obtain⟨z1,e1,_⟩:=jg n1;obtain⟨z2,e2,_⟩:=jg n2;have a1:(1:Int)+(i:Int) - 1=((i:Nat):Int):=VD
       have a2:(1:Int)+(i:Int)=((i+1:Nat):Int):=VD
       simp only [a1] at hR;rw [a2] at hR;simp only [P5,Qk,OS l1,OS l2,Option.getD_some,e1,e2,oT] at hR;walk_at "a";rw [a1,a2];exact⟨_,dG (by rw [OS l1,e1]),_,dG (by rw [OS l2,e2]),z1,rfl,z2,rfl,hR⟩
      ·simp only [PD] at q
       match l,h4,q with
       | [],_,q=>simpa [gO,eZ] using q
       | [a],_,q=>simpa [gO,eZ] using q
       | [a,b],_,q=>simpa [gO,eZ,Rm] using q
       | [a,b,c],_,q=>simpa [gO,eZ,Rm] using q
       | [a,b,c,d],_,q=>simpa [gO,eZ,Rm] using q
       | _::_::_::_::_::r,h4,_=>simp only [OG] at h4;omega
  ·rw [AV hn];have e:je d=false:=by
    unfold je;split
    ·exact absurd rfl (hn _)
    ·rfl
   rw [e] at q;simpa using q
def C6:List VI->(VI->Prop)->Prop:=λds Q=>∃d,ds=[d]/\thg d=true/\Q (.bool (gc d))
theorem Ma(T:Txt K mg t):aF P w K mg base aK 2 t.a_X t.d_X ["thing"] (aQ K C6):=by
 have G_R:=@um P w _ _ base _ T;have G_S:=@lg P w _ _ base _ T;refine T.F_X.F.okD LN (λds Q h=>?_) (λ_ _ _ _ H O ds Q E hr h=>?_)
 ·obtain⟨d,rfl,_⟩:=h;rfl
 ·obtain⟨d,rfl,hd,q⟩:=h;refine⟨_,(ai (ay (cx (ar G_R hr T.F_R (aa (dv 0) (aa af ag))) (cx (b7 (fY hr) fZ (df (ax aC aD (dv 0) af)) (df (bg (aa aJ (aa aJ ag)))) rfl) (cU (ar G_S hr T.F_S (aa (ax aC aD (dv 0) af) ag))))))),?_⟩;walk_at "a";simp only [pU];walk_at "a";refine⟨hd,?_⟩;rcases mv d with⟨l,rfl⟩ | hn
  ·have hl:=mq hd
   match l,hl with
   | [],_=>simpa [gc,dO] using q
   | [a],_=>simpa [gc,dO] using q
   | [a,b],hl=>
    have ha:=hl a VH;have hb:=hl b VH;simp [gc,dX,dO,hX ha,jY,hb,dM,eN] at q⊢;generalize ((Ol (Oh "paper")).eqv a)=A at*;generalize ((Ol (Oh "kind")).eqv a)=B at*;cases A <;> cases B <;> simp at q⊢<;> exact q
   | _::_::_::r,_=>
    have h2:¬((r.length:Int)+1+1+1=2):=VD
    simpa [gc,dO,h2] using q
  ·have e:gc d=false:=by
    unfold gc;split
    ·exact absurd rfl (hn _)
    ·rfl
   rw [e] at q;simpa [sF hn] using q
def Mb:List VI->(VI->Prop)->Prop:=λds Q=>∃d ps,ds=[d,.tuple ps]/\thg d=true/\(∀p∈ps,thg p=true)/\Q (.bool (jf d ps))
theorem Mc(T:Txt K mg t):aF P w K mg base aK 4 t.a_Y t.d_Y ["word","parts"] (aQ K Mb):=by
 have G_S:=@lg P w _ _ base _ T;have G_V:=@L8 P w _ _ base _ T;have G_W:=@L9 P w _ _ base _ T;have G_X:=@Ma P w _ _ base _ T;refine T.F_Y.F.okD LO (λds Q h=>?_) (λ_ _ _ _ H O ds Q E hr h=>?_)
 ·obtain⟨d,ps,rfl,_⟩:=h;rfl
 ·obtain⟨d,ps,rfl,hd,hp,q⟩:=h;refine⟨_,(ao (aM (aG (fY hr) fZ (dv 0) (bg (aa aJ (aa aJ ag))) rfl) (ai (ay (b7 (bA hr.units) bB (df (PE.imp (aS bG rfl T.n_len OF (aO (dv 1) aN)) (aT bK))) (df af) (aB _)))) aL)
   (ao (aM (aG (fY hr) fZ (dv 0) (bg (aa aJ (aa aJ ag))) rfl) (ai (ay (cx (b7 (bA hr.units) bB (df (PE.imp (aS bG rfl T.n_len OF (aO (dv 1) aN)) (aT bK))) (df af) (aB _)) (cU (ar G_S hr T.F_S (aa (ax aC aD (dv 1) af) ag)))))) aL)
   (ao (aM (aG (cq hr) cu (dv 0) aJ (aB _)) (ai (ay (cx (b7 (bA hr.units) bB (df (PE.imp (aS bG rfl T.n_len OF (aO (dv 1) aN)) (aT bK))) (df af) (aB _)) (cU (ar G_V hr T.F_V (aa (ax aC aD (dv 1) af) ag)))))) aL)
   (ao (aM (aG (cq hr) cu (dv 0) aJ (aB _)) (ai (ay (cx (b7 (bA hr.units) bB (df (PE.imp (aS bG rfl T.n_len OF (aO (dv 1) aN)) (aT bK))) (df af) (aB _)) (cx (ar G_S hr T.F_S (aa (ax aC aD (dv 1) af) ag)) (cU (ar G_W hr T.F_W (aa (ax aC aD (dv 1) af) ag))))))) aL)
   (ao (aM (aG (cq hr) cu (dv 0) aJ (aB _)) (ai (ay (cx (b7 (bA hr.units) bB (df (PE.imp (aS bG rfl T.n_len OF (aO (dv 1) aN)) (aT bK))) (df af) (aB _)) (cx (ar G_X hr T.F_X (aa (ax aC aD (dv 1) af) ag)) (cU (fJ (K':=K) (T:="bool") rfl rfl T.n_isinstance d6 (df (ax aC aD (dv 1) af)) (eX (v:= .ty "bool") rfl T.n_bool wa rfl))))))) aL)
   (ai (ay bH))))))),?_⟩
  walk_at "a";simp only [hX hd,AU];walk_at "a";simp only [jf,dX,QD,Vk,R8] at q;split
  ·rename_i h;rw [VF h] at q
   match ps with
   | []=>simpa using q
   | _::r=>
    have h1:(((r.length+1:Nat):Int)==0)=false:=by rw [beq_eq_false_iff_ne];omega
    rw [OG,h1];simpa using q
  rename_i h;rw [VE h] at q;clear h;split
  ·rename_i h;rw [VF h] at q
   match ps,hp with
   | [],_=>simpa using q
   | [a],hp=>have ha:=hp a VH;simpa [dM,jY,ha] using q
   | _::_::r,_=>
    have h1:¬((r.length:Int)+1+1=1):=VD
    simpa [h1] using q
  rename_i h;rw [VE h] at q;clear h;split
  ·rename_i h;rw [VF h] at q
   match ps,hp with
   | [],_=>simpa using q
   | [a],hp=>have ha:=hp a VH;simpa [dM,C4,ha] using q
   | _::_::r,_=>
    have h1:¬((r.length:Int)+1+1=1):=VD
    simpa [h1] using q
  rename_i h;rw [VE h] at q;clear h;split
  ·rename_i h;rw [VF h] at q
   match ps,hp with
   | [],_=>simpa using q
   | [a],_=>simpa using q
   | [a,b],hp=>
    have ha:=hp a VH;have hb:=hp b VH;simp [dM,eN,jY,C5,ha,hb] at q⊢;generalize cE a=A at*;cases A <;> simp at q⊢<;> exact q
   | _::_::_::r,_=>
    have h1:¬((r.length:Int)+1+1+1=2):=VD
    simpa [h1] using q
  rename_i h;rw [VE h] at q;clear h;split
  ·rename_i h;rw [VF h] at q
   match ps,hp with
   | [],_=>simpa using q
   | [a],_=>simpa using q
   | [a,b],hp=>
    have ha:=hp a VH;have hb:=jQ (hp b VH);simp [dM,eN,C6,ha] at q⊢;generalize gc a=A at*;cases A <;> simp at q⊢<;> first | exact q | exact⟨hb,q⟩
   | _::_::_::r,_=>
    have h1:¬((r.length:Int)+1+1+1=2):=VD
    simpa [h1] using q
  ·rename_i h;rw [VE h] at q;exact q
def Md:List VI->(VI->Prop)->Prop:=λds Q=>∃d,ds=[d]/\thg d=true/\Q (.bool (fF d))
theorem Me(T:Txt K mg t):aF P w K mg base aK 5 t.a_Z t.d_Z ["thing"] (aQ K Md):=by
 have G_S:=@lg P w _ _ base _ T;have G_B:=@L4 P w _ _ base _ T;have G_Y:=@Mc P w _ _ base _ T;refine T.F_Z.F.okD LP (λds Q h=>?_) (λ_ _ _ _ H O ds Q E hr h=>?_)
 ·obtain⟨d,rfl,_⟩:=h;rfl
 ·obtain⟨d,rfl,hd,q⟩:=h;refine⟨_,(ao (aM (PW.pt (cS (cM (bQ (fJ (K':=K) (T:="tuple") rfl rfl T.n_isinstance d6 (df (dv 0)) (eX (v:= .ty "tuple") rfl T.n_tuple d7 rfl)))) (dH (aG iz dJ (PE.imp (aS bG rfl T.n_len OF (aO (dv 0) aN)) (aT bK)) af (aB _))))) (ai (ay bH)) aL)
   (ai (ay (cx (ar G_B hr T.F_B (aa (ax aC aD (dv 0) af) ag)) (cx (ar G_S hr T.F_S (aa (ax aC aD (dv 0) af) ag)) (cU (ar G_Y hr T.F_Y (aa (ax aC aD (dv 0) af) (aa (kM (df (dv 0)) (dB af) fB) ag))))))))),?_⟩
  walk_at "a";simp only [jd];walk_at "a";refine⟨jQ hd,?_⟩;rcases mv d with⟨l,rfl⟩ | hn
  ·have hl:=mq hd;simp only [fE];walk_at "a"
   match l,hl with
   | [],_=>simpa [fF] using q
   | [a],_=>simpa [fF] using q
   | [a,b],_=>simpa [fF] using q
   | w::n::x::r,hl=>
    have h3:¬((((w::n::x::r).length:Nat):Int) < 3):=by simp only [OG];omega
    rw [VE h3];have hw:=hl w VH;have hn:=hl n VH;have hx:=hl x VH;have hr':∀p∈r,thg p=true:=λp hp=>hl p (by simp [hp]);have ec:bY (w::n::x::r) (some 3) none=r:=by rw [rV VC (by simp only [OG];omega)];rfl
    simp only [fF] at q;refine⟨_,eN,n,rfl,hn,?_⟩;refine⟨_,rfl,?_⟩;cases e1:iJ n with
    | false=>simpa [e1] using q
    | true=>
     rw [VF rfl];refine⟨_,l4,x,rfl,hx,_,rfl,?_⟩;cases e2:cE x with
     | false=>simpa [e1,e2] using q
     | true=>
      rw [VF rfl];refine⟨_,dM,w,r,by rw [ec],hw,hr',?_⟩;simpa [e1,e2] using q
  ·rw [AV hn];have e:fF d=false:=by
    unfold fF;split
    ·exact absurd rfl (hn _)
    ·rfl
   rw [e] at q;simpa using q
end
structure Pp where
 d:Int
 nm:Str
 kd:Str
 ms:List Str
def Pp.enc(p:Pp):VI:= .tuple [.str (Oh "paper"),.int p.d,.str p.nm,.str p.kd,.tuple (p.ms.map .str)]
def Pp.key(p:Pp):Int×Str:=(p.d,p.nm)
def jo:VI->Int×Str
 | .tuple (_:: .int d:: .str n::_)=>(d,n)
 | _=>(0,Oh "")
def Pp.lt(a b:Pp):Prop:=bz a.key b.key=true
instance (a b:Pp):Decidable (a.lt b):=by unfold Pp.lt;infer_instance
theorem C7(p:Int×Str):bz p p=false:=by unfold bz;simp [List.lt_irrefl]
theorem C8{a b c:Int×Str}(h1:bz a b=true)(h2:bz b c=true):bz a c=true:=by
 unfold bz at h1 h2⊢;simp only [RH,OI,decide_eq_true_eq] at h1 h2⊢;rcases h1 with h1 | ⟨h1,h1'⟩ <;> rcases h2 with h2 | ⟨h2,h2'⟩
 ·left;omega
 ·left;omega
 ·left;omega
 ·right;exact⟨h1.trans h2,TY h1' h2'⟩
theorem C9{a b:Int×Str}(h:bz a b=true):¬bz b a=true:=λz=>by
 have:=C8 h z;rw [C7] at this;cases this
theorem Mf{a b:Int×Str}(h:a≠b):bz a b=true\/bz b a=true:=by
 have T:=BM (n:=2) (kp:=λi=>if i=0 then a else b) (λi j hi hj e=>by
  have:i=0\/i=1:=VD
  have:j=0\/j=1:=VD
  rcases ‹i=0\/i=1› with rfl | rfl <;> rcases ‹j=0\/j=1› with rfl | rfl
  ·rfl
  ·exact absurd e h
  ·exact absurd e.symm h
  ·rfl)
 have:=T.tot 0 1 VD VD VD;simp at this;cases hb:bz b a with
 | true=>exact .inr rfl
 | false=>rw [hb] at this;exact .inl (by simpa using this)
theorem Pp.lt_irr(a:Pp):¬a.lt a:=by unfold Pp.lt;rw [C7];simp
theorem Pp.lt_tr{a b c:Pp}(h1:a.lt b)(h2:b.lt c):a.lt c:=C8 h1 h2
theorem pV{α:Type}{r:α->α->Prop}(as:∀a b,r a b->¬r b a):∀{l1 l2:List α},l1.Perm l2->l1.Pairwise r->l2.Pairwise r->l1=l2
 | [],l2,p,_,_=>by rw [p.nil_eq]
 | a::l1,[],p,_,_=>by have:=p.length_eq;simp at this
 | a::l1,b::l2,p,h1,h2=>by
  have e:a=b:=by
   have m1:a∈b::l2:=p.mem_iff.mp VH;have m2:b∈a::l1:=p.mem_iff.mpr VH;rcases Ox.mp m1 with e | m1
   ·exact e
   ·rcases Ox.mp m2 with e | m2
    ·exact e.symm
    ·exact absurd ((Pq.mp h1).1 b m2) (as _ _ ((Pq.mp h2).1 a m1))
  subst e;rw [pV as ((List.perm_cons a).mp p) (Pq.mp h1).2 (Pq.mp h2).2]
def lh(x:Pp):List Pp->List Pp
 | []=>[x]
 | y::l=>if x.lt y then x::y::l else y::lh x l
def cF(ps:List Pp):List Pp:=ps.foldr lh []
theorem uo(x:Pp):∀l,(lh x l).Perm (x::l)
 | []=>.refl _
 | y::l=>by
  unfold lh;split
  ·exact .refl _
  ·exact((uo x l).cons y).trans (.swap x y l)
theorem jq:∀ps:List Pp,(cF ps).Perm ps
 | []=>.refl _
 | x::ps=>(uo x (cF ps)).trans ((jq ps).cons x)
theorem Dc{x:Pp}:∀{l:List Pp},(∀y∈l,y.nm≠x.nm)->l.Pairwise Pp.lt->(lh x l).Pairwise Pp.lt
 | [],_,_=>Ti _ _
 | y::l,hn,h=>by
  have hp:=Pq.mp h;unfold lh;split
  ·rename_i hl;refine Pq.mpr ⟨λz hz=>?_,h⟩;rcases Ox.mp hz with e | e
   ·subst e;exact hl
   ·exact Pp.lt_tr hl (hp.1 z e)
  ·rename_i hl;refine Pq.mpr ⟨λz hz=>?_,Dc (λz hz=>hn z (by simp [hz])) hp.2⟩;rcases Ox.mp ((uo x l).mem_iff.mp hz) with e | e
   ·subst e;rcases Mf (a:=y.key) (b:=z.key) (λz=>hn y VH (congrArg Prod.snd z)) with w | w
    ·exact w
    ·exact absurd w hl
   ·exact hp.1 z e
theorem pW:∀{ps:List Pp},(ps.map (·.nm)).Nodup->(cF ps).Pairwise Pp.lt
 | [],_=>.nil
 | x::ps,h=>by
  rw [Ov,QK] at h;exact Dc (λy hy e=>h.1 (by rw [<-e];exact Ow.mpr ⟨y,(jq ps).mem_iff.mp hy,rfl⟩)) (pW h.2)
theorem eV{ps:List Pp}{x:Pp}:x∈cF ps↔x∈ps:=(jq ps).mem_iff
theorem ur{ps:List Pp}:(cF ps).length=ps.length:=(jq ps).length_eq
theorem Pp.asym(a b:Pp)(h:a.lt b):¬b.lt a:=C9 h
theorem Mg{ps os:List Pp}(nd:(ps.map (·.nm)).Nodup)(hp:os.Perm ps)(hs:os.Pairwise Pp.lt):os=cF ps:=
 pV Pp.asym (hp.trans (jq ps).symm) hs (pW nd)
theorem uu{ps:List Pp}{f:Pp->Bool}(nd:(ps.map (·.nm)).Nodup):((ps.filter f).map (·.nm)).Nodup:=nd.sublist (RD.map _)
theorem Dd{ps:List Pp}{f:Pp->Bool}(nd:(ps.map (·.nm)).Nodup):cF (ps.filter f)=(cF ps).filter f:=
 (Mg (uu nd) ((jq ps).filter f) ((pW nd).sublist RD)).symm
theorem Mh{ps:List Pp}{ds:List VI}(nd:(ps.map (·.nm)).Nodup)(hp:ds.Perm (ps.map Pp.enc))(hs:ds.Pairwise λa b=>bz (jo a) (jo b)=true):ds=(cF ps).map Pp.enc:=by
 refine pV (λa b h=>C9 h) (hp.trans ((jq ps).symm.map _)) hs ?_;rw [Qf];exact pW nd
theorem gS{ps:List Pp}(nd:(ps.map (·.nm)).Nodup){a b:Pp}(ha:a∈ps)(hb:b∈ps)(e:a.nm=b.nm):a=b:=by
 induction ps with
 | nil=>cases ha
 | cons x ps ih=>
  rw [Ov,QK] at nd;rcases Ox.mp ha with ea | ha1 <;> rcases Ox.mp hb with eb | hb1
  ·rw [ea,eb]
  ·subst ea;exact absurd (Ow.mpr ⟨b,hb1,e.symm⟩) nd.1
  ·subst eb;exact absurd (Ow.mpr ⟨a,ha1,e⟩) nd.1
  ·exact ih nd.2 ha1 hb1
structure iQ (ps:List Pp):Prop where
 ln:ps.length<=41
 nd:(ps.map (·.nm)).Nodup
 nm:∀p∈ps,O5 p.nm=true
 kd:∀p∈ps,O5 p.kd=true
 ms:∀p∈ps,(∀m∈p.ms,O5 m=true)/\p.ms.length<=50
theorem iQ.filter{ps:List Pp}(g:iQ ps)(f:Pp->Bool):iQ (ps.filter f):=
 ⟨OZ (Qs _ _) g.ln,uu g.nd,λp hp=>g.nm p (O7.mp hp).1,λp hp=>g.kd p (O7.mp hp).1,λp hp=>g.ms p (O7.mp hp).1⟩
def pX(c p:Pp):Bool:=c.ms.contains p.nm && bz p.key c.key
def bM(ps:List Pp)(c:Pp):List Pp:=(cF ps).filter (pX c)
def pY(ps:List Pp)(a b:Pp):Prop:=a∈ps/\b∈ps/\a.nm∈b.ms/\a.lt b
theorem gB{ps:List Pp}{c p:Pp}(hc:c∈ps):p∈bM ps c↔pY ps p c:=by
 unfold bM pX;rw [O7,eV];simp only [OI,P4];exact⟨λuu2=>by obtain⟨a,b,d⟩:=uu2;exact⟨a,hc,b,d⟩,λuu3=>by obtain⟨a,_,b,d⟩:=uu3;exact⟨a,b,d⟩⟩
inductive De where
 | pap (p:Pp)
 | oth (w:Str) (d:Int) (nm:Str) (r:List VI)
def De.enc:De->VI
 | .pap p=>p.enc
 | .oth w d nm r=>.tuple (.str w:: .int d:: .str nm::r)
def De.w:De->Str
 | .pap _=>Oh "paper"
 | .oth w _ _ _=>w
def De.d:De->Int
 | .pap p=>p.d
 | .oth _ d _ _=>d
def De.nm:De->Str
 | .pap p=>p.nm
 | .oth _ _ nm _=>nm
def De.pp:De->Option Pp
 | .pap p=>some p
 | _=>none
def ah(xs:List De):List Pp:=xs.filterMap De.pp
structure cW (xs:List De):Prop where
 gp:iQ (ah xs)
 np:∀w d nm r,De.oth w d nm r∈xs->w≠Oh "paper"
 ln:xs.length<=41
 w:∀x∈xs,O5 x.w=true
 nm:∀x∈xs,O5 x.nm=true
theorem mT{xs:List De}{p:Pp}:p∈ah xs↔De.pap p∈xs:=by
 unfold ah;rw [QE];constructor
 ·rintro⟨x,hx,e⟩;cases x with
  | pap q=>cases e;exact hx
  | oth w d nm r=>cases e
 ·intro h;exact⟨_,h,rfl⟩
theorem Df(ps:List Pp):ah (ps.map De.pap)=ps:=by
 unfold ah;rw [Sv];exact List.filterMap_some
theorem Mi(ps:List Pp):ps.map Pp.enc=(ps.map De.pap).map De.enc:=by rw [Pl];rfl
theorem Mj:O5 (Oh "paper")=true:=Ce
theorem cW.of{ps:List Pp}(g:iQ ps):cW (ps.map De.pap):=by
 refine⟨by rw [Df];exact g,λw d nm r h=>?_,by rw [Oi];exact g.ln,λx hx=>?_,λx hx=>?_⟩
 ·obtain⟨p,_,e⟩:=Ow.mp h;cases e
 ·obtain⟨p,_,rfl⟩:=Ow.mp hx;exact Mj
 ·obtain⟨p,hp,rfl⟩:=Ow.mp hx;exact g.nm p hp
theorem Dg:bt (aA ph) ["deeds"] ["deed"] 1 [] ⟨OE,[(Oj ".0",Xy),(Oj "deed",Xy)],false,false,[]⟩:= .of
theorem Dh:bt (aA pj) ["deeds"] ["deed"] 1 [] ⟨OE,[(Oj ".0",Xy),(Oj "deed",Xy)],false,false,[]⟩:= .of
theorem Di:bt (aA mM) ["deeds","coming","named"] ["deed","coming"] 1 [1] ⟨OE,[ (Oj ".0",Xy),(Oj "deed",Xy),(Oj "coming",OM)],false,false,[]⟩:= .of
theorem Dj:bt (aA mM) ["deeds","coming","named"] ["deed","coming"] 1 [1] ⟨OE,[ (Oj ".0",Xy),(Oj "deed",Xy),(Oj "place_of",OT),(Oj "coming",OM)],false,false,[]⟩:= .of
theorem Dk:bt (aA pq) ["deeds","paper"] ["deed"] 1 [] ⟨OE,[(Oj ".0",Xy),(Oj "deed",Xy)],false,false,[]⟩:= .of
section
variable {P:VW} {w:VZ} {K:Og} {mg:Str->Option VJ} {base:VY} {t:cz}
theorem fK{α:Type}{enc:α->VI}{g:DG}{tc:DB}{te:DT}{δ0:Dl}{xs:List α}{Q:List VI->Prop}(p:α->Bool)(f:α->VI)
 (h:∀x∈xs,∀(R:VI->Prop) (S:Prop),(if p x=true then R (f x) else S)->g (enc x) δ0 λδ2=>tc δ2 λok=>if ok=true then te δ2 R else S)(q:Q ((xs.filter p).map f)):fA g tc te δ0 (xs.map enc) Q:=by
 refine⟨λi acc=>acc=((xs.take i).filter p).map f,rfl,?_,?_⟩
 ·rintro i z acc hz rfl;rw [OD] at hz;cases hz':xs[i]? with
  | none=>rw [hz'] at hz;cases hz
  | some x=>
   rw [hz'] at hz;cases hz;refine h x (OH hz') (λy=>((xs.take i).filter p).map f++[y]=((xs.take (i+1)).filter p).map f) (((xs.take i).filter p).map f=((xs.take (i+1)).filter p).map f) ?_;rw [Qa,hz'];by_cases e:p x=true
   ·rw [VF e];simp [e]
   ·rw [VE e];simp [e]
 ·rintro acc rfl;rw [Oi,Pd (Ot _)];exact q
theorem Mk{α:Type}{enc:α->VI}{g:DG}{tc:DB}{te:DT}{δ0:Dl}{xs:List α}{Q:List VI->Prop}(p:α->Bool)(f:α->VI)
 (h:∀x∈xs,∀(R:VI->Prop) (S:Prop),(p x=true->R (f x))->(p x=false->S)->g (enc x) δ0 λδ2=>tc δ2 λok=>if ok=true then te δ2 R else S)(q:Q ((xs.filter p).map f)):fA g tc te δ0 (xs.map enc) Q:=
 fK p f (λx hx R S z=>h x hx R S (λe=>by rw [VF e] at z;exact z) (λe=>by rw [VE (by rw [e];exact O6)] at z;exact z)) q
theorem mU{α:Type}(l:List α):l.filter (λ_=>true)=l:=List.filter_eq_self.mpr λ_ _=>rfl
theorem dZ{a b:Str}(h:a≠b):(a==b)=false:=by simpa using h
theorem iR{ws:List Str}{w:Str}:((ws.map Ol).any λd=>Om d (.str w))=ws.contains w:=by
 induction ws with
 | nil=>rfl
 | cons a ws ih=>
  rw [Ov,QD,ih,gN,Ui];congr 1;by_cases h:a=w
  ·simp [h]
  ·rw [dZ h,dZ (Ne.symm h)]
theorem jZ{ms:List Str}(h:∀m∈ms,O5 m=true):Pj (ms.map .str)=true:=(oK (n:=1) (sI h)).1
def ig(f:Pp->Bool):De->Bool
 | .pap p=>f p
 | _=>false
theorem mV{f:Pp->Bool}:∀xs:List De,(xs.filter (ig f)).map De.enc=((ah xs).filter f).map Pp.enc
 | []=>rfl
 | .pap p::xs=>by
  have ih:=mV (f:=f) xs;show _=(Ts f (p::ah xs)).map Pp.enc;rw [Td,Td];by_cases h:f p=true
  ·rw [VF h,VF (show ig f (.pap p)=true from h),Ov,Ov,ih];rfl
  ·rw [VE h,VE (show ¬ig f (.pap p)=true from h),ih]
 | .oth w d nm r::xs=>by
  have ih:=mV (f:=f) xs;show _=(Ts f (ah xs)).map Pp.enc;rw [Td,VE (show ¬ig f (.oth w d nm r)=true from O6),ih]
def uw:List VI->(VI->Prop)->Prop:=λds Q=>∃p:De,ds=[p.enc]/\Q (fI (p.d,p.nm))
theorem Dm(T:Txt K mg t):aF P w K mg base aK 1 t.a_C t.d_C ["deed"] (aQ K uw):=by
 refine T.F_C.F.okD Lx (λds Q h=>?_) (λ_ _ _ _ H O ds Q E hr h=>?_)
 ·obtain⟨p,rfl,_⟩:=h;rfl
 ·obtain⟨p,rfl,q⟩:=h;refine'⟨_,?A,?B⟩
  case A=>
   refine' ai ?C
   case' C=>refine' ay ?D
   case' D=>refine' bg ?E
   case' E=>refine' aa ?F ?G
   case F=>exact(ax aC aD (dv 0) af)
   case' G=>refine' aa ?H ag
   case H=>exact(ax aC aD (dv 0) af)
  case B=>
  clear hr T;cases p <;> simp only [De.enc,Pp.enc] <;> walk_at "a" <;> exact q
theorem Ml{d:VI}{ps:List Pp}(h:d∈ps.map Pp.enc)(R:VI->Prop)(q:R (fI (jo d))):uw [d] R:=by
 obtain⟨p,hp,rfl⟩:=Ow.mp h;exact⟨.pap p,rfl,q⟩
theorem Mm{ps:List Pp}(nd:(ps.map (·.nm)).Nodup):(ps.map Pp.key).Nodup:=by
 rw [Si,Qf] at nd⊢;exact nd.imp λh e=>h (congrArg Prod.snd e)
def F_D:List VI->(VI->Prop)->Prop:=λds Q=>∃xs:List De,(ds=[.list (xs.map De.enc)]\/ds=[.tuple (xs.map De.enc)])/\cW xs/\Q (.list ((cF (ah xs)).map Pp.enc))
theorem Dp(T:Txt K mg t):aF P w K mg base aK 4 t.a_D t.d_D ["deeds"] (aQ K F_D):=by
 have G_C:=@Dm P w _ _ base _ T;refine T.F_D.F.okD Ly (λds Q h=>?_) (λ_ _ _ _ H O ds Q E hr h=>?_)
 ·obtain⟨ps,h | h,_⟩:=h <;> subst h <;> rfl
 ·obtain⟨xs,e,gd,q⟩:=h;refine'⟨_,?A,?B⟩
  case A=>
   refine' ai ?C
   case' C=>refine' ay ?D
   case D=>exact(fe (Kp jo rfl G_C (bp.in1 (bp.in1 (hr.mono VC))) T.F_C.b rfl T.F_C.m rfl T.n_sorted Rg (aO (fe (Kv rfl Dg (df (dv 0)) aV cI VC (λ_ _ _ _=>(aR (i:=0) Dg.nd rfl VG)) (λ_ _ _ _=>(fQ (aG (cq hr) cu (ax aC aD (dv 0) af) aJ (aB _)))) (λ_ _ _ _=>(dv 0)))) aN)))
  case B=>
  clear hr T G_C;have ln:=gd.ln;have pl:=gd.gp.ln;have step:∀x∈xs,∀(R:VI->Prop)(S:Prop),(if ig (λ_=>true) x=true then R x.enc else S)->(if (x.w==Oh "paper")=true then R x.enc else S):=λx hx R S h=>by
   cases x with
   | pap p=>exact h
   | oth w d nm r=>
    rw [show((De.oth w d nm r).w==Oh "paper")=false from dZ (gd.np w d nm r hx),VE O6];rw [VE (show ¬ig (λ_=>true) (.oth w d nm r)=true from O6)] at h;exact h
  have fin:∀ds':List VI,ds'.Perm ((ah xs).map Pp.enc)->ds'.Pairwise (λa b=>bz (jo a) (jo b)=true)->Q (.list ds'):=λds' h1 h2=>by
   rw [Mh gd.gp.nd h1 h2];exact q
  have tail:(∀d∈(ah xs).map Pp.enc,∀R:VI->Prop,R (fI (jo d))->uw [d] R)/\((ah xs).map Pp.enc).length < 64/\(((ah xs).map Pp.enc).map jo).Nodup:=by
   refine⟨λd hd R z=>Ml hd R z,by rw [Oi];omega,?_⟩;rw [Pl];exact Mm gd.gp.nd
  rcases e with e | e <;> subst e <;> walk_at "a"
  ·refine⟨by rw [Oi];omega,fK (ig λ_=>true) De.enc (λx hx R S h=>?_) ?_⟩
   ·have h:=step x hx R S h;cases x <;> simp only [De.enc,De.w,Pp.enc] at h⊢<;> walk_at "a" <;> exact h
   ·rw [mV,mU];exact⟨tail.1,tail.2.1,tail.2.2,fin⟩
  ·refine⟨by rw [Oi];omega,fK (ig λ_=>true) De.enc (λx hx R S h=>?_) ?_⟩
   ·have h:=step x hx R S h;cases x <;> simp only [De.enc,De.w,Pp.enc] at h⊢<;> walk_at "a" <;> exact h
   ·rw [mV,mU];exact⟨tail.1,tail.2.1,tail.2.2,fin⟩
def uz:List VI->(VI->Prop)->Prop:=λds Q=>∃(xs:List De)(c:Pp),ds=[.tuple (xs.map De.enc),.str c.nm]/\cW xs/\c∈ah xs/\Q c.enc
theorem lq(T:Txt K mg t):aF P w K mg base aK 1 t.a_E t.d_E ["deeds","paper"] (aQ K uz):=by
 refine T.F_E.F.okD pM (λds Q h=>?_) (λ_ _ _ _ H O ds Q E hr h=>?_)
 ·obtain⟨ps,c,rfl,_⟩:=h;rfl
 ·obtain⟨xs,c,rfl,gd,hc,q⟩:=h;refine'⟨_,?A,?B⟩
  case A=>
   refine' ao ?C ?D
   case C=>
    refine' fW Pg rfl (dv 0) ?E aV ?F
    case E=>exact(aR (i:=2) pM.nd rfl VG)
    case' F=>refine' ai ?G
    case' G=>refine' aM ?H ?I aL
    case H=>exact(PW.pt (cj (aG (cq hr) cu (ax aC aD (dv 2) af) aJ (aB _)) (cw (aG (bA hr.units) bB (ax aC aD (dv 2) af) (dv 1) (aB _)))))
    case' I=>refine' ai ?J
    case J=>exact(ay (dv 2))
   case D=>refine' ai iM
  case B=>
  clear hr T;walk_at "a";refine⟨λi δ=>(∀x∈ah (xs.take i),x.nm≠c.nm)/\∃o2,δ=[some (Sl.v (.tuple (xs.map De.enc))),some (Sl.v (.str c.nm)),o2],⟨by simp [ah],_,rfl⟩,?_,?_⟩
  ·rintro i z δ hz ⟨hn,o2,rfl⟩;rw [OD] at hz;cases hz':xs[i]? with
   | none=>rw [hz'] at hz;cases hz
   | some x=>
    rw [hz'] at hz;cases hz;have hx:=OH hz';cases x with
    | pap p=>
     simp only [De.enc,Pp.enc];walk_at "a";refine⟨cP.mpr (gd.nm _ hx),cP.mpr (gd.gp.nm c hc),?_⟩;split
     ·rename_i h;have e:=gS gd.gp.nd (mT.mpr hx) hc (eq_of_beq h);subst e;exact q
     ·rename_i h;refine⟨λy hy=>?_,_,rfl⟩;rw [Qa,hz'] at hy;unfold ah at hy;rw [TF] at hy;rcases OJ.mp hy with z | z
      ·exact hn y z
      ·have:y=p:=by simpa [De.pp] using z
       rw [this];exact λe=>h (by rw [e];exact beq_self_eq_true _)
    | oth w d nm r=>
     simp only [De.enc];walk_at "a";rw [dZ (gd.np w d nm r hx),VE O6];refine⟨λy hy=>?_,_,rfl⟩;rw [Qa,hz'] at hy;unfold ah at hy;rw [TF] at hy;rcases OJ.mp hy with z | z
     ·exact hn y z
     ·simp [De.pp] at z
  ·rintro δ ⟨hn,o2,rfl⟩;rw [Oi,Pd (Ot _)] at hn;exact absurd rfl (hn c hc)
def F_F:List VI->(VI->Prop)->Prop:=λds Q=>∃xs:List De,ds=[.tuple (xs.map De.enc)]/\cW xs/\Q (.tuple (((cF (ah xs)).map (·.nm)).map .str))
theorem lr(T:Txt K mg t):aF P w K mg base aK 5 t.a_F t.d_F ["deeds"] (aQ K F_F):=by
 have G_D:=@Dp P w _ _ base _ T;refine T.F_F.F.okD Lz (λds Q h=>?_) (λ_ _ _ _ H O ds Q E hr h=>?_)
 ·obtain⟨ps,rfl,_⟩:=h;rfl
 ·obtain⟨xs,rfl,gd,q⟩:=h;refine'⟨_,?A,?B⟩
  case A=>
   refine' ai ?C
   case' C=>refine' ay ?D
   case D=>exact(PE.imp (fP jC rfl T.n_tuple d7 (aO (fe (g9 rfl Dh (df (ar G_D hr T.F_D (aa (dv 0) ag))) aV cI VC (λ_ _ _ _=>(aR (i:=0) Dh.nd rfl VG)) (λ_ _ _ _=>fC) (λ_ _ _ _=>(ax aC aD (dv 0) af)))) aN)) (aT jL))
  case B=>
  clear hr T G_D;walk_at "a";refine⟨xs,.inr rfl,gd,_,rfl,by rw [Oi,ur];have:=gd.gp.ln;omega,fK (λ_=>true) (λp:Pp=>.str p.nm) (λx hx R S h=>?_) ?_⟩
  ·simp only [Pp.enc];walk_at "a";rw [VF rfl] at h;exact h
  ·rw [mU];rw [Pl] at q;exact q
def Mn:List VI->(VI->Prop)->Prop:=λds Q=>∃(xs:List De)(c:Pp),ds=[.tuple (xs.map De.enc),c.enc]/\cW xs/\c∈ah xs/\Q (.list ((bM (ah xs) c).map Pp.enc))
theorem uA(T:Txt K mg t):aF P w K mg base aK 5 t.a_G t.d_G ["deeds","coming"] (aQ K Mn):=by
 have G_D:=@Dp P w _ _ base _ T;have G_C:=@Dm P w _ _ base _ T;refine T.F_G.F.okD CK (λds Q h=>?_) (λ_ _ _ _ H O ds Q E hr h=>?_)
 ·obtain⟨ps,c,rfl,_⟩:=h;rfl
 ·obtain⟨xs,c,rfl,gd,hc,q⟩:=h;refine'⟨_,?A,?B⟩
  case A=>
   refine' ao ?C ?D
   case C=>exact(mi (i:=2) CK.nd rfl VG (Kd rfl Di (df (dv 0)) aV cI VC (λ_ _ _ _=>(aR (i:=0) Di.nd rfl VG)) (λ_ _ _ _=>(fQ (PW.pt (cj (aG (cq hr) cu (ax aC aD (dv 0) af) aJ (aB _)) (cw (aG (mj hr) fD (ax aC aD (dv 0) af) (ax aC aD (dv 1) af) rfl)))))) (λ_ _ _ _=>(dv 0))))
   case' D=>refine' ai ?E
   case' E=>refine' ay ?F
   case F=>exact(ar G_D hr T.F_D (aa (fe (g9 rfl Dj (df (dv 2)) aV cI VC (λ_ _ _ _=>(aR (i:=0) Dj.nd rfl VG)) (λ_ _ _ _=>(fQ (aG (Kr hr.units0) Ks (ar G_C hr T.F_C (aa (dv 0) ag)) (ar G_C hr T.F_C (aa (dv 1) ag)) (aB _)))) (λ_ _ _ _=>(dv 0)))) ag))
  case B=>
  clear hr T G_D G_C;have ln:=gd.ln;have pl:=gd.gp.ln;obtain⟨hm1,hm2⟩:=gd.gp.ms c hc;walk_at "a";refine⟨by rw [Oi];omega,fK (ig λp=>c.ms.contains p.nm) De.enc (λx hx R S h=>?_) ?_⟩
  ·cases x with
   | pap p=>
    simp only [De.enc,Pp.enc];walk_at "a";refine⟨cP.mpr (gd.nm _ hx),jZ hm1,?_⟩;rw [iR];exact h
   | oth w d nm r=>
    simp only [De.enc];walk_at "a";rw [dZ (gd.np w d nm r hx),VE O6];rw [VE (show ¬ig _ (.oth w d nm r)=true from O6)] at h;exact h
  ·rw [mV];have fl:=Qs (λp:Pp=>c.ms.contains p.nm) (ah xs);refine⟨by rw [Oi];omega,fK (λp=>bz p.key c.key) Pp.enc (λx hx R S h=>?_) ?_⟩
   ·walk_at "a";exact⟨.pap x,rfl,.pap c,rfl,x.key,rfl,c.key,rfl,h⟩
   ·rw [Mi];refine⟨_,.inl rfl,cW.of ((gd.gp.filter _).filter _),?_⟩;rw [Df,Dd (uu gd.gp.nd),Dd gd.gp.nd,List.filter_filter];have e:(cF (ah xs)).filter (λa=>bz a.key c.key && c.ms.contains a.nm)=bM (ah xs) c:=by
     unfold bM pX;congr 1;funext a;rw [Vc]
    rw [e];exact q
theorem uB{ps:List Pp}{c:Pp}(g:iQ ps):(bM ps c).length<=41:=by
 unfold bM;have h1:=Qs (pX c) (cF ps);have h2:=ur (ps:=ps);have h3:=g.ln;omega
def F_H:List VI->(VI->Prop)->Prop:=λds Q=>∃(xs:List De)(c:Pp),ds=[.tuple (xs.map De.enc),.str c.nm]/\cW xs/\c∈ah xs/\Q (.tuple (((bM (ah xs) c).map (·.nm)).map .str))
theorem pZ(T:Txt K mg t):aF P w K mg base aK 6 t.a_H t.d_H ["deeds","paper"] (aQ K F_H):=by
 have G_G:=@uA P w _ _ base _ T;have G_E:=@lq P w _ _ base _ T;refine T.F_H.F.okD LA (λds Q h=>?_) (λ_ _ _ _ H O ds Q E hr h=>?_)
 ·obtain⟨ps,c,rfl,_⟩:=h;rfl
 ·obtain⟨xs,c,rfl,gd,hc,q⟩:=h;refine'⟨_,?A,?B⟩
  case A=>
   refine' ai ?C
   case' C=>refine' ay ?D
   case D=>exact(PE.imp (fP jC rfl T.n_tuple d7 (aO (fe (g9 rfl Dk (df (ar G_G hr T.F_G (aa (dv 0) (aa (ar G_E hr T.F_E (aa (dv 0) (aa (dv 1) ag))) ag)))) aV cI VC (λ_ _ _ _=>(aR (i:=0) Dk.nd rfl VG)) (λ_ _ _ _=>fC) (λ_ _ _ _=>(ax aC aD (dv 0) af)))) aN)) (aT jL))
  case B=>
  clear hr T G_G G_E;walk_at "a";refine⟨xs,c,rfl,gd,hc,xs,c,rfl,gd,hc,⟨_,rfl,by rw [Oi];have:=uB (c:=c) gd.gp;omega,fK (λ_=>true) (λp:Pp=>.str p.nm) (λx hx R S h=>?_) ?_⟩⟩
  ·simp only [Pp.enc];walk_at "a";rw [VF rfl] at h;exact h
  ·rw [mU];rw [Pl] at q;exact q
end
theorem Dq:bt (aA pG) ["deeds","place"] ["other","deeds","place"] 1 [0,1] ⟨OE,[ (Oj ".0",Xy),(Oj "other",Xy),(Oj "quarrel",OT),(Oj "deeds",OM),(Oj "place",OM)],false,false,[]⟩:= .of
section
variable {P:VW} {w:VZ} {K:Og} {mg:Str->Option VJ} {base:VY} {t:cz}
def p5(d:VI):Prop:=∃(w:Str)(n:Int)(x:Str)(r:List VI),d= .tuple (.str w:: .int n:: .str x::r)/\bU d
def bC(w:Str)(a b:Str):Bool:=w==a || w==b
def dh(d e:VI):Bool:=match d,e with
 | .tuple (.str w:: .int n:: .str x::r),.tuple (.str w':: .int n':: .str x'::r')=>
  Om d e || (x==x' && ((w==("paper":Str) && w'==("paper":Str)) || (w==("leave":Str) && w'==("leave":Str)) || (n==n' && ((bC w "rule" "end" && bC w' "rule" "end") || (bC w "hold" "lift" && bC w' "hold" "lift")))))
 | _,_=>false
theorem Mo(A B C C' L L' R R' D D' N:Bool)(Q:Bool->Prop)(h:Q (A || (B && (C && C' || L && L' || N && (R && R' || D && D'))))):
 if A=true then Q true else if B=false then Q false else
  if C=true then if C'=true then Q true else
   if L=true then if L'=true then Q true else
    if R=true then if R'=true then Q N else if D=true then if D'=true then Q N else Q false else Q false
    else if D=true then if D'=true then Q N else Q false else Q false
   else if R=true then if R'=true then Q N else if D=true then if D'=true then Q N else Q false else Q false
    else if D=true then if D'=true then Q N else Q false else Q false
  else
   if L=true then if L'=true then Q true else
    if R=true then if R'=true then Q N else if D=true then if D'=true then Q N else Q false else Q false
    else if D=true then if D'=true then Q N else Q false else Q false
   else if R=true then if R'=true then Q N else if D=true then if D'=true then Q N else Q false else Q false
    else if D=true then if D'=true then Q N else Q false else Q false:=by
 cases A
 ·cases B
  ·simpa using h
  ·have tail:∀p:Bool,p=false->Q (false || (true && (p || N && (R && R' || D && D'))))->if R=true then if R'=true then Q N else if D=true then if D'=true then Q N else Q false else Q false else if D=true then if D'=true then Q N else Q false else Q false:=λp hp h=>by
    subst hp;cases R <;> cases R' <;> cases D <;> cases D' <;> simpa using h
   cases C <;> cases C' <;> cases L <;> cases L' <;> first | simpa using h | (simp only [QH,if_false,if_true,reduceCtorEq];exact tail _ (by rfl) h)
 ·simpa using h
def Mp:List VI->(VI->Prop)->Prop:=λds Q=>∃d e,ds=[d,e]/\p5 d/\p5 e/\Q (.bool (dh d e))
theorem Mq(T:Txt K mg t):aF P w K mg base aK 1 t.a_a t.d_a ["one","other"] (aQ K Mp):=by
 refine T.F_a.F.okD uh (λds Q h=>?_) (λ_ _ _ _ H O ds Q E hr h=>?_)
 ·obtain⟨d,e,rfl,_⟩:=h;rfl
 ·obtain⟨d,e,rfl,⟨w,n,x,r,rfl,sd⟩,⟨w',n',x',r',rfl,se⟩,q⟩:=h;refine⟨_,(ao (aM (aG (bA hr.units) bB (dv 0) (dv 1) (aB _)) (ai (ay bH)) aL)
   (ao (aM (aG (lZ hr.units) l3 (ax aC aD (dv 0) af) (ax aC aD (dv 1) af) (aB _)) (ai (ay bH)) aL)
   (ao (xo Pg rfl (bg (aa aJ (aa aJ ag))) (aR (i:=2) uh.nd rfl VG) aV (ai (aM (PW.pt (cj (aG (bA hr.units) bB (ax aC aD (dv 0) af) (dv 2) (aB _)) (cw (aG (bA hr.units) bB (ax aC aD (dv 1) af) (dv 2) (aB _))))) (ai (ay bH)) aL)))
   (ao (xo Pg rfl (bg (aa (bg (aa aJ (aa aJ ag))) (aa (bg (aa aJ (aa aJ ag))) ag))) (aR (i:=3) uh.nd rfl VG) aV (ai (aM (PW.pt (cj (aG (fY hr) fZ (ax aC aD (dv 0) af) (dv 3) rfl) (cw (aG (fY hr) fZ (ax aC aD (dv 1) af) (dv 3) rfl)))) (ai (ay (b7 (bA hr.units) bB (df (ax aC aD (dv 0) af)) (df (ax aC aD (dv 1) af)) (aB _)))) aL)))
   (ai (ay bH)))))),?_⟩
  have hw:bU (.str w):=hJ sd _ VH;have hw':bU (.str w'):=hJ se _ VH;have hx:bU (.str x):=hJ sd _ VH;have hx':bU (.str x'):=hJ se _ VH;walk_at "a";simp only [hw,hw',hx,hx',sd,se,true_and,lit0,lit1,lit2,lit3,lit4,lit5,lit6,lit7,lit8,lit9,lit10,lit11,lit12,lit13,lit14,lit15,lit16,lit17,lit18,lit19,lit20,lit21,lit22,lit23,lit24,lit25,lit26,lit27,lit28,lit29,lit30,lit31,lit32,lit33,lit34,lit35,lit36,lit37,lit38,lit39,lit40,lit41,lit42,lit43,lit44,lit45,lit46,lit47];have fin:∀{b:Bool},b=dh (.tuple (.str w:: .int n:: .str x::r)) (.tuple (.str w':: .int n':: .str x'::r'))->Q (.bool b):=λe=>by rw [e];exact q
  have qd:dh (.tuple (.str w:: .int n:: .str x::r)) (.tuple (.str w':: .int n':: .str x'::r'))=(Om (.tuple (.str w:: .int n:: .str x::r)) (.tuple (.str w':: .int n':: .str x'::r')) || (x==x' && ((w==("paper":Str) && w'==("paper":Str)) || (w==("leave":Str) && w'==("leave":Str)) || (n==n' && ((bC w "rule" "end" && bC w' "rule" "end") || (bC w "hold" "lift" && bC w' "hold" "lift")))))):=rfl;rw [qd] at fin;clear qd q;have cm:∀a b:Str,(a==b)=(b==a):=λa b=>So;simp only [bC,cm w,cm w'] at fin;generalize (Oz (Ol w::Ou n::Ol x::r)).eqv (Oz (Ol w'::Ou n'::Ol x'::r'))=A at*;simp only [cm w,cm w'];generalize (x==x')=B at*;generalize (("paper":Str)==w)=C at*;generalize (("paper":Str)==w')=C' at*;generalize (("leave":Str)==w)=L at*;generalize (("leave":Str)==w')=L' at*;generalize (("rule":Str)==w || ("end":Str)==w)=R at*;generalize (("rule":Str)==w' || ("end":Str)==w')=R' at*;generalize (("hold":Str)==w || ("lift":Str)==w)=D at*;generalize (("hold":Str)==w' || ("lift":Str)==w')=D' at*;generalize (n==n')=N at*;exact Mo A B C C' L L' R R' D D' N (λb=>Q (.bool b)) (fin rfl)
def NQ(a b:VI):Prop:=dh a b=false
instance (a b:VI):Decidable (NQ a b):=by unfold NQ;infer_instance
def Mr:List VI->(VI->Prop)->Prop:=λds Q=>∃xs,ds=[.tuple xs]/\(∀d∈xs,p5 d)/\xs.length<=1000/\Q (.bool (decide (xs.Pairwise NQ)))
theorem Ms(T:Txt K mg t):aF P w K mg base aK 2 t.a_b t.d_b ["deeds"] (aQ K Mr):=by
 have G_a:=@Mq P w _ _ base _ T;refine T.F_b.F.okD CM (λds Q h=>?_) (λ_ _ _ _ H O ds Q E hr h=>?_)
 ·obtain⟨d,rfl,_⟩:=h;rfl
 ·obtain⟨xs,rfl,hd,hl,q⟩:=h;refine⟨_,(ao (rQ Pg rfl rfl T.n_range (aa (PE.imp (aS bG rfl T.n_len OF (aO (dv 0) aN)) (aT bK)) ag) (aR (i:=1) CM.nd rfl VG) aV (ai (aM (bQ (PE.imp (aS (rJ rfl) rfl T.n_any rK (aO (fe (kH rfl Dq (df (kM (df (dv 0)) fB (dB (dv 1)))) aV cI VC (λ_ _ _ _=>(aR (i:=0) Dq.nd rfl VG)) (λ_ _ _ _=>fC) (λ_ _ _ _=>(ar G_a hr T.F_a (aa (dv 0) (aa (ax aC aD (dv 1) (dv 2)) ag)))))) aN)) (aT jM))) (ai (ay bH)) aL)))
   (ai (ay bH))),?_⟩
  walk_at "a";refine⟨VD,VD,λi δ=>(xs.take i).Pairwise NQ/\∃o,δ=[some (Sl.v (Oz xs)),o],⟨VH,_,rfl⟩,?_,?_⟩
  ·rintro i x δ hx ⟨hp,o,rfl⟩;obtain⟨hi,rfl⟩:=i9 hx;have hi':i < xs.length:=VD
   walk_at "a";simp only [Vl];have et:xs.take (i+1)=xs.take i++[xs[i]]:=by rw [Qa,OS hi'];rfl
   rw [jN VD VD,P5];refine⟨?_,λj acc=>acc=((xs.take i).take j).map (λd=>.bool (dh d xs[i])),VH,?_,?_⟩
   ·rw [Pn];omega
   ·rintro j x acc hx rfl;have hm:x∈xs:=PQ (OH hx);walk_at "a";refine⟨xs[i],dG (by simp [hi']),x,xs[i],rfl,hd _ hm,hd _ (PB hi'),?_⟩;rw [Qa,hx];simp
   ·rintro acc rfl;refine⟨(xs.take i).map (λd=>dh d xs[i]),?_,?_⟩
    ·rw [Pd (Ot _),Pl];rfl
    ·split
     ·rename_i h;rw [decide_eq_false (λz=>?_)] at q
      ·exact q
      ·have z2:=(Vu (Q6 (i+1) xs) z);rw [et,TU] at z2;rw [RL,PX] at h;obtain⟨d,hd1,hd2⟩:=h;have z3:=z2.2.2 d hd1 xs[i] VH;unfold NQ at z3;simp [z3] at hd2
     ·rename_i h;refine⟨?_,_,rfl⟩;rw [et,TU];refine⟨hp,VH,λd hd1 e he=>?_⟩;rw [ON] at he;subst he;rw [Te,RL,R0] at h;have:=h d hd1;unfold NQ;simpa using this
  ·rintro δ ⟨hp,o,rfl⟩;walk_at "a";rw [kJ,P5,Pd (Ot _)] at hp;rw [decide_eq_true hp] at q;exact q
local macro_rules | `(tactic| walk_at "c") =>rzT "qC qB qF qE qD kh iY dR tC jy qQ rI fO rU KW KY KZ K0 K1 nQ tB qu qv qw qx qy qz qA lM qU qT lO qV qW nG nF nE qH qJ vW vX vY vZ v3 v5 v7 v9 lK nN ki L2.start Ov PV OG Qx OQ Rz QN Po SK SM Ur Us Ut RU QR Sz SA RZ exists_eq_left' exists_eq_left exists_and_left exists_and_right V.int.injEq V.bl.injEq V.str.injEq V.ref.injEq PH and_true true_and Uu exists_const decide_eq_true_eq Uv Uw T3 T4 Qw decide_eq_false_iff_not and_assoc bW Tb SR Tc L2.cxK L2.cmK or_true true_or"
theorem Dr{H H1:Hp}{p:VM}(hp:H p=some (gJ p))(h:∀b o,b≠p->H b=some o->H1 b=some o):au H (av H1 p (gJ p)):=λb o e=>by
 by_cases hb:b=p
 ·subst hb;rw [bb,<-hp,e]
 ·rw [aE hb];exact h b o hb e
theorem lu(T:Txt K mg t):aF P w K mg base aK 1 t.a_l t.d_l ["_law_purse_here","_law_many"] (aQ K rS):=by
 refine T.F_l.F.ok uj (λvs H Q E h=>?_) (λcdv A outer s H vs Q E hr h=>?_)
 ·obtain⟨O,ds,Qd,_,r,⟨z,rfl,_⟩,_⟩:=h;exact r.length
 ·obtain⟨O,ds,Qd,tr,r,⟨z,rfl,z0,z1,qq⟩,k⟩:=h;cases r with
  | cons r1 r2=>
   cases r2 with
   | cons r2 r3=>
    cases r3;cases r2;cases r1 with
    | @purse p hp hn=>
     refine⟨_,bD.purse (gF (nH (eY cA (jB bT (pv 0) cL (λ_ _=>rfl)) cL) (qI (pv 0) cL rg))
   (gF (iZ (i:=2) uj.nd rfl VG (jB bT (pv 0) cL (λ_ _=>rfl)))
   (gF (nH (eY gH (eY cA (eY g6 (pv 2) (eY cA (eY gH (pv 2) cL) cL)) (eY g6 cL (jB bT (pv 0) cL (λ_ _=>rfl)))) cL) (qI (pv 0) cL rg))
   (gF (nA (nR qS (jB bT (pv 0) cL (λ_ _=>rfl)) cL (aB _)) (gF (nH (aS FA rfl T.n_divmod Gx (bS (jB bT (pv 0) cL (λ_ _=>rfl)) (bS (pv 1) dF))) (jx (n:=2) rfl (di (qI (pv 0) cL rg) (di (aR (i:=3) uj.nd rfl VG) jw))))
   (iX (jv (pv 3)))) nz)
   (iX (jv (eY gH (eY nO (jB bT (pv 0) cL (λ_ _=>rfl)) cL) (pv 1)))))))),p,hp,λa b c=>?_⟩
     walk_at "c";refine kr (bf.of bb) rfl ⟨c,rfl,p,[.int a,.int b,.int c],2,2,rfl,rfl,bb,rfl,?_⟩;refine kr (bf.of bb) rfl ⟨a,rfl,a,rfl,.inr ⟨VD,VD⟩,?_⟩;refine kr (bf.of bb) rfl ⟨c+1,rfl,p,[.int a,.int b,.int (c+1)],0,0,rfl,rfl,bb,rfl,?_⟩;generalize (a*(a % 44497+21701)+86243*(c+1))% 2147483579=a';refine kr (bf.of bb) rfl ⟨b,rfl,?_⟩;split
     ·refine kr (bf.of bb) rfl ⟨b,rfl,z0,VD,λq hq=>?_⟩;have hpq:p≠q:=cR bb hq;refine⟨_,br.of bb,rfl,_,_,rfl,p,[.int a',.int b,.int (c+1)],1,1,rfl,rfl,by rw [aE hpq,bb];rfl,rfl,?_⟩;refine⟨_,_,rfl,rfl,⟨_,_,_,bb⟩,k _ _ _ (qq (b % z) (To _ VD) (SD _ z0)) (Dr hp λx o hx e=>?_) (.int _)⟩;have hxq:x≠q:=λy=>by
       subst y;rw [aE hx,aE hx,aE hx] at hq;rw [hq] at e;cases e
      rw [aE hx,aE hxq,aE hx,aE hx,aE hx];exact e
     ·refine kr (bf.of bb) rfl ⟨a',rfl,z0,⟨_,_,_,bb⟩,k _ _ _ (qq (a' / 16 % z) (To _ VD) (SD _ z0)) (Dr hp λx o hx e=>?_) (.int _)⟩;rw [aE hx,aE hx,aE hx];exact e
def Mt:List VI->(VI->Prop)->Prop:=λds Q=>∃c:Int,ds=[.int c]/\Q fS
theorem Ds(T:Txt K mg t):aF P w K mg base aK 1 t.a_k t.d_k ["_law_cell_here"] (aQ K Mt):=by
 refine T.F_k.F.ok ui (λvs H Q E h=>?_) (λcdv A outer s H vs Q E hr h=>?_)
 ·obtain⟨O,ds,Qd,_,r,⟨z,rfl,_⟩,_⟩:=h;exact r.length
 ·obtain⟨O,ds,Qd,tr,r,⟨c,rfl,qq⟩,k⟩:=h;cases r with
  | cons r1 r2=>
   cases r2;cases r1;refine⟨_,bD.newPurse (gF (iZ (i:=1) ui.nd rfl VG cL)
   (gF (nA (PW.pt (u5 (nR iz (pv 0) cL (aB _)) (uZ (nR vm (pv 0) (eY vi cL cL) (aB _))))) (iX (iZ (i:=1) ui.nd rfl VG (aS Fz rfl T.n_abs PyProof.Rows.boot_abs (bS (pv 0) dF)))) nz)
   (iX (jv (vz (bS (eY gH (pv 0) cL) (bS (pv 1) (bS cL dF)))))))),?_⟩
   walk_at "c";have fin:∀(x y z:Int)(p:VM),H p=none->(∃u v w,av H p (HO.lst [V.int x,V.int y,V.int z]) p=some (HO.lst [V.int u,V.int v,V.int w]))/\Q (V.ref p) (av (av H p (HO.lst [V.int x,V.int y,V.int z])) p (gJ p)):=λx y z p hp=>
    ⟨⟨_,_,_,bb⟩,k _ _ _ qq (λb o e=>by rw [aE (cR e hp),aE (cR e hp)];exact e) (.purse bb λh=>tr p h hp)⟩
   have sl:3<=VT:=VC
   split
   ·rw [VF trivial];exact⟨sl,fin _ _ _⟩
   ·refine⟨VC,?_⟩;split
    ·exact⟨sl,fin _ _ _⟩
    ·exact⟨sl,fin _ _ _⟩
end
open Day
theorem Du:bt (aA mP) ["_law_purse_here","_law_many","_law_letters","_law_stem","_law_at","_law_first","_law_step"] ["_law_k","_law_letters","_law_purse_here"] 1 [2,0] ⟨OE,[ (Oj ".0",Xy),(Oj "_law_k",Xy),(Oj "_law_take",OT),(Oj "_law_letters",OM),(Oj "_law_purse_here",OM)],false,false,[]⟩:= .of
theorem Dv:bt (aA mP) ["_law_purse_here","_law_many","_law_letters","_law_stem","_law_at","_law_first","_law_step"] ["_law_k","_law_stem","_law_letters","_law_at","_law_first","_law_step"] 1 [3,2,4,5,6] ⟨OE,[ (Oj ".0",Xy),(Oj "_law_k",Xy),(Oj "_law_at",OM),(Oj "_law_first",OM),(Oj "_law_letters",OM),(Oj "_law_stem",OM),(Oj "_law_step",OM)],false,false,[]⟩:= .of
theorem Dw:bt (aA pI) ["_law_year_here","_law_month_here","_law_number"] ["_law_k","_law_year_here"] 1 [0] ⟨OE,[ (Oj ".0",Xy),(Oj "_law_k",Xy),(Oj "_law_month",OT),(Oj "_law_year_here",OM)],false,false,[]⟩:= .of
section
variable {P:VW} {w:VZ} {K:Og} {mg:Str->Option VJ} {base:VY} {t:cz}
def Mu:List VI->(VI->Prop)->Prop:=λds Q=>∃(ns:List Int)(k:Int),ds=[fy (ns.map .int),.int k]/\0<=k/\k<=1000/\∀c:Int,Q (.int c)
theorem Dx(T:Txt K mg t):aF P w K mg base aK 1 t.a_j t.d_j ["_law_script","_law_k"] (aQ K Mu):=by
 refine T.F_j.F.okD pP (λds Q h=>?_) (λ_ _ _ _ H O ds Q E hr h=>?_)
 ·obtain⟨ns,k,rfl,_⟩:=h;rfl
 ·obtain⟨ns,k,rfl,k0,k1,q⟩:=h;refine'⟨_,?A,?B⟩
  case A=>
   refine' ao ?C ?D
   case C=>
    refine' aM ?E ?F aL
    case E=>exact(aG iz dJ (dv 1) (PE.imp (aS bG rfl T.n_len OF (aO (dv 0) aN)) (aT Hb)) (aB _))
    case' F=>refine' ai ?G
    case G=>exact(ay (ax bT JE (dv 0) (dv 1)))
   case' D=>refine' ao ?H ?I
   case H=>
    refine' bj (i:=2) pP.nd rfl VG ?J (hs:=my)
    case J=>exact(aZ gH dA (aZ g6 dA af (aZ cA bX (aZ cA bX (aZ g6 dA (dv 1) (dv 1)) (aZ g6 dA af (dv 1))) af)) af)
   case' I=>refine' ao ?K ?L
   case K=>
    refine' ot Pg rfl (fe (JF (df (dv 0)) fB (dB af))) ?M aV ?N
    case M=>exact(aR (i:=3) pP.nd rfl VG)
    case' N=>refine' ai ?O
    case' O=>refine' bj (i:=2) pP.nd rfl VG ?P (hs:=my)
    case P=>exact(aZ gH dA (aZ cA bX (aZ g6 dA (dv 2) af) (dv 3)) af)
   case' L=>refine' ai ?Q
   case Q=>exact(ay (dv 2))
  case B=>
  clear hr T;walk_at "a";refine⟨_,rfl,?_⟩;rw [Oi];split
  ·rename_i hlt;obtain⟨j,rfl⟩:=P8 k0;have hj:j < ns.length:=VD
   exact⟨_,rfl,.int ns[j],dG (by simp [hj]),q _⟩
  ·refine⟨.inl ⟨VD,VD⟩,_,rfl,λi δ=>∃(st:Int)(o:Option Sl),δ=[some (Sl.v (fy (ns.map .int))),some (Sl.v (.int k)),some (Sl.v (.int st)),o],⟨_,_,rfl⟩,?_,?_⟩
   ·rintro i x δ hx ⟨st,o,rfl⟩;have hm:=OH hx;unfold bY at hm;have hm2:=RB (PQ hm);obtain⟨c,_,rfl⟩:=Ow.mp hm2;walk_at "a"
    first | exact⟨_,_,rfl,rfl⟩ | exact⟨_,_,rfl⟩ | exact⟨_,rfl,_,rfl⟩ | exact⟨_,rfl⟩ | exact⟨_,_,trivial⟩ | exact⟨⟨_,rfl⟩,⟨_,rfl⟩⟩
   ·rintro δ ⟨st,o,rfl⟩;walk_at "a";exact q _
def Mv:List VI->(VI->Prop)->Prop:=λds Q=>∃y m:Int,ds=[.int y,.int m]/\1<=m/\m<=12/\Q (.int (bF y m))
theorem Dy(T:Txt K mg t):aF P w K mg base aK 1 t.a_n t.d_n ["_law_year_here","_law_month_here"] (aQ K Mv):=by
 refine T.F_n.F.okD CO (λds Q h=>?_) (λ_ _ _ _ H O ds Q E hr h=>?_)
 ·obtain⟨y,m,rfl,_⟩:=h;rfl
 ·obtain⟨y,m,rfl,m1,m2,q⟩:=h;refine'⟨_,?A,?B⟩
  case A=>
   refine' ao ?C ?D
   case C=>
    generalize hG2:Uy _ _ _ _=eg2;refine' bj (i:=2) CO.nd rfl VG ?E (hs:=by subst hG2;exact jT)
    case' E=>subst hG2
    exact(PE.imp (fP vv rfl T.n_int rF (aO (G4 (b7 (bA hr.units) bB (df (aZ gH dA (dv 0) af)) (df af) (aB _)) (cU (cx (b7 (bA hr.units) bB (df (aZ gH dA (dv 0) af)) (df af) (aB _)) (cU (b7 (lZ hr.units) l3 (df (aZ gH dA (dv 0) af)) (df af) (aB _)))))) aN)) (aT z9))
   case' D=>refine' ai ?F
   case' F=>generalize hG5:U4 _ _ _=eg5
   refine' ay ?G
   case' G=>subst hG5
   refine' d9 bT ck (df ?H) ?I
   case H=>
    refine' fe ?J
    case' J=>refine' cZ ?K
    case' K=>refine' aa ?L ?M
    case L=>exact((af))
    case' M=>refine' aa ?N ?O
    case N=>exact(((aZ cA bX af (dv 2))))
    case O=>refine' jP (ds:=[.int 31,.int 30,.int 31,.int 30,.int 31,.int 31,.int 30,.int 31,.int 30,.int 31]) (by rfl)
   case I=>exact(df (aZ g5 bX (dv 1) af))
  case B=>
  clear hr T;walk_at "a";have ma:=tj y;have key:∀l2:Int,l2=bF y 2->∃d,atI [Ou 31,Ou l2,Ou 31,Ou 30,Ou 31,Ou 30,Ou 31,Ou 31,Ou 30,Ou 31,Ou 30,Ou 31] (m - 1)=some d/\Q d:=λl2 e=>by
   obtain⟨a1,a3,a4,a5,a6,a7,a8,a9,a10,a11,a12⟩:=ma;rcases tm m1 m2 with z | z | z | z | z | z | z | z | z | z | z | z <;> subst z
   ·rw [a1] at q;exact⟨_,rfl,q⟩
   ·rw [<-e] at q;exact⟨_,rfl,q⟩
   ·rw [a3] at q;exact⟨_,rfl,q⟩
   ·rw [a4] at q;exact⟨_,rfl,q⟩
   ·rw [a5] at q;exact⟨_,rfl,q⟩
   ·rw [a6] at q;exact⟨_,rfl,q⟩
   ·rw [a7] at q;exact⟨_,rfl,q⟩
   ·rw [a8] at q;exact⟨_,rfl,q⟩
   ·rw [a9] at q;exact⟨_,rfl,q⟩
   ·rw [a10] at q;exact⟨_,rfl,q⟩
   ·rw [a11] at q;exact⟨_,rfl,q⟩
   ·rw [a12] at q;exact⟨_,rfl,q⟩
  have e2:=pe y;unfold ld at e2;have li:=sZ y;split
  ·rename_i h;have h:=eq_of_beq h;exact key _ (by rw [e2,VF (li.mpr (.inl h))])
  ·rename_i h;have h:¬y % 400=0:=λe=>h (by rw [e];rfl);split
   ·rename_i h4;have h4:=eq_of_beq h4;by_cases h100:y % 100=0
    ·have nl:¬jl y=true:=λz=>by rcases li.mp z with z | z;exact h z;exact z.2 h100
     have nb:¬(y % 100==0)=false:=by rw [h100];decide
     exact key _ (by rw [e2,VE nl,VE nb])
    ·exact key _ (by rw [e2,VF (show jl y=true from li.mpr (.inr ⟨h4,h100⟩)),VF (show(y % 100==0)=false by simpa using h100)])
   ·rename_i h4;have h4:¬y % 4=0:=λe=>h4 (by rw [e];rfl);exact key _ (by rw [e2,VE (λz=>by rcases li.mp z with z | z;exact h z;exact h4 z.1)])
def Mw:List VI->(VI->Prop)->Prop:=λds Q=>∃y:Int,ds=[.int y]/\Q (.int (jW y))
theorem Mx(T:Txt K mg t):aF P w K mg base aK 1 t.a_o t.d_o ["_law_year_here"] (aQ K Mw):=by
 refine T.F_o.F.okD CP (λds Q h=>?_) (λ_ _ _ _ H O ds Q E hr h=>?_)
 ·obtain⟨y,rfl,_⟩:=h;rfl
 ·obtain⟨y,rfl,q⟩:=h;refine'⟨_,?A,?B⟩
  case A=>
   refine' ao ?C ?D
   case C=>exact(bj (i:=0) CP.nd rfl VG (aZ g5 bX (dv 0) af))
   case' D=>refine' ai ?E
   case' E=>generalize hG4:Vx _ _ _ _=eg4
   refine' ay ?F
   case' F=>subst hG4
   exact(aZ g5 bX (aZ cA bX (aZ g5 bX (aZ cA bX (aZ g6 dA af (aZ g5 bX (dv 0) af)) (aZ nO dA (dv 0) af)) (aZ nO dA (dv 0) af)) (aZ nO dA (dv 0) af)) af)
  case B=>
  clear hr T;walk_at "a";have e:365*(y - 1 - 1999)+(y - 1)/ 4 - (y - 1)/ 100+(y - 1)/ 400 - 484=jW y:=by
   unfold jW lb;omega
  rw [e];exact q
def Dz:List VI->(VI->Prop)->Prop:=λds Q=>∃y m n:Int,ds=[.int y,.int m,.int n]/\1<=m/\m<=12/\Q (.int (mH y m n))
theorem My(T:Txt K mg t):aF P w K mg base aK 2 t.a_p t.d_p ["_law_year_here","_law_month_here","_law_number"] (aQ K Dz):=by
 have G_o:=@Mx P w _ _ base _ T;have G_n:=@Dy P w _ _ base _ T;refine T.F_p.F.okD LV (λds Q h=>?_) (λ_ _ _ _ H O ds Q E hr h=>?_)
 ·obtain⟨y,m,n,rfl,_⟩:=h;rfl
 ·obtain⟨y,m,n,rfl,m1,m2,q⟩:=h;refine'⟨_,?A,?B⟩
  case A=>
   refine' ai ?C
   case' C=>refine' ay ?D
   case D=>exact(aZ g5 bX (aZ cA bX (aZ cA bX (ar G_o hr T.F_o (aa (dv 0) ag)) (PE.imp (aS (Gu rfl) rfl T.n_sum Vv (aO (fe (Ax rfl Dw rfl T.n_range (aO af (aO (dv 1) aN)) aV cI VC (λ_ _ _ _=>(aR (i:=0) Dw.nd rfl VG)) (λ_ _ _ _=>fC) (λ_ _ _ _=>(ar G_n hr T.F_n (aa (dv 1) (aa (dv 0) ag)))))) aN)) (aT Kw))) (dv 2)) af)
  case B=>
  clear hr T G_o G_n;walk_at "a";refine⟨y,rfl,by have:((16777216:Nat):Int)=16777216:=rfl;omega,VD,VD,?_⟩;refine sC (λx=>match x with | .int i=>.int (bF y i) | _=>.none) (λx hx R hR=>?_) ?_
  ·obtain⟨i,hi⟩:=QP hx;obtain⟨hlt,rfl⟩:=i9 hi;walk_at "a";exact⟨y,1+(i:Int),rfl,VD,VD,hR⟩
  ·refine⟨(Py (m - 1).toNat).map λ(i:Nat)=>bF y (1+(i:Int)),by unfold eZ;rw [Pl,Pl];rfl,_,rfl,?_⟩;exact q
def p7(ss:List Str):Prop:=∀s∈ss,Nm s
def uC:List Str:=["paper","rule","keep","gone","deep","first","kind","leave"]
theorem Mz:∀z∈uC,Nm z:=by
 intro z hz;have a:uC.all (λz=>cE (.str z))=true:=Ce
 obtain⟨y,e,h⟩:=jg (Qe.mp a z hz);cases e;exact h
def d3(x:Str):Prop:=∀c∈x.cps.toList,c∈dD.cps.toList
theorem d3.append{x y:Str}(h:d3 x)(h':d3 y):d3 (x++y):=λc hc=>by
 rw [mf,QA] at hc;rcases OJ.mp hc with z | z
 ·exact h c z
 ·exact h' c z
theorem d3.chr{c:Nat}(h:c∈dD.cps.toList):d3 ⟨#[c]⟩:=λd hd=>by
 have:d=c:=by simpa using hd
 rw [this];exact h
theorem d3.join{ys:List Str}(h:∀y∈ys,d3 y):d3 (Txt.join "" ys):=by
 have key:∀ys:List Str,(∀y∈ys,d3 y)->d3 (UO "" ys):=by
  intro ys;have e:d3 ("":Str):=λc hc=>by
   have:("":Str).cps.toList=[]:=Ce
   rw [this] at hc;cases hc
  induction ys with
  | nil=>intro _;exact e
  | cons y r ih=>
   intro h;cases r with
   | nil=>exact h y VH
   | cons z r=>exact((h y VH).append e).append (ih λw hw=>h w (by simp [hw]))
 rw [show Txt.join "" ys=UO "" ys from Tw "" ys];exact key ys h
theorem MA{j:Int}(h0:0<=j)(h1:j < 26):c7 j∈dD.cps.toList:=by
 obtain⟨c,_,e2,_⟩:=mh h0 h1;have:c7 j=c:=by unfold c7;rw [e2];rfl
 rw [this];exact OH e2
def j2(st:Str)(at0 fs sp:Int)(k:Nat):Str:=Txt.slice st none (some at0)++⟨#[c7 ((fs+sp*(0+(k:Int)))% 26)]⟩++Txt.slice st (some at0) none
theorem MB{st:Str}{at0 fs sp:Int}{a b:Nat}(h:j2 st at0 fs sp a=j2 st at0 fs sp b):c7 ((fs+sp*(0+(a:Int)))% 26)=c7 ((fs+sp*(0+(b:Int)))% 26):=by
 have z:=congrArg (λs:Str=>s.cps.toList) h;unfold j2 at z;simp only [mf,QA] at z;have z:=List.append_cancel_left (List.append_cancel_right z);exact(List.cons.inj z).1
theorem MC{st:Str}{at0 fs sp:Int}{k:Nat}(h:d3 st)(l7:st.length<=7)(a0:0<=at0)(a1:at0<=st.length):Nm (j2 st at0 fs sp k):=by
 rw [sG] at l7 a1;have e:(j2 st at0 fs sp k).cps.toList=st.cps.toList.take at0.toNat++[c7 ((fs+sp*(0+(k:Int)))% 26)]++st.cps.toList.drop at0.toNat:=by
  unfold j2;rw [mf,mf,QA,QA,AW,AW,Iy a0 a1,Iz a0 a1]
 refine Nm.of e ?_ ?_ λc hc=>?_
 ·simp only [O4,OG,Qx];omega
 ·simp only [O4,OG,Qx,Pn,QT];omega
 ·rcases OJ.mp hc with z | z
  ·rcases OJ.mp z with z | z
   ·exact h c (PQ z)
   ·rw [ON.mp z];exact MA (To _ VC) (SD _ VC)
  ·exact h c (RB z)
def MD:List VI->(VI->Prop)->Prop:=λds Q=>ds=[fS,.int 8]/\∀ss:List Str,ss.length=8->p7 ss->ss.Nodup->Q (.list (ss.map .str))
theorem ME(T:Txt K mg t):aF P w K mg base aK 2 t.a_m t.d_m ["_law_purse_here","_law_many"] (aQ K MD):=by
 have G_l:=@lu P w _ _ base _ T;refine T.F_m.F.okD k8 (λds Q h=>?_) (λ_ _ _ _ H O ds Q E hr h=>?_)
 ·obtain⟨rfl,_⟩:=h;rfl
 ·obtain⟨rfl,q⟩:=h;refine'⟨_,?A,?B⟩
  case A=>
   refine' ao ?C ?D
   case C=>exact(bj (i:=2) k8.nd rfl VG aJ)
   case' D=>refine' ao ?E ?F
   case E=>
    refine' bj (i:=3) k8.nd rfl VG ?G (hs:=jT)
    case G=>exact(Hj aJ (df (fe (xy rfl Du rfl T.n_range (aO (ar G_l hr T.F_l (aa (dv 0) (aa af ag))) aN) aV cI VC (λ_ _ _ _=>(aR (i:=0) Du.nd rfl VG)) (λ_ _ _ _=>fC) (λ_ _ _ _=>(ax vM xW (dv 1) (ar G_l hr T.F_l (aa (dv 2) (aa af ag)))))))))
   case' F=>refine' ao ?H ?I
   case H=>
    refine' bj (i:=4) k8.nd rfl VG ?J (hs:=jT)
    case J=>exact(ar G_l hr T.F_l (aa (dv 0) (aa (aZ cA bX (PE.imp (aS vO rfl T.n_len OF (aO (dv 3) aN)) (aT AA)) af) ag)))
   case' I=>refine' ao ?K ?L
   case K=>
    generalize hE10_0:U6 _ _=ee10_0;exact(xi (bg (aa (ar G_l hr T.F_l (aa (dv 0) (aa af ag))) (aa (ax bT ck (fe (sa (ds:=[.int 1,.int 3,.int 5,.int 7,.int 9,.int 11]) (by first | (subst hE10_0;rfl)))) (ar G_l hr T.F_l (aa (dv 0) (aa af ag)))) ag))) (jx (n:=2) rfl (di (aR (i:=5) k8.nd rfl VG) (di (aR (i:=6) k8.nd rfl VG) jw))) (kG (dW aV (dW aV kF))))
   case' L=>refine' ao ?M ?N
   case M=>
    refine' aM ?O ?P aL
    case O=>exact(aG (bA hr.units) bB (ar G_l hr T.F_l (aa (dv 0) (aa af ag))) af (aB _))
    case' P=>refine' ai ?Q
    case' Q=>generalize hE14_0:U6 _ _=ee14_0
    exact(ay (fe (jK (df (fe (sa (ds:=[.str "paper",.str "rule",.str "keep",.str "gone",.str "deep",.str "first",.str "kind",.str "leave"]) (by first | (subst hE14_0;rfl))))) fB (dB (dv 1)))))
   case' N=>refine' ai ?R
   case' R=>refine' ay ?S
   case' S=>refine' fe ?T
   case T=>exact(xy rfl Dv rfl T.n_range (aO (dv 1) aN) aV cI VC (λ_ _ _ _=>(aR (i:=0) Dv.nd rfl VG)) (λ_ _ _ _=>fC) (λ_ _ _ _=>(aZ vq xU (aZ vq xU (xY (df (dv 1)) fB (dB (dv 3))) (ax vM xW (dv 2) (aZ gH dA (aZ cA bX (dv 4) (aZ g6 dA (dv 5) (dv 0))) af))) (xY (df (dv 1)) (dB (dv 3)) fB))))
  case B=>
  clear hr T G_l;walk_at "a";refine⟨8,rfl,VC,VC,λj j0 j8=>⟨j,rfl,VD,by have:((16777216:Nat):Int)=16777216:=rfl;omega,?_⟩⟩;refine⟨λi acc=>∃ys:List Str,acc=ys.map .str/\ys.length=i/\∀y∈ys,cQ 1 y/\d3 y,⟨[],rfl,rfl,VH⟩,?_,?_⟩
  ·rintro i z acc hz ⟨ys,rfl,hl,hg⟩;obtain⟨hi,rfl⟩:=i9 hz;walk_at "a";refine⟨26,rfl,VC,VC,λa a0 a1=>?_⟩;obtain⟨x,e1,x2,x1⟩:=mh a0 a1;refine⟨_,rfl,Ce,x,e1,ys++[⟨#[x]⟩],by rw [O9];rfl,by simp [hl],λz hz=>?_⟩;rcases OJ.mp hz with h | h
   ·exact hg z h
   ·rw [ON] at h;rw [h];exact⟨cQ.chr x1,d3.chr (OH x2)⟩
  ·rintro acc ⟨ys,rfl,hl,hg⟩;rw [kJ] at hl;have gj:=cQ.join λy hy=>(hg y hy).1;have aj:=d3.join λy hy=>(hg y hy).2;have sl:(ys.map λx=>x.length).sum<=ys.length:=by
    clear hl gj aj
    induction ys with
    | nil=>simp
    | cons y ys ih=>
     rw [Ov,Va,OG];have:=(hg y VH).1.le;have:=ih λz hz=>hg z (by simp [hz]);omega
   have l7:ys.length<=7:=VD
   refine⟨ys,rfl,?_⟩;generalize hst:Txt.join (Oh "") ys=st;have gs:cQ 7 st:=by rw [<-hst];exact gj.mono l7
   have ab:d3 st:=by rw [<-hst];exact aj
   have e0:(Oh "").length=0:=Ce
   have gl:=gs.le;refine⟨by rw [e0];omega,VD,_,rfl,VD,VD,λat0 a0 a1=>⟨26,rfl,VC,VC,λfs f0 f1=>⟨6,rfl,VC,VC,λsx s0 s1=>⟨_,rfl,?_⟩⟩⟩⟩;have six:∃sp:Int,atI [Ou 1,Ou 3,Ou 5,Ou 7,Ou 9,Ou 11] sx=some (.int sp)/\(0<=sp/\sp<=11)/\(sp=1\/sp=3\/sp=5\/sp=7\/sp=9\/sp=11):=by
    have:sx=0\/sx=1\/sx=2\/sx=3\/sx=4\/sx=5:=VD
    rcases this with h | h | h | h | h | h <;> subst h
    ·exact⟨1,rfl,VC,VC⟩
    ·exact⟨3,rfl,VC,VC⟩
    ·exact⟨5,rfl,VC,VC⟩
    ·exact⟨7,rfl,VC,VC⟩
    ·exact⟨9,rfl,VC,VC⟩
    ·exact⟨11,rfl,VC,VC⟩
   obtain⟨sp,hsp,⟨p0,p1⟩,p6⟩:=six;refine⟨_,hsp,8,rfl,VC,VC,λv v0 v1=>⟨iG,?_⟩⟩;rw [oF];split
   ·exact q uC rfl Mz Ce
   ·have g1:=gs.slice none (some at0);have g2:=gs.slice (some at0) none;have abr:∀i:Nat,c7 ((fs+sp*(0+(i:Int)))% 26) < 0x110000/\atI dD.cps.toList ((fs+sp*(0+(i:Int)))% 26)=some (c7 ((fs+sp*(0+(i:Int)))% 26)):=λi=>(HK VD VD).symm;refine⟨VC,λi acc=>acc=((Py i).map λ(k:Nat)=>j2 st at0 fs sp k).map .str,rfl,?_,?_⟩
    ·rintro i z acc hz rfl;obtain⟨hi,rfl⟩:=i9 hz;walk_at "a";obtain⟨x1,e1⟩:=abr i;have lx:(⟨#[c7 ((fs+sp*(0+(i:Int)))% 26)]⟩:Str).length=1:=rfl;have l1:=g1.le;have l2:=g2.le;have ga:=(g1.append (cQ.chr x1)).append g2;have gal:=ga.le;refine⟨VD,.inl ⟨VD,VD⟩,Ce,_,e1,by rw [lx];omega,VD,by rw [Ao,lx];omega,?_⟩;rw [Rm,O9,O9];rfl
    ·rintro acc rfl;rw [kJ];refine q _ VH (λz hz=>?_) ?_
     ·obtain⟨k,_,rfl⟩:=Ow.mp hz;exact MC ab gl a0 VD
     ·rw [Si,Qf];refine S0.mpr λa b ha hb lt e=>?_;rw [Uz,Uz] at e;have hb:b < 8:=by simpa using hb
      have e2:=MB e;have e3:=HL VD VD VD VD e2;rcases p6 with h | h | h | h | h | h <;> subst h <;> omega
def MF:List VI->(VI->Prop)->Prop:=λds Q=>∃far:Int,ds=[fS,.int far]/\∀d:Int,0<=d->d < 100000->Q (.int d)
theorem ly{a b:VI}{i:Int}(h0:0<=i)(h1:i < 2):∃d,atI [a,b] i=some d/\(d=a\/d=b):=by
 have:i=0\/i=1:=VD
 rcases this with e | e <;> subst e
 ·exact⟨_,dM,.inl rfl⟩
 ·exact⟨_,eN,.inr rfl⟩
theorem MG{y m n:Int}(y0:2000<=y)(y1:y<=2269)(m1:1<=m)(m2:m<=12)(n1:1<=n)(n2:n<=bF y m):0<=mH y m n/\mH y m n < 100000:=by
 have ba:=Kz (y:=y) m1 m2;have ld:=B5 y;have ys:0<=jW y/\jW y<=98300:=by unfold jW lb;omega
 unfold mH;omega
theorem MH(T:Txt K mg t):aF P w K mg base aK 3 t.a_q t.d_q ["_law_purse_here","_law_far"] (aQ K MF):=by
 have G_l:=@lu P w _ _ base _ T;have G_n:=@Dy P w _ _ base _ T;have G_p:=@My P w _ _ base _ T;refine T.F_q.F.okD CQ (λds Q h=>?_) (λ_ _ _ _ H O ds Q E hr h=>?_)
 ·obtain⟨far,rfl,_⟩:=h;rfl
 ·obtain⟨far,rfl,q⟩:=h;refine'⟨_,?A,?B⟩
  case A=>
   refine' ao ?C ?D
   case C=>
    refine' aM ?E ?F aL
    case E=>exact(aG (bA hr.units) bB (dv 1) af (aB _))
    case' F=>refine' ai ?G
    case G=>exact(ay (ar G_l hr T.F_l (aa (dv 0) (aa af ag))))
   case' D=>refine' ao ?H ?I
   case H=>
    refine' aM ?J ?K aL
    case J=>exact(aG (bA hr.units) bB (ar G_l hr T.F_l (aa (dv 0) (aa af ag))) af (aB _))
    case' K=>refine' ai ?L
    case L=>exact(ay (ar G_l hr T.F_l (aa (dv 0) (aa af ag))))
   case' I=>refine' ao ?M ?N
   case M=>exact(xk (i:=2) (j:=3) rfl CQ.nd rfl rfl VC rfl rfl (aa (aZ cA bX af (ar G_l hr T.F_l (aa (dv 0) (aa af ag)))) (aa (aZ cA bX af (ar G_l hr T.F_l (aa (dv 0) (aa af ag)))) ag)) (by rfl))
   case' N=>refine' ai ?O
   case' O=>refine' ay ?P
   case P=>exact(ar G_p hr T.F_p (aa (dv 2) (aa (dv 3) (aa (ax bT ck (fe (cZ (aa af (aa (aZ g5 bX (ar G_n hr T.F_n (aa (dv 2) (aa (dv 3) ag))) (ar G_l hr T.F_l (aa (dv 0) (aa af ag)))) ag)))) (ar G_l hr T.F_l (aa (dv 0) (aa af ag)))) ag))))
  case B=>
  clear hr T G_l G_n G_p;walk_at "a";split
  ·exact⟨41,rfl,VC,VC,λd d0 d1=>q d d0 VD⟩
  ·refine⟨2,rfl,VC,VC,λv v0 v1=>⟨iG,?_⟩⟩;rw [oF];split
   ·exact⟨100000,rfl,VC,VC,λd d0 d1=>q d d0 d1⟩
   ·refine⟨270,rfl,VC,VC,λy y0 y1=>⟨_,rfl,12,rfl,VC,VC,λm m0 m1=>⟨_,rfl,?_⟩⟩⟩;refine⟨2000+y,1+m,rfl,VD,VD,4,rfl,VC,VC,λz z0 z1=>⟨_,rfl,_,rfl,2,rfl,VC,VC,λe e0 e1=>⟨_,rfl,?_⟩⟩⟩;have mb:=B7 (y:=2000+y) (m:=1+m) VD VD;have nb:∀n,1<=n->n<=bF (2000+y) (1+m)->Dz [.int (2000+y),.int (1+m),.int n] Q:=λn n1 n2=>by
     have:=MG (y:=2000+y) (m:=1+m) (n:=n) VD VD VD VD n1 n2;exact⟨_,_,_,rfl,VD,VD,q _ this.1 this.2⟩
    obtain⟨d,hd,hd'⟩:=ly (a:=Ou 1) (b:=Ou (bF (2000+y) (1+m) - z)) e0 e1;refine⟨d,hd,?_⟩;rcases hd' with h | h <;> rw [h]
    ·exact nb 1 VD VD
    ·exact nb _ VD VD
structure uD (ns ks:List Str) (far:Int):Prop where
 nl:ns.length=8
 no:p7 ns
 nn:ns.Nodup
 k0:2<=ks.length
 k1:ks.length<=3
 ko:p7 ks
 f0:0<=far
 f1:far<=1
def p8:List Str:=["keep","gone","while","follow"]
def DC:List VI->(VI->Prop)->Prop:=λds Q=>∃(wo:Str)(ns ks:List Str)(far:Int),ds=[fS,.str wo,.list (ns.map .str),.list (ks.map .str),.int far]/\wo∈p8/\uD ns ks far/\∀d,iK d->Q d
theorem iS{ss:List Str}{i:Int}(h0:0<=i)(h1:i < ss.length):∃s∈ss,atI (ss.map Ol) i=some (.str s):=by
 obtain⟨k,rfl⟩:=P8 h0;have hk:k < ss.length:=VD
 exact⟨ss[k],PB hk,dG (by simp [hk])⟩
theorem MI(T:Txt K mg t):aF P w K mg base aK 2 t.a_r t.d_r ["_law_purse_here","_law_word","_law_names_here","_law_kinds","_law_far"] (aQ K DC):=by
 have G_l:=@lu P w _ _ base _ T;refine T.F_r.F.okD pQ (λds Q h=>?_) (λ_ _ _ _ H O ds Q E hr h=>?_)
 ·obtain⟨wo,ns,ks,far,rfl,_⟩:=h;rfl
 ·obtain⟨wo,ns,ks,far,rfl,hw,dr,q⟩:=h;refine'⟨_,?A,?B⟩
  case A=>
   refine' ao ?C ?D
   case C=>
    refine' bj (i:=5) pQ.nd rfl VG ?E (hs:=mz)
    case' E=>refine' d9 bT ck (df (dv 3)) ?F
    case F=>exact(df (ar G_l hr T.F_l (aa (dv 0) (aa (PE.imp (aS bG rfl T.n_len OF (aO (dv 3) aN)) (aT bK)) ag))))
   case' D=>refine' ao ?G ?H
   case G=>
    refine' aM ?I ?J aL
    case I=>exact(aG (jc hr) fD (dv 1) (bg (aa aJ (aa aJ ag))) rfl)
    case' J=>refine' ai ?K
    case K=>exact(ay (bg (aa (dv 1) (aa (dv 5) ag))))
   case' H=>refine' ao ?L ?M
   case L=>
    generalize hG10:U4 _ _ _=eg10;refine' bj (i:=6) pQ.nd rfl VG ?N (hs:=by subst hG10;exact mz)
    case' N=>subst hG10
    refine' d9 bT ck (df ?O) ?P
    case O=>
     refine' fe ?Q
     case' Q=>refine' cZ ?R
     case' R=>refine' aa ?S ?T
     case S=>exact(bg (aa aJ ag))
     case' T=>refine' aa ?U ?V
     case U=>exact(bg (aa aJ (aa (ax bT ck (dv 2) af) ag)))
     case' V=>refine' aa ?W ag
     case' W=>refine' bg ?X
     case' X=>refine' aa aJ ?Y
     case' Y=>refine' aa ?Z ag
     case' Z=>refine' d9 bT ck (df (dv 2)) ?a
     case a=>exact(df (aZ cA bX af (ar G_l hr T.F_l (aa (dv 0) (aa af ag)))))
    case P=>exact(df (ar G_l hr T.F_l (aa (dv 0) (aa af ag))))
   case' M=>refine' ao ?b ?c
   case b=>
    refine' aM ?d ?e aL
    case d=>exact(aG (bA hr.units) bB (dv 4) af (aB _))
    case' e=>refine' ai ?f
    case' f=>refine' ay ?g
    case' g=>refine' bg ?h
    case' h=>refine' aa (dv 1) ?i
    case' i=>refine' aa (dv 5) ?j
    case' j=>refine' aa (dv 6) ?k
    case' k=>refine' aa ?l ?m
    case l=>exact(ar G_l hr T.F_l (aa (dv 0) (aa af ag)))
    case m=>refine' aa aJ ag
   case' c=>refine' ao ?n ?o
   case n=>
    refine' bj (i:=7) pQ.nd rfl VG ?p (hs:=jT)
    case p=>exact(ar G_l hr T.F_l (aa (dv 0) (aa (ax bT ck (fe (cZ (jP (ds:=[.int 1000,.int 14,.int 30]) (by rfl)))) (ar G_l hr T.F_l (aa (dv 0) (aa af ag)))) ag)))
   case' o=>refine' ai ?q
   case' q=>refine' ay ?r
   case' r=>refine' bg ?s
   case' s=>refine' aa (dv 1) ?t
   case' t=>refine' aa (dv 5) ?u
   case' u=>refine' aa (dv 6) ?v
   case' v=>refine' aa (dv 7) ?w
   case' w=>refine' aa ?x ag
   case' x=>refine' d9 bT ck (df ?y) ?z
   case y=>exact(fe (cZ (jP (ds:=[.str "days",.str "months",.str "years"]) (by rfl))))
   case z=>exact(df (ar G_l hr T.F_l (aa (dv 0) (aa af ag))))
  case B=>
  clear hr T G_l;walk_at "a";refine⟨_,rfl,by rw [Oi];have:=dr.k0;omega,by rw [Oi];have:=dr.k1;omega,λi i0 i1=>⟨_,rfl,?_⟩⟩;rw [Oi] at i1;obtain⟨kd,hk,ek⟩:=iS i0 i1;have kok:=dr.ko kd hk;refine⟨_,ek,?_,Ce,?_⟩
  ·simp only [p8,Ox,Pc,or_false] at hw;rcases hw with e | e | e | e <;> subst e <;> decide+kernel
  have hw2:wo∈(["keep","gone"]:List Str)\/(wo∈(["while","follow","leave"]:List Str)/\wo ∉ (["keep","gone"]:List Str)):=by
   simp only [p8,Ox,Pc,or_false] at hw;rcases hw with e | e | e | e <;> subst e
   ·exact .inl Ce
   ·exact .inl Ce
   ·exact .inr Ce
   ·exact .inr Ce
  rcases hw2 with hw2 | ⟨hw2,hw3⟩
  rotate_left
  ·simp only [Ox,Pc,or_false,not_or] at hw3;have n1:Oh "keep"≠wo:=λe=>hw3.1 e.symm;have n2:Oh "gone"≠wo:=λe=>hw3.2 e.symm;rw [VF (by rw [dZ n1,dZ n2];rfl)];exact q _ (.wfl hw2 kok)
  have hw4:(Oh "keep"==wo || Oh "gone"==wo)=true:=by
   simp only [Ox,Pc,or_false] at hw2;rcases hw2 with e | e <;> subst e <;> decide+kernel
  rw [VE (by rw [hw4];decide)];have nl:=dr.nl;obtain⟨n6,h6,e6⟩:=iS (ss:=ns) (i:=6) VC VD;refine⟨_,e6,2,rfl,VC,VC,λj j0 j1=>⟨_,rfl,?_⟩⟩;obtain⟨n7,h7,e7⟩:=iS (ss:=ns) (i:=6+j) VD VD;refine⟨_,e7,3,rfl,VC,VC,λv v0 v1=>⟨_,rfl,?_⟩⟩;have sn:∃s:VI,hZ s/\atI [Oz [Ol (Oh "coming")],Oz [Ol (Oh "first"),.str n6],Oz [Ol (Oh "last"),.str n7]] v=some s:=by
   have:v=0\/v=1\/v=2:=VD
   rcases this with e | e | e <;> subst e
   ·exact⟨_,.coming,rfl⟩
   ·exact⟨_,.first (dr.no n6 h6),rfl⟩
   ·exact⟨_,.last (dr.no n7 h7),rfl⟩
  obtain⟨sn,so,es⟩:=sn;refine⟨_,es,?_⟩;have fin:∀(k:Int)(u:Str),0<=k->k < 1000->u∈units->Q (Oz [Ol wo,.str kd,sn,.int k,.str u]):=λk u k0 k1 hu=>q _ (.kg hw2 kok so k0 VD hu);split
  ·exact⟨21,rfl,VC,VC,λk k0 k1=>fin k _ k0 VD O3⟩
  ·refine⟨3,rfl,VC,VC,λa a0 a1=>⟨_,rfl,?_⟩⟩;have mx:∃z:Int,0 < z/\z<=1000/\atI [Ou 1000,Ou 14,Ou 30] a=some (.int z):=by
    have:a=0\/a=1\/a=2:=VD
    rcases this with e | e | e <;> subst e
    ·exact⟨1000,VC,VC,rfl⟩
    ·exact⟨14,VC,VC,rfl⟩
    ·exact⟨30,VC,VC,rfl⟩
   obtain⟨z,z0,z1,ez⟩:=mx;refine⟨_,ez,z,rfl,z0,VD,λk k0 k1=>⟨3,rfl,VC,VC,λb b0 b1=>⟨_,rfl,?_⟩⟩⟩;have:b=0\/b=1\/b=2:=VD
   rcases this with e | e | e <;> subst e
   ·exact⟨_,dM,fin k _ k0 VD O3⟩
   ·exact⟨_,eN,fin k _ k0 VD (OR _ O3)⟩
   ·exact⟨_,l4,fin k _ k0 VD (OR _ (OR _ O3))⟩
end
theorem DD:bt (aA pJ) ["_law_purse_here","_law_word","_law_names_here","_law_kinds","_law_far","_law_day_here","_law_name","_law_some","_law_kind","_law_target"] ["_law_one","_law_purse_here"] 1 [0] ⟨OE,[ (Oj ".0",Xy),(Oj "_law_one",Xy),(Oj "_law_take",OT),(Oj "_law_purse_here",OM)],false,false,[]⟩:= .of
section
variable {P:VW} {w:VZ} {K:Og} {mg:Str->Option VJ} {base:VY} {t:cz}
theorem MJ{a b:Str}(h:c9 a b=true)(n:a≠b):jS a b:=by
 unfold c9 at h;unfold jS;have h:=of_decide_eq_true h;rcases List.le_iff_lt_or_eq.mp h with z | z
 ·exact z
 ·exact absurd (by cases a;cases b;simp at z;rw [z]) n
theorem MK{ss:List Str}(h4:ss.length<=4)(hn:∀z∈ss,Nm z)(nd:ss.Nodup):mw (cD ss):=by
 refine⟨by rw [(fX ss).length_eq];exact h4,λm hm=>hn m ((fX ss).mem_iff.mp hm),?_⟩;have n2:(cD ss).Nodup:=(fX ss).nodup_iff.mpr nd;exact((sq ss).and n2).imp λh=>MJ h.1 h.2
def mW:List Str:=["paper","happens","hold","keep","lift","follow","end"]
structure gT (x:De):Prop where
 dv:dE x.enc
 np:∀w d nm r,x= .oth w d nm r->w≠Oh "paper"
def MM:List VI->(VI->Prop)->Prop:=λds Q=>∃(wo:Str)(ns ks:List Str)(far:Int),ds=[fS,.str wo,.list (ns.map .str),.list (ks.map .str),.int far]/\wo∈mW/\uD ns ks far/\∀x:De,gT x->(wo=Oh "paper"->∃p,x= .pap p)->Q x.enc
theorem MN(T:Txt K mg t):aF P w K mg base aK 4 t.a_s t.d_s ["_law_purse_here","_law_word","_law_names_here","_law_kinds","_law_far"] (aQ K MM):=by
 have G_l:=@lu P w _ _ base _ T;have G_q:=@MH P w _ _ base _ T;have G_r:=@MI P w _ _ base _ T;refine T.F_s.F.okD k9 (λds Q h=>?_) (λ_ _ _ _ H O ds Q E hr h=>?_)
 ·obtain⟨wo,ns,ks,far,rfl,_⟩:=h;rfl
 ·obtain⟨wo,ns,ks,far,rfl,hw,dr,q⟩:=h;refine'⟨_,?A,?B⟩
  case A=>
   refine' ao ?C ?D
   case C=>exact(bj (i:=5) k9.nd rfl VG (ar G_q hr T.F_q (aa (dv 0) (aa (dv 4) ag))))
   case' D=>refine' ao ?E ?F
   case E=>exact(bj (i:=6) k9.nd rfl VG (ax bT ck (dv 2) (ar G_l hr T.F_l (aa (dv 0) (aa af ag)))))
   case' F=>refine' ao ?G ?H
   case G=>
    refine' aM ?I ?J aL
    case I=>exact(aG (cq hr) cu (dv 1) aJ (aB _))
    case' J=>refine' ao ?K ?L
    case K=>exact(mi (i:=7) k9.nd rfl VG (oM rfl DD (df (fe (jK (df (dv 2)) fB (dB af)))) aV cI VC (λ_ _ _ _=>(aR (i:=0) DD.nd rfl VG)) (λ_ _ _ _=>(fQ (aG (bA hr.units) bB (ar G_l hr T.F_l (aa (dv 1) (aa af ag))) af (aB _)))) (λ_ _ _ _=>(dv 0))))
    case' L=>refine' ai ?M
    case' M=>refine' ay ?N
    case' N=>refine' bg ?O
    case' O=>refine' aa (dv 1) ?P
    case' P=>refine' aa (dv 5) ?Q
    case' Q=>refine' aa (dv 6) ?R
    case' R=>refine' aa ?S ?T
    case S=>
     refine' d9 bT ck (df (dv 3)) ?U
     case U=>exact(df (ar G_l hr T.F_l (aa (dv 0) (aa (PE.imp (aS bG rfl T.n_len OF (aO (dv 3) aN)) (aT bK)) ag))))
    case' T=>refine' aa ?V ag
    case V=>exact(PE.imp (fP jC rfl T.n_tuple d7 (aO (fe (Ie rfl T.n_sorted Rg (aO (fe (jK (df (dv 7)) fB (dB af))) aN))) aN)) (aT jL))
   case' H=>refine' ao ?W ?X
   case W=>
    refine' aM ?Y ?Z aL
    case Y=>exact(aG (cq hr) cu (dv 1) aJ (aB _))
    case' Z=>refine' ai ?a
    case' a=>refine' ay ?b
    case' b=>refine' bg ?c
    case' c=>refine' aa (dv 1) ?d
    case' d=>refine' aa (dv 5) ?e
    case' e=>refine' aa (dv 6) ?f
    case' f=>refine' aa ?g ag
    case' g=>refine' d9 bT ck (df (dv 2)) ?h
    case h=>exact(df (aZ cA bX af (ar G_l hr T.F_l (aa (dv 0) (aa af ag)))))
   case' X=>refine' ao ?i ?j
   case i=>
    refine' aM ?k ?l aL
    case k=>exact(aG (fY hr) fZ (dv 1) (bg (aa aJ (aa aJ ag))) rfl)
    case' l=>refine' ai ?m
    case m=>exact(ay (bg (aa (dv 1) (aa (dv 5) (aa (dv 6) ag)))))
   case' j=>refine' ao ?n ?o
   case n=>
    refine' bj (i:=8) k9.nd rfl VG ?p (hs:=mz)
    case' p=>refine' d9 bT ck (df (dv 3)) ?q
    case q=>exact(df (ar G_l hr T.F_l (aa (dv 0) (aa (PE.imp (aS bG rfl T.n_len OF (aO (dv 3) aN)) (aT bK)) ag))))
   case' o=>refine' ao ?r ?s
   case r=>
    refine' aM ?t ?u aL
    case t=>exact(aG (cq hr) cu (dv 1) aJ (aB _))
    case' u=>refine' ao ?v ?w
    case v=>
     refine' bj (i:=9) k9.nd rfl VG ?x (hs:=mz)
     case' x=>refine' d9 bT ck (df ?y) ?z
     case y=>
      refine' fe ?A0
      case' A0=>refine' cZ ?A1
      case' A1=>refine' aa ?A2 ?A3
      case A2=>
       refine' bg ?A4
       case' A4=>refine' aa aJ ?A5
       case' A5=>refine' aa ?A6 ag
       case A6=>exact(ax bT ck (dv 2) (ar G_l hr T.F_l (aa (dv 0) (aa af ag))))
      case' A3=>refine' aa ?A7 ag
      case A7=>exact(bg (aa aJ (aa (dv 8) ag)))
     case z=>exact(df (ar G_l hr T.F_l (aa (dv 0) (aa af ag))))
    case' w=>refine' ai ?A8
    case' A8=>refine' ay ?A9
    case' A9=>refine' bg ?AA
    case' AA=>refine' aa (dv 1) ?AB
    case' AB=>refine' aa (dv 5) ?AC
    case' AC=>refine' aa (dv 6) ?AD
    case' AD=>refine' aa (dv 9) ?AE
    case' AE=>refine' aa ?AF ag
    case AF=>exact(b7 (bA hr.units) bB (df (ar G_l hr T.F_l (aa (dv 0) (aa af ag)))) (df af) (aB _))
   case' s=>refine' ao ?AG ?AH
   case AG=>
    refine' aM ?AI ?AJ aL
    case AI=>exact(aG (cq hr) cu (dv 1) aJ (aB _))
    case' AJ=>refine' ai ?AK
    case AK=>exact(ay (bg (aa aJ (aa (dv 5) (aa (dv 6) (aa (dv 8) ag))))))
   case' AH=>refine' ai ?AL
   case' AL=>refine' ay ?AM
   case' AM=>refine' bg ?AN
   case' AN=>refine' aa aJ ?AO
   case' AO=>refine' aa (dv 5) ?AP
   case' AP=>refine' aa (dv 6) ?AQ
   case' AQ=>refine' aa ?AR ag
   case AR=>exact(ar G_r hr T.F_r (aa (dv 0) (aa (dv 1) (aa (dv 2) (aa (dv 3) (aa (dv 4) ag))))))
  case B=>
  clear hr T G_l G_q G_r;walk_at "a";refine⟨far,rfl,λd d0 d1=>⟨6,rfl,VC,VC,λi i0 i1=>⟨_,rfl,?_⟩⟩⟩;have nl:=dr.nl;have k0:=dr.k0;have k1:=dr.k1;obtain⟨nm,hn,en⟩:=iS (ss:=ns) i0 VD;have nok:=dr.no nm hn;have dn:jh d:=⟨d0,VD⟩;refine⟨_,en,?_⟩;have kinds:∀R:VI->Prop,(∀kd∈ks,R (.str kd))->rS [fS,Ou ((O8 Ol ks).length:Int)] λy=>∃x,y=Ou x/\∃x_2,atI (O8 Ol ks) x=some x_2/\R x_2:=λR hR=>by
   refine⟨_,rfl,by rw [Oi];omega,by rw [Oi];omega,λi i0 i1=>⟨_,rfl,?_⟩⟩;rw [Oi] at i1;obtain⟨kd,hk,ek⟩:=iS i0 i1;exact⟨_,ek,hR kd hk⟩
  by_cases hp:wo=Oh "paper"
  ·rw [VF (by rw [hp];exact beq_self_eq_true _)];have ec:bY (O8 Ol ns) none (some 6)=(ns.take 6).map Ol:=by
    rw [jN VC (by simp;omega),<-Ri];rfl
   rw [ec];refine⟨by rw [Oi,Pn];omega,λi acc=>∃ss:List Str,acc=ss.map .str/\ss.Sublist ((ns.take 6).take i),⟨[],rfl,List.nil_sublist _⟩,?_,?_⟩
   ·rintro i z acc hz ⟨ss,rfl,hs⟩;rw [OD] at hz;cases hz':(ns.take 6)[i]? with
    | none=>rw [hz'] at hz;cases hz
    | some x=>
     rw [hz'] at hz;cases hz;walk_at "a";refine⟨3,rfl,VC,VC,λv v0 v1=>⟨iG,?_⟩⟩;rw [oF];split
     ·refine⟨ss++[x],by rw [O9];rfl,?_⟩;rw [Qa,hz'];exact hs.append (.refl _)
     ·refine⟨ss,rfl,?_⟩;rw [Qa];exact hs.trans (List.sublist_append_left _ _)
   ·rintro acc ⟨ss,rfl,hs⟩;have hs:ss.Sublist (ns.take 6):=hs.trans (Q6 _ _);have hm:∀z∈ss,Nm z:=λz hz=>dr.no z (PQ (hs.subset hz));have snd:ss.Nodup:=(dr.nn.sublist (Q6 _ _)).sublist hs;refine kinds (λx_2=>∃ss_1,bY (O8 Ol ss) none (some 4)=O8 Ol ss_1/\ss_1.length < 64/\Q (Oz [Ol wo,.int d,.str nm,x_2,Oz (O8 Ol (cD ss_1))])) λkd hk=>?_;have cc:bY (O8 Ol ss) none (some 4)=(ss.take 4).map Ol:=by
     by_cases h4:4<=ss.length
     ·rw [jN VC (by simp;omega),<-Ri];rfl
     ·match ss,h4 with
      | [],_=>rfl
      | [a],_=>rfl
      | [a,b],_=>rfl
      | [a,b,c],_=>rfl
      | a::b::c::e::l,h4=>exact absurd h4 VH
    refine⟨ss.take 4,cc,by rw [Pn];omega,?_⟩;rw [hp];exact q (.pap ⟨d,nm,kd,cD (ss.take 4)⟩) ⟨.paper dn nok (dr.ko kd hk) (MK (by rw [Pn];omega) (λz hz=>hm z (PQ hz)) (snd.sublist (Q6 _ _))),λ_ _ _ _ e=>by cases e⟩ λ_=>⟨_,rfl⟩
  ·rw [dZ hp,VE O6];have q2:∀(w:Str)(r:List VI),w≠Oh "paper"->dE (.tuple (.str w:: .int d:: .str nm::r))->Q (.tuple (.str w:: .int d:: .str nm::r)):=λw r wp dv=>
    q (.oth w d nm r) ⟨dv,λw' d' nm' r' e=>by cases e;exact wp⟩ (λe=>absurd e hp)
   simp only [mW,Ox,Pc,or_false] at hw;have rl:wo∈p8->DC [fS,.str wo,.list (ns.map .str),.list (ks.map .str),.int far] λd_1=>Q (Oz [Ol (Oh "rule"),.int d,.str nm,d_1]):=λh=>
    ⟨wo,ns,ks,far,rfl,h,dr,λpt po=>q2 (Oh "rule") [pt] Ce (.rule dn nok po)⟩
   rcases hw with e | e | e | e | e | e | e
   ·exact absurd e hp
   ·subst e;rw [VF (beq_self_eq_true _)];refine⟨2,rfl,VC,VC,λj j0 j1=>⟨_,rfl,?_⟩⟩;obtain⟨n7,h7,e7⟩:=iS (ss:=ns) (i:=6+j) VD VD;exact⟨_,e7,q2 _ [.str n7] hp (.two O3 dn nok (dr.no n7 h7))⟩
   ·subst e;rw [VE Ce,VE Ce];refine kinds _ λkd hk=>?_;rw [VF (beq_self_eq_true _)];refine⟨6,rfl,VC,VC,λj j0 j1=>⟨_,rfl,?_⟩⟩;obtain⟨n3,h3,e3⟩:=iS (ss:=ns) j0 VD;refine⟨_,e3,2,rfl,VC,VC,λv v0 v1=>⟨_,rfl,?_⟩⟩;obtain⟨tg,et,ht⟩:=ly (a:=Oz [Ol (Oh "paper"),.str n3]) (b:=Oz [Ol (Oh "kind"),.str kd]) v0 v1;refine⟨_,et,2,rfl,VC,VC,λb b0 b1=>⟨iG,?_⟩⟩;rcases ht with e | e <;> subst e
    ·exact q2 _ [_,.bool _] hp (.hold dn nok O3 (dr.no n3 h3))
    ·exact q2 _ [_,.bool _] hp (.hold dn nok (OR _ O3) (dr.ko kd hk))
   ·subst e;rw [VE Ce,VE Ce];refine kinds _ λkd hk=>?_;rw [VE Ce,VE Ce];exact rl Ce
   ·subst e;rw [VE Ce,VF Ce];exact q2 (Oh "lift") [] hp (.one (OR _ O3) dn nok)
   ·subst e;rw [VE Ce,VE Ce];refine kinds _ λkd hk=>?_;rw [VE Ce,VE Ce];exact rl Ce
   ·subst e;rw [VE Ce,VF Ce];exact q2 (Oh "end") [] hp (.one O3 dn nok)
mutual
theorem DH:∀d:VI,d.canLay0=true->Om d d=true
 | .none,_=>by simp [Om]
 | .bool _,_ | .int _,_ | .str _,_=>by simp [Om]
 | .list xs,h=>by rw [Om];exact uE xs (by simpa [Ph] using h)
 | .tuple xs,h=>by rw [Om];exact uE xs (by simpa [Ph] using h)
 | .dict _,h=>by simp [Ph] at h
theorem uE:∀ds:List VI,Pj ds=true->Pu ds ds=true
 | [],_=>by simp [Pu]
 | d::ds,h=>by
  rw [Pj,OI] at h;rw [Pu,DH d h.1,uE ds h.2];rfl
end
def lz:List (ak×VI):=[(.inr (Oh "rule"),.int 1),(.inr (Oh "end"),.int 1),(.inr (Oh "hold"),.int 2),(.inr (Oh "lift"),.int 2)]
theorem MO:Q8 (λa p=>eg a p.fst p.snd) [] lz=lz:=by
 rfl
def uF(w:Str):Option VI:=if bC w "rule" "end"=true then some (.int 1) else if bC w "hold" "lift"=true then some (.int 2) else none
theorem DI(w:Str):cy lz (.inr w)=uF w:=by
 by_cases h1:w=Oh "rule"
 ·subst h1;rfl
 by_cases h2:w=Oh "end"
 ·subst h2;rfl
 by_cases h3:w=Oh "hold"
 ·subst h3;rfl
 by_cases h4:w=Oh "lift"
 ·subst h4;rfl
 unfold uF bC;rw [dZ h1,dZ h2,dZ h3,dZ h4];unfold cy lz;have n:∀a:Str,w≠a->decide ((PM a:ak)=PM w)=false:=λa h=>decide_eq_false λe=>h (Tp e).symm;simp only [Qc,n _ h1,n _ h2,n _ h3,n _ h4,List.find?_nil];rfl
theorem DJ{w:Str}(h:bC w "rule" "end"=true):bC w "hold" "lift"=false:=by
 simp only [bC,RH,beq_iff_eq] at h;rcases h with e | e <;> subst e <;> decide+kernel
theorem DK{a b c:Str}(h:¬(a==b)=true):(a==c && b==c)=false:=by
 rw [Qo];intro z;rw [OI] at z;exact h (beq_iff_eq.mpr ((beq_iff_eq.mp z.1).trans (beq_iff_eq.mp z.2).symm))
theorem MP{a b:Str}(h:¬(Oh "paper"==a || Oh "leave"==a)=true):(a==("paper":Str) && b==("paper":Str))=false/\(a==("leave":Str) && b==("leave":Str))=false:=by
 rw [RH,not_or] at h;constructor <;> rw [Qo] <;> intro z <;> rw [OI] at z
 ·exact h.1 (by rw [So];exact z.1)
 ·exact h.2 (by rw [So];exact z.1)
theorem uG{wx wy nx ny:Str}{dx dy:Int}{Q:VI->Prop}(snx:bU (.str nx))(sny:bU (.str ny))(q:Q (.bool (nx==ny && (dx==dy && ((bC wx "rule" "end" && bC wy "rule" "end") || (bC wx "hold" "lift" && bC wy "hold" "lift")))))):
 ∃kd:List (ak×VI),[(Ol (Oh "rule"),Ou 1),(Ol (Oh "end"),Ou 1),(Ol (Oh "hold"),Ou 2),(Ol (Oh "lift"),Ou 2)]=O8 (λp=>(fG p.fst,p.snd)) kd/\
  kd.length<=15/\(∀(p:ak×VI),p∈kd->(match p.snd with | QW=>true | Ql b=>true | Ou i=>true | Ol s=>true | x=>false)=true)/\
  if (cy (Q8 (λa p=>eg a p.fst p.snd) [] kd) (PM wx)).isSome=false then Q (Ql false)
  else ∃x_1,cy (Q8 (λa p=>eg a p.fst p.snd) [] kd) (PM wx)=some x_1/\OA x_1=true/\OA ((cy (Q8 (λa p=>eg a p.fst p.snd) [] kd) (PM wy)).getD QW)=true/\
   if x_1.eqv ((cy (Q8 (λa p=>eg a p.fst p.snd) [] kd) (PM wy)).getD QW)=false then Q (Ql false)
   else OA (Oz [Ou dx,Ol nx])=true/\OA (Oz [Ou dy,Ol ny])=true/\Q (Ql ((Oz [Ou dx,Ol nx]).eqv (Oz [Ou dy,Ol ny]))):=by
 refine⟨lz,rfl,VC,?_,?_⟩
 ·intro p hp;simp only [lz,Ox,Pc,or_false] at hp;rcases hp with e | e | e | e <;> rw [e]
 ·rw [MO,DI,DI];have two:∀(d:Int)(n:Str),bU (.str n)->OA (Oz [Ou d,Ol n])=true:=λd n hn=>(dN (n:=1) (bo iL (bo (bV (cP.mp hn)) eQ))).shp VC;have ev:(Oz [Ou dx,Ol nx]).eqv (Oz [Ou dy,Ol ny])=(dx==dy && nx==ny):=by simp [Om,Pu]
  rw [ev];have hx:=DJ (w:=wx);have hy:=DJ (w:=wy);unfold uF;generalize bC wx "rule" "end"=R,bC wx "hold" "lift"=D at*;generalize bC wy "rule" "end"=R',bC wy "hold" "lift"=D' at*;generalize (dx==dy)=U,(nx==ny)=V at*;have s1:=two dx nx snx;have s2:=two dy ny sny;have i1:OA (Ou 1)=true:=iG;have i2:OA (Ou 2)=true:=iG;have i3:OA QW=true:=Ab;have e1:(Ou 1).eqv (Ou 2)=false:=rfl;have e2:(Ou 2).eqv (Ou 1)=false:=rfl;have e3:(Ou 1).eqv (Ou 1)=true:=rfl;have e4:(Ou 2).eqv (Ou 2)=true:=rfl;have e5:(Ou 1).eqv .none=false:=rfl;have e6:(Ou 2).eqv .none=false:=rfl;cases R <;> cases D <;> cases R' <;> cases D' <;> simp_all
  all_goals (cases U <;> cases V <;> simp_all)
def DL:List VI->(VI->Prop)->Prop:=λds Q=>∃x y:De,ds=[x.enc,y.enc]/\gT x/\gT y/\Q (.bool (dh x.enc y.enc))
theorem MQ(T:Txt K mg t):aF P w K mg base aK 1 t.a_t t.d_t ["_law_one","_law_other"] (aQ K DL):=by
 refine T.F_t.F.okD CS (λds Q h=>?_) (λ_ _ _ _ H O ds Q E hr h=>?_)
 ·obtain⟨x,y,rfl,_⟩:=h;rfl
 ·obtain⟨x,y,rfl,gx,gy,q⟩:=h;refine'⟨_,?A,?B⟩
  case A=>
   refine' ao ?C ?D
   case C=>
    refine' aM ?E ?F aL
    case E=>exact(PW.pt (cS (aG (bA hr.units) bB (dv 0) (dv 1) (aB _)) (dH (PW.pt (cj (aG (bA hr.units) bB (ax aC aD (dv 0) af) (ax aC aD (dv 1) af) (aB _)) (cj (aG (fY hr) fZ (ax aC aD (dv 0) af) (bg (aa aJ (aa aJ ag))) rfl) (cw (aG (bA hr.units) bB (ax aC aD (dv 0) af) (ax aC aD (dv 1) af) (aB _)))))))))
    case F=>refine' ai (ay bH)
   case' D=>refine' ao ?G ?H
   case G=>
    generalize hD6:U7 _ _ _=ed6;refine' oU (i:=2) CS.nd rfl VG ?I (hs:=by subst hD6;first | rfl | exact sL)
    case' I=>subst hD6
    refine' Kc ?p6_0
    case p6_0=>
     refine' kQ aJ af ?p6_1
     case p6_1=>
      refine' kQ aJ af ?p6_2
      case p6_2=>
       refine' kQ aJ af ?p6_3
       case p6_3=>
        refine' kQ aJ af ?p6_4
        case p6_4=>exact sT
   case' H=>refine' ao ?J ?K
   case J=>
    refine' aM ?L ?M aL
    case L=>exact(PW.pt (cS (Jx (i:=2) hr.units (pv 2) (ax aC aD (dv 0) af)) (dH (aG (lZ hr.units) l3 (oV (i:=2) hr.units (pv 2) (ax aC aD (dv 0) af) (λ_ _=>rfl)) (Bf (i:=2) hr.units (pv 2) (ax aC aD (dv 1) af) ⟨rfl,rfl,rfl,rfl⟩) (aB _)))))
    case M=>refine' ai (ay bH)
   case' K=>refine' ai ?N
   case' N=>refine' ay ?O
   case O=>exact(b7 (bA hr.units) bB (df (kM (df (dv 0)) (dB af) (dB af))) (df (kM (df (dv 1)) (dB af) (dB af))) (aB _))
  case B=>
  clear hr T;have sx:=gx.dv.shp;have sy:=gy.dv.shp;have ex:∃rx,x.enc= .tuple (.str x.w:: .int x.d:: .str x.nm::rx):=by cases x <;> exact⟨_,rfl⟩
  have ey:∃ry,y.enc= .tuple (.str y.w:: .int y.d:: .str y.nm::ry):=by cases y <;> exact⟨_,rfl⟩
  obtain⟨rx,ex⟩:=ex;obtain⟨ry,ey⟩:=ey;rw [ex] at sx q⊢;rw [ey] at sy q⊢;clear ex ey gx gy;generalize x.w=wx,x.d=dx,x.nm=nx at*;generalize y.w=wy,y.d=dy,y.nm=ny at*;have swx:bU (.str wx):=hJ sx _ VH;have swy:bU (.str wy):=hJ sy _ VH;have snx:bU (.str nx):=hJ sx _ VH;have sny:bU (.str ny):=hJ sy _ VH;walk_at "a";refine⟨sx,sy,?_⟩;have fin:∀{b:Bool},b=dh (.tuple (.str wx:: .int dx:: .str nx::rx)) (.tuple (.str wy:: .int dy:: .str ny::ry))->Q (.bool b):=λe=>by rw [e];exact q
  have qd:dh (.tuple (.str wx:: .int dx:: .str nx::rx)) (.tuple (.str wy:: .int dy:: .str ny::ry))=(Om (.tuple (.str wx:: .int dx:: .str nx::rx)) (.tuple (.str wy:: .int dy:: .str ny::ry)) || (nx==ny && ((wx==("paper":Str) && wy==("paper":Str)) || (wx==("leave":Str) && wy==("leave":Str)) || (dx==dy && ((bC wx "rule" "end" && bC wy "rule" "end") || (bC wx "hold" "lift" && bC wy "hold" "lift")))))):=rfl;rw [qd] at fin;clear qd q;split
  ·rename_i h0;exact fin (by rw [h0];rfl)
  ·rename_i h0;have h0:(Oz (Ol wx::Ou dx::Ol nx::rx)).eqv (Oz (Ol wy::Ou dy::Ol ny::ry))=false:=by simpa using h0
   rw [h0,QQ] at fin;refine⟨swx,swy,?_⟩;split
   ·rename_i hw;split
    ·rename_i hp;refine⟨snx,sny,?_⟩;split
     ·rename_i hn;refine fin ?_;rw [hn,PD];have e:=beq_iff_eq.mp hw;subst e;rw [RH] at hp;rcases hp with z | z
      ·have z:=beq_iff_eq.mp z;subst z;rfl
      ·have z:=beq_iff_eq.mp z;subst z;rw [show((Oh "leave")==("leave":Str))=true from beq_self_eq_true _];simp
     ·rename_i hn;have hn:(nx==ny)=false:=by simpa using hn
      exact uG snx sny (fin (by rw [hn,Rq,Rq]))
    ·rename_i hp;have z:=MP (b:=wy) hp;exact uG snx sny (fin (by rw [z.1,z.2,QQ,QQ]))
   ·rename_i hw;exact uG snx sny (fin (by rw [DK hw,DK hw,QQ,QQ]))
end
theorem DM:bt (aA pK) ["_law_script","_law_menu","_law_most","_law_head","_law_far","_law_chain","_law_names_here","_law_kinds","_law_words","_law_turn","_law_deeds_here","_law_k","_law_deed_here","_law_day_here"] ["_law_one","_law_deed_here"] 1 [12] ⟨OE,[ (Oj ".0",Xy),(Oj "_law_one",Xy),(Oj "_law_quarrels",OT),(Oj "_law_deed_here",OM)],false,false,[]⟩:= .of
section
variable {P:VW} {w:VZ} {K:Og} {mg:Str->Option VJ} {base:VY} {t:cz}
theorem MR{ns:List Str}(l u:Option Int):∃ms:List Str,bY (O8 Ol ns) l u=ms.map Ol/\(∀m∈ms,m∈ns)/\ms.length<=ns.length/\ms.Sublist ns:=by
 unfold bY;rw [<-T2,<-Ri];exact⟨_,rfl,λm hm=>RB (PQ hm),by rw [Pn,QT];omega,(Q6 _ _).trans (List.drop_sublist _ _)⟩
theorem De.encE(x:De):∃r,x.enc= .tuple (.str x.w:: .int x.d:: .str x.nm::r):=by cases x <;> exact⟨_,rfl⟩
theorem uH(x y:De):dh x.enc y.enc=dh y.enc x.enc:=by
 obtain⟨rx,ex⟩:=x.encE;obtain⟨ry,ey⟩:=y.encE;rw [ex,ey];show(Om _ _ || (x.nm==y.nm && ((x.w==("paper":Str) && y.w==("paper":Str)) || (x.w==("leave":Str) && y.w==("leave":Str)) || (x.d==y.d && ((bC x.w "rule" "end" && bC y.w "rule" "end") || (bC x.w "hold" "lift" && bC y.w "hold" "lift"))))))=(Om _ _ || (y.nm==x.nm && ((y.w==("paper":Str) && x.w==("paper":Str)) || (y.w==("leave":Str) && x.w==("leave":Str)) || (y.d==x.d && ((bC y.w "rule" "end" && bC x.w "rule" "end") || (bC y.w "hold" "lift" && bC x.w "hold" "lift"))))));rw [sg,show(x.nm==y.nm)=(y.nm==x.nm) from So,show(x.d==y.d)=(y.d==x.d) from So];simp only [Vc]
theorem MS{xs:List VI}{i:Nat}(h:i<=xs.length):(bY xs (some (if 0+(i:Int) - 1 > 0 then 0+(i:Int) - 1 else 0)) (some (0+(i:Int)))).length<=1:=by
 unfold bY;rw [Pn,QT];have e1:HT.sIx xs.length xs.length (some (0+(i:Int)))=i:=by
  rw [iH VD VD];omega
 have e2:HT.sIx xs.length 0 (some (if 0+(i:Int) - 1 > 0 then 0+(i:Int) - 1 else 0))=i - 1:=by
  split
  ·rw [iH VD VD];omega
  ·rw [iH VD VD];omega
 rw [e1,e2];omega
theorem MT{p:Pp}(h:dE p.enc):Nm p.kd:=by
 unfold Pp.enc at h;generalize hd:Oz [.str (Oh "paper"),.int p.d,.str p.nm,.str p.kd,.tuple (p.ms.map .str)]=d at h;cases h with
 | paper _ _ hk _=>
  simp only [Qu,PH,Qi,RA] at hd;rw [hd.2.2.2.1];exact hk
 | _=>simp at hd
structure cG (xs:List De):Prop where
 e:∀x∈xs,gT x
 q:xs.Pairwise λx y=>dh x.enc y.enc=false
 l:xs.length<=32
def j3:List Str:=["hold","hold","hold","lift","keep","follow","happens","end"]
theorem MU{m:Str}(h:m∈j3):m∈mW:=by
 simp only [j3,mW,Ox,Pc,or_false] at h⊢;rcases h with e | e | e | e | e | e | e | e <;> subst e <;> simp
def MV:List VI->(VI->Prop)->Prop:=λds Q=>∃(cs:List Int),ds=[fy (cs.map .int),.list (j3.map .str),.int 14]/\∀(xs:List De)(ns:List Str)(far:Int),cG xs->ah xs≠[]->ns.length=8->p7 ns->ns.Nodup->Q (.tuple [.tuple (xs.map De.enc),.list (ns.map .str),.int far])
theorem MW(T:Txt K mg t):aF P w K mg base aK 5 t.a_u t.d_u ["_law_script","_law_menu","_law_most"] (aQ K MV):=by
 have G_l:=@lu P w _ _ base _ T;have G_k:=@Ds P w _ _ base _ T;have G_j:=@Dx P w _ _ base _ T;have G_m:=@ME P w _ _ base _ T;have G_s:=@MN P w _ _ base _ T;have G_t:=@MQ P w _ _ base _ T;refine T.F_u.F.okD gA (λds Q h=>?_) (λ_ _ _ _ H O ds Q E hr h=>?_)
 ·obtain⟨cs,rfl,_⟩:=h;rfl
 ·obtain⟨cs,rfl,q⟩:=h;refine'⟨_,?A,?B⟩
  case A=>
   refine' ao ?C ?D
   case C=>exact(bj (i:=3) gA.nd rfl VG (ar G_k hr T.F_k (aa (ar G_j hr T.F_j (aa (dv 0) (aa af ag))) ag)))
   case' D=>refine' ao ?E ?F
   case E=>exact(xk (i:=4) (j:=5) rfl gA.nd rfl rfl VC rfl rfl (aa (ar G_l hr T.F_l (aa (dv 3) (aa af ag))) (aa (b7 (bA hr.units) bB (df (ar G_l hr T.F_l (aa (dv 3) (aa af ag)))) (df af) (aB _)) ag)) (by rfl))
   case' F=>refine' ao ?G ?H
   case G=>exact(bj (i:=6) gA.nd rfl VG (ar G_m hr T.F_m (aa (dv 3) (aa af ag))))
   case' H=>refine' ao ?I ?J
   case I=>
    refine' bj (i:=7) gA.nd rfl VG ?K (hs:=mz)
    case' K=>refine' fe ?L
    case L=>exact(jK (df (dv 6)) fB (dB (aZ cA bX af (ar G_l hr T.F_l (aa (dv 3) (aa af ag))))))
   case' J=>refine' ao ?M ?N
   case M=>
    refine' kD (i:=8) gA.nd rfl VG ?O (hs:=my)
    case O=>exact(KA (cZ (aa aJ ag)) (aZ cA bX af (ar G_l hr T.F_l (aa (dv 3) (aa af ag)))))
   case' N=>refine' ao ?P ?Q
   case P=>
    refine' rQ Pg rfl rfl T.n_range (aa (ar G_l hr T.F_l (aa (dv 3) (aa (ax bT ck (fe (cZ (aa (dv 2) (aa (aZ g6 dA af (dv 2)) ag)))) (PE.imp (fP vv rfl T.n_int rF (aO (b7 (bA hr.units) bB (df (ar G_l hr T.F_l (aa (dv 3) (aa af ag)))) (df af) (aB _)) aN)) (aT z9))) ag))) ag) ?R aV ?S
    case R=>exact(aR (i:=9) gA.nd rfl VG)
    case' S=>refine' ai ?T
    case' T=>refine' wY (i:=8) (pv 8) ?U
    case' U=>refine' d9 bT ck (df (dv 1)) ?V
    case V=>exact(df (ar G_l hr T.F_l (aa (dv 3) (aa (PE.imp (aS bG rfl T.n_len OF (aO (dv 1) aN)) (aT bK)) ag))))
   case' Q=>refine' ao ?W ?X
   case W=>exact(kD (i:=10) gA.nd rfl VG (cZ ag))
   case' X=>refine' ao ?Y ?Z
   case Y=>
    refine' rQ Pg rfl rfl T.n_range (aa (PE.imp (aS bG rfl T.n_len OF (i8 (dw 8) aN)) (aT bK)) ag) ?a aV ?b
    case a=>exact(aR (i:=11) gA.nd rfl VG)
    case' b=>refine' ao ?c ?d
    case c=>
     refine' bj (i:=12) gA.nd rfl VG ?e (hs:=jT)
     case e=>exact(ar G_s hr T.F_s (aa (ar G_k hr T.F_k (aa (ar G_j hr T.F_j (aa (dv 0) (aa (aZ cA bX af (dv 11)) ag))) ag)) (aa (d9 bT ck (dw 8) (df (dv 11))) (aa (dv 6) (aa (dv 7) (aa (dv 4) ag))))))
    case' d=>refine' ao ?f ?g
    case f=>
     refine' aM ?h ?i aL
     case h=>exact(PW.pt (cj (bQ (dv 5)) (cw (aG (cq hr) cu (d9 bT ck (dw 8) (df (dv 11))) aJ (aB _)))))
     case' i=>refine' ao ?j ?k
     case j=>
      refine' bj (i:=13) gA.nd rfl VG ?l (hs:=my)
      case l=>exact(aZ cA bX (aZ g6 dA (ax bT ck (fe (cZ (aa af (aa af ag)))) (dv 4)) (dv 11)) (aZ gH dA (ax aC aD (dv 12) af) af))
     case' k=>refine' ai ?m
     case' m=>refine' bj (i:=12) gA.nd rfl VG ?n (hs:=IV)
     case' n=>refine' bg ?o
     case' o=>refine' aa aJ ?p
     case' p=>refine' aa (dv 13) ?q
     case' q=>refine' aa ?r ?s
     case r=>exact(ax bT ck (dv 6) (dv 11))
     case' s=>refine' aa ?t ?u
     case t=>exact(ax aC aD (dv 12) af)
     case' u=>refine' aa ?v ag
     case v=>exact(PE.imp (fP jC rfl T.n_tuple d7 (aO (fe (jK (df (dv 6)) (dB (PE.imp (aS (vt rfl) rfl T.n_max TH (aO af (aO (aZ g5 bX (dv 11) af) aN))) (aT xS))) (dB (dv 11)))) aN)) (aT jL))
    case' g=>refine' ai ?w
    case' w=>refine' aM ?x ?y aL
    case x=>exact(cM (bQ (PE.imp (aS (rJ rfl) rfl T.n_any rK (aO (fe (g9 rfl DM (dw 10) aV cI VC (λ_ _ _ _=>(aR (i:=0) DM.nd rfl VG)) (λ_ _ _ _=>fC) (λ_ _ _ _=>(ar G_t hr T.F_t (aa (dv 0) (aa (dv 1) ag)))))) aN)) (aT jM))))
    case' y=>refine' ai ?z
    case z=>exact(KI (i:=10) (pv 10) (ar G_l hr T.F_l (aa (dv 3) (aa (aZ cA bX (PE.imp (aS bG rfl T.n_len OF (i8 (dw 10) aN)) (aT bK)) af) ag))) (dv 12))
   case' Z=>refine' ai ?A0
   case A0=>exact(ay (bg (aa (PE.imp (fP jC rfl T.n_tuple d7 (i8 (dw 10) aN)) (aT jL)) (aa (dv 6) (aa (dv 4) ag)))))
  case B=>
  clear hr T G_l G_k G_j G_m G_s G_t;walk_at "a";refine⟨cs,0,rfl,VC,VC,λc=>⟨c,rfl,2,rfl,VC,VC,λfar f0 f1=>⟨8,rfl,VC,VC,λch c0 c1=>⟨iG,rfl,λns nl nok nnd=>⟨2,rfl,VC,VC,λkk kk0 kk1=>⟨_,rfl,_,rfl,5,rfl,VC,VC,λpc p0 p1=>⟨_,rfl,VD,VD,8,rfl,VC,VC,λe e0 e1=>⟨iG,?_⟩⟩⟩⟩⟩⟩⟩⟩;have hz:∃z:Int,atI [Ou 14,Ou (2*14)] (if (Ou e).eqv (Ou 3)=true then 1 else 0)=some (.int z)/\0 < z/\z<=28:=by
   split
   ·exact⟨_,eN,VC,VC⟩
   ·exact⟨_,dM,VC,VC⟩
  obtain⟨z2,ez2,z20,z21⟩:=hz;refine⟨_,ez2,z2,rfl,z20,VD,λj j0 j1=>⟨j,rfl,VD,VD,?_⟩⟩;obtain⟨ks,ek,dr⟩:∃ks:List Str,bY (O8 Ol ns) none (some (2+kk))=ks.map Ol/\uD ns ks far:=by
   refine⟨ns.take (2+kk).toNat,by rw [jN VD (by simp;omega),<-Ri],nl,nok,nnd,by rw [Pn];omega,by rw [Pn];omega,λz hz=>nok z (PQ hz),f0,VD⟩
  rw [ek];have er:(OQ (1+pc).toNat [Ol (Oh "paper")]).flatten=(OQ (1+pc).toNat (Oh "paper")).map Ol:=by
   rw [List.flatten_replicate_singleton,List.map_replicate]
  rw [er];generalize (Ou ch).eqv (Ou 5)=cb;have n0:1<=(1+pc).toNat:=VD
  have n1:(1+pc).toNat<=5:=VD
  generalize (1+pc).toNat=n at n0 n1⊢;refine⟨λi δ=>∃(ms:List Str)(o9:Option Sl),ms.length=i/\(∀m∈ms,m∈j3)/\δ=[some (Sl.v (fy (O8 Ou cs))),some (Sl.v (PL (O8 Ol j3))),some (Sl.v (Ou 14)),some (Sl.v fS),some (Sl.v (.int far)),some (Sl.v (.bool cb)),some (Sl.v (.list (ns.map .str))),some (Sl.v (.list (ks.map .str))),some (Sl.o ((OQ n (Oh "paper")++ms).map Ol)),o9,none,none,none,none],⟨[],_,rfl,VH,by rw [Po]⟩,?_,?_⟩
  ·rintro i x δ hx ⟨ms,o9,hl,hm,rfl⟩;obtain⟨hi,rfl⟩:=i9 hx;walk_at "a";have ml:j3.length=8:=rfl;refine⟨_,rfl,by rw [Oi];omega,by rw [Oi];omega,λv v0 v1=>⟨_,rfl,?_⟩⟩;rw [Oi] at v1;obtain⟨m,hm1,em⟩:=iS v0 v1;refine⟨_,em,by rw [Oi,O4,QF];omega,ms++[m],by simp [hl],λz hz=>?_,?_⟩
   ·rcases OJ.mp hz with h | h
    ·exact hm z h
    ·rw [ON] at h;rw [h];exact hm1
   ·refine⟨?_,_,rfl⟩;rw [<-Qv,O9 (l₂:=[m])];rfl
  ·rintro δ ⟨ms,o9,hl,hm,rfl⟩;rw [kJ] at hl;have wl:(OQ n (Oh "paper")++ms).length<=32:=by rw [O4,QF];omega
   have wm:∀w∈OQ n (Oh "paper")++ms,w∈mW:=λw hw=>by
    rcases OJ.mp hw with h | h
    ·rw [(List.mem_replicate.mp h).2];exact O3
    ·exact MU (hm w h)
   have w00:(OQ n (Oh "paper")++ms)[0]?=some (Oh "paper"):=by
    obtain⟨m,rfl⟩:∃m,n=m+1:=⟨n - 1,VD⟩;rfl
   have w0:1<=(OQ n (Oh "paper")++ms).length:=by rw [O4,QF];omega
   have wp:∀k:Nat,(OQ n (Oh "paper")++ms)[k]?=some (Oh "paper")->k < 5:=λk hk=>by
    by_cases h:k < n
    ·omega
    ·rw [Qj (by rw [QF];omega)] at hk;have hm5:=hm _ (OH hk);exact absurd hm5 Ce
   generalize OQ n (Oh "paper")++ms=ws at wl w0 w00 wm wp⊢;walk_at "a";rw [Oi];refine⟨VD,VD,?_⟩;refine⟨λi δ=>∃(xs:List De)(o11 o12 o13:Option Sl),(∀x∈xs,gT x)/\(xs.Pairwise λx y=>dh x.enc y.enc=false)/\xs.length<=i/\(0 < i->∃p,De.pap p∈xs)/\δ=[some (Sl.v (fy (O8 Ou cs))),some (Sl.v (PL (O8 Ol j3))),some (Sl.v (Ou 14)),some (Sl.v fS),some (Sl.v (.int far)),some (Sl.v (.bool cb)),some (Sl.v (.list (ns.map .str))),some (Sl.v (.list (ks.map .str))),some (Sl.o (ws.map Ol)),o9,some (Sl.o (xs.map De.enc)),o11,o12,o13],⟨[],_,_,_,VH,.nil,VH,VH,rfl⟩,?_,?_⟩
   ·rintro i x δ hx ⟨xs,o11,o12,o13,xg,xq,xl,x0,rfl⟩;obtain⟨hi,rfl⟩:=i9 hx;walk_at "a";have hi:i < ws.length:=VD
    have hw:ws[i]?=some ws[i]:=Oy.mpr ⟨hi,rfl⟩;have aw:atI (O8 Ol ws) (0+(i:Int))=some (.str ws[i]):=by rw [Vl];exact dG (by simp [hi])
    have wo:=wm _ (PB hi);generalize ws[i]=wi at hw aw wo;have tail:∀(y:De)(o:Option Sl),gT y->(i=0->∃p,y= .pap p)->((O8 De.enc xs).length<=16777216/\fA (lW 0) jJ (iD DL (fT (cC 0) (fT (cC 1) jF))) [none,some (Sl.v y.enc)] (O8 De.enc xs) λds=>∃bs,ds=O8 Ql bs/\
     if bs.any id=false then rS [fS,Ou (((O8 De.enc xs).length:Int)+1)] λa=>∃n:Nat,a=Ou (n:Int)/\n<=(O8 De.enc xs).length/\(O8 De.enc xs).length < 1000000/\∃xs_1:List De,(∀x∈xs_1,gT x)/\Vd (λx y=>dh x.enc y.enc=false) xs_1/\xs_1.length<=i+1/\(0 < i+1->∃p,De.pap p∈xs_1)/\eT (O8 De.enc xs) n y.enc=O8 De.enc xs_1/\∃x,o=x
     else ∃xs_1:List De,(∀x∈xs_1,gT x)/\Vd (λx y=>dh x.enc y.enc=false) xs_1/\xs_1.length<=i+1/\(0 < i+1->∃p,De.pap p∈xs_1)/\O8 De.enc xs=O8 De.enc xs_1/\∃x,o=x):=λy o gy y0=>by
     refine⟨by rw [Oi];omega,λk acc=>acc=((xs.take k).map λx=>dh x.enc y.enc).map Ql,VH,?_,?_⟩
     ·rintro k x acc hk rfl;rw [OD] at hk;cases hk':xs[k]? with
      | none=>rw [hk'] at hk;cases hk
      | some x=>
       rw [hk'] at hk;cases hk;walk_at "a";refine⟨x,y,rfl,xg x (OH hk'),gy,?_⟩;rw [Qa,hk'];simp
     ·rintro acc rfl;rw [Oi,Pd (Ot _)];refine⟨_,rfl,?_⟩;split
      ·rename_i h;have h:∀x∈xs,dh x.enc y.enc=false:=λx hx=>by
        rw [RL,R0] at h;simpa using h x hx
       refine⟨_,rfl,VD,VD,λv v0 v1=>?_⟩;obtain⟨n,rfl⟩:=P8 v0;refine⟨n,rfl,VD,VD,eT xs n y,λx hx=>?_,?_,by rw [Cc];omega,(λ_=>by
        have im:∀z,z∈eT xs n y↔z=y\/z∈xs:=λz=>by rw [(pf xs n y).mem_iff,Ox]
        by_cases i0:i=0
        ·obtain⟨p,rfl⟩:=y0 i0;exact⟨p,(im _).mpr (.inl rfl)⟩
        ·obtain⟨p,hp⟩:=x0 VD;exact⟨p,(im _).mpr (.inr hp)⟩),(KC _ _ _ _).symm,_,rfl⟩
       ·rcases Ox.mp ((pf xs n y).mem_iff.mp hx) with e | e
        ·rw [e];exact gy
        ·exact xg x e
       ·exact(Tt (λ{a b} h=>by rw [uH];exact h) (pf xs n y)).mpr (Pq.mpr ⟨λx hx=>by rw [uH];exact h x hx,xq⟩)
      ·rename_i h;refine⟨xs,xg,xq,VD,(λ_=>by
        by_cases i0:i=0
        ·exact absurd (show _=false by rw [RT.mp (show xs.length=0 by omega)];rfl) h
        ·exact x0 VD),rfl,_,rfl⟩
    refine⟨cs,_,rfl,VD,VD,λc=>⟨c,rfl,_,aw,wi,ns,ks,far,rfl,wo,dr,λy gy yp=>?_⟩⟩;have yp0:i=0->∃p,y= .pap p:=λe=>yp (by subst e;rw [w00] at hw;cases hw;rfl);split
    ·refine⟨_,aw,rfl,?_⟩;rw [gN];split
     ·rename_i hp;have hp:=eq_of_beq hp;obtain⟨p,rfl⟩:=yp hp;have i5:=wp i (by rw [hw,hp]);have hf:∃z:Int,atI [Ou 5,Ou 9000] far=some (.int z)/\0<=z/\z<=9000:=by
       have:far=0\/far=1:=VD
       rcases this with h | h <;> rw [h]
       ·exact⟨5,rfl,VC,VC⟩
       ·exact⟨9000,rfl,VC,VC⟩
      obtain⟨z,ez,z0,z1⟩:=hf;obtain⟨nm,hn,en⟩:=iS (ss:=ns) (i:=0+(i:Int)) VD VD;refine⟨_,ez,_,rfl,.inr ⟨VD,VD⟩,_,rfl,_,eN,_,rfl,_,en,_,rfl,_,l5,?_⟩;obtain⟨ms,em,hm,ml,msub⟩:=MR (ns:=ns) (some (if 0+(i:Int) - 1 > 0 then 0+(i:Int) - 1 else 0)) (some (0+(i:Int)));have m1:ms.length<=1:=by
       have:=congrArg Vp em;rw [Oi] at this;rw [<-this];exact MS (by rw [Oi];omega)
      rw [em];have pk:Nm p.kd:=by
       have:=gy.dv;exact MT this
      have zi:0<=z*(0+(i:Int))/\z*(0+(i:Int))<=45000:=by
       have h11:i<=5:=VD
       have a:=Int.mul_le_mul z1 (show(0+(i:Int))<=5 by omega) VD VC;exact⟨Int.mul_nonneg z0 VD,VD⟩
      refine tail (.pap ⟨z*(0+(i:Int))+p.d % 5,nm,p.kd,ms⟩) _ ⟨.paper ⟨?_,?_⟩ (nok nm hn) pk ⟨OZ m1 VC,λm h=>nok m (hm m h),?_⟩,λ_ _ _ _ e=>by cases e⟩ λ_=>⟨_,rfl⟩
      ·show 0<=z*(0+(i:Int))+p.d % 5;omega
      ·show z*(0+(i:Int))+p.d % 5<=99999;omega
      ·match ms,m1 with
       | [],_=>exact .nil
       | [a],_=>exact Ti _ _
       | a::b::l,h=>simp at h
     ·exact tail y _ gy yp0
    ·exact tail y _ gy yp0
   ·rintro δ ⟨xs,o11,o12,o13,xg,xq,xl,x0,rfl⟩;rw [kJ] at xl x0;walk_at "a";exact q xs ns far ⟨xg,xq,VD⟩ (λe=>by
     obtain⟨p,hp⟩:=x0 VD;have:=mT.mpr hp;rw [e] at this;cases this) nl nok nnd
end
theorem DN:bt (aA pH) ["thing"] ["deed"] 1 [] ⟨OE,[ (Oj ".0",Xy),(Oj "deed",Xy),(Oj "is_deed",OT)],false,false,[]⟩:= .of
section
variable {P:VW} {w:VZ} {K:Og} {mg:Str->Option VJ} {base:VY} {t:cz}
theorem De.deed{x:De}(g:gT x):p5 x.enc:=by
 obtain⟨r,e⟩:=x.encE;exact⟨_,_,_,_,e,g.dv.shp⟩
def MX:List VI->(VI->Prop)->Prop:=λds Q=>∃xs:List De,ds=[.tuple (xs.map De.enc)]/\cG xs/\Q (.bool true)
theorem DP(T:Txt K mg t):aF P w K mg base aK 6 t.a_c t.d_c ["thing"] (aQ K MX):=by
 have G_Z:=@Me P w _ _ base _ T;have G_b:=@Ms P w _ _ base _ T;refine T.F_c.F.okD LQ (λds Q h=>?_) (λ_ _ _ _ H O ds Q E hr h=>?_)
 ·obtain⟨xs,rfl,_⟩:=h;rfl
 ·obtain⟨xs,rfl,g,q⟩:=h;refine'⟨_,?A,?B⟩
  case A=>
   refine' ai ?C
   case' C=>refine' ay ?D
   case D=>exact(cx (fJ (K':=K) (T:="tuple") rfl rfl T.n_isinstance d6 (df (dv 0)) (eX (v:= .ty "tuple") rfl T.n_tuple d7 rfl)) (cx (PE.imp (aS (n4 rfl) rfl T.n_all n5 (aO (fe (kH rfl DN (df (dv 0)) aV cI VC (λ_ _ _ _=>(aR (i:=0) DN.nd rfl VG)) (λ_ _ _ _=>fC) (λ_ _ _ _=>(ar G_Z hr T.F_Z (aa (dv 0) ag))))) aN)) (aT jM)) (cU (ar G_b hr T.F_b (aa (dv 0) ag)))))
  case B=>
  clear hr T G_Z G_b;walk_at "a";simp only [jd];walk_at "a";simp only [fE];walk_at "a";refine⟨λ_=>trivial,by rw [Oi];have:=g.l;omega,λi acc=>∃bs:List Bool,acc=bs.map Ql/\bs.all id=true,⟨[],rfl,rfl⟩,?_,?_⟩
  ·rintro i z acc hz ⟨bs,rfl,hb⟩;rw [OD] at hz;cases hz':xs[i]? with
   | none=>rw [hz'] at hz;cases hz
   | some x=>
    rw [hz'] at hz;cases hz;have dv:=(g.e x (OH hz')).dv;walk_at "a";refine⟨_,rfl,dv.thg,?_⟩;exact⟨bs++[true],by rw [dv.is,O9];rfl,by simp [hb]⟩
  ·rintro acc ⟨bs,rfl,hb⟩;refine⟨_,rfl,?_⟩;rw [VF hb];refine⟨_,rfl,λd hd=>?_,by rw [Oi];have:=g.l;omega,?_⟩
   ·obtain⟨x,hx,rfl⟩:=Ow.mp hd;exact De.deed (g.e x hx)
   ·rw [decide_eq_true (Qf.mpr g.q)];exact q
theorem DQ{d:VI}{z:Str}(h:Om d (.str z)=true):d= .str z:=by
 cases d <;> simp [Om] at h;rw [h]
theorem DR{d:VI}{z:Str}(h:Om (.str z) d=true):d= .str z:=by
 cases d <;> simp [Om] at h;rw [h]
def ft(ps:List Pp):Pp->List VI->Bool
 | _,[]=>true
 | c,e::es=>match (bM ps c).find? λm=>Om (.str m.nm) e with
  | some m=>ft ps m es
  | none=>false
def eF(ps:List Pp)(c:Pp):VI->Bool
 | .tuple (e::es)=>Om e (.str c.nm) && ft ps c es
 | _=>false
def MY:List VI->(VI->Prop)->Prop:=λds Q=>∃(xs:List De)(c:Pp)(d:VI),ds=[.tuple (xs.map De.enc),.str c.nm,d]/\cW xs/\c∈ah xs/\thg d=true/\(∀es,d= .tuple es->es.length<=1000)/\Q (.bool (eF (ah xs) c d))
theorem DU(T:Txt K mg t):aF P w K mg base aK 7 t.a_e t.d_e ["deeds","paper","thing"] (aQ K MY):=by
 have G_H:=@pZ P w _ _ base _ T;refine T.F_e.F.okD CN (λds Q h=>?_) (λ_ _ _ _ H O ds Q E hr h=>?_)
 ·obtain⟨xs,c,d,rfl,_⟩:=h;rfl
 ·obtain⟨xs,c,d,rfl,g,hc,hd,hl,q⟩:=h;refine'⟨_,?A,?B⟩
  case A=>
   refine' ao ?C ?D
   case C=>
    refine' aM ?E ?F aL
    case E=>exact(PW.pt (cS (cM (bQ (fJ (K':=K) (T:="tuple") rfl rfl T.n_isinstance d6 (df (dv 2)) (eX (v:= .ty "tuple") rfl T.n_tuple d7 rfl)))) (dH (aG (K3 hr) K4 (kM (df (dv 2)) fB (dB af)) (bg (aa (dv 1) ag)) (aB _)))))
    case F=>refine' ai (ay bH)
   case' D=>refine' ao ?G ?H
   case G=>
    refine' xw Pg rfl rfl T.n_range (aa af (aa (PE.imp (aS bG rfl T.n_len OF (aO (dv 2) aN)) (aT bK)) ag)) ?I aV ?J
    case I=>exact(aR (i:=3) CN.nd rfl VG)
    case' J=>refine' ai ?K
    case' K=>refine' aM ?L ?M aL
    case L=>exact(aG (K5 hr) K6 (ax aC aD (dv 2) (dv 3)) (ar G_H hr T.F_H (aa (dv 0) (aa (ax aC aD (dv 2) (aZ g5 bX (dv 3) af)) ag))) rfl)
    case M=>refine' ai (ay bH)
   case H=>refine' ai (ay bH)
  case B=>
  clear hr T G_H;walk_at "a";simp only [jd];walk_at "a";refine⟨jQ hd,?_⟩;cases d with
  | tuple l=>
   simp only [fE];walk_at "a";have ht:∀e∈l,thg e=true:=λe he=>oR hd he;have ll:=hl l rfl;unfold Cn;refine⟨bY l none (some 1),c.nm,rfl,λd hd=>hX (ht d ?_),rfl,_,rfl,?_⟩
   ·unfold bY at hd;exact RB (PQ hd)
   ·cases l with
    | nil=>exact q
    | cons e es=>
     have ec:bY (e::es) none (some 1)=[e]:=by
      rw [jN VC (by simp only [OG];omega)];rfl
     have ev:Om (.tuple [e]) (.tuple [.str c.nm])=Om e (.str c.nm):=by simp [Om,Pu]
     rw [ec,ev];have qd:eF (ah xs) c (.tuple (e::es))=(Om e (.str c.nm) && ft (ah xs) c es):=rfl;rw [qd] at q;cases hev:Om e (.str c.nm) with
     | false=>rw [hev] at q;exact q
     | true=>
      rw [hev,PD] at q;rw [VE VH];have ee:=DQ hev;subst ee;refine⟨VD,VD,?_⟩;rw [OG] at ll;refine⟨λi δ=>∃(ci:Pp)(o:Option Sl),ci∈ah xs/\ft (ah xs) c es=ft (ah xs) ci (es.drop i)/\(Ol c.nm::es)[i]?=some (.str ci.nm)/\δ=[some (Sl.v (Oz (O8 De.enc xs))),some (Sl.v (Ol c.nm)),some (Sl.v (Oz (Ol c.nm::es))),o],⟨c,_,hc,rfl,rfl,rfl⟩,?_,?_⟩
      ·rintro i z δ hz ⟨ci,o,ci1,ci2,ci3,rfl⟩;obtain⟨hi,rfl⟩:=i9 hz;walk_at "a";rw [OG] at hi;have hi':i < es.length:=VD
       have he:es[i]?=some es[i]:=OS hi';have a1:atI (Ol c.nm::es) (1+(i:Int))=some es[i]:=by
        rw [show(1+(i:Int))=((i+1:Nat):Int) by omega];exact dG he
       have a2:atI (Ol c.nm::es) (1+(i:Int) - 1)=some (.str ci.nm):=by
        rw [show(1+(i:Int) - 1)=(i:Int) by omega];exact dG ci3
       have hm:es[i]∈Ol c.nm::es:=OR _ (PB hi');have dr:es.drop i=es[i]::es.drop (i+1):=Q9 hi';rw [dr] at ci2;generalize es[i]=ei at a1 he hm ci2;refine⟨_,a1,_,a2,xs,ci,rfl,g,ci1,?_⟩;unfold Cp;refine⟨_,rfl,hX (ht _ hm),_,rfl,?_⟩;rw [RL];have wd:ft (ah xs) ci (ei::es.drop (i+1))=match (bM (ah xs) ci).find? λm=>Om (.str m.nm) ei with
        | some m=>ft (ah xs) m (es.drop (i+1))
        | none=>false:=rfl
       rw [wd] at ci2;cases hf:(bM (ah xs) ci).find? λm=>Om (.str m.nm) ei with
       | none=>
        rw [hf] at ci2;rw [ci2] at q;have na:(bM (ah xs) ci).any ((λz=>Om (.str z) ei)∘ λx=>x.nm)=false:=by
         rw [R0];intro m hm';exact PJ.mp hf m hm'
        rw [na];exact q
       | some m=>
        rw [hf] at ci2;have mm:=Pt hf;have me:=Qr hf;have ya:(bM (ah xs) ci).any ((λz=>Om (.str z) ei)∘ λx=>x.nm)=true:=PX.mpr ⟨m,mm,me⟩;rw [ya];exact⟨m,((gB ci1).mp mm).1,ci2,by rw [he,DR me],_,rfl⟩
      ·rintro δ ⟨ci,o,ci1,ci2,ci3,rfl⟩;rw [kJ] at ci2;rw [R5 (by rw [OG];omega)] at ci2;walk_at "a";rw [ci2] at q;exact q
  | _=>simpa [fE,eF] using q
theorem kU:∀{a b:List Str},a.map Ol=b.map Ol->a=b
 | [],[],_=>rfl
 | [],_::_,h=>by simp at h
 | _::_,[],h=>by simp at h
 | x::a,y::b,h=>by
  rw [Ov,Ov,PH,Qi] at h;rw [h.1,kU h.2]
theorem DV{p:Pp}(h:dE p.enc):Nm p.nm/\Nm p.kd/\mw p.ms:=by
 unfold Pp.enc at h;generalize hd:Oz [.str (Oh "paper"),.int p.d,.str p.nm,.str p.kd,.tuple (p.ms.map .str)]=d at h;cases h with
 | paper _ hx hk hm=>
  simp only [Qu,PH,Qi,RA] at hd;rw [hd.2.2.1,hd.2.2.2.1,kU hd.2.2.2.2.1];exact⟨hx,hk,hm⟩
 | _=>simp at hd
theorem gT.ws{x:De}(h:gT x):O5 x.w=true/\O5 x.nm=true:=by
 have s:=h.dv.shp;obtain⟨r,e⟩:=x.encE;rw [e] at s;exact⟨cP.mp (hJ s _ VH),cP.mp (hJ s _ VH)⟩
theorem MZ{p q:Pp}(h:dh p.enc q.enc=false):p.nm≠q.nm:=λe=>by
 have qd:dh p.enc q.enc=(Om p.enc q.enc || (p.nm==q.nm && ((Oh "paper"==("paper":Str) && Oh "paper"==("paper":Str)) || (Oh "paper"==("leave":Str) && Oh "paper"==("leave":Str)) || (p.d==q.d && ((bC (Oh "paper") "rule" "end" && bC (Oh "paper") "rule" "end") || (bC (Oh "paper") "hold" "lift" && bC (Oh "paper") "hold" "lift")))))):=rfl;rw [qd,e,beq_self_eq_true,PD,show(Oh "paper"==("paper":Str))=true from beq_self_eq_true _] at h;simp at h
theorem cG.good{xs:List De}(h:cG xs):cW xs:=by
 obtain⟨h1,h2,h3⟩:=h;have pm:∀p∈ah xs,De.pap p∈xs:=λp hp=>mT.mp hp;have pv:∀p∈ah xs,Nm p.nm/\Nm p.kd/\mw p.ms:=λp hp=>DV (h1 _ (pm p hp)).dv;refine⟨⟨?_,?_,λp hp=>(pv p hp).1.ok,λp hp=>(pv p hp).2.1.ok,λp hp=>⟨λm hm=>((pv p hp).2.2.nm m hm).ok,OZ (pv p hp).2.2.len VC⟩⟩,λw d nm r hx=>(h1 _ hx).np _ _ _ _ rfl,VD,λx hx=>(h1 x hx).ws.1,λx hx=>(h1 x hx).ws.2⟩
 ·exact OZ (List.length_filterMap_le _ _) VD
 ·unfold ah;rw [Si,Qf,List.pairwise_filterMap];refine h2.imp λ{a b} h p hp r hr=>?_;cases a with
  | oth w d nm r=>simp [De.pp] at hp
  | pap a=>
   cases b with
   | oth w d nm r=>simp [De.pp] at hr
   | pap b=>
    simp only [De.pp,RZ] at hp hr;subst hp hr;exact MZ h
theorem cG.perm{xs ys:List De}(g:cG xs)(h:ys.Perm xs):cG ys:=
 ⟨λx hx=>g.e x (h.mem_iff.mp hx),(Tt (λ{a b} h=>by rw [uH];exact h) h).mpr g.q,by rw [h.length_eq];exact g.l⟩
theorem M3(l:List VI)(e:VI):atI (l++[e]) (-1)=some e:=L2.atI_last l e
def p9(o:Str)(l:List VI):Bool:=match l.getLast? with
 | some e=>Om e (.str o)
 | none=>false
def iT(ps:List Pp)(nm o:Str)(d:VI):Bool:=match ps.find? λp=>p.nm==nm with
 | none=>false
 | some c=>eF ps c d && match d with
  | .tuple l=>decide (1 < l.length) && p9 o l
  | _=>false
def mX(d:VI):Prop:=thg d=true/\∀es,d= .tuple es->es.length<=1000
def M4:List VI->(VI->Prop)->Prop:=λds Q=>∃(xs:List De)(nm o:Str)(d:VI),ds=[.tuple (xs.map De.enc),.str nm,.str o,d]/\cW xs/\O5 nm=true/\mX d/\Q (.bool (iT (ah xs) nm o d))
theorem DW(T:Txt K mg t):aF P w K mg base aK 8 t.a_f t.d_f ["deeds","paper","other","grounds"] (aQ K M4):=by
 have G_F:=@lr P w _ _ base _ T;have G_e:=@DU P w _ _ base _ T;refine T.F_f.F.okD LS (λds Q h=>?_) (λ_ _ _ _ H O ds Q E hr h=>?_)
 ·obtain⟨xs,nm,o,d,rfl,_⟩:=h;rfl
 ·obtain⟨xs,nm,o,d,rfl,g,hn,hd,q⟩:=h;refine'⟨_,?A,?B⟩
  case A=>
   refine' ao ?C ?D
   case C=>
    refine' aM ?E ?F aL
    case E=>exact(PW.pt (cS (aG (jc hr) fD (dv 1) (ar G_F hr T.F_F (aa (dv 0) ag)) rfl) (dH (cM (bQ (ar G_e hr T.F_e (aa (dv 0) (aa (dv 1) (aa (dv 3) ag)))))))))
    case F=>refine' ai (ay bH)
   case' D=>refine' ai ?G
   case' G=>refine' ay ?H
   case H=>exact(cx (b7 qS dJ (df (PE.imp (aS bG rfl T.n_len OF (aO (dv 3) aN)) (aT bK))) (df af) (aB _)) (cU (b7 (cq hr) cu (df (ax aC aD (dv 3) (sJ af))) (df (dv 2)) (aB _))))
  case B=>
  clear hr T G_F G_e;walk_at "a";have cl:Pj (((cF (ah xs)).map (·.nm)).map .str)=true:=jZ λm hm=>by
   obtain⟨p,hp,rfl⟩:=Ow.mp hm;exact g.gp.nm p (eV.mp hp)
  refine⟨xs,rfl,g,_,.inr rfl,cP.mpr hn,cl,?_⟩;rw [iR];unfold iT at q;cases hf:(ah xs).find? λp=>p.nm==nm with
  | none=>
   rw [hf] at q;rw [VF (by
    rw [Qo];intro z;obtain⟨p,hp,e⟩:=Ow.mp (P4.mp z);exact absurd (beq_iff_eq.mpr e) (by simpa using PJ.mp hf p (eV.mp hp)))]
   exact q
  | some c=>
   rw [hf] at q;have hc:=Pt hf;have he:c.nm=nm:=beq_iff_eq.mp (by simpa using Qr hf);rw [VE (by
    rw [UH];exact P4.mpr (Ow.mpr ⟨c,eV.mpr hc,he⟩))]
   refine⟨xs,c,d,by rw [he],g,hc,hd.1,hd.2,_,rfl,?_⟩;dsimp only at q;cases hw:eF (ah xs) c d with
   | false=>rw [hw] at q;exact q
   | true=>
    rw [hw,PD] at q;rw [VE VH];cases d with
    | tuple l=>
     dsimp only at q;refine⟨l,.inr rfl,?_⟩;by_cases hl:1 < l.length
     ·rw [VF VD];rw [decide_eq_true hl,PD] at q;obtain⟨l',e,rfl⟩:∃(l':List VI)(e:VI),l=l'++[e]:=by
       refine⟨l.dropLast,l.getLast (by intro z;rw [z] at hl;simp at hl),(Sr _).symm⟩
      refine⟨_,rfl,e,M3 l' e,hX (oR hd.1 VH),?_⟩;unfold p9 at q;rw [TV] at q;exact q
     ·rw [VE VD];rw [decide_eq_false hl,Rq] at q;exact q
    | _=>simp [eF] at hw
def DY:List VI->(VI->Prop)->Prop:=λds Q=>∃(xs:List De)(nm o:Str)(d:VI),ds=[.tuple [.str (Oh "made"),.tuple (xs.map De.enc),.str nm,.str o],d]/\cG xs/\O5 nm=true/\mX d/\Q (.bool (iT (ah xs) nm o d))
end
theorem DZ:bt (aA pA) ["deeds","words","day","found","deed","known"] ["name","found"] 1 [3] ⟨OE,[ (Oj ".0",Xy),(Oj "name",Xy),(Oj "found",OM)],false,false,[]⟩:= .of
section
variable {P:VW} {w:VZ} {K:Og} {mg:Str->Option VJ} {base:VY} {t:cz}
def F_K:List VI->(VI->Prop)->Prop:=λds Q=>∃(xs:List Rw)(ws:List Str)(n:Int),ds=[.tuple (xs.map Rw.enc),.tuple (ws.map .str),.int n]/\(∀x∈xs,O5 x.w=true)/\Pj (ws.map .str)=true/\xs.length < 64/\∀res,gu ws n xs res->Q (.list (res.map Rw.enc))
theorem M5{ws:List Str}{w:Str}:((ws.map Ol).any λd=>Om d (.str w))=decide (w∈ws):=by
 induction ws with
 | nil=>simp
 | cons a ws ih=>
  rw [Ov,QD,ih,gN];by_cases h:a=w
  ·simp [h]
  ·have h':(a==w)=false:=by simpa using h
   rw [h'];simp [Ne.symm h]
theorem M6(T:Txt K mg t):aF P w K mg base aK 1 t.a_K t.d_K ["deeds","words","day"] (aQ K F_K):=by
 refine T.F_K.F.okD pN (λds Q h=>?_) (λ_ _ _ _ H O ds Q E hr h=>?_)
 ·obtain⟨xs,ws,n,rfl,_⟩:=h;rfl
 ·obtain⟨xs,ws,n,rfl,hw,hws,h64,q⟩:=h;refine'⟨_,?A,?B⟩
  case A=>
   refine' ao ?C ?D
   case C=>exact(oU (i:=3) pN.nd rfl VG Jq)
   case' D=>refine' ao ?E ?F
   case E=>
    refine' fW Pg rfl (dv 0) ?G aV ?H
    case G=>exact(aR (i:=4) pN.nd rfl VG)
    case' H=>refine' ai ?I
    case' I=>refine' aM ?J ?K aL
    case J=>exact(PW.pt (cj (aG (mj hr) fD (ax aC aD (dv 4) af) (dv 1) rfl) (cw (aG jz dJ (ax aC aD (dv 4) af) (dv 2) (aB _)))))
    case' K=>refine' ao ?L ?M
    case L=>exact(bj (i:=5) pN.nd rfl VG (Bf (i:=3) hr.units (pv 3) (ax aC aD (dv 4) af) ⟨rfl,rfl,rfl,rfl⟩))
    case' M=>refine' ai ?N
    case' N=>refine' aM ?O ?P aL
    case O=>exact(PW.pt (cS (aG Fq JD (dv 5) iC (aB _)) (dH (aG iz dJ (ax aC aD (dv 5) af) (ax aC aD (dv 4) af) (aB _)))))
    case' P=>refine' ai ?Q
    case Q=>exact(Jr (i:=3) hr.units (pv 3) (ax aC aD (dv 4) af) (dv 4))
   case' F=>refine' ai ?R
   case' R=>refine' ay ?S
   case' S=>refine' fe ?T
   case T=>exact(g9 rfl DZ (df (fe (Jw (i:=3) rfl rfl T.n_sorted Rg (pv 3)))) aV cI VC (λ_ _ _ _=>(aR (i:=0) DZ.nd rfl VG)) (λ_ _ _ _=>fC) (λ_ _ _ _=>(oV (i:=1) hr.units (pv 1) (dv 0) (λ_ _=>rfl))))
  case B=>
  clear hr T;walk_at "a";refine⟨λi δ=>∃L o4 o5,eD ws n (xs.take i) L/\δ=[some (Sl.v (.tuple (xs.map Rw.enc))),some (Sl.v (.tuple (ws.map .str))),some (Sl.v (.int n)),some (Sl.k (gr L)),o4,o5],⟨[],_,_,eD.nil _ _,rfl⟩,?_,?_⟩
  ·rintro i x δ hx ⟨L,o4,o5,hL,rfl⟩;rw [OD] at hx;cases hx':xs[i]? with
   | none=>rw [hx'] at hx;cases hx
   | some y=>
    rw [hx'] at hx;cases hx;have hy:y∈xs:=OH hx';have tk:xs.take (i+1)=xs.take i++[y]:=by rw [Qa,hx'];rfl
    simp only [Rw.enc];walk_at "a";have hle:L.length < 64:=by have:=hL.le;rw [Pn] at this;omega
    have hk:(gr L).length < 16777216:=by unfold gr;rw [Oi];omega
    have en:Oz (Ol y.w::Ou y.n::Ol y.nm::y.r)=y.enc:=rfl;refine⟨cP.mpr (hw y hy),hws,?_⟩;rw [M5];by_cases hin:y.w∈ws
    ·rw [VF (decide_eq_true hin)];by_cases hn:y.n<=n
     ·rw [VF hn,sN,en];cases hl:dP L y.nm with
      | none=>
       rw [VF (show iN ((Option.map Rw.enc none).getD QW)=true from rfl)];exact⟨hk,_,by rw [tk];exact hL.put ⟨hin,hn⟩ (λz e=>by rw [hl] at e;cases e),Bm L y.nm y,_,rfl⟩
      | some z=>
       rw [VE (by simp [iN,Rw.enc])];refine⟨_,rfl,_,eN,_,rfl,?_⟩;split
       ·rename_i hlt;exact⟨hk,_,by rw [tk];exact hL.put ⟨hin,hn⟩ (λz' e=>by rw [hl] at e;cases e;exact hlt),Bm L y.nm y,_,rfl⟩
       ·rename_i hlt;exact⟨L,by rw [tk];exact hL.keep hl hlt,rfl,_,rfl⟩
     ·rw [VE hn];exact⟨L,by rw [tk];exact hL.skip (λz=>hn z.2),rfl,_,rfl⟩
    ·rw [VE (by simpa using hin)];exact⟨L,by rw [tk];exact hL.skip (λz=>hin z.1),rfl,_,rfl⟩
  ·rintro δ ⟨L,o4,o5,hL,rfl⟩;walk_at "a";rw [Oi,Pd (Ot _)] at hL;have hle:L.length < 64:=by have:=hL.le;omega
   refine⟨L.map (·.1),by unfold gr;rw [Pl,Pl];rfl,by rw [Oi];exact hle,by rw [Oi,(fX _).length_eq,Oi];omega,?_⟩;refine sC (λx=>match x with | .str nm=>((dP L nm).map Rw.enc).getD .none | _=>.none) (λx hx R hR=>?_) ?_
   ·obtain⟨nm,hnm,rfl⟩:=Ow.mp hx;obtain⟨z,hz⟩:=sO ((fX _).mem_iff.mp hnm);walk_at "a";refine⟨z.enc,by rw [sN,hz];rfl,?_⟩;have hR:R (((dP L nm).map Rw.enc).getD .none):=hR;rw [hz] at hR;exact hR
   ·have e:∀l:List Str,(∀a∈l,a∈L.map (·.1))->(l.map Ol).map (λx=>match x with | .str nm=>((dP L nm).map Rw.enc).getD .none | _=>.none)=(l.filterMap (dP L)).map Rw.enc:=by
     intro l
     induction l with
     | nil=>intro _;rfl
     | cons a l ih=>
      intro hl;obtain⟨z,hz⟩:=sO (hl a VH);rw [Ov,Ov,Qy,hz,ih λb hb=>hl b (by simp [hb])];simp [hz]
    rw [e _ λa ha=>(fX _).mem_iff.mp ha];exact q _ hL.res
end
theorem D1:bt (aA pB) ["deeds","day"] ["deed"] 1 [] ⟨OE,[(Oj ".0",Xy),(Oj "deed",Xy)],false,false,[]⟩:= .of
section
variable {P:VW} {w:VZ} {K:Og} {mg:Str->Option VJ} {base:VY} {t:cz}
def De.rw:De->Rw
 | .pap p=>⟨Oh "paper",p.d,p.nm,[.str p.kd,.tuple (p.ms.map .str)]⟩
 | .oth w d nm r=>⟨w,d,nm,r⟩
theorem De.rw_enc(x:De):x.rw.enc=x.enc:=by cases x <;> rfl
theorem De.rw_w(x:De):x.rw.w=x.w:=by cases x <;> rfl
theorem De.rw_n(x:De):x.rw.n=x.d:=by cases x <;> rfl
theorem De.rw_nm(x:De):x.rw.nm=x.nm:=by cases x <;> rfl
theorem M7(xs:List De):(xs.map De.rw).map Rw.enc=xs.map De.enc:=by
 rw [Pl];congr 1;funext x;exact x.rw_enc
def D2(a b:Rw):Prop:=c9 a.nm b.nm=true/\a.nm≠b.nm
def Uq(ws:List Str)(n:Int)(xs:List Rw):Prop:=∀x∈xs,∀y∈xs,fH ws n x->fH ws n y->x.nm=y.nm->x.n=y.n->x=y
theorem qa{ws:List Str}{n:Int}{xs res:List Rw}(h:gu ws n xs res):res.Pairwise D2:=by
 have up:=h.up;have nd:=h.nd;rw [Qf] at up;rw [Si,Qf] at nd;exact up.and nd
theorem D3{ws:List Str}{n:Int}{xs r1 r2:List Rw}(u:Uq ws n xs)(h1:gu ws n xs r1)(h2:gu ws n xs r2)(x:Rw)(hx:x∈r1):x∈r2:=by
 obtain⟨a1,a2,a3⟩:=h1.it x hx;obtain⟨y,hy,yn⟩:=h2.al x a1 a2;obtain⟨b1,b2,b3⟩:=h2.it y hy;have e:x=y:=u x a1 y b1 a2 b2 yn.symm (Int.le_antisymm (b3 x a1 a2 yn.symm) (a3 y b1 b2 yn));rw [e];exact hy
theorem M8{ws:List Str}{n:Int}{xs r1 r2:List Rw}(u:Uq ws n xs)(h1:gu ws n xs r1)(h2:gu ws n xs r2):r1=r2:=
 pV (r:=D2) (λa b h z=>h.2 (AH h.1 z.1)) ((List.perm_ext_iff_of_nodup ((qa h1).imp λz e=>z.2 (by rw [e])) ((qa h2).imp λz e=>z.2 (by rw [e]))).mpr λx=>⟨D3 u h1 h2 x,D3 u h2 h1 x⟩) (qa h1) (qa h2)
open Classical in
def uI(ws:List Str)(n:Int)(xs:List Rw):List Rw:=if h:∃r,gu ws n xs r then h.choose else []
theorem M9{ws:List Str}{n:Int}{xs r:List Rw}(u:Uq ws n xs)(h:gu ws n xs r):r=uI ws n xs:=by
 unfold uI;have e:∃r,gu ws n xs r:=⟨r,h⟩;rw [dif_pos e];exact M8 u h e.choose_spec
def gC(ip:Bool)(tn:Str):VI:= .tuple [.str (if ip=true then Oh "paper" else Oh "kind"),.str tn]
structure Hd where
 nm:Str
 ip:Bool
 tn:Str
 dp:Bool
def Hd.enc(h:Hd):VI:= .tuple [.str h.nm,gC h.ip h.tn,.bool h.dp]
def ij:List Str:=["hold","lift"]
def mY:List VI->Bool×Str×Bool
 | [.tuple [.str a,.str b],.bool c]=>(a==Oh "paper",b,c)
 | _=>(false,Oh "",false)
def lA(x:Rw):Hd:=⟨x.nm,(mY x.r).1,(mY x.r).2.1,(mY x.r).2.2⟩
theorem D4{x:Rw}{ip dp:Bool}{tn:Str}(h:x.r=[gC ip tn,.bool dp]):lA x=⟨x.nm,ip,tn,dp⟩:=by
 unfold lA;rw [h];cases ip with
 | true=>simp [gC,mY]
 | false=>simp [gC,mY,dZ (show Oh "kind"≠Oh "paper" by decide+kernel)]
def jr(res:List Rw):List Hd:=(res.filter λx=>x.w==Oh "hold").map lA
def cH(xs:List De)(n:Int):List Hd:=jr (uI ij n (xs.map De.rw))
theorem Na{w:Str}(h:w∈ij):w=Oh "hold"\/w=Oh "lift":=by
 unfold ij at h;rcases Ox.mp h with e | h
 ·exact .inl e
 ·rcases Ox.mp h with e | h
  ·exact .inr e
  ·cases h
theorem D5{x y:De}(hx:x.w∈ij)(hy:y.w∈ij)(hd:x.d=y.d)(hn:x.nm=y.nm):dh x.enc y.enc=true:=by
 obtain⟨rx,ex⟩:=x.encE;obtain⟨ry,ey⟩:=y.encE;rw [ex,ey];show(Om _ _ || (x.nm==y.nm && ((x.w==("paper":Str) && y.w==("paper":Str)) || (x.w==("leave":Str) && y.w==("leave":Str)) || (x.d==y.d && ((bC x.w "rule" "end" && bC y.w "rule" "end") || (bC x.w "hold" "lift" && bC y.w "hold" "lift"))))))=true;have hw:∀{w:Str},w∈ij->bC w "hold" "lift"=true:=λ{w} h=>by
  rcases Na h with e | e <;> rw [e] <;> decide+kernel
 rw [hw hx,hw hy,hd,hn];simp
theorem uJ{α:Type}{r:α->α->Prop}:∀{l:List α},l.Pairwise r->∀x∈l,∀y∈l,x≠y->r x y\/r y x
 | a::l,h,x,hx,y,hy,ne=>by
  obtain⟨h1,h2⟩:=Pq.mp h;rcases Ox.mp hx with ex | hx1 <;> rcases Ox.mp hy with ey | hy1
  ·exact absurd (ex.trans ey.symm) ne
  ·rw [ex];exact .inl (h1 y hy1)
  ·rw [ey];exact .inr (h1 x hx1)
  ·exact uJ h2 x hx1 y hy1 ne
theorem Nb{xs:List De}{n:Int}(g:cG xs):Uq ij n (xs.map De.rw):=by
 intro x hx y hy ox oy e1 e2;obtain⟨a,ha,rfl⟩:=Ow.mp hx;obtain⟨b,hb,rfl⟩:=Ow.mp hy;have ow:=ox.1;have pw:=oy.1;rw [De.rw_w] at ow pw;rw [De.rw_nm,De.rw_nm] at e1;rw [De.rw_n,De.rw_n] at e2;have:a=b:=Classical.byContradiction λne=>by
  rcases uJ g.q a ha b hb ne with h | h
  ·rw [D5 ow pw e2 e1] at h;cases h
  ·rw [D5 pw ow e2.symm e1.symm] at h;cases h
 rw [this]
theorem Nc{d:Int}{nm:Str}{r:List VI}(h:dE (De.oth (Oh "hold") d nm r).enc):Nm nm/\∃(ip:Bool)(tn:Str)(dp:Bool),r=[gC ip tn,.bool dp]/\Nm tn:=by
 have e:(De.oth (Oh "hold") d nm r).enc= .tuple (.str (Oh "hold"):: .int d:: .str nm::r):=rfl;rw [e] at h;generalize hd:Oz (.str (Oh "hold"):: .int d:: .str nm::r)=z at h;cases h with
 | @hold n x g y b _ hx hg hy=>
  simp only [Qu,PH,Qi,RA] at hd;obtain⟨_,_,e1,e2⟩:=hd;refine⟨by rw [e1];exact hx,decide (g=Oh "paper"),y,b,?_,hy⟩;rw [e2];unfold gC;simp only [Ox,Pc,or_false] at hg;rcases hg with e | e <;> rw [e] <;> rfl
 | two hw=>
  simp only [Qu,PH,Qi] at hd;exact absurd hw (by rw [<-hd.1];decide+kernel)
 | one hw=>
  simp only [Qu,PH,Qi] at hd;exact absurd hw (by rw [<-hd.1];decide+kernel)
 | _=>
  simp only [Qu,PH,Qi] at hd;exact absurd hd.1 Ce
structure j4 (hs:List Hd):Prop where
 le:hs.length<=32
 nd:(hs.map (·.nm)).Nodup
 nm:∀h∈hs,Nm h.nm
 tn:∀h∈hs,Nm h.tn
theorem D6{xs:List De}{n:Int}{res:List Rw}(g:cG xs)(hres:gu ij n (xs.map De.rw) res):∀x∈res,x.w=Oh "hold"->Nm x.nm/\∃(ip:Bool)(tn:Str)(dp:Bool),x.r=[gC ip tn,.bool dp]/\Nm tn:=λx hx hw=>by
 obtain⟨h1,_,_⟩:=hres.it x hx;obtain⟨y,hy,rfl⟩:=Ow.mp h1;cases y with
 | pap p=>exact absurd hw (by show Oh "paper"≠_;decide+kernel)
 | oth w d nm r=>
  have hw:w=Oh "hold":=hw;subst hw;exact Nc (g.e _ hy).dv
theorem Nd{xs:List De}{n:Int}{res:List Rw}(g:cG xs)(hres:gu ij n (xs.map De.rw) res):j4 (jr res):=by
 have fm:=D6 g hres;have ml:∀h∈jr res,∃x∈res,x.w=Oh "hold"/\h=lA x:=λh hh=>by
  obtain⟨x,hx,rfl⟩:=Ow.mp hh;obtain⟨hx1,hx2⟩:=O7.mp hx;exact⟨x,hx1,eq_of_beq hx2,rfl⟩
 refine⟨?_,?_,λh hh=>?_,λh hh=>?_⟩
 ·unfold jr;rw [Oi];have h1:=Qs (λx:Rw=>x.w==Oh "hold") res;have h2:=hres.le;rw [Oi] at h2;have:=g.l;omega
 ·unfold jr;rw [Pl];exact(RD.map _).nodup hres.nd
 ·obtain⟨x,hx,hw,rfl⟩:=ml h hh;exact(fm x hx hw).1
 ·obtain⟨x,hx,hw,rfl⟩:=ml h hh;obtain⟨_,ip,tn,dp,hp,hk⟩:=fm x hx hw;rw [D4 hp];exact hk
theorem cG.wok{xs:List De}(g:cG xs):∀x∈xs.map De.rw,O5 x.w=true:=λx hx=>by
 obtain⟨y,hy,rfl⟩:=Ow.mp hx;rw [De.rw_w];exact(g.e y hy).ws.1
def Nh:List VI->(VI->Prop)->Prop:=λds Q=>∃(xs:List De)(n:Int),ds=[.tuple (xs.map De.enc),.int n]/\cG xs/\(j4 (cH xs n)->Q (.tuple ((cH xs n).map Hd.enc)))
theorem qc(T:Txt K mg t):aF P w K mg base aK 2 t.a_L t.d_L ["deeds","day"] (aQ K Nh):=by
 have G_K:=@M6 P w _ _ base _ T;refine T.F_L.F.okD LB (λds Q h=>?_) (λ_ _ _ _ H O ds Q E hr h=>?_)
 ·obtain⟨xs,n,rfl,_⟩:=h;rfl
 ·obtain⟨xs,n,rfl,g,q⟩:=h;refine'⟨_,?A,?B⟩
  case A=>
   refine' ai ?C
   case' C=>generalize hG2:Uy _ _ _ _=eg2
   refine' ay ?D
   case' D=>subst hG2
   exact(PE.imp (fP jC rfl T.n_tuple d7 (aO (fe (g9 rfl D1 (df (ar G_K hr T.F_K (aa (dv 0) (aa (bg (aa aJ (aa aJ ag))) (aa (dv 1) ag))))) aV cI VC (λ_ _ _ _=>(aR (i:=0) D1.nd rfl VG)) (λ_ _ _ _=>(fQ (aG (cq hr) cu (ax aC aD (dv 0) af) aJ (aB _)))) (λ_ _ _ _=>(bg (aa (ax aC aD (dv 0) af) (aa (ax aC aD (dv 0) af) (aa (ax aC aD (dv 0) af) ag))))))) aN)) (aT jL))
  case B=>
  clear hr T G_K;have hl:(xs.map De.rw).length < 64:=by rw [Oi];have:=g.l;omega
  walk_at "a";refine⟨xs.map De.rw,ij,n,by rw [M7];rfl,g.wok,Ce,hl,λres hres=>⟨_,rfl,?_,?_⟩⟩
  ·rw [Oi];have:=hres.le;omega
  have fm:=D6 g hres;have e:=M9 (Nb g) hres;have q:Q (.tuple ((jr res).map Hd.enc)):=by
   have h1:=Nd g hres;rw [e] at h1⊢;exact q h1
  refine fK (enc:=Rw.enc) (λx=>x.w==Oh "hold") (λx=>(lA x).enc) (λx hx R S h=>?_) ?_
  ·simp only [Rw.enc];walk_at "a";by_cases hr:(x.w==Oh "hold")=true
   ·rw [VF hr] at h⊢;obtain⟨_,ip,tn,dp,hp,_⟩:=fm x hx (eq_of_beq hr);rw [D4 hp] at h;rw [hp];exact⟨_,l5,_,rT,h⟩
   ·rw [VE hr] at h⊢;exact h
  ·have e2:(Ts (λx=>x.w==Oh "hold") res).map (λx=>(lA x).enc)=(jr res).map Hd.enc:=by unfold jr;rw [Pl];rfl
   rw [e2];exact q
def cX(ip:Bool)(tn:Str)(c:Pp):Bool:=tn==if ip=true then c.nm else c.kd
def qf:List VI->(VI->Prop)->Prop:=λds Q=>∃(ip:Bool)(tn:Str)(c:Pp),ds=[gC ip tn,c.enc]/\O5 tn=true/\O5 c.nm=true/\O5 c.kd=true/\Q (.bool (cX ip tn c))
theorem qg(T:Txt K mg t):aF P w K mg base aK 1 t.a_M t.d_M ["target","coming"] (aQ K qf):=by
 refine T.F_M.F.okD LC (λds Q h=>?_) (λ_ _ _ _ H O ds Q E hr h=>?_)
 ·obtain⟨ip,tn,c,rfl,_⟩:=h;rfl
 ·obtain⟨ip,tn,c,rfl,h1,h2,h3,q⟩:=h;refine'⟨_,?A,?B⟩
  case A=>
   refine' ai ?C
   case' C=>refine' ay ?D
   case D=>exact(b7 (bA hr.units) bB (df (ax aC aD (dv 0) af)) (df (oj (aG (cq hr) cu (ax aC aD (dv 0) af) aJ (aB _)) (ax aC aD (dv 1) af) (ax aC aD (dv 1) af))) (aB _))
  case B=>
  clear hr T;simp only [gC,Pp.enc];unfold cX at q;cases ip with
  | true=>
   walk_at "a";exact⟨cP.mpr h1,cP.mpr h2,q⟩
  | false=>
   walk_at "a";rw [VE (show ¬(Oh "kind"==Oh "paper")=true by decide+kernel)];exact⟨cP.mpr h1,cP.mpr h3,q⟩
def Ni:List VI->(VI->Prop)->Prop:=λds Q=>∃n:Int,ds=[.int n]/\0<=n/\Q (.bool true)
theorem Nj(T:Txt K mg t):aF P w K mg base aK 2 t.a_d t.d_d ["thing"] (aQ K Ni):=by
 have G_A:=@uk P w _ _ base _ T;refine T.F_d.F.okD LR (λds Q h=>?_) (λ_ _ _ _ H O ds Q E hr h=>?_)
 ·obtain⟨n,rfl,_⟩:=h;rfl
 ·obtain⟨n,rfl,hn,q⟩:=h;refine'⟨_,?A,?B⟩
  case A=>
   refine' ai ?C
   case' C=>refine' ay ?D
   case D=>exact(cx (ar G_A hr T.F_A (aa (dv 0) ag)) (cU (b7 vm dJ (df (dv 0)) (df af) (aB _))))
  case B=>
  clear hr T G_A;walk_at "a";refine⟨_,rfl,rfl,?_⟩;simp [jR,hn];exact q
def qh(ps:List Pp)(nm:Str):Bool:=decide (nm∈ps.map (·.nm))
def Nk:List VI->(VI->Prop)->Prop:=λds Q=>∃(xs:List De)(n:Int)(nm:Str),ds=[.tuple (xs.map De.enc),.int n,.str nm]/\cW xs/\0<=n/\O5 nm=true/\Q (.bool (qh (ah xs) nm))
theorem Nl(T:Txt K mg t):aF P w K mg base aK 6 t.a_g t.d_g ["deeds","day","paper"] (aQ K Nk):=by
 have G_d:=@Nj P w _ _ base _ T;have G_F:=@lr P w _ _ base _ T;refine T.F_g.F.okD LU (λds Q h=>?_) (λ_ _ _ _ H O ds Q E hr h=>?_)
 ·obtain⟨xs,n,nm,rfl,_⟩:=h;rfl
 ·obtain⟨xs,n,nm,rfl,g,hn,hs,q⟩:=h;refine'⟨_,?A,?B⟩
  case A=>
   refine' ai ?C
   case' C=>refine' ay ?D
   case D=>exact(cx (ar G_d hr T.F_d (aa (dv 1) ag)) (cU (b7 (mj hr) fD (df (dv 2)) (df (ar G_F hr T.F_F (aa (dv 0) ag))) rfl)))
  case B=>
  clear hr T G_d G_F;walk_at "a";have cl:Pj (((cF (ah xs)).map (·.nm)).map .str)=true:=jZ λm hm=>by
   obtain⟨p,hp,rfl⟩:=Ow.mp hm;exact g.gp.nm p (eV.mp hp)
  refine⟨n,rfl,hn,true,rfl,?_⟩;rw [VF rfl];refine⟨xs,rfl,g,_,.inr rfl,cP.mpr hs,cl,?_⟩;rw [iR];have e:((cF (ah xs)).map (·.nm)).contains nm=qh (ah xs) nm:=by
   unfold qh;rw [Rl,P4,decide_eq_true_iff];constructor <;> intro h <;> obtain⟨p,hp,e⟩:=Ow.mp h
   ·exact Ow.mpr ⟨p,eV.mp hp,e⟩
   ·exact Ow.mpr ⟨p,eV.mpr hp,e⟩
  rw [e];exact q
end
theorem qi:bt (aA pz) ["deeds","paper","line","place"] ["deed","line"] 1 [2] ⟨OE,[ (Oj ".0",Xy),(Oj "deed",Xy),(Oj "line",OM)],false,false,[]⟩:= .of
section
variable {P:VW} {w:VZ} {K:Og} {mg:Str->Option VJ} {base:VY} {t:cz}
theorem D7:∀{a b:List Str},Pu (a.map .str) (b.map .str)=true↔a=b
 | [],[]=>by simp [Pu]
 | [],_::_=>by simp [Pu]
 | _::_,[]=>by simp [Pu]
 | x::a,y::b=>by
  rw [Ov,Ov,Pu,OI,D7,gN,beq_iff_eq,PH]
theorem D8{a b:Pp}:Om a.enc b.enc=true↔a=b:=by
 obtain⟨d,nm,kd,ms⟩:=a;obtain⟨d',nm',kd',ms'⟩:=b;simp only [Pp.enc,Om,Pu,OI,D7,Pp.mk.injEq,decide_eq_true_eq,beq_iff_eq,and_true,true_and]
def iU(l:List Pp)(p:Pp):Bool:=(l.map Pp.enc).any λd=>Om d p.enc
theorem mZ{l:List Pp}{p:Pp}:iU l p=true↔p∈l:=by
 unfold iU;rw [PX];constructor
 ·rintro⟨d,hd,e⟩;obtain⟨q,hq,rfl⟩:=Ow.mp hd;rw [<-D8.mp e];exact hq
 ·intro h;exact⟨p.enc,Ow.mpr ⟨p,h,rfl⟩,D8.mpr rfl⟩
def ik(ps line:List Pp)(c:Pp):List Pp:=(bM ps c).filter λp=>!iU line p
def eG(ps:List Pp):Nat->List Pp->Nat->List Pp
 | 0,l,_=>l
 | f+1,l,i=>match l[i]? with
  | none=>l
  | some c=>eG ps f (l++ik ps l c) (i+1)
def dQ(ps:List Pp)(c:Pp):List Pp:=eG ps ps.length [c] 0
theorem Nn{ps l:List Pp}{i:Nat}(h:l.length<=i):∀f,eG ps f l i=l
 | 0=>rfl
 | f+1=>by rw [eG,QG h]
structure js (ps:List Pp) (c:Pp) (l:List Pp):Prop where
 nd:l.Nodup
 sb:∀p∈l,p∈ps
 hd:∃r,l=c::r
theorem iq{α:Type}:∀{l L:List α},l.Nodup->(∀z∈l,z∈L)->l.length<=L.length
 | [],_,_,_=>PK _
 | a::l,L,nd,hm=>by
  rw [QK] at nd;obtain⟨p,q,e⟩:=List.append_of_mem (hm a VH);have:=iq (l:=l) (L:=p++q) nd.2 λb hb=>by
   have hb':=hm b (by simp [hb]);rw [e] at hb';rcases OJ.mp hb' with z | z
   ·exact Pz _ z
   ·rcases Ox.mp z with z | z
    ·exact absurd (by rw [<-z];exact hb) nd.1
    ·exact Pa _ z
  rw [e,O4,OG,OG];rw [O4] at this;omega
theorem Np{ps:List Pp}(nd:(ps.map (·.nm)).Nodup):ps.Nodup:=by
 rw [Si,Qf] at nd;exact nd.imp λh e=>h (by rw [e])
theorem uK{ps:List Pp}(nd:(ps.map (·.nm)).Nodup)(c:Pp):(bM ps c).Nodup:=((jq ps).nodup_iff.mpr (Np nd)).sublist RD
theorem jt{ps:List Pp}{c p:Pp}(h:p∈bM ps c):p∈ps:=eV.mp (O7.mp h).1
theorem js.next{ps:List Pp}(nd:(ps.map (·.nm)).Nodup){c:Pp}{l:List Pp}(h:js ps c l)(d:Pp):js ps c (l++ik ps l d):=by
 refine⟨RY.mpr ⟨h.nd,(uK nd d).sublist RD,λa ha b hb e=>?_⟩,λp hp=>?_,?_⟩
 ·have:=(O7.mp hb).2;rw [Qw,<-Te] at this;exact this (mZ.mpr (by rw [<-e];exact ha))
 ·rcases OJ.mp hp with z | z
  ·exact h.sb p z
  ·exact jt (O7.mp z).1
 ·obtain⟨r,e⟩:=h.hd;exact⟨r++ik ps l d,by rw [e];rfl⟩
theorem D9{ps:List Pp}(nd:(ps.map (·.nm)).Nodup){c:Pp}:∀(f:Nat){l:List Pp}(i:Nat),js ps c l->js ps c (eG ps f l i)
 | 0,_,_,h=>h
 | f+1,l,i,h=>by
  rw [eG];split
  ·exact h
  ·exact D9 nd f (i+1) (h.next nd _)
theorem qj{ps:List Pp}(nd:(ps.map (·.nm)).Nodup){c:Pp}(hc:c∈ps):js ps c (dQ ps c):=D9 nd _ _ ⟨VH,by simpa using hc,[],rfl⟩
def Ea(line:List Pp):Prop:=line.length<=41/\∀c∈line,O5 c.nm=true/\O5 c.kd=true
theorem Nq{ps:List Pp}(g:iQ ps){c:Pp}(hc:c∈ps):Ea (dQ ps c):=by
 have h:=qj g.nd hc;have h1:=iq h.nd h.sb;have h2:=g.ln;exact⟨VD,λp hp=>⟨g.nm p (h.sb p hp),g.kd p (h.sb p hp)⟩⟩
theorem Eb{ps:List Pp}(g:iQ ps){c:Pp}(hc:c∈ps):cK 3 c.enc:=by
 obtain⟨h1,h2⟩:=g.ms c hc;exact dN (bo (bV Ce) (bo iL (bo (bV (g.nm c hc)) (bo (bV (g.kd c hc)) (bo (dN (n:=1) (sI h1)) eQ)))))
def Nr:List VI->(VI->Prop)->Prop:=λds Q=>∃(xs:List De)(c:Pp),ds=[.tuple (xs.map De.enc),.str c.nm]/\cW xs/\c∈ah xs/\Q (.list ((dQ (ah xs) c).map Pp.enc))
theorem Ec(T:Txt K mg t):aF P w K mg base aK 6 t.a_I t.d_I ["deeds","paper"] (aQ K Nr):=by
 have G_E:=@lq P w _ _ base _ T;have G_G:=@uA P w _ _ base _ T;refine T.F_I.F.okD jn (λds Q h=>?_) (λ_ _ _ _ H O ds Q E hr h=>?_)
 ·obtain⟨xs,c,rfl,_⟩:=h;rfl
 ·obtain⟨xs,c,rfl,gd,hc,q⟩:=h;refine'⟨_,?A,?B⟩
  case A=>
   refine' ao ?C ?D
   case C=>exact(kD (i:=2) jn.nd rfl VG (cZ (aa (ar G_E hr T.F_E (aa (dv 0) (aa (dv 1) ag))) ag)))
   case' D=>refine' ao ?E ?F
   case E=>exact(bj (i:=3) jn.nd rfl VG af)
   case' F=>refine' ao ?G ?H
   case G=>
    refine' sX Pg ?I ?J
    case I=>exact(aG iz dJ (dv 3) (PE.imp (aS bG rfl T.n_len OF (i8 (dw 2) aN)) (aT bK)) (aB _))
    case' J=>refine' ao ?K ?L
    case K=>exact(sR (i:=2) (pv 2) (g9 rfl qi (df (ar G_G hr T.F_G (aa (dv 0) (aa (d9 bT ck (dw 2) (df (dv 3))) ag)))) aV cI VC (λ_ _ _ _=>(aR (i:=0) qi.nd rfl VG)) (λ_ _ _ _=>(fQ (oi (jc hr) fD (df (dv 0)) (dw 1) rfl))) (λ_ _ _ _=>(dv 0))))
    case' L=>refine' ai ?M
    case M=>exact(bj (i:=3) jn.nd rfl VG (aZ cA bX (dv 3) af))
   case' H=>refine' ai ?N
   case N=>exact(rN (pv 2))
  case B=>
  clear hr T G_E G_G;have nd:=gd.gp.nd;have pl:=gd.gp.ln;walk_at "a";refine⟨xs,c,rfl,gd,hc,?_⟩;refine⟨λm δ=>∃(l:List Pp)(i f:Nat),js (ah xs) c l/\i<=l.length/\m+i=(ah xs).length/\(ah xs).length<=f+i/\eG (ah xs) f l i=dQ (ah xs) c/\δ=[some (Sl.v (.tuple (xs.map De.enc))),some (Sl.v (.str c.nm)),some (Sl.o (l.map Pp.enc)),some (Sl.v (.int (i:Int)))],⟨(ah xs).length,[c],0,(ah xs).length,⟨VH,by simpa using hc,[],rfl⟩,PK _,VD,VD,rfl,rfl⟩,?_⟩;rintro m δ ⟨l,i,f,hl,hi,hm,hf,ef,rfl⟩;have ll:=iq hl.nd hl.sb;walk_at "a";rw [Oi];by_cases hlt:i < l.length
  ·rw [VF VD];have hc':l[i]?=some l[i]:=OS hlt;have ho:=hl.next nd l[i];have lo:=iq ho.nd ho.sb;rw [O4] at lo;refine⟨_,dG (j:=i) (by rw [OD,hc'];rfl),xs,l[i],rfl,gd,hl.sb _ (PB hlt),_,rfl,by rw [Oi];have:=uB (c:=l[i]) gd.gp;omega,fK (λp=>!iU l p) Pp.enc (λp hp R S h=>?_) ?_⟩
   ·walk_at "a";have ps:=jt hp;refine⟨(Eb gd.gp ps).shp VC,(oK (n:=3) λd hd=>?_).1,by simpa [iU] using h⟩;obtain⟨p',hp',rfl⟩:=Ow.mp hd;exact Eb gd.gp (hl.sb p' hp')
   ·have e:(Ts (λp=>!iU l p) (bM (ah xs) l[i]))=ik (ah xs) l l[i]:=rfl;rw [e];cases f with
    | zero=>omega
    | succ f=>
     rw [eG,hc'] at ef;refine⟨by rw [Oi];omega,m - 1,VD,_,ho,i+1,by rw [O4];omega,VD,f,VD,ef,by rw [O9],VD⟩
  ·rw [VE VD];rw [<-ef,Nn VD] at q;exact q
end
theorem Ed:bt (aA pC) ["holds","line","names","hold","target","deep","reached"] ["coming","target"] 1 [4] ⟨OE,[ (Oj ".0",Xy),(Oj "coming",Xy),(Oj "is_told",OT),(Oj "target",OM)],false,false,[]⟩:= .of
section
variable {P:VW} {w:VZ} {K:Og} {mg:Str->Option VJ} {base:VY} {t:cz}
theorem Nt(xs:List VI):bY xs none (some 1)=xs.take 1:=by
 cases xs with
 | nil=>rfl
 | cons a l=>rw [jN VC (by simp;omega)];rfl
def Ee(hs:List Hd):Prop:=hs.length<=41/\∀h∈hs,O5 h.tn=true
theorem j4.hd{hs:List Hd}(h:j4 hs):Ee hs:=⟨by have:=h.le;omega,λx hx=>(h.tn x hx).ok⟩
def fu(line:List Pp)(h:Hd):Bool:=(if h.dp=true then line else line.take 1).any (cX h.ip h.tn)
def fL(hs:List Hd)(line:List Pp):List Str:=(hs.filter (fu line)).map (·.nm)
def F_N:List VI->(VI->Prop)->Prop:=λds Q=>∃(hs:List Hd)(line:List Pp),ds=[.tuple (hs.map Hd.enc),.list (line.map Pp.enc)]/\Ee hs/\Ea line/\Q (.tuple ((fL hs line).map .str))
theorem Nu(T:Txt K mg t):aF P w K mg base aK 2 t.a_N t.d_N ["holds","line"] (aQ K F_N):=by
 have G_M:=@qg P w _ _ base _ T;refine T.F_N.F.okD kZ (λds Q h=>?_) (λ_ _ _ _ H O ds Q E hr h=>?_)
 ·obtain⟨hs,line,rfl,_⟩:=h;rfl
 ·obtain⟨hs,line,rfl,ho,lo,q⟩:=h;refine'⟨_,?A,?B⟩
  case A=>
   refine' ao ?C ?D
   case C=>exact(kD (i:=2) kZ.nd rfl VG (cZ ag))
   case' D=>refine' ao ?E ?F
   case E=>
    refine' fW Pg rfl (dv 0) ?G (kG (dW aV (dW aV (dW aV kF)))) ?H
    case G=>exact(jx (n:=3) rfl (di (aR (i:=3) kZ.nd rfl VG) (di (aR (i:=4) kZ.nd rfl VG) (di (aR (i:=5) kZ.nd rfl VG) jw))))
    case' H=>refine' ao ?I ?J
    case I=>exact(bj (i:=6) kZ.nd rfl VG (oj (bQ (dv 5)) (dv 1) (fe (jK (df (dv 1)) fB (dB af)))))
    case' J=>refine' ai ?K
    case' K=>refine' aM ?L ?M aL
    case L=>exact(bQ (PE.imp (aS (rJ rfl) rfl T.n_any rK (aO (fe (g9 rfl Ed (df (dv 6)) aV cI VC (λ_ _ _ _=>(aR (i:=0) Ed.nd rfl VG)) (λ_ _ _ _=>fC) (λ_ _ _ _=>(ar G_M hr T.F_M (aa (dv 1) (aa (dv 0) ag)))))) aN)) (aT jM)))
    case' M=>refine' ai ?N
    case N=>exact(wY (i:=2) (pv 2) (dv 3))
   case' F=>refine' ai ?O
   case O=>exact(ay (PE.imp (fP jC rfl T.n_tuple d7 (i8 (dw 2) aN)) (aT jL)))
  case B=>
  clear hr T G_M;have h41:=ho.1;have l41:=lo.1;walk_at "a";refine⟨λi δ=>∃o3 o4 o5 o6,δ=[some (Sl.v (.tuple (hs.map Hd.enc))),some (Sl.v (.list (line.map Pp.enc))),some (Sl.o ((fL (hs.take i) line).map .str)),o3,o4,o5,o6],⟨_,_,_,_,rfl⟩,?_,?_⟩
  ·rintro i z δ hz ⟨o3,o4,o5,o6,rfl⟩;rw [OD] at hz;cases hz':hs[i]? with
   | none=>rw [hz'] at hz;cases hz
   | some h=>
    rw [hz'] at hz;cases hz;have hk:=ho.2 h (OH hz');have ts:fL (hs.take (i+1)) line=fL (hs.take i) line++if fu line h=true then [h.nm] else []:=by
     unfold fL;rw [Qa,hz',List.filter_append,O9];congr 1;by_cases e:fu line h=true
     ·simp [e]
     ·simp [e]
    have ll:(fL (hs.take i) line).length<=41:=by
     unfold fL;rw [Oi];have:=Qs (fu line) (hs.take i);rw [Pn] at this;omega
    have key:∀(l2:List Pp)(R:List VI->Prop),(∀c∈l2,c∈line)->R ((l2.map (cX h.ip h.tn)).map .bool)->fA (lW 0) jJ (iD qf (fT (cC 1) (fT (cC 0) jF))) [none,some (Sl.v (gC h.ip h.tn))] (l2.map Pp.enc) R:=λl2 R hl hR=>by
     refine Mk (λ_=>true) (λc=>.bool (cX h.ip h.tn c)) (λc hc R S h1 _=>?_) (by rw [mU];rw [Pl] at hR;exact hR);walk_at "a";exact⟨h.ip,h.tn,c,rfl,hk,(lo.2 c (hl c hc)).1,(lo.2 c (hl c hc)).2,h1 rfl⟩
    simp only [Hd.enc];simp only [ts];have ec:fu line h=(if h.dp=true then line else line.take 1).any (cX h.ip h.tn):=rfl;rw [ec];generalize fL (hs.take i) line=A0 at ll;have fin:∀(l2:List Pp)(x:Option Sl),if (l2.map (cX h.ip h.tn)).any id=true then(A0.map Ol).length < 16777216/\A0.map Ol++[Ol h.nm]=(A0++if l2.any (cX h.ip h.tn)=true then [h.nm] else []).map Ol/\∃y,x=y else A0.map Ol=(A0++if l2.any (cX h.ip h.tn)=true then [h.nm] else []).map Ol/\∃y,x=y:=λl2 x=>by
     rw [RL];show if l2.any (cX h.ip h.tn)=true then _ else _
     split
     ·exact⟨by rw [Oi];omega,VH,_,rfl⟩
     ·exact⟨VH,_,rfl⟩
    cases hd:h.dp with
    | true=>
     walk_at "a";exact⟨by rw [Oi];omega,key line _ (λ_ h=>h) ⟨_,rfl,fin line _⟩⟩
    | false=>
     walk_at "a";rw [Nt,<-Ri];have lt:(line.take 1).length<=41:=by rw [Pn];omega
     exact⟨by rw [Oi];omega,key (line.take 1) _ (λ_ h=>PQ h) ⟨_,rfl,fin (line.take 1) _⟩⟩
  ·rintro δ ⟨o3,o4,o5,o6,rfl⟩;walk_at "a";rw [Oi,Pd (Ot _)];exact q
def Nv:List VI->(VI->Prop)->Prop:=λds Q=>∃(xs:List De)(n:Int)(c:Pp),ds=[.tuple (xs.map De.enc),.int n,.str c.nm]/\cG xs/\c∈ah xs/\(j4 (cH xs n)->Q (.tuple ((fL (cH xs n) (dQ (ah xs) c)).map .str)))
theorem Nw(T:Txt K mg t):aF P w K mg base aK 7 t.a_O t.d_O ["deeds","day","paper"] (aQ K Nv):=by
 have G_L:=@qc P w _ _ base _ T;have G_I:=@Ec P w _ _ base _ T;have G_N:=@Nu P w _ _ base _ T;refine T.F_O.F.okD LD (λds Q h=>?_) (λ_ _ _ _ H O ds Q E hr h=>?_)
 ·obtain⟨xs,n,c,rfl,_⟩:=h;rfl
 ·obtain⟨xs,n,c,rfl,g,hc,q⟩:=h;refine'⟨_,?A,?B⟩
  case A=>
   refine' ai ?C
   case' C=>refine' ay ?D
   case D=>exact(ar G_N hr T.F_N (aa (ar G_L hr T.F_L (aa (dv 0) (aa (dv 1) ag))) (aa (ar G_I hr T.F_I (aa (dv 0) (aa (dv 2) ag))) ag)))
  case B=>
  clear hr T G_L G_I G_N;walk_at "a";exact⟨xs,n,rfl,g,λhok=>⟨xs,c,rfl,g.good,hc,_,_,rfl,hok.hd,Nq g.good.gp hc,q hok⟩⟩
end
theorem Ef:bt (aA pL) ["_law_deeds_here","_law_name","_law_some","_law_at"] ["_law_one","_law_some"] 1 [2] ⟨OE,[ (Oj ".0",Xy),(Oj "_law_one",Xy),(Oj "_law_some",OM)],false,false,[]⟩:= .of
section
variable {P:VW} {w:VZ} {K:Og} {mg:Str->Option VJ} {base:VY} {t:cz}
inductive bZ (ps:List Pp):Pp->Pp->Prop
 | one {a b:Pp}:pY ps a b->bZ ps a b
 | more {a b c:Pp}:bZ ps a b->pY ps b c->bZ ps a c
theorem bZ.lt{ps:List Pp}{a b:Pp}(h:bZ ps a b):a.lt b:=by
 induction h with
 | one h=>exact h.2.2.2
 | more _ h ih=>exact Pp.lt_tr ih h.2.2.2
theorem bZ.mem{ps:List Pp}{a b:Pp}(h:bZ ps a b):a∈ps/\b∈ps:=by
 induction h with
 | one h=>exact⟨h.1,h.2.1⟩
 | more _ h ih=>exact⟨ih.1,h.2.1⟩
theorem bZ.pre{ps:List Pp}{a b c:Pp}(h:pY ps a b)(h2:bZ ps b c):bZ ps a c:=by
 induction h2 with
 | one h2=>exact .more (.one h) h2
 | more _ h3 ih=>exact .more ih h3
theorem Eg{ps:List Pp}{c:Pp}:∀(f:Nat)(l:List Pp)(i:Nat),(∀q∈l,q∈ps/\(q=c\/bZ ps q c))->∀q∈eG ps f l i,q=c\/bZ ps q c
 | 0,l,i,h,q,hq=>(h q hq).2
 | f+1,l,i,h,q,hq=>by
  rw [eG] at hq;cases hc:l[i]? with
  | none=>rw [hc] at hq;exact(h q hq).2
  | some d=>
   rw [hc] at hq;obtain⟨d1,d2⟩:=h d (OH hc);refine Eg f _ _ (λp hp=>?_) q hq;rcases OJ.mp hp with z | z
   ·exact h p z
   ·have hm:=(gB d1).mp (O7.mp z).1;refine⟨hm.1,.inr ?_⟩;rcases d2 with e | e
    ·rw [<-e];exact .one hm
    ·exact e.pre hm
theorem Ei{ps:List Pp}(nd:(ps.map (·.nm)).Nodup){c:Pp}:∀(f:Nat)(l:List Pp)(i:Nat),js ps c l->(∀j d,j < i->l[j]?=some d->∀p∈bM ps d,p∈l)->ps.length<=f+i->(∀q∈l,q∈eG ps f l i)/\∀d∈eG ps f l i,∀p∈bM ps d,p∈eG ps f l i
 | 0,l,i,h,cl,hf=>by
  have hl:=iq h.nd h.sb;refine⟨λq hq=>hq,λd hd p hp=>?_⟩;have hd:d∈l:=hd;obtain⟨j,hj⟩:=QP hd;have hj1:=(Oy.mp hj).1;exact cl j d VD hj p hp
 | f+1,l,i,h,cl,hf=>by
  rw [eG];cases hc:l[i]? with
  | none=>
   show(∀q∈l,q∈l)/\∀d∈l,∀p∈bM ps d,p∈l;refine⟨λq hq=>hq,λd hd p hp=>?_⟩;obtain⟨j,hj⟩:=QP hd;have h1:=List.getElem?_eq_none_iff.mp hc;have h2:=(Oy.mp hj).1;exact cl j d VD hj p hp
  | some d=>
   have il:=(Oy.mp hc).1;have key:∀j e,j < i+1->(l++ik ps l d)[j]?=some e->∀p∈bM ps e,p∈l++ik ps l d:=λj e hj he p hp=>by
    rw [Pr VD] at he;by_cases e1:j=i
    ·subst e1;rw [hc] at he;cases he;by_cases z:iU l p=true
     ·exact Pz _ (mZ.mp z)
     ·exact Pa _ (O7.mpr ⟨hp,by simpa using z⟩)
    ·exact Pz _ (cl j e VD he p hp)
   obtain⟨a,b⟩:=Ei nd f (l++ik ps l d) (i+1) (h.next nd d) key VD;exact⟨λq hq=>a q (Pz _ hq),b⟩
theorem uL{ps:List Pp}(nd:(ps.map (·.nm)).Nodup){c:Pp}(hc:c∈ps){q:Pp}:q∈dQ ps c↔q=c\/bZ ps q c:=by
 constructor
 ·exact Eg _ _ _ (λp hp=>by rw [ON] at hp;subst hp;exact⟨hc,.inl rfl⟩) q
 ·obtain⟨a,b⟩:=Ei nd ps.length [c] 0 ⟨VH,by simpa using hc,[],rfl⟩ (λj d hj=>by omega) VD;have up:∀{x y:Pp},bZ ps x y->y∈dQ ps c->x∈dQ ps c:=λ{x y} h=>by
   induction h with
   | one h=>exact λhy=>b _ hy _ ((gB h.2.1).mpr h)
   | more _ h ih=>exact λhy=>ih (b _ hy _ ((gB h.2.1).mpr h))
  rintro(e | e)
  ·rw [e];exact a c VH
  ·exact up e (a c VH)
def Nx(ps:List Pp)(c:Pp)(L:List Str):Prop:=L.length<=41/\∀z,z∈L↔∃q,bZ ps q c/\q.nm=z
structure iV (ps:List Pp) (c:Pp) (l:List Pp) (i:Nat):Prop where
 nd:l.Nodup
 an:∀p∈l,bZ ps p c
 ms:∀p∈bM ps c,p∈l
 cl:∀j d,j < i->l[j]?=some d->∀p∈bM ps d,p∈l
theorem iV.sb{ps:List Pp}{c:Pp}{l:List Pp}{i:Nat}(h:iV ps c l i):∀p∈l,p∈ps:=λp hp=>(h.an p hp).mem.1
theorem iV.next{ps:List Pp}(nd:(ps.map (·.nm)).Nodup){c:Pp}{l:List Pp}{i:Nat}(h:iV ps c l i){d:Pp}(hd:l[i]?=some d):iV ps c (l++ik ps l d) (i+1):=by
 have dm:=OH hd;have il:=(Oy.mp hd).1;refine⟨RY.mpr ⟨h.nd,(uK nd d).sublist RD,λa ha b hb e=>?_⟩,λp hp=>?_,λp hp=>Pz _ (h.ms p hp),λj e hj he p hp=>?_⟩
 ·have:=(O7.mp hb).2;rw [Qw,<-Te] at this;exact this (mZ.mpr (by rw [<-e];exact ha))
 ·rcases OJ.mp hp with z | z
  ·exact h.an p z
  ·exact(h.an d dm).pre ((gB (h.sb d dm)).mp (O7.mp z).1)
 ·rw [Pr VD] at he;by_cases e1:j=i
  ·subst e1;rw [hd] at he;cases he;by_cases z:iU l p=true
   ·exact Pz _ (mZ.mp z)
   ·exact Pa _ (O7.mpr ⟨hp,by simpa using z⟩)
  ·exact Pz _ (h.cl j e VD he p hp)
theorem iV.all{ps:List Pp}{c:Pp}{l:List Pp}{i:Nat}(h:iV ps c l i)(hi:l.length<=i){q:Pp}(a:bZ ps q c):q∈l:=by
 have cl:∀d∈l,∀p∈bM ps d,p∈l:=λd hd p hp=>by
  obtain⟨j,hj⟩:=QP hd;have:=(Oy.mp hj).1;exact h.cl j d VD hj p hp
 have up:∀{x y:Pp},bZ ps x y->y=c\/y∈l->x∈l:=λ{x y} a=>by
  induction a with
  | one a=>exact λhy=>hy.elim (λe=>h.ms _ (by rw [<-e];exact(gB a.2.1).mpr a)) λhy=>cl _ hy _ ((gB a.2.1).mpr a)
  | more _ a ih=>exact λhy=>ih (.inr (hy.elim (λe=>h.ms _ (by rw [<-e];exact(gB a.2.1).mpr a)) λhy=>cl _ hy _ ((gB a.2.1).mpr a)))
 exact up a (.inl rfl)
def Ny:List VI->(VI->Prop)->Prop:=λds Q=>∃(xs:List De)(c:Pp),ds=[.tuple (xs.map De.enc),.str c.nm]/\cW xs/\c∈ah xs/\∀L,Nx (ah xs) c L->Q (.list (L.map .str))
theorem Nz(T:Txt K mg t):aF P w K mg base aK 7 t.a_v t.d_v ["_law_deeds_here","_law_name"] (aQ K Ny):=by
 have G_H:=@pZ P w _ _ base _ T;refine T.F_v.F.okD pR (λds Q h=>?_) (λ_ _ _ _ H O ds Q E hr h=>?_)
 ·obtain⟨xs,c,rfl,_⟩:=h;rfl
 ·obtain⟨xs,c,rfl,g,hc,q⟩:=h;refine'⟨_,?A,?B⟩
  case A=>
   refine' ao ?C ?D
   case C=>exact(kD (i:=2) pR.nd rfl VG (Hk rfl T.n_list rG (aO (ar G_H hr T.F_H (aa (dv 0) (aa (dv 1) ag))) aN)))
   case' D=>refine' ao ?E ?F
   case E=>exact(bj (i:=3) pR.nd rfl VG af)
   case' F=>refine' ao ?G ?H
   case G=>
    refine' sX Pg ?I ?J
    case I=>exact(aG iz dJ (dv 3) (PE.imp (aS bG rfl T.n_len OF (i8 (dw 2) aN)) (aT bK)) (aB _))
    case' J=>refine' ao ?K ?L
    case K=>exact(sR (i:=2) (pv 2) (kH rfl Ef (df (ar G_H hr T.F_H (aa (dv 0) (aa (d9 bT ck (dw 2) (df (dv 3))) ag)))) aV cI VC (λ_ _ _ _=>(aR (i:=0) Ef.nd rfl VG)) (λ_ _ _ _=>(fQ (oi (jc hr) fD (df (dv 0)) (dw 1) rfl))) (λ_ _ _ _=>(dv 0))))
    case' L=>refine' ai ?M
    case M=>exact(bj (i:=3) pR.nd rfl VG (aZ cA bX (dv 3) af))
   case' H=>refine' ai ?N
   case N=>exact(rN (pv 2))
  case B=>
  clear hr T G_H;have nd:=g.gp.nd;have pl:=g.gp.ln;walk_at "a";have a0:iV (ah xs) c (bM (ah xs) c) 0:=⟨uK nd c,λp hp=>.one ((gB hc).mp hp),λp hp=>hp,λj d hj=>by omega⟩;have l0:=iq a0.nd a0.sb;refine⟨xs,c,rfl,g,hc,_,.inr rfl,?_⟩;refine⟨λm δ=>∃(l:List Pp)(i:Nat),iV (ah xs) c l i/\i<=l.length/\m+i=(ah xs).length/\δ=[some (Sl.v (.tuple (xs.map De.enc))),some (Sl.v (.str c.nm)),some (Sl.o ((l.map (·.nm)).map .str)),some (Sl.v (.int (i:Int)))],⟨(ah xs).length,bM (ah xs) c,0,a0,PK _,VD,rfl⟩,?_⟩;rintro m δ ⟨l,i,hl,hi,hm,rfl⟩;have ll:=iq hl.nd hl.sb;walk_at "a";rw [Oi,Oi];by_cases hlt:i < l.length
  ·rw [VF VD];have hc':l[i]?=some l[i]:=OS hlt;have ho:=hl.next nd hc';have lo:=iq ho.nd ho.sb;rw [O4] at lo;refine⟨_,dG (j:=i) (by rw [OD,OD,hc'];rfl),xs,l[i],rfl,g,hl.sb _ (PB hlt),?_⟩;refine⟨_,rfl,by rw [Oi,Oi];have:=uB (c:=l[i]) g.gp;omega,?_⟩;refine fK (enc:=Ol) (λz=>!(l.map (·.nm)).contains z) Ol (λz hz R S h=>?_) ?_
   ·walk_at "a";obtain⟨p,hp,rfl⟩:=Ow.mp hz;refine⟨cP.mpr (g.gp.nm p (jt hp)),jZ λz hz=>?_,?_⟩
    ·obtain⟨p,hp,rfl⟩:=Ow.mp hz;exact g.gp.nm p (hl.sb p hp)
    ·rw [iR];simpa using h
   ·have e:(((bM (ah xs) l[i]).map (·.nm)).filter λz=>!(l.map (·.nm)).contains z)=(ik (ah xs) l l[i]).map (·.nm):=by
     unfold ik;rw [List.filter_map];congr 1;refine List.filter_congr λp hp=>?_;show(!(l.map (·.nm)).contains p.nm)=!iU l p;congr 1;refine Rl.mpr ?_;rw [mZ,P4,Ow];exact⟨λuu4=>by obtain⟨p',h1,h2⟩:=uu4;exact gS nd (hl.sb p' h1) (jt hp) h2▸h1,λh=>⟨p,h,rfl⟩⟩
    rw [e];refine⟨by rw [Oi,Oi];omega,m - 1,VD,_,i+1,ho,by rw [O4];omega,VD,by rw [O9,O9],VD⟩
  ·rw [VE VD];refine q (l.map (·.nm)) ⟨by rw [Oi];omega,λz=>?_⟩;rw [Ow];exact⟨λuu5=>by obtain⟨p,hp,e⟩:=uu5;exact⟨p,hl.an p hp,e⟩,λuu6=>by obtain⟨p,hp,e⟩:=uu6;exact⟨p,hl.all VD hp,e⟩⟩
inductive Wf (ps:List Pp):Pp->List Str->Pp->Prop
 | nil {c:Pp}:Wf ps c [] c
 | cons {c m p:Pp} {es:List Str}:m∈bM ps c->Wf ps m es p->Wf ps c (m.nm::es) p
theorem Wf.snoc{ps:List Pp}{c p m:Pp}{es:List Str}(h:Wf ps c es p)(hm:m∈bM ps p):Wf ps c (es++[m.nm]) m:=by
 induction h with
 | nil=>exact .cons hm .nil
 | cons a _ ih=>exact .cons a (ih hm)
theorem Wf.anc{ps:List Pp}{c p:Pp}{es:List Str}(h:Wf ps c es p)(hc:c∈ps):es=[]/\p=c\/es≠[]/\bZ ps p c:=by
 induction h with
 | nil=>exact .inl ⟨rfl,rfl⟩
 | cons a _ ih=>
  have mk:=(gB hc).mp a;refine .inr ⟨VH,?_⟩;rcases ih mk.1 with⟨_,e⟩ | ⟨_,e⟩
  ·rw [e];exact .one mk
  ·exact .more e mk
theorem Wf.way{ps:List Pp}(nd:(ps.map (·.nm)).Nodup){c p:Pp}{es:List Str}(h:Wf ps c es p):ft ps c (es.map .str)=true:=by
 induction h with
 | nil=>rfl
 | @cons c m p es a _ ih=>
  rw [Ov];unfold ft;cases hf:(bM ps c).find? λm'=>Om (.str m'.nm) (.str m.nm) with
  | none=>exact absurd (PJ.mp hf m a) (by simp [Om])
  | some m'=>
   have e:m'.nm=m.nm:=by simpa [Om] using Qr hf
   rw [gS nd (jt (Pt hf)) (jt a) e];exact ih
def fM(W:List (Str×List Str)):List (ak×VI):=W.map λp=>(.inr p.1,.tuple (p.2.map .str))
theorem Ej(W:List (Str×List Str))(z:Str):cy (fM W) (.inr z)=(W.find? λp=>decide (p.1=z)).map λp=>.tuple (p.2.map .str):=by
 unfold cy fM;rw [List.find?_map,Option.map_map];have e:((λp:ak×VI=>decide (p.1=PM z))∘ λp:Str×List Str=>(PM p.1,Oz (p.2.map .str)))=λp=>decide (p.1=z):=by
  funext p;exact decide_eq_decide.mpr ⟨λh=>Tp h,λh=>by rw [<-h]⟩
 rw [e];rfl
theorem NA(W:List (Str×List Str))(z:Str):(cy (fM W) (.inr z)).isSome=decide (z∈W.map (·.1)):=by
 rw [Ej,RX,Rl,List.find?_isSome,decide_eq_true_iff,Ow];exact⟨λuu7=>by obtain⟨p,h,e⟩:=uu7;exact⟨p,h,of_decide_eq_true e⟩,λuu8=>by obtain⟨p,h,e⟩:=uu8;exact⟨p,h,decide_eq_true e⟩⟩
theorem NB{W:List (Str×List Str)}{z:Str}(ws:List Str)(h:z ∉ W.map (·.1)):eg (fM W) (.inr z) (.tuple (ws.map .str))=fM (W++[(z,ws)]):=by
 unfold eg;rw [VE]
 ·unfold fM;rw [O9];rfl
 ·intro e;obtain⟨q,hq,e⟩:=PX.mp e;obtain⟨p,hp,rfl⟩:=Ow.mp hq;exact h (Ow.mpr ⟨p,hp,Tp (of_decide_eq_true e)⟩)
def ng(ps:List Pp)(c:Pp)(n:Nat)(e:Str×List Str):Prop:=∃(p:Pp)(es:List Str),p∈ps/\p.nm=e.1/\e.2=c.nm::es/\Wf ps c es p/\(e.1=c.nm->es=[])/\es.length<=n
theorem ng.mono{ps:List Pp}{c:Pp}{n m:Nat}{e:Str×List Str}(h:ng ps c n e)(hm:n<=m):ng ps c m e:=by
 obtain⟨p,es,a1,a2,a3,a4,a5,a6⟩:=h;exact⟨p,es,a1,a2,a3,a4,a5,VD⟩
structure fN (ps:List Pp) (c:Pp) (n:Nat) (W:List (Str×List Str)):Prop where
 hd:∃r,W=(c.nm,[c.nm])::r
 nd:(W.map (·.1)).Nodup
 en:∀e∈W,ng ps c n e
theorem fN.ln{ps:List Pp}{c:Pp}{n:Nat}{W:List (Str×List Str)}(h:fN ps c n W):W.length<=ps.length:=by
 have:=iq (l:=W.map (·.1)) (L:=ps.map (·.nm)) h.nd λz hz=>by
  obtain⟨e,he,rfl⟩:=Ow.mp hz;obtain⟨p,_,hp,en,_⟩:=h.en e he;exact Ow.mpr ⟨p,hp,en⟩
 rwa [Oi,Oi] at this
theorem fN.mono{ps:List Pp}{c:Pp}{n m:Nat}{W:List (Str×List Str)}(h:fN ps c n W)(hm:n<=m):fN ps c m W:=⟨h.hd,h.nd,λe he=>(h.en e he).mono hm⟩
theorem fN.c{ps:List Pp}{c:Pp}{n:Nat}{W:List (Str×List Str)}(h:fN ps c n W):c.nm∈W.map (·.1):=by
 obtain⟨r,e⟩:=h.hd;rw [e];simp
theorem fN.add{ps:List Pp}{c:Pp}{n:Nat}{W:List (Str×List Str)}(h:fN ps c n W){p m:Pp}{es:List Str}(hw:Wf ps c es p)(hm:m∈bM ps p)(hn:m.nm ∉ W.map (·.1))(hl:es.length+1<=n):fN ps c n (W++[(m.nm,c.nm::es++[m.nm])]):=by
 refine⟨?_,?_,λe he=>?_⟩
 ·obtain⟨r,e⟩:=h.hd;exact⟨r++[(m.nm,c.nm::es++[m.nm])],by rw [e];rfl⟩
 ·rw [O9,RY];refine⟨h.nd,VH,λa ha b hb e=>?_⟩;simp only [Ov,PV,ON] at hb;rw [e,hb] at ha;exact hn ha
 ·rcases OJ.mp he with z | z
  ·exact h.en e z
  ·rw [ON.mp z];exact⟨m,es++[m.nm],jt hm,rfl,rfl,hw.snoc hm,λe=>absurd h.c (by rw [<-e];exact hn),by rw [O4];exact hl⟩
def uM(ps:List Pp)(c:Pp)(l:List Pp):Prop:=∀(k:Nat)(p:Pp),l[k]?=some p->p=c\/∃(j:Nat)(d:Pp),j < k/\l[j]?=some d/\p∈bM ps d
theorem Ek{ps:List Pp}{c:Pp}:∀(f:Nat)(l:List Pp)(i:Nat),uM ps c l->uM ps c (eG ps f l i)
 | 0,_,_,h=>h
 | f+1,l,i,h=>by
  rw [eG];cases hd:l[i]? with
  | none=>exact h
  | some d=>
   refine Ek f _ _ λk p hk=>?_;have il:=(Oy.mp hd).1;by_cases hlt:k < l.length
   ·rw [Pr hlt] at hk;rcases h k p hk with e | ⟨j,d',hj,e1,e2⟩
    ·exact .inl e
    ·exact .inr ⟨j,d',hj,by rw [Pr VD];exact e1,e2⟩
   ·rw [Qj VD] at hk;exact .inr ⟨i,d,VD,by rw [Pr il];exact hd,(O7.mp (OH hk)).1⟩
theorem NC(ps:List Pp)(c:Pp):uM ps c (dQ ps c):=Ek _ _ _ λk p hk=>by
 cases k with
 | zero=>cases hk;exact .inl rfl
 | succ k=>simp at hk
structure nj (ps:List Pp) (c:Pp) (W:List (Str×List Str)):Prop where
 i:fN ps c 41 W
 al:∀q,q=c\/bZ ps q c->q.nm∈W.map (·.1)
def uN(W:List (Str×List Str)):VI:=jk (W.map (·.1)) (W.map λp=>.tuple (p.2.map .str))
def ND:List VI->(VI->Prop)->Prop:=λds Q=>∃(xs:List De)(c:Pp),ds=[.tuple (xs.map De.enc),.str c.nm]/\cW xs/\c∈ah xs/\∀W,nj (ah xs) c W->Q (uN W)
theorem uO(T:Txt K mg t):aF P w K mg base aK 7 t.a_J t.d_J ["deeds","paper"] (aQ K ND):=by
 have G_I:=@Ec P w _ _ base _ T;have G_H:=@pZ P w _ _ base _ T;refine T.F_J.F.okD ie (λds Q h=>?_) (λ_ _ _ _ H O ds Q E hr h=>?_)
 ·obtain⟨xs,c,rfl,_⟩:=h;rfl
 ·obtain⟨xs,c,rfl,g,hc,q⟩:=h;refine'⟨_,?A,?B⟩
  case A=>
   refine' ao ?C ?D
   case C=>exact(bj (i:=2) ie.nd rfl VG (ar G_I hr T.F_I (aa (dv 0) (aa (dv 1) ag))))
   case' D=>refine' ao ?E ?F
   case E=>
    generalize hD4:U7 _ _ _=ed4;refine' oU (i:=3) ie.nd rfl VG ?G (hs:=by subst hD4;first | rfl | exact sL)
    case' G=>subst hD4
    refine' Cr ?p4_0
    case p4_0=>
     refine' kQ (dv 1) ?H ?p4_1
     case H=>exact(bg (aa (dv 1) ag))
     case p4_1=>exact sT
   case' F=>refine' ao ?I ?J
   case I=>
    refine' ot Pg rfl (dv 2) ?K aV ?L
    case K=>exact(aR (i:=4) ie.nd rfl VG)
    case' L=>refine' ai ?M
    case' M=>refine' fW Pg rfl (ar G_H hr T.F_H (aa (dv 0) (aa (ax aC aD (dv 4) af) ag))) ?N aV ?O
    case N=>exact(aR (i:=5) ie.nd rfl VG)
    case' O=>refine' ai ?P
    case P=>exact(CC (i:=3) (pv 3) (dv 5) (aZ B0 B2 (oV (i:=3) hr.units (pv 3) (ax aC aD (dv 4) af) (λ_ _=>rfl)) (bg (aa (dv 5) ag))) ⟨rfl,rfl,rfl,rfl⟩)
   case' J=>refine' ai ?Q
   case' Q=>refine' BW 3 ?R
   case R=>exact(ay (dv 3))
  case B=>
  clear hr T G_I G_H;have nd:=g.gp.nd;have pl:=g.gp.ln;walk_at "a";refine⟨xs,c,rfl,g,hc,[(.inr c.nm,[c.nm])],rfl,VH,?_⟩;have lk:=qj nd hc;have ll:=iq lk.nd lk.sb;have lb:=NC (ah xs) c;have lm:∀q,q∈dQ (ah xs) c↔q=c\/bZ (ah xs) q c:=λq=>uL nd hc;generalize dQ (ah xs) c=L at lk ll lb lm⊢;refine⟨_,rfl,λi δ=>∃(W:List (Str×List Str))(o4 o5:Option Sl),fN (ah xs) c i W/\(∀j d,j < i->L[j]?=some d->∀m∈bM (ah xs) d,m.nm∈W.map (·.1))/\δ=[some (Sl.v (.tuple (xs.map De.enc))),some (Sl.v (.str c.nm)),some (Sl.v (.list (L.map Pp.enc))),some (Sl.k (fM W)),o4,o5],⟨[(c.nm,[c.nm])],_,_,⟨⟨[],rfl⟩,VH,?_⟩,λj d hj=>by omega,rfl⟩,?_,?_⟩
  ·intro e he;rw [ON.mp he];exact⟨c,[],hc,rfl,rfl,.nil,λ_=>rfl,PK _⟩
  ·rintro i z δ hz ⟨W,o4,o5,hW,hm,rfl⟩;rw [OD] at hz;cases hz':L[i]? with
   | none=>rw [hz'] at hz;cases hz
   | some d=>
    rw [hz'] at hz;cases hz;have hd:=lk.sb d (OH hz');have il:=(Oy.mp hz').1;have dk:d.nm∈W.map (·.1):=by
     rcases lb i d hz' with e | ⟨j,d',hj,e1,e2⟩
     ·rw [e];exact hW.c
     ·exact hm j d' hj e1 d e2
    obtain⟨e,hf,p,es,hp,a1,a2,a3,a4,a5⟩:∃e,(W.find? λp=>decide (p.1=d.nm))=some e/\ng (ah xs) c i e:=by
     cases hf:W.find? λp=>decide (p.1=d.nm) with
     | none=>
      obtain⟨e,he,en⟩:=Ow.mp dk;exact absurd (PJ.mp hf e he) (by rw [decide_eq_true en];simp)
     | some e=>exact⟨e,rfl,hW.en e (Pt hf)⟩
    have en:e.1=d.nm:=by simpa using Qr hf
    obtain rfl:p=d:=gS nd hp hd (a1.trans en);simp only [Pp.enc];walk_at "a";refine⟨xs,p,rfl,g,hd,_,rfl,?_⟩;refine⟨λk δ=>∃(r:List (Str×List Str))(o5:Option Sl),fN (ah xs) c (i+1) (W++r)/\(∀j m,j < k->(bM (ah xs) p)[j]?=some m->m.nm∈(W++r).map (·.1))/\δ=[some (Sl.v (.tuple (xs.map De.enc))),some (Sl.v (.str c.nm)),some (Sl.v (.list (L.map Pp.enc))),some (Sl.k (fM (W++r))),some (Sl.v p.enc),o5],⟨[],_,by rw [Po];exact hW.mono VD,λj m hj=>by omega,by rw [Po];rfl⟩,?_,?_⟩
    ·rintro k z δ hz ⟨r,o5,hr,hk,rfl⟩;rw [OD,OD] at hz;cases hz2:(bM (ah xs) p)[k]? with
     | none=>rw [hz2] at hz;cases hz
     | some m=>
      rw [hz2] at hz;cases hz;have hm2:=OH hz2;have rl:=hr.ln;simp only [Pp.enc];walk_at "a";have vl:cy (fM (W++r)) (.inr p.nm)=some (.tuple (e.2.map .str)):=by
       rw [Ej,UI,hf];rfl
      refine⟨_,vl,_,rfl,by rw [a2,Oi,OG];omega,by unfold fM;rw [Oi];omega,?_⟩;have kk:∀r':List (Str×List Str),(∀z,z∈(W++r).map (·.1)->z∈(W++r').map (·.1))->m.nm∈(W++r').map (·.1)->∀(j:Nat)(m':Pp),j < k+1->(bM (ah xs) p)[j]?=some m'->m'.nm∈(W++r').map (·.1):=λr' h1 h2 j m' hj hm'=>by
       by_cases ej:j=k
       ·subst ej;rw [hz2] at hm';cases hm';exact h2
       ·exact h1 _ (hk j m' VD hm')
      rw [NA];by_cases hin:m.nm∈(W++r).map (·.1)
      ·rw [VF (decide_eq_true hin)];exact⟨r,hr,kk r (λ_ h=>h) hin,rfl,_,rfl⟩
      ·rw [VE (by rw [decide_eq_true_iff];exact hin)];have ad:=hr.add a3 hm2 hin VD;refine⟨r++[(m.nm,c.nm::es++[m.nm])],by rw [<-Qv];exact ad,kk _ (λz h=>?_) ?_,?_,_,rfl⟩
       ·rw [<-Qv,O9];exact Pz _ h
       ·rw [<-Qv,O9];exact Pa _ VH
       ·rw [<-Qv,<-NB _ hin,a2,O9];rfl
    ·rintro δ ⟨r,o5,hr,hk,rfl⟩;refine⟨W++r,hr,λj d hj hd2 m hm2=>?_,_,_,rfl⟩;by_cases ej:j=i
     ·subst ej;rw [hz'] at hd2;cases hd2;obtain⟨k,hk2⟩:=QP hm2;have:=(Oy.mp hk2).1;exact hk k m (by rw [Oi,Oi];exact this) hk2
     ·rw [O9];exact Pz _ (hm j d VD hd2 m hm2)
  ·rintro δ ⟨W,o4,o5,hW,hm,rfl⟩;rw [Oi] at hW hm;walk_at "a";refine⟨W.map (·.1),by unfold fM;rw [Pl,Pl];rfl,?_⟩;have e2:(fM W).map (·.2)=W.map λp=>Oz (p.2.map .str):=by unfold fM;rw [Pl];rfl
   rw [e2];refine q W ⟨hW.mono VD,λz hz=>?_⟩;obtain⟨k,hk⟩:=QP ((lm z).mpr hz);rcases lb k z hk with e | ⟨j,d',hj,e1,e3⟩
   ·rw [e];exact hW.c
   ·exact hm j d' (Oy.mp e1).1 e1 z e3
end
theorem qm:bt (aA pE) ["deeds","day","paper","hold","ways","name","target","deep","reached","told"] ["other","target","deeds"] 1 [6,0] ⟨OE,[ (Oj ".0",Xy),(Oj "other",Xy),(Oj "is_told",OT),(Oj "coming_of",OT),(Oj "deeds",OM),(Oj "target",OM)],false,false,[]⟩:= .of
section
variable {P:VW} {w:VZ} {K:Og} {mg:Str->Option VJ} {base:VY} {t:cz}
theorem nj.key{ps:List Pp}{c:Pp}{W:List (Str×List Str)}(h:nj ps c W)(hc:c∈ps){o:Pp}(ho:o∈ps)(nd:(ps.map (·.nm)).Nodup):o.nm∈W.map (·.1)↔o=c\/bZ ps o c:=by
 constructor
 ·intro hz;obtain⟨e,he,en⟩:=Ow.mp hz;obtain⟨p,es,hp,a1,a2,a3,_⟩:=h.i.en e he;have:p=o:=gS nd hp ho (a1.trans en);rw [this] at a3;rcases a3.anc hc with z | z
  ·exact .inl z.2
  ·exact .inr z.2
 ·exact h.al o
theorem El{W:List (Str×List Str)}{z:Str}:dY (W.map (·.1)) (W.map λp=>Oz (p.2.map .str)) z=(W.find? λp=>decide (p.1=z)).map λp=>.tuple (p.2.map .str):=by
 induction W with
 | nil=>rfl
 | cons a W ih=>
  rw [Ov,Ov,Qc];by_cases h:a.1=z
  ·rw [decide_eq_true h];simp [dY,h]
  ·rw [decide_eq_false h,<-ih];simp [dY,h]
theorem nj.get{ps:List Pp}{c:Pp}{W:List (Str×List Str)}(h:nj ps c W){o:Pp}(ho:o∈ps)(nd:(ps.map (·.nm)).Nodup)(hk:o.nm∈W.map (·.1)):∃es:List Str,dY (W.map (·.1)) (W.map λp=>Oz (p.2.map .str)) o.nm=some (.tuple ((c.nm::es).map .str))/\Wf ps c es o/\(o.nm=c.nm->es=[])/\es.length<=41:=by
 rw [El];cases hf:W.find? λp=>decide (p.1=o.nm) with
 | none=>
  obtain⟨e,he,en⟩:=Ow.mp hk;exact absurd (PJ.mp hf e he) (by rw [decide_eq_true en];simp)
 | some e=>
  have he:=Pt hf;have en:e.1=o.nm:=by simpa using Qr hf
  obtain⟨p,es,hp,a1,a2,a3,a4,a5⟩:=h.i.en e he;have:p=o:=gS nd hp ho (a1.trans en);rw [this] at a3;exact⟨es,by rw [UZ,a2],a3,λz=>a4 (en.trans z),a5⟩
def qo(xs:List De)(c o:Str):VI:= .tuple [.str (Oh "made"),.tuple (xs.map De.enc),.str c,.str o]
def nk(xs:List De)(n:Int)(c o:Str):VI:= .tuple [.str (Oh "covered"),.tuple (xs.map De.enc),.int n,.str c,.str o]
def gU(c:Pp)(es:List Str):VI:= .tuple ((c.nm::es).map .str)
def NF:List VI->(VI->Prop)->Prop:=λds Q=>∃(xs:List De)(c o:Pp),ds=[.tuple (xs.map De.enc),.str c.nm,.str o.nm]/\cW xs/\c∈ah xs/\o∈ah xs/\(¬bZ (ah xs) o c->Q .none)/\(bZ (ah xs) o c->∀es,Wf (ah xs) c es o->es≠[]->es.length<=41->Q (.tuple [qo xs c.nm o.nm,gU c es]))
theorem NG(T:Txt K mg t):aF P w K mg base aK 8 t.a_P t.d_P ["deeds","paper","other"] (aQ K NF):=by
 have G_J:=@uO P w _ _ base _ T;have G_E:=@lq P w _ _ base _ T;refine T.F_P.F.okD k6 (λds Q h=>?_) (λ_ _ _ _ H O ds Q E hr h=>?_)
 ·obtain⟨xs,c,o,rfl,_⟩:=h;rfl
 ·obtain⟨xs,c,o,rfl,g,hc,ho,q0,q1⟩:=h;refine'⟨_,?A,?B⟩
  case A=>
   refine' ao ?C ?D
   case C=>exact(bj (i:=3) k6.nd rfl VG (ar G_J hr T.F_J (aa (dv 0) (aa (dv 1) ag))))
   case' D=>refine' ao ?E ?F
   case E=>exact(rO (ar G_E hr T.F_E (aa (dv 0) (aa (dv 2) ag))))
   case' F=>refine' ao ?G ?H
   case G=>
    refine' aM ?I ?J aL
    case I=>exact(PW.pt (cS (aG (bA hr.units) bB (dv 1) (dv 2) (aB _)) (dH (tq hr.units (dv 3) (dv 2)))))
    case J=>refine' ai (ay iC)
   case' H=>refine' ai ?K
   case' K=>refine' ay ?L
   case' L=>refine' bg ?M
   case' M=>refine' aa ?N ?O
   case N=>exact(bg (aa aJ (aa (dv 0) (aa (dv 1) (aa (dv 2) ag)))))
   case' O=>refine' aa ?P ag
   case P=>exact(mG hr.units (dv 3) (dv 2) (λ_ _=>rfl))
  case B=>
  clear hr T G_J G_E;have nd:=g.gp.nd;walk_at "a";refine⟨xs,c,rfl,g,hc,λW hW=>⟨xs,o,rfl,g,ho,?_⟩⟩;have irr:¬bZ (ah xs) c c:=λa=>Pp.lt_irr c a.lt;dsimp only;refine⟨cP.mpr (g.gp.nm c hc),cP.mpr (g.gp.nm o ho),?_⟩;by_cases e:o=c
  ·subst e;rw [VF (beq_self_eq_true _)];exact q0 irr
  ·rw [VE (by rw [beq_iff_eq];exact λz=>e (gS nd ho hc z.symm))];refine⟨W.map (·.1),_,rfl,?_⟩;by_cases hk:o.nm∈W.map (·.1)
   ·obtain⟨es,e1,e2,e3,e4⟩:=hW.get ho nd hk;rw [e1,VE VH];refine⟨_,_,rfl,_,e1,?_⟩;have a:=((hW.key hc ho nd).mp hk).resolve_left e;refine q1 a es e2 (λz=>?_) e4;rw [z] at e2;cases e2;exact e rfl
   ·have e1:dY (W.map (·.1)) (W.map λp=>Oz (p.2.map .str)) o.nm=none:=by
     rw [El,PJ.mpr λe he=>?_]
     ·rfl
     ·rw [decide_eq_true_iff];exact λz=>hk (Ow.mpr ⟨e,he,z⟩)
    rw [e1];exact q0 λa=>hk (hW.al o (.inr a))
def NH:List VI->(VI->Prop)->Prop:=λds Q=>∃(xs:List De)(n:Int)(c:Pp)(bar:Str),ds=[.tuple (xs.map De.enc),.int n,.str c.nm,.str bar]/\cG xs/\c∈ah xs/\Nm bar/\(bar ∉ fL (cH xs n) (dQ (ah xs) c)->Q .none)/\(j4 (cH xs n)->∀h∈cH xs n,h.nm=bar->∀p es,p∈ah xs->Wf (ah xs) c es p->cX h.ip h.tn p=true->(h.dp=false->es=[])->es.length<=41->Q (.tuple [nk xs n c.nm bar,gU c es]))
theorem NI(T:Txt K mg t):aF P w K mg base aK 8 t.a_Q t.d_Q ["deeds","day","paper","hold"] (aQ K NH):=by
 have G_J:=@uO P w _ _ base _ T;have G_E:=@lq P w _ _ base _ T;have G_L:=@qc P w _ _ base _ T;have G_M:=@qg P w _ _ base _ T;refine T.F_Q.F.okD fq (λds Q h=>?_) (λ_ _ _ _ H O ds Q E hr h=>?_)
 ·obtain⟨xs,n,c,bar,rfl,_⟩:=h;rfl
 ·obtain⟨xs,n,c,bar,rfl,gl,hc,hb,q0,q1⟩:=h;refine'⟨_,?A,?B⟩
  case A=>
   refine' ao ?C ?D
   case C=>exact(bj (i:=4) fq.nd rfl VG (ar G_J hr T.F_J (aa (dv 0) (aa (dv 2) ag))))
   case' D=>refine' ao ?E ?F
   case E=>
    refine' fW Pg rfl (ar G_L hr T.F_L (aa (dv 0) (aa (dv 1) ag))) ?G (kG (dW aV (dW aV (dW aV kF)))) ?H
    case G=>exact(jx (n:=3) rfl (di (aR (i:=5) fq.nd rfl VG) (di (aR (i:=6) fq.nd rfl VG) (di (aR (i:=7) fq.nd rfl VG) jw))))
    case' H=>refine' ao ?I ?J
    case I=>
     refine' bj (i:=8) fq.nd rfl VG ?K (hs:=A6)
     case K=>exact(oj (bQ (dv 7)) (fe (CF rfl rfl T.n_list rG (dv 4))) (fe (cZ (aa (dv 2) ag))))
    case' J=>refine' ao ?L ?M
    case L=>exact(mi (i:=9) fq.nd rfl VG (oM rfl qm (df (dv 8)) aV cI VC (λ_ _ _ _=>(aR (i:=0) qm.nd rfl VG)) (λ_ _ _ _=>(fQ (bQ (ar G_M hr T.F_M (aa (dv 1) (aa (ar G_E hr T.F_E (aa (dv 2) (aa (dv 0) ag))) ag)))))) (λ_ _ _ _=>(dv 0))))
    case' M=>refine' ai ?N
    case' N=>refine' aM ?O ?P aL
    case O=>exact(PW.pt (cj (aG (bA hr.units) bB (dv 5) (dv 3) (aB _)) (cw (Cg (dv 9)))))
    case' P=>refine' ai ?Q
    case' Q=>refine' ay ?R
    case' R=>refine' bg ?S
    case' S=>refine' aa ?T ?U
    case T=>exact(bg (aa aJ (aa (dv 0) (aa (dv 1) (aa (dv 2) (aa (dv 5) ag))))))
    case' U=>refine' aa ?V ag
    case V=>exact(mG hr.units (dv 4) (ax bT ck (dv 9) af) (λ_ _=>rfl))
   case F=>refine' ai (ay iC)
  case B=>
  clear hr T G_J G_E G_L G_M;have g:=gl.good;have nd:=g.gp.nd;walk_at "a";refine⟨xs,c,rfl,g,hc,λW hW=>⟨xs,n,rfl,gl,λhk=>?_⟩⟩;dsimp only;generalize hL:dQ (ah xs) c=L at q0;have lm:∀q,q∈L↔q=c\/bZ (ah xs) q c:=λq=>by rw [<-hL];exact uL nd hc
  have l1:L.take 1=[c]:=by
   obtain⟨r,e⟩:=(qj nd hc).hd;rw [<-hL,e];rfl
  clear hL;generalize cH xs n=hs at hk q0 q1;refine⟨_,rfl,λi δ=>(∀h∈hs.take i,h.nm=bar->fu L h=false)/\∃o5 o6 o7 o8 o9:Option Sl,δ=[some (Sl.v (Oz (O8 De.enc xs))),some (Sl.v (Ou n)),some (Sl.v (Ol c.nm)),some (Sl.v (Ol bar)),some (Sl.v (uN W)),o5,o6,o7,o8,o9],⟨VH,_,_,_,_,_,rfl⟩,?_,?_⟩
  ·rintro i z δ hz ⟨hb4,o5,o6,o7,o8,o9,rfl⟩;rw [OD] at hz;cases hz':hs[i]? with
   | none=>rw [hz'] at hz;cases hz
   | some h=>
    rw [hz'] at hz;cases hz;have hh:=OH hz';have tk:hs.take (i+1)=hs.take i++[h]:=by rw [Qa,hz'];rfl
    have no:(h.nm=bar->fu L h=false)->∀h'∈hs.take (i+1),h'.nm=bar->fu L h'=false:=λe h' hh'=>by
     rw [tk] at hh';rcases OJ.mp hh' with a | a
     ·exact hb4 h' a
     ·rw [ON.mp a];exact e
    simp only [Hd.enc];walk_at "a";have key:∀(R:List Pp)(S:List VI->Prop),(∀p∈R,p∈ah xs)->S ((R.filter (cX h.ip h.tn)).map λp=>.str p.nm)->fA (lW 0) (fV (iD qf (fT (cC 1) (fT (iD uz (fT (cC 2) (fT (cC 0) jF))) jF)))) (cC 0) [none,some (Sl.v (gC h.ip h.tn)),some (Sl.v (Oz (O8 De.enc xs)))] (R.map λp=>.str p.nm) S:=λR S hR hS=>by
     refine fK (enc:=λp:Pp=>Ol p.nm) (cX h.ip h.tn) (λp=>.str p.nm) (λp hp R' S' h'=>?_) hS;walk_at "a";exact⟨xs,p,rfl,g,hR p hp,h.ip,h.tn,p,rfl,(hk.tn h hh).ok,g.gp.nm p (hR p hp),g.gp.kd p (hR p hp),_,rfl,h'⟩
    have post:∀(R:List Pp),(∀p∈R,p∈ah xs/\p.nm∈W.map (·.1)/\(h.dp=false->p=c))->fu L h=R.any (cX h.ip h.tn)->∀ds:List VI,ds=((R.filter (cX h.ip h.tn)).map λp=>Ol p.nm)->
     OA (.str h.nm)=true/\OA (.str bar)=true/\if (h.nm==bar)=true then if ds.isEmpty=false then ∃ks ds_1,uN W=jk ks ds_1/\∃x,atI ds 0=some x/\∃z,x= .str z/\∃d,dY ks ds_1 z=some d/\Q (.tuple [nk xs n c.nm h.nm,d])
      else(∀(h:Hd),h∈List.take (i+1) hs->h.nm=bar->fu L h=false)/\∃x,some (Sl.v (PL ds))=x
     else(∀(h:Hd),h∈List.take (i+1) hs->h.nm=bar->fu L h=false)/\∃x,some (Sl.v (PL ds))=x:=λR hR hC ds eds=>by
     refine⟨cP.mpr (hk.nm h hh).ok,cP.mpr hb.ok,?_⟩;by_cases e:h.nm=bar
     ·rw [VF (by rw [e];exact beq_self_eq_true _)];cases hf:R.filter (cX h.ip h.tn) with
      | nil=>
       rw [hf] at eds;subst eds;refine⟨no λ_=>?_,_,rfl⟩;rw [hC,R0];exact List.filter_eq_nil_iff.mp hf
      | cons p r=>
       rw [hf] at eds;have hp:=O7.mp (show p∈R.filter (cX h.ip h.tn) by rw [hf];simp);obtain⟨p1,p2,p3⟩:=hR p hp.1;obtain⟨es,e1,e2,e3,e4⟩:=hW.get p1 nd p2;subst eds;refine⟨W.map (·.1),_,rfl,.str p.nm,by rw [Ov];exact dM,_,rfl,_,e1,?_⟩;rw [e];exact q1 hk h hh e p es p1 e2 hp.2 (λz=>e3 (by rw [p3 z])) e4
     ·rw [VE (by rw [beq_iff_eq];exact e)];exact⟨no λz=>absurd z e,_,rfl⟩
    cases hd:h.dp with
    | true=>
     rw [VF rfl];obtain⟨R,eR,hR⟩:∃R:List Pp,(R.map λp=>Ol p.nm)=(W.map (·.1)).map Ol/\∀p,p∈R->p∈ah xs/\p.nm∈W.map (·.1):=by
      have:∀W':List (Str×List Str),(∀e∈W',e∈W)->∃R:List Pp,(R.map λp=>Ol p.nm)=(W'.map (·.1)).map Ol/\∀p,p∈R->p∈ah xs/\p.nm∈W.map (·.1):=by
       intro W'
       induction W' with
       | nil=>exact λ_=>⟨[],rfl,VH⟩
       | cons e W' ih=>
        intro hw;obtain⟨R,a,b⟩:=ih λx hx=>hw x (by simp [hx]);obtain⟨p,_,hp,en,_⟩:=hW.i.en e (hw e VH);refine⟨p::R,by rw [Ov,Ov,Ov,a,en],λx hx=>?_⟩;rcases Ox.mp hx with z | z
        ·rw [z];exact⟨hp,by rw [en];exact Ow.mpr ⟨e,hw e VH,rfl⟩⟩
        ·exact b x z
      exact this W λ_ h=>h
     have wl:=hW.i.ln;have wx:=g.gp.ln;refine⟨W.map (·.1),⟨_,rfl⟩,by rw [Oi,Oi];omega,?_⟩;rw [<-eR];refine key R _ (λp hp=>(hR p hp).1) (post R (λp hp=>⟨(hR p hp).1,(hR p hp).2,λz=>by rw [hd] at z;cases z⟩) ?_ _ rfl);unfold fu;rw [hd,VF rfl,Rl,PX,PX];constructor
     ·rintro⟨q,hq,e⟩;have hqp:q∈ah xs:=by
       rcases(lm q).mp hq with z | z
       ·rw [z];exact hc
       ·exact z.mem.1
      have:Ol q.nm∈(W.map (·.1)).map Ol:=Ow.mpr ⟨_,(hW.key hc hqp nd).mpr ((lm q).mp hq),rfl⟩;rw [<-eR] at this;obtain⟨q',hq',e2⟩:=Ow.mp this;have:q'=q:=gS nd (hR q' hq').1 hqp (Ol.inj e2);exact⟨q,by rw [<-this];exact hq',e⟩
     ·rintro⟨q,hq,e⟩;exact⟨q,(lm q).mpr ((hW.key hc (hR q hq).1 nd).mp (hR q hq).2),e⟩
    | false=>
     rw [VE O6];refine key [c] _ (λp hp=>by rw [ON.mp hp];exact hc) (post [c] (λp hp=>by rw [ON.mp hp];exact⟨hc,hW.i.c,λ_=>rfl⟩) ?_ _ rfl);unfold fu;rw [hd,VE O6,l1]
  ·rintro δ ⟨hb4,o5,o6,o7,o8,o9,rfl⟩;rw [Oi,Pd (Ot _)] at hb4;walk_at "a";refine q0 λhm=>?_;obtain⟨h,hh,e⟩:=Ow.mp hm;obtain⟨h1,h2⟩:=O7.mp hh;rw [hb4 h h1 e] at h2;cases h2
theorem NJ{ps:List Pp}{c m:Pp}(h:m∈bM ps c):m∈ps:=by
 unfold bM at h;exact eV.mp (O7.mp h).1
theorem Em{ps:List Pp}:∀{es:List VI}{c:Pp},ft ps c es=true->∀e∈es,∃z∈ps.map (·.nm),e= .str z
 | e::es,c,h,x,hx=>by
  unfold ft at h;cases hf:(bM ps c).find? λm=>Om (.str m.nm) e with
  | none=>rw [hf] at h;cases h
  | some m=>
   rw [hf] at h;rcases Ox.mp hx with z | z
   ·rw [z];exact⟨m.nm,Ow.mpr ⟨m,NJ (Pt hf),rfl⟩,DR (by simpa using Qr hf)⟩
   ·exact Em h x z
def uP(ps:List Pp):VI->Bool
 | .str z=>decide (z∈ps.map (·.nm))
 | _=>false
theorem Eo{ps:List Pp}:∀{l:List VI},l.all (uP ps)=true->∃zs:List Str,l=zs.map .str/\∀z∈zs,z∈ps.map (·.nm)
 | [],_=>⟨[],rfl,VH⟩
 | d::l,h=>by
  rw [TZ,OI] at h;obtain⟨zs,e,hz⟩:=Eo h.2;cases d with
  | str z=>exact⟨z::zs,by rw [e];rfl,λy hy=>by
   rcases Ox.mp hy with q | q
   ·rw [q];exact of_decide_eq_true h.1
   ·exact hz y q⟩
  | _=>exact absurd h.1 (by simp [uP])
theorem lB{ps:List Pp}(nd:(ps.map (·.nm)).Nodup){c:Pp}(hc:c∈ps):(ps.find? λp=>p.nm==c.nm)=some c:=by
 cases hf:ps.find? λp=>p.nm==c.nm with
 | none=>exact absurd (PJ.mp hf c hc) VH
 | some p=>
  have e:p.nm=c.nm:=by simpa using Qr hf
  rw [gS nd (Pt hf) hc e]
theorem NK{ps:List Pp}{c:Pp}{l:List VI}(hc:c∈ps)(h:eF ps c (.tuple l)=true):∃(zs:List Str),l=zs.map .str/\zs≠[]/\∀z∈zs,z∈ps.map (·.nm):=by
 cases l with
 | nil=>simp [eF] at h
 | cons e es=>
  have wd:eF ps c (.tuple (e::es))=(Om e (.str c.nm) && ft ps c es):=rfl;rw [wd,OI] at h;have al:(e::es).all (uP ps)=true:=by
   rw [Qe];intro x hx;rcases Ox.mp hx with z | z
   ·rw [z,DQ h.1];exact decide_eq_true (Ow.mpr ⟨c,hc,rfl⟩)
   ·obtain⟨y,hy,rfl⟩:=Em h.2 x z;exact decide_eq_true hy
  obtain⟨zs,ez,hz⟩:=Eo al;exact⟨zs,ez,(λe=>by rw [e] at ez;cases ez),hz⟩
def gE(hold:Str)(l:List VI)(h:Hd):Bool:=h.nm==hold && (h.dp || decide (l.length=1))
def nr(ps:List Pp)(l:List VI):Option Pp:=match l.getLast? with
 | some (.str z)=>ps.find? λp=>p.nm==z
 | _=>none
def ju(ps:List Pp)(hs:List Hd)(hold:Str)(l:List VI):Bool:=match hs.find? (gE hold l) with
 | some h=>match nr ps l with
  | some c=>cX h.ip h.tn c
  | none=>false
 | none=>false
def iu(ps:List Pp)(nm:Str)(d:VI):Bool:=match ps.find? λp=>p.nm==nm with
 | none=>false
 | some c=>eF ps c d
def iW(ps:List Pp)(hs:List Hd)(nm hold:Str):VI->Bool
 | .tuple l=>iu ps nm (.tuple l) && ju ps hs hold l
 | _=>false
theorem uQ{ps:List Pp}{hs:List Hd}{nm hold:Str}{d:VI}(h:iu ps nm d=false):iW ps hs nm hold d=false:=by
 unfold iW;split
 ·rw [h,Rq]
 ·rfl
def NL:List VI->(VI->Prop)->Prop:=λds Q=>∃(xs:List De)(n:Int)(nm o:Str)(d:VI),ds=[.tuple (xs.map De.enc),.int n,.str nm,.str o,d]/\cG xs/\0<=n/\O5 nm=true/\Nm o/\mX d/\Q (.bool (iW (ah xs) (cH xs n) nm o d))
theorem Ep(T:Txt K mg t):aF P w K mg base aK 8 t.a_h t.d_h ["deeds","day","paper","hold","grounds"] (aQ K NL):=by
 have G_g:=@Nl P w _ _ base _ T;have G_e:=@DU P w _ _ base _ T;have G_L:=@qc P w _ _ base _ T;have G_M:=@qg P w _ _ base _ T;have G_E:=@lq P w _ _ base _ T;refine T.F_h.F.okD pO (λds Q h=>?_) (λ_ _ _ _ H O ds Q E hr h=>?_)
 ·obtain⟨xs,n,nm,o,d,rfl,_⟩:=h;rfl
 ·obtain⟨xs,n,nm,o,d,rfl,gl,hn,hs,ho,hd,q⟩:=h;refine'⟨_,?A,?B⟩
  case A=>
   refine' ao ?C ?D
   case C=>
    refine' aM ?E ?F aL
    case E=>exact(PW.pt (cS (cM (bQ (ar G_g hr T.F_g (aa (dv 0) (aa (dv 1) (aa (dv 2) ag)))))) (dH (cM (bQ (ar G_e hr T.F_e (aa (dv 0) (aa (dv 2) (aa (dv 4) ag)))))))))
    case F=>refine' ai (ay bH)
   case' D=>refine' ao ?G ?H
   case G=>
    refine' fW Pg rfl (ar G_L hr T.F_L (aa (dv 0) (aa (dv 1) ag))) ?I (kG (dW aV (dW aV (dW aV kF)))) ?J
    case I=>exact(jx (n:=3) rfl (di (aR (i:=5) pO.nd rfl VG) (di (aR (i:=6) pO.nd rfl VG) (di (aR (i:=7) pO.nd rfl VG) jw))))
    case' J=>refine' ai ?K
    case' K=>refine' aM ?L ?M aL
    case L=>exact(PW.pt (cj (aG (bA hr.units) bB (dv 5) (dv 3) (aB _)) (cw (PW.pt (cS (bQ (dv 7)) (dH (aG (bA hr.units) bB (PE.imp (aS bG rfl T.n_len OF (aO (dv 4) aN)) (aT bK)) af (aB _))))))))
    case' M=>refine' ai ?N
    case' N=>refine' ay ?O
    case O=>exact(ar G_M hr T.F_M (aa (dv 6) (aa (ar G_E hr T.F_E (aa (dv 0) (aa (ax aC aD (dv 4) (sJ af)) ag))) ag)))
   case H=>refine' ai (ay bH)
  case B=>
  clear hr T G_g G_e G_L G_M G_E;walk_at "a";have g:=gl.good;have gp:=g.gp;refine⟨xs,n,nm,rfl,g,hn,hs,_,rfl,?_⟩;unfold qh;cases hf:(ah xs).find? λp=>p.nm==nm with
  | none=>
   have e:decide (nm∈(ah xs).map (·.nm))=false:=by
    rw [decide_eq_false_iff_not];intro z;obtain⟨p,hp,e⟩:=Ow.mp z;exact absurd (beq_iff_eq.mpr e) (by simpa using PJ.mp hf p hp)
   rw [e,VF rfl];rw [uQ (by unfold iu;rw [hf])] at q;exact q
  | some c=>
   have hc:=Pt hf;have he:c.nm=nm:=beq_iff_eq.mp (by simpa using Qr hf);have e:decide (nm∈(ah xs).map (·.nm))=true:=decide_eq_true (Ow.mpr ⟨c,hc,he⟩);rw [e,VE VH];refine⟨xs,c,d,by rw [he],g,hc,hd.1,hd.2,_,rfl,?_⟩;have bd:iu (ah xs) nm d=eF (ah xs) c d:=by unfold iu;rw [hf]
   cases hw:eF (ah xs) c d with
   | false=>
    rw [hw] at bd;rw [uQ bd] at q;exact q
   | true=>
    rw [hw] at bd;rw [VE VH];cases d with
    | tuple l=>
     have cd:iW (ah xs) (cH xs n) nm o (.tuple l)=ju (ah xs) (cH xs n) o l:=by
      show(iu (ah xs) nm (.tuple l) && _)=_;rw [bd,PD]
     rw [cd] at q;refine⟨xs,n,rfl,gl,λhk=>?_⟩;generalize hhs:cH xs n=hs at hk q⊢;obtain⟨zs,rfl,z0,hz⟩:=NK hc hw;refine⟨_,rfl,λi δ=>(∀h∈hs.take i,gE o (zs.map .str) h=false)/\∃o5 o6 o7,δ=[some (Sl.v (Oz (O8 De.enc xs))),some (Sl.v (Ou n)),some (Sl.v (Ol nm)),some (Sl.v (Ol o)),some (Sl.v (Oz (zs.map .str))),o5,o6,o7],⟨VH,_,_,_,rfl⟩,?_,?_⟩
     ·rintro i z δ hi ⟨hb,o5,o6,o7,rfl⟩;rw [OD] at hi;cases hi':hs[i]? with
      | none=>rw [hi'] at hi;cases hi
      | some h=>
       rw [hi'] at hi;cases hi;have hm:=OH hi';have tk:hs.take (i+1)=hs.take i++[h]:=by rw [Qa,hi'];rfl
       simp only [Hd.enc];walk_at "a";have no:gE o (zs.map .str) h=false->(∀h'∈hs.take (i+1),gE o (zs.map .str) h'=false):=λe h' hh=>by
        rw [tk] at hh;rcases OJ.mp hh with a | a
        ·exact hb h' a
        ·rw [ON.mp a];exact e
       have yes:gE o (zs.map .str) h=true->∃d,atI (O8 Ol zs) (-1)=some d/\uz [Oz (O8 De.enc xs),d] λd=>qf [gC h.ip h.tn,d] Q:=λe=>by
        obtain⟨y,z,ey⟩:∃(y:List Str)(z:Str),zs=y++[z]:=⟨zs.dropLast,zs.getLast z0,(Sr _).symm⟩;obtain⟨p,hp,ep⟩:=Ow.mp (hz z (by rw [ey];simp));have hf:hs.find? (gE o (zs.map .str))=some h:=by
         have sp:hs=hs.take i++h::hs.drop (i+1):=by
          have hi2:=(Oy.mp hi');obtain⟨hlt,hge⟩:=hi2;rw [<-hge,<-Q9 hlt,TC]
         rw [sp,UI,PJ.mpr λh' hh=>by rw [hb h' hh];simp,List.find?_cons_of_pos e];rfl
        have lp:nr (ah xs) (zs.map .str)=some p:=by
         unfold nr;rw [ey,O9,TV];show(ah xs).find? (λp=>p.nm==z)=some p;rw [<-ep];exact lB gp.nd hp
        have cv:ju (ah xs) hs o (zs.map .str)=cX h.ip h.tn p:=by
         unfold ju;rw [hf,lp]
        rw [cv] at q;refine⟨.str z,by rw [ey,O9];exact L2.atI_last _ _,xs,p,by rw [ep],g,hp,h.ip,h.tn,p,rfl,(hk.tn h hm).ok,gp.nm p hp,gp.kd p hp,q⟩
       refine⟨cP.mpr (hk.nm h hm).ok,cP.mpr ho.ok,?_⟩;unfold gE at no yes;cases e1:(h.nm==o) with
       | false=>rw [VE VH];exact⟨no (by rw [e1];rfl),_,rfl⟩
       | true=>
        rw [VF rfl];rw [e1] at no yes;cases e2:h.dp with
        | true=>rw [VF rfl];exact yes (by rw [e2];rfl)
        | false=>
         rw [VE VH];rw [e2,QQ,PD] at no yes;by_cases e3:(zs.map Ol).length=1
         ·rw [VF (by rw [e3];rfl)];exact yes (decide_eq_true e3)
         ·rw [VE (by rw [beq_iff_eq];omega)];exact⟨no (decide_eq_false e3),_,rfl⟩
     ·rintro δ ⟨hb,o5,o6,o7,rfl⟩;walk_at "a";rw [Oi,Pd (Ot _)] at hb;have e:ju (ah xs) hs o (zs.map .str)=false:=by
       unfold ju;rw [PJ.mpr λh hh=>by rw [hb h hh];simp]
      rw [e] at q;exact q
    | _=>simp [eF] at hw
theorem NM(T:Txt K mg t):aF P w K mg base aK 9 t.a_i t.d_i ["claim","grounds"] (aQ K DY):=by
 have G_c:=@DP P w _ _ base _ T;have G_f:=@DW P w _ _ base _ T;have G_h:=@Ep P w _ _ base _ T;refine T.F_i.F.okD k7 (λds Q h=>?_) (λ_ _ _ _ H O ds Q E hr h=>?_)
 ·obtain⟨xs,nm,o,d,rfl,_⟩:=h;rfl
 ·obtain⟨xs,nm,o,d,rfl,g,hn,hd,q⟩:=h;refine'⟨_,?A,?B⟩
  case A=>
   refine' ao ?C ?D
   case C=>
    refine' aM ?E ?F aL
    case E=>exact(PW.pt (cS (cM (bQ (fJ (K':=K) (T:="tuple") rfl rfl T.n_isinstance d6 (df (dv 0)) (eX (v:= .ty "tuple") rfl T.n_tuple d7 rfl)))) (cS (aG iz dJ (PE.imp (aS bG rfl T.n_len OF (aO (dv 0) aN)) (aT bK)) af (aB _)) (dH (cM (bQ (ar G_c hr T.F_c (aa (ax aC aD (dv 0) af) ag))))))))
    case F=>refine' ai (ay bH)
   case' D=>refine' ao ?G ?H
   case G=>exact(bj (i:=2) k7.nd rfl VG (ax aC aD (dv 0) af))
   case' H=>refine' ao ?I ?J
   case I=>exact(bj (i:=3) k7.nd rfl VG (ax aC aD (dv 0) af))
   case' J=>refine' ao ?K ?L
   case K=>
    refine' aM ?M ?N aL
    case M=>exact(PW.pt (cj (aG (cq hr) cu (dv 2) aJ (aB _)) (cw (aG (bA hr.units) bB (PE.imp (aS bG rfl T.n_len OF (aO (dv 0) aN)) (aT bK)) af (aB _)))))
    case' N=>refine' ai ?O
    case' O=>refine' ay ?P
    case P=>exact(ar G_f hr T.F_f (aa (dv 3) (aa (ax aC aD (dv 0) af) (aa (ax aC aD (dv 0) af) (aa (dv 1) ag)))))
   case' L=>refine' ao ?Q ?R
   case Q=>
    refine' aM ?S ?T aL
    case S=>exact(PW.pt (cj (aG (cq hr) cu (dv 2) aJ (aB _)) (cw (aG (bA hr.units) bB (PE.imp (aS bG rfl T.n_len OF (aO (dv 0) aN)) (aT bK)) af (aB _)))))
    case T=>refine' ai iM
   case' R=>refine' ao ?U ?V
   case U=>
    refine' aM ?W ?X aL
    case W=>exact(PW.pt (cj (aG (cq hr) cu (dv 2) aJ (aB _)) (cw (aG (bA hr.units) bB (PE.imp (aS bG rfl T.n_len OF (aO (dv 0) aN)) (aT bK)) af (aB _)))))
    case X=>refine' ai iM
   case' V=>refine' ao ?Y ?Z
   case Y=>
    refine' aM ?a ?b aL
    case a=>exact(PW.pt (cj (aG (cq hr) cu (dv 2) aJ (aB _)) (cw (aG (bA hr.units) bB (PE.imp (aS bG rfl T.n_len OF (aO (dv 0) aN)) (aT bK)) af (aB _)))))
    case' b=>refine' ai ?c
    case' c=>refine' ay ?d
    case d=>exact(ar G_h hr T.F_h (aa (dv 3) (aa (ax aC aD (dv 0) af) (aa (ax aC aD (dv 0) af) (aa (ax aC aD (dv 0) af) (aa (dv 1) ag))))))
   case' Z=>refine' ao ?e ?f
   case e=>
    refine' aM ?g ?h aL
    case g=>exact(PW.pt (cj (aG (cq hr) cu (dv 2) aJ (aB _)) (cw (aG (bA hr.units) bB (PE.imp (aS bG rfl T.n_len OF (aO (dv 0) aN)) (aT bK)) af (aB _)))))
    case h=>refine' ai iM
   case' f=>refine' ao ?i ?j
   case i=>
    refine' aM ?k ?l aL
    case k=>exact(PW.pt (cj (aG (cq hr) cu (dv 2) aJ (aB _)) (cw (aG (bA hr.units) bB (PE.imp (aS bG rfl T.n_len OF (aO (dv 0) aN)) (aT bK)) af (aB _)))))
    case l=>refine' ai iM
   case j=>refine' ai (ay bH)
  case B=>
  clear hr T G_c G_f G_h;walk_at "a";simp only [jd];walk_at "a";refine⟨λ_=>trivial,?_⟩;rw [VE (by simp [fE]),VE VC];refine⟨xs,rfl,g,true,rfl,?_⟩;rw [VE VH,VF VC];exact⟨xs,nm,o,d,rfl,g.good,hn,hd,q⟩
def Er:List VI->(VI->Prop)->Prop:=λds Q=>∃(xs:List De)(n:Int)(nm o:Str)(d:VI),ds=[.tuple [.str (Oh "covered"),.tuple (xs.map De.enc),.int n,.str nm,.str o],d]/\cG xs/\0<=n/\O5 nm=true/\Nm o/\mX d/\Q (.bool (iW (ah xs) (cH xs n) nm o d))
theorem NN(T:Txt K mg t):aF P w K mg base aK 9 t.a_i t.d_i ["claim","grounds"] (aQ K Er):=by
 have G_c:=@DP P w _ _ base _ T;have G_f:=@DW P w _ _ base _ T;have G_h:=@Ep P w _ _ base _ T;refine T.F_i.F.okD k7 (λds Q h=>?_) (λ_ _ _ _ H O ds Q E hr h=>?_)
 ·obtain⟨xs,n,nm,o,d,rfl,_⟩:=h;rfl
 ·obtain⟨xs,n,nm,o,d,rfl,g,hn,hs,ho,hd,q⟩:=h;refine'⟨_,?A,?B⟩
  case A=>
   refine' ao ?C ?D
   case C=>
    refine' aM ?E ?F aL
    case E=>exact(PW.pt (cS (cM (bQ (fJ (K':=K) (T:="tuple") rfl rfl T.n_isinstance d6 (df (dv 0)) (eX (v:= .ty "tuple") rfl T.n_tuple d7 rfl)))) (cS (aG iz dJ (PE.imp (aS bG rfl T.n_len OF (aO (dv 0) aN)) (aT bK)) af (aB _)) (dH (cM (bQ (ar G_c hr T.F_c (aa (ax aC aD (dv 0) af) ag))))))))
    case F=>refine' ai (ay bH)
   case' D=>refine' ao ?G ?H
   case G=>exact(bj (i:=2) k7.nd rfl VG (ax aC aD (dv 0) af))
   case' H=>refine' ao ?I ?J
   case I=>exact(bj (i:=3) k7.nd rfl VG (ax aC aD (dv 0) af))
   case' J=>refine' ao ?K ?L
   case K=>
    refine' aM ?M ?N aL
    case M=>exact(PW.pt (cj (aG (cq hr) cu (dv 2) aJ (aB _)) (cw (aG (bA hr.units) bB (PE.imp (aS bG rfl T.n_len OF (aO (dv 0) aN)) (aT bK)) af (aB _)))))
    case' N=>refine' ai ?O
    case' O=>refine' ay ?P
    case P=>exact(ar G_f hr T.F_f (aa (dv 3) (aa (ax aC aD (dv 0) af) (aa (ax aC aD (dv 0) af) (aa (dv 1) ag)))))
   case' L=>refine' ao ?Q ?R
   case Q=>
    refine' aM ?S ?T aL
    case S=>exact(PW.pt (cj (aG (cq hr) cu (dv 2) aJ (aB _)) (cw (aG (bA hr.units) bB (PE.imp (aS bG rfl T.n_len OF (aO (dv 0) aN)) (aT bK)) af (aB _)))))
    case T=>refine' ai iM
   case' R=>refine' ao ?U ?V
   case U=>
    refine' aM ?W ?X aL
    case W=>exact(PW.pt (cj (aG (cq hr) cu (dv 2) aJ (aB _)) (cw (aG (bA hr.units) bB (PE.imp (aS bG rfl T.n_len OF (aO (dv 0) aN)) (aT bK)) af (aB _)))))
    case X=>refine' ai iM
   case' V=>refine' ao ?Y ?Z
   case Y=>
    refine' aM ?a ?b aL
    case a=>exact(PW.pt (cj (aG (cq hr) cu (dv 2) aJ (aB _)) (cw (aG (bA hr.units) bB (PE.imp (aS bG rfl T.n_len OF (aO (dv 0) aN)) (aT bK)) af (aB _)))))
    case' b=>refine' ai ?c
    case' c=>refine' ay ?d
    case d=>exact(ar G_h hr T.F_h (aa (dv 3) (aa (ax aC aD (dv 0) af) (aa (ax aC aD (dv 0) af) (aa (ax aC aD (dv 0) af) (aa (dv 1) ag))))))
   case' Z=>refine' ao ?e ?f
   case e=>
    refine' aM ?g ?h aL
    case g=>exact(PW.pt (cj (aG (cq hr) cu (dv 2) aJ (aB _)) (cw (aG (bA hr.units) bB (PE.imp (aS bG rfl T.n_len OF (aO (dv 0) aN)) (aT bK)) af (aB _)))))
    case h=>refine' ai iM
   case' f=>refine' ao ?i ?j
   case i=>
    refine' aM ?k ?l aL
    case k=>exact(PW.pt (cj (aG (cq hr) cu (dv 2) aJ (aB _)) (cw (aG (bA hr.units) bB (PE.imp (aS bG rfl T.n_len OF (aO (dv 0) aN)) (aT bK)) af (aB _)))))
    case l=>refine' ai iM
   case j=>refine' ai (ay bH)
  case B=>
  clear hr T G_c G_f G_h;walk_at "a";simp only [jd];walk_at "a";refine⟨λ_=>trivial,?_⟩;rw [VE (by simp [fE]),VE VC];refine⟨xs,rfl,g,true,rfl,?_⟩;rw [VE VH];exact⟨xs,n,nm,o,d,rfl,g,hn,hs,ho,hd,q⟩
theorem NO{k:Nat}{f:VM}{fd:VU}{ps:List Str}{F1 F2:List VI->(VI->Prop)->Prop}(a:aF P w K mg base aK k f fd ps (aQ K F1))(b:aF P w K mg base aK k f fd ps (aQ K F2)):aF P w K mg base aK k f fd ps (aQ K λds Q=>F1 ds Q\/F2 ds Q):=
 ⟨λvs H Q E uu9=>by obtain⟨x1,x2,x3,x4,x5,h,x7⟩:=uu9;exact h.elim (λh=>a.1 vs H Q E ⟨x1,x2,x3,x4,x5,h,x7⟩) λh=>b.1 vs H Q E ⟨x1,x2,x3,x4,x5,h,x7⟩,
 λy1 y2 y3 y4 y5 y6 y7 y8 y9 y10 y11 y12 y13 uu10=>by obtain⟨x1,x2,x3,x4,x5,h,x7⟩:=uu10;exact h.elim (λh=>a.2 y1 y2 y3 y4 y5 y6 y7 y8 y9 y10 y11 y12 y13 ⟨x1,x2,x3,x4,x5,h,x7⟩) λh=>b.2 y1 y2 y3 y4 y5 y6 y7 y8 y9 y10 y11 y12 y13 ⟨x1,x2,x3,x4,x5,h,x7⟩⟩
def Es:List VI->(VI->Prop)->Prop:=λds Q=>DY ds Q\/Er ds Q
def uR:List VI->(VI->Prop)->Prop:=λds Q=>∃(cl:VI)(gs:List Str),ds=[.tuple [cl,.tuple (gs.map .str)],cl]/\cK 6 cl/\gs≠[]/\gs.length<=1000/\(∀R:VI->Prop,R (.bool true)->Es [cl,.tuple (gs.map .str)] R)/\(∀R:VI->Prop,R (.bool false)->Es [cl,.tuple ((gs.drop 1).map .str)] R)/\Q (.bool true)
theorem Et(T:Txt K mg t):aF P w K mg base aK 10 t.a_w t.d_w ["_law_told","_law_claim"] (aQ K uR):=by
 have G_i:=NO (@NM P w _ _ base _ T) (@NN P w _ _ base _ T);refine T.F_w.F.okD LW (λds Q h=>?_) (λ_ _ _ _ H O ds Q E hr h=>?_)
 ·obtain⟨cl,gs,rfl,_⟩:=h;rfl
 ·obtain⟨cl,gs,rfl,hl,g0,gn,h1,h2,q⟩:=h;refine'⟨_,?A,?B⟩
  case A=>
   refine' ao ?C ?D
   case C=>
    refine' aM ?E ?F aL
    case E=>exact(PW.pt (cS (cM (bQ (fJ (K':=K) (T:="tuple") rfl rfl T.n_isinstance d6 (df (dv 0)) (eX (v:= .ty "tuple") rfl T.n_tuple d7 rfl)))) (cS (aG (lZ hr.units) l3 (PE.imp (aS bG rfl T.n_len OF (aO (dv 0) aN)) (aT bK)) af (aB _)) (cS (aG (lZ hr.units) l3 (ax aC aD (dv 0) af) (dv 1) (aB _)) (dH (cM (bQ (fJ (K':=K) (T:="tuple") rfl rfl T.n_isinstance d6 (df (ax aC aD (dv 0) af)) (eX (v:= .ty "tuple") rfl T.n_tuple d7 rfl)))))))))
    case F=>refine' ai (ay bH)
   case' D=>refine' ai ?G
   case' G=>refine' ay ?H
   case H=>exact(cx (b7 Cy CA (df (ar G_i hr T.F_i (aa (ax aC aD (dv 0) af) (aa (ax aC aD (dv 0) af) ag)))) (df bH) (aB _)) (cU (b7 Cy CA (df (ar G_i hr T.F_i (aa (dv 1) (aa (kM (df (ax aC aD (dv 0) af)) (dB af) fB) ag)))) (df bH) (aB _))))
  case B=>
  clear hr T G_i;walk_at "a";simp only [jd];walk_at "a";have sh:=hl.shp VC;have ev:=DH cl hl.can;refine⟨λ_=>trivial,?_⟩;rw [VE (by simp [fE]),VE VC];refine⟨sh,sh,?_⟩;rw [VE (by rw [ev];decide)];refine⟨λ_=>trivial,?_⟩;rw [VE (by simp [fE])];refine h1 _ ⟨true,rfl,?_⟩;rw [VF VC];have ec:bY (gs.map Ol) (some 1) none=(gs.drop 1).map Ol:=by
   have:=T8.mpr g0;rw [rV VC (by rw [Oi];omega),<-T2];rfl
  rw [ec];exact h2 _ ⟨false,rfl,q⟩
theorem Eu{ps:List Pp}{c p:Pp}{es:List Str}(h:Wf ps c es p):∀z∈es,∃m∈ps,m.nm=z:=by
 induction h with
 | nil=>simp
 | cons a _ ih=>
  intro z hz;rcases Ox.mp hz with e | e
  ·exact⟨_,jt a,e.symm⟩
  ·exact ih z e
theorem Ew{ps:List Pp}{c p:Pp}{es:List Str}(h:Wf ps c es p):(c.nm::es).getLast?=some p.nm:=by
 induction h with
 | nil=>rfl
 | @cons c m p es a _ ih=>
  rw [List.getLast?_cons_cons];exact ih
theorem Ey{ps:List Pp}(nd:(ps.map (·.nm)).Nodup){c p:Pp}{es:List Str}(h:Wf ps c es p):eF ps c (gU c es)=true:=by
 show(Om (.str c.nm) (.str c.nm) && ft ps c (es.map .str))=true;rw [h.way nd];simp [Om]
theorem Ez{ps:List Pp}(nd:(ps.map (·.nm)).Nodup){c p:Pp}{es:List Str}(hc:c∈ps)(h:Wf ps c es p):eF ps c (.tuple (es.map .str))=false:=by
 cases h with
 | nil=>rfl
 | @cons _ m _ es a _=>
  have mk:=(gB hc).mp a;have ne:(m.nm==c.nm)=false:=dZ λe=>by
   have:=gS nd mk.1 hc e;have l:=mk.2.2.2;rw [this] at l;exact Pp.lt_irr c l
  show(Om (.str m.nm) (.str c.nm) && ft ps c (es.map .str))=false;rw [gN,ne];rfl
theorem qp{ps:List Pp}(g:iQ ps){zs:List Str}(h:∀z∈zs,Nm z)(hl:zs.length<=1000):mX (.tuple (zs.map .str)):=by
 refine⟨?_,λes e=>by cases e;rw [Oi];exact hl⟩;rw [thg];clear hl
 induction zs with
 | nil=>rfl
 | cons a zs ih=>exact bR (h a VH).thg (ih λz hz=>h z (by simp [hz]))
theorem cG.pnm{xs:List De}(g:cG xs){p:Pp}(hp:p∈ah xs):Nm p.nm:=(DV (g.e _ (mT.mp hp)).dv).1
theorem cG.lay{xs:List De}(g:cG xs):cK 5 (.tuple (xs.map De.enc)):=dN λd hd=>by
 obtain⟨x,hx,rfl⟩:=Ow.mp hd;exact(g.e x hx).dv.lay
theorem NP{xs:List De}(g:cG xs){c o:Pp}(hc:c∈ah xs)(ho:o∈ah xs){es:List Str}(h:Wf (ah xs) c es o)(h0:es≠[])(hl:es.length<=41){Q:VI->Prop}(q:Q (.bool true)):uR [.tuple [qo xs c.nm o.nm,gU c es],qo xs c.nm o.nm] Q:=by
 have nd:=g.good.gp.nd;have ns:∀z∈c.nm::es,Nm z:=λz hz=>by
  rcases Ox.mp hz with e | e
  ·rw [e];exact g.pnm hc
  ·obtain⟨m,hm,rfl⟩:=Eu h z e;exact g.pnm hm
 have mb:∀d,eF (ah xs) c d=false->iT (ah xs) c.nm o.nm d=false:=λd hd=>by
  unfold iT;rw [lB nd hc];dsimp only;rw [hd];rfl
 have mt:iT (ah xs) c.nm o.nm (gU c es)=true:=by
  unfold iT;rw [lB nd hc];dsimp only;rw [Ey nd h];show(true && (decide (1 < ((c.nm::es).map Ol).length) && p9 o.nm ((c.nm::es).map Ol)))=true;have e1:1 < ((c.nm::es).map Ol).length:=by
   rw [Oi,OG];have:=T8.mpr h0;omega
  unfold p9;rw [decide_eq_true e1,UJ,Ew h];simp [Om]
 refine⟨qo xs c.nm o.nm,c.nm::es,rfl,?_,VH,by rw [OG];omega,λR hR=>.inl ⟨xs,c.nm,o.nm,_,rfl,g,(g.pnm hc).ok,qp g.good.gp ns (by rw [OG];omega),?_⟩,λR hR=>.inl ⟨xs,c.nm,o.nm,_,rfl,g,(g.pnm hc).ok,qp g.good.gp (λz hz=>ns z (OR _ hz)) (by show es.length<=1000;omega),?_⟩,q⟩
 ·exact dN (bo (bV Ce) (bo g.lay (bo ((bV (g.pnm hc).ok)) (bo ((bV (g.pnm ho).ok)) eQ))))
 ·show R (.bool (iT (ah xs) c.nm o.nm (gU c es)));rw [mt];exact hR
 ·show R (.bool (iT (ah xs) c.nm o.nm (.tuple (es.map .str))));rw [mb _ (Ez nd hc h)];exact hR
theorem NS{xs:List De}(g:cG xs){n:Int}(n0:0<=n){c p:Pp}{bar:Str}(hc:c∈ah xs)(hb:Nm bar){es:List Str}(hk:j4 (cH xs n)){h:Hd}(hh:h∈cH xs n)(hn:h.nm=bar)(hp:p∈ah xs)(hw:Wf (ah xs) c es p)(ht:cX h.ip h.tn p=true)(h0:h.dp=false->es=[])(hl:es.length<=41){Q:VI->Prop}(q:Q (.bool true)):uR [.tuple [nk xs n c.nm bar,gU c es],nk xs n c.nm bar] Q:=by
 have nd:=g.good.gp.nd;have ns:∀z∈c.nm::es,Nm z:=λz hz=>by
  rcases Ox.mp hz with e | e
  ·rw [e];exact g.pnm hc
  ·obtain⟨m,hm,rfl⟩:=Eu hw z e;exact g.pnm hm
 have cf:iW (ah xs) (cH xs n) c.nm bar (.tuple (es.map .str))=false:=uQ (by
  unfold iu;rw [lB nd hc];exact Ez nd hc hw)
 have ct:iW (ah xs) (cH xs n) c.nm bar (gU c es)=true:=by
  show(iu (ah xs) c.nm (gU c es) && ju (ah xs) (cH xs n) bar ((c.nm::es).map Ol))=true;have b1:iu (ah xs) c.nm (gU c es)=true:=by
   unfold iu;rw [lB nd hc];exact Ey nd hw
  have hm:gE bar ((c.nm::es).map Ol) h=true:=by
   unfold gE;rw [hn,beq_self_eq_true,PD];cases hd:h.dp with
   | true=>rfl
   | false=>rw [h0 hd];rfl
  have hf:(cH xs n).find? (gE bar ((c.nm::es).map Ol))=some h:=by
   cases hf:(cH xs n).find? (gE bar ((c.nm::es).map Ol)) with
   | none=>exact absurd hm (by rw [Qo.mpr (PJ.mp hf h hh)];simp)
   | some h'=>
    have e1:=Qr hf;unfold gE at e1;rw [OI,beq_iff_eq] at e1;have e2:h'=h:=by
     have nh:=hk.nd;have:=hk.nd;rw [Si,Qf] at this;by_cases ne:h'=h
     ·exact ne
     ·rcases uJ this h' (Pt hf) h hh ne with z | z
      ·exact absurd (e1.1.trans hn.symm) z
      ·exact absurd (hn.trans e1.1.symm) z
    rw [e2]
  have lp:nr (ah xs) ((c.nm::es).map Ol)=some p:=by
   unfold nr;rw [UJ,Ew hw];exact lB nd hp
  rw [b1];unfold ju;rw [hf,lp];exact ht
 refine⟨nk xs n c.nm bar,c.nm::es,rfl,?_,VH,by rw [OG];omega,λR hR=>.inr ⟨xs,n,c.nm,bar,_,rfl,g,n0,(g.pnm hc).ok,hb,qp g.good.gp ns (by rw [OG];omega),?_⟩,λR hR=>.inr ⟨xs,n,c.nm,bar,_,rfl,g,n0,(g.pnm hc).ok,hb,qp g.good.gp (λz hz=>ns z (OR _ hz)) (by show es.length<=1000;omega),?_⟩,q⟩
 ·exact dN (bo (bV Ce) (bo g.lay (bo iL (bo ((bV (g.pnm hc).ok)) (bo (bV hb.ok) eQ)))))
 ·show R (.bool (iW (ah xs) (cH xs n) c.nm bar (gU c es)));rw [ct];exact hR
 ·show R (.bool (iW (ah xs) (cH xs n) c.nm bar (.tuple (es.map .str))));rw [cf];exact hR
def NT:List VI->(VI->Prop)->Prop:=λds Q=>∃(xs:List De),ds=[.tuple (xs.map De.enc)]/\cG xs/\Q (.bool true)
theorem NU(T:Txt K mg t):aF P w K mg base aK 11 t.a_x t.d_x ["_law_deeds_here"] (aQ K NT):=by
 have G_F:=@lr P w _ _ base _ T;have G_v:=@Nz P w _ _ base _ T;have G_P:=@NG P w _ _ base _ T;have G_w:=@Et P w _ _ base _ T;refine T.F_x.F.okD mR (λds Q h=>?_) (λ_ _ _ _ H O ds Q E hr h=>?_)
 ·obtain⟨xs,rfl,_⟩:=h;rfl
 ·obtain⟨xs,rfl,gl,q⟩:=h;refine'⟨_,?A,?B⟩
  case A=>
   refine' ao ?C ?D
   case C=>
    refine' fW Pg rfl (ar G_F hr T.F_F (aa (dv 0) ag)) ?E aV ?F
    case E=>exact(aR (i:=1) mR.nd rfl VG)
    case' F=>refine' ao ?G ?H
    case G=>exact(bj (i:=2) mR.nd rfl VG (ar G_v hr T.F_v (aa (dv 0) (aa (dv 1) ag))))
    case' H=>refine' ai ?I
    case' I=>refine' fW Pg rfl (ar G_F hr T.F_F (aa (dv 0) ag)) ?J aV ?K
    case J=>exact(aR (i:=3) mR.nd rfl VG)
    case' K=>refine' ao ?L ?M
    case L=>exact(bj (i:=4) mR.nd rfl VG (ar G_P hr T.F_P (aa (dv 0) (aa (dv 1) (aa (dv 3) ag)))))
    case' M=>refine' ao ?N ?O
    case N=>
     refine' aM ?P ?Q aL
     case P=>exact(PW.pt (cj (aG (jc hr) fD (dv 3) (dv 2) rfl) (cw (aG vn Bj (dv 4) iC (aB _)))))
     case Q=>refine' ai (ay bH)
    case' O=>refine' ai ?R
    case' R=>refine' aM ?S ?T aL
    case S=>exact(PW.pt (cj (aG (mj hr) fD (dv 3) (dv 2) rfl) (cw (cM (bQ (ar G_w hr T.F_w (aa (dv 4) (aa (bg (aa aJ (aa (dv 0) (aa (dv 1) (aa (dv 3) ag))))) ag))))))))
    case T=>refine' ai (ay bH)
   case D=>refine' ai (ay bH)
  case B=>
  clear hr T G_F G_v G_P G_w;have g:=gl.good;walk_at "a";refine⟨xs,rfl,g,_,rfl,λi δ=>∃o1 o2 o3 o4:Option Sl,δ=[some (Sl.v (Oz (O8 De.enc xs))),o1,o2,o3,o4],⟨_,_,_,_,rfl⟩,?_,?_⟩
  ·rintro i z δ hz ⟨o1,o2,o3,o4,rfl⟩;rw [OD,OD] at hz;cases hz':(cF (ah xs))[i]? with
   | none=>rw [hz'] at hz;cases hz
   | some c=>
    rw [hz'] at hz;cases hz;have hc:c∈ah xs:=eV.mp (OH hz');walk_at "a";refine⟨xs,c,rfl,g,hc,λL hL=>⟨xs,rfl,g,_,rfl,?_⟩⟩;refine⟨λk δ=>∃o3 o4:Option Sl,δ=[some (Sl.v (Oz (O8 De.enc xs))),some (Sl.v (.str c.nm)),some (Sl.v (.list (L.map .str))),o3,o4],⟨_,_,rfl⟩,?_,?_⟩
    ·rintro k z δ hz ⟨o3,o4,rfl⟩;rw [OD,OD] at hz;cases hz2:(cF (ah xs))[k]? with
     | none=>rw [hz2] at hz;cases hz
     | some o=>
      rw [hz2] at hz;cases hz;have ho:o∈ah xs:=eV.mp (OH hz2);have so:bU (.str o.nm):=cP.mpr (g.gp.nm o ho);have cl:Pj (L.map .str)=true:=jZ λz hz=>by
       obtain⟨q,hq,e⟩:=(hL.2 z).mp hz;rw [<-e];exact g.gp.nm q hq.mem.1
      have iff:(∃q,bZ (ah xs) q c/\q.nm=o.nm)↔bZ (ah xs) o c:=⟨λuu11=>by obtain⟨q,a,e⟩:=uu11;rw [<-gS g.gp.nd a.mem.1 ho e];exact a,λa=>⟨o,a,rfl⟩⟩;have cn:L.contains o.nm=true↔bZ (ah xs) o c:=by rw [P4,hL.2,iff]
      walk_at "a";refine⟨xs,c,o,rfl,g,hc,ho,λna=>?_,λa es hw h0 hl=>?_⟩
      ·dsimp only;rw [iR,Qo.mpr λz=>na (cn.mp z)];refine⟨so,cl,?_⟩;rw [VF rfl,VE (by simp [iN])];refine⟨so,cl,?_⟩;rw [VE VC];exact⟨_,rfl⟩
      ·dsimp only;rw [iR,cn.mpr a];refine⟨so,cl,?_⟩;rw [VE VC];refine⟨so,cl,?_⟩;rw [VF rfl];exact NP gl hc ho hw h0 hl ⟨true,rfl,by rw [VE VC];exact⟨_,rfl⟩⟩
    ·rintro δ ⟨o3,o4,rfl⟩;exact⟨_,_,_,_,rfl⟩
  ·rintro δ ⟨o1,o2,o3,o4,rfl⟩;walk_at "a";exact q
def NV:List VI->(VI->Prop)->Prop:=λds Q=>∃(xs:List De)(n:Int)(bs:List Str),ds=[.tuple (xs.map De.enc),.int n,.list (bs.map .str)]/\cG xs/\0<=n/\(∀b∈bs,Nm b)/\Q (.bool true)
theorem NW(T:Txt K mg t):aF P w K mg base aK 11 t.a_y t.d_y ["_law_deeds_here","_law_day_here","_law_bars"] (aQ K NV):=by
 have G_F:=@lr P w _ _ base _ T;have G_O:=@Nw P w _ _ base _ T;have G_Q:=@NI P w _ _ base _ T;have G_w:=@Et P w _ _ base _ T;refine T.F_y.F.okD mS (λds Q h=>?_) (λ_ _ _ _ H O ds Q E hr h=>?_)
 ·obtain⟨xs,n,bs,rfl,_⟩:=h;rfl
 ·obtain⟨xs,n,bs,rfl,gl,n0,hb,q⟩:=h;refine'⟨_,?A,?B⟩
  case A=>
   refine' ao ?C ?D
   case C=>
    refine' fW Pg rfl (ar G_F hr T.F_F (aa (dv 0) ag)) ?E aV ?F
    case E=>exact(aR (i:=3) mS.nd rfl VG)
    case' F=>refine' ao ?G ?H
    case G=>exact(bj (i:=4) mS.nd rfl VG (ar G_O hr T.F_O (aa (dv 0) (aa (dv 1) (aa (dv 3) ag)))))
    case' H=>refine' ai ?I
    case' I=>refine' ot Pg rfl (dv 2) ?J aV ?K
    case J=>exact(aR (i:=5) mS.nd rfl VG)
    case' K=>refine' ao ?L ?M
    case L=>exact(bj (i:=6) mS.nd rfl VG (ar G_Q hr T.F_Q (aa (dv 0) (aa (dv 1) (aa (dv 3) (aa (dv 5) ag))))))
    case' M=>refine' ao ?N ?O
    case N=>
     refine' aM ?P ?Q aL
     case P=>exact(PW.pt (cj (aG (jc hr) fD (dv 5) (dv 4) rfl) (cw (aG vn Bj (dv 6) iC (aB _)))))
     case Q=>refine' ai (ay bH)
    case' O=>refine' ai ?R
    case' R=>refine' aM ?S ?T aL
    case S=>exact(PW.pt (cj (aG (mj hr) fD (dv 5) (dv 4) rfl) (cw (cM (bQ (ar G_w hr T.F_w (aa (dv 6) (aa (bg (aa aJ (aa (dv 0) (aa (dv 1) (aa (dv 3) (aa (dv 5) ag)))))) ag))))))))
    case T=>refine' ai (ay bH)
   case D=>refine' ai (ay bH)
  case B=>
  clear hr T G_F G_O G_Q G_w;have g:=gl.good;walk_at "a";have nd:=g.gp.nd;refine⟨xs,rfl,g,_,rfl,λi δ=>∃o3 o4 o5 o6:Option Sl,δ=[some (Sl.v (Oz (O8 De.enc xs))),some (Sl.v (Ou n)),some (Sl.v (PL (O8 Ol bs))),o3,o4,o5,o6],⟨_,_,_,_,rfl⟩,?_,?_⟩
  ·rintro i z δ hz ⟨o3,o4,o5,o6,rfl⟩;rw [OD,OD] at hz;cases hz':(cF (ah xs))[i]? with
   | none=>rw [hz'] at hz;cases hz
   | some c=>
    rw [hz'] at hz;cases hz;have hc:c∈ah xs:=eV.mp (OH hz');walk_at "a";refine⟨xs,n,c,rfl,gl,hc,λhk=>?_⟩;have lm:∀q,q∈dQ (ah xs) c↔q=c\/bZ (ah xs) q c:=λq=>uL nd hc;have l1:(dQ (ah xs) c).take 1=[c]:=by
     obtain⟨r,e⟩:=(qj nd hc).hd;rw [e];rfl
    have inn:∀(h:Hd)(p:Pp)(es:List Str),h∈cH xs n->Wf (ah xs) c es p->cX h.ip h.tn p=true->(h.dp=false->es=[])->h.nm∈fL (cH xs n) (dQ (ah xs) c):=λh p es hh hw ht h0=>by
     refine Ow.mpr ⟨h,O7.mpr ⟨hh,?_⟩,rfl⟩;unfold fu;cases hd:h.dp with
     | true=>
      rw [VF rfl,PX];exact⟨p,(lm p).mpr ((hw.anc hc).imp (λz=>z.2) λz=>z.2),ht⟩
     | false=>
      rw [h0 hd] at hw;cases hw;rw [VE O6,l1];simpa using ht
    have cl:Pj ((fL (cH xs n) (dQ (ah xs) c)).map .str)=true:=jZ λz hz=>by
     obtain⟨h,hh,rfl⟩:=Ow.mp hz;exact(hk.nm h (O7.mp hh).1).ok
    refine⟨λk δ=>∃o5 o6:Option Sl,δ=[some (Sl.v (Oz (O8 De.enc xs))),some (Sl.v (Ou n)),some (Sl.v (PL (O8 Ol bs))),some (Sl.v (.str c.nm)),some (Sl.v (.tuple ((fL (cH xs n) (dQ (ah xs) c)).map .str))),o5,o6],⟨_,_,rfl⟩,?_,?_⟩
    ·rintro k z δ hz ⟨o5,o6,rfl⟩;rw [OD] at hz;cases hz2:bs[k]? with
     | none=>rw [hz2] at hz;cases hz
     | some bar=>
      rw [hz2] at hz;cases hz;have hbb:=hb bar (OH hz2);have so:bU (.str bar):=cP.mpr hbb.ok;walk_at "a";refine⟨xs,n,c,bar,rfl,gl,hc,hbb,λna=>?_,λhk2 h hh hn p es hp hw ht h0 hl=>?_⟩
      ·dsimp only;rw [iR,Qo.mpr λz=>na (P4.mp z)];refine⟨so,cl,?_⟩;rw [VF rfl,VE (by simp [iN])];refine⟨so,cl,?_⟩;rw [VE VC];exact⟨_,rfl⟩
      ·dsimp only;rw [iR,P4.mpr (by rw [<-hn];exact inn h p es hh hw ht h0)];refine⟨so,cl,?_⟩;rw [VE VC];refine⟨so,cl,?_⟩;rw [VF rfl];exact NS gl n0 hc hbb hk2 hh hn hp hw ht h0 hl ⟨true,rfl,by rw [VE VC];exact⟨_,rfl⟩⟩
    ·rintro δ ⟨o5,o6,rfl⟩;exact⟨_,_,_,_,rfl⟩
  ·rintro δ ⟨o3,o4,o5,o6,rfl⟩;walk_at "a";exact q
end
local macro_rules | `(tactic| walk_at "d") =>rzT "qC qB qF qE qD kh iY dR tC jy qQ rI fO rU kj nQ tB qu qv qw qx qy qz qA lM qU qT lO qV qW nG nF nE qH qJ vW vX vY vZ v3 v5 v7 v9 lK nN ki L2.start Ov PV OG Qx OQ Rz QN Po SK SM Ur Us Ut RU QR Sz SA RZ exists_eq_left' exists_eq_left exists_and_left exists_and_right V.int.injEq V.bl.injEq V.str.injEq V.ref.injEq PH and_true true_and Uu exists_const decide_eq_true_eq Uv Uw T3 T4 Qw decide_eq_false_iff_not and_assoc bW Tb SR Tc L2.cxK L2.cmK or_true true_or nS if_true if_false QH Ux not_true_eq_false not_false_eq_true Vb U3 ite_true ite_false eq_self wb L2.E0 exists_eq forall_eq'"
theorem NX:bt (aA kY) ["_law_deeds_here","_law_thing","_law_name"] ["_law_one","_law_deeds_here","_law_name"] 1 [0,2] ⟨OE,[ (Oj "_law_one",Xy),(Oj "_law_deeds_here",OM),(Oj "_law_name",OM),(Oj "paper_made",OT)],false,false,[]⟩:= .of
theorem NY:bt (aA kY) ["_law_deeds_here","_law_thing","_law_name"] ["_law_one","_law_deeds_here","_law_name"] 1 [0,2] ⟨OE,[ (Oj "_law_one",Xy),(Oj "_law_deeds_here",OM),(Oj "_law_name",OM),(Oj "paper_made",OT)],false,false,[]⟩:= .of
theorem NZ:bt (aA kY) ["_law_deeds_here","_law_thing","_law_name"] ["_law_one","_law_deeds_here","_law_name"] 1 [0,2] ⟨OE,[ (Oj "_law_one",Xy),(Oj "_law_deeds_here",OM),(Oj "_law_name",OM),(Oj "paper_covered",OT)],false,false,[]⟩:= .of
section
variable {P:VW} {w:VZ} {K:Og} {mg:Str->Option VJ} {base:VY} {t:cz}
def j5(xs:List De)(d:VI):Prop:=bL d=true/\∀p∈ah xs,(Ol p.nm).eqv d=false
def uS:DX:=λds _ R=>∃(xs:List De)(d:VI),ds=[.tuple (xs.map De.enc),d]/\cW xs/\j5 xs d/\R
theorem uT(T:Txt K mg t):aF P w K mg base (bx P w) 1 t.a_E t.d_E ["deeds","paper"] (fk K t.u_NoPaper uS):=by
 refine T.F_E.F.okDX pM (λds Q R h=>?_) (λcdv A outer s H O ds Q R E hr h hx=>?_)
 ·obtain⟨xs,d,rfl,_⟩:=h;rfl
 ·obtain⟨xs,d,rfl,g,⟨ht,hn⟩,r⟩:=h;refine'⟨_,?A,?B⟩
  case A=>
   refine' ao ?C ?D
   case C=>
    refine' fW Rp rfl (dv 0) ?E aV ?F
    case E=>exact(aR (i:=2) pM.nd rfl VG)
    case' F=>refine' ai ?G
    case' G=>refine' aM ?H ?I aL
    case H=>exact(PW.pt (cj (aG (cq hr) cu (ax aC aD (dv 2) af) aJ (aB _)) (cw (aG (Le hr) Lf (ax aC aD (dv 2) af) (dv 1) (aB _)))))
    case' I=>refine' ai ?J
    case J=>exact(ay (dv 2))
   case' D=>refine' ai ?K
   case K=>exact(Lc hx T.c_NoPaper T.q_NoPaper PySem.F.excBase_ValueError (aa aJ ag))
  case B=>
  clear hr T hx;walk_at "a";refine⟨λi δ=>∃o2,δ=[some (Sl.v (Oz (O8 De.enc xs))),some (Sl.v d),o2],⟨_,rfl⟩,?_,?_⟩
  ·rintro i z δ hz ⟨o2,rfl⟩;rw [OD] at hz;cases hz':xs[i]? with
   | none=>rw [hz'] at hz;cases hz
   | some x=>
    rw [hz'] at hz;cases hz;have hx:=OH hz';cases x with
    | pap p=>
     simp only [De.enc,Pp.enc];walk_at "a";rw [hn p (mT.mpr hx)];exact⟨ht,_,rfl⟩
    | oth wo n nm l=>
     simp only [De.enc];walk_at "a";rw [dZ (g.np _ _ _ _ hx),VE O6];exact⟨_,rfl⟩
  ·rintro δ ⟨o2,rfl⟩;walk_at "a";exact r
theorem N0(T:Txt K mg t):aF P w K mg base (bx P w) 6 t.a_I t.d_I ["deeds","paper"] (fk K t.u_NoPaper uS):=by
 have G_E:=@uT P w _ _ base _ T;have G_G:=@uA P w _ _ base _ T;refine T.F_I.F.okDX jn (λds Q R h=>?_) (λcdv A outer s H O ds Q R E hr h hx=>?_)
 ·obtain⟨xs,d,rfl,_⟩:=h;rfl
 ·obtain⟨xs,d,rfl,h⟩:=h;refine'⟨_,?A,?B⟩
  case A=>
   refine' ao ?C ?D
   case C=>exact(kD (i:=2) jn.nd rfl VG (cZ (aa (kX hx G_E hr T.F_E (aa (dv 0) (aa (dv 1) ag))) ag)))
   case' D=>refine' ao ?E ?F
   case E=>exact(bj (i:=3) jn.nd rfl VG af)
   case' F=>refine' ao ?G ?H
   case G=>
    refine' sX Rp ?I ?J
    case I=>exact(aG iz dJ (dv 3) (PE.imp (aS bG rfl T.n_len OF (i8 (dw 2) aN)) (aT bK)) (aB _))
    case' J=>refine' ao ?K ?L
    case K=>exact(sR (i:=2) (pv 2) (g9 rfl qi (df (ar G_G hr T.F_G (aa (dv 0) (aa (d9 bT ck (dw 2) (df (dv 3))) ag)))) aV cI VC (λ_ _ _ _=>(aR (i:=0) qi.nd rfl VG)) (λ_ _ _ _=>(fQ (oi (jc hr) fD (df (dv 0)) (dw 1) rfl))) (λ_ _ _ _=>(dv 0))))
    case' L=>refine' ai ?M
    case M=>exact(bj (i:=3) jn.nd rfl VG (aZ cA bX (dv 3) af))
   case' H=>refine' ai ?N
   case N=>exact(rN (pv 2))
  case B=>
  clear hr T hx G_E G_G;walk_at "a";exact⟨xs,d,rfl,h⟩
theorem EA(T:Txt K mg t):aF P w K mg base (bx P w) 7 t.a_J t.d_J ["deeds","paper"] (fk K t.u_NoPaper uS):=by
 have G_I:=@N0 P w _ _ base _ T;have G_H:=@pZ P w _ _ base _ T;refine T.F_J.F.okDX ie (λds Q R h=>?_) (λcdv A outer s H O ds Q R E hr h hx=>?_)
 ·obtain⟨xs,d,rfl,_⟩:=h;rfl
 ·obtain⟨xs,d,rfl,h⟩:=h;refine'⟨_,?A,?B⟩
  case A=>
   refine' ao ?C ?D
   case C=>exact(bj (i:=2) ie.nd rfl VG (kX hx G_I hr T.F_I (aa (dv 0) (aa (dv 1) ag))))
   case' D=>refine' ao ?E ?F
   case E=>
    generalize hD4:U7 _ _ _=ed4;refine' oU (i:=3) ie.nd rfl VG ?G (hs:=by subst hD4;first | rfl | exact sL)
    case' G=>subst hD4
    refine' Cr ?p4_0
    case p4_0=>
     refine' kQ (dv 1) ?H ?p4_1
     case H=>exact(bg (aa (dv 1) ag))
     case p4_1=>exact sT
   case' F=>refine' ao ?I ?J
   case I=>
    refine' ot Rp rfl (dv 2) ?K aV ?L
    case K=>exact(aR (i:=4) ie.nd rfl VG)
    case' L=>refine' ai ?M
    case' M=>refine' fW Rp rfl (ar G_H hr T.F_H (aa (dv 0) (aa (ax aC aD (dv 4) af) ag))) ?N aV ?O
    case N=>exact(aR (i:=5) ie.nd rfl VG)
    case' O=>refine' ai ?P
    case P=>exact(CC (i:=3) (pv 3) (dv 5) (aZ B0 B2 (oV (i:=3) hr.units (pv 3) (ax aC aD (dv 4) af) (λ_ _=>rfl)) (bg (aa (dv 5) ag))) ⟨rfl,rfl,rfl,rfl⟩)
   case' J=>refine' ai ?Q
   case' Q=>refine' BW 3 ?R
   case R=>exact(ay (dv 3))
  case B=>
  clear hr T hx G_I G_H;walk_at "a";exact⟨xs,d,rfl,h⟩
theorem N1{k:Nat}{f C:VM}{fd:VU}{ps:List Str}{CX:eJ}{F1 F2:DX}(a:aF P w K mg base CX k f fd ps (fk K C F1))(b:aF P w K mg base CX k f fd ps (fk K C F2)):aF P w K mg base CX k f fd ps (fk K C λds Q R=>F1 ds Q R\/F2 ds Q R):=
 ⟨λvs H Q E uu12=>by obtain⟨x1,x2,x3,x4,x5,x6,h,x7,x8⟩:=uu12;exact h.elim (λh=>a.1 vs H Q E ⟨x1,x2,x3,x4,x5,x6,h,x7,x8⟩) λh=>b.1 vs H Q E ⟨x1,x2,x3,x4,x5,x6,h,x7,x8⟩,
 λy1 y2 y3 y4 y5 y6 y7 y8 y9 y10 y11 y12 y13 uu13=>by obtain⟨x1,x2,x3,x4,x5,x6,h,x7,x8⟩:=uu13;exact h.elim (λh=>a.2 y1 y2 y3 y4 y5 y6 y7 y8 y9 y10 y11 y12 y13 ⟨x1,x2,x3,x4,x5,x6,h,x7,x8⟩) λh=>b.2 y1 y2 y3 y4 y5 y6 y7 y8 y9 y10 y11 y12 y13 ⟨x1,x2,x3,x4,x5,x6,h,x7,x8⟩⟩
def EB:DX:=λds _ R=>∃(xs:List De)(d e:VI),ds=[.tuple (xs.map De.enc),d,e]/\cW xs/\j5 xs d/\R
def EC:DX:=λds _ R=>∃(xs:List De)(c:Pp)(d:VI),ds=[.tuple (xs.map De.enc),.str c.nm,d]/\cW xs/\c∈ah xs/\j5 xs d/\R
theorem N2(T:Txt K mg t):aF P w K mg base (bx P w) 8 t.a_P t.d_P ["deeds","paper","other"] (fk K t.u_NoPaper EB):=by
 have G_J:=@EA P w _ _ base _ T;have G_E:=@uT P w _ _ base _ T;refine T.F_P.F.okDX k6 (λds Q R h=>?_) (λcdv A outer s H O ds Q R E hr h hx=>?_)
 ·obtain⟨xs,d,e,rfl,_⟩:=h;rfl
 ·obtain⟨xs,d,e,rfl,h⟩:=h;refine'⟨_,?A,?B⟩
  case A=>
   refine' ao ?C ?D
   case C=>exact(bj (i:=3) k6.nd rfl VG (kX hx G_J hr T.F_J (aa (dv 0) (aa (dv 1) ag))))
   case' D=>refine' ao ?E ?F
   case E=>exact(rO (kX hx G_E hr T.F_E (aa (dv 0) (aa (dv 2) ag))))
   case' F=>refine' ao ?G ?H
   case G=>
    refine' aM ?I ?J aL
    case I=>exact(PW.pt (cS (aG (bA hr.units) bB (dv 1) (dv 2) (aB _)) (dH (tq hr.units (dv 3) (dv 2)))))
    case J=>refine' ai (ay iC)
   case' H=>refine' ai ?K
   case' K=>refine' ay ?L
   case' L=>refine' bg ?M
   case' M=>refine' aa ?N ?O
   case N=>exact(bg (aa aJ (aa (dv 0) (aa (dv 1) (aa (dv 2) ag)))))
   case' O=>refine' aa ?P ag
   case P=>exact(mG hr.units (dv 3) (dv 2) (λ_ _=>rfl))
  case B=>
  clear hr T hx G_J G_E;walk_at "a";exact⟨xs,d,rfl,h⟩
theorem N3(T:Txt K mg t):aF P w K mg base (bx P w) 8 t.a_P t.d_P ["deeds","paper","other"] (fk K t.u_NoPaper EC):=by
 have G_J:=@uO P w _ _ base _ T;have G_E:=@uT P w _ _ base _ T;refine T.F_P.F.okDX k6 (λds Q R h=>?_) (λcdv A outer s H O ds Q R E hr h hx=>?_)
 ·obtain⟨xs,c,d,rfl,_⟩:=h;rfl
 ·obtain⟨xs,c,d,rfl,g,hc,np,r⟩:=h;refine'⟨_,?A,?B⟩
  case A=>
   refine' ao ?C ?D
   case C=>exact(bj (i:=3) k6.nd rfl VG (ar G_J hr T.F_J (aa (dv 0) (aa (dv 1) ag))))
   case' D=>refine' ao ?E ?F
   case E=>exact(rO (kX hx G_E hr T.F_E (aa (dv 0) (aa (dv 2) ag))))
   case' F=>refine' ao ?G ?H
   case G=>
    refine' aM ?I ?J aL
    case I=>exact(PW.pt (cS (aG (bA hr.units) bB (dv 1) (dv 2) (aB _)) (dH (tq hr.units (dv 3) (dv 2)))))
    case J=>refine' ai (ay iC)
   case' H=>refine' ai ?K
   case' K=>refine' ay ?L
   case' L=>refine' bg ?M
   case' M=>refine' aa ?N ?O
   case N=>exact(bg (aa aJ (aa (dv 0) (aa (dv 1) (aa (dv 2) ag)))))
   case' O=>refine' aa ?P ag
   case P=>exact(mG hr.units (dv 3) (dv 2) (λ_ _=>rfl))
  case B=>
  clear hr T hx G_J G_E;walk_at "a";exact⟨xs,c,rfl,g,hc,λW hW=>⟨xs,d,rfl,g,np,r⟩⟩
def N4:DX:=λds Q R=>EB ds Q R\/EC ds Q R
theorem N5(T:Txt K mg t):aF P w K mg base (bx P w) 8 t.a_P t.d_P ["deeds","paper","other"] (fk K t.u_NoPaper N4):=by
 have a:=@N2 P w _ _ base _ T;have b:=@N3 P w _ _ base _ T;exact N1 a b
def N6:DX:=λds _ R=>∃(xs:List De)(n:Int)(d e:VI),ds=[.tuple (xs.map De.enc),.int n,d,e]/\cW xs/\j5 xs d/\R
theorem N7(T:Txt K mg t):aF P w K mg base (bx P w) 8 t.a_Q t.d_Q ["deeds","day","paper","hold"] (fk K t.u_NoPaper N6):=by
 have G_J:=@EA P w _ _ base _ T;have G_E:=@lq P w _ _ base _ T;have G_L:=@qc P w _ _ base _ T;have G_M:=@qg P w _ _ base _ T;refine T.F_Q.F.okDX fq (λds Q R h=>?_) (λcdv A outer s H O ds Q R E hr h hx=>?_)
 ·obtain⟨xs,n,d,e,rfl,_⟩:=h;rfl
 ·obtain⟨xs,n,d,e,rfl,g,np,r⟩:=h;refine'⟨_,?A,?B⟩
  case A=>
   refine' ao ?C ?D
   case C=>exact(bj (i:=4) fq.nd rfl VG (kX hx G_J hr T.F_J (aa (dv 0) (aa (dv 2) ag))))
   case' D=>refine' ao ?E ?F
   case E=>
    refine' fW Rp rfl (ar G_L hr T.F_L (aa (dv 0) (aa (dv 1) ag))) ?G (kG (dW aV (dW aV (dW aV kF)))) ?H
    case G=>exact(jx (n:=3) rfl (di (aR (i:=5) fq.nd rfl VG) (di (aR (i:=6) fq.nd rfl VG) (di (aR (i:=7) fq.nd rfl VG) jw))))
    case' H=>refine' ao ?I ?J
    case I=>
     refine' bj (i:=8) fq.nd rfl VG ?K (hs:=A6)
     case K=>exact(oj (bQ (dv 7)) (fe (CF rfl rfl T.n_list rG (dv 4))) (fe (cZ (aa (dv 2) ag))))
    case' J=>refine' ao ?L ?M
    case L=>exact(mi (i:=9) fq.nd rfl VG (oM rfl qm (df (dv 8)) aV cI VC (λ_ _ _ _=>(aR (i:=0) qm.nd rfl VG)) (λ_ _ _ _=>(fQ (bQ (ar G_M hr T.F_M (aa (dv 1) (aa (ar G_E hr T.F_E (aa (dv 2) (aa (dv 0) ag))) ag)))))) (λ_ _ _ _=>(dv 0))))
    case' M=>refine' ai ?N
    case' N=>refine' aM ?O ?P aL
    case O=>exact(PW.pt (cj (aG (bA hr.units) bB (dv 5) (dv 3) (aB _)) (cw (Cg (dv 9)))))
    case' P=>refine' ai ?Q
    case' Q=>refine' ay ?R
    case' R=>refine' bg ?S
    case' S=>refine' aa ?T ?U
    case T=>exact(bg (aa aJ (aa (dv 0) (aa (dv 1) (aa (dv 2) (aa (dv 5) ag))))))
    case' U=>refine' aa ?V ag
    case V=>exact(mG hr.units (dv 4) (ax bT ck (dv 9) af) (λ_ _=>rfl))
   case F=>refine' ai (ay iC)
  case B=>
  clear hr T hx G_J G_E G_L G_M;walk_at "a";exact⟨xs,d,rfl,g,np,r⟩
theorem N8(T:Txt K mg t):aF P w K mg base aK 14 t.a_z t.d_z ["_law_asked","_law_thing"] (CI P w K mg t.u_NoPaper 13 base):=by
 refine T.F_z.F.ok pT (λvs H Q E h=>?_) (λcdv A outer s H vs Q E hr h=>?_)
 ·obtain⟨f,k,fd,sp,o,y,v,rfl,_⟩:=h;rfl
 ·obtain⟨f,k,fd,sp,o,y,v,rfl,hbf,hk,Ff,hb,hsp⟩:=h;refine'⟨_,?A,?B⟩
  case A=>
   refine' gF ?C ?D
   case C=>refine' iZ (i:=2) pT.nd rfl VG uX
   case' D=>refine' gF ?E ?F
   case E=>exact(Lo (C:=t.u_NoPaper) (i:=3) (d:=0) (λE'=>(bS (pv 1) dF)) rfl (S7 rfl) rfl rfl T.c_ArchiveError rfl T.q_NoPaper T.q_ArchiveError VC T.i_NoPaper_ArchiveError pT.nd rfl rfl (λe=>(iX (iZ (i:=2) pT.nd rfl VG (pv 3)))))
   case' F=>refine' gF ?G ?H
   case G=>
    refine' nA ?I ?J nz
    case I=>exact(uY (aS (Lg (K':=K) rfl) rfl T.n_isinstance d6 (bS (pv 2) (bS (vw (bS (dS (v:= .ref t.u_GoneMaker) rfl T.c_GoneMaker rfl) (bS (dS (v:= .ref t.u_Held) rfl T.c_Held rfl) (bS (dS (v:= .ref t.u_MustStay) rfl T.c_MustStay rfl) (bS (dS (v:= .ref t.u_NoCall) rfl T.c_NoCall rfl) (bS (dS (v:= .ref t.u_NoDay) rfl T.c_NoDay rfl) (bS (dS (v:= .ref t.u_NoDeed) rfl T.c_NoDeed rfl) (bS (dS (v:= .ref t.u_NoLeave) rfl T.c_NoLeave rfl) (bS (dS (v:= .ref t.u_NoNumber) rfl T.c_NoNumber rfl) (bS (dS (v:= .ref t.u_NoText) rfl T.c_NoText rfl) (bS (dS (v:= .ref t.u_Twice) rfl T.c_Twice rfl) dF))))))))))) dF))))
    case' J=>refine' iX ?K
    case K=>refine' jv uW
   case' H=>refine' iX ?L
   case' L=>refine' jv ?M
   case M=>exact(va (aS (Cw (K':=K) rfl) rfl T.n_isinstance d6 (bS (pv 2) (bS (dS (v:= .ref t.u_NoPaper) rfl T.c_NoPaper rfl) dF))) (u7 (aS (Cw (K':=K) rfl) rfl T.n_isinstance d6 (bS (pv 2) (bS (eX (v:= .ty "ValueError") rfl T.n_ValueError GS rfl) dF)))))
  case B=>
  walk_at "d";unfold CH;refine⟨f,k,fd,sp,y,o,rfl,hbf,hr.mono hk,Ff,hb,v,rfl,?_⟩;refine hsp _ _ λd H2 q=>⟨rfl,λe he=>?_⟩;walk_at "d";refine⟨VC,λq' hq=>?_⟩;have ne:e≠q':=cR bb hq;have Z:gI K t.u_NoPaper:=⟨T.z1,T.z2,T.z3,T.z4,T.z5,T.z6,T.z7,T.z8⟩;refine⟨t.u_NoPaper,(aE ne).trans bb,[t.u_GoneMaker,t.u_Held,t.u_MustStay,t.u_NoCall,t.u_NoDay,t.u_NoDeed,t.u_NoLeave,t.u_NoNumber,t.u_NoText,t.u_Twice],bb,Z,false,T.ka,?_⟩;rw [VE VC];refine⟨t.u_NoPaper,(aE ne).trans bb,Z,.ref t.u_NoPaper,λu h=>h,true,by unfold RO;rw [VF VH],?_⟩;rw [VF rfl];refine⟨t.u_NoPaper,(aE ne).trans bb,Z,.type "ValueError",λu h=>h,true,T.kv,?_⟩;exact q _ ((au.new he).trans (au.new hq))
def N9:List VI->(VI->Prop)->Prop:=λds Q=>∃(xs:List De)(d:VI),ds=[.tuple (xs.map De.enc),d]/\cW xs/\ah xs≠[]/\j5 xs d/\Q (.bool true)
def lamQ:Str:="_law_no_paper.<locals>.<lambda>"
theorem uU:(Oh "_law_no_paper"++Oh ".<locals>.")++Oh "<lambda>"=lamQ:=Ce
theorem Oa{c PT:VM}(T:Txt K mg t)(LF:jm base mg c PT)(hco:t.d_AA.code= .ref c):aF P w K mg base aK 15 t.a_AA t.d_AA ["_law_deeds_here","_law_thing"] (mK PT lamQ K N9):=by
 have G_z:=λbase':VY=>N8 (P:=P) (w:=w) (base:=base') T;have G_F:=@lr P w _ _ base _ T;have X_paper_made:=λbase':VY=>N5 (P:=P) (w:=w) (base:=base') T;have X_paper_covered:=λbase':VY=>N7 (P:=P) (w:=w) (base:=base') T;refine T.F_AA.F.okDL hco CT (λds Q h=>?_) (λcdv A outer s H O ds Q E hcode hP0 hr h=>?_)
 ·obtain⟨xs,d,rfl,_⟩:=h;rfl
 ·obtain⟨xs,d,rfl,g,p0,hn,q⟩:=h;refine'⟨_,?A,?B⟩
  case A=>
   refine' ao ?C ?D
   case C=>exact(bj (i:=2) CT.nd rfl VG (ax aC aD (ar G_F hr T.F_F (aa (dv 0) ag)) af))
   case' D=>refine' ao ?E ?F
   case E=>
    refine' aM ?G ?H aL
    case G=>exact(cM (bQ (tu (C:=t.u_NoPaper) (k0:=13) (j:=1) G_z X_paper_made (hr.mono VC) T.F_z T.F_P hP0 LF hcode uU NX VC (λ_=>rfl) (λ_ _ _ _ _ _ _ _ _=>(aa (dv 1) (aa (dv 0) (aa (dv 2) ag)))))))
    case H=>refine' ai (ay bH)
   case' F=>refine' ao ?I ?J
   case I=>
    refine' aM ?K ?L aL
    case K=>exact(cM (bQ (tu (C:=t.u_NoPaper) (k0:=13) (j:=1) G_z X_paper_made (hr.mono VC) T.F_z T.F_P hP0 LF hcode uU NY VC (λ_=>rfl) (λ_ _ _ _ _ _ _ _ _=>(aa (dv 1) (aa (dv 2) (aa (dv 0) ag)))))))
    case L=>refine' ai (ay bH)
   case' J=>refine' ai ?M
   case' M=>refine' ay ?N
   case N=>exact(tu (C:=t.u_NoPaper) (k0:=13) (j:=1) G_z X_paper_covered (hr.mono VC) T.F_z T.F_Q hP0 LF hcode uU NZ VC (λ_=>rfl) (λ_ _ _ _ _ _ _ _ _=>(aa (dv 1) (aa af (aa (dv 0) (aa (dv 2) ag))))))
  case B=>
  clear hr T LF hcode hP0 G_z G_F X_paper_made X_paper_covered;walk_at "a";refine⟨xs,rfl,g,_,rfl,?_⟩;cases ho:cF (ah xs) with
  | nil=>exact absurd (Rn (by rw [<-ur,ho];rfl)) p0
  | cons p r=>
   have hp:p∈ah xs:=eV.mp (by rw [ho];simp);exact⟨.str p.nm,by rw [Ov,Ov];exact dM,.inl ⟨xs,d,_,rfl,g,hn,trivial⟩,.inr ⟨xs,p,d,rfl,g,hp,hn,trivial⟩,⟨xs,40,d,_,rfl,g,hn,trivial⟩,q⟩
end
theorem ED:bt (aA mQ) ["_law_script","_law_menu","_law_deeds_here","_law_names_here","_law_far","_law_bars","_law_odd","_law_k","_law_purse_here","_law_day_here"] ["_law_deed_here"] 1 [] ⟨OE,[(Oj ".0",Xy),(Oj "_law_deed_here",Xy)],false,false,[]⟩:= .of
theorem EF:bt (aA mQ) ["_law_script","_law_menu","_law_deeds_here","_law_names_here","_law_far","_law_bars","_law_odd","_law_k","_law_purse_here","_law_day_here"] ["_law_name","_law_deeds_here"] 1 [2] ⟨OE,[ (Oj ".0",Xy),(Oj "_law_name",Xy),(Oj "papers",OT),(Oj "_law_deeds_here",OM)],false,false,[]⟩:= .of
section
variable {P:VW} {w:VZ} {K:Og} {mg:Str->Option VJ} {base:VY} {t:cz}
def F_AB:List VI->(VI->Prop)->Prop:=λds Q=>∃ns:List Int,ds=[fy (ns.map .int)]/\ns.length<=63/\(∀z∈ns,Qp z<=1048576)/\Q (.bool true)
def sp_law(K:Og)(PT:VM):Sp:=mK PT lamQ K F_AB
theorem start_law{K:Og}{H:Hp}{a PT:VM}{ns:List Int}(hl:ns.length<=63)(hb:∀z∈ns,Qp z<=1048576)(hP:H PT=some (fj lamQ))(hS:bf K H a (ns.map V.int)):sp_law K PT [.ref a] H (λv _=>v= .bl true) λ_ _ _=>False:=
 ⟨hP,λ_=>False,[fy (ns.map .int)],λd=>d= .bool true,λ_ z=>z.elim,.cons (.scr (by
  rcases hS with h | h
  ·exact .inl ⟨h,λz=>z⟩
  ·exact .inr (.inr h)) (aq.ints ns)) .nil,⟨ns,rfl,hl,hb,rfl⟩,λd v H' e _ r=>by subst e;cases r;rfl⟩
theorem Ob{x:De}(h:dE x.enc):Nm x.nm:=by
 obtain⟨r,e⟩:=x.encE;rw [e] at h;generalize hd:Oz (.str x.w:: .int x.d:: .str x.nm::r)=z at h;cases h <;> (simp only [Qu,PH,Qi,RA] at hd;rw [hd.2.2.1];assumption)
theorem ok_law{c PT:VM}(T:Txt K mg t)(LF:jm base mg c PT)(hco:t.d_AA.code= .ref c):aF P w K mg base aK 16 t.a_AB t.d_AB ["_law_script"] (sp_law K PT):=by
 have G_u:=@MW P w _ _ base _ T;have G_k:=@Ds P w _ _ base _ T;have G_j:=@Dx P w _ _ base _ T;have G_l:=@lu P w _ _ base _ T;have G_F:=@lr P w _ _ base _ T;have G_x:=@NU P w _ _ base _ T;have G_y:=@NW P w _ _ base _ T;have G_AA:=Oa (w:=w) (P:=P) (base:=base) T LF hco;refine T.F_AB.F.okDP gR (λds Q h=>?_) (λcdv A outer s H O ds Q E hP0 hr h=>?_)
 ·obtain⟨ns,rfl,_⟩:=h;rfl
 ·obtain⟨ns,rfl,hl,hb,q⟩:=h;refine'⟨_,?A,?B⟩
  case A=>
   refine' ao ?C ?D
   case C=>
    generalize hE2_0:U6 _ _=ee2_0;exact bj (i:=1) gR.nd rfl VG (fe (sa (ds:=[.str "hold",.str "hold",.str "hold",.str "lift",.str "keep",.str "follow",.str "happens",.str "end"]) (by first | (subst hE2_0;rfl)))) (hs:=HH (ds:=[.str "hold",.str "hold",.str "hold",.str "lift",.str "keep",.str "follow",.str "happens",.str "end"]) (by first | (subst hE2_0;rfl)))
   case' D=>refine' ao ?E ?F
   case E=>exact(xi (ar G_u hr T.F_u (aa (dv 0) (aa (dv 1) (aa af ag)))) (jx (n:=3) rfl (di (aR (i:=2) gR.nd rfl VG) (di (aR (i:=3) gR.nd rfl VG) (di (aR (i:=4) gR.nd rfl VG) jw)))) (kG (dW aV (dW aV (dW aV kF)))))
   case' F=>refine' ao ?G ?H
   case G=>
    refine' aM ?I ?J aL
    case I=>exact(PW.pt (cS (cM (bQ (ar G_x hr T.F_x (aa (dv 2) ag)))) (dH (cM (bQ (ar G_x hr T.F_x (aa (IU (df (dv 2))) ag)))))))
    case J=>refine' ai (ay bH)
   case' H=>refine' ao ?K ?L
   case K=>
    generalize hG10:Uy _ _ _ _=eg10;refine' bj (i:=5) gR.nd rfl VG ?M (hs:=by subst hG10;exact jT)
    case' M=>subst hG10
    exact(fe (Kb rfl rfl T.n_sorted Rg rfl T.n_set (aO (fe (xH (df (fe (kH rfl ED (df (dv 2)) aV cI VC (λ_ _ _ _=>(aR (i:=0) ED.nd rfl VG)) (λ_ _ _ _=>(fQ (aG (fY hr) fZ (ax aC aD (dv 0) af) (bg (aa aJ (aa aJ ag))) rfl))) (λ_ _ _ _=>(ax aC aD (dv 0) af))))) (df (fe (jK (df (dv 3)) fB (dB af)))))) aN)))
   case' L=>refine' ao ?N ?O
   case N=>exact(mi (i:=6) gR.nd rfl VG (oM rfl EF (df (dv 3)) aV cI VC (λ_ _ _ _=>(aR (i:=0) EF.nd rfl VG)) (λ_ _ _ _=>(fQ (aG (jc hr) fD (dv 0) (ar G_F hr T.F_F (aa (dv 1) ag)) rfl))) (λ_ _ _ _=>(dv 0))))
   case' O=>refine' ao ?P ?Q
   case P=>
    generalize hG15:Vx _ _ _ _=eg15;refine' bj (i:=6) gR.nd rfl VG ?R (hs:=by subst hG15;exact my)
    case' R=>subst hG15
    refine' fe ?S
    case' S=>refine' xH (df (dv 6)) (df ?T)
    case' T=>refine' fe ?U
    case' U=>refine' cZ ?V
    case' V=>refine' aa ?W ?X
    case W=>exact((iC))
    case' X=>refine' aa ?Y ?Z
    case Y=>exact((bH))
    case' Z=>refine' aa ?a ?b
    case a=>exact((af))
    case' b=>refine' aa ?c ?d
    case c=>exact((aJ))
    case' d=>refine' aa ?e ?f
    case e=>exact((aJ))
    case' f=>refine' aa ?g ?h
    case g=>exact(((bg ag)))
    case' h=>refine' aa ?i ?j
    case i=>exact(((fe (cZ ag))))
    case' j=>refine' aa ?k ?l
    case k=>exact((IK))
    case' l=>refine' aa ?m ?n
    case m=>exact(((bg (aa aJ ag))))
    case' n=>refine' aa ?o ag
    case o=>exact(((bg (aa (fe (cZ ag)) ag))))
   case' Q=>refine' ao ?p ?q
   case p=>
    refine' xw Pg rfl rfl T.n_range (aa af (aa af ag)) ?r aV ?s
    case r=>exact(aR (i:=7) gR.nd rfl VG)
    case' s=>refine' ao ?t ?u
    case t=>exact(bj (i:=8) gR.nd rfl VG (ar G_k hr T.F_k (aa (ar G_j hr T.F_j (aa (dv 0) (aa (dv 7) ag))) ag)))
    case' u=>refine' ao ?v ?w
    case v=>
     generalize hG47:Uy _ _ _ _=eg47;refine' bj (i:=9) gR.nd rfl VG ?x (hs:=by subst hG47;exact jT)
     case' x=>subst hG47
     exact(PE.imp (aS (vt rfl) rfl T.n_max TH (aO af (aO (aZ cA bX (ax aC aD (ax aC aD (dv 2) (ar G_l hr T.F_l (aa (dv 8) (aa (PE.imp (aS bG rfl T.n_len OF (aO (dv 2) aN)) (aT bK)) ag)))) af) (ax bT ck (fe (cZ (aa af (aa af (aa (sJ af) (aa (aZ vi dA af af) ag)))))) (ar G_l hr T.F_l (aa (dv 8) (aa af ag))))) aN))) (aT xS))
    case' w=>refine' ai ?y
    case' y=>refine' aM ?z ?A0 aL
    case z=>exact(PW.pt (cS (cM (bQ (ar G_y hr T.F_y (aa (dv 2) (aa (dv 9) (aa (dv 5) ag)))))) (dH (cM (bQ (Lu hP0 G_AA hr T.F_AA (aa (dv 2) (aa (ax bT ck (dv 6) (ar G_l hr T.F_l (aa (dv 8) (aa (PE.imp (aS bG rfl T.n_len OF (aO (dv 6) aN)) (aT bK)) ag)))) ag))))))))
    case A0=>refine' ai (ay bH)
   case q=>refine' ai (ay bH)
  case B=>
  clear G_u G_k G_j G_l G_F G_x G_y G_AA hr T LF hP0;walk_at "a";refine⟨ns,rfl,λxs nms far gl x0 nl nok nnd=>?_⟩;have g:=gl.good;have ln:=gl.l;dsimp only;refine⟨_,rfl,rfl,_,_,rfl,_,_,rfl,_,_,rfl,rfl,xs,rfl,gl,true,rfl,?_⟩;rw [VE VC];refine⟨_,rfl,?_⟩;rw [<-List.map_reverse];refine⟨xs.reverse,rfl,gl.perm (List.reverse_perm _),true,rfl,?_⟩;rw [VE VC];refine⟨_,rfl,by rw [Oi];omega,?_⟩;refine fK (λx=>Oh "hold"==x.w || Oh "lift"==x.w) (λx=>.str x.nm) (λx hx R S h=>?_) ?_
  ·obtain⟨rx,ex⟩:=x.encE;rw [ex];walk_at "a";exact h
  have cn:bY (nms.map Ol) none (some 2)=(nms.take 2).map Ol:=by
   rw [jN VC (by rw [Oi];omega),<-Ri];rfl
  have fl:(xs.filter λx=>Oh "hold"==x.w || Oh "lift"==x.w).length<=32:=OZ (Qs _ _) ln;have bn:∀b∈cD (Q8 cV [] ((xs.filter λx=>Oh "hold"==x.w || Oh "lift"==x.w).map (·.nm)++nms.take 2)),Nm b:=λb hb=>by
   rw [(fX _).mem_iff,Bt] at hb;rcases OJ.mp (hb.resolve_left Pc) with z | z
   ·obtain⟨x,hx,rfl⟩:=Ow.mp z;exact Ob (gl.e x (O7.mp hx).1).dv
   ·exact nok b (PQ z)
  refine⟨_,rfl,by rw [cn,Oi,Oi,Pn];omega,(xs.filter λx=>Oh "hold"==x.w || Oh "lift"==x.w).map (·.nm)++nms.take 2,by rw [cn,O9,Pl];rfl,by rw [O4,Oi,Pn];omega,?_⟩;generalize cD (Q8 cV [] ((xs.filter λx=>Oh "hold"==x.w || Oh "lift"==x.w).map (·.nm)++nms.take 2))=B at bn⊢;clear fl cn;have pm:∀z,z∈(cF (ah xs)).map (·.nm)↔∃p∈ah xs,p.nm=z:=λz=>by
   rw [Ow];exact⟨λuu14=>by obtain⟨p,h,e⟩:=uu14;exact⟨p,eV.mp h,e⟩,λuu15=>by obtain⟨p,h,e⟩:=uu15;exact⟨p,eV.mpr h,e⟩⟩
  refine⟨_,rfl,by rw [Oi];omega,fK (enc:=Ol) (λz=>!((cF (ah xs)).map (·.nm)).contains z) Ol (λz hz R S h=>?_) ?_⟩
  ·walk_at "a";refine⟨xs,rfl,g,_,.inr rfl,cP.mpr (nok z hz).ok,jZ λm hm=>?_,?_⟩
   ·obtain⟨p,hp,rfl⟩:=(pm m).mp hm;exact g.gp.nm p hp
   ·rw [iR];simpa using h
  have zl:(nms.filter λz=>!((cF (ah xs)).map (·.nm)).contains z).length<=8:=by rw [<-nl];exact Qs _ _
  have zn:∀z∈(nms.filter λz=>!((cF (ah xs)).map (·.nm)).contains z),∀p∈ah xs,p.nm≠z:=λz hz p hp e=>by
   have:=(O7.mp hz).2;rw [Qw,Qo] at this;exact this (P4.mpr ((pm z).mpr ⟨p,hp,e⟩))
  generalize (nms.filter λz=>!((cF (ah xs)).map (·.nm)).contains z)=zs at zl zn⊢;refine⟨by rw [Oi];omega,?_⟩;have odd:∀z∈(O8 Ol zs++[QW,Ql true,Ou 0,Ol (Oh ""),Ol (Oh "A"),Oz [],PL [],Tu [],Oz [Ol (Oh "paper")],Oz [PL []]]),j5 xs z:=λz hz=>by
   simp only [OJ,Ox,Pc,or_false,Ow] at hz;have no:∀s:Str,(¬Nm s)->j5 xs (.str s):=λs hs=>⟨rfl,λp hp=>by
    rw [gN];refine dZ λe=>hs ?_;rw [<-e];exact gl.pnm hp⟩
   rcases hz with⟨y,hy,rfl⟩ | h | h | h | h | h | h | h | h | h | h
   ·exact⟨rfl,λp hp=>by rw [gN];exact dZ (zn y hy p hp)⟩
   ·rw [h];exact⟨rfl,λp hp=>by simp [Om]⟩
   ·rw [h];exact⟨rfl,λp hp=>by simp [Om]⟩
   ·rw [h];exact⟨rfl,λp hp=>by simp [Om]⟩
   ·rw [h];exact no _ λn=>absurd n.lo Ce
   ·rw [h];exact no _ λn=>absurd n.ab Ce
   all_goals (rw [h];exact⟨rfl,λp hp=>by simp [Om]⟩)
  have oddl:0 < (O8 Ol zs++[QW,Ql true,Ou 0,Ol (Oh ""),Ol (Oh "A"),Oz [],PL [],Tu [],Oz [Ol (Oh "paper")],Oz [PL []]]).length/\(O8 Ol zs++[QW,Ql true,Ou 0,Ol (Oh ""),Ol (Oh "A"),Oz [],PL [],Tu [],Oz [Ol (Oh "paper")],Oz [PL []]]).length<=18:=by
   rw [O4,Oi];constructor
   ·show 0 < zs.length+10;omega
   ·show zs.length+10<=18;omega
  generalize O8 Ol zs++[QW,Ql true,Ou 0,Ol (Oh ""),Ol (Oh "A"),Oz [],PL [],Tu [],Oz [Ol (Oh "paper")],Oz [PL []]]=OL at odd oddl⊢;generalize PL [Ol (Oh "hold"),Ol (Oh "hold"),Ol (Oh "hold"),Ol (Oh "lift"),Ol (Oh "keep"),Ol (Oh "follow"),Ol (Oh "happens"),Ol (Oh "end")]=ML;refine⟨λi δ=>∃o7 o8 o9:Option Sl,δ=[some (Sl.v (fy (ns.map .int))),some (Sl.v ML),some (Sl.v (.tuple (xs.map De.enc))),some (Sl.v (.list (nms.map .str))),some (Sl.v (.int far)),some (Sl.v (.list (B.map .str))),some (Sl.v (.list OL)),o7,o8,o9],⟨_,_,_,rfl⟩,?_,?_⟩
  ·rintro i z δ hz ⟨o7,o8,o9,rfl⟩;obtain⟨hi,rfl⟩:=i9 hz;clear hz;walk_at "a";have xl:0 < xs.length:=by
    rcases Nat.eq_zero_or_pos xs.length with e | e
    ·rw [RT.mp e] at x0;exact absurd rfl x0
    ·exact e
   refine⟨ns,_,rfl,VD,VD,λc=>⟨c,rfl,_,rfl,by rw [Oi];omega,by rw [Oi];omega,λv v0 v1=>?_⟩⟩;rw [Oi] at v1;obtain⟨j,rfl⟩:=P8 v0;have hj:j < xs.length:=VD
   obtain⟨rx,ej⟩:=xs[j].encE;refine⟨_,rfl,_,dG (by simp [hj];exact ej),_,rfl,_,eN,VC,4,rfl,VC,VC,λu u0 u1=>⟨_,rfl,?_⟩⟩;obtain⟨e,ee⟩:∃e:Int,atI [Ou 0,Ou 1,Ou (-1),Ou (10 ^ Int.toNat 9)] u=some (.int e):=by
    have:u=0\/u=1\/u=2\/u=3:=VD
    rcases this with h | h | h | h <;> subst h <;> exact⟨_,rfl⟩
   refine⟨_,ee,_,rfl,_,rfl,xs,_,B,rfl,gl,?_,bn,true,rfl,?_⟩
   ·split <;> omega
   rw [VE VC];refine⟨_,rfl,by have:=oddl.1;omega,by have:=oddl.2;omega,λy y0 y1=>?_⟩;obtain⟨k,rfl⟩:=P8 y0;have hk:k < OL.length:=VD
   refine⟨_,rfl,OL[k],dG (by simp [hk]),xs,_,rfl,g,x0,odd _ (PB hk),true,rfl,?_⟩;rw [VE VC];exact⟨_,rfl⟩
  ·rintro δ ⟨o7,o8,o9,rfl⟩;walk_at "a";exact q
end
end K56
namespace PySem.W.Fast
def tw1420134656215687216:=0
def tw12763631859675101783:=0
def tw8132955954616650834:=0
def tw1850796076846844403:=0
def tw5405552653517433288:=0
def tw18079672106058075722:=0
def tw4159772245744176594:=0
def tw5628701402750832150:=0
def tw4471640769791300891:=0
def tw6911512443178498036:=0
def tw8844622819334855746:=0
def tw17571544362978024432:=0
def tw14855483797675836187:=0
def tw1728361628393246038:=0
def tw7969632833450556349:=0
def tw14478654393062498708:=0
def tw11091771565521862729:=0
def tw7397677107576508603:=0
def tw8619664628513068810:=0
def tw10115485212922710606:=0
def tw6273472905568871257:=0
def tw14536343321062178439:=0
def tw12775556148777361712:=0
def tw14680712031622836113:=0
def tw7586637277262015433:=0
def tw6424837836386298528:=0
def tw7597846575761166298:=0
def tw3320675878120641856:=0
def tw14174176516497356356:=0
def tw16822595071339260626:=0
def tw11513307470606517477:=0
def tw8083282570333345403:=0
def tw10230201875470011265:=0
def tw17238605012414379002:=0
def tw9418075973675929892:=0
def tw12213408691599908946:=0
def tw8889126450862987409:=0
def tw4778567871869738983:=0
def tw15751607147684841091:=0
def tw3252013186389056498:=0
def tw11111329026810236504:=0
def tw2808712206867191607:=0
def tw6283987580357299666:=0
def tw10623036150608450496:=0
def tw925730479759243909:=0
def tw951639252188335256:=0
def tw15582456995164112871:=0
def tw14988230947539178750:=0
def tw10450559222199720451:=0
def tw17034296186081403339:=0
def tw6518039551578928187:=0
def tw10824876352628988638:=0
def tw8285584333068827029:=0
def tw14394162958971223966:=0
def tw4187441930076762651:=0
def tw11154064714688982897:=0
def tw11546006521652580088:=0
def tw9317563256357338560:=0
def tw3112882885514901150:=0
def tw6450272218532379771:=0
def tw10051453610262005100:=0
def tw17143581733900940470:=0
def tw4671700575297078050:=0
def tw3813142845939524464:=0
def tw12983255420348007557:=0
def tw16052550615600796100:=0
def tw17160492704801752382:=0
def tw1518328038881753853:=0
def tw542021100393638760:=0
def tw17718728562713249411:=0
def tw3530814420426245582:=0
def tw15216405305800620506:=0
def tw8341721023470308955:=0
def tw720029624149849357:=0
def tw13402449825243936524:=0
def tw7494112176884776824:=0
def tw15196871283246126120:=0
def tw3270114767508139746:=0
def tw2644890026752422163:=0
def tw15200201986994533745:=0
def tw13093841624356566810:=0
def tw8741934481855931947:=0
def tw13020930981008756329:=0
def tw5201615220279550429:=0
def tw4834810990255719464:=0
def tw6113076057698097367:=0
def tw14624989595777862998:=0
def tw13266542725852523663:=0
def tw4133573631268093564:=0
def tw1776493191443202167:=0
def tw11827572829323475078:=0
def tw7397792979069951178:=0
def tw10241250010040301923:=0
def tw3032748472674374546:=0
def tw10010751286232452174:=0
def tw16533420700724715993:=0
def tw7163175136128707678:=0
def tw11433554812737724680:=0
def tw14479066534494064477:=0
def tw14222789045958350690:=0
def tw11566231485614442924:=0
def tw6767135816102930287:=0
def tw14348482230047939732:=0
def tw456330632215795614:=0
def tw16933445848619994660:=0
def tw12972322297011949745:=0
def tw1849054515871219143:=0
def tw6719819252223635978:=0
def tw3679096900856772293:=0
def tw8275795131725136110:=0
def tw2878723037141594462:=0
def tw7611843765966386584:=0
def tw17770089565223772545:=0
def tw15167617347593673396:=0
def tw6800557038525128952:=0
def tw5899580962068854638:=0
def tw17955857391488329983:=0
def tw17145321465831584450:=0
def tw2486941918503460126:=0
def tw10395564171792985468:=0
def tw14307455194546299466:=0
def tw2101878783206310896:=0
def tw50556200284885603:=0
def tw15493521649536074600:=0
def tw17649682949573426454:=0
def tw13346968272419656740:=0
def tw17314223430914197749:=0
def tw17734153207140840666:=0
def tw7509607055651948922:=0
def tw3183452768571011749:=0
def tw7326717394510792671:=0
def tw8215621816268815234:=0
def tw17942654976483764499:=0
def tw16359866022460425876:=0
def tw1540878145557816853:=0
def tw10475500308482878060:=0
def tw15884898672820905225:=0
def tw15573372985826392797:=0
def tw10357749955576349321:=0
def tw10279505188668434982:=0
def tw8375513877926975259:=0
def tw5070120722182253015:=0
def tw7400147172857746490:=0
def tw2946072898842945904:=0
def tw3731780821929042737:=0
def tw6939385043556551403:=0
def tw15818217298051663296:=0
def tw531630666123378709:=0
def tw15048068816149895223:=0
def tw4338332958351053906:=0
def tw12639822316675907071:=0
def tw15272595416154357804:=0
def tw4884465408647344726:=0
def tw2688950602940728093:=0
def tw17303053569862467691:=0
def tw4305202298129358400:=0
def tw2637742632686042005:=0
def tw717490421545483453:=0
def tw14758001486448420680:=0
def tw4485264147738785178:=0
def tw14073161388833855242:=0
def tw16963734150884507989:=0
def tw1364414352698221662:=0
def tw8153790130551476700:=0
def tw3499675963410345424:=0
def tw1511822418166981007:=0
def tw9539056928213696876:=0
def tw4958829217332027215:=0
def tw17225196840440474129:=0
def tw14568770166784371687:=0
def tw4403335408087527680:=0
def tw3613797477688753425:=0
def tw13858295338577871324:=0
def tw13467014444466809969:=0
def tw608719086983040811:=0
def tw14641964704105814341:=0
def tw11615923589869990211:=0
def tw12346076828478918488:=0
def tw15950210401101260816:=0
def tw3798326101572008375:=0
def tw16350738365052702572:=0
def tw3089657815928125301:=0
def tw14301066986797137244:=0
def tw4208191791894315403:=0
def tw3882236995334099859:=0
def tw4826547990190176549:=0
def tw6135733023518019665:=0
def tw13843151136935910819:=0
def tw8323763461740157205:=0
def tw14895078089249349336:=0
def tw6488027259366325707:=0
def tw11499681284980960267:=0
def tw1362373345358761785:=0
def tw10165625809914453665:=0
def tw10235761974918742235:=0
def tw5590574286149371287:=0
def tw4647892467801243687:=0
def tw2364096994472386278:=0
def tw4038241139990269914:=0
def tw14692806887579130099:=0
def tw15483379276132173424:=0
def tw13319105652467840390:=0
def tw14879020511627398663:=0
def tw14169870415868412822:=0
def tw10864087935766814016:=0
def tw3808145644216662425:=0
def tw6081525482783418923:=0
def tw17452276351444859532:=0
def tw13958758690956306397:=0
def tw10881295998226717827:=0
def tw16405248388646908648:=0
def tw14286214913921698220:=0
def tw9911570078733419315:=0
def tw263644729065968450:=0
def tw16960422755281955294:=0
def tw12874725403054496121:=0
def tw3724013656325766740:=0
def tw146379383165337527:=0
def tw12369481011539415807:=0
def tw8978899118235129205:=0
def tw15928340080990473393:=0
def tw14455965169694365001:=0
def tw2245456600257770146:=0
def tw3734327415411239394:=0
def tw6382224843904588435:=0
def tw8845883776261058114:=0
def tw4707221089538761845:=0
def tw2424280670388482666:=0
def tw16440406372211063608:=0
def tw12108021943802922705:=0
def tw13750135945679907056:=0
def tw16468810193688306830:=0
def tw15896668395392013122:=0
def tw13131907907090691818:=0
def tw14590756926017482014:=0
def tw5809483061830799885:=0
def tw2938240828209766409:=0
def tw14652652387669616955:=0
def tw14447000003530090440:=0
def tw9560284455392342889:=0
def tw10491600743031496130:=0
def tw3512335639154579260:=0
def tw1685705686545769213:=0
def tw11020767351833374040:=0
def tw9871406813647073347:=0
def tw6412083386583392912:=0
def tw11777921059636282686:=0
def tw502714994429382086:=0
def tw5110443377126438490:=0
def tw8859761550737963636:=0
def tw3150120609260652578:=0
def tw8229343596259978971:=0
def tw14168198318742501876:=0
def tw3676839414865032908:=0
def tw7233271709073479796:=0
def tw5183162578372375823:=0
def tw10559228121881823308:=0
def tw7091773446575474843:=0
def tw6639512817956325031:=0
def tw6163617891921119016:=0
def tw15253488845221162908:=0
def tw8830198344676990783:=0
def tw6096788957616245803:=0
def tw2119278739602875610:=0
def tw8387020323716217156:=0
def tw2678514001323578289:=0
def tw961976615934618176:=0
def tw4978911240481728922:=0
def tw16598663785132838131:=0
def tw15909170406003647492:=0
def tw12037389376582707556:=0
def tw10466094742836961773:=0
def tw9818676066246840431:=0
def tw14884964213070326120:=0
def tw17167203815249894345:=0
def tw7339942917233737192:=0
def tw3525998176582580606:=0
def tw5038190998972520538:=0
def tw8308326514374354712:=0
def tw2858113207342033130:=0
def tw7874887733522824851:=0
def tw5724199969422995167:=0
def tw17247146157875383367:=0
def tw15979358242794685580:=0
def tw1573948680401457985:=0
def tw13070467480669046611:=0
def tw10391903748378289507:=0
def tw8402483459125367957:=0
def tw6998593117270875101:=0
def tw3965402480500023004:=0
def tw2899344062331436163:=0
def tw9160607005851410478:=0
def tw11817367413530074911:=0
def tw3391456560724507393:=0
def tw6983419736681517882:=0
def tw13327593495751316120:=0
def tw1668393591051576731:=0
def tw72937725750999023:=0
def tw18290909496734308990:=0
def tw2218063852750934254:=0
def tw5513171129400429406:=0
def tw11119411316484515698:=0
def tw3832965961442832940:=0
def tw15744925033120917863:=0
def tw18190718829672503638:=0
def tw14607888610387890530:=0
def tw3462514503684845885:=0
def tw12119466296978235339:=0
def tw2949079682770790435:=0
def tw49102041770132061:=0
def tw10829676944160314819:=0
def tw7372640786479302315:=0
def tw14858454994255533766:=0
def tw15067622129603947483:=0
def tw11801233077856869157:=0
def tw4709257298912001297:=0
def tw10741187374317023596:=0
def tw14685653723526127126:=0
def tw4633246852298420368:=0
def tw3560527425961532370:=0
def tw3501375305577859936:=0
def tw8942702924631382978:=0
def tw2468420731604988198:=0
def tw15679953916099662109:=0
def tw9862205671940160549:=0
def tw10310957323686000871:=0
def tw7116555098381557920:=0
def tw14980502110096767265:=0
def tw6875087601558392500:=0
def tw11116641111319559817:=0
def tw13046159562813653763:=0
def tw13016737971729414128:=0
def tw17272341838154562714:=0
def tw567612966577623220:=0
def tw17194403833497229104:=0
def tw105282730404060702:=0
def tw808512097874663659:=0
def tw2831016002156852371:=0
def tw6113445500113682738:=0
def tw5833728648079867618:=0
def tw15206747762926407270:=0
def tw6223495705574490094:=0
def tw12322683424417270269:=0
def tw18323502885394656535:=0
def tw138631986144144268:=0
def tw11048706968880533916:=0
def tw8887468678431366018:=0
def tw18066292764170587488:=0
def tw47030285323447992:=0
def tw860036307920099252:=0
def tw5255838488000401412:=0
def tw15579591119156845346:=0
def tw14160110436045465220:=0
def tw11957587702759837328:=0
def tw12452988191573608374:=0
def tw5133843589338621333:=0
def tw18245488416874758104:=0
def tw15825782842752256078:=0
def tw15061785167819543550:=0
def tw2112354911604009508:=0
def tw4169379957696456234:=0
def tw404683885979178338:=0
def tw18120437034009504597:=0
def tw17019586530589904805:=0
def tw12496698459648812213:=0
def tw9777732432356806318:=0
def tw9480255258756535311:=0
def tw8732113204337174716:=0
def tw16709712213379515179:=0
def tw12996363540485798941:=0
def tw10802715013567064312:=0
def tw5863508484863680804:=0
def tw18190972209320877106:=0
def tw17933446488278867166:=0
def tw17337447935257079852:=0
def tw10815307825614779531:=0
def tw14512535219590167969:=0
def tw9158164089669249591:=0
def tw16791736369630330764:=0
def tw16014572067640894638:=0
def tw13413492358193639638:=0
def tw11767980084521311977:=0
def tw108774693924209299:=0
def tw7230877264594735220:=0
def tw4841762686172158495:=0
def tw414194714822091028:=0
def tw7569508382087484469:=0
def tw6820473480048009895:=0
def tw5566418590482402506:=0
def tw2189525505430542367:=0
def tw216661313314322089:=0
def tw11300651565310239315:=0
def tw14366137702280824523:=0
def tw7982771567056479021:=0
def tw6822429177275293747:=0
def tw5358605165249131205:=0
def tw16937631385252096636:=0
def tw15283204295186449630:=0
def tw11083972337979182062:=0
def tw10383168160849456465:=0
def tw11365388104992265759:=0
def tw9040222668015530953:=0
def tw2633399467596156459:=0
def tw16687484251104575721:=0
def tw8381528642706102927:=0
def tw1853471519110596263:=0
def tw1551335218599131881:=0
def tw116327762728521602:=0
def tw107026621324843869:=0
def tw10327924949578367899:=0
def tw9635637467342700018:=0
def tw9144444073884430208:=0
def tw13996077954627368790:=0
def tw13037758010520182489:=0
def tw8323506116746956592:=0
def tw816381624526713422:=0
def tw6564723488141630906:=0
def tw3684244804809422863:=0
def tw16643195421389858690:=0
def tw16230433511369101176:=0
def tw4159674677039088970:=0
def tw10640144121156431274:=0
def tw7407166471251717066:=0
def tw6415905665404067275:=0
def tw2556711644063629368:=0
def tw13282705991959462500:=0
def tw3585757397336341202:=0
def tw719509437443297394:=0
def tw8420278321460582007:=0
def tw11601693952193627768:=0
def tw14199693008429041755:=0
def tw288303232822068849:=0
def tw11223727891326870778:=0
def tw6135177154396157242:=0
def tw14107748986096593792:=0
def tw13246860836465345866:=0
def tw11449955590457267983:=0
def tw2264954146648292320:=0
def tw9501491851800005315:=0
def tw5921948868043300162:=0
def tw9947283519113256874:=0
def tw6499950061753645133:=0
def tw5769307159491110561:=0
def tw14130144838496917096:=0
def tw4976561877305013727:=0
def tw9913388388567523334:=0
def tw15475673304989821302:=0
def tw9405789902323724059:=0
def tw14676711985885260771:=0
def tw14480814354701023455:=0
def tw5918869807183809012:=0
def tw3363733086453054480:=0
def tw5272046504027389602:=0
def tw15687826105880107445:=0
def tw14652414863565986217:=0
def tw18442114336085953646:=0
def tw8171257089514544148:=0
def tw11020608264886984339:=0
def tw7350619072327844953:=0
def tw7328191180176218459:=0
def tw5677737768618362827:=0
def tw5004606037729296032:=0
def tw1842744149149652928:=0
def tw15085337101667366660:=0
def tw12710122448287786279:=0
def tw9233510924954083703:=0
def tw3905554039447625851:=0
def tw267994103032274847:=0
def tw10081409025492669756:=0
def tw17452271973013527607:=0
def tw7995077361375433161:=0
def tw10209678377906519708:=0
def tw5126057676207490240:=0
def tw13807629789579840135:=0
def tw12654874287094263893:=0
def tw444609463946206425:=0
def tw17183186801348958399:=0
def tw7632799862777281282:=0
def tw6884908496296384500:=0
def tw4115336362700537729:=0
def tw3292356043565089356:=0
def tw2464554653091033738:=0
def tw2085537869992932037:=0
def tw17909266217472708943:=0
def tw17546326909672694466:=0
def tw16382570081783309887:=0
def tw16336836186097323709:=0
def tw12406158403471297255:=0
def tw11344513102470092607:=0
def tw10870145562013835227:=0
def tw13948877800261594149:=0
def tw9257902451549626459:=0
def tw2028919114317093143:=0
def tw9085205522382020353:=0
def tw5920297034552410678:=0
def tw5540701050877867193:=0
def tw14253095609568893705:=0
def tw13677993306484453538:=0
def tw12786248566658562914:=0
def tw16853158848937317461:=0
def tw7377406333359555317:=0
def tw10272033992234893281:=0
def tw12150672236171783815:=0
def tw3416796024192057431:=0
def tw1067679090715434364:=0
def tw9578657473143867469:=0
def tw1657999852829923895:=0
def tw18187377377659291489:=0
def tw9874824340507264406:=0
def tw868944436988518330:=0
def tw8370260618172751979:=0
def tw7145337085058361440:=0
def tw3217325786145458080:=0
def tw14619333360616740719:=0
def tw13945202002638352454:=0
def tw11168068009541738375:=0
def tw16270374530227012057:=0
def tw3123574769677847176:=0
def tw28882228763387051:=0
def tw13642230224596308065:=0
def tw10905384657941772819:=0
def tw14936277917349544075:=0
def tw14895113271634721049:=0
def tw13133806840471768489:=0
def tw9737094555716324161:=0
def tw4910892192511132855:=0
def tw4532555501870072495:=0
def tw4513170679735598317:=0
def tw4105605937631328089:=0
def tw3873046166593577458:=0
def tw377202081623111619:=0
def tw2301220239312664145:=0
def tw1851465057607010265:=0
def tw15192114071540451587:=0
def tw13691609921234471713:=0
def tw12114415264940600395:=0
def tw10985915085018066286:=0
def tw8299383018251961145:=0
def tw98090380568154500:=0
def tw7679240310715141462:=0
def tw646758189761824716:=0
def tw6218433250975231207:=0
def tw3640638809604156703:=0
def tw3118071313883981131:=0
def tw2439783634846395019:=0
def tw18392054026738441943:=0
def tw17264167785772125111:=0
def tw15890638675408464797:=0
def tw13249464571700190004:=0
def tw11699646309907548098:=0
def tw1162192431484092097:=0
def tw11567377603667580175:=0
def tw9250543051464469100:=0
def tw8976864605266214476:=0
def tw8612228664111988778:=0
def tw847245530812407689:=0
def tw7546621496929323189:=0
def tw6006485133141835080:=0
def tw5512441084703656458:=0
def tw2263184964824570500:=0
def tw14383061723410378983:=0
def tw11907891890705995979:=0
def tw11720396468682594426:=0
def tw9093141716693407091:=0
def tw8737747370053609315:=0
def tw6582660325734061653:=0
def tw322077411700256866:=0
def tw18122222885481608262:=0
def tw17033665012451622817:=0
def tw15540148772290841893:=0
def tw14291902878147111611:=0
def tw13623543725917105298:=0
def tw13548439264282086225:=0
def tw127984125754757818:=0
def tw11175968772820810509:=0
def tw10222813007668619730:=0
def tw999154113075719601:=0
def tw9849989634396392237:=0
def tw9690956783712441597:=0
def tw968519585380912366:=0
def tw959481507343764544:=0
def tw9466477010999133456:=0
def tw9432338238024055998:=0
def tw9334402766148015926:=0
def tw9277219189732546390:=0
def tw9098322612854784369:=0
def tw9059821391907411191:=0
def tw8969388611105211320:=0
def tw8933365113143836431:=0
def tw8812558548290416443:=0
def tw8751842335173798962:=0
def tw8625705471047345996:=0
def tw86016145430509380:=0
def tw8588181226100435225:=0
def tw8537389191556127479:=0
def tw8489402202187092125:=0
def tw8471460278774773653:=0
def tw8459992306910378889:=0
def tw8281791874716412370:=0
def tw8268084421428263362:=0
def tw8208308656147885545:=0
def tw8154376232108523879:=0
def tw8110445488278880877:=0
def tw7811216912489184887:=0
def tw7655274084332975857:=0
def tw7646295021485011969:=0
def tw7548691321348666430:=0
def tw7329544894744523125:=0
def tw7208378939151837299:=0
def tw7130317310957783243:=0
def tw7106200990740883759:=0
def tw7099262537497780306:=0
def tw7049517209074274008:=0
def tw7003742637704377325:=0
def tw6732104673426144866:=0
def tw6680859187673950614:=0
def tw6489891863616862004:=0
def tw6402737196570554471:=0
def tw6396480588234303057:=0
def tw619584062652157500:=0
def tw6162480352063605544:=0
def tw6121917505502086008:=0
def tw5966924868466898756:=0
def tw5950583660276070302:=0
def tw5934904970058912149:=0
def tw5907682665598188759:=0
def tw590436746620487480:=0
def tw5900993848926495067:=0
def tw5825873157870816214:=0
def tw5821005539055957852:=0
def tw5817015441877606077:=0
def tw577762714170498320:=0
def tw5732207985376865015:=0
def tw569020919553112631:=0
def tw5634677761716761058:=0
def tw5462011781401601868:=0
def tw5287392748566067677:=0
def tw5242635772807782324:=0
def tw5135925918224770333:=0
def tw5057167060516761051:=0
def tw4934568066747186484:=0
def tw4899865209023604153:=0
def tw4789115853597415078:=0
def tw4785123735766521329:=0
def tw4462983038571486164:=0
def tw4443022269562425698:=0
def tw4369379603409654262:=0
def tw4350763665239446266:=0
def tw4303600854819740193:=0
def tw4026086251666198210:=0
def tw3978602860763946765:=0
def tw3899614004121888032:=0
def tw3867700177690223452:=0
def tw3860381303130995464:=0
def tw3771122481557315586:=0
def tw3672609919827093538:=0
def tw3576195333559450372:=0
def tw3412233277591179846:=0
def tw3348899319490567319:=0
def tw3008205156501557575:=0
def tw2959797169440107743:=0
def tw2955967337046492807:=0
def tw2872629076412420820:=0
def tw2822479006651274368:=0
def tw2788959654279910359:=0
def tw2788036247102057604:=0
def tw2782576601614045029:=0
def tw2719125172300868596:=0
def tw2709692474737954230:=0
def tw2691559218137141056:=0
def tw2667563142045094116:=0
def tw2547051978144231868:=0
def tw2526013776999640211:=0
def tw2420305658017497681:=0
def tw23952602556381142:=0
def tw2230830691732698708:=0
def tw2187951701474598675:=0
def tw2059653027623386141:=0
def tw2038920718692983025:=0
def tw1922080164349632234:=0
def tw191730354960197285:=0
def tw18444466179037658679:=0
def tw18133364772884917138:=0
def tw17788891979788055173:=0
def tw17691034717100235020:=0
def tw17666641682116384065:=0
def tw17657180409888702304:=0
def tw17406325737865120068:=0
def tw17336655630151905497:=0
def tw17312011926538262812:=0
def tw17267007548929746072:=0
def tw17030209354071004730:=0
def tw17016439884836031728:=0
def tw16810865104949997421:=0
def tw16713466049858630392:=0
def tw16584383526757131429:=0
def tw16403124449864831940:=0
def tw16376052337277475285:=0
def tw16323988808950237574:=0
def tw16292546894102805882:=0
def tw16146129315418658318:=0
def tw15951875555022997883:=0
def tw1579820271345591242:=0
def tw15574017516090068736:=0
def tw15469952108867726940:=0
def tw15446763226051386129:=0
def tw15326270880177313706:=0
def tw15322459770617051899:=0
def tw15147838847887649784:=0
def tw15142097504872283125:=0
def tw14969977715899558466:=0
def tw14906559635310152419:=0
def tw14852432730301295060:=0
def tw14835277613363685042:=0
def tw1479297451612898948:=0
def tw14771535418629931095:=0
def tw14650286959286205574:=0
def tw1457367336504664694:=0
def tw14564672646217976513:=0
def tw14533718722594615803:=0
def tw14518306727976448995:=0
def tw1442739498263667870:=0
def tw14340830264596962089:=0
def tw14279270403454444693:=0
def tw1414197395421109212:=0
def tw13894213263801474908:=0
def tw13505090099217341852:=0
def tw13409914389032711823:=0
def tw13059747974956174846:=0
def tw12877251050460627910:=0
def tw12728880256455614186:=0
def tw12363792049667066431:=0
def tw12350907640872000971:=0
def tw12243633013416569624:=0
def tw1214564211319207273:=0
def tw12047475611287988208:=0
def tw11922291982185015565:=0
def tw11863074179869264996:=0
def tw11797311229195620458:=0
def tw1173881299864508508:=0
def tw11727116436402538533:=0
def tw11720507425560506786:=0
def tw11662109789744909068:=0
def tw11647174604956331744:=0
def tw11379004191825259059:=0
def tw11218796640218678696:=0
def tw11208285464894009029:=0
def tw11186706188277668545:=0
def tw11061005309612451820:=0
def tw11043852173474811955:=0
def tw11035816430358218562:=0
def tw11024642292089784917:=0
def tw109183588226471649:=0
def tw10852318447313390887:=0
def tw10729117369933808819:=0
def tw1072073048141466934:=0
def tw10537389978068020166:=0
def tw10363594999408044808:=0
def tw10173897625191707308:=0
def tw10153421179153359735:=0
def tw10009540985234628297:=0
end PySem.W.Fast
open PySem PySem.W PyProof.Rows
local macro_rules | `(tactic| walk_at "f")=>`(tactic| (refine' L2.DfT.of ?a ?l ?c ?k;(case a=>k_is);(case l=>k_is);(case c=>k_is);(case k=>k_is)))
set_option maxRecDepth 100000 in
theorem PySem.Challenge.cw_goneday_k56_papers_of_making_and_holds_holds : PySem.Challenge.rw_goneday_k56_papers_of_making_and_holds.Holds := by
 w_on;o_law;k_head;(case hw=>w_witness2)
 k_fill
 refine' L2.walk_ofTL (l:=PySem.Challenge.rw_goneday_k56_papers_of_making_and_holds) (n:=63) (k:=16) (x:="_law_script") (qn:=K56.lamQ) (nm:="_law_no_paper") (c:=?cc) (PT:=?pp) (sp:=K56.sp_law) rfl VC rfl ⟨rfl,VC,VC⟩ (λw h Y=>PySem.W.km_in_of Y) rfl ?F ?S
 case F=>
  intro w mg fa h KX G hmg;have hnt:PySem.W.noTabs (L2.KOf KX)=true:=by
   dsimp only [L2.KOf]
   kernel_rfl
  have hti:PySem.W.tabIn (L2.KOf KX) "_law_no_paper"=some (?cc,?pp):=by
   dsimp only [L2.KOf];refine' L2.tabIn_of ?a ?b ?c ?d ?e
   (case a | b=>k_is)
   (case c=>rfl)
   (case d=>k_is)
   (case e=>rfl)
  have T:∃t,K56.Txt (L2.KOf KX) mg t:=by
   dsimp only [L2.KOf];refine' K56.txt_mk KX G ?za ?zb ?zc ?zd ?ze ?zf ?zg ?zh ?zi ?zj ?zk ?zl ?zm ?zn ?zo ?zp ?zq ?zr ?zs ?zt ?zu ?zv ?zw ?zx ?zy ?zz ?zA ?zB ?zC ?zD ?zE ?zF ?zG ?zH ?zI ?zJ ?zK ?zL ?zM ?zN ?zO ?zP ?zQ ?zR ?zS ?zT ?zU ?zV ?zW ?zX ?zY ?zZ ?ya ?yb ?yc ?yd ?ye ?yf ?yg ?yh ?yi ?yj ?yk ?yl ?ym ?yn ?yo ?yp ?yq ?yr ?ys ?yt ?yu ?yv ?yw ?yx ?yy ?yz ?yA ?yB ?yC ?yD ?yE ?yF ?yG ?yH ?yI ?yJ ?yK ?yL ?yM ?yN ?yO ?yP ?yQ ?yR ?yS ?yT ?yU ?yV ?yW ?yX ?yY ?yZ ?xa ?xb ?xc ?xd ?xe ?xf ?xg
   (case za | zb | zc | zd | ze | zf | zg | zh | zi | zj | zk | zl | zm | zn | zo | zp | zq | zr | zs | zt | zu | zv | zw | zx | zy | zz | zA | zB | zC | zD | zE | zF | zG | zH | zI | zJ | zK | zL | zM | zN | zO | zP | zQ | zR | zS | zT | zU | zV | zW | zX | zY | zZ | ya | yb=>walk_at "f")
   (case yc=>k_is)
   (case yd=>exact⟨_,rfl⟩)
   (case ye | yf=>k_is)
   (case yg=>exact⟨_,rfl⟩)
   (case yh=>k_is)
   (case yi=>exact⟨_,rfl⟩)
   (case yj=>k_is)
   (case yk=>exact⟨_,rfl⟩)
   (case yl | ym=>k_is)
   (case yn=>first | (repeat (first | exact .nil | refine .cons ⟨_,rfl⟩ ?_)))
   (case yo=>decide)
   (case yp=>k_is)
   (case yq=>exact⟨_,rfl⟩)
   (case yr | ys | yt | yu | yv | yw | yx | yy | yz | yA | yB=>k_is)
   (case yC | yD | yE | yF | yG | yH | yI | yJ | yK | yL | yM | yN | yO=>first | k_is | k_exc | kit_is)
   (case yP | yQ | yR | yS | yT | yU | yV | yW | yX | yY | yZ | xa | xb | xc | xd | xe | xf | xg=>k_is)
  obtain⟨t,T⟩:=T;have e0:=hmg.symm.trans T.F_AB.m;cases e0;have hF:∃oc od osl,(L2.KOf KX).lookup t.a_AB=some ⟨oc,od,.func t.d_AB,osl⟩:=by
   obtain⟨oc,od,kV,doc,pm,an,cdv,ct,osl,e,lk,_⟩:=T.F_AB.F.ex;exact⟨oc,od,osl,lk⟩
  have hF2:∃oc od osl,(L2.KOf KX).lookup t.a_AA=some ⟨oc,od,.func t.d_AA,osl⟩:=by
   obtain⟨oc,od,kV,doc,pm,an,cdv,ct,osl,e,lk,_⟩:=T.F_AA.F.ex;exact⟨oc,od,osl,lk⟩
  exact⟨t.d_AB,t.a_AA,t.d_AA,hnt,hti,T.bt_AB,hF,T.F_AA.m,hF2,λbase kb nb LF hco=>K56.ok_law T LF hco⟩
 case S=>exact λK H a ns hl hb hP hS=>K56.start_law hl hb hP hS
