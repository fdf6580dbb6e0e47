import PyProof.Rows.All
import Wide.All
import OpenK.AllK
import PySem.Challenge.RW_goneday_k17_calls_and_leaves
open PySem.Str renaming ofString->NL,ofString->NN
open PySem.W renaming Frag->NM,nsIn->Om,mg_none_of->OE,mg_of->OZ,findIn->Pa,keepIn->Pu,emptyDict->PH,fnOf->PQ,excIn->P5,instObj->Qc,mroIn->Qw,callWith_K->QI,codeIn->Ro,kitOne->Rq,cellsFrom_some->Rz,kitAny->RU,methodObj->R9,hasDictIn->Sa,plainGet->Sq,takerIn->SM,makesIn->SN,lookIn->S4,isFn->Tx,plainOver->T1,specialIn->T6,handedIn->Ua,takesIn->Ur,isClsIn->Us
open List renaming length_map->NO,map_cons->NS,mem_map->N6,getElem?_eq_some_iff->N7,size_toArray->N8,mem_cons->N9,replicate->Oa,getElem?_map->Ob,getElem?_set_ne->Oc,map->Od,map_map->Oe,length_cons->Og,mem_filter->Oh,append_nil->Oi,mem_append->Oo,mem_of_getElem?->Oq,getElem?_set_self->Ov,getElem?_eq_getElem->Oz,mem_singleton->OA,mem_cons_of_mem->OB,lookup_cons->OC,take_of_length_le->OD,mem_append_right->OH,map_append->OJ,length_filter_le->OM,length_take->OQ,length_append->OR,map_nil->OS,pairwise_cons->OT,range->OU,pairwise_map->OX,mem_cons_self->OY,nil_append->O4,filter_cons->O5,take_succ->Pb,not_mem_nil->Pc,length_nil->Pf,filterMap_cons->Pr,getElem?_cons_succ->Px,getElem_mem->Py,cons_append->Pz,any_cons->PB,filter_sublist->PK,nodup_cons->PL,find?_cons->PN,all_eq_true->PR,getElem?_cons_zero->PY,replicate_succ->P1,getElem?_append_right->P4,getD_eq_getElem?_getD->P6,mem_filterMap->P7,length_replicate->P8,getElem?_append_left->P9,pairwise_iff_getElem->Qa,any_eq_true->Ql,set_cons_zero->Qo,set_cons_succ->Qp,foldl_cons->Qs,flatten_cons->Qx,getElem?_nil->Qy,mem_of_mem_take->QA,mem_range->QC,getElem?_replicate->QH,lookup->QM,take_sublist->QN,mem_append_left->QS,foldl->QT,ext_getElem->QU,Nodup->QV,getElem?_of_mem->QW,map_congr_left->Q3,flatMap_append->Q4,mem_of_find?_eq_some->Q7,length_range->Rv,reverse_cons->Rx,map_take->RC,getElem_inj->RF,length_drop->RG,length_singleton->RJ,getElem?_eq_none->RK,range_succ->RQ,getElem_of_mem->RR,take_zero->RV,filterMap_map->RY,all_cons->R6,perm_ext_iff_of_nodup->R8,append_assoc->Se,drop_eq_getElem_cons->Sm,all_nil->SD,any_nil->SE,pairwise_singleton->SJ,of_mem_zip->SO,drop_of_length_le->SW,filterMap_append->S6,eq_nil_or_concat->S7,concat_eq_append->S8,contains_iff_mem->Tb,mem_of_mem_head?->Tc,getLast?_concat->Tj,mem_of_mem_drop->Tn,length_reverse->Tp,length_pos_iff->Tr,getElem?_drop->TF,contains_cons->TK,find?_eq_none->TM,toArray->TQ,filter_filter->TU,getElem_range->TY,mem_replicate->TZ,getElem?_inj->T2,nodup_append->T3,getElem?_set->T5,length->T7,not_lt->T8,filter->T9,le_antisymm->Ud,map_snd_zip->Uh,mem_flatMap->Ui,length_set->Uk,forIn_cons->Ul,find?_some->Uq,forIn_nil->Uu,tail_cons->Uw,lt_trans->Uz,sum_cons->UB,map_drop->UC,Pairwise->UE,set_set->UK
open PySem.PyData renaming str->NP,int->NQ,strOk->N0,tuple->N3,eqv->N4,list->Ow,canLay0->Ox,canLayAll0->Pk,eqvAll->PD,bool->PF,none->P2,depth->Qf,depthAll->Q6,dict->S0
open PySem.Heap renaming get?_push_of_some->NT,lt_size->N5,get?_push_size->Ou,SameBut->Rb,size_push->Rn,get?_update_other->SU,get?_update_ne->Tq,FlyingW->TJ,MadeExcOf->Uv
open PySem renaming Spec->NU,Scope->Oy,boot_len->O6,mem_of_lookup->Ph,Within->Tt,Fin->TR,call->UX
open Nat renaming le_refl->NV,ne_of_lt->Oj,lt_of_lt_of_le->Ol,le_trans->Ot,zero_le->Pe,lt_irrefl->Pn,reduceAdd->Qi,reduceSub->Qj,le_of_lt->Qm,lt_or_ge->QP,add_zero->Rh,zero_add->Ri,sub_self->Rj,reduceLT->Rk,reduceLeDiff->RI,ne_of_gt->RN,le_succ->RW,le_of_succ_le->Sf,lt_succ_of_lt->Sg,lt_succ_self->Sr,le_of_not_lt->Su,lt_trans->Sw,le_of_eq->Tu,add_comm->TC,eq_zero_or_pos->TN,min_le_right->Ub
open Bool renaming false_ne_true->NW,and_eq_true->OV,false_eq_true->Pq,not_eq_true'->PZ,true_and->Qh,true_eq_false->Qq,eq_iff_iff->Qr,or_eq_true->QL,or_false->QY,false_or->Q0,not_false->Rt,not_true->RD,false_and->RT,and_true->R7,and_comm->UD,or_true->UJ
open PySem.NameKind renaming free->NY,globalImplicit->OI,free->Po,cell->RB
open PySem.ScopeKind renaming function->NZ
open PySem.Value renaming ref->Of,bool->Qb,str->Qg,none->Qz,int->QB,builtin->QZ,type->Uj,isStrOf->Uy,isInt->UO,bytes->UP,float->UQ
open Array renaming length_toList->OF,getD_eq_getD_getElem?->Pj,toList_append->QG,getD->Rr,append_assoc->RX,perm_iff_toList_perm->R4,toList_inj->Sx,size_eq_zero_iff->SY,mem_toList_iff->Td,toList_map->Ue,toList_zip->Ug,toList->UG
open Option.some renaming inj->OG,injEq->P0
open List.cons renaming injEq->ON,inj->RE
open PySem.PassesOwn renaming never->OO
open PySem.SeqAt renaming shaped->OP,canLay_of_shaped->O9
open Sum renaming inr->OW,inl->So
open PySem.Obj renaming mapSeq->O3
open False renaming elim->O7
open True renaming intro->O8
open PySem.Builtin.Slice renaming slicePlaces->Pd,sliceAdjust->PM,sliceApplied->Qu,sliceFields->Sj
open PySem.Builtin.Tuple renaming tupleExact->Pg,tupleItemsOf->QX
open PyProof.Rows renaming slot_tuple_getitem->Pl,boot_sorted->Pw,boot_max->Qt,boot_min->QQ,callWith_type1->QR,entry_tuple_getitem->RH,args_tuple_getitem->RM,bubble->RS,boot_sum->S5
open Int renaming eq_ofNat_of_zero_le->Pm,reduceNeg->Q1,reducePow->Q2,reduceLT->Rl,reduceLE->Rm,fdiv_eq_ediv_of_nonneg->R1,fmod_eq_emod_of_nonneg->R3,toNat_natCast->Sd,le_antisymm->SQ,emod_lt_of_pos->TX,lt_trichotomy->T4,emod_nonneg->Ut,ediv_one->UH,zero_add->UN,mul_one->US,le_refl->UW
open PySem.Builtin.Int renaming intBits->PJ
open PySem.PyData.str renaming injEq->PV
open PySem.PyData.tuple renaming injEq->PX
open Option renaming isSome_iff_exists->Qe,join_some->QE,join_none->QF,map_some->Q9,map_none->Ra,isSome_map->Si,getD_none->Ss,isSome_some->TH
open PySem.Heap.SameBut renaming update->Qk
open PySem.Builtin.List renaming listFitsIndex->Qv,listTooLong->Rg,listUpdate->SH
open PySem.PyData.int renaming injEq->QD
open PySem.W.WData renaming int->QJ,weightAll->Q5,list->Sk,layableAll->Uc,weight->UI
open ForInStep renaming yield->QK
open PySem.PyData.list renaming injEq->QO
open PySem.W.KasT renaming kasWp_bind->Q8
open PySem.Calls renaming spliced_cons->Rc,evalArgs_plain->RO,Name_function_global->R0,spliced_nil->Sb,call_function_entry->Sn,callWith_builtin->SV
open PySem.F renaming args_tuple_add_2->Rf,entry_tuple_add->Ru,slot_tuple_add->RA,slot_dict_get->RL,slot_list_insert->Sy,plainAttrs_list->SF,args_dict_get_2->SG,entry_dict_get->SX
open PySem.PyData.bool renaming injEq->Ry
open Or renaming inr->RP,inl->Sv
open PySem.Paired renaming length->RZ,snoc->UU
open Nat.succ renaming inj->Sz
open PySem.Builtin.Dict renaming updateFrom->SI
open PyProof.Rows.IsTup renaming new->SK
open Sum.inr renaming inj->SR
open PyProof renaming noPylong_small->SS
open PySem.Expr renaming Subscript->S9,Call->TV,List->Ux,BinOp->UY
open List.Pairwise renaming sublist->Ta,imp_of_mem->UM
open PySem.Around renaming frames_deeper->Te,under_plainId->Th,under->Tv
open PySem.SeqAt.RcAt renaming tuple_str->Tf,str_tuple->Ti,str_str->TL
open PySem.SeqAt.EqAt renaming str_tuple->Tg,str_int->Ts
open Function renaming comp->To
open PySem.Code renaming isFrame->Tw,frames->UT
open PySem.Heap.IsSliceOf renaming new->Tz
open PySem.Walks renaming list->Um
open PySem.Heap.DictOf renaming new->Uo
open Prod.mk renaming injEq->UA
open Prod renaming snd->UL
open PySem.CmpOp renaming NotIn->UR
open PySem.Flow renaming next->UZ
open PySem renaming PyData->U7,Value->U8,Addr->U9,Shared->Va,wpAny_bind->Vb,starEach->Vc,Expr->Vd,sizeLine->Ve,wpAny->Vf,model->Vg,FuncData->Vh,wpAny_pure->Vi,Program->Vj,mainGlobals->Vk,Heap->Vl,World->Vm,Stmt->Vn,Around->Vo,foldedSetIterable->Vp,bootBuiltins->Vq,backTo->Vr,compareOp->Vs,wpAny_mono->Vu,Scope->Vv,swapsWith->Vw,cLine->Vx,behindInMarks->Vy,wpAny_holding->Vz,wpAny_truthy_bool->VA,wpAny_newObj_type->VB,cellsFrom->VC,wpAny_Call_Name_kw->VD,sizeLine_eq->VE,NameKind->VF,wpAny_loadPart'->VG,sysModules->VH,binaryOp->VI,attributeBase->VJ,wpAny_passesOwn->VL,getItem->VN,Keyword->VO,wpAny_execs_nil->VP,PassesOwn->VQ,call_meets->VR,tupleKind_room_in1->VS,codeAny->VT,codeAny_mono->VU,wpAny_call_entry->VW,sliceBounds->VY,wpAny_typeOf->V0,builtinsNs->V1,assignEach->V3,typeIs_str->V4,wpAny_callSpecial?_slot->V5,wpAny_field->V6,subscripted->V7,keywordEach->V8,swapsWithSole->Wa,swappedStores->Wb,wpAny_newList->Wc,holding->We,Arguments->Wf,DictEntry->Wh,wpAny_Name->Wi,letOwnedTupleGo->Wj,bindArgs->Wk,tupleKind->Wm,wpAny_standAt->Wo,wpAny_pyIter_list->Wr,wpAny_sequenceKey->Ws,wpAny_execs_cons->Wt,noFill_tuple_add->Wu,wpAny_comprehension_free->Wv,GenState->Ww
open PyProof.Rows renaming seqObj->Vt,envOfC->VM,listUpdate_at->VX,get?_update_seq->VZ,AllBare->V2,slicePart_none->Wl,assignInOrder_cons->Wn,subscriptTail->Wq
open PySem.W renaming hideAll_get->V9,kia_one->Wg
theorem U0{p:Prop}[Decidable p](h:decide p=true:=by decide+kernel):p:=of_decide_eq_true h
theorem U1{p:Prop}(h:p:=by decide):p:=h
theorem U2{p:Prop}(h:p:=by omega):p:=h
theorem U6{p:Prop}(h:p:=by simp):p:=h
theorem U3{c:Prop}{h:Decidable c}(k:¬c){α:Sort u}{t e:α}:ite c t e=e:=if_neg k
theorem U4{c:Prop}{h:Decidable c}(k:c){α:Sort u}{t e:α}:ite c t e=t:=if_pos k
abbrev Wx:=PySem.NameKind.local
set_option compiler.extract_closed false
def rzS:="↓rZ ↓sd ↓se ↓sg ↓sj ↓rB ↓rC ↓sN ↓sO ↓sP ↓sQ ↓sR ↓sS ↓rD ↓rE ↓rF ↓rG ↓rH ↓rJ ↓rK ↓rL ↓rM ↓rN ↓rO ↓rP ↓rQ ↓rR ↓rS ↓rT ↓rV ↓rW fx mK g6 mL je mO mP mT jM mD dC dP dI ng kT nh nj iF nI nH nr nk dL kI kC ja gF fw gY mE mF mG mH mI mJ gZ rA nu nJ la kW kX ny nA nB nE nF k6 nK nL iD mU mV mW mX mY lq n9 oh oi nW nY lr n4 nZ nV oj oo om oq ot ox jk oy oz oA oB oC oI oJ jV oP oQ oM oN oO oR oT oU oX oY oZ pf pI pG lJ pJ"
def rzT (n : String) : Lean.MacroM (Lean.TSyntax `tactic) := do
 let ts : Array (Lean.TSyntax `Lean.Parser.Tactic.simpLemma) <- ((n.splitOn " ").toArray).mapM λs =>do
  if s.startsWith "↓" then
   let i := Lean.mkIdent (s.drop 1).toString.toName
   `(Lean.Parser.Tactic.simpLemma| ↓ $i:ident)
  else
   let i := Lean.mkIdent s.toName
   `(Lean.Parser.Tactic.simpLemma| $i:ident)
 `(tactic| simp only [$ts,*])
local macro_rules|`(command|def $i:declId $s:optDeclSig $v:declVal)=>`(command|noncomputable def $i:declId $s:optDeclSig $v:declVal)|`(command|abbrev $i:declId $s:optDeclSig $v:declVal)=>`(command|noncomputable abbrev $i:declId $s:optDeclSig $v:declVal)
noncomputable section
set_option Elab.async false
set_option linter.all false
set_option maxRecDepth 100000
set_option maxHeartbeats 0
set_option genSizeOf false
namespace L2
open PySem PySem.Spec PyProof.Rows
abbrev ai:=Sum Int Str
def j6:ai->U8->Bool
 | .inl k,v=>UO k v
 | .inr x,v=>Uy x v
def FH(w:Vm):ai->Int
 | .inl k=>hashInt k
 | .inr x=>hashStr w x
theorem gb:∀{k:ai}{v:U8},j6 k v=true->(∃i t,k=So i/\v=QB i t)\/(∃x t,k=OW x/\v=Qg x t)
 | .inl i,v,h=>by
  obtain⟨t,e⟩:=Value.isInt_shape (k:=i) (v:=v) h;exact .inl ⟨i,t,rfl,e⟩
 | .inr x,v,h=>by
  obtain⟨t,e⟩:=Value.isStrOf_shape (x:=x) (v:=v) h;exact .inr ⟨x,t,rfl,e⟩
theorem FI(i:Int)(t:Tok):j6 (.inl i) (.int i t)=true:=by simp [j6,UO]
theorem FJ(x:Str)(t:Tok):j6 (.inr x) (.str x t)=true:=by simp [j6,Uy]
theorem FK(a b:Int):decide ((So a:ai)=So b)=(a==b):=by
 by_cases e:a=b
 ·subst e;simp
 ·have h:¬(So a:ai)=So b:=λq=>e (So.inj q);rw [decide_eq_false h];exact(beq_eq_false_iff_ne.mpr e).symm
theorem FL(a b:Str):decide ((OW a:ai)=OW b)=decide (a=b):=by
 by_cases e:a=b
 ·subst e;simp
 ·have h:¬(OW a:ai)=OW b:=λq=>e (SR q);rw [decide_eq_false h,decide_eq_false e]
theorem FN(a:Int)(b:Str):decide ((So a:ai)=OW b)=false:=decide_eq_false (λq=>nomatch q)
theorem FO(a:Str)(b:Int):decide ((OW a:ai)=So b)=false:=decide_eq_false (λq=>nomatch q)
def ck(prog:Vj)(w:Vm):PySem.KeyKind prog w ai where
 is:=j6
 hash:=FH w
 inj:=λv a b ha hb=>by
  rcases gb ha with⟨i,t,rfl,rfl⟩ | ⟨x,t,rfl,rfl⟩
  ·rcases gb hb with⟨j,u,rfl,e⟩ | ⟨y,u,rfl,e⟩
   ·injection e with e1 _;rw [e1]
   ·exact nomatch e
  ·rcases gb hb with⟨j,u,rfl,e⟩ | ⟨y,u,rfl,e⟩
   ·exact nomatch e
   ·injection e with e1 _;rw [e1]
 byValue:=λk v h=>by
  rcases gb h with⟨i,t,rfl,rfl⟩ | ⟨x,t,rfl,rfl⟩ <;> rfl
 pyHash:=λhv h=>by
  rcases gb hv with⟨i,t,rfl,rfl⟩ | ⟨x,t,rfl,rfl⟩
  ·exact wpAny_pyHash_int h
  ·exact wpAny_pyHash_str h
 eqBool:=λhu hv h=>by
  rcases gb hu with⟨i,t,rfl,rfl⟩ | ⟨x,t,rfl,rfl⟩
  ·rcases gb hv with⟨j,u,rfl,rfl⟩ | ⟨y,u,rfl,rfl⟩
   ·rw [FK] at h;exact wpAny_eqBool_int h
   ·rw [FN] at h;exact SeqAt.EqAt.int_str i t y u _ _ _ _ h
  ·rcases gb hv with⟨j,u,rfl,rfl⟩ | ⟨y,u,rfl,rfl⟩
   ·rw [FO] at h;exact Ts x t j u _ _ _ _ h
   ·rw [FL] at h;exact wpAny_eqBool_str h
 «strs»:=λk x t v h=>by
  rcases gb h with⟨i,u,rfl,e⟩ | ⟨y,u,rfl,e⟩
  ·exact nomatch e
  ·injection e with e1 _
   subst e1;cases v <;> rfl
theorem FP(prog:Vj)(w:Vm)(i:Int)(t:Tok):(ck prog w).is (.inl i) (.int i t)=true:=FI i t
theorem FQ(prog:Vj)(w:Vm)(x:Str)(t:Tok):(ck prog w).is (.inr x) (.str x t)=true:=FJ x t
inductive V where
 | non | bl (b:Bool) | int (i:Int) | str (x:Str) | byt (b:Array UInt8) | flt (b:UInt64) | ref (a:U9) | ty (n:String)
 deriving DecidableEq
def aF:V->U8->Prop
 | .non,u=>u=Qz
 | .bl b,u=>u=Qb b
 | .int i,u=>∃t,u=QB i t
 | .str x,u=>∃t,u=Qg x t
 | .byt b,u=>∃t,u=UP b t
 | .flt b,u=>∃t,u=UQ b t
 | .ref a,u=>u=Of a
 | .ty n,u=>u=Uj n
abbrev aE:List V->List U8->Prop:=Paired aF
theorem aE.length{xs:List V}{us:List U8}(r:aE xs us):xs.length=us.length:=RZ r
theorem aE.get:∀{xs:List V}{us:List U8}{i:Nat}{x:V},aE xs us->xs[i]?=some x->∃u,us[i]?=some u/\aF x u
 | _,_,_,_,.nil,e=>by simp at e
 | _,_,0,_,.cons r _,e=>by simp at e;subst e;exact⟨_,rfl,r⟩
 | _,_,i+1,x,.cons _ t,e=>by
  obtain⟨u,h1,h2⟩:=aE.get (i:=i) (x:=x) t (by simpa using e);exact⟨u,by simpa using h1,h2⟩
theorem aE.set{x:V}{u:U8}(r:aF x u):∀{xs:List V}{us:List U8}(i:Nat),aE xs us->aE (xs.set i x) (us.set i u)
 | _,_,_,.nil=>.nil
 | _,_,0,.cons _ t=>.cons r t
 | _,_,i+1,.cons q t=>.cons q (aE.set r i t)
theorem aE.append:∀{xs ys:List V}{us ws:List U8},aE xs us->aE ys ws->aE (xs++ys) (us++ws)
 | _,_,_,_,.nil,s=>s
 | _,_,_,_,.cons r t,s=>.cons r (aE.append t s)
theorem aE.take:∀{xs:List V}{us:List U8}(n:Nat),aE xs us->aE (xs.take n) (us.take n)
 | _,_,0,_=>.nil
 | _,_,_+1,.nil=>.nil
 | _,_,n+1,.cons r t=>.cons r (aE.take n t)
theorem aE.drop:∀{xs:List V}{us:List U8}(n:Nat),aE xs us->aE (xs.drop n) (us.drop n)
 | _,_,0,r=>r
 | _,_,_+1,.nil=>.nil
 | _,_,n+1,.cons _ t=>aE.drop n t
def fc:Option V->Option U8->Prop
 | some v,some u=>aF v u
 | none,none=>True
 | _,_=>False
def KV{κ:Type}:List (κ×V)->List (κ×U8)->Prop:=Paired λ(p:κ×V) (q:κ×U8)=>p.1=q.1/\aF p.2 q.2
def kV:ai->V
 | .inl i=>.int i
 | .inr x=>.str x
inductive HO where
 | lst (xs:List V)
 | tup (xs:List V)
 | dK (kvs:List (ai×V)) | dT (kvs:List (List ai×V))
 | set (S:Int->Bool) (n:Nat)
 | ins (C dx:U9) (fs:List (Str×V))
 | own (x:U9)
 | xd (fs:List (Str×V))
 | met (f x:U9)
 | rng (lo hi:Int)
 | frz (o:Obj) (u:HO)
 | tbl (ps:Array U8)
 | cod (q:Str)
 | ext (φ:Vl->Prop)
abbrev Hp:=U9->Option HO
def ao(H:Hp)(a:U9)(o:HO):Hp:=λb=>if b=a then some o else H b
theorem aR{H:Hp}{a:U9}{o:HO}:ao H a o a=some o:=by unfold ao;rw [U4 rfl]
theorem aA{H:Hp}{a b:U9}{o:HO}(h:b≠a):ao H a o b=H b:=by unfold ao;rw [U3 h]
theorem FT{H:Hp}{a:U9}{o u:HO}:ao (ao H a o) a u=ao H a u:=by
 funext b;unfold ao;split <;> rfl
theorem FU{H:Hp}{a b:U9}{o u:HO}(h:H a=some o)(h':H b=some u)(d:o≠u):a≠b:=by
 intro e;subst e;rw [h] at h';exact d (OG h')
theorem cL{H:Hp}{a b:U9}{o:HO}(h:H a=some o)(h':H b=none):a≠b:=by
 intro e;subst e;rw [h] at h';cases h'
def FV(h:Vl)(a:U9)(q:Str):Prop:=∃oc vs t,h.get? a=some oc/\oc.data= .fields vs/\vs[1]?=some (.str q t)
def FW(H:Hp)(h:Vl)(a:U9)(q:Str):Prop:=∃ps:Array U8,h.get? a=some {cls:= .none,data:= .fields ps}/\PySem.TriplesOk ps.toList/\∀pos cv,PySem.codeAmong pos ps.toList=some cv->∃c,cv= .ref c/\H c=some (.cod q)
section
variable (P:Vj) (w:Vm)
def bV(H:Hp)(h:Vl)(a:U9):HO->Prop
 | .lst xs=>xs.length<=Ve/\∃(its:List U8)(n:Nat),aE xs its/\h.get? a=some {cls:= .type "list",data:= .seq its.toArray n}
 | .tup xs=>xs.length<=Ve/\∃its:List U8,aE xs its/\IsTup h a its.toArray
 | .dK kvs=>kvs.length<=Ve/\(a==VH)=false/\∃vs,KV kvs vs/\h.DictOf (ck P w) a vs
 | .dT kvs=>kvs.length<=Ve/\(a==VH)=false/\∃xs:List (List ai×U9×U8),
  Paired (λ(p:List ai×V) (q:List ai×U9×U8)=>p.1=q.1/\H q.2.1=some (.tup (p.1.map kV))/\aF p.2 q.2.2) kvs xs/\
  ∃o es ep,h.get? a=some o/\o.ExactDict/\o.data= .dict es ep/\es.toList=xs.map (entryOfKey (Wm (ck P w)))/\(xs.map (·.1)).Nodup
 | .set S n=>h.SetOf (intKind P w) a S n
 | .ins C dx fs=>H dx=some (.own a)/\fs.length<=1000/\dx≠a/\h.get? a=some (Qc C dx)/\
  ∃mA,h.Ns1 dx mA/\(∀f,fc (fs.lookup f) (mA f))/\Tt mA (fs.map (·.1))
 | .own _=>∃o,h.get? a=some o
 | .xd fs=>∃mA,h.Ns1 a mA/\∀f,fc (fs.lookup f) (mA f)
 | .rng lo hi=>∃t u v,h.get? a=some {cls:= .type "range",data:= .fields #[.int lo t,.int hi u,.int 1 v]}
 | .frz o u=>h.get? a=some o/\bV H h a u
 | .tbl ps=>∃q t,ps[0]?=some (.str q t)/\FW H h a q
 | .cod q=>FV h a q
 | .met f x=>h.get? a=some (R9 (.ref f) (.ref x))
 | .ext φ=>φ h/\(∃o,h.get? a=some o)/\∀h1 h2:Vl,φ h1->(∀o,h1.get? a=some o->h2.get? a=some o)->φ h2
def bM(H:Hp)(h:Vl):Prop:=∀a o,H a=some o->bV P w H h a o
end
section
variable {P:Vj} {w:Vm} {H H':Hp} {h h':Vl} {a:U9} {o:HO}
theorem bV.lt(x:bV P w H h a o):a < h.objs.size:=by
 cases o with
 | lst xs=>obtain⟨_,_,_,_,e⟩:=x;exact N5 e
 | tup xs=>obtain⟨_,_,_,p⟩:=x;exact p.lt
 | dK kvs=>obtain⟨_,_,_,_,o,_,_,e,_⟩:=x;exact N5 e
 | dT kvs=>obtain⟨_,_,_,_,o,_,_,e,_⟩:=x;exact N5 e
 | set S n=>obtain⟨o,_,_,_,e,_⟩:=x;exact N5 e
 | ins C dx fs=>obtain⟨_,_,_,e,_⟩:=x;exact N5 e
 | own y=>obtain⟨_,e⟩:=x;exact N5 e
 | xd fs=>obtain⟨_,⟨_,_,_,e,_⟩,_⟩:=x;exact N5 e
 | rng lo hi=>obtain⟨_,_,_,e⟩:=x;exact N5 e
 | frz ob u=>obtain⟨e,_⟩:=x;exact N5 e
 | tbl ps=>obtain⟨_,_,_,_,e,_⟩:=x;exact N5 e
 | cod q=>obtain⟨_,_,_,e,_⟩:=x;exact N5 e
 | met f y=>exact N5 (show h.get? a=some _ from x)
 | ext φ=>obtain⟨_,⟨_,e⟩,_⟩:=x;exact N5 e
theorem Paired.mapP{α β:Type}{F G:α->β->Prop}:∀{l₁:List α}{l₂:List β},Paired F l₁ l₂->(∀a b,F a b->G a b)->Paired G l₁ l₂
 | _,_,.nil,_=>.nil
 | _,_,.cons r t,f=>.cons (f _ _ r) (Paired.mapP t f)
theorem bV.stay(x:bV P w H h a o)(k:∀b u,(b=a\/H b=some (.own a))->h.get? b=some u->h'.get? b=some u)
 (ho:∀b,H b=some (.own a)->H' b=some (.own a))(ht:∀b xs,H b=some (.tup xs)->H' b=some (.tup xs))(hc:∀b q,H b=some (.cod q)->H' b=some (.cod q)):bV P w H' h' a o:=by
 induction o with
 | lst xs=>obtain⟨z,its,n,r,e⟩:=x;exact⟨z,its,n,r,k _ _ (.inl rfl) e⟩
 | tup xs=>obtain⟨z,its,r,ob,e,c⟩:=x;exact⟨z,its,r,ob,k _ _ (.inl rfl) e,c⟩
 | dK kvs=>obtain⟨z,y,vs,r,ob,es,ep,e,c⟩:=x;exact⟨z,y,vs,r,ob,es,ep,k _ _ (.inl rfl) e,c⟩
 | dT kvs=>
  obtain⟨z,y,xs,r,ob,es,ep,e,c⟩:=x;exact⟨z,y,xs,Paired.mapP r λp q z=>⟨z.1,ht _ _ z.2.1,z.2.2⟩,ob,es,ep,k _ _ (.inl rfl) e,c⟩
 | set S n=>obtain⟨ob,es,ep,t,e,c⟩:=x;exact⟨ob,es,ep,t,k _ _ (.inl rfl) e,c⟩
 | ins C dx fs=>
  obtain⟨d,z,ne,e,mA,⟨od,es,ep,e2,c⟩,r⟩:=x;exact⟨ho _ d,z,ne,k _ _ (.inl rfl) e,mA,⟨od,es,ep,k _ _ (.inr d) e2,c⟩,r⟩
 | own y=>obtain⟨ob,e⟩:=x;exact⟨ob,k _ _ (.inl rfl) e⟩
 | xd fs=>obtain⟨mA,⟨od,es,ep,e,c⟩,r⟩:=x;exact⟨mA,⟨od,es,ep,k _ _ (.inl rfl) e,c⟩,r⟩
 | rng lo hi=>obtain⟨t,u,v,e⟩:=x;exact⟨t,u,v,k _ _ (.inl rfl) e⟩
 | frz ob u ih=>obtain⟨e,q⟩:=x;exact⟨k _ _ (.inl rfl) e,ih q⟩
 | tbl ps=>
  obtain⟨q,t,z,qs,e,tr,y⟩:=x;exact⟨q,t,z,qs,k _ _ (.inl rfl) e,tr,λpos cv w=>let ⟨c,e1,e2⟩:=y pos cv w;⟨c,e1,hc _ _ e2⟩⟩
 | cod q=>obtain⟨oc,vs,t,e,r⟩:=x;exact⟨oc,vs,t,k _ _ (.inl rfl) e,r⟩
 | met f y=>
  have e:h.get? a=some (R9 (.ref f) (.ref y)):=x;show h'.get? a=some (R9 (.ref f) (.ref y));exact k a _ (.inl rfl) e
 | ext φ=>obtain⟨p,⟨o,e⟩,st⟩:=x;exact⟨st _ _ p λo q=>k _ _ (.inl rfl) q,⟨o,k _ _ (.inl rfl) e⟩,st⟩
theorem bM.lt(x:bM P w H h)(e:H a=some o):a < h.objs.size:=(x a o e).lt
theorem bM.fresh(x:bM P w H h)(e:h.objs.size<=a):H a=none:=by
 cases q:H a with
 | none=>rfl
 | some u=>exact absurd (Ol (x.lt q) e) (Pn _)
theorem bM.kept(x:bM P w H h)(k:∀b u,h.get? b=some u->h'.get? b=some u):bM P w H h':=λa o e=>
 (x a o e).stay (λb u _ q=>k b u q) (λ_ q=>q) (λ_ _ q=>q) λ_ _ q=>q
theorem bM.laid(x:bM P w H h)(k:∀b u,h.get? b=some u->h'.get? b=some u)(hp:h.objs.size<=a)(new:bV P w (ao H a o) h' a o):bM P w (ao H a o) h':=λb u e=>by
 have hn:=x.fresh hp;by_cases hb:b=a
 ·subst hb;rw [aR] at e;cases e;exact new
 ·rw [aA hb] at e;exact(x b u e).stay (λc v _ q=>k c v q) (λc q=>by rw [aA (cL q hn)];exact q) (λc xs q=>by rw [aA (cL q hn)];exact q) λc xs q=>by rw [aA (cL q hn)];exact q
end
def Rd(H:Hp)(a:U9)(u:HO):Prop:=H a=some u\/∃o,H a=some (.frz o u)
theorem Rd.ok{P:Vj}{w:Vm}{H:Hp}{h:Vl}{a:U9}{u:HO}(r:Rd H a u)(x:bM P w H h):bV P w H h a u:=by
 rcases r with r | ⟨o,r⟩
 ·exact x a u r
 ·obtain⟨_,q⟩:=x a _ r;exact q
def j7:Option HO->Prop
 | some (.lst _)=>True
 | some (.dK _)=>True
 | some (.dT _)=>True
 | some (.set _ _)=>True
 | some (.ins _ _ _)=>True
 | some (.ext _)=>True
 | _=>False
section
variable {P:Vj} {w:Vm} {H:Hp} {h h':Vl} {x e:U9} {o':HO}
theorem bM.write(ok:bM P w H h)(mu:j7 (H x))(he:e=x\/H e=some (.own x))(k:∀b u,b≠e->h.get? b=some u->h'.get? b=some u)(heo:∃u,h'.get? e=some u)
 (new:bV P w (ao H x o') h' x o'):bM P w (ao H x o') h':=λb u q=>by
 have nown:∀c y,H c=some (.own y)->c≠x:=λc y r z=>by subst z;rw [r] at mu;exact mu
 have ntup:∀c xs,H c=some (.tup xs)->c≠x:=λc xs r z=>by subst z;rw [r] at mu;exact mu
 have ncod:∀c xs,H c=some (.cod xs)->c≠x:=λc xs r z=>by subst z;rw [r] at mu;exact mu
 by_cases hb:b=x
 ·subst hb;rw [aR] at q;cases q;exact new
 ·rw [aA hb] at q;by_cases hbe:b=e
  ·have q':H b=some (.own x):=by
    rcases he with z | z
    ·exact absurd (hbe.trans z) hb
    ·rw [hbe];exact z
   rw [q] at q';cases q';obtain⟨v,hv⟩:=heo;exact⟨v,by rw [hbe];exact hv⟩
  ·refine(ok b u q).stay (λc v hc r=>k c v ?_ r) (λc r=>by rw [aA (nown c b r)];exact r) (λc xs r=>by rw [aA (ntup c xs r)];exact r) λc xs r=>by rw [aA (ncod c xs r)];exact r
   rcases hc with rfl | hc
   ·exact hbe
   ·rintro rfl;rcases he with z | z
    ·exact nown c b hc z
    ·rw [hc] at z;cases z;exact hb rfl
end
structure Un (fs ex:List U9) (H H':Hp) (h h':Vl):Prop where
 keep:∀b o,h.get? b=some o->H b=none->b ∉ fs->b ∉ ex->h'.get? b=some o
 slot:∀b o,h.get? b=some o->H b=none->b∈fs->b ∉ ex->∃sl,h'.get? b=some {o with slots:=sl}
 free:∀b o,h.get? b=some o->H b=none->b ∉ ex->H' b=none
 there:∀b o,h.get? b=some o->b ∉ ex->∃o',h'.get? b=some o'
 tups:∀b xs,H b=some (.tup xs)->H' b=some (.tup xs)
 frzs:∀b o u,H b=some (.frz o u)->H' b=some (.frz o u)
 tbls:∀b ps,H b=some (.tbl ps)->∃more,H' b=some (.tbl (ps++more))
section
variable {fs fs' ex ex':List U9} {H H1 H2:Hp} {h h1 h2 h':Vl} {a x e:U9} {o:HO}
theorem Un.any(u:Un fs ex H H1 h h1){b:U9}{ob:Obj}(q:h.get? b=some ob)(n:H b=none)(hx:b ∉ ex):∃sl,h1.get? b=some {ob with slots:=sl}:=by
 by_cases hb:b∈fs
 ·exact u.slot b ob q n hb hx
 ·exact⟨ob.slots,u.keep b ob q n hb hx⟩
theorem Un.kept(k:∀b u,h.get? b=some u->h'.get? b=some u):Un fs ex H H h h':=
 ⟨λb ob q _ _ _=>k b ob q,λb ob q _ _ _=>⟨ob.slots,k b ob q⟩,λ_ _ _ n _=>n,λb ob q _=>⟨ob,k b ob q⟩,λ_ _ q=>q,λ_ _ _ q=>q,λ_ ps q=>⟨#[],by rw [q];simp⟩⟩
theorem Un.refl:Un fs ex H H h h:=Un.kept λ_ _ q=>q
theorem Un.laid(k:∀b u,h.get? b=some u->h'.get? b=some u)(hp:h.objs.size<=a)(hn:H a=none):Un fs ex H (ao H a o) h h' where
 keep:=λb u q _ _ _=>k b u q
 slot:=λb u q _ _ _=>⟨u.slots,k b u q⟩
 free:=λb u q n _=>by rw [aA (Oj (Ol (N5 q) hp))];exact n
 there:=λb u q _=>⟨u,k b u q⟩
 tups:=λb xs q=>by rw [aA (cL q hn)];exact q
 frzs:=λb u xs q=>by rw [aA (cL q hn)];exact q
 tbls:=λb ps q=>⟨#[],by rw [aA (cL q hn),q];simp⟩
theorem Un.write(mu:j7 (H x))(he:e=x\/H e=some (.own x))(k:∀b u,b≠e->h.get? b=some u->h'.get? b=some u)(heo:∃u,h'.get? e=some u):Un fs ex H (ao H x o) h h':=by
 have hx:∀b,H b=none->b≠x:=λb n z=>by subst z;rw [n] at mu;exact mu
 have hb:∀b,H b=none->b≠e:=λb n z=>by
  subst z;rcases he with r | r
  ·exact hx b n r
  ·rw [n] at r;cases r
 have hm:∀b u,H b=some u->¬j7 (some u)->b≠x:=λb u q nm z=>by subst z;rw [q] at mu;exact nm mu
 refine⟨λb u q n _ _=>k b u (hb b n) q,λb u q n _ _=>⟨u.slots,k b u (hb b n) q⟩,λb u q n _=>by rw [aA (hx b n)];exact n,λb u q _=>?_,
  λb xs q=>by rw [aA (hm b _ q λz=>z)];exact q,λb u xs q=>by rw [aA (hm b _ q λz=>z)];exact q,λb ps q=>⟨#[],by rw [aA (hm b _ q λz=>z),q];simp⟩⟩
 by_cases hbe:b=e
 ·subst hbe;exact heo
 ·exact⟨u,k b u hbe q⟩
end
def trk(h:Vl)(H:Hp):List U9:=(OU h.objs.size).filter λa=>(H a).isSome
def gR(h:Vl)(H:Hp):Vl:=PySem.W.hideAll h (trk h H)
theorem FX(h:Vl)(H:Hp):(gR h H).objs.size=h.objs.size:=PySem.W.hideAll_size _ _
theorem FY{h:Vl}{H:Hp}{b:U9}{o:Obj}(e:h.get? b=some o)(n:H b=none):(gR h H).get? b=some o:=
 PySem.W.hideAll_get _ e λhm=>by
  have q:(H b).isSome=true:=(Oh.mp hm).2;rw [n] at q;simp at q
theorem FZ{h:Vl}{H:Hp}{b:U9}{o:Obj}(e:(gR h H).get? b=some o):h.get? b=some o/\H b=none:=by
 have e':h.get? b=some o:=PySem.W.of_hideAll (trk h H) e;refine⟨e',?_⟩;cases q:H b with
 | none=>rfl
 | some x=>
  have hm:b∈trk h H:=Oh.mpr ⟨QC.mpr (N5 e'),by simp [q]⟩;have z:(gR h H).get? b=none:=PySem.W.hideAll_none (trk h H) hm;rw [z] at e;cases e
def F0(g h:Vl)(L:U9):List (U9×Obj):=(OU h.objs.size).filterMap λa=>if a=L\/(g.get? a).isSome=true then none else(h.get? a).map λo=>(a,o)
def rest(g h:Vl)(L d:U9):List (U9×Obj):=(F0 g h L).filter λp=>decide (p.1≠d)
structure Mod (K:NM) (mg:Str->Option U8) (base:Vl):Prop where
 kin:K.In base
 glob:base.Ns Vk mg
 blt:∃mb,base.Ns V1 mb/\∀x:Str,x≠"__name__"->mb x=Vq x
 nolimit:base.NoLimit
structure Cx where
 prog:Vj
 w:Vm
 K:NM
 mg:Str->Option U8
 base:Vl
 A:Vo
 N:List Str
 s₀:Va
 H₀:Hp
 env:Env
 outer:List Env
 stack:List Env
 ex:List U9
 fn:Str->Bool
 calm:Bool
 pn:List (U9×Obj)
 xe:U8->Va->Prop
def aY(l:List Env):List U9:=l.filterMap (·.frame)
abbrev Cx.fs(X:Cx):List U9:=aY X.outer
def fL(sc:Vv)(x:Str):Prop:=sc.names.lookup x=some .local\/sc.names.lookup x=some .cell\/sc.names.lookup x=some .free
def gc(sc:Vv)(x:Str):Prop:=sc.names.lookup x=some .local\/sc.names.lookup x=some .cell
def F3(env:Env)(h:Vl)(m:Str->Option U8)(x:Str)(u:U8):Prop:=
 (env.kindOf x=some .local/\m x=some u)\/((env.kindOf x=some .cell\/env.kindOf x=some .free)/\∃c,env.cells.lookup x=some c/\h.IsCell c (some u))
structure Cx.Ok (X:Cx):Prop where
 mod:Mod X.K X.mg X.base
 kind:X.env.scope.kind= .function
 glob:X.env.globals=Vk
 blt:X.env.builtins=V1
 above:X.s₀.heap.objs.size<=X.env.locals
 inj:∀x y c,X.env.cells.lookup x=some c->X.env.cells.lookup y=some c->x=y
 has:∀x,(X.env.kindOf x=some .cell\/X.env.kindOf x=some .free)->∃c,X.env.cells.lookup x=some c
 cab:∀x c,X.fn x=true->X.env.cells.lookup x=some c->X.s₀.heap.objs.size<=c
 hd:X.calm=true->X.A.handled=none
 frames:X.A.frames=some X.stack
 stk:X.stack=X.outer\/(X.stack=X.env::X.outer/\X.env.frame=some X.env.locals)
 exf:∀b∈X.ex,b≠X.env.locals/\∀x c,X.env.cells.lookup x=some c->c≠b
 bs:∀b o,X.base.get? b=some o->X.s₀.heap.get? b=some o/\X.H₀ b=none
 bsz:X.base.objs.size<=X.s₀.heap.objs.size
 noex:∀b o,X.base.get? b=some o->b ∉ X.ex
 exfs:∀b∈X.ex,b ∉ X.fs
 funs:X.s₀.heap.FunFrames X.base X.outer
 frf:∀b∈X.fs,X.H₀ b=none
structure af (X:Cx) (Wy:List (U9×Obj)) (σ:List (Option V)) (H:Hp) (s:Va):Prop where
 ok:X.Ok
 os:s.os=X.s₀.os
 bare:V2 s.gens
 base:Un X.fs X.ex X.H₀ H X.s₀.heap s.heap
 loc:∃m,s.heap.Ns X.env.locals m/\∀(i:Nat)(x:Str)(v:V),X.N[i]?=some x->σ[i]?=some (some v)->fL X.env.scope x->∃u,aF v u/\F3 X.env s.heap m x u
 cell:∀x c,X.env.cells.lookup x=some c->∃v,s.heap.IsCell c v
 free:H X.env.locals=none
 freeC:∀x c,X.env.cells.lookup x=some c->H c=none
 pin:∀p∈X.pn++Wy,s.heap.get? p.1=some p.2/\H p.1=none/\p.1≠X.env.locals/\p.1 ∉ X.fs/\∀v,p.2.data≠ .cell v
 hok:bM X.prog X.w H s.heap
 len:σ.length=X.N.length
section
variable {X:Cx} {Wy:List (U9×Obj)} {σ:List (Option V)} {H H':Hp} {s:Va} {h':Vl}
theorem Cx.Ok.nofr(ok:X.Ok){b:U9}{o:Obj}(e:X.base.get? b=some o):b ∉ X.fs:=λhb=>by
 have:=(ok.funs.mem hb).1;rw [e] at this;cases this
theorem af.bs(I:af X Wy σ H s):∀b o,X.base.get? b=some o->s.heap.get? b=some o/\H b=none:=λb o e=>
 ⟨I.base.keep b o (I.ok.bs b o e).1 (I.ok.bs b o e).2 (I.ok.nofr e) (I.ok.noex b o e),I.base.free b o (I.ok.bs b o e).1 (I.ok.bs b o e).2 (I.ok.noex b o e)⟩
theorem af.bk(I:af X Wy σ H s):∀b o,X.base.get? b=some o->s.heap.get? b=some o:=λb o e=>(I.bs b o e).1
theorem af.mod(I:af X Wy σ H s):Mod X.K X.mg X.base:=I.ok.mod
theorem af.kIn(I:af X Wy σ H s):X.K.In s.heap:=I.ok.mod.kin.keeps I.bk
theorem af.fr(I:af X Wy σ H s):∃m,Fr X.base X.env.locals s.heap m:=
 let ⟨m,hn,_⟩:=I.loc
 ⟨m,hn,I.bk,Ot I.ok.bsz I.ok.above⟩
theorem af.lt(I:af X Wy σ H s):X.env.locals < s.heap.objs.size:=let ⟨_,hn,_⟩:=I.loc;hn.lt
theorem af.sz(I:af X Wy σ H s):X.s₀.heap.objs.size<=s.heap.objs.size:=Ot I.ok.above (Qm I.lt)
theorem af.nofs(I:af X Wy σ H s){a:U9}(h:s.heap.objs.size<=a):a ∉ X.fs:=λhb=>by
 obtain⟨_,o,ho,_⟩:=I.ok.funs.mem hb;exact absurd (Ol (N5 ho) (Ot I.sz h)) (Pn _)
theorem af.cne(I:af X Wy σ H s):∀x c,X.env.cells.lookup x=some c->c≠X.env.locals:=λx c e z=>by
 obtain⟨v,o,ho,hd⟩:=I.cell x c e;obtain⟨m,⟨o',es,ep,ho',hd',_⟩,_⟩:=I.loc;rw [z,ho'] at ho;cases ho;rw [hd'] at hd;cases hd
theorem af.funs(I:af X Wy σ H s):s.heap.FunFrames X.base X.outer:=by
 have all:∀(l:List Env),(∀b∈aY l,b∈X.fs)->X.s₀.heap.FunFrames X.base l->s.heap.FunFrames X.base l:=by
  intro l
  induction l with
  | nil=>intro _ _;trivial
  | cons env r ih=>
   intro hs hl;obtain⟨hk,⟨L,o,hf,hn,ho,hd⟩,hr⟩:=hl;have hL:L∈X.fs:=hs L (by unfold aY;rw [Pr,hf];exact OY);obtain⟨sl,e⟩:=I.base.slot L o ho (I.ok.frf L hL) hL λz=>I.ok.exfs L z hL;exact⟨hk,⟨L,_,hf,hn,e,hd⟩,ih (λb hb=>hs b (by unfold aY;rw [Pr,hf];exact OB _ hb)) hr⟩
 exact all X.outer (λ_ hb=>hb) I.ok.funs
theorem af.stack(I:af X Wy σ H s):s.heap.FunFrames X.base X.stack:=by
 rcases I.ok.stk with e | ⟨e,hf⟩
 ·rw [e];exact I.funs
 ·rw [e];obtain⟨m,hn,_⟩:=I.loc;refine .cons (by rw [I.ok.kind];decide) hf hn ?_ I.funs;exact Heap.get?_none_of_le (Ot I.ok.bsz I.ok.above)
theorem af.stkSub(I:af X Wy σ H s):∀b∈aY X.stack,b∈X.env.locals::X.fs:=λb hb=>by
 rcases I.ok.stk with e | ⟨e,hf⟩
 ·rw [e] at hb;exact OB _ hb
 ·rw [e] at hb;unfold aY at hb;rw [Pr,hf] at hb;exact hb
theorem af.stkFree(I:af X Wy σ H s):∀b∈aY X.stack,H b=none:=λb hb=>by
 rcases N9.mp (I.stkSub b hb) with e | hb
 ·rw [e];exact I.free
 ·obtain⟨_,o,ho,_⟩:=I.ok.funs.mem hb;exact I.base.free b o ho (I.ok.frf b hb) λz=>I.ok.exfs b z hb
theorem af.step{g':Array Ww}{t':Nat}{d':Drawn}{ch:List U9}(I:af X Wy σ H s)
 (hch:∀b∈ch,(b∈X.ex\/X.s₀.heap.objs.size<=b)/\b≠X.env.locals/\(∀x c,X.env.cells.lookup x=some c->c≠b)/\∀p∈X.pn++Wy,p.1≠b)
 (keep:∀b o,b≠X.env.locals->b ∉ X.fs->b ∉ ch->s.heap.get? b=some o->H b=none->h'.get? b=some o)
 (slot:∀b o,b≠X.env.locals->b∈X.fs->b ∉ ch->s.heap.get? b=some o->H b=none->∃sl,h'.get? b=some {o with slots:=sl})(free:∀b o,b ∉ ch->s.heap.get? b=some o->H b=none->H' b=none)
 (there:∀b o,b ∉ ch->s.heap.get? b=some o->∃o',h'.get? b=some o')
 (tups:∀b xs,H b=some (.tup xs)->H' b=some (.tup xs))(frzs:∀b o u,H b=some (.frz o u)->H' b=some (.frz o u))(tbls:∀b ps,H b=some (.tbl ps)->∃more,H' b=some (.tbl (ps++more)))
 (ns:∀m,s.heap.Ns X.env.locals m->h'.Ns X.env.locals m)(hok:bM X.prog X.w H' h')(hg:V2 g'):
 af X Wy σ H' {s with heap:=h',gens:=g',drawn:=d',toks:=t'}:=by
 have neL:∀b o,X.s₀.heap.get? b=some o->b≠X.env.locals:=λb o e=>Oj (Ol (N5 e) I.ok.above);have neC:∀b o,X.s₀.heap.get? b=some o->b ∉ X.ex->b ∉ ch:=λb o e hx hb=>by
  rcases(hch b hb).1 with z | z
  ·exact hx z
  ·exact absurd (Ol (N5 e) z) (Pn _)
 have cellK:∀x c,X.env.cells.lookup x=some c->∀v,s.heap.IsCell c v->h'.IsCell c v:=λx c e v uu1=>by
  obtain⟨o,ho,hd⟩:=uu1;have nch:c ∉ ch:=λz=>(hch c z).2.2.1 x c e rfl;by_cases hc:c∈X.fs
  ·obtain⟨sl,q⟩:=slot c o (I.cne x c e) hc nch ho (I.freeC x c e);exact⟨_,q,hd⟩
  ·exact⟨o,keep c o (I.cne x c e) hc nch ho (I.freeC x c e),hd⟩
 refine⟨I.ok,I.os,hg,⟨λb o e n hb hx=>?_,λb o e n hb hx=>?_,λb o e n hx=>?_,λb o e hx=>?_,λb xs e=>tups b xs (I.base.tups b xs e),λb o xs e=>frzs b o xs (I.base.frzs b o xs e),λb ps e=>?_⟩,?_,λx c e=>?_,?_,λx c e=>?_,λp hp=>?_,hok,I.len⟩
 ·exact keep b o (neL b o e) hb (neC b o e hx) (I.base.keep b o e n hb hx) (I.base.free b o e n hx)
 ·obtain⟨sl,e1⟩:=I.base.slot b o e n hb hx;obtain⟨sl',e2⟩:=slot b _ (neL b o e) hb (neC b o e hx) e1 (I.base.free b o e n hx);exact⟨sl',e2⟩
 ·obtain⟨o',e1⟩:=I.base.there b o e hx;exact free b o' (neC b o e hx) e1 (I.base.free b o e n hx)
 ·obtain⟨o',e1⟩:=I.base.there b o e hx;exact there b o' (neC b o e hx) e1
 ·obtain⟨m1,e1⟩:=I.base.tbls b ps e;obtain⟨m2,e2⟩:=tbls b _ e1;exact⟨m1++m2,by rw [e2,RX]⟩
 ·obtain⟨m,hn,hl⟩:=I.loc;refine⟨m,ns m hn,λi x v e1 e2 e3=>?_⟩;obtain⟨u,r,l⟩:=hl i x v e1 e2 e3;refine⟨u,r,?_⟩;rcases l with l | ⟨k,c,e,z⟩
  ·exact .inl l
  ·exact .inr ⟨k,c,e,cellK x c e _ z⟩
 ·obtain⟨v,z⟩:=I.cell x c e;exact⟨v,cellK x c e v z⟩
 ·obtain⟨m,⟨o,_,_,ho,_⟩,_⟩:=I.loc;exact free _ o (λz=>(hch _ z).2.1 rfl) ho I.free
 ·obtain⟨v,o,ho,hd⟩:=I.cell x c e;exact free c o (λz=>(hch c z).2.2.1 x c e rfl) ho (I.freeC x c e)
 ·obtain⟨e,n,ne,nf,d⟩:=I.pin p hp;have nch:p.1 ∉ ch:=λz=>(hch p.1 z).2.2.2 p hp rfl;exact⟨keep p.1 p.2 ne nf nch e n,free p.1 p.2 nch e n,ne,nf,d⟩
theorem af.un{t':Nat}(I:af X Wy σ H s)(u:Un X.fs [] H H' s.heap h')(hok:bM X.prog X.w H' h'):af X Wy σ H' {s with heap:=h',toks:=t'}:=by
 obtain⟨m,⟨o,es,ep,ho,r⟩,_⟩:=id I.loc;obtain⟨sl,hL⟩:=u.any ho I.free U6;exact I.step (g':=s.gens) (d':=s.drawn) (ch:=[]) (λ_ z=>nomatch z) (λb o _ hb _ e n=>u.keep b o e n hb U6) (λb o _ hb _ e n=>u.slot b o e n hb U6) (λb o _ e n=>u.free b o e n U6) (λb o _ e=>u.there b o e U6) u.tups u.frzs u.tbls (λm' hm=>by
  obtain⟨o',es',ep',ho',r'⟩:=hm;rw [ho] at ho';cases ho';exact⟨_,es',ep',hL,r'⟩) hok I.bare
theorem af.call{g':Array Ww}{t':Nat}{d':Drawn}{ch:List U9}(I:af X Wy σ H s)(u:Un (aY X.stack) ch H H' s.heap h')(hok:bM X.prog X.w H' h')(hg:V2 g')
 (hch:∀b∈ch,(b∈X.ex\/X.s₀.heap.objs.size<=b)/\b≠X.env.locals/\(∀x c,X.env.cells.lookup x=some c->c≠b)/\∀p∈X.pn++Wy,p.1≠b):
 af X Wy σ H' {s with heap:=h',gens:=g',drawn:=d',toks:=t'}:=by
 obtain⟨m,⟨o,es,ep,ho,r⟩,_⟩:=id I.loc;obtain⟨sl,hL⟩:=u.any ho I.free λz=>(hch _ z).2.1 rfl;exact I.step (ch:=ch) hch (λb o hL hb hc e n=>u.keep b o e n (λz=>(N9.mp (I.stkSub b z)).elim hL hb) hc) (λb o _ _ hc e n=>u.any e n hc) (λb o hc e n=>u.free b o e n hc) (λb o hc e=>u.there b o e hc) u.tups u.frzs u.tbls (λm' hm=>by
  obtain⟨o',es',ep',ho',r'⟩:=hm;rw [ho] at ho';cases ho';exact⟨_,es',ep',hL,r'⟩) hok hg
theorem af.turned{t':Nat}{it:U9}(I:af X Wy σ H s)(k:∀b o,b≠it->s.heap.get? b=some o->h'.get? b=some o)(hn:H it=none)(hL:it≠X.env.locals)
 (h1:it∈X.ex\/X.s₀.heap.objs.size<=it)(h2:∀x c,X.env.cells.lookup x=some c->c≠it)(h3:∀p∈X.pn++Wy,p.1≠it):af X Wy σ H {s with heap:=h',toks:=t'}:=by
 have nit:∀b u,H b=some u->b≠it:=λb u e z=>by rw [z,hn] at e;cases e
 refine I.step (g':=s.gens) (d':=s.drawn) (ch:=[it]) (λb hb=>?_) (λb o _ _ hc e _=>k b o (λz=>hc (by simp [z])) e) (λb o _ _ hc e _=>⟨o.slots,k b o (λz=>hc (by simp [z])) e⟩) (λ_ _ _ _ n=>n)
  (λb o hc e=>⟨o,k b o (λz=>hc (by simp [z])) e⟩) (λ_ _ e=>e) (λ_ _ _ e=>e) (λb ps e=>⟨#[],by rw [e];simp⟩) (λm hm=>?_) (λb u e=>?_) I.bare
 ·have e:b=it:=by simpa using hb
  subst e;exact⟨h1,hL,h2,h3⟩
 ·obtain⟨o,es,ep,ho,r⟩:=hm;exact⟨o,es,ep,k _ o (Ne.symm hL) ho,r⟩
 ·refine(I.hok b u e).stay (λc v hc q=>k c v ?_ q) (λ_ q=>q) (λ_ _ q=>q) λ_ _ q=>q;rcases hc with z | z
  ·rw [z];exact nit b u e
  ·exact nit c _ z
theorem af.tok(I:af X Wy σ H s)(t:Nat):af X Wy σ H {s with toks:=t}:=I.un (h':=s.heap) (t':=t) Un.refl I.hok
theorem af.kept{t':Nat}(I:af X Wy σ H s)(k:∀b u,s.heap.get? b=some u->h'.get? b=some u):af X Wy σ H {s with heap:=h',toks:=t'}:=I.un (Un.kept k) (I.hok.kept k)
theorem af.laid{a:U9}{o:HO}{t':Nat}(I:af X Wy σ H s)(k:∀b u,s.heap.get? b=some u->h'.get? b=some u)(hp:s.heap.objs.size<=a)(new:bV X.prog X.w (ao H a o) h' a o):
 af X Wy σ (ao H a o) {s with heap:=h',toks:=t'}:=I.un (Un.laid k hp (I.hok.fresh hp)) (I.hok.laid k hp new)
theorem af.write{x e:U9}{o:HO}{t':Nat}(I:af X Wy σ H s)(mu:j7 (H x))(he:e=x\/H e=some (.own x))(k:∀b u,b≠e->s.heap.get? b=some u->h'.get? b=some u)(heo:∃u,h'.get? e=some u)
 (new:bV X.prog X.w (ao H x o) h' x o):af X Wy σ (ao H x o) {s with heap:=h',toks:=t'}:=I.un (Un.write mu he k heo) (I.hok.write mu he k heo new)
theorem af.weak{σ':List (Option V)}(I:af X Wy σ H s)(hl:σ'.length=σ.length)(w:∀(i:Nat) v,σ'[i]?=some (some v)->σ[i]?=some (some v)):af X Wy σ' H s:=
 ⟨I.ok,I.os,I.bare,I.base,let ⟨m,hn,hl'⟩:=I.loc;⟨m,hn,λi x v e1 e2 e3=>hl' i x v e1 (w i v e2) e3⟩,I.cell,I.free,I.freeC,I.pin,I.hok,hl.trans I.len⟩
theorem af.pins_of{pins':List (U9×Obj)}(I:af X Wy σ H s)(h:∀p∈pins',s.heap.get? p.1=some p.2/\H p.1=none/\p.1≠X.env.locals/\p.1 ∉ X.fs/\∀v,p.2.data≠ .cell v):af X pins' σ H s:=
 ⟨I.ok,I.os,I.bare,I.base,I.loc,I.cell,I.free,I.freeC,λp hp=>(Oo.mp hp).elim (λz=>I.pin p (QS _ z)) (h p),I.hok,I.len⟩
theorem ug{N:List Str}(hN:N.Nodup){i j:Nat}{x:Str}(a:N[i]?=some x)(b:N[j]?=some x):i=j:=by
 obtain⟨h1,e1⟩:=N7.mp a;obtain⟨h2,e2⟩:=N7.mp b;exact(RF hN).mp (e1.trans e2.symm)
theorem x8{M:Model}{A:Vo}{E:U8->Va->Prop}{i:Nat}{x:Str}{v:V}{u:U8}{Q:Unit->Va->Prop}(I:af X Wy σ H s)(hN:X.N.Nodup)(hi:X.N[i]?=some x)(hx:gc X.env.scope x)(r:aF v u)
 (h:∀s',af X Wy (σ.set i (some v)) H s'->(∃a,Rb a s.heap s'.heap/\(a=X.env.locals\/X.env.cells.lookup x=some a))->Q () s')(hf:X.fn x=true\/X.env.scope.names.lookup x=some .local:=by first | exact .inl rfl | exact .inr rfl | assumption):Vf M A (storeName X.env x u) Q E s:=by
 obtain⟨m,hn,hl⟩:=id I.loc;have hcls:(X.env.scope.kind== .class || (X.env.scope.kind== .module && X.env.locals !=X.env.globals))=false:=by rw [I.ok.kind];rfl
 have hiσ:i < σ.length:=by rw [I.len];exact(N7.mp hi).1
 have cne:=I.cne;have tracked:∀{a:U9}{h':Vl},(∃o,s.heap.get? a=some o/\H a=none)->Rb a s.heap h'->bM X.prog X.w H h':=λ{a h'} ha hs b ob e=>by
  obtain⟨_,_,hfree⟩:=ha;refine(I.hok b ob e).stay (λc w' hc q=>(hs.2 c ?_).trans q) (λ_ q=>q) (λ_ _ q=>q) λ_ _ q=>q;rintro rfl;rcases hc with rfl | hc
  ·rw [hfree] at e;cases e
  ·rw [hfree] at hc;cases hc
 rcases hx with hk | hk
 ·refine wpAny_storeName_local hk hn (λh' hn' hs=>?_) hcls;obtain⟨oL,_,_,hoL,_⟩:=id hn;refine h _ ⟨I.ok,I.os,I.bare,⟨λb o e n hb hx=>?_,λb o e n hb hx=>?_,I.base.free,λb o e hx=>?_,I.base.tups,I.base.frzs,I.base.tbls⟩,⟨_,hn',λj y v' e1 e2 e3=>?_⟩,λy c e=>?_,I.free,I.freeC,λp hp=>?_,tracked ⟨oL,hoL,I.free⟩ hs,by simpa using I.len⟩ ⟨_,hs,.inl rfl⟩
  ·exact(hs.2 b (Oj (Ol (N5 e) I.ok.above))).trans (I.base.keep b o e n hb hx)
  ·obtain⟨sl,e1⟩:=I.base.slot b o e n hb hx;exact⟨sl,(hs.2 b (Oj (Ol (N5 e) I.ok.above))).trans e1⟩
  ·obtain⟨o',e1⟩:=I.base.there b o e hx;exact⟨o',(hs.2 b (Oj (Ol (N5 e) I.ok.above))).trans e1⟩
  ·by_cases hj:j=i
   ·subst hj;rw [hi] at e1;cases e1;rw [Ov hiσ] at e2;cases e2;exact⟨u,r,.inl ⟨hk,U6⟩⟩
   ·rw [Oc (Ne.symm hj)] at e2;obtain⟨u',r',q⟩:=hl j y v' e1 e2 e3;refine⟨u',r',?_⟩;rcases q with⟨k,e⟩ | ⟨k,c,e,z⟩
    ·refine .inl ⟨k,?_⟩;have:y≠x:=λe=>hj (ug hN e1 (e▸hi));simp [this,e]
    ·exact .inr ⟨k,c,e,z.sameBut hs (cne y c e)⟩
  ·obtain⟨w',z⟩:=I.cell y c e;exact⟨w',z.sameBut hs (cne y c e)⟩
  ·obtain⟨e,n,ne,nf,d⟩:=I.pin p hp;exact⟨(hs.2 p.1 ne).trans e,n,ne,nf,d⟩
 ·have hfn:X.fn x=true:=by
   rcases hf with z | z
   ·exact z
   ·rw [z] at hk;cases hk
  obtain⟨c,hc⟩:=I.ok.has x (.inl hk);obtain⟨w',z⟩:=I.cell x c hc;refine wpAny_storeName_cell I.ok.kind hk hc z (λh' hc' hs=>?_);obtain⟨oc,hoc,hocd⟩:=id z;refine h {s with heap:=h'} ⟨I.ok,I.os,I.bare,⟨λb o e n hb hx=>?_,λb o e n hb hx=>?_,I.base.free,λb o e hx=>?_,I.base.tups,I.base.frzs,I.base.tbls⟩,⟨m,hn.sameBut hs (Ne.symm (cne x c hc)),λj y v' e1 e2 e3=>?_⟩,λy c' e=>?_,I.free,I.freeC,λp hp=>?_,tracked ⟨oc,hoc,I.freeC x c hc⟩ hs,by simpa using I.len⟩ ⟨c,hs,.inr hc⟩
  ·exact(hs.2 b (Oj (Ol (N5 e) (I.ok.cab x c hfn hc)))).trans (I.base.keep b o e n hb hx)
  ·obtain⟨sl,e1⟩:=I.base.slot b o e n hb hx;exact⟨sl,(hs.2 b (Oj (Ol (N5 e) (I.ok.cab x c hfn hc)))).trans e1⟩
  ·obtain⟨o',e1⟩:=I.base.there b o e hx;exact⟨o',(hs.2 b (Oj (Ol (N5 e) (I.ok.cab x c hfn hc)))).trans e1⟩
  ·by_cases hj:j=i
   ·subst hj;rw [hi] at e1;cases e1;rw [Ov hiσ] at e2;cases e2;exact⟨u,r,.inr ⟨.inl hk,c,hc,hc'⟩⟩
   ·rw [Oc (Ne.symm hj)] at e2;obtain⟨u',r',q⟩:=hl j y v' e1 e2 e3;refine⟨u',r',?_⟩;rcases q with q | ⟨k,c',e,z'⟩
    ·exact .inl q
    ·refine .inr ⟨k,c',e,z'.sameBut hs ?_⟩;rintro rfl;exact hj (ug hN e1 (I.ok.inj _ _ _ e hc▸hi))
  ·by_cases hcc:c'=c
   ·subst hcc;exact⟨_,hc'⟩
   ·obtain⟨w2,z2⟩:=I.cell y c' e;exact⟨w2,z2.sameBut hs hcc⟩
  ·obtain⟨e,n,ne,nf,d⟩:=I.pin p hp;refine⟨(hs.2 p.1 ?_).trans e,n,ne,nf,d⟩;intro q;rw [q,hoc] at e;have q':oc=p.2:=OG e;exact d w' (by rw [<-q'];exact hocd)
theorem j9{M:Model}{A:Vo}{E:U8->Va->Prop}{i:Nat}{x:Str}{v:V}{u:U8}{Q:Unit->Va->Prop}(I:af X Wy σ H s)(hN:X.N.Nodup)(hi:X.N[i]?=some x)(hx:gc X.env.scope x)(r:aF v u)
 (h:∀s',af X Wy (σ.set i (some v)) H s'->Q () s')(hf:X.fn x=true\/X.env.scope.names.lookup x=some .local:=by first | exact .inl rfl | exact .inr rfl | assumption):Vf M A (storeName X.env x u) Q E s:=
 x8 I hN hi hx r (λs' I' _=>h s' I') hf
theorem af.call'{s':Va}{ch:List U9}(I:af X Wy σ H s)(ho:s'.os=s.os)(u:Un (aY X.stack) ch H H' s.heap s'.heap)(hok:bM X.prog X.w H' s'.heap)(hg:V2 s'.gens)
 (hch:∀b∈ch,(b∈X.ex\/X.s₀.heap.objs.size<=b)/\b≠X.env.locals/\(∀x c,X.env.cells.lookup x=some c->c≠b)/\∀p∈X.pn++Wy,p.1≠b):af X Wy σ H' s':=by
 obtain⟨h',g',d',t',o'⟩:=s';have e:o'=s.os:=ho;subst e;exact I.call (g':=g') (t':=t') (d':=d') u hok hg hch
end
abbrev XK:=U8->Option U9->Hp->Prop
abbrev St:=List (Option V)
abbrev VK:=V->Hp->Prop
abbrev TE:=St->Hp->VK->Prop
abbrev TT:=St->Hp->(Bool->Hp->Prop)->Prop
abbrev TA:=St->Hp->(List V->Hp->Prop)->Prop
structure ig where
 nx:St->Hp->Prop
 rt:VK
 bk:St->Hp->Prop:=λ_ _=>False
 ct:St->Hp->Prop:=λ_ _=>False
abbrev TS:=ig->St->Hp->Prop
inductive EP (X:Cx) (Wy:List (U9×Obj)) (σ:St) (Q:VK) (u:U8) (s':Va):Prop
 | mk (v:V) (H':Hp):af X Wy σ H' s'->aF v u->Q v H'->EP X Wy σ Q u s'
inductive TP (X:Cx) (Wy:List (U9×Obj)) (σ:St) (Q:Bool->Hp->Prop) (b:Bool) (s':Va):Prop
 | mk (H':Hp):af X Wy σ H' s'->Q b H'->TP X Wy σ Q b s'
inductive AP (X:Cx) (Wy:List (U9×Obj)) (σ:St) (Q:List V->Hp->Prop) (us:List U8) (s':Va):Prop
 | mk (vs:List V) (H':Hp):af X Wy σ H' s'->aE vs us->Q vs H'->AP X Wy σ Q us s'
def SP(X:Cx)(Wy:List (U9×Obj))(D:ig)(f:Flow)(s':Va):Prop:=
 match f with
 | .next=>∃σ' H',af X Wy σ' H' s'/\D.nx σ' H'
 | .brk=>∃σ' H',af X Wy σ' H' s'/\D.bk σ' H'
 | .cont=>∃σ' H',af X Wy σ' H' s'/\D.ct σ' H'
 | .ret u=>∃v σ' H',af X Wy σ' H' s'/\aF v u/\D.rt v H'
def PE(X:Cx)(e:Vd)(t:TE):Prop:=
 ∀(Wy:List (U9×Obj))(s:Va)(σ:St)(H:Hp)(Q:VK),af X Wy σ H s->t σ H Q->Vf (Vg X.prog X.w) X.A (eval e X.env) (EP X Wy σ Q) X.xe s
def PT(X:Cx)(e:Vd)(t:TT):Prop:=
 ∀(Wy:List (U9×Obj))(s:Va)(σ:St)(H:Hp)(Q:Bool->Hp->Prop),af X Wy σ H s->t σ H Q->Vf (Vg X.prog X.w) X.A (isTrue e X.env (eval e X.env)) (TP X Wy σ Q) X.xe s
def PW(X:Cx)(e:Vd)(t:TT):Prop:=
 ∀(whole:Sem U8)(Wy:List (U9×Obj))(s:Va)(σ:St)(H:Hp)(Q:Bool->Hp->Prop),af X Wy σ H s->t σ H Q->Vf (Vg X.prog X.w) X.A (isTrue e X.env whole) (TP X Wy σ Q) X.xe s
theorem PW.pt{X:Cx}{e:Vd}{t:TT}(h:PW X e t):PT X e t:=h _
def PA(X:Cx)(es:List Vd)(t:TA):Prop:=
 ∀(pos:Pos)(Wy:List (U9×Obj))(s:Va)(σ:St)(H:Hp)(Q:List V->Hp->Prop),af X Wy σ H s->t σ H Q->Vf (Vg X.prog X.w) X.A (spliced (Vr pos (Vc es X.env))) (AP X Wy σ Q) X.xe s
def PS(X:Cx)(st:Vn)(t:TS):Prop:=
 ∀(Wy:List (U9×Obj))(s:Va)(σ:St)(H:Hp)(D:ig),af X Wy σ H s->t D σ H->Vf (Vg X.prog X.w) X.A (exec st X.env) (SP X Wy D) X.xe s
def bG(X:Cx)(st:List Vn)(t:TS):Prop:=
 ∀(Wy:List (U9×Obj))(s:Va)(σ:St)(H:Hp)(D:ig),af X Wy σ H s->t D σ H->Vf (Vg X.prog X.w) X.A (execs st X.env) (SP X Wy D) X.xe s
theorem aB{α:Type}{t:Sem α}{Q Q':α->Va->Prop}{M:Model}{A:Vo}{E:U8->Va->Prop}{s:Va}(h:Vf M A t Q E s)(hQ:∀a s,Q a s->Q' a s):Vf M A t Q' E s:=Vu h hQ λ_ _ x=>x
section
variable {X:Cx}
theorem NI{a b:Vd}{ta tb:TE}(ha:PE X a ta)(hb:PE X b tb){Wy:List (U9×Obj)}{s:Va}{σ:St}{H:Hp}{R:V->V->Hp->Prop}(I:af X Wy σ H s)(h:ta σ H λx H1=>tb σ H1 λy H2=>R x y H2)
 {α:Type}{Q:α->Va->Prop}{f:U8->U8->Sem α}
 (hf:∀v u s2 x y H2,af X Wy σ H2 s2->aF x v->aF y u->R x y H2->Vf (Vg X.prog X.w) X.A (f v u) Q X.xe s2):
 Vf (Vg X.prog X.w) X.A (eval a X.env) (λv s₁=>Vf (Vg X.prog X.w) X.A (eval b X.env) (λu s₂=>Vf (Vg X.prog X.w) X.A (f v u) Q X.xe s₂) X.xe s₁) X.xe s:=by
 refine aB (ha Wy s σ H _ I h) λv s1 ⟨x,H1,I1,r1,q1⟩=>?_;refine aB (hb Wy s1 σ H1 _ I1 q1) λu s2 ⟨y,H2,I2,r2,q2⟩=>?_;exact hf v u s2 x y H2 I2 r1 r2 q2
def fh(i:Nat):TE:=λσ H Q=>∃v,σ[i]?=some (some v)/\Q v H
def tC(v:V):TE:=λ_ H Q=>Q v H
theorem qf{i:Nat}{x:Str}{pos:Pos}(hN:X.N[i]?=some x)(hv:fL X.env.scope x)(hd:(x==("__debug__":Str))=false:=by decide)(hcd:(x==("__classdict__":Str))=false:=by decide):PE X (.Name x pos) (fh i):=by
 intro Wy s σ H Q I h;obtain⟨v,e,h⟩:=h;obtain⟨m,hn,hl⟩:=I.loc;obtain⟨u,r,l⟩:=hl i x v hN e hv;have fin:EP X Wy σ Q u s:=⟨v,H,I,r,h⟩;rcases l with⟨hk,hm⟩ | ⟨hk,c,hc,hcell⟩
 ·exact Wi (wpAny_loadName_local I.ok.kind hk hn hm fin) hd
 ·rcases hk with hk | hk
  ·exact Wi (wpAny_loadName_cell I.ok.kind hk hc hcell fin) hd
  ·exact Wi (wpAny_loadName_free I.ok.kind hk hc hcell fin hcd) hd
theorem bf{i j pos}:PE X (.Constant (.int i) j pos) (tC (.int i)):=λ_ _ _ H _ I h=>wpAny_Constant_int ⟨.int i,H,I.tok _,⟨_,rfl⟩,h⟩
theorem uh{b j pos}:PE X (.Constant (.bool b) j pos) (tC (.bl b)):=λ_ _ _ H _ I h=>Constant_bool ⟨.bl b,H,I,rfl,h⟩
theorem x9{j pos}:PE X (.Constant .none j pos) (tC .non):=λ_ _ _ H _ I h=>Constant_none ⟨.non,H,I,rfl,h⟩
theorem ui{x j pos}:PE X (.Constant (.str x) j pos) (tC (.str x)):=λ_ _ _ H _ I h=>Calls.Constant_str ⟨.str x,H,I.tok _,⟨_,rfl⟩,h⟩
def Gl(X:Cx)(x:Str):Prop:=X.env.kindOf x=some .globalImplicit
theorem jA{E:U8->Va->Prop}{Wy:List (U9×Obj)}{s:Va}{σ:St}{H:Hp}{x:Str}{u:U8}{pos:Pos}{Q:U8->Va->Prop}(I:af X Wy σ H s)(hg:Gl X x)(hm:X.mg x=some u)(h:Q u s)
 (hd:(x==("__debug__":Str))=false:=by decide):Vf (Vg X.prog X.w) X.A (eval (.Name x pos) X.env) Q E s:=
 R0 I.ok.kind hg (Calls.loadGlobal_global (by rw [I.ok.glob];exact I.mod.glob.keeps I.bk) hm h) hd
theorem kc{E:U8->Va->Prop}{Wy:List (U9×Obj)}{s:Va}{σ:St}{H:Hp}{x:Str}{u:U8}{pos:Pos}{Q:U8->Va->Prop}(I:af X Wy σ H s)(hg:Gl X x)(hm:X.mg x=none)(hv:Vq x=some u)(h:Q u s)
 (hn:x≠"__name__":=by decide)(hd:(x==("__debug__":Str))=false:=by decide):Vf (Vg X.prog X.w) X.A (eval (.Name x pos) X.env) Q E s:=by
 obtain⟨mb,h1,h2⟩:=I.mod.blt;exact R0 I.ok.kind hg (Calls.loadGlobal_builtin (by rw [I.ok.glob];exact I.mod.glob.keeps I.bk) hm (by rw [I.ok.blt];exact h1.keeps I.bk) ((h2 x hn).trans hv) h) hd
theorem dM{x:Str}{v:V}{u:U8}{pos:Pos}(hg:Gl X x)(hm:X.mg x=some u)(r:aF v u)(hd:(x==("__debug__":Str))=false:=by decide):PE X (.Name x pos) (tC v):=
 λ_ _ _ H _ I h=>jA I hg hm ⟨v,H,I,r,h⟩ hd
theorem ij{x:Str}{v:V}{u:U8}{pos:Pos}(hg:Gl X x)(hm:X.mg x=none)(hv:Vq x=some u)(r:aF v u)(hn:x≠"__name__":=by decide)(hd:(x==("__debug__":Str))=false:=by decide):PE X (.Name x pos) (tC v):=
 λ_ _ _ H _ I h=>kc I hg hm hv ⟨v,H,I,r,h⟩ hn hd
variable {a b:Vd} {ta tb:TE} {pos:Pos}
def PC(X:Cx)(op:CmpOp)(a b:Vd)(t:TE):Prop:=
 ∀(Wy:List (U9×Obj))(s:Va)(σ:St)(H:Hp)(Q:VK),af X Wy σ H s->t σ H Q->
  Vf (Vg X.prog X.w) X.A (eval a X.env) (λv s₁=>Vf (Vg X.prog X.w) X.A (eval b X.env) (λu s₂=>Vf (Vg X.prog X.w) X.A (Vs op v u) (EP X Wy σ Q) X.xe s₂) X.xe s₁) X.xe s
theorem F4(b:Vd){op:CmpOp}(h:op≠ .In)(h2:op≠ .NotIn):Vy op b=false:=by
 have e1:(op==CmpOp.In)=false:=by cases op <;> first | rfl | exact absurd rfl h
 have e2:(op==UR)=false:=by cases op <;> first | rfl | exact absurd rfl h2
 cases b <;> simp [Vy,e1,e2]
def tB(t:TE):TT:=λσ H Q=>t σ H λx H1=>∃c,x= .bl c/\Q c H1
theorem qg{op:CmpOp}{t:TE}(h:PC X op a b t)(h1:Vy op b=false:=by first | exact F4 _ U1 U1 | rfl):PT X (.Compare a [op] [b] pos) (tB t):=by
 intro Wy s σ H Q I hw;refine wpAny_isTrue_Compare1 (aB (h Wy s σ H _ I hw) λv s1 h1=>aB h1 λu s2 h2=>aB h2 λc s3 ⟨x,H1,I1,r1,q1⟩=>?_) h1;obtain⟨d,rfl,q⟩:=q1;cases r1;exact VA ⟨H1,I1,q⟩
theorem qh{e:Vd}{t:TE}(h:PE X e t)(he:∀whole,isTrue e X.env whole=(do let v<-whole;standAt e.pos;We [v] (truthy v)):=by intro _;rfl):PT X e (tB t):=by
 intro Wy s σ H Q I hw;refine isTrue_plain (aB (h Wy s σ H _ I hw) λv s1 ⟨x,H1,I1,r1,q1⟩=>?_) (he _);obtain⟨d,rfl,q⟩:=q1;cases r1;exact VA ⟨H1,I1,q⟩
variable {tA tB':TT} {rest:List Vd}
def uj(t u:TT):TT:=λσ H Q=>t σ H λc H1=>if c=true then u σ H1 Q else Q false H1
def uk(t u:TT):TT:=λσ H Q=>t σ H λc H1=>if c=true then Q true H1 else u σ H1 Q
def um(t:TT):TT:=λσ H Q=>t σ H λc H1=>Q (!c) H1
theorem y3(ha:PT X a tA):PW X (.BoolOp .And [a] pos) tA:=by
 intro wh Wy s σ H Q I h;refine isTrue_and (aB (ha Wy s σ H Q I h) λc s1 e=>?_);cases c with
 | true=>exact isTrue_and_nil e
 | false=>exact e
theorem y4(ha:PT X a tA):PW X (.BoolOp .Or [a] pos) tA:=by
 intro wh Wy s σ H Q I h;refine isTrue_or (aB (ha Wy s σ H Q I h) λc s1 e=>?_);cases c with
 | false=>exact isTrue_or_nil e
 | true=>exact e
theorem y6(ha:PT X a tA)(hb:PW X (.BoolOp .And (b::rest) pos) tB'):PW X (.BoolOp .And (a::b::rest) pos) (uj tA tB'):=by
 intro wh Wy s σ H Q I h;refine isTrue_and (aB (ha Wy s σ H _ I h) λc s1 ⟨H1,I1,q1⟩=>?_);cases c with
 | true=>exact hb wh Wy s1 σ H1 Q I1 q1
 | false=>exact⟨H1,I1,q1⟩
theorem y8(ha:PT X a tA)(hb:PW X (.BoolOp .Or (b::rest) pos) tB'):PW X (.BoolOp .Or (a::b::rest) pos) (uk tA tB'):=by
 intro wh Wy s σ H Q I h;refine isTrue_or (aB (ha Wy s σ H _ I h) λc s1 ⟨H1,I1,q1⟩=>?_);cases c with
 | true=>exact⟨H1,I1,q1⟩
 | false=>exact hb wh Wy s1 σ H1 Q I1 q1
theorem y9(ha:PT X a tA):PT X (.UnaryOp .Not a pos) (um tA):=by
 intro Wy s σ H Q I h;exact isTrue_not (aB (ha Wy s σ H (λc H1=>Q (!c) H1) I h) λc s1 uu8=>by obtain⟨H1,I1,q⟩:=uu8;exact⟨H1,I1,q⟩)
def uo(ta tb:TE):TE:=λσ H Q=>ta σ H λx H1=>∃c,x= .bl c/\if c=true then tb σ H1 Q else Q (.bl false) H1
def ur(ta tb:TE):TE:=λσ H Q=>ta σ H λx H1=>∃c,x= .bl c/\if c=true then Q (.bl true) H1 else tb σ H1 Q
def uu(ta:TE):TE:=λσ H Q=>ta σ H λx H1=>∃c,x= .bl c/\Q (.bl (!c)) H1
theorem qi{op}{t:TE}(h:PE X a t):PE X (.BoolOp op [a] pos) t:=λWy s σ H Q I hw=>BoolOp_one (h Wy s σ H Q I hw)
theorem uw(ha:PE X a ta)(hb:PE X (.BoolOp .And (b::rest) pos) tb):PE X (.BoolOp .And (a::b::rest) pos) (uo ta tb):=by
 intro Wy s σ H Q I h;refine BoolOp_and (aB (ha Wy s σ H _ I h) λv s1 ⟨x,H1,I1,r1,q1⟩=>?_);obtain⟨c,rfl,q1⟩:=q1;cases r1;refine VA ?_;cases c with
 | true=>exact hb Wy s1 σ H1 Q I1 q1
 | false=>exact⟨.bl false,H1,I1,rfl,q1⟩
theorem z9(ha:PE X a ta)(hb:PE X (.BoolOp .Or (b::rest) pos) tb):PE X (.BoolOp .Or (a::b::rest) pos) (ur ta tb):=by
 intro Wy s σ H Q I h;refine BoolOp_or (aB (ha Wy s σ H _ I h) λv s1 ⟨x,H1,I1,r1,q1⟩=>?_);obtain⟨c,rfl,q1⟩:=q1;cases r1;refine VA ?_;cases c with
 | false=>exact hb Wy s1 σ H1 Q I1 q1
 | true=>exact⟨.bl true,H1,I1,rfl,q1⟩
theorem F5(ha:PE X a ta):PE X (.UnaryOp .Not a pos) (uu ta):=by
 intro Wy s σ H Q I h;refine UnaryOp_ (aB (ha Wy s σ H _ I h) λv s1 ⟨x,H1,I1,r1,q1⟩=>?_);obtain⟨c,rfl,q1⟩:=q1;cases r1;exact not_of (VA ⟨.bl (!c),H1,I1,rfl,q1⟩)
def uz(t:TT)(ta tb:TE):TE:=λσ H Q=>t σ H λc H1=>if c=true then ta σ H1 Q else tb σ H1 Q
theorem Aa{c:Vd}(hc:PT X c tA)(ha:PE X a ta)(hb:PE X b tb):PE X (.IfExp c a b pos) (uz tA ta tb):=by
 intro Wy s σ H Q I h;refine wpAny_IfExp (aB (hc Wy s σ H _ I h) λd s1 ⟨H1,I1,q1⟩=>?_);cases d with
 | true=>exact ha Wy s1 σ H1 Q I1 q1
 | false=>exact hb Wy s1 σ H1 Q I1 q1
end
def aV(K:NM)(H:Hp)(a:U9)(xs:List V):Prop:=
 Rd H a (.lst xs)\/
  ∃(o:Obj)(its:Array U8)(n:Nat),K.lookup a=some o/\o.cls= .type "list"/\o.dict=none/\o.data= .seq its n/\its.size<=Ve/\aE xs its.toList
def bx(K:NM)(H:Hp)(a:U9)(xs:List V):Prop:=
 Rd H a (.tup xs)\/
  ∃(o:Obj)(its:Array U8)(n:Nat),K.lookup a=some o/\o.cls= .type "tuple"/\o.data= .seq its n/\its.size<=Ve/\aE xs its.toList
def F6:U8->Option V
 | .none=>some .non
 | .bool b=>some (.bl b)
 | .int i _=>some (.int i)
 | .str x _=>some (.str x)
 | .bytes b _=>some (.byt b)
 | .float b _=>some (.flt b)
 | .ref a=>some (.ref a)
 | .type n=>some (.ty n)
 | _=>none
theorem aF.abs{x:V}{u:U8}(r:aF x u):F6 u=some x:=by
 cases x with
 | non=>cases r;rfl
 | bl _=>cases r;rfl
 | int _=>obtain⟨t,rfl⟩:=r;rfl
 | str _=>obtain⟨t,rfl⟩:=r;rfl
 | byt _=>obtain⟨t,rfl⟩:=r;rfl
 | flt _=>obtain⟨t,rfl⟩:=r;rfl
 | ref _=>cases r;rfl
 | ty _=>cases r;rfl
theorem aF.inj{x y:V}{u:U8}(r:aF x u)(q:aF y u):x=y:=OG (r.abs.symm.trans q.abs)
theorem aE.inj:∀{xs ys:List V}{us:List U8},aE xs us->aE ys us->xs=ys
 | _,_,_,.nil,.nil=>rfl
 | _,_,_,.cons r t,.cons r' t'=>by rw [r.inj r',aE.inj t t']
section
variable {X:Cx} {Wy:List (U9×Obj)} {σ:St} {H:Hp} {s:Va} {a:U9} {xs ys:List V}
theorem aV.of{K:NM}(h:H a=some (.lst xs)):aV K H a xs:= .inl (.inl h)
theorem bx.of{K:NM}(h:H a=some (.tup xs)):bx K H a xs:= .inl (.inl h)
theorem af.list(I:af X Wy σ H s)(h:aV X.K H a xs):∃its:List U8,aE xs its/\PlainL s.heap a its.toArray/\xs.length<=Ve:=by
 rcases h with h | ⟨o,its,n,hk,hc,hd,hs,hz,r⟩
 ·obtain⟨z,its,n,r,e⟩:=h.ok I.hok;exact⟨its,r,⟨_,n,e,rfl,rfl,rfl⟩,z⟩
 ·refine⟨its.toList,r,⟨o,n,I.kIn a o hk,hc,hd,by simpa using hs⟩,?_⟩;have e:=r.length;simp only [OF] at e;omega
theorem af.tuple(I:af X Wy σ H s)(h:bx X.K H a xs):∃its:List U8,aE xs its/\IsTup s.heap a its.toArray/\xs.length<=Ve:=by
 rcases h with h | ⟨o,its,n,hk,hc,hs,hz,r⟩
 ·obtain⟨z,its,r,p⟩:=h.ok I.hok;exact⟨its,r,p,z⟩
 ·refine⟨its.toList,r,⟨o,I.kIn a o hk,hc,n,by simpa using hs⟩,?_⟩;have e:=r.length;simp only [OF] at e;omega
theorem af.list_inj(I:af X Wy σ H s)(h:aV X.K H a xs)(h':aV X.K H a ys):xs=ys:=by
 obtain⟨its,r,⟨o,n,e,_,_,d⟩,_⟩:=I.list h;obtain⟨its',r',⟨o',n',e',_,_,d'⟩,_⟩:=I.list h';rw [e] at e';cases e';rw [d] at d';injection d' with d1 _
 have:its=its':=by simpa using congrArg UG d1
 subst this;exact r.inj r'
theorem af.tuple_inj(I:af X Wy σ H s)(h:bx X.K H a xs)(h':bx X.K H a ys):xs=ys:=by
 obtain⟨its,r,⟨o,e,_,n,d⟩,_⟩:=I.tuple h;obtain⟨its',r',⟨o',e',_,n',d'⟩,_⟩:=I.tuple h';rw [e] at e';cases e';rw [d] at d';injection d' with d1 _
 have:its=its':=by simpa using congrArg UG d1
 subst this;exact r.inj r'
end
abbrev Cx.wish(X:Cx)(E:U8->Va->Prop):Cx:={X with xe:=E}
abbrev Cx.nox(X:Cx):Cx:=X.wish λ_ _=>False
theorem Cx.Ok.wish{X:Cx}(ok:X.Ok)(E:U8->Va->Prop):(X.wish E).Ok:=
 ⟨ok.mod,ok.kind,ok.glob,ok.blt,ok.above,ok.inj,ok.has,ok.cab,ok.hd,ok.frames,ok.stk,ok.exf,ok.bs,ok.bsz,ok.noex,ok.exfs,ok.funs,ok.frf⟩
theorem Cx.Ok.unwish{X:Cx}{E:U8->Va->Prop}(ok:(X.wish E).Ok):X.Ok:=
 ⟨ok.mod,ok.kind,ok.glob,ok.blt,ok.above,ok.inj,ok.has,ok.cab,ok.hd,ok.frames,ok.stk,ok.exf,ok.bs,ok.bsz,ok.noex,ok.exfs,ok.funs,ok.frf⟩
section
variable {X:Cx} {Wy:List (U9×Obj)} {σ:St} {H:Hp} {s:Va} {E:U8->Va->Prop}
theorem af.wish(I:af X Wy σ H s)(E:U8->Va->Prop):af (X.wish E) Wy σ H s:=⟨I.ok.wish E,I.os,I.bare,I.base,I.loc,I.cell,I.free,I.freeC,I.pin,I.hok,I.len⟩
theorem af.unwish(I:af (X.wish E) Wy σ H s):af X Wy σ H s:=⟨I.ok.unwish,I.os,I.bare,I.base,I.loc,I.cell,I.free,I.freeC,I.pin,I.hok,I.len⟩
theorem SP.unwish{D:ig}{f:Flow}{s':Va}(h:SP (X.wish E) Wy D f s'):SP X Wy D f s':=by
 cases f with
 | next=>obtain⟨σ',H',I,q⟩:=h;exact⟨σ',H',I.unwish,q⟩
 | brk=>obtain⟨σ',H',I,q⟩:=h;exact⟨σ',H',I.unwish,q⟩
 | cont=>obtain⟨σ',H',I,q⟩:=h;exact⟨σ',H',I.unwish,q⟩
 | ret u=>obtain⟨v,σ',H',I,r,q⟩:=h;exact⟨v,σ',H',I.unwish,r,q⟩
theorem bG.nox{st:List Vn}{t:TS}(h:bG X.nox st t):bG X st t:=λWy s σ H D I hw=>
 Vu (h Wy s σ H D (I.wish _) hw) (λ_ _ q=>q.unwish) λ_ _ z=>O7 z
end
section
variable {X:Cx} {st:Vn} {rest:List Vn} {t u:TS} {e:Vd} {te:TE} {pos:Pos}
def uA:TS:=λD σ H=>D.nx σ H
def uB(t u:TS):TS:=λD σ H=>t {D with nx:=u D} σ H
theorem ik:bG X [] uA:=λ_ _ σ H _ I h=>VP ⟨σ,H,I,h⟩
theorem cm(h1:PS X st t)(h2:bG X rest u):bG X (st::rest) (uB t u):=by
 intro Wy s σ H D I h;refine Wt (aB (h1 Wy s σ H {D with nx:=u D} I h) λf s1 q=>?_);cases f with
 | next=>
  obtain⟨σ',H',I',q⟩:=q;exact h2 Wy s1 σ' H' D I' q
 | ret v=>exact q
 | brk=>exact q
 | cont=>exact q
theorem cO(h1:PS X st t):bG X [st] t:=by
 intro Wy s σ H D I h;refine Wt (aB (h1 Wy s σ H D I h) λf s1 q=>?_);cases f with
 | next=>exact VP q
 | ret v=>exact q
 | brk=>exact q
 | cont=>exact q
theorem af.quiet{Wy:List (U9×Obj)}{σ:St}{H:Hp}{s:Va}(I:af X Wy σ H s):interactive X.env=false:=by simp [interactive,I.ok.kind]
def uC(te:TE):TS:=λD σ H=>te σ H λ_ H1=>D.nx σ H1
theorem Ab(he:PE X e te)(hs:Vw e none pos.line X.env=pure false:=by rfl):PS X (.Expr e pos) (uC te):=by
 intro Wy s σ H D I h;exact wpAny_Expr_any (aB (he Wy s σ H _ I h) λv s1 uu13=>by obtain⟨x,H1,I1,r1,q1⟩:=uu13;exact⟨σ,H1,I1,q1⟩) I.quiet hs
def uD(te:TE):TS:=λD σ H=>te σ H D.rt
theorem dN(he:PE X e te):PS X (.Return (some e) pos) (uD te):=by
 intro Wy s σ H D I h;exact wpAny_Return_some (aB (he Wy s σ H _ I h) λv s1 uu14=>by obtain⟨x,H1,I1,r1,q1⟩:=uu14;exact⟨x,σ,H1,I1,r1,q1⟩)
def uE(c:TT)(t u:TS):TS:=λD σ H=>c σ H λb H1=>if b=true then t D σ H1 else u D σ H1
theorem iq{c:Vd}{a b:List Vn}{tc:TT}(hc:PT X c tc)(ha:bG X a t)(hb:bG X b u):PS X (.If c a b pos) (uE tc t u):=by
 intro Wy s σ H D I h;refine wpAny_If (aB (hc Wy s σ H _ I h) λd s1 ⟨H1,I1,q1⟩=>?_);cases d with
 | true=>exact ha Wy s1 σ H1 D I1 q1
 | false=>exact hb Wy s1 σ H1 D I1 q1
def F7:TS:=λ_ _ _=>False
theorem F8:PS X st F7:=λ_ _ _ _ _ _ h=>h.elim
end
abbrev TG:=V->St->Hp->(St->Hp->Prop)->Prop
abbrev gS:=List V->St->Hp->(St->Hp->Prop)->Prop
def PG(X:Cx)(target:Vd)(t:TG):Prop:=
 ∀(Wy:List (U9×Obj))(s:Va)(σ:St)(H:Hp)(v:V)(u:U8)(Q:St->Hp->Prop),af X Wy σ H s->aF v u->t v σ H Q->
  Vf (Vg X.prog X.w) X.A (assign target X.env u) (λ_ s'=>∃σ' H',af X Wy σ' H' s'/\Q σ' H') X.xe s
def qj(X:Cx)(ts:List Vd)(t:gS):Prop:=
 ∀(Wy:List (U9×Obj))(s:Va)(σ:St)(H:Hp)(vs:List V)(us:List U8)(Q:St->Hp->Prop),af X Wy σ H s->aE vs us->t vs σ H Q->
  Vf (Vg X.prog X.w) X.A (assignInOrder ((V3 ts X.env).map (·.2)) us) (λ_ s'=>∃σ' H',af X Wy σ' H' s'/\Q σ' H') X.xe s
abbrev uF:=V->V->V->Hp->(Hp->Prop)->Prop
def Ac(X:Cx)(t:uF):Prop:=
 ∀(Wy:List (U9×Obj))(s:Va)(σ:St)(H:Hp)(o i v:V)(ov iv u:U8)(Q:Hp->Prop),af X Wy σ H s->aF o ov->aF i iv->aF v u->t o i v H Q->
  Vf (Vg X.prog X.w) X.A (setItem ov iv u) (λ_ s'=>∃H',af X Wy σ H' s'/\Q H') X.xe s
section
variable {X:Cx} {pos:Pos}
def gf(i:Nat):TG:=λv σ H Q=>Q (σ.set i (some v)) H
theorem aS{i:Nat}{x:Str}(hN:X.N.Nodup)(hi:X.N[i]?=some x)(hx:gc X.env.scope x)(hf:X.fn x=true\/X.env.scope.names.lookup x=some .local:=by first | exact .inl rfl | exact .inr rfl | assumption):PG X (.Name x pos) (gf i):=by
 intro Wy s σ H v u Q I r h;exact wpAny_assign_Name (j9 I hN hi hx r (λs' I'=>⟨_,H,I',h⟩) hf)
def mf:gS:=λvs σ H Q=>vs=[]/\Q σ H
def ke(t:TG)(u:gS):gS:=λvs σ H Q=>∃v r,vs=v::r/\t v σ H λσ' H'=>u r σ' H' Q
theorem iu:qj X [] mf:=by
 intro Wy s σ H vs us Q I r h;obtain⟨e,h⟩:=h;subst e;cases r;exact assignInOrder_nil ⟨σ,H,I,h⟩
theorem dA{e:Vd}{es:List Vd}{t:TG}{u:gS}(h1:PG X e t)(h2:qj X es u)
 (hs:(V3 (e::es) X.env).map (·.2)=assign e X.env::(V3 es X.env).map (·.2):=by rfl):qj X (e::es) (ke t u):=by
 intro Wy s σ H vs us Q I r h;obtain⟨v,vr,e1,h⟩:=h;subst e1;cases r with
 | cons r rr=>
  rw [hs];refine Wn (aB (h1 Wy s σ H _ _ _ I r h) λ_ s1 ⟨σ1,H1,I1,q1⟩=>?_);exact h2 Wy s1 σ1 H1 _ _ Q I1 rr q1
def mh(K:NM)(n:Nat)(t:gS):TG:=λv σ H Q=>∃a xs,v= .ref a/\bx K H a xs/\xs.length=n/\t xs σ H Q
theorem iw{es:List Vd}{k:Nat}{t:gS}{n:Nat}(hc:X.calm=true)(h:qj X es t)
 (hn:(V3 es X.env).length=n:=by rfl)(hst:(V3 es X.env).findIdx? (·.1)=none:=by rfl):PG X (.Tuple es k pos) (mh X.K n t):=by
 intro Wy s σ H v u Q I r hw;obtain⟨a,xs,e1,hq,hl,hw⟩:=hw;subst e1;cases r;obtain⟨its,rv,ht,hz⟩:=I.tuple hq;refine assign_Tuple_tuple (I.ok.hd hc) ht (by simp [hn,<-hl,rv.length]) hst λh' hx=>?_;have I1:af X Wy σ H {s with heap:=h'}:=I.kept (t':=s.toks) λb o e=>hx b o (Oj (N5 e)) e;exact h Wy _ σ H xs _ Q I1 (by simpa using rv) hw
def uG(to ti:TE)(t:uF):TG:=λv σ H Q=>to σ H λo H1=>ti σ H1 λi H2=>t o i v H2 λH3=>Q σ H3
theorem uH{o i:Vd}{to ti:TE}{t:uF}(ho:PE X o to)(hi:PE X i ti)(hs:Ac X t)
 (ha:∀v,assign (.Subscript o i pos) X.env v=(do
   let ov<-We [v] (eval o X.env)
   let iv<-We [v,ov] (eval i X.env)
   standAt pos
   We [v,ov,iv] (setItem ov iv v)
   release [v,ov,iv] []):=by intro _;rfl):PG X (.Subscript o i pos) (uG to ti t):=by
 intro Wy s σ H v u Q I r h;rw [ha];refine Vb (Vz (aB (ho Wy s σ H _ I h) λov s1 ⟨x,H1,I1,r1,q1⟩=>?_));refine Vb (Vz (aB (hi Wy s1 σ H1 _ I1 q1) λiv s2 ⟨y,H2,I2,r2,q2⟩=>?_));refine Vb (Wo (Vb (Vz (aB (hs Wy s2 σ H2 x y v ov iv u _ I2 r1 r2 r q2) λ_ s3 ⟨H3,I3,q3⟩=>?_))));exact wpAny_release ⟨σ,H3,I3,q3⟩
def kh(te:TE)(g:TG):TS:=λD σ H=>te σ H λx H1=>g x σ H1 D.nx
theorem qm{tg e:Vd}{te:TE}{g:TG}(he:PE X e te)(hg:PG X tg g)(hs:Wa [tg] e pos.line X.env=pure false:=by rfl)(hw:Wb [tg] e X.env=pure none:=by rfl)
 (h1:(V3 [tg] X.env).map (·.2)=[assign tg X.env]:=by rfl):PS X (.Assign [tg] e pos) (kh te g):=by
 intro Wy s σ H D I h;refine wpAny_Assign_stores (aB (he Wy s σ H _ I h) λv s1 ⟨x,H1,I1,r1,q1⟩=>?_) hs hw;rw [h1];exact aB (hg Wy s1 σ H1 x v _ I1 r1 q1) λ_ s2 q=>q
theorem c7{i:Nat}{x:Str}{e:Vd}{te:TE}{pos':Pos}(hN:X.N.Nodup)(hi:X.N[i]?=some x)(hx:gc X.env.scope x)(he:PE X e te)(hs:Vw e (some (.Name x pos')) pos.line X.env=pure false:=by rfl)(hf:X.fn x=true\/X.env.scope.names.lookup x=some .local:=by first | exact .inl rfl | exact .inr rfl | assumption):
 PS X (.Assign [.Name x pos'] e pos) (kh te (gf i)):=by
 intro Wy s σ H D I h;refine wpAny_Assign_Name (aB (he Wy s σ H _ I h) λv s1 ⟨y,H1,I1,r1,q1⟩=>?_) hs;exact j9 I1 hN hi hx r1 (λs2 I2=>⟨_,H1,I2,q1⟩) hf
def uI(i j:Nat)(ta:TA):TS:=λD σ H=>ta σ H λvs H1=>∃v w,vs=[v,w]/\D.nx ((σ.set i (some v)).set j (some w)) H1
theorem Ad{i j:Nat}{x y:Str}{a b:Vd}{ta:TA}{px py pt:Pos}{kt k2 pt2}(hc:X.calm=true)(hN:X.N.Nodup)(hi:X.N[i]?=some x)(hj:X.N[j]?=some y)(hij:i≠j)
 (hx:X.env.scope.names.lookup x=some .local)(hy:X.env.scope.names.lookup y=some .local)(ha:PA X [a,b] ta)
 (hw:Wb [.Tuple [.Name x px,.Name y py] kt pt] (.Tuple [a,b] k2 pt2) X.env=pure (some [x,y]))
 (hs:Wa [.Tuple [.Name x px,.Name y py] kt pt] (.Tuple [a,b] k2 pt2) pos.line X.env=pure false:=by rfl):
 PS X (.Assign [.Tuple [.Name x px,.Name y py] kt pt] (.Tuple [a,b] k2 pt2) pos) (uI i j ta):=by
 intro Wy s σ H D I h;rw [exec_Assign_arm];refine Vb (Wo ?_);rw [hs];refine Vb (Vi ?_);rw [U3 U1];refine Vb (Tuple_ (aB (ha _ Wy s σ H _ I h) λus s1 ⟨vs,H1,I1,r1,q1⟩=>?_));obtain⟨v,w,e1,q1⟩:=q1;subst e1;obtain⟨u1,u2,rfl,rv,rw'⟩:∃u1 u2,us=[u1,u2]/\aF v u1/\aF w u2:=by
  cases r1 with
  | cons p q=>
   cases q with
   | cons p' q'=>
    cases q';exact⟨_,_,rfl,p,p'⟩
 refine VB ?_ (by show 2<=Ve;decide);have I2:af X Wy σ H1 {s1 with heap:=s1.heap.push {cls:= .type "tuple",data:= .seq [u1,u2].toArray}}:=I1.kept (t':=s1.toks) λb o e=>NT _ e;rw [hw];refine Vb (Vi ?_);show Vf (Vg X.prog X.w) X.A (do rule "assign.swapped-stores";let items<-unpackItems (.ref s1.heap.objs.size) 2 none;assignInOrder [λv=>bindName X.env y v,λv=>bindName X.env x v] items.reverse;pure UZ) _ _ _;refine Vb (wpAny_rule (Vb (unpackItems_tuple (items:=#[u1,u2]) (I.ok.hd hc) (SK s1.heap _) λh' hx'=>?_)));have I3:=I2.kept (h':=h') (t':=s1.toks) λb o e=>hx' b o (Oj (N5 e)) e;show Vf _ _ (assignInOrder [λv=>bindName X.env y v,λv=>bindName X.env x v] [u2,u1] >>=λ_=>pure UZ) _ _ _;refine Vb (Wn (wpAny_bindName (j9 I3 hN hj (.inl hy) rw' (λs2 I4=>?_) (.inr hy))));refine Wn (wpAny_bindName (j9 I4 hN hi (.inl hx) rv (λs3 I5=>assignInOrder_nil (Vi ?_)) (.inr hx)));rw [List.set_comm _ _ (Ne.symm hij)] at I5;exact⟨_,H1,I5,q1⟩
def F9(c:TT)(tb:TS):TS:=λD σ H=>∃W:Nat->St->Hp->Prop,(∃m,W m σ H)/\∀m σ H,W m σ H->
 c σ H λb H1=>if b=true then ∃N:St->Hp->Prop,(∀σ' H',N σ' H'->∃m',m' < m/\W m' σ' H')/\tb {D with nx:=N,ct:=N,bk:=D.nx} σ H1 else D.nx σ H1
theorem Ae{c:Vd}{body:List Vn}{tc:TT}{tb:TS}(hp:VQ (Vg X.prog X.w) X.A X.env X.xe)(hc:PT X c tc)(hb:bG X body tb):PS X (.While c body [] pos) (F9 tc tb):=by
 intro Wy s σ H D I h;obtain⟨W,⟨m0,w0⟩,turn⟩:=h;refine wpAny_While (codeAny_whileLoop (λn s'=>∃σ' H',af X Wy σ' H' s'/\W n σ' H') ?_ m0 ⟨σ,H,I,w0⟩);rintro n s1 ⟨σ1,H1,I1,w1⟩;refine VL hp (aB (hc Wy s1 σ1 H1 _ I1 (turn n σ1 H1 w1)) λb s2 ⟨H2,I2,q2⟩=>?_);cases b with
 | true=>
  obtain⟨N,hN,q2⟩:=q2;rw [U4 rfl];refine VL hp (aB (hb Wy s2 σ1 H2 _ I2 q2) λf s3 q3=>?_);cases f with
  | next=>
   obtain⟨σ3,H3,I3,n3⟩:=q3;obtain⟨m',hm,w3⟩:=hN σ3 H3 n3;exact⟨m',hm,σ3,H3,I3,w3⟩
  | cont=>
   obtain⟨σ3,H3,I3,n3⟩:=q3;obtain⟨m',hm,w3⟩:=hN σ3 H3 n3;exact⟨m',hm,σ3,H3,I3,w3⟩
  | brk=>exact q3
  | ret v=>exact q3
 | false=>
  rw [U3 NW];exact VP ⟨σ1,H2,I2,q2⟩
end
structure It where
 go:Nat->Hp->Prop
 yld:Nat->Hp->V->Hp->Prop
 stop:Nat->Hp->Prop
def gh(X:Cx)(Wy:List (U9×Obj))(H:Hp)(b:U9):Prop:=
 H b=none/\b≠X.env.locals/\b ∉ X.fs/\(b∈X.ex\/X.s₀.heap.objs.size<=b)/\(∀x c,X.env.cells.lookup x=some c->c≠b)/\∀p∈X.pn++Wy,p.1≠b
theorem af.fpOk{X:Cx}{Wy:List (U9×Obj)}{σ:St}{H H':Hp}{s:Va}{b:U9}(I:af X Wy σ H s)(hb:s.heap.objs.size<=b)(hn:H' b=none):gh X Wy H' b:=by
 refine⟨hn,RN (Ol I.lt hb),I.nofs hb,.inr (Ot I.sz hb),λx c e z=>?_,λp hp z=>?_⟩
 ·obtain⟨v,q⟩:=I.cell x c e;exact absurd (Ol q.lt (by rw [z];exact hb)) (Pn _)
 ·exact absurd (Ol (N5 (I.pin p hp).1) (by rw [z];exact hb)) (Pn _)
structure mi (P:Vj) (w:Vm) (K:NM) (tg:Vd) (J:It) (fp:List U9) (it:U9) (tn:Nat->Vl->Prop):Prop where
 mem:it∈fp
 obj:∀i h,tn i h->∀b∈fp,∃o,h.get? b=some o/\∀v,o.data≠ .cell v
 keep:∀i h h',tn i h->(∀b∈fp,∀o,h.get? b=some o->h'.get? b=some o)->tn i h'
 item:∀(X:Cx),X.prog=P->X.w=w->X.K=K->X.calm=true->∀(i:Nat)(Wy:List (U9×Obj))(s:Va)(σ:St)(H:Hp)(E:U8->Va->Prop),af X Wy σ H s->(∀b∈fp,gh X Wy H b)->tn i s.heap->J.go i H->
  Vf (Vg P w) X.A (pyNext (.ref it)) (λr s1=>∃u,r=some u/\
   Vf (Vg P w) X.A (Wj tg (.ref it) u) (λ_ s2=>∃x H',af X Wy σ H' s2/\aF x u/\J.yld i H x H'/\tn (i+1) s2.heap/\∀b∈fp,H' b=none) E s1) E s
 done:∀(X:Cx),X.prog=P->X.w=w->X.K=K->X.calm=true->∀(i:Nat)(Wy:List (U9×Obj))(s:Va)(σ:St)(H:Hp)(E:U8->Va->Prop),af X Wy σ H s->(∀b∈fp,gh X Wy H b)->tn i s.heap->J.stop i H->
  Vf (Vg P w) X.A (pyNext (.ref it)) (λr s1=>r=none/\af X Wy σ H s1) E s
 self:∀(A:Vo)(i:Nat)(s:Va)(Q:U8->Va->Prop)(E:U8->Va->Prop),tn i s.heap->Q (.ref it) s->Vf (Vg P w) A (pyIter (.ref it)) Q E s
abbrev TI:=St->Hp->(It->Hp->Prop)->Prop
def Af(X:Cx)(Wy:List (U9×Obj))(σ:St)(tg:Vd)(R:It->Hp->Prop)(itv:U8)(s2:Va):Prop:=
 ∃(it:U9)(fp:List U9)(tn:Nat->Vl->Prop)(J:It)(H':Hp),itv= .ref it/\af X Wy σ H' s2/\mi X.prog X.w X.K tg J fp it tn/\tn 0 s2.heap/\(∀b∈fp,gh X Wy H' b)/\R J H'
def PI(X:Cx)(tg iter:Vd)(wi:TI):Prop:=
 ∀(Wy:List (U9×Obj))(s:Va)(σ:St)(H:Hp)(R:It->Hp->Prop),af X Wy σ H s->wi σ H R->
  Vf (Vg X.prog X.w) X.A (eval iter X.env) (λv s1=>Vf (Vg X.prog X.w) X.A (pyIter v) (Af X Wy σ tg R) X.xe s1) X.xe s
theorem qo{M:Model}{A:Vo}{E:U8->Va->Prop}{s:Va}{tg:Vd}{it:U9}{u:U8}{o:Obj}{n:String}{vs:Array U8}{Q:Unit->Va->Prop}(ho:s.heap.get? it=some o)(hc:o.cls= .type n)(hd:o.data= .fields vs)
 (hn:["enumerate","zip","dict_itemiterator","dict_reverseitemiterator","odict_iterator","itertools.zip_longest","itertools.pairwise"].contains n=false)(hQ:Q () s):Vf M A (Wj tg (.ref it) u) Q E s:=by
 unfold Wj;cases tg <;> first
  | exact Vi hQ
  | (cases u <;> first
      | exact Vi hQ
      | (refine Vb (wpAny_load ho ?_)
         rw [hc,hd];show Vf M A (if (["enumerate","zip","dict_itemiterator","dict_reverseitemiterator","odict_iterator","itertools.zip_longest","itertools.pairwise"].contains n && vs[0]?==some (rawInt _))=true then _ else _) Q E s;rw [U3 (by intro h;rw [hn,RT] at h;cases h)];exact Vi hQ))
def ki(K:NM)(a:U9):It:=
 ⟨λi H=>∃xs x,aV K H a xs/\xs[i]?=some x,λi H x H'=>H'=H/\∀xs,aV K H a xs->xs[i]?=some x,λi H=>∃xs,aV K H a xs/\xs.length<=i⟩
def mj(K:NM)(a:U9):It:=
 ⟨λi H=>∃xs x,bx K H a xs/\xs[i]?=some x,λi H x H'=>H'=H/\∀xs,bx K H a xs->xs[i]?=some x,λi H=>∃xs,bx K H a xs/\xs.length<=i⟩
def gT(lo:Int)(n:Nat):It:=⟨λi _=>i < n,λi H x H'=>H'=H/\x= .int (lo+i),λi _=>n<=i⟩
theorem Ga{P:Vj}{w:Vm}{K:NM}{tg:Vd}(a it:U9):mi P w K tg (ki K a) [it] it (λi h=>h.IsListIter it a i) where
 mem:=U6
 obj:=λi h st b hb=>by
  have e:b=it:=by simpa using hb
  subst e;obtain⟨o,e,c,d⟩:=st;exact⟨o,e,λv z=>by rw [d] at z;cases z⟩
 keep:=λi h h' st k=>st.at λo e=>k it U6 o e
 item:=by
  intro X hP hw hK hc i Wy s σ H E I hf st hg;subst hP hw hK;obtain⟨xs,x,hq,hx⟩:=hg;obtain⟨its,rv,p,hz⟩:=I.list hq;obtain⟨u,hu,ru⟩:=rv.get hx;obtain⟨f0,f1,f2,f3,f4,f5⟩:=hf it U6;refine wpAny_pyNext_list_item st p.isList (x:=u) (by simpa using hu) λh' st' sb=>?_;have I1:af X Wy σ H {s with heap:=h'}:=I.turned (t':=s.toks) (λb o hb e=>(sb.2 b hb).trans e) f0 f1 f3 f4 f5;obtain⟨o,e,c,d⟩:=id st';exact⟨u,rfl,qo (s:={s with heap:=h'}) e c d U1 ⟨x,H,I1,ru,⟨rfl,λys hy=>by rw [I.list_inj hy hq];exact hx⟩,st',λb hb=>(hf b hb).1⟩⟩
 done:=by
  intro X hP hw hK hc i Wy s σ H E I hf st hg;subst hP hw hK;obtain⟨xs,hq,hx⟩:=hg;obtain⟨its,rv,p,hz⟩:=I.list hq;obtain⟨f0,f1,f2,f3,f4,f5⟩:=hf it U6;have hl:=rv.length;exact wpAny_pyNext_list_end (I.ok.hd hc) st p.isList (by simp;omega) λh' eb=>⟨rfl,I.turned (t':=s.toks) (λb o hb e=>eb b o hb e) f0 f1 f3 f4 f5⟩
 self:=λ_ _ _ _ _ st h=>wpAny_pyIter_listiter st h
theorem Gb{P:Vj}{w:Vm}{K:NM}{tg:Vd}(a it:U9):mi P w K tg (mj K a) [it] it (λi h=>h.IsTupleIter it a i) where
 mem:=U6
 obj:=λi h st b hb=>by
  have e:b=it:=by simpa using hb
  subst e;obtain⟨o,e,c,d⟩:=st;exact⟨o,e,λv z=>by rw [d] at z;cases z⟩
 keep:=λi h h' st k=>st.at λo e=>k it U6 o e
 item:=by
  intro X hP hw hK hc i Wy s σ H E I hf st hg;subst hP hw hK;obtain⟨xs,x,hq,hx⟩:=hg;obtain⟨its,rv,p,hz⟩:=I.tuple hq;obtain⟨u,hu,ru⟩:=rv.get hx;obtain⟨f0,f1,f2,f3,f4,f5⟩:=hf it U6;refine wpAny_pyNext_tuple_item st (show s.heap.IsTuple a its.toArray from p) (x:=u) (by simpa using hu) λh' st' sb=>?_;have I1:af X Wy σ H {s with heap:=h'}:=I.turned (t':=s.toks) (λb o hb e=>(sb.2 b hb).trans e) f0 f1 f3 f4 f5;obtain⟨o,e,c,d⟩:=id st';exact⟨u,rfl,qo (s:={s with heap:=h'}) e c d U1 ⟨x,H,I1,ru,⟨rfl,λys hy=>by rw [I.tuple_inj hy hq];exact hx⟩,st',λb hb=>(hf b hb).1⟩⟩
 done:=by
  intro X hP hw hK hc i Wy s σ H E I hf st hg;subst hP hw hK;obtain⟨xs,hq,hx⟩:=hg;obtain⟨its,rv,p,hz⟩:=I.tuple hq;obtain⟨f0,f1,f2,f3,f4,f5⟩:=hf it U6;have hl:=rv.length;exact wpAny_pyNext_tuple_end (I.ok.hd hc) st (show s.heap.IsTuple a its.toArray from p) (by simp;omega) λh' eb=>⟨rfl,I.turned (t':=s.toks) (λb o hb e=>eb b o hb e) f0 f1 f3 f4 f5⟩
 self:=λ_ _ _ _ _ st h=>wpAny_pyIter_tupleiter st h
theorem Gd{P:Vj}{w:Vm}{K:NM}{tg:Vd}(it:U9)(lo:Int)(n:Nat):mi P w K tg (gT lo n) [it] it (λi h=>IsRangeIter h it (lo+(i:Nat)*1) ((n:Int) - (i:Nat)) 1) where
 mem:=U6
 obj:=λi h st b hb=>by
  have e:b=it:=by simpa using hb
  subst e;exact⟨_,st,λv z=>by
   have z':Data.fields _=Data.cell v:=z;cases z'⟩
 keep:=λi h h' st k=>k it U6 _ st
 item:=by
  intro X hP hw hK hc i Wy s σ H E I hf st hg;subst hP hw hK;obtain⟨f0,f1,f2,f3,f4,f5⟩:=hf it U6;have W:=Walks.range (prog:=X.prog) (w:=X.w) (I.ok.hd hc) it lo 1 n;refine W.item i s _ _ hg st λv h' tk hv st' kk=>?_;obtain⟨t,rfl⟩:=hv;have I1:af X Wy σ H {s with heap:=h',toks:=tk}:=I.turned (λb o hb e=>kk b o (by simpa using hb) e) f0 f1 f3 f4 f5;refine⟨_,rfl,qo (s:={s with heap:=h',toks:=tk}) (n:="range_iterator") st' rfl rfl U1 ⟨.int (lo+i),H,I1,⟨t,?_⟩,⟨rfl,rfl⟩,st',λb hb=>(hf b hb).1⟩⟩;rw [US]
 done:=by
  intro X hP hw hK hc i Wy s σ H E I hf st hg;subst hP hw hK;obtain⟨f0,f1,f2,f3,f4,f5⟩:=hf it U6;exact wpAny_pyNext_range_end (I.ok.hd hc) st (by have:n<=i:=hg;omega) λh' eb=>⟨rfl,I.turned (t':=s.toks) (λb o hb e=>eb b o hb e) f0 f1 f3 f4 f5⟩
 self:=λ_ _ _ _ _ st h=>wpAny_pyIter_rangeiter st h
section
variable {X:Cx} {tg:Vd}
def uJ(K:NM)(tl:TE):TI:=λσ H R=>tl σ H λx H1=>∃a,x= .ref a/\(∃xs,aV K H1 a xs)/\R (ki K a) H1
def uK(K:NM)(tl:TE):TI:=λσ H R=>tl σ H λx H1=>∃a,x= .ref a/\(∃xs,bx K H1 a xs)/\R (mj K a) H1
theorem mm{l:Vd}{tl:TE}(hl:PE X l tl):PI X tg l (uJ X.K tl):=by
 intro Wy s σ H R I h;refine aB (hl Wy s σ H _ I h) λv s1 ⟨x,H1,I1,r1,q1⟩=>?_;obtain⟨a,e,⟨xs,hq⟩,q⟩:=q1;subst e;cases r1;obtain⟨its,rv,p,hz⟩:=I1.list hq;refine Wr p.isList ?_;refine⟨s1.heap.objs.size,[s1.heap.objs.size],_,_,H1,rfl,I1.kept (t':=s1.toks) λb o e=>NT _ e,Ga a _,⟨_,Ou _ rfl,rfl,rfl⟩,λb hb=>?_,q⟩;have e:b=s1.heap.objs.size:=by simpa using hb
 subst e;exact I1.fpOk (NV _) (I1.hok.fresh (NV _))
theorem uL{l:Vd}{tl:TE}(hl:PE X l tl):PI X tg l (uK X.K tl):=by
 intro Wy s σ H R I h;refine aB (hl Wy s σ H _ I h) λv s1 ⟨x,H1,I1,r1,q1⟩=>?_;obtain⟨a,e,⟨xs,hq⟩,q⟩:=q1;subst e;cases r1;obtain⟨its,rv,p,hz⟩:=I1.tuple hq;refine wpAny_pyIter_tuple (show s1.heap.IsTuple a its.toArray from p) ?_;refine⟨s1.heap.objs.size,[s1.heap.objs.size],_,_,H1,rfl,I1.kept (t':=s1.toks) λb o e=>NT _ e,Gb a _,⟨_,Ou _ rfl,rfl,rfl⟩,λb hb=>?_,q⟩;have e:b=s1.heap.objs.size:=by simpa using hb
 subst e;exact I1.fpOk (NV _) (I1.hok.fresh (NV _))
theorem Ag{Wy:List (U9×Obj)}{σ:St}{H:Hp}{s:Va}{R:It->Hp->Prop}{E:U8->Va->Prop}{lo hi:Int}{t u v:Tok}{tk:Nat}(I:af X Wy σ H s)(h1:-(2 ^ 62)<=lo)(h2:lo < 2 ^ 62)(h3:-(2 ^ 62)<=hi)(h4:hi < 2 ^ 62)
 (q:R (gT lo (hi - lo).toNat) H):Vf (Vg X.prog X.w) X.A (pyIter (.ref s.heap.objs.size)) (Af X Wy σ tg R) E {s with heap:=s.heap.push {cls:= .type "range",data:= .fields #[.int lo t,.int hi u,.int 1 v]},toks:=tk}:=by
 refine wpAny_pyIter_range (IsRange.new ..) (small_one h1 h2 h3 h4) ?_;have I1:af X Wy σ H {s with heap:=s.heap.push {cls:= .type "range",data:= .fields #[.int lo t,.int hi u,.int 1 v]},toks:=tk}:=I.kept λb o e=>NT _ e;refine⟨(s.heap.push {cls:= .type "range",data:= .fields #[.int lo t,.int hi u,.int 1 v]}).objs.size,[(s.heap.push {cls:= .type "range",data:= .fields #[.int lo t,.int hi u,.int 1 v]}).objs.size],_,_,H,rfl,
  I1.kept (t':=tk) λb o e=>NT _ e,Gd _ lo (hi - lo).toNat,?_,λb hb=>?_,q⟩
 ·have e1:lo+((0:Nat):Int)*1=lo:=U6
  have e2:(((hi - lo).toNat:Nat):Int) - ((0:Nat):Int)=Builtin.Range.rangeSize lo hi 1:=by rw [rangeSize_one];split <;> omega
  show IsRangeIter _ _ (lo+((0:Nat):Int)*1) ((((hi - lo).toNat:Nat):Int) - ((0:Nat):Int)) 1;rw [e1,e2];exact Ou _ rfl
 ·have e:b=(s.heap.push {cls:= .type "range",data:= .fields #[.int lo t,.int hi u,.int 1 v]}).objs.size:=by simpa using hb
  subst e;exact I1.fpOk (NV _) (I1.hok.fresh (NV _))
def uM(ta:TA):TI:=λσ H R=>ta σ H λvs H1=>∃j:Int,vs=[.int j]/\-(2 ^ 62)<=j/\j < 2 ^ 62/\R (gT 0 j.toNat) H1
def uN(ta:TA):TI:=λσ H R=>ta σ H λvs H1=>∃i j:Int,vs=[.int i,.int j]/\(-(2 ^ 62)<=i/\i < 2 ^ 62/\-(2 ^ 62)<=j/\j < 2 ^ 62)/\R (gT i (j - i).toNat) H1
theorem Ah{a:Vd}{ta:TA}{p pos:Pos}(hg:Gl X "range")(hm:X.mg "range"=none)(ha:PA X [a] ta)(hs:Vc [a] X.env=[(false,eval a X.env)]:=by rfl):PI X tg (.Call (.Name "range" p) [a] [] pos) (uM ta):=by
 intro Wy s σ H R I h;refine Call_ (kc I hg hm boot_range (QR (aB (ha pos Wy s σ H _ I h) λus s1 ⟨vs,H1,I1,r1,q1⟩=>?_) hs rfl));obtain⟨j,e,q1,q2,q⟩:=q1;subst e;cases r1 with
 | cons r rr=>
  cases rr;obtain⟨t,rfl⟩:=r;exact call_range_1 (Ag I1 U2 U2 q1 q2 (by simpa using q))
theorem uO{a b:Vd}{ta:TA}{p pos:Pos}(hg:Gl X "range")(hm:X.mg "range"=none)(ha:PA X [a,b] ta)(hs:Vc [a,b] X.env=[(false,eval a X.env),(false,eval b X.env)]:=by rfl)(hs2:Vc [b] X.env=[(false,eval b X.env)]:=by rfl):
 PI X tg (.Call (.Name "range" p) [a,b] [] pos) (uN ta):=by
 intro Wy s σ H R I h;refine Call_ (kc I hg hm boot_range (QR (aB (ha pos Wy s σ H _ I h) λus s1 ⟨vs,H1,I1,r1,q1⟩=>?_) (by rw [hs,hs2]) (by rw [hs2];rfl)));obtain⟨i,j,e,⟨q1,q2,q3,q4⟩,q⟩:=q1;subst e;cases r1 with
 | cons r rr=>
  cases rr with
  | cons r' rr=>
   cases rr;obtain⟨t,rfl⟩:=r;obtain⟨t',rfl⟩:=r';exact call_range_2 (Ag I1 q1 q2 q3 q4 q)
def mn(wi:TI)(g:TG)(tb:TS):TS:=λD σ H=>wi σ H λJ H1=>∃W:Nat->Nat->St->Hp->Prop,(∃m,W 0 m σ H1)/\∀i m σ H,W i m σ H->
 (J.stop i H/\D.nx σ H)\/(J.go i H/\∃N:St->Hp->Prop,(∀σ' H',N σ' H'->∃m',m' < m/\W (i+1) m' σ' H')/\∀x H',J.yld i H x H'->g x σ H' λσ2 H2=>tb {D with nx:=N,ct:=N,bk:=D.nx} σ2 H2)
def mq(fp:List U9)(h:Vl):List (U9×Obj):=fp.filterMap λb=>(h.get? b).map λo=>(b,o)
theorem qp{fp:List U9}{h:Vl}{b:U9}{o:Obj}(hb:b∈fp)(e:h.get? b=some o):(b,o)∈mq fp h:=P7.mpr ⟨b,hb,by rw [e];rfl⟩
theorem Ge{fp:List U9}{h:Vl}{p:U9×Obj}(hp:p∈mq fp h):p.1∈fp/\h.get? p.1=some p.2:=by
 obtain⟨b,hb,e⟩:=P7.mp hp;cases q:h.get? b with
 | none=>rw [q] at e;cases e
 | some o=>
  rw [q] at e;have e':(b,o)=p:=OG e;subst e';exact⟨hb,q⟩
theorem af.pinned{Wy:List (U9×Obj)}{σ:St}{H:Hp}{s:Va}{fp:List U9}(I:af X Wy σ H s)(hf:∀b∈fp,gh X Wy H b)(ho:∀b∈fp,∃o,s.heap.get? b=some o/\∀v,o.data≠ .cell v):af X (Wy++mq fp s.heap) σ H s:=
 I.pins_of λp hp=>(Oo.mp hp).elim (λz=>I.pin p (OH _ z)) λz=>by
  obtain⟨hb,e⟩:=Ge z;obtain⟨f0,f1,f2,_⟩:=hf p.1 hb;obtain⟨o,e',d⟩:=ho p.1 hb;rw [e] at e';cases e';exact⟨e,f0,f1,f2,d⟩
theorem af.unpinned{Wy pl:List (U9×Obj)}{σ:St}{H:Hp}{s:Va}(I:af X (Wy++pl) σ H s):af X Wy σ H s:=I.pins_of λp hp=>I.pin p (OH _ (QS _ hp))
theorem jB{iter:Vd}{body:List Vn}{wi:TI}{g:TG}{tb:TS}{pos:Pos}(hp:VQ (Vg X.prog X.w) X.A X.env X.xe)(hc:X.calm=true)(hi:PI X tg iter wi)(hg:PG X tg g)(hb:bG X body tb)
 (hs:∀x,Vp iter X.env x=pure x:=by intro _;rfl):PS X (.For tg iter body [] pos) (mn wi g tb):=by
 intro Wy s σ H D I h;refine wpAny_For (aB (hi Wy s σ H _ I h) λv s1 h1=>aB h1 λitv s2 h2=>?_) hs;obtain⟨it,fp,tn,J,H2,e,I2,T,st2,f2,W,⟨m0,w0⟩,turn⟩:=h2;subst e;have stat:∀{H':Hp},(∀b∈fp,H' b=none)->∀b∈fp,gh X Wy H' b:=λhn b hb=>⟨hn b hb,(f2 b hb).2⟩;refine codeAny_forLoop_any (λn s'=>∃i σ' H',af X Wy σ' H' s'/\tn i s'.heap/\(∀b∈fp,H' b=none)/\W i n σ' H') ?_ m0 ⟨0,σ,H2,I2,st2,λb hb=>(f2 b hb).1,w0⟩;rintro n s3 ⟨i,σ3,H3,I3,st3,fr3,w3⟩;rcases turn i n σ3 H3 w3 with⟨stop,qn⟩ | ⟨go,N,hN,step⟩
 ·refine VL hp (aB (T.done X rfl rfl rfl hc i Wy s3 σ3 H3 X.xe I3 (stat fr3) st3 stop) λr s4 ⟨hr,I4⟩=>?_);subst hr;exact VP ⟨σ3,H3,I4,qn⟩
 ·refine VL hp (aB (T.item X rfl rfl rfl hc i Wy s3 σ3 H3 X.xe I3 (stat fr3) st3 go) λr s4 ⟨u,hr,h4⟩=>?_);subst hr;refine VL hp (aB h4 λ_ s5 ⟨x,H5,I5,r5,y5,st5,fr5⟩=>?_);have I5':=I5.pinned (stat fr5) (T.obj _ _ st5);refine VL hp (aB (hg _ s5 σ3 H5 x u _ I5' r5 (step x H5 y5)) λ_ s6 ⟨σ6,H6,I6,q6⟩=>?_);refine VL hp (aB (hb _ s6 σ6 H6 _ I6 q6) λf s7 q7=>?_);have again:∀{σ7:St}{H7:Hp},af X (Wy++mq fp s5.heap) σ7 H7 s7->N σ7 H7->∃m,m < n/\∃i σ' H',af X Wy σ' H' s7/\tn i s7.heap/\(∀b∈fp,H' b=none)/\W i m σ' H':=λ{σ7 H7} I7 n7=>by
   obtain⟨m',hm,w7⟩:=hN σ7 H7 n7;refine⟨m',hm,i+1,σ7,H7,I7.unpinned,T.keep _ _ _ st5 λb hb o e=>(I7.pin (b,o) (OH _ (OH _ (qp hb e)))).1,λb hb=>?_,w7⟩;obtain⟨o,e,d⟩:=T.obj _ _ st5 b hb;exact(I7.pin (b,o) (OH _ (OH _ (qp hb e)))).2.1
  cases f with
  | next=>obtain⟨σ7,H7,I7,n7⟩:=q7;exact again I7 n7
  | cont=>obtain⟨σ7,H7,I7,n7⟩:=q7;exact again I7 n7
  | brk=>obtain⟨σ7,H7,I7,q7⟩:=q7;exact⟨σ7,H7,I7.unpinned,q7⟩
  | ret v=>obtain⟨x7,σ7,H7,I7,r7,q7⟩:=q7;exact⟨x7,σ7,H7,I7.unpinned,r7,q7⟩
end
abbrev R2:=V->V->Hp->VK->Prop
def bT(X:Cx)(f:U8->U8->Sem U8)(r:R2):Prop:=
 ∀(Wy:List (U9×Obj))(s:Va)(σ:St)(H:Hp)(x y:V)(v u:U8)(Q:VK),af X Wy σ H s->aF x v->aF y u->r x y H Q->
  Vf (Vg X.prog X.w) X.A (f v u) (EP X Wy σ Q) X.xe s
def uP(X:Cx)(f:U8->Sem U8)(r:V->Hp->VK->Prop):Prop:=
 ∀(Wy:List (U9×Obj))(s:Va)(σ:St)(H:Hp)(x:V)(v:U8)(Q:VK),af X Wy σ H s->aF x v->r x H Q->
  Vf (Vg X.prog X.w) X.A (f v) (EP X Wy σ Q) X.xe s
def cH(X:Cx)(f:U8)(r:List V->Hp->VK->Prop):Prop:=
 ∀(Wy:List (U9×Obj))(s:Va)(σ:St)(H:Hp)(xs:List V)(us:List U8)(Q:VK),af X Wy σ H s->aE xs us->r xs H Q->
  Vf (Vg X.prog X.w) X.A (call f us) (EP X Wy σ Q) X.xe s
def Gf(X:Cx)(r:V->Hp->(Bool->Hp->Prop)->Prop):Prop:=
 ∀(Wy:List (U9×Obj))(s:Va)(σ:St)(H:Hp)(x:V)(v:U8)(Q:Bool->Hp->Prop),af X Wy σ H s->aF x v->r x H Q->
  Vf (Vg X.prog X.w) X.A (truthy v) (TP X Wy σ Q) X.xe s
def jC(r:R2)(ta tb:TE):TE:=λσ H Q=>ta σ H λx H1=>tb σ H1 λy H2=>r x y H2 Q
def uQ(r:V->Hp->VK->Prop)(ta:TE):TE:=λσ H Q=>ta σ H λx H1=>r x H1 Q
def rI(C:Int->Int->Prop)(g:Int->Int->V):R2:=λx y H Q=>∃i j,x= .int i/\y= .int j/\C i j/\Q (g i j) H
def fM(g:Int->Int->V):R2:=λx y H Q=>∃i j,x= .int i/\y= .int j/\Q (g i j) H
def rU(g:Int->V):V->Hp->VK->Prop:=λx H Q=>∃i,x= .int i/\Q (g i) H
section
variable {X:Cx} {a b c:Vd} {ta tb tc:TE} {pos:Pos}
theorem uR(ha:PE X a ta)(hb:PE X b tb){Wy:List (U9×Obj)}{s:Va}{σ:St}{H:Hp}{R:V->V->Hp->Prop}(I:af X Wy σ H s)
 (h:ta σ H λx H1=>tb σ H1 λy H2=>R x y H2){Q:U8->Va->Prop}{f:U8->U8->Sem U8}
 (hf:∀v u s2 x y H2,af X Wy σ H2 s2->aF x v->aF y u->R x y H2->Vf (Vg X.prog X.w) X.A (f v u) Q X.xe s2):
 Vf (Vg X.prog X.w) X.A (eval a X.env) (λv s₁=>Vf (Vg X.prog X.w) X.A (eval b X.env) (λu s₂=>Vf (Vg X.prog X.w) X.A (f v u) Q X.xe s₂) X.xe s₁) X.xe s:=by
 refine aB (ha Wy s σ H _ I h) λv s1 ⟨x,H1,I1,r1,q1⟩=>?_;refine aB (hb Wy s1 σ H1 _ I1 q1) λu s2 ⟨y,H2,I2,r2,q2⟩=>?_;exact hf v u s2 x y H2 I2 r1 r2 q2
theorem bz{op:Operator}{r:R2}(ho:bT X (VI op) r)(ha:PE X a ta)(hb:PE X b tb):PE X (.BinOp a op b pos) (jC r ta tb):=by
 intro Wy s σ H Q I h;exact wpAny_BinOp (uR ha hb I h λv u s2 x y H2 I2 rx ry q=>ho Wy s2 σ H2 x y v u Q I2 rx ry q)
theorem Ai{op:UnaryOp}{r:V->Hp->VK->Prop}(ho:uP X (unaryOp op) r)(ha:PE X a ta):PE X (.UnaryOp op a pos) (uQ r ta):=by
 intro Wy s σ H Q I h;exact UnaryOp_ (aB (ha Wy s σ H _ I h) λv s1 uu34=>by obtain⟨x,H1,I1,r1,q1⟩:=uu34;exact ho Wy s1 σ H1 x v Q I1 r1 q1)
theorem qr{f:U8->U8->Sem U8}{C:Int->Int->Prop}{g:Int->Int->Int}
 (rule:∀(i j:Int) (t u:Tok) (s:Va) (Q:U8->Va->Prop) (E:U8->Va->Prop),C i j->Q (.int (g i j) s.toks) {s with toks:=s.toks+1}->Vf (Vg X.prog X.w) X.A (f (.int i t) (.int j u)) Q E s):
 bT X f (rI C λi j=>.int (g i j)):=by
 intro Wy s σ H x y v u Q I rx ry h;obtain⟨i,j,rfl,rfl,hc,q⟩:=h;obtain⟨t,rfl⟩:=rx;obtain⟨t',rfl⟩:=ry;exact rule i j t t' s _ _ hc ⟨.int (g i j),H,I.tok _,⟨_,rfl⟩,q⟩
theorem Aj{f:U8->U8->Sem U8}{g:Int->Int->Int}
 (rule:∀(i j:Int) (t u:Tok) (s:Va) (Q:U8->Va->Prop) (E:U8->Va->Prop),Q (.int (g i j) s.toks) {s with toks:=s.toks+1}->Vf (Vg X.prog X.w) X.A (f (.int i t) (.int j u)) Q E s):
 bT X f (fM λi j=>.int (g i j)):=by
 intro Wy s σ H x y v u Q I rx ry h;obtain⟨i,j,rfl,rfl,q⟩:=h;obtain⟨t,rfl⟩:=rx;obtain⟨t',rfl⟩:=ry;exact rule i j t t' s _ _ ⟨.int (g i j),H,I.tok _,⟨_,rfl⟩,q⟩
theorem qu{f:U8->U8->Sem U8}{g:Int->Int->Bool}
 (rule:∀(i j:Int) (t u:Tok) (s:Va) (Q:U8->Va->Prop) (E:U8->Va->Prop),Q (.bool (g i j)) s->Vf (Vg X.prog X.w) X.A (f (.int i t) (.int j u)) Q E s):
 bT X f (fM λi j=>.bl (g i j)):=by
 intro Wy s σ H x y v u Q I rx ry h;obtain⟨i,j,rfl,rfl,q⟩:=h;obtain⟨t,rfl⟩:=rx;obtain⟨t',rfl⟩:=ry;exact rule i j t t' s _ _ ⟨.bl (g i j),H,I,rfl,q⟩
def iY(i j:Int):Prop:=0 < j/\j < 1073741824
def jD(i j:Int):Prop:=0<=j/\j<=1000000/\i.natAbs < 2 ^ 64
def ix(i j:Int):Prop:=(-(2 ^ 64) < i/\i < 2 ^ 64)\/(-(2 ^ 64) < j/\j < 2 ^ 64)
theorem ix.ok{i j:Int}(h:ix i j):IntMulOk i j:=by
 rcases h with⟨h1,h2⟩ | ⟨h1,h2⟩
 ·exact .of_left (intBits_le_64 h1 h2)
 ·exact .of_right (intBits_le_64 h1 h2)
theorem bF:bT X (VI .Add) (fM λi j=>.int (i+j)):=Aj λ_ _ _ _ _ _ _ q=>add_int q
theorem cU:bT X (VI .Sub) (fM λi j=>.int (i - j)):=Aj λ_ _ _ _ _ _ _ q=>sub_int q
theorem fi:bT X (VI .Mult) (rI ix λi j=>.int (i*j)):=qr λ_ _ _ _ _ _ _ hc q=>mul_int q hc.ok
theorem gi:bT X (VI .FloorDiv) (rI iY λi j=>.int (i / j)):=qr λi j _ _ _ _ _ hc q=>by
 have h1:(0:Int) < j:=hc.1;have h2:j < 1073741824:=hc.2;exact floordiv_int U2 (by rw [R1 i U2];exact q) (.inl (SS U2))
theorem eQ:bT X (VI .Mod) (rI (λ_ j=>0 < j) λi j=>.int (i % j)):=qr λi j _ _ _ _ _ hc q=>by
 have h1:(0:Int) < j:=hc;exact mod_int' U2 (by rw [R3 i U2];exact q)
theorem Ak:bT X (VI .Pow) (rI jD λi j=>.int (i ^ j.toNat)):=qr λ_ _ _ _ _ _ _ hc q=>pow_int_small hc.1 hc.2.1 hc.2.2 q
theorem Gh{f:U8->Sem U8}{g:Int->Int}
 (rule:∀(i:Int) (t:Tok) (s:Va) (Q:U8->Va->Prop) (E:U8->Va->Prop),Q (.int (g i) s.toks) {s with toks:=s.toks+1}->Vf (Vg X.prog X.w) X.A (f (.int i t)) Q E s):
 uP X f (rU λi=>.int (g i)):=by
 intro Wy s σ H x v Q I rx h;obtain⟨i,rfl,q⟩:=h;obtain⟨t,rfl⟩:=rx;exact rule i t s _ _ ⟨.int (g i),H,I.tok _,⟨_,rfl⟩,q⟩
theorem Al:uP X (unaryOp .USub) (rU λi=>.int (-i)):=Gh λ_ _ _ _ _ q=>neg_int q
end
def iZ:V->V->Bool
 | .non,.non=>true | .non,.int _=>true | .int _,.non=>true | .non,.bl _=>true | .bl _,.non=>true | .non,.str _=>true | .str _,.non=>true
 | .int _,.int _=>true | .bl _,.bl _=>true | .str _,.str _=>true | .byt _,.byt _=>true
 | .int _,.str _=>true | .str _,.int _=>true | .bl _,.str _=>true | .str _,.bl _=>true
 | _,_=>false
def uS:R2:=λx y H Q=>iZ x y=true/\Q (.bl (decide (x=y))) H
def uT:R2:=λx y H Q=>iZ x y=true/\Q (.bl (!decide (x=y))) H
theorem Am{i j:Int}:decide (V.int i=V.int j)=(i==j):=by
 rw [Qr];simp
theorem An{i j:Bool}:decide (V.bl i=V.bl j)=(i==j):=by
 rw [Qr];simp
theorem Ao{i j:Str}:decide (V.str i=V.str j)=(i==j):=by
 rw [Qr];simp
theorem Ap{i j:Array UInt8}:decide (V.byt i=V.byt j)=(i.toList==j.toList):=by
 rw [Qr];cases i;cases j;simp
section
variable {X:Cx} {a b c:Vd} {ta tb tc:TE} {pos:Pos}
theorem bN{Wy:List (U9×Obj)}{σ:St}{H:Hp}{s:Va}{Q:VK}{k k':Bool}(I:af X Wy σ H s)(q:Q (.bl k) H)(e:k=k'):EP X Wy σ Q (.bool k') s:=by
 subst e;exact⟨.bl k,H,I,rfl,q⟩
theorem mr:bT X (Vs .Eq) uS:=by
 intro Wy s σ H x y v u Q I rx ry h;obtain⟨hs,q⟩:=h;cases x with
 | non=>
  cases rx;cases y with
  | non=>cases ry;exact PySem.EqNone.eq_none_none (bN I q U6)
  | bl j=>cases ry;exact PySem.EqNone.eq_none_bool (bN I q U6)
  | int j=>obtain⟨t',rfl⟩:=ry;exact PySem.EqNone.eq_none_int (bN I q U6)
  | str j=>obtain⟨t',rfl⟩:=ry;exact PySem.EqNone.eq_none_str (bN I q U6)
  | _=>exact absurd (show false=true from hs) NW
 | bl i=>
  cases rx;cases y with
  | non=>cases ry;exact PySem.EqNone.eq_bool_none (bN I q U6)
  | bl j=>cases ry;exact eq_bool (bN I q An)
  | str j=>obtain⟨t',rfl⟩:=ry;exact PySem.EqMixed.eq_bool_str (bN I q U6)
  | _=>exact absurd (show false=true from hs) NW
 | int i=>
  obtain⟨t,rfl⟩:=rx;cases y with
  | non=>cases ry;exact PySem.EqNone.eq_int_none (bN I q U6)
  | int j=>obtain⟨t',rfl⟩:=ry;exact eq_int (bN I q Am)
  | str j=>obtain⟨t',rfl⟩:=ry;exact PySem.EqMixed.eq_int_str (bN I q U6)
  | _=>exact absurd (show false=true from hs) NW
 | str i=>
  obtain⟨t,rfl⟩:=rx;cases y with
  | non=>cases ry;exact PySem.EqNone.eq_str_none (bN I q U6)
  | bl j=>cases ry;exact PySem.EqMixed.eq_str_bool (bN I q U6)
  | int j=>obtain⟨t',rfl⟩:=ry;exact PySem.EqMixed.eq_str_int (bN I q U6)
  | str j=>obtain⟨t',rfl⟩:=ry;exact eq_str (bN I q Ao)
  | _=>exact absurd (show false=true from hs) NW
 | byt i=>
  obtain⟨t,rfl⟩:=rx;cases y with
  | byt j=>obtain⟨t',rfl⟩:=ry;exact PySem.W.eq_bytes (bN I q Ap)
  | _=>exact absurd (show false=true from hs) NW
 | _=>cases y <;> exact absurd (show false=true from hs) NW
theorem Gi:bT X (Vs .NotEq) uT:=by
 intro Wy s σ H x y v u Q I rx ry h;obtain⟨hs,q⟩:=h;cases x with
 | non=>
  cases rx;cases y with
  | non=>cases ry;exact PySem.EqNone.ne_none_none (bN I q U6)
  | bl j=>cases ry;exact PySem.EqNone.ne_none_bool (bN I q U6)
  | int j=>obtain⟨t',rfl⟩:=ry;exact PySem.EqNone.ne_none_int (bN I q U6)
  | str j=>obtain⟨t',rfl⟩:=ry;exact PySem.EqNone.ne_none_str (bN I q U6)
  | _=>exact absurd (show false=true from hs) NW
 | bl i=>
  cases rx;cases y with
  | non=>cases ry;exact PySem.EqNone.ne_bool_none (bN I q U6)
  | bl j=>cases ry;exact ne_bool (bN I q (congrArg not An))
  | str j=>obtain⟨t',rfl⟩:=ry;exact PySem.EqMixed.ne_bool_str (bN I q U6)
  | _=>exact absurd (show false=true from hs) NW
 | int i=>
  obtain⟨t,rfl⟩:=rx;cases y with
  | non=>cases ry;exact PySem.EqNone.ne_int_none (bN I q U6)
  | int j=>obtain⟨t',rfl⟩:=ry;exact ne_int (bN I q (congrArg not Am))
  | str j=>obtain⟨t',rfl⟩:=ry;exact PySem.EqMixed.ne_int_str (bN I q U6)
  | _=>exact absurd (show false=true from hs) NW
 | str i=>
  obtain⟨t,rfl⟩:=rx;cases y with
  | non=>cases ry;exact PySem.EqNone.ne_str_none (bN I q U6)
  | bl j=>cases ry;exact PySem.EqMixed.ne_str_bool (bN I q U6)
  | int j=>obtain⟨t',rfl⟩:=ry;exact PySem.EqMixed.ne_str_int (bN I q U6)
  | str j=>obtain⟨t',rfl⟩:=ry;exact ne_str (bN I q (congrArg not Ao))
  | _=>exact absurd (show false=true from hs) NW
 | byt i=>
  obtain⟨t,rfl⟩:=rx;cases y with
  | byt j=>obtain⟨t',rfl⟩:=ry;exact PySem.W.ne_bytes (bN I q (congrArg not Ap))
  | _=>exact absurd (show false=true from hs) NW
 | _=>cases y <;> exact absurd (show false=true from hs) NW
theorem qv:bT X (Vs .Lt) (fM λi j=>.bl (decide (i < j))):=qu λ_ _ _ _ _ _ _ q=>lt_int q
theorem gn:bT X (Vs .LtE) (fM λi j=>.bl (decide (i<=j))):=qu λ_ _ _ _ _ _ _ q=>le_int q
theorem i3:bT X (Vs .Gt) (fM λi j=>.bl (decide (j < i))):=qu λ_ _ _ _ _ _ _ q=>gt_int q
theorem uU:bT X (Vs .GtE) (fM λi j=>.bl (decide (j<=i))):=qu λ_ _ _ _ _ _ _ q=>ge_int q
theorem kj:bT X (Vs .Is) (λx y H Q=>y= .non/\Q (.bl (decide (x= .non))) H):=by
 intro Wy s σ H x y v u Q I rx ry h;obtain⟨rfl,q⟩:=h;cases ry;refine is_none_gen (bN I q ?_);cases x <;> first
  | (cases rx;rfl)
  | (obtain⟨t,rfl⟩:=rx;rfl)
theorem uV:bT X (Vs .IsNot) (λx y H Q=>y= .non/\Q (.bl (!decide (x= .non))) H):=by
 intro Wy s σ H x y v u Q I rx ry h;obtain⟨rfl,q⟩:=h;cases ry;refine isnot_none_gen (bN I q ?_);cases x <;> first
  | (cases rx;rfl)
  | (obtain⟨t,rfl⟩:=rx;rfl)
theorem az(b:Vd){op:CmpOp}(h:op≠ .In:=by decide)(h2:op≠ .NotIn:=by decide):Vy op b=false:=by
 have e1:(op==CmpOp.In)=false:=by cases op <;> first | rfl | exact absurd rfl h
 have e2:(op==UR)=false:=by cases op <;> first | rfl | exact absurd rfl h2
 cases b <;> simp [Vy,e1,e2]
theorem qw{op:CmpOp}{r:R2}(ho:bT X (Vs op) r)(ha:PE X a ta)(hb:PE X b tb)(hm:Vy op b=false):PE X (.Compare a [op] [b] pos) (jC r ta tb):=by
 intro Wy s σ H Q I h;exact wpAny_Compare1 (uR ha hb I h λv u s2 x y H2 I2 rx ry q=>ho Wy s2 σ H2 x y v u Q I2 rx ry q) hm
def uW(t:TE):TT:=λσ H Q=>t σ H λx H'=>∃k,x= .bl k/\Q k H'
theorem gU{op:CmpOp}{r:R2}(ho:bT X (Vs op) r)(ha:PE X a ta)(hb:PE X b tb)(hm:Vy op b=false):PT X (.Compare a [op] [b] pos) (uW (jC r ta tb)):=by
 intro Wy s σ H Q I h;refine wpAny_isTrue_Compare1 (aB (ha Wy s σ H _ I h) λv s1 ⟨x,H1,I1,r1,q1⟩=>aB (hb Wy s1 σ H1 _ I1 q1) λu s2 ⟨y,H2,I2,r2,q2⟩=>
  aB (ho Wy s2 σ H2 x y v u _ I2 r1 r2 q2) λc s3 ⟨z,H3,I3,r3,k,e,q3⟩=>?_) hm
 subst e;cases r3;exact VA ⟨H3,I3,q3⟩
def Aq(K:NM)(x:V)(H:Hp)(k:Bool):Prop:=
 match x with
 | .non=>k=false
 | .bl b=>k=b
 | .int i=>k=(i !=0)
 | .str y=>y.length<=Ve/\k=((y.length:Int) !=0)
 | .byt y=>y.size<=Ve/\k=((y.size:Int) !=0)
 | .ref p=>(∃xs,aV K H p xs/\k=!xs.isEmpty)\/(∃xs,bx K H p xs/\k=!xs.isEmpty)\/∃kvs,H p=some (.dK kvs)/\k=!kvs.isEmpty
 | _=>False
theorem Gj{κ:Type}{kvs:List (κ×V)}{vs:List (κ×U8)}(r:KV kvs vs):(!vs.isEmpty)=!kvs.isEmpty:=by
 cases r <;> rfl
theorem Ar{xs:List V}{its:List U8}(r:aE xs its):(!its.toArray.isEmpty)=!xs.isEmpty:=by
 cases r <;> simp
theorem jE:(Ve:Nat) < 2 ^ 63:=by rw [VE];decide
theorem Gk:Gf X (λx H Q=>∃k,Aq X.K x H k/\Q k H):=by
 intro Wy s σ H x v Q I rx h;obtain⟨k,e,q⟩:=h;have hl:=jE;have hs:Ve=16777216:=VE;cases x with
 | non=>
  cases rx;have e':k=false:=e;subst e';exact truthy_none ⟨H,I,q⟩
 | bl b=>
  cases rx;have e':k=b:=e;subst e';exact VA ⟨H,I,q⟩
 | int i=>
  obtain⟨t,rfl⟩:=rx;have e':k=(i !=0):=e;subst e';exact PySem.P.truthy_int ⟨H,I,q⟩
 | str y=>
  obtain⟨t,rfl⟩:=rx;obtain⟨hy,e'⟩:y.length<=Ve/\k=((y.length:Int) !=0):=e;subst e';exact PySem.P.truthy_str U2 ⟨H,I.tok _,q⟩
 | byt y=>
  obtain⟨t,rfl⟩:=rx;obtain⟨hy,e'⟩:y.size<=Ve/\k=((y.size:Int) !=0):=e;subst e';exact PySem.W.truthy_bytes U2 ⟨H,I.tok _,q⟩
 | ref p=>
  cases rx;have e':(∃xs,aV X.K H p xs/\k=!xs.isEmpty)\/(∃xs,bx X.K H p xs/\k=!xs.isEmpty)\/∃kvs,H p=some (.dK kvs)/\k=!kvs.isEmpty:=e;rcases e' with⟨xs,hx,e'⟩ | ⟨xs,hx,e'⟩ | ⟨kvs,hx,e'⟩
  ·subst e';obtain⟨its,r,pl,hz⟩:=I.list hx;have hlen:=r.length;exact wpAny_truthy_list pl.isList (by simp only [N8];omega) ⟨H,I.tok _,by rw [Ar r];exact q⟩
  ·subst e';obtain⟨its,r,pl,hz⟩:=I.tuple hx;have hlen:=r.length;exact truthy_tuple pl (by simp only [N8];omega) ⟨H,I.tok _,by rw [Ar r];exact q⟩
  ·subst e';obtain⟨hz,hS,vs,r,m⟩:kvs.length<=Ve/\(p==VH)=false/\∃vs,KV kvs vs/\s.heap.DictOf (ck X.prog X.w) p vs:=I.hok p _ hx;have hlen:kvs.length=vs.length:=RZ r;exact wpAny_truthy_dict hS m U2 ⟨H,I.tok _,by rw [Gj r];exact q⟩
 | _=>exact(show False from e).elim
theorem Gm(ha:PE X a ta)(he:∀whole,isTrue a X.env whole=(do let v<-whole;standAt a.pos;We [v] (truthy v))):
 PT X a (λσ H Q=>ta σ H λx H'=>∃k,Aq X.K x H' k/\Q k H'):=by
 intro Wy s σ H Q I h;exact isTrue_plain (aB (ha Wy s σ H _ I h) λv s1 uu38=>by obtain⟨x,H1,I1,r1,q1⟩:=uu38;exact Gk Wy s1 σ H1 x v Q I1 r1 q1) (he _)
theorem As:bT X (VI .Add) (λx y H Q=>∃i j,x= .str i/\y= .str j/\i.length+j.length<=Ve/\Q (.str (i++j)) H):=by
 intro Wy s σ H x y v u Q I rx ry h;obtain⟨i,j,rfl,rfl,hz,q⟩:=h;obtain⟨t,rfl⟩:=rx;obtain⟨t',rfl⟩:=ry;exact add_str (λt' tk=>⟨.str (i++j),H,I.tok _,⟨_,rfl⟩,q⟩) hz
theorem c9{x:V}{us:List U8}(r:aE [x] us):∃u,us=[u]/\aF x u:=by
 cases r with
 | cons r1 r2=>cases r2;exact⟨_,rfl,r1⟩
theorem kl{x y:V}{us:List U8}(r:aE [x,y] us):∃u w',us=[u,w']/\aF x u/\aF y w':=by
 cases r with
 | cons r1 r2=>
  cases r2 with
  | cons r3 r4=>cases r4;exact⟨_,_,rfl,r1,r3⟩
theorem Gp:cH X (.builtin "abs") (λxs H Q=>∃i,xs=[.int i]/\Q (.int (if i < 0 then -i else i)) H):=by
 intro Wy s σ H xs us Q I r h;obtain⟨i,rfl,q⟩:=h;obtain⟨u,rfl,t,rfl⟩:=c9 r;exact call_abs_int λu tk=>⟨.int (if i < 0 then -i else i),H,I.tok _,⟨_,rfl⟩,q⟩
theorem qx(hc:X.calm=true):cH X (.builtin "max") (λxs H Q=>∃i j,xs=[.int i,.int j]/\Q (.int (if j > i then j else i)) H):=by
 intro Wy s σ H xs us Q I r h;obtain⟨i,j,rfl,q⟩:=h;obtain⟨u,w',rfl,⟨t,rfl⟩,⟨t',rfl⟩⟩:=kl r;refine max_two_ints (I.ok.hd hc) λh' tk k=>⟨_,H,I.kept k,?_,q⟩;by_cases hj:j > i
 ·rw [U4 hj,U4 hj];exact⟨_,rfl⟩
 ·rw [U3 hj,U3 hj];exact⟨_,rfl⟩
theorem uX(hc:X.calm=true):cH X (.builtin "min") (λxs H Q=>∃i j,xs=[.int i,.int j]/\Q (.int (if j < i then j else i)) H):=by
 intro Wy s σ H xs us Q I r h;obtain⟨i,j,rfl,q⟩:=h;obtain⟨u,w',rfl,⟨t,rfl⟩,⟨t',rfl⟩⟩:=kl r;refine min_two_ints (I.ok.hd hc) λh' tk k=>⟨_,H,I.kept k,?_,q⟩;by_cases hj:j < i
 ·rw [U4 hj,U4 hj];exact⟨_,rfl⟩
 ·rw [U3 hj,U3 hj];exact⟨_,rfl⟩
theorem qy:cH X (.type "int") (λxs H Q=>(∃i,xs=[.int i]/\Q (.int i) H)\/∃k,xs=[.bl k]/\Q (.int (if k then 1 else 0)) H):=by
 intro Wy s σ H xs us Q I r h;rcases h with⟨i,rfl,q⟩ | ⟨k,rfl,q⟩
 ·obtain⟨u,rfl,t,rfl⟩:=c9 r;exact call_int_int ⟨.int i,H,I,⟨_,rfl⟩,q⟩
 ·obtain⟨u,rfl,r1⟩:=c9 r;cases r1;exact call_int_bool ⟨.int (if k then 1 else 0),H,I.tok _,⟨_,rfl⟩,q⟩
theorem Gq:cH X (.builtin "divmod") (λxs H Q=>∃i j,xs=[.int i,.int j]/\iY i j/\∀p,H p=none->Q (.ref p) (ao H p (.tup [.int (i / j),.int (i % j)]))):=by
 intro Wy s σ H xs us Q I r h;obtain⟨i,j,rfl,⟨h1,h2⟩,q⟩:=h;obtain⟨u,w',rfl,⟨t,rfl⟩,⟨t',rfl⟩⟩:=kl r;refine divmod_int U2 ?_ (.inl (SS U2));rw [R1 i U2,R3 i U2];have hn:H s.heap.objs.size=none:=I.hok.fresh (NV _);refine⟨.ref s.heap.objs.size,_,?_,rfl,q _ hn⟩;refine I.laid (λb o e=>NT _ e) (NV _) ⟨by simp only [Og,Pf];rw [VE];decide,[.int (i / j) s.toks,.int (i % j) (s.toks+1)],.cons ⟨_,rfl⟩ (.cons ⟨_,rfl⟩ .nil),?_⟩;exact⟨_,Ou s.heap rfl,rfl,0,rfl⟩
end
structure km (h:Vl) (x dx C:U9) (mA:Str->Option U8):Prop where
 obj:h.get? x=some (Qc C dx)
 ns:h.Ns1 dx mA
 ne:dx≠x
theorem Gr{h:Vl}{dx:U9}{mA:Str->Option U8}(n:h.Ns1 dx mA):∃od,h.get? dx=some od/\∀name,S4 name od=some (mA name):=by
 obtain⟨o,es,ep,ho,hd,hk,_,hm⟩:=n;refine⟨o,ho,λname=>?_⟩;have e:=hm name;unfold nsFind findBy at e;rw [<-Array.find?_toList] at e;unfold S4;rw [hd];dsimp only;split
 ·rename_i y q;rw [q] at e;exact congrArg some e
 ·rename_i q;rw [q] at e;have a:es.toList.any (·.refKey)=false:=by
   rw [List.any_eq_false];intro y hy;obtain⟨z,t,hkey⟩:=hk y (Td.mp hy);simp [DictEntry.refKey,hkey]
  have a':¬es.toList.any (·.refKey)=true:=by rw [a];exact NW
  rw [U3 a'];exact congrArg some e
theorem km.look{h:Vl}{x dx C:U9}{mA:Str->Option U8}(I:km h x dx C mA):∃od,PySem.W.InstAt h x (Qc C dx) C (some od)/\∀name,S4 name od=some (mA name):=
 let ⟨od,ho,hl⟩:=Gr I.ns
 ⟨od,⟨I.obj,rfl,rfl,ho⟩,hl⟩
section
variable {prog:Vj} {w:Vm} {A:Vo} {E:U8->Va->Prop} {s:Va} {K:NM} {x dx C f:U9} {mA:Str->Option U8} {name:Str} {v:U8}
theorem Gs{expr:Bool}{Q:U8->Va->Prop}(X:K.In s.heap)(I:km s.heap x dx C mA)(hg:Sq K C name=true)(hh:Sa K C=true)
 (ha:Pa K (.ref C) name=some none)(hv:mA name=some v)(hv':Ua v=true)(h:Q v {s with toks:=s.toks+1}):
 Vf (Vg prog w) A (getAttr (.ref x) name expr) Q E s:=by
 obtain⟨od,J,hl⟩:=I.look;exact PySem.W.get_value X J (PySem.W.plainGet_of hg).1 (PySem.W.findObj_own hh ha rfl (by rw [hl,hv])) hv' h
theorem Gu{ns:List Str}{Q:Unit->Va->Prop}(X:K.In s.heap)(I:km s.heap x dx C mA)
 (hs:Pa K (.ref C) "__setattr__"=some (some (.builtin "object.__setattr__")))(hp:T1 K C=true)(ht:SM K C name=some none)(hh:Sa K C=true)
 (hw:Tt mA ns)(hsz:ns.length<=Ve)
 (h:∀h',km h' x dx C (λy=>if y=name then some v else mA y)->Rb dx s.heap h'->Q () {s with heap:=h',toks:=s.toks+2}):
 Vf (Vg prog w) A (setAttr (.ref x) name v) Q E s:=by
 obtain⟨od,J,hl⟩:=I.look;refine PySem.W.set_plain X J hs (PySem.W.osa_open (s:={s with toks:=s.toks+1}) (r:=none) X J hp ht λb=>?_);obtain⟨cd,hc,hd'⟩:=PySem.W.any_some hh;have hx:s.heap.get? x=some ⟨.ref C,some dx,.plain,#[]⟩:=I.obj;refine Vb (Vi (Vb (Vb (wpAny_loadPart hx (Vb (PySem.W.Looks.here (s:={s with toks:=s.toks+1}) (PySem.W.looks_clsIn X hc) ?_))))));rw [hd'];refine Vi (a:=some dx) (Vb (Vi (Vb ?_)));refine wpAny_nsSet1 (s:={s with toks:=s.toks+1}) I.ns λh' hn2 hs2=>?_;obtain⟨oD,esD,epD,hoD,hdD,hcD⟩:=hn2.count (Tt.cons name v hw);refine Vb (wpAny_lookBehind hoD (by rw [hdD];exact pastItsLine_dict (Ot hcD (by rw [Og];omega))) ?_);exact Vi (h _ ⟨(hs2.2 _ (Ne.symm I.ne)).trans I.obj,hn2,I.ne⟩ hs2)
theorem Gv{R:Result->Va->Prop}{vs:List U8}{kw:List (Str×U8)}(X:K.In s.heap)(hm:SN K C=true)
 (hi:Pa K (.ref C) "__init__"=some (some (.ref f)))(hf:PySem.W.typeIn K (.ref f)=some (.type "function"))
 (h:VT (Vg prog w) (A.under (.builtin "type.__call__" ⟨.ref C::vs,kw⟩)) (.call (.ref f) ⟨.ref (s.heap.objs.size+1)::vs,kw⟩) (PySem.W.InitBack (s.heap.objs.size+1) R)
   {s with heap:=(s.heap.push PH).push (Qc C s.heap.objs.size)}):
 VT (Vg prog w) A (.call (.ref C) ⟨vs,kw⟩) R s:=by
 obtain⟨hh,g,d,t,os⟩:=s;exact PySem.W.make_core (PySem.W.makes_of X hm) (PySem.W.looks_findIn X hi) (λself=>PySem.W.bind_fn X self hf) (.inl rfl) h
end
def dZ(f:Str)(v:V):List (Str×V)->List (Str×V)
 | []=>[(f,v)]
 | (g,x)::r=>if g=f then(g,v)::r else(g,x)::dZ f v r
theorem Au(f g:Str)(v:V):∀fs:List (Str×V),(dZ f v fs).lookup g=if g=f then some v else fs.lookup g
 | []=>by
  show QM g [(f,v)]=_;by_cases h:g=f
  ·have hb:(g==f)=true:=beq_iff_eq.mpr h;simp only [QM,hb,U4 h]
  ·have hb:(g==f)=false:=beq_eq_false_iff_ne.mpr h;simp only [QM,hb,U3 h]
 | (k,x)::r=>by
  have ih:=Au f g v r;rw [show dZ f v ((k,x)::r)=(if k=f then(k,v)::r else(k,x)::dZ f v r) from rfl];by_cases hk:k=f
  ·rw [U4 hk];by_cases h:g=k
   ·have hb:(g==k)=true:=beq_iff_eq.mpr h;simp only [QM,hb,U4 (h.trans hk)]
   ·have hb:(g==k)=false:=beq_eq_false_iff_ne.mpr h;simp only [QM,hb,U3 (λe:g=f=>h (e.trans hk.symm))]
  ·rw [U3 hk];by_cases h:g=k
   ·have hb:(g==k)=true:=beq_iff_eq.mpr h;simp only [QM,hb,U3 (λe:g=f=>hk (h.symm.trans e))]
   ·have hb:(g==k)=false:=beq_eq_false_iff_ne.mpr h;simp only [QM,hb];exact ih
theorem uY(f:Str)(v:V):∀fs:List (Str×V),f∈(dZ f v fs).map (·.1)/\∀g,g∈fs.map (·.1)->g∈(dZ f v fs).map (·.1)
 | []=>⟨by simp [dZ],λg h=>by simp at h⟩
 | (k,x)::r=>by
  obtain⟨i1,i2⟩:=uY f v r;rw [show dZ f v ((k,x)::r)=(if k=f then(k,v)::r else(k,x)::dZ f v r) from rfl];by_cases hk:k=f
  ·rw [U4 hk];subst hk;exact⟨U6,λg h=>by simpa using h⟩
  ·rw [U3 hk];refine⟨?_,λg h=>?_⟩
   ·rw [NS];exact OB _ i1
   ·rw [NS] at h⊢;rcases N9.mp h with e | e
    ·exact N9.mpr (.inl e)
    ·exact OB _ (i2 g e)
theorem Av(f:Str)(v:V):∀fs:List (Str×V),(dZ f v fs).length<=fs.length+1
 | []=>by simp [dZ]
 | (k,x)::r=>by
  have ih:=Av f v r;rw [show dZ f v ((k,x)::r)=(if k=f then(k,v)::r else(k,x)::dZ f v r) from rfl];by_cases hk:k=f
  ·rw [U4 hk,Og,Og];omega
  ·rw [U3 hk,Og,Og];omega
theorem fc.some_of{v:V}{o:Option U8}(r:fc (some v) o):∃u,o=some u/\aF v u:=by
 cases o with
 | none=>exact(show False from r).elim
 | some u=>exact⟨u,rfl,r⟩
theorem Gw{v:V}{u:U8}(r:aF v u):Ua u=true:=by
 cases v with
 | non=>cases (show u=Qz from r);rfl
 | bl b=>cases (show u=Qb b from r);rfl
 | int i=>obtain⟨t,e⟩:=(show ∃t,u=QB i t from r);cases e;rfl
 | str x=>obtain⟨t,e⟩:=(show ∃t,u=Qg x t from r);cases e;rfl
 | byt b=>obtain⟨t,e⟩:=(show ∃t,u=UP b t from r);cases e;rfl
 | flt b=>obtain⟨t,e⟩:=(show ∃t,u=UQ b t from r);cases e;rfl
 | ref a=>cases (show u=Of a from r);rfl
 | ty n=>cases (show u=Uj n from r);rfl
section
variable {P:Vj} {w:Vm} {H H':Hp} {h h':Vl} {a C dx:U9} {fs fs':List (Str×V)}
theorem Aw(hok:bM P w H h)(e:H a=some (.ins C dx fs)):∃mA,km h a dx C mA/\(∀f,fc (fs.lookup f) (mA f))/\Tt mA (fs.map (·.1))/\fs.length<=1000/\H dx=some (.own a):=by
 obtain⟨d,z,ne,ob,mA,n,r,q⟩:=(show bV P w H h a (.ins C dx fs) from hok a _ e);exact⟨mA,⟨ob,n,ne⟩,r,q,z,d⟩
end
structure gW (K:NM) (C:U9):Prop where
 pg:Sq K C Str.empty=true
 hd:Sa K C=true
 po:T1 K C=true
 sa:Pa K (.ref C) "__setattr__"=some (some (.builtin "object.__setattr__"))
theorem gW.get{K:NM}{C:U9}(c:gW K C)(f:Str):Sq K C f=true:=c.pg
def NoAttr(K:NM)(C:U9)(f:Str):Prop:=Pa K (.ref C) f=some none
theorem NoAttr.taker{K:NM}{C:U9}{f:Str}(n:NoAttr K C f):SM K C f=some none:=by
 unfold SM;rw [show Pa K (.ref C) f=some none from n];rfl
section
variable {X:Cx} {Wy:List (U9×Obj)} {σ:St} {H:Hp} {s:Va} {a C dx:U9} {fs:List (Str×V)} {f:Str} {v:V} {A:Vo} {E:U8->Va->Prop}
theorem Gx{b:Bool}{Q:U8->Va->Prop}(I:af X Wy σ H s)(e:H a=some (.ins C dx fs))(c:gW X.K C)(n:NoAttr X.K C f)(l:fs.lookup f=some v)
 (h:∀u s',af X Wy σ H s'->aF v u->Q u s'):Vf (Vg X.prog X.w) A (getAttr (.ref a) f b) Q E s:=by
 obtain⟨mA,O,r,_,_,_⟩:=Aw I.hok e;obtain⟨u,hu,ru⟩:=fc.some_of (v:=v) (o:=mA f) (by rw [<-l];exact r f);exact Gs I.kIn O (c.get f) c.hd n hu (Gw ru) (h u _ (I.tok _) ru)
theorem Gy{y:V}{u:U8}{Q:Unit->Va->Prop}(I:af X Wy σ H s)(e:H a=some (.ins C dx fs))(c:gW X.K C)(n:NoAttr X.K C f)(hl:fs.length < 1000)(ry:aF y u)
 (h:∀s',af X Wy σ (ao H a (.ins C dx (dZ f y fs))) s'->Q () s'):Vf (Vg X.prog X.w) A (setAttr (.ref a) f u) Q E s:=by
 obtain⟨mA,O,r,wi,_,ho⟩:=Aw I.hok e;have hz:(fs.map (·.1)).length<=Ve:=by rw [NO,VE];omega
 refine Gu I.kIn O c.sa c.po n.taker c.hd wi hz λh' O' sb=>h _ ?_;have hd:∃o,h'.get? dx=some o:=let ⟨o,_,_,e',_⟩:=O'.ns;⟨o,e'⟩
 refine I.write (x:=a) (e:=dx) (by rw [e];exact O8) (.inr ho) (λb q hb z=>(sb.2 b hb).trans z) hd ?_;refine⟨by rw [aA O.ne];exact ho,?_,O.ne,O'.obj,_,O'.ns,λg=>?_,λg hg=>?_⟩
 ·have:=Av f y fs;omega
 ·show fc ((dZ f y fs).lookup g) (if g=f then some u else mA g);rw [Au];by_cases q:g=f
  ·rw [U4 q,U4 q];exact ry
  ·rw [U3 q,U3 q];exact r g
 ·by_cases q:g=f
  ·rw [q];exact(uY f y fs).1
  ·refine(uY f y fs).2 g (wi g λz=>hg ?_);show(if g=f then some u else mA g)=none;rw [U3 q];exact z
theorem af.made(I:af X Wy σ H s):af X Wy σ (ao (ao H s.heap.objs.size (.own (s.heap.objs.size+1))) (s.heap.objs.size+1) (.ins C s.heap.objs.size []))
 {s with heap:=(s.heap.push PH).push (Qc C s.heap.objs.size)}:=by
 have e1:(s.heap.push PH).get? s.heap.objs.size=some PH:=Ou s.heap rfl;have e2:((s.heap.push PH).push (Qc C s.heap.objs.size)).get? (s.heap.objs.size+1)=some (Qc C s.heap.objs.size):=by
  have:=Ou (s.heap.push PH) (o:=Qc C s.heap.objs.size) rfl
  rwa [Rn] at this
 have e3:(s.heap.push PH).Ns s.heap.objs.size (λ_=>none):=⟨PH,#[],_,e1,rfl,(λe he=>absurd he U6),λ_=>rfl⟩;have I1:=I.laid (a:=s.heap.objs.size) (o:= .own (s.heap.objs.size+1)) (h':=s.heap.push PH) (t':=s.toks) (λb u q=>NT _ q) (NV _) ⟨_,e1⟩;refine I1.laid (a:=s.heap.objs.size+1) (o:= .ins C s.heap.objs.size []) (t':=s.toks) (λb u q=>NT _ q) (Tu (Rn _ _)) ?_;have ne:s.heap.objs.size≠s.heap.objs.size+1:=Oj (Sr _);refine⟨by rw [aA ne,aR],Pe _,ne,e2,λ_=>none,(Heap.Ns1.of_empty e3).at λo q=>NT _ q,λ_=>O8,λy hy=>absurd rfl hy⟩
theorem Gz{prog:Vj}{w:Vm}{env:Env}{e:Vd}{f:Str}{pos:Pos}{s:Va}{Q:U8->Va->Prop}(hb:VJ e f env (eval e env)=eval e env)
 (h:Vf (Vg prog w) A (eval e env) (λo s₁=>Vf (Vg prog w) A (getAttr o f true) Q E s₁) E s):Vf (Vg prog w) A (eval (.Attribute e f pos) env) Q E s:=
 Attribute_any_ h (by rw [arm_eval_Attribute,hb])
end
def GB(K:NM)(ta:TE)(f:Str):TE:=λσ H Q=>ta σ H λx H1=>∃a C dx fs v,x= .ref a/\H1 a=some (.ins C dx fs)/\gW K C/\NoAttr K C f/\fs.lookup f=some v/\Q v H1
def GC(K:NM)(ta tv:TE)(f:Str):TS:=λD σ H=>tv σ H λy H1=>ta σ H1 λx H2=>∃a C dx fs,x= .ref a/\H2 a=some (.ins C dx fs)/\gW K C/\NoAttr K C f/\fs.length < 1000/\
 D.nx σ (ao H2 a (.ins C dx (dZ f y fs)))
section
variable {X:Cx} {o e value:Vd} {f:Str} {pos pos' tpos:Pos} {ta tv:TE}
theorem GF(he:PE X e ta)(hb:VJ e f X.env (eval e X.env)=eval e X.env):PE X (.Attribute e f pos) (GB X.K ta f):=by
 intro Wy s σ H Q I h;refine Gz hb (aB (he Wy s σ H _ I h) λu s1 ⟨x,H1,I1,rx,a,C,dx,fs,v,ex,ea,c,n,l,q⟩=>?_);subst ex;obtain rfl:u=Of a:=rx;exact Gx I1 ea c n l λu' s2 I2 ru=>⟨v,H1,I2,ru,q⟩
theorem GG(ha:PE X o ta)(hv:PE X value tv)(hs:Vw value (some (.Attribute o f pos')) pos.line X.env=pure false):PS X (.Assign [.Attribute o f pos'] value pos) (GC X.K ta tv f):=by
 intro Wy s σ H D I h;refine plainObj_wpAny_Assign_Attribute (aB (hv Wy s σ H _ I h) λu s1 ⟨y,H1,I1,ry,q⟩=>aB (ha Wy s1 σ H1 _ I1 q) λov s2 ⟨x,H2,I2,rx,a,C,dx,fs,ex,ea,c,n,l,q2⟩=>?_) hs;subst ex;obtain rfl:ov=Of a:=rx;exact Gy I2 ea c n l ry λs3 I3=>⟨σ,_,I3,q2⟩
end
structure aT (k:Nat) (A:Vo):Prop where
 hd:A.handled=none
 dp:A.depth+3*k+5 < recursionLimit
 un:A.units+16*k+200 < Vx
theorem aT.mono{j k:Nat}{A:Vo}(r:aT k A)(h:j<=k):aT j A:=⟨r.hd,by have:=r.dp;omega,by have:=r.un;omega⟩
theorem aT.deeper{k:Nat}{A:Vo}(r:aT (k+1) A)(env:Env):aT k (A.deeper env):=
 ⟨r.hd,by have:=r.dp;show A.depth+1+3*k+5 < _;omega,by have:=r.un;show A.units+3+16*k+200 < _;omega⟩
theorem aT.in1{k:Nat}{A:Vo}(r:aT (k+1) A):aT k A.in1:=
 ⟨r.hd,by have:=r.dp;show A.depth+3*k+5 < _;omega,by have:=r.un;show A.units+1+16*k+200 < _;omega⟩
theorem GH{A:Vo}{C:U9}{us:List U8}{kw:List (Str×U8)}:(A.under (.builtin "type.__call__" ⟨.ref C::us,kw⟩)).depth=A.depth+1:=by
 first | rfl | simp [Tv,Code.weight,Code.isCreation,Code.isGuard,Code.isCaller,UT,Tw,guardIds]
theorem GI{A:Vo}{C:U9}{us:List U8}{kw:List (Str×U8)}:(A.under (.builtin "type.__call__" ⟨.ref C::us,kw⟩)).units=A.units+1:=by
 first | rfl | simp [Tv,Code.cUnits,UT,Tw]
theorem aT.make{k:Nat}{A:Vo}(r:aT (k+1) A)(C:U9)(us:List U8)(kw:List (Str×U8)):aT k (A.under (.builtin "type.__call__" ⟨.ref C::us,kw⟩)):=
 ⟨r.hd,by have:=r.dp;rw [GH];omega,by have:=r.un;rw [GI];omega⟩
theorem aT.depth{k:Nat}{A:Vo}(r:aT k A):A.depth < recursionLimit:=by have:=r.dp;omega
theorem aT.units{k:Nat}{A:Vo}(r:aT k A):A.units+64 < Vx:=by have:=r.un;omega
theorem aT.units0{k:Nat}{A:Vo}(r:aT k A):A.units < Vx:=by have:=r.un;omega
def uZ:TA:=λ_ H Q=>Q [] H
def u5(ta:TE)(tr:TA):TA:=λσ H Q=>ta σ H λx H1=>tr σ H1 λxs H2=>Q (x::xs) H2
section
variable {X:Cx} {e:Vd} {es:List Vd} {te:TE} {t:TA} {pos:Pos}
theorem bU:PA X [] uZ:=λ_ _ _ _ H Q I h=>Sb ⟨[],H,I,.nil,h⟩
theorem aO(ha:PE X e te)(hr:PA X es t)(hs:Vc (e::es) X.env=(false,eval e X.env)::Vc es X.env:=by rfl):PA X (e::es) (u5 te t):=by
 intro pos Wy s σ H Q I h;rw [hs];show Vf _ _ (spliced ((false,eval e X.env)::Vr pos (Vc es X.env))) _ _ s;refine Rc (aB (ha Wy s σ H _ I h) λu s1 ⟨x,H1,I1,r1,q1⟩=>?_);exact aB (hr pos Wy s1 σ H1 _ I1 q1) λus s2 uu43=>by obtain⟨xs,H2,I2,r2,q2⟩:=uu43;exact⟨x::xs,H2,I2,.cons r1 r2,q2⟩
def u7(t:TA):TE:=λσ H Q=>t σ H λxs H1=>xs.length<=Ve/\∀p,H1 p=none->Q (.ref p) (ao H1 p (.tup xs))
def va(t:TA):TE:=λσ H Q=>t σ H λxs H1=>xs.length<=Ve/\∀p,H1 p=none->Q (.ref p) (ao H1 p (.lst xs))
theorem vb{x1}(h:PA X es t):PE X (.Tuple es x1 pos) (u7 t):=by
 intro Wy s σ H Q I hq;refine wpAny_Tuple_spliced (aB (h pos Wy s σ H _ I hq) λus s1 ⟨xs,H1,I1,r,z,q⟩=>⟨by rw [<-r.length];exact z,?_⟩);have hf:H1 s1.heap.objs.size=none:=I1.hok.fresh (NV _);refine⟨.ref s1.heap.objs.size,ao H1 s1.heap.objs.size (.tup xs),I1.laid (t':=s1.toks) (λb u e=>NT _ e) (NV _) ?_,rfl,q _ hf⟩;exact⟨z,us,r,⟨_,Ou _ rfl,rfl,_,rfl⟩⟩
theorem mv(h:PA X es t):PE X (.List es pos) (va t):=by
 intro Wy s σ H Q I hq;refine wpAny_List_spliced (aB (h pos Wy s σ H _ I hq) λus s1 ⟨xs,H1,I1,r,z,q⟩=>⟨by rw [<-r.length];exact z,?_⟩);have hf:H1 s1.heap.objs.size=none:=I1.hok.fresh (NV _);refine⟨.ref s1.heap.objs.size,ao H1 s1.heap.objs.size (.lst xs),I1.laid (t':=s1.toks) (λb u e=>NT _ e) (NV _) ?_,rfl,q _ hf⟩;exact⟨z,us,0,r,Ou _ rfl⟩
end
abbrev Sp:=List V->Hp->VK->XK->Prop
abbrev d3:=List Env->Hp->Va->XK->U8->Va->Prop
structure gq (P:Vj) (w:Vm) (K:NM) (mg:Str->Option U8) (base:Vl) (A:Vo) (outer:List Env) (s:Va) (H:Hp):Prop where
 frames:A.frames=some outer
 mod:Mod K mg base
 bs:∀b o,base.get? b=some o->s.heap.get? b=some o/\H b=none
 bsz:base.objs.size<=s.heap.objs.size
 funs:s.heap.FunFrames base outer
 frf:∀b∈aY outer,H b=none
 hok:bM P w H s.heap
 bare:V2 s.gens
def CE(outer:List Env)(P:Vj)(w:Vm)(H:Hp)(s:Va)(Q:VK)(u:U8)(s':Va):Prop:=
 ∃v H',s'.os=s.os/\V2 s'.gens/\Un (aY outer) [] H H' s.heap s'.heap/\bM P w H' s'.heap/\aF v u/\Q v H'
def CR(CX:d3)(outer:List Env)(P:Vj)(w:Vm)(H:Hp)(s:Va)(Q:VK)(E:XK)(r:Result)(s':Va):Prop:=
 match r with
 | .ok (.ret u)=>CE outer P w H s Q u s'
 | .ok _=>False
 | .error e=>CX outer H s E e s'
structure ay (P:Vj) (w:Vm) (K:NM) (mg:Str->Option U8) (base:Vl) (CX:d3) (k:Nat) (f:U9) (fd:Vh) (ps:List Str) (sp:Sp):Prop where
 len:∀vs H Q E,sp vs H Q E->vs.length=ps.length
 run:∀(A:Vo)(outer:List Env)(s:Va)(H:Hp)(args:Args)(us:List U8)(vs:List V)(Q:VK)(E:XK),aT k A->gq P w K mg base A outer s H->BindsTo s fd args (ps.zip us)->aE vs us->sp vs H Q E->
  VT (Vg P w) A (.call (.ref f) args) (CR CX outer P w H s Q E) s
theorem ay.mono{P:Vj}{w:Vm}{K:NM}{mg:Str->Option U8}{base:Vl}{CX:d3}{j k:Nat}{f:U9}{fd:Vh}{ps:List Str}{sp:Sp}(F:ay P w K mg base CX j f fd ps sp)(h:j<=k):
 ay P w K mg base CX k f fd ps sp:=⟨F.len,λA outer s H args us vs Q E hr=>F.run A outer s H args us vs Q E (hr.mono h)⟩
theorem ay.imp{P:Vj}{w:Vm}{K:NM}{mg:Str->Option U8}{base:Vl}{CX:d3}{k:Nat}{f:U9}{fd:Vh}{ps:List Str}{sp sp':Sp}(F:ay P w K mg base CX k f fd ps sp)
 (h:∀vs H Q E,sp' vs H Q E->sp vs H Q E):ay P w K mg base CX k f fd ps sp':=
 ⟨λvs H Q E q=>F.len vs H Q E (h _ _ _ _ q),λA outer s H args us vs Q E hr he hb hv hs=>F.run A outer s H args us vs Q E hr he hb hv (h _ _ _ _ hs)⟩
theorem gq.make{P:Vj}{w:Vm}{K:NM}{mg:Str->Option U8}{base:Vl}{A:Vo}{outer:List Env}{s:Va}{H:Hp}(e:gq P w K mg base A outer s H)(C:U9)(us:List U8)(kw:List (Str×U8)):
 gq P w K mg base (A.under (.builtin "type.__call__" ⟨.ref C::us,kw⟩)) outer s H:=⟨by first | exact e.frames | (simpa [Tv,Code.envs,Tw,pushEnvs] using e.frames),e.mod,e.bs,e.bsz,e.funs,e.frf,e.hok,e.bare⟩
theorem gq.in1{P:Vj}{w:Vm}{K:NM}{mg:Str->Option U8}{base:Vl}{A:Vo}{outer:List Env}{s:Va}{H:Hp}(e:gq P w K mg base A outer s H):
 gq P w K mg base A.in1 outer s H:=⟨e.frames,e.mod,e.bs,e.bsz,e.funs,e.frf,e.hok,e.bare⟩
section
variable {X:Cx} {Wy:List (U9×Obj)} {σ:St} {H:Hp} {s s':Va}
theorem af.env0(I:af X Wy σ H s):gq X.prog X.w X.K X.mg X.base X.A X.stack s H:=
 ⟨I.ok.frames,I.ok.mod,I.bs,Ot I.ok.bsz I.sz,I.stack,I.stkFree,I.hok,I.bare⟩
theorem af.after{Q:VK}{u:U8}(I:af X Wy σ H s)(h:CE X.stack X.prog X.w H s Q u s'):EP X Wy σ Q u s':=by
 obtain⟨v,H',os,bare,un,hok,r,q⟩:=h;obtain⟨hh,g,d,t,os'⟩:=s';obtain rfl:os'=s.os:=os;exact⟨v,H',I.call (h':=hh) (g':=g) (d':=d) (t':=t) (ch:=[]) un hok bare (λb z=>absurd z U6),r,q⟩
end
def kq(sp:Sp)(dvs:List V)(E:XK)(t:TA):TE:=λσ H Q=>t σ H λvs H1=>sp (vs++dvs) H1 Q E
def Ax(C:U9)(sp:Sp)(dvs:List V)(E:XK)(t:TA):TE:=λσ H Q=>t σ H λvs H1=>∀x dx,H1 x=none->H1 dx=none->dx≠x->
 sp (.ref x::(vs++dvs)) (ao (ao H1 dx (.own x)) x (.ins C dx [])) (λv H2=>v= .non/\Q (.ref x) H2) E
def dh(K:NM)(fd:Vh)(ps:List Str)(ds:List U8):Prop:=
 ∀(s:Va)(us:List U8),K.In s.heap->(us++ds).length=ps.length->BindsTo s fd ⟨us,[]⟩ (ps.zip (us++ds))
theorem dh.all{K:NM}{fd:Vh}{ps:List Str}(h:∀us:List U8,us.length=ps.length->Wk fd ⟨us,[]⟩=pure (ps.zip us)):dh K fd ps []:=λs us _ hl=>by
 rw [Oi] at hl⊢;exact .of_eq (h us hl)
def i4(CX:d3)(X:Cx)(E:XK):Prop:=∀(Wy:List (U9×Obj))(σ:St)(H:Hp)(s:Va)(e:U8)(s':Va),af X Wy σ H s->CX X.stack H s E e s'->X.xe e s'
section
variable {X:Cx} {CX:d3} {k:Nat} {f C:U9} {fd:Vh} {ps:List Str} {sp:Sp} {dvs:List V} {ds:List U8} {E:XK} {x m:Str} {p pos apos:Pos} {e o:Vd} {es:List Vd} {ta:TE} {t:TA}
theorem Ay{Wy:List (U9×Obj)}{σ:St}{H:Hp}{s:Va}{Q:VK}{us:List U8}{vs:List V}(F:ay X.prog X.w X.K X.mg X.base CX k f fd ps sp)(hr:aT k X.A)(hb:dh X.K fd ps ds)(hd:aE dvs ds)(hx:i4 CX X E)
 (I:af X Wy σ H s)(r:aE vs us)(h:sp (vs++dvs) H Q E):Vf (Vg X.prog X.w) X.A (call (.ref f) us) (EP X Wy σ Q) X.xe s:=by
 have r2:aE (vs++dvs) (us++ds):=r.append hd;have hl:(us++ds).length=ps.length:=by rw [<-r2.length];exact F.len _ _ _ _ h
 refine wpAny_call (VU (F.run X.A X.stack s H ⟨us,[]⟩ (us++ds) (vs++dvs) Q E hr I.env0 (hb s us I.kIn hl) r2 h) λr s' hq=>?_);cases r with
 | error e=>exact hx Wy σ H s e s' I hq
 | ok fl=>
  cases fl with
  | ret u=>exact I.after hq
  | next=>exact O7 hq
  | brk=>exact O7 hq
  | cont=>exact O7 hq
theorem qz(F:ay X.prog X.w X.K X.mg X.base CX k f fd ps sp)(hr:aT k X.A)(hg:Gl X x)(hm:X.mg x=some (.ref f))(hk:Pu X.K (.ref f)=true)(hb:dh X.K fd ps ds)(hd:aE dvs ds)(hx:i4 CX X E)
 (ha:PA X (e::es) t)(hdb:(x==("__debug__":Str))=false:=by decide)(he:Vc (e::es) X.env=(false,eval e X.env)::Vc es X.env:=by rfl)(hpl:(Vr pos (Vc es X.env)).any (·.1)=false:=by rfl):
 PE X (.Call (.Name x p) (e::es) [] pos) (kq sp dvs E t):=by
 intro Wy s σ H Q I h;refine VD (jA I hg hm ?_ hdb);refine QI (h₀:=X.base) I.ok.mod.kin hk (aB (ha pos Wy s σ H _ I h) λus s1 ⟨vs,H1,I1,r,q⟩=>⟨I1.kIn,?_⟩) he hpl;exact Ay F hr hb hd hx I1 r q
structure Mk (K:NM) (C f:U9):Prop where
 makes:SN K C=true
 init:Pa K (.ref C) "__init__"=some (some (.ref f))
 fn:Tx K (.ref f)=true
 kp:Pu K (.ref C)=true
theorem GJ{Wy:List (U9×Obj)}{σ:St}{H:Hp}{s:Va}{Q:VK}{us:List U8}{vs:List V}(M:Mk X.K C f)(F:ay X.prog X.w X.K X.mg X.base CX k f fd ps sp)(hr:aT (k+1) X.A)(hb:dh X.K fd ps ds)(hd:aE dvs ds)
 (hx:i4 CX X E)(I:af X Wy σ H s)(r:aE vs us)
 (h:∀x dx,H x=none->H dx=none->dx≠x->sp (.ref x::(vs++dvs)) (ao (ao H dx (.own x)) x (.ins C dx [])) (λv H2=>v= .non/\Q (.ref x) H2) E):
 Vf (Vg X.prog X.w) X.A (call (.ref C) us) (EP X Wy σ Q) X.xe s:=by
 have hq:=h (s.heap.objs.size+1) s.heap.objs.size (I.hok.fresh (RW _)) (I.hok.fresh (NV _)) (Oj (Sr _));have I2:=af.made (C:=C) I;have r2:aE (V.ref (s.heap.objs.size+1)::(vs++dvs)) (Of (s.heap.objs.size+1)::(us++ds)):= .cons rfl (r.append hd);have hl:(Of (s.heap.objs.size+1)::us++ds).length=ps.length:=by
  have e:=r2.length;rw [F.len _ _ _ _ hq] at e;exact e.symm
 refine wpAny_call (Gv (f:=f) I.kIn M.makes M.init (beq_iff_eq.mp M.fn) (VU (F.run _ X.stack _ _ ⟨Of (s.heap.objs.size+1)::us,[]⟩ (Of (s.heap.objs.size+1)::(us++ds)) _ _ E (hr.make C us [])
  (I2.env0.make C us []) (hb _ (Of (s.heap.objs.size+1)::us) I2.kIn hl) r2 hq) λr s' hq'=>?_))
 cases r with
 | error e=>exact hx Wy σ _ _ e s' I2 hq'
 | ok fl=>
  cases fl with
  | ret u=>
   obtain⟨v,H',I3,rv,ev,q3⟩:=I2.after hq';subst ev;exact⟨rv,⟨V.ref (s.heap.objs.size+1),H',I3,rfl,q3⟩⟩
  | next=>exact O7 hq'
  | brk=>exact O7 hq'
  | cont=>exact O7 hq'
theorem vc(M:Mk X.K C f)(F:ay X.prog X.w X.K X.mg X.base CX k f fd ps sp)(hr:aT (k+1) X.A)(hg:Gl X x)(hm:X.mg x=some (.ref C))(hb:dh X.K fd ps ds)(hd:aE dvs ds)(hx:i4 CX X E)
 (ha:PA X (e::es) t)(hdb:(x==("__debug__":Str))=false:=by decide)(he:Vc (e::es) X.env=(false,eval e X.env)::Vc es X.env:=by rfl)(hpl:(Vr pos (Vc es X.env)).any (·.1)=false:=by rfl):
 PE X (.Call (.Name x p) (e::es) [] pos) (Ax C sp dvs E t):=by
 intro Wy s σ H Q I h;refine VD (jA I hg hm ?_ hdb);refine QI (h₀:=X.base) I.ok.mod.kin M.kp (aB (ha pos Wy s σ H _ I h) λus s1 ⟨vs,H1,I1,r,q⟩=>⟨I1.kIn,?_⟩) he hpl;exact GJ M F hr hb hd hx I1 r q
end
section
variable {X:Cx} {CX:d3} {k:Nat} {f C:U9} {fd:Vh} {ps ks:List Str} {sp:Sp} {E:XK} {x m:Str} {p pos apos kpos:Pos} {e o:Vd} {es:List Vd} {kws:List VO} {te ta:TE} {t tk:TA} {nm:Option Str}
variable {g:List U8->List U8->List U8} {gV:List V->List V->List V}
end
structure aP (N P:List Str) (sc:Vv):Prop where
 kind:sc.kind= .function
 co:sc.isCoroutine=false
 gen:sc.isGenerator=false
 nd:N.Nodup
 pre:N.take P.length=P
 par:∀x∈P,sc.names.lookup x=some .local\/sc.names.lookup x=some .cell
 nofree:∀y∈sc.names,y.2≠ .free
theorem Az{kindOf:Str->Option VF}{x:Str}:∀{binds:List (Str×U8)}{m:Str->Option U8},(∀v,(x,v)∉ binds)->bindL kindOf binds m x=m x
 | [],_,_=>rfl
 | (n,v)::r,m,h=>by
  unfold bindL;rw [Az λw hw=>h w (OB _ hw)];split
  ·have:x≠n:=by rintro rfl;exact h v OY
   simp [this]
  ·rfl
theorem AA{kindOf:Str->Option VF}{x:Str}:∀{binds:List (Str×U8)}{m:Str->Option U8},(∀v,(x,v)∉ binds)->bindC kindOf binds m x=m x
 | [],_,_=>rfl
 | (n,v)::r,m,h=>by
  unfold bindC;rw [AA λw hw=>h w (OB _ hw)];split
  ·rfl
  ·have:x≠n:=by rintro rfl;exact h v OY
   simp [this]
theorem AB{kindOf:Str->Option VF}{x:Str}{v:U8}:∀{P:List Str}{vs:List U8}{i:Nat}{m:Str->Option U8},P.Nodup->P[i]?=some x->vs[i]?=some v->kindOf x=some .local->
 bindL kindOf (P.zip vs) m x=some v
 | [],_,_,_,_,h,_,_=>by simp at h
 | _::_,[],_,_,_,_,h,_=>by simp at h
 | p::P,w::vs,0,m,nd,h1,h2,hk=>by
  simp at h1 h2;subst h1;subst h2;show bindL kindOf ((p,w)::P.zip vs) m p=_;unfold bindL;rw [Az λv hv=>(PL.mp nd).1 (SO hv).1,U4 hk];simp
 | p::P,w::vs,i+1,m,nd,h1,h2,hk=>by
  show bindL kindOf ((p,w)::P.zip vs) m x=_;unfold bindL;exact AB (i:=i) (PL.mp nd).2 (by simpa using h1) (by simpa using h2) hk
theorem AD{kindOf:Str->Option VF}{x:Str}{v:U8}:∀{P:List Str}{vs:List U8}{i:Nat}{m:Str->Option U8},P.Nodup->P[i]?=some x->vs[i]?=some v->kindOf x≠some .local->
 bindC kindOf (P.zip vs) m x=some v
 | [],_,_,_,_,h,_,_=>by simp at h
 | _::_,[],_,_,_,_,h,_=>by simp at h
 | p::P,w::vs,0,m,nd,h1,h2,hk=>by
  simp at h1 h2;subst h1;subst h2;show bindC kindOf ((p,w)::P.zip vs) m p=_;unfold bindC;rw [AA λv hv=>(PL.mp nd).1 (SO hv).1,U3 hk];simp
 | p::P,w::vs,i+1,m,nd,h1,h2,hk=>by
  show bindC kindOf ((p,w)::P.zip vs) m x=_;unfold bindC;exact AD (i:=i) (PL.mp nd).2 (by simpa using h1) (by simpa using h2) hk
def start(N:List Str)(vs:List V):St:=vs.map some++Oa (N.length - vs.length) none
def bh(CX:d3)(P:Vj)(w:Vm)(K:NM)(mg:Str->Option U8)(base:Vl)(N:List Str)(qual:Str)(scope:Vv)(f:U9)(cd:U8)(A:Vo)(outer:List Env)(s:Va)(H:Hp)(E:XK):Cx where
 prog:=P
 w:=w
 K:=K
 mg:=mg
 base:=base
 A:=A.deeper (VM qual scope s.heap.objs.size f cd)
 N:=N
 s₀:=s
 H₀:=H
 env:=VM qual scope s.heap.objs.size f cd
 outer:=outer
 stack:=VM qual scope s.heap.objs.size f cd::outer
 ex:=[]
 calm:=true
 fn:=λ_=>true
 pn:=[]
 xe:=λe s'=>Vf (Vg P w) (A.deeper (VM qual scope s.heap.objs.size f cd)) (leaving (VM qual scope s.heap.objs.size f cd) e) (λ_ s''=>CX outer H s E e s'') (λe' s''=>CX outer H s E e' s'') s'
theorem AE{sc:Vv}{n:Nat}{x:Str}(h:sc.names.lookup x=some .cell):∃c,(VC n sc.names []).lookup x=some c:=by
 have q:=Rz sc.names n [] (.inl h);exact Qe.mp q
theorem GK{CX:d3}{P:Vj}{w:Vm}{K:NM}{mg:Str->Option U8}{base:Vl}{N ps:List Str}{qual:Str}{scope:Vv}{f:U9}{cd:U8}{A:Vo}{outer:List Env}{s s1:Va}{H:Hp}{E:XK}{us:List U8}{vs:List V}
 (S:aP N ps scope)(hd:A.handled=none)(e0:gq P w K mg base A outer s H)(hl:vs.length=ps.length)(r:aE vs us)
 (x:InCallC s s.heap.objs.size (bindL (VM qual scope s.heap.objs.size f cd).kindOf (ps.zip us) λ_=>none) (VC (s.heap.objs.size+1) scope.names []) (bindC (VM qual scope s.heap.objs.size f cd).kindOf (ps.zip us) λ_=>none) s1):
 af (bh CX P w K mg base N qual scope f cd A outer s H E) [] (start N vs) H s1:=by
 have hpl:ps.length<=N.length:=by have:=congrArg T7 S.pre;rw [OQ] at this;omega
 obtain⟨h1,tk,rfl,hk⟩:=x.done;have noA:∀b:U9,b ∉ (bh CX P w K mg base N qual scope f cd A outer s H E).ex:=λb z=>absurd (show b∈([]:List U9) from z) U6;refine⟨⟨e0.mod,S.kind,rfl,rfl,NV _,λy z c h1 h2=>?_,λy hy=>?_,λy c _ h=>?_,λ_=>hd,Te e0.frames,.inr ⟨rfl,rfl⟩,λb z=>absurd z (noA b),e0.bs,e0.bsz,λb _ _=>noA b,λb z=>absurd z (noA b),e0.funs,e0.frf⟩,
  rfl,e0.bare,Un.kept hk,⟨_,x.toInCall.ns,λi y v h1 h2 h3=>?_⟩,λy c h=>⟨_,x.cell y c h⟩,e0.hok.fresh (NV _),λy c h=>?_,λp hp=>absurd (show p∈([]:List (U9×Obj)) from hp) U6,e0.hok.kept hk,?_⟩
 ·exact name_of_addr x.apart (Ph h1) (Ph h2)
 ·have hy:scope.names.lookup y=some .cell\/scope.names.lookup y=some .free:=hy;rcases hy with hy | hy
  ·exact AE hy
  ·exact absurd rfl (S.nofree _ (Ph hy))
 ·exact Qm (x.above y c (Ph h))
 ·have hi:i < vs.length:=by
   unfold start at h2;by_cases hi:i < vs.length
   ·exact hi
   ·rw [P4 (by simpa using hi)] at h2;rw [QH] at h2;split at h2 <;> cases h2
  have ha:vs[i]?=some v:=by
   unfold start at h2;rw [P9 (by simpa using hi),Ob] at h2;cases e:vs[i]? with
   | none=>rw [e] at h2;cases h2
   | some a=>rw [e] at h2;cases h2;rfl
  obtain⟨u,hu,rv⟩:=r.get ha;have hp:ps[i]?=some y:=by
   rw [<-S.pre,List.getElem?_take_of_lt U2];exact h1
  have ndP:ps.Nodup:=by rw [<-S.pre];exact S.nd.sublist (QN _ _)
  refine⟨u,rv,?_⟩;rcases S.par y (Oq hp) with k | k
  ·exact .inl ⟨k,AB ndP hp hu k⟩
  ·obtain⟨c,e⟩:=AE (n:=s.heap.objs.size+1) k;refine .inr ⟨.inl k,c,e,?_⟩;have q:=x.cell y c e;rw [AD ndP hp hu (by show scope.names.lookup y≠_;rw [k];decide)] at q;exact q
 ·exact e0.hok.fresh (Qm (x.above y c (Ph h)))
 ·unfold start;show _=N.length;rw [OR,NO,P8];omega
theorem qA{CX:d3}{P:Vj}{w:Vm}{K:NM}{mg:Str->Option U8}{base:Vl}{k:Nat}{f:U9}{name qual:Str}{params:Wf}{body:List Vn}{scope:Vv}{dV kV doc pm cdv ct oc:U8}{an od:Option U9}
 {osl:Array (Option U8)}{N ps:List Str}{sp:Sp}(lk:K.lookup f=some ⟨oc,od,.func (PQ name qual params body scope dV kV doc pm an cdv ct),osl⟩)(hcd:Ro K cdv qual=true)(S:aP N ps scope)
 (len:∀vs H Q E,sp vs H Q E->vs.length=ps.length)
 (hbody:∀(A:Vo) (outer:List Env) (s:Va) (H:Hp) (vs:List V) (Q:VK) (E:XK),aT k (A.deeper (VM qual scope s.heap.objs.size f cdv))->sp vs H Q E->
   ∃t,bG (bh CX P w K mg base N qual scope f cdv A outer s H E) body t/\t {nx:=λ_ H'=>Q .non H',rt:=Q} (start N vs) H):
 ay P w K mg base CX (k+1) f (PQ name qual params body scope dV kV doc pm an cdv ct) ps sp:=by
 refine⟨len,λA outer s H args us vs Q E hr e0 hb r hsp=>?_⟩;have hl:=len _ _ _ _ hsp;have KX:K.In s.heap:=e0.mod.kin.keeps λb o e=>(e0.bs b o e).1;have lim:s.heap.NoLimit:=e0.mod.nolimit.keeps λb o e=>(e0.bs b o e).1;have hkind:∀y∈ps.zip us,scope.names.lookup y.1=some .local\/(scope.names.lookup y.1=some .cell/\((VC (s.heap.objs.size+1) scope.names []).lookup y.1).isSome=true):=λuu48 hy=>by
  obtain⟨n,v⟩:=uu48;rcases S.par n (SO hy).1 with q | q
  ·exact .inl q
  ·exact .inr ⟨q,Rz _ _ _ (.inl q)⟩
 refine codeAny_call_function hr.depth (KX _ _ lk) rfl S.co S.gen rfl (PySem.W.codeRec_of KX hcd) (hb _ _ _ _ ?_);refine wpAny_newFunctionEnv_cells S.kind hkind λenv he s1 x=>?_;subst he;refine⟨lim.keeps x.toInCall.keep,codeAny_func ?_⟩;obtain⟨t,ht,hq⟩:=hbody A outer s H vs Q E (hr.deeper _) hsp;have I:af (bh CX P w K mg base N qual scope f cdv A outer s H E) [] (start N vs) H s1:=GK S hr.hd e0 hl r x;refine Vu (ht [] s1 (start N vs) H _ I hq) (λfl s' hs=>?_) λe s' hs=>hs;have fin:∀{σ':St}{H':Hp}{v:V}{u:U8},af (bh CX P w K mg base N qual scope f cdv A outer s H E) [] σ' H' s'->aF v u->Q v H'->CE outer P w H s Q u s':=
  λ{σ' H' v u} J rv q=>⟨v,H',J.os,J.bare,J.base,J.hok,rv,q⟩
 cases fl with
 | ret u=>
  obtain⟨v,σ',H',J,rv,q⟩:=hs;exact fin J rv q
 | next=>
  obtain⟨σ',H',J,q⟩:=hs;exact fin (v:=V.non) (u:=Qz) J rfl q
 | brk=>
  obtain⟨_,_,_,q⟩:=hs;exact O7 q
 | cont=>
  obtain⟨_,_,_,q⟩:=hs;exact O7 q
section
variable {X:Cx} {x:Str} {p pos:Pos} {e:Vd} {es:List Vd} {t:TA} {id T:String} {r:List V->Hp->VK->Prop}
def mw(r:List V->Hp->VK->Prop)(t:TA):TE:=λσ H Q=>t σ H λvs H1=>r vs H1 Q
theorem bP(hc:cH X (.builtin id) r)(hg:Gl X x)(hm:X.mg x=none)(hv:Vq x=some (.builtin id))(ha:PA X (e::es) t)(hn:x≠"__name__":=by decide)(hdb:(x==("__debug__":Str))=false:=by decide)
 (he:Vc (e::es) X.env=(false,eval e X.env)::Vc es X.env:=by rfl)(hpl:(Vr pos (Vc es X.env)).any (·.1)=false:=by rfl):PE X (.Call (.Name x p) (e::es) [] pos) (mw r t):=by
 intro Wy s σ H Q I h;refine VD (kc I hg hm hv ?_ hn hdb);exact PyProof.Rows.callWith_builtin1 (aB (ha pos Wy s σ H _ I h) λus s1 uu49=>by obtain⟨vs,H1,I1,r1,q1⟩:=uu49;exact hc Wy s1 σ H1 vs us Q I1 r1 q1) he hpl
theorem eR(hc:cH X (.type T) r)(hg:Gl X x)(hm:X.mg x=none)(hv:Vq x=some (.type T))(ha:PA X (e::es) t)(hn:x≠"__name__":=by decide)(hdb:(x==("__debug__":Str))=false:=by decide)
 (he:Vc (e::es) X.env=(false,eval e X.env)::Vc es X.env:=by rfl)(hpl:(Vr pos (Vc es X.env)).any (·.1)=false:=by rfl):PE X (.Call (.Name x p) (e::es) [] pos) (mw r t):=by
 intro Wy s σ H Q I h;refine VD (kc I hg hm hv ?_ hn hdb);exact QR (aB (ha pos Wy s σ H _ I h) λus s1 uu50=>by obtain⟨vs,H1,I1,r1,q1⟩:=uu50;exact hc Wy s1 σ H1 vs us Q I1 r1 q1) he hpl
end
end L2
namespace HT
open PySem PyProof.Rows
theorem eqAt_int(A:Vo)(s:Va)(a:Int)(t:Tok)(c:Int)(u:Tok):∃e,SeqAt.EqAt A s (.int a t) (.int c u) e/\(e=true↔a=c):=
 ⟨(a==c),SeqAt.EqAt.int_int a t c u,U6⟩
theorem rcLt_int(A:Vo)(s:Va)(a:Int)(t:Tok)(c:Int)(u:Tok)(prog:Vj)(w:Vm)(E:U8->Va->Prop)(Q:U8->Va->Prop)(h:Q (.bool (decide (a < c))) s):
 Vf (Vg prog w) A (richCompare .Lt (.int a t) (.int c u)) Q E s:=
 (PyProof.Rows.lt_int h:Vf (Vg prog w) A (Vs .Lt (.int a t) (.int c u)) Q E s)
section
open PySem.SeqAt
open PySem.AutoSeq1 (wpAny_loadPart')
open PySem.MeetsSeq PySem.MeetsSeq2 PySem.MeetsSeq3
end
section
variable {prog:Vj} {w:Vm} {A:Vo} {E:U8->Va->Prop} {s:Va}
theorem cat_tup{t b:U9}{vs ws:List U8}{Q:U8->Va->Prop}(ht:IsTup s.heap t vs.toArray)(hb:IsTup s.heap b ws.toArray)(hv:vs≠[])
 (h1:ws=[]->Q (.ref t) s)(h2:ws≠[]->Q (.ref s.heap.objs.size) {s with heap:=s.heap.push {cls:= .type "tuple",data:= .seq (vs++ws).toArray}})
 (hsz:vs.length+ws.length<=Ve):Vf (Vg prog w) A (VI .Add (.ref t) (.ref b)) Q E s:=by
 obtain⟨⟨cls,dd,data,sl⟩,ho,hc,n,hd⟩:=id ht;obtain⟨⟨cls2,dd2,data2,sl2⟩,ho2,hc2,n2,hd2⟩:=id hb;simp only at hc hd hc2 hd2;subst hc hd hc2 hd2;have e:vs.toArray++ws.toArray=(vs++ws).toArray:=U6
 by_cases hw:ws=[]
 ·exact concat_meets ⟨_,ho,rfl⟩ ⟨_,ho2,rfl⟩ Wu seq_tuple_add RA Ru (Rf _ _)
   (tuple_addW1 t b vs.toArray ws.toArray n n2 dd dd2 sl sl2 (by simpa using hv) (by simp [hw])) ⟨ho,ho2,h1 hw⟩
 ·refine concat_meets ⟨_,ho,rfl⟩ ⟨_,ho2,rfl⟩ Wu seq_tuple_add RA Ru (Rf _ _)
   (tuple_addW2 t b vs.toArray ws.toArray n n2 dd dd2 sl sl2 (by simpa using hv) (by simpa using hw) (by rw [N8,N8];exact hsz)) ⟨ho,ho2,?_⟩
  rw [e];exact h2 hw
def sIx(n d:Nat):Option Int->Nat
 | none=>d
 | some v=>if v < 0 then(v+(n:Int)).toNat else min v.toNat n
theorem vd(n d:Nat):sIx n d none=d:=rfl
theorem sIx_nat(n d k:Nat):sIx n d (some (k:Int))=min k n:=by
 show(if (k:Int) < 0 then((k:Int)+(n:Int)).toNat else min (k:Int).toNat n)=min k n;rw [U3 U2,Sd]
theorem GL(n d:Nat)(hd:d<=n)(o:Option Int):sIx n d o<=n:=by
 cases o with
 | none=>exact hd
 | some v=>
  show(if v < 0 then(v+(n:Int)).toNat else min v.toNat n)<=n;by_cases hv:v < 0
  ·rw [U4 hv];omega
  ·rw [U3 hv];exact Ub _ _
theorem AF(v:Int)(n d:Nat):(if v < 0 then max (v+(n:Int)) 0 else min v (n:Int))=((sIx n d (some v):Nat):Int):=by
 show(if v < 0 then max (v+(n:Int)) 0 else min v (n:Int))=(((if v < 0 then(v+(n:Int)).toNat else min v.toNat n):Nat):Int);by_cases hv:v < 0
 ·simp only [U4 hv];omega
 ·simp only [U3 hv];omega
theorem GN(lo hi:Option Int)(n:Nat):PM lo hi 1 (n:Int)=(((sIx n 0 lo:Nat):Int),((sIx n n hi:Nat):Int)):=by
 have h1:¬((1:Int) < 0):=U2
 unfold PM;simp only [h1,if_false];refine Prod.ext ?_ ?_
 ·cases lo with
  | none=>rfl
  | some v=>exact AF v n 0
 ·cases hi with
  | none=>rfl
  | some v=>exact AF v n n
theorem GO(i j:Nat):Pd (i:Int) (j:Int) 1=j - i:=by
 unfold Pd;have h1:(1:Int) > 0:=U2
 simp only [h1,if_true,UH];split <;> omega
theorem AG{v:U8}{o:Option Int}{Q:Option Int->Va->Prop}(p:IsPart v o)(h:Q o s):Vf (Vg prog w) A (Builtin.Slice.slicePartIndex v) Q E s:=by
 cases p with
 | none=>exact Wl h
 | int i t=>exact slicePart_int h
theorem sliceApplied_gen{sl:U9}{vl vu:U8}{lo hi:Option Int}{n:Nat}{Q:Int×Int×Nat->Va->Prop}(hs:s.heap.IsSliceOf sl vl vu .none)(pl:IsPart vl lo)(pu:IsPart vu hi)
 (h:Q (((sIx n 0 lo:Nat):Int),1,sIx n n hi - sIx n 0 lo) s):Vf (Vg prog w) A (Qu (.ref sl) (pure (n:Int))) Q E s:=by
 obtain⟨os,hos,hcs,hds⟩:=id hs;unfold Qu Sj;refine Vb (Vb (V6 hos hds (x:=vl) rfl (Vb (V6 hos hds (x:=vu) rfl (Vb (V6 hos hds (x:= .none) rfl (Vi ?_)))))));refine Vb (Wl ?_);show Vf _ _ (if ((1:Int)==0)=true then _ else _) _ _ s;rw [U3 U1];refine Vb (AG pl (Vb (AG pu (Vb (Vi ?_)))));show Vf _ _ (match PM lo hi 1 (n:Int) with | (lo,hi)=>pure (lo,(1:Int),Pd lo hi 1)) _ _ s;rw [GN lo hi n];show Vf _ _ (pure (((sIx n 0 lo:Nat):Int),(1:Int),Pd ((sIx n 0 lo:Nat):Int) ((sIx n n hi:Nat):Int) 1)) _ _ s;rw [GO];exact Vi h
theorem GP(xs:Array U8)(i k:Nat):((OU k).filterMap λ(m:Nat)=>xs[((i:Int)+(m:Int)*1).toNat]?).toArray=((xs.toList.drop i).take k).toArray:=by
 have e:(λ(m:Nat)=>xs[((i:Int)+(m:Int)*1).toNat]?)=λm=>xs[i+m]?:=by
  funext m;have:((i:Int)+(m:Int)*1).toNat=i+m:=U2
  rw [this]
 rw [e];have:=pick_run xs i k;rw [RY] at this;have e2:((λx=>xs[x]?)∘ λx=>i+x)=λm=>xs[i+m]?:=rfl;rw [e2] at this;rw [this]
theorem getItem_tuple_cut{t sl:U9}{items:Array U8}{vl vu:U8}{lo hi:Option Int}{Q:U8->Va->Prop}(ht:IsTup s.heap t items)(hs:s.heap.IsSliceOf sl vl vu .none)(pl:IsPart vl lo)(pu:IsPart vu hi)
 (hw:¬(sIx items.size 0 lo=0/\sIx items.size items.size hi=items.size))
 (h:Q (.ref s.heap.objs.size) {s with heap:=s.heap.push {cls:= .type "tuple",data:= .seq ((items.toList.drop (sIx items.size 0 lo)).take (sIx items.size items.size hi - sIx items.size 0 lo)).toArray}})
 (hsz:items.size<=Ve):Vf (Vg prog w) A (VN (.ref t) (.ref sl)) Q E s:=by
 have htake:sizeOk (.seq ((items.toList.drop (sIx items.size 0 lo)).take (sIx items.size items.size hi - sIx items.size 0 lo)).toArray):=by
  show((items.toList.drop (sIx items.size 0 lo)).take (sIx items.size items.size hi - sIx items.size 0 lo)).toArray.size<=Ve;rw [N8,OQ,RG,OF];omega
 have hj:sIx items.size items.size hi<=items.size:=GL _ _ (NV _) hi;obtain⟨os,hos,hcs,hds⟩:=id hs;have hTs:s.TypeIs (.ref sl) "slice":=⟨os,hos,hcs⟩;unfold VN
 try with_reducible refine Vz ?_
 first | refine Vb (Vi ?_) | skip
 refine Vb (Ws ht.typeIs U1 ?_);refine Vb (V5 (name:=NL "__getitem__") ht.typeIs Pl
  (VW Pl ht.typeIs entry_tuple_getitem ?_ (args_tuple_getitem _ _)))
 show Vf _ _ (QX (.ref t) >>=_) _ _ s;refine Vb (tupleItemsOf_ ht ?_);refine Vb (V0 hTs ?_);rw [U4 U1];refine Vb (sliceApplied_gen hs pl pu ?_);have hno:¬((((sIx items.size 0 lo:Nat):Int)==0 && (1:Int)==1 && (sIx items.size items.size hi - sIx items.size 0 lo)==items.size)=true):=by
  intro q;rw [OV,OV] at q;have q1:((sIx items.size 0 lo:Nat):Int)=0:=eq_of_beq q.1.1;have q2:sIx items.size items.size hi - sIx items.size 0 lo=items.size:=eq_of_beq q.2;exact hw ⟨U2,U2⟩
 show Vf _ _ (if (((sIx items.size 0 lo:Nat):Int)==0 && (1:Int)==1 && (sIx items.size items.size hi - sIx items.size 0 lo)==items.size)=true then _ else _) _ _ s;rw [U3 hno,GP]
 first
  | exact Vb (m:=Pg _) (VB (Vi ⟨_,rfl,Vi h⟩) htake)
  | exact Vb (m:=Pg _) (VB (Vb (Vi (Vi ⟨_,rfl,Vi h⟩))) htake)
  | exact Vb (Vb (m:=Pg _) (VB (Vi (Vi ⟨_,rfl,Vi h⟩)) htake))
  | exact Vb (Vb (m:=Pg _) (VB (Vi ⟨_,rfl,Vi h⟩) htake))
end
end HT
namespace L2
open PySem PySem.Spec PyProof.Rows
abbrev TO:=St->Hp->(Option Int->Hp->Prop)->Prop
def PO(X:Cx)(e:Option Vd)(t:TO):Prop:=
 ∀(Wy:List (U9×Obj))(s:Va)(σ:St)(H:Hp)(Q:Option Int->Hp->Prop),af X Wy σ H s->t σ H Q->
  Vf (Vg X.prog X.w) X.A (evalPart e X.env) (λu s'=>∃o H',af X Wy σ H' s'/\IsPart u o/\Q o H') X.xe s
def GQ:TO:=λ_ H Q=>Q none H
def GR(t:TE):TO:=λσ H Q=>t σ H λx H1=>∃i,x= .int i/\Q (some i) H1
theorem GS{ns:List Int}:∀{us:List U8},aE (ns.map V.int) us->IntsAre us ns:=by
 induction ns with
 | nil=>intro us r;rw [OS] at r;cases r;exact .nil
 | cons n ns ih=>
  intro us r;rw [NS] at r;cases r with
  | cons r1 r2=>
   obtain⟨t,e⟩:=r1;subst e;exact .cons n t (ih r2)
section
variable {X:Cx} {e:Vd} {te:TE} {lo hi:Option Vd} {tl th:TO} {pos p2:Pos}
theorem GU:PO X none GQ:=by
 intro Wy s σ H Q I h;rw [evalPart_none];exact Vi ⟨none,H,I,.none,h⟩
theorem GV(h:PE X e te):PO X (some e) (GR te):=by
 intro Wy s σ H Q I hw;rw [evalPart_some];refine aB (h Wy s σ H _ I hw) λu s1 ⟨x,H1,I1,r1,q1⟩=>?_;obtain⟨i,rfl,q⟩:=q1;obtain⟨t,rfl⟩:=r1;exact⟨some i,H1,I1,.int i t,q⟩
def my(X:Cx)(r:V->Option Int->Option Int->Hp->VK->Prop):Prop:=
 ∀(Wy:List (U9×Obj))(s:Va)(σ:St)(H:Hp)(x:V)(v vl vu:U8)(lo hi:Option Int)(sl:U9)(Q:VK),af X Wy σ H s->aF x v->s.heap.IsSliceOf sl vl vu .none->IsPart vl lo->IsPart vu hi->r x lo hi H Q->
  ∃T id,typeLookup (.type T) "__getitem__"=pure (some (.builtin id))/\s.TypeIs v T/\Vf (Vg X.prog X.w) X.A (VN v (.ref sl)) (EP X Wy σ Q) X.xe s
def GW(r:V->Option Int->Option Int->Hp->VK->Prop)(te:TE)(tl th:TO):TE:=λσ H Q=>te σ H λx H1=>tl σ H1 λl H2=>th σ H2 λu H3=>r x l u H3 Q
theorem qB{r:V->Option Int->Option Int->Hp->VK->Prop}(hr:my X r)(he:PE X e te)(hl:PO X lo tl)(hu:PO X hi th):PE X (.Subscript e (.Slice lo hi none p2) pos) (GW r te tl th):=by
 intro Wy s σ H Q I h;refine Subscript_ (aB (he Wy s σ H _ I h) λv s1 ⟨x,H1,I1,r1,q1⟩=>?_);refine wpAny_Slice (aB (hl Wy s1 σ H1 _ I1 q1) λvl s2 ⟨l,H2,I2,pl,q2⟩=>aB (hu Wy s2 σ H2 _ I2 q2) λvu s3 ⟨u,H3,I3,pu,q3⟩=>?_);rw [evalPart_none];refine Vi ?_;have I4:af X Wy σ H3 {s3 with heap:=s3.heap.push {cls:= .type "slice",data:= .fields #[vl,vu,.none]}}:=I3.kept (t':=s3.toks) λb ob q=>NT _ q;obtain⟨T,id,hT,ht,hg⟩:=hr Wy {s3 with heap:=s3.heap.push {cls:= .type "slice",data:= .fields #[vl,vu,.none]}} σ H3 x v vl vu l u s3.heap.objs.size Q I4 r1 (Tz ..) pl pu q3;show Vf (Vg X.prog X.w) X.A (Wq e (.Slice lo hi none p2) v (.ref s3.heap.objs.size)) (EP X Wy σ Q) X.xe {s3 with heap:=s3.heap.push {cls:= .type "slice",data:= .fields #[vl,vu,.none]}};exact tail_any (ops:=[.ref s3.heap.objs.size,v]) ht hT hg (by with_unfolding_all rfl)
def iy(xs:List V)(lo hi:Option Int):List V:=(xs.drop (HT.sIx xs.length 0 lo)).take (HT.sIx xs.length xs.length hi - HT.sIx xs.length 0 lo)
theorem AH(xs:List V)(lo hi:Option Int):(iy xs lo hi).length<=xs.length:=by
 unfold iy;rw [OQ,RG];omega
def GX(K:NM):V->Option Int->Option Int->Hp->VK->Prop:=λx lo hi H Q=>∃a xs,x= .ref a/\bx K H a xs/\
 ¬(HT.sIx xs.length 0 lo=0/\HT.sIx xs.length xs.length hi=xs.length)/\∀p,H p=none->Q (.ref p) (ao H p (.tup (iy xs lo hi)))
theorem GY:my X (GX X.K):=by
 intro Wy s σ H x v vl vu lo hi sl Q I rx hs pl pu h;obtain⟨a,xs,rfl,hx,hw,q⟩:=h;cases rx;obtain⟨its,r,ht,hz⟩:=I.tuple hx;have hlen:its.toArray.size=xs.length:=by rw [N8];exact r.length.symm
 refine⟨"tuple",_,Pl.lookup,ht.typeIs,?_⟩;refine HT.getItem_tuple_cut ht hs pl pu (by rw [hlen];exact hw) ?_ (by rw [hlen];exact hz);rw [hlen];refine⟨.ref s.heap.objs.size,_,I.laid (t':=s.toks) (o:= .tup (iy xs lo hi)) (λb ob q=>NT _ q) (NV _) ?_,rfl,q _ (I.hok.fresh (NV _))⟩;exact⟨Ot (AH xs lo hi) hz,_,(r.drop (HT.sIx xs.length 0 lo)).take (HT.sIx xs.length xs.length hi - HT.sIx xs.length 0 lo),SK _ _⟩
def ve(K:NM):R2:=λx y H Q=>∃a b xs ys,x= .ref a/\y= .ref b/\bx K H a xs/\bx K H b ys/\xs≠[]/\xs.length+ys.length<=Ve/\
 (ys=[]->Q (.ref a) H)/\(ys≠[]->∀p,H p=none->Q (.ref p) (ao H p (.tup (xs++ys))))
theorem aE.nil_iff{xs:List V}{us:List U8}(r:aE xs us):us=[]↔xs=[]:=by
 cases r with
 | nil=>simp
 | cons _ _=>simp
theorem GZ:bT X (VI .Add) (ve X.K):=by
 intro Wy s σ H x y v u Q I rx ry h;obtain⟨a,b,xs,ys,rfl,rfl,ha,hb,hx,hz,q1,q2⟩:=h;cases rx;cases ry;obtain⟨its,r1,p1,_⟩:=I.tuple ha;obtain⟨its2,r2,p2,_⟩:=I.tuple hb;refine HT.cat_tup p1 p2 (λz=>hx (r1.nil_iff.mp z)) (λz=>⟨.ref a,H,I,rfl,q1 (r2.nil_iff.mp z)⟩) (λz=>?_) (by rw [<-r1.length,<-r2.length];exact hz);refine⟨.ref s.heap.objs.size,_,I.laid (t':=s.toks) (o:= .tup (xs++ys)) (λb ob q=>NT _ q) (NV _) ?_,rfl,q2 (λw=>z (r2.nil_iff.mpr w)) _ (I.hok.fresh (NV _))⟩;exact⟨by rw [OR];exact hz,_,r1.append r2,SK _ _⟩
end
def gu(n:Nat)(i:Int):Option Nat:=if 0<=i then(if i < n then some i.toNat else none) else if -(n:Int)<=i then some (i+n).toNat else none
def atI{α:Type}(xs:List α)(i:Int):Option α:=(gu xs.length i).bind λj=>xs[j]?
theorem AI{n:Nat}{i:Int}{j:Nat}(h:gu n i=some j):seqIndex? i n=some j/\j < n/\-(n:Int)<=i/\i < n:=by
 unfold gu at h;by_cases h0:0<=i
 ·rw [U4 h0] at h;by_cases h1:i < n
  ·rw [U4 h1] at h;have e:i.toNat=j:=OG h;exact⟨by rw [seqIndex_of h0 h1,e],U2,U2,h1⟩
  ·rw [U3 h1] at h;cases h
 ·rw [U3 h0] at h;by_cases h1:-(n:Int)<=i
  ·rw [U4 h1] at h;have e:(i+n).toNat=j:=OG h;exact⟨by rw [seqIndex_neg U2 h1,e],U2,h1,U2⟩
  ·rw [U3 h1] at h;cases h
theorem vf{α:Type}{xs:List α}{i:Int}{v:α}(h:atI xs i=some v):∃j,seqIndex? i xs.length=some j/\xs[j]?=some v/\j < xs.length/\-(xs.length:Int)<=i/\i < xs.length:=by
 unfold atI at h;cases e:gu xs.length i with
 | none=>rw [e] at h;cases h
 | some j=>
  rw [e] at h;obtain⟨h1,h2,h3,h4⟩:=AI e;exact⟨j,h1,h,h2,h3,h4⟩
theorem fN{α:Type}{xs:List α}{j:Nat}{v:α}(h:xs[j]?=some v):atI xs (j:Int)=some v:=by
 have hj:j < xs.length:=(N7.mp h).1;have e:gu xs.length (j:Int)=some j:=by
  unfold gu;rw [U4 U2,U4 U2];simp
 unfold atI;rw [e];exact h
theorem AJ{α:Type}(xs:List α)(v:α):atI (xs++[v]) (-1)=some v:=by
 have hl:(xs++[v]).length=xs.length+1:=U6
 have e:gu (xs++[v]).length (-1)=some xs.length:=by
  unfold gu;rw [hl,U3 U1,U4 U2];congr 1;omega
 unfold atI;rw [e];show(xs++[v])[xs.length]?=some v;simp
def G0(b:Vd):Prop:=∀o i,V7 b false o i=operate [o,i] (VN o i)
def kr(X:Cx)(r:R2):Prop:=
 ∀(value slice:Vd)(Wy:List (U9×Obj))(s:Va)(σ:St)(H:Hp)(x y:V)(v u:U8)(Q:VK),af X Wy σ H s->aF x v->aF y u->r x y H Q->
  V7 slice false v u=operate [v,u] (VN v u)->Vf (Vg X.prog X.w) X.A (Wq value slice v u) (EP X Wy σ Q) X.xe s
def AK(X:Cx)(id:String)(r:V->List V->Hp->VK->Prop):Prop:=
 ∀(Wy:List (U9×Obj))(s:Va)(σ:St)(H:Hp)(x:V)(xs:List V)(v:U8)(us:List U8)(Q:VK),af X Wy σ H s->aF x v->aE xs us->r x xs H Q->
  Vf (Vg X.prog X.w) X.A (call (.builtin id) (v::us)) (EP X Wy σ Q) X.xe s
section
variable {X:Cx} {a b:Vd} {ta tb:TE} {pos:Pos}
theorem gw{r:R2}(hr:kr X r)(ha:PE X a ta)(hb:PE X b tb)(hs:G0 b):PE X (.Subscript a b pos) (jC r ta tb):=by
 intro Wy s σ H Q I h;exact Subscript_ (uR ha hb I h λv u s2 x y H2 I2 rx ry q=>hr a b Wy s2 σ H2 x y v u Q I2 rx ry q (hs _ _))
def qC(K:NM):R2:=λx y H Q=>∃p xs i v,x= .ref p/\y= .int i/\aV K H p xs/\atI xs i=some v/\Q v H
def qD(K:NM):R2:=λx y H Q=>∃p xs i v,x= .ref p/\y= .int i/\bx K H p xs/\atI xs i=some v/\Q v H
def AL:R2:=λx y H Q=>∃z i c,x= .str z/\y= .int i/\z.length<=Ve/\atI z.cps.toList i=some c/\Q (.str ⟨#[c]⟩) H
theorem bQ:kr X (qC X.K):=by
 intro value slice Wy s σ H x y v u Q I rx ry h hs;obtain⟨p,xs,i,z,rfl,rfl,hq,he,q⟩:=h;cases rx;obtain⟨t,rfl⟩:=ry;obtain⟨its,r,pl,hz⟩:=I.list hq;obtain⟨j,h1,h2,h3,h4,h5⟩:=vf he;obtain⟨w,ew,rw'⟩:=r.get h2;have hl:=r.length;have hn:=jE;have fin:EP X Wy σ Q w s:=⟨z,H,I,rw',q⟩;by_cases h0:0<=i
 ·have hj:i.toNat=j:=by
   rw [seqIndex_of h0 h5] at h1;exact OG h1
  exact item_listR pl.isList h0 U2 (by rw [hj];simpa using ew) fin hs
 ·have hj:(i+(its.toArray.size:Int)).toNat=j:=by
   rw [seqIndex_neg U2 h4] at h1;rw [N8,<-hl];exact OG h1
  exact subscriptTail_builtinR (x:=w) pl.isList.typeIs slot_list_getitem.lookup
   (wpAny_getItem_list_neg (Q:=λr s'=>r=w/\EP X Wy σ Q r s') pl.isList U2 (by rw [N8] <;> omega) U2 (by rw [hj];simpa using ew) ⟨rfl,fin⟩) hs
theorem aC:kr X (qD X.K):=by
 intro value slice Wy s σ H x y v u Q I rx ry h hs;obtain⟨p,xs,i,z,rfl,rfl,hq,he,q⟩:=h;cases rx;obtain⟨t,rfl⟩:=ry;obtain⟨its,r,pl,hz⟩:=I.tuple hq;obtain⟨j,h1,h2,h3,h4,h5⟩:=vf he;obtain⟨w,ew,rw'⟩:=r.get h2;have hl:=r.length;have hn:=jE;have fin:EP X Wy σ Q w s:=⟨z,H,I,rw',q⟩;exact subscriptTail_builtinR (x:=w) pl.typeIs slot_tuple_getitem.lookup
  (getItem_tuple (j:=j) (Q:=λr s'=>r=w/\EP X Wy σ Q r s') pl U2 U2 (by rw [N8,<-hl];exact h1) (by simpa using ew) ⟨rfl,fin⟩) hs
theorem AM:kr X AL:=by
 intro value slice Wy s σ H x y v u Q I rx ry h hs;obtain⟨z,i,c,rfl,rfl,hz,he,q⟩:=h;obtain⟨t,rfl⟩:=rx;obtain⟨t',rfl⟩:=ry;obtain⟨j,h1,h2,h3,h4,h5⟩:=vf he;have hl:z.cps.toList.length=z.length:=by simp [Str.length]
 rw [hl] at h1 h4 h5;have hn:=jE;exact tail_any (V4 s z t) slot_str_getitem.lookup (getItem_str (c:=c) (by
  have e1:decide (i < -(2 ^ 63:Int))=false:=decide_eq_false U2;have e2:decide (i >= 2 ^ 63)=false:=decide_eq_false U2;rw [e1,e2,QY]) (by rw [h1];simpa using h2) ⟨.str ⟨#[c]⟩,H,I.tok _,⟨_,rfl⟩,q⟩) hs
theorem G1(its:List U8)(n j:Nat)(u:U8):O3 (·.setIfInBounds j u) {cls:= .type "list",data:= .seq its.toArray n}={cls:= .type "list",data:= .seq (its.set j u).toArray n}:=by
 simp [O3]
theorem af.lst{Wy:List (U9×Obj)}{σ:St}{H:Hp}{s:Va}{p:U9}{xs:List V}(I:af X Wy σ H s)(h:H p=some (.lst xs)):
 ∃(its:List U8)(n:Nat),aE xs its/\s.heap.get? p=some {cls:= .type "list",data:= .seq its.toArray n}/\xs.length<=Ve:=by
 obtain⟨z,its,n,r,e⟩:=I.hok p _ h;exact⟨its,n,r,e,z⟩
theorem af.lstUpd{Wy:List (U9×Obj)}{σ:St}{H:Hp}{s:Va}{p:U9}{xs ys:List V}{its its':List U8}{n n':Nat}{f:Obj->Obj}(I:af X Wy σ H s)(h:H p=some (.lst xs))
 (ho:s.heap.get? p=some {cls:= .type "list",data:= .seq its.toArray n})(hf:f {cls:= .type "list",data:= .seq its.toArray n}={cls:= .type "list",data:= .seq its'.toArray n'})(r:aE ys its')(hz:ys.length<=Ve)(t:Nat):
 af X Wy σ (ao H p (.lst ys)) {s with heap:=s.heap.update p f,toks:=t}:=by
 have e:(s.heap.update p f).get? p=some {cls:= .type "list",data:= .seq its'.toArray n'}:=by
  rw [Heap.get?_update_self f ho (by rw [hf] <;> rfl),hf]
 refine I.write (x:=p) (e:=p) (by rw [h];trivial) (.inl rfl) (λb u hb q=>(SU _ _ (Ne.symm hb)).trans q) ⟨_,e⟩ ?_;exact⟨hz,its',n',r,e⟩
def G2:V->V->V->Hp->(Hp->Prop)->Prop:=λo i v H Q=>∃p xs k j,o= .ref p/\i= .int k/\H p=some (.lst xs)/\gu xs.length k=some j/\Q (ao H p (.lst (xs.set j v)))
theorem vg:Ac X G2:=by
 intro Wy s σ H o i v ov iv u Q I ro ri rv h;obtain⟨p,xs,k,j,rfl,rfl,hp,hj,q⟩:=h;cases ro;obtain⟨t,rfl⟩:=ri;obtain⟨its,n,r,ho,hz⟩:=I.lst hp;obtain⟨h1,h2,h3,h4⟩:=AI hj;have hl:=r.length;have hn:=jE;have I':af X Wy σ (ao H p (.lst (xs.set j v))) {s with heap:=s.heap.update p (O3 (·.setIfInBounds j u))}:=
  I.lstUpd hp ho (G1 its n j u) (r.set rv j) (by rw [Uk];exact hz) s.toks
 by_cases h0:0<=k
 ·have hk:k.toNat=j:=by
   rw [seqIndex_of h0 h4] at h1;exact OG h1
  exact PySem.W.ki_setAt ho h0 U2 (by rw [N8,<-hl];exact h4) (by rw [hk];exact⟨_,I',q⟩)
 ·have hk:(k+(its.toArray.size:Int)).toNat=j:=by
   rw [seqIndex_neg U2 h3] at h1;rw [N8,<-hl];exact OG h1
  exact PySem.W.ki_setBack ho U2 (by rw [N8,<-hl];exact h3) U2 (by rw [hk];exact⟨_,I',q⟩)
theorem G3(lo hi:Option Int)(n:Nat):(VY lo hi none n).1=((HT.sIx n 0 lo:Nat):Int)/\(VY lo hi none n).2.1=((HT.sIx n n hi:Nat):Int)/\(VY lo hi none n).2.2=1:=by
 refine⟨?_,?_,rfl⟩
 ·cases lo with
  | none=>simp [VY,HT.sIx]
  | some i=>
   simp only [VY,HT.sIx,Ss,show(1:Int) > 0 by decide,if_true];by_cases h:i < 0
   ·simp only [h,if_true] <;> omega
   ·simp only [h,if_false] <;> omega
 ·cases hi with
  | none=>simp [VY,HT.sIx]
  | some i=>
   simp only [VY,HT.sIx,Ss,show(1:Int) > 0 by decide,if_true];by_cases h:i < 0
   ·simp only [h,if_true] <;> omega
   ·simp only [h,if_false] <;> omega
theorem G4(its:List U8)(lo hi:Option Int):slicePick its.toArray lo hi none=((its.drop (HT.sIx its.length 0 lo)).take (HT.sIx its.length its.length hi - HT.sIx its.length 0 lo)).toArray:=by
 obtain⟨h1,h2,h3⟩:=G3 lo hi its.toArray.size;unfold slicePick;rw [h1,h2,h3];simp only [sliceRange_one,pick_run,N8] <;> rfl
def G5(K:NM):V->Option Int->Option Int->Hp->VK->Prop:=λx lo hi H Q=>∃a xs,x= .ref a/\aV K H a xs/\∀p,H p=none->Q (.ref p) (ao H p (.lst (iy xs lo hi)))
theorem AN:my X (G5 X.K):=by
 intro Wy s σ H x v vl vu lo hi sl Q I rx hs pl pu h;obtain⟨a,xs,rfl,hx,q⟩:=h;cases rx;obtain⟨its,r,ht,hz⟩:=I.list hx;have hlen:=r.length;refine⟨"list",_,slot_list_getitem.lookup,ht.isList.typeIs,?_⟩;refine wpAny_getItem_list_slice ht.isList hs pl pu .none U6 ?_ (by rw [N8] <;> omega);rw [G4,<-hlen];refine⟨.ref s.heap.objs.size,_,I.laid (t':=s.toks) (o:= .lst (iy xs lo hi)) (λb ob q=>NT _ q) (NV _) ?_,rfl,q _ (I.hok.fresh (NV _))⟩;exact⟨Ot (AH xs lo hi) hz,_,0,(r.drop (HT.sIx xs.length 0 lo)).take (HT.sIx xs.length xs.length hi - HT.sIx xs.length 0 lo),Ou _ rfl⟩
theorem fj:cH X (.builtin "len") (λxs H Q=>∃p ys,xs=[.ref p]/\(aV X.K H p ys\/bx X.K H p ys)/\Q (.int ys.length) H):=by
 intro Wy s σ H xs us Q I r h;obtain⟨p,ys,rfl,hq,q⟩:=h;obtain⟨u,rfl,rx⟩:=c9 r;cases rx;have hn:=jE;rcases hq with hq | hq
 ·obtain⟨its,r',pl,hz⟩:=I.list hq;have hlen:=r'.length;exact Calls.call_len_list pl.isList (by simp only [N8] <;> omega) ⟨.int ys.length,H,I.tok _,⟨s.toks+1,by rw [N8,hlen]⟩,q⟩
 ·obtain⟨its,r',pl,hz⟩:=I.tuple hq;have hlen:=r'.length;exact len_tuple pl (by simp only [N8] <;> omega) ⟨.int ys.length,H,I.tok _,⟨s.toks+1,by rw [N8,hlen]⟩,q⟩
theorem G6:cH X (.builtin "len") (λxs H Q=>∃z,xs=[.str z]/\z.length<=Ve/\Q (.int z.length) H):=by
 intro Wy s σ H xs us Q I r h;obtain⟨z,rfl,hz,q⟩:=h;obtain⟨u,rfl,t,rfl⟩:=c9 r;have hn:=jE;exact len_str U2 ⟨.int z.length,H,I.tok _,⟨_,rfl⟩,q⟩
theorem iz:cH X (.type "tuple") (λxs H Q=>∃p ys,xs=[.ref p]/\((aV X.K H p ys/\∀l,H l=none->Q (.ref l) (ao H l (.tup ys)))\/(bx X.K H p ys/\Q (.ref p) H))):=by
 intro Wy s σ H xs us Q I r h;obtain⟨p,ys,rfl,h⟩:=h;obtain⟨u,rfl,rx⟩:=c9 r;cases rx;rcases h with⟨hq,q⟩ | ⟨hq,q⟩
 ·obtain⟨its,r',pl,hz⟩:=I.list hq;have hlen:=r'.length;refine call_tuple_list pl.isList (λh' kp=>?_) (by simp only [N8] <;> omega);have I1:af X Wy σ H {s with heap:=h'}:=I.kept (t':=s.toks) kp;have I2:af X Wy σ (ao H h'.objs.size (.tup ys)) {s with heap:=h'.push {cls:= .type "tuple",data:= .seq its.toArray}}:=
   I1.laid (t':=s.toks) (λb o e=>NT _ e) (NV _) (show bV X.prog X.w _ _ _ (.tup ys) from⟨hz,its,r',SK _ _⟩)
  exact⟨.ref h'.objs.size,_,I2,rfl,q _ (I1.hok.fresh (NV _))⟩
 ·obtain⟨its,r',pl,hz⟩:=I.tuple hq;exact call_tuple_same pl ⟨.ref p,H,I,rfl,q⟩
def AO(K:NM)(T:String)(x:V)(H:Hp):Prop:=match x with
 | .str _=>T="str"
 | .int _=>T="int"
 | .ref p=>(T="list"/\∃xs,aV K H p xs)\/(T="tuple"/\∃o,K.lookup p=some o/\o.cls= .type "tuple"/\o.dict=none)\/
  (T="dict"/\((∃kvs,H p=some (.dK kvs))\/∃kvs,H p=some (.dT kvs)))\/(T="set"/\∃S n,H p=some (.set S n))
 | _=>False
theorem G7{Wy:List (U9×Obj)}{σ:St}{H:Hp}{s:Va}{T:String}{x:V}{v:U8}(I:af X Wy σ H s)(r:aF x v)(ty:AO X.K T x H):
 s.TypeIs v T/\∀a,v= .ref a->∃ob,s.heap.get? a=some ob/\ob.dict=none:=by
 cases x with
 | str z=>
  obtain⟨t,rfl⟩:=r;cases (show T="str" from ty);exact⟨V4 s z t,λ_ e=>nomatch e⟩
 | int i=>
  obtain⟨t,rfl⟩:=r;cases (show T="int" from ty);exact⟨typeIs_int s i t,λ_ e=>nomatch e⟩
 | ref p=>
  cases r;rcases ty with⟨rfl,xs,hq⟩ | ⟨rfl,o,hk,hc,hd⟩ | ⟨rfl,hk⟩ | ⟨rfl,S,n,hk⟩
  ·obtain⟨its,_,pl,_⟩:=I.list hq;refine⟨pl.isList.typeIs,λa e=>?_⟩;cases e;obtain⟨o,n,e,c,hd,_⟩:=pl;exact⟨o,e,hd⟩
  ·refine⟨⟨o,I.kIn p o hk,hc⟩,λa e=>?_⟩;cases e;exact⟨o,I.kIn _ o hk,hd⟩
  ·have z:∃o,s.heap.get? p=some o/\o.ExactDict:=by
    rcases hk with⟨kvs,hk⟩ | ⟨kvs,hk⟩
    ·obtain⟨_,_,_,_,o,_,_,e,ex,_⟩:=I.hok p _ hk;exact⟨o,e,ex⟩
    ·obtain⟨_,_,_,_,o,_,_,e,ex,_⟩:=I.hok p _ hk;exact⟨o,e,ex⟩
   obtain⟨o,e,ex⟩:=z;refine⟨⟨o,e,ex.1⟩,λa e2=>?_⟩;cases e2;exact⟨o,e,ex.2.1⟩
  ·obtain⟨o,_,_,_,e,ex,_⟩:=I.hok p _ hk;refine⟨⟨o,e,ex.1⟩,λa e2=>?_⟩;cases e2;exact⟨o,e,ex.2.1⟩
 | _=>exact O7 ty
def G8(K:NM)(T:String)(r:V->List V->Hp->VK->Prop)(to:TE)(t:TA):TE:=λσ H Q=>to σ H λx H1=>AO K T x H1/\t σ H1 λxs H2=>r x xs H2 Q
variable {o e:Vd} {es:List Vd} {to:TE} {t:TA} {name:Str} {apos cpos:Pos} {T id:String} {r:V->List V->Hp->VK->Prop}
theorem vh(pa:PlainAttrs T)(slot:Slot T name id)(hty:typeOf (.builtin id)=pure (.type "method_descriptor"))(hm:AK X id r)(ho:PE X o to)(ha:PA X (e::es) t)
 (hbase:VJ o name X.env (eval o X.env)=eval o X.env:=by rfl)
 (hfew:((Vr cpos (Vc (e::es) X.env)).all (λx=>!x.1) && (backToKw cpos (V8 [] X.env)).all (λx=>x.1.isSome)
   && decide ((e::es).length+([]:List VO).length+(if ([]:List VO).isEmpty then 0 else 1) < 30))=true:=by rfl)
 (hline:(apos.endLine==cpos.line)=true:=by rfl)(hs:Vc (e::es) X.env=(false,eval e X.env)::Vc es X.env:=by rfl)(hplain:(Vr cpos (Vc es X.env)).any (·.1)=false:=by rfl):
 PE X (.Call (.Attribute o name apos) (e::es) [] cpos) (G8 X.K T r to t):=by
 intro Wy s σ H Q I h;refine wpAny_Call_method_late hbase hfew hline rfl (aB (ho Wy s σ H _ I h) λv s1 ⟨x,H1,I1,r1,ty,q1⟩=>?_);obtain⟨h1,h2⟩:=G7 I1 r1 ty;refine⟨T,id,pa,slot,hty,h1,h2,?_⟩;have hA:=ha cpos Wy s1 σ H1 _ I1 q1;rw [hs] at hA⊢;refine SV (by show(false || (Vr cpos (Vc es X.env)).any (·.1))=false;rw [hplain] <;> rfl) (RO ?_);exact aB hA λus s2 uu56=>by obtain⟨vs,H2,I2,r2,q2⟩:=uu56;exact hm Wy s2 σ H2 x vs v us Q I2 r1 r2 q2
end
def AQ(X:Cx)(id:String)(r:V->List V->Hp->VK->Prop):Prop:=
 ∀(Wy:List (U9×Obj))(s:Va)(σ:St)(H:Hp)(x:V)(xs:List V)(v:U8)(us:List U8)(Q:VK),af X Wy σ H s->aF x v->aE xs us->r x xs H Q->
  Vf (Vg X.prog X.w) X.A (call (.builtin id) (v::us)) (EP X Wy σ Q) X.xe s
theorem aE.one:∀{x:V}{us:List U8},aE [x] us->∃u,us=[u]/\aF x u
 | _,_,.cons r .nil=>⟨_,rfl,r⟩
theorem aE.rep{xs:List V}{us:List U8}(h:aE xs us):∀k:Nat,aE (Oa k xs).flatten (Oa k us).flatten
 | 0=>.nil
 | k+1=>by
  rw [P1,P1,Qx,Qx];exact aE.append h (aE.rep h k)
theorem AR(its:List U8):∀(k:Nat)(acc:List U8),
 QT (λx1 x2=>x1++x2) acc.toArray (Oa k its.toArray)=(acc++(Oa k its).flatten).toArray
 | 0,acc=>by simp
 | k+1,acc=>by
  have e:acc.toArray++its.toArray=(acc++its).toArray:=U6
  have e2:(acc++its)++(Oa k its).flatten=acc++(Oa (k+1) its).flatten:=by
   rw [P1,Qx,Se]
  rw [<-e2,<-AR its k (acc++its),<-e,P1,Qs]
section
variable {X:Cx} {Wy:List (U9×Obj)} {σ:St} {H:Hp} {s:Va} {l b:U9} {xs ys zs:List V}
theorem af.lset{its its':List U8}{n:Nat}{f:Array U8->Array U8}{t':Nat}(I:af X Wy σ H s)(hH:H l=some (.lst xs))
 (e:s.heap.get? l=some {cls:= .type "list",data:= .seq its.toArray n})(hf:f its.toArray=its'.toArray)(hv:aE ys its')(hz:ys.length<=Ve):
 af X Wy σ (ao H l (.lst ys)) {s with heap:=s.heap.update l (O3 f),toks:=t'}:=by
 have q:=PySem.IsL.update e f;rw [hf] at q;refine I.write (x:=l) (e:=l) (by rw [hH];exact trivial) (.inl rfl) (λb' u hb hu=>(SU s.heap (O3 f) (Ne.symm hb)).trans hu) ⟨_,q⟩ ?_;exact⟨hz,its',_,hv,q⟩
theorem af.lnew{its:List U8}{t':Nat}(I:af X Wy σ H s)(hv:aE ys its)(hz:ys.length<=Ve):
 af X Wy σ (ao H s.heap.objs.size (.lst ys)) {s with heap:=s.heap.push {cls:= .type "list",data:= .seq its.toArray},toks:=t'}:=
 I.laid (λ_ _ q=>NT _ q) (NV _) ⟨hz,its,0,hv,Ou _ rfl⟩
theorem af.fresh(I:af X Wy σ H s):H s.heap.objs.size=none:=I.hok.fresh (NV _)
theorem af.lstM(I:af X Wy σ H s)(hH:H l=some (.lst xs)):xs.length<=Ve/\∃(its:List U8)(n:Nat),aE xs its/\xs.length=its.length/\s.heap.get? l=some {cls:= .type "list",data:= .seq its.toArray n}:=by
 obtain⟨z,its,n,r,e⟩:=I.hok l _ hH;exact⟨z,its,n,r,r.length,e⟩
theorem G9{n:Nat}(h:n<=Ve):Rg n=false:=by
 unfold Rg;exact decide_eq_false U2
end
section
variable {X:Cx}
def Ha:V->List V->Hp->VK->Prop:=λx vs H Q=>∃l xs y,x= .ref l/\vs=[y]/\H l=some (.lst xs)/\xs.length < Ve/\Q .non (ao H l (.lst (xs++[y])))
theorem AS:AQ X "list.append" Ha:=by
 intro Wy s σ H x vs v us Q I rx rv h;obtain⟨l,xs,y,rfl,rfl,hH,hz,q⟩:=h;cases rx;obtain⟨u,rfl,ru⟩:=rv.one;obtain⟨z,its,n,r,hl,e⟩:=I.lstM hH;refine VR F.slot_list_append ⟨_,e,rfl⟩ F.entry_list_append (F.args_list_append_2 _ _) (PySem.list_append l its.toArray n u (by rw [N8];omega)) ⟨e,?_⟩;refine⟨.non,_,I.lset (its':=its++[u]) hH e U6 (r.append (.cons ru .nil)) ?_,rfl,q⟩;rw [OR,RJ];omega
def Hb:R2:=λx y H Q=>∃l k xs,x= .ref l/\y= .int k/\H l=some (.lst xs)/\-(2 ^ 63)<=k/\k < 2 ^ 63/\xs.length*k.toNat<=Ve/\
 ∀p,H p=none->Q (.ref p) (ao H p (.lst (Oa k.toNat xs).flatten))
theorem Hc{α:Type}(xs:List α)(k:Nat):(Oa k xs).flatten.length=k*xs.length:=by
 induction k with
 | zero=>simp
 | succ k ih=>rw [P1,Qx,OR,ih,Nat.succ_mul,TC]
theorem Hd:bT X (VI .Mult) Hb:=by
 intro Wy s σ H x y v u Q I rx ry h;obtain⟨l,k,xs,rfl,rfl,hH,h1,h2,hz,q⟩:=h;cases rx;obtain⟨t,rfl⟩:=ry;obtain⟨z,its,n,r,hl,e⟩:=I.lstM hH;have hlen:its.toArray.size*k.toNat<=Ve:=by rw [N8,<-hl];exact hz
 have hcap:¬its.toArray.size*k.toNat > (2 ^ 63 - 1)/ 8:=by
  have:(Ve:Nat)<=(2 ^ 63 - 1)/ 8:=U1
  omega
 have hfit:¬(!Qv k)=true:=by
  rw [fitsIndex_both h1 h2];exact NW
 have hlong:¬Rg (its.toArray.size*k.toNat)=true:=by
  rw [G9 hlen];exact NW
 have hnew:QT (λx1 x2=>x1++x2) #[] (Oa (if its.toArray.isEmpty=true then 0 else k.toNat) its.toArray)=(Oa k.toNat its).flatten.toArray:=by
  have f0:∀m:Nat,QT (λx1 x2=>x1++x2) #[] (Oa m its.toArray)=(Oa m its).flatten.toArray:=λm=>by
   have:=AR its m [];rw [O4] at this;exact this
  rw [f0];cases its with
  | nil=>simp
  | cons a r'=>rw [U3 U6]
 refine wpAny_binaryOp_repeat_ref (T:="list") (U:="int") U1 ⟨_,e,rfl⟩ (λs'=>typeIs_int s' k t) noFill_list_mul F.fills_int_mul F.slot_int_rmul repeat_list F.slot_int_index.lookup
  (VR F.slot_int_rmul (typeIs_int s k t) F.entry_int_rmul (F.args_int_rmul_2 _ _) (int___rmul___int_list k t l its.toArray n)
    ⟨e,rfl,⟨_,e,rfl⟩,VR F.slot_list_mul ⟨_,e,rfl⟩ F.entry_list_mul (F.args_list_mul_2 _ _) (AutoListH.list___mul___list_int_3 l its.toArray n k t hfit hcap hlong) ⟨e,?_⟩⟩)
 rw [hnew];exact⟨.ref _,_,I.lnew (t':=s.toks) (r.rep k.toNat) (by rw [Hc,Nat.mul_comm];exact hz),rfl,q _ I.fresh⟩
end
end L2
namespace Att
open PySem PySem.W PySem.Calls PyProof.Rows
theorem He{P:Params}{h:Vl}:∀(ns:List Int)(vs:List U8),WellAll P h vs (ns.map QJ)->IntsAre vs ns:=by
 intro ns
 induction ns with
 | nil=>
  intro vs w;rw [OS] at w;cases w;exact .nil
 | cons n ns ih=>
  intro vs w;rw [NS] at w;cases w with
  | cons a b=>
   cases a;exact .cons _ _ (ih _ b)
theorem Hf{l:OpenLaw}{n:Nat}(hn:l.most=some n){P:Params}{h:Vl}{args:List WData}{vals:List U8}
 (hpre:l.row.toRowW.claim.pre args=true)(hwl:WellAll P h vals args):
 ∃a vs ns,vals=[Of a]/\args=[Sk (ns.map QJ)]/\h.get? a=some {cls:= .type "list",data:= .seq vs.toArray}/\IntsAre vs ns/\ns.length<=n:=by
 have hsh:WShape.hasAll [] args [.list .int]=true:=(pre_splitW hpre).1;have hc:l.pre.holds [] {args:=args}=true:=(pre_splitW hpre).2;obtain⟨d,r,rfl,h1,h2⟩:=hasAllW_cons hsh;obtain rfl:=hasAllW_nil h2;obtain⟨xs,rfl,h3⟩:=hasW_list h1;obtain⟨ns,rfl⟩:=items_int h3;have hlen:ns.length<=n:=by
  unfold OpenLaw.pre at hc;have h4:(WTm.not (.lt (.lit (.int (n:Int))) (.len (.arg 0)))).holds [] {args:=[.list (ns.map .int)]}=true:=by
   have h4:=(holds_andW hc).1;rw [hn] at h4;exact h4
  have h5:=condW_of h4 (w_not (w_lt w_lit (w_len_list (w_arg rfl))));rw [NO] at h5;refine Su λq=>?_;have q':(n:Int) < ((ns.length:Nat):Int):=U2
  first
   | (rw [decide_eq_true q'] at h5;exact absurd h5 U1)
   | (simp at h5;omega)
 cases hwl with
 | cons w1 w2=>
  cases w2;cases w1 with
  | list ho hall=>exact⟨_,_,ns,rfl,rfl,ho,He ns _ hall,hlen⟩
theorem Hg(l:OpenLaw)(args:List WData):l.row.toRowW.claim.post args (.bool true) args=true:=
 postW_of (r:=l.row.toRowW) (X:=(true==true))
  (show WShape.has [] (.bool true) .bool=true by first | rfl | decide | simp [WShape.has,WShape.arms,WShape.armsAll])
  (show(WTm.eq .res (.lit (.bool true))).value [] {args:=args,res:=some (.bool true),after:=args}=some (.bool (true==true)) from w_eq_bool (w_res rfl) w_lit) rfl
end Att
namespace L2
open PySem PySem.Spec PyProof.Rows
theorem AU:∀{vs:List U8}{ns:List Int},IntsAre vs ns->aE (ns.map V.int) vs
 | _,_,.nil=>.nil
 | _,_,.cons n t h=>.cons ⟨t,rfl⟩ (AU h)
abbrev KOf{K:NM}{h:Vl}(_:K.In h):NM:=K
def inClass(s:Vn)(j:Nat):Vn:=match s with
 | .ClassDef _ _ _ body _ _ _ _ _ _ _=>body.getD j (.Pass ⟨0,0,0,0⟩)
 | _=>.Pass ⟨0,0,0,0⟩
def gX(s:Vn):Wf:=match s with
 | .FunctionDef _ a _ _ _ _ _ _ _ _=>a
 | _=>{posonlyargs:=[],args:=[],vararg:=none,kwonlyargs:=[],kw_defaults:=[],kwarg:=none,defaults:=[]}
def d4(s:Vn):List Vn:=match s with
 | .FunctionDef _ _ b _ _ _ _ _ _ _=>b
 | _=>[]
def ar(s:Vn):Vv:=match s with
 | .FunctionDef _ _ _ _ _ _ sc _ _ _=>sc
 | _=>{kind:= .function,names:=[],isGenerator:=false,isCoroutine:=false}
abbrev aH:d3:=λ_ _ _ _ _ _=>False
abbrev E0:XK:=λ_ _ _=>False
theorem vi{X:Cx}:i4 aH X E0:=λ_ _ _ _ _ _ _ h=>h.elim
structure cP (K:NM) (x qual:Str) (st:Vn) (f:U9) (fd:Vh):Prop where
 ex:∃(oc:U8)(od:Option U9)(kV doc pm:U8)(an:Option U9)(cdv ct:U8)(osl:Array (Option U8)),
  fd=PQ x qual (gX st) (d4 st) (ar st) .none kV doc pm an cdv ct/\K.lookup f=some ⟨oc,od,.func fd,osl⟩/\Ro K cdv qual=true
 kp:Pu K (.ref f)=true
section
variable {P:Vj} {w:Vm} {K:NM} {mg:Str->Option U8} {base:Vl}
theorem cP.ok{x qual:Str}{st:Vn}{f:U9}{fd:Vh}{N ps:List Str}{k:Nat}{sp:Sp}(F:cP K x qual st f fd)(S:aP N ps (ar st))(len:∀vs H Q E,sp vs H Q E->vs.length=ps.length)
 (hbody:∀(cdv:U8) (A:Vo) (outer:List Env) (s:Va) (H:Hp) (vs:List V) (Q:VK) (E:XK),aT k (A.deeper (VM qual (ar st) s.heap.objs.size f cdv))->sp vs H Q E->
   ∃t,bG (bh aH P w K mg base N qual (ar st) f cdv A outer s H E).nox (d4 st) t/\t {nx:=λ_ H'=>Q .non H',rt:=Q} (start N vs) H):ay P w K mg base aH (k+1) f fd ps sp:=by
 obtain⟨oc,od,kV,doc,pm,an,cdv,ct,osl,rfl,lk,hcd⟩:=F.ex;refine qA lk hcd S len λA outer s H vs Q E hr hsp=>?_;obtain⟨t,h,q⟩:=hbody cdv A outer s H vs Q E hr hsp;exact⟨t,h.nox,q⟩
theorem cP.binds{x qual:Str}{st:Vn}{f:U9}{fd:Vh}{ps:List Str}(F:cP K x qual st f fd)
 (h:∀(kV doc pm:U8) (an:Option U9) (cdv ct:U8) (us:List U8),us.length=ps.length->Wk (PQ x qual (gX st) (d4 st) (ar st) .none kV doc pm an cdv ct) ⟨us,[]⟩=pure (ps.zip us)):dh K fd ps []:=by
 obtain⟨oc,od,kV,doc,pm,an,cdv,ct,osl,rfl,lk,hcd⟩:=F.ex;exact .all (h kV doc pm an cdv ct)
theorem AV{x qual:Str}{st:Vn}{f:U9}{oc:U8}{od an:Option U9}{osl:Array (Option U8)}{kV doc pm cdv ct:U8}(l:K.lookup f=some ⟨oc,od,.func (PQ x qual (gX st) (d4 st) (ar st) .none kV doc pm an cdv ct),osl⟩)
 (c:Ro K cdv qual=true)(k:Pu K (.ref f)=true):cP K x qual st f (PQ x qual (gX st) (d4 st) (ar st) .none kV doc pm an cdv ct):=⟨⟨oc,od,kV,doc,pm,an,cdv,ct,osl,rfl,l,c⟩,k⟩
end
section
variable {X:Cx}
theorem pv(i:Nat){x:Str}{pos:Pos}(hN:X.N[i]?=some x:=by rfl)(hv:fL X.env.scope x:=by first | exact Sv rfl | exact RP (Sv rfl) | exact RP (RP rfl))(hd:(x==("__debug__":Str))=false:=by decide)
 (hcd:(x==("__classdict__":Str))=false:=by decide):PE X (.Name x pos) (fh i):=qf hN hv hd hcd
end
def aj(H H':Hp):Prop:=∀b o,H b=some o->H' b=some o
theorem aj.refl(H:Hp):aj H H:=λ_ _ h=>h
theorem aj.trans{H H1 H2:Hp}(a:aj H H1)(b:aj H1 H2):aj H H2:=λc o h=>b c o (a c o h)
def dO(env:Env)(names:List (Str×VF))(cs:List (Str×U9)):List (Str×U9):=
 names.foldl (λcs p=>if (p.2==Po)=true then(p.1,(env.cells.lookup p.1).getD 0)::cs else cs) cs
theorem vj{scope:Vv}{env:Env}(h:∀y∈scope.names,y.2= .free->∃c,env.cells.lookup y.1=some c):closureFor scope env=pure (dO env scope.names []):=by
 unfold closureFor;have key:∀(l:List (Str×VF))(cs:List (Str×U9)),(∀y∈l,y.2= .free->∃c,env.cells.lookup y.1=some c)->
  (forIn l cs λ(x:Str×VF) (r:List (Str×U9))=>(if (x.2==Po)=true then do let a<-cellOf env x.1;pure (QK ((x.1,a)::r)) else pure (QK r):Sem (ForInStep (List (Str×U9)))))=pure (dO env l cs):=by
  intro l
  induction l with
  | nil=>intro cs _;rfl
  | cons p r ih=>
   intro cs hl;rw [Ul];by_cases hk:(p.2==Po)=true
   ·obtain⟨c,hc⟩:=hl p OY (by simpa using hk);rw [U4 hk];have e:cellOf env p.1=pure c:=by unfold cellOf;rw [hc]
    rw [e];simp only [pure_bind];rw [ih _ λy hy=>hl y (OB _ hy)];unfold dO;rw [Qs,U4 hk,hc];rfl
   ·rw [U3 hk];simp only [pure_bind];rw [ih _ λy hy=>hl y (OB _ hy)];unfold dO;rw [Qs,U3 hk]
 have:=key scope.names [] h;simp only [bind_pure];exact this
theorem vo{env:Env}:∀(l:List (Str×VF))(cs:List (Str×U9)){x:Str}{c:U9},(∀y∈l,y.2= .free->∃c,env.cells.lookup y.1=some c)->(∀y d,cs.lookup y=some d->env.cells.lookup y=some d)->
 (dO env l cs).lookup x=some c->env.cells.lookup x=some c
 | [],cs,x,c,_,hc,h=>hc x c h
 | p::r,cs,x,c,hl,hc,h=>by
  unfold dO at h;rw [Qs] at h;by_cases hk:(p.2==Po)=true
  ·rw [U4 hk] at h;refine vo r _ (λy hy=>hl y (OB _ hy)) (λy d e=>?_) h;obtain⟨a,ha⟩:=hl p OY (by simpa using hk);rw [OC] at e;cases hx:y==p.1 with
   | true=>
    rw [hx] at e;have hy:y=p.1:=by simpa using hx
    rw [ha] at e;cases e;rw [hy];exact ha
   | false=>rw [hx] at e;exact hc y d e
  ·rw [U3 hk] at h;exact vo r cs (λy hy=>hl y (OB _ hy)) hc h
theorem vp{env:Env}:∀(l:List (Str×VF))(cs:List (Str×U9)){x:Str},(∃c,cs.lookup x=some c)->∃c,(dO env l cs).lookup x=some c
 | [],cs,x,h=>h
 | p::r,cs,x,⟨c,h⟩=>by
  unfold dO;rw [Qs];by_cases hk:(p.2==Po)=true
  ·rw [U4 hk];refine vp r _ ?_;rw [OC];cases hx:x==p.1 with
   | true=>exact⟨_,rfl⟩
   | false=>exact⟨c,h⟩
  ·rw [U3 hk];exact vp r cs ⟨c,h⟩
theorem mz{env:Env}:∀(l:List (Str×VF))(cs:List (Str×U9)){x:Str},(x,Po)∈l->∃c,(dO env l cs).lookup x=some c
 | [],_,_,h=>by simp at h
 | p::r,cs,x,h=>by
  unfold dO;rw [Qs];rcases N9.mp h with e | e
  ·subst e;rw [U4 (by rfl)];exact vp r _ ⟨(env.cells.lookup x).getD 0,by rw [OC];simp⟩
  ·exact mz r _ e
theorem Hh{env:Env}{scope:Vv}{x:Str}(h:(relabel scope env).names.lookup x=some .cell\/(relabel scope env).names.lookup x=some .free):scope.names.lookup x=some .free\/scope.names.lookup x=some .cell:=by
 have key:∀(l:List (Str×VF)),
  ((l.map λ(n,k)=>if (k==Po && env.scope.kind== .function && env.kindOf n==some .cell) then(n,RB) else(n,k)).lookup x=some .cell\/
  (l.map λ(n,k)=>if (k==Po && env.scope.kind== .function && env.kindOf n==some .cell) then(n,RB) else(n,k)).lookup x=some .free)->l.lookup x=some .free\/l.lookup x=some .cell:=by
  intro l
  induction l with
  | nil=>intro h;simp at h
  | cons p r ih=>
   obtain⟨n,k⟩:=p;intro h;rw [NS] at h;rw [OC];by_cases hx:x=n
   ·subst hx;rw [beq_self_eq_true];by_cases hq:(k==Po && env.scope.kind== .function && env.kindOf x==some .cell)=true
    ·have:k= .free:=by simp only [OV,beq_iff_eq] at hq;exact hq.1.1
     subst this;exact .inl rfl
    ·simp only [U3 hq,OC,beq_self_eq_true] at h;exact h.symm
   ·have hb:(x==n)=false:=by simpa using hx
    rw [hb];refine ih ?_;by_cases hq:(k==Po && env.scope.kind== .function && env.kindOf n==some .cell)=true
    ·simpa only [U4 hq,OC,hb] using h
    ·simpa only [U3 hq,OC,hb] using h
 exact key scope.names h
theorem Hi{env:Env}{scope:Vv}{x:Str}(h:scope.names.lookup x=some .cell\/scope.names.lookup x=some .free):(relabel scope env).names.lookup x=some .cell\/(relabel scope env).names.lookup x=some .free:=by
 have key:∀(l:List (Str×VF)),l.lookup x=some .cell\/l.lookup x=some .free->
  ((l.map λ(n,k)=>if (k==Po && env.scope.kind== .function && env.kindOf n==some .cell) then(n,RB) else(n,k)).lookup x=some .cell\/
  (l.map λ(n,k)=>if (k==Po && env.scope.kind== .function && env.kindOf n==some .cell) then(n,RB) else(n,k)).lookup x=some .free):=by
  intro l
  induction l with
  | nil=>intro h;simp at h
  | cons p r ih=>
   obtain⟨n,k⟩:=p;intro h;rw [NS];by_cases hx:x=n
   ·subst hx;rw [OC,beq_self_eq_true] at h;by_cases hq:(k==Po && env.scope.kind== .function && env.kindOf x==some .cell)=true
    ·left;simp only [U4 hq,OC,beq_self_eq_true]
    ·simp only [U3 hq,OC,beq_self_eq_true];exact h
   ·have hb:(x==n)=false:=by simpa using hx
    rw [OC,hb] at h;by_cases hq:(k==Po && env.scope.kind== .function && env.kindOf n==some .cell)=true
    ·simpa only [U4 hq,OC,hb] using ih h
    ·simpa only [U3 hq,OC,hb] using ih h
 exact key scope.names h
structure bj (sc:Vv) (N N':List Str) (k:Nat) (fr:List Nat) (scope:Vv):Prop where
 kind:scope.kind= .function
 cell:∀y∈scope.names,y.2= .cell->scope.names.lookup y.1=some .cell
 names:∀y∈scope.names,y.2= .local->scope.names.lookup y.1=some .local
 nd:N'.Nodup
 slot:fr.map (λj=>N[j]?)=(N'.drop k).map some
 frees:∀x∈N'.drop k,scope.names.lookup x=some .free
 outer:∀y∈scope.names,y.2= .free->sc.names.lookup y.1=some .cell\/sc.names.lookup y.1=some .free
 outer':∀x∈N'.drop k,sc.names.lookup x=some .cell\/sc.names.lookup x=some .free
 len:N'.length=k+fr.length
theorem qE:∀(l:List (Str×VF)){n:Nat}{a:List (Str×U9)}{x:Str}{c:U9},(VC n l a).lookup x=some c->n<=c\/a.lookup x=some c
 | [],_,_,_,_,h=>.inr h
 | (y,k)::r,n,a,x,c,h=>by
  unfold VC at h;split at h
  ·rcases qE r h with z | z
   ·exact .inl U2
   ·rw [OC] at z;split at z
    ·exact .inl (by cases z;exact NV _)
    ·exact .inr z
  ·exact qE r h
theorem vq:∀(l:List (Str×VF)){n:Nat}{a:List (Str×U9)}{x:Str}{c:U9},l.lookup x=some .cell->(VC n l a).lookup x=some c->n<=c
 | [],_,_,_,_,e,_=>nomatch e
 | (y,k)::r,n,a,x,c,e,h=>by
  unfold VC at h;rw [OC] at e;cases hx:x==y with
  | true=>
   rw [hx] at e;cases e;have h:QM x (VC (n+1) r ((y,n)::a))=some c:=h;rcases qE r h with z | z
   ·exact Sf z
   ·rw [OC,hx] at z;cases z;exact NV _
  | false=>
   rw [hx] at e;split at h
   ·exact Sf (vq r e h)
   ·exact vq r e h
theorem vt:∀(l:List (Str×VF)){n:Nat}{a:List (Str×U9)}{x:Str},(∀y∈l,y.2= .cell->y.1≠x)->(VC n l a).lookup x=a.lookup x
 | [],_,_,_,_=>rfl
 | (y,k)::r,n,a,x,h=>by
  unfold VC;split
  ·rename_i hk;rw [vt r λz hz=>h z (OB _ hz),OC];have:(x==y)=false:=by simpa using Ne.symm (h (y,k) OY (by simpa using hk))
   rw [this]
  ·exact vt r λz hz=>h z (OB _ hz)
theorem vv:∀(l:List (Str×VF)){n:Nat}{a:List (Str×U9)},(∀x c,a.lookup x=some c->c < n)->(∀x y c,a.lookup x=some c->a.lookup y=some c->x=y)->∀x y c,(VC n l a).lookup x=some c->(VC n l a).lookup y=some c->x=y
 | [],_,_,_,h=>h
 | (z,k)::r,n,a,hl,hi=>by
  unfold VC;split
  ·have one:∀x c,((z,n)::a).lookup x=some c->x=z/\c=n\/c < n/\a.lookup x=some c:=λx c e=>by
    rw [OC] at e;cases hx:x==z with
    | true=>rw [hx] at e;cases e;exact .inl ⟨by simpa using hx,rfl⟩
    | false=>rw [hx] at e;exact .inr ⟨hl x c e,e⟩
   refine vv r (λx c e=>?_) λx y c e1 e2=>?_
   ·rcases one x c e with⟨_,z⟩ | ⟨z,_⟩
    ·rw [z];exact Sr _
    ·exact Sg z
   ·rcases one x c e1 with⟨a1,b1⟩ | ⟨a1,b1⟩ <;> rcases one y c e2 with⟨a2,b2⟩ | ⟨a2,b2⟩
    ·rw [a1,a2]
    ·omega
    ·omega
    ·exact hi x y c b1 b2
  ·exact vv r hl hi
theorem vw:∀(l:List (Str×VF)){h:Vl}{a:List (Str×U9)},(∀x c,a.lookup x=some c->∃v,h.IsCell c v)->∀x c,(VC h.objs.size l a).lookup x=some c->∃v,(pushCells h l).IsCell c v
 | [],_,_,h=>h
 | (z,k)::r,h,a,ha=>by
  unfold VC pushCells;split
  ·have:=vw r (h:=h.push {cls:= .type "cell",data:= .cell none}) (a:=(z,h.objs.size)::a) λx c e=>by
    rw [OC] at e;split at e
    ·cases e;exact⟨none,_,Ou _ rfl,rfl⟩
    ·obtain⟨v,q⟩:=ha x c e;exact⟨v,q.keeps λb o e=>NT _ e⟩
   rwa [Rn] at this
  ·exact vw r ha
def qF(X:Cx)(scope:Vv)(C:U9):List (Str×U9):=VC (C+1) scope.names (dO X.env scope.names [])
def bR(X:Cx)(scope:Vv)(N':List Str)(fp:List U9)(C:U9)(s:Va)(H:Hp):Cx where
 prog:=X.prog
 w:=X.w
 K:=X.K
 mg:=X.mg
 base:=X.base
 A:=X.A
 N:=N'
 s₀:=s
 H₀:=H
 env:=compEnvC scope (qF X scope C) C X.env
 outer:=X.stack
 stack:=X.stack
 ex:=fp
 fn:=λx=>scope.names.lookup x==some .cell
 calm:=X.calm
 pn:=[]
 xe:=λ_ _=>False
def bS(k:Nat)(fr:List Nat)(σ:St):St:=Oa k none++fr.map λj=>(σ[j]?).join
def jF(σ σ':St):Prop:=σ.length=σ'.length/\∀(i:Nat) v,σ[i]?=some (some v)->σ'[i]?=some (some v)
section
variable {X:Cx} {Wy:List (U9×Obj)} {σ:St} {H:Hp} {s:Va} {scope:Vv} {N':List Str} {k:Nat} {fr:List Nat} {fp:List U9}
theorem qG(S:bj X.env.scope X.N N' k fr scope)(I:af X Wy σ H s):∀x c,(dO X.env scope.names []).lookup x=some c->X.env.cells.lookup x=some c:=λx c e=>vo scope.names [] (λy hy e=>I.ok.has y.1 (S.outer y hy e)) (λ_ _ z=>by simp at z) e
theorem AW(S:bj X.env.scope X.N N' k fr scope)(I:af X Wy σ H s){x:Str}{c:U9}(e:(qF X scope s.heap.objs.size).lookup x=some c):s.heap.objs.size < c\/X.env.cells.lookup x=some c:=
 (qE _ e).imp (λz=>z) λz=>qG S I x c z
theorem Hj(S:bj X.env.scope X.N N' k fr scope)(I:af X Wy σ H s)(hf:∀b∈fp,gh X Wy H b)(hlt:∀b∈fp,b < s.heap.objs.size):
 (bR X scope N' fp s.heap.objs.size s H).Ok:=by
 have hcl:=qG S I;refine⟨I.ok.mod,S.kind,I.ok.glob,I.ok.blt,NV _,vv _ (λx c e=>?_) (λx y c h1 h2=>I.ok.inj x y c (hcl x c h1) (hcl y c h2)),λx hx=>Qe.mp (Rz _ _ _ ?_),λx c h e=>Sf (vq _ (eq_of_beq h) e),I.ok.hd,I.ok.frames,.inl rfl,λb hb=>⟨Oj (hlt b hb),λx c e=>?_⟩,
  I.bs,Ot I.ok.bsz I.sz,λb o e hb=>?_,λb hb hb'=>?_,I.stack,I.stkFree⟩
 ·obtain⟨v,o,ho,_⟩:=I.cell x c (hcl x c e);exact Sg (N5 ho)
 ·rcases Hh hx with z | z
  ·exact .inr (Qe.mpr (mz _ _ (Ph z)))
  ·exact .inl z
 ·rcases AW S I e with z | z
  ·exact λq=>absurd (hlt b hb) (by rw [<-q];exact Nat.lt_asymm z)
  ·exact(hf b hb).2.2.2.2.1 x c z
 ·rcases(hf b hb).2.2.2.1 with z | z
  ·exact I.ok.noex b o e z
  ·exact absurd (Ol (N5 e) (Ot I.ok.bsz z)) (Pn _)
 ·rcases N9.mp (I.stkSub b hb') with z | z
  ·exact(hf b hb).2.1 z
  ·exact(hf b hb).2.2.1 z
theorem Hk(S:bj X.env.scope X.N N' k fr scope)(I:af X Wy σ H s)(hf:∀b∈fp,gh X Wy H b)(hlt:∀b∈fp,b < s.heap.objs.size){o:Obj}{h':Vl}(e':h'=pushCells (s.heap.push o) scope.names)
 (hn:h'.Ns s.heap.objs.size (λ_=>none))(hk:∀b o,s.heap.get? b=some o->h'.get? b=some o):
 af (bR X scope N' fp s.heap.objs.size s H) [] (bS k fr σ) H {s with heap:=h'}:=by
 have hcl:=qG S I;refine⟨Hj S I hf hlt,rfl,I.bare,Un.kept hk,⟨_,hn,λi x v h1 h2 h3=>?_⟩,λx c e=>?_,I.hok.fresh (NV _),λx c e=>?_,λp hp=>absurd hp (by simp [bR]),I.hok.kept hk,?_⟩
 ·have hi:k<=i:=by
   rcases QP i k with z | z
   ·exfalso;unfold bS at h2;rw [P9 (by simpa using z),QH,U4 z] at h2;cases h2
   ·exact z
  have h2':(fr.map λj=>(σ[j]?).join)[i - k]?=some (some v):=by
   unfold bS at h2;rw [P4 (by simpa using hi)] at h2;simpa using h2
  have h1':(N'.drop k)[i - k]?=some x:=by
   rw [TF,Nat.add_sub_cancel' hi];exact h1
  have hmem:x∈N'.drop k:=Oq h1';have e2:(fr.map λj=>X.N[j]?)[i - k]?=some (some x):=by
   rw [S.slot,Ob,h1'];rfl
  obtain⟨j,hj,ej⟩:∃j,fr[i - k]?=some j/\X.N[j]?=some x:=by
   rw [Ob] at e2;cases e:fr[i - k]? with
   | none=>rw [e] at e2;cases e2
   | some j=>rw [e] at e2;exact⟨j,rfl,OG e2⟩
  have hv:σ[j]?=some (some v):=by
   rw [Ob,hj] at h2';have h3':(σ[j]?).join=some v:=OG h2';cases e:σ[j]? with
   | none=>rw [e] at h3';cases h3'
   | some o=>rw [e] at h3';rw [show o=some v from h3']
  obtain⟨m,hn0,hl⟩:=I.loc;have ho:=S.outer' x hmem;obtain⟨u,ru,lk⟩:=hl j x v ej hv (.inr ho);refine⟨u,ru,.inr ⟨Hi (.inr (S.frees x hmem)),?_⟩⟩;rcases lk with⟨z,_⟩ | ⟨_,c,hc,hx⟩
  ·exfalso;rcases ho with ho | ho
   ·exact absurd (z.symm.trans ho) U6
   ·exact absurd (z.symm.trans ho) U6
  ·obtain⟨c',hc'⟩:=mz (env:=X.env) scope.names [] (Ph (S.frees x hmem));have:=hcl x c' hc';rw [hc] at this;cases this;obtain⟨o,ho,hd⟩:=hx;exact⟨c,(vt _ λy hy ey ex=>by have q:=S.cell y hy ey;rw [ex,S.frees x hmem] at q;cases q).trans hc',o,hk c o ho,hd⟩
 ·subst e';have:=vw scope.names (h:=s.heap.push o) (a:=dO X.env scope.names []) (λx c e=>by
   obtain⟨v,q⟩:=I.cell x c (hcl x c e);exact⟨v,q.keeps λb o e=>NT _ e⟩) x c
  rw [Rn] at this;exact this e
 ·rcases AW S I e with z | z
  ·exact I.hok.fresh (Qm z)
  ·exact I.freeC x c z
 ·unfold bS;show _=N'.length;rw [OR,P8,NO,S.len]
end
section
variable {prog:Vj} {w:Vm} {A:Vo} {E:U8->Va->Prop} {R:Result->Va->Prop} {s:Va}
theorem Hl{elt target iter:Vd}{ifs:List Vd}{scope:Vv}{pos:Pos}{it acc:U8}{env:Env}(I:Nat->Va->Prop)
 (turn:∀n s,I n s->Vf (Vg prog w) A (pyNext it) (λr s₁=>match r with
  | none=>R (.ok .next) s₁
  | some v=>Vf (Vg prog w) A (Wj target it v) (λ_ s₁'=>Vf (Vg prog w) A (assign target env v) (λ_ s₂=>
   Vf (Vg prog w) A (forIn ifs true λc r=>if r=true then do let ok<-isTrue c env (eval c env);pure (QK ok) else pure (QK r)) (λok s₃=>
    if ok=true then Vf (Vg prog w) A (eval elt env) (λx s₄=>
     Vf (Vg prog w) A (call (.builtin "list.append") [acc,x]) (λ_ s₅=>∃m,m < n/\I m s₅) (λ_ _=>False) s₄) (λ_ _=>False) s₃
    else ∃m,m < n/\I m s₃) (λ_ _=>False) s₂) (λ_ _=>False) s₁') (λ_ _=>False) s₁) (λ_ _=>False) s)
 (n:Nat)(h:I n s):
 VT (Vg prog w) A (.compLoop (.ListComp elt [⟨target,iter,ifs,0⟩] scope pos) 0 it acc env) R s:=by
 refine codeAny_loop rfl I (λn s hI=>?_) n h;show Vf _ A ((compTurn (.ListComp elt [⟨target,iter,ifs,0⟩] scope pos) 0 it acc env).onRaise (λx=>do noteFrame x env;theTreesLotGoes x)) _ _ s;refine wpAny_noted ?_;rw [compTurn_list];refine Vb (Wo (Vb (Vu (turn n s hI) (λr s₁ h₁=>?_) λ_ _ h'=>h'.elim)));cases r with
 | none=>exact Vi h₁
 | some v=>
  refine Vb (Vu h₁ (λ_ s₁' h₁'=>?_) λ_ _ h'=>h'.elim);refine Vb (Vu h₁' (λ_ s₂ h₂=>Vb (Vu h₂ (λok s₃ h₃=>?_) λ_ _ h'=>h'.elim)) λ_ _ h'=>h'.elim);cases ok with
  | false=>exact Vi ⟨rfl,h₃⟩
  | true=>
   exact Vb (Vb (Vu h₃ (λx s₄ h₄=>Vb (Vu h₄ (λ_ s₅ h₅=>Vi (Vi ⟨rfl,h₅⟩)) λ_ _ h'=>h'.elim)) λ_ _ h'=>h'.elim))
end
def fk(X:Cx)(ifs:List Vd)(t:TT):Prop:=
 ∀(Wy:List (U9×Obj))(s:Va)(σ:St)(H:Hp)(Q:Bool->Hp->Prop),af X Wy σ H s->t σ H Q->
  Vf (Vg X.prog X.w) X.A (forIn ifs true λc r=>if r=true then do let ok<-isTrue c X.env (eval c X.env);pure (QK ok) else pure (QK r)) (TP X Wy σ Q) X.xe s
def AX:TT:=λ_ H Q=>Q true H
theorem AY{X:Cx}:fk X [] AX:=λWy s σ H Q I h=>wpAny_tests_nil ⟨H,I,h⟩
theorem di{X:Cx}{c:Vd}{t:TT}(h:PT X c t):fk X [c] t:=λWy s σ H Q I hq=>wpAny_tests_one (h Wy s σ H Q I hq)
theorem bM.but{P:Vj}{w:Vm}{H:Hp}{h h':Vl}{C:U9}(x:bM P w H h)(hC:H C=none)(k:∀b o,b≠C->h.get? b=some o->h'.get? b=some o):bM P w H h':=λa o e=>by
 refine(x a o e).stay (λb u hb q=>k b u ?_ q) (λ_ q=>q) (λ_ _ q=>q) λ_ _ q=>q;intro z;subst z;rcases hb with z | z
 ·rw [<-z,hC] at e;cases e
 ·rw [hC] at z;cases z
theorem Hm{M:Model}{A:Vo}{E:U8->Va->Prop}{s:Va}{scope:Vv}{g:U9}{cl:List (Str×U9)}{qual:Str}{e:Env}{Q:Env->Va->Prop}
 (hQ:∀h',h'=pushCells (s.heap.push {cls:= .type "dict",data:= .dict #[]}) scope.names->h'.Ns s.heap.objs.size (λ_=>none)->(∀b o,s.heap.get? b=some o->h'.get? b=some o)->
  Q (newEnv scope s.heap.objs.size g (VC (s.heap.objs.size+1) scope.names cl) qual none .none (some e) V1) {s with heap:=h'}):
 Vf M A (newFunctionEnv scope g cl [] qual none .none (some e)) Q E s:=by
 simp only [newFunctionEnv,TH,if_true];refine Vb (wpAny_alloc (Vb (wpAny_layCells _ (λname kind cells=>by cases hkc:kind==RB <;> simp [hkc]) _ _ _ _ ?_)));rw [show({s with heap:=s.heap.push {cls:= .type "dict",data:= .dict #[]}}:Va).heap.objs.size=s.heap.objs.size+1 from Rn ..];rw [Uu];exact Vb (Vi (Vi (hQ _ rfl ((Heap.Ns.new s.heap (.type "dict")).keeps (pushCells_keeps _ _)) λb o e=>pushCells_keeps _ _ b o (NT _ e))))
def i6(wi:TI)(g:TG)(tc:TT)(te:TE)(k:Nat)(fr:List Nat):TE:=λσ H Q=>wi σ H λJ H1=>∀D,H1 D=none->∃W:Nat->Nat->Hp->Prop,(∃m,W 0 m (ao H1 D (.lst [])))/\∀i m H,W i m H->
 (J.stop i H/\Q (.ref D) H)\/(J.go i H/\∀x H',J.yld i H x H'->g x (bS k fr σ) H' λσ2 H2=>jF (bS k fr σ) σ2/\tc σ2 H2 λok H3=>
  if ok=true then te σ2 H3 λy H4=>∃ys,H4 D=some (.lst ys)/\ys.length < Ve/\∃m',m' < m/\W (i+1) m' (ao H4 D (.lst (ys++[y])))
  else ∃m',m' < m/\W (i+1) m' H3)
section
variable {X:Cx} {tg iter elt:Vd} {ifs:List Vd} {scope:Vv} {N':List Str} {k:Nat} {fr:List Nat} {wi:TI} {g:TG} {tc:TT} {te:TE} {pos:Pos}
theorem AZ{use:Option (U8->Sem Unit)}{Q':U8->Va->Prop}{Wy:List (U9×Obj)}{s:Va}{σ:St}{H:Hp}{Q:VK}(hc:X.calm=true)(S:bj X.env.scope X.N N' k fr scope)(hi:PI X tg iter wi)
 (hg:∀fp C s H,PG (bR X scope N' fp C s H) tg g)(hf:∀fp C s H,fk (bR X scope N' fp C s H) ifs tc)(he:∀fp C s H,PE (bR X scope N' fp C s H) elt te)
 (I:af X Wy σ H s)(h:i6 wi g tc te k fr σ H Q)
 (hQ:∀D C s' H',C≠X.env.locals->af X Wy σ H' s'->(∀h',Rb C s'.heap h'->af X Wy σ H' {s' with heap:=h'})->Q (.ref D) H'->(∃m,s'.heap.Ns C m)->X.env.locals < C->H' C=none/\(∀x c,X.env.cells.lookup x=some c->c≠C)/\(∀p∈X.pn++Wy,p.1≠C)->compPost (Vg X.prog X.w) X.A X.xe use Q' (.ref D) C (.ok .next) s'):
 Vf (Vg X.prog X.w) X.A (eval iter X.env) (λx s₁=>Vf (Vg X.prog X.w) X.A (pyIter x) (λit s₂=>Vf (Vg X.prog X.w) X.A (newList []) (λacc s₃=>
  Vf (Vg X.prog X.w) X.A (newFunctionEnv scope X.env.globals (dO X.env scope.names []) [] X.env.qual none .none (some X.env)) (λcenv s₄=>
   VT (Vg X.prog X.w) X.A (.compStart (.ListComp elt [⟨tg,iter,ifs,0⟩] scope pos) 0 it acc {cenv with scope:=relabel scope X.env}) (compPost (Vg X.prog X.w) X.A X.xe use Q' acc cenv.locals) s₄) X.xe s₃) X.xe s₂) X.xe s₁) X.xe s:=by
 refine aB (hi Wy s σ H _ I h) λv s1 h1=>aB h1 λitv s2 h2=>?_;obtain⟨it,fp,tn,J,H2,e,I2,T,st2,f2,wW⟩:=h2;subst e;refine VB ?_;have hD0:H2 s2.heap.objs.size=none:=I2.hok.fresh (NV _);obtain⟨W,⟨m0,w0⟩,turn⟩:=wW _ hD0;generalize hD:s2.heap.objs.size=D at*;have I3:af X Wy σ (ao H2 D (.lst [])) {s2 with heap:=s2.heap.push {cls:= .type "list",dict:=none,data:= .seq ([]:List U8).toArray}}:=by
  have:=I2.lnew (ys:=[]) (its:=[]) (t':=s2.toks) .nil (Pe _);rw [hD] at this;exact this
 generalize hs3:({s2 with heap:=s2.heap.push {cls:= .type "list",dict:=none,data:= .seq ([]:List U8).toArray}}:Va)=s3 at*;have up23:∀b o,s2.heap.get? b=some o->s3.heap.get? b=some o:=λb o e=>by rw [<-hs3];exact NT _ e
 have fpD:∀b∈fp,b≠D:=λb hb z=>by
  obtain⟨o,ho,_⟩:=T.obj _ _ st2 b hb;have:=N5 ho;rw [hD,z] at this;exact Pn _ this
 have f3:∀b∈fp,gh X Wy (ao H2 D (.lst [])) b:=λb hb=>⟨by rw [aA (fpD b hb)];exact(f2 b hb).1,(f2 b hb).2⟩;have st3:tn 0 s3.heap:=T.keep _ _ _ st2 λb hb o e=>up23 b o e;have lt3:∀b∈fp,b < s3.heap.objs.size:=λb hb=>by obtain⟨o,ho,_⟩:=T.obj _ _ st3 b hb;exact N5 ho
 refine Hm λh₁ e₁ hns₁ up34=>?_;have I4:=Hk S I3 f3 lt3 e₁ hns₁ up34;have st4:tn 0 h₁:=T.keep _ _ _ st3 λb hb o e=>up34 b o e;generalize hX':bR X scope N' fp s3.heap.objs.size s3 (ao H2 D (.lst []))=X' at*;have hg':PG X' tg g:=by rw [<-hX'];exact hg _ _ _ _
 have hf':fk X' ifs tc:=by rw [<-hX'];exact hf _ _ _ _
 have he':PE X' elt te:=by rw [<-hX'];exact he _ _ _ _
 have eP:X'.prog=X.prog:=by rw [<-hX'];rfl
 have eW:X'.w=X.w:=by rw [<-hX'];rfl
 have eK:X'.K=X.K:=by rw [<-hX'];rfl
 have eA:X'.A=X.A:=by rw [<-hX'];rfl
 have eC:X'.calm=true:=by rw [<-hX'];exact hc
 have eE:X'.xe=λ_ _=>False:=by rw [<-hX'];rfl
 have eEnv:X'.env=compEnvC scope (qF X scope s3.heap.objs.size) s3.heap.objs.size X.env:=by rw [<-hX'];rfl
 have fpx:∀{H':Hp},(∀b∈fp,H' b=none)->∀b∈fp,gh X' [] H' b:=λ{H'} hn b hb=>by
  refine⟨hn b hb,?_,?_,.inl ?_,?_,?_⟩
  ·rw [eEnv];exact Oj (lt3 b hb)
  ·have:=I4.ok.exfs b (by rw [<-hX'];exact hb);exact this
  ·rw [<-hX'];exact hb
  ·have:=I4.ok.exf b (by rw [<-hX'];exact hb);exact this.2
  ·intro p hp;rw [<-hX'] at hp;simp [bR] at hp
 have fin:∀(s':Va)(H':Hp)(σ':St),af X' [] σ' H' s'->Q (.ref D) H'->compPost (Vg X.prog X.w) X.A X.xe use Q' (.ref D) s3.heap.objs.size (.ok .next) s':=λs' H' σ' J q=>by
  have un:Un (aY X.stack) fp (ao H2 D (.lst [])) H' s3.heap s'.heap:=by have:=J.base;rw [<-hX'] at this;exact this
  have jos:s'.os=s3.os:=by have:=J.os;rw [<-hX'] at this;exact this
  have hC:H' s3.heap.objs.size=none:=by have:=J.free;rw [eEnv] at this;exact this
  have hok':bM X.prog X.w H' s'.heap:=by have:=J.hok;rw [eP,eW] at this;exact this
  have g5:∀h',Rb s3.heap.objs.size s'.heap h'->af X Wy σ H' {s' with heap:=h'}:=λh' hs'=>by
   have un':Un (aY X.stack) fp (ao H2 D (.lst [])) H' s3.heap h':=
    ⟨λb o e n h1 h2=>hs'.extBut b o (Oj (N5 e)) (un.keep b o e n h1 h2),λb o e n h1 h2=>by
     obtain⟨sl,z⟩:=un.slot b o e n h1 h2;exact⟨sl,hs'.extBut b _ (Oj (N5 e)) z⟩,un.free,λb o e h2=>by
     obtain⟨o',z⟩:=un.there b o e h2;exact⟨o',hs'.extBut b o' (Oj (N5 e)) z⟩,un.tups,un.frzs,un.tbls⟩
   exact af.call' (s':={s' with heap:=h'}) I3 jos un' (hok'.but hC hs'.extBut) J.bare λb hb=>⟨(f3 b hb).2.2.2.1,(f3 b hb).2.1,(f3 b hb).2.2.2.2.1,(f3 b hb).2.2.2.2.2⟩
  have nsC:∃m,s'.heap.Ns s3.heap.objs.size m:=by
   obtain⟨m,hn,_⟩:=J.loc;rw [eEnv] at hn;exact⟨m,hn⟩
  exact hQ D s3.heap.objs.size s' H' (RN I3.lt) (g5 s'.heap (.refl ..)) g5 q nsC I3.lt
   ⟨hC,λx c e=>by obtain⟨v,o,ho,_⟩:=I3.cell x c e;exact Oj (N5 ho),λp hp=>Oj (N5 (I3.pin p hp).1)⟩
 have loop:∀s4:Va,s4=({s3 with heap:=h₁}:Va)->
  VT (Vg X.prog X.w) X.A (.compLoop (.ListComp elt [⟨tg,iter,ifs,0⟩] scope pos) 0 (.ref it) (.ref D) X'.env) (compPost (Vg X.prog X.w) X.A X.xe use Q' (.ref D) s3.heap.objs.size) s4:=by
  rintro s4 rfl;refine Hl (λn s'=>∃i H',af X' [] (bS k fr σ) H' s'/\tn i s'.heap/\(∀b∈fp,H' b=none)/\W i n H') ?_ m0 ⟨0,_,I4,st4,λb hb=>(f3 b hb).1,w0⟩;rintro n s5 ⟨i,H5,I5,st5,fr5,w5⟩;rcases turn i n H5 w5 with⟨stop,qn⟩ | ⟨go,step⟩
  ·have:=T.done X' eP eW eK eC i [] s5 _ H5 (λ_ _=>False) I5 (fpx fr5) st5 stop;rw [eA] at this;refine aB this λr s6 ⟨hr,I6⟩=>?_;subst hr;exact fin s6 H5 _ I6 qn
  ·have:=T.item X' eP eW eK eC i [] s5 _ H5 (λ_ _=>False) I5 (fpx fr5) st5 go;rw [eA] at this;refine aB this λr s6 ⟨u,hr,h6⟩=>?_;subst hr;refine aB h6 λ_ s7 ⟨x,H7,I7,r7,y7,st7,fr7⟩=>?_;have I7':=I7.pinned (fpx fr7) (T.obj _ _ st7);have h8:=hg' _ s7 _ H7 x u _ I7' r7 (step x H7 y7);rw [eP,eW,eA,eE] at h8;refine aB h8 λ_ s8 ⟨σ8,H8,I8,kp,q8⟩=>?_;have h9:=hf' _ s8 σ8 H8 _ I8 q8;rw [eP,eW,eA,eE] at h9;have again:∀{s9:Va}{H9:Hp}{n':Nat},af X' ([]++mq fp s7.heap) σ8 H9 s9->n' < n->W (i+1) n' H9->∃m,m < n/\∃i H',af X' [] (bS k fr σ) H' s9/\tn i s9.heap/\(∀b∈fp,H' b=none)/\W i m H':=λ{s9 H9 n'} I9 hn' w9=>by
    refine⟨n',hn',i+1,H9,I9.unpinned.weak kp.1 kp.2,T.keep _ _ _ st7 λb hb o e=>(I9.pin (b,o) (OH _ (OH _ (qp hb e)))).1,λb hb=>?_,w9⟩;obtain⟨o,e,d⟩:=T.obj _ _ st7 b hb;exact(I9.pin (b,o) (OH _ (OH _ (qp hb e)))).2.1
   refine aB h9 λok s9 ⟨H9,I9,q9⟩=>?_;cases ok with
   | false=>
    rw [U3 NW] at q9;obtain⟨m',hm',w9⟩:=q9;rw [U3 NW];exact again I9 hm' w9
   | true=>
    rw [U4 rfl] at q9;rw [U4 rfl];have h10:=he' _ s9 σ8 H9 _ I9 q9;rw [eP,eW,eA,eE] at h10;refine aB h10 λy s10 ⟨yv,H10,I10,r10,ys,hys,hz,m',hm',w10⟩=>?_;have h11:=AS (X:=X') _ s10 σ8 H10 (.ref D) [yv] (.ref D) [y] (λ_ H'=>W (i+1) m' H') I10 rfl (.cons r10 .nil) ⟨D,ys,yv,rfl,rfl,hys,hz,w10⟩;rw [eP,eW,eA,eE] at h11;exact aB h11 λ_ s11 uu63=>by obtain⟨_,H11,I11,_,q11⟩:=uu63;exact again I11 hm' q11
 have hE:({newEnv scope s3.heap.objs.size X.env.globals (qF X scope s3.heap.objs.size) X.env.qual none .none (some X.env) V1 with scope:=relabel scope X.env}:Env)=X'.env:=by
  rw [eEnv];rfl
 have goal:=codeAny_compStart_list (elt:=elt) (target:=tg) (iter:=iter) (ifs:=ifs) (rest:=[]) (scope:=scope) (pos:=pos) (loop _ rfl) (T.self X.A 0 _ _ _ st4 (loop _ rfl));rw [<-hE] at goal;exact goal
theorem mB(hc:X.calm=true)(S:bj X.env.scope X.N N' k fr scope)(hi:PI X tg iter wi)
 (hg:∀fp C s H,PG (bR X scope N' fp C s H) tg g)(hf:∀fp C s H,fk (bR X scope N' fp C s H) ifs tc)(he:∀fp C s H,PE (bR X scope N' fp C s H) elt te)
 (hs:∀x,Vp iter X.env x=pure x:=by intro _;rfl):PE X (.ListComp elt [⟨tg,iter,ifs,0⟩] scope pos) (i6 wi g tc te k fr):=by
 intro Wy s σ H Q I h;have hcell:∀y∈scope.names,y.2= .free->∃c,X.env.cells.lookup y.1=some c:=λy hy e=>I.ok.has y.1 (S.outer y hy e);rw [eval_ListComp];refine Wv (use:=none) rfl hs (vj hcell) S.kind S.names (AZ hc S hi hg hf he I h ?_);intro D C s' H' hC J g5 q ns hlt _;obtain⟨m,hn⟩:=ns;exact⟨m,hn,λh' hs'=>⟨.ref D,H',g5 h' hs',rfl,q⟩⟩
theorem Hn{i:Nat}{x:Str}{pos' spos:Pos}(hN:X.N.Nodup)(hxi:X.N[i]?=some x)(hx:gc X.env.scope x)(hc:X.calm=true)(S:bj X.env.scope X.N N' k fr scope)(hi:PI X tg iter wi)
 (hg:∀fp C s H,PG (bR X scope N' fp C s H) tg g)(hf:∀fp C s H,fk (bR X scope N' fp C s H) ifs tc)(he:∀fp C s H,PE (bR X scope N' fp C s H) elt te)
 (hsw:Vw (.ListComp elt [⟨tg,iter,ifs,0⟩] scope pos) (some (.Name x pos')) spos.line X.env=pure true)
 (hs:∀x,Vp iter X.env x=pure x:=by intro _;rfl)(hfn:X.fn x=true\/X.env.scope.names.lookup x=some .local:=by first | exact .inl rfl | exact .inr rfl | assumption):
 PS X (.Assign [.Name x pos'] (.ListComp elt [⟨tg,iter,ifs,0⟩] scope pos) spos) (kh (i6 wi g tc te k fr) (gf i)):=by
 intro Wy s σ H D I h;have hcell:∀y∈scope.names,y.2= .free->∃c,X.env.cells.lookup y.1=some c:=λy hy e=>I.ok.has y.1 (S.outer y hy e);rw [exec_Assign_Name_used _ _ _ _ hsw];refine Vb (Wo (Vb ?_));show Vf _ X.A (do let _<-comprehension (.ListComp elt [⟨tg,iter,ifs,0⟩] scope pos) scope X.env _ (newList []) false (eval iter X.env) (some (assign (.Name x pos') X.env))) _ _ s;refine Vb (Vu (Wv (use:=some (assign (.Name x pos') X.env)) (Q:=λ_ s'=>∃σ' H',af X Wy σ' H' s'/\D.nx σ' H') rfl hs (vj hcell) S.kind S.names (AZ hc S hi hg hf he I h ?_)) (λ_ s' hq=>Vi (Vi hq)) λ_ _ e=>e);intro D' C s' H' hC J g5 q ns hlt ⟨c1,c2,c3⟩;obtain⟨m,hn⟩:=ns;show Vf _ X.A (assign (.Name x pos') X.env (.ref D')) _ _ _;refine wpAny_assign_Name (x8 J hN hxi hx (v:= .ref D') rfl (λs2 J2 sb=>?_) hfn);obtain⟨a,sb,ha⟩:=sb;have hCa:C≠a:=by
  rcases ha with z | z
  ·rw [z];exact hC
  ·exact Ne.symm (c2 _ _ z)
 refine⟨m,hn.sameBut sb hCa,λh3 hs3=>⟨_,H',?_,q⟩⟩;exact J2.turned (t':=s2.toks) hs3.extBut c1 hC (.inr (Ot J.ok.above (Qm hlt))) c2 c3
end
section
variable {X:Cx}
theorem A0(hc:X.calm=true):cH X (.builtin "sum") (λxs H Q=>∃(a:U9)(ns:List Int),xs=[.ref a]/\aV X.K H a (ns.map V.int)/\Q (.int ns.sum) H):=by
 intro Wy s σ H xs us Q I r h;obtain⟨a,ns,rfl,hl,q⟩:=h;obtain⟨u,rfl,rx⟩:=c9 r;cases rx;obtain⟨its,rv,p,hz⟩:=I.list hl;have hi:IntsAre its ns:=GS rv;have hall:AllInts its.toArray:=hi.allInts;obtain⟨ys,hys⟩:=hall.items;have hn:numsOf its.toArray.toList=ns:=by rw [show its.toArray.toList=its from rfl,hi.numsOf]
 rw [hys,nums_intItems] at hn;have hl':=p.isList;rw [hys] at hl';refine sum_intListG (I.ok.hd hc) hl' λh' tk t' hk=>?_;refine⟨.int ns.sum,H,I.kept hk,⟨t',?_⟩,q⟩;rw [preSum_eq,OD U6,hn]
end
end L2
namespace Att
open PySem PySem.W PySem.Calls PyProof.Rows
theorem Ho{ns:List Int}(h:Uc [Sk (ns.map QJ)]=true):∀n∈ns,PJ n<=1048576:=by
 have h1:(Sk (ns.map QJ)).layable=true:=by simpa [Uc] using h
 have h2:(Sk (ns.map QJ)).weight<=1048576:=(PySem.W.layableW_iff.mp h1).2.2;have key:∀l:List Int,∀n∈l,PJ n<=Q5 (l.map QJ):=by
  intro l
  induction l with
  | nil=>intro n hn;simp at hn
  | cons x r ih=>
   intro n hn;have e:Q5 ((x::r).map QJ)=PJ x+1+Q5 (r.map QJ):=by
    rw [NS,Q5,UI];rfl
   rw [e];rcases N9.mp hn with z | z
   ·subst z;omega
   ·have:=ih n z;omega
 intro n hn;have e:(Sk (ns.map QJ)).weight=Q5 (ns.map QJ):=by rw [UI]
 rw [e] at h2;exact Ot (key ns n hn) h2
theorem attach_callB{l:OpenLaw}{n:Nat}{q:Vj}{loose:List Str}{XP:(Str->Option U8)->Vl->Prop}{YP:Vm->Vl->Prop}{d:DefRec}
 (hn:l.most=some n)(hdf:d.params.defaults=[])
 (call:∀(w:Vm) (s₀ s₁:Va) (mg mb:Str->Option U8) (fa:U9) (o:Obj) (pm cd doc:U8) (a:U9) (vs:List U8) (ns:List Int),
  Ground q loose [] XP w s₀ mg mb s₁.heap->YP w s₁.heap->
  s₁.heap.get? fa=some o->o.data= .func (docDef d.name d.params d.body d.scope pm cd doc)->s₁.heap.CodeRec cd d.name->mg d.name=some (.ref fa)->
  s₁.heap.get? a=some {cls:= .type "list",data:= .seq vs.toArray}->IntsAre vs ns->ns.length<=n->(∀z∈ns,PJ z<=1048576)->s₁.gens=#[]->
  VT (Vg l.prog w) callerA (.call (.ref fa) ⟨[.ref a],[]⟩) (λr s'=>r= .ok (.ret (.bool true))/\OldK s₁.heap s'.heap/\s'.os=s₁.os/\V2 s'.gens) s₁):
 WalkO q loose XP YP l.row.toRowW d [] (λf vs=>UX f vs):=by
 intro w s₀ s₁ mg mb G Y fa o pm cd doc dV kV ho hd hcd hD hmg hg args vals as hpre hlay hrd hwl hlo;obtain rfl:dV= .none:=Dflts.none hD hdf;obtain rfl:kV= .none:=Dflts.noKw hD;obtain⟨a,vs,ns,rfl,rfl,hobj,hints,hlen⟩:=Hf hn hpre hwl;have hb:∀z∈ns,PJ z<=1048576:=Ho hlay;refine enter_call (VU (call w s₀ s₁ mg mb fa o pm cd doc a vs ns G Y ho (fd_plain hd) hcd hmg hobj hints hlen hb hg) λr s' hq=>?_);obtain⟨rfl,h2,h3,h4⟩:=hq;exact⟨.inl ⟨.bool true,.bool true,[],rfl,λ_=>rfl,.bool true,Hg l _,λ_=>⟨UE.nil,λ_ hm=>(nomatch hm)⟩⟩,h2,h3,h4⟩
end Att
namespace L2
open PySem PySem.Spec PyProof.Rows
def ku(p:U9)(H H':Hp):Prop:=∀b o,H b=some o->b≠p->H' b=some o
theorem aj.new{H:Hp}{p:U9}{o:HO}(h:H p=none):aj H (ao H p o):=λb u e=>by rw [aA (cL e h)];exact e
def FR(J:It)(g:TG)(tb:TS)(D:ig)(σ:St)(H1:Hp):Prop:=∃W:Nat->Nat->St->Hp->Prop,(∃m,W 0 m σ H1)/\∀i m σ H,W i m σ H->
 (J.stop i H/\D.nx σ H)\/(J.go i H/\∃N:St->Hp->Prop,(∀σ' H',N σ' H'->∃m',m' < m/\W (i+1) m' σ' H')/\∀x H',J.yld i H x H'->g x σ H' λσ2 H2=>tb {D with nx:=N,ct:=N,bk:=D.nx} σ2 H2)
theorem A1{ta:TA}{g:TG}{tb:TS}:mn (uM ta) g tb=λD σ H=>ta σ H λvs H1=>∃j:Int,vs=[.int j]/\-(2 ^ 62)<=j/\j < 2 ^ 62/\FR (gT 0 j.toNat) g tb D σ H1:=rfl
theorem A2{ta:TA}{g:TG}{tb:TS}:mn (uN ta) g tb=λD σ H=>ta σ H λvs H1=>∃i j:Int,vs=[.int i,.int j]/\(-(2 ^ 62)<=i/\i < 2 ^ 62/\-(2 ^ 62)<=j/\j < 2 ^ 62)/\FR (gT i (j - i).toNat) g tb D σ H1:=rfl
theorem A3{K:NM}{tl:TE}{g:TG}{tb:TS}:mn (uJ K tl) g tb=λD σ H=>tl σ H λx H1=>∃a,x= .ref a/\(∃xs,aV K H1 a xs)/\FR (ki K a) g tb D σ H1:=rfl
theorem A4{K:NM}{tl:TE}{g:TG}{tb:TS}:mn (uK K tl) g tb=λD σ H=>tl σ H λx H1=>∃a,x= .ref a/\(∃xs,bx K H1 a xs)/\FR (mj K a) g tb D σ H1:=rfl
def jG(J:It)(g:TG)(tc:TT)(te:TE)(k:Nat)(fr:List Nat)(σ:St)(H1:Hp)(Q:VK):Prop:=∀D,H1 D=none->∃W:Nat->Nat->Hp->Prop,(∃m,W 0 m (ao H1 D (.lst [])))/\∀i m H,W i m H->
 (J.stop i H/\Q (.ref D) H)\/(J.go i H/\∀x H',J.yld i H x H'->g x (bS k fr σ) H' λσ2 H2=>jF (bS k fr σ) σ2/\tc σ2 H2 λok H3=>
  if ok=true then te σ2 H3 λy H4=>∃ys,H4 D=some (.lst ys)/\ys.length < Ve/\∃m',m' < m/\W (i+1) m' (ao H4 D (.lst (ys++[y])))
  else ∃m',m' < m/\W (i+1) m' H3)
theorem A5{ta:TA}{g:TG}{tc:TT}{te:TE}{k:Nat}{fr:List Nat}:i6 (uM ta) g tc te k fr=λσ H Q=>ta σ H λvs H1=>∃j:Int,vs=[.int j]/\-(2 ^ 62)<=j/\j < 2 ^ 62/\jG (gT 0 j.toNat) g tc te k fr σ H1 Q:=rfl
theorem A6{ta:TA}{g:TG}{tc:TT}{te:TE}{k:Nat}{fr:List Nat}:i6 (uN ta) g tc te k fr=λσ H Q=>ta σ H λvs H1=>∃i j:Int,vs=[.int i,.int j]/\(-(2 ^ 62)<=i/\i < 2 ^ 62/\-(2 ^ 62)<=j/\j < 2 ^ 62)/\jG (gT i (j - i).toNat) g tc te k fr σ H1 Q:=rfl
theorem A7{K:NM}{tl:TE}{g:TG}{tc:TT}{te:TE}{k:Nat}{fr:List Nat}:i6 (uJ K tl) g tc te k fr=λσ H Q=>tl σ H λx H1=>∃a,x= .ref a/\(∃xs,aV K H1 a xs)/\jG (ki K a) g tc te k fr σ H1 Q:=rfl
theorem A8{K:NM}{tl:TE}{g:TG}{tc:TT}{te:TE}{k:Nat}{fr:List Nat}:i6 (uK K tl) g tc te k fr=λσ H Q=>tl σ H λx H1=>∃a,x= .ref a/\(∃xs,bx K H1 a xs)/\jG (mj K a) g tc te k fr σ H1 Q:=rfl
theorem A9{fr:List Nat}{σ:St}{v:Option V}:jF (bS 1 fr σ) ((bS 1 fr σ).set 0 v):=by
 refine⟨U6,λi w h=>?_⟩;cases i with
 | zero=>simp [bS,Oa] at h
 | succ i=>simpa [bS,Oa] using h
theorem Hq{lo:Int}{n:Nat}{te:TE}{fr:List Nat}{σ:St}{H:Hp}{Q:VK}(f:Nat->V)(hn:n<=1000000)
 (ht:∀(i:Nat) (H':Hp) (R:VK),i < n->aj H H'->(∀H'',aj H' H''->R (f i) H'')->te ((bS 1 fr σ).set 0 (some (.int (lo+i)))) H' R)
 (hq:∀D H',H D=none->aj H H'->H' D=some (.lst ((OU n).map f))->Q (.ref D) H'):jG (gT lo n) (gf 0) AX te 1 fr σ H Q:=by
 intro D hD;refine⟨λi m H'=>m=n - i/\i<=n/\aj H H'/\H' D=some (.lst ((OU i).map f)),⟨n,U6,Pe _,aj.new hD,by rw [aR];rfl⟩,?_⟩;rintro i m H1 ⟨rfl,hi,s1,e1⟩;by_cases hlt:i < n
 ·refine .inr ⟨hlt,λx H' y=>?_⟩;obtain⟨e,y⟩:=y;subst e y;refine⟨A9,?_⟩;show te _ _ _;refine ht i H' _ hlt s1 λH2 s2=>?_;refine⟨_,s2 D _ e1,?_,n - (i+1),U2,rfl,hlt,?_,?_⟩
  ·rw [NO,Rv,VE];omega
  ·exact λb o h=>by rw [aA (cL h hD)];exact s2 b o (s1 b o h)
  ·rw [aR,RQ,OJ];rfl
 ·have e:i=n:=U2
  subst e;exact .inl ⟨NV _,hq D H1 hD s1 e1⟩
theorem cxK{CX:d3}{P:Vj}{w:Vm}{K:NM}{mg:Str->Option U8}{base:Vl}{N:List Str}{qual:Str}{scope:Vv}{f:U9}{cd:U8}{A:Vo}{outer:List Env}{s:Va}{H:Hp}{E:XK}:(bh CX P w K mg base N qual scope f cd A outer s H E).K=K:=rfl
theorem cmK{X:Cx}{scope:Vv}{N':List Str}{fp:List U9}{C:U9}{s:Va}{H:Hp}:(bR X scope N' fp C s H).K=X.K:=rfl
theorem kz{K:NM}{p:U9}{xs:List V}{i:Int}{v:V}{H:Hp}{Q:VK}(h:aV K H p xs)(hv:atI xs i=some v)(q:Q v H):qC K (.ref p) (.int i) H Q:=⟨p,xs,i,v,rfl,rfl,h,hv,q⟩
theorem kA{K:NM}{p:U9}{xs:List V}{i:Int}{v:V}{H:Hp}{Q:VK}(h:bx K H p xs)(hv:atI xs i=some v)(q:Q v H):qD K (.ref p) (.int i) H Q:=⟨p,xs,i,v,rfl,rfl,h,hv,q⟩
theorem vz{a b:Int}:(if b < a then b else a)=min a b:=by
 by_cases h:b < a
 ·rw [U4 h];omega
 ·rw [U3 h];omega
theorem Hr:Vq "divmod"=some (.builtin "divmod"):=U0
theorem gz:Vq "isinstance"=some (.builtin "isinstance"):=U0
theorem mC:Vq "int"=some (.type "int"):=U0
theorem vA:Vq "bool"=some (.type "bool"):=U0
theorem Ba:Vq "str"=some (.type "str"):=U0
theorem gA:Vq "tuple"=some (.type "tuple"):=U0
theorem vB:Vq "dict"=some (.type "dict"):=U0
open PySem PySem.Spec PyProof.Rows PySem.W
def aL(P:Vj)(w:Vm):d3:=λouter H s E ev s'=>∃(e:U9)(cls a0:U8)(B:Vl)(H':Hp),ev= .ref e/\s'.os=s.os/\V2 s'.gens/\TJ B outer e cls a0 s'.heap/\bM P w H' B/\
 Un (aY outer) [] H H' s.heap s'.heap/\(∀b o,s.heap.get? b=some o->H b=none->b ∉ aY outer->B.get? b=some o)/\(∀b o,s.heap.get? b=some o->b ∉ aY outer->∃o',B.get? b=some o')/\E cls none H'
theorem bM.hide{P:Vj}{w:Vm}{H:Hp}{h:Vl}{as:List U9}(x:bM P w H h)(hn:∀b∈as,H b=none):bM P w H (hideAll h as):=λa o e=>by
 refine(x a o e).stay (λb u hb q=>V9 _ q λhm=>?_) (λ_ q=>q) (λ_ _ q=>q) λ_ _ q=>q;have z:=hn b hm;rcases hb with r | r
 ·rw [r] at z;rw [z] at e;cases e
 ·rw [z] at r;cases r
section
variable {P:Vj} {w:Vm} {K:NM} {mg:Str->Option U8} {base:Vl} {N:List Str} {qual:Str} {scope:Vv} {f:U9} {cd:U8} {A:Vo} {outer:List Env} {s:Va} {H:Hp} {E:XK}
theorem Hs{Wy:List (U9×Obj)}{σ:St}{H1:Hp}{s1:Va}{h':Vl}{e:U9}{cls:U8}{args:List U8}
 (I:af (bh (aL P w) P w K mg base N qual scope f cd A outer s H E) Wy σ H1 s1)(hx:Uv s1.heap h' e cls args)(q:E cls none H1):
 (bh (aL P w) P w K mg base N qual scope f cd A outer s H E).xe (.ref e) {s1 with heap:=h'}:=by
 have st:=I.stack;have sf:=I.stkFree;have ub:Un (aY outer) [] H H1 s.heap s1.heap:=I.base;have fo:s1.heap.FunFrames base outer:=I.funs;have hin:∀env∈(bh (aL P w) P w K mg base N qual scope f cd A outer s H E).stack,∀a,env.frame=some a->a∈aY (bh (aL P w) P w K mg base N qual scope f cd A outer s H E).stack:=λenv he a hf=>P7.mpr ⟨env,he,hf⟩;show Vf (Vg P w) _ (leaving _ (.ref e)) _ _ _;refine wpAny_leaves_madeW (base:=hideAll s1.heap (aY (bh (aL P w) P w K mg base N qual scope f cd A outer s H E).stack)) (h:=s1.heap) I.ok.frames rfl (λb o z=>of_hideAll _ z) (funFrames_hide st hin) hx λh2 t x1 x2 x3 x4=>?_;have nst:∀b o,s.heap.get? b=some o->b ∉ aY outer->b ∉ aY (bh (aL P w) P w K mg base N qual scope f cd A outer s H E).stack:=λb o eb hb hm=>by
  rcases N9.mp (I.stkSub b hm) with z | z
  ·have h1:=N5 eb;have h2:=I.ok.above;rw [<-z] at h2;exact absurd (Ol h1 h2) (Pn _)
  ·exact hb z
 have up:∀b∈aY outer,∀o,s1.heap.get? b=some o->∃sl,h2.get? b=some {o with slots:=sl}:=λb hb o eo=>by
  obtain⟨_,o',ho',hd⟩:=fo.mem hb;rw [eo] at ho';cases ho';exact x4 b o (hx.keeps _ _ eo) hd
 refine⟨e,cls,.ref t,_,H1,rfl,I.os,I.bare,x1,I.hok.hide sf,⟨λb o eb n hb hx'=>?_,λb o eb n hb hx'=>?_,ub.free,λb o eb hx'=>?_,ub.tups,ub.frzs,ub.tbls⟩,λb o eb n hb=>?_,λb o eb hb=>?_,q⟩
 ·exact x1.1 b o (V9 _ (ub.keep b o eb n hb hx') (nst b o eb hb))
 ·obtain⟨sl,es⟩:=ub.slot b o eb n hb hx';obtain⟨sl',es'⟩:=up b hb _ es;exact⟨sl',es'⟩
 ·obtain⟨o',eo'⟩:=ub.there b o eb hx';by_cases hb:b∈aY outer
  ·obtain⟨sl',es'⟩:=up b hb _ eo';exact⟨_,es'⟩
  ·exact⟨o',x1.1 b o' (V9 _ eo' (nst b o eb hb))⟩
 ·exact V9 _ (ub.keep b o eb n hb U6) (nst b o eb hb)
 ·obtain⟨o',eo'⟩:=ub.there b o eb U6;exact⟨o',V9 _ eo' (nst b o eb hb)⟩
theorem vC{E':XK}(hE:∀cls d H',E' cls d H'->E cls d H'):i4 (aL P w) (bh (aL P w) P w K mg base N qual scope f cd A outer s H E) E':=by
 intro Wy σ H1 s1 ev s2 I h;obtain⟨e,cls,a0,B,H2,rfl,ho,hg,fl,hb,un,kb,th,q⟩:=h;have ub:Un (aY outer) [] H H1 s.heap s1.heap:=I.base;have stk:(bh (aL P w) P w K mg base N qual scope f cd A outer s H E).stack=VM qual scope s.heap.objs.size f cd::outer:=rfl;show Vf (Vg P w) _ (leaving _ (.ref e)) _ _ _;refine wpAny_leaves_onW I.ok.frames rfl fl λh2 x1 x2=>?_;have nst:∀b o,s.heap.get? b=some o->b ∉ aY outer->b ∉ aY (bh (aL P w) P w K mg base N qual scope f cd A outer s H E).stack:=λb o eb hb hm=>by
  rcases N9.mp (I.stkSub b hm) with z | z
  ·have h1:=N5 eb;have h2:=I.ok.above;rw [<-z] at h2;exact absurd (Ol h1 h2) (Pn _)
  ·exact hb z
 have sub:∀b∈aY outer,b∈aY (bh (aL P w) P w K mg base N qual scope f cd A outer s H E).stack:=λb hb=>by
  rw [stk];unfold aY;rw [Pr];exact OB _ hb
 have up:∀b∈aY outer,∀o,s2.heap.get? b=some o->∃sl,h2.get? b=some {o with slots:=sl}:=λb hb o eo=>by
  obtain⟨_,o',ho',hd⟩:=fl.2.2.1.mem (sub b hb);rw [eo] at ho';cases ho';exact x2 b o eo hd
 have kB:∀b o,s.heap.get? b=some o->H b=none->b ∉ aY outer->B.get? b=some o:=λb o eb n hb=>kb b o (ub.keep b o eb n hb U6) (ub.free b o eb n U6) (nst b o eb hb);have tB:∀b o,s.heap.get? b=some o->b ∉ aY outer->∃o',B.get? b=some o':=λb o eb hb=>by
  obtain⟨o',eo'⟩:=ub.there b o eb U6;exact th b o' eo' (nst b o eb hb)
 refine⟨e,cls,a0,B,H2,rfl,ho.trans I.os,hg,x1,hb,⟨λb o eb n hb' hx'=>x1.1 b o (kB b o eb n hb'),λb o eb n hb' hx'=>?_,λb o eb n hx'=>?_,λb o eb hx'=>?_,λb xs z=>un.tups b xs (ub.tups b xs z),λb o u z=>un.frzs b o u (ub.frzs b o u z),λb ps z=>?_⟩,kB,tB,hE _ _ _ q⟩
 ·obtain⟨sl,es⟩:=ub.slot b o eb n hb' hx';obtain⟨sl1,es1⟩:=un.slot b _ es (ub.free b o eb n hx') (sub b hb') U6;obtain⟨sl2,es2⟩:=up b hb' _ es1;exact⟨sl2,es2⟩
 ·obtain⟨o',eo'⟩:=ub.there b o eb hx';exact un.free b o' eo' (ub.free b o eb n hx') U6
 ·by_cases hb':b∈aY outer
  ·obtain⟨o',eo'⟩:=ub.there b o eb hx';obtain⟨o2,eo2⟩:=un.there b o' eo' U6;obtain⟨sl',es'⟩:=up b hb' _ eo2;exact⟨_,es'⟩
  ·obtain⟨o',eo'⟩:=tB b o eb hb';exact⟨o',x1.1 b o' eo'⟩
 ·obtain⟨m1,e1⟩:=ub.tbls b ps z;obtain⟨m2,e2⟩:=un.tbls b _ e1;exact⟨m1++m2,by rw [e2,RX]⟩
end
theorem vD{K:NM}{h:Vl}{mg:Str->Option U8}{x:Str}{C:U9}{bmB:List U8}{newId:String}(X:K.In h)(hm:mg x=some (.ref C))(q:P5 K C bmB newId=true):OwnCls x C bmB newId mg h:=by
 refine⟨hm,?_⟩;unfold P5 at q;split at q
 ·rename_i dd cd sl ho;split at q
  ·rename_i C' bm k0 k1 k2 k3 n k5 hm hs;simp only [OV,beq_iff_eq,PZ] at q;obtain⟨⟨⟨⟨⟨rfl,rfl⟩,hdel⟩,ht⟩,hok⟩,hni⟩:=q;obtain⟨nm,bs,mro,ns,qn,hd,sn,sub,ab,col,del⟩:=cd;dsimp only at hm hdel hok hni;subst hm hdel;have hsl:sl=#[k0,k1,k2,k3,some (.builtin n),k5]:=by
    obtain⟨l⟩:=sl;simp only at hs;rw [hs]
   subst hsl;exact⟨bm,ns,nm,qn,bs,hd,sn,sub,ab,col,dd,k0,k1,k2,k3,k5,_,X _ _ ho,.of_isNs (isNs_of_in X hok),nsMap_none_of_in X hok hni,tail_of_in X ht⟩
  ·cases q
 ·cases q
section
variable {X:Cx}
def Bb(ta:TA)(Ex:Hp->Prop):TS:=λ_ σ H=>ta σ H λvs H1=>vs.length<=Ve/\Ex H1
theorem Ht{x:Str}{C:U9}{bm:List U8}{B newId initId:String}{e:Vd}{es:List Vd}{np cpos pos:Pos}{ta:TA}{Ex:Hp->Prop}(hm:X.mg x=some (.ref C))(O:P5 X.K C bm newId=true)(FB:ExcBaseFacts B newId initId bm)(hc:X.calm=true)
 (hg:Gl X x)(ha:PA X (e::es) ta)(hxe:∀(Wy:List (U9×Obj)) (σ:St) (H:Hp) (s:Va) (h':Vl) (e:U9) (args:List U8),af X Wy σ H s->Uv s.heap h' e (.ref C) args->Ex H->X.xe (.ref e) {s with heap:=h'})
 (hd:(x==("__debug__":Str))=false:=by decide)(he:Vc (e::es) X.env=(false,eval e X.env)::Vc es X.env:=by rfl)(hpl:(Vr cpos (Vc es X.env)).any (·.1)=false:=by rfl):
 PS X (.Raise (some (.Call (.Name x np) (e::es) [] cpos)) none pos) (Bb ta Ex):=by
 intro Wy s σ H D I h;obtain⟨tl,N,nm,q,bs,hdct,sn,sub,ab,col,dd,k0,k1,k2,k3,k5,mN,hC,hN,hni,T⟩:=(vD (x:=x) I.ok.mod.kin hm O).obj;have h':=ha cpos Wy s σ H _ I h;refine wpAny_Raise_call_subT (C:=C) (nm:=nm) (q:=q) (N:=N) (bs:=bs) (bm:=tl) (hdct:=hdct) (sn:=sn) (sub:=sub) (ab:=ab) (col:=col) (dd:=dd) (k0:=k0) (k1:=k1) (k2:=k2) (k3:=k3) (k5:=k5)
  FB (mN:=mN) (T.hasType FB.hasBase) (I.ok.hd hc) (by rw [he];show(false || (Vr cpos (Vc es X.env)).any (·.1))=false;rw [hpl];rfl) hni (jA I hg hm ⟨rfl,?_⟩ hd)
 rw [he] at h'⊢;refine RO (aB h' λus s1 uu64=>by obtain⟨vs,H1,I1,r,hz,q1⟩:=uu64;exact⟨rfl,by rw [<-r.length];exact hz,I1.bk _ _ hC,hN.keeps I1.bk,T.keeps I1.bk,λh2 e2 hm2=>hxe Wy σ H1 s1 h2 e2 us I1 hm2 q1⟩)
end
section
variable {P:Vj} {w:Vm} {K:NM} {mg:Str->Option U8} {base:Vl}
theorem cP.okR{x qual:Str}{st:Vn}{f:U9}{fd:Vh}{N ps:List Str}{k:Nat}{sp:Sp}(F:cP K x qual st f fd)(S:aP N ps (ar st))(len:∀vs H Q E,sp vs H Q E->vs.length=ps.length)
 (hbody:∀(cdv:U8) (A:Vo) (outer:List Env) (s:Va) (H:Hp) (vs:List V) (Q:VK) (E:XK),aT k (A.deeper (VM qual (ar st) s.heap.objs.size f cdv))->sp vs H Q E->
  ∃t,bG (bh (aL P w) P w K mg base N qual (ar st) f cdv A outer s H E) (d4 st) t/\t {nx:=λ_ H'=>Q .non H',rt:=Q} (start N vs) H):ay P w K mg base (aL P w) (k+1) f fd ps sp:=by
 obtain⟨oc,od,kV,doc,pm,an,cdv,ct,osl,rfl,lk,hcd⟩:=F.ex;exact qA lk hcd S len λA outer s H vs Q E hr hsp=>hbody cdv A outer s H vs Q E hr hsp
end
section
variable {M:Model} {A:Vo} {E:U8->Va->Prop}
variable {nm q:Str} {C N:U9} {bs bm:List U8} {hdct:Bool} {sn:List Str} {sub:List U8} {ab:Bool} {col:Option Bool} {dd:Option U9} {k0 k1 k2 k3 k5:Option U8} {newId:String}
variable {nm' q':Str} {C' N':U9} {bs' bm':List U8} {hdct':Bool} {sn':List Str} {sub':List U8} {ab':Bool} {col':Option Bool} {dd':Option U9} {k0' k1' k2' k3' k5':Option U8} {newId':String}
theorem Hu{h:Vl}{g:Array Ww}{d:Drawn}{t:Nat}{os:OsState}{e:U9}{oe:Obj}{Q:Bool->Va->Prop}
 (hC:h.get? C=some (excClassObj nm q C N bs bm hdct sn sub ab col dd k0 k1 k2 k3 k5 newId))(hC':h.get? C'=some (excClassObj nm' q' C' N' bs' bm' hdct' sn' sub' ab' col' dd' k0' k1' k2' k3' k5' newId'))
 (he:h.get? e=some oe)(hcls:oe.cls= .ref C)(hbase:bm'.contains (.type "BaseException")=true)(hin:(Of C::bm).contains (.ref C')=true)
 (hq:Q true ⟨h,g,d,t,os⟩):Vf M A (excMatches (.ref e) (.ref C')) Q E ⟨h,g,d,t,os⟩:=by
 have hcB:(Of C'::bm').contains (.type "BaseException")=true:=by rw [TK,hbase,UJ]
 have f:=tc_notTuple;unfold excMatches
 repeat (first | (with_reducible refine wpAny_loadPart_at he ?_;rw [hcls]) | with_reducible refine wpAny_loadPart_at hC' ?_ | (with_reducible refine wpAny_isSubtype_exc hC' ?_;rw [hcB]) | (with_reducible refine wpAny_isSubtype_exc hC ?_;rw [hin]) | wp_step)
 exact hq
end
section
variable {X:Cx} {Wy:List (U9×Obj)} {σ:St} {H:Hp} {s:Va}
theorem Bc{M:Model}{A:Vo}{E:U8->Va->Prop}{i:Nat}{x:Str}{pos:Pos}{Q:Unit->Va->Prop}(I:af X Wy σ H s)(hN:X.N.Nodup)(hi:X.N[i]?=some x)(hx:X.env.scope.names.lookup x=some .local)
 (h:∀s',af X Wy (σ.set i none) H s'->Q () s'):Vf M A (do bindName X.env x .none;unbindBehindTheSuite X.env x pos) Q E s:=by
 have hcls:(X.env.scope.kind== .class || (X.env.scope.kind== .module && X.env.locals !=X.env.globals))=false:=by rw [I.ok.kind];rfl
 have hiσ:i < σ.length:=by rw [I.len];exact(N7.mp hi).1
 refine Vb (wpAny_bindName (j9 I hN hi (.inl hx) (v:= .non) rfl (λs1 I1=>?_) (.inr hx)));obtain⟨m,hn,hl⟩:=id I1.loc;obtain⟨u0,r0,lk⟩:=hl i x .non hi (by rw [Ov hiσ]) (.inl hx);have hv:∃v,m x=some v:=by
  rcases lk with⟨_,z⟩ | ⟨z,_⟩
  ·exact⟨_,z⟩
  ·rcases z with z | z
   ·exact absurd (z.symm.trans hx) U6
   ·exact absurd (z.symm.trans hx) U6
 obtain⟨v,hv⟩:=hv;unfold unbindBehindTheSuite;refine wpAny_onRaise (Vu (wpAny_unbindName_local (E:=λ_ _=>False) hx hn hv hcls λh' u hn' hs=>?_) (λ_ _ z=>z) λ_ _ z=>z.elim);obtain⟨oL,_,_,hoL,_⟩:=id hn;have cne:=I1.cne;have tracked:bM X.prog X.w H h':=λb ob e=>by
  refine(I1.hok b ob e).stay (λc w' hc q=>(hs.2 c ?_).trans q) (λ_ q=>q) (λ_ _ q=>q) λ_ _ q=>q;rintro rfl;rcases hc with z | hc
  ·rw [<-z,I1.free] at e;cases e
  ·rw [I1.free] at hc;cases hc
 refine h _ ⟨I1.ok,I1.os,I1.bare,⟨λb o e n hb hx'=>?_,λb o e n hb hx'=>?_,I1.base.free,λb o e hx'=>?_,I1.base.tups,I1.base.frzs,I1.base.tbls⟩,⟨_,hn',λj y v' e1 e2 e3=>?_⟩,λy c e=>?_,I1.free,I1.freeC,λp hp=>?_,tracked,by simpa using I.len⟩
 ·exact(hs.2 b (Oj (Ol (N5 e) I.ok.above))).trans (I1.base.keep b o e n hb hx')
 ·obtain⟨sl,e1⟩:=I1.base.slot b o e n hb hx';exact⟨sl,(hs.2 b (Oj (Ol (N5 e) I.ok.above))).trans e1⟩
 ·obtain⟨o',e1⟩:=I1.base.there b o e hx';exact⟨o',(hs.2 b (Oj (Ol (N5 e) I.ok.above))).trans e1⟩
 ·by_cases hj:j=i
  ·subst hj;rw [Ov hiσ] at e2;cases e2
  ·rw [Oc (Ne.symm hj)] at e2;obtain⟨u',r',q⟩:=hl j y v' e1 (by rw [Oc (Ne.symm hj)];exact e2) e3;refine⟨u',r',?_⟩;rcases q with⟨k,e⟩ | ⟨k,c,e,z⟩
   ·refine .inl ⟨k,?_⟩;have:y≠x:=λe=>hj (ug hN e1 (e▸hi));simp [this,e]
   ·exact .inr ⟨k,c,e,z.sameBut hs (cne y c e)⟩
 ·obtain⟨w',z⟩:=I1.cell y c e;exact⟨w',z.sameBut hs (cne y c e)⟩
 ·obtain⟨e,n,ne,nf,d⟩:=I1.pin p hp;exact⟨(hs.2 p.1 ne).trans e,n,ne,nf,d⟩
end
def cD(e:U9)(C:U8)(h:Vl):Prop:=∃o,h.get? e=some o/\o.cls=C
theorem bV.there{P:Vj}{w:Vm}{H:Hp}{h:Vl}{a:U9}{o:HO}(x:bV P w H h a o):∃ob,h.get? a=some ob:=by
 cases o with
 | lst xs=>obtain⟨_,_,_,_,e⟩:=x;exact⟨_,e⟩
 | tup xs=>obtain⟨_,_,_,ob,e,_⟩:=x;exact⟨_,e⟩
 | dK kvs=>obtain⟨_,_,_,_,o,_,_,e,_⟩:=x;exact⟨_,e⟩
 | dT kvs=>obtain⟨_,_,_,_,o,_,_,e,_⟩:=x;exact⟨_,e⟩
 | set S n=>obtain⟨o,_,_,_,e,_⟩:=x;exact⟨_,e⟩
 | ins C dx fs=>obtain⟨_,_,_,e,_⟩:=x;exact⟨_,e⟩
 | own y=>exact x
 | xd fs=>obtain⟨_,⟨_,_,_,e,_⟩,_⟩:=x;exact⟨_,e⟩
 | rng lo hi=>obtain⟨_,_,_,e⟩:=x;exact⟨_,e⟩
 | frz ob u=>obtain⟨e,_⟩:=x;exact⟨_,e⟩
 | tbl ps=>obtain⟨_,_,_,_,e,_⟩:=x;exact⟨_,e⟩
 | cod q=>obtain⟨_,_,_,e,_⟩:=x;exact⟨_,e⟩
 | met f y=>exact⟨_,(show h.get? a=some _ from x)⟩
 | ext φ=>exact x.2.1
theorem Bd{X:Cx}{outer:List Env}{H H':Hp}{h h1 h2 B:Vl}{e:U9}{cls a0:U8}(un:Un (aY outer) [] H H' h h1)(fl:TJ B outer e cls a0 h1)(st:B.StaysIn h2)(sm:h1.UpToSlots h2)
 (kb:∀b o,h.get? b=some o->H b=none->b ∉ aY outer->B.get? b=some o)(th:∀b o,h.get? b=some o->b ∉ aY outer->∃o',B.get? b=some o'):Un (aY outer) [] H H' h h2:=by
 have up:∀b∈aY outer,∀o,h1.get? b=some o->∃sl,h2.get? b=some {o with slots:=sl}:=λb hb o eo=>by
  obtain⟨_,o',ho',hd⟩:=fl.2.2.1.mem hb;rw [eo] at ho';cases ho';exact sm b o eo hd
 refine⟨λb o eb n hb _=>st b o (kb b o eb n hb),λb o eb n hb hx=>?_,un.free,λb o eb hx=>?_,un.tups,un.frzs,un.tbls⟩
 ·obtain⟨sl,es⟩:=un.slot b o eb n hb hx;obtain⟨sl',es'⟩:=up b hb _ es;exact⟨sl',es'⟩
 ·by_cases hb:b∈aY outer
  ·obtain⟨o',eo'⟩:=un.there b o eb hx;obtain⟨sl',es'⟩:=up b hb _ eo';exact⟨_,es'⟩
  ·obtain⟨o',eo'⟩:=th b o eb hb;exact⟨o',st b o' eo'⟩
abbrev Cx.inEx(X:Cx)(e:U9):Cx:={X with A:=X.A.mark (some (.ref e)),calm:=false,xe:=λ_ _=>False}
theorem Cx.Ok.inEx{X:Cx}(ok:X.Ok)(e:U9):(X.inEx e).Ok:=
 ⟨ok.mod,ok.kind,ok.glob,ok.blt,ok.above,ok.inj,ok.has,ok.cab,λz=>absurd z U6,ok.frames,ok.stk,ok.exf,ok.bs,ok.bsz,ok.noex,ok.exfs,ok.funs,ok.frf⟩
theorem Cx.Ok.outEx{X:Cx}{e:U9}(ok:(X.inEx e).Ok)(hd:X.calm=true->X.A.handled=none):X.Ok:=
 ⟨ok.mod,ok.kind,ok.glob,ok.blt,ok.above,ok.inj,ok.has,ok.cab,hd,ok.frames,ok.stk,ok.exf,ok.bs,ok.bsz,ok.noex,ok.exfs,ok.funs,ok.frf⟩
section
variable {X:Cx} {Wy:List (U9×Obj)} {σ:St} {H:Hp} {s:Va}
theorem af.inEx(I:af X Wy σ H s)(e:U9):af (X.inEx e) Wy σ H s:=⟨I.ok.inEx e,I.os,I.bare,I.base,I.loc,I.cell,I.free,I.freeC,I.pin,I.hok,I.len⟩
theorem af.outEx{e:U9}(I:af (X.inEx e) Wy σ H s)(hd:X.calm=true->X.A.handled=none):af X Wy σ H s:=⟨I.ok.outEx hd,I.os,I.bare,I.base,I.loc,I.cell,I.free,I.freeC,I.pin,I.hok,I.len⟩
end
theorem Hv{K:NM}{h:Vl}{C C':U9}{nm qn:Str}{N:U9}{bs bm:List U8}{hdct:Bool}{sn:List Str}{sub:List U8}{ab:Bool}{col:Option Bool}{dd:Option U9}{k0 k1 k2 k3 k5:Option U8}{newId:String}(X:K.In h)(e:Qw K C (.ref C')=some true)
 (hC:h.get? C=some (excClassObj nm qn C N bs bm hdct sn sub ab col dd k0 k1 k2 k3 k5 newId)):(Of C::bm).contains (.ref C')=true:=by
 obtain⟨cd,a,b⟩:=Option.bind_eq_some_iff.mp e;unfold PySem.W.clsIn at a;split at a
 ·rename_i ho;cases a;have z:=(X _ _ ho).symm.trans hC;have z1:cd.mro=Of C::bm:=by unfold excClassObj at z;cases z;rfl
  split at b
  ·cases b
  ·rw [z1] at b;exact OG b
 ·cases a
section
variable {X:Cx}
theorem Be{bs:List Bool}{its:List U8}(r:aE (bs.map V.bl) its):its=bs.map Qb:=by
 induction bs generalizing its with
 | nil=>cases r;rfl
 | cons b bs ih=>
  rw [NS] at r;cases r with
  | cons r1 r2=>
   rw [NS,<-ih r2];exact congrArg (·::_) r1
theorem Hw(bs:List Bool)(f:Nat->Bool)(h:∀i,i < bs.length->f i=bs.getD i true):(OU bs.length).all f=bs.all id:=by
 rw [Qr,PR,PR];constructor
 ·intro z b hb;obtain⟨i,hi,e⟩:=RR hb;have:=z i (QC.mpr hi);rw [h i hi,P6,Oz hi] at this;rw [<-e];exact this
 ·intro z i hi;have hi:=QC.mp hi;rw [h i hi,P6,Oz hi];exact z _ (Py hi)
theorem Hx(bs:List Bool)(f:Nat->Bool)(h:∀i,i < bs.length->f i=bs.getD i true):(OU bs.length).any f=bs.any id:=by
 rw [Qr,Ql,Ql];constructor
 ·rintro⟨i,hi,z⟩;have hi:=QC.mp hi;rw [h i hi,P6,Oz hi] at z;exact⟨_,Py hi,z⟩
 ·rintro⟨b,hb,z⟩;obtain⟨i,hi,e⟩:=RR hb;refine⟨i,QC.mpr hi,?_⟩;rw [h i hi,P6,Oz hi];show bs[i]=true;rw [e];exact z
theorem Bf{bs:List Bool}{i:Nat}{v:U8}(h:(bs.map Qb).toArray[i]?=some v):v= .bool (bs.getD i true):=by
 have h':(bs.map Qb)[i]?=some v:=by simpa using h
 rw [Ob] at h';cases e:bs[i]? with
 | none=>rw [e] at h';cases h'
 | some b=>
  rw [e] at h';rw [P6,e];exact(OG h').symm
theorem Bg{prog:Vj}{w:Vm}{A:Vo}{E:U8->Va->Prop}{s:Va}{l:U9}{items:Array U8}{Q:U8->Va->Prop}(hl:s.heap.IsList l items)
 (h:∀s₂:Va,s₂={s with heap:=s.heap.push {cls:= .type "list_iterator",data:= .fields #[.ref l,.int 0 0]}}->
  (s₂.heap.IsListIter s.heap.objs.size l 0/\s₂.heap.IsList l items)->l≠s.heap.objs.size->Q (.ref s.heap.objs.size) s₂):Vf (Vg prog w) A (pyIter (.ref l)) Q E s:=by
 have hlt:l < s.heap.objs.size:=by obtain⟨_,e,_⟩:=hl;exact N5 e
 exact Wr hl (h _ rfl ⟨⟨_,Ou _ rfl,rfl,rfl⟩,hl.push _⟩ (Oj hlt))
theorem Hy(hc:X.calm=true):cH X (.builtin "all") (λxs H Q=>∃(a:U9)(bs:List Bool),xs=[.ref a]/\aV X.K H a (bs.map V.bl)/\Q (.bl (bs.all id)) H):=by
 intro Wy s σ H xs us Q I r h;obtain⟨a,bs,rfl,hl,q⟩:=h;obtain⟨u,rfl,rx⟩:=c9 r;cases rx;obtain⟨its,rv,p,hz⟩:=I.list hl;have hi:=Be rv;subst hi;refine call_all_walk (Bg p.isList λs₂ e st hlI=>?_);subst e;refine⟨_,_,_,_,_,_,λi=>bs.getD i true,rfl,Um (A:=X.A.in1) (I.ok.hd hc) _ a hlI _,st,λi v s' Q' E' hP hq=>by rw [Bf hP];exact VA hq,λh' tk hk=>?_⟩;have e:=Hw bs (λi=>bs.getD i true) λ_ _=>rfl;have e2:(Od Qb bs).toArray.size=bs.length:=U6
 rw [e2,e];exact⟨.bl (bs.all id),H,I.kept (old_kept hk),rfl,q⟩
theorem Bh(hc:X.calm=true):cH X (.builtin "any") (λxs H Q=>∃(a:U9)(bs:List Bool),xs=[.ref a]/\aV X.K H a (bs.map V.bl)/\Q (.bl (bs.any id)) H):=by
 intro Wy s σ H xs us Q I r h;obtain⟨a,bs,rfl,hl,q⟩:=h;obtain⟨u,rfl,rx⟩:=c9 r;cases rx;obtain⟨its,rv,p,hz⟩:=I.list hl;have hi:=Be rv;subst hi;refine call_any_walk (Bg p.isList λs₂ e st hlI=>?_);subst e;refine⟨_,_,_,_,_,_,λi=>bs.getD i true,rfl,Um (A:=X.A.in1) (I.ok.hd hc) _ a hlI _,st,λi v s' Q' E' hP hq=>by rw [Bf hP];exact VA hq,λh' tk hk=>?_⟩;have e:=Hx bs (λi=>bs.getD i true) λ_ _=>rfl;have e2:(Od Qb bs).toArray.size=bs.length:=U6
 rw [e2,e];exact⟨.bl (bs.any id),H,I.kept (old_kept hk),rfl,q⟩
end
open PySem PySem.Spec PyProof.Rows PySem.W PySem.Calls PySem.Builtin.ObjectAttr PySem.Builtin PySem.Builtin.Getset_descriptor
section
variable {prog:Vj} {w:Vm} {A:Vo} {E:U8->Va->Prop} {s:Va} {K:NM} {x C:U9}
theorem cD.type{M:Model}{h:Vl}(p:cD x (.ref C) h):Looks M h (typeOf (.ref x)) (.ref C):=by
 obtain⟨o,h1,h2⟩:=p;exact h2▸(Looks.ld h1).andThen .now
theorem Hz{tp:U8}{R:Result->Va->Prop}(X:K.In s.heap)(p:cD x (.ref C) s.heap)(hm:mroIn K C (.type "object")=some true)(hq:R (.ok (.ret (.ref C))) s):
 VT (Vg prog w) A (.call (.builtin "getset_descriptor.__get__") ⟨[.builtin "object.__class__",.ref x,tp],[]⟩) R s:=by
 obtain⟨hh,gg,dr,tt,os⟩:=s;have LT:=cD.type (M:=Vg prog w) p;have LM:=looks_mroIn (M:=Vg prog w) X hm;refine codeAny_call_builtin KF.slot_gs.plain KF.entry_gs (KF.slot_gs.check _ _ _ _ _ _ _ _ KF.type_class (KF.args_gs _ _ _) ?_);unfold Builtin.«getset_descriptor.__get__» descrGet;rw [dga_obj];refine Vb (Vi ?_);unfold descrGetter descrCheckInstance descrNameAndClass isInstance;simp only [KF.owner_class]
 repeat lk
 refine⟨Code.quiet_builtin _ U0,codeAny_builtin KF.entry_class ?_⟩;unfold Builtin.«object.__class__» shownTypeOf;(repeat lk);exact hq
structure gB (K:NM) (C:U9):Prop where
 ga:findIn K (.ref C) "__getattribute__"=some (some (.builtin "BaseException.__getattribute__"))
 hk:findIn K (.ref C) "__getattr__"=some none
 cl:findIn K (.ref C) "__class__"=some (some (.builtin "object.__class__"))
 gt:specialIn K (.builtin "object.__class__") "__get__"=some (some (.builtin "getset_descriptor.__get__"))
 tk:takesIn K (.builtin "object.__class__")=some true
 ob:mroIn K C (.type "object")=some true
 be:mroIn K C (.type "BaseException")=some true
 cd:(clsIn K C).isSome=true
theorem HA{nameV:U8}{Q:Unit->Va->Prop}(Z:gB K C)(X:K.In s.heap)(p:cD x (.ref C) s.heap)(hq:Q () s):
 Vf (Vg prog w) A (checkBuiltinCall "BaseException.__getattribute__" ⟨[.ref x,nameV],[]⟩) Q E s:=by
 have hk:builtinKind "BaseException.__getattribute__"=some .slot:=U0
 have hsp:splitId "BaseException.__getattribute__"=some ("BaseException","__getattribute__"):=U0
 have ha:=F.args_bexc_ga (.ref x) nameV;have LI:Looks (Vg prog w) s.heap (isInstance (.ref x) (.type "BaseException")) true:=(cD.type p).andThen (looks_mroIn X Z.be);simp only [checkBuiltinCall,hk,hsp];refine Vb (LI.at ?_)
 repeat (first | wp_step)
 exact hq
theorem HB{tk:Tok}{Q:Fin->Va->Prop}(Z:gB K C)(X:K.In s.heap)(p:cD x (.ref C) s.heap)(hq:Q (.done (.ret (.ref C))) s):
 Vf (Vg prog w) A (Builtin.«object.__getattribute__» ⟨[.ref x,.str "__class__" tk],[]⟩) Q E s:=by
 obtain⟨hh,gg,dr,tt,os⟩:=s;have L0:=cD.type (M:=Vg prog w) p;have L1:=looks_findIn (M:=Vg prog w) X Z.cl;have L2:=looks_specialIn (M:=Vg prog w) X Z.gt;have L3:=looks_takesIn (M:=Vg prog w) X Z.tk;have LF:Looks (Vg prog w) hh (PySem.Builtin.ObjectAttr.find (.ref x) (.ref C) "__class__") (.bind (.builtin "getset_descriptor.__get__") (.builtin "object.__class__")):=
  L1.andThen (L2.andThen ((show Looks (Vg prog w) hh (dataDescriptor? (some (.builtin "object.__class__")) (some (.builtin "getset_descriptor.__get__"))) (some (.builtin "getset_descriptor.__get__",.builtin "object.__class__")) from L3.andThen .now).andThen (Looks.tag .now)))
 unfold Builtin.«object.__getattribute__»
 repeat (first | with_reducible refine Vb (L0.at ?_) | with_reducible refine Vb (LF.at ?_) | wp_step)
 refine Hz X p Z.ob ?_
 repeat (first | wp_step)
 exact hq
theorem HC{tk:Tok}{R:Result->Va->Prop}(Z:gB K C)(X:K.In s.heap)(p:cD x (.ref C) s.heap)(hq:R (.ok (.ret (.ref C))) s):
 VT (Vg prog w) A (.call (.builtin "BaseException.__getattribute__") ⟨[.ref x,.str "__class__" tk],[]⟩) R s:=
 codeAny_call_builtin F.excAttr_ValueError.ga.plain F.entry_bexc_ga (HA Z X p (HB Z X p hq))
theorem HD{tk:Tok}{Q:U8->Va->Prop}(Z:gB K C)(X:K.In s.heap)(p:cD x (.ref C) s.heap)(hq:Q (.ref C) s):
 Vf (Vg prog w) A (getAttrBy (.ref x) (.str "__class__" tk) false) Q E s:=by
 obtain⟨hh,gg,dr,tt,os⟩:=s;have L0:=cD.type (M:=Vg prog w) p;have L1:=looks_findIn (M:=Vg prog w) X Z.ga;have L2:=looks_findIn (M:=Vg prog w) X Z.hk;have f3:=F.excAttr_ValueError.ga.bind (.ref x);have hx0:(false && onTheHeap (QZ "BaseException.__getattribute__"))=false:=rfl;have hx2:(QZ "BaseException.__getattribute__"==QZ "object.__getattribute__")=false:=U0
 have hx1:(onTheHeap (Of C) && QZ "BaseException.__getattribute__"==QZ "object.__getattribute__")=false:=by rw [hx2];rfl
 repeat (first | with_reducible refine Vb (L0.at ?_) | with_reducible refine Vb (L1.at ?_) | with_reducible refine L2.at ?_ | wp_step)
 refine HC (s:=⟨hh,gg,dr,tt,os⟩) Z X p ?_
 repeat (first | wp_step)
 exact hq
theorem HE{Q:Option U8->Va->Prop}(Z:gB K C)(X:K.In s.heap)(p:cD x (.ref C) s.heap)(hq:Q (some (.ref C)) {s with toks:=s.toks+1}):
 Vf (Vg prog w) A (getAttr? (.ref x) "__class__") Q E s:=by
 obtain⟨hh,gg,dr,tt,os⟩:=s;unfold getAttr? getAttrBy?
 repeat (any_goals (first | assumption | with_reducible apply HD (s:=⟨hh,gg,dr,tt+1,os⟩) Z X p | wp_step))
theorem Bi(Z:gB K C):KitX K (.ref x) (.ref C) (cD x (.ref C)) where
 ty:=λM h _ p=>cD.type p
 it:=λM h X _=>by
  obtain⟨cdD,hcD⟩:=Qe.mp Z.cd;unfold clsIn at hcD;split at hcD
  ·rename_i ho;intro A' Q' E' s' k q;unfold isType loadHead;exact Vb (wpAny_loadPart (k _ _ (X _ _ ho)) (Vi q))
  ·cases hcD
 ne:=λh tp dd its n sl X htp=>by
  obtain⟨cdD,hcD⟩:=Qe.mp Z.cd;refine Bool.eq_false_iff.mpr λq=>?_;have e:=Of.inj (beq_iff_eq.mp q);subst e;unfold clsIn at hcD;split at hcD
  ·rename_i ho;have z:=(X _ _ ho).symm.trans htp;cases z
  ·cases hcD
 ca:=λX p k=>HE Z X p k
end
section
variable {X:Cx}
theorem HF:cH X (.builtin "isinstance") (λxs H Q=>∃(e C:U9)(c:V)(cv:U8)(b:Bool),xs=[.ref e,c]/\H e=some (.ext (cD e (.ref C)))/\gB X.K C/\(∀u,aF c u->u=cv)/\Rq X.K (.ref C) cv=some b/\Q (.bl b) H):=by
 intro Wy s σ H xs us Q I r h;obtain⟨e,C,c,cv,b,rfl,he,Z,hc,hk,q⟩:=h;obtain⟨u,w',rfl,rx,rt⟩:=kl r;cases (show u=Of e from rx);have:=hc _ rt;subst this;have p:cD e (.ref C) s.heap:=(show bV X.prog X.w H s.heap e (.ext (cD e (.ref C))) from I.hok e _ he).1;exact PySem.W.kia_one (Bi Z) I.kIn p hk (λz=>nomatch z) λtk=>⟨.bl b,H,I.tok tk,rfl,q⟩
end
section
variable {X:Cx}
abbrev dB(d:U7):Prop:=OP d=true
theorem HG{cs:List U9}{its:List U8}(r:aE (cs.map V.ref) its):its=cs.map Of:=by
 induction cs generalizing its with
 | nil=>cases r;rfl
 | cons b bs ih=>
  rw [NS] at r;cases r with
  | cons r1 r2=>
   rw [NS,<-ih r2];exact congrArg (·::_) r1
theorem HH:cH X (.builtin "isinstance") (λxs H Q=>∃(e C q:U9)(cs:List U9)(b:Bool),xs=[.ref e,.ref q]/\H e=some (.ext (cD e (.ref C)))/\H q=some (.tup (cs.map V.ref))/\gB X.K C/\RU X.K (.ref C) (cs.map Of)=some b/\Q (.bl b) H):=by
 intro Wy s σ H xs us Q I r h;obtain⟨e,C,q,cs,b,rfl,he,hq,Z,hk,k⟩:=h;obtain⟨u,w',rfl,rx,rt⟩:=kl r;cases (show u=Of e from rx);cases (show w'=Of q from rt);have p:cD e (.ref C) s.heap:=(show bV X.prog X.w H s.heap e (.ext (cD e (.ref C))) from I.hok e _ he).1;obtain⟨its,rv,⟨⟨oc,od,odt,osl⟩,eo,c,n,dd⟩,_⟩:=I.tuple (bx.of hq);have:=HG rv;subst this;simp only at c dd;subst c dd;exact PySem.W.kia_tup (Bi Z) I.kIn p eo hk (λz=>nomatch z) λtk=>⟨.bl b,H,I.tok tk,rfl,k⟩
end
theorem HI:Vq "all"=some (.builtin "all"):=U0
theorem Bj:Vq "any"=some (.builtin "any"):=U0
theorem HJ:Vq "ValueError"=some (.type "ValueError"):=U0
def HK(p:U9)(h:Vl):Prop:=∃(n:Int)(t:Tok)(k:Nat),h.get? p=some {cls:= .type "list",data:= .seq #[.int n t] k}
abbrev HL(p:U9):HO:= .ext (HK p)
abbrev HM:U7:= .dict [(.none,.none)]
def HN(p:U9)(h:Vl):Prop:=∃(a b c:Int)(t u v:Tok)(k:Nat),h.get? p=some {cls:= .type "list",data:= .seq #[.int a t,.int b u,.int c v] k}
abbrev gC(p:U9):HO:= .ext (HN p)
abbrev fB:U7:= .dict [(.none,.bool true)]
abbrev eS(ds:List U7):U7:= .dict [(.none,.list ds)]
abbrev jH(C:U9)(kp ds:List U7):U7:= .dict [(.none,.tuple [.int (C:Int),.list kp,.list ds])]
abbrev Bk(kp ds:List U7):U7:= .dict [(.bool true,.tuple [.list kp,.list ds])]
abbrev Ex:=U9->Prop
abbrev qH:Hp:=λ_=>none
mutual
inductive Dt (K:NM) (H:Hp) (O:Ex):V->U7->Prop
 | non:Dt K H O .non .none
 | bl (b:Bool):Dt K H O (.bl b) (.bool b)
 | int (i:Int):Dt K H O (.int i) (.int i)
 | str (x:Str):Dt K H O (.str x) (.str x)
 | tup {a:U9} {xs:List V} {ds:List U7}:Rd H a (.tup xs)->¬O a->ak K H O xs ds->Dt K H O (.ref a) (.tuple ds)
 | tupK {a:U9} {xs:List V} {ds:List U7}:bx K qH a xs->ak K H O xs ds->Dt K H O (.ref a) (.tuple ds)
 | lst {a:U9} {xs:List V} {ds:List U7}:Rd H a (.lst xs)->¬O a->ak K H O xs ds->Dt K H O (.ref a) (.list ds)
 | pack {p:U9}:H p=some (HL p)->¬O p->Dt K H O (.ref p) HM
 | purse {p:U9}:H p=some (gC p)->¬O p->Dt K H O (.ref p) fB
 | dct0 {a:U9}:H a=some (.dK [])->¬O a->Dt K H O (.ref a) (.dict [])
 | obj {a C dx:U9} {fs:List (Str×V)} {kp ds:List U7}:H a=some (.ins C dx fs)->kp=fs.map (λp=>NP p.1)->¬O a->ak K H O (fs.map (·.2)) ds->Dt K H O (.ref a) (jH C kp ds)
 | dic {a:U9} {ob:Obj} {kv:List (ai×V)} {ks:List Str} {kp ds:List U7}:H a=some (.frz ob (.dK kv))->kv.map (·.1)=ks.map OW->kp=ks.map NP->¬O a->ak K H O (kv.map (·.2)) ds->Dt K H O (.ref a) (Bk kp ds)
 | scr {a:U9} {xs:List V} {ds:List U7}:(Rd H a (.lst xs)/\¬O a)\/aV K qH a xs->ak K H O xs ds->Dt K H O (.ref a) (eS ds)
inductive ak (K:NM) (H:Hp) (O:Ex):List V->List U7->Prop
 | nil:ak K H O [] []
 | cons {v:V} {d:U7} {vs:List V} {ds:List U7}:Dt K H O v d->ak K H O vs ds->ak K H O (v::vs) (d::ds)
end
theorem Rd.same{H H':Hp}{a:U9}{u:HO}(s:∀o,H a=some o->H' a=some o)(h:Rd H a u):Rd H' a u:=by
 rcases h with h | ⟨o,h⟩
 ·exact .inl (s _ h)
 ·exact .inr ⟨o,s _ h⟩
theorem Rd.trk{H:Hp}{a:U9}{u:HO}(h:Rd H a u):H a≠none:=by
 rcases h with h | ⟨o,h⟩ <;> rw [h] <;> exact λz=>nomatch z
section
variable {K:NM}
structure aX (H H':Hp) (O O':Ex):Prop where
 keep:∀b o,H b=some o->¬O b->H' b=some o
 out:∀b,H b≠none->¬O b->¬O' b
mutual
theorem Dt.step{H H':Hp}{O O':Ex}(S:aX H H' O O'):∀{v:V}{d:U7},Dt K H O v d->Dt K H' O' v d
 | _,_,.non=>.non
 | _,_,.bl b=>.bl b
 | _,_,.int i=>.int i
 | _,_,.str x=>.str x
 | _,_,.tup h n r=>.tup (h.same λo e=>S.keep _ o e n) (S.out _ h.trk n) (ak.step S r)
 | _,_,.tupK h r=>.tupK h (ak.step S r)
 | _,_,.lst h n r=>.lst (h.same λo e=>S.keep _ o e n) (S.out _ h.trk n) (ak.step S r)
 | _,_,.pack h n=>.pack (S.keep _ _ h n) (S.out _ (by rw [h];exact λz=>nomatch z) n)
 | _,_,.purse h n=>.purse (S.keep _ _ h n) (S.out _ (by rw [h];exact λz=>nomatch z) n)
 | _,_,.dct0 h n=>.dct0 (S.keep _ _ h n) (S.out _ (by rw [h];exact λz=>nomatch z) n)
 | _,_,.obj h e n r=>.obj (S.keep _ _ h n) e (S.out _ (by rw [h];exact λz=>nomatch z) n) (ak.step S r)
 | _,_,.dic h e1 e2 n r=>.dic (S.keep _ _ h n) e1 e2 (S.out _ (by rw [h];exact λz=>nomatch z) n) (ak.step S r)
 | _,_,.scr h r=>.scr (h.imp (λh=>⟨h.1.same λo e=>S.keep _ o e h.2,S.out _ h.1.trk h.2⟩) id) (ak.step S r)
theorem ak.step{H H':Hp}{O O':Ex}(S:aX H H' O O'):∀{vs:List V}{ds:List U7},ak K H O vs ds->ak K H' O' vs ds
 | _,_,.nil=>.nil
 | _,_,.cons h r=>.cons (Dt.step S h) (ak.step S r)
end
theorem aX.same{H H':Hp}{O:Ex}(s:aj H H'):aX H H' O O:=⟨λb o e _=>s b o e,λ_ _ n=>n⟩
theorem Dt.mono{H H':Hp}{O:Ex}{v:V}{d:U7}(s:aj H H')(h:Dt K H O v d):Dt K H' O v d:=h.step (.same s)
theorem ak.mono{H H':Hp}{O:Ex}{v:List V}{d:List U7}(s:aj H H')(h:ak K H O v d):ak K H' O v d:=h.step (.same s)
theorem ak.length{H:Hp}{O:Ex}:∀{vs:List V}{ds:List U7},ak K H O vs ds->vs.length=ds.length
 | _,_,.nil=>rfl
 | _,_,.cons _ r=>by rw [Og,Og,ak.length r]
theorem ak.get{H:Hp}{O:Ex}:∀{vs:List V}{ds:List U7}{i:Nat}{v:V},ak K H O vs ds->vs[i]?=some v->∃d,ds[i]?=some d/\Dt K H O v d
 | _,_,_,_,.nil,e=>by simp at e
 | _,_,0,_,.cons h _,e=>by simp at e;subst e;exact⟨_,rfl,h⟩
 | _,_,i+1,_,.cons _ r,e=>by simpa using ak.get (i:=i) r (by simpa using e)
theorem ak.getD{H:Hp}{O:Ex}:∀{vs:List V}{ds:List U7}{i:Nat}{d:U7},ak K H O vs ds->ds[i]?=some d->∃v,vs[i]?=some v/\Dt K H O v d
 | _,_,_,_,.nil,e=>by simp at e
 | _,_,0,_,.cons h _,e=>by simp at e;subst e;exact⟨_,rfl,h⟩
 | _,_,i+1,_,.cons _ r,e=>by simpa using ak.getD (i:=i) r (by simpa using e)
theorem ak.append{H:Hp}{O:Ex}:∀{vs ws:List V}{ds es:List U7},ak K H O vs ds->ak K H O ws es->ak K H O (vs++ws) (ds++es)
 | _,_,_,_,.nil,s=>s
 | _,_,_,_,.cons h r,s=>.cons h (ak.append r s)
theorem ak.take{H:Hp}{O:Ex}:∀{vs:List V}{ds:List U7}(n:Nat),ak K H O vs ds->ak K H O (vs.take n) (ds.take n)
 | _,_,0,_=>.nil
 | _,_,_+1,.nil=>.nil
 | _,_,n+1,.cons h r=>.cons h (ak.take n r)
theorem ak.drop{H:Hp}{O:Ex}:∀{vs:List V}{ds:List U7}(n:Nat),ak K H O vs ds->ak K H O (vs.drop n) (ds.drop n)
 | _,_,0,r=>r
 | _,_,_+1,.nil=>.nil
 | _,_,n+1,.cons _ r=>ak.drop n r
theorem ak.reverse{H:Hp}{O:Ex}:∀{vs:List V}{ds:List U7},ak K H O vs ds->ak K H O vs.reverse ds.reverse
 | _,_,.nil=>.nil
 | _,_,.cons h r=>by rw [Rx,Rx];exact(ak.reverse r).append (.cons h .nil)
theorem ak.ints{H:Hp}{O:Ex}:∀(ns:List Int),ak K H O (ns.map V.int) (ns.map NQ)
 | []=>.nil
 | n::r=>.cons (.int n) (ak.ints r)
inductive Sh (K:NM) (H:Hp) (O:Ex):V->U7->Prop
 | dt {v:V} {d:U7}:Dt K H O v d->Sh K H O v d
 | own {l:U9} {vs:List V} {ds:List U7}:H l=some (.lst vs)->ak K H O vs ds->Sh K H O (.ref l) (.list ds)
theorem Sh.mono{H H':Hp}{O:Ex}{v:V}{d:U7}(s:aj H H'):Sh K H O v d->Sh K H' O v d
 | .dt h=>.dt (h.mono s)
 | .own h r=>.own (s _ _ h) (r.mono s)
theorem Dt.all{H:Hp}{O:Ex}{v:V}{d:U7}(h:Dt K H O v d):Dt K H (λ_=>False) v d:=h.step ⟨λ_ _ e _=>e,λ_ _ _ z=>z⟩
theorem ak.all{H:Hp}{O:Ex}{v:List V}{d:List U7}(h:ak K H O v d):ak K H (λ_=>False) v d:=h.step ⟨λ_ _ e _=>e,λ_ _ _ z=>z⟩
theorem Sh.all{H:Hp}{O:Ex}{v:V}{d:U7}:Sh K H O v d->Dt K H (λ_=>False) v d
 | .dt h=>h.all
 | .own h r=>.lst (.inl h) (λz=>z) r.all
theorem bx.of0{H:Hp}{a:U9}{xs:List V}(h:bx K qH a xs):bx K H a xs:=by
 rcases h with(h | ⟨o,h⟩) | h
 ·cases h
 ·cases h
 ·exact .inr h
theorem aV.of0{H:Hp}{a:U9}{xs:List V}(h:aV K qH a xs):aV K H a xs:=by
 rcases h with(h | ⟨o,h⟩) | h
 ·cases h
 ·cases h
 ·exact .inr h
theorem Sh.tup{H:Hp}{O:Ex}{v:V}{ds:List U7}(h:Sh K H O v (.tuple ds)):∃a xs,v= .ref a/\bx K H a xs/\ak K H O xs ds:=by
 cases h with
 | dt h=>
  cases h with
  | tup h _ r=>exact⟨_,_,rfl,.inl h,r⟩
  | tupK h r=>exact⟨_,_,rfl,h.of0,r⟩
theorem Sh.lstR{H:Hp}{O:Ex}{v:V}{ds:List U7}(h:Sh K H O v (.list ds)):∃a xs,v= .ref a/\Rd H a (.lst xs)/\ak K H O xs ds:=by
 cases h with
 | dt h=>
  cases h with
  | lst h _ r=>exact⟨_,_,rfl,h,r⟩
 | own h r=>exact⟨_,_,rfl,.inl h,r⟩
theorem Sh.lst{H:Hp}{O:Ex}{v:V}{ds:List U7}(h:Sh K H O v (.list ds)):∃a xs,v= .ref a/\aV K H a xs/\ak K H O xs ds:=by
 obtain⟨a,xs,e,h,r⟩:=h.lstR;exact⟨a,xs,e,.inl h,r⟩
theorem Sh.scr{H:Hp}{O:Ex}{v:V}{ds:List U7}(h:Sh K H O v (eS ds)):∃a xs,v= .ref a/\aV K H a xs/\ak K H O xs ds:=by
 cases h with
 | dt h=>
  cases h with
  | scr h r=>
   rcases h with h | h
   ·exact⟨_,_,rfl,.inl h.1,r⟩
   ·exact⟨_,_,rfl,h.of0,r⟩
theorem Sh.int{H:Hp}{O:Ex}{v:V}{i:Int}(h:Sh K H O v (.int i)):v= .int i:=by cases h with | dt h=>cases h;rfl
theorem Sh.bl{H:Hp}{O:Ex}{v:V}{i:Bool}(h:Sh K H O v (.bool i)):v= .bl i:=by cases h with | dt h=>cases h;rfl
theorem Sh.str{H:Hp}{O:Ex}{v:V}{i:Str}(h:Sh K H O v (.str i)):v= .str i:=by cases h with | dt h=>cases h;rfl
theorem Sh.non{H:Hp}{O:Ex}{v:V}(h:Sh K H O v .none):v= .non:=by cases h with | dt h=>cases h;rfl
def jI:U7->Bool
 | .none | .bool _ | .int _ | .str _=>true
 | _=>false
end
section
variable {X:Cx} {Wy:List (U9×Obj)} {σ:St} {H:Hp} {s:Va}
mutual
theorem gE(I:af X Wy σ H s){O:Ex}:∀{v:V}{d:U7}{u:U8},Dt X.K H O v d->d.canLay0=true->aF v u->∃as,Reads s.heap u d as
 | _,_,_,.non,_,r=>by cases r;exact⟨_,Reads.none⟩
 | _,_,_,.bl b,_,r=>by cases r;exact⟨_,Reads.bool b⟩
 | _,_,_,.int i,_,r=>by obtain⟨t,rfl⟩:=r;exact⟨_,Reads.int i t⟩
 | _,_,_,.str x,_,r=>by obtain⟨t,rfl⟩:=r;exact⟨_,Reads.str x t⟩
 | _,_,_,.tup h _ hs,c,r=>by
  cases r;obtain⟨its,rv,⟨o,e,c',n,dd⟩,_⟩:=I.tuple (.inl h);obtain⟨as,q⟩:=qI I hs (by simpa [Ox] using c) rv;exact⟨as,reads_tuple_at e c' dd (by simpa using q)⟩
 | _,_,_,.tupK h hs,c,r=>by
  cases r;obtain⟨its,rv,⟨o,e,c',n,dd⟩,_⟩:=I.tuple h.of0;obtain⟨as,q⟩:=qI I hs (by simpa [Ox] using c) rv;exact⟨as,reads_tuple_at e c' dd (by simpa using q)⟩
 | _,_,_,.lst h _ hs,c,r=>by
  cases r;obtain⟨its,rv,⟨o,n,e,c',_,dd⟩,_⟩:=I.list (.inl h);obtain⟨as,q⟩:=qI I hs (by simpa [Ox] using c) rv;exact⟨_,reads_list_at e c' dd (by simpa using q)⟩
 | _,_,_,.pack _ _,c,_=>by simp [Ox] at c
 | _,_,_,.purse _ _,c,_=>by simp [Ox] at c
 | _,_,_,.dct0 _ _,c,_=>by simp [Ox] at c
 | _,_,_,.obj _ _ _ _,c,_=>by simp [Ox] at c
 | _,_,_,.dic _ _ _ _ _,c,_=>by simp [Ox] at c
 | _,_,_,.scr _ _,c,_=>by simp [Ox] at c
theorem qI(I:af X Wy σ H s){O:Ex}:∀{vs:List V}{ds:List U7}{us:List U8},ak X.K H O vs ds->Pk ds=true->aE vs us->∃as,ReadsAll s.heap us ds as
 | _,_,_,.nil,_,r=>by cases r;exact⟨_,ReadsAll.nil⟩
 | _,_,_,.cons h hs,c,r=>by
  rw [Pk,OV] at c;cases r with
  | cons r1 r2=>
   obtain⟨as,q⟩:=gE I h c.1 r1;obtain⟨bs,p⟩:=qI I hs c.2 r2;exact⟨_,ReadsAll.cons q p⟩
end
end
inductive Sl where
 | v (d:U7)
 | o (ds:List U7)
 | k (kd:List (ai×U7))
 | i (l C:U9) (fd:List (Str×U7))
 | r (l C g u:U9) (fd:List (Str×U7)) (gd ud:List (ai×U7))
 | b (ds:List U7)
 | f (kd:List (ai×U7))
abbrev Dl:=List (Option Sl)
inductive bD (K:NM) (H:Hp) (O:Ex):List (ai×V)->List (ai×U7)->Prop
 | nil:bD K H O [] []
 | cons {k:ai} {v:V} {d:U7} {r:List (ai×V)} {s:List (ai×U7)}:Dt K H O v d->bD K H O r s->bD K H O ((k,v)::r) ((k,d)::s)
theorem bD.step{K:NM}{H H':Hp}{O O':Ex}(S:aX H H' O O'){r:List (ai×V)}{s:List (ai×U7)}(h:bD K H O r s):bD K H' O' r s:=by
 induction h with
 | nil=>exact .nil
 | cons a _ ih=>exact .cons (a.step S) ih
theorem bD.mono{K:NM}{H H':Hp}{O:Ex}(S:aj H H'){r:List (ai×V)}{s:List (ai×U7)}(h:bD K H O r s):bD K H' O r s:=h.step (.same S)
def jJ(K:NM)(H:Hp)(O:Ex)(fs:List (Str×V))(fd:List (Str×U7)):Prop:=fs.map (·.1)=fd.map (·.1)/\ak K H O (fs.map (·.2)) (fd.map (·.2))
def Sl.own:Sl->Prop
 | .v _=>False
 | .b _=>False
 | .f _=>False
 | _=>True
abbrev HP:Str:=NL "gone"
abbrev HQ:Str:=NL "used"
def Bl(K:NM)(H:Hp)(O0 O:Ex)(l C g u:U9)(fd:List (Str×U7))(gd ud:List (ai×U7)):Prop:=∃dx fs og ou gv uv,H l=some (.ins C dx (fs++[(HP,.ref g),(HQ,.ref u)]))/\jJ K H O fs fd/\g≠u/\
 (O g/\¬O0 g/\H g=some (.frz og (.dK gv))/\bD K H O gv gd)/\(O u/\¬O0 u/\H u=some (.frz ou (.dK uv))/\bD K H O uv ud)
def iA(K:NM)(H:Hp)(O0 O:Ex)(x:Option V):Option Sl->Prop
 | none=>True
 | some (.v d)=>∃v,x=some v/\Dt K H O v d
 | some (.o ds)=>∃l vs,x=some (.ref l)/\O l/\¬O0 l/\H l=some (.lst vs)/\ak K H O vs ds
 | some (.k kd)=>∃l kv,x=some (.ref l)/\O l/\¬O0 l/\H l=some (.dK kv)/\bD K H O kv kd
 | some (.i l C fd)=>∃dx fs,x=some (.ref l)/\O l/\¬O0 l/\H l=some (.ins C dx fs)/\jJ K H O fs fd
 | some (.r l C g u fd gd ud)=>x=some (.ref l)/\O l/\¬O0 l/\Bl K H O0 O l C g u fd gd ud
 | some (.b ds)=>∃l vs,x=some (.ref l)/\O0 l/\H l=some (.lst vs)/\ak K H O vs ds
 | some (.f kd)=>∃l o kv,x=some (.ref l)/\¬O l/\H l=some (.frz o (.dK kv))/\bD K H O kv kd
structure Wd (K:NM) (H0:Hp) (O0:Ex) (H:Hp) (O:Ex) (σ:St) (δ:Dl):Prop where
 same:aj H0 H
 sub:∀l,O0 l->O l
 new:∀l,O l->O0 l\/H0 l=none
 trk:∀l,O l->H l≠none
 len:σ.length=δ.length
 sl:∀(i:Nat) y,δ[i]?=some y->iA K H O0 O ((σ[i]?).join) y
 dis:∀(i j:Nat) y z l,δ[i]?=some (some y)->y.own->δ[j]?=some (some z)->z.own->σ[i]?=some (some (.ref l))->σ[j]?=some (some (.ref l))->i=j
section
variable {K:NM} {H0 H H':Hp} {O0 O:Ex} {σ:St} {δ:Dl}
theorem iA.mono{x:Option V}{y:Option Sl}(s:aj H H')(h:iA K H O0 O x y):iA K H' O0 O x y:=by
 cases y with
 | none=>exact O8
 | some y=>
  cases y with
  | v d=>
   obtain⟨v,e,r⟩:=h;exact⟨v,e,r.mono s⟩
  | o ds=>
   obtain⟨l,vs,e,a,b,c,r⟩:=h;exact⟨l,vs,e,a,b,s _ _ c,r.mono s⟩
  | k ds=>
   obtain⟨l,vs,e,a,b,c,r⟩:=h;exact⟨l,vs,e,a,b,s _ _ c,r.mono s⟩
  | i l C ds=>
   obtain⟨dx,vs,e,a,b,c,r1,r2⟩:=h;exact⟨dx,vs,e,a,b,s _ _ c,r1,r2.mono s⟩
  | r l C g u fd gd ud=>
   obtain⟨e,a,b,dx,fs,og,ou,gv,uv,c,⟨r1,r2⟩,ne,⟨g1,g2,g3,g4⟩,u1,u2,u3,u4⟩:=h;exact⟨e,a,b,dx,fs,og,ou,gv,uv,s _ _ c,⟨r1,r2.mono s⟩,ne,⟨g1,g2,s _ _ g3,g4.mono s⟩,u1,u2,s _ _ u3,u4.mono s⟩
  | b ds=>
   obtain⟨l,vs,e,a,c,r⟩:=h;exact⟨l,vs,e,a,s _ _ c,r.mono s⟩
  | f kd=>
   obtain⟨l,o,kv,e,a,c,r⟩:=h;exact⟨l,o,kv,e,a,s _ _ c,r.mono s⟩
theorem iA.go{O':Ex}{x:Option V}{y:Option Sl}(h:iA K H O0 O x y)(S:aX H H' O O')(kp:∀l o,y.any (λz=>match z with | .v _=>false | .b _=>false | .f _=>false | _=>true)=true->x=some (.ref l)->O l->¬O0 l->H l=some o->O' l/\H' l=some o)
 (kp2:∀a o u,O a->¬O0 a->H a=some (.frz o u)->O' a/\H' a=some (.frz o u))(kp3:∀a o,O0 a->H a=some o->H' a=some o):iA K H' O0 O' x y:=by
 cases y with
 | none=>exact O8
 | some y=>
  cases y with
  | v d=>
   obtain⟨v,e,r⟩:=h;exact⟨v,e,r.step S⟩
  | o ds=>
   obtain⟨l,vs,e,a,b,c,r⟩:=h;exact⟨l,vs,e,(kp l _ rfl e a b c).1,b,(kp l _ rfl e a b c).2,r.step S⟩
  | k ds=>
   obtain⟨l,vs,e,a,b,c,r⟩:=h;exact⟨l,vs,e,(kp l _ rfl e a b c).1,b,(kp l _ rfl e a b c).2,r.step S⟩
  | i l C ds=>
   obtain⟨dx,vs,e,a,b,c,r1,r2⟩:=h;exact⟨dx,vs,e,(kp l _ rfl e a b c).1,b,(kp l _ rfl e a b c).2,r1,r2.step S⟩
  | r l C g u fd gd ud=>
   obtain⟨e,a,b,dx,fs,og,ou,gv,uv,c,⟨r1,r2⟩,ne,⟨g1,g2,g3,g4⟩,u1,u2,u3,u4⟩:=h;exact⟨e,(kp l _ rfl e a b c).1,b,dx,fs,og,ou,gv,uv,(kp l _ rfl e a b c).2,⟨r1,r2.step S⟩,ne,⟨(kp2 _ _ _ g1 g2 g3).1,g2,(kp2 _ _ _ g1 g2 g3).2,g4.step S⟩,(kp2 _ _ _ u1 u2 u3).1,u2,(kp2 _ _ _ u1 u2 u3).2,u4.step S⟩
  | b ds=>
   obtain⟨l,vs,e,a,c,r⟩:=h;exact⟨l,vs,e,a,kp3 _ _ a c,r.step S⟩
  | f kd=>
   obtain⟨l,o,kv,e,a,c,r⟩:=h;exact⟨l,o,kv,e,S.out _ (by rw [c];exact λz=>nomatch z) a,S.keep _ _ c a,r.step S⟩
theorem Wd.mono(s:aj H H')(w:Wd K H0 O0 H O σ δ):Wd K H0 O0 H' O σ δ:=
 ⟨w.same.trans s,w.sub,w.new,λl h z=>(by
  cases e:H l with
  | none=>exact w.trk l h e
  | some o=>rw [s _ _ e] at z;cases z),w.len,λi y e=>(w.sl i y e).mono s,w.dis⟩
theorem i7{i:Nat}{v:V}(h:(σ[i]?).join=some v):σ[i]?=some (some v):=by
 cases q:σ[i]? with
 | none=>rw [q] at h;cases h
 | some o=>rw [q] at h;rw [show o=some v from h]
theorem Wd.val(w:Wd K H0 O0 H O σ δ){i:Nat}{d:U7}(e:δ[i]?=some (some (.v d))):∃v,σ[i]?=some (some v)/\Dt K H O v d:=by
 obtain⟨v,h,r⟩:=w.sl i _ e;exact⟨v,i7 h,r⟩
theorem Wd.own(w:Wd K H0 O0 H O σ δ){i:Nat}{ds:List U7}(e:δ[i]?=some (some (.o ds))):∃l vs,σ[i]?=some (some (.ref l))/\O l/\¬O0 l/\H l=some (.lst vs)/\ak K H O vs ds:=by
 obtain⟨l,vs,h,r⟩:=w.sl i _ e;exact⟨l,vs,i7 h,r⟩
theorem Wd.ownK(w:Wd K H0 O0 H O σ δ){i:Nat}{kd:List (ai×U7)}(e:δ[i]?=some (some (.k kd))):∃l kv,σ[i]?=some (some (.ref l))/\O l/\¬O0 l/\H l=some (.dK kv)/\bD K H O kv kd:=by
 obtain⟨l,vs,h,r⟩:=w.sl i _ e;exact⟨l,vs,i7 h,r⟩
theorem Wd.ownI(w:Wd K H0 O0 H O σ δ){i:Nat}{l C:U9}{fd:List (Str×U7)}(e:δ[i]?=some (some (.i l C fd))):∃dx fs,σ[i]?=some (some (.ref l))/\O l/\¬O0 l/\H l=some (.ins C dx fs)/\jJ K H O fs fd:=by
 obtain⟨dx,vs,h,r⟩:=w.sl i _ e;exact⟨dx,vs,i7 h,r⟩
theorem Wd.adr(w:Wd K H0 O0 H O σ δ){i:Nat}{y:Sl}(e:δ[i]?=some (some y))(h:y.own):∃l,σ[i]?=some (some (.ref l))/\O l/\¬O0 l:=by
 match y,h,e with
 | .o ds,_,e=>obtain⟨l,vs,a,b,c,_⟩:=w.own e;exact⟨l,a,b,c⟩
 | .k ds,_,e=>obtain⟨l,vs,a,b,c,_⟩:=w.ownK e;exact⟨l,a,b,c⟩
 | .i l C ds,_,e=>obtain⟨dx,vs,a,b,c,_⟩:=w.ownI e;exact⟨l,a,b,c⟩
 | .r l C g u fd gd ud,_,e=>obtain⟨a,b,c,_⟩:=w.sl i _ e;exact⟨l,i7 a,b,c⟩
theorem Wd.nofrz(w:Wd K H0 O0 H O σ δ){i:Nat}{y:Sl}{l:U9}(e:δ[i]?=some (some y))(h:y.own)(hl:σ[i]?=some (some (.ref l)))(o:Obj)(u:HO):H l≠some (.frz o u):=by
 match y,h,e with
 | .o ds,_,e=>obtain⟨l',vs,a,b,c,d,_⟩:=w.own e;rw [hl] at a;cases a;rw [d];exact λz=>nomatch z
 | .k ds,_,e=>obtain⟨l',vs,a,b,c,d,_⟩:=w.ownK e;rw [hl] at a;cases a;rw [d];exact λz=>nomatch z
 | .i l C ds,_,e=>obtain⟨dx,vs,a,b,c,d,_⟩:=w.ownI e;rw [hl] at a;cases a;rw [d];exact λz=>nomatch z
 | .r l C g u fd gd ud,_,e=>obtain⟨a,b,c,_,_,_,_,_,_,d,_⟩:=w.sl i _ e;have a:=i7 a;rw [hl] at a;cases a;rw [d];exact λz=>nomatch z
theorem Wd.set(w:Wd K H0 O0 H O σ δ){i:Nat}{v:V}{d:U7}(h:Dt K H O v d):Wd K H0 O0 H O (σ.set i (some v)) (δ.set i (some (.v d))):=by
 refine⟨w.same,w.sub,w.new,w.trk,by simp [w.len],λj y e=>?_,λj k y z l e1 y1 e2 z2 e3 e4=>?_⟩
 ·by_cases hj:j=i
  ·subst hj;have hl:j < δ.length:=by
    have:=(N7.mp e).1;simpa using this
   rw [Ov hl] at e;cases e;rw [Ov (by rw [w.len];exact hl)];exact⟨v,rfl,h⟩
  ·rw [Oc (Ne.symm hj)] at e⊢;exact w.sl j y e
 ·have ne:∀{j:Nat}{y:Sl},(δ.set i (some (.v d)))[j]?=some (some y)->y.own->j≠i:=λ{j y} e ho z=>by
   subst z;by_cases hl:j < δ.length
   ·rw [Ov hl] at e;cases e;exact ho
   ·rw [RK (by simpa using hl)] at e;cases e
  have n1:=ne e1 y1;have n2:=ne e2 z2;rw [Oc (Ne.symm n1)] at e1 e3;rw [Oc (Ne.symm n2)] at e2 e4;exact w.dis j k y z l e1 y1 e2 z2 e3 e4
theorem Wd.setY(w:Wd K H0 O0 H O σ δ){i:Nat}{p:U9}{ho:HO}{y0:Sl}(hy:y0.own)(hp:H p=none)(h:∀O',aX H (ao H p ho) O O'->O' p->¬O0 p->iA K (ao H p ho) O0 O' (some (.ref p)) (some y0)):
 Wd K H0 O0 (ao H p ho) (λl=>O l\/l=p) (σ.set i (some (.ref p))) (δ.set i (some y0)):=by
 have sm:aj H (ao H p ho):=aj.new hp;have np:∀l,O l->l≠p:=λl hl z=>w.trk l hl (by rw [z];exact hp);have p0:H0 p=none:=by
  cases e:H0 p with
  | none=>rfl
  | some o=>rw [w.same _ _ e] at hp;cases hp
 have S:aX H (ao H p ho) O (λl=>O l\/l=p):=⟨λb o e _=>sm b o e,λb hb hn z=>z.elim hn λq=>hb (by rw [q];exact hp)⟩;have n0:¬O0 p:=λz=>np p (w.sub p z) rfl;refine⟨w.same.trans sm,λl z=>.inl (w.sub l z),λl z=>z.elim (w.new l) λq=>.inr (by rw [q];exact p0),λl z=>?_,by simp [w.len],λj y e=>?_,λj k y z l e1 y1 e2 z2 e3 e4=>?_⟩
 ·by_cases q:l=p
  ·rw [q,aR];exact λz=>nomatch z
  ·rw [aA q];exact w.trk l (z.resolve_right q)
 ·by_cases hj:j=i
  ·subst hj;have hl:j < δ.length:=by
    have:=(N7.mp e).1;simpa using this
   rw [Ov hl] at e;cases e;rw [Ov (by rw [w.len];exact hl)];exact h _ S (.inr rfl) n0
  ·rw [Oc (Ne.symm hj)] at e⊢;exact(w.sl j y e).go S (λl o _ _ a _ c=>⟨.inl a,sm _ _ c⟩) (λa o u a1 _ a3=>⟨.inl a1,sm _ _ a3⟩) λa o _ a3=>sm _ _ a3
 ·by_cases hj:j=i
  ·by_cases hk:k=i
   ·rw [hj,hk]
   ·exfalso;rw [hj] at e1 e3;have hl:i < σ.length:=by
     have:=(N7.mp e3).1;simpa using this
    rw [Ov hl] at e3;cases e3;rw [Oc (Ne.symm hk)] at e2 e4;obtain⟨l',x1,x2,_⟩:=w.adr e2 z2;rw [e4] at x1;cases x1;exact np _ x2 rfl
  ·by_cases hk:k=i
   ·exfalso;rw [hk] at e2 e4;have hl:i < σ.length:=by
     have:=(N7.mp e4).1;simpa using this
    rw [Ov hl] at e4;cases e4;rw [Oc (Ne.symm hj)] at e1 e3;obtain⟨l',x1,x2,_⟩:=w.adr e1 y1;rw [e3] at x1;cases x1;exact np _ x2 rfl
   ·rw [Oc (Ne.symm hj)] at e1 e3;rw [Oc (Ne.symm hk)] at e2 e4;exact w.dis j k _ _ l e1 y1 e2 z2 e3 e4
theorem Wd.setO(w:Wd K H0 O0 H O σ δ){i:Nat}{p:U9}{vs:List V}{ds:List U7}(hp:H p=none)(h:ak K H O vs ds):
 Wd K H0 O0 (ao H p (.lst vs)) (λl=>O l\/l=p) (σ.set i (some (.ref p))) (δ.set i (some (.o ds))):=
 w.setY trivial hp λO' S a b=>⟨p,vs,rfl,a,b,aR,h.step S⟩
theorem Wd.setK(w:Wd K H0 O0 H O σ δ){i:Nat}{p:U9}{kv:List (ai×V)}{kd:List (ai×U7)}(hp:H p=none)(h:bD K H O kv kd):
 Wd K H0 O0 (ao H p (.dK kv)) (λl=>O l\/l=p) (σ.set i (some (.ref p))) (δ.set i (some (.k kd))):=
 w.setY trivial hp λO' S a b=>⟨p,kv,rfl,a,b,aR,h.step S⟩
theorem Wd.putY(w:Wd K H0 O0 H O σ δ){i:Nat}{l:U9}{ho:HO}{y0 y1:Sl}(h0:y0.own)(h1:y1.own)(e:δ[i]?=some (some y0))(hl:σ[i]?=some (some (.ref l)))(h:aX H (ao H l ho) O O->O l->¬O0 l->iA K (ao H l ho) O0 O (some (.ref l)) (some y1)):
 Wd K H0 O0 (ao H l ho) O σ (δ.set i (some y1)):=by
 obtain⟨l',x1,x2,x3⟩:=w.adr e h0;rw [hl] at x1;cases x1;have l0:H0 l=none:=(w.new l x2).resolve_left x3;have S:aX H (ao H l ho) O O:=⟨λb o q n=>by rw [aA (λz=>n (by rw [z];exact x2))];exact q,λ_ _ n=>n⟩;have li:i < δ.length:=(N7.mp e).1;refine⟨λb o q=>by rw [aA (λz=>by rw [z,l0] at q;cases q)];exact w.same b o q,w.sub,w.new,λb z=>?_,by simp [w.len],λj y q=>?_,λj k y z b e1 y1' e2 z2 e3 e4=>?_⟩
 ·by_cases q:b=l
  ·rw [q,aR];exact λz=>nomatch z
  ·rw [aA q];exact w.trk b z
 ·by_cases hj:j=i
  ·subst hj;rw [Ov li] at q;cases q;rw [hl];exact h S x2 x3
  ·rw [Oc (Ne.symm hj)] at q;refine(w.sl j y q).go S (λb o ho' e' a1 a2 a3=>⟨a1,?_⟩) (λb o u a1 a2 a3=>⟨a1,by rw [aA (λz=>w.nofrz e h0 hl o u (by rw [<-z];exact a3))];exact a3⟩) λb o a1 a3=>by rw [aA (λz=>x3 (by rw [<-z];exact a1))];exact a3
   have nb:b≠l:=λz=>by
    subst z
    match y,ho',q with
    | some z,ho',q=>exact hj (w.dis j i z y0 b q (by cases z <;> first | trivial | cases ho') e h0 (i7 e') hl)
   rw [aA nb];exact a3
 ·have g5:∀{j:Nat}{y:Sl},(δ.set i (some y1))[j]?=some (some y)->y.own->∃y',δ[j]?=some (some y')/\y'.own:=λ{j y} q hq=>by
   by_cases hj:j=i
   ·subst hj;exact⟨_,e,h0⟩
   ·rw [Oc (Ne.symm hj)] at q;exact⟨_,q,hq⟩
  obtain⟨_,q1,r1⟩:=g5 e1 y1';obtain⟨_,q2,r2⟩:=g5 e2 z2;exact w.dis j k _ _ b q1 r1 q2 r2 e3 e4
theorem Wd.putO(w:Wd K H0 O0 H O σ δ){i:Nat}{l:U9}{vs us:List V}{ds es:List U7}(e:δ[i]?=some (some (.o ds)))(hl:σ[i]?=some (some (.ref l)))(h:ak K H O us es):
 Wd K H0 O0 (ao H l (.lst us)) O σ (δ.set i (some (.o es))):=
 w.putY (y0:= .o ds) (y1:= .o es) trivial trivial e hl λS a b=>⟨l,us,rfl,a,b,aR,h.step S⟩
theorem Wd.putK(w:Wd K H0 O0 H O σ δ){i:Nat}{l:U9}{kv:List (ai×V)}{kd kd':List (ai×U7)}(e:δ[i]?=some (some (.k kd)))(hl:σ[i]?=some (some (.ref l)))(h:bD K H O kv kd'):
 Wd K H0 O0 (ao H l (.dK kv)) O σ (δ.set i (some (.k kd'))):=
 w.putY (y0:= .k kd) (y1:= .k kd') trivial trivial e hl λS a b=>⟨l,kv,rfl,a,b,aR,h.step S⟩
end
abbrev DT:=Dl->(U7->Prop)->Prop
abbrev DA:=Dl->(List U7->Prop)->Prop
abbrev DB:=Dl->(Bool->Prop)->Prop
structure eT where
 nx:Dl->Prop
 rt:U7->Prop
 bk:Dl->Prop:=λ_=>False
 ct:Dl->Prop:=λ_=>False
abbrev DS:=eT->Dl->Prop
section
variable (K:NM) (H0:Hp) (O0:Ex)
inductive up (t:DT) (σ:St) (H:Hp) (R:VK):Prop
 | mk (O:Ex) (δ:Dl) (Qd:U7->Prop):Wd K H0 O0 H O σ δ->t δ Qd->(∀d v H',Qd d->aj H H'->Dt K H' O v d->R v H')->up t σ H R
inductive qJ (t:DT) (σ:St) (H:Hp) (R:VK):Prop
 | mk (O:Ex) (δ:Dl) (Qd:U7->Prop):Wd K H0 O0 H O σ δ->t δ Qd->(∀d v H',Qd d->aj H H'->Sh K H' O v d->R v H')->qJ t σ H R
inductive dD (t:DA) (σ:St) (H:Hp) (R:List V->Hp->Prop):Prop
 | mk (O:Ex) (δ:Dl) (Qd:List U7->Prop):Wd K H0 O0 H O σ δ->t δ Qd->(∀ds vs H',Qd ds->aj H H'->ak K H' O vs ds->R vs H')->dD t σ H R
inductive bY (t:DB) (σ:St) (H:Hp) (R:Bool->Hp->Prop):Prop
 | mk (O:Ex) (δ:Dl) (Qd:Bool->Prop):Wd K H0 O0 H O σ δ->t δ Qd->(∀b H',Qd b->aj H H'->R b H')->bY t σ H R
inductive bA (t:DS) (D:ig) (σ:St) (H:Hp):Prop
 | mk (O:Ex) (δ:Dl) (E:eT):Wd K H0 O0 H O σ δ->t E δ->(∀O' δ' σ' H',E.nx δ'->Wd K H0 O0 H' O' σ' δ'->aX H H' O O'->D.nx σ' H')->(∀d v H',E.rt d->aj H0 H'->Dt K H' O0 v d->D.rt v H')->
 (∀O' δ' σ' H',E.bk δ'->Wd K H0 O0 H' O' σ' δ'->aX H H' O O'->D.bk σ' H')->(∀O' δ' σ' H',E.ct δ'->Wd K H0 O0 H' O' σ' δ'->aX H H' O O'->D.ct σ' H')->bA t D σ H
end
theorem PE.imp{X:Cx}{e:Vd}{t u:TE}(h:PE X e t)(i:∀σ H Q,u σ H Q->t σ H Q):PE X e u:=λWy s σ H Q I z=>h Wy s σ H Q I (i σ H Q z)
theorem PT.imp{X:Cx}{e:Vd}{t u:TT}(h:PT X e t)(i:∀σ H Q,u σ H Q->t σ H Q):PT X e u:=λWy s σ H Q I z=>h Wy s σ H Q I (i σ H Q z)
theorem PW.imp{X:Cx}{e:Vd}{t u:TT}(h:PW X e t)(i:∀σ H Q,u σ H Q->t σ H Q):PW X e u:=λwh Wy s σ H Q I z=>h wh Wy s σ H Q I (i σ H Q z)
theorem PA.imp{X:Cx}{e:List Vd}{t u:TA}(h:PA X e t)(i:∀σ H Q,u σ H Q->t σ H Q):PA X e u:=λpos Wy s σ H Q I z=>h pos Wy s σ H Q I (i σ H Q z)
theorem PS.imp{X:Cx}{e:Vn}{t u:TS}(h:PS X e t)(i:∀D σ H,u D σ H->t D σ H):PS X e u:=λWy s σ H D I z=>h Wy s σ H D I (i D σ H z)
theorem bG.imp{X:Cx}{e:List Vn}{t u:TS}(h:bG X e t)(i:∀D σ H,u D σ H->t D σ H):bG X e u:=λWy s σ H D I z=>h Wy s σ H D I (i D σ H z)
section
variable {X:Cx} {H0:Hp} {O0:Ex}
abbrev DE(X:Cx)(H0:Hp)(O0:Ex)(e:Vd)(t:DT):Prop:=PE X e (up X.K H0 O0 t)
abbrev DF(X:Cx)(H0:Hp)(O0:Ex)(e:Vd)(t:DT):Prop:=PE X e (qJ X.K H0 O0 t)
theorem df{e:Vd}{t:DT}(h:DE X H0 O0 e t):DF X H0 O0 e t:=h.imp λσ H Q uu65=>by obtain⟨O,δ,Qd,w,q,k⟩:=uu65;exact⟨O,δ,Qd,w,q,λd v H' a b c=>k d v H' a b (.dt c)⟩
def Bm(Q:U7->Prop):Option (Option Sl)->Prop
 | some (some (.v d))=>Q d
 | _=>False
def cw(i:Nat):DT:=λδ Q=>Bm Q δ[i]?
theorem HR{Q:U7->Prop}{o:Option (Option Sl)}:Bm Q o↔∃d,o=some (some (.v d))/\Q d:=by
 constructor
 ·intro h
  match o,h with
  | some (some (.v d)),h=>exact⟨d,rfl,h⟩
 ·rintro⟨d,rfl,h⟩;exact h
theorem HS{i:Nat}{δ:Dl}{Q:U7->Prop}(h:cw i δ Q):∃d,δ[i]?=some (some (.v d))/\Q d:=HR.mp h
def mD(i:Nat):DT:=λδ Q=>∃ds,δ[i]?=some (some (.o ds))/\Q (.list ds)
def dC(d:U7):DT:=λ_ Q=>Q d
theorem dv(i:Nat){x:Str}{pos:Pos}(hN:X.N[i]?=some x:=by rfl)(hv:fL X.env.scope x:=by first | exact Sv rfl | exact RP (Sv rfl) | exact RP (RP rfl))
 (hd:(x==("__debug__":Str))=false:=by decide)(hcd:(x==("__classdict__":Str))=false:=by decide):DE X H0 O0 (.Name x pos) (cw i):=
 (qf hN hv hd hcd).imp λσ H Q uu66=>by
  obtain⟨O,δ,Qd,w,dq,k⟩:=uu66;obtain⟨d,e,q⟩:=HS dq;obtain⟨v,h,r⟩:=w.val e;exact⟨v,h,k d v H q (aj.refl _) r⟩
theorem dw(i:Nat){x:Str}{pos:Pos}(hN:X.N[i]?=some x:=by rfl)(hv:fL X.env.scope x:=by first | exact Sv rfl | exact RP (Sv rfl) | exact RP (RP rfl))
 (hd:(x==("__debug__":Str))=false:=by decide)(hcd:(x==("__classdict__":Str))=false:=by decide):DF X H0 O0 (.Name x pos) (mD i):=
 (qf hN hv hd hcd).imp λσ H Q uu67=>by
  obtain⟨O,δ,Qd,w,⟨ds,e,q⟩,k⟩:=uu67;obtain⟨l,vs,h,_,_,r,rs⟩:=w.own e;exact⟨_,h,k _ _ H q (aj.refl _) (.own r rs)⟩
theorem dc{e:Vd}{v:V}{d:U7}(h:PE X e (tC v))(r:∀H O,Dt X.K H O v d):DE X H0 O0 e (dC d):=h.imp λσ H Q uu68=>by obtain⟨O,δ,Qd,w,q,k⟩:=uu68;exact k d v H q (aj.refl _) (r H O)
theorem ag{i j pos}:DE X H0 O0 (.Constant (.int i) j pos) (dC (.int i)):=dc bf λ_ _=>.int i
theorem i9{b j pos}:DE X H0 O0 (.Constant (.bool b) j pos) (dC (.bool b)):=dc uh λ_ _=>.bl b
theorem fv{j pos}:DE X H0 O0 (.Constant .none j pos) (dC .none):=dc x9 λ_ _=>.non
theorem aQ{x j pos}:DE X H0 O0 (.Constant (.str x) j pos) (dC (.str x)):=dc ui λ_ _=>.str x
def ja:DA:=λ_ Q=>Q []
def gF(t:DT)(u:DA):DA:=λδ Q=>t δ λd=>u δ λds=>Q (d::ds)
theorem ah:PA X [] (dD X.K H0 O0 ja):=bU.imp λσ H Q uu69=>by obtain⟨O,δ,Qd,w,q,k⟩:=uu69;exact k [] [] H q (aj.refl _) .nil
theorem aa{e:Vd}{es:List Vd}{t:DT}{u:DA}(h:DE X H0 O0 e t)(hs:PA X es (dD X.K H0 O0 u))(he:Vc (e::es) X.env=(false,eval e X.env)::Vc es X.env:=by rfl):PA X (e::es) (dD X.K H0 O0 (gF t u)):=
 (aO h hs he).imp λσ H Q uu70=>by obtain⟨O,δ,Qd,w,q,k⟩:=uu70;exact⟨O,δ,_,w,q,λd v H1 q1 s1 r1=>⟨O,δ,_,w.mono s1,q1,λds vs H2 q2 s2 r2=>k (d::ds) (v::vs) H2 q2 (s1.trans s2) (.cons (r1.mono s2) r2)⟩⟩
def kC(t:DA):DT:=λδ Q=>t δ λds=>ds.length<=Ve/\Q (.tuple ds)
theorem kD{H:Hp}{O:Ex}{σ:St}{δ:Dl}{H1:Hp}{p:U9}{K:NM}(w:Wd K H0 O0 H O σ δ)(s:aj H H1)(hp:H1 p=none):¬O p:=λz=>(w.mono s).trk p z hp
theorem bE{es:List Vd}{t:DA}{x1}{pos:Pos}(h:PA X es (dD X.K H0 O0 t)):DE X H0 O0 (.Tuple es x1 pos) (kC t):=
 (vb h).imp λσ H Q uu71=>by obtain⟨O,δ,Qd,w,q,k⟩:=uu71;exact⟨O,δ,_,w,q,λds vs H1 q1 s1 r1=>⟨by rw [r1.length];exact q1.1,λp hp=>k _ _ _ q1.2 (s1.trans (aj.new hp)) (.tup (.inl aR) (kD w s1 hp) (r1.mono (aj.new hp)))⟩⟩
end
theorem aX.refl(H:Hp)(O:Ex):aX H H O O:=⟨λ_ _ e _=>e,λ_ _ n=>n⟩
theorem aX.trans{H H1 H2:Hp}{O O1 O2:Ex}(a:aX H H1 O O1)(b:aX H1 H2 O1 O2):aX H H2 O O2:=by
 refine⟨λc o e n=>?_,λc e n=>?_⟩
 ·have h1:=a.keep c o e n;exact b.keep c o h1 (a.out c (by rw [e];exact λz=>nomatch z) n)
 ·cases q:H c with
  | none=>exact absurd q e
  | some o=>exact b.out c (by rw [a.keep c o q n];exact λz=>nomatch z) (a.out c e n)
section
variable {X:Cx} {H0:Hp} {O0:Ex}
def cx(K:NM)(r:R2)(rd:U7->U7->(U7->Prop)->Prop):Prop:=
 ∀(H:Hp)(O:Ex)(x y:V)(dx dy:U7)(Qd:U7->Prop)(R:VK),(∀l,O l->H l≠none)->Sh K H O x dx->Sh K H O y dy->rd dx dy Qd->(∀d v H',Qd d->aj H H'->Dt K H' O v d->R v H')->r x y H R
def dP(rd:U7->U7->(U7->Prop)->Prop)(ta tb:DT):DT:=λδ Q=>ta δ λx=>tb δ λy=>rd x y Q
theorem qK{K:NM}{r:R2}{rd:U7->U7->(U7->Prop)->Prop}{ta tb:DT}(hd:cx K r rd):∀σ H Q,up K H0 O0 (dP rd ta tb) σ H Q->jC r (qJ K H0 O0 ta) (qJ K H0 O0 tb) σ H Q:=
 λσ H Q uu72=>by obtain⟨O,δ,Qd,w,q,k⟩:=uu72;exact⟨O,δ,_,w,q,λx v H1 q1 s1 r1=>⟨O,δ,_,w.mono s1,q1,λy u H2 q2 s2 r2=>hd H2 O v u x y Qd _ (w.mono (s1.trans s2)).trk (r1.mono s2) r2 q2 λd z H3 qd s3 r3=>k d z H3 qd (s1.trans (s2.trans s3)) r3⟩⟩
theorem HU{a b:Vd}{ta tb:DT}{op:Operator}{r:R2}{rd:U7->U7->(U7->Prop)->Prop}{pos:Pos}(ho:bT X (VI op) r)(hd:cx X.K r rd)(ha:DF X H0 O0 a ta)(hb:DF X H0 O0 b tb):DE X H0 O0 (.BinOp a op b pos) (dP rd ta tb):=(bz ho ha hb).imp (qK hd)
theorem d5{a b:Vd}{ta tb:DT}{op:CmpOp}{r:R2}{rd:U7->U7->(U7->Prop)->Prop}{pos:Pos}(ho:bT X (Vs op) r)(hd:cx X.K r rd)(ha:DF X H0 O0 a ta)(hb:DF X H0 O0 b tb)(hm:Vy op b=false):DE X H0 O0 (.Compare a [op] [b] pos) (dP rd ta tb):=(qw ho ha hb hm).imp (qK hd)
def fw(t:DT):DB:=λδ Q=>t δ λd=>∃b,d= .bool b/\Q b
theorem HV{a b:Vd}{ta tb:DT}{op:CmpOp}{r:R2}{rd:U7->U7->(U7->Prop)->Prop}{pos:Pos}(ho:bT X (Vs op) r)(hd:cx X.K r rd)(ha:DF X H0 O0 a ta)(hb:DF X H0 O0 b tb)(hm:Vy op b=false):PT X (.Compare a [op] [b] pos) (bY X.K H0 O0 (fw (dP rd ta tb))):=
 (gU ho ha hb hm).imp λσ H Q uu73=>by obtain⟨O,δ,Qd,w,q,k⟩:=uu73;exact qK hd σ H _ ⟨O,δ,_,w,q,λd v H' uu74 s r=>by obtain⟨b,e,qb⟩:=uu74;subst e;cases r;exact⟨b,rfl,k b H' qb s⟩⟩
theorem gG{e:Vd}{t:DT}(h:DE X H0 O0 e t)(he:∀whole,isTrue e X.env whole=(do let v<-whole;standAt e.pos;We [v] (truthy v)):=by intro _;rfl):PT X e (bY X.K H0 O0 (fw t)):=
 (qh h he).imp λσ H Q uu75=>by obtain⟨O,δ,Qd,w,q,k⟩:=uu75;exact⟨O,δ,_,w,q,λd v H' uu76 s r=>by obtain⟨b,e,qb⟩:=uu76;subst e;cases r;exact⟨b,rfl,k b H' qb s⟩⟩
def gY(t u:DB):DB:=λδ Q=>t δ λc=>if c=true then u δ Q else Q false
def mE(t u:DB):DB:=λδ Q=>t δ λc=>if c=true then Q true else u δ Q
def mF(t:DB):DB:=λδ Q=>t δ λc=>Q (!c)
theorem d6{a:Vd}{t:DB}{pos:Pos}(h:PT X a (bY X.K H0 O0 t)):PW X (.BoolOp .And [a] pos) (bY X.K H0 O0 t):=y3 h
theorem jb{a:Vd}{t:DB}{pos:Pos}(h:PT X a (bY X.K H0 O0 t)):PW X (.BoolOp .Or [a] pos) (bY X.K H0 O0 t):=y4 h
theorem dE{a b:Vd}{rest:List Vd}{t u:DB}{pos:Pos}(h:PT X a (bY X.K H0 O0 t))(hb:PW X (.BoolOp .And (b::rest) pos) (bY X.K H0 O0 u)):PW X (.BoolOp .And (a::b::rest) pos) (bY X.K H0 O0 (gY t u)):=
 (y6 h hb).imp λσ H Q uu77=>by obtain⟨O,δ,Qd,w,q,k⟩:=uu77;exact⟨O,δ,_,w,q,λc H1 q1 s1=>by
  cases c with
  | true=>exact⟨O,δ,_,w.mono s1,q1,λb H2 q2 s2=>k b H2 q2 (s1.trans s2)⟩
  | false=>exact k false H1 q1 s1⟩
theorem jc{a b:Vd}{rest:List Vd}{t u:DB}{pos:Pos}(h:PT X a (bY X.K H0 O0 t))(hb:PW X (.BoolOp .Or (b::rest) pos) (bY X.K H0 O0 u)):PW X (.BoolOp .Or (a::b::rest) pos) (bY X.K H0 O0 (mE t u)):=
 (y8 h hb).imp λσ H Q uu78=>by obtain⟨O,δ,Qd,w,q,k⟩:=uu78;exact⟨O,δ,_,w,q,λc H1 q1 s1=>by
  cases c with
  | false=>exact⟨O,δ,_,w.mono s1,q1,λb H2 q2 s2=>k b H2 q2 (s1.trans s2)⟩
  | true=>exact k true H1 q1 s1⟩
theorem jK{a:Vd}{t:DB}{pos:Pos}(h:PT X a (bY X.K H0 O0 t)):PT X (.UnaryOp .Not a pos) (bY X.K H0 O0 (mF t)):=
 (y9 h).imp λσ H Q uu79=>by obtain⟨O,δ,Qd,w,q,k⟩:=uu79;exact⟨O,δ,_,w,q,λc H1 q1 s1=>k (!c) H1 q1 s1⟩
def mG(t u:DT):DT:=λδ Q=>t δ λd=>∃c,d= .bool c/\if c=true then u δ Q else Q (.bool false)
def mH(t u:DT):DT:=λδ Q=>t δ λd=>∃c,d= .bool c/\if c=true then Q (.bool true) else u δ Q
def mI(t:DT):DT:=λδ Q=>t δ λd=>∃c,d= .bool c/\Q (.bool (!c))
theorem kF{op}{a:Vd}{t:DT}{pos:Pos}(h:DE X H0 O0 a t):DE X H0 O0 (.BoolOp op [a] pos) t:=qi h
theorem kG{a b:Vd}{rest:List Vd}{t u:DT}{pos:Pos}(h:DE X H0 O0 a t)(hb:DE X H0 O0 (.BoolOp .And (b::rest) pos) u):DE X H0 O0 (.BoolOp .And (a::b::rest) pos) (mG t u):=
 (uw h hb).imp λσ H Q ⟨O,δ,Qd,w,q,k⟩=>⟨O,δ,_,w,q,λd v H1 uu81 s1 r=>by
  obtain⟨c,e,q1⟩:=uu81;subst e;cases r;refine⟨c,rfl,?_⟩;cases c with
  | true=>exact⟨O,δ,_,w.mono s1,q1,λd v H2 q2 s2 r2=>k d v H2 q2 (s1.trans s2) r2⟩
  | false=>exact k _ _ H1 q1 s1 (.bl false)⟩
theorem HW{a b:Vd}{rest:List Vd}{t u:DT}{pos:Pos}(h:DE X H0 O0 a t)(hb:DE X H0 O0 (.BoolOp .Or (b::rest) pos) u):DE X H0 O0 (.BoolOp .Or (a::b::rest) pos) (mH t u):=
 (z9 h hb).imp λσ H Q ⟨O,δ,Qd,w,q,k⟩=>⟨O,δ,_,w,q,λd v H1 uu83 s1 r=>by
  obtain⟨c,e,q1⟩:=uu83;subst e;cases r;refine⟨c,rfl,?_⟩;cases c with
  | false=>exact⟨O,δ,_,w.mono s1,q1,λd v H2 q2 s2 r2=>k d v H2 q2 (s1.trans s2) r2⟩
  | true=>exact k _ _ H1 q1 s1 (.bl true)⟩
theorem HX{a:Vd}{t:DT}{pos:Pos}(h:DE X H0 O0 a t):DE X H0 O0 (.UnaryOp .Not a pos) (mI t):=
 (F5 h).imp λσ H Q uu84=>by obtain⟨O,δ,Qd,w,q,k⟩:=uu84;exact⟨O,δ,_,w,q,λd v H1 uu85 s1 r=>by
  obtain⟨c,e,q1⟩:=uu85;subst e;cases r;exact⟨c,rfl,k _ _ H1 q1 s1 (.bl _)⟩⟩
def mJ(c:DB)(t u:DT):DT:=λδ Q=>c δ λb=>if b=true then t δ Q else u δ Q
theorem HY{c a b:Vd}{tc:DB}{t u:DT}{pos:Pos}(hc:PT X c (bY X.K H0 O0 tc))(ha:DE X H0 O0 a t)(hb:DE X H0 O0 b u):DE X H0 O0 (.IfExp c a b pos) (mJ tc t u):=
 (Aa hc ha hb).imp λσ H Q uu86=>by obtain⟨O,δ,Qd,w,q,k⟩:=uu86;exact⟨O,δ,_,w,q,λc H1 q1 s1=>by
  cases c with
  | true=>exact⟨O,δ,_,w.mono s1,q1,λd v H2 q2 s2 r2=>k d v H2 q2 (s1.trans s2) r2⟩
  | false=>exact⟨O,δ,_,w.mono s1,q1,λd v H2 q2 s2 r2=>k d v H2 q2 (s1.trans s2) r2⟩⟩
inductive bo (K:NM) (F:List U7->(U7->Prop)->Prop) (vs:List V) (H:Hp) (Q:VK) (E:XK):Prop
 | mk (O:Ex) (ds:List U7) (Qd:U7->Prop):(∀l,O l->H l≠none)->ak K H O vs ds->F ds Qd->(∀d v H',Qd d->aj H H'->Dt K H' O v d->Q v H')->bo K F vs H Q E
def gZ(F:List U7->(U7->Prop)->Prop)(t:DA):DT:=λδ Q=>t δ λds=>F ds Q
theorem Bn{K:NM}{F:List U7->(U7->Prop)->Prop}{t:DA}{E:XK}:∀σ H Q,up K H0 O0 (gZ F t) σ H Q->kq (bo K F) [] E (dD K H0 O0 t) σ H Q:=
 λσ H Q uu87=>by obtain⟨O,δ,Qd,w,q,k⟩:=uu87;exact⟨O,δ,_,w,q,λds vs H1 q1 s1 r1=>⟨O,ds,Qd,(w.mono s1).trk,by rw [Oi];exact r1,q1,λd v H2 q2 s2 r2=>k d v H2 q2 (s1.trans s2) r2⟩⟩
inductive kH (K:NM) (H:Hp) (O:Ex):List V->List U7->Prop
 | nil:kH K H O [] []
 | cons {v:V} {d:U7} {vs:List V} {ds:List U7}:Sh K H O v d->kH K H O vs ds->kH K H O (v::vs) (d::ds)
inductive fC (K:NM) (H0:Hp) (O0:Ex) (t:DA) (σ:St) (H:Hp) (R:List V->Hp->Prop):Prop
 | mk (O:Ex) (δ:Dl) (Qd:List U7->Prop):Wd K H0 O0 H O σ δ->t δ Qd->(∀ds vs H',Qd ds->aj H H'->kH K H' O vs ds->R vs H')->fC K H0 O0 t σ H R
theorem br:PA X [] (fC X.K H0 O0 ja):=bU.imp λσ H Q uu88=>by obtain⟨O,δ,Qd,w,q,k⟩:=uu88;exact k [] [] H q (aj.refl _) .nil
theorem jd{e:Vd}{es:List Vd}{t:DT}{u:DA}(h:DF X H0 O0 e t)(hs:PA X es (fC X.K H0 O0 u))(he:Vc (e::es) X.env=(false,eval e X.env)::Vc es X.env:=by rfl):PA X (e::es) (fC X.K H0 O0 (gF t u)):=
 (aO h hs he).imp λσ H Q uu89=>by obtain⟨O,δ,Qd,w,q,k⟩:=uu89;exact⟨O,δ,_,w,q,λd v H1 q1 s1 r1=>⟨O,δ,_,w.mono s1,q1,λds vs H2 q2 s2 r2=>k (d::ds) (v::vs) H2 q2 (s1.trans s2) (.cons (r1.mono s2) r2)⟩⟩
def fO(K:NM)(r:List V->Hp->VK->Prop)(rd:List U7->(U7->Prop)->Prop):Prop:=
 ∀(H:Hp)(O:Ex)(xs:List V)(ds:List U7)(Qd:U7->Prop)(R:VK),(∀l,O l->H l≠none)->kH K H O xs ds->rd ds Qd->(∀d v H',Qd d->aj H H'->Dt K H' O v d->R v H')->r xs H R
theorem bJ{K:NM}{r:List V->Hp->VK->Prop}{rd:List U7->(U7->Prop)->Prop}{t:DA}(hd:fO K r rd):∀σ H Q,up K H0 O0 (gZ rd t) σ H Q->mw r (fC K H0 O0 t) σ H Q:=
 λσ H Q uu90=>by obtain⟨O,δ,Qd,w,q,k⟩:=uu90;exact⟨O,δ,_,w,q,λds vs H1 q1 s1 r1=>hd H1 O vs ds Qd _ (w.mono s1).trk r1 q1 λd v H2 q2 s2 r2=>k d v H2 q2 (s1.trans s2) r2⟩
def fx(t u:DS):DS:=λE δ=>t {E with nx:=u E} δ
theorem aq{st:Vn}{rest:List Vn}{t u:DS}(h:PS X st (bA X.K H0 O0 t))(h2:bG X rest (bA X.K H0 O0 u)):bG X (st::rest) (bA X.K H0 O0 (fx t u)):=
 (cm h h2).imp λD σ H uu91=>by obtain⟨O,δ,E,w,q,k1,k2,k3,k4⟩:=uu91;exact⟨O,δ,_,w,q,λO' δ' σ' H' z w' S=>⟨O',δ',E,w',z,λO2 δ2 σ2 H2 z2 w2 S2=>k1 O2 δ2 σ2 H2 z2 w2 (S.trans S2),k2,λO2 δ2 σ2 H2 z2 w2 S2=>k3 O2 δ2 σ2 H2 z2 w2 (S.trans S2),λO2 δ2 σ2 H2 z2 w2 S2=>k4 O2 δ2 σ2 H2 z2 w2 (S.trans S2)⟩,k2,k3,k4⟩
def mK:DS:=λE δ=>E.nx δ
theorem bB:bG X [] (bA X.K H0 O0 mK):=ik.imp λD σ H uu92=>by obtain⟨O,δ,E,w,q,k1,k2,k3,k4⟩:=uu92;exact k1 O δ σ H q w (aX.refl _ _)
theorem au{st:Vn}{t:DS}(h:PS X st (bA X.K H0 O0 t)):bG X [st] (bA X.K H0 O0 t):=cO h
def je(i:Nat)(t:DT):DS:=λE δ=>t δ λd=>E.nx (δ.set i (some (.v d)))
theorem bH{i:Nat}{x:Str}{e:Vd}{t:DT}{pos pos':Pos}(hN:X.N.Nodup)(hi:X.N[i]?=some x)(hx:gc X.env.scope x)(he:DE X H0 O0 e t)(hs:Vw e (some (.Name x pos')) pos.line X.env=pure false:=by rfl)(hf:X.fn x=true\/X.env.scope.names.lookup x=some .local:=by first | exact .inl rfl | exact .inr rfl | assumption):
 PS X (.Assign [.Name x pos'] e pos) (bA X.K H0 O0 (je i t)):=
 (c7 hN hi hx he hs hf).imp λD σ H uu93=>by obtain⟨O,δ,E,w,q,k1,k2,k3,k4⟩:=uu93;exact⟨O,δ,_,w,q,λd v H1 q1 s1 r1=>k1 O _ _ H1 q1 ((w.mono s1).set r1) (.same s1)⟩
def mL(t:DT):DS:=λE δ=>t δ E.rt
theorem g5{K:NM}{H:Hp}{O:Ex}{σ:St}{δ:Dl}(w:Wd K H0 O0 H O σ δ):aX H H O O0:=⟨λ_ _ e _=>e,λb _ n z=>n (w.sub b z)⟩
theorem aJ{e:Vd}{t:DT}{pos:Pos}(he:DE X H0 O0 e t):PS X (.Return (some e) pos) (bA X.K H0 O0 (mL t)):=
 (dN he).imp λD σ H uu94=>by obtain⟨O,δ,E,w,q,k1,k2,k3,k4⟩:=uu94;exact⟨O,δ,_,w,q,λd v H1 q1 s1 r1=>k2 d v H1 q1 (w.same.trans s1) (r1.step (g5 (w.mono s1)))⟩
def g6(c:DB)(t u:DS):DS:=λE δ=>c δ λb=>if b=true then t E δ else u E δ
theorem bC{c:Vd}{a b:List Vn}{tc:DB}{t u:DS}{pos:Pos}(hc:PT X c (bY X.K H0 O0 tc))(ha:bG X a (bA X.K H0 O0 t))(hb:bG X b (bA X.K H0 O0 u)):PS X (.If c a b pos) (bA X.K H0 O0 (g6 tc t u)):=
 (iq hc ha hb).imp λD σ H uu95=>by obtain⟨O,δ,E,w,q,k1,k2,k3,k4⟩:=uu95;exact⟨O,δ,_,w,q,λc H1 q1 s1=>by
  have g:∀{t':DS},t' E δ->bA X.K H0 O0 t' D σ H1:=λz=>⟨O,δ,E,w.mono s1,z,λO2 δ2 σ2 H2 z2 w2 S2=>k1 O2 δ2 σ2 H2 z2 w2 (aX.trans (.same s1) S2),k2,λO2 δ2 σ2 H2 z2 w2 S2=>k3 O2 δ2 σ2 H2 z2 w2 (aX.trans (.same s1) S2),λO2 δ2 σ2 H2 z2 w2 S2=>k4 O2 δ2 σ2 H2 z2 w2 (aX.trans (.same s1) S2)⟩;cases c with
  | true=>exact g q1
  | false=>exact g q1⟩
inductive mM (K:NM) (H0:Hp) (O0:Ex) (t:DA) (σ:St) (H:Hp) (R:VK):Prop
 | mk (O:Ex) (δ:Dl) (Qd:List U7->Prop):Wd K H0 O0 H O σ δ->t δ Qd->(∀ds vs p H',Qd ds->aj H H'->H' p=none->ak K H' O vs ds->R (.ref p) (ao H' p (.lst vs)))->mM K H0 O0 t σ H R
abbrev FE(X:Cx)(H0:Hp)(O0:Ex)(e:Vd)(t:DA):Prop:=PE X e (mM X.K H0 O0 t)
def dL(t:DA):DT:=λδ Q=>t δ λds=>Q (.list ds)
theorem fe{e:Vd}{t:DA}(h:FE X H0 O0 e t):DE X H0 O0 e (dL t):=
 h.imp λσ H Q uu96=>by obtain⟨O,δ,Qd,w,q,k⟩:=uu96;exact⟨O,δ,_,w,q,λds vs p H1 q1 s1 hp r1=>k _ _ _ q1 (s1.trans (aj.new hp)) (.lst (.inl aR) (kD w s1 hp) (r1.mono (aj.new hp)))⟩
def kI(t:DA):DA:=λδ Q=>t δ λds=>ds.length<=Ve/\Q ds
theorem cy{es:List Vd}{t:DA}{pos:Pos}(h:PA X es (dD X.K H0 O0 t)):FE X H0 O0 (.List es pos) (kI t):=
 (mv h).imp λσ H Q uu0=>by obtain⟨O,δ,Qd,w,q,k⟩:=uu0;exact⟨O,δ,_,w,q,λds vs H1 q1 s1 r1=>⟨by rw [r1.length];exact q1.1,λp hp=>k _ _ _ _ q1.2 s1 hp r1⟩⟩
def mO(i:Nat)(t:DA):DS:=λE δ=>t δ λds=>E.nx (δ.set i (some (.o ds)))
theorem qL{i:Nat}{x:Str}{e:Vd}{t:DA}{pos pos':Pos}(hN:X.N.Nodup)(hi:X.N[i]?=some x)(hx:gc X.env.scope x)(he:FE X H0 O0 e t)(hs:Vw e (some (.Name x pos')) pos.line X.env=pure false:=by rfl)(hf:X.fn x=true\/X.env.scope.names.lookup x=some .local:=by first | exact .inl rfl | exact .inr rfl | assumption):
 PS X (.Assign [.Name x pos'] e pos) (bA X.K H0 O0 (mO i t)):=
 (c7 hN hi hx he hs hf).imp λD σ H ⟨O,δ,E,w,q,k1,k2,k3,k4⟩=>⟨O,δ,_,w,q,λds vs p H1 q1 s1 hp r1=>k1 _ _ _ _ q1 ((w.mono s1).setO hp r1)
  ⟨λb o e _=>(s1.trans (aj.new hp)) b o e,λb e n z=>z.elim n λy=>by
   cases q:H b with
   | none=>exact e q
   | some o=>have:=s1 _ _ q;rw [y,hp] at this;cases this⟩⟩
def mP(i:Nat)(t:DT):DS:=λE δ=>∃ds,δ[i]?=some (some (.o ds))/\t δ λd=>ds.length < Ve/\E.nx (δ.set i (some (.o (ds++[d]))))
theorem iB{i:Nat}{o e:Vd}{t:DT}{apos cpos pos:Pos}(ho:PE X o (fh i))(he:DE X H0 O0 e t)(hbase:VJ o "append" X.env (eval o X.env)=eval o X.env:=by rfl)
 (hfew:((Vr cpos (Vc [e] X.env)).all (λx=>!x.1) && (backToKw cpos (V8 [] X.env)).all (λx=>x.1.isSome) && decide ([e].length+([]:List VO).length+(if ([]:List VO).isEmpty then 0 else 1) < 30))=true:=by rfl)
 (hline:(apos.endLine==cpos.line)=true:=by rfl)(hst:Vc [e] X.env=(false,eval e X.env)::Vc [] X.env:=by rfl)(hplain:(Vr cpos (Vc [] X.env)).any (·.1)=false:=by rfl)
 (hs:Vw (.Call (.Attribute o "append" apos) [e] [] cpos) none pos.line X.env=pure false:=by rfl):PS X (.Expr (.Call (.Attribute o "append" apos) [e] [] cpos) pos) (bA X.K H0 O0 (mP i t)):=
 (Ab (vh SF PySem.F.slot_list_append PySem.F.type_list_append AS ho (aO he bU hst) hbase hfew hline hst hplain) hs).imp λD σ H uu2=>by
  obtain⟨O,δ,E,w,⟨ds,e,q⟩,k1,k2,k3,k4⟩:=uu2;obtain⟨l,vs,h,a,b,c,r⟩:=w.own e;refine⟨_,h,.inl ⟨rfl,_,aV.of c⟩,O,δ,_,w,q,λd v H1 q1 s1 r1=>?_⟩;refine⟨l,vs,v,rfl,rfl,s1 _ _ c,by rw [r.length];exact q1.1,?_⟩;exact k1 _ _ _ _ q1.2 ((w.mono s1).putO (vs:=vs) e h ((r.mono s1).append (.cons r1 .nil))) ⟨λb' o' z n=>by rw [aA (λy=>n (by rw [y];exact a))];exact s1 _ _ z,λ_ _ n=>n⟩
end
structure cE (J:It) (P:Hp->Prop) (vs:List V):Prop where
 go:∀i H',P H'->i < vs.length->J.go i H'
 yl:∀i H' x H'',P H'->i < vs.length->J.yld i H' x H''->H''=H'/\vs[i]?=some x
 st:∀i H',P H'->vs.length<=i->J.stop i H'
def kJ(H1:Hp)(a:U9)(H':Hp):Prop:=∀o,H1 a=some o->H' a=some o
theorem aV.keep{K:NM}{H H':Hp}{a:U9}{xs:List V}(s:kJ H a H')(h:aV K H a xs):aV K H' a xs:=by
 rcases h with(h | ⟨o,h⟩) | h
 ·exact .inl (.inl (s _ h))
 ·exact .inl (.inr ⟨o,s _ h⟩)
 ·exact .inr h
theorem bx.keep{K:NM}{H H':Hp}{a:U9}{xs:List V}(s:kJ H a H')(h:bx K H a xs):bx K H' a xs:=by
 rcases h with(h | ⟨o,h⟩) | h
 ·exact .inl (.inl (s _ h))
 ·exact .inl (.inr ⟨o,s _ h⟩)
 ·exact .inr h
theorem cE.list{K:NM}{H:Hp}{a:U9}{vs:List V}(h:aV K H a vs):cE (ki K a) (kJ H a) vs:=
 ⟨λi H' s hi=>⟨vs,vs[i],h.keep s,by simp [hi]⟩,λi H' x H'' s _ y=>⟨y.1,y.2 vs (h.keep s)⟩,λi H' s hi=>⟨vs,h.keep s,hi⟩⟩
theorem cE.tup{K:NM}{H:Hp}{a:U9}{vs:List V}(h:bx K H a vs):cE (mj K a) (kJ H a) vs:=
 ⟨λi H' s hi=>⟨vs,vs[i],h.keep s,by simp [hi]⟩,λi H' x H'' s _ y=>⟨y.1,y.2 vs (h.keep s)⟩,λi H' s hi=>⟨vs,h.keep s,hi⟩⟩
def iC(lo:Int)(n:Nat):List U7:=(OU n).map λ(k:Nat)=>.int (lo+k)
theorem cE.rng{lo:Int}{n:Nat}:cE (gT lo n) (λ_=>True) ((OU n).map λ(k:Nat)=>V.int (lo+k)):=by
 refine⟨λi H' s hi=>(by simpa using hi:i < n),λi H' x H'' s hi y=>⟨y.1,?_⟩,λi H' s hi=>(by simpa using hi:n<=i)⟩;obtain⟨_,rfl⟩:=y;have hn:i < n:=by simpa using hi
 simp [hn]
theorem ak.rng{K:NM}{H:Hp}{O:Ex}{lo:Int}:∀(l:List Nat),ak K H O (l.map λ(k:Nat)=>V.int (lo+k)) (l.map λ(k:Nat)=>NQ (lo+k))
 | []=>.nil
 | n::r=>.cons (.int _) (ak.rng r)
abbrev DG:=U7->Dl->(Dl->Prop)->Prop
def GD(K:NM)(g:TG)(dg:DG):Prop:=∀(H0:Hp)(O0:Ex)(H:Hp)(O:Ex)(σ:St)(δ:Dl)(v:V)(x:U7)(R:St->Hp->Prop)(Qd:Dl->Prop),Wd K H0 O0 H O σ δ->Dt K H O v x->dg x δ Qd->(∀δ' σ',Qd δ'->Wd K H0 O0 H O σ' δ'->R σ' H)->g v σ H R
def jf(i:Nat):DG:=λx δ Q=>Q (δ.set i (some (.v x)))
theorem aW{K:NM}{i:Nat}:GD K (gf i) (jf i):=λH0 O0 H O σ δ v x R Qd w r q k=>k _ _ q (w.set r)
abbrev jL:=List U7->Dl->(Dl->Prop)->Prop
def qM(K:NM)(g:gS)(dg:jL):Prop:=∀(H0:Hp)(O0:Ex)(H:Hp)(O:Ex)(σ:St)(δ:Dl)(vs:List V)(xs:List U7)(R:St->Hp->Prop)(Qd:Dl->Prop),Wd K H0 O0 H O σ δ->ak K H O vs xs->dg xs δ Qd->(∀δ' σ',Qd δ'->Wd K H0 O0 H O σ' δ'->R σ' H)->g vs σ H R
def mQ:jL:=λxs δ Q=>xs=[]/\Q δ
def mR(t:DG)(u:jL):jL:=λxs δ Q=>∃x r,xs=x::r/\t x δ λδ'=>u r δ' Q
theorem jg{K:NM}:qM K mf mQ:=λH0 O0 H O σ δ vs xs R Qd w r uu3 k=>by obtain⟨e,q⟩:=uu3;subst e;cases r;exact⟨rfl,k _ _ q w⟩
theorem d7{K:NM}{t:TG}{u:gS}{dt:DG}{du:jL}(h:GD K t dt)(h2:qM K u du):qM K (ke t u) (mR dt du):=λH0 O0 H O σ δ vs xs R Qd w r uu4 k=>by
 obtain⟨x,rr,e,q⟩:=uu4;subst e;cases r with
 | cons r1 r2=>exact⟨_,_,rfl,h H0 O0 H O σ δ _ _ _ _ w r1 q λδ' σ' q' w'=>h2 H0 O0 H O σ' δ' _ _ R Qd w' r2 q' k⟩
def mS(n:Nat)(t:jL):DG:=λx δ Q=>∃xs,x= .tuple xs/\xs.length=n/\t xs δ Q
theorem jh{K:NM}{n:Nat}{t:gS}{dt:jL}(h:qM K t dt):GD K (mh K n t) (mS n dt):=λH0 O0 H O σ δ v x R Qd w r uu5 k=>by
 obtain⟨xs,e,hl,q⟩:=uu5;subst e;obtain⟨a,vs,rfl,hs,rr⟩:=(Sh.dt r).tup;exact⟨a,vs,rfl,hs,by rw [rr.length];exact hl,h H0 O0 H O σ δ _ _ R Qd w rr q k⟩
section
variable {X:Cx} {H0:Hp} {O0:Ex}
def mT(t:DT)(g:DG):DS:=λE δ=>t δ λd=>g d δ E.nx
theorem vE{tg e:Vd}{t:DT}{g:TG}{dg:DG}{pos:Pos}(he:DE X H0 O0 e t)(hg:PG X tg g)(gd:GD X.K g dg)(hs:Wa [tg] e pos.line X.env=pure false:=by rfl)(hw:Wb [tg] e X.env=pure none:=by rfl)
 (h1:(V3 [tg] X.env).map (·.2)=[assign tg X.env]:=by rfl):PS X (.Assign [tg] e pos) (bA X.K H0 O0 (mT t dg)):=
 (qm he hg hs hw h1).imp λD σ H uu6=>by obtain⟨O,δ,E,w,q,k1,k2,k3,k4⟩:=uu6;exact⟨O,δ,_,w,q,λd v H1 q1 s1 r1=>gd H0 O0 H1 O σ δ v d _ _ (w.mono s1) r1 q1 λδ' σ' q' w'=>k1 O δ' σ' H1 q' w' (.same s1)⟩
def jM(i j:Nat)(t:DA):DS:=λE δ=>t δ λds=>∃x y,ds=[x,y]/\E.nx ((δ.set i (some (.v x))).set j (some (.v y)))
theorem kK{i j:Nat}{x y:Str}{a b:Vd}{ta:DA}{px py pt pos:Pos}{kt k2 pt2}(hc:X.calm=true)(hN:X.N.Nodup)(hi:X.N[i]?=some x)(hj:X.N[j]?=some y)(hij:i≠j)
 (hx:X.env.scope.names.lookup x=some .local)(hy:X.env.scope.names.lookup y=some .local)(ha:PA X [a,b] (dD X.K H0 O0 ta))
 (hw:Wb [.Tuple [.Name x px,.Name y py] kt pt] (.Tuple [a,b] k2 pt2) X.env=pure (some [x,y]))
 (hs:Wa [.Tuple [.Name x px,.Name y py] kt pt] (.Tuple [a,b] k2 pt2) pos.line X.env=pure false:=by rfl):
 PS X (.Assign [.Tuple [.Name x px,.Name y py] kt pt] (.Tuple [a,b] k2 pt2) pos) (bA X.K H0 O0 (jM i j ta)):=
 (Ad hc hN hi hj hij hx hy ha hw hs).imp λD σ H uu7=>by obtain⟨O,δ,E,w,q,k1,k2,k3,k4⟩:=uu7;exact⟨O,δ,_,w,q,λds vs H1 uu8 s1 r1=>by
  obtain⟨d1,d2,e,q1⟩:=uu8;subst e;cases r1 with
  | cons r1 r2=>
   cases r2 with
   | cons r2 r3=>
    cases r3;exact⟨_,_,rfl,k1 _ _ _ _ q1 (((w.mono s1).set r1).set r2) (.same s1)⟩⟩
def g7(g:DG)(tb:DS)(E:eT):List U7->Dl->Prop
 | [],δ=>E.nx δ
 | x::xs,δ=>g x δ λδ2=>tb {E with nx:=g7 g tb E xs,ct:=g7 g tb E xs,bk:=E.nx} δ2
theorem HZ{K:NM}{J:It}{P:Hp->Prop}{vs:List V}{xs:List U7}{g:TG}{dg:DG}{tb:DS}{D:ig}{E:eT}{σ:St}{H:Hp}{O:Ex}{δ:Dl}(S:cE J P vs)(gd:GD K g dg)
 (hP:∀H' O',aX H H' O O'->P H')(r:ak K H O vs xs)(w:Wd K H0 O0 H O σ δ)(q:g7 dg tb E xs δ)
 (k1:∀O' δ' σ' H',E.nx δ'->Wd K H0 O0 H' O' σ' δ'->aX H H' O O'->D.nx σ' H')(k2:∀d v H',E.rt d->aj H0 H'->Dt K H' O0 v d->D.rt v H'):FR J g (bA K H0 O0 tb) D σ H:=by
 refine⟨λi m σ' H'=>∃O' δ',m=vs.length - i/\i<=vs.length/\Wd K H0 O0 H' O' σ' δ'/\aX H H' O O'/\g7 dg tb E (xs.drop i) δ',⟨vs.length,O,δ,U6,Pe _,w,aX.refl _ _,by simpa using q⟩,?_⟩;rintro i m σ1 H1 ⟨O1,δ1,rfl,hi,w1,S1,q1⟩;by_cases hlt:i < vs.length
 ·refine .inr ⟨S.go i H1 (hP _ _ S1) hlt,λσ' H'=>∃O' δ',Wd K H0 O0 H' O' σ' δ'/\aX H H' O O'/\g7 dg tb E (xs.drop (i+1)) δ',λσ' H' uu9=>by obtain⟨O',δ',w',S',q'⟩:=uu9;exact⟨vs.length - (i+1),U2,O',δ',rfl,hlt,w',S',q'⟩,λx H' y=>?_⟩;have yy:=S.yl i H1 x H' (hP _ _ S1) hlt y;clear y;obtain⟨e,y⟩:=yy;subst e;obtain⟨d,ed,rd⟩:=r.get y;have hd:xs.drop i=d::xs.drop (i+1):=by
   rw [Sm (h:=(N7.mp ed).1),(N7.mp ed).2]
  rw [hd] at q1;refine gd H0 O0 _ O1 σ1 δ1 x d _ _ w1 (rd.step S1) q1 λδ2 σ2 q2 w2=>?_;refine⟨O1,δ2,_,w2,q2,λO' δ' σ' H' z w' S'=>⟨O',δ',w',S1.trans S',z⟩,k2,λO' δ' σ' H' z w' S'=>k1 O' δ' σ' H' z w' (S1.trans S'),λO' δ' σ' H' z w' S'=>⟨O',δ',w',S1.trans S',z⟩⟩
 ·have e:i=vs.length:=U2
  subst e;refine .inl ⟨S.st _ H1 (hP _ _ S1) (NV _),?_⟩;rw [r.length,SW (NV _)] at q1;exact k1 O1 δ1 σ1 H1 q1 w1 S1
def kL(g:DG)(tb:DS)(E:eT)(xs:List U7)(δ:Dl):Prop:=∃I:Nat->Dl->Prop,I 0 δ/\(∀i x δ,xs[i]?=some x->I i δ->g x δ λδ2=>tb {E with nx:=I (i+1),ct:=I (i+1),bk:=E.nx} δ2)/\∀δ,I xs.length δ->E.nx δ
theorem kM{K:NM}{J:It}{P:Hp->Prop}{vs:List V}{xs:List U7}{g:TG}{dg:DG}{tb:DS}{D:ig}{E:eT}{σ:St}{H:Hp}{O:Ex}{δ:Dl}(S:cE J P vs)(gd:GD K g dg)
 (hP:∀H' O',aX H H' O O'->P H')(r:ak K H O vs xs)(w:Wd K H0 O0 H O σ δ)(q:kL dg tb E xs δ)
 (k1:∀O' δ' σ' H',E.nx δ'->Wd K H0 O0 H' O' σ' δ'->aX H H' O O'->D.nx σ' H')(k2:∀d v H',E.rt d->aj H0 H'->Dt K H' O0 v d->D.rt v H'):FR J g (bA K H0 O0 tb) D σ H:=by
 obtain⟨Iv,q0,qs,qe⟩:=q;refine⟨λi m σ' H'=>∃O' δ',m=vs.length - i/\i<=vs.length/\Wd K H0 O0 H' O' σ' δ'/\aX H H' O O'/\Iv i δ',⟨vs.length,O,δ,U6,Pe _,w,aX.refl _ _,q0⟩,?_⟩;rintro i m σ1 H1 ⟨O1,δ1,rfl,hi,w1,S1,q1⟩;by_cases hlt:i < vs.length
 ·refine .inr ⟨S.go i H1 (hP _ _ S1) hlt,λσ' H'=>∃O' δ',Wd K H0 O0 H' O' σ' δ'/\aX H H' O O'/\Iv (i+1) δ',λσ' H' uu10=>by obtain⟨O',δ',w',S',q'⟩:=uu10;exact⟨vs.length - (i+1),U2,O',δ',rfl,hlt,w',S',q'⟩,λx H' y=>?_⟩;have yy:=S.yl i H1 x H' (hP _ _ S1) hlt y;clear y;obtain⟨e,y⟩:=yy;subst e;obtain⟨d,ed,rd⟩:=r.get y;refine gd H0 O0 _ O1 σ1 δ1 x d _ _ w1 (rd.step S1) (qs i d δ1 ed q1) λδ2 σ2 q2 w2=>?_;refine⟨O1,δ2,_,w2,q2,λO' δ' σ' H' z w' S'=>⟨O',δ',w',S1.trans S',z⟩,k2,λO' δ' σ' H' z w' S'=>k1 O' δ' σ' H' z w' (S1.trans S'),λO' δ' σ' H' z w' S'=>⟨O',δ',w',S1.trans S',z⟩⟩
 ·have e:i=vs.length:=U2
  subst e;refine .inl ⟨S.st _ H1 (hP _ _ S1) (NV _),?_⟩;rw [r.length] at q1;exact k1 O1 δ1 σ1 H1 (qe δ1 q1) w1 S1
def mU(t:DT)(g:DG)(tb:DS):DS:=λE δ=>t δ λd=>∃xs,d= .list xs/\g7 g tb E xs δ
section
variable {tg iter:Vd} {body:List Vn} {t:DT} {ta:DA} {g:TG} {dg:DG} {tb:DS} {pos p ps:Pos}
theorem Ia(hp:VQ (Vg X.prog X.w) X.A X.env X.xe)(hc:X.calm=true)(hi:DE X H0 O0 iter t)(hg:PG X tg g)(gd:GD X.K g dg)(hb:bG X body (bA X.K H0 O0 tb))(hs:∀x,Vp iter X.env x=pure x:=by intro _;rfl):
 PS X (.For tg iter body [] pos) (bA X.K H0 O0 (mU t dg tb)):=
 (jB hp hc (mm hi) hg hb hs).imp λD σ H uu11=>by obtain⟨O,δ,E,w,q,k1,k2,k3,k4⟩:=uu11;exact⟨O,δ,_,w,q,λd v H1 uu12 s1 r1=>by
  obtain⟨xs,e,q1⟩:=uu12;subst e;cases r1 with
  | lst h n r=>
   refine⟨_,rfl,⟨_,.inl h⟩,HZ (cE.list (.inl h)) gd (λH' O' S o e=>S.keep _ _ e n) r (w.mono s1) q1 (λO' δ' σ' H' z w' S=>k1 O' δ' σ' H' z w' (aX.trans (.same s1) S)) k2⟩⟩
end
def mV(t:DT)(g:DG)(tb:DS):DS:=λE δ=>t δ λd=>∃xs,d= .list xs/\kL g tb E xs δ
def mW(t:DT)(g:DG)(tb:DS):DS:=λE δ=>t δ λd=>∃xs,d= .tuple xs/\kL g tb E xs δ
def mX(t:DA)(g:DG)(tb:DS):DS:=λE δ=>t δ λds=>∃j:Int,ds=[.int j]/\-(2 ^ 62)<=j/\j < 2 ^ 62/\kL g tb E (iC 0 j.toNat) δ
def mY(t:DA)(g:DG)(tb:DS):DS:=λE δ=>t δ λds=>∃i j:Int,ds=[.int i,.int j]/\(-(2 ^ 62)<=i/\i < 2 ^ 62/\-(2 ^ 62)<=j/\j < 2 ^ 62)/\kL g tb E (iC i (j - i).toNat) δ
section
variable {tg iter:Vd} {body:List Vn} {t:DT} {ta:DA} {g:TG} {dg:DG} {tb:DS} {pos p ps:Pos}
theorem kN(hp:VQ (Vg X.prog X.w) X.A X.env X.xe)(hc:X.calm=true)(hi:DE X H0 O0 iter t)(hg:PG X tg g)(gd:GD X.K g dg)(hb:bG X body (bA X.K H0 O0 tb))(hs:∀x,Vp iter X.env x=pure x:=by intro _;rfl):
 PS X (.For tg iter body [] pos) (bA X.K H0 O0 (mV t dg tb)):=
 (jB hp hc (mm hi) hg hb hs).imp λD σ H uu13=>by obtain⟨O,δ,E,w,q,k1,k2,k3,k4⟩:=uu13;exact⟨O,δ,_,w,q,λd v H1 uu14 s1 r1=>by
  obtain⟨xs,e,q1⟩:=uu14;subst e;cases r1 with
  | lst h n r=>
   refine⟨_,rfl,⟨_,.inl h⟩,kM (cE.list (.inl h)) gd (λH' O' S o e=>S.keep _ _ e n) r (w.mono s1) q1 (λO' δ' σ' H' z w' S=>k1 O' δ' σ' H' z w' (aX.trans (.same s1) S)) k2⟩⟩
theorem qN(hp:VQ (Vg X.prog X.w) X.A X.env X.xe)(hc:X.calm=true)(hi:DE X H0 O0 iter t)(hg:PG X tg g)(gd:GD X.K g dg)(hb:bG X body (bA X.K H0 O0 tb))(hs:∀x,Vp iter X.env x=pure x:=by intro _;rfl):
 PS X (.For tg iter body [] pos) (bA X.K H0 O0 (mW t dg tb)):=
 (jB hp hc (uL hi) hg hb hs).imp λD σ H uu15=>by obtain⟨O,δ,E,w,q,k1,k2,k3,k4⟩:=uu15;exact⟨O,δ,_,w,q,λd v H1 uu16 s1 r1=>by
  obtain⟨xs,e,q1⟩:=uu16;subst e;cases r1 with
  | tup h n r=>
   refine⟨_,rfl,⟨_,.inl h⟩,kM (cE.tup (.inl h)) gd (λH' O' S o e=>S.keep _ _ e n) r (w.mono s1) q1 (λO' δ' σ' H' z w' S=>k1 O' δ' σ' H' z w' (aX.trans (.same s1) S)) k2⟩
  | tupK h r=>
   refine⟨_,rfl,⟨_,h.of0⟩,kM (P:=λ_=>True) ⟨λi H' _ hi=>⟨_,_,h.of0,by simp [hi];rfl⟩,λi H' x H'' _ _ y=>⟨y.1,y.2 _ h.of0⟩,λi H' _ hi=>⟨_,h.of0,hi⟩⟩ gd (λ_ _ _=>trivial) r (w.mono s1) q1 (λO' δ' σ' H' z w' S=>k1 O' δ' σ' H' z w' (aX.trans (.same s1) S)) k2⟩⟩
theorem Bo(hp:VQ (Vg X.prog X.w) X.A X.env X.xe)(hc:X.calm=true){a:Vd}(hgl:Gl X "range")(hm:X.mg "range"=none)(ha:PA X [a] (dD X.K H0 O0 ta))(hg:PG X tg g)(gd:GD X.K g dg)(hb:bG X body (bA X.K H0 O0 tb))
 (hst:Vc [a] X.env=[(false,eval a X.env)]:=by rfl)(hs:∀x,Vp (.Call (.Name "range" p) [a] [] ps) X.env x=pure x:=by intro _;rfl):
 PS X (.For tg (.Call (.Name "range" p) [a] [] ps) body [] pos) (bA X.K H0 O0 (mX ta dg tb)):=
 (jB hp hc (Ah hgl hm ha hst) hg hb hs).imp λD σ H uu17=>by obtain⟨O,δ,E,w,q,k1,k2,k3,k4⟩:=uu17;exact⟨O,δ,_,w,q,λds vs H1 uu18 s1 r1=>by
  obtain⟨j,e,b1,b2,q1⟩:=uu18;subst e;cases r1 with
  | cons r1 r2=>
   cases r2;cases r1;exact⟨j,rfl,b1,b2,kM cE.rng gd (λ_ _ _=>trivial) (ak.rng _) (w.mono s1) q1 (λO' δ' σ' H' z w' S=>k1 O' δ' σ' H' z w' (aX.trans (.same s1) S)) k2⟩⟩
theorem Ib(hp:VQ (Vg X.prog X.w) X.A X.env X.xe)(hc:X.calm=true){a b:Vd}(hgl:Gl X "range")(hm:X.mg "range"=none)(ha:PA X [a,b] (dD X.K H0 O0 ta))(hg:PG X tg g)(gd:GD X.K g dg)(hb:bG X body (bA X.K H0 O0 tb))
 (hst:Vc [a,b] X.env=[(false,eval a X.env),(false,eval b X.env)]:=by rfl)(hst2:Vc [b] X.env=[(false,eval b X.env)]:=by rfl)(hs:∀x,Vp (.Call (.Name "range" p) [a,b] [] ps) X.env x=pure x:=by intro _;rfl):
 PS X (.For tg (.Call (.Name "range" p) [a,b] [] ps) body [] pos) (bA X.K H0 O0 (mY ta dg tb)):=
 (jB hp hc (uO hgl hm ha hst hst2) hg hb hs).imp λD σ H uu19=>by obtain⟨O,δ,E,w,q,k1,k2,k3,k4⟩:=uu19;exact⟨O,δ,_,w,q,λds vs H1 uu20 s1 r1=>by
  obtain⟨i,j,e,b1,q1⟩:=uu20;subst e;cases r1 with
  | cons r1 r2=>
   cases r2 with
   | cons r2 r3=>
    cases r3;cases r1;cases r2;exact⟨i,j,rfl,b1,kM cE.rng gd (λ_ _ _=>trivial) (ak.rng _) (w.mono s1) q1 (λO' δ' σ' H' z w' S=>k1 O' δ' σ' H' z w' (aX.trans (.same s1) S)) k2⟩⟩
end
def eJ(k:Nat)(fr:List Nat)(δ:Dl):Dl:=Oa k none++fr.map λj=>(δ[j]?).join
def qO(g:DG)(tc:DB)(te:DT)(δ0:Dl):List U7->List U7->(List U7->Prop)->Prop
 | [],acc,Q=>Q acc
 | x::xs,acc,Q=>g x δ0 λδ2=>tc δ2 λok=>if ok=true then te δ2 λy=>qO g tc te δ0 xs (acc++[y]) Q else qO g tc te δ0 xs acc Q
theorem Wd.comp{K:NM}{H:Hp}{O:Ex}{σ:St}{δ:Dl}(w:Wd K H0 O0 H O σ δ){k:Nat}{fr:List Nat}(hf:fr.Nodup):Wd K H0 O0 H O (bS k fr σ) (eJ k fr δ):=by
 have at1:∀{α:Type}(l:List (Option α))(i:Nat),(Oa k none++fr.map λj=>(l[j]?).join)[i]?=if i < k then some none else(fr[i - k]?).map λj=>(l[j]?).join:=by
  intro α l i;by_cases h:i < k
  ·rw [U4 h,P9 (by simpa using h),QH,U4 h]
  ·rw [U3 h,P4 (by simpa using Su h),Ob];simp
 have un:∀{α:Type}(l:List (Option α))(i:Nat)(x:α),(Oa k none++fr.map λj=>(l[j]?).join)[i]?=some (some x)->∃j,fr[i - k]?=some j/\k<=i/\l[j]?=some (some x):=by
  intro α l i x h;rw [at1] at h;split at h
  ·cases h
  ·cases e:fr[i - k]? with
   | none=>rw [e] at h;cases h
   | some j=>
    rw [e] at h;refine⟨j,rfl,U2,?_⟩;have h':(l[j]?).join=some x:=OG h;cases q:l[j]? with
    | none=>rw [q] at h';cases h'
    | some o=>rw [q] at h';rw [show o=some x from h']
 refine⟨w.same,w.sub,w.new,w.trk,by simp [bS,eJ],λi y e=>?_,λi j y z l e1 y1 e2 z2 e3 e4=>?_⟩
 ·match y,e with
  | none,_=>exact O8
  | some x,e=>
   obtain⟨j,hj,hk,ej⟩:=un δ i x e;have q:=w.sl j _ ej;have e2:((bS k fr σ)[i]?).join=(σ[j]?).join:=by
    unfold bS;rw [at1,U3 U2,hj];rfl
   rw [e2];exact q
 ·obtain⟨a,ha,ka,ea⟩:=un δ i _ e1;obtain⟨b,hb,kb,eb⟩:=un δ j _ e2;obtain⟨a',ha',_,ea'⟩:=un σ i _ e3;obtain⟨b',hb',_,eb'⟩:=un σ j _ e4;rw [ha] at ha';cases ha';rw [hb] at hb';cases hb';have:=w.dis a b y z l ea y1 eb z2 ea' eb';subst this;have e5:=(T2 (l:=fr) (i:=i - k) (j:=j - k) (N7.mp ha).1 hf).mp (by rw [ha,hb]);omega
theorem NJ{K:NM}{J:It}{P:Hp->Prop}{vs:List V}{xs:List U7}{g:TG}{dg:DG}{tc:TT}{dc:DB}{te:TE}{de:DT}{k:Nat}{fr:List Nat}{σ:St}{H:Hp}{O:Ex}{δ:Dl}{Qd:List U7->Prop}{Q:VK}(S:cE J P vs)(gd:GD K g dg)(hf:fr.Nodup)
 (hk:∀v:V,∀σ':St,∀H':Hp,∀R:St->Hp->Prop,g v (bS k fr σ) H' R->g v (bS k fr σ) H' λσ2 H2=>jF (bS k fr σ) σ2/\R σ2 H2)
 (hc:∀σ H Q,bY K H0 O0 dc σ H Q->tc σ H Q)(he:∀σ H Q,up K H0 O0 de σ H Q->te σ H Q)
 (hP:∀D H',H D=none->ku D H H'->P H')(r:ak K H O vs xs)(w:Wd K H0 O0 H O σ δ)(hz:vs.length<=Ve)(q:qO dg dc de (eJ k fr δ) xs [] Qd)
 (k1:∀ds us p H',Qd ds->aj H H'->H' p=none->ak K H' O us ds->Q (.ref p) (ao H' p (.lst us))):jG J g tc te k fr σ H Q:=by
 intro D hD;have w0:Wd K H0 O0 H O (bS k fr σ) (eJ k fr δ):=w.comp hf;have nD:¬O D:=λz=>w.trk D z hD;have D0:H0 D=none:=by
  cases e:H0 D with
  | none=>rfl
  | some o=>rw [w.same _ _ e] at hD;cases hD
 have ex:∀H',ku D H H'->H' D≠none->Wd K H0 O0 H' (λa=>O a\/a=D) (bS k fr σ) (eJ k fr δ):=λH' s' hd=>by
  have S':aX H H' O (λa=>O a\/a=D):=⟨λb o e _=>s' b o e (cL e hD),λb hb hn z=>z.elim hn λq=>hb (by rw [q];exact hD)⟩;refine⟨λb o e=>s' b o (w.same b o e) (λz=>by rw [z,D0] at e;cases e),λl z=>.inl (w.sub l z),λl z=>z.elim (w.new l) λq=>.inr (by rw [q];exact D0),λl z=>?_,w0.len,λj y e=>?_,w0.dis⟩
  ·by_cases ql:l=D
   ·rw [ql];exact hd
   ·have hl:=w.trk l (z.resolve_right ql);cases e:H l with
    | none=>exact absurd e hl
    | some o=>rw [s' l o e ql];exact λz=>nomatch z
  ·exact(w0.sl j y e).go S' (λl o _ _ a1 _ a3=>⟨.inl a1,s' _ _ a3 (λz=>nD (by rw [<-z];exact a1))⟩) (λa o u a1 _ a3=>⟨.inl a1,s' _ _ a3 (λz=>nD (by rw [<-z];exact a1))⟩) λa o a1 a3=>s' _ _ a3 (λz=>nD (by rw [<-z];exact w.sub _ a1))
 refine⟨λi m H'=>∃acc ys,m=vs.length - i/\i<=vs.length/\ku D H H'/\H' D=some (.lst ys)/\ys.length<=i/\ak K H' (λa=>O a\/a=D) ys acc/\qO dg dc de (eJ k fr δ) (xs.drop i) acc Qd,⟨vs.length,[],[],U6,Pe _,λb o e n=>by rw [aA n];exact e,aR,Pe _,.nil,by simpa using q⟩,?_⟩;rintro i m H1 ⟨acc,ys,rfl,hi,s1,e1,hy,ra,q1⟩;by_cases hlt:i < vs.length
 ·refine .inr ⟨S.go i H1 (hP D H1 hD s1) hlt,λx H' y=>?_⟩;have yy:=S.yl i H1 x H' (hP D H1 hD s1) hlt y;clear y;obtain⟨e,y⟩:=yy;subst e;obtain⟨d,ed,rd⟩:=r.get y;have hd:xs.drop i=d::xs.drop (i+1):=by
   rw [Sm (h:=(N7.mp ed).1),(N7.mp ed).2]
  rw [hd] at q1;have w1:=ex _ s1 (by rw [e1];exact λz=>nomatch z);have S':aX H H' O (λa=>O a\/a=D):=⟨λb o e _=>s1 b o e (cL e hD),λb hb hn z=>z.elim hn λq=>hb (by rw [q];exact hD)⟩;refine hk x σ _ _ (gd H0 O0 _ _ _ _ x d _ _ w1 (rd.step S') q1 λδ2 σ2 q2 w2=>?_);refine hc σ2 _ _ ⟨_,δ2,_,w2,q2,λok H3 q3 s3=>?_⟩;cases ok with
  | true=>
   rw [U4 rfl];refine he σ2 H3 _ ⟨_,δ2,_,w2.mono s3,q3,λd' v H4 q4 s4 r4=>?_⟩;have e4:=s4 _ _ (s3 _ _ e1);have sD:aX H4 (ao H4 D (.lst (ys++[v]))) (λa=>O a\/a=D) (λa=>O a\/a=D):=⟨λb o e n=>by rw [aA (λz=>n (.inr z))];exact e,λ_ _ n=>n⟩;refine⟨ys,e4,U2,vs.length - (i+1),U2,acc++[d'],ys++[v],rfl,hlt,λb o e n=>by rw [aA n];exact s4 _ _ (s3 _ _ (s1 b o e n)),aR,by simpa using hy,?_,q4⟩;exact((ra.mono (s3.trans s4)).append (.cons r4 .nil)).step sD
  | false=>
   rw [U3 U1];exact⟨vs.length - (i+1),U2,acc,ys,rfl,hlt,λb o e n=>s3 _ _ (s1 b o e n),s3 _ _ e1,U2,ra.mono s3,q3⟩
 ·have e:i=vs.length:=U2
  subst e;refine .inl ⟨S.st _ H1 (hP D H1 hD s1) (NV _),?_⟩;rw [r.length,SW (NV _)] at q1;have hrest:∃H2:Hp,H2 D=none/\aj H H2/\H1=ao H2 D (.lst ys):=by
   refine⟨λb=>if b=D then none else H1 b,U6,λb o e=>?_,?_⟩
   ·have n:=cL e hD;show(if b=D then none else H1 b)=some o;rw [U3 n];exact s1 b o e n
   ·funext b;by_cases z:b=D
    ·rw [z,aR];exact e1
    ·rw [aA z];show H1 b=if b=D then none else H1 b;rw [U3 z]
  obtain⟨H2,h2,s2,rfl⟩:=hrest;refine k1 acc ys D H2 q1 s2 h2 (ra.step ⟨λb o e n=>?_,λb _ n z=>n (.inl z)⟩);rw [aA (λz=>n (.inr z))] at e;exact e
def fD(g:DG)(tc:DB)(te:DT)(δ0:Dl)(xs:List U7)(Q:List U7->Prop):Prop:=∃I:Nat->List U7->Prop,I 0 []/\(∀i x acc,xs[i]?=some x->I i acc->g x δ0 λδ2=>tc δ2 λok=>if ok=true then te δ2 λy=>I (i+1) (acc++[y]) else I (i+1) acc)/\∀acc,I xs.length acc->Q acc
theorem kO{K:NM}{J:It}{P:Hp->Prop}{vs:List V}{xs:List U7}{g:TG}{dg:DG}{tc:TT}{dc:DB}{te:TE}{de:DT}{k:Nat}{fr:List Nat}{σ:St}{H:Hp}{O:Ex}{δ:Dl}{Qd:List U7->Prop}{Q:VK}(S:cE J P vs)(gd:GD K g dg)(hf:fr.Nodup)
 (hk:∀v:V,∀σ':St,∀H':Hp,∀R:St->Hp->Prop,g v (bS k fr σ) H' R->g v (bS k fr σ) H' λσ2 H2=>jF (bS k fr σ) σ2/\R σ2 H2)
 (hc:∀σ H Q,bY K H0 O0 dc σ H Q->tc σ H Q)(he:∀σ H Q,up K H0 O0 de σ H Q->te σ H Q)
 (hP:∀D H',H D=none->ku D H H'->P H')(r:ak K H O vs xs)(w:Wd K H0 O0 H O σ δ)(hz:vs.length<=Ve)(q:fD dg dc de (eJ k fr δ) xs Qd)
 (k1:∀ds us p H',Qd ds->aj H H'->H' p=none->ak K H' O us ds->Q (.ref p) (ao H' p (.lst us))):jG J g tc te k fr σ H Q:=by
 obtain⟨Iv,q0,qs,qe⟩:=q;intro D hD;have w0:Wd K H0 O0 H O (bS k fr σ) (eJ k fr δ):=w.comp hf;have nD:¬O D:=λz=>w.trk D z hD;have D0:H0 D=none:=by
  cases e:H0 D with
  | none=>rfl
  | some o=>rw [w.same _ _ e] at hD;cases hD
 have ex:∀H',ku D H H'->H' D≠none->Wd K H0 O0 H' (λa=>O a\/a=D) (bS k fr σ) (eJ k fr δ):=λH' s' hd=>by
  have S':aX H H' O (λa=>O a\/a=D):=⟨λb o e _=>s' b o e (cL e hD),λb hb hn z=>z.elim hn λq=>hb (by rw [q];exact hD)⟩;refine⟨λb o e=>s' b o (w.same b o e) (λz=>by rw [z,D0] at e;cases e),λl z=>.inl (w.sub l z),λl z=>z.elim (w.new l) λq=>.inr (by rw [q];exact D0),λl z=>?_,w0.len,λj y e=>?_,w0.dis⟩
  ·by_cases ql:l=D
   ·rw [ql];exact hd
   ·have hl:=w.trk l (z.resolve_right ql);cases e:H l with
    | none=>exact absurd e hl
    | some o=>rw [s' l o e ql];exact λz=>nomatch z
  ·exact(w0.sl j y e).go S' (λl o _ _ a1 _ a3=>⟨.inl a1,s' _ _ a3 (λz=>nD (by rw [<-z];exact a1))⟩) (λa o u a1 _ a3=>⟨.inl a1,s' _ _ a3 (λz=>nD (by rw [<-z];exact a1))⟩) λa o a1 a3=>s' _ _ a3 (λz=>nD (by rw [<-z];exact w.sub _ a1))
 refine⟨λi m H'=>∃acc ys,m=vs.length - i/\i<=vs.length/\ku D H H'/\H' D=some (.lst ys)/\ys.length<=i/\ak K H' (λa=>O a\/a=D) ys acc/\Iv i acc,⟨vs.length,[],[],U6,Pe _,λb o e n=>by rw [aA n];exact e,aR,Pe _,.nil,q0⟩,?_⟩;rintro i m H1 ⟨acc,ys,rfl,hi,s1,e1,hy,ra,q1⟩;by_cases hlt:i < vs.length
 ·refine .inr ⟨S.go i H1 (hP D H1 hD s1) hlt,λx H' y=>?_⟩;have yy:=S.yl i H1 x H' (hP D H1 hD s1) hlt y;clear y;obtain⟨e,y⟩:=yy;subst e;obtain⟨d,ed,rd⟩:=r.get y;have w1:=ex _ s1 (by rw [e1];exact λz=>nomatch z);have S':aX H H' O (λa=>O a\/a=D):=⟨λb o e _=>s1 b o e (cL e hD),λb hb hn z=>z.elim hn λq=>hb (by rw [q];exact hD)⟩;refine hk x σ _ _ (gd H0 O0 _ _ _ _ x d _ _ w1 (rd.step S') (qs i d acc ed q1) λδ2 σ2 q2 w2=>?_);refine hc σ2 _ _ ⟨_,δ2,_,w2,q2,λok H3 q3 s3=>?_⟩;cases ok with
  | true=>
   rw [U4 rfl];refine he σ2 H3 _ ⟨_,δ2,_,w2.mono s3,q3,λd' v H4 q4 s4 r4=>?_⟩;have e4:=s4 _ _ (s3 _ _ e1);have sD:aX H4 (ao H4 D (.lst (ys++[v]))) (λa=>O a\/a=D) (λa=>O a\/a=D):=⟨λb o e n=>by rw [aA (λz=>n (.inr z))];exact e,λ_ _ n=>n⟩;refine⟨ys,e4,U2,vs.length - (i+1),U2,acc++[d'],ys++[v],rfl,hlt,λb o e n=>by rw [aA n];exact s4 _ _ (s3 _ _ (s1 b o e n)),aR,by simpa using hy,?_,q4⟩;exact((ra.mono (s3.trans s4)).append (.cons r4 .nil)).step sD
  | false=>
   rw [U3 U1];exact⟨vs.length - (i+1),U2,acc,ys,rfl,hlt,λb o e n=>s3 _ _ (s1 b o e n),s3 _ _ e1,U2,ra.mono s3,q3⟩
 ·have e:i=vs.length:=U2
  subst e;refine .inl ⟨S.st _ H1 (hP D H1 hD s1) (NV _),?_⟩;rw [r.length] at q1;have hrest:∃H2:Hp,H2 D=none/\aj H H2/\H1=ao H2 D (.lst ys):=by
   refine⟨λb=>if b=D then none else H1 b,U6,λb o e=>?_,?_⟩
   ·have n:=cL e hD;show(if b=D then none else H1 b)=some o;rw [U3 n];exact s1 b o e n
   ·funext b;by_cases z:b=D
    ·rw [z,aR];exact e1
    ·rw [aA z];show H1 b=if b=D then none else H1 b;rw [U3 z]
  obtain⟨H2,h2,s2,rfl⟩:=hrest;refine k1 acc ys D H2 (qe acc q1) s2 h2 (ra.step ⟨λb o e n=>?_,λb _ n z=>n (.inl z)⟩);rw [aA (λz=>n (.inr z))] at e;exact e
def iD:DB:=λ_ Q=>Q true
def iE(g:TG)(k:Nat):Prop:=∀(fr:List Nat)(σ:St)(v:V)(H':Hp)(R:St->Hp->Prop),g v (bS k fr σ) H' R->g v (bS k fr σ) H' λσ2 H2=>jF (bS k fr σ) σ2/\R σ2 H2
theorem cz:iE (gf 0) 1:=λfr σ v H' R h=>⟨A9,h⟩
def jN(t:DT)(g:DG)(tc:DB)(te:DT)(k:Nat)(fr:List Nat):DA:=λδ Q=>t δ λd=>∃xs,d= .list xs/\xs.length<=Ve/\fD g tc te (eJ k fr δ) xs Q
def jO(t:DT)(g:DG)(tc:DB)(te:DT)(k:Nat)(fr:List Nat):DA:=λδ Q=>t δ λd=>∃xs,d= .tuple xs/\xs.length<=Ve/\fD g tc te (eJ k fr δ) xs Q
def mZ(ta:DA)(g:DG)(tc:DB)(te:DT)(k:Nat)(fr:List Nat):DA:=λδ Q=>ta δ λds=>∃j:Int,ds=[.int j]/\-(2 ^ 62)<=j/\j < Ve/\fD g tc te (eJ k fr δ) (iC 0 j.toNat) Q
section
variable {tg iter elt:Vd} {ifs:List Vd} {scope:Vv} {N':List Str} {k:Nat} {fr:List Nat} {g:TG} {dg:DG} {t:DT} {ta:DA} {tc:DB} {te:DT} {pos p ps:Pos}
theorem fP(hc:X.calm=true)(S:bj X.env.scope X.N N' k fr scope)(hi:DF X H0 O0 iter t)(gd:GD X.K g dg)(hk:iE g k)(hfr:fr.Nodup)
 (hg:∀fp C s H,PG (bR X scope N' fp C s H) tg g)(hf:∀fp C s H,fk (bR X scope N' fp C s H) ifs (bY X.K H0 O0 tc))(he:∀fp C s H,PE (bR X scope N' fp C s H) elt (up X.K H0 O0 te))
 (hs:∀x,Vp iter X.env x=pure x:=by intro _;rfl):FE X H0 O0 (.ListComp elt [⟨tg,iter,ifs,0⟩] scope pos) (jN t dg tc te k fr):=
 (mB hc S (mm hi) hg hf he hs).imp λσ H Q uu21=>by obtain⟨O,δ,Qd,w,q,kk⟩:=uu21;exact⟨O,δ,_,w,q,λd v H1 uu22 s1 r1=>by
  obtain⟨xs,e,hz,q1⟩:=uu22;subst e;obtain⟨a,vs,rfl,hq,rr⟩:=r1.lst;refine⟨a,rfl,⟨_,hq⟩,λD hD=>kO (cE.list hq) gd hfr (λv _ H' R h=>hk fr σ v H' R h) (λ_ _ _ z=>z) (λ_ _ _ z=>z) (λD H' hD s' o e=>s' _ _ e (cL e hD)) rr (w.mono s1) (by rw [rr.length];exact hz) q1 (λds us p H' z s' hp r'=>kk ds us p H' z (s1.trans s') hp r') D hD⟩⟩
theorem kP(hc:X.calm=true)(S:bj X.env.scope X.N N' k fr scope)(hi:DF X H0 O0 iter t)(gd:GD X.K g dg)(hk:iE g k)(hfr:fr.Nodup)
 (hg:∀fp C s H,PG (bR X scope N' fp C s H) tg g)(hf:∀fp C s H,fk (bR X scope N' fp C s H) ifs (bY X.K H0 O0 tc))(he:∀fp C s H,PE (bR X scope N' fp C s H) elt (up X.K H0 O0 te))
 (hs:∀x,Vp iter X.env x=pure x:=by intro _;rfl):FE X H0 O0 (.ListComp elt [⟨tg,iter,ifs,0⟩] scope pos) (jO t dg tc te k fr):=
 (mB hc S (uL hi) hg hf he hs).imp λσ H Q uu23=>by obtain⟨O,δ,Qd,w,q,kk⟩:=uu23;exact⟨O,δ,_,w,q,λd v H1 uu24 s1 r1=>by
  obtain⟨xs,e,hz,q1⟩:=uu24;subst e;obtain⟨a,vs,rfl,hq,rr⟩:=r1.tup;refine⟨a,rfl,⟨_,hq⟩,λD hD=>kO (cE.tup hq) gd hfr (λv _ H' R h=>hk fr σ v H' R h) (λ_ _ _ z=>z) (λ_ _ _ z=>z) (λD H' hD s' o e=>s' _ _ e (cL e hD)) rr (w.mono s1) (by rw [rr.length];exact hz) q1 (λds us p H' z s' hp r'=>kk ds us p H' z (s1.trans s') hp r') D hD⟩⟩
theorem vF(hc:X.calm=true){a:Vd}(S:bj X.env.scope X.N N' k fr scope)(hgl:Gl X "range")(hm:X.mg "range"=none)(ha:PA X [a] (fC X.K H0 O0 ta))(gd:GD X.K g dg)(hk:iE g k)(hfr:fr.Nodup)
 (hg:∀fp C s H,PG (bR X scope N' fp C s H) tg g)(hf:∀fp C s H,fk (bR X scope N' fp C s H) ifs (bY X.K H0 O0 tc))(he:∀fp C s H,PE (bR X scope N' fp C s H) elt (up X.K H0 O0 te))
 (hst:Vc [a] X.env=[(false,eval a X.env)]:=by rfl)(hs:∀x,Vp (.Call (.Name "range" p) [a] [] ps) X.env x=pure x:=by intro _;rfl):
 FE X H0 O0 (.ListComp elt [⟨tg,(.Call (.Name "range" p) [a] [] ps),ifs,0⟩] scope pos) (mZ ta dg tc te k fr):=
 (mB hc S (Ah hgl hm ha hst) hg hf he hs).imp λσ H Q uu25=>by obtain⟨O,δ,Qd,w,q,kk⟩:=uu25;exact⟨O,δ,_,w,q,λds vs H1 uu26 s1 r1=>by
  obtain⟨j,e,b1,b2,q1⟩:=uu26;subst e;cases r1 with
  | cons r1 r2=>
   cases r2;cases r1.int;have hb:(Ve:Int) < 2 ^ 62:=U1
   exact⟨j,rfl,b1,U2,λD hD=>kO (P:=λ_=>True) cE.rng gd hfr (λv _ H' R h=>hk fr σ v H' R h) (λ_ _ _ z=>z) (λ_ _ _ z=>z) (λ_ _ _ _=>trivial) (ak.rng _) (w.mono s1) (by rw [NO,Rv];omega) q1 (λds us p H' z s' hp r'=>kk ds us p H' z (s1.trans s') hp r') D hD⟩⟩
end
end
section
variable {K:NM}
def dI(g:Int->Int->U7):U7->U7->(U7->Prop)->Prop:=λx y Q=>∃i j,x= .int i/\y= .int j/\Q (g i j)
def ng(C:Int->Int->Prop)(g:Int->Int->U7):U7->U7->(U7->Prop)->Prop:=λx y Q=>∃i j,x= .int i/\y= .int j/\C i j/\Q (g i j)
theorem bL{g:Int->Int->Int}:cx K (fM λi j=>.int (g i j)) (dI λi j=>.int (g i j)):=λH O x y dx dy Qd R _ hx hy uu27 k=>by
 obtain⟨i,j,e1,e2,q⟩:=uu27;subst e1 e2;cases hx.int;cases hy.int;exact⟨i,j,rfl,rfl,k _ _ H q (aj.refl _) (.int _)⟩
theorem dF{g:Int->Int->Bool}:cx K (fM λi j=>.bl (g i j)) (dI λi j=>.bool (g i j)):=λH O x y dx dy Qd R _ hx hy uu28 k=>by
 obtain⟨i,j,e1,e2,q⟩:=uu28;subst e1 e2;cases hx.int;cases hy.int;exact⟨i,j,rfl,rfl,k _ _ H q (aj.refl _) (.bl _)⟩
theorem cQ{C:Int->Int->Prop}{g:Int->Int->Int}:cx K (rI C λi j=>.int (g i j)) (ng C λi j=>.int (g i j)):=λH O x y dx dy Qd R _ hx hy uu29 k=>by
 obtain⟨i,j,e1,e2,c,q⟩:=uu29;subst e1 e2;cases hx.int;cases hy.int;exact⟨i,j,rfl,rfl,c,k _ _ H q (aj.refl _) (.int _)⟩
def Bp(K:NM):R2:=λx y H Q=>∃O dx dy,Sh K H O x dx/\Sh K H O y dy/\dB dx/\dB dy/\Q (.bl (N4 dx dy)) H
def Bq(K:NM):R2:=λx y H Q=>∃O dx dy,Sh K H O x dx/\Sh K H O y dy/\dB dx/\dB dy/\Q (.bl (!N4 dx dy)) H
theorem cn{X:Cx}(hu:X.A.units+64 < Vx):bT X (Vs .Eq) (Bp X.K):=by
 intro Wy s σ H x y v u Q I rx ry h;obtain⟨O,dx,dy,hx,hy,sx,sy,q⟩:=h;obtain⟨as,ra⟩:=gE I hx.all (O9 sx) rx;obtain⟨bs,rb⟩:=gE I hy.all (O9 sy) ry;exact SeqAt.compareEq_shaped ra rb sx sy hu (bN I q rfl)
theorem kQ{X:Cx}(hu:X.A.units+64 < Vx):bT X (Vs .NotEq) (Bq X.K):=by
 intro Wy s σ H x y v u Q I rx ry h;obtain⟨O,dx,dy,hx,hy,sx,sy,q⟩:=h;obtain⟨as,ra⟩:=gE I hx.all (O9 sx) rx;obtain⟨bs,rb⟩:=gE I hy.all (O9 sy) ry;exact SeqAt.compareNe_shaped ra rb sx sy hu (bN I q rfl)
def kT:U7->U7->(U7->Prop)->Prop:=λx y Q=>dB x/\dB y/\Q (.bool (N4 x y))
def nh:U7->U7->(U7->Prop)->Prop:=λx y Q=>dB x/\dB y/\Q (.bool (!N4 x y))
theorem cq:cx K (Bp K) kT:=λH O x y dx dy Qd R _ hx hy uu30 k=>by obtain⟨a,b,q⟩:=uu30;exact⟨O,dx,dy,hx,hy,a,b,k _ _ H q (aj.refl _) (.bl _)⟩
theorem kU:cx K (Bq K) nh:=λH O x y dx dy Qd R _ hx hy uu31 k=>by obtain⟨a,b,q⟩:=uu31;exact⟨O,dx,dy,hx,hy,a,b,k _ _ H q (aj.refl _) (.bl _)⟩
def nj:U7->U7->(U7->Prop)->Prop:=λx y Q=>∃ds i d,x= .list ds/\y= .int i/\atI ds i=some d/\Q d
def iF:U7->U7->(U7->Prop)->Prop:=λx y Q=>∃ds i d,x= .tuple ds/\y= .int i/\atI ds i=some d/\Q d
theorem ak.atI{H:Hp}{O:Ex}{vs:List V}{ds:List U7}{i:Int}{d:U7}(r:ak K H O vs ds)(e:L2.atI ds i=some d):∃v,L2.atI vs i=some v/\Dt K H O v d:=by
 unfold L2.atI at e⊢;rw [r.length];cases q:gu ds.length i with
 | none=>rw [q] at e;cases e
 | some j=>rw [q] at e;exact r.getD e
theorem bZ:cx K (qC K) nj:=λH O x y dx dy Qd R _ hx hy uu32 k=>by
 obtain⟨ds,i,d,e1,e2,e3,q⟩:=uu32;subst e1 e2;obtain⟨a,vs,rfl,hs,r⟩:=hx.lst;cases hy.int;obtain⟨v,hv,rv⟩:=r.atI e3;exact⟨a,vs,i,v,rfl,rfl,hs,hv,k d v H q (aj.refl _) rv⟩
theorem aD:cx K (qD K) iF:=λH O x y dx dy Qd R _ hx hy uu33 k=>by
 obtain⟨ds,i,d,e1,e2,e3,q⟩:=uu33;subst e1 e2;obtain⟨a,vs,rfl,hs,r⟩:=hx.tup;cases hy.int;obtain⟨v,hv,rv⟩:=r.atI e3;exact⟨a,vs,i,v,rfl,rfl,hs,hv,k d v H q (aj.refl _) rv⟩
end
section
variable {X:Cx} {H0:Hp} {O0:Ex}
def Ic:R2:=λx y H Q=>∃l b xs zs,x= .ref l/\y= .ref b/\Rd H l (.lst xs)/\Rd H b (.lst zs)/\xs.length+zs.length<=Ve/\∀p,H p=none->Q (.ref p) (ao H p (.lst (xs++zs)))
theorem Ie:bT X (VI .Add) Ic:=by
 intro Wy s σ H x y v u Q I rx ry h;obtain⟨l,b,xs,zs,rfl,rfl,hH,hB,hz,q⟩:=h;cases rx;cases ry;obtain⟨z,its,n,r,e⟩:=hH.ok I.hok;obtain⟨z2,its2,n2,r2,e2⟩:=hB.ok I.hok;have l1:=r.length;have l2:=r2.length;refine PySem.P.add_list e e2 ?_ (by rw [N8,N8];omega);have ea:its.toArray++its2.toArray=(its++its2).toArray:=U6
 rw [ea];exact⟨.ref _,_,I.lnew (t':=s.toks) (r.append r2) (by rw [OR];omega),rfl,q _ I.fresh⟩
def nk(ta tb:DT):DA:=λδ Q=>ta δ λx=>tb δ λy=>∃xs ys,x= .list xs/\y= .list ys/\xs.length+ys.length<=Ve/\Q (xs++ys)
theorem Ig{a b:Vd}{ta tb:DT}{pos:Pos}(ha:DF X H0 O0 a ta)(hb:DF X H0 O0 b tb):FE X H0 O0 (.BinOp a .Add b pos) (nk ta tb):=
 (bz Ie ha hb).imp λσ H Q uu34=>by obtain⟨O,δ,Qd,w,q,k⟩:=uu34;exact⟨O,δ,_,w,q,λx v H1 q1 s1 r1=>⟨O,δ,_,w.mono s1,q1,λy u H2 uu35 s2 r2=>by
  obtain⟨xs,ys,e1,e2,hz,q2⟩:=uu35;subst e1 e2;obtain⟨a,vs,rfl,h1,d1⟩:=(r1.mono s2).lstR;obtain⟨b,us,rfl,h2,d2⟩:=r2.lstR;exact⟨a,b,vs,us,rfl,rfl,h1,h2,by rw [d1.length,d2.length];exact hz,λp hp=>k _ _ _ _ q2 (s1.trans s2) hp (d1.append d2)⟩⟩⟩
def nr:U7->U7->(U7->Prop)->Prop:=λx y Q=>∃xs ys,x= .tuple xs/\y= .tuple ys/\xs≠[]/\xs.length+ys.length<=Ve/\Q (.tuple (xs++ys))
theorem Ih{K:NM}:cx K (ve K) nr:=λH O x y dx dy Qd R tr hx hy uu36 k=>by
 obtain⟨xs,ys,e1,e2,hn,hz,q⟩:=uu36;subst e1 e2;have hx0:=hx;obtain⟨a,vs,rfl,h1,d1⟩:=hx.tup;obtain⟨b,us,rfl,h2,d2⟩:=hy.tup;refine⟨a,b,vs,us,rfl,rfl,h1,h2,λz=>?_,by rw [d1.length,d2.length];exact hz,λz=>?_,λ_ p hp=>?_⟩
 ·subst z;cases d1;exact hn rfl
 ·subst z;cases d2;rw [Oi] at q;cases hx0 with
  | dt hx0=>exact k _ _ H q (aj.refl _) hx0
 ·exact k _ _ _ q (aj.new hp) (.tup (.inl aR) (λz=>tr p z hp) ((d1.append d2).mono (aj.new hp)))
def cV(xs:List U7)(lo hi:Option Int):List U7:=(xs.drop (HT.sIx xs.length 0 lo)).take (HT.sIx xs.length xs.length hi - HT.sIx xs.length 0 lo)
theorem ak.cut{K:NM}{H:Hp}{O:Ex}{vs:List V}{ds:List U7}(r:ak K H O vs ds)(lo hi:Option Int):ak K H O (iy vs lo hi) (cV ds lo hi):=by
 unfold iy cV;rw [r.length];exact(r.drop _).take _
abbrev DO:=Dl->(Option Int->Prop)->Prop
inductive gH (K:NM) (H0:Hp) (O0:Ex) (t:DO) (σ:St) (H:Hp) (R:Option Int->Hp->Prop):Prop
 | mk (O:Ex) (δ:Dl) (Qd:Option Int->Prop):Wd K H0 O0 H O σ δ->t δ Qd->(∀d H',Qd d->aj H H'->R d H')->gH K H0 O0 t σ H R
def kW:DO:=λ_ Q=>Q none
def kX(t:DT):DO:=λδ Q=>t δ λd=>∃i,d= .int i/\Q (some i)
theorem PO.imp{X:Cx}{e:Option Vd}{t u:TO}(h:PO X e t)(i:∀σ H Q,u σ H Q->t σ H Q):PO X e u:=λWy s σ H Q I z=>h Wy s σ H Q I (i σ H Q z)
theorem ji:PO X none (gH X.K H0 O0 kW):=GU.imp λσ H Q uu37=>by obtain⟨O,δ,Qd,w,q,k⟩:=uu37;exact k none H q (aj.refl _)
theorem fy{e:Vd}{t:DT}(h:DE X H0 O0 e t):PO X (some e) (gH X.K H0 O0 (kX t)):=(GV h).imp λσ H Q uu38=>by obtain⟨O,δ,Qd,w,q,k⟩:=uu38;exact⟨O,δ,_,w,q,λd v H1 uu39 s1 r1=>by obtain⟨i,e,q1⟩:=uu39;subst e;cases r1;exact⟨i,rfl,k _ H1 q1 s1⟩⟩
def nu(t:DT)(tl th:DO):DA:=λδ Q=>t δ λd=>tl δ λl=>th δ λu=>∃xs,d= .list xs/\Q (cV xs l u)
theorem nv{e:Vd}{lo hi:Option Vd}{t:DT}{tl th:DO}{pos p2:Pos}(h:DF X H0 O0 e t)(hl:PO X lo (gH X.K H0 O0 tl))(hu:PO X hi (gH X.K H0 O0 th)):FE X H0 O0 (.Subscript e (.Slice lo hi none p2) pos) (nu t tl th):=
 (qB AN h hl hu).imp λσ H Q uu40=>by obtain⟨O,δ,Qd,w,q,k⟩:=uu40;exact⟨O,δ,_,w,q,λd v H1 q1 s1 r1=>⟨O,δ,_,w.mono s1,q1,λl H2 q2 s2=>⟨O,δ,_,w.mono (s1.trans s2),q2,λu H3 uu41 s3=>by
  obtain⟨xs,e,q3⟩:=uu41;subst e;obtain⟨a,vs,rfl,h1,d1⟩:=(r1.mono (s2.trans s3)).lst;exact⟨a,vs,rfl,h1,λp hp=>k _ _ _ _ q3 (s1.trans (s2.trans s3)) hp (d1.cut l u)⟩⟩⟩⟩
theorem eU{a b:Vd}{ta tb:DT}{r:R2}{rd:U7->U7->(U7->Prop)->Prop}{pos:Pos}(ho:kr X r)(hd:cx X.K r rd)(ha:DF X H0 O0 a ta)(hb:DF X H0 O0 b tb)(hs:∀v u,V7 b false v u=operate [v,u] (VN v u):=by intro _ _;rfl):DE X H0 O0 (.Subscript a b pos) (dP rd ta tb):=(gw ho ha hb hs).imp (qK hd)
def ny:List U7->(U7->Prop)->Prop:=λds Q=>∃xs,(ds=[.list xs]\/ds=[.tuple xs])/\Q (.int xs.length)
def nA:List U7->(U7->Prop)->Prop:=λds Q=>∃xs,ds=[eS xs]/\Q (.int xs.length)
theorem fE{K:NM}:fO K (λxs H Q=>∃p ys,xs=[.ref p]/\(aV K H p ys\/bx K H p ys)/\Q (.int ys.length) H) ny:=λH O xs ds Qd R _ hs uu42 k=>by
 obtain⟨ys,e,q⟩:=uu42;rcases e with e | e <;> subst e
 ·cases hs with
  | cons h r=>
   cases r;obtain⟨a,vs,rfl,h1,d1⟩:=h.lst;exact⟨a,vs,rfl,.inl h1,by rw [d1.length];exact k _ _ H q (aj.refl _) (.int _)⟩
 ·cases hs with
  | cons h r=>
   cases r;obtain⟨a,vs,rfl,h1,d1⟩:=h.tup;exact⟨a,vs,rfl,.inr h1,by rw [d1.length];exact k _ _ H q (aj.refl _) (.int _)⟩
theorem Br{K:NM}:fO K (λxs H Q=>∃p ys,xs=[.ref p]/\(aV K H p ys\/bx K H p ys)/\Q (.int ys.length) H) nA:=λH O xs ds Qd R _ hs uu43 k=>by
 obtain⟨ys,e,q⟩:=uu43;subst e;cases hs with
 | cons h r=>
  cases r;obtain⟨a,vs,rfl,h1,d1⟩:=h.scr;exact⟨a,vs,rfl,.inl h1,by rw [d1.length];exact k _ _ H q (aj.refl _) (.int _)⟩
def nB:List U7->(U7->Prop)->Prop:=λds Q=>∃xs,ds=[.list xs]/\Q (.tuple xs)
theorem iG{K:NM}:fO K (λxs H Q=>∃p ys,xs=[.ref p]/\((aV K H p ys/\∀l,H l=none->Q (.ref l) (ao H l (.tup ys)))\/(bx K H p ys/\Q (.ref p) H))) nB:=λH O xs ds Qd R tr hs uu44 k=>by
 obtain⟨ys,e,q⟩:=uu44;subst e;cases hs with
 | cons h r=>
  cases r;obtain⟨a,vs,rfl,h1,d1⟩:=h.lst;exact⟨a,vs,rfl,.inl ⟨h1,λl hl=>k _ _ _ q (aj.new hl) (.tup (.inl aR) (λz=>tr l z hl) (d1.mono (aj.new hl)))⟩⟩
theorem ak.bools{K:NM}{H:Hp}{O:Ex}:∀{bs:List Bool}{vs:List V},ak K H O vs (bs.map PF)->vs=bs.map V.bl
 | [],_,r=>by rw [OS] at r;cases r;rfl
 | b::bs,_,r=>by
  rw [NS] at r;cases r with
  | cons h r=>cases h;rw [NS,ak.bools r]
def nE(g:List Bool->Bool):List U7->(U7->Prop)->Prop:=λds Q=>∃bs:List Bool,ds=[.list (bs.map .bool)]/\Q (.bool (g bs))
theorem vG{K:NM}{g:List Bool->Bool}:fO K (λxs H Q=>∃(a:U9)(bs:List Bool),xs=[.ref a]/\aV K H a (bs.map V.bl)/\Q (.bl (g bs)) H) (nE g):=λH O xs ds Qd R tr hs uu45 k=>by
 obtain⟨bs,e,q⟩:=uu45;subst e;cases hs with
 | cons h r=>
  cases r;obtain⟨a,vs,rfl,h1,d1⟩:=h.lst;cases d1.bools;exact⟨a,bs,rfl,h1,k _ _ H q (aj.refl _) (.bl _)⟩
def nF(g:Int->Int->Int):List U7->(U7->Prop)->Prop:=λds Q=>∃i j,ds=[.int i,.int j]/\Q (.int (g i j))
theorem kY{K:NM}{g:Int->Int->Int}:fO K (λxs H Q=>∃i j,xs=[.int i,.int j]/\Q (.int (g i j)) H) (nF g):=λH O xs ds Qd R tr hs uu46 k=>by
 obtain⟨i,j,e,q⟩:=uu46;subst e;cases hs with
 | cons h r=>
  cases r with
  | cons h2 r=>
   cases r;cases h.int;cases h2.int;exact⟨i,j,rfl,k _ _ H q (aj.refl _) (.int _)⟩
def kZ:U7->String
 | .none=> "NoneType" | .bool _=> "bool" | .int _=> "int" | .str _=> "str" | .list _=> "list" | .tuple _=> "tuple" | .dict _=> "dict"
end
section
variable {P:Vj} {w:Vm} {K:NM} {mg:Str->Option U8} {base:Vl}
def eV(N:List Str)(ds:List U7):Dl:=ds.map (λd=>some (.v d))++Oa (N.length - ds.length) none
theorem nG{H:Hp}{O:Ex}{N:List Str}{vs:List V}{ds:List U7}(tr:∀l,O l->H l≠none)(r:ak K H O vs ds):Wd K H O H O (start N vs) (eV N ds):=by
 have hl:=r.length;have at1:∀(i:Nat) y,(eV N ds)[i]?=some y->(∃d,ds[i]?=some d/\y=some (.v d))\/y=none:=λi y e=>by
  unfold eV at e;by_cases h:i < ds.length
  ·rw [P9 (by simpa using h),Ob] at e;cases q:ds[i]? with
   | none=>rw [q] at e;cases e
   | some d=>rw [q] at e;exact .inl ⟨d,rfl,(OG e).symm⟩
  ·rw [P4 (by simpa using Su h),QH] at e;split at e
   ·exact .inr (OG e).symm
   ·cases e
 refine⟨aj.refl _,λ_ z=>z,λ_ z=>.inl z,tr,by simp [start,eV,hl],λi y e=>?_,λi j ds' es l e1=>?_⟩
 ·rcases at1 i y e with⟨d,hd,rfl⟩ | rfl
  ·obtain⟨v,hv,rv⟩:=r.getD hd;refine⟨v,?_,rv⟩;unfold start;rw [P9 (by simpa using(N7.mp hv).1),Ob,hv];rfl
  ·exact O8
 ·rcases at1 i _ e1 with⟨d,_,z⟩ | z
  ·cases z;intro h;exact h.elim
  ·cases z
theorem cP.okD{x qual:Str}{st:Vn}{f:U9}{fd:Vh}{N ps:List Str}{k:Nat}{F:List U7->(U7->Prop)->Prop}(Fu:cP K x qual st f fd)(S:aP N ps (ar st))(len:∀ds Q,F ds Q->ds.length=ps.length)
 (hbody:∀(cdv:U8) (A:Vo) (outer:List Env) (s:Va) (H:Hp) (O:Ex) (ds:List U7) (Q:U7->Prop) (E:XK),aT k (A.deeper (VM qual (ar st) s.heap.objs.size f cdv))->F ds Q->
  ∃t,bG (bh aH P w K mg base N qual (ar st) f cdv A outer s H E).nox (d4 st) (bA K H O t)/\t {nx:=λ_=>Q .none,rt:=Q} (eV N ds)):ay P w K mg base aH (k+1) f fd ps (bo K F):=by
 refine Fu.ok S (λvs H Q E h=>?_) (λcdv A outer s H vs Q E hr h=>?_)
 ·obtain⟨O,ds,Qd,_,r,q,_⟩:=h;rw [r.length];exact len _ _ q
 ·obtain⟨O,ds,Qd,tr,r,q,k⟩:=h;obtain⟨t,ht,q'⟩:=hbody cdv A outer s H O ds Qd E hr q;refine⟨_,ht,O,_,_,nG tr r,q',λO' δ' σ' H' z w' S'=>?_,λd v H' z s' r'=>k d v H' z s' r',λ_ _ _ _ z=>z.elim,λ_ _ _ _ z=>z.elim⟩;exact k _ _ _ z w'.same .non
end
section
variable {X:Cx} {H0:Hp} {O0:Ex}
theorem iH:fk X [] (bY X.K H0 O0 iD):=λWy s σ H Q I h=>by
 obtain⟨O,δ,Qd,w,q,k⟩:=h;exact AY Wy s σ H Q I (k true H q (aj.refl _))
theorem Ii:cH X (.builtin "isinstance") (λxs H Q=>∃O d T b x,xs=[x,.ty T]/\Dt X.K H O x d/\(∀x,d≠ .dict [(.none,x)])/\kitOne X.K (.type (kZ d)) (.type T)=some b/\Q (.bl b) H):=by
 intro Wy s σ H xs us Q I r h;obtain⟨O,d,T,b,x,rfl,hd,hp,hk,q⟩:=h;obtain⟨u,w',rfl,rx,rt⟩:=kl r;cases (show w'=Uj T from rt);have fin:∀tk,EP X Wy σ Q (.bool b) {s with toks:=tk}:=λtk=>⟨.bl b,H,I.tok tk,rfl,q⟩;cases hd with
 | non=>cases (show u=Qz from rx);exact Wg kitx_none I.kIn O8 hk (λz=>nomatch z) fin
 | bl y=>cases (show u=Qb y from rx);exact Wg kitx_bool I.kIn O8 hk (λz=>nomatch z) fin
 | int i=>obtain⟨t,e⟩:=(show ∃t,u=QB i t from rx);cases e;exact Wg kitx_int I.kIn O8 hk (λz=>nomatch z) fin
 | str y=>obtain⟨t,e⟩:=(show ∃t,u=Qg y t from rx);cases e;exact Wg kitx_str I.kIn O8 hk (λz=>nomatch z) fin
 | @tup a xs ds h n rr=>
  cases (show u=Of a from rx);obtain⟨its,rv,⟨o,e,c,_⟩,_⟩:=I.tuple (.inl h);exact Wg kitx_tuple I.kIn ⟨o,e,c⟩ hk (λz=>nomatch z) fin
 | @tupK a xs ds h rr=>
  cases (show u=Of a from rx);obtain⟨its,rv,⟨o,e,c,_⟩,_⟩:=I.tuple h.of0;exact Wg kitx_tuple I.kIn ⟨o,e,c⟩ hk (λz=>nomatch z) fin
 | @lst a xs ds h n rr=>
  cases (show u=Of a from rx);obtain⟨its,rv,⟨o,_,e,c,_⟩,_⟩:=I.list (.inl h);exact Wg kitx_list I.kIn ⟨o,e,c⟩ hk (λz=>nomatch z) fin
 | pack h n=>exact absurd rfl (hp _)
 | purse h n=>exact absurd rfl (hp _)
 | scr h r=>exact absurd rfl (hp _)
 | obj h e n r=>exact absurd rfl (hp _)
 | @dct0 a h n=>
  cases (show u=Of a from rx);obtain⟨_,_,_,_,o,_,_,e,c,_⟩:=(show bV X.prog X.w H s.heap a (.dK []) from I.hok a _ h);exact Wg kitx_dict I.kIn ⟨o,e,c.1⟩ hk (λz=>nomatch z) fin
 | @dic a ob kv ks kp ds h e1 e2 n rr=>
  cases (show u=Of a from rx);obtain⟨_,_,_,_,o,_,_,e,c,_⟩:=(show bV X.prog X.w H s.heap a (.dK kv) from(I.hok a _ h).2);exact Wg kitx_dict I.kIn ⟨o,e,c.1⟩ hk (λz=>nomatch z) fin
def k6(K:NM)(T:String)(t:DT):DT:=λδ Q=>t δ λd=>∃b,kitOne K (.type (kZ d)) (.type T)=some b/\(∀x,d≠ .dict [(.none,x)])/\Q (.bool b)
theorem Ij{T:String}{a c:Vd}{t:DT}{np p:Pos}(hg:Gl X "isinstance")(hm:X.mg "isinstance"=none)(hv:Vq "isinstance"=some (.builtin "isinstance"))(ha:DF X H0 O0 a t)(hc:PE X c (tC (.ty T)))
 (hs:Vc [a,c] X.env=(false,eval a X.env)::Vc [c] X.env:=by rfl)(hs2:Vc [c] X.env=[(false,eval c X.env)]:=by rfl)(hb:(Vr p (Vc [c] X.env)).any (·.1)=false:=by rfl):DE X H0 O0 (.Call (.Name "isinstance" np) [a,c] [] p) (k6 X.K T t):=
 (bP Ii hg hm hv (aO ha (aO hc bU hs2) hs) (he:=hs) (hpl:=hb)).imp λσ H Q uu47=>by obtain⟨O,δ,Qd,w,q,k⟩:=uu47;exact⟨O,δ,_,w,q,λd v H1 uu48 s1 r1=>by obtain⟨b,e,hp,q1⟩:=uu48;exact⟨λ_=>False,d,T,b,v,rfl,r1.all,hp,e,k _ _ H1 q1 s1 (.bl b)⟩⟩
def nH:U7->U7->(U7->Prop)->Prop:=λx y Q=>∃i j,x= .str i/\y= .str j/\i.length+j.length<=Ve/\Q (.str (i++j))
theorem Bs{K:NM}:cx K (λx y H Q=>∃i j,x= .str i/\y= .str j/\i.length+j.length<=Ve/\Q (.str (i++j)) H) nH:=λH O x y dx dy Qd R tr hx hy uu49 k=>by
 obtain⟨i,j,e1,e2,hz,q⟩:=uu49;subst e1 e2;cases hx.str;cases hy.str;exact⟨i,j,rfl,rfl,hz,k _ _ H q (aj.refl _) (.str _)⟩
def nI:U7->U7->(U7->Prop)->Prop:=λx y Q=>∃z i c,x= .str z/\y= .int i/\z.length<=Ve/\atI z.cps.toList i=some c/\Q (.str ⟨#[c]⟩)
theorem Bt{K:NM}:cx K AL nI:=λH O x y dx dy Qd R tr hx hy uu50 k=>by
 obtain⟨z,i,c,e1,e2,hz,e3,q⟩:=uu50;subst e1 e2;cases hx.str;cases hy.int;exact⟨z,i,c,rfl,rfl,hz,e3,k _ _ H q (aj.refl _) (.str _)⟩
def Ik:V->Option Int->Option Int->Hp->VK->Prop:=λx lo hi H Q=>∃z,x= .str z/\z.length<=Ve/\Q (.str (Txt.slice z lo hi)) H
theorem Il:my X Ik:=by
 intro Wy s σ H x v vl vu lo hi sl Q I rx hs pl pu h;obtain⟨z,rfl,hz,q⟩:=h;obtain⟨t,rfl⟩:=rx;have e1:∃l:Option (Int×Tok),vl=partValue l/\l.map (·.1)=lo:=by
  cases pl with
  | none=>exact⟨none,rfl,rfl⟩
  | int i t=>exact⟨some (i,t),rfl,rfl⟩
 have e2:∃l:Option (Int×Tok),vu=partValue l/\l.map (·.1)=hi:=by
  cases pu with
  | none=>exact⟨none,rfl,rfl⟩
  | int i t=>exact⟨some (i,t),rfl,rfl⟩
 obtain⟨l,rfl,rfl⟩:=e1;obtain⟨u,rfl,rfl⟩:=e2;refine⟨"str",_,F.slot_str_getitem.lookup,V4 _ _ _,wpAny_getItem_str_slice (l:=l) (u:=u) (st:=none) hs rfl ?_⟩;exact post_val_or_str ⟨Ot (Txt.slice_le z _ _) hz,λt' k=>⟨.str (Txt.slice z (l.map (·.1)) (u.map (·.1))),H,I.tok _,⟨_,rfl⟩,q⟩⟩
def nJ(t:DT)(tl th:DO):DT:=λδ Q=>t δ λd=>tl δ λl=>th δ λu=>∃z,d= .str z/\z.length<=Ve/\Q (.str (Txt.slice z l u))
theorem Bu{e:Vd}{lo hi:Option Vd}{t:DT}{tl th:DO}{pos p2:Pos}(h:DF X H0 O0 e t)(hl:PO X lo (gH X.K H0 O0 tl))(hu:PO X hi (gH X.K H0 O0 th)):DE X H0 O0 (.Subscript e (.Slice lo hi none p2) pos) (nJ t tl th):=
 (qB Il h hl hu).imp λσ H Q uu51=>by obtain⟨O,δ,Qd,w,q,k⟩:=uu51;exact⟨O,δ,_,w,q,λd v H1 q1 s1 r1=>⟨O,δ,_,w.mono s1,q1,λl H2 q2 s2=>⟨O,δ,_,w.mono (s1.trans s2),q2,λu H3 uu52 s3=>by
  obtain⟨z,e,hz,q3⟩:=uu52;subst e;cases r1.str;exact⟨z,rfl,hz,k _ _ H3 q3 (s1.trans (s2.trans s3)) (.str _)⟩⟩⟩⟩
theorem Im{K:NM}{H:Hp}{O:Ex}:∀{ys:List Str}{vs:List V}{us:List U8},ak K H O vs (ys.map NP)->aE vs us->StrsAre us ys:=by
 intro ys
 induction ys with
 | nil=>intro vs us r rv;rw [OS] at r;cases r;cases rv;exact .nil
 | cons y ys ih=>
  intro vs us r rv;rw [NS] at r;cases r with
  | cons h r=>
   cases h;cases rv with
   | cons r1 r2=>
    obtain⟨t,rfl⟩:=r1;exact .cons y t (ih r r2)
theorem Io:AK X "str.join" (λx xs H Q=>∃(O:Ex)(z:Str)(a:V)(ys:List Str),x= .str z/\xs=[a]/\Sh X.K H O a (.list (ys.map .str))/\(ys.map (·.length)).sum+ys.length*z.length<=16777216/\Q (.str (Txt.join z ys)) H):=by
 intro Wy s σ H x xs v us Q I rx rs h;obtain⟨O,z,a,ys,rfl,rfl,ha,hz,q⟩:=h;obtain⟨t,rfl⟩:=rx;obtain⟨u,rfl,ru⟩:=c9 rs;obtain⟨l,vs,rfl,hl,dl⟩:=ha.lst;cases ru;obtain⟨its,rv,pl,_⟩:=I.list hl;exact join_list pl.isList (by simpa using Im dl rv) hz λt' k=>⟨.str _,H,I.tok _,⟨_,rfl⟩,q⟩
def nK(to:DT)(t:DT):DT:=λδ Q=>to δ λx=>∃z:Str,x= .str z/\t δ λy=>∃(ys:List Str),y= .list (ys.map .str)/\(ys.map (·.length)).sum+ys.length*z.length<=16777216/\Q (.str (Txt.join z ys))
theorem Ip{o e:Vd}{to t:DT}{apos cpos:Pos}(ho:DE X H0 O0 o to)(ha:DF X H0 O0 e t)(hbase:VJ o "join" X.env (eval o X.env)=eval o X.env:=by rfl)
 (hfew:((Vr cpos (Vc [e] X.env)).all (λx=>!x.1) && (backToKw cpos (V8 [] X.env)).all (λx=>x.1.isSome) && decide ([e].length+([]:List VO).length+(if ([]:List VO).isEmpty then 0 else 1) < 30))=true:=by rfl)
 (hline:(apos.endLine==cpos.line)=true:=by rfl)(hst:Vc [e] X.env=(false,eval e X.env)::Vc [] X.env:=by rfl)(hplain:(Vr cpos (Vc [] X.env)).any (·.1)=false:=by rfl):
 DE X H0 O0 (.Call (.Attribute o "join" apos) [e] [] cpos) (nK to t):=
 (vh PySem.F.plainAttrs_str PySem.F.slot_str_join PySem.F.type_str_join Io ho (aO ha bU hst) hbase hfew hline hst hplain).imp λσ H Q uu53=>by obtain⟨O,δ,Qd,w,q,k⟩:=uu53;exact⟨O,δ,_,w,q,λx v H1 uu54 s1 r1=>by
  obtain⟨z,e,q1⟩:=uu54;subst e;cases r1;exact⟨rfl,O,δ,_,w.mono s1,q1,λy u H2 uu55 s2 r2=>by obtain⟨ys,e,hz,q2⟩:=uu55;subst e;exact⟨O,z,u,ys,rfl,rfl,r2,hz,k _ _ H2 q2 (s1.trans s2) (.str _)⟩⟩⟩
def nL:List U7->(U7->Prop)->Prop:=λds Q=>(∃i,ds=[.int i]/\Q (.int i))\/∃b,ds=[.bool b]/\Q (.int (if b then 1 else 0))
theorem qP{K:NM}:fO K (λxs H Q=>(∃i,xs=[.int i]/\Q (.int i) H)\/∃k,xs=[.bl k]/\Q (.int (if k then 1 else 0)) H) nL:=λH O xs ds Qd R tr hs h k=>by
 rcases h with⟨i,e,q⟩ | ⟨b,e,q⟩ <;> subst e
 ·cases hs with
  | cons h r=>cases r;cases h.int;exact .inl ⟨i,rfl,k _ _ H q (aj.refl _) (.int _)⟩
 ·cases hs with
  | cons h r=>cases r;cases h.bl;exact .inr ⟨b,rfl,k _ _ H q (aj.refl _) (.int _)⟩
theorem Iq{xs:List V}{us:List U8}(r:aE xs us):aE xs.reverse us.reverse:=by
 induction r with
 | nil=>exact .nil
 | cons h r ih=>rw [Rx,Rx];exact ih.append (.cons h .nil)
end
section
variable {X:Cx} {Wy:List (U9×Obj)} {σ:St} {H:Hp} {s:Va}
theorem af.swap{p:U9}{o':HO}(I:af X Wy σ H s)(mu:j7 (H p))(new:bV X.prog X.w (ao H p o') s.heap p o'):af X Wy σ (ao H p o') s:=by
 have hp:∃o,H p=some o:=by
  cases e:H p with
  | none=>rw [e] at mu;exact mu.elim
  | some o=>exact⟨o,rfl⟩
 obtain⟨o,ho⟩:=hp;have nn:∀{b:U9},H b=none->b≠p:=λhb z=>by rw [z,ho] at hb;cases hb
 have nt:∀{b:U9}{xs:List V},H b=some (.tup xs)->b≠p:=λhb z=>by rw [z] at hb;rw [hb] at mu;exact mu
 have nw:∀{b y:U9},H b=some (.own y)->b≠p:=λhb z=>by rw [z] at hb;rw [hb] at mu;exact mu
 have nf:∀{b:U9}{ob:Obj}{u:HO},H b=some (.frz ob u)->b≠p:=λhb z=>by rw [z] at hb;rw [hb] at mu;exact mu
 have nc:∀{b:U9}{q:Str},H b=some (.cod q)->b≠p:=λhb z=>by rw [z] at hb;rw [hb] at mu;exact mu
 have nb:∀{b:U9}{ps:Array U8},H b=some (.tbl ps)->b≠p:=λhb z=>by rw [z] at hb;rw [hb] at mu;exact mu
 have ub:=I.base;refine⟨I.ok,I.os,I.bare,⟨ub.keep,ub.slot,λb ob e n hx=>?_,ub.there,λb xs z=>?_,λb ob u z=>?_,λb ps z=>?_⟩,I.loc,I.cell,?_,λx c e=>?_,λq hq=>?_,λb u e=>?_,I.len⟩
 ·have:=ub.free b ob e n hx;rw [aA (nn this)];exact this
 ·have:=ub.tups b xs z;rw [aA (nt this)];exact this
 ·have:=ub.frzs b ob u z;rw [aA (nf this)];exact this
 ·obtain⟨m,this⟩:=ub.tbls b ps z;exact⟨m,by rw [aA (nb this)];exact this⟩
 ·rw [aA (nn I.free)];exact I.free
 ·have:=I.freeC x c e;rw [aA (nn this)];exact this
 ·obtain⟨a,b,c⟩:=I.pin q hq;exact⟨a,by rw [aA (nn b)];exact b,c⟩
 ·by_cases hb:b=p
  ·subst hb;rw [aR] at e;cases e;exact new
  ·rw [aA hb] at e;exact(I.hok b u e).stay (λ_ _ _ q=>q) (λc z=>by rw [aA (nw z)];exact z) (λc xs z=>by rw [aA (nt z)];exact z) λc xs z=>by rw [aA (nc z)];exact z
theorem af.open3{p:U9}(I:af X Wy σ H s)(e:H p=some (gC p)):∃a b c,af X Wy σ (ao H p (.lst [.int a,.int b,.int c])) s:=by
 obtain⟨⟨a,b,c,t,u,v,k,h⟩,_,_⟩:=(show bV X.prog X.w H s.heap p (gC p) from I.hok p _ e);exact⟨a,b,c,I.swap (by rw [e];exact O8) ⟨(show 3<=Ve by decide),[.int a t,.int b u,.int c v],k,.cons ⟨t,rfl⟩ (.cons ⟨u,rfl⟩ (.cons ⟨v,rfl⟩ .nil)),h⟩⟩
theorem af.shut3{p:U9}{a b c:Int}(I:af X Wy σ H s)(e:H p=some (.lst [.int a,.int b,.int c])):af X Wy σ (ao H p (gC p)) s:=by
 obtain⟨_,its,k,r,h⟩:=(show bV X.prog X.w H s.heap p (.lst [.int a,.int b,.int c]) from I.hok p _ e);cases r with
 | cons r1 r2=>
  cases r2 with
  | cons r2 r3=>
   cases r3 with
   | cons r3 r4=>
    cases r4;obtain⟨t,rfl⟩:=r1;obtain⟨u,rfl⟩:=r2;obtain⟨v,rfl⟩:=r3;exact I.swap (by rw [e];exact O8) ⟨⟨a,b,c,t,u,v,k,h⟩,⟨_,h⟩,λh1 h2 uu56 kk=>by obtain⟨a,b,c,t,u,v,k,z⟩:=uu56;exact⟨a,b,c,t,u,v,k,kk _ z⟩⟩
theorem bG.purse{st:List Vn}{t:TS}(h:bG X st t):bG X st (λD σ H=>∃p,H p=some (gC p)/\∀a b c,t {nx:=λσ' H'=>∃a b c,H' p=some (.lst [.int a,.int b,.int c])/\D.nx σ' (ao H' p (gC p)),rt:=λv H'=>∃a b c,H' p=some (.lst [.int a,.int b,.int c])/\D.rt v (ao H' p (gC p))} σ (ao H p (.lst [.int a,.int b,.int c]))):=by
 intro Wy s σ H D I ⟨p,e,q⟩;obtain⟨a,b,c,I1⟩:=I.open3 e;refine aB (h Wy s σ _ _ I1 (q a b c)) λf s1 z=>?_;cases f with
 | next=>obtain⟨σ',H',J,_,_,_,e',q'⟩:=z;exact⟨σ',_,J.shut3 e',q'⟩
 | ret u=>obtain⟨v,σ',H',J,r,_,_,_,e',q'⟩:=z;exact⟨v,σ',_,J.shut3 e',r,q'⟩
 | brk=>obtain⟨_,_,_,z⟩:=z;exact z.elim
 | cont=>obtain⟨_,_,_,z⟩:=z;exact z.elim
theorem bG.newPurse{st:List Vn}{t:TS}(h:bG X st t):bG X st (λD σ H=>t {nx:=λ_ _=>False,rt:=λv H'=>∃p a b c,v= .ref p/\H' p=some (.lst [.int a,.int b,.int c])/\D.rt v (ao H' p (gC p))} σ H):=by
 intro Wy s σ H D I q;refine aB (h Wy s σ _ _ I q) λf s1 z=>?_;cases f with
 | next=>obtain⟨_,_,_,z⟩:=z;exact z.elim
 | ret u=>obtain⟨v,σ',H',J,r,p,a,b,c,e,e',q'⟩:=z;subst e;exact⟨_,σ',_,J.shut3 e',r,q'⟩
 | brk=>obtain⟨_,_,_,z⟩:=z;exact z.elim
 | cont=>obtain⟨_,_,_,z⟩:=z;exact z.elim
end
def vH:List U7->(U7->Prop)->Prop:=λds Q=>∃z:Int,ds=[fB,.int z]/\0 < z/\z<=1000000/\∀i:Int,0<=i->i < z->Q (.int i)
theorem eX{α:Type}{a:α}{l:List α}:atI (a::l) 0=some a:=fN (j:=0) rfl
theorem dG{α:Type}{a b:α}{l:List α}:atI (a::b::l) 1=some b:=fN (j:=1) rfl
theorem k7{α:Type}{a b c:α}{l:List α}:atI (a::b::c::l) 2=some c:=fN (j:=2) rfl
theorem g9{α:Type}{a b c d:α}{l:List α}:atI (a::b::c::d::l) 3=some d:=fN (j:=3) rfl
theorem nM{α:Type}{a b c d e:α}{l:List α}:atI (a::b::c::d::e::l) 4=some e:=fN (j:=4) rfl
theorem fF{i:Int}:dB (.int i):=rfl
theorem qQ{i:Bool}:dB (.bool i):=rfl
theorem nN:dB .none:=rfl
theorem fQ{x y:Str}:N4 (.str x) (.str y)=(x==y):=by simp [N4]
theorem hG{x y:Int}:N4 (.int x) (.int y)=(x==y):=by simp [N4]
theorem nO{x y:Bool}:N4 (.bool x) (.bool y)=(x==y):=by simp [N4]
theorem cW{x:Str}:dB (.str x)↔N0 x=true:=by
 unfold dB OP;simp [Ox,Qf]
theorem vd{n d:Nat}:HT.sIx n d none=d:=rfl
theorem qR{n d:Nat}{i:Int}(h0:0<=i)(h1:i<=n):HT.sIx n d (some i)=i.toNat:=by
 obtain⟨j,rfl⟩:=Pm h0;rw [HT.sIx_nat,Sd];omega
theorem vI{xs:List U7}{i:Int}(h0:0<=i)(h1:i<=xs.length):cV xs none (some i)=xs.take i.toNat:=by
 unfold cV;rw [vd,qR h0 h1];simp
theorem Bv{xs:List U7}{i:Int}(h0:0<=i)(h1:i<=xs.length):cV xs (some i) none=xs.drop i.toNat:=by
 unfold cV;rw [vd,qR h0 h1,OD (by rw [RG];exact NV _)]
theorem jP{lo:Int}{n i:Nat}{x:U7}(h:(iC lo n)[i]?=some x):i < n/\x= .int (lo+i):=by
 unfold iC at h;rw [Ob] at h;by_cases hi:i < n
 ·rw [List.getElem?_range hi] at h;exact⟨hi,(OG h).symm⟩
 ·rw [RK (by simpa using hi)] at h;cases h
theorem qS{lo:Int}{n:Nat}:(iC lo n).length=n:=by unfold iC;simp
section
variable {κ:Type} [DecidableEq κ]
def dQ(kvs:List (κ×V))(k:κ):Option V:=(kvs.find? λkv=>decide (kv.1=k)).map (·.2)
def putK(kvs:List (κ×V))(k:κ)(v:V):List (κ×V):=
 if (kvs.any λkv=>decide (kv.1=k))=true then kvs.map (λkv=>if kv.1=k then(kv.1,v) else kv) else kvs++[(k,v)]
theorem nQ{p:κ×V}{r:List (κ×V)}{k:κ}(e:p.1=k):dQ (p::r) k=some p.2:=by simp [dQ,PN,e]
theorem k8{p:κ×V}{r:List (κ×V)}{k:κ}(e:¬p.1=k):dQ (p::r) k=dQ r k:=by simp [dQ,PN,e]
theorem Bw(k:κ):∀kvs:List (κ×V),(kvs.any λkv=>decide (kv.1=k))=(dQ kvs k).isSome
 | []=>rfl
 | p::r=>by
  rw [PB];by_cases e:p.1=k
  ·simp only [nQ e,decide_eq_true e,Bool.true_or,TH]
  ·rw [k8 e,decide_eq_false e,Q0];exact Bw k r
theorem vJ(kvs:List (κ×V))(k:κ)(v:V):(putK kvs k v).length<=kvs.length+1:=by
 unfold putK;split
 ·rw [NO];omega
 ·rw [OR,Og,Pf];omega
theorem fc.isSome_eq{o:Option V}{u:Option U8}(r:fc o u):o.isSome=u.isSome:=by
 cases o with
 | none=>cases u with
  | none=>rfl
  | some _=>exact(show False from r).elim
 | some _=>cases u with
  | none=>exact(show False from r).elim
  | some _=>rfl
theorem fc.getD{o:Option V}{u:Option U8}{d:V}{d':U8}(r:fc o u)(rd:aF d d'):aF (o.getD d) (u.getD d'):=by
 cases o with
 | none=>cases u with
  | none=>exact rd
  | some _=>exact(show False from r).elim
 | some _=>cases u with
  | none=>exact(show False from r).elim
  | some _=>exact r
theorem KV.val{kvs:List (κ×V)}{vs:List (κ×U8)}(r:KV kvs vs)(k:κ):fc (dQ kvs k) (valueAt vs k):=by
 unfold KV at r
 induction r with
 | nil=>exact O8
 | @cons p q ps qs h t ih=>
  obtain⟨h1,h2⟩:=h;by_cases e:p.1=k
  ·have e':q.1=k:=h1.symm.trans e;have b:valueAt (q::qs) k=some q.2:=by simp [valueAt,PN,e']
   rw [nQ e,b];exact h2
  ·have e':¬q.1=k:=λz=>e (h1.trans z);have b:valueAt (q::qs) k=valueAt qs k:=by simp [valueAt,PN,e']
   rw [k8 e,b];exact ih
theorem KV.any{kvs:List (κ×V)}{vs:List (κ×U8)}(r:KV kvs vs)(k:κ):(kvs.any λkv=>decide (kv.1=k))=vs.any λkv=>decide (kv.1=k):=by
 unfold KV at r
 induction r with
 | nil=>rfl
 | cons h t ih=>rw [PB,PB,ih,h.1]
theorem KV.repl{kvs:List (κ×V)}{vs:List (κ×U8)}(r:KV kvs vs)(k:κ){y:V}{u:U8}(ry:aF y u):
 KV (kvs.map λkv=>if kv.1=k then(kv.1,y) else kv) (vs.map λkv=>if kv.1=k then(kv.1,u) else kv):=by
 unfold KV at r⊢
 induction r with
 | nil=>exact .nil
 | @cons p q ps qs h t ih=>
  rw [NS,NS];refine .cons ?_ ih;obtain⟨h1,h2⟩:=h;by_cases e:p.1=k
  ·rw [U4 e,U4 (h1.symm.trans e)];exact⟨h1,ry⟩
  ·rw [U3 e,U3 (λz=>e (h1.trans z))];exact⟨h1,h2⟩
theorem KV.put{kvs:List (κ×V)}{vs:List (κ×U8)}(r:KV kvs vs)(k:κ){y:V}{u:U8}(ry:aF y u):KV (putK kvs k y) (stored vs k u):=by
 unfold putK stored;rw [r.any k];by_cases e:(vs.any λkv=>decide (kv.1=k))=true
 ·rw [U4 e,U4 e];exact r.repl k ry
 ·rw [U3 e,U3 e];exact UU r ⟨rfl,ry⟩
theorem KV.keys{kvs:List (κ×V)}{vs:List (κ×U8)}(r:KV kvs vs):kvs.map (·.1)=vs.map (·.1):=by
 unfold KV at r
 induction r with
 | nil=>rfl
 | cons h t ih=>rw [NS,NS,ih,h.1]
theorem KV.length{kvs:List (κ×V)}{vs:List (κ×U8)}(r:KV kvs vs):kvs.length=vs.length:=RZ r
end
theorem jj{P:Vj}{w:Vm}{k:ai}{u:U8}(r:aF (kV k) u):(ck P w).is k u=true:=by
 cases k with
 | inl i=>obtain⟨t,e⟩:=(show ∃t,u=QB i t from r);subst e;exact FP P w i t
 | inr x=>obtain⟨t,e⟩:=(show ∃t,u=Qg x t from r);subst e;exact FQ P w x t
theorem Bx{P:Vj}{w:Vm}:∀{ks:List ai}{us:List U8},aE (ks.map kV) us->ItemsAre (ck P w) ks us
 | [],_,r=>by rw [OS] at r;cases r;exact .nil
 | k::ks,_,r=>by
  rw [NS] at r;cases r with
  | cons h t=>exact .cons (jj h) (Bx t)
abbrev KT(H:Hp):List (List ai×V)->List (List ai×U9×U8)->Prop:=Paired λp q=>p.1=q.1/\H q.2.1=some (.tup (p.1.map kV))/\aF p.2 q.2.2
theorem KT.val{H:Hp}{kvs:List (List ai×V)}{xs:List (List ai×U9×U8)}(r:KT H kvs xs)(k:List ai):fc (dQ kvs k) ((atKey xs k).map (·.2)):=by
 induction r with
 | nil=>exact O8
 | @cons p q ps qs h t ih=>
  obtain⟨h1,_,h2⟩:=h;by_cases e:p.1=k
  ·have e':q.1=k:=h1.symm.trans e;have b:atKey (q::qs) k=some q.2:=by simp [atKey,PN,e']
   rw [nQ e,b];exact h2
  ·have e':¬q.1=k:=λz=>e (h1.trans z);have b:atKey (q::qs) k=atKey qs k:=by simp [atKey,PN,e']
   rw [k8 e,b];exact ih
theorem KT.repl{H:Hp}{kvs:List (List ai×V)}{xs:List (List ai×U9×U8)}(r:KT H kvs xs)(k:List ai){y:V}{u:U8}(ry:aF y u):
 KT H (kvs.map λkv=>if kv.1=k then(kv.1,y) else kv) (xs.map (putAt k u)):=by
 induction r with
 | nil=>exact .nil
 | @cons p q ps qs h t ih=>
  rw [NS,NS];refine .cons ?_ ih;obtain⟨h1,h2,h3⟩:=h;unfold putAt;by_cases e:p.1=k
  ·rw [U4 e,U4 (h1.symm.trans e)];exact⟨h1,h2,ry⟩
  ·rw [U3 e,U3 (λz=>e (h1.trans z))];exact⟨h1,h2,h3⟩
theorem KT.put{H:Hp}{kvs:List (List ai×V)}{xs:List (List ai×U9×U8)}(r:KT H kvs xs)(k:List ai){b:U9}{y:V}{u:U8}(hb:H b=some (.tup (k.map kV)))(ry:aF y u):
 KT H (putK kvs k y) (storedH xs k b u):=by
 have e:(kvs.any λkv=>decide (kv.1=k))=(atKey xs k).isSome:=by
  rw [Bw,(r.val k).isSome_eq,Si]
 unfold putK storedH;rw [e];by_cases q:(atKey xs k).isSome=true
 ·rw [U4 q,U4 q];exact r.repl k ry
 ·rw [U3 q,U3 q];exact UU r ⟨rfl,hb,ry⟩
theorem KT.keeps{H H':Hp}{kvs:List (List ai×V)}{xs:List (List ai×U9×U8)}(r:KT H kvs xs)(ht:∀b ys,H b=some (.tup ys)->H' b=some (.tup ys)):KT H' kvs xs:=
 Paired.mapP r λ_ _ z=>⟨z.1,ht _ _ z.2.1,z.2.2⟩
section
variable {P:Vj} {w:Vm} {H:Hp} {h:Vl} {a:U9}
theorem By{u:HO}(ok:bM P w H h)(e:Rd H a u):bV P w H h a u:=e.ok ok
theorem iI{kvs:List (ai×V)}(ok:bM P w H h)(e:Rd H a (.dK kvs)):kvs.length<=Ve/\(a==VH)=false/\∃vs,KV kvs vs/\h.DictOf (ck P w) a vs:=
 show bV P w H h a (.dK kvs) from By ok e
theorem Bz{kvs:List (ai×V)}(ok:bM P w H h)(e:H a=some (.dK kvs)):kvs.length<=Ve/\(a==VH)=false/\∃vs,KV kvs vs/\h.DictOf (ck P w) a vs:=iI ok (.inl e)
theorem k9{ks:List ai}(ok:bM P w H h)(e:H a=some (.tup (ks.map kV))):(Wm (ck P w)).is h ks a:=by
 obtain⟨_,its,r,o,h1,h2,n,h3⟩:=(show bV P w H h a (.tup (ks.map kV)) from ok a _ e);exact⟨o,its.toArray,n,h1,h2,h3,by simpa using Bx r⟩
theorem jQ{kvs:List (List ai×V)}(ok:bM P w H h)(e:Rd H a (.dT kvs)):kvs.length<=Ve/\(a==VH)=false/\
 ∃xs,KT H kvs xs/\h.DictOfH (Wm (ck P w)) a xs:=by
 obtain⟨z,y,xs,r,o,es,ep,h1,h2,h3,h4,h5⟩:=(show bV P w H h a (.dT kvs) from By ok e);refine⟨z,y,xs,r,o,es,ep,h1,h2,h3,h4,λx hx=>?_,h5⟩;have all:∀{l:List (List ai×V)}{m:List (List ai×U9×U8)},KT H l m->∀x∈m,(Wm (ck P w)).is h x.1 x.2.1:=by
  intro l m q
  induction q with
  | nil=>intro x hx;exact nomatch hx
  | @cons p q ps qs hq t ih=>
   intro x hx;rcases N9.mp hx with e | hx
   ·subst e;exact k9 ok (by rw [<-hq.1];exact hq.2.1)
   ·exact ih x hx
 exact all r x hx
theorem Ir{kvs:List (List ai×V)}(ok:bM P w H h)(e:H a=some (.dT kvs)):kvs.length<=Ve/\(a==VH)=false/\
 ∃xs,KT H kvs xs/\h.DictOfH (Wm (ck P w)) a xs:=jQ ok (.inl e)
end
def dj(H:Hp)(a:U9)(y:V)(r:Option V):Prop:=
 (∃kvs k,Rd H a (.dK kvs)/\y=kV k/\r=dQ kvs k)\/∃kvs k b,Rd H a (.dT kvs)/\y= .ref b/\H b=some (.tup (k.map kV))/\r=dQ kvs k
def nR(H:Hp)(a:U9)(y v:V)(H':Hp):Prop:=
 (∃kvs k,H a=some (.dK kvs)/\y=kV k/\kvs.length < Ve/\H'=ao H a (.dK (putK kvs k v)))\/
 ∃kvs k b,H a=some (.dT kvs)/\y= .ref b/\H b=some (.tup (k.map kV))/\kvs.length < Ve/\H'=ao H a (.dT (putK kvs k v))
theorem dj.k{H:Hp}{a:U9}{kvs:List (ai×V)}{k:ai}(e:H a=some (.dK kvs)):dj H a (kV k) (dQ kvs k):= .inl ⟨kvs,k,.inl e,rfl,rfl⟩
theorem nR.k{H:Hp}{a:U9}{kvs:List (ai×V)}{k:ai}{v:V}(e:H a=some (.dK kvs))(hl:kvs.length < Ve):nR H a (kV k) v (ao H a (.dK (putK kvs k v))):= .inl ⟨kvs,k,e,rfl,hl,rfl⟩
section
variable {X:Cx} {Wy:List (U9×Obj)} {σ:St} {H:Hp} {s:Va} {a:U9} {y v:V} {u r:U8} {o:Option V} {A:Vo} {E:U8->Va->Prop}
theorem af.big(I:af X Wy σ H s):VH < s.heap.objs.size:=by
 have h:Vk < s.heap.objs.size:=(I.mod.glob.keeps I.bk).lt;exact Sw U1 h
theorem Iu{Q:U8->Va->Prop}(hu:A.units+1 < Vx)(I:af X Wy σ H s)(g:dj H a y (some v))(ry:aF y u)(h:∀w' s',af X Wy σ H s'->aF v w'->Q w' s'):
 Vf (Vg X.prog X.w) A (VN (.ref a) u) Q E s:=by
 rcases g with⟨kvs,k,e,ey,l⟩ | ⟨kvs,k,b,e,ey,eb,l⟩
 ·subst ey;obtain⟨z,hd,vs,rel,dd⟩:=iI I.hok e;obtain⟨w',hw,rw'⟩:=fc.some_of (v:=v) (o:=valueAt vs k) (by rw [l];exact rel.val k);exact wpAny_getItem_of (jj ry) dd.mapOf hw (h w' _ (I.tok _) rw')
 ·subst ey;cases (show u=Of b from ry);obtain⟨z,hd,xs,rel,dd⟩:=jQ I.hok e;obtain⟨w',hw,rw'⟩:=fc.some_of (v:=v) (o:=(atKey xs k).map (·.2)) (by rw [l];exact rel.val k);obtain⟨p,hp,hp2⟩:=Option.map_eq_some_iff.mp hw;refine wpAny_getItem_heap (VS hu) (k9 I.hok eb) dd hp ?_;rw [hp2];exact h w' _ (I.tok _) rw'
theorem Iw{Q:U8->Va->Prop}(hu:A.units+1 < Vx)(I:af X Wy σ H s)(g:dj H a y o)(ry:aF y u)(h:∀s',af X Wy σ H s'->Q (.bool o.isSome) s'):
 Vf (Vg X.prog X.w) A (Vs .In u (.ref a)) Q E s:=by
 rcases g with⟨kvs,k,e,ey,l⟩ | ⟨kvs,k,b,e,ey,eb,l⟩
 ·subst ey;obtain⟨z,hd,vs,rel,dd⟩:=iI I.hok e;refine wpAny_in_of (jj ry) hd dd.mapOf ?_;rw [<-(rel.val k).isSome_eq,<-l];exact h _ (I.tok _)
 ·subst ey;cases (show u=Of b from ry);obtain⟨z,hd,xs,rel,dd⟩:=jQ I.hok e;refine wpAny_in_heap (VS hu) (k9 I.hok eb) hd dd ?_;have q:=(rel.val k).isSome_eq;rw [Si] at q;rw [<-q,<-l];exact h _ (I.tok _)
theorem Iy{Q:U8->Va->Prop}(hu:A.units+1 < Vx)(I:af X Wy σ H s)(g:dj H a y o)(ry:aF y u)(h:∀s',af X Wy σ H s'->Q (.bool (!o.isSome)) s'):
 Vf (Vg X.prog X.w) A (Vs .NotIn u (.ref a)) Q E s:=by
 rcases g with⟨kvs,k,e,ey,l⟩ | ⟨kvs,k,b,e,ey,eb,l⟩
 ·subst ey;obtain⟨z,hd,vs,rel,dd⟩:=iI I.hok e;refine wpAny_notIn_of (jj ry) hd dd.mapOf ?_;rw [<-(rel.val k).isSome_eq,<-l];exact h _ (I.tok _)
 ·subst ey;cases (show u=Of b from ry);obtain⟨z,hd,xs,rel,dd⟩:=jQ I.hok e;refine wpAny_notIn_heap (VS hu) (k9 I.hok eb) hd dd ?_;have q:=(rel.val k).isSome_eq;rw [Si] at q;rw [<-q,<-l];exact h _ (I.tok _)
theorem vK{h':Vl}{t':Nat}{ob:HO}(I:af X Wy σ H s)(mu:j7 (H a))(hs:Rb a s.heap h')(he:∃q,h'.get? a=some q)(new:bV X.prog X.w (ao H a ob) h' a ob):
 af X Wy σ (ao H a ob) {s with heap:=h',toks:=t'}:=
 I.write (x:=a) (e:=a) mu (.inl rfl) (λb q hb z=>(hs.2 b hb).trans z) he new
theorem qT{P:Vj}{w:Vm}{H':Hp}{h':Vl}{kvs:List (ai×V)}{vs:List (ai×U8)}(z:kvs.length<=Ve)(hd:(a==VH)=false)(rel:KV kvs vs)(dd:h'.DictOf (ck P w) a vs):
 bV P w H' h' a (.dK kvs):=⟨z,hd,vs,rel,dd⟩
theorem Iz{H':Hp}{Q:Unit->Va->Prop}(hu:A.units+1 < Vx)(I:af X Wy σ H s)(g:nR H a y v H')(ry:aF y u)(rv:aF v r)(h:∀s',af X Wy σ H' s'->Q () s'):
 Vf (Vg X.prog X.w) A (setItem (.ref a) u r) Q E s:=by
 rcases g with⟨kvs,k,e,ey,l,eH⟩ | ⟨kvs,k,b,e,ey,eb,l,eH⟩
 ·subst ey eH;obtain⟨z,hd,vs,rel,dd⟩:=Bz I.hok e;have hz:vs.length<=Ve:=by rw [<-rel.length];exact z
  have hl:(putK kvs k v).length<=Ve:=by have:=vJ kvs k v;omega
  refine wpAny_setItem_pairs (hsz:=hz) (jj ry) dd λh' dd' hs=>h _ ?_;have he:∃q,h'.get? a=some q:=let ⟨q,_,_,hq,_⟩:=dd';⟨q,hq⟩
  exact vK I (by rw [e];exact O8) hs he (qT hl hd (rel.put k rv) dd')
 ·subst ey eH;cases (show u=Of b from ry);obtain⟨z,hd,xs,rel,dd⟩:=Ir I.hok e;have hz:xs.length<=Ve:=by rw [<-RZ rel];exact z
  have hl:(putK kvs k v).length<=Ve:=by have:=vJ kvs k v;omega
  refine wpAny_setItem_heap (hsz:=hz) (VS hu) (k9 I.hok eb) dd λh' dd' hs=>h _ ?_;obtain⟨q,es,ep,hq,h2,h3,h4,_,h5⟩:=dd';refine vK I (by rw [e];exact O8) hs ⟨q,hq⟩ ⟨hl,hd,_,(rel.put k eb rv).keeps λc ys ec=>?_,q,es,ep,hq,h2,h3,h4,h5⟩;rw [aA (FU ec e (λz=>nomatch z))];exact ec
end
def qU(i:Vd):Prop:=∀ov iv,V7 i false ov iv=operate [ov,iv] (VN ov iv)
theorem IA{prog:Vj}{w:Vm}{A:Vo}{E:U8->Va->Prop}{s:Va}{env:Env}{value slice:Vd}{pos:Pos}{T id:String}{Q:U8->Va->Prop}
 (hl:typeLookup (.type T) "__getitem__"=pure (some (.builtin id)))(hs:qU slice)
 (h:Vf (Vg prog w) A (eval value env) (λo s₁=>Vf (Vg prog w) A (eval slice env) (λi s₂=>s₂.TypeIs o T/\Vf (Vg prog w) A (VN o i) Q E s₂) E s₁) E s):
 Vf (Vg prog w) A (eval (.Subscript value slice pos) env) Q E s:=by
 refine Subscript_ (Vu h (λo s₁ h₁=>Vu h₁ (λi s₂ h₂=>?_) λ_ _ x=>x) λ_ _ x=>x);obtain⟨hT,h₂⟩:=h₂;unfold Wq;refine Vb ?_;rw [getitemInPython_of_ne hT.not_modules];refine Vb (wpAny_specialOf hT hl ?_);have fin:Vf (Vg prog w) A (V7 slice false o i) (λr s₃=>Vf (Vg prog w) A (letTemporaryGo value o r >>=λ_=>pure r) Q E s₃) E s₂:=by
  rw [hs o i];exact wpAny_operating (Vu h₂ (λr s₃ h₃=>Vb (wpAny_letTemporaryGo (Vi h₃))) λ_ _ x=>x)
 first
  | exact Vi (Vb fin)
  | exact Vb (Vi (Vb fin))
  | exact Vb fin
theorem IB{X:Cx}{Wy:List (U9×Obj)}{σ:St}{H:Hp}{s:Va}{a:U9}{y:V}{o:Option V}(I:af X Wy σ H s)(g:dj H a y o):s.TypeIs (.ref a) "dict":=by
 rcases g with⟨kvs,k,e,_,_⟩ | ⟨kvs,k,b,e,_,_,_⟩
 ·obtain⟨_,_,vs,_,dd⟩:=iI I.hok e;exact dd.typeIs
 ·obtain⟨_,_,xs,_,dd⟩:=jQ I.hok e;exact dd.typeIs
def IC(td ty:TE):TE:=λσ H Q=>td σ H λx H1=>ty σ H1 λy H2=>∃a v,x= .ref a/\dj H2 a y (some v)/\Q v H2
def ID(ty td:TE):TE:=λσ H Q=>ty σ H λy H1=>td σ H1 λx H2=>∃a o,x= .ref a/\dj H2 a y o/\Q (.bl o.isSome) H2
def IE(ty td:TE):TE:=λσ H Q=>ty σ H λy H1=>td σ H1 λx H2=>∃a o,x= .ref a/\dj H2 a y o/\Q (.bl (!o.isSome)) H2
def IF(td ty tv:TE):TS:=λD σ H=>tv σ H λv H1=>td σ H1 λx H2=>ty σ H2 λy H3=>∃a H4,x= .ref a/\nR H3 a y v H4/\D.nx σ H4
section
variable {X:Cx} {o i e value:Vd} {pos pos' tpos:Pos} {td ty tv:TE}
theorem BA(hu:X.A.units+1 < Vx)(ho:PE X o td)(hi:PE X i ty)(hs:qU i):PE X (.Subscript o i pos) (IC td ty):=by
 intro Wy s σ H Q I h;refine IA PySem.F.slot_dict_getitem.lookup hs (aB (ho Wy s σ H _ I h) λu s1 ⟨x,H1,I1,rx,q1⟩=>aB (hi Wy s1 σ H1 _ I1 q1) λiv s2 ⟨y,H2,I2,ry,a,v,ex,g,q2⟩=>?_);subst ex;obtain rfl:u=Of a:=rx;exact⟨IB I2 g,Iu hu I2 g ry λw' s3 I3 rw'=>⟨v,H2,I3,rw',q2⟩⟩
theorem BB(hu:X.A.units+1 < Vx)(hi:PE X i ty)(ho:PE X o td):PC X .In i o (ID ty td):=by
 intro Wy s σ H Q I h;refine aB (hi Wy s σ H _ I h) λiv s1 ⟨y,H1,I1,ry,q1⟩=>aB (ho Wy s1 σ H1 _ I1 q1) λu s2 ⟨x,H2,I2,rx,a,ov,ex,g,q2⟩=>?_;subst ex;obtain rfl:u=Of a:=rx;exact Iw hu I2 g ry λs3 I3=>⟨.bl ov.isSome,H2,I3,rfl,q2⟩
theorem BC(hu:X.A.units+1 < Vx)(hi:PE X i ty)(ho:PE X o td):PC X .NotIn i o (IE ty td):=by
 intro Wy s σ H Q I h;refine aB (hi Wy s σ H _ I h) λiv s1 ⟨y,H1,I1,ry,q1⟩=>aB (ho Wy s1 σ H1 _ I1 q1) λu s2 ⟨x,H2,I2,rx,a,ov,ex,g,q2⟩=>?_;subst ex;obtain rfl:u=Of a:=rx;exact Iy hu I2 g ry λs3 I3=>⟨.bl (!ov.isSome),H2,I3,rfl,q2⟩
theorem IG(hu:X.A.units+1 < Vx)(ho:PE X o td)(hi:PE X i ty)(hv:PE X value tv)(hs:Vw value (some (.Subscript o i pos')) pos.line X.env=pure false):
 PS X (.Assign [.Subscript o i pos'] value pos) (IF td ty tv):=by
 intro Wy s σ H D I h;refine wpAny_Assign_Subscript (aB (hv Wy s σ H _ I h) λr s1 ⟨v,H1,I1,rv,q1⟩=>aB (ho Wy s1 σ H1 _ I1 q1) λu s2 ⟨x,H2,I2,rx,q2⟩=>aB (hi Wy s2 σ H2 _ I2 q2) λiv s3 ⟨y,H3,I3,ry,a,H4,ex,g,q3⟩=>?_) hs;subst ex;obtain rfl:u=Of a:=rx;exact Iz hu I3 g ry rv λs4 I4=>⟨σ,H4,I4,q3⟩
end
theorem BD{P:Vj}{w:Vm}{H:Hp}(h:Vl)(hb:VH < h.objs.size):bV P w H (h.push {cls:= .type "dict",data:= .dict #[]}) h.objs.size (.dK []):=
 ⟨Pe _,beq_eq_false_iff_ne.mpr (Ne.symm (Oj hb)),[],.nil,Uo h⟩
def IH:TE:=λ_ H Q=>∀p,H p=none->Q (.ref p) (ao H p (.dK []))
section
variable {X:Cx} {pos:Pos}
theorem BE:PE X (.Dict [] [] pos) IH:=λWy s σ H Q I h=>
 wpAny_Dict_empty ⟨.ref s.heap.objs.size,_,I.laid (a:=s.heap.objs.size) (o:= .dK []) (t':=s.toks) (λ_ _ q=>NT _ q) (NV _) (BD s.heap I.big),rfl,h _ (I.hok.fresh (NV _))⟩
end
def qV:List (TE×TE)->St->Hp->(List (V×V)->Hp->Prop)->Prop
 | [],_,H,Q=>Q [] H
 | (tk,tv)::r,σ,H,Q=>tk σ H λx H1=>tv σ H1 λy H2=>qV r σ H2 λps H3=>Q ((x,y)::ps) H3
abbrev VV:List (V×V)->List (U8×U8)->Prop:=Paired λp q=>aF p.1 q.1/\aF p.2 q.2
def nS(X:Cx)(pos:Pos)(keys:List (Option Vd))(values:List Vd)(trs:List (TE×TE)):Prop:=
 ∀(Wy:List (U9×Obj))(s:Va)(σ:St)(H:Hp)(Q:List (V×V)->Hp->Prop),af X Wy σ H s->qV trs σ H Q->
  Vf (Vg X.prog X.w) X.A (evalPairs (pairTrees keys values X.env pos)) (λvs s'=>∃ps H',af X Wy σ H' s'/\VV ps vs/\Q ps H') X.xe s
theorem II{X:Cx}{pos:Pos}:nS X pos [] [] []:=λWy s σ H Q I h=>pairTrees_nil_walk ⟨[],H,I,.nil,h⟩
theorem IJ{X:Cx}{pos:Pos}{k v:Vd}{ks:List (Option Vd)}{vs:List Vd}{tk tv:TE}{trs:List (TE×TE)}(hk:PE X k tk)(hv:PE X v tv)(hr:nS X pos ks vs trs):
 nS X pos (some k::ks) (v::vs) ((tk,tv)::trs):=λWy s σ H Q I h=>
 pairTrees_cons_walk (aB (hk Wy s σ H _ I h) λu s1 ⟨x,H1,I1,rx,q1⟩=>aB (hv Wy s1 σ H1 _ I1 q1) λw2 s2 ⟨y,H2,I2,ry,q2⟩=>
  aB (hr Wy s2 σ H2 _ I2 q2) λws s3 uu68=>by obtain⟨ps,H3,I3,rel,q3⟩:=uu68;exact⟨(x,y)::ps,H3,I3,.cons ⟨rx,ry⟩ rel,q3⟩)
def gI(kvs more:List (ai×V)):List (ai×V):=more.foldl (λacc kv=>putK acc kv.1 kv.2) kvs
theorem KV.merge:∀{more:List (ai×V)}{rs:List (ai×U8)}{kvs:List (ai×V)}{vs:List (ai×U8)},KV more rs->KV kvs vs->KV (gI kvs more) (merged vs rs):=by
 intro more rs kvs vs r;unfold KV at r
 induction r generalizing kvs vs with
 | nil=>intro q;exact q
 | @cons p q ps qs h t ih=>
  intro r0;have e:KV (putK kvs p.1 p.2) (stored vs q.1 q.2):=by
   have:=r0.put p.1 h.2;rw [<-h.1];exact this
  exact ih e
theorem vL:∀(more kvs:List (ai×V)),(gI kvs more).length<=kvs.length+more.length
 | [],kvs=>by show kvs.length<=kvs.length+0;omega
 | p::r,kvs=>by
  have h1:=vL r (putK kvs p.1 p.2);have h2:=vJ kvs p.1 p.2;show(gI (putK kvs p.1 p.2) r).length<=_;rw [Og];omega
theorem BF{P:Vj}{w:Vm}:∀{kvs:List (ai×V)}{ws:List (U8×U8)},VV (kvs.map λkv=>(kV kv.1,kv.2)) ws->∃rs,Carries (ck P w) ws rs/\KV kvs rs
 | [],_,r=>by rw [OS] at r;cases r;exact⟨[],O8,.nil⟩
 | p::kvs,_,r=>by
  rw [NS] at r;cases r with
  | @cons a b as bs h t=>
   obtain⟨rs,c,q⟩:=BF (P:=P) (w:=w) t;obtain⟨b1,b2⟩:=b;exact⟨(p.1,b2)::rs,⟨jj h.1,rfl,c⟩,.cons ⟨rfl,h.2⟩ q⟩
def IK(trs:List (TE×TE)):TE:=λσ H Q=>∀p,H p=none->qV trs σ (ao H p (.dK [])) λps H2=>H2 p=some (.dK [])/\∃kvs:List (ai×V),ps=kvs.map (λkv=>(kV kv.1,kv.2))/\kvs.length<=15/\Q (.ref p) (ao H2 p (.dK (gI [] kvs)))
theorem IL{X:Cx}{pos:Pos}{keys:List (Option Vd)}{values:List Vd}{trs:List (TE×TE)}(h:nS X pos keys values trs)(hall:keys.all (·.isSome)=true)(hl:keys.length=values.length)(h0:keys≠[])
 (h15:keys.length<=15):PE X (.Dict keys values pos) (IK trs):=by
 intro Wy s σ H Q I q;have hn:=I.hok.fresh (NV s.heap.objs.size);have I1:=I.laid (a:=s.heap.objs.size) (o:= .dK []) (h':=s.heap.push {cls:= .type "dict",data:= .dict #[]}) (t':=s.toks) (λ_ _ q=>NT _ q) (NV _) (BD s.heap I.big);refine wpAny_Dict_walk (knd:=ck X.prog X.w) hall hl h0 h15 (aB (h Wy _ σ _ _ I1 (q _ hn)) λws s2 ⟨ps,H2,I2,rel,e,kvs,ep,lk,q2⟩=>?_);subst ep;obtain⟨rs,c,rk⟩:=BF (P:=X.prog) (w:=X.w) rel;obtain⟨z,hd,vs0,r0,dd⟩:=Bz I2.hok e;cases r0;refine⟨rs,c,dd,λh' dd' hs=>⟨.ref s.heap.objs.size,_,?_,rfl,q2⟩⟩;have hz:(gI [] kvs).length<=Ve:=by
  have h1:=vL kvs [];rw [Pf] at h1;rw [VE];omega
 have he:∃q,h'.get? s.heap.objs.size=some q:=let ⟨q,_,_,hq,_⟩:=dd';⟨q,hq⟩
 exact vK I2 (by rw [e];exact O8) hs he (qT hz hd (rk.merge .nil) dd')
structure M1 (X:Cx) (o:Vd) (m:Str) (apos:Pos) (e:Vd) (cpos:Pos):Prop where
 base:VJ o m X.env (eval o X.env)=eval o X.env
 few:((Vr cpos (Vc [e] X.env)).all (λx=>!x.1) && (backToKw cpos (V8 [] X.env)).all (λx=>x.1.isSome)
  && decide (([e]:List Vd).length+([]:List VO).length+(if ([]:List VO).isEmpty then 0 else 1) < 30))=true
 line:(apos.endLine==cpos.line)=true
 trees:Vr cpos (Vc [e] X.env)=[(false,eval e X.env)]
structure M2 (X:Cx) (o:Vd) (m:Str) (apos:Pos) (e f:Vd) (cpos:Pos):Prop where
 base:VJ o m X.env (eval o X.env)=eval o X.env
 few:((Vr cpos (Vc [e,f] X.env)).all (λx=>!x.1) && (backToKw cpos (V8 [] X.env)).all (λx=>x.1.isSome)
  && decide (([e,f]:List Vd).length+([]:List VO).length+(if ([]:List VO).isEmpty then 0 else 1) < 30))=true
 line:(apos.endLine==cpos.line)=true
 trees:Vr cpos (Vc [e,f] X.env)=[(false,eval e X.env),(false,eval f X.env)]
def BG(H:Hp)(a:U9):Prop:=(∃kvs,Rd H a (.dK kvs))\/∃kvs,Rd H a (.dT kvs)
theorem IM{X:Cx}{Wy:List (U9×Obj)}{σ:St}{H:Hp}{s:Va}{a:U9}(I:af X Wy σ H s)(d:BG H a):
 s.TypeIs (.ref a) "dict"/\(∀b,Of a= .ref b->∃ob,s.heap.get? b=some ob/\ob.dict=none)/\(a==VH)=false:=by
 rcases d with⟨kvs,e⟩ | ⟨kvs,e⟩
 ·obtain⟨_,hd,vs,_,dd⟩:=iI I.hok e;refine⟨dd.typeIs,λb q=>?_,hd⟩;cases q;obtain⟨ob,_,_,h1,h2,_⟩:=dd;exact⟨ob,h1,h2.2.1⟩
 ·obtain⟨_,hd,xs,_,dd⟩:=jQ I.hok e;refine⟨dd.typeIs,λb q=>?_,hd⟩;cases q;obtain⟨ob,_,_,h1,h2,_⟩:=dd;exact⟨ob,h1,h2.2.1⟩
section
variable {X:Cx} {Wy:List (U9×Obj)} {σ:St} {H:Hp} {s:Va} {a:U9} {y d:V} {u r:U8} {o:Option V} {A:Vo} {E:U8->Va->Prop}
theorem IP{Q:U8->Va->Prop}(hu:A.units+1 < Vx)(I:af X Wy σ H s)(g:dj H a y o)(ry:aF y u)(h:∀w' s',af X Wy σ H s'->aF (o.getD .non) w'->Q w' s'):
 Vf (Vg X.prog X.w) A (call (.builtin "dict.get") [.ref a,u]) Q E s:=by
 rcases g with⟨kvs,k,e,ey,l⟩ | ⟨kvs,k,b,e,ey,eb,l⟩
 ·subst ey;obtain⟨z,hd,vs,rel,dd⟩:=iI I.hok e;refine call_meetsIn RL dd.typeIs SX (SG _ _) (meets_dict_get (ck X.prog X.w) a (jj ry) hd) ⟨_,dd.mapOf,h _ _ (I.tok _) ?_⟩;rw [l];exact(rel.val k).getD rfl
 ·subst ey;cases (show u=Of b from ry);obtain⟨z,hd,xs,rel,dd⟩:=jQ I.hok e;refine call_meetsIn RL dd.typeIs SX (SG _ _) (meetsH_dict_get (Wm (ck X.prog X.w)) a b hd) ⟨VS hu,k,xs,k9 I.hok eb,dd,h _ _ (I.tok _) ?_⟩;rw [l];exact(rel.val k).getD rfl
end
def IQ(td ty:TE):TE:=λσ H Q=>td σ H λx H1=>∃a,x= .ref a/\BG H1 a/\ty σ H1 λy H2=>∃o,dj H2 a y o/\Q (o.getD .non) H2
section
variable {X:Cx} {o e f:Vd} {apos cpos:Pos} {td ty tx:TE}
theorem BH(hu:X.A.units+1 < Vx)(ho:PE X o td)(he:PE X e ty)(m:M1 X o "get" apos e cpos):PE X (.Call (.Attribute o "get" apos) [e] [] cpos) (IQ td ty):=by
 intro Wy s σ H Q I h;refine wpAny_Call_method m.base m.few m.line PySem.F.plainAttrs_dict RL PySem.F.type_dict_get (aB (ho Wy s σ H _ I h) λu s1 ⟨x,H1,I1,rx,a,ex,d,q1⟩=>?_);subst ex;obtain rfl:u=Of a:=rx;obtain⟨t1,t2,_⟩:=IM I1 d;refine⟨t1,t2,?_⟩;rw [m.trees];refine SV rfl (RO (Rc (aB (he Wy s1 σ H1 _ I1 q1) λiv s2 ⟨y,H2,I2,ry,ov,g,q2⟩=>Sb ?_)));exact IP hu I2 g ry λw' s3 I3 rw'=>⟨_,H2,I3,rw',q2⟩
end
section
variable {X:Cx} {Wy:List (U9×Obj)} {σ:St} {H:Hp} {s:Va} {a:U9} {kvs:List (ai×V)} {A:Vo} {E:U8->Va->Prop}
theorem IS{Q:U8->Va->Prop}(I:af X Wy σ H s)(e:Rd H a (.dK kvs))(h:∀p s',H p=none->af X Wy σ (ao H p (.dK kvs)) s'->Q (.ref p) s'):Vf (Vg X.prog X.w) A (call (.type "dict") [.ref a]) Q E s:=by
 obtain⟨z,hd,vs,rel,dd⟩:=iI I.hok e;refine kt_call_dict hd dd (by rw [<-rel.length];exact z) λh' dd' hs=>?_;refine h _ _ (I.hok.fresh (NV _)) (I.laid (a:=s.heap.objs.size) (o:= .dK kvs) (t':=s.toks) (λb q hq=>?_) (NV _) (qT z (beq_eq_false_iff_ne.mpr (Ne.symm (Oj I.big))) rel dd'));exact(hs.2 b (Oj (N5 hq))).trans (NT _ hq)
end
section
variable {X:Cx} {H0:Hp} {O0:Ex}
def litsOf:List Vd->Option (List U7)
 | []=>some []
 | .Constant (.int i) _ _::r=>(litsOf r).map (.int i::·)
 | .Constant (.str x) _ _::r=>(litsOf r).map (.str x::·)
 | _::_=>none
def la(ds:List U7):DA:=λ_ Q=>Q ds
theorem lh:∀{es:List Vd}{ds:List U7},litsOf es=some ds->PA X es (dD X.K H0 O0 (la ds))
 | [],ds,h=>by cases h;exact ah
 | e::r,ds,h=>by
  cases e with
  | Constant c j p=>
   cases c with
   | int i=>
    have h':(litsOf r).map (.int i::·)=some ds:=h;cases q:litsOf r with
    | none=>rw [q] at h';cases h'
    | some ms=>rw [q] at h';cases h';exact aa ag (lh q)
   | str x=>
    have h':(litsOf r).map (.str x::·)=some ds:=h;cases q:litsOf r with
    | none=>rw [q] at h';cases h'
    | some ms=>rw [q] at h';cases h';exact aa aQ (lh q)
   | _=>cases h
  | _=>cases h
def litsE:Vd->Option (List U7)
 | .List es _=>litsOf es
 | _=>none
theorem vM{e:Vd}{ds:List U7}(h:litsE e=some ds):FE X H0 O0 e (kI (la ds)):=by
 cases e with
 | List es p=>exact cy (lh h)
 | _=>cases h
theorem IT{e:Vd}{ds:List U7}{x:Option Vd}{n:Nat}{env:Env}(h:litsE e=some ds):Vw e x n env=pure false:=by
 cases e with
 | List es p=>rfl
 | _=>cases h
end
structure cI (n:Nat) (x:Str):Prop where
 ok:N0 x=true
 le:x.length<=n
theorem jR{x:Str}:N0 x=true↔∀c∈x.cps.toList,c < 0x110000:=by
 unfold N0;rw [<-Array.all_toList,PR];simp
theorem vN(x y:Str):(x++y).cps=x.cps++y.cps:=rfl
theorem BI(x y:Str):(x++y).length=x.length+y.length:=by
 show(x.cps++y.cps).size=_;rw [Array.size_append];rfl
theorem cI.append{a b:Nat}{x y:Str}(h:cI a x)(h':cI b y):cI (a+b) (x++y):=by
 refine⟨jR.mpr λc hc=>?_,by rw [BI];have:=h.le;have:=h'.le;omega⟩;rw [vN,QG] at hc;rcases Oo.mp hc with z | z
 ·exact jR.mp h.ok c z
 ·exact jR.mp h'.ok c z
theorem cI.mono{a b:Nat}{x:Str}(h:cI a x)(hb:a<=b):cI b x:=⟨h.ok,Ot h.le hb⟩
theorem cI.slice{a:Nat}{x:Str}(h:cI a x)(l u:Option Int):cI a (Txt.slice x l u):=by
 refine⟨jR.mpr λc hc=>?_,Ot (Txt.slice_le x l u) h.le⟩;unfold Txt.slice at hc;split at hc
 ·exact jR.mp h.ok c hc
 ·simp only [P7] at hc;obtain⟨i,_,hi⟩:=hc;exact jR.mp h.ok c (by
   have:=Array.mem_of_getElem? hi;simpa using this)
theorem cI.chr{c:Nat}(h:c < 0x110000):cI 1 ⟨#[c]⟩:=⟨jR.mpr λd hd=>by
 have:d=c:=by simpa using hd
 rw [this];exact h,NV _⟩
theorem cI.join:∀{ys:List Str},(∀y∈ys,cI 1 y)->cI ys.length (Txt.join "" ys):=by
 have key:∀ys:List Str,(∀y∈ys,cI 1 y)->cI ys.length (Str.join "" ys):=by
  intro ys
  induction ys with
  | nil=>intro _;exact⟨U0,U0⟩
  | cons y r ih=>
   intro h;cases r with
   | nil=>exact h y U6
   | cons z r=>
    have a:=h y U6;have b:=ih λw hw=>h w (by simp [hw]);have e:cI 0 ("":Str):=⟨U0,U0⟩;have:=(a.append e).append b;refine this.mono ?_;simp only [Og];omega
 intro ys h;have e:Txt.join "" ys=Str.join "" ys:=StrLaws.glued_eq_join "" ys;rw [e];exact key ys h
def eL:Str:="abcdefghijklmnopqrstuvwxyz"
theorem IU:eL.cps.toList.length=26:=U0
theorem IV:eL.cps.toList.Nodup:=U0
theorem IW:∀c∈eL.cps.toList,c < 0x110000:=U0
theorem nT{j:Int}(h0:0<=j)(h1:j < 26):∃c,atI eL.cps.toList j=some c/\eL.cps.toList[j.toNat]?=some c/\c < 0x110000:=by
 obtain⟨k,rfl⟩:=Pm h0;have hk:k < eL.cps.toList.length:=by rw [IU];omega
 refine⟨eL.cps.toList[k],fN (by simp [hk]),by simp [hk],IW _ (Py hk)⟩
def dH(j:Int):Nat:=(eL.cps.toList[j.toNat]?).getD 0
theorem IX{j:Int}(h0:0<=j)(h1:j < 26):atI eL.cps.toList j=some (dH j)/\dH j < 0x110000:=by
 obtain⟨c,e1,e2,e3⟩:=nT h0 h1;have:dH j=c:=by unfold dH;rw [e2];rfl
 rw [this];exact⟨e1,e3⟩
theorem IY{i j:Int}(h0:0<=i)(h1:i < 26)(g0:0<=j)(g1:j < 26)(e:dH i=dH j):i=j:=by
 obtain⟨c,_,e2,_⟩:=nT h0 h1;obtain⟨d,_,e4,_⟩:=nT g0 g1;have a:dH i=c:=by unfold dH;rw [e2];rfl
 have b:dH j=d:=by unfold dH;rw [e4];rfl
 have cd:c=d:=by rw [<-a,<-b,e]
 subst cd;have hi:i.toNat < eL.cps.toList.length:=(N7.mp e2).1;have:=(T2 (l:=eL.cps.toList) (i:=i.toNat) (j:=j.toNat) hi IV).mp (by rw [e2,e4]);omega
structure cA (n:Nat) (d:U7):Prop where
 can:d.canLay0=true
 dep:d.depth<=n
theorem cA.shp{n:Nat}{d:U7}(h:cA n d)(hn:n<=64):OP d=true:=by
 unfold OP;rw [h.can,decide_eq_true (Ot h.dep hn)];rfl
theorem cA.mono{n m:Nat}{d:U7}(h:cA n d)(hn:n<=m):cA m d:=⟨h.can,Ot h.dep hn⟩
theorem BJ{x:Str}(h:N0 x=true):cA 1 (.str x):=⟨by simpa [Ox] using h,by simp [Qf]⟩
theorem BK{i:Int}:cA 1 (.int i):=⟨by simp [Ox],by simp [Qf]⟩
theorem IZ{i:Bool}:cA 1 (.bool i):=⟨by simp [Ox],by simp [Qf]⟩
theorem vO{n:Nat}:∀{ds:List U7},(∀d∈ds,cA n d)->Pk ds=true/\Q6 ds<=n
 | [],_=>⟨by simp [Pk],by simp [Q6]⟩
 | d::r,h=>by
  obtain⟨a,b⟩:=vO (ds:=r) λe he=>h e (by simp [he]);have c:=h d U6;refine⟨by rw [Pk,c.can,a];rfl,?_⟩;rw [Q6];exact Nat.max_le.mpr ⟨c.dep,b⟩
theorem cX{n:Nat}{ds:List U7}(h:∀d∈ds,cA n d):cA (n+1) (.tuple ds):=by
 obtain⟨a,b⟩:=vO h;refine⟨by simpa [Ox] using a,?_⟩;rw [Qf];omega
def PU(X:Cx)(e:Vd)(te:TE):Prop:=∀(i:Nat)(x:Str)(pos' spos:Pos)(hN:X.N.Nodup)(hxi:X.N[i]?=some x)(hx:gc X.env.scope x)(hsw:Vw e (some (.Name x pos')) spos.line X.env=pure true)
 (hfn:X.fn x=true\/X.env.scope.names.lookup x=some .local),PS X (.Assign [.Name x pos'] e spos) (kh te (gf i))
theorem PU.imp{X:Cx}{e:Vd}{t u:TE}(h:PU X e t)(i:∀σ H Q,u σ H Q->t σ H Q):PU X e u:=λi' x p1 p2 hN hxi hx hsw hfn=>(h i' x p1 p2 hN hxi hx hsw hfn).imp λD σ H z=>i σ H _ z
section
variable {X:Cx} {H0:Hp} {O0:Ex}
section
variable {tg iter elt:Vd} {ifs:List Vd} {scope:Vv} {N':List Str} {k:Nat} {fr:List Nat} {g:TG} {dg:DG} {t:DT} {ta:DA} {tc:DB} {te:DT} {pos p ps:Pos}
theorem BL{wi:TI}{tc:TT}{te:TE}(hc:X.calm=true)(S:bj X.env.scope X.N N' k fr scope)(hi:PI X tg iter wi)
 (hg:∀fp C s H,PG (bR X scope N' fp C s H) tg g)(hf:∀fp C s H,fk (bR X scope N' fp C s H) ifs tc)(he:∀fp C s H,PE (bR X scope N' fp C s H) elt te)
 (hs:∀x,Vp iter X.env x=pure x:=by intro _;rfl):PU X (.ListComp elt [⟨tg,iter,ifs,0⟩] scope pos) (i6 wi g tc te k fr):=
 λ_ _ _ _ hN hxi hx hsw hfn=>Hn hN hxi hx hc S hi hg hf he hsw hs hfn
theorem nU(hc:X.calm=true)(S:bj X.env.scope X.N N' k fr scope)(hi:DF X H0 O0 iter t)(gd:GD X.K g dg)(hk:iE g k)(hfr:fr.Nodup)
 (hg:∀fp C s H,PG (bR X scope N' fp C s H) tg g)(hf:∀fp C s H,fk (bR X scope N' fp C s H) ifs (bY X.K H0 O0 tc))(he:∀fp C s H,PE (bR X scope N' fp C s H) elt (up X.K H0 O0 te))
 (hs:∀x,Vp iter X.env x=pure x:=by intro _;rfl):PU X (.ListComp elt [⟨tg,iter,ifs,0⟩] scope pos) (mM X.K H0 O0 (jN t dg tc te k fr)):=
 (BL hc S (mm hi) hg hf he hs).imp λσ H Q uu72=>by obtain⟨O,δ,Qd,w,q,kk⟩:=uu72;exact⟨O,δ,_,w,q,λd v H1 uu73 s1 r1=>by
  obtain⟨xs,e,hz,q1⟩:=uu73;subst e;obtain⟨a,vs,rfl,hq,rr⟩:=r1.lst;refine⟨a,rfl,⟨_,hq⟩,λD hD=>kO (cE.list hq) gd hfr (λv _ H' R h=>hk fr σ v H' R h) (λ_ _ _ z=>z) (λ_ _ _ z=>z) (λD H' hD s' o e=>s' _ _ e (cL e hD)) rr (w.mono s1) (by rw [rr.length];exact hz) q1 (λds us p H' z s' hp r'=>kk ds us p H' z (s1.trans s') hp r') D hD⟩⟩
end
theorem iJ{i:Nat}{x:Str}{e:Vd}{t:DA}{pos pos':Pos}(hN:X.N.Nodup)(hi:X.N[i]?=some x)(hx:gc X.env.scope x)(he:PU X e (mM X.K H0 O0 t))(hs:Vw e (some (.Name x pos')) pos.line X.env=pure true:=by rfl)(hf:X.fn x=true\/X.env.scope.names.lookup x=some .local:=by first | exact .inl rfl | exact .inr rfl | assumption):
 PS X (.Assign [.Name x pos'] e pos) (bA X.K H0 O0 (je i (dL t))):=
 (he _ _ _ _ hN hi hx hs hf).imp λD σ H ⟨O,δ,E,w,q,k1,k2,k3,k4⟩=>⟨O,δ,_,w,q,λds vs p H1 q1 s1 hp r1=>
  k1 O _ _ _ q1 ((w.mono (s1.trans (aj.new hp))).set (.lst (.inl aR) (kD w s1 hp) (r1.mono (aj.new hp)))) (.same (s1.trans (aj.new hp)))⟩
def nV(ta:DA)(g:DG)(tc:DB)(te:DT)(k:Nat)(fr:List Nat):DA:=λδ Q=>ta δ λds=>∃i j:Int,ds=[.int i,.int j]/\-(2 ^ 62)<=i/\j - i < Ve/\i < 2 ^ 62/\-(2 ^ 62)<=j/\j < 2 ^ 62/\fD g tc te (eJ k fr δ) (iC i (j - i).toNat) Q
section
variable {tg iter elt:Vd} {ifs:List Vd} {scope:Vv} {N':List Str} {k:Nat} {fr:List Nat} {g:TG} {dg:DG} {t:DT} {ta:DA} {tc:DB} {te:DT} {pos p ps:Pos}
theorem I0(hc:X.calm=true){a b:Vd}(S:bj X.env.scope X.N N' k fr scope)(hgl:Gl X "range")(hm:X.mg "range"=none)(ha:PA X [a,b] (fC X.K H0 O0 ta))(gd:GD X.K g dg)(hk:iE g k)(hfr:fr.Nodup)
 (hg:∀fp C s H,PG (bR X scope N' fp C s H) tg g)(hf:∀fp C s H,fk (bR X scope N' fp C s H) ifs (bY X.K H0 O0 tc))(he:∀fp C s H,PE (bR X scope N' fp C s H) elt (up X.K H0 O0 te))
 (hst:Vc [a,b] X.env=[(false,eval a X.env),(false,eval b X.env)]:=by rfl)(hst2:Vc [b] X.env=[(false,eval b X.env)]:=by rfl)(hs:∀x,Vp (.Call (.Name "range" p) [a,b] [] ps) X.env x=pure x:=by intro _;rfl):
 FE X H0 O0 (.ListComp elt [⟨tg,(.Call (.Name "range" p) [a,b] [] ps),ifs,0⟩] scope pos) (nV ta dg tc te k fr):=
 (mB hc S (uO hgl hm ha hst hst2) hg hf he hs).imp λσ H Q uu75=>by obtain⟨O,δ,Qd,w,q,kk⟩:=uu75;exact⟨O,δ,_,w,q,λds vs H1 uu76 s1 r1=>by
  obtain⟨i,j,e,b1,b2,b3,b4,b5,q1⟩:=uu76;subst e;cases r1 with
  | cons r1 r2=>
   cases r2 with
   | cons r2 r3=>
    cases r3;cases r1.int;cases r2.int;exact⟨i,j,rfl,⟨b1,b3,b4,b5⟩,λD hD=>kO (P:=λ_=>True) cE.rng gd hfr (λv _ H' R h=>hk fr σ v H' R h) (λ_ _ _ z=>z) (λ_ _ _ z=>z) (λ_ _ _ _=>trivial) (ak.rng _) (w.mono s1) (by rw [NO,Rv];omega) q1 (λds us p H' z s' hp r'=>kk ds us p H' z (s1.trans s') hp r') D hD⟩⟩
end
def vP(K:NM)(neg:Bool):R2:=λx y H Q=>∃O dx ds dy,Sh K H O x dx/\Sh K H O y dy/\(dy= .list ds\/dy= .tuple ds)/\dB dx/\Pk ds=true/\Q (.bl (if neg then !(ds.any λd=>N4 d dx) else ds.any λd=>N4 d dx)) H
theorem qW{A:Vo}{k:Nat}{xs:List U7}{d:U7}(hd:dB d)(hr:aT k A):A.units+1+min (Q6 xs) d.depth < Vx:=by
 have:=SeqAt.depth_of_shaped hd;have h1:min (Q6 xs) d.depth<=d.depth:=Ub _ _;have:=hr.un;omega
theorem vQ{k:Nat}(hr:aT k X.A):bT X (Vs .In) (vP X.K false):=by
 intro Wy s σ H x y v u Q I rx ry h;obtain⟨O,dx,ds,dy,hx,hy,e,sx,sy,q⟩:=h;obtain⟨as,ra⟩:=gE I hx.all (O9 sx) rx;rcases e with e | e <;> subst e
 ·obtain⟨bs,rb⟩:=gE I hy.all (by simpa [Ox] using sy) ry;exact SeqAt.in_list_reads rb ra sy (O9 sx) (qW sx hr) (bN I q rfl)
 ·obtain⟨bs,rb⟩:=gE I hy.all (by simpa [Ox] using sy) ry;exact SeqAt.in_tuple_reads rb ra sy (O9 sx) (qW sx hr) (bN I q rfl)
theorem BM{k:Nat}(hr:aT k X.A):bT X (Vs .NotIn) (vP X.K true):=by
 intro Wy s σ H x y v u Q I rx ry h;obtain⟨O,dx,ds,dy,hx,hy,e,sx,sy,q⟩:=h;obtain⟨as,ra⟩:=gE I hx.all (O9 sx) rx;rcases e with e | e <;> subst e
 ·obtain⟨bs,rb⟩:=gE I hy.all (by simpa [Ox] using sy) ry;exact SeqAt.notIn_list_reads rb ra sy (O9 sx) (qW sx hr) (bN I q rfl)
 ·obtain⟨bs,rb⟩:=gE I hy.all (by simpa [Ox] using sy) ry;exact SeqAt.notIn_tuple_reads rb ra sy (O9 sx) (qW sx hr) (bN I q rfl)
def nW(neg:Bool):U7->U7->(U7->Prop)->Prop:=λx y Q=>∃ds,(y= .list ds\/y= .tuple ds)/\dB x/\Pk ds=true/\Q (.bool (if neg then !(ds.any λd=>N4 d x) else ds.any λd=>N4 d x))
theorem nX{K:NM}{neg:Bool}:cx K (vP K neg) (nW neg):=λH O x y dx dy Qd R _ hx hy uu77 k=>by obtain⟨ds,e,a,b,q⟩:=uu77;exact⟨O,dx,ds,dy,hx,hy,e,a,b,k _ _ H q (aj.refl _) (.bl _)⟩
def nY:List U7->(U7->Prop)->Prop:=λds Q=>∃z:Str,ds=[.str z]/\z.length<=Ve/\Q (.int z.length)
theorem Ja{K:NM}:fO K (λxs H Q=>∃z,xs=[.str z]/\z.length<=Ve/\Q (.int z.length) H) nY:=λH O xs ds Qd R _ hs uu78 k=>by
 obtain⟨z,e,hz,q⟩:=uu78;subst e;cases hs with
 | cons h r=>cases r;cases h.str;exact⟨z,rfl,hz,k _ _ H q (aj.refl _) (.int _)⟩
theorem Jb{prog:Vj}{w:Vm}{A:Vo}{E:U8->Va->Prop}{s:Va}{t sl:U9}{items:Array U8}{vl vu:U8}{lo hi:Option Int}{Q:U8->Va->Prop}(ht:IsTup s.heap t items)(hs:s.heap.IsSliceOf sl vl vu .none)(pl:IsPart vl lo)(pu:IsPart vu hi)
 (hw:HT.sIx items.size 0 lo=0/\HT.sIx items.size items.size hi=items.size)(h:Q (.ref t) s):Vf (Vg prog w) A (VN (.ref t) (.ref sl)) Q E s:=by
 obtain⟨os,hos,hcs,hds⟩:=id hs;have hTs:s.TypeIs (.ref sl) "slice":=⟨os,hos,hcs⟩;unfold VN
 try with_reducible refine Vz ?_
 first | refine Vb (Vi ?_) | skip
 refine Vb (Ws ht.typeIs U1 ?_);refine Vb (V5 (name:=NL "__getitem__") ht.typeIs Pl
  (VW Pl ht.typeIs RH ?_ (RM _ _)))
 show Vf _ _ (QX (.ref t) >>=_) _ _ s;refine Vb (tupleItemsOf_ ht ?_);refine Vb (V0 hTs ?_);rw [U4 U1];refine Vb (HT.sliceApplied_gen hs pl pu ?_);show Vf _ _ (if (((HT.sIx items.size 0 lo:Nat):Int)==0 && (1:Int)==1 && (HT.sIx items.size items.size hi - HT.sIx items.size 0 lo)==items.size)=true then _ else _) _ _ s;rw [U4 (by rw [hw.1,hw.2];simp)];unfold Builtin.Tuple.tupleIsExact;refine Vb (Vb (V0 ht.typeIs (Vi ?_)));rw [U4 U1];exact Vb (wpAny_rule (Vi ⟨_,rfl,Vi h⟩))
def Jc(K:NM):V->Option Int->Option Int->Hp->VK->Prop:=λx lo hi H Q=>∃a xs,x= .ref a/\bx K H a xs/\
 ((HT.sIx xs.length 0 lo=0/\HT.sIx xs.length xs.length hi=xs.length)->Q x H)/\(¬(HT.sIx xs.length 0 lo=0/\HT.sIx xs.length xs.length hi=xs.length)->∀p,H p=none->Q (.ref p) (ao H p (.tup (iy xs lo hi))))
theorem Jd:my X (Jc X.K):=by
 intro Wy s σ H x v vl vu lo hi sl Q I rx hs pl pu h;obtain⟨a,xs,rfl,hx,q1,q2⟩:=h;by_cases hw:HT.sIx xs.length 0 lo=0/\HT.sIx xs.length xs.length hi=xs.length
 ·cases rx;obtain⟨its,r,ht,hz⟩:=I.tuple hx;have hlen:its.toArray.size=xs.length:=by rw [N8];exact r.length.symm
  refine⟨"tuple",_,Pl.lookup,ht.typeIs,?_⟩;exact Jb ht hs pl pu (by rw [hlen];exact hw) ⟨.ref a,H,I,rfl,q1 hw⟩
 ·exact GY Wy s σ H _ v vl vu lo hi sl Q I rx hs pl pu ⟨a,xs,rfl,hx,hw,q2 hw⟩
theorem Je{xs:List U7}{l u:Option Int}(h:HT.sIx xs.length 0 l=0/\HT.sIx xs.length xs.length u=xs.length):cV xs l u=xs:=by
 unfold cV;rw [h.1,h.2];simp
def lq(t:DT)(tl th:DO):DT:=λδ Q=>t δ λd=>tl δ λl=>th δ λu=>∃xs,d= .tuple xs/\Q (.tuple (cV xs l u))
theorem vR{e:Vd}{lo hi:Option Vd}{t:DT}{tl th:DO}{pos p2:Pos}(h:DF X H0 O0 e t)(hl:PO X lo (gH X.K H0 O0 tl))(hu:PO X hi (gH X.K H0 O0 th)):DE X H0 O0 (.Subscript e (.Slice lo hi none p2) pos) (lq t tl th):=
 (qB Jd h hl hu).imp λσ H Q ⟨O,δ,Qd,w,q,k⟩=>⟨O,δ,_,w,q,λd v H1 q1 s1 r1=>⟨O,δ,_,w.mono s1,q1,λl H2 q2 s2=>⟨O,δ,_,w.mono (s1.trans s2),q2,λu H3 uu80 s3=>by
  obtain⟨xs,e,q3⟩:=uu80;subst e;have r3:=r1.mono (s2.trans s3);have r4:=r3;obtain⟨a,vs,rfl,h1,d1⟩:=r4.tup;refine⟨a,vs,rfl,h1,λhw=>?_,λ_ p hp=>k _ _ _ q3 (s1.trans (s2.trans (s3.trans (aj.new hp)))) (.tup (.inl aR) (kD w (s1.trans (s2.trans s3)) hp) ((d1.cut l u).mono (aj.new hp)))⟩;rw [d1.length] at hw;rw [Je hw] at q3;cases r3 with
  | dt r3=>exact k _ _ _ q3 (s1.trans (s2.trans s3)) r3⟩⟩⟩
def dR(a b:Str):Bool:=decide (a.cps.toList<=b.cps.toList)
def dJ(l:List Str):List Str:=l.mergeSort dR
theorem BN(a b c:Str)(h:dR a b=true)(h':dR b c=true):dR a c=true:=
 decide_eq_true (List.le_trans (of_decide_eq_true h) (of_decide_eq_true h'))
theorem Jf(a b:Str):(dR a b || dR b a)=true:=by
 rcases List.le_total a.cps.toList b.cps.toList with h | h
 ·unfold dR;rw [decide_eq_true h];rfl
 ·unfold dR;rw [decide_eq_true h,UJ]
theorem BO{a b:Str}(h:a.cps.toList=b.cps.toList):a=b:=by
 cases a;cases b;congr 1;exact Array.ext' h
theorem BP{a b:Str}(h:dR a b=true)(h':dR b a=true):a=b:=BO (Ud (of_decide_eq_true h) (of_decide_eq_true h'))
theorem fG(l:List Str):(dJ l).Perm l:=List.mergeSort_perm l dR
theorem BQ(l:List Str):(dJ l).Pairwise λa b=>dR a b=true:=List.pairwise_mergeSort BN Jf l
theorem BR{l m:List Str}(h:m.Perm l)(p:m.Pairwise λa b=>dR a b=true):m=dJ l:=
 List.Perm.eq_of_pairwise (λa b _ _ x y=>BP x y) p (BQ l) (h.trans (fG l).symm)
theorem BS:∀(p:Str)(l:List Str),risingS p l=true->(p::l).Pairwise λa b=>dR a b=true
 | p,[],_=>by simp
 | p,x::r,h=>by
  rw [risingS,OV,PZ,ltCps_eq,decide_eq_false_iff_not] at h;have h1:dR p x=true:=decide_eq_true (T8.mp h.1);have h2:=BS x r h.2;rw [OT];refine⟨λy hy=>?_,h2⟩;rcases N9.mp hy with z | z
  ·rw [z];exact h1
  ·exact BN p x y h1 ((OT.mp h2).1 y z)
theorem BU:∀(l:List Str),sortedS l=true->l.Pairwise λa b=>dR a b=true
 | [],_=>.nil
 | x::r,h=>BS x r h
theorem BV:∀{ys:List Str}{us:List U8},aE (ys.map V.str) us->StrsAre us ys:=by
 intro ys
 induction ys with
 | nil=>intro us rv;cases rv;exact .nil
 | cons y ys ih=>
  intro us rv;rw [NS] at rv;cases rv with
  | cons r1 r2=>obtain⟨t,rfl⟩:=r1;exact .cons y t (ih r2)
theorem vS:∀{ys:List Str}{us:List U8},StrsAre us ys->aE (ys.map V.str) us
 | _,_,.nil=>.nil
 | _,_,.cons y t r=>.cons ⟨t,rfl⟩ (vS r)
theorem Jg:cH X (.builtin "sorted") (λxs H Q=>∃p ss,xs=[.ref p]/\aV X.K H p (ss.map V.str)/\ss.length < 64/\∀l,H l=none->Q (.ref l) (ao H l (.lst ((dJ ss).map V.str)))):=by
 intro Wy s σ H xs us Q I r h;obtain⟨p,ss,rfl,hq,h64,q⟩:=h;obtain⟨u,rfl,rx⟩:=c9 r;cases rx;obtain⟨its,rv,pl,hz⟩:=I.list hq;have hlen:=rv.length;rw [NO] at hlen;refine sorted_strs pl.isList (BV rv) U2 λout ss' a1 a2 a3=>?_;obtain⟨e,he⟩:=sortedAll_at s.heap its out;have es:ss'=dJ ss:=BR a2 (BU _ a3);subst es;have hl2:(dJ ss).length=ss.length:=a2.length_eq;refine⟨.ref _,_,I.laid (t':=s.toks) (o:= .lst ((dJ ss).map V.str)) (λb ob q=>sortedAll_old q) (RW _) ?_,rfl,q _ (I.hok.fresh (RW _))⟩;refine⟨by rw [NO,hl2];exact Ot (Qm h64) U1,out.toList,e,vS a1,?_⟩;rw [he]
theorem ak.strs{K:NM}{H:Hp}{O:Ex}:∀{ss:List Str}{vs:List V},ak K H O vs (ss.map NP)->vs=ss.map V.str
 | [],_,r=>by rw [OS] at r;cases r;rfl
 | b::bs,_,r=>by
  rw [NS] at r;cases r with
  | cons h r=>cases h;rw [NS,ak.strs r]
theorem ak.ofStrs{K:NM}{H:Hp}{O:Ex}:∀(ss:List Str),ak K H O (ss.map V.str) (ss.map NP)
 | []=>.nil
 | s::r=>.cons (.str s) (ak.ofStrs r)
def nZ(t:DA):DA:=λδ Q=>t δ λds=>∃ss:List Str,ds=[.list (ss.map .str)]/\ss.length < 64/\Q ((dJ ss).map .str)
theorem Jh{a:Vd}{t:DA}{np p:Pos}(hg:Gl X "sorted")(hm:X.mg "sorted"=none)(hv:Vq "sorted"=some (.builtin "sorted"))(ha:PA X [a] (fC X.K H0 O0 t))(he:Vc [a] X.env=(false,eval a X.env)::Vc [] X.env:=by rfl)(hpl:(Vr p (Vc [] X.env)).any (·.1)=false:=by rfl):FE X H0 O0 (.Call (.Name "sorted" np) [a] [] p) (nZ t):=
 (bP Jg hg hm hv ha (he:=he) (hpl:=hpl)).imp λσ H Q uu81=>by obtain⟨O,δ,Qd,w,q,k⟩:=uu81;exact⟨O,δ,_,w,q,λds vs H1 uu82 s1 r1=>by
  obtain⟨ss,e,h64,q1⟩:=uu82;subst e;cases r1 with
  | cons h r=>
   cases r;obtain⟨a,us,rfl,h1,d1⟩:=h.lst;cases d1.strs;exact⟨a,ss,rfl,h1,h64,λl hl=>k _ _ _ _ q1 s1 hl (ak.ofStrs _)⟩⟩
end
end L2
namespace PySem.SeqAt
open AutoSeq1 (wpAny_loadPart')
open MeetsSeq
theorem BW(l:U9)(es:Array Wh)(n:Nat)(dd:Option U9)(sl:Array (Option U8))(b:Str)(u:Tok):
 Meets (Builtin.«dict.__eq__» ⟨[.ref l,.str b u],[]⟩) (λ_ R s=>s.heap.get? l=some {cls:= .type "dict",dict:=dd,data:= .dict es n,slots:=sl}/\R (.ok (.ret .notImplemented)) s):=
 .of_wp λprog w A R s h=>by obtain⟨hp,g,d,tk,os⟩:=s;obtain⟨hl,h⟩:=h;have f1:=F.sub_str_dict;wp_walk using VG hl;exact⟨_,rfl,h⟩
theorem BX(b:Str)(u:Tok)(l:U9)(c:U8)(es:Array Wh)(n:Nat)(dd:Option U9)(sl:Array (Option U8)):
 Meets (Builtin.«str.__eq__» ⟨[.str b u,.ref l],[]⟩) (λ_ R s=>s.heap.get? l=some {cls:=c,dict:=dd,data:= .dict es n,slots:=sl}/\R (.ok (.ret .notImplemented)) s):=
 .of_wp λprog w A R s h=>by obtain⟨hp,g,d,tk,os⟩:=s;obtain⟨hl,h⟩:=h;wp_walk using VG hl,wpAny_load hl;exact⟨_,rfl,h⟩
section
variable {A:Vo} {s:Va}
theorem RcAt.dict_str{l:U9}{es:Array Wh}{n:Nat}{o:Obj}(b:Str)(u:Tok)(ho:s.heap.get? l=some o)(hc:o.cls= .type "dict")(hd:o.data= .dict es n)(hu:A.units < Vx):RcAt A s (.ref l) (.str b u) false:=λprog w E Q h=>by
 obtain⟨cls,dd,data,sl⟩:=o;simp only at hc hd;subst hc hd;exact rc_eq_decline_or (k:=false) ⟨_,ho,rfl⟩ (V4 s b u) U1 F.sub_str_dict F.slot_dict_eq F.slot_str_eq_refl
  (λ_ hq=>VR F.slot_dict_eq ⟨_,ho,rfl⟩ F.entry_dict_eq (F.args_dict_eq_2 _ _) (BW l es n dd sl b u) ⟨ho,hq⟩)
  (λ_ hq=>VR F.slot_str_eq_refl (V4 s b u) F.entry_str_eq (F.args_str_eq_2 _ _) (BX b u l (.type "dict") es n dd sl) ⟨ho,hq⟩)
  (λ_ hq=>wpAny_of_eq (rfl:isSame (.ref l) (.str b u)=pure false) hq) (.inr hu) h
theorem RcAt.str_dict{l:U9}{es:Array Wh}{n:Nat}{o:Obj}(b:Str)(u:Tok)(ho:s.heap.get? l=some o)(hc:o.cls= .type "dict")(hd:o.data= .dict es n)(hu:A.units < Vx):RcAt A s (.str b u) (.ref l) false:=λprog w E Q h=>by
 obtain⟨cls,dd,data,sl⟩:=o;simp only at hc hd;subst hc hd;exact rc_eq_decline_or (k:=false) (V4 s b u) ⟨_,ho,rfl⟩ U1 F.sub_dict_str F.slot_str_eq F.slot_dict_eq_refl
  (λ_ hq=>VR F.slot_str_eq (V4 s b u) F.entry_str_eq (F.args_str_eq_2 _ _) (BX b u l (.type "dict") es n dd sl) ⟨ho,hq⟩)
  (λ_ hq=>VR F.slot_dict_eq_refl ⟨_,ho,rfl⟩ F.entry_dict_eq (F.args_dict_eq_2 _ _) (BW l es n dd sl b u) ⟨ho,hq⟩)
  (λ_ hq=>wpAny_of_eq (rfl:isSame (.str b u) (.ref l)=pure false) hq) (.inr hu) h
theorem EqAt.str_dict{l:U9}{es:Array Wh}{n:Nat}{o:Obj}(b:Str)(u:Tok)(ho:s.heap.get? l=some o)(hc:o.cls= .type "dict")(hd:o.data= .dict es n)(hu:A.units < Vx):EqAt A s (.str b u) (.ref l) false:=λprog w E Q h=>by
 unfold eqBool;refine Vz ?_;refine wpAny_ite_split (λhab=>absurd (eq_of_beq hab) nofun) (λ_=>?_);exact Vb (RcAt.str_dict b u ho hc hd hu prog w E _ (VA h))
end
end PySem.SeqAt
namespace L2
open PySem PySem.Spec PyProof.Rows PySem.W
section
variable {X:Cx} {Wy:List (U9×Obj)} {σ:St} {H:Hp} {s:Va}
def cB:U7->Bool
 | .dict [(.none,_)]=>false
 | _=>true
theorem Ji(I:af X Wy σ H s){O:Ex}{v:V}{d:U7}{u:U8}(h:Dt X.K H O v d)(ht:cB d=true)(r:aF v u)(y:Str)(t:Tok)(hu:X.A.units < Vx):SeqAt.RcAt X.A s u (.str y t) (N4 d (.str y)):=by
 cases h with
 | non=>cases (show u=Qz from r);simpa [N4] using SeqAt.RcAt.none_str y t
 | bl b=>cases (show u=Qb b from r);simpa [N4] using SeqAt.RcAt.bool_str b y t
 | int i=>obtain⟨k,e⟩:=(show ∃t,u=QB i t from r);cases e;simpa [N4] using SeqAt.RcAt.int_str i k y t
 | str x=>obtain⟨k,e⟩:=(show ∃t,u=Qg x t from r);cases e;simpa [N4] using TL x k y t
 | @tup a xs ds h n rr=>
  cases (show u=Of a from r);obtain⟨its,rv,p,_⟩:=I.tuple (.inl h);simpa [N4] using Tf y t (show s.heap.IsTuple a its.toArray from p) hu
 | @tupK a xs ds h rr=>
  cases (show u=Of a from r);obtain⟨its,rv,p,_⟩:=I.tuple h.of0;simpa [N4] using Tf y t (show s.heap.IsTuple a its.toArray from p) hu
 | @lst a xs ds h n rr=>
  cases (show u=Of a from r);obtain⟨its,rv,p,_⟩:=I.list (.inl h);simpa [N4] using SeqAt.RcAt.list_str y t p.isList hu
 | pack h n=>exact absurd ht (by simp [cB])
 | purse h n=>exact absurd ht (by simp [cB])
 | scr h r=>exact absurd ht (by simp [cB])
 | obj h e n r=>exact absurd ht (by simp [cB])
 | @dct0 a h n=>
  cases (show u=Of a from r);obtain⟨_,_,_,_,o,es,ep,e,c,dd,_⟩:=(show bV X.prog X.w H s.heap a (.dK []) from I.hok a _ h);simpa [N4] using SeqAt.RcAt.dict_str y t e c.1 dd hu
 | @dic a ob kv ks kp ds h e1 e2 n rr=>
  cases (show u=Of a from r);obtain⟨_,_,_,_,o,es,ep,e,c,dd,_⟩:=(show bV X.prog X.w H s.heap a (.dK kv) from(I.hok a _ h).2);simpa [N4] using SeqAt.RcAt.dict_str y t e c.1 dd hu
theorem Jj(I:af X Wy σ H s){A:Vo}{O:Ex}{v:V}{d:U7}{u:U8}(h:Dt X.K H O v d)(ht:cB d=true)(r:aF v u)(y:Str)(t:Tok)(hu:A.units < Vx):SeqAt.EqAt A s (.str y t) u (N4 (.str y) d):=by
 cases h with
 | non=>cases (show u=Qz from r);simpa [N4] using SeqAt.EqAt.str_none y t
 | bl b=>cases (show u=Qb b from r);simpa [N4] using SeqAt.EqAt.str_bool y t b
 | int i=>obtain⟨k,e⟩:=(show ∃t,u=QB i t from r);cases e;simpa [N4] using Ts y t i k
 | str x=>obtain⟨k,e⟩:=(show ∃t,u=Qg x t from r);cases e;simpa [N4] using SeqAt.EqAt.str_str y t x k
 | @tup a xs ds h n rr=>
  cases (show u=Of a from r);obtain⟨its,rv,p,_⟩:=I.tuple (.inl h);simpa [N4] using Tg y t (show s.heap.IsTuple a its.toArray from p) hu
 | @tupK a xs ds h rr=>
  cases (show u=Of a from r);obtain⟨its,rv,p,_⟩:=I.tuple h.of0;simpa [N4] using Tg y t (show s.heap.IsTuple a its.toArray from p) hu
 | @lst a xs ds h n rr=>
  cases (show u=Of a from r);obtain⟨its,rv,p,_⟩:=I.list (.inl h);simpa [N4] using SeqAt.EqAt.str_list y t p.isList hu
 | pack h n=>exact absurd ht (by simp [cB])
 | purse h n=>exact absurd ht (by simp [cB])
 | scr h r=>exact absurd ht (by simp [cB])
 | obj h e n r=>exact absurd ht (by simp [cB])
 | @dct0 a h n=>
  cases (show u=Of a from r);obtain⟨_,_,_,_,o,es,ep,e,c,dd,_⟩:=(show bV X.prog X.w H s.heap a (.dK []) from I.hok a _ h);simpa [N4] using SeqAt.EqAt.str_dict y t e c.1 dd hu
 | @dic a ob kv ks kp ds h e1 e2 n rr=>
  cases (show u=Of a from r);obtain⟨_,_,_,_,o,es,ep,e,c,dd,_⟩:=(show bV X.prog X.w H s.heap a (.dK kv) from(I.hok a _ h).2);simpa [N4] using SeqAt.EqAt.str_dict y t e c.1 dd hu
end
section
variable {X:Cx} {H0:Hp} {O0:Ex}
def BY(K:NM):R2:=λx y H Q=>∃O dx z,Dt K H O x dx/\cB dx=true/\y= .str z/\Q (.bl (N4 dx (.str z))) H
theorem cF{k:Nat}(hr:aT k X.A):bT X (Vs .Eq) (BY X.K):=by
 intro Wy s σ H x y v u Q I rx ry h;obtain⟨O,dx,z,hx,ht,rfl,q⟩:=h;obtain⟨t,rfl⟩:=ry;have hc:Vs .Eq v (.str z t)=richCompare .Eq v (.str z t):=rfl;rw [hc];exact Ji I hx ht rx z t hr.units0 X.prog X.w X.xe _ (bN I q rfl)
def lr:U7->U7->(U7->Prop)->Prop:=λx y Q=>∃z,y= .str z/\cB x=true/\Q (.bool (N4 x (.str z)))
theorem cG{K:NM}:cx K (BY K) lr:=λH O x y dx dy Qd R _ hx hy uu83 k=>by
 obtain⟨z,e,ht,q⟩:=uu83;subst e;cases hy.str;exact⟨_,dx,z,hx.all,ht,rfl,k _ _ H q (aj.refl _) (.bl _)⟩
theorem Jk(dx:U7){its:List U8}{zs:List Str}(hS:StrsAre its zs):its.any (λy=>N4 (.str (strOf y)) dx)=zs.any λz=>N4 (.str z) dx:=by
 induction hS with
 | nil=>rfl
 | cons y t r ih=>rw [PB,PB,ih];rfl
def BZ(K:NM):R2:=λx y H Q=>∃(O:Ex)(dx:U7)(zs:List Str)(a:U9),Dt K H O x dx/\cB dx=true/\y= .ref a/\bx K H a (zs.map V.str)/\Q (.bl (zs.any λz=>N4 (.str z) dx)) H
theorem vT{k:Nat}(hr:aT k X.A):bT X (Vs .In) (BZ X.K):=by
 intro Wy s σ H x y v u Q I rx ry h;obtain⟨O,dx,zs,a,hx,ht,rfl,ha,q⟩:=h;cases ry;obtain⟨its,rv,p,_⟩:=I.tuple ha;have hS:=BV rv;have hl:=Jk dx hS;refine SeqAt.in_tupleAt (λy=>N4 (.str (strOf y)) dx) (show s.heap.IsTuple a its.toArray from p) (λy hy=>?_) (by rw [List.any_toArray,hl];exact bN I q rfl);obtain⟨z,t,rfl⟩:=hS.all y (by simpa using hy);exact Jj I hx ht rx z t (by show X.A.units+1 < Vx;have:=hr.un;omega)
def n4:U7->U7->(U7->Prop)->Prop:=λx y Q=>∃zs:List Str,y= .tuple (zs.map .str)/\cB x=true/\Q (.bool (zs.any λz=>N4 (.str z) x))
theorem vU{K:NM}:cx K (BZ K) n4:=λH O x y dx dy Qd R _ hx hy uu84 k=>by
 obtain⟨zs,e,ht,q⟩:=uu84;subst e;obtain⟨a,vs,rfl,hs,r⟩:=hy.tup;cases r.strs;exact⟨_,dx,zs,a,hx.all,ht,rfl,hs,k _ _ H q (aj.refl _) (.bl _)⟩
end
def qX:U7->Bool | .str _=>true | _=>false
def n5:U7->Bool | .int _=>true | .bool _=>true | _=>false
def n8:U7->Bool | .bool _=>true | _=>false
def lu:U7->Bool | .tuple _=>true | _=>false
theorem Jl{K:NM}(d:U7):kitOne K (.type (kZ d)) (.type "str")=some (qX d):=by cases d <;> rfl
theorem Jm{K:NM}(d:U7):kitOne K (.type (kZ d)) (.type "int")=some (n5 d):=by cases d <;> rfl
theorem Jn{K:NM}(d:U7):kitOne K (.type (kZ d)) (.type "bool")=some (n8 d):=by cases d <;> rfl
theorem Jo{K:NM}(d:U7):kitOne K (.type (kZ d)) (.type "tuple")=some (lu d):=by cases d <;> rfl
theorem vV{g:DG}{te:DT}{δ0:Dl}{xs:List U7}{Q:List U7->Prop}(f:U7->U7)
 (h:∀x∈xs,∀R:U7->Prop,R (f x)->g x δ0 λδ2=>te δ2 R)(q:Q (xs.map f)):fD g iD te δ0 xs Q:=by
 refine⟨λi acc=>acc=(xs.take i).map f,rfl,?_,?_⟩
 ·rintro i x acc hx rfl;have:=h x (Oq hx) (λy=>(xs.take i).map f++[y]=(xs.take (i+1)).map f) (by rw [Pb,hx];simp);simpa [iD] using this
 ·rintro acc rfl;rw [OD (NV _)];exact q
theorem Jp{g:DG}{tc:DB}{te:DT}{δ0:Dl}{xs:List U7}{Q:List U7->Prop}(f:U7->Option U7)
 (h:∀x∈xs,∀(R:U7->Prop) (S:Prop),(match f x with | some y=>R y | none=>S)->g x δ0 λδ2=>tc δ2 λok=>if ok=true then te δ2 R else S)(q:Q (xs.filterMap f)):fD g tc te δ0 xs Q:=by
 refine⟨λi acc=>acc=(xs.take i).filterMap f,rfl,?_,?_⟩
 ·rintro i x acc hx rfl;refine h x (Oq hx) (λy=>(xs.take i).filterMap f++[y]=(xs.take (i+1)).filterMap f) ((xs.take i).filterMap f=(xs.take (i+1)).filterMap f) ?_;rw [Pb,hx];cases e:f x with
  | none=>simp [e]
  | some y=>simp [e]
 ·rintro acc rfl;rw [OD (NV _)];exact q
theorem Jq{g:DG}{te:DT}{δ0:Dl}{xs:List U7}{p:Bool->Prop}{gg:List Bool->Bool}(f:U7->Bool)
 (h:∀x∈xs,∀R:U7->Prop,R (.bool (f x))->g x δ0 λδ2=>te δ2 R)(q:p (gg (xs.map f))):fD g iD te δ0 xs λds=>∃bs:List Bool,ds=bs.map PF/\p (gg bs):=
 vV (λx=>.bool (f x)) h ⟨xs.map f,by rw [Oe];rfl,q⟩
theorem qY{a b:Str}{P:List Str->Prop}:(∃zs,[NP a,NP b]=Od NP zs/\P zs)↔P [a,b]:=by
 refine⟨λ⟨zs,e,h⟩=>?_,λh=>⟨_,rfl,h⟩⟩
 match zs,e with
 | [x,y],e=>simp at e;rw [e.1,e.2];exact h
theorem qZ{x:Str}:cB (.str x)=true:=rfl
theorem q5{x:Int}:cB (.int x)=true:=rfl
theorem rf{x:Bool}:cB (.bool x)=true:=rfl
theorem rg{x:List U7}:cB (.tuple x)=true:=rfl
theorem rh{x:List U7}:cB (.list x)=true:=rfl
def units:List Str:=["days","months","years"]
theorem dS{n:Nat}:∀d∈([]:List U7),cA n d:=λd hd=>by simp at hd
theorem aZ{n:Nat}{d:U7}{r:List U7}(h:cA n d)(hr:∀e∈r,cA n e):∀e∈d::r,cA n e:=λe he=>by
 rcases N9.mp he with z | z
 ·rw [z];exact h
 ·exact hr e z
theorem bO{n:Nat}{x:Str}(h:N0 x=true)(hn:1<=n:=by decide):cA n (.str x):=(BJ h).mono hn
theorem hJ{n:Nat}{x:Int}(hn:1<=n:=by decide):cA n (.int x):=BK.mono hn
theorem Jr{n:Nat}{x:Bool}(hn:1<=n:=by decide):cA n (.bool x):=IZ.mono hn
theorem vW{n:Nat}{ms:List Str}(h:∀m∈ms,N0 m=true)(hn:1<=n:=by decide):∀d∈ms.map NP,cA n d:=λd hd=>by
 obtain⟨m,hm,rfl⟩:=N6.mp hd;exact(BJ (h m hm)).mono hn
theorem rj{a b:U7}{l:List U7}:cV (a::b::l) (some 2) none=l:=by
 rw [Bv U1 (by simp only [Og];omega)];rfl
theorem rn{a b c:U7}{l:List U7}:cV (a::b::c::l) (some 3) none=l:=by
 rw [Bv U1 (by simp only [Og];omega)];rfl
theorem rq{a b c:U7}{l:List U7}:cV (a::b::c::l) (some 1) (some 3)=[b,c]:=by
 unfold cV;rw [qR U1 (by simp only [Og];omega),qR U1 (by simp only [Og];omega)];rfl
end L2
namespace PySem
open Builtin
open AutoSeq1 (wpAny_loadPart')
end PySem
namespace L2
open PySem PySem.Spec PyProof.Rows PySem.W
section
variable {X:Cx} {H0:Hp} {O0:Ex}
def n9:DT:=λ_ Q=>Q (.dict [])
theorem B0{pos:Pos}:DE X H0 O0 (.Dict [] [] pos) n9:=BE.imp λσ H Q uu86=>by obtain⟨O,δ,Qd,w,q,k⟩:=uu86;exact λp hp=>k _ _ _ q (aj.new hp) (.dct0 aR (kD w (aj.refl _) hp))
def oh(t:DT):DT:=λδ Q=>t δ λd=>∃i,d= .int i/\Q (.int (-i))
theorem rz{e:Vd}{t:DT}{pos:Pos}(h:DE X H0 O0 e t):DE X H0 O0 (.UnaryOp .USub e pos) (oh t):=
 (Ai Al h).imp λσ H Q uu87=>by obtain⟨O,δ,Qd,w,q,k⟩:=uu87;exact⟨O,δ,_,w,q,λd v H1 uu88 s1 r1=>by obtain⟨i,e,q1⟩:=uu88;subst e;cases r1;exact⟨i,rfl,k _ _ H1 q1 s1 (.int _)⟩⟩
end
theorem Js(n:Nat):PM none none (-1) (n:Int)=((n:Int) - 1,-1):=by
 unfold PM;rfl
theorem Jt(n:Nat):Pd ((n:Int) - 1) (-1) (-1)=n:=by
 unfold Pd;rw [U3 U1];split
 ·rw [show(- -1:Int)=1 by decide,UH];omega
 ·omega
theorem Ju(xs:Array U8):((OU xs.size).filterMap λ(m:Nat)=>xs[((xs.size:Int) - 1+(m:Int)*(-1)).toNat]?).toArray=xs.toList.reverse.toArray:=by
 have e:(OU xs.size).filterMap (λ(m:Nat)=>xs[((xs.size:Int) - 1+(m:Int)*(-1)).toNat]?)=((OU xs.size).map λk=>xs.size - 1 - k).filterMap (xs[·]?):=by
  have e2:((OU xs.size).map λk=>xs.size - 1 - k)=(OU xs.size).map λ(m:Nat)=>((xs.size:Int) - 1+(m:Int)*(-1)).toNat:=
   Q3 λm hm=>by have:=QC.mp hm;omega
  rw [e2,RY];rfl
 have k:=krv_pick xs;unfold slicePick at k;rw [krv_bounds] at k;have k2:((sliceRange ((xs.size:Int) - 1) (-1) (-1)).filterMap (xs[·]?)).toArray=xs.toList.reverse.toArray:=k;rw [krv_sliceRange] at k2;rw [e];exact k2
theorem Jv{prog:Vj}{w:Vm}{A:Vo}{E:U8->Va->Prop}{s:Va}{sl:U9}{tk:Tok}{n:Nat}{Q:Int×Int×Nat->Va->Prop}(hs:s.heap.IsSliceOf sl .none .none (.int (-1) tk))
 (h:Q ((n:Int) - 1,-1,n) s):Vf (Vg prog w) A (Qu (.ref sl) (pure (n:Int))) Q E s:=by
 obtain⟨os,hos,hcs,hds⟩:=id hs;unfold Qu Sj;refine Vb (Vb (V6 hos hds (x:= .none) rfl (Vb (V6 hos hds (x:= .none) rfl (Vb (V6 hos hds (x:= .int (-1) tk) rfl (Vi ?_)))))));refine Vb (slicePart_int ?_);show Vf _ _ (if ((-1:Int)==0)=true then _ else _) _ _ s;rw [U3 U1];refine Vb (Wl (Vb (Wl (Vb (Vi ?_)))));show Vf _ _ (match PM none none (-1) (n:Int) with | (lo,hi)=>pure (lo,(-1:Int),Pd lo hi (-1))) _ _ s;rw [Js];show Vf _ _ (pure ((n:Int) - 1,(-1:Int),Pd ((n:Int) - 1) (-1) (-1))) _ _ s;rw [Jt];exact Vi h
theorem Jw{prog:Vj}{w:Vm}{A:Vo}{E:U8->Va->Prop}{s:Va}{t sl:U9}{items:Array U8}{tk:Tok}{Q:U8->Va->Prop}(ht:IsTup s.heap t items)(hs:s.heap.IsSliceOf sl .none .none (.int (-1) tk))(hz:items.size<=Ve)
 (h:Q (.ref s.heap.objs.size) {s with heap:=s.heap.push {cls:= .type "tuple",data:= .seq items.toList.reverse.toArray}}):Vf (Vg prog w) A (VN (.ref t) (.ref sl)) Q E s:=by
 have htake:sizeOk (.seq items.toList.reverse.toArray):=by
  show items.toList.reverse.toArray.size<=Ve;rw [N8,Tp,OF];exact hz
 obtain⟨os,hos,hcs,hds⟩:=id hs;have hTs:s.TypeIs (.ref sl) "slice":=⟨os,hos,hcs⟩;unfold VN
 try with_reducible refine Vz ?_
 first | refine Vb (Vi ?_) | skip
 refine Vb (Ws ht.typeIs U1 ?_);refine Vb (V5 (name:=NL "__getitem__") ht.typeIs Pl
  (VW Pl ht.typeIs RH ?_ (RM _ _)))
 show Vf _ _ (QX (.ref t) >>=_) _ _ s;refine Vb (tupleItemsOf_ ht ?_);refine Vb (V0 hTs ?_);rw [U4 U1];refine Vb (Jv hs ?_);show Vf _ _ (if (((items.size:Int) - 1)==0 && (-1:Int)==1 && items.size==items.size)=true then _ else _) _ _ s;rw [U3 U6,Ju]
 first
  | exact Vb (m:=Pg _) (VB (Vi ⟨_,rfl,Vi h⟩) htake)
  | exact Vb (m:=Pg _) (VB (Vb (Vi (Vi ⟨_,rfl,Vi h⟩))) htake)
  | exact Vb (Vb (m:=Pg _) (VB (Vi (Vi ⟨_,rfl,Vi h⟩)) htake))
  | exact Vb (Vb (m:=Pg _) (VB (Vi ⟨_,rfl,Vi h⟩) htake))
section
variable {X:Cx} {H0:Hp} {O0:Ex}
theorem Jx{e:Vd}{te:TE}{pos p2 up cp:Pos}{j}(he:PE X e te):PE X (.Subscript e (.Slice none none (some (.UnaryOp .USub (.Constant (.int 1) j cp) up)) p2) pos) (λσ H Q=>te σ H λx H1=>∃a xs,x= .ref a/\bx X.K H1 a xs/\∀p,H1 p=none->Q (.ref p) (ao H1 p (.tup xs.reverse))):=by
 intro Wy s σ H Q I h;refine Subscript_ (aB (he Wy s σ H _ I h) λv s1 ⟨x,H1,I1,r1,q1⟩=>?_);obtain⟨a,xs,rfl,hq,q⟩:=q1;cases r1;refine wpAny_Slice ?_;rw [evalPart_none];refine Vi (Vi ?_);rw [evalPart_some];refine aB (Ai Al bf Wy s1 σ H1 (λx H2=>x= .int (-1)/\H2=H1) I1 ⟨1,rfl,rfl,rfl⟩) λvk s3 ⟨x3,H3,I3,r3,e3,e4⟩=>?_;subst e3 e4;obtain⟨tk,rfl⟩:=r3;have I4:af X Wy σ H3 {s3 with heap:=s3.heap.push {cls:= .type "slice",data:= .fields #[.none,.none,.int (-1) tk]}}:=I3.kept (t':=s3.toks) λb ob q=>NT _ q;show Vf (Vg X.prog X.w) X.A (Wq e (.Slice none none (some (.UnaryOp .USub (.Constant (.int 1) j cp) up)) p2) (.ref a) (.ref s3.heap.objs.size)) (EP X Wy σ Q) X.xe {s3 with heap:=s3.heap.push {cls:= .type "slice",data:= .fields #[.none,.none,.int (-1) tk]}};obtain⟨its,r,ht,hz⟩:=I4.tuple hq;have hlen:=r.length;refine tail_any (ops:=[.ref a,.ref s3.heap.objs.size]) ht.typeIs Pl.lookup ?_ (by with_unfolding_all rfl);refine Jw ht (Tz ..) (by rw [N8];omega) ?_;refine⟨.ref _,_,I4.laid (t':=s3.toks) (o:= .tup xs.reverse) (λb ob q=>NT _ q) (NV _) ?_,rfl,q _ (I4.hok.fresh (NV _))⟩;exact⟨by rw [Tp];exact hz,_,(show aE xs.reverse its.reverse from Iq r),SK _ _⟩
def oi(t:DT):DT:=λδ Q=>t δ λd=>∃xs,d= .tuple xs/\Q (.tuple xs.reverse)
theorem Jy{e:Vd}{t:DT}{pos p2 up cp:Pos}{j}(h:DF X H0 O0 e t):DE X H0 O0 (.Subscript e (.Slice none none (some (.UnaryOp .USub (.Constant (.int 1) j cp) up)) p2) pos) (oi t):=
 (Jx h).imp λσ H Q uu91=>by obtain⟨O,δ,Qd,w,q,k⟩:=uu91;exact⟨O,δ,_,w,q,λd v H1 uu92 s1 r1=>by
  obtain⟨xs,e,q1⟩:=uu92;subst e;obtain⟨a,us,rfl,h1,d1⟩:=r1.tup;exact⟨a,us,rfl,h1,λp hp=>k _ _ _ q1 (s1.trans (aj.new hp)) (.tup (.inl aR) (kD w s1 hp) (d1.reverse.mono (aj.new hp)))⟩⟩
end
section
variable {x:Option Vd} {n:Nat} {env:Env}
theorem B1{a b c}:Vw (.Tuple a b c) x n env=pure false:=rfl
theorem jS{a b c d}:Vw (.BinOp a b c d) x n env=pure false:=rfl
theorem iK{a b c d}:Vw (.Call a b c d) x n env=pure false:=rfl
theorem jT{a b c}:Vw (.Subscript a b c) x n env=pure false:=rfl
theorem Jz{a b c}:Vw (.Dict a b c) x n env=pure false:=rfl
end
theorem rA:(NL "paper"==NL "happens")=false:=U0
section
variable {X:Cx} {H0:Hp} {O0:Ex}
def oj:DS:=λ_ _=>False
theorem lz{st:Vn}:PS X st (bA X.K H0 O0 oj):=F8.imp λD σ H uu93=>by obtain⟨O,δ,E,w,q,_,_,_,_⟩:=uu93;exact q.elim
end
section
variable {α:Type} {P:α->Prop}
theorem rB{a:U7}{r:Dl}{P:U7->Prop}:cw 0 (some (Sl.v a)::r) P=P a:=rfl
theorem rC{x:Option Sl}{r:Dl}{i:Nat}{P:U7->Prop}:cw (i+1) (x::r) P=cw i r P:=rfl
theorem rD{a:List U7}{r:Dl}{P:List U7->Prop}:(∃d,(some (Sl.o a)::r)[0]?=some (some (Sl.o d))/\P d)=P a:=U6
theorem rE{x:Option Sl}{r:Dl}{i:Nat}{P:List U7->Prop}:(∃d,(x::r)[i+1]?=some (some (Sl.o d))/\P d)=(∃d,r[i]?=some (some (Sl.o d))/\P d):=U6
theorem rF{a:Bool}{P:Bool->Prop}:(∃b,PF a= .bool b/\P b)=P a:=U6
theorem rG{a:Int}{P:Int->Prop}:(∃b,NQ a= .int b/\P b)=P a:=U6
theorem rH{a:Str}{P:Str->Prop}:(∃b,NP a= .str b/\P b)=P a:=U6
theorem rJ{a:List U7}{P:List U7->Prop}:(∃b,N3 a= .tuple b/\P b)=P a:=U6
theorem rK{a:List U7}{P:List U7->Prop}:(∃b,Ow a= .list b/\P b)=P a:=U6
theorem rL{a b:Int}{P:Int->Int->Prop}:(∃i j,NQ a= .int i/\NQ b= .int j/\P i j)=P a b:=U6
theorem rM{a b:Str}{P:Str->Str->Prop}:(∃i j,NP a= .str i/\NP b= .str j/\P i j)=P a b:=U6
theorem rN{a b:List U7}{P:List U7->List U7->Prop}:(∃i j,Ow a= .list i/\Ow b= .list j/\P i j)=P a b:=U6
theorem rO{a:U7}{r:List U7}{P:U7->List U7->Prop}:(∃x y,a::r=x::y/\P x y)=P a r:=propext ⟨λuu94=>by obtain⟨_,_,e,p⟩:=uu94;cases e;exact p,λp=>⟨_,_,rfl,p⟩⟩
theorem rP{a b:U7}{P:U7->U7->Prop}:(∃x y,[a,b]=[x,y]/\P x y)=P a b:=propext ⟨λuu95=>by obtain⟨_,_,e,p⟩:=uu95;cases e;exact p,λp=>⟨_,_,rfl,p⟩⟩
theorem rQ{a:U7}{r:List U7}{P:U7->Prop}:(∃ds i d,N3 (a::r)= .tuple ds/\NQ 0= .int i/\atI ds i=some d/\P d)=P a:=by simp [eX]
theorem rR{a b:U7}{r:List U7}{P:U7->Prop}:(∃ds i d,N3 (a::b::r)= .tuple ds/\NQ 1= .int i/\atI ds i=some d/\P d)=P b:=by simp [dG]
theorem rS{a b c:U7}{r:List U7}{P:U7->Prop}:(∃ds i d,N3 (a::b::c::r)= .tuple ds/\NQ 2= .int i/\atI ds i=some d/\P d)=P c:=by simp [k7]
theorem rT{a b c e:U7}{r:List U7}{P:U7->Prop}:(∃ds i d,N3 (a::b::c::e::r)= .tuple ds/\NQ 3= .int i/\atI ds i=some d/\P d)=P e:=by simp [g9]
theorem rV{xs:List U7}{k:Int}{P:U7->Prop}:(∃ds i d,N3 xs= .tuple ds/\NQ k= .int i/\atI ds i=some d/\P d)=(∃d,atI xs k=some d/\P d):=U6
theorem rW{xs:List U7}{k:Int}{P:U7->Prop}:(∃ds i d,Ow xs= .list ds/\NQ k= .int i/\atI ds i=some d/\P d)=(∃d,atI xs k=some d/\P d):=U6
end
def gJ:ai->U7
 | .inl i=>.int i
 | .inr x=>.str x
def cR(kd:List (ai×U7))(k:ai):Option U7:=(kd.find? λp=>decide (p.1=k)).map (·.2)
def d8(kd:List (ai×U7))(k:ai)(d:U7):List (ai×U7):=if (kd.any λp=>decide (p.1=k))=true then kd.map (λp=>if p.1=k then(p.1,d) else p) else kd++[(k,d)]
section
variable {K:NM} {H:Hp} {O:Ex}
theorem Dt.key{v:V}{k:ai}(h:Dt K H O v (gJ k)):v=kV k:=by
 cases k with
 | inl i=>cases h;rfl
 | inr x=>cases h;rfl
theorem bD.val{kv:List (ai×V)}{kd:List (ai×U7)}(h:bD K H O kv kd)(k:ai):(dQ kv k=none/\cR kd k=none)\/∃v d,dQ kv k=some v/\cR kd k=some d/\Dt K H O v d:=by
 induction h with
 | nil=>exact .inl ⟨rfl,rfl⟩
 | @cons j v d r s a _ ih=>
  by_cases e:j=k
  ·exact .inr ⟨v,d,nQ e,by simp [cR,PN,e],a⟩
  ·rw [k8 e,show cR ((j,d)::s) k=cR s k by simp [cR,PN,e]];exact ih
theorem bD.any{kv:List (ai×V)}{kd:List (ai×U7)}(h:bD K H O kv kd)(k:ai):(kv.any λp=>decide (p.1=k))=(kd.any λp=>decide (p.1=k)):=by
 induction h with
 | nil=>rfl
 | cons a _ ih=>simp only [PB,ih]
theorem bD.length{kv:List (ai×V)}{kd:List (ai×U7)}(h:bD K H O kv kd):kv.length=kd.length:=by
 induction h with
 | nil=>rfl
 | cons a _ ih=>simp only [Og,ih]
theorem bD.append{kv kv':List (ai×V)}{kd kd':List (ai×U7)}(h:bD K H O kv kd)(h':bD K H O kv' kd'):bD K H O (kv++kv') (kd++kd'):=by
 induction h with
 | nil=>exact h'
 | cons a _ ih=>exact .cons a ih
theorem bD.repl{kv:List (ai×V)}{kd:List (ai×U7)}(h:bD K H O kv kd)(k:ai){v:V}{d:U7}(hv:Dt K H O v d):bD K H O (kv.map λp=>if p.1=k then(p.1,v) else p) (kd.map λp=>if p.1=k then(p.1,d) else p):=by
 induction h with
 | nil=>exact .nil
 | @cons j u e r s a _ ih=>
  simp only [NS];by_cases z:j=k
  ·rw [U4 z,U4 z];exact .cons hv ih
  ·rw [U3 z,U3 z];exact .cons a ih
theorem bD.put{kv:List (ai×V)}{kd:List (ai×U7)}(h:bD K H O kv kd)(k:ai){v:V}{d:U7}(hv:Dt K H O v d):bD K H O (putK kv k v) (d8 kd k d):=by
 unfold putK d8;rw [h.any k];split
 ·exact h.repl k hv
 ·exact h.append (.cons hv .nil)
end
section
variable {X:Cx} {H0:Hp} {O0:Ex}
abbrev jU:=Dl->(List (ai×U7)->Prop)->Prop
inductive B2 (K:NM) (H0:Hp) (O0:Ex) (t:jU) (σ:St) (H:Hp) (R:VK):Prop
 | mk (O:Ex) (δ:Dl) (Qd:List (ai×U7)->Prop):Wd K H0 O0 H O σ δ->t δ Qd->(∀kd kv p H',Qd kd->aj H H'->H' p=none->bD K H' O kv kd->R (.ref p) (ao H' p (.dK kv)))->B2 K H0 O0 t σ H R
abbrev KE(X:Cx)(H0:Hp)(O0:Ex)(e:Vd)(t:jU):Prop:=PE X e (B2 X.K H0 O0 t)
def om:jU:=λ_ Q=>Q []
theorem rX{pos:Pos}:KE X H0 O0 (.Dict [] [] pos) om:=BE.imp λσ H Q uu96=>by obtain⟨O,δ,Qd,w,q,k⟩:=uu96;exact λp hp=>k [] [] p H q (aj.refl _) hp .nil
def oo(i:Nat)(t:jU):DS:=λE δ=>t δ λkd=>E.nx (δ.set i (some (.k kd)))
theorem lA{i:Nat}{x:Str}{e:Vd}{t:jU}{pos pos':Pos}(hN:X.N.Nodup)(hi:X.N[i]?=some x)(hx:gc X.env.scope x)(he:KE X H0 O0 e t)(hs:Vw e (some (.Name x pos')) pos.line X.env=pure false:=by rfl)(hf:X.fn x=true\/X.env.scope.names.lookup x=some .local:=by first | exact .inl rfl | exact .inr rfl | assumption):
 PS X (.Assign [.Name x pos'] e pos) (bA X.K H0 O0 (oo i t)):=
 (c7 hN hi hx he hs hf).imp λD σ H ⟨O,δ,E,w,q,k1,k2,k3,k4⟩=>⟨O,δ,_,w,q,λds vs p H1 q1 s1 hp r1=>k1 _ _ _ _ q1 ((w.mono s1).setK hp r1)
  ⟨λb o e _=>(s1.trans (aj.new hp)) b o e,λb e n z=>z.elim n λy=>by
   cases q:H b with
   | none=>exact e q
   | some o=>have:=s1 _ _ q;rw [y,hp] at this;cases this⟩⟩
def oq(i:Nat)(tk tv:DT):DS:=λE δ=>tv δ λd=>∃kd,δ[i]?=some (some (.k kd))/\tk δ λy=>∃k,y=gJ k/\kd.length < Ve/\E.nx (δ.set i (some (.k (d8 kd k d))))
theorem rY{i:Nat}{o e v:Vd}{tk tv:DT}{pos pos':Pos}(hu:X.A.units+64 < Vx)(ho:PE X o (fh i))(he:DE X H0 O0 e tk)(hv:DE X H0 O0 v tv)(hs:Vw v (some (.Subscript o e pos')) pos.line X.env=pure false:=by rfl):
 PS X (.Assign [.Subscript o e pos'] v pos) (bA X.K H0 O0 (oq i tk tv)):=
 (IG U2 ho he hv hs).imp λD σ H ⟨O,δ,E,w,q,k1,k2,k3,k4⟩=>⟨O,δ,_,w,q,λd u H1 uu2 s1 r1=>by
  obtain⟨kd,e,qk⟩:=uu2;have w1:=w.mono s1;obtain⟨l,kv,h,a,b,c,r⟩:=w1.ownK e;refine⟨.ref l,h,O,δ,_,w1,qk,λy uy H2 ⟨k,ek,hl,q2⟩ s2 r2=>?_⟩;subst ek;obtain rfl:=r2.key;refine⟨l,_,rfl,nR.k (s2 _ _ c) (by rw [r.length];exact hl),k1 _ _ _ _ q2 ((w1.mono s2).putK e h ((r.mono s2).put k (r1.mono s2))) ⟨λb' o' z n=>?_,λ_ _ n=>n⟩⟩;rw [aA (λy=>n (by rw [y];exact a))];exact(s1.trans s2) _ _ z⟩
def ot(i:Nat)(tk:DT):DT:=λδ Q=>∃kd,δ[i]?=some (some (.k kd))/\tk δ λy=>∃k d,y=gJ k/\cR kd k=some d/\Q d
theorem bD.got{K:NM}{H:Hp}{O:Ex}{kv:List (ai×V)}{kd:List (ai×U7)}(h:bD K H O kv kd){k:ai}{d:U7}(e:cR kd k=some d):∃v,dQ kv k=some v/\Dt K H O v d:=by
 rcases h.val k with⟨_,z⟩ | ⟨v,d',a,b,c⟩
 ·rw [e] at z;cases z
 ·rw [e] at b;cases b;exact⟨v,a,c⟩
theorem bD.none{K:NM}{H:Hp}{O:Ex}{kv:List (ai×V)}{kd:List (ai×U7)}(h:bD K H O kv kd){k:ai}:(dQ kv k).isSome=(cR kd k).isSome:=by
 rcases h.val k with⟨y,z⟩ | ⟨v,d',a,b,c⟩
 ·rw [y,z];rfl
 ·rw [a,b];rfl
theorem ow{i:Nat}{o e:Vd}{tk:DT}{pos:Pos}(hu:X.A.units+64 < Vx)(ho:PE X o (fh i))(he:DE X H0 O0 e tk)(hs:qU e):DE X H0 O0 (.Subscript o e pos) (ot i tk):=
 (BA U2 ho he hs).imp λσ H Q uu4=>by
  obtain⟨O,δ,Qd,w,⟨kd,e,q⟩,k⟩:=uu4;obtain⟨l,kv,h,a,b,c,r⟩:=w.ownK e;refine⟨.ref l,h,O,δ,_,w,q,λy uy H2 ⟨ky,d,ek,ev,q2⟩ s2 r2=>?_⟩;subst ek;obtain rfl:=r2.key;obtain⟨v,hv,dv⟩:=r.got ev;exact⟨l,v,rfl,by rw [<-hv];exact dj.k (s2 _ _ c),k _ _ _ q2 s2 (dv.mono s2)⟩
def ox(i:Nat)(tk:DT):DT:=λδ Q=>∃kd,δ[i]?=some (some (.k kd))/\tk δ λy=>∃k,y=gJ k/\Q ((cR kd k).getD .none)
theorem B3{i:Nat}{o e:Vd}{tk:DT}{apos cpos:Pos}(hu:X.A.units+64 < Vx)(ho:PE X o (fh i))(he:DE X H0 O0 e tk)(m:M1 X o "get" apos e cpos):DE X H0 O0 (.Call (.Attribute o "get" apos) [e] [] cpos) (ox i tk):=
 (BH U2 ho he m).imp λσ H Q uu6=>by
  obtain⟨O,δ,Qd,w,⟨kd,e,q⟩,k⟩:=uu6;obtain⟨l,kv,h,a,b,c,r⟩:=w.ownK e;refine⟨.ref l,h,l,rfl,.inl ⟨kv,.inl c⟩,O,δ,_,w,q,λy uy H2 ⟨ky,ek,q2⟩ s2 r2=>?_⟩;subst ek;obtain rfl:=r2.key;refine⟨_,dj.k (s2 _ _ c),k _ _ _ q2 s2 ?_⟩;rcases r.val ky with⟨y,z⟩ | ⟨v,d',a',b',c'⟩
  ·rw [y,z];exact .non
  ·rw [a',b'];exact c'.mono s2
def jk(neg:Bool)(i:Nat)(tk:DT):DT:=λδ Q=>tk δ λy=>∃k,y=gJ k/\∃kd,δ[i]?=some (some (.k kd))/\Q (.bool (if neg then !(cR kd k).isSome else(cR kd k).isSome))
theorem JA{i:Nat}{o e:Vd}{tk:DT}(hu:X.A.units+64 < Vx)(ho:PE X o (fh i))(he:DE X H0 O0 e tk):PC X .In e o (up X.K H0 O0 (jk false i tk)):=λWy s σ H Q I ⟨O,δ,Qd,w,q,k⟩=>
 BB U2 he ho Wy s σ H Q I ⟨O,δ,_,w,q,λy uy H2 uu9 s2 r2=>by
  obtain⟨ky,ek,kd,e,q2⟩:=uu9;subst ek;obtain rfl:=r2.key;obtain⟨l,kv,h,a,b,c,r⟩:=(w.mono s2).ownK e;exact⟨.ref l,h,l,_,rfl,dj.k c,by rw [r.none];exact k _ _ _ q2 s2 (.bl _)⟩⟩
theorem JB{i:Nat}{o e:Vd}{tk:DT}(hu:X.A.units+64 < Vx)(ho:PE X o (fh i))(he:DE X H0 O0 e tk):PC X .NotIn e o (up X.K H0 O0 (jk true i tk)):=λWy s σ H Q I ⟨O,δ,Qd,w,q,k⟩=>
 BC U2 he ho Wy s σ H Q I ⟨O,δ,_,w,q,λy uy H2 uu11 s2 r2=>by
  obtain⟨ky,ek,kd,e,q2⟩:=uu11;subst ek;obtain rfl:=r2.key;obtain⟨l,kv,h,a,b,c,r⟩:=(w.mono s2).ownK e;exact⟨.ref l,h,l,_,rfl,dj.k c,by rw [r.none];exact k _ _ _ q2 s2 (.bl _)⟩⟩
end
open PySem PySem.Spec PyProof.Rows PySem.W PySem.Calls
theorem JC{prog:Vj}{w:Vm}{A:Vo}{E:U8->Va->Prop}{s:Va}{T:String}{r d:U9}{n:Nat}{P:Nat->U8->Prop}{OK:Vl->Prop}{ss:List Str}{Q:U8->Va->Prop}
 (K:KdlSrc prog w T r d n P OK)(hh:A.handled=none)(hok:OK s.heap)(hn:n < 64)(hP:∀vs:List U8,vs.length=n->(∀j v,vs[j]?=some v->P j v)->StrsAre vs ss)
 (h:∀(h' h2:Vl) (tk:Nat) (out:Array U8) (e:Nat) (ss':List Str),(∀b o,s.heap.get? b=some o->h'.get? b=some o)->(∀b o,h'.get? b=some o->h2.get? b=some o)->h2.get? h'.objs.size=some (Vt "list" out e)->StrsAre out.toList ss'->ss'.Perm ss->sortedS ss'=true->Q (.ref h'.objs.size) {s with heap:=h2,toks:=tk}):
 Vf (Vg prog w) A (call (.builtin "sorted") [.ref r]) Q E s:=by
 refine Sn kind_sorted plain_sorted entry_sorted (args_sorted1 _) ?_;unfold Builtin.«sorted»;refine Vb (m:=checkCount "sorted" 1 1 _) (Vi ?_);refine Vb (kdu_collect (A:=A.in1) K hh hok (Ot (Qm hn) U1) λh' tk acc hk hacc=>?_);have hl:acc.toList.length=n:=by rw [OF];exact hacc.1
 refine Vb (Wc ?_);have hS:=hP acc.toList hl (λj v e=>hacc.2 j v (by rw [<-Array.getElem?_toList];exact e));have hoL:(h'.push (Vt "list" acc.toList.toArray 0)).get? h'.objs.size=some (Vt "list" acc.toList.toArray 0):=Ou _ rfl;refine Vb (Vz (VW slot_list_sort ⟨_,hoL,rfl⟩ entry_list_sort (list_sort_treeK (s:={s with heap:=h'.push (Vt "list" acc.toList.toArray 0),toks:=tk}) strKind_oneLt hoL hS.keysOf (λv₁ v₂ rest e=>keyKind_strs (by rw [<-e];exact hS)) (by rw [hl];exact hn) λst' a1 a2=>⟨_,rfl,?_⟩) (args_list_sort _)));obtain⟨ss',h1,h2,h3⟩:=sorted_out_str hS a1 a2;obtain⟨e,he⟩:=sortedHeap_at (n:=0) (vs:=acc.toList) (out:=(arrOf st').map (·.2)) hoL;refine Vi ⟨_,rfl,h h' _ tk _ e ss' hk (λb o q=>?_) he h1 h2 h3⟩;have hlt:b < h'.objs.size:=N5 q;rw [sortedHeap_old (Oj hlt) (by rw [size_push'];exact Sg hlt),Heap.get?_push_ne _ _ _ (Oj hlt)];exact q
theorem B4{P:Vj}{w:Vm}:∀{ss:List Str}{vs:List U8},vs.length=ss.length->(∀(j:Nat)(v:U8),vs[j]?=some v->∃x:Str,ss[j]?=some x/\(ck P w).is (.inr x) v=true)->StrsAre vs ss
 | [],[],_,_=>.nil
 | x::ss,v::vs,hl,h=>by
  obtain⟨y,e,k⟩:=h 0 v rfl;cases e;rcases gb (k:= .inr x) (v:=v) k with⟨i,t,e,_⟩ | ⟨z,t,e,ev⟩
  ·cases e
  ·cases e;subst ev;exact .cons x t (B4 (by simpa using hl) λj v e=>h (j+1) v e)
theorem B5{X:Cx}:cH X (.builtin "sorted") (λxs H Q=>X.calm=true/\∃a kv ss,xs=[.ref a]/\Rd H a (.dK kv)/\kv.map (·.1)=ss.map OW/\ss.length < 64/\∀l,H l=none->Q (.ref l) (ao H l (.lst ((dJ ss).map V.str)))):=by
 intro Wy s σ H xs us Q I r h;obtain⟨hc,a,kv,ss,rfl,ha,hk,h64,q⟩:=h;obtain⟨u,rfl,rx⟩:=c9 r;cases rx;obtain⟨hz,lo,vs,rel,dd⟩:=iI I.hok ha;obtain⟨ep,da⟩:=dd.dictAt;have hlen:vs.length=ss.length:=by rw [<-rel.length,<-NO (f:=(·.1)),hk,NO]
 refine JC (ss:=ss) (kdl_dict (kvs:=vs) (ep:=ep) lo) (I.ok.hd hc) da U2 (λus hl hp=>B4 (P:=X.prog) (w:=X.w) U2 λj v e=>?_) λh' h2 tk out e ss' k1 k2 t8 s1 s2 s3=>?_
 ·obtain⟨k,x,ek,kk⟩:=hp j v e;have e1:(vs.map (·.1))[j]?=some k:=by rw [Ob,ek];rfl
  rw [<-rel.keys,hk,Ob] at e1;cases es:ss[j]? with
  | none=>rw [es] at e1;cases e1
  | some y=>rw [es] at e1;cases e1;exact⟨y,rfl,kk⟩
 ·have es:ss'=dJ ss:=BR s2 (BU _ s3);subst es;have hl2:(dJ ss).length=ss.length:=s2.length_eq;have I1:af X Wy σ H {s with heap:=h',toks:=tk}:=I.kept (t':=tk) k1;refine⟨.ref _,_,I1.laid (t':=tk) (o:= .lst ((dJ ss).map V.str)) k2 (NV _) ?_,rfl,q _ (I1.hok.fresh (NV _))⟩;refine⟨by rw [NO,hl2];exact Ot (Qm h64) U1,out.toList,e,vS s1,?_⟩;rw [t8]
theorem bD.keys{K:NM}{H:Hp}{O:Ex}{kv:List (ai×V)}{kd:List (ai×U7)}(h:bD K H O kv kd):kv.map (·.1)=kd.map (·.1):=by
 induction h with
 | nil=>rfl
 | cons a _ ih=>simp only [NS,ih]
section
variable {X:Cx} {H0:Hp} {O0:Ex}
def oy(i:Nat):DA:=λδ Q=>∃kd,δ[i]?=some (some (.k kd))/\∃ss:List Str,kd.map (·.1)=ss.map OW/\ss.length < 64/\Q ((dJ ss).map .str)
theorem B6{i:Nat}{o:Vd}{np p:Pos}(hc:X.calm=true)(hg:Gl X "sorted")(hm:X.mg "sorted"=none)(hv:Vq "sorted"=some (.builtin "sorted"))(ho:PE X o (fh i))(he:Vc [o] X.env=(false,eval o X.env)::Vc [] X.env:=by rfl)(hpl:(Vr p (Vc [] X.env)).any (·.1)=false:=by rfl):
 FE X H0 O0 (.Call (.Name "sorted" np) [o] [] p) (oy i):=
 (bP B5 hg hm hv (aO ho bU he) (he:=he) (hpl:=hpl)).imp λσ H Q uu12=>by
  obtain⟨O,δ,Qd,w,⟨kd,e,ss,ek,h64,q⟩,k⟩:=uu12;obtain⟨l,kv,h,a,b,c,r⟩:=w.ownK e;exact⟨.ref l,h,hc,l,kv,ss,rfl,.inl c,by rw [r.keys];exact ek,h64,λp hp=>k _ _ _ _ q (aj.refl _) hp (ak.ofStrs _)⟩
theorem NK{i:Nat}{o e:Vd}{tk:DT}{pos:Pos}(hu:X.A.units+64 < Vx)(ho:PE X o (fh i))(he:DE X H0 O0 e tk)(hm:Vy .In o=false:=by rfl):PT X (.Compare e [.In] [o] pos) (bY X.K H0 O0 (fw (jk false i tk))):=
 (qg (JA hu ho he) hm).imp λσ H Q uu13=>by obtain⟨O,δ,Qd,w,q,k⟩:=uu13;exact⟨O,δ,_,w,q,λd v H' uu14 s r=>by obtain⟨b,e,qb⟩:=uu14;subst e;cases r;exact⟨b,rfl,k b H' qb s⟩⟩
theorem B7{i:Nat}{o e:Vd}{tk:DT}{pos:Pos}(hu:X.A.units+64 < Vx)(ho:PE X o (fh i))(he:DE X H0 O0 e tk)(hm:Vy .NotIn o=false:=by rfl):PT X (.Compare e [.NotIn] [o] pos) (bY X.K H0 O0 (fw (jk true i tk))):=
 (qg (JB hu ho he) hm).imp λσ H Q uu15=>by obtain⟨O,δ,Qd,w,q,k⟩:=uu15;exact⟨O,δ,_,w,q,λd v H' uu16 s r=>by obtain⟨b,e,qb⟩:=uu16;subst e;cases r;exact⟨b,rfl,k b H' qb s⟩⟩
end
section
theorem rZ{a:List (ai×U7)}{r:Dl}{P:List (ai×U7)->Prop}:(∃d,(some (Sl.k a)::r)[0]?=some (some (Sl.k d))/\P d)=P a:=U6
theorem sd{x:Option Sl}{r:Dl}{i:Nat}{P:List (ai×U7)->Prop}:(∃d,(x::r)[i+1]?=some (some (Sl.k d))/\P d)=(∃d,r[i]?=some (some (Sl.k d))/\P d):=U6
theorem se{a:List (ai×U7)}{l:Dl}{i:Nat}{P:List (ai×U7)->Prop}:(∃d,(l.set i (some (Sl.k a)))[i]?=some (some (Sl.k d))/\P d)=(i < l.length/\P a):=by
 apply propext;rw [List.getElem?_set_self'];constructor
 ·rintro⟨d,e,p⟩;by_cases h:i < l.length
  ·rw [Oz h] at e;cases e;exact⟨h,p⟩
  ·rw [RK U2] at e;cases e
 ·rintro⟨h,p⟩;exact⟨a,by rw [Oz h];rfl,p⟩
theorem sg{x:Option Sl}{l:Dl}{i j:Nat}{P:List (ai×U7)->Prop}(h:i≠j):(∃d,(l.set i x)[j]?=some (some (Sl.k d))/\P d)=(∃d,l[j]?=some (some (Sl.k d))/\P d):=by rw [Oc h]
theorem sj{x:Str}{P:ai->Prop}:(∃k,NP x=gJ k/\P k)=P (.inr x):=propext ⟨λuu17=>by obtain⟨k,e,p⟩:=uu17;cases k with | inl i=>cases e | inr y=>cases e;exact p,λp=>⟨_,rfl,p⟩⟩
end
def cS:U7->Bool
 | .none=>true
 | _=>false
def oz:U7->U7->(U7->Prop)->Prop:=λx y Q=>y= .none/\Q (.bool (cS x))
def oA:U7->U7->(U7->Prop)->Prop:=λx y Q=>y= .none/\Q (.bool (!cS x))
theorem Sh.isN{K:NM}{H:Hp}{O:Ex}{x:V}{d:U7}(h:Sh K H O x d):decide (x= .non)=cS d:=by
 cases h with
 | dt h=>cases h <;> simp [cS]
 | _=>simp [cS]
theorem lB{K:NM}:cx K (λx y H Q=>y= .non/\Q (.bl (decide (x= .non))) H) oz:=λH O x y dx dy Qd R _ hx hy uu18 k=>by
 obtain⟨e,q⟩:=uu18;subst e;refine⟨hy.non,?_⟩;rw [hx.isN];exact k _ _ H q (aj.refl _) (.bl _)
theorem vX{K:NM}:cx K (λx y H Q=>y= .non/\Q (.bl (!decide (x= .non))) H) oA:=λH O x y dx dy Qd R _ hx hy uu19 k=>by
 obtain⟨e,q⟩:=uu19;subst e;refine⟨hy.non,?_⟩;rw [hx.isN];exact k _ _ H q (aj.refl _) (.bl _)
def oB:U7->U7->(U7->Prop)->Prop:=λx y Q=>∃ds i d,x=eS ds/\y= .int i/\atI ds i=some d/\Q d
theorem JD{K:NM}:cx K (qC K) oB:=λH O x y dx dy Qd R _ hx hy uu20 k=>by
 obtain⟨ds,i,d,e1,e2,e3,q⟩:=uu20;subst e1 e2;obtain⟨a,vs,rfl,hs,r⟩:=hx.scr;cases hy.int;obtain⟨v,hv,rv⟩:=r.atI e3;exact⟨a,vs,i,v,rfl,rfl,hs,hv,k d v H q (aj.refl _) rv⟩
section
variable {X:Cx} {H0:Hp} {O0:Ex}
def oC(t:DT)(tl th:DO):DA:=λδ Q=>t δ λd=>tl δ λl=>th δ λu=>∃xs,d=eS xs/\Q (cV xs l u)
theorem JE{e:Vd}{lo hi:Option Vd}{t:DT}{tl th:DO}{pos p2:Pos}(h:DF X H0 O0 e t)(hl:PO X lo (gH X.K H0 O0 tl))(hu:PO X hi (gH X.K H0 O0 th)):FE X H0 O0 (.Subscript e (.Slice lo hi none p2) pos) (oC t tl th):=
 (qB AN h hl hu).imp λσ H Q uu21=>by obtain⟨O,δ,Qd,w,q,k⟩:=uu21;exact⟨O,δ,_,w,q,λd v H1 q1 s1 r1=>⟨O,δ,_,w.mono s1,q1,λl H2 q2 s2=>⟨O,δ,_,w.mono (s1.trans s2),q2,λu H3 uu22 s3=>by
  obtain⟨xs,e,q3⟩:=uu22;subst e;obtain⟨a,vs,rfl,h1,d1⟩:=(r1.mono (s2.trans s3)).scr;exact⟨a,vs,rfl,h1,λp hp=>k _ _ _ _ q3 (s1.trans (s2.trans s3)) hp (d1.cut l u)⟩⟩⟩⟩
end
structure Rw where
 w:Str
 n:Int
 nm:Str
 r:List U7
def Rw.enc(x:Rw):U7:= .tuple (.str x.w:: .int x.n:: .str x.nm::x.r)
def fS(ws:List Str)(day:Int)(x:Rw):Prop:=x.w∈ws/\x.n<=day
instance {ws:List Str} {day:Int} {x:Rw}:Decidable (fS ws day x):=by unfold fS;infer_instance
abbrev Ls:=List (Str×Rw)
def eY(L:Ls):List (ai×U7):=L.map λp=>(.inr p.1,p.2.enc)
def cT(L:Ls)(nm:Str):Option Rw:=(L.find? λp=>decide (p.1=nm)).map (·.2)
def sk(L:Ls)(nm:Str)(x:Rw):Ls:=if (L.any λp=>decide (p.1=nm))=true then L.map (λp=>if p.1=nm then(p.1,x) else p) else L++[(nm,x)]
theorem oE{a b:Str}:((OW a:ai)=OW b)↔a=b:=⟨λh=>by cases h;rfl,λh=>by rw [h]⟩
theorem lC(nm:Str):∀L:Ls,cR (eY L) (.inr nm)=(cT L nm).map Rw.enc
 | []=>rfl
 | p::L=>by
  have ih:=lC nm L;unfold cR cT eY at*;by_cases h:p.1=nm
  ·simp [PN,h]
  ·have h':¬((OW p.1:ai)=OW nm):=λz=>h (oE.mp z);simp only [NS,PN,decide_eq_false h,decide_eq_false h'];exact ih
theorem sq(L:Ls)(nm:Str)(x:Rw):d8 (eY L) (.inr nm) x.enc=eY (sk L nm x):=by
 have ha:(eY L).any (λp=>decide (p.1=(OW nm:ai)))=L.any λp=>decide (p.1=nm):=by
  unfold eY;rw [List.any_map];congr 1;funext p;simp only [To,oE]
 unfold d8 sk;rw [ha];split
 ·unfold eY;rw [Oe,Oe];apply Q3;intro p _;simp only [To,oE];split <;> rfl
 ·unfold eY;simp
structure d9 (ws:List Str) (day:Int) (xs:List Rw) (L:Ls):Prop where
 nd:(L.map (·.1)).Nodup
 it:∀p∈L,p.1=p.2.nm/\p.2∈xs/\fS ws day p.2/\∀y∈xs,fS ws day y->y.nm=p.1->y.n<=p.2.n
 al:∀y∈xs,fS ws day y->∃p∈L,p.1=y.nm
 le:L.length<=xs.length
theorem d9.nil(ws:List Str)(day:Int):d9 ws day [] []:=⟨List.nodup_nil,(λp h=>by cases h),(λp h=>by cases h),NV _⟩
theorem oF{L:Ls}{nm:Str}{y:Rw}(h:cT L nm=some y):∃p∈L,p.1=nm/\p.2=y:=by
 unfold cT at h;cases e:L.find? (λp=>decide (p.1=nm)) with
 | none=>rw [e] at h;cases h
 | some p=>
  rw [e] at h;cases h;exact⟨p,Q7 e,by simpa using Uq e,rfl⟩
theorem B8{L:Ls}{nm:Str}(h:cT L nm=none):∀p∈L,p.1≠nm:=by
 intro p hp e;unfold cT at h;rw [Option.map_eq_none_iff,TM] at h;exact h p hp (by simpa using e)
section
variable {ws:List Str} {day:Int} {xs:List Rw} {L:Ls} {x:Rw}
theorem d9.skip(h:d9 ws day xs L)(hx:¬fS ws day x):d9 ws day (xs++[x]) L:=by
 refine⟨h.nd,λp hp=>?_,λy hy ho=>?_,by have:=h.le;simp;omega⟩
 ·obtain⟨a,b,c,d⟩:=h.it p hp;refine⟨a,by simp [b],c,λy hy ho e=>?_⟩;rcases Oo.mp hy with z | z
  ·exact d y z ho e
  ·rw [OA] at z;subst z;exact absurd ho hx
 ·rcases Oo.mp hy with z | z
  ·exact h.al y z ho
  ·rw [OA] at z;subst z;exact absurd ho hx
theorem d9.keep(h:d9 ws day xs L){y0:Rw}(hl:cT L x.nm=some y0)(hn:¬y0.n < x.n):d9 ws day (xs++[x]) L:=by
 obtain⟨p0,hp0,e0,rfl⟩:=oF hl;have uq:∀p∈L,p.1=x.nm->p=p0:=λp hp e=>by
  have nd:=h.nd;clear h hl hn
  induction L with
  | nil=>cases hp
  | cons q L ih=>
   rw [NS,PL] at nd;rcases N9.mp hp with a | a <;> rcases N9.mp hp0 with b | b
   ·rw [a,b]
   ·exact absurd (N6.mpr ⟨p0,b,by rw [e0,<-e,a]⟩) nd.1
   ·exact absurd (N6.mpr ⟨p,a,by rw [e,<-e0,b]⟩) nd.1
   ·exact ih b a nd.2
 refine⟨h.nd,λp hp=>?_,λy hy ho=>?_,by have:=h.le;simp;omega⟩
 ·obtain⟨a,b,c,d⟩:=h.it p hp;refine⟨a,by simp [b],c,λy hy ho e=>?_⟩;rcases Oo.mp hy with z | z
  ·exact d y z ho e
  ·rw [OA] at z;subst z;rw [uq p hp e.symm];omega
 ·rcases Oo.mp hy with z | z
  ·exact h.al y z ho
  ·rw [OA] at z;subst z;exact⟨p0,hp0,e0⟩
theorem d9.put(h:d9 ws day xs L)(ho:fS ws day x)(hl:∀y,cT L x.nm=some y->y.n < x.n):d9 ws day (xs++[x]) (sk L x.nm x):=by
 unfold sk;split
 ·rename_i ha;obtain⟨p0,hp0,e0⟩:=Ql.mp ha;have e0:p0.1=x.nm:=of_decide_eq_true e0;have hmx:∀y∈xs,fS ws day y->y.nm=x.nm->y.n<=x.n:=λy hy ho' e=>by
   cases hk:cT L x.nm with
   | none=>exact absurd e0 (B8 hk p0 hp0)
   | some z=>
    obtain⟨p,hp,ep,rfl⟩:=oF hk;have:=(h.it p hp).2.2.2 y hy ho' (by rw [ep];exact e);have:=hl _ hk;omega
  refine⟨?_,λp hp=>?_,λy hy ho'=>?_,by have:=h.le;simp;omega⟩
  ·rw [Oe,show((λp:Str×Rw=>p.1)∘ λp=>if p.1=x.nm then(p.1,x) else p)=λp=>p.1 by funext p;simp only [To];split <;> rfl];exact h.nd
  ·obtain⟨q,hq,rfl⟩:=N6.mp hp;by_cases z:q.1=x.nm
   ·rw [U4 z];refine⟨z,U6,ho,λy hy ho' e=>?_⟩;rcases Oo.mp hy with m | m
    ·exact hmx y m ho' (by rw [e];exact z)
    ·rw [OA] at m;subst m;exact UW _
   ·rw [U3 z];obtain⟨a,b,c,d⟩:=h.it q hq;refine⟨a,by simp [b],c,λy hy ho' e=>?_⟩;rcases Oo.mp hy with m | m
    ·exact d y m ho' e
    ·rw [OA] at m;subst m;exact absurd e.symm z
  ·rcases Oo.mp hy with m | m
   ·obtain⟨p,hp,e⟩:=h.al y m ho';refine⟨_,N6.mpr ⟨p,hp,rfl⟩,?_⟩;split <;> exact e
   ·rw [OA] at m;subst m;refine⟨_,N6.mpr ⟨p0,hp0,rfl⟩,?_⟩;rw [U4 e0];exact e0
 ·rename_i ha;have hno:∀p∈L,p.1≠x.nm:=λp hp e=>ha (Ql.mpr ⟨p,hp,decide_eq_true e⟩);refine⟨?_,λp hp=>?_,λy hy ho'=>?_,by have:=h.le;simp;omega⟩
  ·rw [OJ];refine T3.mpr ⟨h.nd,U6,λa ha' b hb=>?_⟩;simp only [NS,OS,OA] at hb;obtain⟨p,hp,rfl⟩:=N6.mp ha';rw [hb];exact hno p hp
  ·rcases Oo.mp hp with m | m
   ·obtain⟨a,b,c,d⟩:=h.it p m;refine⟨a,by simp [b],c,λy hy ho' e=>?_⟩;rcases Oo.mp hy with z | z
    ·exact d y z ho' e
    ·rw [OA] at z;subst z;exact absurd e.symm (hno p m)
   ·rw [OA] at m;subst m;refine⟨rfl,U6,ho,λy hy ho' e=>?_⟩;rcases Oo.mp hy with z | z
    ·obtain⟨p,hp,e'⟩:=h.al y z ho';exact absurd (e'.trans e) (hno p hp)
    ·rw [OA] at z;subst z;exact UW _
  ·rcases Oo.mp hy with m | m
   ·obtain⟨p,hp,e⟩:=h.al y m ho';exact⟨p,by simp [hp],e⟩
   ·rw [OA] at m;subst m;exact⟨(y.nm,y),U6,rfl⟩
end
structure oG (ws:List Str) (day:Int) (xs res:List Rw):Prop where
 up:(res.map (·.nm)).Pairwise λa b=>dR a b=true
 nd:(res.map (·.nm)).Nodup
 it:∀x∈res,x∈xs/\fS ws day x/\∀y∈xs,fS ws day y->y.nm=x.nm->y.n<=x.n
 al:∀y∈xs,fS ws day y->∃x∈res,x.nm=y.nm
 le:res.length<=xs.length
theorem oH{L:Ls}{nm:Str}(h:nm∈L.map (·.1)):∃x,cT L nm=some x:=by
 cases e:cT L nm with
 | some x=>exact⟨x,rfl⟩
 | none=>
  obtain⟨p,hp,e'⟩:=N6.mp h;exact absurd e' (B8 e p hp)
def sr(L:Ls):List Rw:=(dJ (L.map (·.1))).filterMap (cT L)
theorem JF{ws:List Str}{day:Int}{xs:List Rw}{L:Ls}(h:d9 ws day xs L):(sr L).map (·.nm)=dJ (L.map (·.1)):=by
 unfold sr;have key:∀l:List Str,(∀a∈l,a∈L.map (·.1))->(l.filterMap (cT L)).map (·.nm)=l:=by
  intro l
  induction l with
  | nil=>intro _;rfl
  | cons a l ih=>
   intro hl;obtain⟨x,hx⟩:=oH (hl a U6);obtain⟨p,hp,e,rfl⟩:=oF hx;rw [Pr,hx];show p.2.nm::_=_;rw [ih λb hb=>hl b (by simp [hb]),<-(h.it p hp).1,e]
 exact key _ λa ha=>(fG _).mem_iff.mp ha
theorem d9.res{ws:List Str}{day:Int}{xs:List Rw}{L:Ls}(h:d9 ws day xs L):oG ws day xs (sr L):=by
 have hn:=JF h;refine⟨by rw [hn];exact BQ _,by rw [hn];exact(fG _).nodup_iff.mpr h.nd,λx hx=>?_,λy hy ho=>?_,by rw [<-NO (f:=λx:Rw=>x.nm),hn,(fG _).length_eq,NO];exact h.le⟩
 ·obtain⟨a,ha,e⟩:=P7.mp hx;obtain⟨p,hp,e1,rfl⟩:=oF e;obtain⟨b1,b2,b3,b4⟩:=h.it p hp;exact⟨b2,b3,λy hy ho e=>b4 y hy ho (by rw [b1];exact e)⟩
 ·obtain⟨p,hp,e⟩:=h.al y hy ho;have:p.1∈(sr L).map (·.nm):=by rw [hn];exact(fG _).mem_iff.mpr (N6.mpr ⟨p,hp,rfl⟩)
  obtain⟨x,hx,e'⟩:=N6.mp this;exact⟨x,hx,e'.trans e⟩
theorem vY:∀{ns:List Int}{us:List U8},aE (ns.map V.int) us->IntsAre us ns
 | [],_,r=>by rw [OS] at r;cases r;exact .nil
 | n::ns,_,r=>by
  rw [NS] at r;cases r with
  | cons r1 r2=>obtain⟨t,rfl⟩:=r1;exact .cons n t (vY r2)
theorem JG{X:Cx}(hc:X.calm=true):cH X (.builtin "max") (λxs H Q=>∃(p:U9)(ns:List Int),xs=[.ref p]/\aV X.K H p (ns.map V.int)/\ns≠[]/\∀M,M∈ns->(∀a∈ns,a<=M)->Q (.int M) H):=by
 intro Wy s σ H xs us Q I r h;obtain⟨p,ns,rfl,hq,hne,q⟩:=h;obtain⟨u,rfl,rx⟩:=c9 r;cases rx;obtain⟨its,rv,pl,hz⟩:=I.list hq;have hi:=vY rv;obtain⟨zs,e⟩:=hi.allInts.items;have hns:ns=zs.toList.map (·.1):=by rw [<-hi.numsOf,<-nums_intItems,<-e]
 have h0:0 < zs.size:=by
  rcases TN zs.size with z | z
  ·exact absurd (by rw [hns];simp [SY.mp z]) hne
  ·exact z
 have hl:=pl.isList;rw [e] at hl;refine max_intList (I.ok.hd hc) hl h0 λv h' tk hv hk=>?_;obtain⟨t,rfl⟩:=intItems_at hv;obtain⟨h1,h2⟩:=argBest_gt (numAt zs) (zs.size - 1);refine⟨.int _,H,I.kept (t':=tk) hk,⟨t,rfl⟩,q _ ?_ λa ha=>?_⟩
 ·rw [hns,numAt_eq];exact getD_mem (by rw [NO,OF];omega)
 ·rw [hns] at ha;obtain⟨j,hj,rfl⟩:=mem_getD ha;rw [NO,OF] at hj;rw [<-numAt_eq];exact h2 j U2
theorem ak.intsL{K:NM}{H:Hp}{O:Ex}:∀{ns:List Int}{vs:List V},ak K H O vs (ns.map NQ)->vs=ns.map V.int
 | [],_,r=>by rw [OS] at r;cases r;rfl
 | b::bs,_,r=>by
  rw [NS] at r;cases r with
  | cons h r=>cases h;rw [NS,ak.intsL r]
def oI:List U7->(U7->Prop)->Prop:=λds Q=>∃ns:List Int,ds=[.list (ns.map .int)]/\ns≠[]/\∀M,M∈ns->(∀a∈ns,a<=M)->Q (.int M)
theorem JH{K:NM}:fO K (λxs H Q=>∃(p:U9)(ns:List Int),xs=[.ref p]/\aV K H p (ns.map V.int)/\ns≠[]/\∀M,M∈ns->(∀a∈ns,a<=M)->Q (.int M) H) oI:=λH O xs ds Qd R tr hs uu23 k=>by
 obtain⟨ns,e,hne,q⟩:=uu23;subst e;cases hs with
 | cons h r=>
  cases r;obtain⟨a,vs,rfl,h1,d1⟩:=h.lst;cases d1.intsL;exact⟨a,ns,rfl,h1,hne,λM m1 m2=>k _ _ H (q M m1 m2) (aj.refl _) (.int _)⟩
def vZ(o:Obj)(a:U9)(kv:List (ai×V)):It:=⟨λi H=>i < kv.length/\H a=some (.frz o (.dK kv)),λi H x H'=>H'=H/\∃p,kv[i]?=some p/\x=kV p.1,λi H=>kv.length<=i/\H a=some (.frz o (.dK kv))⟩
theorem B9{P:Vj}{w:Vm}{H:Hp}{h:Vl}{a:U9}{o:Obj}{es:Array Wh}{ep:Nat}{kv:List (ai×V)}(ok:bM P w H h)(e:H a=some (.frz o (.dK kv)))(d:o.data= .dict es ep):
 (a==VH)=false/\∃vs,KV kv vs/\h.DictAt (ck P w) a vs ep:=by
 obtain⟨h1,_,hd,vs,rel,o',es',ep',g,r1,r2,r3⟩:=ok a _ e;rw [h1] at g;cases g;rw [d] at r2;cases r2;exact⟨hd,vs,rel,o,es,h1,r1,d,r3⟩
theorem KV.len{kv:List (ai×V)}{vs:List (ai×U8)}(r:KV kv vs):vs.length=kv.length:=r.length.symm
theorem JI{P:Vj}{w:Vm}{K:NM}{tg:Vd}(it a:U9)(o:Obj)(es:Array Wh)(ep:Nat)(kv:List (ai×V))(d:o.data= .dict es ep):mi P w K tg (vZ o a kv) [it] it (λi h=>h.IsKeyIter it a i kv.length ep) where
 mem:=U6
 obj:=λi h st b hb=>by
  have e:b=it:=by simpa using hb
  subst e;obtain⟨o,e,c,d⟩:=st;exact⟨o,e,λv z=>by rw [d] at z;cases z⟩
 keep:=λi h h' st k=>st.at λo e=>k it U6 o e
 item:=by
  intro X hP hw hK hc i Wy s σ H E I hf st hg;subst hP hw hK;obtain⟨hi,ha⟩:=hg;obtain⟨hd,vs,rel,da⟩:=B9 I.hok ha d;have hlen:=rel.len;obtain⟨f0,f1,f2,f3,f4,f5⟩:=hf it U6;obtain⟨⟨k0,v0⟩,hx⟩:∃p,vs[i]?=some p:=⟨vs[i]'U2,by simp [hlen,hi]⟩;refine wpAny_pyNext_dict_item (by rw [hlen];exact st) da hx λkey h' hkey st' sb=>?_;rw [hlen] at st';have I1:af X Wy σ H {s with heap:=h'}:=I.turned (t':=s.toks) (λb o hb e=>(sb.2 b hb).trans e) f0 f1 f3 f4 f5;obtain⟨u,e,c,dd⟩:=id st';have ek:(kv[i]'hi).1=k0:=by
   have z:=congrArg (λl:List ai=>l[i]?) rel.keys;simp only [Ob,hx] at z;simpa [hi] using z
  refine⟨key,rfl,qo (s:={s with heap:=h'}) e c dd U1 ⟨kV (kv[i]'hi).1,H,I1,?_,⟨rfl,_,by simp [hi],rfl⟩,st',λb hb=>(hf b hb).1⟩⟩;rw [ek];rcases gb (k:=k0) (v:=key) hkey with⟨j,t,e1,e2⟩ | ⟨j,t,e1,e2⟩
  ·rw [e1,e2];exact⟨t,rfl⟩
  ·rw [e1,e2];exact⟨t,rfl⟩
 done:=by
  intro X hP hw hK hc i Wy s σ H E I hf st hg;subst hP hw hK;obtain⟨hi,ha⟩:=hg;obtain⟨hd,vs,rel,da⟩:=B9 I.hok ha d;have hlen:=rel.len;obtain⟨f0,f1,f2,f3,f4,f5⟩:=hf it U6;refine wpAny_pyNext_dict_end (I.ok.hd hc) (by rw [hlen];exact st) da (by simp [hlen,hi]) λh' he=>⟨rfl,?_⟩;exact I.turned (t':=s.toks) (λb o hb e=>he b o hb e) f0 f1 f3 f4 f5
 self:=λA i s Q E st h=>wpAny_pyIter_keyiter st h
theorem Wd.frzK{K:NM}{H0 H:Hp}{O0 O:Ex}{σ:St}{δ:Dl}(w:Wd K H0 O0 H O σ δ){i:Nat}{l:U9}{y0:Sl}(e:δ[i]?=some (some y0))(ho:y0.own)(h:σ[i]?=some (some (.ref l)))(u:HO):
 ∃O',Wd K H0 O0 (ao H l u) O' σ (δ.set i none)/\aX H (ao H l u) O O'/\¬O' l:=by
 obtain⟨l',x1,a,b⟩:=w.adr e ho;rw [h] at x1;cases x1;have l0:H0 l=none:=(w.new l a).resolve_left b;have S:aX H (ao H l u) O (λx=>O x/\x≠l):=⟨λc q z n=>by rw [aA (λy=>n (by rw [y];exact a))];exact z,λ_ _ n z=>n z.1⟩;have li:i < δ.length:=(N7.mp e).1;have ne:∀{j:Nat}{y:Sl},(δ.set i none)[j]?=some (some y)->j≠i:=λ{j y} q z=>by
  subst z;rw [Ov li] at q;cases q
 refine⟨_,⟨λc q z=>?_,λx z=>⟨w.sub x z,λy=>b (by rw [<-y];exact z)⟩,λx z=>w.new x z.1,λx z=>by rw [aA z.2];exact w.trk x z.1,by simp [w.len],λj y q=>?_,λj k y z l' e1 y1 e2 z2 e3 e4=>?_⟩,S,λz=>z.2 rfl⟩
 ·have:c≠l:=λy=>by rw [y,l0] at z;cases z
  rw [aA this];exact w.same c q z
 ·by_cases hj:j=i
  ·subst hj;rw [Ov li] at q;cases q;exact O8
  ·rw [Oc (Ne.symm hj)] at q;refine(w.sl j y q).go S (λb o ho' e' a1 a2 a3=>?_) (λb o u a1 a2 a3=>by have nb:b≠l:=λz=>w.nofrz e ho h o u (by rw [<-z];exact a3);exact⟨⟨a1,nb⟩,by rw [aA nb];exact a3⟩) λc o a1 a3=>by rw [aA (λz=>b (by rw [<-z];exact a1))];exact a3
   have nb:b≠l:=λz=>by
    subst z
    match y,ho',q with
    | some z,ho',q=>exact hj (w.dis j i z y0 _ q (by cases z <;> first | trivial | cases ho') e ho (i7 e') h)
   exact⟨⟨a1,nb⟩,by rw [aA nb];exact a3⟩
 ·have n1:=ne e1;have n2:=ne e2;rw [Oc (Ne.symm n1)] at e1;rw [Oc (Ne.symm n2)] at e2;exact w.dis j k _ _ l' e1 y1 e2 z2 e3 e4
theorem cE.dk{o:Obj}{a:U9}{kv:List (ai×V)}:cE (vZ o a kv) (λH=>H a=some (.frz o (.dK kv))) (kv.map λp=>kV p.1):=by
 refine⟨λi H' s hi=>⟨by simpa using hi,s⟩,λi H' x H'' s hi y=>⟨y.1,?_⟩,λi H' s hi=>⟨by simpa using hi,s⟩⟩;obtain⟨_,p,hp,rfl⟩:=y;simp [hp]
def jV:List (DT×DT)->Dl->(List (U7×U7)->Prop)->Prop
 | [],_,Q=>Q []
 | (a,b)::r,δ,Q=>a δ λx=>b δ λy=>jV r δ λps=>Q ((x,y)::ps)
inductive jl (K:NM) (H:Hp) (O:Ex):List (V×V)->List (U7×U7)->Prop
 | nil:jl K H O [] []
 | cons {a b:V} {x y:U7} {r s}:Dt K H O a x->Dt K H O b y->jl K H O r s->jl K H O ((a,b)::r) ((x,y)::s)
theorem Ca{K:NM}{H0:Hp}{O0 O:Ex}{σ:St}{δ:Dl}:∀(trs:List (DT×DT)){H:Hp}{Qd:List (U7×U7)->Prop}{R:List (V×V)->Hp->Prop},Wd K H0 O0 H O σ δ->jV trs δ Qd->(∀ds vs H',Qd ds->aj H H'->jl K H' O vs ds->R vs H')->qV (trs.map λp=>(up K H0 O0 p.1,up K H0 O0 p.2)) σ H R
 | [],H,Qd,R,w,q,k=>k [] [] H q (aj.refl _) .nil
 | (a,b)::r,H,Qd,R,w,q,k=>by
  refine⟨O,δ,_,w,q,λx v H1 q1 s1 r1=>⟨O,δ,_,w.mono s1,q1,λy u H2 q2 s2 r2=>?_⟩⟩;exact Ca r ((w.mono s1).mono s2) q2 λds vs H3 q3 s3 r3=>k _ _ H3 q3 ((s1.trans s2).trans s3) (.cons (r1.mono (s2.trans s3)) (r2.mono s3) r3)
theorem Dt.free{K:NM}{H H':Hp}{O O':Ex}{v:V}{d:U7}(h:Dt K H O v d)(s:jI d=true):Dt K H' O' v d:=by
 cases h <;> first | exact .non | exact .bl _ | exact .int _ | exact .str _ | cases s
theorem jl.kd{K:NM}{H H':Hp}{O:Ex}:∀{kd:List (ai×U7)}{ps:List (V×V)},jl K H O ps (kd.map λp=>(gJ p.1,p.2))->(∀p∈kd,jI p.2=true)->∃kv:List (ai×V),ps=kv.map (λp=>(kV p.1,p.2))/\bD K H' O kv kd
 | [],_,h,_=>by cases h;exact⟨[],rfl,.nil⟩
 | p::kd,_,h,sc=>by
  cases h with
  | cons a b r=>
   obtain⟨kv,e,k⟩:=jl.kd r λq hq=>sc q (OB _ hq);have:=a.key;exact⟨(p.1,_)::kv,by rw [e,this];rfl,.cons (b.free (sc p OY)) k⟩
theorem bD.merge{K:NM}{H:Hp}{O:Ex}{more:List (ai×V)}{md:List (ai×U7)}(h:bD K H O more md):∀{kv:List (ai×V)}{kd:List (ai×U7)},bD K H O kv kd->bD K H O (gI kv more) (md.foldl (λa p=>d8 a p.1 p.2) kd):=by
 induction h with
 | nil=>intro kv kd r;exact r
 | cons a _ ih=>intro kv kd r;exact ih (r.put _ a)
section
variable {X:Cx} {H0:Hp} {O0:Ex}
def oJ(trs:List (DT×DT)):jU:=λδ Q=>jV trs δ λps=>∃kd:List (ai×U7),ps=kd.map (λp=>(gJ p.1,p.2))/\kd.length<=15/\(∀p∈kd,jI p.2=true)/\Q (kd.foldl (λa p=>d8 a p.1 p.2) [])
def su(X:Cx)(H0:Hp)(O0:Ex)(pos:Pos)(keys:List (Option Vd))(values:List Vd)(trs:List (DT×DT)):Prop:=nS X pos keys values (trs.map λp=>(up X.K H0 O0 p.1,up X.K H0 O0 p.2))
theorem JJ{pos:Pos}:su X H0 O0 pos [] [] []:=II
theorem sv{pos:Pos}{k v:Vd}{ks:List (Option Vd)}{vs:List Vd}{tk tv:DT}{trs:List (DT×DT)}(hk:DE X H0 O0 k tk)(hv:DE X H0 O0 v tv)(hr:su X H0 O0 pos ks vs trs):su X H0 O0 pos (some k::ks) (v::vs) ((tk,tv)::trs):=IJ hk hv hr
theorem JK{pos:Pos}{keys:List (Option Vd)}{values:List Vd}{trs:List (DT×DT)}(h:su X H0 O0 pos keys values trs)(hall:keys.all (·.isSome)=true:=by rfl)(hl:keys.length=values.length:=by rfl)(h0:keys≠[]:=by exact List.cons_ne_nil _ _)(h15:keys.length<=15:=by exact Nat.le_of_ble_eq_true rfl):KE X H0 O0 (.Dict keys values pos) (oJ trs):=
 (IL h hall hl h0 h15).imp λσ H Q ⟨O,δ,Qd,w,q,k⟩=>λp hp=>by
  refine Ca trs (w.mono (aj.new hp)) q λds vs H2 ⟨kd,e,n,sc,q2⟩ s2 r2=>?_;subst e;have hp2:H2 p=some (.dK []):=s2 _ _ aR;obtain⟨kv,e,r⟩:=jl.kd (H':=λb=>if b=p then none else H2 b) r2 sc;refine⟨hp2,kv,e,by rw [r.length];exact n,?_⟩;have eu:ao H2 p (.dK (gI [] kv))=ao (λb=>if b=p then none else H2 b) p (.dK (gI [] kv)):=by
   funext b;unfold ao;split
   ·rfl
   ·rename_i hb;exact(U3 hb).symm
  rw [eu];refine k _ _ p _ q2 (λb o z=>?_) (U4 rfl) (r.merge .nil);have:b≠p:=λy=>by rw [y,hp] at z;cases z
  show(if b=p then none else H2 b)=some o;rw [U3 this];exact s2 _ _ (by rw [aA this];exact z)
theorem sA{N':List Str}{k:Nat}{fr:List Nat}{scope:Vv}{iter elt tg:Vd}{ifs:List Vd}{t te:DT}{tc:DB}{g:TG}{dg:DG}{pos:Pos}(hc:X.calm=true)(S:bj X.env.scope X.N N' k fr scope)(hi:DF X H0 O0 iter t)(gd:GD X.K g dg)(hk:iE g k)(hfr:fr.Nodup)
 (hg:∀fp C s H,PG (bR X scope N' fp C s H) tg g)(hf:∀fp C s H,fk (bR X scope N' fp C s H) ifs (bY X.K H0 O0 tc))(he:∀fp C s H,PE (bR X scope N' fp C s H) elt (up X.K H0 O0 te))
 (hs:∀x,Vp iter X.env x=pure x:=by intro _;rfl):PU X (.ListComp elt [⟨tg,iter,ifs,0⟩] scope pos) (mM X.K H0 O0 (jO t dg tc te k fr)):=
 (BL hc S (uL hi) hg hf he hs).imp λσ H Q uu26=>by obtain⟨O,δ,Qd,w,q,kk⟩:=uu26;exact⟨O,δ,_,w,q,λd v H1 uu27 s1 r1=>by
  obtain⟨xs,e,hz,q1⟩:=uu27;subst e;obtain⟨a,vs,rfl,hq,rr⟩:=r1.tup;refine⟨a,rfl,⟨_,hq⟩,λD hD=>kO (cE.tup hq) gd hfr (λv _ H' R h=>hk fr σ v H' R h) (λ_ _ _ z=>z) (λ_ _ _ z=>z) (λD H' hD s' o e=>s' _ _ e (cL e hD)) rr (w.mono s1) (by rw [rr.length];exact hz) q1 (λds us p H' z s' hp r'=>kk ds us p H' z (s1.trans s') hp r') D hD⟩⟩
end
structure lE (n:Nat) (lt:Nat->Nat->Bool) (I:Va->Prop) (cmp:Nat->Nat->(Bool->Va->Prop)->Va->Prop):Prop where
 as:∀i j C s,i < n->j < n->i≠j->I s->(∀s',I s'->C (lt i j) s')->cmp i j C s
structure hU (n:Nat) (lt:Nat->Nat->Bool):Prop where
 tot:∀i j,i < n->j < n->i≠j->lt i j=!lt j i
 tr:∀i j k,i < n->j < n->k < n->lt i j=true->lt j k=true->lt i k=true
structure cf (n:Nat) (p:Array Nat):Prop where
 perm:p.toList.Perm (OU n)
theorem cf.size{n:Nat}{p:Array Nat}(h:cf n p):p.size=n:=by rw [<-OF,h.perm.length_eq,Rv]
theorem cf.lt{n:Nat}{p:Array Nat}(h:cf n p){k:Nat}(hk:k < n):p.getD k 0 < n:=by
 have hs:=h.size;have e:p.getD k 0=p[k]'U2:=by simp [Rr,show k < p.size by omega]
 rw [e];have:=h.perm.mem_iff.mp (Td.mpr (Array.getElem_mem (show k < p.size by omega)));simpa using this
theorem cf.ne{n:Nat}{p:Array Nat}(h:cf n p){i j:Nat}(hi:i < n)(hj:j < n)(hij:i≠j):p.getD i 0≠p.getD j 0:=by
 have hs:=h.size;have nd:p.toList.Nodup:=h.perm.nodup_iff.mpr List.nodup_range;have ei:p.getD i 0=p.toList[i]'(by simp;omega):=by simp [Rr,show i < p.size by omega]
 have ej:p.getD j 0=p.toList[j]'(by simp;omega):=by simp [Rr,show j < p.size by omega]
 rw [ei,ej];intro e;exact hij ((RF nd).mp e)
theorem cf.bubble{n:Nat}{p:Array Nat}(h:cf n p)(a d:Nat):cf n (RS p a d):=⟨(R4.mp (bubble_perm p a d)).trans h.perm⟩
theorem cf.rev{n:Nat}{p:Array Nat}(h:cf n p)(i j:Nat):cf n (kas_rev p i j):=⟨(R4.mp (mirror_perm p i j _)).trans h.perm⟩
theorem v3(n:Nat):cf n (TQ (OU n)):=⟨U6⟩
def Up(lt:Nat->Nat->Bool)(p:Array Nat)(k:Nat):Prop:=∀i j,i < j->j < k->lt (p.getD i 0) (p.getD j 0)=true
section
variable {n:Nat} {lt:Nat->Nat->Bool} {I:Va->Prop} {cmp:Nat->Nat->(Bool->Va->Prop)->Va->Prop}
theorem Up.snoc(T:hU n lt){p:Array Nat}(hp:cf n p){k:Nat}(hk:k < n)(h:Up lt p k)(h0:0 < k)(hl:lt (p.getD (k - 1) 0) (p.getD k 0)=true):Up lt p (k+1):=by
 intro i j hij hj;rcases QP j k with z | z
 ·exact h i j hij z
 ·have:j=k:=U2
  subst this;rcases QP i (j - 1) with w | w
  ·exact T.tr _ _ _ (hp.lt U2) (hp.lt U2) (hp.lt hk) (h i (j - 1) w U2) hl
  ·have:i=j - 1:=U2
   subst this;exact hl
theorem v5(A:lE n lt I cmp)(T:hU n lt){p:Array Nat}(hp:cf n p){Q:Nat->Va->Prop}:∀(f m:Nat)(s:Va),1<=m->m+f=n->Up lt p m->I s->
 (∀k s',I s'->m<=k->k<=n->Up lt p k->(k < n->lt (p.getD k 0) (p.getD (k - 1) 0)=true)->Q k s')->(kas_asc p f m).kasWp cmp Q s
 | 0,m,s,h1,hf,hu,hI,q=>q m s hI (NV _) U2 hu (λz=>by omega)
 | f+1,m,s,h1,hf,hu,hI,q=>by
  have hm:m < n:=U2
  refine A.as _ _ _ s (hp.lt hm) (hp.lt U2) (hp.ne hm U2 U2) hI λs' hI'=>?_;cases hc:lt (p.getD m 0) (p.getD (m - 1) 0) with
  | true=>
   dsimp only;rw [U4 rfl];exact q m s' hI' (NV _) U2 hu (λ_=>hc)
  | false=>
   dsimp only;rw [U3 U6];have hl:lt (p.getD (m - 1) 0) (p.getD m 0)=true:=by rw [T.tot _ _ (hp.lt U2) (hp.lt hm) (hp.ne U2 hm U2),hc];rfl
   exact v5 A T hp f (m+1) s' U2 U2 (hu.snoc T hp hm U2 hl) hI' λk s2 a b c d e=>q k s2 a U2 c d e
def Dn(lt:Nat->Nat->Bool)(p:Array Nat)(k:Nat):Prop:=∀i j,i < j->j < k->lt (p.getD j 0) (p.getD i 0)=true
theorem Dn.snoc(T:hU n lt){p:Array Nat}(hp:cf n p){k:Nat}(hk:k < n)(h:Dn lt p k)(h0:0 < k)(hl:lt (p.getD k 0) (p.getD (k - 1) 0)=true):Dn lt p (k+1):=by
 intro i j hij hj;rcases QP j k with z | z
 ·exact h i j hij z
 ·have:j=k:=U2
  subst this;rcases QP i (j - 1) with w | w
  ·exact T.tr _ _ _ (hp.lt hk) (hp.lt U2) (hp.lt U2) hl (h i (j - 1) w U2)
  ·have:i=j - 1:=U2
   subst this;exact hl
theorem Cb(A:lE n lt I cmp)(T:hU n lt){p:Array Nat}(hp:cf n p){Q:Array Nat×Nat×Nat->Va->Prop}:∀(f m:Nat)(s:Va),1<=m->m+f=n->Dn lt p m->I s->
 (∀k s',I s'->m<=k->k<=n->Dn lt p k->Q (p,k,0) s')->(kas_desc f p m 0).kasWp cmp Q s
 | 0,m,s,h1,hf,hu,hI,q=>q m s hI (NV _) U2 hu
 | f+1,m,s,h1,hf,hu,hI,q=>by
  have hm:m < n:=U2
  refine A.as _ _ _ s (hp.lt hm) (hp.lt U2) (hp.ne hm U2 U2) hI λs' hI'=>?_;cases hc:lt (p.getD m 0) (p.getD (m - 1) 0) with
  | true=>
   dsimp only;rw [U4 rfl,U3 U6];exact Cb A T hp f (m+1) s' U2 U2 (hu.snoc T hp hm U2 hc) hI' λk s2 a b c d=>q k s2 a U2 c d
  | false=>
   dsimp only;rw [U3 U6];refine A.as _ _ _ s' (hp.lt U2) (hp.lt hm) (hp.ne U2 hm U2) hI' λs2 hI2=>?_;have hl:lt (p.getD (m - 1) 0) (p.getD m 0)=true:=by rw [T.tot _ _ (hp.lt U2) (hp.lt hm) (hp.ne U2 hm U2),hc];rfl
   rw [hl];dsimp only;rw [U4 rfl];exact q m s2 hI2 (NV _) U2 hu
theorem Cc{p:Array Nat}{j k:Nat}(hj:j<=p.size):(kas_rev p 0 j).getD k 0=if k < j then p.getD (j - 1 - k) 0 else p.getD k 0:=by
 have:=getElem?_mirror_all (xs:=p) (i:=0) (j:=j) hj k;unfold kas_rev;rw [Pj,this];by_cases h:k < j
 ·simp [h,Pj]
 ·simp [h,Pj]
theorem Dn.rev{p:Array Nat}(hp:cf n p){k:Nat}(hk:k<=n)(h:Dn lt p k):Up lt (kas_rev p 0 k) k:=by
 intro i j hij hj;have hs:=hp.size;rw [Cc U2,Cc U2,U4 U2,U4 hj];exact h _ _ U2 U2
theorem JL(A:lE n lt I cmp)(T:hU n lt)(h2:2<=n){p:Array Nat}(hp:cf n p){Q:Nat×Array Nat->Va->Prop}{s:Va}(hI:I s)
 (q:∀k p' s',I s'->1<=k->k<=n->cf n p'->Up lt p' k->Q (k,p') s'):(kas_count n p).kasWp cmp Q s:=by
 unfold kas_count;rw [Q8];refine v5 A T hp (n - 1) 1 s (NV _) U2 (λi j a b=>by omega) hI λm s1 hI1 m1 m2 hu hs=>?_;by_cases hm:m=n
 ·subst hm;rw [U4 U6];exact q m p s1 hI1 m1 (NV _) hp hu
 ·rw [U3 (by simpa using hm)];by_cases hm1:m > 1
  ·rw [U4 hm1];refine A.as _ _ _ s1 (hp.lt U2) (hp.lt U2) (hp.ne U2 U2 U2) hI1 λs2 hI2=>?_;rw [hu 0 (m - 1) U2 U2];dsimp only;rw [U4 rfl];exact q m p s2 hI2 m1 U2 hp hu
  ·rw [U3 hm1];have:m=1:=U2
   subst this;have h10:=hs U2;unfold kas_descPart;rw [Q8];refine Cb A T hp (n - (1+1)) (1+1) s1 U2 U2 (λi j a b=>?_) hI1 λk s2 hI2 k1 k2 hd=>?_
   ·have:i=0:=U2
    have:j=1:=U2
    subst_vars
    exact h10
   ·rw [U3 U6];unfold kas_tail3;rw [Q8];have hp':=hp.rev 0 k;refine v5 A T hp' (n - k) k s2 U2 U2 (hd.rev hp k2) hI2 λm s3 hI3 a b c d=>?_;exact q m _ s3 hI3 U2 b hp' c
theorem v7(A:lE n lt I cmp)(T:hU n lt){p:Array Nat}(hp:cf n p){k:Nat}(hk:k < n)(hu:Up lt p k){Q:Nat->Va->Prop}:∀(f l r:Nat)(s:Va),r - l<=f->l<=r->r<=k->I s->
 (∀i,i < l->lt (p.getD i 0) (p.getD k 0)=true)->(∀i,r<=i->i < k->lt (p.getD k 0) (p.getD i 0)=true)->
 (∀l s',I s'->l<=k->(∀i,i < l->lt (p.getD i 0) (p.getD k 0)=true)->(∀i,l<=i->i < k->lt (p.getD k 0) (p.getD i 0)=true)->Q l s')->(kas_place p k f l r).kasWp cmp Q s
 | 0,l,r,s,hf,hlr,hrk,hI,h1,h2,q=>q l s hI U2 h1 (λi a b=>h2 i U2 b)
 | f+1,l,r,s,hf,hlr,hrk,hI,h1,h2,q=>by
  unfold kas_place;by_cases hge:l >= r
  ·rw [U4 hge];exact q l s hI U2 h1 (λi a b=>h2 i U2 b)
  ·rw [U3 hge];have hm:(l+r)/ 2 < k:=U2
   refine A.as _ _ _ s (hp.lt hk) (hp.lt U2) (hp.ne hk U2 U2) hI λs' hI'=>?_;cases hc:lt (p.getD k 0) (p.getD ((l+r)/ 2) 0) with
   | true=>
    dsimp only;rw [U4 rfl];refine v7 A T hp hk hu f l ((l+r)/ 2) s' U2 U2 U2 hI' h1 (λi a b=>?_) q;rcases QP ((l+r)/ 2) i with z | z
    ·exact T.tr _ _ _ (hp.lt hk) (hp.lt U2) (hp.lt U2) hc (hu _ _ z b)
    ·have:i=(l+r)/ 2:=U2
     rw [this];exact hc
   | false=>
    dsimp only;rw [U3 U6];have hl:lt (p.getD ((l+r)/ 2) 0) (p.getD k 0)=true:=by rw [T.tot _ _ (hp.lt U2) (hp.lt hk) (hp.ne U2 hk U2),hc];rfl
    refine v7 A T hp hk hu f ((l+r)/ 2+1) r s' U2 U2 hrk hI' (λi a=>?_) h2 q;rcases QP i ((l+r)/ 2) with z | z
    ·exact T.tr _ _ _ (hp.lt U2) (hp.lt U2) (hp.lt hk) (hu _ _ z hm) hl
    ·have:i=(l+r)/ 2:=U2
     rw [this];exact hl
theorem Cd{p:Array Nat}{k d i:Nat}(hk:k < p.size)(hd:d<=k):(RS p k d).getD i 0=if i=k - d then p.getD k 0 else if k - d < i/\i<=k then p.getD (i - 1) 0 else p.getD i 0:=by
 rw [Pj,getElem?_bubble hk d hd i];by_cases h1:i=k - d
 ·rw [U4 h1,U4 h1,Pj]
 ·rw [U3 h1,U3 h1];by_cases h2:k - d < i/\i<=k
  ·rw [U4 h2,U4 h2,Pj]
  ·rw [U3 h2,U3 h2,Pj]
theorem Up.ins(T:hU n lt){p:Array Nat}(hp:cf n p){k l:Nat}(hk:k < n)(hu:Up lt p k)(hl:l<=k)(h1:∀i,i < l->lt (p.getD i 0) (p.getD k 0)=true)(h2:∀i,l<=i->i < k->lt (p.getD k 0) (p.getD i 0)=true):Up lt (RS p k (k - l)) (k+1):=by
 have hs:=hp.size;intro i j hij hj;rw [Cd U2 U2,Cd U2 U2];have e:k - (k - l)=l:=U2
 rw [e];clear hs e hk;by_cases hi:i=l
 ·rw [U4 hi,U3 U2,U4 U2];exact h2 _ U2 U2
 ·rw [U3 hi];by_cases hi2:l < i/\i<=k
  ·rw [U4 hi2,U3 U2,U4 U2];exact hu _ _ U2 U2
  ·rw [U3 hi2];by_cases hj1:j=l
   ·rw [U4 hj1];exact h1 _ U2
   ·rw [U3 hj1];by_cases hj2:l < j/\j<=k
    ·rw [U4 hj2];exact hu _ _ U2 U2
    ·rw [U3 hj2];exact hu _ _ hij U2
theorem Cf(A:lE n lt I cmp)(T:hU n lt){Q:Array Nat->Va->Prop}:∀(f:Nat)(p:Array Nat)(k:Nat)(s:Va),k+f=n->cf n p->Up lt p k->I s->(∀p' s',I s'->cf n p'->Up lt p' n->Q p' s')->(kas_bin f p k).kasWp cmp Q s
 | 0,p,k,s,hf,hp,hu,hI,q=>q p s hI hp (by rw [show n=k by omega];exact hu)
 | f+1,p,k,s,hf,hp,hu,hI,q=>by
  unfold kas_bin;rw [Q8];have hk:k < n:=U2
  refine v7 A T hp hk hu k 0 k s U2 U2 (NV _) hI (λi z=>by omega) (λi a b=>by omega) λl s' hI' hl h1 h2=>?_;exact Cf A T f _ (k+1) s' U2 (hp.bubble _ _) (hu.ins T hp hk hl h1 h2) hI' q
theorem JM(A:lE n lt I cmp)(T:hU n lt)(h2:2<=n){Q:Array Nat->Va->Prop}{s:Va}(hI:I s)(q:∀p s',I s'->cf n p->Up lt p n->Q p s'):(kas_sort n).kasWp cmp Q s:=by
 unfold kas_sort;rw [Q8];refine JL A T h2 (v3 n) hI λk p s1 hI1 k1 k2 hp hu=>?_;dsimp only;by_cases hk:k < n
 ·rw [U4 hk,show max k 1=k by omega];exact Cf A T (n - k) p k s1 U2 hp hu hI1 q
 ·rw [U3 hk];exact q p s1 hI1 hp (by rw [show n=k by omega];exact hu)
end
def aK(p q:Int×Str):Bool:=decide (p.1 < q.1) || (decide (p.1=q.1) && decide (p.2.cps.toList < q.2.cps.toList))
def gK(h:Vl)(v:U8)(p:Int×Str):Prop:=∃a o n t u,v= .ref a/\h.get? a=some o/\o.cls= .type "tuple"/\o.data= .seq #[.int p.1 t,.str p.2 u] n
section
variable {P:Vj} {w:Vm} {A:Vo} {E:U8->Va->Prop} {s:Va}
theorem JN{v u:U8}{p q:Int×Str}{Q:Bool->Va->Prop}(hv:gK s.heap v p)(hu:gK s.heap u q)(h:Q (aK p q) s):Vf (Vg P w) A (keyLt' (tuples' true) v u) Q E s:=by
 obtain⟨a,oa,na,t1,t2,rfl,ha,_,da⟩:=hv;obtain⟨b,ob,nb,t3,t4,rfl,hb,_,db⟩:=hu;refine kat_lt ha da hb db (kat_cons ((intKind P w).eqBool (intKind_is _ _ _ _) (intKind_is _ _ _ _) (kat_go (λe1=>?_) λe1=>?_)))
 ·have e1:p.1=q.1:=by simpa using e1
  refine kat_yes (kat_cons ((PySem.strKind P w).eqBool (strKind_is _ _ _ _) (strKind_is _ _ _ _) (kat_go (λe2=>?_) λe2=>?_)))
  ·have e2:p.2=q.2:=by simpa using e2
   refine kat_yes (kat_nil ?_);have:aK p q=false:=by unfold aK;rw [e1,e2];simp
   rw [this] at h;simpa using h
  ·have e2:p.2≠q.2:=by simpa using e2
   refine kat_no (kat_one _ _ ?_);have:aK p q=decide (p.2.cps.toList < q.2.cps.toList):=by unfold aK;simp [e1]
   rw [this] at h;exact lt_str h
 ·have e1:p.1≠q.1:=by simpa using e1
  refine kat_no ?_;show Vf _ _ (oneLt' true _ _) _ _ _;refine oneLt_int ?_;have:aK p q=decide (p.1 < q.1):=by unfold aK;simp [e1]
  rw [this] at h;exact h
theorem Cg{n:Nat}{kp:Nat->Int×Str}(hd:∀i j,i < n->j < n->kp i=kp j->i=j):hU n λi j=>aK (kp i) (kp j):=by
 have tl:∀a b:Str,a≠b->(decide (a.cps.toList < b.cps.toList))=!decide (b.cps.toList < a.cps.toList):=λa b h=>by
  by_cases z:a.cps.toList < b.cps.toList
  ·rw [decide_eq_true z,decide_eq_false (List.lt_asymm z)];rfl
  ·have z2:b.cps.toList<=a.cps.toList:=T8.mp z;have:b.cps.toList < a.cps.toList:=by
    rcases Classical.em (b.cps.toList < a.cps.toList) with y | y
    ·exact y
    ·exact absurd (BO (Ud (T8.mp y) z2)) h
   rw [decide_eq_false z,decide_eq_true this];rfl
 refine⟨λi j hi hj hij=>?_,λi j k hi hj hk h1 h2=>?_⟩
 ·have hne:kp i≠kp j:=λe=>hij (hd i j hi hj e);unfold aK;by_cases e:(kp i).1=(kp j).1
  ·have e2:(kp i).2≠(kp j).2:=λz=>hne (Prod.ext e z);simp only [e,Int.lt_irrefl,decide_false,Q0,decide_true,Qh];exact tl _ _ e2
  ·have e':(kp j).1≠(kp i).1:=λz=>e z.symm;simp only [e,e',decide_false,RT,QY];by_cases z:(kp i).1 < (kp j).1
   ·rw [decide_eq_true z,decide_eq_false U2];rfl
   ·rw [decide_eq_false z,decide_eq_true U2];rfl
 ·unfold aK at h1 h2⊢;simp only [QL,OV,decide_eq_true_eq] at h1 h2⊢;rcases h1 with h1 | ⟨h1,h1'⟩ <;> rcases h2 with h2 | ⟨h2,h2'⟩
  ·left;omega
  ·left;omega
  ·left;omega
  ·right;exact⟨h1.trans h2,Uz h1' h2'⟩
theorem Ci{ks:List U8}{kp:Nat->Int×Str}(hk:∀i v,ks[i]?=some v->gK s.heap v (kp i))(h2:2<=ks.length){Q:SortKind->Va->Prop}(h:Q (tuples' true) s):Vf (Vg P w) A (keyKind' ks.toArray) Q E s:=by
 have key:∀(ks:List U8)(kp:Nat->Int×Str),(∀i v,ks[i]?=some v->gK s.heap v (kp i))->∃fs:List U8,KatTups s.heap ks fs/\fs.length=ks.length/\∀v∈fs,∃n t,v=QB n t:=by
  intro ks
  induction ks with
  | nil=>intro kp _;exact⟨[],KatTups.nil,rfl,U6⟩
  | cons v ks ih=>
   intro kp hk;obtain⟨fs,a,b,c⟩:=ih (λi=>kp (i+1)) λi v e=>hk (i+1) v (by simpa using e);obtain⟨ad,o,n,t,u,rfl,h1,h2,h3⟩:=hk 0 v rfl;refine⟨.int (kp 0).1 t::fs,KatTups.cons h1 h2 h3 rfl a,by simp [b],λx hx=>?_⟩;rcases N9.mp hx with rfl | hx
   ·exact⟨_,_,rfl⟩
   ·exact c x hx
 obtain⟨fs,a,b,c⟩:=key ks kp hk;refine kat_kind (T:= .type "int") a U2 (λv hv=>?_) U1 h;obtain⟨n,t,rfl⟩:=c v hv;exact .now
theorem Cj{n:Nat}{ks:List U8}{kp:Nat->Int×Str}(hn:ks.length=n)(h2:2<=n)(hk:∀i v,ks[i]?=some v->gK s.heap v (kp i))(hd:∀i j,i < n->j < n->kp i=kp j->i=j){G:Array Nat->Va->Prop}
 (q:∀p,cf n p->Up (λi j=>aK (kp i) (kp j)) p n->G p s):(kas_sort n).kasWp (kas_ask P w A (tuples' true) ks) G s:=by
 refine JM (lt:=λi j=>aK (kp i) (kp j)) (I:=λs'=>s'=s) ⟨λi j C s' hi hj hij e c=>?_⟩ (Cg hd) h2 rfl λp s' e hp hu=>by subst e;exact q p hp hu
 subst e;have ei:ks[i]?=some (ks.getD i .none):=by simp [show i < ks.length by omega]
 have ej:ks[j]?=some (ks.getD j .none):=by simp [show j < ks.length by omega]
 exact JN (hk i _ ei) (hk j _ ej) (c _ rfl)
def Ck(kS D:U9)(s:Va)(out:List U8)(C:Va->Prop):Prop:=∀h' c,h'.get? D=some (Vt "list" out.toArray c)->(∀b u,b≠kS->b≠D->s.heap.get? b=some u->h'.get? b=some u)->C {s with heap:=h'}
theorem Cm{st:SortSt}{kS D:U9}{ks out:List U8}{e e1:Nat}{C:TR->Va->Prop}(hk:s.heap.get? kS=some (Vt "list" ks.toArray e))(hD:s.heap.get? D=some (Vt "list" #[] e1))(hne:kS≠D)(hf:failedOf st=none)
 (ho:(arrOf st).map (·.2)=out.toArray)(h64:out.length < 64)(hk64:ks.length < 64)(q:Ck kS D s out (C (.done (.ret .none)))):Vf (Vg P w) A (ksk_tail D false e1 (.ref kS) st) C E s:=by
 have hsl:Ve=16777216:=VE;unfold ksk_tail;rw [ho];refine Vb (VX hk rfl (Vb (wpAny_letGo ?_)) (by rw [N8];omega) (Pe _));have u1:=Qk s.heap kS (O3 λ_=>(#[]:Array U8));have hD1:(s.heap.update kS (O3 λ_=>(#[]:Array U8))).get? D=some (Vt "list" #[] e1):=(u1.2 D (Ne.symm hne)).trans hD;refine Vb (seqEpoch_at (s:={s with heap:=s.heap.update kS (O3 λ_=>(#[]:Array U8))}) hD1 rfl ?_);rw [U3 U6];refine Vb (VX (s:={s with heap:=s.heap.update kS (O3 λ_=>(#[]:Array U8))}) hD1 rfl ?_ (Pe _) (by show out.toArray.size<=_;rw [N8];omega));have u2:=Qk (s.heap.update kS (O3 λ_=>(#[]:Array U8))) D (O3 λ_=>out.toArray);rw [hf];simp only [bne_self_eq_false,Pq,if_false];exact Vi (q _ _ (VZ hD1 λ_=>out.toArray) λb u n1 n2 z=>(u2.2 b n2).trans ((u1.2 b n1).trans z))
theorem JO{kS D:U9}{vs ks:List U8}{n e e1:Nat}{kp:Nat->Int×Str}{C:TR->Va->Prop}(hv:vs.length=n)(hn:ks.length=n)(h64:n < 64)(hks:s.heap.get? kS=some (Vt "list" ks.toArray e))(hD:s.heap.get? D=some (Vt "list" #[] e1))(hne:kS≠D)
 (hk:∀i v,ks[i]?=some v->gK s.heap v (kp i))(hd:∀i j,i < n->j < n->kp i=kp j->i=j)
 (q:∀p,cf n p->Up (λi j=>aK (kp i) (kp j)) p n->Ck kS D s (p.toList.map λi=>vs.getD i .none) (C (.done (.ret .none)))):Vf (Vg P w) A (ksk_end D false vs.toArray e1 (.ref kS) ks.toArray) C E s:=by
 unfold ksk_end;have hz:vs.toArray.size=n:=by rw [N8];exact hv
 by_cases h2:n < 2
 ·simp only [Pq,if_false,hz,h2,if_true];refine Vb (Vi (Vb (Vi ?_)));refine Cm hks hD hne rfl (out:=vs) ?_ U2 U2 ?_
  ·show(ks.toArray.zip vs.toArray).map (·.2)=vs.toArray;apply Sx.mp;simp only [Ue,Ug];rw [Uh U2]
  ·have:=q _ (v3 n) (λi j a b=>by omega);have e:((TQ (OU n)).toList.map λi=>vs.getD i Qz)=vs:=by
    apply QU (by simp [hv]);intro i a b;simp at a b⊢;rw [Oz b];rfl
   rw [e] at this;exact this
 ·simp only [Pq,if_false,hz,h2];refine Vb (Ci hk U2 ?_);have hl:ks.length=vs.length:=U2
  refine Vb (Vu (kat_run (κ:=tuples' true) (E:=λ_ _=>False) (Q:=λst' s'=>s'=s/\∃p,cf n p/\Up (λi j=>aK (kp i) (kp j)) p n/\arrOf st'=p.map (kas_item (ks.toArray.zip vs.toArray))/\failedOf st'=none) (G:=λp s'=>s'=s/\cf n p/\Up (λi j=>aK (kp i) (kp j)) p n) hl U2 U2
   (λp st' s' a b c d=>⟨d.1,p,d.2.1,d.2.2,b,c⟩) ?_) (λr s' hr=>?_) λ_ _ x=>x.elim)
  ·rw [hv];exact Cj hn U2 hk hd λp a b=>⟨rfl,a,b⟩
  ·obtain⟨rfl,p,p1,p2,p3,p4⟩:=hr;refine Cm hks hD hne p4 (kat_snds hl p3) ?_ U2 (q p p1 p2);rw [NO,OF,p1.size];exact h64
end
section
variable {X:Cx} {Wy:List (U9×Obj)} {σ:St} {H:Hp} {s:Va}
theorem af.track{o:HO}{D:U9}{ch:List U9}{t':Nat}{h':Vl}(I:af X Wy σ H s)(hD:D∈ch)(f:∀b∈ch,gh X Wy H b)(k:∀b u,b ∉ ch->s.heap.get? b=some u->h'.get? b=some u)(new:bV X.prog X.w (ao H D o) h' D o):af X Wy σ (ao H D o) {s with heap:=h',toks:=t'}:=by
 have nC:∀b u,H b=some u->b ∉ ch:=λb u e z=>by rw [(f b z).1] at e;cases e
 have nD:∀b u,H b=some u->b≠D:=λb u e z=>nC b u e (by rw [z];exact hD);refine I.step (g':=s.gens) (d':=s.drawn) (ch:=ch) (λb hb=>?_) (λb o _ _ hc e _=>k b o hc e) (λb o _ _ hc e _=>⟨o.slots,k b o hc e⟩) (λb o hc _ n=>by rw [aA (λz=>hc (by rw [z];exact hD))];exact n)
  (λb o hc e=>⟨o,k b o hc e⟩) (λb xs e=>by rw [aA (nD _ _ e)];exact e) (λb u xs e=>by rw [aA (nD _ _ e)];exact e) (λb ps e=>⟨#[],by rw [aA (nD _ _ e),e];simp⟩) (λm hm=>hm.at' λo e=>k _ o (λz=>(f _ z).2.1 rfl) e) (λb u e=>?_) I.bare
 ·obtain⟨f0,f1,f2,f3,f4,f5⟩:=f b hb;exact⟨f3,f1,f4,f5⟩
 ·by_cases hb:b=D
  ·subst hb;rw [aR] at e;cases e;exact new
  ·rw [aA hb] at e;refine(I.hok b u e).stay (λc v hc q=>k c v (λz=>?_) q) (λc q=>by rw [aA (nD _ _ q)];exact q) (λc xs q=>by rw [aA (nD _ _ q)];exact q) (λc xs q=>by rw [aA (nD _ _ q)];exact q);rcases hc with r | r
   ·subst r;exact nC _ _ e z
   ·exact nC _ _ r z
theorem JP{k:Nat}{f:U9}{fd:Vh}{ps:List Str}{sp:Sp}{v:V}{u:U8}{Q:VK}(Fk:ay X.prog X.w X.K X.mg X.base aH k f fd ps sp)(hr:aT k X.A.in1.in1)(hb:dh X.K fd ps [])(I:af X Wy σ H s)(r:aF v u)(h:sp [v] H Q E0):
 Vf (Vg X.prog X.w) X.A.in1.in1 (call (.ref f) [u]) (EP X Wy σ Q) (λ_ _=>False) s:=by
 have r2:aE [v] [u]:= .cons r .nil;have hl:([u]++[]).length=ps.length:=by
  have:=Fk.len _ _ _ _ h;simpa using this
 have hb2:=hb s [u] I.kIn hl;rw [Oi] at hb2;refine wpAny_call (VU (Fk.run X.A.in1.in1 X.stack s H ⟨[u],[]⟩ [u] [v] Q E0 hr I.env0.in1.in1 hb2 r2 h) λr s' hq=>?_);cases r with
 | error e=>exact hq.elim
 | ok fl=>
  cases fl with
  | ret u=>exact I.after hq
  | next=>exact O7 hq
  | brk=>exact O7 hq
  | cont=>exact O7 hq
def jm(X:Cx)(Wy:List (U9×Obj))(b:U9):Prop:=b≠X.env.locals/\b ∉ X.fs/\(b∈X.ex\/X.s₀.heap.objs.size<=b)/\(∀x c,X.env.cells.lookup x=some c->c≠b)/\∀p∈X.pn++Wy,p.1≠b
theorem af.out(I:af X Wy σ H s){b:U9}(hb:s.heap.objs.size<=b):jm X Wy b:=(I.fpOk (H':=H) hb (I.hok.fresh hb)).2
structure jn (X:Cx) (Wy:List (U9×Obj)) (σ:St) (H:Hp) (O:Ex) (kS D:U9) (e1:Nat) (kds:List U7) (ks:List U8) (s:Va):Prop where
 ex:∃H' kvs e,af X (Wy++[(kS,Vt "list" ks.toArray e),(D,Vt "list" #[] e1)]) σ H' s/\aj H H'/\ak X.K H' O kvs kds/\aE kvs ks
theorem jn.push{O:Ex}{kS D:U9}{e1:Nat}{kds:List U7}{ks:List U8}{H':Hp}{kvs:List V}{e:Nat}{h':Vl}{kv:V}{kd:U7}{k:U8}(oS:jm X Wy kS)(oD:jm X Wy D)(hne:kS≠D)
 (I:af X (Wy++[(kS,Vt "list" ks.toArray e),(D,Vt "list" #[] e1)]) σ H' s)(hs:aj H H')(hk:ak X.K H' O kvs kds)(hv:aE kvs ks)(k1:Dt X.K H' O kv kd)(k2:aF kv k)
 (hu:∃e',h'.get? kS=some (Vt "list" (ks++[k]).toArray e'))(kept:∀b u,b≠kS->s.heap.get? b=some u->h'.get? b=some u):jn X Wy σ H O kS D e1 (kds++[kd]) (ks++[k]) {s with heap:=h'}:=by
 obtain⟨e',hu⟩:=hu;have pS:=I.pin (kS,Vt "list" ks.toArray e) U6;have pD:=I.pin (D,Vt "list" #[] e1) U6;have I1:af X Wy σ H' s:=I.pins_of λp hp=>I.pin p (by simp only [Oo] at hp⊢;exact .inr (.inl hp));have I2:af X Wy σ H' {s with heap:=h'}:=I1.turned (t':=s.toks) (it:=kS) kept pS.2.1 oS.1 oS.2.2.1 oS.2.2.2.1 oS.2.2.2.2;refine⟨H',kvs++[kv],e',I2.pins_of λp hp=>?_,hs,hk.append (.cons k1 .nil),hv.append (.cons k2 .nil)⟩;rcases Oo.mp hp with z | z
 ·exact I2.pin p (OH _ z)
 ·simp only [N9,Pc,or_false] at z;rcases z with rfl | rfl
  ·exact⟨hu,pS.2.1,oS.1,oS.2.1,λv z=>by cases z⟩
  ·exact⟨kept _ _ (Ne.symm hne) pD.1,pD.2.1,oD.1,oD.2.1,λv z=>by cases z⟩
theorem Cn{k:Nat}{f:U9}{fd:Vh}{ps:List Str}{F:List U7->(U7->Prop)->Prop}{O:Ex}{kS D:U9}{e1:Nat}{kd:U7->U7}(Fk:ay X.prog X.w X.K X.mg X.base aH k f fd ps (bo X.K F))(hr:aT k X.A.in1.in1)(hb:dh X.K fd ps [])(trk:∀l,O l->H l≠none)
 (oS:jm X Wy kS)(oD:jm X Wy D)(hne:kS≠D){body:U8->PUnit->Sem (ForInStep PUnit)}{E:U8->Va->Prop}
 (hbo:∀(x:U8) (s:Va) (Q':Va->Prop),Vf (Vg X.prog X.w) X.A.in1.in1 (call (.ref f) [x]) (λk s'=>Vf (Vg X.prog X.w) X.A.in1.in1 (SH (.ref kS) (·.push k)) (λ_ s''=>Q' s'') (λ_ _=>False) s') (λ_ _=>False) s->Vf (Vg X.prog X.w) X.A.in1.in1 (body x ⟨⟩) (λr s'=>r= .yield ⟨⟩/\Q' s') E s):
 ∀(r:List U8)(xr:List V)(dr:List U7)(kds:List U7)(ks:List U8)(s:Va)(Q:Va->Prop),aE xr r->ak X.K H O xr dr->(∀d∈dr,∀R:U7->Prop,R (kd d)->F [d] R)->jn X Wy σ H O kS D e1 kds ks s->ks.length+r.length < 64->
  (∀ks' s',jn X Wy σ H O kS D e1 (kds++dr.map kd) ks' s'->ks'.length=ks.length+r.length->Q s')->Vf (Vg X.prog X.w) X.A.in1.in1 (forIn r PUnit.unit body) (λ_ s'=>Q s') E s
 | [],xr,dr,kds,ks,s,Q,hv,hd,hF,M,hl,q=>by
  cases hv;cases hd;rw [Uu];exact Vi (q ks s (by rw [OS,Oi];exact M) U6)
 | x::r,xr,dr,kds,ks,s,Q,hv,hd,hF,M,hl,q=>by
  cases hv with
  | @cons v _ xr _ h1 h2=>
   cases hd with
   | @cons _ d _ dr g1 g2=>
    rw [Ul];rw [Og] at hl;obtain⟨H',kvs,e,I,hs,hk,hvk⟩:=M.ex;refine Vb (Vu (hbo x s (λs'=>∃k,jn X Wy σ H O kS D e1 (kds++[kd d]) (ks++[k]) s') (Vu (JP (Q:=λv2 H2=>aj H' H2/\Dt X.K H2 O v2 (kd d)) Fk hr hb I h1 ⟨O,[d],λy=>y=kd d,λl z e=>trk l z (by
     cases q:H l with
     | none=>rfl
     | some u=>rw [hs _ _ q] at e;cases e),.cons (g1.mono hs) .nil,hF d U6 _ rfl,λy v2 H2 e s2 r2=>by subst e;exact⟨s2,r2⟩⟩) (λkk s' hq=>?_) λ_ _ z=>z)) (λr' s' hq=>?_) λ_ _ z=>z)
    ·obtain⟨kv,H2,I2,rk,s2,dk⟩:=hq;have pS:=I2.pin (kS,Vt "list" ks.toArray e) U6;refine VX pS.1 rfl ⟨kk,?_⟩ (by rw [N8];have:Ve=16777216:=VE;omega) (by rw [Array.size_push,N8];have:Ve=16777216:=VE;omega);have u1:=Qk s'.heap kS (O3 (·.push kk));have gk:=VZ pS.1 (·.push kk);rw [show ks.toArray.push kk=(ks++[kk]).toArray by simp] at gk;exact jn.push oS oD hne I2 (hs.trans s2) (hk.mono s2) hvk dk rk ⟨_,gk⟩ λb u n z=>(u1.2 b n).trans z
    ·obtain⟨rfl,kk,M'⟩:=hq;refine Cn Fk hr hb trk oS oD hne hbo r xr dr (kds++[kd d]) (ks++[kk]) s' Q h2 g2 (λy hy=>hF y (by simp [hy])) M' (by simp;omega) λks' s2 M2 l2=>q ks' s2 ?_ (by rw [l2];simp;omega);rw [NS,<-List.singleton_append,<-Se];exact M2
def cu(p:Int×Str):U7:= .tuple [.int p.1,.str p.2]
theorem v9{h:V}{u:U8}{O:Ex}{p:Int×Str}(I:af X Wy σ H s)(d:Dt X.K H O h (cu p))(r:aF h u):gK s.heap u p:=by
 obtain⟨a,xs,rfl,hq,hd⟩:=(Sh.dt d).tup;cases r;obtain⟨its,rv,⟨o,e,c,n,dd⟩,_⟩:=I.tuple hq;cases hd with
 | cons g1 g2=>
  cases g2 with
  | cons g2 g3=>
   cases g3;cases g1;cases g2;cases rv with
   | cons r1 r2=>
    cases r2 with
    | cons r2 r3=>
     cases r3;obtain⟨t,rfl⟩:=r1;obtain⟨u,rfl⟩:=r2;exact⟨a,o,n,t,u,rfl,e,c,dd⟩
theorem oK{K:NM}{H:Hp}{O:Ex}:∀{xs:List V}{ds:List U7}{i:Nat}{d:U7},ak K H O xs ds->ds[i]?=some d->∃x,xs[i]?=some x/\Dt K H O x d
 | _,_,0,d,.cons h r,e=>by simp at e;subst e;exact⟨_,rfl,h⟩
 | _,_,i+1,d,.cons h r,e=>by simp only [Px] at e⊢;exact oK r e
theorem sC{xs:List V}{us:List U8}:∀{i:Nat}{u:U8},aE xs us->us[i]?=some u->∃x,xs[i]?=some x/\aF x u:=by
 intro i u h e;have hl:=h.length;have hi:i < us.length:=(N7.mp e).1;obtain⟨u',e',r⟩:=h.get (show xs[i]?=some (xs[i]'U2) by simp);rw [e] at e';cases e';exact⟨_,U6,r⟩
theorem JQ{O:Ex}{kS D:U9}{e1:Nat}{kps:List (Int×Str)}{ks:List U8}(M:jn X Wy σ H O kS D e1 (kps.map cu) ks s):(∀i v,ks[i]?=some v->gK s.heap v (kps.getD i (0,NL "")))/\ks.length=kps.length:=by
 obtain⟨H',kvs,e,I,hs,hk,hv⟩:=M.ex;have hl:ks.length=kps.length:=by rw [<-hv.length,hk.length,NO]
 refine⟨λi v ei=>?_,hl⟩;have hi:i < kps.length:=by rw [<-hl];exact(N7.mp ei).1
 obtain⟨x,ex,rx⟩:=sC hv ei;obtain⟨y,ey,dy⟩:=oK (i:=i) (d:=cu kps[i]) hk (by rw [Ob,Oz hi];rfl);rw [ex] at ey;cases ey;have:kps.getD i (0,NL "")=kps[i]:=by simp [hi]
 rw [this];exact v9 I dy rx
theorem JR{k:Nat}{f:U9}{fd:Vh}{ps:List Str}{F:List U7->(U7->Prop)->Prop}{O:Ex}{D:U9}{n0:Nat}{kf:U7->Int×Str}{vs:List U8}{xs:List V}{ds:List U7}{Q:V->Hp->Prop}{C:TR->Va->Prop}{E:U8->Va->Prop}
 (Fk:ay X.prog X.w X.K X.mg X.base aH k f fd ps (bo X.K F))(hr:aT k X.A.in1.in1)(hb:dh X.K fd ps [])(trk:∀l,O l->H l≠none)(I:af X Wy σ H s)(oD:jm X Wy D)(hHD:H D=none)(hD:s.heap.get? D=some (Vt "list" vs.toArray n0))
 (hv:aE xs vs)(hd:ak X.K H O xs ds)(hF:∀d∈ds,∀R:U7->Prop,R (cu (kf d))->F [d] R)(h64:ds.length < 64)(nd:(ds.map kf).Nodup)
 (q:∀(H':Hp) (xs':List V) (ds':List U7),aj H H'->H' D=none->ak X.K H' O xs' ds'->ds'.Perm ds->ds'.Pairwise (λa b=>aK (kf a) (kf b)=true)->Q (.ref D) (ao H' D (.lst xs')))
 (fin:∀s',EP X Wy σ Q (.ref D) s'->C (.done (.ret .none)) s'):Vf (Vg X.prog X.w) X.A.in1.in1 (ksk_tree D (.ref f) false) C E s:=by
 have hsl:Ve=16777216:=VE;have lv:vs.length=ds.length:=by rw [<-hv.length,hd.length]
 have lD:D < s.heap.objs.size:=N5 hD;unfold ksk_tree;refine Vb (listItems_at hD rfl (Vb (VX hD rfl ?_ (by rw [N8];omega) (Pe _))));have u1:=Qk s.heap D (O3 λ_=>(#[]:Array U8));have g1:=VZ hD λ_=>(#[]:Array U8);have I1:af X Wy σ H {s with heap:=s.heap.update D (O3 λ_=>(#[]:Array U8))}:=I.turned (t':=s.toks) (it:=D) (λb u n z=>(u1.2 b n).trans z) hHD oD.1 oD.2.2.1 oD.2.2.2.1 oD.2.2.2.2;generalize s.heap.update D (O3 λ_=>(#[]:Array U8))=h1 at*;generalize (if (#[]:Array U8).size==vs.toArray.size then n0 else n0+1)=e1 at*;refine Vb (seqEpoch_at (s:={s with heap:=h1}) g1 rfl ?_);refine Vb (wpAny_newTuple ?_ (by show vs.length<=_;omega));have I2:af X Wy σ H {s with heap:=h1.push {cls:= .type "tuple",data:= .seq vs.toArray}}:=I1.kept (t':=s.toks) λb u z=>NT _ z;have g2:(h1.push {cls:= .type "tuple",data:= .seq vs.toArray}).get? D=some (Vt "list" #[] e1):=NT _ g1;show Vf _ _ _ _ _ {s with heap:=h1.push {cls:= .type "tuple",data:= .seq vs.toArray}};generalize h1.push {cls:= .type "tuple",data:= .seq vs.toArray}=h2 at*;refine Vb (Wc (s:={s with heap:=h2}) ?_ (Pe _));have oS:jm X Wy h2.objs.size:=I2.out (NV _);have hne:h2.objs.size≠D:=RN (N5 g2);have I3:af X Wy σ H {s with heap:=h2.push (Vt "list" #[] 0)}:=I2.kept (t':=s.toks) λb u z=>NT _ z;have hS0:H h2.objs.size=none:=I2.hok.fresh (NV _);have M0:jn X Wy σ H O h2.objs.size D e1 [] [] {s with heap:=h2.push (Vt "list" #[] 0)}:=by
  refine⟨H,[],0,I3.pins_of λp hp=>?_,aj.refl _,.nil,.nil⟩;rcases Oo.mp hp with z | z
  ·exact I3.pin p (OH _ z)
  ·simp only [N9,Pc,or_false] at z;rcases z with rfl | rfl
   ·exact⟨Ou _ rfl,hS0,oS.1,oS.2.1,λv z=>by cases z⟩
   ·exact⟨NT _ g2,hHD,oD.1,oD.2.1,λv z=>by cases z⟩
 refine Vz ?_;unfold ksk_rest;refine Vb (wpAny_rule ?_);rw [List.forIn_toArray];refine Vb (Cn (kd:=λd=>cu (kf d)) (E:=E) Fk hr hb trk oS oD hne (λx s' Q' hx=>?_) vs xs ds [] [] _ _ hv hd hF M0 (by simp;omega) λks s' M hkl=>?_)
 ·refine Vb (wpAny_attempt (Vu hx (λkk s2 hk=>?_) λ_ _ z=>z.elim));exact Vb (Vu hk (λ_ s3 z=>Vi ⟨rfl,z⟩) λ_ _ z=>z.elim)
 ·rw [O4,<-Function.comp_def,<-Oe] at M;obtain⟨hk,hkn⟩:=JQ M;rw [NO] at hkn;obtain⟨H',kvs,e,I4,hs,_,_⟩:=M.ex;have pS:=I4.pin (h2.objs.size,Vt "list" ks.toArray e) U6;have pD:=I4.pin (D,Vt "list" #[] e1) U6;have I5:af X Wy σ H' s':=I4.pins_of λp hp=>I4.pin p (by simp only [Oo] at hp⊢;exact .inr (.inl hp));refine Vb (listItems_at pS.1 rfl ?_);refine JO (n:=ds.length) (kp:=λi=>(ds.map kf).getD i (0,NL "")) lv hkn h64 pS.1 pD.1 hne hk (λi j hi hj ee=>?_) λp pp pu h' c gD kept=>?_
  ·have e1':(ds.map kf).getD i (0,NL "")=(ds.map kf)[i]'(by simpa using hi):=by simp [hi]
   have e2':(ds.map kf).getD j (0,NL "")=(ds.map kf)[j]'(by simpa using hj):=by simp [hj]
   rw [e1',e2'] at ee;exact(RF nd).mp ee
  ·refine fin _ ⟨.ref D,ao H' D (.lst (p.toList.map λi=>xs.getD i .non)),?_,rfl,q H' _ (p.toList.map λi=>ds.getD i .none) hs pD.2.1 ?_ ?_ ?_⟩
   ·refine I5.track (t':=s'.toks) (ch:=[h2.objs.size,D]) U6 (λb hb=>?_) (λb u hb z=>kept b u (λy=>hb (by simp [y])) (λy=>hb (by simp [y])) z) ⟨?_,_,c,?_,gD⟩
    ·simp only [N9,Pc,or_false] at hb;rcases hb with rfl | rfl
     ·exact⟨pS.2.1,oS⟩
     ·exact⟨pD.2.1,oD⟩
    ·rw [NO,OF,pp.size];omega
    ·have:∀l:List Nat,(∀i∈l,i < ds.length)->aE (l.map λi=>xs.getD i .non) (l.map λi=>vs.getD i .none):=by
      intro l
      induction l with
      | nil=>intro _;exact .nil
      | cons a l ih=>
       intro hl;have ha:=hl a U6;refine .cons ?_ (ih λi hi=>hl i (by simp [hi]));obtain⟨x,ex,rx⟩:=sC hv (show vs[a]?=some (vs[a]'U2) by simp);have e1':xs.getD a .non=x:=by simp [ex]
       have e2':vs.getD a .none=vs[a]'U2:=by simp [show a < vs.length by omega]
       show aF (xs.getD a .non) (vs.getD a .none);rw [e1',e2'];exact rx
     exact this _ λi hi=>by simpa using pp.perm.mem_iff.mp hi
   ·have:∀l:List Nat,(∀i∈l,i < ds.length)->ak X.K H' O (l.map λi=>xs.getD i .non) (l.map λi=>ds.getD i .none):=by
     intro l
     induction l with
     | nil=>intro _;exact .nil
     | cons a l ih=>
      intro hl;have ha:=hl a U6;refine .cons ?_ (ih λi hi=>hl i (by simp [hi]));obtain⟨x,ex,dx⟩:=oK (i:=a) (d:=ds[a]) hd (by simp [ha]);have e1':xs.getD a .non=x:=by simp [ex]
      have e2':ds.getD a .none=ds[a]:=by simp [ha]
      show Dt X.K H' O (xs.getD a .non) (ds.getD a .none);rw [e1',e2'];exact dx.mono hs
    exact this _ λi hi=>by simpa using pp.perm.mem_iff.mp hi
   ·have h1:=pp.perm.map λi=>ds.getD i .none;have e:(OU ds.length).map (λi=>ds.getD i P2)=ds:=by
     apply QU U6;intro i a b;simp at a b⊢;rw [Oz b];rfl
    rw [e] at h1;exact h1
   ·rw [OX,Qa];intro i j hi hj hij;have:=pu i j hij (by rw [OF,pp.size] at hj;exact hj);have ei:p.getD i 0=p.toList[i]:=by simp [Rr,show i < p.size by simpa using hi]
    have ej:p.getD j 0=p.toList[j]:=by simp [Rr,show j < p.size by simpa using hj]
    rw [ei,ej] at this;have li:p.toList[i] < ds.length:=by simpa using pp.perm.mem_iff.mp (Py hi)
    have lj:p.toList[j] < ds.length:=by simpa using pp.perm.mem_iff.mp (Py hj)
    have ff:∀a,a < ds.length->(ds.map kf).getD a (0,NL "")=kf (ds.getD a .none):=λa ha=>by simp [ha]
    dsimp only at this;rw [ff _ li,ff _ lj] at this;exact this
theorem JS{k:Nat}{f l:U9}{fd:Vh}{ps:List Str}{F:List U7->(U7->Prop)->Prop}{O:Ex}{kf:U7->Int×Str}{xs:List V}{ds:List U7}{Q:VK}
 (hc:X.calm=true)(Fk:ay X.prog X.w X.K X.mg X.base aH k f fd ps (bo X.K F))(hr:aT k X.A.in1.in1)(hb:dh X.K fd ps [])(trk:∀l,O l->H l≠none)(I:af X Wy σ H s)(hq:aV X.K H l xs)
 (hd:ak X.K H O xs ds)(hF:∀d∈ds,∀R:U7->Prop,R (cu (kf d))->F [d] R)(h64:ds.length < 64)(nd:(ds.map kf).Nodup)
 (q:∀(H':Hp) (p:U9) (xs':List V) (ds':List U7),aj H H'->H' p=none->ak X.K H' O xs' ds'->ds'.Perm ds->ds'.Pairwise (λa b=>aK (kf a) (kf b)=true)->Q (.ref p) (ao H' p (.lst xs'))):
 Vf (Vg X.prog X.w) X.A (call (.builtin "sorted") [.ref l] [(NL "key",.ref f)]) (EP X Wy σ Q) X.xe s:=by
 have hsl:Ve=16777216:=VE;obtain⟨vs,hv,pl,hz⟩:=I.list hq;have lv:vs.length=ds.length:=by rw [<-hv.length,hd.length]
 refine call_function_entry_kw kind_sorted plain_sorted entry_sorted (ksk_s1 _ _) ?_;unfold Builtin.«sorted»;refine Vb (m:=checkCount "sorted" 1 1 _) (Vi ?_);refine Vb (collect_list pl.isList ?_ U2);have I1:af X Wy σ H {s with heap:=(s.heap.push (Vt "list" #[] 0)).update s.heap.objs.size (O3 (·++vs.toArray))}:=by
  refine I.kept (t':=s.toks) λb u z=>?_;have hlt:b < s.heap.objs.size:=N5 z;exact(Tq _ _ _ _ (Oj hlt)).trans (NT _ z)
 generalize (s.heap.push (Vt "list" #[] 0)).update s.heap.objs.size (O3 (·++vs.toArray))=h1 at*;refine Vb (Wc (s:={s with heap:=h1}) ?_ U2);have I2:af X Wy σ H {s with heap:=h1.push (Vt "list" vs.toArray 0)}:=I1.kept (t':=s.toks) λb u z=>NT _ z;have gD:(h1.push (Vt "list" vs.toArray 0)).get? h1.objs.size=some (Vt "list" vs.toArray 0):=Ou _ rfl;refine Vb (Vz (wpAny_call_entry_kw slot_list_sort ⟨_,gD,rfl⟩ entry_list_sort ?_ (ksk_l1 _ _)));rw [ksk_t1];refine JR (kf:=kf) Fk hr hb trk I2 (I1.out (NV _)) (I1.hok.fresh (NV _)) gD hv hd hF h64 nd (Q:=Q) (λH' xs' ds' a b c d e=>q H' _ xs' ds' a b c d e) λs' hs'=>?_;exact⟨_,rfl,Vi ⟨_,rfl,hs'⟩⟩
end
section
variable {P:Vj} {w:Vm} {A:Vo} {E:U8->Va->Prop} {s:Va}
theorem JT{D:U9}{vs:List U8}{n n0:Nat}{kp:Nat->Int×Str}{C:TR->Va->Prop}(hv:vs.length=n)(h64:n < 64)(hD:s.heap.get? D=some (Vt "list" vs.toArray n0))(hk:∀i v,vs[i]?=some v->gK s.heap v (kp i)/\v≠ .ref D)(hd:∀i j,i < n->j < n->kp i=kp j->i=j)
 (q:∀p,cf n p->Up (λi j=>aK (kp i) (kp j)) p n->∀h' c,h'.get? D=some (Vt "list" (p.toList.map λi=>vs.getD i .none).toArray c)->(∀b u,b≠D->s.heap.get? b=some u->h'.get? b=some u)->C (.done (.ret .none)) {s with heap:=h'}):
 Vf (Vg P w) A (Builtin.«list.sort» ⟨[.ref D],[]⟩) C E s:=by
 have hsl:Ve=16777216:=VE;rw [list_sort_plain];refine Vb (listItems_at hD rfl (Vb (VX hD rfl ?_ (by rw [N8];omega) (Pe _))));have u1:=Qk s.heap D (O3 λ_=>(#[]:Array U8));have g1:=VZ hD λ_=>(#[]:Array U8);have k1:∀b u,b≠D->s.heap.get? b=some u->(s.heap.update D (O3 λ_=>(#[]:Array U8))).get? b=some u:=λb u n z=>(u1.2 b n).trans z;generalize s.heap.update D (O3 λ_=>(#[]:Array U8))=h1 at*;generalize (if (#[]:Array U8).size==vs.toArray.size then n0 else n0+1)=e1 at*;refine Vb (seqEpoch_at (s:={s with heap:=h1}) g1 rfl ?_);refine Vb (wpAny_newTuple ?_ (by show vs.length<=_;omega));refine Vb (Wc ?_ (Pe _));have g2:((h1.push {cls:= .type "tuple",data:= .seq vs.toArray}).push {cls:= .type "list",data:= .seq ([]:List U8).toArray}).get? D=some (Vt "list" #[] e1):=NT _ (NT _ g1);have k2:∀b u,b≠D->s.heap.get? b=some u->((h1.push {cls:= .type "tuple",data:= .seq vs.toArray}).push {cls:= .type "list",data:= .seq ([]:List U8).toArray}).get? b=some u:=λb u n z=>NT _ (NT _ (k1 b u n z));show Vf _ _ _ _ _ {s with heap:=(h1.push {cls:= .type "tuple",data:= .seq vs.toArray}).push {cls:= .type "list",data:= .seq ([]:List U8).toArray}};generalize (h1.push {cls:= .type "tuple",data:= .seq vs.toArray}).push {cls:= .type "list",data:= .seq ([]:List U8).toArray}=h2 at*;refine Vz ?_;have hz:vs.toArray.size=n:=by rw [N8];exact hv
 have last:∀(st:SortSt)(p:Array Nat),cf n p->Up (λi j=>aK (kp i) (kp j)) p n->failedOf st=none->(arrOf st).map (·.2)=(p.toList.map λi=>vs.getD i .none).toArray->
  Vf (Vg P w) A (do
   let touched:=(<-seqEpoch D) !=e1
   SH (.ref D) λ_=>(arrOf st).map (·.2)
   if let some e:=failedOf st then rule "list.sort.comparison-raised";throw e
   if touched then rule "list.sort.modified";raiseError "ValueError" "list modified during sort"
   ret .none) C E {s with heap:=h2}:=by
  intro st p p1 p2 hf ho;rw [ho,hf];refine Vb (seqEpoch_at (s:={s with heap:=h2}) g2 rfl ?_);refine Vb (VX (s:={s with heap:=h2}) g2 rfl ?_ (Pe _) (by rw [N8,NO,OF,p1.size];omega));simp only [bne_self_eq_false,Pq,if_false];have u3:=Qk h2 D (O3 λ_=>(p.toList.map λi=>vs.getD i Qz).toArray);exact Vi (q p p1 p2 _ _ (VZ g2 λ_=>(p.toList.map λi=>vs.getD i Qz).toArray) λb u n z=>(u3.2 b n).trans (k2 b u n z))
 by_cases h2':n < 2
 ·simp only [hz,h2',if_true];refine Vb (Vi (Vb (Vi ?_)));refine last _ (TQ (OU n)) (v3 n) (λi j a b=>by omega) rfl ?_;show(vs.toArray.zip vs.toArray).map (·.2)=_;apply Sx.mp;simp only [Ue,Ug];rw [Uh U2];apply QU (by simp [hv]);intro i a b;simp at a b⊢;rw [Oz a];rfl
 ·simp only [hz,h2',if_false];have hk2:∀i v,vs[i]?=some v->gK h2 v (kp i):=λi v e=>by
   obtain⟨⟨a,o,m,t,u,rfl,x1,x2,x3⟩,ne⟩:=hk i v e;exact⟨a,o,m,t,u,rfl,k2 a o (λz=>ne (by rw [z])) x1,x2,x3⟩
  refine Vb (Ci (s:={s with heap:=h2}) hk2 U2 ?_);refine Vb (Vu (kat_run (κ:=tuples' true) (ks:=vs) (s:={s with heap:=h2}) (E:=λ_ _=>False) (Q:=λst' s'=>s'={s with heap:=h2}/\∃p,cf n p/\Up (λi j=>aK (kp i) (kp j)) p n/\arrOf st'=p.map (kas_item (vs.toArray.zip vs.toArray))/\failedOf st'=none) (G:=λp s'=>s'={s with heap:=h2}/\cf n p/\Up (λi j=>aK (kp i) (kp j)) p n) rfl U2 U2
   (λp st' s' a b c d=>⟨d.1,p,d.2.1,d.2.2,b,c⟩) ?_) (λr s' hr=>?_) λ_ _ x=>x.elim)
  ·rw [hv];exact Cj (s:={s with heap:=h2}) hv U2 hk2 hd λp a b=>⟨rfl,a,b⟩
  ·obtain⟨rfl,p,p1,p2,p3,p4⟩:=hr;exact last _ p p1 p2 p4 (kat_snds rfl p3)
end
theorem JU{X:Cx}:cH X (.builtin "sorted") (λxs H Q=>∃(p:U9)(us:List V)(O:Ex)(ps:List (Int×Str)),xs=[.ref p]/\aV X.K H p us/\ak X.K H O us (ps.map cu)/\ps.length < 64/\ps.Nodup/\∀(l:U9)(us':List V)(ps':List (Int×Str)),H l=none->ak X.K H O us' (ps'.map cu)->ps'.Perm ps->ps'.Pairwise (λa b=>aK a b=true)->Q (.ref l) (ao H l (.lst us'))):=by
 intro Wy s σ H xs ws Q I r h;obtain⟨l,us,O,ps,rfl,hq,hd,h64,nd,q⟩:=h;obtain⟨u,rfl,rx⟩:=c9 r;cases rx;have hsl:Ve=16777216:=VE;obtain⟨vs,hv,pl,hz⟩:=I.list hq;have lv:vs.length=ps.length:=by rw [<-hv.length,hd.length,NO]
 refine Sn kind_sorted plain_sorted entry_sorted (args_sorted1 _) ?_;unfold Builtin.«sorted»;refine Vb (m:=checkCount "sorted" 1 1 _) (Vi ?_);refine Vb (collect_list pl.isList ?_ U2);have I1:af X Wy σ H {s with heap:=(s.heap.push (Vt "list" #[] 0)).update s.heap.objs.size (O3 (·++vs.toArray))}:=by
  refine I.kept (t':=s.toks) λb u z=>?_;have hlt:b < s.heap.objs.size:=N5 z;exact(Tq _ _ _ _ (Oj hlt)).trans (NT _ z)
 generalize (s.heap.push (Vt "list" #[] 0)).update s.heap.objs.size (O3 (·++vs.toArray))=h1 at*;refine Vb (Wc (s:={s with heap:=h1}) ?_ U2);have I2:af X Wy σ H {s with heap:=h1.push (Vt "list" vs.toArray 0)}:=I1.kept (t':=s.toks) λb u z=>NT _ z;have gD:(h1.push (Vt "list" vs.toArray 0)).get? h1.objs.size=some (Vt "list" vs.toArray 0):=Ou _ rfl;have hH:H h1.objs.size=none:=I1.hok.fresh (NV _);have oD:jm X Wy h1.objs.size:=I1.out (NV _);have isp:∀i v,vs[i]?=some v->gK (h1.push (Vt "list" vs.toArray 0)) v (ps.getD i (0,NL ""))/\v≠ .ref h1.objs.size:=λi v ei=>by
  have hi:i < ps.length:=by rw [<-lv];exact(N7.mp ei).1
  obtain⟨x,ex,rx⟩:=sC hv ei;obtain⟨y,ey,dy⟩:=oK (i:=i) (d:=cu ps[i]) hd (by rw [Ob,Oz hi];rfl);rw [ex] at ey;cases ey;have e:ps.getD i (0,NL "")=ps[i]:=by simp [hi]
  rw [e];have a:=v9 I1 dy rx;refine⟨v9 I2 dy rx,λz=>?_⟩;obtain⟨ad,o,m,t,u,e1,e2,_⟩:=a;rw [e1] at z;cases z;exact absurd (N5 e2) (Pn _)
 refine Vb (Vz (VW slot_list_sort ⟨_,gD,rfl⟩ entry_list_sort ?_ (args_list_sort _)));refine JT (s:={s with heap:=h1.push (Vt "list" vs.toArray 0)}) (n:=ps.length) (kp:=λi=>ps.getD i (0,NL "")) lv h64 gD isp (λi j hi hj ee=>?_) λp pp pu h' c g kept=>?_
 ·have e1':ps.getD i (0,NL "")=ps[i]:=by simp [hi]
  have e2':ps.getD j (0,NL "")=ps[j]:=by simp [hj]
  rw [e1',e2'] at ee;exact(RF nd).mp ee
 ·have lt:∀i∈p.toList,i < ps.length:=λi hi=>by simpa using pp.perm.mem_iff.mp hi
  have dm:ak X.K H O (p.toList.map λi=>us.getD i .non) ((p.toList.map λi=>ps.getD i (0,NL "")).map cu):=by
   have:∀l:List Nat,(∀i∈l,i < ps.length)->ak X.K H O (l.map λi=>us.getD i .non) ((l.map λi=>ps.getD i (0,NL "")).map cu):=by
    intro l
    induction l with
    | nil=>intro _;exact .nil
    | cons a l ih=>
     intro hl;have ha:=hl a U6;refine .cons ?_ (ih λi hi=>hl i (by simp [hi]));obtain⟨x,ex,dx⟩:=oK (i:=a) (d:=cu ps[a]) hd (by rw [Ob,Oz ha];rfl);have e1':us.getD a .non=x:=by simp [ex]
     have e2':ps.getD a (0,NL "")=ps[a]:=by simp [ha]
     show Dt X.K H O (us.getD a .non) (cu (ps.getD a (0,NL "")));rw [e1',e2'];exact dx
   exact this _ lt
  have vm:aE (p.toList.map λi=>us.getD i .non) (p.toList.map λi=>vs.getD i .none):=by
   have:∀l:List Nat,(∀i∈l,i < ps.length)->aE (l.map λi=>us.getD i .non) (l.map λi=>vs.getD i .none):=by
    intro l
    induction l with
    | nil=>intro _;exact .nil
    | cons a l ih=>
     intro hl;have ha:=hl a U6;refine .cons ?_ (ih λi hi=>hl i (by simp [hi]));obtain⟨x,ex,rx⟩:=sC hv (show vs[a]?=some (vs[a]'U2) by simp);have e1':us.getD a .non=x:=by simp [ex]
     have e2':vs.getD a .none=vs[a]'U2:=by simp [show a < vs.length by omega]
     show aF (us.getD a .non) (vs.getD a .none);rw [e1',e2'];exact rx
   exact this _ lt
  refine⟨_,rfl,Vi ⟨_,rfl,.ref h1.objs.size,ao H h1.objs.size (.lst (p.toList.map λi=>us.getD i .non)),?_,rfl,q _ _ (p.toList.map λi=>ps.getD i (0,NL "")) hH dm ?_ ?_⟩⟩
  ·refine I2.track (t':=s.toks) (ch:=[h1.objs.size]) U6 (λb hb=>?_) (λb u hb z=>kept b u (λy=>hb (by simp [y])) z) ⟨?_,_,c,vm,g⟩
   ·rw [OA] at hb;subst hb;exact⟨hH,oD⟩
   ·rw [NO,OF,pp.size];omega
  ·have h1:=pp.perm.map λi=>ps.getD i (0,NL "");have e:(OU ps.length).map (λi=>ps.getD i (0,NL ""))=ps:=by
    apply QU U6;intro i a b;simp at a b⊢;rw [Oz b];rfl
   rw [e] at h1;exact h1
  ·rw [OX,Qa];intro i j hi hj hij;have:=pu i j hij (by rw [OF,pp.size] at hj;exact hj);have ei:p.getD i 0=p.toList[i]:=by simp [Rr,show i < p.size by simpa using hi]
   have ej:p.getD j 0=p.toList[j]:=by simp [Rr,show j < p.size by simpa using hj]
   rw [ei,ej] at this;exact this
section
variable {X:Cx} {H0:Hp} {O0:Ex}
def oM(t:DA):DA:=λδ Q=>t δ λds=>∃ps:List (Int×Str),ds=[.list (ps.map cu)]/\ps.length < 64/\ps.Nodup/\∀ps':List (Int×Str),ps'.Perm ps->ps'.Pairwise (λa b=>aK a b=true)->Q (ps'.map cu)
theorem Co{a:Vd}{t:DA}{np p:Pos}(hg:Gl X "sorted")(hm:X.mg "sorted"=none)(hv:Vq "sorted"=some (.builtin "sorted"))(ha:PA X [a] (fC X.K H0 O0 t))(he:Vc [a] X.env=(false,eval a X.env)::Vc [] X.env:=by rfl)(hpl:(Vr p (Vc [] X.env)).any (·.1)=false:=by rfl):
 FE X H0 O0 (.Call (.Name "sorted" np) [a] [] p) (oM t):=
 (bP JU hg hm hv ha (he:=he) (hpl:=hpl)).imp λσ H Q uu28=>by obtain⟨O,δ,Qd,w,q,k⟩:=uu28;exact⟨O,δ,_,w,q,λds vs H1 uu29 s1 r1=>by
  obtain⟨ps,e,h64,nd,q1⟩:=uu29;subst e;cases r1 with
  | cons h r=>
   cases r;obtain⟨a,us,rfl,h1,d1⟩:=h.lst;exact⟨a,us,O,ps,rfl,h1,d1,h64,nd,λl us' ps' hl hd hp hs=>k _ _ _ _ (q1 ps' hp hs) s1 hl hd⟩⟩
def oN(F:List U7->(U7->Prop)->Prop)(kf:U7->Int×Str)(t:DA):DA:=λδ Q=>t δ λds0=>∃ds,ds0=[.list ds]/\(∀d∈ds,∀R:U7->Prop,R (cu (kf d))->F [d] R)/\ds.length < 64/\(ds.map kf).Nodup/\∀ds',ds'.Perm ds->ds'.Pairwise (λa b=>aK (kf a) (kf b)=true)->Q ds'
theorem JV{a:Vd}{t:DA}{np p gp kp:Pos}{g:Str}{k:Nat}{f:U9}{fd:Vh}{ps:List Str}{F:List U7->(U7->Prop)->Prop}(kf:U7->Int×Str)(hc:X.calm=true)(Fk:ay X.prog X.w X.K X.mg X.base aH k f fd ps (bo X.K F))(hr:aT k X.A.in1.in1)(hb:dh X.K fd ps [])
 (hgg:Gl X g)(hgm:X.mg g=some (.ref f))(hg:Gl X "sorted")(hm:X.mg "sorted"=none)(hv:Vq "sorted"=some (.builtin "sorted"))(ha:PA X [a] (fC X.K H0 O0 t))(hdb:(g==("__debug__":Str))=false:=by decide)
 (he:Vr p (Vc [a] X.env)=(false,eval a X.env)::Vr p (Vc [] X.env):=by rfl)(hplain:(Vr p (Vc [a] X.env)).any (·.1)=false:=by rfl):
 FE X H0 O0 (.Call (.Name "sorted" np) [a] [⟨some "key",.Name g gp,kp⟩] p) (oN F kf t):=by
 intro Wy s σ H Q I h;obtain⟨O,δ,Qd,w,q,kk⟩:=h;refine VD (kc I hg hm hv ?_);refine callWith_kw (aB (ha p Wy s σ H (λvs H1=>∃ds0,aj H H1/\kH X.K H1 O vs ds0/\∃ds,ds0=[.list ds]/\(∀d∈ds,∀R:U7->Prop,R (cu (kf d))->F [d] R)/\ds.length < 64/\(ds.map kf).Nodup/\∀ds',ds'.Perm ds->ds'.Pairwise (λa b=>aK (kf a) (kf b)=true)->Qd ds') I ⟨O,δ,_,w,q,λds0 vs H1 q1 s1 r1=>⟨ds0,s1,r1,q1⟩⟩) λus s1 hus=>?_) he hplain rfl rfl;obtain⟨vs,H1,I1,rv,ds0,s1',r1,ds,e,hF,h64,nd,q1⟩:=hus;subst e;refine kws_cons (jA I1 hgg hgm (kws_nil ?_) hdb);cases r1 with
 | cons h r=>
  cases r;obtain⟨ad,xs,rfl,hq,hd⟩:=h.lst;obtain⟨u,rfl,rx⟩:=c9 rv;cases rx;exact JS (kf:=kf) hc Fk hr hb (w.mono s1').trk I1 hq hd hF h64 nd λH' l xs' ds' a b c d e=>kk _ _ _ _ (q1 ds' d e) (s1'.trans a) b c
end
section
open PySem.SeqAt
open PySem.AutoSeq1 (wpAny_loadPart')
open PySem.MeetsSeq PySem.MeetsSeq2 PySem.MeetsSeq3
theorem JW(l b:U9)(n n2:Nat)(dd dd2:Option U9)(sl sl2:Array (Option U8))(p q:Int×Str)(t1 t2 t3 t4:Tok):
 Meets (Builtin.«tuple.__lt__» ⟨[.ref l,.ref b],[]⟩)
  (λ_ R s=>s.heap.get? l=some {cls:= .type "tuple",dict:=dd,data:= .seq #[.int p.1 t1,.str p.2 t2] n,slots:=sl}/\s.heap.get? b=some {cls:= .type "tuple",dict:=dd2,data:= .seq #[.int q.1 t3,.str q.2 t4] n2,slots:=sl2}/\
   R (.ok (.ret (.bool (aK p q)))) s):=
 .of_wp λprog w A R s h=>by
  obtain⟨hp,g,d,tk,os⟩:=s;obtain⟨hl,hb,h⟩:=h;have f2:=AutoSeq1.sub_tuple_tuple
  wp_walk using VG hl,VG hb,wpAny_forIn_list _ (λrest b s'=>b.1=none/\s'=⟨hp,g,d,tk,os⟩/\(rest=[(QB p.1 t1,QB q.1 t3),(Qg p.2 t2,Qg q.2 t4)]\/(rest=[(Qg p.2 t2,Qg q.2 t4)]/\p.1=q.1)\/(rest=[]/\p.1=q.1/\p.2=q.2))) _
  case turn=>
   rintro⟨y,x⟩ rest b s' ⟨hb',rfl,h3⟩;rcases h3 with h3 | ⟨h3,e1⟩ | ⟨h3,_⟩
   ·injection h3 with hyx hrest
    injection hyx with hy hx
    subst hy hx;obtain⟨e,he,hiff⟩:=HT.eqAt_int A.in1 ⟨hp,g,d,tk,os⟩ p.1 t1 q.1 t3;refine Vb (he prog w _ _ ?_);cases e with
    | true=>
     wp_walk
     exact⟨rfl,rfl,.inr (.inl ⟨hrest,hiff.mp rfl⟩)⟩
    | false=>
     have ne:p.1≠q.1:=λz=>absurd (hiff.mpr z) NW;have hri:=HT.rcLt_int A.in1 ⟨hp,g,d,tk,os⟩ p.1 t1 q.1 t3 prog w;have hv:aK p q=decide (p.1 < q.1):=by unfold aK;simp [ne]
     rw [hv] at h
     wp_walk using hri
     exact⟨_,rfl,by simpa using h⟩
   ·injection h3 with hyx hrest
    injection hyx with hy hx
    subst hy hx;have he:=EqAt.str_str (A:=A.in1) (s:=⟨hp,g,d,tk,os⟩) p.2 t2 q.2 t4;refine Vb (he prog w _ _ ?_);cases e:(p.2==q.2) with
    | true=>
     wp_walk
     exact⟨rfl,rfl,.inr (.inr ⟨hrest,e1,eq_of_beq e⟩)⟩
    | false=>
     have hri:∀(E:U8->Va->Prop)(Q:U8->Va->Prop),Q (.bool (decide (p.2.cps.toList < q.2.cps.toList))) ⟨hp,g,d,tk,os⟩->Vf (Vg prog w) A.in1 (richCompare .Lt (.str p.2 t2) (.str q.2 t4)) Q E ⟨hp,g,d,tk,os⟩:=λE Q z=>(lt_str z:Vf (Vg prog w) A.in1 (Vs .Lt (.str p.2 t2) (.str q.2 t4)) Q E _);have hv:aK p q=decide (p.2.cps.toList < q.2.cps.toList):=by unfold aK;simp [e1]
     rw [hv] at h
     wp_walk using hri
     exact⟨_,rfl,by simpa using h⟩
   ·cases h3
  case fin=>
   rintro⟨b1,b2⟩ s' ⟨hb',rfl,h3⟩;simp only at hb';subst hb';rcases h3 with h3 | ⟨h3,e1⟩ | ⟨h3,e1,e2⟩
   ·cases h3
   ·cases h3
   ·have hv:aK p q=false:=by unfold aK;rw [e1,e2];simp
    rw [hv] at h
    wp_walk
    exact⟨_,rfl,by simpa [Builtin.Tuple.tupleCompareSizes] using h⟩
  case h=>
   exact⟨rfl,rfl,.inl rfl⟩
end
def Cp(K:NM):R2:=λx y H Q=>∃a b p q,x= .ref a/\y= .ref b/\bx K H a [.int p.1,.str p.2]/\bx K H b [.int q.1,.str q.2]/\Q (.bl (aK p q)) H
theorem Cq{X:Cx}(hu:X.A.units < Vx):bT X (Vs .Lt) (Cp X.K):=by
 intro Wy s σ H x y v u Q I rx ry h;obtain⟨a,b,p,q,rfl,rfl,ha,hb,z⟩:=h;cases rx;cases ry;obtain⟨its,r1,⟨⟨c1,d1,da1,s1⟩,o1,k1,n1,e1⟩,_⟩:=I.tuple ha;obtain⟨its2,r2,⟨⟨c2,d2,da2,s2⟩,o2,k2,n2,e2⟩,_⟩:=I.tuple hb;simp only at k1 e1 k2 e2;subst k1 e1 k2 e2;cases r1 with
 | cons x1 r1=>
  cases r1 with
  | cons x2 r1=>
   cases r1;obtain⟨t1,rfl⟩:=x1;obtain⟨t2,rfl⟩:=x2;cases r2 with
   | cons y1 r2=>
    cases r2 with
    | cons y2 r2=>
     cases r2;obtain⟨t3,rfl⟩:=y1;obtain⟨t4,rfl⟩:=y2;exact richCompare_meets_room (op:= .Lt) ⟨_,o1,rfl⟩ ⟨_,o2,rfl⟩ PySem.F.slot_tuple_lt PySem.F.entry_tuple_lt (PySem.F.args_tuple_lt_2 _ _) (JW a b n1 n2 d1 d2 s1 s2 p q t1 t2 t3 t4) ⟨o1,o2,(λx=>nomatch x),.bl (aK p q),H,I,rfl,z⟩ hu
def oO:U7->U7->(U7->Prop)->Prop:=λx y Q=>∃p q:Int×Str,x=cu p/\y=cu q/\Q (.bool (aK p q))
theorem Cr{K:NM}:cx K (Cp K) oO:=λH O x y dx dy Qd R _ hx hy uu30 k=>by
 obtain⟨p,q,e1,e2,z⟩:=uu30;subst e1 e2;obtain⟨a,xs,rfl,h1,g1⟩:=hx.tup;obtain⟨b,ys,rfl,h2,g2⟩:=hy.tup;cases g1 with
 | cons x1 g1=>
  cases g1 with
  | cons x2 g1=>
   cases g1;cases x1;cases x2;cases g2 with
   | cons y1 g2=>
    cases g2 with
    | cons y2 g2=>
     cases g2;cases y1;cases y2;exact⟨a,b,p,q,rfl,rfl,h1,h2,k _ _ H z (aj.refl _) (.bl _)⟩
section
variable {X:Cx} {H0:Hp} {O0:Ex}
def JX(tc:DB)(tb:DS):DS:=λE δ=>∃W:Nat->Dl->Prop,(∃m,W m δ)/\∀m δ,W m δ->tc δ λb=>if b=true then tb {E with nx:=λδ'=>∃m',m' < m/\W m' δ',ct:=λδ'=>∃m',m' < m/\W m' δ',bk:=E.nx} δ else E.nx δ
theorem Cs{c:Vd}{body:List Vn}{tc:DB}{tb:DS}{pos:Pos}(hp:VQ (Vg X.prog X.w) X.A X.env X.xe)(hc:PT X c (bY X.K H0 O0 tc))(hb:bG X body (bA X.K H0 O0 tb)):PS X (.While c body [] pos) (bA X.K H0 O0 (JX tc tb)):=
 (Ae hp hc hb).imp λD σ H uu31=>by
  obtain⟨O,δ,E,w,⟨W,⟨m0,w0⟩,st⟩,k1,k2,k3,k4⟩:=uu31;refine⟨λm σ' H'=>∃O' δ',Wd X.K H0 O0 H' O' σ' δ'/\aX H H' O O'/\W m δ',⟨m0,O,δ,w,aX.refl _ _,w0⟩,λm σ1 H1 ⟨O1,δ1,w1,S1,q1⟩=>⟨O1,δ1,_,w1,st m δ1 q1,λb H2 q2 s2=>?_⟩⟩;cases b with
  | false=>
   rw [U3 U6] at q2⊢;exact k1 O1 δ1 σ1 H2 q2 (w1.mono s2) (S1.trans (.same s2))
  | true=>
   rw [U4 rfl] at q2⊢;refine⟨λσ' H'=>∃O' δ' m',m' < m/\Wd X.K H0 O0 H' O' σ' δ'/\aX H H' O O'/\W m' δ',λσ' H' uu33=>by obtain⟨O',δ',m',lt,w',S',q'⟩:=uu33;exact⟨m',lt,O',δ',w',S',q'⟩,O1,δ1,_,w1.mono s2,q2,?_,k2,?_,?_⟩
   ·rintro O' δ' σ' H' ⟨m',lt,q'⟩ w' S';exact⟨O',δ',m',lt,w',S1.trans ((aX.same s2).trans S'),q'⟩
   ·intro O' δ' σ' H' q' w' S';exact k1 O' δ' σ' H' q' w' (S1.trans ((aX.same s2).trans S'))
   ·rintro O' δ' σ' H' ⟨m',lt,q'⟩ w' S';exact⟨O',δ',m',lt,w',S1.trans ((aX.same s2).trans S'),q'⟩
theorem bD.vals{K:NM}{H:Hp}{O:Ex}{kv:List (ai×V)}{kd:List (ai×U7)}(h:bD K H O kv kd):ak K H O (kv.map (·.2)) (kd.map (·.2)):=by
 induction h with
 | nil=>exact .nil
 | cons a _ ih=>exact .cons a ih
abbrev eZ(ks:List Str)(ds:List U7):U7:=Bk (ks.map .str) ds
def oP(i:Nat)(t:DS):DS:=λE δ=>∃kd,δ[i]?=some (some (.k kd))/\∃ks:List Str,kd.map (·.1)=ks.map OW/\t E (δ.set i (some (.v (eZ ks (kd.map (·.2))))))
theorem dj.z{H:Hp}{a:U9}{ob:Obj}{kvs:List (ai×V)}{k:ai}(e:H a=some (.frz ob (.dK kvs))):dj H a (kV k) (dQ kvs k):= .inl ⟨kvs,k,.inr ⟨ob,e⟩,rfl,rfl⟩
theorem af.fast{X:Cx}{Wy:List (U9×Obj)}{σ:St}{H:Hp}{s:Va}(I:af X Wy σ H s){a:U9}{kv:List (ai×V)}(ha:H a=some (.dK kv)):∃o,af X Wy σ (ao H a (.frz o (.dK kv))) s:=by
 obtain⟨z,hd,vs,rel,o,es,ep,g,r1,r2,r3⟩:=I.hok a _ ha;exact⟨o,I.write (x:=a) (e:=a) (o:= .frz o (.dK kv)) (h':=s.heap) (t':=s.toks) (by rw [ha];exact O8) (.inl rfl) (λ_ _ _ q=>q) ⟨o,g⟩ ⟨g,z,hd,vs,rel,o,es,ep,g,r1,r2,r3⟩⟩
theorem JY{st:Vn}{t:TS}(h:PS X st t)(i:Nat):PS X st (λD σ H=>∃a kv,σ[i]?=some (some (.ref a))/\H a=some (.dK kv)/\∀o,t D σ (ao H a (.frz o (.dK kv)))):=by
 intro Wy s σ H D I q;obtain⟨a,kv,_,ha,q⟩:=q;obtain⟨o,I2⟩:=I.fast ha;exact h Wy s σ _ D I2 (q o)
theorem Wd.tell{K:NM}{H0 H:Hp}{O0 O:Ex}{σ:St}{δ:Dl}(w:Wd K H0 O0 H O σ δ){i:Nat}{v:V}{d:U7}(h:σ[i]?=some (some v))(hd:Dt K H O v d):Wd K H0 O0 H O σ (δ.set i (some (.v d))):=by
 have li:i < δ.length:=by rw [<-w.len];exact(N7.mp h).1
 have ne:∀{j:Nat}{y:Sl},(δ.set i (some (.v d)))[j]?=some (some y)->y.own->j≠i:=λ{j y} q hy z=>by
  subst z;rw [Ov li] at q;cases q;exact hy
 refine⟨w.same,w.sub,w.new,w.trk,by simp [w.len],λj y q=>?_,λj k y z l' e1 y1 e2 z2 e3 e4=>?_⟩
 ·by_cases hj:j=i
  ·subst hj;rw [Ov li] at q;cases q;exact⟨v,by rw [h];rfl,hd⟩
  ·rw [Oc (Ne.symm hj)] at q;exact w.sl j y q
 ·have n1:=ne e1 y1;have n2:=ne e2 z2;rw [Oc (Ne.symm n1)] at e1;rw [Oc (Ne.symm n2)] at e2;exact w.dis j k _ _ l' e1 y1 e2 z2 e3 e4
theorem wa(i:Nat){st:Vn}{t:DS}(h:PS X st (bA X.K H0 O0 t)):PS X st (bA X.K H0 O0 (oP i t)):=
 (JY h i).imp λD σ H uu34=>by
  obtain⟨O,δ,E,w,⟨kd,e,ks,ek,q⟩,k1,k2,k3,k4⟩:=uu34;obtain⟨l,kv,h,a,b,c,r⟩:=w.ownK e;refine⟨l,kv,h,c,λo=>?_⟩;obtain⟨O',w',S,n⟩:=w.frzK (y0:= .k kd) e trivial h (.frz o (.dK kv));have w2:=w'.tell (d:=eZ ks (kd.map (·.2))) h (.dic aR (by rw [r.keys];exact ek) rfl n (r.vals.step S));rw [UK] at w2;exact⟨O',_,E,w2,q,λO2 δ2 σ2 H2 z2 w2 S2=>k1 O2 δ2 σ2 H2 z2 w2 (S.trans S2),k2,λO2 δ2 σ2 H2 z2 w2 S2=>k3 O2 δ2 σ2 H2 z2 w2 (S.trans S2),λO2 δ2 σ2 H2 z2 w2 S2=>k4 O2 δ2 σ2 H2 z2 w2 (S.trans S2)⟩
theorem sE:∀{a b:List Str},a.map NP=b.map NP->a=b
 | [],[],_=>rfl
 | [],_::_,h=>by cases h
 | _::_,[],h=>by cases h
 | x::a,y::b,h=>by
  simp only [NS,ON,PV] at h;rw [h.1,sE h.2]
def cj:List Str->List U7->Str->Option U7
 | k::ks,d::ds,z=>if k=z then some d else cj ks ds z
 | _,_,_=>none
theorem sF{K:NM}{H:Hp}{O:Ex}{z:Str}{d:U7}:∀{kv:List (ai×V)}{ks:List Str}{ds:List U7},kv.map (·.1)=ks.map OW->ak K H O (kv.map (·.2)) ds->cj ks ds z=some d->∃v,dQ kv (.inr z)=some v/\Dt K H O v d
 | [],[],ds,_,_,e=>by unfold cj at e;cases e
 | [],_::_,ds,h,_,_=>by cases h
 | _::_,[],ds,h,_,_=>by cases h
 | p::kv,k::ks,ds,h,hd,e=>by
  rw [NS] at hd;cases hd with
  | cons h1 h2=>
   simp only [NS,ON] at h;obtain⟨p1,p2⟩:=p;obtain⟨rfl,h⟩:=h;unfold cj at e;by_cases hk:k=z
   ·rw [U4 hk] at e;cases e;exact⟨p2,nQ (by rw [hk]),h1⟩
   ·rw [U3 hk] at e;obtain⟨v,a,b⟩:=sF h h2 e;exact⟨v,by rw [k8 (λq=>hk (oE.mp q))];exact a,b⟩
def oQ(to tk:DT):DT:=λδ Q=>to δ λx=>∃ks ds,x=eZ ks ds/\tk δ λy=>∃z,y= .str z/\∃d,cj ks ds z=some d/\Q d
theorem jo{o e:Vd}{to tk:DT}{pos:Pos}(hu:X.A.units+64 < Vx)(ho:DE X H0 O0 o to)(he:DE X H0 O0 e tk)(hs:qU e):DE X H0 O0 (.Subscript o e pos) (oQ to tk):=
 (BA U2 ho he hs).imp λσ H Q uu35=>by
  obtain⟨O,δ,Qd,w,q,k⟩:=uu35;refine⟨O,δ,_,w,q,λx vx H1 ⟨ks,ds,ex,q1⟩ s1 r1=>?_⟩;subst ex;refine⟨O,δ,_,w.mono s1,q1,λy vy H2 ⟨z,ey,d,ed,q2⟩ s2 r2=>?_⟩;subst ey;cases r2;cases r1 with
  | @dic a ob kv ks' kp ds h e1 e2 n rr=>
   have ek:ks'=ks:=by
    have:ks'.map NP=ks.map NP:=e2.symm;exact sE this
   subst ek;obtain⟨v,hv,dv⟩:=sF e1 rr ed;exact⟨a,v,rfl,by rw [<-hv];exact dj.z (k:= .inr z) (s2 _ _ h),k _ _ _ q2 (s1.trans s2) (dv.mono s2)⟩
def oR(t:DT)(g:DG)(tc:DB)(te:DT)(k:Nat)(fr:List Nat):DA:=λδ Q=>jN t g tc te k fr δ Q\/jO t g tc te k fr δ Q
theorem JZ{N':List Str}{k:Nat}{fr:List Nat}{scope:Vv}{iter elt tg:Vd}{ifs:List Vd}{t te:DT}{tc:DB}{g:TG}{dg:DG}{pos:Pos}(hc:X.calm=true)(S:bj X.env.scope X.N N' k fr scope)(hi:DF X H0 O0 iter t)(gd:GD X.K g dg)(hk:iE g k)(hfr:fr.Nodup)
 (hg:∀fp C s H,PG (bR X scope N' fp C s H) tg g)(hf:∀fp C s H,fk (bR X scope N' fp C s H) ifs (bY X.K H0 O0 tc))(he:∀fp C s H,PE (bR X scope N' fp C s H) elt (up X.K H0 O0 te))
 (hs:∀x,Vp iter X.env x=pure x:=by intro _;rfl):FE X H0 O0 (.ListComp elt [⟨tg,iter,ifs,0⟩] scope pos) (oR t dg tc te k fr):=by
 intro Wy s σ H Q I h;obtain⟨O,δ,Qd,w,q,kk⟩:=h;rcases q with q | q
 ·exact fP hc S hi gd hk hfr hg hf he hs Wy s σ H Q I ⟨O,δ,Qd,w,q,kk⟩
 ·exact kP hc S hi gd hk hfr hg hf he hs Wy s σ H Q I ⟨O,δ,Qd,w,q,kk⟩
end
theorem J0{fr:List Nat}{σ:St}{v u:Option V}:jF (bS 2 fr σ) (((bS 2 fr σ).set 0 v).set 1 u):=by
 refine⟨U6,λi w h=>?_⟩
 match i with
 | 0=>simp [bS,Oa] at h
 | 1=>simp [bS,Oa] at h
 | i+2=>simpa [bS,Oa] using h
theorem wb{K:NM}{n:Nat}:iE (mh K n (ke (gf 0) (ke (gf 1) mf))) 2:=λfr σ v H' R uu38=>by obtain⟨a,xs,e,h1,h2,x,r,e1,y,r2,e2,e3,h⟩:=uu38;exact⟨a,xs,e,h1,h2,x,r,e1,y,r2,e2,e3,J0,h⟩
section
variable {X:Cx} {H0:Hp} {O0:Ex}
theorem jq{T:String}{a c:Vd}{t:DT}{np p:Pos}{K':NM}(hK:X.K=K')(hg:Gl X "isinstance")(hm:X.mg "isinstance"=none)(hv:Vq "isinstance"=some (.builtin "isinstance"))(ha:DF X H0 O0 a t)(hc:PE X c (tC (.ty T)))
 (hs:Vc [a,c] X.env=(false,eval a X.env)::Vc [c] X.env:=by rfl)(hs2:Vc [c] X.env=[(false,eval c X.env)]:=by rfl)(hb:(Vr p (Vc [c] X.env)).any (·.1)=false:=by rfl):DE X H0 O0 (.Call (.Name "isinstance" np) [a,c] [] p) (k6 K' T t):=by
 subst hK;exact Ij hg hm hv ha hc hs hs2 hb
end
def Ct(K:NM):R2:=λx y H Q=>∃a b xs ys,x= .ref a/\y= .ref b/\bx K H a xs/\bx K H b ys/\xs.length+ys.length<=Ve/\(xs=[]->Q (.ref b) H)/\(xs≠[]->ve K x y H Q)
theorem J1{X:Cx}:bT X (VI .Add) (Ct X.K):=by
 intro Wy s σ H x y v u Q I rx ry h;obtain⟨a,b,xs,ys,rfl,rfl,ha,hb,hz,q0,q1⟩:=h;by_cases hx:xs=[]
 ·subst hx;cases rx;cases ry;obtain⟨its,r1,⟨⟨c1,d1,da1,s1⟩,o1,k1,n1,e1⟩,_⟩:=I.tuple ha;obtain⟨its2,r2,⟨⟨c2,d2,da2,s2⟩,o2,k2,n2,e2⟩,_⟩:=I.tuple hb;simp only at k1 e1 k2 e2;subst k1 e1 k2 e2;cases r1;exact concat_meets ⟨_,o1,rfl⟩ ⟨_,o2,rfl⟩ Wu seq_tuple_add RA Ru (Rf _ _)
   (tuple_addW0 a b _ its2.toArray n1 n2 d1 d2 s1 s2 U6) ⟨o1,o2,.ref b,H,I,rfl,q0 rfl⟩
 ·exact GZ Wy s σ H _ _ v u Q I rx ry (q1 hx)
def oT:U7->U7->(U7->Prop)->Prop:=λx y Q=>∃xs ys,x= .tuple xs/\y= .tuple ys/\xs.length+ys.length<=Ve/\Q (.tuple (xs++ys))
theorem J3{K:NM}:cx K (Ct K) oT:=λH O x y dx dy Qd R tr hx hy uu39 k=>by
 obtain⟨xs,ys,e1,e2,hz,q⟩:=uu39;subst e1 e2;have hx0:=hx;have hy0:=hy;obtain⟨a,vs,rfl,h1,d1⟩:=hx.tup;obtain⟨b,us,rfl,h2,d2⟩:=hy.tup;refine⟨a,b,vs,us,rfl,rfl,h1,h2,by rw [d1.length,d2.length];exact hz,λz=>?_,λz=>?_⟩
 ·subst z;cases d1;rw [O4] at q;cases hy0 with
  | dt hy0=>exact k _ _ H q (aj.refl _) hy0
 ·exact Ih H O _ _ _ _ Qd R tr hx0 hy0 ⟨xs,ys,rfl,rfl,λe=>z (by subst e;cases d1;rfl),hz,q⟩ k
def fz(f:Str)(d:U7):List (Str×U7)->List (Str×U7)
 | []=>[(f,d)]
 | (g,x)::r=>if g=f then(g,d)::r else(g,x)::fz f d r
theorem jJ.put{K:NM}{H:Hp}{O:Ex}{f:Str}{v:V}{d:U7}(hv:Dt K H O v d):∀{fs:List (Str×V)}{fd:List (Str×U7)},jJ K H O fs fd->jJ K H O (dZ f v fs) (fz f d fd)
 | [],[],_=>⟨rfl,.cons hv .nil⟩
 | [],_::_,h=>by cases h.1
 | _::_,[],h=>by cases h.1
 | (g,x)::fs,(g',y)::fd,⟨h1,h2⟩=>by
  simp only [NS,ON] at h1;obtain⟨rfl,h1⟩:=h1;simp only [NS] at h2;cases h2 with
  | cons a r=>
   unfold dZ fz;by_cases e:g=f
   ·rw [U4 e,U4 e];exact⟨by simp only [NS,h1],.cons hv r⟩
   ·rw [U3 e,U3 e];obtain⟨q1,q2⟩:=jJ.put hv (fs:=fs) (fd:=fd) ⟨h1,r⟩;exact⟨by simp only [NS,q1],.cons a q2⟩
section
variable {X:Cx} {H0:Hp} {O0:Ex}
def oU(C:U9)(i:Nat)(f:Str)(t:DT):DS:=λE δ=>t δ λd=>∃l fd,δ[i]?=some (some (.i l C fd))/\fd.length < 1000/\E.nx (δ.set i (some (.i l C (fz f d fd))))
theorem oV{C:U9}{i:Nat}{f:Str}{o e:Vd}{t:DT}{pos pos':Pos}(hc:gW X.K C)(hn:NoAttr X.K C f)(ho:PE X o (fh i))(he:DE X H0 O0 e t)(hs:Vw e (some (.Attribute o f pos')) pos.line X.env=pure false:=by rfl):
 PS X (.Assign [.Attribute o f pos'] e pos) (bA X.K H0 O0 (oU C i f t)):=
 (GG ho he hs).imp λD σ H ⟨O,δ,E,w,q,k1,k2,k3,k4⟩=>⟨O,δ,_,w,q,λd u H1 uu41 s1 r1=>by
  obtain⟨l,fd,e,hl,q1⟩:=uu41;have w1:=w.mono s1;obtain⟨dx,fs,h,a,b,c,r⟩:=w1.ownI e;have lf:fs.length=fd.length:=by have:=congrArg T7 r.1;simpa using this
  refine⟨.ref l,h,l,C,dx,fs,rfl,c,hc,hn,by rw [lf];exact hl,k1 _ _ _ _ q1 (w1.putY (y0:= .i l C fd) (y1:= .i l C (fz f d fd)) trivial trivial e h λS a b=>⟨dx,_,rfl,a,b,aR,?_⟩) ⟨λb' o' z n=>?_,λ_ _ n=>n⟩⟩
  ·obtain⟨z1,z2⟩:=r.put (f:=f) r1;exact⟨z1,z2.step S⟩
  ·rw [aA (λy=>n (by rw [y];exact a))];exact s1 _ _ z⟩
abbrev Cu(C:U9)(fd:List (Str×U7)):U7:=jH C (fd.map λp=>.str p.1) (fd.map (·.2))
inductive sG (K:NM) (C:U9) (F:List U7->(U7->Prop)->Prop) (vs:List V) (H:Hp) (Q:VK) (E:XK):Prop
 | mk (x dx:U9) (vs':List V) (H1:Hp) (O:Ex) (ds:List U7) (Qd:U7->Prop):vs= .ref x::vs'->H=ao (ao H1 dx (.own x)) x (.ins C dx [])->H1 x=none->H1 dx=none->dx≠x->(∀l,O l->H1 l≠none)->ak K H1 O vs' ds->F ds Qd->
 (∀d H',Qd d->aj H1 H'->Dt K H' O (.ref x) d->Q .non H')->sG K C F vs H Q E
theorem Cv{K:NM}{C:U9}{F:List U7->(U7->Prop)->Prop}{t:DA}{E:XK}:∀σ H Q,up K H0 O0 (gZ F t) σ H Q->Ax C (sG K C F) [] E (dD K H0 O0 t) σ H Q:=
 λσ H Q uu42=>by obtain⟨O,δ,Qd,w,q,k⟩:=uu42;exact⟨O,δ,_,w,q,λds vs H1 q1 s1 r1 x dx hx hdx ne=>⟨x,dx,vs,H1,O,ds,Qd,by rw [Oi],rfl,hx,hdx,ne,(w.mono s1).trk,r1,q1,λd H2 q2 s2 r2=>⟨rfl,k d _ H2 q2 (s1.trans s2) r2⟩⟩⟩
def oW(N:List Str)(l C:U9)(ds:List U7):Dl:=some (.i l C [])::(eV N (.none::ds)).tail
theorem Cw{K:NM}{H1:Hp}{O:Ex}{N:List Str}{vs:List V}{ds:List U7}{x dx C:U9}(tr:∀l,O l->H1 l≠none)(r:ak K H1 O vs ds)(hx:H1 x=none)(hdx:H1 dx=none)(ne:dx≠x):
 Wd K H1 O (ao (ao H1 dx (.own x)) x (.ins C dx [])) (λl=>O l\/l=x) (start N (.ref x::vs)) (oW N x C ds):=by
 have w0:=nG (N:=N) tr (.cons .non r);have w1:=w0.mono (aj.new (o:=HO.own x) hdx);have hx1:(ao H1 dx (.own x)) x=none:=by rw [aA (Ne.symm ne)];exact hx
 have:=w1.setY (i:=0) (p:=x) (ho:= .ins C dx []) (y0:= .i x C []) trivial hx1 λO' S a b=>⟨dx,[],rfl,a,b,aR,rfl,.nil⟩;exact this
end
section
variable {P:Vj} {w:Vm} {K:NM} {mg:Str->Option U8} {base:Vl}
theorem cP.okI{x qual:Str}{st:Vn}{f C:U9}{fd:Vh}{N ps:List Str}{k:Nat}{F:List U7->(U7->Prop)->Prop}(Fu:cP K x qual st f fd)(S:aP N ps (ar st))(len:∀ds Q,F ds Q->ds.length+1=ps.length)
 (hbody:∀(cdv:U8) (A:Vo) (outer:List Env) (s:Va) (H H1:Hp) (O:Ex) (ds:List U7) (Q:U7->Prop) (E:XK) (l:U9),aT k (A.deeper (VM qual (ar st) s.heap.objs.size f cdv))->F ds Q->
  ∃t,bG (bh aH P w K mg base N qual (ar st) f cdv A outer s H E).nox (d4 st) (bA K H1 O t)/\t {nx:=λδ=>∃fd,δ[0]?=some (some (.i l C fd))/\Q (Cu C fd),rt:=λ_=>False} (oW N l C ds)):ay P w K mg base aH (k+1) f fd ps (sG K C F):=by
 refine Fu.ok S (λvs H Q E h=>?_) (λcdv A outer s H vs Q E hr h=>?_)
 ·obtain⟨x,dx,vs',H1,O,ds,Qd,rfl,_,_,_,_,_,r,q,_⟩:=h;rw [Og,r.length];exact len _ _ q
 ·obtain⟨x,dx,vs',H1,O,ds,Qd,rfl,rfl,hx,hdx,ne,tr,r,q,k⟩:=h;obtain⟨t,ht,q'⟩:=hbody cdv A outer s _ H1 O ds Qd E x hr q;refine⟨_,ht,_,_,_,Cw tr r hx hdx ne,q',λO' δ' σ' H' z w' S'=>?_,λd v H' z s' r'=>z.elim,λ_ _ _ _ z=>z.elim,λ_ _ _ _ z=>z.elim⟩;obtain⟨fd,e,z⟩:=z;obtain⟨dx',fs,h,a,b,c,r1,r2⟩:=w'.ownI e;refine k _ _ z w'.same (.obj c ?_ b (r2.step ⟨λ_ _ y _=>y,λb' _ n z=>n (w'.sub b' z)⟩));rw [show(fd.map λp:Str×U7=>NP p.1)=(fd.map (·.1)).map NP by rw [Oe];rfl,<-r1,Oe];rfl
end
theorem Dt.objI{K:NM}{H:Hp}{O:Ex}{v:V}{C:U9}{kp ds:List U7}(h:Dt K H O v (jH C kp ds)):∃a dx fs,v= .ref a/\H a=some (.ins C dx fs)/\kp=fs.map (λp=>NP p.1)/\ak K H O (fs.map (·.2)) ds:=by
 generalize e:jH C kp ds=x at h;cases h with
 | @obj a C' dx fs kp' ds' h1 h2 n r=>
  simp only [jH,S0.injEq,ON,UA,PX,QD,QO,and_true,true_and] at e;obtain⟨e1,e2,e3⟩:=e;have e1:C=C':=by exact_mod_cast e1
  subst e1 e2 e3;exact⟨a,dx,fs,rfl,h1,h2,r⟩
 | _=>first | cases e | simp [jH] at e
section
variable {X:Cx} {H0:Hp} {O0:Ex}
theorem Cy{K:NM}{H:Hp}{O:Ex}{f:Str}{d:U7}:∀{fs:List (Str×V)}{ks:List Str}{ds:List U7},fs.map (λp=>NP p.1)=ks.map NP->ak K H O (fs.map (·.2)) ds->cj ks ds f=some d->∃v,fs.lookup f=some v/\Dt K H O v d
 | [],[],ds,_,_,e=>by unfold cj at e;cases e
 | [],_::_,ds,h,_,_=>by cases h
 | _::_,[],ds,h,_,_=>by cases h
 | (g,x)::fs,k::ks,ds,h,hd,e=>by
  rw [NS] at hd;cases hd with
  | cons h1 h2=>
   simp only [NS,ON,PV] at h;obtain⟨rfl,h⟩:=h;unfold cj at e;rw [OC];by_cases hk:g=f
   ·rw [U4 hk] at e;cases e;subst hk;exact⟨x,U6,h1⟩
   ·rw [U3 hk] at e;have:(f==g)=false:=by simpa using Ne.symm hk
    rw [this];exact Cy h h2 e
def oX(C:U9)(f:Str)(t:DT):DT:=λδ Q=>t δ λx=>∃ks ds d,x=jH C (ks.map .str) ds/\cj ks ds f=some d/\Q d
theorem lF{C:U9}{f:Str}{e:Vd}{t:DT}{pos:Pos}(hc:gW X.K C)(hn:NoAttr X.K C f)(he:DE X H0 O0 e t)(hb:VJ e f X.env (eval e X.env)=eval e X.env:=by rfl):DE X H0 O0 (.Attribute e f pos) (oX C f t):=
 (GF he hb).imp λσ H Q uu43=>by obtain⟨O,δ,Qd,w,q,k⟩:=uu43;exact⟨O,δ,_,w,q,λx v H1 uu44 s1 r1=>by
  obtain⟨ks,ds,d,ex,ed,q1⟩:=uu44;subst ex;obtain⟨a,dx,fs,rfl,h1,h2,r⟩:=r1.objI;obtain⟨v,hv,dv⟩:=Cy h2.symm r ed;exact⟨a,C,dx,fs,v,rfl,h1,hc,hn,hv,k _ _ _ q1 s1 dv⟩⟩
end
def oY:List U7->(U7->Prop)->Prop:=λds Q=>∃ns:List Int,ds=[.list (ns.map .int)]/\Q (.int ns.sum)
theorem J4{K:NM}:fO K (λxs H Q=>∃(a:U9)(ns:List Int),xs=[.ref a]/\aV K H a (ns.map V.int)/\Q (.int ns.sum) H) oY:=λH O xs ds Qd R tr hs uu45 k=>by
 obtain⟨ns,e,q⟩:=uu45;subst e;cases hs with
 | cons h r=>
  cases r;obtain⟨a,vs,rfl,h1,d1⟩:=h.lst;cases d1.intsL;exact⟨a,ns,rfl,h1,k _ _ H q (aj.refl _) (.int _)⟩
theorem J5{X:Cx}(hc:X.calm=true):cH X (.builtin "min") (λxs H Q=>∃(p:U9)(ns:List Int),xs=[.ref p]/\aV X.K H p (ns.map V.int)/\ns≠[]/\∀M,M∈ns->(∀a∈ns,M<=a)->Q (.int M) H):=by
 intro Wy s σ H xs us Q I r h;obtain⟨p,ns,rfl,hq,hne,q⟩:=h;obtain⟨u,rfl,rx⟩:=c9 r;cases rx;obtain⟨its,rv,pl,hz⟩:=I.list hq;have hi:=vY rv;obtain⟨zs,e⟩:=hi.allInts.items;have hns:ns=zs.toList.map (·.1):=by rw [<-hi.numsOf,<-nums_intItems,<-e]
 have h0:0 < zs.size:=by
  rcases TN zs.size with z | z
  ·exact absurd (by rw [hns];simp [SY.mp z]) hne
  ·exact z
 have hl:=pl.isList;rw [e] at hl;refine min_intList (I.ok.hd hc) hl h0 λv h' tk hv hk=>?_;obtain⟨t,rfl⟩:=intItems_at hv;obtain⟨h1,h2⟩:=argBest_lt (numAt zs) (zs.size - 1);refine⟨.int _,H,I.kept (t':=tk) hk,⟨t,rfl⟩,q _ ?_ λa ha=>?_⟩
 ·rw [hns,numAt_eq];exact getD_mem (by rw [NO,OF];omega)
 ·rw [hns] at ha;obtain⟨j,hj,rfl⟩:=mem_getD ha;rw [NO,OF] at hj;rw [<-numAt_eq];exact h2 j U2
def oZ:List U7->(U7->Prop)->Prop:=λds Q=>∃ns:List Int,ds=[.list (ns.map .int)]/\ns≠[]/\∀M,M∈ns->(∀a∈ns,M<=a)->Q (.int M)
theorem J6{K:NM}:fO K (λxs H Q=>∃(p:U9)(ns:List Int),xs=[.ref p]/\aV K H p (ns.map V.int)/\ns≠[]/\∀M,M∈ns->(∀a∈ns,M<=a)->Q (.int M) H) oZ:=λH O xs ds Qd R tr hs uu46 k=>by
 obtain⟨ns,e,hne,q⟩:=uu46;subst e;cases hs with
 | cons h r=>
  cases r;obtain⟨a,vs,rfl,h1,d1⟩:=h.lst;cases d1.intsL;exact⟨a,ns,rfl,h1,hne,λM m1 m2=>k _ _ H (q M m1 m2) (aj.refl _) (.int _)⟩
section
variable {X:Cx} {H0:Hp} {O0:Ex}
theorem ak.rep{K:NM}{H:Hp}{O:Ex}{vs:List V}{ds:List U7}(h:ak K H O vs ds):∀n:Nat,ak K H O (Oa n vs).flatten (Oa n ds).flatten
 | 0=>.nil
 | n+1=>by rw [P1,P1,Qx,Qx];exact h.append (ak.rep h n)
end
end L2
namespace Day
def fT(y:Int):Bool:=decide (y % 400=0) || (decide (y % 4=0) && !decide (y % 100=0))
def ld(y:Int):Int:=if fT y=true then 1 else 0
def wc:List Int:=[31,28,31,30,31,30,31,31,30,31,30,31]
def bb(y m:Int):Int:=if m=2/\fT y=true then 29 else wc.getD (m - 1).toNat 0
def lb(y:Int):Int:=(y - 1)/ 4 - (y - 1)/ 100+(y - 1)/ 400
def bK(y:Int):Int:=365*(y - 2000)+lb y - lb 2000
def aI(y m:Int):Int:=((OU (m - 1).toNat).map λ(i:Nat)=>bb y (1+(i:Int))).sum
def fU(y m n:Int):Int:=bK y+aI y m+n - 1
structure iL (d y m n:Int):Prop where
 m1:1<=m
 m12:m<=12
 n1:1<=n
 nl:n<=bb y m
 eq:fU y m n=d
theorem we(y:Int):0<=ld y/\ld y<=1:=by unfold ld;split <;> omega
theorem pb(y:Int):fT y=true↔(y % 400=0\/(y % 4=0/\y % 100≠0)):=by
 unfold fT;simp
theorem wg(y:Int):bK (y+1)=bK y+365+ld y:=by
 unfold bK lb ld;by_cases h:fT y=true
 ·rw [U4 h];have:=(pb y).mp h;omega
 ·rw [U3 h];have:=mt (pb y).mpr h;omega
theorem Cz{a b:Int}(h:a+1<=b):bK (a+1)<=bK b:=by
 unfold bK lb;omega
theorem sH(y:Int):bb y 2=28+ld y:=by
 unfold bb ld;by_cases h:fT y=true
 ·rw [U4 ⟨rfl,h⟩,U4 h];rfl
 ·rw [U3 (λz=>h z.2),U3 h];rfl
theorem wj{y m:Int}(h:m≠2):bb y m=wc.getD (m - 1).toNat 0:=by
 unfold bb;rw [U3 (λz=>h z.1)]
theorem pd(y:Int):bb y 1=31/\bb y 3=31/\bb y 4=30/\bb y 5=31/\bb y 6=30/\bb y 7=31/\bb y 8=31/\bb y 9=30/\bb y 10=31/\bb y 11=30/\bb y 12=31:=by
 refine⟨?_,?_,?_,?_,?_,?_,?_,?_,?_,?_,?_⟩ <;> (rw [wj U1];rfl)
theorem sI{m:Int}(h1:1<=m)(h2:m<=12):m=1\/m=2\/m=3\/m=4\/m=5\/m=6\/m=7\/m=8\/m=9\/m=10\/m=11\/m=12:=by
 obtain⟨k,e⟩:=Pm (show 0<=m - 1 by omega);have e:m=(k:Int)+1:=U2
 have hk:k < 12:=U2
 have key:∀k:Fin 12,((k.1:Nat):Int)+1=1\/((k.1:Nat):Int)+1=2\/((k.1:Nat):Int)+1=3\/((k.1:Nat):Int)+1=4\/((k.1:Nat):Int)+1=5\/((k.1:Nat):Int)+1=6\/((k.1:Nat):Int)+1=7\/((k.1:Nat):Int)+1=8\/((k.1:Nat):Int)+1=9\/((k.1:Nat):Int)+1=10\/((k.1:Nat):Int)+1=11\/((k.1:Nat):Int)+1=12:=U0
 rw [e];exact key ⟨k,hk⟩
theorem CA{y m:Int}(h1:1<=m)(h2:m<=12):28<=bb y m/\bb y m<=31:=by
 obtain⟨m1,m3,m4,m5,m6,m7,m8,m9,m10,m11,m12⟩:=pd y;have m2:28<=bb y 2/\bb y 2<=31:=by
  have:=we y;rw [sH];clear m1 m3 m4 m5 m6 m7 m8 m9 m10 m11 m12 h1 h2;omega
 have k:∀{z:Int},z=31\/z=30->28<=z/\z<=31:=λh=>by rcases h with h | h <;> rw [h] <;> decide
 rcases sI h1 h2 with h | h | h | h | h | h | h | h | h | h | h | h <;> subst h
 ·exact k (.inl m1)
 ·exact m2
 ·exact k (.inl m3)
 ·exact k (.inr m4)
 ·exact k (.inl m5)
 ·exact k (.inr m6)
 ·exact k (.inl m7)
 ·exact k (.inl m8)
 ·exact k (.inr m9)
 ·exact k (.inl m10)
 ·exact k (.inr m11)
 ·exact k (.inl m12)
theorem pe(y:Int):aI y 1=0:=rfl
theorem dU{y m:Int}(h:1<=m):aI y (m+1)=aI y m+bb y m:=by
 unfold aI;have e:(m+1 - 1).toNat=(m - 1).toNat+1:=U2
 rw [e,RQ,OJ,List.sum_append];have e2:(1:Int)+(((m - 1).toNat:Nat):Int)=m:=U2
 simp only [NS,OS,UB,List.sum_nil,e2];omega
theorem J7{a b c:Int}(l:Int)(h:a+b=c):a+(b+l)=c+l:=U2
theorem hV{a b c:Int}(l:Int)(h:a+b=c):a+l+b=c+l:=U2
theorem sJ(y:Int):aI y 1=0/\aI y 2=31/\aI y 3=59+ld y/\aI y 4=90+ld y/\aI y 5=120+ld y/\aI y 6=151+ld y/\aI y 7=181+ld y/\aI y 8=212+ld y/\aI y 9=243+ld y/\aI y 10=273+ld y/\aI y 11=304+ld y/\aI y 12=334+ld y/\aI y 13=365+ld y:=by
 obtain⟨m1,m3,m4,m5,m6,m7,m8,m9,m10,m11,m12⟩:=pd y;have e2:aI y 2=31:=by rw [show aI y 2=aI y 1+bb y 1 from dU (m:=1) U1,m1];rfl
 have e3:aI y 3=59+ld y:=by rw [show aI y 3=aI y 2+bb y 2 from dU (m:=2) U1,e2,sH];exact J7 _ rfl
 have e4:aI y 4=90+ld y:=by rw [show aI y 4=aI y 3+bb y 3 from dU (m:=3) U1,e3,m3];exact hV _ rfl
 have e5:aI y 5=120+ld y:=by rw [show aI y 5=aI y 4+bb y 4 from dU (m:=4) U1,e4,m4];exact hV _ rfl
 have e6:aI y 6=151+ld y:=by rw [show aI y 6=aI y 5+bb y 5 from dU (m:=5) U1,e5,m5];exact hV _ rfl
 have e7:aI y 7=181+ld y:=by rw [show aI y 7=aI y 6+bb y 6 from dU (m:=6) U1,e6,m6];exact hV _ rfl
 have e8:aI y 8=212+ld y:=by rw [show aI y 8=aI y 7+bb y 7 from dU (m:=7) U1,e7,m7];exact hV _ rfl
 have e9:aI y 9=243+ld y:=by rw [show aI y 9=aI y 8+bb y 8 from dU (m:=8) U1,e8,m8];exact hV _ rfl
 have e10:aI y 10=273+ld y:=by rw [show aI y 10=aI y 9+bb y 9 from dU (m:=9) U1,e9,m9];exact hV _ rfl
 have e11:aI y 11=304+ld y:=by rw [show aI y 11=aI y 10+bb y 10 from dU (m:=10) U1,e10,m10];exact hV _ rfl
 have e12:aI y 12=334+ld y:=by rw [show aI y 12=aI y 11+bb y 11 from dU (m:=11) U1,e11,m11];exact hV _ rfl
 have e13:aI y 13=365+ld y:=by rw [show aI y 13=aI y 12+bb y 12 from dU (m:=12) U1,e12,m12];exact hV _ rfl
 exact⟨pe y,e2,e3,e4,e5,e6,e7,e8,e9,e10,e11,e12,e13⟩
theorem CB{y m:Int}(h1:1<=m):∀k:Nat,m+k<=13->aI y m<=aI y (m+k)
 | 0,_=>by simp
 | k+1,h=>by
  have ih:=CB (y:=y) h1 k U2;have e:m+((k+1:Nat):Int)=(m+k)+1:=U2
  rw [e,dU U2];have:=CA (y:=y) (m:=m+k) U2 U2;omega
theorem wk{y m m':Int}(h1:1<=m)(h2:m<=m')(h3:m'<=13):aI y m<=aI y m':=by
 have:=CB (y:=y) h1 (m' - m).toNat U2;rw [show m+(((m' - m).toNat:Nat):Int)=m' by omega] at this;exact this
theorem sL{y m:Int}(h1:1<=m)(h2:m<=12):0<=aI y m/\aI y m+bb y m<=365+ld y:=by
 have a:=wk (y:=y) (m:=1) (m':=m) U1 h1 U2;have b:=wk (y:=y) (m:=m+1) (m':=13) U2 U2 U1;rw [dU h1] at b;have c:=(sJ y).1;have e:=(sJ y).2.2.2.2.2.2.2.2.2.2.2.2;omega
theorem CC{y m m':Int}(h1:1<=m)(h2:m < m')(h3:m'<=12):aI y m+bb y m<=aI y m':=by
 have b:=wk (y:=y) (m:=m+1) (m':=m') U2 U2 U2;rw [dU h1] at b;exact b
theorem iL.in{d y m n:Int}(h:iL d y m n):bK y<=d/\d < bK (y+1):=by
 have:=sL (y:=y) h.m1 h.m12;have:=h.n1;have:=h.nl;have e:=h.eq;have:=wg y;unfold fU at e;omega
theorem iL.uniq{d y m n y' m' n':Int}(h:iL d y m n)(h':iL d y' m' n'):y=y'/\m=m'/\n=n':=by
 have a:=h.in;have b:=h'.in;have ey:y=y':=by
  rcases T4 y y' with z | z | z
  ·have:=Cz (a:=y) (b:=y') U2;omega
  ·exact z
  ·have:=Cz (a:=y') (b:=y) U2;omega
 subst ey;have e:=h.eq;have e':=h'.eq;unfold fU at e e';have em:m=m':=by
  rcases T4 m m' with z | z | z
  ·have:=CC (y:=y) h.m1 z h'.m12;have:=h.nl;have:=h'.n1;omega
  ·exact z
  ·have:=CC (y:=y) h'.m1 z h.m12;have:=h'.nl;have:=h.n1;omega
 subst em;exact⟨rfl,rfl,U2⟩
def lG(d:Int):Int:=
 if d < bK (2000+d*400 / 146097) then 2000+d*400 / 146097 - 1
 else if bK (2000+d*400 / 146097+1)<=d then 2000+d*400 / 146097+1
 else 2000+d*400 / 146097
theorem Ka(d:Int):bK (lG d)<=d/\d < bK (lG d+1):=by
 unfold lG;have e:2000+d*400 / 146097 - 1+1=2000+d*400 / 146097:=U2
 by_cases h:d < bK (2000+d*400 / 146097)
 ·rw [U4 h,e];refine⟨?_,h⟩;unfold bK lb at*;omega
 ·rw [U3 h];by_cases h2:bK (2000+d*400 / 146097+1)<=d
  ·rw [U4 h2];refine⟨h2,?_⟩;unfold bK lb at*;omega
  ·rw [U3 h2];omega
def lH(y m n k:Int):Int:=fU ((y*12+m - 1+k)/ 12) ((y*12+m - 1+k)% 12+1) (min n (bb ((y*12+m - 1+k)/ 12) ((y*12+m - 1+k)% 12+1)))
theorem CD(y:Int):365*(y - 2000)+(y - 2000+3)/ 4 - (y - 2000+99)/ 100+(y - 2000+399)/ 400=bK y:=by
 unfold bK lb;omega
theorem length_eq(y m:Int)(h1:1<=m)(h2:m<=12):(if m=2/\(y % 4≠0\/(y % 100=0/\y % 400≠0)) then(28:Int) else [31,29,31,30,31,30,31,31,30,31,30,31].getD (m - 1).toNat 0)=bb y m:=by
 by_cases h:m=2
 ·subst h;rw [sH];unfold ld;by_cases l:fT y=true
  ·rw [U4 l,U3 (by have:=(pb y).mp l;omega)];rfl
  ·rw [U3 l,U4 (by have:=mt (pb y).mpr l;omega)];rfl
 ·rw [wj h,U3 (λz=>h z.1)];rcases sI h1 h2 with z | z | z | z | z | z | z | z | z | z | z | z <;> subst z <;> first | rfl | exact absurd rfl h
def fst(M:Int):Int:=fU (M / 12) (M % 12+1) 1
def Dn(M n:Int):Int:=fst M+n - 1
end Day
namespace L2
open PySem PySem.Spec PyProof.Rows PySem.W
def d2(m:Nat):List Nat:=[48+m / 10,48+m % 10]
section
variable {X:Cx} {H0:Hp} {O0:Ex}
def pf(t:DA)(u:DT):DA:=λδ Q=>t δ λds=>ds.length<=1000/\u δ λy=>∃i:Int,y= .int i/\0<=i/\i<=1000/\Q (Oa i.toNat ds).flatten
theorem Kb{e f:Vd}{t:DA}{u:DT}{pos:Pos}(h:FE X H0 O0 e t)(hf:DE X H0 O0 f u):FE X H0 O0 (.BinOp e .Mult f pos) (pf t u):=
 (bz Hd h hf).imp λσ H Q ⟨O,δ,Qd,w,q,k⟩=>⟨O,δ,_,w,q,λds vs p H1 q1 s1 hp r1=>⟨O,δ,_,w.mono (s1.trans (aj.new hp)),q1.2,λy v H2 uu48 s2 r2=>by
  obtain⟨i,e,i0,i1,q2⟩:=uu48;subst e;cases r2;refine⟨p,i,vs,rfl,rfl,s2 _ _ aR,U2,U2,?_,λp' hp'=>k _ _ p' _ q2 ((s1.trans (aj.new hp)).trans s2) hp' ((r1.rep i.toNat).mono ((aj.new hp).trans s2))⟩;have h1:=r1.length;have h2:(Ve:Nat)=16777216:=U1
  have h3:=q1.1;have h4:vs.length*i.toNat<=1000*1000:=Nat.mul_le_mul U2 U2;omega⟩⟩
end
open PySem PySem.Spec PyProof.Rows PySem.W PySem.Calls
def fA{α:Type}(xs:List α)(n:Nat)(y:α):List α:=xs.take n++y::xs.drop n
theorem wq{α:Type}(xs:List α)(n:Nat)(y:α):(fA xs n y).Perm (y::xs):=by
 unfold fA;refine List.perm_middle.trans ?_;rw [List.take_append_drop]
theorem Kc{α β:Type}(f:α->β)(xs:List α)(n:Nat)(y:α):(fA xs n y).map f=fA (xs.map f) n (f y):=by
 unfold fA;rw [OJ,NS,RC,UC]
theorem wt{α:Type}(xs:List α)(n:Nat)(y:α):(fA xs n y).length=xs.length+1:=(wq xs n y).length_eq
def Kd:V->List V->Hp->VK->Prop:=λx vs H Q=>∃l xs y,∃n:Nat,x= .ref l/\vs=[.int (n:Int),y]/\H l=some (.lst xs)/\n<=xs.length/\xs.length < 1000000/\Q .non (ao H l (.lst (fA xs n y)))
theorem Ke(l:List U8)(k:Nat)(y:U8):(l.toArray.extract 0 k).push y++l.toArray.extract k=(fA l k y).toArray:=by
 apply Sx.mp;simp;unfold fA;congr 2;exact OD U6
theorem Kf{X:Cx}:AQ X "list.insert" Kd:=by
 intro Wy s σ H x vs v us Q I rx rv h;obtain⟨l,xs,y,n,rfl,rfl,hH,hn,hz,q⟩:=h;cases rx;cases rv with
 | cons r1 r2=>
  obtain⟨u,rfl,ru⟩:=c9 r2;obtain⟨t,rfl⟩:=r1;obtain⟨z,its,m,r,hl,e⟩:=I.lstM hH;have ef:Qv (n:Int)=true:=by
   unfold Qv;simp;omega
  have sl:(1000000:Nat)<=Ve:=U1
  have hsz:its.toArray.size<=Ve:=by rw [N8];exact Ot U2 sl
  have hfi:¬(!Qv (n:Int))=true:=by rw [ef];decide
  generalize hni:(n:Int)=ni at hfi ef⊢;refine VR Sy ⟨_,e,rfl⟩ PySem.F.entry_list_insert (PySem.F.args_list_insert_3 _ _ _) (PySem.AutoSeq1.list_insert_list_int_val_1 l its.toArray m ni t u hfi hsz) ⟨e,?_⟩;refine⟨.non,_,I.lset (its':=fA its n u) hH e ?_ ((r.take n).append (.cons ru (r.drop n))) ?_,rfl,q⟩
  ·show(its.toArray.extract 0 (if ni < 0 then(ni+(its.toArray.size:Int)).toNat else min ni.toNat its.toArray.size)).push u++its.toArray.extract (if ni < 0 then(ni+(its.toArray.size:Int)).toNat else min ni.toNat its.toArray.size)=_;subst hni;rw [U3 U2,N8,Sd,Nat.min_eq_left U2];have:=Ke its n u;simp only [N8] at this;exact this
  ·show(fA xs n y).length<=Ve;rw [wt];exact Ot U2 sl
section
variable {X:Cx} {H0:Hp} {O0:Ex}
theorem ak.takeN{K:NM}{H:Hp}{O:Ex}:∀{vs:List V}{ds:List U7}(n:Nat),ak K H O vs ds->ak K H O (vs.take n) (ds.take n)
 | _,_,0,_=>by rw [RV,RV];exact .nil
 | _,_,n+1,.nil=>.nil
 | _,_,n+1,.cons a r=>.cons a (ak.takeN n r)
theorem ak.dropN{K:NM}{H:Hp}{O:Ex}:∀{vs:List V}{ds:List U7}(n:Nat),ak K H O vs ds->ak K H O (vs.drop n) (ds.drop n)
 | _,_,0,r=>r
 | _,_,n+1,.nil=>.nil
 | _,_,n+1,.cons a r=>ak.dropN n r
def ph(i:Nat)(t1 t2:DT):DS:=λE δ=>∃ds,δ[i]?=some (some (.o ds))/\t1 δ λa=>t2 δ λd=>∃n:Nat,a= .int (n:Int)/\n<=ds.length/\ds.length < 1000000/\E.nx (δ.set i (some (.o (fA ds n d))))
theorem Kg{i:Nat}{o e e2:Vd}{t1 t2:DT}{apos cpos pos:Pos}(ho:PE X o (fh i))(he:DE X H0 O0 e t1)(he2:DE X H0 O0 e2 t2)(hbase:VJ o "insert" X.env (eval o X.env)=eval o X.env:=by rfl)
 (hfew:((Vr cpos (Vc [e,e2] X.env)).all (λx=>!x.1) && (backToKw cpos (V8 [] X.env)).all (λx=>x.1.isSome) && decide ([e,e2].length+([]:List VO).length+(if ([]:List VO).isEmpty then 0 else 1) < 30))=true:=by rfl)
 (hline:(apos.endLine==cpos.line)=true:=by rfl)(hst:Vc [e,e2] X.env=(false,eval e X.env)::Vc [e2] X.env:=by rfl)(hst2:Vc [e2] X.env=(false,eval e2 X.env)::Vc [] X.env:=by rfl)(hplain:(Vr cpos (Vc [e2] X.env)).any (·.1)=false:=by rfl)
 (hs:Vw (.Call (.Attribute o "insert" apos) [e,e2] [] cpos) none pos.line X.env=pure false:=by rfl):PS X (.Expr (.Call (.Attribute o "insert" apos) [e,e2] [] cpos) pos) (bA X.K H0 O0 (ph i t1 t2)):=
 (Ab (vh SF Sy PySem.F.type_list_insert Kf ho (aO he (aO he2 bU hst2) hst) hbase hfew hline hst hplain) hs).imp λD σ H uu49=>by
  obtain⟨O,δ,E,w,⟨ds,e,q⟩,k1,k2,k3,k4⟩:=uu49;obtain⟨l,vs,h,a,b,c,r⟩:=w.own e;refine⟨_,h,.inl ⟨rfl,_,aV.of c⟩,O,δ,_,w,q,λx vx H1 q1 s1 r1=>?_⟩;refine⟨O,δ,_,w.mono s1,q1,λd v H2 q2 s2 r2=>?_⟩;obtain⟨n,rfl,hn,hz,q2⟩:=q2;cases r1;have rl:=r.length;have S:=s1.trans s2;refine⟨l,vs,v,n,rfl,rfl,S _ _ c,U2,U2,?_⟩;exact k1 _ _ _ _ q2 ((w.mono S).putO (vs:=vs) e h (((r.mono S).takeN n).append (.cons r2 ((r.mono S).dropN n)))) ⟨λb' o' z n=>by rw [aA (λy=>n (by rw [y];exact a))];exact S _ _ z,λ_ _ n=>n⟩
def iM(t:DT):DB:=λδ Q=>t δ λd=>∃ds,d= .list ds/\Q (!ds.isEmpty)
theorem wu{e:Vd}{t:DT}(h:DE X H0 O0 e t)(he:∀whole,isTrue e X.env whole=(do let v<-whole;standAt e.pos;We [v] (truthy v)):=by intro _;rfl):PT X e (bY X.K H0 O0 (iM t)):=
 (Gm h he).imp λσ H Q ⟨O,δ,Qd,w,q,k⟩=>⟨O,δ,_,w,q,λd v H' uu51 s r=>by
  obtain⟨ds,e,qb⟩:=uu51;subst e;obtain⟨a,vs,rfl,hs,r⟩:=(Sh.dt r).lst;refine⟨_,.inl ⟨vs,hs,rfl⟩,?_⟩;have:(!vs.isEmpty)=!ds.isEmpty:=by cases r <;> rfl
  rw [this];exact k _ H' qb s⟩
theorem wx{K:NM}{H:Hp}{O:Ex}{z:Str}:∀{kv:List (ai×V)}{ks:List Str}{ds:List U7},kv.map (·.1)=ks.map OW->ak K H O (kv.map (·.2)) ds->cj ks ds z=none->dQ kv (.inr z)=none
 | [],_,ds,_,_,e=>rfl
 | _::_,[],ds,h,_,_=>by cases h
 | p::kv,k::ks,ds,h,hd,e=>by
  rw [NS] at hd;cases hd with
  | cons h1 h2=>
   simp only [NS,ON] at h;obtain⟨p1,p2⟩:=p;obtain⟨rfl,h⟩:=h;unfold cj at e;by_cases hk:k=z
   ·rw [U4 hk] at e;cases e
   ·rw [U3 hk] at e;rw [k8 (λq=>hk (oE.mp q))];exact wx h h2 e
def pj(to tk:DT):DT:=λδ Q=>to δ λx=>∃ks ds,x=eZ ks ds/\tk δ λy=>∃z,y= .str z/\Q ((cj ks ds z).getD .none)
theorem Kh{o e:Vd}{to tk:DT}{apos cpos:Pos}(hu:X.A.units+64 < Vx)(ho:DE X H0 O0 o to)(he:DE X H0 O0 e tk)(m:M1 X o "get" apos e cpos):DE X H0 O0 (.Call (.Attribute o "get" apos) [e] [] cpos) (pj to tk):=
 (BH U2 ho he m).imp λσ H Q uu52=>by
  obtain⟨O,δ,Qd,w,q,k⟩:=uu52;refine⟨O,δ,_,w,q,λx vx H1 ⟨ks,ds,ex,q1⟩ s1 r1=>?_⟩;subst ex;cases r1 with
  | @dic a ob kv ks' kp ds h e1 e2 n rr=>
   have ek:ks'=ks:=by
    have:ks'.map NP=ks.map NP:=e2.symm;exact sE this
   subst ek;refine⟨a,rfl,.inl ⟨kv,.inr ⟨_,h⟩⟩,O,δ,_,w.mono s1,q1,λy vy H2 ⟨z,ey,q2⟩ s2 r2=>?_⟩;subst ey;cases r2;refine⟨_,dj.z (k:= .inr z) (s2 _ _ h),k _ _ _ q2 (s1.trans s2) ?_⟩;cases hd:cj ks' ds z with
   | none=>rw [wx e1 rr hd];exact .non
   | some d=>
    obtain⟨v,hv,dv⟩:=sF e1 rr hd;rw [hv];exact dv.mono s2
end
theorem Ki:typeLookup (.type "list") "keys"=pure none:=by rw [typeLookup_type,builtinLookup_eq_fast];kernel_rfl
theorem CF:entryFor table "dict.update.loop"=some Builtin.«dict.update.loop»:=entryFor_of_tree (by kernel_rfl)
theorem sM:plainId "dict.update.loop"=true:=U0
section
variable {P:Vj} {w:Vm} {A:Vo} {E:U8->Va->Prop} {s:Va}
theorem Kj{l:U9}{o:Obj}{xs:Array U8}{k:Nat}{Q:Option U8->Va->Prop}(hx:s.heap.get? l=some o)(hc:o.cls= .type "list")(hdat:o.data= .seq xs k)(hd:o.dict=none)(hA:A.handled=none)
 (h:∀(h':Vl) (tk:Nat),(∀b u,s.heap.get? b=some u->h'.get? b=some u)->Q none {s with heap:=h',toks:=tk}):Vf (Vg P w) A (getAttr? (.ref l) "keys") Q E s:=by
 obtain⟨c,dct,dat,sl⟩:=o;simp only at hc hdat hd;subst hc hdat hd;obtain⟨hp,g,d,tk,os⟩:=s;have hT:∀tk',(⟨hp,g,d,tk',os⟩:Va).TypeIs (.ref l) "list":=λ_=>⟨_,hx,rfl⟩;have f1:=sub_AttributeError;have f3:=PySem.F.slot_list_getattribute.lookup;have f4:=PySem.F.slot_list_getattribute.bind (.ref l);have f5:=am_list_getattr_none;unfold getAttr? getAttrBy? getAttrBy
 repeat (any_goals (first | assumption | exact hT _ | ((with_reducible show Vf _ _ (call (QZ "list.__getattribute__") _ _) _ _ _);refine VR PySem.F.slot_list_getattribute (hT _) am_entry_list_getattribute (PySem.F.args_list_getattribute_2 _ _) (meets_getattribute_miss_list l xs k sl (NL "keys") _ Ki U0) ⟨hx,hA,λh' tk' e hx'=>?_⟩) | wp_step))
 obtain⟨t',u',he⟩:=hx'.there;show Vf _ _ (getattributeRaised _ _ _ _ _ _ _) _ _ _;unfold getattributeRaised
 repeat (any_goals (first | assumption | wp_step))
 exact h _ _ λb u e=>hx'.keeps b u e
end
def gL(val:Nat->ai×U8)(i:Nat):List (ai×U8):=((OU i).map val).foldl (λa p=>stored a p.1 p.2) []
theorem CG(val:Nat->ai×U8)(i:Nat):gL val (i+1)=stored (gL val i) (val i).1 (val i).2:=by
 unfold gL;rw [RQ,OJ,List.foldl_append];rfl
theorem Kk{K:Type} [DecidableEq K](l:List (K×U8))(k:K)(v:U8):(stored l k v).length<=l.length+1:=by
 unfold stored;split <;> simp
theorem CH(val:Nat->ai×U8):∀i,(gL val i).length<=i
 | 0=>NV _
 | i+1=>by
  have ih:=CH val i;rw [CG];have:=Kk (gL val i) (val i).1 (val i).2;omega
def pq(h:Vl)(a:U9)(x y:U8):Prop:=∃o m,h.get? a=some o/\o.cls= .type "tuple"/\o.data= .seq #[x,y] m
section
variable {P:Vj} {w:Vm} {A:Vo} {R:Result->Va->Prop} {I:U9} {fp wr:List U9} {G:Array Ww->Array Ww->Prop} {n:Nat} {Pv:Nat->U8->Prop} {St:Nat->Va->Prop}
theorem Kl(W:WalksS P w A.in1 I fp wr G n Pv St)(D:U9)(hDf:D ∉ fp)(tp:Nat->U9)(kv:Nat->U8)(val:Nat->ai×U8)(hval:∀i v,Pv i v->v= .ref (tp i))(hk:∀i,i < n->(ck P w).is (val i).1 (kv i)=true)(hw:∀i,i < n->tp i ∉ D::wr)(hb:n<=Ve):
 ∀(k i:Nat)(s:Va),n - i=k->i<=n->St i s->s.heap.DictOf (ck P w) D (gL val i)->(∀j,j < n->pq s.heap (tp j) (kv j) (val j).2)->
  (∀s',Moved (D::wr) G s s'->s'.heap.DictOf (ck P w) D (gL val n)->R (.ok (.ret .none)) s')->∀t,VT (Vg P w) A (.builtin "dict.update.loop" ⟨[.ref D,.ref I,.int (i:Int) t,.none],[]⟩) R s:=by
 have sw:D ∉ wr:=λz=>hDf (W.sub _ z);have sub:∀b∈wr,b∈D::wr:=λb z=>OB _ z;intro k
 induction k with
 | zero=>
  intro i s e1 e2 st hS hT q t;obtain rfl:i=n:=U2
  refine codeAny_builtin CF ?_;rw [Th sM _];show Vf _ A.in1 (pyNext (.ref I) >>=_) _ _ s;exact Vb (W.done s _ _ st λs' m=>Vb (Vi (Vi (q s' (m.mono sub) (let ⟨o,es,ep,ho,r⟩:=hS;⟨o,es,ep,m.heap D o sw ho,r⟩)))))
 | succ k ih=>
  intro i s e1 e2 st hS hT q t;have lt:i < n:=U2
  refine codeAny_builtin CF ?_;rw [Th sM _];show Vf _ A.in1 (pyNext (.ref I) >>=_) _ _ s;refine Vb (W.item i s _ _ lt st λv s' hP st' m=>?_);obtain rfl:=hval i v hP;have hS':s'.heap.DictOf (ck P w) D (gL val i):=let ⟨o,es,ep,ho,r⟩:=hS;⟨o,es,ep,m.heap D o sw ho,r⟩
  have hT':∀j,j < n->pq s'.heap (tp j) (kv j) (val j).2:=λj hj=>let ⟨o,m2,ho,r⟩:=hT j hj;⟨o,m2,m.heap _ o (λz=>hw j hj (sub _ z)) ho,r⟩
  obtain⟨o,m2,ho,hc,hd⟩:=hT' i lt;show Vf _ A.in1 (We [Of (tp i)] _ >>=_) _ _ s';refine Vb (Vz ?_);obtain⟨oc,od,oda,osl⟩:=o;simp only at hc hd;subst hc hd;have hTy:s'.TypeIs (.ref (tp i)) "tuple":=⟨_,ho,rfl⟩;refine Vb (wpAny_tryCatch ?_);unfold Builtin.Dict.pairItems;refine Vb (V0 hTy ?_);rw [U4 U1];refine Vb (wpAny_seqItems ho rfl (Vi ?_));show Vf _ A.in1 (We [kv i,(val i).2] (dictSet D (kv i) (val i).2)) _ _ s';refine Vz (wpAny_dictSet_pairs (hk i lt) hS' (λh' S2 sb=>?_) (by have:=CH val i;omega));rw [<-CG] at S2;refine Vi ⟨plainId_quiet sM _,ih (i+1) _ U2 lt (W.frame _ s' _ _ st' (RW _) λb hb o e=>?_) S2 (λj hj=>?_) (λs2 m2 S3=>?_) _⟩
  ·rw [sb.2 b (λz:b=D=>hDf (by rw [<-z];exact hb))];exact e
  ·obtain⟨o,m3,ho3,r⟩:=hT' j hj;exact⟨o,m3,by rw [sb.2 _ (λz=>hw j hj (by rw [z];exact OY))];exact ho3,r⟩
  ·refine q s2 (Moved.trans W.gtrans ((m.mono sub).then_heap (RW _) λb o hb e=>?_) m2) S3;rw [sb.2 b (λz:b=D=>hb (by rw [z];exact OY))];exact e
end
section
variable {P:Vj} {w:Vm} {A:Vo} {E:U8->Va->Prop} {s:Va}
theorem Km{l:U9}{items:Array U8}{n:Nat}(tp:Nat->U9)(kv:Nat->U8)(val:Nat->ai×U8){Q:U8->Va->Prop}
 (hh:A.handled=none)(hl:∃o k,s.heap.get? l=some o/\o.cls= .type "list"/\o.dict=none/\o.data= .seq items k)(hn:items.size=n)(hi:∀(i:Nat) (v:U8),items[i]?=some v->v= .ref (tp i))(hk:∀i,i < n->(ck P w).is (val i).1 (kv i)=true)(hT:∀i,i < n->pq s.heap (tp i) (kv i) (val i).2)(hb:n<=Ve)
 (h:∀(h':Vl) (tk:Nat),h'.DictOf (ck P w) s.heap.objs.size (gL val n)->(∀b o,s.heap.get? b=some o->h'.get? b=some o)->Q (.ref s.heap.objs.size) {s with heap:=h',toks:=tk}):
 Vf (Vg P w) A (call (.type "dict") [.ref l]) Q E s:=by
 refine callType_codes (Q₁:=λobj s₁=>obj= .ref s.heap.objs.size/\s₁={s with heap:=s.heap.push {cls:= .type "dict",data:= .dict #[]}}) PySem.F.kt_called_dict (PySem.F.kt_typeCall_dict_1 _) PySem.F.entry_dict_init (kt_code_dict_new _ ⟨rfl,rfl⟩) ?_;rintro obj s₁ ⟨rfl,rfl⟩;have hnew:(s.heap.push {cls:= .type "dict",data:= .dict #[]}).DictOf (ck P w) s.heap.objs.size []:=Uo s.heap;refine⟨hnew.typeIs,PySem.F.args_dict_init_2 _ _,?_⟩;unfold Builtin.«dict.__init__»;refine Vb ?_;unfold Builtin.Dict.selfAndRest;refine Vb (wpAny_notOrdered_dict hnew.typeIs ?_);show Vf _ _ (pure (s.heap.objs.size,[Of l])) _ _ _;refine Vi ?_;show Vf _ _ (SI "dict.__init__" s.heap.objs.size (.ref l) [] .none) _ _ _;unfold SI;obtain⟨o,k,ho,hc,hd,hdat⟩:=hl;have ho2:(s.heap.push {cls:= .type "dict",data:= .dict #[]}).get? l=some o:=NT _ ho;refine Vb (V0 (T:="list") ⟨_,ho2,hc⟩ ?_);rw [U4 U1];refine Vb (Kj (s:={s with heap:=s.heap.push {cls:= .type "dict",data:= .dict #[]}}) ho2 hc hdat hd ?_ λh' tk hk'=>?_)
 ·simp [hh]
 ·show Vf _ A.in1.in1 (rule _ >>=_) _ _ _;refine Vb (wpAny_rule ?_);have o3:h'.get? l=some o:=hk' l o ho2;have l1:h'.IsList l items:=⟨_,o3,hc,k,hdat⟩;have ll:l < s.heap.objs.size:=N5 ho;have nD:s.heap.objs.size < h'.objs.size:=by
   obtain⟨od,_,_,hod,_⟩:=hnew;exact N5 (hk' _ _ hod)
  refine Vb (Wr l1 ?_);refine Vi ⟨plainId_quiet sM _,?_⟩;have tl:∀i,i < n->tp i < s.heap.objs.size:=λi hi=>by obtain⟨_,_,e,_⟩:=hT i hi;exact N5 e
  have hn2:items.size<=Ve:=U2
  subst hn;refine Kl (A:=A.in1) (Um (show A.in1.in1.handled=none by simp [hh]) _ l (Oj (Sw ll nD)) items).toS s.heap.objs.size (by simp only [N9,Pc,or_false,not_or];exact⟨Oj nD,RN ll⟩) tp kv val hi hk ?A hn2 (items.size - 0) 0 _ U2 (Pe _)
   ⟨⟨_,Ou _ rfl,rfl,rfl⟩,l1.push _⟩ ?hS0 ?hT0 ?hR _
  case A=>
   intro i hi z;have t1:=tl i hi;simp only [N9,Pc,or_false] at z;rcases z with z | z
   ·exact Oj t1 z
   ·exact Oj (Sw t1 nD) z
  case hT0=>
   intro j hj;obtain⟨u,m,e,r⟩:=hT j hj;exact⟨u,m,NT _ (hk' _ _ (NT _ e)),r⟩
  case hS0=>
   obtain⟨od,es,ep,hod,r⟩:=hnew;exact⟨od,es,ep,NT _ (hk' _ _ hod),r⟩
  case hR=>
   intro s' m S';obtain⟨h2,g',d',tk',os'⟩:=s';obtain rfl:g'=s.gens:=m.gens;obtain rfl:d'=s.drawn:=m.drawn;obtain rfl:os'=s.os:=m.os;refine⟨rfl,h h2 tk' S' λb u e=>?_⟩;have hb1:b < s.heap.objs.size:=N5 e;refine m.heap b u ?_ (NT _ (hk' _ _ (NT _ e)));simp only [N9,Pc,or_false,not_or];exact⟨Oj hb1,Oj (Sw hb1 nD)⟩
end
def wy(K:NM)(H:Hp)(vs:List V)(kvs:List (ai×V)):Prop:=Paired (λv (p:ai×V)=>∃b,v= .ref b/\bx K H b [kV p.1,p.2]) vs kvs
theorem CI{X:Cx}{Wy:List (U9×Obj)}{σ:St}{H:Hp}{s:Va}(I:af X Wy σ H s):∀{vs:List V}{kvs:List (ai×V)}{its:List U8},wy X.K H vs kvs->aE vs its->
 ∃zs:List (U9×U8×ai×U8),zs.length=its.length/\KV kvs (zs.map (·.2.2))/\its=zs.map (λz=>Of z.1)/\∀z∈zs,(ck X.prog X.w).is z.2.2.1 z.2.1=true/\pq s.heap z.1 z.2.1 z.2.2.2
 | _,_,_,.nil,.nil=>⟨[],rfl,.nil,rfl,U6⟩
 | _,_,_,.cons (b:=p) h t,.cons r rs=>by
  obtain⟨zs,e1,e2,e3,e4⟩:=CI I t rs;obtain⟨b,rfl,hb⟩:=h;cases r;obtain⟨its2,r2,⟨o,ho,hc,n,hd⟩,_⟩:=I.tuple hb;cases r2 with
  | @cons _ u _ _ ru r3=>
   obtain⟨x,rfl,rx⟩:=c9 r3;refine⟨(b,u,p.1,x)::zs,by simp [e1],.cons ⟨rfl,rx⟩ e2,by rw [e3];rfl,λz hz=>?_⟩;rcases N9.mp hz with e | e
   ·subst e;exact⟨jj ru,o,n,ho,hc,hd⟩
   ·exact e4 z e
theorem Kn{X:Cx}:cH X (.type "dict") (λxs H Q=>X.calm=true/\∃a vs kvs,xs=[.ref a]/\aV X.K H a vs/\wy X.K H vs kvs/\∀l,H l=none->Q (.ref l) (ao H l (.dK (gI [] kvs)))):=by
 intro Wy s σ H xs us Q I r h;obtain⟨hc,a,vs,kvs,rfl,ha,hp,q⟩:=h;obtain⟨u,rfl,rx⟩:=c9 r;cases rx;obtain⟨its,rv,⟨o,n,ho,hcl,hdi,hda⟩,hz⟩:=I.list ha;obtain⟨zs,z1,z2,z3,z4⟩:=CI I hp rv;have ln:vs.length=its.length:=rv.length;have hk:kvs.length=zs.length:=by rw [z2.length,NO]
 let D:U9×U8×ai×U8:=(0,.none,.inl 0,.none)
 have at_:∀i,i < its.length->∃z∈zs,(zs[i]?).getD D=z:=λi hi=>by
  rw [<-z1] at hi;exact⟨zs[i],Py hi,by rw [Oz hi];rfl⟩
 refine Km (s:=s) (n:=its.length) (λi=>((zs[i]?).getD D).1) (λi=>((zs[i]?).getD D).2.1) (λi=>((zs[i]?).getD D).2.2) (I.ok.hd hc) ⟨o,n,ho,hcl,hdi,hda⟩ U6 (λi v e=>?_) (λi hi=>?_) (λi hi=>?_) U2 λh' tk dd kp=>?_
 ·rw [List.getElem?_toArray,z3,Ob] at e;cases hz':zs[i]? with
  | none=>rw [hz'] at e;cases e
  | some z=>rw [hz'] at e;cases e;rfl
 ·obtain⟨z,hz1,e⟩:=at_ i hi;show(ck X.prog X.w).is ((zs[i]?).getD D).2.2.1 ((zs[i]?).getD D).2.1=true;rw [e];exact(z4 z hz1).1
 ·obtain⟨z,hz1,e⟩:=at_ i hi;show pq s.heap ((zs[i]?).getD D).1 ((zs[i]?).getD D).2.1 ((zs[i]?).getD D).2.2.2;rw [e];exact(z4 z hz1).2
 ·have em:gL (λi=>((zs[i]?).getD D).2.2) its.length=merged [] (zs.map (·.2.2)):=by
   unfold gL merged;congr 1;rw [<-z1];apply QU U6;intro i a b;simp at a b⊢;rw [Oz U2];rfl
  rw [em] at dd;have zl:(gI [] kvs).length<=Ve:=by
   have h1:=vL kvs [];rw [Pf] at h1;omega
  exact⟨.ref _,_,I.laid (t':=tk) (o:= .dK (gI [] kvs)) kp (NV _) (qT zl (beq_eq_false_iff_ne.mpr (Ne.symm (Oj I.big))) (z2.merge .nil) dd),rfl,q _ (I.hok.fresh (NV _))⟩
section
variable {X:Cx} {H0:Hp} {O0:Ex}
def pz(t:DA):jU:=λδ Q=>t δ λds=>∃kd:List (ai×U7),ds=[.list (kd.map λp=>.tuple [gJ p.1,p.2])]/\Q (kd.foldl (λa p=>d8 a p.1 p.2) [])
theorem CJ{K:NM}{H:Hp}{O:Ex}:∀{us:List V}{kd:List (ai×U7)},ak K H O us (kd.map λp=>.tuple [gJ p.1,p.2])->∃kv,wy K H us kv/\bD K H O kv kd
 | [],[],_=>⟨[],.nil,.nil⟩
 | _::_,(k,d)::kd,.cons h r=>by
  obtain⟨kv,h1,h2⟩:=CJ r;obtain⟨b,vs,rfl,hs,d2⟩:=(Sh.dt h).tup;cases d2 with
  | cons x1 x2=>
   cases x2 with
   | cons x2 x3=>
    cases x3;cases x1.key;exact⟨(k,_)::kv,.cons ⟨b,rfl,hs⟩ h1,.cons x2 h2⟩
theorem Ko{a:Vd}{t:DA}{np p:Pos}(hc:X.calm=true)(hg:Gl X "dict")(hm:X.mg "dict"=none)(ha:PA X [a] (fC X.K H0 O0 t))(he:Vc [a] X.env=(false,eval a X.env)::Vc [] X.env:=by rfl)(hpl:(Vr p (Vc [] X.env)).any (·.1)=false:=by rfl):KE X H0 O0 (.Call (.Name "dict" np) [a] [] p) (pz t):=
 (eR Kn hg hm vB ha (he:=he) (hpl:=hpl)).imp λσ H Q uu55=>by obtain⟨O,δ,Qd,w,q,k⟩:=uu55;exact⟨O,δ,_,w,q,λds vs H1 uu56 s1 r1=>by
  obtain⟨kd,e,q1⟩:=uu56;subst e;cases r1 with
  | cons h r=>
   cases r;obtain⟨a,us,rfl,h1,d1⟩:=h.lst;obtain⟨kv,p1,p2⟩:=CJ d1;exact⟨hc,a,us,kv,rfl,h1,p1,λl hl=>k _ _ _ _ q1 s1 hl (p2.merge .nil)⟩⟩
end
theorem Dt.dicE{K:NM}{H:Hp}{O:Ex}{v:V}{ks:List Str}{ds:List U7}(h:Dt K H O v (eZ ks ds)):∃a ob kv,v= .ref a/\H a=some (.frz ob (.dK kv))/\kv.map (·.1)=ks.map OW/\¬O a/\ak K H O (kv.map (·.2)) ds:=by
 cases h with
 | @dic a ob kv ks' kp ds h e1 e2 n rr=>
  have ek:ks'=ks:=sE e2.symm;subst ek;exact⟨a,ob,kv,rfl,h,e1,n,rr⟩
theorem CK{K:NM}{H:Hp}{O:Ex}{z:Str}{kv:List (ai×V)}{ks:List Str}{ds:List U7}(e1:kv.map (·.1)=ks.map OW)(r:ak K H O (kv.map (·.2)) ds):(dQ kv (.inr z)).isSome=(cj ks ds z).isSome:=by
 cases hd:cj ks ds z with
 | none=>rw [wx e1 r hd];rfl
 | some d=>
  obtain⟨v,hv,_⟩:=sF e1 r hd;rw [hv];rfl
section
variable {X:Cx} {H0:Hp} {O0:Ex}
def pA(t:DT):DA:=λδ Q=>t δ λd=>∃ks ds,d=eZ ks ds/\ks.length < 64/\Q ((dJ ks).map .str)
theorem Kp{o:Vd}{t:DT}{np p:Pos}(hc:X.calm=true)(hg:Gl X "sorted")(hm:X.mg "sorted"=none)(hv:Vq "sorted"=some (.builtin "sorted"))(ho:DE X H0 O0 o t)(he:Vc [o] X.env=(false,eval o X.env)::Vc [] X.env:=by rfl)(hpl:(Vr p (Vc [] X.env)).any (·.1)=false:=by rfl):
 FE X H0 O0 (.Call (.Name "sorted" np) [o] [] p) (pA t):=
 (bP B5 hg hm hv (aO ho bU he) (he:=he) (hpl:=hpl)).imp λσ H Q uu57=>by obtain⟨O,δ,Qd,w,q,k⟩:=uu57;exact⟨O,δ,_,w,q,λd v H1 uu58 s1 r1=>by
  obtain⟨ks,ds,e,h64,q1⟩:=uu58;subst e;obtain⟨a,ob,kv,rfl,h,e1,n,rr⟩:=r1.dicE;exact⟨hc,a,kv,ks,rfl,.inr ⟨_,h⟩,e1,h64,λp hp=>k _ _ _ _ q1 s1 hp (ak.ofStrs _)⟩⟩
def jr(neg:Bool)(tk to:DT):DT:=λδ Q=>tk δ λy=>to δ λx=>∃z ks ds,y= .str z/\x=eZ ks ds/\Q (.bool (if neg then !(cj ks ds z).isSome else(cj ks ds z).isSome))
theorem Kq{o e:Vd}{tk to:DT}(hu:X.A.units+64 < Vx)(ho:DE X H0 O0 o to)(he:DE X H0 O0 e tk):PC X .In e o (up X.K H0 O0 (jr false tk to)):=λWy s σ H Q I ⟨O,δ,Qd,w,q,k⟩=>
 BB U2 he ho Wy s σ H Q I ⟨O,δ,_,w,q,λy uy H2 q2 s2 r2=>⟨O,δ,_,w.mono s2,q2,λx ux H3 uu60 s3 r3=>by
  obtain⟨z,ks,ds,ey,ex,q3⟩:=uu60;subst ey ex;cases r2;obtain⟨a,ob,kv,rfl,h,e1,n,rr⟩:=r3.dicE;exact⟨a,_,rfl,dj.z (k:= .inr z) h,by rw [CK e1 rr];exact k _ _ _ q3 (s2.trans s3) (.bl _)⟩⟩⟩
theorem Kr{o e:Vd}{tk to:DT}(hu:X.A.units+64 < Vx)(ho:DE X H0 O0 o to)(he:DE X H0 O0 e tk):PC X .NotIn e o (up X.K H0 O0 (jr true tk to)):=λWy s σ H Q I ⟨O,δ,Qd,w,q,k⟩=>
 BC U2 he ho Wy s σ H Q I ⟨O,δ,_,w,q,λy uy H2 q2 s2 r2=>⟨O,δ,_,w.mono s2,q2,λx ux H3 uu62 s3 r3=>by
  obtain⟨z,ks,ds,ey,ex,q3⟩:=uu62;subst ey ex;cases r2;obtain⟨a,ob,kv,rfl,h,e1,n,rr⟩:=r3.dicE;exact⟨a,_,rfl,dj.z (k:= .inr z) h,by rw [CK e1 rr];exact k _ _ _ q3 (s2.trans s3) (.bl _)⟩⟩⟩
theorem CL{o e:Vd}{tk to:DT}{pos:Pos}(hu:X.A.units+64 < Vx)(ho:DE X H0 O0 o to)(he:DE X H0 O0 e tk)(hm:Vy .In o=false:=by rfl):PT X (.Compare e [.In] [o] pos) (bY X.K H0 O0 (fw (jr false tk to))):=
 (qg (Kq hu ho he) hm).imp λσ H Q uu63=>by obtain⟨O,δ,Qd,w,q,k⟩:=uu63;exact⟨O,δ,_,w,q,λd v H' uu64 s r=>by obtain⟨b,e,qb⟩:=uu64;subst e;cases r;exact⟨b,rfl,k b H' qb s⟩⟩
theorem Ks{o e:Vd}{tk to:DT}{pos:Pos}(hu:X.A.units+64 < Vx)(ho:DE X H0 O0 o to)(he:DE X H0 O0 e tk)(hm:Vy .NotIn o=false:=by rfl):PT X (.Compare e [.NotIn] [o] pos) (bY X.K H0 O0 (fw (jr true tk to))):=
 (qg (Kr hu ho he) hm).imp λσ H Q uu65=>by obtain⟨O,δ,Qd,w,q,k⟩:=uu65;exact⟨O,δ,_,w,q,λd v H' uu66 s r=>by obtain⟨b,e,qb⟩:=uu66;subst e;cases r;exact⟨b,rfl,k b H' qb s⟩⟩
def Kt(tl:TE):TI:=λσ H R=>tl σ H λx H1=>∃a o kv,x= .ref a/\H1 a=some (.frz o (.dK kv))/\R (vZ o a kv) H1
theorem Ku{X:Cx}{tg l:Vd}{tl:TE}(hl:PE X l tl):PI X tg l (Kt tl):=by
 intro Wy s σ H R I h;refine aB (hl Wy s σ H _ I h) λv s1 ⟨x,H1,I1,r1,q1⟩=>?_;obtain⟨a,o,kv,e,ha,q⟩:=q1;subst e;cases r1;obtain⟨g,z,hd,vs,rel,o',es,ep,g',r1,r2,r3⟩:=I1.hok a _ ha;rw [g] at g';cases g';have hlen:=rel.len;have hd':(a==VH)=false:=hd;refine wpAny_pyIter_dict hd' (knd:=ck X.prog X.w) (kvs:=vs) (ep:=ep) ⟨o,es,g,r1,r2,r3⟩ ?_;rw [hlen];refine⟨s1.heap.objs.size,[s1.heap.objs.size],_,_,_,rfl,I1.kept (t':=s1.toks) λb o e=>NT _ e,JI _ a o es ep kv r2,⟨_,Ou _ rfl,rfl,rfl⟩,λb hb=>?_,q⟩;have e:b=s1.heap.objs.size:=by simpa using hb
 subst e;exact I1.fpOk (NV _) (I1.hok.fresh (NV _))
theorem CM{K:NM}{H:Hp}{O:Ex}:∀{kv:List (ai×V)}{ks:List Str},kv.map (·.1)=ks.map OW->ak K H O (kv.map λp=>kV p.1) (ks.map .str)
 | [],[],_=>.nil
 | p::kv,k::ks,h=>by
  simp only [NS,ON] at h;obtain⟨p1,p2⟩:=p;obtain⟨rfl,h⟩:=h;exact .cons (.str _) (CM h)
def pB(t:DT)(dg:DG)(tb:DS):DS:=λE δ=>t δ λd=>∃ks ds,d=eZ ks ds/\kL dg tb E (ks.map .str) δ
theorem Kv{tg iter:Vd}{t:DT}{g:TG}{dg:DG}{tb:DS}{body:List Vn}{pos:Pos}(hp:VQ (Vg X.prog X.w) X.A X.env X.xe)(hc:X.calm=true)(hi:DE X H0 O0 iter t)(hg:PG X tg g)(gd:GD X.K g dg)(hb:bG X body (bA X.K H0 O0 tb))(hs:∀x,Vp iter X.env x=pure x:=by intro _;rfl):
 PS X (.For tg iter body [] pos) (bA X.K H0 O0 (pB t dg tb)):=
 (jB hp hc (Ku hi) hg hb hs).imp λD σ H uu68=>by obtain⟨O,δ,E,w,q,k1,k2,k3,k4⟩:=uu68;exact⟨O,δ,_,w,q,λd v H1 uu69 s1 r1=>by
  obtain⟨ks,ds,e,q1⟩:=uu69;subst e;obtain⟨a,ob,kv,rfl,h,e1,n,rr⟩:=r1.dicE;exact⟨a,ob,kv,rfl,h,kM cE.dk gd (λH' O' S=>S.keep _ _ h n) (CM e1) (w.mono s1) q1 (λO' δ' σ' H' z w' S=>k1 O' δ' σ' H' z w' (aX.trans (.same s1) S)) k2⟩⟩
theorem CN{X:Cx}:cH X (.type "dict") (λxs H Q=>∃a kv,xs=[.ref a]/\Rd H a (.dK kv)/\∀l o,H l=none->Q (.ref l) (ao H l (.frz o (.dK kv)))):=by
 intro Wy s σ H xs us Q I r h;obtain⟨a,kv,rfl,ha,q⟩:=h;obtain⟨u,rfl,rx⟩:=c9 r;cases rx;refine IS I ha λp s' hp I'=>?_;obtain⟨o,I2⟩:=I'.fast aR;rw [FT] at I2;exact⟨.ref p,_,I2,rfl,q p o hp⟩
def pC:List U7->(U7->Prop)->Prop:=λds Q=>∃ks xs,ds=[eZ ks xs]/\Q (eZ ks xs)
theorem Sh.dicE{K:NM}{H:Hp}{O:Ex}{v:V}{ks:List Str}{ds:List U7}(h:Sh K H O v (eZ ks ds)):Dt K H O v (eZ ks ds):=by
 cases h with
 | dt h=>exact h
theorem CO{K:NM}:fO K (λxs H Q=>∃a kv,xs=[.ref a]/\Rd H a (.dK kv)/\∀l o,H l=none->Q (.ref l) (ao H l (.frz o (.dK kv)))) pC:=λH O xs ds Qd R tr hs uu70 k=>by
 obtain⟨ks,ys,e,q⟩:=uu70;subst e;cases hs with
 | cons h r=>
  cases r;obtain⟨a,ob,kv,rfl,h,e1,n,rr⟩:=h.dicE.dicE;refine⟨a,kv,rfl,.inr ⟨_,h⟩,λl o hl=>k _ _ _ q (aj.new hl) (.dic aR e1 rfl (λz=>tr l z hl) (rr.mono (aj.new hl)))⟩
theorem Wd.newO{K:NM}{H:Hp}{O:Ex}{σ:St}{δ:Dl}(w:Wd K H0 O0 H O σ δ){i:Nat}{p:U9}(hp:H p=none):∃O',Wd K H0 O0 (ao H p (.lst [])) O' (σ.set i (some (.ref p))) (δ.set i (some (.o [])))/\aX H (ao H p (.lst [])) O O':=
 ⟨_,w.setO hp .nil,⟨λb o e _=>(aj.new hp) b o e,λb e n z=>z.elim n λy=>by
  rw [y] at e;exact e hp⟩⟩
def pE(i j:Nat):DS:=λE δ=>E.nx ((δ.set i (some (.o []))).set j (some (.o [])))
theorem Kw{i j:Nat}{x y:Str}{px py pt pos p1 p2:Pos}{kt k2 pt2}(hc:X.calm=true)(hN:X.N.Nodup)(hi:X.N[i]?=some x)(hj:X.N[j]?=some y)(hij:i≠j)
 (hx:X.env.scope.names.lookup x=some .local)(hy:X.env.scope.names.lookup y=some .local)
 (hw:Wb [.Tuple [.Name x px,.Name y py] kt pt] (.Tuple [.List [] p1,.List [] p2] k2 pt2) X.env=pure (some [x,y]))
 (hs:Wa [.Tuple [.Name x px,.Name y py] kt pt] (.Tuple [.List [] p1,.List [] p2] k2 pt2) pos.line X.env=pure false:=by rfl):
 PS X (.Assign [.Tuple [.Name x px,.Name y py] kt pt] (.Tuple [.List [] p1,.List [] p2] k2 pt2) pos) (bA X.K H0 O0 (pE i j)):=
 (Ad hc hN hi hj hij hx hy (aO (mv bU) (aO (mv bU) bU)) hw hs).imp λD σ H uu71=>by
  obtain⟨O,δ,E,w,q,k1,k2,k3,k4⟩:=uu71;refine⟨U6,λp hp=>⟨U6,λr hr=>⟨_,_,rfl,?_⟩⟩⟩;obtain⟨O1,w1,S1⟩:=w.newO (i:=i) hp;obtain⟨O2,w2,S2⟩:=w1.newO (i:=j) hr;exact k1 _ _ _ _ q w2 (S1.trans S2)
end
theorem Kx(a b:Int):iZ (.int a) (.int b)=true:=rfl
theorem Ky(a b:Str):iZ (.str a) (.str b)=true:=rfl
theorem Kz(a b:Bool):iZ (.bl a) (.bl b)=true:=rfl
theorem KA(b:Int):iZ .non (.int b)=true:=rfl
theorem KC(b:Int):iZ (.int b) .non=true:=rfl
section
variable {P:Vj} {w:Vm} {K:NM} {mg:Str->Option U8} {base:Vl}
inductive lI (K:NM) (C:U9) (F:List U7->List U7->(List (Str×U7)->List (ai×U7)->List (ai×U7)->Prop)->Prop) (vs:List V) (H:Hp) (Q:VK) (E:XK):Prop
 | mk (x dx:U9) (vs':List V) (l:U9) (ws:List V) (H1:Hp) (O:Ex) (ds es:List U7) (Qd:List (Str×U7)->List (ai×U7)->List (ai×U7)->Prop):vs= .ref x::(vs'++[.ref l])->H=ao (ao H1 dx (.own x)) x (.ins C dx [])->H1 x=none->H1 dx=none->dx≠x->
 (∀a,O a->H1 a≠none)->ak K H1 O vs' ds->O l->H1 l=some (.lst ws)->ak K H1 O ws es->F ds es Qd->
 (∀fd gd ud g u O' H',Qd fd gd ud->aj H1 H'->(∀a,O a->O' a)->(∀a,O' a->O a\/H1 a=none)->(∀a,O' a->H' a≠none)->O' x->¬O x->Bl K H' O O' x C g u fd gd ud->Q .non H')->lI K C F vs H Q E
end
section
variable {x y z w:Option Sl} {l:Dl} {i j k m:Nat} {P:U7->Prop}
theorem sN:cw j ((x::l).set 0 y) P=cw j (y::l) P:=rfl
theorem sO:cw j ((x::l).set (i+1) y) P=cw j (x::l.set i y) P:=rfl
theorem sP:cw j (((x::l).set 0 y).set k z) P=cw j ((y::l).set k z) P:=rfl
theorem sQ:cw j (((x::l).set (i+1) y).set k z) P=cw j ((x::l.set i y).set k z) P:=rfl
theorem sR:cw j ((((x::l).set 0 y).set k z).set m w) P=cw j (((y::l).set k z).set m w) P:=rfl
theorem sS:cw j ((((x::l).set (i+1) y).set k z).set m w) P=cw j (((x::l.set i y).set k z).set m w) P:=rfl
end
section
variable {K:NM} {mg:Str->Option U8} {h:Vl} {x q:Str} {st:Vn} {f C:U9} {fd:Vh} {ps:List Str}
structure Fn (K:NM) (mg:Str->Option U8) (x:Str) (st:Vn) (f:U9) (fd:Vh) (ps:List Str):Prop where
 F:cP K x x st f fd
 m:mg x=some (.ref f)
 b:dh K fd ps []
structure Mn (K:NM) (x q:Str) (st:Vn) (f:U9) (fd:Vh) (ps:List Str):Prop where
 F:cP K x q st f fd
 b:dh K fd ps []
structure DfT (K:NM) (x:Str) (st:Vn) (f:U9) (fd:Vh):Prop where
 a:Om K Vk x=some (some (.ref f))
 F:cP K x x st f fd
structure DmT (K:NM) (C:U9) (x q:Str) (st:Vn) (f:U9) (fd:Vh):Prop where
 a:Pa K (.ref C) x=some (some (.ref f))
 i:Tx K (.ref f)=true
 F:cP K x q st f fd
structure CP (K:NM) (C:U9):Prop where
 c:gW K C
 m:SN K C=true
 k:Pu K (.ref C)=true
theorem DfT.of{oc:U8}{od an:Option U9}{osl:Array (Option U8)}{kV doc pm cdv ct:U8}(a:Om K Vk x=some (some (.ref f)))(l:K.lookup f=some ⟨oc,od,.func (PQ x x (gX st) (d4 st) (ar st) .none kV doc pm an cdv ct),osl⟩)
 (c:Ro K cdv x=true)(k:Pu K (.ref f)=true):DfT K x st f (PQ x x (gX st) (d4 st) (ar st) .none kV doc pm an cdv ct):=⟨a,AV l c k⟩
theorem DmT.of{oc:U8}{od an:Option U9}{osl:Array (Option U8)}{kV doc pm cdv ct:U8}(a:Pa K (.ref C) x=some (some (.ref f)))(i:Tx K (.ref f)=true)(l:K.lookup f=some ⟨oc,od,.func (PQ x q (gX st) (d4 st) (ar st) .none kV doc pm an cdv ct),osl⟩)
 (c:Ro K cdv q=true)(k:Pu K (.ref f)=true):DmT K C x q st f (PQ x q (gX st) (d4 st) (ar st) .none kV doc pm an cdv ct):=⟨a,i,AV l c k⟩
theorem DfT.fn(D:DfT K x st f fd)(X:K.In h)(G:h.Ns Vk mg)(hb:∀(kV doc pm:U8) (an:Option U9) (cdv ct:U8) (us:List U8),us.length=ps.length->Wk (PQ x x (gX st) (d4 st) (ar st) .none kV doc pm an cdv ct) ⟨us,[]⟩=pure (ps.zip us):=by walk_at "b"):Fn K mg x st f fd ps:=⟨D.F,OZ X G D.a,D.F.binds hb⟩
theorem DmT.fn(D:DmT K C x q st f fd)(hb:∀(kV doc pm:U8) (an:Option U9) (cdv ct:U8) (us:List U8),us.length=ps.length->Wk (PQ x q (gX st) (d4 st) (ar st) .none kV doc pm an cdv ct) ⟨us,[]⟩=pure (ps.zip us):=by walk_at "b"):Mn K x q st f fd ps:=⟨D.F,D.F.binds hb⟩
theorem DmT.mkk(D:DmT K C "__init__" q st f fd)(c:CP K C):Mk K C f:=⟨c.m,D.a,D.i,c.k⟩
theorem Fn.kp(N:Fn K mg x st f fd ps):Pu K (.ref f)=true:=N.F.kp
end
section
variable {X:Cx} {k:Nat} {f:U9} {fd:Vh} {ps:List Str} {sp:Sp} {st:Vn} {x:Str} {p pos:Pos} {e:Vd} {es:List Vd} {t:TA}
theorem eM(F:ay X.prog X.w X.K X.mg X.base aH k f fd ps sp)(hr:aT k X.A)(hg:Gl X x)(N:Fn X.K X.mg x st f fd ps)
 (ha:PA X (e::es) t)(hdb:(x==("__debug__":Str))=false:=by decide)(he:Vc (e::es) X.env=(false,eval e X.env)::Vc es X.env:=by rfl)(hpl:(Vr pos (Vc es X.env)).any (·.1)=false:=by rfl):
 PE X (.Call (.Name x p) (e::es) [] pos) (kq sp [] E0 t):=qz F hr hg N.m N.kp N.b .nil vi ha hdb he hpl
end
theorem bj.of{sc:Vv}{N N':List Str}{k:Nat}{fr:List Nat}{scope:Vv}(a:scope.kind= .function:=by rfl)(b:∀y∈scope.names,y.2= .cell->scope.names.lookup y.1=some .cell:=by decide+kernel)(c:∀y∈scope.names,y.2= .local->scope.names.lookup y.1=some .local:=by decide+kernel)(d:N'.Nodup:=by decide+kernel)(e:fr.map (λj=>N[j]?)=(N'.drop k).map some:=by rfl)(f:∀x∈N'.drop k,scope.names.lookup x=some .free:=by decide+kernel)(g:∀y∈scope.names,y.2= .free->sc.names.lookup y.1=some .cell\/sc.names.lookup y.1=some .free:=by decide+kernel)(h:∀x∈N'.drop k,sc.names.lookup x=some .cell\/sc.names.lookup x=some .free:=by decide+kernel)(i:N'.length=k+fr.length:=by rfl):bj sc N N' k fr scope:=⟨a,b,c,d,e,f,g,h,i⟩
theorem aP.of{N P:List Str}{sc:Vv}(a:sc.kind= .function:=by rfl)(b:sc.isCoroutine=false:=by rfl)(c:sc.isGenerator=false:=by rfl)(d:N.Nodup:=by decide+kernel)(e:N.take P.length=P:=by rfl)(f:∀x∈P,sc.names.lookup x=some .local\/sc.names.lookup x=some .cell:=by decide+kernel)(g:∀y∈sc.names,y.2≠ .free:=by decide+kernel):aP N P sc:=⟨a,b,c,d,e,f,g⟩
section
variable {X:Cx} {H0:Hp} {O0:Ex} {pos:Pos} {a b e:Vd} {es:List Vd} {ta tb t:DT} {u:DA} {r:R2} {rd:U7->U7->(U7->Prop)->Prop}
theorem aM{op:Operator}(ho:bT X (VI op) r)(hd:cx X.K r rd)(ha:DE X H0 O0 a ta)(hb:DE X H0 O0 b tb):DE X H0 O0 (.BinOp a op b pos) (dP rd ta tb):=HU ho hd (df ha) (df hb)
theorem av(ho:kr X r)(hd:cx X.K r rd)(ha:DE X H0 O0 a ta)(hb:DE X H0 O0 b tb)(hs:∀v u,V7 b false v u=operate [v,u] (VN v u):=by intro _ _;rfl):DE X H0 O0 (.Subscript a b pos) (dP rd ta tb):=eU ho hd (df ha) (df hb) hs
theorem aG{op:CmpOp}(ho:bT X (Vs op) r)(hd:cx X.K r rd)(ha:DE X H0 O0 a ta)(hb:DE X H0 O0 b tb)(hm:Vy op b=false):PT X (.Compare a [op] [b] pos) (bY X.K H0 O0 (fw (dP rd ta tb))):=HV ho hd (df ha) (df hb) hm
theorem bt(h:DE X H0 O0 e t)(hs:PA X es (fC X.K H0 O0 u))(he:Vc (e::es) X.env=(false,eval e X.env)::Vc es X.env:=by rfl):PA X (e::es) (fC X.K H0 O0 (gF t u)):=jd (df h) hs he
theorem ax{k j:Nat}{f:U9}{fd:Vh}{ps:List Str}{F:List U7->(U7->Prop)->Prop}{st:Vn}{x:Str}{p:Pos}(G:ay X.prog X.w X.K X.mg X.base aH k f fd ps (bo X.K F))(hr:aT j X.A)(N:Fn X.K X.mg x st f fd ps)
 (ha:PA X (e::es) (dD X.K H0 O0 u))(hk:k<=j:=by decide)(hg:Gl X x:=by exact rfl)(hdb:(x==("__debug__":Str))=false:=by decide)(he:Vc (e::es) X.env=(false,eval e X.env)::Vc es X.env:=by rfl)(hpl:(Vr pos (Vc es X.env)).any (·.1)=false:=by rfl):
 DE X H0 O0 (.Call (.Name x p) (e::es) [] pos) (gZ F u):=PE.imp (eM G (hr.mono hk) hg N ha hdb he hpl) Bn
end
end L2
namespace PySem
open Sem (wp)
open AutoSeq1 (wpAny_loadPart')
end PySem
namespace L2
open PySem PySem.Spec PyProof.Rows PySem.W PySem.Calls
structure iN (base:Vl) (mg:Str->Option U8) (c P:U9):Prop where
 cd:CodeHd base c P
 gP:Vk≠P
 bl:base.BuiltinsAt mg P
theorem KD{pos p:Pos}{v cv:U8}(l:List U8)(h:TriplesOk l)(e:codeAmong pos (l++[rawInt p.line,rawInt p.col,v])=some cv):codeAmong pos l=some cv\/cv=v:=by
 fun_induction TriplesOk l with
 | case1=>
  simp only [O4,codeAmong,rawInt] at e;split at e
  ·cases e;exact .inr rfl
  ·cases e
 | case2 a t b u x rest ih=>
  simp only [Pz,codeAmong] at e⊢;split at e
  ·rename_i hc;rw [U4 hc];exact .inl e
  ·rename_i hc;rw [U3 hc];exact ih h e
 | case3 l h1 h2=>exact h.elim
abbrev fm(q:Str):HO:= .tbl #[.str q 0]
section
variable {X:Cx} {Wy:List (U9×Obj)} {σ:St} {H:Hp} {s:Va}
theorem KH{h h':Vl}{mg:Str->Option U8}{P:U9}(b:h.BuiltinsAt mg P)(k:∀b o,h.get? b=some o->h'.get? b=some o):h'.BuiltinsAt mg P:=
 let ⟨bm,o,a1,a2,a3,a4,a5,r⟩:=b;⟨bm,o,a1,a2,a3,a4,k _ _ a5,r⟩
theorem KI{E:U8->Va->Prop}{Q:U8->Va->Prop}{c P:U9}{qual:Str}{body:Vd}{scope:Vv}{params:Wf}{pos:Pos}{clos:List (Str×U9)}(I:af X Wy σ H s)(L:iN X.base X.mg c P)(hcode:X.env.code= .ref c)
 (hP:H P=some (fm qual))(hq:X.env.qual++"<lambda>"=qual)(hcl:closureFor scope X.env=pure clos)(hdef:defaultsOf params X.env=([],[]))
 (h:∀f c' pm ctv h' tk H',af X Wy σ H' {s with heap:=h',toks:=tk}->h'.get? f=some (kla_obj "<lambda>" qual params body scope clos pm c' ctv)->s.heap.objs.size<=f->H' f=none->H' c'=some (.cod qual)->aj H H'->
  Q (.ref f) {s with heap:=h',toks:=tk}):Vf (Vg X.prog X.w) X.A (eval (.Lambda params body scope pos) X.env) Q E s:=by
 refine kla_eval hdef ?_;rw [hq];obtain⟨q,t,z,ps,eP,tr,ent⟩:=id (I.hok P _ hP);have z:some (Qg qual 0)=some (.str q t):=z;cases z;have hg:s.heap.Ns Vk X.mg:=I.ok.mod.glob.keeps I.bk;have C:=L.cd.keeps I.bk;have hb:=KH L.bl I.bk;cases hf:codeAmong pos ps.toList with
 | some cv=>
  obtain⟨c',rfl,hc'⟩:=ent pos cv hf;refine kla_makeFunctionHit hcl I.ok.glob hg hcode C eP tr hf hb λctv h' tk hk hsz=>?_;have k2:∀b o,s.heap.get? b=some o->(h'.push (kla_obj "<lambda>" qual params body scope clos ((X.mg "__name__").getD .none) c' ctv)).get? b=some o:=λb o e=>NT _ (hk b o e);exact h h'.objs.size c' _ ctv _ tk H (I.kept k2) (Ou _ rfl) hsz (I.hok.fresh hsz) hc' (aj.refl _)
 | none=>
  refine kla_makeFunction hcl I.ok.glob hg hcode C eP tr hf L.gP hb λc' ctv h' tk hx hge hlt hrec htb=>?_;have hn:H c'=none:=I.hok.fresh hge;have nP:∀b,H b=none->b≠P:=λb n e=>by rw [e,hP] at n;cases n
  have pk:∀{b o},h'.get? b=some o->(h'.push (kla_obj "<lambda>" qual params body scope clos ((X.mg "__name__").getD .none) c' ctv)).get? b=some o:=λe=>NT _ e;have sm:aj H (ao H c' (.cod qual)):=λb o e=>by rw [aA (cL e hn)];exact e
  have hlt':s.heap.objs.size<=h'.objs.size:=Ot hge (Qm hlt);refine h h'.objs.size c' _ ctv _ tk (ao H c' (.cod qual)) (I.un ⟨λb o e n _ _=>pk (hx b o (nP b n) e),λb o e n _ _=>⟨o.slots,pk (hx b o (nP b n) e)⟩,λb o e n _=>by rw [aA (Oj (Ol (N5 e) hge))];exact n,λb o e _=>?_,
   λb xs e=>sm b _ e,λb o u e=>sm b _ e,λb qs e=>⟨#[],by rw [Array.append_empty];exact sm b _ e⟩⟩ λb u e=>?_) (Ou _ rfl) hlt' (by rw [aA (RN hlt)];exact I.hok.fresh hlt') aR sm
  ·by_cases hb':b=P
   ·exact⟨_,pk (by rw [hb'];exact htb)⟩
   ·exact⟨o,pk (hx b o hb' e)⟩
  ·by_cases hbc:b=c'
   ·subst hbc;rw [aR] at e;cases e;obtain⟨c₂,oc,vs,t',e2,hoc,hd,hv⟩:=hrec;cases e2;exact⟨oc,vs,t',pk hoc,hd,hv⟩
   ·rw [aA hbc] at e;by_cases hbP:b=P
    ·subst hbP;rw [hP] at e;cases e;refine⟨qual,0,rfl,_,pk htb,?_,λp cv e=>?_⟩
     ·rw [QG];exact TriplesOk_snoc _ _ _ _ tr
     ·rw [QG] at e;rcases KD _ tr e with e | e
      ·obtain⟨c2,e1,e2⟩:=ent p cv e;exact⟨c2,e1,sm _ _ e2⟩
      ·exact⟨c',e,aR⟩
    ·refine(I.hok b u e).stay (λc2 v hc r=>pk (hx c2 v (λw=>?_) r)) (λc2 r=>sm _ _ r) (λc2 xs r=>sm _ _ r) λc2 xs r=>sm _ _ r;rcases hc with hc | hc
     ·exact hbP (hc.symm.trans w)
     ·rw [w,hP] at hc;cases hc
def gM(X:Cx)(s:Va)(H:Hp):Vl:=hideAll s.heap (aY X.stack++trk s.heap H)
theorem pF{b:U9}{o:Obj}(e:s.heap.get? b=some o)(n:H b=none)(nf:b ∉ aY X.stack):(gM X s H).get? b=some o:=
 V9 _ e λhm=>by
  rcases Oo.mp hm with h | h
  ·exact nf h
  ·have q:(H b).isSome=true:=(Oh.mp h).2;rw [n] at q;simp at q
theorem KJ{b:U9}{o:Obj}(e:(gM X s H).get? b=some o):s.heap.get? b=some o/\H b=none:=by
 have e':s.heap.get? b=some o:=of_hideAll _ e;refine⟨e',?_⟩;cases q:H b with
 | none=>rfl
 | some x=>
  have hm:b∈aY X.stack++trk s.heap H:=OH _ (Oh.mpr ⟨QC.mpr (N5 e'),by simp [q]⟩);have z:(gM X s H).get? b=none:=hideAll_none _ hm;rw [z] at e;cases e
theorem af.lamK(I:af X Wy σ H s){b:U9}{o:Obj}(e:X.base.get? b=some o):(gM X s H).get? b=some o:=
 pF (I.bs b o e).1 (I.bs b o e).2 λhb=>by have:=(I.stack.mem hb).1;rw [e] at this;cases this
theorem af.lamM(I:af X Wy σ H s):Mod X.K X.mg (gM X s H):=
 ⟨I.mod.kin.keeps λ_ _ e=>I.lamK e,I.mod.glob.keeps λ_ _ e=>I.lamK e,let ⟨mb,h1,h2⟩:=I.mod.blt;⟨mb,h1.keeps λ_ _ e=>I.lamK e,h2⟩,I.mod.nolimit.keeps λ_ _ e=>I.lamK e⟩
theorem af.env0L(I:af X Wy σ H s):gq X.prog X.w X.K X.mg (gM X s H) X.A X.stack s H:=
 ⟨I.ok.frames,I.lamM,λ_ _ e=>KJ e,Tu (hideAll_size _ _),funFrames_hide I.stack λenv he a hf=>QS _ (P7.mpr ⟨env,he,hf⟩),I.stkFree,I.hok,I.bare⟩
abbrev jW(scope:Vv)(qual:Str)(L f:U9)(c':U9)(cl:List (Str×U9)):Env:=envX qual scope L f (.ref c') cl
def gN(X:Cx)(base:Vl)(scope:Vv)(N':List Str)(cl:List (Str×U9))(qual:Str)(f c':U9)(A:Vo)(outer:List Env)(s:Va)(H:Hp)(E:XK):Cx where
 prog:=X.prog
 w:=X.w
 K:=X.K
 mg:=X.mg
 base:=base
 A:=A.deeper (jW scope qual s.heap.objs.size f c' cl)
 N:=N'
 s₀:=s
 H₀:=H
 env:=jW scope qual s.heap.objs.size f c' cl
 outer:=outer
 stack:=jW scope qual s.heap.objs.size f c' cl::outer
 ex:=[]
 calm:=true
 fn:=λ_=>false
 pn:=[]
 xe:=λe s'=>Vf (Vg X.prog X.w) (A.deeper (jW scope qual s.heap.objs.size f c' cl)) (leaving (jW scope qual s.heap.objs.size f c' cl) e) (λ_ s''=>aL X.prog X.w outer H s E e s'') (λe' s''=>aL X.prog X.w outer H s E e' s'') s'
theorem CQ{base:Vl}{scope:Vv}{N':List Str}{cl:List (Str×U9)}{qual:Str}{f c':U9}{A:Vo}{outer:List Env}{s:Va}{H:Hp}{E E':XK}(hE:∀cls d H',E' cls d H'->E cls d H'):i4 (aL X.prog X.w) (gN X base scope N' cl qual f c' A outer s H E) E':=by
 intro Wy σ H1 s1 ev s2 I h;obtain⟨e,cls,a0,B,H2,rfl,ho,hg,fl,hb,un,kb,th,q⟩:=h;have ub:Un (aY outer) [] H H1 s.heap s1.heap:=I.base;have stk:(gN X base scope N' cl qual f c' A outer s H E).stack=jW scope qual s.heap.objs.size f c' cl::outer:=rfl;show Vf (Vg X.prog X.w) _ (leaving _ (.ref e)) _ _ _;refine wpAny_leaves_onW I.ok.frames rfl fl λh2 x1 x2=>?_;have nst:∀b o,s.heap.get? b=some o->b ∉ aY outer->b ∉ aY (gN X base scope N' cl qual f c' A outer s H E).stack:=λb o eb hb hm=>by
  rcases N9.mp (I.stkSub b hm) with z | z
  ·have h1:=N5 eb;have h2:=I.ok.above;rw [<-z] at h2;exact absurd (Ol h1 h2) (Pn _)
  ·exact hb z
 have sub:∀b∈aY outer,b∈aY (gN X base scope N' cl qual f c' A outer s H E).stack:=λb hb=>by
  rw [stk];unfold aY;rw [Pr];exact OB _ hb
 have up:∀b∈aY outer,∀o,s2.heap.get? b=some o->∃sl,h2.get? b=some {o with slots:=sl}:=λb hb o eo=>by
  obtain⟨_,o',ho',hd⟩:=fl.2.2.1.mem (sub b hb);rw [eo] at ho';cases ho';exact x2 b o eo hd
 have kB:∀b o,s.heap.get? b=some o->H b=none->b ∉ aY outer->B.get? b=some o:=λb o eb n hb=>kb b o (ub.keep b o eb n hb U6) (ub.free b o eb n U6) (nst b o eb hb);have tB:∀b o,s.heap.get? b=some o->b ∉ aY outer->∃o',B.get? b=some o':=λb o eb hb=>by
  obtain⟨o',eo'⟩:=ub.there b o eb U6;exact th b o' eo' (nst b o eb hb)
 refine⟨e,cls,a0,B,H2,rfl,ho.trans I.os,hg,x1,hb,⟨λb o eb n hb' hx'=>x1.1 b o (kB b o eb n hb'),λb o eb n hb' hx'=>?_,λb o eb n hx'=>?_,λb o eb hx'=>?_,λb xs z=>un.tups b xs (ub.tups b xs z),λb o u z=>un.frzs b o u (ub.frzs b o u z),λb ps z=>?_⟩,kB,tB,hE _ _ _ q⟩
 ·obtain⟨sl,es⟩:=ub.slot b o eb n hb' hx';obtain⟨sl1,es1⟩:=un.slot b _ es (ub.free b o eb n hx') (sub b hb') U6;obtain⟨sl2,es2⟩:=up b hb' _ es1;exact⟨sl2,es2⟩
 ·obtain⟨o',eo'⟩:=ub.there b o eb hx';exact un.free b o' eo' (ub.free b o eb n hx') U6
 ·by_cases hb':b∈aY outer
  ·obtain⟨o',eo'⟩:=ub.there b o eb hx';obtain⟨o2,eo2⟩:=un.there b o' eo' U6;obtain⟨sl',es'⟩:=up b hb' _ eo2;exact⟨_,es'⟩
  ·obtain⟨o',eo'⟩:=tB b o eb hb';exact⟨o',x1.1 b o' eo'⟩
 ·obtain⟨m1,e1⟩:=ub.tbls b ps z;obtain⟨m2,e2⟩:=un.tbls b _ e1;exact⟨m1++m2,by rw [e2,RX]⟩
end
abbrev DX:=List U7->(U7->Prop)->Prop->Prop
inductive fH (K:NM) (C:U9) (F:DX) (vs:List V) (H:Hp) (Q:VK) (E:XK):Prop
 | mk (O:Ex) (ds:List U7) (Qd:U7->Prop) (R:Prop):(∀l,O l->H l≠none)->ak K H O vs ds->F ds Qd R->(∀d v H',Qd d->aj H H'->Dt K H' O v d->Q v H')->(R->∀H',aj H H'->E (.ref C) none H')->fH K C F vs H Q E
section
variable {P:Vj} {w:Vm} {K:NM} {mg:Str->Option U8} {base:Vl}
theorem cP.okDX{C:U9}{x qual:Str}{st:Vn}{f:U9}{fd:Vh}{N ps:List Str}{k:Nat}{F:DX}(Fu:cP K x qual st f fd)(S:aP N ps (ar st))(len:∀ds Q R,F ds Q R->ds.length=ps.length)
 (hbody:∀(cdv:U8) (A:Vo) (outer:List Env) (s:Va) (H:Hp) (O:Ex) (ds:List U7) (Q:U7->Prop) (R:Prop) (E:XK),aT k (A.deeper (VM qual (ar st) s.heap.objs.size f cdv))->F ds Q R->(R->∀H',aj H H'->E (.ref C) none H')->
  ∃t,bG (bh (aL P w) P w K mg base N qual (ar st) f cdv A outer s H E) (d4 st) (bA K H O t)/\t {nx:=λ_=>Q .none,rt:=Q} (eV N ds)):ay P w K mg base (aL P w) (k+1) f fd ps (fH K C F):=by
 refine Fu.okR S (λvs H Q E h=>?_) (λcdv A outer s H vs Q E hr h=>?_)
 ·obtain⟨O,ds,Qd,R,_,r,q,_⟩:=h;rw [r.length];exact len _ _ _ q
 ·obtain⟨O,ds,Qd,R,tr,r,q,k,kx⟩:=h;obtain⟨t,ht,q'⟩:=hbody cdv A outer s H O ds Qd R E hr q kx;refine⟨_,ht,O,_,_,nG tr r,q',λO' δ' σ' H' z w' S'=>?_,λd v H' z s' r'=>k d v H' z s' r',λ_ _ _ _ z=>z.elim,λ_ _ _ _ z=>z.elim⟩;exact k _ _ _ z w'.same .non
def pG(R:Prop)(u:DA):DS:=λ_ δ=>u δ λds=>ds.length<=Ve/\R
section
variable {N:List Str} {qual:Str} {scope:Vv} {f0:U9} {cd:U8} {A:Vo} {outer:List Env} {s:Va} {H:Hp} {O:Ex} {E:XK} {R:Prop} {C:U9}
theorem KL{x:Str}{bm:List U8}{B newId initId:String}{e:Vd}{es:List Vd}{np cpos pos:Pos}{u:DA}(hx:R->∀H',aj H H'->E (.ref C) none H')(hm:mg x=some (.ref C))(q:P5 K C bm newId=true)(FB:ExcBaseFacts B newId initId bm)
 (ha:PA (bh (aL P w) P w K mg base N qual scope f0 cd A outer s H E) (e::es) (dD K H O u))(hg:Gl (bh (aL P w) P w K mg base N qual scope f0 cd A outer s H E) x:=by exact rfl)(hd:(x==("__debug__":Str))=false:=by decide)
 (he:Vc (e::es) (bh (aL P w) P w K mg base N qual scope f0 cd A outer s H E).env=(false,eval e (bh (aL P w) P w K mg base N qual scope f0 cd A outer s H E).env)::Vc es (bh (aL P w) P w K mg base N qual scope f0 cd A outer s H E).env:=by rfl)
 (hpl:(Vr cpos (Vc es (bh (aL P w) P w K mg base N qual scope f0 cd A outer s H E).env)).any (·.1)=false:=by rfl):
 PS (bh (aL P w) P w K mg base N qual scope f0 cd A outer s H E) (.Raise (some (.Call (.Name x np) (e::es) [] cpos)) none pos) (bA K H O (pG R u)):=
 λWy s1 σ H1 D I ⟨O1,δ,EE,w1,q1,_,_,_,_⟩=>Ht (Ex:=λH2=>R/\aj H H2) hm q FB rfl hg ha (λWy σ H2 s2 h' e args I2 hM uu73=>by obtain⟨r,sm⟩:=uu73;exact Hs I2 hM (hx r H2 sm)) hd he hpl Wy s1 σ H1 D I
  ⟨O1,δ,_,w1,q1,λds vs H2 uu74 s2 r2=>by obtain⟨hl,r⟩:=uu74;exact⟨by rw [r2.length];exact hl,r,w1.same.trans s2⟩⟩
def lJ(F:DX)(R:Prop)(t:DA):DT:=λδ Q=>t δ λds=>F ds Q R
theorem CS{k j:Nat}{f:U9}{fd:Vh}{ps:List Str}{F:DX}{st:Vn}{x:Str}{p pos:Pos}{e:Vd}{es:List Vd}{u:DA}(hx:R->∀H',aj H H'->E (.ref C) none H')(G:ay P w K mg base (aL P w) k f fd ps (fH K C F))
 (hr:aT j (bh (aL P w) P w K mg base N qual scope f0 cd A outer s H E).A)(Nf:Fn K mg x st f fd ps)(ha:PA (bh (aL P w) P w K mg base N qual scope f0 cd A outer s H E) (e::es) (dD K H O u))(hk:k<=j:=by decide)
 (hg:Gl (bh (aL P w) P w K mg base N qual scope f0 cd A outer s H E) x:=by exact rfl)(hdb:(x==("__debug__":Str))=false:=by decide)
 (he:Vc (e::es) (bh (aL P w) P w K mg base N qual scope f0 cd A outer s H E).env=(false,eval e (bh (aL P w) P w K mg base N qual scope f0 cd A outer s H E).env)::Vc es (bh (aL P w) P w K mg base N qual scope f0 cd A outer s H E).env:=by rfl)
 (hpl:(Vr pos (Vc es (bh (aL P w) P w K mg base N qual scope f0 cd A outer s H E).env)).any (·.1)=false:=by rfl):
 DE (bh (aL P w) P w K mg base N qual scope f0 cd A outer s H E) H O (.Call (.Name x p) (e::es) [] pos) (lJ F R u):=
 PE.imp (qz (E:=λcls d H1=>cls= .ref C/\d=none/\R/\aj H H1) G (hr.mono hk) hg Nf.m Nf.kp Nf.b .nil (vC λcls d H' uu75=>by obtain⟨e,e2,r,sm⟩:=uu75;exact e▸e2▸hx r H' sm) ha hdb he hpl)
  λσ H1 Q uu76=>by obtain⟨O1,δ,Qd,w1,q,k1⟩:=uu76;exact⟨O1,δ,_,w1,q,λds vs H2 q1 s1 r1=>⟨O1,ds,Qd,R,(w1.mono s1).trk,by rw [Oi];exact r1,q1,λd v H3 q2 s2 r2=>k1 d v H3 q2 (s1.trans s2) r2,λr H3 s2=>⟨rfl,rfl,r,w1.same.trans (s1.trans s2)⟩⟩⟩
end
end
section
variable {P:Vj} {w:Vm} {K:NM} {mg:Str->Option U8} {base:Vl}
def pH(PT:U9)(q:Str)(K:NM)(F:List U7->(U7->Prop)->Prop):Sp:=λvs H Q E=>H PT=some (fm q)/\bo K F vs H Q E
theorem cP.okDL{x qual q:Str}{st:Vn}{f c PT:U9}{fd:Vh}{N ps:List Str}{k:Nat}{F:List U7->(U7->Prop)->Prop}(Fu:cP K x qual st f fd)(hco:fd.code= .ref c)(S:aP N ps (ar st))(len:∀ds Q,F ds Q->ds.length=ps.length)
 (hbody:∀(cdv:U8) (A:Vo) (outer:List Env) (s:Va) (H:Hp) (O:Ex) (ds:List U7) (Q:U7->Prop) (E:XK),cdv= .ref c->H PT=some (fm q)->aT k (A.deeper (VM qual (ar st) s.heap.objs.size f cdv))->F ds Q->
  ∃t,bG (bh aH P w K mg base N qual (ar st) f cdv A outer s H E).nox (d4 st) (bA K H O t)/\t {nx:=λ_=>Q .none,rt:=Q} (eV N ds)):ay P w K mg base aH (k+1) f fd ps (pH PT q K F):=by
 obtain⟨oc,od,kV,doc,pm,an,cdv,ct,osl,rfl,lk,hcd⟩:=Fu.ex;refine qA lk hcd S (λvs H Q E h=>?_) λA outer s H vs Q E hr hsp=>?_
 ·obtain⟨_,O,ds,Qd,_,r,q,_⟩:=h;rw [r.length];exact len _ _ q
 ·obtain⟨hP,O,ds,Qd,tr,r,q,k⟩:=hsp;obtain⟨t,ht,q'⟩:=hbody cdv A outer s H O ds Qd E hco hP hr q;refine⟨_,ht.nox,O,_,_,nG tr r,q',λO' δ' σ' H' z w' S'=>?_,λd v H' z s' r'=>k d v H' z s' r',λ_ _ _ _ z=>z.elim,λ_ _ _ _ z=>z.elim⟩;exact k _ _ _ z w'.same .non
end
section
variable {X:Cx} {Wy:List (U9×Obj)} {σ:St} {H:Hp} {s:Va}
theorem KN(I:af X Wy σ H s){O:Ex}{v:V}{d:U7}{u:U8}(h:Dt X.K H O v d)(ht:cB d=true)(r:aF v u)(y:Str)(t:Tok)(hu:X.A.units < Vx):SeqAt.RcAt X.A s (.str y t) u (N4 (.str y) d):=by
 cases h with
 | non=>cases (show u=Qz from r);simpa [N4] using SeqAt.RcAt.str_none y t
 | bl b=>cases (show u=Qb b from r);simpa [N4] using SeqAt.RcAt.str_bool y t b
 | int i=>obtain⟨k,e⟩:=(show ∃t,u=QB i t from r);cases e;simpa [N4] using SeqAt.RcAt.str_int y t i k
 | str x=>obtain⟨k,e⟩:=(show ∃t,u=Qg x t from r);cases e;simpa [N4] using TL y t x k
 | @tup a xs ds h n rr=>
  cases (show u=Of a from r);obtain⟨its,rv,p,_⟩:=I.tuple (.inl h);simpa [N4] using Ti y t (show s.heap.IsTuple a its.toArray from p) hu
 | @tupK a xs ds h rr=>
  cases (show u=Of a from r);obtain⟨its,rv,p,_⟩:=I.tuple h.of0;simpa [N4] using Ti y t (show s.heap.IsTuple a its.toArray from p) hu
 | @lst a xs ds h n rr=>
  cases (show u=Of a from r);obtain⟨its,rv,p,_⟩:=I.list (.inl h);simpa [N4] using SeqAt.RcAt.str_list y t p.isList hu
 | pack h n=>exact absurd ht (by simp [cB])
 | purse h n=>exact absurd ht (by simp [cB])
 | scr h r=>exact absurd ht (by simp [cB])
 | obj h e n r=>exact absurd ht (by simp [cB])
 | @dct0 a h n=>
  cases (show u=Of a from r);obtain⟨_,_,_,_,o,es,ep,e,c,dd,_⟩:=(show bV X.prog X.w H s.heap a (.dK []) from I.hok a _ h);simpa [N4] using SeqAt.RcAt.str_dict y t e c.1 dd hu
 | @dic a ob kv ks kp ds h e1 e2 n rr=>
  cases (show u=Of a from r);obtain⟨_,_,_,_,o,es,ep,e,c,dd,_⟩:=(show bV X.prog X.w H s.heap a (.dK kv) from(I.hok a _ h).2);simpa [N4] using SeqAt.RcAt.str_dict y t e c.1 dd hu
end
section
variable {X:Cx}
def CT(K:NM):R2:=λx y H Q=>∃O dy z,Dt K H O y dy/\cB dy=true/\x= .str z/\Q (.bl (N4 (.str z) dy)) H
theorem KO{k:Nat}(hr:aT k X.A):bT X (Vs .Eq) (CT X.K):=by
 intro Wy s σ H x y v u Q I rx ry h;obtain⟨O,dy,z,hy,ht,rfl,q⟩:=h;obtain⟨t,rfl⟩:=rx;exact KN I hy ht ry z t hr.units0 X.prog X.w X.xe _ (bN I q rfl)
def pI:U7->U7->(U7->Prop)->Prop:=λx y Q=>∃z,x= .str z/\cB y=true/\Q (.bool (N4 (.str z) y))
theorem KQ{K:NM}:cx K (CT K) pI:=λH O x y dx dy Qd R _ hx hy uu77 k=>by
 obtain⟨z,e,ht,q⟩:=uu77;subst e;cases hx.str;exact⟨_,dy,z,hy.all,ht,rfl,k _ _ H q (aj.refl _) (.bl _)⟩
end
theorem CU{X:Cx}{K':NM}(h:X.K=K'):cH X (.builtin "isinstance") (λxs H Q=>∃(e C:U9)(c:V)(cv:U8)(b:Bool),xs=[.ref e,c]/\H e=some (.ext (cD e (.ref C)))/\gB K' C/\(∀u,aF c u->u=cv)/\Rq K' (.ref C) cv=some b/\Q (.bl b) H):=by
 subst h;exact HF
theorem KR{X:Cx}{K':NM}(h:X.K=K'):cH X (.builtin "isinstance") (λxs H Q=>∃(e C q:U9)(cs:List U9)(b:Bool),xs=[.ref e,.ref q]/\H e=some (.ext (cD e (.ref C)))/\H q=some (.tup (cs.map V.ref))/\gB K' C/\RU K' (.ref C) (cs.map Of)=some b/\Q (.bl b) H):=by
 subst h;exact HH
def KS(P:U9)(q:Str)(H:Hp):Prop:=∀b,H b=none\/(∃o xs,H b=some (.frz o (.lst xs)))\/(b=P/\H b=some (fm q))
theorem KU{P:Vj}{w:Vm}{K:NM}{mg mb:Str->Option U8}{CX:d3}{k:Nat}{fa a c PT:U9}{fd:Vh}{x q:Str}{sp:Sp}{s₁:Va}{vs:List U8}{ns:List Int}
 (KX:K.In s₁.heap)(hnt:noTabs K=true)(hns:s₁.heap.Ns Vk mg)(hb:s₁.heap.Ns V1 mb)(hbb:∀x:Str,x≠"__name__"->mb x=Vq x)(hlim:s₁.heap.NoLimit)(hg:s₁.gens=#[])
 (hC:CodeHd s₁.heap c PT)(hPT:s₁.heap.get? PT=some (tabObj #[]))(hbm:∃bm ob,mg "__builtins__"=some (.ref bm)/\bm≠V1/\s₁.heap.get? bm=some ob/\ob.cls= .type "module"/\ob.dict=some V1/\ob.data= .plain)
 (ha:s₁.heap.get? a=some {cls:= .type "list",data:= .seq vs.toArray})(hi:IntsAre vs ns)(hl:ns.length<=Ve)(hr:aT k callerA)
 (F:∀base:Vl,K.In base->base.Ns Vk mg->iN base mg c PT->ay P w K mg base CX k fa fd [x] sp)(hbind:∀(s:Va) (u:U8),BindsTo s fd ⟨[u],[]⟩ [(x,u)])
 (hsp:∀H:Hp,H PT=some (fm q)->aV K H a (ns.map V.int)->sp [.ref a] H (λv _=>v= .bl true) λ_ _ _=>False)
 (hCX:∀H e s',CX [] H s₁ (λ_ _ _=>False) e s'->False):
 VT (Vg P w) callerA (.call (.ref fa) ⟨[.ref a],[]⟩) (λr s'=>r= .ok (.ret (.bool true))/\OldK s₁.heap s'.heap/\s'.os=s₁.os/\V2 s'.gens) s₁:=by
 have rv:=AU hi;have lenV:=hi.length;have naP:a≠PT:=λe=>by rw [e,hPT] at ha;cases ha
 have KP:K.lookup PT=none:=by
  cases q:K.lookup PT with
  | none=>rfl
  | some o=>
   have e:=KX PT o q;rw [hPT] at e;cases e;have h2:=PR.mp hnt (PT,tabObj #[]) (mem_of_lookupK q);exact absurd (show false=true from h2) NW
 have core:∀H:Hp,KS PT q H->H PT=some (fm q)->aV K H a (ns.map V.int)->bM P w H s₁.heap->(∀b,H b≠none->b=a\/b=PT)->(H a≠none->K.lookup a=none)->
  VT (Vg P w) callerA (.call (.ref fa) ⟨[.ref a],[]⟩) (λr s'=>r= .ok (.ret (.bool true))/\OldK s₁.heap s'.heap/\s'.os=s₁.os/\V2 s'.gens) s₁:=by
  intro H hO hHP hS hok hA hK;have base_of:∀{b:U9}{o:Obj},s₁.heap.get? b=some o->H b=none->(gR s₁.heap H).get? b=some o:=λe n=>FY e n;have noA:∀{b:U9}{o:Obj},s₁.heap.get? b=some o->(∀xs,o.data≠ .seq xs 0)->(∀xs,o.data≠ .fields xs)->H b=none:=λ{b o} e d d2=>by
   cases q:H b with
   | none=>rfl
   | some u=>
    rcases hA b (by rw [q];simp) with e' | e' <;> subst e'
    ·rw [ha] at e;cases e;exact absurd rfl (d _)
    ·rw [hPT] at e;cases e;exact absurd rfl (d2 _)
  have nsK:∀{b:U9}{m:Str->Option U8},s₁.heap.Ns b m->(gR s₁.heap H).Ns b m:=λ{b m} ⟨o,es,ep,e,d,r⟩=>⟨o,es,ep,base_of e (noA e (λ_ z=>by rw [d] at z;cases z) λ_ z=>by rw [d] at z;cases z),d,r⟩;have hKb:K.In (gR s₁.heap H):=λb o e=>base_of (KX b o e) (by
   cases q:H b with
   | none=>rfl
   | some u=>
    rcases hA b (by rw [q];simp) with e' | e' <;> subst e'
    ·rw [hK (by rw [q];simp)] at e;cases e
    ·rw [KP] at e;cases e)
  have hM:Mod K mg (gR s₁.heap H):=⟨hKb,nsK hns,⟨mb,nsK hb,hbb⟩,let ⟨mc,h1,h2⟩:=hlim;⟨mc,nsK h1,h2⟩⟩;have e0:gq P w K mg (gR s₁.heap H) callerA [] s₁ H:=⟨rfl,hM,λb o e=>FZ e,Tu (FX _ _),trivial,λb hb=>absurd (show b∈([]:List U9) from hb) U6,hok,.of_eq hg⟩;have hL:iN (gR s₁.heap H) mg c PT:=by
   refine⟨?_,λe=>?_,?_⟩
   ·obtain⟨o,vs,file,tf,flags,tg,inF,text,tt,g1,g2,r1,r2,r3,r4,r5,r6,r7,ne⟩:=hC;refine⟨o,vs,file,tf,flags,tg,inF,text,tt,base_of g1 ?_,g2,r1,r2,r3,r4,r5,r6,r7,ne⟩;cases q:H c with
    | none=>rfl
    | some u=>
     rcases hA c (by rw [q];simp) with e' | e'
     ·rw [e',ha] at g1;cases g1;exact absurd (show("list":String)="code" from by injection g2) U1
     ·exact absurd e' ne
   ·obtain⟨o,es,ep,g1,g2,_⟩:=hns;rw [e,hPT] at g1;cases g1;cases g2
   ·obtain⟨bm,ob,b1,b2,b3,b4,b5,b6⟩:=hbm;refine⟨bm,ob,b1,b2,λe=>?_,λe=>?_,base_of b3 (noA b3 (λ_ z=>by rw [b6] at z;cases z) λ_ z=>by rw [b6] at z;cases z),b4,b5,b6⟩
    ·obtain⟨o,es,ep,g1,g2,_⟩:=hns;rw [<-e,b3] at g1;cases g1;rw [b6] at g2;cases g2
    ·rw [e,hPT] at b3;cases b3;cases b4
  refine VU ((F _ hKb (nsK hns) hL).run callerA [] s₁ H ⟨[.ref a],[]⟩ [.ref a] [.ref a] _ _ hr e0 (hbind s₁ (.ref a)) (.cons rfl .nil) (hsp H hHP hS)) λr s' h=>?_;cases r with
  | error e=>exact(hCX H e s' h).elim
  | ok fl=>
   cases fl with
   | next=>exact O7 h
   | brk=>exact O7 h
   | cont=>exact O7 h
   | ret u=>
    obtain⟨v,H',os,bare,un,hok',r',q⟩:=h;have q':v= .bl true:=q;subst q';obtain rfl:u=Qb true:=r';refine⟨rfl,⟨λb o e=>?_,λb o e=>un.there b o e U6⟩,os,bare⟩;cases q:H b with
    | none=>exact .inl (un.keep b o e q (by intro z;exact absurd (show b∈([]:List U9) from z) U6) U6)
    | some u=>
     rcases hO b with z | ⟨ob,xs,z⟩ | ⟨rfl,z⟩
     ·rw [q] at z;cases z
     ·have z2:=un.frzs b ob _ z;obtain⟨e1,_⟩:=hok b _ z;obtain⟨e2,_⟩:=hok' b _ z2;rw [e] at e1;cases e1;exact .inl e2
     ·obtain⟨more,z2⟩:=un.tbls b _ z;obtain⟨_,_,_,ps,e2,_⟩:=hok' b _ z2;rw [hPT] at e;cases e;exact .inr (.inl ⟨(hC.tab hPT).isCodeTable,rfl,#[],ps,rfl,by rw [Array.empty_append];exact e2⟩)
 cases hk:K.lookup a with
 | some o=>
  have e:=KX a o hk;rw [ha] at e;cases e;refine core (λb=>if b=PT then some (fm q) else none) (λb=>?_) (U4 rfl) (.inr ⟨_,vs.toArray,_,hk,rfl,rfl,rfl,by rw [N8,lenV];exact hl,by simpa using rv⟩) (λb u z=>?_) (λb z=>?_) λz=>absurd (U3 naP) z
  ·by_cases hb:b=PT
   ·exact .inr (.inr ⟨hb,U4 hb⟩)
   ·exact .inl (U3 hb)
  ·by_cases hb:b=PT
   ·have z':=(U4 hb).symm.trans z;cases z';subst hb;exact⟨q,0,rfl,#[],hPT,trivial,λ_ _ e=>nomatch e⟩
   ·have z':=(U3 hb).symm.trans z;cases z'
  ·by_cases hb:b=PT
   ·exact .inr hb
   ·exact absurd (U3 hb) z
 | none=>
  refine core (λb=>if b=PT then some (fm q) else if b=a then some (.frz {cls:= .type "list",data:= .seq vs.toArray} (.lst (ns.map V.int))) else none) (λb=>?_) (U4 rfl) (.inl (.inr ⟨{cls:= .type "list",data:= .seq vs.toArray},(U3 naP).trans (U4 rfl)⟩)) (λb u z=>?_) (λb z=>?_) λ_=>hk
  ·by_cases hb:b=PT
   ·exact .inr (.inr ⟨hb,U4 hb⟩)
   ·by_cases hb2:b=a
    ·exact .inr (.inl ⟨_,_,(U3 hb).trans (U4 hb2)⟩)
    ·exact .inl ((U3 hb).trans (U3 hb2))
  ·by_cases hb:b=PT
   ·have z':=(U4 hb).symm.trans z;cases z';subst hb;exact⟨q,0,rfl,#[],hPT,trivial,λ_ _ e=>nomatch e⟩
   ·have z:=(U3 hb).symm.trans z;by_cases hb2:b=a
    ·have z':=(U4 hb2).symm.trans z;cases z';subst hb2;exact⟨ha,by rw [NO];exact hl,vs,_,rv,ha⟩
    ·have z':=(U3 hb2).symm.trans z;cases z'
  ·by_cases hb:b=PT
   ·exact .inr hb
   ·by_cases hb2:b=a
    ·exact .inl hb2
    ·exact absurd ((U3 hb).trans (U3 hb2)) z
theorem tabIn_of{K:NM}{x:Str}{f c P:U9}{oc o2:U8}{od d2:Option U9}{osl s2:Array (Option U8)}{fd:Vh}{vs:Array U8}(a:nsIn K Vk x=some (some (.ref f)))(b:K.lookup f=some ⟨oc,od,.func fd,osl⟩)(e:fd.code= .ref c)
 (g:K.lookup c=some ⟨o2,d2,.fields vs,s2⟩)(j:(vs[11]?:Option U8)=some (.ref P)):tabIn K x=some (c,P):=by
 unfold tabIn;simp only [a,b,e,g,j]
inductive sT (K:NM) (C Ce:U9) (F:DX) (vs:List V) (H:Hp) (Q:VK) (E:XK):Prop
 | mk (x dx:U9) (vs':List V) (H1:Hp) (O:Ex) (ds:List U7) (R:Prop):vs= .ref x::vs'->H=ao (ao H1 dx (.own x)) x (.ins C dx [])->H1 x=none->H1 dx=none->dx≠x->(∀l,O l->H1 l≠none)->ak K H1 O vs' ds->F ds (λ_=>False) R->
 (R->∀H',aj H1 H'->E (.ref Ce) none H')->sT K C Ce F vs H Q E
section
variable {P:Vj} {w:Vm} {K:NM} {mg:Str->Option U8} {base:Vl}
theorem cP.okIX{x qual:Str}{st:Vn}{f C Ce:U9}{fd:Vh}{N ps:List Str}{k:Nat}{F:DX}(Fu:cP K x qual st f fd)(S:aP N ps (ar st))(len:∀ds Q R,F ds Q R->ds.length+1=ps.length)
 (hbody:∀(cdv:U8) (A:Vo) (outer:List Env) (s:Va) (H H1:Hp) (O:Ex) (ds:List U7) (R:Prop) (E:XK) (l:U9),aT k (A.deeper (VM qual (ar st) s.heap.objs.size f cdv))->F ds (λ_=>False) R->(R->∀H',aj H1 H'->E (.ref Ce) none H')->
  ∃t,bG (bh (aL P w) P w K mg base N qual (ar st) f cdv A outer s H E) (d4 st) (bA K H1 O t)/\t {nx:=λ_=>False,rt:=λ_=>False} (oW N l C ds)):ay P w K mg base (aL P w) (k+1) f fd ps (sT K C Ce F):=by
 refine Fu.okR S (λvs H Q E h=>?_) (λcdv A outer s H vs Q E hr h=>?_)
 ·obtain⟨x,dx,vs',H1,O,ds,R,rfl,_,_,_,_,_,r,q,_⟩:=h;rw [Og,r.length];exact len _ _ _ q
 ·obtain⟨x,dx,vs',H1,O,ds,R,rfl,rfl,hx,hdx,ne,tr,r,q,kx⟩:=h;obtain⟨t,ht,q'⟩:=hbody cdv A outer s _ H1 O ds R E x hr q kx;exact⟨_,ht,_,_,_,Cw tr r hx hdx ne,q',λO' δ' σ' H' z w' S'=>z.elim,λd v H' z s' r'=>z.elim,λ_ _ _ _ z=>z.elim,λ_ _ _ _ z=>z.elim⟩
section
variable {N:List Str} {qual:Str} {scope:Vv} {f0:U9} {cd:U8} {A:Vo} {outer:List Env} {s:Va} {H H0:Hp} {O:Ex} {E:XK} {R:Prop} {C Ce:U9}
theorem KW{k j:Nat}{f:U9}{fd:Vh}{ps:List Str}{F:DX}{st:Vn}{x:Str}{p pos:Pos}{e:Vd}{es:List Vd}{u:DA}(hx:R->∀H',aj H0 H'->E (.ref C) none H')(G:ay P w K mg base (aL P w) k f fd ps (fH K C F))
 (hr:aT j (bh (aL P w) P w K mg base N qual scope f0 cd A outer s H E).A)(Nf:Fn K mg x st f fd ps)(ha:PA (bh (aL P w) P w K mg base N qual scope f0 cd A outer s H E) (e::es) (dD K H0 O u))(hk:k<=j:=by decide)
 (hg:Gl (bh (aL P w) P w K mg base N qual scope f0 cd A outer s H E) x:=by exact rfl)(hdb:(x==("__debug__":Str))=false:=by decide)
 (he:Vc (e::es) (bh (aL P w) P w K mg base N qual scope f0 cd A outer s H E).env=(false,eval e (bh (aL P w) P w K mg base N qual scope f0 cd A outer s H E).env)::Vc es (bh (aL P w) P w K mg base N qual scope f0 cd A outer s H E).env:=by rfl)
 (hpl:(Vr pos (Vc es (bh (aL P w) P w K mg base N qual scope f0 cd A outer s H E).env)).any (·.1)=false:=by rfl):
 DE (bh (aL P w) P w K mg base N qual scope f0 cd A outer s H E) H0 O (.Call (.Name x p) (e::es) [] pos) (lJ F R u):=
 PE.imp (qz (E:=λcls d H1=>cls= .ref C/\d=none/\R/\aj H0 H1) G (hr.mono hk) hg Nf.m Nf.kp Nf.b .nil (vC λcls d H' uu78=>by obtain⟨e,e2,r,sm⟩:=uu78;exact e▸e2▸hx r H' sm) ha hdb he hpl)
  λσ H1 Q uu79=>by obtain⟨O1,δ,Qd,w1,q,k1⟩:=uu79;exact⟨O1,δ,_,w1,q,λds vs H2 q1 s1 r1=>⟨O1,ds,Qd,R,(w1.mono s1).trk,by rw [Oi];exact r1,q1,λd v H3 q2 s2 r2=>k1 d v H3 q2 (s1.trans s2) r2,λr H3 s2=>⟨rfl,rfl,r,w1.same.trans (s1.trans s2)⟩⟩⟩
def pJ(F:DX)(R:Prop)(t:DA):DT:=λδ _=>t δ λds=>F ds (λ_=>False) R
theorem CV{k j:Nat}{f:U9}{fd:Vh}{ps:List Str}{F:DX}{x:Str}{p pos:Pos}{e:Vd}{es:List Vd}{u:DA}(hx:R->∀H',aj H0 H'->E (.ref Ce) none H')(M:Mk K C f)(G:ay P w K mg base (aL P w) k f fd ps (sT K C Ce F))
 (hr:aT j (bh (aL P w) P w K mg base N qual scope f0 cd A outer s H E).A)(hm:mg x=some (.ref C))(hb:dh K fd ps [])(ha:PA (bh (aL P w) P w K mg base N qual scope f0 cd A outer s H E) (e::es) (dD K H0 O u))(hk:k+1<=j:=by decide)
 (hg:Gl (bh (aL P w) P w K mg base N qual scope f0 cd A outer s H E) x:=by exact rfl)(hdb:(x==("__debug__":Str))=false:=by decide)
 (he:Vc (e::es) (bh (aL P w) P w K mg base N qual scope f0 cd A outer s H E).env=(false,eval e (bh (aL P w) P w K mg base N qual scope f0 cd A outer s H E).env)::Vc es (bh (aL P w) P w K mg base N qual scope f0 cd A outer s H E).env:=by rfl)
 (hpl:(Vr pos (Vc es (bh (aL P w) P w K mg base N qual scope f0 cd A outer s H E).env)).any (·.1)=false:=by rfl):
 DE (bh (aL P w) P w K mg base N qual scope f0 cd A outer s H E) H0 O (.Call (.Name x p) (e::es) [] pos) (pJ F R u):=
 PE.imp (vc (E:=λcls d H1=>cls= .ref Ce/\d=none/\R/\aj H0 H1) M G (hr.mono hk) hg hm hb .nil (vC λcls d H' uu80=>by obtain⟨e,e2,r,sm⟩:=uu80;exact e▸e2▸hx r H' sm) ha hdb he hpl)
  λσ H1 Q uu81=>by obtain⟨O1,δ,Qd,w1,q,k1⟩:=uu81;exact⟨O1,δ,_,w1,q,λds vs H2 q1 s1 r1 x dx hx hdx ne=>⟨x,dx,vs,H2,O1,ds,R,by rw [Oi],rfl,hx,hdx,ne,(w1.mono s1).trk,r1,q1,λr H3 s2=>⟨rfl,rfl,r,w1.same.trans (s1.trans s2)⟩⟩⟩
end
end
def pK(v:V)(fr:List Nat)(σ:St):St:=some v::fr.map λj=>(σ[j]?).join
section
variable {X:Cx} {Wy:List (U9×Obj)} {σ:St} {H:Hp} {s:Va}
def CW(X:Cx)(base:Vl)(σ:St)(scope:Vv)(N':List Str)(fr:List Nat)(cl:List (Str×U9))(qual:Str)(f c' k:Nat)(body:Vd):Sp:=λvs H2 Q E=>∃v,vs=[v]/\H2 c'=some (.cod qual)/\
 ∀(A:Vo)(outer:List Env)(s2:Va),aT k (A.deeper (jW scope qual s2.heap.objs.size f c' cl))->∃t,PE (gN X base scope N' cl qual f c' A outer s2 H2 E) body t/\t (pK v fr σ) H2 Q
theorem KY{y:Str}{f c' k:Nat}{pm ctv:U8}{qual:Str}{body:Vd}{scope:Vv}{N':List Str}{fr:List Nat}{params:Wf}(S:bj X.env.scope X.N N' 1 fr scope)(hy:N'[0]?=some y)(hyl:scope.names.lookup y=some .local)(I:af X Wy σ H s)
 (ho:s.heap.get? f=some (kla_obj "<lambda>" qual params body scope (dO X.env scope.names []) pm c' ctv))(hf:H f=none)(hfs:f ∉ aY X.stack)(hfn:∀x,X.fn x=true)
 (hco:scope.isCoroutine=false)(hgen:scope.isGenerator=false)(hcell:∀x∈scope.names,x.2≠ .cell):
 ay X.prog X.w X.K X.mg (gM X s H) (aL X.prog X.w) (k+1) f (kla_fn "<lambda>" qual params body scope (dO X.env scope.names []) pm (.ref c') ctv) [y] (CW X (gM X s H) σ scope N' fr (dO X.env scope.names []) qual f c' k body):=by
 have hcl:=qG S I;refine⟨λvs H2 Q E h=>by obtain⟨v,rfl,_⟩:=h;rfl,λA outer s2 H2 args us vs Q E hr e0 hb rv hsp=>?_⟩;obtain⟨v,rfl,hc,hbody⟩:=hsp;obtain⟨u,rfl,ru⟩:=c9 rv;have fo:=(e0.bs f _ (pF ho hf hfs)).1;obtain⟨oc,vs,t,g1,g2,g3⟩:=id (e0.hok c' _ hc);have lim:s2.heap.NoLimit:=e0.mod.nolimit.keeps λb o e=>(e0.bs b o e).1;refine kla_callFunE hr.depth fo rfl hco hgen rfl ⟨c',oc,vs,t,rfl,g1,g2,g3⟩ (hb _ _ _ _ ?_);refine wpAny_newFunctionEnv hcell (λx hx=>by have hx:x∈[(y,u)]:=hx;rw [OA.mp hx];exact hyl) (λh₁ hns hsb=>⟨lim.fresh _ hsb,?_⟩) S.kind;obtain⟨t,ht,hq⟩:=hbody A outer s2 (hr.deeper _);have hk₁:∀b o,s2.heap.get? b=some o->h₁.get? b=some o:=λb o e=>hsb.extBut b o (Oj (N5 e)) (NT _ e);have hcb:∀x c,(dO X.env scope.names []).lookup x=some c->∀u,s.heap.IsCell c u->s2.heap.IsCell c u:=λx c e u uu82=>by
  obtain⟨o,eo,d⟩:=uu82;have ex:=hcl x c e;refine⟨o,(e0.bs c o (pF eo (I.freeC x c ex) λhm=>?_)).1,d⟩;rcases N9.mp (I.stkSub c hm) with z | z
  ·exact I.cne x c ex z
  ·have h1:=I.ok.cab x c (hfn x) ex;obtain⟨_,o',ho',_⟩:=I.ok.funs.mem z;exact absurd (Ol (N5 ho') h1) (Pn _)
 have J:af (gN X (gM X s H) scope N' (dO X.env scope.names []) qual f c' A outer s2 H2 E) [] (pK v fr σ) H2 {s2 with heap:=h₁,toks:=s2.toks+[(y,u)].length}:=by
  refine⟨⟨e0.mod,S.kind,rfl,rfl,NV _,λx y c h1 h2=>I.ok.inj x y c (hcl x c h1) (hcl y c h2),λx hx=>?_,λx c h=>absurd h (by simp [gN]),λ_=>hr.hd,Te e0.frames,.inr ⟨rfl,rfl⟩,λb z=>absurd (show b∈([]:List U9) from z) U6,e0.bs,e0.bsz,λb _ _ z=>absurd (show b∈([]:List U9) from z) U6,λb z=>absurd (show b∈([]:List U9) from z) U6,e0.funs,e0.frf⟩,
   rfl,e0.bare,Un.kept hk₁,⟨_,hns,λi x v h1 h2 h3=>?_⟩,λx c e=>?_,e0.hok.fresh (NV _),λx c e=>?_,λp hp=>absurd (show p∈([]:List (U9×Obj)) from hp) U6,e0.hok.kept hk₁,?_⟩
  ·have hx:scope.names.lookup x=some .cell\/scope.names.lookup x=some .free:=hx;rcases hx with z | z
   ·exact absurd rfl (hcell _ (Ph z))
   ·exact mz _ _ (Ph z)
  ·cases i with
   | zero=>
    have h1:N'[0]?=some x:=h1;rw [hy] at h1;cases h1;cases h2;exact⟨u,ru,.inl ⟨hyl,U6⟩⟩
   | succ i=>
    have h2':(fr.map λj=>(σ[j]?).join)[i]?=some (some v):=h2;have h1':(N'.drop 1)[i]?=some x:=by rw [TF,TC];exact h1
    have hmem:x∈N'.drop 1:=Oq h1';have e2:(fr.map λj=>X.N[j]?)[i]?=some (some x):=by
     rw [S.slot,Ob,h1'];rfl
    obtain⟨j,hj,ej⟩:∃j,fr[i]?=some j/\X.N[j]?=some x:=by
     rw [Ob] at e2;cases e:fr[i]? with
     | none=>rw [e] at e2;cases e2
     | some j=>rw [e] at e2;exact⟨j,rfl,OG e2⟩
    have hv:σ[j]?=some (some v):=by
     rw [Ob,hj] at h2';have h3':(σ[j]?).join=some v:=OG h2';cases e:σ[j]? with
     | none=>rw [e] at h3';cases h3'
     | some o=>rw [e] at h3';rw [show o=some v from h3']
    obtain⟨m,hn0,hl⟩:=I.loc;have ho:=S.outer' x hmem;obtain⟨u,ru,lk⟩:=hl j x v ej hv (.inr ho);refine⟨u,ru,.inr ⟨.inr (S.frees x hmem),?_⟩⟩;rcases lk with⟨z,_⟩ | ⟨_,c,hc,hx⟩
    ·exfalso;rcases ho with ho | ho
     ·exact absurd (z.symm.trans ho) U6
     ·exact absurd (z.symm.trans ho) U6
    ·obtain⟨c2,hc2⟩:=mz (env:=X.env) scope.names [] (Ph (S.frees x hmem));have:=hcl x c2 hc2;rw [hc] at this;cases this;exact⟨c,hc2,(hcb x c hc2 _ hx).keeps hk₁⟩
  ·obtain⟨v,q⟩:=I.cell x c (hcl x c e);exact⟨v,(hcb x c e v q).keeps hk₁⟩
  ·cases q:H2 c with
   | none=>rfl
   | some u=>
    obtain⟨v,o,eo,d⟩:=I.cell x c (hcl x c e);have ex:=hcl x c e;have:=(e0.bs c o (pF eo (I.freeC x c ex) λhm=>?_)).2
    ·rw [q] at this;cases this
    ·rcases N9.mp (I.stkSub c hm) with z | z
     ·exact I.cne x c ex z
     ·have h1:=I.ok.cab x c (hfn x) ex;obtain⟨_,o',ho',_⟩:=I.ok.funs.mem z;exact absurd (Ol (N5 ho') h1) (Pn _)
  ·unfold pK;show _=N'.length;rw [Og,NO,S.len,TC]
 refine kla_codeExpr (Vu (ht [] _ (pK v fr σ) H2 Q J hq) (λv s' hl=>?_) λ_ _ y=>y);obtain⟨v',H',J',rv,q⟩:=hl;exact⟨v',H',J'.os,J'.bare,J'.base,J'.hok,rv,q⟩
def CY(X:Cx)(d:Nat)(t:TA)(C:U9)(i:Nat)(ts:TS):TS:=λD σ H=>∃(f:U9)(k:Nat)(fd:Vh)(sp:Sp)(pn:Str)(o:U8×Option U9×Array (Option U8)),σ[d]?=some (some (.ref f))/\X.base.get? f=some ⟨o.1,o.2.1,.func fd,o.2.2⟩/\aT k X.A/\
 ay X.prog X.w X.K X.mg X.base (aL X.prog X.w) k f fd [pn] sp/\dh X.K fd [pn] []/\t σ H λvs H1=>sp vs H1 (λ_ H2=>D.nx σ H2) (λcls _ H2=>cls= .ref C/\∀e,H2 e=none->
 ts {nx:=λσ' H'=>D.nx (σ'.set i none) H',rt:=D.rt} (σ.set i (some (.ref e))) (ao H2 e (.ext (cD e (.ref C)))))
theorem KZ{a:Vd}{t:TA}{C C':U9}{x c n:Str}{p cp ep np hp tp:Pos}{b₀:Vn}{suite:List Vn}{i d:Nat}{ts:TS}{bmB bmB':List U8}{newId newId':String}(ha:∀E',PA (X.wish E') [a] t)(hd:X.N[d]?=some x)(hv:fL X.env.scope x)
 (hst:X.stack=X.env::X.outer)(hfr:X.env.frame=some X.env.locals)
 (hmc:X.mg c=some (.ref C'))(hgc:Gl X c)(q:P5 X.K C bmB newId=true)(q':P5 X.K C' bmB' newId'=true)(hB:bmB'.contains (.type "BaseException")=true)
 (hin:Qw X.K C (.ref C')=some true)
 (hN:X.N.Nodup)(hi:X.N[i]?=some n)(hn:X.env.scope.names.lookup n=some .local)(hs:∀e,bG (X.inEx e) (b₀::suite) ts)
 (hdb:(x==("__debug__":Str))=false:=by decide)(hdc2:(x==("__classdict__":Str))=false:=by decide)(hdc:(c==("__debug__":Str))=false:=by decide)(he:Vc [a] X.env=(false,eval a X.env)::Vc [] X.env:=by rfl)(hsw:Vw (.Call (.Name x p) [a] [] cp) none ep.line X.env=pure false:=by rfl):
 PS X (.Try [.Expr (.Call (.Name x p) [a] [] cp) ep] [.ExceptHandler (some (.Name c np)) (some n) (b₀::suite) hp] [] [] tp) (CY X d t C i ts):=by
 intro Wy s σ H D I h;refine wpAny_Try_except ?_;generalize hEh:(λ(e:U8) (s₁:Va)=>Vf (Vg X.prog X.w) X.A (noteFrame e X.env) (λ_ s₂=>Vf (Vg X.prog X.w) X.A (setFlight e none) (λ_ s₃=>Vf (Vg X.prog X.w) X.A (handleBy e X.env [.ExceptHandler (some (.Name c np)) (some n) (b₀::suite) hp]) (SP X Wy D) X.xe s₃) X.xe s₂) X.xe s₁)=Eh;have I':af (X.wish Eh) Wy σ H s:=I.wish Eh;have out:Vf (Vg X.prog X.w) X.A (eval (.Call (.Name x p) [a] [] cp) X.env) (λ_ s₁=>∃H',af X Wy σ H' s₁/\D.nx σ H') Eh s:=by
  obtain⟨f,k,fd,sp,pn,⟨oc,od,osl⟩,ef,ho,hr,F,hb,q1⟩:=h;refine VD (aB (qf (X:=X.wish Eh) hd hv hdb hdc2 Wy s σ H (λv H'=>v=V.ref f/\H'=H) I' ⟨_,ef,rfl,rfl⟩) λu s1 ⟨x',H1,I1w,r,e1,e2⟩=>?_);subst e1;subst e2;cases r;have X0:∀h:Vl,h.get? f=some ⟨oc,od,.func fd,osl⟩->NM.In [(f,⟨oc,od,.func fd,osl⟩)] h:=λh eh a o e=>by
   rw [OC] at e;split at e
   ·rename_i hh;cases e;have:a=f:=by simpa using hh
    rw [this];exact eh
   ·cases e
  refine QI (K:=[(f,⟨oc,od,.func fd,osl⟩)]) (h₀:=s1.heap) (X0 _ (I1w.unwish.bk _ _ ho)) (by simp [Pu]) (aB (ha Eh cp Wy s1 σ H1 _ I1w q1) λus s0 ⟨vs,H0',I0w,rv,q2⟩=>⟨X0 _ (I0w.unwish.bk _ _ ho),?_⟩) he (by rfl);have I1:af X Wy σ H0' s0:=I0w.unwish;have hl:(us++[]).length=[pn].length:=by rw [Oi,<-rv.length];exact F.len _ _ _ _ q2
  have bd:=hb s0 us I1.kIn hl;rw [Oi] at bd;refine wpAny_call (VU (F.run X.A X.stack s0 H0' ⟨us,[]⟩ us vs _ _ hr I1.env0 bd rv q2) λr2 s2 hq=>?_);cases r2 with
  | ok fl=>
   cases fl with
   | ret u=>
    obtain⟨v,H2,I2,_,q2⟩:=I1.after hq;exact⟨H2,I2,q2⟩
   | next=>exact O7 hq
   | brk=>exact O7 hq
   | cont=>exact O7 hq
  | error ev=>
   obtain⟨e,cls,a0,B,H2,rfl,ho,hgn,fl,hB2,un,kb,th,rfl,hsu⟩:=hq;rw [<-hEh];have fl':TJ B (X.env::X.outer) e (.ref C) a0 s2.heap:=by rw [<-hst];exact fl
   refine wpAny_looks_onW (by rw [I.ok.frames,hst]) hfr fl' λh4 held4 sm4=>?_;refine wpAny_landsW held4 λh5 fl5 sm5=>?_;have sm25:=sm4.trans sm5;have I5:af X Wy σ H2 {s2 with heap:=h5}:=af.call' (ch:=[]) (s':={s2 with heap:=h5}) I1 ho (Bd (X:=X) un fl fl5.1 sm25 kb th) (hB2.kept fl5.1) hgn (λ_ z=>nomatch z);have I5e:=I5.inEx e;obtain⟨ob,hob,hobc⟩:=fl5.there;have O:=(vD (x:=c) (mg:=X.mg) (C:=C') I.ok.mod.kin hmc q').obj;obtain⟨tl',N',nm',qn',bs',hd',sn',sub',ab',col',dd',k0',k1',k2',k3',k5',mN',hC',_,_,T'⟩:=O;have O2:=(vD (x:=c) (mg:=λ_=>some (.ref C)) (C:=C) I.ok.mod.kin rfl q).obj;obtain⟨tl,N,nm,qn,bs,hd,sn,sub,ab,col,dd,k0,k1,k2,k3,k5,mN,hC,_,_,T⟩:=O2;refine wpAny_handleBy_cons (codeAny_handlers_test (jA I5e hgc hmc ?_ hdc)) (by intro z;cases z);have hbase':tl'.contains (.type "BaseException")=true:=by rw [T'.hasType hB]
   refine Hu (I5.bk _ _ hC) (I5.bk _ _ hC') hob hobc hbase' (Hv I.ok.mod.kin hin hC) ?_;refine codeAny_handlers_suite_as ?_;refine lands_againW fl5 λh6 fl6 sm6=>?_;have eB:B.get? e=none:=fl.2.1;have nH2:H2 e=none:=by
    cases z:H2 e with
    | none=>rfl
    | some u=>
     obtain⟨ob',z'⟩:=(hB2 e u z).there;rw [eB] at z';cases z'
   have u6:=Bd (X:=X) un fl fl6.1 (sm25.trans sm6) kb th;have n1:∀o,s0.heap.get? e=some o->False:=λo z=>by
    by_cases hbf:e∈aY X.stack
    ·obtain⟨_,o',ho',hd'⟩:=fl.2.2.1.mem hbf;obtain⟨oe,ws,hoe,_,hoed,_⟩:=fl.first;rw [hoe] at ho';cases ho';exact hd' _ hoed
    ·obtain⟨o',z'⟩:=th e o z hbf;rw [eB] at z';cases z'
   have ne2:∀b u,H2 b=some u->b≠e:=λb u z w'=>by rw [w',nH2] at z;cases z
   have un6:Un (aY X.stack) [] H0' (ao H2 e (.ext (cD e (.ref C)))) s0.heap h6:=
    ⟨u6.keep,u6.slot,λb o z nn hx=>by rw [aA (λw'=>n1 o (by rw [<-w'];exact z))];exact u6.free b o z nn hx,u6.there,
     λb xs z=>by rw [aA (ne2 b _ (u6.tups b xs z))];exact u6.tups b xs z,λb o xs z=>by rw [aA (ne2 b _ (u6.frzs b o xs z))];exact u6.frzs b o xs z,
     λb pss z=>by obtain⟨mo,z'⟩:=u6.tbls b pss z;exact⟨mo,by rw [aA (ne2 b _ z')];exact z'⟩⟩
   have ok6:bM X.prog X.w (ao H2 e (.ext (cD e (.ref C)))) h6:=λb u z=>by
    by_cases hbe:b=e
    ·subst hbe;rw [aR] at z;cases z;obtain⟨o6,ho6,hc6⟩:=fl6.there;exact⟨⟨o6,ho6,hc6⟩,⟨o6,ho6⟩,λh1 h2 uu85 kk=>by obtain⟨o,z1,z2⟩:=uu85;exact⟨o,kk o z1,z2⟩⟩
    ·rw [aA hbe] at z;exact(hB2 b u z).stay (λcc v _ z'=>fl6.1 cc v z') (λcc z'=>by rw [aA (ne2 cc _ z')];exact z') (λcc xs z'=>by rw [aA (ne2 cc _ z')];exact z') λcc xs z'=>by rw [aA (ne2 cc _ z')];exact z'
   have I6:af X Wy σ (ao H2 e (.ext (cD e (.ref C)))) {s2 with heap:=h6}:=af.call' (ch:=[]) (s':={s2 with heap:=h6}) I1 ho un6 ok6 hgn (λ_ z=>nomatch z);refine j9 (X:=X.inEx e) (I6.inEx e) hN hi (.inl hn) (v:= .ref e) rfl (λs7 I7=>?_) (.inr hn);refine Vu (hs e Wy s7 _ _ _ I7 (hsu e nH2)) (λf s8 q8=>?_) λ_ _ z=>z.elim;cases f with
   | next=>
    obtain⟨σ8,H8,J8,q8⟩:=q8;exact Bc (J8.outEx I.ok.hd) hN hi hn λs9 J9=>⟨σ8.set i none,H8,J9,q8⟩
   | ret v=>
    obtain⟨v8,σ8,H8,J8,r8,q8⟩:=q8;exact Bc (J8.outEx I.ok.hd) hN hi hn λs9 J9=>⟨v8,σ8.set i none,H8,J9,r8,q8⟩
   | brk=>obtain⟨_,_,_,z⟩:=q8;exact z.elim
   | cont=>obtain⟨_,_,_,z⟩:=q8;exact z.elim
 refine Wt (wpAny_Expr_any (aB out λv s1 ⟨H',I1,q1⟩=>?_) I.quiet hsw);exact VP (VP ⟨σ,H',I1,q1⟩)
theorem CZ{E:U8->Va->Prop}{Q:U8->Va->Prop}{i:Nat}{x:Str}{pos:Pos}{v:V}(I:af X Wy σ H s)(hN:X.N[i]?=some x)(hv:fL X.env.scope x)(e:σ[i]?=some (some v))(h:∀u,aF v u->Q u s)
 (hd:(x==("__debug__":Str))=false:=by decide)(hcd:(x==("__classdict__":Str))=false:=by decide):Vf (Vg X.prog X.w) X.A (eval (.Name x pos) X.env) Q E s:=by
 obtain⟨m,hn,hl⟩:=I.loc;obtain⟨u,r,l⟩:=hl i x v hN e hv;rcases l with⟨hk,hm⟩ | ⟨hk,c,hc,hcell⟩
 ·exact Wi (wpAny_loadName_local I.ok.kind hk hn hm (h u r)) hd
 ·rcases hk with hk | hk
  ·exact Wi (wpAny_loadName_cell I.ok.kind hk hc hcell (h u r)) hd
  ·exact Wi (wpAny_loadName_free I.ok.kind hk hc hcell (h u r) hcd) hd
def K0(X:Cx)(CX:d3)(i kg:Nat)(E:XK)(t:TA):TE:=λσ H Q=>∃(f:U9)(fd:Vh)(ps:List Str)(sp:Sp),σ[i]?=some (some (.ref f))/\ay X.prog X.w X.K X.mg X.base CX kg f fd ps sp/\Pu X.K (.ref f)=true/\dh X.K fd ps []/\kq sp [] E t σ H Q
theorem K1{CX:d3}{kg i:Nat}{E:XK}{x:Str}{p pos:Pos}{e:Vd}{es:List Vd}{t:TA}(hr:aT kg X.A)(hN:X.N[i]?=some x)(hv:fL X.env.scope x)(hx:i4 CX X E)
 (ha:PA X (e::es) t)(hd:(x==("__debug__":Str))=false:=by decide)(hcd:(x==("__classdict__":Str))=false:=by decide)(he:Vc (e::es) X.env=(false,eval e X.env)::Vc es X.env:=by rfl)(hpl:(Vr pos (Vc es X.env)).any (·.1)=false:=by rfl):
 PE X (.Call (.Name x p) (e::es) [] pos) (K0 X CX i kg E t):=by
 intro Wy s σ H Q I ⟨f,fd,ps,sp,ef,F,hk,hb,h⟩;refine VD (CZ I hN hv ef (λu r=>?_) hd hcd);obtain rfl:u=Of f:=r;refine QI (h₀:=X.base) I.ok.mod.kin hk (aB (ha pos Wy s σ H _ I h) λus s1 ⟨vs,H1,I1,r,q⟩=>⟨I1.kIn,?_⟩) he hpl;exact Ay F hr hb .nil hx I1 r q
def pL(X:Cx)(P:U9)(qual:Str)(scope:Vv)(N':List Str)(fr:List Nat)(body:Vd)(k j:Nat)(y:Str)(lI:Vl->Sp):TE:=λσ H Q=>H P=some (fm qual)/\∃v,σ[j]?=some (some v)/\∀(base':Vl)(f c':U9)(fd:Vh)(o:U8×Option U9×Array (Option U8))(cl:List (Str×U9))(H':Hp),
 aj H H'->H' c'=some (.cod qual)->base'.get? f=some ⟨o.1,o.2.1,.func fd,o.2.2⟩->ay X.prog X.w X.K X.mg base' (aL X.prog X.w) (k+1) f fd [y] (CW X base' σ scope N' fr cl qual f c' k body)->dh X.K fd [y] []->lI base' [.ref f,v] H' Q E0
theorem C0{kR k j:Nat}{fR c P:U9}{fdR:Vh}{psR:List Str}{x y z:Str}{lI:Vl->Sp}{qual:Str}{scope:Vv}{N':List Str}{fr:List Nat}{params:Wf}{body:Vd}{p zp lpos pos:Pos}(G:∀base':Vl,ay X.prog X.w X.K X.mg base' aH kR fR fdR psR (lI base'))(hr:aT kR X.A)
 (hg:Gl X x)(hm:X.mg x=some (.ref fR))(hk:Pu X.K (.ref fR)=true)(hb:dh X.K fdR psR [])(L:iN X.base X.mg c P)(hcode:X.env.code= .ref c)(hq:X.env.qual++"<lambda>"=qual)(S:bj X.env.scope X.N N' 1 fr scope)(hy:N'[0]?=some y)(hyl:scope.names.lookup y=some .local)(hfn:∀x,X.fn x=true)
 (hz:X.N[j]?=some z)(hzv:fL X.env.scope z)
 (hco:scope.isCoroutine=false)(hgen:scope.isGenerator=false)(hcell:∀x∈scope.names,x.2≠ .cell)(hdef:defaultsOf params X.env=([],[]))(hbp:∀(pm cv ctv:U8) (cl:List (Str×U9)) (u:U8),Wk (kla_fn "<lambda>" qual params body scope cl pm cv ctv) ⟨[u],[]⟩=pure [(y,u)])
 (hdb:(x==("__debug__":Str))=false:=by decide)(hdz:(z==("__debug__":Str))=false:=by decide)(hcz:(z==("__classdict__":Str))=false:=by decide)(he:Vc [.Lambda params body scope lpos,.Name z zp] X.env=(false,eval (.Lambda params body scope lpos) X.env)::(false,eval (.Name z zp) X.env)::Vc [] X.env:=by rfl)(hpl:(Vr pos ((false,eval (.Name z zp) X.env)::Vc [] X.env)).any (·.1)=false:=by rfl):
 PE X (.Call (.Name x p) [.Lambda params body scope lpos,.Name z zp] [] pos) (pL X P qual scope N' fr body k j y lI):=by
 intro Wy s σ H Q I ⟨hP,v,ev,h⟩;refine VD (jA I hg hm ?_ hdb);refine QI (h₀:=X.base) I.ok.mod.kin hk ?_ he hpl;rw [he];show Vf _ _ (spliced ((false,eval (.Lambda params body scope lpos) X.env)::(false,eval (.Name z zp) X.env)::Vr pos (Vc [] X.env))) _ _ s;refine Rc (KI I L hcode hP hq (vj λy hy e=>I.ok.has y.1 (S.outer y hy e)) hdef λf c' pm ctv h' tk H' I1 ho hsz hf hc' sm=>?_);refine Rc (CZ I1 hz hzv ev (λu ru=>?_) hdz hcz);refine Sb ⟨I1.kIn,?_⟩;have hfs:f ∉ aY X.stack:=λhb'=>by
  obtain⟨_,o,ho',_⟩:=I.stack.mem hb';exact absurd (Ol (N5 ho') hsz) (Pn _)
 have h2:=h (gM X {s with heap:=h',toks:=tk} H') f c' _ (_,_,_) _ H' sm hc' (pF ho hf hfs) (KY (k:=k) S hy hyl I1 ho hf hfs hfn hco hgen hcell) (λs2 us _ hl=>by
  cases us with
  | nil=>simp at hl
  | cons a l=>
   cases l with
   | nil=>exact .of_eq (hbp _ _ _ _ _)
   | cons b l=>simp at hl)
 have hl:[Of f,u].length=psR.length:=(G (gM X {s with heap:=h',toks:=tk} H')).len _ _ _ _ h2;refine wpAny_call (VU ((G _).run X.A X.stack _ H' ⟨[.ref f,u],[]⟩ [.ref f,u] [.ref f,v] Q E0 hr I1.env0L (by have:=hb _ [.ref f,u] I1.kIn (by rw [Oi];exact hl);rw [Oi] at this;exact this) (.cons rfl (.cons ru .nil)) h2) λr s' hq=>?_);cases r with
 | error e=>exact hq.elim
 | ok fl=>
  cases fl with
  | ret u=>exact I1.after hq
  | next=>exact O7 hq
  | brk=>exact O7 hq
  | cont=>exact O7 hq
end
def jX(P:Vj)(w:Vm)(K:NM)(mg:Str->Option U8)(C:U9)(k0:Nat)(base:Vl):Sp:=λvs H Q _=>∃(f k:Nat)(fd:Vh)(sp:Sp)(o:U8×Option U9×Array (Option U8))(y:Str)(v:V),vs=[.ref f,v]/\base.get? f=some ⟨o.1,o.2.1,.func fd,o.2.2⟩/\k<=k0/\
 ay P w K mg base (aL P w) k f fd [y] sp/\dh K fd [y] []/\∀(Qn:VK)(En:XK),(∀d H2,(∀H3,aj H2 H3->Q (.bl true) H3)->En (.ref C) d H2)->sp [v] H Qn En
theorem Wd.loose{K:NM}{H0 H:Hp}{O0 O:Ex}{σ:St}{δ:Dl}(w:Wd K H0 O0 H O σ δ)(i:Nat)(x:Option V):Wd K H0 O0 H O (σ.set i x) (δ.set i none):=by
 have ne:∀{j:Nat}{y:Sl},(δ.set i none)[j]?=some (some y)->j≠i:=λ{j y} q z=>by
  subst z;rw [T5] at q;simp at q
 refine⟨w.same,w.sub,w.new,w.trk,by simp [w.len],λj y q=>?_,λj k y z l' e1 y1 e2 z2 e3 e4=>?_⟩
 ·by_cases hj:j=i
  ·subst hj;cases y with
   | none=>exact O8
   | some y=>exact absurd rfl (ne q)
  ·rw [Oc (Ne.symm hj)] at q⊢;exact w.sl j y q
 ·have n1:=ne e1;have n2:=ne e2;rw [Oc (Ne.symm n1)] at e1 e3;rw [Oc (Ne.symm n2)] at e2 e4;exact w.dis j k _ _ l' e1 y1 e2 z2 e3 e4
theorem Wd.forget{K:NM}{H0 H:Hp}{O0 O:Ex}{σ:St}{δ:Dl}(w:Wd K H0 O0 H O σ δ)(i:Nat):Wd K H0 O0 H O σ (δ.set i none):=by
 have ne:∀{j:Nat}{y:Sl},(δ.set i none)[j]?=some (some y)->j≠i:=λ{j y} q z=>by
  subst z;rw [T5] at q;simp at q
 refine⟨w.same,w.sub,w.new,w.trk,by simp [w.len],λj y q=>?_,λj k y z l' e1 y1 e2 z2 e3 e4=>?_⟩
 ·by_cases hj:j=i
  ·subst hj;cases y with
   | none=>exact O8
   | some y=>exact absurd rfl (ne q)
  ·rw [Oc (Ne.symm hj)] at q;exact w.sl j y q
 ·have n1:=ne e1;have n2:=ne e2;rw [Oc (Ne.symm n1)] at e1;rw [Oc (Ne.symm n2)] at e2;exact w.dis j k _ _ l' e1 y1 e2 z2 e3 e4
section
variable {X:Cx} {H0:Hp} {O0:Ex}
def js(d:U7)(fr:List Nat)(δ:Dl):Dl:=some (.v d)::fr.map λk=>(δ[k]?).join
theorem Wd.lam{K:NM}{H:Hp}{O:Ex}{σ:St}{δ:Dl}(w:Wd K H0 O0 H O σ δ){fr:List Nat}(hf:fr.Nodup){v:V}{d:U7}(r:Dt K H O v d):Wd K H0 O0 H O (pK v fr σ) (js d fr δ):=
 (w.comp (k:=1) hf).set (i:=0) r
def C1(F:DX)(fr:List Nat)(j:Nat)(u:DA):DT:=λδ Q=>∃d,δ[j]?=some (some (.v d))/\u (js d fr δ) (λds=>F ds (λ_=>False) True)/\Q (.bool true)
theorem K2{C c PT:U9}{kR k0 kg j:Nat}{fR fg:U9}{fdR fdg:Vh}{psR:List Str}{x xg y z qual:Str}{psg:List Str}{stR stg:Vn}{F:DX}{scope:Vv}{N':List Str}{fr:List Nat}{params:Wf}{a:Vd}{as:List Vd}{p zp gp gpos lpos pos:Pos}{u:DA}
 (G:∀base':Vl,ay X.prog X.w X.K X.mg base' aH kR fR fdR psR (jX X.prog X.w X.K X.mg C k0 base'))(Gg:∀base':Vl,ay X.prog X.w X.K X.mg base' (aL X.prog X.w) kg fg fdg psg (fH X.K C F))
 (hr:aT kR X.A)(NR:Fn X.K X.mg x stR fR fdR psR)(Ng:Fn X.K X.mg xg stg fg fdg psg)(hP0:H0 PT=some (fm qual))(L:iN X.base X.mg c PT)(hcode:X.env.code= .ref c)(hq:X.env.qual++"<lambda>"=qual)
 (S:bj X.env.scope X.N N' 1 fr scope)(hfr:fr.Nodup)(hfn:∀x,X.fn x=true)
 (ha:∀base' cl f c' A outer s2 H2 E,PA (gN X base' scope N' cl qual f c' A outer s2 H2 E) (a::as) (dD X.K H0 O0 u))(hy:N'[0]?=some y:=by rfl)(hyl:scope.names.lookup y=some .local:=by rfl)(hz:X.N[j]?=some z:=by rfl)(hzv:fL X.env.scope z:=by first | exact .inl rfl | exact .inr (.inl rfl))(hk:kg+1<=k0:=by decide)
 (hg:Gl X x:=by exact rfl)(hgl:∀base' cl f c' A outer s2 H2 E,Gl (gN X base' scope N' cl qual f c' A outer s2 H2 E) xg:=by intros;exact rfl)
 (hco:scope.isCoroutine=false:=by rfl)(hgen:scope.isGenerator=false:=by rfl)(hcell:∀x∈scope.names,x.2≠ .cell:=by decide+kernel)(hdef:defaultsOf params X.env=([],[]):=by rfl)
 (hbp:∀(pm cv ctv:U8) (cl:List (Str×U9)) (u:U8),Wk (kla_fn "<lambda>" qual params (.Call (.Name xg gp) (a::as) [] gpos) scope cl pm cv ctv) ⟨[u],[]⟩=pure [(y,u)]:=by intros;rfl)
 (hdb:(x==("__debug__":Str))=false:=by decide)(hdz:(z==("__debug__":Str))=false:=by decide)(hcz:(z==("__classdict__":Str))=false:=by decide)(hdg:(xg==("__debug__":Str))=false:=by decide)
 (he:Vc [.Lambda params (.Call (.Name xg gp) (a::as) [] gpos) scope lpos,.Name z zp] X.env=(false,eval (.Lambda params (.Call (.Name xg gp) (a::as) [] gpos) scope lpos) X.env)::(false,eval (.Name z zp) X.env)::Vc [] X.env:=by rfl)(hpl:(Vr pos ((false,eval (.Name z zp) X.env)::Vc [] X.env)).any (·.1)=false:=by rfl)
 (heg:∀env:Env,Vc (a::as) env=(false,eval a env)::Vc as env:=by intro;rfl)(hplg:∀env:Env,(Vr gpos (Vc as env)).any (·.1)=false:=by intro;rfl):
 DE X H0 O0 (.Call (.Name x p) [.Lambda params (.Call (.Name xg gp) (a::as) [] gpos) scope lpos,.Name z zp] [] pos) (C1 F fr j u):=
 PE.imp (C0 (k:=kg) G hr hg NR.m NR.F.kp NR.b L hcode hq S hy hyl hfn hz hzv hco hgen hcell hdef hbp hdb hdz hcz he hpl) λσ H Q uu88=>by
  obtain⟨O,δ,Qd,w,⟨d,ed,q,qt⟩,kk⟩:=uu88;obtain⟨v,ev,rv⟩:=w.val ed;exact⟨w.same _ _ hP0,v,ev,λbase' f c' fd o cl H' sm hc' hbf Ff hb'=>⟨f,kg+1,fd,_,o,y,v,rfl,hbf,hk,Ff,hb',λQn En kE=>⟨v,rfl,hc',λA outer s2 hr2=>
   ⟨_,qz (E:=λcls _ H4=>cls= .ref C/\aj H' H4) (Gg base') hr2 (hgl _ _ _ _ _ _ _ _ _) Ng.m Ng.F.kp Ng.b .nil (CQ λcls d H4 uu89=>by obtain⟨e,s4⟩:=uu89;exact e▸kE d H4 λH5 s5=>kk (.bool true) (.bl true) H5 qt (sm.trans (s4.trans s5)) (.bl true)) (ha _ _ _ _ _ _ _ _ _) hdg (heg _) (hplg _),
    O,js d fr δ,_,(w.mono sm).lam hfr (rv.mono sm),q,λds vs H3 q1 s1 r1=>⟨O,ds,_,True,((w.mono sm).mono s1).trk,by rw [Oi];exact r1,q1,λd v H4 q2 _ _=>q2.elim,λ_ H4 s2=>⟨rfl,s1.trans s2⟩⟩⟩⟩⟩⟩
def C2(F1 F2:DX)(ia:Nat)(fr:List Nat)(j:Nat)(u:DA):DS:=λE δ=>ia < δ.length/\∃d,δ[j]?=some (some (.v d))/\u (js d fr (δ.set ia none)) (λds=>F1 ds (λ_=>False) True)/\u (js d fr (δ.set ia none)) (λds=>F2 ds (λ_=>False) True)/\E.nx (δ.set ia none)
theorem K3{C c PT:U9}{kR k0 kg j ia m:Nat}{fR f1 f2:U9}{fdR fd1 fX:Vh}{psR ps1 ps2:List Str}{x x1 x2 xa y z qual:Str}{stR st1' st2:Vn}{F1 F2:DX}{scope:Vv}{N':List Str}{fr:List Nat}{params:Wf}{a:Vd}{as:List Vd}{bp:Nat}{p p1 p2 pa lp up ip rp bp2 fp zp gp gpos lpos pos:Pos}{u:DA}
 (G:∀base':Vl,ay X.prog X.w X.K X.mg base' aH kR fR fdR psR (jX X.prog X.w X.K X.mg C k0 base'))(Gg1:∀base':Vl,ay X.prog X.w X.K X.mg base' (aL X.prog X.w) kg f1 fd1 ps1 (fH X.K C F1))(Gg2:∀base':Vl,ay X.prog X.w X.K X.mg base' (aL X.prog X.w) kg f2 fX ps2 (fH X.K C F2))
 (hr:aT kR X.A)(NR:Fn X.K X.mg x stR fR fdR psR)(N1:Fn X.K X.mg x1 st1' f1 fd1 ps1)(N2:Fn X.K X.mg x2 st2 f2 fX ps2)(hP0:H0 PT=some (fm qual))(L:iN X.base X.mg c PT)(hcode:X.env.code= .ref c)(hq:X.env.qual++"<lambda>"=qual)
 (S:bj X.env.scope X.N N' 1 fr scope)(hfr:fr.Nodup)(hfn:∀x,X.fn x=true)(hp:VQ (Vg X.prog X.w) X.A X.env X.xe)(hc:X.calm=true)(nd:X.N.Nodup)(hi:X.N[ia]?=some xa)(hx:gc X.env.scope xa)(hne:j≠ia)
 (ha:∀base' cl f c' A outer s2 H2 E,PA (gN X base' scope N' cl qual f c' A outer s2 H2 E) (a::as) (dD X.K H0 O0 u))(hm1:fr[m]?=some ia)(hm2:N'[m+1]?=some xa)(hva:fL scope xa:=by exact .inr (.inr rfl))(hy:N'[0]?=some y:=by rfl)(hyl:scope.names.lookup y=some .local:=by rfl)(hz:X.N[j]?=some z:=by rfl)(hzv:fL X.env.scope z:=by first | exact .inl rfl | exact .inr (.inl rfl))(hk:kg+1<=k0:=by decide)
 (hg:Gl X x:=by exact rfl)(hg1:Gl X x1:=by exact rfl)(hg2:Gl X x2:=by exact rfl)
 (hco:scope.isCoroutine=false:=by rfl)(hgen:scope.isGenerator=false:=by rfl)(hcell:∀x∈scope.names,x.2≠ .cell:=by decide+kernel)(hdef:defaultsOf params X.env=([],[]):=by rfl)
 (hbp:∀(pm cv ctv:U8) (cl:List (Str×U9)) (u:U8),Wk (kla_fn "<lambda>" qual params (.Call (.Name xa gp) (a::as) [] gpos) scope cl pm cv ctv) ⟨[u],[]⟩=pure [(y,u)]:=by intros;rfl)
 (hdb:(x==("__debug__":Str))=false:=by decide)(hdz:(z==("__debug__":Str))=false:=by decide)(hcz:(z==("__classdict__":Str))=false:=by decide)(hda:(xa==("__debug__":Str))=false:=by decide)(hca:(xa==("__classdict__":Str))=false:=by decide)(hd1:(x1==("__debug__":Str))=false:=by decide)(hd2:(x2==("__debug__":Str))=false:=by decide)
 (he:Vc [.Lambda params (.Call (.Name xa gp) (a::as) [] gpos) scope lpos,.Name z zp] X.env=(false,eval (.Lambda params (.Call (.Name xa gp) (a::as) [] gpos) scope lpos) X.env)::(false,eval (.Name z zp) X.env)::Vc [] X.env:=by rfl)(hpl:(Vr pos ((false,eval (.Name z zp) X.env)::Vc [] X.env)).any (·.1)=false:=by rfl)
 (heg:∀env:Env,Vc (a::as) env=(false,eval a env)::Vc as env:=by intro;rfl)(hplg:∀env:Env,(Vr gpos (Vc as env)).any (·.1)=false:=by intro;rfl):
 PS X (.For (.Name xa pa) (.List [.Name x1 p1,.Name x2 p2] lp) [.If (.UnaryOp .Not (.Call (.Name x p) [.Lambda params (.Call (.Name xa gp) (a::as) [] gpos) scope lpos,.Name z zp] [] pos) up) [.Return (some (.Constant (.bool false) bp bp2)) rp] [] ip] [] fp) (bA X.K H0 O0 (C2 F1 F2 ia fr j u)):=
 (jB hp hc (mm (mv (aO (dM (v:= .ref f1) hg1 N1.m rfl hd1) (aO (dM (v:= .ref f2) hg2 N2.m rfl hd2) bU)))) (aS (i:=ia) nd hi hx (.inl (hfn _)))
  (cO (iq (y9 (qh (C0 (k:=kg) G hr hg NR.m NR.F.kp NR.b L hcode hq S hy hyl hfn hz hzv hco hgen hcell hdef hbp hdb hdz hcz he hpl))) (cO (dN uh)) ik))).imp λD σ H uu90=>by
  obtain⟨O,δ,E,w,⟨il,d,ed,q1,q2,qn⟩,k1,k2,k3,k4⟩:=uu90;refine⟨by show 2<=16777216;decide,λl hl=>⟨l,rfl,⟨_,.inl (.inl aR)⟩,?_⟩⟩;have sl:aj H (ao H l (.lst [.ref f1,.ref f2])):=λb o e=>by rw [aA (cL e hl)];exact e
  have SP:cE (ki X.K l) (kJ (ao H l (.lst [.ref f1,.ref f2])) l) [.ref f1,.ref f2]:=cE.list (.inl (.inl aR));have il':ia < σ.length:=by rw [w.len];exact il
  refine⟨λi m σ' H'=>m=2 - i/\i<=2/\Wd X.K H0 O0 H' O σ' (δ.set ia none)/\aj (ao H l (.lst [.ref f1,.ref f2])) H'/\σ'.length=σ.length/\σ'[j]?=σ[j]?,⟨2,rfl,U1,(w.mono sl).forget ia,aj.refl _,rfl,rfl⟩,?_⟩;rintro i m σ1 H1 ⟨rfl,h2,w1,s1,l1,j1⟩;have kp:kJ (ao H l (.lst [.ref f1,.ref f2])) l H1:=λo e=>s1 _ _ e;by_cases hlt:i < 2
  ·refine .inr ⟨SP.go i H1 kp hlt,λσ' H'=>Wd X.K H0 O0 H' O σ' (δ.set ia none)/\aj (ao H l (.lst [.ref f1,.ref f2])) H'/\σ'.length=σ.length/\σ'[j]?=σ[j]?,λσ' H' uu91=>by obtain⟨a1,a2,a3,a4⟩:=uu91;exact⟨2 - (i+1),U2,rfl,U2,a1,a2,a3,a4⟩,λx' H' yy=>?_⟩;obtain⟨eH,ex⟩:=SP.yl i H1 x' H' kp hlt yy;subst eH;have ed':(δ.set ia none)[j]?=some (some (.v d)):=by rw [Oc (Ne.symm hne)];exact ed
   have w2:Wd X.K H0 O0 H' O (σ1.set ia (some x')) (δ.set ia none):=by
    have:=w1.loose ia (some x')
    rwa [UK] at this
   obtain⟨v,ev,rv⟩:=w2.val ed';have key:∀(fg:U9)(fdg:Vh)(psg:List Str)(F:DX),x'= .ref fg->(∀base':Vl,ay X.prog X.w X.K X.mg base' (aL X.prog X.w) kg fg fdg psg (fH X.K C F))->Pu X.K (.ref fg)=true->dh X.K fdg psg []->u (js d fr (δ.set ia none)) (λds=>F ds (λ_=>False) True)->
    pL X PT qual scope N' fr (.Call (.Name xa gp) (a::as) [] gpos) kg j y (jX X.prog X.w X.K X.mg C k0) (σ1.set ia (some x')) H' (λv H2=>v= .bl true/\aj H' H2):=λfg fdg psg F ef Gg kpg bg q=>by
    subst ef;exact⟨w2.same _ _ hP0,v,ev,λbase' f c' fd o cl H2 sm hc' hbf Ff hb'=>⟨f,kg+1,fd,_,o,y,v,rfl,hbf,hk,Ff,hb',λQn En kE=>⟨v,rfl,hc',λA outer s2 hr2=>
     ⟨_,K1 (X:=gN X base' scope N' cl qual f c' A outer s2 H2 En) (CX:=aL X.prog X.w) (kg:=kg) (i:=m+1) (E:=λcls _ H4=>cls= .ref C/\aj H2 H4) hr2 hm2 hva (CQ λcls d H4 uu92=>by obtain⟨e,s4⟩:=uu92;exact e▸kE d H4 λH5 s5=>⟨rfl,sm.trans (s4.trans s5)⟩) (ha _ _ _ _ _ _ _ _ _) hda hca (heg _) (hplg _),
      fg,fdg,psg,_,(by
       show(fr.map λk=>(((σ1.set ia (some (.ref fg)))[k]?).join))[m]?=_;rw [Ob,hm1];show some (((σ1.set ia (some (.ref fg)))[ia]?).join)=_;rw [Ov (by rw [l1];exact il')];rfl),Gg base',kpg,bg,O,js d fr (δ.set ia none),_,(w2.mono sm).lam hfr (rv.mono sm),q,λds vs H3 q1 s1 r1=>⟨O,ds,_,True,((w2.mono sm).mono s1).trk,by rw [Oi];exact r1,q1,λd v H4 q2 _ _=>q2.elim,λ_ H4 s2=>⟨rfl,s1.trans s2⟩⟩⟩⟩⟩⟩
   have done:pL X PT qual scope N' fr (.Call (.Name xa gp) (a::as) [] gpos) kg j y (jX X.prog X.w X.K X.mg C k0) (σ1.set ia (some x')) H' (λv H2=>v= .bl true/\aj H' H2):=by
    have:i=0\/i=1:=U2
    rcases this with e | e <;> subst e <;> cases ex
    ·exact key f1 fd1 ps1 F1 rfl Gg1 N1.F.kp N1.b q1
    ·exact key f2 fX ps2 F2 rfl Gg2 N2.F.kp N2.b q2
   have mono:∀{σ:St}{H:Hp}{Q Q':VK},(∀v H,Q v H->Q' v H)->pL X PT qual scope N' fr (.Call (.Name xa gp) (a::as) [] gpos) kg j y (jX X.prog X.w X.K X.mg C k0) σ H Q->pL X PT qual scope N' fr (.Call (.Name xa gp) (a::as) [] gpos) kg j y (jX X.prog X.w X.K X.mg C k0) σ H Q':=λhQ uu93=>by obtain⟨b1,v,b2,b3⟩:=uu93;exact⟨b1,v,b2,λbase' f c' fd o cl H' sm hc' hbf Ff hb'=>by
    obtain⟨f2,k,fX,sp,o2,y2,v2,c1,c2,c3,c4,c5,c6⟩:=b3 base' f c' fd o cl H' sm hc' hbf Ff hb';exact⟨f2,k,fX,sp,o2,y2,v2,c1,c2,c3,c4,c5,λQn En hE=>c6 Qn En λd H2 hh=>hE d H2 λH3 s3=>hQ _ _ (hh H3 s3)⟩⟩
   refine mono (λv H2 ⟨e,s2⟩=>?_) done;subst e;refine⟨true,rfl,?_⟩;exact⟨w2.mono s2,s1.trans s2,by rw [Uk];exact l1,by rw [Oc (Ne.symm hne)];exact j1⟩
  ·obtain rfl:i=2:=U2
   exact .inl ⟨SP.st 2 H1 kp (NV _),k1 O _ σ1 H1 qn w1 (aX.same (sl.trans s1))⟩
end
theorem cP.okDP{P:Vj}{w:Vm}{K:NM}{mg:Str->Option U8}{base:Vl}{x qual q:Str}{st:Vn}{f PT:U9}{fd:Vh}{N ps:List Str}{k:Nat}{F:List U7->(U7->Prop)->Prop}(Fu:cP K x qual st f fd)(S:aP N ps (ar st))(len:∀ds Q,F ds Q->ds.length=ps.length)
 (hbody:∀(cdv:U8) (A:Vo) (outer:List Env) (s:Va) (H:Hp) (O:Ex) (ds:List U7) (Q:U7->Prop) (E:XK),H PT=some (fm q)->aT k (A.deeper (VM qual (ar st) s.heap.objs.size f cdv))->F ds Q->
  ∃t,bG (bh aH P w K mg base N qual (ar st) f cdv A outer s H E).nox (d4 st) (bA K H O t)/\t {nx:=λ_=>Q .none,rt:=Q} (eV N ds)):ay P w K mg base aH (k+1) f fd ps (pH PT q K F):=by
 obtain⟨oc,od,kV,doc,pm,an,cdv,ct,osl,rfl,lk,hcd⟩:=Fu.ex;refine qA lk hcd S (λvs H Q E h=>?_) λA outer s H vs Q E hr hsp=>?_
 ·obtain⟨_,O,ds,Qd,_,r,q,_⟩:=h;rw [r.length];exact len _ _ q
 ·obtain⟨hP,O,ds,Qd,tr,r,q,k⟩:=hsp;obtain⟨t,ht,q'⟩:=hbody cdv A outer s H O ds Qd E hP hr q;refine⟨_,ht.nox,O,_,_,nG tr r,q',λO' δ' σ' H' z w' S'=>?_,λd v H' z s' r'=>k d v H' z s' r',λ_ _ _ _ z=>z.elim,λ_ _ _ _ z=>z.elim⟩;exact k _ _ _ z w'.same .non
theorem K4{X:Cx}{H0:Hp}{O0:Ex}{k j:Nat}{f PT:U9}{fd:Vh}{ps:List Str}{F:List U7->(U7->Prop)->Prop}{st:Vn}{x q:Str}{p pos:Pos}{e:Vd}{es:List Vd}{u:DA}(hP0:H0 PT=some (fm q))(G:ay X.prog X.w X.K X.mg X.base aH k f fd ps (pH PT q X.K F))(hr:aT j X.A)(N:Fn X.K X.mg x st f fd ps)
 (ha:PA X (e::es) (dD X.K H0 O0 u))(hk:k<=j:=by decide)(hg:Gl X x:=by exact rfl)(hdb:(x==("__debug__":Str))=false:=by decide)(he:Vc (e::es) X.env=(false,eval e X.env)::Vc es X.env:=by rfl)(hpl:(Vr pos (Vc es X.env)).any (·.1)=false:=by rfl):
 DE X H0 O0 (.Call (.Name x p) (e::es) [] pos) (gZ F u):=PE.imp (eM G (hr.mono hk) hg N ha hdb he hpl) λσ H Q uu95=>by obtain⟨O,δ,Qd,w,q,k⟩:=uu95;exact
 ⟨O,δ,_,w,q,λds vs H1 q1 s1 r1=>⟨w.same.trans s1 _ _ hP0,O,ds,Qd,(w.mono s1).trk,by rw [Oi];exact r1,q1,λd v H2 q2 s2 r2=>k d v H2 q2 (s1.trans s2) r2⟩⟩
theorem walk_ofTL{l:PySem.W.OpenLaw}{n k:Nat}{q:Vj}{loose:List Str}{XP:(Str->Option U8)->Vl->Prop}{YP:Vm->Vl->Prop}{d dl:DefRec}{K:Params->NM}{sp:NM->U9->Sp}{x qn nm:Str}{c PT:U9}
 (hn:l.most=some n)(hn2:n<=Ve)(hdf:d.params.defaults=[])(hr:aT k callerA)
 (hY:∀(w:Vm) (h:Vl),YP w h->(K w.params).In h)(hrec:(recsOf q).find? (λe=>e.name==nm)=some dl)
 (F:∀(w:Vm) (mg:Str->Option U8) (fa:U9) (h:Vl),(K w.params).In h->h.Ns Vk mg->mg d.name=some (.ref fa)->
  ∃(fd:Vh) (fa2:U9) (fX:Vh),noTabs (K w.params)=true/\tabIn (K w.params) nm=some (c,PT)/\(∀(s:Va) (u:U8),BindsTo s fd ⟨[u],[]⟩ [(x,u)])/\(∃oc od osl,(K w.params).lookup fa=some ⟨oc,od,.func fd,osl⟩)/\mg nm=some (.ref fa2)/\(∃oc od osl,(K w.params).lookup fa2=some ⟨oc,od,.func fX,osl⟩)/\
   ∀base:Vl,(K w.params).In base->base.Ns Vk mg->iN base mg c PT->fX.code= .ref c->ay l.prog w (K w.params) mg base aH k fa fd [x] (sp (K w.params) PT))
 (hsp:∀(K:NM) (H:Hp) (a:U9) (ns:List Int),ns.length<=n->(∀z∈ns,PJ z<=1048576)->H PT=some (fm qn)->aV K H a (ns.map V.int)->sp K PT [.ref a] H (λv _=>v= .bl true) λ_ _ _=>False):
 PySem.W.WalkO q loose XP YP l.row.toRowW d [] (λf vs=>UX f vs):=by
 refine Att.attach_callB hn hdf λw s₀ s₁ mg mb fa o pm cd doc a vs ns G Y ho hd hcd hmg hobj hints hlen hb hg=>?_;have KX:=hY w _ Y;obtain⟨fd,fa2,fX,hnt,hti,hbi,⟨oc,od,osl,hl⟩,hm2,⟨oc2,od2,osl2,hl2⟩,hF⟩:=F w mg fa _ KX G.T.g hmg;obtain⟨hC,hPT⟩:=tab_of G.T KX hrec hti;have hco:fX.code= .ref c:=law_code KX G.T.g hti hm2 (KX _ _ hl2) rfl;exact KU (q:=qn) KX hnt G.T.g G.T.b G.T.builtins G.T.nolimit hg hC hPT G.T.bmain hobj hints (Ot hlen hn2) hr (λbase h1 h2 h3=>hF base h1 h2 h3 hco) hbi (λH hO hS=>hsp _ H a ns hlen hb hO hS) λH e s' h=>h.elim
end L2
namespace K17
open PySem L2
def bu(i:Nat):Vn:=PySem.Challenge.pw_goneday_k17_calls_and_leaves.main.body.getD i (.Pass ⟨0,0,0,0⟩)
abbrev wz:Vn:=bu 18
abbrev wA:Vn:=bu 19
abbrev wB:Vn:=bu 20
abbrev wC:Vn:=bu 21
abbrev wD:Vn:=bu 22
abbrev wF:Vn:=bu 23
abbrev sU:Vn:=bu 24
abbrev wG:Vn:=bu 25
abbrev sV:Vn:=L2.inClass (bu 27) 0
abbrev wH:Vn:=bu 28
abbrev sW:Vn:=bu 29
abbrev wI:Vn:=bu 30
abbrev wJ:Vn:=bu 31
abbrev pM:Vn:=bu 32
abbrev sX:Vn:=bu 33
abbrev sY:Vn:=bu 35
abbrev sZ:Vn:=bu 36
abbrev tj:Vn:=bu 37
abbrev tm:Vn:=bu 38
abbrev wK:Vn:=bu 39
abbrev tq:Vn:=bu 41
abbrev wL:Vn:=bu 42
abbrev tu:Vn:=bu 43
abbrev tw:Vn:=bu 44
abbrev tD:Vn:=bu 45
abbrev wM:Vn:=bu 46
abbrev wN:Vn:=bu 47
abbrev wO:Vn:=bu 48
abbrev wQ:Vn:=bu 50
abbrev wR:Vn:=bu 51
abbrev wU:Vn:=bu 52
abbrev pN:Vn:=bu 53
abbrev wV:Vn:=bu 54
abbrev wX:Vn:=bu 55
abbrev tE:Vn:=bu 56
abbrev wY:Vn:=bu 57
abbrev wZ:Vn:=bu 58
abbrev w8:Vn:=bu 59
abbrev tF:Vn:=bu 60
abbrev xi:Vn:=bu 61
abbrev tG:Vn:=bu 62
abbrev jY:Vn:=bu 63
abbrev tH:Vn:=bu 64
abbrev pO:Vn:=bu 65
abbrev pP:Vn:=bu 66
abbrev tI:Vn:=bu 67
abbrev tJ:Vn:=bu 68
abbrev xj:Vn:=bu 69
abbrev xk:Vn:=bu 70
abbrev xm:Vn:=bu 71
abbrev pQ:Vn:=bu 72
abbrev tK:Vn:=bu 73
set_option genInjectivity false in
set_option genSizeOfSpec false in
structure cM where
 a_A:U9
 d_A:Vh
 a_B:U9
 d_B:Vh
 a_C:U9
 d_C:Vh
 a_D:U9
 d_D:Vh
 a_E:U9
 d_E:Vh
 a_F:U9
 d_F:Vh
 a_G:U9
 d_G:Vh
 a_H:U9
 d_H:Vh
 a_I:U9
 d_I:Vh
 a_J:U9
 d_J:Vh
 a_K:U9
 d_K:Vh
 a_L:U9
 d_L:Vh
 a_M:U9
 d_M:Vh
 a_N:U9
 d_N:Vh
 a_O:U9
 d_O:Vh
 a_P:U9
 d_P:Vh
 a_Q:U9
 d_Q:Vh
 a_R:U9
 d_R:Vh
 a_S:U9
 d_S:Vh
 a_T:U9
 d_T:Vh
 a_U:U9
 d_U:Vh
 a_V:U9
 d_V:Vh
 a_W:U9
 d_W:Vh
 a_X:U9
 d_X:Vh
 a_Y:U9
 d_Y:Vh
 a_Z:U9
 d_Z:Vh
 a_a:U9
 d_a:Vh
 a_b:U9
 d_b:Vh
 a_c:U9
 d_c:Vh
 a_d:U9
 d_d:Vh
 a_e:U9
 d_e:Vh
 a_f:U9
 d_f:Vh
 a_g:U9
 d_g:Vh
 a_h:U9
 d_h:Vh
 a_i:U9
 d_i:Vh
 a_j:U9
 d_j:Vh
 a_k:U9
 d_k:Vh
 a_l:U9
 d_l:Vh
 a_m:U9
 d_m:Vh
 a_n:U9
 d_n:Vh
 a_o:U9
 d_o:Vh
 a_p:U9
 d_p:Vh
 a_q:U9
 d_q:Vh
 a_r:U9
 d_r:Vh
 a_s:U9
 d_s:Vh
 a_t:U9
 d_t:Vh
 a_u:U9
 d_u:Vh
 a_v:U9
 d_v:Vh
 a_w:U9
 d_w:Vh
 a_x:U9
 d_x:Vh
 a_y:U9
 d_y:Vh
 a_z:U9
 d_z:Vh
 u_MONTH_DAYS:U8
 u_FIRST_YEAR:U8
 u_ROUND_DAYS:U8
 u_ROUND_YEARS:U8
 u_NoPaper:U9
 u_Paper:U9
 u_ArchiveError:U9
 u_GoneMaker:U9
 u_Held:U9
 u_MustStay:U9
 u_NoCall:U9
 u_NoDay:U9
 u_NoDeed:U9
 u_NoLeave:U9
 u_NoNumber:U9
 u_NoText:U9
 u_Twice:U9
structure Txt (K:NM) (mg:Str->Option U8) (t:cM):Prop where
 F_A:Fn K mg "is_leap" wz t.a_A t.d_A ["year"]
 F_B:Fn K mg "month_length" wA t.a_B t.d_B ["year","month"]
 F_C:Fn K mg "leaps_before" wB t.a_C t.d_C ["year"]
 F_D:Fn K mg "year_start" wC t.a_D t.d_D ["year"]
 F_E:Fn K mg "year_of" wD t.a_E t.d_E ["day"]
 F_F:Fn K mg "parts_of" wF t.a_F t.d_F ["day"]
 F_G:Fn K mg "number_of" sU t.a_G t.d_G ["year","month","day"]
 F_H:Fn K mg "later" wG t.a_H t.d_H ["day","many","unit"]
 F_I:Mn K "__init__" "Paper.__init__" sV t.a_I t.d_I ["self","deeds","name"]
 F_J:Fn K mg "place_of" wH t.a_J t.d_J ["deed"]
 F_K:Fn K mg "comings" sW t.a_K t.d_K ["deeds"]
 F_L:Fn K mg "coming_of" wI t.a_L t.d_L ["deeds","paper"]
 F_M:Fn K mg "kind_of" wJ t.a_M t.d_M ["deeds","paper"]
 F_N:Fn K mg "maker_comings" pM t.a_N t.d_N ["deeds","coming"]
 F_O:Fn K mg "makers" sX t.a_O t.d_O ["deeds","paper"]
 F_P:Fn K mg "latest" sY t.a_P t.d_P ["deeds","words","day"]
 F_Q:Fn K mg "rules_on" sZ t.a_Q t.d_Q ["deeds","day"]
 F_R:Fn K mg "happened" tj t.a_R t.d_R ["paper","happening"]
 F_S:Fn K mg "base_of" tm t.a_S t.d_S ["paper","since","day"]
 F_T:Fn K mg "reckoned" wK t.a_T t.d_T ["paper","parts","day"]
 F_U:Fn K mg "rules_over" tq t.a_U t.d_U ["paper","rules","day"]
 F_V:Fn K mg "has_gone" wL t.a_V t.d_V ["gone","paper","day"]
 F_W:Fn K mg "staying" tu t.a_W t.d_W ["paper","rules","day","gone"]
 F_X:Fn K mg "going" tw t.a_X t.d_X ["paper","rules","day","gone"]
 F_Y:Fn K mg "leave_rules" tD t.a_Y t.d_Y ["kind","rules"]
 F_Z:Fn K mg "stays" wM t.a_Z t.d_Z ["deeds","day","paper","gone"]
 F_a:Fn K mg "goes" wN t.a_a t.d_a ["deeds","day","paper","gone"]
 F_b:Fn K mg "needs_leave" wO t.a_b t.d_b ["deeds","day","paper"]
 F_c:Fn K mg "_law_cell" wQ t.a_c t.d_c ["_law_script","_law_k"]
 F_d:Fn K mg "_law_purse" wR t.a_d t.d_d ["_law_cell_here"]
 F_e:Fn K mg "_law_take" wU t.a_e t.d_e ["_law_purse_here","_law_many"]
 F_f:Fn K mg "_law_names" pN t.a_f t.d_f ["_law_purse_here","_law_many"]
 F_g:Fn K mg "_law_month" wV t.a_g t.d_g ["_law_year_here","_law_month_here"]
 F_h:Fn K mg "_law_year" wX t.a_h t.d_h ["_law_year_here"]
 F_i:Fn K mg "_law_day" tE t.a_i t.d_i ["_law_year_here","_law_month_here","_law_number"]
 F_j:Fn K mg "_law_later" wY t.a_j t.d_j ["_law_day_here","_law_many","_law_unit"]
 F_k:Fn K mg "_law_drawn_day" wZ t.a_k t.d_k ["_law_purse_here","_law_far"]
 F_l:Fn K mg "_law_parts" w8 t.a_l t.d_l ["_law_purse_here","_law_word","_law_names_here","_law_kinds","_law_far"]
 F_m:Fn K mg "_law_deed" tF t.a_m t.d_m ["_law_purse_here","_law_word","_law_names_here","_law_kinds","_law_far"]
 F_n:Fn K mg "_law_quarrels" xi t.a_n t.d_n ["_law_one","_law_other"]
 F_o:Fn K mg "_law_deeds" tG t.a_o t.d_o ["_law_script","_law_menu","_law_most"]
 F_p:Fn K mg "_law_web" jY t.a_p t.d_p ["_law_deeds_here"]
 F_q:Fn K mg "_law_standing" tH t.a_q t.d_q ["_law_deeds_here","_law_day_here","_law_word","_law_ending"]
 F_r:Fn K mg "_law_reckoned" pO t.a_r t.d_r ["_law_deeds_here","_law_parts_here","_law_name","_law_day_here","_law_coming"]
 F_s:Fn K mg "_law_called" pP t.a_s t.d_s ["_law_deeds_here","_law_day_here","_law_name","_law_gone"]
 F_t:Fn K mg "_law_same" tI t.a_t t.d_t ["_law_told_here","_law_due"]
 F_u:Fn K mg "_law_needs" tJ t.a_u t.d_u ["_law_deeds_here","_law_day_here","_law_name"]
 F_v:Fn K mg "_law_told" xj t.a_v t.d_v ["_law_deeds_here","_law_day_here","_law_name","_law_gone"]
 F_w:Fn K mg "_law_right" xk t.a_w t.d_w ["_law_deeds_here","_law_day_here","_law_gone"]
 F_x:Fn K mg "_law_refused" xm t.a_x t.d_x ["_law_asked","_law_thing"]
 F_y:Fn K mg "_law_no_paper" pQ t.a_y t.d_y ["_law_deeds_here","_law_day_here","_law_thing"]
 F_z:Fn K mg "law" tK t.a_z t.d_z ["_law_script"]
 bt_z:∀(s:Va)(u:U8),BindsTo s t.d_z ⟨[u],[]⟩ [("_law_script",u)]
 c_MONTH_DAYS:mg "MONTH_DAYS"=some t.u_MONTH_DAYS
 e_MONTH_DAYS:∃a,t.u_MONTH_DAYS= .ref a/\∀H,bx K H a [V.int 31,V.int 28,V.int 31,V.int 30,V.int 31,V.int 30,V.int 31,V.int 31,V.int 30,V.int 31,V.int 30,V.int 31]
 c_FIRST_YEAR:mg "FIRST_YEAR"=some t.u_FIRST_YEAR
 r_FIRST_YEAR:aF (.int 2000) t.u_FIRST_YEAR
 c_ROUND_DAYS:mg "ROUND_DAYS"=some t.u_ROUND_DAYS
 r_ROUND_DAYS:aF (.int 146097) t.u_ROUND_DAYS
 c_ROUND_YEARS:mg "ROUND_YEARS"=some t.u_ROUND_YEARS
 r_ROUND_YEARS:aF (.int 400) t.u_ROUND_YEARS
 c_NoPaper:mg "NoPaper"=some (.ref t.u_NoPaper)
 c_Paper:mg "Paper"=some (.ref t.u_Paper)
 c_ArchiveError:mg "ArchiveError"=some (.ref t.u_ArchiveError)
 c_GoneMaker:mg "GoneMaker"=some (.ref t.u_GoneMaker)
 c_Held:mg "Held"=some (.ref t.u_Held)
 c_MustStay:mg "MustStay"=some (.ref t.u_MustStay)
 c_NoCall:mg "NoCall"=some (.ref t.u_NoCall)
 c_NoDay:mg "NoDay"=some (.ref t.u_NoDay)
 c_NoDeed:mg "NoDeed"=some (.ref t.u_NoDeed)
 c_NoLeave:mg "NoLeave"=some (.ref t.u_NoLeave)
 c_NoNumber:mg "NoNumber"=some (.ref t.u_NoNumber)
 c_NoText:mg "NoText"=some (.ref t.u_NoText)
 c_Twice:mg "Twice"=some (.ref t.u_Twice)
 cl_Paper:gW K t.u_Paper
 mk_Paper:Mk K t.u_Paper t.a_I
 na_Paper_name:NoAttr K t.u_Paper "name"
 na_Paper_coming:NoAttr K t.u_Paper "coming"
 na_Paper_kind:NoAttr K t.u_Paper "kind"
 na_Paper_makers:NoAttr K t.u_Paper "makers"
 na_Paper_happenings:NoAttr K t.u_Paper "happenings"
 q_NoPaper:P5 K t.u_NoPaper [.type "ValueError",.type "Exception",.type "BaseException",.type "object"] "ValueError.__new__"=true
 q_ArchiveError:P5 K t.u_ArchiveError [.type "ValueError",.type "Exception",.type "BaseException",.type "object"] "ValueError.__new__"=true
 z1:Pa K (.ref t.u_NoPaper) "__getattribute__"=some (some (.builtin "BaseException.__getattribute__"))
 z2:Pa K (.ref t.u_NoPaper) "__getattr__"=some none
 z3:Pa K (.ref t.u_NoPaper) "__class__"=some (some (.builtin "object.__class__"))
 z4:T6 K (.builtin "object.__class__") "__get__"=some (some (.builtin "getset_descriptor.__get__"))
 z5:Ur K (.builtin "object.__class__")=some true
 z6:Qw K t.u_NoPaper (.type "object")=some true
 z7:Qw K t.u_NoPaper (.type "BaseException")=some true
 z8:Us K t.u_NoPaper=true
 i_NoPaper_ArchiveError:Qw K t.u_NoPaper (.ref t.u_ArchiveError)=some true
 ka:RU K (.ref t.u_NoPaper) [.ref t.u_GoneMaker,.ref t.u_Held,.ref t.u_MustStay,.ref t.u_NoCall,.ref t.u_NoDay,.ref t.u_NoDeed,.ref t.u_NoLeave,.ref t.u_NoNumber,.ref t.u_NoText,.ref t.u_Twice]=some false
 kv:Rq K (.ref t.u_NoPaper) (.type "ValueError")=some true
 n_ValueError:mg "ValueError"=none
 n__law_one:mg "_law_one"=none
 n_abs:mg "abs"=none
 n_all:mg "all"=none
 n_any:mg "any"=none
 n_bool:mg "bool"=none
 n_dict:mg "dict"=none
 n_divmod:mg "divmod"=none
 n_int:mg "int"=none
 n_isinstance:mg "isinstance"=none
 n_len:mg "len"=none
 n_max:mg "max"=none
 n_min:mg "min"=none
 n_range:mg "range"=none
 n_sorted:mg "sorted"=none
 n_str:mg "str"=none
 n_sum:mg "sum"=none
 n_tuple:mg "tuple"=none
theorem K5:aP ["year"] ["year"] (ar wz):= .of
theorem K6:aP ["year","month"] ["year","month"] (ar wA):= .of
theorem C3:aP ["year","past"] ["year"] (ar wB):= .of
theorem K7:aP ["year"] ["year"] (ar wC):= .of
theorem C4:aP ["day","year"] ["day"] (ar wD):= .of
theorem lK:aP ["day","year","left","month"] ["day"] (ar wF):= .of
theorem C5:aP ["year","month","day","before"] ["year","month","day"] (ar sU):= .of
theorem lL:aP ["day","many","unit","months","parts","place","year","month"] ["day","many","unit"] (ar wG):= .of
theorem tL:aP ["self","deeds","name","coming"] ["self","deeds","name"] (ar sV):= .of
theorem K8:aP ["deed"] ["deed"] (ar wH):= .of
theorem K9:aP ["deeds"] ["deeds"] (ar sW):= .of
theorem tM:aP ["deeds","paper","deed"] ["deeds","paper"] (ar wI):= .of
theorem C6:aP ["deeds","paper"] ["deeds","paper"] (ar wJ):= .of
theorem C7:aP ["deeds","coming","named"] ["deeds","coming"] (ar pM):= .of
theorem La:aP ["deeds","paper"] ["deeds","paper"] (ar sX):= .of
theorem tN:aP ["deeds","words","day","found","deed","known"] ["deeds","words","day"] (ar sY):= .of
theorem Lb:aP ["deeds","day"] ["deeds","day"] (ar sZ):= .of
theorem Lc:aP ["paper","happening"] ["paper","happening"] (ar tj):= .of
theorem C8:aP ["paper","since","day","days"] ["paper","since","day"] (ar tm):= .of
theorem C9:aP ["paper","parts","day","base"] ["paper","parts","day"] (ar wK):= .of
theorem Ld:aP ["paper","rules","day"] ["paper","rules","day"] (ar tq):= .of
theorem Dc:aP ["gone","paper","day","went"] ["gone","paper","day"] (ar wL):= .of
theorem lM:aP ["paper","rules","day","gone","left","calls","rule","parts","due"] ["paper","rules","day","gone"] (ar tu):= .of
theorem lN:aP ["paper","rules","day","gone","away","calls","rule","parts","due"] ["paper","rules","day","gone"] (ar tw):= .of
theorem Le:aP ["kind","rules"] ["kind","rules"] (ar tD):= .of
theorem Dd:aP ["deeds","day","paper","gone"] ["deeds","day","paper","gone"] (ar wM):= .of
theorem Df:aP ["deeds","day","paper","gone"] ["deeds","day","paper","gone"] (ar wN):= .of
theorem Dg:aP ["deeds","day","paper"] ["deeds","day","paper"] (ar wO):= .of
theorem tO:aP ["_law_script","_law_k","_law_state","_law_cell_here"] ["_law_script","_law_k"] (ar wQ):= .of
theorem xp:aP ["_law_cell_here","_law_digits"] ["_law_cell_here"] (ar wR):= .of
theorem xt:aP ["_law_purse_here","_law_many","_law_state","_law_digit"] ["_law_purse_here","_law_many"] (ar wU):= .of
theorem lO:aP ["_law_purse_here","_law_many","_law_letters","_law_stem","_law_at","_law_first","_law_step"] ["_law_purse_here","_law_many"] (ar pN):= .of
theorem Dh:aP ["_law_year_here","_law_month_here","_law_leap"] ["_law_year_here","_law_month_here"] (ar wV):= .of
theorem Di:aP ["_law_year_here"] ["_law_year_here"] (ar wX):= .of
theorem Lf:aP ["_law_year_here","_law_month_here","_law_number"] ["_law_year_here","_law_month_here","_law_number"] (ar tE):= .of
theorem jZ:aP ["_law_day_here","_law_many","_law_unit","_law_year_here","_law_month_here","_law_left","_law_months"] ["_law_day_here","_law_many","_law_unit"] (ar wY):= .of
theorem Dj:aP ["_law_purse_here","_law_far","_law_year_here","_law_month_here"] ["_law_purse_here","_law_far"] (ar wZ):= .of
theorem tP:aP ["_law_purse_here","_law_word","_law_names_here","_law_kinds","_law_far","_law_kind","_law_since","_law_many"] ["_law_purse_here","_law_word","_law_names_here","_law_kinds","_law_far"] (ar w8):= .of
theorem lP:aP ["_law_purse_here","_law_word","_law_names_here","_law_kinds","_law_far","_law_day_here","_law_name","_law_some","_law_kind","_law_target"] ["_law_purse_here","_law_word","_law_names_here","_law_kinds","_law_far"] (ar tF):= .of
theorem Dk:aP ["_law_one","_law_other","_law_sorts"] ["_law_one","_law_other"] (ar xi):= .of
theorem fV:aP ["_law_script","_law_menu","_law_most","_law_head","_law_far","_law_chain","_law_names_here","_law_kinds","_law_words","_law_turn","_law_deeds_here","_law_k","_law_deed_here","_law_day_here"] ["_law_script","_law_menu","_law_most"] (ar tG):= .of
theorem lQ:aP ["_law_deeds_here","_law_rows","_law_web_here","_law_name","_law_some","_law_ahead"] ["_law_deeds_here"] (ar jY):= .of
theorem xu:aP ["_law_deeds_here","_law_day_here","_law_word","_law_ending","_law_known","_law_deed_here"] ["_law_deeds_here","_law_day_here","_law_word","_law_ending"] (ar tH):= .of
theorem tQ:aP ["_law_deeds_here","_law_parts_here","_law_name","_law_day_here","_law_coming","_law_days"] ["_law_deeds_here","_law_parts_here","_law_name","_law_day_here","_law_coming"] (ar pO):= .of
theorem hX:aP ["_law_deeds_here","_law_day_here","_law_name","_law_gone","_law_coming","_law_kind","_law_elders","_law_away","_law_here","_law_stay","_law_leave","_law_deed_here","_law_word","_law_till"] ["_law_deeds_here","_law_day_here","_law_name","_law_gone"] (ar pP):= .of
theorem Lg:aP ["_law_told_here","_law_due"] ["_law_told_here","_law_due"] (ar tI):= .of
theorem Dm:aP ["_law_deeds_here","_law_day_here","_law_name","_law_parts_here"] ["_law_deeds_here","_law_day_here","_law_name"] (ar tJ):= .of
theorem Lh:aP ["_law_deeds_here","_law_day_here","_law_name","_law_gone"] ["_law_deeds_here","_law_day_here","_law_name","_law_gone"] (ar xj):= .of
theorem tR:aP ["_law_deeds_here","_law_day_here","_law_gone","_law_name","_law_due","_law_some"] ["_law_deeds_here","_law_day_here","_law_gone"] (ar xk):= .of
theorem tS:aP ["_law_asked","_law_thing","_law_caught","e"] ["_law_asked","_law_thing"] (ar xm):= .of
theorem Dp:aP ["_law_deeds_here","_law_day_here","_law_thing","_law_asked"] ["_law_deeds_here","_law_day_here","_law_thing"] (ar pQ):= .of
theorem fq:aP ["_law_script","_law_menu","_law_deeds_here","_law_names_here","_law_far","_law_web_here","_law_odd","_law_k","_law_purse_here","_law_day_here","_law_gone","_law_name","_law_way","_law_thing"] ["_law_script"] (ar tK):= .of
theorem Dq{α:Type}{us:List α}(h:us.length=1):∃a,us=[a]:=List.length_eq_one_iff.mp h
theorem Dr{α:Type}{us:List α}(h0:us.length=2):∃a b,us=[a,b]:=by
 cases us with
 | nil=>cases h0
 | cons a us=>
  obtain⟨b,z0⟩:=Dq (us:=us) (Sz h0);exact⟨a,b,by rw [z0]⟩
theorem Ds{α:Type}{us:List α}(h0:us.length=3):∃a b c,us=[a,b,c]:=by
 cases us with
 | nil=>cases h0
 | cons a us=>
  obtain⟨b,c,z0⟩:=Dr (us:=us) (Sz h0);exact⟨a,b,c,by rw [z0]⟩
theorem Du{α:Type}{us:List α}(h0:us.length=4):∃a b c d,us=[a,b,c,d]:=by
 cases us with
 | nil=>cases h0
 | cons a us=>
  obtain⟨b,c,d,z0⟩:=Ds (us:=us) (Sz h0);exact⟨a,b,c,d,by rw [z0]⟩
theorem Li{α:Type}{us:List α}(h0:us.length=5):∃a b c d p,us=[a,b,c,d,p]:=by
 cases us with
 | nil=>cases h0
 | cons a us=>
  obtain⟨b,c,d,p,z0⟩:=Du (us:=us) (Sz h0);exact⟨a,b,c,d,p,by rw [z0]⟩
local macro_rules | `(tactic| walk_at "b")=>`(tactic| (intro _ _ _ _ _ _ us hl;first | (cases ls0 (us:=us) hl;rfl) | (obtain⟨a,e⟩:=Dq (us:=us) hl;subst e;rfl) | (obtain⟨a,b,e⟩:=Dr (us:=us) hl;subst e;rfl) | (obtain⟨a,b,c,e⟩:=Ds (us:=us) hl;subst e;rfl) | (obtain⟨a,b,c,d,e⟩:=Du (us:=us) hl;subst e;rfl) | (obtain⟨a,b,c,d,p,e⟩:=Li (us:=us) hl;subst e;rfl)))
theorem txt_mk{K:NM}{h:Vl}{mg:Str->Option U8}(X:K.In h)(G:h.Ns Vk mg)
 {f0 f1 f2 f3 f4 f5 f6 f7 f8 f9 f10 f11 f12 f13 f14 f15 f16 f17 f18 f19 f20 f21 f22 f23 f24 f25 f26 f27 f28 f29 f30 f31 f32 f33 f34 f35 f36 f37 f38 f39 f40 f41 f42 f43 f44 f45 f46 f47 f48 f49 f50 f51:U9}{e0 e1 e2 e3 e4 e5 e6 e7 e8 e9 e10 e11 e12 e13 e14 e15 e16 e17 e18 e19 e20 e21 e22 e23 e24 e25 e26 e27 e28 e29 e30 e31 e32 e33 e34 e35 e36 e37 e38 e39 e40 e41 e42 e43 e44 e45 e46 e47 e48 e49 e50 e51:Vh}
 {u_NoPaper u_Paper u_ArchiveError u_GoneMaker u_Held u_MustStay u_NoCall u_NoDay u_NoDeed u_NoLeave u_NoNumber u_NoText u_Twice:U9}
 {u_FIRST_YEAR u_ROUND_DAYS u_ROUND_YEARS:U8}
 {A_MONTH_DAYS:U9}{dd_MONTH_DAYS:Option U9}{its_MONTH_DAYS:Array U8}{n_MONTH_DAYS:Nat}{sl_MONTH_DAYS:Array (Option U8)}
 (a0:DfT K "is_leap" wz f0 e0)
 (a1:DfT K "month_length" wA f1 e1)
 (a2:DfT K "leaps_before" wB f2 e2)
 (a3:DfT K "year_start" wC f3 e3)
 (a4:DfT K "year_of" wD f4 e4)
 (a5:DfT K "parts_of" wF f5 e5)
 (a6:DfT K "number_of" sU f6 e6)
 (a7:DfT K "later" wG f7 e7)
 (a8:DmT K u_Paper "__init__" "Paper.__init__" sV f8 e8)
 (a9:DfT K "place_of" wH f9 e9)
 (a10:DfT K "comings" sW f10 e10)
 (a11:DfT K "coming_of" wI f11 e11)
 (a12:DfT K "kind_of" wJ f12 e12)
 (a13:DfT K "maker_comings" pM f13 e13)
 (a14:DfT K "makers" sX f14 e14)
 (a15:DfT K "latest" sY f15 e15)
 (a16:DfT K "rules_on" sZ f16 e16)
 (a17:DfT K "happened" tj f17 e17)
 (a18:DfT K "base_of" tm f18 e18)
 (a19:DfT K "reckoned" wK f19 e19)
 (a20:DfT K "rules_over" tq f20 e20)
 (a21:DfT K "has_gone" wL f21 e21)
 (a22:DfT K "staying" tu f22 e22)
 (a23:DfT K "going" tw f23 e23)
 (a24:DfT K "leave_rules" tD f24 e24)
 (a25:DfT K "stays" wM f25 e25)
 (a26:DfT K "goes" wN f26 e26)
 (a27:DfT K "needs_leave" wO f27 e27)
 (a28:DfT K "_law_cell" wQ f28 e28)
 (a29:DfT K "_law_purse" wR f29 e29)
 (a30:DfT K "_law_take" wU f30 e30)
 (a31:DfT K "_law_names" pN f31 e31)
 (a32:DfT K "_law_month" wV f32 e32)
 (a33:DfT K "_law_year" wX f33 e33)
 (a34:DfT K "_law_day" tE f34 e34)
 (a35:DfT K "_law_later" wY f35 e35)
 (a36:DfT K "_law_drawn_day" wZ f36 e36)
 (a37:DfT K "_law_parts" w8 f37 e37)
 (a38:DfT K "_law_deed" tF f38 e38)
 (a39:DfT K "_law_quarrels" xi f39 e39)
 (a40:DfT K "_law_deeds" tG f40 e40)
 (a41:DfT K "_law_web" jY f41 e41)
 (a42:DfT K "_law_standing" tH f42 e42)
 (a43:DfT K "_law_reckoned" pO f43 e43)
 (a44:DfT K "_law_called" pP f44 e44)
 (a45:DfT K "_law_same" tI f45 e45)
 (a46:DfT K "_law_needs" tJ f46 e46)
 (a47:DfT K "_law_told" xj f47 e47)
 (a48:DfT K "_law_right" xk f48 e48)
 (a49:DfT K "_law_refused" xm f49 e49)
 (a50:DfT K "_law_no_paper" pQ f50 e50)
 (a51:DfT K "law" tK f51 e51)
 (x_MONTH_DAYS:Om K Vk "MONTH_DAYS"=some (some (.ref A_MONTH_DAYS)))(y_MONTH_DAYS:K.lookup A_MONTH_DAYS=some ⟨.type "tuple",dd_MONTH_DAYS,.seq its_MONTH_DAYS n_MONTH_DAYS,sl_MONTH_DAYS⟩)(z_MONTH_DAYS:aE [V.int 31,V.int 28,V.int 31,V.int 30,V.int 31,V.int 30,V.int 31,V.int 31,V.int 30,V.int 31,V.int 30,V.int 31] its_MONTH_DAYS.toList)(w_MONTH_DAYS:its_MONTH_DAYS.size<=Ve)
 (x_FIRST_YEAR:Om K Vk "FIRST_YEAR"=some (some u_FIRST_YEAR))(r_FIRST_YEAR:aF (.int 2000) u_FIRST_YEAR)
 (x_ROUND_DAYS:Om K Vk "ROUND_DAYS"=some (some u_ROUND_DAYS))(r_ROUND_DAYS:aF (.int 146097) u_ROUND_DAYS)
 (x_ROUND_YEARS:Om K Vk "ROUND_YEARS"=some (some u_ROUND_YEARS))(r_ROUND_YEARS:aF (.int 400) u_ROUND_YEARS)
 (x_NoPaper:Om K Vk "NoPaper"=some (some (.ref u_NoPaper)))
 (x_Paper:Om K Vk "Paper"=some (some (.ref u_Paper)))
 (x_ArchiveError:Om K Vk "ArchiveError"=some (some (.ref u_ArchiveError)))
 (x_GoneMaker:Om K Vk "GoneMaker"=some (some (.ref u_GoneMaker)))
 (x_Held:Om K Vk "Held"=some (some (.ref u_Held)))
 (x_MustStay:Om K Vk "MustStay"=some (some (.ref u_MustStay)))
 (x_NoCall:Om K Vk "NoCall"=some (some (.ref u_NoCall)))
 (x_NoDay:Om K Vk "NoDay"=some (some (.ref u_NoDay)))
 (x_NoDeed:Om K Vk "NoDeed"=some (some (.ref u_NoDeed)))
 (x_NoLeave:Om K Vk "NoLeave"=some (some (.ref u_NoLeave)))
 (x_NoNumber:Om K Vk "NoNumber"=some (some (.ref u_NoNumber)))
 (x_NoText:Om K Vk "NoText"=some (some (.ref u_NoText)))
 (x_Twice:Om K Vk "Twice"=some (some (.ref u_Twice)))
 (cl_Paper:CP K u_Paper)
 (na_Paper_name:NoAttr K u_Paper "name")
 (na_Paper_coming:NoAttr K u_Paper "coming")
 (na_Paper_kind:NoAttr K u_Paper "kind")
 (na_Paper_makers:NoAttr K u_Paper "makers")
 (na_Paper_happenings:NoAttr K u_Paper "happenings")
 (f_q_NoPaper:P5 K u_NoPaper [.type "ValueError",.type "Exception",.type "BaseException",.type "object"] "ValueError.__new__"=true)
 (f_q_ArchiveError:P5 K u_ArchiveError [.type "ValueError",.type "Exception",.type "BaseException",.type "object"] "ValueError.__new__"=true)
 (f_z1:Pa K (.ref u_NoPaper) "__getattribute__"=some (some (.builtin "BaseException.__getattribute__")))
 (f_z2:Pa K (.ref u_NoPaper) "__getattr__"=some none)
 (f_z3:Pa K (.ref u_NoPaper) "__class__"=some (some (.builtin "object.__class__")))
 (f_z4:T6 K (.builtin "object.__class__") "__get__"=some (some (.builtin "getset_descriptor.__get__")))
 (f_z5:Ur K (.builtin "object.__class__")=some true)
 (f_z6:Qw K u_NoPaper (.type "object")=some true)
 (f_z7:Qw K u_NoPaper (.type "BaseException")=some true)
 (f_z8:Us K u_NoPaper=true)
 (f_i_NoPaper_ArchiveError:Qw K u_NoPaper (.ref u_ArchiveError)=some true)
 (f_ka:RU K (.ref u_NoPaper) [.ref u_GoneMaker,.ref u_Held,.ref u_MustStay,.ref u_NoCall,.ref u_NoDay,.ref u_NoDeed,.ref u_NoLeave,.ref u_NoNumber,.ref u_NoText,.ref u_Twice]=some false)
 (f_kv:Rq K (.ref u_NoPaper) (.type "ValueError")=some true)
 (n_ValueError:Om K Vk "ValueError"=some none)
 (n__law_one:Om K Vk "_law_one"=some none)
 (n_abs:Om K Vk "abs"=some none)
 (n_all:Om K Vk "all"=some none)
 (n_any:Om K Vk "any"=some none)
 (n_bool:Om K Vk "bool"=some none)
 (n_dict:Om K Vk "dict"=some none)
 (n_divmod:Om K Vk "divmod"=some none)
 (n_int:Om K Vk "int"=some none)
 (n_isinstance:Om K Vk "isinstance"=some none)
 (n_len:Om K Vk "len"=some none)
 (n_max:Om K Vk "max"=some none)
 (n_min:Om K Vk "min"=some none)
 (n_range:Om K Vk "range"=some none)
 (n_sorted:Om K Vk "sorted"=some none)
 (n_str:Om K Vk "str"=some none)
 (n_sum:Om K Vk "sum"=some none)
 (n_tuple:Om K Vk "tuple"=some none):∃t:cM,Txt K mg t:=by
 refine⟨⟨f0,e0,f1,e1,f2,e2,f3,e3,f4,e4,f5,e5,f6,e6,f7,e7,f8,e8,f9,e9,f10,e10,f11,e11,f12,e12,f13,e13,f14,e14,f15,e15,f16,e16,f17,e17,f18,e18,f19,e19,f20,e20,f21,e21,f22,e22,f23,e23,f24,e24,f25,e25,f26,e26,f27,e27,f28,e28,f29,e29,f30,e30,f31,e31,f32,e32,f33,e33,f34,e34,f35,e35,f36,e36,f37,e37,f38,e38,f39,e39,f40,e40,f41,e41,f42,e42,f43,e43,f44,e44,f45,e45,f46,e46,f47,e47,f48,e48,f49,e49,f50,e50,f51,e51,.ref A_MONTH_DAYS,u_FIRST_YEAR,u_ROUND_DAYS,u_ROUND_YEARS,u_NoPaper,u_Paper,u_ArchiveError,u_GoneMaker,u_Held,u_MustStay,u_NoCall,u_NoDay,u_NoDeed,u_NoLeave,u_NoNumber,u_NoText,u_Twice⟩,?_⟩;have bl:∀(s:Va)(u:U8),BindsTo s e51 ⟨[u],[]⟩ [("_law_script",u)]:=λs v=>by
  obtain⟨oc,od,kV,doc,pm,an,cdv,ct,osl,rfl,_⟩:=a51.F.ex;exact .of_eq rfl
 exact⟨a0.fn X G,a1.fn X G,a2.fn X G,a3.fn X G,a4.fn X G,a5.fn X G,a6.fn X G,a7.fn X G,a8.fn,a9.fn X G,a10.fn X G,a11.fn X G,a12.fn X G,a13.fn X G,a14.fn X G,a15.fn X G,a16.fn X G,a17.fn X G,a18.fn X G,a19.fn X G,a20.fn X G,a21.fn X G,a22.fn X G,a23.fn X G,a24.fn X G,a25.fn X G,a26.fn X G,a27.fn X G,a28.fn X G,a29.fn X G,a30.fn X G,a31.fn X G,a32.fn X G,a33.fn X G,a34.fn X G,a35.fn X G,a36.fn X G,a37.fn X G,a38.fn X G,a39.fn X G,a40.fn X G,a41.fn X G,a42.fn X G,a43.fn X G,a44.fn X G,a45.fn X G,a46.fn X G,a47.fn X G,a48.fn X G,a49.fn X G,a50.fn X G,a51.fn X G,bl,OZ X G x_MONTH_DAYS,⟨A_MONTH_DAYS,rfl,λH=>.inr ⟨_,_,_,y_MONTH_DAYS,rfl,rfl,w_MONTH_DAYS,z_MONTH_DAYS⟩⟩,OZ X G x_FIRST_YEAR,r_FIRST_YEAR,OZ X G x_ROUND_DAYS,r_ROUND_DAYS,OZ X G x_ROUND_YEARS,r_ROUND_YEARS,OZ X G x_NoPaper,OZ X G x_Paper,OZ X G x_ArchiveError,OZ X G x_GoneMaker,OZ X G x_Held,OZ X G x_MustStay,OZ X G x_NoCall,OZ X G x_NoDay,OZ X G x_NoDeed,OZ X G x_NoLeave,OZ X G x_NoNumber,OZ X G x_NoText,OZ X G x_Twice,cl_Paper.c,a8.mkk cl_Paper,na_Paper_name,na_Paper_coming,na_Paper_kind,na_Paper_makers,na_Paper_happenings,f_q_NoPaper,f_q_ArchiveError,f_z1,f_z2,f_z3,f_z4,f_z5,f_z6,f_z7,f_z8,f_i_NoPaper_ArchiveError,f_ka,f_kv,OE X G n_ValueError,OE X G n__law_one,OE X G n_abs,OE X G n_all,OE X G n_any,OE X G n_bool,OE X G n_dict,OE X G n_divmod,OE X G n_int,OE X G n_isinstance,OE X G n_len,OE X G n_max,OE X G n_min,OE X G n_range,OE X G n_sorted,OE X G n_str,OE X G n_sum,OE X G n_tuple⟩
local macro_rules | `(tactic| walk_at "o")=>`(tactic| first | exact Sv rfl | exact RP rfl)
theorem U5{p:Prop}(h:p:=by walk_at "o"):p:=h
local macro_rules | `(tactic| walk_at "a") =>rzT "uB uA uE uD uC kh gf fh tC jC uQ rI fM rU uS uT Kx Ky Kz KA KC uW tB uj uk um uo ur uu uz kq u5 uZ mw u7 va mh ke mf uG uI A1 A2 A3 A4 A5 A6 A7 A8 iY jD ix L2.start NS OS Og Pf Oa Pz O4 Oi Qi Qj Rh Ri Rj PY Px Qo Qp P0 exists_eq_left' exists_eq_left exists_and_left exists_and_right V.int.injEq V.bl.injEq V.str.injEq V.ref.injEq ON and_true true_and Rk exists_const decide_eq_true_eq Rl Rm Q1 Q2 PZ decide_eq_false_iff_not and_assoc bS QE Qy QF L2.cxK L2.cmK or_true true_or"
open Day
theorem Dv:bj (ar sU) ["year","month","day","before"] ["other","year"] 1 [0] ⟨NZ,[ (NN ".0",Wx),(NN "other",Wx),(NN "month_length",OI),(NN "year",NY)],false,false,[]⟩:= .of
section
variable {P:Vj} {w:Vm} {K:NM} {mg:Str->Option U8} {base:Vl} {t:cM}
def Dw:Sp:=λvs H Q _=>∃(y:Int),vs=[.int y]/\Q (.bl (fT y)) H
theorem Lj(T:Txt K mg t):ay P w K mg base aH 1 t.a_A t.d_A ["year"] Dw:=by
 refine T.F_A.F.ok K5 (λvs H Q E h=>?_) (λcdv A outer s H vs Q E hr h=>?_)
 ·obtain⟨y,rfl,_⟩:=h;rfl
 ·obtain⟨y,rfl,k⟩:=h;refine⟨_,(cO (dN (z9 (qw mr (bz eQ (pv 0) bf) bf (az _)) (qi (uw (qw mr (bz eQ (pv 0) bf) bf (az _)) (qi (qw Gi (bz eQ (pv 0) bf) bf (az _)))))))),?_⟩;walk_at "a";have e:fT y=(decide (y % 400=0) || (decide (y % 4=0) && !decide (y % 100=0))):=rfl;rw [e] at k;by_cases h1:y % 400=0
  ·simpa [h1] using k
  ·by_cases h2:y % 4=0
   ·simpa [h1,h2] using k
   ·simpa [h1,h2] using k
def Dx:Sp:=λvs H Q _=>∃(y m:Int),vs=[.int y,.int m]/\1<=m/\m<=12/\Q (.int (bb y m)) H
theorem xv(T:Txt K mg t):ay P w K mg base aH 2 t.a_B t.d_B ["year","month"] Dx:=by
 have G_A:=@Lj P w _ _ base _ T;refine T.F_B.F.ok K6 (λvs H Q E h=>?_) (λcdv A outer s H vs Q E hr h=>?_)
 ·obtain⟨y,m,rfl,_⟩:=h;rfl
 ·obtain⟨y,m,rfl,h1,h2,k⟩:=h;obtain⟨a,ea,hM⟩:=T.e_MONTH_DAYS;have T_r:aF (.ref a) t.u_MONTH_DAYS:=ea;refine⟨_,(cm (iq (PW.pt (y6 (gU mr (pv 1) bf (az _)) (y3 (qh (eM G_A (hr.mono U1) rfl T.F_A (aO (pv 0) bU)))))) (cO (dN bf)) ik)
   (cO (dN (gw aC (dM rfl T.c_MONTH_DAYS T_r) (bz cU (pv 1) bf) (λ_ _=>rfl))))),?_⟩
  walk_at "a";simp only [Dw];walk_at "a";have fin:∀{v:Int},v=bb y m->Q (.int v) H:=λe=>by rw [e];exact k
  have tail:bb y m=wc.getD (m - 1).toNat 0->qD K (.ref a) (.int (m - 1)) H Q:=λe=>by
   refine⟨a,_,m - 1,.int (bb y m),rfl,rfl,hM H,?_,k⟩;rw [e];rcases sI h1 h2 with z | z | z | z | z | z | z | z | z | z | z | z <;> subst z <;> rfl
  by_cases hm:m=2
  ·rw [U4 hm];by_cases hl:fT y=true
   ·rw [U4 hl];exact fin (by unfold bb;rw [U4 ⟨hm,hl⟩])
   ·rw [U3 hl];exact tail (by unfold bb;rw [U3 (λz=>hl z.2)])
  ·rw [U3 hm];exact tail (wj hm)
def Dy:Sp:=λvs H Q _=>∃(y:Int),vs=[.int y]/\Q (.int (lb y)) H
theorem Lk(T:Txt K mg t):ay P w K mg base aH 1 t.a_C t.d_C ["year"] Dy:=by
 refine T.F_C.F.ok C3 (λvs H Q E h=>?_) (λcdv A outer s H vs Q E hr h=>?_)
 ·obtain⟨y,rfl,_⟩:=h;rfl
 ·obtain⟨y,rfl,k⟩:=h;refine⟨_,(cm (c7 (i:=1) C3.nd rfl U5 (bz cU (pv 0) bf))
   (cO (dN (bz bF (bz cU (bz gi (pv 1) bf) (bz gi (pv 1) bf)) (bz gi (pv 1) bf))))),?_⟩
  walk_at "a";exact k
def tT:Sp:=λvs H Q _=>∃(y:Int),vs=[.int y]/\Q (.int (bK y)) H
theorem xw(T:Txt K mg t):ay P w K mg base aH 2 t.a_D t.d_D ["year"] tT:=by
 have G_C:=@Lk P w _ _ base _ T;refine T.F_D.F.ok K7 (λvs H Q E h=>?_) (λcdv A outer s H vs Q E hr h=>?_)
 ·obtain⟨y,rfl,_⟩:=h;rfl
 ·obtain⟨y,rfl,k⟩:=h;refine⟨_,(cO (dN (bz cU (bz bF (bz fi bf (bz cU (pv 0) (dM rfl T.c_FIRST_YEAR T.r_FIRST_YEAR))) (eM G_C (hr.mono U1) rfl T.F_C (aO (pv 0) bU))) (eM G_C (hr.mono U1) rfl T.F_C (aO (dM rfl T.c_FIRST_YEAR T.r_FIRST_YEAR) bU))))),?_⟩;walk_at "a";simp only [Dy];walk_at "a";exact k
def Dz:Sp:=λvs H Q _=>∃(d:Int),vs=[.int d]/\Q (.int (lG d)) H
theorem Lm(T:Txt K mg t):ay P w K mg base aH 3 t.a_E t.d_E ["day"] Dz:=by
 have G_D:=@xw P w _ _ base _ T;refine T.F_E.F.ok C4 (λvs H Q E h=>?_) (λcdv A outer s H vs Q E hr h=>?_)
 ·obtain⟨d,rfl,_⟩:=h;rfl
 ·obtain⟨d,rfl,k⟩:=h;refine⟨_,(cm (c7 (i:=1) C4.nd rfl U5 (bz bF (dM rfl T.c_FIRST_YEAR T.r_FIRST_YEAR) (bz gi (bz fi (pv 0) (dM rfl T.c_ROUND_YEARS T.r_ROUND_YEARS)) (dM rfl T.c_ROUND_DAYS T.r_ROUND_DAYS))))
   (cm (iq (gU i3 (eM G_D (hr.mono U1) rfl T.F_D (aO (pv 1) bU)) (pv 0) (az _)) (cO (dN (bz cU (pv 1) bf))) ik)
   (cm (iq (gU gn (eM G_D (hr.mono U1) rfl T.F_D (aO (bz bF (pv 1) bf) bU)) (pv 0) (az _)) (cO (dN (bz bF (pv 1) bf))) ik)
   (cO (dN (pv 1)))))),?_⟩
  walk_at "a";simp only [tT];walk_at "a";unfold lG at k;split
  ·rename_i h;rw [U4 h] at k;exact k
  ·rename_i h;rw [U3 h] at k;split
   ·rename_i h;rw [U4 h] at k;exact k
   ·rename_i h;rw [U3 h] at k;exact k
def Ln:Sp:=λvs H Q _=>∃(d:Int),vs=[.int d]/\∀(p:U9)(H':Hp)(y m n:Int),iL d y m n->aj H H'->H p=none->H' p=some (.tup [.int y,.int m,.int n])->Q (.ref p) H'
theorem Lo(T:Txt K mg t):ay P w K mg base aH 4 t.a_F t.d_F ["day"] Ln:=by
 have G_E:=@Lm P w _ _ base _ T;have G_D:=@xw P w _ _ base _ T;have G_B:=@xv P w _ _ base _ T;refine T.F_F.F.ok lK (λvs H Q E h=>?_) (λcdv A outer s H vs Q E hr h=>?_)
 ·obtain⟨d,rfl,_⟩:=h;rfl
 ·obtain⟨d,rfl,k⟩:=h;refine⟨_,(cm (c7 (i:=1) lK.nd rfl U5 (eM G_E (hr.mono U1) rfl T.F_E (aO (pv 0) bU)))
   (cm (c7 (i:=2) lK.nd rfl U5 (bz cU (pv 0) (eM G_D (hr.mono U1) rfl T.F_D (aO (pv 1) bU))))
   (cm (c7 (i:=3) lK.nd rfl U5 bf)
   (cm (Ae OO (gU uU (pv 2) (eM G_B (hr.mono U1) rfl T.F_B (aO (pv 1) (aO (pv 3) bU))) (az _)) (cm (c7 (i:=2) lK.nd rfl U5 (bz cU (pv 2) (eM G_B (hr.mono U1) rfl T.F_B (aO (pv 1) (aO (pv 3) bU)))))
   (cO (c7 (i:=3) lK.nd rfl U5 (bz bF (pv 3) bf)))))
   (cO (dN (vb (aO (pv 1) (aO (pv 3) (aO (bz bF (pv 2) bf) bU)))))))))),?_⟩
  walk_at "a";simp only [Dz];walk_at "a";simp only [tT];walk_at "a";have yo:=Ka d;generalize lG d=y at*;refine⟨λm σ H'=>H'=H/\∃mo:Int,1<=mo/\mo<=12/\aI y mo<=d - bK y/\m=(12 - mo).toNat/\σ=[some (.int d),some (.int y),some (.int (d - bK y - aI y mo)),some (.int mo)],⟨11,rfl,1,U1,U1,?_,rfl,?_⟩,?_⟩
  ·rw [pe];omega
  ·rw [pe];simp
  ·rintro m σ H' ⟨rfl,mo,h1,h2,hb,rfl,rfl⟩;walk_at "a";simp only [Dx];walk_at "a";refine⟨h1,h2,?_⟩;have ys:=wg y;have ba:=sL (y:=y) h1 h2;split
   ·rename_i hge;have lt12:mo < 12:=by
     by_cases z:mo < 12
     ·exact z
     ·have e:mo=12:=U2
      subst e;have:=(sJ y);have:=pd y;omega
    refine⟨_,λ_ _ h=>h,h1,h2,(12 - (mo+1)).toNat,U2,rfl,mo+1,U2,U2,?_,rfl,?_⟩
    ·rw [dU h1];omega
    ·rw [dU h1,show d - bK y - (aI y mo+bb y mo)=d - bK y - aI y mo - bb y mo by omega]
   ·rename_i hlt;refine⟨by show 3<=Ve;decide,λp hp=>?_⟩;refine k p _ y mo (d - bK y - aI y mo+1) ⟨h1,h2,U2,U2,by unfold fU;omega⟩ (aj.new hp) hp aR
def Lp:Sp:=λvs H Q _=>∃(y m n:Int),vs=[.int y,.int m,.int n]/\1<=m/\m<=12/\∀H',aj H H'->Q (.int (fU y m n)) H'
theorem Lq(T:Txt K mg t):ay P w K mg base aH 3 t.a_G t.d_G ["year","month","day"] Lp:=by
 have G_D:=@xw P w _ _ base _ T;have G_B:=@xv P w _ _ base _ T;refine T.F_G.F.ok C5 (λvs H Q E h=>?_) (λcdv A outer s H vs Q E hr h=>?_)
 ·obtain⟨y,m,n,rfl,_⟩:=h;rfl
 ·obtain⟨y,m,n,rfl,h1,h2,k⟩:=h;refine⟨_,(cm (c7 (i:=3) C5.nd rfl U5 (bP (A0 rfl) rfl T.n_sum S5 (aO (mB rfl Dv (uO rfl T.n_range (aO bf (aO (pv 1) bU))) (λ_ _ _ _=>(aS (i:=0) Dv.nd rfl U5)) (λ_ _ _ _=>AY) (λ_ _ _ _=>(eM G_B (hr.mono U1) rfl T.F_B (aO (pv 1) (aO (pv 0) bU))))) bU)))
   (cO (dN (bz cU (bz bF (bz bF (eM G_D (hr.mono U1) rfl T.F_D (aO (pv 0) bU)) (pv 3)) (pv 2)) bf)))),?_⟩
  walk_at "a";refine⟨U2,U2,?_⟩;refine Hq (λi=>.int (bb y (1+(i:Int)))) U2 (λi H' R hi s1 hR=>?_) (λD H' hD s1 e1=>?_)
  ·walk_at "a";exact⟨_,_,rfl,U2,U2,hR H' (aj.refl _)⟩
  ·refine⟨D,rfl,(OU (m - 1).toNat).map λ(i:Nat)=>bb y (1+(i:Int)),aV.of (by rw [e1,Oe];rfl),?_⟩;simp only [tT];walk_at "a";exact k H' s1
def hZ(u:Str):Prop:=u="days"\/u="months"\/u="years"
def iO(d k:Int)(u:Str)(r:Int):Prop:=(u="days"/\r=d+k)\/(u="months"/\∃y m n,iL d y m n/\r=lH y m n k)\/(u="years"/\∃y m n,iL d y m n/\r=lH y m n (k*12))
theorem DC:¬(("months":Str)="days"):=U0
theorem DD:¬(("years":Str)="days"):=U0
theorem DH:¬(("months":Str)="years"):=U0
def Lr:Sp:=λvs H Q _=>∃(d k:Int)(u:Str),vs=[.int d,.int k,.str u]/\hZ u/\∀r H',iO d k u r->aj H H'->Q (.int r) H'
theorem Lu(T:Txt K mg t):ay P w K mg base aH 5 t.a_H t.d_H ["day","many","unit"] Lr:=by
 have G_F:=@Lo P w _ _ base _ T;have G_B:=@xv P w _ _ base _ T;have G_G:=@Lq P w _ _ base _ T;refine T.F_H.F.ok lL (λvs H Q E h=>?_) (λcdv A outer s H vs Q E hr h=>?_)
 ·obtain⟨d,k,u,rfl,_⟩:=h;rfl
 ·obtain⟨d,mk,u,rfl,hu,k⟩:=h;refine⟨_,(cm (iq (gU mr (pv 2) ui (az _)) (cO (dN (bz bF (pv 0) (pv 1)))) ik)
   (cm (c7 (i:=3) lL.nd rfl U5 (Aa (gU mr (pv 2) ui (az _)) (bz fi (pv 1) bf) (pv 1)))
   (cm (c7 (i:=4) lL.nd rfl U5 (eM G_F (hr.mono U1) rfl T.F_F (aO (pv 0) bU)))
   (cm (c7 (i:=5) lL.nd rfl U5 (bz bF (bz cU (bz bF (bz fi (gw aC (pv 4) bf (λ_ _=>rfl)) bf) (gw aC (pv 4) bf (λ_ _=>rfl))) bf) (pv 3)))
   (cm (c7 (i:=6) lL.nd rfl U5 (bz gi (pv 5) bf))
   (cm (c7 (i:=7) lL.nd rfl U5 (bz bF (bz eQ (pv 5) bf) bf))
   (cO (dN (eM G_G (hr.mono U1) rfl T.F_G (aO (pv 6) (aO (pv 7) (aO (bP (uX rfl) rfl T.n_min QQ (aO (gw aC (pv 4) bf (λ_ _=>rfl)) (aO (eM G_B (hr.mono U1) rfl T.F_B (aO (pv 6) (aO (pv 7) bU))) bU))) bU)))))))))))),?_⟩
  walk_at "a";by_cases hd:u="days"
  ·rw [U4 hd];exact k _ H (.inl ⟨hd,rfl⟩) (aj.refl _)
  ·rw [U3 hd];by_cases hy:u="years"
   ·rw [U4 hy];refine⟨d,rfl,λp H' y m n D s1 _ e1=>?_⟩;refine kA (bx.of e1) rfl ⟨y,rfl,kA (bx.of e1) rfl ⟨m,rfl,kA (bx.of e1) rfl ?_⟩⟩;refine⟨_,_,rfl,U2,U2,n,rfl,_,rfl,_,_,_,rfl,U2,U2,λH2 s2=>?_⟩;exact k _ H2 (.inr (.inr ⟨hy,y,m,n,D,by unfold lH;rw [vz]⟩)) (s1.trans s2)
   ·rw [U3 hy];have hm:u="months":=by rcases hu with z | z | z;exact absurd z hd;exact z;exact absurd z hy
    refine⟨d,rfl,λp H' y m n D s1 _ e1=>?_⟩;refine kA (bx.of e1) rfl ⟨y,rfl,kA (bx.of e1) rfl ⟨m,rfl,kA (bx.of e1) rfl ?_⟩⟩;refine⟨_,_,rfl,U2,U2,n,rfl,_,rfl,_,_,_,rfl,U2,U2,λH2 s2=>?_⟩;exact k _ H2 (.inr (.inl ⟨hm,y,m,n,D,by unfold lH;rw [vz]⟩)) (s1.trans s2)
def F_H:List U7->(U7->Prop)->Prop:=λds Q=>∃(d i:Int)(u:Str),ds=[.int d,.int i,.str u]/\hZ u/\∀r,iO d i u r->Q (.int r)
theorem Lv(T:Txt K mg t):ay P w K mg base aH 5 t.a_H t.d_H ["day","many","unit"] (bo K F_H):=
 (Lu T).imp λvs H Q E uu96=>by
  obtain⟨O,ds,Qd,tr,hs,⟨d,i,u,e,hu,q⟩,k⟩:=uu96;subst e;cases hs with
  | cons a r=>cases r with
   | cons b r=>cases r with
    | cons c r=>cases r;cases a;cases b;cases c;exact⟨d,i,u,rfl,hu,λz H' L s1=>k _ _ H' (q z L) s1 (.int _)⟩
theorem Lw{d k:Int}{u:Str}{r r':Int}(h:iO d k u r)(h':iO d k u r'):r=r':=by
 rcases h with⟨e,h⟩ | ⟨e,y,m,n,D,h⟩ | ⟨e,y,m,n,D,h⟩ <;> rcases h' with⟨e',h'⟩ | ⟨e',y',m',n',D',h'⟩ | ⟨e',y',m',n',D',h'⟩
 ·rw [h,h']
 ·exact absurd (e'.symm.trans e) DC
 ·exact absurd (e'.symm.trans e) DD
 ·exact absurd (e.symm.trans e') DC
 ·obtain⟨rfl,rfl,rfl⟩:=D.uniq D';rw [h,h']
 ·exact absurd (e.symm.trans e') DH
 ·exact absurd (e.symm.trans e') DD
 ·exact absurd (e'.symm.trans e) DH
 ·obtain⟨rfl,rfl,rfl⟩:=D.uniq D';rw [h,h']
end
structure Pp where
 d:Int
 nm:Str
 kd:Str
 ms:List Str
def Pp.enc(p:Pp):U7:= .tuple [.str (NL "paper"),.int p.d,.str p.nm,.str p.kd,.tuple (p.ms.map .str)]
def Pp.key(p:Pp):Int×Str:=(p.d,p.nm)
def jt:U7->Int×Str
 | .tuple (_:: .int d:: .str n::_)=>(d,n)
 | _=>(0,NL "")
def Pp.lt(a b:Pp):Prop:=aK a.key b.key=true
instance (a b:Pp):Decidable (a.lt b):=by unfold Pp.lt;infer_instance
theorem DI(p:Int×Str):aK p p=false:=by unfold aK;simp [List.lt_irrefl]
theorem xx{a b c:Int×Str}(h1:aK a b=true)(h2:aK b c=true):aK a c=true:=by
 unfold aK at h1 h2⊢;simp only [QL,OV,decide_eq_true_eq] at h1 h2⊢;rcases h1 with h1 | ⟨h1,h1'⟩ <;> rcases h2 with h2 | ⟨h2,h2'⟩
 ·left;omega
 ·left;omega
 ·left;omega
 ·right;exact⟨h1.trans h2,Uz h1' h2'⟩
theorem tU{a b:Int×Str}(h:aK a b=true):¬aK b a=true:=λz=>by
 have:=xx h z;rw [DI] at this;cases this
theorem DJ{a b:Int×Str}(h:a≠b):aK a b=true\/aK b a=true:=by
 have T:=Cg (n:=2) (kp:=λi=>if i=0 then a else b) (λi j hi hj e=>by
  have:i=0\/i=1:=U2
  have:j=0\/j=1:=U2
  rcases ‹i=0\/i=1› with rfl | rfl <;> rcases ‹j=0\/j=1› with rfl | rfl
  ·rfl
  ·exact absurd e h
  ·exact absurd e.symm h
  ·rfl)
 have:=T.tot 0 1 U2 U2 U2;simp at this;cases hb:aK b a with
 | true=>exact .inr rfl
 | false=>rw [hb] at this;exact .inl (by simpa using this)
theorem Pp.lt_tr{a b c:Pp}(h1:a.lt b)(h2:b.lt c):a.lt c:=xx h1 h2
theorem lR{α:Type}{r:α->α->Prop}(as:∀a b,r a b->¬r b a):∀{l1 l2:List α},l1.Perm l2->l1.Pairwise r->l2.Pairwise r->l1=l2
 | [],l2,p,_,_=>by rw [p.nil_eq]
 | a::l1,[],p,_,_=>by have:=p.length_eq;simp at this
 | a::l1,b::l2,p,h1,h2=>by
  have e:a=b:=by
   have m1:a∈b::l2:=p.mem_iff.mp U6;have m2:b∈a::l1:=p.mem_iff.mpr U6;rcases N9.mp m1 with e | m1
   ·exact e
   ·rcases N9.mp m2 with e | m2
    ·exact e.symm
    ·exact absurd ((OT.mp h1).1 b m2) (as _ _ ((OT.mp h2).1 a m1))
  subst e;rw [lR as ((List.perm_cons a).mp p) (OT.mp h1).2 (OT.mp h2).2]
def lS(x:Pp):List Pp->List Pp
 | []=>[x]
 | y::l=>if x.lt y then x::y::l else y::lS x l
def ft(ps:List Pp):List Pp:=ps.foldr lS []
theorem xy(x:Pp):∀l,(lS x l).Perm (x::l)
 | []=>.refl _
 | y::l=>by
  unfold lS;split
  ·exact .refl _
  ·exact((xy x l).cons y).trans (.swap x y l)
theorem ju:∀ps:List Pp,(ft ps).Perm ps
 | []=>.refl _
 | x::ps=>(xy x (ft ps)).trans ((ju ps).cons x)
theorem DK{x:Pp}:∀{l:List Pp},(∀y∈l,y.nm≠x.nm)->l.Pairwise Pp.lt->(lS x l).Pairwise Pp.lt
 | [],_,_=>SJ _ _
 | y::l,hn,h=>by
  have hp:=OT.mp h;unfold lS;split
  ·rename_i hl;refine OT.mpr ⟨λz hz=>?_,h⟩;rcases N9.mp hz with e | e
   ·subst e;exact hl
   ·exact Pp.lt_tr hl (hp.1 z e)
  ·rename_i hl;refine OT.mpr ⟨λz hz=>?_,DK (λz hz=>hn z (by simp [hz])) hp.2⟩;rcases N9.mp ((xy x l).mem_iff.mp hz) with e | e
   ·subst e;rcases DJ (a:=y.key) (b:=z.key) (λz=>hn y U6 (congrArg UL z)) with w | w
    ·exact w
    ·exact absurd w hl
   ·exact hp.1 z e
theorem lT:∀{ps:List Pp},(ps.map (·.nm)).Nodup->(ft ps).Pairwise Pp.lt
 | [],_=>.nil
 | x::ps,h=>by
  rw [NS,PL] at h;exact DK (λy hy e=>h.1 (by rw [<-e];exact N6.mpr ⟨y,(ju ps).mem_iff.mp hy,rfl⟩)) (lT h.2)
theorem tV{ps:List Pp}{x:Pp}:x∈ft ps↔x∈ps:=(ju ps).mem_iff
theorem Lx{ps:List Pp}:(ft ps).length=ps.length:=(ju ps).length_eq
theorem Pp.asym(a b:Pp)(h:a.lt b):¬b.lt a:=tU h
theorem DL{ps os:List Pp}(nd:(ps.map (·.nm)).Nodup)(hp:os.Perm ps)(hs:os.Pairwise Pp.lt):os=ft ps:=
 lR Pp.asym (hp.trans (ju ps).symm) hs (lT nd)
theorem Ly{ps qs:List Pp}(nd:(ps.map (·.nm)).Nodup)(h:qs.Perm ps):ft qs=ft ps:=
 DL nd ((ju qs).trans h) (lT ((h.map _).nodup_iff.mpr nd))
theorem xA{ps:List Pp}{f:Pp->Bool}(nd:(ps.map (·.nm)).Nodup):((ps.filter f).map (·.nm)).Nodup:=nd.sublist (PK.map _)
theorem DM{ps:List Pp}{f:Pp->Bool}(nd:(ps.map (·.nm)).Nodup):ft (ps.filter f)=(ft ps).filter f:=
 (DL (xA nd) ((ju ps).filter f) ((lT nd).sublist PK)).symm
theorem Lz{ps:List Pp}{ds:List U7}(nd:(ps.map (·.nm)).Nodup)(hp:ds.Perm (ps.map Pp.enc))(hs:ds.Pairwise λa b=>aK (jt a) (jt b)=true):ds=(ft ps).map Pp.enc:=by
 refine lR (λa b h=>tU h) (hp.trans ((ju ps).symm.map _)) hs ?_;rw [OX];exact lT nd
theorem DN{ps:List Pp}(nd:(ps.map (·.nm)).Nodup){a b:Pp}(ha:a∈ps)(hb:b∈ps)(e:a.nm=b.nm):a=b:=by
 induction ps with
 | nil=>cases ha
 | cons x ps ih=>
  rw [NS,PL] at nd;rcases N9.mp ha with ea | ha1 <;> rcases N9.mp hb with eb | hb1
  ·rw [ea,eb]
  ·subst ea;exact absurd (N6.mpr ⟨b,hb1,e.symm⟩) nd.1
  ·subst eb;exact absurd (N6.mpr ⟨a,ha1,e⟩) nd.1
  ·exact ih nd.2 ha1 hb1
structure iP (ps:List Pp):Prop where
 ln:ps.length<=41
 nd:(ps.map (·.nm)).Nodup
 nm:∀p∈ps,N0 p.nm=true
 kd:∀p∈ps,N0 p.kd=true
 ms:∀p∈ps,(∀m∈p.ms,N0 m=true)/\p.ms.length<=50
theorem iP.perm{ps qs:List Pp}(g:iP ps)(h:qs.Perm ps):iP qs:=
 ⟨by rw [h.length_eq];exact g.ln,(h.map _).nodup_iff.mpr g.nd,λp hp=>g.nm p (h.mem_iff.mp hp),λp hp=>g.kd p (h.mem_iff.mp hp),λp hp=>g.ms p (h.mem_iff.mp hp)⟩
theorem iP.filter{ps:List Pp}(g:iP ps)(f:Pp->Bool):iP (ps.filter f):=
 ⟨Ot (OM _ _) g.ln,xA g.nd,λp hp=>g.nm p (Oh.mp hp).1,λp hp=>g.kd p (Oh.mp hp).1,λp hp=>g.ms p (Oh.mp hp).1⟩
def pR(c p:Pp):Bool:=c.ms.contains p.nm && aK p.key c.key
def cY(ps:List Pp)(c:Pp):List Pp:=(ft ps).filter (pR c)
inductive De where
 | pap (p:Pp)
 | oth (w:Str) (d:Int) (nm:Str) (r:List U7)
def De.enc:De->U7
 | .pap p=>p.enc
 | .oth w d nm r=>.tuple (.str w:: .int d:: .str nm::r)
def De.w:De->Str
 | .pap _=>NL "paper"
 | .oth w _ _ _=>w
def De.d:De->Int
 | .pap p=>p.d
 | .oth _ d _ _=>d
def De.nm:De->Str
 | .pap p=>p.nm
 | .oth _ _ nm _=>nm
def De.pp:De->Option Pp
 | .pap p=>some p
 | _=>none
def aN(xs:List De):List Pp:=xs.filterMap De.pp
structure eO (xs:List De):Prop where
 gp:iP (aN xs)
 np:∀w d nm r,De.oth w d nm r∈xs->w≠NL "paper"
 ln:xs.length<=41
 w:∀x∈xs,N0 x.w=true
 nm:∀x∈xs,N0 x.nm=true
theorem lU{xs:List De}{p:Pp}:p∈aN xs↔De.pap p∈xs:=by
 unfold aN;rw [P7];constructor
 ·rintro⟨x,hx,e⟩;cases x with
  | pap q=>cases e;exact hx
  | oth w d nm r=>cases e
 ·intro h;exact⟨_,h,rfl⟩
theorem eO.perm{xs ys:List De}(g:eO xs)(h:ys.Perm xs):eO ys:=
 ⟨g.gp.perm (h.filterMap _),λw d nm r z=>g.np w d nm r (h.mem_iff.mp z),by rw [h.length_eq];exact g.ln,λx hx=>g.w x (h.mem_iff.mp hx),λx hx=>g.nm x (h.mem_iff.mp hx)⟩
theorem DP(ps:List Pp):aN (ps.map De.pap)=ps:=by
 unfold aN;rw [RY];exact List.filterMap_some
theorem LA(ps:List Pp):ps.map Pp.enc=(ps.map De.pap).map De.enc:=by rw [Oe];rfl
theorem LB:N0 (NL "paper")=true:=U0
theorem eO.of{ps:List Pp}(g:iP ps):eO (ps.map De.pap):=by
 refine⟨by rw [DP];exact g,λw d nm r h=>?_,by rw [NO];exact g.ln,λx hx=>?_,λx hx=>?_⟩
 ·obtain⟨p,_,e⟩:=N6.mp h;cases e
 ·obtain⟨p,_,rfl⟩:=N6.mp hx;exact LB
 ·obtain⟨p,hp,rfl⟩:=N6.mp hx;exact g.nm p hp
local macro_rules | `(tactic| walk_at "d") =>do let a <- rzT "eV NS OS Og Pf Qi Qj Oa Pz O4"; let b <- rzT (rzS++" ph pj iM pA jr pB pC pz pE rj rn rq ne_eq qZ q5 rf rg rh qY jN jO mZ jf mS mR mQ g7 eV eJ iY jD ix NS OS Og Pf Oa Pz O4 Oi Qi Qj Rh Ri Rj PY Px Qy Qo Qp P0 exists_eq_left' exists_eq_left exists_and_left exists_and_right QE QF Sl.v.injEq Sl.o.injEq Sl.k.injEq QD Ry PV PX QO ON and_true true_and Rk RI exists_const decide_eq_true_eq Rl Rm Q1 Q2 PZ decide_eq_false_iff_not and_assoc or_true true_or ↓reduceIte if_true if_false Pq Qq not_true_eq_false not_false_eq_true RD Rt ite_true ite_false eq_self exists_eq reduceCtorEq false_and and_false or_false false_or exists_false Q9 Ra jI R6 SD PB SE R7 QY Qh Q0 eX dG k7 g9 nM fQ hG nO beq_self_eq_true fF qQ nN dB sizeLine_eq"); `(tactic| ((try $a:tactic); $b:tactic))
theorem DQ:bj (ar sW) ["deeds"] ["deed"] 1 [] ⟨NZ,[(NN ".0",Wx),(NN "deed",Wx)],false,false,[]⟩:= .of
theorem DR:bj (ar pM) ["deeds","coming","named"] ["deed","coming"] 1 [1] ⟨NZ,[ (NN ".0",Wx),(NN "deed",Wx),(NN "coming",NY)],false,false,[]⟩:= .of
theorem DU:bj (ar pM) ["deeds","coming","named"] ["deed","coming"] 1 [1] ⟨NZ,[ (NN ".0",Wx),(NN "deed",Wx),(NN "place_of",OI),(NN "coming",NY)],false,false,[]⟩:= .of
theorem DV:bj (ar sX) ["deeds","paper"] ["deed"] 1 [] ⟨NZ,[(NN ".0",Wx),(NN "deed",Wx)],false,false,[]⟩:= .of
section
variable {P:Vj} {w:Vm} {K:NM} {mg:Str->Option U8} {base:Vl} {t:cM}
theorem cZ{α:Type}{enc:α->U7}{g:DG}{tc:DB}{te:DT}{δ0:Dl}{xs:List α}{Q:List U7->Prop}(p:α->Bool)(f:α->U7)
 (h:∀x∈xs,∀(R:U7->Prop) (S:Prop),(if p x=true then R (f x) else S)->g (enc x) δ0 λδ2=>tc δ2 λok=>if ok=true then te δ2 R else S)(q:Q ((xs.filter p).map f)):fD g tc te δ0 (xs.map enc) Q:=by
 refine⟨λi acc=>acc=((xs.take i).filter p).map f,rfl,?_,?_⟩
 ·rintro i z acc hz rfl;rw [Ob] at hz;cases hz':xs[i]? with
  | none=>rw [hz'] at hz;cases hz
  | some x=>
   rw [hz'] at hz;cases hz;refine h x (Oq hz') (λy=>((xs.take i).filter p).map f++[y]=((xs.take (i+1)).filter p).map f) (((xs.take i).filter p).map f=((xs.take (i+1)).filter p).map f) ?_;rw [Pb,hz'];by_cases e:p x=true
   ·rw [U4 e];simp [e]
   ·rw [U3 e];simp [e]
 ·rintro acc rfl;rw [NO,OD (NV _)];exact q
theorem DW{α:Type}{enc:α->U7}{g:DG}{tc:DB}{te:DT}{δ0:Dl}{xs:List α}{Q:List U7->Prop}(p:α->Bool)(f:α->U7)
 (h:∀x∈xs,∀(R:U7->Prop) (S:Prop),(p x=true->R (f x))->(p x=false->S)->g (enc x) δ0 λδ2=>tc δ2 λok=>if ok=true then te δ2 R else S)(q:Q ((xs.filter p).map f)):fD g tc te δ0 (xs.map enc) Q:=
 cZ p f (λx hx R S z=>h x hx R S (λe=>by rw [U4 e] at z;exact z) (λe=>by rw [U3 (by rw [e];exact NW)] at z;exact z)) q
theorem pT{α:Type}(l:List α):l.filter (λ_=>true)=l:=List.filter_eq_self.mpr λ_ _=>rfl
theorem cg{a b:Str}(h:a≠b):(a==b)=false:=by simpa using h
theorem LC{ws:List Str}{w:Str}:((ws.map NP).any λd=>N4 d (.str w))=ws.contains w:=by
 induction ws with
 | nil=>rfl
 | cons a ws ih=>
  rw [NS,PB,ih,fQ,TK];congr 1;by_cases h:a=w
  ·simp [h]
  ·rw [cg h,cg (Ne.symm h)]
theorem DY{ms:List Str}(h:∀m∈ms,N0 m=true):Pk (ms.map .str)=true:=(vO (n:=1) (vW h)).1
def fu(f:Pp->Bool):De->Bool
 | .pap p=>f p
 | _=>false
theorem pU{f:Pp->Bool}:∀xs:List De,(xs.filter (fu f)).map De.enc=((aN xs).filter f).map Pp.enc
 | []=>rfl
 | .pap p::xs=>by
  have ih:=pU (f:=f) xs;show _=(T9 f (p::aN xs)).map Pp.enc;rw [O5,O5];by_cases h:f p=true
  ·rw [U4 h,U4 (show fu f (.pap p)=true from h),NS,NS,ih];rfl
  ·rw [U3 h,U3 (show ¬fu f (.pap p)=true from h),ih]
 | .oth w d nm r::xs=>by
  have ih:=pU (f:=f) xs;show _=(T9 f (aN xs)).map Pp.enc;rw [O5,U3 (show ¬fu f (.oth w d nm r)=true from NW),ih]
def xB:List U7->(U7->Prop)->Prop:=λds Q=>∃p:De,ds=[p.enc]/\Q (cu (p.d,p.nm))
theorem DZ(T:Txt K mg t):ay P w K mg base aH 1 t.a_J t.d_J ["deed"] (bo K xB):=by
 refine T.F_J.F.okD K8 (λds Q h=>?_) (λ_ _ _ _ H O ds Q E hr h=>?_)
 ·obtain⟨p,rfl,_⟩:=h;rfl
 ·obtain⟨p,rfl,q⟩:=h;refine'⟨_,?A,?B⟩
  case A=>
   refine' au ?C
   case' C=>refine' aJ ?D
   case' D=>refine' bE ?E
   case' E=>refine' aa ?F ?G
   case F=>exact(av aC aD (dv 0) ag)
   case' G=>refine' aa ?H ah
   case H=>exact(av aC aD (dv 0) ag)
  case B=>
  clear hr T;cases p <;> simp only [De.enc,Pp.enc] <;> walk_at "d" <;> exact q
theorem LD{d:U7}{ps:List Pp}(h:d∈ps.map Pp.enc)(R:U7->Prop)(q:R (cu (jt d))):xB [d] R:=by
 obtain⟨p,hp,rfl⟩:=N6.mp h;exact⟨.pap p,rfl,q⟩
theorem LG{ps:List Pp}(nd:(ps.map (·.nm)).Nodup):(ps.map Pp.key).Nodup:=by
 rw [QV,OX] at nd⊢;exact nd.imp λh e=>h (congrArg UL e)
def F_K:List U7->(U7->Prop)->Prop:=λds Q=>∃xs:List De,(ds=[.list (xs.map De.enc)]\/ds=[.tuple (xs.map De.enc)])/\eO xs/\Q (.list ((ft (aN xs)).map Pp.enc))
theorem LH(T:Txt K mg t):ay P w K mg base aH 4 t.a_K t.d_K ["deeds"] (bo K F_K):=by
 have G_J:=@DZ P w _ _ base _ T;refine T.F_K.F.okD K9 (λds Q h=>?_) (λ_ _ _ _ H O ds Q E hr h=>?_)
 ·obtain⟨ps,h | h,_⟩:=h <;> subst h <;> rfl
 ·obtain⟨xs,e,gd,q⟩:=h;refine'⟨_,?A,?B⟩
  case A=>
   refine' au ?C
   case' C=>refine' aJ ?D
   case D=>exact(fe (JV jt rfl G_J (aT.in1 (aT.in1 (hr.mono U1))) T.F_J.b rfl T.F_J.m rfl T.n_sorted Pw (bt (fe (JZ rfl DQ (df (dv 0)) aW cz U1 (λ_ _ _ _=>(aS (i:=0) DQ.nd rfl U5)) (λ_ _ _ _=>(di (aG (cF hr) cG (av aC aD (dv 0) ag) aQ (az _)))) (λ_ _ _ _=>(dv 0)))) br)))
  case B=>
  clear hr T G_J;have ln:=gd.ln;have pl:=gd.gp.ln;have step:∀x∈xs,∀(R:U7->Prop)(S:Prop),(if fu (λ_=>true) x=true then R x.enc else S)->(if (x.w==NL "paper")=true then R x.enc else S):=λx hx R S h=>by
   cases x with
   | pap p=>exact h
   | oth w d nm r=>
    rw [show((De.oth w d nm r).w==NL "paper")=false from cg (gd.np w d nm r hx),U3 NW];rw [U3 (show ¬fu (λ_=>true) (.oth w d nm r)=true from NW)] at h;exact h
  have fin:∀ds':List U7,ds'.Perm ((aN xs).map Pp.enc)->ds'.Pairwise (λa b=>aK (jt a) (jt b)=true)->Q (.list ds'):=λds' h1 h2=>by
   rw [Lz gd.gp.nd h1 h2];exact q
  have tail:(∀d∈(aN xs).map Pp.enc,∀R:U7->Prop,R (cu (jt d))->xB [d] R)/\((aN xs).map Pp.enc).length < 64/\(((aN xs).map Pp.enc).map jt).Nodup:=by
   refine⟨λd hd R z=>LD hd R z,by rw [NO];omega,?_⟩;rw [Oe];exact LG gd.gp.nd
  rcases e with e | e <;> subst e <;> walk_at "d"
  ·refine⟨by rw [NO];omega,cZ (fu λ_=>true) De.enc (λx hx R S h=>?_) ?_⟩
   ·have h:=step x hx R S h;cases x <;> simp only [De.enc,De.w,Pp.enc] at h⊢<;> walk_at "d" <;> exact h
   ·rw [pU,pT];exact⟨tail.1,tail.2.1,tail.2.2,fin⟩
  ·refine⟨by rw [NO];omega,cZ (fu λ_=>true) De.enc (λx hx R S h=>?_) ?_⟩
   ·have h:=step x hx R S h;cases x <;> simp only [De.enc,De.w,Pp.enc] at h⊢<;> walk_at "d" <;> exact h
   ·rw [pU,pT];exact⟨tail.1,tail.2.1,tail.2.2,fin⟩
def LJ:List U7->(U7->Prop)->Prop:=λds Q=>∃(xs:List De)(c:Pp),ds=[.tuple (xs.map De.enc),.str c.nm]/\eO xs/\c∈aN xs/\Q c.enc
theorem xC(T:Txt K mg t):ay P w K mg base aH 1 t.a_L t.d_L ["deeds","paper"] (bo K LJ):=by
 refine T.F_L.F.okD tM (λds Q h=>?_) (λ_ _ _ _ H O ds Q E hr h=>?_)
 ·obtain⟨ps,c,rfl,_⟩:=h;rfl
 ·obtain⟨xs,c,rfl,gd,hc,q⟩:=h;refine'⟨_,?A,?B⟩
  case A=>
   refine' aq ?C ?D
   case C=>
    refine' qN OO rfl (dv 0) ?E aW ?F
    case E=>exact(aS (i:=2) tM.nd rfl U5)
    case' F=>refine' au ?G
    case' G=>refine' bC ?H ?I bB
    case H=>exact(PW.pt (dE (aG (cF hr) cG (av aC aD (dv 2) ag) aQ (az _)) (d6 (aG (cn hr.units) cq (av aC aD (dv 2) ag) (dv 1) (az _)))))
    case' I=>refine' au ?J
    case J=>exact(aJ (dv 2))
   case D=>refine' au lz
  case B=>
  clear hr T;walk_at "d";refine⟨λi δ=>(∀x∈aN (xs.take i),x.nm≠c.nm)/\∃o2,δ=[some (Sl.v (.tuple (xs.map De.enc))),some (Sl.v (.str c.nm)),o2],⟨by simp [aN],_,rfl⟩,?_,?_⟩
  ·rintro i z δ hz ⟨hn,o2,rfl⟩;rw [Ob] at hz;cases hz':xs[i]? with
   | none=>rw [hz'] at hz;cases hz
   | some x=>
    rw [hz'] at hz;cases hz;have hx:=Oq hz';cases x with
    | pap p=>
     simp only [De.enc,Pp.enc];walk_at "d";refine⟨cW.mpr (gd.nm _ hx),cW.mpr (gd.gp.nm c hc),?_⟩;split
     ·rename_i h;have e:=DN gd.gp.nd (lU.mpr hx) hc (eq_of_beq h);subst e;exact q
     ·rename_i h;refine⟨λy hy=>?_,_,rfl⟩;rw [Pb,hz'] at hy;unfold aN at hy;rw [S6] at hy;rcases Oo.mp hy with z | z
      ·exact hn y z
      ·have:y=p:=by simpa [De.pp] using z
       rw [this];exact λe=>h (by rw [e];exact beq_self_eq_true _)
    | oth w d nm r=>
     simp only [De.enc];walk_at "d";rw [cg (gd.np w d nm r hx),U3 NW];refine⟨λy hy=>?_,_,rfl⟩;rw [Pb,hz'] at hy;unfold aN at hy;rw [S6] at hy;rcases Oo.mp hy with z | z
     ·exact hn y z
     ·simp [De.pp] at z
  ·rintro δ ⟨hn,o2,rfl⟩;rw [NO,OD (NV _)] at hn;exact absurd rfl (hn c hc)
def LK:List U7->(U7->Prop)->Prop:=λds Q=>∃(xs:List De)(c:Pp),ds=[.tuple (xs.map De.enc),c.enc]/\eO xs/\c∈aN xs/\Q (.list ((cY (aN xs) c).map Pp.enc))
theorem LL(T:Txt K mg t):ay P w K mg base aH 5 t.a_N t.d_N ["deeds","coming"] (bo K LK):=by
 have G_K:=@LH P w _ _ base _ T;have G_J:=@DZ P w _ _ base _ T;refine T.F_N.F.okD C7 (λds Q h=>?_) (λ_ _ _ _ H O ds Q E hr h=>?_)
 ·obtain⟨ps,c,rfl,_⟩:=h;rfl
 ·obtain⟨xs,c,rfl,gd,hc,q⟩:=h;refine'⟨_,?A,?B⟩
  case A=>
   refine' aq ?C ?D
   case C=>exact(iJ (i:=2) C7.nd rfl U5 (sA rfl DR (df (dv 0)) aW cz U1 (λ_ _ _ _=>(aS (i:=0) DR.nd rfl U5)) (λ_ _ _ _=>(di (PW.pt (dE (aG (cF hr) cG (av aC aD (dv 0) ag) aQ (az _)) (d6 (aG (vQ hr) nX (av aC aD (dv 0) ag) (av aC aD (dv 1) ag) rfl)))))) (λ_ _ _ _=>(dv 0))))
   case' D=>refine' au ?E
   case' E=>refine' aJ ?F
   case F=>exact(ax G_K hr T.F_K (aa (fe (fP rfl DU (df (dv 2)) aW cz U1 (λ_ _ _ _=>(aS (i:=0) DU.nd rfl U5)) (λ_ _ _ _=>(di (aG (Cq hr.units0) Cr (ax G_J hr T.F_J (aa (dv 0) ah)) (ax G_J hr T.F_J (aa (dv 1) ah)) (az _)))) (λ_ _ _ _=>(dv 0)))) ah))
  case B=>
  clear hr T G_K G_J;have ln:=gd.ln;have pl:=gd.gp.ln;obtain⟨hm1,hm2⟩:=gd.gp.ms c hc;walk_at "d";refine⟨by rw [NO];omega,cZ (fu λp=>c.ms.contains p.nm) De.enc (λx hx R S h=>?_) ?_⟩
  ·cases x with
   | pap p=>
    simp only [De.enc,Pp.enc];walk_at "d";refine⟨cW.mpr (gd.nm _ hx),DY hm1,?_⟩;rw [LC];exact h
   | oth w d nm r=>
    simp only [De.enc];walk_at "d";rw [cg (gd.np w d nm r hx),U3 NW];rw [U3 (show ¬fu _ (.oth w d nm r)=true from NW)] at h;exact h
  ·rw [pU];have fl:=OM (λp:Pp=>c.ms.contains p.nm) (aN xs);refine⟨by rw [NO];omega,cZ (λp=>aK p.key c.key) Pp.enc (λx hx R S h=>?_) ?_⟩
   ·walk_at "d";exact⟨.pap x,rfl,.pap c,rfl,x.key,rfl,c.key,rfl,h⟩
   ·rw [LA];refine⟨_,.inl rfl,eO.of ((gd.gp.filter _).filter _),?_⟩;rw [DP,DM (xA gd.gp.nd),DM gd.gp.nd,TU];have e:(ft (aN xs)).filter (λa=>aK a.key c.key && c.ms.contains a.nm)=cY (aN xs) c:=by
     unfold cY pR;congr 1;funext a;rw [UD]
    rw [e];exact q
theorem tW{ps:List Pp}{c:Pp}(g:iP ps):(cY ps c).length<=41:=by
 unfold cY;have h1:=OM (pR c) (ft ps);have h2:=Lx (ps:=ps);have h3:=g.ln;omega
def F_O:List U7->(U7->Prop)->Prop:=λds Q=>∃(xs:List De)(c:Pp),ds=[.tuple (xs.map De.enc),.str c.nm]/\eO xs/\c∈aN xs/\Q (.tuple (((cY (aN xs) c).map (·.nm)).map .str))
theorem LN(T:Txt K mg t):ay P w K mg base aH 6 t.a_O t.d_O ["deeds","paper"] (bo K F_O):=by
 have G_N:=@LL P w _ _ base _ T;have G_L:=@xC P w _ _ base _ T;refine T.F_O.F.okD La (λds Q h=>?_) (λ_ _ _ _ H O ds Q E hr h=>?_)
 ·obtain⟨ps,c,rfl,_⟩:=h;rfl
 ·obtain⟨xs,c,rfl,gd,hc,q⟩:=h;refine'⟨_,?A,?B⟩
  case A=>
   refine' au ?C
   case' C=>refine' aJ ?D
   case D=>exact(PE.imp (eR iz rfl T.n_tuple gA (bt (fe (fP rfl DV (df (ax G_N hr T.F_N (aa (dv 0) (aa (ax G_L hr T.F_L (aa (dv 0) (aa (dv 1) ah))) ah)))) aW cz U1 (λ_ _ _ _=>(aS (i:=0) DV.nd rfl U5)) (λ_ _ _ _=>iH) (λ_ _ _ _=>(av aC aD (dv 0) ag)))) br)) (bJ iG))
  case B=>
  clear hr T G_N G_L;walk_at "d";refine⟨xs,c,rfl,gd,hc,xs,c,rfl,gd,hc,⟨_,rfl,by rw [NO];have:=tW (c:=c) gd.gp;omega,cZ (λ_=>true) (λp:Pp=>.str p.nm) (λx hx R S h=>?_) ?_⟩⟩
  ·simp only [Pp.enc];walk_at "d";rw [U4 rfl] at h;exact h
  ·rw [pT];rw [Oe] at q;exact q
def LO:List U7->(U7->Prop)->Prop:=λds Q=>∃(xs:List De)(c:Pp),ds=[.tuple (xs.map De.enc),.str c.nm]/\eO xs/\c∈aN xs/\Q (.str c.kd)
theorem LP(T:Txt K mg t):ay P w K mg base aH 2 t.a_M t.d_M ["deeds","paper"] (bo K LO):=by
 have G_L:=@xC P w _ _ base _ T;refine T.F_M.F.okD C6 (λds Q h=>?_) (λ_ _ _ _ H O ds Q E hr h=>?_)
 ·obtain⟨ps,c,rfl,_⟩:=h;rfl
 ·obtain⟨xs,c,rfl,gd,hc,q⟩:=h;refine'⟨_,?A,?B⟩
  case A=>
   refine' au ?C
   case C=>exact(aJ (av aC aD (ax G_L hr T.F_L (aa (dv 0) (aa (dv 1) ah))) ag))
  case B=>
  clear hr T G_L;walk_at "d";exact⟨xs,c,rfl,gd,hc,_,rfl,_,g9,q⟩
end
local macro_rules | `(tactic| walk_at "e") =>rzT (rzS++" ph pj iM pA jr pB pC pz pE rj rn rq ne_eq qZ q5 rf rg rh qY jN jO mZ jf mS mR mQ g7 eV eJ iY jD ix NS OS Og Pf Oa Pz O4 Oi Qi Qj Rh Ri Rj PY Px Qy Qo Qp P0 exists_eq_left' exists_eq_left exists_and_left exists_and_right QE QF Sl.v.injEq Sl.o.injEq Sl.k.injEq QD Ry PV PX QO ON and_true true_and Rk RI exists_const decide_eq_true_eq Rl Rm Q1 Q2 PZ decide_eq_false_iff_not and_assoc or_true true_or ↓reduceIte if_true if_false Pq Qq not_true_eq_false not_false_eq_true RD Rt ite_true ite_false eq_self exists_eq reduceCtorEq false_and and_false or_false false_or exists_false Q9 Ra jI R6 SD PB SE R7 QY Qh Q0 eX dG k7 g9 nM fQ hG nO beq_self_eq_true fF qQ nN dB sizeLine_eq Sl.i.injEq exists_and_left")
theorem D1:bj (ar sV) ["self","deeds","name","coming"] ["deed","name"] 1 [2] ⟨NZ,[ (NN ".0",Wx),(NN "deed",Wx),(NN "name",NY)],false,false,[]⟩:= .of
theorem xD:bj (ar tj) ["paper","happening"] ["day","other","happening"] 2 [1] ⟨NZ,[ (NN ".0",Wx),(NN "day",Wx),(NN "other",Wx),(NN "happening",NY)],false,false,[]⟩:= .of
section
variable {P:Vj} {w:Vm} {K:NM} {mg:Str->Option U8} {base:Vl} {t:cM}
inductive cC where
 | com
 | fst (wd:Str)
 | lst (wd:Str)
def cC.enc:cC->U7
 | .com=>.tuple [.str (NL "coming")]
 | .fst wd=>.tuple [.str (NL "first"),.str wd]
 | .lst wd=>.tuple [.str (NL "last"),.str wd]
def cC.Ok:cC->Prop
 | .com=>True
 | .fst wd=>N0 wd=true
 | .lst wd=>N0 wd=true
inductive Pt where
 | two (w kd:Str)
 | five (w kd:Str) (s:cC) (k:Int) (u:Str)
def Pt.enc:Pt->U7
 | .two w kd=>.tuple [.str w,.str kd]
 | .five w kd s k u=>.tuple [.str w,.str kd,s.enc,.int k,.str u]
def KG(w:Str):Prop:=w=NL "keep"\/w=NL "gone"
def Pt.Ok:Pt->Prop
 | .two w kd=>¬KG w/\N0 w=true/\N0 kd=true
 | .five w kd s k u=>KG w/\N0 kd=true/\s.Ok/\0<=k/\k < 1000/\hZ u
def De.isR:De->Bool
 | .oth w _ _ _=>w==NL "rule"
 | _=>false
def De.isE:De->Bool
 | .oth w _ _ _=>w==NL "rule" || w==NL "end"
 | _=>false
structure cJ (xs:List De):Prop where
 gx:eO xs
 hp:∀d nm r,De.oth (NL "happens") d nm r∈xs->∃wd,r=[.str wd]/\N0 wd=true
 ru:∀d nm r,De.oth (NL "rule") d nm r∈xs->∃pt:Pt,r=[pt.enc]/\pt.Ok
 nd:xs.Nodup
 d0:∀x∈xs,0<=x.d/\x.d < 100000
 re:∀x∈xs,∀y∈xs,x.isE=true->y.isE=true->x.d=y.d->x.nm=y.nm->x=y
def fW(nm:Str):De->Bool
 | .oth w _ n _=>w==NL "happens" && n==nm
 | _=>false
def jv:De->Int×Str
 | .oth _ d _ [.str wd]=>(d,wd)
 | x=>(x.d,NL "")
def dW(xs:List De)(nm:Str):List (Int×Str):=(xs.filter (fW nm)).map jv
theorem xE{xs:List De}(g:cJ xs)(nm:Str):(dW xs nm).Nodup:=by
 unfold dW;rw [QV,OX];refine UM (λ{a b} ha hb h e=>?_) (g.nd.sublist PK);obtain⟨a1,a2⟩:=Oh.mp ha;obtain⟨b1,b2⟩:=Oh.mp hb;cases a with
 | pap p=>cases a2
 | oth w d n r=>
  cases b with
  | pap p=>cases b2
  | oth w' d' n' r'=>
   simp only [fW,OV,beq_iff_eq] at a2 b2;obtain⟨rfl,rfl⟩:=a2;obtain⟨rfl,rfl⟩:=b2;obtain⟨wd,rfl,_⟩:=g.hp _ _ _ a1;obtain⟨wd',rfl,_⟩:=g.hp _ _ _ b1;simp only [jv,UA] at e;exact h (by rw [e.1,e.2])
structure Rp where
 c:Pp
 ts:List Str
 hs:List (Int×Str)
def Rp.enc(C:U9)(r:Rp):U7:=Cu C [(NL "name",.str r.c.nm),(NL "coming",.int r.c.d),(NL "kind",.str r.c.kd),(NL "makers",.tuple (r.ts.map .str)),(NL "happenings",.list (r.hs.map cu))]
open Classical in
def fI(l:List (Int×Str)):List (Int×Str):=if h:∃s:List (Int×Str),s.Perm l/\s.Pairwise (λa b=>aK a b=true) then h.choose else []
theorem tX{s l:List (Int×Str)}(h1:s.Perm l)(h2:s.Pairwise λa b=>aK a b=true):s=fI l:=by
 unfold fI;have h:∃s:List (Int×Str),s.Perm l/\s.Pairwise (λa b=>aK a b=true):=⟨s,h1,h2⟩;rw [dif_pos h];exact lR (λa b z=>tU z) (h1.trans h.choose_spec.1.symm) h2 h.choose_spec.2
theorem LQ{l l':List (Int×Str)}(p:l.Perm l'):fI l=fI l':=by
 by_cases h:∃s:List (Int×Str),s.Perm l/\s.Pairwise (λa b=>aK a b=true)
 ·obtain⟨s,h1,h2⟩:=h;rw [<-tX h1 h2,<-tX (h1.trans p) h2]
 ·have h':¬ ∃s:List (Int×Str),s.Perm l'/\s.Pairwise (λa b=>aK a b=true):=λ⟨s,h1,h2⟩=>h ⟨s,h1.trans p.symm,h2⟩;unfold fI;rw [dif_neg h,dif_neg h']
def bw(xs:List De)(c:Pp):Rp:=⟨c,(cY (aN xs) c).map (·.nm),fI (dW xs c.nm)⟩
theorem ib{f g:Str}{d x:U7}{r:List (Str×U7)}(h:g≠f):fz f d ((g,x)::r)=(g,x)::fz f d r:=by rw [fz,U3 h]
theorem fX{a b:U7}:fz (NL "coming") b (fz (NL "name") a [])=[(NL "name",a),(NL "coming",b)]:=by
 rw [show fz (NL "name") a []=[(NL "name",a)] from rfl,ib U0];rfl
theorem LR{a b c:U7}:fz (NL "kind") c [(NL "name",a),(NL "coming",b)]=[(NL "name",a),(NL "coming",b),(NL "kind",c)]:=by
 rw [ib U0,ib U0];rfl
theorem LS{a b c d:U7}:fz (NL "makers") d [(NL "name",a),(NL "coming",b),(NL "kind",c)]=[(NL "name",a),(NL "coming",b),(NL "kind",c),(NL "makers",d)]:=by
 rw [ib U0,ib U0,ib U0];rfl
theorem LU{a b c d e:U7}:fz (NL "happenings") e [(NL "name",a),(NL "coming",b),(NL "kind",c),(NL "makers",d)]=[(NL "name",a),(NL "coming",b),(NL "kind",c),(NL "makers",d),(NL "happenings",e)]:=by
 rw [ib U0,ib U0,ib U0,ib U0];rfl
def LV(C:U9):List U7->(U7->Prop)->Prop:=λds Q=>∃(xs:List De)(c:Pp),ds=[.tuple (xs.map De.enc),.str c.nm]/\cJ xs/\c∈aN xs/\((∀z,z∈fI (dW xs c.nm)↔z∈dW xs c.nm)->(fI (dW xs c.nm)).Pairwise (λa b=>aK a b=true)->(fI (dW xs c.nm)).length<=41->Q ((bw xs c).enc C))
theorem D2(T:Txt K mg t):ay P w K mg base aH 7 t.a_I t.d_I ["self","deeds","name"] (sG K t.u_Paper (LV t.u_Paper)):=by
 have G_L:=@xC P w _ _ base _ T;have G_O:=@LN P w _ _ base _ T;refine T.F_I.F.okI tL (λds Q h=>?_) (λcdv A outer s H H1 O ds Q E l hr h=>?_)
 ·obtain⟨xs,c,rfl,_⟩:=h;rfl
 ·obtain⟨xs,c,rfl,gd,hc,q⟩:=h;refine'⟨_,?A,?B⟩
  case A=>
   refine' aq ?C ?D
   case C=>exact(bH (i:=3) tL.nd rfl U5 (ax G_L hr T.F_L (aa (dv 1) (aa (dv 2) ah))))
   case' D=>refine' aq ?E ?F
   case E=>exact(oV (C:=t.u_Paper) (i:=0) T.cl_Paper T.na_Paper_name (pv 0) (av aC aD (dv 3) ag))
   case' F=>refine' aq ?G ?H
   case G=>exact(oV (C:=t.u_Paper) (i:=0) T.cl_Paper T.na_Paper_coming (pv 0) (av aC aD (dv 3) ag))
   case' H=>refine' aq ?I ?J
   case I=>exact(oV (C:=t.u_Paper) (i:=0) T.cl_Paper T.na_Paper_kind (pv 0) (av aC aD (dv 3) ag))
   case' J=>refine' aq ?K ?L
   case K=>exact(oV (C:=t.u_Paper) (i:=0) T.cl_Paper T.na_Paper_makers (pv 0) (ax G_O hr T.F_O (aa (dv 1) (aa (dv 2) ah))))
   case' L=>refine' au ?M
   case M=>exact(oV (C:=t.u_Paper) (i:=0) T.cl_Paper T.na_Paper_happenings (pv 0) (fe (Co rfl T.n_sorted Pw (bt (fe (kP rfl D1 (df (dv 1)) aW cz U1 (λ_ _ _ _=>(aS (i:=0) D1.nd rfl U5)) (λ_ _ _ _=>(di (PW.pt (dE (aG (cF hr) cG (av aC aD (dv 0) ag) aQ (az _)) (d6 (aG (cn hr.units) cq (av aC aD (dv 0) ag) (dv 1) (az _))))))) (λ_ _ _ _=>(bE (aa (av aC aD (dv 0) ag) (aa (av aC aD (dv 0) ag) ah)))))) br))))
  case B=>
  clear hr T G_L G_O;simp only [oW,eV,NS,OS,Pz,O4,Uw,Og,Pf,Qi,Qj,Oa];walk_at "e";refine⟨xs,c,rfl,gd.gx,hc,?_⟩;simp only [Pp.enc];walk_at "e";simp only [fX,LR,LS,LU];have ln:=gd.gx.ln;have lt:∀n:Nat,n < 10->n < 1000:=λn h=>by omega
  refine⟨lt 1 U1,lt 2 U1,xs,c,rfl,gd.gx,hc,⟨lt 3 U1,by rw [NO];omega,DW (fW c.nm) (λx=>cu (jv x)) (λx hx R S h1 h0=>?_) ?_⟩⟩
  ·cases x with
   | pap p=>
    simp only [De.enc,Pp.enc];walk_at "d";exact h0 rfl
   | oth w d nm r=>
    simp only [De.enc];walk_at "d";by_cases e:w=NL "happens"
    ·subst e;obtain⟨wd,rfl,_⟩:=gd.hp _ _ _ hx;rw [U4 (beq_self_eq_true _)];refine⟨cW.mpr (gd.gx.nm _ hx),cW.mpr (gd.gx.gp.nm c hc),?_⟩;split
     ·rename_i h2;exact⟨_,g9,h1 (by simp only [fW,beq_self_eq_true,Qh];exact h2)⟩
     ·rename_i h2;exact h0 (by simp only [fW,beq_self_eq_true,Qh];simpa using h2)
    ·rw [cg e,U3 NW];exact h0 (by simp only [fW,cg e,RT])
  ·have hl:(dW xs c.nm).length<=41:=by
    unfold dW;rw [NO];have:=OM (fW c.nm) xs;omega
   refine⟨dW xs c.nm,by unfold dW;rw [Oe];rfl,U2,xE gd c.nm,λhs h1 h2=>⟨lt 4 U1,?_⟩⟩;have e:=tX h1 h2;have q:=q (λz=>by rw [<-e];exact h1.mem_iff) (by rw [<-e];exact h2) (by rw [<-e,h1.length_eq];exact hl);rw [e];exact q
def D3(hs:List (Int×Str)):Prop:=hs.length<=41/\∀z∈hs,N0 z.2=true
def lV(hs:List (Int×Str))(wd:Str):List Int:=(hs.filter λz=>z.2==wd).map (·.1)
def F_R(C:U9):List U7->(U7->Prop)->Prop:=λds Q=>∃(r:Rp)(wd:Str),ds=[r.enc C,.str wd]/\D3 r.hs/\N0 wd=true/\Q (.list ((lV r.hs wd).map .int))
theorem LW{a b c d e:U7}:cj [NL "name",NL "coming",NL "kind",NL "makers",NL "happenings"] [a,b,c,d,e] (NL "happenings")=some e:=by
 simp only [cj];rw [U3 U0,U3 U0,U3 U0,U3 U0,U4 trivial]
theorem D4{a b c d e:U7}:cj [NL "name",NL "coming",NL "kind",NL "makers",NL "happenings"] [a,b,c,d,e] (NL "coming")=some b:=by
 simp only [cj];rw [U3 U0,U4 trivial]
theorem LX{a b c d e:U7}:cj [NL "name",NL "coming",NL "kind",NL "makers",NL "happenings"] [a,b,c,d,e] (NL "kind")=some c:=by
 simp only [cj];rw [U3 U0,U3 U0,U4 trivial]
theorem LY(T:Txt K mg t):ay P w K mg base aH 1 t.a_R t.d_R ["paper","happening"] (bo K (F_R t.u_Paper)):=by
 refine T.F_R.F.okD Lc (λds Q h=>?_) (λ_ _ _ _ H O ds Q E hr h=>?_)
 ·obtain⟨r,wd,rfl,_⟩:=h;rfl
 ·obtain⟨r,wd,rfl,⟨hl,hok⟩,wok,q⟩:=h;refine'⟨_,?A,?B⟩
  case A=>
   refine' au ?C
   case' C=>refine' aJ ?D
   case' D=>refine' fe ?E
   case E=>exact(fP rfl xD (df (lF (C:=t.u_Paper) T.cl_Paper T.na_Paper_happenings (dv 0))) (jh (d7 aW (d7 aW jg))) wb U1 (λ_ _ _ _=>(iw (n:=2) rfl (dA (aS (i:=0) xD.nd rfl U5) (dA (aS (i:=1) xD.nd rfl U5) iu)))) (λ_ _ _ _=>(di (aG (cn hr.units) cq (dv 1) (dv 2) (az _)))) (λ_ _ _ _=>(dv 0)))
  case B=>
  clear hr T;walk_at "d";refine⟨[NL "name",NL "coming",NL "kind",NL "makers",NL "happenings"],_,rfl,_,LW,_,rfl,by rw [NO];omega,cZ (λz:Int×Str=>z.2==wd) (λz=>.int z.1) (λx hx R S h=>?_) ?_⟩
  ·simp only [cu];walk_at "d";exact⟨cW.mpr (hok x hx),cW.mpr wok,h⟩
  ·unfold lV at q;rw [Oe] at q;exact q
end
theorem D5:bj (ar sY) ["deeds","words","day","found","deed","known"] ["name","found"] 1 [3] ⟨NZ,[ (NN ".0",Wx),(NN "name",Wx),(NN "found",NY)],false,false,[]⟩:= .of
section
variable {P:Vj} {w:Vm} {K:NM} {mg:Str->Option U8} {base:Vl} {t:cM}
def F_P:List U7->(U7->Prop)->Prop:=λds Q=>∃(xs:List Rw)(ws:List Str)(n:Int),ds=[.tuple (xs.map Rw.enc),.tuple (ws.map .str),.int n]/\(∀x∈xs,N0 x.w=true)/\Pk (ws.map .str)=true/\xs.length < 64/\∀res,oG ws n xs res->Q (.list (res.map Rw.enc))
theorem D6{ws:List Str}{w:Str}:((ws.map NP).any λd=>N4 d (.str w))=decide (w∈ws):=by
 induction ws with
 | nil=>simp
 | cons a ws ih=>
  rw [NS,PB,ih,fQ];by_cases h:a=w
  ·simp [h]
  ·have h':(a==w)=false:=by simpa using h
   rw [h'];simp [Ne.symm h]
theorem LZ(T:Txt K mg t):ay P w K mg base aH 1 t.a_P t.d_P ["deeds","words","day"] (bo K F_P):=by
 refine T.F_P.F.okD tN (λds Q h=>?_) (λ_ _ _ _ H O ds Q E hr h=>?_)
 ·obtain⟨xs,ws,n,rfl,_⟩:=h;rfl
 ·obtain⟨xs,ws,n,rfl,hw,hws,h64,q⟩:=h;refine'⟨_,?A,?B⟩
  case A=>
   refine' aq ?C ?D
   case C=>exact(lA (i:=3) tN.nd rfl U5 rX)
   case' D=>refine' aq ?E ?F
   case E=>
    refine' qN OO rfl (dv 0) ?G aW ?H
    case G=>exact(aS (i:=4) tN.nd rfl U5)
    case' H=>refine' au ?I
    case' I=>refine' bC ?J ?K bB
    case J=>exact(PW.pt (dE (aG (vQ hr) nX (av aC aD (dv 4) ag) (dv 1) rfl) (d6 (aG gn dF (av aC aD (dv 4) ag) (dv 2) (az _)))))
    case' K=>refine' aq ?L ?M
    case L=>exact(bH (i:=5) tN.nd rfl U5 (B3 (i:=3) hr.units (pv 3) (av aC aD (dv 4) ag) ⟨rfl,rfl,rfl,rfl⟩))
    case' M=>refine' au ?N
    case' N=>refine' bC ?O ?P bB
    case O=>exact(PW.pt (jc (aG kj lB (dv 5) fv (az _)) (jb (aG qv dF (av aC aD (dv 5) ag) (av aC aD (dv 4) ag) (az _)))))
    case' P=>refine' au ?Q
    case Q=>exact(rY (i:=3) hr.units (pv 3) (av aC aD (dv 4) ag) (dv 4))
   case' F=>refine' au ?R
   case' R=>refine' aJ ?S
   case' S=>refine' fe ?T
   case T=>exact(fP rfl D5 (df (fe (B6 (i:=3) rfl rfl T.n_sorted Pw (pv 3)))) aW cz U1 (λ_ _ _ _=>(aS (i:=0) D5.nd rfl U5)) (λ_ _ _ _=>iH) (λ_ _ _ _=>(ow (i:=1) hr.units (pv 1) (dv 0) (λ_ _=>rfl))))
  case B=>
  clear hr T;walk_at "d";refine⟨λi δ=>∃L o4 o5,d9 ws n (xs.take i) L/\δ=[some (Sl.v (.tuple (xs.map Rw.enc))),some (Sl.v (.tuple (ws.map .str))),some (Sl.v (.int n)),some (Sl.k (eY L)),o4,o5],⟨[],_,_,d9.nil _ _,rfl⟩,?_,?_⟩
  ·rintro i x δ hx ⟨L,o4,o5,hL,rfl⟩;rw [Ob] at hx;cases hx':xs[i]? with
   | none=>rw [hx'] at hx;cases hx
   | some y=>
    rw [hx'] at hx;cases hx;have hy:y∈xs:=Oq hx';have tk:xs.take (i+1)=xs.take i++[y]:=by rw [Pb,hx'];rfl
    simp only [Rw.enc];walk_at "d";have hle:L.length < 64:=by have:=hL.le;rw [OQ] at this;omega
    have hk:(eY L).length < 16777216:=by unfold eY;rw [NO];omega
    have en:N3 (NP y.w::NQ y.n::NP y.nm::y.r)=y.enc:=rfl;refine⟨cW.mpr (hw y hy),hws,?_⟩;rw [D6];by_cases hin:y.w∈ws
    ·rw [U4 (decide_eq_true hin)];by_cases hn:y.n<=n
     ·rw [U4 hn,lC,en];cases hl:cT L y.nm with
      | none=>
       rw [U4 (show cS ((Option.map Rw.enc none).getD P2)=true from rfl)];exact⟨hk,_,by rw [tk];exact hL.put ⟨hin,hn⟩ (λz e=>by rw [hl] at e;cases e),sq L y.nm y,_,rfl⟩
      | some z=>
       rw [U3 (by simp [cS,Rw.enc])];refine⟨_,rfl,_,dG,_,rfl,?_⟩;split
       ·rename_i hlt;exact⟨hk,_,by rw [tk];exact hL.put ⟨hin,hn⟩ (λz' e=>by rw [hl] at e;cases e;exact hlt),sq L y.nm y,_,rfl⟩
       ·rename_i hlt;exact⟨L,by rw [tk];exact hL.keep hl hlt,rfl,_,rfl⟩
     ·rw [U3 hn];exact⟨L,by rw [tk];exact hL.skip (λz=>hn z.2),rfl,_,rfl⟩
    ·rw [U3 (by simpa using hin)];exact⟨L,by rw [tk];exact hL.skip (λz=>hin z.1),rfl,_,rfl⟩
  ·rintro δ ⟨L,o4,o5,hL,rfl⟩;walk_at "d";rw [NO,OD (NV _)] at hL;have hle:L.length < 64:=by have:=hL.le;omega
   refine⟨L.map (·.1),by unfold eY;rw [Oe,Oe];rfl,by rw [NO];exact hle,by rw [NO,(fG _).length_eq,NO];omega,?_⟩;refine vV (λx=>match x with | .str nm=>((cT L nm).map Rw.enc).getD .none | _=>.none) (λx hx R hR=>?_) ?_
   ·obtain⟨nm,hnm,rfl⟩:=N6.mp hx;obtain⟨z,hz⟩:=oH ((fG _).mem_iff.mp hnm);walk_at "d";refine⟨z.enc,by rw [lC,hz];rfl,?_⟩;have hR:R (((cT L nm).map Rw.enc).getD .none):=hR;rw [hz] at hR;exact hR
   ·have e:∀l:List Str,(∀a∈l,a∈L.map (·.1))->(l.map NP).map (λx=>match x with | .str nm=>((cT L nm).map Rw.enc).getD .none | _=>.none)=(l.filterMap (cT L)).map Rw.enc:=by
     intro l
     induction l with
     | nil=>intro _;rfl
     | cons a l ih=>
      intro hl;obtain⟨z,hz⟩:=oH (hl a U6);rw [NS,NS,Pr,hz,ih λb hb=>hl b (by simp [hb])];simp [hz]
    rw [e _ λa ha=>(fG _).mem_iff.mp ha];exact q _ hL.res
end
theorem D7:bj (ar sZ) ["deeds","day"] ["deed"] 1 [] ⟨NZ,[(NN ".0",Wx),(NN "deed",Wx)],false,false,[]⟩:= .of
section
variable {P:Vj} {w:Vm} {K:NM} {mg:Str->Option U8} {base:Vl} {t:cM}
def fb:List Str:=["rule","end"]
def gO(res:List Rw):List U7:=(res.filter λx=>x.w==NL "rule").map λx=>.tuple [.str x.nm,x.r.headD .none]
structure D8 (xs:List Rw):Prop where
 st:∀x∈xs,N0 x.w=true
 ru:∀x∈xs,x.w=NL "rule"->∃p,x.r=[p]
 le:xs.length < 64
def L4:List U7->(U7->Prop)->Prop:=λds Q=>∃(xs:List Rw)(n:Int),ds=[.tuple (xs.map Rw.enc),.int n]/\D8 xs/\∀res,oG fb n xs res->Q (.tuple (gO res))
theorem L5(T:Txt K mg t):ay P w K mg base aH 2 t.a_Q t.d_Q ["deeds","day"] (bo K L4):=by
 have G_P:=@LZ P w _ _ base _ T;refine T.F_Q.F.okD Lb (λds Q h=>?_) (λ_ _ _ _ H O ds Q E hr h=>?_)
 ·obtain⟨xs,n,rfl,_⟩:=h;rfl
 ·obtain⟨xs,n,rfl,ok,q⟩:=h;refine'⟨_,?A,?B⟩
  case A=>
   refine' au ?C
   case' C=>generalize hG2:TV _ _ _ _=eg2
   refine' aJ ?D
   case' D=>subst hG2
   exact(PE.imp (eR iz rfl T.n_tuple gA (bt (fe (fP rfl D7 (df (ax G_P hr T.F_P (aa (dv 0) (aa (bE (aa aQ (aa aQ ah))) (aa (dv 1) ah))))) aW cz U1 (λ_ _ _ _=>(aS (i:=0) D7.nd rfl U5)) (λ_ _ _ _=>(di (aG (cF hr) cG (av aC aD (dv 0) ag) aQ (az _)))) (λ_ _ _ _=>(bE (aa (av aC aD (dv 0) ag) (aa (av aC aD (dv 0) ag) ah)))))) br)) (bJ iG))
  case B=>
  clear hr T G_P;walk_at "d";refine⟨xs,fb,n,rfl,ok.st,U0,ok.le,λres hres=>⟨_,rfl,?_,?_⟩⟩
  ·rw [NO];have:=hres.le;have:=ok.le;omega
  refine Jp (λx=>match x with | .tuple (.str w:: .int n:: .str nm::r)=>if (w==NL "rule")=true then some (.tuple [.str nm,r.headD .none]) else none | _=>none) (λx hx R S h=>?_) ?_
  ·obtain⟨y,hy,rfl⟩:=N6.mp hx;simp only [Rw.enc] at h⊢;walk_at "d";by_cases hr:(y.w==NL "rule")=true
   ·rw [U4 hr] at h⊢;obtain⟨p,hp⟩:=ok.ru y (hres.it y hy).1 (eq_of_beq hr);rw [hp] at h⊢;exact⟨p,g9,h⟩
   ·rw [U3 hr] at h⊢;exact h
  ·have e:∀l:List Rw,(l.map Rw.enc).filterMap (λx=>match x with | .tuple (.str w:: .int n:: .str nm::r)=>if (w==NL "rule")=true then some (.tuple [.str nm,r.headD .none]) else none | _=>none)=gO l:=by
    intro l
    induction l with
    | nil=>rfl
    | cons a l ih=>
     rw [NS,Pr,ih];unfold gO;simp only [Rw.enc,O5];by_cases hr:(a.w==NL "rule")=true
     ·rw [U4 hr,U4 hr];rfl
     ·rw [U3 hr,U3 hr]
   rw [e];exact q res hres
theorem L6{s s':cC}(h:s.enc=s'.enc):s=s':=by
 have n1:NL "first"≠NL "last":=U0
 cases s <;> cases s' <;> simp only [cC.enc,PX,ON,PV,and_true,reduceCtorEq,and_false] at h
 ·rfl
 ·rw [h.2]
 ·exact absurd h.1 n1
 ·exact absurd h.1.symm n1
 ·rw [h.2]
theorem xF{a b:Pt}(h:a.enc=b.enc):a=b:=by
 cases a <;> cases b <;> simp only [Pt.enc,PX,ON,PV,QD,and_true,reduceCtorEq,and_false] at h
 ·rw [h.1,h.2]
 ·obtain⟨h1,h2,h3,h4,h5⟩:=h;rw [h1,h2,L6 h3,h4,h5]
theorem D9{α β:Type}{f:α->β}:∀{l:List α},(l.map f).Nodup->∀{a b:α},a∈l->b∈l->f a=f b->a=b
 | x::l,nd,a,b,ha,hb,e=>by
  rw [NS,PL] at nd;rcases N9.mp ha with ea | ha1 <;> rcases N9.mp hb with eb | hb1
  ·rw [ea,eb]
  ·subst ea;exact absurd (N6.mpr ⟨b,hb1,e.symm⟩) nd.1
  ·subst eb;exact absurd (N6.mpr ⟨a,ha1,e⟩) nd.1
  ·exact D9 nd.2 ha1 hb1 e
def De.rw:De->Rw
 | .pap p=>⟨NL "paper",p.d,p.nm,[.str p.kd,.tuple (p.ms.map .str)]⟩
 | .oth w d nm r=>⟨w,d,nm,r⟩
theorem De.rw_enc(x:De):x.rw.enc=x.enc:=by cases x <;> rfl
theorem Ea(xs:List De):(xs.map De.rw).map Rw.enc=xs.map De.enc:=by
 rw [Oe];congr 1;funext x;exact x.rw_enc
def xG(xs:List De)(n:Int)(z:Str×Pt):Prop:=∃d,d<=n/\De.oth (NL "rule") d z.1 [z.2.enc]∈xs/\∀x∈xs,x.isE=true->x.nm=z.1->x.d<=n->x.d<=d
def lW(a b:Str×Pt):Prop:=dR a.1 b.1=true/\a.1≠b.1
def eD(xs:List De)(n:Int)(L:List (Str×Pt)):Prop:=L.Pairwise lW/\∀z,z∈L↔xG xs n z
theorem L7(a b:Str×Pt)(h:lW a b):¬lW b a:=λz=>h.2 (BP h.1 z.1)
theorem Eb{L:List (Str×Pt)}(h:L.Pairwise lW):L.Nodup:=h.imp λ{a b} z e=>z.2 (by rw [e])
theorem L8{L M:List (Str×Pt)}(h1:L.Pairwise lW)(h2:M.Pairwise lW)(h:∀z,z∈L↔z∈M):L=M:=
 lR L7 ((R8 (Eb h1) (Eb h2)).mpr h) h1 h2
open Classical in
def bI(xs:List De)(n:Int):List (Str×Pt):=if h:∃L,eD xs n L then h.choose else []
theorem tY{xs:List De}{n:Int}{L:List (Str×Pt)}(h:eD xs n L):L=bI xs n:=by
 unfold bI;have e:∃L,eD xs n L:=⟨L,h⟩;rw [dif_pos e];exact L8 h.1 e.choose_spec.1 λz=>(h.2 z).trans (e.choose_spec.2 z).symm
def dn(z:Str×Pt):U7:= .tuple [.str z.1,z.2.enc]
theorem L9{x:De}(np:x.rw.w∈fb)(hp:∀p,x≠ .pap p):x.isE=true:=by
 cases x with
 | pap p=>exact absurd rfl (hp p)
 | oth w d nm r=>
  have:w=NL "rule"\/w=NL "end":=by
   have h:w∈fb:=np;unfold fb at h;rcases N9.mp h with e | h
   ·exact .inl e
   ·rcases N9.mp h with e | h
    ·exact .inr e
    ·cases h
  rcases this with e | e
  ·simp [De.isE,e]
  ·simp [De.isE,e]
theorem Ec{x:De}(h:x.isE=true):x.rw.w∈fb/\x.rw.nm=x.nm/\x.rw.n=x.d:=by
 cases x with
 | pap p=>cases h
 | oth w d nm r=>
  refine⟨?_,rfl,rfl⟩;simp only [De.isE,QL,beq_iff_eq] at h;show w∈fb;unfold fb;rcases h with e | e
  ·rw [e];exact OY
  ·rw [e];exact OB _ OY
theorem Ma:NL "paper" ∉ fb:=U0
theorem Ed{xs:List De}{n:Int}{res:List Rw}(g:cJ xs)(h:oG fb n (xs.map De.rw) res):∃L,eD xs n L/\gO res=L.map dn:=by
 have from1:∀x∈res,x.w=NL "rule"->∃pt:Pt,pt.Ok/\x.r=[pt.enc]/\De.oth (NL "rule") x.n x.nm [pt.enc]∈xs:=λx hx hw=>by
  obtain⟨h1,_,_⟩:=h.it x hx;obtain⟨y,hy,rfl⟩:=N6.mp h1;cases y with
  | pap p=>exact absurd hw (by show NL "paper"≠_;decide+kernel)
  | oth w d nm r=>
   have hw:w=NL "rule":=hw;subst hw;obtain⟨pt,e,ok⟩:=g.ru _ _ _ hy;subst e;exact⟨pt,ok,rfl,hy⟩
 have pick:∀l:List Rw,(∀x∈l,x∈res)->∃L:List (Str×Pt),gO l=L.map dn/\L.map (·.1)=(l.filter λx=>x.w==NL "rule").map (·.nm)/\∀z∈L,∃x∈l,x.w=NL "rule"/\x.nm=z.1/\x.r=[z.2.enc]:=by
  intro l
  induction l with
  | nil=>intro _;exact⟨[],rfl,rfl,U6⟩
  | cons a l ih=>
   intro hl;obtain⟨L,e1,e2,e3⟩:=ih λx hx=>hl x (by simp [hx]);by_cases hr:(a.w==NL "rule")=true
   ·obtain⟨pt,_,er,_⟩:=from1 a (hl a U6) (eq_of_beq hr);refine⟨(a.nm,pt)::L,?_,?_,?_⟩
    ·unfold gO at e1⊢;rw [O5,U4 hr,NS,NS,e1,er];rfl
    ·rw [O5,U4 hr,NS,NS,e2]
    ·intro z hz;rcases N9.mp hz with rfl | hz
     ·exact⟨a,U6,eq_of_beq hr,rfl,er⟩
     ·obtain⟨x,hx,h'⟩:=e3 z hz;exact⟨x,by simp [hx],h'⟩
   ·refine⟨L,?_,?_,?_⟩
    ·unfold gO at e1⊢;rw [O5,U3 hr,e1]
    ·rw [O5,U3 hr,e2]
    ·intro z hz;obtain⟨x,hx,h'⟩:=e3 z hz;exact⟨x,by simp [hx],h'⟩
 obtain⟨L,e1,e2,e3⟩:=pick res λ_ h=>h;have key:∀x∈res,∀pt:Pt,x.r=[pt.enc]->x.w=NL "rule"->xG xs n (x.nm,pt):=λx hx pt er hw=>by
  obtain⟨pt',_,er',hm⟩:=from1 x hx hw;obtain⟨h1,⟨_,h2⟩,h3⟩:=h.it x hx;rw [er] at er';rw [<-(RE er').1] at hm;refine⟨x.n,h2,hm,λy hy ye yn yd=>?_⟩;obtain⟨a,b,c⟩:=Ec ye;have:=h3 y.rw (N6.mpr ⟨y,hy,rfl⟩) ⟨a,by rw [c];exact yd⟩ (by rw [b];exact yn);rw [c] at this;exact this
 refine⟨L,⟨?_,λz=>⟨λhz=>?_,λhz=>?_⟩⟩,e1⟩
 ·have up:(L.map (·.1)).Pairwise λa b=>dR a b=true:=by
   rw [e2];exact h.up.sublist (PK.map _)
  have nd:(L.map (·.1)).Nodup:=by
   rw [e2];exact h.nd.sublist (PK.map _)
  rw [OX] at up;rw [QV,OX] at nd;exact up.and nd
 ·obtain⟨x,hx,hw,hn,hr⟩:=e3 z hz;have:=key x hx z.2 hr hw;rw [hn] at this;exact this
 ·obtain⟨d,hd,hm,hal⟩:=hz;have hmr:(De.oth (NL "rule") d z.1 [z.2.enc]).rw∈xs.map De.rw:=N6.mpr ⟨_,hm,rfl⟩;have hok:fS fb n (De.oth (NL "rule") d z.1 [z.2.enc]).rw:=⟨OY,hd⟩;obtain⟨x,hx,xn⟩:=h.al _ hmr hok;have xn:x.nm=z.1:=xn;obtain⟨h1,⟨h2a,h2b⟩,h3⟩:=h.it x hx;obtain⟨y,hy,ey⟩:=N6.mp h1;have hyE:y.isE=true:=L9 (by rw [ey];exact h2a) λp hp=>by
   rw [hp] at ey;rw [<-ey] at h2a;exact Ma h2a
  obtain⟨_,yb,yc⟩:=Ec hyE;have dd:d<=x.n:=h3 _ hmr hok xn.symm;have dd2:x.n<=d:=by
   have:=hal y hy hyE (by rw [<-yb,ey];exact xn) (by rw [<-yc,ey];exact h2b);rw [<-yc,ey] at this;exact this
  have ee:y=De.oth (NL "rule") d z.1 [z.2.enc]:=g.re y hy _ hm hyE (by simp [De.isE]) (by rw [<-yc,ey];exact SQ dd2 dd) (by rw [<-yb,ey];exact xn);subst ee;have hw:x.w=NL "rule":=by rw [<-ey];rfl
  have hr:x.r=[z.2.enc]:=by rw [<-ey];rfl
  have:z.1∈L.map (·.1):=by
   rw [e2];exact N6.mpr ⟨x,Oh.mpr ⟨hx,by rw [hw];exact beq_self_eq_true _⟩,xn⟩
  obtain⟨v,hv,vn⟩:=N6.mp this;obtain⟨x',hx',hw',hn',hr'⟩:=e3 v hv;have exx:x'=x:=D9 h.nd hx' hx (hn'.trans (vn.trans xn.symm));rw [exx,hr] at hr';have:v=z:=by
   obtain⟨v1,v2⟩:=v;obtain⟨z1,z2⟩:=z;have a1:v1=z1:=vn;have a2:z2.enc=v2.enc:=(RE hr').1;rw [a1,xF a2.symm]
  rw [<-this];exact hv
def Mb:List U7->(U7->Prop)->Prop:=λds Q=>∃(xs:List De)(n:Int),ds=[.tuple (xs.map De.enc),.int n]/\cJ xs/\(eD xs n (bI xs n)->(bI xs n).length<=41->Q (.tuple ((bI xs n).map dn)))
theorem Ee{xs:List De}(g:cJ xs)(wok:∀w d nm r,De.oth w d nm r∈xs->N0 w=true):D8 (xs.map De.rw):=by
 refine⟨λx hx=>?_,λx hx hw=>?_,?_⟩
 ·obtain⟨y,hy,rfl⟩:=N6.mp hx;cases y with
  | pap p=>show N0 (NL "paper")=true;decide+kernel
  | oth w d nm r=>exact wok _ _ _ _ hy
 ·obtain⟨y,hy,rfl⟩:=N6.mp hx;cases y with
  | pap p=>exact absurd hw (by show NL "paper"≠_;decide+kernel)
  | oth w d nm r=>
   have hw:w=NL "rule":=hw;subst hw;obtain⟨pt,e,_⟩:=g.ru _ _ _ hy;exact⟨_,e⟩
 ·rw [NO];have:=g.gx.ln;omega
theorem lX(T:Txt K mg t):ay P w K mg base aH 2 t.a_Q t.d_Q ["deeds","day"] (bo K Mb):=
 (L5 T).imp λvs H Q E ⟨O,ds,Qd,tr,hs,⟨xs,n,e,g,q⟩,k⟩=>⟨O,ds,Qd,tr,hs,⟨xs.map De.rw,n,by rw [Ea];exact e,Ee g (λw d nm r h=>g.gx.w _ h),λres hres=>by
  obtain⟨L,h1,h2⟩:=Ed g hres;have e:=tY h1;rw [h2,e];refine q (by rw [<-e];exact h1) ?_;have hl:(gO res).length<=res.length:=by unfold gO;rw [NO];exact OM _ _
  have:=hres.le;rw [NO] at this;rw [h2,NO,e] at hl;have:=g.gx.ln;omega⟩,k⟩
end
theorem Ef:bj (ar tm) ["paper","since","day","days"] ["other","day"] 1 [2] ⟨NZ,[ (NN ".0",Wx),(NN "other",Wx),(NN "day",NY)],false,false,[]⟩:= .of
section
variable {P:Vj} {w:Vm} {K:NM} {mg:Str->Option U8} {base:Vl} {t:cM}
open Classical in
def jw(d k:Int)(u:Str):Int:=if h:∃r,iO d k u r then h.choose else 0
theorem Eg{d k:Int}{u:Str}{r:Int}(h:iO d k u r):r=jw d k u:=by
 unfold jw;rw [dif_pos ⟨r,h⟩];exact Lw h (Exists.choose_spec (⟨r,h⟩:∃r,iO d k u r))
def bW:Option Int->U7
 | none=>.none
 | some i=>.int i
def fJ(r:Rp):Prop:=D3 r.hs/\N0 r.c.kd=true/\r.ts.length<=41/\∀m∈r.ts,N0 m=true
def gQ(r:Rp)(wd:Str)(n:Int):List Int:=(lV r.hs wd).filter λz=>decide (z<=n)
def pV(r:Rp)(n:Int):cC->Option Int
 | .com=>some r.c.d
 | .fst wd=>(gQ r wd n).head?
 | .lst wd=>(gQ r wd n).getLast?
theorem Mc{l:List Int}{Q:U7->Prop}(q:Q (bW l.head?)):if (!(l.map λz=>NQ z).isEmpty)=false then Q .none else ∃d,atI (l.map λz=>NQ z) 0=some d/\Q d:=by
 cases l with
 | nil=>rw [U4 (by rfl)];exact q
 | cons a l=>rw [U3 U6];exact⟨.int a,eX,q⟩
theorem AJ{l:List U7}{a:U7}:atI (l++[a]) (-1)=some a:=by
 unfold atI gu;rw [U3 U2,U4 (by rw [OR,RJ];omega)];rw [show((-1:Int)+((l++[a]).length:Nat)).toNat=l.length by rw [OR,RJ];omega];simp
theorem Md{l:List Int}{Q:U7->Prop}(q:Q (bW l.getLast?)):if (!(l.map λz=>NQ z).isEmpty)=false then Q .none else ∃d,atI (l.map λz=>NQ z) (-1)=some d/\Q d:=by
 rcases S7 l with e | ⟨l',a,e⟩
 ·subst e;rw [U4 (by rfl)];exact q
 ·rw [S8] at e;subst e;rw [U3 U6];refine⟨.int a,?_,?_⟩
  ·rw [OJ];exact AJ
  ·rw [Tj] at q;exact q
def Me(C:U9):List U7->(U7->Prop)->Prop:=λds Q=>∃(r:Rp)(s:cC)(n:Int),ds=[r.enc C,s.enc,.int n]/\s.Ok/\fJ r/\Q (bW (pV r n s))
theorem Mf(T:Txt K mg t):ay P w K mg base aH 2 t.a_S t.d_S ["paper","since","day"] (bo K (Me t.u_Paper)):=by
 have G_R:=@LY P w _ _ base _ T;refine T.F_S.F.okD C8 (λds Q h=>?_) (λ_ _ _ _ H O ds Q E hr h=>?_)
 ·obtain⟨r,s,n,rfl,_⟩:=h;rfl
 ·obtain⟨r,si,n,rfl,hsi,hh,q⟩:=h;refine'⟨_,?A,?B⟩
  case A=>
   refine' aq ?C ?D
   case C=>
    refine' bC ?E ?F bB
    case E=>exact(aG (cF hr) cG (av aC aD (dv 1) ag) aQ (az _))
    case' F=>refine' au ?G
    case G=>exact(aJ (lF (C:=t.u_Paper) T.cl_Paper T.na_Paper_coming (dv 0)))
   case' D=>refine' aq ?H ?I
   case H=>exact(iJ (i:=3) C8.nd rfl U5 (nU rfl Ef (df (ax G_R hr T.F_R (aa (dv 0) (aa (av aC aD (dv 1) ag) ah)))) aW cz U1 (λ_ _ _ _=>(aS (i:=0) Ef.nd rfl U5)) (λ_ _ _ _=>(di (aG gn dF (dv 0) (dv 1) (az _)))) (λ_ _ _ _=>(dv 0))))
   case' I=>refine' aq ?J ?K
   case J=>
    refine' bC ?L ?M bB
    case L=>exact(jK (wu (dv 3)))
    case M=>refine' au (aJ fv)
   case' K=>refine' au ?N
   case' N=>refine' aJ ?O
   case O=>exact(HY (aG (cF hr) cG (av aC aD (dv 1) ag) aQ (az _)) (av bQ bZ (dv 3) ag) (av bQ bZ (dv 3) (rz ag)))
  case B=>
  clear hr T G_R;have dl:∀wd,(lV r.hs wd).length<=41:=λwd=>by
   unfold lV;rw [NO];exact Ot (OM _ _) hh.1.1
  cases si with
  | com=>
   simp only [cC.enc];walk_at "d";exact⟨[NL "name",NL "coming",NL "kind",NL "makers",NL "happenings"],_,rfl,_,D4,q⟩
  | fst wd=>
   simp only [cC.enc];walk_at "d";rw [cg (show NL "first"≠NL "coming" by decide+kernel),U3 NW];have dl:=dl wd;refine⟨r,wd,rfl,hh.1,hsi,_,rfl,by rw [NO];omega,cZ (λz=>decide (z<=n)) (λz=>.int z) (λx hx R S h=>?_) ?_⟩
   ·walk_at "d";simpa using h
   ·have q:Q (bW (gQ r wd n).head?):=q;unfold gQ at q;exact Mc q
  | lst wd=>
   simp only [cC.enc];walk_at "d";rw [cg (show NL "last"≠NL "coming" by decide+kernel),U3 NW];have dl:=dl wd;refine⟨r,wd,rfl,hh.1,hsi,_,rfl,by rw [NO];omega,cZ (λz=>decide (z<=n)) (λz=>.int z) (λx hx R S h=>?_) ?_⟩
   ·walk_at "d";simpa using h
   ·have q:Q (bW (gQ r wd n).getLast?):=q;unfold gQ at q;exact Md q
def bX(r:Rp)(n:Int):Pt->Option Int
 | .five _ _ s k u=>(pV r n s).map λb=>jw b k u
 | .two _ _=>none
def Mg(C:U9):List U7->(U7->Prop)->Prop:=λds Q=>∃(r:Rp)(w kd:Str)(s:cC)(k:Int)(u:Str)(n:Int),ds=[r.enc C,(Pt.five w kd s k u).enc,.int n]/\s.Ok/\hZ u/\fJ r/\Q (bW (bX r n (.five w kd s k u)))
theorem Ei(T:Txt K mg t):ay P w K mg base aH 6 t.a_T t.d_T ["paper","parts","day"] (bo K (Mg t.u_Paper)):=by
 have G_S:=@Mf P w _ _ base _ T;have G_H:=@Lv P w _ _ base _ T;refine T.F_T.F.okD C9 (λds Q h=>?_) (λ_ _ _ _ H O ds Q E hr h=>?_)
 ·obtain⟨r,w,kd,s,k,u,n,rfl,_⟩:=h;rfl
 ·obtain⟨r,wo,kd,si,k,u,n,rfl,hsi,hu,hh,q⟩:=h;refine'⟨_,?A,?B⟩
  case A=>
   refine' aq ?C ?D
   case C=>
    refine' bH (i:=3) C9.nd rfl U5 ?E (hs:=iK)
    case E=>exact(ax G_S hr T.F_S (aa (dv 0) (aa (av aC aD (dv 1) ag) (aa (dv 2) ah))))
   case' D=>refine' aq ?F ?G
   case F=>
    refine' bC ?H ?I bB
    case H=>exact(aG kj lB (dv 3) fv (az _))
    case I=>refine' au (aJ fv)
   case' G=>refine' au ?J
   case' J=>refine' aJ ?K
   case K=>exact(ax G_H hr T.F_H (aa (dv 3) (aa (av aC aD (dv 1) ag) (aa (av aC aD (dv 1) ag) ah))))
  case B=>
  clear hr T G_S G_H;simp only [Pt.enc];walk_at "d";refine⟨r,si,n,rfl,hsi,hh,?_⟩;have q:Q (bW ((pV r n si).map λb=>jw b k u)):=q;cases hb:pV r n si with
  | none=>
   rw [hb] at q;simp only [bW,cS];walk_at "d";exact q
  | some b=>
   rw [hb] at q;simp only [bW,cS];walk_at "d";exact⟨b,k,u,rfl,hu,λx hx=>by rw [Eg hx];exact q⟩
theorem tZ{xs:List De}{c:Pp}(g:cJ xs)(hc:c∈aN xs)(h1:∀z,z∈fI (dW xs c.nm)↔z∈dW xs c.nm)(h3:(fI (dW xs c.nm)).length<=41):fJ (bw xs c):=by
 refine⟨⟨h3,λz hz=>?_⟩,g.gx.gp.kd c hc,?_,λm hm=>?_⟩
 ·have hz:=(h1 z).mp hz;unfold dW at hz;obtain⟨x,hx,e⟩:=N6.mp hz;obtain⟨hx1,hx2⟩:=Oh.mp hx;cases x with
  | pap p=>cases hx2
  | oth w d nm r=>
   simp only [fW,OV,beq_iff_eq] at hx2;obtain⟨rfl,rfl⟩:=hx2;obtain⟨wd,rfl,hw⟩:=g.hp _ _ _ hx1;rw [<-e];exact hw
 ·show((cY (aN xs) c).map (·.nm)).length<=41;rw [NO];exact tW g.gx.gp
 ·obtain⟨p,hp,rfl⟩:=N6.mp hm;exact g.gx.gp.nm p (tV.mp (Oh.mp hp).1)
end
theorem Ej:bj (ar tq) ["paper","rules","day"] ["pair","paper"] 1 [0] ⟨NZ,[ (NN ".0",Wx),(NN "pair",Wx),(NN "paper",NY)],false,false,[]⟩:= .of
theorem Ek:bj (ar tu) ["paper","rules","day","gone","left","calls","rule","parts","due"] ["maker","gone","day"] 1 [3,2] ⟨NZ,[ (NN ".0",Wx),(NN "maker",Wx),(NN "has_gone",OI),(NN "day",NY),(NN "gone",NY)],false,false,[]⟩:= .of
theorem El:bj (ar tw) ["paper","rules","day","gone","away","calls","rule","parts","due"] ["maker","gone","day"] 1 [3,2] ⟨NZ,[ (NN ".0",Wx),(NN "maker",Wx),(NN "has_gone",OI),(NN "day",NY),(NN "gone",NY)],false,false,[]⟩:= .of
theorem xH:bj (ar tD) ["kind","rules"] ["rule","parts","kind"] 2 [0] ⟨NZ,[ (NN ".0",Wx),(NN "rule",Wx),(NN "parts",Wx),(NN "kind",NY)],false,false,[]⟩:= .of
section
variable {P:Vj} {w:Vm} {K:NM} {mg:Str->Option U8} {base:Vl} {t:cM}
structure Gn where
 ks:List Str
 gs:List Int
def Gn.enc(g:Gn):U7:=eZ g.ks (g.gs.map .int)
def j2:List Str->List Int->Str->Option Int
 | k::ks,d::ds,z=>if k=z then some d else j2 ks ds z
 | _,_,_=>none
theorem t5:∀(ks:List Str)(gs:List Int)(z:Str),cj ks (gs.map .int) z=(j2 ks gs z).map .int
 | [],_,_=>rfl
 | _::_,[],_=>rfl
 | k::ks,g::gs,z=>by
  rw [NS];unfold cj j2;by_cases h:k=z
  ·rw [U4 h,U4 h];rfl
  ·rw [U3 h,U3 h];exact t5 ks gs z
def Gn.at(g:Gn)(z:Str):Option Int:=j2 g.ks g.gs z
def Gn.has(g:Gn)(n:Int)(z:Str):Bool:=match g.at z with
 | some d=>decide (d<=n)
 | none=>false
def Mh:List U7->(U7->Prop)->Prop:=λds Q=>∃(g:Gn)(z:Str)(n:Int),ds=[g.enc,.str z,.int n]/\Q (.bool (g.has n z))
theorem Em(T:Txt K mg t):ay P w K mg base aH 1 t.a_V t.d_V ["gone","paper","day"] (bo K Mh):=by
 refine T.F_V.F.okD Dc (λds Q h=>?_) (λ_ _ _ _ H O ds Q E hr h=>?_)
 ·obtain⟨g,z,n,rfl,_⟩:=h;rfl
 ·obtain⟨g,z,n,rfl,q⟩:=h;refine'⟨_,?A,?B⟩
  case A=>
   refine' aq ?C ?D
   case C=>exact(bH (i:=3) Dc.nd rfl U5 (Kh hr.units (dv 0) (dv 1) ⟨rfl,rfl,rfl,rfl⟩))
   case' D=>refine' au ?E
   case' E=>refine' aJ ?F
   case F=>exact(kG (d5 uV vX (df (dv 3)) (df fv) (az _)) (kF (d5 gn dF (df (dv 3)) (df (dv 2)) (az _))))
  case B=>
  clear hr T;simp only [Gn.enc];walk_at "d";refine⟨g.ks,_,rfl,?_⟩;rw [t5];have q:Q (.bool (match g.at z with | some d=>decide (d<=n) | none=>false)):=q;unfold Gn.at at q;cases hd:j2 g.ks g.gs z with
  | none=>
   rw [hd] at q;simp only [Ra,Ss,cS];walk_at "d";exact q
  | some d=>
   rw [hd] at q;simp only [Q9,Option.getD_some,cS];walk_at "d";exact q
theorem Eo{a b c d e:U7}:cj [NL "name",NL "coming",NL "kind",NL "makers",NL "happenings"] [a,b,c,d,e] (NL "makers")=some d:=by
 simp only [cj];rw [U3 U0,U3 U0,U3 U0,U4 trivial]
def Pt.wd:Pt->Str
 | .two w _=>w
 | .five w _ _ _ _=>w
def Pt.kd:Pt->Str
 | .two _ kd=>kd
 | .five _ kd _ _ _=>kd
theorem Pt.kdOk{p:Pt}(h:p.Ok):N0 p.kd=true:=by cases p with | two w kd=>exact h.2.2 | five w kd s k u=>exact h.2.1
theorem Pt.at1(p:Pt):∃l,p.enc= .tuple l/\atI l 1=some (.str p.kd):=by cases p <;> exact⟨_,rfl,dG⟩
def j3(L:List (Str×Pt)):Prop:=L.length<=41/\∀z∈L,z.2.Ok
def cN(r:Rp)(n:Int)(L:List (Str×Pt)):List (Str×Pt):=if r.c.d > n then [] else L.filter λz=>z.2.kd==r.c.kd
def Mi(C:U9):List U7->(U7->Prop)->Prop:=λds Q=>∃(r:Rp)(L:List (Str×Pt))(n:Int),ds=[r.enc C,.tuple (L.map dn),.int n]/\fJ r/\j3 L/\Q (.list ((cN r n L).map dn))
theorem Ep(T:Txt K mg t):ay P w K mg base aH 1 t.a_U t.d_U ["paper","rules","day"] (bo K (Mi t.u_Paper)):=by
 refine T.F_U.F.okD Ld (λds Q h=>?_) (λ_ _ _ _ H O ds Q E hr h=>?_)
 ·obtain⟨r,L,n,rfl,_⟩:=h;rfl
 ·obtain⟨r,L,n,rfl,hr',hL,q⟩:=h;refine'⟨_,?A,?B⟩
  case A=>
   refine' aq ?C ?D
   case C=>
    refine' bC ?E ?F bB
    case E=>exact(aG i3 dF (lF (C:=t.u_Paper) T.cl_Paper T.na_Paper_coming (dv 0)) (dv 2) (az _))
    case' F=>refine' au ?G
    case G=>exact(aJ (fe (cy ah)))
   case' D=>refine' au ?H
   case' H=>refine' aJ ?I
   case' I=>refine' fe ?J
   case J=>exact(kP rfl Ej (df (dv 1)) aW cz U1 (λ_ _ _ _=>(aS (i:=0) Ej.nd rfl U5)) (λ_ _ _ _=>(di (aG (cn hr.units) cq (av aC aD (av aC aD (dv 0) ag) ag) (lF (C:=t.u_Paper) T.cl_Paper T.na_Paper_kind (dv 1)) (az _)))) (λ_ _ _ _=>(dv 0)))
  case B=>
  clear hr T;walk_at "d";refine⟨[NL "name",NL "coming",NL "kind",NL "makers",NL "happenings"],_,rfl,_,D4,r.c.d,rfl,?_⟩;unfold cN at q;by_cases hd:r.c.d > n
  ·rw [U4 hd] at q⊢;exact q
  ·rw [U3 hd] at q⊢;refine⟨by rw [NO];have:=hL.1;omega,cZ (λz:Str×Pt=>z.2.kd==r.c.kd) dn (λx hx R S h=>?_) q⟩;simp only [dn];obtain⟨l,e1,e2⟩:=Pt.at1 x.2;rw [e1];walk_at "d";refine⟨_,e2,[NL "name",NL "coming",NL "kind",NL "makers",NL "happenings"],_,rfl,_,LX,cW.mpr (Pt.kdOk (hL.2 x hx)),cW.mpr hr'.2.1,?_⟩;rw [fQ];simp only [dn] at h;rw [e1] at h;exact h
def aU(z:Str×U7):U7:= .tuple [.str z.1,z.2]
def dX(r:Rp)(n:Int)(g:Gn):List Str:=r.ts.filter λm=>!g.has n m
def dY(r:Rp)(n:Int)(g:Gn):List Str:=r.ts.filter λm=>g.has n m
def dz(n:Int):Option Int->Bool
 | none=>true
 | some d=>decide (d > n)
def pW(r:Rp)(n:Int)(g:Gn):Pt->Option U7
 | .five w kd s k u=>if w=NL "keep"/\dz n (bX r n (.five w kd s k u))=true then some (bW (bX r n (.five w kd s k u))) else none
 | .two w kd=>if w=NL "while" then(dX r n g).head?.map .str else none
def pX(r:Rp)(n:Int)(g:Gn):Pt->Option U7
 | .five w kd s k u=>if w=NL "gone"/\dz n (bX r n (.five w kd s k u))=false then some (bW (bX r n (.five w kd s k u))) else none
 | .two w kd=>if w=NL "follow" then(dY r n g).head?.map .str else none
def iQ(r:Rp)(n:Int)(g:Gn)(z:Str×Pt):List (Str×U7):=((pW r n g z.2).map λb=>(z.1,b)).toList
def iR(r:Rp)(n:Int)(g:Gn)(z:Str×Pt):List (Str×U7):=((pX r n g z.2).map λb=>(z.1,b)).toList
def eF(r:Rp)(n:Int)(g:Gn)(L:List (Str×Pt)):List (Str×U7):=(cN r n L).flatMap (iQ r n g)
def eI(r:Rp)(n:Int)(g:Gn)(L:List (Str×Pt)):List (Str×U7):=(cN r n L).flatMap (iR r n g)
theorem t6{α β:Type}{f:α->List β}(h:∀x,(f x).length<=1):∀l:List α,(l.flatMap f).length<=l.length
 | []=>by simp
 | x::l=>by
  rw [List.flatMap_cons,OR,Og];have:=h x;have:=t6 h l;omega
theorem xI{α:Type}(o:Option α):o.toList.length<=1:=by cases o <;> simp
theorem Er{f:Str×Pt->Option U7}(M:List (Str×Pt))(hM:M.length<=41):∃acc:Nat->List U7,acc 0=[]/\(∀i,(acc i).length<=41)/\(∀i x,M[i]?=some x->f x=none->acc (i+1)=acc i)/\(∀i x,M[i]?=some x->∀b,f x=some b->acc (i+1)=acc i++[.tuple [.str x.1,b]])/\acc M.length=(M.flatMap λz=>((f z).map λb=>(z.1,b)).toList).map aU:=by
 refine⟨λi=>((M.take i).flatMap λz=>((f z).map λb=>(z.1,b)).toList).map aU,rfl,λi=>?_,λi x hx e=>?_,λi x hx b e=>?_,?_⟩
 ·show(Od aU _).length<=41;rw [NO];refine Ot (t6 (λz=>xI _) _) ?_;rw [OQ];omega
 ·show Od aU _=Od aU _;rw [Pb,hx,Q4];simp [e]
 ·show Od aU _=Od aU _++_;rw [Pb,hx,Q4,OJ];simp [e,aU]
 ·show Od aU _=_;rw [OD (NV _)]
theorem Es{r:Rp}{n:Int}{L:List (Str×Pt)}(h:j3 L):j3 (cN r n L):=by
 unfold cN;split
 ·exact⟨U6,U6⟩
 ·exact⟨Ot (OM _ _) h.1,λz hz=>h.2 z (Oh.mp hz).1⟩
def lY(C:U9)(r:Rp)(L:List (Str×Pt))(n:Int)(g:Gn)(ms:List Str)(a:List U7)(δ:Dl):Prop:=∃(o6 o7 o8:Option Sl),δ=[some (Sl.v (Rp.enc C r)),some (Sl.v (N3 (Od dn L))),some (Sl.v (NQ n)),some (Sl.v g.enc),some (Sl.v (Ow (ms.map λm=>NP m))),some (Sl.o a),o6,o7,o8]
def F_W(C:U9):List U7->(U7->Prop)->Prop:=λds Q=>∃(r:Rp)(L:List (Str×Pt))(n:Int)(g:Gn),ds=[r.enc C,.tuple (L.map dn),.int n,g.enc]/\fJ r/\j3 L/\Q (.tuple ((eF r n g L).map aU))
theorem Et(T:Txt K mg t):ay P w K mg base aH 7 t.a_W t.d_W ["paper","rules","day","gone"] (bo K (F_W t.u_Paper)):=by
 have G_V:=@Em P w _ _ base _ T;have G_U:=@Ep P w _ _ base _ T;have G_T:=@Ei P w _ _ base _ T;refine T.F_W.F.okD lM (λds Q h=>?_) (λ_ _ _ _ H O ds Q E hr h=>?_)
 ·obtain⟨r,L,n,g,rfl,_⟩:=h;rfl
 ·obtain⟨r,L,n,g,rfl,hr',hL,q⟩:=h;refine'⟨_,?A,?B⟩
  case A=>
   refine' aq ?C ?D
   case C=>exact(iJ (i:=4) lM.nd rfl U5 (sA rfl Ek (df (lF (C:=t.u_Paper) T.cl_Paper T.na_Paper_makers (dv 0))) aW cz U1 (λ_ _ _ _=>(aS (i:=0) Ek.nd rfl U5)) (λ_ _ _ _=>(di (jK (gG (ax G_V hr T.F_V (aa (dv 1) (aa (dv 0) (aa (dv 2) ah)))))))) (λ_ _ _ _=>(dv 0))))
   case' D=>refine' aq ?E ?F
   case E=>exact(qL (i:=5) lM.nd rfl U5 (cy ah))
   case' F=>refine' aq ?G ?H
   case G=>
    refine' kN OO rfl (ax G_U hr T.F_U (aa (dv 0) (aa (dv 1) (aa (dv 2) ah)))) ?I (jh (d7 aW (d7 aW jg))) ?J
    case I=>exact(iw (n:=2) rfl (dA (aS (i:=6) lM.nd rfl U5) (dA (aS (i:=7) lM.nd rfl U5) iu)))
    case' J=>refine' aq ?K ?L
    case K=>
     refine' bC ?M ?N bB
     case M=>exact(aG (cF hr) cG (av aC aD (dv 7) ag) aQ (az _))
     case' N=>refine' aq ?O ?P
     case O=>exact(bH (i:=8) lM.nd rfl U5 (ax G_T hr T.F_T (aa (dv 0) (aa (dv 7) (aa (dv 2) ah)))))
     case' P=>refine' au ?Q
     case' Q=>refine' bC ?R ?S bB
     case R=>exact(PW.pt (jc (aG kj lB (dv 8) fv (az _)) (jb (aG i3 dF (dv 8) (dv 2) (az _)))))
     case' S=>refine' au ?T
     case T=>exact(iB (i:=5) (pv 5) (bE (aa (dv 6) (aa (dv 8) ah))))
    case' L=>refine' au ?U
    case' U=>refine' bC ?V ?W bB
    case V=>exact(PW.pt (dE (aG (cF hr) cG (av aC aD (dv 7) ag) aQ (az _)) (d6 (wu (dv 4)))))
    case' W=>refine' au ?X
    case' X=>refine' iB (i:=5) (pv 5) ?Y
    case Y=>exact(bE (aa (dv 6) (aa (av bQ bZ (dv 4) ag) ah)))
   case' H=>refine' au ?Z
   case Z=>exact(aJ (PE.imp (eR iz rfl T.n_tuple gA (jd (dw 5) br)) (bJ iG)))
  case B=>
  clear hr T G_V G_U G_T;walk_at "d";refine⟨[NL "name",NL "coming",NL "kind",NL "makers",NL "happenings"],_,rfl,_,Eo,_,rfl,by rw [NO];have:=hr'.2.2.1;omega,cZ (λm=>!g.has n m) (λm=>.str m) (λx hx R S h=>?_) ?_⟩
  ·walk_at "d";exact⟨g,x,n,rfl,by simpa using h⟩
  ·refine⟨r,L,n,rfl,hr',hL,?_⟩;have ok:=Es (r:=r) (n:=n) hL;walk_at "d";have q:Q (.tuple (((cN r n L).flatMap (iQ r n g)).map aU)):=q;generalize hM:cN r n L=M at ok q⊢;obtain⟨acc,a0,al,an,as,ae⟩:=Er (f:=λz:Str×Pt=>pW r n g z.2) M ok.1;generalize hE:eT.mk _ _ _ _=EE;have eN:=congrArg eT.nx hE;simp only at eN;clear hE;refine⟨λi=>lY t.u_Paper r L n g (dX r n g) (acc i),⟨none,none,none,by rw [a0];rfl⟩,?_,?_⟩
   ·rintro i z δ hz ⟨o6,o7,o8,rfl⟩;rw [Ob] at hz;cases hz':M[i]? with
    | none=>rw [hz'] at hz;cases hz
    | some x=>
     rw [hz'] at hz;cases hz;have xo:=ok.2 x (Oq hz');have tl:=al i;have none_:=an i x hz';have some_:=as i x hz';obtain⟨nm,pt⟩:=x;simp only [dn];have fin:∀a(o6 o7 o8:Option Sl),acc (i+1)=a->lY t.u_Paper r L n g (dX r n g) (acc (i+1)) [some (Sl.v (Rp.enc t.u_Paper r)),some (Sl.v (N3 (Od dn L))),some (Sl.v (NQ n)),some (Sl.v g.enc),some (Sl.v (Ow ((dX r n g).map λm=>NP m))),some (Sl.o a),o6,o7,o8]:=λa o6 o7 o8 e=>⟨o6,o7,o8,by rw [e]⟩;generalize lY t.u_Paper r L n g (dX r n g) (acc (i+1))=NX at fin⊢;clear eN;cases pt with
     | two w2 kd=>
      have k1:w2≠NL "keep":=λe=>xo.1 (.inl e);simp only [Pt.enc];generalize hD:fx (je 8 _) _=TD;generalize hW:g6 (gY _ (iM _)) _ _=TW;walk_at "d";rw [cg k1,U3 NW];clear hD;subst hW;walk_at "d";by_cases hw:w2=NL "while"
      ·subst hw;rw [U4 (beq_self_eq_true _)];cases hl:dX r n g with
       | nil=>
        rw [hl] at fin;rw [U3 U6];exact fin _ _ _ _ (none_ (by show(if NL "while"=NL "while" then(dX r n g).head?.map NP else none)=none;rw [U4 rfl,hl];rfl))
       | cons m l=>
        rw [hl] at fin;rw [U4 (by rfl)];exact⟨_,eX,U2,fin _ _ _ _ (some_ (.str m) (by show(if NL "while"=NL "while" then(dX r n g).head?.map NP else none)=some _;rw [U4 rfl,hl];rfl))⟩
      ·rw [cg hw,U3 NW];exact fin _ _ _ _ (none_ (by show(if w2=NL "while" then(dX r n g).head?.map NP else none)=none;rw [U3 hw]))
     | five w2 kd si k u=>
      have k1:w2≠NL "while":=λe=>by rcases xo.1 with z | z <;> rw [z] at e <;> exact absurd e U0
      simp only [Pt.enc];generalize hW:g6 (gY _ (iM _)) _ _=TW;generalize hE2:eT.mk _ _ _ _=E2;have eN2:E2.nx=NX:=by rw [<-hE2]
      have pass:∀a(o8:Option Sl),acc (i+1)=a->TW E2 [some (Sl.v (Rp.enc t.u_Paper r)),some (Sl.v (N3 (Od dn L))),some (Sl.v (NQ n)),some (Sl.v g.enc),some (Sl.v (Ow ((dX r n g).map λm=>NP m))),some (Sl.o a),some (Sl.v (NP nm)),some (Sl.v (N3 [NP w2,NP kd,si.enc,NQ k,NP u])),o8]:=λa o8 e=>by
       subst hW;walk_at "d";rw [cg k1,U3 NW,eN2];exact fin _ _ _ _ e
      clear hW hE2;walk_at "d";by_cases hw:w2=NL "keep"
      ·subst hw;rw [U4 (beq_self_eq_true _)];refine⟨r,NL "keep",kd,si,k,u,n,rfl,xo.2.2.1,xo.2.2.2.2.2,hr',?_⟩;have df:pW r n g (.five (NL "keep") kd si k u)=if NL "keep"=NL "keep"/\dz n (bX r n (.five (NL "keep") kd si k u))=true then some (bW (bX r n (.five (NL "keep") kd si k u))) else none:=rfl
       cases hd:bX r n (.five (NL "keep") kd si k u) with
       | none=>
        rw [hd] at df;simp only [bW,cS];walk_at "d";refine⟨U2,?_⟩;exact pass _ _ (some_ .none (by rw [df,U4 ⟨rfl,rfl⟩];rfl))
       | some d=>
        rw [hd] at df;simp only [bW,cS];walk_at "d";by_cases hdn:n < d
        ·rw [U4 hdn];refine⟨U2,?_⟩;exact pass _ _ (some_ (.int d) (by rw [df,U4 ⟨rfl,decide_eq_true hdn⟩];rfl))
        ·rw [U3 hdn];exact pass _ _ (none_ (by rw [df,U3 λz=>hdn (of_decide_eq_true z.2)]))
      ·rw [cg hw,U3 NW];exact pass _ _ (none_ (by show(if w2=NL "keep"/\dz n (bX r n (.five w2 kd si k u))=true then some (bW (bX r n (.five w2 kd si k u))) else none)=none;rw [U3 λz=>hw z.1]))
   ·rintro δ ⟨o6,o7,o8,rfl⟩;rw [<-eN,NO,ae];walk_at "d";exact q
def F_X(C:U9):List U7->(U7->Prop)->Prop:=λds Q=>∃(r:Rp)(L:List (Str×Pt))(n:Int)(g:Gn),ds=[r.enc C,.tuple (L.map dn),.int n,g.enc]/\fJ r/\j3 L/\Q (.tuple ((eI r n g L).map aU))
theorem Eu(T:Txt K mg t):ay P w K mg base aH 7 t.a_X t.d_X ["paper","rules","day","gone"] (bo K (F_X t.u_Paper)):=by
 have G_V:=@Em P w _ _ base _ T;have G_U:=@Ep P w _ _ base _ T;have G_T:=@Ei P w _ _ base _ T;refine T.F_X.F.okD lN (λds Q h=>?_) (λ_ _ _ _ H O ds Q E hr h=>?_)
 ·obtain⟨r,L,n,g,rfl,_⟩:=h;rfl
 ·obtain⟨r,L,n,g,rfl,hr',hL,q⟩:=h;refine'⟨_,?A,?B⟩
  case A=>
   refine' aq ?C ?D
   case C=>exact(iJ (i:=4) lN.nd rfl U5 (sA rfl El (df (lF (C:=t.u_Paper) T.cl_Paper T.na_Paper_makers (dv 0))) aW cz U1 (λ_ _ _ _=>(aS (i:=0) El.nd rfl U5)) (λ_ _ _ _=>(di (gG (ax G_V hr T.F_V (aa (dv 1) (aa (dv 0) (aa (dv 2) ah))))))) (λ_ _ _ _=>(dv 0))))
   case' D=>refine' aq ?E ?F
   case E=>exact(qL (i:=5) lN.nd rfl U5 (cy ah))
   case' F=>refine' aq ?G ?H
   case G=>
    refine' kN OO rfl (ax G_U hr T.F_U (aa (dv 0) (aa (dv 1) (aa (dv 2) ah)))) ?I (jh (d7 aW (d7 aW jg))) ?J
    case I=>exact(iw (n:=2) rfl (dA (aS (i:=6) lN.nd rfl U5) (dA (aS (i:=7) lN.nd rfl U5) iu)))
    case' J=>refine' aq ?K ?L
    case K=>
     refine' bC ?M ?N bB
     case M=>exact(aG (cF hr) cG (av aC aD (dv 7) ag) aQ (az _))
     case' N=>refine' aq ?O ?P
     case O=>exact(bH (i:=8) lN.nd rfl U5 (ax G_T hr T.F_T (aa (dv 0) (aa (dv 7) (aa (dv 2) ah)))))
     case' P=>refine' au ?Q
     case' Q=>refine' bC ?R ?S bB
     case R=>exact(PW.pt (dE (aG uV vX (dv 8) fv (az _)) (d6 (aG gn dF (dv 8) (dv 2) (az _)))))
     case' S=>refine' au ?T
     case T=>exact(iB (i:=5) (pv 5) (bE (aa (dv 6) (aa (dv 8) ah))))
    case' L=>refine' au ?U
    case' U=>refine' bC ?V ?W bB
    case V=>exact(PW.pt (dE (aG (cF hr) cG (av aC aD (dv 7) ag) aQ (az _)) (d6 (wu (dv 4)))))
    case' W=>refine' au ?X
    case' X=>refine' iB (i:=5) (pv 5) ?Y
    case Y=>exact(bE (aa (dv 6) (aa (av bQ bZ (dv 4) ag) ah)))
   case' H=>refine' au ?Z
   case Z=>exact(aJ (PE.imp (eR iz rfl T.n_tuple gA (jd (dw 5) br)) (bJ iG)))
  case B=>
  clear hr T G_V G_U G_T;walk_at "d";refine⟨[NL "name",NL "coming",NL "kind",NL "makers",NL "happenings"],_,rfl,_,Eo,_,rfl,by rw [NO];have:=hr'.2.2.1;omega,cZ (λm=>g.has n m) (λm=>.str m) (λx hx R S h=>?_) ?_⟩
  ·walk_at "d";exact⟨g,x,n,rfl,by simpa using h⟩
  ·refine⟨r,L,n,rfl,hr',hL,?_⟩;have ok:=Es (r:=r) (n:=n) hL;walk_at "d";have q:Q (.tuple (((cN r n L).flatMap (iR r n g)).map aU)):=q;generalize hM:cN r n L=M at ok q⊢;obtain⟨acc,a0,al,an,as,ae⟩:=Er (f:=λz:Str×Pt=>pX r n g z.2) M ok.1;generalize hE:eT.mk _ _ _ _=EE;have eN:=congrArg eT.nx hE;simp only at eN;clear hE;refine⟨λi=>lY t.u_Paper r L n g (dY r n g) (acc i),⟨none,none,none,by rw [a0];rfl⟩,?_,?_⟩
   ·rintro i z δ hz ⟨o6,o7,o8,rfl⟩;rw [Ob] at hz;cases hz':M[i]? with
    | none=>rw [hz'] at hz;cases hz
    | some x=>
     rw [hz'] at hz;cases hz;have xo:=ok.2 x (Oq hz');have tl:=al i;have none_:=an i x hz';have some_:=as i x hz';obtain⟨nm,pt⟩:=x;simp only [dn];have fin:∀a(o6 o7 o8:Option Sl),acc (i+1)=a->lY t.u_Paper r L n g (dY r n g) (acc (i+1)) [some (Sl.v (Rp.enc t.u_Paper r)),some (Sl.v (N3 (Od dn L))),some (Sl.v (NQ n)),some (Sl.v g.enc),some (Sl.v (Ow ((dY r n g).map λm=>NP m))),some (Sl.o a),o6,o7,o8]:=λa o6 o7 o8 e=>⟨o6,o7,o8,by rw [e]⟩;generalize lY t.u_Paper r L n g (dY r n g) (acc (i+1))=NX at fin⊢;clear eN;cases pt with
     | two w2 kd=>
      have k1:w2≠NL "gone":=λe=>xo.1 (.inr e);simp only [Pt.enc];generalize hD:fx (je 8 _) _=TD;generalize hW:g6 (gY _ (iM _)) _ _=TW;walk_at "d";rw [cg k1,U3 NW];clear hD;subst hW;walk_at "d";by_cases hw:w2=NL "follow"
      ·subst hw;rw [U4 (beq_self_eq_true _)];cases hl:dY r n g with
       | nil=>
        rw [hl] at fin;rw [U3 U6];exact fin _ _ _ _ (none_ (by show(if NL "follow"=NL "follow" then(dY r n g).head?.map NP else none)=none;rw [U4 rfl,hl];rfl))
       | cons m l=>
        rw [hl] at fin;rw [U4 (by rfl)];exact⟨_,eX,U2,fin _ _ _ _ (some_ (.str m) (by show(if NL "follow"=NL "follow" then(dY r n g).head?.map NP else none)=some _;rw [U4 rfl,hl];rfl))⟩
      ·rw [cg hw,U3 NW];exact fin _ _ _ _ (none_ (by show(if w2=NL "follow" then(dY r n g).head?.map NP else none)=none;rw [U3 hw]))
     | five w2 kd si k u=>
      have k1:w2≠NL "follow":=λe=>by rcases xo.1 with z | z <;> rw [z] at e <;> exact absurd e U0
      simp only [Pt.enc];generalize hW:g6 (gY _ (iM _)) _ _=TW;generalize hE2:eT.mk _ _ _ _=E2;have eN2:E2.nx=NX:=by rw [<-hE2]
      have pass:∀a(o8:Option Sl),acc (i+1)=a->TW E2 [some (Sl.v (Rp.enc t.u_Paper r)),some (Sl.v (N3 (Od dn L))),some (Sl.v (NQ n)),some (Sl.v g.enc),some (Sl.v (Ow ((dY r n g).map λm=>NP m))),some (Sl.o a),some (Sl.v (NP nm)),some (Sl.v (N3 [NP w2,NP kd,si.enc,NQ k,NP u])),o8]:=λa o8 e=>by
       subst hW;walk_at "d";rw [cg k1,U3 NW,eN2];exact fin _ _ _ _ e
      clear hW hE2;walk_at "d";by_cases hw:w2=NL "gone"
      ·subst hw;rw [U4 (beq_self_eq_true _)];refine⟨r,NL "gone",kd,si,k,u,n,rfl,xo.2.2.1,xo.2.2.2.2.2,hr',?_⟩;have df:pX r n g (.five (NL "gone") kd si k u)=if NL "gone"=NL "gone"/\dz n (bX r n (.five (NL "gone") kd si k u))=false then some (bW (bX r n (.five (NL "gone") kd si k u))) else none:=rfl
       cases hd:bX r n (.five (NL "gone") kd si k u) with
       | none=>
        rw [hd] at df;simp only [bW,cS];walk_at "d";exact pass _ _ (none_ (by rw [df,U3 λz=>Bool.noConfusion (show true=false from z.2)]))
       | some d=>
        rw [hd] at df;simp only [bW,cS];walk_at "d";by_cases hdn:d<=n
        ·rw [U4 hdn];refine⟨U2,?_⟩;exact pass _ _ (some_ (.int d) (by rw [df,U4 ⟨rfl,decide_eq_false U2⟩];rfl))
        ·rw [U3 hdn];exact pass _ _ (none_ (by rw [df,U3 λz=>hdn (by have:=of_decide_eq_false z.2;omega)]))
      ·rw [cg hw,U3 NW];exact pass _ _ (none_ (by show(if w2=NL "gone"/\dz n (bX r n (.five w2 kd si k u))=false then some (bW (bX r n (.five w2 kd si k u))) else none)=none;rw [U3 λz=>hw z.1]))
   ·rintro δ ⟨o6,o7,o8,rfl⟩;rw [<-eN,NO,ae];walk_at "d";exact q
def pY(kd:Str):Pt->Bool
 | .two w k=>w==NL "leave" && k==kd
 | _=>false
def pZ(kd:Str)(L:List (Str×Pt)):List Str:=(L.filter λz=>pY kd z.2).map (·.1)
theorem p5{a b:Str}:(a==b)=decide (a=b):=by
 by_cases h:a=b
 ·simp [h]
 ·rw [cg h,decide_eq_false h]
def Mj:List U7->(U7->Prop)->Prop:=λds Q=>∃(kd:Str)(L:List (Str×Pt)),ds=[.str kd,.tuple (L.map dn)]/\N0 kd=true/\j3 L/\Q (.list ((pZ kd L).map .str))
theorem Ml{w:Str}(h:KG w):N0 w=true:=by rcases h with h | h <;> rw [h] <;> decide+kernel
theorem Mm{w:Str}(h:hZ w):N0 w=true:=by rcases h with h | h | h <;> rw [h] <;> decide+kernel
theorem cC.lay{s:cC}(h:s.Ok):cA 2 s.enc:=by
 cases s with
 | com=>exact cX (aZ (bO U0) dS)
 | fst wd=>exact cX (aZ (bO U0) (aZ (bO h) dS))
 | lst wd=>exact cX (aZ (bO U0) (aZ (bO h) dS))
theorem Pt.lay{p:Pt}(h:p.Ok):cA 3 p.enc:=by
 cases p with
 | two w kd=>exact(cX (n:=1) (aZ (bO h.2.1) (aZ (bO h.2.2) dS))).mono U1
 | five w kd s k u=>exact cX (aZ (bO (Ml h.1)) (aZ (bO h.2.1) (aZ (cC.lay h.2.2.1) (aZ hJ (aZ (bO (Mm h.2.2.2.2.2)) dS)))))
theorem Ew(T:Txt K mg t):ay P w K mg base aH 1 t.a_Y t.d_Y ["kind","rules"] (bo K Mj):=by
 refine T.F_Y.F.okD Le (λds Q h=>?_) (λ_ _ _ _ H O ds Q E hr h=>?_)
 ·obtain⟨kd,L,rfl,_⟩:=h;rfl
 ·obtain⟨kd,L,rfl,hk,hL,q⟩:=h;refine'⟨_,?A,?B⟩
  case A=>
   refine' au ?C
   case' C=>refine' aJ ?D
   case' D=>refine' fe ?E
   case E=>exact(kP rfl xH (df (dv 1)) (jh (d7 aW (d7 aW jg))) wb U1 (λ_ _ _ _=>(iw (n:=2) rfl (dA (aS (i:=0) xH.nd rfl U5) (dA (aS (i:=1) xH.nd rfl U5) iu)))) (λ_ _ _ _=>(di (aG (cn hr.units) cq (dv 1) (bE (aa aQ (aa (dv 2) ah))) (az _)))) (λ_ _ _ _=>(dv 0)))
  case B=>
  clear hr T;walk_at "d";refine⟨by rw [NO];have:=hL.1;omega,cZ (λz:Str×Pt=>pY kd z.2) (λz=>.str z.1) (λx hx R S h=>?_) ?_⟩
  ·have xo:=hL.2 x hx;obtain⟨nm,pt⟩:=x;have ly:=(Pt.lay xo).shp U1;have ly2:OP (N3 [NP (NL "leave"),NP kd])=true:=(cX (n:=1) (aZ (bO U0) (aZ (bO hk) dS))).shp U1;simp only [dn];cases pt with
   | two w2 kd2=>
    simp only [Pt.enc] at ly⊢;walk_at "d";refine⟨ly,ly2,?_⟩;have e:(N3 [NP w2,NP kd2]).eqv (N3 [NP (NL "leave"),NP kd])=(w2==NL "leave" && kd2==kd):=by simp [N4,PD,p5]
    rw [e];exact h
   | five w2 kd2 si k u=>
    simp only [Pt.enc] at ly⊢;walk_at "d";refine⟨ly,ly2,?_⟩;rw [U3 (by simp [N4,PD])];exact h
  ·unfold pZ at q;rw [Oe] at q;exact q
theorem p7{xs:List De}{n:Int}(g:cJ xs)(h:eD xs n (bI xs n))(hl:(bI xs n).length<=41):j3 (bI xs n):=by
 refine⟨hl,λz hz=>?_⟩;obtain⟨d,_,hm,_⟩:=(h.2 z).mp hz;obtain⟨pt,e,ok⟩:=g.ru _ _ _ hm;rw [xF (RE e).1];exact ok
def jx(xs:List De)(n:Int)(c:Pp)(g:Gn):List (Str×U7):=eF (bw xs c) n g (bI xs n)
def jy(xs:List De)(n:Int)(c:Pp)(g:Gn):List (Str×U7):=eI (bw xs c) n g (bI xs n)
def ic(xs:List De)(n:Int)(c:Pp):Bool:=decide (0 < (pZ c.kd (bI xs n)).length)
def F_Z:List U7->(U7->Prop)->Prop:=λds Q=>∃(xs:List De)(n:Int)(c:Pp)(g:Gn),ds=[.tuple (xs.map De.enc),.int n,.str c.nm,g.enc]/\cJ xs/\c∈aN xs/\(eD xs n (bI xs n)->(bI xs n).length<=41->fJ (bw xs c)->Q (.tuple ((jx xs n c g).map aU)))
def F_a:List U7->(U7->Prop)->Prop:=λds Q=>∃(xs:List De)(n:Int)(c:Pp)(g:Gn),ds=[.tuple (xs.map De.enc),.int n,.str c.nm,g.enc]/\cJ xs/\c∈aN xs/\(eD xs n (bI xs n)->(bI xs n).length<=41->fJ (bw xs c)->Q (.tuple ((jy xs n c g).map aU)))
theorem Mo(T:Txt K mg t):ay P w K mg base aH 9 t.a_Z t.d_Z ["deeds","day","paper","gone"] (bo K F_Z):=by
 have G_I:=@D2 P w _ _ base _ T;have G_Q:=@lX P w _ _ base _ T;have G_W:=@Et P w _ _ base _ T;refine T.F_Z.F.okD Dd (λds Q h=>?_) (λ_ _ _ _ H O ds Q E hr h=>?_)
 ·obtain⟨xs,n,c,g,rfl,_⟩:=h;rfl
 ·obtain⟨xs,n,c,g,rfl,gd,hc,q⟩:=h;refine'⟨_,?A,?B⟩
  case A=>
   refine' au ?C
   case' C=>refine' aJ ?D
   case D=>exact(ax G_W hr T.F_W (aa (PE.imp (vc T.mk_Paper G_I (hr.mono U1) rfl T.c_Paper T.F_I.b .nil vi (aa (dv 0) (aa (dv 2) ah))) Cv) (aa (ax G_Q hr T.F_Q (aa (dv 0) (aa (dv 1) ah))) (aa (dv 1) (aa (dv 3) ah)))))
  case B=>
  clear hr T G_I G_Q G_W;walk_at "d";exact⟨xs,c,rfl,gd,hc,λh1 h2 h3=>⟨xs,n,rfl,gd,λh4 h5=>⟨bw xs c,_,n,g,rfl,tZ gd hc h1 h3,p7 gd h4 h5,q h4 h5 (tZ gd hc h1 h3)⟩⟩⟩
theorem Mp(T:Txt K mg t):ay P w K mg base aH 9 t.a_a t.d_a ["deeds","day","paper","gone"] (bo K F_a):=by
 have G_I:=@D2 P w _ _ base _ T;have G_Q:=@lX P w _ _ base _ T;have G_X:=@Eu P w _ _ base _ T;refine T.F_a.F.okD Df (λds Q h=>?_) (λ_ _ _ _ H O ds Q E hr h=>?_)
 ·obtain⟨xs,n,c,g,rfl,_⟩:=h;rfl
 ·obtain⟨xs,n,c,g,rfl,gd,hc,q⟩:=h;refine'⟨_,?A,?B⟩
  case A=>
   refine' au ?C
   case' C=>refine' aJ ?D
   case D=>exact(ax G_X hr T.F_X (aa (PE.imp (vc T.mk_Paper G_I (hr.mono U1) rfl T.c_Paper T.F_I.b .nil vi (aa (dv 0) (aa (dv 2) ah))) Cv) (aa (ax G_Q hr T.F_Q (aa (dv 0) (aa (dv 1) ah))) (aa (dv 1) (aa (dv 3) ah)))))
  case B=>
  clear hr T G_I G_Q G_X;walk_at "d";exact⟨xs,c,rfl,gd,hc,λh1 h2 h3=>⟨xs,n,rfl,gd,λh4 h5=>⟨bw xs c,_,n,g,rfl,tZ gd hc h1 h3,p7 gd h4 h5,q h4 h5 (tZ gd hc h1 h3)⟩⟩⟩
def Mq:List U7->(U7->Prop)->Prop:=λds Q=>∃(xs:List De)(n:Int)(c:Pp),ds=[.tuple (xs.map De.enc),.int n,.str c.nm]/\cJ xs/\c∈aN xs/\Q (.bool (ic xs n c))
theorem Mr(T:Txt K mg t):ay P w K mg base aH 3 t.a_b t.d_b ["deeds","day","paper"] (bo K Mq):=by
 have G_M:=@LP P w _ _ base _ T;have G_Q:=@lX P w _ _ base _ T;have G_Y:=@Ew P w _ _ base _ T;refine T.F_b.F.okD Dg (λds Q h=>?_) (λ_ _ _ _ H O ds Q E hr h=>?_)
 ·obtain⟨xs,n,c,rfl,_⟩:=h;rfl
 ·obtain⟨xs,n,c,rfl,gd,hc,q⟩:=h;refine'⟨_,?A,?B⟩
  case A=>
   refine' au ?C
   case' C=>refine' aJ ?D
   case D=>exact(d5 i3 dF (df (PE.imp (bP fj rfl T.n_len O6 (bt (ax G_Y hr T.F_Y (aa (ax G_M hr T.F_M (aa (dv 0) (aa (dv 2) ah))) (aa (ax G_Q hr T.F_Q (aa (dv 0) (aa (dv 1) ah))) ah))) br)) (bJ fE))) (df ag) (az _))
  case B=>
  clear hr T G_M G_Q G_Y;walk_at "d";refine⟨xs,c,rfl,gd.gx,hc,xs,n,rfl,gd,λh4 h5=>⟨c.kd,_,rfl,gd.gx.gp.kd c hc,p7 gd h4 h5,?_⟩⟩;refine⟨_,.inl rfl,?_⟩;have e:decide (0 < ((Od NP (pZ c.kd (bI xs n))).length:Int))=ic xs n c:=by
   unfold ic;rw [NO];exact decide_eq_decide.mpr U2
  rw [e];exact q
theorem Ey{H H1:Hp}{p:U9}(hp:H p=some (gC p))(h:∀b o,b≠p->H b=some o->H1 b=some o):aj H (ao H1 p (gC p)):=λb o e=>by
 by_cases hb:b=p
 ·subst hb;rw [aR,<-hp,e]
 ·rw [aA hb];exact h b o hb e
theorem lZ(T:Txt K mg t):ay P w K mg base aH 1 t.a_e t.d_e ["_law_purse_here","_law_many"] (bo K vH):=by
 refine T.F_e.F.ok xt (λvs H Q E h=>?_) (λcdv A outer s H vs Q E hr h=>?_)
 ·obtain⟨O,ds,Qd,_,r,⟨z,rfl,_⟩,_⟩:=h;exact r.length
 ·obtain⟨O,ds,Qd,tr,r,⟨z,rfl,z0,z1,qq⟩,k⟩:=h;cases r with
  | cons r1 r2=>
   cases r2 with
   | cons r2 r3=>
    cases r3;cases r2;cases r1 with
    | @purse p hp hn=>
     refine⟨_,bG.purse (cm (qm (bz bF (gw bQ (pv 0) bf (λ_ _=>rfl)) bf) (uH (pv 0) bf vg))
   (cm (c7 (i:=2) xt.nd rfl U5 (gw bQ (pv 0) bf (λ_ _=>rfl)))
   (cm (qm (bz eQ (bz bF (bz fi (pv 2) (bz bF (bz eQ (pv 2) bf) bf)) (bz fi bf (gw bQ (pv 0) bf (λ_ _=>rfl)))) bf) (uH (pv 0) bf vg))
   (cm (iq (gU i3 (gw bQ (pv 0) bf (λ_ _=>rfl)) bf (az _)) (cm (qm (bP Gq rfl T.n_divmod Hr (aO (gw bQ (pv 0) bf (λ_ _=>rfl)) (aO (pv 1) bU))) (iw (n:=2) rfl (dA (uH (pv 0) bf vg) (dA (aS (i:=3) xt.nd rfl U5) iu))))
   (cO (dN (pv 3)))) ik)
   (cO (dN (bz eQ (bz gi (gw bQ (pv 0) bf (λ_ _=>rfl)) bf) (pv 1)))))))),p,hp,λa b c=>?_⟩
     walk_at "a";refine kz (aV.of aR) rfl ⟨c,rfl,p,[.int a,.int b,.int c],2,2,rfl,rfl,aR,rfl,?_⟩;refine kz (aV.of aR) rfl ⟨a,rfl,a,rfl,.inr ⟨U2,U2⟩,?_⟩;refine kz (aV.of aR) rfl ⟨c+1,rfl,p,[.int a,.int b,.int (c+1)],0,0,rfl,rfl,aR,rfl,?_⟩;generalize (a*(a % 44497+21701)+86243*(c+1))% 2147483579=a';refine kz (aV.of aR) rfl ⟨b,rfl,?_⟩;split
     ·refine kz (aV.of aR) rfl ⟨b,rfl,z0,U2,λq hq=>?_⟩;have hpq:p≠q:=cL aR hq;refine⟨_,bx.of aR,rfl,_,_,rfl,p,[.int a',.int b,.int (c+1)],1,1,rfl,rfl,by rw [aA hpq,aR];rfl,rfl,?_⟩;refine⟨_,_,rfl,rfl,⟨_,_,_,aR⟩,k _ _ _ (qq (b % z) (Ut _ U2) (TX _ z0)) (Ey hp λx o hx e=>?_) (.int _)⟩;have hxq:x≠q:=λy=>by
       subst y;rw [aA hx,aA hx,aA hx] at hq;rw [hq] at e;cases e
      rw [aA hx,aA hxq,aA hx,aA hx,aA hx];exact e
     ·refine kz (aV.of aR) rfl ⟨a',rfl,z0,⟨_,_,_,aR⟩,k _ _ _ (qq (a' / 16 % z) (Ut _ U2) (TX _ z0)) (Ey hp λx o hx e=>?_) (.int _)⟩;rw [aA hx,aA hx,aA hx];exact e
def Ms:List U7->(U7->Prop)->Prop:=λds Q=>∃c:Int,ds=[.int c]/\Q fB
theorem Ez(T:Txt K mg t):ay P w K mg base aH 1 t.a_d t.d_d ["_law_cell_here"] (bo K Ms):=by
 refine T.F_d.F.ok xp (λvs H Q E h=>?_) (λcdv A outer s H vs Q E hr h=>?_)
 ·obtain⟨O,ds,Qd,_,r,⟨z,rfl,_⟩,_⟩:=h;exact r.length
 ·obtain⟨O,ds,Qd,tr,r,⟨c,rfl,qq⟩,k⟩:=h;cases r with
  | cons r1 r2=>
   cases r2;cases r1;refine⟨_,bG.newPurse (cm (c7 (i:=1) xp.nd rfl U5 bf)
   (cm (iq (PW.pt (y8 (gU qv (pv 0) bf (az _)) (y4 (gU uU (pv 0) (bz Ak bf bf) (az _))))) (cO (c7 (i:=1) xp.nd rfl U5 (bP Gp rfl T.n_abs PyProof.Rows.boot_abs (aO (pv 0) bU)))) ik)
   (cO (dN (mv (aO (bz eQ (pv 0) bf) (aO (pv 1) (aO bf bU)))))))),?_⟩
   walk_at "a";have fin:∀(x y z:Int)(p:U9),H p=none->(∃u v w,ao H p (HO.lst [V.int x,V.int y,V.int z]) p=some (HO.lst [V.int u,V.int v,V.int w]))/\Q (V.ref p) (ao (ao H p (HO.lst [V.int x,V.int y,V.int z])) p (gC p)):=λx y z p hp=>
    ⟨⟨_,_,_,aR⟩,k _ _ _ qq (λb o e=>by rw [aA (cL e hp),aA (cL e hp)];exact e) (.purse aR λh=>tr p h hp)⟩
   have sl:3<=Ve:=U1
   split
   ·rw [U4 trivial];exact⟨sl,fin _ _ _⟩
   ·refine⟨U1,?_⟩;split
    ·exact⟨sl,fin _ _ _⟩
    ·exact⟨sl,fin _ _ _⟩
end
local macro_rules | `(tactic| walk_at "d") =>do let a <- rzT "eV NS OS Og Pf Qi Qj Oa Pz O4"; let b <- rzT (rzS++" C1 C2 js ph pj iM pA jr pB pC pz pE rj rn rq ne_eq qZ q5 rf rg rh qY jN jO mZ jf mS mR mQ g7 eV eJ iY jD ix NS OS Og Pf Oa Pz O4 Oi Qi Qj Rh Ri Rj PY Px Qy Qo Qp P0 exists_eq_left' exists_eq_left exists_and_left exists_and_right QE QF Sl.v.injEq Sl.o.injEq Sl.k.injEq QD Ry PV PX QO ON and_true true_and Rk RI exists_const decide_eq_true_eq Rl Rm Q1 Q2 PZ decide_eq_false_iff_not and_assoc or_true true_or ↓reduceIte if_true if_false Pq Qq not_true_eq_false not_false_eq_true RD Rt ite_true ite_false eq_self exists_eq reduceCtorEq false_and and_false or_false false_or exists_false Q9 Ra jI R6 SD PB SE R7 QY Qh Q0 eX dG k7 g9 nM fQ hG nO beq_self_eq_true fF qQ nN dB sizeLine_eq"); `(tactic| ((try $a:tactic); $b:tactic))
theorem EA:bj (ar pN) ["_law_purse_here","_law_many","_law_letters","_law_stem","_law_at","_law_first","_law_step"] ["_law_k","_law_letters","_law_purse_here"] 1 [2,0] ⟨NZ,[ (NN ".0",Wx),(NN "_law_k",Wx),(NN "_law_take",OI),(NN "_law_letters",NY),(NN "_law_purse_here",NY)],false,false,[]⟩:= .of
theorem EB:bj (ar pN) ["_law_purse_here","_law_many","_law_letters","_law_stem","_law_at","_law_first","_law_step"] ["_law_k","_law_stem","_law_letters","_law_at","_law_first","_law_step"] 1 [3,2,4,5,6] ⟨NZ,[ (NN ".0",Wx),(NN "_law_k",Wx),(NN "_law_at",NY),(NN "_law_first",NY),(NN "_law_letters",NY),(NN "_law_stem",NY),(NN "_law_step",NY)],false,false,[]⟩:= .of
theorem EC:bj (ar tE) ["_law_year_here","_law_month_here","_law_number"] ["_law_k","_law_year_here"] 1 [0] ⟨NZ,[ (NN ".0",Wx),(NN "_law_k",Wx),(NN "_law_month",OI),(NN "_law_year_here",NY)],false,false,[]⟩:= .of
section
variable {P:Vj} {w:Vm} {K:NM} {mg:Str->Option U8} {base:Vl} {t:cM}
def Mt:List U7->(U7->Prop)->Prop:=λds Q=>∃(ns:List Int)(k:Int),ds=[eS (ns.map .int),.int k]/\0<=k/\k<=1000/\∀c:Int,Q (.int c)
theorem ED(T:Txt K mg t):ay P w K mg base aH 1 t.a_c t.d_c ["_law_script","_law_k"] (bo K Mt):=by
 refine T.F_c.F.okD tO (λds Q h=>?_) (λ_ _ _ _ H O ds Q E hr h=>?_)
 ·obtain⟨ns,k,rfl,_⟩:=h;rfl
 ·obtain⟨ns,k,rfl,k0,k1,q⟩:=h;refine'⟨_,?A,?B⟩
  case A=>
   refine' aq ?C ?D
   case C=>
    refine' bC ?E ?F bB
    case E=>exact(aG qv dF (dv 1) (PE.imp (bP fj rfl T.n_len O6 (bt (dv 0) br)) (bJ Br)) (az _))
    case' F=>refine' au ?G
    case G=>exact(aJ (av bQ JD (dv 0) (dv 1)))
   case' D=>refine' aq ?H ?I
   case H=>
    refine' bH (i:=2) tO.nd rfl U5 ?J (hs:=jS)
    case J=>exact(aM eQ cQ (aM fi cQ ag (aM bF bL (aM bF bL (aM fi cQ (dv 1) (dv 1)) (aM fi cQ ag (dv 1))) ag)) ag)
   case' I=>refine' aq ?K ?L
   case K=>
    refine' kN OO rfl (fe (JE (df (dv 0)) ji (fy ag))) ?M aW ?N
    case M=>exact(aS (i:=3) tO.nd rfl U5)
    case' N=>refine' au ?O
    case' O=>refine' bH (i:=2) tO.nd rfl U5 ?P (hs:=jS)
    case P=>exact(aM eQ cQ (aM bF bL (aM fi cQ (dv 2) ag) (dv 3)) ag)
   case' L=>refine' au ?Q
   case Q=>exact(aJ (dv 2))
  case B=>
  clear hr T;walk_at "d";refine⟨_,rfl,?_⟩;rw [NO];split
  ·rename_i hlt;obtain⟨j,rfl⟩:=Pm k0;have hj:j < ns.length:=U2
   exact⟨_,rfl,.int ns[j],fN (by simp [hj]),q _⟩
  ·refine⟨.inl ⟨U2,U2⟩,_,rfl,λi δ=>∃(st:Int)(o:Option Sl),δ=[some (Sl.v (eS (ns.map .int))),some (Sl.v (.int k)),some (Sl.v (.int st)),o],⟨_,_,rfl⟩,?_,?_⟩
   ·rintro i x δ hx ⟨st,o,rfl⟩;have hm:=Oq hx;unfold cV at hm;have hm2:=Tn (QA hm);obtain⟨c,_,rfl⟩:=N6.mp hm2;walk_at "d"
    first | exact⟨_,_,rfl,rfl⟩ | exact⟨_,_,rfl⟩ | exact⟨_,rfl,_,rfl⟩ | exact⟨_,rfl⟩ | exact⟨_,_,trivial⟩ | exact⟨⟨_,rfl⟩,⟨_,rfl⟩⟩
   ·rintro δ ⟨st,o,rfl⟩;walk_at "d";exact q _
def EF:List U7->(U7->Prop)->Prop:=λds Q=>∃y m:Int,ds=[.int y,.int m]/\1<=m/\m<=12/\Q (.int (bb y m))
theorem xJ(T:Txt K mg t):ay P w K mg base aH 1 t.a_g t.d_g ["_law_year_here","_law_month_here"] (bo K EF):=by
 refine T.F_g.F.okD Dh (λds Q h=>?_) (λ_ _ _ _ H O ds Q E hr h=>?_)
 ·obtain⟨y,m,rfl,_⟩:=h;rfl
 ·obtain⟨y,m,rfl,m1,m2,q⟩:=h;refine'⟨_,?A,?B⟩
  case A=>
   refine' aq ?C ?D
   case C=>
    generalize hG2:TV _ _ _ _=eg2;refine' bH (i:=2) Dh.nd rfl U5 ?E (hs:=by subst hG2;exact iK)
    case' E=>subst hG2
    exact(PE.imp (eR qy rfl T.n_int mC (bt (HW (d5 (cn hr.units) cq (df (aM eQ cQ (dv 0) ag)) (df ag) (az _)) (kF (kG (d5 (cn hr.units) cq (df (aM eQ cQ (dv 0) ag)) (df ag) (az _)) (kF (d5 (kQ hr.units) kU (df (aM eQ cQ (dv 0) ag)) (df ag) (az _)))))) br)) (bJ qP))
   case' D=>refine' au ?F
   case' F=>generalize hG5:S9 _ _ _=eg5
   refine' aJ ?G
   case' G=>subst hG5
   refine' eU bQ bZ (df ?H) ?I
   case H=>
    refine' fe ?J
    case' J=>refine' cy ?K
    case' K=>refine' aa ?L ?M
    case L=>exact((ag))
    case' M=>refine' aa ?N ?O
    case N=>exact(((aM bF bL ag (dv 2))))
    case O=>refine' lh (ds:=[.int 31,.int 30,.int 31,.int 30,.int 31,.int 31,.int 30,.int 31,.int 30,.int 31]) (by rfl)
   case I=>exact(df (aM cU bL (dv 1) ag))
  case B=>
  clear hr T;walk_at "d";have ma:=pd y;have key:∀l2:Int,l2=bb y 2->∃d,atI [NQ 31,NQ l2,NQ 31,NQ 30,NQ 31,NQ 30,NQ 31,NQ 31,NQ 30,NQ 31,NQ 30,NQ 31] (m - 1)=some d/\Q d:=λl2 e=>by
   obtain⟨a1,a3,a4,a5,a6,a7,a8,a9,a10,a11,a12⟩:=ma;rcases sI m1 m2 with z | z | z | z | z | z | z | z | z | z | z | z <;> subst z
   ·rw [a1] at q;exact⟨_,rfl,q⟩
   ·rw [<-e] at q;exact⟨_,rfl,q⟩
   ·rw [a3] at q;exact⟨_,rfl,q⟩
   ·rw [a4] at q;exact⟨_,rfl,q⟩
   ·rw [a5] at q;exact⟨_,rfl,q⟩
   ·rw [a6] at q;exact⟨_,rfl,q⟩
   ·rw [a7] at q;exact⟨_,rfl,q⟩
   ·rw [a8] at q;exact⟨_,rfl,q⟩
   ·rw [a9] at q;exact⟨_,rfl,q⟩
   ·rw [a10] at q;exact⟨_,rfl,q⟩
   ·rw [a11] at q;exact⟨_,rfl,q⟩
   ·rw [a12] at q;exact⟨_,rfl,q⟩
  have e2:=sH y;unfold ld at e2;have li:=pb y;split
  ·rename_i h;have h:=eq_of_beq h;exact key _ (by rw [e2,U4 (li.mpr (.inl h))])
  ·rename_i h;have h:¬y % 400=0:=λe=>h (by rw [e];rfl);split
   ·rename_i h4;have h4:=eq_of_beq h4;by_cases h100:y % 100=0
    ·have nl:¬fT y=true:=λz=>by rcases li.mp z with z | z;exact h z;exact z.2 h100
     have nb:¬(y % 100==0)=false:=by rw [h100];decide
     exact key _ (by rw [e2,U3 nl,U3 nb])
    ·exact key _ (by rw [e2,U4 (show fT y=true from li.mpr (.inr ⟨h4,h100⟩)),U4 (show(y % 100==0)=false by simpa using h100)])
   ·rename_i h4;have h4:¬y % 4=0:=λe=>h4 (by rw [e];rfl);exact key _ (by rw [e2,U3 (λz=>by rcases li.mp z with z | z;exact h z;exact h4 z.1)])
def Mu:List U7->(U7->Prop)->Prop:=λds Q=>∃y:Int,ds=[.int y]/\Q (.int (bK y))
theorem EG(T:Txt K mg t):ay P w K mg base aH 1 t.a_h t.d_h ["_law_year_here"] (bo K Mu):=by
 refine T.F_h.F.okD Di (λds Q h=>?_) (λ_ _ _ _ H O ds Q E hr h=>?_)
 ·obtain⟨y,rfl,_⟩:=h;rfl
 ·obtain⟨y,rfl,q⟩:=h;refine'⟨_,?A,?B⟩
  case A=>
   refine' aq ?C ?D
   case C=>exact(bH (i:=0) Di.nd rfl U5 (aM cU bL (dv 0) ag))
   case' D=>refine' au ?E
   case' E=>generalize hG4:UY _ _ _ _=eg4
   refine' aJ ?F
   case' F=>subst hG4
   exact(aM cU bL (aM bF bL (aM cU bL (aM bF bL (aM fi cQ ag (aM cU bL (dv 0) ag)) (aM gi cQ (dv 0) ag)) (aM gi cQ (dv 0) ag)) (aM gi cQ (dv 0) ag)) ag)
  case B=>
  clear hr T;walk_at "d";have e:365*(y - 1 - 1999)+(y - 1)/ 4 - (y - 1)/ 100+(y - 1)/ 400 - 484=bK y:=by
   unfold bK lb;omega
  rw [e];exact q
def xK:List U7->(U7->Prop)->Prop:=λds Q=>∃y m n:Int,ds=[.int y,.int m,.int n]/\1<=m/\m<=12/\Q (.int (fU y m n))
theorem EH(T:Txt K mg t):ay P w K mg base aH 2 t.a_i t.d_i ["_law_year_here","_law_month_here","_law_number"] (bo K xK):=by
 have G_h:=@EG P w _ _ base _ T;have G_g:=@xJ P w _ _ base _ T;refine T.F_i.F.okD Lf (λds Q h=>?_) (λ_ _ _ _ H O ds Q E hr h=>?_)
 ·obtain⟨y,m,n,rfl,_⟩:=h;rfl
 ·obtain⟨y,m,n,rfl,m1,m2,q⟩:=h;refine'⟨_,?A,?B⟩
  case A=>
   refine' au ?C
   case' C=>refine' aJ ?D
   case D=>exact(aM cU bL (aM bF bL (aM bF bL (ax G_h hr T.F_h (aa (dv 0) ah)) (PE.imp (bP (A0 rfl) rfl T.n_sum S5 (bt (fe (I0 rfl EC rfl T.n_range (bt ag (bt (dv 1) br)) aW cz U1 (λ_ _ _ _=>(aS (i:=0) EC.nd rfl U5)) (λ_ _ _ _=>iH) (λ_ _ _ _=>(ax G_g hr T.F_g (aa (dv 1) (aa (dv 0) ah)))))) br)) (bJ J4))) (dv 2)) ag)
  case B=>
  clear hr T G_h G_g;walk_at "d";refine⟨y,rfl,by have:((16777216:Nat):Int)=16777216:=rfl;omega,U2,U2,?_⟩;refine vV (λx=>match x with | .int i=>.int (bb y i) | _=>.none) (λx hx R hR=>?_) ?_
  ·obtain⟨i,hi⟩:=QW hx;obtain⟨hlt,rfl⟩:=jP hi;walk_at "d";exact⟨y,1+(i:Int),rfl,U2,U2,hR⟩
  ·refine⟨(OU (m - 1).toNat).map λ(i:Nat)=>bb y (1+(i:Int)),by unfold iC;rw [Oe,Oe];rfl,_,rfl,?_⟩;exact q
structure EI (x:Str):Prop extends cI 20 x where
 lt:∃c∈x.cps.toList,c∈eL.cps.toList
def t7(ss:List Str):Prop:=∀s∈ss,EI s
def xM:List Str:=["paper","rule","keep","gone","deep","first","kind","leave"]
theorem Mv:∀z∈xM,EI z:=by
 intro z hz;have a:xM.all (λz=>N0 z && decide (z.length<=20) && z.cps.toList.any λc=>decide (c∈eL.cps.toList))=true:=U0
 have:=PR.mp a z hz;simp only [OV,decide_eq_true_eq,Ql] at this;exact⟨⟨this.1.1,this.1.2⟩,this.2⟩
theorem Mw{j:Int}(h0:0<=j)(h1:j < 26):eL.cps.toList[j.toNat]?=some (dH j):=by
 obtain⟨c,_,hc,_⟩:=nT h0 h1;have e:dH j=c:=by unfold dH;rw [hc];rfl
 rw [e];exact hc
def p8(st:Str)(at0 fs sp:Int)(k:Nat):Str:=Txt.slice st none (some at0)++⟨#[dH ((fs+sp*(0+(k:Int)))% 26)]⟩++Txt.slice st (some at0) none
theorem Mx{st:Str}{at0 fs sp:Int}{a b:Nat}(h:p8 st at0 fs sp a=p8 st at0 fs sp b):dH ((fs+sp*(0+(a:Int)))% 26)=dH ((fs+sp*(0+(b:Int)))% 26):=by
 have z:=congrArg (λs:Str=>s.cps.toList) h;unfold p8 at z;simp only [vN,QG] at z;have z:=List.append_cancel_left (List.append_cancel_right z);exact(RE z).1
def My:List U7->(U7->Prop)->Prop:=λds Q=>ds=[fB,.int 8]/\∀ss:List Str,ss.length=8->t7 ss->ss.Nodup->Q (.list (ss.map .str))
theorem Mz(T:Txt K mg t):ay P w K mg base aH 2 t.a_f t.d_f ["_law_purse_here","_law_many"] (bo K My):=by
 have G_e:=@lZ P w _ _ base _ T;refine T.F_f.F.okD lO (λds Q h=>?_) (λ_ _ _ _ H O ds Q E hr h=>?_)
 ·obtain⟨rfl,_⟩:=h;rfl
 ·obtain⟨rfl,q⟩:=h;refine'⟨_,?A,?B⟩
  case A=>
   refine' aq ?C ?D
   case C=>exact(bH (i:=2) lO.nd rfl U5 aQ)
   case' D=>refine' aq ?E ?F
   case E=>
    refine' bH (i:=3) lO.nd rfl U5 ?G (hs:=iK)
    case G=>exact(Ip aQ (df (fe (vF rfl EA rfl T.n_range (bt (ax G_e hr T.F_e (aa (dv 0) (aa ag ah))) br) aW cz U1 (λ_ _ _ _=>(aS (i:=0) EA.nd rfl U5)) (λ_ _ _ _=>iH) (λ_ _ _ _=>(av AM Bt (dv 1) (ax G_e hr T.F_e (aa (dv 2) (aa ag ah)))))))))
   case' F=>refine' aq ?H ?I
   case H=>
    refine' bH (i:=4) lO.nd rfl U5 ?J (hs:=iK)
    case J=>exact(ax G_e hr T.F_e (aa (dv 0) (aa (aM bF bL (PE.imp (bP G6 rfl T.n_len O6 (bt (dv 3) br)) (bJ Ja)) ag) ah)))
   case' I=>refine' aq ?K ?L
   case K=>
    generalize hE10_0:Ux _ _=ee10_0;exact(vE (bE (aa (ax G_e hr T.F_e (aa (dv 0) (aa ag ah))) (aa (av bQ bZ (fe (vM (ds:=[.int 1,.int 3,.int 5,.int 7,.int 9,.int 11]) (by first | (subst hE10_0;rfl)))) (ax G_e hr T.F_e (aa (dv 0) (aa ag ah)))) ah))) (iw (n:=2) rfl (dA (aS (i:=5) lO.nd rfl U5) (dA (aS (i:=6) lO.nd rfl U5) iu))) (jh (d7 aW (d7 aW jg))))
   case' L=>refine' aq ?M ?N
   case M=>
    refine' bC ?O ?P bB
    case O=>exact(aG (cn hr.units) cq (ax G_e hr T.F_e (aa (dv 0) (aa ag ah))) ag (az _))
    case' P=>refine' au ?Q
    case' Q=>generalize hE14_0:Ux _ _=ee14_0
    exact(aJ (fe (nv (df (fe (vM (ds:=[.str "paper",.str "rule",.str "keep",.str "gone",.str "deep",.str "first",.str "kind",.str "leave"]) (by first | (subst hE14_0;rfl))))) ji (fy (dv 1)))))
   case' N=>refine' au ?R
   case' R=>refine' aJ ?S
   case' S=>refine' fe ?T
   case T=>exact(vF rfl EB rfl T.n_range (bt (dv 1) br) aW cz U1 (λ_ _ _ _=>(aS (i:=0) EB.nd rfl U5)) (λ_ _ _ _=>iH) (λ_ _ _ _=>(aM As Bs (aM As Bs (Bu (df (dv 1)) ji (fy (dv 3))) (av AM Bt (dv 2) (aM eQ cQ (aM bF bL (dv 4) (aM fi cQ (dv 5) (dv 0))) ag))) (Bu (df (dv 1)) (fy (dv 3)) ji))))
  case B=>
  clear hr T G_e;walk_at "d";refine⟨8,rfl,U1,U1,λj j0 j8=>⟨j,rfl,U2,by have:((16777216:Nat):Int)=16777216:=rfl;omega,?_⟩⟩;refine⟨λi acc=>∃ys:List Str,acc=ys.map .str/\ys.length=i/\∀y∈ys,cI 1 y,⟨[],rfl,rfl,U6⟩,?_,?_⟩
  ·rintro i z acc hz ⟨ys,rfl,hl,hg⟩;obtain⟨hi,rfl⟩:=jP hz;walk_at "d";refine⟨26,rfl,U1,U1,λa a0 a1=>?_⟩;obtain⟨x,e1,_,x1⟩:=nT a0 a1;refine⟨_,rfl,U0,x,e1,ys++[⟨#[x]⟩],by rw [OJ];rfl,by simp [hl],λz hz=>?_⟩;rcases Oo.mp hz with h | h
   ·exact hg z h
   ·rw [OA] at h;rw [h];exact cI.chr x1
  ·rintro acc ⟨ys,rfl,hl,hg⟩;rw [qS] at hl;have gj:=cI.join hg;have sl:(ys.map λx=>x.length).sum<=ys.length:=by
    clear hl gj
    induction ys with
    | nil=>simp
    | cons y ys ih=>
     rw [NS,UB,Og];have:=(hg y U6).le;have:=ih λz hz=>hg z (by simp [hz]);omega
   have l7:ys.length<=7:=U2
   refine⟨ys,rfl,?_⟩;generalize hst:Txt.join (NL "") ys=st;have gs:cI 7 st:=by rw [<-hst];exact gj.mono l7
   have e0:(NL "").length=0:=U0
   have gl:=gs.le;refine⟨by rw [e0];omega,U2,_,rfl,U2,U2,λat0 a0 a1=>⟨26,rfl,U1,U1,λfs f0 f1=>⟨6,rfl,U1,U1,λsx s0 s1=>⟨_,rfl,?_⟩⟩⟩⟩;have six:∃sp:Int,atI [NQ 1,NQ 3,NQ 5,NQ 7,NQ 9,NQ 11] sx=some (.int sp)/\(0<=sp/\sp<=11)/\(sp=1\/sp=3\/sp=5\/sp=7\/sp=9\/sp=11):=by
    have:sx=0\/sx=1\/sx=2\/sx=3\/sx=4\/sx=5:=U2
    rcases this with h | h | h | h | h | h <;> subst h
    ·exact⟨1,rfl,U1,U1⟩
    ·exact⟨3,rfl,U1,U1⟩
    ·exact⟨5,rfl,U1,U1⟩
    ·exact⟨7,rfl,U1,U1⟩
    ·exact⟨9,rfl,U1,U1⟩
    ·exact⟨11,rfl,U1,U1⟩
   obtain⟨sp,hsp,⟨p0,p1⟩,p6⟩:=six;refine⟨_,hsp,8,rfl,U1,U1,λv v0 v1=>⟨fF,?_⟩⟩;rw [hG];split
   ·exact q xM rfl Mv U0
   ·have g1:=gs.slice none (some at0);have g2:=gs.slice (some at0) none;have abr:∀i:Nat,dH ((fs+sp*(0+(i:Int)))% 26) < 0x110000/\atI eL.cps.toList ((fs+sp*(0+(i:Int)))% 26)=some (dH ((fs+sp*(0+(i:Int)))% 26)):=λi=>(IX U2 U2).symm;refine⟨U1,λi acc=>acc=((OU i).map λ(k:Nat)=>p8 st at0 fs sp k).map .str,rfl,?_,?_⟩
    ·rintro i z acc hz rfl;obtain⟨hi,rfl⟩:=jP hz;walk_at "d";obtain⟨x1,e1⟩:=abr i;have lx:(⟨#[dH ((fs+sp*(0+(i:Int)))% 26)]⟩:Str).length=1:=rfl;have l1:=g1.le;have l2:=g2.le;have ga:=(g1.append (cI.chr x1)).append g2;have gal:=ga.le;refine⟨U2,.inl ⟨U2,U2⟩,U0,_,e1,by rw [lx];omega,U2,by rw [BI,lx];omega,?_⟩;rw [RQ,OJ,OJ];rfl
    ·rintro acc rfl;rw [qS];refine q _ U6 (λz hz=>?_) ?_
     ·obtain⟨k,_,rfl⟩:=N6.mp hz;refine⟨((g1.append (cI.chr (abr k).1)).append g2).mono U2,dH ((fs+sp*(0+(k:Int)))% 26),?_,Oq (Mw U2 U2)⟩;unfold p8;simp only [vN,QG];exact QS _ (OH _ U6)
     ·rw [QV,OX];refine Qa.mpr λa b ha hb lt e=>?_;rw [TY,TY] at e;have hb:b < 8:=by simpa using hb
      have e2:=Mx e;have e3:=IY U2 U2 U2 U2 e2;rcases p6 with h | h | h | h | h | h <;> subst h <;> omega
end
theorem EJ:bj (ar tF) ["_law_purse_here","_law_word","_law_names_here","_law_kinds","_law_far","_law_day_here","_law_name","_law_some","_law_kind","_law_target"] ["_law_one","_law_purse_here"] 1 [0] ⟨NZ,[ (NN ".0",Wx),(NN "_law_one",Wx),(NN "_law_take",OI),(NN "_law_purse_here",NY)],false,false,[]⟩:= .of
section
variable {P:Vj} {w:Vm} {K:NM} {mg:Str->Option U8} {base:Vl} {t:cM}
def MA:List U7->(U7->Prop)->Prop:=λds Q=>∃far:Int,ds=[fB,.int far]/\∀d:Int,0<=d->d < 100000->Q (.int d)
theorem t8{a b:U7}{i:Int}(h0:0<=i)(h1:i < 2):∃d,atI [a,b] i=some d/\(d=a\/d=b):=by
 have:i=0\/i=1:=U2
 rcases this with e | e <;> subst e
 ·exact⟨_,eX,.inl rfl⟩
 ·exact⟨_,dG,.inr rfl⟩
theorem MB{y m n:Int}(y0:2000<=y)(y1:y<=2269)(m1:1<=m)(m2:m<=12)(n1:1<=n)(n2:n<=bb y m):0<=fU y m n/\fU y m n < 100000:=by
 have ba:=sL (y:=y) m1 m2;have ld:=we y;have ys:0<=bK y/\bK y<=98300:=by unfold bK lb;omega
 unfold fU;omega
theorem MC(T:Txt K mg t):ay P w K mg base aH 3 t.a_k t.d_k ["_law_purse_here","_law_far"] (bo K MA):=by
 have G_e:=@lZ P w _ _ base _ T;have G_g:=@xJ P w _ _ base _ T;have G_i:=@EH P w _ _ base _ T;refine T.F_k.F.okD Dj (λds Q h=>?_) (λ_ _ _ _ H O ds Q E hr h=>?_)
 ·obtain⟨far,rfl,_⟩:=h;rfl
 ·obtain⟨far,rfl,q⟩:=h;refine'⟨_,?A,?B⟩
  case A=>
   refine' aq ?C ?D
   case C=>
    refine' bC ?E ?F bB
    case E=>exact(aG (cn hr.units) cq (dv 1) ag (az _))
    case' F=>refine' au ?G
    case G=>exact(aJ (ax G_e hr T.F_e (aa (dv 0) (aa ag ah))))
   case' D=>refine' aq ?H ?I
   case H=>
    refine' bC ?J ?K bB
    case J=>exact(aG (cn hr.units) cq (ax G_e hr T.F_e (aa (dv 0) (aa ag ah))) ag (az _))
    case' K=>refine' au ?L
    case L=>exact(aJ (ax G_e hr T.F_e (aa (dv 0) (aa ag ah))))
   case' I=>refine' aq ?M ?N
   case M=>exact(kK (i:=2) (j:=3) rfl Dj.nd rfl rfl U1 rfl rfl (aa (aM bF bL ag (ax G_e hr T.F_e (aa (dv 0) (aa ag ah)))) (aa (aM bF bL ag (ax G_e hr T.F_e (aa (dv 0) (aa ag ah)))) ah)) (by rfl))
   case' N=>refine' au ?O
   case' O=>refine' aJ ?P
   case P=>exact(ax G_i hr T.F_i (aa (dv 2) (aa (dv 3) (aa (av bQ bZ (fe (cy (aa ag (aa (aM cU bL (ax G_g hr T.F_g (aa (dv 2) (aa (dv 3) ah))) (ax G_e hr T.F_e (aa (dv 0) (aa ag ah)))) ah)))) (ax G_e hr T.F_e (aa (dv 0) (aa ag ah)))) ah))))
  case B=>
  clear hr T G_e G_g G_i;walk_at "d";split
  ·exact⟨41,rfl,U1,U1,λd d0 d1=>q d d0 U2⟩
  ·refine⟨2,rfl,U1,U1,λv v0 v1=>⟨fF,?_⟩⟩;rw [hG];split
   ·exact⟨100000,rfl,U1,U1,λd d0 d1=>q d d0 d1⟩
   ·refine⟨270,rfl,U1,U1,λy y0 y1=>⟨_,rfl,12,rfl,U1,U1,λm m0 m1=>⟨_,rfl,?_⟩⟩⟩;refine⟨2000+y,1+m,rfl,U2,U2,4,rfl,U1,U1,λz z0 z1=>⟨_,rfl,_,rfl,2,rfl,U1,U1,λe e0 e1=>⟨_,rfl,?_⟩⟩⟩;have mb:=CA (y:=2000+y) (m:=1+m) U2 U2;have nb:∀n,1<=n->n<=bb (2000+y) (1+m)->xK [.int (2000+y),.int (1+m),.int n] Q:=λn n1 n2=>by
     have:=MB (y:=2000+y) (m:=1+m) (n:=n) U2 U2 U2 U2 n1 n2;exact⟨_,_,_,rfl,U2,U2,q _ this.1 this.2⟩
    obtain⟨d,hd,hd'⟩:=t8 (a:=NQ 1) (b:=NQ (bb (2000+y) (1+m) - z)) e0 e1;refine⟨d,hd,?_⟩;rcases hd' with h | h <;> rw [h]
    ·exact nb 1 U2 U2
    ·exact nb _ U2 U2
structure xN (ns ks:List Str) (far:Int):Prop where
 nl:ns.length=8
 no:t7 ns
 nn:ns.Nodup
 k0:2<=ks.length
 k1:ks.length<=3
 ko:t7 ks
 f0:0<=far
 f1:far<=1
def MD:List U7->(U7->Prop)->Prop:=λds Q=>∃(wo:Str)(ns ks:List Str)(far:Int),ds=[fB,.str wo,.list (ns.map .str),.list (ks.map .str),.int far]/\N0 wo=true/\xN ns ks far/\∀pt:Pt,pt.Ok->pt.wd=wo->Q pt.enc
theorem iS{ss:List Str}{i:Int}(h0:0<=i)(h1:i < ss.length):∃s∈ss,atI (ss.map NP) i=some (.str s):=by
 obtain⟨k,rfl⟩:=Pm h0;have hk:k < ss.length:=U2
 exact⟨ss[k],Py hk,fN (by simp [hk])⟩
theorem ME(T:Txt K mg t):ay P w K mg base aH 2 t.a_l t.d_l ["_law_purse_here","_law_word","_law_names_here","_law_kinds","_law_far"] (bo K MD):=by
 have G_e:=@lZ P w _ _ base _ T;refine T.F_l.F.okD tP (λds Q h=>?_) (λ_ _ _ _ H O ds Q E hr h=>?_)
 ·obtain⟨wo,ns,ks,far,rfl,_⟩:=h;rfl
 ·obtain⟨wo,ns,ks,far,rfl,hw,dr,q⟩:=h;refine'⟨_,?A,?B⟩
  case A=>
   refine' aq ?C ?D
   case C=>
    refine' bH (i:=5) tP.nd rfl U5 ?E (hs:=jT)
    case' E=>refine' eU bQ bZ (df (dv 3)) ?F
    case F=>exact(df (ax G_e hr T.F_e (aa (dv 0) (aa (PE.imp (bP fj rfl T.n_len O6 (bt (dv 3) br)) (bJ fE)) ah))))
   case' D=>refine' aq ?G ?H
   case G=>
    refine' bC ?I ?J bB
    case I=>exact(aG (BM hr) nX (dv 1) (bE (aa aQ (aa aQ ah))) rfl)
    case' J=>refine' au ?K
    case K=>exact(aJ (bE (aa (dv 1) (aa (dv 5) ah))))
   case' H=>refine' aq ?L ?M
   case L=>
    generalize hG10:S9 _ _ _=eg10;refine' bH (i:=6) tP.nd rfl U5 ?N (hs:=by subst hG10;exact jT)
    case' N=>subst hG10
    refine' eU bQ bZ (df ?O) ?P
    case O=>
     refine' fe ?Q
     case' Q=>refine' cy ?R
     case' R=>refine' aa ?S ?T
     case S=>exact(bE (aa aQ ah))
     case' T=>refine' aa ?U ?V
     case U=>exact(bE (aa aQ (aa (av bQ bZ (dv 2) ag) ah)))
     case' V=>refine' aa ?W ah
     case' W=>refine' bE ?X
     case' X=>refine' aa aQ ?Y
     case' Y=>refine' aa ?Z ah
     case' Z=>refine' eU bQ bZ (df (dv 2)) ?a
     case a=>exact(df (aM bF bL ag (ax G_e hr T.F_e (aa (dv 0) (aa ag ah)))))
    case P=>exact(df (ax G_e hr T.F_e (aa (dv 0) (aa ag ah))))
   case' M=>refine' aq ?b ?c
   case b=>
    refine' bC ?d ?e bB
    case d=>exact(aG (cn hr.units) cq (dv 4) ag (az _))
    case' e=>refine' au ?f
    case' f=>refine' aJ ?g
    case' g=>refine' bE ?h
    case' h=>refine' aa (dv 1) ?i
    case' i=>refine' aa (dv 5) ?j
    case' j=>refine' aa (dv 6) ?k
    case' k=>refine' aa ?l ?m
    case l=>exact(ax G_e hr T.F_e (aa (dv 0) (aa ag ah)))
    case m=>refine' aa aQ ah
   case' c=>refine' aq ?n ?o
   case n=>
    refine' bH (i:=7) tP.nd rfl U5 ?p (hs:=iK)
    case p=>exact(ax G_e hr T.F_e (aa (dv 0) (aa (av bQ bZ (fe (cy (lh (ds:=[.int 1000,.int 14,.int 30]) (by rfl)))) (ax G_e hr T.F_e (aa (dv 0) (aa ag ah)))) ah)))
   case' o=>refine' au ?q
   case' q=>refine' aJ ?r
   case' r=>refine' bE ?s
   case' s=>refine' aa (dv 1) ?t
   case' t=>refine' aa (dv 5) ?u
   case' u=>refine' aa (dv 6) ?v
   case' v=>refine' aa (dv 7) ?w
   case' w=>refine' aa ?x ah
   case' x=>refine' eU bQ bZ (df ?y) ?z
   case y=>exact(fe (cy (lh (ds:=[.str "days",.str "months",.str "years"]) (by rfl))))
   case z=>exact(df (ax G_e hr T.F_e (aa (dv 0) (aa ag ah))))
  case B=>
  clear hr T G_e;walk_at "d";refine⟨_,rfl,by rw [NO];have:=dr.k0;omega,by rw [NO];have:=dr.k1;omega,λi i0 i1=>⟨_,rfl,?_⟩⟩;rw [NO] at i1;obtain⟨kd,hk,ek⟩:=iS i0 i1;have kok:=(dr.ko kd hk).ok;refine⟨_,ek,cW.mpr hw,U0,?_⟩;by_cases hg:KG wo
  ·rw [U3 (by rcases hg with e | e <;> rw [e] <;> decide+kernel)];have nl:=dr.nl;obtain⟨n6,h6,e6⟩:=iS (ss:=ns) (i:=6) U1 U2;refine⟨_,e6,2,rfl,U1,U1,λj j0 j1=>⟨_,rfl,?_⟩⟩;obtain⟨n7,h7,e7⟩:=iS (ss:=ns) (i:=6+j) U2 U2;refine⟨_,e7,3,rfl,U1,U1,λv v0 v1=>⟨_,rfl,?_⟩⟩;have sn:∃s:cC,s.Ok/\atI [N3 [NP (NL "coming")],N3 [NP (NL "first"),.str n6],N3 [NP (NL "last"),.str n7]] v=some s.enc:=by
    have:v=0\/v=1\/v=2:=U2
    rcases this with e | e | e <;> subst e
    ·exact⟨.com,trivial,rfl⟩
    ·exact⟨.fst n6,(dr.no n6 h6).ok,rfl⟩
    ·exact⟨.lst n7,(dr.no n7 h7).ok,rfl⟩
   obtain⟨sn,so,es⟩:=sn;refine⟨_,es,?_⟩;have fin:∀(k:Int)(u:Str),0<=k->k < 1000->hZ u->Q (N3 [NP wo,.str kd,sn.enc,.int k,.str u]):=λk u k0 k1 hu=>q (.five wo kd sn k u) ⟨hg,kok,so,k0,k1,hu⟩ rfl;split
   ·exact⟨21,rfl,U1,U1,λk k0 k1=>fin k _ k0 U2 (.inl rfl)⟩
   ·refine⟨3,rfl,U1,U1,λa a0 a1=>⟨_,rfl,?_⟩⟩;have mx:∃z:Int,0 < z/\z<=1000/\atI [NQ 1000,NQ 14,NQ 30] a=some (.int z):=by
     have:a=0\/a=1\/a=2:=U2
     rcases this with e | e | e <;> subst e
     ·exact⟨1000,U1,U1,rfl⟩
     ·exact⟨14,U1,U1,rfl⟩
     ·exact⟨30,U1,U1,rfl⟩
    obtain⟨z,z0,z1,ez⟩:=mx;refine⟨_,ez,z,rfl,z0,U2,λk k0 k1=>⟨3,rfl,U1,U1,λb b0 b1=>⟨_,rfl,?_⟩⟩⟩;have:b=0\/b=1\/b=2:=U2
    rcases this with e | e | e <;> subst e
    ·exact⟨_,eX,fin k _ k0 U2 (.inl rfl)⟩
    ·exact⟨_,dG,fin k _ k0 U2 (.inr (.inl rfl))⟩
    ·exact⟨_,k7,fin k _ k0 U2 (.inr (.inr rfl))⟩
  ·rw [U4 (by
    rw [cg (λe=>hg (.inl e.symm)),cg (λe=>hg (.inr e.symm))];rfl)]
   exact q (.two wo kd) ⟨hg,hw,kok⟩ rfl
structure j4 (x:De):Prop where
 w:N0 x.w=true
 nm:N0 x.nm=true
 d0:0<=x.d/\x.d < 100000
 ly:cA 4 x.enc
 pp:∀p,x= .pap p->N0 p.kd=true/\(∀m∈p.ms,N0 m=true)/\p.ms.length<=50/\p.ms.Nodup
 np:∀w d nm r,x= .oth w d nm r->w≠NL "paper"
 hp:∀d nm r,x= .oth (NL "happens") d nm r->∃wd,r=[.str wd]/\N0 wd=true
 ru:∀d nm r,x= .oth (NL "rule") d nm r->∃pt:Pt,r=[pt.enc]/\pt.Ok
def l3:List Str:=["paper","happens","end","lift","hold","permit"]
def MF(wo:Str)(x:De):Prop:=∀d nm(pt:Pt),x= .oth (NL "rule") d nm [pt.enc]->pt.wd=wo/\wo ∉ l3
def MG:List U7->(U7->Prop)->Prop:=λds Q=>∃(wo:Str)(ns ks:List Str)(far:Int),ds=[fB,.str wo,.list (ns.map .str),.list (ks.map .str),.int far]/\N0 wo=true/\xN ns ks far/\∀x:De,j4 x->(wo=NL "paper"->∃p,x= .pap p)->MF wo x->x.nm∈ns->Q x.enc
theorem MH(T:Txt K mg t):ay P w K mg base aH 4 t.a_m t.d_m ["_law_purse_here","_law_word","_law_names_here","_law_kinds","_law_far"] (bo K MG):=by
 have G_e:=@lZ P w _ _ base _ T;have G_k:=@MC P w _ _ base _ T;have G_l:=@ME P w _ _ base _ T;refine T.F_m.F.okD lP (λds Q h=>?_) (λ_ _ _ _ H O ds Q E hr h=>?_)
 ·obtain⟨wo,ns,ks,far,rfl,_⟩:=h;rfl
 ·obtain⟨wo,ns,ks,far,rfl,hw,dr,q⟩:=h;refine'⟨_,?A,?B⟩
  case A=>
   refine' aq ?C ?D
   case C=>exact(bH (i:=5) lP.nd rfl U5 (ax G_k hr T.F_k (aa (dv 0) (aa (dv 4) ah))))
   case' D=>refine' aq ?E ?F
   case E=>exact(bH (i:=6) lP.nd rfl U5 (av bQ bZ (dv 2) (ax G_e hr T.F_e (aa (dv 0) (aa ag ah)))))
   case' F=>refine' aq ?G ?H
   case G=>
    refine' bC ?I ?J bB
    case I=>exact(aG (cF hr) cG (dv 1) aQ (az _))
    case' J=>refine' aq ?K ?L
    case K=>exact(iJ (i:=7) lP.nd rfl U5 (nU rfl EJ (df (fe (nv (df (dv 2)) ji (fy ag)))) aW cz U1 (λ_ _ _ _=>(aS (i:=0) EJ.nd rfl U5)) (λ_ _ _ _=>(di (aG (cn hr.units) cq (ax G_e hr T.F_e (aa (dv 1) (aa ag ah))) ag (az _)))) (λ_ _ _ _=>(dv 0))))
    case' L=>refine' au ?M
    case' M=>refine' aJ ?N
    case' N=>refine' bE ?O
    case' O=>refine' aa (dv 1) ?P
    case' P=>refine' aa (dv 5) ?Q
    case' Q=>refine' aa (dv 6) ?R
    case' R=>refine' aa ?S ?T
    case S=>
     refine' eU bQ bZ (df (dv 3)) ?U
     case U=>exact(df (ax G_e hr T.F_e (aa (dv 0) (aa (PE.imp (bP fj rfl T.n_len O6 (bt (dv 3) br)) (bJ fE)) ah))))
    case' T=>refine' aa ?V ah
    case V=>exact(PE.imp (eR iz rfl T.n_tuple gA (bt (fe (Jh rfl T.n_sorted Pw (bt (fe (nv (df (dv 7)) ji (fy ag))) br))) br)) (bJ iG))
   case' H=>refine' aq ?W ?X
   case W=>
    refine' bC ?Y ?Z bB
    case Y=>exact(aG (cF hr) cG (dv 1) aQ (az _))
    case' Z=>refine' au ?a
    case' a=>refine' aJ ?b
    case' b=>refine' bE ?c
    case' c=>refine' aa (dv 1) ?d
    case' d=>refine' aa (dv 5) ?e
    case' e=>refine' aa (dv 6) ?f
    case' f=>refine' aa ?g ah
    case' g=>refine' eU bQ bZ (df (dv 2)) ?h
    case h=>exact(df (aM bF bL ag (ax G_e hr T.F_e (aa (dv 0) (aa ag ah)))))
   case' X=>refine' aq ?i ?j
   case i=>
    refine' bC ?k ?l bB
    case k=>exact(aG (vT hr) vU (dv 1) (bE (aa aQ (aa aQ ah))) rfl)
    case' l=>refine' au ?m
    case m=>exact(aJ (bE (aa (dv 1) (aa (dv 5) (aa (dv 6) ah)))))
   case' j=>refine' aq ?n ?o
   case n=>
    refine' bH (i:=8) lP.nd rfl U5 ?p (hs:=jT)
    case' p=>refine' eU bQ bZ (df (dv 3)) ?q
    case q=>exact(df (ax G_e hr T.F_e (aa (dv 0) (aa (PE.imp (bP fj rfl T.n_len O6 (bt (dv 3) br)) (bJ fE)) ah))))
   case' o=>refine' aq ?r ?s
   case r=>
    refine' bC ?t ?u bB
    case t=>exact(aG (cF hr) cG (dv 1) aQ (az _))
    case' u=>refine' aq ?v ?w
    case v=>
     refine' bH (i:=9) lP.nd rfl U5 ?x (hs:=jT)
     case' x=>refine' eU bQ bZ (df ?y) ?z
     case y=>
      refine' fe ?A0
      case' A0=>refine' cy ?A1
      case' A1=>refine' aa ?A2 ?A3
      case A2=>
       refine' bE ?A4
       case' A4=>refine' aa aQ ?A5
       case' A5=>refine' aa ?A6 ah
       case A6=>exact(av bQ bZ (dv 2) (ax G_e hr T.F_e (aa (dv 0) (aa ag ah))))
      case' A3=>refine' aa ?A7 ah
      case A7=>exact(bE (aa aQ (aa (dv 8) ah)))
     case z=>exact(df (ax G_e hr T.F_e (aa (dv 0) (aa ag ah))))
    case' w=>refine' au ?A8
    case' A8=>refine' aJ ?A9
    case' A9=>refine' bE ?AA
    case' AA=>refine' aa (dv 1) ?AB
    case' AB=>refine' aa (dv 5) ?AC
    case' AC=>refine' aa (dv 6) ?AD
    case' AD=>refine' aa (dv 9) ?AE
    case' AE=>refine' aa ?AF ah
    case AF=>exact(d5 (cn hr.units) cq (df (ax G_e hr T.F_e (aa (dv 0) (aa ag ah)))) (df ag) (az _))
   case' s=>refine' aq ?AG ?AH
   case AG=>
    refine' bC ?AI ?AJ bB
    case AI=>exact(aG (cF hr) cG (dv 1) aQ (az _))
    case' AJ=>refine' au ?AK
    case AK=>exact(aJ (bE (aa aQ (aa (dv 5) (aa (dv 6) (aa (dv 8) ah))))))
   case' AH=>refine' au ?AL
   case' AL=>refine' aJ ?AM
   case' AM=>refine' bE ?AN
   case' AN=>refine' aa aQ ?AO
   case' AO=>refine' aa (dv 5) ?AP
   case' AP=>refine' aa (dv 6) ?AQ
   case' AQ=>refine' aa ?AR ah
   case AR=>exact(ax G_l hr T.F_l (aa (dv 0) (aa (dv 1) (aa (dv 2) (aa (dv 3) (aa (dv 4) ah))))))
  case B=>
  clear hr T G_e G_k G_l;walk_at "d";refine⟨far,rfl,λd d0 d1=>⟨6,rfl,U1,U1,λi i0 i1=>⟨_,rfl,?_⟩⟩⟩;have nl:=dr.nl;have k0:=dr.k0;have k1:=dr.k1;obtain⟨nm,hn,en⟩:=iS (ss:=ns) i0 U2;have nok:=(dr.no nm hn).ok;refine⟨_,en,?_⟩;have kinds:∀R:U7->Prop,(∀kd∈ks,R (.str kd))->vH [fB,NQ ((Od NP ks).length:Int)] λy=>∃x,y=NQ x/\∃x_2,atI (Od NP ks) x=some x_2/\R x_2:=λR hR=>by
   refine⟨_,rfl,by rw [NO];omega,by rw [NO];omega,λi i0 i1=>⟨_,rfl,?_⟩⟩;rw [NO] at i1;obtain⟨kd,hk,ek⟩:=iS i0 i1;exact⟨_,ek,hR kd hk⟩
  by_cases hp:wo=NL "paper"
  ·rw [U4 (by rw [hp];exact beq_self_eq_true _)];have ec:cV (Od NP ns) none (some 6)=(ns.take 6).map NP:=by
    rw [vI U1 (by simp;omega),<-RC];rfl
   rw [ec];refine⟨by rw [NO,OQ];omega,λi acc=>∃ss:List Str,acc=ss.map .str/\ss.Sublist ((ns.take 6).take i),⟨[],rfl,List.nil_sublist _⟩,?_,?_⟩
   ·rintro i z acc hz ⟨ss,rfl,hs⟩;rw [Ob] at hz;cases hz':(ns.take 6)[i]? with
    | none=>rw [hz'] at hz;cases hz
    | some x=>
     rw [hz'] at hz;cases hz;walk_at "d";refine⟨3,rfl,U1,U1,λv v0 v1=>⟨fF,?_⟩⟩;rw [hG];split
     ·refine⟨ss++[x],by rw [OJ];rfl,?_⟩;rw [Pb,hz'];exact hs.append (.refl _)
     ·refine⟨ss,rfl,?_⟩;rw [Pb];exact hs.trans (List.sublist_append_left _ _)
   ·rintro acc ⟨ss,rfl,hs⟩;have hs:ss.Sublist (ns.take 6):=hs.trans (QN _ _);have hl:=hs.length_le;rw [OQ] at hl;have hm:∀z∈ss,z∈ns:=λz hz=>QA (hs.subset hz);have snd:ss.Nodup:=(dr.nn.sublist (QN _ _)).sublist hs;refine kinds (λx_2=>∃ss_1,cV (Od NP ss) none (some 4)=Od NP ss_1/\ss_1.length < 64/\Q (N3 [NP wo,.int d,.str nm,x_2,N3 (Od NP (dJ ss_1))])) λkd hk=>?_;have cc:∃ss':List Str,cV (Od NP ss) none (some 4)=ss'.map NP/\ss'.length<=6/\(∀z∈ss',z∈ss)/\ss'.Nodup:=by
     by_cases h4:4<=ss.length
     ·refine⟨ss.take 4,by rw [vI U1 (by simp;omega),<-RC];rfl,by rw [OQ];omega,λz hz=>QA hz,snd.sublist (QN _ _)⟩
     ·refine⟨ss,?_,U2,λz hz=>hz,snd⟩;have:ss.length=0\/ss.length=1\/ss.length=2\/ss.length=3:=U2
      match ss,h4 with
      | [],_=>rfl
      | [a],_=>rfl
      | [a,b],_=>rfl
      | [a,b,c],_=>rfl
      | a::b::c::e::l,h4=>exact absurd h4 U6
    obtain⟨ss',e1,e2,e3,e4⟩:=cc;refine⟨ss',e1,U2,?_⟩;rw [hp];have msok:∀m∈dJ ss',N0 m=true:=λm hm'=>(dr.no m (hm m (e3 m ((fG ss').mem_iff.mp hm')))).ok;have msl:(dJ ss').length<=50:=by rw [(fG ss').length_eq];omega
    refine q (.pap ⟨d,nm,kd,dJ ss'⟩) ⟨by show N0 (NL "paper")=true;decide+kernel,nok,⟨d0,d1⟩,?_,?_,(λ_ _ _ _ e=>by cases e),(λ_ _ _ e=>by cases e),(λ_ _ _ e=>by cases e)⟩ (λ_=>⟨_,rfl⟩) (λ_ _ _ e=>by cases e) hn
    ·exact cX (aZ (bO U0) (aZ hJ (aZ (bO nok) (aZ (bO (dr.ko kd hk).ok) (aZ ((cX (n:=1) (vW msok)).mono U1) dS)))))
    ·intro p e;cases e;exact⟨(dr.ko kd hk).ok,msok,msl,(fG ss').nodup_iff.mpr e4⟩
  ·rw [cg hp,U3 NW];have q:∀(w:Str)(r:List U7),N0 w=true->w≠NL "paper"->cA 4 (.tuple (.str w:: .int d:: .str nm::r))->(w=NL "happens"->∃wd,r=[.str wd]/\N0 wd=true)->(w=NL "rule"->∃pt:Pt,r=[pt.enc]/\pt.Ok/\pt.wd=wo/\wo ∉ l3)->Q (.tuple (.str w:: .int d:: .str nm::r)):=λw r wok wp wl wh wr=>
    q (.oth w d nm r) ⟨wok,nok,⟨d0,d1⟩,wl,(λp e=>by cases e),(λw' d' nm' r' e=>by cases e;exact wp),(λd' nm' r' e=>by cases e;exact wh rfl),(λd' nm' r' e=>by cases e;obtain⟨pt,a,b,_⟩:=wr rfl;exact⟨pt,a,b⟩)⟩ (λe=>absurd e hp) (λd' nm' pt' e=>by
     simp only [De.oth.injEq] at e;obtain⟨e1,_,_,e4⟩:=e;obtain⟨pt,a,_,c1,c2⟩:=wr e1;rw [a] at e4;rw [<-xF (RE e4).1];exact⟨c1,c2⟩) hn
   by_cases hh:wo=NL "happens"
   ·rw [U4 (by rw [hh];exact beq_self_eq_true _)];refine⟨2,rfl,U1,U1,λj j0 j1=>⟨_,rfl,?_⟩⟩;obtain⟨n7,h7,e7⟩:=iS (ss:=ns) (i:=6+j) U2 U2;have o7:=(dr.no n7 h7).ok;exact⟨_,e7,q wo [.str n7] hw hp (cX (aZ (bO hw) (aZ hJ (aZ (bO nok) (aZ (bO o7) dS))))) (λ_=>⟨n7,rfl,o7⟩) (λe=>by rw [hh] at e;exact absurd e U0)⟩
   ·rw [cg hh,U3 NW];by_cases he:(NL "end"==wo || NL "lift"==wo)=true
    ·rw [U4 he];refine q wo [] hw hp (cX (aZ (bO hw) (aZ hJ (aZ (bO nok) dS)))) (λe=>absurd e hh) (λe=>?_);rw [e] at he;exact absurd he U0
    ·rw [U3 he];refine kinds _ λkd hk=>?_;have kok:=(dr.ko kd hk).ok;by_cases hb:wo=NL "hold"
     ·rw [U4 (by rw [hb];exact beq_self_eq_true _)];refine⟨6,rfl,U1,U1,λj j0 j1=>⟨_,rfl,?_⟩⟩;obtain⟨n3,h3,e3⟩:=iS (ss:=ns) j0 U2;refine⟨_,e3,2,rfl,U1,U1,λv v0 v1=>⟨_,rfl,?_⟩⟩;have o3:=(dr.no n3 h3).ok;obtain⟨tg,et,ht⟩:=t8 (a:=N3 [NP (NL "paper"),.str n3]) (b:=N3 [NP (NL "kind"),.str kd]) v0 v1;have lt:cA 2 tg:=by
       rcases ht with e | e <;> rw [e]
       ·exact cX (aZ (bO U0) (aZ (bO o3) dS))
       ·exact cX (aZ (bO U0) (aZ (bO kok) dS))
      refine⟨_,et,2,rfl,U1,U1,λb b0 b1=>⟨fF,?_⟩⟩;exact q wo [tg,.bool _] hw hp (cX (aZ (bO hw) (aZ hJ (aZ (bO nok) (aZ (lt.mono U1) (aZ Jr dS)))))) (λe=>absurd e hh) (λe=>by rw [hb] at e;exact absurd e U0)
     ·rw [cg hb,U3 NW];by_cases hm:wo=NL "permit"
      ·rw [U4 (by rw [hm];exact beq_self_eq_true _)];exact q (NL "leave") [.str kd] U0 U0 (cX (aZ (bO U0) (aZ hJ (aZ (bO nok) (aZ (bO kok) dS))))) (λe=>absurd e U0) (λe=>absurd e U0)
      ·rw [cg hm,U3 NW];refine⟨wo,ns,ks,far,rfl,hw,dr,λpt po pw=>?_⟩;exact q (NL "rule") [pt.enc] U0 U0 (cX (aZ (bO U0) (aZ hJ (aZ (bO nok) (aZ (Pt.lay po) dS))))) (λe=>absurd e U0) (λ_=>⟨pt,rfl,po,pw,λhin=>by
        simp only [l3,N9,Pc,or_false] at hin;rcases hin with h | h | h | h | h | h
        ·exact hp h
        ·exact hh h
        ·rw [h] at he;exact he U0
        ·rw [h] at he;exact he U0
        ·exact hb h
        ·exact hm h⟩)
mutual
theorem xO:∀d:U7,d.canLay0=true->N4 d d=true
 | .none,_=>by simp [N4]
 | .bool _,_ | .int _,_ | .str _,_=>by simp [N4]
 | .list xs,h=>by rw [N4];exact xP xs (by simpa [Ox] using h)
 | .tuple xs,h=>by rw [N4];exact xP xs (by simpa [Ox] using h)
 | .dict _,h=>by simp [Ox] at h
theorem xP:∀ds:List U7,Pk ds=true->PD ds ds=true
 | [],_=>by simp [PD]
 | d::ds,h=>by
  rw [Pk,OV] at h;rw [PD,xO d h.1,xP ds h.2];rfl
end
def fY(x y:De):Prop:=x≠y/\(∀p r,x= .pap p->y= .pap r->p.nm≠r.nm)/\(x.isE=true->y.isE=true->¬(x.d=y.d/\x.nm=y.nm))
theorem fY.symm{x y:De}(h:fY x y):fY y x:=⟨h.1.symm,λp r e1 e2 e=>h.2.1 r p e2 e1 e.symm,λe1 e2 e=>h.2.2 e2 e1 ⟨e.1.symm,e.2.symm⟩⟩
def ie:List (ai×U7):=[(.inr (NL "rule"),.int 1),(.inr (NL "end"),.int 1),(.inr (NL "hold"),.int 2),(.inr (NL "lift"),.int 2)]
theorem MI:QT (λa p=>d8 a p.fst p.snd) [] ie=ie:=by
 rfl
theorem xQ{x:De}(h:x.isE=true):cR ie (.inr x.w)=some (.int 1):=by
 cases x with
 | pap p=>cases h
 | oth w d nm r=>
  simp only [De.isE,QL,beq_iff_eq] at h;rcases h with e | e <;> subst e <;> rfl
theorem EK(w:Str):cR ie (.inr w)=none\/∃i:Int,cR ie (.inr w)=some (.int i):=by
 unfold cR;cases h:ie.find? λp=>decide (p.fst=OW w) with
 | none=>exact .inl rfl
 | some p=>
  have hp:=Q7 h;simp only [ie,N9,Pc,or_false] at hp;rcases hp with e | e | e | e <;> rw [e] <;> exact .inr ⟨_,rfl⟩
theorem xR{x y:De}{Q:U7->Prop}(gx:j4 x)(gy:j4 y)(nq:x≠y)(pc:∀p r,x= .pap p->y= .pap r->p.nm≠r.nm)(q:∀b:Bool,(b=false->fY x y)->Q (.bool b)):
 ∃kd:List (ai×U7),[(NP (NL "rule"),NQ 1),(NP (NL "end"),NQ 1),(NP (NL "hold"),NQ 2),(NP (NL "lift"),NQ 2)]=Od (λp=>(gJ p.fst,p.snd)) kd/\
  kd.length<=15/\(∀(p:ai×U7),p∈kd->(match p.snd with | P2=>true | PF b=>true | NQ i=>true | NP s=>true | x=>false)=true)/\
  if (cR (QT (λa p=>d8 a p.fst p.snd) [] kd) (OW x.w)).isSome=false then Q (PF false)
  else ∃x_1,cR (QT (λa p=>d8 a p.fst p.snd) [] kd) (OW x.w)=some x_1/\OP x_1=true/\OP ((cR (QT (λa p=>d8 a p.fst p.snd) [] kd) (OW y.w)).getD P2)=true/\
   if x_1.eqv ((cR (QT (λa p=>d8 a p.fst p.snd) [] kd) (OW y.w)).getD P2)=false then Q (PF false)
   else OP (N3 [NQ x.d,NP x.nm])=true/\OP (N3 [NQ y.d,NP y.nm])=true/\Q (PF ((N3 [NQ x.d,NP x.nm]).eqv (N3 [NQ y.d,NP y.nm]))):=by
 refine⟨ie,rfl,U1,?_,?_⟩
 ·intro p hp;simp only [ie,N9,Pc,or_false] at hp;rcases hp with e | e | e | e <;> rw [e]
 ·rw [MI];have no:(x.isE=true->y.isE=true->False)->Q (.bool false):=λh=>q false λ_=>⟨nq,pc,λa b=>(h a b).elim⟩;rcases EK x.w with hx | ⟨i,hx⟩
  ·rw [hx,U4 (by rfl)];exact no λa _=>by rw [xQ a] at hx;cases hx
  ·rw [hx,U3 U6];have sh:OP ((cR ie (OW y.w)).getD P2)=true:=by
    rcases EK y.w with hy | ⟨j,hy⟩ <;> rw [hy]
    ·exact nN
    ·exact fF
   have two:∀z:De,N0 z.nm=true->OP (N3 [NQ z.d,NP z.nm])=true:=λz hz=>(cX (n:=1) (aZ hJ (aZ (bO hz) dS))).shp U1;refine⟨_,rfl,fF,sh,?_⟩;split
   ·rename_i hne;exact no λa b=>by
     rw [xQ a] at hx;cases hx;rw [xQ b] at hne;exact absurd hne (by simp [hG])
   ·refine⟨two x gx.nm,two y gy.nm,q _ λe=>⟨nq,pc,λ_ _ h=>?_⟩⟩;rw [h.1,h.2] at e;rw [xO _ (cX (n:=1) (aZ hJ (aZ (bO gy.nm) dS))).can] at e;cases e
def EL:List U7->(U7->Prop)->Prop:=λds Q=>∃x y:De,ds=[x.enc,y.enc]/\j4 x/\j4 y/\∀b:Bool,(b=false->fY x y)->Q (.bool b)
theorem MJ(T:Txt K mg t):ay P w K mg base aH 1 t.a_n t.d_n ["_law_one","_law_other"] (bo K EL):=by
 refine T.F_n.F.okD Dk (λds Q h=>?_) (λ_ _ _ _ H O ds Q E hr h=>?_)
 ·obtain⟨x,y,rfl,_⟩:=h;rfl
 ·obtain⟨x,y,rfl,gx,gy,q⟩:=h;refine'⟨_,?A,?B⟩
  case A=>
   refine' aq ?C ?D
   case C=>
    refine' bC ?E ?F bB
    case E=>exact(PW.pt (jc (aG (cn hr.units) cq (dv 0) (dv 1) (az _)) (jb (PW.pt (dE (aG (cn hr.units) cq (av aC aD (dv 0) ag) (av aC aD (dv 1) ag) (az _)) (dE (aG (vT hr) vU (av aC aD (dv 0) ag) (bE (aa aQ (aa aQ ah))) rfl) (d6 (aG (cn hr.units) cq (av aC aD (dv 0) ag) (av aC aD (dv 1) ag) (az _)))))))))
    case F=>refine' au (aJ i9)
   case' D=>refine' aq ?G ?H
   case G=>
    generalize hD6:Expr.Dict _ _ _=ed6;refine' lA (i:=2) Dk.nd rfl U5 ?I (hs:=by subst hD6;first | rfl | exact Jz)
    case' I=>subst hD6
    refine' JK ?p6_0
    case p6_0=>
     refine' sv aQ ag ?p6_1
     case p6_1=>
      refine' sv aQ ag ?p6_2
      case p6_2=>
       refine' sv aQ ag ?p6_3
       case p6_3=>
        refine' sv aQ ag ?p6_4
        case p6_4=>exact JJ
   case' H=>refine' aq ?J ?K
   case J=>
    refine' bC ?L ?M bB
    case L=>exact(PW.pt (jc (B7 (i:=2) hr.units (pv 2) (av aC aD (dv 0) ag)) (jb (aG (kQ hr.units) kU (ow (i:=2) hr.units (pv 2) (av aC aD (dv 0) ag) (λ_ _=>rfl)) (B3 (i:=2) hr.units (pv 2) (av aC aD (dv 1) ag) ⟨rfl,rfl,rfl,rfl⟩) (az _)))))
    case M=>refine' au (aJ i9)
   case' K=>refine' au ?N
   case' N=>refine' aJ ?O
   case O=>exact(d5 (cn hr.units) cq (df (vR (df (dv 0)) (fy ag) (fy ag))) (df (vR (df (dv 1)) (fy ag) (fy ag))) (az _))
  case B=>
  clear hr T;have sx:=gx.ly.shp U1;have sy:=gy.ly.shp U1;have ne:(x.enc).eqv y.enc=false->x≠y:=λh e=>by rw [e,xO _ gy.ly.can] at h;cases h
  have ex:∃rx,x.enc= .tuple (.str x.w:: .int x.d:: .str x.nm::rx):=by cases x <;> exact⟨_,rfl⟩
  have ey:∃ry,y.enc= .tuple (.str y.w:: .int y.d:: .str y.nm::ry):=by cases y <;> exact⟨_,rfl⟩
  obtain⟨rx,ex⟩:=ex;obtain⟨ry,ey⟩:=ey;rw [ex] at sx ne⊢;rw [ey] at sy ne⊢;walk_at "d";refine⟨sx,sy,?_⟩;split
  ·exact q true λe=>by cases e
  ·rename_i h0;have nq:=ne (by simpa using h0);refine⟨cW.mpr gx.w,cW.mpr gy.w,?_⟩;split
   ·split
    ·refine⟨cW.mpr gx.nm,cW.mpr gy.nm,?_⟩;split
     ·exact q true λe=>by cases e
     ·rename_i hn;exact xR gx gy nq (λp r e1 e2 e=>hn (by rw [e1,e2];exact beq_iff_eq.mpr e)) q
    ·rename_i hn;exact xR gx gy nq (λp r e1 e2 e=>hn (by rw [e1];show(NL "paper"==NL "paper" || _)=true;simp)) q
   ·rename_i hn;exact xR gx gy nq (λp r e1 e2 e=>hn (by rw [e1,e2];exact beq_self_eq_true _)) q
def iT(xs:List De):Prop:=(∀x∈xs,j4 x)/\xs.Pairwise fY/\xs.length<=41
theorem iT.good{xs:List De}(h:iT xs):cJ xs:=by
 obtain⟨h1,h2,h3⟩:=h;have un:∀x∈xs,∀y∈xs,x≠y->fY x y:=λx hx y hy ne=>by
  obtain⟨i,hi⟩:=QW hx;obtain⟨j,hj⟩:=QW hy;obtain⟨li,ei⟩:=N7.mp hi;obtain⟨lj,ej⟩:=N7.mp hj;have pw:=Qa.mp h2;rcases Nat.lt_trichotomy i j with h | h | h
  ·rw [<-ei,<-ej];exact pw i j li lj h
  ·subst h;exact absurd (by rw [<-ei,<-ej]) ne
  ·rw [<-ei,<-ej];exact(pw j i lj li h).symm
 have pm:∀p∈aN xs,De.pap p∈xs:=λp hp=>lU.mp hp;refine⟨⟨⟨?_,?_,λp hp=>(h1 _ (pm p hp)).nm,λp hp=>((h1 _ (pm p hp)).pp p rfl).1,λp hp=>⟨((h1 _ (pm p hp)).pp p rfl).2.1,((h1 _ (pm p hp)).pp p rfl).2.2.1⟩⟩,λw d nm r h=>(h1 _ h).np _ _ _ _ rfl,h3,λx hx=>(h1 x hx).w,λx hx=>(h1 x hx).nm⟩,λd nm r h=>(h1 _ h).hp _ _ _ rfl,λd nm r h=>(h1 _ h).ru _ _ _ rfl,h2.imp λh=>h.1,λx hx=>(h1 x hx).d0,λx hx y hy e1 e2 ed en=>?_⟩
 ·exact Ot (List.length_filterMap_le _ _) h3
 ·unfold aN;rw [QV,OX,List.pairwise_filterMap];refine h2.imp λ{a b} h p hp r hr=>?_;cases a with
  | oth w d nm r=>simp [De.pp] at hp
  | pap a=>
   cases b with
   | oth w d nm r=>simp [De.pp] at hr
   | pap b=>
    simp only [De.pp,P0] at hp hr;subst hp hr;exact h.2.1 a b rfl rfl
 ·by_cases e:x=y
  ·exact e
  ·exact absurd ⟨ed,en⟩ ((un x hx y hy e).2.2 e1 e2)
end
theorem EM:bj (ar tG) ["_law_script","_law_menu","_law_most","_law_head","_law_far","_law_chain","_law_names_here","_law_kinds","_law_words","_law_turn","_law_deeds_here","_law_k","_law_deed_here","_law_day_here"] ["_law_one","_law_deed_here"] 1 [12] ⟨NZ,[ (NN ".0",Wx),(NN "_law_one",Wx),(NN "_law_quarrels",OI),(NN "_law_deed_here",NY)],false,false,[]⟩:= .of
section
variable {P:Vj} {w:Vm} {K:NM} {mg:Str->Option U8} {base:Vl} {t:cM}
theorem MK{ns:List Str}(l u:Option Int):∃ms:List Str,cV (Od NP ns) l u=ms.map NP/\(∀m∈ms,m∈ns)/\ms.length<=ns.length/\ms.Sublist ns:=by
 unfold cV;rw [<-UC,<-RC];exact⟨_,rfl,λm hm=>Tn (QA hm),by rw [OQ,RG];omega,(QN _ _).trans (List.drop_sublist _ _)⟩
def EN(me:List Str)(x:De):Prop:=∀d nm(pt:Pt),x= .oth (NL "rule") d nm [pt.enc]->pt.wd∈me/\pt.wd ∉ l3
def p9(me ns:List Str)(x:De):Prop:=j4 x/\EN me x/\x.nm∈ns
def ML:List U7->(U7->Prop)->Prop:=λds Q=>∃(cs:List Int)(me:List Str)(mo:Int),ds=[eS (cs.map .int),.list (me.map .str),.int mo]/\me≠[]/\me.length<=1000/\(∀m∈me,N0 m=true/\m≠NL "paper")/\0 < mo/\mo<=18/\∀(xs:List De)(ns:List Str)(far:Int),iT xs->(xs.length:Int)<=4+2*mo->(∀x∈xs,EN me x)->(∀x∈xs,x.nm∈ns)->xs≠[]->ns.length=8->t7 ns->Q (.tuple [.tuple (xs.map De.enc),.list (ns.map .str),.int far])
theorem MM(T:Txt K mg t):ay P w K mg base aH 5 t.a_o t.d_o ["_law_script","_law_menu","_law_most"] (bo K ML):=by
 have G_e:=@lZ P w _ _ base _ T;have G_d:=@Ez P w _ _ base _ T;have G_c:=@ED P w _ _ base _ T;have G_f:=@Mz P w _ _ base _ T;have G_m:=@MH P w _ _ base _ T;have G_n:=@MJ P w _ _ base _ T;refine T.F_o.F.okD fV (λds Q h=>?_) (λ_ _ _ _ H O ds Q E hr h=>?_)
 ·obtain⟨cs,me,mo,rfl,_⟩:=h;rfl
 ·obtain⟨cs,me,mo,rfl,me0,mel,meo,mo0,mo1,q⟩:=h;refine'⟨_,?A,?B⟩
  case A=>
   refine' aq ?C ?D
   case C=>exact(bH (i:=3) fV.nd rfl U5 (ax G_d hr T.F_d (aa (ax G_c hr T.F_c (aa (dv 0) (aa ag ah))) ah)))
   case' D=>refine' aq ?E ?F
   case E=>exact(kK (i:=4) (j:=5) rfl fV.nd rfl rfl U1 rfl rfl (aa (ax G_e hr T.F_e (aa (dv 3) (aa ag ah))) (aa (d5 (cn hr.units) cq (df (ax G_e hr T.F_e (aa (dv 3) (aa ag ah)))) (df ag) (az _)) ah)) (by rfl))
   case' F=>refine' aq ?G ?H
   case G=>exact(bH (i:=6) fV.nd rfl U5 (ax G_f hr T.F_f (aa (dv 3) (aa ag ah))))
   case' H=>refine' aq ?I ?J
   case I=>
    refine' bH (i:=7) fV.nd rfl U5 ?K (hs:=jT)
    case' K=>refine' fe ?L
    case L=>exact(nv (df (dv 6)) ji (fy (aM bF bL ag (ax G_e hr T.F_e (aa (dv 3) (aa ag ah))))))
   case' J=>refine' aq ?M ?N
   case M=>
    refine' qL (i:=8) fV.nd rfl U5 ?O (hs:=jS)
    case O=>exact(Kb (cy (aa aQ ah)) (aM bF bL ag (ax G_e hr T.F_e (aa (dv 3) (aa ag ah)))))
   case' N=>refine' aq ?P ?Q
   case P=>
    refine' Bo OO rfl rfl T.n_range (aa (ax G_e hr T.F_e (aa (dv 3) (aa (av bQ bZ (fe (cy (aa (dv 2) (aa (aM fi cQ ag (dv 2)) ah)))) (PE.imp (eR qy rfl T.n_int mC (bt (d5 (cn hr.units) cq (df (ax G_e hr T.F_e (aa (dv 3) (aa ag ah)))) (df ag) (az _)) br)) (bJ qP))) ah))) ah) ?R aW ?S
    case R=>exact(aS (i:=9) fV.nd rfl U5)
    case' S=>refine' au ?T
    case' T=>refine' iB (i:=8) (pv 8) ?U
    case' U=>refine' eU bQ bZ (df (dv 1)) ?V
    case V=>exact(df (ax G_e hr T.F_e (aa (dv 3) (aa (PE.imp (bP fj rfl T.n_len O6 (bt (dv 1) br)) (bJ fE)) ah))))
   case' Q=>refine' aq ?W ?X
   case W=>exact(qL (i:=10) fV.nd rfl U5 (cy ah))
   case' X=>refine' aq ?Y ?Z
   case Y=>
    refine' Bo OO rfl rfl T.n_range (aa (PE.imp (bP fj rfl T.n_len O6 (jd (dw 8) br)) (bJ fE)) ah) ?a aW ?b
    case a=>exact(aS (i:=11) fV.nd rfl U5)
    case' b=>refine' aq ?c ?d
    case c=>
     refine' bH (i:=12) fV.nd rfl U5 ?e (hs:=iK)
     case e=>exact(ax G_m hr T.F_m (aa (ax G_d hr T.F_d (aa (ax G_c hr T.F_c (aa (dv 0) (aa (aM bF bL ag (dv 11)) ah))) ah)) (aa (eU bQ bZ (dw 8) (df (dv 11))) (aa (dv 6) (aa (dv 7) (aa (dv 4) ah))))))
    case' d=>refine' aq ?f ?g
    case f=>
     refine' bC ?h ?i bB
     case h=>exact(PW.pt (dE (gG (dv 5)) (d6 (aG (cF hr) cG (eU bQ bZ (dw 8) (df (dv 11))) aQ (az _)))))
     case' i=>refine' aq ?j ?k
     case j=>
      refine' bH (i:=13) fV.nd rfl U5 ?l (hs:=jS)
      case l=>exact(aM bF bL (aM fi cQ (av bQ bZ (fe (cy (aa ag (aa ag ah)))) (dv 4)) (dv 11)) (aM eQ cQ (av aC aD (dv 12) ag) ag))
     case' k=>refine' au ?m
     case' m=>refine' bH (i:=12) fV.nd rfl U5 ?n (hs:=B1)
     case' n=>refine' bE ?o
     case' o=>refine' aa aQ ?p
     case' p=>refine' aa (dv 13) ?q
     case' q=>refine' aa ?r ?s
     case r=>exact(av bQ bZ (dv 6) (dv 11))
     case' s=>refine' aa ?t ?u
     case t=>exact(av aC aD (dv 12) ag)
     case' u=>refine' aa ?v ah
     case v=>exact(PE.imp (eR iz rfl T.n_tuple gA (bt (fe (nv (df (dv 6)) (fy (PE.imp (bP (qx rfl) rfl T.n_max Qt (bt ag (bt (aM cU bL (dv 11) ag) br))) (bJ kY))) (fy (dv 11)))) br)) (bJ iG))
    case' g=>refine' au ?w
    case' w=>refine' bC ?x ?y bB
    case x=>exact(jK (gG (PE.imp (bP (Bh rfl) rfl T.n_any Bj (bt (fe (fP rfl EM (dw 10) aW cz U1 (λ_ _ _ _=>(aS (i:=0) EM.nd rfl U5)) (λ_ _ _ _=>iH) (λ_ _ _ _=>(ax G_n hr T.F_n (aa (dv 0) (aa (dv 1) ah)))))) br)) (bJ vG))))
    case' y=>refine' au ?z
    case z=>exact(Kg (i:=10) (pv 10) (ax G_e hr T.F_e (aa (dv 3) (aa (aM bF bL (PE.imp (bP fj rfl T.n_len O6 (jd (dw 10) br)) (bJ fE)) ag) ah))) (dv 12))
   case' Z=>refine' au ?A0
   case A0=>exact(aJ (bE (aa (PE.imp (eR iz rfl T.n_tuple gA (jd (dw 10) br)) (bJ iG)) (aa (dv 6) (aa (dv 4) ah)))))
  case B=>
  clear hr T G_e G_d G_c G_f G_m G_n;walk_at "d";refine⟨cs,0,rfl,U1,U1,λc=>⟨c,rfl,2,rfl,U1,U1,λfar f0 f1=>⟨8,rfl,U1,U1,λch c0 c1=>⟨fF,rfl,λns nl nok nnd=>⟨2,rfl,U1,U1,λkk kk0 kk1=>⟨_,rfl,_,rfl,5,rfl,U1,U1,λpc p0 p1=>⟨_,rfl,U2,U2,8,rfl,U1,U1,λe e0 e1=>⟨fF,?_⟩⟩⟩⟩⟩⟩⟩⟩;have hz:∃z:Int,atI [NQ mo,NQ (2*mo)] (if (NQ e).eqv (NQ 3)=true then 1 else 0)=some (.int z)/\0 < z/\z<=2*mo:=by
   split
   ·exact⟨_,dG,U2,U2⟩
   ·exact⟨_,eX,U2,U2⟩
  obtain⟨z,ez,z0,z1⟩:=hz;refine⟨_,ez,z,rfl,z0,U2,λj j0 j1=>⟨j,rfl,U2,U2,?_⟩⟩;obtain⟨ks,ek,dr⟩:∃ks:List Str,cV (Od NP ns) none (some (2+kk))=ks.map NP/\xN ns ks far:=by
   refine⟨ns.take (2+kk).toNat,by rw [vI U2 (by simp;omega),<-RC],nl,nok,nnd,by rw [OQ];omega,by rw [OQ];omega,λz hz=>nok z (QA hz),f0,U2⟩
  rw [ek];have er:(Oa (1+pc).toNat [NP (NL "paper")]).flatten=(Oa (1+pc).toNat (NL "paper")).map NP:=by
   rw [List.flatten_replicate_singleton,List.map_replicate]
  rw [er];generalize (NQ ch).eqv (NQ 5)=cb;have n0:1<=(1+pc).toNat:=U2
  have n1:(1+pc).toNat<=5:=U2
  generalize (1+pc).toNat=n at n0 n1⊢;refine⟨λi δ=>∃(ms:List Str)(o9:Option Sl),ms.length=i/\(∀m∈ms,m∈me)/\δ=[some (Sl.v (eS (Od NQ cs))),some (Sl.v (Ow (Od NP me))),some (Sl.v (NQ mo)),some (Sl.v fB),some (Sl.v (.int far)),some (Sl.v (.bool cb)),some (Sl.v (.list (ns.map .str))),some (Sl.v (.list (ks.map .str))),some (Sl.o ((Oa n (NL "paper")++ms).map NP)),o9,none,none,none,none],⟨[],_,rfl,U6,by rw [Oi]⟩,?_,?_⟩
  ·rintro i x δ hx ⟨ms,o9,hl,hm,rfl⟩;obtain⟨hi,rfl⟩:=jP hx;walk_at "d";have ml:0 < me.length:=Tr.mpr me0;refine⟨_,rfl,by rw [NO];omega,by rw [NO];omega,λv v0 v1=>⟨_,rfl,?_⟩⟩;rw [NO] at v1;obtain⟨m,hm1,em⟩:=iS v0 v1;refine⟨_,em,by rw [NO,OR,P8];omega,ms++[m],by simp [hl],λz hz=>?_,?_⟩
   ·rcases Oo.mp hz with h | h
    ·exact hm z h
    ·rw [OA] at h;rw [h];exact hm1
   ·refine⟨?_,_,rfl⟩;rw [<-Se,OJ (l₂:=[m])];rfl
  ·rintro δ ⟨ms,o9,hl,hm,rfl⟩;rw [qS] at hl;have wl:((Oa n (NL "paper")++ms).length:Int)<=4+2*mo:=by rw [OR,P8];omega
   have w0:1<=(Oa n (NL "paper")++ms).length:=by rw [OR,P8];omega
   have wok:∀w∈Oa n (NL "paper")++ms,N0 w=true:=λw hw=>by
    rcases Oo.mp hw with h | h
    ·rw [(TZ.mp h).2];decide+kernel
    ·exact(meo w (hm w h)).1
   have wm:∀w∈Oa n (NL "paper")++ms,w=NL "paper"\/w∈me:=λw hw=>by
    rcases Oo.mp hw with h | h
    ·exact .inl (TZ.mp h).2
    ·exact .inr (hm w h)
   have wp:∀k:Nat,(Oa n (NL "paper")++ms)[k]?=some (NL "paper")->k < 5:=λk hk=>by
    by_cases h:k < n
    ·omega
    ·rw [P4 (by rw [P8];omega)] at hk;exact absurd rfl (meo _ (hm _ (Oq hk))).2
   generalize Oa n (NL "paper")++ms=ws at wl w0 wok wp wm⊢;walk_at "d";rw [NO];refine⟨U2,U2,?_⟩;refine⟨λi δ=>∃(xs:List De)(o11 o12 o13:Option Sl),(∀x∈xs,p9 me ns x)/\xs.Pairwise fY/\xs.length<=i/\(0 < i->xs≠[])/\δ=[some (Sl.v (eS (Od NQ cs))),some (Sl.v (Ow (Od NP me))),some (Sl.v (NQ mo)),some (Sl.v fB),some (Sl.v (.int far)),some (Sl.v (.bool cb)),some (Sl.v (.list (ns.map .str))),some (Sl.v (.list (ks.map .str))),some (Sl.o (ws.map NP)),o9,some (Sl.o (xs.map De.enc)),o11,o12,o13],⟨[],_,_,_,U6,.nil,U6,U6,rfl⟩,?_,?_⟩
   ·rintro i x δ hx ⟨xs,o11,o12,o13,xg,xq,xl,x0,rfl⟩;obtain⟨hi,rfl⟩:=jP hx;walk_at "d";have hi:i < ws.length:=U2
    have hw:ws[i]?=some ws[i]:=N7.mpr ⟨hi,rfl⟩;have aw:atI (Od NP ws) (0+(i:Int))=some (.str ws[i]):=by rw [UN];exact fN (by simp [hi])
    have wo:=wok _ (Py hi);generalize ws[i]=wi at hw aw wo;have tail:∀(y:De)(o:Option Sl),p9 me ns y->((Od De.enc xs).length<=16777216/\fD (jf 0) iD (gZ EL (gF (cw 0) (gF (cw 1) ja))) [none,some (Sl.v y.enc)] (Od De.enc xs) λds=>∃bs,ds=Od PF bs/\
     if bs.any id=false then vH [fB,NQ (((Od De.enc xs).length:Int)+1)] λa=>∃n:Nat,a=NQ (n:Int)/\n<=(Od De.enc xs).length/\(Od De.enc xs).length < 1000000/\∃xs_1:List De,(∀x∈xs_1,p9 me ns x)/\UE fY xs_1/\xs_1.length<=i+1/\(0 < i+1->¬xs_1=[])/\fA (Od De.enc xs) n y.enc=Od De.enc xs_1/\∃x,o=x
     else ∃xs_1:List De,(∀x∈xs_1,p9 me ns x)/\UE fY xs_1/\xs_1.length<=i+1/\(0 < i+1->¬xs_1=[])/\Od De.enc xs=Od De.enc xs_1/\∃x,o=x):=λy o gy=>by
     refine⟨by rw [NO];omega,λk acc=>∃bs:List Bool,acc=bs.map PF/\bs.length=k/\(bs.any id=false->∀x∈xs.take k,fY x y),⟨[],rfl,rfl,U6⟩,?_,?_⟩
     ·rintro k x acc hk ⟨bs,rfl,bl,bq⟩;rw [Ob] at hk;cases hk':xs[k]? with
      | none=>rw [hk'] at hk;cases hk
      | some x=>
       rw [hk'] at hk;cases hk;walk_at "d";refine⟨x,y,rfl,(xg x (Oq hk')).1,gy.1,λb hb=>⟨bs++[b],by rw [OJ];rfl,by simp [bl],λh x' hx'=>?_⟩⟩;rw [List.any_append,Bool.or_eq_false_iff] at h;rw [Pb,hk'] at hx';rcases Oo.mp hx' with z | z
       ·exact bq h.1 x' z
       ·have:x'=x:=by simpa using z
        rw [this];exact hb (by simpa using h.2)
     ·rintro acc ⟨bs,rfl,bl,bq⟩;rw [NO] at bl bq⊢;rw [OD (NV _)] at bq;refine⟨bs,rfl,?_⟩;split
      ·rename_i h;refine⟨_,rfl,U2,U2,λv v0 v1=>?_⟩;obtain⟨n,rfl⟩:=Pm v0;refine⟨n,rfl,U2,U2,fA xs n y,λx hx=>?_,?_,by rw [wt];omega,λ_ e=>?_,(Kc _ _ _ _).symm,_,rfl⟩
       ·rcases N9.mp ((wq xs n y).mem_iff.mp hx) with e | e
        ·rw [e];exact gy
        ·exact xg x e
       ·refine(List.Perm.pairwise_iff (λh=>fY.symm h) (wq xs n y)).mpr (OT.mpr ⟨λx hx=>(bq h x hx).symm,xq⟩)
       ·have:=congrArg T7 e;rw [wt] at this;simp at this
      ·rename_i h;refine⟨xs,xg,xq,U2,λ_ e=>?_,rfl,_,rfl⟩;rw [e] at bl;have:bs=[]:=List.length_eq_zero_iff.mp bl;rw [this] at h;exact h rfl
    refine⟨cs,_,rfl,U2,U2,λc=>⟨c,rfl,_,aw,wi,ns,ks,far,rfl,wo,dr,λy gy yp yr yn=>?_⟩⟩;have gm:p9 me ns y:=⟨gy,λd nm pt e=>by
     obtain⟨a,b⟩:=yr d nm pt e;rw [a];refine⟨?_,b⟩;rcases wm wi (Oq hw) with h | h
     ·rw [h] at b;exact absurd OY b
     ·exact h,yn⟩
    split
    ·refine⟨_,aw,rfl,?_⟩;rw [fQ];split
     ·rename_i hp;have hp:=eq_of_beq hp;obtain⟨p,rfl⟩:=yp hp;have i5:=wp i (by rw [hw,hp]);have hf:∃z:Int,atI [NQ 5,NQ 9000] far=some (.int z)/\0<=z/\z<=9000:=by
       have:far=0\/far=1:=U2
       rcases this with h | h <;> rw [h]
       ·exact⟨5,rfl,U1,U1⟩
       ·exact⟨9000,rfl,U1,U1⟩
      obtain⟨z,ez,z0,z1⟩:=hf;obtain⟨nm,hn,en⟩:=iS (ss:=ns) (i:=0+(i:Int)) U2 U2;have pk:=(gy.pp p rfl).1;refine⟨_,ez,_,rfl,.inr ⟨U2,U2⟩,_,rfl,_,dG,_,rfl,_,en,_,rfl,_,g9,?_⟩;obtain⟨ms,em,hm,ml,msub⟩:=MK (ns:=ns) (some (if 0+(i:Int) - 1 > 0 then 0+(i:Int) - 1 else 0)) (some (0+(i:Int)));rw [em];have nok':=(nok nm hn).ok;have msok:∀m∈ms,N0 m=true:=λm h=>(nok m (hm m h)).ok;have zi:0<=z*(0+(i:Int))/\z*(0+(i:Int))<=36000:=by
       have:i=0\/i=1\/i=2\/i=3\/i=4:=U2
       rcases this with h | h | h | h | h <;> subst h <;> simp <;> omega
      refine tail (.pap ⟨z*(0+(i:Int))+p.d % 5,nm,p.kd,ms⟩) _ ⟨⟨by show N0 (NL "paper")=true;decide+kernel,nok',⟨?_,?_⟩,?_,?_,(λ_ _ _ _ e=>by cases e),(λ_ _ _ e=>by cases e),(λ_ _ _ e=>by cases e)⟩,(λ_ _ _ e=>by cases e),hn⟩
      ·show 0<=z*(0+(i:Int))+p.d % 5;omega
      ·show z*(0+(i:Int))+p.d % 5 < 100000;omega
      ·exact cX (aZ (bO U0) (aZ hJ (aZ (bO nok') (aZ (bO pk) (aZ ((cX (n:=1) (vW msok)).mono U1) dS)))))
      ·intro p' e;cases e;exact⟨pk,msok,by show ms.length<=50;omega,nnd.sublist msub⟩
     ·exact tail y _ gm
    ·exact tail y _ gm
   ·rintro δ ⟨xs,o11,o12,o13,xg,xq,xl,x0,rfl⟩;rw [qS] at xl x0;walk_at "d";exact q xs ns far ⟨λx hx=>(xg x hx).1,xq,U2⟩ U2 (λx hx=>(xg x hx).2.1) (λx hx=>(xg x hx).2.2) (x0 U2) nl nok
def xS:List U7->(U7->Prop)->Prop:=λds Q=>∃(d k:Int)(u:Str),ds=[.int d,.int k,.str u]/\hZ u/\0<=d/\Q (.int (jw d k u))
theorem MN(k:Int)(h:0<=k):bK (2000+k)<=366*k:=by
 unfold bK lb;omega
theorem MO(T:Txt K mg t):ay P w K mg base aH 3 t.a_j t.d_j ["_law_day_here","_law_many","_law_unit"] (bo K xS):=by
 have G_h:=@EG P w _ _ base _ T;have G_g:=@xJ P w _ _ base _ T;have G_i:=@EH P w _ _ base _ T;refine T.F_j.F.okD jZ (λds Q h=>?_) (λ_ _ _ _ H O ds Q E hr h=>?_)
 ·obtain⟨d,k,u,rfl,_⟩:=h;rfl
 ·obtain⟨d,k,u,rfl,hu,d0,q⟩:=h;refine'⟨_,?A,?B⟩
  case A=>
   refine' aq ?C ?D
   case C=>
    refine' bC ?E ?F bB
    case E=>exact(aG (cF hr) cG (dv 2) aQ (az _))
    case' F=>refine' au ?G
    case G=>exact(aJ (aM bF bL (dv 0) (dv 1)))
   case' D=>refine' aq ?H ?I
   case H=>exact(bH (i:=3) jZ.nd rfl U5 (aM bF bL ag (aM gi cQ (dv 0) ag)))
   case' I=>refine' aq ?J ?K
   case J=>
    refine' Cs OO ?L ?M
    case L=>exact(aG gn dF (ax G_h hr T.F_h (aa (aM bF bL (dv 3) ag) ah)) (dv 0) (az _))
    case' M=>refine' au ?N
    case N=>exact(bH (i:=3) jZ.nd rfl U5 (aM bF bL (dv 3) ag))
   case' K=>refine' aq ?O ?P
   case O=>exact(kK (i:=4) (j:=5) rfl jZ.nd rfl rfl U1 rfl rfl (aa ag (aa (aM cU bL (dv 0) (ax G_h hr T.F_h (aa (dv 3) ah))) ah)) (by rfl))
   case' P=>refine' aq ?Q ?R
   case Q=>
    refine' Cs OO ?S ?T
    case S=>exact(aG uU dF (dv 5) (ax G_g hr T.F_g (aa (dv 3) (aa (dv 4) ah))) (az _))
    case' T=>refine' au ?U
    case U=>exact(kK (i:=5) (j:=4) rfl jZ.nd rfl rfl U1 rfl rfl (aa (aM cU bL (dv 5) (ax G_g hr T.F_g (aa (dv 3) (aa (dv 4) ah)))) (aa (aM bF bL (dv 4) ag) ah)) (by rfl))
   case' R=>refine' aq ?V ?W
   case V=>
    refine' bH (i:=6) jZ.nd rfl U5 ?X (hs:=jS)
    case X=>exact(aM bF bL (aM cU bL (dv 4) ag) (aM fi cQ (dv 1) (av bQ bZ (fe (cy (aa ag (aa ag ah)))) (PE.imp (eR qy rfl T.n_int mC (bt (d5 (cF hr) cG (df (dv 2)) (df aQ) (az _)) br)) (bJ qP)))))
   case' W=>refine' aq ?Y ?Z
   case Y=>exact(kK (i:=3) (j:=4) rfl jZ.nd rfl rfl U1 rfl rfl (aa (aM bF bL (dv 3) (aM gi cQ (dv 6) ag)) (aa (aM bF bL (aM eQ cQ (dv 6) ag) ag) ah)) (by rfl))
   case' Z=>refine' au ?a
   case' a=>refine' aJ ?b
   case b=>exact(ax G_i hr T.F_i (aa (dv 3) (aa (dv 4) (aa (PE.imp (bP (uX rfl) rfl T.n_min QQ (bt (aM bF bL (dv 5) ag) (bt (ax G_g hr T.F_g (aa (dv 3) (aa (dv 4) ah))) br))) (bJ kY)) ah))))
  case B=>
  clear hr T G_h G_g G_i;walk_at "d";have le1:=λ{r:Int} (h:iO d k u r)=>Eg h;by_cases hd:u=NL "days"
  ·rw [U4 (by rw [hd];exact beq_self_eq_true _),le1 (.inl ⟨hd,rfl⟩)];exact q
  ·rw [cg hd,U3 NW];have y0:=MN (d / 366) U2;refine⟨λm δ=>∃y:Int,2000<=y/\bK y<=d/\m=(d - bK y).toNat/\δ=[some (Sl.v (NQ d)),some (Sl.v (NQ k)),some (Sl.v (NP u)),some (Sl.v (NQ y)),none,none,none],⟨_,_,U2,U2,rfl,rfl⟩,?_⟩;rintro m δ ⟨y,hy,hyd,rfl,rfl⟩;have ys:=wg y;have l01:=we y;walk_at "d";refine⟨_,rfl,_,rfl,?_⟩;by_cases hs:bK (y+1)<=d
   ·rw [U4 hs];exact⟨_,U2,y+1,U2,hs,rfl,rfl⟩
   ·rw [U3 hs];refine⟨_,rfl,_,rfl,?_⟩;refine⟨λm δ=>∃mo:Int,1<=mo/\mo<=12/\aI y mo<=d - bK y/\m=(12 - mo).toNat/\δ=[some (Sl.v (NQ d)),some (Sl.v (NQ k)),some (Sl.v (NP u)),some (Sl.v (NQ y)),some (Sl.v (NQ mo)),some (Sl.v (NQ (d - bK y - aI y mo))),none],⟨_,1,U1,U1,by rw [pe];omega,rfl,by rw [pe,Int.sub_zero]⟩,?_⟩;rintro m δ ⟨mo,m1,m12,hb,rfl,rfl⟩;have ba:=sL (y:=y) m1 m12;walk_at "d";refine⟨y,mo,rfl,m1,m12,_,rfl,?_⟩;by_cases hm:bb y mo<=d - bK y - aI y mo
    ·rw [U4 hm];have lt12:mo < 12:=by
      by_cases z:mo < 12
      ·exact z
      ·have e:mo=12:=U2
       subst e;have:=(sJ y);have:=pd y;omega
     refine⟨y,mo,rfl,m1,m12,_,rfl,_,?_,mo+1,U2,U2,?_,rfl,rfl,?_⟩
     ·omega
     ·rw [dU m1];omega
     ·rw [dU m1];omega
    ·rw [U3 hm];have D:iL d y mo (d - bK y - aI y mo+1):=⟨m1,m12,U2,U2,by unfold fU;omega⟩;have fin:∀x:Int,iO d k u (lH y mo (d - bK y - aI y mo+1) (k*x))->EF [NQ (y+(mo - 1+k*x)/ 12),NQ ((mo - 1+k*x)% 12+1)] λd_2=>∃x_1,d_2=NQ x_1/\xK [NQ (y+(mo - 1+k*x)/ 12),NQ ((mo - 1+k*x)% 12+1),NQ (if x_1 < d - bK y - aI y mo+1 then x_1 else d - bK y - aI y mo+1)] Q:=λx hx=>by
      generalize hkx:k*x=kx at hx⊢;have e1:(y*12+mo - 1+kx)/ 12=y+(mo - 1+kx)/ 12:=U2
      have e2:(y*12+mo - 1+kx)% 12=(mo - 1+kx)% 12:=U2
      refine⟨_,_,rfl,U2,U2,_,rfl,_,_,_,rfl,U2,U2,?_⟩;have e3:=le1 hx;unfold lH at e3;rw [e1,e2] at e3;rw [vz,e3];exact q
     have z:u=NL "months"\/u=NL "years":=by
      rcases hu with z | z | z
      ·exact absurd z hd
      ·exact .inl z
      ·exact .inr z
     rcases z with z | z
     ·rw [U3 (by rw [z];decide+kernel)];exact⟨_,eX,_,rfl,.inr ⟨U1,U1⟩,fin 1 (.inr (.inl ⟨z,y,mo,_,D,by rw [US]⟩))⟩
     ·rw [U4 (by rw [z];decide+kernel)];exact⟨_,dG,_,rfl,.inr ⟨U1,U1⟩,fin 12 (.inr (.inr ⟨z,y,mo,_,D,rfl⟩))⟩
end
theorem EO:bj (ar tH) ["_law_deeds_here","_law_day_here","_law_word","_law_ending","_law_known","_law_deed_here"] ["_law_name","_law_known","_law_word"] 1 [4,2] ⟨NZ,[ (NN ".0",Wx),(NN "_law_name",Wx),(NN "_law_known",NY),(NN "_law_word",NY)],false,false,[]⟩:= .of
section
variable {P:Vj} {w:Vm} {K:NM} {mg:Str->Option U8} {base:Vl} {t:cM}
def l4(z:Int×Str×Pt):U7:= .tuple [.str (NL "rule"),.int z.1,.str z.2.1,z.2.2.enc]
def MP:List U7->(U7->Prop)->Prop:=λds Q=>∃(xs:List De)(n:Int),ds=[.tuple (xs.map De.enc),.int n,.str (NL "rule"),.str (NL "end")]/\cJ xs/\∀L:List (Int×Str×Pt),L.map (·.2)=bI xs n->(bI xs n).length<=41->eD xs n (bI xs n)->Q (.list (L.map l4))
theorem ER:∀(R:List Rw)(M:List (Str×Pt)),(∀x∈R,x.w=NL "rule"/\∃p,x.r=[p])->R.map (λx=>N3 [.str x.nm,x.r.headD .none])=M.map dn->∃L:List (Int×Str×Pt),L.map (·.2)=M/\R.map Rw.enc=L.map l4
 | [],[],_,_=>⟨[],rfl,rfl⟩
 | [],_::_,_,h=>by cases h
 | _::_,[],_,h=>by cases h
 | x::R,m::M,h,e=>by
  simp only [NS,ON] at e;obtain⟨L,h1,h2⟩:=ER R M (λy hy=>h y (by simp [hy])) e.2;obtain⟨hw,p,hp⟩:=h x U6;refine⟨(x.n,m)::L,by simp [h1],?_⟩;have e1:=e.1;rw [hp] at e1;simp only [dn,List.headD_cons,PX,ON,PV,and_true] at e1;simp only [NS,h2,ON,and_true];unfold Rw.enc l4;rw [hw,hp,e1.1,e1.2]
def l5(L:Ls)(nm:Str):Bool:=match cT L nm with
 | some z=>z.w==NL "rule"
 | none=>false
theorem ES(L:Ls):∀ns:List Str,(∀a∈ns,a∈L.map (·.1))->(ns.filter (l5 L)).map (λnm=>((cT L nm).map Rw.enc).getD .none)=((ns.filterMap (cT L)).filter λx=>x.w==NL "rule").map Rw.enc
 | [],_=>rfl
 | a::ns,h=>by
  obtain⟨z,hz⟩:=oH (h a U6);have ih:=ES L ns λb hb=>h b (by simp [hb]);rw [O5,Pr,hz];simp only [O5];have e:l5 L a=(z.w==NL "rule"):=by unfold l5;rw [hz]
  rw [e];by_cases hr:(z.w==NL "rule")=true
  ·rw [U4 hr,U4 hr,NS,NS,ih,hz];rfl
  ·rw [U3 hr,U3 hr,ih]
theorem ET(T:Txt K mg t):ay P w K mg base aH 1 t.a_q t.d_q ["_law_deeds_here","_law_day_here","_law_word","_law_ending"] (bo K MP):=by
 refine T.F_q.F.okD xu (λds Q h=>?_) (λ_ _ _ _ H O ds Q E hr h=>?_)
 ·obtain⟨xs,n,rfl,_⟩:=h;rfl
 ·obtain⟨xs,n,rfl,g,q⟩:=h;refine'⟨_,?A,?B⟩
  case A=>
   refine' aq ?C ?D
   case C=>exact(lA (i:=4) xu.nd rfl U5 rX)
   case' D=>refine' aq ?E ?F
   case E=>
    refine' qN OO rfl (dv 0) ?G aW ?H
    case G=>exact(aS (i:=5) xu.nd rfl U5)
    case' H=>refine' au ?I
    case' I=>refine' bC ?J ?K bB
    case J=>exact(PW.pt (dE (aG (vQ hr) nX (av aC aD (dv 5) ag) (bE (aa (dv 2) (aa (dv 3) ah))) rfl) (d6 (aG gn dF (av aC aD (dv 5) ag) (dv 1) (az _)))))
    case' K=>refine' au ?L
    case' L=>refine' bC ?M ?N bB
    case M=>exact(PW.pt (jc (B7 (i:=4) hr.units (pv 4) (av aC aD (dv 5) ag)) (jb (aG qv dF (av aC aD (ow (i:=4) hr.units (pv 4) (av aC aD (dv 5) ag) (λ_ _=>rfl)) ag) (av aC aD (dv 5) ag) (az _)))))
    case' N=>refine' au ?O
    case O=>exact(rY (i:=4) hr.units (pv 4) (av aC aD (dv 5) ag) (dv 5))
   case' F=>refine' au ?P
   case' P=>refine' aJ ?Q
   case' Q=>refine' fe ?R
   case R=>exact(fP rfl EO (df (fe (B6 (i:=4) rfl rfl T.n_sorted Pw (pv 4)))) aW cz U1 (λ_ _ _ _=>(aS (i:=0) EO.nd rfl U5)) (λ_ _ _ _=>(di (aG (cn hr.units) cq (av aC aD (ow (i:=1) hr.units (pv 1) (dv 0) (λ_ _=>rfl)) ag) (dv 2) (az _)))) (λ_ _ _ _=>(ow (i:=1) hr.units (pv 1) (dv 0) (λ_ _=>rfl))))
  case B=>
  clear hr T;walk_at "d";rw [<-Ea];have wok:∀x∈xs.map De.rw,N0 x.w=true:=λx hx=>by
   obtain⟨y,hy,rfl⟩:=N6.mp hx;have:=g.gx.w y hy;cases y <;> exact this
  have nok:∀x∈xs.map De.rw,N0 x.nm=true:=λx hx=>by
   obtain⟨y,hy,rfl⟩:=N6.mp hx;have:=g.gx.nm y hy;cases y <;> exact this
  have h64:(xs.map De.rw).length<=41:=by rw [NO];exact g.gx.ln
  have q:∀res,oG fb n (xs.map De.rw) res->Q (.list ((res.filter λx=>x.w==NL "rule").map Rw.enc)):=λres hres=>by
   obtain⟨M,h1,h2⟩:=Ed g hres;have e:=tY h1;obtain⟨L,l1,l2⟩:=ER (res.filter λx=>x.w==NL "rule") M (λx hx=>by
    obtain⟨hx1,hx2⟩:=Oh.mp hx;exact⟨eq_of_beq hx2,(Ee g (λw d nm r h=>g.gx.w _ h)).ru x (hres.it x hx1).1 (eq_of_beq hx2)⟩) h2
   rw [l2];refine q L (l1.trans e) ?_ (by rw [<-e];exact h1);have hl:(gO res).length<=res.length:=by unfold gO;rw [NO];exact OM _ _
   have:=hres.le;rw [NO] at this;rw [h2,NO,e] at hl;have:=g.gx.ln;omega
  generalize xs.map De.rw=ys at wok nok h64 q⊢;clear g;refine⟨λi δ=>∃L o5,d9 fb n (ys.take i) L/\δ=[some (Sl.v (.tuple (ys.map Rw.enc))),some (Sl.v (.int n)),some (Sl.v (.str (NL "rule"))),some (Sl.v (.str (NL "end"))),some (Sl.k (eY L)),o5],⟨[],_,d9.nil _ _,rfl⟩,?_,?_⟩
  ·rintro i x δ hx ⟨L,o5,hL,rfl⟩;rw [Ob] at hx;cases hx':ys[i]? with
   | none=>rw [hx'] at hx;cases hx
   | some y=>
    rw [hx'] at hx;cases hx;have hy:y∈ys:=Oq hx';have tk:ys.take (i+1)=ys.take i++[y]:=by rw [Pb,hx'];rfl
    simp only [Rw.enc];walk_at "d";have hle:L.length < 64:=by have:=hL.le;rw [OQ] at this;omega
    have hk:(eY L).length < 16777216:=by unfold eY;rw [NO];omega
    have en:N3 (NP y.w::NQ y.n::NP y.nm::y.r)=y.enc:=rfl;refine⟨cW.mpr (wok y hy),U0,?_⟩;have ein:(NL "rule"==y.w || NL "end"==y.w)=decide (y.w∈fb):=by
     rw [p5,p5,<-Bool.decide_or];refine decide_eq_decide.mpr ?_;unfold fb;rw [N9,N9];exact⟨λh=>h.imp Eq.symm λh=>.inl h.symm,λh=>h.imp Eq.symm λh=>h.elim Eq.symm λh=>absurd h Pc⟩
    rw [ein];by_cases hin:y.w∈fb
    ·rw [U4 (decide_eq_true hin)];by_cases hn:y.n<=n
     ·rw [U4 hn,lC,en];cases hl:cT L y.nm with
      | none=>
       rw [U4 (by rfl)];exact⟨hk,_,by rw [tk];exact hL.put ⟨hin,hn⟩ (λz e=>by rw [hl] at e;cases e),sq L y.nm y,_,rfl⟩
      | some z=>
       rw [U3 U6];refine⟨_,rfl,_,rfl,_,dG,_,rfl,?_⟩;split
       ·rename_i hlt;exact⟨hk,_,by rw [tk];exact hL.put ⟨hin,hn⟩ (λz' e=>by rw [hl] at e;cases e;exact hlt),sq L y.nm y,_,rfl⟩
       ·rename_i hlt;exact⟨L,by rw [tk];exact hL.keep hl hlt,rfl,_,rfl⟩
     ·rw [U3 hn];exact⟨L,by rw [tk];exact hL.skip (λz=>hn z.2),rfl,_,rfl⟩
    ·rw [U3 (by simpa using hin)];exact⟨L,by rw [tk];exact hL.skip (λz=>hin z.1),rfl,_,rfl⟩
  ·rintro δ ⟨L,o5,hL,rfl⟩;walk_at "d";rw [NO,OD (NV _)] at hL;have hle:L.length < 64:=by have:=hL.le;omega
   have sp:=fG (L.map (·.1));refine⟨L.map (·.1),by unfold eY;rw [Oe,Oe];rfl,by rw [NO];exact hle,by rw [NO,sp.length_eq,NO];omega,?_⟩;refine cZ (l5 L) (λnm=>((cT L nm).map Rw.enc).getD .none) (λnm hnm R S h=>?_) ?_
   ·obtain⟨z,hz⟩:=oH (sp.mem_iff.mp hnm);walk_at "d";refine⟨z.enc,by rw [lC,hz];rfl,_,rfl,_,eX,?_⟩;obtain⟨p,hp,_,e⟩:=oF hz;have zy:z∈ys:=by rw [<-e];exact(hL.it p hp).2.1
    have e2:l5 L nm=(z.w==NL "rule"):=by unfold l5;rw [hz]
    rw [e2,hz] at h;refine⟨cW.mpr (wok z zy),U0,?_⟩;rw [fQ];split
    ·rename_i h1;rw [U4 h1] at h;exact⟨z.enc,by rw [lC,hz];rfl,h⟩
    ·rename_i h1;rw [U3 h1] at h;exact h
   ·rw [ES L _ λa ha=>sp.mem_iff.mp ha];exact q _ hL.res
end
theorem EU:bj (ar pO) ["_law_deeds_here","_law_parts_here","_law_name","_law_day_here","_law_coming","_law_days"] ["_law_deed_here","_law_name","_law_parts_here"] 1 [2,1] ⟨NZ,[ (NN ".0",Wx),(NN "_law_deed_here",Wx),(NN "_law_name",NY),(NN "_law_parts_here",NY)],false,false,[]⟩:= .of
theorem EV:bj (ar pO) ["_law_deeds_here","_law_parts_here","_law_name","_law_day_here","_law_coming","_law_days"] ["_law_one","_law_day_here"] 1 [3] ⟨NZ,[ (NN ".0",Wx),(NN "_law_one",Wx),(NN "_law_day_here",NY)],false,false,[]⟩:= .of
section
def l6(x:Int×Str):List (Int×Str)->List (Int×Str)
 | []=>[x]
 | y::l=>if aK x y=true then x::y::l else y::l6 x l
theorem xT(x:Int×Str):∀l,(l6 x l).Perm (x::l)
 | []=>.refl _
 | y::l=>by
  unfold l6;split
  ·exact .refl _
  ·exact((xT x l).cons y).trans (.swap x y l)
theorem EW{x:Int×Str}:∀{l:List (Int×Str)},(∀y∈l,y≠x)->l.Pairwise (λa b=>aK a b=true)->(l6 x l).Pairwise λa b=>aK a b=true
 | [],_,_=>SJ _ _
 | y::l,hn,h=>by
  have hp:=OT.mp h;unfold l6;split
  ·rename_i hl;refine OT.mpr ⟨λz hz=>?_,h⟩;rcases N9.mp hz with e | e
   ·subst e;exact hl
   ·exact xx hl (hp.1 z e)
  ·rename_i hl;refine OT.mpr ⟨λz hz=>?_,EW (λz hz=>hn z (by simp [hz])) hp.2⟩;rcases N9.mp ((xT x l).mem_iff.mp hz) with e | e
   ·subst e;rcases DJ (a:=y) (b:=z) (hn y U6) with w | w
    ·exact w
    ·exact absurd w hl
   ·exact hp.1 z e
theorem EX:∀{l:List (Int×Str)},l.Nodup->∃s:List (Int×Str),s.Perm l/\s.Pairwise λa b=>aK a b=true
 | [],_=>⟨[],.refl _,.nil⟩
 | x::l,nd=>by
  rw [PL] at nd;obtain⟨s,h1,h2⟩:=EX nd.2;exact⟨l6 x s,(xT x s).trans (h1.cons x),EW (λy hy e=>nd.1 (by rw [<-e];exact h1.mem_iff.mp hy)) h2⟩
theorem EY{l:List (Int×Str)}(nd:l.Nodup):(fI l).Perm l/\(fI l).Pairwise λa b=>aK a b=true:=by
 obtain⟨s,h1,h2⟩:=EX nd;rw [<-tX h1 h2];exact⟨h1,h2⟩
def fK(nm wd:Str)(x:De):Bool:=fW nm x && (jv x).2==wd
theorem t9{xs:List De}(g:cJ xs)(c:Pp)(wd:Str)(n:Int):(gQ (bw xs c) wd n).Perm (((xs.filter (fK c.nm wd)).map λx=>x.d).filter λz=>decide (z<=n)):=by
 have e:((dW xs c.nm).filter λz=>z.2==wd).map (·.1)=(xs.filter (fK c.nm wd)).map λx=>x.d:=by
  unfold dW;rw [List.filter_map,Oe,TU];have e1:xs.filter (λa=>((λz:Int×Str=>z.2==wd)∘ jv) a && fW c.nm a)=xs.filter (fK c.nm wd):=by
   congr 1;funext a;unfold fK;rw [UD];rfl
  rw [e1];refine Q3 λx hx=>?_;cases x with
  | pap p=>rfl
  | oth w d nm r=>
   show(jv (De.oth w d nm r)).1=d;unfold jv;split
   ·rename_i h;cases h;rfl
   ·rfl
 have p:=(EY (xE g c.nm)).1;have p2:=((p.filter λz=>z.2==wd).map (·.1)).filter λz=>decide (z<=n);rw [e] at p2;exact p2
theorem EZ{xs:List De}(g:cJ xs)(c:Pp)(wd:Str)(n:Int):(gQ (bw xs c) wd n).Pairwise (·<=·):=by
 unfold gQ lV;refine Ta PK ?_;rw [OX];refine Ta PK ((EY (xE g c.nm)).2.imp λ{a b} h=>?_);unfold aK at h;simp only [QL,OV,decide_eq_true_eq] at h;rcases h with h | h <;> omega
end
section
variable {P:Vj} {w:Vm} {K:NM} {mg:Str->Option U8} {base:Vl} {t:cM}
def MQ:List U7->(U7->Prop)->Prop:=λds Q=>∃(xs:List De)(c:Pp)(wo kd:Str)(si:cC)(k:Int)(u:Str)(n:Int),ds=[.tuple (xs.map De.enc),(Pt.five wo kd si k u).enc,.str c.nm,.int n,.int c.d]/\cJ xs/\c∈aN xs/\si.Ok/\hZ u/\Q (bW (bX (bw xs c) n (.five wo kd si k u)))
theorem E1{n:Nat}{ds:List U7}(h:∀d∈ds,cA n d):cA (n+1) (.list ds):=by
 have:=cX h;exact⟨by have:=this.can;simpa [Ox] using this,by have:=this.dep;simpa [Qf] using this⟩
theorem MR(ns:List Int):cA 2 (.list (ns.map NQ)):=E1 λd hd=>by
 obtain⟨i,_,rfl⟩:=N6.mp hd;exact BK
theorem xU{Q:U7->Prop}{k:Int}{u:Str}(hu:hZ u){ns:List Int}{j:Int}{ob:Option Int}(h:∀M M1:Int,M∈ns->(∀a∈ns,M<=a)->M1∈ns->(∀a∈ns,a<=M1)->∃b:Int,atI [NQ M,NQ M1] j=some (.int b)/\ob=some b/\0<=b)(h0:ns=[]->ob=none)(q:Q (bW (ob.map λb=>jw b k u))):
 OP (Ow (ns.map NQ))=true/\OP (Ow [])=true/\if (Ow (ns.map NQ)).eqv (Ow [])=true then Q P2 else ∃ns_1,ns.map NQ=Od NQ ns_1/\¬ns_1=[]/\∀(M:Int),M∈ns_1->(∀(a:Int),a∈ns_1->M<=a)->∃ns_2,ns.map NQ=Od NQ ns_2/\¬ns_2=[]/\∀(M_1:Int),M_1∈ns_2->(∀(a:Int),a∈ns_2->a<=M_1)->∃d,atI [NQ M,NQ M_1] j=some d/\xS [d,NQ k,NP u] Q:=by
 refine⟨(MR ns).shp U1,U0,?_⟩;cases ns with
 | nil=>
  rw [U4 (by simp [N4,PD])];rw [h0 rfl] at q;exact q
 | cons a l=>
  rw [U3 (by simp [N4,PD])];refine⟨a::l,rfl,U6,λM h1 h2=>⟨a::l,rfl,U6,λM1 h3 h4=>?_⟩⟩;obtain⟨b,e1,e2,e3⟩:=h M M1 h1 h2 h3 h4;rw [e2] at q;exact⟨_,e1,b,k,u,rfl,hu,e3,q⟩
theorem MS{Q:U7->Prop}{k:Int}{u:Str}(hu:hZ u){ns:List Int}{ob:Option Int}(h:∀M1:Int,M1∈ns->(∀a∈ns,a<=M1)->ob=some M1/\0<=M1)(h0:ns=[]->ob=none)(q:Q (bW (ob.map λb=>jw b k u))):
 OP (Ow (ns.map NQ))=true/\OP (Ow [])=true/\if (Ow (ns.map NQ)).eqv (Ow [])=true then Q P2 else ∃ns_1,ns.map NQ=Od NQ ns_1/\¬ns_1=[]/\∀(M:Int),M∈ns_1->(∀(a:Int),a∈ns_1->M<=a)->∃ns_2,ns.map NQ=Od NQ ns_2/\¬ns_2=[]/\∀(M_1:Int),M_1∈ns_2->(∀(a:Int),a∈ns_2->a<=M_1)->xS [NQ M_1,NQ k,NP u] Q:=by
 have z:=xU (j:=1) hu (λM M1 _ _ h3 h4=>⟨M1,dG,h M1 h3 h4⟩) h0 q;simpa only [dG,P0,exists_eq_left'] using z
theorem MT{l m:List Int}{M:Int}(up:l.Pairwise (·<=·))(p:l.Perm m)(h1:M∈m)(h2:∀a∈m,M<=a):l.head?=some M:=by
 cases l with
 | nil=>rw [<-p.nil_eq] at h1;cases h1
 | cons a l=>
  have ha:M<=a:=h2 a (p.mem_iff.mp U6);have hm:M∈a::l:=p.mem_iff.mpr h1;rcases N9.mp hm with e | e
  ·rw [e];rfl
  ·have:=(OT.mp up).1 M e;show some a=some M;rw [SQ this ha]
theorem MU{l m:List Int}{M:Int}(up:l.Pairwise (·<=·))(p:l.Perm m)(h1:M∈m)(h2:∀a∈m,a<=M):l.getLast?=some M:=by
 rcases S7 l with e | ⟨l',a,e⟩
 ·subst e;rw [<-p.nil_eq] at h1;cases h1
 ·rw [S8] at e;subst e;rw [Tj];have ha:a<=M:=h2 a (p.mem_iff.mp U6);have hm:M∈l'++[a]:=p.mem_iff.mpr h1;rcases Oo.mp hm with e | e
  ·have:=(List.pairwise_append.mp up).2.2 M e a U6;rw [SQ ha this]
  ·rw [OA.mp e]
theorem E3{xs:List De}(g:cJ xs){nm wd:Str}{n M:Int}(h:M∈((xs.filter (fK nm wd)).map λx=>x.d).filter λz=>decide (z<=n)):0<=M:=by
 obtain⟨x,hx,rfl⟩:=N6.mp (Oh.mp h).1;exact(g.d0 x (Oh.mp hx).1).1
theorem E4{xs:List De}{c:Pp}{n k:Int}{a wd wo kd u:Str}{Q':List U7->Prop}(g:cJ xs)(hc:c∈aN xs)(hw:N0 wd=true)(q:Q' ((((xs.filter (fK c.nm wd)).map λx=>x.d).filter λz=>decide (z<=n)).map .int)):
 fD (jf 0)
 (gY (fw (dP lr (dP iF (cw 0) (dC (NQ 0))) (dC (NP (NL "happens")))))
  (fw
   (dP kT (lq (cw 0) (kX (dC (NQ 2))) kW)
    (kC (gF (cw 1) (gF (dP iF (dP iF (cw 2) (dC (NQ 2))) (dC (NQ 1))) ja))))))
 (dP iF (cw 0) (dC (NQ 1)))
 [none,some (Sl.v (NP c.nm)),some (Sl.v (N3 [NP wo,NP kd,N3 [NP a,NP wd],NQ k,NP u]))]
 (Od De.enc xs) λds=>ds.length<=16777216/\
  fD (jf 0) (fw (dP (dI λi j=>PF (decide (i<=j))) (cw 0) (cw 1))) (cw 0) [none,some (Sl.v (NQ n))] ds Q':=by
 have ln:=g.gx.ln;refine DW (fK c.nm wd) (λx=>.int x.d) (λx hx R S h1 h0=>?_) ⟨?_,?_⟩
 ·cases x with
  | pap p=>
   simp only [De.enc,Pp.enc];walk_at "d";exact h0 rfl
  | oth wo d nm r=>
   simp only [De.enc];walk_at "d";by_cases e:wo=NL "happens"
   ·subst e;obtain⟨wd2,rfl,hw2⟩:=g.hp _ _ _ hx;have cok:=g.gx.gp.nm c hc;have nok:=g.gx.nm _ hx;have l2:∀a b:Str,N0 a=true->N0 b=true->OP (N3 [NP a,NP b])=true:=λa b h1 h2=>(cX (n:=1) (aZ (bO h1) (aZ (bO h2) dS))).shp U1;rw [U4 (beq_self_eq_true _)];refine⟨l2 _ _ nok hw2,l2 _ _ cok hw,?_⟩;have ee:(N3 [NP nm,NP wd2]).eqv (N3 [NP c.nm,NP wd])=(nm==c.nm && wd2==wd):=by simp [N4,PD,p5]
    have eh:fK c.nm wd (De.oth (NL "happens") d nm [.str wd2])=(nm==c.nm && wd2==wd):=by
     unfold fK fW jv;simp only [beq_self_eq_true,Qh]
    rw [ee,<-eh];split
    ·rename_i h2;exact h1 h2
    ·rename_i h2;exact h0 (Bool.not_eq_true _▸h2)
   ·rw [cg e,U3 NW];exact h0 (by unfold fK fW;simp only [cg e,RT])
 ·rw [NO];have:=OM (fK c.nm wd) xs;omega
 ·have em:(xs.filter (fK c.nm wd)).map (λx=>NQ x.d)=((xs.filter (fK c.nm wd)).map λx=>x.d).map NQ:=by rw [Oe];rfl
  rw [em];refine cZ (λz=>decide (z<=n)) (λz=>.int z) (λx hx R S h=>?_) q;walk_at "d";simpa using h
theorem MV(T:Txt K mg t):ay P w K mg base aH 4 t.a_r t.d_r ["_law_deeds_here","_law_parts_here","_law_name","_law_day_here","_law_coming"] (bo K MQ):=by
 have G_j:=@MO P w _ _ base _ T;refine T.F_r.F.okD tQ (λds Q h=>?_) (λ_ _ _ _ H O ds Q E hr h=>?_)
 ·obtain⟨xs,c,wo,kd,si,k,u,n,rfl,_⟩:=h;rfl
 ·obtain⟨xs,c,wo,kd,si,k,u,n,rfl,g,hc,hsi,hu,q⟩:=h;refine'⟨_,?A,?B⟩
  case A=>
   refine' aq ?C ?D
   case C=>exact(bH (i:=5) tQ.nd rfl U5 (fe (cy (aa (dv 4) ah))))
   case' D=>refine' aq ?E ?F
   case E=>
    refine' bC ?G ?H bB
    case G=>exact(aG (kQ hr.units) kU (av aC aD (av aC aD (dv 1) ag) ag) aQ (az _))
    case' H=>refine' aq ?I ?J
    case I=>exact(iJ (i:=5) tQ.nd rfl U5 (sA rfl EU (df (dv 0)) aW cz U1 (λ_ _ _ _=>(aS (i:=0) EU.nd rfl U5)) (λ_ _ _ _=>(di (PW.pt (dE (aG (cF hr) cG (av aC aD (dv 0) ag) aQ (az _)) (d6 (aG (cn hr.units) cq (vR (df (dv 0)) (fy ag) ji) (bE (aa (dv 1) (aa (av aC aD (av aC aD (dv 2) ag) ag) ah))) (az _))))))) (λ_ _ _ _=>(av aC aD (dv 0) ag))))
    case' J=>refine' au ?K
    case K=>exact(iJ (i:=5) tQ.nd rfl U5 (nU rfl EV (df (dv 5)) aW cz U1 (λ_ _ _ _=>(aS (i:=0) EV.nd rfl U5)) (λ_ _ _ _=>(di (aG gn dF (dv 0) (dv 1) (az _)))) (λ_ _ _ _=>(dv 0))))
   case' F=>refine' aq ?L ?M
   case L=>
    refine' bC ?N ?O bB
    case N=>exact(aG (cn hr.units) cq (dv 5) (fe (cy ah)) (az _))
    case O=>refine' au (aJ fv)
   case' M=>refine' au ?P
   case' P=>generalize hG14:TV _ _ _ _=eg14
   refine' aJ ?Q
   case' Q=>subst hG14
   exact(ax G_j hr T.F_j (aa (av bQ bZ (fe (cy (aa (PE.imp (bP (J5 rfl) rfl T.n_min QQ (bt (dv 5) br)) (bJ J6)) (aa (PE.imp (bP (JG rfl) rfl T.n_max Qt (bt (dv 5) br)) (bJ JH)) ah)))) (PE.imp (eR qy rfl T.n_int mC (bt (d5 (cF hr) cG (df (av aC aD (av aC aD (dv 1) ag) ag)) (df aQ) (az _)) br)) (bJ qP))) (aa (av aC aD (dv 1) ag) (aa (av aC aD (dv 1) ag) ah))))
  case B=>
  clear hr T G_j;have q:Q (bW ((pV (bw xs c) n si).map λb=>jw b k u)):=q;simp only [Pt.enc];cases si with
  | com=>
   simp only [cC.enc];walk_at "d";refine⟨U0,U0,xU hu (ns:=[c.d]) (ob:=some c.d) (λM M1 h1 _ h2 _=>?_) (λz=>by cases z) q⟩;rw [OA] at h1 h2;subst h1 h2;exact⟨c.d,by rw [U3 U0];exact eX,rfl,(g.d0 _ (lU.mp hc)).1⟩
  | fst wd=>
   simp only [cC.enc];walk_at "d";refine⟨U0,U0,?_⟩;rw [U4 U0];refine⟨by rw [NO];have:=g.gx.ln;omega,E4 g hc hsi (xU hu (ob:=(gQ (bw xs c) wd n).head?) (λM M1 h1 h2 _ _=>⟨M,?_,?_,?_⟩) (λz=>?_) q)⟩
   ·rw [U3 U0];exact eX
   ·exact MT (EZ g c wd n) (t9 g c wd n) h1 h2
   ·exact E3 g h1
   ·have p:=t9 g c wd n;rw [z] at p;rw [p.eq_nil];rfl
  | lst wd=>
   simp only [cC.enc];walk_at "d";refine⟨U0,U0,?_⟩;rw [U4 U0];refine⟨by rw [NO];have:=g.gx.ln;omega,E4 g hc hsi (MS hu (ob:=(gQ (bw xs c) wd n).getLast?) (λM1 h1 h2=>⟨?_,?_⟩) (λz=>?_) q)⟩
   ·exact MU (EZ g c wd n) (t9 g c wd n) h1 h2
   ·exact E3 g h1
   ·have p:=t9 g c wd n;rw [z] at p;rw [p.eq_nil];rfl
end
theorem E5:bj (ar jY) ["_law_deeds_here","_law_rows","_law_web_here","_law_name","_law_some","_law_ahead"] ["_law_deed_here"] 1 [] ⟨NZ,[(NN ".0",Wx),(NN "_law_deed_here",Wx)],false,false,[]⟩:= .of
theorem E6:bj (ar jY) ["_law_deeds_here","_law_rows","_law_web_here","_law_name","_law_some","_law_ahead"] ["_law_one","_law_rows"] 1 [1] ⟨NZ,[ (NN ".0",Wx),(NN "_law_one",Wx),(NN "_law_rows",NY)],false,false,[]⟩:= .of
theorem E7:bj (ar jY) ["_law_deeds_here","_law_rows","_law_web_here","_law_name","_law_some","_law_ahead"] ["_law_one","_law_name","_law_rows"] 1 [3,1] ⟨NZ,[ (NN ".0",Wx),(NN "_law_one",Wx),(NN "_law_name",NY),(NN "_law_rows",NY)],false,false,[]⟩:= .of
theorem xV:bj (ar jY) ["_law_deeds_here","_law_rows","_law_web_here","_law_name","_law_some","_law_ahead"] ["_law_day_here","_law_one"] 2 [] ⟨NZ,[ (NN ".0",Wx),(NN "_law_day_here",Wx),(NN "_law_one",Wx)],false,false,[]⟩:= .of
theorem kw_keep_gone:(NL "keep"==NL "gone")=false:=U0
theorem kw_keep_while:(NL "keep"==NL "while")=false:=U0
theorem kw_keep_follow:(NL "keep"==NL "follow")=false:=U0
theorem kw_keep_leave:(NL "keep"==NL "leave")=false:=U0
theorem kw_gone_keep:(NL "gone"==NL "keep")=false:=U0
theorem kw_gone_while:(NL "gone"==NL "while")=false:=U0
theorem kw_gone_follow:(NL "gone"==NL "follow")=false:=U0
theorem kw_gone_leave:(NL "gone"==NL "leave")=false:=U0
theorem kw_while_keep:(NL "while"==NL "keep")=false:=U0
theorem kw_while_gone:(NL "while"==NL "gone")=false:=U0
theorem kw_while_follow:(NL "while"==NL "follow")=false:=U0
theorem kw_follow_keep:(NL "follow"==NL "keep")=false:=U0
theorem kw_follow_gone:(NL "follow"==NL "gone")=false:=U0
theorem kw_follow_while:(NL "follow"==NL "while")=false:=U0
theorem kw_leave_keep:(NL "leave"==NL "keep")=false:=U0
theorem kw_leave_gone:(NL "leave"==NL "gone")=false:=U0
theorem kw_leave_while:(NL "leave"==NL "while")=false:=U0
theorem kw_leave_follow:(NL "leave"==NL "follow")=false:=U0
def W5(w:Str):Prop:=w=NL "keep"\/w=NL "gone"\/w=NL "while"\/w=NL "follow"\/w=NL "leave"
def R5(xs:List De):Prop:=∀d nm(pt:Pt),De.oth (NL "rule") d nm [pt.enc]∈xs->W5 pt.wd
section
variable {P:Vj} {w:Vm} {K:NM} {mg:Str->Option U8} {base:Vl} {t:cM}
def l8(ps:List Pp)(p:Pp):U7:= .tuple [.int p.d,.str p.kd,.list (((cY ps p).map (·.nm)).map .str)]
def qa(ps:List Pp):U7:=eZ (ps.map (·.nm)) (ps.map (l8 ps))
def MW:List U7->(U7->Prop)->Prop:=λds Q=>∃xs:List De,ds=[.tuple (xs.map De.enc)]/\iT xs/\Q (qa (aN xs))
theorem xW(f:De->U7):∀xs:List De,(xs.filter (fu λ_=>true)).map f=(aN xs).map λp=>f (.pap p)
 | []=>rfl
 | .pap p::xs=>by
  rw [O5,U4 (show fu (λ_=>true) (De.pap p)=true from rfl),NS,xW f xs];rfl
 | .oth w d nm r::xs=>by
  rw [O5,U3 (by simp [fu])];exact xW f xs
theorem E8{kd:List (ai×U7)}{k:ai}{d:U7}(h:k ∉ kd.map (·.1)):d8 kd k d=kd++[(k,d)]:=by
 unfold d8;rw [U3];rw [Ql];rintro⟨p,hp,e⟩;exact h (N6.mpr ⟨p,hp,of_decide_eq_true e⟩)
theorem E9:∀(kd acc:List (ai×U7)),((acc++kd).map (·.1)).Nodup->kd.foldl (λa p=>d8 a p.1 p.2) acc=acc++kd
 | [],acc,_=>by simp
 | p::kd,acc,nd=>by
  have e:acc++p::kd=(acc++[p])++kd:=U6
  rw [Qs,E8,E9 kd (acc++[(p.1,p.2)]),e]
  ·rw [<-e];exact nd
  ·intro h;rw [OJ,T3] at nd;exact nd.2.2 p.1 h p.1 U6 rfl
theorem MX{ss:List Str}(h:ss.Nodup):(ss.map (OW:Str->ai)).Nodup:=by
 rw [QV,OX];exact h.imp λz e=>z (SR e)
theorem l9{f:Pp->U7}:∀{ps:List Pp}{p:Pp},(ps.map (·.nm)).Nodup->p∈ps->cj (ps.map (·.nm)) (ps.map f) p.nm=some (f p)
 | x::ps,p,nd,h=>by
  rw [NS,NS];unfold cj;rw [NS,PL] at nd;rcases N9.mp h with e | e
  ·rw [e,U4 rfl]
  ·rw [U3 (λz=>nd.1 (by rw [z];exact N6.mpr ⟨p,e,rfl⟩))];exact l9 nd.2 e
theorem Fb{f:Pp->U7}:∀{ps:List Pp}{z:Str},z ∉ ps.map (·.nm)->cj (ps.map (·.nm)) (ps.map f) z=none
 | [],z,_=>rfl
 | x::ps,z,h=>by
  rw [NS,NS];unfold cj;rw [NS,N9,not_or] at h;rw [U3 (λe=>h.1 e.symm)];exact Fb h.2
def ua(ps:List Pp)(z:Str):Int:=((ps.find? λp=>decide (p.nm=z)).map (·.d)).getD 0
theorem xX{ps:List Pp}(nd:(ps.map (·.nm)).Nodup){p:Pp}(h:p∈ps):ua ps p.nm=p.d:=by
 unfold ua;cases hf:ps.find? (λq=>decide (q.nm=p.nm)) with
 | none=>exact absurd (TM.mp hf p h) U6
 | some q=>
  have e:q.nm=p.nm:=by simpa using Uq hf
  rw [DN nd (Q7 hf) h e];rfl
def iU(ps:List Pp)(c:Pp):List (Int×Str):=(c.ms.filter λz=>decide (z∈ps.map (·.nm))).map λz=>(ua ps z,z)
theorem Fc{ps:List Pp}{c:Pp}(h:c.ms.Nodup):(iU ps c).Nodup:=by
 unfold iU;rw [QV,OX];exact(h.sublist PK).imp λz e=>z (congrArg UL e)
theorem CD{ps:List Pp}(nd:(ps.map (·.nm)).Nodup){c:Pp}{hs:List (Int×Str)}(h1:hs.Perm (iU ps c))(h2:hs.Pairwise λa b=>aK a b=true)(nz:(iU ps c).Nodup):hs.filter (λz=>aK z c.key)=(cY ps c).map Pp.key:=by
 have p1:(hs.filter λz=>aK z c.key).Pairwise λa b=>aK a b=true:=h2.sublist PK;have p2:((cY ps c).map Pp.key).Pairwise λa b=>aK a b=true:=by
  rw [OX];unfold cY;exact(lT nd).sublist PK
 have n1:(hs.filter λz=>aK z c.key).Nodup:=(h1.nodup_iff.mpr nz).sublist PK;have n2:((cY ps c).map Pp.key).Nodup:=p2.imp λ{a b} h e=>by rw [e,DI] at h;cases h
 refine lR (λa b h=>tU h) ((R8 n1 n2).mpr λz=>?_) p1 p2;rw [Oh,h1.mem_iff,N6];unfold iU cY;constructor
 ·rintro⟨hz,hl⟩;obtain⟨y,hy,rfl⟩:=N6.mp hz;obtain⟨hy1,hy2⟩:=Oh.mp hy;obtain⟨m,hm,rfl⟩:=N6.mp (of_decide_eq_true hy2);rw [xX nd hm] at hl⊢;refine⟨m,Oh.mpr ⟨tV.mpr hm,?_⟩,rfl⟩;unfold pR;rw [Tb.mpr hy1,Qh];exact hl
 ·rintro⟨m,hm,rfl⟩;obtain⟨hm1,hm2⟩:=Oh.mp hm;unfold pR at hm2;rw [OV] at hm2;have hm1:=tV.mp hm1;refine⟨N6.mpr ⟨m.nm,Oh.mpr ⟨Tb.mp hm2.1,decide_eq_true (N6.mpr ⟨m,hm1,rfl⟩)⟩,?_⟩,hm2.2⟩;rw [xX nd hm1];rfl
theorem iT.nd{xs:List De}(h:iT xs){p:Pp}(hp:p∈aN xs):p.ms.Nodup:=((h.1 _ (lU.mp hp)).pp p rfl).2.2.2
theorem uc(T:Txt K mg t):ay P w K mg base aH 1 t.a_p t.d_p ["_law_deeds_here"] (bo K MW):=by
 refine T.F_p.F.okD lQ (λds Q h=>?_) (λ_ _ _ _ H O ds Q E hr h=>?_)
 ·obtain⟨xs,rfl,_⟩:=h;rfl
 ·obtain⟨xs,rfl,gl,q⟩:=h;refine'⟨_,?A,?B⟩
  case A=>
   refine' aq ?C ?D
   case C=>exact(lA (i:=1) lQ.nd rfl U5 (Ko rfl rfl T.n_dict (bt (fe (kP rfl E5 (df (dv 0)) aW cz U1 (λ_ _ _ _=>(aS (i:=0) E5.nd rfl U5)) (λ_ _ _ _=>(di (aG (cF hr) cG (av aC aD (dv 0) ag) aQ (az _)))) (λ_ _ _ _=>(bE (aa (av aC aD (dv 0) ag) (aa (dv 0) ah)))))) br)))
   case' D=>refine' aq ?E ?F
   case E=>exact(lA (i:=2) lQ.nd rfl U5 rX)
   case' F=>refine' aq ?G ?H
   case G=>
    refine' wa 1 ?I
    case' I=>refine' Kv OO rfl (dv 1) ?J aW ?K
    case J=>exact(aS (i:=3) lQ.nd rfl U5)
    case' K=>refine' aq ?L ?M
    case L=>
     refine' bH (i:=4) lQ.nd rfl U5 ?N (hs:=iK)
     case N=>exact(fe (Co rfl T.n_sorted Pw (bt (fe (kP rfl E6 (df (av aC aD (jo hr.units (dv 1) (dv 3) (λ_ _=>rfl)) ag)) aW cz U1 (λ_ _ _ _=>(aS (i:=0) E6.nd rfl U5)) (λ_ _ _ _=>(di (CL hr.units (dv 1) (dv 0)))) (λ_ _ _ _=>(bE (aa (av aC aD (jo hr.units (dv 1) (dv 0) (λ_ _=>rfl)) ag) (aa (dv 0) ah)))))) br)))
    case' M=>refine' aq ?O ?P
    case O=>exact(iJ (i:=5) lQ.nd rfl U5 (nU rfl E7 (df (dv 4)) aW cz U1 (λ_ _ _ _=>(aS (i:=0) E7.nd rfl U5)) (λ_ _ _ _=>(di (aG (Cq hr.units0) Cr (dv 0) (bE (aa (av aC aD (jo hr.units (dv 2) (dv 1) (λ_ _=>rfl)) ag) (aa (dv 1) ah))) (az _)))) (λ_ _ _ _=>(dv 0))))
    case' P=>refine' au ?Q
    case Q=>exact(rY (i:=2) hr.units (pv 2) (dv 3) (bE (aa (av aC aD (jo hr.units (dv 1) (dv 3) (λ_ _=>rfl)) ag) (aa (av aC aD (jo hr.units (dv 1) (dv 3) (λ_ _=>rfl)) ag) (aa (fe (fP rfl xV (df (dv 5)) (jh (d7 aW (d7 aW jg))) wb U1 (λ_ _ _ _=>(iw (n:=2) rfl (dA (aS (i:=0) xV.nd rfl U5) (dA (aS (i:=1) xV.nd rfl U5) iu)))) (λ_ _ _ _=>iH) (λ_ _ _ _=>(dv 1)))) ah)))))
   case' H=>refine' au ?R
   case' R=>refine' wa 2 ?S
   case S=>exact(aJ (dv 2))
  case B=>
  clear hr T;walk_at "d";have g:=gl.good;have ln:=g.gx.ln;have gp:=g.gx.gp;refine⟨by rw [NO];omega,cZ (fu λ_=>true) (λx=>.tuple [.str x.nm,x.enc]) (λx hx R S h=>?_) ?_⟩
  ·cases x with
   | pap p=>
    simp only [De.enc,Pp.enc] at h⊢;walk_at "d";exact h
   | oth wo d nm l=>
    simp only [De.enc] at h⊢;walk_at "d";rw [cg (g.gx.np _ _ _ _ hx),U3 NW];rw [U3 (by simp [fu])] at h;exact h
  ·rw [xW];have mnd:∀p∈aN xs,p.ms.Nodup:=λp hp=>gl.nd hp;generalize aN xs=ps at gp q mnd⊢;have kn:((ps.map λp:Pp=>((OW p.nm:ai),p.enc)).map (·.1)).Nodup:=by
    rw [Oe];have:=MX gp.nd;rw [Oe] at this;exact this
   have ef:=E9 (ps.map λp:Pp=>((OW p.nm:ai),p.enc)) [] (by rw [O4];exact kn);rw [O4] at ef;refine⟨ps.map λp=>(.inr p.nm,p.enc),by rw [Oe];rfl,ps.map (·.nm),by rw [ef,Oe,Oe];rfl,ps.map (·.nm),⟨_,rfl⟩,?_⟩;rw [ef];have ed:Od (λx=>x.snd) (ps.map λp:Pp=>((OW p.nm:ai),p.enc))=ps.map Pp.enc:=by rw [Oe];rfl
   rw [ed];refine⟨λi δ=>∃o3 o4 o5,δ=[some (Sl.v (N3 (Od De.enc xs))),some (Sl.v (eZ (ps.map (·.nm)) (ps.map Pp.enc))),some (Sl.k ((ps.take i).map λp=>(.inr p.nm,l8 ps p))),o3,o4,o5],⟨_,_,_,rfl⟩,?_,?_⟩
   ·rintro i z δ hz ⟨o3,o4,o5,rfl⟩;rw [Ob,Ob] at hz;cases hz':ps[i]? with
    | none=>rw [hz'] at hz;cases hz
    | some p=>
     rw [hz'] at hz;cases hz;have hp:=Oq hz';have ap:=l9 (f:=Pp.enc) gp.nd hp;walk_at "d";have ml:=(gp.ms p hp).2;refine⟨_,_,rfl,_,ap,_,rfl,_,nM,_,rfl,by rw [NO];omega,cZ (λz=>decide (z∈ps.map (·.nm))) (λz=>cu (ua ps z,z)) (λz hz R S h=>?_) ?_⟩
     ·walk_at "d";refine⟨_,_,rfl,?_⟩;by_cases hm:z∈ps.map (·.nm)
      ·rw [U4 (decide_eq_true hm)] at h;obtain⟨m,hm1,rfl⟩:=N6.mp hm;have am:=l9 (f:=Pp.enc) gp.nd hm1;rw [am,U4 (by rfl)];rw [xX gp.nd hm1] at h;exact⟨_,_,rfl,_,am,_,rfl,_,dG,h⟩
      ·rw [U3 (by simpa using hm)] at h;rw [Fb hm,U3 U6];exact h
     ·refine⟨iU ps p,by unfold iU;rw [Oe];rfl,?_,Fc (mnd p hp),λhs h1 h2=>?_⟩
      ·unfold iU;rw [NO];have:=OM (λz=>decide (z∈ps.map (·.nm))) p.ms;omega
      ·have hl:hs.length<=50:=by
        rw [h1.length_eq];unfold iU;rw [NO];have:=OM (λz=>decide (z∈ps.map (·.nm))) p.ms;omega
       refine⟨by rw [NO];omega,cZ (λz=>aK z p.key) cu (λz hz R S h=>?_) ?_⟩
       ·walk_at "d";refine⟨_,_,rfl,_,ap,_,rfl,_,dG,z,rfl,p.key,rfl,h⟩
       ·rw [CD gp.nd h1 h2 (Fc (mnd p hp))];refine⟨_,_,rfl,_,ap,_,rfl,_,dG,_,_,rfl,_,ap,_,rfl,_,g9,?_⟩;have mkl:=tW (c:=p) gp;have pl:=gp.ln;refine⟨by rw [NO,NO];omega,cZ (λ_=>true) (λz:Int×Str=>.str z.2) (λz hz R S h=>?_) ?_⟩
        ·simp only [cu];walk_at "d";rw [U4 rfl] at h;exact h
        ·rw [pT,Oe];refine⟨by rw [NO,OQ];omega,?_,_,rfl⟩;have tk:ps.take (i+1)=ps.take i++[p]:=by rw [Pb,hz'];rfl
         rw [tk,OJ,E8]
         ·congr 2;show(_,_)=(_,_);unfold l8;rw [Oe];rfl
         ·rw [Oe];intro hin;obtain⟨m,hm,e⟩:=N6.mp hin;have e:m.nm=p.nm:=SR e;have nd:=gp.nd;obtain⟨li,ei⟩:=N7.mp hz';rw [QV,OX] at nd;obtain⟨j,hj,ej⟩:=RR hm;rw [OQ] at hj;rw [List.getElem_take] at ej;have:=Qa.mp nd j i U2 li U2;rw [ej,ei] at this;exact this e
   ·rintro δ ⟨o3,o4,o5,rfl⟩;walk_at "d";refine⟨ps.map (·.nm),?_,?_⟩
    ·rw [NO,NO,OD (NV _),Oe,Oe];rfl
    ·rw [NO,NO,OD (NV _),Oe];exact q
end
local macro_rules | `(tactic| walk_at "g") =>rzT (rzS++" ph pj iM pA jr pB pC pz pE rj rn rq ne_eq qZ q5 rf rg rh qY jN jO mZ jf mS mR mQ g7 eV eJ iY jD ix NS OS Og Pf Oa Pz O4 Oi Qi Qj Rh Ri Rj PY Px Qy Qo Qp P0 exists_eq_left' exists_eq_left exists_and_left exists_and_right QE QF Sl.v.injEq Sl.o.injEq Sl.k.injEq QD Ry PV PX QO ON and_true true_and Rk RI exists_const decide_eq_true_eq Rl Rm Q1 Q2 PZ decide_eq_false_iff_not and_assoc or_true true_or ↓reduceIte if_true if_false Pq Qq not_true_eq_false not_false_eq_true RD Rt ite_true ite_false eq_self exists_eq reduceCtorEq false_and and_false or_false false_or exists_false Q9 Ra jI R6 SD PB SE R7 QY Qh Q0 eX dG k7 g9 nM fQ hG nO beq_self_eq_true fF qQ nN dB sizeLine_eq K17.kw_keep_gone K17.kw_keep_while K17.kw_keep_follow K17.kw_keep_leave K17.kw_gone_keep K17.kw_gone_while K17.kw_gone_follow K17.kw_gone_leave K17.kw_while_keep K17.kw_while_gone K17.kw_while_follow K17.kw_follow_keep K17.kw_follow_gone K17.kw_follow_while K17.kw_leave_keep K17.kw_leave_gone K17.kw_leave_while K17.kw_leave_follow")
theorem Fd:bj (ar pP) ["_law_deeds_here","_law_day_here","_law_name","_law_gone","_law_coming","_law_kind","_law_elders","_law_away","_law_here","_law_stay","_law_leave","_law_deed_here","_law_word","_law_till"] ["_law_one","_law_gone","_law_day_here"] 1 [3,1] ⟨NZ,[ (NN ".0",Wx),(NN "_law_one",Wx),(NN "_law_day_here",NY),(NN "_law_gone",NY)],false,false,[]⟩:= .of
theorem Fe:bj (ar pP) ["_law_deeds_here","_law_day_here","_law_name","_law_gone","_law_coming","_law_kind","_law_elders","_law_away","_law_here","_law_stay","_law_leave","_law_deed_here","_law_word","_law_till"] ["_law_one","_law_away"] 1 [7] ⟨NZ,[ (NN ".0",Wx),(NN "_law_one",Wx),(NN "_law_away",NY)],false,false,[]⟩:= .of
theorem cK{a b c:DS}{E:eT}{δ:Dl}(h:∀R,R=fx b c->a {E with nx:=λδ'=>R E δ'} δ):fx a (fx b c) E δ:=h _ rfl
theorem iV{a b:DS}{E:eT}{δ:Dl}(h:∀R,R=b->a {E with nx:=λδ'=>R E δ'} δ):fx a b E δ:=h _ rfl
section
theorem Fg{r:Rp}{n:Int}(L M:List (Str×Pt)):cN r n (L++M)=cN r n L++cN r n M:=by
 unfold cN;split
 ·rfl
 ·rw [List.filter_append]
theorem MY{r:Rp}{n:Int}{g:Gn}(L M:List (Str×Pt)):eF r n g (L++M)=eF r n g L++eF r n g M:=by unfold eF;rw [Fg,Q4]
theorem MZ{r:Rp}{n:Int}{g:Gn}(L M:List (Str×Pt)):eI r n g (L++M)=eI r n g L++eI r n g M:=by unfold eI;rw [Fg,Q4]
theorem Fh{r:Rp}{n:Int}{z:Str×Pt}(h:r.c.d<=n)(hk:z.2.kd=r.c.kd):cN r n [z]=[z]:=by
 unfold cN;rw [U3 U2,O5,U4 (by rw [hk];exact beq_self_eq_true _)];rfl
theorem Fi{r:Rp}{n:Int}{z:Str×Pt}(h:¬(r.c.d<=n/\z.2.kd=r.c.kd)):cN r n [z]=[]:=by
 unfold cN;split
 ·rfl
 ·rename_i h1;rw [O5,U3 (λe=>h ⟨U2,eq_of_beq e⟩)];rfl
theorem xY{r:Rp}{n:Int}{g:Gn}{nm w kd:Str}:(iQ r n g (nm,.two w kd)).map aU=if w=NL "while" then((dX r n g).head?.map λm=>N3 [.str nm,.str m]).toList else []:=by
 show(((if w=NL "while" then(dX r n g).head?.map NP else none:Option U7).map λb=>(nm,b)).toList).map aU=_;split
 ·cases (dX r n g).head? <;> rfl
 ·rfl
theorem xZ{r:Rp}{n:Int}{g:Gn}{nm w kd:Str}:(iR r n g (nm,.two w kd)).map aU=if w=NL "follow" then((dY r n g).head?.map λm=>N3 [.str nm,.str m]).toList else []:=by
 show(((if w=NL "follow" then(dY r n g).head?.map NP else none:Option U7).map λb=>(nm,b)).toList).map aU=_;split
 ·cases (dY r n g).head? <;> rfl
 ·rfl
theorem Fj{r:Rp}{n:Int}{g:Gn}{nm w kd:Str}{s:cC}{k:Int}{u:Str}:(iQ r n g (nm,.five w kd s k u)).map aU=if w=NL "keep"/\dz n (bX r n (.five w kd s k u))=true then [N3 [.str nm,bW (bX r n (.five w kd s k u))]] else []:=by
 show(((if w=NL "keep"/\dz n (bX r n (.five w kd s k u))=true then some (bW (bX r n (.five w kd s k u))) else none:Option U7).map λb=>(nm,b)).toList).map aU=_;split <;> rfl
theorem Fl{r:Rp}{n:Int}{g:Gn}{nm w kd:Str}{s:cC}{k:Int}{u:Str}:(iR r n g (nm,.five w kd s k u)).map aU=if w=NL "gone"/\dz n (bX r n (.five w kd s k u))=false then [N3 [.str nm,bW (bX r n (.five w kd s k u))]] else []:=by
 show(((if w=NL "gone"/\dz n (bX r n (.five w kd s k u))=false then some (bW (bX r n (.five w kd s k u))) else none:Option U7).map λb=>(nm,b)).toList).map aU=_;split <;> rfl
theorem M3{r:Rp}{n:Int}{g:Gn}{nm kd:Str}{s:cC}{k:Int}{u:Str}:(iQ r n g (nm,.five (NL "keep") kd s k u)).map aU=if dz n (bX r n (.five (NL "keep") kd s k u))=true then [N3 [.str nm,bW (bX r n (.five (NL "keep") kd s k u))]] else []:=by
 rw [Fj];by_cases h:dz n (bX r n (.five (NL "keep") kd s k u))=true
 ·rw [U4 ⟨rfl,h⟩,U4 h]
 ·rw [U3 λz=>h z.2,U3 h]
theorem M4{r:Rp}{n:Int}{g:Gn}{nm kd:Str}{s:cC}{k:Int}{u:Str}:(iR r n g (nm,.five (NL "keep") kd s k u)).map aU=[]:=by
 rw [Fl,U3 λz=>absurd z.1 U0]
theorem M5{r:Rp}{n:Int}{g:Gn}{nm kd:Str}{s:cC}{k:Int}{u:Str}:(iQ r n g (nm,.five (NL "gone") kd s k u)).map aU=[]:=by
 rw [Fj,U3 λz=>absurd z.1 U0]
theorem M6{r:Rp}{n:Int}{g:Gn}{nm kd:Str}{s:cC}{k:Int}{u:Str}:(iR r n g (nm,.five (NL "gone") kd s k u)).map aU=if dz n (bX r n (.five (NL "gone") kd s k u))=false then [N3 [.str nm,bW (bX r n (.five (NL "gone") kd s k u))]] else []:=by
 rw [Fl];by_cases h:dz n (bX r n (.five (NL "gone") kd s k u))=false
 ·rw [U4 ⟨rfl,h⟩,U4 h]
 ·rw [U3 λz=>h z.2,U3 h]
theorem Fm{l:List Str}(hl:∀m∈l,N0 m=true){A:List U7}{nm:Str}(ha:A.length<=41){C:List U7->Prop}(q:C (A++(l.head?.map λm=>N3 [.str nm,.str m]).toList)):
 OP (Ow (l.map λm=>NP m))=true/\OP (Ow [])=true/\if (Ow (l.map λm=>NP m)).eqv (Ow [])=false then ∃x,atI (l.map λm=>NP m) 0=some x/\A.length < 16777216/\C (A++[N3 [NP nm,x]]) else C A:=by
 refine⟨(E1 (n:=1) λd hd=>by obtain⟨m,hm,rfl⟩:=N6.mp hd;exact bO (hl m hm)).shp U1,U0,?_⟩;cases l with
 | nil=>
  rw [U3 (by simp [N4,PD])];simpa using q
 | cons m l=>
  rw [U4 (by simp [N4,PD])];exact⟨_,eX,U2,q⟩
theorem Fo{r:Rp}{n:Int}{g:Gn}(L:List (Str×Pt)):(eF r n g L).length<=L.length:=by
 unfold eF;refine Ot (t6 (λz=>xI _) _) ?_;unfold cN;split
 ·simp
 ·exact OM _ _
theorem Fp{r:Rp}{n:Int}{g:Gn}(L:List (Str×Pt)):(eI r n g L).length<=L.length:=by
 unfold eI;refine Ot (t6 (λz=>xI _) _) ?_;unfold cN;split
 ·simp
 ·exact OM _ _
end
section
variable {P:Vj} {w:Vm} {K:NM} {mg:Str->Option U8} {base:Vl} {t:cM}
def ue(xs:List De)(n:Int)(c:Pp)(g:Gn)(S G:List U7)(o11 o12 o13:Option Sl):Dl:=[some (Sl.v (N3 (Od De.enc xs))),some (Sl.v (NQ n)),some (Sl.v (NP c.nm)),some (Sl.v g.enc),some (Sl.v (NQ c.d)),some (Sl.v (NP c.kd)),some (Sl.v (Ow (Od NP (Od (λx=>x.nm) (cY (aN xs) c))))),some (Sl.v (Ow ((dY (bw xs c) n g).map λm=>NP m))),some (Sl.v (Ow ((dX (bw xs c) n g).map λm=>NP m))),some (Sl.o S),some (Sl.o G),o11,o12,o13]
def M7:List U7->(U7->Prop)->Prop:=λds Q=>∃(xs:List De)(n:Int)(c:Pp)(g:Gn),ds=[.tuple (xs.map De.enc),.int n,.str c.nm,g.enc]/\iT xs/\R5 xs/\c∈aN xs/\Q (.tuple [.tuple ((jx xs n c g).map aU),.tuple ((jy xs n c g).map aU)])
theorem M8(T:Txt K mg t):ay P w K mg base aH 5 t.a_s t.d_s ["_law_deeds_here","_law_day_here","_law_name","_law_gone"] (bo K M7):=by
 have G_p:=@uc P w _ _ base _ T;have G_q:=@ET P w _ _ base _ T;have G_r:=@MV P w _ _ base _ T;refine T.F_s.F.okD hX (λds Q h=>?_) (λ_ _ _ _ H O ds Q E hr h=>?_)
 ·obtain⟨xs,n,c,g,rfl,_⟩:=h;rfl
 ·obtain⟨xs,n,c,g,rfl,gl,r5,hc,q⟩:=h;refine'⟨_,?A,?B⟩
  case A=>
   refine' aq ?C ?D
   case C=>exact(vE (jo hr.units (ax G_p hr T.F_p (aa (dv 0) ah)) (dv 2) (λ_ _=>rfl)) (iw (n:=3) rfl (dA (aS (i:=4) hX.nd rfl U5) (dA (aS (i:=5) hX.nd rfl U5) (dA (aS (i:=6) hX.nd rfl U5) iu)))) (jh (d7 aW (d7 aW (d7 aW jg)))))
   case' D=>refine' aq ?E ?F
   case E=>exact(bH (i:=7) hX.nd rfl U5 (fe (fP rfl Fd (df (dv 6)) aW cz U1 (λ_ _ _ _=>(aS (i:=0) Fd.nd rfl U5)) (λ_ _ _ _=>(di (PW.pt (dE (CL hr.units (dv 1) (dv 0)) (d6 (aG gn dF (jo hr.units (dv 1) (dv 0) (λ_ _=>rfl)) (dv 2) (az _))))))) (λ_ _ _ _=>(dv 0)))))
   case' F=>refine' aq ?G ?H
   case G=>exact(iJ (i:=8) hX.nd rfl U5 (nU rfl Fe (df (dv 6)) aW cz U1 (λ_ _ _ _=>(aS (i:=0) Fe.nd rfl U5)) (λ_ _ _ _=>(di (aG (BM hr) nX (dv 0) (dv 1) rfl))) (λ_ _ _ _=>(dv 0))))
   case' H=>refine' aq ?I ?J
   case I=>exact(Kw (i:=9) (j:=10) rfl hX.nd rfl rfl U1 rfl rfl (by rfl))
   case' J=>refine' aq ?K ?L
   case K=>
    refine' kN OO rfl (ax G_q hr T.F_q (aa (dv 0) (aa (dv 1) (aa aQ (aa aQ ah))))) ?M aW ?N
    case M=>exact(aS (i:=11) hX.nd rfl U5)
    case' N=>refine' au ?O
    case' O=>refine' bC ?P ?Q bB
    case P=>exact(PW.pt (dE (aG gn dF (dv 4) (dv 1) (az _)) (d6 (aG (cn hr.units) cq (av aC aD (av aC aD (dv 11) ag) ag) (dv 5) (az _)))))
    case' Q=>refine' aq ?R ?S
    case R=>exact(kK (i:=12) (j:=13) rfl hX.nd rfl rfl U1 rfl rfl (aa (av aC aD (av aC aD (dv 11) ag) ag) (aa fv ah)) (by rfl))
    case' S=>refine' aq ?T ?U
    case T=>
     refine' bC ?V ?W bB
     case V=>exact(aG (vT hr) vU (dv 12) (bE (aa aQ (aa aQ ah))) rfl)
     case' W=>refine' au ?X
     case' X=>refine' bH (i:=13) hX.nd rfl U5 ?Y (hs:=iK)
     case Y=>exact(ax G_r hr T.F_r (aa (dv 0) (aa (av aC aD (dv 11) ag) (aa (dv 2) (aa (dv 1) (aa (dv 4) ah))))))
    case' U=>refine' aq ?Z ?a
    case Z=>
     refine' bC ?b ?c bB
     case b=>exact(PW.pt (dE (aG (cF hr) cG (dv 12) aQ (az _)) (d6 (PW.pt (jc (aG kj lB (dv 13) fv (az _)) (jb (aG i3 dF (dv 13) (dv 1) (az _))))))))
     case' c=>refine' au ?d
     case' d=>refine' iB (i:=9) (pv 9) ?e
     case e=>exact(bE (aa (av aC aD (dv 11) ag) (aa (dv 13) ah)))
    case' a=>refine' aq ?f ?g
    case f=>
     refine' bC ?h ?i bB
     case h=>exact(PW.pt (dE (aG (cF hr) cG (dv 12) aQ (az _)) (dE (aG uV vX (dv 13) fv (az _)) (d6 (aG gn dF (dv 13) (dv 1) (az _))))))
     case' i=>refine' au ?j
     case' j=>refine' iB (i:=10) (pv 10) ?k
     case k=>exact(bE (aa (av aC aD (dv 11) ag) (aa (dv 13) ah)))
    case' g=>refine' aq ?l ?m
    case l=>
     refine' bC ?n ?o bB
     case n=>exact(PW.pt (dE (aG (cF hr) cG (dv 12) aQ (az _)) (d6 (aG (kQ hr.units) kU (dv 8) (fe (cy ah)) (az _)))))
     case' o=>refine' au ?p
     case' p=>refine' iB (i:=9) (pv 9) ?q
     case' q=>refine' bE ?r
     case' r=>refine' aa ?s ?t
     case s=>exact(av aC aD (dv 11) ag)
     case' t=>refine' aa ?u ah
     case u=>exact(av bQ bZ (dv 8) ag)
    case' m=>refine' au ?v
    case' v=>refine' bC ?w ?x bB
    case w=>exact(PW.pt (dE (aG (cF hr) cG (dv 12) aQ (az _)) (d6 (aG (kQ hr.units) kU (dv 7) (fe (cy ah)) (az _)))))
    case' x=>refine' au ?y
    case' y=>refine' iB (i:=10) (pv 10) ?z
    case' z=>refine' bE ?A0
    case' A0=>refine' aa ?A1 ?A2
    case A1=>exact(av aC aD (dv 11) ag)
    case' A2=>refine' aa ?A3 ah
    case A3=>exact(av bQ bZ (dv 7) ag)
   case' L=>refine' au ?A4
   case' A4=>refine' aJ ?A5
   case' A5=>refine' bE ?A6
   case' A6=>refine' aa ?A7 ?A8
   case A7=>exact(PE.imp (eR iz rfl T.n_tuple gA (jd (dw 9) br)) (bJ iG))
   case' A8=>refine' aa ?A9 ah
   case A9=>exact(PE.imp (eR iz rfl T.n_tuple gA (jd (dw 10) br)) (bJ iG))
  case B=>
  clear hr T G_p G_q G_r;have gd:=gl.good;walk_at "d";have aw:=l9 (f:=l8 (aN xs)) gd.gx.gp.nd hc;refine⟨xs,rfl,gl,_,_,rfl,_,aw,_,rfl,rfl,_,_,rfl,_,_,rfl,_,_,rfl,rfl,?_⟩;have mkl:=tW (c:=c) gd.gx.gp;have tok:∀m∈(cY (aN xs) c).map (·.nm),N0 m=true:=λm hm=>by
   obtain⟨p,hp,rfl⟩:=N6.mp hm;exact gd.gx.gp.nm p (tV.mp (Oh.mp hp).1)
  have lm:(Od NP (Od (λx=>x.nm) (cY (aN xs) c))).length<=16777216:=by rw [NO,NO];omega
  refine⟨_,rfl,lm,cZ (λm=>g.has n m) (λm=>.str m) (λm hm R S h=>?_) ?_⟩
  ·simp only [Gn.enc];walk_at "d";refine⟨_,_,rfl,?_⟩;rw [t5];have eh:g.has n m=match j2 g.ks g.gs m with | some d=>decide (d<=n) | none=>false:=rfl
   rw [eh] at h;cases ha:j2 g.ks g.gs m with
   | none=>
    rw [ha] at h;rw [U3 U6];rw [U3 U6] at h;exact h
   | some d=>
    rw [ha] at h;rw [U4 (by rfl)];refine⟨_,_,rfl,.int d,by rw [t5,ha];rfl,_,rfl,?_⟩;simpa using h
  ·refine⟨_,rfl,lm,cZ (λm=>!g.has n m) (λm=>.str m) (λm hm R S h=>?_) ?_⟩
   ·walk_at "d";have e1:((Od (λm=>NP m) (T9 (λm=>g.has n m) (Od (λx=>x.nm) (cY (aN xs) c)))).any λd=>d.eqv (NP m))=g.has n m:=by
     rw [show(λm=>NP m)=NP from rfl,D6];cases hh:g.has n m with
     | true=>exact decide_eq_true (Oh.mpr ⟨hm,hh⟩)
     | false=>exact decide_eq_false λz=>by rw [(Oh.mp z).2] at hh;cases hh
    refine⟨cW.mpr (tok m hm),?_,?_⟩
    ·exact DY λz hz=>tok z (Oh.mp hz).1
    ·rw [e1];simpa using h
   ·refine⟨xs,n,rfl,gd,λL hL h41 hR=>⟨_,rfl,?_⟩⟩;have ok:=p7 gd hR h41;have er:(bw xs c).ts=(cY (aN xs) c).map (·.nm):=rfl;have ea:((cY (aN xs) c).map (·.nm)).filter (λm=>g.has n m)=dY (bw xs c) n g:=rfl;have el:((cY (aN xs) c).map (·.nm)).filter (λm=>!g.has n m)=dX (bw xs c) n g:=rfl;rw [ea,el];have q:Q (.tuple [.tuple ((eF (bw xs c) n g (bI xs n)).map aU),.tuple ((eI (bw xs c) n g (bI xs n)).map aU)]):=q;have lok:∀m∈dX (bw xs c) n g,N0 m=true:=λm hm=>tok m (Oh.mp hm).1;have aok:∀m∈dY (bw xs c) n g,N0 m=true:=λm hm=>tok m (Oh.mp hm).1;obtain⟨SA,sa0,sas,sal,sae⟩:∃SA:Nat->List U7,SA 0=[]/\(∀i z,(bI xs n)[i]?=some z->SA (i+1)=SA i++(eF (bw xs c) n g [z]).map aU)/\(∀i,(SA i).length<=41)/\SA (bI xs n).length=(eF (bw xs c) n g (bI xs n)).map aU:=by
     refine⟨λi=>(eF (bw xs c) n g ((bI xs n).take i)).map aU,?_,λi z hz=>?_,λi=>?_,by show Od aU _=_;rw [OD (NV _)]⟩
     ·show Od aU _=_;rw [RV];unfold eF cN;split <;> rfl
     ·show Od aU _=Od aU _++_;rw [Pb,hz,MY,OJ];rfl
     ·show(Od aU _).length<=41;have:=Fo (r:=bw xs c) (n:=n) (g:=g) ((bI xs n).take i);rw [OQ] at this;rw [NO];omega
    obtain⟨GA,ga0,gas,gal,gae⟩:∃GA:Nat->List U7,GA 0=[]/\(∀i z,(bI xs n)[i]?=some z->GA (i+1)=GA i++(eI (bw xs c) n g [z]).map aU)/\(∀i,(GA i).length<=41)/\GA (bI xs n).length=(eI (bw xs c) n g (bI xs n)).map aU:=by
     refine⟨λi=>(eI (bw xs c) n g ((bI xs n).take i)).map aU,?_,λi z hz=>?_,λi=>?_,by show Od aU _=_;rw [OD (NV _)]⟩
     ·show Od aU _=_;rw [RV];unfold eI cN;split <;> rfl
     ·show Od aU _=Od aU _++_;rw [Pb,hz,MZ,OJ];rfl
     ·show(Od aU _).length<=41;have:=Fp (r:=bw xs c) (n:=n) (g:=g) ((bI xs n).take i);rw [OQ] at this;rw [NO];omega
    refine⟨λi δ=>∃o11 o12 o13:Option Sl,δ=ue xs n c g (SA i) (GA i) o11 o12 o13,⟨_,_,_,by rw [sa0,ga0];rfl⟩,?_,?_⟩
    ·rintro i z δ hz ⟨o11,o12,o13,rfl⟩;rw [Ob] at hz;cases hz':L[i]? with
     | none=>rw [hz'] at hz;cases hz
     | some y=>
      rw [hz'] at hz;cases hz;obtain⟨dd,nm,pt⟩:=y;have hr':(bI xs n)[i]?=some (nm,pt):=by rw [<-hL,Ob,hz'];rfl
      have xo:=ok.2 _ (Oq hr');have sl:=sal i;have gl2:=gal i;have sas:=sas i _ hr';have gas:=gas i _ hr';simp only [l4];have w5:W5 pt.wd:=by
       obtain⟨d,_,hm,_⟩:=(hR.2 _).mp (Oq hr');exact r5 _ _ _ hm
      have kok:N0 pt.kd=true:=Pt.kdOk xo;have cok:=gd.gx.gp.kd c hc;have e0:¬(c.d<=n/\pt.kd=c.kd)->SA i=SA (i+1)/\GA i=GA (i+1):=λh=>by
       have e1:eF (bw xs c) n g [(nm,pt)]=[]:=by unfold eF;rw [Fi (r:=bw xs c) h];rfl
       have e2:eI (bw xs c) n g [(nm,pt)]=[]:=by unfold eI;rw [Fi (r:=bw xs c) h];rfl
       rw [sas,gas,e1,e2];simp
      have e1:c.d<=n/\pt.kd=c.kd->SA (i+1)=SA i++(iQ (bw xs c) n g (nm,pt)).map aU/\GA (i+1)=GA i++(iR (bw xs c) n g (nm,pt)).map aU:=λh=>by
       have e1:eF (bw xs c) n g [(nm,pt)]=iQ (bw xs c) n g (nm,pt):=by unfold eF;rw [Fh h.1 h.2];simp
       have e2:eI (bw xs c) n g [(nm,pt)]=iR (bw xs c) n g (nm,pt):=by unfold eI;rw [Fh h.1 h.2];simp
       rw [sas,gas,e1,e2];exact⟨rfl,rfl⟩
      clear sas gas;generalize hE:eT.mk _ _ _ _=EE;have hnx:∀o11 o12 o13,EE.nx (ue xs n c g (SA (i+1)) (GA (i+1)) o11 o12 o13):=λo11 o12 o13=>by subst hE;exact⟨o11,o12,o13,rfl⟩
      clear hE;simp only [ue] at hnx⊢;generalize SA (i+1)=SA1 at*;generalize GA (i+1)=GA1 at*;generalize SA i=SA0 at*;generalize GA i=GA0 at*;cases pt with
      | two w2 kd=>
       simp only [Pt.enc];generalize hB:fx (jM 12 13 _) _=TB;walk_at "d";by_cases h1:c.d<=n
       ·rw [U4 h1];refine⟨cW.mpr kok,cW.mpr cok,?_⟩;by_cases hk:kd=c.kd
        ·obtain⟨rfl,rfl⟩:=e1 ⟨h1,hk⟩;rw [U4 (by rw [hk];exact beq_self_eq_true _)];subst hB;have w5:W5 w2:=w5;rcases w5 with e | e | e | e | e
         ·exact absurd (.inl e) xo.1
         ·exact absurd (.inr e) xo.1
         ·subst e;rw [xY,xZ,U4 rfl,U3 U0,Oi] at hnx;refine cK λR hR=>?_;walk_at "g";subst hR;refine cK λR hR=>?_;walk_at "g";subst hR;refine cK λR hR=>?_;walk_at "g";subst hR;refine cK λR hR=>?_;walk_at "g";subst hR;refine iV λR hR=>?_;walk_at "g";refine Fm lok sl (C:=λZ=>R EE [_,_,_,_,_,_,_,_,_,some (Sl.o Z),_,_,_,_]) ?_;subst hR;walk_at "g";exact hnx _ _ _
         ·subst e;rw [xY,xZ,U3 U0,U4 rfl,Oi] at hnx;refine cK λR hR=>?_;walk_at "g";subst hR;refine cK λR hR=>?_;walk_at "g";subst hR;refine cK λR hR=>?_;walk_at "g";subst hR;refine cK λR hR=>?_;walk_at "g";subst hR;refine iV λR hR=>?_;walk_at "g";subst hR;walk_at "g";exact Fm aok gl2 (C:=λZ=>EE.nx [_,_,_,_,_,_,_,_,_,_,some (Sl.o Z),_,_,_]) (hnx _ _ _)
         ·subst e;rw [xY,xZ,U3 U0,U3 U0,Oi,Oi] at hnx;refine cK λR hR=>?_;walk_at "g";subst hR;refine cK λR hR=>?_;walk_at "g";subst hR;refine cK λR hR=>?_;walk_at "g";subst hR;refine cK λR hR=>?_;walk_at "g";subst hR;refine iV λR hR=>?_;walk_at "g";subst hR;walk_at "g";exact hnx _ _ _
        ·obtain⟨rfl,rfl⟩:=e0 λz=>hk z.2;rw [cg hk,U3 NW];exact hnx _ _ _
       ·obtain⟨rfl,rfl⟩:=e0 λz=>h1 z.1;rw [U3 h1];exact hnx _ _ _
      | five w2 kd si k u=>
       simp only [Pt.enc];generalize hB:fx (jM 12 13 _) _=TB;walk_at "d";by_cases h1:c.d<=n
       ·rw [U4 h1];refine⟨cW.mpr kok,cW.mpr cok,?_⟩;by_cases hk:kd=c.kd
        ·obtain⟨rfl,rfl⟩:=e1 ⟨h1,hk⟩;rw [U4 (by rw [hk];exact beq_self_eq_true _)];subst hB;rcases xo.1 with e | e
         ·have e:w2=NL "keep":=e;subst e;rw [M3,M4,Oi] at hnx;refine cK λR hR=>?_;walk_at "g";subst hR;refine cK λR hR=>?_;walk_at "g";refine⟨xs,c,_,kd,si,k,u,n,rfl,gd,hc,xo.2.2.1,xo.2.2.2.2.2,?_⟩;subst hR;generalize bX (bw xs c) n (Pt.five (NL "keep") kd si k u)=ob at hnx⊢;cases ob with
          | none=>
           simp only [bW];refine cK λR hR=>?_;walk_at "g";simp only [cS,↓reduceIte];refine⟨U2,?_⟩;subst hR;refine cK λR hR=>?_;walk_at "g";subst hR;refine iV λR hR=>?_;walk_at "g";subst hR;walk_at "g";exact hnx _ _ _
          | some d=>
           simp only [bW];refine cK λR hR=>?_;walk_at "g";simp only [cS,Pq,↓reduceIte];by_cases hd:n < d
           ·rw [U4 (show dz n (some d)=true from decide_eq_true hd)] at hnx;rw [U4 hd];refine⟨U2,?_⟩;subst hR;refine cK λR hR=>?_;walk_at "g";subst hR;refine iV λR hR=>?_;walk_at "g";subst hR;walk_at "g";exact hnx _ _ _
           ·rw [U3 (show ¬dz n (some d)=true from λz=>hd (of_decide_eq_true z)),Oi] at hnx;rw [U3 hd];subst hR;refine cK λR hR=>?_;walk_at "g";subst hR;refine iV λR hR=>?_;walk_at "g";subst hR;walk_at "g";exact hnx _ _ _
         ·have e:w2=NL "gone":=e;subst e;rw [M5,M6,Oi] at hnx;refine cK λR hR=>?_;walk_at "g";subst hR;refine cK λR hR=>?_;walk_at "g";refine⟨xs,c,_,kd,si,k,u,n,rfl,gd,hc,xo.2.2.1,xo.2.2.2.2.2,?_⟩;subst hR;generalize bX (bw xs c) n (Pt.five (NL "gone") kd si k u)=ob at hnx⊢;refine cK λR hR=>?_;walk_at "g";subst hR;cases ob with
          | none=>
           rw [U3 (by simp [dz]),Oi] at hnx;simp only [bW];refine cK λR hR=>?_;walk_at "g";simp only [cS,Qq,↓reduceIte];subst hR;refine iV λR hR=>?_;walk_at "g";subst hR;walk_at "g";exact hnx _ _ _
          | some d=>
           simp only [bW];refine cK λR hR=>?_;walk_at "g";simp only [cS,↓reduceIte];by_cases hd:d<=n
           ·rw [U4 (show dz n (some d)=false from decide_eq_false U2)] at hnx;rw [U4 hd];refine⟨U2,?_⟩;subst hR;refine iV λR hR=>?_;walk_at "g";subst hR;walk_at "g";exact hnx _ _ _
           ·rw [U3 (show ¬dz n (some d)=false from λz=>of_decide_eq_false z U2),Oi] at hnx;rw [U3 hd];subst hR;refine iV λR hR=>?_;walk_at "g";subst hR;walk_at "g";exact hnx _ _ _
        ·obtain⟨rfl,rfl⟩:=e0 λz=>hk z.2;rw [cg hk,U3 NW];exact hnx _ _ _
       ·obtain⟨rfl,rfl⟩:=e0 λz=>h1 z.1;rw [U3 h1];exact hnx _ _ _
    ·rintro δ ⟨o11,o12,o13,rfl⟩;simp only [ue];walk_at "d";have e:(L.map l4).length=(bI xs n).length:=by rw [<-hL,NO,NO]
     rw [e,sae,gae]
     first | exact q | exact⟨_,.inl rfl,_,.inl rfl,q⟩ | (trace_state;skip)
end
local macro_rules | `(tactic| walk_at "h") =>rzT "uB uA uE uD uC kh gf fh tC jC uQ rI fM rU uS uT iZ uW tB uj uk um uo ur uu uz kq u5 uZ mw u7 va mh ke mf uG uI A1 A2 A3 A4 A5 A6 A7 A8 iY jD ix L2.start NS OS Og Pf Oa Pz O4 Oi Qi Qj Rh Ri Rj PY Px Qo Qp P0 exists_eq_left' exists_eq_left exists_and_left exists_and_right V.int.injEq V.bl.injEq V.str.injEq V.ref.injEq ON and_true true_and Rk exists_const decide_eq_true_eq Rl Rm Q1 Q2 PZ decide_eq_false_iff_not and_assoc bS QE Qy QF L2.cxK L2.cmK or_true true_or if_true if_false Pq Qq not_true_eq_false not_false_eq_true RD Rt ite_true ite_false eq_self Bb L2.E0 exists_eq forall_eq'"
theorem M9:bj (ar pQ) ["_law_deeds_here","_law_day_here","_law_thing","_law_asked"] ["_law_one","_law_asked","_law_deeds_here","_law_day_here"] 1 [3,0,1] ⟨NZ,[ (NN "_law_one",Wx),(NN "_law_asked",NY),(NN "_law_day_here",NY),(NN "_law_deeds_here",NY)],false,false,[]⟩:= .of
theorem Na:bj (ar pQ) ["_law_deeds_here","_law_day_here","_law_thing","_law_asked"] ["_law_one","_law_deeds_here","_law_day_here"] 1 [0,1] ⟨NZ,[ (NN "_law_one",Wx),(NN "_law_day_here",NY),(NN "_law_deeds_here",NY),(NN "needs_leave",OI)],false,false,[]⟩:= .of
section
variable {P:Vj} {w:Vm} {K:NM} {mg:Str->Option U8} {base:Vl} {t:cM}
def j5(xs:List De)(d:U7):Prop:=cB d=true/\∀p∈aN xs,(NP p.nm).eqv d=false
def Fq:DX:=λds _ R=>∃(xs:List De)(d:U7),ds=[.tuple (xs.map De.enc),d]/\eO xs/\j5 xs d/\R
theorem Fs(T:Txt K mg t):ay P w K mg base (aL P w) 1 t.a_L t.d_L ["deeds","paper"] (fH K t.u_NoPaper Fq):=by
 refine T.F_L.F.okDX tM (λds Q R h=>?_) (λcdv A outer s H O ds Q R E hr h hx=>?_)
 ·obtain⟨xs,d,rfl,_⟩:=h;rfl
 ·obtain⟨xs,d,rfl,g,⟨ht,hn⟩,r⟩:=h;refine'⟨_,?A,?B⟩
  case A=>
   refine' aq ?C ?D
   case C=>
    refine' qN PassesOwn.leaving rfl (dv 0) ?E aW ?F
    case E=>exact(aS (i:=2) tM.nd rfl U5)
    case' F=>refine' au ?G
    case' G=>refine' bC ?H ?I bB
    case H=>exact(PW.pt (dE (aG (cF hr) cG (av aC aD (dv 2) ag) aQ (az _)) (d6 (aG (KO hr) KQ (av aC aD (dv 2) ag) (dv 1) (az _)))))
    case' I=>refine' au ?J
    case J=>exact(aJ (dv 2))
   case' D=>refine' au ?K
   case K=>exact(KL hx T.c_NoPaper T.q_NoPaper PySem.F.excBase_ValueError (aa aQ ah))
  case B=>
  clear hr T hx;walk_at "d";refine⟨λi δ=>∃o2,δ=[some (Sl.v (N3 (Od De.enc xs))),some (Sl.v d),o2],⟨_,rfl⟩,?_,?_⟩
  ·rintro i z δ hz ⟨o2,rfl⟩;rw [Ob] at hz;cases hz':xs[i]? with
   | none=>rw [hz'] at hz;cases hz
   | some x=>
    rw [hz'] at hz;cases hz;have hx:=Oq hz';cases x with
    | pap p=>
     simp only [De.enc,Pp.enc];walk_at "d";rw [hn p (lU.mpr hx)];exact⟨ht,_,rfl⟩
    | oth wo n nm l=>
     simp only [De.enc];walk_at "d";rw [cg (g.np _ _ _ _ hx),U3 NW];exact⟨_,rfl⟩
  ·rintro δ ⟨o2,rfl⟩;walk_at "d";exact r
def Nb:DX:=λds _ R=>∃(xs:List De)(d:U7),ds=[.tuple (xs.map De.enc),d]/\eO xs/\j5 xs d/\R
theorem Ft(T:Txt K mg t):ay P w K mg base (aL P w) 7 t.a_I t.d_I ["self","deeds","name"] (sT K t.u_Paper t.u_NoPaper Nb):=by
 have G_L:=@Fs P w _ _ base _ T;refine T.F_I.F.okIX tL (λds Q R h=>?_) (λcdv A outer s H H1 O ds R E l hr h hx=>?_)
 ·obtain⟨xs,d,rfl,_⟩:=h;rfl
 ·obtain⟨xs,d,rfl,h⟩:=h;refine'⟨_,?A,?B⟩
  case A=>
   refine' aq ?C ?D
   case C=>exact(bH (i:=3) tL.nd rfl U5 (KW hx G_L hr T.F_L (aa (dv 1) (aa (dv 2) ah))))
   case' D=>refine' aq lz ?E
   case' E=>refine' aq lz ?F
   case' F=>refine' aq lz ?G
   case' G=>refine' aq lz ?H
   case H=>refine' au lz
  case B=>
  clear hr T hx G_L;simp only [oW,Uw];walk_at "d";exact⟨xs,d,rfl,h⟩
theorem Nc(T:Txt K mg t):ay P w K mg base (aL P w) 2 t.a_M t.d_M ["deeds","paper"] (fH K t.u_NoPaper Fq):=by
 have G_L:=@Fs P w _ _ base _ T;refine T.F_M.F.okDX C6 (λds Q R h=>?_) (λcdv A outer s H O ds Q R E hr h hx=>?_)
 ·obtain⟨xs,d,rfl,_⟩:=h;rfl
 ·obtain⟨xs,d,rfl,h⟩:=h;refine'⟨_,?A,?B⟩
  case A=>
   refine' au ?C
   case C=>exact(aJ (av aC aD (CS hx G_L hr T.F_L (aa (dv 0) (aa (dv 1) ah))) ag))
  case B=>
  clear hr T hx G_L;walk_at "d";exact⟨xs,d,rfl,h⟩
def Fv:DX:=λds _ R=>∃(xs:List De)(n:Int)(d g:U7),ds=[.tuple (xs.map De.enc),.int n,d,g]/\eO xs/\j5 xs d/\R
theorem Nd(T:Txt K mg t):ay P w K mg base (aL P w) 9 t.a_Z t.d_Z ["deeds","day","paper","gone"] (fH K t.u_NoPaper Fv):=by
 have G_I:=@Ft P w _ _ base _ T;have G_Q:=@lX P w _ _ base _ T;have G_W:=@Et P w _ _ base _ T;refine T.F_Z.F.okDX Dd (λds Q R h=>?_) (λcdv A outer s H O ds Q R E hr h hx=>?_)
 ·obtain⟨xs,n,d,g,rfl,_⟩:=h;rfl
 ·obtain⟨xs,n,d,g,rfl,h⟩:=h;refine'⟨_,?A,?B⟩
  case A=>
   refine' au ?C
   case' C=>refine' aJ ?D
   case D=>exact(ax G_W hr T.F_W (aa (CV hx T.mk_Paper G_I hr T.c_Paper T.F_I.b (aa (dv 0) (aa (dv 2) ah))) (aa (ax G_Q hr T.F_Q (aa (dv 0) (aa (dv 1) ah))) (aa (dv 1) (aa (dv 3) ah)))))
  case B=>
  clear hr T hx G_I G_Q G_W;walk_at "d";exact⟨xs,d,rfl,h⟩
theorem Nh(T:Txt K mg t):ay P w K mg base (aL P w) 9 t.a_a t.d_a ["deeds","day","paper","gone"] (fH K t.u_NoPaper Fv):=by
 have G_I:=@Ft P w _ _ base _ T;have G_Q:=@lX P w _ _ base _ T;have G_X:=@Eu P w _ _ base _ T;refine T.F_a.F.okDX Df (λds Q R h=>?_) (λcdv A outer s H O ds Q R E hr h hx=>?_)
 ·obtain⟨xs,n,d,g,rfl,_⟩:=h;rfl
 ·obtain⟨xs,n,d,g,rfl,h⟩:=h;refine'⟨_,?A,?B⟩
  case A=>
   refine' au ?C
   case' C=>refine' aJ ?D
   case D=>exact(ax G_X hr T.F_X (aa (CV hx T.mk_Paper G_I hr T.c_Paper T.F_I.b (aa (dv 0) (aa (dv 2) ah))) (aa (ax G_Q hr T.F_Q (aa (dv 0) (aa (dv 1) ah))) (aa (dv 1) (aa (dv 3) ah)))))
  case B=>
  clear hr T hx G_I G_Q G_X;walk_at "d";exact⟨xs,d,rfl,h⟩
def Ni:DX:=λds _ R=>∃(xs:List De)(n:Int)(d:U7),ds=[.tuple (xs.map De.enc),.int n,d]/\eO xs/\j5 xs d/\R
theorem Nj(T:Txt K mg t):ay P w K mg base (aL P w) 3 t.a_b t.d_b ["deeds","day","paper"] (fH K t.u_NoPaper Ni):=by
 have G_M:=@Nc P w _ _ base _ T;have G_Q:=@lX P w _ _ base _ T;have G_Y:=@Ew P w _ _ base _ T;refine T.F_b.F.okDX Dg (λds Q R h=>?_) (λcdv A outer s H O ds Q R E hr h hx=>?_)
 ·obtain⟨xs,n,d,rfl,_⟩:=h;rfl
 ·obtain⟨xs,n,d,rfl,h⟩:=h;refine'⟨_,?A,?B⟩
  case A=>
   refine' au ?C
   case' C=>refine' aJ ?D
   case D=>exact(d5 i3 dF (df (PE.imp (bP fj rfl T.n_len O6 (bt (ax G_Y hr T.F_Y (aa (CS hx G_M hr T.F_M (aa (dv 0) (aa (dv 2) ah))) (aa (ax G_Q hr T.F_Q (aa (dv 0) (aa (dv 1) ah))) ah))) br)) (bJ fE))) (df ag) (az _))
  case B=>
  clear hr T hx G_M G_Q G_Y;walk_at "d";exact⟨xs,d,rfl,h⟩
theorem Nk(T:Txt K mg t):ay P w K mg base aH 14 t.a_x t.d_x ["_law_asked","_law_thing"] (jX P w K mg t.u_NoPaper 13 base):=by
 refine T.F_x.F.ok tS (λvs H Q E h=>?_) (λcdv A outer s H vs Q E hr h=>?_)
 ·obtain⟨f,k,fd,sp,o,y,v,rfl,_⟩:=h;rfl
 ·obtain⟨f,k,fd,sp,o,y,v,rfl,hbf,hk,Ff,hb,hsp⟩:=h;refine'⟨_,?A,?B⟩
  case A=>
   refine' cm ?C ?D
   case C=>refine' c7 (i:=2) tS.nd rfl U5 x9
   case' D=>refine' cm ?E ?F
   case E=>exact(KZ (C:=t.u_NoPaper) (i:=3) (d:=0) (λE'=>(aO (pv 1) bU)) rfl (Sv rfl) rfl rfl T.c_ArchiveError rfl T.q_NoPaper T.q_ArchiveError U1 T.i_NoPaper_ArchiveError tS.nd rfl rfl (λe=>(cO (c7 (i:=2) tS.nd rfl U5 (pv 3)))))
   case' F=>refine' cm ?G ?H
   case G=>
    refine' iq ?I ?J ik
    case I=>exact(qh (bP (KR (K':=K) rfl) rfl T.n_isinstance gz (aO (pv 2) (aO (vb (aO (dM (v:= .ref t.u_GoneMaker) rfl T.c_GoneMaker rfl) (aO (dM (v:= .ref t.u_Held) rfl T.c_Held rfl) (aO (dM (v:= .ref t.u_MustStay) rfl T.c_MustStay rfl) (aO (dM (v:= .ref t.u_NoCall) rfl T.c_NoCall rfl) (aO (dM (v:= .ref t.u_NoDay) rfl T.c_NoDay rfl) (aO (dM (v:= .ref t.u_NoDeed) rfl T.c_NoDeed rfl) (aO (dM (v:= .ref t.u_NoLeave) rfl T.c_NoLeave rfl) (aO (dM (v:= .ref t.u_NoNumber) rfl T.c_NoNumber rfl) (aO (dM (v:= .ref t.u_NoText) rfl T.c_NoText rfl) (aO (dM (v:= .ref t.u_Twice) rfl T.c_Twice rfl) bU))))))))))) bU))))
    case' J=>refine' cO ?K
    case K=>refine' dN uh
   case' H=>refine' cO ?L
   case' L=>refine' dN ?M
   case M=>exact(uw (bP (CU (K':=K) rfl) rfl T.n_isinstance gz (aO (pv 2) (aO (dM (v:= .ref t.u_NoPaper) rfl T.c_NoPaper rfl) bU))) (qi (bP (CU (K':=K) rfl) rfl T.n_isinstance gz (aO (pv 2) (aO (ij (v:= .ty "ValueError") rfl T.n_ValueError HJ rfl) bU)))))
  case B=>
  walk_at "h";unfold CY;refine⟨f,k,fd,sp,y,o,rfl,hbf,hr.mono hk,Ff,hb,v,rfl,?_⟩;refine hsp _ _ λd H2 q=>⟨rfl,λe he=>?_⟩;walk_at "h";refine⟨U1,λq' hq=>?_⟩;have ne:e≠q':=cL aR hq;have Z:gB K t.u_NoPaper:=⟨T.z1,T.z2,T.z3,T.z4,T.z5,T.z6,T.z7,T.z8⟩;refine⟨t.u_NoPaper,(aA ne).trans aR,[t.u_GoneMaker,t.u_Held,t.u_MustStay,t.u_NoCall,t.u_NoDay,t.u_NoDeed,t.u_NoLeave,t.u_NoNumber,t.u_NoText,t.u_Twice],aR,Z,false,T.ka,?_⟩;rw [U3 U1];refine⟨t.u_NoPaper,(aA ne).trans aR,Z,.ref t.u_NoPaper,λu h=>h,true,by unfold Rq;rw [U4 U6],?_⟩;rw [U4 rfl];refine⟨t.u_NoPaper,(aA ne).trans aR,Z,.type "ValueError",λu h=>h,true,T.kv,?_⟩;exact q _ ((aj.new he).trans (aj.new hq))
def Nl:List U7->(U7->Prop)->Prop:=λds Q=>∃(xs:List De)(n:Int)(d:U7),ds=[.tuple (xs.map De.enc),.int n,d]/\eO xs/\j5 xs d/\Q (.bool true)
def lamQ:Str:="_law_no_paper.<locals>.<lambda>"
theorem Fw:(NL "_law_no_paper"++NL ".<locals>.")++NL "<lambda>"=lamQ:=U0
theorem Nm{c PT:U9}(T:Txt K mg t)(LF:iN base mg c PT)(hco:t.d_y.code= .ref c):ay P w K mg base aH 15 t.a_y t.d_y ["_law_deeds_here","_law_day_here","_law_thing"] (pH PT lamQ K Nl):=by
 have G_x:=λbase':Vl=>Nk (P:=P) (w:=w) (base:=base') T;have X_stays:=λbase':Vl=>Nd (P:=P) (w:=w) (base:=base') T;have X_goes:=λbase':Vl=>Nh (P:=P) (w:=w) (base:=base') T;have X_needs_leave:=λbase':Vl=>Nj (P:=P) (w:=w) (base:=base') T;refine T.F_y.F.okDL hco Dp (λds Q h=>?_) (λcdv A outer s H O ds Q E hcode hP0 hr h=>?_)
 ·obtain⟨xs,n,d,rfl,_⟩:=h;rfl
 ·obtain⟨xs,n,d,rfl,g,hn,q⟩:=h;refine'⟨_,?A,?B⟩
  case A=>
   refine' aq ?C ?D
   case C=>exact(K3 (C:=t.u_NoPaper) (k0:=13) (kg:=9) (j:=2) (ia:=3) (m:=0) G_x (λb=>(X_stays b).mono U1) (λb=>(X_goes b).mono U1) (hr.mono U1) T.F_x T.F_Z T.F_a hP0 LF hcode Fw M9 U1 (λ_=>rfl) OO rfl Dp.nd rfl U5 U1 (λ_ _ _ _ _ _ _ _ _=>(aa (dv 2) (aa (dv 3) (aa (dv 0) (aa B0 ah))))) rfl rfl)
   case' D=>refine' au ?E
   case' E=>refine' aJ ?F
   case F=>exact(K2 (C:=t.u_NoPaper) (k0:=13) (j:=2) G_x X_needs_leave (hr.mono U1) T.F_x T.F_b hP0 LF hcode Fw Na U1 (λ_=>rfl) (λ_ _ _ _ _ _ _ _ _=>(aa (dv 1) (aa (dv 2) (aa (dv 0) ah)))))
  case B=>
  clear hr T LF hcode hP0 G_x X_stays X_goes X_needs_leave;walk_at "d";exact⟨⟨xs,n,d,_,rfl,g,hn,trivial⟩,⟨xs,n,d,_,rfl,g,hn,trivial⟩,⟨xs,n,d,rfl,g,hn,trivial⟩,q⟩
end
theorem Fx:bj (ar tI) ["_law_told_here","_law_due"] ["_law_k","_law_told_here","_law_due"] 1 [0,1] ⟨NZ,[ (NN ".0",Wx),(NN "_law_k",Wx),(NN "_law_same",OI),(NN "_law_due",NY),(NN "_law_told_here",NY)],false,false,[]⟩:= .of
theorem Fy:bj (ar tJ) ["_law_deeds_here","_law_day_here","_law_name","_law_parts_here"] ["_law_deed_here","_law_parts_here"] 1 [3] ⟨NZ,[ (NN ".0",Wx),(NN "_law_deed_here",Wx),(NN "_law_parts_here",NY)],false,false,[]⟩:= .of
section
variable {P:Vj} {w:Vm} {K:NM} {mg:Str->Option U8} {base:Vl} {t:cM}
theorem Nn{k:Nat}{f:U9}{fd:Vh}{ps:List Str}:ay P w K mg base aH k f fd ps (bo K λ_ _=>False):=⟨λvs H Q E uu2=>by obtain⟨_,_,_,_,_,h,_⟩:=uu2;exact h.elim,λ_ _ _ _ _ _ _ _ _ _ _ _ _ uu3=>by obtain⟨_,_,_,_,_,h,_⟩:=uu3;exact h.elim⟩
def fZ(F:List U7->(U7->Prop)->Prop):List U7->(U7->Prop)->Prop:=λds Q=>∃x,ds=[x,x]/\(x= .none\/(∃i,x= .int i)\/(∃s,x= .str s/\N0 s=true)\/(∃b,x= .bool b)\/∃xs,x= .tuple xs/\xs.length<=1000/\∀y∈xs,∀R:U7->Prop,R (.bool true)->F [y,y] R)/\Q (.bool true)
theorem uf{d:Nat}{F:List U7->(U7->Prop)->Prop}(T:Txt K mg t)(G_t:ay P w K mg base aH d t.a_t t.d_t ["_law_told_here","_law_due"] (bo K F)):
 ay P w K mg base aH (d+1) t.a_t t.d_t ["_law_told_here","_law_due"] (bo K (fZ F)):=by
 refine T.F_t.F.okD Lg (λds Q h=>?_) (λ_ _ _ _ H O ds Q E hr h=>?_)
 ·obtain⟨x,rfl,_⟩:=h;rfl
 ·obtain⟨x,rfl,hx,q⟩:=h;refine'⟨_,?A,?B⟩
  case A=>
   refine' aq ?C ?D
   case C=>
    refine' bC ?E ?F bB
    case E=>exact(gG (jq (K':=K) (T:="tuple") rfl rfl T.n_isinstance gz (df (dv 1)) (ij (v:= .ty "tuple") rfl T.n_tuple gA rfl)))
    case' F=>refine' aq ?G ?H
    case G=>
     refine' bC ?I ?J bB
     case I=>exact(PW.pt (jc (jK (gG (jq (K':=K) (T:="tuple") rfl rfl T.n_isinstance gz (df (dv 0)) (ij (v:= .ty "tuple") rfl T.n_tuple gA rfl)))) (jb (aG (kQ hr.units) kU (PE.imp (bP fj rfl T.n_len O6 (bt (dv 0) br)) (bJ fE)) (PE.imp (bP fj rfl T.n_len O6 (bt (dv 1) br)) (bJ fE)) (az _)))))
     case J=>refine' au (aJ i9)
    case' H=>refine' au ?K
    case' K=>refine' aJ ?L
    case L=>exact(PE.imp (bP (Hy rfl) rfl T.n_all HI (bt (fe (vF rfl Fx rfl T.n_range (bt (PE.imp (bP fj rfl T.n_len O6 (bt (dv 1) br)) (bJ fE)) br) aW cz U1 (λ_ _ _ _=>(aS (i:=0) Fx.nd rfl U5)) (λ_ _ _ _=>iH) (λ_ _ _ _=>(PE.imp (eM G_t (hr.mono (NV _)) rfl T.F_t (aa (av aC aD (dv 1) (dv 0)) (aa (av aC aD (dv 2) (dv 0)) ah))) Bn)))) br)) (bJ vG))
   case' D=>refine' aq ?M ?N
   case M=>
    refine' bC ?O ?P bB
    case O=>exact(aG kj lB (dv 1) fv (az _))
    case' P=>refine' au ?Q
    case Q=>exact(aJ (d5 kj lB (df (dv 0)) (df fv) (az _)))
   case' N=>refine' aq ?R ?S
   case R=>
    refine' bC ?T ?U bB
    case T=>exact(gG (jq (K':=K) (T:="str") rfl rfl T.n_isinstance gz (df (dv 1)) (ij (v:= .ty "str") rfl T.n_str Ba rfl)))
    case' U=>refine' au ?V
    case' V=>refine' aJ ?W
    case W=>exact(kG (jq (K':=K) (T:="str") rfl rfl T.n_isinstance gz (df (dv 0)) (ij (v:= .ty "str") rfl T.n_str Ba rfl)) (kF (d5 (cn hr.units) cq (df (dv 0)) (df (dv 1)) (az _))))
   case' S=>refine' aq ?X ?Y
   case X=>
    refine' bC ?Z ?a bB
    case Z=>exact(gG (jq (K':=K) (T:="bool") rfl rfl T.n_isinstance gz (df (dv 1)) (ij (v:= .ty "bool") rfl T.n_bool vA rfl)))
    case' a=>refine' au ?b
    case' b=>refine' aJ ?c
    case c=>exact(kG (jq (K':=K) (T:="bool") rfl rfl T.n_isinstance gz (df (dv 0)) (ij (v:= .ty "bool") rfl T.n_bool vA rfl)) (kF (d5 (cn hr.units) cq (df (dv 0)) (df (dv 1)) (az _))))
   case' Y=>refine' au ?d
   case' d=>refine' aJ ?e
   case e=>exact(kG (jq (K':=K) (T:="int") rfl rfl T.n_isinstance gz (df (dv 0)) (ij (v:= .ty "int") rfl T.n_int mC rfl)) (kG (HX (jq (K':=K) (T:="bool") rfl rfl T.n_isinstance gz (df (dv 0)) (ij (v:= .ty "bool") rfl T.n_bool vA rfl))) (kF (d5 (cn hr.units) cq (df (dv 0)) (df (dv 1)) (az _)))))
  case B=>
  clear hr T G_t;rcases hx with rfl | ⟨i,rfl⟩ | ⟨s,rfl,hs⟩ | ⟨b,rfl⟩ | ⟨xs,rfl,hl,hF⟩ <;> walk_at "d" <;> simp only [Jo,Jn,Jm,Jl]
  ·simpa [lu,cS,n8,n5,hG,OP,Ox,Qf] using q
  ·simpa [lu,qX,cS,n8,n5,hG,OP,Ox,Qf] using q
  ·simpa [lu,qX,cS,n8,n5,fQ,hs,OP,Ox,Qf] using q
  ·simpa [lu,qX,cS,n8,n5,nO,OP,Ox,Qf] using q
  ·simp only [lu];walk_at "d";refine⟨U6,U6,U2,U2,Jq (p:=λb=>Q (.bool b)) (λ_=>true) (λx hx R hR=>?_) ?_⟩
   ·obtain⟨i,hi⟩:=QW hx;obtain⟨hlt,rfl⟩:=jP hi;have hj:i < xs.length:=U2
    have ha:atI xs (0+(i:Int))=some xs[i]:=by rw [UN];exact fN (by simp [hj])
    walk_at "d";exact⟨xs[i],ha,xs[i],ha,hF _ (Py hj) R hR⟩
   ·have e:∀l:List U7,((l.map λ_=>true).all id)=true:=λl=>by rw [List.all_map];exact PR.mpr λ_ _=>rfl
    rw [e];exact q
def jz(x:U7):Prop:=x= .none\/(∃i,x= .int i)\/(∃s,x= .str s/\N0 s=true)\/(∃b,x= .bool b)
theorem jz.sm{x:U7}{F:List U7->(U7->Prop)->Prop}(h:jz x){R:U7->Prop}(r:R (.bool true)):fZ F [x,x] R:=⟨x,rfl,by
 rcases h with h | h | h | h
 ·exact .inl h
 ·exact .inr (.inl h)
 ·exact .inr (.inr (.inl h))
 ·exact .inr (.inr (.inr (.inl h))),r⟩
def x5:=fZ λ_ _=>False
theorem Np(T:Txt K mg t):ay P w K mg base aH 9 t.a_t t.d_t ["_law_told_here","_law_due"] (bo K (fZ (fZ (fZ x5)))):=uf T (uf T (uf T (uf T (d:=5) Nn)))
theorem x6{F:List U7->(U7->Prop)->Prop}{xs:List U7}(hl:xs.length<=1000)(h:∀y∈xs,∀R:U7->Prop,R (.bool true)->F [y,y] R){R:U7->Prop}(r:R (.bool true)):fZ F [.tuple xs,.tuple xs] R:=⟨_,rfl,.inr (.inr (.inr (.inr ⟨xs,rfl,hl,h⟩))),r⟩
def qc(cs:List (Str×U7)):Prop:=cs.length<=41/\∀z∈cs,N0 z.1=true/\jz z.2
theorem Fz{cs:List (Str×U7)}(h:qc cs){R:U7->Prop}(r:R (.bool true)):fZ (fZ x5) [.tuple (cs.map aU),.tuple (cs.map aU)] R:=by
 refine x6 (by rw [NO];have:=h.1;omega) (λy hy R r=>?_) r;obtain⟨z,hz,rfl⟩:=N6.mp hy;obtain⟨h1,h2⟩:=h.2 z hz;refine x6 U6 (λy hy R r=>?_) r;simp only [N9,Pc,or_false] at hy;rcases hy with e | e <;> subst e
 ·exact jz.sm (.inr (.inr (.inl ⟨_,rfl,h1⟩))) r
 ·exact h2.sm r
theorem FA(o:Option Int):jz (bW o):=by cases o with | none=>exact .inl rfl | some i=>exact .inr (.inl ⟨i,rfl⟩)
theorem Nq{r:Rp}{n:Int}{g:Gn}{pt:Pt}{b:U7}(ro:fJ r)(h:pW r n g pt=some b):jz b:=by
 cases pt with
 | two w kd=>
  have h:(if w=NL "while" then(dX r n g).head?.map NP else none)=some b:=h;split at h
  ·cases hl:(dX r n g).head? with
   | none=>rw [hl] at h;cases h
   | some m=>
    rw [hl] at h;cases h;have hm:m∈dX r n g:=Tc hl;exact .inr (.inr (.inl ⟨m,rfl,ro.2.2.2 m (Oh.mp hm).1⟩))
  ·cases h
 | five w kd s k u=>
  have h:(if w=NL "keep"/\dz n (bX r n (.five w kd s k u))=true then some (bW (bX r n (.five w kd s k u))) else none)=some b:=h;split at h
  ·cases h;exact FA _
  ·cases h
theorem Nr{r:Rp}{n:Int}{g:Gn}{pt:Pt}{b:U7}(ro:fJ r)(h:pX r n g pt=some b):jz b:=by
 cases pt with
 | two w kd=>
  have h:(if w=NL "follow" then(dY r n g).head?.map NP else none)=some b:=h;split at h
  ·cases hl:(dY r n g).head? with
   | none=>rw [hl] at h;cases h
   | some m=>
    rw [hl] at h;cases h;have hm:m∈dY r n g:=Tc hl;exact .inr (.inr (.inl ⟨m,rfl,ro.2.2.2 m (Oh.mp hm).1⟩))
  ·cases h
 | five w kd s k u=>
  have h:(if w=NL "gone"/\dz n (bX r n (.five w kd s k u))=false then some (bW (bX r n (.five w kd s k u))) else none)=some b:=h;split at h
  ·cases h;exact FA _
  ·cases h
theorem FC{r:Rp}{n:Int}{L:List (Str×Pt)}{z:Str×Pt}(h:z∈cN r n L):z∈L:=by
 unfold cN at h;split at h
 ·cases h
 ·exact(Oh.mp h).1
theorem FD{xs:List De}{n:Int}(g:cJ xs)(h:eD xs n (bI xs n)):∀z∈bI xs n,N0 z.1=true:=λz hz=>by
 obtain⟨d,_,hm,_⟩:=(h.2 z).mp hz;exact g.gx.nm _ hm
theorem Nt{xs:List De}{n:Int}{c:Pp}{g:Gn}(gd:cJ xs)(h:eD xs n (bI xs n))(hl:(bI xs n).length<=41)(ro:fJ (bw xs c)):qc (jx xs n c g):=by
 refine⟨Ot (Fo _) hl,λz hz=>?_⟩;unfold jx eF at hz;obtain⟨y,hy,hz⟩:=Ui.mp hz;unfold iQ at hz;cases hb:pW (bw xs c) n g y.2 with
 | none=>rw [hb] at hz;cases hz
 | some b=>
  rw [hb] at hz;have e:z=(y.1,b):=by simpa using hz
  rw [e];exact⟨FD gd h y (FC hy),Nq ro hb⟩
theorem Nu{xs:List De}{n:Int}{c:Pp}{g:Gn}(gd:cJ xs)(h:eD xs n (bI xs n))(hl:(bI xs n).length<=41)(ro:fJ (bw xs c)):qc (jy xs n c g):=by
 refine⟨Ot (Fp _) hl,λz hz=>?_⟩;unfold jy eI at hz;obtain⟨y,hy,hz⟩:=Ui.mp hz;unfold iR at hz;cases hb:pX (bw xs c) n g y.2 with
 | none=>rw [hb] at hz;cases hz
 | some b=>
  rw [hb] at hz;have e:z=(y.1,b):=by simpa using hz
  rw [e];exact⟨FD gd h y (FC hy),Nr ro hb⟩
theorem cJ.perm{xs ys:List De}(g:cJ xs)(h:ys.Perm xs):cJ ys:=
 ⟨g.gx.perm h,λd nm r z=>g.hp d nm r (h.mem_iff.mp z),λd nm r z=>g.ru d nm r (h.mem_iff.mp z),h.nodup_iff.mpr g.nd,λx z=>g.d0 x (h.mem_iff.mp z),λx a y b=>g.re x (h.mem_iff.mp a) y (h.mem_iff.mp b)⟩
theorem FF{xs ys:List De}(h:ys.Perm xs):(aN ys).Perm (aN xs):=h.filterMap _
theorem Nv{xs ys:List De}(g:cJ xs)(h:ys.Perm xs)(c:Pp):bw ys c=bw xs c:=by
 unfold bw cY;rw [Ly g.gx.gp.nd (FF h),LQ (l:=dW ys c.nm) (l':=dW xs c.nm) ((h.filter _).map _)]
theorem Nw{xs ys:List De}(h:ys.Perm xs)(n:Int):bI ys n=bI xs n:=by
 have e:∀L,eD ys n L↔eD xs n L:=λL=>by
  unfold eD xG;simp only [h.mem_iff]
 by_cases z:∃L,eD xs n L
 ·obtain⟨L,z⟩:=z;rw [<-tY z,<-tY ((e L).mpr z)]
 ·have z':¬ ∃L,eD ys n L:=λ⟨L,y⟩=>z ⟨L,(e L).mp y⟩;unfold bI;rw [dif_neg z,dif_neg z']
def Nx:List U7->(U7->Prop)->Prop:=λds Q=>∃(xs:List De)(n:Int)(c:Pp),ds=[.tuple (xs.map De.enc),.int n,.str c.nm]/\iT xs/\c∈aN xs/\Q (.bool (ic xs n c))
theorem Ny(T:Txt K mg t):ay P w K mg base aH 2 t.a_u t.d_u ["_law_deeds_here","_law_day_here","_law_name"] (bo K Nx):=by
 have G_p:=@uc P w _ _ base _ T;have G_q:=@ET P w _ _ base _ T;refine T.F_u.F.okD Dm (λds Q h=>?_) (λ_ _ _ _ H O ds Q E hr h=>?_)
 ·obtain⟨xs,n,c,rfl,_⟩:=h;rfl
 ·obtain⟨xs,n,c,rfl,gl,hc,q⟩:=h;refine'⟨_,?A,?B⟩
  case A=>
   refine' aq ?C ?D
   case C=>
    refine' bH (i:=3) Dm.nd rfl U5 ?E (hs:=B1)
    case' E=>refine' bE ?F
    case' F=>refine' aa aQ ?G
    case' G=>refine' aa ?H ah
    case' H=>refine' eU aC aD (df ?I) (df ag)
    case I=>exact(jo hr.units (ax G_p hr T.F_p (aa (dv 0) ah)) (dv 2) (λ_ _=>rfl))
   case' D=>refine' au ?J
   case' J=>refine' aJ ?K
   case K=>exact(PE.imp (bP (Bh rfl) rfl T.n_any Bj (bt (fe (fP rfl Fy (df (ax G_q hr T.F_q (aa (dv 0) (aa (dv 1) (aa aQ (aa aQ ah)))))) aW cz U1 (λ_ _ _ _=>(aS (i:=0) Fy.nd rfl U5)) (λ_ _ _ _=>iH) (λ_ _ _ _=>(d5 (cn hr.units) cq (df (av aC aD (dv 0) ag)) (df (dv 1)) (az _))))) br)) (bJ vG))
  case B=>
  clear hr T G_p G_q;have gd:=gl.good;walk_at "d";have aw:=l9 (f:=l8 (aN xs)) gd.gx.gp.nd hc;refine⟨xs,rfl,gl,_,_,rfl,_,aw,_,rfl,_,dG,xs,n,rfl,gd,λL hL h41 hR=>?_⟩;have Ll:L.length<=41:=by rw [<-hL,NO] at h41;exact h41
  have ok:=p7 gd hR h41;have kok:=gd.gx.gp.kd c hc;refine⟨_,rfl,by rw [NO];omega,cZ (λ_=>true) (λz=>.bool (z.2.2.enc.eqv (N3 [NP (NL "leave"),NP c.kd]))) (λz hz R S h=>?_) ?_⟩
  ·obtain⟨dd,nm,pt⟩:=z;have po:pt.Ok:=ok.2 (nm,pt) (by rw [<-hL];exact N6.mpr ⟨_,hz,rfl⟩);simp only [l4];walk_at "d";exact⟨(Pt.lay po).shp U1,(cX (n:=1) (aZ (bO U0) (aZ (bO kok) dS))).shp U1,h⟩
  ·rw [pT];refine⟨L.map λz=>z.2.2.enc.eqv (N3 [NP (NL "leave"),NP c.kd]),by rw [Oe];rfl,?_⟩;have e:∀pt:Pt,pt.enc.eqv (N3 [NP (NL "leave"),NP c.kd])=pY c.kd pt:=λpt=>by
    cases pt with
    | two w2 kd2=>simp [Pt.enc,pY,N4,PD,p5]
    | five w2 kd2 si k u=>simp [Pt.enc,pY,N4,PD]
   have e2:((L.map λz=>z.2.2.enc.eqv (N3 [NP (NL "leave"),NP c.kd])).any id)=ic xs n c:=by
    unfold ic pZ;rw [<-hL,NO];refine Qr.mpr ?_;rw [Ql,decide_eq_true_iff,List.length_pos_iff_exists_mem];constructor
    ·rintro⟨b,hb,hi⟩;obtain⟨z,hz,rfl⟩:=N6.mp hb;exact⟨z.2,Oh.mpr ⟨N6.mpr ⟨z,hz,rfl⟩,by rw [<-e];exact hi⟩⟩
    ·rintro⟨y,hy⟩;obtain⟨h1,h2⟩:=Oh.mp hy;obtain⟨z,hz,rfl⟩:=N6.mp h1;exact⟨_,N6.mpr ⟨z,hz,rfl⟩,by rw [e];exact h2⟩
   rw [e2];exact q
def Nz:List U7->(U7->Prop)->Prop:=λds Q=>∃(xs:List De)(n:Int)(c:Pp)(g:Gn),ds=[.tuple (xs.map De.enc),.int n,.str c.nm,g.enc]/\cJ xs/\c∈aN xs/\(eD xs n (bI xs n)->(bI xs n).length<=41->fJ (bw xs c)->Q (.tuple [.tuple ((jx xs n c g).map aU),.tuple ((jy xs n c g).map aU),.bool (ic xs n c)]))
theorem NA(T:Txt K mg t):ay P w K mg base aH 10 t.a_v t.d_v ["_law_deeds_here","_law_day_here","_law_name","_law_gone"] (bo K Nz):=by
 have G_Z:=@Mo P w _ _ base _ T;have G_a:=@Mp P w _ _ base _ T;have G_b:=@Mr P w _ _ base _ T;refine T.F_v.F.okD Lh (λds Q h=>?_) (λ_ _ _ _ H O ds Q E hr h=>?_)
 ·obtain⟨xs,n,c,g,rfl,_⟩:=h;rfl
 ·obtain⟨xs,n,c,g,rfl,gd,hc,q⟩:=h;refine'⟨_,?A,?B⟩
  case A=>
   refine' au ?C
   case' C=>refine' aJ ?D
   case' D=>refine' bE ?E
   case' E=>refine' aa ?F ?G
   case F=>exact(ax G_Z hr T.F_Z (aa (dv 0) (aa (dv 1) (aa (dv 2) (aa (PE.imp (eR CN rfl T.n_dict vB (bt (dv 3) br)) (bJ CO)) ah)))))
   case' G=>refine' aa ?H ?I
   case H=>exact(ax G_a hr T.F_a (aa (dv 0) (aa (dv 1) (aa (dv 2) (aa (PE.imp (eR CN rfl T.n_dict vB (bt (dv 3) br)) (bJ CO)) ah)))))
   case' I=>refine' aa ?J ah
   case J=>exact(ax G_b hr T.F_b (aa (dv 0) (aa (dv 1) (aa (dv 2) ah))))
  case B=>
  clear hr T G_Z G_a G_b;walk_at "d";exact⟨g.ks,g.gs.map .int,rfl,xs,n,c,g,rfl,gd,hc,λh1 h2 h3=>⟨g.ks,g.gs.map .int,rfl,xs,n,c,g,rfl,gd,hc,λ_ _ _=>⟨xs,n,c,rfl,gd,hc,q h1 h2 h3⟩⟩⟩
def NB:List U7->(U7->Prop)->Prop:=λds Q=>∃(xs:List De)(n:Int)(g:Gn),ds=[.tuple (xs.map De.enc),.int n,g.enc]/\iT xs/\R5 xs/\Q (.bool true)
theorem NC(T:Txt K mg t):ay P w K mg base aH 11 t.a_w t.d_w ["_law_deeds_here","_law_day_here","_law_gone"] (bo K NB):=by
 have G_p:=@uc P w _ _ base _ T;have G_s:=@M8 P w _ _ base _ T;have G_t:=@Np P w _ _ base _ T;have G_u:=@Ny P w _ _ base _ T;have G_v:=@NA P w _ _ base _ T;refine T.F_w.F.okD tR (λds Q h=>?_) (λ_ _ _ _ H O ds Q E hr h=>?_)
 ·obtain⟨xs,n,g,rfl,_⟩:=h;rfl
 ·obtain⟨xs,n,g,rfl,gl,r5,q⟩:=h;refine'⟨_,?A,?B⟩
  case A=>
   refine' aq ?C ?D
   case C=>
    refine' kN OO rfl (fe (Kp rfl rfl T.n_sorted Pw (ax G_p hr T.F_p (aa (dv 0) ah)))) ?E aW ?F
    case E=>exact(aS (i:=3) tR.nd rfl U5)
    case' F=>refine' aq ?G ?H
    case G=>
     refine' bH (i:=4) tR.nd rfl U5 ?I (hs:=jS)
     case' I=>refine' aM J1 J3 ?J ?K
     case J=>exact(ax G_s hr T.F_s (aa (dv 0) (aa (dv 1) (aa (dv 3) (aa (dv 2) ah)))))
     case K=>exact(bE (aa (ax G_u hr T.F_u (aa (dv 0) (aa (dv 1) (aa (dv 3) ah)))) ah))
    case' H=>refine' au ?L
    case' L=>refine' Ia OO rfl (fe (cy (aa (dv 0) (aa (Jy (df (dv 0))) (aa (dv 0) ah))))) ?M aW ?N
    case M=>exact(aS (i:=5) tR.nd rfl U5)
    case' N=>refine' au ?O
    case' O=>refine' bC ?P ?Q bB
    case P=>exact(jK (gG (ax G_t hr T.F_t (aa (ax G_v hr T.F_v (aa (dv 5) (aa (dv 1) (aa (dv 3) (aa (dv 2) ah))))) (aa (dv 4) ah)))))
    case Q=>refine' au (aJ i9)
   case D=>refine' au (aJ i9)
  case B=>
  clear hr T G_p G_s G_t G_u G_v;have gd:=gl.good;walk_at "d";have pl:=gd.gx.gp.ln;refine⟨xs,rfl,gl,(aN xs).map (·.nm),⟨_,rfl⟩,by rw [NO];omega,?_⟩;have sp:=fG ((aN xs).map (·.nm));refine⟨λi δ=>∃o3 o4 o5:Option Sl,δ=[some (Sl.v (N3 (Od De.enc xs))),some (Sl.v (NQ n)),some (Sl.v g.enc),o3,o4,o5],⟨_,_,_,rfl⟩,?_,?_⟩
  ·rintro i z δ hz ⟨o3,o4,o5,rfl⟩;obtain⟨nm,hnm,rfl⟩:=N6.mp (Oq hz);obtain⟨p,hp,rfl⟩:=N6.mp (sp.mem_iff.mp hnm);clear hz hnm;have rv:=List.reverse_perm xs;have gr:=gd.perm rv;have hpr:p∈aN xs.reverse:=(FF rv).mem_iff.mpr hp;have er:=Nv gd rv p;have el:=Nw rv n;have es:jx xs.reverse n p g=jx xs n p g:=by unfold jx;rw [er,el]
   have eg:jy xs.reverse n p g=jy xs n p g:=by unfold jy;rw [er,el]
   have en:ic xs.reverse n p=ic xs n p:=by unfold ic;rw [el]
   walk_at "d";refine⟨xs,n,p,g,rfl,gl,r5,hp,?_⟩;have sm3:∀{cs ds:List (Str×U7)}{b:Bool},qc cs->qc ds->∀{R:U7->Prop},R (.bool true)->fZ (fZ (fZ x5)) [.tuple [.tuple (cs.map aU),.tuple (ds.map aU),.bool b],.tuple [.tuple (cs.map aU),.tuple (ds.map aU),.bool b]] R:=λ{cs ds b} h1 h2 {R} r=>by
    refine x6 (xs:=[.tuple (cs.map aU),.tuple (ds.map aU),.bool b]) (by show 3<=1000;decide) (λy hy R r=>?_) r;simp only [N9,Pc,or_false] at hy;rcases hy with e | e | e <;> subst e
    ·exact Fz h1 r
    ·exact Fz h2 r
    ·exact jz.sm (.inr (.inr (.inr ⟨_,rfl⟩))) r
   refine⟨xs,n,p,rfl,gl,hp,_,rfl,by show 2<=16777215;decide,xs,n,p,g,rfl,gd,hp,λh1 h2 h3=>?_⟩;have c1:=Nt gd h1 h2 h3 (g:=g);have c2:=Nu gd h1 h2 h3 (g:=g);refine sm3 c1 c2 ⟨true,rfl,?_⟩;rw [U3 U6];refine⟨xs.reverse,n,p,g,by rw [List.map_reverse],gr,hpr,λ_ _ _=>?_⟩;rw [es,eg,en];refine sm3 c1 c2 ⟨true,rfl,?_⟩;rw [U3 U6];refine⟨xs,n,p,g,rfl,gd,hp,λ_ _ _=>sm3 c1 c2 ⟨true,rfl,?_⟩⟩;rw [U3 U6];exact⟨_,rfl⟩
  ·rintro δ ⟨o3,o4,o5,rfl⟩;walk_at "d";exact q
end
theorem FG:bj (ar tK) ["_law_script","_law_menu","_law_deeds_here","_law_names_here","_law_far","_law_web_here","_law_odd","_law_k","_law_purse_here","_law_day_here","_law_gone","_law_name","_law_way","_law_thing"] ["_law_name","_law_web_here"] 1 [5] ⟨NZ,[ (NN ".0",Wx),(NN "_law_name",Wx),(NN "_law_web_here",NY)],false,false,[]⟩:= .of
section
variable {P:Vj} {w:Vm} {K:NM} {mg:Str->Option U8} {base:Vl} {t:cM}
def F_z:List U7->(U7->Prop)->Prop:=λds Q=>∃ns:List Int,ds=[eS (ns.map .int)]/\ns.length<=63/\(∀z∈ns,PJ z<=1048576)/\Q (.bool true)
def sp_law(K:NM)(PT:U9):Sp:=pH PT lamQ K F_z
theorem start_law{K:NM}{H:Hp}{a PT:U9}{ns:List Int}(hl:ns.length<=63)(hb:∀z∈ns,PJ z<=1048576)(hP:H PT=some (fm lamQ))(hS:aV K H a (ns.map V.int)):sp_law K PT [.ref a] H (λv _=>v= .bl true) λ_ _ _=>False:=
 ⟨hP,λ_=>False,[eS (ns.map .int)],λd=>d= .bool true,λ_ z=>z.elim,.cons (.scr (by
  rcases hS with h | h
  ·exact .inl ⟨h,λz=>z⟩
  ·exact .inr (.inr h)) (ak.ints ns)) .nil,⟨ns,rfl,hl,hb,rfl⟩,λd v H' e _ r=>by subst e;cases r;rfl⟩
def iW:List Str:=["keep","gone","while","follow","leave","leave","end","end","happens","hold","permit"]
theorem ND:∀m∈iW,N0 m=true/\m≠NL "paper":=by
 intro z hz;have a:iW.all (λz=>N0 z && decide (z≠NL "paper"))=true:=U0
 have:=PR.mp a z hz;simp only [OV,decide_eq_true_eq] at this;exact this
theorem NF:∀m∈iW,m ∉ l3->W5 m:=by
 intro z hz hn;have a:iW.all (λz=>decide (z∈l3) || decide (z=NL "keep"\/z=NL "gone"\/z=NL "while"\/z=NL "follow"\/z=NL "leave"))=true:=U0
 have:=PR.mp a z hz;simp only [QL,decide_eq_true_eq] at this;exact this.resolve_left hn
def iX(g:List (Str×Int)):List (ai×U7):=g.map λp=>(.inr p.1,.int p.2)
theorem NG(g:List (Str×Int)):(iX g).length=g.length:=NO ..
theorem NH(g:List (Str×Int))(z:Str)(d:Int):∃g',d8 (iX g) (.inr z) (.int d)=iX g'/\g'.length<=g.length+1:=by
 unfold d8;split
 ·refine⟨g.map λp=>if p.1=z then(p.1,d) else p,?_,by rw [NO];omega⟩;unfold iX;rw [Oe,Oe];refine Q3 λp _=>?_;show(if (OW p.1:ai)= .inr z then _ else _)=_;by_cases h:p.1=z
  ·rw [U4 (by rw [h])];show _=(OW (if p.1=z then(p.1,d) else p).1,NQ (if p.1=z then(p.1,d) else p).2);rw [U4 h]
  ·rw [U3 (λe=>h (SR e))];show _=(OW (if p.1=z then(p.1,d) else p).1,NQ (if p.1=z then(p.1,d) else p).2);rw [U3 h]
 ·exact⟨g++[(z,d)],by unfold iX;rw [OJ];rfl,U6⟩
theorem ok_law{c PT:U9}(T:Txt K mg t)(LF:iN base mg c PT)(hco:t.d_y.code= .ref c):ay P w K mg base aH 16 t.a_z t.d_z ["_law_script"] (sp_law K PT):=by
 have G_o:=@MM P w _ _ base _ T;have G_d:=@Ez P w _ _ base _ T;have G_c:=@ED P w _ _ base _ T;have G_e:=@lZ P w _ _ base _ T;have G_p:=@uc P w _ _ base _ T;have G_w:=@NC P w _ _ base _ T;have G_y:=@Nm P w _ _ base _ _ _ T LF hco;refine T.F_z.F.okDP fq (λds Q h=>?_) (λcdv A outer s H O ds Q E hP0 hr h=>?_)
 ·obtain⟨ns,rfl,_⟩:=h;rfl
 ·obtain⟨ns,rfl,hl,hb,q⟩:=h;refine'⟨_,?A,?B⟩
  case A=>
   refine' aq ?C ?D
   case C=>
    generalize hE2_0:Ux _ _=ee2_0;exact bH (i:=1) fq.nd rfl U5 (fe (vM (ds:=[.str "keep",.str "gone",.str "while",.str "follow",.str "leave",.str "leave",.str "end",.str "end",.str "happens",.str "hold",.str "permit"]) (by first | (subst hE2_0;rfl)))) (hs:=IT (ds:=[.str "keep",.str "gone",.str "while",.str "follow",.str "leave",.str "leave",.str "end",.str "end",.str "happens",.str "hold",.str "permit"]) (by first | (subst hE2_0;rfl)))
   case' D=>refine' aq ?E ?F
   case E=>exact(vE (ax G_o hr T.F_o (aa (dv 0) (aa (dv 1) (aa ag ah)))) (iw (n:=3) rfl (dA (aS (i:=2) fq.nd rfl U5) (dA (aS (i:=3) fq.nd rfl U5) (dA (aS (i:=4) fq.nd rfl U5) iu)))) (jh (d7 aW (d7 aW (d7 aW jg)))))
   case' F=>refine' aq ?G ?H
   case G=>exact(bH (i:=5) fq.nd rfl U5 (ax G_p hr T.F_p (aa (dv 2) ah)))
   case' H=>refine' aq ?I ?J
   case I=>
    generalize hG8:UY _ _ _ _=eg8;refine' bH (i:=6) fq.nd rfl U5 ?K (hs:=by subst hG8;exact jS)
    case' K=>subst hG8
    refine' fe ?L
    case' L=>refine' Ig (df ?M) (df ?N)
    case M=>
     refine' fe ?O
     case O=>exact(fP rfl FG (df (dv 3)) aW cz U1 (λ_ _ _ _=>(aS (i:=0) FG.nd rfl U5)) (λ_ _ _ _=>(di (Ks hr.units (dv 1) (dv 0)))) (λ_ _ _ _=>(dv 0)))
    case' N=>refine' fe ?P
    case' P=>refine' cy ?Q
    case' Q=>refine' aa ?R ?S
    case R=>exact((fv))
    case' S=>refine' aa ?T ?U
    case T=>exact((i9))
    case' U=>refine' aa ?V ?W
    case V=>exact((ag))
    case' W=>refine' aa ?X ?Y
    case X=>exact((aQ))
    case' Y=>refine' aa ?Z ?a
    case Z=>exact((aQ))
    case' a=>refine' aa ?b ?c
    case b=>exact(((bE ah)))
    case' c=>refine' aa ?d ?e
    case d=>exact(((fe (cy ah))))
    case' e=>refine' aa ?f ?g
    case f=>exact((B0))
    case' g=>refine' aa ?h ?i
    case h=>exact(((bE (aa aQ ah))))
    case' i=>refine' aa ?j ah
    case j=>exact(((bE (aa (fe (cy ah)) ah))))
   case' J=>refine' aq ?k ?l
   case k=>
    refine' Ib OO rfl rfl T.n_range (aa ag (aa (PE.imp (bP (qx rfl) rfl T.n_max Qt (bt ag (bt (PE.imp (bP (uX rfl) rfl T.n_min QQ (bt (PE.imp (bP fj rfl T.n_len O6 (bt (dv 0) br)) (bJ Br)) (bt ag br))) (bJ kY)) br))) (bJ kY)) ah)) ?m aW ?n
    case m=>exact(aS (i:=7) fq.nd rfl U5)
    case' n=>refine' aq ?o ?p
    case o=>exact(bH (i:=8) fq.nd rfl U5 (ax G_d hr T.F_d (aa (ax G_c hr T.F_c (aa (dv 0) (aa (dv 7) ah))) ah)))
    case' p=>refine' aq ?q ?r
    case q=>
     generalize hG41:TV _ _ _ _=eg41;refine' bH (i:=9) fq.nd rfl U5 ?s (hs:=by subst hG41;exact iK)
     case' s=>subst hG41
     exact(PE.imp (bP (qx rfl) rfl T.n_max Qt (bt ag (bt (aM bF bL (av aC aD (av aC aD (dv 2) (ax G_e hr T.F_e (aa (dv 8) (aa (PE.imp (bP fj rfl T.n_len O6 (bt (dv 2) br)) (bJ fE)) ah)))) ag) (av bQ bZ (fe (cy (aa ag (aa ag (aa (rz ag) (aa ag ah)))))) (ax G_e hr T.F_e (aa (dv 8) (aa ag ah))))) br))) (bJ kY))
    case' r=>refine' aq ?t ?u
    case t=>
     refine' bC ?v ?w bB
     case v=>exact(aG (cn hr.units) cq (ax G_e hr T.F_e (aa (dv 8) (aa ag ah))) ag (az _))
     case' w=>refine' au ?x
     case' x=>generalize hG46:S9 _ _ _=eg46
     refine' bH (i:=9) fq.nd rfl U5 ?y (hs:=by subst hG46;exact jT)
     case' y=>subst hG46
     refine' eU bQ bZ (df ?z) ?A0
     case z=>exact(fe (cy (aa ag (aa ag (aa (aM Ak cQ ag ag) ah)))))
     case A0=>exact(df (ax G_e hr T.F_e (aa (dv 8) (aa ag ah))))
    case' u=>refine' aq ?A1 ?A2
    case A1=>exact(lA (i:=10) fq.nd rfl U5 rX)
    case' A2=>refine' aq ?A3 ?A4
    case A3=>
     refine' kN OO rfl (dv 3) ?A5 aW ?A6
     case A5=>exact(aS (i:=11) fq.nd rfl U5)
     case' A6=>refine' aq ?A7 ?A8
     case A7=>exact(bH (i:=12) fq.nd rfl U5 (ax G_e hr T.F_e (aa (dv 8) (aa ag ah))))
     case' A8=>refine' au ?A9
     case' A9=>refine' bC ?AA ?AB bB
     case AA=>exact(aG i3 dF (dv 12) ag (az _))
     case' AB=>refine' au ?AC
     case AC=>exact(rY (i:=10) hr.units (pv 10) (dv 11) (PE.imp (bP (qx rfl) rfl T.n_max Qt (bt ag (bt (aM bF bL (dv 9) (av bQ bZ (fe (cy (aa (rz ag) (aa ag (aa ag (aa (rz ag) (aa ag ah))))))) (aM cU bL (dv 12) ag))) br))) (bJ kY)))
    case' A4=>refine' aq ?AD ?AE
    case AD=>
     refine' bH (i:=13) fq.nd rfl U5 ?AF (hs:=jT)
     case' AF=>refine' eU bQ bZ (df (dv 6)) ?AG
     case AG=>exact(df (ax G_e hr T.F_e (aa (dv 8) (aa (PE.imp (bP fj rfl T.n_len O6 (bt (dv 6) br)) (bJ fE)) ah))))
    case' AE=>refine' au ?AH
    case' AH=>refine' wa 10 ?AI
    case' AI=>refine' bC ?AJ ?AK bB
    case AJ=>exact(PW.pt (jc (jK (gG (ax G_w hr T.F_w (aa (dv 2) (aa (dv 9) (aa (dv 10) ah)))))) (jb (jK (gG (K4 hP0 G_y hr T.F_y (aa (dv 2) (aa (dv 9) (aa (dv 13) ah)))))))))
    case AK=>refine' au (aJ i9)
   case l=>refine' au (aJ i9)
  case B=>
  clear G_o G_d G_c G_e G_p G_w G_y hr T LF hP0;walk_at "d";refine⟨ns,iW,12,rfl,U1,U1,ND,U1,U1,λxs nms far gl xl28 rm xn x0 nl nok=>?_⟩;have gd:=gl.good;have ln:=gd.gx.ln;refine⟨_,rfl,rfl,_,_,rfl,_,_,rfl,_,_,rfl,rfl,xs,rfl,gl,_,rfl,by rw [NO];omega,?_⟩;refine⟨λk acc=>∃zs:List Str,acc=zs.map .str/\zs.length<=k/\∀z∈zs,∀p∈aN xs,p.nm≠z,⟨[],rfl,U6,U6⟩,?_,?_⟩
  ·rintro k z acc hz ⟨zs,rfl,zl,zn⟩;rw [Ob] at hz;cases hz':nms[k]? with
   | none=>rw [hz'] at hz;cases hz
   | some n=>
    rw [hz'] at hz;cases hz;walk_at "d";refine⟨_,_,rfl,?_⟩;split
    ·rename_i hc;refine⟨zs++[n],by rw [OJ];rfl,by simp;omega,λz hz=>?_⟩;rcases Oo.mp hz with h | h
     ·exact zn z h
     ·rw [OA.mp h];intro p hp e;have:=l9 (f:=l8 (aN xs)) gd.gx.gp.nd hp;rw [e] at this;rw [this] at hc;simp at hc
    ·exact⟨zs,rfl,U2,zn⟩
  ·rintro acc ⟨zs,rfl,zl,zn⟩;rw [NO] at zl;refine⟨by rw [NO];omega,_,rfl,?_⟩;rw [NO];have hM:∃m:Int,(if (if 36 < (ns.length:Int) then 36 else(ns.length:Int)) > 32 then if 36 < (ns.length:Int) then 36 else(ns.length:Int) else 32)=m/\32<=m/\m<=36:=⟨_,rfl,by split <;> split <;> omega,by split <;> split <;> omega⟩;obtain⟨m,em,m0,m1⟩:=hM;rw [em];clear em;have r5:R5 xs:=λd nm pt h=>NF _ (rm _ h d nm pt rfl).1 (rm _ h d nm pt rfl).2;have lett:∀p∈aN xs,∃c∈p.nm.cps.toList,c∈eL.cps.toList:=λp hp=>(nok _ (xn _ (lU.mp hp))).lt;have odd:∀z∈(Od NP zs++[P2,PF true,NQ 0,NP (NL ""),NP (NL "A"),N3 [],Ow [],S0 [],N3 [NP (NL "paper")],N3 [Ow []]]),j5 xs z:=λz hz=>by
    simp only [Oo,N9,Pc,or_false,N6] at hz;have no:∀s:Str,(s.cps.toList.all λc=>decide (c ∉ eL.cps.toList))=true->j5 xs (.str s):=λs hs=>⟨rfl,λp hp=>by
     rw [fQ];refine cg λe=>?_;obtain⟨c,h1,h2⟩:=lett p hp;rw [e] at h1;have:=PR.mp hs c h1;simp only [decide_eq_true_eq] at this;exact this h2⟩
    rcases hz with⟨y,hy,rfl⟩ | h | h | h | h | h | h | h | h | h | h
    ·exact⟨rfl,λp hp=>by rw [fQ];exact cg (zn y hy p hp)⟩
    ·rw [h];exact⟨rfl,λp hp=>by simp [N4]⟩
    ·rw [h];exact⟨rfl,λp hp=>by simp [N4]⟩
    ·rw [h];exact⟨rfl,λp hp=>by simp [N4]⟩
    ·rw [h];exact no _ U0
    ·rw [h];exact no _ U0
    all_goals (rw [h];exact⟨rfl,λp hp=>by simp [N4]⟩)
   have oddl:0 < (Od NP zs++[P2,PF true,NQ 0,NP (NL ""),NP (NL "A"),N3 [],Ow [],S0 [],N3 [NP (NL "paper")],N3 [Ow []]]).length/\(Od NP zs++[P2,PF true,NQ 0,NP (NL ""),NP (NL "A"),N3 [],Ow [],S0 [],N3 [NP (NL "paper")],N3 [Ow []]]).length<=18:=by
    rw [OR,NO];constructor
    ·show 0 < zs.length+10;omega
    ·show zs.length+10<=18;omega
   generalize Od NP zs++[P2,PF true,NQ 0,NP (NL ""),NP (NL "A"),N3 [],Ow [],S0 [],N3 [NP (NL "paper")],N3 [Ow []]]=OL at odd oddl⊢;refine⟨U2,U2,λi δ=>∃o7 o8 o9 o10 o11 o12 o13:Option Sl,δ=[some (Sl.v (eS (ns.map .int))),some (Sl.v (.list (iW.map .str))),some (Sl.v (.tuple (xs.map De.enc))),some (Sl.v (.list (nms.map .str))),some (Sl.v (.int far)),some (Sl.v (qa (aN xs))),some (Sl.v (.list OL)),o7,o8,o9,o10,o11,o12,o13],⟨_,_,_,_,_,_,_,rfl⟩,?_,?_⟩
   ·rintro i z δ hz ⟨o7,o8,o9,o10,o11,o12,o13,rfl⟩;obtain⟨hi,rfl⟩:=jP hz;clear hz;generalize hB:fx (g6 _ _ _) _=TB;walk_at "d";have xl:0 < xs.length:=Tr.mpr x0;refine⟨ns,_,rfl,U2,U2,λc=>⟨c,rfl,_,rfl,by rw [NO];omega,by rw [NO];omega,λv v0 v1=>?_⟩⟩;rw [NO] at v1;obtain⟨j,rfl⟩:=Pm v0;have hj:j < xs.length:=U2
    have ej:∃rx,xs[j].enc= .tuple (.str xs[j].w:: .int xs[j].d:: .str xs[j].nm::rx):=by cases xs[j] <;> exact⟨_,rfl⟩
    obtain⟨rx,ej⟩:=ej;refine⟨_,rfl,_,fN (by simp [hj];exact ej),_,rfl,_,dG,4,rfl,U1,U1,λu u0 u1=>⟨_,rfl,?_⟩⟩;obtain⟨e,ee⟩:∃e:Int,atI [NQ 0,NQ 1,NQ (-1),NQ 7] u=some (.int e):=by
     have:u=0\/u=1\/u=2\/u=3:=U2
     rcases this with h | h | h | h <;> subst h <;> exact⟨_,rfl⟩
    refine⟨_,ee,_,rfl,_,rfl,?_⟩;generalize (if xs[j].d+e > 0 then xs[j].d+e else 0)=n;generalize hE:eT.mk _ _ _ _=EE;have hnx:∀o7 o8 o9 o10 o11 o12 o13,EE.nx [some (Sl.v (eS (ns.map .int))),some (Sl.v (.list (iW.map .str))),some (Sl.v (.tuple (xs.map De.enc))),some (Sl.v (.list (nms.map .str))),some (Sl.v (.int far)),some (Sl.v (qa (aN xs))),some (Sl.v (.list OL)),o7,o8,o9,o10,o11,o12,o13]:=λo7 o8 o9 o10 o11 o12 o13=>by subst hE;exact⟨_,_,_,_,_,_,_,rfl⟩
    have hrt:EE.rt=Q:=by subst hE;rfl
    clear hE;subst hB;refine cK λR hR=>?_;walk_at "d";have key:∀n':Int,R EE [some (Sl.v (eS (ns.map .int))),some (Sl.v (.list (iW.map .str))),some (Sl.v (.tuple (xs.map De.enc))),some (Sl.v (.list (nms.map .str))),some (Sl.v (.int far)),some (Sl.v (qa (aN xs))),some (Sl.v (.list OL)),some (Sl.v (NQ (30+(i:Int)))),some (Sl.v fB),some (Sl.v (.int n')),o10,o11,o12,o13]:=λn'=>by
     subst hR;walk_at "d";refine⟨λi2 δ=>∃(g:List (Str×Int))(o11 o12:Option Sl),g.length<=i2/\δ=[some (Sl.v (eS (ns.map .int))),some (Sl.v (.list (iW.map .str))),some (Sl.v (.tuple (xs.map De.enc))),some (Sl.v (.list (nms.map .str))),some (Sl.v (.int far)),some (Sl.v (qa (aN xs))),some (Sl.v (.list OL)),some (Sl.v (NQ (30+(i:Int)))),some (Sl.v fB),some (Sl.v (.int n')),some (Sl.k (iX g)),o11,o12,o13],⟨[],_,_,U6,rfl⟩,?_,?_⟩
     ·rintro i2 z δ hz ⟨g,o11,o12,gl2,rfl⟩;rw [Ob] at hz;cases hz':nms[i2]? with
      | none=>rw [hz'] at hz;cases hz
      | some nm=>
       rw [hz'] at hz;cases hz;have i8:i2 < 8:=by rw [<-nl];exact(N7.mp hz').1
       walk_at "d";refine⟨7,rfl,U1,U1,λy y0 y1=>⟨_,rfl,?_⟩⟩;split
       ·rename_i hy;obtain⟨e2,ee2⟩:∃e:Int,atI [NQ (-1),NQ 0,NQ 1,NQ (-9),NQ 30] (y - 2)=some (.int e):=by
         have:y=2\/y=3\/y=4\/y=5\/y=6:=U2
         rcases this with h | h | h | h | h <;> subst h <;> exact⟨_,rfl⟩
        obtain⟨g',eg,lg⟩:=NH g nm (if n'+e2 > 0 then n'+e2 else 0);refine⟨_,rfl,_,ee2,_,rfl,by rw [NG];omega,g',U2,eg,_,rfl⟩
       ·exact⟨g,U2,rfl,_,rfl⟩
     ·rintro δ ⟨g,o11,o12,_,rfl⟩;walk_at "d";refine⟨_,rfl,by have:=oddl.1;omega,by have:=oddl.2;omega,λy y0 y1=>?_⟩;obtain⟨k,rfl⟩:=Pm y0;have hk:k < OL.length:=U2
      obtain⟨G,eG⟩:∃G:Gn,eZ (g.map (·.1)) (Od (λx=>x.snd) (iX g))=G.enc:=⟨⟨g.map (·.1),g.map (·.2)⟩,by unfold iX Gn.enc;rw [Oe,Oe];rfl⟩;refine⟨_,rfl,OL[k],fN (by simp [hk]),g.map (·.1),by unfold iX;rw [Oe,Oe];rfl,?_⟩;rw [eG];refine⟨xs,n',G,rfl,gl,r5,true,rfl,?_⟩;rw [U3 U1];refine⟨xs,n',_,rfl,gd.gx,odd _ (Py hk),true,rfl,?_⟩;rw [U3 U1];exact hnx _ _ _ _ _ _ _
    refine⟨8,rfl,U1,U1,λy y0 y1=>⟨fF,?_⟩⟩;split
    ·refine⟨U1,3,rfl,U1,U1,λy2 y20 y21=>⟨_,rfl,?_⟩⟩;obtain⟨n',en⟩:∃e:Int,atI [NQ 2921939,NQ 2921940,NQ (10 ^ Int.toNat 30)] y2=some (.int e):=by
      have:y2=0\/y2=1\/y2=2:=U2
      rcases this with h | h | h <;> subst h <;> exact⟨_,rfl⟩
     exact⟨_,en,key n'⟩
    ·exact key n
   ·rintro δ ⟨o7,o8,o9,o10,o11,o12,o13,rfl⟩;walk_at "d";exact q
end
end K17
namespace PySem.W.Fast
def tw10716712444208732397:=0
def tw8119827103543176100:=0
def tw12986205872957199115:=0
def tw4179939503807596863:=0
def tw5255068360895854985:=0
def tw17146579439136125932:=0
def tw11184965019905030026:=0
def tw829204483582570248:=0
def tw7364742118008078766:=0
def tw11638793918907277194:=0
def tw18426044134893453470:=0
def tw13824362961601999021:=0
def tw3418320640963014684:=0
def tw17011628317995487051:=0
def tw15923765339356924091:=0
def tw3816133661439418216:=0
def tw15631932829246948844:=0
def tw4662332887579783095:=0
def tw3131718036163224337:=0
def tw17876576390077758207:=0
def tw11496921194760156438:=0
def tw17523935018345818025:=0
def tw6434860568476330100:=0
def tw17547908959487154590:=0
def tw1192584453103912331:=0
def tw4011236711058139099:=0
def tw216141473481582337:=0
def tw10148186446775964178:=0
def tw7769618500096557741:=0
def tw4323475780609149866:=0
def tw13763012459549751964:=0
def tw14849877107780955557:=0
def tw9477530693263947039:=0
def tw13221578024294062020:=0
def tw1779762334062117482:=0
def tw15161517282093717209:=0
def tw10054927671179436024:=0
def tw16567179209657510909:=0
def tw3150552108447221028:=0
def tw4622649215537573318:=0
def tw4476062033437832383:=0
def tw955883919727188076:=0
def tw1051753593136657662:=0
def tw8742006368199139766:=0
def tw8192942858412206621:=0
def tw12733692059392589303:=0
def tw9433245761619936880:=0
def tw10262077149352087148:=0
def tw14939163561853689173:=0
def tw8289663748069210078:=0
def tw6878725558868672839:=0
def tw465409867202428452:=0
def tw18386015209612085249:=0
def tw11784860444655699325:=0
def tw18362115812173396227:=0
def tw11184693330763416175:=0
def tw6680217054651636112:=0
def tw11340496489237015494:=0
def tw12993389485151740452:=0
def tw13880624141802150894:=0
def tw3346543147148220893:=0
def tw760078928549644419:=0
def tw6411615992629533036:=0
def tw16543540035147729375:=0
def tw12303648928123489188:=0
def tw837742734195216786:=0
def tw2791146241663622138:=0
def tw9855579422164668559:=0
def tw11862018502237283795:=0
def tw5956515055326500197:=0
def tw14446347383947421166:=0
def tw4407107510770003549:=0
def tw6121396596721762250:=0
def tw8843946218671239357:=0
def tw14360954513546251887:=0
def tw17685549638444601443:=0
def tw10904669055806885284:=0
def tw4190933841932143984:=0
def tw7808649550028350225:=0
def tw12245449227364833576:=0
def tw8001544782061714561:=0
def tw479274739938736801:=0
def tw4489152128585528893:=0
def tw16857827351445264922:=0
def tw8094223230001393302:=0
def tw996148764820905802:=0
def tw9704169417219521006:=0
def tw15536639281658632987:=0
def tw1288740285281649825:=0
def tw14813126170494347184:=0
def tw3694773100383584126:=0
def tw13785396901719299654:=0
def tw4457370178120173117:=0
def tw18239675456104712482:=0
def tw17910332444058525979:=0
def tw15236244187516126893:=0
def tw7203876817297377785:=0
def tw2088508246570076892:=0
def tw5646782710255022629:=0
def tw17126077160085763309:=0
def tw8299847121998834211:=0
def tw3332831320604205543:=0
def tw10938750838997271905:=0
def tw5261973927740042279:=0
def tw16302848615053569569:=0
def tw182050959840461713:=0
def tw5294684003326985895:=0
def tw14673616289167437312:=0
def tw5471688372791005183:=0
def tw16329597886392870618:=0
def tw2755764035840624384:=0
def tw3131631052508384877:=0
def tw609304917152663290:=0
def tw2328521199880973780:=0
def tw10210734583954067552:=0
def tw3328055311851612056:=0
def tw15713954063837465282:=0
def tw16495062390577902975:=0
def tw309705456866163068:=0
def tw7491838717195022425:=0
def tw4875662368278170726:=0
def tw7667658970350149581:=0
def tw15379811338303636905:=0
def tw16801078026050462858:=0
def tw2813977566016394745:=0
def tw6396448521403081151:=0
def tw12612750431806351232:=0
def tw3597538255020078688:=0
def tw271602769630910696:=0
def tw8891499654357021835:=0
def tw14574006033128347988:=0
def tw16075982972979293029:=0
def tw7477078379087601634:=0
def tw15171542032249491016:=0
def tw9972098036711278721:=0
def tw18154310485988547231:=0
def tw8019692803781167033:=0
def tw3194693067129608498:=0
def tw4108454625934949629:=0
def tw12180480068734872322:=0
def tw2685725376464106759:=0
def tw1884130128205661764:=0
def tw2629183692670824362:=0
def tw5015692666853579865:=0
def tw10356152237266049945:=0
def tw10192410138972646856:=0
def tw10152633248270462310:=0
def tw9709766909124893963:=0
def tw8974930684436713913:=0
def tw11785744886038989555:=0
def tw5484571213106473198:=0
def tw17715051283758888895:=0
def tw645805988900888540:=0
def tw2109969812820380036:=0
def tw12249568274122656720:=0
def tw6452349169292204067:=0
def tw14842616268103128648:=0
def tw2176895921915645927:=0
def tw14571232610484990752:=0
def tw7001143200924742105:=0
def tw7374012432760469863:=0
def tw13562658093199207808:=0
def tw4796609341053117676:=0
def tw2304452225155644352:=0
def tw8653602939670754627:=0
def tw4069722017201794196:=0
def tw3276438731358320436:=0
def tw14762541491796820275:=0
def tw18006031876236372168:=0
def tw12263972095108342480:=0
def tw14173577573599556769:=0
def tw12987001727255978167:=0
def tw2381070270872946858:=0
def tw8119073323044090209:=0
def tw5756914274063065998:=0
def tw5623115040028370152:=0
def tw16910999500443505563:=0
def tw16830502069033514359:=0
def tw11298616753265405975:=0
def tw16627112459834701068:=0
def tw10157878906512238963:=0
def tw16306313570427879954:=0
def tw13061065836294289696:=0
def tw4090626935384871274:=0
def tw13387070053226999521:=0
def tw12889321776814811592:=0
def tw8333613392005078858:=0
def tw18349284288104678804:=0
def tw1399438979013435375:=0
def tw12082479872444638778:=0
def tw8375738870368596678:=0
def tw9380208273665785599:=0
def tw3485515199687250552:=0
def tw15617909602710227838:=0
def tw17589965303569486780:=0
def tw10011905749390653773:=0
def tw3140965903865520122:=0
def tw15729503353988630081:=0
def tw16997304547840240780:=0
def tw9898657033399069076:=0
def tw389271348012755469:=0
def tw13100100819081841595:=0
def tw15824364260473341565:=0
def tw16822155148201569257:=0
def tw6954845983007631860:=0
def tw6951016062271951439:=0
def tw5609021329956416293:=0
def tw14979847716569223961:=0
def tw14454160087922325022:=0
def tw3564944213699320240:=0
def tw3876365147454733656:=0
def tw2109868414166686206:=0
def tw15328811624711029688:=0
def tw6203178833768821584:=0
def tw17576615434077622421:=0
def tw6973005205164593280:=0
def tw8867507085057904107:=0
def tw12619170358990718949:=0
def tw11588588755540997099:=0
def tw7184840299129722601:=0
def tw17562138846704969595:=0
def tw6957021571775288885:=0
def tw5339119329832796350:=0
def tw883332365922117307:=0
def tw11530888347641604954:=0
def tw13801763121227098625:=0
def tw2389015786079708881:=0
def tw5144911253463721956:=0
def tw11275981182032405147:=0
def tw16948413687627325146:=0
def tw1208517276439301422:=0
def tw16685825754813115901:=0
def tw16621043926125855438:=0
def tw9337114996389594163:=0
def tw7378257487146265878:=0
def tw2739542291457530432:=0
def tw17295413460919200618:=0
def tw13281215103836079616:=0
def tw9908893400728935838:=0
def tw7121897552659921578:=0
def tw376274488893496457:=0
def tw17456865450268432772:=0
def tw12125301004848031917:=0
def tw7789564255950279361:=0
def tw2815315223341768207:=0
def tw14392813206419980626:=0
def tw5151682952426285713:=0
def tw13382462227124357431:=0
def tw1142748880244485913:=0
def tw10650576485657708766:=0
def tw8566254963894005975:=0
def tw3616274072075847624:=0
def tw357884840750682177:=0
def tw17689470971404658822:=0
def tw18238528903859810500:=0
def tw10760565323403532542:=0
def tw7078823949288435211:=0
def tw5397928242040309689:=0
def tw12095992618483363287:=0
def tw10355405268731187632:=0
def tw978920554380562398:=0
def tw10971350265411827479:=0
def tw15662170745937065032:=0
def tw7711657988203537864:=0
def tw16261880798316879577:=0
def tw6030394934609275719:=0
def tw5062786409363478807:=0
def tw5284585645574083742:=0
def tw4396941853244432065:=0
def tw10954694745970048438:=0
def tw13847669880150454718:=0
def tw4237539304089903757:=0
def tw1228369808259176667:=0
def tw12055325620151190154:=0
def tw10567149245609402971:=0
def tw4447002942014824466:=0
def tw5757008581050501388:=0
def tw4922432573721335904:=0
def tw18057783802060913553:=0
def tw16802192986786004043:=0
def tw11685514986414028512:=0
def tw1795884072872617811:=0
def tw15400093772858768054:=0
def tw6211651638314728841:=0
def tw12110380509398865432:=0
def tw7038392193056132210:=0
def tw1839100901315219180:=0
def tw15767836606806969001:=0
def tw14486218440778374363:=0
def tw13537750613625750011:=0
def tw17055080698265132815:=0
def tw10738311494193920696:=0
def tw17913639865123044529:=0
def tw16355423056666857587:=0
def tw10263813850513792900:=0
def tw1140811689886281139:=0
def tw8172031838231720405:=0
def tw7894271076064659765:=0
def tw14792846607112892549:=0
def tw8603374645591003824:=0
def tw6049850112502239000:=0
def tw9816515359163291531:=0
def tw770275149568114027:=0
def tw15596212915086100839:=0
def tw5458419968052289997:=0
def tw834992755006996251:=0
def tw280742415410862459:=0
def tw5563488463150869191:=0
def tw7776667943271778760:=0
def tw17806226724169444002:=0
def tw13501343514900026582:=0
def tw6947524700270423671:=0
def tw15469202833211129008:=0
def tw8886008882036239796:=0
def tw2012909731068861556:=0
def tw13465115181347975740:=0
def tw16300131800377015146:=0
def tw7852152707914595796:=0
def tw14313317793581066452:=0
def tw9599690352813437740:=0
def tw7513954222127855535:=0
def tw5904947172386967399:=0
def tw5686179470681097338:=0
def tw4472251479921201524:=0
def tw3486510549848800694:=0
def tw17701814027202713116:=0
def tw17620360473972013690:=0
def tw15643247132945825873:=0
def tw14185279986768965916:=0
def tw13688513539530640798:=0
def tw12319928572760271225:=0
def tw12143990982184523577:=0
def tw16547477570677163094:=0
def tw3352566222852426852:=0
def tw13431895408582776255:=0
def tw15577708790361438021:=0
def tw14610060744271503696:=0
def tw13438139353572482695:=0
def tw840814363861256793:=0
def tw3815936394806613273:=0
def tw8252602697726145158:=0
def tw10188245213317673181:=0
def tw7863310592723306050:=0
def tw1382871696545659300:=0
def tw11371210180715798328:=0
def tw8155471052656139566:=0
def tw2358838680000422084:=0
def tw7816508208306743194:=0
def tw8477351458462357538:=0
def tw6825085519243599483:=0
def tw509936431602240840:=0
def tw14984166027895843482:=0
def tw10320500872525100678:=0
def tw5832077811343080048:=0
def tw18056468712814999394:=0
def tw14245824479876238975:=0
def tw8521019915143622202:=0
def tw7963214405527184210:=0
def tw7956898331942591630:=0
def tw4316137926078653786:=0
def tw167973670192680376:=0
def tw15421059295974946864:=0
def tw14117012378873665677:=0
def tw1317230106070840644:=0
def tw12481141472154072908:=0
def tw12432951517518587497:=0
def tw11475041526268812834:=0
def tw10285293955950301322:=0
def tw1011694184677090210:=0
def tw9899198740539356866:=0
def tw9115343530577170874:=0
def tw8800707788498754366:=0
def tw7254470687991347644:=0
def tw6511043762879100224:=0
def tw6279629544236115056:=0
def tw6001478468839529332:=0
def tw564281874751151920:=0
def tw2521350583654937335:=0
def tw204664546141770543:=0
def tw18357540607022874169:=0
def tw17341107028075378469:=0
def tw12989012434650495556:=0
def tw11623320362041102372:=0
def tw543323837594600684:=0
def tw8410459895311945871:=0
def tw8021667897557395959:=0
def tw7485159885451877295:=0
def tw6830919414587788673:=0
def tw2792953098846186003:=0
def tw2484767167564565680:=0
def tw16128490638636726132:=0
def tw13555773669346650065:=0
def tw12326226054903526354:=0
def tw11856617643095782193:=0
def tw10885345657396319142:=0
def tw7219203035077254278:=0
def tw6017878371479093230:=0
def tw4550217497927294401:=0
def tw2721326890431992472:=0
def tw1916890297827720552:=0
def tw18032815675087594326:=0
def tw1750191675812330656:=0
def tw15641164606404852618:=0
def tw15076879647962332553:=0
def tw15022091377461768440:=0
def tw14173178600356420058:=0
def tw12876832481984562761:=0
def tw12656426375184053273:=0
def tw9949778208197891057:=0
def tw9689236572354289521:=0
def tw9643501685147992991:=0
def tw9500508099815723586:=0
def tw9404873448409029013:=0
def tw9340990883232116484:=0
def tw9179162444223535633:=0
def tw9101447835082567195:=0
def tw9028763514812935237:=0
def tw8979903468714180743:=0
def tw8807421043947904911:=0
def tw8554656160276612032:=0
def tw8450699935937639128:=0
def tw843689672597651972:=0
def tw8414718656091141287:=0
def tw8151211518451760447:=0
def tw7988141961299235116:=0
def tw793965378479489941:=0
def tw7832043295472075057:=0
def tw776738698247423920:=0
def tw7695900701386061705:=0
def tw7182023581162173461:=0
def tw7019447556555585829:=0
def tw6538105146834777181:=0
def tw6508717095248069182:=0
def tw5683519910678307961:=0
def tw5497182788937641097:=0
def tw5377072951877380921:=0
def tw5347056732333867146:=0
def tw5319623251232214847:=0
def tw511074347266969808:=0
def tw484675560548552893:=0
def tw4745204708474338197:=0
def tw4533440242871916837:=0
def tw4504040502508062636:=0
def tw4313582148144795727:=0
def tw4258160197595086905:=0
def tw421761392810437583:=0
def tw3918113466828720451:=0
def tw3887411454115649705:=0
def tw3700645912732913021:=0
def tw3644132962330106203:=0
def tw3643082340972175467:=0
def tw3635901510225066684:=0
def tw3562894310707479715:=0
def tw3453213660529411820:=0
def tw3339646813393231747:=0
def tw3310612269473126066:=0
def tw3281640503765389669:=0
def tw2849160712726389887:=0
def tw2838939341425744874:=0
def tw2756713132814056711:=0
def tw271208705311002682:=0
def tw2538544206184219334:=0
def tw2507763423087140759:=0
def tw2291578264393606555:=0
def tw1934651386316157615:=0
def tw18411011423816553395:=0
def tw18372961093207933823:=0
def tw18242209760012862954:=0
def tw18156683894660138963:=0
def tw18122143589478479912:=0
def tw18049887042151416328:=0
def tw18018456303252079272:=0
def tw1789575468663863028:=0
def tw17758779623287816703:=0
def tw1764236868054606350:=0
def tw17568106872040556324:=0
def tw17323961340882144837:=0
def tw17015593182688290658:=0
def tw16959359063261360178:=0
def tw16558225083186593384:=0
def tw16386273858511851464:=0
def tw16239778163631255523:=0
def tw16197849306242355142:=0
def tw16155397287317030642:=0
def tw160374996236345765:=0
def tw16017962940724948158:=0
def tw15774718356969231345:=0
def tw15730220538149478868:=0
def tw15676544609319426546:=0
def tw15658622648964460035:=0
def tw15630263010873290776:=0
def tw15593157878279293014:=0
def tw15565968557948727686:=0
def tw15464123243209059044:=0
def tw15459405555862831937:=0
def tw15370604472041430539:=0
def tw15230088415746430928:=0
def tw14692229542510110132:=0
def tw14441806715999719292:=0
def tw14441308200553713852:=0
def tw13955441315879394725:=0
def tw13556228522241002607:=0
def tw13495177369557814602:=0
def tw13266494093106550739:=0
def tw13213040388455214918:=0
def tw13121566059494310342:=0
def tw12820114240552849881:=0
def tw12630266554532560849:=0
def tw12427445716154877914:=0
def tw12235177345025499406:=0
def tw12231582258325679909:=0
def tw11702896686663893347:=0
def tw11406460012815161174:=0
def tw11370277577720853004:=0
def tw11347815039227106703:=0
def tw11326310745991677769:=0
def tw1110426932995665265:=0
def tw11041310749141535351:=0
def tw10268907644128231126:=0
def tw10230764671855171966:=0
end PySem.W.Fast
open PySem PySem.W PyProof.Rows
local macro_rules | `(tactic| walk_at "f")=>`(tactic| (refine' L2.DfT.of ?a ?l ?c ?k;(case a=>k_is);(case l=>k_is);(case c=>k_is);(case k=>k_is)))
local macro_rules | `(tactic| walk_at "m")=>`(tactic| (refine' L2.DmT.of ?a ?i ?l ?c ?k;(case a=>k_is);(case i=>k_is);(case l=>k_is);(case c=>k_is);(case k=>k_is)))
local macro_rules | `(tactic| walk_at "c")=>`(tactic| (refine'⟨⟨?a,?i,?l,?c⟩,?m,?k⟩;(case a=>k_is);(case i=>k_is);(case l=>k_is);(case c=>k_is);(case m=>k_is);(case k=>k_is)))
set_option maxRecDepth 100000 in
theorem PySem.Challenge.cw_goneday_k17_calls_and_leaves_holds : PySem.Challenge.rw_goneday_k17_calls_and_leaves.Holds := by
 w_on;o_law;k_head;(case hw=>w_witness2)
 k_fill
 refine' L2.walk_ofTL (l:=PySem.Challenge.rw_goneday_k17_calls_and_leaves) (n:=63) (k:=16) (x:="_law_script") (qn:=K17.lamQ) (nm:="_law_no_paper") (c:=?cc) (PT:=?pp) (sp:=K17.sp_law) rfl U1 rfl ⟨rfl,U1,U1⟩ (λw h Y=>PySem.W.km_in_of Y) rfl ?F ?S
 case F=>
  intro w mg fa h KX G hmg;have hnt:PySem.W.noTabs (L2.KOf KX)=true:=by
   dsimp only [L2.KOf]
   kernel_rfl
  have hti:PySem.W.tabIn (L2.KOf KX) "_law_no_paper"=some (?cc,?pp):=by
   dsimp only [L2.KOf];refine' L2.tabIn_of ?a ?b ?c ?d ?e
   (case a | b=>k_is)
   (case c=>rfl)
   (case d=>k_is)
   (case e=>rfl)
  have T:∃t,K17.Txt (L2.KOf KX) mg t:=by
   dsimp only [L2.KOf];refine' K17.txt_mk KX G ?za ?zb ?zc ?zd ?ze ?zf ?zg ?zh ?zi ?zj ?zk ?zl ?zm ?zn ?zo ?zp ?zq ?zr ?zs ?zt ?zu ?zv ?zw ?zx ?zy ?zz ?zA ?zB ?zC ?zD ?zE ?zF ?zG ?zH ?zI ?zJ ?zK ?zL ?zM ?zN ?zO ?zP ?zQ ?zR ?zS ?zT ?zU ?zV ?zW ?zX ?zY ?zZ ?ya ?yb ?yc ?yd ?ye ?yf ?yg ?yh ?yi ?yj ?yk ?yl ?ym ?yn ?yo ?yp ?yq ?yr ?ys ?yt ?yu ?yv ?yw ?yx ?yy ?yz ?yA ?yB ?yC ?yD ?yE ?yF ?yG ?yH ?yI ?yJ ?yK ?yL ?yM ?yN ?yO ?yP ?yQ ?yR ?yS ?yT ?yU ?yV ?yW ?yX ?yY ?yZ ?xa ?xb ?xc ?xd ?xe ?xf ?xg ?xh
   (case za | zb | zc | zd | ze | zf | zg | zh | zj | zk | zl | zm | zn | zo | zp | zq | zr | zs | zt | zu | zv | zw | zx | zy | zz | zA | zB | zC | zD | zE | zF | zG | zH | zI | zJ | zK | zL | zM | zN | zO | zP | zQ | zR | zS | zT | zU | zV | zW | zX | zY | zZ=>walk_at "f")
   (case ya | yb=>k_is)
   (case yc=>first | (repeat (first | exact .nil | refine .cons ⟨_,rfl⟩ ?_)))
   (case yd=>decide)
   (case ye=>k_is)
   (case yf=>exact⟨_,rfl⟩)
   (case yg=>k_is)
   (case yh=>exact⟨_,rfl⟩)
   (case yi=>k_is)
   (case yj=>exact⟨_,rfl⟩)
   (case yk | yl | ym | yn | yo | yp | yq | yr | ys | yt | yu | yv | yw=>k_is)
   (case yx=>walk_at "c")
   (case yy | yz | yA | yB | yC=>unfold L2.NoAttr;k_is)
   (case yD | yE | yF | yG | yH | yI | yJ | yK | yL | yM | yN | yO | yP=>first | k_is | k_exc | kit_is)
   (case yQ | yR | yS | yT | yU | yV | yW | yX | yY | yZ | xa | xb | xc | xd | xe | xf | xg | xh=>k_is)
   (case zi=>walk_at "m")
  obtain⟨t,T⟩:=T;have e0:=hmg.symm.trans T.F_z.m;cases e0;have hF:∃oc od osl,(L2.KOf KX).lookup t.a_z=some ⟨oc,od,.func t.d_z,osl⟩:=by
   obtain⟨oc,od,kV,doc,pm,an,cdv,ct,osl,e,lk,_⟩:=T.F_z.F.ex;exact⟨oc,od,osl,lk⟩
  have hF2:∃oc od osl,(L2.KOf KX).lookup t.a_y=some ⟨oc,od,.func t.d_y,osl⟩:=by
   obtain⟨oc,od,kV,doc,pm,an,cdv,ct,osl,e,lk,_⟩:=T.F_y.F.ex;exact⟨oc,od,osl,lk⟩
  exact⟨t.d_z,t.a_y,t.d_y,hnt,hti,T.bt_z,hF,T.F_y.m,hF2,λbase kb nb LF hco=>K17.ok_law T LF hco⟩
 case S=>exact λK H a ns hl hb hP hS=>K17.start_law hl hb hP hS
