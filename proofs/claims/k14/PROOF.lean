import PyProof.Rows.All
import Wide.All
import OpenK.AllK
import PySem.Challenge.RW_goneday_k14_whole_two_sets_beside
open PySem.Str renaming ofString->Lk,ofString->Ln
open PySem.W renaming Frag->Ll,nsIn->Mh,mg_none_of->Ml,emptyDict->MS,fnOf->MW,findIn->Na,instObj->Ng,keepIn->Nl,mg_of->NG,codeIn->Od,cellsFrom_some->Oo,methodObj->O6,hasDictIn->O7,plainGet->Pj,takerIn->PK,makesIn->PM,lookIn->P7,callWith_K->Qv,isFn->Qw,plainOver->QL,handedIn->QS,OpenLaw->Q5,WalkO->Ro
open List renaming length_map->Lm,map_cons->Lq,mem_map->Lv,size_toArray->Lw,getElem?_eq_some_iff->Lz,replicate->LC,getElem?_map->LD,mem_cons->LF,getElem?_eq_getElem->LG,map_map->LH,mem_append->LI,mem_filter->LM,length_append->LN,pairwise_map->LO,length_cons->LP,mem_of_getElem?->LQ,map_append->LS,mem_singleton->LX,mem_cons_of_mem->L0,take_of_length_le->L3,lookup_cons->L4,mem_append_right->L5,mem_cons_self->L9,getElem?_set_ne->Ma,length_take->Mc,map->Mm,length_filter_le->Mo,map_nil->Mp,nil_append->Mq,filter_cons->Ms,getElem?_set_self->Mt,range->Mv,append_nil->Mw,take_succ->Mx,pairwise_cons->Mz,mem_append_left->MF,mem_of_mem_take->MG,getElem?_append_left->MH,pairwise_iff_getElem->MI,filter_sublist->MK,Nodup->ML,nodup_cons->MO,any_eq_true->MQ,getElem?_append_right->MR,find?_cons->MV,not_mem_nil->MX,length_nil->MZ,replicate_succ->M4,any_cons->M7,getElem_mem->M8,length_replicate->Nb,foldl_cons->Nh,getElem?_of_mem->Ni,filterMap_cons->Nk,ext_getElem->Nm,contains_iff_mem->Nr,take_sublist->Nu,flatten_cons->Nv,nodup_append->Nw,foldl->Ny,getElem?_replicate->NB,getElem?_cons_succ->ND,mem_filterMap->NJ,filter_append->NP,lookup->NQ,getElem?_eq_none->NT,getElem_inj->NW,cons_append->NX,getD_eq_getElem?_getD->NY,map_take->NZ,perm_ext_iff_of_nodup->N0,drop_eq_getElem_cons->N3,length_eq_zero_iff->Og,getElem?_cons_zero->Oh,append_assoc->Oi,length_range->Oj,length->Oq,filter->Ow,length_drop->OB,map_snd_zip->OD,length_singleton->OF,filterMap_append->OH,range_succ->OJ,toArray->OL,eq_nil_iff_forall_not_mem->OM,set_cons_zero->OS,set_cons_succ->OT,getElem?_nil->Pd,mem_of_find?_eq_some->Pf,all_eq_true->Pn,any_map->Po,mem_flatMap->PF,of_mem_zip->PN,drop_of_length_le->P0,filter_eq_nil_iff->P4,mem_range->P5,take_append_drop->P9,perm_append_comm->Qc,pairwise_append->Qk,mem_of_mem_drop->Ql,length_pos_iff->Qo,filterMap_map->Qx,append_of_mem->QG,getElem_range->QI,any_eq_false->QK,getElem?_inj->QN,not_lt->QR,le_antisymm->QX,perm_middle->QY,getElem_map->QZ,map_fst_zip->Q1,forIn_cons->Q3,filter_nil->Q9,forIn_nil->Rf,take_zero->Rh,lt_irrefl->Ri,perm_cons->Rj,lt_trans->Rr,sum_cons->Ru,map_drop->Rv,all_cons->Ry,Pairwise->RA,all_nil->RJ,any_nil->RK
open PySem.Heap renaming get?_push_of_some->Lo,lt_size->LJ,get?_push_size->LU,SameBut->N7,size_push->Oc,get?_update_ne->OP,get?_update_other->PY
open PySem.PyData renaming str->Lp,int->Ly,strOk->LB,eqv->LL,tuple->LW,canLay0->L7,canLayAll0->MD,eqvAll->MY,list->M5,bool->Nf,depthAll->N4,depth->Oa,none->Ov
open Nat renaming le_refl->Lr,ne_of_lt->LV,le_trans->LY,zero_le->Mb,lt_of_lt_of_le->Md,lt_irrefl->Nj,le_of_lt->Nz,lt_or_ge->NS,reduceAdd->Oz,reduceSub->OA,le_succ->OQ,le_of_succ_le->O9,lt_succ_of_lt->Pa,ne_of_gt->Ph,lt_succ_self->Pk,le_of_not_lt->Pl,lt_trans->Pm,sub_self->Pz,add_zero->Qz,zero_add->QA,reduceLT->QB,min_le_right->QT,reduceLeDiff->Q0,mul_le_mul->Rg,le_of_eq->RD,mul_comm->RE
open PySem renaming Spec->Lu,Scope->LZ,boot_len->MA,mem_of_lookup->M3,Fin->PQ,Within->Qq,call->Q4,strKind->Rq
open Bool renaming false_ne_true->Lx,and_eq_true->Mf,false_eq_true->Nc,eq_iff_iff->NK,or_eq_true->NO,not_eq_true'->NR,true_and->Oy,or_false->O3,false_or->O4,false_and->P6,true_eq_false->QE,eq_false_iff->QQ,and_false->Rc,not_false->Rk,not_true->Rx,and_true->Rz,or_true->RG
open PySem.ScopeKind renaming function->LA
open PySem.NameKind renaming free->LK,globalImplicit->Me,free->ME,cell->Ox
open Array renaming length_toList->LR,getD_eq_getD_getElem?->MC,getD->NN,toList_inj->OC,toList_append->ON,perm_iff_toList_perm->O5,size_append->Pb,toList_map->Pr,toList_zip->Pu,mem_toList_iff->Qf,toList->RC
open PySem.Obj renaming mapSeq->L6
open PySem.Value renaming ref->L8,none->Nn,str->Np,bool->NI,int->NU,type->Qe,isStrOf->Rn,isInt->RL,bytes->RM,float->RN
open Option.some renaming inj->Mg,injEq->Om
open Sum renaming inr->Mi,inl->Pg
open PySem.PassesOwn renaming never->Mj
open List.cons renaming injEq->Mr,inj->NH
open PySem.SeqAt renaming canLay_of_shaped->Mu,shaped->MN,EqAt->RT
open Int renaming eq_ofNat_of_zero_le->My,fdiv_eq_ediv_of_nonneg->OW,fmod_eq_emod_of_nonneg->OX,toNat_natCast->O8,le_antisymm->PR,reduceNeg->Qm,reducePow->Qn,reduceLT->QC,reduceLE->QD,emod_lt_of_pos->QH,zero_add->QJ,lt_trichotomy->QO,emod_nonneg->Ra,le_refl->RR
open PyProof.Rows renaming boot_sorted->MB,slot_tuple_getitem->Nd,boot_max->Nt,callWith_type1->NV,bubble->OO,boot_sum->Qa,boot_min->Qb,entry_tuple_getitem->QW,args_tuple_getitem->Q2
open PySem.Builtin.Int renaming intBits->MJ
open PySem.Builtin.List renaming listTooLong->MM,listFitsIndex->M6,listUpdate->Of,listExtendWith->OR
open False renaming elim->MP
open PySem.Heap.SameBut renaming update->MT
open True renaming intro->MU
open PySem.PyData.str renaming injEq->M9
open PySem.PyData.tuple renaming injEq->Nq
open PySem.Builtin.Slice renaming slicePlaces->Nx,sliceAdjust->N1,sliceApplied->OY,sliceFields->RB
open PySem.Builtin.Tuple renaming tupleExact->NA,tupleItemsOf->OZ
open PySem.F renaming plainAttrs_list->NC,args_tuple_add_2->N9,slot_list_extend->Ob,entry_tuple_add->Oe,slot_tuple_add->Ot,slot_dict_get->OG,type_list_extend->Pq,slot_list_insert->Px,args_dict_get_2->PH,entry_dict_get->P1
open Function renaming comp->NF
open PySem.W.WData renaming int->NL,weightAll->N2,list->Pe,layableAll->QV,weight->RF
open ForInStep renaming yield->NM
open PySem.Calls renaming call_function_entry->N5,Name_function_global->OV,callWith_builtin->PZ,evalArgs_plain->Qg,spliced_cons->Qu,spliced_nil->QM
open PySem.W.KasT renaming kasWp_bind->N6
open Option renaming isSome_iff_exists->N8,isSome_map->Ol,join_some->PB,join_none->PD,isSome_some->Qy,getD_none->QU,map_some->Q7,map_none->Q8
open PySem.AutoListH renaming list___mul___list_int_3->Ou
open PySem.PyData.int renaming injEq->OE
open Or renaming inr->OI,inl->P8
open PySem.Paired renaming length->OU,snoc->RQ
open PySem.PyData.list renaming injEq->Pc
open PySem.AutoSeq1 renaming sub_tuple_tuple->Pw
open Nat.succ renaming inj->Py
open PySem.Builtin.Dict renaming updateFrom->PJ
open Sum.inr renaming inj->PV
open PyProof renaming noPylong_small->PX
open List.Perm renaming pairwise_iff->P2
open PySem.SeqAt.RcAt renaming tuple_str->Qh
open PySem.SeqAt.EqAt renaming str_tuple->Qi,str_int->Qp,int_str->RV,str_str->RY
open PySem.Around renaming under_plainId->Qj,under->Qs
open PyProof.Rows.IsTup renaming new->Qr
open PySem.Code renaming isFrame->Qt,frames->RP
open PySem.Expr renaming Call->QF,BinOp->Rb,Subscript->Rl,List->Rm
open PySem.PyData.bool renaming injEq->QP
open PySem.Heap.DictOf renaming new->Q6
open Prod.mk renaming injEq->Rt
open PySem.W.KatTups renaming cons->RH,nil->RS
open Prod renaming snd->RI
open PySem.CmpOp renaming NotIn->RO
open PySem.Walks renaming list->RU
open PySem.Flow renaming next->RW
open PySem.Heap.IsSliceOf renaming new->RX
open PySem renaming PyData->R6,Value->R7,Addr->R8,Shared->R9,wpAny_bind->Sa,sizeLine->Sb,Expr->Sd,starEach->Se,wpAny->Sf,wpAny_pure->Sg,model->Si,FuncData->Sj,Program->Sk,World->Sm,Heap->Sn,mainGlobals->So,Stmt->Sq,Around->Ss,foldedSetIterable->Su,compareOp->Sv,bootBuiltins->Sw,swapsWith->Sx,backTo->Sy,wpAny_mono->Sz,wpAny_holding->SA,behindInMarks->SD,sizeLine_eq->SE,wpAny_loadPart'->SF,cLine->SG,Scope->SH,cellsFrom->SI,attributeBase->SJ,wpAny_truthy_bool->SK,NameKind->SM,sysModules->SN,call_meets->SO,binaryOp->SQ,Keyword->SS,wpAny_passesOwn->SV,wpAny_newList->SW,wpAny_newObj_type->SX,wpAny_Call_Name_kw->SY,tupleKind_room_in1->S0,keywordEach->S4,getItem->S5,wpAny_call_entry->S6,sliceBounds->S7,wpAny_typeOf->S8,DictEntry->S9,assignEach->Tb,codeAny->Tc,typeIs_str->Td,subscripted->Tf,strIterType->Tg,backToKw->Ti,holding->To,PassesOwn->Tp,wpAny_execs_nil->Tr,letOwnedTupleGo->Ts,codeAny_mono->Tt,codeAny_builtin->Tv,tupleKind->Tx,wpAny_standAt->TB,swapsWithSole->TC,swappedStores->TF,wpAny_pyIter_list->TH,wpAny_binaryOp_repeat_ref->TJ,noFill_tuple_add->TK,wpAny_comprehension_free->TL,wpAny_callSpecial?_slot->TM,GenState->TN
open PyProof.Rows renaming seqObj->Sr,get?_update_seq->SR,listUpdate_at->SU,listItems_at->Ta,envOfC->Te,seqEpoch_at->Th,failedOf->Tj,AllBare->Tn,tuples'->Tq,entry_list_sort->Tu,slot_list_sort->Tw,assignInOrder_cons->Tz
theorem cp{p:Prop}[Decidable p](h:decide p=true:=by decide+kernel):p:=of_decide_eq_true h
theorem RZ{p:Prop}(h:p:=by decide):p:=h
theorem R0{p:Prop}(h:p:=by omega):p:=h
theorem R5{p:Prop}(h:p:=by simp):p:=h
theorem R1{c:Prop}{h:Decidable c}(k:¬c){α:Sort u}{t e:α}:ite c t e=e:=if_neg k
theorem R3{c:Prop}{h:Decidable c}(k:c){α:Sort u}{t e:α}:ite c t e=t:=if_pos k
abbrev TQ:=PySem.NameKind.local
set_option compiler.extract_closed false
def rzS:="↓Ad ↓Ak ↓Al ↓Am ↓An ↓Ao ↓rG ↓yQ ↓Bb ↓Bc ↓Bd ↓Be ↓Bf ↓Bg ↓yR ↓yS ↓yT ↓yU ↓yV ↓yW ↓yX ↓yY ↓yZ ↓y3 ↓y4 ↓y6 ↓y8 ↓y9 ↓z5 ↓z6 ↓z7 ↓z8 ↓z9 ↓Aa ↓Ab ↓Ac pW pX p5 pY pZ p7 mq p8 p9 qg qi pL dC fb dI qw qx qy qz kC qM qL qB qA dL mr pM jx gQ gR pN pO pP pQ pR pU ie xW xX xY xZ x4 x5 x6 x8 x9 yB yC yD yE yF yG yH yI yJ yK yL yM yN yO yP qE qN mL qC qD qF qG qH qI qK qO qP qR iX qj qm qo qp rA rE rq rz kK rD rC rg rj rF rJ rH rL rM rN ja rO rP rQ rR rV rW rY kM su sg sj sk sv sC sE sG sH sP sW sX sY nu sZ tf sR sS sU xQ xR xS xT ne_eq xJ xK xM xN xO xI kA kB qu kr qf qc qa iW gC dM kg lO jq Lq Mp LP MZ LC NX Mq Mw Oz OA Qz QA Pz Oh ND Pd OS OT Om exists_eq_left' exists_eq_left exists_and_left exists_and_right PB PD Sl.v.injEq Sl.o.injEq Sl.k.injEq OE QP M9 Nq Pc Mr and_true true_and QB Q0 exists_const decide_eq_true_eq QC QD Qm Qn NR decide_eq_false_iff_not and_assoc or_true true_or ↓reduceIte if_true if_false Nc QE not_true_eq_false not_false_eq_true Rx Rk ite_true ite_false eq_self exists_eq reduceCtorEq false_and and_false or_false false_or exists_false Q7 Q8 kn Ry RJ M7 RK Rz O3 Oy O4 gZ gE mG ik qT iZ i3 beq_self_eq_true fQ wX mH dn sizeLine_eq"
def rzT (n : String) : Lean.MacroM (Lean.TSyntax `tactic) := do
 let ts : Array (Lean.TSyntax `Lean.Parser.Tactic.simpLemma) <- ((n.splitOn " ").toArray).mapM λs =>do
  if s.startsWith "↓" then
   let i := Lean.mkIdent (s.drop 1).toString.toName
   `(Lean.Parser.Tactic.simpLemma| ↓ $i:ident)
  else
   let i := Lean.mkIdent s.toName
   `(Lean.Parser.Tactic.simpLemma| $i:ident)
 `(tactic| simp only [$ts,*])
local macro_rules|`(command|def $i:declId $s:optDeclSig $v:declVal)=>`(command|noncomputable def $i:declId $s:optDeclSig $v:declVal)|`(command|abbrev $i:declId $s:optDeclSig $v:declVal)=>`(command|noncomputable abbrev $i:declId $s:optDeclSig $v:declVal)
noncomputable section
set_option Elab.async false
set_option linter.all false
set_option maxRecDepth 100000
set_option maxHeartbeats 0
set_option genSizeOf false
namespace L2
open PySem PySem.Spec PyProof.Rows
abbrev ah:=Sum Int Str
def jj:ah->R7->Bool
 | .inl k,v=>RL k v
 | .inr x,v=>Rn x v
def Du(w:Sm):ah->Int
 | .inl k=>hashInt k
 | .inr x=>hashStr w x
theorem fG:∀{k:ah}{v:R7},jj k v=true->(∃i t,k=Pg i/\v=NU i t)\/(∃x t,k=Mi x/\v=Np x t)
 | .inl i,v,h=>by
  obtain⟨t,e⟩:=Value.isInt_shape (k:=i) (v:=v) h;exact .inl ⟨i,t,rfl,e⟩
 | .inr x,v,h=>by
  obtain⟨t,e⟩:=Value.isStrOf_shape (x:=x) (v:=v) h;exact .inr ⟨x,t,rfl,e⟩
theorem Dv(i:Int)(t:Tok):jj (.inl i) (.int i t)=true:=by simp [jj,RL]
theorem Dw(x:Str)(t:Tok):jj (.inr x) (.str x t)=true:=by simp [jj,Rn]
theorem Dx(a b:Int):decide ((Pg a:ah)=Pg b)=(a==b):=by
 by_cases e:a=b
 ·subst e;simp
 ·have h:¬(Pg a:ah)=Pg b:=λq=>e (Pg.inj q);rw [decide_eq_false h];exact(beq_eq_false_iff_ne.mpr e).symm
theorem Dy(a b:Str):decide ((Mi a:ah)=Mi b)=decide (a=b):=by
 by_cases e:a=b
 ·subst e;simp
 ·have h:¬(Mi a:ah)=Mi b:=λq=>e (PV q);rw [decide_eq_false h,decide_eq_false e]
theorem Dz(a:Int)(b:Str):decide ((Pg a:ah)=Mi b)=false:=decide_eq_false (λq=>nomatch q)
theorem DC(a:Str)(b:Int):decide ((Mi a:ah)=Pg b)=false:=decide_eq_false (λq=>nomatch q)
def bT(prog:Sk)(w:Sm):PySem.KeyKind prog w ah where
 is:=jj
 hash:=Du w
 inj:=λv a b ha hb=>by
  rcases fG ha with⟨i,t,rfl,rfl⟩ | ⟨x,t,rfl,rfl⟩
  ·rcases fG hb with⟨j,u,rfl,e⟩ | ⟨y,u,rfl,e⟩
   ·injection e with e1 _;rw [e1]
   ·exact nomatch e
  ·rcases fG hb with⟨j,u,rfl,e⟩ | ⟨y,u,rfl,e⟩
   ·exact nomatch e
   ·injection e with e1 _;rw [e1]
 byValue:=λk v h=>by
  rcases fG h with⟨i,t,rfl,rfl⟩ | ⟨x,t,rfl,rfl⟩ <;> rfl
 pyHash:=λhv h=>by
  rcases fG hv with⟨i,t,rfl,rfl⟩ | ⟨x,t,rfl,rfl⟩
  ·exact wpAny_pyHash_int h
  ·exact wpAny_pyHash_str h
 eqBool:=λhu hv h=>by
  rcases fG hu with⟨i,t,rfl,rfl⟩ | ⟨x,t,rfl,rfl⟩
  ·rcases fG hv with⟨j,u,rfl,rfl⟩ | ⟨y,u,rfl,rfl⟩
   ·rw [Dx] at h;exact wpAny_eqBool_int h
   ·rw [Dz] at h;exact RV i t y u _ _ _ _ h
  ·rcases fG hv with⟨j,u,rfl,rfl⟩ | ⟨y,u,rfl,rfl⟩
   ·rw [DC] at h;exact Qp x t j u _ _ _ _ h
   ·rw [Dy] at h;exact wpAny_eqBool_str h
 «strs»:=λk x t v h=>by
  rcases fG h with⟨i,u,rfl,e⟩ | ⟨y,u,rfl,e⟩
  ·exact nomatch e
  ·injection e with e1 _
   subst e1;cases v <;> rfl
theorem DD(prog:Sk)(w:Sm)(i:Int)(t:Tok):(bT prog w).is (.inl i) (.int i t)=true:=Dv i t
theorem DH(prog:Sk)(w:Sm)(x:Str)(t:Tok):(bT prog w).is (.inr x) (.str x t)=true:=Dw x t
inductive V where
 | non | bl (b:Bool) | int (i:Int) | str (x:Str) | byt (b:Array UInt8) | flt (b:UInt64) | ref (a:R8) | ty (n:String)
 deriving DecidableEq
def aC:V->R7->Prop
 | .non,u=>u=Nn
 | .bl b,u=>u=NI b
 | .int i,u=>∃t,u=NU i t
 | .str x,u=>∃t,u=Np x t
 | .byt b,u=>∃t,u=RM b t
 | .flt b,u=>∃t,u=RN b t
 | .ref a,u=>u=L8 a
 | .ty n,u=>u=Qe n
abbrev aA:List V->List R7->Prop:=Paired aC
theorem aA.length{xs:List V}{us:List R7}(r:aA xs us):xs.length=us.length:=OU r
theorem aA.get:∀{xs:List V}{us:List R7}{i:Nat}{x:V},aA xs us->xs[i]?=some x->∃u,us[i]?=some u/\aC x u
 | _,_,_,_,.nil,e=>by simp at e
 | _,_,0,_,.cons r _,e=>by simp at e;subst e;exact⟨_,rfl,r⟩
 | _,_,i+1,x,.cons _ t,e=>by
  obtain⟨u,h1,h2⟩:=aA.get (i:=i) (x:=x) t (by simpa using e);exact⟨u,by simpa using h1,h2⟩
theorem aA.set{x:V}{u:R7}(r:aC x u):∀{xs:List V}{us:List R7}(i:Nat),aA xs us->aA (xs.set i x) (us.set i u)
 | _,_,_,.nil=>.nil
 | _,_,0,.cons _ t=>.cons r t
 | _,_,i+1,.cons q t=>.cons q (aA.set r i t)
theorem aA.append:∀{xs ys:List V}{us ws:List R7},aA xs us->aA ys ws->aA (xs++ys) (us++ws)
 | _,_,_,_,.nil,s=>s
 | _,_,_,_,.cons r t,s=>.cons r (aA.append t s)
theorem aA.take:∀{xs:List V}{us:List R7}(n:Nat),aA xs us->aA (xs.take n) (us.take n)
 | _,_,0,_=>.nil
 | _,_,_+1,.nil=>.nil
 | _,_,n+1,.cons r t=>.cons r (aA.take n t)
theorem aA.drop:∀{xs:List V}{us:List R7}(n:Nat),aA xs us->aA (xs.drop n) (us.drop n)
 | _,_,0,r=>r
 | _,_,_+1,.nil=>.nil
 | _,_,n+1,.cons _ t=>aA.drop n t
def dZ:Option V->Option R7->Prop
 | some v,some u=>aC v u
 | none,none=>True
 | _,_=>False
def KV{κ:Type}:List (κ×V)->List (κ×R7)->Prop:=Paired λ(p:κ×V) (q:κ×R7)=>p.1=q.1/\aC p.2 q.2
def kV:ah->V
 | .inl i=>.int i
 | .inr x=>.str x
inductive HO where
 | lst (xs:List V)
 | tup (xs:List V)
 | dK (kvs:List (ah×V)) | dT (kvs:List (List ah×V))
 | set (S:Int->Bool) (n:Nat)
 | ins (C dx:R8) (fs:List (Str×V))
 | own (x:R8)
 | xd (fs:List (Str×V))
 | met (f x:R8)
 | rng (lo hi:Int)
 | frz (o:Obj) (u:HO)
 | tbl (ps:Array R7)
 | ext (φ:Sn->Prop)
abbrev Hp:=R8->Option HO
def ak(H:Hp)(a:R8)(o:HO):Hp:=λb=>if b=a then some o else H b
theorem bb{H:Hp}{a:R8}{o:HO}:ak H a o a=some o:=by unfold ak;rw [R3 rfl]
theorem aD{H:Hp}{a b:R8}{o:HO}(h:b≠a):ak H a o b=H b:=by unfold ak;rw [R1 h]
theorem DI{H:Hp}{a:R8}{o u:HO}:ak (ak H a o) a u=ak H a u:=by
 funext b;unfold ak;split <;> rfl
theorem DJ{H:Hp}{a b:R8}{o u:HO}(h:H a=some o)(h':H b=some u)(d:o≠u):a≠b:=by
 intro e;subst e;rw [h] at h';exact d (Mg h')
theorem cE{H:Hp}{a b:R8}{o:HO}(h:H a=some o)(h':H b=none):a≠b:=by
 intro e;subst e;rw [h] at h';cases h'
section
variable (P:Sk) (w:Sm)
def bU(H:Hp)(h:Sn)(a:R8):HO->Prop
 | .lst xs=>xs.length<=Sb/\∃(its:List R7)(n:Nat),aA xs its/\h.get? a=some {cls:= .type "list",data:= .seq its.toArray n}
 | .tup xs=>xs.length<=Sb/\∃its:List R7,aA xs its/\IsTup h a its.toArray
 | .dK kvs=>kvs.length<=Sb/\(a==SN)=false/\∃vs,KV kvs vs/\h.DictOf (bT P w) a vs
 | .dT kvs=>kvs.length<=Sb/\(a==SN)=false/\∃xs:List (List ah×R8×R7),
  Paired (λ(p:List ah×V) (q:List ah×R8×R7)=>p.1=q.1/\H q.2.1=some (.tup (p.1.map kV))/\aC p.2 q.2.2) kvs xs/\
  ∃o es ep,h.get? a=some o/\o.ExactDict/\o.data= .dict es ep/\es.toList=xs.map (entryOfKey (Tx (bT P w)))/\(xs.map (·.1)).Nodup
 | .set S n=>h.SetOf (intKind P w) a S n
 | .ins C dx fs=>H dx=some (.own a)/\fs.length<=1000/\dx≠a/\h.get? a=some (Ng C dx)/\
  ∃mA,h.Ns1 dx mA/\(∀f,dZ (fs.lookup f) (mA f))/\Qq mA (fs.map (·.1))
 | .own _=>∃o,h.get? a=some o
 | .xd fs=>∃mA,h.Ns1 a mA/\∀f,dZ (fs.lookup f) (mA f)
 | .rng lo hi=>∃t u v,h.get? a=some {cls:= .type "range",data:= .fields #[.int lo t,.int hi u,.int 1 v]}
 | .frz o u=>h.get? a=some o/\bU H h a u
 | .tbl ps=>h.get? a=some {cls:= .none,data:= .fields ps}
 | .met f x=>h.get? a=some (O6 (.ref f) (.ref x))
 | .ext φ=>φ h/\(∃o,h.get? a=some o)/\∀h1 h2:Sn,φ h1->(∀o,h1.get? a=some o->h2.get? a=some o)->φ h2
def bL(H:Hp)(h:Sn):Prop:=∀a o,H a=some o->bU P w H h a o
end
section
variable {P:Sk} {w:Sm} {H H':Hp} {h h':Sn} {a:R8} {o:HO}
theorem bU.lt(x:bU P w H h a o):a < h.objs.size:=by
 cases o with
 | lst xs=>obtain⟨_,_,_,_,e⟩:=x;exact LJ e
 | tup xs=>obtain⟨_,_,_,p⟩:=x;exact p.lt
 | dK kvs=>obtain⟨_,_,_,_,o,_,_,e,_⟩:=x;exact LJ e
 | dT kvs=>obtain⟨_,_,_,_,o,_,_,e,_⟩:=x;exact LJ e
 | set S n=>obtain⟨o,_,_,_,e,_⟩:=x;exact LJ e
 | ins C dx fs=>obtain⟨_,_,_,e,_⟩:=x;exact LJ e
 | own y=>obtain⟨_,e⟩:=x;exact LJ e
 | xd fs=>obtain⟨_,⟨_,_,_,e,_⟩,_⟩:=x;exact LJ e
 | rng lo hi=>obtain⟨_,_,_,e⟩:=x;exact LJ e
 | frz ob u=>obtain⟨e,_⟩:=x;exact LJ e
 | tbl ps=>exact LJ (show h.get? a=some _ from x)
 | met f y=>exact LJ (show h.get? a=some _ from x)
 | ext φ=>obtain⟨_,⟨_,e⟩,_⟩:=x;exact LJ e
theorem Paired.mapP{α β:Type}{F G:α->β->Prop}:∀{l₁:List α}{l₂:List β},Paired F l₁ l₂->(∀a b,F a b->G a b)->Paired G l₁ l₂
 | _,_,.nil,_=>.nil
 | _,_,.cons r t,f=>.cons (f _ _ r) (Paired.mapP t f)
theorem bU.stay(x:bU P w H h a o)(k:∀b u,(b=a\/H b=some (.own a))->h.get? b=some u->h'.get? b=some u)
 (ho:∀b,H b=some (.own a)->H' b=some (.own a))(ht:∀b xs,H b=some (.tup xs)->H' b=some (.tup xs)):bU P w H' h' a o:=by
 induction o with
 | lst xs=>obtain⟨z,its,n,r,e⟩:=x;exact⟨z,its,n,r,k _ _ (.inl rfl) e⟩
 | tup xs=>obtain⟨z,its,r,ob,e,c⟩:=x;exact⟨z,its,r,ob,k _ _ (.inl rfl) e,c⟩
 | dK kvs=>obtain⟨z,y,vs,r,ob,es,ep,e,c⟩:=x;exact⟨z,y,vs,r,ob,es,ep,k _ _ (.inl rfl) e,c⟩
 | dT kvs=>
  obtain⟨z,y,xs,r,ob,es,ep,e,c⟩:=x;exact⟨z,y,xs,Paired.mapP r λp q z=>⟨z.1,ht _ _ z.2.1,z.2.2⟩,ob,es,ep,k _ _ (.inl rfl) e,c⟩
 | set S n=>obtain⟨ob,es,ep,t,e,c⟩:=x;exact⟨ob,es,ep,t,k _ _ (.inl rfl) e,c⟩
 | ins C dx fs=>
  obtain⟨d,z,ne,e,mA,⟨od,es,ep,e2,c⟩,r⟩:=x;exact⟨ho _ d,z,ne,k _ _ (.inl rfl) e,mA,⟨od,es,ep,k _ _ (.inr d) e2,c⟩,r⟩
 | own y=>obtain⟨ob,e⟩:=x;exact⟨ob,k _ _ (.inl rfl) e⟩
 | xd fs=>obtain⟨mA,⟨od,es,ep,e,c⟩,r⟩:=x;exact⟨mA,⟨od,es,ep,k _ _ (.inl rfl) e,c⟩,r⟩
 | rng lo hi=>obtain⟨t,u,v,e⟩:=x;exact⟨t,u,v,k _ _ (.inl rfl) e⟩
 | frz ob u ih=>obtain⟨e,q⟩:=x;exact⟨k _ _ (.inl rfl) e,ih q⟩
 | tbl ps=>
  have e:h.get? a=some {cls:= .none,data:= .fields ps}:=x;show h'.get? a=some {cls:= .none,data:= .fields ps};exact k a _ (.inl rfl) e
 | met f y=>
  have e:h.get? a=some (O6 (.ref f) (.ref y)):=x;show h'.get? a=some (O6 (.ref f) (.ref y));exact k a _ (.inl rfl) e
 | ext φ=>obtain⟨p,⟨o,e⟩,st⟩:=x;exact⟨st _ _ p λo q=>k _ _ (.inl rfl) q,⟨o,k _ _ (.inl rfl) e⟩,st⟩
theorem bL.lt(x:bL P w H h)(e:H a=some o):a < h.objs.size:=(x a o e).lt
theorem bL.fresh(x:bL P w H h)(e:h.objs.size<=a):H a=none:=by
 cases q:H a with
 | none=>rfl
 | some u=>exact absurd (Md (x.lt q) e) (Nj _)
theorem bL.kept(x:bL P w H h)(k:∀b u,h.get? b=some u->h'.get? b=some u):bL P w H h':=λa o e=>
 (x a o e).stay (λb u _ q=>k b u q) (λ_ q=>q) λ_ _ q=>q
theorem bL.laid(x:bL P w H h)(k:∀b u,h.get? b=some u->h'.get? b=some u)(hp:h.objs.size<=a)(new:bU P w (ak H a o) h' a o):bL P w (ak H a o) h':=λb u e=>by
 have hn:=x.fresh hp;by_cases hb:b=a
 ·subst hb;rw [bb] at e;cases e;exact new
 ·rw [aD hb] at e;exact(x b u e).stay (λc v _ q=>k c v q) (λc q=>by rw [aD (cE q hn)];exact q) λc xs q=>by rw [aD (cE q hn)];exact q
end
def Rd(H:Hp)(a:R8)(u:HO):Prop:=H a=some u\/∃o,H a=some (.frz o u)
theorem Rd.ok{P:Sk}{w:Sm}{H:Hp}{h:Sn}{a:R8}{u:HO}(r:Rd H a u)(x:bL P w H h):bU P w H h a u:=by
 rcases r with r | ⟨o,r⟩
 ·exact x a u r
 ·obtain⟨_,q⟩:=x a _ r;exact q
def jk:Option HO->Prop
 | some (.lst _)=>True
 | some (.dK _)=>True
 | some (.dT _)=>True
 | some (.set _ _)=>True
 | some (.ins _ _ _)=>True
 | some (.ext _)=>True
 | _=>False
section
variable {P:Sk} {w:Sm} {H:Hp} {h h':Sn} {x e:R8} {o':HO}
theorem bL.write(ok:bL P w H h)(mu:jk (H x))(he:e=x\/H e=some (.own x))(k:∀b u,b≠e->h.get? b=some u->h'.get? b=some u)(heo:∃u,h'.get? e=some u)
 (new:bU P w (ak H x o') h' x o'):bL P w (ak H x o') h':=λb u q=>by
 have nown:∀c y,H c=some (.own y)->c≠x:=λc y r z=>by subst z;rw [r] at mu;exact mu
 have ntup:∀c xs,H c=some (.tup xs)->c≠x:=λc xs r z=>by subst z;rw [r] at mu;exact mu
 by_cases hb:b=x
 ·subst hb;rw [bb] at q;cases q;exact new
 ·rw [aD hb] at q;by_cases hbe:b=e
  ·have q':H b=some (.own x):=by
    rcases he with z | z
    ·exact absurd (hbe.trans z) hb
    ·rw [hbe];exact z
   rw [q] at q';cases q';obtain⟨v,hv⟩:=heo;exact⟨v,by rw [hbe];exact hv⟩
  ·refine(ok b u q).stay (λc v hc r=>k c v ?_ r) (λc r=>by rw [aD (nown c b r)];exact r) λc xs r=>by rw [aD (ntup c xs r)];exact r
   rcases hc with rfl | hc
   ·exact hbe
   ·rintro rfl;rcases he with z | z
    ·exact nown c b hc z
    ·rw [hc] at z;cases z;exact hb rfl
end
structure Un (fs ex:List R8) (H H':Hp) (h h':Sn):Prop where
 keep:∀b o,h.get? b=some o->H b=none->b ∉ fs->b ∉ ex->h'.get? b=some o
 slot:∀b o,h.get? b=some o->H b=none->b∈fs->b ∉ ex->∃sl,h'.get? b=some {o with slots:=sl}
 free:∀b o,h.get? b=some o->H b=none->b ∉ ex->H' b=none
 there:∀b o,h.get? b=some o->b ∉ ex->∃o',h'.get? b=some o'
 tups:∀b xs,H b=some (.tup xs)->H' b=some (.tup xs)
 frzs:∀b o u,H b=some (.frz o u)->H' b=some (.frz o u)
 tbls:∀b ps,H b=some (.tbl ps)->∃more,H' b=some (.tbl (ps++more))
section
variable {fs fs' ex ex':List R8} {H H1 H2:Hp} {h h1 h2 h':Sn} {a x e:R8} {o:HO}
theorem Un.any(u:Un fs ex H H1 h h1){b:R8}{ob:Obj}(q:h.get? b=some ob)(n:H b=none)(hx:b ∉ ex):∃sl,h1.get? b=some {ob with slots:=sl}:=by
 by_cases hb:b∈fs
 ·exact u.slot b ob q n hb hx
 ·exact⟨ob.slots,u.keep b ob q n hb hx⟩
theorem Un.kept(k:∀b u,h.get? b=some u->h'.get? b=some u):Un fs ex H H h h':=
 ⟨λb ob q _ _ _=>k b ob q,λb ob q _ _ _=>⟨ob.slots,k b ob q⟩,λ_ _ _ n _=>n,λb ob q _=>⟨ob,k b ob q⟩,λ_ _ q=>q,λ_ _ _ q=>q,λ_ ps q=>⟨#[],by rw [q];simp⟩⟩
theorem Un.refl:Un fs ex H H h h:=Un.kept λ_ _ q=>q
theorem Un.laid(k:∀b u,h.get? b=some u->h'.get? b=some u)(hp:h.objs.size<=a)(hn:H a=none):Un fs ex H (ak H a o) h h' where
 keep:=λb u q _ _ _=>k b u q
 slot:=λb u q _ _ _=>⟨u.slots,k b u q⟩
 free:=λb u q n _=>by rw [aD (LV (Md (LJ q) hp))];exact n
 there:=λb u q _=>⟨u,k b u q⟩
 tups:=λb xs q=>by rw [aD (cE q hn)];exact q
 frzs:=λb u xs q=>by rw [aD (cE q hn)];exact q
 tbls:=λb ps q=>⟨#[],by rw [aD (cE q hn),q];simp⟩
theorem Un.write(mu:jk (H x))(he:e=x\/H e=some (.own x))(k:∀b u,b≠e->h.get? b=some u->h'.get? b=some u)(heo:∃u,h'.get? e=some u):Un fs ex H (ak H x o) h h':=by
 have hx:∀b,H b=none->b≠x:=λb n z=>by subst z;rw [n] at mu;exact mu
 have hb:∀b,H b=none->b≠e:=λb n z=>by
  subst z;rcases he with r | r
  ·exact hx b n r
  ·rw [n] at r;cases r
 have hm:∀b u,H b=some u->¬jk (some u)->b≠x:=λb u q nm z=>by subst z;rw [q] at mu;exact nm mu
 refine⟨λb u q n _ _=>k b u (hb b n) q,λb u q n _ _=>⟨u.slots,k b u (hb b n) q⟩,λb u q n _=>by rw [aD (hx b n)];exact n,λb u q _=>?_,
  λb xs q=>by rw [aD (hm b _ q λz=>z)];exact q,λb u xs q=>by rw [aD (hm b _ q λz=>z)];exact q,λb ps q=>⟨#[],by rw [aD (hm b _ q λz=>z),q];simp⟩⟩
 by_cases hbe:b=e
 ·subst hbe;exact heo
 ·exact⟨u,k b u hbe q⟩
end
def trk(h:Sn)(H:Hp):List R8:=(Mv h.objs.size).filter λa=>(H a).isSome
def gK(h:Sn)(H:Hp):Sn:=PySem.W.hideAll h (trk h H)
theorem DK(h:Sn)(H:Hp):(gK h H).objs.size=h.objs.size:=PySem.W.hideAll_size _ _
theorem DL{h:Sn}{H:Hp}{b:R8}{o:Obj}(e:h.get? b=some o)(n:H b=none):(gK h H).get? b=some o:=
 PySem.W.hideAll_get _ e λhm=>by
  have q:(H b).isSome=true:=(LM.mp hm).2;rw [n] at q;simp at q
theorem DM{h:Sn}{H:Hp}{b:R8}{o:Obj}(e:(gK h H).get? b=some o):h.get? b=some o/\H b=none:=by
 have e':h.get? b=some o:=PySem.W.of_hideAll (trk h H) e;refine⟨e',?_⟩;cases q:H b with
 | none=>rfl
 | some x=>
  have hm:b∈trk h H:=LM.mpr ⟨P5.mpr (LJ e'),by simp [q]⟩;have z:(gK h H).get? b=none:=PySem.W.hideAll_none (trk h H) hm;rw [z] at e;cases e
def DN(g h:Sn)(L:R8):List (R8×Obj):=(Mv h.objs.size).filterMap λa=>if a=L\/(g.get? a).isSome=true then none else(h.get? a).map λo=>(a,o)
def rest(g h:Sn)(L d:R8):List (R8×Obj):=(DN g h L).filter λp=>decide (p.1≠d)
structure Mod (K:Ll) (mg:Str->Option R7) (base:Sn):Prop where
 kin:K.In base
 glob:base.Ns So mg
 blt:∃mb,base.Ns builtinsNs mb/\∀x:Str,x≠"__name__"->mb x=Sw x
 nolimit:base.NoLimit
structure Cx where
 prog:Sk
 w:Sm
 K:Ll
 mg:Str->Option R7
 base:Sn
 A:Ss
 N:List Str
 s₀:R9
 H₀:Hp
 env:Env
 outer:List Env
 stack:List Env
 ex:List R8
 fn:Str->Bool
 calm:Bool
 pn:List (R8×Obj)
 xe:R7->R9->Prop
def eT(l:List Env):List R8:=l.filterMap (·.frame)
abbrev Cx.fs(X:Cx):List R8:=eT X.outer
def jZ(sc:SH)(x:Str):Prop:=sc.names.lookup x=some .local\/sc.names.lookup x=some .cell\/sc.names.lookup x=some .free
def gc(sc:SH)(x:Str):Prop:=sc.names.lookup x=some .local\/sc.names.lookup x=some .cell
def DP(env:Env)(h:Sn)(m:Str->Option R7)(x:Str)(u:R7):Prop:=
 (env.kindOf x=some .local/\m x=some u)\/((env.kindOf x=some .cell\/env.kindOf x=some .free)/\∃c,env.cells.lookup x=some c/\h.IsCell c (some u))
structure Cx.Ok (X:Cx):Prop where
 mod:Mod X.K X.mg X.base
 kind:X.env.scope.kind= .function
 glob:X.env.globals=So
 blt:X.env.builtins=builtinsNs
 above:X.s₀.heap.objs.size<=X.env.locals
 inj:∀x y c,X.env.cells.lookup x=some c->X.env.cells.lookup y=some c->x=y
 has:∀x,(X.env.kindOf x=some .cell\/X.env.kindOf x=some .free)->∃c,X.env.cells.lookup x=some c
 cab:∀x c,X.fn x=true->X.env.cells.lookup x=some c->X.s₀.heap.objs.size<=c
 hd:X.calm=true->X.A.handled=none
 frames:X.A.frames=some X.stack
 stk:X.stack=X.outer\/(X.stack=X.env::X.outer/\X.env.frame=some X.env.locals)
 exf:∀b∈X.ex,b≠X.env.locals/\∀x c,X.env.cells.lookup x=some c->c≠b
 bs:∀b o,X.base.get? b=some o->X.s₀.heap.get? b=some o/\X.H₀ b=none
 bsz:X.base.objs.size<=X.s₀.heap.objs.size
 noex:∀b o,X.base.get? b=some o->b ∉ X.ex
 exfs:∀b∈X.ex,b ∉ X.fs
 funs:X.s₀.heap.FunFrames X.base X.outer
 frf:∀b∈X.fs,X.H₀ b=none
structure ae (X:Cx) (TR:List (R8×Obj)) (σ:List (Option V)) (H:Hp) (s:R9):Prop where
 ok:X.Ok
 os:s.os=X.s₀.os
 bare:Tn s.gens
 base:Un X.fs X.ex X.H₀ H X.s₀.heap s.heap
 loc:∃m,s.heap.Ns X.env.locals m/\∀(i:Nat)(x:Str)(v:V),X.N[i]?=some x->σ[i]?=some (some v)->jZ X.env.scope x->∃u,aC v u/\DP X.env s.heap m x u
 cell:∀x c,X.env.cells.lookup x=some c->∃v,s.heap.IsCell c v
 free:H X.env.locals=none
 freeC:∀x c,X.env.cells.lookup x=some c->H c=none
 pin:∀p∈X.pn++TR,s.heap.get? p.1=some p.2/\H p.1=none/\p.1≠X.env.locals/\p.1 ∉ X.fs/\∀v,p.2.data≠ .cell v
 hok:bL X.prog X.w H s.heap
 len:σ.length=X.N.length
section
variable {X:Cx} {TR:List (R8×Obj)} {σ:List (Option V)} {H H':Hp} {s:R9} {h':Sn}
theorem Cx.Ok.nofr(ok:X.Ok){b:R8}{o:Obj}(e:X.base.get? b=some o):b ∉ X.fs:=λhb=>by
 have:=(ok.funs.mem hb).1;rw [e] at this;cases this
theorem ae.bs(I:ae X TR σ H s):∀b o,X.base.get? b=some o->s.heap.get? b=some o/\H b=none:=λb o e=>
 ⟨I.base.keep b o (I.ok.bs b o e).1 (I.ok.bs b o e).2 (I.ok.nofr e) (I.ok.noex b o e),I.base.free b o (I.ok.bs b o e).1 (I.ok.bs b o e).2 (I.ok.noex b o e)⟩
theorem ae.bk(I:ae X TR σ H s):∀b o,X.base.get? b=some o->s.heap.get? b=some o:=λb o e=>(I.bs b o e).1
theorem ae.mod(I:ae X TR σ H s):Mod X.K X.mg X.base:=I.ok.mod
theorem ae.kIn(I:ae X TR σ H s):X.K.In s.heap:=I.ok.mod.kin.keeps I.bk
theorem ae.fr(I:ae X TR σ H s):∃m,Fr X.base X.env.locals s.heap m:=
 let ⟨m,hn,_⟩:=I.loc
 ⟨m,hn,I.bk,LY I.ok.bsz I.ok.above⟩
theorem ae.lt(I:ae X TR σ H s):X.env.locals < s.heap.objs.size:=let ⟨_,hn,_⟩:=I.loc;hn.lt
theorem ae.sz(I:ae X TR σ H s):X.s₀.heap.objs.size<=s.heap.objs.size:=LY I.ok.above (Nz I.lt)
theorem ae.nofs(I:ae X TR σ H s){a:R8}(h:s.heap.objs.size<=a):a ∉ X.fs:=λhb=>by
 obtain⟨_,o,ho,_⟩:=I.ok.funs.mem hb;exact absurd (Md (LJ ho) (LY I.sz h)) (Nj _)
theorem ae.cne(I:ae X TR σ H s):∀x c,X.env.cells.lookup x=some c->c≠X.env.locals:=λx c e z=>by
 obtain⟨v,o,ho,hd⟩:=I.cell x c e;obtain⟨m,⟨o',es,ep,ho',hd',_⟩,_⟩:=I.loc;rw [z,ho'] at ho;cases ho;rw [hd'] at hd;cases hd
theorem ae.funs(I:ae X TR σ H s):s.heap.FunFrames X.base X.outer:=by
 have all:∀(l:List Env),(∀b∈eT l,b∈X.fs)->X.s₀.heap.FunFrames X.base l->s.heap.FunFrames X.base l:=by
  intro l
  induction l with
  | nil=>intro _ _;trivial
  | cons env r ih=>
   intro hs hl;obtain⟨hk,⟨L,o,hf,hn,ho,hd⟩,hr⟩:=hl;have hL:L∈X.fs:=hs L (by unfold eT;rw [Nk,hf];exact L9);obtain⟨sl,e⟩:=I.base.slot L o ho (I.ok.frf L hL) hL λz=>I.ok.exfs L z hL;exact⟨hk,⟨L,_,hf,hn,e,hd⟩,ih (λb hb=>hs b (by unfold eT;rw [Nk,hf];exact L0 _ hb)) hr⟩
 exact all X.outer (λ_ hb=>hb) I.ok.funs
theorem ae.stack(I:ae X TR σ H s):s.heap.FunFrames X.base X.stack:=by
 rcases I.ok.stk with e | ⟨e,hf⟩
 ·rw [e];exact I.funs
 ·rw [e];obtain⟨m,hn,_⟩:=I.loc;refine .cons (by rw [I.ok.kind];decide) hf hn ?_ I.funs;exact Heap.get?_none_of_le (LY I.ok.bsz I.ok.above)
theorem ae.stkSub(I:ae X TR σ H s):∀b∈eT X.stack,b∈X.env.locals::X.fs:=λb hb=>by
 rcases I.ok.stk with e | ⟨e,hf⟩
 ·rw [e] at hb;exact L0 _ hb
 ·rw [e] at hb;unfold eT at hb;rw [Nk,hf] at hb;exact hb
theorem ae.stkFree(I:ae X TR σ H s):∀b∈eT X.stack,H b=none:=λb hb=>by
 rcases LF.mp (I.stkSub b hb) with e | hb
 ·rw [e];exact I.free
 ·obtain⟨_,o,ho,_⟩:=I.ok.funs.mem hb;exact I.base.free b o ho (I.ok.frf b hb) λz=>I.ok.exfs b z hb
theorem ae.step{g':Array TN}{t':Nat}{d':Drawn}{ch:List R8}(I:ae X TR σ H s)
 (hch:∀b∈ch,(b∈X.ex\/X.s₀.heap.objs.size<=b)/\b≠X.env.locals/\(∀x c,X.env.cells.lookup x=some c->c≠b)/\∀p∈X.pn++TR,p.1≠b)
 (keep:∀b o,b≠X.env.locals->b ∉ X.fs->b ∉ ch->s.heap.get? b=some o->H b=none->h'.get? b=some o)
 (slot:∀b o,b≠X.env.locals->b∈X.fs->b ∉ ch->s.heap.get? b=some o->H b=none->∃sl,h'.get? b=some {o with slots:=sl})(free:∀b o,b ∉ ch->s.heap.get? b=some o->H b=none->H' b=none)
 (there:∀b o,b ∉ ch->s.heap.get? b=some o->∃o',h'.get? b=some o')
 (tups:∀b xs,H b=some (.tup xs)->H' b=some (.tup xs))(frzs:∀b o u,H b=some (.frz o u)->H' b=some (.frz o u))(tbls:∀b ps,H b=some (.tbl ps)->∃more,H' b=some (.tbl (ps++more)))
 (ns:∀m,s.heap.Ns X.env.locals m->h'.Ns X.env.locals m)(hok:bL X.prog X.w H' h')(hg:Tn g'):
 ae X TR σ H' {s with heap:=h',gens:=g',drawn:=d',toks:=t'}:=by
 have neL:∀b o,X.s₀.heap.get? b=some o->b≠X.env.locals:=λb o e=>LV (Md (LJ e) I.ok.above);have neC:∀b o,X.s₀.heap.get? b=some o->b ∉ X.ex->b ∉ ch:=λb o e hx hb=>by
  rcases(hch b hb).1 with z | z
  ·exact hx z
  ·exact absurd (Md (LJ e) z) (Nj _)
 have cellK:∀x c,X.env.cells.lookup x=some c->∀v,s.heap.IsCell c v->h'.IsCell c v:=λx c e v uu1=>by
  obtain⟨o,ho,hd⟩:=uu1;have nch:c ∉ ch:=λz=>(hch c z).2.2.1 x c e rfl;by_cases hc:c∈X.fs
  ·obtain⟨sl,q⟩:=slot c o (I.cne x c e) hc nch ho (I.freeC x c e);exact⟨_,q,hd⟩
  ·exact⟨o,keep c o (I.cne x c e) hc nch ho (I.freeC x c e),hd⟩
 refine⟨I.ok,I.os,hg,⟨λb o e n hb hx=>?_,λb o e n hb hx=>?_,λb o e n hx=>?_,λb o e hx=>?_,λb xs e=>tups b xs (I.base.tups b xs e),λb o xs e=>frzs b o xs (I.base.frzs b o xs e),λb ps e=>?_⟩,?_,λx c e=>?_,?_,λx c e=>?_,λp hp=>?_,hok,I.len⟩
 ·exact keep b o (neL b o e) hb (neC b o e hx) (I.base.keep b o e n hb hx) (I.base.free b o e n hx)
 ·obtain⟨sl,e1⟩:=I.base.slot b o e n hb hx;obtain⟨sl',e2⟩:=slot b _ (neL b o e) hb (neC b o e hx) e1 (I.base.free b o e n hx);exact⟨sl',e2⟩
 ·obtain⟨o',e1⟩:=I.base.there b o e hx;exact free b o' (neC b o e hx) e1 (I.base.free b o e n hx)
 ·obtain⟨o',e1⟩:=I.base.there b o e hx;exact there b o' (neC b o e hx) e1
 ·obtain⟨m1,e1⟩:=I.base.tbls b ps e;obtain⟨m2,e2⟩:=tbls b _ e1;exact⟨m1++m2,by rw [e2,Array.append_assoc]⟩
 ·obtain⟨m,hn,hl⟩:=I.loc;refine⟨m,ns m hn,λi x v e1 e2 e3=>?_⟩;obtain⟨u,r,l⟩:=hl i x v e1 e2 e3;refine⟨u,r,?_⟩;rcases l with l | ⟨k,c,e,z⟩
  ·exact .inl l
  ·exact .inr ⟨k,c,e,cellK x c e _ z⟩
 ·obtain⟨v,z⟩:=I.cell x c e;exact⟨v,cellK x c e v z⟩
 ·obtain⟨m,⟨o,_,_,ho,_⟩,_⟩:=I.loc;exact free _ o (λz=>(hch _ z).2.1 rfl) ho I.free
 ·obtain⟨v,o,ho,hd⟩:=I.cell x c e;exact free c o (λz=>(hch c z).2.2.1 x c e rfl) ho (I.freeC x c e)
 ·obtain⟨e,n,ne,nf,d⟩:=I.pin p hp;have nch:p.1 ∉ ch:=λz=>(hch p.1 z).2.2.2 p hp rfl;exact⟨keep p.1 p.2 ne nf nch e n,free p.1 p.2 nch e n,ne,nf,d⟩
theorem ae.un{t':Nat}(I:ae X TR σ H s)(u:Un X.fs [] H H' s.heap h')(hok:bL X.prog X.w H' h'):ae X TR σ H' {s with heap:=h',toks:=t'}:=by
 obtain⟨m,⟨o,es,ep,ho,r⟩,_⟩:=id I.loc;obtain⟨sl,hL⟩:=u.any ho I.free R5;exact I.step (g':=s.gens) (d':=s.drawn) (ch:=[]) (λ_ z=>nomatch z) (λb o _ hb _ e n=>u.keep b o e n hb R5) (λb o _ hb _ e n=>u.slot b o e n hb R5) (λb o _ e n=>u.free b o e n R5) (λb o _ e=>u.there b o e R5) u.tups u.frzs u.tbls (λm' hm=>by
  obtain⟨o',es',ep',ho',r'⟩:=hm;rw [ho] at ho';cases ho';exact⟨_,es',ep',hL,r'⟩) hok I.bare
theorem ae.call{g':Array TN}{t':Nat}{d':Drawn}{ch:List R8}(I:ae X TR σ H s)(u:Un (eT X.stack) ch H H' s.heap h')(hok:bL X.prog X.w H' h')(hg:Tn g')
 (hch:∀b∈ch,(b∈X.ex\/X.s₀.heap.objs.size<=b)/\b≠X.env.locals/\(∀x c,X.env.cells.lookup x=some c->c≠b)/\∀p∈X.pn++TR,p.1≠b):
 ae X TR σ H' {s with heap:=h',gens:=g',drawn:=d',toks:=t'}:=by
 obtain⟨m,⟨o,es,ep,ho,r⟩,_⟩:=id I.loc;obtain⟨sl,hL⟩:=u.any ho I.free λz=>(hch _ z).2.1 rfl;exact I.step (ch:=ch) hch (λb o hL hb hc e n=>u.keep b o e n (λz=>(LF.mp (I.stkSub b z)).elim hL hb) hc) (λb o _ _ hc e n=>u.any e n hc) (λb o hc e n=>u.free b o e n hc) (λb o hc e=>u.there b o e hc) u.tups u.frzs u.tbls (λm' hm=>by
  obtain⟨o',es',ep',ho',r'⟩:=hm;rw [ho] at ho';cases ho';exact⟨_,es',ep',hL,r'⟩) hok hg
theorem ae.turned{t':Nat}{it:R8}(I:ae X TR σ H s)(k:∀b o,b≠it->s.heap.get? b=some o->h'.get? b=some o)(hn:H it=none)(hL:it≠X.env.locals)
 (h1:it∈X.ex\/X.s₀.heap.objs.size<=it)(h2:∀x c,X.env.cells.lookup x=some c->c≠it)(h3:∀p∈X.pn++TR,p.1≠it):ae X TR σ H {s with heap:=h',toks:=t'}:=by
 have nit:∀b u,H b=some u->b≠it:=λb u e z=>by rw [z,hn] at e;cases e
 refine I.step (g':=s.gens) (d':=s.drawn) (ch:=[it]) (λb hb=>?_) (λb o _ _ hc e _=>k b o (λz=>hc (by simp [z])) e) (λb o _ _ hc e _=>⟨o.slots,k b o (λz=>hc (by simp [z])) e⟩) (λ_ _ _ _ n=>n)
  (λb o hc e=>⟨o,k b o (λz=>hc (by simp [z])) e⟩) (λ_ _ e=>e) (λ_ _ _ e=>e) (λb ps e=>⟨#[],by rw [e];simp⟩) (λm hm=>?_) (λb u e=>?_) I.bare
 ·have e:b=it:=by simpa using hb
  subst e;exact⟨h1,hL,h2,h3⟩
 ·obtain⟨o,es,ep,ho,r⟩:=hm;exact⟨o,es,ep,k _ o (Ne.symm hL) ho,r⟩
 ·refine(I.hok b u e).stay (λc v hc q=>k c v ?_ q) (λ_ q=>q) λ_ _ q=>q;rcases hc with z | z
  ·rw [z];exact nit b u e
  ·exact nit c _ z
theorem ae.tok(I:ae X TR σ H s)(t:Nat):ae X TR σ H {s with toks:=t}:=I.un (h':=s.heap) (t':=t) Un.refl I.hok
theorem ae.kept{t':Nat}(I:ae X TR σ H s)(k:∀b u,s.heap.get? b=some u->h'.get? b=some u):ae X TR σ H {s with heap:=h',toks:=t'}:=I.un (Un.kept k) (I.hok.kept k)
theorem ae.laid{a:R8}{o:HO}{t':Nat}(I:ae X TR σ H s)(k:∀b u,s.heap.get? b=some u->h'.get? b=some u)(hp:s.heap.objs.size<=a)(new:bU X.prog X.w (ak H a o) h' a o):
 ae X TR σ (ak H a o) {s with heap:=h',toks:=t'}:=I.un (Un.laid k hp (I.hok.fresh hp)) (I.hok.laid k hp new)
theorem ae.write{x e:R8}{o:HO}{t':Nat}(I:ae X TR σ H s)(mu:jk (H x))(he:e=x\/H e=some (.own x))(k:∀b u,b≠e->s.heap.get? b=some u->h'.get? b=some u)(heo:∃u,h'.get? e=some u)
 (new:bU X.prog X.w (ak H x o) h' x o):ae X TR σ (ak H x o) {s with heap:=h',toks:=t'}:=I.un (Un.write mu he k heo) (I.hok.write mu he k heo new)
theorem ae.weak{σ':List (Option V)}(I:ae X TR σ H s)(hl:σ'.length=σ.length)(w:∀(i:Nat) v,σ'[i]?=some (some v)->σ[i]?=some (some v)):ae X TR σ' H s:=
 ⟨I.ok,I.os,I.bare,I.base,let ⟨m,hn,hl'⟩:=I.loc;⟨m,hn,λi x v e1 e2 e3=>hl' i x v e1 (w i v e2) e3⟩,I.cell,I.free,I.freeC,I.pin,I.hok,hl.trans I.len⟩
theorem ae.pins_of{pins':List (R8×Obj)}(I:ae X TR σ H s)(h:∀p∈pins',s.heap.get? p.1=some p.2/\H p.1=none/\p.1≠X.env.locals/\p.1 ∉ X.fs/\∀v,p.2.data≠ .cell v):ae X pins' σ H s:=
 ⟨I.ok,I.os,I.bare,I.base,I.loc,I.cell,I.free,I.freeC,λp hp=>(LI.mp hp).elim (λz=>I.pin p (MF _ z)) (h p),I.hok,I.len⟩
theorem uL{N:List Str}(hN:N.Nodup){i j:Nat}{x:Str}(a:N[i]?=some x)(b:N[j]?=some x):i=j:=by
 obtain⟨h1,e1⟩:=Lz.mp a;obtain⟨h2,e2⟩:=Lz.mp b;exact(NW hN).mp (e1.trans e2.symm)
theorem uM{M:Model}{A:Ss}{E:R7->R9->Prop}{i:Nat}{x:Str}{v:V}{u:R7}{Q:Unit->R9->Prop}(I:ae X TR σ H s)(hN:X.N.Nodup)(hi:X.N[i]?=some x)(hx:gc X.env.scope x)(r:aC v u)
 (h:∀s',ae X TR (σ.set i (some v)) H s'->(∃a,N7 a s.heap s'.heap/\(a=X.env.locals\/X.env.cells.lookup x=some a))->Q () s')(hf:X.fn x=true\/X.env.scope.names.lookup x=some .local:=by first | exact .inl rfl | exact .inr rfl | assumption):Sf M A (storeName X.env x u) Q E s:=by
 obtain⟨m,hn,hl⟩:=id I.loc;have hcls:(X.env.scope.kind== .class || (X.env.scope.kind== .module && X.env.locals !=X.env.globals))=false:=by rw [I.ok.kind];rfl
 have hiσ:i < σ.length:=by rw [I.len];exact(Lz.mp hi).1
 have cne:=I.cne;have tracked:∀{a:R8}{h':Sn},(∃o,s.heap.get? a=some o/\H a=none)->N7 a s.heap h'->bL X.prog X.w H h':=λ{a h'} ha hs b ob e=>by
  obtain⟨_,_,hfree⟩:=ha;refine(I.hok b ob e).stay (λc w' hc q=>(hs.2 c ?_).trans q) (λ_ q=>q) λ_ _ q=>q;rintro rfl;rcases hc with rfl | hc
  ·rw [hfree] at e;cases e
  ·rw [hfree] at hc;cases hc
 rcases hx with hk | hk
 ·refine wpAny_storeName_local hk hn (λh' hn' hs=>?_) hcls;obtain⟨oL,_,_,hoL,_⟩:=id hn;refine h _ ⟨I.ok,I.os,I.bare,⟨λb o e n hb hx=>?_,λb o e n hb hx=>?_,I.base.free,λb o e hx=>?_,I.base.tups,I.base.frzs,I.base.tbls⟩,⟨_,hn',λj y v' e1 e2 e3=>?_⟩,λy c e=>?_,I.free,I.freeC,λp hp=>?_,tracked ⟨oL,hoL,I.free⟩ hs,by simpa using I.len⟩ ⟨_,hs,.inl rfl⟩
  ·exact(hs.2 b (LV (Md (LJ e) I.ok.above))).trans (I.base.keep b o e n hb hx)
  ·obtain⟨sl,e1⟩:=I.base.slot b o e n hb hx;exact⟨sl,(hs.2 b (LV (Md (LJ e) I.ok.above))).trans e1⟩
  ·obtain⟨o',e1⟩:=I.base.there b o e hx;exact⟨o',(hs.2 b (LV (Md (LJ e) I.ok.above))).trans e1⟩
  ·by_cases hj:j=i
   ·subst hj;rw [hi] at e1;cases e1;rw [Mt hiσ] at e2;cases e2;exact⟨u,r,.inl ⟨hk,R5⟩⟩
   ·rw [Ma (Ne.symm hj)] at e2;obtain⟨u',r',q⟩:=hl j y v' e1 e2 e3;refine⟨u',r',?_⟩;rcases q with⟨k,e⟩ | ⟨k,c,e,z⟩
    ·refine .inl ⟨k,?_⟩;have:y≠x:=λe=>hj (uL hN e1 (e▸hi));simp [this,e]
    ·exact .inr ⟨k,c,e,z.sameBut hs (cne y c e)⟩
  ·obtain⟨w',z⟩:=I.cell y c e;exact⟨w',z.sameBut hs (cne y c e)⟩
  ·obtain⟨e,n,ne,nf,d⟩:=I.pin p hp;exact⟨(hs.2 p.1 ne).trans e,n,ne,nf,d⟩
 ·have hfn:X.fn x=true:=by
   rcases hf with z | z
   ·exact z
   ·rw [z] at hk;cases hk
  obtain⟨c,hc⟩:=I.ok.has x (.inl hk);obtain⟨w',z⟩:=I.cell x c hc;refine wpAny_storeName_cell I.ok.kind hk hc z (λh' hc' hs=>?_);obtain⟨oc,hoc,hocd⟩:=id z;refine h {s with heap:=h'} ⟨I.ok,I.os,I.bare,⟨λb o e n hb hx=>?_,λb o e n hb hx=>?_,I.base.free,λb o e hx=>?_,I.base.tups,I.base.frzs,I.base.tbls⟩,⟨m,hn.sameBut hs (Ne.symm (cne x c hc)),λj y v' e1 e2 e3=>?_⟩,λy c' e=>?_,I.free,I.freeC,λp hp=>?_,tracked ⟨oc,hoc,I.freeC x c hc⟩ hs,by simpa using I.len⟩ ⟨c,hs,.inr hc⟩
  ·exact(hs.2 b (LV (Md (LJ e) (I.ok.cab x c hfn hc)))).trans (I.base.keep b o e n hb hx)
  ·obtain⟨sl,e1⟩:=I.base.slot b o e n hb hx;exact⟨sl,(hs.2 b (LV (Md (LJ e) (I.ok.cab x c hfn hc)))).trans e1⟩
  ·obtain⟨o',e1⟩:=I.base.there b o e hx;exact⟨o',(hs.2 b (LV (Md (LJ e) (I.ok.cab x c hfn hc)))).trans e1⟩
  ·by_cases hj:j=i
   ·subst hj;rw [hi] at e1;cases e1;rw [Mt hiσ] at e2;cases e2;exact⟨u,r,.inr ⟨.inl hk,c,hc,hc'⟩⟩
   ·rw [Ma (Ne.symm hj)] at e2;obtain⟨u',r',q⟩:=hl j y v' e1 e2 e3;refine⟨u',r',?_⟩;rcases q with q | ⟨k,c',e,z'⟩
    ·exact .inl q
    ·refine .inr ⟨k,c',e,z'.sameBut hs ?_⟩;rintro rfl;exact hj (uL hN e1 (I.ok.inj _ _ _ e hc▸hi))
  ·by_cases hcc:c'=c
   ·subst hcc;exact⟨_,hc'⟩
   ·obtain⟨w2,z2⟩:=I.cell y c' e;exact⟨w2,z2.sameBut hs hcc⟩
  ·obtain⟨e,n,ne,nf,d⟩:=I.pin p hp;refine⟨(hs.2 p.1 ?_).trans e,n,ne,nf,d⟩;intro q;rw [q,hoc] at e;have q':oc=p.2:=Mg e;exact d w' (by rw [<-q'];exact hocd)
theorem lE{M:Model}{A:Ss}{E:R7->R9->Prop}{i:Nat}{x:Str}{v:V}{u:R7}{Q:Unit->R9->Prop}(I:ae X TR σ H s)(hN:X.N.Nodup)(hi:X.N[i]?=some x)(hx:gc X.env.scope x)(r:aC v u)
 (h:∀s',ae X TR (σ.set i (some v)) H s'->Q () s')(hf:X.fn x=true\/X.env.scope.names.lookup x=some .local:=by first | exact .inl rfl | exact .inr rfl | assumption):Sf M A (storeName X.env x u) Q E s:=
 uM I hN hi hx r (λs' I' _=>h s' I') hf
theorem ae.call'{s':R9}{ch:List R8}(I:ae X TR σ H s)(ho:s'.os=s.os)(u:Un (eT X.stack) ch H H' s.heap s'.heap)(hok:bL X.prog X.w H' s'.heap)(hg:Tn s'.gens)
 (hch:∀b∈ch,(b∈X.ex\/X.s₀.heap.objs.size<=b)/\b≠X.env.locals/\(∀x c,X.env.cells.lookup x=some c->c≠b)/\∀p∈X.pn++TR,p.1≠b):ae X TR σ H' s':=by
 obtain⟨h',g',d',t',o'⟩:=s';have e:o'=s.os:=ho;subst e;exact I.call (g':=g') (t':=t') (d':=d') u hok hg hch
end
abbrev XK:=R7->Option R8->Hp->Prop
abbrev St:=List (Option V)
abbrev VK:=V->Hp->Prop
abbrev TE:=St->Hp->VK->Prop
abbrev TT:=St->Hp->(Bool->Hp->Prop)->Prop
abbrev TA:=St->Hp->(List V->Hp->Prop)->Prop
structure gL where
 nx:St->Hp->Prop
 rt:VK
 bk:St->Hp->Prop:=λ_ _=>False
 ct:St->Hp->Prop:=λ_ _=>False
abbrev TS:=gL->St->Hp->Prop
inductive EP (X:Cx) (TR:List (R8×Obj)) (σ:St) (Q:VK) (u:R7) (s':R9):Prop
 | mk (v:V) (H':Hp):ae X TR σ H' s'->aC v u->Q v H'->EP X TR σ Q u s'
inductive TP (X:Cx) (TR:List (R8×Obj)) (σ:St) (Q:Bool->Hp->Prop) (b:Bool) (s':R9):Prop
 | mk (H':Hp):ae X TR σ H' s'->Q b H'->TP X TR σ Q b s'
inductive AP (X:Cx) (TR:List (R8×Obj)) (σ:St) (Q:List V->Hp->Prop) (us:List R7) (s':R9):Prop
 | mk (vs:List V) (H':Hp):ae X TR σ H' s'->aA vs us->Q vs H'->AP X TR σ Q us s'
def SP(X:Cx)(TR:List (R8×Obj))(D:gL)(f:Flow)(s':R9):Prop:=
 match f with
 | .next=>∃σ' H',ae X TR σ' H' s'/\D.nx σ' H'
 | .brk=>∃σ' H',ae X TR σ' H' s'/\D.bk σ' H'
 | .cont=>∃σ' H',ae X TR σ' H' s'/\D.ct σ' H'
 | .ret u=>∃v σ' H',ae X TR σ' H' s'/\aC v u/\D.rt v H'
def PE(X:Cx)(e:Sd)(t:TE):Prop:=
 ∀(TR:List (R8×Obj))(s:R9)(σ:St)(H:Hp)(Q:VK),ae X TR σ H s->t σ H Q->Sf (Si X.prog X.w) X.A (eval e X.env) (EP X TR σ Q) X.xe s
def PT(X:Cx)(e:Sd)(t:TT):Prop:=
 ∀(TR:List (R8×Obj))(s:R9)(σ:St)(H:Hp)(Q:Bool->Hp->Prop),ae X TR σ H s->t σ H Q->Sf (Si X.prog X.w) X.A (isTrue e X.env (eval e X.env)) (TP X TR σ Q) X.xe s
def PW(X:Cx)(e:Sd)(t:TT):Prop:=
 ∀(whole:Sem R7)(TR:List (R8×Obj))(s:R9)(σ:St)(H:Hp)(Q:Bool->Hp->Prop),ae X TR σ H s->t σ H Q->Sf (Si X.prog X.w) X.A (isTrue e X.env whole) (TP X TR σ Q) X.xe s
theorem PW.pt{X:Cx}{e:Sd}{t:TT}(h:PW X e t):PT X e t:=h _
def PA(X:Cx)(es:List Sd)(t:TA):Prop:=
 ∀(pos:Pos)(TR:List (R8×Obj))(s:R9)(σ:St)(H:Hp)(Q:List V->Hp->Prop),ae X TR σ H s->t σ H Q->Sf (Si X.prog X.w) X.A (spliced (Sy pos (Se es X.env))) (AP X TR σ Q) X.xe s
def PS(X:Cx)(st:Sq)(t:TS):Prop:=
 ∀(TR:List (R8×Obj))(s:R9)(σ:St)(H:Hp)(D:gL),ae X TR σ H s->t D σ H->Sf (Si X.prog X.w) X.A (exec st X.env) (SP X TR D) X.xe s
def bJ(X:Cx)(st:List Sq)(t:TS):Prop:=
 ∀(TR:List (R8×Obj))(s:R9)(σ:St)(H:Hp)(D:gL),ae X TR σ H s->t D σ H->Sf (Si X.prog X.w) X.A (execs st X.env) (SP X TR D) X.xe s
theorem ax{α:Type}{t:Sem α}{Q Q':α->R9->Prop}{M:Model}{A:Ss}{E:R7->R9->Prop}{s:R9}(h:Sf M A t Q E s)(hQ:∀a s,Q a s->Q' a s):Sf M A t Q' E s:=Sz h hQ λ_ _ x=>x
section
variable {X:Cx}
theorem Lf{a b:Sd}{ta tb:TE}(ha:PE X a ta)(hb:PE X b tb){TR:List (R8×Obj)}{s:R9}{σ:St}{H:Hp}{R:V->V->Hp->Prop}(I:ae X TR σ H s)(h:ta σ H λx H1=>tb σ H1 λy H2=>R x y H2)
 {α:Type}{Q:α->R9->Prop}{f:R7->R7->Sem α}
 (hf:∀v u s2 x y H2,ae X TR σ H2 s2->aC x v->aC y u->R x y H2->Sf (Si X.prog X.w) X.A (f v u) Q X.xe s2):
 Sf (Si X.prog X.w) X.A (eval a X.env) (λv s₁=>Sf (Si X.prog X.w) X.A (eval b X.env) (λu s₂=>Sf (Si X.prog X.w) X.A (f v u) Q X.xe s₂) X.xe s₁) X.xe s:=by
 refine ax (ha TR s σ H _ I h) λv s1 ⟨x,H1,I1,r1,q1⟩=>?_;refine ax (hb TR s1 σ H1 _ I1 q1) λu s2 ⟨y,H2,I2,r2,q2⟩=>?_;exact hf v u s2 x y H2 I2 r1 r2 q2
def c7(i:Nat):TE:=λσ H Q=>∃v,σ[i]?=some (some v)/\Q v H
def tC(v:V):TE:=λ_ H Q=>Q v H
theorem oI{i:Nat}{x:Str}{pos:Pos}(hN:X.N[i]?=some x)(hv:jZ X.env.scope x)(hd:(x==("__debug__":Str))=false:=by decide)(hcd:(x==("__classdict__":Str))=false:=by decide):PE X (.Name x pos) (c7 i):=by
 intro TR s σ H Q I h;obtain⟨v,e,h⟩:=h;obtain⟨m,hn,hl⟩:=I.loc;obtain⟨u,r,l⟩:=hl i x v hN e hv;have fin:EP X TR σ Q u s:=⟨v,H,I,r,h⟩;rcases l with⟨hk,hm⟩ | ⟨hk,c,hc,hcell⟩
 ·exact wpAny_Name (wpAny_loadName_local I.ok.kind hk hn hm fin) hd
 ·rcases hk with hk | hk
  ·exact wpAny_Name (wpAny_loadName_cell I.ok.kind hk hc hcell fin) hd
  ·exact wpAny_Name (wpAny_loadName_free I.ok.kind hk hc hcell fin hcd) hd
theorem aV{i j pos}:PE X (.Constant (.int i) j pos) (tC (.int i)):=λ_ _ _ H _ I h=>wpAny_Constant_int ⟨.int i,H,I.tok _,⟨_,rfl⟩,h⟩
theorem DQ{b j pos}:PE X (.Constant (.bool b) j pos) (tC (.bl b)):=λ_ _ _ H _ I h=>Constant_bool ⟨.bl b,H,I,rfl,h⟩
theorem DR{j pos}:PE X (.Constant .none j pos) (tC .non):=λ_ _ _ H _ I h=>Constant_none ⟨.non,H,I,rfl,h⟩
theorem oJ{x j pos}:PE X (.Constant (.str x) j pos) (tC (.str x)):=λ_ _ _ H _ I h=>Calls.Constant_str ⟨.str x,H,I.tok _,⟨_,rfl⟩,h⟩
def Gl(X:Cx)(x:Str):Prop:=X.env.kindOf x=some .globalImplicit
theorem lF{E:R7->R9->Prop}{TR:List (R8×Obj)}{s:R9}{σ:St}{H:Hp}{x:Str}{u:R7}{pos:Pos}{Q:R7->R9->Prop}(I:ae X TR σ H s)(hg:Gl X x)(hm:X.mg x=some u)(h:Q u s)
 (hd:(x==("__debug__":Str))=false:=by decide):Sf (Si X.prog X.w) X.A (eval (.Name x pos) X.env) Q E s:=
 OV I.ok.kind hg (Calls.loadGlobal_global (by rw [I.ok.glob];exact I.mod.glob.keeps I.bk) hm h) hd
theorem j2{E:R7->R9->Prop}{TR:List (R8×Obj)}{s:R9}{σ:St}{H:Hp}{x:Str}{u:R7}{pos:Pos}{Q:R7->R9->Prop}(I:ae X TR σ H s)(hg:Gl X x)(hm:X.mg x=none)(hv:Sw x=some u)(h:Q u s)
 (hn:x≠"__name__":=by decide)(hd:(x==("__debug__":Str))=false:=by decide):Sf (Si X.prog X.w) X.A (eval (.Name x pos) X.env) Q E s:=by
 obtain⟨mb,h1,h2⟩:=I.mod.blt;exact OV I.ok.kind hg (Calls.loadGlobal_builtin (by rw [I.ok.glob];exact I.mod.glob.keeps I.bk) hm (by rw [I.ok.blt];exact h1.keeps I.bk) ((h2 x hn).trans hv) h) hd
theorem jm{x:Str}{v:V}{u:R7}{pos:Pos}(hg:Gl X x)(hm:X.mg x=some u)(r:aC v u)(hd:(x==("__debug__":Str))=false:=by decide):PE X (.Name x pos) (tC v):=
 λ_ _ _ H _ I h=>lF I hg hm ⟨v,H,I,r,h⟩ hd
variable {a b:Sd} {ta tb:TE} {pos:Pos}
def PC(X:Cx)(op:CmpOp)(a b:Sd)(t:TE):Prop:=
 ∀(TR:List (R8×Obj))(s:R9)(σ:St)(H:Hp)(Q:VK),ae X TR σ H s->t σ H Q->
  Sf (Si X.prog X.w) X.A (eval a X.env) (λv s₁=>Sf (Si X.prog X.w) X.A (eval b X.env) (λu s₂=>Sf (Si X.prog X.w) X.A (Sv op v u) (EP X TR σ Q) X.xe s₂) X.xe s₁) X.xe s
theorem uN(b:Sd){op:CmpOp}(h:op≠ .In)(h2:op≠ .NotIn):SD op b=false:=by
 have e1:(op==CmpOp.In)=false:=by cases op <;> first | rfl | exact absurd rfl h
 have e2:(op==RO)=false:=by cases op <;> first | rfl | exact absurd rfl h2
 cases b <;> simp [SD,e1,e2]
def tB(t:TE):TT:=λσ H Q=>t σ H λx H1=>∃c,x= .bl c/\Q c H1
theorem DU{op:CmpOp}{t:TE}(h:PC X op a b t)(h1:SD op b=false:=by first | exact uN _ RZ RZ | rfl):PE X (.Compare a [op] [b] pos) t:=λTR s σ H Q I hw=>wpAny_Compare1 (h TR s σ H Q I hw) h1
theorem uO{op:CmpOp}{t:TE}(h:PC X op a b t)(h1:SD op b=false:=by first | exact uN _ RZ RZ | rfl):PT X (.Compare a [op] [b] pos) (tB t):=by
 intro TR s σ H Q I hw;refine wpAny_isTrue_Compare1 (ax (h TR s σ H _ I hw) λv s1 h1=>ax h1 λu s2 h2=>ax h2 λc s3 ⟨x,H1,I1,r1,q1⟩=>?_) h1;obtain⟨d,rfl,q⟩:=q1;cases r1;exact SK ⟨H1,I1,q⟩
theorem uP{e:Sd}{t:TE}(h:PE X e t)(he:∀whole,isTrue e X.env whole=(do let v<-whole;standAt e.pos;To [v] (truthy v)):=by intro _;rfl):PT X e (tB t):=by
 intro TR s σ H Q I hw;refine isTrue_plain (ax (h TR s σ H _ I hw) λv s1 ⟨x,H1,I1,r1,q1⟩=>?_) (he _);obtain⟨d,rfl,q⟩:=q1;cases r1;exact SK ⟨H1,I1,q⟩
variable {tA tB':TT} {rest:List Sd}
def uQ(t u:TT):TT:=λσ H Q=>t σ H λc H1=>if c=true then u σ H1 Q else Q false H1
def uR(t u:TT):TT:=λσ H Q=>t σ H λc H1=>if c=true then Q true H1 else u σ H1 Q
def uS(t:TT):TT:=λσ H Q=>t σ H λc H1=>Q (!c) H1
theorem uT(ha:PT X a tA):PW X (.BoolOp .And [a] pos) tA:=by
 intro wh TR s σ H Q I h;refine isTrue_and (ax (ha TR s σ H Q I h) λc s1 e=>?_);cases c with
 | true=>exact isTrue_and_nil e
 | false=>exact e
theorem uU(ha:PT X a tA):PW X (.BoolOp .Or [a] pos) tA:=by
 intro wh TR s σ H Q I h;refine isTrue_or (ax (ha TR s σ H Q I h) λc s1 e=>?_);cases c with
 | false=>exact isTrue_or_nil e
 | true=>exact e
theorem uV(ha:PT X a tA)(hb:PW X (.BoolOp .And (b::rest) pos) tB'):PW X (.BoolOp .And (a::b::rest) pos) (uQ tA tB'):=by
 intro wh TR s σ H Q I h;refine isTrue_and (ax (ha TR s σ H _ I h) λc s1 ⟨H1,I1,q1⟩=>?_);cases c with
 | true=>exact hb wh TR s1 σ H1 Q I1 q1
 | false=>exact⟨H1,I1,q1⟩
theorem uW(ha:PT X a tA)(hb:PW X (.BoolOp .Or (b::rest) pos) tB'):PW X (.BoolOp .Or (a::b::rest) pos) (uR tA tB'):=by
 intro wh TR s σ H Q I h;refine isTrue_or (ax (ha TR s σ H _ I h) λc s1 ⟨H1,I1,q1⟩=>?_);cases c with
 | true=>exact⟨H1,I1,q1⟩
 | false=>exact hb wh TR s1 σ H1 Q I1 q1
theorem DV(ha:PT X a tA):PT X (.UnaryOp .Not a pos) (uS tA):=by
 intro TR s σ H Q I h;exact isTrue_not (ax (ha TR s σ H (λc H1=>Q (!c) H1) I h) λc s1 uu8=>by obtain⟨H1,I1,q⟩:=uu8;exact⟨H1,I1,q⟩)
def uX(ta tb:TE):TE:=λσ H Q=>ta σ H λx H1=>∃c,x= .bl c/\if c=true then tb σ H1 Q else Q (.bl false) H1
def uY(ta tb:TE):TE:=λσ H Q=>ta σ H λx H1=>∃c,x= .bl c/\if c=true then Q (.bl true) H1 else tb σ H1 Q
theorem oK{op}{t:TE}(h:PE X a t):PE X (.BoolOp op [a] pos) t:=λTR s σ H Q I hw=>BoolOp_one (h TR s σ H Q I hw)
theorem uZ(ha:PE X a ta)(hb:PE X (.BoolOp .And (b::rest) pos) tb):PE X (.BoolOp .And (a::b::rest) pos) (uX ta tb):=by
 intro TR s σ H Q I h;refine BoolOp_and (ax (ha TR s σ H _ I h) λv s1 ⟨x,H1,I1,r1,q1⟩=>?_);obtain⟨c,rfl,q1⟩:=q1;cases r1;refine SK ?_;cases c with
 | true=>exact hb TR s1 σ H1 Q I1 q1
 | false=>exact⟨.bl false,H1,I1,rfl,q1⟩
theorem va(ha:PE X a ta)(hb:PE X (.BoolOp .Or (b::rest) pos) tb):PE X (.BoolOp .Or (a::b::rest) pos) (uY ta tb):=by
 intro TR s σ H Q I h;refine BoolOp_or (ax (ha TR s σ H _ I h) λv s1 ⟨x,H1,I1,r1,q1⟩=>?_);obtain⟨c,rfl,q1⟩:=q1;cases r1;refine SK ?_;cases c with
 | false=>exact hb TR s1 σ H1 Q I1 q1
 | true=>exact⟨.bl true,H1,I1,rfl,q1⟩
def vb(t:TT)(ta tb:TE):TE:=λσ H Q=>t σ H λc H1=>if c=true then ta σ H1 Q else tb σ H1 Q
theorem vc{c:Sd}(hc:PT X c tA)(ha:PE X a ta)(hb:PE X b tb):PE X (.IfExp c a b pos) (vb tA ta tb):=by
 intro TR s σ H Q I h;refine wpAny_IfExp (ax (hc TR s σ H _ I h) λd s1 ⟨H1,I1,q1⟩=>?_);cases d with
 | true=>exact ha TR s1 σ H1 Q I1 q1
 | false=>exact hb TR s1 σ H1 Q I1 q1
end
def aN(K:Ll)(H:Hp)(a:R8)(xs:List V):Prop:=
 Rd H a (.lst xs)\/
  ∃(o:Obj)(its:Array R7)(n:Nat),K.lookup a=some o/\o.cls= .type "list"/\o.dict=none/\o.data= .seq its n/\its.size<=Sb/\aA xs its.toList
def aW(K:Ll)(H:Hp)(a:R8)(xs:List V):Prop:=
 Rd H a (.tup xs)\/
  ∃(o:Obj)(its:Array R7)(n:Nat),K.lookup a=some o/\o.cls= .type "tuple"/\o.data= .seq its n/\its.size<=Sb/\aA xs its.toList
def DW:R7->Option V
 | .none=>some .non
 | .bool b=>some (.bl b)
 | .int i _=>some (.int i)
 | .str x _=>some (.str x)
 | .bytes b _=>some (.byt b)
 | .float b _=>some (.flt b)
 | .ref a=>some (.ref a)
 | .type n=>some (.ty n)
 | _=>none
theorem aC.abs{x:V}{u:R7}(r:aC x u):DW u=some x:=by
 cases x with
 | non=>cases r;rfl
 | bl _=>cases r;rfl
 | int _=>obtain⟨t,rfl⟩:=r;rfl
 | str _=>obtain⟨t,rfl⟩:=r;rfl
 | byt _=>obtain⟨t,rfl⟩:=r;rfl
 | flt _=>obtain⟨t,rfl⟩:=r;rfl
 | ref _=>cases r;rfl
 | ty _=>cases r;rfl
theorem aC.inj{x y:V}{u:R7}(r:aC x u)(q:aC y u):x=y:=Mg (r.abs.symm.trans q.abs)
theorem aA.inj:∀{xs ys:List V}{us:List R7},aA xs us->aA ys us->xs=ys
 | _,_,_,.nil,.nil=>rfl
 | _,_,_,.cons r t,.cons r' t'=>by rw [r.inj r',aA.inj t t']
section
variable {X:Cx} {TR:List (R8×Obj)} {σ:St} {H:Hp} {s:R9} {a:R8} {xs ys:List V}
theorem aN.of{K:Ll}(h:H a=some (.lst xs)):aN K H a xs:= .inl (.inl h)
theorem aW.of{K:Ll}(h:H a=some (.tup xs)):aW K H a xs:= .inl (.inl h)
theorem ae.list(I:ae X TR σ H s)(h:aN X.K H a xs):∃its:List R7,aA xs its/\PlainL s.heap a its.toArray/\xs.length<=Sb:=by
 rcases h with h | ⟨o,its,n,hk,hc,hd,hs,hz,r⟩
 ·obtain⟨z,its,n,r,e⟩:=h.ok I.hok;exact⟨its,r,⟨_,n,e,rfl,rfl,rfl⟩,z⟩
 ·refine⟨its.toList,r,⟨o,n,I.kIn a o hk,hc,hd,by simpa using hs⟩,?_⟩;have e:=r.length;simp only [LR] at e;omega
theorem ae.tuple(I:ae X TR σ H s)(h:aW X.K H a xs):∃its:List R7,aA xs its/\IsTup s.heap a its.toArray/\xs.length<=Sb:=by
 rcases h with h | ⟨o,its,n,hk,hc,hs,hz,r⟩
 ·obtain⟨z,its,r,p⟩:=h.ok I.hok;exact⟨its,r,p,z⟩
 ·refine⟨its.toList,r,⟨o,I.kIn a o hk,hc,n,by simpa using hs⟩,?_⟩;have e:=r.length;simp only [LR] at e;omega
theorem ae.list_inj(I:ae X TR σ H s)(h:aN X.K H a xs)(h':aN X.K H a ys):xs=ys:=by
 obtain⟨its,r,⟨o,n,e,_,_,d⟩,_⟩:=I.list h;obtain⟨its',r',⟨o',n',e',_,_,d'⟩,_⟩:=I.list h';rw [e] at e';cases e';rw [d] at d';injection d' with d1 _
 have:its=its':=by simpa using congrArg RC d1
 subst this;exact r.inj r'
theorem ae.tuple_inj(I:ae X TR σ H s)(h:aW X.K H a xs)(h':aW X.K H a ys):xs=ys:=by
 obtain⟨its,r,⟨o,e,_,n,d⟩,_⟩:=I.tuple h;obtain⟨its',r',⟨o',e',_,n',d'⟩,_⟩:=I.tuple h';rw [e] at e';cases e';rw [d] at d';injection d' with d1 _
 have:its=its':=by simpa using congrArg RC d1
 subst this;exact r.inj r'
end
abbrev Cx.wish(X:Cx)(E:R7->R9->Prop):Cx:={X with xe:=E}
abbrev Cx.nox(X:Cx):Cx:=X.wish λ_ _=>False
theorem Cx.Ok.wish{X:Cx}(ok:X.Ok)(E:R7->R9->Prop):(X.wish E).Ok:=
 ⟨ok.mod,ok.kind,ok.glob,ok.blt,ok.above,ok.inj,ok.has,ok.cab,ok.hd,ok.frames,ok.stk,ok.exf,ok.bs,ok.bsz,ok.noex,ok.exfs,ok.funs,ok.frf⟩
theorem Cx.Ok.unwish{X:Cx}{E:R7->R9->Prop}(ok:(X.wish E).Ok):X.Ok:=
 ⟨ok.mod,ok.kind,ok.glob,ok.blt,ok.above,ok.inj,ok.has,ok.cab,ok.hd,ok.frames,ok.stk,ok.exf,ok.bs,ok.bsz,ok.noex,ok.exfs,ok.funs,ok.frf⟩
section
variable {X:Cx} {TR:List (R8×Obj)} {σ:St} {H:Hp} {s:R9} {E:R7->R9->Prop}
theorem ae.wish(I:ae X TR σ H s)(E:R7->R9->Prop):ae (X.wish E) TR σ H s:=⟨I.ok.wish E,I.os,I.bare,I.base,I.loc,I.cell,I.free,I.freeC,I.pin,I.hok,I.len⟩
theorem ae.unwish(I:ae (X.wish E) TR σ H s):ae X TR σ H s:=⟨I.ok.unwish,I.os,I.bare,I.base,I.loc,I.cell,I.free,I.freeC,I.pin,I.hok,I.len⟩
theorem SP.unwish{D:gL}{f:Flow}{s':R9}(h:SP (X.wish E) TR D f s'):SP X TR D f s':=by
 cases f with
 | next=>obtain⟨σ',H',I,q⟩:=h;exact⟨σ',H',I.unwish,q⟩
 | brk=>obtain⟨σ',H',I,q⟩:=h;exact⟨σ',H',I.unwish,q⟩
 | cont=>obtain⟨σ',H',I,q⟩:=h;exact⟨σ',H',I.unwish,q⟩
 | ret u=>obtain⟨v,σ',H',I,r,q⟩:=h;exact⟨v,σ',H',I.unwish,r,q⟩
theorem bJ.nox{st:List Sq}{t:TS}(h:bJ X.nox st t):bJ X st t:=λTR s σ H D I hw=>
 Sz (h TR s σ H D (I.wish _) hw) (λ_ _ q=>q.unwish) λ_ _ z=>MP z
end
section
variable {X:Cx} {st:Sq} {rest:List Sq} {t u:TS} {e:Sd} {te:TE} {pos:Pos}
def vd:TS:=λD σ H=>D.nx σ H
def ve(t u:TS):TS:=λD σ H=>t {D with nx:=u D} σ H
theorem iL:bJ X [] vd:=λ_ _ σ H _ I h=>Tr ⟨σ,H,I,h⟩
theorem cu(h1:PS X st t)(h2:bJ X rest u):bJ X (st::rest) (ve t u):=by
 intro TR s σ H D I h;refine wpAny_execs_cons (ax (h1 TR s σ H {D with nx:=u D} I h) λf s1 q=>?_);cases f with
 | next=>
  obtain⟨σ',H',I',q⟩:=q;exact h2 TR s1 σ' H' D I' q
 | ret v=>exact q
 | brk=>exact q
 | cont=>exact q
theorem c9(h1:PS X st t):bJ X [st] t:=by
 intro TR s σ H D I h;refine wpAny_execs_cons (ax (h1 TR s σ H D I h) λf s1 q=>?_);cases f with
 | next=>exact Tr q
 | ret v=>exact q
 | brk=>exact q
 | cont=>exact q
theorem ae.quiet{TR:List (R8×Obj)}{σ:St}{H:Hp}{s:R9}(I:ae X TR σ H s):interactive X.env=false:=by simp [interactive,I.ok.kind]
def vf(te:TE):TS:=λD σ H=>te σ H λ_ H1=>D.nx σ H1
theorem j3(he:PE X e te)(hs:Sx e none pos.line X.env=pure false:=by rfl):PS X (.Expr e pos) (vf te):=by
 intro TR s σ H D I h;exact wpAny_Expr_any (ax (he TR s σ H _ I h) λv s1 uu12=>by obtain⟨x,H1,I1,r1,q1⟩:=uu12;exact⟨σ,H1,I1,q1⟩) I.quiet hs
def vg(te:TE):TS:=λD σ H=>te σ H D.rt
theorem dG(he:PE X e te):PS X (.Return (some e) pos) (vg te):=by
 intro TR s σ H D I h;exact wpAny_Return_some (ax (he TR s σ H _ I h) λv s1 uu13=>by obtain⟨x,H1,I1,r1,q1⟩:=uu13;exact⟨x,σ,H1,I1,r1,q1⟩)
def vh(c:TT)(t u:TS):TS:=λD σ H=>c σ H λb H1=>if b=true then t D σ H1 else u D σ H1
theorem iM{c:Sd}{a b:List Sq}{tc:TT}(hc:PT X c tc)(ha:bJ X a t)(hb:bJ X b u):PS X (.If c a b pos) (vh tc t u):=by
 intro TR s σ H D I h;refine wpAny_If (ax (hc TR s σ H _ I h) λd s1 ⟨H1,I1,q1⟩=>?_);cases d with
 | true=>exact ha TR s1 σ H1 D I1 q1
 | false=>exact hb TR s1 σ H1 D I1 q1
def DX:TS:=λ_ _ _=>False
theorem DY:PS X st DX:=λ_ _ _ _ _ _ h=>h.elim
end
abbrev TG:=V->St->Hp->(St->Hp->Prop)->Prop
abbrev gf:=List V->St->Hp->(St->Hp->Prop)->Prop
def PG(X:Cx)(target:Sd)(t:TG):Prop:=
 ∀(TR:List (R8×Obj))(s:R9)(σ:St)(H:Hp)(v:V)(u:R7)(Q:St->Hp->Prop),ae X TR σ H s->aC v u->t v σ H Q->
  Sf (Si X.prog X.w) X.A (assign target X.env u) (λ_ s'=>∃σ' H',ae X TR σ' H' s'/\Q σ' H') X.xe s
def lG(X:Cx)(ts:List Sd)(t:gf):Prop:=
 ∀(TR:List (R8×Obj))(s:R9)(σ:St)(H:Hp)(vs:List V)(us:List R7)(Q:St->Hp->Prop),ae X TR σ H s->aA vs us->t vs σ H Q->
  Sf (Si X.prog X.w) X.A (assignInOrder ((Tb ts X.env).map (·.2)) us) (λ_ s'=>∃σ' H',ae X TR σ' H' s'/\Q σ' H') X.xe s
abbrev oM:=V->V->V->Hp->(Hp->Prop)->Prop
def vi(X:Cx)(t:oM):Prop:=
 ∀(TR:List (R8×Obj))(s:R9)(σ:St)(H:Hp)(o i v:V)(ov iv u:R7)(Q:Hp->Prop),ae X TR σ H s->aC o ov->aC i iv->aC v u->t o i v H Q->
  Sf (Si X.prog X.w) X.A (setItem ov iv u) (λ_ s'=>∃H',ae X TR σ H' s'/\Q H') X.xe s
section
variable {X:Cx} {pos:Pos}
def gg(i:Nat):TG:=λv σ H Q=>Q (σ.set i (some v)) H
theorem aI{i:Nat}{x:Str}(hN:X.N.Nodup)(hi:X.N[i]?=some x)(hx:gc X.env.scope x)(hf:X.fn x=true\/X.env.scope.names.lookup x=some .local:=by first | exact .inl rfl | exact .inr rfl | assumption):PG X (.Name x pos) (gg i):=by
 intro TR s σ H v u Q I r h;exact wpAny_assign_Name (lE I hN hi hx r (λs' I'=>⟨_,H,I',h⟩) hf)
def lH:gf:=λvs σ H Q=>vs=[]/\Q σ H
def j4(t:TG)(u:gf):gf:=λvs σ H Q=>∃v r,vs=v::r/\t v σ H λσ' H'=>u r σ' H' Q
theorem gh:lG X [] lH:=by
 intro TR s σ H vs us Q I r h;obtain⟨e,h⟩:=h;subst e;cases r;exact assignInOrder_nil ⟨σ,H,I,h⟩
theorem cw{e:Sd}{es:List Sd}{t:TG}{u:gf}(h1:PG X e t)(h2:lG X es u)
 (hs:(Tb (e::es) X.env).map (·.2)=assign e X.env::(Tb es X.env).map (·.2):=by rfl):lG X (e::es) (j4 t u):=by
 intro TR s σ H vs us Q I r h;obtain⟨v,vr,e1,h⟩:=h;subst e1;cases r with
 | cons r rr=>
  rw [hs];refine Tz (ax (h1 TR s σ H _ _ _ I r h) λ_ s1 ⟨σ1,H1,I1,q1⟩=>?_);exact h2 TR s1 σ1 H1 _ _ Q I1 rr q1
def lI(K:Ll)(n:Nat)(t:gf):TG:=λv σ H Q=>∃a xs,v= .ref a/\aW K H a xs/\xs.length=n/\t xs σ H Q
theorem gi{es:List Sd}{k:Nat}{t:gf}{n:Nat}(hc:X.calm=true)(h:lG X es t)
 (hn:(Tb es X.env).length=n:=by rfl)(hst:(Tb es X.env).findIdx? (·.1)=none:=by rfl):PG X (.Tuple es k pos) (lI X.K n t):=by
 intro TR s σ H v u Q I r hw;obtain⟨a,xs,e1,hq,hl,hw⟩:=hw;subst e1;cases r;obtain⟨its,rv,ht,hz⟩:=I.tuple hq;refine assign_Tuple_tuple (I.ok.hd hc) ht (by simp [hn,<-hl,rv.length]) hst λh' hx=>?_;have I1:ae X TR σ H {s with heap:=h'}:=I.kept (t':=s.toks) λb o e=>hx b o (LV (LJ e)) e;exact h TR _ σ H xs _ Q I1 (by simpa using rv) hw
def vj(to ti:TE)(t:oM):TG:=λv σ H Q=>to σ H λo H1=>ti σ H1 λi H2=>t o i v H2 λH3=>Q σ H3
theorem oN{o i:Sd}{to ti:TE}{t:oM}(ho:PE X o to)(hi:PE X i ti)(hs:vi X t)
 (ha:∀v,assign (.Subscript o i pos) X.env v=(do
   let ov<-To [v] (eval o X.env)
   let iv<-To [v,ov] (eval i X.env)
   standAt pos
   To [v,ov,iv] (setItem ov iv v)
   release [v,ov,iv] []):=by intro _;rfl):PG X (.Subscript o i pos) (vj to ti t):=by
 intro TR s σ H v u Q I r h;rw [ha];refine Sa (SA (ax (ho TR s σ H _ I h) λov s1 ⟨x,H1,I1,r1,q1⟩=>?_));refine Sa (SA (ax (hi TR s1 σ H1 _ I1 q1) λiv s2 ⟨y,H2,I2,r2,q2⟩=>?_));refine Sa (TB (Sa (SA (ax (hs TR s2 σ H2 x y v ov iv u _ I2 r1 r2 r q2) λ_ s3 ⟨H3,I3,q3⟩=>?_))));exact wpAny_release ⟨σ,H3,I3,q3⟩
def j5(te:TE)(g:TG):TS:=λD σ H=>te σ H λx H1=>g x σ H1 D.nx
theorem lJ{tg e:Sd}{te:TE}{g:TG}(he:PE X e te)(hg:PG X tg g)(hs:TC [tg] e pos.line X.env=pure false:=by rfl)(hw:TF [tg] e X.env=pure none:=by rfl)
 (h1:(Tb [tg] X.env).map (·.2)=[assign tg X.env]:=by rfl):PS X (.Assign [tg] e pos) (j5 te g):=by
 intro TR s σ H D I h;refine wpAny_Assign_stores (ax (he TR s σ H _ I h) λv s1 ⟨x,H1,I1,r1,q1⟩=>?_) hs hw;rw [h1];exact ax (hg TR s1 σ H1 x v _ I1 r1 q1) λ_ s2 q=>q
theorem cV{i:Nat}{x:Str}{e:Sd}{te:TE}{pos':Pos}(hN:X.N.Nodup)(hi:X.N[i]?=some x)(hx:gc X.env.scope x)(he:PE X e te)(hs:Sx e (some (.Name x pos')) pos.line X.env=pure false:=by rfl)(hf:X.fn x=true\/X.env.scope.names.lookup x=some .local:=by first | exact .inl rfl | exact .inr rfl | assumption):
 PS X (.Assign [.Name x pos'] e pos) (j5 te (gg i)):=by
 intro TR s σ H D I h;refine wpAny_Assign_Name (ax (he TR s σ H _ I h) λv s1 ⟨y,H1,I1,r1,q1⟩=>?_) hs;exact lE I1 hN hi hx r1 (λs2 I2=>⟨_,H1,I2,q1⟩) hf
def vk(i j:Nat)(ta:TA):TS:=λD σ H=>ta σ H λvs H1=>∃v w,vs=[v,w]/\D.nx ((σ.set i (some v)).set j (some w)) H1
theorem DZ{i j:Nat}{x y:Str}{a b:Sd}{ta:TA}{px py pt:Pos}{kt k2 pt2}(hc:X.calm=true)(hN:X.N.Nodup)(hi:X.N[i]?=some x)(hj:X.N[j]?=some y)(hij:i≠j)
 (hx:X.env.scope.names.lookup x=some .local)(hy:X.env.scope.names.lookup y=some .local)(ha:PA X [a,b] ta)
 (hw:TF [.Tuple [.Name x px,.Name y py] kt pt] (.Tuple [a,b] k2 pt2) X.env=pure (some [x,y]))
 (hs:TC [.Tuple [.Name x px,.Name y py] kt pt] (.Tuple [a,b] k2 pt2) pos.line X.env=pure false:=by rfl):
 PS X (.Assign [.Tuple [.Name x px,.Name y py] kt pt] (.Tuple [a,b] k2 pt2) pos) (vk i j ta):=by
 intro TR s σ H D I h;rw [exec_Assign_arm];refine Sa (TB ?_);rw [hs];refine Sa (Sg ?_);rw [R1 RZ];refine Sa (Tuple_ (ax (ha _ TR s σ H _ I h) λus s1 ⟨vs,H1,I1,r1,q1⟩=>?_));obtain⟨v,w,e1,q1⟩:=q1;subst e1;obtain⟨u1,u2,rfl,rv,rw'⟩:∃u1 u2,us=[u1,u2]/\aC v u1/\aC w u2:=by
  cases r1 with
  | cons p q=>
   cases q with
   | cons p' q'=>
    cases q';exact⟨_,_,rfl,p,p'⟩
 refine SX ?_ (by show 2<=Sb;decide);have I2:ae X TR σ H1 {s1 with heap:=s1.heap.push {cls:= .type "tuple",data:= .seq [u1,u2].toArray}}:=I1.kept (t':=s1.toks) λb o e=>Lo _ e;rw [hw];refine Sa (Sg ?_);show Sf (Si X.prog X.w) X.A (do rule "assign.swapped-stores";let items<-unpackItems (.ref s1.heap.objs.size) 2 none;assignInOrder [λv=>bindName X.env y v,λv=>bindName X.env x v] items.reverse;pure RW) _ _ _;refine Sa (wpAny_rule (Sa (unpackItems_tuple (items:=#[u1,u2]) (I.ok.hd hc) (Qr s1.heap _) λh' hx'=>?_)));have I3:=I2.kept (h':=h') (t':=s1.toks) λb o e=>hx' b o (LV (LJ e)) e;show Sf _ _ (assignInOrder [λv=>bindName X.env y v,λv=>bindName X.env x v] [u2,u1] >>=λ_=>pure RW) _ _ _;refine Sa (Tz (wpAny_bindName (lE I3 hN hj (.inl hy) rw' (λs2 I4=>?_) (.inr hy))));refine Tz (wpAny_bindName (lE I4 hN hi (.inl hx) rv (λs3 I5=>assignInOrder_nil (Sg ?_)) (.inr hx)));rw [List.set_comm _ _ (Ne.symm hij)] at I5;exact⟨_,H1,I5,q1⟩
def D1(c:TT)(tb:TS):TS:=λD σ H=>∃W:Nat->St->Hp->Prop,(∃m,W m σ H)/\∀m σ H,W m σ H->
 c σ H λb H1=>if b=true then ∃N:St->Hp->Prop,(∀σ' H',N σ' H'->∃m',m' < m/\W m' σ' H')/\tb {D with nx:=N,ct:=N,bk:=D.nx} σ H1 else D.nx σ H1
theorem vo{c:Sd}{body:List Sq}{tc:TT}{tb:TS}(hp:Tp (Si X.prog X.w) X.A X.env X.xe)(hc:PT X c tc)(hb:bJ X body tb):PS X (.While c body [] pos) (D1 tc tb):=by
 intro TR s σ H D I h;obtain⟨W,⟨m0,w0⟩,turn⟩:=h;refine wpAny_While (codeAny_whileLoop (λn s'=>∃σ' H',ae X TR σ' H' s'/\W n σ' H') ?_ m0 ⟨σ,H,I,w0⟩);rintro n s1 ⟨σ1,H1,I1,w1⟩;refine SV hp (ax (hc TR s1 σ1 H1 _ I1 (turn n σ1 H1 w1)) λb s2 ⟨H2,I2,q2⟩=>?_);cases b with
 | true=>
  obtain⟨N,hN,q2⟩:=q2;rw [R3 rfl];refine SV hp (ax (hb TR s2 σ1 H2 _ I2 q2) λf s3 q3=>?_);cases f with
  | next=>
   obtain⟨σ3,H3,I3,n3⟩:=q3;obtain⟨m',hm,w3⟩:=hN σ3 H3 n3;exact⟨m',hm,σ3,H3,I3,w3⟩
  | cont=>
   obtain⟨σ3,H3,I3,n3⟩:=q3;obtain⟨m',hm,w3⟩:=hN σ3 H3 n3;exact⟨m',hm,σ3,H3,I3,w3⟩
  | brk=>exact q3
  | ret v=>exact q3
 | false=>
  rw [R1 Lx];exact Tr ⟨σ1,H2,I2,q2⟩
end
structure It where
 go:Nat->Hp->Prop
 yld:Nat->Hp->V->Hp->Prop
 stop:Nat->Hp->Prop
def fH(X:Cx)(TR:List (R8×Obj))(H:Hp)(b:R8):Prop:=
 H b=none/\b≠X.env.locals/\b ∉ X.fs/\(b∈X.ex\/X.s₀.heap.objs.size<=b)/\(∀x c,X.env.cells.lookup x=some c->c≠b)/\∀p∈X.pn++TR,p.1≠b
theorem ae.fpOk{X:Cx}{TR:List (R8×Obj)}{σ:St}{H H':Hp}{s:R9}{b:R8}(I:ae X TR σ H s)(hb:s.heap.objs.size<=b)(hn:H' b=none):fH X TR H' b:=by
 refine⟨hn,Ph (Md I.lt hb),I.nofs hb,.inr (LY I.sz hb),λx c e z=>?_,λp hp z=>?_⟩
 ·obtain⟨v,q⟩:=I.cell x c e;exact absurd (Md q.lt (by rw [z];exact hb)) (Nj _)
 ·exact absurd (Md (LJ (I.pin p hp).1) (by rw [z];exact hb)) (Nj _)
structure jn (P:Sk) (w:Sm) (K:Ll) (tg:Sd) (J:It) (fp:List R8) (it:R8) (tn:Nat->Sn->Prop):Prop where
 mem:it∈fp
 obj:∀i h,tn i h->∀b∈fp,∃o,h.get? b=some o/\∀v,o.data≠ .cell v
 keep:∀i h h',tn i h->(∀b∈fp,∀o,h.get? b=some o->h'.get? b=some o)->tn i h'
 item:∀(X:Cx),X.prog=P->X.w=w->X.K=K->X.calm=true->∀(i:Nat)(TR:List (R8×Obj))(s:R9)(σ:St)(H:Hp)(E:R7->R9->Prop),ae X TR σ H s->(∀b∈fp,fH X TR H b)->tn i s.heap->J.go i H->
  Sf (Si P w) X.A (pyNext (.ref it)) (λr s1=>∃u,r=some u/\
   Sf (Si P w) X.A (Ts tg (.ref it) u) (λ_ s2=>∃x H',ae X TR σ H' s2/\aC x u/\J.yld i H x H'/\tn (i+1) s2.heap/\∀b∈fp,H' b=none) E s1) E s
 done:∀(X:Cx),X.prog=P->X.w=w->X.K=K->X.calm=true->∀(i:Nat)(TR:List (R8×Obj))(s:R9)(σ:St)(H:Hp)(E:R7->R9->Prop),ae X TR σ H s->(∀b∈fp,fH X TR H b)->tn i s.heap->J.stop i H->
  Sf (Si P w) X.A (pyNext (.ref it)) (λr s1=>r=none/\ae X TR σ H s1) E s
 self:∀(A:Ss)(i:Nat)(s:R9)(Q:R7->R9->Prop)(E:R7->R9->Prop),tn i s.heap->Q (.ref it) s->Sf (Si P w) A (pyIter (.ref it)) Q E s
abbrev TI:=St->Hp->(It->Hp->Prop)->Prop
def vp(X:Cx)(TR:List (R8×Obj))(σ:St)(tg:Sd)(R:It->Hp->Prop)(itv:R7)(s2:R9):Prop:=
 ∃(it:R8)(fp:List R8)(tn:Nat->Sn->Prop)(J:It)(H':Hp),itv= .ref it/\ae X TR σ H' s2/\jn X.prog X.w X.K tg J fp it tn/\tn 0 s2.heap/\(∀b∈fp,fH X TR H' b)/\R J H'
def PI(X:Cx)(tg iter:Sd)(wi:TI):Prop:=
 ∀(TR:List (R8×Obj))(s:R9)(σ:St)(H:Hp)(R:It->Hp->Prop),ae X TR σ H s->wi σ H R->
  Sf (Si X.prog X.w) X.A (eval iter X.env) (λv s1=>Sf (Si X.prog X.w) X.A (pyIter v) (vp X TR σ tg R) X.xe s1) X.xe s
theorem j6{M:Model}{A:Ss}{E:R7->R9->Prop}{s:R9}{tg:Sd}{it:R8}{u:R7}{o:Obj}{n:String}{vs:Array R7}{Q:Unit->R9->Prop}(ho:s.heap.get? it=some o)(hc:o.cls= .type n)(hd:o.data= .fields vs)
 (hn:["enumerate","zip","dict_itemiterator","dict_reverseitemiterator","odict_iterator","itertools.zip_longest","itertools.pairwise"].contains n=false)(hQ:Q () s):Sf M A (Ts tg (.ref it) u) Q E s:=by
 unfold Ts;cases tg <;> first
  | exact Sg hQ
  | (cases u <;> first
      | exact Sg hQ
      | (refine Sa (wpAny_load ho ?_)
         rw [hc,hd];show Sf M A (if (["enumerate","zip","dict_itemiterator","dict_reverseitemiterator","odict_iterator","itertools.zip_longest","itertools.pairwise"].contains n && vs[0]?==some (rawInt _))=true then _ else _) Q E s;rw [R1 (by intro h;rw [hn,P6] at h;cases h)];exact Sg hQ))
def j7(K:Ll)(a:R8):It:=
 ⟨λi H=>∃xs x,aN K H a xs/\xs[i]?=some x,λi H x H'=>H'=H/\∀xs,aN K H a xs->xs[i]?=some x,λi H=>∃xs,aN K H a xs/\xs.length<=i⟩
def j9(K:Ll)(a:R8):It:=
 ⟨λi H=>∃xs x,aW K H a xs/\xs[i]?=some x,λi H x H'=>H'=H/\∀xs,aW K H a xs->xs[i]?=some x,λi H=>∃xs,aW K H a xs/\xs.length<=i⟩
def gm(lo:Int)(n:Nat):It:=⟨λi _=>i < n,λi H x H'=>H'=H/\x= .int (lo+i),λi _=>n<=i⟩
theorem D2{P:Sk}{w:Sm}{K:Ll}{tg:Sd}(a it:R8):jn P w K tg (j7 K a) [it] it (λi h=>h.IsListIter it a i) where
 mem:=R5
 obj:=λi h st b hb=>by
  have e:b=it:=by simpa using hb
  subst e;obtain⟨o,e,c,d⟩:=st;exact⟨o,e,λv z=>by rw [d] at z;cases z⟩
 keep:=λi h h' st k=>st.at λo e=>k it R5 o e
 item:=by
  intro X hP hw hK hc i TR s σ H E I hf st hg;subst hP hw hK;obtain⟨xs,x,hq,hx⟩:=hg;obtain⟨its,rv,p,hz⟩:=I.list hq;obtain⟨u,hu,ru⟩:=rv.get hx;obtain⟨f0,f1,f2,f3,f4,f5⟩:=hf it R5;refine wpAny_pyNext_list_item st p.isList (x:=u) (by simpa using hu) λh' st' sb=>?_;have I1:ae X TR σ H {s with heap:=h'}:=I.turned (t':=s.toks) (λb o hb e=>(sb.2 b hb).trans e) f0 f1 f3 f4 f5;obtain⟨o,e,c,d⟩:=id st';exact⟨u,rfl,j6 (s:={s with heap:=h'}) e c d RZ ⟨x,H,I1,ru,⟨rfl,λys hy=>by rw [I.list_inj hy hq];exact hx⟩,st',λb hb=>(hf b hb).1⟩⟩
 done:=by
  intro X hP hw hK hc i TR s σ H E I hf st hg;subst hP hw hK;obtain⟨xs,hq,hx⟩:=hg;obtain⟨its,rv,p,hz⟩:=I.list hq;obtain⟨f0,f1,f2,f3,f4,f5⟩:=hf it R5;have hl:=rv.length;exact wpAny_pyNext_list_end (I.ok.hd hc) st p.isList (by simp;omega) λh' eb=>⟨rfl,I.turned (t':=s.toks) (λb o hb e=>eb b o hb e) f0 f1 f3 f4 f5⟩
 self:=λ_ _ _ _ _ st h=>wpAny_pyIter_listiter st h
theorem D3{P:Sk}{w:Sm}{K:Ll}{tg:Sd}(a it:R8):jn P w K tg (j9 K a) [it] it (λi h=>h.IsTupleIter it a i) where
 mem:=R5
 obj:=λi h st b hb=>by
  have e:b=it:=by simpa using hb
  subst e;obtain⟨o,e,c,d⟩:=st;exact⟨o,e,λv z=>by rw [d] at z;cases z⟩
 keep:=λi h h' st k=>st.at λo e=>k it R5 o e
 item:=by
  intro X hP hw hK hc i TR s σ H E I hf st hg;subst hP hw hK;obtain⟨xs,x,hq,hx⟩:=hg;obtain⟨its,rv,p,hz⟩:=I.tuple hq;obtain⟨u,hu,ru⟩:=rv.get hx;obtain⟨f0,f1,f2,f3,f4,f5⟩:=hf it R5;refine wpAny_pyNext_tuple_item st (show s.heap.IsTuple a its.toArray from p) (x:=u) (by simpa using hu) λh' st' sb=>?_;have I1:ae X TR σ H {s with heap:=h'}:=I.turned (t':=s.toks) (λb o hb e=>(sb.2 b hb).trans e) f0 f1 f3 f4 f5;obtain⟨o,e,c,d⟩:=id st';exact⟨u,rfl,j6 (s:={s with heap:=h'}) e c d RZ ⟨x,H,I1,ru,⟨rfl,λys hy=>by rw [I.tuple_inj hy hq];exact hx⟩,st',λb hb=>(hf b hb).1⟩⟩
 done:=by
  intro X hP hw hK hc i TR s σ H E I hf st hg;subst hP hw hK;obtain⟨xs,hq,hx⟩:=hg;obtain⟨its,rv,p,hz⟩:=I.tuple hq;obtain⟨f0,f1,f2,f3,f4,f5⟩:=hf it R5;have hl:=rv.length;exact wpAny_pyNext_tuple_end (I.ok.hd hc) st (show s.heap.IsTuple a its.toArray from p) (by simp;omega) λh' eb=>⟨rfl,I.turned (t':=s.toks) (λb o hb e=>eb b o hb e) f0 f1 f3 f4 f5⟩
 self:=λ_ _ _ _ _ st h=>wpAny_pyIter_tupleiter st h
theorem D4{P:Sk}{w:Sm}{K:Ll}{tg:Sd}(it:R8)(lo:Int)(n:Nat):jn P w K tg (gm lo n) [it] it (λi h=>IsRangeIter h it (lo+(i:Nat)*1) ((n:Int) - (i:Nat)) 1) where
 mem:=R5
 obj:=λi h st b hb=>by
  have e:b=it:=by simpa using hb
  subst e;exact⟨_,st,λv z=>by
   have z':Data.fields _=Data.cell v:=z;cases z'⟩
 keep:=λi h h' st k=>k it R5 _ st
 item:=by
  intro X hP hw hK hc i TR s σ H E I hf st hg;subst hP hw hK;obtain⟨f0,f1,f2,f3,f4,f5⟩:=hf it R5;have W:=Walks.range (prog:=X.prog) (w:=X.w) (I.ok.hd hc) it lo 1 n;refine W.item i s _ _ hg st λv h' tk hv st' kk=>?_;obtain⟨t,rfl⟩:=hv;have I1:ae X TR σ H {s with heap:=h',toks:=tk}:=I.turned (λb o hb e=>kk b o (by simpa using hb) e) f0 f1 f3 f4 f5;refine⟨_,rfl,j6 (s:={s with heap:=h',toks:=tk}) (n:="range_iterator") st' rfl rfl RZ ⟨.int (lo+i),H,I1,⟨t,?_⟩,⟨rfl,rfl⟩,st',λb hb=>(hf b hb).1⟩⟩;rw [Int.mul_one]
 done:=by
  intro X hP hw hK hc i TR s σ H E I hf st hg;subst hP hw hK;obtain⟨f0,f1,f2,f3,f4,f5⟩:=hf it R5;exact wpAny_pyNext_range_end (I.ok.hd hc) st (by have:n<=i:=hg;omega) λh' eb=>⟨rfl,I.turned (t':=s.toks) (λb o hb e=>eb b o hb e) f0 f1 f3 f4 f5⟩
 self:=λ_ _ _ _ _ st h=>wpAny_pyIter_rangeiter st h
section
variable {X:Cx} {tg:Sd}
def oO(K:Ll)(tl:TE):TI:=λσ H R=>tl σ H λx H1=>∃a,x= .ref a/\(∃xs,aN K H1 a xs)/\R (j7 K a) H1
def oP(K:Ll)(tl:TE):TI:=λσ H R=>tl σ H λx H1=>∃a,x= .ref a/\(∃xs,aW K H1 a xs)/\R (j9 K a) H1
theorem oQ{l:Sd}{tl:TE}(hl:PE X l tl):PI X tg l (oO X.K tl):=by
 intro TR s σ H R I h;refine ax (hl TR s σ H _ I h) λv s1 ⟨x,H1,I1,r1,q1⟩=>?_;obtain⟨a,e,⟨xs,hq⟩,q⟩:=q1;subst e;cases r1;obtain⟨its,rv,p,hz⟩:=I1.list hq;refine TH p.isList ?_;refine⟨s1.heap.objs.size,[s1.heap.objs.size],_,_,H1,rfl,I1.kept (t':=s1.toks) λb o e=>Lo _ e,D2 a _,⟨_,LU _ rfl,rfl,rfl⟩,λb hb=>?_,q⟩;have e:b=s1.heap.objs.size:=by simpa using hb
 subst e;exact I1.fpOk (Lr _) (I1.hok.fresh (Lr _))
theorem oR{l:Sd}{tl:TE}(hl:PE X l tl):PI X tg l (oP X.K tl):=by
 intro TR s σ H R I h;refine ax (hl TR s σ H _ I h) λv s1 ⟨x,H1,I1,r1,q1⟩=>?_;obtain⟨a,e,⟨xs,hq⟩,q⟩:=q1;subst e;cases r1;obtain⟨its,rv,p,hz⟩:=I1.tuple hq;refine wpAny_pyIter_tuple (show s1.heap.IsTuple a its.toArray from p) ?_;refine⟨s1.heap.objs.size,[s1.heap.objs.size],_,_,H1,rfl,I1.kept (t':=s1.toks) λb o e=>Lo _ e,D3 a _,⟨_,LU _ rfl,rfl,rfl⟩,λb hb=>?_,q⟩;have e:b=s1.heap.objs.size:=by simpa using hb
 subst e;exact I1.fpOk (Lr _) (I1.hok.fresh (Lr _))
theorem vq{TR:List (R8×Obj)}{σ:St}{H:Hp}{s:R9}{R:It->Hp->Prop}{E:R7->R9->Prop}{lo hi:Int}{t u v:Tok}{tk:Nat}(I:ae X TR σ H s)(h1:-(2 ^ 62)<=lo)(h2:lo < 2 ^ 62)(h3:-(2 ^ 62)<=hi)(h4:hi < 2 ^ 62)
 (q:R (gm lo (hi - lo).toNat) H):Sf (Si X.prog X.w) X.A (pyIter (.ref s.heap.objs.size)) (vp X TR σ tg R) E {s with heap:=s.heap.push {cls:= .type "range",data:= .fields #[.int lo t,.int hi u,.int 1 v]},toks:=tk}:=by
 refine wpAny_pyIter_range (IsRange.new ..) (small_one h1 h2 h3 h4) ?_;have I1:ae X TR σ H {s with heap:=s.heap.push {cls:= .type "range",data:= .fields #[.int lo t,.int hi u,.int 1 v]},toks:=tk}:=I.kept λb o e=>Lo _ e;refine⟨(s.heap.push {cls:= .type "range",data:= .fields #[.int lo t,.int hi u,.int 1 v]}).objs.size,[(s.heap.push {cls:= .type "range",data:= .fields #[.int lo t,.int hi u,.int 1 v]}).objs.size],_,_,H,rfl,
  I1.kept (t':=tk) λb o e=>Lo _ e,D4 _ lo (hi - lo).toNat,?_,λb hb=>?_,q⟩
 ·have e1:lo+((0:Nat):Int)*1=lo:=R5
  have e2:(((hi - lo).toNat:Nat):Int) - ((0:Nat):Int)=Builtin.Range.rangeSize lo hi 1:=by rw [rangeSize_one];split <;> omega
  show IsRangeIter _ _ (lo+((0:Nat):Int)*1) ((((hi - lo).toNat:Nat):Int) - ((0:Nat):Int)) 1;rw [e1,e2];exact LU _ rfl
 ·have e:b=(s.heap.push {cls:= .type "range",data:= .fields #[.int lo t,.int hi u,.int 1 v]}).objs.size:=by simpa using hb
  subst e;exact I1.fpOk (Lr _) (I1.hok.fresh (Lr _))
def oT(ta:TA):TI:=λσ H R=>ta σ H λvs H1=>∃j:Int,vs=[.int j]/\-(2 ^ 62)<=j/\j < 2 ^ 62/\R (gm 0 j.toNat) H1
def oU(ta:TA):TI:=λσ H R=>ta σ H λvs H1=>∃i j:Int,vs=[.int i,.int j]/\(-(2 ^ 62)<=i/\i < 2 ^ 62/\-(2 ^ 62)<=j/\j < 2 ^ 62)/\R (gm i (j - i).toNat) H1
theorem vt{a:Sd}{ta:TA}{p pos:Pos}(hg:Gl X "range")(hm:X.mg "range"=none)(ha:PA X [a] ta)(hs:Se [a] X.env=[(false,eval a X.env)]:=by rfl):PI X tg (.Call (.Name "range" p) [a] [] pos) (oT ta):=by
 intro TR s σ H R I h;refine Call_ (j2 I hg hm boot_range (NV (ax (ha pos TR s σ H _ I h) λus s1 ⟨vs,H1,I1,r1,q1⟩=>?_) hs rfl));obtain⟨j,e,q1,q2,q⟩:=q1;subst e;cases r1 with
 | cons r rr=>
  cases rr;obtain⟨t,rfl⟩:=r;exact call_range_1 (vq I1 R0 R0 q1 q2 (by simpa using q))
theorem oV{a b:Sd}{ta:TA}{p pos:Pos}(hg:Gl X "range")(hm:X.mg "range"=none)(ha:PA X [a,b] ta)(hs:Se [a,b] X.env=[(false,eval a X.env),(false,eval b X.env)]:=by rfl)(hs2:Se [b] X.env=[(false,eval b X.env)]:=by rfl):
 PI X tg (.Call (.Name "range" p) [a,b] [] pos) (oU ta):=by
 intro TR s σ H R I h;refine Call_ (j2 I hg hm boot_range (NV (ax (ha pos TR s σ H _ I h) λus s1 ⟨vs,H1,I1,r1,q1⟩=>?_) (by rw [hs,hs2]) (by rw [hs2];rfl)));obtain⟨i,j,e,⟨q1,q2,q3,q4⟩,q⟩:=q1;subst e;cases r1 with
 | cons r rr=>
  cases rr with
  | cons r' rr=>
   cases rr;obtain⟨t,rfl⟩:=r;obtain⟨t',rfl⟩:=r';exact call_range_2 (vq I1 q1 q2 q3 q4 q)
def kc(wi:TI)(g:TG)(tb:TS):TS:=λD σ H=>wi σ H λJ H1=>∃W:Nat->Nat->St->Hp->Prop,(∃m,W 0 m σ H1)/\∀i m σ H,W i m σ H->
 (J.stop i H/\D.nx σ H)\/(J.go i H/\∃N:St->Hp->Prop,(∀σ' H',N σ' H'->∃m',m' < m/\W (i+1) m' σ' H')/\∀x H',J.yld i H x H'->g x σ H' λσ2 H2=>tb {D with nx:=N,ct:=N,bk:=D.nx} σ2 H2)
def ke(fp:List R8)(h:Sn):List (R8×Obj):=fp.filterMap λb=>(h.get? b).map λo=>(b,o)
theorem lK{fp:List R8}{h:Sn}{b:R8}{o:Obj}(hb:b∈fp)(e:h.get? b=some o):(b,o)∈ke fp h:=NJ.mpr ⟨b,hb,by rw [e];rfl⟩
theorem D5{fp:List R8}{h:Sn}{p:R8×Obj}(hp:p∈ke fp h):p.1∈fp/\h.get? p.1=some p.2:=by
 obtain⟨b,hb,e⟩:=NJ.mp hp;cases q:h.get? b with
 | none=>rw [q] at e;cases e
 | some o=>
  rw [q] at e;have e':(b,o)=p:=Mg e;subst e';exact⟨hb,q⟩
theorem ae.pinned{TR:List (R8×Obj)}{σ:St}{H:Hp}{s:R9}{fp:List R8}(I:ae X TR σ H s)(hf:∀b∈fp,fH X TR H b)(ho:∀b∈fp,∃o,s.heap.get? b=some o/\∀v,o.data≠ .cell v):ae X (TR++ke fp s.heap) σ H s:=
 I.pins_of λp hp=>(LI.mp hp).elim (λz=>I.pin p (L5 _ z)) λz=>by
  obtain⟨hb,e⟩:=D5 z;obtain⟨f0,f1,f2,_⟩:=hf p.1 hb;obtain⟨o,e',d⟩:=ho p.1 hb;rw [e] at e';cases e';exact⟨e,f0,f1,f2,d⟩
theorem ae.unpinned{TR pl:List (R8×Obj)}{σ:St}{H:Hp}{s:R9}(I:ae X (TR++pl) σ H s):ae X TR σ H s:=I.pins_of λp hp=>I.pin p (L5 _ (MF _ hp))
theorem lL{iter:Sd}{body:List Sq}{wi:TI}{g:TG}{tb:TS}{pos:Pos}(hp:Tp (Si X.prog X.w) X.A X.env X.xe)(hc:X.calm=true)(hi:PI X tg iter wi)(hg:PG X tg g)(hb:bJ X body tb)
 (hs:∀x,Su iter X.env x=pure x:=by intro _;rfl):PS X (.For tg iter body [] pos) (kc wi g tb):=by
 intro TR s σ H D I h;refine wpAny_For (ax (hi TR s σ H _ I h) λv s1 h1=>ax h1 λitv s2 h2=>?_) hs;obtain⟨it,fp,tn,J,H2,e,I2,T,st2,f2,W,⟨m0,w0⟩,turn⟩:=h2;subst e;have stat:∀{H':Hp},(∀b∈fp,H' b=none)->∀b∈fp,fH X TR H' b:=λhn b hb=>⟨hn b hb,(f2 b hb).2⟩;refine codeAny_forLoop_any (λn s'=>∃i σ' H',ae X TR σ' H' s'/\tn i s'.heap/\(∀b∈fp,H' b=none)/\W i n σ' H') ?_ m0 ⟨0,σ,H2,I2,st2,λb hb=>(f2 b hb).1,w0⟩;rintro n s3 ⟨i,σ3,H3,I3,st3,fr3,w3⟩;rcases turn i n σ3 H3 w3 with⟨stop,qn⟩ | ⟨go,N,hN,step⟩
 ·refine SV hp (ax (T.done X rfl rfl rfl hc i TR s3 σ3 H3 X.xe I3 (stat fr3) st3 stop) λr s4 ⟨hr,I4⟩=>?_);subst hr;exact Tr ⟨σ3,H3,I4,qn⟩
 ·refine SV hp (ax (T.item X rfl rfl rfl hc i TR s3 σ3 H3 X.xe I3 (stat fr3) st3 go) λr s4 ⟨u,hr,h4⟩=>?_);subst hr;refine SV hp (ax h4 λ_ s5 ⟨x,H5,I5,r5,y5,st5,fr5⟩=>?_);have I5':=I5.pinned (stat fr5) (T.obj _ _ st5);refine SV hp (ax (hg _ s5 σ3 H5 x u _ I5' r5 (step x H5 y5)) λ_ s6 ⟨σ6,H6,I6,q6⟩=>?_);refine SV hp (ax (hb _ s6 σ6 H6 _ I6 q6) λf s7 q7=>?_);have again:∀{σ7:St}{H7:Hp},ae X (TR++ke fp s5.heap) σ7 H7 s7->N σ7 H7->∃m,m < n/\∃i σ' H',ae X TR σ' H' s7/\tn i s7.heap/\(∀b∈fp,H' b=none)/\W i m σ' H':=λ{σ7 H7} I7 n7=>by
   obtain⟨m',hm,w7⟩:=hN σ7 H7 n7;refine⟨m',hm,i+1,σ7,H7,I7.unpinned,T.keep _ _ _ st5 λb hb o e=>(I7.pin (b,o) (L5 _ (L5 _ (lK hb e)))).1,λb hb=>?_,w7⟩;obtain⟨o,e,d⟩:=T.obj _ _ st5 b hb;exact(I7.pin (b,o) (L5 _ (L5 _ (lK hb e)))).2.1
  cases f with
  | next=>obtain⟨σ7,H7,I7,n7⟩:=q7;exact again I7 n7
  | cont=>obtain⟨σ7,H7,I7,n7⟩:=q7;exact again I7 n7
  | brk=>obtain⟨σ7,H7,I7,q7⟩:=q7;exact⟨σ7,H7,I7.unpinned,q7⟩
  | ret v=>obtain⟨x7,σ7,H7,I7,r7,q7⟩:=q7;exact⟨x7,σ7,H7,I7.unpinned,r7,q7⟩
end
abbrev R2:=V->V->Hp->VK->Prop
def bK(X:Cx)(f:R7->R7->Sem R7)(r:R2):Prop:=
 ∀(TR:List (R8×Obj))(s:R9)(σ:St)(H:Hp)(x y:V)(v u:R7)(Q:VK),ae X TR σ H s->aC x v->aC y u->r x y H Q->
  Sf (Si X.prog X.w) X.A (f v u) (EP X TR σ Q) X.xe s
def oW(X:Cx)(f:R7->Sem R7)(r:V->Hp->VK->Prop):Prop:=
 ∀(TR:List (R8×Obj))(s:R9)(σ:St)(H:Hp)(x:V)(v:R7)(Q:VK),ae X TR σ H s->aC x v->r x H Q->
  Sf (Si X.prog X.w) X.A (f v) (EP X TR σ Q) X.xe s
def cO(X:Cx)(f:R7)(r:List V->Hp->VK->Prop):Prop:=
 ∀(TR:List (R8×Obj))(s:R9)(σ:St)(H:Hp)(xs:List V)(us:List R7)(Q:VK),ae X TR σ H s->aA xs us->r xs H Q->
  Sf (Si X.prog X.w) X.A (call f us) (EP X TR σ Q) X.xe s
def D6(X:Cx)(r:V->Hp->(Bool->Hp->Prop)->Prop):Prop:=
 ∀(TR:List (R8×Obj))(s:R9)(σ:St)(H:Hp)(x:V)(v:R7)(Q:Bool->Hp->Prop),ae X TR σ H s->aC x v->r x H Q->
  Sf (Si X.prog X.w) X.A (truthy v) (TP X TR σ Q) X.xe s
def jo(r:R2)(ta tb:TE):TE:=λσ H Q=>ta σ H λx H1=>tb σ H1 λy H2=>r x y H2 Q
def vv(r:V->Hp->VK->Prop)(ta:TE):TE:=λσ H Q=>ta σ H λx H1=>r x H1 Q
def rI(C:Int->Int->Prop)(g:Int->Int->V):R2:=λx y H Q=>∃i j,x= .int i/\y= .int j/\C i j/\Q (g i j) H
def fI(g:Int->Int->V):R2:=λx y H Q=>∃i j,x= .int i/\y= .int j/\Q (g i j) H
def rU(g:Int->V):V->Hp->VK->Prop:=λx H Q=>∃i,x= .int i/\Q (g i) H
section
variable {X:Cx} {a b c:Sd} {ta tb tc:TE} {pos:Pos}
theorem oX(ha:PE X a ta)(hb:PE X b tb){TR:List (R8×Obj)}{s:R9}{σ:St}{H:Hp}{R:V->V->Hp->Prop}(I:ae X TR σ H s)
 (h:ta σ H λx H1=>tb σ H1 λy H2=>R x y H2){Q:R7->R9->Prop}{f:R7->R7->Sem R7}
 (hf:∀v u s2 x y H2,ae X TR σ H2 s2->aC x v->aC y u->R x y H2->Sf (Si X.prog X.w) X.A (f v u) Q X.xe s2):
 Sf (Si X.prog X.w) X.A (eval a X.env) (λv s₁=>Sf (Si X.prog X.w) X.A (eval b X.env) (λu s₂=>Sf (Si X.prog X.w) X.A (f v u) Q X.xe s₂) X.xe s₁) X.xe s:=by
 refine ax (ha TR s σ H _ I h) λv s1 ⟨x,H1,I1,r1,q1⟩=>?_;refine ax (hb TR s1 σ H1 _ I1 q1) λu s2 ⟨y,H2,I2,r2,q2⟩=>?_;exact hf v u s2 x y H2 I2 r1 r2 q2
theorem aX{op:Operator}{r:R2}(ho:bK X (SQ op) r)(ha:PE X a ta)(hb:PE X b tb):PE X (.BinOp a op b pos) (jo r ta tb):=by
 intro TR s σ H Q I h;exact wpAny_BinOp (oX ha hb I h λv u s2 x y H2 I2 rx ry q=>ho TR s2 σ H2 x y v u Q I2 rx ry q)
theorem D7{op:UnaryOp}{r:V->Hp->VK->Prop}(ho:oW X (unaryOp op) r)(ha:PE X a ta):PE X (.UnaryOp op a pos) (vv r ta):=by
 intro TR s σ H Q I h;exact UnaryOp_ (ax (ha TR s σ H _ I h) λv s1 uu33=>by obtain⟨x,H1,I1,r1,q1⟩:=uu33;exact ho TR s1 σ H1 x v Q I1 r1 q1)
theorem lM{f:R7->R7->Sem R7}{C:Int->Int->Prop}{g:Int->Int->Int}
 (rule:∀(i j:Int) (t u:Tok) (s:R9) (Q:R7->R9->Prop) (E:R7->R9->Prop),C i j->Q (.int (g i j) s.toks) {s with toks:=s.toks+1}->Sf (Si X.prog X.w) X.A (f (.int i t) (.int j u)) Q E s):
 bK X f (rI C λi j=>.int (g i j)):=by
 intro TR s σ H x y v u Q I rx ry h;obtain⟨i,j,rfl,rfl,hc,q⟩:=h;obtain⟨t,rfl⟩:=rx;obtain⟨t',rfl⟩:=ry;exact rule i j t t' s _ _ hc ⟨.int (g i j),H,I.tok _,⟨_,rfl⟩,q⟩
theorem vw{f:R7->R7->Sem R7}{g:Int->Int->Int}
 (rule:∀(i j:Int) (t u:Tok) (s:R9) (Q:R7->R9->Prop) (E:R7->R9->Prop),Q (.int (g i j) s.toks) {s with toks:=s.toks+1}->Sf (Si X.prog X.w) X.A (f (.int i t) (.int j u)) Q E s):
 bK X f (fI λi j=>.int (g i j)):=by
 intro TR s σ H x y v u Q I rx ry h;obtain⟨i,j,rfl,rfl,q⟩:=h;obtain⟨t,rfl⟩:=rx;obtain⟨t',rfl⟩:=ry;exact rule i j t t' s _ _ ⟨.int (g i j),H,I.tok _,⟨_,rfl⟩,q⟩
theorem lN{f:R7->R7->Sem R7}{g:Int->Int->Bool}
 (rule:∀(i j:Int) (t u:Tok) (s:R9) (Q:R7->R9->Prop) (E:R7->R9->Prop),Q (.bool (g i j)) s->Sf (Si X.prog X.w) X.A (f (.int i t) (.int j u)) Q E s):
 bK X f (fI λi j=>.bl (g i j)):=by
 intro TR s σ H x y v u Q I rx ry h;obtain⟨i,j,rfl,rfl,q⟩:=h;obtain⟨t,rfl⟩:=rx;obtain⟨t',rfl⟩:=ry;exact rule i j t t' s _ _ ⟨.bl (g i j),H,I,rfl,q⟩
def kg(i j:Int):Prop:=0 < j/\j < 1073741824
def lO(i j:Int):Prop:=0<=j/\j<=1000000/\i.natAbs < 2 ^ 64
def jq(i j:Int):Prop:=(-(2 ^ 64) < i/\i < 2 ^ 64)\/(-(2 ^ 64) < j/\j < 2 ^ 64)
theorem jq.ok{i j:Int}(h:jq i j):IntMulOk i j:=by
 rcases h with⟨h1,h2⟩ | ⟨h1,h2⟩
 ·exact .of_left (intBits_le_64 h1 h2)
 ·exact .of_right (intBits_le_64 h1 h2)
theorem bz:bK X (SQ .Add) (fI λi j=>.int (i+j)):=vw λ_ _ _ _ _ _ _ q=>add_int q
theorem dh:bK X (SQ .Sub) (fI λi j=>.int (i - j)):=vw λ_ _ _ _ _ _ _ q=>sub_int q
theorem eo:bK X (SQ .Mult) (rI jq λi j=>.int (i*j)):=lM λ_ _ _ _ _ _ _ hc q=>mul_int q hc.ok
theorem gM:bK X (SQ .FloorDiv) (rI kg λi j=>.int (i / j)):=lM λi j _ _ _ _ _ hc q=>by
 have h1:(0:Int) < j:=hc.1;have h2:j < 1073741824:=hc.2;exact floordiv_int R0 (by rw [OW i R0];exact q) (.inl (PX R0))
theorem d3:bK X (SQ .Mod) (rI (λ_ j=>0 < j) λi j=>.int (i % j)):=lM λi j _ _ _ _ _ hc q=>by
 have h1:(0:Int) < j:=hc;exact mod_int' R0 (by rw [OX i R0];exact q)
theorem D8:bK X (SQ .Pow) (rI lO λi j=>.int (i ^ j.toNat)):=lM λ_ _ _ _ _ _ _ hc q=>pow_int_small hc.1 hc.2.1 hc.2.2 q
theorem D9{f:R7->Sem R7}{g:Int->Int}
 (rule:∀(i:Int) (t:Tok) (s:R9) (Q:R7->R9->Prop) (E:R7->R9->Prop),Q (.int (g i) s.toks) {s with toks:=s.toks+1}->Sf (Si X.prog X.w) X.A (f (.int i t)) Q E s):
 oW X f (rU λi=>.int (g i)):=by
 intro TR s σ H x v Q I rx h;obtain⟨i,rfl,q⟩:=h;obtain⟨t,rfl⟩:=rx;exact rule i t s _ _ ⟨.int (g i),H,I.tok _,⟨_,rfl⟩,q⟩
theorem Ea:oW X (unaryOp .USub) (rU λi=>.int (-i)):=D9 λ_ _ _ _ _ q=>neg_int q
end
def iN:V->V->Bool
 | .non,.non=>true | .non,.int _=>true | .int _,.non=>true | .non,.bl _=>true | .bl _,.non=>true | .non,.str _=>true | .str _,.non=>true
 | .int _,.int _=>true | .bl _,.bl _=>true | .str _,.str _=>true | .byt _,.byt _=>true
 | .int _,.str _=>true | .str _,.int _=>true | .bl _,.str _=>true | .str _,.bl _=>true
 | _,_=>false
def vz:R2:=λx y H Q=>iN x y=true/\Q (.bl (decide (x=y))) H
def vA:R2:=λx y H Q=>iN x y=true/\Q (.bl (!decide (x=y))) H
theorem vB{i j:Int}:decide (V.int i=V.int j)=(i==j):=by
 rw [NK];simp
theorem vC{i j:Bool}:decide (V.bl i=V.bl j)=(i==j):=by
 rw [NK];simp
theorem vD{i j:Str}:decide (V.str i=V.str j)=(i==j):=by
 rw [NK];simp
theorem vE{i j:Array UInt8}:decide (V.byt i=V.byt j)=(i.toList==j.toList):=by
 rw [NK];cases i;cases j;simp
section
variable {X:Cx} {a b c:Sd} {ta tb tc:TE} {pos:Pos}
theorem bA{TR:List (R8×Obj)}{σ:St}{H:Hp}{s:R9}{Q:VK}{k k':Bool}(I:ae X TR σ H s)(q:Q (.bl k) H)(e:k=k'):EP X TR σ Q (.bool k') s:=by
 subst e;exact⟨.bl k,H,I,rfl,q⟩
theorem kh:bK X (Sv .Eq) vz:=by
 intro TR s σ H x y v u Q I rx ry h;obtain⟨hs,q⟩:=h;cases x with
 | non=>
  cases rx;cases y with
  | non=>cases ry;exact PySem.EqNone.eq_none_none (bA I q R5)
  | bl j=>cases ry;exact PySem.EqNone.eq_none_bool (bA I q R5)
  | int j=>obtain⟨t',rfl⟩:=ry;exact PySem.EqNone.eq_none_int (bA I q R5)
  | str j=>obtain⟨t',rfl⟩:=ry;exact PySem.EqNone.eq_none_str (bA I q R5)
  | _=>exact absurd (show false=true from hs) Lx
 | bl i=>
  cases rx;cases y with
  | non=>cases ry;exact PySem.EqNone.eq_bool_none (bA I q R5)
  | bl j=>cases ry;exact eq_bool (bA I q vC)
  | str j=>obtain⟨t',rfl⟩:=ry;exact PySem.EqMixed.eq_bool_str (bA I q R5)
  | _=>exact absurd (show false=true from hs) Lx
 | int i=>
  obtain⟨t,rfl⟩:=rx;cases y with
  | non=>cases ry;exact PySem.EqNone.eq_int_none (bA I q R5)
  | int j=>obtain⟨t',rfl⟩:=ry;exact eq_int (bA I q vB)
  | str j=>obtain⟨t',rfl⟩:=ry;exact PySem.EqMixed.eq_int_str (bA I q R5)
  | _=>exact absurd (show false=true from hs) Lx
 | str i=>
  obtain⟨t,rfl⟩:=rx;cases y with
  | non=>cases ry;exact PySem.EqNone.eq_str_none (bA I q R5)
  | bl j=>cases ry;exact PySem.EqMixed.eq_str_bool (bA I q R5)
  | int j=>obtain⟨t',rfl⟩:=ry;exact PySem.EqMixed.eq_str_int (bA I q R5)
  | str j=>obtain⟨t',rfl⟩:=ry;exact eq_str (bA I q vD)
  | _=>exact absurd (show false=true from hs) Lx
 | byt i=>
  obtain⟨t,rfl⟩:=rx;cases y with
  | byt j=>obtain⟨t',rfl⟩:=ry;exact PySem.W.eq_bytes (bA I q vE)
  | _=>exact absurd (show false=true from hs) Lx
 | _=>cases y <;> exact absurd (show false=true from hs) Lx
theorem Eb:bK X (Sv .NotEq) vA:=by
 intro TR s σ H x y v u Q I rx ry h;obtain⟨hs,q⟩:=h;cases x with
 | non=>
  cases rx;cases y with
  | non=>cases ry;exact PySem.EqNone.ne_none_none (bA I q R5)
  | bl j=>cases ry;exact PySem.EqNone.ne_none_bool (bA I q R5)
  | int j=>obtain⟨t',rfl⟩:=ry;exact PySem.EqNone.ne_none_int (bA I q R5)
  | str j=>obtain⟨t',rfl⟩:=ry;exact PySem.EqNone.ne_none_str (bA I q R5)
  | _=>exact absurd (show false=true from hs) Lx
 | bl i=>
  cases rx;cases y with
  | non=>cases ry;exact PySem.EqNone.ne_bool_none (bA I q R5)
  | bl j=>cases ry;exact ne_bool (bA I q (congrArg not vC))
  | str j=>obtain⟨t',rfl⟩:=ry;exact PySem.EqMixed.ne_bool_str (bA I q R5)
  | _=>exact absurd (show false=true from hs) Lx
 | int i=>
  obtain⟨t,rfl⟩:=rx;cases y with
  | non=>cases ry;exact PySem.EqNone.ne_int_none (bA I q R5)
  | int j=>obtain⟨t',rfl⟩:=ry;exact ne_int (bA I q (congrArg not vB))
  | str j=>obtain⟨t',rfl⟩:=ry;exact PySem.EqMixed.ne_int_str (bA I q R5)
  | _=>exact absurd (show false=true from hs) Lx
 | str i=>
  obtain⟨t,rfl⟩:=rx;cases y with
  | non=>cases ry;exact PySem.EqNone.ne_str_none (bA I q R5)
  | bl j=>cases ry;exact PySem.EqMixed.ne_str_bool (bA I q R5)
  | int j=>obtain⟨t',rfl⟩:=ry;exact PySem.EqMixed.ne_str_int (bA I q R5)
  | str j=>obtain⟨t',rfl⟩:=ry;exact ne_str (bA I q (congrArg not vD))
  | _=>exact absurd (show false=true from hs) Lx
 | byt i=>
  obtain⟨t,rfl⟩:=rx;cases y with
  | byt j=>obtain⟨t',rfl⟩:=ry;exact PySem.W.ne_bytes (bA I q (congrArg not vE))
  | _=>exact absurd (show false=true from hs) Lx
 | _=>cases y <;> exact absurd (show false=true from hs) Lx
theorem lP:bK X (Sv .Lt) (fI λi j=>.bl (decide (i < j))):=lN λ_ _ _ _ _ _ _ q=>lt_int q
theorem lQ:bK X (Sv .LtE) (fI λi j=>.bl (decide (i<=j))):=lN λ_ _ _ _ _ _ _ q=>le_int q
theorem vF:bK X (Sv .Gt) (fI λi j=>.bl (decide (j < i))):=lN λ_ _ _ _ _ _ _ q=>gt_int q
theorem vG:bK X (Sv .GtE) (fI λi j=>.bl (decide (j<=i))):=lN λ_ _ _ _ _ _ _ q=>ge_int q
theorem vH:bK X (Sv .Is) (λx y H Q=>y= .non/\Q (.bl (decide (x= .non))) H):=by
 intro TR s σ H x y v u Q I rx ry h;obtain⟨rfl,q⟩:=h;cases ry;refine is_none_gen (bA I q ?_);cases x <;> first
  | (cases rx;rfl)
  | (obtain⟨t,rfl⟩:=rx;rfl)
theorem aE(b:Sd){op:CmpOp}(h:op≠ .In:=by decide)(h2:op≠ .NotIn:=by decide):SD op b=false:=by
 have e1:(op==CmpOp.In)=false:=by cases op <;> first | rfl | exact absurd rfl h
 have e2:(op==RO)=false:=by cases op <;> first | rfl | exact absurd rfl h2
 cases b <;> simp [SD,e1,e2]
theorem lR{op:CmpOp}{r:R2}(ho:bK X (Sv op) r)(ha:PE X a ta)(hb:PE X b tb)(hm:SD op b=false):PE X (.Compare a [op] [b] pos) (jo r ta tb):=by
 intro TR s σ H Q I h;exact wpAny_Compare1 (oX ha hb I h λv u s2 x y H2 I2 rx ry q=>ho TR s2 σ H2 x y v u Q I2 rx ry q) hm
def vI(t:TE):TT:=λσ H Q=>t σ H λx H'=>∃k,x= .bl k/\Q k H'
theorem gn{op:CmpOp}{r:R2}(ho:bK X (Sv op) r)(ha:PE X a ta)(hb:PE X b tb)(hm:SD op b=false):PT X (.Compare a [op] [b] pos) (vI (jo r ta tb)):=by
 intro TR s σ H Q I h;refine wpAny_isTrue_Compare1 (ax (ha TR s σ H _ I h) λv s1 ⟨x,H1,I1,r1,q1⟩=>ax (hb TR s1 σ H1 _ I1 q1) λu s2 ⟨y,H2,I2,r2,q2⟩=>
  ax (ho TR s2 σ H2 x y v u _ I2 r1 r2 q2) λc s3 ⟨z,H3,I3,r3,k,e,q3⟩=>?_) hm
 subst e;cases r3;exact SK ⟨H3,I3,q3⟩
def vJ(K:Ll)(x:V)(H:Hp)(k:Bool):Prop:=
 match x with
 | .non=>k=false
 | .bl b=>k=b
 | .int i=>k=(i !=0)
 | .str y=>y.length<=Sb/\k=((y.length:Int) !=0)
 | .byt y=>y.size<=Sb/\k=((y.size:Int) !=0)
 | .ref p=>(∃xs,aN K H p xs/\k=!xs.isEmpty)\/(∃xs,aW K H p xs/\k=!xs.isEmpty)\/∃kvs,H p=some (.dK kvs)/\k=!kvs.isEmpty
 | _=>False
theorem Ec{κ:Type}{kvs:List (κ×V)}{vs:List (κ×R7)}(r:KV kvs vs):(!vs.isEmpty)=!kvs.isEmpty:=by
 cases r <;> rfl
theorem vK{xs:List V}{its:List R7}(r:aA xs its):(!its.toArray.isEmpty)=!xs.isEmpty:=by
 cases r <;> simp
theorem iO:(Sb:Nat) < 2 ^ 63:=by rw [SE];decide
theorem Ed:D6 X (λx H Q=>∃k,vJ X.K x H k/\Q k H):=by
 intro TR s σ H x v Q I rx h;obtain⟨k,e,q⟩:=h;have hl:=iO;have hs:Sb=16777216:=SE;cases x with
 | non=>
  cases rx;have e':k=false:=e;subst e';exact truthy_none ⟨H,I,q⟩
 | bl b=>
  cases rx;have e':k=b:=e;subst e';exact SK ⟨H,I,q⟩
 | int i=>
  obtain⟨t,rfl⟩:=rx;have e':k=(i !=0):=e;subst e';exact PySem.P.truthy_int ⟨H,I,q⟩
 | str y=>
  obtain⟨t,rfl⟩:=rx;obtain⟨hy,e'⟩:y.length<=Sb/\k=((y.length:Int) !=0):=e;subst e';exact PySem.P.truthy_str R0 ⟨H,I.tok _,q⟩
 | byt y=>
  obtain⟨t,rfl⟩:=rx;obtain⟨hy,e'⟩:y.size<=Sb/\k=((y.size:Int) !=0):=e;subst e';exact PySem.W.truthy_bytes R0 ⟨H,I.tok _,q⟩
 | ref p=>
  cases rx;have e':(∃xs,aN X.K H p xs/\k=!xs.isEmpty)\/(∃xs,aW X.K H p xs/\k=!xs.isEmpty)\/∃kvs,H p=some (.dK kvs)/\k=!kvs.isEmpty:=e;rcases e' with⟨xs,hx,e'⟩ | ⟨xs,hx,e'⟩ | ⟨kvs,hx,e'⟩
  ·subst e';obtain⟨its,r,pl,hz⟩:=I.list hx;have hlen:=r.length;exact wpAny_truthy_list pl.isList (by simp only [Lw];omega) ⟨H,I.tok _,by rw [vK r];exact q⟩
  ·subst e';obtain⟨its,r,pl,hz⟩:=I.tuple hx;have hlen:=r.length;exact truthy_tuple pl (by simp only [Lw];omega) ⟨H,I.tok _,by rw [vK r];exact q⟩
  ·subst e';obtain⟨hz,hS,vs,r,m⟩:kvs.length<=Sb/\(p==SN)=false/\∃vs,KV kvs vs/\s.heap.DictOf (bT X.prog X.w) p vs:=I.hok p _ hx;have hlen:kvs.length=vs.length:=OU r;exact wpAny_truthy_dict hS m R0 ⟨H,I.tok _,by rw [Ec r];exact q⟩
 | _=>exact(show False from e).elim
theorem Ee(ha:PE X a ta)(he:∀whole,isTrue a X.env whole=(do let v<-whole;standAt a.pos;To [v] (truthy v))):
 PT X a (λσ H Q=>ta σ H λx H'=>∃k,vJ X.K x H' k/\Q k H'):=by
 intro TR s σ H Q I h;exact isTrue_plain (ax (ha TR s σ H _ I h) λv s1 uu37=>by obtain⟨x,H1,I1,r1,q1⟩:=uu37;exact Ed TR s1 σ H1 x v Q I1 r1 q1) (he _)
theorem lS:bK X (SQ .Add) (λx y H Q=>∃i j,x= .str i/\y= .str j/\i.length+j.length<=Sb/\Q (.str (i++j)) H):=by
 intro TR s σ H x y v u Q I rx ry h;obtain⟨i,j,rfl,rfl,hz,q⟩:=h;obtain⟨t,rfl⟩:=rx;obtain⟨t',rfl⟩:=ry;exact add_str (λt' tk=>⟨.str (i++j),H,I.tok _,⟨_,rfl⟩,q⟩) hz
theorem cP{x:V}{us:List R7}(r:aA [x] us):∃u,us=[u]/\aC x u:=by
 cases r with
 | cons r1 r2=>cases r2;exact⟨_,rfl,r1⟩
theorem oY{x y:V}{us:List R7}(r:aA [x,y] us):∃u w',us=[u,w']/\aC x u/\aC y w':=by
 cases r with
 | cons r1 r2=>
  cases r2 with
  | cons r3 r4=>cases r4;exact⟨_,_,rfl,r1,r3⟩
theorem Ef:cO X (.builtin "abs") (λxs H Q=>∃i,xs=[.int i]/\Q (.int (if i < 0 then -i else i)) H):=by
 intro TR s σ H xs us Q I r h;obtain⟨i,rfl,q⟩:=h;obtain⟨u,rfl,t,rfl⟩:=cP r;exact call_abs_int λu tk=>⟨.int (if i < 0 then -i else i),H,I.tok _,⟨_,rfl⟩,q⟩
theorem oZ(hc:X.calm=true):cO X (.builtin "max") (λxs H Q=>∃i j,xs=[.int i,.int j]/\Q (.int (if j > i then j else i)) H):=by
 intro TR s σ H xs us Q I r h;obtain⟨i,j,rfl,q⟩:=h;obtain⟨u,w',rfl,⟨t,rfl⟩,⟨t',rfl⟩⟩:=oY r;refine max_two_ints (I.ok.hd hc) λh' tk k=>⟨_,H,I.kept k,?_,q⟩;by_cases hj:j > i
 ·rw [R3 hj,R3 hj];exact⟨_,rfl⟩
 ·rw [R1 hj,R1 hj];exact⟨_,rfl⟩
theorem vL(hc:X.calm=true):cO X (.builtin "min") (λxs H Q=>∃i j,xs=[.int i,.int j]/\Q (.int (if j < i then j else i)) H):=by
 intro TR s σ H xs us Q I r h;obtain⟨i,j,rfl,q⟩:=h;obtain⟨u,w',rfl,⟨t,rfl⟩,⟨t',rfl⟩⟩:=oY r;refine min_two_ints (I.ok.hd hc) λh' tk k=>⟨_,H,I.kept k,?_,q⟩;by_cases hj:j < i
 ·rw [R3 hj,R3 hj];exact⟨_,rfl⟩
 ·rw [R1 hj,R1 hj];exact⟨_,rfl⟩
theorem pb:cO X (.type "int") (λxs H Q=>(∃i,xs=[.int i]/\Q (.int i) H)\/∃k,xs=[.bl k]/\Q (.int (if k then 1 else 0)) H):=by
 intro TR s σ H xs us Q I r h;rcases h with⟨i,rfl,q⟩ | ⟨k,rfl,q⟩
 ·obtain⟨u,rfl,t,rfl⟩:=cP r;exact call_int_int ⟨.int i,H,I,⟨_,rfl⟩,q⟩
 ·obtain⟨u,rfl,r1⟩:=cP r;cases r1;exact call_int_bool ⟨.int (if k then 1 else 0),H,I.tok _,⟨_,rfl⟩,q⟩
theorem Eg:cO X (.builtin "divmod") (λxs H Q=>∃i j,xs=[.int i,.int j]/\kg i j/\∀p,H p=none->Q (.ref p) (ak H p (.tup [.int (i / j),.int (i % j)]))):=by
 intro TR s σ H xs us Q I r h;obtain⟨i,j,rfl,⟨h1,h2⟩,q⟩:=h;obtain⟨u,w',rfl,⟨t,rfl⟩,⟨t',rfl⟩⟩:=oY r;refine divmod_int R0 ?_ (.inl (PX R0));rw [OW i R0,OX i R0];have hn:H s.heap.objs.size=none:=I.hok.fresh (Lr _);refine⟨.ref s.heap.objs.size,_,?_,rfl,q _ hn⟩;refine I.laid (λb o e=>Lo _ e) (Lr _) ⟨by simp only [LP,MZ];rw [SE];decide,[.int (i / j) s.toks,.int (i % j) (s.toks+1)],.cons ⟨_,rfl⟩ (.cons ⟨_,rfl⟩ .nil),?_⟩;exact⟨_,LU s.heap rfl,rfl,0,rfl⟩
end
structure jr (h:Sn) (x dx C:R8) (mA:Str->Option R7):Prop where
 obj:h.get? x=some (Ng C dx)
 ns:h.Ns1 dx mA
 ne:dx≠x
theorem Eh{h:Sn}{dx:R8}{mA:Str->Option R7}(n:h.Ns1 dx mA):∃od,h.get? dx=some od/\∀name,P7 name od=some (mA name):=by
 obtain⟨o,es,ep,ho,hd,hk,_,hm⟩:=n;refine⟨o,ho,λname=>?_⟩;have e:=hm name;unfold nsFind findBy at e;rw [<-Array.find?_toList] at e;unfold P7;rw [hd];dsimp only;split
 ·rename_i y q;rw [q] at e;exact congrArg some e
 ·rename_i q;rw [q] at e;have a:es.toList.any (·.refKey)=false:=by
   rw [QK];intro y hy;obtain⟨z,t,hkey⟩:=hk y (Qf.mp hy);simp [DictEntry.refKey,hkey]
  have a':¬es.toList.any (·.refKey)=true:=by rw [a];exact Lx
  rw [R1 a'];exact congrArg some e
theorem jr.look{h:Sn}{x dx C:R8}{mA:Str->Option R7}(I:jr h x dx C mA):∃od,PySem.W.InstAt h x (Ng C dx) C (some od)/\∀name,P7 name od=some (mA name):=
 let ⟨od,ho,hl⟩:=Eh I.ns
 ⟨od,⟨I.obj,rfl,rfl,ho⟩,hl⟩
section
variable {prog:Sk} {w:Sm} {A:Ss} {E:R7->R9->Prop} {s:R9} {K:Ll} {x dx C f:R8} {mA:Str->Option R7} {name:Str} {v:R7}
theorem Ei{expr:Bool}{Q:R7->R9->Prop}(X:K.In s.heap)(I:jr s.heap x dx C mA)(hg:Pj K C name=true)(hh:O7 K C=true)
 (ha:Na K (.ref C) name=some none)(hv:mA name=some v)(hv':QS v=true)(h:Q v {s with toks:=s.toks+1}):
 Sf (Si prog w) A (getAttr (.ref x) name expr) Q E s:=by
 obtain⟨od,J,hl⟩:=I.look;exact PySem.W.get_value X J (PySem.W.plainGet_of hg).1 (PySem.W.findObj_own hh ha rfl (by rw [hl,hv])) hv' h
theorem Ej{ns:List Str}{Q:Unit->R9->Prop}(X:K.In s.heap)(I:jr s.heap x dx C mA)
 (hs:Na K (.ref C) "__setattr__"=some (some (.builtin "object.__setattr__")))(hp:QL K C=true)(ht:PK K C name=some none)(hh:O7 K C=true)
 (hw:Qq mA ns)(hsz:ns.length<=Sb)
 (h:∀h',jr h' x dx C (λy=>if y=name then some v else mA y)->N7 dx s.heap h'->Q () {s with heap:=h',toks:=s.toks+2}):
 Sf (Si prog w) A (setAttr (.ref x) name v) Q E s:=by
 obtain⟨od,J,hl⟩:=I.look;refine PySem.W.set_plain X J hs (PySem.W.osa_open (s:={s with toks:=s.toks+1}) (r:=none) X J hp ht λb=>?_);obtain⟨cd,hc,hd'⟩:=PySem.W.any_some hh;have hx:s.heap.get? x=some ⟨.ref C,some dx,.plain,#[]⟩:=I.obj;refine Sa (Sg (Sa (Sa (wpAny_loadPart hx (Sa (PySem.W.Looks.here (s:={s with toks:=s.toks+1}) (PySem.W.looks_clsIn X hc) ?_))))));rw [hd'];refine Sg (a:=some dx) (Sa (Sg (Sa ?_)));refine wpAny_nsSet1 (s:={s with toks:=s.toks+1}) I.ns λh' hn2 hs2=>?_;obtain⟨oD,esD,epD,hoD,eQ,hcD⟩:=hn2.count (Qq.cons name v hw);refine Sa (wpAny_lookBehind hoD (by rw [eQ];exact pastItsLine_dict (LY hcD (by rw [LP];omega))) ?_);exact Sg (h _ ⟨(hs2.2 _ (Ne.symm I.ne)).trans I.obj,hn2,I.ne⟩ hs2)
theorem Ek{R:Result->R9->Prop}{vs:List R7}{kw:List (Str×R7)}(X:K.In s.heap)(hm:PM K C=true)
 (hi:Na K (.ref C) "__init__"=some (some (.ref f)))(hf:PySem.W.typeIn K (.ref f)=some (.type "function"))
 (h:Tc (Si prog w) (A.under (.builtin "type.__call__" ⟨.ref C::vs,kw⟩)) (.call (.ref f) ⟨.ref (s.heap.objs.size+1)::vs,kw⟩) (PySem.W.InitBack (s.heap.objs.size+1) R)
   {s with heap:=(s.heap.push MS).push (Ng C s.heap.objs.size)}):
 Tc (Si prog w) A (.call (.ref C) ⟨vs,kw⟩) R s:=by
 obtain⟨hh,g,d,t,os⟩:=s;exact PySem.W.make_core (PySem.W.makes_of X hm) (PySem.W.looks_findIn X hi) (λself=>PySem.W.bind_fn X self hf) (.inl rfl) h
end
def di(f:Str)(v:V):List (Str×V)->List (Str×V)
 | []=>[(f,v)]
 | (g,x)::r=>if g=f then(g,v)::r else(g,x)::di f v r
theorem vM(f g:Str)(v:V):∀fs:List (Str×V),(di f v fs).lookup g=if g=f then some v else fs.lookup g
 | []=>by
  show NQ g [(f,v)]=_;by_cases h:g=f
  ·have hb:(g==f)=true:=beq_iff_eq.mpr h;simp only [NQ,hb,R3 h]
  ·have hb:(g==f)=false:=beq_eq_false_iff_ne.mpr h;simp only [NQ,hb,R1 h]
 | (k,x)::r=>by
  have ih:=vM f g v r;rw [show di f v ((k,x)::r)=(if k=f then(k,v)::r else(k,x)::di f v r) from rfl];by_cases hk:k=f
  ·rw [R3 hk];by_cases h:g=k
   ·have hb:(g==k)=true:=beq_iff_eq.mpr h;simp only [NQ,hb,R3 (h.trans hk)]
   ·have hb:(g==k)=false:=beq_eq_false_iff_ne.mpr h;simp only [NQ,hb,R1 (λe:g=f=>h (e.trans hk.symm))]
  ·rw [R1 hk];by_cases h:g=k
   ·have hb:(g==k)=true:=beq_iff_eq.mpr h;simp only [NQ,hb,R1 (λe:g=f=>hk (h.symm.trans e))]
   ·have hb:(g==k)=false:=beq_eq_false_iff_ne.mpr h;simp only [NQ,hb];exact ih
theorem pd(f:Str)(v:V):∀fs:List (Str×V),f∈(di f v fs).map (·.1)/\∀g,g∈fs.map (·.1)->g∈(di f v fs).map (·.1)
 | []=>⟨by simp [di],λg h=>by simp at h⟩
 | (k,x)::r=>by
  obtain⟨i1,i2⟩:=pd f v r;rw [show di f v ((k,x)::r)=(if k=f then(k,v)::r else(k,x)::di f v r) from rfl];by_cases hk:k=f
  ·rw [R3 hk];subst hk;exact⟨R5,λg h=>by simpa using h⟩
  ·rw [R1 hk];refine⟨?_,λg h=>?_⟩
   ·rw [Lq];exact L0 _ i1
   ·rw [Lq] at h⊢;rcases LF.mp h with e | e
    ·exact LF.mpr (.inl e)
    ·exact L0 _ (i2 g e)
theorem vN(f:Str)(v:V):∀fs:List (Str×V),(di f v fs).length<=fs.length+1
 | []=>by simp [di]
 | (k,x)::r=>by
  have ih:=vN f v r;rw [show di f v ((k,x)::r)=(if k=f then(k,v)::r else(k,x)::di f v r) from rfl];by_cases hk:k=f
  ·rw [R3 hk,LP,LP];omega
  ·rw [R1 hk,LP,LP];omega
theorem dZ.some_of{v:V}{o:Option R7}(r:dZ (some v) o):∃u,o=some u/\aC v u:=by
 cases o with
 | none=>exact(show False from r).elim
 | some u=>exact⟨u,rfl,r⟩
theorem El{v:V}{u:R7}(r:aC v u):QS u=true:=by
 cases v with
 | non=>cases (show u=Nn from r);rfl
 | bl b=>cases (show u=NI b from r);rfl
 | int i=>obtain⟨t,e⟩:=(show ∃t,u=NU i t from r);cases e;rfl
 | str x=>obtain⟨t,e⟩:=(show ∃t,u=Np x t from r);cases e;rfl
 | byt b=>obtain⟨t,e⟩:=(show ∃t,u=RM b t from r);cases e;rfl
 | flt b=>obtain⟨t,e⟩:=(show ∃t,u=RN b t from r);cases e;rfl
 | ref a=>cases (show u=L8 a from r);rfl
 | ty n=>cases (show u=Qe n from r);rfl
section
variable {P:Sk} {w:Sm} {H H':Hp} {h h':Sn} {a C dx:R8} {fs fs':List (Str×V)}
theorem vO(hok:bL P w H h)(e:H a=some (.ins C dx fs)):∃mA,jr h a dx C mA/\(∀f,dZ (fs.lookup f) (mA f))/\Qq mA (fs.map (·.1))/\fs.length<=1000/\H dx=some (.own a):=by
 obtain⟨d,z,ne,ob,mA,n,r,q⟩:=(show bU P w H h a (.ins C dx fs) from hok a _ e);exact⟨mA,⟨ob,n,ne⟩,r,q,z,d⟩
end
structure gq (K:Ll) (C:R8):Prop where
 pg:Pj K C Str.empty=true
 hd:O7 K C=true
 po:QL K C=true
 sa:Na K (.ref C) "__setattr__"=some (some (.builtin "object.__setattr__"))
theorem gq.get{K:Ll}{C:R8}(c:gq K C)(f:Str):Pj K C f=true:=c.pg
def NoAttr(K:Ll)(C:R8)(f:Str):Prop:=Na K (.ref C) f=some none
theorem NoAttr.taker{K:Ll}{C:R8}{f:Str}(n:NoAttr K C f):PK K C f=some none:=by
 unfold PK;rw [show Na K (.ref C) f=some none from n];rfl
section
variable {X:Cx} {TR:List (R8×Obj)} {σ:St} {H:Hp} {s:R9} {a C dx:R8} {fs:List (Str×V)} {f:Str} {v:V} {A:Ss} {E:R7->R9->Prop}
theorem Em{b:Bool}{Q:R7->R9->Prop}(I:ae X TR σ H s)(e:H a=some (.ins C dx fs))(c:gq X.K C)(n:NoAttr X.K C f)(l:fs.lookup f=some v)
 (h:∀u s',ae X TR σ H s'->aC v u->Q u s'):Sf (Si X.prog X.w) A (getAttr (.ref a) f b) Q E s:=by
 obtain⟨mA,O,r,_,_,_⟩:=vO I.hok e;obtain⟨u,hu,ru⟩:=dZ.some_of (v:=v) (o:=mA f) (by rw [<-l];exact r f);exact Ei I.kIn O (c.get f) c.hd n hu (El ru) (h u _ (I.tok _) ru)
theorem En{y:V}{u:R7}{Q:Unit->R9->Prop}(I:ae X TR σ H s)(e:H a=some (.ins C dx fs))(c:gq X.K C)(n:NoAttr X.K C f)(hl:fs.length < 1000)(ry:aC y u)
 (h:∀s',ae X TR σ (ak H a (.ins C dx (di f y fs))) s'->Q () s'):Sf (Si X.prog X.w) A (setAttr (.ref a) f u) Q E s:=by
 obtain⟨mA,O,r,wi,_,ho⟩:=vO I.hok e;have hz:(fs.map (·.1)).length<=Sb:=by rw [Lm,SE];omega
 refine Ej I.kIn O c.sa c.po n.taker c.hd wi hz λh' O' sb=>h _ ?_;have hd:∃o,h'.get? dx=some o:=let ⟨o,_,_,e',_⟩:=O'.ns;⟨o,e'⟩
 refine I.write (x:=a) (e:=dx) (by rw [e];exact MU) (.inr ho) (λb q hb z=>(sb.2 b hb).trans z) hd ?_;refine⟨by rw [aD O.ne];exact ho,?_,O.ne,O'.obj,_,O'.ns,λg=>?_,λg hg=>?_⟩
 ·have:=vN f y fs;omega
 ·show dZ ((di f y fs).lookup g) (if g=f then some u else mA g);rw [vM];by_cases q:g=f
  ·rw [R3 q,R3 q];exact ry
  ·rw [R1 q,R1 q];exact r g
 ·by_cases q:g=f
  ·rw [q];exact(pd f y fs).1
  ·refine(pd f y fs).2 g (wi g λz=>hg ?_);show(if g=f then some u else mA g)=none;rw [R1 q];exact z
theorem ae.made(I:ae X TR σ H s):ae X TR σ (ak (ak H s.heap.objs.size (.own (s.heap.objs.size+1))) (s.heap.objs.size+1) (.ins C s.heap.objs.size []))
 {s with heap:=(s.heap.push MS).push (Ng C s.heap.objs.size)}:=by
 have e1:(s.heap.push MS).get? s.heap.objs.size=some MS:=LU s.heap rfl;have e2:((s.heap.push MS).push (Ng C s.heap.objs.size)).get? (s.heap.objs.size+1)=some (Ng C s.heap.objs.size):=by
  have:=LU (s.heap.push MS) (o:=Ng C s.heap.objs.size) rfl
  rwa [Oc] at this
 have e3:(s.heap.push MS).Ns s.heap.objs.size (λ_=>none):=⟨MS,#[],_,e1,rfl,(λe he=>absurd he R5),λ_=>rfl⟩;have I1:=I.laid (a:=s.heap.objs.size) (o:= .own (s.heap.objs.size+1)) (h':=s.heap.push MS) (t':=s.toks) (λb u q=>Lo _ q) (Lr _) ⟨_,e1⟩;refine I1.laid (a:=s.heap.objs.size+1) (o:= .ins C s.heap.objs.size []) (t':=s.toks) (λb u q=>Lo _ q) (RD (Oc _ _)) ?_;have ne:s.heap.objs.size≠s.heap.objs.size+1:=LV (Pk _);refine⟨by rw [aD ne,bb],Mb _,ne,e2,λ_=>none,(Heap.Ns1.of_empty e3).at λo q=>Lo _ q,λ_=>MU,λy hy=>absurd rfl hy⟩
theorem Eo{prog:Sk}{w:Sm}{env:Env}{e:Sd}{f:Str}{pos:Pos}{s:R9}{Q:R7->R9->Prop}(hb:SJ e f env (eval e env)=eval e env)
 (h:Sf (Si prog w) A (eval e env) (λo s₁=>Sf (Si prog w) A (getAttr o f true) Q E s₁) E s):Sf (Si prog w) A (eval (.Attribute e f pos) env) Q E s:=
 Attribute_any_ h (by rw [arm_eval_Attribute,hb])
end
def Ep(K:Ll)(ta:TE)(f:Str):TE:=λσ H Q=>ta σ H λx H1=>∃a C dx fs v,x= .ref a/\H1 a=some (.ins C dx fs)/\gq K C/\NoAttr K C f/\fs.lookup f=some v/\Q v H1
def Er(K:Ll)(ta tv:TE)(f:Str):TS:=λD σ H=>tv σ H λy H1=>ta σ H1 λx H2=>∃a C dx fs,x= .ref a/\H2 a=some (.ins C dx fs)/\gq K C/\NoAttr K C f/\fs.length < 1000/\
 D.nx σ (ak H2 a (.ins C dx (di f y fs)))
section
variable {X:Cx} {o e value:Sd} {f:Str} {pos pos' tpos:Pos} {ta tv:TE}
theorem Es(he:PE X e ta)(hb:SJ e f X.env (eval e X.env)=eval e X.env):PE X (.Attribute e f pos) (Ep X.K ta f):=by
 intro TR s σ H Q I h;refine Eo hb (ax (he TR s σ H _ I h) λu s1 ⟨x,H1,I1,rx,a,C,dx,fs,v,ex,ea,c,n,l,q⟩=>?_);subst ex;obtain rfl:u=L8 a:=rx;exact Em I1 ea c n l λu' s2 I2 ru=>⟨v,H1,I2,ru,q⟩
theorem Et(ha:PE X o ta)(hv:PE X value tv)(hs:Sx value (some (.Attribute o f pos')) pos.line X.env=pure false):PS X (.Assign [.Attribute o f pos'] value pos) (Er X.K ta tv f):=by
 intro TR s σ H D I h;refine plainObj_wpAny_Assign_Attribute (ax (hv TR s σ H _ I h) λu s1 ⟨y,H1,I1,ry,q⟩=>ax (ha TR s1 σ H1 _ I1 q) λov s2 ⟨x,H2,I2,rx,a,C,dx,fs,ex,ea,c,n,l,q2⟩=>?_) hs;subst ex;obtain rfl:ov=L8 a:=rx;exact En I2 ea c n l ry λs3 I3=>⟨σ,_,I3,q2⟩
end
structure br (k:Nat) (A:Ss):Prop where
 hd:A.handled=none
 dp:A.depth+3*k+5 < recursionLimit
 un:A.units+16*k+200 < SG
theorem br.mono{j k:Nat}{A:Ss}(r:br k A)(h:j<=k):br j A:=⟨r.hd,by have:=r.dp;omega,by have:=r.un;omega⟩
theorem br.deeper{k:Nat}{A:Ss}(r:br (k+1) A)(env:Env):br k (A.deeper env):=
 ⟨r.hd,by have:=r.dp;show A.depth+1+3*k+5 < _;omega,by have:=r.un;show A.units+3+16*k+200 < _;omega⟩
theorem br.in1{k:Nat}{A:Ss}(r:br (k+1) A):br k A.in1:=
 ⟨r.hd,by have:=r.dp;show A.depth+3*k+5 < _;omega,by have:=r.un;show A.units+1+16*k+200 < _;omega⟩
theorem Eu{A:Ss}{C:R8}{us:List R7}{kw:List (Str×R7)}:(A.under (.builtin "type.__call__" ⟨.ref C::us,kw⟩)).depth=A.depth+1:=by
 first | rfl | simp [Qs,Code.weight,Code.isCreation,Code.isGuard,Code.isCaller,RP,Qt,guardIds]
theorem Ew{A:Ss}{C:R8}{us:List R7}{kw:List (Str×R7)}:(A.under (.builtin "type.__call__" ⟨.ref C::us,kw⟩)).units=A.units+1:=by
 first | rfl | simp [Qs,Code.cUnits,RP,Qt]
theorem br.make{k:Nat}{A:Ss}(r:br (k+1) A)(C:R8)(us:List R7)(kw:List (Str×R7)):br k (A.under (.builtin "type.__call__" ⟨.ref C::us,kw⟩)):=
 ⟨r.hd,by have:=r.dp;rw [Eu];omega,by have:=r.un;rw [Ew];omega⟩
theorem br.depth{k:Nat}{A:Ss}(r:br k A):A.depth < recursionLimit:=by have:=r.dp;omega
theorem br.units{k:Nat}{A:Ss}(r:br k A):A.units+64 < SG:=by have:=r.un;omega
theorem br.units0{k:Nat}{A:Ss}(r:br k A):A.units < SG:=by have:=r.un;omega
def vP:TA:=λ_ H Q=>Q [] H
def vQ(ta:TE)(tr:TA):TA:=λσ H Q=>ta σ H λx H1=>tr σ H1 λxs H2=>Q (x::xs) H2
section
variable {X:Cx} {e:Sd} {es:List Sd} {te:TE} {t:TA} {pos:Pos}
theorem bX:PA X [] vP:=λ_ _ _ _ H Q I h=>QM ⟨[],H,I,.nil,h⟩
theorem bw(ha:PE X e te)(hr:PA X es t)(hs:Se (e::es) X.env=(false,eval e X.env)::Se es X.env:=by rfl):PA X (e::es) (vQ te t):=by
 intro pos TR s σ H Q I h;rw [hs];show Sf _ _ (spliced ((false,eval e X.env)::Sy pos (Se es X.env))) _ _ s;refine Qu (ax (ha TR s σ H _ I h) λu s1 ⟨x,H1,I1,r1,q1⟩=>?_);exact ax (hr pos TR s1 σ H1 _ I1 q1) λus s2 uu42=>by obtain⟨xs,H2,I2,r2,q2⟩:=uu42;exact⟨x::xs,H2,I2,.cons r1 r2,q2⟩
def vR(t:TA):TE:=λσ H Q=>t σ H λxs H1=>xs.length<=Sb/\∀p,H1 p=none->Q (.ref p) (ak H1 p (.tup xs))
def vS(t:TA):TE:=λσ H Q=>t σ H λxs H1=>xs.length<=Sb/\∀p,H1 p=none->Q (.ref p) (ak H1 p (.lst xs))
theorem vT{x1}(h:PA X es t):PE X (.Tuple es x1 pos) (vR t):=by
 intro TR s σ H Q I hq;refine wpAny_Tuple_spliced (ax (h pos TR s σ H _ I hq) λus s1 ⟨xs,H1,I1,r,z,q⟩=>⟨by rw [<-r.length];exact z,?_⟩);have hf:H1 s1.heap.objs.size=none:=I1.hok.fresh (Lr _);refine⟨.ref s1.heap.objs.size,ak H1 s1.heap.objs.size (.tup xs),I1.laid (t':=s1.toks) (λb u e=>Lo _ e) (Lr _) ?_,rfl,q _ hf⟩;exact⟨z,us,r,⟨_,LU _ rfl,rfl,_,rfl⟩⟩
theorem vU(h:PA X es t):PE X (.List es pos) (vS t):=by
 intro TR s σ H Q I hq;refine wpAny_List_spliced (ax (h pos TR s σ H _ I hq) λus s1 ⟨xs,H1,I1,r,z,q⟩=>⟨by rw [<-r.length];exact z,?_⟩);have hf:H1 s1.heap.objs.size=none:=I1.hok.fresh (Lr _);refine⟨.ref s1.heap.objs.size,ak H1 s1.heap.objs.size (.lst xs),I1.laid (t':=s1.toks) (λb u e=>Lo _ e) (Lr _) ?_,rfl,q _ hf⟩;exact⟨z,us,0,r,LU _ rfl⟩
end
abbrev Sp:=List V->Hp->VK->XK->Prop
abbrev dR:=List Env->Hp->R9->XK->R7->R9->Prop
structure gr (P:Sk) (w:Sm) (K:Ll) (mg:Str->Option R7) (base:Sn) (A:Ss) (outer:List Env) (s:R9) (H:Hp):Prop where
 frames:A.frames=some outer
 mod:Mod K mg base
 bs:∀b o,base.get? b=some o->s.heap.get? b=some o/\H b=none
 bsz:base.objs.size<=s.heap.objs.size
 funs:s.heap.FunFrames base outer
 frf:∀b∈eT outer,H b=none
 hok:bL P w H s.heap
 bare:Tn s.gens
def CE(outer:List Env)(P:Sk)(w:Sm)(H:Hp)(s:R9)(Q:VK)(u:R7)(s':R9):Prop:=
 ∃v H',s'.os=s.os/\Tn s'.gens/\Un (eT outer) [] H H' s.heap s'.heap/\bL P w H' s'.heap/\aC v u/\Q v H'
def CR(CX:dR)(outer:List Env)(P:Sk)(w:Sm)(H:Hp)(s:R9)(Q:VK)(E:XK)(r:Result)(s':R9):Prop:=
 match r with
 | .ok (.ret u)=>CE outer P w H s Q u s'
 | .ok _=>False
 | .error e=>CX outer H s E e s'
structure aF (P:Sk) (w:Sm) (K:Ll) (mg:Str->Option R7) (base:Sn) (CX:dR) (k:Nat) (f:R8) (fd:Sj) (ps:List Str) (sp:Sp):Prop where
 len:∀vs H Q E,sp vs H Q E->vs.length=ps.length
 run:∀(A:Ss)(outer:List Env)(s:R9)(H:Hp)(args:Args)(us:List R7)(vs:List V)(Q:VK)(E:XK),br k A->gr P w K mg base A outer s H->BindsTo s fd args (ps.zip us)->aA vs us->sp vs H Q E->
  Tc (Si P w) A (.call (.ref f) args) (CR CX outer P w H s Q E) s
theorem aF.imp{P:Sk}{w:Sm}{K:Ll}{mg:Str->Option R7}{base:Sn}{CX:dR}{k:Nat}{f:R8}{fd:Sj}{ps:List Str}{sp sp':Sp}(F:aF P w K mg base CX k f fd ps sp)
 (h:∀vs H Q E,sp' vs H Q E->sp vs H Q E):aF P w K mg base CX k f fd ps sp':=
 ⟨λvs H Q E q=>F.len vs H Q E (h _ _ _ _ q),λA outer s H args us vs Q E hr he hb hv hs=>F.run A outer s H args us vs Q E hr he hb hv (h _ _ _ _ hs)⟩
theorem gr.make{P:Sk}{w:Sm}{K:Ll}{mg:Str->Option R7}{base:Sn}{A:Ss}{outer:List Env}{s:R9}{H:Hp}(e:gr P w K mg base A outer s H)(C:R8)(us:List R7)(kw:List (Str×R7)):
 gr P w K mg base (A.under (.builtin "type.__call__" ⟨.ref C::us,kw⟩)) outer s H:=⟨by first | exact e.frames | (simpa [Qs,Code.envs,Qt,pushEnvs] using e.frames),e.mod,e.bs,e.bsz,e.funs,e.frf,e.hok,e.bare⟩
theorem gr.in1{P:Sk}{w:Sm}{K:Ll}{mg:Str->Option R7}{base:Sn}{A:Ss}{outer:List Env}{s:R9}{H:Hp}(e:gr P w K mg base A outer s H):
 gr P w K mg base A.in1 outer s H:=⟨e.frames,e.mod,e.bs,e.bsz,e.funs,e.frf,e.hok,e.bare⟩
section
variable {X:Cx} {TR:List (R8×Obj)} {σ:St} {H:Hp} {s s':R9}
theorem ae.env0(I:ae X TR σ H s):gr X.prog X.w X.K X.mg X.base X.A X.stack s H:=
 ⟨I.ok.frames,I.ok.mod,I.bs,LY I.ok.bsz I.sz,I.stack,I.stkFree,I.hok,I.bare⟩
theorem ae.after{Q:VK}{u:R7}(I:ae X TR σ H s)(h:CE X.stack X.prog X.w H s Q u s'):EP X TR σ Q u s':=by
 obtain⟨v,H',os,bare,un,hok,r,q⟩:=h;obtain⟨hh,g,d,t,os'⟩:=s';obtain rfl:os'=s.os:=os;exact⟨v,H',I.call (h':=hh) (g':=g) (d':=d) (t':=t) (ch:=[]) un hok bare (λb z=>absurd z R5),r,q⟩
end
def lT(sp:Sp)(dvs:List V)(E:XK)(t:TA):TE:=λσ H Q=>t σ H λvs H1=>sp (vs++dvs) H1 Q E
def vV(C:R8)(sp:Sp)(dvs:List V)(E:XK)(t:TA):TE:=λσ H Q=>t σ H λvs H1=>∀x dx,H1 x=none->H1 dx=none->dx≠x->
 sp (.ref x::(vs++dvs)) (ak (ak H1 dx (.own x)) x (.ins C dx [])) (λv H2=>v= .non/\Q (.ref x) H2) E
def eF(K:Ll)(fd:Sj)(ps:List Str)(ds:List R7):Prop:=
 ∀(s:R9)(us:List R7),K.In s.heap->(us++ds).length=ps.length->BindsTo s fd ⟨us,[]⟩ (ps.zip (us++ds))
theorem eF.all{K:Ll}{fd:Sj}{ps:List Str}(h:∀us:List R7,us.length=ps.length->bindArgs fd ⟨us,[]⟩=pure (ps.zip us)):eF K fd ps []:=λs us _ hl=>by
 rw [Mw] at hl⊢;exact .of_eq (h us hl)
def kj(CX:dR)(X:Cx)(E:XK):Prop:=∀(TR:List (R8×Obj))(σ:St)(H:Hp)(s:R9)(e:R7)(s':R9),ae X TR σ H s->CX X.stack H s E e s'->X.xe e s'
section
variable {X:Cx} {CX:dR} {k:Nat} {f C:R8} {fd:Sj} {ps:List Str} {sp:Sp} {dvs:List V} {ds:List R7} {E:XK} {x m:Str} {p pos apos:Pos} {e o:Sd} {es:List Sd} {ta:TE} {t:TA}
theorem Ey{TR:List (R8×Obj)}{σ:St}{H:Hp}{s:R9}{Q:VK}{us:List R7}{vs:List V}(F:aF X.prog X.w X.K X.mg X.base CX k f fd ps sp)(hr:br k X.A)(hb:eF X.K fd ps ds)(hd:aA dvs ds)(hx:kj CX X E)
 (I:ae X TR σ H s)(r:aA vs us)(h:sp (vs++dvs) H Q E):Sf (Si X.prog X.w) X.A (call (.ref f) us) (EP X TR σ Q) X.xe s:=by
 have r2:aA (vs++dvs) (us++ds):=r.append hd;have hl:(us++ds).length=ps.length:=by rw [<-r2.length];exact F.len _ _ _ _ h
 refine wpAny_call (Tt (F.run X.A X.stack s H ⟨us,[]⟩ (us++ds) (vs++dvs) Q E hr I.env0 (hb s us I.kIn hl) r2 h) λr s' hq=>?_);cases r with
 | error e=>exact hx TR σ H s e s' I hq
 | ok fl=>
  cases fl with
  | ret u=>exact I.after hq
  | next=>exact MP hq
  | brk=>exact MP hq
  | cont=>exact MP hq
theorem Ez(F:aF X.prog X.w X.K X.mg X.base CX k f fd ps sp)(hr:br k X.A)(hg:Gl X x)(hm:X.mg x=some (.ref f))(hk:Nl X.K (.ref f)=true)(hb:eF X.K fd ps ds)(hd:aA dvs ds)(hx:kj CX X E)
 (ha:PA X (e::es) t)(hdb:(x==("__debug__":Str))=false:=by decide)(he:Se (e::es) X.env=(false,eval e X.env)::Se es X.env:=by rfl)(hpl:(Sy pos (Se es X.env)).any (·.1)=false:=by rfl):
 PE X (.Call (.Name x p) (e::es) [] pos) (lT sp dvs E t):=by
 intro TR s σ H Q I h;refine SY (lF I hg hm ?_ hdb);refine Qv (h₀:=X.base) I.ok.mod.kin hk (ax (ha pos TR s σ H _ I h) λus s1 ⟨vs,H1,I1,r,q⟩=>⟨I1.kIn,?_⟩) he hpl;exact Ey F hr hb hd hx I1 r q
structure Mk (K:Ll) (C f:R8):Prop where
 makes:PM K C=true
 init:Na K (.ref C) "__init__"=some (some (.ref f))
 fn:Qw K (.ref f)=true
 kp:Nl K (.ref C)=true
theorem EA{TR:List (R8×Obj)}{σ:St}{H:Hp}{s:R9}{Q:VK}{us:List R7}{vs:List V}(M:Mk X.K C f)(F:aF X.prog X.w X.K X.mg X.base CX k f fd ps sp)(hr:br (k+1) X.A)(hb:eF X.K fd ps ds)(hd:aA dvs ds)
 (hx:kj CX X E)(I:ae X TR σ H s)(r:aA vs us)
 (h:∀x dx,H x=none->H dx=none->dx≠x->sp (.ref x::(vs++dvs)) (ak (ak H dx (.own x)) x (.ins C dx [])) (λv H2=>v= .non/\Q (.ref x) H2) E):
 Sf (Si X.prog X.w) X.A (call (.ref C) us) (EP X TR σ Q) X.xe s:=by
 have hq:=h (s.heap.objs.size+1) s.heap.objs.size (I.hok.fresh (OQ _)) (I.hok.fresh (Lr _)) (LV (Pk _));have I2:=ae.made (C:=C) I;have r2:aA (V.ref (s.heap.objs.size+1)::(vs++dvs)) (L8 (s.heap.objs.size+1)::(us++ds)):= .cons rfl (r.append hd);have hl:(L8 (s.heap.objs.size+1)::us++ds).length=ps.length:=by
  have e:=r2.length;rw [F.len _ _ _ _ hq] at e;exact e.symm
 refine wpAny_call (Ek (f:=f) I.kIn M.makes M.init (beq_iff_eq.mp M.fn) (Tt (F.run _ X.stack _ _ ⟨L8 (s.heap.objs.size+1)::us,[]⟩ (L8 (s.heap.objs.size+1)::(us++ds)) _ _ E (hr.make C us [])
  (I2.env0.make C us []) (hb _ (L8 (s.heap.objs.size+1)::us) I2.kIn hl) r2 hq) λr s' hq'=>?_))
 cases r with
 | error e=>exact hx TR σ _ _ e s' I2 hq'
 | ok fl=>
  cases fl with
  | ret u=>
   obtain⟨v,H',I3,rv,ev,q3⟩:=I2.after hq';subst ev;exact⟨rv,⟨V.ref (s.heap.objs.size+1),H',I3,rfl,q3⟩⟩
  | next=>exact MP hq'
  | brk=>exact MP hq'
  | cont=>exact MP hq'
theorem EB(M:Mk X.K C f)(F:aF X.prog X.w X.K X.mg X.base CX k f fd ps sp)(hr:br (k+1) X.A)(hg:Gl X x)(hm:X.mg x=some (.ref C))(hb:eF X.K fd ps ds)(hd:aA dvs ds)(hx:kj CX X E)
 (ha:PA X (e::es) t)(hdb:(x==("__debug__":Str))=false:=by decide)(he:Se (e::es) X.env=(false,eval e X.env)::Se es X.env:=by rfl)(hpl:(Sy pos (Se es X.env)).any (·.1)=false:=by rfl):
 PE X (.Call (.Name x p) (e::es) [] pos) (vV C sp dvs E t):=by
 intro TR s σ H Q I h;refine SY (lF I hg hm ?_ hdb);refine Qv (h₀:=X.base) I.ok.mod.kin M.kp (ax (ha pos TR s σ H _ I h) λus s1 ⟨vs,H1,I1,r,q⟩=>⟨I1.kIn,?_⟩) he hpl;exact EA M F hr hb hd hx I1 r q
end
section
variable {X:Cx} {CX:dR} {k:Nat} {f C:R8} {fd:Sj} {ps ks:List Str} {sp:Sp} {E:XK} {x m:Str} {p pos apos kpos:Pos} {e o:Sd} {es:List Sd} {kws:List SS} {te ta:TE} {t tk:TA} {nm:Option Str}
variable {g:List R7->List R7->List R7} {gV:List V->List V->List V}
end
structure aS (N P:List Str) (sc:SH):Prop where
 kind:sc.kind= .function
 co:sc.isCoroutine=false
 gen:sc.isGenerator=false
 nd:N.Nodup
 pre:N.take P.length=P
 par:∀x∈P,sc.names.lookup x=some .local\/sc.names.lookup x=some .cell
 nofree:∀y∈sc.names,y.2≠ .free
theorem vW{kindOf:Str->Option SM}{x:Str}:∀{binds:List (Str×R7)}{m:Str->Option R7},(∀v,(x,v)∉ binds)->bindL kindOf binds m x=m x
 | [],_,_=>rfl
 | (n,v)::r,m,h=>by
  unfold bindL;rw [vW λw hw=>h w (L0 _ hw)];split
  ·have:x≠n:=by rintro rfl;exact h v L9
   simp [this]
  ·rfl
theorem vX{kindOf:Str->Option SM}{x:Str}:∀{binds:List (Str×R7)}{m:Str->Option R7},(∀v,(x,v)∉ binds)->bindC kindOf binds m x=m x
 | [],_,_=>rfl
 | (n,v)::r,m,h=>by
  unfold bindC;rw [vX λw hw=>h w (L0 _ hw)];split
  ·rfl
  ·have:x≠n:=by rintro rfl;exact h v L9
   simp [this]
theorem vY{kindOf:Str->Option SM}{x:Str}{v:R7}:∀{P:List Str}{vs:List R7}{i:Nat}{m:Str->Option R7},P.Nodup->P[i]?=some x->vs[i]?=some v->kindOf x=some .local->
 bindL kindOf (P.zip vs) m x=some v
 | [],_,_,_,_,h,_,_=>by simp at h
 | _::_,[],_,_,_,_,h,_=>by simp at h
 | p::P,w::vs,0,m,nd,h1,h2,hk=>by
  simp at h1 h2;subst h1;subst h2;show bindL kindOf ((p,w)::P.zip vs) m p=_;unfold bindL;rw [vW λv hv=>(MO.mp nd).1 (PN hv).1,R3 hk];simp
 | p::P,w::vs,i+1,m,nd,h1,h2,hk=>by
  show bindL kindOf ((p,w)::P.zip vs) m x=_;unfold bindL;exact vY (i:=i) (MO.mp nd).2 (by simpa using h1) (by simpa using h2) hk
theorem vZ{kindOf:Str->Option SM}{x:Str}{v:R7}:∀{P:List Str}{vs:List R7}{i:Nat}{m:Str->Option R7},P.Nodup->P[i]?=some x->vs[i]?=some v->kindOf x≠some .local->
 bindC kindOf (P.zip vs) m x=some v
 | [],_,_,_,_,h,_,_=>by simp at h
 | _::_,[],_,_,_,_,h,_=>by simp at h
 | p::P,w::vs,0,m,nd,h1,h2,hk=>by
  simp at h1 h2;subst h1;subst h2;show bindC kindOf ((p,w)::P.zip vs) m p=_;unfold bindC;rw [vX λv hv=>(MO.mp nd).1 (PN hv).1,R1 hk];simp
 | p::P,w::vs,i+1,m,nd,h1,h2,hk=>by
  show bindC kindOf ((p,w)::P.zip vs) m x=_;unfold bindC;exact vZ (i:=i) (MO.mp nd).2 (by simpa using h1) (by simpa using h2) hk
def start(N:List Str)(vs:List V):St:=vs.map some++LC (N.length - vs.length) none
def gN(CX:dR)(P:Sk)(w:Sm)(K:Ll)(mg:Str->Option R7)(base:Sn)(N:List Str)(qual:Str)(scope:SH)(f:R8)(cd:R7)(A:Ss)(outer:List Env)(s:R9)(H:Hp)(E:XK):Cx where
 prog:=P
 w:=w
 K:=K
 mg:=mg
 base:=base
 A:=A.deeper (Te qual scope s.heap.objs.size f cd)
 N:=N
 s₀:=s
 H₀:=H
 env:=Te qual scope s.heap.objs.size f cd
 outer:=outer
 stack:=Te qual scope s.heap.objs.size f cd::outer
 ex:=[]
 calm:=true
 fn:=λ_=>true
 pn:=[]
 xe:=λe s'=>Sf (Si P w) (A.deeper (Te qual scope s.heap.objs.size f cd)) (leaving (Te qual scope s.heap.objs.size f cd) e) (λ_ s''=>CX outer H s E e s'') (λe' s''=>CX outer H s E e' s'') s'
theorem v3{sc:SH}{n:Nat}{x:Str}(h:sc.names.lookup x=some .cell):∃c,(SI n sc.names []).lookup x=some c:=by
 have q:=Oo sc.names n [] (.inl h);exact N8.mp q
theorem EC{CX:dR}{P:Sk}{w:Sm}{K:Ll}{mg:Str->Option R7}{base:Sn}{N ps:List Str}{qual:Str}{scope:SH}{f:R8}{cd:R7}{A:Ss}{outer:List Env}{s s1:R9}{H:Hp}{E:XK}{us:List R7}{vs:List V}
 (S:aS N ps scope)(hd:A.handled=none)(e0:gr P w K mg base A outer s H)(hl:vs.length=ps.length)(r:aA vs us)
 (x:InCallC s s.heap.objs.size (bindL (Te qual scope s.heap.objs.size f cd).kindOf (ps.zip us) λ_=>none) (SI (s.heap.objs.size+1) scope.names []) (bindC (Te qual scope s.heap.objs.size f cd).kindOf (ps.zip us) λ_=>none) s1):
 ae (gN CX P w K mg base N qual scope f cd A outer s H E) [] (start N vs) H s1:=by
 have hpl:ps.length<=N.length:=by have:=congrArg Oq S.pre;rw [Mc] at this;omega
 obtain⟨h1,tk,rfl,hk⟩:=x.done;have noA:∀b:R8,b ∉ (gN CX P w K mg base N qual scope f cd A outer s H E).ex:=λb z=>absurd (show b∈([]:List R8) from z) R5;refine⟨⟨e0.mod,S.kind,rfl,rfl,Lr _,λy z c h1 h2=>?_,λy hy=>?_,λy c _ h=>?_,λ_=>hd,Around.frames_deeper e0.frames,.inr ⟨rfl,rfl⟩,λb z=>absurd z (noA b),e0.bs,e0.bsz,λb _ _=>noA b,λb z=>absurd z (noA b),e0.funs,e0.frf⟩,
  rfl,e0.bare,Un.kept hk,⟨_,x.toInCall.ns,λi y v h1 h2 h3=>?_⟩,λy c h=>⟨_,x.cell y c h⟩,e0.hok.fresh (Lr _),λy c h=>?_,λp hp=>absurd (show p∈([]:List (R8×Obj)) from hp) R5,e0.hok.kept hk,?_⟩
 ·exact name_of_addr x.apart (M3 h1) (M3 h2)
 ·have hy:scope.names.lookup y=some .cell\/scope.names.lookup y=some .free:=hy;rcases hy with hy | hy
  ·exact v3 hy
  ·exact absurd rfl (S.nofree _ (M3 hy))
 ·exact Nz (x.above y c (M3 h))
 ·have hi:i < vs.length:=by
   unfold start at h2;by_cases hi:i < vs.length
   ·exact hi
   ·rw [MR (by simpa using hi)] at h2;rw [NB] at h2;split at h2 <;> cases h2
  have ha:vs[i]?=some v:=by
   unfold start at h2;rw [MH (by simpa using hi),LD] at h2;cases e:vs[i]? with
   | none=>rw [e] at h2;cases h2
   | some a=>rw [e] at h2;cases h2;rfl
  obtain⟨u,hu,rv⟩:=r.get ha;have hp:ps[i]?=some y:=by
   rw [<-S.pre,List.getElem?_take_of_lt R0];exact h1
  have ndP:ps.Nodup:=by rw [<-S.pre];exact S.nd.sublist (Nu _ _)
  refine⟨u,rv,?_⟩;rcases S.par y (LQ hp) with k | k
  ·exact .inl ⟨k,vY ndP hp hu k⟩
  ·obtain⟨c,e⟩:=v3 (n:=s.heap.objs.size+1) k;refine .inr ⟨.inl k,c,e,?_⟩;have q:=x.cell y c e;rw [vZ ndP hp hu (by show scope.names.lookup y≠_;rw [k];decide)] at q;exact q
 ·exact e0.hok.fresh (Nz (x.above y c (M3 h)))
 ·unfold start;show _=N.length;rw [LN,Lm,Nb];omega
theorem ED{CX:dR}{P:Sk}{w:Sm}{K:Ll}{mg:Str->Option R7}{base:Sn}{k:Nat}{f:R8}{name qual:Str}{params:Arguments}{body:List Sq}{scope:SH}{dV kV doc pm cdv ct oc:R7}{an od:Option R8}
 {osl:Array (Option R7)}{N ps:List Str}{sp:Sp}(lk:K.lookup f=some ⟨oc,od,.func (MW name qual params body scope dV kV doc pm an cdv ct),osl⟩)(hcd:Od K cdv qual=true)(S:aS N ps scope)
 (len:∀vs H Q E,sp vs H Q E->vs.length=ps.length)
 (hbody:∀(A:Ss) (outer:List Env) (s:R9) (H:Hp) (vs:List V) (Q:VK) (E:XK),br k (A.deeper (Te qual scope s.heap.objs.size f cdv))->sp vs H Q E->
   ∃t,bJ (gN CX P w K mg base N qual scope f cdv A outer s H E) body t/\t {nx:=λ_ H'=>Q .non H',rt:=Q} (start N vs) H):
 aF P w K mg base CX (k+1) f (MW name qual params body scope dV kV doc pm an cdv ct) ps sp:=by
 refine⟨len,λA outer s H args us vs Q E hr e0 hb r hsp=>?_⟩;have hl:=len _ _ _ _ hsp;have KX:K.In s.heap:=e0.mod.kin.keeps λb o e=>(e0.bs b o e).1;have lim:s.heap.NoLimit:=e0.mod.nolimit.keeps λb o e=>(e0.bs b o e).1;have hkind:∀y∈ps.zip us,scope.names.lookup y.1=some .local\/(scope.names.lookup y.1=some .cell/\((SI (s.heap.objs.size+1) scope.names []).lookup y.1).isSome=true):=λuu47 hy=>by
  obtain⟨n,v⟩:=uu47;rcases S.par n (PN hy).1 with q | q
  ·exact .inl q
  ·exact .inr ⟨q,Oo _ _ _ (.inl q)⟩
 refine codeAny_call_function hr.depth (KX _ _ lk) rfl S.co S.gen rfl (PySem.W.codeRec_of KX hcd) (hb _ _ _ _ ?_);refine wpAny_newFunctionEnv_cells S.kind hkind λenv he s1 x=>?_;subst he;refine⟨lim.keeps x.toInCall.keep,codeAny_func ?_⟩;obtain⟨t,ht,hq⟩:=hbody A outer s H vs Q E (hr.deeper _) hsp;have I:ae (gN CX P w K mg base N qual scope f cdv A outer s H E) [] (start N vs) H s1:=EC S hr.hd e0 hl r x;refine Sz (ht [] s1 (start N vs) H _ I hq) (λfl s' hs=>?_) λe s' hs=>hs;have fin:∀{σ':St}{H':Hp}{v:V}{u:R7},ae (gN CX P w K mg base N qual scope f cdv A outer s H E) [] σ' H' s'->aC v u->Q v H'->CE outer P w H s Q u s':=
  λ{σ' H' v u} J rv q=>⟨v,H',J.os,J.bare,J.base,J.hok,rv,q⟩
 cases fl with
 | ret u=>
  obtain⟨v,σ',H',J,rv,q⟩:=hs;exact fin J rv q
 | next=>
  obtain⟨σ',H',J,q⟩:=hs;exact fin (v:=V.non) (u:=Nn) J rfl q
 | brk=>
  obtain⟨_,_,_,q⟩:=hs;exact MP q
 | cont=>
  obtain⟨_,_,_,q⟩:=hs;exact MP q
section
variable {X:Cx} {x:Str} {p pos:Pos} {e:Sd} {es:List Sd} {t:TA} {id T:String} {r:List V->Hp->VK->Prop}
def lU(r:List V->Hp->VK->Prop)(t:TA):TE:=λσ H Q=>t σ H λvs H1=>r vs H1 Q
theorem bN(hc:cO X (.builtin id) r)(hg:Gl X x)(hm:X.mg x=none)(hv:Sw x=some (.builtin id))(ha:PA X (e::es) t)(hn:x≠"__name__":=by decide)(hdb:(x==("__debug__":Str))=false:=by decide)
 (he:Se (e::es) X.env=(false,eval e X.env)::Se es X.env:=by rfl)(hpl:(Sy pos (Se es X.env)).any (·.1)=false:=by rfl):PE X (.Call (.Name x p) (e::es) [] pos) (lU r t):=by
 intro TR s σ H Q I h;refine SY (j2 I hg hm hv ?_ hn hdb);exact PyProof.Rows.callWith_builtin1 (ax (ha pos TR s σ H _ I h) λus s1 uu48=>by obtain⟨vs,H1,I1,r1,q1⟩:=uu48;exact hc TR s1 σ H1 vs us Q I1 r1 q1) he hpl
theorem cB(hc:cO X (.type T) r)(hg:Gl X x)(hm:X.mg x=none)(hv:Sw x=some (.type T))(ha:PA X (e::es) t)(hn:x≠"__name__":=by decide)(hdb:(x==("__debug__":Str))=false:=by decide)
 (he:Se (e::es) X.env=(false,eval e X.env)::Se es X.env:=by rfl)(hpl:(Sy pos (Se es X.env)).any (·.1)=false:=by rfl):PE X (.Call (.Name x p) (e::es) [] pos) (lU r t):=by
 intro TR s σ H Q I h;refine SY (j2 I hg hm hv ?_ hn hdb);exact NV (ax (ha pos TR s σ H _ I h) λus s1 uu49=>by obtain⟨vs,H1,I1,r1,q1⟩:=uu49;exact hc TR s1 σ H1 vs us Q I1 r1 q1) he hpl
end
end L2
namespace HT
open PySem PyProof.Rows
theorem eqAt_int(A:Ss)(s:R9)(a:Int)(t:Tok)(c:Int)(u:Tok):∃e,RT A s (.int a t) (.int c u) e/\(e=true↔a=c):=
 ⟨(a==c),RT.int_int a t c u,R5⟩
theorem rcLt_int(A:Ss)(s:R9)(a:Int)(t:Tok)(c:Int)(u:Tok)(prog:Sk)(w:Sm)(E:R7->R9->Prop)(Q:R7->R9->Prop)(h:Q (.bool (decide (a < c))) s):
 Sf (Si prog w) A (richCompare .Lt (.int a t) (.int c u)) Q E s:=
 (PyProof.Rows.lt_int h:Sf (Si prog w) A (Sv .Lt (.int a t) (.int c u)) Q E s)
section
open PySem.SeqAt
open PySem.AutoSeq1 (wpAny_loadPart')
open PySem.MeetsSeq PySem.MeetsSeq2 PySem.MeetsSeq3
end
section
variable {prog:Sk} {w:Sm} {A:Ss} {E:R7->R9->Prop} {s:R9}
theorem cat_tup{t b:R8}{vs ws:List R7}{Q:R7->R9->Prop}(ht:IsTup s.heap t vs.toArray)(hb:IsTup s.heap b ws.toArray)(hv:vs≠[])
 (h1:ws=[]->Q (.ref t) s)(h2:ws≠[]->Q (.ref s.heap.objs.size) {s with heap:=s.heap.push {cls:= .type "tuple",data:= .seq (vs++ws).toArray}})
 (hsz:vs.length+ws.length<=Sb):Sf (Si prog w) A (SQ .Add (.ref t) (.ref b)) Q E s:=by
 obtain⟨⟨cls,dd,data,sl⟩,ho,hc,n,hd⟩:=id ht;obtain⟨⟨cls2,dd2,data2,sl2⟩,ho2,hc2,n2,hd2⟩:=id hb;simp only at hc hd hc2 hd2;subst hc hd hc2 hd2;have e:vs.toArray++ws.toArray=(vs++ws).toArray:=R5
 by_cases hw:ws=[]
 ·exact concat_meets ⟨_,ho,rfl⟩ ⟨_,ho2,rfl⟩ TK seq_tuple_add Ot Oe (N9 _ _)
   (tuple_addW1 t b vs.toArray ws.toArray n n2 dd dd2 sl sl2 (by simpa using hv) (by simp [hw])) ⟨ho,ho2,h1 hw⟩
 ·refine concat_meets ⟨_,ho,rfl⟩ ⟨_,ho2,rfl⟩ TK seq_tuple_add Ot Oe (N9 _ _)
   (tuple_addW2 t b vs.toArray ws.toArray n n2 dd dd2 sl sl2 (by simpa using hv) (by simpa using hw) (by rw [Lw,Lw];exact hsz)) ⟨ho,ho2,?_⟩
  rw [e];exact h2 hw
def sIx(n d:Nat):Option Int->Nat
 | none=>d
 | some v=>if v < 0 then(v+(n:Int)).toNat else min v.toNat n
theorem pe(n d:Nat):sIx n d none=d:=rfl
theorem sIx_nat(n d k:Nat):sIx n d (some (k:Int))=min k n:=by
 show(if (k:Int) < 0 then((k:Int)+(n:Int)).toNat else min (k:Int).toNat n)=min k n;rw [R1 R0,O8]
theorem EE(n d:Nat)(hd:d<=n)(o:Option Int):sIx n d o<=n:=by
 cases o with
 | none=>exact hd
 | some v=>
  show(if v < 0 then(v+(n:Int)).toNat else min v.toNat n)<=n;by_cases hv:v < 0
  ·rw [R3 hv];omega
  ·rw [R1 hv];exact QT _ _
theorem v5(v:Int)(n d:Nat):(if v < 0 then max (v+(n:Int)) 0 else min v (n:Int))=((sIx n d (some v):Nat):Int):=by
 show(if v < 0 then max (v+(n:Int)) 0 else min v (n:Int))=(((if v < 0 then(v+(n:Int)).toNat else min v.toNat n):Nat):Int);by_cases hv:v < 0
 ·simp only [R3 hv];omega
 ·simp only [R1 hv];omega
theorem EF(lo hi:Option Int)(n:Nat):N1 lo hi 1 (n:Int)=(((sIx n 0 lo:Nat):Int),((sIx n n hi:Nat):Int)):=by
 have h1:¬((1:Int) < 0):=R0
 unfold N1;simp only [h1,if_false];refine Prod.ext ?_ ?_
 ·cases lo with
  | none=>rfl
  | some v=>exact v5 v n 0
 ·cases hi with
  | none=>rfl
  | some v=>exact v5 v n n
theorem EG(i j:Nat):Nx (i:Int) (j:Int) 1=j - i:=by
 unfold Nx;have h1:(1:Int) > 0:=R0
 simp only [h1,if_true,Int.ediv_one];split <;> omega
theorem v7{v:R7}{o:Option Int}{Q:Option Int->R9->Prop}(p:IsPart v o)(h:Q o s):Sf (Si prog w) A (Builtin.Slice.slicePartIndex v) Q E s:=by
 cases p with
 | none=>exact slicePart_none h
 | int i t=>exact slicePart_int h
theorem sliceApplied_gen{sl:R8}{vl vu:R7}{lo hi:Option Int}{n:Nat}{Q:Int×Int×Nat->R9->Prop}(hs:s.heap.IsSliceOf sl vl vu .none)(pl:IsPart vl lo)(pu:IsPart vu hi)
 (h:Q (((sIx n 0 lo:Nat):Int),1,sIx n n hi - sIx n 0 lo) s):Sf (Si prog w) A (OY (.ref sl) (pure (n:Int))) Q E s:=by
 obtain⟨os,hos,hcs,hds⟩:=id hs;unfold OY RB;refine Sa (Sa (wpAny_field hos hds (x:=vl) rfl (Sa (wpAny_field hos hds (x:=vu) rfl (Sa (wpAny_field hos hds (x:= .none) rfl (Sg ?_)))))));refine Sa (slicePart_none ?_);show Sf _ _ (if ((1:Int)==0)=true then _ else _) _ _ s;rw [R1 RZ];refine Sa (v7 pl (Sa (v7 pu (Sa (Sg ?_)))));show Sf _ _ (match N1 lo hi 1 (n:Int) with | (lo,hi)=>pure (lo,(1:Int),Nx lo hi 1)) _ _ s;rw [EF lo hi n];show Sf _ _ (pure (((sIx n 0 lo:Nat):Int),(1:Int),Nx ((sIx n 0 lo:Nat):Int) ((sIx n n hi:Nat):Int) 1)) _ _ s;rw [EG];exact Sg h
theorem EH(xs:Array R7)(i k:Nat):((Mv k).filterMap λ(m:Nat)=>xs[((i:Int)+(m:Int)*1).toNat]?).toArray=((xs.toList.drop i).take k).toArray:=by
 have e:(λ(m:Nat)=>xs[((i:Int)+(m:Int)*1).toNat]?)=λm=>xs[i+m]?:=by
  funext m;have:((i:Int)+(m:Int)*1).toNat=i+m:=R0
  rw [this]
 rw [e];have:=pick_run xs i k;rw [Qx] at this;have e2:((λx=>xs[x]?)∘ λx=>i+x)=λm=>xs[i+m]?:=rfl;rw [e2] at this;rw [this]
theorem getItem_tuple_cut{t sl:R8}{items:Array R7}{vl vu:R7}{lo hi:Option Int}{Q:R7->R9->Prop}(ht:IsTup s.heap t items)(hs:s.heap.IsSliceOf sl vl vu .none)(pl:IsPart vl lo)(pu:IsPart vu hi)
 (hw:¬(sIx items.size 0 lo=0/\sIx items.size items.size hi=items.size))
 (h:Q (.ref s.heap.objs.size) {s with heap:=s.heap.push {cls:= .type "tuple",data:= .seq ((items.toList.drop (sIx items.size 0 lo)).take (sIx items.size items.size hi - sIx items.size 0 lo)).toArray}})
 (hsz:items.size<=Sb):Sf (Si prog w) A (S5 (.ref t) (.ref sl)) Q E s:=by
 have htake:sizeOk (.seq ((items.toList.drop (sIx items.size 0 lo)).take (sIx items.size items.size hi - sIx items.size 0 lo)).toArray):=by
  show((items.toList.drop (sIx items.size 0 lo)).take (sIx items.size items.size hi - sIx items.size 0 lo)).toArray.size<=Sb;rw [Lw,Mc,OB,LR];omega
 have hj:sIx items.size items.size hi<=items.size:=EE _ _ (Lr _) hi;obtain⟨os,hos,hcs,hds⟩:=id hs;have hTs:s.TypeIs (.ref sl) "slice":=⟨os,hos,hcs⟩;unfold S5
 try with_reducible refine SA ?_
 first | refine Sa (Sg ?_) | skip
 refine Sa (wpAny_sequenceKey ht.typeIs RZ ?_);refine Sa (TM (name:=Lk "__getitem__") ht.typeIs Nd
  (S6 Nd ht.typeIs entry_tuple_getitem ?_ (args_tuple_getitem _ _)))
 show Sf _ _ (OZ (.ref t) >>=_) _ _ s;refine Sa (tupleItemsOf_ ht ?_);refine Sa (S8 hTs ?_);rw [R3 RZ];refine Sa (sliceApplied_gen hs pl pu ?_);have hno:¬((((sIx items.size 0 lo:Nat):Int)==0 && (1:Int)==1 && (sIx items.size items.size hi - sIx items.size 0 lo)==items.size)=true):=by
  intro q;rw [Mf,Mf] at q;have q1:((sIx items.size 0 lo:Nat):Int)=0:=eq_of_beq q.1.1;have q2:sIx items.size items.size hi - sIx items.size 0 lo=items.size:=eq_of_beq q.2;exact hw ⟨R0,R0⟩
 show Sf _ _ (if (((sIx items.size 0 lo:Nat):Int)==0 && (1:Int)==1 && (sIx items.size items.size hi - sIx items.size 0 lo)==items.size)=true then _ else _) _ _ s;rw [R1 hno,EH]
 first
  | exact Sa (m:=NA _) (SX (Sg ⟨_,rfl,Sg h⟩) htake)
  | exact Sa (m:=NA _) (SX (Sa (Sg (Sg ⟨_,rfl,Sg h⟩))) htake)
  | exact Sa (Sa (m:=NA _) (SX (Sg (Sg ⟨_,rfl,Sg h⟩)) htake))
  | exact Sa (Sa (m:=NA _) (SX (Sg ⟨_,rfl,Sg h⟩) htake))
end
end HT
namespace L2
open PySem PySem.Spec PyProof.Rows
abbrev TO:=St->Hp->(Option Int->Hp->Prop)->Prop
def PO(X:Cx)(e:Option Sd)(t:TO):Prop:=
 ∀(TR:List (R8×Obj))(s:R9)(σ:St)(H:Hp)(Q:Option Int->Hp->Prop),ae X TR σ H s->t σ H Q->
  Sf (Si X.prog X.w) X.A (evalPart e X.env) (λu s'=>∃o H',ae X TR σ H' s'/\IsPart u o/\Q o H') X.xe s
def EI:TO:=λ_ H Q=>Q none H
def EJ(t:TE):TO:=λσ H Q=>t σ H λx H1=>∃i,x= .int i/\Q (some i) H1
theorem EK{ns:List Int}:∀{us:List R7},aA (ns.map V.int) us->IntsAre us ns:=by
 induction ns with
 | nil=>intro us r;rw [Mp] at r;cases r;exact .nil
 | cons n ns ih=>
  intro us r;rw [Lq] at r;cases r with
  | cons r1 r2=>
   obtain⟨t,e⟩:=r1;subst e;exact .cons n t (ih r2)
section
variable {X:Cx} {e:Sd} {te:TE} {lo hi:Option Sd} {tl th:TO} {pos p2:Pos}
theorem EL:PO X none EI:=by
 intro TR s σ H Q I h;rw [evalPart_none];exact Sg ⟨none,H,I,.none,h⟩
theorem EM(h:PE X e te):PO X (some e) (EJ te):=by
 intro TR s σ H Q I hw;rw [evalPart_some];refine ax (h TR s σ H _ I hw) λu s1 ⟨x,H1,I1,r1,q1⟩=>?_;obtain⟨i,rfl,q⟩:=q1;obtain⟨t,rfl⟩:=r1;exact⟨some i,H1,I1,.int i t,q⟩
def kl(X:Cx)(r:V->Option Int->Option Int->Hp->VK->Prop):Prop:=
 ∀(TR:List (R8×Obj))(s:R9)(σ:St)(H:Hp)(x:V)(v vl vu:R7)(lo hi:Option Int)(sl:R8)(Q:VK),ae X TR σ H s->aC x v->s.heap.IsSliceOf sl vl vu .none->IsPart vl lo->IsPart vu hi->r x lo hi H Q->
  ∃T id,typeLookup (.type T) "__getitem__"=pure (some (.builtin id))/\s.TypeIs v T/\Sf (Si X.prog X.w) X.A (S5 v (.ref sl)) (EP X TR σ Q) X.xe s
def EN(r:V->Option Int->Option Int->Hp->VK->Prop)(te:TE)(tl th:TO):TE:=λσ H Q=>te σ H λx H1=>tl σ H1 λl H2=>th σ H2 λu H3=>r x l u H3 Q
theorem lV{r:V->Option Int->Option Int->Hp->VK->Prop}(hr:kl X r)(he:PE X e te)(hl:PO X lo tl)(hu:PO X hi th):PE X (.Subscript e (.Slice lo hi none p2) pos) (EN r te tl th):=by
 intro TR s σ H Q I h;refine Subscript_ (ax (he TR s σ H _ I h) λv s1 ⟨x,H1,I1,r1,q1⟩=>?_);refine wpAny_Slice (ax (hl TR s1 σ H1 _ I1 q1) λvl s2 ⟨l,H2,I2,pl,q2⟩=>ax (hu TR s2 σ H2 _ I2 q2) λvu s3 ⟨u,H3,I3,pu,q3⟩=>?_);rw [evalPart_none];refine Sg ?_;have I4:ae X TR σ H3 {s3 with heap:=s3.heap.push {cls:= .type "slice",data:= .fields #[vl,vu,.none]}}:=I3.kept (t':=s3.toks) λb ob q=>Lo _ q;obtain⟨T,id,hT,ht,hg⟩:=hr TR {s3 with heap:=s3.heap.push {cls:= .type "slice",data:= .fields #[vl,vu,.none]}} σ H3 x v vl vu l u s3.heap.objs.size Q I4 r1 (RX ..) pl pu q3;show Sf (Si X.prog X.w) X.A (subscriptTail e (.Slice lo hi none p2) v (.ref s3.heap.objs.size)) (EP X TR σ Q) X.xe {s3 with heap:=s3.heap.push {cls:= .type "slice",data:= .fields #[vl,vu,.none]}};exact tail_any (ops:=[.ref s3.heap.objs.size,v]) ht hT hg (by with_unfolding_all rfl)
def gO(xs:List V)(lo hi:Option Int):List V:=(xs.drop (HT.sIx xs.length 0 lo)).take (HT.sIx xs.length xs.length hi - HT.sIx xs.length 0 lo)
theorem v8(xs:List V)(lo hi:Option Int):(gO xs lo hi).length<=xs.length:=by
 unfold gO;rw [Mc,OB];omega
def EO(K:Ll):V->Option Int->Option Int->Hp->VK->Prop:=λx lo hi H Q=>∃a xs,x= .ref a/\aW K H a xs/\
 ¬(HT.sIx xs.length 0 lo=0/\HT.sIx xs.length xs.length hi=xs.length)/\∀p,H p=none->Q (.ref p) (ak H p (.tup (gO xs lo hi)))
theorem ER:kl X (EO X.K):=by
 intro TR s σ H x v vl vu lo hi sl Q I rx hs pl pu h;obtain⟨a,xs,rfl,hx,hw,q⟩:=h;cases rx;obtain⟨its,r,ht,hz⟩:=I.tuple hx;have hlen:its.toArray.size=xs.length:=by rw [Lw];exact r.length.symm
 refine⟨"tuple",_,Nd.lookup,ht.typeIs,?_⟩;refine HT.getItem_tuple_cut ht hs pl pu (by rw [hlen];exact hw) ?_ (by rw [hlen];exact hz);rw [hlen];refine⟨.ref s.heap.objs.size,_,I.laid (t':=s.toks) (o:= .tup (gO xs lo hi)) (λb ob q=>Lo _ q) (Lr _) ?_,rfl,q _ (I.hok.fresh (Lr _))⟩;exact⟨LY (v8 xs lo hi) hz,_,(r.drop (HT.sIx xs.length 0 lo)).take (HT.sIx xs.length xs.length hi - HT.sIx xs.length 0 lo),Qr _ _⟩
def pf(K:Ll):R2:=λx y H Q=>∃a b xs ys,x= .ref a/\y= .ref b/\aW K H a xs/\aW K H b ys/\xs≠[]/\xs.length+ys.length<=Sb/\
 (ys=[]->Q (.ref a) H)/\(ys≠[]->∀p,H p=none->Q (.ref p) (ak H p (.tup (xs++ys))))
theorem aA.nil_iff{xs:List V}{us:List R7}(r:aA xs us):us=[]↔xs=[]:=by
 cases r with
 | nil=>simp
 | cons _ _=>simp
theorem ES:bK X (SQ .Add) (pf X.K):=by
 intro TR s σ H x y v u Q I rx ry h;obtain⟨a,b,xs,ys,rfl,rfl,ha,hb,hx,hz,q1,q2⟩:=h;cases rx;cases ry;obtain⟨its,r1,p1,_⟩:=I.tuple ha;obtain⟨its2,r2,p2,_⟩:=I.tuple hb;refine HT.cat_tup p1 p2 (λz=>hx (r1.nil_iff.mp z)) (λz=>⟨.ref a,H,I,rfl,q1 (r2.nil_iff.mp z)⟩) (λz=>?_) (by rw [<-r1.length,<-r2.length];exact hz);refine⟨.ref s.heap.objs.size,_,I.laid (t':=s.toks) (o:= .tup (xs++ys)) (λb ob q=>Lo _ q) (Lr _) ?_,rfl,q2 (λw=>z (r2.nil_iff.mpr w)) _ (I.hok.fresh (Lr _))⟩;exact⟨by rw [LN];exact hz,_,r1.append r2,Qr _ _⟩
end
def fJ(n:Nat)(i:Int):Option Nat:=if 0<=i then(if i < n then some i.toNat else none) else if -(n:Int)<=i then some (i+n).toNat else none
def atI{α:Type}(xs:List α)(i:Int):Option α:=(fJ xs.length i).bind λj=>xs[j]?
theorem v9{n:Nat}{i:Int}{j:Nat}(h:fJ n i=some j):seqIndex? i n=some j/\j < n/\-(n:Int)<=i/\i < n:=by
 unfold fJ at h;by_cases h0:0<=i
 ·rw [R3 h0] at h;by_cases h1:i < n
  ·rw [R3 h1] at h;have e:i.toNat=j:=Mg h;exact⟨by rw [seqIndex_of h0 h1,e],R0,R0,h1⟩
  ·rw [R1 h1] at h;cases h
 ·rw [R1 h0] at h;by_cases h1:-(n:Int)<=i
  ·rw [R3 h1] at h;have e:(i+n).toNat=j:=Mg h;exact⟨by rw [seqIndex_neg R0 h1,e],R0,h1,R0⟩
  ·rw [R1 h1] at h;cases h
theorem ph{α:Type}{xs:List α}{i:Int}{v:α}(h:atI xs i=some v):∃j,seqIndex? i xs.length=some j/\xs[j]?=some v/\j < xs.length/\-(xs.length:Int)<=i/\i < xs.length:=by
 unfold atI at h;cases e:fJ xs.length i with
 | none=>rw [e] at h;cases h
 | some j=>
  rw [e] at h;obtain⟨h1,h2,h3,h4⟩:=v9 e;exact⟨j,h1,h,h2,h3,h4⟩
theorem eU{α:Type}{xs:List α}{j:Nat}{v:α}(h:xs[j]?=some v):atI xs (j:Int)=some v:=by
 have hj:j < xs.length:=(Lz.mp h).1;have e:fJ xs.length (j:Int)=some j:=by
  unfold fJ;rw [R3 R0,R3 R0];simp
 unfold atI;rw [e];exact h
theorem wa{α:Type}(xs:List α)(v:α):atI (xs++[v]) (-1)=some v:=by
 have hl:(xs++[v]).length=xs.length+1:=R5
 have e:fJ (xs++[v]).length (-1)=some xs.length:=by
  unfold fJ;rw [hl,R1 RZ,R3 R0];congr 1;omega
 unfold atI;rw [e];show(xs++[v])[xs.length]?=some v;simp
def ET(b:Sd):Prop:=∀o i,Tf b false o i=operate [o,i] (S5 o i)
def js(X:Cx)(r:R2):Prop:=
 ∀(value slice:Sd)(TR:List (R8×Obj))(s:R9)(σ:St)(H:Hp)(x y:V)(v u:R7)(Q:VK),ae X TR σ H s->aC x v->aC y u->r x y H Q->
  Tf slice false v u=operate [v,u] (S5 v u)->Sf (Si X.prog X.w) X.A (subscriptTail value slice v u) (EP X TR σ Q) X.xe s
def wb(X:Cx)(id:String)(r:V->List V->Hp->VK->Prop):Prop:=
 ∀(TR:List (R8×Obj))(s:R9)(σ:St)(H:Hp)(x:V)(xs:List V)(v:R7)(us:List R7)(Q:VK),ae X TR σ H s->aC x v->aA xs us->r x xs H Q->
  Sf (Si X.prog X.w) X.A (call (.builtin id) (v::us)) (EP X TR σ Q) X.xe s
section
variable {X:Cx} {a b:Sd} {ta tb:TE} {pos:Pos}
theorem fK{r:R2}(hr:js X r)(ha:PE X a ta)(hb:PE X b tb)(hs:ET b):PE X (.Subscript a b pos) (jo r ta tb):=by
 intro TR s σ H Q I h;exact Subscript_ (oX ha hb I h λv u s2 x y H2 I2 rx ry q=>hr a b TR s2 σ H2 x y v u Q I2 rx ry q (hs _ _))
def lW(K:Ll):R2:=λx y H Q=>∃p xs i v,x= .ref p/\y= .int i/\aN K H p xs/\atI xs i=some v/\Q v H
def lX(K:Ll):R2:=λx y H Q=>∃p xs i v,x= .ref p/\y= .int i/\aW K H p xs/\atI xs i=some v/\Q v H
def wc:R2:=λx y H Q=>∃z i c,x= .str z/\y= .int i/\z.length<=Sb/\atI z.cps.toList i=some c/\Q (.str ⟨#[c]⟩) H
theorem bE:js X (lW X.K):=by
 intro value slice TR s σ H x y v u Q I rx ry h hs;obtain⟨p,xs,i,z,rfl,rfl,hq,he,q⟩:=h;cases rx;obtain⟨t,rfl⟩:=ry;obtain⟨its,r,pl,hz⟩:=I.list hq;obtain⟨j,h1,h2,h3,h4,h5⟩:=ph he;obtain⟨w,ew,rw'⟩:=r.get h2;have hl:=r.length;have hn:=iO;have fin:EP X TR σ Q w s:=⟨z,H,I,rw',q⟩;by_cases h0:0<=i
 ·have hj:i.toNat=j:=by
   rw [seqIndex_of h0 h5] at h1;exact Mg h1
  exact item_listR pl.isList h0 R0 (by rw [hj];simpa using ew) fin hs
 ·have hj:(i+(its.toArray.size:Int)).toNat=j:=by
   rw [seqIndex_neg R0 h4] at h1;rw [Lw,<-hl];exact Mg h1
  exact subscriptTail_builtinR (x:=w) pl.isList.typeIs slot_list_getitem.lookup
   (wpAny_getItem_list_neg (Q:=λr s'=>r=w/\EP X TR σ Q r s') pl.isList R0 (by rw [Lw] <;> omega) R0 (by rw [hj];simpa using ew) ⟨rfl,fin⟩) hs
theorem ay:js X (lX X.K):=by
 intro value slice TR s σ H x y v u Q I rx ry h hs;obtain⟨p,xs,i,z,rfl,rfl,hq,he,q⟩:=h;cases rx;obtain⟨t,rfl⟩:=ry;obtain⟨its,r,pl,hz⟩:=I.tuple hq;obtain⟨j,h1,h2,h3,h4,h5⟩:=ph he;obtain⟨w,ew,rw'⟩:=r.get h2;have hl:=r.length;have hn:=iO;have fin:EP X TR σ Q w s:=⟨z,H,I,rw',q⟩;exact subscriptTail_builtinR (x:=w) pl.typeIs slot_tuple_getitem.lookup
  (getItem_tuple (j:=j) (Q:=λr s'=>r=w/\EP X TR σ Q r s') pl R0 R0 (by rw [Lw,<-hl];exact h1) (by simpa using ew) ⟨rfl,fin⟩) hs
theorem we:js X wc:=by
 intro value slice TR s σ H x y v u Q I rx ry h hs;obtain⟨z,i,c,rfl,rfl,hz,he,q⟩:=h;obtain⟨t,rfl⟩:=rx;obtain⟨t',rfl⟩:=ry;obtain⟨j,h1,h2,h3,h4,h5⟩:=ph he;have hl:z.cps.toList.length=z.length:=by simp [Str.length]
 rw [hl] at h1 h4 h5;have hn:=iO;exact tail_any (Td s z t) slot_str_getitem.lookup (getItem_str (c:=c) (by
  have e1:decide (i < -(2 ^ 63:Int))=false:=decide_eq_false R0;have e2:decide (i >= 2 ^ 63)=false:=decide_eq_false R0;rw [e1,e2,O3]) (by rw [h1];simpa using h2) ⟨.str ⟨#[c]⟩,H,I.tok _,⟨_,rfl⟩,q⟩) hs
theorem EU(its:List R7)(n j:Nat)(u:R7):L6 (·.setIfInBounds j u) {cls:= .type "list",data:= .seq its.toArray n}={cls:= .type "list",data:= .seq (its.set j u).toArray n}:=by
 simp [L6]
theorem ae.lst{TR:List (R8×Obj)}{σ:St}{H:Hp}{s:R9}{p:R8}{xs:List V}(I:ae X TR σ H s)(h:H p=some (.lst xs)):
 ∃(its:List R7)(n:Nat),aA xs its/\s.heap.get? p=some {cls:= .type "list",data:= .seq its.toArray n}/\xs.length<=Sb:=by
 obtain⟨z,its,n,r,e⟩:=I.hok p _ h;exact⟨its,n,r,e,z⟩
theorem ae.lstUpd{TR:List (R8×Obj)}{σ:St}{H:Hp}{s:R9}{p:R8}{xs ys:List V}{its its':List R7}{n n':Nat}{f:Obj->Obj}(I:ae X TR σ H s)(h:H p=some (.lst xs))
 (ho:s.heap.get? p=some {cls:= .type "list",data:= .seq its.toArray n})(hf:f {cls:= .type "list",data:= .seq its.toArray n}={cls:= .type "list",data:= .seq its'.toArray n'})(r:aA ys its')(hz:ys.length<=Sb)(t:Nat):
 ae X TR σ (ak H p (.lst ys)) {s with heap:=s.heap.update p f,toks:=t}:=by
 have e:(s.heap.update p f).get? p=some {cls:= .type "list",data:= .seq its'.toArray n'}:=by
  rw [Heap.get?_update_self f ho (by rw [hf] <;> rfl),hf]
 refine I.write (x:=p) (e:=p) (by rw [h];trivial) (.inl rfl) (λb u hb q=>(PY _ _ (Ne.symm hb)).trans q) ⟨_,e⟩ ?_;exact⟨hz,its',n',r,e⟩
def EV:V->V->V->Hp->(Hp->Prop)->Prop:=λo i v H Q=>∃p xs k j,o= .ref p/\i= .int k/\H p=some (.lst xs)/\fJ xs.length k=some j/\Q (ak H p (.lst (xs.set j v)))
theorem pj:vi X EV:=by
 intro TR s σ H o i v ov iv u Q I ro ri rv h;obtain⟨p,xs,k,j,rfl,rfl,hp,hj,q⟩:=h;cases ro;obtain⟨t,rfl⟩:=ri;obtain⟨its,n,r,ho,hz⟩:=I.lst hp;obtain⟨h1,h2,h3,h4⟩:=v9 hj;have hl:=r.length;have hn:=iO;have I':ae X TR σ (ak H p (.lst (xs.set j v))) {s with heap:=s.heap.update p (L6 (·.setIfInBounds j u))}:=
  I.lstUpd hp ho (EU its n j u) (r.set rv j) (by rw [List.length_set];exact hz) s.toks
 by_cases h0:0<=k
 ·have hk:k.toNat=j:=by
   rw [seqIndex_of h0 h4] at h1;exact Mg h1
  exact PySem.W.ki_setAt ho h0 R0 (by rw [Lw,<-hl];exact h4) (by rw [hk];exact⟨_,I',q⟩)
 ·have hk:(k+(its.toArray.size:Int)).toNat=j:=by
   rw [seqIndex_neg R0 h3] at h1;rw [Lw,<-hl];exact Mg h1
  exact PySem.W.ki_setBack ho R0 (by rw [Lw,<-hl];exact h3) R0 (by rw [hk];exact⟨_,I',q⟩)
theorem EW(lo hi:Option Int)(n:Nat):(S7 lo hi none n).1=((HT.sIx n 0 lo:Nat):Int)/\(S7 lo hi none n).2.1=((HT.sIx n n hi:Nat):Int)/\(S7 lo hi none n).2.2=1:=by
 refine⟨?_,?_,rfl⟩
 ·cases lo with
  | none=>simp [S7,HT.sIx]
  | some i=>
   simp only [S7,HT.sIx,QU,show(1:Int) > 0 by decide,if_true];by_cases h:i < 0
   ·simp only [h,if_true] <;> omega
   ·simp only [h,if_false] <;> omega
 ·cases hi with
  | none=>simp [S7,HT.sIx]
  | some i=>
   simp only [S7,HT.sIx,QU,show(1:Int) > 0 by decide,if_true];by_cases h:i < 0
   ·simp only [h,if_true] <;> omega
   ·simp only [h,if_false] <;> omega
theorem EX(its:List R7)(lo hi:Option Int):slicePick its.toArray lo hi none=((its.drop (HT.sIx its.length 0 lo)).take (HT.sIx its.length its.length hi - HT.sIx its.length 0 lo)).toArray:=by
 obtain⟨h1,h2,h3⟩:=EW lo hi its.toArray.size;unfold slicePick;rw [h1,h2,h3];simp only [sliceRange_one,pick_run,Lw] <;> rfl
def EY(K:Ll):V->Option Int->Option Int->Hp->VK->Prop:=λx lo hi H Q=>∃a xs,x= .ref a/\aN K H a xs/\∀p,H p=none->Q (.ref p) (ak H p (.lst (gO xs lo hi)))
theorem wg:kl X (EY X.K):=by
 intro TR s σ H x v vl vu lo hi sl Q I rx hs pl pu h;obtain⟨a,xs,rfl,hx,q⟩:=h;cases rx;obtain⟨its,r,ht,hz⟩:=I.list hx;have hlen:=r.length;refine⟨"list",_,slot_list_getitem.lookup,ht.isList.typeIs,?_⟩;refine wpAny_getItem_list_slice ht.isList hs pl pu .none R5 ?_ (by rw [Lw] <;> omega);rw [EX,<-hlen];refine⟨.ref s.heap.objs.size,_,I.laid (t':=s.toks) (o:= .lst (gO xs lo hi)) (λb ob q=>Lo _ q) (Lr _) ?_,rfl,q _ (I.hok.fresh (Lr _))⟩;exact⟨LY (v8 xs lo hi) hz,_,0,(r.drop (HT.sIx xs.length 0 lo)).take (HT.sIx xs.length xs.length hi - HT.sIx xs.length 0 lo),LU _ rfl⟩
theorem eV:cO X (.builtin "len") (λxs H Q=>∃p ys,xs=[.ref p]/\(aN X.K H p ys\/aW X.K H p ys)/\Q (.int ys.length) H):=by
 intro TR s σ H xs us Q I r h;obtain⟨p,ys,rfl,hq,q⟩:=h;obtain⟨u,rfl,rx⟩:=cP r;cases rx;have hn:=iO;rcases hq with hq | hq
 ·obtain⟨its,r',pl,hz⟩:=I.list hq;have hlen:=r'.length;exact Calls.call_len_list pl.isList (by simp only [Lw] <;> omega) ⟨.int ys.length,H,I.tok _,⟨s.toks+1,by rw [Lw,hlen]⟩,q⟩
 ·obtain⟨its,r',pl,hz⟩:=I.tuple hq;have hlen:=r'.length;exact len_tuple pl (by simp only [Lw] <;> omega) ⟨.int ys.length,H,I.tok _,⟨s.toks+1,by rw [Lw,hlen]⟩,q⟩
theorem EZ:cO X (.builtin "len") (λxs H Q=>∃z,xs=[.str z]/\z.length<=Sb/\Q (.int z.length) H):=by
 intro TR s σ H xs us Q I r h;obtain⟨z,rfl,hz,q⟩:=h;obtain⟨u,rfl,t,rfl⟩:=cP r;have hn:=iO;exact len_str R0 ⟨.int z.length,H,I.tok _,⟨_,rfl⟩,q⟩
theorem E1:cO X (.type "list") (λxs H Q=>∃p ys,xs=[.ref p]/\(aN X.K H p ys\/aW X.K H p ys)/\∀l,H l=none->Q (.ref l) (ak H l (.lst ys))):=by
 intro TR s σ H xs us Q I r h;obtain⟨p,ys,rfl,hq,q⟩:=h;obtain⟨u,rfl,rx⟩:=cP r;cases rx;have fin:∀(its:List R7),aA ys its->ys.length<=Sb->∀(h':Sn)(c':Nat),(∀b o',s.heap.get? b=some o'->h'.get? b=some o')->
  h'.get? s.heap.objs.size=some {cls:= .type "list",dict:=none,data:= .seq its.toArray c',slots:=#[]}->EP X TR σ Q (.ref s.heap.objs.size) {s with heap:=h'}:=λits r' hz h' c' kp e=>
  ⟨.ref s.heap.objs.size,_,I.laid (t':=s.toks) kp (Lr _) (show bU X.prog X.w _ h' _ (.lst ys) from⟨hz,its,c',r',e⟩),rfl,q _ (I.hok.fresh (Lr _))⟩
 rcases hq with hq | hq
 ·obtain⟨its,r',pl,hz⟩:=I.list hq;have hlen:=r'.length;obtain⟨o,ho,hc,n,hd⟩:=pl.isList;exact call_list_seq p (.inl rfl) ho hc hd (λh' c' kp e=>fin its r' hz h' c' kp e) (by simp only [Lw] <;> omega)
 ·obtain⟨its,r',pl,hz⟩:=I.tuple hq;have hlen:=r'.length;obtain⟨o,ho,hc,n,hd⟩:=pl;exact call_list_seq p (.inr rfl) ho hc hd (λh' c' kp e=>fin its r' hz h' c' kp e) (by simp only [Lw] <;> omega)
theorem dH:cO X (.type "tuple") (λxs H Q=>∃p ys,xs=[.ref p]/\((aN X.K H p ys/\∀l,H l=none->Q (.ref l) (ak H l (.tup ys)))\/(aW X.K H p ys/\Q (.ref p) H))):=by
 intro TR s σ H xs us Q I r h;obtain⟨p,ys,rfl,h⟩:=h;obtain⟨u,rfl,rx⟩:=cP r;cases rx;rcases h with⟨hq,q⟩ | ⟨hq,q⟩
 ·obtain⟨its,r',pl,hz⟩:=I.list hq;have hlen:=r'.length;refine call_tuple_list pl.isList (λh' kp=>?_) (by simp only [Lw] <;> omega);have I1:ae X TR σ H {s with heap:=h'}:=I.kept (t':=s.toks) kp;have I2:ae X TR σ (ak H h'.objs.size (.tup ys)) {s with heap:=h'.push {cls:= .type "tuple",data:= .seq its.toArray}}:=
   I1.laid (t':=s.toks) (λb o e=>Lo _ e) (Lr _) (show bU X.prog X.w _ _ _ (.tup ys) from⟨hz,its,r',Qr _ _⟩)
  exact⟨.ref h'.objs.size,_,I2,rfl,q _ (I1.hok.fresh (Lr _))⟩
 ·obtain⟨its,r',pl,hz⟩:=I.tuple hq;exact call_tuple_same pl ⟨.ref p,H,I,rfl,q⟩
def wj(K:Ll)(T:String)(x:V)(H:Hp):Prop:=match x with
 | .str _=>T="str"
 | .int _=>T="int"
 | .ref p=>(T="list"/\∃xs,aN K H p xs)\/(T="tuple"/\∃o,K.lookup p=some o/\o.cls= .type "tuple"/\o.dict=none)\/
  (T="dict"/\((∃kvs,H p=some (.dK kvs))\/∃kvs,H p=some (.dT kvs)))\/(T="set"/\∃S n,H p=some (.set S n))
 | _=>False
theorem E2{TR:List (R8×Obj)}{σ:St}{H:Hp}{s:R9}{T:String}{x:V}{v:R7}(I:ae X TR σ H s)(r:aC x v)(ty:wj X.K T x H):
 s.TypeIs v T/\∀a,v= .ref a->∃ob,s.heap.get? a=some ob/\ob.dict=none:=by
 cases x with
 | str z=>
  obtain⟨t,rfl⟩:=r;cases (show T="str" from ty);exact⟨Td s z t,λ_ e=>nomatch e⟩
 | int i=>
  obtain⟨t,rfl⟩:=r;cases (show T="int" from ty);exact⟨typeIs_int s i t,λ_ e=>nomatch e⟩
 | ref p=>
  cases r;rcases ty with⟨rfl,xs,hq⟩ | ⟨rfl,o,hk,hc,hd⟩ | ⟨rfl,hk⟩ | ⟨rfl,S,n,hk⟩
  ·obtain⟨its,_,pl,_⟩:=I.list hq;refine⟨pl.isList.typeIs,λa e=>?_⟩;cases e;obtain⟨o,n,e,c,hd,_⟩:=pl;exact⟨o,e,hd⟩
  ·refine⟨⟨o,I.kIn p o hk,hc⟩,λa e=>?_⟩;cases e;exact⟨o,I.kIn _ o hk,hd⟩
  ·have z:∃o,s.heap.get? p=some o/\o.ExactDict:=by
    rcases hk with⟨kvs,hk⟩ | ⟨kvs,hk⟩
    ·obtain⟨_,_,_,_,o,_,_,e,ex,_⟩:=I.hok p _ hk;exact⟨o,e,ex⟩
    ·obtain⟨_,_,_,_,o,_,_,e,ex,_⟩:=I.hok p _ hk;exact⟨o,e,ex⟩
   obtain⟨o,e,ex⟩:=z;refine⟨⟨o,e,ex.1⟩,λa e2=>?_⟩;cases e2;exact⟨o,e,ex.2.1⟩
  ·obtain⟨o,_,_,_,e,ex,_⟩:=I.hok p _ hk;refine⟨⟨o,e,ex.1⟩,λa e2=>?_⟩;cases e2;exact⟨o,e,ex.2.1⟩
 | _=>exact MP ty
def E3(K:Ll)(T:String)(r:V->List V->Hp->VK->Prop)(to:TE)(t:TA):TE:=λσ H Q=>to σ H λx H1=>wj K T x H1/\t σ H1 λxs H2=>r x xs H2 Q
variable {o e:Sd} {es:List Sd} {to:TE} {t:TA} {name:Str} {apos cpos:Pos} {T id:String} {r:V->List V->Hp->VK->Prop}
theorem km(pa:PlainAttrs T)(slot:Slot T name id)(hty:typeOf (.builtin id)=pure (.type "method_descriptor"))(hm:wb X id r)(ho:PE X o to)(ha:PA X (e::es) t)
 (hbase:SJ o name X.env (eval o X.env)=eval o X.env:=by rfl)
 (hfew:((Sy cpos (Se (e::es) X.env)).all (λx=>!x.1) && (Ti cpos (S4 [] X.env)).all (λx=>x.1.isSome)
   && decide ((e::es).length+([]:List SS).length+(if ([]:List SS).isEmpty then 0 else 1) < 30))=true:=by rfl)
 (hline:(apos.endLine==cpos.line)=true:=by rfl)(hs:Se (e::es) X.env=(false,eval e X.env)::Se es X.env:=by rfl)(hplain:(Sy cpos (Se es X.env)).any (·.1)=false:=by rfl):
 PE X (.Call (.Attribute o name apos) (e::es) [] cpos) (E3 X.K T r to t):=by
 intro TR s σ H Q I h;refine wpAny_Call_method_late hbase hfew hline rfl (ax (ho TR s σ H _ I h) λv s1 ⟨x,H1,I1,r1,ty,q1⟩=>?_);obtain⟨h1,h2⟩:=E2 I1 r1 ty;refine⟨T,id,pa,slot,hty,h1,h2,?_⟩;have hA:=ha cpos TR s1 σ H1 _ I1 q1;rw [hs] at hA⊢;refine PZ (by show(false || (Sy cpos (Se es X.env)).any (·.1))=false;rw [hplain] <;> rfl) (Qg ?_);exact ax hA λus s2 uu55=>by obtain⟨vs,H2,I2,r2,q2⟩:=uu55;exact hm TR s2 σ H2 x vs v us Q I2 r1 r2 q2
end
def lY(X:Cx)(id:String)(r:V->List V->Hp->VK->Prop):Prop:=
 ∀(TR:List (R8×Obj))(s:R9)(σ:St)(H:Hp)(x:V)(xs:List V)(v:R7)(us:List R7)(Q:VK),ae X TR σ H s->aC x v->aA xs us->r x xs H Q->
  Sf (Si X.prog X.w) X.A (call (.builtin id) (v::us)) (EP X TR σ Q) X.xe s
theorem aA.one:∀{x:V}{us:List R7},aA [x] us->∃u,us=[u]/\aC x u
 | _,_,.cons r .nil=>⟨_,rfl,r⟩
theorem aA.rep{xs:List V}{us:List R7}(h:aA xs us):∀k:Nat,aA (LC k xs).flatten (LC k us).flatten
 | 0=>.nil
 | k+1=>by
  rw [M4,M4,Nv,Nv];exact aA.append h (aA.rep h k)
theorem pq(its:List R7):∀(k:Nat)(acc:List R7),
 Ny (λx1 x2=>x1++x2) acc.toArray (LC k its.toArray)=(acc++(LC k its).flatten).toArray
 | 0,acc=>by simp
 | k+1,acc=>by
  have e:acc.toArray++its.toArray=(acc++its).toArray:=R5
  have e2:(acc++its)++(LC k its).flatten=acc++(LC (k+1) its).flatten:=by
   rw [M4,Nv,Oi]
  rw [<-e2,<-pq its k (acc++its),<-e,M4,Nh]
section
variable {X:Cx} {TR:List (R8×Obj)} {σ:St} {H:Hp} {s:R9} {l b:R8} {xs ys zs:List V}
theorem ae.lset{its its':List R7}{n:Nat}{f:Array R7->Array R7}{t':Nat}(I:ae X TR σ H s)(hH:H l=some (.lst xs))
 (e:s.heap.get? l=some {cls:= .type "list",data:= .seq its.toArray n})(hf:f its.toArray=its'.toArray)(hv:aA ys its')(hz:ys.length<=Sb):
 ae X TR σ (ak H l (.lst ys)) {s with heap:=s.heap.update l (L6 f),toks:=t'}:=by
 have q:=PySem.IsL.update e f;rw [hf] at q;refine I.write (x:=l) (e:=l) (by rw [hH];exact trivial) (.inl rfl) (λb' u hb hu=>(PY s.heap (L6 f) (Ne.symm hb)).trans hu) ⟨_,q⟩ ?_;exact⟨hz,its',_,hv,q⟩
theorem ae.lnew{its:List R7}{t':Nat}(I:ae X TR σ H s)(hv:aA ys its)(hz:ys.length<=Sb):
 ae X TR σ (ak H s.heap.objs.size (.lst ys)) {s with heap:=s.heap.push {cls:= .type "list",data:= .seq its.toArray},toks:=t'}:=
 I.laid (λ_ _ q=>Lo _ q) (Lr _) ⟨hz,its,0,hv,LU _ rfl⟩
theorem ae.fresh(I:ae X TR σ H s):H s.heap.objs.size=none:=I.hok.fresh (Lr _)
theorem ae.lstM(I:ae X TR σ H s)(hH:H l=some (.lst xs)):xs.length<=Sb/\∃(its:List R7)(n:Nat),aA xs its/\xs.length=its.length/\s.heap.get? l=some {cls:= .type "list",data:= .seq its.toArray n}:=by
 obtain⟨z,its,n,r,e⟩:=I.hok l _ hH;exact⟨z,its,n,r,r.length,e⟩
theorem lZ{n:Nat}(h:n<=Sb):MM n=false:=by
 unfold MM;exact decide_eq_false R0
end
section
variable {X:Cx}
def E4:V->List V->Hp->VK->Prop:=λx vs H Q=>∃l xs y,x= .ref l/\vs=[y]/\H l=some (.lst xs)/\xs.length < Sb/\Q .non (ak H l (.lst (xs++[y])))
theorem wk:lY X "list.append" E4:=by
 intro TR s σ H x vs v us Q I rx rv h;obtain⟨l,xs,y,rfl,rfl,hH,hz,q⟩:=h;cases rx;obtain⟨u,rfl,ru⟩:=rv.one;obtain⟨z,its,n,r,hl,e⟩:=I.lstM hH;refine SO F.slot_list_append ⟨_,e,rfl⟩ F.entry_list_append (F.args_list_append_2 _ _) (PySem.list_append l its.toArray n u (by rw [Lw];omega)) ⟨e,?_⟩;refine⟨.non,_,I.lset (its':=its++[u]) hH e R5 (r.append (.cons ru .nil)) ?_,rfl,q⟩;rw [LN,OF];omega
def E5:V->List V->Hp->VK->Prop:=λx vs H Q=>∃l b xs zs,x= .ref l/\vs=[.ref b]/\H l=some (.lst xs)/\H b=some (.lst zs)/\xs.length+zs.length<=Sb/\Q .non (ak H l (.lst (xs++zs)))
theorem E6:lY X "list.extend" E5:=by
 intro TR s σ H x vs v us Q I rx rv h;obtain⟨l,b,xs,zs,rfl,rfl,hH,hB,hz,q⟩:=h;cases rx;obtain⟨u,rfl,ru⟩:=rv.one;cases ru;obtain⟨z,its,n,r,hl,e⟩:=I.lstM hH;obtain⟨z2,its2,n2,r2,hl2,e2⟩:=I.lstM hB;have hsz:its.toArray.size+its2.toArray.size<=Sb:=by rw [Lw,Lw];omega
 have hlong:¬(!its.toArray.isEmpty && MM (its.toArray.size+its2.toArray.size))=true:=by
  rw [lZ hsz,Rc];exact Lx
 refine SO F.slot_list_extend ⟨_,e,rfl⟩ F.entry_list_extend (F.args_list_extend_2 _ _)
  (AutoSeq1.list_extend_list_list_0 l its.toArray n b its2.toArray n2 hlong (by rw [Lw];omega) R0) ⟨e,e2,?_⟩
 refine⟨.non,_,I.lset (its':=its++its2) hH e R5 (r.append r2) ?_,rfl,q⟩;rw [LN];omega
def E7:R2:=λx y H Q=>∃l k xs,x= .ref l/\y= .int k/\H l=some (.lst xs)/\-(2 ^ 63)<=k/\k < 2 ^ 63/\xs.length*k.toNat<=Sb/\
 ∀p,H p=none->Q (.ref p) (ak H p (.lst (LC k.toNat xs).flatten))
theorem wm{α:Type}(xs:List α)(k:Nat):(LC k xs).flatten.length=k*xs.length:=by
 induction k with
 | zero=>simp
 | succ k ih=>rw [M4,Nv,LN,ih,Nat.succ_mul,Nat.add_comm]
theorem E8:bK X (SQ .Mult) E7:=by
 intro TR s σ H x y v u Q I rx ry h;obtain⟨l,k,xs,rfl,rfl,hH,h1,h2,hz,q⟩:=h;cases rx;obtain⟨t,rfl⟩:=ry;obtain⟨z,its,n,r,hl,e⟩:=I.lstM hH;have hlen:its.toArray.size*k.toNat<=Sb:=by rw [Lw,<-hl];exact hz
 have hcap:¬its.toArray.size*k.toNat > (2 ^ 63 - 1)/ 8:=by
  have:(Sb:Nat)<=(2 ^ 63 - 1)/ 8:=RZ
  omega
 have hfit:¬(!M6 k)=true:=by
  rw [fitsIndex_both h1 h2];exact Lx
 have hlong:¬MM (its.toArray.size*k.toNat)=true:=by
  rw [lZ hlen];exact Lx
 have hnew:Ny (λx1 x2=>x1++x2) #[] (LC (if its.toArray.isEmpty=true then 0 else k.toNat) its.toArray)=(LC k.toNat its).flatten.toArray:=by
  have f0:∀m:Nat,Ny (λx1 x2=>x1++x2) #[] (LC m its.toArray)=(LC m its).flatten.toArray:=λm=>by
   have:=pq its m [];rw [Mq] at this;exact this
  rw [f0];cases its with
  | nil=>simp
  | cons a r'=>rw [R1 R5]
 refine TJ (T:="list") (U:="int") RZ ⟨_,e,rfl⟩ (λs'=>typeIs_int s' k t) noFill_list_mul F.fills_int_mul F.slot_int_rmul repeat_list F.slot_int_index.lookup
  (SO F.slot_int_rmul (typeIs_int s k t) F.entry_int_rmul (F.args_int_rmul_2 _ _) (int___rmul___int_list k t l its.toArray n)
    ⟨e,rfl,⟨_,e,rfl⟩,SO F.slot_list_mul ⟨_,e,rfl⟩ F.entry_list_mul (F.args_list_mul_2 _ _) (Ou l its.toArray n k t hfit hcap hlong) ⟨e,?_⟩⟩)
 rw [hnew];exact⟨.ref _,_,I.lnew (t':=s.toks) (r.rep k.toNat) (by rw [wm,RE];exact hz),rfl,q _ I.fresh⟩
end
end L2
namespace Att
open PySem PySem.W PySem.Calls PyProof.Rows
theorem E9{P:Params}{h:Sn}:∀(ns:List Int)(vs:List R7),WellAll P h vs (ns.map NL)->IntsAre vs ns:=by
 intro ns
 induction ns with
 | nil=>
  intro vs w;rw [Mp] at w;cases w;exact .nil
 | cons n ns ih=>
  intro vs w;rw [Lq] at w;cases w with
  | cons a b=>
   cases a;exact .cons _ _ (ih _ b)
theorem Fb{l:OpenLaw}{n:Nat}(hn:l.most=some n){P:Params}{h:Sn}{args:List WData}{vals:List R7}
 (hpre:l.row.toRowW.claim.pre args=true)(hwl:WellAll P h vals args):
 ∃a vs ns,vals=[L8 a]/\args=[Pe (ns.map NL)]/\h.get? a=some {cls:= .type "list",data:= .seq vs.toArray}/\IntsAre vs ns/\ns.length<=n:=by
 have hsh:WShape.hasAll [] args [.list .int]=true:=(pre_splitW hpre).1;have hc:l.pre.holds [] {args:=args}=true:=(pre_splitW hpre).2;obtain⟨d,r,rfl,h1,h2⟩:=hasAllW_cons hsh;obtain rfl:=hasAllW_nil h2;obtain⟨xs,rfl,h3⟩:=hasW_list h1;obtain⟨ns,rfl⟩:=items_int h3;have hlen:ns.length<=n:=by
  unfold OpenLaw.pre at hc;have h4:(WTm.not (.lt (.lit (.int (n:Int))) (.len (.arg 0)))).holds [] {args:=[.list (ns.map .int)]}=true:=by
   have h4:=(holds_andW hc).1;rw [hn] at h4;exact h4
  have h5:=condW_of h4 (w_not (w_lt w_lit (w_len_list (w_arg rfl))));rw [Lm] at h5;refine Pl λq=>?_;have q':(n:Int) < ((ns.length:Nat):Int):=R0
  first
   | (rw [decide_eq_true q'] at h5;exact absurd h5 RZ)
   | (simp at h5;omega)
 cases hwl with
 | cons w1 w2=>
  cases w2;cases w1 with
  | list ho hall=>exact⟨_,_,ns,rfl,rfl,ho,E9 ns _ hall,hlen⟩
theorem Fc(l:OpenLaw)(args:List WData):l.row.toRowW.claim.post args (.bool true) args=true:=
 postW_of (r:=l.row.toRowW) (X:=(true==true))
  (show WShape.has [] (.bool true) .bool=true by first | rfl | decide | simp [WShape.has,WShape.arms,WShape.armsAll])
  (show(WTm.eq .res (.lit (.bool true))).value [] {args:=args,res:=some (.bool true),after:=args}=some (.bool (true==true)) from w_eq_bool (w_res rfl) w_lit) rfl
end Att
namespace L2
open PySem PySem.Spec PyProof.Rows
theorem wq:∀{vs:List R7}{ns:List Int},IntsAre vs ns->aA (ns.map V.int) vs
 | _,_,.nil=>.nil
 | _,_,.cons n t h=>.cons ⟨t,rfl⟩ (wq h)
def l3(H:Hp):Prop:=∀b,H b=none\/∃o xs,H b=some (.frz o (.lst xs))
theorem Fd{P:Sk}{w:Sm}{K:Ll}{mg mb:Str->Option R7}{CX:dR}{k:Nat}{fa a:R8}{fd:Sj}{x:Str}{sp:Sp}{s₁:R9}{vs:List R7}{ns:List Int}
 (KX:K.In s₁.heap)(hns:s₁.heap.Ns So mg)(hb:s₁.heap.Ns builtinsNs mb)(hbb:∀x:Str,x≠"__name__"->mb x=Sw x)(hlim:s₁.heap.NoLimit)(hg:s₁.gens=#[])
 (ha:s₁.heap.get? a=some {cls:= .type "list",data:= .seq vs.toArray})(hi:IntsAre vs ns)(hl:ns.length<=Sb)(hr:br k callerA)
 (F:∀base:Sn,K.In base->base.Ns So mg->aF P w K mg base CX k fa fd [x] sp)(hbind:∀(s:R9) (u:R7),BindsTo s fd ⟨[u],[]⟩ [(x,u)])
 (hsp:∀H:Hp,l3 H->aN K H a (ns.map V.int)->sp [.ref a] H (λv _=>v= .bl true) λ_ _ _=>False)
 (hCX:∀H e s',CX [] H s₁ (λ_ _ _=>False) e s'->False):
 Tc (Si P w) callerA (.call (.ref fa) ⟨[.ref a],[]⟩) (λr s'=>r= .ok (.ret (.bool true))/\OldK s₁.heap s'.heap/\s'.os=s₁.os/\Tn s'.gens) s₁:=by
 have rv:=wq hi;have lenV:=hi.length;have core:∀H:Hp,l3 H->aN K H a (ns.map V.int)->bL P w H s₁.heap->(∀b,H b≠none->b=a)->(H a≠none->K.lookup a=none)->
  Tc (Si P w) callerA (.call (.ref fa) ⟨[.ref a],[]⟩) (λr s'=>r= .ok (.ret (.bool true))/\OldK s₁.heap s'.heap/\s'.os=s₁.os/\Tn s'.gens) s₁:=by
  intro H hO hS hok hA hK;have base_of:∀{b:R8}{o:Obj},s₁.heap.get? b=some o->H b=none->(gK s₁.heap H).get? b=some o:=λe n=>DL e n;have noA:∀{b:R8}{o:Obj}{es:Array S9}{ep:Nat},s₁.heap.get? b=some o->o.data= .dict es ep->H b=none:=λ{b o es ep} e d=>by
   cases q:H b with
   | none=>rfl
   | some u=>
    have e':b=a:=hA b (by rw [q];simp);subst e';rw [ha] at e;cases e;have d':Data.seq vs.toArray _=Data.dict es ep:=d;cases d'
  have nsK:∀{b:R8}{m:Str->Option R7},s₁.heap.Ns b m->(gK s₁.heap H).Ns b m:=λ{b m} ⟨o,es,ep,e,d,r⟩=>⟨o,es,ep,base_of e (noA e d),d,r⟩;have hKb:K.In (gK s₁.heap H):=λb o e=>base_of (KX b o e) (by
   cases q:H b with
   | none=>rfl
   | some u=>
    have e':b=a:=hA b (by rw [q];simp);subst e';rw [hK (by rw [q];simp)] at e;cases e)
  have hM:Mod K mg (gK s₁.heap H):=⟨hKb,nsK hns,⟨mb,nsK hb,hbb⟩,let ⟨mc,h1,h2⟩:=hlim;⟨mc,nsK h1,h2⟩⟩;have e0:gr P w K mg (gK s₁.heap H) callerA [] s₁ H:=⟨rfl,hM,λb o e=>DM e,RD (DK _ _),trivial,λb hb=>absurd (show b∈([]:List R8) from hb) R5,hok,.of_eq hg⟩;refine Tt ((F _ hKb (nsK hns)).run callerA [] s₁ H ⟨[.ref a],[]⟩ [.ref a] [.ref a] _ _ hr e0 (hbind s₁ (.ref a)) (.cons rfl .nil) (hsp H hO hS)) λr s' h=>?_;cases r with
  | error e=>exact(hCX H e s' h).elim
  | ok fl=>
   cases fl with
   | next=>exact MP h
   | brk=>exact MP h
   | cont=>exact MP h
   | ret u=>
    obtain⟨v,H',os,bare,un,hok',r',q⟩:=h;have q':v= .bl true:=q;subst q';obtain rfl:u=NI true:=r';refine⟨rfl,OldK.of_keep λb o e=>?_,os,bare⟩;cases q:H b with
    | none=>exact un.keep b o e q (by intro z;exact absurd (show b∈([]:List R8) from z) R5) R5
    | some u=>
     rcases hO b with z | ⟨ob,xs,z⟩
     ·rw [q] at z;cases z
     ·have z2:=un.frzs b ob _ z;obtain⟨e1,_⟩:=hok b _ z;obtain⟨e2,_⟩:=hok' b _ z2;rw [e] at e1;cases e1;exact e2
 cases hk:K.lookup a with
 | some o=>
  have e:=KX a o hk;rw [ha] at e;cases e;refine core (λ_=>none) (λ_=>.inl rfl) (.inr ⟨_,vs.toArray,_,hk,rfl,rfl,rfl,by rw [Lw,lenV];exact hl,by simpa using rv⟩) (λb u z=>by have z':(none:Option HO)=some u:=z;cases z') (λb z=>absurd rfl z) λz=>absurd rfl z
 | none=>
  refine core (λb=>if b=a then some (.frz {cls:= .type "list",data:= .seq vs.toArray} (.lst (ns.map V.int))) else none) (λb=>?_) (.inl (.inr ⟨{cls:= .type "list",data:= .seq vs.toArray},R3 rfl⟩)) (λb u z=>?_) (λb z=>?_) λ_=>hk
  ·by_cases hb:b=a
   ·exact .inr ⟨_,_,R3 hb⟩
   ·exact .inl (R1 hb)
  ·by_cases hb:b=a
   ·have z':=(R3 hb).symm.trans z;cases z';subst hb;exact⟨ha,by rw [Lm];exact hl,vs,_,rv,ha⟩
   ·have z':=(R1 hb).symm.trans z;cases z'
  ·by_cases hb:b=a
   ·exact hb
   ·exact absurd (R1 hb) z
abbrev KOf{K:Ll}{h:Sn}(_:K.In h):Ll:=K
def inClass(s:Sq)(j:Nat):Sq:=match s with
 | .ClassDef _ _ _ body _ _ _ _ _ _ _=>body.getD j (.Pass ⟨0,0,0,0⟩)
 | _=>.Pass ⟨0,0,0,0⟩
def gu(s:Sq):Arguments:=match s with
 | .FunctionDef _ a _ _ _ _ _ _ _ _=>a
 | _=>{posonlyargs:=[],args:=[],vararg:=none,kwonlyargs:=[],kw_defaults:=[],kwarg:=none,defaults:=[]}
def eX(s:Sq):List Sq:=match s with
 | .FunctionDef _ _ b _ _ _ _ _ _ _=>b
 | _=>[]
def av(s:Sq):SH:=match s with
 | .FunctionDef _ _ _ _ _ _ sc _ _ _=>sc
 | _=>{kind:= .function,names:=[],isGenerator:=false,isCoroutine:=false}
abbrev CX0:dR:=λ_ _ _ _ _ _=>False
abbrev E0:XK:=λ_ _ _=>False
theorem wt{X:Cx}:kj CX0 X E0:=λ_ _ _ _ _ _ _ h=>h.elim
structure eY (K:Ll) (x qual:Str) (st:Sq) (f:R8) (fd:Sj):Prop where
 ex:∃(oc:R7)(od:Option R8)(kV doc pm:R7)(an:Option R8)(cdv ct:R7)(osl:Array (Option R7)),
  fd=MW x qual (gu st) (eX st) (av st) .none kV doc pm an cdv ct/\K.lookup f=some ⟨oc,od,.func fd,osl⟩/\Od K cdv qual=true
 kp:Nl K (.ref f)=true
section
variable {P:Sk} {w:Sm} {K:Ll} {mg:Str->Option R7} {base:Sn}
theorem eY.ok{x qual:Str}{st:Sq}{f:R8}{fd:Sj}{N ps:List Str}{k:Nat}{sp:Sp}(F:eY K x qual st f fd)(S:aS N ps (av st))(len:∀vs H Q E,sp vs H Q E->vs.length=ps.length)
 (hbody:∀(cdv:R7) (A:Ss) (outer:List Env) (s:R9) (H:Hp) (vs:List V) (Q:VK) (E:XK),br k (A.deeper (Te qual (av st) s.heap.objs.size f cdv))->sp vs H Q E->
   ∃t,bJ (gN CX0 P w K mg base N qual (av st) f cdv A outer s H E).nox (eX st) t/\t {nx:=λ_ H'=>Q .non H',rt:=Q} (start N vs) H):aF P w K mg base CX0 (k+1) f fd ps sp:=by
 obtain⟨oc,od,kV,doc,pm,an,cdv,ct,osl,rfl,lk,hcd⟩:=F.ex;refine ED lk hcd S len λA outer s H vs Q E hr hsp=>?_;obtain⟨t,h,q⟩:=hbody cdv A outer s H vs Q E hr hsp;exact⟨t,h.nox,q⟩
theorem eY.binds{x qual:Str}{st:Sq}{f:R8}{fd:Sj}{ps:List Str}(F:eY K x qual st f fd)
 (h:∀(kV doc pm:R7) (an:Option R8) (cdv ct:R7) (us:List R7),us.length=ps.length->bindArgs (MW x qual (gu st) (eX st) (av st) .none kV doc pm an cdv ct) ⟨us,[]⟩=pure (ps.zip us)):eF K fd ps []:=by
 obtain⟨oc,od,kV,doc,pm,an,cdv,ct,osl,rfl,lk,hcd⟩:=F.ex;exact .all (h kV doc pm an cdv ct)
theorem wu{x qual:Str}{st:Sq}{f:R8}{oc:R7}{od an:Option R8}{osl:Array (Option R7)}{kV doc pm cdv ct:R7}(l:K.lookup f=some ⟨oc,od,.func (MW x qual (gu st) (eX st) (av st) .none kV doc pm an cdv ct),osl⟩)
 (c:Od K cdv qual=true)(k:Nl K (.ref f)=true):eY K x qual st f (MW x qual (gu st) (eX st) (av st) .none kV doc pm an cdv ct):=⟨⟨oc,od,kV,doc,pm,an,cdv,ct,osl,rfl,l,c⟩,k⟩
end
section
variable {X:Cx}
theorem pv(i:Nat){x:Str}{pos:Pos}(hN:X.N[i]?=some x:=by rfl)(hv:jZ X.env.scope x:=by first | exact P8 rfl | exact OI (P8 rfl) | exact OI (OI rfl))(hd:(x==("__debug__":Str))=false:=by decide)
 (hcd:(x==("__classdict__":Str))=false:=by decide):PE X (.Name x pos) (c7 i):=oI hN hv hd hcd
end
def ao(H H':Hp):Prop:=∀b o,H b=some o->H' b=some o
theorem ao.refl(H:Hp):ao H H:=λ_ _ h=>h
theorem ao.trans{H H1 H2:Hp}(a:ao H H1)(b:ao H1 H2):ao H H2:=λc o h=>b c o (a c o h)
theorem Fe(a b:Int):iN (.int a) (.int b)=true:=rfl
theorem Ff(a b:Str):iN (.str a) (.str b)=true:=rfl
theorem Fg(a b:Bool):iN (.bl a) (.bl b)=true:=rfl
theorem Fh(b:Int):iN .non (.int b)=true:=rfl
theorem Fi(b:Int):iN (.int b) .non=true:=rfl
def eG(env:Env)(names:List (Str×SM))(cs:List (Str×R8)):List (Str×R8):=
 names.foldl (λcs p=>if (p.2==ME)=true then(p.1,(env.cells.lookup p.1).getD 0)::cs else cs) cs
theorem wx{scope:SH}{env:Env}(h:∀y∈scope.names,y.2= .free->∃c,env.cells.lookup y.1=some c):closureFor scope env=pure (eG env scope.names []):=by
 unfold closureFor;have key:∀(l:List (Str×SM))(cs:List (Str×R8)),(∀y∈l,y.2= .free->∃c,env.cells.lookup y.1=some c)->
  (forIn l cs λ(x:Str×SM) (r:List (Str×R8))=>(if (x.2==ME)=true then do let a<-cellOf env x.1;pure (NM ((x.1,a)::r)) else pure (NM r):Sem (ForInStep (List (Str×R8)))))=pure (eG env l cs):=by
  intro l
  induction l with
  | nil=>intro cs _;rfl
  | cons p r ih=>
   intro cs hl;rw [Q3];by_cases hk:(p.2==ME)=true
   ·obtain⟨c,hc⟩:=hl p L9 (by simpa using hk);rw [R3 hk];have e:cellOf env p.1=pure c:=by unfold cellOf;rw [hc]
    rw [e];simp only [pure_bind];rw [ih _ λy hy=>hl y (L0 _ hy)];unfold eG;rw [Nh,R3 hk,hc];rfl
   ·rw [R1 hk];simp only [pure_bind];rw [ih _ λy hy=>hl y (L0 _ hy)];unfold eG;rw [Nh,R1 hk]
 have:=key scope.names [] h;simp only [bind_pure];exact this
theorem pz{env:Env}:∀(l:List (Str×SM))(cs:List (Str×R8)){x:Str}{c:R8},(∀y∈l,y.2= .free->∃c,env.cells.lookup y.1=some c)->(∀y d,cs.lookup y=some d->env.cells.lookup y=some d)->
 (eG env l cs).lookup x=some c->env.cells.lookup x=some c
 | [],cs,x,c,_,hc,h=>hc x c h
 | p::r,cs,x,c,hl,hc,h=>by
  unfold eG at h;rw [Nh] at h;by_cases hk:(p.2==ME)=true
  ·rw [R3 hk] at h;refine pz r _ (λy hy=>hl y (L0 _ hy)) (λy d e=>?_) h;obtain⟨a,ha⟩:=hl p L9 (by simpa using hk);rw [L4] at e;cases hx:y==p.1 with
   | true=>
    rw [hx] at e;have hy:y=p.1:=by simpa using hx
    rw [ha] at e;cases e;rw [hy];exact ha
   | false=>rw [hx] at e;exact hc y d e
  ·rw [R1 hk] at h;exact pz r cs (λy hy=>hl y (L0 _ hy)) hc h
theorem pA{env:Env}:∀(l:List (Str×SM))(cs:List (Str×R8)){x:Str},(∃c,cs.lookup x=some c)->∃c,(eG env l cs).lookup x=some c
 | [],cs,x,h=>h
 | p::r,cs,x,⟨c,h⟩=>by
  unfold eG;rw [Nh];by_cases hk:(p.2==ME)=true
  ·rw [R3 hk];refine pA r _ ?_;rw [L4];cases hx:x==p.1 with
   | true=>exact⟨_,rfl⟩
   | false=>exact⟨c,h⟩
  ·rw [R1 hk];exact pA r cs ⟨c,h⟩
theorem pB{env:Env}:∀(l:List (Str×SM))(cs:List (Str×R8)){x:Str},(x,ME)∈l->∃c,(eG env l cs).lookup x=some c
 | [],_,_,h=>by simp at h
 | p::r,cs,x,h=>by
  unfold eG;rw [Nh];rcases LF.mp h with e | e
  ·subst e;rw [R3 (by rfl)];exact pA r _ ⟨(env.cells.lookup x).getD 0,by rw [L4];simp⟩
  ·exact pB r _ e
theorem Fj{env:Env}{scope:SH}{x:Str}(h:(relabel scope env).names.lookup x=some .cell\/(relabel scope env).names.lookup x=some .free):scope.names.lookup x=some .free\/scope.names.lookup x=some .cell:=by
 have key:∀(l:List (Str×SM)),
  ((l.map λ(n,k)=>if (k==ME && env.scope.kind== .function && env.kindOf n==some .cell) then(n,Ox) else(n,k)).lookup x=some .cell\/
  (l.map λ(n,k)=>if (k==ME && env.scope.kind== .function && env.kindOf n==some .cell) then(n,Ox) else(n,k)).lookup x=some .free)->l.lookup x=some .free\/l.lookup x=some .cell:=by
  intro l
  induction l with
  | nil=>intro h;simp at h
  | cons p r ih=>
   obtain⟨n,k⟩:=p;intro h;rw [Lq] at h;rw [L4];by_cases hx:x=n
   ·subst hx;rw [beq_self_eq_true];by_cases hq:(k==ME && env.scope.kind== .function && env.kindOf x==some .cell)=true
    ·have:k= .free:=by simp only [Mf,beq_iff_eq] at hq;exact hq.1.1
     subst this;exact .inl rfl
    ·simp only [R1 hq,L4,beq_self_eq_true] at h;exact h.symm
   ·have hb:(x==n)=false:=by simpa using hx
    rw [hb];refine ih ?_;by_cases hq:(k==ME && env.scope.kind== .function && env.kindOf n==some .cell)=true
    ·simpa only [R3 hq,L4,hb] using h
    ·simpa only [R1 hq,L4,hb] using h
 exact key scope.names h
theorem Fl{env:Env}{scope:SH}{x:Str}(h:scope.names.lookup x=some .cell\/scope.names.lookup x=some .free):(relabel scope env).names.lookup x=some .cell\/(relabel scope env).names.lookup x=some .free:=by
 have key:∀(l:List (Str×SM)),l.lookup x=some .cell\/l.lookup x=some .free->
  ((l.map λ(n,k)=>if (k==ME && env.scope.kind== .function && env.kindOf n==some .cell) then(n,Ox) else(n,k)).lookup x=some .cell\/
  (l.map λ(n,k)=>if (k==ME && env.scope.kind== .function && env.kindOf n==some .cell) then(n,Ox) else(n,k)).lookup x=some .free):=by
  intro l
  induction l with
  | nil=>intro h;simp at h
  | cons p r ih=>
   obtain⟨n,k⟩:=p;intro h;rw [Lq];by_cases hx:x=n
   ·subst hx;rw [L4,beq_self_eq_true] at h;by_cases hq:(k==ME && env.scope.kind== .function && env.kindOf x==some .cell)=true
    ·left;simp only [R3 hq,L4,beq_self_eq_true]
    ·simp only [R1 hq,L4,beq_self_eq_true];exact h
   ·have hb:(x==n)=false:=by simpa using hx
    rw [L4,hb] at h;by_cases hq:(k==ME && env.scope.kind== .function && env.kindOf n==some .cell)=true
    ·simpa only [R3 hq,L4,hb] using ih h
    ·simpa only [R1 hq,L4,hb] using ih h
 exact key scope.names h
structure aY (sc:SH) (N N':List Str) (k:Nat) (fr:List Nat) (scope:SH):Prop where
 kind:scope.kind= .function
 cell:∀y∈scope.names,y.2= .cell->scope.names.lookup y.1=some .cell
 names:∀y∈scope.names,y.2= .local->scope.names.lookup y.1=some .local
 nd:N'.Nodup
 slot:fr.map (λj=>N[j]?)=(N'.drop k).map some
 frees:∀x∈N'.drop k,scope.names.lookup x=some .free
 outer:∀y∈scope.names,y.2= .free->sc.names.lookup y.1=some .cell\/sc.names.lookup y.1=some .free
 outer':∀x∈N'.drop k,sc.names.lookup x=some .cell\/sc.names.lookup x=some .free
 len:N'.length=k+fr.length
theorem l4:∀(l:List (Str×SM)){n:Nat}{a:List (Str×R8)}{x:Str}{c:R8},(SI n l a).lookup x=some c->n<=c\/a.lookup x=some c
 | [],_,_,_,_,h=>.inr h
 | (y,k)::r,n,a,x,c,h=>by
  unfold SI at h;split at h
  ·rcases l4 r h with z | z
   ·exact .inl R0
   ·rw [L4] at z;split at z
    ·exact .inl (by cases z;exact Lr _)
    ·exact .inr z
  ·exact l4 r h
theorem pC:∀(l:List (Str×SM)){n:Nat}{a:List (Str×R8)}{x:Str}{c:R8},l.lookup x=some .cell->(SI n l a).lookup x=some c->n<=c
 | [],_,_,_,_,e,_=>nomatch e
 | (y,k)::r,n,a,x,c,e,h=>by
  unfold SI at h;rw [L4] at e;cases hx:x==y with
  | true=>
   rw [hx] at e;cases e;have h:NQ x (SI (n+1) r ((y,n)::a))=some c:=h;rcases l4 r h with z | z
   ·exact O9 z
   ·rw [L4,hx] at z;cases z;exact Lr _
  | false=>
   rw [hx] at e;split at h
   ·exact O9 (pC r e h)
   ·exact pC r e h
theorem pE:∀(l:List (Str×SM)){n:Nat}{a:List (Str×R8)}{x:Str},(∀y∈l,y.2= .cell->y.1≠x)->(SI n l a).lookup x=a.lookup x
 | [],_,_,_,_=>rfl
 | (y,k)::r,n,a,x,h=>by
  unfold SI;split
  ·rename_i hk;rw [pE r λz hz=>h z (L0 _ hz),L4];have:(x==y)=false:=by simpa using Ne.symm (h (y,k) L9 (by simpa using hk))
   rw [this]
  ·exact pE r λz hz=>h z (L0 _ hz)
theorem pF:∀(l:List (Str×SM)){n:Nat}{a:List (Str×R8)},(∀x c,a.lookup x=some c->c < n)->(∀x y c,a.lookup x=some c->a.lookup y=some c->x=y)->∀x y c,(SI n l a).lookup x=some c->(SI n l a).lookup y=some c->x=y
 | [],_,_,_,h=>h
 | (z,k)::r,n,a,hl,hi=>by
  unfold SI;split
  ·have one:∀x c,((z,n)::a).lookup x=some c->x=z/\c=n\/c < n/\a.lookup x=some c:=λx c e=>by
    rw [L4] at e;cases hx:x==z with
    | true=>rw [hx] at e;cases e;exact .inl ⟨by simpa using hx,rfl⟩
    | false=>rw [hx] at e;exact .inr ⟨hl x c e,e⟩
   refine pF r (λx c e=>?_) λx y c e1 e2=>?_
   ·rcases one x c e with⟨_,z⟩ | ⟨z,_⟩
    ·rw [z];exact Pk _
    ·exact Pa z
   ·rcases one x c e1 with⟨a1,b1⟩ | ⟨a1,b1⟩ <;> rcases one y c e2 with⟨a2,b2⟩ | ⟨a2,b2⟩
    ·rw [a1,a2]
    ·omega
    ·omega
    ·exact hi x y c b1 b2
  ·exact pF r hl hi
theorem pG:∀(l:List (Str×SM)){h:Sn}{a:List (Str×R8)},(∀x c,a.lookup x=some c->∃v,h.IsCell c v)->∀x c,(SI h.objs.size l a).lookup x=some c->∃v,(pushCells h l).IsCell c v
 | [],_,_,h=>h
 | (z,k)::r,h,a,ha=>by
  unfold SI pushCells;split
  ·have:=pG r (h:=h.push {cls:= .type "cell",data:= .cell none}) (a:=(z,h.objs.size)::a) λx c e=>by
    rw [L4] at e;split at e
    ·cases e;exact⟨none,_,LU _ rfl,rfl⟩
    ·obtain⟨v,q⟩:=ha x c e;exact⟨v,q.keeps λb o e=>Lo _ e⟩
   rwa [Oc] at this
  ·exact pG r ha
def l5(X:Cx)(scope:SH)(C:R8):List (Str×R8):=SI (C+1) scope.names (eG X.env scope.names [])
def bh(X:Cx)(scope:SH)(N':List Str)(fp:List R8)(C:R8)(s:R9)(H:Hp):Cx where
 prog:=X.prog
 w:=X.w
 K:=X.K
 mg:=X.mg
 base:=X.base
 A:=X.A
 N:=N'
 s₀:=s
 H₀:=H
 env:=compEnvC scope (l5 X scope C) C X.env
 outer:=X.stack
 stack:=X.stack
 ex:=fp
 fn:=λx=>scope.names.lookup x==some .cell
 calm:=X.calm
 pn:=[]
 xe:=λ_ _=>False
def bF(k:Nat)(fr:List Nat)(σ:St):St:=LC k none++fr.map λj=>(σ[j]?).join
def iP(σ σ':St):Prop:=σ.length=σ'.length/\∀(i:Nat) v,σ[i]?=some (some v)->σ'[i]?=some (some v)
section
variable {X:Cx} {TR:List (R8×Obj)} {σ:St} {H:Hp} {s:R9} {scope:SH} {N':List Str} {k:Nat} {fr:List Nat} {fp:List R8}
theorem pH(S:aY X.env.scope X.N N' k fr scope)(I:ae X TR σ H s):∀x c,(eG X.env scope.names []).lookup x=some c->X.env.cells.lookup x=some c:=λx c e=>pz scope.names [] (λy hy e=>I.ok.has y.1 (S.outer y hy e)) (λ_ _ z=>by simp at z) e
theorem wy(S:aY X.env.scope X.N N' k fr scope)(I:ae X TR σ H s){x:Str}{c:R8}(e:(l5 X scope s.heap.objs.size).lookup x=some c):s.heap.objs.size < c\/X.env.cells.lookup x=some c:=
 (l4 _ e).imp (λz=>z) λz=>pH S I x c z
theorem Fm(S:aY X.env.scope X.N N' k fr scope)(I:ae X TR σ H s)(hf:∀b∈fp,fH X TR H b)(hlt:∀b∈fp,b < s.heap.objs.size):
 (bh X scope N' fp s.heap.objs.size s H).Ok:=by
 have hcl:=pH S I;refine⟨I.ok.mod,S.kind,I.ok.glob,I.ok.blt,Lr _,pF _ (λx c e=>?_) (λx y c h1 h2=>I.ok.inj x y c (hcl x c h1) (hcl y c h2)),λx hx=>N8.mp (Oo _ _ _ ?_),λx c h e=>O9 (pC _ (eq_of_beq h) e),I.ok.hd,I.ok.frames,.inl rfl,λb hb=>⟨LV (hlt b hb),λx c e=>?_⟩,
  I.bs,LY I.ok.bsz I.sz,λb o e hb=>?_,λb hb hb'=>?_,I.stack,I.stkFree⟩
 ·obtain⟨v,o,ho,_⟩:=I.cell x c (hcl x c e);exact Pa (LJ ho)
 ·rcases Fj hx with z | z
  ·exact .inr (N8.mpr (pB _ _ (M3 z)))
  ·exact .inl z
 ·rcases wy S I e with z | z
  ·exact λq=>absurd (hlt b hb) (by rw [<-q];exact Nat.lt_asymm z)
  ·exact(hf b hb).2.2.2.2.1 x c z
 ·rcases(hf b hb).2.2.2.1 with z | z
  ·exact I.ok.noex b o e z
  ·exact absurd (Md (LJ e) (LY I.ok.bsz z)) (Nj _)
 ·rcases LF.mp (I.stkSub b hb') with z | z
  ·exact(hf b hb).2.1 z
  ·exact(hf b hb).2.2.1 z
theorem Fo(S:aY X.env.scope X.N N' k fr scope)(I:ae X TR σ H s)(hf:∀b∈fp,fH X TR H b)(hlt:∀b∈fp,b < s.heap.objs.size){o:Obj}{h':Sn}(e':h'=pushCells (s.heap.push o) scope.names)
 (hn:h'.Ns s.heap.objs.size (λ_=>none))(hk:∀b o,s.heap.get? b=some o->h'.get? b=some o):
 ae (bh X scope N' fp s.heap.objs.size s H) [] (bF k fr σ) H {s with heap:=h'}:=by
 have hcl:=pH S I;refine⟨Fm S I hf hlt,rfl,I.bare,Un.kept hk,⟨_,hn,λi x v h1 h2 h3=>?_⟩,λx c e=>?_,I.hok.fresh (Lr _),λx c e=>?_,λp hp=>absurd hp (by simp [bh]),I.hok.kept hk,?_⟩
 ·have hi:k<=i:=by
   rcases NS i k with z | z
   ·exfalso;unfold bF at h2;rw [MH (by simpa using z),NB,R3 z] at h2;cases h2
   ·exact z
  have h2':(fr.map λj=>(σ[j]?).join)[i - k]?=some (some v):=by
   unfold bF at h2;rw [MR (by simpa using hi)] at h2;simpa using h2
  have h1':(N'.drop k)[i - k]?=some x:=by
   rw [List.getElem?_drop,Nat.add_sub_cancel' hi];exact h1
  have hmem:x∈N'.drop k:=LQ h1';have e2:(fr.map λj=>X.N[j]?)[i - k]?=some (some x):=by
   rw [S.slot,LD,h1'];rfl
  obtain⟨j,hj,ej⟩:∃j,fr[i - k]?=some j/\X.N[j]?=some x:=by
   rw [LD] at e2;cases e:fr[i - k]? with
   | none=>rw [e] at e2;cases e2
   | some j=>rw [e] at e2;exact⟨j,rfl,Mg e2⟩
  have hv:σ[j]?=some (some v):=by
   rw [LD,hj] at h2';have h3':(σ[j]?).join=some v:=Mg h2';cases e:σ[j]? with
   | none=>rw [e] at h3';cases h3'
   | some o=>rw [e] at h3';rw [show o=some v from h3']
  obtain⟨m,hn0,hl⟩:=I.loc;have ho:=S.outer' x hmem;obtain⟨u,ru,lk⟩:=hl j x v ej hv (.inr ho);refine⟨u,ru,.inr ⟨Fl (.inr (S.frees x hmem)),?_⟩⟩;rcases lk with⟨z,_⟩ | ⟨_,c,hc,hx⟩
  ·exfalso;rcases ho with ho | ho
   ·exact absurd (z.symm.trans ho) R5
   ·exact absurd (z.symm.trans ho) R5
  ·obtain⟨c',hc'⟩:=pB (env:=X.env) scope.names [] (M3 (S.frees x hmem));have:=hcl x c' hc';rw [hc] at this;cases this;obtain⟨o,ho,hd⟩:=hx;exact⟨c,(pE _ λy hy ey ex=>by have q:=S.cell y hy ey;rw [ex,S.frees x hmem] at q;cases q).trans hc',o,hk c o ho,hd⟩
 ·subst e';have:=pG scope.names (h:=s.heap.push o) (a:=eG X.env scope.names []) (λx c e=>by
   obtain⟨v,q⟩:=I.cell x c (hcl x c e);exact⟨v,q.keeps λb o e=>Lo _ e⟩) x c
  rw [Oc] at this;exact this e
 ·rcases wy S I e with z | z
  ·exact I.hok.fresh (Nz z)
  ·exact I.freeC x c z
 ·unfold bF;show _=N'.length;rw [LN,Nb,Lm,S.len]
end
section
variable {prog:Sk} {w:Sm} {A:Ss} {E:R7->R9->Prop} {R:Result->R9->Prop} {s:R9}
theorem Fp{elt target iter:Sd}{ifs:List Sd}{scope:SH}{pos:Pos}{it acc:R7}{env:Env}(I:Nat->R9->Prop)
 (turn:∀n s,I n s->Sf (Si prog w) A (pyNext it) (λr s₁=>match r with
  | none=>R (.ok .next) s₁
  | some v=>Sf (Si prog w) A (Ts target it v) (λ_ s₁'=>Sf (Si prog w) A (assign target env v) (λ_ s₂=>
   Sf (Si prog w) A (forIn ifs true λc r=>if r=true then do let ok<-isTrue c env (eval c env);pure (NM ok) else pure (NM r)) (λok s₃=>
    if ok=true then Sf (Si prog w) A (eval elt env) (λx s₄=>
     Sf (Si prog w) A (call (.builtin "list.append") [acc,x]) (λ_ s₅=>∃m,m < n/\I m s₅) (λ_ _=>False) s₄) (λ_ _=>False) s₃
    else ∃m,m < n/\I m s₃) (λ_ _=>False) s₂) (λ_ _=>False) s₁') (λ_ _=>False) s₁) (λ_ _=>False) s)
 (n:Nat)(h:I n s):
 Tc (Si prog w) A (.compLoop (.ListComp elt [⟨target,iter,ifs,0⟩] scope pos) 0 it acc env) R s:=by
 refine codeAny_loop rfl I (λn s hI=>?_) n h;show Sf _ A ((compTurn (.ListComp elt [⟨target,iter,ifs,0⟩] scope pos) 0 it acc env).onRaise (λx=>do noteFrame x env;theTreesLotGoes x)) _ _ s;refine wpAny_noted ?_;rw [compTurn_list];refine Sa (TB (Sa (Sz (turn n s hI) (λr s₁ h₁=>?_) λ_ _ h'=>h'.elim)));cases r with
 | none=>exact Sg h₁
 | some v=>
  refine Sa (Sz h₁ (λ_ s₁' h₁'=>?_) λ_ _ h'=>h'.elim);refine Sa (Sz h₁' (λ_ s₂ h₂=>Sa (Sz h₂ (λok s₃ h₃=>?_) λ_ _ h'=>h'.elim)) λ_ _ h'=>h'.elim);cases ok with
  | false=>exact Sg ⟨rfl,h₃⟩
  | true=>
   exact Sa (Sa (Sz h₃ (λx s₄ h₄=>Sa (Sz h₄ (λ_ s₅ h₅=>Sg (Sg ⟨rfl,h₅⟩)) λ_ _ h'=>h'.elim)) λ_ _ h'=>h'.elim))
end
def dj(X:Cx)(ifs:List Sd)(t:TT):Prop:=
 ∀(TR:List (R8×Obj))(s:R9)(σ:St)(H:Hp)(Q:Bool->Hp->Prop),ae X TR σ H s->t σ H Q->
  Sf (Si X.prog X.w) X.A (forIn ifs true λc r=>if r=true then do let ok<-isTrue c X.env (eval c X.env);pure (NM ok) else pure (NM r)) (TP X TR σ Q) X.xe s
def wz:TT:=λ_ H Q=>Q true H
theorem wA{X:Cx}:dj X [] wz:=λTR s σ H Q I h=>wpAny_tests_nil ⟨H,I,h⟩
theorem d4{X:Cx}{c:Sd}{t:TT}(h:PT X c t):dj X [c] t:=λTR s σ H Q I hq=>wpAny_tests_one (h TR s σ H Q I hq)
theorem bL.but{P:Sk}{w:Sm}{H:Hp}{h h':Sn}{C:R8}(x:bL P w H h)(hC:H C=none)(k:∀b o,b≠C->h.get? b=some o->h'.get? b=some o):bL P w H h':=λa o e=>by
 refine(x a o e).stay (λb u hb q=>k b u ?_ q) (λ_ q=>q) λ_ _ q=>q;intro z;subst z;rcases hb with z | z
 ·rw [<-z,hC] at e;cases e
 ·rw [hC] at z;cases z
theorem Fq{M:Model}{A:Ss}{E:R7->R9->Prop}{s:R9}{scope:SH}{g:R8}{cl:List (Str×R8)}{qual:Str}{e:Env}{Q:Env->R9->Prop}
 (hQ:∀h',h'=pushCells (s.heap.push {cls:= .type "dict",data:= .dict #[]}) scope.names->h'.Ns s.heap.objs.size (λ_=>none)->(∀b o,s.heap.get? b=some o->h'.get? b=some o)->
  Q (newEnv scope s.heap.objs.size g (SI (s.heap.objs.size+1) scope.names cl) qual none .none (some e) builtinsNs) {s with heap:=h'}):
 Sf M A (newFunctionEnv scope g cl [] qual none .none (some e)) Q E s:=by
 simp only [newFunctionEnv,Qy,if_true];refine Sa (wpAny_alloc (Sa (wpAny_layCells _ (λname kind cells=>by cases hkc:kind==Ox <;> simp [hkc]) _ _ _ _ ?_)));rw [show({s with heap:=s.heap.push {cls:= .type "dict",data:= .dict #[]}}:R9).heap.objs.size=s.heap.objs.size+1 from Oc ..];rw [Rf];exact Sa (Sg (Sg (hQ _ rfl ((Heap.Ns.new s.heap (.type "dict")).keeps (pushCells_keeps _ _)) λb o e=>pushCells_keeps _ _ b o (Lo _ e))))
def ia(wi:TI)(g:TG)(tc:TT)(te:TE)(k:Nat)(fr:List Nat):TE:=λσ H Q=>wi σ H λJ H1=>∀D,H1 D=none->∃W:Nat->Nat->Hp->Prop,(∃m,W 0 m (ak H1 D (.lst [])))/\∀i m H,W i m H->
 (J.stop i H/\Q (.ref D) H)\/(J.go i H/\∀x H',J.yld i H x H'->g x (bF k fr σ) H' λσ2 H2=>iP (bF k fr σ) σ2/\tc σ2 H2 λok H3=>
  if ok=true then te σ2 H3 λy H4=>∃ys,H4 D=some (.lst ys)/\ys.length < Sb/\∃m',m' < m/\W (i+1) m' (ak H4 D (.lst (ys++[y])))
  else ∃m',m' < m/\W (i+1) m' H3)
section
variable {X:Cx} {tg iter elt:Sd} {ifs:List Sd} {scope:SH} {N':List Str} {k:Nat} {fr:List Nat} {wi:TI} {g:TG} {tc:TT} {te:TE} {pos:Pos}
theorem wB{use:Option (R7->Sem Unit)}{Q':R7->R9->Prop}{TR:List (R8×Obj)}{s:R9}{σ:St}{H:Hp}{Q:VK}(hc:X.calm=true)(S:aY X.env.scope X.N N' k fr scope)(hi:PI X tg iter wi)
 (hg:∀fp C s H,PG (bh X scope N' fp C s H) tg g)(hf:∀fp C s H,dj (bh X scope N' fp C s H) ifs tc)(he:∀fp C s H,PE (bh X scope N' fp C s H) elt te)
 (I:ae X TR σ H s)(h:ia wi g tc te k fr σ H Q)
 (hQ:∀D C s' H',C≠X.env.locals->ae X TR σ H' s'->(∀h',N7 C s'.heap h'->ae X TR σ H' {s' with heap:=h'})->Q (.ref D) H'->(∃m,s'.heap.Ns C m)->X.env.locals < C->H' C=none/\(∀x c,X.env.cells.lookup x=some c->c≠C)/\(∀p∈X.pn++TR,p.1≠C)->compPost (Si X.prog X.w) X.A X.xe use Q' (.ref D) C (.ok .next) s'):
 Sf (Si X.prog X.w) X.A (eval iter X.env) (λx s₁=>Sf (Si X.prog X.w) X.A (pyIter x) (λit s₂=>Sf (Si X.prog X.w) X.A (newList []) (λacc s₃=>
  Sf (Si X.prog X.w) X.A (newFunctionEnv scope X.env.globals (eG X.env scope.names []) [] X.env.qual none .none (some X.env)) (λcenv s₄=>
   Tc (Si X.prog X.w) X.A (.compStart (.ListComp elt [⟨tg,iter,ifs,0⟩] scope pos) 0 it acc {cenv with scope:=relabel scope X.env}) (compPost (Si X.prog X.w) X.A X.xe use Q' acc cenv.locals) s₄) X.xe s₃) X.xe s₂) X.xe s₁) X.xe s:=by
 refine ax (hi TR s σ H _ I h) λv s1 h1=>ax h1 λitv s2 h2=>?_;obtain⟨it,fp,tn,J,H2,e,I2,T,st2,f2,wW⟩:=h2;subst e;refine SX ?_;have hD0:H2 s2.heap.objs.size=none:=I2.hok.fresh (Lr _);obtain⟨W,⟨m0,w0⟩,turn⟩:=wW _ hD0;generalize hD:s2.heap.objs.size=D at*;have I3:ae X TR σ (ak H2 D (.lst [])) {s2 with heap:=s2.heap.push {cls:= .type "list",dict:=none,data:= .seq ([]:List R7).toArray}}:=by
  have:=I2.lnew (ys:=[]) (its:=[]) (t':=s2.toks) .nil (Mb _);rw [hD] at this;exact this
 generalize hs3:({s2 with heap:=s2.heap.push {cls:= .type "list",dict:=none,data:= .seq ([]:List R7).toArray}}:R9)=s3 at*;have up23:∀b o,s2.heap.get? b=some o->s3.heap.get? b=some o:=λb o e=>by rw [<-hs3];exact Lo _ e
 have fpD:∀b∈fp,b≠D:=λb hb z=>by
  obtain⟨o,ho,_⟩:=T.obj _ _ st2 b hb;have:=LJ ho;rw [hD,z] at this;exact Nj _ this
 have f3:∀b∈fp,fH X TR (ak H2 D (.lst [])) b:=λb hb=>⟨by rw [aD (fpD b hb)];exact(f2 b hb).1,(f2 b hb).2⟩;have st3:tn 0 s3.heap:=T.keep _ _ _ st2 λb hb o e=>up23 b o e;have lt3:∀b∈fp,b < s3.heap.objs.size:=λb hb=>by obtain⟨o,ho,_⟩:=T.obj _ _ st3 b hb;exact LJ ho
 refine Fq λh₁ e₁ hns₁ up34=>?_;have I4:=Fo S I3 f3 lt3 e₁ hns₁ up34;have st4:tn 0 h₁:=T.keep _ _ _ st3 λb hb o e=>up34 b o e;generalize hX':bh X scope N' fp s3.heap.objs.size s3 (ak H2 D (.lst []))=X' at*;have hg':PG X' tg g:=by rw [<-hX'];exact hg _ _ _ _
 have hf':dj X' ifs tc:=by rw [<-hX'];exact hf _ _ _ _
 have he':PE X' elt te:=by rw [<-hX'];exact he _ _ _ _
 have eP:X'.prog=X.prog:=by rw [<-hX'];rfl
 have eW:X'.w=X.w:=by rw [<-hX'];rfl
 have eK:X'.K=X.K:=by rw [<-hX'];rfl
 have eA:X'.A=X.A:=by rw [<-hX'];rfl
 have eC:X'.calm=true:=by rw [<-hX'];exact hc
 have eE:X'.xe=λ_ _=>False:=by rw [<-hX'];rfl
 have eEnv:X'.env=compEnvC scope (l5 X scope s3.heap.objs.size) s3.heap.objs.size X.env:=by rw [<-hX'];rfl
 have fpx:∀{H':Hp},(∀b∈fp,H' b=none)->∀b∈fp,fH X' [] H' b:=λ{H'} hn b hb=>by
  refine⟨hn b hb,?_,?_,.inl ?_,?_,?_⟩
  ·rw [eEnv];exact LV (lt3 b hb)
  ·have:=I4.ok.exfs b (by rw [<-hX'];exact hb);exact this
  ·rw [<-hX'];exact hb
  ·have:=I4.ok.exf b (by rw [<-hX'];exact hb);exact this.2
  ·intro p hp;rw [<-hX'] at hp;simp [bh] at hp
 have fin:∀(s':R9)(H':Hp)(σ':St),ae X' [] σ' H' s'->Q (.ref D) H'->compPost (Si X.prog X.w) X.A X.xe use Q' (.ref D) s3.heap.objs.size (.ok .next) s':=λs' H' σ' J q=>by
  have un:Un (eT X.stack) fp (ak H2 D (.lst [])) H' s3.heap s'.heap:=by have:=J.base;rw [<-hX'] at this;exact this
  have jos:s'.os=s3.os:=by have:=J.os;rw [<-hX'] at this;exact this
  have hC:H' s3.heap.objs.size=none:=by have:=J.free;rw [eEnv] at this;exact this
  have hok':bL X.prog X.w H' s'.heap:=by have:=J.hok;rw [eP,eW] at this;exact this
  have fN:∀h',N7 s3.heap.objs.size s'.heap h'->ae X TR σ H' {s' with heap:=h'}:=λh' hs'=>by
   have un':Un (eT X.stack) fp (ak H2 D (.lst [])) H' s3.heap h':=
    ⟨λb o e n h1 h2=>hs'.extBut b o (LV (LJ e)) (un.keep b o e n h1 h2),λb o e n h1 h2=>by
     obtain⟨sl,z⟩:=un.slot b o e n h1 h2;exact⟨sl,hs'.extBut b _ (LV (LJ e)) z⟩,un.free,λb o e h2=>by
     obtain⟨o',z⟩:=un.there b o e h2;exact⟨o',hs'.extBut b o' (LV (LJ e)) z⟩,un.tups,un.frzs,un.tbls⟩
   exact ae.call' (s':={s' with heap:=h'}) I3 jos un' (hok'.but hC hs'.extBut) J.bare λb hb=>⟨(f3 b hb).2.2.2.1,(f3 b hb).2.1,(f3 b hb).2.2.2.2.1,(f3 b hb).2.2.2.2.2⟩
  have nsC:∃m,s'.heap.Ns s3.heap.objs.size m:=by
   obtain⟨m,hn,_⟩:=J.loc;rw [eEnv] at hn;exact⟨m,hn⟩
  exact hQ D s3.heap.objs.size s' H' (Ph I3.lt) (fN s'.heap (.refl ..)) fN q nsC I3.lt
   ⟨hC,λx c e=>by obtain⟨v,o,ho,_⟩:=I3.cell x c e;exact LV (LJ ho),λp hp=>LV (LJ (I3.pin p hp).1)⟩
 have loop:∀s4:R9,s4=({s3 with heap:=h₁}:R9)->
  Tc (Si X.prog X.w) X.A (.compLoop (.ListComp elt [⟨tg,iter,ifs,0⟩] scope pos) 0 (.ref it) (.ref D) X'.env) (compPost (Si X.prog X.w) X.A X.xe use Q' (.ref D) s3.heap.objs.size) s4:=by
  rintro s4 rfl;refine Fp (λn s'=>∃i H',ae X' [] (bF k fr σ) H' s'/\tn i s'.heap/\(∀b∈fp,H' b=none)/\W i n H') ?_ m0 ⟨0,_,I4,st4,λb hb=>(f3 b hb).1,w0⟩;rintro n s5 ⟨i,H5,I5,st5,fr5,w5⟩;rcases turn i n H5 w5 with⟨stop,qn⟩ | ⟨go,step⟩
  ·have:=T.done X' eP eW eK eC i [] s5 _ H5 (λ_ _=>False) I5 (fpx fr5) st5 stop;rw [eA] at this;refine ax this λr s6 ⟨hr,I6⟩=>?_;subst hr;exact fin s6 H5 _ I6 qn
  ·have:=T.item X' eP eW eK eC i [] s5 _ H5 (λ_ _=>False) I5 (fpx fr5) st5 go;rw [eA] at this;refine ax this λr s6 ⟨u,hr,h6⟩=>?_;subst hr;refine ax h6 λ_ s7 ⟨x,H7,I7,r7,y7,st7,fr7⟩=>?_;have I7':=I7.pinned (fpx fr7) (T.obj _ _ st7);have h8:=hg' _ s7 _ H7 x u _ I7' r7 (step x H7 y7);rw [eP,eW,eA,eE] at h8;refine ax h8 λ_ s8 ⟨σ8,H8,I8,kp,q8⟩=>?_;have h9:=hf' _ s8 σ8 H8 _ I8 q8;rw [eP,eW,eA,eE] at h9;have again:∀{s9:R9}{H9:Hp}{n':Nat},ae X' ([]++ke fp s7.heap) σ8 H9 s9->n' < n->W (i+1) n' H9->∃m,m < n/\∃i H',ae X' [] (bF k fr σ) H' s9/\tn i s9.heap/\(∀b∈fp,H' b=none)/\W i m H':=λ{s9 H9 n'} I9 hn' w9=>by
    refine⟨n',hn',i+1,H9,I9.unpinned.weak kp.1 kp.2,T.keep _ _ _ st7 λb hb o e=>(I9.pin (b,o) (L5 _ (L5 _ (lK hb e)))).1,λb hb=>?_,w9⟩;obtain⟨o,e,d⟩:=T.obj _ _ st7 b hb;exact(I9.pin (b,o) (L5 _ (L5 _ (lK hb e)))).2.1
   refine ax h9 λok s9 ⟨H9,I9,q9⟩=>?_;cases ok with
   | false=>
    rw [R1 Lx] at q9;obtain⟨m',hm',w9⟩:=q9;rw [R1 Lx];exact again I9 hm' w9
   | true=>
    rw [R3 rfl] at q9;rw [R3 rfl];have h10:=he' _ s9 σ8 H9 _ I9 q9;rw [eP,eW,eA,eE] at h10;refine ax h10 λy s10 ⟨yv,H10,I10,r10,ys,hys,hz,m',hm',w10⟩=>?_;have h11:=wk (X:=X') _ s10 σ8 H10 (.ref D) [yv] (.ref D) [y] (λ_ H'=>W (i+1) m' H') I10 rfl (.cons r10 .nil) ⟨D,ys,yv,rfl,rfl,hys,hz,w10⟩;rw [eP,eW,eA,eE] at h11;exact ax h11 λ_ s11 uu62=>by obtain⟨_,H11,I11,_,q11⟩:=uu62;exact again I11 hm' q11
 have hE:({newEnv scope s3.heap.objs.size X.env.globals (l5 X scope s3.heap.objs.size) X.env.qual none .none (some X.env) builtinsNs with scope:=relabel scope X.env}:Env)=X'.env:=by
  rw [eEnv];rfl
 have goal:=codeAny_compStart_list (elt:=elt) (target:=tg) (iter:=iter) (ifs:=ifs) (rest:=[]) (scope:=scope) (pos:=pos) (loop _ rfl) (T.self X.A 0 _ _ _ st4 (loop _ rfl));rw [<-hE] at goal;exact goal
theorem iQ(hc:X.calm=true)(S:aY X.env.scope X.N N' k fr scope)(hi:PI X tg iter wi)
 (hg:∀fp C s H,PG (bh X scope N' fp C s H) tg g)(hf:∀fp C s H,dj (bh X scope N' fp C s H) ifs tc)(he:∀fp C s H,PE (bh X scope N' fp C s H) elt te)
 (hs:∀x,Su iter X.env x=pure x:=by intro _;rfl):PE X (.ListComp elt [⟨tg,iter,ifs,0⟩] scope pos) (ia wi g tc te k fr):=by
 intro TR s σ H Q I h;have hcell:∀y∈scope.names,y.2= .free->∃c,X.env.cells.lookup y.1=some c:=λy hy e=>I.ok.has y.1 (S.outer y hy e);rw [eval_ListComp];refine TL (use:=none) rfl hs (wx hcell) S.kind S.names (wB hc S hi hg hf he I h ?_);intro D C s' H' hC J fN q ns hlt _;obtain⟨m,hn⟩:=ns;exact⟨m,hn,λh' hs'=>⟨.ref D,H',fN h' hs',rfl,q⟩⟩
theorem Fs{i:Nat}{x:Str}{pos' spos:Pos}(hN:X.N.Nodup)(hxi:X.N[i]?=some x)(hx:gc X.env.scope x)(hc:X.calm=true)(S:aY X.env.scope X.N N' k fr scope)(hi:PI X tg iter wi)
 (hg:∀fp C s H,PG (bh X scope N' fp C s H) tg g)(hf:∀fp C s H,dj (bh X scope N' fp C s H) ifs tc)(he:∀fp C s H,PE (bh X scope N' fp C s H) elt te)
 (hsw:Sx (.ListComp elt [⟨tg,iter,ifs,0⟩] scope pos) (some (.Name x pos')) spos.line X.env=pure true)
 (hs:∀x,Su iter X.env x=pure x:=by intro _;rfl)(hfn:X.fn x=true\/X.env.scope.names.lookup x=some .local:=by first | exact .inl rfl | exact .inr rfl | assumption):
 PS X (.Assign [.Name x pos'] (.ListComp elt [⟨tg,iter,ifs,0⟩] scope pos) spos) (j5 (ia wi g tc te k fr) (gg i)):=by
 intro TR s σ H D I h;have hcell:∀y∈scope.names,y.2= .free->∃c,X.env.cells.lookup y.1=some c:=λy hy e=>I.ok.has y.1 (S.outer y hy e);rw [exec_Assign_Name_used _ _ _ _ hsw];refine Sa (TB (Sa ?_));show Sf _ X.A (do let _<-comprehension (.ListComp elt [⟨tg,iter,ifs,0⟩] scope pos) scope X.env _ (newList []) false (eval iter X.env) (some (assign (.Name x pos') X.env))) _ _ s;refine Sa (Sz (TL (use:=some (assign (.Name x pos') X.env)) (Q:=λ_ s'=>∃σ' H',ae X TR σ' H' s'/\D.nx σ' H') rfl hs (wx hcell) S.kind S.names (wB hc S hi hg hf he I h ?_)) (λ_ s' hq=>Sg (Sg hq)) λ_ _ e=>e);intro D' C s' H' hC J fN q ns hlt ⟨c1,c2,c3⟩;obtain⟨m,hn⟩:=ns;show Sf _ X.A (assign (.Name x pos') X.env (.ref D')) _ _ _;refine wpAny_assign_Name (uM J hN hxi hx (v:= .ref D') rfl (λs2 J2 sb=>?_) hfn);obtain⟨a,sb,ha⟩:=sb;have hCa:C≠a:=by
  rcases ha with z | z
  ·rw [z];exact hC
  ·exact Ne.symm (c2 _ _ z)
 refine⟨m,hn.sameBut sb hCa,λh3 hs3=>⟨_,H',?_,q⟩⟩;exact J2.turned (t':=s2.toks) hs3.extBut c1 hC (.inr (LY J.ok.above (Nz hlt))) c2 c3
end
section
variable {X:Cx}
theorem wC(hc:X.calm=true):cO X (.builtin "sum") (λxs H Q=>∃(a:R8)(ns:List Int),xs=[.ref a]/\aN X.K H a (ns.map V.int)/\Q (.int ns.sum) H):=by
 intro TR s σ H xs us Q I r h;obtain⟨a,ns,rfl,hl,q⟩:=h;obtain⟨u,rfl,rx⟩:=cP r;cases rx;obtain⟨its,rv,p,hz⟩:=I.list hl;have hi:IntsAre its ns:=EK rv;have hall:AllInts its.toArray:=hi.allInts;obtain⟨ys,hys⟩:=hall.items;have hn:numsOf its.toArray.toList=ns:=by rw [show its.toArray.toList=its from rfl,hi.numsOf]
 rw [hys,nums_intItems] at hn;have hl':=p.isList;rw [hys] at hl';refine sum_intListG (I.ok.hd hc) hl' λh' tk t' hk=>?_;refine⟨.int ns.sum,H,I.kept hk,⟨t',?_⟩,q⟩;rw [preSum_eq,L3 R5,hn]
end
end L2
namespace Att
open PySem PySem.W PySem.Calls PyProof.Rows
theorem Ft{ns:List Int}(h:QV [Pe (ns.map NL)]=true):∀n∈ns,MJ n<=1048576:=by
 have h1:(Pe (ns.map NL)).layable=true:=by simpa [QV] using h
 have h2:(Pe (ns.map NL)).weight<=1048576:=(PySem.W.layableW_iff.mp h1).2.2;have key:∀l:List Int,∀n∈l,MJ n<=N2 (l.map NL):=by
  intro l
  induction l with
  | nil=>intro n hn;simp at hn
  | cons x r ih=>
   intro n hn;have e:N2 ((x::r).map NL)=MJ x+1+N2 (r.map NL):=by
    rw [Lq,N2,RF];rfl
   rw [e];rcases LF.mp hn with z | z
   ·subst z;omega
   ·have:=ih n z;omega
 intro n hn;have e:(Pe (ns.map NL)).weight=N2 (ns.map NL):=by rw [RF]
 rw [e] at h2;exact LY (key ns n hn) h2
theorem attach_callB{l:OpenLaw}{n:Nat}{q:Sk}{loose:List Str}{XP:(Str->Option R7)->Sn->Prop}{YP:Sm->Sn->Prop}{d:DefRec}
 (hn:l.most=some n)(hdf:d.params.defaults=[])
 (call:∀(w:Sm) (s₀ s₁:R9) (mg mb:Str->Option R7) (fa:R8) (o:Obj) (pm cd doc:R7) (a:R8) (vs:List R7) (ns:List Int),
  Ground q loose [] XP w s₀ mg mb s₁.heap->YP w s₁.heap->
  s₁.heap.get? fa=some o->o.data= .func (docDef d.name d.params d.body d.scope pm cd doc)->s₁.heap.CodeRec cd d.name->mg d.name=some (.ref fa)->
  s₁.heap.get? a=some {cls:= .type "list",data:= .seq vs.toArray}->IntsAre vs ns->ns.length<=n->(∀z∈ns,MJ z<=1048576)->s₁.gens=#[]->
  Tc (Si l.prog w) callerA (.call (.ref fa) ⟨[.ref a],[]⟩) (λr s'=>r= .ok (.ret (.bool true))/\OldK s₁.heap s'.heap/\s'.os=s₁.os/\Tn s'.gens) s₁):
 WalkO q loose XP YP l.row.toRowW d [] (λf vs=>Q4 f vs):=by
 intro w s₀ s₁ mg mb G Y fa o pm cd doc dV kV ho hd hcd hD hmg hg args vals as hpre hlay hrd hwl hlo;obtain rfl:dV= .none:=Dflts.none hD hdf;obtain rfl:kV= .none:=Dflts.noKw hD;obtain⟨a,vs,ns,rfl,rfl,hobj,hints,hlen⟩:=Fb hn hpre hwl;have hb:∀z∈ns,MJ z<=1048576:=Ft hlay;refine enter_call (Tt (call w s₀ s₁ mg mb fa o pm cd doc a vs ns G Y ho (fd_plain hd) hcd hmg hobj hints hlen hb hg) λr s' hq=>?_);obtain⟨rfl,h2,h3,h4⟩:=hq;exact⟨.inl ⟨.bool true,.bool true,[],rfl,λ_=>rfl,.bool true,Fc l _,λ_=>⟨RA.nil,λ_ hm=>(nomatch hm)⟩⟩,h2,h3,h4⟩
end Att
namespace L2
open PySem PySem.Spec PyProof.Rows
theorem Fv{l:Q5}{n k:Nat}{q:Sk}{loose:List Str}{XP:(Str->Option R7)->Sn->Prop}{YP:Sm->Sn->Prop}{d:DefRec}{K:Params->Ll}{CX:Sm->dR}{sp:Sm->Sp}{x:Str}
 (hn:l.most=some n)(hn2:n<=Sb)(hdf:d.params.defaults=[])(hr:br k callerA)
 (hY:∀(w:Sm) (h:Sn),YP w h->(K w.params).In h)
 (F:∀(w:Sm) (mg:Str->Option R7) (fa:R8) (h:Sn),(K w.params).In h->h.Ns So mg->mg d.name=some (.ref fa)->
  ∃fd:Sj,(∀(s:R9) (u:R7),BindsTo s fd ⟨[u],[]⟩ [(x,u)])/\
   ∀base:Sn,(K w.params).In base->base.Ns So mg->aF l.prog w (K w.params) mg base (CX w) k fa fd [x] (sp w))
 (hsp:∀(w:Sm) (H:Hp) (a:R8) (ns:List Int),ns.length<=n->(∀z∈ns,MJ z<=1048576)->l3 H->aN (K w.params) H a (ns.map V.int)->sp w [.ref a] H (λv _=>v= .bl true) λ_ _ _=>False)
 (hCX:∀(w:Sm) (H:Hp) (s:R9) (e:R7) (s':R9),CX w [] H s (λ_ _ _=>False) e s'->False):
 Ro q loose XP YP l.row.toRowW d [] (λf vs=>Q4 f vs):=by
 refine Att.attach_callB hn hdf λw s₀ s₁ mg mb fa o pm cd doc a vs ns G Y ho hd hcd hmg hobj hints hlen hb hg=>?_;have KX:=hY w _ Y;obtain⟨fd,hbi,hF⟩:=F w mg fa _ KX G.T.g hmg;exact Fd KX G.T.g G.T.b G.T.builtins G.T.nolimit hg hobj hints (LY hlen hn2) hr hF hbi (λH hO hS=>hsp w H a ns hlen hb hO hS) λH e s'=>hCX w H s₁ e s'
theorem walk_ofBK{l:Q5}{n k:Nat}{q:Sk}{loose:List Str}{XP:(Str->Option R7)->Sn->Prop}{YP:Sm->Sn->Prop}{d:DefRec}{K:Params->Ll}{CX:dR}{sp:Ll->Sp}{x:Str}
 (hn:l.most=some n)(hn2:n<=Sb)(hdf:d.params.defaults=[])(hr:br k callerA)
 (hY:∀(w:Sm) (h:Sn),YP w h->(K w.params).In h)
 (F:∀(w:Sm) (mg:Str->Option R7) (fa:R8) (h:Sn),(K w.params).In h->h.Ns So mg->mg d.name=some (.ref fa)->
  ∃fd:Sj,(∀(s:R9) (u:R7),BindsTo s fd ⟨[u],[]⟩ [(x,u)])/\
   ∀base:Sn,(K w.params).In base->base.Ns So mg->aF l.prog w (K w.params) mg base CX k fa fd [x] (sp (K w.params)))
 (hsp:∀(K:Ll) (H:Hp) (a:R8) (ns:List Int),ns.length<=n->(∀z∈ns,MJ z<=1048576)->l3 H->aN K H a (ns.map V.int)->sp K [.ref a] H (λv _=>v= .bl true) λ_ _ _=>False)
 (hCX:∀(H:Hp) (s:R9) (e:R7) (s':R9),CX [] H s (λ_ _ _=>False) e s'->False):
 Ro q loose XP YP l.row.toRowW d [] (λf vs=>Q4 f vs):=
 Fv (K:=K) (CX:=λ_=>CX) (sp:=λw=>sp (K w.params)) hn hn2 hdf hr hY F (λw H a ns h1 hb h2 h3=>hsp (K w.params) H a ns h1 hb h2 h3) λ_ H s e s'=>hCX H s e s'
def jt(p:R8)(H H':Hp):Prop:=∀b o,H b=some o->b≠p->H' b=some o
theorem ao.new{H:Hp}{p:R8}{o:HO}(h:H p=none):ao H (ak H p o):=λb u e=>by rw [aD (cE e h)];exact e
def FR(J:It)(g:TG)(tb:TS)(D:gL)(σ:St)(H1:Hp):Prop:=∃W:Nat->Nat->St->Hp->Prop,(∃m,W 0 m σ H1)/\∀i m σ H,W i m σ H->
 (J.stop i H/\D.nx σ H)\/(J.go i H/\∃N:St->Hp->Prop,(∀σ' H',N σ' H'->∃m',m' < m/\W (i+1) m' σ' H')/\∀x H',J.yld i H x H'->g x σ H' λσ2 H2=>tb {D with nx:=N,ct:=N,bk:=D.nx} σ2 H2)
theorem Fw{ta:TA}{g:TG}{tb:TS}:kc (oT ta) g tb=λD σ H=>ta σ H λvs H1=>∃j:Int,vs=[.int j]/\-(2 ^ 62)<=j/\j < 2 ^ 62/\FR (gm 0 j.toNat) g tb D σ H1:=rfl
theorem Fx{ta:TA}{g:TG}{tb:TS}:kc (oU ta) g tb=λD σ H=>ta σ H λvs H1=>∃i j:Int,vs=[.int i,.int j]/\(-(2 ^ 62)<=i/\i < 2 ^ 62/\-(2 ^ 62)<=j/\j < 2 ^ 62)/\FR (gm i (j - i).toNat) g tb D σ H1:=rfl
theorem Fy{K:Ll}{tl:TE}{g:TG}{tb:TS}:kc (oO K tl) g tb=λD σ H=>tl σ H λx H1=>∃a,x= .ref a/\(∃xs,aN K H1 a xs)/\FR (j7 K a) g tb D σ H1:=rfl
theorem Fz{K:Ll}{tl:TE}{g:TG}{tb:TS}:kc (oP K tl) g tb=λD σ H=>tl σ H λx H1=>∃a,x= .ref a/\(∃xs,aW K H1 a xs)/\FR (j9 K a) g tb D σ H1:=rfl
def iR(J:It)(g:TG)(tc:TT)(te:TE)(k:Nat)(fr:List Nat)(σ:St)(H1:Hp)(Q:VK):Prop:=∀D,H1 D=none->∃W:Nat->Nat->Hp->Prop,(∃m,W 0 m (ak H1 D (.lst [])))/\∀i m H,W i m H->
 (J.stop i H/\Q (.ref D) H)\/(J.go i H/\∀x H',J.yld i H x H'->g x (bF k fr σ) H' λσ2 H2=>iP (bF k fr σ) σ2/\tc σ2 H2 λok H3=>
  if ok=true then te σ2 H3 λy H4=>∃ys,H4 D=some (.lst ys)/\ys.length < Sb/\∃m',m' < m/\W (i+1) m' (ak H4 D (.lst (ys++[y])))
  else ∃m',m' < m/\W (i+1) m' H3)
theorem FA{ta:TA}{g:TG}{tc:TT}{te:TE}{k:Nat}{fr:List Nat}:ia (oT ta) g tc te k fr=λσ H Q=>ta σ H λvs H1=>∃j:Int,vs=[.int j]/\-(2 ^ 62)<=j/\j < 2 ^ 62/\iR (gm 0 j.toNat) g tc te k fr σ H1 Q:=rfl
theorem FC{ta:TA}{g:TG}{tc:TT}{te:TE}{k:Nat}{fr:List Nat}:ia (oU ta) g tc te k fr=λσ H Q=>ta σ H λvs H1=>∃i j:Int,vs=[.int i,.int j]/\(-(2 ^ 62)<=i/\i < 2 ^ 62/\-(2 ^ 62)<=j/\j < 2 ^ 62)/\iR (gm i (j - i).toNat) g tc te k fr σ H1 Q:=rfl
theorem FD{K:Ll}{tl:TE}{g:TG}{tc:TT}{te:TE}{k:Nat}{fr:List Nat}:ia (oO K tl) g tc te k fr=λσ H Q=>tl σ H λx H1=>∃a,x= .ref a/\(∃xs,aN K H1 a xs)/\iR (j7 K a) g tc te k fr σ H1 Q:=rfl
theorem FF{K:Ll}{tl:TE}{g:TG}{tc:TT}{te:TE}{k:Nat}{fr:List Nat}:ia (oP K tl) g tc te k fr=λσ H Q=>tl σ H λx H1=>∃a,x= .ref a/\(∃xs,aW K H1 a xs)/\iR (j9 K a) g tc te k fr σ H1 Q:=rfl
theorem wD{fr:List Nat}{σ:St}{v:Option V}:iP (bF 1 fr σ) ((bF 1 fr σ).set 0 v):=by
 refine⟨R5,λi w h=>?_⟩;cases i with
 | zero=>simp [bF,LC] at h
 | succ i=>simpa [bF,LC] using h
theorem FG{lo:Int}{n:Nat}{te:TE}{fr:List Nat}{σ:St}{H:Hp}{Q:VK}(f:Nat->V)(hn:n<=1000000)
 (ht:∀(i:Nat) (H':Hp) (R:VK),i < n->ao H H'->(∀H'',ao H' H''->R (f i) H'')->te ((bF 1 fr σ).set 0 (some (.int (lo+i)))) H' R)
 (hq:∀D H',H D=none->ao H H'->H' D=some (.lst ((Mv n).map f))->Q (.ref D) H'):iR (gm lo n) (gg 0) wz te 1 fr σ H Q:=by
 intro D hD;refine⟨λi m H'=>m=n - i/\i<=n/\ao H H'/\H' D=some (.lst ((Mv i).map f)),⟨n,R5,Mb _,ao.new hD,by rw [bb];rfl⟩,?_⟩;rintro i m H1 ⟨rfl,hi,s1,e1⟩;by_cases hlt:i < n
 ·refine .inr ⟨hlt,λx H' y=>?_⟩;obtain⟨e,y⟩:=y;subst e y;refine⟨wD,?_⟩;show te _ _ _;refine ht i H' _ hlt s1 λH2 s2=>?_;refine⟨_,s2 D _ e1,?_,n - (i+1),R0,rfl,hlt,?_,?_⟩
  ·rw [Lm,Oj,SE];omega
  ·exact λb o h=>by rw [aD (cE h hD)];exact s2 b o (s1 b o h)
  ·rw [bb,OJ,LS];rfl
 ·have e:i=n:=R0
  subst e;exact .inl ⟨Lr _,hq D H1 hD s1 e1⟩
theorem cxK{CX:dR}{P:Sk}{w:Sm}{K:Ll}{mg:Str->Option R7}{base:Sn}{N:List Str}{qual:Str}{scope:SH}{f:R8}{cd:R7}{A:Ss}{outer:List Env}{s:R9}{H:Hp}{E:XK}:(gN CX P w K mg base N qual scope f cd A outer s H E).K=K:=rfl
theorem cmK{X:Cx}{scope:SH}{N':List Str}{fp:List R8}{C:R8}{s:R9}{H:Hp}:(bh X scope N' fp C s H).K=X.K:=rfl
theorem ju{K:Ll}{p:R8}{xs:List V}{i:Int}{v:V}{H:Hp}{Q:VK}(h:aN K H p xs)(hv:atI xs i=some v)(q:Q v H):lW K (.ref p) (.int i) H Q:=⟨p,xs,i,v,rfl,rfl,h,hv,q⟩
theorem jv{K:Ll}{p:R8}{xs:List V}{i:Int}{v:V}{H:Hp}{Q:VK}(h:aW K H p xs)(hv:atI xs i=some v)(q:Q v H):lX K (.ref p) (.int i) H Q:=⟨p,xs,i,v,rfl,rfl,h,hv,q⟩
theorem wF{a b:Int}:(if b < a then b else a)=min a b:=by
 by_cases h:b < a
 ·rw [R3 h];omega
 ·rw [R1 h];omega
theorem FH:Sw "divmod"=some (.builtin "divmod"):=cp
theorem pI:Sw "int"=some (.type "int"):=cp
theorem dJ:Sw "tuple"=some (.type "tuple"):=cp
theorem wG:Sw "list"=some (.type "list"):=cp
theorem FI:Sw "dict"=some (.type "dict"):=cp
open PySem PySem.Spec PyProof.Rows PySem.W
section
variable {M:Model} {A:Ss} {E:R7->R9->Prop}
variable {nm q:Str} {C N:R8} {bs bm:List R7} {hdct:Bool} {sn:List Str} {sub:List R7} {ab:Bool} {col:Option Bool} {dd:Option R8} {k0 k1 k2 k3 k5:Option R7} {newId:String}
variable {nm' q':Str} {C' N':R8} {bs' bm':List R7} {hdct':Bool} {sn':List Str} {sub':List R7} {ab':Bool} {col':Option Bool} {dd':Option R8} {k0' k1' k2' k3' k5':Option R7} {newId':String}
end
section
variable {X:Cx}
theorem FJ{bs:List Bool}{its:List R7}(r:aA (bs.map V.bl) its):its=bs.map NI:=by
 induction bs generalizing its with
 | nil=>cases r;rfl
 | cons b bs ih=>
  rw [Lq] at r;cases r with
  | cons r1 r2=>
   rw [Lq,<-ih r2];exact congrArg (·::_) r1
theorem FK(bs:List Bool)(f:Nat->Bool)(h:∀i,i < bs.length->f i=bs.getD i true):(Mv bs.length).any f=bs.any id:=by
 rw [NK,MQ,MQ];constructor
 ·rintro⟨i,hi,z⟩;have hi:=P5.mp hi;rw [h i hi,NY,LG hi] at z;exact⟨_,M8 hi,z⟩
 ·rintro⟨b,hb,z⟩;obtain⟨i,hi,e⟩:=List.getElem_of_mem hb;refine⟨i,P5.mpr hi,?_⟩;rw [h i hi,NY,LG hi];show bs[i]=true;rw [e];exact z
theorem FL{bs:List Bool}{i:Nat}{v:R7}(h:(bs.map NI).toArray[i]?=some v):v= .bool (bs.getD i true):=by
 have h':(bs.map NI)[i]?=some v:=by simpa using h
 rw [LD] at h';cases e:bs[i]? with
 | none=>rw [e] at h';cases h'
 | some b=>
  rw [e] at h';rw [NY,e];exact(Mg h').symm
theorem FN{prog:Sk}{w:Sm}{A:Ss}{E:R7->R9->Prop}{s:R9}{l:R8}{items:Array R7}{Q:R7->R9->Prop}(hl:s.heap.IsList l items)
 (h:∀s₂:R9,s₂={s with heap:=s.heap.push {cls:= .type "list_iterator",data:= .fields #[.ref l,.int 0 0]}}->
  (s₂.heap.IsListIter s.heap.objs.size l 0/\s₂.heap.IsList l items)->l≠s.heap.objs.size->Q (.ref s.heap.objs.size) s₂):Sf (Si prog w) A (pyIter (.ref l)) Q E s:=by
 have hlt:l < s.heap.objs.size:=by obtain⟨_,e,_⟩:=hl;exact LJ e
 exact TH hl (h _ rfl ⟨⟨_,LU _ rfl,rfl,rfl⟩,hl.push _⟩ (LV hlt))
theorem pJ(hc:X.calm=true):cO X (.builtin "any") (λxs H Q=>∃(a:R8)(bs:List Bool),xs=[.ref a]/\aN X.K H a (bs.map V.bl)/\Q (.bl (bs.any id)) H):=by
 intro TR s σ H xs us Q I r h;obtain⟨a,bs,rfl,hl,q⟩:=h;obtain⟨u,rfl,rx⟩:=cP r;cases rx;obtain⟨its,rv,p,hz⟩:=I.list hl;have hi:=FJ rv;subst hi;refine call_any_walk (FN p.isList λs₂ e st hlI=>?_);subst e;refine⟨_,_,_,_,_,_,λi=>bs.getD i true,rfl,RU (A:=X.A.in1) (I.ok.hd hc) _ a hlI _,st,λi v s' Q' E' hP hq=>by rw [FL hP];exact SK hq,λh' tk hk=>?_⟩;have e:=FK bs (λi=>bs.getD i true) λ_ _=>rfl;have e2:(Mm NI bs).toArray.size=bs.length:=R5
 rw [e2,e];exact⟨.bl (bs.any id),H,I.kept (old_kept hk),rfl,q⟩
end
open PySem PySem.Spec PyProof.Rows PySem.W PySem.Calls PySem.Builtin.ObjectAttr PySem.Builtin PySem.Builtin.Getset_descriptor
section
variable {X:Cx}
abbrev dn(d:R6):Prop:=MN d=true
end
theorem pK:Sw "any"=some (.builtin "any"):=cp
def FO(p:R8)(h:Sn):Prop:=∃(n:Int)(t:Tok)(k:Nat),h.get? p=some {cls:= .type "list",data:= .seq #[.int n t] k}
abbrev FP(p:R8):HO:= .ext (FO p)
abbrev FQ:R6:= .dict [(.none,.none)]
def FT(p:R8)(h:Sn):Prop:=∃(a b c:Int)(t u v:Tok)(k:Nat),h.get? p=some {cls:= .type "list",data:= .seq #[.int a t,.int b u,.int c v] k}
abbrev fL(p:R8):HO:= .ext (FT p)
abbrev fu:R6:= .dict [(.none,.bool true)]
abbrev eI(ds:List R6):R6:= .dict [(.none,.list ds)]
abbrev iS(C:R8)(kp ds:List R6):R6:= .dict [(.none,.tuple [.int (C:Int),.list kp,.list ds])]
abbrev wH(kp ds:List R6):R6:= .dict [(.bool true,.tuple [.list kp,.list ds])]
abbrev Ex:=R8->Prop
abbrev l6:Hp:=λ_=>none
mutual
inductive Dt (K:Ll) (H:Hp) (O:Ex):V->R6->Prop
 | non:Dt K H O .non .none
 | bl (b:Bool):Dt K H O (.bl b) (.bool b)
 | int (i:Int):Dt K H O (.int i) (.int i)
 | str (x:Str):Dt K H O (.str x) (.str x)
 | tup {a:R8} {xs:List V} {ds:List R6}:Rd H a (.tup xs)->¬O a->aj K H O xs ds->Dt K H O (.ref a) (.tuple ds)
 | tupK {a:R8} {xs:List V} {ds:List R6}:aW K l6 a xs->aj K H O xs ds->Dt K H O (.ref a) (.tuple ds)
 | lst {a:R8} {xs:List V} {ds:List R6}:Rd H a (.lst xs)->¬O a->aj K H O xs ds->Dt K H O (.ref a) (.list ds)
 | pack {p:R8}:H p=some (FP p)->¬O p->Dt K H O (.ref p) FQ
 | purse {p:R8}:H p=some (fL p)->¬O p->Dt K H O (.ref p) fu
 | dct0 {a:R8}:H a=some (.dK [])->¬O a->Dt K H O (.ref a) (.dict [])
 | obj {a C dx:R8} {fs:List (Str×V)} {kp ds:List R6}:H a=some (.ins C dx fs)->kp=fs.map (λp=>Lp p.1)->¬O a->aj K H O (fs.map (·.2)) ds->Dt K H O (.ref a) (iS C kp ds)
 | dic {a:R8} {ob:Obj} {kv:List (ah×V)} {ks:List Str} {kp ds:List R6}:H a=some (.frz ob (.dK kv))->kv.map (·.1)=ks.map Mi->kp=ks.map Lp->¬O a->aj K H O (kv.map (·.2)) ds->Dt K H O (.ref a) (wH kp ds)
 | scr {a:R8} {xs:List V} {ds:List R6}:(Rd H a (.lst xs)/\¬O a)\/aN K l6 a xs->aj K H O xs ds->Dt K H O (.ref a) (eI ds)
inductive aj (K:Ll) (H:Hp) (O:Ex):List V->List R6->Prop
 | nil:aj K H O [] []
 | cons {v:V} {d:R6} {vs:List V} {ds:List R6}:Dt K H O v d->aj K H O vs ds->aj K H O (v::vs) (d::ds)
end
theorem Rd.same{H H':Hp}{a:R8}{u:HO}(s:∀o,H a=some o->H' a=some o)(h:Rd H a u):Rd H' a u:=by
 rcases h with h | ⟨o,h⟩
 ·exact .inl (s _ h)
 ·exact .inr ⟨o,s _ h⟩
theorem Rd.trk{H:Hp}{a:R8}{u:HO}(h:Rd H a u):H a≠none:=by
 rcases h with h | ⟨o,h⟩ <;> rw [h] <;> exact λz=>nomatch z
section
variable {K:Ll}
structure aZ (H H':Hp) (O O':Ex):Prop where
 keep:∀b o,H b=some o->¬O b->H' b=some o
 out:∀b,H b≠none->¬O b->¬O' b
mutual
theorem Dt.step{H H':Hp}{O O':Ex}(S:aZ H H' O O'):∀{v:V}{d:R6},Dt K H O v d->Dt K H' O' v d
 | _,_,.non=>.non
 | _,_,.bl b=>.bl b
 | _,_,.int i=>.int i
 | _,_,.str x=>.str x
 | _,_,.tup h n r=>.tup (h.same λo e=>S.keep _ o e n) (S.out _ h.trk n) (aj.step S r)
 | _,_,.tupK h r=>.tupK h (aj.step S r)
 | _,_,.lst h n r=>.lst (h.same λo e=>S.keep _ o e n) (S.out _ h.trk n) (aj.step S r)
 | _,_,.pack h n=>.pack (S.keep _ _ h n) (S.out _ (by rw [h];exact λz=>nomatch z) n)
 | _,_,.purse h n=>.purse (S.keep _ _ h n) (S.out _ (by rw [h];exact λz=>nomatch z) n)
 | _,_,.dct0 h n=>.dct0 (S.keep _ _ h n) (S.out _ (by rw [h];exact λz=>nomatch z) n)
 | _,_,.obj h e n r=>.obj (S.keep _ _ h n) e (S.out _ (by rw [h];exact λz=>nomatch z) n) (aj.step S r)
 | _,_,.dic h e1 e2 n r=>.dic (S.keep _ _ h n) e1 e2 (S.out _ (by rw [h];exact λz=>nomatch z) n) (aj.step S r)
 | _,_,.scr h r=>.scr (h.imp (λh=>⟨h.1.same λo e=>S.keep _ o e h.2,S.out _ h.1.trk h.2⟩) id) (aj.step S r)
theorem aj.step{H H':Hp}{O O':Ex}(S:aZ H H' O O'):∀{vs:List V}{ds:List R6},aj K H O vs ds->aj K H' O' vs ds
 | _,_,.nil=>.nil
 | _,_,.cons h r=>.cons (Dt.step S h) (aj.step S r)
end
theorem aZ.same{H H':Hp}{O:Ex}(s:ao H H'):aZ H H' O O:=⟨λb o e _=>s b o e,λ_ _ n=>n⟩
theorem Dt.mono{H H':Hp}{O:Ex}{v:V}{d:R6}(s:ao H H')(h:Dt K H O v d):Dt K H' O v d:=h.step (.same s)
theorem aj.mono{H H':Hp}{O:Ex}{v:List V}{d:List R6}(s:ao H H')(h:aj K H O v d):aj K H' O v d:=h.step (.same s)
theorem aj.length{H:Hp}{O:Ex}:∀{vs:List V}{ds:List R6},aj K H O vs ds->vs.length=ds.length
 | _,_,.nil=>rfl
 | _,_,.cons _ r=>by rw [LP,LP,aj.length r]
theorem aj.get{H:Hp}{O:Ex}:∀{vs:List V}{ds:List R6}{i:Nat}{v:V},aj K H O vs ds->vs[i]?=some v->∃d,ds[i]?=some d/\Dt K H O v d
 | _,_,_,_,.nil,e=>by simp at e
 | _,_,0,_,.cons h _,e=>by simp at e;subst e;exact⟨_,rfl,h⟩
 | _,_,i+1,_,.cons _ r,e=>by simpa using aj.get (i:=i) r (by simpa using e)
theorem aj.getD{H:Hp}{O:Ex}:∀{vs:List V}{ds:List R6}{i:Nat}{d:R6},aj K H O vs ds->ds[i]?=some d->∃v,vs[i]?=some v/\Dt K H O v d
 | _,_,_,_,.nil,e=>by simp at e
 | _,_,0,_,.cons h _,e=>by simp at e;subst e;exact⟨_,rfl,h⟩
 | _,_,i+1,_,.cons _ r,e=>by simpa using aj.getD (i:=i) r (by simpa using e)
theorem aj.append{H:Hp}{O:Ex}:∀{vs ws:List V}{ds es:List R6},aj K H O vs ds->aj K H O ws es->aj K H O (vs++ws) (ds++es)
 | _,_,_,_,.nil,s=>s
 | _,_,_,_,.cons h r,s=>.cons h (aj.append r s)
theorem aj.take{H:Hp}{O:Ex}:∀{vs:List V}{ds:List R6}(n:Nat),aj K H O vs ds->aj K H O (vs.take n) (ds.take n)
 | _,_,0,_=>.nil
 | _,_,_+1,.nil=>.nil
 | _,_,n+1,.cons h r=>.cons h (aj.take n r)
theorem aj.drop{H:Hp}{O:Ex}:∀{vs:List V}{ds:List R6}(n:Nat),aj K H O vs ds->aj K H O (vs.drop n) (ds.drop n)
 | _,_,0,r=>r
 | _,_,_+1,.nil=>.nil
 | _,_,n+1,.cons _ r=>aj.drop n r
theorem aj.ints{H:Hp}{O:Ex}:∀(ns:List Int),aj K H O (ns.map V.int) (ns.map Ly)
 | []=>.nil
 | n::r=>.cons (.int n) (aj.ints r)
inductive Sh (K:Ll) (H:Hp) (O:Ex):V->R6->Prop
 | dt {v:V} {d:R6}:Dt K H O v d->Sh K H O v d
 | own {l:R8} {vs:List V} {ds:List R6}:H l=some (.lst vs)->aj K H O vs ds->Sh K H O (.ref l) (.list ds)
theorem Sh.mono{H H':Hp}{O:Ex}{v:V}{d:R6}(s:ao H H'):Sh K H O v d->Sh K H' O v d
 | .dt h=>.dt (h.mono s)
 | .own h r=>.own (s _ _ h) (r.mono s)
theorem Dt.all{H:Hp}{O:Ex}{v:V}{d:R6}(h:Dt K H O v d):Dt K H (λ_=>False) v d:=h.step ⟨λ_ _ e _=>e,λ_ _ _ z=>z⟩
theorem aj.all{H:Hp}{O:Ex}{v:List V}{d:List R6}(h:aj K H O v d):aj K H (λ_=>False) v d:=h.step ⟨λ_ _ e _=>e,λ_ _ _ z=>z⟩
theorem Sh.all{H:Hp}{O:Ex}{v:V}{d:R6}:Sh K H O v d->Dt K H (λ_=>False) v d
 | .dt h=>h.all
 | .own h r=>.lst (.inl h) (λz=>z) r.all
theorem aW.of0{H:Hp}{a:R8}{xs:List V}(h:aW K l6 a xs):aW K H a xs:=by
 rcases h with(h | ⟨o,h⟩) | h
 ·cases h
 ·cases h
 ·exact .inr h
theorem aN.of0{H:Hp}{a:R8}{xs:List V}(h:aN K l6 a xs):aN K H a xs:=by
 rcases h with(h | ⟨o,h⟩) | h
 ·cases h
 ·cases h
 ·exact .inr h
theorem Sh.tup{H:Hp}{O:Ex}{v:V}{ds:List R6}(h:Sh K H O v (.tuple ds)):∃a xs,v= .ref a/\aW K H a xs/\aj K H O xs ds:=by
 cases h with
 | dt h=>
  cases h with
  | tup h _ r=>exact⟨_,_,rfl,.inl h,r⟩
  | tupK h r=>exact⟨_,_,rfl,h.of0,r⟩
theorem Sh.lstR{H:Hp}{O:Ex}{v:V}{ds:List R6}(h:Sh K H O v (.list ds)):∃a xs,v= .ref a/\Rd H a (.lst xs)/\aj K H O xs ds:=by
 cases h with
 | dt h=>
  cases h with
  | lst h _ r=>exact⟨_,_,rfl,h,r⟩
 | own h r=>exact⟨_,_,rfl,.inl h,r⟩
theorem Sh.lst{H:Hp}{O:Ex}{v:V}{ds:List R6}(h:Sh K H O v (.list ds)):∃a xs,v= .ref a/\aN K H a xs/\aj K H O xs ds:=by
 obtain⟨a,xs,e,h,r⟩:=h.lstR;exact⟨a,xs,e,.inl h,r⟩
theorem Sh.scr{H:Hp}{O:Ex}{v:V}{ds:List R6}(h:Sh K H O v (eI ds)):∃a xs,v= .ref a/\aN K H a xs/\aj K H O xs ds:=by
 cases h with
 | dt h=>
  cases h with
  | scr h r=>
   rcases h with h | h
   ·exact⟨_,_,rfl,.inl h.1,r⟩
   ·exact⟨_,_,rfl,h.of0,r⟩
theorem Sh.int{H:Hp}{O:Ex}{v:V}{i:Int}(h:Sh K H O v (.int i)):v= .int i:=by cases h with | dt h=>cases h;rfl
theorem Sh.bl{H:Hp}{O:Ex}{v:V}{i:Bool}(h:Sh K H O v (.bool i)):v= .bl i:=by cases h with | dt h=>cases h;rfl
theorem Sh.str{H:Hp}{O:Ex}{v:V}{i:Str}(h:Sh K H O v (.str i)):v= .str i:=by cases h with | dt h=>cases h;rfl
theorem Sh.non{H:Hp}{O:Ex}{v:V}(h:Sh K H O v .none):v= .non:=by cases h with | dt h=>cases h;rfl
def kn:R6->Bool
 | .none | .bool _ | .int _ | .str _=>true
 | _=>false
end
section
variable {X:Cx} {TR:List (R8×Obj)} {σ:St} {H:Hp} {s:R9}
mutual
theorem fM(I:ae X TR σ H s){O:Ex}:∀{v:V}{d:R6}{u:R7},Dt X.K H O v d->d.canLay0=true->aC v u->∃as,Reads s.heap u d as
 | _,_,_,.non,_,r=>by cases r;exact⟨_,Reads.none⟩
 | _,_,_,.bl b,_,r=>by cases r;exact⟨_,Reads.bool b⟩
 | _,_,_,.int i,_,r=>by obtain⟨t,rfl⟩:=r;exact⟨_,Reads.int i t⟩
 | _,_,_,.str x,_,r=>by obtain⟨t,rfl⟩:=r;exact⟨_,Reads.str x t⟩
 | _,_,_,.tup h _ hs,c,r=>by
  cases r;obtain⟨its,rv,⟨o,e,c',n,dd⟩,_⟩:=I.tuple (.inl h);obtain⟨as,q⟩:=l8 I hs (by simpa [L7] using c) rv;exact⟨as,reads_tuple_at e c' dd (by simpa using q)⟩
 | _,_,_,.tupK h hs,c,r=>by
  cases r;obtain⟨its,rv,⟨o,e,c',n,dd⟩,_⟩:=I.tuple h.of0;obtain⟨as,q⟩:=l8 I hs (by simpa [L7] using c) rv;exact⟨as,reads_tuple_at e c' dd (by simpa using q)⟩
 | _,_,_,.lst h _ hs,c,r=>by
  cases r;obtain⟨its,rv,⟨o,n,e,c',_,dd⟩,_⟩:=I.list (.inl h);obtain⟨as,q⟩:=l8 I hs (by simpa [L7] using c) rv;exact⟨_,reads_list_at e c' dd (by simpa using q)⟩
 | _,_,_,.pack _ _,c,_=>by simp [L7] at c
 | _,_,_,.purse _ _,c,_=>by simp [L7] at c
 | _,_,_,.dct0 _ _,c,_=>by simp [L7] at c
 | _,_,_,.obj _ _ _ _,c,_=>by simp [L7] at c
 | _,_,_,.dic _ _ _ _ _,c,_=>by simp [L7] at c
 | _,_,_,.scr _ _,c,_=>by simp [L7] at c
theorem l8(I:ae X TR σ H s){O:Ex}:∀{vs:List V}{ds:List R6}{us:List R7},aj X.K H O vs ds->MD ds=true->aA vs us->∃as,ReadsAll s.heap us ds as
 | _,_,_,.nil,_,r=>by cases r;exact⟨_,ReadsAll.nil⟩
 | _,_,_,.cons h hs,c,r=>by
  rw [MD,Mf] at c;cases r with
  | cons r1 r2=>
   obtain⟨as,q⟩:=fM I h c.1 r1;obtain⟨bs,p⟩:=l8 I hs c.2 r2;exact⟨_,ReadsAll.cons q p⟩
end
end
inductive Sl where
 | v (d:R6)
 | o (ds:List R6)
 | k (kd:List (ah×R6))
 | i (l C:R8) (fd:List (Str×R6))
 | r (l C g u:R8) (fd:List (Str×R6)) (gd ud:List (ah×R6))
 | b (ds:List R6)
abbrev Dl:=List (Option Sl)
inductive bo (K:Ll) (H:Hp) (O:Ex):List (ah×V)->List (ah×R6)->Prop
 | nil:bo K H O [] []
 | cons {k:ah} {v:V} {d:R6} {r:List (ah×V)} {s:List (ah×R6)}:Dt K H O v d->bo K H O r s->bo K H O ((k,v)::r) ((k,d)::s)
theorem bo.step{K:Ll}{H H':Hp}{O O':Ex}(S:aZ H H' O O'){r:List (ah×V)}{s:List (ah×R6)}(h:bo K H O r s):bo K H' O' r s:=by
 induction h with
 | nil=>exact .nil
 | cons a _ ih=>exact .cons (a.step S) ih
theorem bo.mono{K:Ll}{H H':Hp}{O:Ex}(S:ao H H'){r:List (ah×V)}{s:List (ah×R6)}(h:bo K H O r s):bo K H' O r s:=h.step (.same S)
def iT(K:Ll)(H:Hp)(O:Ex)(fs:List (Str×V))(fd:List (Str×R6)):Prop:=fs.map (·.1)=fd.map (·.1)/\aj K H O (fs.map (·.2)) (fd.map (·.2))
def Sl.own:Sl->Prop
 | .v _=>False
 | .b _=>False
 | _=>True
abbrev FU:Str:=Lk "gone"
abbrev FV:Str:=Lk "used"
def FW(K:Ll)(H:Hp)(O0 O:Ex)(l C g u:R8)(fd:List (Str×R6))(gd ud:List (ah×R6)):Prop:=∃dx fs og ou gv uv,H l=some (.ins C dx (fs++[(FU,.ref g),(FV,.ref u)]))/\iT K H O fs fd/\g≠u/\
 (O g/\¬O0 g/\H g=some (.frz og (.dK gv))/\bo K H O gv gd)/\(O u/\¬O0 u/\H u=some (.frz ou (.dK uv))/\bo K H O uv ud)
def gP(K:Ll)(H:Hp)(O0 O:Ex)(x:Option V):Option Sl->Prop
 | none=>True
 | some (.v d)=>∃v,x=some v/\Dt K H O v d
 | some (.o ds)=>∃l vs,x=some (.ref l)/\O l/\¬O0 l/\H l=some (.lst vs)/\aj K H O vs ds
 | some (.k kd)=>∃l kv,x=some (.ref l)/\O l/\¬O0 l/\H l=some (.dK kv)/\bo K H O kv kd
 | some (.i l C fd)=>∃dx fs,x=some (.ref l)/\O l/\¬O0 l/\H l=some (.ins C dx fs)/\iT K H O fs fd
 | some (.r l C g u fd gd ud)=>x=some (.ref l)/\O l/\¬O0 l/\FW K H O0 O l C g u fd gd ud
 | some (.b ds)=>∃l vs,x=some (.ref l)/\O0 l/\H l=some (.lst vs)/\aj K H O vs ds
structure Wd (K:Ll) (H0:Hp) (O0:Ex) (H:Hp) (O:Ex) (σ:St) (δ:Dl):Prop where
 same:ao H0 H
 sub:∀l,O0 l->O l
 new:∀l,O l->O0 l\/H0 l=none
 trk:∀l,O l->H l≠none
 len:σ.length=δ.length
 sl:∀(i:Nat) y,δ[i]?=some y->gP K H O0 O ((σ[i]?).join) y
 dis:∀(i j:Nat) y z l,δ[i]?=some (some y)->y.own->δ[j]?=some (some z)->z.own->σ[i]?=some (some (.ref l))->σ[j]?=some (some (.ref l))->i=j
section
variable {K:Ll} {H0 H H':Hp} {O0 O:Ex} {σ:St} {δ:Dl}
theorem gP.mono{x:Option V}{y:Option Sl}(s:ao H H')(h:gP K H O0 O x y):gP K H' O0 O x y:=by
 cases y with
 | none=>exact MU
 | some y=>
  cases y with
  | v d=>
   obtain⟨v,e,r⟩:=h;exact⟨v,e,r.mono s⟩
  | o ds=>
   obtain⟨l,vs,e,a,b,c,r⟩:=h;exact⟨l,vs,e,a,b,s _ _ c,r.mono s⟩
  | k ds=>
   obtain⟨l,vs,e,a,b,c,r⟩:=h;exact⟨l,vs,e,a,b,s _ _ c,r.mono s⟩
  | i l C ds=>
   obtain⟨dx,vs,e,a,b,c,r1,r2⟩:=h;exact⟨dx,vs,e,a,b,s _ _ c,r1,r2.mono s⟩
  | r l C g u fd gd ud=>
   obtain⟨e,a,b,dx,fs,og,ou,gv,uv,c,⟨r1,r2⟩,ne,⟨g1,g2,g3,g4⟩,u1,u2,u3,u4⟩:=h;exact⟨e,a,b,dx,fs,og,ou,gv,uv,s _ _ c,⟨r1,r2.mono s⟩,ne,⟨g1,g2,s _ _ g3,g4.mono s⟩,u1,u2,s _ _ u3,u4.mono s⟩
  | b ds=>
   obtain⟨l,vs,e,a,c,r⟩:=h;exact⟨l,vs,e,a,s _ _ c,r.mono s⟩
theorem gP.go{O':Ex}{x:Option V}{y:Option Sl}(h:gP K H O0 O x y)(S:aZ H H' O O')(kp:∀l o,y.any (λz=>match z with | .v _=>false | .b _=>false | _=>true)=true->x=some (.ref l)->O l->¬O0 l->H l=some o->O' l/\H' l=some o)
 (kp2:∀a o u,O a->¬O0 a->H a=some (.frz o u)->O' a/\H' a=some (.frz o u))(kp3:∀a o,O0 a->H a=some o->H' a=some o):gP K H' O0 O' x y:=by
 cases y with
 | none=>exact MU
 | some y=>
  cases y with
  | v d=>
   obtain⟨v,e,r⟩:=h;exact⟨v,e,r.step S⟩
  | o ds=>
   obtain⟨l,vs,e,a,b,c,r⟩:=h;exact⟨l,vs,e,(kp l _ rfl e a b c).1,b,(kp l _ rfl e a b c).2,r.step S⟩
  | k ds=>
   obtain⟨l,vs,e,a,b,c,r⟩:=h;exact⟨l,vs,e,(kp l _ rfl e a b c).1,b,(kp l _ rfl e a b c).2,r.step S⟩
  | i l C ds=>
   obtain⟨dx,vs,e,a,b,c,r1,r2⟩:=h;exact⟨dx,vs,e,(kp l _ rfl e a b c).1,b,(kp l _ rfl e a b c).2,r1,r2.step S⟩
  | r l C g u fd gd ud=>
   obtain⟨e,a,b,dx,fs,og,ou,gv,uv,c,⟨r1,r2⟩,ne,⟨g1,g2,g3,g4⟩,u1,u2,u3,u4⟩:=h;exact⟨e,(kp l _ rfl e a b c).1,b,dx,fs,og,ou,gv,uv,(kp l _ rfl e a b c).2,⟨r1,r2.step S⟩,ne,⟨(kp2 _ _ _ g1 g2 g3).1,g2,(kp2 _ _ _ g1 g2 g3).2,g4.step S⟩,(kp2 _ _ _ u1 u2 u3).1,u2,(kp2 _ _ _ u1 u2 u3).2,u4.step S⟩
  | b ds=>
   obtain⟨l,vs,e,a,c,r⟩:=h;exact⟨l,vs,e,a,kp3 _ _ a c,r.step S⟩
theorem Wd.mono(s:ao H H')(w:Wd K H0 O0 H O σ δ):Wd K H0 O0 H' O σ δ:=
 ⟨w.same.trans s,w.sub,w.new,λl h z=>(by
  cases e:H l with
  | none=>exact w.trk l h e
  | some o=>rw [s _ _ e] at z;cases z),w.len,λi y e=>(w.sl i y e).mono s,w.dis⟩
theorem iU{i:Nat}{v:V}(h:(σ[i]?).join=some v):σ[i]?=some (some v):=by
 cases q:σ[i]? with
 | none=>rw [q] at h;cases h
 | some o=>rw [q] at h;rw [show o=some v from h]
theorem Wd.val(w:Wd K H0 O0 H O σ δ){i:Nat}{d:R6}(e:δ[i]?=some (some (.v d))):∃v,σ[i]?=some (some v)/\Dt K H O v d:=by
 obtain⟨v,h,r⟩:=w.sl i _ e;exact⟨v,iU h,r⟩
theorem Wd.own(w:Wd K H0 O0 H O σ δ){i:Nat}{ds:List R6}(e:δ[i]?=some (some (.o ds))):∃l vs,σ[i]?=some (some (.ref l))/\O l/\¬O0 l/\H l=some (.lst vs)/\aj K H O vs ds:=by
 obtain⟨l,vs,h,r⟩:=w.sl i _ e;exact⟨l,vs,iU h,r⟩
theorem Wd.ownK(w:Wd K H0 O0 H O σ δ){i:Nat}{kd:List (ah×R6)}(e:δ[i]?=some (some (.k kd))):∃l kv,σ[i]?=some (some (.ref l))/\O l/\¬O0 l/\H l=some (.dK kv)/\bo K H O kv kd:=by
 obtain⟨l,vs,h,r⟩:=w.sl i _ e;exact⟨l,vs,iU h,r⟩
theorem Wd.ownI(w:Wd K H0 O0 H O σ δ){i:Nat}{l C:R8}{fd:List (Str×R6)}(e:δ[i]?=some (some (.i l C fd))):∃dx fs,σ[i]?=some (some (.ref l))/\O l/\¬O0 l/\H l=some (.ins C dx fs)/\iT K H O fs fd:=by
 obtain⟨dx,vs,h,r⟩:=w.sl i _ e;exact⟨dx,vs,iU h,r⟩
theorem Wd.adr(w:Wd K H0 O0 H O σ δ){i:Nat}{y:Sl}(e:δ[i]?=some (some y))(h:y.own):∃l,σ[i]?=some (some (.ref l))/\O l/\¬O0 l:=by
 match y,h,e with
 | .o ds,_,e=>obtain⟨l,vs,a,b,c,_⟩:=w.own e;exact⟨l,a,b,c⟩
 | .k ds,_,e=>obtain⟨l,vs,a,b,c,_⟩:=w.ownK e;exact⟨l,a,b,c⟩
 | .i l C ds,_,e=>obtain⟨dx,vs,a,b,c,_⟩:=w.ownI e;exact⟨l,a,b,c⟩
 | .r l C g u fd gd ud,_,e=>obtain⟨a,b,c,_⟩:=w.sl i _ e;exact⟨l,iU a,b,c⟩
theorem Wd.nofrz(w:Wd K H0 O0 H O σ δ){i:Nat}{y:Sl}{l:R8}(e:δ[i]?=some (some y))(h:y.own)(hl:σ[i]?=some (some (.ref l)))(o:Obj)(u:HO):H l≠some (.frz o u):=by
 match y,h,e with
 | .o ds,_,e=>obtain⟨l',vs,a,b,c,d,_⟩:=w.own e;rw [hl] at a;cases a;rw [d];exact λz=>nomatch z
 | .k ds,_,e=>obtain⟨l',vs,a,b,c,d,_⟩:=w.ownK e;rw [hl] at a;cases a;rw [d];exact λz=>nomatch z
 | .i l C ds,_,e=>obtain⟨dx,vs,a,b,c,d,_⟩:=w.ownI e;rw [hl] at a;cases a;rw [d];exact λz=>nomatch z
 | .r l C g u fd gd ud,_,e=>obtain⟨a,b,c,_,_,_,_,_,_,d,_⟩:=w.sl i _ e;have a:=iU a;rw [hl] at a;cases a;rw [d];exact λz=>nomatch z
theorem Wd.set(w:Wd K H0 O0 H O σ δ){i:Nat}{v:V}{d:R6}(h:Dt K H O v d):Wd K H0 O0 H O (σ.set i (some v)) (δ.set i (some (.v d))):=by
 refine⟨w.same,w.sub,w.new,w.trk,by simp [w.len],λj y e=>?_,λj k y z l e1 y1 e2 z2 e3 e4=>?_⟩
 ·by_cases hj:j=i
  ·subst hj;have hl:j < δ.length:=by
    have:=(Lz.mp e).1;simpa using this
   rw [Mt hl] at e;cases e;rw [Mt (by rw [w.len];exact hl)];exact⟨v,rfl,h⟩
  ·rw [Ma (Ne.symm hj)] at e⊢;exact w.sl j y e
 ·have ne:∀{j:Nat}{y:Sl},(δ.set i (some (.v d)))[j]?=some (some y)->y.own->j≠i:=λ{j y} e ho z=>by
   subst z;by_cases hl:j < δ.length
   ·rw [Mt hl] at e;cases e;exact ho
   ·rw [NT (by simpa using hl)] at e;cases e
  have n1:=ne e1 y1;have n2:=ne e2 z2;rw [Ma (Ne.symm n1)] at e1 e3;rw [Ma (Ne.symm n2)] at e2 e4;exact w.dis j k y z l e1 y1 e2 z2 e3 e4
theorem Wd.setY(w:Wd K H0 O0 H O σ δ){i:Nat}{p:R8}{ho:HO}{y0:Sl}(hy:y0.own)(hp:H p=none)(h:∀O',aZ H (ak H p ho) O O'->O' p->¬O0 p->gP K (ak H p ho) O0 O' (some (.ref p)) (some y0)):
 Wd K H0 O0 (ak H p ho) (λl=>O l\/l=p) (σ.set i (some (.ref p))) (δ.set i (some y0)):=by
 have sm:ao H (ak H p ho):=ao.new hp;have np:∀l,O l->l≠p:=λl hl z=>w.trk l hl (by rw [z];exact hp);have p0:H0 p=none:=by
  cases e:H0 p with
  | none=>rfl
  | some o=>rw [w.same _ _ e] at hp;cases hp
 have S:aZ H (ak H p ho) O (λl=>O l\/l=p):=⟨λb o e _=>sm b o e,λb hb hn z=>z.elim hn λq=>hb (by rw [q];exact hp)⟩;have n0:¬O0 p:=λz=>np p (w.sub p z) rfl;refine⟨w.same.trans sm,λl z=>.inl (w.sub l z),λl z=>z.elim (w.new l) λq=>.inr (by rw [q];exact p0),λl z=>?_,by simp [w.len],λj y e=>?_,λj k y z l e1 y1 e2 z2 e3 e4=>?_⟩
 ·by_cases q:l=p
  ·rw [q,bb];exact λz=>nomatch z
  ·rw [aD q];exact w.trk l (z.resolve_right q)
 ·by_cases hj:j=i
  ·subst hj;have hl:j < δ.length:=by
    have:=(Lz.mp e).1;simpa using this
   rw [Mt hl] at e;cases e;rw [Mt (by rw [w.len];exact hl)];exact h _ S (.inr rfl) n0
  ·rw [Ma (Ne.symm hj)] at e⊢;exact(w.sl j y e).go S (λl o _ _ a _ c=>⟨.inl a,sm _ _ c⟩) (λa o u a1 _ a3=>⟨.inl a1,sm _ _ a3⟩) λa o _ a3=>sm _ _ a3
 ·by_cases hj:j=i
  ·by_cases hk:k=i
   ·rw [hj,hk]
   ·exfalso;rw [hj] at e1 e3;have hl:i < σ.length:=by
     have:=(Lz.mp e3).1;simpa using this
    rw [Mt hl] at e3;cases e3;rw [Ma (Ne.symm hk)] at e2 e4;obtain⟨l',x1,x2,_⟩:=w.adr e2 z2;rw [e4] at x1;cases x1;exact np _ x2 rfl
  ·by_cases hk:k=i
   ·exfalso;rw [hk] at e2 e4;have hl:i < σ.length:=by
     have:=(Lz.mp e4).1;simpa using this
    rw [Mt hl] at e4;cases e4;rw [Ma (Ne.symm hj)] at e1 e3;obtain⟨l',x1,x2,_⟩:=w.adr e1 y1;rw [e3] at x1;cases x1;exact np _ x2 rfl
   ·rw [Ma (Ne.symm hj)] at e1 e3;rw [Ma (Ne.symm hk)] at e2 e4;exact w.dis j k _ _ l e1 y1 e2 z2 e3 e4
theorem Wd.setO(w:Wd K H0 O0 H O σ δ){i:Nat}{p:R8}{vs:List V}{ds:List R6}(hp:H p=none)(h:aj K H O vs ds):
 Wd K H0 O0 (ak H p (.lst vs)) (λl=>O l\/l=p) (σ.set i (some (.ref p))) (δ.set i (some (.o ds))):=
 w.setY trivial hp λO' S a b=>⟨p,vs,rfl,a,b,bb,h.step S⟩
theorem Wd.setK(w:Wd K H0 O0 H O σ δ){i:Nat}{p:R8}{kv:List (ah×V)}{kd:List (ah×R6)}(hp:H p=none)(h:bo K H O kv kd):
 Wd K H0 O0 (ak H p (.dK kv)) (λl=>O l\/l=p) (σ.set i (some (.ref p))) (δ.set i (some (.k kd))):=
 w.setY trivial hp λO' S a b=>⟨p,kv,rfl,a,b,bb,h.step S⟩
theorem Wd.putY(w:Wd K H0 O0 H O σ δ){i:Nat}{l:R8}{ho:HO}{y0 y1:Sl}(h0:y0.own)(h1:y1.own)(e:δ[i]?=some (some y0))(hl:σ[i]?=some (some (.ref l)))(h:aZ H (ak H l ho) O O->O l->¬O0 l->gP K (ak H l ho) O0 O (some (.ref l)) (some y1)):
 Wd K H0 O0 (ak H l ho) O σ (δ.set i (some y1)):=by
 obtain⟨l',x1,x2,x3⟩:=w.adr e h0;rw [hl] at x1;cases x1;have l0:H0 l=none:=(w.new l x2).resolve_left x3;have S:aZ H (ak H l ho) O O:=⟨λb o q n=>by rw [aD (λz=>n (by rw [z];exact x2))];exact q,λ_ _ n=>n⟩;have li:i < δ.length:=(Lz.mp e).1;refine⟨λb o q=>by rw [aD (λz=>by rw [z,l0] at q;cases q)];exact w.same b o q,w.sub,w.new,λb z=>?_,by simp [w.len],λj y q=>?_,λj k y z b e1 y1' e2 z2 e3 e4=>?_⟩
 ·by_cases q:b=l
  ·rw [q,bb];exact λz=>nomatch z
  ·rw [aD q];exact w.trk b z
 ·by_cases hj:j=i
  ·subst hj;rw [Mt li] at q;cases q;rw [hl];exact h S x2 x3
  ·rw [Ma (Ne.symm hj)] at q;refine(w.sl j y q).go S (λb o ho' e' a1 a2 a3=>⟨a1,?_⟩) (λb o u a1 a2 a3=>⟨a1,by rw [aD (λz=>w.nofrz e h0 hl o u (by rw [<-z];exact a3))];exact a3⟩) λb o a1 a3=>by rw [aD (λz=>x3 (by rw [<-z];exact a1))];exact a3
   have nb:b≠l:=λz=>by
    subst z
    match y,ho',q with
    | some z,ho',q=>exact hj (w.dis j i z y0 b q (by cases z <;> first | trivial | cases ho') e h0 (iU e') hl)
   rw [aD nb];exact a3
 ·have fN:∀{j:Nat}{y:Sl},(δ.set i (some y1))[j]?=some (some y)->y.own->∃y',δ[j]?=some (some y')/\y'.own:=λ{j y} q hq=>by
   by_cases hj:j=i
   ·subst hj;exact⟨_,e,h0⟩
   ·rw [Ma (Ne.symm hj)] at q;exact⟨_,q,hq⟩
  obtain⟨_,q1,r1⟩:=fN e1 y1';obtain⟨_,q2,r2⟩:=fN e2 z2;exact w.dis j k _ _ b q1 r1 q2 r2 e3 e4
theorem Wd.putO(w:Wd K H0 O0 H O σ δ){i:Nat}{l:R8}{vs us:List V}{ds es:List R6}(e:δ[i]?=some (some (.o ds)))(hl:σ[i]?=some (some (.ref l)))(h:aj K H O us es):
 Wd K H0 O0 (ak H l (.lst us)) O σ (δ.set i (some (.o es))):=
 w.putY (y0:= .o ds) (y1:= .o es) trivial trivial e hl λS a b=>⟨l,us,rfl,a,b,bb,h.step S⟩
theorem Wd.putK(w:Wd K H0 O0 H O σ δ){i:Nat}{l:R8}{kv:List (ah×V)}{kd kd':List (ah×R6)}(e:δ[i]?=some (some (.k kd)))(hl:σ[i]?=some (some (.ref l)))(h:bo K H O kv kd'):
 Wd K H0 O0 (ak H l (.dK kv)) O σ (δ.set i (some (.k kd'))):=
 w.putY (y0:= .k kd) (y1:= .k kd') trivial trivial e hl λS a b=>⟨l,kv,rfl,a,b,bb,h.step S⟩
end
abbrev DT:=Dl->(R6->Prop)->Prop
abbrev DA:=Dl->(List R6->Prop)->Prop
abbrev DB:=Dl->(Bool->Prop)->Prop
structure jw where
 nx:Dl->Prop
 rt:R6->Prop
 bk:Dl->Prop:=λ_=>False
 ct:Dl->Prop:=λ_=>False
abbrev DS:=jw->Dl->Prop
section
variable (K:Ll) (H0:Hp) (O0:Ex)
inductive up (t:DT) (σ:St) (H:Hp) (R:VK):Prop
 | mk (O:Ex) (δ:Dl) (Qd:R6->Prop):Wd K H0 O0 H O σ δ->t δ Qd->(∀d v H',Qd d->ao H H'->Dt K H' O v d->R v H')->up t σ H R
inductive l9 (t:DT) (σ:St) (H:Hp) (R:VK):Prop
 | mk (O:Ex) (δ:Dl) (Qd:R6->Prop):Wd K H0 O0 H O σ δ->t δ Qd->(∀d v H',Qd d->ao H H'->Sh K H' O v d->R v H')->l9 t σ H R
inductive eZ (t:DA) (σ:St) (H:Hp) (R:List V->Hp->Prop):Prop
 | mk (O:Ex) (δ:Dl) (Qd:List R6->Prop):Wd K H0 O0 H O σ δ->t δ Qd->(∀ds vs H',Qd ds->ao H H'->aj K H' O vs ds->R vs H')->eZ t σ H R
inductive bM (t:DB) (σ:St) (H:Hp) (R:Bool->Hp->Prop):Prop
 | mk (O:Ex) (δ:Dl) (Qd:Bool->Prop):Wd K H0 O0 H O σ δ->t δ Qd->(∀b H',Qd b->ao H H'->R b H')->bM t σ H R
inductive bx (t:DS) (D:gL) (σ:St) (H:Hp):Prop
 | mk (O:Ex) (δ:Dl) (E:jw):Wd K H0 O0 H O σ δ->t E δ->(∀O' δ' σ' H',E.nx δ'->Wd K H0 O0 H' O' σ' δ'->aZ H H' O O'->D.nx σ' H')->(∀d v H',E.rt d->ao H0 H'->Dt K H' O0 v d->D.rt v H')->
 (∀O' δ' σ' H',E.bk δ'->Wd K H0 O0 H' O' σ' δ'->aZ H H' O O'->D.bk σ' H')->(∀O' δ' σ' H',E.ct δ'->Wd K H0 O0 H' O' σ' δ'->aZ H H' O O'->D.ct σ' H')->bx t D σ H
end
theorem PE.imp{X:Cx}{e:Sd}{t u:TE}(h:PE X e t)(i:∀σ H Q,u σ H Q->t σ H Q):PE X e u:=λTR s σ H Q I z=>h TR s σ H Q I (i σ H Q z)
theorem PT.imp{X:Cx}{e:Sd}{t u:TT}(h:PT X e t)(i:∀σ H Q,u σ H Q->t σ H Q):PT X e u:=λTR s σ H Q I z=>h TR s σ H Q I (i σ H Q z)
theorem PW.imp{X:Cx}{e:Sd}{t u:TT}(h:PW X e t)(i:∀σ H Q,u σ H Q->t σ H Q):PW X e u:=λwh TR s σ H Q I z=>h wh TR s σ H Q I (i σ H Q z)
theorem PA.imp{X:Cx}{e:List Sd}{t u:TA}(h:PA X e t)(i:∀σ H Q,u σ H Q->t σ H Q):PA X e u:=λpos TR s σ H Q I z=>h pos TR s σ H Q I (i σ H Q z)
theorem PS.imp{X:Cx}{e:Sq}{t u:TS}(h:PS X e t)(i:∀D σ H,u D σ H->t D σ H):PS X e u:=λTR s σ H D I z=>h TR s σ H D I (i D σ H z)
theorem bJ.imp{X:Cx}{e:List Sq}{t u:TS}(h:bJ X e t)(i:∀D σ H,u D σ H->t D σ H):bJ X e u:=λTR s σ H D I z=>h TR s σ H D I (i D σ H z)
section
variable {X:Cx} {H0:Hp} {O0:Ex}
abbrev DE(X:Cx)(H0:Hp)(O0:Ex)(e:Sd)(t:DT):Prop:=PE X e (up X.K H0 O0 t)
abbrev DF(X:Cx)(H0:Hp)(O0:Ex)(e:Sd)(t:DT):Prop:=PE X e (l9 X.K H0 O0 t)
theorem df{e:Sd}{t:DT}(h:DE X H0 O0 e t):DF X H0 O0 e t:=h.imp λσ H Q uu63=>by obtain⟨O,δ,Qd,w,q,k⟩:=uu63;exact⟨O,δ,Qd,w,q,λd v H' a b c=>k d v H' a b (.dt c)⟩
def wI(Q:R6->Prop):Option (Option Sl)->Prop
 | some (some (.v d))=>Q d
 | _=>False
def cF(i:Nat):DT:=λδ Q=>wI Q δ[i]?
theorem FX{Q:R6->Prop}{o:Option (Option Sl)}:wI Q o↔∃d,o=some (some (.v d))/\Q d:=by
 constructor
 ·intro h
  match o,h with
  | some (some (.v d)),h=>exact⟨d,rfl,h⟩
 ·rintro⟨d,rfl,h⟩;exact h
theorem FY{i:Nat}{δ:Dl}{Q:R6->Prop}(h:cF i δ Q):∃d,δ[i]?=some (some (.v d))/\Q d:=FX.mp h
def pL(i:Nat):DT:=λδ Q=>∃ds,δ[i]?=some (some (.o ds))/\Q (.list ds)
def dC(d:R6):DT:=λ_ Q=>Q d
theorem dv(i:Nat){x:Str}{pos:Pos}(hN:X.N[i]?=some x:=by rfl)(hv:jZ X.env.scope x:=by first | exact P8 rfl | exact OI (P8 rfl) | exact OI (OI rfl))
 (hd:(x==("__debug__":Str))=false:=by decide)(hcd:(x==("__classdict__":Str))=false:=by decide):DE X H0 O0 (.Name x pos) (cF i):=
 (oI hN hv hd hcd).imp λσ H Q uu64=>by
  obtain⟨O,δ,Qd,w,dq,k⟩:=uu64;obtain⟨d,e,q⟩:=FY dq;obtain⟨v,h,r⟩:=w.val e;exact⟨v,h,k d v H q (ao.refl _) r⟩
theorem dw(i:Nat){x:Str}{pos:Pos}(hN:X.N[i]?=some x:=by rfl)(hv:jZ X.env.scope x:=by first | exact P8 rfl | exact OI (P8 rfl) | exact OI (OI rfl))
 (hd:(x==("__debug__":Str))=false:=by decide)(hcd:(x==("__classdict__":Str))=false:=by decide):DF X H0 O0 (.Name x pos) (pL i):=
 (oI hN hv hd hcd).imp λσ H Q uu65=>by
  obtain⟨O,δ,Qd,w,⟨ds,e,q⟩,k⟩:=uu65;obtain⟨l,vs,h,_,_,r,rs⟩:=w.own e;exact⟨_,h,k _ _ H q (ao.refl _) (.own r rs)⟩
theorem dc{e:Sd}{v:V}{d:R6}(h:PE X e (tC v))(r:∀H O,Dt X.K H O v d):DE X H0 O0 e (dC d):=h.imp λσ H Q uu66=>by obtain⟨O,δ,Qd,w,q,k⟩:=uu66;exact k d v H q (ao.refl _) (r H O)
theorem af{i j pos}:DE X H0 O0 (.Constant (.int i) j pos) (dC (.int i)):=dc aV λ_ _=>.int i
theorem d5{b j pos}:DE X H0 O0 (.Constant (.bool b) j pos) (dC (.bool b)):=dc DQ λ_ _=>.bl b
theorem mf{j pos}:DE X H0 O0 (.Constant .none j pos) (dC .none):=dc DR λ_ _=>.non
theorem aT{x j pos}:DE X H0 O0 (.Constant (.str x) j pos) (dC (.str x)):=dc oJ λ_ _=>.str x
def jx:DA:=λ_ Q=>Q []
def gQ(t:DT)(u:DA):DA:=λδ Q=>t δ λd=>u δ λds=>Q (d::ds)
theorem ag:PA X [] (eZ X.K H0 O0 jx):=bX.imp λσ H Q uu67=>by obtain⟨O,δ,Qd,w,q,k⟩:=uu67;exact k [] [] H q (ao.refl _) .nil
theorem aa{e:Sd}{es:List Sd}{t:DT}{u:DA}(h:DE X H0 O0 e t)(hs:PA X es (eZ X.K H0 O0 u))(he:Se (e::es) X.env=(false,eval e X.env)::Se es X.env:=by rfl):PA X (e::es) (eZ X.K H0 O0 (gQ t u)):=
 (bw h hs he).imp λσ H Q uu68=>by obtain⟨O,δ,Qd,w,q,k⟩:=uu68;exact⟨O,δ,_,w,q,λd v H1 q1 s1 r1=>⟨O,δ,_,w.mono s1,q1,λds vs H2 q2 s2 r2=>k (d::ds) (v::vs) H2 q2 (s1.trans s2) (.cons (r1.mono s2) r2)⟩⟩
def pM(t:DA):DT:=λδ Q=>t δ λds=>ds.length<=Sb/\Q (.tuple ds)
theorem mh{H:Hp}{O:Ex}{σ:St}{δ:Dl}{H1:Hp}{p:R8}{K:Ll}(w:Wd K H0 O0 H O σ δ)(s:ao H H1)(hp:H1 p=none):¬O p:=λz=>(w.mono s).trk p z hp
theorem bp{es:List Sd}{t:DA}{x1}{pos:Pos}(h:PA X es (eZ X.K H0 O0 t)):DE X H0 O0 (.Tuple es x1 pos) (pM t):=
 (vT h).imp λσ H Q uu69=>by obtain⟨O,δ,Qd,w,q,k⟩:=uu69;exact⟨O,δ,_,w,q,λds vs H1 q1 s1 r1=>⟨by rw [r1.length];exact q1.1,λp hp=>k _ _ _ q1.2 (s1.trans (ao.new hp)) (.tup (.inl bb) (mh w s1 hp) (r1.mono (ao.new hp)))⟩⟩
end
theorem aZ.refl(H:Hp)(O:Ex):aZ H H O O:=⟨λ_ _ e _=>e,λ_ _ n=>n⟩
theorem aZ.trans{H H1 H2:Hp}{O O1 O2:Ex}(a:aZ H H1 O O1)(b:aZ H1 H2 O1 O2):aZ H H2 O O2:=by
 refine⟨λc o e n=>?_,λc e n=>?_⟩
 ·have h1:=a.keep c o e n;exact b.keep c o h1 (a.out c (by rw [e];exact λz=>nomatch z) n)
 ·cases q:H c with
  | none=>exact absurd q e
  | some o=>exact b.out c (by rw [a.keep c o q n];exact λz=>nomatch z) (a.out c e n)
section
variable {X:Cx} {H0:Hp} {O0:Ex}
def cv(K:Ll)(r:R2)(rd:R6->R6->(R6->Prop)->Prop):Prop:=
 ∀(H:Hp)(O:Ex)(x y:V)(dx dy:R6)(Qd:R6->Prop)(R:VK),(∀l,O l->H l≠none)->Sh K H O x dx->Sh K H O y dy->rd dx dy Qd->(∀d v H',Qd d->ao H H'->Dt K H' O v d->R v H')->r x y H R
def fb(rd:R6->R6->(R6->Prop)->Prop)(ta tb:DT):DT:=λδ Q=>ta δ λx=>tb δ λy=>rd x y Q
theorem mi{K:Ll}{r:R2}{rd:R6->R6->(R6->Prop)->Prop}{ta tb:DT}(hd:cv K r rd):∀σ H Q,up K H0 O0 (fb rd ta tb) σ H Q->jo r (l9 K H0 O0 ta) (l9 K H0 O0 tb) σ H Q:=
 λσ H Q uu70=>by obtain⟨O,δ,Qd,w,q,k⟩:=uu70;exact⟨O,δ,_,w,q,λx v H1 q1 s1 r1=>⟨O,δ,_,w.mono s1,q1,λy u H2 q2 s2 r2=>hd H2 O v u x y Qd _ (w.mono (s1.trans s2)).trk (r1.mono s2) r2 q2 λd z H3 qd s3 r3=>k d z H3 qd (s1.trans (s2.trans s3)) r3⟩⟩
theorem FZ{a b:Sd}{ta tb:DT}{op:Operator}{r:R2}{rd:R6->R6->(R6->Prop)->Prop}{pos:Pos}(ho:bK X (SQ op) r)(hd:cv X.K r rd)(ha:DF X H0 O0 a ta)(hb:DF X H0 O0 b tb):DE X H0 O0 (.BinOp a op b pos) (fb rd ta tb):=(aX ho ha hb).imp (mi hd)
theorem fv{a b:Sd}{ta tb:DT}{op:CmpOp}{r:R2}{rd:R6->R6->(R6->Prop)->Prop}{pos:Pos}(ho:bK X (Sv op) r)(hd:cv X.K r rd)(ha:DF X H0 O0 a ta)(hb:DF X H0 O0 b tb)(hm:SD op b=false):DE X H0 O0 (.Compare a [op] [b] pos) (fb rd ta tb):=(lR ho ha hb hm).imp (mi hd)
def gR(t:DT):DB:=λδ Q=>t δ λd=>∃b,d= .bool b/\Q b
theorem wJ{a b:Sd}{ta tb:DT}{op:CmpOp}{r:R2}{rd:R6->R6->(R6->Prop)->Prop}{pos:Pos}(ho:bK X (Sv op) r)(hd:cv X.K r rd)(ha:DF X H0 O0 a ta)(hb:DF X H0 O0 b tb)(hm:SD op b=false):PT X (.Compare a [op] [b] pos) (bM X.K H0 O0 (gR (fb rd ta tb))):=
 (gn ho ha hb hm).imp λσ H Q uu71=>by obtain⟨O,δ,Qd,w,q,k⟩:=uu71;exact mi hd σ H _ ⟨O,δ,_,w,q,λd v H' uu72 s r=>by obtain⟨b,e,qb⟩:=uu72;subst e;cases r;exact⟨b,rfl,k b H' qb s⟩⟩
theorem ib{e:Sd}{t:DT}(h:DE X H0 O0 e t)(he:∀whole,isTrue e X.env whole=(do let v<-whole;standAt e.pos;To [v] (truthy v)):=by intro _;rfl):PT X e (bM X.K H0 O0 (gR t)):=
 (uP h he).imp λσ H Q uu73=>by obtain⟨O,δ,Qd,w,q,k⟩:=uu73;exact⟨O,δ,_,w,q,λd v H' uu74 s r=>by obtain⟨b,e,qb⟩:=uu74;subst e;cases r;exact⟨b,rfl,k b H' qb s⟩⟩
def pN(t u:DB):DB:=λδ Q=>t δ λc=>if c=true then u δ Q else Q false
def pO(t u:DB):DB:=λδ Q=>t δ λc=>if c=true then Q true else u δ Q
def pP(t:DB):DB:=λδ Q=>t δ λc=>Q (!c)
theorem ic{a:Sd}{t:DB}{pos:Pos}(h:PT X a (bM X.K H0 O0 t)):PW X (.BoolOp .And [a] pos) (bM X.K H0 O0 t):=uT h
theorem mj{a:Sd}{t:DB}{pos:Pos}(h:PT X a (bM X.K H0 O0 t)):PW X (.BoolOp .Or [a] pos) (bM X.K H0 O0 t):=uU h
theorem gS{a b:Sd}{rest:List Sd}{t u:DB}{pos:Pos}(h:PT X a (bM X.K H0 O0 t))(hb:PW X (.BoolOp .And (b::rest) pos) (bM X.K H0 O0 u)):PW X (.BoolOp .And (a::b::rest) pos) (bM X.K H0 O0 (pN t u)):=
 (uV h hb).imp λσ H Q uu75=>by obtain⟨O,δ,Qd,w,q,k⟩:=uu75;exact⟨O,δ,_,w,q,λc H1 q1 s1=>by
  cases c with
  | true=>exact⟨O,δ,_,w.mono s1,q1,λb H2 q2 s2=>k b H2 q2 (s1.trans s2)⟩
  | false=>exact k false H1 q1 s1⟩
theorem mm{a b:Sd}{rest:List Sd}{t u:DB}{pos:Pos}(h:PT X a (bM X.K H0 O0 t))(hb:PW X (.BoolOp .Or (b::rest) pos) (bM X.K H0 O0 u)):PW X (.BoolOp .Or (a::b::rest) pos) (bM X.K H0 O0 (pO t u)):=
 (uW h hb).imp λσ H Q uu76=>by obtain⟨O,δ,Qd,w,q,k⟩:=uu76;exact⟨O,δ,_,w,q,λc H1 q1 s1=>by
  cases c with
  | false=>exact⟨O,δ,_,w.mono s1,q1,λb H2 q2 s2=>k b H2 q2 (s1.trans s2)⟩
  | true=>exact k true H1 q1 s1⟩
theorem kq{a:Sd}{t:DB}{pos:Pos}(h:PT X a (bM X.K H0 O0 t)):PT X (.UnaryOp .Not a pos) (bM X.K H0 O0 (pP t)):=
 (DV h).imp λσ H Q uu77=>by obtain⟨O,δ,Qd,w,q,k⟩:=uu77;exact⟨O,δ,_,w,q,λc H1 q1 s1=>k (!c) H1 q1 s1⟩
def pQ(t u:DT):DT:=λδ Q=>t δ λd=>∃c,d= .bool c/\if c=true then u δ Q else Q (.bool false)
def pR(t u:DT):DT:=λδ Q=>t δ λd=>∃c,d= .bool c/\if c=true then Q (.bool true) else u δ Q
theorem mn{op}{a:Sd}{t:DT}{pos:Pos}(h:DE X H0 O0 a t):DE X H0 O0 (.BoolOp op [a] pos) t:=oK h
theorem pT{a b:Sd}{rest:List Sd}{t u:DT}{pos:Pos}(h:DE X H0 O0 a t)(hb:DE X H0 O0 (.BoolOp .And (b::rest) pos) u):DE X H0 O0 (.BoolOp .And (a::b::rest) pos) (pQ t u):=
 (uZ h hb).imp λσ H Q ⟨O,δ,Qd,w,q,k⟩=>⟨O,δ,_,w,q,λd v H1 uu79 s1 r=>by
  obtain⟨c,e,q1⟩:=uu79;subst e;cases r;refine⟨c,rfl,?_⟩;cases c with
  | true=>exact⟨O,δ,_,w.mono s1,q1,λd v H2 q2 s2 r2=>k d v H2 q2 (s1.trans s2) r2⟩
  | false=>exact k _ _ H1 q1 s1 (.bl false)⟩
theorem F0{a b:Sd}{rest:List Sd}{t u:DT}{pos:Pos}(h:DE X H0 O0 a t)(hb:DE X H0 O0 (.BoolOp .Or (b::rest) pos) u):DE X H0 O0 (.BoolOp .Or (a::b::rest) pos) (pR t u):=
 (va h hb).imp λσ H Q ⟨O,δ,Qd,w,q,k⟩=>⟨O,δ,_,w,q,λd v H1 uu81 s1 r=>by
  obtain⟨c,e,q1⟩:=uu81;subst e;cases r;refine⟨c,rfl,?_⟩;cases c with
  | false=>exact⟨O,δ,_,w.mono s1,q1,λd v H2 q2 s2 r2=>k d v H2 q2 (s1.trans s2) r2⟩
  | true=>exact k _ _ H1 q1 s1 (.bl true)⟩
def pU(c:DB)(t u:DT):DT:=λδ Q=>c δ λb=>if b=true then t δ Q else u δ Q
theorem pV{c a b:Sd}{tc:DB}{t u:DT}{pos:Pos}(hc:PT X c (bM X.K H0 O0 tc))(ha:DE X H0 O0 a t)(hb:DE X H0 O0 b u):DE X H0 O0 (.IfExp c a b pos) (pU tc t u):=
 (vc hc ha hb).imp λσ H Q uu82=>by obtain⟨O,δ,Qd,w,q,k⟩:=uu82;exact⟨O,δ,_,w,q,λc H1 q1 s1=>by
  cases c with
  | true=>exact⟨O,δ,_,w.mono s1,q1,λd v H2 q2 s2 r2=>k d v H2 q2 (s1.trans s2) r2⟩
  | false=>exact⟨O,δ,_,w.mono s1,q1,λd v H2 q2 s2 r2=>k d v H2 q2 (s1.trans s2) r2⟩⟩
inductive bf (K:Ll) (F:List R6->(R6->Prop)->Prop) (vs:List V) (H:Hp) (Q:VK) (E:XK):Prop
 | mk (O:Ex) (ds:List R6) (Qd:R6->Prop):(∀l,O l->H l≠none)->aj K H O vs ds->F ds Qd->(∀d v H',Qd d->ao H H'->Dt K H' O v d->Q v H')->bf K F vs H Q E
def ie(F:List R6->(R6->Prop)->Prop)(t:DA):DT:=λδ Q=>t δ λds=>F ds Q
theorem F1{K:Ll}{F:List R6->(R6->Prop)->Prop}{t:DA}{E:XK}:∀σ H Q,up K H0 O0 (ie F t) σ H Q->lT (bf K F) [] E (eZ K H0 O0 t) σ H Q:=
 λσ H Q uu83=>by obtain⟨O,δ,Qd,w,q,k⟩:=uu83;exact⟨O,δ,_,w,q,λds vs H1 q1 s1 r1=>⟨O,ds,Qd,(w.mono s1).trk,by rw [Mw];exact r1,q1,λd v H2 q2 s2 r2=>k d v H2 q2 (s1.trans s2) r2⟩⟩
inductive jy (K:Ll) (H:Hp) (O:Ex):List V->List R6->Prop
 | nil:jy K H O [] []
 | cons {v:V} {d:R6} {vs:List V} {ds:List R6}:Sh K H O v d->jy K H O vs ds->jy K H O (v::vs) (d::ds)
inductive dS (K:Ll) (H0:Hp) (O0:Ex) (t:DA) (σ:St) (H:Hp) (R:List V->Hp->Prop):Prop
 | mk (O:Ex) (δ:Dl) (Qd:List R6->Prop):Wd K H0 O0 H O σ δ->t δ Qd->(∀ds vs H',Qd ds->ao H H'->jy K H' O vs ds->R vs H')->dS K H0 O0 t σ H R
theorem aO:PA X [] (dS X.K H0 O0 jx):=bX.imp λσ H Q uu84=>by obtain⟨O,δ,Qd,w,q,k⟩:=uu84;exact k [] [] H q (ao.refl _) .nil
theorem gT{e:Sd}{es:List Sd}{t:DT}{u:DA}(h:DF X H0 O0 e t)(hs:PA X es (dS X.K H0 O0 u))(he:Se (e::es) X.env=(false,eval e X.env)::Se es X.env:=by rfl):PA X (e::es) (dS X.K H0 O0 (gQ t u)):=
 (bw h hs he).imp λσ H Q uu85=>by obtain⟨O,δ,Qd,w,q,k⟩:=uu85;exact⟨O,δ,_,w,q,λd v H1 q1 s1 r1=>⟨O,δ,_,w.mono s1,q1,λds vs H2 q2 s2 r2=>k (d::ds) (v::vs) H2 q2 (s1.trans s2) (.cons (r1.mono s2) r2)⟩⟩
def gw(K:Ll)(r:List V->Hp->VK->Prop)(rd:List R6->(R6->Prop)->Prop):Prop:=
 ∀(H:Hp)(O:Ex)(xs:List V)(ds:List R6)(Qd:R6->Prop)(R:VK),(∀l,O l->H l≠none)->jy K H O xs ds->rd ds Qd->(∀d v H',Qd d->ao H H'->Dt K H' O v d->R v H')->r xs H R
theorem bt{K:Ll}{r:List V->Hp->VK->Prop}{rd:List R6->(R6->Prop)->Prop}{t:DA}(hd:gw K r rd):∀σ H Q,up K H0 O0 (ie rd t) σ H Q->lU r (dS K H0 O0 t) σ H Q:=
 λσ H Q uu86=>by obtain⟨O,δ,Qd,w,q,k⟩:=uu86;exact⟨O,δ,_,w,q,λds vs H1 q1 s1 r1=>hd H1 O vs ds Qd _ (w.mono s1).trk r1 q1 λd v H2 q2 s2 r2=>k d v H2 q2 (s1.trans s2) r2⟩
def pW(t u:DS):DS:=λE δ=>t {E with nx:=u E} δ
theorem ar{st:Sq}{rest:List Sq}{t u:DS}(h:PS X st (bx X.K H0 O0 t))(h2:bJ X rest (bx X.K H0 O0 u)):bJ X (st::rest) (bx X.K H0 O0 (pW t u)):=
 (cu h h2).imp λD σ H uu87=>by obtain⟨O,δ,E,w,q,k1,k2,k3,k4⟩:=uu87;exact⟨O,δ,_,w,q,λO' δ' σ' H' z w' S=>⟨O',δ',E,w',z,λO2 δ2 σ2 H2 z2 w2 S2=>k1 O2 δ2 σ2 H2 z2 w2 (S.trans S2),k2,λO2 δ2 σ2 H2 z2 w2 S2=>k3 O2 δ2 σ2 H2 z2 w2 (S.trans S2),λO2 δ2 σ2 H2 z2 w2 S2=>k4 O2 δ2 σ2 H2 z2 w2 (S.trans S2)⟩,k2,k3,k4⟩
def pX:DS:=λE δ=>E.nx δ
theorem bG:bJ X [] (bx X.K H0 O0 pX):=iL.imp λD σ H uu88=>by obtain⟨O,δ,E,w,q,k1,k2,k3,k4⟩:=uu88;exact k1 O δ σ H q w (aZ.refl _ _)
theorem az{st:Sq}{t:DS}(h:PS X st (bx X.K H0 O0 t)):bJ X [st] (bx X.K H0 O0 t):=c9 h
def mq(i:Nat)(t:DT):DS:=λE δ=>t δ λd=>E.nx (δ.set i (some (.v d)))
theorem bu{i:Nat}{x:Str}{e:Sd}{t:DT}{pos pos':Pos}(hN:X.N.Nodup)(hi:X.N[i]?=some x)(hx:gc X.env.scope x)(he:DE X H0 O0 e t)(hs:Sx e (some (.Name x pos')) pos.line X.env=pure false:=by rfl)(hf:X.fn x=true\/X.env.scope.names.lookup x=some .local:=by first | exact .inl rfl | exact .inr rfl | assumption):
 PS X (.Assign [.Name x pos'] e pos) (bx X.K H0 O0 (mq i t)):=
 (cV hN hi hx he hs hf).imp λD σ H uu89=>by obtain⟨O,δ,E,w,q,k1,k2,k3,k4⟩:=uu89;exact⟨O,δ,_,w,q,λd v H1 q1 s1 r1=>k1 O _ _ H1 q1 ((w.mono s1).set r1) (.same s1)⟩
def pY(t:DT):DS:=λE δ=>t δ E.rt
theorem fN{K:Ll}{H:Hp}{O:Ex}{σ:St}{δ:Dl}(w:Wd K H0 O0 H O σ δ):aZ H H O O0:=⟨λ_ _ e _=>e,λb _ n z=>n (w.sub b z)⟩
theorem aH{e:Sd}{t:DT}{pos:Pos}(he:DE X H0 O0 e t):PS X (.Return (some e) pos) (bx X.K H0 O0 (pY t)):=
 (dG he).imp λD σ H uu90=>by obtain⟨O,δ,E,w,q,k1,k2,k3,k4⟩:=uu90;exact⟨O,δ,_,w,q,λd v H1 q1 s1 r1=>k2 d v H1 q1 (w.same.trans s1) (r1.step (fN (w.mono s1)))⟩
def pZ(i:Nat):DS:=λE δ=>∃ds,δ[i]?=some (some (.o ds))/\E.rt (.list ds)
theorem wK{e:Sd}{i:Nat}{pos:Pos}(he:PE X e (c7 i)):PS X (.Return (some e) pos) (bx X.K H0 O0 (pZ i)):=
 (dG he).imp λD σ H uu91=>by
  obtain⟨O,δ,E,w,⟨ds,e,q⟩,k1,k2,k3,k4⟩:=uu91;obtain⟨l,vs,h,a,b,c,r⟩:=w.own e;exact⟨_,h,k2 _ _ H q w.same (.lst (.inl c) b (r.step (fN w)))⟩
def p5(c:DB)(t u:DS):DS:=λE δ=>c δ λb=>if b=true then t E δ else u E δ
theorem bH{c:Sd}{a b:List Sq}{tc:DB}{t u:DS}{pos:Pos}(hc:PT X c (bM X.K H0 O0 tc))(ha:bJ X a (bx X.K H0 O0 t))(hb:bJ X b (bx X.K H0 O0 u)):PS X (.If c a b pos) (bx X.K H0 O0 (p5 tc t u)):=
 (iM hc ha hb).imp λD σ H uu92=>by obtain⟨O,δ,E,w,q,k1,k2,k3,k4⟩:=uu92;exact⟨O,δ,_,w,q,λc H1 q1 s1=>by
  have g:∀{t':DS},t' E δ->bx X.K H0 O0 t' D σ H1:=λz=>⟨O,δ,E,w.mono s1,z,λO2 δ2 σ2 H2 z2 w2 S2=>k1 O2 δ2 σ2 H2 z2 w2 (aZ.trans (.same s1) S2),k2,λO2 δ2 σ2 H2 z2 w2 S2=>k3 O2 δ2 σ2 H2 z2 w2 (aZ.trans (.same s1) S2),λO2 δ2 σ2 H2 z2 w2 S2=>k4 O2 δ2 σ2 H2 z2 w2 (aZ.trans (.same s1) S2)⟩;cases c with
  | true=>exact g q1
  | false=>exact g q1⟩
def p7(t:DT):DS:=λE δ=>t δ λ_=>E.nx δ
theorem F2{e:Sd}{t:DT}{pos:Pos}(he:DE X H0 O0 e t)(hs:Sx e none pos.line X.env=pure false:=by rfl):PS X (.Expr e pos) (bx X.K H0 O0 (p7 t)):=
 (j3 he hs).imp λD σ H uu93=>by obtain⟨O,δ,E,w,q,k1,k2,k3,k4⟩:=uu93;exact⟨O,δ,_,w,q,λd v H1 q1 s1 r1=>k1 O δ σ H1 q1 (w.mono s1) (.same s1)⟩
inductive jz (K:Ll) (H0:Hp) (O0:Ex) (t:DA) (σ:St) (H:Hp) (R:VK):Prop
 | mk (O:Ex) (δ:Dl) (Qd:List R6->Prop):Wd K H0 O0 H O σ δ->t δ Qd->(∀ds vs p H',Qd ds->ao H H'->H' p=none->aj K H' O vs ds->R (.ref p) (ak H' p (.lst vs)))->jz K H0 O0 t σ H R
abbrev FE(X:Cx)(H0:Hp)(O0:Ex)(e:Sd)(t:DA):Prop:=PE X e (jz X.K H0 O0 t)
def dL(t:DA):DT:=λδ Q=>t δ λds=>Q (.list ds)
theorem fe{e:Sd}{t:DA}(h:FE X H0 O0 e t):DE X H0 O0 e (dL t):=
 h.imp λσ H Q uu94=>by obtain⟨O,δ,Qd,w,q,k⟩:=uu94;exact⟨O,δ,_,w,q,λds vs p H1 q1 s1 hp r1=>k _ _ _ q1 (s1.trans (ao.new hp)) (.lst (.inl bb) (mh w s1 hp) (r1.mono (ao.new hp)))⟩
def mr(t:DA):DA:=λδ Q=>t δ λds=>ds.length<=Sb/\Q ds
theorem cL{es:List Sd}{t:DA}{pos:Pos}(h:PA X es (eZ X.K H0 O0 t)):FE X H0 O0 (.List es pos) (mr t):=
 (vU h).imp λσ H Q uu95=>by obtain⟨O,δ,Qd,w,q,k⟩:=uu95;exact⟨O,δ,_,w,q,λds vs H1 q1 s1 r1=>⟨by rw [r1.length];exact q1.1,λp hp=>k _ _ _ _ q1.2 s1 hp r1⟩⟩
def p8(i:Nat)(t:DA):DS:=λE δ=>t δ λds=>E.nx (δ.set i (some (.o ds)))
theorem ig{i:Nat}{x:Str}{e:Sd}{t:DA}{pos pos':Pos}(hN:X.N.Nodup)(hi:X.N[i]?=some x)(hx:gc X.env.scope x)(he:FE X H0 O0 e t)(hs:Sx e (some (.Name x pos')) pos.line X.env=pure false:=by rfl)(hf:X.fn x=true\/X.env.scope.names.lookup x=some .local:=by first | exact .inl rfl | exact .inr rfl | assumption):
 PS X (.Assign [.Name x pos'] e pos) (bx X.K H0 O0 (p8 i t)):=
 (cV hN hi hx he hs hf).imp λD σ H ⟨O,δ,E,w,q,k1,k2,k3,k4⟩=>⟨O,δ,_,w,q,λds vs p H1 q1 s1 hp r1=>k1 _ _ _ _ q1 ((w.mono s1).setO hp r1)
  ⟨λb o e _=>(s1.trans (ao.new hp)) b o e,λb e n z=>z.elim n λy=>by
   cases q:H b with
   | none=>exact e q
   | some o=>have:=s1 _ _ q;rw [y,hp] at this;cases this⟩⟩
def p9(i:Nat)(t:DT):DS:=λE δ=>∃ds,δ[i]?=some (some (.o ds))/\t δ λd=>ds.length < Sb/\E.nx (δ.set i (some (.o (ds++[d]))))
theorem mv{i:Nat}{o e:Sd}{t:DT}{apos cpos pos:Pos}(ho:PE X o (c7 i))(he:DE X H0 O0 e t)(hbase:SJ o "append" X.env (eval o X.env)=eval o X.env:=by rfl)
 (hfew:((Sy cpos (Se [e] X.env)).all (λx=>!x.1) && (Ti cpos (S4 [] X.env)).all (λx=>x.1.isSome) && decide ([e].length+([]:List SS).length+(if ([]:List SS).isEmpty then 0 else 1) < 30))=true:=by rfl)
 (hline:(apos.endLine==cpos.line)=true:=by rfl)(hst:Se [e] X.env=(false,eval e X.env)::Se [] X.env:=by rfl)(hplain:(Sy cpos (Se [] X.env)).any (·.1)=false:=by rfl)
 (hs:Sx (.Call (.Attribute o "append" apos) [e] [] cpos) none pos.line X.env=pure false:=by rfl):PS X (.Expr (.Call (.Attribute o "append" apos) [e] [] cpos) pos) (bx X.K H0 O0 (p9 i t)):=
 (j3 (km NC PySem.F.slot_list_append PySem.F.type_list_append wk ho (bw he bX hst) hbase hfew hline hst hplain) hs).imp λD σ H uu0=>by
  obtain⟨O,δ,E,w,⟨ds,e,q⟩,k1,k2,k3,k4⟩:=uu0;obtain⟨l,vs,h,a,b,c,r⟩:=w.own e;refine⟨_,h,.inl ⟨rfl,_,aN.of c⟩,O,δ,_,w,q,λd v H1 q1 s1 r1=>?_⟩;refine⟨l,vs,v,rfl,rfl,s1 _ _ c,by rw [r.length];exact q1.1,?_⟩;exact k1 _ _ _ _ q1.2 ((w.mono s1).putO (vs:=vs) e h ((r.mono s1).append (.cons r1 .nil))) ⟨λb' o' z n=>by rw [aD (λy=>n (by rw [y];exact a))];exact s1 _ _ z,λ_ _ n=>n⟩
end
structure cf (J:It) (P:Hp->Prop) (vs:List V):Prop where
 go:∀i H',P H'->i < vs.length->J.go i H'
 yl:∀i H' x H'',P H'->i < vs.length->J.yld i H' x H''->H''=H'/\vs[i]?=some x
 st:∀i H',P H'->vs.length<=i->J.stop i H'
def mw(H1:Hp)(a:R8)(H':Hp):Prop:=∀o,H1 a=some o->H' a=some o
theorem aN.keep{K:Ll}{H H':Hp}{a:R8}{xs:List V}(s:mw H a H')(h:aN K H a xs):aN K H' a xs:=by
 rcases h with(h | ⟨o,h⟩) | h
 ·exact .inl (.inl (s _ h))
 ·exact .inl (.inr ⟨o,s _ h⟩)
 ·exact .inr h
theorem aW.keep{K:Ll}{H H':Hp}{a:R8}{xs:List V}(s:mw H a H')(h:aW K H a xs):aW K H' a xs:=by
 rcases h with(h | ⟨o,h⟩) | h
 ·exact .inl (.inl (s _ h))
 ·exact .inl (.inr ⟨o,s _ h⟩)
 ·exact .inr h
theorem cf.list{K:Ll}{H:Hp}{a:R8}{vs:List V}(h:aN K H a vs):cf (j7 K a) (mw H a) vs:=
 ⟨λi H' s hi=>⟨vs,vs[i],h.keep s,by simp [hi]⟩,λi H' x H'' s _ y=>⟨y.1,y.2 vs (h.keep s)⟩,λi H' s hi=>⟨vs,h.keep s,hi⟩⟩
theorem cf.tup{K:Ll}{H:Hp}{a:R8}{vs:List V}(h:aW K H a vs):cf (j9 K a) (mw H a) vs:=
 ⟨λi H' s hi=>⟨vs,vs[i],h.keep s,by simp [hi]⟩,λi H' x H'' s _ y=>⟨y.1,y.2 vs (h.keep s)⟩,λi H' s hi=>⟨vs,h.keep s,hi⟩⟩
def gU(lo:Int)(n:Nat):List R6:=(Mv n).map λ(k:Nat)=>.int (lo+k)
theorem cf.rng{lo:Int}{n:Nat}:cf (gm lo n) (λ_=>True) ((Mv n).map λ(k:Nat)=>V.int (lo+k)):=by
 refine⟨λi H' s hi=>(by simpa using hi:i < n),λi H' x H'' s hi y=>⟨y.1,?_⟩,λi H' s hi=>(by simpa using hi:n<=i)⟩;obtain⟨_,rfl⟩:=y;have hn:i < n:=by simpa using hi
 simp [hn]
theorem aj.rng{K:Ll}{H:Hp}{O:Ex}{lo:Int}:∀(l:List Nat),aj K H O (l.map λ(k:Nat)=>V.int (lo+k)) (l.map λ(k:Nat)=>Ly (lo+k))
 | []=>.nil
 | n::r=>.cons (.int _) (aj.rng r)
abbrev DG:=R6->Dl->(Dl->Prop)->Prop
def GD(K:Ll)(g:TG)(dg:DG):Prop:=∀(H0:Hp)(O0:Ex)(H:Hp)(O:Ex)(σ:St)(δ:Dl)(v:V)(x:R6)(R:St->Hp->Prop)(Qd:Dl->Prop),Wd K H0 O0 H O σ δ->Dt K H O v x->dg x δ Qd->(∀δ' σ',Qd δ'->Wd K H0 O0 H O σ' δ'->R σ' H)->g v σ H R
def kr(i:Nat):DG:=λx δ Q=>Q (δ.set i (some (.v x)))
theorem aK{K:Ll}{i:Nat}:GD K (gg i) (kr i):=λH0 O0 H O σ δ v x R Qd w r q k=>k _ _ q (w.set r)
abbrev iV:=List R6->Dl->(Dl->Prop)->Prop
def my(K:Ll)(g:gf)(dg:iV):Prop:=∀(H0:Hp)(O0:Ex)(H:Hp)(O:Ex)(σ:St)(δ:Dl)(vs:List V)(xs:List R6)(R:St->Hp->Prop)(Qd:Dl->Prop),Wd K H0 O0 H O σ δ->aj K H O vs xs->dg xs δ Qd->(∀δ' σ',Qd δ'->Wd K H0 O0 H O σ' δ'->R σ' H)->g vs σ H R
def qa:iV:=λxs δ Q=>xs=[]/\Q δ
def qc(t:DG)(u:iV):iV:=λxs δ Q=>∃x r,xs=x::r/\t x δ λδ'=>u r δ' Q
theorem gW{K:Ll}:my K lH qa:=λH0 O0 H O σ δ vs xs R Qd w r uu1 k=>by obtain⟨e,q⟩:=uu1;subst e;cases r;exact⟨rfl,k _ _ q w⟩
theorem cG{K:Ll}{t:TG}{u:gf}{dt:DG}{du:iV}(h:GD K t dt)(h2:my K u du):my K (j4 t u) (qc dt du):=λH0 O0 H O σ δ vs xs R Qd w r uu2 k=>by
 obtain⟨x,rr,e,q⟩:=uu2;subst e;cases r with
 | cons r1 r2=>exact⟨_,_,rfl,h H0 O0 H O σ δ _ _ _ _ w r1 q λδ' σ' q' w'=>h2 H0 O0 H O σ' δ' _ _ R Qd w' r2 q' k⟩
def qf(n:Nat)(t:iV):DG:=λx δ Q=>∃xs,x= .tuple xs/\xs.length=n/\t xs δ Q
theorem gX{K:Ll}{n:Nat}{t:gf}{dt:iV}(h:my K t dt):GD K (lI K n t) (qf n dt):=λH0 O0 H O σ δ v x R Qd w r uu3 k=>by
 obtain⟨xs,e,hl,q⟩:=uu3;subst e;obtain⟨a,vs,rfl,hs,rr⟩:=(Sh.dt r).tup;exact⟨a,vs,rfl,hs,by rw [rr.length];exact hl,h H0 O0 H O σ δ _ _ R Qd w rr q k⟩
section
variable {X:Cx} {H0:Hp} {O0:Ex}
def qg(t:DT)(g:DG):DS:=λE δ=>t δ λd=>g d δ E.nx
theorem mz{tg e:Sd}{t:DT}{g:TG}{dg:DG}{pos:Pos}(he:DE X H0 O0 e t)(hg:PG X tg g)(gd:GD X.K g dg)(hs:TC [tg] e pos.line X.env=pure false:=by rfl)(hw:TF [tg] e X.env=pure none:=by rfl)
 (h1:(Tb [tg] X.env).map (·.2)=[assign tg X.env]:=by rfl):PS X (.Assign [tg] e pos) (bx X.K H0 O0 (qg t dg)):=
 (lJ he hg hs hw h1).imp λD σ H uu4=>by obtain⟨O,δ,E,w,q,k1,k2,k3,k4⟩:=uu4;exact⟨O,δ,_,w,q,λd v H1 q1 s1 r1=>gd H0 O0 H1 O σ δ v d _ _ (w.mono s1) r1 q1 λδ' σ' q' w'=>k1 O δ' σ' H1 q' w' (.same s1)⟩
def qi(i j:Nat)(t:DA):DS:=λE δ=>t δ λds=>∃x y,ds=[x,y]/\E.nx ((δ.set i (some (.v x))).set j (some (.v y)))
theorem wL{i j:Nat}{x y:Str}{a b:Sd}{ta:DA}{px py pt pos:Pos}{kt k2 pt2}(hc:X.calm=true)(hN:X.N.Nodup)(hi:X.N[i]?=some x)(hj:X.N[j]?=some y)(hij:i≠j)
 (hx:X.env.scope.names.lookup x=some .local)(hy:X.env.scope.names.lookup y=some .local)(ha:PA X [a,b] (eZ X.K H0 O0 ta))
 (hw:TF [.Tuple [.Name x px,.Name y py] kt pt] (.Tuple [a,b] k2 pt2) X.env=pure (some [x,y]))
 (hs:TC [.Tuple [.Name x px,.Name y py] kt pt] (.Tuple [a,b] k2 pt2) pos.line X.env=pure false:=by rfl):
 PS X (.Assign [.Tuple [.Name x px,.Name y py] kt pt] (.Tuple [a,b] k2 pt2) pos) (bx X.K H0 O0 (qi i j ta)):=
 (DZ hc hN hi hj hij hx hy ha hw hs).imp λD σ H uu5=>by obtain⟨O,δ,E,w,q,k1,k2,k3,k4⟩:=uu5;exact⟨O,δ,_,w,q,λds vs H1 uu6 s1 r1=>by
  obtain⟨d1,d2,e,q1⟩:=uu6;subst e;cases r1 with
  | cons r1 r2=>
   cases r2 with
   | cons r2 r3=>
    cases r3;exact⟨_,_,rfl,k1 _ _ _ _ q1 (((w.mono s1).set r1).set r2) (.same s1)⟩⟩
def iW(g:DG)(tb:DS)(E:jw):List R6->Dl->Prop
 | [],δ=>E.nx δ
 | x::xs,δ=>g x δ λδ2=>tb {E with nx:=iW g tb E xs,ct:=iW g tb E xs,bk:=E.nx} δ2
theorem Lg{K:Ll}{J:It}{P:Hp->Prop}{vs:List V}{xs:List R6}{g:TG}{dg:DG}{tb:DS}{D:gL}{E:jw}{σ:St}{H:Hp}{O:Ex}{δ:Dl}(S:cf J P vs)(gd:GD K g dg)
 (hP:∀H' O',aZ H H' O O'->P H')(r:aj K H O vs xs)(w:Wd K H0 O0 H O σ δ)(q:iW dg tb E xs δ)
 (k1:∀O' δ' σ' H',E.nx δ'->Wd K H0 O0 H' O' σ' δ'->aZ H H' O O'->D.nx σ' H')(k2:∀d v H',E.rt d->ao H0 H'->Dt K H' O0 v d->D.rt v H'):FR J g (bx K H0 O0 tb) D σ H:=by
 refine⟨λi m σ' H'=>∃O' δ',m=vs.length - i/\i<=vs.length/\Wd K H0 O0 H' O' σ' δ'/\aZ H H' O O'/\iW dg tb E (xs.drop i) δ',⟨vs.length,O,δ,R5,Mb _,w,aZ.refl _ _,by simpa using q⟩,?_⟩;rintro i m σ1 H1 ⟨O1,δ1,rfl,hi,w1,S1,q1⟩;by_cases hlt:i < vs.length
 ·refine .inr ⟨S.go i H1 (hP _ _ S1) hlt,λσ' H'=>∃O' δ',Wd K H0 O0 H' O' σ' δ'/\aZ H H' O O'/\iW dg tb E (xs.drop (i+1)) δ',λσ' H' uu7=>by obtain⟨O',δ',w',S',q'⟩:=uu7;exact⟨vs.length - (i+1),R0,O',δ',rfl,hlt,w',S',q'⟩,λx H' y=>?_⟩;have yy:=S.yl i H1 x H' (hP _ _ S1) hlt y;clear y;obtain⟨e,y⟩:=yy;subst e;obtain⟨d,ed,rd⟩:=r.get y;have hd:xs.drop i=d::xs.drop (i+1):=by
   rw [N3 (h:=(Lz.mp ed).1),(Lz.mp ed).2]
  rw [hd] at q1;refine gd H0 O0 _ O1 σ1 δ1 x d _ _ w1 (rd.step S1) q1 λδ2 σ2 q2 w2=>?_;refine⟨O1,δ2,_,w2,q2,λO' δ' σ' H' z w' S'=>⟨O',δ',w',S1.trans S',z⟩,k2,λO' δ' σ' H' z w' S'=>k1 O' δ' σ' H' z w' (S1.trans S'),λO' δ' σ' H' z w' S'=>⟨O',δ',w',S1.trans S',z⟩⟩
 ·have e:i=vs.length:=R0
  subst e;refine .inl ⟨S.st _ H1 (hP _ _ S1) (Lr _),?_⟩;rw [r.length,P0 (Lr _)] at q1;exact k1 O1 δ1 σ1 H1 q1 w1 S1
def ku(g:DG)(tb:DS)(E:jw)(xs:List R6)(δ:Dl):Prop:=∃I:Nat->Dl->Prop,I 0 δ/\(∀i x δ,xs[i]?=some x->I i δ->g x δ λδ2=>tb {E with nx:=I (i+1),ct:=I (i+1),bk:=E.nx} δ2)/\∀δ,I xs.length δ->E.nx δ
theorem kx{K:Ll}{J:It}{P:Hp->Prop}{vs:List V}{xs:List R6}{g:TG}{dg:DG}{tb:DS}{D:gL}{E:jw}{σ:St}{H:Hp}{O:Ex}{δ:Dl}(S:cf J P vs)(gd:GD K g dg)
 (hP:∀H' O',aZ H H' O O'->P H')(r:aj K H O vs xs)(w:Wd K H0 O0 H O σ δ)(q:ku dg tb E xs δ)
 (k1:∀O' δ' σ' H',E.nx δ'->Wd K H0 O0 H' O' σ' δ'->aZ H H' O O'->D.nx σ' H')(k2:∀d v H',E.rt d->ao H0 H'->Dt K H' O0 v d->D.rt v H'):FR J g (bx K H0 O0 tb) D σ H:=by
 obtain⟨Iv,q0,qs,qe⟩:=q;refine⟨λi m σ' H'=>∃O' δ',m=vs.length - i/\i<=vs.length/\Wd K H0 O0 H' O' σ' δ'/\aZ H H' O O'/\Iv i δ',⟨vs.length,O,δ,R5,Mb _,w,aZ.refl _ _,q0⟩,?_⟩;rintro i m σ1 H1 ⟨O1,δ1,rfl,hi,w1,S1,q1⟩;by_cases hlt:i < vs.length
 ·refine .inr ⟨S.go i H1 (hP _ _ S1) hlt,λσ' H'=>∃O' δ',Wd K H0 O0 H' O' σ' δ'/\aZ H H' O O'/\Iv (i+1) δ',λσ' H' uu8=>by obtain⟨O',δ',w',S',q'⟩:=uu8;exact⟨vs.length - (i+1),R0,O',δ',rfl,hlt,w',S',q'⟩,λx H' y=>?_⟩;have yy:=S.yl i H1 x H' (hP _ _ S1) hlt y;clear y;obtain⟨e,y⟩:=yy;subst e;obtain⟨d,ed,rd⟩:=r.get y;refine gd H0 O0 _ O1 σ1 δ1 x d _ _ w1 (rd.step S1) (qs i d δ1 ed q1) λδ2 σ2 q2 w2=>?_;refine⟨O1,δ2,_,w2,q2,λO' δ' σ' H' z w' S'=>⟨O',δ',w',S1.trans S',z⟩,k2,λO' δ' σ' H' z w' S'=>k1 O' δ' σ' H' z w' (S1.trans S'),λO' δ' σ' H' z w' S'=>⟨O',δ',w',S1.trans S',z⟩⟩
 ·have e:i=vs.length:=R0
  subst e;refine .inl ⟨S.st _ H1 (hP _ _ S1) (Lr _),?_⟩;rw [r.length] at q1;exact k1 O1 δ1 σ1 H1 (qe δ1 q1) w1 S1
def qj(t:DT)(g:DG)(tb:DS):DS:=λE δ=>t δ λd=>∃xs,d= .list xs/\ku g tb E xs δ
def qm(t:DT)(g:DG)(tb:DS):DS:=λE δ=>t δ λd=>∃xs,d= .tuple xs/\ku g tb E xs δ
def qo(t:DA)(g:DG)(tb:DS):DS:=λE δ=>t δ λds=>∃j:Int,ds=[.int j]/\-(2 ^ 62)<=j/\j < 2 ^ 62/\ku g tb E (gU 0 j.toNat) δ
def qp(t:DA)(g:DG)(tb:DS):DS:=λE δ=>t δ λds=>∃i j:Int,ds=[.int i,.int j]/\(-(2 ^ 62)<=i/\i < 2 ^ 62/\-(2 ^ 62)<=j/\j < 2 ^ 62)/\ku g tb E (gU i (j - i).toNat) δ
section
variable {tg iter:Sd} {body:List Sq} {t:DT} {ta:DA} {g:TG} {dg:DG} {tb:DS} {pos p ps:Pos}
theorem qt(hp:Tp (Si X.prog X.w) X.A X.env X.xe)(hc:X.calm=true)(hi:DE X H0 O0 iter t)(hg:PG X tg g)(gd:GD X.K g dg)(hb:bJ X body (bx X.K H0 O0 tb))(hs:∀x,Su iter X.env x=pure x:=by intro _;rfl):
 PS X (.For tg iter body [] pos) (bx X.K H0 O0 (qj t dg tb)):=
 (lL hp hc (oQ hi) hg hb hs).imp λD σ H uu9=>by obtain⟨O,δ,E,w,q,k1,k2,k3,k4⟩:=uu9;exact⟨O,δ,_,w,q,λd v H1 uu10 s1 r1=>by
  obtain⟨xs,e,q1⟩:=uu10;subst e;cases r1 with
  | lst h n r=>
   refine⟨_,rfl,⟨_,.inl h⟩,kx (cf.list (.inl h)) gd (λH' O' S o e=>S.keep _ _ e n) r (w.mono s1) q1 (λO' δ' σ' H' z w' S=>k1 O' δ' σ' H' z w' (aZ.trans (.same s1) S)) k2⟩⟩
theorem ij(hp:Tp (Si X.prog X.w) X.A X.env X.xe)(hc:X.calm=true)(hi:DE X H0 O0 iter t)(hg:PG X tg g)(gd:GD X.K g dg)(hb:bJ X body (bx X.K H0 O0 tb))(hs:∀x,Su iter X.env x=pure x:=by intro _;rfl):
 PS X (.For tg iter body [] pos) (bx X.K H0 O0 (qm t dg tb)):=
 (lL hp hc (oR hi) hg hb hs).imp λD σ H uu11=>by obtain⟨O,δ,E,w,q,k1,k2,k3,k4⟩:=uu11;exact⟨O,δ,_,w,q,λd v H1 uu12 s1 r1=>by
  obtain⟨xs,e,q1⟩:=uu12;subst e;cases r1 with
  | tup h n r=>
   refine⟨_,rfl,⟨_,.inl h⟩,kx (cf.tup (.inl h)) gd (λH' O' S o e=>S.keep _ _ e n) r (w.mono s1) q1 (λO' δ' σ' H' z w' S=>k1 O' δ' σ' H' z w' (aZ.trans (.same s1) S)) k2⟩
  | tupK h r=>
   refine⟨_,rfl,⟨_,h.of0⟩,kx (P:=λ_=>True) ⟨λi H' _ hi=>⟨_,_,h.of0,by simp [hi];rfl⟩,λi H' x H'' _ _ y=>⟨y.1,y.2 _ h.of0⟩,λi H' _ hi=>⟨_,h.of0,hi⟩⟩ gd (λ_ _ _=>trivial) r (w.mono s1) q1 (λO' δ' σ' H' z w' S=>k1 O' δ' σ' H' z w' (aZ.trans (.same s1) S)) k2⟩⟩
theorem wM(hp:Tp (Si X.prog X.w) X.A X.env X.xe)(hc:X.calm=true){a:Sd}(hgl:Gl X "range")(hm:X.mg "range"=none)(ha:PA X [a] (eZ X.K H0 O0 ta))(hg:PG X tg g)(gd:GD X.K g dg)(hb:bJ X body (bx X.K H0 O0 tb))
 (hst:Se [a] X.env=[(false,eval a X.env)]:=by rfl)(hs:∀x,Su (.Call (.Name "range" p) [a] [] ps) X.env x=pure x:=by intro _;rfl):
 PS X (.For tg (.Call (.Name "range" p) [a] [] ps) body [] pos) (bx X.K H0 O0 (qo ta dg tb)):=
 (lL hp hc (vt hgl hm ha hst) hg hb hs).imp λD σ H uu13=>by obtain⟨O,δ,E,w,q,k1,k2,k3,k4⟩:=uu13;exact⟨O,δ,_,w,q,λds vs H1 uu14 s1 r1=>by
  obtain⟨j,e,b1,b2,q1⟩:=uu14;subst e;cases r1 with
  | cons r1 r2=>
   cases r2;cases r1;exact⟨j,rfl,b1,b2,kx cf.rng gd (λ_ _ _=>trivial) (aj.rng _) (w.mono s1) q1 (λO' δ' σ' H' z w' S=>k1 O' δ' σ' H' z w' (aZ.trans (.same s1) S)) k2⟩⟩
theorem F3(hp:Tp (Si X.prog X.w) X.A X.env X.xe)(hc:X.calm=true){a b:Sd}(hgl:Gl X "range")(hm:X.mg "range"=none)(ha:PA X [a,b] (eZ X.K H0 O0 ta))(hg:PG X tg g)(gd:GD X.K g dg)(hb:bJ X body (bx X.K H0 O0 tb))
 (hst:Se [a,b] X.env=[(false,eval a X.env),(false,eval b X.env)]:=by rfl)(hst2:Se [b] X.env=[(false,eval b X.env)]:=by rfl)(hs:∀x,Su (.Call (.Name "range" p) [a,b] [] ps) X.env x=pure x:=by intro _;rfl):
 PS X (.For tg (.Call (.Name "range" p) [a,b] [] ps) body [] pos) (bx X.K H0 O0 (qp ta dg tb)):=
 (lL hp hc (oV hgl hm ha hst hst2) hg hb hs).imp λD σ H uu15=>by obtain⟨O,δ,E,w,q,k1,k2,k3,k4⟩:=uu15;exact⟨O,δ,_,w,q,λds vs H1 uu16 s1 r1=>by
  obtain⟨i,j,e,b1,q1⟩:=uu16;subst e;cases r1 with
  | cons r1 r2=>
   cases r2 with
   | cons r2 r3=>
    cases r3;cases r1;cases r2;exact⟨i,j,rfl,b1,kx cf.rng gd (λ_ _ _=>trivial) (aj.rng _) (w.mono s1) q1 (λO' δ' σ' H' z w' S=>k1 O' δ' σ' H' z w' (aZ.trans (.same s1) S)) k2⟩⟩
end
def dM(k:Nat)(fr:List Nat)(δ:Dl):Dl:=LC k none++fr.map λj=>(δ[j]?).join
def mB(g:DG)(tc:DB)(te:DT)(δ0:Dl):List R6->List R6->(List R6->Prop)->Prop
 | [],acc,Q=>Q acc
 | x::xs,acc,Q=>g x δ0 λδ2=>tc δ2 λok=>if ok=true then te δ2 λy=>mB g tc te δ0 xs (acc++[y]) Q else mB g tc te δ0 xs acc Q
theorem Wd.comp{K:Ll}{H:Hp}{O:Ex}{σ:St}{δ:Dl}(w:Wd K H0 O0 H O σ δ){k:Nat}{fr:List Nat}(hf:fr.Nodup):Wd K H0 O0 H O (bF k fr σ) (dM k fr δ):=by
 have at1:∀{α:Type}(l:List (Option α))(i:Nat),(LC k none++fr.map λj=>(l[j]?).join)[i]?=if i < k then some none else(fr[i - k]?).map λj=>(l[j]?).join:=by
  intro α l i;by_cases h:i < k
  ·rw [R3 h,MH (by simpa using h),NB,R3 h]
  ·rw [R1 h,MR (by simpa using Pl h),LD];simp
 have un:∀{α:Type}(l:List (Option α))(i:Nat)(x:α),(LC k none++fr.map λj=>(l[j]?).join)[i]?=some (some x)->∃j,fr[i - k]?=some j/\k<=i/\l[j]?=some (some x):=by
  intro α l i x h;rw [at1] at h;split at h
  ·cases h
  ·cases e:fr[i - k]? with
   | none=>rw [e] at h;cases h
   | some j=>
    rw [e] at h;refine⟨j,rfl,R0,?_⟩;have h':(l[j]?).join=some x:=Mg h;cases q:l[j]? with
    | none=>rw [q] at h';cases h'
    | some o=>rw [q] at h';rw [show o=some x from h']
 refine⟨w.same,w.sub,w.new,w.trk,by simp [bF,dM],λi y e=>?_,λi j y z l e1 y1 e2 z2 e3 e4=>?_⟩
 ·match y,e with
  | none,_=>exact MU
  | some x,e=>
   obtain⟨j,hj,hk,ej⟩:=un δ i x e;have q:=w.sl j _ ej;have e2:((bF k fr σ)[i]?).join=(σ[j]?).join:=by
    unfold bF;rw [at1,R1 R0,hj];rfl
   rw [e2];exact q
 ·obtain⟨a,ha,ka,ea⟩:=un δ i _ e1;obtain⟨b,hb,kb,eb⟩:=un δ j _ e2;obtain⟨a',ha',_,ea'⟩:=un σ i _ e3;obtain⟨b',hb',_,eb'⟩:=un σ j _ e4;rw [ha] at ha';cases ha';rw [hb] at hb';cases hb';have:=w.dis a b y z l ea y1 eb z2 ea' eb';subst this;have e5:=(QN (l:=fr) (i:=i - k) (j:=j - k) (Lz.mp ha).1 hf).mp (by rw [ha,hb]);omega
theorem Lh{K:Ll}{J:It}{P:Hp->Prop}{vs:List V}{xs:List R6}{g:TG}{dg:DG}{tc:TT}{dc:DB}{te:TE}{de:DT}{k:Nat}{fr:List Nat}{σ:St}{H:Hp}{O:Ex}{δ:Dl}{Qd:List R6->Prop}{Q:VK}(S:cf J P vs)(gd:GD K g dg)(hf:fr.Nodup)
 (hk:∀v:V,∀σ':St,∀H':Hp,∀R:St->Hp->Prop,g v (bF k fr σ) H' R->g v (bF k fr σ) H' λσ2 H2=>iP (bF k fr σ) σ2/\R σ2 H2)
 (hc:∀σ H Q,bM K H0 O0 dc σ H Q->tc σ H Q)(he:∀σ H Q,up K H0 O0 de σ H Q->te σ H Q)
 (hP:∀D H',H D=none->jt D H H'->P H')(r:aj K H O vs xs)(w:Wd K H0 O0 H O σ δ)(hz:vs.length<=Sb)(q:mB dg dc de (dM k fr δ) xs [] Qd)
 (k1:∀ds us p H',Qd ds->ao H H'->H' p=none->aj K H' O us ds->Q (.ref p) (ak H' p (.lst us))):iR J g tc te k fr σ H Q:=by
 intro D hD;have w0:Wd K H0 O0 H O (bF k fr σ) (dM k fr δ):=w.comp hf;have nD:¬O D:=λz=>w.trk D z hD;have D0:H0 D=none:=by
  cases e:H0 D with
  | none=>rfl
  | some o=>rw [w.same _ _ e] at hD;cases hD
 have ex:∀H',jt D H H'->H' D≠none->Wd K H0 O0 H' (λa=>O a\/a=D) (bF k fr σ) (dM k fr δ):=λH' s' hd=>by
  have S':aZ H H' O (λa=>O a\/a=D):=⟨λb o e _=>s' b o e (cE e hD),λb hb hn z=>z.elim hn λq=>hb (by rw [q];exact hD)⟩;refine⟨λb o e=>s' b o (w.same b o e) (λz=>by rw [z,D0] at e;cases e),λl z=>.inl (w.sub l z),λl z=>z.elim (w.new l) λq=>.inr (by rw [q];exact D0),λl z=>?_,w0.len,λj y e=>?_,w0.dis⟩
  ·by_cases ql:l=D
   ·rw [ql];exact hd
   ·have hl:=w.trk l (z.resolve_right ql);cases e:H l with
    | none=>exact absurd e hl
    | some o=>rw [s' l o e ql];exact λz=>nomatch z
  ·exact(w0.sl j y e).go S' (λl o _ _ a1 _ a3=>⟨.inl a1,s' _ _ a3 (λz=>nD (by rw [<-z];exact a1))⟩) (λa o u a1 _ a3=>⟨.inl a1,s' _ _ a3 (λz=>nD (by rw [<-z];exact a1))⟩) λa o a1 a3=>s' _ _ a3 (λz=>nD (by rw [<-z];exact w.sub _ a1))
 refine⟨λi m H'=>∃acc ys,m=vs.length - i/\i<=vs.length/\jt D H H'/\H' D=some (.lst ys)/\ys.length<=i/\aj K H' (λa=>O a\/a=D) ys acc/\mB dg dc de (dM k fr δ) (xs.drop i) acc Qd,⟨vs.length,[],[],R5,Mb _,λb o e n=>by rw [aD n];exact e,bb,Mb _,.nil,by simpa using q⟩,?_⟩;rintro i m H1 ⟨acc,ys,rfl,hi,s1,e1,hy,ra,q1⟩;by_cases hlt:i < vs.length
 ·refine .inr ⟨S.go i H1 (hP D H1 hD s1) hlt,λx H' y=>?_⟩;have yy:=S.yl i H1 x H' (hP D H1 hD s1) hlt y;clear y;obtain⟨e,y⟩:=yy;subst e;obtain⟨d,ed,rd⟩:=r.get y;have hd:xs.drop i=d::xs.drop (i+1):=by
   rw [N3 (h:=(Lz.mp ed).1),(Lz.mp ed).2]
  rw [hd] at q1;have w1:=ex _ s1 (by rw [e1];exact λz=>nomatch z);have S':aZ H H' O (λa=>O a\/a=D):=⟨λb o e _=>s1 b o e (cE e hD),λb hb hn z=>z.elim hn λq=>hb (by rw [q];exact hD)⟩;refine hk x σ _ _ (gd H0 O0 _ _ _ _ x d _ _ w1 (rd.step S') q1 λδ2 σ2 q2 w2=>?_);refine hc σ2 _ _ ⟨_,δ2,_,w2,q2,λok H3 q3 s3=>?_⟩;cases ok with
  | true=>
   rw [R3 rfl];refine he σ2 H3 _ ⟨_,δ2,_,w2.mono s3,q3,λd' v H4 q4 s4 r4=>?_⟩;have e4:=s4 _ _ (s3 _ _ e1);have sD:aZ H4 (ak H4 D (.lst (ys++[v]))) (λa=>O a\/a=D) (λa=>O a\/a=D):=⟨λb o e n=>by rw [aD (λz=>n (.inr z))];exact e,λ_ _ n=>n⟩;refine⟨ys,e4,R0,vs.length - (i+1),R0,acc++[d'],ys++[v],rfl,hlt,λb o e n=>by rw [aD n];exact s4 _ _ (s3 _ _ (s1 b o e n)),bb,by simpa using hy,?_,q4⟩;exact((ra.mono (s3.trans s4)).append (.cons r4 .nil)).step sD
  | false=>
   rw [R1 RZ];exact⟨vs.length - (i+1),R0,acc,ys,rfl,hlt,λb o e n=>s3 _ _ (s1 b o e n),s3 _ _ e1,R0,ra.mono s3,q3⟩
 ·have e:i=vs.length:=R0
  subst e;refine .inl ⟨S.st _ H1 (hP D H1 hD s1) (Lr _),?_⟩;rw [r.length,P0 (Lr _)] at q1;have hrest:∃H2:Hp,H2 D=none/\ao H H2/\H1=ak H2 D (.lst ys):=by
   refine⟨λb=>if b=D then none else H1 b,R5,λb o e=>?_,?_⟩
   ·have n:=cE e hD;show(if b=D then none else H1 b)=some o;rw [R1 n];exact s1 b o e n
   ·funext b;by_cases z:b=D
    ·rw [z,bb];exact e1
    ·rw [aD z];show H1 b=if b=D then none else H1 b;rw [R1 z]
  obtain⟨H2,h2,s2,rfl⟩:=hrest;refine k1 acc ys D H2 q1 s2 h2 (ra.step ⟨λb o e n=>?_,λb _ n z=>n (.inl z)⟩);rw [aD (λz=>n (.inr z))] at e;exact e
def fc(g:DG)(tc:DB)(te:DT)(δ0:Dl)(xs:List R6)(Q:List R6->Prop):Prop:=∃I:Nat->List R6->Prop,I 0 []/\(∀i x acc,xs[i]?=some x->I i acc->g x δ0 λδ2=>tc δ2 λok=>if ok=true then te δ2 λy=>I (i+1) (acc++[y]) else I (i+1) acc)/\∀acc,I xs.length acc->Q acc
theorem gY{K:Ll}{J:It}{P:Hp->Prop}{vs:List V}{xs:List R6}{g:TG}{dg:DG}{tc:TT}{dc:DB}{te:TE}{de:DT}{k:Nat}{fr:List Nat}{σ:St}{H:Hp}{O:Ex}{δ:Dl}{Qd:List R6->Prop}{Q:VK}(S:cf J P vs)(gd:GD K g dg)(hf:fr.Nodup)
 (hk:∀v:V,∀σ':St,∀H':Hp,∀R:St->Hp->Prop,g v (bF k fr σ) H' R->g v (bF k fr σ) H' λσ2 H2=>iP (bF k fr σ) σ2/\R σ2 H2)
 (hc:∀σ H Q,bM K H0 O0 dc σ H Q->tc σ H Q)(he:∀σ H Q,up K H0 O0 de σ H Q->te σ H Q)
 (hP:∀D H',H D=none->jt D H H'->P H')(r:aj K H O vs xs)(w:Wd K H0 O0 H O σ δ)(hz:vs.length<=Sb)(q:fc dg dc de (dM k fr δ) xs Qd)
 (k1:∀ds us p H',Qd ds->ao H H'->H' p=none->aj K H' O us ds->Q (.ref p) (ak H' p (.lst us))):iR J g tc te k fr σ H Q:=by
 obtain⟨Iv,q0,qs,qe⟩:=q;intro D hD;have w0:Wd K H0 O0 H O (bF k fr σ) (dM k fr δ):=w.comp hf;have nD:¬O D:=λz=>w.trk D z hD;have D0:H0 D=none:=by
  cases e:H0 D with
  | none=>rfl
  | some o=>rw [w.same _ _ e] at hD;cases hD
 have ex:∀H',jt D H H'->H' D≠none->Wd K H0 O0 H' (λa=>O a\/a=D) (bF k fr σ) (dM k fr δ):=λH' s' hd=>by
  have S':aZ H H' O (λa=>O a\/a=D):=⟨λb o e _=>s' b o e (cE e hD),λb hb hn z=>z.elim hn λq=>hb (by rw [q];exact hD)⟩;refine⟨λb o e=>s' b o (w.same b o e) (λz=>by rw [z,D0] at e;cases e),λl z=>.inl (w.sub l z),λl z=>z.elim (w.new l) λq=>.inr (by rw [q];exact D0),λl z=>?_,w0.len,λj y e=>?_,w0.dis⟩
  ·by_cases ql:l=D
   ·rw [ql];exact hd
   ·have hl:=w.trk l (z.resolve_right ql);cases e:H l with
    | none=>exact absurd e hl
    | some o=>rw [s' l o e ql];exact λz=>nomatch z
  ·exact(w0.sl j y e).go S' (λl o _ _ a1 _ a3=>⟨.inl a1,s' _ _ a3 (λz=>nD (by rw [<-z];exact a1))⟩) (λa o u a1 _ a3=>⟨.inl a1,s' _ _ a3 (λz=>nD (by rw [<-z];exact a1))⟩) λa o a1 a3=>s' _ _ a3 (λz=>nD (by rw [<-z];exact w.sub _ a1))
 refine⟨λi m H'=>∃acc ys,m=vs.length - i/\i<=vs.length/\jt D H H'/\H' D=some (.lst ys)/\ys.length<=i/\aj K H' (λa=>O a\/a=D) ys acc/\Iv i acc,⟨vs.length,[],[],R5,Mb _,λb o e n=>by rw [aD n];exact e,bb,Mb _,.nil,q0⟩,?_⟩;rintro i m H1 ⟨acc,ys,rfl,hi,s1,e1,hy,ra,q1⟩;by_cases hlt:i < vs.length
 ·refine .inr ⟨S.go i H1 (hP D H1 hD s1) hlt,λx H' y=>?_⟩;have yy:=S.yl i H1 x H' (hP D H1 hD s1) hlt y;clear y;obtain⟨e,y⟩:=yy;subst e;obtain⟨d,ed,rd⟩:=r.get y;have w1:=ex _ s1 (by rw [e1];exact λz=>nomatch z);have S':aZ H H' O (λa=>O a\/a=D):=⟨λb o e _=>s1 b o e (cE e hD),λb hb hn z=>z.elim hn λq=>hb (by rw [q];exact hD)⟩;refine hk x σ _ _ (gd H0 O0 _ _ _ _ x d _ _ w1 (rd.step S') (qs i d acc ed q1) λδ2 σ2 q2 w2=>?_);refine hc σ2 _ _ ⟨_,δ2,_,w2,q2,λok H3 q3 s3=>?_⟩;cases ok with
  | true=>
   rw [R3 rfl];refine he σ2 H3 _ ⟨_,δ2,_,w2.mono s3,q3,λd' v H4 q4 s4 r4=>?_⟩;have e4:=s4 _ _ (s3 _ _ e1);have sD:aZ H4 (ak H4 D (.lst (ys++[v]))) (λa=>O a\/a=D) (λa=>O a\/a=D):=⟨λb o e n=>by rw [aD (λz=>n (.inr z))];exact e,λ_ _ n=>n⟩;refine⟨ys,e4,R0,vs.length - (i+1),R0,acc++[d'],ys++[v],rfl,hlt,λb o e n=>by rw [aD n];exact s4 _ _ (s3 _ _ (s1 b o e n)),bb,by simpa using hy,?_,q4⟩;exact((ra.mono (s3.trans s4)).append (.cons r4 .nil)).step sD
  | false=>
   rw [R1 RZ];exact⟨vs.length - (i+1),R0,acc,ys,rfl,hlt,λb o e n=>s3 _ _ (s1 b o e n),s3 _ _ e1,R0,ra.mono s3,q3⟩
 ·have e:i=vs.length:=R0
  subst e;refine .inl ⟨S.st _ H1 (hP D H1 hD s1) (Lr _),?_⟩;rw [r.length] at q1;have hrest:∃H2:Hp,H2 D=none/\ao H H2/\H1=ak H2 D (.lst ys):=by
   refine⟨λb=>if b=D then none else H1 b,R5,λb o e=>?_,?_⟩
   ·have n:=cE e hD;show(if b=D then none else H1 b)=some o;rw [R1 n];exact s1 b o e n
   ·funext b;by_cases z:b=D
    ·rw [z,bb];exact e1
    ·rw [aD z];show H1 b=if b=D then none else H1 b;rw [R1 z]
  obtain⟨H2,h2,s2,rfl⟩:=hrest;refine k1 acc ys D H2 (qe acc q1) s2 h2 (ra.step ⟨λb o e n=>?_,λb _ n z=>n (.inl z)⟩);rw [aD (λz=>n (.inr z))] at e;exact e
def iX:DB:=λ_ Q=>Q true
def fw(g:TG)(k:Nat):Prop:=∀(fr:List Nat)(σ:St)(v:V)(H':Hp)(R:St->Hp->Prop),g v (bF k fr σ) H' R->g v (bF k fr σ) H' λσ2 H2=>iP (bF k fr σ) σ2/\R σ2 H2
theorem cg:fw (gg 0) 1:=λfr σ v H' R h=>⟨wD,h⟩
def kA(t:DT)(g:DG)(tc:DB)(te:DT)(k:Nat)(fr:List Nat):DA:=λδ Q=>t δ λd=>∃xs,d= .list xs/\xs.length<=Sb/\fc g tc te (dM k fr δ) xs Q
def kB(t:DT)(g:DG)(tc:DB)(te:DT)(k:Nat)(fr:List Nat):DA:=λδ Q=>t δ λd=>∃xs,d= .tuple xs/\xs.length<=Sb/\fc g tc te (dM k fr δ) xs Q
def qu(ta:DA)(g:DG)(tc:DB)(te:DT)(k:Nat)(fr:List Nat):DA:=λδ Q=>ta δ λds=>∃j:Int,ds=[.int j]/\-(2 ^ 62)<=j/\j < Sb/\fc g tc te (dM k fr δ) (gU 0 j.toNat) Q
section
variable {tg iter elt:Sd} {ifs:List Sd} {scope:SH} {N':List Str} {k:Nat} {fr:List Nat} {g:TG} {dg:DG} {t:DT} {ta:DA} {tc:DB} {te:DT} {pos p ps:Pos}
theorem eJ(hc:X.calm=true)(S:aY X.env.scope X.N N' k fr scope)(hi:DF X H0 O0 iter t)(gd:GD X.K g dg)(hk:fw g k)(hfr:fr.Nodup)
 (hg:∀fp C s H,PG (bh X scope N' fp C s H) tg g)(hf:∀fp C s H,dj (bh X scope N' fp C s H) ifs (bM X.K H0 O0 tc))(he:∀fp C s H,PE (bh X scope N' fp C s H) elt (up X.K H0 O0 te))
 (hs:∀x,Su iter X.env x=pure x:=by intro _;rfl):FE X H0 O0 (.ListComp elt [⟨tg,iter,ifs,0⟩] scope pos) (kA t dg tc te k fr):=
 (iQ hc S (oQ hi) hg hf he hs).imp λσ H Q uu17=>by obtain⟨O,δ,Qd,w,q,kk⟩:=uu17;exact⟨O,δ,_,w,q,λd v H1 uu18 s1 r1=>by
  obtain⟨xs,e,hz,q1⟩:=uu18;subst e;obtain⟨a,vs,rfl,hq,rr⟩:=r1.lst;refine⟨a,rfl,⟨_,hq⟩,λD hD=>gY (cf.list hq) gd hfr (λv _ H' R h=>hk fr σ v H' R h) (λ_ _ _ z=>z) (λ_ _ _ z=>z) (λD H' hD s' o e=>s' _ _ e (cE e hD)) rr (w.mono s1) (by rw [rr.length];exact hz) q1 (λds us p H' z s' hp r'=>kk ds us p H' z (s1.trans s') hp r') D hD⟩⟩
theorem iY(hc:X.calm=true)(S:aY X.env.scope X.N N' k fr scope)(hi:DF X H0 O0 iter t)(gd:GD X.K g dg)(hk:fw g k)(hfr:fr.Nodup)
 (hg:∀fp C s H,PG (bh X scope N' fp C s H) tg g)(hf:∀fp C s H,dj (bh X scope N' fp C s H) ifs (bM X.K H0 O0 tc))(he:∀fp C s H,PE (bh X scope N' fp C s H) elt (up X.K H0 O0 te))
 (hs:∀x,Su iter X.env x=pure x:=by intro _;rfl):FE X H0 O0 (.ListComp elt [⟨tg,iter,ifs,0⟩] scope pos) (kB t dg tc te k fr):=
 (iQ hc S (oR hi) hg hf he hs).imp λσ H Q uu19=>by obtain⟨O,δ,Qd,w,q,kk⟩:=uu19;exact⟨O,δ,_,w,q,λd v H1 uu20 s1 r1=>by
  obtain⟨xs,e,hz,q1⟩:=uu20;subst e;obtain⟨a,vs,rfl,hq,rr⟩:=r1.tup;refine⟨a,rfl,⟨_,hq⟩,λD hD=>gY (cf.tup hq) gd hfr (λv _ H' R h=>hk fr σ v H' R h) (λ_ _ _ z=>z) (λ_ _ _ z=>z) (λD H' hD s' o e=>s' _ _ e (cE e hD)) rr (w.mono s1) (by rw [rr.length];exact hz) q1 (λds us p H' z s' hp r'=>kk ds us p H' z (s1.trans s') hp r') D hD⟩⟩
theorem qv(hc:X.calm=true){a:Sd}(S:aY X.env.scope X.N N' k fr scope)(hgl:Gl X "range")(hm:X.mg "range"=none)(ha:PA X [a] (dS X.K H0 O0 ta))(gd:GD X.K g dg)(hk:fw g k)(hfr:fr.Nodup)
 (hg:∀fp C s H,PG (bh X scope N' fp C s H) tg g)(hf:∀fp C s H,dj (bh X scope N' fp C s H) ifs (bM X.K H0 O0 tc))(he:∀fp C s H,PE (bh X scope N' fp C s H) elt (up X.K H0 O0 te))
 (hst:Se [a] X.env=[(false,eval a X.env)]:=by rfl)(hs:∀x,Su (.Call (.Name "range" p) [a] [] ps) X.env x=pure x:=by intro _;rfl):
 FE X H0 O0 (.ListComp elt [⟨tg,(.Call (.Name "range" p) [a] [] ps),ifs,0⟩] scope pos) (qu ta dg tc te k fr):=
 (iQ hc S (vt hgl hm ha hst) hg hf he hs).imp λσ H Q uu21=>by obtain⟨O,δ,Qd,w,q,kk⟩:=uu21;exact⟨O,δ,_,w,q,λds vs H1 uu22 s1 r1=>by
  obtain⟨j,e,b1,b2,q1⟩:=uu22;subst e;cases r1 with
  | cons r1 r2=>
   cases r2;cases r1.int;have hb:(Sb:Int) < 2 ^ 62:=RZ
   exact⟨j,rfl,b1,R0,λD hD=>gY (P:=λ_=>True) cf.rng gd hfr (λv _ H' R h=>hk fr σ v H' R h) (λ_ _ _ z=>z) (λ_ _ _ z=>z) (λ_ _ _ _=>trivial) (aj.rng _) (w.mono s1) (by rw [Lm,Oj];omega) q1 (λds us p H' z s' hp r'=>kk ds us p H' z (s1.trans s') hp r') D hD⟩⟩
end
end
section
variable {K:Ll}
def dI(g:Int->Int->R6):R6->R6->(R6->Prop)->Prop:=λx y Q=>∃i j,x= .int i/\y= .int j/\Q (g i j)
def qw(C:Int->Int->Prop)(g:Int->Int->R6):R6->R6->(R6->Prop)->Prop:=λx y Q=>∃i j,x= .int i/\y= .int j/\C i j/\Q (g i j)
theorem bQ{g:Int->Int->Int}:cv K (fI λi j=>.int (g i j)) (dI λi j=>.int (g i j)):=λH O x y dx dy Qd R _ hx hy uu23 k=>by
 obtain⟨i,j,e1,e2,q⟩:=uu23;subst e1 e2;cases hx.int;cases hy.int;exact⟨i,j,rfl,rfl,k _ _ H q (ao.refl _) (.int _)⟩
theorem jA{g:Int->Int->Bool}:cv K (fI λi j=>.bl (g i j)) (dI λi j=>.bool (g i j)):=λH O x y dx dy Qd R _ hx hy uu24 k=>by
 obtain⟨i,j,e1,e2,q⟩:=uu24;subst e1 e2;cases hx.int;cases hy.int;exact⟨i,j,rfl,rfl,k _ _ H q (ao.refl _) (.bl _)⟩
theorem dz{C:Int->Int->Prop}{g:Int->Int->Int}:cv K (rI C λi j=>.int (g i j)) (qw C λi j=>.int (g i j)):=λH O x y dx dy Qd R _ hx hy uu25 k=>by
 obtain⟨i,j,e1,e2,c,q⟩:=uu25;subst e1 e2;cases hx.int;cases hy.int;exact⟨i,j,rfl,rfl,c,k _ _ H q (ao.refl _) (.int _)⟩
def wN(K:Ll):R2:=λx y H Q=>∃O dx dy,Sh K H O x dx/\Sh K H O y dy/\dn dx/\dn dy/\Q (.bl (LL dx dy)) H
def wO(K:Ll):R2:=λx y H Q=>∃O dx dy,Sh K H O x dx/\Sh K H O y dy/\dn dx/\dn dy/\Q (.bl (!LL dx dy)) H
theorem cx{X:Cx}(hu:X.A.units+64 < SG):bK X (Sv .Eq) (wN X.K):=by
 intro TR s σ H x y v u Q I rx ry h;obtain⟨O,dx,dy,hx,hy,sx,sy,q⟩:=h;obtain⟨as,ra⟩:=fM I hx.all (Mu sx) rx;obtain⟨bs,rb⟩:=fM I hy.all (Mu sy) ry;exact SeqAt.compareEq_shaped ra rb sx sy hu (bA I q rfl)
theorem gA{X:Cx}(hu:X.A.units+64 < SG):bK X (Sv .NotEq) (wO X.K):=by
 intro TR s σ H x y v u Q I rx ry h;obtain⟨O,dx,dy,hx,hy,sx,sy,q⟩:=h;obtain⟨as,ra⟩:=fM I hx.all (Mu sx) rx;obtain⟨bs,rb⟩:=fM I hy.all (Mu sy) ry;exact SeqAt.compareNe_shaped ra rb sx sy hu (bA I q rfl)
def qx:R6->R6->(R6->Prop)->Prop:=λx y Q=>dn x/\dn y/\Q (.bool (LL x y))
def qy:R6->R6->(R6->Prop)->Prop:=λx y Q=>dn x/\dn y/\Q (.bool (!LL x y))
theorem cy:cv K (wN K) qx:=λH O x y dx dy Qd R _ hx hy uu26 k=>by obtain⟨a,b,q⟩:=uu26;exact⟨O,dx,dy,hx,hy,a,b,k _ _ H q (ao.refl _) (.bl _)⟩
theorem gB:cv K (wO K) qy:=λH O x y dx dy Qd R _ hx hy uu27 k=>by obtain⟨a,b,q⟩:=uu27;exact⟨O,dx,dy,hx,hy,a,b,k _ _ H q (ao.refl _) (.bl _)⟩
def qz:R6->R6->(R6->Prop)->Prop:=λx y Q=>∃ds i d,x= .list ds/\y= .int i/\atI ds i=some d/\Q d
def kC:R6->R6->(R6->Prop)->Prop:=λx y Q=>∃ds i d,x= .tuple ds/\y= .int i/\atI ds i=some d/\Q d
theorem aj.atI{H:Hp}{O:Ex}{vs:List V}{ds:List R6}{i:Int}{d:R6}(r:aj K H O vs ds)(e:L2.atI ds i=some d):∃v,L2.atI vs i=some v/\Dt K H O v d:=by
 unfold L2.atI at e⊢;rw [r.length];cases q:fJ ds.length i with
 | none=>rw [q] at e;cases e
 | some j=>rw [q] at e;exact r.getD e
theorem bR:cv K (lW K) qz:=λH O x y dx dy Qd R _ hx hy uu28 k=>by
 obtain⟨ds,i,d,e1,e2,e3,q⟩:=uu28;subst e1 e2;obtain⟨a,vs,rfl,hs,r⟩:=hx.lst;cases hy.int;obtain⟨v,hv,rv⟩:=r.atI e3;exact⟨a,vs,i,v,rfl,rfl,hs,hv,k d v H q (ao.refl _) rv⟩
theorem aB:cv K (lX K) kC:=λH O x y dx dy Qd R _ hx hy uu29 k=>by
 obtain⟨ds,i,d,e1,e2,e3,q⟩:=uu29;subst e1 e2;obtain⟨a,vs,rfl,hs,r⟩:=hx.tup;cases hy.int;obtain⟨v,hv,rv⟩:=r.atI e3;exact⟨a,vs,i,v,rfl,rfl,hs,hv,k d v H q (ao.refl _) rv⟩
end
section
variable {X:Cx} {H0:Hp} {O0:Ex}
def F4:R2:=λx y H Q=>∃l b xs zs,x= .ref l/\y= .ref b/\Rd H l (.lst xs)/\Rd H b (.lst zs)/\xs.length+zs.length<=Sb/\∀p,H p=none->Q (.ref p) (ak H p (.lst (xs++zs)))
theorem F5:bK X (SQ .Add) F4:=by
 intro TR s σ H x y v u Q I rx ry h;obtain⟨l,b,xs,zs,rfl,rfl,hH,hB,hz,q⟩:=h;cases rx;cases ry;obtain⟨z,its,n,r,e⟩:=hH.ok I.hok;obtain⟨z2,its2,n2,r2,e2⟩:=hB.ok I.hok;have l1:=r.length;have l2:=r2.length;refine PySem.P.add_list e e2 ?_ (by rw [Lw,Lw];omega);have ea:its.toArray++its2.toArray=(its++its2).toArray:=R5
 rw [ea];exact⟨.ref _,_,I.lnew (t':=s.toks) (r.append r2) (by rw [LN];omega),rfl,q _ I.fresh⟩
def qA(ta tb:DT):DA:=λδ Q=>ta δ λx=>tb δ λy=>∃xs ys,x= .list xs/\y= .list ys/\xs.length+ys.length<=Sb/\Q (xs++ys)
theorem wQ{a b:Sd}{ta tb:DT}{pos:Pos}(ha:DF X H0 O0 a ta)(hb:DF X H0 O0 b tb):FE X H0 O0 (.BinOp a .Add b pos) (qA ta tb):=
 (aX F5 ha hb).imp λσ H Q uu30=>by obtain⟨O,δ,Qd,w,q,k⟩:=uu30;exact⟨O,δ,_,w,q,λx v H1 q1 s1 r1=>⟨O,δ,_,w.mono s1,q1,λy u H2 uu31 s2 r2=>by
  obtain⟨xs,ys,e1,e2,hz,q2⟩:=uu31;subst e1 e2;obtain⟨a,vs,rfl,h1,d1⟩:=(r1.mono s2).lstR;obtain⟨b,us,rfl,h2,d2⟩:=r2.lstR;exact⟨a,b,vs,us,rfl,rfl,h1,h2,by rw [d1.length,d2.length];exact hz,λp hp=>k _ _ _ _ q2 (s1.trans s2) hp (d1.append d2)⟩⟩⟩
def qB:R6->R6->(R6->Prop)->Prop:=λx y Q=>∃xs ys,x= .tuple xs/\y= .tuple ys/\xs≠[]/\xs.length+ys.length<=Sb/\Q (.tuple (xs++ys))
theorem F6{K:Ll}:cv K (pf K) qB:=λH O x y dx dy Qd R tr hx hy uu32 k=>by
 obtain⟨xs,ys,e1,e2,hn,hz,q⟩:=uu32;subst e1 e2;have hx0:=hx;obtain⟨a,vs,rfl,h1,d1⟩:=hx.tup;obtain⟨b,us,rfl,h2,d2⟩:=hy.tup;refine⟨a,b,vs,us,rfl,rfl,h1,h2,λz=>?_,by rw [d1.length,d2.length];exact hz,λz=>?_,λ_ p hp=>?_⟩
 ·subst z;cases d1;exact hn rfl
 ·subst z;cases d2;rw [Mw] at q;cases hx0 with
  | dt hx0=>exact k _ _ H q (ao.refl _) hx0
 ·exact k _ _ _ q (ao.new hp) (.tup (.inl bb) (λz=>tr p z hp) ((d1.append d2).mono (ao.new hp)))
def cz(xs:List R6)(lo hi:Option Int):List R6:=(xs.drop (HT.sIx xs.length 0 lo)).take (HT.sIx xs.length xs.length hi - HT.sIx xs.length 0 lo)
theorem aj.cut{K:Ll}{H:Hp}{O:Ex}{vs:List V}{ds:List R6}(r:aj K H O vs ds)(lo hi:Option Int):aj K H O (gO vs lo hi) (cz ds lo hi):=by
 unfold gO cz;rw [r.length];exact(r.drop _).take _
abbrev DO:=Dl->(Option Int->Prop)->Prop
inductive fO (K:Ll) (H0:Hp) (O0:Ex) (t:DO) (σ:St) (H:Hp) (R:Option Int->Hp->Prop):Prop
 | mk (O:Ex) (δ:Dl) (Qd:Option Int->Prop):Wd K H0 O0 H O σ δ->t δ Qd->(∀d H',Qd d->ao H H'->R d H')->fO K H0 O0 t σ H R
def qC:DO:=λ_ Q=>Q none
def qD(t:DT):DO:=λδ Q=>t δ λd=>∃i,d= .int i/\Q (some i)
theorem PO.imp{X:Cx}{e:Option Sd}{t u:TO}(h:PO X e t)(i:∀σ H Q,u σ H Q->t σ H Q):PO X e u:=λTR s σ H Q I z=>h TR s σ H Q I (i σ H Q z)
theorem eM:PO X none (fO X.K H0 O0 qC):=EL.imp λσ H Q uu33=>by obtain⟨O,δ,Qd,w,q,k⟩:=uu33;exact k none H q (ao.refl _)
theorem cQ{e:Sd}{t:DT}(h:DE X H0 O0 e t):PO X (some e) (fO X.K H0 O0 (qD t)):=(EM h).imp λσ H Q uu34=>by obtain⟨O,δ,Qd,w,q,k⟩:=uu34;exact⟨O,δ,_,w,q,λd v H1 uu35 s1 r1=>by obtain⟨i,e,q1⟩:=uu35;subst e;cases r1;exact⟨i,rfl,k _ H1 q1 s1⟩⟩
def qE(t:DT)(tl th:DO):DA:=λδ Q=>t δ λd=>tl δ λl=>th δ λu=>∃xs,d= .list xs/\Q (cz xs l u)
theorem jB{e:Sd}{lo hi:Option Sd}{t:DT}{tl th:DO}{pos p2:Pos}(h:DF X H0 O0 e t)(hl:PO X lo (fO X.K H0 O0 tl))(hu:PO X hi (fO X.K H0 O0 th)):FE X H0 O0 (.Subscript e (.Slice lo hi none p2) pos) (qE t tl th):=
 (lV wg h hl hu).imp λσ H Q uu36=>by obtain⟨O,δ,Qd,w,q,k⟩:=uu36;exact⟨O,δ,_,w,q,λd v H1 q1 s1 r1=>⟨O,δ,_,w.mono s1,q1,λl H2 q2 s2=>⟨O,δ,_,w.mono (s1.trans s2),q2,λu H3 uu37 s3=>by
  obtain⟨xs,e,q3⟩:=uu37;subst e;obtain⟨a,vs,rfl,h1,d1⟩:=(r1.mono (s2.trans s3)).lst;exact⟨a,vs,rfl,h1,λp hp=>k _ _ _ _ q3 (s1.trans (s2.trans s3)) hp (d1.cut l u)⟩⟩⟩⟩
theorem eN{a b:Sd}{ta tb:DT}{r:R2}{rd:R6->R6->(R6->Prop)->Prop}{pos:Pos}(ho:js X r)(hd:cv X.K r rd)(ha:DF X H0 O0 a ta)(hb:DF X H0 O0 b tb)(hs:∀v u,Tf b false v u=operate [v,u] (S5 v u):=by intro _ _;rfl):DE X H0 O0 (.Subscript a b pos) (fb rd ta tb):=(fK ho ha hb hs).imp (mi hd)
def qF:List R6->(R6->Prop)->Prop:=λds Q=>∃xs,(ds=[.list xs]\/ds=[.tuple xs])/\Q (.int xs.length)
def qG:List R6->(R6->Prop)->Prop:=λds Q=>∃xs,ds=[eI xs]/\Q (.int xs.length)
theorem fP{K:Ll}:gw K (λxs H Q=>∃p ys,xs=[.ref p]/\(aN K H p ys\/aW K H p ys)/\Q (.int ys.length) H) qF:=λH O xs ds Qd R _ hs uu38 k=>by
 obtain⟨ys,e,q⟩:=uu38;rcases e with e | e <;> subst e
 ·cases hs with
  | cons h r=>
   cases r;obtain⟨a,vs,rfl,h1,d1⟩:=h.lst;exact⟨a,vs,rfl,.inl h1,by rw [d1.length];exact k _ _ H q (ao.refl _) (.int _)⟩
 ·cases hs with
  | cons h r=>
   cases r;obtain⟨a,vs,rfl,h1,d1⟩:=h.tup;exact⟨a,vs,rfl,.inr h1,by rw [d1.length];exact k _ _ H q (ao.refl _) (.int _)⟩
theorem wR{K:Ll}:gw K (λxs H Q=>∃p ys,xs=[.ref p]/\(aN K H p ys\/aW K H p ys)/\Q (.int ys.length) H) qG:=λH O xs ds Qd R _ hs uu39 k=>by
 obtain⟨ys,e,q⟩:=uu39;subst e;cases hs with
 | cons h r=>
  cases r;obtain⟨a,vs,rfl,h1,d1⟩:=h.scr;exact⟨a,vs,rfl,.inl h1,by rw [d1.length];exact k _ _ H q (ao.refl _) (.int _)⟩
def qH:List R6->(R6->Prop)->Prop:=λds Q=>∃xs,ds=[.list xs]/\Q (.tuple xs)
theorem dN{K:Ll}:gw K (λxs H Q=>∃p ys,xs=[.ref p]/\((aN K H p ys/\∀l,H l=none->Q (.ref l) (ak H l (.tup ys)))\/(aW K H p ys/\Q (.ref p) H))) qH:=λH O xs ds Qd R tr hs uu40 k=>by
 obtain⟨ys,e,q⟩:=uu40;subst e;cases hs with
 | cons h r=>
  cases r;obtain⟨a,vs,rfl,h1,d1⟩:=h.lst;exact⟨a,vs,rfl,.inl ⟨h1,λl hl=>k _ _ _ q (ao.new hl) (.tup (.inl bb) (λz=>tr l z hl) (d1.mono (ao.new hl)))⟩⟩
theorem aj.bools{K:Ll}{H:Hp}{O:Ex}:∀{bs:List Bool}{vs:List V},aj K H O vs (bs.map Nf)->vs=bs.map V.bl
 | [],_,r=>by rw [Mp] at r;cases r;rfl
 | b::bs,_,r=>by
  rw [Lq] at r;cases r with
  | cons h r=>cases h;rw [Lq,aj.bools r]
def qI(g:List Bool->Bool):List R6->(R6->Prop)->Prop:=λds Q=>∃bs:List Bool,ds=[.list (bs.map .bool)]/\Q (.bool (g bs))
theorem qJ{K:Ll}{g:List Bool->Bool}:gw K (λxs H Q=>∃(a:R8)(bs:List Bool),xs=[.ref a]/\aN K H a (bs.map V.bl)/\Q (.bl (g bs)) H) (qI g):=λH O xs ds Qd R tr hs uu41 k=>by
 obtain⟨bs,e,q⟩:=uu41;subst e;cases hs with
 | cons h r=>
  cases r;obtain⟨a,vs,rfl,h1,d1⟩:=h.lst;cases d1.bools;exact⟨a,bs,rfl,h1,k _ _ H q (ao.refl _) (.bl _)⟩
def qK(g:Int->Int->Int):List R6->(R6->Prop)->Prop:=λds Q=>∃i j,ds=[.int i,.int j]/\Q (.int (g i j))
theorem mC{K:Ll}{g:Int->Int->Int}:gw K (λxs H Q=>∃i j,xs=[.int i,.int j]/\Q (.int (g i j)) H) (qK g):=λH O xs ds Qd R tr hs uu42 k=>by
 obtain⟨i,j,e,q⟩:=uu42;subst e;cases hs with
 | cons h r=>
  cases r with
  | cons h2 r=>
   cases r;cases h.int;cases h2.int;exact⟨i,j,rfl,k _ _ H q (ao.refl _) (.int _)⟩
end
section
variable {P:Sk} {w:Sm} {K:Ll} {mg:Str->Option R7} {base:Sn}
def gC(N:List Str)(ds:List R6):Dl:=ds.map (λd=>some (.v d))++LC (N.length - ds.length) none
theorem wU{H:Hp}{O:Ex}{N:List Str}{vs:List V}{ds:List R6}(tr:∀l,O l->H l≠none)(r:aj K H O vs ds):Wd K H O H O (start N vs) (gC N ds):=by
 have hl:=r.length;have at1:∀(i:Nat) y,(gC N ds)[i]?=some y->(∃d,ds[i]?=some d/\y=some (.v d))\/y=none:=λi y e=>by
  unfold gC at e;by_cases h:i < ds.length
  ·rw [MH (by simpa using h),LD] at e;cases q:ds[i]? with
   | none=>rw [q] at e;cases e
   | some d=>rw [q] at e;exact .inl ⟨d,rfl,(Mg e).symm⟩
  ·rw [MR (by simpa using Pl h),NB] at e;split at e
   ·exact .inr (Mg e).symm
   ·cases e
 refine⟨ao.refl _,λ_ z=>z,λ_ z=>.inl z,tr,by simp [start,gC,hl],λi y e=>?_,λi j ds' es l e1=>?_⟩
 ·rcases at1 i y e with⟨d,hd,rfl⟩ | rfl
  ·obtain⟨v,hv,rv⟩:=r.getD hd;refine⟨v,?_,rv⟩;unfold start;rw [MH (by simpa using(Lz.mp hv).1),LD,hv];rfl
  ·exact MU
 ·rcases at1 i _ e1 with⟨d,_,z⟩ | z
  ·cases z;intro h;exact h.elim
  ·cases z
theorem eY.okD{x qual:Str}{st:Sq}{f:R8}{fd:Sj}{N ps:List Str}{k:Nat}{F:List R6->(R6->Prop)->Prop}(Fu:eY K x qual st f fd)(S:aS N ps (av st))(len:∀ds Q,F ds Q->ds.length=ps.length)
 (hbody:∀(cdv:R7) (A:Ss) (outer:List Env) (s:R9) (H:Hp) (O:Ex) (ds:List R6) (Q:R6->Prop) (E:XK),br k (A.deeper (Te qual (av st) s.heap.objs.size f cdv))->F ds Q->
  ∃t,bJ (gN CX0 P w K mg base N qual (av st) f cdv A outer s H E).nox (eX st) (bx K H O t)/\t {nx:=λ_=>Q .none,rt:=Q} (gC N ds)):aF P w K mg base CX0 (k+1) f fd ps (bf K F):=by
 refine Fu.ok S (λvs H Q E h=>?_) (λcdv A outer s H vs Q E hr h=>?_)
 ·obtain⟨O,ds,Qd,_,r,q,_⟩:=h;rw [r.length];exact len _ _ q
 ·obtain⟨O,ds,Qd,tr,r,q,k⟩:=h;obtain⟨t,ht,q'⟩:=hbody cdv A outer s H O ds Qd E hr q;refine⟨_,ht,O,_,_,wU tr r,q',λO' δ' σ' H' z w' S'=>?_,λd v H' z s' r'=>k d v H' z s' r',λ_ _ _ _ z=>z.elim,λ_ _ _ _ z=>z.elim⟩;exact k _ _ _ z w'.same .non
end
section
variable {X:Cx} {H0:Hp} {O0:Ex}
theorem d6:dj X [] (bM X.K H0 O0 iX):=λTR s σ H Q I h=>by
 obtain⟨O,δ,Qd,w,q,k⟩:=h;exact wA TR s σ H Q I (k true H q (ao.refl _))
def qL:R6->R6->(R6->Prop)->Prop:=λx y Q=>∃i j,x= .str i/\y= .str j/\i.length+j.length<=Sb/\Q (.str (i++j))
theorem mE{K:Ll}:cv K (λx y H Q=>∃i j,x= .str i/\y= .str j/\i.length+j.length<=Sb/\Q (.str (i++j)) H) qL:=λH O x y dx dy Qd R tr hx hy uu43 k=>by
 obtain⟨i,j,e1,e2,hz,q⟩:=uu43;subst e1 e2;cases hx.str;cases hy.str;exact⟨i,j,rfl,rfl,hz,k _ _ H q (ao.refl _) (.str _)⟩
def qM:R6->R6->(R6->Prop)->Prop:=λx y Q=>∃z i c,x= .str z/\y= .int i/\z.length<=Sb/\atI z.cps.toList i=some c/\Q (.str ⟨#[c]⟩)
theorem wV{K:Ll}:cv K wc qM:=λH O x y dx dy Qd R tr hx hy uu44 k=>by
 obtain⟨z,i,c,e1,e2,hz,e3,q⟩:=uu44;subst e1 e2;cases hx.str;cases hy.int;exact⟨z,i,c,rfl,rfl,hz,e3,k _ _ H q (ao.refl _) (.str _)⟩
def F7:V->Option Int->Option Int->Hp->VK->Prop:=λx lo hi H Q=>∃z,x= .str z/\z.length<=Sb/\Q (.str (Txt.slice z lo hi)) H
theorem F8:kl X F7:=by
 intro TR s σ H x v vl vu lo hi sl Q I rx hs pl pu h;obtain⟨z,rfl,hz,q⟩:=h;obtain⟨t,rfl⟩:=rx;have e1:∃l:Option (Int×Tok),vl=partValue l/\l.map (·.1)=lo:=by
  cases pl with
  | none=>exact⟨none,rfl,rfl⟩
  | int i t=>exact⟨some (i,t),rfl,rfl⟩
 have e2:∃l:Option (Int×Tok),vu=partValue l/\l.map (·.1)=hi:=by
  cases pu with
  | none=>exact⟨none,rfl,rfl⟩
  | int i t=>exact⟨some (i,t),rfl,rfl⟩
 obtain⟨l,rfl,rfl⟩:=e1;obtain⟨u,rfl,rfl⟩:=e2;refine⟨"str",_,F.slot_str_getitem.lookup,Td _ _ _,wpAny_getItem_str_slice (l:=l) (u:=u) (st:=none) hs rfl ?_⟩;exact post_val_or_str ⟨LY (Txt.slice_le z _ _) hz,λt' k=>⟨.str (Txt.slice z (l.map (·.1)) (u.map (·.1))),H,I.tok _,⟨_,rfl⟩,q⟩⟩
def qN(t:DT)(tl th:DO):DT:=λδ Q=>t δ λd=>tl δ λl=>th δ λu=>∃z,d= .str z/\z.length<=Sb/\Q (.str (Txt.slice z l u))
theorem mF{e:Sd}{lo hi:Option Sd}{t:DT}{tl th:DO}{pos p2:Pos}(h:DF X H0 O0 e t)(hl:PO X lo (fO X.K H0 O0 tl))(hu:PO X hi (fO X.K H0 O0 th)):DE X H0 O0 (.Subscript e (.Slice lo hi none p2) pos) (qN t tl th):=
 (lV F8 h hl hu).imp λσ H Q uu45=>by obtain⟨O,δ,Qd,w,q,k⟩:=uu45;exact⟨O,δ,_,w,q,λd v H1 q1 s1 r1=>⟨O,δ,_,w.mono s1,q1,λl H2 q2 s2=>⟨O,δ,_,w.mono (s1.trans s2),q2,λu H3 uu46 s3=>by
  obtain⟨z,e,hz,q3⟩:=uu46;subst e;cases r1.str;exact⟨z,rfl,hz,k _ _ H3 q3 (s1.trans (s2.trans s3)) (.str _)⟩⟩⟩⟩
theorem F9{K:Ll}{H:Hp}{O:Ex}:∀{ys:List Str}{vs:List V}{us:List R7},aj K H O vs (ys.map Lp)->aA vs us->StrsAre us ys:=by
 intro ys
 induction ys with
 | nil=>intro vs us r rv;rw [Mp] at r;cases r;cases rv;exact .nil
 | cons y ys ih=>
  intro vs us r rv;rw [Lq] at r;cases r with
  | cons h r=>
   cases h;cases rv with
   | cons r1 r2=>
    obtain⟨t,rfl⟩:=r1;exact .cons y t (ih r r2)
theorem Ga:wb X "str.join" (λx xs H Q=>∃(O:Ex)(z:Str)(a:V)(ys:List Str),x= .str z/\xs=[a]/\Sh X.K H O a (.list (ys.map .str))/\(ys.map (·.length)).sum+ys.length*z.length<=16777216/\Q (.str (Txt.join z ys)) H):=by
 intro TR s σ H x xs v us Q I rx rs h;obtain⟨O,z,a,ys,rfl,rfl,ha,hz,q⟩:=h;obtain⟨t,rfl⟩:=rx;obtain⟨u,rfl,ru⟩:=cP rs;obtain⟨l,vs,rfl,hl,dl⟩:=ha.lst;cases ru;obtain⟨its,rv,pl,_⟩:=I.list hl;exact join_list pl.isList (by simpa using F9 dl rv) hz λt' k=>⟨.str _,H,I.tok _,⟨_,rfl⟩,q⟩
def qO(to:DT)(t:DT):DT:=λδ Q=>to δ λx=>∃z:Str,x= .str z/\t δ λy=>∃(ys:List Str),y= .list (ys.map .str)/\(ys.map (·.length)).sum+ys.length*z.length<=16777216/\Q (.str (Txt.join z ys))
theorem Gb{o e:Sd}{to t:DT}{apos cpos:Pos}(ho:DE X H0 O0 o to)(ha:DF X H0 O0 e t)(hbase:SJ o "join" X.env (eval o X.env)=eval o X.env:=by rfl)
 (hfew:((Sy cpos (Se [e] X.env)).all (λx=>!x.1) && (Ti cpos (S4 [] X.env)).all (λx=>x.1.isSome) && decide ([e].length+([]:List SS).length+(if ([]:List SS).isEmpty then 0 else 1) < 30))=true:=by rfl)
 (hline:(apos.endLine==cpos.line)=true:=by rfl)(hst:Se [e] X.env=(false,eval e X.env)::Se [] X.env:=by rfl)(hplain:(Sy cpos (Se [] X.env)).any (·.1)=false:=by rfl):
 DE X H0 O0 (.Call (.Attribute o "join" apos) [e] [] cpos) (qO to t):=
 (km PySem.F.plainAttrs_str PySem.F.slot_str_join PySem.F.type_str_join Ga ho (bw ha bX hst) hbase hfew hline hst hplain).imp λσ H Q uu47=>by obtain⟨O,δ,Qd,w,q,k⟩:=uu47;exact⟨O,δ,_,w,q,λx v H1 uu48 s1 r1=>by
  obtain⟨z,e,q1⟩:=uu48;subst e;cases r1;exact⟨rfl,O,δ,_,w.mono s1,q1,λy u H2 uu49 s2 r2=>by obtain⟨ys,e,hz,q2⟩:=uu49;subst e;exact⟨O,z,u,ys,rfl,rfl,r2,hz,k _ _ H2 q2 (s1.trans s2) (.str _)⟩⟩⟩
def qP:List R6->(R6->Prop)->Prop:=λds Q=>(∃i,ds=[.int i]/\Q (.int i))\/∃b,ds=[.bool b]/\Q (.int (if b then 1 else 0))
theorem qQ{K:Ll}:gw K (λxs H Q=>(∃i,xs=[.int i]/\Q (.int i) H)\/∃k,xs=[.bl k]/\Q (.int (if k then 1 else 0)) H) qP:=λH O xs ds Qd R tr hs h k=>by
 rcases h with⟨i,e,q⟩ | ⟨b,e,q⟩ <;> subst e
 ·cases hs with
  | cons h r=>cases r;cases h.int;exact .inl ⟨i,rfl,k _ _ H q (ao.refl _) (.int _)⟩
 ·cases hs with
  | cons h r=>cases r;cases h.bl;exact .inr ⟨b,rfl,k _ _ H q (ao.refl _) (.int _)⟩
def qR(t:DA):DA:=λδ Q=>t δ λds=>∃xs,(ds=[.list xs]\/ds=[.tuple xs])/\Q xs
theorem Gd{a:Sd}{t:DA}{np p:Pos}(hg:Gl X "list")(hm:X.mg "list"=none)(hv:Sw "list"=some (.type "list"))(ha:PA X [a] (dS X.K H0 O0 t))(he:Se [a] X.env=(false,eval a X.env)::Se [] X.env:=by rfl)(hpl:(Sy p (Se [] X.env)).any (·.1)=false:=by rfl):FE X H0 O0 (.Call (.Name "list" np) [a] [] p) (qR t):=
 (cB E1 hg hm hv ha (he:=he) (hpl:=hpl)).imp λσ H Q uu50=>by obtain⟨O,δ,Qd,w,q,k⟩:=uu50;exact⟨O,δ,_,w,q,λds vs H1 uu51 s1 r1=>by
  obtain⟨xs,e,q1⟩:=uu51;rcases e with e | e <;> subst e
  ·cases r1 with
   | cons h r=>
    cases r;obtain⟨a,us,rfl,h1,d1⟩:=h.lst;exact⟨a,us,rfl,.inl h1,λl hl=>k _ _ _ _ q1 s1 hl d1⟩
  ·cases r1 with
   | cons h r=>
    cases r;obtain⟨a,us,rfl,h1,d1⟩:=h.tup;exact⟨a,us,rfl,.inr h1,λl hl=>k _ _ _ _ q1 s1 hl d1⟩⟩
end
section
variable {X:Cx} {TR:List (R8×Obj)} {σ:St} {H:Hp} {s:R9}
theorem ae.swap{p:R8}{o':HO}(I:ae X TR σ H s)(mu:jk (H p))(new:bU X.prog X.w (ak H p o') s.heap p o'):ae X TR σ (ak H p o') s:=by
 have hp:∃o,H p=some o:=by
  cases e:H p with
  | none=>rw [e] at mu;exact mu.elim
  | some o=>exact⟨o,rfl⟩
 obtain⟨o,ho⟩:=hp;have nn:∀{b:R8},H b=none->b≠p:=λhb z=>by rw [z,ho] at hb;cases hb
 have nt:∀{b:R8}{xs:List V},H b=some (.tup xs)->b≠p:=λhb z=>by rw [z] at hb;rw [hb] at mu;exact mu
 have nw:∀{b y:R8},H b=some (.own y)->b≠p:=λhb z=>by rw [z] at hb;rw [hb] at mu;exact mu
 have nf:∀{b:R8}{ob:Obj}{u:HO},H b=some (.frz ob u)->b≠p:=λhb z=>by rw [z] at hb;rw [hb] at mu;exact mu
 have nb:∀{b:R8}{ps:Array R7},H b=some (.tbl ps)->b≠p:=λhb z=>by rw [z] at hb;rw [hb] at mu;exact mu
 have ub:=I.base;refine⟨I.ok,I.os,I.bare,⟨ub.keep,ub.slot,λb ob e n hx=>?_,ub.there,λb xs z=>?_,λb ob u z=>?_,λb ps z=>?_⟩,I.loc,I.cell,?_,λx c e=>?_,λq hq=>?_,λb u e=>?_,I.len⟩
 ·have:=ub.free b ob e n hx;rw [aD (nn this)];exact this
 ·have:=ub.tups b xs z;rw [aD (nt this)];exact this
 ·have:=ub.frzs b ob u z;rw [aD (nf this)];exact this
 ·obtain⟨m,this⟩:=ub.tbls b ps z;exact⟨m,by rw [aD (nb this)];exact this⟩
 ·rw [aD (nn I.free)];exact I.free
 ·have:=I.freeC x c e;rw [aD (nn this)];exact this
 ·obtain⟨a,b,c⟩:=I.pin q hq;exact⟨a,by rw [aD (nn b)];exact b,c⟩
 ·by_cases hb:b=p
  ·subst hb;rw [bb] at e;cases e;exact new
  ·rw [aD hb] at e;exact(I.hok b u e).stay (λ_ _ _ q=>q) (λc z=>by rw [aD (nw z)];exact z) λc xs z=>by rw [aD (nt z)];exact z
theorem ae.open3{p:R8}(I:ae X TR σ H s)(e:H p=some (fL p)):∃a b c,ae X TR σ (ak H p (.lst [.int a,.int b,.int c])) s:=by
 obtain⟨⟨a,b,c,t,u,v,k,h⟩,_,_⟩:=(show bU X.prog X.w H s.heap p (fL p) from I.hok p _ e);exact⟨a,b,c,I.swap (by rw [e];exact MU) ⟨(show 3<=Sb by decide),[.int a t,.int b u,.int c v],k,.cons ⟨t,rfl⟩ (.cons ⟨u,rfl⟩ (.cons ⟨v,rfl⟩ .nil)),h⟩⟩
theorem ae.shut3{p:R8}{a b c:Int}(I:ae X TR σ H s)(e:H p=some (.lst [.int a,.int b,.int c])):ae X TR σ (ak H p (fL p)) s:=by
 obtain⟨_,its,k,r,h⟩:=(show bU X.prog X.w H s.heap p (.lst [.int a,.int b,.int c]) from I.hok p _ e);cases r with
 | cons r1 r2=>
  cases r2 with
  | cons r2 r3=>
   cases r3 with
   | cons r3 r4=>
    cases r4;obtain⟨t,rfl⟩:=r1;obtain⟨u,rfl⟩:=r2;obtain⟨v,rfl⟩:=r3;exact I.swap (by rw [e];exact MU) ⟨⟨a,b,c,t,u,v,k,h⟩,⟨_,h⟩,λh1 h2 uu52 kk=>by obtain⟨a,b,c,t,u,v,k,z⟩:=uu52;exact⟨a,b,c,t,u,v,k,kk _ z⟩⟩
theorem bJ.purse{st:List Sq}{t:TS}(h:bJ X st t):bJ X st (λD σ H=>∃p,H p=some (fL p)/\∀a b c,t {nx:=λσ' H'=>∃a b c,H' p=some (.lst [.int a,.int b,.int c])/\D.nx σ' (ak H' p (fL p)),rt:=λv H'=>∃a b c,H' p=some (.lst [.int a,.int b,.int c])/\D.rt v (ak H' p (fL p))} σ (ak H p (.lst [.int a,.int b,.int c]))):=by
 intro TR s σ H D I ⟨p,e,q⟩;obtain⟨a,b,c,I1⟩:=I.open3 e;refine ax (h TR s σ _ _ I1 (q a b c)) λf s1 z=>?_;cases f with
 | next=>obtain⟨σ',H',J,_,_,_,e',q'⟩:=z;exact⟨σ',_,J.shut3 e',q'⟩
 | ret u=>obtain⟨v,σ',H',J,r,_,_,_,e',q'⟩:=z;exact⟨v,σ',_,J.shut3 e',r,q'⟩
 | brk=>obtain⟨_,_,_,z⟩:=z;exact z.elim
 | cont=>obtain⟨_,_,_,z⟩:=z;exact z.elim
theorem bJ.newPurse{st:List Sq}{t:TS}(h:bJ X st t):bJ X st (λD σ H=>t {nx:=λ_ _=>False,rt:=λv H'=>∃p a b c,v= .ref p/\H' p=some (.lst [.int a,.int b,.int c])/\D.rt v (ak H' p (fL p))} σ H):=by
 intro TR s σ H D I q;refine ax (h TR s σ _ _ I q) λf s1 z=>?_;cases f with
 | next=>obtain⟨_,_,_,z⟩:=z;exact z.elim
 | ret u=>obtain⟨v,σ',H',J,r,p,a,b,c,e,e',q'⟩:=z;subst e;exact⟨_,σ',_,J.shut3 e',r,q'⟩
 | brk=>obtain⟨_,_,_,z⟩:=z;exact z.elim
 | cont=>obtain⟨_,_,_,z⟩:=z;exact z.elim
end
def qS:List R6->(R6->Prop)->Prop:=λds Q=>∃z:Int,ds=[fu,.int z]/\0 < z/\z<=1000000/\∀i:Int,0<=i->i < z->Q (.int i)
theorem gZ{α:Type}{a:α}{l:List α}:atI (a::l) 0=some a:=eU (j:=0) rfl
theorem gE{α:Type}{a b:α}{l:List α}:atI (a::b::l) 1=some b:=eU (j:=1) rfl
theorem mG{α:Type}{a b c:α}{l:List α}:atI (a::b::c::l) 2=some c:=eU (j:=2) rfl
theorem ik{α:Type}{a b c d:α}{l:List α}:atI (a::b::c::d::l) 3=some d:=eU (j:=3) rfl
theorem qT{α:Type}{a b c d e:α}{l:List α}:atI (a::b::c::d::e::l) 4=some e:=eU (j:=4) rfl
theorem fQ{i:Int}:dn (.int i):=rfl
theorem wX{i:Bool}:dn (.bool i):=rfl
theorem mH:dn .none:=rfl
theorem iZ{x y:Str}:LL (.str x) (.str y)=(x==y):=by simp [LL]
theorem i3{x y:Int}:LL (.int x) (.int y)=(x==y):=by simp [LL]
theorem cR{x:Str}:dn (.str x)↔LB x=true:=by
 unfold dn MN;simp [L7,Oa]
theorem pe{n d:Nat}:HT.sIx n d none=d:=rfl
theorem mI{n d:Nat}{i:Int}(h0:0<=i)(h1:i<=n):HT.sIx n d (some i)=i.toNat:=by
 obtain⟨j,rfl⟩:=My h0;rw [HT.sIx_nat,O8];omega
theorem kD{xs:List R6}{i:Int}(h0:0<=i)(h1:i<=xs.length):cz xs none (some i)=xs.take i.toNat:=by
 unfold cz;rw [pe,mI h0 h1];simp
theorem wY{xs:List R6}{i:Int}(h0:0<=i)(h1:i<=xs.length):cz xs (some i) none=xs.drop i.toNat:=by
 unfold cz;rw [pe,mI h0 h1,L3 (by rw [OB];exact Lr _)]
theorem i4{lo:Int}{n i:Nat}{x:R6}(h:(gU lo n)[i]?=some x):i < n/\x= .int (lo+i):=by
 unfold gU at h;rw [LD] at h;by_cases hi:i < n
 ·rw [List.getElem?_range hi] at h;exact⟨hi,(Mg h).symm⟩
 ·rw [NT (by simpa using hi)] at h;cases h
theorem kE{lo:Int}{n:Nat}:(gU lo n).length=n:=by unfold gU;simp
section
variable {κ:Type} [DecidableEq κ]
def dO(kvs:List (κ×V))(k:κ):Option V:=(kvs.find? λkv=>decide (kv.1=k)).map (·.2)
def putK(kvs:List (κ×V))(k:κ)(v:V):List (κ×V):=
 if (kvs.any λkv=>decide (kv.1=k))=true then kvs.map (λkv=>if kv.1=k then(kv.1,v) else kv) else kvs++[(k,v)]
theorem kF{p:κ×V}{r:List (κ×V)}{k:κ}(e:p.1=k):dO (p::r) k=some p.2:=by simp [dO,MV,e]
theorem kG{p:κ×V}{r:List (κ×V)}{k:κ}(e:¬p.1=k):dO (p::r) k=dO r k:=by simp [dO,MV,e]
theorem wZ(k:κ):∀kvs:List (κ×V),(kvs.any λkv=>decide (kv.1=k))=(dO kvs k).isSome
 | []=>rfl
 | p::r=>by
  rw [M7];by_cases e:p.1=k
  ·simp only [kF e,decide_eq_true e,Bool.true_or,Qy]
  ·rw [kG e,decide_eq_false e,O4];exact wZ k r
theorem qU(kvs:List (κ×V))(k:κ)(v:V):(putK kvs k v).length<=kvs.length+1:=by
 unfold putK;split
 ·rw [Lm];omega
 ·rw [LN,LP,MZ];omega
theorem dZ.isSome_eq{o:Option V}{u:Option R7}(r:dZ o u):o.isSome=u.isSome:=by
 cases o with
 | none=>cases u with
  | none=>rfl
  | some _=>exact(show False from r).elim
 | some _=>cases u with
  | none=>exact(show False from r).elim
  | some _=>rfl
theorem dZ.getD{o:Option V}{u:Option R7}{d:V}{d':R7}(r:dZ o u)(rd:aC d d'):aC (o.getD d) (u.getD d'):=by
 cases o with
 | none=>cases u with
  | none=>exact rd
  | some _=>exact(show False from r).elim
 | some _=>cases u with
  | none=>exact(show False from r).elim
  | some _=>exact r
theorem KV.val{kvs:List (κ×V)}{vs:List (κ×R7)}(r:KV kvs vs)(k:κ):dZ (dO kvs k) (valueAt vs k):=by
 unfold KV at r
 induction r with
 | nil=>exact MU
 | @cons p q ps qs h t ih=>
  obtain⟨h1,h2⟩:=h;by_cases e:p.1=k
  ·have e':q.1=k:=h1.symm.trans e;have b:valueAt (q::qs) k=some q.2:=by simp [valueAt,MV,e']
   rw [kF e,b];exact h2
  ·have e':¬q.1=k:=λz=>e (h1.trans z);have b:valueAt (q::qs) k=valueAt qs k:=by simp [valueAt,MV,e']
   rw [kG e,b];exact ih
theorem KV.any{kvs:List (κ×V)}{vs:List (κ×R7)}(r:KV kvs vs)(k:κ):(kvs.any λkv=>decide (kv.1=k))=vs.any λkv=>decide (kv.1=k):=by
 unfold KV at r
 induction r with
 | nil=>rfl
 | cons h t ih=>rw [M7,M7,ih,h.1]
theorem KV.repl{kvs:List (κ×V)}{vs:List (κ×R7)}(r:KV kvs vs)(k:κ){y:V}{u:R7}(ry:aC y u):
 KV (kvs.map λkv=>if kv.1=k then(kv.1,y) else kv) (vs.map λkv=>if kv.1=k then(kv.1,u) else kv):=by
 unfold KV at r⊢
 induction r with
 | nil=>exact .nil
 | @cons p q ps qs h t ih=>
  rw [Lq,Lq];refine .cons ?_ ih;obtain⟨h1,h2⟩:=h;by_cases e:p.1=k
  ·rw [R3 e,R3 (h1.symm.trans e)];exact⟨h1,ry⟩
  ·rw [R1 e,R1 (λz=>e (h1.trans z))];exact⟨h1,h2⟩
theorem KV.put{kvs:List (κ×V)}{vs:List (κ×R7)}(r:KV kvs vs)(k:κ){y:V}{u:R7}(ry:aC y u):KV (putK kvs k y) (stored vs k u):=by
 unfold putK stored;rw [r.any k];by_cases e:(vs.any λkv=>decide (kv.1=k))=true
 ·rw [R3 e,R3 e];exact r.repl k ry
 ·rw [R1 e,R1 e];exact RQ r ⟨rfl,ry⟩
theorem KV.keys{kvs:List (κ×V)}{vs:List (κ×R7)}(r:KV kvs vs):kvs.map (·.1)=vs.map (·.1):=by
 unfold KV at r
 induction r with
 | nil=>rfl
 | cons h t ih=>rw [Lq,Lq,ih,h.1]
theorem KV.length{kvs:List (κ×V)}{vs:List (κ×R7)}(r:KV kvs vs):kvs.length=vs.length:=OU r
end
theorem iq{P:Sk}{w:Sm}{k:ah}{u:R7}(r:aC (kV k) u):(bT P w).is k u=true:=by
 cases k with
 | inl i=>obtain⟨t,e⟩:=(show ∃t,u=NU i t from r);subst e;exact DD P w i t
 | inr x=>obtain⟨t,e⟩:=(show ∃t,u=Np x t from r);subst e;exact DH P w x t
theorem w6{P:Sk}{w:Sm}:∀{ks:List ah}{us:List R7},aA (ks.map kV) us->ItemsAre (bT P w) ks us
 | [],_,r=>by rw [Mp] at r;cases r;exact .nil
 | k::ks,_,r=>by
  rw [Lq] at r;cases r with
  | cons h t=>exact .cons (iq h) (w6 t)
abbrev KT(H:Hp):List (List ah×V)->List (List ah×R8×R7)->Prop:=Paired λp q=>p.1=q.1/\H q.2.1=some (.tup (p.1.map kV))/\aC p.2 q.2.2
theorem KT.val{H:Hp}{kvs:List (List ah×V)}{xs:List (List ah×R8×R7)}(r:KT H kvs xs)(k:List ah):dZ (dO kvs k) ((atKey xs k).map (·.2)):=by
 induction r with
 | nil=>exact MU
 | @cons p q ps qs h t ih=>
  obtain⟨h1,_,h2⟩:=h;by_cases e:p.1=k
  ·have e':q.1=k:=h1.symm.trans e;have b:atKey (q::qs) k=some q.2:=by simp [atKey,MV,e']
   rw [kF e,b];exact h2
  ·have e':¬q.1=k:=λz=>e (h1.trans z);have b:atKey (q::qs) k=atKey qs k:=by simp [atKey,MV,e']
   rw [kG e,b];exact ih
theorem KT.repl{H:Hp}{kvs:List (List ah×V)}{xs:List (List ah×R8×R7)}(r:KT H kvs xs)(k:List ah){y:V}{u:R7}(ry:aC y u):
 KT H (kvs.map λkv=>if kv.1=k then(kv.1,y) else kv) (xs.map (putAt k u)):=by
 induction r with
 | nil=>exact .nil
 | @cons p q ps qs h t ih=>
  rw [Lq,Lq];refine .cons ?_ ih;obtain⟨h1,h2,h3⟩:=h;unfold putAt;by_cases e:p.1=k
  ·rw [R3 e,R3 (h1.symm.trans e)];exact⟨h1,h2,ry⟩
  ·rw [R1 e,R1 (λz=>e (h1.trans z))];exact⟨h1,h2,h3⟩
theorem KT.put{H:Hp}{kvs:List (List ah×V)}{xs:List (List ah×R8×R7)}(r:KT H kvs xs)(k:List ah){b:R8}{y:V}{u:R7}(hb:H b=some (.tup (k.map kV)))(ry:aC y u):
 KT H (putK kvs k y) (storedH xs k b u):=by
 have e:(kvs.any λkv=>decide (kv.1=k))=(atKey xs k).isSome:=by
  rw [wZ,(r.val k).isSome_eq,Ol]
 unfold putK storedH;rw [e];by_cases q:(atKey xs k).isSome=true
 ·rw [R3 q,R3 q];exact r.repl k ry
 ·rw [R1 q,R1 q];exact RQ r ⟨rfl,hb,ry⟩
theorem KT.keeps{H H':Hp}{kvs:List (List ah×V)}{xs:List (List ah×R8×R7)}(r:KT H kvs xs)(ht:∀b ys,H b=some (.tup ys)->H' b=some (.tup ys)):KT H' kvs xs:=
 Paired.mapP r λ_ _ z=>⟨z.1,ht _ _ z.2.1,z.2.2⟩
section
variable {P:Sk} {w:Sm} {H:Hp} {h:Sn} {a:R8}
theorem xa{u:HO}(ok:bL P w H h)(e:Rd H a u):bU P w H h a u:=e.ok ok
theorem iu{kvs:List (ah×V)}(ok:bL P w H h)(e:Rd H a (.dK kvs)):kvs.length<=Sb/\(a==SN)=false/\∃vs,KV kvs vs/\h.DictOf (bT P w) a vs:=
 show bU P w H h a (.dK kvs) from xa ok e
theorem xb{kvs:List (ah×V)}(ok:bL P w H h)(e:H a=some (.dK kvs)):kvs.length<=Sb/\(a==SN)=false/\∃vs,KV kvs vs/\h.DictOf (bT P w) a vs:=iu ok (.inl e)
theorem jC{ks:List ah}(ok:bL P w H h)(e:H a=some (.tup (ks.map kV))):(Tx (bT P w)).is h ks a:=by
 obtain⟨_,its,r,o,h1,h2,n,h3⟩:=(show bU P w H h a (.tup (ks.map kV)) from ok a _ e);exact⟨o,its.toArray,n,h1,h2,h3,by simpa using w6 r⟩
theorem i6{kvs:List (List ah×V)}(ok:bL P w H h)(e:Rd H a (.dT kvs)):kvs.length<=Sb/\(a==SN)=false/\
 ∃xs,KT H kvs xs/\h.DictOfH (Tx (bT P w)) a xs:=by
 obtain⟨z,y,xs,r,o,es,ep,h1,h2,h3,h4,h5⟩:=(show bU P w H h a (.dT kvs) from xa ok e);refine⟨z,y,xs,r,o,es,ep,h1,h2,h3,h4,λx hx=>?_,h5⟩;have all:∀{l:List (List ah×V)}{m:List (List ah×R8×R7)},KT H l m->∀x∈m,(Tx (bT P w)).is h x.1 x.2.1:=by
  intro l m q
  induction q with
  | nil=>intro x hx;exact nomatch hx
  | @cons p q ps qs hq t ih=>
   intro x hx;rcases LF.mp hx with e | hx
   ·subst e;exact jC ok (by rw [<-hq.1];exact hq.2.1)
   ·exact ih x hx
 exact all r x hx
theorem Ge{kvs:List (List ah×V)}(ok:bL P w H h)(e:H a=some (.dT kvs)):kvs.length<=Sb/\(a==SN)=false/\
 ∃xs,KT H kvs xs/\h.DictOfH (Tx (bT P w)) a xs:=i6 ok (.inl e)
end
def dA(H:Hp)(a:R8)(y:V)(r:Option V):Prop:=
 (∃kvs k,Rd H a (.dK kvs)/\y=kV k/\r=dO kvs k)\/∃kvs k b,Rd H a (.dT kvs)/\y= .ref b/\H b=some (.tup (k.map kV))/\r=dO kvs k
def kH(H:Hp)(a:R8)(y v:V)(H':Hp):Prop:=
 (∃kvs k,H a=some (.dK kvs)/\y=kV k/\kvs.length < Sb/\H'=ak H a (.dK (putK kvs k v)))\/
 ∃kvs k b,H a=some (.dT kvs)/\y= .ref b/\H b=some (.tup (k.map kV))/\kvs.length < Sb/\H'=ak H a (.dT (putK kvs k v))
theorem dA.k{H:Hp}{a:R8}{kvs:List (ah×V)}{k:ah}(e:H a=some (.dK kvs)):dA H a (kV k) (dO kvs k):= .inl ⟨kvs,k,.inl e,rfl,rfl⟩
theorem kH.k{H:Hp}{a:R8}{kvs:List (ah×V)}{k:ah}{v:V}(e:H a=some (.dK kvs))(hl:kvs.length < Sb):kH H a (kV k) v (ak H a (.dK (putK kvs k v))):= .inl ⟨kvs,k,e,rfl,hl,rfl⟩
section
variable {X:Cx} {TR:List (R8×Obj)} {σ:St} {H:Hp} {s:R9} {a:R8} {y v:V} {u r:R7} {o:Option V} {A:Ss} {E:R7->R9->Prop}
theorem ae.big(I:ae X TR σ H s):SN < s.heap.objs.size:=by
 have h:So < s.heap.objs.size:=(I.mod.glob.keeps I.bk).lt;exact Pm RZ h
theorem Gf{Q:R7->R9->Prop}(hu:A.units+1 < SG)(I:ae X TR σ H s)(g:dA H a y (some v))(ry:aC y u)(h:∀w' s',ae X TR σ H s'->aC v w'->Q w' s'):
 Sf (Si X.prog X.w) A (S5 (.ref a) u) Q E s:=by
 rcases g with⟨kvs,k,e,ey,l⟩ | ⟨kvs,k,b,e,ey,eb,l⟩
 ·subst ey;obtain⟨z,hd,vs,rel,dd⟩:=iu I.hok e;obtain⟨w',hw,rw'⟩:=dZ.some_of (v:=v) (o:=valueAt vs k) (by rw [l];exact rel.val k);exact wpAny_getItem_of (iq ry) dd.mapOf hw (h w' _ (I.tok _) rw')
 ·subst ey;cases (show u=L8 b from ry);obtain⟨z,hd,xs,rel,dd⟩:=i6 I.hok e;obtain⟨w',hw,rw'⟩:=dZ.some_of (v:=v) (o:=(atKey xs k).map (·.2)) (by rw [l];exact rel.val k);obtain⟨p,hp,hp2⟩:=Option.map_eq_some_iff.mp hw;refine wpAny_getItem_heap (S0 hu) (jC I.hok eb) dd hp ?_;rw [hp2];exact h w' _ (I.tok _) rw'
theorem Gg{Q:R7->R9->Prop}(hu:A.units+1 < SG)(I:ae X TR σ H s)(g:dA H a y o)(ry:aC y u)(h:∀s',ae X TR σ H s'->Q (.bool o.isSome) s'):
 Sf (Si X.prog X.w) A (Sv .In u (.ref a)) Q E s:=by
 rcases g with⟨kvs,k,e,ey,l⟩ | ⟨kvs,k,b,e,ey,eb,l⟩
 ·subst ey;obtain⟨z,hd,vs,rel,dd⟩:=iu I.hok e;refine wpAny_in_of (iq ry) hd dd.mapOf ?_;rw [<-(rel.val k).isSome_eq,<-l];exact h _ (I.tok _)
 ·subst ey;cases (show u=L8 b from ry);obtain⟨z,hd,xs,rel,dd⟩:=i6 I.hok e;refine wpAny_in_heap (S0 hu) (jC I.hok eb) hd dd ?_;have q:=(rel.val k).isSome_eq;rw [Ol] at q;rw [<-q,<-l];exact h _ (I.tok _)
theorem Gh{Q:R7->R9->Prop}(hu:A.units+1 < SG)(I:ae X TR σ H s)(g:dA H a y o)(ry:aC y u)(h:∀s',ae X TR σ H s'->Q (.bool (!o.isSome)) s'):
 Sf (Si X.prog X.w) A (Sv .NotIn u (.ref a)) Q E s:=by
 rcases g with⟨kvs,k,e,ey,l⟩ | ⟨kvs,k,b,e,ey,eb,l⟩
 ·subst ey;obtain⟨z,hd,vs,rel,dd⟩:=iu I.hok e;refine wpAny_notIn_of (iq ry) hd dd.mapOf ?_;rw [<-(rel.val k).isSome_eq,<-l];exact h _ (I.tok _)
 ·subst ey;cases (show u=L8 b from ry);obtain⟨z,hd,xs,rel,dd⟩:=i6 I.hok e;refine wpAny_notIn_heap (S0 hu) (jC I.hok eb) hd dd ?_;have q:=(rel.val k).isSome_eq;rw [Ol] at q;rw [<-q,<-l];exact h _ (I.tok _)
theorem qV{h':Sn}{t':Nat}{ob:HO}(I:ae X TR σ H s)(mu:jk (H a))(hs:N7 a s.heap h')(he:∃q,h'.get? a=some q)(new:bU X.prog X.w (ak H a ob) h' a ob):
 ae X TR σ (ak H a ob) {s with heap:=h',toks:=t'}:=
 I.write (x:=a) (e:=a) mu (.inl rfl) (λb q hb z=>(hs.2 b hb).trans z) he new
theorem qW{P:Sk}{w:Sm}{H':Hp}{h':Sn}{kvs:List (ah×V)}{vs:List (ah×R7)}(z:kvs.length<=Sb)(hd:(a==SN)=false)(rel:KV kvs vs)(dd:h'.DictOf (bT P w) a vs):
 bU P w H' h' a (.dK kvs):=⟨z,hd,vs,rel,dd⟩
theorem Gi{H':Hp}{Q:Unit->R9->Prop}(hu:A.units+1 < SG)(I:ae X TR σ H s)(g:kH H a y v H')(ry:aC y u)(rv:aC v r)(h:∀s',ae X TR σ H' s'->Q () s'):
 Sf (Si X.prog X.w) A (setItem (.ref a) u r) Q E s:=by
 rcases g with⟨kvs,k,e,ey,l,eH⟩ | ⟨kvs,k,b,e,ey,eb,l,eH⟩
 ·subst ey eH;obtain⟨z,hd,vs,rel,dd⟩:=xb I.hok e;have hz:vs.length<=Sb:=by rw [<-rel.length];exact z
  have hl:(putK kvs k v).length<=Sb:=by have:=qU kvs k v;omega
  refine wpAny_setItem_pairs (hsz:=hz) (iq ry) dd λh' dd' hs=>h _ ?_;have he:∃q,h'.get? a=some q:=let ⟨q,_,_,hq,_⟩:=dd';⟨q,hq⟩
  exact qV I (by rw [e];exact MU) hs he (qW hl hd (rel.put k rv) dd')
 ·subst ey eH;cases (show u=L8 b from ry);obtain⟨z,hd,xs,rel,dd⟩:=Ge I.hok e;have hz:xs.length<=Sb:=by rw [<-OU rel];exact z
  have hl:(putK kvs k v).length<=Sb:=by have:=qU kvs k v;omega
  refine wpAny_setItem_heap (hsz:=hz) (S0 hu) (jC I.hok eb) dd λh' dd' hs=>h _ ?_;obtain⟨q,es,ep,hq,h2,h3,h4,_,h5⟩:=dd';refine qV I (by rw [e];exact MU) hs ⟨q,hq⟩ ⟨hl,hd,_,(rel.put k eb rv).keeps λc ys ec=>?_,q,es,ep,hq,h2,h3,h4,h5⟩;rw [aD (DJ ec e (λz=>nomatch z))];exact ec
end
def mJ(i:Sd):Prop:=∀ov iv,Tf i false ov iv=operate [ov,iv] (S5 ov iv)
theorem Gj{prog:Sk}{w:Sm}{A:Ss}{E:R7->R9->Prop}{s:R9}{env:Env}{value slice:Sd}{pos:Pos}{T id:String}{Q:R7->R9->Prop}
 (hl:typeLookup (.type T) "__getitem__"=pure (some (.builtin id)))(hs:mJ slice)
 (h:Sf (Si prog w) A (eval value env) (λo s₁=>Sf (Si prog w) A (eval slice env) (λi s₂=>s₂.TypeIs o T/\Sf (Si prog w) A (S5 o i) Q E s₂) E s₁) E s):
 Sf (Si prog w) A (eval (.Subscript value slice pos) env) Q E s:=by
 refine Subscript_ (Sz h (λo s₁ h₁=>Sz h₁ (λi s₂ h₂=>?_) λ_ _ x=>x) λ_ _ x=>x);obtain⟨hT,h₂⟩:=h₂;unfold subscriptTail;refine Sa ?_;rw [getitemInPython_of_ne hT.not_modules];refine Sa (wpAny_specialOf hT hl ?_);have fin:Sf (Si prog w) A (Tf slice false o i) (λr s₃=>Sf (Si prog w) A (letTemporaryGo value o r >>=λ_=>pure r) Q E s₃) E s₂:=by
  rw [hs o i];exact wpAny_operating (Sz h₂ (λr s₃ h₃=>Sa (wpAny_letTemporaryGo (Sg h₃))) λ_ _ x=>x)
 first
  | exact Sg (Sa fin)
  | exact Sa (Sg (Sa fin))
  | exact Sa fin
theorem Gk{X:Cx}{TR:List (R8×Obj)}{σ:St}{H:Hp}{s:R9}{a:R8}{y:V}{o:Option V}(I:ae X TR σ H s)(g:dA H a y o):s.TypeIs (.ref a) "dict":=by
 rcases g with⟨kvs,k,e,_,_⟩ | ⟨kvs,k,b,e,_,_,_⟩
 ·obtain⟨_,_,vs,_,dd⟩:=iu I.hok e;exact dd.typeIs
 ·obtain⟨_,_,xs,_,dd⟩:=i6 I.hok e;exact dd.typeIs
def Gm(td ty:TE):TE:=λσ H Q=>td σ H λx H1=>ty σ H1 λy H2=>∃a v,x= .ref a/\dA H2 a y (some v)/\Q v H2
def Gn(ty td:TE):TE:=λσ H Q=>ty σ H λy H1=>td σ H1 λx H2=>∃a o,x= .ref a/\dA H2 a y o/\Q (.bl o.isSome) H2
def Gp(ty td:TE):TE:=λσ H Q=>ty σ H λy H1=>td σ H1 λx H2=>∃a o,x= .ref a/\dA H2 a y o/\Q (.bl (!o.isSome)) H2
def Gq(td ty tv:TE):TS:=λD σ H=>tv σ H λv H1=>td σ H1 λx H2=>ty σ H2 λy H3=>∃a H4,x= .ref a/\kH H3 a y v H4/\D.nx σ H4
section
variable {X:Cx} {o i e value:Sd} {pos pos' tpos:Pos} {td ty tv:TE}
theorem xc(hu:X.A.units+1 < SG)(ho:PE X o td)(hi:PE X i ty)(hs:mJ i):PE X (.Subscript o i pos) (Gm td ty):=by
 intro TR s σ H Q I h;refine Gj PySem.F.slot_dict_getitem.lookup hs (ax (ho TR s σ H _ I h) λu s1 ⟨x,H1,I1,rx,q1⟩=>ax (hi TR s1 σ H1 _ I1 q1) λiv s2 ⟨y,H2,I2,ry,a,v,ex,g,q2⟩=>?_);subst ex;obtain rfl:u=L8 a:=rx;exact⟨Gk I2 g,Gf hu I2 g ry λw' s3 I3 rw'=>⟨v,H2,I3,rw',q2⟩⟩
theorem Gr(hu:X.A.units+1 < SG)(hi:PE X i ty)(ho:PE X o td):PC X .In i o (Gn ty td):=by
 intro TR s σ H Q I h;refine ax (hi TR s σ H _ I h) λiv s1 ⟨y,H1,I1,ry,q1⟩=>ax (ho TR s1 σ H1 _ I1 q1) λu s2 ⟨x,H2,I2,rx,a,ov,ex,g,q2⟩=>?_;subst ex;obtain rfl:u=L8 a:=rx;exact Gg hu I2 g ry λs3 I3=>⟨.bl ov.isSome,H2,I3,rfl,q2⟩
theorem Gs(hu:X.A.units+1 < SG)(hi:PE X i ty)(ho:PE X o td):PC X .NotIn i o (Gp ty td):=by
 intro TR s σ H Q I h;refine ax (hi TR s σ H _ I h) λiv s1 ⟨y,H1,I1,ry,q1⟩=>ax (ho TR s1 σ H1 _ I1 q1) λu s2 ⟨x,H2,I2,rx,a,ov,ex,g,q2⟩=>?_;subst ex;obtain rfl:u=L8 a:=rx;exact Gh hu I2 g ry λs3 I3=>⟨.bl (!ov.isSome),H2,I3,rfl,q2⟩
theorem Gu(hu:X.A.units+1 < SG)(ho:PE X o td)(hi:PE X i ty)(hv:PE X value tv)(hs:Sx value (some (.Subscript o i pos')) pos.line X.env=pure false):
 PS X (.Assign [.Subscript o i pos'] value pos) (Gq td ty tv):=by
 intro TR s σ H D I h;refine wpAny_Assign_Subscript (ax (hv TR s σ H _ I h) λr s1 ⟨v,H1,I1,rv,q1⟩=>ax (ho TR s1 σ H1 _ I1 q1) λu s2 ⟨x,H2,I2,rx,q2⟩=>ax (hi TR s2 σ H2 _ I2 q2) λiv s3 ⟨y,H3,I3,ry,a,H4,ex,g,q3⟩=>?_) hs;subst ex;obtain rfl:u=L8 a:=rx;exact Gi hu I3 g ry rv λs4 I4=>⟨σ,H4,I4,q3⟩
end
theorem xf{P:Sk}{w:Sm}{H:Hp}(h:Sn)(hb:SN < h.objs.size):bU P w H (h.push {cls:= .type "dict",data:= .dict #[]}) h.objs.size (.dK []):=
 ⟨Mb _,beq_eq_false_iff_ne.mpr (Ne.symm (LV hb)),[],.nil,Q6 h⟩
def Gv:TE:=λ_ H Q=>∀p,H p=none->Q (.ref p) (ak H p (.dK []))
section
variable {X:Cx} {pos:Pos}
theorem Gw:PE X (.Dict [] [] pos) Gv:=λTR s σ H Q I h=>
 wpAny_Dict_empty ⟨.ref s.heap.objs.size,_,I.laid (a:=s.heap.objs.size) (o:= .dK []) (t':=s.toks) (λ_ _ q=>Lo _ q) (Lr _) (xf s.heap I.big),rfl,h _ (I.hok.fresh (Lr _))⟩
end
def mK:List (TE×TE)->St->Hp->(List (V×V)->Hp->Prop)->Prop
 | [],_,H,Q=>Q [] H
 | (tk,tv)::r,σ,H,Q=>tk σ H λx H1=>tv σ H1 λy H2=>mK r σ H2 λps H3=>Q ((x,y)::ps) H3
abbrev VV:List (V×V)->List (R7×R7)->Prop:=Paired λp q=>aC p.1 q.1/\aC p.2 q.2
def kI(X:Cx)(pos:Pos)(keys:List (Option Sd))(values:List Sd)(trs:List (TE×TE)):Prop:=
 ∀(TR:List (R8×Obj))(s:R9)(σ:St)(H:Hp)(Q:List (V×V)->Hp->Prop),ae X TR σ H s->mK trs σ H Q->
  Sf (Si X.prog X.w) X.A (evalPairs (pairTrees keys values X.env pos)) (λvs s'=>∃ps H',ae X TR σ H' s'/\VV ps vs/\Q ps H') X.xe s
theorem Gx{X:Cx}{pos:Pos}:kI X pos [] [] []:=λTR s σ H Q I h=>pairTrees_nil_walk ⟨[],H,I,.nil,h⟩
theorem Gy{X:Cx}{pos:Pos}{k v:Sd}{ks:List (Option Sd)}{vs:List Sd}{tk tv:TE}{trs:List (TE×TE)}(hk:PE X k tk)(hv:PE X v tv)(hr:kI X pos ks vs trs):
 kI X pos (some k::ks) (v::vs) ((tk,tv)::trs):=λTR s σ H Q I h=>
 pairTrees_cons_walk (ax (hk TR s σ H _ I h) λu s1 ⟨x,H1,I1,rx,q1⟩=>ax (hv TR s1 σ H1 _ I1 q1) λw2 s2 ⟨y,H2,I2,ry,q2⟩=>
  ax (hr TR s2 σ H2 _ I2 q2) λws s3 uu64=>by obtain⟨ps,H3,I3,rel,q3⟩:=uu64;exact⟨(x,y)::ps,H3,I3,.cons ⟨rx,ry⟩ rel,q3⟩)
def fR(kvs more:List (ah×V)):List (ah×V):=more.foldl (λacc kv=>putK acc kv.1 kv.2) kvs
theorem KV.merge:∀{more:List (ah×V)}{rs:List (ah×R7)}{kvs:List (ah×V)}{vs:List (ah×R7)},KV more rs->KV kvs vs->KV (fR kvs more) (merged vs rs):=by
 intro more rs kvs vs r;unfold KV at r
 induction r generalizing kvs vs with
 | nil=>intro q;exact q
 | @cons p q ps qs h t ih=>
  intro r0;have e:KV (putK kvs p.1 p.2) (stored vs q.1 q.2):=by
   have:=r0.put p.1 h.2;rw [<-h.1];exact this
  exact ih e
theorem qX:∀(more kvs:List (ah×V)),(fR kvs more).length<=kvs.length+more.length
 | [],kvs=>by show kvs.length<=kvs.length+0;omega
 | p::r,kvs=>by
  have h1:=qX r (putK kvs p.1 p.2);have h2:=qU kvs p.1 p.2;show(fR (putK kvs p.1 p.2) r).length<=_;rw [LP];omega
theorem xh{P:Sk}{w:Sm}:∀{kvs:List (ah×V)}{ws:List (R7×R7)},VV (kvs.map λkv=>(kV kv.1,kv.2)) ws->∃rs,Carries (bT P w) ws rs/\KV kvs rs
 | [],_,r=>by rw [Mp] at r;cases r;exact⟨[],MU,.nil⟩
 | p::kvs,_,r=>by
  rw [Lq] at r;cases r with
  | @cons a b as bs h t=>
   obtain⟨rs,c,q⟩:=xh (P:=P) (w:=w) t;obtain⟨b1,b2⟩:=b;exact⟨(p.1,b2)::rs,⟨iq h.1,rfl,c⟩,.cons ⟨rfl,h.2⟩ q⟩
def Gz(trs:List (TE×TE)):TE:=λσ H Q=>∀p,H p=none->mK trs σ (ak H p (.dK [])) λps H2=>H2 p=some (.dK [])/\∃kvs:List (ah×V),ps=kvs.map (λkv=>(kV kv.1,kv.2))/\kvs.length<=15/\Q (.ref p) (ak H2 p (.dK (fR [] kvs)))
theorem GA{X:Cx}{pos:Pos}{keys:List (Option Sd)}{values:List Sd}{trs:List (TE×TE)}(h:kI X pos keys values trs)(hall:keys.all (·.isSome)=true)(hl:keys.length=values.length)(h0:keys≠[])
 (h15:keys.length<=15):PE X (.Dict keys values pos) (Gz trs):=by
 intro TR s σ H Q I q;have hn:=I.hok.fresh (Lr s.heap.objs.size);have I1:=I.laid (a:=s.heap.objs.size) (o:= .dK []) (h':=s.heap.push {cls:= .type "dict",data:= .dict #[]}) (t':=s.toks) (λ_ _ q=>Lo _ q) (Lr _) (xf s.heap I.big);refine wpAny_Dict_walk (knd:=bT X.prog X.w) hall hl h0 h15 (ax (h TR _ σ _ _ I1 (q _ hn)) λws s2 ⟨ps,H2,I2,rel,e,kvs,ep,lk,q2⟩=>?_);subst ep;obtain⟨rs,c,rk⟩:=xh (P:=X.prog) (w:=X.w) rel;obtain⟨z,hd,vs0,r0,dd⟩:=xb I2.hok e;cases r0;refine⟨rs,c,dd,λh' dd' hs=>⟨.ref s.heap.objs.size,_,?_,rfl,q2⟩⟩;have hz:(fR [] kvs).length<=Sb:=by
  have h1:=qX kvs [];rw [MZ] at h1;rw [SE];omega
 have he:∃q,h'.get? s.heap.objs.size=some q:=let ⟨q,_,_,hq,_⟩:=dd';⟨q,hq⟩
 exact qV I2 (by rw [e];exact MU) hs he (qW hz hd (rk.merge .nil) dd')
structure M1 (X:Cx) (o:Sd) (m:Str) (apos:Pos) (e:Sd) (cpos:Pos):Prop where
 base:SJ o m X.env (eval o X.env)=eval o X.env
 few:((Sy cpos (Se [e] X.env)).all (λx=>!x.1) && (Ti cpos (S4 [] X.env)).all (λx=>x.1.isSome)
  && decide (([e]:List Sd).length+([]:List SS).length+(if ([]:List SS).isEmpty then 0 else 1) < 30))=true
 line:(apos.endLine==cpos.line)=true
 trees:Sy cpos (Se [e] X.env)=[(false,eval e X.env)]
structure M2 (X:Cx) (o:Sd) (m:Str) (apos:Pos) (e f:Sd) (cpos:Pos):Prop where
 base:SJ o m X.env (eval o X.env)=eval o X.env
 few:((Sy cpos (Se [e,f] X.env)).all (λx=>!x.1) && (Ti cpos (S4 [] X.env)).all (λx=>x.1.isSome)
  && decide (([e,f]:List Sd).length+([]:List SS).length+(if ([]:List SS).isEmpty then 0 else 1) < 30))=true
 line:(apos.endLine==cpos.line)=true
 trees:Sy cpos (Se [e,f] X.env)=[(false,eval e X.env),(false,eval f X.env)]
def xk(H:Hp)(a:R8):Prop:=(∃kvs,Rd H a (.dK kvs))\/∃kvs,Rd H a (.dT kvs)
theorem GB{X:Cx}{TR:List (R8×Obj)}{σ:St}{H:Hp}{s:R9}{a:R8}(I:ae X TR σ H s)(d:xk H a):
 s.TypeIs (.ref a) "dict"/\(∀b,L8 a= .ref b->∃ob,s.heap.get? b=some ob/\ob.dict=none)/\(a==SN)=false:=by
 rcases d with⟨kvs,e⟩ | ⟨kvs,e⟩
 ·obtain⟨_,hd,vs,_,dd⟩:=iu I.hok e;refine⟨dd.typeIs,λb q=>?_,hd⟩;cases q;obtain⟨ob,_,_,h1,h2,_⟩:=dd;exact⟨ob,h1,h2.2.1⟩
 ·obtain⟨_,hd,xs,_,dd⟩:=i6 I.hok e;refine⟨dd.typeIs,λb q=>?_,hd⟩;cases q;obtain⟨ob,_,_,h1,h2,_⟩:=dd;exact⟨ob,h1,h2.2.1⟩
section
variable {X:Cx} {TR:List (R8×Obj)} {σ:St} {H:Hp} {s:R9} {a:R8} {y d:V} {u r:R7} {o:Option V} {A:Ss} {E:R7->R9->Prop}
theorem GC{Q:R7->R9->Prop}(hu:A.units+1 < SG)(I:ae X TR σ H s)(g:dA H a y o)(ry:aC y u)(h:∀w' s',ae X TR σ H s'->aC (o.getD .non) w'->Q w' s'):
 Sf (Si X.prog X.w) A (call (.builtin "dict.get") [.ref a,u]) Q E s:=by
 rcases g with⟨kvs,k,e,ey,l⟩ | ⟨kvs,k,b,e,ey,eb,l⟩
 ·subst ey;obtain⟨z,hd,vs,rel,dd⟩:=iu I.hok e;refine call_meetsIn OG dd.typeIs P1 (PH _ _) (meets_dict_get (bT X.prog X.w) a (iq ry) hd) ⟨_,dd.mapOf,h _ _ (I.tok _) ?_⟩;rw [l];exact(rel.val k).getD rfl
 ·subst ey;cases (show u=L8 b from ry);obtain⟨z,hd,xs,rel,dd⟩:=i6 I.hok e;refine call_meetsIn OG dd.typeIs P1 (PH _ _) (meetsH_dict_get (Tx (bT X.prog X.w)) a b hd) ⟨S0 hu,k,xs,jC I.hok eb,dd,h _ _ (I.tok _) ?_⟩;rw [l];exact(rel.val k).getD rfl
end
def GF(td ty:TE):TE:=λσ H Q=>td σ H λx H1=>∃a,x= .ref a/\xk H1 a/\ty σ H1 λy H2=>∃o,dA H2 a y o/\Q (o.getD .non) H2
section
variable {X:Cx} {o e f:Sd} {apos cpos:Pos} {td ty tx:TE}
theorem GG(hu:X.A.units+1 < SG)(ho:PE X o td)(he:PE X e ty)(m:M1 X o "get" apos e cpos):PE X (.Call (.Attribute o "get" apos) [e] [] cpos) (GF td ty):=by
 intro TR s σ H Q I h;refine wpAny_Call_method m.base m.few m.line PySem.F.plainAttrs_dict OG PySem.F.type_dict_get (ax (ho TR s σ H _ I h) λu s1 ⟨x,H1,I1,rx,a,ex,d,q1⟩=>?_);subst ex;obtain rfl:u=L8 a:=rx;obtain⟨t1,t2,_⟩:=GB I1 d;refine⟨t1,t2,?_⟩;rw [m.trees];refine PZ rfl (Qg (Qu (ax (he TR s1 σ H1 _ I1 q1) λiv s2 ⟨y,H2,I2,ry,ov,g,q2⟩=>QM ?_)));exact GC hu I2 g ry λw' s3 I3 rw'=>⟨_,H2,I3,rw',q2⟩
end
section
variable {X:Cx} {H0:Hp} {O0:Ex}
def litsOf:List Sd->Option (List R6)
 | []=>some []
 | .Constant (.int i) _ _::r=>(litsOf r).map (.int i::·)
 | .Constant (.str x) _ _::r=>(litsOf r).map (.str x::·)
 | _::_=>none
def mL(ds:List R6):DA:=λ_ Q=>Q ds
theorem jD:∀{es:List Sd}{ds:List R6},litsOf es=some ds->PA X es (eZ X.K H0 O0 (mL ds))
 | [],ds,h=>by cases h;exact ag
 | e::r,ds,h=>by
  cases e with
  | Constant c j p=>
   cases c with
   | int i=>
    have h':(litsOf r).map (.int i::·)=some ds:=h;cases q:litsOf r with
    | none=>rw [q] at h';cases h'
    | some ms=>rw [q] at h';cases h';exact aa af (jD q)
   | str x=>
    have h':(litsOf r).map (.str x::·)=some ds:=h;cases q:litsOf r with
    | none=>rw [q] at h';cases h'
    | some ms=>rw [q] at h';cases h';exact aa aT (jD q)
   | _=>cases h
  | _=>cases h
def litsE:Sd->Option (List R6)
 | .List es _=>litsOf es
 | _=>none
theorem qY{e:Sd}{ds:List R6}(h:litsE e=some ds):FE X H0 O0 e (mr (mL ds)):=by
 cases e with
 | List es p=>exact cL (jD h)
 | _=>cases h
theorem GH{e:Sd}{ds:List R6}{x:Option Sd}{n:Nat}{env:Env}(h:litsE e=some ds):Sx e x n env=pure false:=by
 cases e with
 | List es p=>rfl
 | _=>cases h
end
structure bS (n:Nat) (x:Str):Prop where
 ok:LB x=true
 le:x.length<=n
theorem i7{x:Str}:LB x=true↔∀c∈x.cps.toList,c < 0x110000:=by
 unfold LB;rw [<-Array.all_toList,Pn];simp
theorem qZ(x y:Str):(x++y).cps=x.cps++y.cps:=rfl
theorem xm(x y:Str):(x++y).length=x.length+y.length:=by
 show(x.cps++y.cps).size=_;rw [Pb];rfl
theorem bS.append{a b:Nat}{x y:Str}(h:bS a x)(h':bS b y):bS (a+b) (x++y):=by
 refine⟨i7.mpr λc hc=>?_,by rw [xm];have:=h.le;have:=h'.le;omega⟩;rw [qZ,ON] at hc;rcases LI.mp hc with z | z
 ·exact i7.mp h.ok c z
 ·exact i7.mp h'.ok c z
theorem bS.mono{a b:Nat}{x:Str}(h:bS a x)(hb:a<=b):bS b x:=⟨h.ok,LY h.le hb⟩
theorem bS.slice{a:Nat}{x:Str}(h:bS a x)(l u:Option Int):bS a (Txt.slice x l u):=by
 refine⟨i7.mpr λc hc=>?_,LY (Txt.slice_le x l u) h.le⟩;unfold Txt.slice at hc;split at hc
 ·exact i7.mp h.ok c hc
 ·simp only [NJ] at hc;obtain⟨i,_,hi⟩:=hc;exact i7.mp h.ok c (by
   have:=Array.mem_of_getElem? hi;simpa using this)
theorem bS.chr{c:Nat}(h:c < 0x110000):bS 1 ⟨#[c]⟩:=⟨i7.mpr λd hd=>by
 have:d=c:=by simpa using hd
 rw [this];exact h,Lr _⟩
theorem bS.join:∀{ys:List Str},(∀y∈ys,bS 1 y)->bS ys.length (Txt.join "" ys):=by
 have key:∀ys:List Str,(∀y∈ys,bS 1 y)->bS ys.length (Str.join "" ys):=by
  intro ys
  induction ys with
  | nil=>intro _;exact⟨cp,cp⟩
  | cons y r ih=>
   intro h;cases r with
   | nil=>exact h y R5
   | cons z r=>
    have a:=h y R5;have b:=ih λw hw=>h w (by simp [hw]);have e:bS 0 ("":Str):=⟨cp,cp⟩;have:=(a.append e).append b;refine this.mono ?_;simp only [LP];omega
 intro ys h;have e:Txt.join "" ys=Str.join "" ys:=StrLaws.glued_eq_join "" ys;rw [e];exact key ys h
def fx:Str:="abcdefghijklmnopqrstuvwxyz"
theorem GI:fx.cps.toList.length=26:=cp
theorem GJ:fx.cps.toList.Nodup:=cp
theorem GK:∀c∈fx.cps.toList,c < 0x110000:=cp
theorem mM{j:Int}(h0:0<=j)(h1:j < 26):∃c,atI fx.cps.toList j=some c/\fx.cps.toList[j.toNat]?=some c/\c < 0x110000:=by
 obtain⟨k,rfl⟩:=My h0;have hk:k < fx.cps.toList.length:=by rw [GI];omega
 refine⟨fx.cps.toList[k],eU (by simp [hk]),by simp [hk],GK _ (M8 hk)⟩
def dU(j:Int):Nat:=(fx.cps.toList[j.toNat]?).getD 0
theorem GL{j:Int}(h0:0<=j)(h1:j < 26):atI fx.cps.toList j=some (dU j)/\dU j < 0x110000:=by
 obtain⟨c,e1,e2,e3⟩:=mM h0 h1;have:dU j=c:=by unfold dU;rw [e2];rfl
 rw [this];exact⟨e1,e3⟩
theorem GN{i j:Int}(h0:0<=i)(h1:i < 26)(g0:0<=j)(g1:j < 26)(e:dU i=dU j):i=j:=by
 obtain⟨c,_,e2,_⟩:=mM h0 h1;obtain⟨d,_,e4,_⟩:=mM g0 g1;have a:dU i=c:=by unfold dU;rw [e2];rfl
 have b:dU j=d:=by unfold dU;rw [e4];rfl
 have cd:c=d:=by rw [<-a,<-b,e]
 subst cd;have hi:i.toNat < fx.cps.toList.length:=(Lz.mp e2).1;have:=(QN (l:=fx.cps.toList) (i:=i.toNat) (j:=j.toNat) hi GJ).mp (by rw [e2,e4]);omega
structure bO (n:Nat) (d:R6):Prop where
 can:d.canLay0=true
 dep:d.depth<=n
theorem bO.shp{n:Nat}{d:R6}(h:bO n d)(hn:n<=64):MN d=true:=by
 unfold MN;rw [h.can,decide_eq_true (LY h.dep hn)];rfl
theorem bO.mono{n m:Nat}{d:R6}(h:bO n d)(hn:n<=m):bO m d:=⟨h.can,LY h.dep hn⟩
theorem xo{x:Str}(h:LB x=true):bO 1 (.str x):=⟨by simpa [L7] using h,by simp [Oa]⟩
theorem GO{i:Int}:bO 1 (.int i):=⟨by simp [L7],by simp [Oa]⟩
theorem GP{i:Bool}:bO 1 (.bool i):=⟨by simp [L7],by simp [Oa]⟩
theorem jE{n:Nat}:∀{ds:List R6},(∀d∈ds,bO n d)->MD ds=true/\N4 ds<=n
 | [],_=>⟨by simp [MD],by simp [N4]⟩
 | d::r,h=>by
  obtain⟨a,b⟩:=jE (ds:=r) λe he=>h e (by simp [he]);have c:=h d R5;refine⟨by rw [MD,c.can,a];rfl,?_⟩;rw [N4];exact Nat.max_le.mpr ⟨c.dep,b⟩
theorem cj{n:Nat}{ds:List R6}(h:∀d∈ds,bO n d):bO (n+1) (.tuple ds):=by
 obtain⟨a,b⟩:=jE h;refine⟨by simpa [L7] using a,?_⟩;rw [Oa];omega
def PU(X:Cx)(e:Sd)(te:TE):Prop:=∀(i:Nat)(x:Str)(pos' spos:Pos)(hN:X.N.Nodup)(hxi:X.N[i]?=some x)(hx:gc X.env.scope x)(hsw:Sx e (some (.Name x pos')) spos.line X.env=pure true)
 (hfn:X.fn x=true\/X.env.scope.names.lookup x=some .local),PS X (.Assign [.Name x pos'] e spos) (j5 te (gg i))
theorem PU.imp{X:Cx}{e:Sd}{t u:TE}(h:PU X e t)(i:∀σ H Q,u σ H Q->t σ H Q):PU X e u:=λi' x p1 p2 hN hxi hx hsw hfn=>(h i' x p1 p2 hN hxi hx hsw hfn).imp λD σ H z=>i σ H _ z
section
variable {X:Cx} {H0:Hp} {O0:Ex}
section
variable {tg iter elt:Sd} {ifs:List Sd} {scope:SH} {N':List Str} {k:Nat} {fr:List Nat} {g:TG} {dg:DG} {t:DT} {ta:DA} {tc:DB} {te:DT} {pos p ps:Pos}
theorem q5{wi:TI}{tc:TT}{te:TE}(hc:X.calm=true)(S:aY X.env.scope X.N N' k fr scope)(hi:PI X tg iter wi)
 (hg:∀fp C s H,PG (bh X scope N' fp C s H) tg g)(hf:∀fp C s H,dj (bh X scope N' fp C s H) ifs tc)(he:∀fp C s H,PE (bh X scope N' fp C s H) elt te)
 (hs:∀x,Su iter X.env x=pure x:=by intro _;rfl):PU X (.ListComp elt [⟨tg,iter,ifs,0⟩] scope pos) (ia wi g tc te k fr):=
 λ_ _ _ _ hN hxi hx hsw hfn=>Fs hN hxi hx hc S hi hg hf he hsw hs hfn
theorem xp(hc:X.calm=true)(S:aY X.env.scope X.N N' k fr scope)(hi:DF X H0 O0 iter t)(gd:GD X.K g dg)(hk:fw g k)(hfr:fr.Nodup)
 (hg:∀fp C s H,PG (bh X scope N' fp C s H) tg g)(hf:∀fp C s H,dj (bh X scope N' fp C s H) ifs (bM X.K H0 O0 tc))(he:∀fp C s H,PE (bh X scope N' fp C s H) elt (up X.K H0 O0 te))
 (hs:∀x,Su iter X.env x=pure x:=by intro _;rfl):PU X (.ListComp elt [⟨tg,iter,ifs,0⟩] scope pos) (jz X.K H0 O0 (kA t dg tc te k fr)):=
 (q5 hc S (oQ hi) hg hf he hs).imp λσ H Q uu68=>by obtain⟨O,δ,Qd,w,q,kk⟩:=uu68;exact⟨O,δ,_,w,q,λd v H1 uu69 s1 r1=>by
  obtain⟨xs,e,hz,q1⟩:=uu69;subst e;obtain⟨a,vs,rfl,hq,rr⟩:=r1.lst;refine⟨a,rfl,⟨_,hq⟩,λD hD=>gY (cf.list hq) gd hfr (λv _ H' R h=>hk fr σ v H' R h) (λ_ _ _ z=>z) (λ_ _ _ z=>z) (λD H' hD s' o e=>s' _ _ e (cE e hD)) rr (w.mono s1) (by rw [rr.length];exact hz) q1 (λds us p H' z s' hp r'=>kk ds us p H' z (s1.trans s') hp r') D hD⟩⟩
end
theorem kJ{i:Nat}{x:Str}{e:Sd}{t:DA}{pos pos':Pos}(hN:X.N.Nodup)(hi:X.N[i]?=some x)(hx:gc X.env.scope x)(he:PU X e (jz X.K H0 O0 t))(hs:Sx e (some (.Name x pos')) pos.line X.env=pure true:=by rfl)(hf:X.fn x=true\/X.env.scope.names.lookup x=some .local:=by first | exact .inl rfl | exact .inr rfl | assumption):
 PS X (.Assign [.Name x pos'] e pos) (bx X.K H0 O0 (mq i (dL t))):=
 (he _ _ _ _ hN hi hx hs hf).imp λD σ H ⟨O,δ,E,w,q,k1,k2,k3,k4⟩=>⟨O,δ,_,w,q,λds vs p H1 q1 s1 hp r1=>
  k1 O _ _ _ q1 ((w.mono (s1.trans (ao.new hp))).set (.lst (.inl bb) (mh w s1 hp) (r1.mono (ao.new hp)))) (.same (s1.trans (ao.new hp)))⟩
end
def rf(z:Str):It:=⟨λi _=>i < z.cps.size,λi H x H'=>H'=H/\∃c,z.cps[i]?=some c/\x= .str ⟨#[c]⟩,λi _=>z.cps.size<=i⟩
theorem GQ(z:Str):["enumerate","zip","dict_itemiterator","dict_reverseitemiterator","odict_iterator","itertools.zip_longest","itertools.pairwise"].contains (Tg z)=false:=by
 unfold Tg;split <;> decide
theorem xt{P:Sk}{w:Sm}{A:Ss}(hh:A.handled=none)(I:R8)(z:Str)(t:Tok):Walks P w A I [I] [I] z.cps.size (SignAt z) (λi h=>h.IsStrIter I (Tg z) z t i):=by
 unfold Tg;split
 ·exact Walks.strAscii hh I z t
 ·exact Walks.strWide hh I z t
theorem GR{P:Sk}{w:Sm}{K:Ll}{tg:Sd}(it:R8)(z:Str)(t:Tok):jn P w K tg (rf z) [it] it (λi h=>h.IsStrIter it (Tg z) z t i/\i<=z.cps.size) where
 mem:=R5
 obj:=λi h st b hb=>by
  have e:b=it:=by simpa using hb
  subst e;obtain⟨⟨o,e,c,d⟩,_⟩:=st;exact⟨o,e,λv z=>by rw [d] at z;cases z⟩
 keep:=λi h h' st k=>by
  obtain⟨⟨o,e,c,d⟩,l⟩:=st;exact⟨⟨o,k it R5 o e,c,d⟩,l⟩
 item:=by
  intro X hP hw hK hc i TR s σ H E I hf st hg;subst hP hw hK;obtain⟨f0,f1,f2,f3,f4,f5⟩:=hf it R5;have W:=xt (P:=X.prog) (w:=X.w) (I.ok.hd hc) it z t;refine W.item i s _ _ hg st.1 λv h' tk hv st' kk=>?_;obtain⟨c,u,hc',rfl⟩:=hv;have I1:ae X TR σ H {s with heap:=h',toks:=tk}:=I.turned (λb o hb e=>kk b o (by simpa using hb) e) f0 f1 f3 f4 f5;obtain⟨o,e,cc,d⟩:=id st';exact⟨_,rfl,j6 (s:={s with heap:=h',toks:=tk}) e cc d (GQ z) ⟨.str ⟨#[c]⟩,H,I1,⟨u,rfl⟩,⟨rfl,c,hc',rfl⟩,⟨st',hg⟩,λb hb=>(hf b hb).1⟩⟩
 done:=by
  intro X hP hw hK hc i TR s σ H E I hf st hg;subst hP hw hK;obtain⟨f0,f1,f2,f3,f4,f5⟩:=hf it R5;have W:=xt (P:=X.prog) (w:=X.w) (I.ok.hd hc) it z t;have e:i=z.cps.size:=Nat.le_antisymm st.2 hg;subst e;exact W.done s _ _ st.1 λh' tk eb=>⟨rfl,I.turned (λb o hb e=>eb b o (by simpa using hb) e) f0 f1 f3 f4 f5⟩
 self:=λA i s Q E st h=>by
  obtain⟨st,_⟩:=st
  revert st
  unfold Tg;split
  ·exact λst=>wpAny_pyIter_striter_ascii st h
  ·exact λst=>wpAny_pyIter_striter_wide st h
def GS(tl:TE):TI:=λσ H R=>tl σ H λx H1=>∃z,x= .str z/\R (rf z) H1
theorem GU{X:Cx}{tg l:Sd}{tl:TE}(hl:PE X l tl):PI X tg l (GS tl):=by
 intro TR s σ H R I h;refine ax (hl TR s σ H _ I h) λv s1 ⟨x,H1,I1,r1,q1⟩=>?_;obtain⟨z,e,q⟩:=q1;subst e;obtain⟨t,rfl⟩:=r1;refine wpAny_pyIter_strU ?_;refine⟨s1.heap.objs.size,[s1.heap.objs.size],_,_,H1,rfl,I1.kept (t':=s1.toks) λb o e=>Lo _ e,GR _ z t,⟨⟨_,LU _ rfl,rfl,rfl⟩,Mb _⟩,λb hb=>?_,q⟩;have e:b=s1.heap.objs.size:=by simpa using hb
 subst e;exact I1.fpOk (Lr _) (I1.hok.fresh (Lr _))
def mN(z:Str):List R6:=z.cps.toList.map λc=>.str ⟨#[c]⟩
theorem cf.str{z:Str}:cf (rf z) (λ_=>True) (z.cps.toList.map λc=>V.str ⟨#[c]⟩):=by
 refine⟨λi H' s hi=>(by simpa using hi:i < z.cps.size),λi H' x H'' s hi y=>⟨y.1,?_⟩,λi H' s hi=>(by simpa using hi:z.cps.size<=i)⟩;obtain⟨_,c,hc,rfl⟩:=y;simp [hc]
theorem aj.signs{K:Ll}{H:Hp}{O:Ex}:∀(l:List Nat),aj K H O (l.map λc=>V.str ⟨#[c]⟩) (l.map λc=>Lp ⟨#[c]⟩)
 | []=>.nil
 | n::r=>.cons (.str _) (aj.signs r)
section
variable {X:Cx} {H0:Hp} {O0:Ex}
def rg(t:DT)(g:DG)(tc:DB)(te:DT)(k:Nat)(fr:List Nat):DA:=λδ Q=>t δ λd=>∃z,d= .str z/\z.length<=Sb/\fc g tc te (dM k fr δ) (mN z) Q
def rj(ta:DA)(g:DG)(tc:DB)(te:DT)(k:Nat)(fr:List Nat):DA:=λδ Q=>ta δ λds=>∃i j:Int,ds=[.int i,.int j]/\-(2 ^ 62)<=i/\j - i < Sb/\i < 2 ^ 62/\-(2 ^ 62)<=j/\j < 2 ^ 62/\fc g tc te (dM k fr δ) (gU i (j - i).toNat) Q
section
variable {tg iter elt:Sd} {ifs:List Sd} {scope:SH} {N':List Str} {k:Nat} {fr:List Nat} {g:TG} {dg:DG} {t:DT} {ta:DA} {tc:DB} {te:DT} {pos p ps:Pos}
theorem GV(hc:X.calm=true)(S:aY X.env.scope X.N N' k fr scope)(hi:DF X H0 O0 iter t)(gd:GD X.K g dg)(hk:fw g k)(hfr:fr.Nodup)
 (hg:∀fp C s H,PG (bh X scope N' fp C s H) tg g)(hf:∀fp C s H,dj (bh X scope N' fp C s H) ifs (bM X.K H0 O0 tc))(he:∀fp C s H,PE (bh X scope N' fp C s H) elt (up X.K H0 O0 te))
 (hs:∀x,Su iter X.env x=pure x:=by intro _;rfl):FE X H0 O0 (.ListComp elt [⟨tg,iter,ifs,0⟩] scope pos) (rg t dg tc te k fr):=
 (iQ hc S (GU hi) hg hf he hs).imp λσ H Q uu72=>by obtain⟨O,δ,Qd,w,q,kk⟩:=uu72;exact⟨O,δ,_,w,q,λd v H1 uu73 s1 r1=>by
  obtain⟨z,e,hz,q1⟩:=uu73;subst e;cases r1.str;have hz':(z.cps.toList.map λc=>V.str ⟨#[c]⟩).length<=Sb:=by rw [Lm,LR];exact hz
  exact⟨z,rfl,λD hD=>gY (P:=λ_=>True) cf.str gd hfr (λv _ H' R h=>hk fr σ v H' R h) (λ_ _ _ z=>z) (λ_ _ _ z=>z) (λ_ _ _ _=>trivial) (aj.signs _) (w.mono s1) hz' q1 (λds us p H' z s' hp r'=>kk ds us p H' z (s1.trans s') hp r') D hD⟩⟩
theorem GW(hc:X.calm=true){a b:Sd}(S:aY X.env.scope X.N N' k fr scope)(hgl:Gl X "range")(hm:X.mg "range"=none)(ha:PA X [a,b] (dS X.K H0 O0 ta))(gd:GD X.K g dg)(hk:fw g k)(hfr:fr.Nodup)
 (hg:∀fp C s H,PG (bh X scope N' fp C s H) tg g)(hf:∀fp C s H,dj (bh X scope N' fp C s H) ifs (bM X.K H0 O0 tc))(he:∀fp C s H,PE (bh X scope N' fp C s H) elt (up X.K H0 O0 te))
 (hst:Se [a,b] X.env=[(false,eval a X.env),(false,eval b X.env)]:=by rfl)(hst2:Se [b] X.env=[(false,eval b X.env)]:=by rfl)(hs:∀x,Su (.Call (.Name "range" p) [a,b] [] ps) X.env x=pure x:=by intro _;rfl):
 FE X H0 O0 (.ListComp elt [⟨tg,(.Call (.Name "range" p) [a,b] [] ps),ifs,0⟩] scope pos) (rj ta dg tc te k fr):=
 (iQ hc S (oV hgl hm ha hst hst2) hg hf he hs).imp λσ H Q uu74=>by obtain⟨O,δ,Qd,w,q,kk⟩:=uu74;exact⟨O,δ,_,w,q,λds vs H1 uu75 s1 r1=>by
  obtain⟨i,j,e,b1,b2,b3,b4,b5,q1⟩:=uu75;subst e;cases r1 with
  | cons r1 r2=>
   cases r2 with
   | cons r2 r3=>
    cases r3;cases r1.int;cases r2.int;exact⟨i,j,rfl,⟨b1,b3,b4,b5⟩,λD hD=>gY (P:=λ_=>True) cf.rng gd hfr (λv _ H' R h=>hk fr σ v H' R h) (λ_ _ _ z=>z) (λ_ _ _ z=>z) (λ_ _ _ _=>trivial) (aj.rng _) (w.mono s1) (by rw [Lm,Oj];omega) q1 (λds us p H' z s' hp r'=>kk ds us p H' z (s1.trans s') hp r') D hD⟩⟩
end
def rn(K:Ll)(neg:Bool):R2:=λx y H Q=>∃O dx ds dy,Sh K H O x dx/\Sh K H O y dy/\(dy= .list ds\/dy= .tuple ds)/\dn dx/\MD ds=true/\Q (.bl (if neg then !(ds.any λd=>LL d dx) else ds.any λd=>LL d dx)) H
theorem mO{A:Ss}{k:Nat}{xs:List R6}{d:R6}(hd:dn d)(hr:br k A):A.units+1+min (N4 xs) d.depth < SG:=by
 have:=SeqAt.depth_of_shaped hd;have h1:min (N4 xs) d.depth<=d.depth:=QT _ _;have:=hr.un;omega
theorem mP{k:Nat}(hr:br k X.A):bK X (Sv .In) (rn X.K false):=by
 intro TR s σ H x y v u Q I rx ry h;obtain⟨O,dx,ds,dy,hx,hy,e,sx,sy,q⟩:=h;obtain⟨as,ra⟩:=fM I hx.all (Mu sx) rx;rcases e with e | e <;> subst e
 ·obtain⟨bs,rb⟩:=fM I hy.all (by simpa [L7] using sy) ry;exact SeqAt.in_list_reads rb ra sy (Mu sx) (mO sx hr) (bA I q rfl)
 ·obtain⟨bs,rb⟩:=fM I hy.all (by simpa [L7] using sy) ry;exact SeqAt.in_tuple_reads rb ra sy (Mu sx) (mO sx hr) (bA I q rfl)
theorem rp{k:Nat}(hr:br k X.A):bK X (Sv .NotIn) (rn X.K true):=by
 intro TR s σ H x y v u Q I rx ry h;obtain⟨O,dx,ds,dy,hx,hy,e,sx,sy,q⟩:=h;obtain⟨as,ra⟩:=fM I hx.all (Mu sx) rx;rcases e with e | e <;> subst e
 ·obtain⟨bs,rb⟩:=fM I hy.all (by simpa [L7] using sy) ry;exact SeqAt.notIn_list_reads rb ra sy (Mu sx) (mO sx hr) (bA I q rfl)
 ·obtain⟨bs,rb⟩:=fM I hy.all (by simpa [L7] using sy) ry;exact SeqAt.notIn_tuple_reads rb ra sy (Mu sx) (mO sx hr) (bA I q rfl)
def rq(neg:Bool):R6->R6->(R6->Prop)->Prop:=λx y Q=>∃ds,(y= .list ds\/y= .tuple ds)/\dn x/\MD ds=true/\Q (.bool (if neg then !(ds.any λd=>LL d x) else ds.any λd=>LL d x))
theorem i8{K:Ll}{neg:Bool}:cv K (rn K neg) (rq neg):=λH O x y dx dy Qd R _ hx hy uu76 k=>by obtain⟨ds,e,a,b,q⟩:=uu76;exact⟨O,dx,ds,dy,hx,hy,e,a,b,k _ _ H q (ao.refl _) (.bl _)⟩
def rz:List R6->(R6->Prop)->Prop:=λds Q=>∃z:Str,ds=[.str z]/\z.length<=Sb/\Q (.int z.length)
theorem GX{K:Ll}:gw K (λxs H Q=>∃z,xs=[.str z]/\z.length<=Sb/\Q (.int z.length) H) rz:=λH O xs ds Qd R _ hs uu77 k=>by
 obtain⟨z,e,hz,q⟩:=uu77;subst e;cases hs with
 | cons h r=>cases r;cases h.str;exact⟨z,rfl,hz,k _ _ H q (ao.refl _) (.int _)⟩
theorem GY{prog:Sk}{w:Sm}{A:Ss}{E:R7->R9->Prop}{s:R9}{t sl:R8}{items:Array R7}{vl vu:R7}{lo hi:Option Int}{Q:R7->R9->Prop}(ht:IsTup s.heap t items)(hs:s.heap.IsSliceOf sl vl vu .none)(pl:IsPart vl lo)(pu:IsPart vu hi)
 (hw:HT.sIx items.size 0 lo=0/\HT.sIx items.size items.size hi=items.size)(h:Q (.ref t) s):Sf (Si prog w) A (S5 (.ref t) (.ref sl)) Q E s:=by
 obtain⟨os,hos,hcs,hds⟩:=id hs;have hTs:s.TypeIs (.ref sl) "slice":=⟨os,hos,hcs⟩;unfold S5
 try with_reducible refine SA ?_
 first | refine Sa (Sg ?_) | skip
 refine Sa (wpAny_sequenceKey ht.typeIs RZ ?_);refine Sa (TM (name:=Lk "__getitem__") ht.typeIs Nd
  (S6 Nd ht.typeIs QW ?_ (Q2 _ _)))
 show Sf _ _ (OZ (.ref t) >>=_) _ _ s;refine Sa (tupleItemsOf_ ht ?_);refine Sa (S8 hTs ?_);rw [R3 RZ];refine Sa (HT.sliceApplied_gen hs pl pu ?_);show Sf _ _ (if (((HT.sIx items.size 0 lo:Nat):Int)==0 && (1:Int)==1 && (HT.sIx items.size items.size hi - HT.sIx items.size 0 lo)==items.size)=true then _ else _) _ _ s;rw [R3 (by rw [hw.1,hw.2];simp)];unfold Builtin.Tuple.tupleIsExact;refine Sa (Sa (S8 ht.typeIs (Sg ?_)));rw [R3 RZ];exact Sa (wpAny_rule (Sg ⟨_,rfl,Sg h⟩))
def GZ(K:Ll):V->Option Int->Option Int->Hp->VK->Prop:=λx lo hi H Q=>∃a xs,x= .ref a/\aW K H a xs/\
 ((HT.sIx xs.length 0 lo=0/\HT.sIx xs.length xs.length hi=xs.length)->Q x H)/\(¬(HT.sIx xs.length 0 lo=0/\HT.sIx xs.length xs.length hi=xs.length)->∀p,H p=none->Q (.ref p) (ak H p (.tup (gO xs lo hi))))
theorem G0:kl X (GZ X.K):=by
 intro TR s σ H x v vl vu lo hi sl Q I rx hs pl pu h;obtain⟨a,xs,rfl,hx,q1,q2⟩:=h;by_cases hw:HT.sIx xs.length 0 lo=0/\HT.sIx xs.length xs.length hi=xs.length
 ·cases rx;obtain⟨its,r,ht,hz⟩:=I.tuple hx;have hlen:its.toArray.size=xs.length:=by rw [Lw];exact r.length.symm
  refine⟨"tuple",_,Nd.lookup,ht.typeIs,?_⟩;exact GY ht hs pl pu (by rw [hlen];exact hw) ⟨.ref a,H,I,rfl,q1 hw⟩
 ·exact ER TR s σ H _ v vl vu lo hi sl Q I rx hs pl pu ⟨a,xs,rfl,hx,hw,q2 hw⟩
theorem G1{xs:List R6}{l u:Option Int}(h:HT.sIx xs.length 0 l=0/\HT.sIx xs.length xs.length u=xs.length):cz xs l u=xs:=by
 unfold cz;rw [h.1,h.2];simp
def rA(t:DT)(tl th:DO):DT:=λδ Q=>t δ λd=>tl δ λl=>th δ λu=>∃xs,d= .tuple xs/\Q (.tuple (cz xs l u))
theorem jF{e:Sd}{lo hi:Option Sd}{t:DT}{tl th:DO}{pos p2:Pos}(h:DF X H0 O0 e t)(hl:PO X lo (fO X.K H0 O0 tl))(hu:PO X hi (fO X.K H0 O0 th)):DE X H0 O0 (.Subscript e (.Slice lo hi none p2) pos) (rA t tl th):=
 (lV G0 h hl hu).imp λσ H Q ⟨O,δ,Qd,w,q,k⟩=>⟨O,δ,_,w,q,λd v H1 q1 s1 r1=>⟨O,δ,_,w.mono s1,q1,λl H2 q2 s2=>⟨O,δ,_,w.mono (s1.trans s2),q2,λu H3 uu79 s3=>by
  obtain⟨xs,e,q3⟩:=uu79;subst e;have r3:=r1.mono (s2.trans s3);have r4:=r3;obtain⟨a,vs,rfl,h1,d1⟩:=r4.tup;refine⟨a,vs,rfl,h1,λhw=>?_,λ_ p hp=>k _ _ _ q3 (s1.trans (s2.trans (s3.trans (ao.new hp)))) (.tup (.inl bb) (mh w (s1.trans (s2.trans s3)) hp) ((d1.cut l u).mono (ao.new hp)))⟩;rw [d1.length] at hw;rw [G1 hw] at q3;cases r3 with
  | dt r3=>exact k _ _ _ q3 (s1.trans (s2.trans s3)) r3⟩⟩⟩
def cH(a b:Str):Bool:=decide (a.cps.toList<=b.cps.toList)
def cM(l:List Str):List Str:=l.mergeSort cH
theorem xu(a b c:Str)(h:cH a b=true)(h':cH b c=true):cH a c=true:=
 decide_eq_true (List.le_trans (of_decide_eq_true h) (of_decide_eq_true h'))
theorem G2(a b:Str):(cH a b || cH b a)=true:=by
 rcases List.le_total a.cps.toList b.cps.toList with h | h
 ·unfold cH;rw [decide_eq_true h];rfl
 ·unfold cH;rw [decide_eq_true h,RG]
theorem xv{a b:Str}(h:a.cps.toList=b.cps.toList):a=b:=by
 cases a;cases b;congr 1;exact Array.ext' h
theorem mQ{a b:Str}(h:cH a b=true)(h':cH b a=true):a=b:=xv (QX (of_decide_eq_true h) (of_decide_eq_true h'))
theorem fg(l:List Str):(cM l).Perm l:=List.mergeSort_perm l cH
theorem xw(l:List Str):(cM l).Pairwise λa b=>cH a b=true:=List.pairwise_mergeSort xu G2 l
theorem xx{l m:List Str}(h:m.Perm l)(p:m.Pairwise λa b=>cH a b=true):m=cM l:=
 List.Perm.eq_of_pairwise (λa b _ _ x y=>mQ x y) p (xw l) (h.trans (fg l).symm)
theorem xy:∀(p:Str)(l:List Str),risingS p l=true->(p::l).Pairwise λa b=>cH a b=true
 | p,[],_=>by simp
 | p,x::r,h=>by
  rw [risingS,Mf,NR,ltCps_eq,decide_eq_false_iff_not] at h;have h1:cH p x=true:=decide_eq_true (QR.mp h.1);have h2:=xy x r h.2;rw [Mz];refine⟨λy hy=>?_,h2⟩;rcases LF.mp hy with z | z
  ·rw [z];exact h1
  ·exact xu p x y h1 ((Mz.mp h2).1 y z)
theorem xA:∀(l:List Str),sortedS l=true->l.Pairwise λa b=>cH a b=true
 | [],_=>.nil
 | x::r,h=>xy x r h
theorem xB:∀{ys:List Str}{us:List R7},aA (ys.map V.str) us->StrsAre us ys:=by
 intro ys
 induction ys with
 | nil=>intro us rv;cases rv;exact .nil
 | cons y ys ih=>
  intro us rv;rw [Lq] at rv;cases rv with
  | cons r1 r2=>obtain⟨t,rfl⟩:=r1;exact .cons y t (ih r2)
theorem rB:∀{ys:List Str}{us:List R7},StrsAre us ys->aA (ys.map V.str) us
 | _,_,.nil=>.nil
 | _,_,.cons y t r=>.cons ⟨t,rfl⟩ (rB r)
theorem G3:cO X (.builtin "sorted") (λxs H Q=>∃p ss,xs=[.ref p]/\aN X.K H p (ss.map V.str)/\ss.length < 64/\∀l,H l=none->Q (.ref l) (ak H l (.lst ((cM ss).map V.str)))):=by
 intro TR s σ H xs us Q I r h;obtain⟨p,ss,rfl,hq,h64,q⟩:=h;obtain⟨u,rfl,rx⟩:=cP r;cases rx;obtain⟨its,rv,pl,hz⟩:=I.list hq;have hlen:=rv.length;rw [Lm] at hlen;refine sorted_strs pl.isList (xB rv) R0 λout ss' a1 a2 a3=>?_;obtain⟨e,he⟩:=sortedAll_at s.heap its out;have es:ss'=cM ss:=xx a2 (xA _ a3);subst es;have hl2:(cM ss).length=ss.length:=a2.length_eq;refine⟨.ref _,_,I.laid (t':=s.toks) (o:= .lst ((cM ss).map V.str)) (λb ob q=>sortedAll_old q) (OQ _) ?_,rfl,q _ (I.hok.fresh (OQ _))⟩;refine⟨by rw [Lm,hl2];exact LY (Nz h64) RZ,out.toList,e,rB a1,?_⟩;rw [he]
theorem aj.strs{K:Ll}{H:Hp}{O:Ex}:∀{ss:List Str}{vs:List V},aj K H O vs (ss.map Lp)->vs=ss.map V.str
 | [],_,r=>by rw [Mp] at r;cases r;rfl
 | b::bs,_,r=>by
  rw [Lq] at r;cases r with
  | cons h r=>cases h;rw [Lq,aj.strs r]
theorem aj.ofStrs{K:Ll}{H:Hp}{O:Ex}:∀(ss:List Str),aj K H O (ss.map V.str) (ss.map Lp)
 | []=>.nil
 | s::r=>.cons (.str s) (aj.ofStrs r)
def rC(t:DA):DA:=λδ Q=>t δ λds=>∃ss:List Str,ds=[.list (ss.map .str)]/\ss.length < 64/\Q ((cM ss).map .str)
theorem xC{a:Sd}{t:DA}{np p:Pos}(hg:Gl X "sorted")(hm:X.mg "sorted"=none)(hv:Sw "sorted"=some (.builtin "sorted"))(ha:PA X [a] (dS X.K H0 O0 t))(he:Se [a] X.env=(false,eval a X.env)::Se [] X.env:=by rfl)(hpl:(Sy p (Se [] X.env)).any (·.1)=false:=by rfl):FE X H0 O0 (.Call (.Name "sorted" np) [a] [] p) (rC t):=
 (bN G3 hg hm hv ha (he:=he) (hpl:=hpl)).imp λσ H Q uu80=>by obtain⟨O,δ,Qd,w,q,k⟩:=uu80;exact⟨O,δ,_,w,q,λds vs H1 uu81 s1 r1=>by
  obtain⟨ss,e,h64,q1⟩:=uu81;subst e;cases r1 with
  | cons h r=>
   cases r;obtain⟨a,us,rfl,h1,d1⟩:=h.lst;cases d1.strs;exact⟨a,ss,rfl,h1,h64,λl hl=>k _ _ _ _ q1 s1 hl (aj.ofStrs _)⟩⟩
end
end L2
namespace PySem.SeqAt
open AutoSeq1 (wpAny_loadPart')
open MeetsSeq
theorem xD(l:R8)(es:Array S9)(n:Nat)(dd:Option R8)(sl:Array (Option R7))(b:Str)(u:Tok):
 Meets (Builtin.«dict.__eq__» ⟨[.ref l,.str b u],[]⟩) (λ_ R s=>s.heap.get? l=some {cls:= .type "dict",dict:=dd,data:= .dict es n,slots:=sl}/\R (.ok (.ret .notImplemented)) s):=
 .of_wp λprog w A R s h=>by obtain⟨hp,g,d,tk,os⟩:=s;obtain⟨hl,h⟩:=h;have f1:=F.sub_str_dict;wp_walk using SF hl;exact⟨_,rfl,h⟩
theorem xE(b:Str)(u:Tok)(l:R8)(c:R7)(es:Array S9)(n:Nat)(dd:Option R8)(sl:Array (Option R7)):
 Meets (Builtin.«str.__eq__» ⟨[.str b u,.ref l],[]⟩) (λ_ R s=>s.heap.get? l=some {cls:=c,dict:=dd,data:= .dict es n,slots:=sl}/\R (.ok (.ret .notImplemented)) s):=
 .of_wp λprog w A R s h=>by obtain⟨hp,g,d,tk,os⟩:=s;obtain⟨hl,h⟩:=h;wp_walk using SF hl,wpAny_load hl;exact⟨_,rfl,h⟩
section
variable {A:Ss} {s:R9}
theorem RcAt.dict_str{l:R8}{es:Array S9}{n:Nat}{o:Obj}(b:Str)(u:Tok)(ho:s.heap.get? l=some o)(hc:o.cls= .type "dict")(hd:o.data= .dict es n)(hu:A.units < SG):RcAt A s (.ref l) (.str b u) false:=λprog w E Q h=>by
 obtain⟨cls,dd,data,sl⟩:=o;simp only at hc hd;subst hc hd;exact rc_eq_decline_or (k:=false) ⟨_,ho,rfl⟩ (Td s b u) RZ F.sub_str_dict F.slot_dict_eq F.slot_str_eq_refl
  (λ_ hq=>SO F.slot_dict_eq ⟨_,ho,rfl⟩ F.entry_dict_eq (F.args_dict_eq_2 _ _) (xD l es n dd sl b u) ⟨ho,hq⟩)
  (λ_ hq=>SO F.slot_str_eq_refl (Td s b u) F.entry_str_eq (F.args_str_eq_2 _ _) (xE b u l (.type "dict") es n dd sl) ⟨ho,hq⟩)
  (λ_ hq=>wpAny_of_eq (rfl:isSame (.ref l) (.str b u)=pure false) hq) (.inr hu) h
theorem RcAt.str_dict{l:R8}{es:Array S9}{n:Nat}{o:Obj}(b:Str)(u:Tok)(ho:s.heap.get? l=some o)(hc:o.cls= .type "dict")(hd:o.data= .dict es n)(hu:A.units < SG):RcAt A s (.str b u) (.ref l) false:=λprog w E Q h=>by
 obtain⟨cls,dd,data,sl⟩:=o;simp only at hc hd;subst hc hd;exact rc_eq_decline_or (k:=false) (Td s b u) ⟨_,ho,rfl⟩ RZ F.sub_dict_str F.slot_str_eq F.slot_dict_eq_refl
  (λ_ hq=>SO F.slot_str_eq (Td s b u) F.entry_str_eq (F.args_str_eq_2 _ _) (xE b u l (.type "dict") es n dd sl) ⟨ho,hq⟩)
  (λ_ hq=>SO F.slot_dict_eq_refl ⟨_,ho,rfl⟩ F.entry_dict_eq (F.args_dict_eq_2 _ _) (xD l es n dd sl b u) ⟨ho,hq⟩)
  (λ_ hq=>wpAny_of_eq (rfl:isSame (.str b u) (.ref l)=pure false) hq) (.inr hu) h
theorem EqAt.str_dict{l:R8}{es:Array S9}{n:Nat}{o:Obj}(b:Str)(u:Tok)(ho:s.heap.get? l=some o)(hc:o.cls= .type "dict")(hd:o.data= .dict es n)(hu:A.units < SG):EqAt A s (.str b u) (.ref l) false:=λprog w E Q h=>by
 unfold eqBool;refine SA ?_;refine wpAny_ite_split (λhab=>absurd (eq_of_beq hab) nofun) (λ_=>?_);exact Sa (RcAt.str_dict b u ho hc hd hu prog w E _ (SK h))
end
end PySem.SeqAt
namespace L2
open PySem PySem.Spec PyProof.Rows PySem.W
section
variable {X:Cx} {TR:List (R8×Obj)} {σ:St} {H:Hp} {s:R9}
def cS:R6->Bool
 | .dict [(.none,_)]=>false
 | _=>true
theorem G4(I:ae X TR σ H s){O:Ex}{v:V}{d:R6}{u:R7}(h:Dt X.K H O v d)(ht:cS d=true)(r:aC v u)(y:Str)(t:Tok)(hu:X.A.units < SG):SeqAt.RcAt X.A s u (.str y t) (LL d (.str y)):=by
 cases h with
 | non=>cases (show u=Nn from r);simpa [LL] using SeqAt.RcAt.none_str y t
 | bl b=>cases (show u=NI b from r);simpa [LL] using SeqAt.RcAt.bool_str b y t
 | int i=>obtain⟨k,e⟩:=(show ∃t,u=NU i t from r);cases e;simpa [LL] using SeqAt.RcAt.int_str i k y t
 | str x=>obtain⟨k,e⟩:=(show ∃t,u=Np x t from r);cases e;simpa [LL] using SeqAt.RcAt.str_str x k y t
 | @tup a xs ds h n rr=>
  cases (show u=L8 a from r);obtain⟨its,rv,p,_⟩:=I.tuple (.inl h);simpa [LL] using Qh y t (show s.heap.IsTuple a its.toArray from p) hu
 | @tupK a xs ds h rr=>
  cases (show u=L8 a from r);obtain⟨its,rv,p,_⟩:=I.tuple h.of0;simpa [LL] using Qh y t (show s.heap.IsTuple a its.toArray from p) hu
 | @lst a xs ds h n rr=>
  cases (show u=L8 a from r);obtain⟨its,rv,p,_⟩:=I.list (.inl h);simpa [LL] using SeqAt.RcAt.list_str y t p.isList hu
 | pack h n=>exact absurd ht (by simp [cS])
 | purse h n=>exact absurd ht (by simp [cS])
 | scr h r=>exact absurd ht (by simp [cS])
 | obj h e n r=>exact absurd ht (by simp [cS])
 | @dct0 a h n=>
  cases (show u=L8 a from r);obtain⟨_,_,_,_,o,es,ep,e,c,dd,_⟩:=(show bU X.prog X.w H s.heap a (.dK []) from I.hok a _ h);simpa [LL] using SeqAt.RcAt.dict_str y t e c.1 dd hu
 | @dic a ob kv ks kp ds h e1 e2 n rr=>
  cases (show u=L8 a from r);obtain⟨_,_,_,_,o,es,ep,e,c,dd,_⟩:=(show bU X.prog X.w H s.heap a (.dK kv) from(I.hok a _ h).2);simpa [LL] using SeqAt.RcAt.dict_str y t e c.1 dd hu
theorem G5(I:ae X TR σ H s){A:Ss}{O:Ex}{v:V}{d:R6}{u:R7}(h:Dt X.K H O v d)(ht:cS d=true)(r:aC v u)(y:Str)(t:Tok)(hu:A.units < SG):RT A s (.str y t) u (LL (.str y) d):=by
 cases h with
 | non=>cases (show u=Nn from r);simpa [LL] using RT.str_none y t
 | bl b=>cases (show u=NI b from r);simpa [LL] using RT.str_bool y t b
 | int i=>obtain⟨k,e⟩:=(show ∃t,u=NU i t from r);cases e;simpa [LL] using Qp y t i k
 | str x=>obtain⟨k,e⟩:=(show ∃t,u=Np x t from r);cases e;simpa [LL] using RY y t x k
 | @tup a xs ds h n rr=>
  cases (show u=L8 a from r);obtain⟨its,rv,p,_⟩:=I.tuple (.inl h);simpa [LL] using Qi y t (show s.heap.IsTuple a its.toArray from p) hu
 | @tupK a xs ds h rr=>
  cases (show u=L8 a from r);obtain⟨its,rv,p,_⟩:=I.tuple h.of0;simpa [LL] using Qi y t (show s.heap.IsTuple a its.toArray from p) hu
 | @lst a xs ds h n rr=>
  cases (show u=L8 a from r);obtain⟨its,rv,p,_⟩:=I.list (.inl h);simpa [LL] using RT.str_list y t p.isList hu
 | pack h n=>exact absurd ht (by simp [cS])
 | purse h n=>exact absurd ht (by simp [cS])
 | scr h r=>exact absurd ht (by simp [cS])
 | obj h e n r=>exact absurd ht (by simp [cS])
 | @dct0 a h n=>
  cases (show u=L8 a from r);obtain⟨_,_,_,_,o,es,ep,e,c,dd,_⟩:=(show bU X.prog X.w H s.heap a (.dK []) from I.hok a _ h);simpa [LL] using RT.str_dict y t e c.1 dd hu
 | @dic a ob kv ks kp ds h e1 e2 n rr=>
  cases (show u=L8 a from r);obtain⟨_,_,_,_,o,es,ep,e,c,dd,_⟩:=(show bU X.prog X.w H s.heap a (.dK kv) from(I.hok a _ h).2);simpa [LL] using RT.str_dict y t e c.1 dd hu
end
section
variable {X:Cx} {H0:Hp} {O0:Ex}
def xF(K:Ll):R2:=λx y H Q=>∃O dx z,Dt K H O x dx/\cS dx=true/\y= .str z/\Q (.bl (LL dx (.str z))) H
theorem dB{k:Nat}(hr:br k X.A):bK X (Sv .Eq) (xF X.K):=by
 intro TR s σ H x y v u Q I rx ry h;obtain⟨O,dx,z,hx,ht,rfl,q⟩:=h;obtain⟨t,rfl⟩:=ry;have hc:Sv .Eq v (.str z t)=richCompare .Eq v (.str z t):=rfl;rw [hc];exact G4 I hx ht rx z t hr.units0 X.prog X.w X.xe _ (bA I q rfl)
def kK:R6->R6->(R6->Prop)->Prop:=λx y Q=>∃z,y= .str z/\cS x=true/\Q (.bool (LL x (.str z)))
theorem dD{K:Ll}:cv K (xF K) kK:=λH O x y dx dy Qd R _ hx hy uu82 k=>by
 obtain⟨z,e,ht,q⟩:=uu82;subst e;cases hy.str;exact⟨_,dx,z,hx.all,ht,rfl,k _ _ H q (ao.refl _) (.bl _)⟩
theorem G6(dx:R6){its:List R7}{zs:List Str}(hS:StrsAre its zs):its.any (λy=>LL (.str (strOf y)) dx)=zs.any λz=>LL (.str z) dx:=by
 induction hS with
 | nil=>rfl
 | cons y t r ih=>rw [M7,M7,ih];rfl
def xG(K:Ll):R2:=λx y H Q=>∃(O:Ex)(dx:R6)(zs:List Str)(a:R8),Dt K H O x dx/\cS dx=true/\y= .ref a/\aW K H a (zs.map V.str)/\Q (.bl (zs.any λz=>LL (.str z) dx)) H
theorem mR{k:Nat}(hr:br k X.A):bK X (Sv .In) (xG X.K):=by
 intro TR s σ H x y v u Q I rx ry h;obtain⟨O,dx,zs,a,hx,ht,rfl,ha,q⟩:=h;cases ry;obtain⟨its,rv,p,_⟩:=I.tuple ha;have hS:=xB rv;have hl:=G6 dx hS;refine SeqAt.in_tupleAt (λy=>LL (.str (strOf y)) dx) (show s.heap.IsTuple a its.toArray from p) (λy hy=>?_) (by rw [List.any_toArray,hl];exact bA I q rfl);obtain⟨z,t,rfl⟩:=hS.all y (by simpa using hy);exact G5 I hx ht rx z t (by show X.A.units+1 < SG;have:=hr.un;omega)
def rD:R6->R6->(R6->Prop)->Prop:=λx y Q=>∃zs:List Str,y= .tuple (zs.map .str)/\cS x=true/\Q (.bool (zs.any λz=>LL (.str z) x))
theorem mS{K:Ll}:cv K (xG K) rD:=λH O x y dx dy Qd R _ hx hy uu83 k=>by
 obtain⟨zs,e,ht,q⟩:=uu83;subst e;obtain⟨a,vs,rfl,hs,r⟩:=hy.tup;cases r.strs;exact⟨_,dx,zs,a,hx.all,ht,rfl,hs,k _ _ H q (ao.refl _) (.bl _)⟩
end
theorem xH{g:DG}{te:DT}{δ0:Dl}{xs:List R6}{Q:List R6->Prop}(f:R6->R6)
 (h:∀x∈xs,∀R:R6->Prop,R (f x)->g x δ0 λδ2=>te δ2 R)(q:Q (xs.map f)):fc g iX te δ0 xs Q:=by
 refine⟨λi acc=>acc=(xs.take i).map f,rfl,?_,?_⟩
 ·rintro i x acc hx rfl;have:=h x (LQ hx) (λy=>(xs.take i).map f++[y]=(xs.take (i+1)).map f) (by rw [Mx,hx];simp);simpa [iX] using this
 ·rintro acc rfl;rw [L3 (Lr _)];exact q
theorem G7{g:DG}{tc:DB}{te:DT}{δ0:Dl}{xs:List R6}{Q:List R6->Prop}(f:R6->Option R6)
 (h:∀x∈xs,∀(R:R6->Prop) (S:Prop),(match f x with | some y=>R y | none=>S)->g x δ0 λδ2=>tc δ2 λok=>if ok=true then te δ2 R else S)(q:Q (xs.filterMap f)):fc g tc te δ0 xs Q:=by
 refine⟨λi acc=>acc=(xs.take i).filterMap f,rfl,?_,?_⟩
 ·rintro i x acc hx rfl;refine h x (LQ hx) (λy=>(xs.take i).filterMap f++[y]=(xs.take (i+1)).filterMap f) ((xs.take i).filterMap f=(xs.take (i+1)).filterMap f) ?_;rw [Mx,hx];cases e:f x with
  | none=>simp [e]
  | some y=>simp [e]
 ·rintro acc rfl;rw [L3 (Lr _)];exact q
theorem xI{a b:Str}{P:List Str->Prop}:(∃zs,[Lp a,Lp b]=Mm Lp zs/\P zs)↔P [a,b]:=by
 refine⟨λ⟨zs,e,h⟩=>?_,λh=>⟨_,rfl,h⟩⟩
 match zs,e with
 | [x,y],e=>simp at e;rw [e.1,e.2];exact h
theorem xJ{x:Str}:cS (.str x)=true:=rfl
theorem xK{x:Int}:cS (.int x)=true:=rfl
theorem xM{x:Bool}:cS (.bool x)=true:=rfl
theorem xN{x:List R6}:cS (.tuple x)=true:=rfl
theorem xO{x:List R6}:cS (.list x)=true:=rfl
def units:List Str:=["days","months","years"]
theorem cT{n:Nat}:∀d∈([]:List R6),bO n d:=λd hd=>by simp at hd
theorem aJ{n:Nat}{d:R6}{r:List R6}(h:bO n d)(hr:∀e∈r,bO n e):∀e∈d::r,bO n e:=λe he=>by
 rcases LF.mp he with z | z
 ·rw [z];exact h
 ·exact hr e z
theorem bB{n:Nat}{x:Str}(h:LB x=true)(hn:1<=n:=by decide):bO n (.str x):=(xo h).mono hn
theorem fy{n:Nat}{x:Int}(hn:1<=n:=by decide):bO n (.int x):=GO.mono hn
theorem xP{n:Nat}{x:Bool}(hn:1<=n:=by decide):bO n (.bool x):=GP.mono hn
theorem jG{n:Nat}{ms:List Str}(h:∀m∈ms,LB m=true)(hn:1<=n:=by decide):∀d∈ms.map Lp,bO n d:=λd hd=>by
 obtain⟨m,hm,rfl⟩:=Lv.mp hd;exact(xo (h m hm)).mono hn
theorem xQ{a b:R6}{l:List R6}:cz (a::b::l) (some 2) none=l:=by
 rw [wY RZ (by simp only [LP];omega)];rfl
theorem xR{a b c:R6}{l:List R6}:cz (a::b::c::l) (some 3) none=l:=by
 rw [wY RZ (by simp only [LP];omega)];rfl
theorem xS{a b:R6}{l:List R6}:cz (a::b::l) none (some 2)=[a,b]:=by
 rw [kD RZ (by simp only [LP];omega)];rfl
theorem xT{a b c:R6}{l:List R6}:cz (a::b::c::l) (some 1) (some 3)=[b,c]:=by
 unfold cz;rw [mI RZ (by simp only [LP];omega),mI RZ (by simp only [LP];omega)];rfl
end L2
namespace PySem
open Builtin
open AutoSeq1 (wpAny_loadPart')
end PySem
namespace L2
open PySem PySem.Spec PyProof.Rows PySem.W
section
variable {X:Cx} {H0:Hp} {O0:Ex}
def rE(t:DT):DT:=λδ Q=>t δ λd=>∃i,d= .int i/\Q (.int (-i))
theorem xU{e:Sd}{t:DT}{pos:Pos}(h:DE X H0 O0 e t):DE X H0 O0 (.UnaryOp .USub e pos) (rE t):=
 (D7 Ea h).imp λσ H Q uu85=>by obtain⟨O,δ,Qd,w,q,k⟩:=uu85;exact⟨O,δ,_,w,q,λd v H1 uu86 s1 r1=>by obtain⟨i,e,q1⟩:=uu86;subst e;cases r1;exact⟨i,rfl,k _ _ H1 q1 s1 (.int _)⟩⟩
end
section
variable {x:Option Sd} {n:Nat} {env:Env}
theorem G8{a b}:Sx (.List a b) x n env=pure false:=rfl
theorem G9{a b c}:Sx (.Tuple a b c) x n env=pure false:=rfl
theorem i9{a b c d}:Sx (.BinOp a b c d) x n env=pure false:=rfl
theorem fh{a b c d}:Sx (.Call a b c d) x n env=pure false:=rfl
theorem kL{a b c}:Sx (.Subscript a b c) x n env=pure false:=rfl
theorem xV{a b c}:Sx (.Dict a b c) x n env=pure false:=rfl
end
theorem xW:(Lk "paper"==Lk "happens")=false:=cp
theorem xX:(Lk "paper"==Lk "rule")=false:=cp
theorem xY:(Lk "happens"==Lk "paper")=false:=cp
theorem xZ:(Lk "happens"==Lk "rule")=false:=cp
theorem x4:(Lk "happens"==Lk "hold")=false:=cp
theorem x5:(Lk "rule"==Lk "paper")=false:=cp
theorem x6:(Lk "rule"==Lk "hold")=false:=cp
theorem x8:(Lk "end"==Lk "paper")=false:=cp
theorem x9:(Lk "end"==Lk "happens")=false:=cp
theorem yB:(Lk "end"==Lk "rule")=false:=cp
theorem yC:(Lk "end"==Lk "hold")=false:=cp
theorem yD:(Lk "end"==Lk "lift")=false:=cp
theorem yE:(Lk "end"==Lk "leave")=false:=cp
theorem yF:(Lk "hold"==Lk "paper")=false:=cp
theorem yG:(Lk "hold"==Lk "rule")=false:=cp
theorem yH:(Lk "lift"==Lk "paper")=false:=cp
theorem yI:(Lk "lift"==Lk "happens")=false:=cp
theorem yJ:(Lk "lift"==Lk "rule")=false:=cp
theorem yK:(Lk "lift"==Lk "end")=false:=cp
theorem yL:(Lk "lift"==Lk "hold")=false:=cp
theorem yM:(Lk "lift"==Lk "leave")=false:=cp
theorem yN:(Lk "leave"==Lk "paper")=false:=cp
theorem yO:(Lk "leave"==Lk "rule")=false:=cp
theorem yP:(Lk "leave"==Lk "hold")=false:=cp
section
variable {X:Cx} {H0:Hp} {O0:Ex}
def rF:DS:=λ_ _=>False
theorem Ha{st:Sq}:PS X st (bx X.K H0 O0 rF):=DY.imp λD σ H uu87=>by obtain⟨O,δ,E,w,q,_,_,_,_⟩:=uu87;exact q.elim
end
section
variable {α:Type} {P:α->Prop}
theorem rG{a:R6}{r:Dl}{P:R6->Prop}:cF 0 (some (Sl.v a)::r) P=P a:=rfl
theorem yQ{x:Option Sl}{r:Dl}{i:Nat}{P:R6->Prop}:cF (i+1) (x::r) P=cF i r P:=rfl
theorem yR{a:List R6}{r:Dl}{P:List R6->Prop}:(∃d,(some (Sl.o a)::r)[0]?=some (some (Sl.o d))/\P d)=P a:=R5
theorem yS{x:Option Sl}{r:Dl}{i:Nat}{P:List R6->Prop}:(∃d,(x::r)[i+1]?=some (some (Sl.o d))/\P d)=(∃d,r[i]?=some (some (Sl.o d))/\P d):=R5
theorem yT{x:Option Sl}{l:Dl}{i j:Nat}{P:List R6->Prop}(h:i≠j):(∃d,(l.set i x)[j]?=some (some (Sl.o d))/\P d)=(∃d,l[j]?=some (some (Sl.o d))/\P d):=by rw [Ma h]
theorem yU{a:Bool}{P:Bool->Prop}:(∃b,Nf a= .bool b/\P b)=P a:=R5
theorem yV{a:Int}{P:Int->Prop}:(∃b,Ly a= .int b/\P b)=P a:=R5
theorem yW{a:Str}{P:Str->Prop}:(∃b,Lp a= .str b/\P b)=P a:=R5
theorem yX{a:List R6}{P:List R6->Prop}:(∃b,LW a= .tuple b/\P b)=P a:=R5
theorem yY{a:List R6}{P:List R6->Prop}:(∃b,M5 a= .list b/\P b)=P a:=R5
theorem yZ{a b:Int}{P:Int->Int->Prop}:(∃i j,Ly a= .int i/\Ly b= .int j/\P i j)=P a b:=R5
theorem y3{a b:Str}{P:Str->Str->Prop}:(∃i j,Lp a= .str i/\Lp b= .str j/\P i j)=P a b:=R5
theorem y4{a b:List R6}{P:List R6->List R6->Prop}:(∃i j,LW a= .tuple i/\LW b= .tuple j/\P i j)=P a b:=R5
theorem y6{a b:List R6}{P:List R6->List R6->Prop}:(∃i j,M5 a= .list i/\M5 b= .list j/\P i j)=P a b:=R5
theorem y8{a:R6}{r:List R6}{P:R6->List R6->Prop}:(∃x y,a::r=x::y/\P x y)=P a r:=propext ⟨λuu88=>by obtain⟨_,_,e,p⟩:=uu88;cases e;exact p,λp=>⟨_,_,rfl,p⟩⟩
theorem y9{a b:R6}{P:R6->R6->Prop}:(∃x y,[a,b]=[x,y]/\P x y)=P a b:=propext ⟨λuu89=>by obtain⟨_,_,e,p⟩:=uu89;cases e;exact p,λp=>⟨_,_,rfl,p⟩⟩
theorem z5{a:R6}{r:List R6}{P:R6->Prop}:(∃ds i d,LW (a::r)= .tuple ds/\Ly 0= .int i/\atI ds i=some d/\P d)=P a:=by simp [gZ]
theorem z6{a b:R6}{r:List R6}{P:R6->Prop}:(∃ds i d,LW (a::b::r)= .tuple ds/\Ly 1= .int i/\atI ds i=some d/\P d)=P b:=by simp [gE]
theorem z7{a b c:R6}{r:List R6}{P:R6->Prop}:(∃ds i d,LW (a::b::c::r)= .tuple ds/\Ly 2= .int i/\atI ds i=some d/\P d)=P c:=by simp [mG]
theorem z8{a b c e:R6}{r:List R6}{P:R6->Prop}:(∃ds i d,LW (a::b::c::e::r)= .tuple ds/\Ly 3= .int i/\atI ds i=some d/\P d)=P e:=by simp [ik]
theorem z9{a:R6}{r:List R6}{P:R6->Prop}:(∃ds i d,M5 (a::r)= .list ds/\Ly 0= .int i/\atI ds i=some d/\P d)=P a:=by simp [gZ]
theorem Aa{a b:R6}{r:List R6}{P:R6->Prop}:(∃ds i d,M5 (a::b::r)= .list ds/\Ly 1= .int i/\atI ds i=some d/\P d)=P b:=by simp [gE]
theorem Ab{xs:List R6}{k:Int}{P:R6->Prop}:(∃ds i d,LW xs= .tuple ds/\Ly k= .int i/\atI ds i=some d/\P d)=(∃d,atI xs k=some d/\P d):=R5
theorem Ac{xs:List R6}{k:Int}{P:R6->Prop}:(∃ds i d,M5 xs= .list ds/\Ly k= .int i/\atI ds i=some d/\P d)=(∃d,atI xs k=some d/\P d):=R5
end
theorem Ad{w v:Str}{r:List R6}{l:Dl}{Q:Bool->Prop}:gR (fb kK (fb kC (cF 0) (dC (.int 0))) (dC (.str v))) (some (.v (.tuple (.str w::r)))::l) Q=Q (w==v):=by
 simp [gR,fb,kK,kC,rG,dC,gZ,cS,iZ]
def fS:ah->R6
 | .inl i=>.int i
 | .inr x=>.str x
def bV(kd:List (ah×R6))(k:ah):Option R6:=(kd.find? λp=>decide (p.1=k)).map (·.2)
def cN(kd:List (ah×R6))(k:ah)(d:R6):List (ah×R6):=if (kd.any λp=>decide (p.1=k))=true then kd.map (λp=>if p.1=k then(p.1,d) else p) else kd++[(k,d)]
section
variable {K:Ll} {H:Hp} {O:Ex}
theorem Dt.key{v:V}{k:ah}(h:Dt K H O v (fS k)):v=kV k:=by
 cases k with
 | inl i=>cases h;rfl
 | inr x=>cases h;rfl
theorem bo.val{kv:List (ah×V)}{kd:List (ah×R6)}(h:bo K H O kv kd)(k:ah):(dO kv k=none/\bV kd k=none)\/∃v d,dO kv k=some v/\bV kd k=some d/\Dt K H O v d:=by
 induction h with
 | nil=>exact .inl ⟨rfl,rfl⟩
 | @cons j v d r s a _ ih=>
  by_cases e:j=k
  ·exact .inr ⟨v,d,kF e,by simp [bV,MV,e],a⟩
  ·rw [kG e,show bV ((j,d)::s) k=bV s k by simp [bV,MV,e]];exact ih
theorem bo.any{kv:List (ah×V)}{kd:List (ah×R6)}(h:bo K H O kv kd)(k:ah):(kv.any λp=>decide (p.1=k))=(kd.any λp=>decide (p.1=k)):=by
 induction h with
 | nil=>rfl
 | cons a _ ih=>simp only [M7,ih]
theorem bo.length{kv:List (ah×V)}{kd:List (ah×R6)}(h:bo K H O kv kd):kv.length=kd.length:=by
 induction h with
 | nil=>rfl
 | cons a _ ih=>simp only [LP,ih]
theorem bo.append{kv kv':List (ah×V)}{kd kd':List (ah×R6)}(h:bo K H O kv kd)(h':bo K H O kv' kd'):bo K H O (kv++kv') (kd++kd'):=by
 induction h with
 | nil=>exact h'
 | cons a _ ih=>exact .cons a ih
theorem bo.repl{kv:List (ah×V)}{kd:List (ah×R6)}(h:bo K H O kv kd)(k:ah){v:V}{d:R6}(hv:Dt K H O v d):bo K H O (kv.map λp=>if p.1=k then(p.1,v) else p) (kd.map λp=>if p.1=k then(p.1,d) else p):=by
 induction h with
 | nil=>exact .nil
 | @cons j u e r s a _ ih=>
  simp only [Lq];by_cases z:j=k
  ·rw [R3 z,R3 z];exact .cons hv ih
  ·rw [R1 z,R1 z];exact .cons a ih
theorem bo.put{kv:List (ah×V)}{kd:List (ah×R6)}(h:bo K H O kv kd)(k:ah){v:V}{d:R6}(hv:Dt K H O v d):bo K H O (putK kv k v) (cN kd k d):=by
 unfold putK cN;rw [h.any k];split
 ·exact h.repl k hv
 ·exact h.append (.cons hv .nil)
end
section
variable {X:Cx} {H0:Hp} {O0:Ex}
abbrev g5:=Dl->(List (ah×R6)->Prop)->Prop
inductive Ae (K:Ll) (H0:Hp) (O0:Ex) (t:g5) (σ:St) (H:Hp) (R:VK):Prop
 | mk (O:Ex) (δ:Dl) (Qd:List (ah×R6)->Prop):Wd K H0 O0 H O σ δ->t δ Qd->(∀kd kv p H',Qd kd->ao H H'->H' p=none->bo K H' O kv kd->R (.ref p) (ak H' p (.dK kv)))->Ae K H0 O0 t σ H R
abbrev KE(X:Cx)(H0:Hp)(O0:Ex)(e:Sd)(t:g5):Prop:=PE X e (Ae X.K H0 O0 t)
def rH:g5:=λ_ Q=>Q []
theorem Hb{pos:Pos}:KE X H0 O0 (.Dict [] [] pos) rH:=Gw.imp λσ H Q uu90=>by obtain⟨O,δ,Qd,w,q,k⟩:=uu90;exact λp hp=>k [] [] p H q (ao.refl _) hp .nil
def rJ(i:Nat)(t:g5):DS:=λE δ=>t δ λkd=>E.nx (δ.set i (some (.k kd)))
theorem rK{i:Nat}{x:Str}{e:Sd}{t:g5}{pos pos':Pos}(hN:X.N.Nodup)(hi:X.N[i]?=some x)(hx:gc X.env.scope x)(he:KE X H0 O0 e t)(hs:Sx e (some (.Name x pos')) pos.line X.env=pure false:=by rfl)(hf:X.fn x=true\/X.env.scope.names.lookup x=some .local:=by first | exact .inl rfl | exact .inr rfl | assumption):
 PS X (.Assign [.Name x pos'] e pos) (bx X.K H0 O0 (rJ i t)):=
 (cV hN hi hx he hs hf).imp λD σ H ⟨O,δ,E,w,q,k1,k2,k3,k4⟩=>⟨O,δ,_,w,q,λds vs p H1 q1 s1 hp r1=>k1 _ _ _ _ q1 ((w.mono s1).setK hp r1)
  ⟨λb o e _=>(s1.trans (ao.new hp)) b o e,λb e n z=>z.elim n λy=>by
   cases q:H b with
   | none=>exact e q
   | some o=>have:=s1 _ _ q;rw [y,hp] at this;cases this⟩⟩
def rL(i:Nat)(tk tv:DT):DS:=λE δ=>tv δ λd=>∃kd,δ[i]?=some (some (.k kd))/\tk δ λy=>∃k,y=fS k/\kd.length < Sb/\E.nx (δ.set i (some (.k (cN kd k d))))
theorem Af{i:Nat}{o e v:Sd}{tk tv:DT}{pos pos':Pos}(hu:X.A.units+64 < SG)(ho:PE X o (c7 i))(he:DE X H0 O0 e tk)(hv:DE X H0 O0 v tv)(hs:Sx v (some (.Subscript o e pos')) pos.line X.env=pure false:=by rfl):
 PS X (.Assign [.Subscript o e pos'] v pos) (bx X.K H0 O0 (rL i tk tv)):=
 (Gu R0 ho he hv hs).imp λD σ H ⟨O,δ,E,w,q,k1,k2,k3,k4⟩=>⟨O,δ,_,w,q,λd u H1 uu93 s1 r1=>by
  obtain⟨kd,e,qk⟩:=uu93;have w1:=w.mono s1;obtain⟨l,kv,h,a,b,c,r⟩:=w1.ownK e;refine⟨.ref l,h,O,δ,_,w1,qk,λy uy H2 ⟨k,ek,hl,q2⟩ s2 r2=>?_⟩;subst ek;obtain rfl:=r2.key;refine⟨l,_,rfl,kH.k (s2 _ _ c) (by rw [r.length];exact hl),k1 _ _ _ _ q2 ((w1.mono s2).putK e h ((r.mono s2).put k (r1.mono s2))) ⟨λb' o' z n=>?_,λ_ _ n=>n⟩⟩;rw [aD (λy=>n (by rw [y];exact a))];exact(s1.trans s2) _ _ z⟩
def rM(i:Nat)(tk:DT):DT:=λδ Q=>∃kd,δ[i]?=some (some (.k kd))/\tk δ λy=>∃k d,y=fS k/\bV kd k=some d/\Q d
theorem bo.got{K:Ll}{H:Hp}{O:Ex}{kv:List (ah×V)}{kd:List (ah×R6)}(h:bo K H O kv kd){k:ah}{d:R6}(e:bV kd k=some d):∃v,dO kv k=some v/\Dt K H O v d:=by
 rcases h.val k with⟨_,z⟩ | ⟨v,d',a,b,c⟩
 ·rw [e] at z;cases z
 ·rw [e] at b;cases b;exact⟨v,a,c⟩
theorem bo.none{K:Ll}{H:Hp}{O:Ex}{kv:List (ah×V)}{kd:List (ah×R6)}(h:bo K H O kv kd){k:ah}:(dO kv k).isSome=(bV kd k).isSome:=by
 rcases h.val k with⟨y,z⟩ | ⟨v,d',a,b,c⟩
 ·rw [y,z];rfl
 ·rw [a,b];rfl
theorem Ag{i:Nat}{o e:Sd}{tk:DT}{pos:Pos}(hu:X.A.units+64 < SG)(ho:PE X o (c7 i))(he:DE X H0 O0 e tk)(hs:mJ e):DE X H0 O0 (.Subscript o e pos) (rM i tk):=
 (xc R0 ho he hs).imp λσ H Q uu95=>by
  obtain⟨O,δ,Qd,w,⟨kd,e,q⟩,k⟩:=uu95;obtain⟨l,kv,h,a,b,c,r⟩:=w.ownK e;refine⟨.ref l,h,O,δ,_,w,q,λy uy H2 ⟨ky,d,ek,ev,q2⟩ s2 r2=>?_⟩;subst ek;obtain rfl:=r2.key;obtain⟨v,hv,dv⟩:=r.got ev;exact⟨l,v,rfl,by rw [<-hv];exact dA.k (s2 _ _ c),k _ _ _ q2 s2 (dv.mono s2)⟩
def rN(i:Nat)(tk:DT):DT:=λδ Q=>∃kd,δ[i]?=some (some (.k kd))/\tk δ λy=>∃k,y=fS k/\Q ((bV kd k).getD .none)
theorem Ah{i:Nat}{o e:Sd}{tk:DT}{apos cpos:Pos}(hu:X.A.units+64 < SG)(ho:PE X o (c7 i))(he:DE X H0 O0 e tk)(m:M1 X o "get" apos e cpos):DE X H0 O0 (.Call (.Attribute o "get" apos) [e] [] cpos) (rN i tk):=
 (GG R0 ho he m).imp λσ H Q uu0=>by
  obtain⟨O,δ,Qd,w,⟨kd,e,q⟩,k⟩:=uu0;obtain⟨l,kv,h,a,b,c,r⟩:=w.ownK e;refine⟨.ref l,h,l,rfl,.inl ⟨kv,.inl c⟩,O,δ,_,w,q,λy uy H2 ⟨ky,ek,q2⟩ s2 r2=>?_⟩;subst ek;obtain rfl:=r2.key;refine⟨_,dA.k (s2 _ _ c),k _ _ _ q2 s2 ?_⟩;rcases r.val ky with⟨y,z⟩ | ⟨v,d',a',b',c'⟩
  ·rw [y,z];exact .non
  ·rw [a',b'];exact c'.mono s2
def ja(neg:Bool)(i:Nat)(tk:DT):DT:=λδ Q=>tk δ λy=>∃k,y=fS k/\∃kd,δ[i]?=some (some (.k kd))/\Q (.bool (if neg then !(bV kd k).isSome else(bV kd k).isSome))
theorem Ai{i:Nat}{o e:Sd}{tk:DT}(hu:X.A.units+64 < SG)(ho:PE X o (c7 i))(he:DE X H0 O0 e tk):PC X .In e o (up X.K H0 O0 (ja false i tk)):=λTR s σ H Q I ⟨O,δ,Qd,w,q,k⟩=>
 Gr R0 he ho TR s σ H Q I ⟨O,δ,_,w,q,λy uy H2 uu3 s2 r2=>by
  obtain⟨ky,ek,kd,e,q2⟩:=uu3;subst ek;obtain rfl:=r2.key;obtain⟨l,kv,h,a,b,c,r⟩:=(w.mono s2).ownK e;exact⟨.ref l,h,l,_,rfl,dA.k c,by rw [r.none];exact k _ _ _ q2 s2 (.bl _)⟩⟩
theorem Hc{i:Nat}{o e:Sd}{tk:DT}(hu:X.A.units+64 < SG)(ho:PE X o (c7 i))(he:DE X H0 O0 e tk):PC X .NotIn e o (up X.K H0 O0 (ja true i tk)):=λTR s σ H Q I ⟨O,δ,Qd,w,q,k⟩=>
 Gs R0 he ho TR s σ H Q I ⟨O,δ,_,w,q,λy uy H2 uu5 s2 r2=>by
  obtain⟨ky,ek,kd,e,q2⟩:=uu5;subst ek;obtain rfl:=r2.key;obtain⟨l,kv,h,a,b,c,r⟩:=(w.mono s2).ownK e;exact⟨.ref l,h,l,_,rfl,dA.k c,by rw [r.none];exact k _ _ _ q2 s2 (.bl _)⟩⟩
end
open PySem PySem.Spec PyProof.Rows PySem.W PySem.Calls
theorem He{prog:Sk}{w:Sm}{A:Ss}{E:R7->R9->Prop}{s:R9}{T:String}{r d:R8}{n:Nat}{P:Nat->R7->Prop}{OK:Sn->Prop}{ss:List Str}{Q:R7->R9->Prop}
 (K:KdlSrc prog w T r d n P OK)(hh:A.handled=none)(hok:OK s.heap)(hn:n < 64)(hP:∀vs:List R7,vs.length=n->(∀j v,vs[j]?=some v->P j v)->StrsAre vs ss)
 (h:∀(h' h2:Sn) (tk:Nat) (out:Array R7) (e:Nat) (ss':List Str),(∀b o,s.heap.get? b=some o->h'.get? b=some o)->(∀b o,h'.get? b=some o->h2.get? b=some o)->h2.get? h'.objs.size=some (Sr "list" out e)->StrsAre out.toList ss'->ss'.Perm ss->sortedS ss'=true->Q (.ref h'.objs.size) {s with heap:=h2,toks:=tk}):
 Sf (Si prog w) A (call (.builtin "sorted") [.ref r]) Q E s:=by
 refine N5 kind_sorted plain_sorted entry_sorted (args_sorted1 _) ?_;unfold Builtin.«sorted»;refine Sa (m:=checkCount "sorted" 1 1 _) (Sg ?_);refine Sa (kdu_collect (A:=A.in1) K hh hok (LY (Nz hn) RZ) λh' tk acc hk hacc=>?_);have hl:acc.toList.length=n:=by rw [LR];exact hacc.1
 refine Sa (SW ?_);have hS:=hP acc.toList hl (λj v e=>hacc.2 j v (by rw [<-Array.getElem?_toList];exact e));have hoL:(h'.push (Sr "list" acc.toList.toArray 0)).get? h'.objs.size=some (Sr "list" acc.toList.toArray 0):=LU _ rfl;refine Sa (SA (S6 Tw ⟨_,hoL,rfl⟩ Tu (list_sort_treeK (s:={s with heap:=h'.push (Sr "list" acc.toList.toArray 0),toks:=tk}) strKind_oneLt hoL hS.keysOf (λv₁ v₂ rest e=>keyKind_strs (by rw [<-e];exact hS)) (by rw [hl];exact hn) λst' a1 a2=>⟨_,rfl,?_⟩) (args_list_sort _)));obtain⟨ss',h1,h2,h3⟩:=sorted_out_str hS a1 a2;obtain⟨e,he⟩:=sortedHeap_at (n:=0) (vs:=acc.toList) (out:=(arrOf st').map (·.2)) hoL;refine Sg ⟨_,rfl,h h' _ tk _ e ss' hk (λb o q=>?_) he h1 h2 h3⟩;have hlt:b < h'.objs.size:=LJ q;rw [sortedHeap_old (LV hlt) (by rw [size_push'];exact Pa hlt),Heap.get?_push_ne _ _ _ (LV hlt)];exact q
theorem Aj{P:Sk}{w:Sm}:∀{ss:List Str}{vs:List R7},vs.length=ss.length->(∀(j:Nat)(v:R7),vs[j]?=some v->∃x:Str,ss[j]?=some x/\(bT P w).is (.inr x) v=true)->StrsAre vs ss
 | [],[],_,_=>.nil
 | x::ss,v::vs,hl,h=>by
  obtain⟨y,e,k⟩:=h 0 v rfl;cases e;rcases fG (k:= .inr x) (v:=v) k with⟨i,t,e,_⟩ | ⟨z,t,e,ev⟩
  ·cases e
  ·cases e;subst ev;exact .cons x t (Aj (by simpa using hl) λj v e=>h (j+1) v e)
theorem Hf{X:Cx}:cO X (.builtin "sorted") (λxs H Q=>X.calm=true/\∃a kv ss,xs=[.ref a]/\Rd H a (.dK kv)/\kv.map (·.1)=ss.map Mi/\ss.length < 64/\∀l,H l=none->Q (.ref l) (ak H l (.lst ((cM ss).map V.str)))):=by
 intro TR s σ H xs us Q I r h;obtain⟨hc,a,kv,ss,rfl,ha,hk,h64,q⟩:=h;obtain⟨u,rfl,rx⟩:=cP r;cases rx;obtain⟨hz,lo,vs,rel,dd⟩:=iu I.hok ha;obtain⟨ep,da⟩:=dd.dictAt;have hlen:vs.length=ss.length:=by rw [<-rel.length,<-Lm (f:=(·.1)),hk,Lm]
 refine He (ss:=ss) (kdl_dict (kvs:=vs) (ep:=ep) lo) (I.ok.hd hc) da R0 (λus hl hp=>Aj (P:=X.prog) (w:=X.w) R0 λj v e=>?_) λh' h2 tk out e ss' k1 k2 oC s1 s2 s3=>?_
 ·obtain⟨k,x,ek,kk⟩:=hp j v e;have e1:(vs.map (·.1))[j]?=some k:=by rw [LD,ek];rfl
  rw [<-rel.keys,hk,LD] at e1;cases es:ss[j]? with
  | none=>rw [es] at e1;cases e1
  | some y=>rw [es] at e1;cases e1;exact⟨y,rfl,kk⟩
 ·have es:ss'=cM ss:=xx s2 (xA _ s3);subst es;have hl2:(cM ss).length=ss.length:=s2.length_eq;have I1:ae X TR σ H {s with heap:=h',toks:=tk}:=I.kept (t':=tk) k1;refine⟨.ref _,_,I1.laid (t':=tk) (o:= .lst ((cM ss).map V.str)) k2 (Lr _) ?_,rfl,q _ (I1.hok.fresh (Lr _))⟩;refine⟨by rw [Lm,hl2];exact LY (Nz h64) RZ,out.toList,e,rB s1,?_⟩;rw [oC]
theorem bo.keys{K:Ll}{H:Hp}{O:Ex}{kv:List (ah×V)}{kd:List (ah×R6)}(h:bo K H O kv kd):kv.map (·.1)=kd.map (·.1):=by
 induction h with
 | nil=>rfl
 | cons a _ ih=>simp only [Lq,ih]
section
variable {X:Cx} {H0:Hp} {O0:Ex}
def rO(i:Nat):DA:=λδ Q=>∃kd,δ[i]?=some (some (.k kd))/\∃ss:List Str,kd.map (·.1)=ss.map Mi/\ss.length < 64/\Q ((cM ss).map .str)
theorem Hg{i:Nat}{o:Sd}{np p:Pos}(hc:X.calm=true)(hg:Gl X "sorted")(hm:X.mg "sorted"=none)(hv:Sw "sorted"=some (.builtin "sorted"))(ho:PE X o (c7 i))(he:Se [o] X.env=(false,eval o X.env)::Se [] X.env:=by rfl)(hpl:(Sy p (Se [] X.env)).any (·.1)=false:=by rfl):
 FE X H0 O0 (.Call (.Name "sorted" np) [o] [] p) (rO i):=
 (bN Hf hg hm hv (bw ho bX he) (he:=he) (hpl:=hpl)).imp λσ H Q uu6=>by
  obtain⟨O,δ,Qd,w,⟨kd,e,ss,ek,h64,q⟩,k⟩:=uu6;obtain⟨l,kv,h,a,b,c,r⟩:=w.ownK e;exact⟨.ref l,h,hc,l,kv,ss,rfl,.inl c,by rw [r.keys];exact ek,h64,λp hp=>k _ _ _ _ q (ao.refl _) hp (aj.ofStrs _)⟩
theorem Hh{i:Nat}{o e:Sd}{tk:DT}{pos:Pos}(hu:X.A.units+64 < SG)(ho:PE X o (c7 i))(he:DE X H0 O0 e tk)(hm:SD .In o=false:=by rfl):DE X H0 O0 (.Compare e [.In] [o] pos) (ja false i tk):=DU (Ai hu ho he) hm
theorem Li{i:Nat}{o e:Sd}{tk:DT}{pos:Pos}(hu:X.A.units+64 < SG)(ho:PE X o (c7 i))(he:DE X H0 O0 e tk)(hm:SD .In o=false:=by rfl):PT X (.Compare e [.In] [o] pos) (bM X.K H0 O0 (gR (ja false i tk))):=
 (uO (Ai hu ho he) hm).imp λσ H Q uu7=>by obtain⟨O,δ,Qd,w,q,k⟩:=uu7;exact⟨O,δ,_,w,q,λd v H' uu8 s r=>by obtain⟨b,e,qb⟩:=uu8;subst e;cases r;exact⟨b,rfl,k b H' qb s⟩⟩
theorem Hi{i:Nat}{o e:Sd}{tk:DT}{pos:Pos}(hu:X.A.units+64 < SG)(ho:PE X o (c7 i))(he:DE X H0 O0 e tk)(hm:SD .NotIn o=false:=by rfl):PT X (.Compare e [.NotIn] [o] pos) (bM X.K H0 O0 (gR (ja true i tk))):=
 (uO (Hc hu ho he) hm).imp λσ H Q uu9=>by obtain⟨O,δ,Qd,w,q,k⟩:=uu9;exact⟨O,δ,_,w,q,λd v H' uu10 s r=>by obtain⟨b,e,qb⟩:=uu10;subst e;cases r;exact⟨b,rfl,k b H' qb s⟩⟩
end
section
theorem Ak{a:List (ah×R6)}{r:Dl}{P:List (ah×R6)->Prop}:(∃d,(some (Sl.k a)::r)[0]?=some (some (Sl.k d))/\P d)=P a:=R5
theorem Al{x:Option Sl}{r:Dl}{i:Nat}{P:List (ah×R6)->Prop}:(∃d,(x::r)[i+1]?=some (some (Sl.k d))/\P d)=(∃d,r[i]?=some (some (Sl.k d))/\P d):=R5
theorem Am{a:List (ah×R6)}{l:Dl}{i:Nat}{P:List (ah×R6)->Prop}:(∃d,(l.set i (some (Sl.k a)))[i]?=some (some (Sl.k d))/\P d)=(i < l.length/\P a):=by
 apply propext;rw [List.getElem?_set_self'];constructor
 ·rintro⟨d,e,p⟩;by_cases h:i < l.length
  ·rw [LG h] at e;cases e;exact⟨h,p⟩
  ·rw [NT R0] at e;cases e
 ·rintro⟨h,p⟩;exact⟨a,by rw [LG h];rfl,p⟩
theorem An{x:Option Sl}{l:Dl}{i j:Nat}{P:List (ah×R6)->Prop}(h:i≠j):(∃d,(l.set i x)[j]?=some (some (Sl.k d))/\P d)=(∃d,l[j]?=some (some (Sl.k d))/\P d):=by rw [Ma h]
theorem Ao{x:Str}{P:ah->Prop}:(∃k,Lp x=fS k/\P k)=P (.inr x):=propext ⟨λuu11=>by obtain⟨k,e,p⟩:=uu11;cases k with | inl i=>cases e | inr y=>cases e;exact p,λp=>⟨_,rfl,p⟩⟩
end
def iw:R6->Bool
 | .none=>true
 | _=>false
def rP:R6->R6->(R6->Prop)->Prop:=λx y Q=>y= .none/\Q (.bool (iw x))
theorem Sh.isN{K:Ll}{H:Hp}{O:Ex}{x:V}{d:R6}(h:Sh K H O x d):decide (x= .non)=iw d:=by
 cases h with
 | dt h=>cases h <;> simp [iw]
 | _=>simp [iw]
theorem Ap{K:Ll}:cv K (λx y H Q=>y= .non/\Q (.bl (decide (x= .non))) H) rP:=λH O x y dx dy Qd R _ hx hy uu12 k=>by
 obtain⟨e,q⟩:=uu12;subst e;refine⟨hy.non,?_⟩;rw [hx.isN];exact k _ _ H q (ao.refl _) (.bl _)
def rQ:R6->R6->(R6->Prop)->Prop:=λx y Q=>∃ds i d,x=eI ds/\y= .int i/\atI ds i=some d/\Q d
theorem Hj{K:Ll}:cv K (lW K) rQ:=λH O x y dx dy Qd R _ hx hy uu13 k=>by
 obtain⟨ds,i,d,e1,e2,e3,q⟩:=uu13;subst e1 e2;obtain⟨a,vs,rfl,hs,r⟩:=hx.scr;cases hy.int;obtain⟨v,hv,rv⟩:=r.atI e3;exact⟨a,vs,i,v,rfl,rfl,hs,hv,k d v H q (ao.refl _) rv⟩
section
variable {X:Cx} {H0:Hp} {O0:Ex}
def rR(t:DT)(tl th:DO):DA:=λδ Q=>t δ λd=>tl δ λl=>th δ λu=>∃xs,d=eI xs/\Q (cz xs l u)
theorem Hk{e:Sd}{lo hi:Option Sd}{t:DT}{tl th:DO}{pos p2:Pos}(h:DF X H0 O0 e t)(hl:PO X lo (fO X.K H0 O0 tl))(hu:PO X hi (fO X.K H0 O0 th)):FE X H0 O0 (.Subscript e (.Slice lo hi none p2) pos) (rR t tl th):=
 (lV wg h hl hu).imp λσ H Q uu14=>by obtain⟨O,δ,Qd,w,q,k⟩:=uu14;exact⟨O,δ,_,w,q,λd v H1 q1 s1 r1=>⟨O,δ,_,w.mono s1,q1,λl H2 q2 s2=>⟨O,δ,_,w.mono (s1.trans s2),q2,λu H3 uu15 s3=>by
  obtain⟨xs,e,q3⟩:=uu15;subst e;obtain⟨a,vs,rfl,h1,d1⟩:=(r1.mono (s2.trans s3)).scr;exact⟨a,vs,rfl,h1,λp hp=>k _ _ _ _ q3 (s1.trans (s2.trans s3)) hp (d1.cut l u)⟩⟩⟩⟩
end
structure Rw where
 w:Str
 n:Int
 nm:Str
 r:List R6
def Rw.enc(x:Rw):R6:= .tuple (.str x.w:: .int x.n:: .str x.nm::x.r)
def ck(ws:List Str)(day:Int)(x:Rw):Prop:=x.w∈ws/\x.n<=day
instance {ws:List Str} {day:Int} {x:Rw}:Decidable (ck ws day x):=by unfold ck;infer_instance
abbrev Ls:=List (Str×Rw)
def fz(L:Ls):List (ah×R6):=L.map λp=>(.inr p.1,p.2.enc)
def cW(L:Ls)(nm:Str):Option Rw:=(L.find? λp=>decide (p.1=nm)).map (·.2)
def mT(L:Ls)(nm:Str)(x:Rw):Ls:=if (L.any λp=>decide (p.1=nm))=true then L.map (λp=>if p.1=nm then(p.1,x) else p) else L++[(nm,x)]
theorem mU{a b:Str}:((Mi a:ah)=Mi b)↔a=b:=⟨λh=>by cases h;rfl,λh=>by rw [h]⟩
theorem rS(nm:Str):∀L:Ls,bV (fz L) (.inr nm)=(cW L nm).map Rw.enc
 | []=>rfl
 | p::L=>by
  have ih:=rS nm L;unfold bV cW fz at*;by_cases h:p.1=nm
  ·simp [MV,h]
  ·have h':¬((Mi p.1:ah)=Mi nm):=λz=>h (mU.mp z);simp only [Lq,MV,decide_eq_false h,decide_eq_false h'];exact ih
theorem Aq(L:Ls)(nm:Str)(x:Rw):cN (fz L) (.inr nm) x.enc=fz (mT L nm x):=by
 have ha:(fz L).any (λp=>decide (p.1=(Mi nm:ah)))=L.any λp=>decide (p.1=nm):=by
  unfold fz;rw [Po];congr 1;funext p;simp only [NF,mU]
 unfold cN mT;rw [ha];split
 ·unfold fz;rw [LH,LH];apply List.map_congr_left;intro p _;simp only [NF,mU];split <;> rfl
 ·unfold fz;simp
structure cX (ws:List Str) (day:Int) (xs:List Rw) (L:Ls):Prop where
 nd:(L.map (·.1)).Nodup
 it:∀p∈L,p.1=p.2.nm/\p.2∈xs/\ck ws day p.2/\∀y∈xs,ck ws day y->y.nm=p.1->y.n<=p.2.n
 al:∀y∈xs,ck ws day y->∃p∈L,p.1=y.nm
 le:L.length<=xs.length
theorem cX.nil(ws:List Str)(day:Int):cX ws day [] []:=⟨List.nodup_nil,(λp h=>by cases h),(λp h=>by cases h),Lr _⟩
theorem mV{L:Ls}{nm:Str}{y:Rw}(h:cW L nm=some y):∃p∈L,p.1=nm/\p.2=y:=by
 unfold cW at h;cases e:L.find? (λp=>decide (p.1=nm)) with
 | none=>rw [e] at h;cases h
 | some p=>
  rw [e] at h;cases h;exact⟨p,Pf e,by simpa using List.find?_some e,rfl⟩
theorem Ar{L:Ls}{nm:Str}(h:cW L nm=none):∀p∈L,p.1≠nm:=by
 intro p hp e;unfold cW at h;rw [Option.map_eq_none_iff,List.find?_eq_none] at h;exact h p hp (by simpa using e)
section
variable {ws:List Str} {day:Int} {xs:List Rw} {L:Ls} {x:Rw}
theorem cX.skip(h:cX ws day xs L)(hx:¬ck ws day x):cX ws day (xs++[x]) L:=by
 refine⟨h.nd,λp hp=>?_,λy hy ho=>?_,by have:=h.le;simp;omega⟩
 ·obtain⟨a,b,c,d⟩:=h.it p hp;refine⟨a,by simp [b],c,λy hy ho e=>?_⟩;rcases LI.mp hy with z | z
  ·exact d y z ho e
  ·rw [LX] at z;subst z;exact absurd ho hx
 ·rcases LI.mp hy with z | z
  ·exact h.al y z ho
  ·rw [LX] at z;subst z;exact absurd ho hx
theorem cX.keep(h:cX ws day xs L){y0:Rw}(hl:cW L x.nm=some y0)(hn:¬y0.n < x.n):cX ws day (xs++[x]) L:=by
 obtain⟨p0,hp0,e0,rfl⟩:=mV hl;have uq:∀p∈L,p.1=x.nm->p=p0:=λp hp e=>by
  have nd:=h.nd;clear h hl hn
  induction L with
  | nil=>cases hp
  | cons q L ih=>
   rw [Lq,MO] at nd;rcases LF.mp hp with a | a <;> rcases LF.mp hp0 with b | b
   ·rw [a,b]
   ·exact absurd (Lv.mpr ⟨p0,b,by rw [e0,<-e,a]⟩) nd.1
   ·exact absurd (Lv.mpr ⟨p,a,by rw [e,<-e0,b]⟩) nd.1
   ·exact ih b a nd.2
 refine⟨h.nd,λp hp=>?_,λy hy ho=>?_,by have:=h.le;simp;omega⟩
 ·obtain⟨a,b,c,d⟩:=h.it p hp;refine⟨a,by simp [b],c,λy hy ho e=>?_⟩;rcases LI.mp hy with z | z
  ·exact d y z ho e
  ·rw [LX] at z;subst z;rw [uq p hp e.symm];omega
 ·rcases LI.mp hy with z | z
  ·exact h.al y z ho
  ·rw [LX] at z;subst z;exact⟨p0,hp0,e0⟩
theorem cX.put(h:cX ws day xs L)(ho:ck ws day x)(hl:∀y,cW L x.nm=some y->y.n < x.n):cX ws day (xs++[x]) (mT L x.nm x):=by
 unfold mT;split
 ·rename_i ha;obtain⟨p0,hp0,e0⟩:=MQ.mp ha;have e0:p0.1=x.nm:=of_decide_eq_true e0;have hmx:∀y∈xs,ck ws day y->y.nm=x.nm->y.n<=x.n:=λy hy ho' e=>by
   cases hk:cW L x.nm with
   | none=>exact absurd e0 (Ar hk p0 hp0)
   | some z=>
    obtain⟨p,hp,ep,rfl⟩:=mV hk;have:=(h.it p hp).2.2.2 y hy ho' (by rw [ep];exact e);have:=hl _ hk;omega
  refine⟨?_,λp hp=>?_,λy hy ho'=>?_,by have:=h.le;simp;omega⟩
  ·rw [LH,show((λp:Str×Rw=>p.1)∘ λp=>if p.1=x.nm then(p.1,x) else p)=λp=>p.1 by funext p;simp only [NF];split <;> rfl];exact h.nd
  ·obtain⟨q,hq,rfl⟩:=Lv.mp hp;by_cases z:q.1=x.nm
   ·rw [R3 z];refine⟨z,R5,ho,λy hy ho' e=>?_⟩;rcases LI.mp hy with m | m
    ·exact hmx y m ho' (by rw [e];exact z)
    ·rw [LX] at m;subst m;exact RR _
   ·rw [R1 z];obtain⟨a,b,c,d⟩:=h.it q hq;refine⟨a,by simp [b],c,λy hy ho' e=>?_⟩;rcases LI.mp hy with m | m
    ·exact d y m ho' e
    ·rw [LX] at m;subst m;exact absurd e.symm z
  ·rcases LI.mp hy with m | m
   ·obtain⟨p,hp,e⟩:=h.al y m ho';refine⟨_,Lv.mpr ⟨p,hp,rfl⟩,?_⟩;split <;> exact e
   ·rw [LX] at m;subst m;refine⟨_,Lv.mpr ⟨p0,hp0,rfl⟩,?_⟩;rw [R3 e0];exact e0
 ·rename_i ha;have hno:∀p∈L,p.1≠x.nm:=λp hp e=>ha (MQ.mpr ⟨p,hp,decide_eq_true e⟩);refine⟨?_,λp hp=>?_,λy hy ho'=>?_,by have:=h.le;simp;omega⟩
  ·rw [LS];refine Nw.mpr ⟨h.nd,R5,λa ha' b hb=>?_⟩;simp only [Lq,Mp,LX] at hb;obtain⟨p,hp,rfl⟩:=Lv.mp ha';rw [hb];exact hno p hp
  ·rcases LI.mp hp with m | m
   ·obtain⟨a,b,c,d⟩:=h.it p m;refine⟨a,by simp [b],c,λy hy ho' e=>?_⟩;rcases LI.mp hy with z | z
    ·exact d y z ho' e
    ·rw [LX] at z;subst z;exact absurd e.symm (hno p m)
   ·rw [LX] at m;subst m;refine⟨rfl,R5,ho,λy hy ho' e=>?_⟩;rcases LI.mp hy with z | z
    ·obtain⟨p,hp,e'⟩:=h.al y z ho';exact absurd (e'.trans e) (hno p hp)
    ·rw [LX] at z;subst z;exact RR _
  ·rcases LI.mp hy with m | m
   ·obtain⟨p,hp,e⟩:=h.al y m ho';exact⟨p,by simp [hp],e⟩
   ·rw [LX] at m;subst m;exact⟨(y.nm,y),R5,rfl⟩
end
structure fj (ws:List Str) (day:Int) (xs res:List Rw):Prop where
 up:(res.map (·.nm)).Pairwise λa b=>cH a b=true
 nd:(res.map (·.nm)).Nodup
 it:∀x∈res,x∈xs/\ck ws day x/\∀y∈xs,ck ws day y->y.nm=x.nm->y.n<=x.n
 al:∀y∈xs,ck ws day y->∃x∈res,x.nm=y.nm
 le:res.length<=xs.length
theorem rT{L:Ls}{nm:Str}(h:nm∈L.map (·.1)):∃x,cW L nm=some x:=by
 cases e:cW L nm with
 | some x=>exact⟨x,rfl⟩
 | none=>
  obtain⟨p,hp,e'⟩:=Lv.mp h;exact absurd e' (Ar e p hp)
def mW(L:Ls):List Rw:=(cM (L.map (·.1))).filterMap (cW L)
theorem Hl{ws:List Str}{day:Int}{xs:List Rw}{L:Ls}(h:cX ws day xs L):(mW L).map (·.nm)=cM (L.map (·.1)):=by
 unfold mW;have key:∀l:List Str,(∀a∈l,a∈L.map (·.1))->(l.filterMap (cW L)).map (·.nm)=l:=by
  intro l
  induction l with
  | nil=>intro _;rfl
  | cons a l ih=>
   intro hl;obtain⟨x,hx⟩:=rT (hl a R5);obtain⟨p,hp,e,rfl⟩:=mV hx;rw [Nk,hx];show p.2.nm::_=_;rw [ih λb hb=>hl b (by simp [hb]),<-(h.it p hp).1,e]
 exact key _ λa ha=>(fg _).mem_iff.mp ha
theorem cX.res{ws:List Str}{day:Int}{xs:List Rw}{L:Ls}(h:cX ws day xs L):fj ws day xs (mW L):=by
 have hn:=Hl h;refine⟨by rw [hn];exact xw _,by rw [hn];exact(fg _).nodup_iff.mpr h.nd,λx hx=>?_,λy hy ho=>?_,by rw [<-Lm (f:=λx:Rw=>x.nm),hn,(fg _).length_eq,Lm];exact h.le⟩
 ·obtain⟨a,ha,e⟩:=NJ.mp hx;obtain⟨p,hp,e1,rfl⟩:=mV e;obtain⟨b1,b2,b3,b4⟩:=h.it p hp;exact⟨b2,b3,λy hy ho e=>b4 y hy ho (by rw [b1];exact e)⟩
 ·obtain⟨p,hp,e⟩:=h.al y hy ho;have:p.1∈(mW L).map (·.nm):=by rw [hn];exact(fg _).mem_iff.mpr (Lv.mpr ⟨p,hp,rfl⟩)
  obtain⟨x,hx,e'⟩:=Lv.mp this;exact⟨x,hx,e'.trans e⟩
section
variable {X:Cx} {H0:Hp} {O0:Ex}
def rV(i:Nat)(t:DA):DS:=λE δ=>∃ds,δ[i]?=some (some (.o ds))/\t δ λes=>ds.length+es.length<=Sb/\E.nx (δ.set i (some (.o (ds++es))))
theorem Hm{i:Nat}{o e:Sd}{t:DA}{apos cpos pos:Pos}(ho:PE X o (c7 i))(he:FE X H0 O0 e t)(hbase:SJ o "extend" X.env (eval o X.env)=eval o X.env:=by rfl)
 (hfew:((Sy cpos (Se [e] X.env)).all (λx=>!x.1) && (Ti cpos (S4 [] X.env)).all (λx=>x.1.isSome) && decide ([e].length+([]:List SS).length+(if ([]:List SS).isEmpty then 0 else 1) < 30))=true:=by rfl)
 (hline:(apos.endLine==cpos.line)=true:=by rfl)(hst:Se [e] X.env=(false,eval e X.env)::Se [] X.env:=by rfl)(hplain:(Sy cpos (Se [] X.env)).any (·.1)=false:=by rfl)
 (hs:Sx (.Call (.Attribute o "extend" apos) [e] [] cpos) none pos.line X.env=pure false:=by rfl):PS X (.Expr (.Call (.Attribute o "extend" apos) [e] [] cpos) pos) (bx X.K H0 O0 (rV i t)):=
 (j3 (km NC Ob Pq E6 ho (bw he bX hst) hbase hfew hline hst hplain) hs).imp λD σ H uu16=>by
  obtain⟨O,δ,E,w,⟨ds,e,q⟩,k1,k2,k3,k4⟩:=uu16;obtain⟨l,vs,h,a,b,c,r⟩:=w.own e;refine⟨_,h,.inl ⟨rfl,_,aN.of c⟩,O,δ,_,w,q,λes ws p H1 q1 s1 hp r1=>?_⟩;have hl:H1 l=some (.lst vs):=s1 _ _ c;have np:l≠p:=λz=>by rw [z,hp] at hl;cases hl
  have S2:ao H1 (ak H1 p (.lst ws)):=ao.new hp;refine⟨l,p,vs,ws,rfl,rfl,by rw [aD np];exact hl,bb,by rw [r.length,r1.length];exact q1.1,?_⟩;exact k1 _ _ _ _ q1.2 (((w.mono s1).mono S2).putO (vs:=vs) e h (((r.mono s1).mono S2).append (r1.mono S2))) ⟨λb' o' z n=>by rw [aD (λy=>n (by rw [y];exact a))];exact S2 _ _ (s1 _ _ z),λ_ _ n=>n⟩
end
theorem As:∀{ns:List Int}{us:List R7},aA (ns.map V.int) us->IntsAre us ns
 | [],_,r=>by rw [Mp] at r;cases r;exact .nil
 | n::ns,_,r=>by
  rw [Lq] at r;cases r with
  | cons r1 r2=>obtain⟨t,rfl⟩:=r1;exact .cons n t (As r2)
theorem Au{X:Cx}(hc:X.calm=true):cO X (.builtin "max") (λxs H Q=>∃(p:R8)(ns:List Int),xs=[.ref p]/\aN X.K H p (ns.map V.int)/\ns≠[]/\∀M,M∈ns->(∀a∈ns,a<=M)->Q (.int M) H):=by
 intro TR s σ H xs us Q I r h;obtain⟨p,ns,rfl,hq,hne,q⟩:=h;obtain⟨u,rfl,rx⟩:=cP r;cases rx;obtain⟨its,rv,pl,hz⟩:=I.list hq;have hi:=As rv;obtain⟨zs,e⟩:=hi.allInts.items;have hns:ns=zs.toList.map (·.1):=by rw [<-hi.numsOf,<-nums_intItems,<-e]
 have h0:0 < zs.size:=by
  rcases Nat.eq_zero_or_pos zs.size with z | z
  ·exact absurd (by rw [hns];simp [Array.size_eq_zero_iff.mp z]) hne
  ·exact z
 have hl:=pl.isList;rw [e] at hl;refine max_intList (I.ok.hd hc) hl h0 λv h' tk hv hk=>?_;obtain⟨t,rfl⟩:=intItems_at hv;obtain⟨h1,h2⟩:=argBest_gt (numAt zs) (zs.size - 1);refine⟨.int _,H,I.kept (t':=tk) hk,⟨t,rfl⟩,q _ ?_ λa ha=>?_⟩
 ·rw [hns,numAt_eq];exact getD_mem (by rw [Lm,LR];omega)
 ·rw [hns] at ha;obtain⟨j,hj,rfl⟩:=mem_getD ha;rw [Lm,LR] at hj;rw [<-numAt_eq];exact h2 j R0
theorem aj.intsL{K:Ll}{H:Hp}{O:Ex}:∀{ns:List Int}{vs:List V},aj K H O vs (ns.map Ly)->vs=ns.map V.int
 | [],_,r=>by rw [Mp] at r;cases r;rfl
 | b::bs,_,r=>by
  rw [Lq] at r;cases r with
  | cons h r=>cases h;rw [Lq,aj.intsL r]
def rW:List R6->(R6->Prop)->Prop:=λds Q=>∃ns:List Int,ds=[.list (ns.map .int)]/\ns≠[]/\∀M,M∈ns->(∀a∈ns,a<=M)->Q (.int M)
theorem Av{K:Ll}:gw K (λxs H Q=>∃(p:R8)(ns:List Int),xs=[.ref p]/\aN K H p (ns.map V.int)/\ns≠[]/\∀M,M∈ns->(∀a∈ns,a<=M)->Q (.int M) H) rW:=λH O xs ds Qd R tr hs uu17 k=>by
 obtain⟨ns,e,hne,q⟩:=uu17;subst e;cases hs with
 | cons h r=>
  cases r;obtain⟨a,vs,rfl,h1,d1⟩:=h.lst;cases d1.intsL;exact⟨a,ns,rfl,h1,hne,λM m1 m2=>k _ _ H (q M m1 m2) (ao.refl _) (.int _)⟩
def rX(o:Obj)(a:R8)(kv:List (ah×V)):It:=⟨λi H=>i < kv.length/\H a=some (.frz o (.dK kv)),λi H x H'=>H'=H/\∃p,kv[i]?=some p/\x=kV p.1,λi H=>kv.length<=i/\H a=some (.frz o (.dK kv))⟩
theorem Aw{P:Sk}{w:Sm}{H:Hp}{h:Sn}{a:R8}{o:Obj}{es:Array S9}{ep:Nat}{kv:List (ah×V)}(ok:bL P w H h)(e:H a=some (.frz o (.dK kv)))(d:o.data= .dict es ep):
 (a==SN)=false/\∃vs,KV kv vs/\h.DictAt (bT P w) a vs ep:=by
 obtain⟨h1,_,hd,vs,rel,o',es',ep',g,r1,r2,r3⟩:=ok a _ e;rw [h1] at g;cases g;rw [d] at r2;cases r2;exact⟨hd,vs,rel,o,es,h1,r1,d,r3⟩
theorem KV.len{kv:List (ah×V)}{vs:List (ah×R7)}(r:KV kv vs):vs.length=kv.length:=r.length.symm
theorem Hn{P:Sk}{w:Sm}{K:Ll}{tg:Sd}(it a:R8)(o:Obj)(es:Array S9)(ep:Nat)(kv:List (ah×V))(d:o.data= .dict es ep):jn P w K tg (rX o a kv) [it] it (λi h=>h.IsKeyIter it a i kv.length ep) where
 mem:=R5
 obj:=λi h st b hb=>by
  have e:b=it:=by simpa using hb
  subst e;obtain⟨o,e,c,d⟩:=st;exact⟨o,e,λv z=>by rw [d] at z;cases z⟩
 keep:=λi h h' st k=>st.at λo e=>k it R5 o e
 item:=by
  intro X hP hw hK hc i TR s σ H E I hf st hg;subst hP hw hK;obtain⟨hi,ha⟩:=hg;obtain⟨hd,vs,rel,da⟩:=Aw I.hok ha d;have hlen:=rel.len;obtain⟨f0,f1,f2,f3,f4,f5⟩:=hf it R5;obtain⟨⟨k0,v0⟩,hx⟩:∃p,vs[i]?=some p:=⟨vs[i]'R0,by simp [hlen,hi]⟩;refine wpAny_pyNext_dict_item (by rw [hlen];exact st) da hx λkey h' hkey st' sb=>?_;rw [hlen] at st';have I1:ae X TR σ H {s with heap:=h'}:=I.turned (t':=s.toks) (λb o hb e=>(sb.2 b hb).trans e) f0 f1 f3 f4 f5;obtain⟨u,e,c,dd⟩:=id st';have ek:(kv[i]'hi).1=k0:=by
   have z:=congrArg (λl:List ah=>l[i]?) rel.keys;simp only [LD,hx] at z;simpa [hi] using z
  refine⟨key,rfl,j6 (s:={s with heap:=h'}) e c dd RZ ⟨kV (kv[i]'hi).1,H,I1,?_,⟨rfl,_,by simp [hi],rfl⟩,st',λb hb=>(hf b hb).1⟩⟩;rw [ek];rcases fG (k:=k0) (v:=key) hkey with⟨j,t,e1,e2⟩ | ⟨j,t,e1,e2⟩
  ·rw [e1,e2];exact⟨t,rfl⟩
  ·rw [e1,e2];exact⟨t,rfl⟩
 done:=by
  intro X hP hw hK hc i TR s σ H E I hf st hg;subst hP hw hK;obtain⟨hi,ha⟩:=hg;obtain⟨hd,vs,rel,da⟩:=Aw I.hok ha d;have hlen:=rel.len;obtain⟨f0,f1,f2,f3,f4,f5⟩:=hf it R5;refine wpAny_pyNext_dict_end (I.ok.hd hc) (by rw [hlen];exact st) da (by simp [hlen,hi]) λh' he=>⟨rfl,?_⟩;exact I.turned (t':=s.toks) (λb o hb e=>he b o hb e) f0 f1 f3 f4 f5
 self:=λA i s Q E st h=>wpAny_pyIter_keyiter st h
theorem cf.dk{o:Obj}{a:R8}{kv:List (ah×V)}:cf (rX o a kv) (λH=>H a=some (.frz o (.dK kv))) (kv.map λp=>kV p.1):=by
 refine⟨λi H' s hi=>⟨by simpa using hi,s⟩,λi H' x H'' s hi y=>⟨y.1,?_⟩,λi H' s hi=>⟨by simpa using hi,s⟩⟩;obtain⟨_,p,hp,rfl⟩:=y;simp [hp]
def kM:List (DT×DT)->Dl->(List (R6×R6)->Prop)->Prop
 | [],_,Q=>Q []
 | (a,b)::r,δ,Q=>a δ λx=>b δ λy=>kM r δ λps=>Q ((x,y)::ps)
inductive ix (K:Ll) (H:Hp) (O:Ex):List (V×V)->List (R6×R6)->Prop
 | nil:ix K H O [] []
 | cons {a b:V} {x y:R6} {r s}:Dt K H O a x->Dt K H O b y->ix K H O r s->ix K H O ((a,b)::r) ((x,y)::s)
theorem Ax{K:Ll}{H0:Hp}{O0 O:Ex}{σ:St}{δ:Dl}:∀(trs:List (DT×DT)){H:Hp}{Qd:List (R6×R6)->Prop}{R:List (V×V)->Hp->Prop},Wd K H0 O0 H O σ δ->kM trs δ Qd->(∀ds vs H',Qd ds->ao H H'->ix K H' O vs ds->R vs H')->mK (trs.map λp=>(up K H0 O0 p.1,up K H0 O0 p.2)) σ H R
 | [],H,Qd,R,w,q,k=>k [] [] H q (ao.refl _) .nil
 | (a,b)::r,H,Qd,R,w,q,k=>by
  refine⟨O,δ,_,w,q,λx v H1 q1 s1 r1=>⟨O,δ,_,w.mono s1,q1,λy u H2 q2 s2 r2=>?_⟩⟩;exact Ax r ((w.mono s1).mono s2) q2 λds vs H3 q3 s3 r3=>k _ _ H3 q3 ((s1.trans s2).trans s3) (.cons (r1.mono (s2.trans s3)) (r2.mono s3) r3)
theorem Dt.free{K:Ll}{H H':Hp}{O O':Ex}{v:V}{d:R6}(h:Dt K H O v d)(s:kn d=true):Dt K H' O' v d:=by
 cases h <;> first | exact .non | exact .bl _ | exact .int _ | exact .str _ | cases s
theorem ix.kd{K:Ll}{H H':Hp}{O:Ex}:∀{kd:List (ah×R6)}{ps:List (V×V)},ix K H O ps (kd.map λp=>(fS p.1,p.2))->(∀p∈kd,kn p.2=true)->∃kv:List (ah×V),ps=kv.map (λp=>(kV p.1,p.2))/\bo K H' O kv kd
 | [],_,h,_=>by cases h;exact⟨[],rfl,.nil⟩
 | p::kd,_,h,sc=>by
  cases h with
  | cons a b r=>
   obtain⟨kv,e,k⟩:=ix.kd r λq hq=>sc q (L0 _ hq);have:=a.key;exact⟨(p.1,_)::kv,by rw [e,this];rfl,.cons (b.free (sc p L9)) k⟩
theorem bo.merge{K:Ll}{H:Hp}{O:Ex}{more:List (ah×V)}{md:List (ah×R6)}(h:bo K H O more md):∀{kv:List (ah×V)}{kd:List (ah×R6)},bo K H O kv kd->bo K H O (fR kv more) (md.foldl (λa p=>cN a p.1 p.2) kd):=by
 induction h with
 | nil=>intro kv kd r;exact r
 | cons a _ ih=>intro kv kd r;exact ih (r.put _ a)
section
variable {X:Cx} {H0:Hp} {O0:Ex}
def rY(trs:List (DT×DT)):g5:=λδ Q=>kM trs δ λps=>∃kd:List (ah×R6),ps=kd.map (λp=>(fS p.1,p.2))/\kd.length<=15/\(∀p∈kd,kn p.2=true)/\Q (kd.foldl (λa p=>cN a p.1 p.2) [])
def mX(X:Cx)(H0:Hp)(O0:Ex)(pos:Pos)(keys:List (Option Sd))(values:List Sd)(trs:List (DT×DT)):Prop:=kI X pos keys values (trs.map λp=>(up X.K H0 O0 p.1,up X.K H0 O0 p.2))
theorem Ay{pos:Pos}:mX X H0 O0 pos [] [] []:=Gx
theorem kN{pos:Pos}{k v:Sd}{ks:List (Option Sd)}{vs:List Sd}{tk tv:DT}{trs:List (DT×DT)}(hk:DE X H0 O0 k tk)(hv:DE X H0 O0 v tv)(hr:mX X H0 O0 pos ks vs trs):mX X H0 O0 pos (some k::ks) (v::vs) ((tk,tv)::trs):=Gy hk hv hr
theorem Az{pos:Pos}{keys:List (Option Sd)}{values:List Sd}{trs:List (DT×DT)}(h:mX X H0 O0 pos keys values trs)(hall:keys.all (·.isSome)=true:=by rfl)(hl:keys.length=values.length:=by rfl)(h0:keys≠[]:=by exact List.cons_ne_nil _ _)(h15:keys.length<=15:=by exact Nat.le_of_ble_eq_true rfl):KE X H0 O0 (.Dict keys values pos) (rY trs):=
 (GA h hall hl h0 h15).imp λσ H Q ⟨O,δ,Qd,w,q,k⟩=>λp hp=>by
  refine Ax trs (w.mono (ao.new hp)) q λds vs H2 ⟨kd,e,n,sc,q2⟩ s2 r2=>?_;subst e;have hp2:H2 p=some (.dK []):=s2 _ _ bb;obtain⟨kv,e,r⟩:=ix.kd (H':=λb=>if b=p then none else H2 b) r2 sc;refine⟨hp2,kv,e,by rw [r.length];exact n,?_⟩;have eu:ak H2 p (.dK (fR [] kv))=ak (λb=>if b=p then none else H2 b) p (.dK (fR [] kv)):=by
   funext b;unfold ak;split
   ·rfl
   ·rename_i hb;exact(R1 hb).symm
  rw [eu];refine k _ _ p _ q2 (λb o z=>?_) (R3 rfl) (r.merge .nil);have:b≠p:=λy=>by rw [y,hp] at z;cases z
  show(if b=p then none else H2 b)=some o;rw [R1 this];exact s2 _ _ (by rw [aD this];exact z)
theorem AA{N':List Str}{k:Nat}{fr:List Nat}{scope:SH}{iter elt tg:Sd}{ifs:List Sd}{t te:DT}{tc:DB}{g:TG}{dg:DG}{pos:Pos}(hc:X.calm=true)(S:aY X.env.scope X.N N' k fr scope)(hi:DF X H0 O0 iter t)(gd:GD X.K g dg)(hk:fw g k)(hfr:fr.Nodup)
 (hg:∀fp C s H,PG (bh X scope N' fp C s H) tg g)(hf:∀fp C s H,dj (bh X scope N' fp C s H) ifs (bM X.K H0 O0 tc))(he:∀fp C s H,PE (bh X scope N' fp C s H) elt (up X.K H0 O0 te))
 (hs:∀x,Su iter X.env x=pure x:=by intro _;rfl):PU X (.ListComp elt [⟨tg,iter,ifs,0⟩] scope pos) (jz X.K H0 O0 (kB t dg tc te k fr)):=
 (q5 hc S (oR hi) hg hf he hs).imp λσ H Q uu20=>by obtain⟨O,δ,Qd,w,q,kk⟩:=uu20;exact⟨O,δ,_,w,q,λd v H1 uu21 s1 r1=>by
  obtain⟨xs,e,hz,q1⟩:=uu21;subst e;obtain⟨a,vs,rfl,hq,rr⟩:=r1.tup;refine⟨a,rfl,⟨_,hq⟩,λD hD=>gY (cf.tup hq) gd hfr (λv _ H' R h=>hk fr σ v H' R h) (λ_ _ _ z=>z) (λ_ _ _ z=>z) (λD H' hD s' o e=>s' _ _ e (cE e hD)) rr (w.mono s1) (by rw [rr.length];exact hz) q1 (λds us p H' z s' hp r'=>kk ds us p H' z (s1.trans s') hp r') D hD⟩⟩
end
structure jH (n:Nat) (lt:Nat->Nat->Bool) (I:R9->Prop) (cmp:Nat->Nat->(Bool->R9->Prop)->R9->Prop):Prop where
 as:∀i j C s,i < n->j < n->i≠j->I s->(∀s',I s'->C (lt i j) s')->cmp i j C s
structure fT (n:Nat) (lt:Nat->Nat->Bool):Prop where
 tot:∀i j,i < n->j < n->i≠j->lt i j=!lt j i
 tr:∀i j k,i < n->j < n->k < n->lt i j=true->lt j k=true->lt i k=true
structure bI (n:Nat) (p:Array Nat):Prop where
 perm:p.toList.Perm (Mv n)
theorem bI.size{n:Nat}{p:Array Nat}(h:bI n p):p.size=n:=by rw [<-LR,h.perm.length_eq,Oj]
theorem bI.lt{n:Nat}{p:Array Nat}(h:bI n p){k:Nat}(hk:k < n):p.getD k 0 < n:=by
 have hs:=h.size;have e:p.getD k 0=p[k]'R0:=by simp [NN,show k < p.size by omega]
 rw [e];have:=h.perm.mem_iff.mp (Qf.mpr (Array.getElem_mem (show k < p.size by omega)));simpa using this
theorem bI.ne{n:Nat}{p:Array Nat}(h:bI n p){i j:Nat}(hi:i < n)(hj:j < n)(hij:i≠j):p.getD i 0≠p.getD j 0:=by
 have hs:=h.size;have nd:p.toList.Nodup:=h.perm.nodup_iff.mpr List.nodup_range;have ei:p.getD i 0=p.toList[i]'(by simp;omega):=by simp [NN,show i < p.size by omega]
 have ej:p.getD j 0=p.toList[j]'(by simp;omega):=by simp [NN,show j < p.size by omega]
 rw [ei,ej];intro e;exact hij ((NW nd).mp e)
theorem bI.bubble{n:Nat}{p:Array Nat}(h:bI n p)(a d:Nat):bI n (OO p a d):=⟨(O5.mp (bubble_perm p a d)).trans h.perm⟩
theorem bI.rev{n:Nat}{p:Array Nat}(h:bI n p)(i j:Nat):bI n (kas_rev p i j):=⟨(O5.mp (mirror_perm p i j _)).trans h.perm⟩
theorem mY(n:Nat):bI n (OL (Mv n)):=⟨R5⟩
def Up(lt:Nat->Nat->Bool)(p:Array Nat)(k:Nat):Prop:=∀i j,i < j->j < k->lt (p.getD i 0) (p.getD j 0)=true
section
variable {n:Nat} {lt:Nat->Nat->Bool} {I:R9->Prop} {cmp:Nat->Nat->(Bool->R9->Prop)->R9->Prop}
theorem Up.snoc(T:fT n lt){p:Array Nat}(hp:bI n p){k:Nat}(hk:k < n)(h:Up lt p k)(h0:0 < k)(hl:lt (p.getD (k - 1) 0) (p.getD k 0)=true):Up lt p (k+1):=by
 intro i j hij hj;rcases NS j k with z | z
 ·exact h i j hij z
 ·have:j=k:=R0
  subst this;rcases NS i (j - 1) with w | w
  ·exact T.tr _ _ _ (hp.lt R0) (hp.lt R0) (hp.lt hk) (h i (j - 1) w R0) hl
  ·have:i=j - 1:=R0
   subst this;exact hl
theorem rZ(A:jH n lt I cmp)(T:fT n lt){p:Array Nat}(hp:bI n p){Q:Nat->R9->Prop}:∀(f m:Nat)(s:R9),1<=m->m+f=n->Up lt p m->I s->
 (∀k s',I s'->m<=k->k<=n->Up lt p k->(k < n->lt (p.getD k 0) (p.getD (k - 1) 0)=true)->Q k s')->(kas_asc p f m).kasWp cmp Q s
 | 0,m,s,h1,hf,hu,hI,q=>q m s hI (Lr _) R0 hu (λz=>by omega)
 | f+1,m,s,h1,hf,hu,hI,q=>by
  have hm:m < n:=R0
  refine A.as _ _ _ s (hp.lt hm) (hp.lt R0) (hp.ne hm R0 R0) hI λs' hI'=>?_;cases hc:lt (p.getD m 0) (p.getD (m - 1) 0) with
  | true=>
   dsimp only;rw [R3 rfl];exact q m s' hI' (Lr _) R0 hu (λ_=>hc)
  | false=>
   dsimp only;rw [R1 R5];have hl:lt (p.getD (m - 1) 0) (p.getD m 0)=true:=by rw [T.tot _ _ (hp.lt R0) (hp.lt hm) (hp.ne R0 hm R0),hc];rfl
   exact rZ A T hp f (m+1) s' R0 R0 (hu.snoc T hp hm R0 hl) hI' λk s2 a b c d e=>q k s2 a R0 c d e
def Dn(lt:Nat->Nat->Bool)(p:Array Nat)(k:Nat):Prop:=∀i j,i < j->j < k->lt (p.getD j 0) (p.getD i 0)=true
theorem Dn.snoc(T:fT n lt){p:Array Nat}(hp:bI n p){k:Nat}(hk:k < n)(h:Dn lt p k)(h0:0 < k)(hl:lt (p.getD k 0) (p.getD (k - 1) 0)=true):Dn lt p (k+1):=by
 intro i j hij hj;rcases NS j k with z | z
 ·exact h i j hij z
 ·have:j=k:=R0
  subst this;rcases NS i (j - 1) with w | w
  ·exact T.tr _ _ _ (hp.lt hk) (hp.lt R0) (hp.lt R0) hl (h i (j - 1) w R0)
  ·have:i=j - 1:=R0
   subst this;exact hl
theorem AB(A:jH n lt I cmp)(T:fT n lt){p:Array Nat}(hp:bI n p){Q:Array Nat×Nat×Nat->R9->Prop}:∀(f m:Nat)(s:R9),1<=m->m+f=n->Dn lt p m->I s->
 (∀k s',I s'->m<=k->k<=n->Dn lt p k->Q (p,k,0) s')->(kas_desc f p m 0).kasWp cmp Q s
 | 0,m,s,h1,hf,hu,hI,q=>q m s hI (Lr _) R0 hu
 | f+1,m,s,h1,hf,hu,hI,q=>by
  have hm:m < n:=R0
  refine A.as _ _ _ s (hp.lt hm) (hp.lt R0) (hp.ne hm R0 R0) hI λs' hI'=>?_;cases hc:lt (p.getD m 0) (p.getD (m - 1) 0) with
  | true=>
   dsimp only;rw [R3 rfl,R1 R5];exact AB A T hp f (m+1) s' R0 R0 (hu.snoc T hp hm R0 hc) hI' λk s2 a b c d=>q k s2 a R0 c d
  | false=>
   dsimp only;rw [R1 R5];refine A.as _ _ _ s' (hp.lt R0) (hp.lt hm) (hp.ne R0 hm R0) hI' λs2 hI2=>?_;have hl:lt (p.getD (m - 1) 0) (p.getD m 0)=true:=by rw [T.tot _ _ (hp.lt R0) (hp.lt hm) (hp.ne R0 hm R0),hc];rfl
   rw [hl];dsimp only;rw [R3 rfl];exact q m s2 hI2 (Lr _) R0 hu
theorem AD{p:Array Nat}{j k:Nat}(hj:j<=p.size):(kas_rev p 0 j).getD k 0=if k < j then p.getD (j - 1 - k) 0 else p.getD k 0:=by
 have:=getElem?_mirror_all (xs:=p) (i:=0) (j:=j) hj k;unfold kas_rev;rw [MC,this];by_cases h:k < j
 ·simp [h,MC]
 ·simp [h,MC]
theorem Dn.rev{p:Array Nat}(hp:bI n p){k:Nat}(hk:k<=n)(h:Dn lt p k):Up lt (kas_rev p 0 k) k:=by
 intro i j hij hj;have hs:=hp.size;rw [AD R0,AD R0,R3 R0,R3 hj];exact h _ _ R0 R0
theorem Ho(A:jH n lt I cmp)(T:fT n lt)(h2:2<=n){p:Array Nat}(hp:bI n p){Q:Nat×Array Nat->R9->Prop}{s:R9}(hI:I s)
 (q:∀k p' s',I s'->1<=k->k<=n->bI n p'->Up lt p' k->Q (k,p') s'):(kas_count n p).kasWp cmp Q s:=by
 unfold kas_count;rw [N6];refine rZ A T hp (n - 1) 1 s (Lr _) R0 (λi j a b=>by omega) hI λm s1 hI1 m1 m2 hu hs=>?_;by_cases hm:m=n
 ·subst hm;rw [R3 R5];exact q m p s1 hI1 m1 (Lr _) hp hu
 ·rw [R1 (by simpa using hm)];by_cases hm1:m > 1
  ·rw [R3 hm1];refine A.as _ _ _ s1 (hp.lt R0) (hp.lt R0) (hp.ne R0 R0 R0) hI1 λs2 hI2=>?_;rw [hu 0 (m - 1) R0 R0];dsimp only;rw [R3 rfl];exact q m p s2 hI2 m1 R0 hp hu
  ·rw [R1 hm1];have:m=1:=R0
   subst this;have h10:=hs R0;unfold kas_descPart;rw [N6];refine AB A T hp (n - (1+1)) (1+1) s1 R0 R0 (λi j a b=>?_) hI1 λk s2 hI2 k1 k2 hd=>?_
   ·have:i=0:=R0
    have:j=1:=R0
    subst_vars
    exact h10
   ·rw [R1 R5];unfold kas_tail3;rw [N6];have hp':=hp.rev 0 k;refine rZ A T hp' (n - k) k s2 R0 R0 (hd.rev hp k2) hI2 λm s3 hI3 a b c d=>?_;exact q m _ s3 hI3 R0 b hp' c
theorem sd(A:jH n lt I cmp)(T:fT n lt){p:Array Nat}(hp:bI n p){k:Nat}(hk:k < n)(hu:Up lt p k){Q:Nat->R9->Prop}:∀(f l r:Nat)(s:R9),r - l<=f->l<=r->r<=k->I s->
 (∀i,i < l->lt (p.getD i 0) (p.getD k 0)=true)->(∀i,r<=i->i < k->lt (p.getD k 0) (p.getD i 0)=true)->
 (∀l s',I s'->l<=k->(∀i,i < l->lt (p.getD i 0) (p.getD k 0)=true)->(∀i,l<=i->i < k->lt (p.getD k 0) (p.getD i 0)=true)->Q l s')->(kas_place p k f l r).kasWp cmp Q s
 | 0,l,r,s,hf,hlr,hrk,hI,h1,h2,q=>q l s hI R0 h1 (λi a b=>h2 i R0 b)
 | f+1,l,r,s,hf,hlr,hrk,hI,h1,h2,q=>by
  unfold kas_place;by_cases hge:l >= r
  ·rw [R3 hge];exact q l s hI R0 h1 (λi a b=>h2 i R0 b)
  ·rw [R1 hge];have hm:(l+r)/ 2 < k:=R0
   refine A.as _ _ _ s (hp.lt hk) (hp.lt R0) (hp.ne hk R0 R0) hI λs' hI'=>?_;cases hc:lt (p.getD k 0) (p.getD ((l+r)/ 2) 0) with
   | true=>
    dsimp only;rw [R3 rfl];refine sd A T hp hk hu f l ((l+r)/ 2) s' R0 R0 R0 hI' h1 (λi a b=>?_) q;rcases NS ((l+r)/ 2) i with z | z
    ·exact T.tr _ _ _ (hp.lt hk) (hp.lt R0) (hp.lt R0) hc (hu _ _ z b)
    ·have:i=(l+r)/ 2:=R0
     rw [this];exact hc
   | false=>
    dsimp only;rw [R1 R5];have hl:lt (p.getD ((l+r)/ 2) 0) (p.getD k 0)=true:=by rw [T.tot _ _ (hp.lt R0) (hp.lt hk) (hp.ne R0 hk R0),hc];rfl
    refine sd A T hp hk hu f ((l+r)/ 2+1) r s' R0 R0 hrk hI' (λi a=>?_) h2 q;rcases NS i ((l+r)/ 2) with z | z
    ·exact T.tr _ _ _ (hp.lt R0) (hp.lt R0) (hp.lt hk) (hu _ _ z hm) hl
    ·have:i=(l+r)/ 2:=R0
     rw [this];exact hl
theorem AE{p:Array Nat}{k d i:Nat}(hk:k < p.size)(hd:d<=k):(OO p k d).getD i 0=if i=k - d then p.getD k 0 else if k - d < i/\i<=k then p.getD (i - 1) 0 else p.getD i 0:=by
 rw [MC,getElem?_bubble hk d hd i];by_cases h1:i=k - d
 ·rw [R3 h1,R3 h1,MC]
 ·rw [R1 h1,R1 h1];by_cases h2:k - d < i/\i<=k
  ·rw [R3 h2,R3 h2,MC]
  ·rw [R1 h2,R1 h2,MC]
theorem Up.ins(T:fT n lt){p:Array Nat}(hp:bI n p){k l:Nat}(hk:k < n)(hu:Up lt p k)(hl:l<=k)(h1:∀i,i < l->lt (p.getD i 0) (p.getD k 0)=true)(h2:∀i,l<=i->i < k->lt (p.getD k 0) (p.getD i 0)=true):Up lt (OO p k (k - l)) (k+1):=by
 have hs:=hp.size;intro i j hij hj;rw [AE R0 R0,AE R0 R0];have e:k - (k - l)=l:=R0
 rw [e];clear hs e hk;by_cases hi:i=l
 ·rw [R3 hi,R1 R0,R3 R0];exact h2 _ R0 R0
 ·rw [R1 hi];by_cases hi2:l < i/\i<=k
  ·rw [R3 hi2,R1 R0,R3 R0];exact hu _ _ R0 R0
  ·rw [R1 hi2];by_cases hj1:j=l
   ·rw [R3 hj1];exact h1 _ R0
   ·rw [R1 hj1];by_cases hj2:l < j/\j<=k
    ·rw [R3 hj2];exact hu _ _ R0 R0
    ·rw [R1 hj2];exact hu _ _ hij R0
theorem AF(A:jH n lt I cmp)(T:fT n lt){Q:Array Nat->R9->Prop}:∀(f:Nat)(p:Array Nat)(k:Nat)(s:R9),k+f=n->bI n p->Up lt p k->I s->(∀p' s',I s'->bI n p'->Up lt p' n->Q p' s')->(kas_bin f p k).kasWp cmp Q s
 | 0,p,k,s,hf,hp,hu,hI,q=>q p s hI hp (by rw [show n=k by omega];exact hu)
 | f+1,p,k,s,hf,hp,hu,hI,q=>by
  unfold kas_bin;rw [N6];have hk:k < n:=R0
  refine sd A T hp hk hu k 0 k s R0 R0 (Lr _) hI (λi z=>by omega) (λi a b=>by omega) λl s' hI' hl h1 h2=>?_;exact AF A T f _ (k+1) s' R0 (hp.bubble _ _) (hu.ins T hp hk hl h1 h2) hI' q
theorem AG(A:jH n lt I cmp)(T:fT n lt)(h2:2<=n){Q:Array Nat->R9->Prop}{s:R9}(hI:I s)(q:∀p s',I s'->bI n p->Up lt p n->Q p s'):(kas_sort n).kasWp cmp Q s:=by
 unfold kas_sort;rw [N6];refine Ho A T h2 (mY n) hI λk p s1 hI1 k1 k2 hp hu=>?_;dsimp only;by_cases hk:k < n
 ·rw [R3 hk,show max k 1=k by omega];exact AF A T (n - k) p k s1 R0 hp hu hI1 q
 ·rw [R1 hk];exact q p s1 hI1 hp (by rw [show n=k by omega];exact hu)
end
def aL(p q:Int×Str):Bool:=decide (p.1 < q.1) || (decide (p.1=q.1) && decide (p.2.cps.toList < q.2.cps.toList))
def fU(h:Sn)(v:R7)(p:Int×Str):Prop:=∃a o n t u,v= .ref a/\h.get? a=some o/\o.cls= .type "tuple"/\o.data= .seq #[.int p.1 t,.str p.2 u] n
section
variable {P:Sk} {w:Sm} {A:Ss} {E:R7->R9->Prop} {s:R9}
theorem Hq{v u:R7}{p q:Int×Str}{Q:Bool->R9->Prop}(hv:fU s.heap v p)(hu:fU s.heap u q)(h:Q (aL p q) s):Sf (Si P w) A (keyLt' (Tq true) v u) Q E s:=by
 obtain⟨a,oa,na,t1,t2,rfl,ha,_,da⟩:=hv;obtain⟨b,ob,nb,t3,t4,rfl,hb,_,db⟩:=hu;refine kat_lt ha da hb db (kat_cons ((intKind P w).eqBool (intKind_is _ _ _ _) (intKind_is _ _ _ _) (kat_go (λe1=>?_) λe1=>?_)))
 ·have e1:p.1=q.1:=by simpa using e1
  refine kat_yes (kat_cons ((Rq P w).eqBool (strKind_is _ _ _ _) (strKind_is _ _ _ _) (kat_go (λe2=>?_) λe2=>?_)))
  ·have e2:p.2=q.2:=by simpa using e2
   refine kat_yes (kat_nil ?_);have:aL p q=false:=by unfold aL;rw [e1,e2];simp
   rw [this] at h;simpa using h
  ·have e2:p.2≠q.2:=by simpa using e2
   refine kat_no (kat_one _ _ ?_);have:aL p q=decide (p.2.cps.toList < q.2.cps.toList):=by unfold aL;simp [e1]
   rw [this] at h;exact lt_str h
 ·have e1:p.1≠q.1:=by simpa using e1
  refine kat_no ?_;show Sf _ _ (oneLt' true _ _) _ _ _;refine oneLt_int ?_;have:aL p q=decide (p.1 < q.1):=by unfold aL;simp [e1]
  rw [this] at h;exact h
theorem se{n:Nat}{kp:Nat->Int×Str}(hd:∀i j,i < n->j < n->kp i=kp j->i=j):fT n λi j=>aL (kp i) (kp j):=by
 have tl:∀a b:Str,a≠b->(decide (a.cps.toList < b.cps.toList))=!decide (b.cps.toList < a.cps.toList):=λa b h=>by
  by_cases z:a.cps.toList < b.cps.toList
  ·rw [decide_eq_true z,decide_eq_false (List.lt_asymm z)];rfl
  ·have z2:b.cps.toList<=a.cps.toList:=QR.mp z;have:b.cps.toList < a.cps.toList:=by
    rcases Classical.em (b.cps.toList < a.cps.toList) with y | y
    ·exact y
    ·exact absurd (xv (QX (QR.mp y) z2)) h
   rw [decide_eq_false z,decide_eq_true this];rfl
 refine⟨λi j hi hj hij=>?_,λi j k hi hj hk h1 h2=>?_⟩
 ·have hne:kp i≠kp j:=λe=>hij (hd i j hi hj e);unfold aL;by_cases e:(kp i).1=(kp j).1
  ·have e2:(kp i).2≠(kp j).2:=λz=>hne (Prod.ext e z);simp only [e,Int.lt_irrefl,decide_false,O4,decide_true,Oy];exact tl _ _ e2
  ·have e':(kp j).1≠(kp i).1:=λz=>e z.symm;simp only [e,e',decide_false,P6,O3];by_cases z:(kp i).1 < (kp j).1
   ·rw [decide_eq_true z,decide_eq_false R0];rfl
   ·rw [decide_eq_false z,decide_eq_true R0];rfl
 ·unfold aL at h1 h2⊢;simp only [NO,Mf,decide_eq_true_eq] at h1 h2⊢;rcases h1 with h1 | ⟨h1,h1'⟩ <;> rcases h2 with h2 | ⟨h2,h2'⟩
  ·left;omega
  ·left;omega
  ·left;omega
  ·right;exact⟨h1.trans h2,Rr h1' h2'⟩
theorem AH{ks:List R7}{kp:Nat->Int×Str}(hk:∀i v,ks[i]?=some v->fU s.heap v (kp i))(h2:2<=ks.length){Q:SortKind->R9->Prop}(h:Q (Tq true) s):Sf (Si P w) A (keyKind' ks.toArray) Q E s:=by
 have key:∀(ks:List R7)(kp:Nat->Int×Str),(∀i v,ks[i]?=some v->fU s.heap v (kp i))->∃fs:List R7,KatTups s.heap ks fs/\fs.length=ks.length/\∀v∈fs,∃n t,v=NU n t:=by
  intro ks
  induction ks with
  | nil=>intro kp _;exact⟨[],RS,rfl,R5⟩
  | cons v ks ih=>
   intro kp hk;obtain⟨fs,a,b,c⟩:=ih (λi=>kp (i+1)) λi v e=>hk (i+1) v (by simpa using e);obtain⟨ad,o,n,t,u,rfl,h1,h2,h3⟩:=hk 0 v rfl;refine⟨.int (kp 0).1 t::fs,RH h1 h2 h3 rfl a,by simp [b],λx hx=>?_⟩;rcases LF.mp hx with rfl | hx
   ·exact⟨_,_,rfl⟩
   ·exact c x hx
 obtain⟨fs,a,b,c⟩:=key ks kp hk;refine kat_kind (T:= .type "int") a R0 (λv hv=>?_) RZ h;obtain⟨n,t,rfl⟩:=c v hv;exact .now
theorem AI{n:Nat}{ks:List R7}{kp:Nat->Int×Str}(hn:ks.length=n)(h2:2<=n)(hk:∀i v,ks[i]?=some v->fU s.heap v (kp i))(hd:∀i j,i < n->j < n->kp i=kp j->i=j){G:Array Nat->R9->Prop}
 (q:∀p,bI n p->Up (λi j=>aL (kp i) (kp j)) p n->G p s):(kas_sort n).kasWp (kas_ask P w A (Tq true) ks) G s:=by
 refine AG (lt:=λi j=>aL (kp i) (kp j)) (I:=λs'=>s'=s) ⟨λi j C s' hi hj hij e c=>?_⟩ (se hd) h2 rfl λp s' e hp hu=>by subst e;exact q p hp hu
 subst e;have ei:ks[i]?=some (ks.getD i .none):=by simp [show i < ks.length by omega]
 have ej:ks[j]?=some (ks.getD j .none):=by simp [show j < ks.length by omega]
 exact Hq (hk i _ ei) (hk j _ ej) (c _ rfl)
def AJ(kS D:R8)(s:R9)(out:List R7)(C:R9->Prop):Prop:=∀h' c,h'.get? D=some (Sr "list" out.toArray c)->(∀b u,b≠kS->b≠D->s.heap.get? b=some u->h'.get? b=some u)->C {s with heap:=h'}
theorem AK{st:SortSt}{kS D:R8}{ks out:List R7}{e e1:Nat}{C:PQ->R9->Prop}(hk:s.heap.get? kS=some (Sr "list" ks.toArray e))(hD:s.heap.get? D=some (Sr "list" #[] e1))(hne:kS≠D)(hf:Tj st=none)
 (ho:(arrOf st).map (·.2)=out.toArray)(h64:out.length < 64)(hk64:ks.length < 64)(q:AJ kS D s out (C (.done (.ret .none)))):Sf (Si P w) A (ksk_tail D false e1 (.ref kS) st) C E s:=by
 have hsl:Sb=16777216:=SE;unfold ksk_tail;rw [ho];refine Sa (SU hk rfl (Sa (wpAny_letGo ?_)) (by rw [Lw];omega) (Mb _));have u1:=MT s.heap kS (L6 λ_=>(#[]:Array R7));have hD1:(s.heap.update kS (L6 λ_=>(#[]:Array R7))).get? D=some (Sr "list" #[] e1):=(u1.2 D (Ne.symm hne)).trans hD;refine Sa (Th (s:={s with heap:=s.heap.update kS (L6 λ_=>(#[]:Array R7))}) hD1 rfl ?_);rw [R1 R5];refine Sa (SU (s:={s with heap:=s.heap.update kS (L6 λ_=>(#[]:Array R7))}) hD1 rfl ?_ (Mb _) (by show out.toArray.size<=_;rw [Lw];omega));have u2:=MT (s.heap.update kS (L6 λ_=>(#[]:Array R7))) D (L6 λ_=>out.toArray);rw [hf];simp only [bne_self_eq_false,Nc,if_false];exact Sg (q _ _ (SR hD1 λ_=>out.toArray) λb u n1 n2 z=>(u2.2 b n2).trans ((u1.2 b n1).trans z))
theorem Hr{kS D:R8}{vs ks:List R7}{n e e1:Nat}{kp:Nat->Int×Str}{C:PQ->R9->Prop}(hv:vs.length=n)(hn:ks.length=n)(h64:n < 64)(hks:s.heap.get? kS=some (Sr "list" ks.toArray e))(hD:s.heap.get? D=some (Sr "list" #[] e1))(hne:kS≠D)
 (hk:∀i v,ks[i]?=some v->fU s.heap v (kp i))(hd:∀i j,i < n->j < n->kp i=kp j->i=j)
 (q:∀p,bI n p->Up (λi j=>aL (kp i) (kp j)) p n->AJ kS D s (p.toList.map λi=>vs.getD i .none) (C (.done (.ret .none)))):Sf (Si P w) A (ksk_end D false vs.toArray e1 (.ref kS) ks.toArray) C E s:=by
 unfold ksk_end;have hz:vs.toArray.size=n:=by rw [Lw];exact hv
 by_cases h2:n < 2
 ·simp only [Nc,if_false,hz,h2,if_true];refine Sa (Sg (Sa (Sg ?_)));refine AK hks hD hne rfl (out:=vs) ?_ R0 R0 ?_
  ·show(ks.toArray.zip vs.toArray).map (·.2)=vs.toArray;apply OC.mp;simp only [Pr,Pu];rw [OD R0]
  ·have:=q _ (mY n) (λi j a b=>by omega);have e:((OL (Mv n)).toList.map λi=>vs.getD i Nn)=vs:=by
    apply Nm (by simp [hv]);intro i a b;simp at a b⊢;rw [LG b];rfl
   rw [e] at this;exact this
 ·simp only [Nc,if_false,hz,h2];refine Sa (AH hk R0 ?_);have hl:ks.length=vs.length:=R0
  refine Sa (Sz (kat_run (κ:=Tq true) (E:=λ_ _=>False) (Q:=λst' s'=>s'=s/\∃p,bI n p/\Up (λi j=>aL (kp i) (kp j)) p n/\arrOf st'=p.map (kas_item (ks.toArray.zip vs.toArray))/\Tj st'=none) (G:=λp s'=>s'=s/\bI n p/\Up (λi j=>aL (kp i) (kp j)) p n) hl R0 R0
   (λp st' s' a b c d=>⟨d.1,p,d.2.1,d.2.2,b,c⟩) ?_) (λr s' hr=>?_) λ_ _ x=>x.elim)
  ·rw [hv];exact AI hn R0 hk hd λp a b=>⟨rfl,a,b⟩
  ·obtain⟨rfl,p,p1,p2,p3,p4⟩:=hr;refine AK hks hD hne p4 (kat_snds hl p3) ?_ R0 (q p p1 p2);rw [Lm,LR,p1.size];exact h64
end
section
variable {X:Cx} {TR:List (R8×Obj)} {σ:St} {H:Hp} {s:R9}
theorem ae.track{o:HO}{D:R8}{ch:List R8}{t':Nat}{h':Sn}(I:ae X TR σ H s)(hD:D∈ch)(f:∀b∈ch,fH X TR H b)(k:∀b u,b ∉ ch->s.heap.get? b=some u->h'.get? b=some u)(new:bU X.prog X.w (ak H D o) h' D o):ae X TR σ (ak H D o) {s with heap:=h',toks:=t'}:=by
 have nC:∀b u,H b=some u->b ∉ ch:=λb u e z=>by rw [(f b z).1] at e;cases e
 have nD:∀b u,H b=some u->b≠D:=λb u e z=>nC b u e (by rw [z];exact hD);refine I.step (g':=s.gens) (d':=s.drawn) (ch:=ch) (λb hb=>?_) (λb o _ _ hc e _=>k b o hc e) (λb o _ _ hc e _=>⟨o.slots,k b o hc e⟩) (λb o hc _ n=>by rw [aD (λz=>hc (by rw [z];exact hD))];exact n)
  (λb o hc e=>⟨o,k b o hc e⟩) (λb xs e=>by rw [aD (nD _ _ e)];exact e) (λb u xs e=>by rw [aD (nD _ _ e)];exact e) (λb ps e=>⟨#[],by rw [aD (nD _ _ e),e];simp⟩) (λm hm=>hm.at' λo e=>k _ o (λz=>(f _ z).2.1 rfl) e) (λb u e=>?_) I.bare
 ·obtain⟨f0,f1,f2,f3,f4,f5⟩:=f b hb;exact⟨f3,f1,f4,f5⟩
 ·by_cases hb:b=D
  ·subst hb;rw [bb] at e;cases e;exact new
  ·rw [aD hb] at e;refine(I.hok b u e).stay (λc v hc q=>k c v (λz=>?_) q) (λc q=>by rw [aD (nD _ _ q)];exact q) (λc xs q=>by rw [aD (nD _ _ q)];exact q);rcases hc with r | r
   ·subst r;exact nC _ _ e z
   ·exact nC _ _ r z
theorem Hs{k:Nat}{f:R8}{fd:Sj}{ps:List Str}{sp:Sp}{v:V}{u:R7}{Q:VK}(Fk:aF X.prog X.w X.K X.mg X.base CX0 k f fd ps sp)(hr:br k X.A.in1.in1)(hb:eF X.K fd ps [])(I:ae X TR σ H s)(r:aC v u)(h:sp [v] H Q E0):
 Sf (Si X.prog X.w) X.A.in1.in1 (call (.ref f) [u]) (EP X TR σ Q) (λ_ _=>False) s:=by
 have r2:aA [v] [u]:= .cons r .nil;have hl:([u]++[]).length=ps.length:=by
  have:=Fk.len _ _ _ _ h;simpa using this
 have hb2:=hb s [u] I.kIn hl;rw [Mw] at hb2;refine wpAny_call (Tt (Fk.run X.A.in1.in1 X.stack s H ⟨[u],[]⟩ [u] [v] Q E0 hr I.env0.in1.in1 hb2 r2 h) λr s' hq=>?_);cases r with
 | error e=>exact hq.elim
 | ok fl=>
  cases fl with
  | ret u=>exact I.after hq
  | next=>exact MP hq
  | brk=>exact MP hq
  | cont=>exact MP hq
def g6(X:Cx)(TR:List (R8×Obj))(b:R8):Prop:=b≠X.env.locals/\b ∉ X.fs/\(b∈X.ex\/X.s₀.heap.objs.size<=b)/\(∀x c,X.env.cells.lookup x=some c->c≠b)/\∀p∈X.pn++TR,p.1≠b
theorem ae.out(I:ae X TR σ H s){b:R8}(hb:s.heap.objs.size<=b):g6 X TR b:=(I.fpOk (H':=H) hb (I.hok.fresh hb)).2
structure iy (X:Cx) (TR:List (R8×Obj)) (σ:St) (H:Hp) (O:Ex) (kS D:R8) (e1:Nat) (kds:List R6) (ks:List R7) (s:R9):Prop where
 ex:∃H' kvs e,ae X (TR++[(kS,Sr "list" ks.toArray e),(D,Sr "list" #[] e1)]) σ H' s/\ao H H'/\aj X.K H' O kvs kds/\aA kvs ks
theorem iy.push{O:Ex}{kS D:R8}{e1:Nat}{kds:List R6}{ks:List R7}{H':Hp}{kvs:List V}{e:Nat}{h':Sn}{kv:V}{kd:R6}{k:R7}(oS:g6 X TR kS)(oD:g6 X TR D)(hne:kS≠D)
 (I:ae X (TR++[(kS,Sr "list" ks.toArray e),(D,Sr "list" #[] e1)]) σ H' s)(hs:ao H H')(hk:aj X.K H' O kvs kds)(hv:aA kvs ks)(k1:Dt X.K H' O kv kd)(k2:aC kv k)
 (hu:∃e',h'.get? kS=some (Sr "list" (ks++[k]).toArray e'))(kept:∀b u,b≠kS->s.heap.get? b=some u->h'.get? b=some u):iy X TR σ H O kS D e1 (kds++[kd]) (ks++[k]) {s with heap:=h'}:=by
 obtain⟨e',hu⟩:=hu;have pS:=I.pin (kS,Sr "list" ks.toArray e) R5;have pD:=I.pin (D,Sr "list" #[] e1) R5;have I1:ae X TR σ H' s:=I.pins_of λp hp=>I.pin p (by simp only [LI] at hp⊢;exact .inr (.inl hp));have I2:ae X TR σ H' {s with heap:=h'}:=I1.turned (t':=s.toks) (it:=kS) kept pS.2.1 oS.1 oS.2.2.1 oS.2.2.2.1 oS.2.2.2.2;refine⟨H',kvs++[kv],e',I2.pins_of λp hp=>?_,hs,hk.append (.cons k1 .nil),hv.append (.cons k2 .nil)⟩;rcases LI.mp hp with z | z
 ·exact I2.pin p (L5 _ z)
 ·simp only [LF,MX,or_false] at z;rcases z with rfl | rfl
  ·exact⟨hu,pS.2.1,oS.1,oS.2.1,λv z=>by cases z⟩
  ·exact⟨kept _ _ (Ne.symm hne) pD.1,pD.2.1,oD.1,oD.2.1,λv z=>by cases z⟩
theorem AL{k:Nat}{f:R8}{fd:Sj}{ps:List Str}{F:List R6->(R6->Prop)->Prop}{O:Ex}{kS D:R8}{e1:Nat}{kd:R6->R6}(Fk:aF X.prog X.w X.K X.mg X.base CX0 k f fd ps (bf X.K F))(hr:br k X.A.in1.in1)(hb:eF X.K fd ps [])(trk:∀l,O l->H l≠none)
 (oS:g6 X TR kS)(oD:g6 X TR D)(hne:kS≠D){body:R7->PUnit->Sem (ForInStep PUnit)}{E:R7->R9->Prop}
 (hbo:∀(x:R7) (s:R9) (Q':R9->Prop),Sf (Si X.prog X.w) X.A.in1.in1 (call (.ref f) [x]) (λk s'=>Sf (Si X.prog X.w) X.A.in1.in1 (Of (.ref kS) (·.push k)) (λ_ s''=>Q' s'') (λ_ _=>False) s') (λ_ _=>False) s->Sf (Si X.prog X.w) X.A.in1.in1 (body x ⟨⟩) (λr s'=>r= .yield ⟨⟩/\Q' s') E s):
 ∀(r:List R7)(xr:List V)(dr:List R6)(kds:List R6)(ks:List R7)(s:R9)(Q:R9->Prop),aA xr r->aj X.K H O xr dr->(∀d∈dr,∀R:R6->Prop,R (kd d)->F [d] R)->iy X TR σ H O kS D e1 kds ks s->ks.length+r.length < 64->
  (∀ks' s',iy X TR σ H O kS D e1 (kds++dr.map kd) ks' s'->ks'.length=ks.length+r.length->Q s')->Sf (Si X.prog X.w) X.A.in1.in1 (forIn r PUnit.unit body) (λ_ s'=>Q s') E s
 | [],xr,dr,kds,ks,s,Q,hv,hd,hF,M,hl,q=>by
  cases hv;cases hd;rw [Rf];exact Sg (q ks s (by rw [Mp,Mw];exact M) R5)
 | x::r,xr,dr,kds,ks,s,Q,hv,hd,hF,M,hl,q=>by
  cases hv with
  | @cons v _ xr _ h1 h2=>
   cases hd with
   | @cons _ d _ dr g1 g2=>
    rw [Q3];rw [LP] at hl;obtain⟨H',kvs,e,I,hs,hk,hvk⟩:=M.ex;refine Sa (Sz (hbo x s (λs'=>∃k,iy X TR σ H O kS D e1 (kds++[kd d]) (ks++[k]) s') (Sz (Hs (Q:=λv2 H2=>ao H' H2/\Dt X.K H2 O v2 (kd d)) Fk hr hb I h1 ⟨O,[d],λy=>y=kd d,λl z e=>trk l z (by
     cases q:H l with
     | none=>rfl
     | some u=>rw [hs _ _ q] at e;cases e),.cons (g1.mono hs) .nil,hF d R5 _ rfl,λy v2 H2 e s2 r2=>by subst e;exact⟨s2,r2⟩⟩) (λkk s' hq=>?_) λ_ _ z=>z)) (λr' s' hq=>?_) λ_ _ z=>z)
    ·obtain⟨kv,H2,I2,rk,s2,dk⟩:=hq;have pS:=I2.pin (kS,Sr "list" ks.toArray e) R5;refine SU pS.1 rfl ⟨kk,?_⟩ (by rw [Lw];have:Sb=16777216:=SE;omega) (by rw [Array.size_push,Lw];have:Sb=16777216:=SE;omega);have u1:=MT s'.heap kS (L6 (·.push kk));have gk:=SR pS.1 (·.push kk);rw [show ks.toArray.push kk=(ks++[kk]).toArray by simp] at gk;exact iy.push oS oD hne I2 (hs.trans s2) (hk.mono s2) hvk dk rk ⟨_,gk⟩ λb u n z=>(u1.2 b n).trans z
    ·obtain⟨rfl,kk,M'⟩:=hq;refine AL Fk hr hb trk oS oD hne hbo r xr dr (kds++[kd d]) (ks++[kk]) s' Q h2 g2 (λy hy=>hF y (by simp [hy])) M' (by simp;omega) λks' s2 M2 l2=>q ks' s2 ?_ (by rw [l2];simp;omega);rw [Lq,<-List.singleton_append,<-Oi];exact M2
def bP(p:Int×Str):R6:= .tuple [.int p.1,.str p.2]
theorem sf{h:V}{u:R7}{O:Ex}{p:Int×Str}(I:ae X TR σ H s)(d:Dt X.K H O h (bP p))(r:aC h u):fU s.heap u p:=by
 obtain⟨a,xs,rfl,hq,hd⟩:=(Sh.dt d).tup;cases r;obtain⟨its,rv,⟨o,e,c,n,dd⟩,_⟩:=I.tuple hq;cases hd with
 | cons g1 g2=>
  cases g2 with
  | cons g2 g3=>
   cases g3;cases g1;cases g2;cases rv with
   | cons r1 r2=>
    cases r2 with
    | cons r2 r3=>
     cases r3;obtain⟨t,rfl⟩:=r1;obtain⟨u,rfl⟩:=r2;exact⟨a,o,n,t,u,rfl,e,c,dd⟩
theorem jb{K:Ll}{H:Hp}{O:Ex}:∀{xs:List V}{ds:List R6}{i:Nat}{d:R6},aj K H O xs ds->ds[i]?=some d->∃x,xs[i]?=some x/\Dt K H O x d
 | _,_,0,d,.cons h r,e=>by simp at e;subst e;exact⟨_,rfl,h⟩
 | _,_,i+1,d,.cons h r,e=>by simp only [ND] at e⊢;exact jb r e
theorem jI{xs:List V}{us:List R7}:∀{i:Nat}{u:R7},aA xs us->us[i]?=some u->∃x,xs[i]?=some x/\aC x u:=by
 intro i u h e;have hl:=h.length;have hi:i < us.length:=(Lz.mp e).1;obtain⟨u',e',r⟩:=h.get (show xs[i]?=some (xs[i]'R0) by simp);rw [e] at e';cases e';exact⟨_,R5,r⟩
theorem Ht{O:Ex}{kS D:R8}{e1:Nat}{kps:List (Int×Str)}{ks:List R7}(M:iy X TR σ H O kS D e1 (kps.map bP) ks s):(∀i v,ks[i]?=some v->fU s.heap v (kps.getD i (0,Lk "")))/\ks.length=kps.length:=by
 obtain⟨H',kvs,e,I,hs,hk,hv⟩:=M.ex;have hl:ks.length=kps.length:=by rw [<-hv.length,hk.length,Lm]
 refine⟨λi v ei=>?_,hl⟩;have hi:i < kps.length:=by rw [<-hl];exact(Lz.mp ei).1
 obtain⟨x,ex,rx⟩:=jI hv ei;obtain⟨y,ey,dy⟩:=jb (i:=i) (d:=bP kps[i]) hk (by rw [LD,LG hi];rfl);rw [ex] at ey;cases ey;have:kps.getD i (0,Lk "")=kps[i]:=by simp [hi]
 rw [this];exact sf I dy rx
theorem Hu{k:Nat}{f:R8}{fd:Sj}{ps:List Str}{F:List R6->(R6->Prop)->Prop}{O:Ex}{D:R8}{n0:Nat}{kf:R6->Int×Str}{vs:List R7}{xs:List V}{ds:List R6}{Q:V->Hp->Prop}{C:PQ->R9->Prop}{E:R7->R9->Prop}
 (Fk:aF X.prog X.w X.K X.mg X.base CX0 k f fd ps (bf X.K F))(hr:br k X.A.in1.in1)(hb:eF X.K fd ps [])(trk:∀l,O l->H l≠none)(I:ae X TR σ H s)(oD:g6 X TR D)(hHD:H D=none)(hD:s.heap.get? D=some (Sr "list" vs.toArray n0))
 (hv:aA xs vs)(hd:aj X.K H O xs ds)(hF:∀d∈ds,∀R:R6->Prop,R (bP (kf d))->F [d] R)(h64:ds.length < 64)(nd:(ds.map kf).Nodup)
 (q:∀(H':Hp) (xs':List V) (ds':List R6),ao H H'->H' D=none->aj X.K H' O xs' ds'->ds'.Perm ds->ds'.Pairwise (λa b=>aL (kf a) (kf b)=true)->Q (.ref D) (ak H' D (.lst xs')))
 (fin:∀s',EP X TR σ Q (.ref D) s'->C (.done (.ret .none)) s'):Sf (Si X.prog X.w) X.A.in1.in1 (ksk_tree D (.ref f) false) C E s:=by
 have hsl:Sb=16777216:=SE;have lv:vs.length=ds.length:=by rw [<-hv.length,hd.length]
 have lD:D < s.heap.objs.size:=LJ hD;unfold ksk_tree;refine Sa (Ta hD rfl (Sa (SU hD rfl ?_ (by rw [Lw];omega) (Mb _))));have u1:=MT s.heap D (L6 λ_=>(#[]:Array R7));have g1:=SR hD λ_=>(#[]:Array R7);have I1:ae X TR σ H {s with heap:=s.heap.update D (L6 λ_=>(#[]:Array R7))}:=I.turned (t':=s.toks) (it:=D) (λb u n z=>(u1.2 b n).trans z) hHD oD.1 oD.2.2.1 oD.2.2.2.1 oD.2.2.2.2;generalize s.heap.update D (L6 λ_=>(#[]:Array R7))=h1 at*;generalize (if (#[]:Array R7).size==vs.toArray.size then n0 else n0+1)=e1 at*;refine Sa (Th (s:={s with heap:=h1}) g1 rfl ?_);refine Sa (wpAny_newTuple ?_ (by show vs.length<=_;omega));have I2:ae X TR σ H {s with heap:=h1.push {cls:= .type "tuple",data:= .seq vs.toArray}}:=I1.kept (t':=s.toks) λb u z=>Lo _ z;have g2:(h1.push {cls:= .type "tuple",data:= .seq vs.toArray}).get? D=some (Sr "list" #[] e1):=Lo _ g1;show Sf _ _ _ _ _ {s with heap:=h1.push {cls:= .type "tuple",data:= .seq vs.toArray}};generalize h1.push {cls:= .type "tuple",data:= .seq vs.toArray}=h2 at*;refine Sa (SW (s:={s with heap:=h2}) ?_ (Mb _));have oS:g6 X TR h2.objs.size:=I2.out (Lr _);have hne:h2.objs.size≠D:=Ph (LJ g2);have I3:ae X TR σ H {s with heap:=h2.push (Sr "list" #[] 0)}:=I2.kept (t':=s.toks) λb u z=>Lo _ z;have hS0:H h2.objs.size=none:=I2.hok.fresh (Lr _);have M0:iy X TR σ H O h2.objs.size D e1 [] [] {s with heap:=h2.push (Sr "list" #[] 0)}:=by
  refine⟨H,[],0,I3.pins_of λp hp=>?_,ao.refl _,.nil,.nil⟩;rcases LI.mp hp with z | z
  ·exact I3.pin p (L5 _ z)
  ·simp only [LF,MX,or_false] at z;rcases z with rfl | rfl
   ·exact⟨LU _ rfl,hS0,oS.1,oS.2.1,λv z=>by cases z⟩
   ·exact⟨Lo _ g2,hHD,oD.1,oD.2.1,λv z=>by cases z⟩
 refine SA ?_;unfold ksk_rest;refine Sa (wpAny_rule ?_);rw [List.forIn_toArray];refine Sa (AL (kd:=λd=>bP (kf d)) (E:=E) Fk hr hb trk oS oD hne (λx s' Q' hx=>?_) vs xs ds [] [] _ _ hv hd hF M0 (by simp;omega) λks s' M hkl=>?_)
 ·refine Sa (wpAny_attempt (Sz hx (λkk s2 hk=>?_) λ_ _ z=>z.elim));exact Sa (Sz hk (λ_ s3 z=>Sg ⟨rfl,z⟩) λ_ _ z=>z.elim)
 ·rw [Mq,<-Function.comp_def,<-LH] at M;obtain⟨hk,hkn⟩:=Ht M;rw [Lm] at hkn;obtain⟨H',kvs,e,I4,hs,_,_⟩:=M.ex;have pS:=I4.pin (h2.objs.size,Sr "list" ks.toArray e) R5;have pD:=I4.pin (D,Sr "list" #[] e1) R5;have I5:ae X TR σ H' s':=I4.pins_of λp hp=>I4.pin p (by simp only [LI] at hp⊢;exact .inr (.inl hp));refine Sa (Ta pS.1 rfl ?_);refine Hr (n:=ds.length) (kp:=λi=>(ds.map kf).getD i (0,Lk "")) lv hkn h64 pS.1 pD.1 hne hk (λi j hi hj ee=>?_) λp pp pu h' c gD kept=>?_
  ·have e1':(ds.map kf).getD i (0,Lk "")=(ds.map kf)[i]'(by simpa using hi):=by simp [hi]
   have e2':(ds.map kf).getD j (0,Lk "")=(ds.map kf)[j]'(by simpa using hj):=by simp [hj]
   rw [e1',e2'] at ee;exact(NW nd).mp ee
  ·refine fin _ ⟨.ref D,ak H' D (.lst (p.toList.map λi=>xs.getD i .non)),?_,rfl,q H' _ (p.toList.map λi=>ds.getD i .none) hs pD.2.1 ?_ ?_ ?_⟩
   ·refine I5.track (t':=s'.toks) (ch:=[h2.objs.size,D]) R5 (λb hb=>?_) (λb u hb z=>kept b u (λy=>hb (by simp [y])) (λy=>hb (by simp [y])) z) ⟨?_,_,c,?_,gD⟩
    ·simp only [LF,MX,or_false] at hb;rcases hb with rfl | rfl
     ·exact⟨pS.2.1,oS⟩
     ·exact⟨pD.2.1,oD⟩
    ·rw [Lm,LR,pp.size];omega
    ·have:∀l:List Nat,(∀i∈l,i < ds.length)->aA (l.map λi=>xs.getD i .non) (l.map λi=>vs.getD i .none):=by
      intro l
      induction l with
      | nil=>intro _;exact .nil
      | cons a l ih=>
       intro hl;have ha:=hl a R5;refine .cons ?_ (ih λi hi=>hl i (by simp [hi]));obtain⟨x,ex,rx⟩:=jI hv (show vs[a]?=some (vs[a]'R0) by simp);have e1':xs.getD a .non=x:=by simp [ex]
       have e2':vs.getD a .none=vs[a]'R0:=by simp [show a < vs.length by omega]
       show aC (xs.getD a .non) (vs.getD a .none);rw [e1',e2'];exact rx
     exact this _ λi hi=>by simpa using pp.perm.mem_iff.mp hi
   ·have:∀l:List Nat,(∀i∈l,i < ds.length)->aj X.K H' O (l.map λi=>xs.getD i .non) (l.map λi=>ds.getD i .none):=by
     intro l
     induction l with
     | nil=>intro _;exact .nil
     | cons a l ih=>
      intro hl;have ha:=hl a R5;refine .cons ?_ (ih λi hi=>hl i (by simp [hi]));obtain⟨x,ex,dx⟩:=jb (i:=a) (d:=ds[a]) hd (by simp [ha]);have e1':xs.getD a .non=x:=by simp [ex]
      have e2':ds.getD a .none=ds[a]:=by simp [ha]
      show Dt X.K H' O (xs.getD a .non) (ds.getD a .none);rw [e1',e2'];exact dx.mono hs
    exact this _ λi hi=>by simpa using pp.perm.mem_iff.mp hi
   ·have h1:=pp.perm.map λi=>ds.getD i .none;have e:(Mv ds.length).map (λi=>ds.getD i Ov)=ds:=by
     apply Nm R5;intro i a b;simp at a b⊢;rw [LG b];rfl
    rw [e] at h1;exact h1
   ·rw [LO,MI];intro i j hi hj hij;have:=pu i j hij (by rw [LR,pp.size] at hj;exact hj);have ei:p.getD i 0=p.toList[i]:=by simp [NN,show i < p.size by simpa using hi]
    have ej:p.getD j 0=p.toList[j]:=by simp [NN,show j < p.size by simpa using hj]
    rw [ei,ej] at this;have li:p.toList[i] < ds.length:=by simpa using pp.perm.mem_iff.mp (M8 hi)
    have lj:p.toList[j] < ds.length:=by simpa using pp.perm.mem_iff.mp (M8 hj)
    have ff:∀a,a < ds.length->(ds.map kf).getD a (0,Lk "")=kf (ds.getD a .none):=λa ha=>by simp [ha]
    dsimp only at this;rw [ff _ li,ff _ lj] at this;exact this
theorem Hv{k:Nat}{f l:R8}{fd:Sj}{ps:List Str}{F:List R6->(R6->Prop)->Prop}{O:Ex}{kf:R6->Int×Str}{xs:List V}{ds:List R6}{Q:VK}
 (hc:X.calm=true)(Fk:aF X.prog X.w X.K X.mg X.base CX0 k f fd ps (bf X.K F))(hr:br k X.A.in1.in1)(hb:eF X.K fd ps [])(trk:∀l,O l->H l≠none)(I:ae X TR σ H s)(hq:aN X.K H l xs)
 (hd:aj X.K H O xs ds)(hF:∀d∈ds,∀R:R6->Prop,R (bP (kf d))->F [d] R)(h64:ds.length < 64)(nd:(ds.map kf).Nodup)
 (q:∀(H':Hp) (p:R8) (xs':List V) (ds':List R6),ao H H'->H' p=none->aj X.K H' O xs' ds'->ds'.Perm ds->ds'.Pairwise (λa b=>aL (kf a) (kf b)=true)->Q (.ref p) (ak H' p (.lst xs'))):
 Sf (Si X.prog X.w) X.A (call (.builtin "sorted") [.ref l] [(Lk "key",.ref f)]) (EP X TR σ Q) X.xe s:=by
 have hsl:Sb=16777216:=SE;obtain⟨vs,hv,pl,hz⟩:=I.list hq;have lv:vs.length=ds.length:=by rw [<-hv.length,hd.length]
 refine call_function_entry_kw kind_sorted plain_sorted entry_sorted (ksk_s1 _ _) ?_;unfold Builtin.«sorted»;refine Sa (m:=checkCount "sorted" 1 1 _) (Sg ?_);refine Sa (collect_list pl.isList ?_ R0);have I1:ae X TR σ H {s with heap:=(s.heap.push (Sr "list" #[] 0)).update s.heap.objs.size (L6 (·++vs.toArray))}:=by
  refine I.kept (t':=s.toks) λb u z=>?_;have hlt:b < s.heap.objs.size:=LJ z;exact(OP _ _ _ _ (LV hlt)).trans (Lo _ z)
 generalize (s.heap.push (Sr "list" #[] 0)).update s.heap.objs.size (L6 (·++vs.toArray))=h1 at*;refine Sa (SW (s:={s with heap:=h1}) ?_ R0);have I2:ae X TR σ H {s with heap:=h1.push (Sr "list" vs.toArray 0)}:=I1.kept (t':=s.toks) λb u z=>Lo _ z;have gD:(h1.push (Sr "list" vs.toArray 0)).get? h1.objs.size=some (Sr "list" vs.toArray 0):=LU _ rfl;refine Sa (SA (wpAny_call_entry_kw Tw ⟨_,gD,rfl⟩ Tu ?_ (ksk_l1 _ _)));rw [ksk_t1];refine Hu (kf:=kf) Fk hr hb trk I2 (I1.out (Lr _)) (I1.hok.fresh (Lr _)) gD hv hd hF h64 nd (Q:=Q) (λH' xs' ds' a b c d e=>q H' _ xs' ds' a b c d e) λs' hs'=>?_;exact⟨_,rfl,Sg ⟨_,rfl,hs'⟩⟩
end
section
variable {P:Sk} {w:Sm} {A:Ss} {E:R7->R9->Prop} {s:R9}
theorem Hw{D:R8}{vs:List R7}{n n0:Nat}{kp:Nat->Int×Str}{C:PQ->R9->Prop}(hv:vs.length=n)(h64:n < 64)(hD:s.heap.get? D=some (Sr "list" vs.toArray n0))(hk:∀i v,vs[i]?=some v->fU s.heap v (kp i)/\v≠ .ref D)(hd:∀i j,i < n->j < n->kp i=kp j->i=j)
 (q:∀p,bI n p->Up (λi j=>aL (kp i) (kp j)) p n->∀h' c,h'.get? D=some (Sr "list" (p.toList.map λi=>vs.getD i .none).toArray c)->(∀b u,b≠D->s.heap.get? b=some u->h'.get? b=some u)->C (.done (.ret .none)) {s with heap:=h'}):
 Sf (Si P w) A (Builtin.«list.sort» ⟨[.ref D],[]⟩) C E s:=by
 have hsl:Sb=16777216:=SE;rw [list_sort_plain];refine Sa (Ta hD rfl (Sa (SU hD rfl ?_ (by rw [Lw];omega) (Mb _))));have u1:=MT s.heap D (L6 λ_=>(#[]:Array R7));have g1:=SR hD λ_=>(#[]:Array R7);have k1:∀b u,b≠D->s.heap.get? b=some u->(s.heap.update D (L6 λ_=>(#[]:Array R7))).get? b=some u:=λb u n z=>(u1.2 b n).trans z;generalize s.heap.update D (L6 λ_=>(#[]:Array R7))=h1 at*;generalize (if (#[]:Array R7).size==vs.toArray.size then n0 else n0+1)=e1 at*;refine Sa (Th (s:={s with heap:=h1}) g1 rfl ?_);refine Sa (wpAny_newTuple ?_ (by show vs.length<=_;omega));refine Sa (SW ?_ (Mb _));have g2:((h1.push {cls:= .type "tuple",data:= .seq vs.toArray}).push {cls:= .type "list",data:= .seq ([]:List R7).toArray}).get? D=some (Sr "list" #[] e1):=Lo _ (Lo _ g1);have k2:∀b u,b≠D->s.heap.get? b=some u->((h1.push {cls:= .type "tuple",data:= .seq vs.toArray}).push {cls:= .type "list",data:= .seq ([]:List R7).toArray}).get? b=some u:=λb u n z=>Lo _ (Lo _ (k1 b u n z));show Sf _ _ _ _ _ {s with heap:=(h1.push {cls:= .type "tuple",data:= .seq vs.toArray}).push {cls:= .type "list",data:= .seq ([]:List R7).toArray}};generalize (h1.push {cls:= .type "tuple",data:= .seq vs.toArray}).push {cls:= .type "list",data:= .seq ([]:List R7).toArray}=h2 at*;refine SA ?_;have hz:vs.toArray.size=n:=by rw [Lw];exact hv
 have last:∀(st:SortSt)(p:Array Nat),bI n p->Up (λi j=>aL (kp i) (kp j)) p n->Tj st=none->(arrOf st).map (·.2)=(p.toList.map λi=>vs.getD i .none).toArray->
  Sf (Si P w) A (do
   let touched:=(<-seqEpoch D) !=e1
   Of (.ref D) λ_=>(arrOf st).map (·.2)
   if let some e:=Tj st then rule "list.sort.comparison-raised";throw e
   if touched then rule "list.sort.modified";raiseError "ValueError" "list modified during sort"
   ret .none) C E {s with heap:=h2}:=by
  intro st p p1 p2 hf ho;rw [ho,hf];refine Sa (Th (s:={s with heap:=h2}) g2 rfl ?_);refine Sa (SU (s:={s with heap:=h2}) g2 rfl ?_ (Mb _) (by rw [Lw,Lm,LR,p1.size];omega));simp only [bne_self_eq_false,Nc,if_false];have u3:=MT h2 D (L6 λ_=>(p.toList.map λi=>vs.getD i Nn).toArray);exact Sg (q p p1 p2 _ _ (SR g2 λ_=>(p.toList.map λi=>vs.getD i Nn).toArray) λb u n z=>(u3.2 b n).trans (k2 b u n z))
 by_cases h2':n < 2
 ·simp only [hz,h2',if_true];refine Sa (Sg (Sa (Sg ?_)));refine last _ (OL (Mv n)) (mY n) (λi j a b=>by omega) rfl ?_;show(vs.toArray.zip vs.toArray).map (·.2)=_;apply OC.mp;simp only [Pr,Pu];rw [OD R0];apply Nm (by simp [hv]);intro i a b;simp at a b⊢;rw [LG a];rfl
 ·simp only [hz,h2',if_false];have hk2:∀i v,vs[i]?=some v->fU h2 v (kp i):=λi v e=>by
   obtain⟨⟨a,o,m,t,u,rfl,x1,x2,x3⟩,ne⟩:=hk i v e;exact⟨a,o,m,t,u,rfl,k2 a o (λz=>ne (by rw [z])) x1,x2,x3⟩
  refine Sa (AH (s:={s with heap:=h2}) hk2 R0 ?_);refine Sa (Sz (kat_run (κ:=Tq true) (ks:=vs) (s:={s with heap:=h2}) (E:=λ_ _=>False) (Q:=λst' s'=>s'={s with heap:=h2}/\∃p,bI n p/\Up (λi j=>aL (kp i) (kp j)) p n/\arrOf st'=p.map (kas_item (vs.toArray.zip vs.toArray))/\Tj st'=none) (G:=λp s'=>s'={s with heap:=h2}/\bI n p/\Up (λi j=>aL (kp i) (kp j)) p n) rfl R0 R0
   (λp st' s' a b c d=>⟨d.1,p,d.2.1,d.2.2,b,c⟩) ?_) (λr s' hr=>?_) λ_ _ x=>x.elim)
  ·rw [hv];exact AI (s:={s with heap:=h2}) hv R0 hk2 hd λp a b=>⟨rfl,a,b⟩
  ·obtain⟨rfl,p,p1,p2,p3,p4⟩:=hr;exact last _ p p1 p2 p4 (kat_snds rfl p3)
end
theorem Hx{X:Cx}:cO X (.builtin "sorted") (λxs H Q=>∃(p:R8)(us:List V)(O:Ex)(ps:List (Int×Str)),xs=[.ref p]/\aN X.K H p us/\aj X.K H O us (ps.map bP)/\ps.length < 64/\ps.Nodup/\∀(l:R8)(us':List V)(ps':List (Int×Str)),H l=none->aj X.K H O us' (ps'.map bP)->ps'.Perm ps->ps'.Pairwise (λa b=>aL a b=true)->Q (.ref l) (ak H l (.lst us'))):=by
 intro TR s σ H xs ws Q I r h;obtain⟨l,us,O,ps,rfl,hq,hd,h64,nd,q⟩:=h;obtain⟨u,rfl,rx⟩:=cP r;cases rx;have hsl:Sb=16777216:=SE;obtain⟨vs,hv,pl,hz⟩:=I.list hq;have lv:vs.length=ps.length:=by rw [<-hv.length,hd.length,Lm]
 refine N5 kind_sorted plain_sorted entry_sorted (args_sorted1 _) ?_;unfold Builtin.«sorted»;refine Sa (m:=checkCount "sorted" 1 1 _) (Sg ?_);refine Sa (collect_list pl.isList ?_ R0);have I1:ae X TR σ H {s with heap:=(s.heap.push (Sr "list" #[] 0)).update s.heap.objs.size (L6 (·++vs.toArray))}:=by
  refine I.kept (t':=s.toks) λb u z=>?_;have hlt:b < s.heap.objs.size:=LJ z;exact(OP _ _ _ _ (LV hlt)).trans (Lo _ z)
 generalize (s.heap.push (Sr "list" #[] 0)).update s.heap.objs.size (L6 (·++vs.toArray))=h1 at*;refine Sa (SW (s:={s with heap:=h1}) ?_ R0);have I2:ae X TR σ H {s with heap:=h1.push (Sr "list" vs.toArray 0)}:=I1.kept (t':=s.toks) λb u z=>Lo _ z;have gD:(h1.push (Sr "list" vs.toArray 0)).get? h1.objs.size=some (Sr "list" vs.toArray 0):=LU _ rfl;have hH:H h1.objs.size=none:=I1.hok.fresh (Lr _);have oD:g6 X TR h1.objs.size:=I1.out (Lr _);have isp:∀i v,vs[i]?=some v->fU (h1.push (Sr "list" vs.toArray 0)) v (ps.getD i (0,Lk ""))/\v≠ .ref h1.objs.size:=λi v ei=>by
  have hi:i < ps.length:=by rw [<-lv];exact(Lz.mp ei).1
  obtain⟨x,ex,rx⟩:=jI hv ei;obtain⟨y,ey,dy⟩:=jb (i:=i) (d:=bP ps[i]) hd (by rw [LD,LG hi];rfl);rw [ex] at ey;cases ey;have e:ps.getD i (0,Lk "")=ps[i]:=by simp [hi]
  rw [e];have a:=sf I1 dy rx;refine⟨sf I2 dy rx,λz=>?_⟩;obtain⟨ad,o,m,t,u,e1,e2,_⟩:=a;rw [e1] at z;cases z;exact absurd (LJ e2) (Nj _)
 refine Sa (SA (S6 Tw ⟨_,gD,rfl⟩ Tu ?_ (args_list_sort _)));refine Hw (s:={s with heap:=h1.push (Sr "list" vs.toArray 0)}) (n:=ps.length) (kp:=λi=>ps.getD i (0,Lk "")) lv h64 gD isp (λi j hi hj ee=>?_) λp pp pu h' c g kept=>?_
 ·have e1':ps.getD i (0,Lk "")=ps[i]:=by simp [hi]
  have e2':ps.getD j (0,Lk "")=ps[j]:=by simp [hj]
  rw [e1',e2'] at ee;exact(NW nd).mp ee
 ·have lt:∀i∈p.toList,i < ps.length:=λi hi=>by simpa using pp.perm.mem_iff.mp hi
  have dm:aj X.K H O (p.toList.map λi=>us.getD i .non) ((p.toList.map λi=>ps.getD i (0,Lk "")).map bP):=by
   have:∀l:List Nat,(∀i∈l,i < ps.length)->aj X.K H O (l.map λi=>us.getD i .non) ((l.map λi=>ps.getD i (0,Lk "")).map bP):=by
    intro l
    induction l with
    | nil=>intro _;exact .nil
    | cons a l ih=>
     intro hl;have ha:=hl a R5;refine .cons ?_ (ih λi hi=>hl i (by simp [hi]));obtain⟨x,ex,dx⟩:=jb (i:=a) (d:=bP ps[a]) hd (by rw [LD,LG ha];rfl);have e1':us.getD a .non=x:=by simp [ex]
     have e2':ps.getD a (0,Lk "")=ps[a]:=by simp [ha]
     show Dt X.K H O (us.getD a .non) (bP (ps.getD a (0,Lk "")));rw [e1',e2'];exact dx
   exact this _ lt
  have vm:aA (p.toList.map λi=>us.getD i .non) (p.toList.map λi=>vs.getD i .none):=by
   have:∀l:List Nat,(∀i∈l,i < ps.length)->aA (l.map λi=>us.getD i .non) (l.map λi=>vs.getD i .none):=by
    intro l
    induction l with
    | nil=>intro _;exact .nil
    | cons a l ih=>
     intro hl;have ha:=hl a R5;refine .cons ?_ (ih λi hi=>hl i (by simp [hi]));obtain⟨x,ex,rx⟩:=jI hv (show vs[a]?=some (vs[a]'R0) by simp);have e1':us.getD a .non=x:=by simp [ex]
     have e2':vs.getD a .none=vs[a]'R0:=by simp [show a < vs.length by omega]
     show aC (us.getD a .non) (vs.getD a .none);rw [e1',e2'];exact rx
   exact this _ lt
  refine⟨_,rfl,Sg ⟨_,rfl,.ref h1.objs.size,ak H h1.objs.size (.lst (p.toList.map λi=>us.getD i .non)),?_,rfl,q _ _ (p.toList.map λi=>ps.getD i (0,Lk "")) hH dm ?_ ?_⟩⟩
  ·refine I2.track (t':=s.toks) (ch:=[h1.objs.size]) R5 (λb hb=>?_) (λb u hb z=>kept b u (λy=>hb (by simp [y])) z) ⟨?_,_,c,vm,g⟩
   ·rw [LX] at hb;subst hb;exact⟨hH,oD⟩
   ·rw [Lm,LR,pp.size];omega
  ·have h1:=pp.perm.map λi=>ps.getD i (0,Lk "");have e:(Mv ps.length).map (λi=>ps.getD i (0,Lk ""))=ps:=by
    apply Nm R5;intro i a b;simp at a b⊢;rw [LG b];rfl
   rw [e] at h1;exact h1
  ·rw [LO,MI];intro i j hi hj hij;have:=pu i j hij (by rw [LR,pp.size] at hj;exact hj);have ei:p.getD i 0=p.toList[i]:=by simp [NN,show i < p.size by simpa using hi]
   have ej:p.getD j 0=p.toList[j]:=by simp [NN,show j < p.size by simpa using hj]
   rw [ei,ej] at this;exact this
section
variable {X:Cx} {H0:Hp} {O0:Ex}
def sg(t:DA):DA:=λδ Q=>t δ λds=>∃ps:List (Int×Str),ds=[.list (ps.map bP)]/\ps.length < 64/\ps.Nodup/\∀ps':List (Int×Str),ps'.Perm ps->ps'.Pairwise (λa b=>aL a b=true)->Q (ps'.map bP)
theorem AM{a:Sd}{t:DA}{np p:Pos}(hg:Gl X "sorted")(hm:X.mg "sorted"=none)(hv:Sw "sorted"=some (.builtin "sorted"))(ha:PA X [a] (dS X.K H0 O0 t))(he:Se [a] X.env=(false,eval a X.env)::Se [] X.env:=by rfl)(hpl:(Sy p (Se [] X.env)).any (·.1)=false:=by rfl):
 FE X H0 O0 (.Call (.Name "sorted" np) [a] [] p) (sg t):=
 (bN Hx hg hm hv ha (he:=he) (hpl:=hpl)).imp λσ H Q uu22=>by obtain⟨O,δ,Qd,w,q,k⟩:=uu22;exact⟨O,δ,_,w,q,λds vs H1 uu23 s1 r1=>by
  obtain⟨ps,e,h64,nd,q1⟩:=uu23;subst e;cases r1 with
  | cons h r=>
   cases r;obtain⟨a,us,rfl,h1,d1⟩:=h.lst;exact⟨a,us,O,ps,rfl,h1,d1,h64,nd,λl us' ps' hl hd hp hs=>k _ _ _ _ (q1 ps' hp hs) s1 hl hd⟩⟩
def sj(F:List R6->(R6->Prop)->Prop)(kf:R6->Int×Str)(t:DA):DA:=λδ Q=>t δ λds0=>∃ds,ds0=[.list ds]/\(∀d∈ds,∀R:R6->Prop,R (bP (kf d))->F [d] R)/\ds.length < 64/\(ds.map kf).Nodup/\∀ds',ds'.Perm ds->ds'.Pairwise (λa b=>aL (kf a) (kf b)=true)->Q ds'
theorem Hy{a:Sd}{t:DA}{np p gp kp:Pos}{g:Str}{k:Nat}{f:R8}{fd:Sj}{ps:List Str}{F:List R6->(R6->Prop)->Prop}(kf:R6->Int×Str)(hc:X.calm=true)(Fk:aF X.prog X.w X.K X.mg X.base CX0 k f fd ps (bf X.K F))(hr:br k X.A.in1.in1)(hb:eF X.K fd ps [])
 (hgg:Gl X g)(hgm:X.mg g=some (.ref f))(hg:Gl X "sorted")(hm:X.mg "sorted"=none)(hv:Sw "sorted"=some (.builtin "sorted"))(ha:PA X [a] (dS X.K H0 O0 t))(hdb:(g==("__debug__":Str))=false:=by decide)
 (he:Sy p (Se [a] X.env)=(false,eval a X.env)::Sy p (Se [] X.env):=by rfl)(hplain:(Sy p (Se [a] X.env)).any (·.1)=false:=by rfl):
 FE X H0 O0 (.Call (.Name "sorted" np) [a] [⟨some "key",.Name g gp,kp⟩] p) (sj F kf t):=by
 intro TR s σ H Q I h;obtain⟨O,δ,Qd,w,q,kk⟩:=h;refine SY (j2 I hg hm hv ?_);refine callWith_kw (ax (ha p TR s σ H (λvs H1=>∃ds0,ao H H1/\jy X.K H1 O vs ds0/\∃ds,ds0=[.list ds]/\(∀d∈ds,∀R:R6->Prop,R (bP (kf d))->F [d] R)/\ds.length < 64/\(ds.map kf).Nodup/\∀ds',ds'.Perm ds->ds'.Pairwise (λa b=>aL (kf a) (kf b)=true)->Qd ds') I ⟨O,δ,_,w,q,λds0 vs H1 q1 s1 r1=>⟨ds0,s1,r1,q1⟩⟩) λus s1 hus=>?_) he hplain rfl rfl;obtain⟨vs,H1,I1,rv,ds0,s1',r1,ds,e,hF,h64,nd,q1⟩:=hus;subst e;refine kws_cons (lF I1 hgg hgm (kws_nil ?_) hdb);cases r1 with
 | cons h r=>
  cases r;obtain⟨ad,xs,rfl,hq,hd⟩:=h.lst;obtain⟨u,rfl,rx⟩:=cP rv;cases rx;exact Hv (kf:=kf) hc Fk hr hb (w.mono s1').trk I1 hq hd hF h64 nd λH' l xs' ds' a b c d e=>kk _ _ _ _ (q1 ds' d e) (s1'.trans a) b c
end
section
open PySem.SeqAt
open PySem.AutoSeq1 (wpAny_loadPart')
open PySem.MeetsSeq PySem.MeetsSeq2 PySem.MeetsSeq3
theorem Hz(l b:R8)(n n2:Nat)(dd dd2:Option R8)(sl sl2:Array (Option R7))(p q:Int×Str)(t1 t2 t3 t4:Tok):
 Meets (Builtin.«tuple.__lt__» ⟨[.ref l,.ref b],[]⟩)
  (λ_ R s=>s.heap.get? l=some {cls:= .type "tuple",dict:=dd,data:= .seq #[.int p.1 t1,.str p.2 t2] n,slots:=sl}/\s.heap.get? b=some {cls:= .type "tuple",dict:=dd2,data:= .seq #[.int q.1 t3,.str q.2 t4] n2,slots:=sl2}/\
   R (.ok (.ret (.bool (aL p q)))) s):=
 .of_wp λprog w A R s h=>by
  obtain⟨hp,g,d,tk,os⟩:=s;obtain⟨hl,hb,h⟩:=h;have f2:=Pw
  wp_walk using SF hl,SF hb,wpAny_forIn_list _ (λrest b s'=>b.1=none/\s'=⟨hp,g,d,tk,os⟩/\(rest=[(NU p.1 t1,NU q.1 t3),(Np p.2 t2,Np q.2 t4)]\/(rest=[(Np p.2 t2,Np q.2 t4)]/\p.1=q.1)\/(rest=[]/\p.1=q.1/\p.2=q.2))) _
  case turn=>
   rintro⟨y,x⟩ rest b s' ⟨hb',rfl,h3⟩;rcases h3 with h3 | ⟨h3,e1⟩ | ⟨h3,_⟩
   ·injection h3 with hyx hrest
    injection hyx with hy hx
    subst hy hx;obtain⟨e,he,hiff⟩:=HT.eqAt_int A.in1 ⟨hp,g,d,tk,os⟩ p.1 t1 q.1 t3;refine Sa (he prog w _ _ ?_);cases e with
    | true=>
     wp_walk
     exact⟨rfl,rfl,.inr (.inl ⟨hrest,hiff.mp rfl⟩)⟩
    | false=>
     have ne:p.1≠q.1:=λz=>absurd (hiff.mpr z) Lx;have hri:=HT.rcLt_int A.in1 ⟨hp,g,d,tk,os⟩ p.1 t1 q.1 t3 prog w;have hv:aL p q=decide (p.1 < q.1):=by unfold aL;simp [ne]
     rw [hv] at h
     wp_walk using hri
     exact⟨_,rfl,by simpa using h⟩
   ·injection h3 with hyx hrest
    injection hyx with hy hx
    subst hy hx;have he:=EqAt.str_str (A:=A.in1) (s:=⟨hp,g,d,tk,os⟩) p.2 t2 q.2 t4;refine Sa (he prog w _ _ ?_);cases e:(p.2==q.2) with
    | true=>
     wp_walk
     exact⟨rfl,rfl,.inr (.inr ⟨hrest,e1,eq_of_beq e⟩)⟩
    | false=>
     have hri:∀(E:R7->R9->Prop)(Q:R7->R9->Prop),Q (.bool (decide (p.2.cps.toList < q.2.cps.toList))) ⟨hp,g,d,tk,os⟩->Sf (Si prog w) A.in1 (richCompare .Lt (.str p.2 t2) (.str q.2 t4)) Q E ⟨hp,g,d,tk,os⟩:=λE Q z=>(lt_str z:Sf (Si prog w) A.in1 (Sv .Lt (.str p.2 t2) (.str q.2 t4)) Q E _);have hv:aL p q=decide (p.2.cps.toList < q.2.cps.toList):=by unfold aL;simp [e1]
     rw [hv] at h
     wp_walk using hri
     exact⟨_,rfl,by simpa using h⟩
   ·cases h3
  case fin=>
   rintro⟨b1,b2⟩ s' ⟨hb',rfl,h3⟩;simp only at hb';subst hb';rcases h3 with h3 | ⟨h3,e1⟩ | ⟨h3,e1,e2⟩
   ·cases h3
   ·cases h3
   ·have hv:aL p q=false:=by unfold aL;rw [e1,e2];simp
    rw [hv] at h
    wp_walk
    exact⟨_,rfl,by simpa [Builtin.Tuple.tupleCompareSizes] using h⟩
  case h=>
   exact⟨rfl,rfl,.inl rfl⟩
end
def AN(K:Ll):R2:=λx y H Q=>∃a b p q,x= .ref a/\y= .ref b/\aW K H a [.int p.1,.str p.2]/\aW K H b [.int q.1,.str q.2]/\Q (.bl (aL p q)) H
theorem HA{X:Cx}(hu:X.A.units < SG):bK X (Sv .Lt) (AN X.K):=by
 intro TR s σ H x y v u Q I rx ry h;obtain⟨a,b,p,q,rfl,rfl,ha,hb,z⟩:=h;cases rx;cases ry;obtain⟨its,r1,⟨⟨c1,d1,da1,s1⟩,o1,k1,n1,e1⟩,_⟩:=I.tuple ha;obtain⟨its2,r2,⟨⟨c2,d2,da2,s2⟩,o2,k2,n2,e2⟩,_⟩:=I.tuple hb;simp only at k1 e1 k2 e2;subst k1 e1 k2 e2;cases r1 with
 | cons x1 r1=>
  cases r1 with
  | cons x2 r1=>
   cases r1;obtain⟨t1,rfl⟩:=x1;obtain⟨t2,rfl⟩:=x2;cases r2 with
   | cons y1 r2=>
    cases r2 with
    | cons y2 r2=>
     cases r2;obtain⟨t3,rfl⟩:=y1;obtain⟨t4,rfl⟩:=y2;exact richCompare_meets_room (op:= .Lt) ⟨_,o1,rfl⟩ ⟨_,o2,rfl⟩ PySem.F.slot_tuple_lt PySem.F.entry_tuple_lt (PySem.F.args_tuple_lt_2 _ _) (Hz a b n1 n2 d1 d2 s1 s2 p q t1 t2 t3 t4) ⟨o1,o2,(λx=>nomatch x),.bl (aL p q),H,I,rfl,z⟩ hu
def sk:R6->R6->(R6->Prop)->Prop:=λx y Q=>∃p q:Int×Str,x=bP p/\y=bP q/\Q (.bool (aL p q))
theorem HB{K:Ll}:cv K (AN K) sk:=λH O x y dx dy Qd R _ hx hy uu24 k=>by
 obtain⟨p,q,e1,e2,z⟩:=uu24;subst e1 e2;obtain⟨a,xs,rfl,h1,g1⟩:=hx.tup;obtain⟨b,ys,rfl,h2,g2⟩:=hy.tup;cases g1 with
 | cons x1 g1=>
  cases g1 with
  | cons x2 g1=>
   cases g1;cases x1;cases x2;cases g2 with
   | cons y1 g2=>
    cases g2 with
    | cons y2 g2=>
     cases g2;cases y1;cases y2;exact⟨a,b,p,q,rfl,rfl,h1,h2,k _ _ H z (ao.refl _) (.bl _)⟩
section
variable {X:Cx} {H0:Hp} {O0:Ex}
def HC(tc:DB)(tb:DS):DS:=λE δ=>∃W:Nat->Dl->Prop,(∃m,W m δ)/\∀m δ,W m δ->tc δ λb=>if b=true then tb {E with nx:=λδ'=>∃m',m' < m/\W m' δ',ct:=λδ'=>∃m',m' < m/\W m' δ',bk:=E.nx} δ else E.nx δ
theorem HD{c:Sd}{body:List Sq}{tc:DB}{tb:DS}{pos:Pos}(hp:Tp (Si X.prog X.w) X.A X.env X.xe)(hc:PT X c (bM X.K H0 O0 tc))(hb:bJ X body (bx X.K H0 O0 tb)):PS X (.While c body [] pos) (bx X.K H0 O0 (HC tc tb)):=
 (vo hp hc hb).imp λD σ H uu25=>by
  obtain⟨O,δ,E,w,⟨W,⟨m0,w0⟩,st⟩,k1,k2,k3,k4⟩:=uu25;refine⟨λm σ' H'=>∃O' δ',Wd X.K H0 O0 H' O' σ' δ'/\aZ H H' O O'/\W m δ',⟨m0,O,δ,w,aZ.refl _ _,w0⟩,λm σ1 H1 ⟨O1,δ1,w1,S1,q1⟩=>⟨O1,δ1,_,w1,st m δ1 q1,λb H2 q2 s2=>?_⟩⟩;cases b with
  | false=>
   rw [R1 R5] at q2⊢;exact k1 O1 δ1 σ1 H2 q2 (w1.mono s2) (S1.trans (.same s2))
  | true=>
   rw [R3 rfl] at q2⊢;refine⟨λσ' H'=>∃O' δ' m',m' < m/\Wd X.K H0 O0 H' O' σ' δ'/\aZ H H' O O'/\W m' δ',λσ' H' uu27=>by obtain⟨O',δ',m',lt,w',S',q'⟩:=uu27;exact⟨m',lt,O',δ',w',S',q'⟩,O1,δ1,_,w1.mono s2,q2,?_,k2,?_,?_⟩
   ·rintro O' δ' σ' H' ⟨m',lt,q'⟩ w' S';exact⟨O',δ',m',lt,w',S1.trans ((aZ.same s2).trans S'),q'⟩
   ·intro O' δ' σ' H' q' w' S';exact k1 O' δ' σ' H' q' w' (S1.trans ((aZ.same s2).trans S'))
   ·rintro O' δ' σ' H' ⟨m',lt,q'⟩ w' S';exact⟨O',δ',m',lt,w',S1.trans ((aZ.same s2).trans S'),q'⟩
theorem bo.vals{K:Ll}{H:Hp}{O:Ex}{kv:List (ah×V)}{kd:List (ah×R6)}(h:bo K H O kv kd):aj K H O (kv.map (·.2)) (kd.map (·.2)):=by
 induction h with
 | nil=>exact .nil
 | cons a _ ih=>exact .cons a ih
abbrev g7(ks:List Str)(ds:List R6):R6:=wH (ks.map .str) ds
theorem dA.z{H:Hp}{a:R8}{ob:Obj}{kvs:List (ah×V)}{k:ah}(e:H a=some (.frz ob (.dK kvs))):dA H a (kV k) (dO kvs k):= .inl ⟨kvs,k,.inr ⟨ob,e⟩,rfl,rfl⟩
theorem ae.fast{X:Cx}{TR:List (R8×Obj)}{σ:St}{H:Hp}{s:R9}(I:ae X TR σ H s){a:R8}{kv:List (ah×V)}(ha:H a=some (.dK kv)):∃o,ae X TR σ (ak H a (.frz o (.dK kv))) s:=by
 obtain⟨z,hd,vs,rel,o,es,ep,g,r1,r2,r3⟩:=I.hok a _ ha;exact⟨o,I.write (x:=a) (e:=a) (o:= .frz o (.dK kv)) (h':=s.heap) (t':=s.toks) (by rw [ha];exact MU) (.inl rfl) (λ_ _ _ q=>q) ⟨o,g⟩ ⟨g,z,hd,vs,rel,o,es,ep,g,r1,r2,r3⟩⟩
theorem sq:∀{a b:List Str},a.map Lp=b.map Lp->a=b
 | [],[],_=>rfl
 | [],_::_,h=>by cases h
 | _::_,[],h=>by cases h
 | x::a,y::b,h=>by
  simp only [Lq,Mr,M9] at h;rw [h.1,sq h.2]
def cY:List Str->List R6->Str->Option R6
 | k::ks,d::ds,z=>if k=z then some d else cY ks ds z
 | _,_,_=>none
theorem AO{K:Ll}{H:Hp}{O:Ex}{z:Str}{d:R6}:∀{kv:List (ah×V)}{ks:List Str}{ds:List R6},kv.map (·.1)=ks.map Mi->aj K H O (kv.map (·.2)) ds->cY ks ds z=some d->∃v,dO kv (.inr z)=some v/\Dt K H O v d
 | [],[],ds,_,_,e=>by unfold cY at e;cases e
 | [],_::_,ds,h,_,_=>by cases h
 | _::_,[],ds,h,_,_=>by cases h
 | p::kv,k::ks,ds,h,hd,e=>by
  rw [Lq] at hd;cases hd with
  | cons h1 h2=>
   simp only [Lq,Mr] at h;obtain⟨p1,p2⟩:=p;obtain⟨rfl,h⟩:=h;unfold cY at e;by_cases hk:k=z
   ·rw [R3 hk] at e;cases e;exact⟨p2,kF (by rw [hk]),h1⟩
   ·rw [R1 hk] at e;obtain⟨v,a,b⟩:=AO h h2 e;exact⟨v,by rw [kG (λq=>hk (mU.mp q))];exact a,b⟩
def su(to tk:DT):DT:=λδ Q=>to δ λx=>∃ks ds,x=g7 ks ds/\tk δ λy=>∃z,y= .str z/\∃d,cY ks ds z=some d/\Q d
theorem fA{o e:Sd}{to tk:DT}{pos:Pos}(hu:X.A.units+64 < SG)(ho:DE X H0 O0 o to)(he:DE X H0 O0 e tk)(hs:mJ e):DE X H0 O0 (.Subscript o e pos) (su to tk):=
 (xc R0 ho he hs).imp λσ H Q uu28=>by
  obtain⟨O,δ,Qd,w,q,k⟩:=uu28;refine⟨O,δ,_,w,q,λx vx H1 ⟨ks,ds,ex,q1⟩ s1 r1=>?_⟩;subst ex;refine⟨O,δ,_,w.mono s1,q1,λy vy H2 ⟨z,ey,d,ed,q2⟩ s2 r2=>?_⟩;subst ey;cases r2;cases r1 with
  | @dic a ob kv ks' kp ds h e1 e2 n rr=>
   have ek:ks'=ks:=by
    have:ks'.map Lp=ks.map Lp:=e2.symm;exact sq this
   subst ek;obtain⟨v,hv,dv⟩:=AO e1 rr ed;exact⟨a,v,rfl,by rw [<-hv];exact dA.z (k:= .inr z) (s2 _ _ h),k _ _ _ q2 (s1.trans s2) (dv.mono s2)⟩
def sv(t:DT)(g:DG)(tc:DB)(te:DT)(k:Nat)(fr:List Nat):DA:=λδ Q=>kA t g tc te k fr δ Q\/kB t g tc te k fr δ Q
theorem HE{N':List Str}{k:Nat}{fr:List Nat}{scope:SH}{iter elt tg:Sd}{ifs:List Sd}{t te:DT}{tc:DB}{g:TG}{dg:DG}{pos:Pos}(hc:X.calm=true)(S:aY X.env.scope X.N N' k fr scope)(hi:DF X H0 O0 iter t)(gd:GD X.K g dg)(hk:fw g k)(hfr:fr.Nodup)
 (hg:∀fp C s H,PG (bh X scope N' fp C s H) tg g)(hf:∀fp C s H,dj (bh X scope N' fp C s H) ifs (bM X.K H0 O0 tc))(he:∀fp C s H,PE (bh X scope N' fp C s H) elt (up X.K H0 O0 te))
 (hs:∀x,Su iter X.env x=pure x:=by intro _;rfl):FE X H0 O0 (.ListComp elt [⟨tg,iter,ifs,0⟩] scope pos) (sv t dg tc te k fr):=by
 intro TR s σ H Q I h;obtain⟨O,δ,Qd,w,q,kk⟩:=h;rcases q with q | q
 ·exact eJ hc S hi gd hk hfr hg hf he hs TR s σ H Q I ⟨O,δ,Qd,w,q,kk⟩
 ·exact iY hc S hi gd hk hfr hg hf he hs TR s σ H Q I ⟨O,δ,Qd,w,q,kk⟩
end
theorem HF{fr:List Nat}{σ:St}{v u:Option V}:iP (bF 2 fr σ) (((bF 2 fr σ).set 0 v).set 1 u):=by
 refine⟨R5,λi w h=>?_⟩
 match i with
 | 0=>simp [bF,LC] at h
 | 1=>simp [bF,LC] at h
 | i+2=>simpa [bF,LC] using h
theorem sA{K:Ll}{n:Nat}:fw (lI K n (j4 (gg 0) (j4 (gg 1) lH))) 2:=λfr σ v H' R uu31=>by obtain⟨a,xs,e,h1,h2,x,r,e1,y,r2,e2,e3,h⟩:=uu31;exact⟨a,xs,e,h1,h2,x,r,e1,y,r2,e2,e3,HF,h⟩
def AQ(K:Ll):R2:=λx y H Q=>∃a b xs ys,x= .ref a/\y= .ref b/\aW K H a xs/\aW K H b ys/\xs.length+ys.length<=Sb/\(xs=[]->Q (.ref b) H)/\(xs≠[]->pf K x y H Q)
theorem kO{X:Cx}:bK X (SQ .Add) (AQ X.K):=by
 intro TR s σ H x y v u Q I rx ry h;obtain⟨a,b,xs,ys,rfl,rfl,ha,hb,hz,q0,q1⟩:=h;by_cases hx:xs=[]
 ·subst hx;cases rx;cases ry;obtain⟨its,r1,⟨⟨c1,d1,da1,s1⟩,o1,k1,n1,e1⟩,_⟩:=I.tuple ha;obtain⟨its2,r2,⟨⟨c2,d2,da2,s2⟩,o2,k2,n2,e2⟩,_⟩:=I.tuple hb;simp only at k1 e1 k2 e2;subst k1 e1 k2 e2;cases r1;exact concat_meets ⟨_,o1,rfl⟩ ⟨_,o2,rfl⟩ TK seq_tuple_add Ot Oe (N9 _ _)
   (tuple_addW0 a b _ its2.toArray n1 n2 d1 d2 s1 s2 R5) ⟨o1,o2,.ref b,H,I,rfl,q0 rfl⟩
 ·exact ES TR s σ H _ _ v u Q I rx ry (q1 hx)
def sC:R6->R6->(R6->Prop)->Prop:=λx y Q=>∃xs ys,x= .tuple xs/\y= .tuple ys/\xs.length+ys.length<=Sb/\Q (.tuple (xs++ys))
theorem kP{K:Ll}:cv K (AQ K) sC:=λH O x y dx dy Qd R tr hx hy uu32 k=>by
 obtain⟨xs,ys,e1,e2,hz,q⟩:=uu32;subst e1 e2;have hx0:=hx;have hy0:=hy;obtain⟨a,vs,rfl,h1,d1⟩:=hx.tup;obtain⟨b,us,rfl,h2,d2⟩:=hy.tup;refine⟨a,b,vs,us,rfl,rfl,h1,h2,by rw [d1.length,d2.length];exact hz,λz=>?_,λz=>?_⟩
 ·subst z;cases d1;rw [Mq] at q;cases hy0 with
  | dt hy0=>exact k _ _ H q (ao.refl _) hy0
 ·exact F6 H O _ _ _ _ Qd R tr hx0 hy0 ⟨xs,ys,rfl,rfl,λe=>z (by subst e;cases d1;rfl),hz,q⟩ k
def eO(f:Str)(d:R6):List (Str×R6)->List (Str×R6)
 | []=>[(f,d)]
 | (g,x)::r=>if g=f then(g,d)::r else(g,x)::eO f d r
theorem iT.put{K:Ll}{H:Hp}{O:Ex}{f:Str}{v:V}{d:R6}(hv:Dt K H O v d):∀{fs:List (Str×V)}{fd:List (Str×R6)},iT K H O fs fd->iT K H O (di f v fs) (eO f d fd)
 | [],[],_=>⟨rfl,.cons hv .nil⟩
 | [],_::_,h=>by cases h.1
 | _::_,[],h=>by cases h.1
 | (g,x)::fs,(g',y)::fd,⟨h1,h2⟩=>by
  simp only [Lq,Mr] at h1;obtain⟨rfl,h1⟩:=h1;simp only [Lq] at h2;cases h2 with
  | cons a r=>
   unfold di eO;by_cases e:g=f
   ·rw [R3 e,R3 e];exact⟨by simp only [Lq,h1],.cons hv r⟩
   ·rw [R1 e,R1 e];obtain⟨q1,q2⟩:=iT.put hv (fs:=fs) (fd:=fd) ⟨h1,r⟩;exact⟨by simp only [Lq,q1],.cons a q2⟩
section
variable {X:Cx} {H0:Hp} {O0:Ex}
def sE(C:R8)(i:Nat)(f:Str)(t:DT):DS:=λE δ=>t δ λd=>∃l fd,δ[i]?=some (some (.i l C fd))/\fd.length < 1000/\E.nx (δ.set i (some (.i l C (eO f d fd))))
theorem kQ{C:R8}{i:Nat}{f:Str}{o e:Sd}{t:DT}{pos pos':Pos}(hc:gq X.K C)(hn:NoAttr X.K C f)(ho:PE X o (c7 i))(he:DE X H0 O0 e t)(hs:Sx e (some (.Attribute o f pos')) pos.line X.env=pure false:=by rfl):
 PS X (.Assign [.Attribute o f pos'] e pos) (bx X.K H0 O0 (sE C i f t)):=
 (Et ho he hs).imp λD σ H ⟨O,δ,E,w,q,k1,k2,k3,k4⟩=>⟨O,δ,_,w,q,λd u H1 uu34 s1 r1=>by
  obtain⟨l,fd,e,hl,q1⟩:=uu34;have w1:=w.mono s1;obtain⟨dx,fs,h,a,b,c,r⟩:=w1.ownI e;have lf:fs.length=fd.length:=by have:=congrArg Oq r.1;simpa using this
  refine⟨.ref l,h,l,C,dx,fs,rfl,c,hc,hn,by rw [lf];exact hl,k1 _ _ _ _ q1 (w1.putY (y0:= .i l C fd) (y1:= .i l C (eO f d fd)) trivial trivial e h λS a b=>⟨dx,_,rfl,a,b,bb,?_⟩) ⟨λb' o' z n=>?_,λ_ _ n=>n⟩⟩
  ·obtain⟨z1,z2⟩:=r.put (f:=f) r1;exact⟨z1,z2.step S⟩
  ·rw [aD (λy=>n (by rw [y];exact a))];exact s1 _ _ z⟩
abbrev AR(C:R8)(fd:List (Str×R6)):R6:=iS C (fd.map λp=>.str p.1) (fd.map (·.2))
inductive mZ (K:Ll) (C:R8) (F:List R6->(R6->Prop)->Prop) (vs:List V) (H:Hp) (Q:VK) (E:XK):Prop
 | mk (x dx:R8) (vs':List V) (H1:Hp) (O:Ex) (ds:List R6) (Qd:R6->Prop):vs= .ref x::vs'->H=ak (ak H1 dx (.own x)) x (.ins C dx [])->H1 x=none->H1 dx=none->dx≠x->(∀l,O l->H1 l≠none)->aj K H1 O vs' ds->F ds Qd->
 (∀d H',Qd d->ao H1 H'->Dt K H' O (.ref x) d->Q .non H')->mZ K C F vs H Q E
theorem HG{K:Ll}{C:R8}{F:List R6->(R6->Prop)->Prop}{t:DA}{E:XK}:∀σ H Q,up K H0 O0 (ie F t) σ H Q->vV C (mZ K C F) [] E (eZ K H0 O0 t) σ H Q:=
 λσ H Q uu35=>by obtain⟨O,δ,Qd,w,q,k⟩:=uu35;exact⟨O,δ,_,w,q,λds vs H1 q1 s1 r1 x dx hx hdx ne=>⟨x,dx,vs,H1,O,ds,Qd,by rw [Mw],rfl,hx,hdx,ne,(w.mono s1).trk,r1,q1,λd H2 q2 s2 r2=>⟨rfl,k d _ H2 q2 (s1.trans s2) r2⟩⟩⟩
def sF(N:List Str)(l C:R8)(ds:List R6):Dl:=some (.i l C [])::(gC N (.none::ds)).tail
theorem HH{K:Ll}{H1:Hp}{O:Ex}{N:List Str}{vs:List V}{ds:List R6}{x dx C:R8}(tr:∀l,O l->H1 l≠none)(r:aj K H1 O vs ds)(hx:H1 x=none)(hdx:H1 dx=none)(ne:dx≠x):
 Wd K H1 O (ak (ak H1 dx (.own x)) x (.ins C dx [])) (λl=>O l\/l=x) (start N (.ref x::vs)) (sF N x C ds):=by
 have w0:=wU (N:=N) tr (.cons .non r);have w1:=w0.mono (ao.new (o:=HO.own x) hdx);have hx1:(ak H1 dx (.own x)) x=none:=by rw [aD (Ne.symm ne)];exact hx
 have:=w1.setY (i:=0) (p:=x) (ho:= .ins C dx []) (y0:= .i x C []) trivial hx1 λO' S a b=>⟨dx,[],rfl,a,b,bb,rfl,.nil⟩;exact this
end
section
variable {P:Sk} {w:Sm} {K:Ll} {mg:Str->Option R7} {base:Sn}
theorem eY.okI{x qual:Str}{st:Sq}{f C:R8}{fd:Sj}{N ps:List Str}{k:Nat}{F:List R6->(R6->Prop)->Prop}(Fu:eY K x qual st f fd)(S:aS N ps (av st))(len:∀ds Q,F ds Q->ds.length+1=ps.length)
 (hbody:∀(cdv:R7) (A:Ss) (outer:List Env) (s:R9) (H H1:Hp) (O:Ex) (ds:List R6) (Q:R6->Prop) (E:XK) (l:R8),br k (A.deeper (Te qual (av st) s.heap.objs.size f cdv))->F ds Q->
  ∃t,bJ (gN CX0 P w K mg base N qual (av st) f cdv A outer s H E).nox (eX st) (bx K H1 O t)/\t {nx:=λδ=>∃fd,δ[0]?=some (some (.i l C fd))/\Q (AR C fd),rt:=λ_=>False} (sF N l C ds)):aF P w K mg base CX0 (k+1) f fd ps (mZ K C F):=by
 refine Fu.ok S (λvs H Q E h=>?_) (λcdv A outer s H vs Q E hr h=>?_)
 ·obtain⟨x,dx,vs',H1,O,ds,Qd,rfl,_,_,_,_,_,r,q,_⟩:=h;rw [LP,r.length];exact len _ _ q
 ·obtain⟨x,dx,vs',H1,O,ds,Qd,rfl,rfl,hx,hdx,ne,tr,r,q,k⟩:=h;obtain⟨t,ht,q'⟩:=hbody cdv A outer s _ H1 O ds Qd E x hr q;refine⟨_,ht,_,_,_,HH tr r hx hdx ne,q',λO' δ' σ' H' z w' S'=>?_,λd v H' z s' r'=>z.elim,λ_ _ _ _ z=>z.elim,λ_ _ _ _ z=>z.elim⟩;obtain⟨fd,e,z⟩:=z;obtain⟨dx',fs,h,a,b,c,r1,r2⟩:=w'.ownI e;refine k _ _ z w'.same (.obj c ?_ b (r2.step ⟨λ_ _ y _=>y,λb' _ n z=>n (w'.sub b' z)⟩));rw [show(fd.map λp:Str×R6=>Lp p.1)=(fd.map (·.1)).map Lp by rw [LH];rfl,<-r1,LH];rfl
end
theorem Dt.objI{K:Ll}{H:Hp}{O:Ex}{v:V}{C:R8}{kp ds:List R6}(h:Dt K H O v (iS C kp ds)):∃a dx fs,v= .ref a/\H a=some (.ins C dx fs)/\kp=fs.map (λp=>Lp p.1)/\aj K H O (fs.map (·.2)) ds:=by
 generalize e:iS C kp ds=x at h;cases h with
 | @obj a C' dx fs kp' ds' h1 h2 n r=>
  simp only [iS,PyData.dict.injEq,Mr,Rt,Nq,OE,Pc,and_true,true_and] at e;obtain⟨e1,e2,e3⟩:=e;have e1:C=C':=by exact_mod_cast e1
  subst e1 e2 e3;exact⟨a,dx,fs,rfl,h1,h2,r⟩
 | _=>first | cases e | simp [iS] at e
section
variable {X:Cx} {H0:Hp} {O0:Ex}
theorem AS{K:Ll}{H:Hp}{O:Ex}{f:Str}{d:R6}:∀{fs:List (Str×V)}{ks:List Str}{ds:List R6},fs.map (λp=>Lp p.1)=ks.map Lp->aj K H O (fs.map (·.2)) ds->cY ks ds f=some d->∃v,fs.lookup f=some v/\Dt K H O v d
 | [],[],ds,_,_,e=>by unfold cY at e;cases e
 | [],_::_,ds,h,_,_=>by cases h
 | _::_,[],ds,h,_,_=>by cases h
 | (g,x)::fs,k::ks,ds,h,hd,e=>by
  rw [Lq] at hd;cases hd with
  | cons h1 h2=>
   simp only [Lq,Mr,M9] at h;obtain⟨rfl,h⟩:=h;unfold cY at e;rw [L4];by_cases hk:g=f
   ·rw [R3 hk] at e;cases e;subst hk;exact⟨x,R5,h1⟩
   ·rw [R1 hk] at e;have:(f==g)=false:=by simpa using Ne.symm hk
    rw [this];exact AS h h2 e
def sG(C:R8)(f:Str)(t:DT):DT:=λδ Q=>t δ λx=>∃ks ds d,x=iS C (ks.map .str) ds/\cY ks ds f=some d/\Q d
theorem AU{C:R8}{f:Str}{e:Sd}{t:DT}{pos:Pos}(hc:gq X.K C)(hn:NoAttr X.K C f)(he:DE X H0 O0 e t)(hb:SJ e f X.env (eval e X.env)=eval e X.env:=by rfl):DE X H0 O0 (.Attribute e f pos) (sG C f t):=
 (Es he hb).imp λσ H Q uu36=>by obtain⟨O,δ,Qd,w,q,k⟩:=uu36;exact⟨O,δ,_,w,q,λx v H1 uu37 s1 r1=>by
  obtain⟨ks,ds,d,ex,ed,q1⟩:=uu37;subst ex;obtain⟨a,dx,fs,rfl,h1,h2,r⟩:=r1.objI;obtain⟨v,hv,dv⟩:=AS h2.symm r ed;exact⟨a,C,dx,fs,v,rfl,h1,hc,hn,hv,k _ _ _ q1 s1 dv⟩⟩
end
def sH:List R6->(R6->Prop)->Prop:=λds Q=>∃ns:List Int,ds=[.list (ns.map .int)]/\Q (.int ns.sum)
theorem HI{K:Ll}:gw K (λxs H Q=>∃(a:R8)(ns:List Int),xs=[.ref a]/\aN K H a (ns.map V.int)/\Q (.int ns.sum) H) sH:=λH O xs ds Qd R tr hs uu38 k=>by
 obtain⟨ns,e,q⟩:=uu38;subst e;cases hs with
 | cons h r=>
  cases r;obtain⟨a,vs,rfl,h1,d1⟩:=h.lst;cases d1.intsL;exact⟨a,ns,rfl,h1,k _ _ H q (ao.refl _) (.int _)⟩
section
variable {X:Cx} {H0:Hp} {O0:Ex}
theorem aj.rep{K:Ll}{H:Hp}{O:Ex}{vs:List V}{ds:List R6}(h:aj K H O vs ds):∀n:Nat,aj K H O (LC n vs).flatten (LC n ds).flatten
 | 0=>.nil
 | n+1=>by rw [M4,M4,Nv,Nv];exact h.append (aj.rep h n)
end
end L2
namespace Day
def fB(y:Int):Bool:=decide (y % 400=0) || (decide (y % 4=0) && !decide (y % 100=0))
def ld(y:Int):Int:=if fB y=true then 1 else 0
def sI:List Int:=[31,28,31,30,31,30,31,31,30,31,30,31]
def aU(y m:Int):Int:=if m=2/\fB y=true then 29 else sI.getD (m - 1).toNat 0
def lb(y:Int):Int:=(y - 1)/ 4 - (y - 1)/ 100+(y - 1)/ 400
def bY(y:Int):Int:=365*(y - 2000)+lb y - lb 2000
def aG(y m:Int):Int:=((Mv (m - 1).toNat).map λ(i:Nat)=>aU y (1+(i:Int))).sum
def fV(y m n:Int):Int:=bY y+aG y m+n - 1
structure iz (d y m n:Int):Prop where
 m1:1<=m
 m12:m<=12
 n1:1<=n
 nl:n<=aU y m
 eq:fV y m n=d
theorem AV(y:Int):0<=ld y/\ld y<=1:=by unfold ld;split <;> omega
theorem kR(y:Int):fB y=true↔(y % 400=0\/(y % 4=0/\y % 100≠0)):=by
 unfold fB;simp
theorem AW(y:Int):bY (y+1)=bY y+365+ld y:=by
 unfold bY lb ld;by_cases h:fB y=true
 ·rw [R3 h];have:=(kR y).mp h;omega
 ·rw [R1 h];have:=mt (kR y).mpr h;omega
theorem AX{a b:Int}(h:a+1<=b):bY (a+1)<=bY b:=by
 unfold bY lb;omega
theorem nc(y:Int):aU y 2=28+ld y:=by
 unfold aU ld;by_cases h:fB y=true
 ·rw [R3 ⟨rfl,h⟩,R3 h];rfl
 ·rw [R1 (λz=>h z.2),R1 h];rfl
theorem sJ{y m:Int}(h:m≠2):aU y m=sI.getD (m - 1).toNat 0:=by
 unfold aU;rw [R1 (λz=>h z.1)]
theorem ng(y:Int):aU y 1=31/\aU y 3=31/\aU y 4=30/\aU y 5=31/\aU y 6=30/\aU y 7=31/\aU y 8=31/\aU y 9=30/\aU y 10=31/\aU y 11=30/\aU y 12=31:=by
 refine⟨?_,?_,?_,?_,?_,?_,?_,?_,?_,?_,?_⟩ <;> (rw [sJ RZ];rfl)
theorem nh{m:Int}(h1:1<=m)(h2:m<=12):m=1\/m=2\/m=3\/m=4\/m=5\/m=6\/m=7\/m=8\/m=9\/m=10\/m=11\/m=12:=by
 obtain⟨k,e⟩:=My (show 0<=m - 1 by omega);have e:m=(k:Int)+1:=R0
 have hk:k < 12:=R0
 have key:∀k:Fin 12,((k.1:Nat):Int)+1=1\/((k.1:Nat):Int)+1=2\/((k.1:Nat):Int)+1=3\/((k.1:Nat):Int)+1=4\/((k.1:Nat):Int)+1=5\/((k.1:Nat):Int)+1=6\/((k.1:Nat):Int)+1=7\/((k.1:Nat):Int)+1=8\/((k.1:Nat):Int)+1=9\/((k.1:Nat):Int)+1=10\/((k.1:Nat):Int)+1=11\/((k.1:Nat):Int)+1=12:=cp
 rw [e];exact key ⟨k,hk⟩
theorem AY{y m:Int}(h1:1<=m)(h2:m<=12):28<=aU y m/\aU y m<=31:=by
 obtain⟨m1,m3,m4,m5,m6,m7,m8,m9,m10,m11,m12⟩:=ng y;have m2:28<=aU y 2/\aU y 2<=31:=by
  have:=AV y;rw [nc];clear m1 m3 m4 m5 m6 m7 m8 m9 m10 m11 m12 h1 h2;omega
 have k:∀{z:Int},z=31\/z=30->28<=z/\z<=31:=λh=>by rcases h with h | h <;> rw [h] <;> decide
 rcases nh h1 h2 with h | h | h | h | h | h | h | h | h | h | h | h <;> subst h
 ·exact k (.inl m1)
 ·exact m2
 ·exact k (.inl m3)
 ·exact k (.inr m4)
 ·exact k (.inl m5)
 ·exact k (.inr m6)
 ·exact k (.inl m7)
 ·exact k (.inl m8)
 ·exact k (.inr m9)
 ·exact k (.inl m10)
 ·exact k (.inr m11)
 ·exact k (.inl m12)
theorem sL(y:Int):aG y 1=0:=rfl
theorem dP{y m:Int}(h:1<=m):aG y (m+1)=aG y m+aU y m:=by
 unfold aG;have e:(m+1 - 1).toNat=(m - 1).toNat+1:=R0
 rw [e,OJ,LS,List.sum_append];have e2:(1:Int)+(((m - 1).toNat:Nat):Int)=m:=R0
 simp only [Lq,Mp,Ru,List.sum_nil,e2];omega
theorem HJ{a b c:Int}(l:Int)(h:a+b=c):a+(b+l)=c+l:=R0
theorem gF{a b c:Int}(l:Int)(h:a+b=c):a+l+b=c+l:=R0
theorem sM(y:Int):aG y 1=0/\aG y 2=31/\aG y 3=59+ld y/\aG y 4=90+ld y/\aG y 5=120+ld y/\aG y 6=151+ld y/\aG y 7=181+ld y/\aG y 8=212+ld y/\aG y 9=243+ld y/\aG y 10=273+ld y/\aG y 11=304+ld y/\aG y 12=334+ld y/\aG y 13=365+ld y:=by
 obtain⟨m1,m3,m4,m5,m6,m7,m8,m9,m10,m11,m12⟩:=ng y;have e2:aG y 2=31:=by rw [show aG y 2=aG y 1+aU y 1 from dP (m:=1) RZ,m1];rfl
 have e3:aG y 3=59+ld y:=by rw [show aG y 3=aG y 2+aU y 2 from dP (m:=2) RZ,e2,nc];exact HJ _ rfl
 have e4:aG y 4=90+ld y:=by rw [show aG y 4=aG y 3+aU y 3 from dP (m:=3) RZ,e3,m3];exact gF _ rfl
 have e5:aG y 5=120+ld y:=by rw [show aG y 5=aG y 4+aU y 4 from dP (m:=4) RZ,e4,m4];exact gF _ rfl
 have e6:aG y 6=151+ld y:=by rw [show aG y 6=aG y 5+aU y 5 from dP (m:=5) RZ,e5,m5];exact gF _ rfl
 have e7:aG y 7=181+ld y:=by rw [show aG y 7=aG y 6+aU y 6 from dP (m:=6) RZ,e6,m6];exact gF _ rfl
 have e8:aG y 8=212+ld y:=by rw [show aG y 8=aG y 7+aU y 7 from dP (m:=7) RZ,e7,m7];exact gF _ rfl
 have e9:aG y 9=243+ld y:=by rw [show aG y 9=aG y 8+aU y 8 from dP (m:=8) RZ,e8,m8];exact gF _ rfl
 have e10:aG y 10=273+ld y:=by rw [show aG y 10=aG y 9+aU y 9 from dP (m:=9) RZ,e9,m9];exact gF _ rfl
 have e11:aG y 11=304+ld y:=by rw [show aG y 11=aG y 10+aU y 10 from dP (m:=10) RZ,e10,m10];exact gF _ rfl
 have e12:aG y 12=334+ld y:=by rw [show aG y 12=aG y 11+aU y 11 from dP (m:=11) RZ,e11,m11];exact gF _ rfl
 have e13:aG y 13=365+ld y:=by rw [show aG y 13=aG y 12+aU y 12 from dP (m:=12) RZ,e12,m12];exact gF _ rfl
 exact⟨sL y,e2,e3,e4,e5,e6,e7,e8,e9,e10,e11,e12,e13⟩
theorem AZ{y m:Int}(h1:1<=m):∀k:Nat,m+k<=13->aG y m<=aG y (m+k)
 | 0,_=>by simp
 | k+1,h=>by
  have ih:=AZ (y:=y) h1 k R0;have e:m+((k+1:Nat):Int)=(m+k)+1:=R0
  rw [e,dP R0];have:=AY (y:=y) (m:=m+k) R0 R0;omega
theorem sN{y m m':Int}(h1:1<=m)(h2:m<=m')(h3:m'<=13):aG y m<=aG y m':=by
 have:=AZ (y:=y) h1 (m' - m).toNat R0;rw [show m+(((m' - m).toNat:Nat):Int)=m' by omega] at this;exact this
theorem sO{y m:Int}(h1:1<=m)(h2:m<=12):0<=aG y m/\aG y m+aU y m<=365+ld y:=by
 have a:=sN (y:=y) (m:=1) (m':=m) RZ h1 R0;have b:=sN (y:=y) (m:=m+1) (m':=13) R0 R0 RZ;rw [dP h1] at b;have c:=(sM y).1;have e:=(sM y).2.2.2.2.2.2.2.2.2.2.2.2;omega
theorem A1{y m m':Int}(h1:1<=m)(h2:m < m')(h3:m'<=12):aG y m+aU y m<=aG y m':=by
 have b:=sN (y:=y) (m:=m+1) (m':=m') R0 R0 R0;rw [dP h1] at b;exact b
theorem iz.in{d y m n:Int}(h:iz d y m n):bY y<=d/\d < bY (y+1):=by
 have:=sO (y:=y) h.m1 h.m12;have:=h.n1;have:=h.nl;have e:=h.eq;have:=AW y;unfold fV at e;omega
theorem iz.uniq{d y m n y' m' n':Int}(h:iz d y m n)(h':iz d y' m' n'):y=y'/\m=m'/\n=n':=by
 have a:=h.in;have b:=h'.in;have ey:y=y':=by
  rcases QO y y' with z | z | z
  ·have:=AX (a:=y) (b:=y') R0;omega
  ·exact z
  ·have:=AX (a:=y') (b:=y) R0;omega
 subst ey;have e:=h.eq;have e':=h'.eq;unfold fV at e e';have em:m=m':=by
  rcases QO m m' with z | z | z
  ·have:=A1 (y:=y) h.m1 z h'.m12;have:=h.nl;have:=h'.n1;omega
  ·exact z
  ·have:=A1 (y:=y) h'.m1 z h.m12;have:=h'.nl;have:=h.n1;omega
 subst em;exact⟨rfl,rfl,R0⟩
def jJ(d:Int):Int:=
 if d < bY (2000+d*400 / 146097) then 2000+d*400 / 146097 - 1
 else if bY (2000+d*400 / 146097+1)<=d then 2000+d*400 / 146097+1
 else 2000+d*400 / 146097
theorem HK(d:Int):bY (jJ d)<=d/\d < bY (jJ d+1):=by
 unfold jJ;have e:2000+d*400 / 146097 - 1+1=2000+d*400 / 146097:=R0
 by_cases h:d < bY (2000+d*400 / 146097)
 ·rw [R3 h,e];refine⟨?_,h⟩;unfold bY lb at*;omega
 ·rw [R1 h];by_cases h2:bY (2000+d*400 / 146097+1)<=d
  ·rw [R3 h2];refine⟨h2,?_⟩;unfold bY lb at*;omega
  ·rw [R1 h2];omega
def nj(y m n k:Int):Int:=fV ((y*12+m - 1+k)/ 12) ((y*12+m - 1+k)% 12+1) (min n (aU ((y*12+m - 1+k)/ 12) ((y*12+m - 1+k)% 12+1)))
theorem length_eq(y m:Int)(h1:1<=m)(h2:m<=12):(if m=2/\(y % 4≠0\/(y % 100=0/\y % 400≠0)) then(28:Int) else [31,29,31,30,31,30,31,31,30,31,30,31].getD (m - 1).toNat 0)=aU y m:=by
 by_cases h:m=2
 ·subst h;rw [nc];unfold ld;by_cases l:fB y=true
  ·rw [R3 l,R1 (by have:=(kR y).mp l;omega)];rfl
  ·rw [R1 l,R3 (by have:=mt (kR y).mpr l;omega)];rfl
 ·rw [sJ h,R1 (λz=>h z.1)];rcases nh h1 h2 with z | z | z | z | z | z | z | z | z | z | z | z <;> subst z <;> first | rfl | exact absurd rfl h
def fst(M:Int):Int:=fV (M / 12) (M % 12+1) 1
def Dn(M n:Int):Int:=fst M+n - 1
end Day
namespace L2
open PySem PySem.Spec PyProof.Rows PySem.W
def d2(m:Nat):List Nat:=[48+m / 10,48+m % 10]
section
variable {X:Cx} {H0:Hp} {O0:Ex}
def sP(t:DA)(u:DT):DA:=λδ Q=>t δ λds=>ds.length<=1000/\u δ λy=>∃i:Int,y= .int i/\0<=i/\i<=1000/\Q (LC i.toNat ds).flatten
theorem HL{e f:Sd}{t:DA}{u:DT}{pos:Pos}(h:FE X H0 O0 e t)(hf:DE X H0 O0 f u):FE X H0 O0 (.BinOp e .Mult f pos) (sP t u):=
 (aX E8 h hf).imp λσ H Q ⟨O,δ,Qd,w,q,k⟩=>⟨O,δ,_,w,q,λds vs p H1 q1 s1 hp r1=>⟨O,δ,_,w.mono (s1.trans (ao.new hp)),q1.2,λy v H2 uu40 s2 r2=>by
  obtain⟨i,e,i0,i1,q2⟩:=uu40;subst e;cases r2;refine⟨p,i,vs,rfl,rfl,s2 _ _ bb,R0,R0,?_,λp' hp'=>k _ _ p' _ q2 ((s1.trans (ao.new hp)).trans s2) hp' ((r1.rep i.toNat).mono ((ao.new hp).trans s2))⟩;have h1:=r1.length;have h2:(Sb:Nat)=16777216:=RZ
  have h3:=q1.1;have h4:vs.length*i.toNat<=1000*1000:=Rg R0 R0;omega⟩⟩
end
open PySem PySem.Spec PyProof.Rows PySem.W PySem.Calls
def d7{α:Type}(xs:List α)(n:Nat)(y:α):List α:=xs.take n++y::xs.drop n
theorem nk{α:Type}(xs:List α)(n:Nat)(y:α):(d7 xs n y).Perm (y::xs):=by
 unfold d7;refine QY.trans ?_;rw [P9]
theorem A2{α β:Type}(f:α->β)(xs:List α)(n:Nat)(y:α):(d7 xs n y).map f=d7 (xs.map f) n (f y):=by
 unfold d7;rw [LS,Lq,NZ,Rv]
theorem sQ{α:Type}(xs:List α)(n:Nat)(y:α):(d7 xs n y).length=xs.length+1:=(nk xs n y).length_eq
def HM:V->List V->Hp->VK->Prop:=λx vs H Q=>∃l xs y,∃n:Nat,x= .ref l/\vs=[.int (n:Int),y]/\H l=some (.lst xs)/\n<=xs.length/\xs.length < 1000000/\Q .non (ak H l (.lst (d7 xs n y)))
theorem HN(l:List R7)(k:Nat)(y:R7):(l.toArray.extract 0 k).push y++l.toArray.extract k=(d7 l k y).toArray:=by
 apply OC.mp;simp;unfold d7;congr 2;exact L3 R5
theorem HP{X:Cx}:lY X "list.insert" HM:=by
 intro TR s σ H x vs v us Q I rx rv h;obtain⟨l,xs,y,n,rfl,rfl,hH,hn,hz,q⟩:=h;cases rx;cases rv with
 | cons r1 r2=>
  obtain⟨u,rfl,ru⟩:=cP r2;obtain⟨t,rfl⟩:=r1;obtain⟨z,its,m,r,hl,e⟩:=I.lstM hH;have ef:M6 (n:Int)=true:=by
   unfold M6;simp;omega
  have sl:(1000000:Nat)<=Sb:=RZ
  have hsz:its.toArray.size<=Sb:=by rw [Lw];exact LY R0 sl
  have hfi:¬(!M6 (n:Int))=true:=by rw [ef];decide
  generalize hni:(n:Int)=ni at hfi ef⊢;refine SO Px ⟨_,e,rfl⟩ PySem.F.entry_list_insert (PySem.F.args_list_insert_3 _ _ _) (PySem.AutoSeq1.list_insert_list_int_val_1 l its.toArray m ni t u hfi hsz) ⟨e,?_⟩;refine⟨.non,_,I.lset (its':=d7 its n u) hH e ?_ ((r.take n).append (.cons ru (r.drop n))) ?_,rfl,q⟩
  ·show(its.toArray.extract 0 (if ni < 0 then(ni+(its.toArray.size:Int)).toNat else min ni.toNat its.toArray.size)).push u++its.toArray.extract (if ni < 0 then(ni+(its.toArray.size:Int)).toNat else min ni.toNat its.toArray.size)=_;subst hni;rw [R1 R0,Lw,O8,Nat.min_eq_left R0];have:=HN its n u;simp only [Lw] at this;exact this
  ·show(d7 xs n y).length<=Sb;rw [sQ];exact LY R0 sl
section
variable {X:Cx} {H0:Hp} {O0:Ex}
theorem aj.takeN{K:Ll}{H:Hp}{O:Ex}:∀{vs:List V}{ds:List R6}(n:Nat),aj K H O vs ds->aj K H O (vs.take n) (ds.take n)
 | _,_,0,_=>by rw [Rh,Rh];exact .nil
 | _,_,n+1,.nil=>.nil
 | _,_,n+1,.cons a r=>.cons a (aj.takeN n r)
theorem aj.dropN{K:Ll}{H:Hp}{O:Ex}:∀{vs:List V}{ds:List R6}(n:Nat),aj K H O vs ds->aj K H O (vs.drop n) (ds.drop n)
 | _,_,0,r=>r
 | _,_,n+1,.nil=>.nil
 | _,_,n+1,.cons a r=>aj.dropN n r
def sR(i:Nat)(t1 t2:DT):DS:=λE δ=>∃ds,δ[i]?=some (some (.o ds))/\t1 δ λa=>t2 δ λd=>∃n:Nat,a= .int (n:Int)/\n<=ds.length/\ds.length < 1000000/\E.nx (δ.set i (some (.o (d7 ds n d))))
theorem A3{i:Nat}{o e e2:Sd}{t1 t2:DT}{apos cpos pos:Pos}(ho:PE X o (c7 i))(he:DE X H0 O0 e t1)(he2:DE X H0 O0 e2 t2)(hbase:SJ o "insert" X.env (eval o X.env)=eval o X.env:=by rfl)
 (hfew:((Sy cpos (Se [e,e2] X.env)).all (λx=>!x.1) && (Ti cpos (S4 [] X.env)).all (λx=>x.1.isSome) && decide ([e,e2].length+([]:List SS).length+(if ([]:List SS).isEmpty then 0 else 1) < 30))=true:=by rfl)
 (hline:(apos.endLine==cpos.line)=true:=by rfl)(hst:Se [e,e2] X.env=(false,eval e X.env)::Se [e2] X.env:=by rfl)(hst2:Se [e2] X.env=(false,eval e2 X.env)::Se [] X.env:=by rfl)(hplain:(Sy cpos (Se [e2] X.env)).any (·.1)=false:=by rfl)
 (hs:Sx (.Call (.Attribute o "insert" apos) [e,e2] [] cpos) none pos.line X.env=pure false:=by rfl):PS X (.Expr (.Call (.Attribute o "insert" apos) [e,e2] [] cpos) pos) (bx X.K H0 O0 (sR i t1 t2)):=
 (j3 (km NC Px PySem.F.type_list_insert HP ho (bw he (bw he2 bX hst2) hst) hbase hfew hline hst hplain) hs).imp λD σ H uu41=>by
  obtain⟨O,δ,E,w,⟨ds,e,q⟩,k1,k2,k3,k4⟩:=uu41;obtain⟨l,vs,h,a,b,c,r⟩:=w.own e;refine⟨_,h,.inl ⟨rfl,_,aN.of c⟩,O,δ,_,w,q,λx vx H1 q1 s1 r1=>?_⟩;refine⟨O,δ,_,w.mono s1,q1,λd v H2 q2 s2 r2=>?_⟩;obtain⟨n,rfl,hn,hz,q2⟩:=q2;cases r1;have rl:=r.length;have S:=s1.trans s2;refine⟨l,vs,v,n,rfl,rfl,S _ _ c,R0,R0,?_⟩;exact k1 _ _ _ _ q2 ((w.mono S).putO (vs:=vs) e h (((r.mono S).takeN n).append (.cons r2 ((r.mono S).dropN n)))) ⟨λb' o' z n=>by rw [aD (λy=>n (by rw [y];exact a))];exact S _ _ z,λ_ _ n=>n⟩
def sS(t:DT):DB:=λδ Q=>t δ λd=>∃ds,d= .list ds/\Q (!ds.isEmpty)
theorem HQ{e:Sd}{t:DT}(h:DE X H0 O0 e t)(he:∀whole,isTrue e X.env whole=(do let v<-whole;standAt e.pos;To [v] (truthy v)):=by intro _;rfl):PT X e (bM X.K H0 O0 (sS t)):=
 (Ee h he).imp λσ H Q ⟨O,δ,Qd,w,q,k⟩=>⟨O,δ,_,w,q,λd v H' uu43 s r=>by
  obtain⟨ds,e,qb⟩:=uu43;subst e;obtain⟨a,vs,rfl,hs,r⟩:=(Sh.dt r).lst;refine⟨_,.inl ⟨vs,hs,rfl⟩,?_⟩;have:(!vs.isEmpty)=!ds.isEmpty:=by cases r <;> rfl
  rw [this];exact k _ H' qb s⟩
end
theorem HR:typeLookup (.type "list") "keys"=pure none:=by rw [typeLookup_type,builtinLookup_eq_fast];kernel_rfl
theorem A4:entryFor table "dict.update.loop"=some Builtin.«dict.update.loop»:=entryFor_of_tree (by kernel_rfl)
theorem nr:plainId "dict.update.loop"=true:=cp
section
variable {P:Sk} {w:Sm} {A:Ss} {E:R7->R9->Prop} {s:R9}
theorem HS{l:R8}{o:Obj}{xs:Array R7}{k:Nat}{Q:Option R7->R9->Prop}(hx:s.heap.get? l=some o)(hc:o.cls= .type "list")(hdat:o.data= .seq xs k)(hd:o.dict=none)(hA:A.handled=none)
 (h:∀(h':Sn) (tk:Nat),(∀b u,s.heap.get? b=some u->h'.get? b=some u)->Q none {s with heap:=h',toks:=tk}):Sf (Si P w) A (getAttr? (.ref l) "keys") Q E s:=by
 obtain⟨c,dct,dat,sl⟩:=o;simp only at hc hdat hd;subst hc hdat hd;obtain⟨hp,g,d,tk,os⟩:=s;have hT:∀tk',(⟨hp,g,d,tk',os⟩:R9).TypeIs (.ref l) "list":=λ_=>⟨_,hx,rfl⟩;have f1:=sub_AttributeError;have f3:=PySem.F.slot_list_getattribute.lookup;have f4:=PySem.F.slot_list_getattribute.bind (.ref l);have f5:=am_list_getattr_none;unfold getAttr? getAttrBy? getAttrBy
 repeat (any_goals (first | assumption | exact hT _ | ((with_reducible show Sf _ _ (call (Value.builtin "list.__getattribute__") _ _) _ _ _);refine SO PySem.F.slot_list_getattribute (hT _) am_entry_list_getattribute (PySem.F.args_list_getattribute_2 _ _) (meets_getattribute_miss_list l xs k sl (Lk "keys") _ HR cp) ⟨hx,hA,λh' tk' e hx'=>?_⟩) | wp_step))
 obtain⟨t',u',he⟩:=hx'.there;show Sf _ _ (getattributeRaised _ _ _ _ _ _ _) _ _ _;unfold getattributeRaised
 repeat (any_goals (first | assumption | wp_step))
 exact h _ _ λb u e=>hx'.keeps b u e
end
def fW(val:Nat->ah×R7)(i:Nat):List (ah×R7):=((Mv i).map val).foldl (λa p=>stored a p.1 p.2) []
theorem A5(val:Nat->ah×R7)(i:Nat):fW val (i+1)=stored (fW val i) (val i).1 (val i).2:=by
 unfold fW;rw [OJ,LS,List.foldl_append];rfl
theorem HU{K:Type} [DecidableEq K](l:List (K×R7))(k:K)(v:R7):(stored l k v).length<=l.length+1:=by
 unfold stored;split <;> simp
theorem A6(val:Nat->ah×R7):∀i,(fW val i).length<=i
 | 0=>Lr _
 | i+1=>by
  have ih:=A6 val i;rw [A5];have:=HU (fW val i) (val i).1 (val i).2;omega
def kT(h:Sn)(a:R8)(x y:R7):Prop:=∃o m,h.get? a=some o/\o.cls= .type "tuple"/\o.data= .seq #[x,y] m
section
variable {P:Sk} {w:Sm} {A:Ss} {R:Result->R9->Prop} {I:R8} {fp wr:List R8} {G:Array TN->Array TN->Prop} {n:Nat} {Pv:Nat->R7->Prop} {St:Nat->R9->Prop}
theorem HV(W:WalksS P w A.in1 I fp wr G n Pv St)(D:R8)(hDf:D ∉ fp)(tp:Nat->R8)(kv:Nat->R7)(val:Nat->ah×R7)(hval:∀i v,Pv i v->v= .ref (tp i))(hk:∀i,i < n->(bT P w).is (val i).1 (kv i)=true)(hw:∀i,i < n->tp i ∉ D::wr)(hb:n<=Sb):
 ∀(k i:Nat)(s:R9),n - i=k->i<=n->St i s->s.heap.DictOf (bT P w) D (fW val i)->(∀j,j < n->kT s.heap (tp j) (kv j) (val j).2)->
  (∀s',Moved (D::wr) G s s'->s'.heap.DictOf (bT P w) D (fW val n)->R (.ok (.ret .none)) s')->∀t,Tc (Si P w) A (.builtin "dict.update.loop" ⟨[.ref D,.ref I,.int (i:Int) t,.none],[]⟩) R s:=by
 have sw:D ∉ wr:=λz=>hDf (W.sub _ z);have sub:∀b∈wr,b∈D::wr:=λb z=>L0 _ z;intro k
 induction k with
 | zero=>
  intro i s e1 e2 st hS hT q t;obtain rfl:i=n:=R0
  refine Tv A4 ?_;rw [Qj nr _];show Sf _ A.in1 (pyNext (.ref I) >>=_) _ _ s;exact Sa (W.done s _ _ st λs' m=>Sa (Sg (Sg (q s' (m.mono sub) (let ⟨o,es,ep,ho,r⟩:=hS;⟨o,es,ep,m.heap D o sw ho,r⟩)))))
 | succ k ih=>
  intro i s e1 e2 st hS hT q t;have lt:i < n:=R0
  refine Tv A4 ?_;rw [Qj nr _];show Sf _ A.in1 (pyNext (.ref I) >>=_) _ _ s;refine Sa (W.item i s _ _ lt st λv s' hP st' m=>?_);obtain rfl:=hval i v hP;have hS':s'.heap.DictOf (bT P w) D (fW val i):=let ⟨o,es,ep,ho,r⟩:=hS;⟨o,es,ep,m.heap D o sw ho,r⟩
  have hT':∀j,j < n->kT s'.heap (tp j) (kv j) (val j).2:=λj hj=>let ⟨o,m2,ho,r⟩:=hT j hj;⟨o,m2,m.heap _ o (λz=>hw j hj (sub _ z)) ho,r⟩
  obtain⟨o,m2,ho,hc,hd⟩:=hT' i lt;show Sf _ A.in1 (To [L8 (tp i)] _ >>=_) _ _ s';refine Sa (SA ?_);obtain⟨oc,od,oda,osl⟩:=o;simp only at hc hd;subst hc hd;have hTy:s'.TypeIs (.ref (tp i)) "tuple":=⟨_,ho,rfl⟩;refine Sa (wpAny_tryCatch ?_);unfold Builtin.Dict.pairItems;refine Sa (S8 hTy ?_);rw [R3 RZ];refine Sa (wpAny_seqItems ho rfl (Sg ?_));show Sf _ A.in1 (To [kv i,(val i).2] (dictSet D (kv i) (val i).2)) _ _ s';refine SA (wpAny_dictSet_pairs (hk i lt) hS' (λh' S2 sb=>?_) (by have:=A6 val i;omega));rw [<-A5] at S2;refine Sg ⟨plainId_quiet nr _,ih (i+1) _ R0 lt (W.frame _ s' _ _ st' (OQ _) λb hb o e=>?_) S2 (λj hj=>?_) (λs2 m2 S3=>?_) _⟩
  ·rw [sb.2 b (λz:b=D=>hDf (by rw [<-z];exact hb))];exact e
  ·obtain⟨o,m3,ho3,r⟩:=hT' j hj;exact⟨o,m3,by rw [sb.2 _ (λz=>hw j hj (by rw [z];exact L9))];exact ho3,r⟩
  ·refine q s2 (Moved.trans W.gtrans ((m.mono sub).then_heap (OQ _) λb o hb e=>?_) m2) S3;rw [sb.2 b (λz:b=D=>hb (by rw [z];exact L9))];exact e
end
section
variable {P:Sk} {w:Sm} {A:Ss} {E:R7->R9->Prop} {s:R9}
theorem HW{l:R8}{items:Array R7}{n:Nat}(tp:Nat->R8)(kv:Nat->R7)(val:Nat->ah×R7){Q:R7->R9->Prop}
 (hh:A.handled=none)(hl:∃o k,s.heap.get? l=some o/\o.cls= .type "list"/\o.dict=none/\o.data= .seq items k)(hn:items.size=n)(hi:∀(i:Nat) (v:R7),items[i]?=some v->v= .ref (tp i))(hk:∀i,i < n->(bT P w).is (val i).1 (kv i)=true)(hT:∀i,i < n->kT s.heap (tp i) (kv i) (val i).2)(hb:n<=Sb)
 (h:∀(h':Sn) (tk:Nat),h'.DictOf (bT P w) s.heap.objs.size (fW val n)->(∀b o,s.heap.get? b=some o->h'.get? b=some o)->Q (.ref s.heap.objs.size) {s with heap:=h',toks:=tk}):
 Sf (Si P w) A (call (.type "dict") [.ref l]) Q E s:=by
 refine callType_codes (Q₁:=λobj s₁=>obj= .ref s.heap.objs.size/\s₁={s with heap:=s.heap.push {cls:= .type "dict",data:= .dict #[]}}) PySem.F.kt_called_dict (PySem.F.kt_typeCall_dict_1 _) PySem.F.entry_dict_init (kt_code_dict_new _ ⟨rfl,rfl⟩) ?_;rintro obj s₁ ⟨rfl,rfl⟩;have hnew:(s.heap.push {cls:= .type "dict",data:= .dict #[]}).DictOf (bT P w) s.heap.objs.size []:=Q6 s.heap;refine⟨hnew.typeIs,PySem.F.args_dict_init_2 _ _,?_⟩;unfold Builtin.«dict.__init__»;refine Sa ?_;unfold Builtin.Dict.selfAndRest;refine Sa (wpAny_notOrdered_dict hnew.typeIs ?_);show Sf _ _ (pure (s.heap.objs.size,[L8 l])) _ _ _;refine Sg ?_;show Sf _ _ (PJ "dict.__init__" s.heap.objs.size (.ref l) [] .none) _ _ _;unfold PJ;obtain⟨o,k,ho,hc,hd,hdat⟩:=hl;have ho2:(s.heap.push {cls:= .type "dict",data:= .dict #[]}).get? l=some o:=Lo _ ho;refine Sa (S8 (T:="list") ⟨_,ho2,hc⟩ ?_);rw [R3 RZ];refine Sa (HS (s:={s with heap:=s.heap.push {cls:= .type "dict",data:= .dict #[]}}) ho2 hc hdat hd ?_ λh' tk hk'=>?_)
 ·simp [hh]
 ·show Sf _ A.in1.in1 (rule _ >>=_) _ _ _;refine Sa (wpAny_rule ?_);have o3:h'.get? l=some o:=hk' l o ho2;have l1:h'.IsList l items:=⟨_,o3,hc,k,hdat⟩;have ll:l < s.heap.objs.size:=LJ ho;have nD:s.heap.objs.size < h'.objs.size:=by
   obtain⟨od,_,_,hod,_⟩:=hnew;exact LJ (hk' _ _ hod)
  refine Sa (TH l1 ?_);refine Sg ⟨plainId_quiet nr _,?_⟩;have tl:∀i,i < n->tp i < s.heap.objs.size:=λi hi=>by obtain⟨_,_,e,_⟩:=hT i hi;exact LJ e
  have hn2:items.size<=Sb:=R0
  subst hn;refine HV (A:=A.in1) (RU (show A.in1.in1.handled=none by simp [hh]) _ l (LV (Pm ll nD)) items).toS s.heap.objs.size (by simp only [LF,MX,or_false,not_or];exact⟨LV nD,Ph ll⟩) tp kv val hi hk ?A hn2 (items.size - 0) 0 _ R0 (Mb _)
   ⟨⟨_,LU _ rfl,rfl,rfl⟩,l1.push _⟩ ?hS0 ?hT0 ?hR _
  case A=>
   intro i hi z;have t1:=tl i hi;simp only [LF,MX,or_false] at z;rcases z with z | z
   ·exact LV t1 z
   ·exact LV (Pm t1 nD) z
  case hT0=>
   intro j hj;obtain⟨u,m,e,r⟩:=hT j hj;exact⟨u,m,Lo _ (hk' _ _ (Lo _ e)),r⟩
  case hS0=>
   obtain⟨od,es,ep,hod,r⟩:=hnew;exact⟨od,es,ep,Lo _ (hk' _ _ hod),r⟩
  case hR=>
   intro s' m S';obtain⟨h2,g',d',tk',os'⟩:=s';obtain rfl:g'=s.gens:=m.gens;obtain rfl:d'=s.drawn:=m.drawn;obtain rfl:os'=s.os:=m.os;refine⟨rfl,h h2 tk' S' λb u e=>?_⟩;have hb1:b < s.heap.objs.size:=LJ e;refine m.heap b u ?_ (Lo _ (hk' _ _ (Lo _ e)));simp only [LF,MX,or_false,not_or];exact⟨LV hb1,LV (Pm hb1 nD)⟩
end
def sT(K:Ll)(H:Hp)(vs:List V)(kvs:List (ah×V)):Prop:=Paired (λv (p:ah×V)=>∃b,v= .ref b/\aW K H b [kV p.1,p.2]) vs kvs
theorem A7{X:Cx}{TR:List (R8×Obj)}{σ:St}{H:Hp}{s:R9}(I:ae X TR σ H s):∀{vs:List V}{kvs:List (ah×V)}{its:List R7},sT X.K H vs kvs->aA vs its->
 ∃zs:List (R8×R7×ah×R7),zs.length=its.length/\KV kvs (zs.map (·.2.2))/\its=zs.map (λz=>L8 z.1)/\∀z∈zs,(bT X.prog X.w).is z.2.2.1 z.2.1=true/\kT s.heap z.1 z.2.1 z.2.2.2
 | _,_,_,.nil,.nil=>⟨[],rfl,.nil,rfl,R5⟩
 | _,_,_,.cons (b:=p) h t,.cons r rs=>by
  obtain⟨zs,e1,e2,e3,e4⟩:=A7 I t rs;obtain⟨b,rfl,hb⟩:=h;cases r;obtain⟨its2,r2,⟨o,ho,hc,n,hd⟩,_⟩:=I.tuple hb;cases r2 with
  | @cons _ u _ _ ru r3=>
   obtain⟨x,rfl,rx⟩:=cP r3;refine⟨(b,u,p.1,x)::zs,by simp [e1],.cons ⟨rfl,rx⟩ e2,by rw [e3];rfl,λz hz=>?_⟩;rcases LF.mp hz with e | e
   ·subst e;exact⟨iq ru,o,n,ho,hc,hd⟩
   ·exact e4 z e
theorem HX{X:Cx}:cO X (.type "dict") (λxs H Q=>X.calm=true/\∃a vs kvs,xs=[.ref a]/\aN X.K H a vs/\sT X.K H vs kvs/\∀l,H l=none->Q (.ref l) (ak H l (.dK (fR [] kvs)))):=by
 intro TR s σ H xs us Q I r h;obtain⟨hc,a,vs,kvs,rfl,ha,hp,q⟩:=h;obtain⟨u,rfl,rx⟩:=cP r;cases rx;obtain⟨its,rv,⟨o,n,ho,hcl,hdi,hda⟩,hz⟩:=I.list ha;obtain⟨zs,z1,z2,z3,z4⟩:=A7 I hp rv;have ln:vs.length=its.length:=rv.length;have hk:kvs.length=zs.length:=by rw [z2.length,Lm]
 let D:R8×R7×ah×R7:=(0,.none,.inl 0,.none)
 have at_:∀i,i < its.length->∃z∈zs,(zs[i]?).getD D=z:=λi hi=>by
  rw [<-z1] at hi;exact⟨zs[i],M8 hi,by rw [LG hi];rfl⟩
 refine HW (s:=s) (n:=its.length) (λi=>((zs[i]?).getD D).1) (λi=>((zs[i]?).getD D).2.1) (λi=>((zs[i]?).getD D).2.2) (I.ok.hd hc) ⟨o,n,ho,hcl,hdi,hda⟩ R5 (λi v e=>?_) (λi hi=>?_) (λi hi=>?_) R0 λh' tk dd kp=>?_
 ·rw [List.getElem?_toArray,z3,LD] at e;cases hz':zs[i]? with
  | none=>rw [hz'] at e;cases e
  | some z=>rw [hz'] at e;cases e;rfl
 ·obtain⟨z,hz1,e⟩:=at_ i hi;show(bT X.prog X.w).is ((zs[i]?).getD D).2.2.1 ((zs[i]?).getD D).2.1=true;rw [e];exact(z4 z hz1).1
 ·obtain⟨z,hz1,e⟩:=at_ i hi;show kT s.heap ((zs[i]?).getD D).1 ((zs[i]?).getD D).2.1 ((zs[i]?).getD D).2.2.2;rw [e];exact(z4 z hz1).2
 ·have em:fW (λi=>((zs[i]?).getD D).2.2) its.length=merged [] (zs.map (·.2.2)):=by
   unfold fW merged;congr 1;rw [<-z1];apply Nm R5;intro i a b;simp at a b⊢;rw [LG R0];rfl
  rw [em] at dd;have zl:(fR [] kvs).length<=Sb:=by
   have h1:=qX kvs [];rw [MZ] at h1;omega
  exact⟨.ref _,_,I.laid (t':=tk) (o:= .dK (fR [] kvs)) kp (Lr _) (qW zl (beq_eq_false_iff_ne.mpr (Ne.symm (LV I.big))) (z2.merge .nil) dd),rfl,q _ (I.hok.fresh (Lr _))⟩
section
variable {X:Cx} {H0:Hp} {O0:Ex}
def sU(t:DA):g5:=λδ Q=>t δ λds=>∃kd:List (ah×R6),ds=[.list (kd.map λp=>.tuple [fS p.1,p.2])]/\Q (kd.foldl (λa p=>cN a p.1 p.2) [])
theorem A8{K:Ll}{H:Hp}{O:Ex}:∀{us:List V}{kd:List (ah×R6)},aj K H O us (kd.map λp=>.tuple [fS p.1,p.2])->∃kv,sT K H us kv/\bo K H O kv kd
 | [],[],_=>⟨[],.nil,.nil⟩
 | _::_,(k,d)::kd,.cons h r=>by
  obtain⟨kv,h1,h2⟩:=A8 r;obtain⟨b,vs,rfl,hs,d2⟩:=(Sh.dt h).tup;cases d2 with
  | cons x1 x2=>
   cases x2 with
   | cons x2 x3=>
    cases x3;cases x1.key;exact⟨(k,_)::kv,.cons ⟨b,rfl,hs⟩ h1,.cons x2 h2⟩
theorem A9{a:Sd}{t:DA}{np p:Pos}(hc:X.calm=true)(hg:Gl X "dict")(hm:X.mg "dict"=none)(ha:PA X [a] (dS X.K H0 O0 t))(he:Se [a] X.env=(false,eval a X.env)::Se [] X.env:=by rfl)(hpl:(Sy p (Se [] X.env)).any (·.1)=false:=by rfl):KE X H0 O0 (.Call (.Name "dict" np) [a] [] p) (sU t):=
 (cB HX hg hm FI ha (he:=he) (hpl:=hpl)).imp λσ H Q uu44=>by obtain⟨O,δ,Qd,w,q,k⟩:=uu44;exact⟨O,δ,_,w,q,λds vs H1 uu45 s1 r1=>by
  obtain⟨kd,e,q1⟩:=uu45;subst e;cases r1 with
  | cons h r=>
   cases r;obtain⟨a,us,rfl,h1,d1⟩:=h.lst;obtain⟨kv,p1,p2⟩:=A8 d1;exact⟨hc,a,us,kv,rfl,h1,p1,λl hl=>k _ _ _ _ q1 s1 hl (p2.merge .nil)⟩⟩
end
theorem Dt.dicE{K:Ll}{H:Hp}{O:Ex}{v:V}{ks:List Str}{ds:List R6}(h:Dt K H O v (g7 ks ds)):∃a ob kv,v= .ref a/\H a=some (.frz ob (.dK kv))/\kv.map (·.1)=ks.map Mi/\¬O a/\aj K H O (kv.map (·.2)) ds:=by
 cases h with
 | @dic a ob kv ks' kp ds h e1 e2 n rr=>
  have ek:ks'=ks:=sq e2.symm;subst ek;exact⟨a,ob,kv,rfl,h,e1,n,rr⟩
section
variable {X:Cx} {H0:Hp} {O0:Ex}
def HY(tl:TE):TI:=λσ H R=>tl σ H λx H1=>∃a o kv,x= .ref a/\H1 a=some (.frz o (.dK kv))/\R (rX o a kv) H1
theorem Ba{X:Cx}{tg l:Sd}{tl:TE}(hl:PE X l tl):PI X tg l (HY tl):=by
 intro TR s σ H R I h;refine ax (hl TR s σ H _ I h) λv s1 ⟨x,H1,I1,r1,q1⟩=>?_;obtain⟨a,o,kv,e,ha,q⟩:=q1;subst e;cases r1;obtain⟨g,z,hd,vs,rel,o',es,ep,g',r1,r2,r3⟩:=I1.hok a _ ha;rw [g] at g';cases g';have hlen:=rel.len;have hd':(a==SN)=false:=hd;refine wpAny_pyIter_dict hd' (knd:=bT X.prog X.w) (kvs:=vs) (ep:=ep) ⟨o,es,g,r1,r2,r3⟩ ?_;rw [hlen];refine⟨s1.heap.objs.size,[s1.heap.objs.size],_,_,_,rfl,I1.kept (t':=s1.toks) λb o e=>Lo _ e,Hn _ a o es ep kv r2,⟨_,LU _ rfl,rfl,rfl⟩,λb hb=>?_,q⟩;have e:b=s1.heap.objs.size:=by simpa using hb
 subst e;exact I1.fpOk (Lr _) (I1.hok.fresh (Lr _))
theorem sV{K:Ll}{H:Hp}{O:Ex}:∀{kv:List (ah×V)}{ks:List Str},kv.map (·.1)=ks.map Mi->aj K H O (kv.map λp=>kV p.1) (ks.map .str)
 | [],[],_=>.nil
 | p::kv,k::ks,h=>by
  simp only [Lq,Mr] at h;obtain⟨p1,p2⟩:=p;obtain⟨rfl,h⟩:=h;exact .cons (.str _) (sV h)
end
section
variable {x y z w:Option Sl} {l:Dl} {i j k m:Nat} {P:R6->Prop}
theorem Bb:cF j ((x::l).set 0 y) P=cF j (y::l) P:=rfl
theorem Bc:cF j ((x::l).set (i+1) y) P=cF j (x::l.set i y) P:=rfl
theorem Bd:cF j (((x::l).set 0 y).set k z) P=cF j ((y::l).set k z) P:=rfl
theorem Be:cF j (((x::l).set (i+1) y).set k z) P=cF j ((x::l.set i y).set k z) P:=rfl
theorem Bf:cF j ((((x::l).set 0 y).set k z).set m w) P=cF j (((y::l).set k z).set m w) P:=rfl
theorem Bg:cF j ((((x::l).set (i+1) y).set k z).set m w) P=cF j (((x::l.set i y).set k z).set m w) P:=rfl
end
section
variable {K:Ll} {mg:Str->Option R7} {h:Sn} {x q:Str} {st:Sq} {f C:R8} {fd:Sj} {ps:List Str}
structure Fn (K:Ll) (mg:Str->Option R7) (x:Str) (st:Sq) (f:R8) (fd:Sj) (ps:List Str):Prop where
 F:eY K x x st f fd
 m:mg x=some (.ref f)
 b:eF K fd ps []
structure Mn (K:Ll) (x q:Str) (st:Sq) (f:R8) (fd:Sj) (ps:List Str):Prop where
 F:eY K x q st f fd
 b:eF K fd ps []
structure DfT (K:Ll) (x:Str) (st:Sq) (f:R8) (fd:Sj):Prop where
 a:Mh K So x=some (some (.ref f))
 F:eY K x x st f fd
structure DmT (K:Ll) (C:R8) (x q:Str) (st:Sq) (f:R8) (fd:Sj):Prop where
 a:Na K (.ref C) x=some (some (.ref f))
 i:Qw K (.ref f)=true
 F:eY K x q st f fd
structure Bh (K:Ll) (C:R8):Prop where
 c:gq K C
 m:PM K C=true
 k:Nl K (.ref C)=true
theorem DfT.of{oc:R7}{od an:Option R8}{osl:Array (Option R7)}{kV doc pm cdv ct:R7}(a:Mh K So x=some (some (.ref f)))(l:K.lookup f=some ⟨oc,od,.func (MW x x (gu st) (eX st) (av st) .none kV doc pm an cdv ct),osl⟩)
 (c:Od K cdv x=true)(k:Nl K (.ref f)=true):DfT K x st f (MW x x (gu st) (eX st) (av st) .none kV doc pm an cdv ct):=⟨a,wu l c k⟩
theorem DmT.of{oc:R7}{od an:Option R8}{osl:Array (Option R7)}{kV doc pm cdv ct:R7}(a:Na K (.ref C) x=some (some (.ref f)))(i:Qw K (.ref f)=true)(l:K.lookup f=some ⟨oc,od,.func (MW x q (gu st) (eX st) (av st) .none kV doc pm an cdv ct),osl⟩)
 (c:Od K cdv q=true)(k:Nl K (.ref f)=true):DmT K C x q st f (MW x q (gu st) (eX st) (av st) .none kV doc pm an cdv ct):=⟨a,i,wu l c k⟩
theorem DfT.fn(D:DfT K x st f fd)(X:K.In h)(G:h.Ns So mg)(hb:∀(kV doc pm:R7) (an:Option R8) (cdv ct:R7) (us:List R7),us.length=ps.length->bindArgs (MW x x (gu st) (eX st) (av st) .none kV doc pm an cdv ct) ⟨us,[]⟩=pure (ps.zip us):=by walk_at "b"):Fn K mg x st f fd ps:=⟨D.F,NG X G D.a,D.F.binds hb⟩
theorem DmT.fn(D:DmT K C x q st f fd)(hb:∀(kV doc pm:R7) (an:Option R8) (cdv ct:R7) (us:List R7),us.length=ps.length->bindArgs (MW x q (gu st) (eX st) (av st) .none kV doc pm an cdv ct) ⟨us,[]⟩=pure (ps.zip us):=by walk_at "b"):Mn K x q st f fd ps:=⟨D.F,D.F.binds hb⟩
theorem DmT.mkk(D:DmT K C "__init__" q st f fd)(c:Bh K C):Mk K C f:=⟨c.m,D.a,D.i,c.k⟩
theorem Fn.kp(N:Fn K mg x st f fd ps):Nl K (.ref f)=true:=N.F.kp
end
section
variable {X:Cx} {k:Nat} {f:R8} {fd:Sj} {ps:List Str} {sp:Sp} {st:Sq} {x:Str} {p pos:Pos} {e:Sd} {es:List Sd} {t:TA}
theorem d8(F:aF X.prog X.w X.K X.mg X.base CX0 k f fd ps sp)(hr:br k X.A)(hg:Gl X x)(N:Fn X.K X.mg x st f fd ps)
 (ha:PA X (e::es) t)(hdb:(x==("__debug__":Str))=false:=by decide)(he:Se (e::es) X.env=(false,eval e X.env)::Se es X.env:=by rfl)(hpl:(Sy pos (Se es X.env)).any (·.1)=false:=by rfl):
 PE X (.Call (.Name x p) (e::es) [] pos) (lT sp [] E0 t):=Ez F hr hg N.m N.kp N.b .nil wt ha hdb he hpl
end
theorem aY.of{sc:SH}{N N':List Str}{k:Nat}{fr:List Nat}{scope:SH}(a:scope.kind= .function:=by rfl)(b:∀y∈scope.names,y.2= .cell->scope.names.lookup y.1=some .cell:=by decide+kernel)(c:∀y∈scope.names,y.2= .local->scope.names.lookup y.1=some .local:=by decide+kernel)(d:N'.Nodup:=by decide+kernel)(e:fr.map (λj=>N[j]?)=(N'.drop k).map some:=by rfl)(f:∀x∈N'.drop k,scope.names.lookup x=some .free:=by decide+kernel)(g:∀y∈scope.names,y.2= .free->sc.names.lookup y.1=some .cell\/sc.names.lookup y.1=some .free:=by decide+kernel)(h:∀x∈N'.drop k,sc.names.lookup x=some .cell\/sc.names.lookup x=some .free:=by decide+kernel)(i:N'.length=k+fr.length:=by rfl):aY sc N N' k fr scope:=⟨a,b,c,d,e,f,g,h,i⟩
theorem aS.of{N P:List Str}{sc:SH}(a:sc.kind= .function:=by rfl)(b:sc.isCoroutine=false:=by rfl)(c:sc.isGenerator=false:=by rfl)(d:N.Nodup:=by decide+kernel)(e:N.take P.length=P:=by rfl)(f:∀x∈P,sc.names.lookup x=some .local\/sc.names.lookup x=some .cell:=by decide+kernel)(g:∀y∈sc.names,y.2≠ .free:=by decide+kernel):aS N P sc:=⟨a,b,c,d,e,f,g⟩
section
variable {X:Cx} {H0:Hp} {O0:Ex} {pos:Pos} {a b e:Sd} {es:List Sd} {ta tb t:DT} {u:DA} {r:R2} {rd:R6->R6->(R6->Prop)->Prop}
theorem aQ{op:Operator}(ho:bK X (SQ op) r)(hd:cv X.K r rd)(ha:DE X H0 O0 a ta)(hb:DE X H0 O0 b tb):DE X H0 O0 (.BinOp a op b pos) (fb rd ta tb):=FZ ho hd (df ha) (df hb)
theorem au(ho:js X r)(hd:cv X.K r rd)(ha:DE X H0 O0 a ta)(hb:DE X H0 O0 b tb)(hs:∀v u,Tf b false v u=operate [v,u] (S5 v u):=by intro _ _;rfl):DE X H0 O0 (.Subscript a b pos) (fb rd ta tb):=eN ho hd (df ha) (df hb) hs
theorem aP{op:CmpOp}(ho:bK X (Sv op) r)(hd:cv X.K r rd)(ha:DE X H0 O0 a ta)(hb:DE X H0 O0 b tb)(hm:SD op b=false):PT X (.Compare a [op] [b] pos) (bM X.K H0 O0 (gR (fb rd ta tb))):=wJ ho hd (df ha) (df hb) hm
theorem aR(h:DE X H0 O0 e t)(hs:PA X es (dS X.K H0 O0 u))(he:Se (e::es) X.env=(false,eval e X.env)::Se es X.env:=by rfl):PA X (e::es) (dS X.K H0 O0 (gQ t u)):=gT (df h) hs he
theorem aq{k j:Nat}{f:R8}{fd:Sj}{ps:List Str}{F:List R6->(R6->Prop)->Prop}{st:Sq}{x:Str}{p:Pos}(G:aF X.prog X.w X.K X.mg X.base CX0 k f fd ps (bf X.K F))(hr:br j X.A)(N:Fn X.K X.mg x st f fd ps)
 (ha:PA X (e::es) (eZ X.K H0 O0 u))(hk:k<=j:=by decide)(hg:Gl X x:=by exact rfl)(hdb:(x==("__debug__":Str))=false:=by decide)(he:Se (e::es) X.env=(false,eval e X.env)::Se es X.env:=by rfl)(hpl:(Sy pos (Se es X.env)).any (·.1)=false:=by rfl):
 DE X H0 O0 (.Call (.Name x p) (e::es) [] pos) (ie F u):=PE.imp (d8 G (hr.mono hk) hg N ha hdb he hpl) F1
end
def d9(p q:Str):Bool:=decide (p.cps.toList < q.cps.toList)
def g9(h:Sn)(v:R7)(p:Str):Prop:=∃a o n t r,v= .ref a/\h.get? a=some o/\o.cls= .type "tuple"/\o.data= .seq (OL (.str p t::r)) n
def eQ(p:Str×List R6):R6:= .tuple (.str p.1::p.2)
section
variable {P:Sk} {w:Sm} {A:Ss} {E:R7->R9->Prop} {s:R9}
theorem HZ{v u:R7}{p q:Str}{Q:Bool->R9->Prop}(hne:p≠q)(hv:g9 s.heap v p)(hu:g9 s.heap u q)(h:Q (d9 p q) s):Sf (Si P w) A (keyLt' (Tq true) v u) Q E s:=by
 obtain⟨a,oa,na,t1,r1,rfl,ha,_,da⟩:=hv;obtain⟨b,ob,nb,t3,r3,rfl,hb,_,db⟩:=hu;refine kat_lt ha da hb db (kat_cons ((Rq P w).eqBool (strKind_is _ _ _ _) (strKind_is _ _ _ _) (kat_go (λe2=>absurd (by simpa using e2) hne) λe2=>kat_no ?_)));show Sf _ _ (oneLt' true _ _) _ _ _;exact oneLt_str h
theorem Ia{n:Nat}{kp:Nat->Str}(hd:∀i j,i < n->j < n->kp i=kp j->i=j):fT n λi j=>d9 (kp i) (kp j):=by
 have T:=se (n:=n) (kp:=λi=>(0,kp i)) λi j hi hj e=>hd i j hi hj (congrArg RI e);have e:(λi j=>aL (0,kp i) (0,kp j))=λi j=>d9 (kp i) (kp j):=by
  funext i j;unfold aL d9;simp
 rw [e] at T;exact T
theorem Ib{ks:List R7}{kp:Nat->Str}(hk:∀i v,ks[i]?=some v->g9 s.heap v (kp i))(h2:2<=ks.length){Q:SortKind->R9->Prop}(h:Q (Tq true) s):Sf (Si P w) A (keyKind' ks.toArray) Q E s:=by
 have key:∀(ks:List R7)(kp:Nat->Str),(∀i v,ks[i]?=some v->g9 s.heap v (kp i))->∃fs:List R7,KatTups s.heap ks fs/\fs.length=ks.length/\∀v∈fs,∃n t,v=Np n t:=by
  intro ks
  induction ks with
  | nil=>intro kp _;exact⟨[],RS,rfl,R5⟩
  | cons v ks ih=>
   intro kp hk;obtain⟨fs,a,b,c⟩:=ih (λi=>kp (i+1)) λi v e=>hk (i+1) v (by simpa using e);obtain⟨ad,o,n,t,u,rfl,h1,h2,h3⟩:=hk 0 v rfl;refine⟨.str (kp 0) t::fs,RH h1 h2 h3 rfl a,by simp [b],λx hx=>?_⟩;rcases LF.mp hx with rfl | hx
   ·exact⟨_,_,rfl⟩
   ·exact c x hx
 obtain⟨fs,a,b,c⟩:=key ks kp hk;refine kat_kind (T:= .type "str") a R0 (λv hv=>?_) RZ h;obtain⟨n,t,rfl⟩:=c v hv;exact .now
theorem Ic{n:Nat}{ks:List R7}{kp:Nat->Str}(hn:ks.length=n)(h2:2<=n)(hk:∀i v,ks[i]?=some v->g9 s.heap v (kp i))(hd:∀i j,i < n->j < n->kp i=kp j->i=j){G:Array Nat->R9->Prop}
 (q:∀p,bI n p->Up (λi j=>d9 (kp i) (kp j)) p n->G p s):(kas_sort n).kasWp (kas_ask P w A (Tq true) ks) G s:=by
 refine AG (lt:=λi j=>d9 (kp i) (kp j)) (I:=λs'=>s'=s) ⟨λi j C s' hi hj hij e c=>?_⟩ (Ia hd) h2 rfl λp s' e hp hu=>by subst e;exact q p hp hu
 subst e;have ei:ks[i]?=some (ks.getD i .none):=by simp [show i < ks.length by omega]
 have ej:ks[j]?=some (ks.getD j .none):=by simp [show j < ks.length by omega]
 exact HZ (λz=>hij (hd i j hi hj z)) (hk i _ ei) (hk j _ ej) (c _ rfl)
theorem Ie{l:R8}{vs:List R7}{Q:List R7->R9->Prop}(hl:IsTup s.heap l vs.toArray)
 (h:Q vs {s with heap:=(s.heap.push (Sr "list" #[] 0)).update s.heap.objs.size (L6 (·++vs.toArray))})(hz:vs.length<=Sb):Sf (Si P w) A (collect (.ref l)) Q E s:=by
 obtain⟨o,ho,hc,n,hd⟩:=hl;unfold collect;refine Sa (wpAny_runValue (Tv entry_proto_collect' ?_));refine Sa (SW (Sg ⟨Code.quiet_builtin _ cp,Tv entry_list_iadd' ?_⟩));show Sf _ _ (OR (.ref s.heap.objs.size) (.ref l) (.ref s.heap.objs.size)) _ _ {s with heap:=s.heap.push (Sr "list" #[] 0)};unfold OR;have h1:(s.heap.push (Sr "list" #[] 0)).get? l=some o:=Lo _ ho;have h0:(s.heap.push (Sr "list" #[] 0)).get? s.heap.objs.size=some (Sr "list" #[] 0):=LU _ rfl;refine Sa (S8 (T:="tuple") ⟨o,h1,hc⟩ ?_);rw [R3 (by rw [show(Qe "tuple"==Qe "tuple")=true from rfl,RG])];refine Sa (Ta h1 hd (Sa (Ta h0 rfl ?_)));rw [R1 R5];refine Sa (SU h0 rfl ?_ (Mb _) ?_)
 ·refine Sg (Sa (wpAny_load (SR h0 _) ?_));show Sf _ _ (pure ((#[]:Array R7)++vs.toArray).toList) Q E _;rw [Array.empty_append,List.toList_toArray];exact Sg h
 ·rw [Pb,Lw];show 0+vs.length<=_;omega
theorem Ig{D:R8}{vs:List R7}{n n0:Nat}{kp:Nat->Str}{C:PQ->R9->Prop}(hv:vs.length=n)(h64:n < 64)(hD:s.heap.get? D=some (Sr "list" vs.toArray n0))(hk:∀i v,vs[i]?=some v->g9 s.heap v (kp i)/\v≠ .ref D)(hd:∀i j,i < n->j < n->kp i=kp j->i=j)
 (q:∀p,bI n p->Up (λi j=>d9 (kp i) (kp j)) p n->∀h' c,h'.get? D=some (Sr "list" (p.toList.map λi=>vs.getD i .none).toArray c)->(∀b u,b≠D->s.heap.get? b=some u->h'.get? b=some u)->C (.done (.ret .none)) {s with heap:=h'}):
 Sf (Si P w) A (Builtin.«list.sort» ⟨[.ref D],[]⟩) C E s:=by
 have hsl:Sb=16777216:=SE;rw [list_sort_plain];refine Sa (Ta hD rfl (Sa (SU hD rfl ?_ (by rw [Lw];omega) (Mb _))));have u1:=MT s.heap D (L6 λ_=>(#[]:Array R7));have g1:=SR hD λ_=>(#[]:Array R7);have k1:∀b u,b≠D->s.heap.get? b=some u->(s.heap.update D (L6 λ_=>(#[]:Array R7))).get? b=some u:=λb u n z=>(u1.2 b n).trans z;generalize s.heap.update D (L6 λ_=>(#[]:Array R7))=h1 at*;generalize (if (#[]:Array R7).size==vs.toArray.size then n0 else n0+1)=e1 at*;refine Sa (Th (s:={s with heap:=h1}) g1 rfl ?_);refine Sa (wpAny_newTuple ?_ (by show vs.length<=_;omega));refine Sa (SW ?_ (Mb _));have g2:((h1.push {cls:= .type "tuple",data:= .seq vs.toArray}).push {cls:= .type "list",data:= .seq ([]:List R7).toArray}).get? D=some (Sr "list" #[] e1):=Lo _ (Lo _ g1);have k2:∀b u,b≠D->s.heap.get? b=some u->((h1.push {cls:= .type "tuple",data:= .seq vs.toArray}).push {cls:= .type "list",data:= .seq ([]:List R7).toArray}).get? b=some u:=λb u n z=>Lo _ (Lo _ (k1 b u n z));show Sf _ _ _ _ _ {s with heap:=(h1.push {cls:= .type "tuple",data:= .seq vs.toArray}).push {cls:= .type "list",data:= .seq ([]:List R7).toArray}};generalize (h1.push {cls:= .type "tuple",data:= .seq vs.toArray}).push {cls:= .type "list",data:= .seq ([]:List R7).toArray}=h2 at*;refine SA ?_;have hz:vs.toArray.size=n:=by rw [Lw];exact hv
 have last:∀(st:SortSt)(p:Array Nat),bI n p->Up (λi j=>d9 (kp i) (kp j)) p n->Tj st=none->(arrOf st).map (·.2)=(p.toList.map λi=>vs.getD i .none).toArray->
  Sf (Si P w) A (do
   let touched:=(<-seqEpoch D) !=e1
   Of (.ref D) λ_=>(arrOf st).map (·.2)
   if let some e:=Tj st then rule "list.sort.comparison-raised";throw e
   if touched then rule "list.sort.modified";raiseError "ValueError" "list modified during sort"
   ret .none) C E {s with heap:=h2}:=by
  intro st p p1 p2 hf ho;rw [ho,hf];refine Sa (Th (s:={s with heap:=h2}) g2 rfl ?_);refine Sa (SU (s:={s with heap:=h2}) g2 rfl ?_ (Mb _) (by rw [Lw,Lm,LR,p1.size];omega));simp only [bne_self_eq_false,Nc,if_false];have u3:=MT h2 D (L6 λ_=>(p.toList.map λi=>vs.getD i Nn).toArray);exact Sg (q p p1 p2 _ _ (SR g2 λ_=>(p.toList.map λi=>vs.getD i Nn).toArray) λb u n z=>(u3.2 b n).trans (k2 b u n z))
 by_cases h2':n < 2
 ·simp only [hz,h2',if_true];refine Sa (Sg (Sa (Sg ?_)));refine last _ (OL (Mv n)) (mY n) (λi j a b=>by omega) rfl ?_;show(vs.toArray.zip vs.toArray).map (·.2)=_;apply OC.mp;simp only [Pr,Pu];rw [OD R0];apply Nm (by simp [hv]);intro i a b;simp at a b⊢;rw [LG a];rfl
 ·simp only [hz,h2',if_false];have hk2:∀i v,vs[i]?=some v->g9 h2 v (kp i):=λi v e=>by
   obtain⟨⟨a,o,m,t,u,rfl,x1,x2,x3⟩,ne⟩:=hk i v e;exact⟨a,o,m,t,u,rfl,k2 a o (λz=>ne (by rw [z])) x1,x2,x3⟩
  refine Sa (Ib (s:={s with heap:=h2}) hk2 R0 ?_);refine Sa (Sz (kat_run (κ:=Tq true) (ks:=vs) (s:={s with heap:=h2}) (E:=λ_ _=>False) (Q:=λst' s'=>s'={s with heap:=h2}/\∃p,bI n p/\Up (λi j=>d9 (kp i) (kp j)) p n/\arrOf st'=p.map (kas_item (vs.toArray.zip vs.toArray))/\Tj st'=none) (G:=λp s'=>s'={s with heap:=h2}/\bI n p/\Up (λi j=>d9 (kp i) (kp j)) p n) rfl R0 R0
   (λp st' s' a b c d=>⟨d.1,p,d.2.1,d.2.2,b,c⟩) ?_) (λr s' hr=>?_) λ_ _ x=>x.elim)
  ·rw [hv];exact Ic (s:={s with heap:=h2}) hv R0 hk2 hd λp a b=>⟨rfl,a,b⟩
  ·obtain⟨rfl,p,p1,p2,p3,p4⟩:=hr;exact last _ p p1 p2 p4 (kat_snds rfl p3)
end
theorem Bi{X:Cx}{TR:List (R8×Obj)}{σ:St}{H:Hp}{s:R9}{h:V}{u:R7}{O:Ex}{p:Str×List R6}(I:ae X TR σ H s)(d:Dt X.K H O h (eQ p))(r:aC h u):g9 s.heap u p.1:=by
 obtain⟨a,xs,rfl,hq,hd⟩:=(Sh.dt d).tup;cases r;obtain⟨its,rv,⟨o,e,c,n,dd⟩,_⟩:=I.tuple hq;cases hd with
 | cons g1 g2=>
  cases g1;cases rv with
  | cons r1 r2=>
   obtain⟨t,rfl⟩:=r1;exact⟨a,o,n,t,_,rfl,e,c,dd⟩
theorem Ih{X:Cx}:cO X (.builtin "sorted") (λxs H Q=>∃(p:R8)(us:List V)(O:Ex)(ps:List (Str×List R6)),xs=[.ref p]/\aW X.K H p us/\aj X.K H O us (ps.map eQ)/\ps.length < 64/\(ps.map (·.1)).Nodup/\∀(l:R8)(us':List V)(ps':List (Str×List R6)),H l=none->aj X.K H O us' (ps'.map eQ)->ps'.Perm ps->ps'.Pairwise (λa b=>d9 a.1 b.1=true)->Q (.ref l) (ak H l (.lst us'))):=by
 intro TR s σ H xs ws Q I r h;obtain⟨l,us,O,ps,rfl,hq,hd,h64,nd,q⟩:=h;obtain⟨u,rfl,rx⟩:=cP r;cases rx;have hsl:Sb=16777216:=SE;obtain⟨vs,hv,pl,hz⟩:=I.tuple hq;have lv:vs.length=ps.length:=by rw [<-hv.length,hd.length,Lm]
 refine N5 kind_sorted plain_sorted entry_sorted (args_sorted1 _) ?_;unfold Builtin.«sorted»;refine Sa (m:=checkCount "sorted" 1 1 _) (Sg ?_);refine Sa (Ie pl ?_ R0);have I1:ae X TR σ H {s with heap:=(s.heap.push (Sr "list" #[] 0)).update s.heap.objs.size (L6 (·++vs.toArray))}:=by
  refine I.kept (t':=s.toks) λb u z=>?_;have hlt:b < s.heap.objs.size:=LJ z;exact(OP _ _ _ _ (LV hlt)).trans (Lo _ z)
 generalize (s.heap.push (Sr "list" #[] 0)).update s.heap.objs.size (L6 (·++vs.toArray))=h1 at*;refine Sa (SW (s:={s with heap:=h1}) ?_ R0);have I2:ae X TR σ H {s with heap:=h1.push (Sr "list" vs.toArray 0)}:=I1.kept (t':=s.toks) λb u z=>Lo _ z;have gD:(h1.push (Sr "list" vs.toArray 0)).get? h1.objs.size=some (Sr "list" vs.toArray 0):=LU _ rfl;have hH:H h1.objs.size=none:=I1.hok.fresh (Lr _);have oD:g6 X TR h1.objs.size:=I1.out (Lr _);have isp:∀i v,vs[i]?=some v->g9 (h1.push (Sr "list" vs.toArray 0)) v ((ps.getD i (Lk "",[])).1)/\v≠ .ref h1.objs.size:=λi v ei=>by
  have hi:i < ps.length:=by rw [<-lv];exact(Lz.mp ei).1
  obtain⟨x,ex,rx⟩:=jI hv ei;obtain⟨y,ey,dy⟩:=jb (i:=i) (d:=eQ ps[i]) hd (by rw [LD,LG hi];rfl);rw [ex] at ey;cases ey;have e:ps.getD i (Lk "",[])=ps[i]:=by simp [hi]
  rw [e];have a:=Bi I1 dy rx;refine⟨Bi I2 dy rx,λz=>?_⟩;obtain⟨ad,o,m,t,u,e1,e2,_⟩:=a;rw [e1] at z;cases z;exact absurd (LJ e2) (Nj _)
 refine Sa (SA (S6 Tw ⟨_,gD,rfl⟩ Tu ?_ (args_list_sort _)));refine Ig (s:={s with heap:=h1.push (Sr "list" vs.toArray 0)}) (n:=ps.length) (kp:=λi=>(ps.getD i (Lk "",[])).1) lv h64 gD isp (λi j hi hj ee=>?_) λp pp pu h' c g kept=>?_
 ·have e1':ps.getD i (Lk "",[])=ps[i]:=by simp [hi]
  have e2':ps.getD j (Lk "",[])=ps[j]:=by simp [hj]
  rw [e1',e2'] at ee;exact(NW (h₀:=by rw [Lm];exact hi) (h₁:=by rw [Lm];exact hj) nd).mp (by rw [QZ,QZ];exact ee)
 ·have lt:∀i∈p.toList,i < ps.length:=λi hi=>by simpa using pp.perm.mem_iff.mp hi
  have dm:aj X.K H O (p.toList.map λi=>us.getD i .non) ((p.toList.map λi=>ps.getD i (Lk "",[])).map eQ):=by
   have:∀l:List Nat,(∀i∈l,i < ps.length)->aj X.K H O (l.map λi=>us.getD i .non) ((l.map λi=>ps.getD i (Lk "",[])).map eQ):=by
    intro l
    induction l with
    | nil=>intro _;exact .nil
    | cons a l ih=>
     intro hl;have ha:=hl a R5;refine .cons ?_ (ih λi hi=>hl i (by simp [hi]));obtain⟨x,ex,dx⟩:=jb (i:=a) (d:=eQ ps[a]) hd (by rw [LD,LG ha];rfl);have e1':us.getD a .non=x:=by simp [ex]
     have e2':ps.getD a (Lk "",[])=ps[a]:=by simp [ha]
     show Dt X.K H O (us.getD a .non) (eQ (ps.getD a (Lk "",[])));rw [e1',e2'];exact dx
   exact this _ lt
  have vm:aA (p.toList.map λi=>us.getD i .non) (p.toList.map λi=>vs.getD i .none):=by
   have:∀l:List Nat,(∀i∈l,i < ps.length)->aA (l.map λi=>us.getD i .non) (l.map λi=>vs.getD i .none):=by
    intro l
    induction l with
    | nil=>intro _;exact .nil
    | cons a l ih=>
     intro hl;have ha:=hl a R5;refine .cons ?_ (ih λi hi=>hl i (by simp [hi]));obtain⟨x,ex,rx⟩:=jI hv (show vs[a]?=some (vs[a]'R0) by simp);have e1':us.getD a .non=x:=by simp [ex]
     have e2':vs.getD a .none=vs[a]'R0:=by simp [show a < vs.length by omega]
     show aC (us.getD a .non) (vs.getD a .none);rw [e1',e2'];exact rx
   exact this _ lt
  refine⟨_,rfl,Sg ⟨_,rfl,.ref h1.objs.size,ak H h1.objs.size (.lst (p.toList.map λi=>us.getD i .non)),?_,rfl,q _ _ (p.toList.map λi=>ps.getD i (Lk "",[])) hH dm ?_ ?_⟩⟩
  ·refine I2.track (t':=s.toks) (ch:=[h1.objs.size]) R5 (λb hb=>?_) (λb u hb z=>kept b u (λy=>hb (by simp [y])) z) ⟨?_,_,c,vm,g⟩
   ·rw [LX] at hb;subst hb;exact⟨hH,oD⟩
   ·rw [Lm,LR,pp.size];omega
  ·have h1:=pp.perm.map λi=>ps.getD i (Lk "",[]);have e:(Mv ps.length).map (λi=>ps.getD i (Lk "",[]))=ps:=by
    apply Nm R5;intro i a b;simp at a b⊢;rw [LG b];rfl
   rw [e] at h1;exact h1
  ·rw [LO,MI];intro i j hi hj hij;have:=pu i j hij (by rw [LR,pp.size] at hj;exact hj);have ei:p.getD i 0=p.toList[i]:=by simp [NN,show i < p.size by simpa using hi]
   have ej:p.getD j 0=p.toList[j]:=by simp [NN,show j < p.size by simpa using hj]
   rw [ei,ej] at this;exact this
section
variable {X:Cx} {H0:Hp} {O0:Ex}
def sW(t:DA):DA:=λδ Q=>t δ λds=>∃ps:List (Str×List R6),ds=[.tuple (ps.map eQ)]/\ps.length < 64/\(ps.map (·.1)).Nodup/\∀ps':List (Str×List R6),ps'.Perm ps->ps'.Pairwise (λa b=>d9 a.1 b.1=true)->Q (ps'.map eQ)
theorem Bj{a:Sd}{t:DA}{np p:Pos}(hg:Gl X "sorted")(hm:X.mg "sorted"=none)(hv:Sw "sorted"=some (.builtin "sorted"))(ha:PA X [a] (dS X.K H0 O0 t))(he:Se [a] X.env=(false,eval a X.env)::Se [] X.env:=by rfl)(hpl:(Sy p (Se [] X.env)).any (·.1)=false:=by rfl):
 FE X H0 O0 (.Call (.Name "sorted" np) [a] [] p) (sW t):=
 (bN Ih hg hm hv ha (he:=he) (hpl:=hpl)).imp λσ H Q uu47=>by obtain⟨O,δ,Qd,w,q,k⟩:=uu47;exact⟨O,δ,_,w,q,λds vs H1 uu48 s1 r1=>by
  obtain⟨ps,e,h64,nd,q1⟩:=uu48;subst e;cases r1 with
  | cons h r=>
   cases r;obtain⟨a,us,rfl,h1,d1⟩:=h.tup;exact⟨a,us,O,ps,rfl,h1,d1,h64,nd,λl us' ps' hl hd hp hs=>k _ _ _ _ (q1 ps' hp hs) s1 hl hd⟩⟩
end
section
variable {X:Cx} {H0:Hp} {O0:Ex}
theorem Ii{e:Sd}{t:TE}(h:PE X e t):PE X e (λσ H Q=>t σ H λv H1=>∃p kv H2,v= .ref p/\H1=ak H2 p (.dK kv)/\∀o,Q v (ak H2 p (.frz o (.dK kv)))):=by
 intro TR s σ H Q I q;refine ax (h TR s σ H _ I q) λu s1 ⟨v,H1,I1,r1,p,kv,H2,e1,e2,q1⟩=>?_;subst e1 e2;obtain⟨o,I2⟩:=I1.fast bb;rw [DI] at I2;exact⟨_,_,I2,r1,q1 o⟩
def sX(t:g5):DT:=λδ Q=>t δ λkd=>∃ks:List Str,kd.map (·.1)=ks.map Mi/\Q (g7 ks (kd.map (·.2)))
theorem Bk{e:Sd}{t:g5}(h:KE X H0 O0 e t):DE X H0 O0 e (sX t):=(Ii h).imp λσ H R ⟨O,δ,Qd,w,q,k⟩=>
 ⟨O,δ,_,w,q,λkd kv p H' uu51 s hp r=>by obtain⟨ks,ek,qd⟩:=uu51;exact⟨p,kv,H',rfl,rfl,λo=>k _ _ _ qd (s.trans (ao.new hp)) (.dic bb (by rw [r.keys];exact ek) rfl (λz=>w.trk p z (by
  cases e:H p with
  | none=>rfl
  | some o=>rw [s _ _ e] at hp;cases hp)) (r.vals.mono (ao.new hp)))⟩⟩
end
end L2
namespace PySem
open Sem (wp)
open AutoSeq1 (wpAny_loadPart')
theorem Ij(l:R8)(xs:Array R7)(n:Nat)(b:R8)(ys:Array R7)(m:Nat)(dd)(sl)(h0:¬(!xs.isEmpty && MM (xs.size+ys.size))=true)(h1:xs.size<=Sb)(h2:xs.size+ys.size<=Sb+1):
 Meets (Builtin.«list.extend» ⟨[.ref l,.ref b],[]⟩) (λ_ R s=>s.heap.get? l=some {cls:= .type "list",dict:=none,data:= .seq xs n,slots:=#[]}/\s.heap.get? b=some {cls:= .type "tuple",dict:=dd,data:= .seq ys m,slots:=sl}/\R (.ok (.ret Nn)) {s with heap:=s.heap.update l (L6 λx=>x++ys),toks:=s.toks}):=
 .of_wp λprog w A R s h=>by
  obtain⟨hp,g,d,tk,os⟩:=s;obtain⟨hl,hb,h⟩:=h;have hz':(xs++ys).size<=Sb+1:=by rw [Pb];exact h2
  have f2:=Pw;have f3:=AutoSeq1.sub_list_list;have f4:=AutoSeq1.sub_tuple_list;have f5:=AutoSeq1.sub_list_tuple
  wp_walk using(wpAny_updateSeq hl rfl (hz:=h1) (_hz':=hz')),SF hl,SF hb
  exact⟨_,rfl,h⟩
end PySem
namespace L2
open PySem PySem.Spec PyProof.Rows PySem.W PySem.Calls
theorem Ik{z:Str}{acc:Array R7}(h:ItemsOf (SignAt z) acc z.cps.size):aA (z.cps.toList.map λc=>V.str ⟨#[c]⟩) acc.toList:=by
 have key:∀(cs:List Nat)(l:List R7),l.length=cs.length->(∀(j:Nat)(v:R7),l[j]?=some v->∃c u,cs[j]?=some c/\v=Np ⟨#[c]⟩ u)->aA (cs.map λc=>V.str ⟨#[c]⟩) l:=by
  intro cs
  induction cs with
  | nil=>intro l hl _;rw [Og.mp hl];exact .nil
  | cons c cs ih=>
   intro l hl hk;cases l with
   | nil=>simp at hl
   | cons x l=>
    obtain⟨c',u,e,rfl⟩:=hk 0 x rfl;cases e;exact .cons ⟨u,rfl⟩ (ih l (by simpa using hl) λj v e=>by simpa using hk (j+1) v (by simpa using e))
 refine key _ _ (by rw [LR,LR];exact h.1) λj v e=>?_;obtain⟨c,u,e1,e2⟩:=h.2 j v (by simpa using e);exact⟨c,u,by simpa using e1,e2⟩
theorem Il{X:Cx}:cO X (.type "list") (λxs H Q=>X.calm=true/\∃z:Str,xs=[.str z]/\z.cps.size<=1000/\∀p,H p=none->Q (.ref p) (ak H p (.lst (z.cps.toList.map λc=>V.str ⟨#[c]⟩)))):=by
 intro TR s σ H xs us Q I r h;obtain⟨hc,z,rfl,hz,q⟩:=h;obtain⟨u,rfl,rx⟩:=cP r;obtain⟨t,rfl⟩:=rx;have hsl:Sb=16777216:=SE;refine call_list_str (I.ok.hd hc) z t (λh' tk acc' c' k' g it=>?_) R0;refine⟨.ref _,_,I.laid (t':=tk) (o:= .lst (z.cps.toList.map λc=>V.str ⟨#[c]⟩)) k' (Lr _) ?_,rfl,q _ (I.hok.fresh (Lr _))⟩;exact⟨by rw [Lm,LR];omega,_,c',Ik it,g⟩
section
variable {X:Cx} {H0:Hp} {O0:Ex}
def sY(t:DA):DA:=λδ Q=>t δ λds=>∃z:Str,ds=[.str z]/\z.cps.size<=1000/\Q (mN z)
theorem Im{a:Sd}{t:DA}{np p:Pos}(hc:X.calm=true)(hg:Gl X "list")(hm:X.mg "list"=none)(hv:Sw "list"=some (.type "list"))(ha:PA X [a] (dS X.K H0 O0 t))(he:Se [a] X.env=(false,eval a X.env)::Se [] X.env:=by rfl)(hpl:(Sy p (Se [] X.env)).any (·.1)=false:=by rfl):
 FE X H0 O0 (.Call (.Name "list" np) [a] [] p) (sY t):=
 (cB Il hg hm hv ha (he:=he) (hpl:=hpl)).imp λσ H Q uu52=>by obtain⟨O,δ,Qd,w,q,k⟩:=uu52;exact⟨O,δ,_,w,q,λds vs H1 uu53 s1 r1=>by
  obtain⟨z,e,hz,q1⟩:=uu53;subst e;cases r1 with
  | cons h r=>
   cases r;cases h.str;exact⟨hc,z,rfl,hz,λl hl=>k _ _ _ _ q1 s1 hl (aj.signs _)⟩⟩
def nu(t:DT)(g:DG)(tc:DB)(te:DT)(k:Nat)(fr:List Nat):DA:=λδ Q=>t δ λd=>∃ks ds,d=g7 ks ds/\ks.length<=Sb/\fc g tc te (dM k fr δ) (ks.map .str) Q
theorem Lj{tg iter elt:Sd}{ifs:List Sd}{scope:SH}{N':List Str}{k:Nat}{fr:List Nat}{g:TG}{dg:DG}{t:DT}{tc:DB}{te:DT}{pos:Pos}(hc:X.calm=true)(S:aY X.env.scope X.N N' k fr scope)(hi:DE X H0 O0 iter t)(gd:GD X.K g dg)(hk:fw g k)(hfr:fr.Nodup)
 (hg:∀fp C s H,PG (bh X scope N' fp C s H) tg g)(hf:∀fp C s H,dj (bh X scope N' fp C s H) ifs (bM X.K H0 O0 tc))(he:∀fp C s H,PE (bh X scope N' fp C s H) elt (up X.K H0 O0 te))
 (hs:∀x,Su iter X.env x=pure x:=by intro _;rfl):FE X H0 O0 (.ListComp elt [⟨tg,iter,ifs,0⟩] scope pos) (nu t dg tc te k fr):=
 (iQ hc S (Ba hi) hg hf he hs).imp λσ H Q uu54=>by obtain⟨O,δ,Qd,w,q,kk⟩:=uu54;exact⟨O,δ,_,w,q,λd v H1 uu55 s1 r1=>by
  obtain⟨ks,ds,e,hz,q1⟩:=uu55;subst e;obtain⟨a,ob,kv,rfl,h,e1,n,rr⟩:=r1.dicE;have hl:(kv.map λp=>kV p.1).length<=Sb:=by
   have:=congrArg Oq e1;rw [Lm,Lm] at this;rw [Lm,this];exact hz
  exact⟨a,ob,kv,rfl,h,λD hD=>gY cf.dk gd hfr (λv _ H' R h=>hk fr σ v H' R h) (λ_ _ _ z=>z) (λ_ _ _ z=>z) (λD H' hD s'=>s' _ _ h (cE h hD)) (sV e1) (w.mono s1) hl q1 (λds us p H' z s' hp r'=>kk ds us p H' z (s1.trans s') hp r') D hD⟩⟩
theorem Io{tg iter elt:Sd}{ifs:List Sd}{scope:SH}{N':List Str}{k:Nat}{fr:List Nat}{g:TG}{dg:DG}{t:DT}{tc:DB}{te:DT}{pos:Pos}(hc:X.calm=true)(S:aY X.env.scope X.N N' k fr scope)(hi:DE X H0 O0 iter t)(gd:GD X.K g dg)(hk:fw g k)(hfr:fr.Nodup)
 (hg:∀fp C s H,PG (bh X scope N' fp C s H) tg g)(hf:∀fp C s H,dj (bh X scope N' fp C s H) ifs (bM X.K H0 O0 tc))(he:∀fp C s H,PE (bh X scope N' fp C s H) elt (up X.K H0 O0 te))
 (hs:∀x,Su iter X.env x=pure x:=by intro _;rfl):PU X (.ListComp elt [⟨tg,iter,ifs,0⟩] scope pos) (jz X.K H0 O0 (nu t dg tc te k fr)):=
 (q5 hc S (Ba hi) hg hf he hs).imp λσ H Q uu56=>by obtain⟨O,δ,Qd,w,q,kk⟩:=uu56;exact⟨O,δ,_,w,q,λd v H1 uu57 s1 r1=>by
  obtain⟨ks,ds,e,hz,q1⟩:=uu57;subst e;obtain⟨a,ob,kv,rfl,h,e1,n,rr⟩:=r1.dicE;have hl:(kv.map λp=>kV p.1).length<=Sb:=by
   have:=congrArg Oq e1;rw [Lm,Lm] at this;rw [Lm,this];exact hz
  exact⟨a,ob,kv,rfl,h,λD hD=>gY cf.dk gd hfr (λv _ H' R h=>hk fr σ v H' R h) (λ_ _ _ z=>z) (λ_ _ _ z=>z) (λD H' hD s'=>s' _ _ h (cE h hD)) (sV e1) (w.mono s1) hl q1 (λds us p H' z s' hp r'=>kk ds us p H' z (s1.trans s') hp r') D hD⟩⟩
def Ip:R2:=λx y H Q=>∃l k xs,x= .ref l/\y= .int k/\Rd H l (.lst xs)/\-(2 ^ 63)<=k/\k < 2 ^ 63/\xs.length*k.toNat<=Sb/\∀p,H p=none->Q (.ref p) (ak H p (.lst (LC k.toNat xs).flatten))
theorem Iq:bK X (SQ .Mult) Ip:=by
 intro TR s σ H x y v u Q I rx ry h;obtain⟨l,k,xs,rfl,rfl,hH,h1,h2,hz,q⟩:=h;cases rx;obtain⟨t,rfl⟩:=ry;obtain⟨z,its,n,r,e⟩:=hH.ok I.hok;have hl:=r.length;have hlen:its.toArray.size*k.toNat<=Sb:=by rw [Lw,<-hl];exact hz
 have hcap:¬its.toArray.size*k.toNat > (2 ^ 63 - 1)/ 8:=by
  have:(Sb:Nat)<=(2 ^ 63 - 1)/ 8:=RZ
  omega
 have hfit:¬(!M6 k)=true:=by
  rw [fitsIndex_both h1 h2];exact Lx
 have hlong:¬MM (its.toArray.size*k.toNat)=true:=by
  rw [lZ hlen];exact Lx
 have hnew:Ny (λx1 x2=>x1++x2) #[] (LC (if its.toArray.isEmpty=true then 0 else k.toNat) its.toArray)=(LC k.toNat its).flatten.toArray:=by
  have f0:∀m:Nat,Ny (λx1 x2=>x1++x2) #[] (LC m its.toArray)=(LC m its).flatten.toArray:=λm=>by
   have:=pq its m [];rw [Mq] at this;exact this
  rw [f0];cases its with
  | nil=>simp
  | cons a r'=>rw [R1 R5]
 refine TJ (T:="list") (U:="int") RZ ⟨_,e,rfl⟩ (λs'=>typeIs_int s' k t) noFill_list_mul F.fills_int_mul F.slot_int_rmul repeat_list F.slot_int_index.lookup
  (SO F.slot_int_rmul (typeIs_int s k t) F.entry_int_rmul (F.args_int_rmul_2 _ _) (int___rmul___int_list k t l its.toArray n)
   ⟨e,rfl,⟨_,e,rfl⟩,SO F.slot_list_mul ⟨_,e,rfl⟩ F.entry_list_mul (F.args_list_mul_2 _ _) (Ou l its.toArray n k t hfit hcap hlong) ⟨e,?_⟩⟩)
 rw [hnew];exact⟨.ref _,_,I.lnew (t':=s.toks) (r.rep k.toNat) (by rw [wm,RE];exact hz),rfl,q _ I.fresh⟩
def sZ(t u:DT):DA:=λδ Q=>t δ λx=>∃ds,x= .list ds/\ds.length<=1000/\u δ λy=>∃i:Int,y= .int i/\0<=i/\i<=1000/\Q (LC i.toNat ds).flatten
theorem Ir{e f:Sd}{t u:DT}{pos:Pos}(h:DF X H0 O0 e t)(hf:DE X H0 O0 f u):FE X H0 O0 (.BinOp e .Mult f pos) (sZ t u):=
 (aX Iq h hf).imp λσ H Q ⟨O,δ,Qd,w,q,k⟩=>⟨O,δ,_,w,q,λx v H1 ⟨ds,ex,hl,q1⟩ s1 r1=>⟨O,δ,_,w.mono s1,q1,λy v H2 uu60 s2 r2=>by
  obtain⟨i,e,i0,i1,q2⟩:=uu60;subst e ex;cases r2;obtain⟨a,vs,rfl,h1,d1⟩:=(r1.mono s2).lstR;refine⟨a,i,vs,rfl,rfl,h1,R0,R0,?_,λp' hp'=>k _ _ p' _ q2 (s1.trans s2) hp' (d1.rep i.toNat)⟩;have h2:(Sb:Nat)=16777216:=RZ
  have h3:=d1.length;have h4:vs.length*i.toNat<=1000*1000:=Rg R0 R0;omega⟩⟩
def Iu(K:Ll):V->List V->Hp->VK->Prop:=λx vs H Q=>∃l b xs zs,x= .ref l/\vs=[.ref b]/\H l=some (.lst xs)/\aW K H b zs/\xs.length+zs.length<=Sb/\Q .non (ak H l (.lst (xs++zs)))
theorem Iw:lY X "list.extend" (Iu X.K):=by
 intro TR s σ H x vs v us Q I rx rv h;obtain⟨l,b,xs,zs,rfl,rfl,hH,hB,hz,q⟩:=h;cases rx;obtain⟨u,rfl,ru⟩:=rv.one;cases ru;obtain⟨z,its,n,r,hl,e⟩:=I.lstM hH;obtain⟨its2,r2,p2,z2⟩:=I.tuple hB;obtain⟨⟨cls,dd,data,sl⟩,e2,hc,n2,hd⟩:=id (show s.heap.IsTuple b its2.toArray from p2);simp only at hc hd;subst hc hd;have hl2:=r2.length;have hsz:its.toArray.size+its2.toArray.size<=Sb:=by rw [Lw,Lw];omega
 have hlong:¬(!its.toArray.isEmpty && MM (its.toArray.size+its2.toArray.size))=true:=by
  rw [lZ hsz,Rc];exact Lx
 refine SO Ob ⟨_,e,rfl⟩ PySem.F.entry_list_extend (PySem.F.args_list_extend_2 _ _)
  (Ij l its.toArray n b its2.toArray n2 dd sl hlong (by rw [Lw];omega) R0) ⟨e,e2,?_⟩
 refine⟨.non,_,I.lset (its':=its++its2) hH e R5 (r.append r2) ?_,rfl,q⟩;rw [LN];omega
def tf(i:Nat)(t:DT):DS:=λE δ=>∃ds,δ[i]?=some (some (.o ds))/\t δ λd=>∃es,d= .tuple es/\ds.length+es.length<=Sb/\E.nx (δ.set i (some (.o (ds++es))))
theorem Iy{i:Nat}{o e:Sd}{t:DT}{apos cpos pos:Pos}(ho:PE X o (c7 i))(he:DE X H0 O0 e t)(hbase:SJ o "extend" X.env (eval o X.env)=eval o X.env:=by rfl)
 (hfew:((Sy cpos (Se [e] X.env)).all (λx=>!x.1) && (Ti cpos (S4 [] X.env)).all (λx=>x.1.isSome) && decide ([e].length+([]:List SS).length+(if ([]:List SS).isEmpty then 0 else 1) < 30))=true:=by rfl)
 (hline:(apos.endLine==cpos.line)=true:=by rfl)(hst:Se [e] X.env=(false,eval e X.env)::Se [] X.env:=by rfl)(hplain:(Sy cpos (Se [] X.env)).any (·.1)=false:=by rfl)
 (hs:Sx (.Call (.Attribute o "extend" apos) [e] [] cpos) none pos.line X.env=pure false:=by rfl):PS X (.Expr (.Call (.Attribute o "extend" apos) [e] [] cpos) pos) (bx X.K H0 O0 (tf i t)):=
 (j3 (km NC Ob Pq Iw ho (bw he bX hst) hbase hfew hline hst hplain) hs).imp λD σ H uu61=>by
  obtain⟨O,δ,E,w,⟨ds,e,q⟩,k1,k2,k3,k4⟩:=uu61;obtain⟨l,vs,h,a,b,c,r⟩:=w.own e;refine⟨_,h,.inl ⟨rfl,_,aN.of c⟩,O,δ,_,w,q,λd v H1 ⟨es,ed,q1,q2⟩ s1 r1=>?_⟩;subst ed;have hl:H1 l=some (.lst vs):=s1 _ _ c;obtain⟨b2,us,rfl,h1,d1⟩:=(Sh.dt r1).tup;refine⟨l,_,vs,_,rfl,rfl,hl,h1,by rw [r.length,d1.length];exact q1,?_⟩;exact k1 _ _ _ _ q2 ((w.mono s1).putO (vs:=vs) e h ((r.mono s1).append d1)) ⟨λb' o' z n=>by rw [aD (λy=>n (by rw [y];exact a))];exact s1 _ _ z,λ_ _ n=>n⟩
end
end L2
namespace K14
open PySem L2
def bg(i:Nat):Sq:=PySem.Challenge.pw_goneday_k14_whole_two_sets_beside.main.body.getD i (.Pass ⟨0,0,0,0⟩)
abbrev tj:Sq:=bg 8
abbrev tm:Sq:=bg 9
abbrev tq:Sq:=bg 10
abbrev tu:Sq:=bg 11
abbrev tD:Sq:=bg 12
abbrev tE:Sq:=bg 13
abbrev nv:Sq:=bg 14
abbrev tF:Sq:=bg 15
abbrev ny:Sq:=L2.inClass (bg 17) 0
abbrev tG:Sq:=bg 18
abbrev nA:Sq:=bg 19
abbrev tH:Sq:=bg 20
abbrev nB:Sq:=bg 21
abbrev tI:Sq:=bg 22
abbrev kU:Sq:=bg 23
abbrev nE:Sq:=bg 24
abbrev nF:Sq:=bg 25
abbrev nG:Sq:=bg 26
abbrev nH:Sq:=bg 28
abbrev nI:Sq:=bg 29
abbrev nJ:Sq:=bg 30
abbrev tJ:Sq:=bg 31
abbrev nK:Sq:=bg 32
abbrev tK:Sq:=bg 33
abbrev nL:Sq:=bg 34
abbrev nM:Sq:=bg 35
abbrev tL:Sq:=bg 36
abbrev tM:Sq:=bg 37
abbrev tN:Sq:=bg 39
abbrev tO:Sq:=bg 40
abbrev tP:Sq:=bg 41
abbrev kW:Sq:=bg 42
abbrev tQ:Sq:=bg 43
abbrev tR:Sq:=bg 44
abbrev nN:Sq:=bg 45
abbrev tS:Sq:=bg 47
abbrev tT:Sq:=bg 48
abbrev nO:Sq:=bg 49
abbrev tU:Sq:=bg 50
abbrev nP:Sq:=bg 51
abbrev nQ:Sq:=bg 52
abbrev jK:Sq:=bg 53
abbrev tV:Sq:=bg 54
abbrev tW:Sq:=bg 55
abbrev kX:Sq:=bg 56
abbrev nR:Sq:=bg 57
abbrev nS:Sq:=bg 58
abbrev jL:Sq:=bg 59
set_option genInjectivity false in
set_option genSizeOfSpec false in
structure cC where
 a_A:R8
 d_A:Sj
 a_B:R8
 d_B:Sj
 a_C:R8
 d_C:Sj
 a_D:R8
 d_D:Sj
 a_E:R8
 d_E:Sj
 a_F:R8
 d_F:Sj
 a_G:R8
 d_G:Sj
 a_H:R8
 d_H:Sj
 a_I:R8
 d_I:Sj
 a_J:R8
 d_J:Sj
 a_K:R8
 d_K:Sj
 a_L:R8
 d_L:Sj
 a_M:R8
 d_M:Sj
 a_N:R8
 d_N:Sj
 a_O:R8
 d_O:Sj
 a_P:R8
 d_P:Sj
 a_Q:R8
 d_Q:Sj
 a_R:R8
 d_R:Sj
 a_S:R8
 d_S:Sj
 a_T:R8
 d_T:Sj
 a_U:R8
 d_U:Sj
 a_V:R8
 d_V:Sj
 a_W:R8
 d_W:Sj
 a_X:R8
 d_X:Sj
 a_Y:R8
 d_Y:Sj
 a_Z:R8
 d_Z:Sj
 a_a:R8
 d_a:Sj
 a_b:R8
 d_b:Sj
 a_c:R8
 d_c:Sj
 a_d:R8
 d_d:Sj
 a_e:R8
 d_e:Sj
 a_f:R8
 d_f:Sj
 a_g:R8
 d_g:Sj
 a_h:R8
 d_h:Sj
 a_i:R8
 d_i:Sj
 a_j:R8
 d_j:Sj
 a_k:R8
 d_k:Sj
 a_l:R8
 d_l:Sj
 a_m:R8
 d_m:Sj
 a_n:R8
 d_n:Sj
 a_o:R8
 d_o:Sj
 a_p:R8
 d_p:Sj
 a_q:R8
 d_q:Sj
 a_r:R8
 d_r:Sj
 a_s:R8
 d_s:Sj
 a_t:R8
 d_t:Sj
 a_u:R8
 d_u:Sj
 a_v:R8
 d_v:Sj
 u_MONTH_DAYS:R7
 u_FIRST_YEAR:R7
 u_ROUND_DAYS:R7
 u_ROUND_YEARS:R7
 u_NoPaper:R8
 u_Paper:R8
structure Txt (K:Ll) (mg:Str->Option R7) (t:cC):Prop where
 F_A:Fn K mg "is_leap" tj t.a_A t.d_A ["year"]
 F_B:Fn K mg "month_length" tm t.a_B t.d_B ["year","month"]
 F_C:Fn K mg "leaps_before" tq t.a_C t.d_C ["year"]
 F_D:Fn K mg "year_start" tu t.a_D t.d_D ["year"]
 F_E:Fn K mg "year_of" tD t.a_E t.d_E ["day"]
 F_F:Fn K mg "parts_of" tE t.a_F t.d_F ["day"]
 F_G:Fn K mg "number_of" nv t.a_G t.d_G ["year","month","day"]
 F_H:Fn K mg "later" tF t.a_H t.d_H ["day","many","unit"]
 F_I:Mn K "__init__" "Paper.__init__" ny t.a_I t.d_I ["self","deeds","name"]
 F_J:Fn K mg "place_of" tG t.a_J t.d_J ["deed"]
 F_K:Fn K mg "comings" nA t.a_K t.d_K ["deeds"]
 F_L:Fn K mg "coming_of" tH t.a_L t.d_L ["deeds","paper"]
 F_M:Fn K mg "papers" nB t.a_M t.d_M ["deeds"]
 F_N:Fn K mg "kind_of" tI t.a_N t.d_N ["deeds","paper"]
 F_O:Fn K mg "maker_comings" kU t.a_O t.d_O ["deeds","coming"]
 F_P:Fn K mg "makers" nE t.a_P t.d_P ["deeds","paper"]
 F_Q:Fn K mg "made_of" nF t.a_Q t.d_Q ["deeds","paper"]
 F_R:Fn K mg "line_of" nG t.a_R t.d_R ["deeds","paper"]
 F_S:Fn K mg "latest" nH t.a_S t.d_S ["deeds","words","day"]
 F_T:Fn K mg "rules_on" nI t.a_T t.d_T ["deeds","day"]
 F_U:Fn K mg "holds_on" nJ t.a_U t.d_U ["deeds","day"]
 F_V:Fn K mg "is_told" tJ t.a_V t.d_V ["target","coming"]
 F_W:Fn K mg "holding" nK t.a_W t.d_W ["holds","line"]
 F_X:Fn K mg "covering" tK t.a_X t.d_X ["deeds","day","paper"]
 F_Y:Fn K mg "happened" nL t.a_Y t.d_Y ["paper","happening"]
 F_Z:Fn K mg "base_of" nM t.a_Z t.d_Z ["paper","since","day"]
 F_a:Fn K mg "reckoned" tL t.a_a t.d_a ["paper","parts","day"]
 F_b:Fn K mg "reckoning" tM t.a_b t.d_b ["deeds","parts","paper","day"]
 F_c:Fn K mg "_law_cell" tN t.a_c t.d_c ["_law_script","_law_k"]
 F_d:Fn K mg "_law_purse" tO t.a_d t.d_d ["_law_cell_here"]
 F_e:Fn K mg "_law_take" tP t.a_e t.d_e ["_law_purse_here","_law_many"]
 F_f:Fn K mg "_law_names" kW t.a_f t.d_f ["_law_purse_here","_law_many"]
 F_g:Fn K mg "_law_month" tQ t.a_g t.d_g ["_law_year_here","_law_month_here"]
 F_h:Fn K mg "_law_year" tR t.a_h t.d_h ["_law_year_here"]
 F_i:Fn K mg "_law_day" nN t.a_i t.d_i ["_law_year_here","_law_month_here","_law_number"]
 F_j:Fn K mg "_law_drawn_day" tS t.a_j t.d_j ["_law_purse_here","_law_far"]
 F_k:Fn K mg "_law_parts" tT t.a_k t.d_k ["_law_purse_here","_law_word","_law_names_here","_law_kinds","_law_far"]
 F_l:Fn K mg "_law_deed" nO t.a_l t.d_l ["_law_purse_here","_law_word","_law_names_here","_law_kinds","_law_far"]
 F_m:Fn K mg "_law_quarrels" tU t.a_m t.d_m ["_law_one","_law_other"]
 F_n:Fn K mg "_law_deeds" nP t.a_n t.d_n ["_law_script","_law_first","_law_menu","_law_most"]
 F_o:Fn K mg "_law_renamed" nQ t.a_o t.d_o ["_law_deed_here","_law_known"]
 F_p:Fn K mg "_law_others" jK t.a_p t.d_p ["_law_names_here","_law_others_here","_law_turn"]
 F_q:Fn K mg "_law_told" tV t.a_q t.d_q ["_law_deeds_here","_law_name","_law_day_here"]
 F_r:Fn K mg "_law_reckoned_alike" tW t.a_r t.d_r ["_law_some","_law_both","_law_name","_law_day_here"]
 F_s:Fn K mg "_law_covered" kX t.a_s t.d_s ["_law_deeds_here","_law_day_here"]
 F_t:Fn K mg "_law_day_right" nR t.a_t t.d_t ["_law_sets","_law_both","_law_day_here"]
 F_u:Fn K mg "_law_right" nS t.a_u t.d_u ["_law_sets","_law_both","_law_day_here"]
 F_v:Fn K mg "law" jL t.a_v t.d_v ["_law_script"]
 bt_v:∀(s:R9)(u:R7),BindsTo s t.d_v ⟨[u],[]⟩ [("_law_script",u)]
 c_MONTH_DAYS:mg "MONTH_DAYS"=some t.u_MONTH_DAYS
 e_MONTH_DAYS:∃a,t.u_MONTH_DAYS= .ref a/\∀H,aW K H a [V.int 31,V.int 28,V.int 31,V.int 30,V.int 31,V.int 30,V.int 31,V.int 31,V.int 30,V.int 31,V.int 30,V.int 31]
 c_FIRST_YEAR:mg "FIRST_YEAR"=some t.u_FIRST_YEAR
 r_FIRST_YEAR:aC (.int 2000) t.u_FIRST_YEAR
 c_ROUND_DAYS:mg "ROUND_DAYS"=some t.u_ROUND_DAYS
 r_ROUND_DAYS:aC (.int 146097) t.u_ROUND_DAYS
 c_ROUND_YEARS:mg "ROUND_YEARS"=some t.u_ROUND_YEARS
 r_ROUND_YEARS:aC (.int 400) t.u_ROUND_YEARS
 c_NoPaper:mg "NoPaper"=some (.ref t.u_NoPaper)
 c_Paper:mg "Paper"=some (.ref t.u_Paper)
 cl_Paper:gq K t.u_Paper
 mk_Paper:Mk K t.u_Paper t.a_I
 na_Paper_name:NoAttr K t.u_Paper "name"
 na_Paper_coming:NoAttr K t.u_Paper "coming"
 na_Paper_kind:NoAttr K t.u_Paper "kind"
 na_Paper_makers:NoAttr K t.u_Paper "makers"
 na_Paper_happenings:NoAttr K t.u_Paper "happenings"
 n_abs:mg "abs"=none
 n_any:mg "any"=none
 n_dict:mg "dict"=none
 n_divmod:mg "divmod"=none
 n_int:mg "int"=none
 n_len:mg "len"=none
 n_list:mg "list"=none
 n_max:mg "max"=none
 n_min:mg "min"=none
 n_range:mg "range"=none
 n_sorted:mg "sorted"=none
 n_sum:mg "sum"=none
 n_tuple:mg "tuple"=none
theorem Iz:aS ["year"] ["year"] (av tj):= .of
theorem IA:aS ["year","month"] ["year","month"] (av tm):= .of
theorem Bl:aS ["year","past"] ["year"] (av tq):= .of
theorem IB:aS ["year"] ["year"] (av tu):= .of
theorem Bm:aS ["day","year"] ["day"] (av tD):= .of
theorem jM:aS ["day","year","left","month"] ["day"] (av tE):= .of
theorem Bn:aS ["year","month","day","before"] ["year","month","day"] (av nv):= .of
theorem jN:aS ["day","many","unit","months","parts","place","year","month"] ["day","many","unit"] (av tF):= .of
theorem Bo:aS ["self","deeds","name","coming"] ["self","deeds","name"] (av ny):= .of
theorem IC:aS ["deed"] ["deed"] (av tG):= .of
theorem ID:aS ["deeds"] ["deeds"] (av nA):= .of
theorem Bp:aS ["deeds","paper","deed"] ["deeds","paper"] (av tH):= .of
theorem IE:aS ["deeds"] ["deeds"] (av nB):= .of
theorem IF:aS ["deeds","paper"] ["deeds","paper"] (av tI):= .of
theorem Bq:aS ["deeds","coming","named"] ["deeds","coming"] (av kU):= .of
theorem IG:aS ["deeds","paper"] ["deeds","paper"] (av nE):= .of
theorem nT:aS ["deeds","paper","reached","made","name"] ["deeds","paper"] (av nF):= .of
theorem nU:aS ["deeds","paper","line","place"] ["deeds","paper"] (av nG):= .of
theorem nV:aS ["deeds","words","day","found","deed","known"] ["deeds","words","day"] (av nH):= .of
theorem IH:aS ["deeds","day"] ["deeds","day"] (av nI):= .of
theorem II:aS ["deeds","day"] ["deeds","day"] (av nJ):= .of
theorem IJ:aS ["target","coming"] ["target","coming"] (av tJ):= .of
theorem jO:aS ["holds","line","names","hold","target","deep","reached"] ["holds","line"] (av nK):= .of
theorem IK:aS ["deeds","day","paper"] ["deeds","day","paper"] (av tK):= .of
theorem IL:aS ["paper","happening"] ["paper","happening"] (av nL):= .of
theorem Br:aS ["paper","since","day","days"] ["paper","since","day"] (av nM):= .of
theorem Bs:aS ["paper","parts","day","base"] ["paper","parts","day"] (av tL):= .of
theorem IM:aS ["deeds","parts","paper","day"] ["deeds","parts","paper","day"] (av tM):= .of
theorem nW:aS ["_law_script","_law_k","_law_state","_law_cell_here"] ["_law_script","_law_k"] (av tN):= .of
theorem tX:aS ["_law_cell_here","_law_digits"] ["_law_cell_here"] (av tO):= .of
theorem tY:aS ["_law_purse_here","_law_many","_law_state","_law_digit"] ["_law_purse_here","_law_many"] (av tP):= .of
theorem jP:aS ["_law_purse_here","_law_many","_law_letters","_law_stem","_law_at","_law_first","_law_step"] ["_law_purse_here","_law_many"] (av kW):= .of
theorem Bt:aS ["_law_year_here","_law_month_here","_law_leap"] ["_law_year_here","_law_month_here"] (av tQ):= .of
theorem Bu:aS ["_law_year_here"] ["_law_year_here"] (av tR):= .of
theorem IP:aS ["_law_year_here","_law_month_here","_law_number"] ["_law_year_here","_law_month_here","_law_number"] (av nN):= .of
theorem Bv:aS ["_law_purse_here","_law_far","_law_year_here","_law_month_here"] ["_law_purse_here","_law_far"] (av tS):= .of
theorem nX:aS ["_law_purse_here","_law_word","_law_names_here","_law_kinds","_law_far","_law_kind","_law_since","_law_many"] ["_law_purse_here","_law_word","_law_names_here","_law_kinds","_law_far"] (av tT):= .of
theorem jQ:aS ["_law_purse_here","_law_word","_law_names_here","_law_kinds","_law_far","_law_day_here","_law_name","_law_some","_law_kind","_law_target"] ["_law_purse_here","_law_word","_law_names_here","_law_kinds","_law_far"] (av nO):= .of
theorem Bw:aS ["_law_one","_law_other","_law_sorts"] ["_law_one","_law_other"] (av tU):= .of
theorem fC:aS ["_law_script","_law_first","_law_menu","_law_most","_law_head","_law_far","_law_chain","_law_names_here","_law_kinds","_law_words","_law_turn","_law_deeds_here","_law_k","_law_deed_here","_law_day_here"] ["_law_script","_law_first","_law_menu","_law_most"] (av nP):= .of
theorem kY:aS ["_law_deed_here","_law_known","_law_word","_law_day_here","_law_parts_here"] ["_law_deed_here","_law_known"] (av nQ):= .of
theorem nY:aS ["_law_names_here","_law_others_here","_law_turn","_law_letters","_law_some"] ["_law_names_here","_law_others_here","_law_turn"] (av jK):= .of
theorem Bx:aS ["_law_deeds_here","_law_name","_law_day_here","_law_found"] ["_law_deeds_here","_law_name","_law_day_here"] (av tV):= .of
theorem By:aS ["_law_some","_law_both","_law_name","_law_day_here","_law_deed_here"] ["_law_some","_law_both","_law_name","_law_day_here"] (av tW):= .of
theorem hG:aS ["_law_deeds_here","_law_day_here","_law_known","_law_found","_law_hold","_law_target","_law_deep","_law_some","_law_more","_law_name"] ["_law_deeds_here","_law_day_here"] (av kX):= .of
theorem nZ:aS ["_law_sets","_law_both","_law_day_here","_law_due","_law_held","_law_days"] ["_law_sets","_law_both","_law_day_here"] (av nR):= .of
theorem n4:aS ["_law_sets","_law_both","_law_day_here","_law_known","_law_some","_law_name"] ["_law_sets","_law_both","_law_day_here"] (av nS):= .of
theorem dE:aS ["_law_script","_law_menu","_law_first","_law_names_here","_law_far","_law_second","_law_others_here","_law_purse_here","_law_known","_law_both","_law_deed_here","_law_comings","_law_k","_law_day_here"] ["_law_script"] (av jL):= .of
theorem Bz{α:Type}{us:List α}(h:us.length=1):∃a,us=[a]:=List.length_eq_one_iff.mp h
theorem BA{α:Type}{us:List α}(h0:us.length=2):∃a b,us=[a,b]:=by
 cases us with
 | nil=>cases h0
 | cons a us=>
  obtain⟨b,z0⟩:=Bz (us:=us) (Py h0);exact⟨a,b,by rw [z0]⟩
theorem BB{α:Type}{us:List α}(h0:us.length=3):∃a b c,us=[a,b,c]:=by
 cases us with
 | nil=>cases h0
 | cons a us=>
  obtain⟨b,c,z0⟩:=BA (us:=us) (Py h0);exact⟨a,b,c,by rw [z0]⟩
theorem BC{α:Type}{us:List α}(h0:us.length=4):∃a b c d,us=[a,b,c,d]:=by
 cases us with
 | nil=>cases h0
 | cons a us=>
  obtain⟨b,c,d,z0⟩:=BB (us:=us) (Py h0);exact⟨a,b,c,d,by rw [z0]⟩
theorem IQ{α:Type}{us:List α}(h0:us.length=5):∃a b c d p,us=[a,b,c,d,p]:=by
 cases us with
 | nil=>cases h0
 | cons a us=>
  obtain⟨b,c,d,p,z0⟩:=BC (us:=us) (Py h0);exact⟨a,b,c,d,p,by rw [z0]⟩
local macro_rules | `(tactic| walk_at "b")=>`(tactic| (intro _ _ _ _ _ _ us hl;first | (cases ls0 (us:=us) hl;rfl) | (obtain⟨a,e⟩:=Bz (us:=us) hl;subst e;rfl) | (obtain⟨a,b,e⟩:=BA (us:=us) hl;subst e;rfl) | (obtain⟨a,b,c,e⟩:=BB (us:=us) hl;subst e;rfl) | (obtain⟨a,b,c,d,e⟩:=BC (us:=us) hl;subst e;rfl) | (obtain⟨a,b,c,d,p,e⟩:=IQ (us:=us) hl;subst e;rfl)))
theorem txt_mk{K:Ll}{h:Sn}{mg:Str->Option R7}(X:K.In h)(G:h.Ns So mg)
 {f0 f1 f2 f3 f4 f5 f6 f7 f8 f9 f10 f11 f12 f13 f14 f15 f16 f17 f18 f19 f20 f21 f22 f23 f24 f25 f26 f27 f28 f29 f30 f31 f32 f33 f34 f35 f36 f37 f38 f39 f40 f41 f42 f43 f44 f45 f46 f47:R8}{e0 e1 e2 e3 e4 e5 e6 e7 e8 e9 e10 e11 e12 e13 e14 e15 e16 e17 e18 e19 e20 e21 e22 e23 e24 e25 e26 e27 e28 e29 e30 e31 e32 e33 e34 e35 e36 e37 e38 e39 e40 e41 e42 e43 e44 e45 e46 e47:Sj}
 {u_NoPaper u_Paper:R8}
 {u_FIRST_YEAR u_ROUND_DAYS u_ROUND_YEARS:R7}
 {A_MONTH_DAYS:R8}{dd_MONTH_DAYS:Option R8}{its_MONTH_DAYS:Array R7}{n_MONTH_DAYS:Nat}{sl_MONTH_DAYS:Array (Option R7)}
 (a0:DfT K "is_leap" tj f0 e0)
 (a1:DfT K "month_length" tm f1 e1)
 (a2:DfT K "leaps_before" tq f2 e2)
 (a3:DfT K "year_start" tu f3 e3)
 (a4:DfT K "year_of" tD f4 e4)
 (a5:DfT K "parts_of" tE f5 e5)
 (a6:DfT K "number_of" nv f6 e6)
 (a7:DfT K "later" tF f7 e7)
 (a8:DmT K u_Paper "__init__" "Paper.__init__" ny f8 e8)
 (a9:DfT K "place_of" tG f9 e9)
 (a10:DfT K "comings" nA f10 e10)
 (a11:DfT K "coming_of" tH f11 e11)
 (a12:DfT K "papers" nB f12 e12)
 (a13:DfT K "kind_of" tI f13 e13)
 (a14:DfT K "maker_comings" kU f14 e14)
 (a15:DfT K "makers" nE f15 e15)
 (a16:DfT K "made_of" nF f16 e16)
 (a17:DfT K "line_of" nG f17 e17)
 (a18:DfT K "latest" nH f18 e18)
 (a19:DfT K "rules_on" nI f19 e19)
 (a20:DfT K "holds_on" nJ f20 e20)
 (a21:DfT K "is_told" tJ f21 e21)
 (a22:DfT K "holding" nK f22 e22)
 (a23:DfT K "covering" tK f23 e23)
 (a24:DfT K "happened" nL f24 e24)
 (a25:DfT K "base_of" nM f25 e25)
 (a26:DfT K "reckoned" tL f26 e26)
 (a27:DfT K "reckoning" tM f27 e27)
 (a28:DfT K "_law_cell" tN f28 e28)
 (a29:DfT K "_law_purse" tO f29 e29)
 (a30:DfT K "_law_take" tP f30 e30)
 (a31:DfT K "_law_names" kW f31 e31)
 (a32:DfT K "_law_month" tQ f32 e32)
 (a33:DfT K "_law_year" tR f33 e33)
 (a34:DfT K "_law_day" nN f34 e34)
 (a35:DfT K "_law_drawn_day" tS f35 e35)
 (a36:DfT K "_law_parts" tT f36 e36)
 (a37:DfT K "_law_deed" nO f37 e37)
 (a38:DfT K "_law_quarrels" tU f38 e38)
 (a39:DfT K "_law_deeds" nP f39 e39)
 (a40:DfT K "_law_renamed" nQ f40 e40)
 (a41:DfT K "_law_others" jK f41 e41)
 (a42:DfT K "_law_told" tV f42 e42)
 (a43:DfT K "_law_reckoned_alike" tW f43 e43)
 (a44:DfT K "_law_covered" kX f44 e44)
 (a45:DfT K "_law_day_right" nR f45 e45)
 (a46:DfT K "_law_right" nS f46 e46)
 (a47:DfT K "law" jL f47 e47)
 (x_MONTH_DAYS:Mh K So "MONTH_DAYS"=some (some (.ref A_MONTH_DAYS)))(y_MONTH_DAYS:K.lookup A_MONTH_DAYS=some ⟨.type "tuple",dd_MONTH_DAYS,.seq its_MONTH_DAYS n_MONTH_DAYS,sl_MONTH_DAYS⟩)(z_MONTH_DAYS:aA [V.int 31,V.int 28,V.int 31,V.int 30,V.int 31,V.int 30,V.int 31,V.int 31,V.int 30,V.int 31,V.int 30,V.int 31] its_MONTH_DAYS.toList)(w_MONTH_DAYS:its_MONTH_DAYS.size<=Sb)
 (x_FIRST_YEAR:Mh K So "FIRST_YEAR"=some (some u_FIRST_YEAR))(r_FIRST_YEAR:aC (.int 2000) u_FIRST_YEAR)
 (x_ROUND_DAYS:Mh K So "ROUND_DAYS"=some (some u_ROUND_DAYS))(r_ROUND_DAYS:aC (.int 146097) u_ROUND_DAYS)
 (x_ROUND_YEARS:Mh K So "ROUND_YEARS"=some (some u_ROUND_YEARS))(r_ROUND_YEARS:aC (.int 400) u_ROUND_YEARS)
 (x_NoPaper:Mh K So "NoPaper"=some (some (.ref u_NoPaper)))
 (x_Paper:Mh K So "Paper"=some (some (.ref u_Paper)))
 (cl_Paper:Bh K u_Paper)
 (na_Paper_name:NoAttr K u_Paper "name")
 (na_Paper_coming:NoAttr K u_Paper "coming")
 (na_Paper_kind:NoAttr K u_Paper "kind")
 (na_Paper_makers:NoAttr K u_Paper "makers")
 (na_Paper_happenings:NoAttr K u_Paper "happenings")
 (n_abs:Mh K So "abs"=some none)
 (n_any:Mh K So "any"=some none)
 (n_dict:Mh K So "dict"=some none)
 (n_divmod:Mh K So "divmod"=some none)
 (n_int:Mh K So "int"=some none)
 (n_len:Mh K So "len"=some none)
 (n_list:Mh K So "list"=some none)
 (n_max:Mh K So "max"=some none)
 (n_min:Mh K So "min"=some none)
 (n_range:Mh K So "range"=some none)
 (n_sorted:Mh K So "sorted"=some none)
 (n_sum:Mh K So "sum"=some none)
 (n_tuple:Mh K So "tuple"=some none):∃t:cC,Txt K mg t:=by
 refine⟨⟨f0,e0,f1,e1,f2,e2,f3,e3,f4,e4,f5,e5,f6,e6,f7,e7,f8,e8,f9,e9,f10,e10,f11,e11,f12,e12,f13,e13,f14,e14,f15,e15,f16,e16,f17,e17,f18,e18,f19,e19,f20,e20,f21,e21,f22,e22,f23,e23,f24,e24,f25,e25,f26,e26,f27,e27,f28,e28,f29,e29,f30,e30,f31,e31,f32,e32,f33,e33,f34,e34,f35,e35,f36,e36,f37,e37,f38,e38,f39,e39,f40,e40,f41,e41,f42,e42,f43,e43,f44,e44,f45,e45,f46,e46,f47,e47,.ref A_MONTH_DAYS,u_FIRST_YEAR,u_ROUND_DAYS,u_ROUND_YEARS,u_NoPaper,u_Paper⟩,?_⟩;have bl:∀(s:R9)(u:R7),BindsTo s e47 ⟨[u],[]⟩ [("_law_script",u)]:=λs v=>by
  obtain⟨oc,od,kV,doc,pm,an,cdv,ct,osl,rfl,_⟩:=a47.F.ex;exact .of_eq rfl
 exact⟨a0.fn X G,a1.fn X G,a2.fn X G,a3.fn X G,a4.fn X G,a5.fn X G,a6.fn X G,a7.fn X G,a8.fn,a9.fn X G,a10.fn X G,a11.fn X G,a12.fn X G,a13.fn X G,a14.fn X G,a15.fn X G,a16.fn X G,a17.fn X G,a18.fn X G,a19.fn X G,a20.fn X G,a21.fn X G,a22.fn X G,a23.fn X G,a24.fn X G,a25.fn X G,a26.fn X G,a27.fn X G,a28.fn X G,a29.fn X G,a30.fn X G,a31.fn X G,a32.fn X G,a33.fn X G,a34.fn X G,a35.fn X G,a36.fn X G,a37.fn X G,a38.fn X G,a39.fn X G,a40.fn X G,a41.fn X G,a42.fn X G,a43.fn X G,a44.fn X G,a45.fn X G,a46.fn X G,a47.fn X G,bl,NG X G x_MONTH_DAYS,⟨A_MONTH_DAYS,rfl,λH=>.inr ⟨_,_,_,y_MONTH_DAYS,rfl,rfl,w_MONTH_DAYS,z_MONTH_DAYS⟩⟩,NG X G x_FIRST_YEAR,r_FIRST_YEAR,NG X G x_ROUND_DAYS,r_ROUND_DAYS,NG X G x_ROUND_YEARS,r_ROUND_YEARS,NG X G x_NoPaper,NG X G x_Paper,cl_Paper.c,a8.mkk cl_Paper,na_Paper_name,na_Paper_coming,na_Paper_kind,na_Paper_makers,na_Paper_happenings,Ml X G n_abs,Ml X G n_any,Ml X G n_dict,Ml X G n_divmod,Ml X G n_int,Ml X G n_len,Ml X G n_list,Ml X G n_max,Ml X G n_min,Ml X G n_range,Ml X G n_sorted,Ml X G n_sum,Ml X G n_tuple⟩
local macro_rules | `(tactic| walk_at "o")=>`(tactic| first | exact P8 rfl | exact OI rfl)
theorem R4{p:Prop}(h:p:=by walk_at "o"):p:=h
local macro_rules | `(tactic| walk_at "a") =>rzT "ve vd vh vg vf j5 gg c7 tC jo vv rI fI rU vz vA Fe Ff Fg Fh Fi vI tB uQ uR uS uX uY vb lT vQ vP lU vR vS lI j4 lH vj vk Fw Fx Fy Fz FA FC FD FF kg lO jq L2.start Lq Mp LP MZ LC NX Mq Mw Oz OA Qz QA Pz Oh ND OS OT Om exists_eq_left' exists_eq_left exists_and_left exists_and_right V.int.injEq V.bl.injEq V.str.injEq V.ref.injEq Mr and_true true_and QB exists_const decide_eq_true_eq QC QD Qm Qn NR decide_eq_false_iff_not and_assoc bF PB Pd PD L2.cxK L2.cmK or_true true_or"
open Day
theorem BD:aY (av nv) ["year","month","day","before"] ["other","year"] 1 [0] ⟨LA,[ (Ln ".0",TQ),(Ln "other",TQ),(Ln "month_length",Me),(Ln "year",LK)],false,false,[]⟩:= .of
section
variable {P:Sk} {w:Sm} {K:Ll} {mg:Str->Option R7} {base:Sn} {t:cC}
def BE:Sp:=λvs H Q _=>∃(y:Int),vs=[.int y]/\Q (.bl (fB y)) H
theorem IS(T:Txt K mg t):aF P w K mg base CX0 1 t.a_A t.d_A ["year"] BE:=by
 refine T.F_A.F.ok Iz (λvs H Q E h=>?_) (λcdv A outer s H vs Q E hr h=>?_)
 ·obtain⟨y,rfl,_⟩:=h;rfl
 ·obtain⟨y,rfl,k⟩:=h;refine⟨_,(c9 (dG (va (lR kh (aX d3 (pv 0) aV) aV (aE _)) (oK (uZ (lR kh (aX d3 (pv 0) aV) aV (aE _)) (oK (lR Eb (aX d3 (pv 0) aV) aV (aE _)))))))),?_⟩;walk_at "a";have e:fB y=(decide (y % 400=0) || (decide (y % 4=0) && !decide (y % 100=0))):=rfl;rw [e] at k;by_cases h1:y % 400=0
  ·simpa [h1] using k
  ·by_cases h2:y % 4=0
   ·simpa [h1,h2] using k
   ·simpa [h1,h2] using k
def BF:Sp:=λvs H Q _=>∃(y m:Int),vs=[.int y,.int m]/\1<=m/\m<=12/\Q (.int (aU y m)) H
theorem tZ(T:Txt K mg t):aF P w K mg base CX0 2 t.a_B t.d_B ["year","month"] BF:=by
 have G_A:=@IS P w _ _ base _ T;refine T.F_B.F.ok IA (λvs H Q E h=>?_) (λcdv A outer s H vs Q E hr h=>?_)
 ·obtain⟨y,m,rfl,_⟩:=h;rfl
 ·obtain⟨y,m,rfl,h1,h2,k⟩:=h;obtain⟨a,ea,hM⟩:=T.e_MONTH_DAYS;have T_r:aC (.ref a) t.u_MONTH_DAYS:=ea;refine⟨_,(cu (iM (PW.pt (uV (gn kh (pv 1) aV (aE _)) (uT (uP (d8 G_A (hr.mono RZ) rfl T.F_A (bw (pv 0) bX)))))) (c9 (dG aV)) iL)
   (c9 (dG (fK ay (jm rfl T.c_MONTH_DAYS T_r) (aX dh (pv 1) aV) (λ_ _=>rfl))))),?_⟩
  walk_at "a";simp only [BE];walk_at "a";have fin:∀{v:Int},v=aU y m->Q (.int v) H:=λe=>by rw [e];exact k
  have tail:aU y m=sI.getD (m - 1).toNat 0->lX K (.ref a) (.int (m - 1)) H Q:=λe=>by
   refine⟨a,_,m - 1,.int (aU y m),rfl,rfl,hM H,?_,k⟩;rw [e];rcases nh h1 h2 with z | z | z | z | z | z | z | z | z | z | z | z <;> subst z <;> rfl
  by_cases hm:m=2
  ·rw [R3 hm];by_cases hl:fB y=true
   ·rw [R3 hl];exact fin (by unfold aU;rw [R3 ⟨hm,hl⟩])
   ·rw [R1 hl];exact tail (by unfold aU;rw [R1 (λz=>hl z.2)])
  ·rw [R1 hm];exact tail (sJ hm)
def BG:Sp:=λvs H Q _=>∃(y:Int),vs=[.int y]/\Q (.int (lb y)) H
theorem IT(T:Txt K mg t):aF P w K mg base CX0 1 t.a_C t.d_C ["year"] BG:=by
 refine T.F_C.F.ok Bl (λvs H Q E h=>?_) (λcdv A outer s H vs Q E hr h=>?_)
 ·obtain⟨y,rfl,_⟩:=h;rfl
 ·obtain⟨y,rfl,k⟩:=h;refine⟨_,(cu (cV (i:=1) Bl.nd rfl R4 (aX dh (pv 0) aV))
   (c9 (dG (aX bz (aX dh (aX gM (pv 1) aV) (aX gM (pv 1) aV)) (aX gM (pv 1) aV))))),?_⟩
  walk_at "a";exact k
def n5:Sp:=λvs H Q _=>∃(y:Int),vs=[.int y]/\Q (.int (bY y)) H
theorem t5(T:Txt K mg t):aF P w K mg base CX0 2 t.a_D t.d_D ["year"] n5:=by
 have G_C:=@IT P w _ _ base _ T;refine T.F_D.F.ok IB (λvs H Q E h=>?_) (λcdv A outer s H vs Q E hr h=>?_)
 ·obtain⟨y,rfl,_⟩:=h;rfl
 ·obtain⟨y,rfl,k⟩:=h;refine⟨_,(c9 (dG (aX dh (aX bz (aX eo aV (aX dh (pv 0) (jm rfl T.c_FIRST_YEAR T.r_FIRST_YEAR))) (d8 G_C (hr.mono RZ) rfl T.F_C (bw (pv 0) bX))) (d8 G_C (hr.mono RZ) rfl T.F_C (bw (jm rfl T.c_FIRST_YEAR T.r_FIRST_YEAR) bX))))),?_⟩;walk_at "a";simp only [BG];walk_at "a";exact k
def BH:Sp:=λvs H Q _=>∃(d:Int),vs=[.int d]/\Q (.int (jJ d)) H
theorem IU(T:Txt K mg t):aF P w K mg base CX0 3 t.a_E t.d_E ["day"] BH:=by
 have G_D:=@t5 P w _ _ base _ T;refine T.F_E.F.ok Bm (λvs H Q E h=>?_) (λcdv A outer s H vs Q E hr h=>?_)
 ·obtain⟨d,rfl,_⟩:=h;rfl
 ·obtain⟨d,rfl,k⟩:=h;refine⟨_,(cu (cV (i:=1) Bm.nd rfl R4 (aX bz (jm rfl T.c_FIRST_YEAR T.r_FIRST_YEAR) (aX gM (aX eo (pv 0) (jm rfl T.c_ROUND_YEARS T.r_ROUND_YEARS)) (jm rfl T.c_ROUND_DAYS T.r_ROUND_DAYS))))
   (cu (iM (gn vF (d8 G_D (hr.mono RZ) rfl T.F_D (bw (pv 1) bX)) (pv 0) (aE _)) (c9 (dG (aX dh (pv 1) aV))) iL)
   (cu (iM (gn lQ (d8 G_D (hr.mono RZ) rfl T.F_D (bw (aX bz (pv 1) aV) bX)) (pv 0) (aE _)) (c9 (dG (aX bz (pv 1) aV))) iL)
   (c9 (dG (pv 1)))))),?_⟩
  walk_at "a";simp only [n5];walk_at "a";unfold jJ at k;split
  ·rename_i h;rw [R3 h] at k;exact k
  ·rename_i h;rw [R1 h] at k;split
   ·rename_i h;rw [R3 h] at k;exact k
   ·rename_i h;rw [R1 h] at k;exact k
def IV:Sp:=λvs H Q _=>∃(d:Int),vs=[.int d]/\∀(p:R8)(H':Hp)(y m n:Int),iz d y m n->ao H H'->H p=none->H' p=some (.tup [.int y,.int m,.int n])->Q (.ref p) H'
theorem IW(T:Txt K mg t):aF P w K mg base CX0 4 t.a_F t.d_F ["day"] IV:=by
 have G_E:=@IU P w _ _ base _ T;have G_D:=@t5 P w _ _ base _ T;have G_B:=@tZ P w _ _ base _ T;refine T.F_F.F.ok jM (λvs H Q E h=>?_) (λcdv A outer s H vs Q E hr h=>?_)
 ·obtain⟨d,rfl,_⟩:=h;rfl
 ·obtain⟨d,rfl,k⟩:=h;refine⟨_,(cu (cV (i:=1) jM.nd rfl R4 (d8 G_E (hr.mono RZ) rfl T.F_E (bw (pv 0) bX)))
   (cu (cV (i:=2) jM.nd rfl R4 (aX dh (pv 0) (d8 G_D (hr.mono RZ) rfl T.F_D (bw (pv 1) bX))))
   (cu (cV (i:=3) jM.nd rfl R4 aV)
   (cu (vo Mj (gn vG (pv 2) (d8 G_B (hr.mono RZ) rfl T.F_B (bw (pv 1) (bw (pv 3) bX))) (aE _)) (cu (cV (i:=2) jM.nd rfl R4 (aX dh (pv 2) (d8 G_B (hr.mono RZ) rfl T.F_B (bw (pv 1) (bw (pv 3) bX)))))
   (c9 (cV (i:=3) jM.nd rfl R4 (aX bz (pv 3) aV)))))
   (c9 (dG (vT (bw (pv 1) (bw (pv 3) (bw (aX bz (pv 2) aV) bX)))))))))),?_⟩
  walk_at "a";simp only [BH];walk_at "a";simp only [n5];walk_at "a";have yo:=HK d;generalize jJ d=y at*;refine⟨λm σ H'=>H'=H/\∃mo:Int,1<=mo/\mo<=12/\aG y mo<=d - bY y/\m=(12 - mo).toNat/\σ=[some (.int d),some (.int y),some (.int (d - bY y - aG y mo)),some (.int mo)],⟨11,rfl,1,RZ,RZ,?_,rfl,?_⟩,?_⟩
  ·rw [sL];omega
  ·rw [sL];simp
  ·rintro m σ H' ⟨rfl,mo,h1,h2,hb,rfl,rfl⟩;walk_at "a";simp only [BF];walk_at "a";refine⟨h1,h2,?_⟩;have ys:=AW y;have ba:=sO (y:=y) h1 h2;split
   ·rename_i hge;have lt12:mo < 12:=by
     by_cases z:mo < 12
     ·exact z
     ·have e:mo=12:=R0
      subst e;have:=(sM y);have:=ng y;omega
    refine⟨_,λ_ _ h=>h,h1,h2,(12 - (mo+1)).toNat,R0,rfl,mo+1,R0,R0,?_,rfl,?_⟩
    ·rw [dP h1];omega
    ·rw [dP h1,show d - bY y - (aG y mo+aU y mo)=d - bY y - aG y mo - aU y mo by omega]
   ·rename_i hlt;refine⟨by show 3<=Sb;decide,λp hp=>?_⟩;refine k p _ y mo (d - bY y - aG y mo+1) ⟨h1,h2,R0,R0,by unfold fV;omega⟩ (ao.new hp) hp bb
def IX:Sp:=λvs H Q _=>∃(y m n:Int),vs=[.int y,.int m,.int n]/\1<=m/\m<=12/\∀H',ao H H'->Q (.int (fV y m n)) H'
theorem IY(T:Txt K mg t):aF P w K mg base CX0 3 t.a_G t.d_G ["year","month","day"] IX:=by
 have G_D:=@t5 P w _ _ base _ T;have G_B:=@tZ P w _ _ base _ T;refine T.F_G.F.ok Bn (λvs H Q E h=>?_) (λcdv A outer s H vs Q E hr h=>?_)
 ·obtain⟨y,m,n,rfl,_⟩:=h;rfl
 ·obtain⟨y,m,n,rfl,h1,h2,k⟩:=h;refine⟨_,(cu (cV (i:=3) Bn.nd rfl R4 (bN (wC rfl) rfl T.n_sum Qa (bw (iQ rfl BD (oV rfl T.n_range (bw aV (bw (pv 1) bX))) (λ_ _ _ _=>(aI (i:=0) BD.nd rfl R4)) (λ_ _ _ _=>wA) (λ_ _ _ _=>(d8 G_B (hr.mono RZ) rfl T.F_B (bw (pv 1) (bw (pv 0) bX))))) bX)))
   (c9 (dG (aX dh (aX bz (aX bz (d8 G_D (hr.mono RZ) rfl T.F_D (bw (pv 0) bX)) (pv 3)) (pv 2)) aV)))),?_⟩
  walk_at "a";refine⟨R0,R0,?_⟩;refine FG (λi=>.int (aU y (1+(i:Int)))) R0 (λi H' R hi s1 hR=>?_) (λD H' hD s1 e1=>?_)
  ·walk_at "a";exact⟨_,_,rfl,R0,R0,hR H' (ao.refl _)⟩
  ·refine⟨D,rfl,(Mv (m - 1).toNat).map λ(i:Nat)=>aU y (1+(i:Int)),aN.of (by rw [e1,LH];rfl),?_⟩;simp only [n5];walk_at "a";exact k H' s1
def jc(u:Str):Prop:=u="days"\/u="months"\/u="years"
def jd(d k:Int)(u:Str)(r:Int):Prop:=(u="days"/\r=d+k)\/(u="months"/\∃y m n,iz d y m n/\r=nj y m n k)\/(u="years"/\∃y m n,iz d y m n/\r=nj y m n (k*12))
theorem BI:¬(("months":Str)="days"):=cp
theorem BJ:¬(("years":Str)="days"):=cp
theorem BK:¬(("months":Str)="years"):=cp
def IZ:Sp:=λvs H Q _=>∃(d k:Int)(u:Str),vs=[.int d,.int k,.str u]/\jc u/\∀r H',jd d k u r->ao H H'->Q (.int r) H'
theorem I0(T:Txt K mg t):aF P w K mg base CX0 5 t.a_H t.d_H ["day","many","unit"] IZ:=by
 have G_F:=@IW P w _ _ base _ T;have G_B:=@tZ P w _ _ base _ T;have G_G:=@IY P w _ _ base _ T;refine T.F_H.F.ok jN (λvs H Q E h=>?_) (λcdv A outer s H vs Q E hr h=>?_)
 ·obtain⟨d,k,u,rfl,_⟩:=h;rfl
 ·obtain⟨d,mk,u,rfl,hu,k⟩:=h;refine⟨_,(cu (iM (gn kh (pv 2) oJ (aE _)) (c9 (dG (aX bz (pv 0) (pv 1)))) iL)
   (cu (cV (i:=3) jN.nd rfl R4 (vc (gn kh (pv 2) oJ (aE _)) (aX eo (pv 1) aV) (pv 1)))
   (cu (cV (i:=4) jN.nd rfl R4 (d8 G_F (hr.mono RZ) rfl T.F_F (bw (pv 0) bX)))
   (cu (cV (i:=5) jN.nd rfl R4 (aX bz (aX dh (aX bz (aX eo (fK ay (pv 4) aV (λ_ _=>rfl)) aV) (fK ay (pv 4) aV (λ_ _=>rfl))) aV) (pv 3)))
   (cu (cV (i:=6) jN.nd rfl R4 (aX gM (pv 5) aV))
   (cu (cV (i:=7) jN.nd rfl R4 (aX bz (aX d3 (pv 5) aV) aV))
   (c9 (dG (d8 G_G (hr.mono RZ) rfl T.F_G (bw (pv 6) (bw (pv 7) (bw (bN (vL rfl) rfl T.n_min Qb (bw (fK ay (pv 4) aV (λ_ _=>rfl)) (bw (d8 G_B (hr.mono RZ) rfl T.F_B (bw (pv 6) (bw (pv 7) bX))) bX))) bX)))))))))))),?_⟩
  walk_at "a";by_cases hd:u="days"
  ·rw [R3 hd];exact k _ H (.inl ⟨hd,rfl⟩) (ao.refl _)
  ·rw [R1 hd];by_cases hy:u="years"
   ·rw [R3 hy];refine⟨d,rfl,λp H' y m n D s1 _ e1=>?_⟩;refine jv (aW.of e1) rfl ⟨y,rfl,jv (aW.of e1) rfl ⟨m,rfl,jv (aW.of e1) rfl ?_⟩⟩;refine⟨_,_,rfl,R0,R0,n,rfl,_,rfl,_,_,_,rfl,R0,R0,λH2 s2=>?_⟩;exact k _ H2 (.inr (.inr ⟨hy,y,m,n,D,by unfold nj;rw [wF]⟩)) (s1.trans s2)
   ·rw [R1 hy];have hm:u="months":=by rcases hu with z | z | z;exact absurd z hd;exact z;exact absurd z hy
    refine⟨d,rfl,λp H' y m n D s1 _ e1=>?_⟩;refine jv (aW.of e1) rfl ⟨y,rfl,jv (aW.of e1) rfl ⟨m,rfl,jv (aW.of e1) rfl ?_⟩⟩;refine⟨_,_,rfl,R0,R0,n,rfl,_,rfl,_,_,_,rfl,R0,R0,λH2 s2=>?_⟩;exact k _ H2 (.inr (.inl ⟨hm,y,m,n,D,by unfold nj;rw [wF]⟩)) (s1.trans s2)
def F_H:List R6->(R6->Prop)->Prop:=λds Q=>∃(d i:Int)(u:Str),ds=[.int d,.int i,.str u]/\jc u/\∀r,jd d i u r->Q (.int r)
theorem Ja(T:Txt K mg t):aF P w K mg base CX0 5 t.a_H t.d_H ["day","many","unit"] (bf K F_H):=
 (I0 T).imp λvs H Q E uu63=>by
  obtain⟨O,ds,Qd,tr,hs,⟨d,i,u,e,hu,q⟩,k⟩:=uu63;subst e;cases hs with
  | cons a r=>cases r with
   | cons b r=>cases r with
    | cons c r=>cases r;cases a;cases b;cases c;exact⟨d,i,u,rfl,hu,λz H' L s1=>k _ _ H' (q z L) s1 (.int _)⟩
theorem Jb{d k:Int}{u:Str}{r r':Int}(h:jd d k u r)(h':jd d k u r'):r=r':=by
 rcases h with⟨e,h⟩ | ⟨e,y,m,n,D,h⟩ | ⟨e,y,m,n,D,h⟩ <;> rcases h' with⟨e',h'⟩ | ⟨e',y',m',n',D',h'⟩ | ⟨e',y',m',n',D',h'⟩
 ·rw [h,h']
 ·exact absurd (e'.symm.trans e) BI
 ·exact absurd (e'.symm.trans e) BJ
 ·exact absurd (e.symm.trans e') BI
 ·obtain⟨rfl,rfl,rfl⟩:=D.uniq D';rw [h,h']
 ·exact absurd (e.symm.trans e') BK
 ·exact absurd (e.symm.trans e') BJ
 ·exact absurd (e'.symm.trans e) BK
 ·obtain⟨rfl,rfl,rfl⟩:=D.uniq D';rw [h,h']
end
structure Pp where
 d:Int
 nm:Str
 kd:Str
 ms:List Str
def Pp.enc(p:Pp):R6:= .tuple [.str (Lk "paper"),.int p.d,.str p.nm,.str p.kd,.tuple (p.ms.map .str)]
def Pp.key(p:Pp):Int×Str:=(p.d,p.nm)
def iA:R6->Int×Str
 | .tuple (_:: .int d:: .str n::_)=>(d,n)
 | _=>(0,Lk "")
def Pp.lt(a b:Pp):Prop:=aL a.key b.key=true
instance (a b:Pp):Decidable (a.lt b):=by unfold Pp.lt;infer_instance
theorem BL(p:Int×Str):aL p p=false:=by unfold aL;simp [Ri]
theorem BM{a b c:Int×Str}(h1:aL a b=true)(h2:aL b c=true):aL a c=true:=by
 unfold aL at h1 h2⊢;simp only [NO,Mf,decide_eq_true_eq] at h1 h2⊢;rcases h1 with h1 | ⟨h1,h1'⟩ <;> rcases h2 with h2 | ⟨h2,h2'⟩
 ·left;omega
 ·left;omega
 ·left;omega
 ·right;exact⟨h1.trans h2,Rr h1' h2'⟩
theorem n8{a b:Int×Str}(h:aL a b=true):¬aL b a=true:=λz=>by
 have:=BM h z;rw [BL] at this;cases this
theorem Jc{a b:Int×Str}(h:a≠b):aL a b=true\/aL b a=true:=by
 have T:=se (n:=2) (kp:=λi=>if i=0 then a else b) (λi j hi hj e=>by
  have:i=0\/i=1:=R0
  have:j=0\/j=1:=R0
  rcases ‹i=0\/i=1› with rfl | rfl <;> rcases ‹j=0\/j=1› with rfl | rfl
  ·rfl
  ·exact absurd e h
  ·exact absurd e.symm h
  ·rfl)
 have:=T.tot 0 1 R0 R0 R0;simp at this;cases hb:aL b a with
 | true=>exact .inr rfl
 | false=>rw [hb] at this;exact .inl (by simpa using this)
theorem Pp.lt_irr(a:Pp):¬a.lt a:=by unfold Pp.lt;rw [BL];simp
theorem Pp.lt_tr{a b c:Pp}(h1:a.lt b)(h2:b.lt c):a.lt c:=BM h1 h2
theorem iB{α:Type}{r:α->α->Prop}(as:∀a b,r a b->¬r b a):∀{l1 l2:List α},l1.Perm l2->l1.Pairwise r->l2.Pairwise r->l1=l2
 | [],l2,p,_,_=>by rw [p.nil_eq]
 | a::l1,[],p,_,_=>by have:=p.length_eq;simp at this
 | a::l1,b::l2,p,h1,h2=>by
  have e:a=b:=by
   have m1:a∈b::l2:=p.mem_iff.mp R5;have m2:b∈a::l1:=p.mem_iff.mpr R5;rcases LF.mp m1 with e | m1
   ·exact e
   ·rcases LF.mp m2 with e | m2
    ·exact e.symm
    ·exact absurd ((Mz.mp h1).1 b m2) (as _ _ ((Mz.mp h2).1 a m1))
  subst e;rw [iB as ((Rj a).mp p) (Mz.mp h1).2 (Mz.mp h2).2]
def jR(x:Pp):List Pp->List Pp
 | []=>[x]
 | y::l=>if x.lt y then x::y::l else y::jR x l
def bj(ps:List Pp):List Pp:=ps.foldr jR []
theorem t6(x:Pp):∀l,(jR x l).Perm (x::l)
 | []=>.refl _
 | y::l=>by
  unfold jR;split
  ·exact .refl _
  ·exact((t6 x l).cons y).trans (.swap x y l)
theorem fX:∀ps:List Pp,(bj ps).Perm ps
 | []=>.refl _
 | x::ps=>(t6 x (bj ps)).trans ((fX ps).cons x)
theorem BN{x:Pp}:∀{l:List Pp},(∀y∈l,y.nm≠x.nm)->l.Pairwise Pp.lt->(jR x l).Pairwise Pp.lt
 | [],_,_=>List.pairwise_singleton _ _
 | y::l,hn,h=>by
  have hp:=Mz.mp h;unfold jR;split
  ·rename_i hl;refine Mz.mpr ⟨λz hz=>?_,h⟩;rcases LF.mp hz with e | e
   ·subst e;exact hl
   ·exact Pp.lt_tr hl (hp.1 z e)
  ·rename_i hl;refine Mz.mpr ⟨λz hz=>?_,BN (λz hz=>hn z (by simp [hz])) hp.2⟩;rcases LF.mp ((t6 x l).mem_iff.mp hz) with e | e
   ·subst e;rcases Jc (a:=y.key) (b:=z.key) (λz=>hn y R5 (congrArg RI z)) with w | w
    ·exact w
    ·exact absurd w hl
   ·exact hp.1 z e
theorem je:∀{ps:List Pp},(ps.map (·.nm)).Nodup->(bj ps).Pairwise Pp.lt
 | [],_=>.nil
 | x::ps,h=>by
  rw [Lq,MO] at h;exact BN (λy hy e=>h.1 (by rw [<-e];exact Lv.mpr ⟨y,(fX ps).mem_iff.mp hy,rfl⟩)) (je h.2)
theorem fk{ps:List Pp}{x:Pp}:x∈bj ps↔x∈ps:=(fX ps).mem_iff
theorem kZ{ps:List Pp}:(bj ps).length=ps.length:=(fX ps).length_eq
theorem Pp.asym(a b:Pp)(h:a.lt b):¬b.lt a:=n8 h
theorem BO{ps os:List Pp}(nd:(ps.map (·.nm)).Nodup)(hp:os.Perm ps)(hs:os.Pairwise Pp.lt):os=bj ps:=
 iB Pp.asym (hp.trans (fX ps).symm) hs (je nd)
theorem Jd{ps qs:List Pp}(nd:(ps.map (·.nm)).Nodup)(h:qs.Perm ps):bj qs=bj ps:=
 BO nd ((fX qs).trans h) (je ((h.map _).nodup_iff.mpr nd))
theorem n9{ps:List Pp}{f:Pp->Bool}(nd:(ps.map (·.nm)).Nodup):((ps.filter f).map (·.nm)).Nodup:=nd.sublist (MK.map _)
theorem oe{ps:List Pp}{f:Pp->Bool}(nd:(ps.map (·.nm)).Nodup):bj (ps.filter f)=(bj ps).filter f:=
 (BO (n9 nd) ((fX ps).filter f) ((je nd).sublist MK)).symm
theorem Je{ps:List Pp}{ds:List R6}(nd:(ps.map (·.nm)).Nodup)(hp:ds.Perm (ps.map Pp.enc))(hs:ds.Pairwise λa b=>aL (iA a) (iA b)=true):ds=(bj ps).map Pp.enc:=by
 refine iB (λa b h=>n8 h) (hp.trans ((fX ps).symm.map _)) hs ?_;rw [LO];exact je nd
theorem Jf{ps:List Pp}{ds:List (Int×Str)}(nd:(ps.map (·.nm)).Nodup)(hp:ds.Perm (ps.map Pp.key))(hs:ds.Pairwise λa b=>aL a b=true):ds=(bj ps).map Pp.key:=by
 refine iB (λa b h=>n8 h) (hp.trans ((fX ps).symm.map _)) hs ?_;rw [LO];exact je nd
theorem k6{ps:List Pp}(nd:(ps.map (·.nm)).Nodup){a b:Pp}(ha:a∈ps)(hb:b∈ps)(e:a.nm=b.nm):a=b:=by
 induction ps with
 | nil=>cases ha
 | cons x ps ih=>
  rw [Lq,MO] at nd;rcases LF.mp ha with ea | ha1 <;> rcases LF.mp hb with eb | hb1
  ·rw [ea,eb]
  ·subst ea;exact absurd (Lv.mpr ⟨b,hb1,e.symm⟩) nd.1
  ·subst eb;exact absurd (Lv.mpr ⟨a,ha1,e⟩) nd.1
  ·exact ih nd.2 ha1 hb1
theorem Jg{os:List Pp}(h:os.Pairwise Pp.lt){i:Nat}{o m:Pp}(ho:os[i]?=some o)(hm:m∈os)(hl:m.lt o):m∈os.take i:=by
 rw [<-P9 i os] at hm h;rcases LI.mp hm with z | z
 ·exact z
 ·have hd:os.drop i=o::os.drop (i+1):=by
   obtain⟨h1,h2⟩:=Lz.mp ho;rw [N3 h1,h2]
  rw [hd] at z h;rcases LF.mp z with e | z
  ·rw [e] at hl;exact absurd hl (Pp.lt_irr o)
  ·have:=(Mz.mp (Qk.mp h).2.1).1 m z;exact absurd hl (Pp.asym _ _ this)
structure hJ (ps:List Pp):Prop where
 ln:ps.length<=41
 nd:(ps.map (·.nm)).Nodup
 nm:∀p∈ps,LB p.nm=true
 kd:∀p∈ps,LB p.kd=true
 ms:∀p∈ps,(∀m∈p.ms,LB m=true)/\p.ms.length<=50
theorem hJ.filter{ps:List Pp}(g:hJ ps)(f:Pp->Bool):hJ (ps.filter f):=
 ⟨LY (Mo _ _) g.ln,n9 g.nd,λp hp=>g.nm p (LM.mp hp).1,λp hp=>g.kd p (LM.mp hp).1,λp hp=>g.ms p (LM.mp hp).1⟩
def k7(c p:Pp):Bool:=c.ms.contains p.nm && aL p.key c.key
def cD(ps:List Pp)(c:Pp):List Pp:=(bj ps).filter (k7 c)
def jf(ps:List Pp)(a b:Pp):Prop:=a∈ps/\b∈ps/\a.nm∈b.ms/\a.lt b
theorem k8{ps:List Pp}{c p:Pp}(hc:c∈ps):p∈cD ps c↔jf ps p c:=by
 unfold cD k7;rw [LM,fk];simp only [Mf,Nr];exact⟨λuu64=>by obtain⟨a,b,d⟩:=uu64;exact⟨a,hc,b,d⟩,λuu65=>by obtain⟨a,_,b,d⟩:=uu65;exact⟨a,b,d⟩⟩
inductive De where
 | pap (p:Pp)
 | oth (w:Str) (d:Int) (nm:Str) (r:List R6)
def De.enc:De->R6
 | .pap p=>p.enc
 | .oth w d nm r=>.tuple (.str w:: .int d:: .str nm::r)
def De.w:De->Str
 | .pap _=>Lk "paper"
 | .oth w _ _ _=>w
def De.d:De->Int
 | .pap p=>p.d
 | .oth _ d _ _=>d
def De.nm:De->Str
 | .pap p=>p.nm
 | .oth _ _ nm _=>nm
def De.pp:De->Option Pp
 | .pap p=>some p
 | _=>none
def ai(xs:List De):List Pp:=xs.filterMap De.pp
structure fD (xs:List De):Prop where
 gp:hJ (ai xs)
 np:∀w d nm r,De.oth w d nm r∈xs->w≠Lk "paper"
 ln:xs.length<=41
 w:∀x∈xs,LB x.w=true
 nm:∀x∈xs,LB x.nm=true
theorem t8{xs:List De}{p:Pp}:p∈ai xs↔De.pap p∈xs:=by
 unfold ai;rw [NJ];constructor
 ·rintro⟨x,hx,e⟩;cases x with
  | pap q=>cases e;exact hx
  | oth w d nm r=>cases e
 ·intro h;exact⟨_,h,rfl⟩
theorem BP(ps:List Pp):ai (ps.map De.pap)=ps:=by
 unfold ai;rw [Qx];exact List.filterMap_some
theorem Jh(ps:List Pp):ps.map Pp.enc=(ps.map De.pap).map De.enc:=by rw [LH];rfl
theorem Ji:LB (Lk "paper")=true:=cp
theorem fD.of{ps:List Pp}(g:hJ ps):fD (ps.map De.pap):=by
 refine⟨by rw [BP];exact g,λw d nm r h=>?_,by rw [Lm];exact g.ln,λx hx=>?_,λx hx=>?_⟩
 ·obtain⟨p,_,e⟩:=Lv.mp h;cases e
 ·obtain⟨p,_,rfl⟩:=Lv.mp hx;exact Ji
 ·obtain⟨p,hp,rfl⟩:=Lv.mp hx;exact g.nm p hp
local macro_rules | `(tactic| walk_at "d") =>do let a <- rzT "gC Lq Mp LP MZ Oz OA LC NX Mq"; let b <- rzT rzS; `(tactic| ((try $a:tactic); $b:tactic))
theorem BQ:aY (av nA) ["deeds"] ["deed"] 1 [] ⟨LA,[(Ln ".0",TQ),(Ln "deed",TQ)],false,false,[]⟩:= .of
theorem BR:aY (av nB) ["deeds"] ["deed"] 1 [] ⟨LA,[(Ln ".0",TQ),(Ln "deed",TQ)],false,false,[]⟩:= .of
theorem BS:aY (av kU) ["deeds","coming","named"] ["deed","coming"] 1 [1] ⟨LA,[ (Ln ".0",TQ),(Ln "deed",TQ),(Ln "coming",LK)],false,false,[]⟩:= .of
theorem BU:aY (av kU) ["deeds","coming","named"] ["deed","coming"] 1 [1] ⟨LA,[ (Ln ".0",TQ),(Ln "deed",TQ),(Ln "place_of",Me),(Ln "coming",LK)],false,false,[]⟩:= .of
theorem BV:aY (av nE) ["deeds","paper"] ["deed"] 1 [] ⟨LA,[(Ln ".0",TQ),(Ln "deed",TQ)],false,false,[]⟩:= .of
section
variable {P:Sk} {w:Sm} {K:Ll} {mg:Str->Option R7} {base:Sn} {t:cC}
theorem cI{α:Type}{enc:α->R6}{g:DG}{tc:DB}{te:DT}{δ0:Dl}{xs:List α}{Q:List R6->Prop}(p:α->Bool)(f:α->R6)
 (h:∀x∈xs,∀(R:R6->Prop) (S:Prop),(if p x=true then R (f x) else S)->g (enc x) δ0 λδ2=>tc δ2 λok=>if ok=true then te δ2 R else S)(q:Q ((xs.filter p).map f)):fc g tc te δ0 (xs.map enc) Q:=by
 refine⟨λi acc=>acc=((xs.take i).filter p).map f,rfl,?_,?_⟩
 ·rintro i z acc hz rfl;rw [LD] at hz;cases hz':xs[i]? with
  | none=>rw [hz'] at hz;cases hz
  | some x=>
   rw [hz'] at hz;cases hz;refine h x (LQ hz') (λy=>((xs.take i).filter p).map f++[y]=((xs.take (i+1)).filter p).map f) (((xs.take i).filter p).map f=((xs.take (i+1)).filter p).map f) ?_;rw [Mx,hz'];by_cases e:p x=true
   ·rw [R3 e];simp [e]
   ·rw [R1 e];simp [e]
 ·rintro acc rfl;rw [Lm,L3 (Lr _)];exact q
theorem BW{α:Type}{enc:α->R6}{g:DG}{tc:DB}{te:DT}{δ0:Dl}{xs:List α}{Q:List R6->Prop}(p:α->Bool)(f:α->R6)
 (h:∀x∈xs,∀(R:R6->Prop) (S:Prop),(p x=true->R (f x))->(p x=false->S)->g (enc x) δ0 λδ2=>tc δ2 λok=>if ok=true then te δ2 R else S)(q:Q ((xs.filter p).map f)):fc g tc te δ0 (xs.map enc) Q:=
 cI p f (λx hx R S z=>h x hx R S (λe=>by rw [R3 e] at z;exact z) (λe=>by rw [R1 (by rw [e];exact Lx)] at z;exact z)) q
theorem gG{α:Type}(l:List α):l.filter (λ_=>true)=l:=List.filter_eq_self.mpr λ_ _=>rfl
theorem cU{a b:Str}(h:a≠b):(a==b)=false:=by simpa using h
theorem t9{ws:List Str}{w:Str}:((ws.map Lp).any λd=>LL d (.str w))=ws.contains w:=by
 induction ws with
 | nil=>rfl
 | cons a ws ih=>
  rw [Lq,M7,ih,iZ,List.contains_cons];congr 1;by_cases h:a=w
  ·simp [h]
  ·rw [cU h,cU (Ne.symm h)]
theorem ua{ms:List Str}(h:∀m∈ms,LB m=true):MD (ms.map .str)=true:=(jE (n:=1) (jG h)).1
def eg(f:Pp->Bool):De->Bool
 | .pap p=>f p
 | _=>false
theorem k9{f:Pp->Bool}:∀xs:List De,(xs.filter (eg f)).map De.enc=((ai xs).filter f).map Pp.enc
 | []=>rfl
 | .pap p::xs=>by
  have ih:=k9 (f:=f) xs;show _=(Ow f (p::ai xs)).map Pp.enc;rw [Ms,Ms];by_cases h:f p=true
  ·rw [R3 h,R3 (show eg f (.pap p)=true from h),Lq,Lq,ih];rfl
  ·rw [R1 h,R1 (show ¬eg f (.pap p)=true from h),ih]
 | .oth w d nm r::xs=>by
  have ih:=k9 (f:=f) xs;show _=(Ow f (ai xs)).map Pp.enc;rw [Ms,R1 (show ¬eg f (.oth w d nm r)=true from Lx),ih]
def uc:List R6->(R6->Prop)->Prop:=λds Q=>∃p:De,ds=[p.enc]/\Q (bP (p.d,p.nm))
theorem BX(T:Txt K mg t):aF P w K mg base CX0 1 t.a_J t.d_J ["deed"] (bf K uc):=by
 refine T.F_J.F.okD IC (λds Q h=>?_) (λ_ _ _ _ H O ds Q E hr h=>?_)
 ·obtain⟨p,rfl,_⟩:=h;rfl
 ·obtain⟨p,rfl,q⟩:=h;refine'⟨_,?A,?B⟩
  case A=>
   refine' az ?C
   case' C=>refine' aH ?D
   case' D=>refine' bp ?E
   case' E=>refine' aa ?F ?G
   case F=>exact(au ay aB (dv 0) af)
   case' G=>refine' aa ?H ag
   case H=>exact(au ay aB (dv 0) af)
  case B=>
  clear hr T;cases p <;> simp only [De.enc,Pp.enc] <;> walk_at "d" <;> exact q
theorem Jj{d:R6}{ps:List Pp}(h:d∈ps.map Pp.enc)(R:R6->Prop)(q:R (bP (iA d))):uc [d] R:=by
 obtain⟨p,hp,rfl⟩:=Lv.mp h;exact⟨.pap p,rfl,q⟩
theorem BY{ps:List Pp}(nd:(ps.map (·.nm)).Nodup):(ps.map Pp.key).Nodup:=by
 rw [ML,LO] at nd⊢;exact nd.imp λh e=>h (congrArg RI e)
def F_K:List R6->(R6->Prop)->Prop:=λds Q=>∃xs:List De,(ds=[.list (xs.map De.enc)]\/ds=[.tuple (xs.map De.enc)])/\fD xs/\Q (.list ((bj (ai xs)).map Pp.enc))
theorem BZ(T:Txt K mg t):aF P w K mg base CX0 4 t.a_K t.d_K ["deeds"] (bf K F_K):=by
 have G_J:=@BX P w _ _ base _ T;refine T.F_K.F.okD ID (λds Q h=>?_) (λ_ _ _ _ H O ds Q E hr h=>?_)
 ·obtain⟨ps,h | h,_⟩:=h <;> subst h <;> rfl
 ·obtain⟨xs,e,gd,q⟩:=h;refine'⟨_,?A,?B⟩
  case A=>
   refine' az ?C
   case' C=>refine' aH ?D
   case D=>exact(fe (Hy iA rfl G_J (br.in1 (br.in1 (hr.mono RZ))) T.F_J.b rfl T.F_J.m rfl T.n_sorted MB (aR (fe (HE rfl BQ (df (dv 0)) aK cg RZ (λ_ _ _ _=>(aI (i:=0) BQ.nd rfl R4)) (λ_ _ _ _=>(d4 (aP (dB hr) dD (au ay aB (dv 0) af) aT (aE _)))) (λ_ _ _ _=>(dv 0)))) aO)))
  case B=>
  clear hr T G_J;have ln:=gd.ln;have pl:=gd.gp.ln;have step:∀x∈xs,∀(R:R6->Prop)(S:Prop),(if eg (λ_=>true) x=true then R x.enc else S)->(if (x.w==Lk "paper")=true then R x.enc else S):=λx hx R S h=>by
   cases x with
   | pap p=>exact h
   | oth w d nm r=>
    rw [show((De.oth w d nm r).w==Lk "paper")=false from cU (gd.np w d nm r hx),R1 Lx];rw [R1 (show ¬eg (λ_=>true) (.oth w d nm r)=true from Lx)] at h;exact h
  have fin:∀ds':List R6,ds'.Perm ((ai xs).map Pp.enc)->ds'.Pairwise (λa b=>aL (iA a) (iA b)=true)->Q (.list ds'):=λds' h1 h2=>by
   rw [Je gd.gp.nd h1 h2];exact q
  have tail:(∀d∈(ai xs).map Pp.enc,∀R:R6->Prop,R (bP (iA d))->uc [d] R)/\((ai xs).map Pp.enc).length < 64/\(((ai xs).map Pp.enc).map iA).Nodup:=by
   refine⟨λd hd R z=>Jj hd R z,by rw [Lm];omega,?_⟩;rw [LH];exact BY gd.gp.nd
  rcases e with e | e <;> subst e <;> walk_at "d"
  ·refine⟨by rw [Lm];omega,cI (eg λ_=>true) De.enc (λx hx R S h=>?_) ?_⟩
   ·have h:=step x hx R S h;cases x <;> simp only [De.enc,De.w,Pp.enc] at h⊢<;> walk_at "d" <;> exact h
   ·rw [k9,gG];exact⟨tail.1,tail.2.1,tail.2.2,fin⟩
  ·refine⟨by rw [Lm];omega,cI (eg λ_=>true) De.enc (λx hx R S h=>?_) ?_⟩
   ·have h:=step x hx R S h;cases x <;> simp only [De.enc,De.w,Pp.enc] at h⊢<;> walk_at "d" <;> exact h
   ·rw [k9,gG];exact⟨tail.1,tail.2.1,tail.2.2,fin⟩
def Jk:List R6->(R6->Prop)->Prop:=λds Q=>∃(xs:List De)(c:Pp),ds=[.tuple (xs.map De.enc),.str c.nm]/\fD xs/\c∈ai xs/\Q c.enc
theorem la(T:Txt K mg t):aF P w K mg base CX0 1 t.a_L t.d_L ["deeds","paper"] (bf K Jk):=by
 refine T.F_L.F.okD Bp (λds Q h=>?_) (λ_ _ _ _ H O ds Q E hr h=>?_)
 ·obtain⟨ps,c,rfl,_⟩:=h;rfl
 ·obtain⟨xs,c,rfl,gd,hc,q⟩:=h;refine'⟨_,?A,?B⟩
  case A=>
   refine' ar ?C ?D
   case C=>
    refine' ij Mj rfl (dv 0) ?E aK ?F
    case E=>exact(aI (i:=2) Bp.nd rfl R4)
    case' F=>refine' az ?G
    case' G=>refine' bH ?H ?I bG
    case H=>exact(PW.pt (gS (aP (dB hr) dD (au ay aB (dv 2) af) aT (aE _)) (ic (aP (cx hr.units) cy (au ay aB (dv 2) af) (dv 1) (aE _)))))
    case' I=>refine' az ?J
    case J=>exact(aH (dv 2))
   case D=>refine' az Ha
  case B=>
  clear hr T;walk_at "d";refine⟨λi δ=>(∀x∈ai (xs.take i),x.nm≠c.nm)/\∃o2,δ=[some (Sl.v (.tuple (xs.map De.enc))),some (Sl.v (.str c.nm)),o2],⟨by simp [ai],_,rfl⟩,?_,?_⟩
  ·rintro i z δ hz ⟨hn,o2,rfl⟩;rw [LD] at hz;cases hz':xs[i]? with
   | none=>rw [hz'] at hz;cases hz
   | some x=>
    rw [hz'] at hz;cases hz;have hx:=LQ hz';cases x with
    | pap p=>
     simp only [De.enc,Pp.enc];walk_at "d";refine⟨cR.mpr (gd.nm _ hx),cR.mpr (gd.gp.nm c hc),?_⟩;split
     ·rename_i h;have e:=k6 gd.gp.nd (t8.mpr hx) hc (eq_of_beq h);subst e;exact q
     ·rename_i h;refine⟨λy hy=>?_,_,rfl⟩;rw [Mx,hz'] at hy;unfold ai at hy;rw [OH] at hy;rcases LI.mp hy with z | z
      ·exact hn y z
      ·have:y=p:=by simpa [De.pp] using z
       rw [this];exact λe=>h (by rw [e];exact beq_self_eq_true _)
    | oth w d nm r=>
     simp only [De.enc];walk_at "d";rw [cU (gd.np w d nm r hx),R1 Lx];refine⟨λy hy=>?_,_,rfl⟩;rw [Mx,hz'] at hy;unfold ai at hy;rw [OH] at hy;rcases LI.mp hy with z | z
     ·exact hn y z
     ·simp [De.pp] at z
  ·rintro δ ⟨hn,o2,rfl⟩;rw [Lm,L3 (Lr _)] at hn;exact absurd rfl (hn c hc)
def F_M:List R6->(R6->Prop)->Prop:=λds Q=>∃xs:List De,ds=[.tuple (xs.map De.enc)]/\fD xs/\Q (.tuple (((bj (ai xs)).map (·.nm)).map .str))
theorem oh(T:Txt K mg t):aF P w K mg base CX0 5 t.a_M t.d_M ["deeds"] (bf K F_M):=by
 have G_K:=@BZ P w _ _ base _ T;refine T.F_M.F.okD IE (λds Q h=>?_) (λ_ _ _ _ H O ds Q E hr h=>?_)
 ·obtain⟨ps,rfl,_⟩:=h;rfl
 ·obtain⟨xs,rfl,gd,q⟩:=h;refine'⟨_,?A,?B⟩
  case A=>
   refine' az ?C
   case' C=>refine' aH ?D
   case D=>exact(PE.imp (cB dH rfl T.n_tuple dJ (aR (fe (eJ rfl BR (df (aq G_K hr T.F_K (aa (dv 0) ag))) aK cg RZ (λ_ _ _ _=>(aI (i:=0) BR.nd rfl R4)) (λ_ _ _ _=>d6) (λ_ _ _ _=>(au ay aB (dv 0) af)))) aO)) (bt dN))
  case B=>
  clear hr T G_K;walk_at "d";refine⟨xs,.inr rfl,gd,_,rfl,by rw [Lm,kZ];have:=gd.gp.ln;omega,cI (λ_=>true) (λp:Pp=>.str p.nm) (λx hx R S h=>?_) ?_⟩
  ·simp only [Pp.enc];walk_at "d";rw [R3 rfl] at h;exact h
  ·rw [gG];rw [LH] at q;exact q
def Jl:List R6->(R6->Prop)->Prop:=λds Q=>∃(xs:List De)(c:Pp),ds=[.tuple (xs.map De.enc),c.enc]/\fD xs/\c∈ai xs/\Q (.list ((cD (ai xs) c).map Pp.enc))
theorem B0(T:Txt K mg t):aF P w K mg base CX0 5 t.a_O t.d_O ["deeds","coming"] (bf K Jl):=by
 have G_K:=@BZ P w _ _ base _ T;have G_J:=@BX P w _ _ base _ T;refine T.F_O.F.okD Bq (λds Q h=>?_) (λ_ _ _ _ H O ds Q E hr h=>?_)
 ·obtain⟨ps,c,rfl,_⟩:=h;rfl
 ·obtain⟨xs,c,rfl,gd,hc,q⟩:=h;refine'⟨_,?A,?B⟩
  case A=>
   refine' ar ?C ?D
   case C=>exact(kJ (i:=2) Bq.nd rfl R4 (AA rfl BS (df (dv 0)) aK cg RZ (λ_ _ _ _=>(aI (i:=0) BS.nd rfl R4)) (λ_ _ _ _=>(d4 (PW.pt (gS (aP (dB hr) dD (au ay aB (dv 0) af) aT (aE _)) (ic (aP (mP hr) i8 (au ay aB (dv 0) af) (au ay aB (dv 1) af) rfl)))))) (λ_ _ _ _=>(dv 0))))
   case' D=>refine' az ?E
   case' E=>refine' aH ?F
   case F=>exact(aq G_K hr T.F_K (aa (fe (eJ rfl BU (df (dv 2)) aK cg RZ (λ_ _ _ _=>(aI (i:=0) BU.nd rfl R4)) (λ_ _ _ _=>(d4 (aP (HA hr.units0) HB (aq G_J hr T.F_J (aa (dv 0) ag)) (aq G_J hr T.F_J (aa (dv 1) ag)) (aE _)))) (λ_ _ _ _=>(dv 0)))) ag))
  case B=>
  clear hr T G_K G_J;have ln:=gd.ln;have pl:=gd.gp.ln;obtain⟨hm1,hm2⟩:=gd.gp.ms c hc;walk_at "d";refine⟨by rw [Lm];omega,cI (eg λp=>c.ms.contains p.nm) De.enc (λx hx R S h=>?_) ?_⟩
  ·cases x with
   | pap p=>
    simp only [De.enc,Pp.enc];walk_at "d";refine⟨cR.mpr (gd.nm _ hx),ua hm1,?_⟩;rw [t9];exact h
   | oth w d nm r=>
    simp only [De.enc];walk_at "d";rw [cU (gd.np w d nm r hx),R1 Lx];rw [R1 (show ¬eg _ (.oth w d nm r)=true from Lx)] at h;exact h
  ·rw [k9];have fl:=Mo (λp:Pp=>c.ms.contains p.nm) (ai xs);refine⟨by rw [Lm];omega,cI (λp=>aL p.key c.key) Pp.enc (λx hx R S h=>?_) ?_⟩
   ·walk_at "d";exact⟨.pap x,rfl,.pap c,rfl,x.key,rfl,c.key,rfl,h⟩
   ·rw [Jh];refine⟨_,.inl rfl,fD.of ((gd.gp.filter _).filter _),?_⟩;rw [BP,oe (n9 gd.gp.nd),oe gd.gp.nd,List.filter_filter];have e:(bj (ai xs)).filter (λa=>aL a.key c.key && c.ms.contains a.nm)=cD (ai xs) c:=by
     unfold cD k7;congr 1;funext a;rw [Bool.and_comm]
    rw [e];exact q
theorem oi{ps:List Pp}{c:Pp}(g:hJ ps):(cD ps c).length<=41:=by
 unfold cD;have h1:=Mo (k7 c) (bj ps);have h2:=kZ (ps:=ps);have h3:=g.ln;omega
def F_P:List R6->(R6->Prop)->Prop:=λds Q=>∃(xs:List De)(c:Pp),ds=[.tuple (xs.map De.enc),.str c.nm]/\fD xs/\c∈ai xs/\Q (.tuple (((cD (ai xs) c).map (·.nm)).map .str))
theorem ue(T:Txt K mg t):aF P w K mg base CX0 6 t.a_P t.d_P ["deeds","paper"] (bf K F_P):=by
 have G_O:=@B0 P w _ _ base _ T;have G_L:=@la P w _ _ base _ T;refine T.F_P.F.okD IG (λds Q h=>?_) (λ_ _ _ _ H O ds Q E hr h=>?_)
 ·obtain⟨ps,c,rfl,_⟩:=h;rfl
 ·obtain⟨xs,c,rfl,gd,hc,q⟩:=h;refine'⟨_,?A,?B⟩
  case A=>
   refine' az ?C
   case' C=>refine' aH ?D
   case D=>exact(PE.imp (cB dH rfl T.n_tuple dJ (aR (fe (eJ rfl BV (df (aq G_O hr T.F_O (aa (dv 0) (aa (aq G_L hr T.F_L (aa (dv 0) (aa (dv 1) ag))) ag)))) aK cg RZ (λ_ _ _ _=>(aI (i:=0) BV.nd rfl R4)) (λ_ _ _ _=>d6) (λ_ _ _ _=>(au ay aB (dv 0) af)))) aO)) (bt dN))
  case B=>
  clear hr T G_O G_L;walk_at "d";refine⟨xs,c,rfl,gd,hc,xs,c,rfl,gd,hc,⟨_,rfl,by rw [Lm];have:=oi (c:=c) gd.gp;omega,cI (λ_=>true) (λp:Pp=>.str p.nm) (λx hx R S h=>?_) ?_⟩⟩
  ·simp only [Pp.enc];walk_at "d";rw [R3 rfl] at h;exact h
  ·rw [gG];rw [LH] at q;exact q
def Jm:List R6->(R6->Prop)->Prop:=λds Q=>∃(xs:List De)(c:Pp),ds=[.tuple (xs.map De.enc),.str c.nm]/\fD xs/\c∈ai xs/\Q (.str c.kd)
theorem B1(T:Txt K mg t):aF P w K mg base CX0 2 t.a_N t.d_N ["deeds","paper"] (bf K Jm):=by
 have G_L:=@la P w _ _ base _ T;refine T.F_N.F.okD IF (λds Q h=>?_) (λ_ _ _ _ H O ds Q E hr h=>?_)
 ·obtain⟨ps,c,rfl,_⟩:=h;rfl
 ·obtain⟨xs,c,rfl,gd,hc,q⟩:=h;refine'⟨_,?A,?B⟩
  case A=>
   refine' az ?C
   case C=>exact(aH (au ay aB (aq G_L hr T.F_L (aa (dv 0) (aa (dv 1) ag))) af))
  case B=>
  clear hr T G_L;walk_at "d";exact⟨xs,c,rfl,gd,hc,_,rfl,_,ik,q⟩
end
local macro_rules | `(tactic| walk_at "e") =>rzT (rzS++" Sl.i.injEq exists_and_left")
theorem B2:aY (av ny) ["self","deeds","name","coming"] ["deed","name"] 1 [2] ⟨LA,[ (Ln ".0",TQ),(Ln "deed",TQ),(Ln "name",LK)],false,false,[]⟩:= .of
theorem uf:aY (av nL) ["paper","happening"] ["day","other","happening"] 2 [1] ⟨LA,[ (Ln ".0",TQ),(Ln "day",TQ),(Ln "other",TQ),(Ln "happening",LK)],false,false,[]⟩:= .of
section
variable {P:Sk} {w:Sm} {K:Ll} {mg:Str->Option R7} {base:Sn} {t:cC}
inductive cJ where
 | com
 | fst (wd:Str)
 | lst (wd:Str)
def cJ.enc:cJ->R6
 | .com=>.tuple [.str (Lk "coming")]
 | .fst wd=>.tuple [.str (Lk "first"),.str wd]
 | .lst wd=>.tuple [.str (Lk "last"),.str wd]
def cJ.Ok:cJ->Prop
 | .com=>True
 | .fst wd=>LB wd=true
 | .lst wd=>LB wd=true
inductive Pt where
 | two (w kd:Str)
 | five (w kd:Str) (s:cJ) (k:Int) (u:Str)
def Pt.enc:Pt->R6
 | .two w kd=>.tuple [.str w,.str kd]
 | .five w kd s k u=>.tuple [.str w,.str kd,s.enc,.int k,.str u]
def KG(w:Str):Prop:=w=Lk "keep"\/w=Lk "gone"
def Pt.Ok:Pt->Prop
 | .two w kd=>¬KG w/\LB w=true/\LB kd=true
 | .five w kd s k u=>KG w/\LB kd=true/\s.Ok/\0<=k/\k < 1000/\jc u
def De.isR:De->Bool
 | .oth w _ _ _=>w==Lk "rule"
 | _=>false
def De.isE:De->Bool
 | .oth w _ _ _=>w==Lk "rule" || w==Lk "end"
 | _=>false
structure fo (xs:List De):Prop where
 gx:fD xs
 hp:∀d nm r,De.oth (Lk "happens") d nm r∈xs->∃wd,r=[.str wd]/\LB wd=true
 ru:∀d nm r,De.oth (Lk "rule") d nm r∈xs->∃pt:Pt,r=[pt.enc]/\pt.Ok
 nd:xs.Nodup
 d0:∀x∈xs,0<=x.d/\x.d < 100000
 re:∀x∈xs,∀y∈xs,x.isE=true->y.isE=true->x.d=y.d->x.nm=y.nm->x=y
def hU(nm:Str):De->Bool
 | .oth w _ n _=>w==Lk "happens" && n==nm
 | _=>false
def ug:De->Int×Str
 | .oth _ d _ [.str wd]=>(d,wd)
 | x=>(x.d,Lk "")
def dW(xs:List De)(nm:Str):List (Int×Str):=(xs.filter (hU nm)).map ug
theorem Jn{xs:List De}(g:fo xs)(nm:Str):(dW xs nm).Nodup:=by
 unfold dW;rw [ML,LO];refine RA.imp_of_mem (λ{a b} ha hb h e=>?_) (g.nd.sublist MK);obtain⟨a1,a2⟩:=LM.mp ha;obtain⟨b1,b2⟩:=LM.mp hb;cases a with
 | pap p=>cases a2
 | oth w d n r=>
  cases b with
  | pap p=>cases b2
  | oth w' d' n' r'=>
   simp only [hU,Mf,beq_iff_eq] at a2 b2;obtain⟨rfl,rfl⟩:=a2;obtain⟨rfl,rfl⟩:=b2;obtain⟨wd,rfl,_⟩:=g.hp _ _ _ a1;obtain⟨wd',rfl,_⟩:=g.hp _ _ _ b1;simp only [ug,Rt] at e;exact h (by rw [e.1,e.2])
structure Rp where
 c:Pp
 ts:List Str
 hs:List (Int×Str)
def Rp.enc(C:R8)(r:Rp):R6:=AR C [(Lk "name",.str r.c.nm),(Lk "coming",.int r.c.d),(Lk "kind",.str r.c.kd),(Lk "makers",.tuple (r.ts.map .str)),(Lk "happenings",.list (r.hs.map bP))]
open Classical in
def fY(l:List (Int×Str)):List (Int×Str):=if h:∃s:List (Int×Str),s.Perm l/\s.Pairwise (λa b=>aL a b=true) then h.choose else []
theorem uh{s l:List (Int×Str)}(h1:s.Perm l)(h2:s.Pairwise λa b=>aL a b=true):s=fY l:=by
 unfold fY;have h:∃s:List (Int×Str),s.Perm l/\s.Pairwise (λa b=>aL a b=true):=⟨s,h1,h2⟩;rw [dif_pos h];exact iB (λa b z=>n8 z) (h1.trans h.choose_spec.1.symm) h2 h.choose_spec.2
theorem Jo{l l':List (Int×Str)}(p:l.Perm l'):fY l=fY l':=by
 by_cases h:∃s:List (Int×Str),s.Perm l/\s.Pairwise (λa b=>aL a b=true)
 ·obtain⟨s,h1,h2⟩:=h;rw [<-uh h1 h2,<-uh (h1.trans p) h2]
 ·have h':¬ ∃s:List (Int×Str),s.Perm l'/\s.Pairwise (λa b=>aL a b=true):=λ⟨s,h1,h2⟩=>h ⟨s,h1.trans p.symm,h2⟩;unfold fY;rw [dif_neg h,dif_neg h']
def iC(xs:List De)(c:Pp):Rp:=⟨c,(cD (ai xs) c).map (·.nm),fY (dW xs c.nm)⟩
theorem gH{f g:Str}{d x:R6}{r:List (Str×R6)}(h:g≠f):eO f d ((g,x)::r)=(g,x)::eO f d r:=by rw [eO,R1 h]
theorem Jp{a b:R6}:eO (Lk "coming") b (eO (Lk "name") a [])=[(Lk "name",a),(Lk "coming",b)]:=by
 rw [show eO (Lk "name") a []=[(Lk "name",a)] from rfl,gH cp];rfl
theorem Jq{a b c:R6}:eO (Lk "kind") c [(Lk "name",a),(Lk "coming",b)]=[(Lk "name",a),(Lk "coming",b),(Lk "kind",c)]:=by
 rw [gH cp,gH cp];rfl
theorem Jr{a b c d:R6}:eO (Lk "makers") d [(Lk "name",a),(Lk "coming",b),(Lk "kind",c)]=[(Lk "name",a),(Lk "coming",b),(Lk "kind",c),(Lk "makers",d)]:=by
 rw [gH cp,gH cp,gH cp];rfl
theorem Js{a b c d e:R6}:eO (Lk "happenings") e [(Lk "name",a),(Lk "coming",b),(Lk "kind",c),(Lk "makers",d)]=[(Lk "name",a),(Lk "coming",b),(Lk "kind",c),(Lk "makers",d),(Lk "happenings",e)]:=by
 rw [gH cp,gH cp,gH cp,gH cp];rfl
def Jt(C:R8):List R6->(R6->Prop)->Prop:=λds Q=>∃(xs:List De)(c:Pp),ds=[.tuple (xs.map De.enc),.str c.nm]/\fo xs/\c∈ai xs/\((∀z,z∈fY (dW xs c.nm)↔z∈dW xs c.nm)->(fY (dW xs c.nm)).Pairwise (λa b=>aL a b=true)->(fY (dW xs c.nm)).length<=41->Q ((iC xs c).enc C))
theorem Ju(T:Txt K mg t):aF P w K mg base CX0 7 t.a_I t.d_I ["self","deeds","name"] (mZ K t.u_Paper (Jt t.u_Paper)):=by
 have G_L:=@la P w _ _ base _ T;have G_P:=@ue P w _ _ base _ T;refine T.F_I.F.okI Bo (λds Q h=>?_) (λcdv A outer s H H1 O ds Q E l hr h=>?_)
 ·obtain⟨xs,c,rfl,_⟩:=h;rfl
 ·obtain⟨xs,c,rfl,gd,hc,q⟩:=h;refine'⟨_,?A,?B⟩
  case A=>
   refine' ar ?C ?D
   case C=>exact(bu (i:=3) Bo.nd rfl R4 (aq G_L hr T.F_L (aa (dv 1) (aa (dv 2) ag))))
   case' D=>refine' ar ?E ?F
   case E=>exact(kQ (C:=t.u_Paper) (i:=0) T.cl_Paper T.na_Paper_name (pv 0) (au ay aB (dv 3) af))
   case' F=>refine' ar ?G ?H
   case G=>exact(kQ (C:=t.u_Paper) (i:=0) T.cl_Paper T.na_Paper_coming (pv 0) (au ay aB (dv 3) af))
   case' H=>refine' ar ?I ?J
   case I=>exact(kQ (C:=t.u_Paper) (i:=0) T.cl_Paper T.na_Paper_kind (pv 0) (au ay aB (dv 3) af))
   case' J=>refine' ar ?K ?L
   case K=>exact(kQ (C:=t.u_Paper) (i:=0) T.cl_Paper T.na_Paper_makers (pv 0) (aq G_P hr T.F_P (aa (dv 1) (aa (dv 2) ag))))
   case' L=>refine' az ?M
   case M=>exact(kQ (C:=t.u_Paper) (i:=0) T.cl_Paper T.na_Paper_happenings (pv 0) (fe (AM rfl T.n_sorted MB (aR (fe (iY rfl B2 (df (dv 1)) aK cg RZ (λ_ _ _ _=>(aI (i:=0) B2.nd rfl R4)) (λ_ _ _ _=>(d4 (PW.pt (gS (aP (dB hr) dD (au ay aB (dv 0) af) aT (aE _)) (ic (aP (cx hr.units) cy (au ay aB (dv 0) af) (dv 1) (aE _))))))) (λ_ _ _ _=>(bp (aa (au ay aB (dv 0) af) (aa (au ay aB (dv 0) af) ag)))))) aO))))
  case B=>
  clear hr T G_L G_P;simp only [sF,gC,Lq,Mp,NX,Mq,List.tail_cons,LP,MZ,Oz,OA,LC];walk_at "e";refine⟨xs,c,rfl,gd.gx,hc,?_⟩;simp only [Pp.enc];walk_at "e";simp only [Jp,Jq,Jr,Js];have ln:=gd.gx.ln;have lt:∀n:Nat,n < 10->n < 1000:=λn h=>by omega
  refine⟨lt 1 RZ,lt 2 RZ,xs,c,rfl,gd.gx,hc,⟨lt 3 RZ,by rw [Lm];omega,BW (hU c.nm) (λx=>bP (ug x)) (λx hx R S h1 h0=>?_) ?_⟩⟩
  ·cases x with
   | pap p=>
    simp only [De.enc,Pp.enc];walk_at "d";exact h0 rfl
   | oth w d nm r=>
    simp only [De.enc];walk_at "d";by_cases e:w=Lk "happens"
    ·subst e;obtain⟨wd,rfl,_⟩:=gd.hp _ _ _ hx;rw [R3 (beq_self_eq_true _)];refine⟨cR.mpr (gd.gx.nm _ hx),cR.mpr (gd.gx.gp.nm c hc),?_⟩;split
     ·rename_i h2;exact⟨_,ik,h1 (by simp only [hU,beq_self_eq_true,Oy];exact h2)⟩
     ·rename_i h2;exact h0 (by simp only [hU,beq_self_eq_true,Oy];simpa using h2)
    ·rw [cU e,R1 Lx];exact h0 (by simp only [hU,cU e,P6])
  ·have hl:(dW xs c.nm).length<=41:=by
    unfold dW;rw [Lm];have:=Mo (hU c.nm) xs;omega
   refine⟨dW xs c.nm,by unfold dW;rw [LH];rfl,R0,Jn gd c.nm,λhs h1 h2=>⟨lt 4 RZ,?_⟩⟩;have e:=uh h1 h2;have q:=q (λz=>by rw [<-e];exact h1.mem_iff) (by rw [<-e];exact h2) (by rw [<-e,h1.length_eq];exact hl);rw [e];exact q
def B3(hs:List (Int×Str)):Prop:=hs.length<=41/\∀z∈hs,LB z.2=true
def lg(hs:List (Int×Str))(wd:Str):List Int:=(hs.filter λz=>z.2==wd).map (·.1)
def F_Y(C:R8):List R6->(R6->Prop)->Prop:=λds Q=>∃(r:Rp)(wd:Str),ds=[r.enc C,.str wd]/\B3 r.hs/\LB wd=true/\Q (.list ((lg r.hs wd).map .int))
theorem Jv{a b c d e:R6}:cY [Lk "name",Lk "coming",Lk "kind",Lk "makers",Lk "happenings"] [a,b,c,d,e] (Lk "happenings")=some e:=by
 simp only [cY];rw [R1 cp,R1 cp,R1 cp,R1 cp,R3 trivial]
theorem Jw{a b c d e:R6}:cY [Lk "name",Lk "coming",Lk "kind",Lk "makers",Lk "happenings"] [a,b,c,d,e] (Lk "coming")=some b:=by
 simp only [cY];rw [R1 cp,R3 trivial]
theorem Jx(T:Txt K mg t):aF P w K mg base CX0 1 t.a_Y t.d_Y ["paper","happening"] (bf K (F_Y t.u_Paper)):=by
 refine T.F_Y.F.okD IL (λds Q h=>?_) (λ_ _ _ _ H O ds Q E hr h=>?_)
 ·obtain⟨r,wd,rfl,_⟩:=h;rfl
 ·obtain⟨r,wd,rfl,⟨hl,hok⟩,wok,q⟩:=h;refine'⟨_,?A,?B⟩
  case A=>
   refine' az ?C
   case' C=>refine' aH ?D
   case' D=>refine' fe ?E
   case E=>exact(eJ rfl uf (df (AU (C:=t.u_Paper) T.cl_Paper T.na_Paper_happenings (dv 0))) (gX (cG aK (cG aK gW))) sA RZ (λ_ _ _ _=>(gi (n:=2) rfl (cw (aI (i:=0) uf.nd rfl R4) (cw (aI (i:=1) uf.nd rfl R4) gh)))) (λ_ _ _ _=>(d4 (aP (cx hr.units) cy (dv 1) (dv 2) (aE _)))) (λ_ _ _ _=>(dv 0)))
  case B=>
  clear hr T;walk_at "d";refine⟨[Lk "name",Lk "coming",Lk "kind",Lk "makers",Lk "happenings"],_,rfl,_,Jv,_,rfl,by rw [Lm];omega,cI (λz:Int×Str=>z.2==wd) (λz=>.int z.1) (λx hx R S h=>?_) ?_⟩
  ·simp only [bP];walk_at "d";exact⟨cR.mpr (hok x hx),cR.mpr wok,h⟩
  ·unfold lg at q;rw [LH] at q;exact q
end
theorem B4:aY (av nH) ["deeds","words","day","found","deed","known"] ["name","found"] 1 [3] ⟨LA,[ (Ln ".0",TQ),(Ln "name",TQ),(Ln "found",LK)],false,false,[]⟩:= .of
section
variable {P:Sk} {w:Sm} {K:Ll} {mg:Str->Option R7} {base:Sn} {t:cC}
def F_S:List R6->(R6->Prop)->Prop:=λds Q=>∃(xs:List Rw)(ws:List Str)(n:Int),ds=[.tuple (xs.map Rw.enc),.tuple (ws.map .str),.int n]/\(∀x∈xs,LB x.w=true)/\MD (ws.map .str)=true/\xs.length < 64/\∀res,fj ws n xs res->Q (.list (res.map Rw.enc))
theorem Jy{ws:List Str}{w:Str}:((ws.map Lp).any λd=>LL d (.str w))=decide (w∈ws):=by
 induction ws with
 | nil=>simp
 | cons a ws ih=>
  rw [Lq,M7,ih,iZ];by_cases h:a=w
  ·simp [h]
  ·have h':(a==w)=false:=by simpa using h
   rw [h'];simp [Ne.symm h]
theorem B5(T:Txt K mg t):aF P w K mg base CX0 1 t.a_S t.d_S ["deeds","words","day"] (bf K F_S):=by
 refine T.F_S.F.okD nV (λds Q h=>?_) (λ_ _ _ _ H O ds Q E hr h=>?_)
 ·obtain⟨xs,ws,n,rfl,_⟩:=h;rfl
 ·obtain⟨xs,ws,n,rfl,hw,hws,h64,q⟩:=h;refine'⟨_,?A,?B⟩
  case A=>
   refine' ar ?C ?D
   case C=>exact(rK (i:=3) nV.nd rfl R4 Hb)
   case' D=>refine' ar ?E ?F
   case E=>
    refine' ij Mj rfl (dv 0) ?G aK ?H
    case G=>exact(aI (i:=4) nV.nd rfl R4)
    case' H=>refine' az ?I
    case' I=>refine' bH ?J ?K bG
    case J=>exact(PW.pt (gS (aP (mP hr) i8 (au ay aB (dv 4) af) (dv 1) rfl) (ic (aP lQ jA (au ay aB (dv 4) af) (dv 2) (aE _)))))
    case' K=>refine' ar ?L ?M
    case L=>exact(bu (i:=5) nV.nd rfl R4 (Ah (i:=3) hr.units (pv 3) (au ay aB (dv 4) af) ⟨rfl,rfl,rfl,rfl⟩))
    case' M=>refine' az ?N
    case' N=>refine' bH ?O ?P bG
    case O=>exact(PW.pt (mm (aP vH Ap (dv 5) mf (aE _)) (mj (aP lP jA (au ay aB (dv 5) af) (au ay aB (dv 4) af) (aE _)))))
    case' P=>refine' az ?Q
    case Q=>exact(Af (i:=3) hr.units (pv 3) (au ay aB (dv 4) af) (dv 4))
   case' F=>refine' az ?R
   case' R=>refine' aH ?S
   case' S=>refine' fe ?T
   case T=>exact(eJ rfl B4 (df (fe (Hg (i:=3) rfl rfl T.n_sorted MB (pv 3)))) aK cg RZ (λ_ _ _ _=>(aI (i:=0) B4.nd rfl R4)) (λ_ _ _ _=>d6) (λ_ _ _ _=>(Ag (i:=1) hr.units (pv 1) (dv 0) (λ_ _=>rfl))))
  case B=>
  clear hr T;walk_at "d";refine⟨λi δ=>∃L o4 o5,cX ws n (xs.take i) L/\δ=[some (Sl.v (.tuple (xs.map Rw.enc))),some (Sl.v (.tuple (ws.map .str))),some (Sl.v (.int n)),some (Sl.k (fz L)),o4,o5],⟨[],_,_,cX.nil _ _,rfl⟩,?_,?_⟩
  ·rintro i x δ hx ⟨L,o4,o5,hL,rfl⟩;rw [LD] at hx;cases hx':xs[i]? with
   | none=>rw [hx'] at hx;cases hx
   | some y=>
    rw [hx'] at hx;cases hx;have hy:y∈xs:=LQ hx';have tk:xs.take (i+1)=xs.take i++[y]:=by rw [Mx,hx'];rfl
    simp only [Rw.enc];walk_at "d";have hle:L.length < 64:=by have:=hL.le;rw [Mc] at this;omega
    have hk:(fz L).length < 16777216:=by unfold fz;rw [Lm];omega
    have en:LW (Lp y.w::Ly y.n::Lp y.nm::y.r)=y.enc:=rfl;refine⟨cR.mpr (hw y hy),hws,?_⟩;rw [Jy];by_cases hin:y.w∈ws
    ·rw [R3 (decide_eq_true hin)];by_cases hn:y.n<=n
     ·rw [R3 hn,rS,en];cases hl:cW L y.nm with
      | none=>
       rw [R3 (show iw ((Option.map Rw.enc none).getD Ov)=true from rfl)];exact⟨hk,_,by rw [tk];exact hL.put ⟨hin,hn⟩ (λz e=>by rw [hl] at e;cases e),Aq L y.nm y,_,rfl⟩
      | some z=>
       rw [R1 (by simp [iw,Rw.enc])];refine⟨_,rfl,_,gE,_,rfl,?_⟩;split
       ·rename_i hlt;exact⟨hk,_,by rw [tk];exact hL.put ⟨hin,hn⟩ (λz' e=>by rw [hl] at e;cases e;exact hlt),Aq L y.nm y,_,rfl⟩
       ·rename_i hlt;exact⟨L,by rw [tk];exact hL.keep hl hlt,rfl,_,rfl⟩
     ·rw [R1 hn];exact⟨L,by rw [tk];exact hL.skip (λz=>hn z.2),rfl,_,rfl⟩
    ·rw [R1 (by simpa using hin)];exact⟨L,by rw [tk];exact hL.skip (λz=>hin z.1),rfl,_,rfl⟩
  ·rintro δ ⟨L,o4,o5,hL,rfl⟩;walk_at "d";rw [Lm,L3 (Lr _)] at hL;have hle:L.length < 64:=by have:=hL.le;omega
   refine⟨L.map (·.1),by unfold fz;rw [LH,LH];rfl,by rw [Lm];exact hle,by rw [Lm,(fg _).length_eq,Lm];omega,?_⟩;refine xH (λx=>match x with | .str nm=>((cW L nm).map Rw.enc).getD .none | _=>.none) (λx hx R hR=>?_) ?_
   ·obtain⟨nm,hnm,rfl⟩:=Lv.mp hx;obtain⟨z,hz⟩:=rT ((fg _).mem_iff.mp hnm);walk_at "d";refine⟨z.enc,by rw [rS,hz];rfl,?_⟩;have hR:R (((cW L nm).map Rw.enc).getD .none):=hR;rw [hz] at hR;exact hR
   ·have e:∀l:List Str,(∀a∈l,a∈L.map (·.1))->(l.map Lp).map (λx=>match x with | .str nm=>((cW L nm).map Rw.enc).getD .none | _=>.none)=(l.filterMap (cW L)).map Rw.enc:=by
     intro l
     induction l with
     | nil=>intro _;rfl
     | cons a l ih=>
      intro hl;obtain⟨z,hz⟩:=rT (hl a R5);rw [Lq,Lq,Nk,hz,ih λb hb=>hl b (by simp [hb])];simp [hz]
    rw [e _ λa ha=>(fg _).mem_iff.mp ha];exact q _ hL.res
end
theorem B6:aY (av nI) ["deeds","day"] ["deed"] 1 [] ⟨LA,[(Ln ".0",TQ),(Ln "deed",TQ)],false,false,[]⟩:= .of
section
variable {P:Sk} {w:Sm} {K:Ll} {mg:Str->Option R7} {base:Sn} {t:cC}
def fE:List Str:=["rule","end"]
def hV(res:List Rw):List R6:=(res.filter λx=>x.w==Lk "rule").map λx=>.tuple [.str x.nm,x.r.headD .none]
structure B7 (xs:List Rw):Prop where
 st:∀x∈xs,LB x.w=true
 ru:∀x∈xs,x.w=Lk "rule"->∃p,x.r=[p]
 le:xs.length < 64
def Jz:List R6->(R6->Prop)->Prop:=λds Q=>∃(xs:List Rw)(n:Int),ds=[.tuple (xs.map Rw.enc),.int n]/\B7 xs/\∀res,fj fE n xs res->Q (.tuple (hV res))
theorem JA(T:Txt K mg t):aF P w K mg base CX0 2 t.a_T t.d_T ["deeds","day"] (bf K Jz):=by
 have G_S:=@B5 P w _ _ base _ T;refine T.F_T.F.okD IH (λds Q h=>?_) (λ_ _ _ _ H O ds Q E hr h=>?_)
 ·obtain⟨xs,n,rfl,_⟩:=h;rfl
 ·obtain⟨xs,n,rfl,ok,q⟩:=h;refine'⟨_,?A,?B⟩
  case A=>
   refine' az ?C
   case' C=>generalize hG2:QF _ _ _ _=eg2
   refine' aH ?D
   case' D=>subst hG2
   exact(PE.imp (cB dH rfl T.n_tuple dJ (aR (fe (eJ rfl B6 (df (aq G_S hr T.F_S (aa (dv 0) (aa (bp (aa aT (aa aT ag))) (aa (dv 1) ag))))) aK cg RZ (λ_ _ _ _=>(aI (i:=0) B6.nd rfl R4)) (λ_ _ _ _=>(d4 (aP (dB hr) dD (au ay aB (dv 0) af) aT (aE _)))) (λ_ _ _ _=>(bp (aa (au ay aB (dv 0) af) (aa (au ay aB (dv 0) af) ag)))))) aO)) (bt dN))
  case B=>
  clear hr T G_S;walk_at "d";refine⟨xs,fE,n,rfl,ok.st,cp,ok.le,λres hres=>⟨_,rfl,?_,?_⟩⟩
  ·rw [Lm];have:=hres.le;have:=ok.le;omega
  refine G7 (λx=>match x with | .tuple (.str w:: .int n:: .str nm::r)=>if (w==Lk "rule")=true then some (.tuple [.str nm,r.headD .none]) else none | _=>none) (λx hx R S h=>?_) ?_
  ·obtain⟨y,hy,rfl⟩:=Lv.mp hx;simp only [Rw.enc] at h⊢;walk_at "d";by_cases hr:(y.w==Lk "rule")=true
   ·rw [R3 hr] at h⊢;obtain⟨p,hp⟩:=ok.ru y (hres.it y hy).1 (eq_of_beq hr);rw [hp] at h⊢;exact⟨p,ik,h⟩
   ·rw [R1 hr] at h⊢;exact h
  ·have e:∀l:List Rw,(l.map Rw.enc).filterMap (λx=>match x with | .tuple (.str w:: .int n:: .str nm::r)=>if (w==Lk "rule")=true then some (.tuple [.str nm,r.headD .none]) else none | _=>none)=hV l:=by
    intro l
    induction l with
    | nil=>rfl
    | cons a l ih=>
     rw [Lq,Nk,ih];unfold hV;simp only [Rw.enc,Ms];by_cases hr:(a.w==Lk "rule")=true
     ·rw [R3 hr,R3 hr];rfl
     ·rw [R1 hr,R1 hr]
   rw [e];exact q res hres
theorem JB{s s':cJ}(h:s.enc=s'.enc):s=s':=by
 have n1:Lk "first"≠Lk "last":=cp
 cases s <;> cases s' <;> simp only [cJ.enc,Nq,Mr,M9,and_true,reduceCtorEq,and_false] at h
 ·rfl
 ·rw [h.2]
 ·exact absurd h.1 n1
 ·exact absurd h.1.symm n1
 ·rw [h.2]
theorem B8{a b:Pt}(h:a.enc=b.enc):a=b:=by
 cases a <;> cases b <;> simp only [Pt.enc,Nq,Mr,M9,OE,and_true,reduceCtorEq,and_false] at h
 ·rw [h.1,h.2]
 ·obtain⟨h1,h2,h3,h4,h5⟩:=h;rw [h1,h2,JB h3,h4,h5]
theorem B9{α β:Type}{f:α->β}:∀{l:List α},(l.map f).Nodup->∀{a b:α},a∈l->b∈l->f a=f b->a=b
 | x::l,nd,a,b,ha,hb,e=>by
  rw [Lq,MO] at nd;rcases LF.mp ha with ea | ha1 <;> rcases LF.mp hb with eb | hb1
  ·rw [ea,eb]
  ·subst ea;exact absurd (Lv.mpr ⟨b,hb1,e.symm⟩) nd.1
  ·subst eb;exact absurd (Lv.mpr ⟨a,ha1,e⟩) nd.1
  ·exact B9 nd.2 ha1 hb1 e
def De.rw:De->Rw
 | .pap p=>⟨Lk "paper",p.d,p.nm,[.str p.kd,.tuple (p.ms.map .str)]⟩
 | .oth w d nm r=>⟨w,d,nm,r⟩
theorem De.rw_enc(x:De):x.rw.enc=x.enc:=by cases x <;> rfl
theorem Ca(xs:List De):(xs.map De.rw).map Rw.enc=xs.map De.enc:=by
 rw [LH];congr 1;funext x;exact x.rw_enc
def jg(xs:List De)(n:Int)(z:Str×Pt):Prop:=∃d,d<=n/\De.oth (Lk "rule") d z.1 [z.2.enc]∈xs/\∀x∈xs,x.isE=true->x.nm=z.1->x.d<=n->x.d<=d
def jS(a b:Str×Pt):Prop:=cH a.1 b.1=true/\a.1≠b.1
def jT(xs:List De)(n:Int)(L:List (Str×Pt)):Prop:=L.Pairwise jS/\∀z,z∈L↔jg xs n z
theorem JC(a b:Str×Pt)(h:jS a b):¬jS b a:=λz=>h.2 (mQ h.1 z.1)
theorem Cb{L:List (Str×Pt)}(h:L.Pairwise jS):L.Nodup:=h.imp λ{a b} z e=>z.2 (by rw [e])
theorem JD{L M:List (Str×Pt)}(h1:L.Pairwise jS)(h2:M.Pairwise jS)(h:∀z,z∈L↔z∈M):L=M:=
 iB JC ((N0 (Cb h1) (Cb h2)).mpr h) h1 h2
open Classical in
def cK(xs:List De)(n:Int):List (Str×Pt):=if h:∃L,jT xs n L then h.choose else []
theorem ui{xs:List De}{n:Int}{L:List (Str×Pt)}(h:jT xs n L):L=cK xs n:=by
 unfold cK;have e:∃L,jT xs n L:=⟨L,h⟩;rw [dif_pos e];exact JD h.1 e.choose_spec.1 λz=>(h.2 z).trans (e.choose_spec.2 z).symm
def lp(z:Str×Pt):R6:= .tuple [.str z.1,z.2.enc]
theorem JE{x:De}(np:x.rw.w∈fE)(hp:∀p,x≠ .pap p):x.isE=true:=by
 cases x with
 | pap p=>exact absurd rfl (hp p)
 | oth w d nm r=>
  have:w=Lk "rule"\/w=Lk "end":=by
   have h:w∈fE:=np;unfold fE at h;rcases LF.mp h with e | h
   ·exact .inl e
   ·rcases LF.mp h with e | h
    ·exact .inr e
    ·cases h
  rcases this with e | e
  ·simp [De.isE,e]
  ·simp [De.isE,e]
theorem Cc{x:De}(h:x.isE=true):x.rw.w∈fE/\x.rw.nm=x.nm/\x.rw.n=x.d:=by
 cases x with
 | pap p=>cases h
 | oth w d nm r=>
  refine⟨?_,rfl,rfl⟩;simp only [De.isE,NO,beq_iff_eq] at h;show w∈fE;unfold fE;rcases h with e | e
  ·rw [e];exact L9
  ·rw [e];exact L0 _ L9
theorem JF:Lk "paper" ∉ fE:=cp
theorem Cd{xs:List De}{n:Int}{res:List Rw}(g:fo xs)(h:fj fE n (xs.map De.rw) res):∃L,jT xs n L/\hV res=L.map lp:=by
 have from1:∀x∈res,x.w=Lk "rule"->∃pt:Pt,pt.Ok/\x.r=[pt.enc]/\De.oth (Lk "rule") x.n x.nm [pt.enc]∈xs:=λx hx hw=>by
  obtain⟨h1,_,_⟩:=h.it x hx;obtain⟨y,hy,rfl⟩:=Lv.mp h1;cases y with
  | pap p=>exact absurd hw (by show Lk "paper"≠_;decide+kernel)
  | oth w d nm r=>
   have hw:w=Lk "rule":=hw;subst hw;obtain⟨pt,e,ok⟩:=g.ru _ _ _ hy;subst e;exact⟨pt,ok,rfl,hy⟩
 have pick:∀l:List Rw,(∀x∈l,x∈res)->∃L:List (Str×Pt),hV l=L.map lp/\L.map (·.1)=(l.filter λx=>x.w==Lk "rule").map (·.nm)/\∀z∈L,∃x∈l,x.w=Lk "rule"/\x.nm=z.1/\x.r=[z.2.enc]:=by
  intro l
  induction l with
  | nil=>intro _;exact⟨[],rfl,rfl,R5⟩
  | cons a l ih=>
   intro hl;obtain⟨L,e1,e2,e3⟩:=ih λx hx=>hl x (by simp [hx]);by_cases hr:(a.w==Lk "rule")=true
   ·obtain⟨pt,_,er,_⟩:=from1 a (hl a R5) (eq_of_beq hr);refine⟨(a.nm,pt)::L,?_,?_,?_⟩
    ·unfold hV at e1⊢;rw [Ms,R3 hr,Lq,Lq,e1,er];rfl
    ·rw [Ms,R3 hr,Lq,Lq,e2]
    ·intro z hz;rcases LF.mp hz with rfl | hz
     ·exact⟨a,R5,eq_of_beq hr,rfl,er⟩
     ·obtain⟨x,hx,h'⟩:=e3 z hz;exact⟨x,by simp [hx],h'⟩
   ·refine⟨L,?_,?_,?_⟩
    ·unfold hV at e1⊢;rw [Ms,R1 hr,e1]
    ·rw [Ms,R1 hr,e2]
    ·intro z hz;obtain⟨x,hx,h'⟩:=e3 z hz;exact⟨x,by simp [hx],h'⟩
 obtain⟨L,e1,e2,e3⟩:=pick res λ_ h=>h;have key:∀x∈res,∀pt:Pt,x.r=[pt.enc]->x.w=Lk "rule"->jg xs n (x.nm,pt):=λx hx pt er hw=>by
  obtain⟨pt',_,er',hm⟩:=from1 x hx hw;obtain⟨h1,⟨_,h2⟩,h3⟩:=h.it x hx;rw [er] at er';rw [<-(NH er').1] at hm;refine⟨x.n,h2,hm,λy hy ye yn yd=>?_⟩;obtain⟨a,b,c⟩:=Cc ye;have:=h3 y.rw (Lv.mpr ⟨y,hy,rfl⟩) ⟨a,by rw [c];exact yd⟩ (by rw [b];exact yn);rw [c] at this;exact this
 refine⟨L,⟨?_,λz=>⟨λhz=>?_,λhz=>?_⟩⟩,e1⟩
 ·have up:(L.map (·.1)).Pairwise λa b=>cH a b=true:=by
   rw [e2];exact h.up.sublist (MK.map _)
  have nd:(L.map (·.1)).Nodup:=by
   rw [e2];exact h.nd.sublist (MK.map _)
  rw [LO] at up;rw [ML,LO] at nd;exact up.and nd
 ·obtain⟨x,hx,hw,hn,hr⟩:=e3 z hz;have:=key x hx z.2 hr hw;rw [hn] at this;exact this
 ·obtain⟨d,hd,hm,hal⟩:=hz;have hmr:(De.oth (Lk "rule") d z.1 [z.2.enc]).rw∈xs.map De.rw:=Lv.mpr ⟨_,hm,rfl⟩;have hok:ck fE n (De.oth (Lk "rule") d z.1 [z.2.enc]).rw:=⟨L9,hd⟩;obtain⟨x,hx,xn⟩:=h.al _ hmr hok;have xn:x.nm=z.1:=xn;obtain⟨h1,⟨h2a,h2b⟩,h3⟩:=h.it x hx;obtain⟨y,hy,ey⟩:=Lv.mp h1;have hyE:y.isE=true:=JE (by rw [ey];exact h2a) λp hp=>by
   rw [hp] at ey;rw [<-ey] at h2a;exact JF h2a
  obtain⟨_,yb,yc⟩:=Cc hyE;have dd:d<=x.n:=h3 _ hmr hok xn.symm;have dd2:x.n<=d:=by
   have:=hal y hy hyE (by rw [<-yb,ey];exact xn) (by rw [<-yc,ey];exact h2b);rw [<-yc,ey] at this;exact this
  have ee:y=De.oth (Lk "rule") d z.1 [z.2.enc]:=g.re y hy _ hm hyE (by simp [De.isE]) (by rw [<-yc,ey];exact PR dd2 dd) (by rw [<-yb,ey];exact xn);subst ee;have hw:x.w=Lk "rule":=by rw [<-ey];rfl
  have hr:x.r=[z.2.enc]:=by rw [<-ey];rfl
  have:z.1∈L.map (·.1):=by
   rw [e2];exact Lv.mpr ⟨x,LM.mpr ⟨hx,by rw [hw];exact beq_self_eq_true _⟩,xn⟩
  obtain⟨v,hv,vn⟩:=Lv.mp this;obtain⟨x',hx',hw',hn',hr'⟩:=e3 v hv;have exx:x'=x:=B9 h.nd hx' hx (hn'.trans (vn.trans xn.symm));rw [exx,hr] at hr';have:v=z:=by
   obtain⟨v1,v2⟩:=v;obtain⟨z1,z2⟩:=z;have a1:v1=z1:=vn;have a2:z2.enc=v2.enc:=(NH hr').1;rw [a1,B8 a2.symm]
  rw [<-this];exact hv
def JG:List R6->(R6->Prop)->Prop:=λds Q=>∃(xs:List De)(n:Int),ds=[.tuple (xs.map De.enc),.int n]/\fo xs/\(jT xs n (cK xs n)->(cK xs n).length<=41->Q (.tuple ((cK xs n).map lp)))
theorem Ce{xs:List De}(g:fo xs)(wok:∀w d nm r,De.oth w d nm r∈xs->LB w=true):B7 (xs.map De.rw):=by
 refine⟨λx hx=>?_,λx hx hw=>?_,?_⟩
 ·obtain⟨y,hy,rfl⟩:=Lv.mp hx;cases y with
  | pap p=>show LB (Lk "paper")=true;decide+kernel
  | oth w d nm r=>exact wok _ _ _ _ hy
 ·obtain⟨y,hy,rfl⟩:=Lv.mp hx;cases y with
  | pap p=>exact absurd hw (by show Lk "paper"≠_;decide+kernel)
  | oth w d nm r=>
   have hw:w=Lk "rule":=hw;subst hw;obtain⟨pt,e,_⟩:=g.ru _ _ _ hy;exact⟨_,e⟩
 ·rw [Lm];have:=g.gx.ln;omega
theorem JH(T:Txt K mg t):aF P w K mg base CX0 2 t.a_T t.d_T ["deeds","day"] (bf K JG):=
 (JA T).imp λvs H Q E ⟨O,ds,Qd,tr,hs,⟨xs,n,e,g,q⟩,k⟩=>⟨O,ds,Qd,tr,hs,⟨xs.map De.rw,n,by rw [Ca];exact e,Ce g (λw d nm r h=>g.gx.w _ h),λres hres=>by
  obtain⟨L,h1,h2⟩:=Cd g hres;have e:=ui h1;rw [h2,e];refine q (by rw [<-e];exact h1) ?_;have hl:(hV res).length<=res.length:=by unfold hV;rw [Lm];exact Mo _ _
  have:=hres.le;rw [Lm] at this;rw [h2,Lm,e] at hl;have:=g.gx.ln;omega⟩,k⟩
end
theorem Cf:aY (av nM) ["paper","since","day","days"] ["other","day"] 1 [2] ⟨LA,[ (Ln ".0",TQ),(Ln "other",TQ),(Ln "day",LK)],false,false,[]⟩:= .of
section
variable {P:Sk} {w:Sm} {K:Ll} {mg:Str->Option R7} {base:Sn} {t:cC}
open Classical in
def oj(d k:Int)(u:Str):Int:=if h:∃r,jd d k u r then h.choose else 0
theorem JI{d k:Int}{u:Str}{r:Int}(h:jd d k u r):r=oj d k u:=by
 unfold oj;rw [dif_pos ⟨r,h⟩];exact Jb h (Exists.choose_spec (⟨r,h⟩:∃r,jd d k u r))
def eh:Option Int->R6
 | none=>.none
 | some i=>.int i
def uj(r:Rp):Prop:=B3 r.hs/\LB r.c.kd=true/\r.ts.length<=41/\∀m∈r.ts,LB m=true
def jU(r:Rp)(wd:Str)(n:Int):List Int:=(lg r.hs wd).filter λz=>decide (z<=n)
def oo(r:Rp)(n:Int):cJ->Option Int
 | .com=>some r.c.d
 | .fst wd=>(jU r wd n).head?
 | .lst wd=>(jU r wd n).getLast?
theorem JJ{l:List Int}{Q:R6->Prop}(q:Q (eh l.head?)):if (!(l.map λz=>Ly z).isEmpty)=false then Q .none else ∃d,atI (l.map λz=>Ly z) 0=some d/\Q d:=by
 cases l with
 | nil=>rw [R3 (by rfl)];exact q
 | cons a l=>rw [R1 R5];exact⟨.int a,gZ,q⟩
theorem wa{l:List R6}{a:R6}:atI (l++[a]) (-1)=some a:=by
 unfold atI fJ;rw [R1 R0,R3 (by rw [LN,OF];omega)];rw [show((-1:Int)+((l++[a]).length:Nat)).toNat=l.length by rw [LN,OF];omega];simp
theorem JK{l:List Int}{Q:R6->Prop}(q:Q (eh l.getLast?)):if (!(l.map λz=>Ly z).isEmpty)=false then Q .none else ∃d,atI (l.map λz=>Ly z) (-1)=some d/\Q d:=by
 rcases List.eq_nil_or_concat l with e | ⟨l',a,e⟩
 ·subst e;rw [R3 (by rfl)];exact q
 ·rw [List.concat_eq_append] at e;subst e;rw [R1 R5];refine⟨.int a,?_,?_⟩
  ·rw [LS];exact wa
  ·rw [List.getLast?_concat] at q;exact q
def JL(C:R8):List R6->(R6->Prop)->Prop:=λds Q=>∃(r:Rp)(s:cJ)(n:Int),ds=[r.enc C,s.enc,.int n]/\s.Ok/\uj r/\Q (eh (oo r n s))
theorem JM(T:Txt K mg t):aF P w K mg base CX0 2 t.a_Z t.d_Z ["paper","since","day"] (bf K (JL t.u_Paper)):=by
 have G_Y:=@Jx P w _ _ base _ T;refine T.F_Z.F.okD Br (λds Q h=>?_) (λ_ _ _ _ H O ds Q E hr h=>?_)
 ·obtain⟨r,s,n,rfl,_⟩:=h;rfl
 ·obtain⟨r,si,n,rfl,hsi,hh,q⟩:=h;refine'⟨_,?A,?B⟩
  case A=>
   refine' ar ?C ?D
   case C=>
    refine' bH ?E ?F bG
    case E=>exact(aP (dB hr) dD (au ay aB (dv 1) af) aT (aE _))
    case' F=>refine' az ?G
    case G=>exact(aH (AU (C:=t.u_Paper) T.cl_Paper T.na_Paper_coming (dv 0)))
   case' D=>refine' ar ?H ?I
   case H=>exact(kJ (i:=3) Br.nd rfl R4 (xp rfl Cf (df (aq G_Y hr T.F_Y (aa (dv 0) (aa (au ay aB (dv 1) af) ag)))) aK cg RZ (λ_ _ _ _=>(aI (i:=0) Cf.nd rfl R4)) (λ_ _ _ _=>(d4 (aP lQ jA (dv 0) (dv 1) (aE _)))) (λ_ _ _ _=>(dv 0))))
   case' I=>refine' ar ?J ?K
   case J=>
    refine' bH ?L ?M bG
    case L=>exact(kq (HQ (dv 3)))
    case M=>refine' az (aH mf)
   case' K=>refine' az ?N
   case' N=>refine' aH ?O
   case O=>exact(pV (aP (dB hr) dD (au ay aB (dv 1) af) aT (aE _)) (au bE bR (dv 3) af) (au bE bR (dv 3) (xU af)))
  case B=>
  clear hr T G_Y;have dl:∀wd,(lg r.hs wd).length<=41:=λwd=>by
   unfold lg;rw [Lm];exact LY (Mo _ _) hh.1.1
  cases si with
  | com=>
   simp only [cJ.enc];walk_at "d";exact⟨[Lk "name",Lk "coming",Lk "kind",Lk "makers",Lk "happenings"],_,rfl,_,Jw,q⟩
  | fst wd=>
   simp only [cJ.enc];walk_at "d";rw [cU (show Lk "first"≠Lk "coming" by decide+kernel),R1 Lx];have dl:=dl wd;refine⟨r,wd,rfl,hh.1,hsi,_,rfl,by rw [Lm];omega,cI (λz=>decide (z<=n)) (λz=>.int z) (λx hx R S h=>?_) ?_⟩
   ·walk_at "d";simpa using h
   ·have q:Q (eh (jU r wd n).head?):=q;unfold jU at q;exact JJ q
  | lst wd=>
   simp only [cJ.enc];walk_at "d";rw [cU (show Lk "last"≠Lk "coming" by decide+kernel),R1 Lx];have dl:=dl wd;refine⟨r,wd,rfl,hh.1,hsi,_,rfl,by rw [Lm];omega,cI (λz=>decide (z<=n)) (λz=>.int z) (λx hx R S h=>?_) ?_⟩
   ·walk_at "d";simpa using h
   ·have q:Q (eh (jU r wd n).getLast?):=q;unfold jU at q;exact JK q
def uk(r:Rp)(n:Int):Pt->Option Int
 | .five _ _ s k u=>(oo r n s).map λb=>oj b k u
 | .two _ _=>none
def JN(C:R8):List R6->(R6->Prop)->Prop:=λds Q=>∃(r:Rp)(w kd:Str)(s:cJ)(k:Int)(u:Str)(n:Int),ds=[r.enc C,(Pt.five w kd s k u).enc,.int n]/\s.Ok/\jc u/\uj r/\Q (eh (uk r n (.five w kd s k u)))
theorem JO(T:Txt K mg t):aF P w K mg base CX0 6 t.a_a t.d_a ["paper","parts","day"] (bf K (JN t.u_Paper)):=by
 have G_Z:=@JM P w _ _ base _ T;have G_H:=@Ja P w _ _ base _ T;refine T.F_a.F.okD Bs (λds Q h=>?_) (λ_ _ _ _ H O ds Q E hr h=>?_)
 ·obtain⟨r,w,kd,s,k,u,n,rfl,_⟩:=h;rfl
 ·obtain⟨r,wo,kd,si,k,u,n,rfl,hsi,hu,hh,q⟩:=h;refine'⟨_,?A,?B⟩
  case A=>
   refine' ar ?C ?D
   case C=>
    refine' bu (i:=3) Bs.nd rfl R4 ?E (hs:=fh)
    case E=>exact(aq G_Z hr T.F_Z (aa (dv 0) (aa (au ay aB (dv 1) af) (aa (dv 2) ag))))
   case' D=>refine' ar ?F ?G
   case F=>
    refine' bH ?H ?I bG
    case H=>exact(aP vH Ap (dv 3) mf (aE _))
    case I=>refine' az (aH mf)
   case' G=>refine' az ?J
   case' J=>refine' aH ?K
   case K=>exact(aq G_H hr T.F_H (aa (dv 3) (aa (au ay aB (dv 1) af) (aa (au ay aB (dv 1) af) ag))))
  case B=>
  clear hr T G_Z G_H;simp only [Pt.enc];walk_at "d";refine⟨r,si,n,rfl,hsi,hh,?_⟩;have q:Q (eh ((oo r n si).map λb=>oj b k u)):=q;cases hb:oo r n si with
  | none=>
   rw [hb] at q;simp only [eh,iw];walk_at "d";exact q
  | some b=>
   rw [hb] at q;simp only [eh,iw];walk_at "d";exact⟨b,k,u,rfl,hu,λx hx=>by rw [JI hx];exact q⟩
theorem JP{xs:List De}{c:Pp}(g:fo xs)(hc:c∈ai xs)(h1:∀z,z∈fY (dW xs c.nm)↔z∈dW xs c.nm)(h3:(fY (dW xs c.nm)).length<=41):uj (iC xs c):=by
 refine⟨⟨h3,λz hz=>?_⟩,g.gx.gp.kd c hc,?_,λm hm=>?_⟩
 ·have hz:=(h1 z).mp hz;unfold dW at hz;obtain⟨x,hx,e⟩:=Lv.mp hz;obtain⟨hx1,hx2⟩:=LM.mp hx;cases x with
  | pap p=>cases hx2
  | oth w d nm r=>
   simp only [hU,Mf,beq_iff_eq] at hx2;obtain⟨rfl,rfl⟩:=hx2;obtain⟨wd,rfl,hw⟩:=g.hp _ _ _ hx1;rw [<-e];exact hw
 ·show((cD (ai xs) c).map (·.nm)).length<=41;rw [Lm];exact oi g.gx.gp
 ·obtain⟨p,hp,rfl⟩:=Lv.mp hm;exact g.gx.gp.nm p (fk.mp (LM.mp hp).1)
def JQ:List R6->(R6->Prop)->Prop:=λds Q=>∃(xs:List De)(c:Pp)(w kd:Str)(s:cJ)(k:Int)(u:Str)(n:Int),ds=[.tuple (xs.map De.enc),(Pt.five w kd s k u).enc,.str c.nm,.int n]/\fo xs/\c∈ai xs/\s.Ok/\jc u/\Q (eh (uk (iC xs c) n (.five w kd s k u)))
theorem JR(T:Txt K mg t):aF P w K mg base CX0 9 t.a_b t.d_b ["deeds","parts","paper","day"] (bf K JQ):=by
 have G_a:=@JO P w _ _ base _ T;have G_I:=@Ju P w _ _ base _ T;refine T.F_b.F.okD IM (λds Q h=>?_) (λ_ _ _ _ H O ds Q E hr h=>?_)
 ·obtain⟨xs,c,w,kd,s,k,u,n,rfl,_⟩:=h;rfl
 ·obtain⟨xs,c,wo,kd,si,k,u,n,rfl,gd,hc,hsi,hu,q⟩:=h;refine'⟨_,?A,?B⟩
  case A=>
   refine' az ?C
   case' C=>refine' aH ?D
   case D=>exact(aq G_a hr T.F_a (aa (PE.imp (EB T.mk_Paper G_I (hr.mono RZ) rfl T.c_Paper T.F_I.b .nil wt (aa (dv 0) (aa (dv 2) ag))) HG) (aa (dv 1) (aa (dv 3) ag))))
  case B=>
  clear hr T G_a G_I;walk_at "d";exact⟨xs,c,rfl,gd,hc,λh1 h2 h3=>⟨iC xs c,wo,kd,si,k,u,n,rfl,hsi,hu,JP gd hc h1 h3,q⟩⟩
end
theorem JS{a b:Str}:(a==b)=decide (a=b):=by
 by_cases h:a=b
 ·simp [h]
 ·rw [cU h,decide_eq_false h]
theorem JT{w:Str}(h:KG w):LB w=true:=by rcases h with h | h <;> rw [h] <;> decide+kernel
theorem JU{w:Str}(h:jc w):LB w=true:=by rcases h with h | h | h <;> rw [h] <;> decide+kernel
theorem cJ.lay{s:cJ}(h:s.Ok):bO 2 s.enc:=by
 cases s with
 | com=>exact cj (aJ (bB cp) cT)
 | fst wd=>exact cj (aJ (bB cp) (aJ (bB h) cT))
 | lst wd=>exact cj (aJ (bB cp) (aJ (bB h) cT))
theorem Pt.lay{p:Pt}(h:p.Ok):bO 3 p.enc:=by
 cases p with
 | two w kd=>exact(cj (n:=1) (aJ (bB h.2.1) (aJ (bB h.2.2) cT))).mono RZ
 | five w kd s k u=>exact cj (aJ (bB (JT h.1)) (aJ (bB h.2.1) (aJ (cJ.lay h.2.2.1) (aJ fy (aJ (bB (JU h.2.2.2.2.2)) cT)))))
theorem JV(xs:List R6):cz xs none (some 1)=xs.take 1:=by
 cases xs with
 | nil=>rfl
 | cons a l=>rw [kD RZ (by simp;omega)];rfl
theorem Cg:aY (av nJ) ["deeds","day"] ["deed"] 1 [] ⟨LA,[(Ln ".0",TQ),(Ln "deed",TQ)],false,false,[]⟩:= .of
theorem Ci:aY (av nK) ["holds","line","names","hold","target","deep","reached"] ["coming","target"] 1 [4] ⟨LA,[ (Ln ".0",TQ),(Ln "coming",TQ),(Ln "is_told",Me),(Ln "target",LK)],false,false,[]⟩:= .of
section
variable {P:Sk} {w:Sm} {K:Ll} {mg:Str->Option R7} {base:Sn} {t:cC}
def Cj(a b:Rw):Prop:=cH a.nm b.nm=true/\a.nm≠b.nm
def Uq(ws:List Str)(n:Int)(xs:List Rw):Prop:=∀x∈xs,∀y∈xs,ck ws n x->ck ws n y->x.nm=y.nm->x.n=y.n->x=y
theorem lq{ws:List Str}{n:Int}{xs res:List Rw}(h:fj ws n xs res):res.Pairwise Cj:=by
 have up:=h.up;have nd:=h.nd;rw [LO] at up;rw [ML,LO] at nd;exact up.and nd
theorem Ck{ws:List Str}{n:Int}{xs r1 r2:List Rw}(u:Uq ws n xs)(h1:fj ws n xs r1)(h2:fj ws n xs r2)(x:Rw)(hx:x∈r1):x∈r2:=by
 obtain⟨a1,a2,a3⟩:=h1.it x hx;obtain⟨y,hy,yn⟩:=h2.al x a1 a2;obtain⟨b1,b2,b3⟩:=h2.it y hy;have e:x=y:=u x a1 y b1 a2 b2 yn.symm (PR (b3 x a1 a2 yn.symm) (a3 y b1 b2 yn));rw [e];exact hy
theorem JW{ws:List Str}{n:Int}{xs r1 r2:List Rw}(u:Uq ws n xs)(h1:fj ws n xs r1)(h2:fj ws n xs r2):r1=r2:=
 iB (r:=Cj) (λa b h z=>h.2 (mQ h.1 z.1)) ((N0 ((lq h1).imp λz e=>z.2 (by rw [e])) ((lq h2).imp λz e=>z.2 (by rw [e]))).mpr λx=>⟨Ck u h1 h2 x,Ck u h2 h1 x⟩) (lq h1) (lq h2)
open Classical in
def oq(ws:List Str)(n:Int)(xs:List Rw):List Rw:=if h:∃r,fj ws n xs r then h.choose else []
theorem Cm{ws:List Str}{n:Int}{xs r:List Rw}(u:Uq ws n xs)(h:fj ws n xs r):r=oq ws n xs:=by
 unfold oq;have e:∃r,fj ws n xs r:=⟨r,h⟩;rw [dif_pos e];exact JW u h e.choose_spec
def bZ(ip:Bool)(tn:Str):R6:= .tuple [.str (if ip=true then Lk "paper" else Lk "kind"),.str tn]
structure Hd where
 nm:Str
 ip:Bool
 tn:Str
 dp:Bool
def Hd.enc(h:Hd):R6:= .tuple [.str h.nm,bZ h.ip h.tn,.bool h.dp]
def De.isL:De->Bool
 | .oth w _ _ _=>w==Lk "hold" || w==Lk "lift"
 | _=>false
structure dF (xs:List De):Prop where
 gd:fo xs
 ho:∀d nm r,De.oth (Lk "hold") d nm r∈xs->∃(ip:Bool)(tn:Str)(dp:Bool),r=[bZ ip tn,.bool dp]/\LB tn=true
 le:∀d nm r,De.oth (Lk "leave") d nm r∈xs->∃kd,r=[.str kd]/\LB kd=true
 rh:∀x∈xs,∀y∈xs,x.isL=true->y.isL=true->x.d=y.d->x.nm=y.nm->x=y
 lv:∀x∈xs,∀y∈xs,x.w=Lk "leave"->y.w=Lk "leave"->x.nm=y.nm->x=y
def dX:List Str:=["hold","lift"]
def lu:List R6->Bool×Str×Bool
 | [.tuple [.str a,.str b],.bool c]=>(a==Lk "paper",b,c)
 | _=>(false,Lk "",false)
def ly(x:Rw):Hd:=⟨x.nm,(lu x.r).1,(lu x.r).2.1,(lu x.r).2.2⟩
theorem ot{x:Rw}{ip dp:Bool}{tn:Str}(h:x.r=[bZ ip tn,.bool dp]):ly x=⟨x.nm,ip,tn,dp⟩:=by
 unfold ly;rw [h];cases ip with
 | true=>simp [bZ,lu]
 | false=>simp [bZ,lu,cU (show Lk "kind"≠Lk "paper" by decide+kernel)]
def iD(res:List Rw):List Hd:=(res.filter λx=>x.w==Lk "hold").map ly
def bC(xs:List De)(n:Int):List Hd:=iD (oq dX n (xs.map De.rw))
theorem ow{w:Str}(h:w∈dX):w=Lk "hold"\/w=Lk "lift":=by
 unfold dX at h;rcases LF.mp h with e | h
 ·exact .inl e
 ·rcases LF.mp h with e | h
  ·exact .inr e
  ·cases h
theorem Cn{xs:List De}{n:Int}(g:dF xs):Uq dX n (xs.map De.rw):=by
 intro x hx y hy ox oy e1 e2;obtain⟨a,ha,rfl⟩:=Lv.mp hx;obtain⟨b,hb,rfl⟩:=Lv.mp hy;have il:∀z:De,z.rw.w∈dX->z.isL=true/\z.rw.nm=z.nm/\z.rw.n=z.d:=λz hz=>by
  cases z with
  | pap p=>exact absurd (ow hz) (by show ¬(Lk "paper"=_\/Lk "paper"=_);decide+kernel)
  | oth w d nm r=>
   refine⟨?_,rfl,rfl⟩;have hz:w∈dX:=hz;rcases ow hz with e | e <;> simp [De.isL,e]
 obtain⟨a1,a2,a3⟩:=il a ox.1;obtain⟨b1,b2,b3⟩:=il b oy.1;rw [g.rh a ha b hb a1 b1 (by rw [<-a3,<-b3];exact e2) (by rw [<-a2,<-b2];exact e1)]
def oz(hs:List Hd):Prop:=hs.length<=41/\∀h∈hs,LB h.tn=true
def JX:List R6->(R6->Prop)->Prop:=λds Q=>∃(xs:List De)(n:Int),ds=[.tuple (xs.map De.enc),.int n]/\dF xs/\(oz (bC xs n)->Q (.tuple ((bC xs n).map Hd.enc)))
theorem um(T:Txt K mg t):aF P w K mg base CX0 2 t.a_U t.d_U ["deeds","day"] (bf K JX):=by
 have G_S:=@B5 P w _ _ base _ T;refine T.F_U.F.okD II (λds Q h=>?_) (λ_ _ _ _ H O ds Q E hr h=>?_)
 ·obtain⟨xs,n,rfl,_⟩:=h;rfl
 ·obtain⟨xs,n,rfl,g,q⟩:=h;refine'⟨_,?A,?B⟩
  case A=>
   refine' az ?C
   case' C=>generalize hG2:QF _ _ _ _=eg2
   refine' aH ?D
   case' D=>subst hG2
   exact(PE.imp (cB dH rfl T.n_tuple dJ (aR (fe (eJ rfl Cg (df (aq G_S hr T.F_S (aa (dv 0) (aa (bp (aa aT (aa aT ag))) (aa (dv 1) ag))))) aK cg RZ (λ_ _ _ _=>(aI (i:=0) Cg.nd rfl R4)) (λ_ _ _ _=>(d4 (aP (dB hr) dD (au ay aB (dv 0) af) aT (aE _)))) (λ_ _ _ _=>(bp (aa (au ay aB (dv 0) af) (aa (au ay aB (dv 0) af) (aa (au ay aB (dv 0) af) ag))))))) aO)) (bt dN))
  case B=>
  clear hr T G_S;have ok:=Ce g.gd (λw d nm r h=>g.gd.gx.w _ h);walk_at "d";refine⟨xs.map De.rw,dX,n,by rw [Ca];rfl,ok.st,cp,ok.le,λres hres=>⟨_,rfl,?_,?_⟩⟩
  ·rw [Lm];have:=hres.le;have:=ok.le;omega
  have fm:∀x∈res,x.w=Lk "hold"->∃(ip:Bool)(tn:Str)(dp:Bool),x.r=[bZ ip tn,.bool dp]/\LB tn=true:=λx hx hw=>by
   obtain⟨h1,_,_⟩:=hres.it x hx;obtain⟨y,hy,rfl⟩:=Lv.mp h1;cases y with
   | pap p=>exact absurd hw (by show Lk "paper"≠_;decide+kernel)
   | oth w d nm r=>
    have hw:w=Lk "hold":=hw;subst hw;exact g.ho _ _ _ hy
  have e:=Cm (Cn g) hres;have q:oz (iD res)->Q (.tuple ((iD res).map Hd.enc)):=by rw [e];exact q
  refine cI (enc:=Rw.enc) (λx=>x.w==Lk "hold") (λx=>(ly x).enc) (λx hx R S h=>?_) ?_
  ·simp only [Rw.enc];walk_at "d";by_cases hr:(x.w==Lk "hold")=true
   ·rw [R3 hr] at h⊢;obtain⟨ip,tn,dp,hp,_⟩:=fm x hx (eq_of_beq hr);rw [ot hp] at h;rw [hp];exact⟨_,ik,_,qT,h⟩
   ·rw [R1 hr] at h⊢;exact h
  ·have e2:(Ow (λx=>x.w==Lk "hold") res).map (λx=>(ly x).enc)=(iD res).map Hd.enc:=by unfold iD;rw [LH];rfl
   rw [e2];refine q ⟨?_,λh hh=>?_⟩
   ·unfold iD;rw [Lm];have h1:=Mo (λx:Rw=>x.w==Lk "hold") res;have h2:=hres.le;rw [Lm] at h2;have:=g.gd.gx.ln;omega
   ·obtain⟨x,hx,rfl⟩:=Lv.mp hh;obtain⟨hx1,hx2⟩:=LM.mp hx;obtain⟨ip,tn,dp,hp,hk⟩:=fm x hx1 (eq_of_beq hx2);rw [ot hp];exact hk
def told(ip:Bool)(tn:Str)(c:Pp):Bool:=tn==if ip=true then c.nm else c.kd
def Co:List R6->(R6->Prop)->Prop:=λds Q=>∃(ip:Bool)(tn:Str)(c:Pp),ds=[bZ ip tn,c.enc]/\LB tn=true/\LB c.nm=true/\LB c.kd=true/\Q (.bool (told ip tn c))
theorem JY(T:Txt K mg t):aF P w K mg base CX0 1 t.a_V t.d_V ["target","coming"] (bf K Co):=by
 refine T.F_V.F.okD IJ (λds Q h=>?_) (λ_ _ _ _ H O ds Q E hr h=>?_)
 ·obtain⟨ip,tn,c,rfl,_⟩:=h;rfl
 ·obtain⟨ip,tn,c,rfl,h1,h2,h3,q⟩:=h;refine'⟨_,?A,?B⟩
  case A=>
   refine' az ?C
   case' C=>refine' aH ?D
   case D=>exact(fv (cx hr.units) cy (df (au ay aB (dv 0) af)) (df (pV (aP (dB hr) dD (au ay aB (dv 0) af) aT (aE _)) (au ay aB (dv 1) af) (au ay aB (dv 1) af))) (aE _))
  case B=>
  clear hr T;simp only [bZ,Pp.enc];unfold told at q;cases ip with
  | true=>
   walk_at "d";exact⟨cR.mpr h1,cR.mpr h2,q⟩
  | false=>
   walk_at "d";rw [R1 (show ¬(Lk "kind"==Lk "paper")=true by decide+kernel)];exact⟨cR.mpr h1,cR.mpr h3,q⟩
def fF(line:List Pp)(h:Hd):Bool:=(if h.dp=true then line else line.take 1).any (told h.ip h.tn)
def dY(hs:List Hd)(line:List Pp):List Str:=(hs.filter (fF line)).map (·.nm)
def Cp(line:List Pp):Prop:=line.length<=41/\∀c∈line,LB c.nm=true/\LB c.kd=true
def F_W:List R6->(R6->Prop)->Prop:=λds Q=>∃(hs:List Hd)(line:List Pp),ds=[.tuple (hs.map Hd.enc),.list (line.map Pp.enc)]/\oz hs/\Cp line/\Q (.tuple ((dY hs line).map .str))
theorem JZ(T:Txt K mg t):aF P w K mg base CX0 2 t.a_W t.d_W ["holds","line"] (bf K F_W):=by
 have G_V:=@JY P w _ _ base _ T;refine T.F_W.F.okD jO (λds Q h=>?_) (λ_ _ _ _ H O ds Q E hr h=>?_)
 ·obtain⟨hs,line,rfl,_⟩:=h;rfl
 ·obtain⟨hs,line,rfl,ho,lo,q⟩:=h;refine'⟨_,?A,?B⟩
  case A=>
   refine' ar ?C ?D
   case C=>exact(ig (i:=2) jO.nd rfl R4 (cL ag))
   case' D=>refine' ar ?E ?F
   case E=>
    refine' ij Mj rfl (dv 0) ?G (gX (cG aK (cG aK (cG aK gW)))) ?H
    case G=>exact(gi (n:=3) rfl (cw (aI (i:=3) jO.nd rfl R4) (cw (aI (i:=4) jO.nd rfl R4) (cw (aI (i:=5) jO.nd rfl R4) gh))))
    case' H=>refine' ar ?I ?J
    case I=>exact(bu (i:=6) jO.nd rfl R4 (pV (ib (dv 5)) (dv 1) (fe (jB (df (dv 1)) eM (cQ af)))))
    case' J=>refine' az ?K
    case' K=>refine' bH ?L ?M bG
    case L=>exact(ib (PE.imp (bN (pJ rfl) rfl T.n_any pK (aR (fe (eJ rfl Ci (df (dv 6)) aK cg RZ (λ_ _ _ _=>(aI (i:=0) Ci.nd rfl R4)) (λ_ _ _ _=>d6) (λ_ _ _ _=>(aq G_V hr T.F_V (aa (dv 1) (aa (dv 0) ag)))))) aO)) (bt qJ)))
    case' M=>refine' az ?N
    case N=>exact(mv (i:=2) (pv 2) (dv 3))
   case' F=>refine' az ?O
   case O=>exact(aH (PE.imp (cB dH rfl T.n_tuple dJ (gT (dw 2) aO)) (bt dN)))
  case B=>
  clear hr T G_V;have h41:=ho.1;have l41:=lo.1;walk_at "d";refine⟨λi δ=>∃o3 o4 o5 o6,δ=[some (Sl.v (.tuple (hs.map Hd.enc))),some (Sl.v (.list (line.map Pp.enc))),some (Sl.o ((dY (hs.take i) line).map .str)),o3,o4,o5,o6],⟨_,_,_,_,rfl⟩,?_,?_⟩
  ·rintro i z δ hz ⟨o3,o4,o5,o6,rfl⟩;rw [LD] at hz;cases hz':hs[i]? with
   | none=>rw [hz'] at hz;cases hz
   | some h=>
    rw [hz'] at hz;cases hz;have hk:=ho.2 h (LQ hz');have ts:dY (hs.take (i+1)) line=dY (hs.take i) line++if fF line h=true then [h.nm] else []:=by
     unfold dY;rw [Mx,hz',NP,LS];congr 1;by_cases e:fF line h=true
     ·simp [e]
     ·simp [e]
    have ll:(dY (hs.take i) line).length<=41:=by
     unfold dY;rw [Lm];have:=Mo (fF line) (hs.take i);rw [Mc] at this;omega
    have key:∀(l2:List Pp)(R:List R6->Prop),(∀c∈l2,c∈line)->R ((l2.map (told h.ip h.tn)).map .bool)->fc (kr 0) iX (ie Co (gQ (cF 1) (gQ (cF 0) jx))) [none,some (Sl.v (bZ h.ip h.tn))] (l2.map Pp.enc) R:=λl2 R hl hR=>by
     refine BW (λ_=>true) (λc=>.bool (told h.ip h.tn c)) (λc hc R S h1 _=>?_) (by rw [gG];rw [LH] at hR;exact hR);walk_at "d";exact⟨h.ip,h.tn,c,rfl,hk,(lo.2 c (hl c hc)).1,(lo.2 c (hl c hc)).2,h1 rfl⟩
    simp only [Hd.enc];simp only [ts];have ec:fF line h=(if h.dp=true then line else line.take 1).any (told h.ip h.tn):=rfl;rw [ec];generalize dY (hs.take i) line=A0 at ll;have fin:∀(l2:List Pp)(x:Option Sl),if (l2.map (told h.ip h.tn)).any id=true then(A0.map Lp).length < 16777216/\A0.map Lp++[Lp h.nm]=(A0++if l2.any (told h.ip h.tn)=true then [h.nm] else []).map Lp/\∃y,x=y else A0.map Lp=(A0++if l2.any (told h.ip h.tn)=true then [h.nm] else []).map Lp/\∃y,x=y:=λl2 x=>by
     rw [Po];show if l2.any (told h.ip h.tn)=true then _ else _
     split
     ·exact⟨by rw [Lm];omega,R5,_,rfl⟩
     ·exact⟨R5,_,rfl⟩
    cases hd:h.dp with
    | true=>
     walk_at "d";exact⟨by rw [Lm];omega,key line _ (λ_ h=>h) ⟨_,rfl,fin line _⟩⟩
    | false=>
     walk_at "d";rw [JV,<-NZ];have lt:(line.take 1).length<=41:=by rw [Mc];omega
     exact⟨by rw [Lm];omega,key (line.take 1) _ (λ_ h=>MG h) ⟨_,rfl,fin (line.take 1) _⟩⟩
  ·rintro δ ⟨o3,o4,o5,o6,rfl⟩;walk_at "d";rw [Lm,L3 (Lr _)];exact q
end
theorem Cq:aY (av nG) ["deeds","paper","line","place"] ["deed","line"] 1 [2] ⟨LA,[ (Ln ".0",TQ),(Ln "deed",TQ),(Ln "line",LK)],false,false,[]⟩:= .of
section
variable {P:Sk} {w:Sm} {K:Ll} {mg:Str->Option R7} {base:Sn} {t:cC}
theorem Cr:∀{a b:List Str},MY (a.map .str) (b.map .str)=true↔a=b
 | [],[]=>by simp [MY]
 | [],_::_=>by simp [MY]
 | _::_,[]=>by simp [MY]
 | x::a,y::b=>by
  rw [Lq,Lq,MY,Mf,Cr,iZ,beq_iff_eq,Mr]
theorem Cs{a b:Pp}:LL a.enc b.enc=true↔a=b:=by
 obtain⟨d,nm,kd,ms⟩:=a;obtain⟨d',nm',kd',ms'⟩:=b;simp only [Pp.enc,LL,MY,Mf,Cr,Pp.mk.injEq,decide_eq_true_eq,beq_iff_eq,and_true,true_and]
def jh(l:List Pp)(p:Pp):Bool:=(l.map Pp.enc).any λd=>LL d p.enc
theorem Ct{l:List Pp}{p:Pp}:jh l p=true↔p∈l:=by
 unfold jh;rw [MQ];constructor
 ·rintro⟨d,hd,e⟩;obtain⟨q,hq,rfl⟩:=Lv.mp hd;rw [<-Cs.mp e];exact hq
 ·intro h;exact⟨p.enc,Lv.mpr ⟨p,h,rfl⟩,Cs.mpr rfl⟩
def newP(ps line:List Pp)(c:Pp):List Pp:=(cD ps c).filter λp=>!jh line p
def lineG(ps:List Pp):Nat->List Pp->Nat->List Pp
 | 0,l,_=>l
 | f+1,l,i=>match l[i]? with
  | none=>l
  | some c=>lineG ps f (l++newP ps l c) (i+1)
def cA(ps:List Pp)(c:Pp):List Pp:=lineG ps ps.length [c] 0
theorem uo{ps l:List Pp}{i:Nat}(h:l.length<=i):∀f,lineG ps f l i=l
 | 0=>rfl
 | f+1=>by rw [lineG,NT h]
structure hW (ps:List Pp) (c:Pp) (l:List Pp):Prop where
 nd:l.Nodup
 sb:∀p∈l,p∈ps
 hd:∃r,l=c::r
theorem iE{α:Type}:∀{l L:List α},l.Nodup->(∀z∈l,z∈L)->l.length<=L.length
 | [],_,_,_=>Mb _
 | a::l,L,nd,hm=>by
  rw [MO] at nd;obtain⟨p,q,e⟩:=QG (hm a R5);have:=iE (l:=l) (L:=p++q) nd.2 λb hb=>by
   have hb':=hm b (by simp [hb]);rw [e] at hb';rcases LI.mp hb' with z | z
   ·exact MF _ z
   ·rcases LF.mp z with z | z
    ·exact absurd (by rw [<-z];exact hb) nd.1
    ·exact L5 _ z
  rw [e,LN,LP,LP];rw [LN] at this;omega
theorem J0{ps:List Pp}(nd:(ps.map (·.nm)).Nodup):ps.Nodup:=by
 rw [ML,LO] at nd;exact nd.imp λh e=>h (by rw [e])
theorem J1{ps:List Pp}(nd:(ps.map (·.nm)).Nodup)(c:Pp):(cD ps c).Nodup:=((fX ps).nodup_iff.mpr (J0 nd)).sublist MK
theorem ur{ps:List Pp}{c p:Pp}(h:p∈cD ps c):p∈ps:=fk.mp (LM.mp h).1
theorem hW.next{ps:List Pp}(nd:(ps.map (·.nm)).Nodup){c:Pp}{l:List Pp}(h:hW ps c l)(d:Pp):hW ps c (l++newP ps l d):=by
 refine⟨Nw.mpr ⟨h.nd,(J1 nd d).sublist MK,λa ha b hb e=>?_⟩,λp hp=>?_,?_⟩
 ·have:=(LM.mp hb).2;rw [NR,<-Bool.not_eq_true] at this;exact this (Ct.mpr (by rw [<-e];exact ha))
 ·rcases LI.mp hp with z | z
  ·exact h.sb p z
  ·exact ur (LM.mp z).1
 ·obtain⟨r,e⟩:=h.hd;exact⟨r++newP ps l d,by rw [e];rfl⟩
theorem Cu{ps:List Pp}(nd:(ps.map (·.nm)).Nodup){c:Pp}:∀(f:Nat){l:List Pp}(i:Nat),hW ps c l->hW ps c (lineG ps f l i)
 | 0,_,_,h=>h
 | f+1,l,i,h=>by
  rw [lineG];split
  ·exact h
  ·exact Cu nd f (i+1) (h.next nd _)
theorem oA{ps:List Pp}(nd:(ps.map (·.nm)).Nodup){c:Pp}(hc:c∈ps):hW ps c (cA ps c):=Cu nd _ _ ⟨R5,by simpa using hc,[],rfl⟩
theorem J3{ps:List Pp}(g:hJ ps){c:Pp}(hc:c∈ps):Cp (cA ps c):=by
 have h:=oA g.nd hc;have h1:=iE h.nd h.sb;have h2:=g.ln;exact⟨R0,λp hp=>⟨g.nm p (h.sb p hp),g.kd p (h.sb p hp)⟩⟩
theorem Cv{ps:List Pp}(g:hJ ps){c:Pp}(hc:c∈ps):bO 3 c.enc:=by
 obtain⟨h1,h2⟩:=g.ms c hc;exact cj (aJ (bB cp) (aJ fy (aJ (bB (g.nm c hc)) (aJ (bB (g.kd c hc)) (aJ (cj (n:=1) (jG h1)) cT)))))
def J4:List R6->(R6->Prop)->Prop:=λds Q=>∃(xs:List De)(c:Pp),ds=[.tuple (xs.map De.enc),.str c.nm]/\fD xs/\c∈ai xs/\Q (.list ((cA (ai xs) c).map Pp.enc))
theorem J5(T:Txt K mg t):aF P w K mg base CX0 6 t.a_R t.d_R ["deeds","paper"] (bf K J4):=by
 have G_L:=@la P w _ _ base _ T;have G_O:=@B0 P w _ _ base _ T;refine T.F_R.F.okD nU (λds Q h=>?_) (λ_ _ _ _ H O ds Q E hr h=>?_)
 ·obtain⟨xs,c,rfl,_⟩:=h;rfl
 ·obtain⟨xs,c,rfl,gd,hc,q⟩:=h;refine'⟨_,?A,?B⟩
  case A=>
   refine' ar ?C ?D
   case C=>exact(ig (i:=2) nU.nd rfl R4 (cL (aa (aq G_L hr T.F_L (aa (dv 0) (aa (dv 1) ag))) ag)))
   case' D=>refine' ar ?E ?F
   case E=>exact(bu (i:=3) nU.nd rfl R4 af)
   case' F=>refine' ar ?G ?H
   case G=>
    refine' HD Mj ?I ?J
    case I=>exact(aP lP jA (dv 3) (PE.imp (bN eV rfl T.n_len MA (gT (dw 2) aO)) (bt fP)) (aE _))
    case' J=>refine' ar ?K ?L
    case K=>exact(Hm (i:=2) (pv 2) (eJ rfl Cq (df (aq G_O hr T.F_O (aa (dv 0) (aa (eN bE bR (dw 2) (df (dv 3))) ag)))) aK cg RZ (λ_ _ _ _=>(aI (i:=0) Cq.nd rfl R4)) (λ_ _ _ _=>(d4 (wJ (rp hr) i8 (df (dv 0)) (dw 1) rfl))) (λ_ _ _ _=>(dv 0))))
    case' L=>refine' az ?M
    case M=>exact(bu (i:=3) nU.nd rfl R4 (aQ bz bQ (dv 3) af))
   case' H=>refine' az ?N
   case N=>exact(wK (pv 2))
  case B=>
  clear hr T G_L G_O;have nd:=gd.gp.nd;have pl:=gd.gp.ln;walk_at "d";refine⟨xs,c,rfl,gd,hc,?_⟩;refine⟨λm δ=>∃(l:List Pp)(i f:Nat),hW (ai xs) c l/\i<=l.length/\m+i=(ai xs).length/\(ai xs).length<=f+i/\lineG (ai xs) f l i=cA (ai xs) c/\δ=[some (Sl.v (.tuple (xs.map De.enc))),some (Sl.v (.str c.nm)),some (Sl.o (l.map Pp.enc)),some (Sl.v (.int (i:Int)))],⟨(ai xs).length,[c],0,(ai xs).length,⟨R5,by simpa using hc,[],rfl⟩,Mb _,R0,R0,rfl,rfl⟩,?_⟩;rintro m δ ⟨l,i,f,hl,hi,hm,hf,ef,rfl⟩;have ll:=iE hl.nd hl.sb;walk_at "d";rw [Lm];by_cases hlt:i < l.length
  ·rw [R3 R0];have hc':l[i]?=some l[i]:=LG hlt;have ho:=hl.next nd l[i];have lo:=iE ho.nd ho.sb;rw [LN] at lo;refine⟨_,eU (j:=i) (by rw [LD,hc'];rfl),xs,l[i],rfl,gd,hl.sb _ (M8 hlt),_,rfl,by rw [Lm];have:=oi (c:=l[i]) gd.gp;omega,cI (λp=>!jh l p) Pp.enc (λp hp R S h=>?_) ?_⟩
   ·walk_at "d";have ps:=ur hp;refine⟨(Cv gd.gp ps).shp RZ,(jE (n:=3) λd hd=>?_).1,by simpa [jh] using h⟩;obtain⟨p',hp',rfl⟩:=Lv.mp hd;exact Cv gd.gp (hl.sb p' hp')
   ·have e:(Ow (λp=>!jh l p) (cD (ai xs) l[i]))=newP (ai xs) l l[i]:=rfl;rw [e];cases f with
    | zero=>omega
    | succ f=>
     rw [lineG,hc'] at ef;refine⟨by rw [Lm];omega,m - 1,R0,_,ho,i+1,by rw [LN];omega,R0,f,R0,ef,by rw [LS],R0⟩
  ·rw [R1 R0];rw [<-ef,uo R0] at q;exact q
end
theorem Cw:aY (av nF) ["deeds","paper","reached","made","name"] ["maker","reached"] 1 [2] ⟨LA,[ (Ln ".0",TQ),(Ln "maker",TQ),(Ln "reached",LK)],false,false,[]⟩:= .of
section
variable {P:Sk} {w:Sm} {K:Ll} {mg:Str->Option R7} {base:Sn} {t:cC}
inductive bW (ps:List Pp):Pp->Pp->Prop
 | one {a b:Pp}:jf ps a b->bW ps a b
 | more {a b c:Pp}:bW ps a b->jf ps b c->bW ps a c
theorem bW.mem{ps:List Pp}{a b:Pp}(h:bW ps a b):a∈ps/\b∈ps:=by
 induction h with
 | one h=>exact⟨h.1,h.2.1⟩
 | more _ h ih=>exact⟨ih.1,h.2.1⟩
theorem bW.imp{ps qs:List Pp}(hm:∀x∈ps,x∈qs){a b:Pp}(h:bW ps a b):bW qs a b:=by
 induction h with
 | one h=>exact .one ⟨hm _ h.1,hm _ h.2.1,h.2.2⟩
 | more _ h ih=>exact .more ih ⟨hm _ h.1,hm _ h.2.1,h.2.2⟩
theorem bW.iff{ps:List Pp}{a c:Pp}:bW ps a c↔∃b,jf ps b c/\(b=a\/bW ps a b):=by
 constructor
 ·intro h;cases h with
  | one h=>exact⟨a,h,.inl rfl⟩
  | more h1 h2=>exact⟨_,h2,.inr h1⟩
 ·rintro⟨b,h,e | e⟩
  ·subst e;exact .one h
  ·exact .more e h
open Classical in
def eS(ps:List Pp)(a b:Pp):Bool:=decide (bW ps a b)
theorem fZ{ps:List Pp}{a b:Pp}:eS ps a b=true↔bW ps a b:=by unfold eS;exact @decide_eq_true_iff _ (Classical.propDecidable _)
def gI(ps:List Pp)(a:Pp):List Pp:=(bj ps).filter (eS ps a)
theorem J6{ps qs:List Pp}{a b a' b':Pp}(h:bW ps a b↔bW qs a' b'):eS ps a b=eS qs a' b':=by
 cases e:eS qs a' b' with
 | true=>exact fZ.mpr (h.mpr (fZ.mp e))
 | false=>
  cases e2:eS ps a b with
  | false=>rfl
  | true=>rw [fZ.mpr (h.mp (fZ.mp e2))] at e;cases e
def jV(kd:List (ah×R6))(z:Str):Prop:=(bV kd (.inr z)).isSome=true
theorem Cy{kd:List (ah×R6)}{z:Str}:jV kd z↔∃p∈kd,p.1= .inr z:=by
 unfold jV bV;rw [Ol,List.find?_isSome];simp
theorem Cz{kd:List (ah×R6)}{y z:Str}{d:R6}:jV (cN kd (.inr y) d) z↔jV kd z\/z=y:=by
 rw [Cy,Cy];unfold cN;split
 ·rename_i h;rw [MQ] at h;obtain⟨p,hp,e⟩:=h;have e:p.1= .inr y:=by simpa using e
  constructor
  ·rintro⟨r,hr,er⟩;obtain⟨s,hs,rfl⟩:=Lv.mp hr;refine .inl ⟨s,hs,?_⟩;split at er
   ·exact er
   ·exact er
  ·rintro(⟨r,hr,er⟩ | rfl)
   ·refine⟨_,Lv.mpr ⟨r,hr,rfl⟩,?_⟩;split
    ·exact er
    ·exact er
   ·refine⟨_,Lv.mpr ⟨p,hp,rfl⟩,?_⟩;rw [R3 e];exact e
 ·constructor
  ·rintro⟨r,hr,er⟩;rcases LI.mp hr with h | h
   ·exact .inl ⟨r,h,er⟩
   ·rw [LX] at h;rw [h] at er;exact .inr (PV er).symm
  ·rintro(⟨r,hr,er⟩ | rfl)
   ·exact⟨r,MF _ hr,er⟩
   ·exact⟨_,L5 _ (LX.mpr rfl),rfl⟩
theorem J7{kd:List (ah×R6)}{k:ah}{d:R6}:(cN kd k d).length<=kd.length+1:=by
 unfold cN;split
 ·rw [Lm];omega
 ·rw [LN];exact Lr _
def J8:List R6->(R6->Prop)->Prop:=λds Q=>∃(xs:List De)(c:Pp),ds=[.tuple (xs.map De.enc),.str c.nm]/\fD xs/\c∈ai xs/\Q (.tuple (((gI (ai xs) c).map (·.nm)).map .str))
theorem CA(T:Txt K mg t):aF P w K mg base CX0 7 t.a_Q t.d_Q ["deeds","paper"] (bf K J8):=by
 have G_P:=@ue P w _ _ base _ T;have G_L:=@la P w _ _ base _ T;have G_M:=@oh P w _ _ base _ T;refine T.F_Q.F.okD nT (λds Q h=>?_) (λ_ _ _ _ H O ds Q E hr h=>?_)
 ·obtain⟨ps,c,rfl,_⟩:=h;rfl
 ·obtain⟨xs,c,rfl,gx,hc,q⟩:=h;have gd:=gx.gp;have xl:=gx.ln;refine'⟨_,?A,?B⟩
  case A=>
   refine' ar ?C ?D
   case C=>exact(F2 (aq G_L hr T.F_L (aa (dv 0) (aa (dv 1) ag))))
   case' D=>refine' ar ?E ?F
   case E=>
    generalize hD4:Expr.Dict _ _ _=ed4;refine' rK (i:=2) nT.nd rfl R4 ?G (hs:=by subst hD4;first | rfl | exact xV)
    case' G=>subst hD4
    refine' Az ?p4_0
    case p4_0=>
     refine' kN (dv 1) d5 ?p4_1
     case p4_1=>exact Ay
   case' F=>refine' ar ?H ?I
   case H=>exact(ig (i:=3) nT.nd rfl R4 (cL ag))
   case' I=>refine' ar ?J ?K
   case J=>
    refine' ij Mj rfl (aq G_M hr T.F_M (aa (dv 0) ag)) ?L aK ?M
    case L=>exact(aI (i:=4) nT.nd rfl R4)
    case' M=>refine' az ?N
    case' N=>refine' bH ?O ?P bG
    case O=>exact(ib (PE.imp (bN (pJ rfl) rfl T.n_any pK (aR (fe (iY rfl Cw (df (aq G_P hr T.F_P (aa (dv 0) (aa (dv 4) ag)))) aK cg RZ (λ_ _ _ _=>(aI (i:=0) Cw.nd rfl R4)) (λ_ _ _ _=>d6) (λ_ _ _ _=>(Hh (i:=1) hr.units (pv 1) (dv 0))))) aO)) (bt qJ)))
    case' P=>refine' ar ?Q ?R
    case Q=>exact(Af (i:=2) hr.units (pv 2) (dv 4) d5)
    case' R=>refine' az ?S
    case S=>exact(mv (i:=3) (pv 3) (dv 4))
   case' K=>refine' az ?T
   case T=>exact(aH (PE.imp (cB dH rfl T.n_tuple dJ (gT (dw 3) aO)) (bt dN)))
  case B=>
  clear hr T G_P G_L G_M;walk_at "d";refine⟨xs,c,rfl,gx,hc,[(.inr c.nm,.bool true)],rfl,R5,R5,xs,rfl,gx,_,rfl,?_⟩;generalize hps:ai xs=ps at gd hc q;have ln:=gd.ln;have pw:=je gd.nd;refine⟨λi δ=>∃kd o4,(∀z,jV kd z↔z=c.nm\/∃o∈(bj ps).take i,o.nm=z/\bW ps c o)/\kd.length<=i+1/\δ=[some (Sl.v (.tuple (xs.map De.enc))),some (Sl.v (.str c.nm)),some (Sl.k kd),some (Sl.o (((((bj ps).take i).filter (eS ps c)).map (·.nm)).map .str)),o4],⟨_,_,?_,?_,rfl⟩,?_,?_⟩
  ·intro z;rw [Nh,List.foldl_nil,Cz];simp [jV,bV]
  ·simp [cN]
  ·rintro i z δ hz ⟨kd,o4,hk,hl,rfl⟩;rw [LD,LD] at hz;cases hz':(bj ps)[i]? with
   | none=>rw [hz'] at hz;cases hz
   | some o=>
    rw [hz'] at hz;cases hz;have ho:o∈ps:=fk.mp (LQ hz');have hi:i < 41:=by
     have:=(Lz.mp hz').1;rw [kZ] at this;omega
    walk_at "d";refine⟨xs,o,rfl,gx,by rw [hps];exact ho,_,rfl,by rw [Lm,Lm,hps];have:=oi (c:=o) gd;omega,?_⟩;rw [hps];refine cI (enc:=Lp) (λ_=>true) (λz=>.bool (bV kd (.inr z)).isSome) (λx hx R S h=>?_) ?_
    ·walk_at "d";rw [R3 rfl] at h;exact h
    ·rw [gG];have key:((cD ps o).map λp=>(bV kd (.inr p.nm)).isSome).any id=eS ps c o:=by
      cases e:eS ps c o with
      | true=>
       obtain⟨b,hb,e2⟩:=bW.iff.mp (fZ.mp e);rw [Po,MQ];refine⟨b,(k8 ho).mpr hb,(hk b.nm).mpr ?_⟩;rcases e2 with e2 | e2
       ·exact .inl (by rw [e2])
       ·exact .inr ⟨b,Jg pw hz' (fk.mpr hb.1) hb.2.2.2,rfl,e2⟩
      | false=>
       rw [Po,QK];intro b hb z;have hb':=(k8 ho).mp hb;have:bW ps c o:=by
        rcases(hk b.nm).mp z with e2 | ⟨b',hb2,e3,e4⟩
        ·exact bW.iff.mpr ⟨b,hb',.inl (k6 gd.nd hb'.1 hc e2)⟩
        ·have:=k6 gd.nd e4.mem.2 hb'.1 e3;rw [this] at e4;exact bW.iff.mpr ⟨b,hb',.inr e4⟩
       rw [fZ.mpr this] at e;cases e
     have ts:(bj ps).take (i+1)=(bj ps).take i++[o]:=by rw [Mx,hz'];rfl
     have fl:((bj ps).take i).length<=41:=by rw [Mc];omega
     refine⟨(cD ps o).map λp=>(bV kd (.inr p.nm)).isSome,by rw [LH,LH];rfl,?_⟩;cases e:eS ps c o with
     | true=>
      rw [R3 (key.trans e)];refine⟨R0,by rw [Lm,Lm];have:=Mo (eS ps c) ((bj ps).take i);omega,_,λz=>?_,?_,rfl,?_,_,rfl⟩
      ·rw [Cz,hk z,ts];constructor
       ·rintro((h | ⟨b,hb,e1,e2⟩) | h)
        ·exact .inl h
        ·exact .inr ⟨b,MF _ hb,e1,e2⟩
        ·exact .inr ⟨o,R5,h.symm,fZ.mp e⟩
       ·rintro(h | ⟨b,hb,e1,e2⟩)
        ·exact .inl (.inl h)
        ·rcases LI.mp hb with hb | hb
         ·exact .inl (.inr ⟨b,hb,e1,e2⟩)
         ·rw [LX] at hb;exact .inr (by rw [<-e1,hb])
      ·have:=J7 (kd:=kd) (k:= .inr o.nm) (d:= .bool true);omega
      ·rw [ts,NP,Ms,e,R3 rfl,Q9,LS,LS];rfl
     | false=>
      rw [R1 (λz=>Lx ((key.trans e).symm.trans z))];refine⟨_,λz=>?_,R0,rfl,?_,_,rfl⟩
      ·rw [hk z,ts];constructor
       ·rintro(h | ⟨b,hb,e1,e2⟩)
        ·exact .inl h
        ·exact .inr ⟨b,MF _ hb,e1,e2⟩
       ·rintro(h | ⟨b,hb,e1,e2⟩)
        ·exact .inl h
        ·rcases LI.mp hb with hb | hb
         ·exact .inr ⟨b,hb,e1,e2⟩
         ·rw [LX] at hb;rw [hb] at e2;rw [fZ.mpr e2] at e;cases e
      ·rw [ts,NP,Ms,e,R1 Lx,Q9,Mw]
  ·rintro δ ⟨kd,o4,hk,hl,rfl⟩;walk_at "d";rw [Lm,Lm,L3 (Lr _)];exact q
def J9:List R6->(R6->Prop)->Prop:=λds Q=>∃(xs:List De)(n:Int)(c:Pp),ds=[.tuple (xs.map De.enc),.int n,.str c.nm]/\dF xs/\c∈ai xs/\Q (.tuple ((dY (bC xs n) (cA (ai xs) c)).map .str))
theorem CB(T:Txt K mg t):aF P w K mg base CX0 7 t.a_X t.d_X ["deeds","day","paper"] (bf K J9):=by
 have G_U:=@um P w _ _ base _ T;have G_R:=@J5 P w _ _ base _ T;have G_W:=@JZ P w _ _ base _ T;refine T.F_X.F.okD IK (λds Q h=>?_) (λ_ _ _ _ H O ds Q E hr h=>?_)
 ·obtain⟨xs,n,c,rfl,_⟩:=h;rfl
 ·obtain⟨xs,n,c,rfl,g,hc,q⟩:=h;refine'⟨_,?A,?B⟩
  case A=>
   refine' az ?C
   case' C=>refine' aH ?D
   case D=>exact(aq G_W hr T.F_W (aa (aq G_U hr T.F_U (aa (dv 0) (aa (dv 1) ag))) (aa (aq G_R hr T.F_R (aa (dv 0) (aa (dv 2) ag))) ag)))
  case B=>
  clear hr T G_U G_R G_W;walk_at "d";exact⟨xs,n,rfl,g,λhok=>⟨xs,c,rfl,g.gd.gx,hc,_,_,rfl,hok,J3 g.gd.gx.gp hc,q⟩⟩
theorem CC{H H1:Hp}{p:R8}(hp:H p=some (fL p))(h:∀b o,b≠p->H b=some o->H1 b=some o):ao H (ak H1 p (fL p)):=λb o e=>by
 by_cases hb:b=p
 ·subst hb;rw [bb,<-hp,e]
 ·rw [aD hb];exact h b o hb e
theorem jW(T:Txt K mg t):aF P w K mg base CX0 1 t.a_e t.d_e ["_law_purse_here","_law_many"] (bf K qS):=by
 refine T.F_e.F.ok tY (λvs H Q E h=>?_) (λcdv A outer s H vs Q E hr h=>?_)
 ·obtain⟨O,ds,Qd,_,r,⟨z,rfl,_⟩,_⟩:=h;exact r.length
 ·obtain⟨O,ds,Qd,tr,r,⟨z,rfl,z0,z1,qq⟩,k⟩:=h;cases r with
  | cons r1 r2=>
   cases r2 with
   | cons r2 r3=>
    cases r3;cases r2;cases r1 with
    | @purse p hp hn=>
     refine⟨_,bJ.purse (cu (lJ (aX bz (fK bE (pv 0) aV (λ_ _=>rfl)) aV) (oN (pv 0) aV pj))
   (cu (cV (i:=2) tY.nd rfl R4 (fK bE (pv 0) aV (λ_ _=>rfl)))
   (cu (lJ (aX d3 (aX bz (aX eo (pv 2) (aX bz (aX d3 (pv 2) aV) aV)) (aX eo aV (fK bE (pv 0) aV (λ_ _=>rfl)))) aV) (oN (pv 0) aV pj))
   (cu (iM (gn vF (fK bE (pv 0) aV (λ_ _=>rfl)) aV (aE _)) (cu (lJ (bN Eg rfl T.n_divmod FH (bw (fK bE (pv 0) aV (λ_ _=>rfl)) (bw (pv 1) bX))) (gi (n:=2) rfl (cw (oN (pv 0) aV pj) (cw (aI (i:=3) tY.nd rfl R4) gh))))
   (c9 (dG (pv 3)))) iL)
   (c9 (dG (aX d3 (aX gM (fK bE (pv 0) aV (λ_ _=>rfl)) aV) (pv 1)))))))),p,hp,λa b c=>?_⟩
     walk_at "a";refine ju (aN.of bb) rfl ⟨c,rfl,p,[.int a,.int b,.int c],2,2,rfl,rfl,bb,rfl,?_⟩;refine ju (aN.of bb) rfl ⟨a,rfl,a,rfl,.inr ⟨R0,R0⟩,?_⟩;refine ju (aN.of bb) rfl ⟨c+1,rfl,p,[.int a,.int b,.int (c+1)],0,0,rfl,rfl,bb,rfl,?_⟩;generalize (a*(a % 44497+21701)+86243*(c+1))% 2147483579=a';refine ju (aN.of bb) rfl ⟨b,rfl,?_⟩;split
     ·refine ju (aN.of bb) rfl ⟨b,rfl,z0,R0,λq hq=>?_⟩;have hpq:p≠q:=cE bb hq;refine⟨_,aW.of bb,rfl,_,_,rfl,p,[.int a',.int b,.int (c+1)],1,1,rfl,rfl,by rw [aD hpq,bb];rfl,rfl,?_⟩;refine⟨_,_,rfl,rfl,⟨_,_,_,bb⟩,k _ _ _ (qq (b % z) (Ra _ R0) (QH _ z0)) (CC hp λx o hx e=>?_) (.int _)⟩;have hxq:x≠q:=λy=>by
       subst y;rw [aD hx,aD hx,aD hx] at hq;rw [hq] at e;cases e
      rw [aD hx,aD hxq,aD hx,aD hx,aD hx];exact e
     ·refine ju (aN.of bb) rfl ⟨a',rfl,z0,⟨_,_,_,bb⟩,k _ _ _ (qq (a' / 16 % z) (Ra _ R0) (QH _ z0)) (CC hp λx o hx e=>?_) (.int _)⟩;rw [aD hx,aD hx,aD hx];exact e
def Ka:List R6->(R6->Prop)->Prop:=λds Q=>∃c:Int,ds=[.int c]/\Q fu
theorem CD(T:Txt K mg t):aF P w K mg base CX0 1 t.a_d t.d_d ["_law_cell_here"] (bf K Ka):=by
 refine T.F_d.F.ok tX (λvs H Q E h=>?_) (λcdv A outer s H vs Q E hr h=>?_)
 ·obtain⟨O,ds,Qd,_,r,⟨z,rfl,_⟩,_⟩:=h;exact r.length
 ·obtain⟨O,ds,Qd,tr,r,⟨c,rfl,qq⟩,k⟩:=h;cases r with
  | cons r1 r2=>
   cases r2;cases r1;refine⟨_,bJ.newPurse (cu (cV (i:=1) tX.nd rfl R4 aV)
   (cu (iM (PW.pt (uW (gn lP (pv 0) aV (aE _)) (uU (gn vG (pv 0) (aX D8 aV aV) (aE _))))) (c9 (cV (i:=1) tX.nd rfl R4 (bN Ef rfl T.n_abs PyProof.Rows.boot_abs (bw (pv 0) bX)))) iL)
   (c9 (dG (vU (bw (aX d3 (pv 0) aV) (bw (pv 1) (bw aV bX)))))))),?_⟩
   walk_at "a";have fin:∀(x y z:Int)(p:R8),H p=none->(∃u v w,ak H p (HO.lst [V.int x,V.int y,V.int z]) p=some (HO.lst [V.int u,V.int v,V.int w]))/\Q (V.ref p) (ak (ak H p (HO.lst [V.int x,V.int y,V.int z])) p (fL p)):=λx y z p hp=>
    ⟨⟨_,_,_,bb⟩,k _ _ _ qq (λb o e=>by rw [aD (cE e hp),aD (cE e hp)];exact e) (.purse bb λh=>tr p h hp)⟩
   have sl:3<=Sb:=RZ
   split
   ·rw [R3 trivial];exact⟨sl,fin _ _ _⟩
   ·refine⟨RZ,?_⟩;split
    ·exact⟨sl,fin _ _ _⟩
    ·exact⟨sl,fin _ _ _⟩
end
theorem CF:aY (av kW) ["_law_purse_here","_law_many","_law_letters","_law_stem","_law_at","_law_first","_law_step"] ["_law_k","_law_letters","_law_purse_here"] 1 [2,0] ⟨LA,[ (Ln ".0",TQ),(Ln "_law_k",TQ),(Ln "_law_take",Me),(Ln "_law_letters",LK),(Ln "_law_purse_here",LK)],false,false,[]⟩:= .of
theorem CG:aY (av kW) ["_law_purse_here","_law_many","_law_letters","_law_stem","_law_at","_law_first","_law_step"] ["_law_k","_law_stem","_law_letters","_law_at","_law_first","_law_step"] 1 [3,2,4,5,6] ⟨LA,[ (Ln ".0",TQ),(Ln "_law_k",TQ),(Ln "_law_at",LK),(Ln "_law_first",LK),(Ln "_law_letters",LK),(Ln "_law_stem",LK),(Ln "_law_step",LK)],false,false,[]⟩:= .of
theorem CH:aY (av nN) ["_law_year_here","_law_month_here","_law_number"] ["_law_k","_law_year_here"] 1 [0] ⟨LA,[ (Ln ".0",TQ),(Ln "_law_k",TQ),(Ln "_law_month",Me),(Ln "_law_year_here",LK)],false,false,[]⟩:= .of
section
variable {P:Sk} {w:Sm} {K:Ll} {mg:Str->Option R7} {base:Sn} {t:cC}
def Kb:List R6->(R6->Prop)->Prop:=λds Q=>∃(ns:List Int)(k:Int),ds=[eI (ns.map .int),.int k]/\0<=k/\k<=1000/\∀c:Int,Q (.int c)
theorem CI(T:Txt K mg t):aF P w K mg base CX0 1 t.a_c t.d_c ["_law_script","_law_k"] (bf K Kb):=by
 refine T.F_c.F.okD nW (λds Q h=>?_) (λ_ _ _ _ H O ds Q E hr h=>?_)
 ·obtain⟨ns,k,rfl,_⟩:=h;rfl
 ·obtain⟨ns,k,rfl,k0,k1,q⟩:=h;refine'⟨_,?A,?B⟩
  case A=>
   refine' ar ?C ?D
   case C=>
    refine' bH ?E ?F bG
    case E=>exact(aP lP jA (dv 1) (PE.imp (bN eV rfl T.n_len MA (aR (dv 0) aO)) (bt wR)) (aE _))
    case' F=>refine' az ?G
    case G=>exact(aH (au bE Hj (dv 0) (dv 1)))
   case' D=>refine' ar ?H ?I
   case H=>
    refine' bu (i:=2) nW.nd rfl R4 ?J (hs:=i9)
    case J=>exact(aQ d3 dz (aQ eo dz af (aQ bz bQ (aQ bz bQ (aQ eo dz (dv 1) (dv 1)) (aQ eo dz af (dv 1))) af)) af)
   case' I=>refine' ar ?K ?L
   case K=>
    refine' qt Mj rfl (fe (Hk (df (dv 0)) eM (cQ af))) ?M aK ?N
    case M=>exact(aI (i:=3) nW.nd rfl R4)
    case' N=>refine' az ?O
    case' O=>refine' bu (i:=2) nW.nd rfl R4 ?P (hs:=i9)
    case P=>exact(aQ d3 dz (aQ bz bQ (aQ eo dz (dv 2) af) (dv 3)) af)
   case' L=>refine' az ?Q
   case Q=>exact(aH (dv 2))
  case B=>
  clear hr T;walk_at "d";refine⟨_,rfl,?_⟩;rw [Lm];split
  ·rename_i hlt;obtain⟨j,rfl⟩:=My k0;have hj:j < ns.length:=R0
   exact⟨_,rfl,.int ns[j],eU (by simp [hj]),q _⟩
  ·refine⟨.inl ⟨R0,R0⟩,_,rfl,λi δ=>∃(st:Int)(o:Option Sl),δ=[some (Sl.v (eI (ns.map .int))),some (Sl.v (.int k)),some (Sl.v (.int st)),o],⟨_,_,rfl⟩,?_,?_⟩
   ·rintro i x δ hx ⟨st,o,rfl⟩;have hm:=LQ hx;unfold cz at hm;have hm2:=Ql (MG hm);obtain⟨c,_,rfl⟩:=Lv.mp hm2;walk_at "d"
    first | exact⟨_,_,rfl,rfl⟩ | exact⟨_,_,rfl⟩ | exact⟨_,rfl,_,rfl⟩ | exact⟨_,rfl⟩ | exact⟨_,_,trivial⟩ | exact⟨⟨_,rfl⟩,⟨_,rfl⟩⟩
   ·rintro δ ⟨st,o,rfl⟩;walk_at "d";exact q _
def Kc:List R6->(R6->Prop)->Prop:=λds Q=>∃y m:Int,ds=[.int y,.int m]/\1<=m/\m<=12/\Q (.int (aU y m))
theorem CJ(T:Txt K mg t):aF P w K mg base CX0 1 t.a_g t.d_g ["_law_year_here","_law_month_here"] (bf K Kc):=by
 refine T.F_g.F.okD Bt (λds Q h=>?_) (λ_ _ _ _ H O ds Q E hr h=>?_)
 ·obtain⟨y,m,rfl,_⟩:=h;rfl
 ·obtain⟨y,m,rfl,m1,m2,q⟩:=h;refine'⟨_,?A,?B⟩
  case A=>
   refine' ar ?C ?D
   case C=>
    generalize hG2:QF _ _ _ _=eg2;refine' bu (i:=2) Bt.nd rfl R4 ?E (hs:=by subst hG2;exact fh)
    case' E=>subst hG2
    exact(PE.imp (cB pb rfl T.n_int pI (aR (F0 (fv (cx hr.units) cy (df (aQ d3 dz (dv 0) af)) (df af) (aE _)) (mn (pT (fv (cx hr.units) cy (df (aQ d3 dz (dv 0) af)) (df af) (aE _)) (mn (fv (gA hr.units) gB (df (aQ d3 dz (dv 0) af)) (df af) (aE _)))))) aO)) (bt qQ))
   case' D=>refine' az ?F
   case' F=>generalize hG5:Rl _ _ _=eg5
   refine' aH ?G
   case' G=>subst hG5
   refine' eN bE bR (df ?H) ?I
   case H=>
    refine' fe ?J
    case' J=>refine' cL ?K
    case' K=>refine' aa af ?L
    case' L=>refine' aa ?M ?N
    case M=>exact(aQ bz bQ af (dv 2))
    case N=>refine' jD (ds:=[.int 31,.int 30,.int 31,.int 30,.int 31,.int 31,.int 30,.int 31,.int 30,.int 31]) (by rfl)
   case I=>exact(df (aQ dh bQ (dv 1) af))
  case B=>
  clear hr T;walk_at "d";have ma:=ng y;have key:∀l2:Int,l2=aU y 2->∃d,atI [Ly 31,Ly l2,Ly 31,Ly 30,Ly 31,Ly 30,Ly 31,Ly 31,Ly 30,Ly 31,Ly 30,Ly 31] (m - 1)=some d/\Q d:=λl2 e=>by
   obtain⟨a1,a3,a4,a5,a6,a7,a8,a9,a10,a11,a12⟩:=ma;rcases nh m1 m2 with z | z | z | z | z | z | z | z | z | z | z | z <;> subst z
   ·rw [a1] at q;exact⟨_,rfl,q⟩
   ·rw [<-e] at q;exact⟨_,rfl,q⟩
   ·rw [a3] at q;exact⟨_,rfl,q⟩
   ·rw [a4] at q;exact⟨_,rfl,q⟩
   ·rw [a5] at q;exact⟨_,rfl,q⟩
   ·rw [a6] at q;exact⟨_,rfl,q⟩
   ·rw [a7] at q;exact⟨_,rfl,q⟩
   ·rw [a8] at q;exact⟨_,rfl,q⟩
   ·rw [a9] at q;exact⟨_,rfl,q⟩
   ·rw [a10] at q;exact⟨_,rfl,q⟩
   ·rw [a11] at q;exact⟨_,rfl,q⟩
   ·rw [a12] at q;exact⟨_,rfl,q⟩
  have e2:=nc y;unfold ld at e2;have li:=kR y;split
  ·rename_i h;have h:=eq_of_beq h;exact key _ (by rw [e2,R3 (li.mpr (.inl h))])
  ·rename_i h;have h:¬y % 400=0:=λe=>h (by rw [e];rfl);split
   ·rename_i h4;have h4:=eq_of_beq h4;by_cases h100:y % 100=0
    ·have nl:¬fB y=true:=λz=>by rcases li.mp z with z | z;exact h z;exact z.2 h100
     have nb:¬(y % 100==0)=false:=by rw [h100];decide
     exact key _ (by rw [e2,R1 nl,R1 nb])
    ·exact key _ (by rw [e2,R3 (show fB y=true from li.mpr (.inr ⟨h4,h100⟩)),R3 (show(y % 100==0)=false by simpa using h100)])
   ·rename_i h4;have h4:¬y % 4=0:=λe=>h4 (by rw [e];rfl);exact key _ (by rw [e2,R1 (λz=>by rcases li.mp z with z | z;exact h z;exact h4 z.1)])
def Kd:List R6->(R6->Prop)->Prop:=λds Q=>∃y:Int,ds=[.int y]/\Q (.int (bY y))
theorem Ke(T:Txt K mg t):aF P w K mg base CX0 1 t.a_h t.d_h ["_law_year_here"] (bf K Kd):=by
 refine T.F_h.F.okD Bu (λds Q h=>?_) (λ_ _ _ _ H O ds Q E hr h=>?_)
 ·obtain⟨y,rfl,_⟩:=h;rfl
 ·obtain⟨y,rfl,q⟩:=h;refine'⟨_,?A,?B⟩
  case A=>
   refine' ar ?C ?D
   case C=>exact(bu (i:=0) Bu.nd rfl R4 (aQ dh bQ (dv 0) af))
   case' D=>refine' az ?E
   case' E=>generalize hG4:Rb _ _ _ _=eg4
   refine' aH ?F
   case' F=>subst hG4
   exact(aQ dh bQ (aQ bz bQ (aQ dh bQ (aQ bz bQ (aQ eo dz af (aQ dh bQ (dv 0) af)) (aQ gM dz (dv 0) af)) (aQ gM dz (dv 0) af)) (aQ gM dz (dv 0) af)) af)
  case B=>
  clear hr T;walk_at "d";have e:365*(y - 1 - 1999)+(y - 1)/ 4 - (y - 1)/ 100+(y - 1)/ 400 - 484=bY y:=by
   unfold bY lb;omega
  rw [e];exact q
def CK:List R6->(R6->Prop)->Prop:=λds Q=>∃y m n:Int,ds=[.int y,.int m,.int n]/\1<=m/\m<=12/\Q (.int (fV y m n))
theorem Kf(T:Txt K mg t):aF P w K mg base CX0 2 t.a_i t.d_i ["_law_year_here","_law_month_here","_law_number"] (bf K CK):=by
 have G_h:=@Ke P w _ _ base _ T;have G_g:=@CJ P w _ _ base _ T;refine T.F_i.F.okD IP (λds Q h=>?_) (λ_ _ _ _ H O ds Q E hr h=>?_)
 ·obtain⟨y,m,n,rfl,_⟩:=h;rfl
 ·obtain⟨y,m,n,rfl,m1,m2,q⟩:=h;refine'⟨_,?A,?B⟩
  case A=>
   refine' az ?C
   case' C=>refine' aH ?D
   case D=>exact(aQ dh bQ (aQ bz bQ (aQ bz bQ (aq G_h hr T.F_h (aa (dv 0) ag)) (PE.imp (bN (wC rfl) rfl T.n_sum Qa (aR (fe (GW rfl CH rfl T.n_range (aR af (aR (dv 1) aO)) aK cg RZ (λ_ _ _ _=>(aI (i:=0) CH.nd rfl R4)) (λ_ _ _ _=>d6) (λ_ _ _ _=>(aq G_g hr T.F_g (aa (dv 1) (aa (dv 0) ag)))))) aO)) (bt HI))) (dv 2)) af)
  case B=>
  clear hr T G_h G_g;walk_at "d";refine⟨y,rfl,by have:((16777216:Nat):Int)=16777216:=rfl;omega,R0,R0,?_⟩;refine xH (λx=>match x with | .int i=>.int (aU y i) | _=>.none) (λx hx R hR=>?_) ?_
  ·obtain⟨i,hi⟩:=Ni hx;obtain⟨hlt,rfl⟩:=i4 hi;walk_at "d";exact⟨y,1+(i:Int),rfl,R0,R0,hR⟩
  ·refine⟨(Mv (m - 1).toNat).map λ(i:Nat)=>aU y (1+(i:Int)),by unfold gU;rw [LH,LH];rfl,_,rfl,?_⟩;exact q
def lz(ss:List Str):Prop:=∀s∈ss,bS 20 s
def uu:List Str:=["paper","rule","keep","gone","deep","first","kind","leave"]
theorem Kg:∀z∈uu,bS 20 z:=by
 intro z hz;have a:uu.all (λz=>LB z && decide (z.length<=20))=true:=cp
 have:=Pn.mp a z hz;simp only [Mf,decide_eq_true_eq] at this;exact⟨this.1,this.2⟩
def oB(st:Str)(at0 fs sp:Int)(k:Nat):Str:=Txt.slice st none (some at0)++⟨#[dU ((fs+sp*(0+(k:Int)))% 26)]⟩++Txt.slice st (some at0) none
theorem Kh{st:Str}{at0 fs sp:Int}{a b:Nat}(h:oB st at0 fs sp a=oB st at0 fs sp b):dU ((fs+sp*(0+(a:Int)))% 26)=dU ((fs+sp*(0+(b:Int)))% 26):=by
 have z:=congrArg (λs:Str=>s.cps.toList) h;unfold oB at z;simp only [qZ,ON] at z;have z:=List.append_cancel_left (List.append_cancel_right z);exact(NH z).1
def Ki:List R6->(R6->Prop)->Prop:=λds Q=>ds=[fu,.int 8]/\∀ss:List Str,ss.length=8->lz ss->ss.Nodup->Q (.list (ss.map .str))
theorem Kj(T:Txt K mg t):aF P w K mg base CX0 2 t.a_f t.d_f ["_law_purse_here","_law_many"] (bf K Ki):=by
 have G_e:=@jW P w _ _ base _ T;refine T.F_f.F.okD jP (λds Q h=>?_) (λ_ _ _ _ H O ds Q E hr h=>?_)
 ·obtain⟨rfl,_⟩:=h;rfl
 ·obtain⟨rfl,q⟩:=h;refine'⟨_,?A,?B⟩
  case A=>
   refine' ar ?C ?D
   case C=>exact(bu (i:=2) jP.nd rfl R4 aT)
   case' D=>refine' ar ?E ?F
   case E=>
    refine' bu (i:=3) jP.nd rfl R4 ?G (hs:=fh)
    case G=>exact(Gb aT (df (fe (qv rfl CF rfl T.n_range (aR (aq G_e hr T.F_e (aa (dv 0) (aa af ag))) aO) aK cg RZ (λ_ _ _ _=>(aI (i:=0) CF.nd rfl R4)) (λ_ _ _ _=>d6) (λ_ _ _ _=>(au we wV (dv 1) (aq G_e hr T.F_e (aa (dv 2) (aa af ag)))))))))
   case' F=>refine' ar ?H ?I
   case H=>
    refine' bu (i:=4) jP.nd rfl R4 ?J (hs:=fh)
    case J=>exact(aq G_e hr T.F_e (aa (dv 0) (aa (aQ bz bQ (PE.imp (bN EZ rfl T.n_len MA (aR (dv 3) aO)) (bt GX)) af) ag)))
   case' I=>refine' ar ?K ?L
   case K=>
    generalize hE10_0:Rm _ _=ee10_0;exact(mz (bp (aa (aq G_e hr T.F_e (aa (dv 0) (aa af ag))) (aa (au bE bR (fe (qY (ds:=[.int 1,.int 3,.int 5,.int 7,.int 9,.int 11]) (by first | (subst hE10_0;rfl)))) (aq G_e hr T.F_e (aa (dv 0) (aa af ag)))) ag))) (gi (n:=2) rfl (cw (aI (i:=5) jP.nd rfl R4) (cw (aI (i:=6) jP.nd rfl R4) gh))) (gX (cG aK (cG aK gW))))
   case' L=>refine' ar ?M ?N
   case M=>
    refine' bH ?O ?P bG
    case O=>exact(aP (cx hr.units) cy (aq G_e hr T.F_e (aa (dv 0) (aa af ag))) af (aE _))
    case' P=>refine' az ?Q
    case' Q=>generalize hE14_0:Rm _ _=ee14_0
    exact(aH (fe (jB (df (fe (qY (ds:=[.str "paper",.str "rule",.str "keep",.str "gone",.str "deep",.str "first",.str "kind",.str "leave"]) (by first | (subst hE14_0;rfl))))) eM (cQ (dv 1)))))
   case' N=>refine' az ?R
   case' R=>refine' aH ?S
   case' S=>refine' fe ?T
   case T=>exact(qv rfl CG rfl T.n_range (aR (dv 1) aO) aK cg RZ (λ_ _ _ _=>(aI (i:=0) CG.nd rfl R4)) (λ_ _ _ _=>d6) (λ_ _ _ _=>(aQ lS mE (aQ lS mE (mF (df (dv 1)) eM (cQ (dv 3))) (au we wV (dv 2) (aQ d3 dz (aQ bz bQ (dv 4) (aQ eo dz (dv 5) (dv 0))) af))) (mF (df (dv 1)) (cQ (dv 3)) eM))))
  case B=>
  clear hr T G_e;walk_at "d";refine⟨8,rfl,RZ,RZ,λj j0 j8=>⟨j,rfl,R0,by have:((16777216:Nat):Int)=16777216:=rfl;omega,?_⟩⟩;refine⟨λi acc=>∃ys:List Str,acc=ys.map .str/\ys.length=i/\∀y∈ys,bS 1 y,⟨[],rfl,rfl,R5⟩,?_,?_⟩
  ·rintro i z acc hz ⟨ys,rfl,hl,hg⟩;obtain⟨hi,rfl⟩:=i4 hz;walk_at "d";refine⟨26,rfl,RZ,RZ,λa a0 a1=>?_⟩;obtain⟨x,e1,_,x1⟩:=mM a0 a1;refine⟨_,rfl,cp,x,e1,ys++[⟨#[x]⟩],by rw [LS];rfl,by simp [hl],λz hz=>?_⟩;rcases LI.mp hz with h | h
   ·exact hg z h
   ·rw [LX] at h;rw [h];exact bS.chr x1
  ·rintro acc ⟨ys,rfl,hl,hg⟩;rw [kE] at hl;have gj:=bS.join hg;have sl:(ys.map λx=>x.length).sum<=ys.length:=by
    clear hl gj
    induction ys with
    | nil=>simp
    | cons y ys ih=>
     rw [Lq,Ru,LP];have:=(hg y R5).le;have:=ih λz hz=>hg z (by simp [hz]);omega
   have l7:ys.length<=7:=R0
   refine⟨ys,rfl,?_⟩;generalize hst:Txt.join (Lk "") ys=st;have gs:bS 7 st:=by rw [<-hst];exact gj.mono l7
   have e0:(Lk "").length=0:=cp
   have gl:=gs.le;refine⟨by rw [e0];omega,R0,_,rfl,R0,R0,λat0 a0 a1=>⟨26,rfl,RZ,RZ,λfs f0 f1=>⟨6,rfl,RZ,RZ,λsx s0 s1=>⟨_,rfl,?_⟩⟩⟩⟩;have six:∃sp:Int,atI [Ly 1,Ly 3,Ly 5,Ly 7,Ly 9,Ly 11] sx=some (.int sp)/\(0<=sp/\sp<=11)/\(sp=1\/sp=3\/sp=5\/sp=7\/sp=9\/sp=11):=by
    have:sx=0\/sx=1\/sx=2\/sx=3\/sx=4\/sx=5:=R0
    rcases this with h | h | h | h | h | h <;> subst h
    ·exact⟨1,rfl,RZ,RZ⟩
    ·exact⟨3,rfl,RZ,RZ⟩
    ·exact⟨5,rfl,RZ,RZ⟩
    ·exact⟨7,rfl,RZ,RZ⟩
    ·exact⟨9,rfl,RZ,RZ⟩
    ·exact⟨11,rfl,RZ,RZ⟩
   obtain⟨sp,hsp,⟨p0,p1⟩,p6⟩:=six;refine⟨_,hsp,8,rfl,RZ,RZ,λv v0 v1=>⟨fQ,?_⟩⟩;rw [i3];split
   ·exact q uu rfl Kg cp
   ·have g1:=gs.slice none (some at0);have g2:=gs.slice (some at0) none;have abr:∀i:Nat,dU ((fs+sp*(0+(i:Int)))% 26) < 0x110000/\atI fx.cps.toList ((fs+sp*(0+(i:Int)))% 26)=some (dU ((fs+sp*(0+(i:Int)))% 26)):=λi=>(GL R0 R0).symm;refine⟨RZ,λi acc=>acc=((Mv i).map λ(k:Nat)=>oB st at0 fs sp k).map .str,rfl,?_,?_⟩
    ·rintro i z acc hz rfl;obtain⟨hi,rfl⟩:=i4 hz;walk_at "d";obtain⟨x1,e1⟩:=abr i;have lx:(⟨#[dU ((fs+sp*(0+(i:Int)))% 26)]⟩:Str).length=1:=rfl;have l1:=g1.le;have l2:=g2.le;have ga:=(g1.append (bS.chr x1)).append g2;have gal:=ga.le;refine⟨R0,.inl ⟨R0,R0⟩,cp,_,e1,by rw [lx];omega,R0,by rw [xm,lx];omega,?_⟩;rw [OJ,LS,LS];rfl
    ·rintro acc rfl;rw [kE];refine q _ R5 (λz hz=>?_) ?_
     ·obtain⟨k,_,rfl⟩:=Lv.mp hz;exact((g1.append (bS.chr (abr k).1)).append g2).mono R0
     ·rw [ML,LO];refine MI.mpr λa b ha hb lt e=>?_;rw [QI,QI] at e;have hb:b < 8:=by simpa using hb
      have e2:=Kh e;have e3:=GN R0 R0 R0 R0 e2;rcases p6 with h | h | h | h | h | h <;> subst h <;> omega
end
theorem CL:aY (av nO) ["_law_purse_here","_law_word","_law_names_here","_law_kinds","_law_far","_law_day_here","_law_name","_law_some","_law_kind","_law_target"] ["_law_one","_law_purse_here"] 1 [0] ⟨LA,[ (Ln ".0",TQ),(Ln "_law_one",TQ),(Ln "_law_take",Me),(Ln "_law_purse_here",LK)],false,false,[]⟩:= .of
section
variable {P:Sk} {w:Sm} {K:Ll} {mg:Str->Option R7} {base:Sn} {t:cC}
def Kk:List R6->(R6->Prop)->Prop:=λds Q=>∃far:Int,ds=[fu,.int far]/\∀d:Int,0<=d->d < 100000->Q (.int d)
theorem oC{a b:R6}{i:Int}(h0:0<=i)(h1:i < 2):∃d,atI [a,b] i=some d/\(d=a\/d=b):=by
 have:i=0\/i=1:=R0
 rcases this with e | e <;> subst e
 ·exact⟨_,gZ,.inl rfl⟩
 ·exact⟨_,gE,.inr rfl⟩
theorem Kl{y m n:Int}(y0:2000<=y)(y1:y<=2269)(m1:1<=m)(m2:m<=12)(n1:1<=n)(n2:n<=aU y m):0<=fV y m n/\fV y m n < 100000:=by
 have ba:=sO (y:=y) m1 m2;have ld:=AV y;have ys:0<=bY y/\bY y<=98300:=by unfold bY lb;omega
 unfold fV;omega
theorem Km(T:Txt K mg t):aF P w K mg base CX0 3 t.a_j t.d_j ["_law_purse_here","_law_far"] (bf K Kk):=by
 have G_e:=@jW P w _ _ base _ T;have G_g:=@CJ P w _ _ base _ T;have G_i:=@Kf P w _ _ base _ T;refine T.F_j.F.okD Bv (λds Q h=>?_) (λ_ _ _ _ H O ds Q E hr h=>?_)
 ·obtain⟨far,rfl,_⟩:=h;rfl
 ·obtain⟨far,rfl,q⟩:=h;refine'⟨_,?A,?B⟩
  case A=>
   refine' ar ?C ?D
   case C=>
    refine' bH ?E ?F bG
    case E=>exact(aP (cx hr.units) cy (dv 1) af (aE _))
    case' F=>refine' az ?G
    case G=>exact(aH (aq G_e hr T.F_e (aa (dv 0) (aa af ag))))
   case' D=>refine' ar ?H ?I
   case H=>
    refine' bH ?J ?K bG
    case J=>exact(aP (cx hr.units) cy (aq G_e hr T.F_e (aa (dv 0) (aa af ag))) af (aE _))
    case' K=>refine' az ?L
    case L=>exact(aH (aq G_e hr T.F_e (aa (dv 0) (aa af ag))))
   case' I=>refine' ar ?M ?N
   case M=>exact(wL (i:=2) (j:=3) rfl Bv.nd rfl rfl RZ rfl rfl (aa (aQ bz bQ af (aq G_e hr T.F_e (aa (dv 0) (aa af ag)))) (aa (aQ bz bQ af (aq G_e hr T.F_e (aa (dv 0) (aa af ag)))) ag)) (by rfl))
   case' N=>refine' az ?O
   case' O=>refine' aH ?P
   case P=>exact(aq G_i hr T.F_i (aa (dv 2) (aa (dv 3) (aa (au bE bR (fe (cL (aa af (aa (aQ dh bQ (aq G_g hr T.F_g (aa (dv 2) (aa (dv 3) ag))) (aq G_e hr T.F_e (aa (dv 0) (aa af ag)))) ag)))) (aq G_e hr T.F_e (aa (dv 0) (aa af ag)))) ag))))
  case B=>
  clear hr T G_e G_g G_i;walk_at "d";split
  ·exact⟨41,rfl,RZ,RZ,λd d0 d1=>q d d0 R0⟩
  ·refine⟨2,rfl,RZ,RZ,λv v0 v1=>⟨fQ,?_⟩⟩;rw [i3];split
   ·exact⟨100000,rfl,RZ,RZ,λd d0 d1=>q d d0 d1⟩
   ·refine⟨270,rfl,RZ,RZ,λy y0 y1=>⟨_,rfl,12,rfl,RZ,RZ,λm m0 m1=>⟨_,rfl,?_⟩⟩⟩;refine⟨2000+y,1+m,rfl,R0,R0,4,rfl,RZ,RZ,λz z0 z1=>⟨_,rfl,_,rfl,2,rfl,RZ,RZ,λe e0 e1=>⟨_,rfl,?_⟩⟩⟩;have mb:=AY (y:=2000+y) (m:=1+m) R0 R0;have nb:∀n,1<=n->n<=aU (2000+y) (1+m)->CK [.int (2000+y),.int (1+m),.int n] Q:=λn n1 n2=>by
     have:=Kl (y:=2000+y) (m:=1+m) (n:=n) R0 R0 R0 R0 n1 n2;exact⟨_,_,_,rfl,R0,R0,q _ this.1 this.2⟩
    obtain⟨d,hd,hd'⟩:=oC (a:=Ly 1) (b:=Ly (aU (2000+y) (1+m) - z)) e0 e1;refine⟨d,hd,?_⟩;rcases hd' with h | h <;> rw [h]
    ·exact nb 1 R0 R0
    ·exact nb _ R0 R0
def CM(N:Str->Prop):cJ->Prop
 | .com=>True
 | .fst wd=>N wd
 | .lst wd=>N wd
def uw(N:Str->Prop):Pt->Prop
 | .two _ kd=>N kd
 | .five _ kd s _ _=>N kd/\CM N s
inductive cq (N:Str->Prop):De->Prop
 | pap {p:Pp}:N p.nm->N p.kd->(∀m∈p.ms,N m)->p.ms.length<=50->cq N (.pap p)
 | hap {d:Int} {nm wd:Str}:N nm->N wd->cq N (.oth (Lk "happens") d nm [.str wd])
 | rue {d:Int} {nm:Str} {pt:Pt}:N nm->uw N pt->pt.Ok->cq N (.oth (Lk "rule") d nm [pt.enc])
 | fin {d:Int} {nm:Str}:N nm->cq N (.oth (Lk "end") d nm [])
 | lift {d:Int} {nm:Str}:N nm->cq N (.oth (Lk "lift") d nm [])
 | hold {d:Int} {nm:Str} {ip:Bool} {tn:Str} {dp:Bool}:N nm->N tn->cq N (.oth (Lk "hold") d nm [bZ ip tn,.bool dp])
 | leave {d:Int} {nm kd:Str}:N nm->N kd->cq N (.oth (Lk "leave") d nm [.str kd])
def jX(N:Str->Prop):Prop:=∀s,N s->LB s=true
structure iF (N:Str->Prop) (x:De):Prop where
 sh:cq N x
 d0:0<=x.d/\x.d < 100000
theorem cq.nm{N:Str->Prop}{x:De}(h:cq N x):N x.nm:=by cases h <;> assumption
theorem lA{ip:Bool}{tn:Str}(h:LB tn=true):bO 2 (bZ ip tn):=by
 cases ip
 ·exact cj (aJ (bB cp) (aJ (bB h) cT))
 ·exact cj (aJ (bB cp) (aJ (bB h) cT))
theorem cq.lay{N:Str->Prop}{x:De}(n:jX N)(h:cq N x):bO 4 x.enc:=by
 cases h with
 | pap h1 h2 h3 h4=>exact cj (aJ (bB cp) (aJ fy (aJ (bB (n _ h1)) (aJ (bB (n _ h2)) (aJ ((cj (n:=1) (jG λm hm=>n m (h3 m hm))).mono RZ) cT)))))
 | hap h1 h2=>exact cj (aJ (bB cp) (aJ fy (aJ (bB (n _ h1)) (aJ (bB (n _ h2)) cT))))
 | rue h1 h2 h3=>exact cj (aJ (bB cp) (aJ fy (aJ (bB (n _ h1)) (aJ (Pt.lay h3) cT))))
 | fin h1=>exact cj (aJ (bB cp) (aJ fy (aJ (bB (n _ h1)) cT)))
 | lift h1=>exact cj (aJ (bB cp) (aJ fy (aJ (bB (n _ h1)) cT)))
 | hold h1 h2=>exact cj (aJ (bB cp) (aJ fy (aJ (bB (n _ h1)) (aJ ((lA (n _ h2)).mono RZ) (aJ xP cT)))))
 | leave h1 h2=>exact cj (aJ (bB cp) (aJ fy (aJ (bB (n _ h1)) (aJ (bB (n _ h2)) cT))))
theorem cq.wo{N:Str->Prop}{x:De}(h:cq N x):LB x.w=true:=by
 cases h <;> (first | (show LB (Lk "paper")=true;decide+kernel) | (show LB (Lk _)=true;decide+kernel))
theorem cq.imp{N M:Str->Prop}{x:De}(i:∀s,N s->M s)(h:cq N x):cq M x:=by
 cases h with
 | pap h1 h2 h3 h4=>exact .pap (i _ h1) (i _ h2) (λm hm=>i m (h3 m hm)) h4
 | hap h1 h2=>exact .hap (i _ h1) (i _ h2)
 | @rue d nm pt h1 h2 h3=>
  refine .rue (i _ h1) ?_ h3;cases pt with
  | two w kd=>exact i _ h2
  | five w kd s k u=>
   refine⟨i _ h2.1,?_⟩;cases s with
   | com=>trivial
   | fst wd=>exact i _ h2.2
   | lst wd=>exact i _ h2.2
 | fin h1=>exact .fin (i _ h1)
 | lift h1=>exact .lift (i _ h1)
 | hold h1 h2=>exact .hold (i _ h1) (i _ h2)
 | leave h1 h2=>exact .leave (i _ h1) (i _ h2)
structure ux (ns ks:List Str) (far:Int):Prop where
 nl:ns.length=8
 no:lz ns
 nn:ns.Nodup
 k0:2<=ks.length
 k1:ks.length<=3
 ko:lz ks
 ki:∀k∈ks,k∈ns
 f0:0<=far
 f1:far<=1
def Kn:List R6->(R6->Prop)->Prop:=λds Q=>∃(wo:Str)(ns ks:List Str)(far:Int),ds=[fu,.str wo,.list (ns.map .str),.list (ks.map .str),.int far]/\LB wo=true/\ux ns ks far/\∀pt:Pt,pt.Ok->uw (·∈ns) pt->Q pt.enc
theorem hX{ss:List Str}{i:Int}(h0:0<=i)(h1:i < ss.length):∃s∈ss,atI (ss.map Lp) i=some (.str s):=by
 obtain⟨k,rfl⟩:=My h0;have hk:k < ss.length:=R0
 exact⟨ss[k],M8 hk,eU (by simp [hk])⟩
theorem Ko(T:Txt K mg t):aF P w K mg base CX0 2 t.a_k t.d_k ["_law_purse_here","_law_word","_law_names_here","_law_kinds","_law_far"] (bf K Kn):=by
 have G_e:=@jW P w _ _ base _ T;refine T.F_k.F.okD nX (λds Q h=>?_) (λ_ _ _ _ H O ds Q E hr h=>?_)
 ·obtain⟨wo,ns,ks,far,rfl,_⟩:=h;rfl
 ·obtain⟨wo,ns,ks,far,rfl,hw,dr,q⟩:=h;refine'⟨_,?A,?B⟩
  case A=>
   refine' ar ?C ?D
   case C=>
    refine' bu (i:=5) nX.nd rfl R4 ?E (hs:=kL)
    case' E=>refine' eN bE bR (df (dv 3)) ?F
    case F=>exact(df (aq G_e hr T.F_e (aa (dv 0) (aa (PE.imp (bN eV rfl T.n_len MA (aR (dv 3) aO)) (bt fP)) ag))))
   case' D=>refine' ar ?G ?H
   case G=>
    refine' bH ?I ?J bG
    case I=>exact(aP (rp hr) i8 (dv 1) (bp (aa aT (aa aT ag))) rfl)
    case' J=>refine' az ?K
    case K=>exact(aH (bp (aa (dv 1) (aa (dv 5) ag))))
   case' H=>refine' ar ?L ?M
   case L=>
    generalize hG10:Rl _ _ _=eg10;refine' bu (i:=6) nX.nd rfl R4 ?N (hs:=by subst hG10;exact kL)
    case' N=>subst hG10
    refine' eN bE bR (df ?O) ?P
    case O=>
     refine' fe ?Q
     case' Q=>refine' cL ?R
     case' R=>refine' aa ?S ?T
     case S=>exact(bp (aa aT ag))
     case' T=>refine' aa ?U ?V
     case U=>exact(bp (aa aT (aa (au bE bR (dv 2) af) ag)))
     case' V=>refine' aa ?W ag
     case' W=>refine' bp ?X
     case' X=>refine' aa aT ?Y
     case' Y=>refine' aa ?Z ag
     case' Z=>refine' eN bE bR (df (dv 2)) ?a
     case a=>exact(df (aQ bz bQ af (aq G_e hr T.F_e (aa (dv 0) (aa af ag)))))
    case P=>exact(df (aq G_e hr T.F_e (aa (dv 0) (aa af ag))))
   case' M=>refine' ar ?b ?c
   case b=>
    refine' bH ?d ?e bG
    case d=>exact(aP (cx hr.units) cy (dv 4) af (aE _))
    case' e=>refine' az ?f
    case' f=>refine' aH ?g
    case' g=>refine' bp ?h
    case' h=>refine' aa (dv 1) ?i
    case' i=>refine' aa (dv 5) ?j
    case' j=>refine' aa (dv 6) ?k
    case' k=>refine' aa ?l ?m
    case l=>exact(aq G_e hr T.F_e (aa (dv 0) (aa af ag)))
    case m=>refine' aa aT ag
   case' c=>refine' ar ?n ?o
   case n=>
    refine' bu (i:=7) nX.nd rfl R4 ?p (hs:=fh)
    case p=>exact(aq G_e hr T.F_e (aa (dv 0) (aa (au bE bR (fe (cL (jD (ds:=[.int 1000,.int 14,.int 30]) (by rfl)))) (aq G_e hr T.F_e (aa (dv 0) (aa af ag)))) ag)))
   case' o=>refine' az ?q
   case' q=>refine' aH ?r
   case' r=>refine' bp ?s
   case' s=>refine' aa (dv 1) ?t
   case' t=>refine' aa (dv 5) ?u
   case' u=>refine' aa (dv 6) ?v
   case' v=>refine' aa (dv 7) ?w
   case' w=>refine' aa ?x ag
   case' x=>refine' eN bE bR (df ?y) ?z
   case y=>exact(fe (cL (jD (ds:=[.str "days",.str "months",.str "years"]) (by rfl))))
   case z=>exact(df (aq G_e hr T.F_e (aa (dv 0) (aa af ag))))
  case B=>
  clear hr T G_e;walk_at "d";refine⟨_,rfl,by rw [Lm];have:=dr.k0;omega,by rw [Lm];have:=dr.k1;omega,λi i0 i1=>⟨_,rfl,?_⟩⟩;rw [Lm] at i1;obtain⟨kd,hk,ek⟩:=hX i0 i1;have kok:=(dr.ko kd hk).ok;refine⟨_,ek,cR.mpr hw,cp,?_⟩;by_cases hg:KG wo
  ·rw [R1 (by rcases hg with e | e <;> rw [e] <;> decide+kernel)];have nl:=dr.nl;obtain⟨n6,h6,e6⟩:=hX (ss:=ns) (i:=6) RZ R0;refine⟨_,e6,2,rfl,RZ,RZ,λj j0 j1=>⟨_,rfl,?_⟩⟩;obtain⟨n7,h7,e7⟩:=hX (ss:=ns) (i:=6+j) R0 R0;refine⟨_,e7,3,rfl,RZ,RZ,λv v0 v1=>⟨_,rfl,?_⟩⟩;have sn:∃s:cJ,(s.Ok/\CM (·∈ns) s)/\atI [LW [Lp (Lk "coming")],LW [Lp (Lk "first"),.str n6],LW [Lp (Lk "last"),.str n7]] v=some s.enc:=by
    have:v=0\/v=1\/v=2:=R0
    rcases this with e | e | e <;> subst e
    ·exact⟨.com,⟨trivial,trivial⟩,rfl⟩
    ·exact⟨.fst n6,⟨(dr.no n6 h6).ok,h6⟩,rfl⟩
    ·exact⟨.lst n7,⟨(dr.no n7 h7).ok,h7⟩,rfl⟩
   obtain⟨sn,⟨so,si⟩,es⟩:=sn;refine⟨_,es,?_⟩;have fin:∀(k:Int)(u:Str),0<=k->k < 1000->jc u->Q (LW [Lp wo,.str kd,sn.enc,.int k,.str u]):=λk u k0 k1 hu=>q (.five wo kd sn k u) ⟨hg,kok,so,k0,k1,hu⟩ ⟨dr.ki kd hk,si⟩;split
   ·exact⟨21,rfl,RZ,RZ,λk k0 k1=>fin k _ k0 R0 (.inl rfl)⟩
   ·refine⟨3,rfl,RZ,RZ,λa a0 a1=>⟨_,rfl,?_⟩⟩;have mx:∃z:Int,0 < z/\z<=1000/\atI [Ly 1000,Ly 14,Ly 30] a=some (.int z):=by
     have:a=0\/a=1\/a=2:=R0
     rcases this with e | e | e <;> subst e
     ·exact⟨1000,RZ,RZ,rfl⟩
     ·exact⟨14,RZ,RZ,rfl⟩
     ·exact⟨30,RZ,RZ,rfl⟩
    obtain⟨z,z0,z1,ez⟩:=mx;refine⟨_,ez,z,rfl,z0,R0,λk k0 k1=>⟨3,rfl,RZ,RZ,λb b0 b1=>⟨_,rfl,?_⟩⟩⟩;have:b=0\/b=1\/b=2:=R0
    rcases this with e | e | e <;> subst e
    ·exact⟨_,gZ,fin k _ k0 R0 (.inl rfl)⟩
    ·exact⟨_,gE,fin k _ k0 R0 (.inr (.inl rfl))⟩
    ·exact⟨_,mG,fin k _ k0 R0 (.inr (.inr rfl))⟩
  ·rw [R3 (by
    rw [cU (λe=>hg (.inl e.symm)),cU (λe=>hg (.inr e.symm))];rfl)]
   exact q (.two wo kd) ⟨hg,hw,kok⟩ (dr.ki kd hk)
def Kp:List R6->(R6->Prop)->Prop:=λds Q=>∃(wo:Str)(ns ks:List Str)(far:Int),ds=[fu,.str wo,.list (ns.map .str),.list (ks.map .str),.int far]/\LB wo=true/\ux ns ks far/\∀x:De,iF (·∈ns) x->(wo=Lk "paper"->∃p,x= .pap p)->Q x.enc
theorem Kq(T:Txt K mg t):aF P w K mg base CX0 4 t.a_l t.d_l ["_law_purse_here","_law_word","_law_names_here","_law_kinds","_law_far"] (bf K Kp):=by
 have G_e:=@jW P w _ _ base _ T;have G_j:=@Km P w _ _ base _ T;have G_k:=@Ko P w _ _ base _ T;refine T.F_l.F.okD jQ (λds Q h=>?_) (λ_ _ _ _ H O ds Q E hr h=>?_)
 ·obtain⟨wo,ns,ks,far,rfl,_⟩:=h;rfl
 ·obtain⟨wo,ns,ks,far,rfl,hw,dr,q⟩:=h;refine'⟨_,?A,?B⟩
  case A=>
   refine' ar ?C ?D
   case C=>exact(bu (i:=5) jQ.nd rfl R4 (aq G_j hr T.F_j (aa (dv 0) (aa (dv 4) ag))))
   case' D=>refine' ar ?E ?F
   case E=>exact(bu (i:=6) jQ.nd rfl R4 (au bE bR (dv 2) (aq G_e hr T.F_e (aa (dv 0) (aa af ag)))))
   case' F=>refine' ar ?G ?H
   case G=>
    refine' bH ?I ?J bG
    case I=>exact(aP (dB hr) dD (dv 1) aT (aE _))
    case' J=>refine' ar ?K ?L
    case K=>exact(kJ (i:=7) jQ.nd rfl R4 (xp rfl CL (df (fe (jB (df (dv 2)) eM (cQ af)))) aK cg RZ (λ_ _ _ _=>(aI (i:=0) CL.nd rfl R4)) (λ_ _ _ _=>(d4 (aP (cx hr.units) cy (aq G_e hr T.F_e (aa (dv 1) (aa af ag))) af (aE _)))) (λ_ _ _ _=>(dv 0))))
    case' L=>refine' az ?M
    case' M=>refine' aH ?N
    case' N=>refine' bp ?O
    case' O=>refine' aa (dv 1) ?P
    case' P=>refine' aa (dv 5) ?Q
    case' Q=>refine' aa (dv 6) ?R
    case' R=>refine' aa ?S ?T
    case S=>
     refine' eN bE bR (df (dv 3)) ?U
     case U=>exact(df (aq G_e hr T.F_e (aa (dv 0) (aa (PE.imp (bN eV rfl T.n_len MA (aR (dv 3) aO)) (bt fP)) ag))))
    case' T=>refine' aa ?V ag
    case V=>exact(PE.imp (cB dH rfl T.n_tuple dJ (aR (fe (xC rfl T.n_sorted MB (aR (fe (jB (df (dv 7)) eM (cQ af))) aO))) aO)) (bt dN))
   case' H=>refine' ar ?W ?X
   case W=>
    refine' bH ?Y ?Z bG
    case Y=>exact(aP (dB hr) dD (dv 1) aT (aE _))
    case' Z=>refine' az ?a
    case' a=>refine' aH ?b
    case' b=>refine' bp ?c
    case' c=>refine' aa (dv 1) ?d
    case' d=>refine' aa (dv 5) ?e
    case' e=>refine' aa (dv 6) ?f
    case' f=>refine' aa ?g ag
    case' g=>refine' eN bE bR (df (dv 2)) ?h
    case h=>exact(df (aQ bz bQ af (aq G_e hr T.F_e (aa (dv 0) (aa af ag)))))
   case' X=>refine' ar ?i ?j
   case i=>
    refine' bH ?k ?l bG
    case k=>exact(aP (mR hr) mS (dv 1) (bp (aa aT (aa aT ag))) rfl)
    case' l=>refine' az ?m
    case m=>exact(aH (bp (aa (dv 1) (aa (dv 5) (aa (dv 6) ag)))))
   case' j=>refine' ar ?n ?o
   case n=>
    refine' bu (i:=8) jQ.nd rfl R4 ?p (hs:=kL)
    case' p=>refine' eN bE bR (df (dv 3)) ?q
    case q=>exact(df (aq G_e hr T.F_e (aa (dv 0) (aa (PE.imp (bN eV rfl T.n_len MA (aR (dv 3) aO)) (bt fP)) ag))))
   case' o=>refine' ar ?r ?s
   case r=>
    refine' bH ?t ?u bG
    case t=>exact(aP (dB hr) dD (dv 1) aT (aE _))
    case' u=>refine' ar ?v ?w
    case v=>
     refine' bu (i:=9) jQ.nd rfl R4 ?x (hs:=kL)
     case' x=>refine' eN bE bR (df ?y) ?z
     case y=>
      refine' fe ?A0
      case' A0=>refine' cL ?A1
      case' A1=>refine' aa ?A2 ?A3
      case A2=>
       refine' bp ?A4
       case' A4=>refine' aa aT ?A5
       case' A5=>refine' aa ?A6 ag
       case A6=>exact(au bE bR (dv 2) (aq G_e hr T.F_e (aa (dv 0) (aa af ag))))
      case' A3=>refine' aa ?A7 ag
      case A7=>exact(bp (aa aT (aa (dv 8) ag)))
     case z=>exact(df (aq G_e hr T.F_e (aa (dv 0) (aa af ag))))
    case' w=>refine' az ?A8
    case' A8=>refine' aH ?A9
    case' A9=>refine' bp ?AA
    case' AA=>refine' aa (dv 1) ?AB
    case' AB=>refine' aa (dv 5) ?AC
    case' AC=>refine' aa (dv 6) ?AD
    case' AD=>refine' aa (dv 9) ?AE
    case' AE=>refine' aa ?AF ag
    case AF=>exact(fv (cx hr.units) cy (df (aq G_e hr T.F_e (aa (dv 0) (aa af ag)))) (df af) (aE _))
   case' s=>refine' ar ?AG ?AH
   case AG=>
    refine' bH ?AI ?AJ bG
    case AI=>exact(aP (dB hr) dD (dv 1) aT (aE _))
    case' AJ=>refine' az ?AK
    case AK=>exact(aH (bp (aa aT (aa (dv 5) (aa (dv 6) (aa (dv 8) ag))))))
   case' AH=>refine' az ?AL
   case' AL=>refine' aH ?AM
   case' AM=>refine' bp ?AN
   case' AN=>refine' aa aT ?AO
   case' AO=>refine' aa (dv 5) ?AP
   case' AP=>refine' aa (dv 6) ?AQ
   case' AQ=>refine' aa ?AR ag
   case AR=>exact(aq G_k hr T.F_k (aa (dv 0) (aa (dv 1) (aa (dv 2) (aa (dv 3) (aa (dv 4) ag))))))
  case B=>
  clear hr T G_e G_j G_k;walk_at "d";refine⟨far,rfl,λd d0 d1=>⟨6,rfl,RZ,RZ,λi i0 i1=>⟨_,rfl,?_⟩⟩⟩;have nl:=dr.nl;have k0:=dr.k0;have k1:=dr.k1;obtain⟨nm,hn,en⟩:=hX (ss:=ns) i0 R0;have nok:=(dr.no nm hn).ok;refine⟨_,en,?_⟩;have kinds:∀R:R6->Prop,(∀kd∈ks,R (.str kd))->qS [fu,Ly ((Mm Lp ks).length:Int)] λy=>∃x,y=Ly x/\∃x_2,atI (Mm Lp ks) x=some x_2/\R x_2:=λR hR=>by
   refine⟨_,rfl,by rw [Lm];omega,by rw [Lm];omega,λi i0 i1=>⟨_,rfl,?_⟩⟩;rw [Lm] at i1;obtain⟨kd,hk,ek⟩:=hX i0 i1;exact⟨_,ek,hR kd hk⟩
  by_cases hp:wo=Lk "paper"
  ·rw [R3 (by rw [hp];exact beq_self_eq_true _)];have ec:cz (Mm Lp ns) none (some 6)=(ns.take 6).map Lp:=by
    rw [kD RZ (by simp;omega),<-NZ];rfl
   rw [ec];refine⟨by rw [Lm,Mc];omega,λi acc=>∃ss:List Str,acc=ss.map .str/\ss.Sublist ((ns.take 6).take i),⟨[],rfl,List.nil_sublist _⟩,?_,?_⟩
   ·rintro i z acc hz ⟨ss,rfl,hs⟩;rw [LD] at hz;cases hz':(ns.take 6)[i]? with
    | none=>rw [hz'] at hz;cases hz
    | some x=>
     rw [hz'] at hz;cases hz;walk_at "d";refine⟨3,rfl,RZ,RZ,λv v0 v1=>⟨fQ,?_⟩⟩;rw [i3];split
     ·refine⟨ss++[x],by rw [LS];rfl,?_⟩;rw [Mx,hz'];exact hs.append (.refl _)
     ·refine⟨ss,rfl,?_⟩;rw [Mx];exact hs.trans (List.sublist_append_left _ _)
   ·rintro acc ⟨ss,rfl,hs⟩;have hs:ss.Sublist (ns.take 6):=hs.trans (Nu _ _);have hl:=hs.length_le;rw [Mc] at hl;have hm:∀z∈ss,z∈ns:=λz hz=>MG (hs.subset hz);have snd:ss.Nodup:=(dr.nn.sublist (Nu _ _)).sublist hs;refine kinds (λx_2=>∃ss_1,cz (Mm Lp ss) none (some 4)=Mm Lp ss_1/\ss_1.length < 64/\Q (LW [Lp wo,.int d,.str nm,x_2,LW (Mm Lp (cM ss_1))])) λkd hk=>?_;have cc:∃ss':List Str,cz (Mm Lp ss) none (some 4)=ss'.map Lp/\ss'.length<=6/\(∀z∈ss',z∈ss)/\ss'.Nodup:=by
     by_cases h4:4<=ss.length
     ·refine⟨ss.take 4,by rw [kD RZ (by simp;omega),<-NZ];rfl,by rw [Mc];omega,λz hz=>MG hz,snd.sublist (Nu _ _)⟩
     ·refine⟨ss,?_,R0,λz hz=>hz,snd⟩;have:ss.length=0\/ss.length=1\/ss.length=2\/ss.length=3:=R0
      match ss,h4 with
      | [],_=>rfl
      | [a],_=>rfl
      | [a,b],_=>rfl
      | [a,b,c],_=>rfl
      | a::b::c::e::l,h4=>exact absurd h4 R5
    obtain⟨ss',e1,e2,e3,e4⟩:=cc;refine⟨ss',e1,R0,?_⟩;rw [hp];have msok:∀m∈cM ss',LB m=true:=λm hm'=>(dr.no m (hm m (e3 m ((fg ss').mem_iff.mp hm')))).ok;have msl:(cM ss').length<=50:=by rw [(fg ss').length_eq];omega
    exact q (.pap ⟨d,nm,kd,cM ss'⟩) ⟨.pap hn (dr.ki kd hk) (λm hm'=>hm m (e3 m ((fg ss').mem_iff.mp hm'))) msl,d0,d1⟩ λ_=>⟨_,rfl⟩
  ·rw [cU hp,R1 Lx];have q:∀(w:Str)(r:List R6),cq (·∈ns) (.oth w d nm r)->Q (.tuple (.str w:: .int d:: .str nm::r)):=λw r sh=>q (.oth w d nm r) ⟨sh,d0,d1⟩ λe=>absurd e hp;by_cases hh:wo=Lk "happens"
   ·rw [R3 (by rw [hh];exact beq_self_eq_true _)];refine⟨2,rfl,RZ,RZ,λj j0 j1=>⟨_,rfl,?_⟩⟩;obtain⟨n7,h7,e7⟩:=hX (ss:=ns) (i:=6+j) R0 R0;have o7:=(dr.no n7 h7).ok;exact⟨_,e7,q wo [.str n7] (by rw [hh];exact .hap hn h7)⟩
   ·rw [cU hh,R1 Lx];by_cases he:(Lk "end"==wo || Lk "lift"==wo)=true
    ·rw [R3 he];refine q wo [] ?_;rcases Bool.or_eq_true_iff.mp he with z | z
     ·rw [<-eq_of_beq z];exact .fin hn
     ·rw [<-eq_of_beq z];exact .lift hn
    ·rw [R1 he];refine kinds _ λkd hk=>?_;have kok:=(dr.ko kd hk).ok;by_cases hb:wo=Lk "hold"
     ·rw [R3 (by rw [hb];exact beq_self_eq_true _)];refine⟨6,rfl,RZ,RZ,λj j0 j1=>⟨_,rfl,?_⟩⟩;obtain⟨n3,h3,e3⟩:=hX (ss:=ns) j0 R0;refine⟨_,e3,2,rfl,RZ,RZ,λv v0 v1=>⟨_,rfl,?_⟩⟩;have o3:=(dr.no n3 h3).ok;obtain⟨tg,et,ht⟩:=oC (a:=LW [Lp (Lk "paper"),.str n3]) (b:=LW [Lp (Lk "kind"),.str kd]) v0 v1;refine⟨_,et,2,rfl,RZ,RZ,λb b0 b1=>⟨fQ,?_⟩⟩;refine q wo [tg,.bool _] ?_;rw [hb];rcases ht with e | e <;> rw [e]
      ·exact .hold (ip:=true) hn h3
      ·exact .hold (ip:=false) hn (dr.ki kd hk)
     ·rw [cU hb,R1 Lx];by_cases hm:wo=Lk "permit"
      ·rw [R3 (by rw [hm];exact beq_self_eq_true _)];exact q (Lk "leave") [.str kd] (.leave hn (dr.ki kd hk))
      ·rw [cU hm,R1 Lx];exact⟨wo,ns,ks,far,rfl,hw,dr,λpt po pw=>q (Lk "rule") [pt.enc] (.rue hn pw po)⟩
mutual
theorem iG:∀d:R6,d.canLay0=true->LL d d=true
 | .none,_=>by simp [LL]
 | .bool _,_ | .int _,_ | .str _,_=>by simp [LL]
 | .list xs,h=>by rw [LL];exact uz xs (by simpa [L7] using h)
 | .tuple xs,h=>by rw [LL];exact uz xs (by simpa [L7] using h)
 | .dict _,h=>by simp [L7] at h
theorem uz:∀ds:List R6,MD ds=true->MY ds ds=true
 | [],_=>by simp [MY]
 | d::ds,h=>by
  rw [MD,Mf] at h;rw [MY,iG d h.1,uz ds h.2];rfl
end
def PL(w:Str):Prop:=w=Lk "paper"\/w=Lk "leave"
structure dQ (x y:De):Prop where
 ne:x≠y
 pl:x.w=y.w->PL x.w->x.nm≠y.nm
 re:x.isE=true->y.isE=true->¬(x.d=y.d/\x.nm=y.nm)
 hl:x.isL=true->y.isL=true->¬(x.d=y.d/\x.nm=y.nm)
theorem dQ.symm{x y:De}(h:dQ x y):dQ y x:=⟨h.ne.symm,λe p z=>h.pl e.symm (by rw [<-e];exact p) z.symm,λa b e=>h.re b a ⟨e.1.symm,e.2.symm⟩,λa b e=>h.hl b a ⟨e.1.symm,e.2.symm⟩⟩
theorem dQ.of_nm{x y:De}(h:x.nm≠y.nm):dQ x y:=⟨λe=>h (by rw [e]),λ_ _=>h,λ_ _ e=>h e.2,λ_ _ e=>h e.2⟩
def gb:List (ah×R6):=[(.inr (Lk "rule"),.int 1),(.inr (Lk "end"),.int 1),(.inr (Lk "hold"),.int 2),(.inr (Lk "lift"),.int 2)]
theorem Kr:Ny (λa p=>cN a p.fst p.snd) [] gb=gb:=by
 rfl
theorem uA{x:De}(h:x.isE=true):bV gb (.inr x.w)=some (.int 1):=by
 cases x with
 | pap p=>cases h
 | oth w d nm r=>
  simp only [De.isE,NO,beq_iff_eq] at h;rcases h with e | e <;> subst e <;> rfl
theorem uB{x:De}(h:x.isL=true):bV gb (.inr x.w)=some (.int 2):=by
 cases x with
 | pap p=>cases h
 | oth w d nm r=>
  simp only [De.isL,NO,beq_iff_eq] at h;rcases h with e | e <;> subst e <;> rfl
theorem CN(w:Str):bV gb (.inr w)=none\/∃i:Int,bV gb (.inr w)=some (.int i):=by
 unfold bV;cases h:gb.find? λp=>decide (p.fst=Mi w) with
 | none=>exact .inl rfl
 | some p=>
  have hp:=Pf h;simp only [gb,LF,MX,or_false] at hp;rcases hp with e | e | e | e <;> rw [e] <;> exact .inr ⟨_,rfl⟩
theorem uC{x y:De}{Q:R6->Prop}(gx:LB x.nm=true)(gy:LB y.nm=true)(nq:x≠y)(pc:x.w=y.w->PL x.w->x.nm≠y.nm)(q:∀b:Bool,(b=false->dQ x y)->Q (.bool b)):
 ∃kd:List (ah×R6),[(Lp (Lk "rule"),Ly 1),(Lp (Lk "end"),Ly 1),(Lp (Lk "hold"),Ly 2),(Lp (Lk "lift"),Ly 2)]=Mm (λp=>(fS p.fst,p.snd)) kd/\
  kd.length<=15/\(∀(p:ah×R6),p∈kd->(match p.snd with | Ov=>true | Nf b=>true | Ly i=>true | Lp s=>true | x=>false)=true)/\
  if (bV (Ny (λa p=>cN a p.fst p.snd) [] kd) (Mi x.w)).isSome=false then Q (Nf false)
  else ∃x_1,bV (Ny (λa p=>cN a p.fst p.snd) [] kd) (Mi x.w)=some x_1/\MN x_1=true/\MN ((bV (Ny (λa p=>cN a p.fst p.snd) [] kd) (Mi y.w)).getD Ov)=true/\
   if x_1.eqv ((bV (Ny (λa p=>cN a p.fst p.snd) [] kd) (Mi y.w)).getD Ov)=false then Q (Nf false)
   else MN (LW [Ly x.d,Lp x.nm])=true/\MN (LW [Ly y.d,Lp y.nm])=true/\Q (Nf ((LW [Ly x.d,Lp x.nm]).eqv (LW [Ly y.d,Lp y.nm]))):=by
 refine⟨gb,rfl,RZ,?_,?_⟩
 ·intro p hp;simp only [gb,LF,MX,or_false] at hp;rcases hp with e | e | e | e <;> rw [e]
 ·rw [Kr];have no:(x.isE=true->y.isE=true->False)->(x.isL=true->y.isL=true->False)->Q (.bool false):=λh h2=>q false λ_=>⟨nq,pc,λa b=>(h a b).elim,λa b=>(h2 a b).elim⟩;rcases CN x.w with hx | ⟨i,hx⟩
  ·rw [hx,R3 (by rfl)];exact no (λa _=>by rw [uA a] at hx;cases hx) λa _=>by rw [uB a] at hx;cases hx
  ·rw [hx,R1 R5];have sh:MN ((bV gb (Mi y.w)).getD Ov)=true:=by
    rcases CN y.w with hy | ⟨j,hy⟩ <;> rw [hy]
    ·exact mH
    ·exact fQ
   have two:∀z:De,LB z.nm=true->MN (LW [Ly z.d,Lp z.nm])=true:=λz hz=>(cj (n:=1) (aJ fy (aJ (bB hz) cT))).shp RZ;refine⟨_,rfl,fQ,sh,?_⟩;split
   ·rename_i hne;refine no (λa b=>?_) λa b=>?_
    ·rw [uA a] at hx;cases hx;rw [uA b] at hne;exact absurd hne (by simp [i3])
    ·rw [uB a] at hx;cases hx;rw [uB b] at hne;exact absurd hne (by simp [i3])
   ·have key:(LW [Ly x.d,Lp x.nm]).eqv (LW [Ly y.d,Lp y.nm])=false->¬(x.d=y.d/\x.nm=y.nm):=λe h=>by
     rw [h.1,h.2] at e;rw [iG _ (cj (n:=1) (aJ fy (aJ (bB gy) cT))).can] at e;cases e
    exact⟨two x gx,two y gy,q _ λe=>⟨nq,pc,λ_ _=>key e,λ_ _=>key e⟩⟩
def CO:List R6->(R6->Prop)->Prop:=λds Q=>∃(N:Str->Prop)(x y:De),ds=[x.enc,y.enc]/\jX N/\iF N x/\iF N y/\∀b:Bool,(b=false->dQ x y)->Q (.bool b)
theorem Ks(T:Txt K mg t):aF P w K mg base CX0 1 t.a_m t.d_m ["_law_one","_law_other"] (bf K CO):=by
 refine T.F_m.F.okD Bw (λds Q h=>?_) (λ_ _ _ _ H O ds Q E hr h=>?_)
 ·obtain⟨N,x,y,rfl,_⟩:=h;rfl
 ·obtain⟨N,x,y,rfl,no,gx,gy,q⟩:=h;refine'⟨_,?A,?B⟩
  case A=>
   refine' ar ?C ?D
   case C=>
    refine' bH ?E ?F bG
    case E=>exact(PW.pt (mm (aP (cx hr.units) cy (dv 0) (dv 1) (aE _)) (mj (PW.pt (gS (aP (cx hr.units) cy (au ay aB (dv 0) af) (au ay aB (dv 1) af) (aE _)) (gS (aP (mR hr) mS (au ay aB (dv 0) af) (bp (aa aT (aa aT ag))) rfl) (ic (aP (cx hr.units) cy (au ay aB (dv 0) af) (au ay aB (dv 1) af) (aE _)))))))))
    case F=>refine' az (aH d5)
   case' D=>refine' ar ?G ?H
   case G=>
    generalize hD6:Expr.Dict _ _ _=ed6;refine' rK (i:=2) Bw.nd rfl R4 ?I (hs:=by subst hD6;first | rfl | exact xV)
    case' I=>subst hD6
    refine' Az ?p6_0
    case p6_0=>
     refine' kN aT af ?p6_1
     case p6_1=>
      refine' kN aT af ?p6_2
      case p6_2=>
       refine' kN aT af ?p6_3
       case p6_3=>
        refine' kN aT af ?p6_4
        case p6_4=>exact Ay
   case' H=>refine' ar ?J ?K
   case J=>
    refine' bH ?L ?M bG
    case L=>exact(PW.pt (mm (Hi (i:=2) hr.units (pv 2) (au ay aB (dv 0) af)) (mj (aP (gA hr.units) gB (Ag (i:=2) hr.units (pv 2) (au ay aB (dv 0) af) (λ_ _=>rfl)) (Ah (i:=2) hr.units (pv 2) (au ay aB (dv 1) af) ⟨rfl,rfl,rfl,rfl⟩) (aE _)))))
    case M=>refine' az (aH d5)
   case' K=>refine' az ?N
   case' N=>refine' aH ?O
   case O=>exact(fv (cx hr.units) cy (df (jF (df (dv 0)) (cQ af) (cQ af))) (df (jF (df (dv 1)) (cQ af) (cQ af))) (aE _))
  case B=>
  clear hr T;have sx:=(gx.sh.lay no).shp RZ;have sy:=(gy.sh.lay no).shp RZ;have xn:=no _ gx.sh.nm;have yn:=no _ gy.sh.nm;have ne:(x.enc).eqv y.enc=false->x≠y:=λh e=>by rw [e,iG _ (gy.sh.lay no).can] at h;cases h
  have ex:∃rx,x.enc= .tuple (.str x.w:: .int x.d:: .str x.nm::rx):=by cases x <;> exact⟨_,rfl⟩
  have ey:∃ry,y.enc= .tuple (.str y.w:: .int y.d:: .str y.nm::ry):=by cases y <;> exact⟨_,rfl⟩
  obtain⟨rx,ex⟩:=ex;obtain⟨ry,ey⟩:=ey;rw [ex] at sx ne⊢;rw [ey] at sy ne⊢;walk_at "d";refine⟨sx,sy,?_⟩;split
  ·exact q true λe=>by cases e
  ·rename_i h0;have nq:=ne (by simpa using h0);refine⟨cR.mpr gx.sh.wo,cR.mpr gy.sh.wo,?_⟩;split
   ·split
    ·refine⟨cR.mpr xn,cR.mpr yn,?_⟩;split
     ·exact q true λe=>by cases e
     ·rename_i hn;exact uC xn yn nq (λ_ _ e=>hn (beq_iff_eq.mpr e)) q
    ·rename_i hn;exact uC xn yn nq (λ_ p=>absurd (by rcases p with z | z <;> rw [z] <;> decide+kernel) hn) q
   ·rename_i hn;exact uC xn yn nq (λe _=>absurd (beq_iff_eq.mpr e) hn) q
structure gJ (N:Str->Prop) (xs:List De):Prop where
 e:∀x∈xs,iF N x
 q:xs.Pairwise dQ
theorem gJ.un{N:Str->Prop}{xs:List De}(h:gJ N xs)(x:De)(hx:x∈xs)(y:De)(hy:y∈xs)(ne:x≠y):dQ x y:=by
 obtain⟨i,hi⟩:=Ni hx;obtain⟨j,hj⟩:=Ni hy;obtain⟨li,ei⟩:=Lz.mp hi;obtain⟨lj,ej⟩:=Lz.mp hj;have pw:=MI.mp h.q;rcases Nat.lt_trichotomy i j with h | h | h
 ·rw [<-ei,<-ej];exact pw i j li lj h
 ·subst h;exact absurd (by rw [<-ei,<-ej]) ne
 ·rw [<-ei,<-ej];exact(pw j i lj li h).symm
theorem gJ.good{N:Str->Prop}{xs:List De}(no:jX N)(h:gJ N xs)(h3:xs.length<=41):dF xs:=by
 have pm:∀p∈ai xs,cq N (.pap p):=λp hp=>(h.e _ (t8.mp hp)).sh;have on:∀{x y:De},x∈xs->y∈xs->(x≠y->False)->x=y:=λ_ _ z=>Classical.byContradiction z;have w1:Lk "happens"≠Lk "rule"/\Lk "happens"≠Lk "hold"/\Lk "happens"≠Lk "leave"/\Lk "rule"≠Lk "hold"/\Lk "rule"≠Lk "leave"/\Lk "hold"≠Lk "leave":=cp
 have w2:∀w∈([Lk "happens",Lk "rule",Lk "hold",Lk "leave"]:List Str),Lk "end"≠w/\Lk "lift"≠w:=cp
 have inv:∀{w:Str}{d:Int}{nm:Str}{r:List R6},cq N (.oth w d nm r)->w≠Lk "paper"/\(w=Lk "happens"->∃wd,r=[.str wd]/\N wd)/\(w=Lk "rule"->∃pt:Pt,r=[pt.enc]/\pt.Ok)/\(w=Lk "hold"->∃(ip:Bool)(tn:Str)(dp:Bool),r=[bZ ip tn,.bool dp]/\N tn)/\(w=Lk "leave"->∃kd,r=[.str kd]/\N kd):=λ{w d nm r} z=>by
  obtain⟨a1,a2,a3,a4,a5,a6⟩:=w1;cases z with
  | hap h1 h2=>exact⟨cp,λ_=>⟨_,rfl,h2⟩,λe=>absurd e a1,λe=>absurd e a2,λe=>absurd e a3⟩
  | rue h1 h2 h3=>exact⟨cp,λe=>absurd e.symm a1,λ_=>⟨_,rfl,h3⟩,λe=>absurd e a4,λe=>absurd e a5⟩
  | fin h1=>exact⟨cp,λe=>absurd e (w2 _ R5).1,λe=>absurd e (w2 _ R5).1,λe=>absurd e (w2 _ R5).1,λe=>absurd e (w2 _ R5).1⟩
  | lift h1=>exact⟨cp,λe=>absurd e (w2 _ R5).2,λe=>absurd e (w2 _ R5).2,λe=>absurd e (w2 _ R5).2,λe=>absurd e (w2 _ R5).2⟩
  | hold h1 h2=>exact⟨cp,λe=>absurd e.symm a2,λe=>absurd e.symm a4,λ_=>⟨_,_,_,rfl,h2⟩,λe=>absurd e a6⟩
  | leave h1 h2=>exact⟨cp,λe=>absurd e.symm a3,λe=>absurd e.symm a5,λe=>absurd e.symm a6,λ_=>⟨_,rfl,h2⟩⟩
 have si:∀{w:Str}{d:Int}{nm:Str}{r:List R6},De.oth w d nm r∈xs->cq N (.oth w d nm r):=λhm=>(h.e _ hm).sh;refine⟨⟨⟨⟨LY (List.length_filterMap_le _ _) h3,?_,λp hp=>no _ (pm p hp).nm,λp hp=>?_,λp hp=>?_⟩,λw d nm r hm=>(inv (si hm)).1,h3,λx hx=>(h.e x hx).sh.wo,λx hx=>no _ (h.e x hx).sh.nm⟩,λd nm r hm=>?_,λd nm r hm=>(inv (si hm)).2.2.1 rfl,h.q.imp λz=>z.ne,λx hx=>(h.e x hx).d0,λx hx y hy e1 e2 ed en=>?_⟩,λd nm r hm=>?_,λd nm r hm=>?_,λx hx y hy e1 e2 ed en=>?_,λx hx y hy e1 e2 en=>?_⟩
 ·unfold ai;rw [ML,LO,List.pairwise_filterMap];refine h.q.imp λ{a b} h p hp r hr=>?_;cases a with
  | oth w d nm r=>simp [De.pp] at hp
  | pap a=>
   cases b with
   | oth w d nm r=>simp [De.pp] at hr
   | pap b=>
    simp only [De.pp,Om] at hp hr;subst hp hr;exact h.pl rfl (.inl rfl)
 ·cases pm p hp with | pap a b c d=>exact no _ b
 ·cases pm p hp with | pap a b c d=>exact⟨λm hm=>no _ (c m hm),d⟩
 ·obtain⟨wd,e,z⟩:=(inv (si hm)).2.1 rfl;exact⟨wd,e,no _ z⟩
 ·exact on hx hy λne=>(h.un x hx y hy ne).re e1 e2 ⟨ed,en⟩
 ·obtain⟨ip,tn,dp,e,z⟩:=(inv (si hm)).2.2.2.1 rfl;exact⟨ip,tn,dp,e,no _ z⟩
 ·obtain⟨kd,e,z⟩:=(inv (si hm)).2.2.2.2 rfl;exact⟨kd,e,no _ z⟩
 ·exact on hx hy λne=>(h.un x hx y hy ne).hl e1 e2 ⟨ed,en⟩
 ·exact on hx hy λne=>(h.un x hx y hy ne).pl (e1.trans e2.symm) (.inr e1) en
end
theorem CP:aY (av nP) ["_law_script","_law_first","_law_menu","_law_most","_law_head","_law_far","_law_chain","_law_names_here","_law_kinds","_law_words","_law_turn","_law_deeds_here","_law_k","_law_deed_here","_law_day_here"] ["_law_one","_law_deed_here"] 1 [13] ⟨LA,[ (Ln ".0",TQ),(Ln "_law_one",TQ),(Ln "_law_quarrels",Me),(Ln "_law_deed_here",LK)],false,false,[]⟩:= .of
section
variable {P:Sk} {w:Sm} {K:Ll} {mg:Str->Option R7} {base:Sn} {t:cC}
theorem Kt{ns:List Str}(l u:Option Int):∃ms:List Str,cz (Mm Lp ns) l u=ms.map Lp/\(∀m∈ms,m∈ns)/\ms.length<=ns.length/\ms.Sublist ns:=by
 unfold cz;rw [<-Rv,<-NZ];exact⟨_,rfl,λm hm=>Ql (MG hm),by rw [Mc,OB];omega,(Nu _ _).trans (List.drop_sublist _ _)⟩
def Ku:List R6->(R6->Prop)->Prop:=λds Q=>∃(cs:List Int)(me:List Str)(fi mo:Int),ds=[eI (cs.map .int),.int fi,.list (me.map .str),.int mo]/\0<=fi/\fi<=40/\me≠[]/\me.length<=1000/\(∀m∈me,LB m=true/\m≠Lk "paper")/\0 < mo/\mo<=7/\∀(xs:List De)(ns:List Str)(far:Int),gJ (·∈ns) xs->xs.length<=18->xs≠[]->ns.length=8->lz ns->ns.Nodup->Q (.tuple [.tuple (xs.map De.enc),.list (ns.map .str),.int far])
theorem Kv(T:Txt K mg t):aF P w K mg base CX0 5 t.a_n t.d_n ["_law_script","_law_first","_law_menu","_law_most"] (bf K Ku):=by
 have G_e:=@jW P w _ _ base _ T;have G_d:=@CD P w _ _ base _ T;have G_c:=@CI P w _ _ base _ T;have G_f:=@Kj P w _ _ base _ T;have G_l:=@Kq P w _ _ base _ T;have G_m:=@Ks P w _ _ base _ T;refine T.F_n.F.okD fC (λds Q h=>?_) (λ_ _ _ _ H O ds Q E hr h=>?_)
 ·obtain⟨cs,me,fi,mo,rfl,_⟩:=h;rfl
 ·obtain⟨cs,me,fi,mo,rfl,fi0,fi1,me0,mel,meo,mo0,mo1,q⟩:=h;refine'⟨_,?A,?B⟩
  case A=>
   refine' ar ?C ?D
   case C=>exact(bu (i:=4) fC.nd rfl R4 (aq G_d hr T.F_d (aa (aq G_c hr T.F_c (aa (dv 0) (aa (dv 1) ag))) ag)))
   case' D=>refine' ar ?E ?F
   case E=>exact(wL (i:=5) (j:=6) rfl fC.nd rfl rfl RZ rfl rfl (aa (aq G_e hr T.F_e (aa (dv 4) (aa af ag))) (aa (fv (cx hr.units) cy (df (aq G_e hr T.F_e (aa (dv 4) (aa af ag)))) (df af) (aE _)) ag)) (by rfl))
   case' F=>refine' ar ?G ?H
   case G=>exact(bu (i:=7) fC.nd rfl R4 (aq G_f hr T.F_f (aa (dv 4) (aa af ag))))
   case' H=>refine' ar ?I ?J
   case I=>
    refine' bu (i:=8) fC.nd rfl R4 ?K (hs:=kL)
    case' K=>refine' fe ?L
    case L=>exact(jB (df (dv 7)) eM (cQ (aQ bz bQ af (aq G_e hr T.F_e (aa (dv 4) (aa af ag))))))
   case' J=>refine' ar ?M ?N
   case M=>
    refine' ig (i:=9) fC.nd rfl R4 ?O (hs:=i9)
    case O=>exact(HL (cL (aa aT ag)) (aQ bz bQ af (aq G_e hr T.F_e (aa (dv 4) (aa af ag)))))
   case' N=>refine' ar ?P ?Q
   case P=>
    refine' wM Mj rfl rfl T.n_range (aa (aq G_e hr T.F_e (aa (dv 4) (aa (au bE bR (fe (cL (aa (dv 3) (aa (aQ eo dz af (dv 3)) ag)))) (PE.imp (cB pb rfl T.n_int pI (aR (fv (cx hr.units) cy (df (aq G_e hr T.F_e (aa (dv 4) (aa af ag)))) (df af) (aE _)) aO)) (bt qQ))) ag))) ag) ?R aK ?S
    case R=>exact(aI (i:=10) fC.nd rfl R4)
    case' S=>refine' az ?T
    case' T=>refine' mv (i:=9) (pv 9) ?U
    case' U=>refine' eN bE bR (df (dv 2)) ?V
    case V=>exact(df (aq G_e hr T.F_e (aa (dv 4) (aa (PE.imp (bN eV rfl T.n_len MA (aR (dv 2) aO)) (bt fP)) ag))))
   case' Q=>refine' ar ?W ?X
   case W=>exact(ig (i:=11) fC.nd rfl R4 (cL ag))
   case' X=>refine' ar ?Y ?Z
   case Y=>
    refine' wM Mj rfl rfl T.n_range (aa (PE.imp (bN eV rfl T.n_len MA (gT (dw 9) aO)) (bt fP)) ag) ?a aK ?b
    case a=>exact(aI (i:=12) fC.nd rfl R4)
    case' b=>refine' ar ?c ?d
    case c=>
     refine' bu (i:=13) fC.nd rfl R4 ?e (hs:=fh)
     case e=>exact(aq G_l hr T.F_l (aa (aq G_d hr T.F_d (aa (aq G_c hr T.F_c (aa (dv 0) (aa (aQ bz bQ (aQ bz bQ (dv 1) af) (dv 12)) ag))) ag)) (aa (eN bE bR (dw 9) (df (dv 12))) (aa (dv 7) (aa (dv 8) (aa (dv 5) ag))))))
    case' d=>refine' ar ?f ?g
    case f=>
     refine' bH ?h ?i bG
     case h=>exact(PW.pt (gS (ib (dv 6)) (ic (aP (dB hr) dD (eN bE bR (dw 9) (df (dv 12))) aT (aE _)))))
     case' i=>refine' ar ?j ?k
     case j=>
      refine' bu (i:=14) fC.nd rfl R4 ?l (hs:=i9)
      case l=>exact(aQ bz bQ (aQ eo dz (au bE bR (fe (cL (aa af (aa af ag)))) (dv 5)) (dv 12)) (aQ d3 dz (au ay aB (dv 13) af) af))
     case' k=>refine' az ?m
     case' m=>refine' bu (i:=13) fC.nd rfl R4 ?n (hs:=G9)
     case' n=>refine' bp ?o
     case' o=>refine' aa aT ?p
     case' p=>refine' aa (dv 14) ?q
     case' q=>refine' aa ?r ?s
     case r=>exact(au bE bR (dv 7) (dv 12))
     case' s=>refine' aa ?t ?u
     case t=>exact(au ay aB (dv 13) af)
     case' u=>refine' aa ?v ag
     case v=>exact(PE.imp (cB dH rfl T.n_tuple dJ (aR (fe (jB (df (dv 7)) (cQ (PE.imp (bN (oZ rfl) rfl T.n_max Nt (aR af (aR (aQ dh bQ (dv 12) af) aO))) (bt mC))) (cQ (dv 12)))) aO)) (bt dN))
    case' g=>refine' az ?w
    case' w=>refine' bH ?x ?y bG
    case x=>exact(kq (ib (PE.imp (bN (pJ rfl) rfl T.n_any pK (aR (fe (eJ rfl CP (dw 11) aK cg RZ (λ_ _ _ _=>(aI (i:=0) CP.nd rfl R4)) (λ_ _ _ _=>d6) (λ_ _ _ _=>(aq G_m hr T.F_m (aa (dv 0) (aa (dv 1) ag)))))) aO)) (bt qJ))))
    case' y=>refine' az ?z
    case z=>exact(A3 (i:=11) (pv 11) (aq G_e hr T.F_e (aa (dv 4) (aa (aQ bz bQ (PE.imp (bN eV rfl T.n_len MA (gT (dw 11) aO)) (bt fP)) af) ag))) (dv 13))
   case' Z=>refine' az ?A0
   case A0=>exact(aH (bp (aa (PE.imp (cB dH rfl T.n_tuple dJ (gT (dw 11) aO)) (bt dN)) (aa (dv 7) (aa (dv 5) ag)))))
  case B=>
  clear hr T G_e G_d G_c G_f G_l G_m;walk_at "d";refine⟨cs,fi,rfl,R0,R0,λc=>⟨c,rfl,2,rfl,RZ,RZ,λfar f0 f1=>⟨8,rfl,RZ,RZ,λch c0 c1=>⟨fQ,rfl,λns nl nok nnd=>⟨2,rfl,RZ,RZ,λkk kk0 kk1=>⟨_,rfl,_,rfl,5,rfl,RZ,RZ,λpc p0 p1=>⟨_,rfl,R0,R0,8,rfl,RZ,RZ,λe e0 e1=>⟨fQ,?_⟩⟩⟩⟩⟩⟩⟩⟩;have hz:∃z:Int,atI [Ly mo,Ly (2*mo)] (if (Ly e).eqv (Ly 3)=true then 1 else 0)=some (.int z)/\0 < z/\z<=14:=by
   split
   ·exact⟨_,gE,R0,R0⟩
   ·exact⟨_,gZ,R0,R0⟩
  obtain⟨z,ez,z0,z1⟩:=hz;refine⟨_,ez,z,rfl,z0,R0,λj j0 j1=>⟨j,rfl,R0,R0,?_⟩⟩;obtain⟨ks,ek,dr⟩:∃ks:List Str,cz (Mm Lp ns) none (some (2+kk))=ks.map Lp/\ux ns ks far:=by
   refine⟨ns.take (2+kk).toNat,by rw [kD R0 (by simp;omega),<-NZ],nl,nok,nnd,by rw [Mc];omega,by rw [Mc];omega,λz hz=>nok z (MG hz),λz hz=>MG hz,f0,R0⟩
  rw [ek];have er:(LC (1+pc).toNat [Lp (Lk "paper")]).flatten=(LC (1+pc).toNat (Lk "paper")).map Lp:=by
   rw [List.flatten_replicate_singleton,List.map_replicate]
  rw [er];generalize (Ly ch).eqv (Ly 5)=cb;have n0:1<=(1+pc).toNat:=R0
  have n1:(1+pc).toNat<=5:=R0
  generalize (1+pc).toNat=n at n0 n1⊢;refine⟨λi δ=>∃(ms:List Str)(o9:Option Sl),ms.length=i/\(∀m∈ms,m∈me)/\δ=[some (Sl.v (eI (Mm Ly cs))),some (Sl.v (Ly fi)),some (Sl.v (M5 (Mm Lp me))),some (Sl.v (Ly mo)),some (Sl.v fu),some (Sl.v (.int far)),some (Sl.v (.bool cb)),some (Sl.v (.list (ns.map .str))),some (Sl.v (.list (ks.map .str))),some (Sl.o ((LC n (Lk "paper")++ms).map Lp)),o9,none,none,none,none],⟨[],_,rfl,R5,by rw [Mw]⟩,?_,?_⟩
  ·rintro i x δ hx ⟨ms,o9,hl,hm,rfl⟩;obtain⟨hi,rfl⟩:=i4 hx;walk_at "d";have ml:0 < me.length:=Qo.mpr me0;refine⟨_,rfl,by rw [Lm];omega,by rw [Lm];omega,λv v0 v1=>⟨_,rfl,?_⟩⟩;rw [Lm] at v1;obtain⟨m,hm1,em⟩:=hX v0 v1;refine⟨_,em,by rw [Lm,LN,Nb];omega,ms++[m],by simp [hl],λz hz=>?_,?_⟩
   ·rcases LI.mp hz with h | h
    ·exact hm z h
    ·rw [LX] at h;rw [h];exact hm1
   ·refine⟨?_,_,rfl⟩;rw [<-Oi,LS (l₂:=[m])];rfl
  ·rintro δ ⟨ms,o9,hl,hm,rfl⟩;rw [kE] at hl;have wl:(LC n (Lk "paper")++ms).length<=18:=by rw [LN,Nb];omega
   have w0:1<=(LC n (Lk "paper")++ms).length:=by rw [LN,Nb];omega
   have wok:∀w∈LC n (Lk "paper")++ms,LB w=true:=λw hw=>by
    rcases LI.mp hw with h | h
    ·rw [(List.mem_replicate.mp h).2];decide+kernel
    ·exact(meo w (hm w h)).1
   have wp:∀k:Nat,(LC n (Lk "paper")++ms)[k]?=some (Lk "paper")->k < 5:=λk hk=>by
    by_cases h:k < n
    ·omega
    ·rw [MR (by rw [Nb];omega)] at hk;exact absurd rfl (meo _ (hm _ (LQ hk))).2
   generalize LC n (Lk "paper")++ms=ws at wl w0 wok wp⊢;walk_at "d";rw [Lm];refine⟨R0,R0,?_⟩;refine⟨λi δ=>∃(xs:List De)(o11 o12 o13:Option Sl),(∀x∈xs,iF (·∈ns) x)/\xs.Pairwise dQ/\xs.length<=i/\(0 < i->xs≠[])/\δ=[some (Sl.v (eI (Mm Ly cs))),some (Sl.v (Ly fi)),some (Sl.v (M5 (Mm Lp me))),some (Sl.v (Ly mo)),some (Sl.v fu),some (Sl.v (.int far)),some (Sl.v (.bool cb)),some (Sl.v (.list (ns.map .str))),some (Sl.v (.list (ks.map .str))),some (Sl.o (ws.map Lp)),o9,some (Sl.o (xs.map De.enc)),o11,o12,o13],⟨[],_,_,_,R5,.nil,R5,R5,rfl⟩,?_,?_⟩
   ·rintro i x δ hx ⟨xs,o11,o12,o13,xg,xq,xl,x0,rfl⟩;obtain⟨hi,rfl⟩:=i4 hx;walk_at "d";have hi:i < ws.length:=R0
    have hw:ws[i]?=some ws[i]:=Lz.mpr ⟨hi,rfl⟩;have aw:atI (Mm Lp ws) (0+(i:Int))=some (.str ws[i]):=by rw [QJ];exact eU (by simp [hi])
    have wo:=wok _ (M8 hi);generalize ws[i]=wi at hw aw wo;have tail:∀(y:De)(o:Option Sl),iF (·∈ns) y->((Mm De.enc xs).length<=16777216/\fc (kr 0) iX (ie CO (gQ (cF 0) (gQ (cF 1) jx))) [none,some (Sl.v y.enc)] (Mm De.enc xs) λds=>∃bs,ds=Mm Nf bs/\
     if bs.any id=false then qS [fu,Ly (((Mm De.enc xs).length:Int)+1)] λa=>∃n:Nat,a=Ly (n:Int)/\n<=(Mm De.enc xs).length/\(Mm De.enc xs).length < 1000000/\∃xs_1:List De,(∀x∈xs_1,iF (·∈ns) x)/\RA dQ xs_1/\xs_1.length<=i+1/\(0 < i+1->¬xs_1=[])/\d7 (Mm De.enc xs) n y.enc=Mm De.enc xs_1/\∃x,o=x
     else ∃xs_1:List De,(∀x∈xs_1,iF (·∈ns) x)/\RA dQ xs_1/\xs_1.length<=i+1/\(0 < i+1->¬xs_1=[])/\Mm De.enc xs=Mm De.enc xs_1/\∃x,o=x):=λy o gy=>by
     refine⟨by rw [Lm];omega,λk acc=>∃bs:List Bool,acc=bs.map Nf/\bs.length=k/\(bs.any id=false->∀x∈xs.take k,dQ x y),⟨[],rfl,rfl,R5⟩,?_,?_⟩
     ·rintro k x acc hk ⟨bs,rfl,bl,bq⟩;rw [LD] at hk;cases hk':xs[k]? with
      | none=>rw [hk'] at hk;cases hk
      | some x=>
       rw [hk'] at hk;cases hk;walk_at "d";refine⟨(·∈ns),x,y,rfl,λs hs=>(nok s hs).ok,xg x (LQ hk'),gy,λb hb=>⟨bs++[b],by rw [LS];rfl,by simp [bl],λh x' hx'=>?_⟩⟩;rw [List.any_append,Bool.or_eq_false_iff] at h;rw [Mx,hk'] at hx';rcases LI.mp hx' with z | z
       ·exact bq h.1 x' z
       ·have:x'=x:=by simpa using z
        rw [this];exact hb (by simpa using h.2)
     ·rintro acc ⟨bs,rfl,bl,bq⟩;rw [Lm] at bl bq⊢;rw [L3 (Lr _)] at bq;refine⟨bs,rfl,?_⟩;split
      ·rename_i h;refine⟨_,rfl,R0,R0,λv v0 v1=>?_⟩;obtain⟨n,rfl⟩:=My v0;refine⟨n,rfl,R0,R0,d7 xs n y,λx hx=>?_,?_,by rw [sQ];omega,λ_ e=>?_,(A2 _ _ _ _).symm,_,rfl⟩
       ·rcases LF.mp ((nk xs n y).mem_iff.mp hx) with e | e
        ·rw [e];exact gy
        ·exact xg x e
       ·refine(P2 (λh=>dQ.symm h) (nk xs n y)).mpr (Mz.mpr ⟨λx hx=>(bq h x hx).symm,xq⟩)
       ·have:=congrArg Oq e;rw [sQ] at this;simp at this
      ·rename_i h;refine⟨xs,xg,xq,R0,λ_ e=>?_,rfl,_,rfl⟩;rw [e] at bl;have:bs=[]:=Og.mp bl;rw [this] at h;exact h rfl
    refine⟨cs,_,rfl,R0,R0,λc=>⟨c,rfl,_,aw,wi,ns,ks,far,rfl,wo,dr,λy gy yp=>?_⟩⟩;split
    ·refine⟨_,aw,rfl,?_⟩;rw [iZ];split
     ·rename_i hp;have hp:=eq_of_beq hp;obtain⟨p,rfl⟩:=yp hp;have i5:=wp i (by rw [hw,hp]);have hf:∃z:Int,atI [Ly 5,Ly 9000] far=some (.int z)/\0<=z/\z<=9000:=by
       have:far=0\/far=1:=R0
       rcases this with h | h <;> rw [h]
       ·exact⟨5,rfl,RZ,RZ⟩
       ·exact⟨9000,rfl,RZ,RZ⟩
      obtain⟨z,ez,z0,z1⟩:=hf;obtain⟨nm,hn,en⟩:=hX (ss:=ns) (i:=0+(i:Int)) R0 R0;have pk:p.kd∈ns:=by cases gy.sh with | pap a b c d=>exact b
      refine⟨_,ez,_,rfl,.inr ⟨R0,R0⟩,_,rfl,_,gE,_,rfl,_,en,_,rfl,_,ik,?_⟩;obtain⟨ms,em,hm,ml,msub⟩:=Kt (ns:=ns) (some (if 0+(i:Int) - 1 > 0 then 0+(i:Int) - 1 else 0)) (some (0+(i:Int)));rw [em];have zi:0<=z*(0+(i:Int))/\z*(0+(i:Int))<=36000:=by
       have:i=0\/i=1\/i=2\/i=3\/i=4:=R0
       rcases this with h | h | h | h | h <;> subst h <;> simp <;> omega
      refine tail (.pap ⟨z*(0+(i:Int))+p.d % 5,nm,p.kd,ms⟩) _ ⟨.pap hn pk hm (by show ms.length<=50;omega),?_,?_⟩
      ·show 0<=z*(0+(i:Int))+p.d % 5;omega
      ·show z*(0+(i:Int))+p.d % 5 < 100000;omega
     ·exact tail y _ gy
    ·exact tail y _ gy
   ·rintro δ ⟨xs,o11,o12,o13,xg,xq,xl,x0,rfl⟩;rw [kE] at xl x0;walk_at "d";exact q xs ns far ⟨xg,xq⟩ R0 (x0 R0) nl nok nnd
end
theorem CQ(ws:List Str)(n:Int)(xs:List Rw):∃L,cX ws n xs L:=by
 have key:∀l:List Rw,∃L,cX ws n l.reverse L:=by
  intro l
  induction l with
  | nil=>exact⟨[],cX.nil _ _⟩
  | cons x l ih=>
   obtain⟨L,h⟩:=ih;rw [List.reverse_cons];by_cases ho:ck ws n x
   ·cases hl:cW L x.nm with
    | none=>exact⟨_,h.put ho λy e=>by rw [hl] at e;cases e⟩
    | some y=>
     by_cases hn:y.n < x.n
     ·exact⟨_,h.put ho λy' e=>by rw [hl] at e;cases e;exact hn⟩
     ·exact⟨L,h.keep hl hn⟩
   ·exact⟨L,h.skip ho⟩
 have:=key xs.reverse
 rwa [List.reverse_reverse] at this
theorem hZ{xs:List De}(g:fo xs)(n:Int):jT xs n (cK xs n):=by
 obtain⟨L,hL⟩:=CQ fE n (xs.map De.rw);obtain⟨M,hM,_⟩:=Cd g hL.res;rw [<-ui hM];exact hM
theorem CS{xs:List De}(g:dF xs)(n:Int):fj dX n (xs.map De.rw) (oq dX n (xs.map De.rw)):=by
 obtain⟨L,hL⟩:=CQ dX n (xs.map De.rw);rw [<-Cm (Cn g) hL.res];exact hL.res
structure aM (N M:Str->Prop) (xs ys zs:List De):Prop where
 p:zs.Perm (xs++ys)
 x:gJ N xs
 y:gJ M ys
 d:∀s,N s->M s->False
 n:jX N
 m:jX M
 l:xs.length+ys.length<=41
section
variable {N M:Str->Prop} {xs ys zs:List De}
theorem aM.symm(T:aM N M xs ys zs):aM M N ys xs zs:=⟨T.p.trans Qc,T.y,T.x,λs a b=>T.d s b a,T.m,T.n,by have:=T.l;omega⟩
theorem aM.mem(T:aM N M xs ys zs){z:De}:z∈zs↔z∈xs\/z∈ys:=T.p.mem_iff.trans LI
theorem aM.gx(T:aM N M xs ys zs):dF xs:=T.x.good T.n (by have:=T.l;omega)
theorem aM.gz(T:aM N M xs ys zs):dF zs:=by
 refine gJ.good (N:=λs=>N s\/M s) (λs h=>h.elim (T.n s) (T.m s)) ⟨λz hz=>?_,?_⟩ ?_
 ·rcases T.mem.mp hz with h | h
  ·exact⟨(T.x.e z h).sh.imp λs=>.inl,(T.x.e z h).d0⟩
  ·exact⟨(T.y.e z h).sh.imp λs=>.inr,(T.y.e z h).d0⟩
 ·exact(P2 (λh=>dQ.symm h) T.p).mpr (Qk.mpr ⟨T.x.q,T.y.q,λa ha b hb=>.of_nm λe=>T.d _ (T.x.e a ha).sh.nm (by rw [e];exact(T.y.e b hb).sh.nm)⟩)
 ·rw [T.p.length_eq,LN];exact T.l
theorem aM.pp(T:aM N M xs ys zs):(ai zs).Perm (ai xs++ai ys):=by
 have:=T.p.filterMap De.pp
 rwa [OH] at this
theorem aM.pn(T:aM N M xs ys zs){p:Pp}(h:p∈ai xs):N p.nm/\N p.kd/\∀m∈p.ms,N m:=by
 cases (T.x.e _ (t8.mp h)).sh with
 | pap a b c d=>exact⟨a,b,c⟩
theorem aM.pm(T:aM N M xs ys zs){p:Pp}:p∈ai zs↔p∈ai xs\/p∈ai ys:=T.pp.mem_iff.trans LI
theorem aM.filt(T:aM N M xs ys zs){f:Pp->Bool}(h:∀p∈ai ys,f p=false):(bj (ai zs)).filter f=(bj (ai xs)).filter f:=by
 have nz:=T.gz.gd.gx.gp.nd;have nx:=T.gx.gd.gx.gp.nd;rw [<-oe nz,<-oe nx];refine Jd (n9 nx) ((T.pp.filter f).trans ?_);rw [NP,(P4 (l:=ai ys)).mpr λp hp=>by rw [h p hp];simp,Mw]
theorem aM.mks(T:aM N M xs ys zs){c:Pp}(hc:c∈ai xs):cD (ai zs) c=cD (ai xs) c:=by
 refine T.filt λp hp=>?_;unfold k7;rw [Bool.and_eq_false_iff];refine .inl (QQ.mpr λz=>?_);exact T.d _ ((T.pn hc).2.2 _ (Nr.mp z)) (T.symm.pn hp).1
theorem aM.mk1(T:aM N M xs ys zs){a b:Pp}(h:jf (ai zs) a b)(ha:a∈ai xs):jf (ai xs) a b:=by
 refine⟨ha,?_,h.2.2⟩;rcases T.pm.mp h.2.1 with z | z
 ·exact z
 ·exact(T.d _ (T.pn ha).1 ((T.symm.pn z).2.2 _ h.2.2.1)).elim
theorem aM.anc(T:aM N M xs ys zs){a b:Pp}(h:bW (ai zs) a b)(ha:a∈ai xs):bW (ai xs) a b:=by
 induction h with
 | one h=>exact .one (T.mk1 h ha)
 | more _ h ih=>exact .more ih (T.mk1 h ih.mem.2)
theorem aM.made(T:aM N M xs ys zs){c:Pp}(hc:c∈ai xs):gI (ai zs) c=gI (ai xs) c:=by
 have e:eS (ai zs) c=eS (ai xs) c:=by
  funext p;exact J6 ⟨λh=>T.anc h hc,λh=>h.imp λq hq=>T.pm.mpr (.inl hq)⟩
 unfold gI;rw [e];refine T.filt λp hp=>QQ.mpr λz=>?_;exact T.d _ (T.pn (fZ.mp z).mem.2).1 (T.symm.pn hp).1
theorem aM.newP(T:aM N M xs ys zs){l:List Pp}{c:Pp}(hc:c∈ai xs):newP (ai zs) l c=newP (ai xs) l c:=by
 unfold K14.newP;rw [T.mks hc]
theorem aM.lineG(T:aM N M xs ys zs):∀(f:Nat)(l:List Pp)(i:Nat),(∀p∈l,p∈ai xs)->lineG (ai zs) f l i=lineG (ai xs) f l i
 | 0,_,_,_=>rfl
 | f+1,l,i,h=>by
  rw [K14.lineG,K14.lineG];cases hc:l[i]? with
  | none=>rfl
  | some c=>
   have hm:=h c (LQ hc);show K14.lineG _ f _ _=K14.lineG _ f _ _;rw [T.newP hm];refine aM.lineG T f _ _ λp hp=>?_;rcases LI.mp hp with z | z
   ·exact h p z
   ·exact ur (LM.mp z).1
end
theorem CT{ps:List Pp}(nd:(ps.map (·.nm)).Nodup){c:Pp}:∀(f:Nat){l:List Pp}(i:Nat),hW ps c l->ps.length<=f+i->lineG ps (f+1) l i=lineG ps f l i
 | 0,l,i,h,hf=>by
  have:=iE h.nd h.sb;rw [uo R0,uo R0]
 | f+1,l,i,h,hf=>by
  rw [lineG,lineG];cases hc:l[i]? with
  | none=>rfl
  | some d=>exact CT nd f (i+1) (h.next nd d) R0
theorem CU{ps:List Pp}(nd:(ps.map (·.nm)).Nodup){c:Pp}(hc:c∈ps):∀k:Nat,lineG ps (ps.length+k) [c] 0=cA ps c
 | 0=>rfl
 | k+1=>by
  rw [<-CU nd hc k];exact CT nd (ps.length+k) 0 ⟨R5,by simpa using hc,[],rfl⟩ R0
theorem aM.line{N M:Str->Prop}{xs ys zs:List De}(T:aM N M xs ys zs){c:Pp}(hc:c∈ai xs):cA (ai zs) c=cA (ai xs) c:=by
 have nx:=T.gx.gd.gx.gp.nd;rw [<-CU nx hc (ai ys).length];unfold cA;rw [T.pp.length_eq,LN];exact T.lineG _ _ _ (by simpa using hc)
theorem bW.pre{ps:List Pp}{a b c:Pp}(h:jf ps a b)(h2:bW ps b c):bW ps a c:=by
 induction h2 with
 | one h2=>exact .more (.one h) h2
 | more _ h3 ih=>exact .more ih h3
theorem CV{ps:List Pp}{c:Pp}:∀(f:Nat)(l:List Pp)(i:Nat),(∀q∈l,q∈ps/\(q=c\/bW ps q c))->∀q∈lineG ps f l i,q=c\/bW ps q c
 | 0,l,i,h,q,hq=>(h q hq).2
 | f+1,l,i,h,q,hq=>by
  rw [lineG] at hq;cases hc:l[i]? with
  | none=>rw [hc] at hq;exact(h q hq).2
  | some d=>
   rw [hc] at hq;obtain⟨d1,d2⟩:=h d (LQ hc);refine CV f _ _ (λp hp=>?_) q hq;rcases LI.mp hp with z | z
   ·exact h p z
   ·have hm:=(k8 d1).mp (LM.mp z).1;refine⟨hm.1,.inr ?_⟩;rcases d2 with e | e
    ·rw [<-e];exact .one hm
    ·exact e.pre hm
theorem CW{ps:List Pp}(nd:(ps.map (·.nm)).Nodup){c:Pp}:∀(f:Nat)(l:List Pp)(i:Nat),hW ps c l->(∀j d,j < i->l[j]?=some d->∀p∈cD ps d,p∈l)->ps.length<=f+i->(∀q∈l,q∈lineG ps f l i)/\∀d∈lineG ps f l i,∀p∈cD ps d,p∈lineG ps f l i
 | 0,l,i,h,cl,hf=>by
  have hl:=iE h.nd h.sb;refine⟨λq hq=>hq,λd hd p hp=>?_⟩;have hd:d∈l:=hd;obtain⟨j,hj⟩:=Ni hd;have hj1:=(Lz.mp hj).1;exact cl j d R0 hj p hp
 | f+1,l,i,h,cl,hf=>by
  rw [lineG];cases hc:l[i]? with
  | none=>
   show(∀q∈l,q∈l)/\∀d∈l,∀p∈cD ps d,p∈l;refine⟨λq hq=>hq,λd hd p hp=>?_⟩;obtain⟨j,hj⟩:=Ni hd;have h1:=List.getElem?_eq_none_iff.mp hc;have h2:=(Lz.mp hj).1;exact cl j d R0 hj p hp
  | some d=>
   have il:=(Lz.mp hc).1;have key:∀j e,j < i+1->(l++newP ps l d)[j]?=some e->∀p∈cD ps e,p∈l++newP ps l d:=λj e hj he p hp=>by
    rw [MH R0] at he;by_cases e1:j=i
    ·subst e1;rw [hc] at he;cases he;by_cases z:jh l p=true
     ·exact MF _ (Ct.mp z)
     ·exact L5 _ (LM.mpr ⟨hp,by simpa using z⟩)
    ·exact MF _ (cl j e R0 he p hp)
   obtain⟨a,b⟩:=CW nd f (l++newP ps l d) (i+1) (h.next nd d) key R0;exact⟨λq hq=>a q (MF _ hq),b⟩
theorem uD{ps:List Pp}(nd:(ps.map (·.nm)).Nodup){c:Pp}(hc:c∈ps){q:Pp}:q∈cA ps c↔q=c\/bW ps q c:=by
 constructor
 ·exact CV _ _ _ (λp hp=>by rw [LX] at hp;subst hp;exact⟨hc,.inl rfl⟩) q
 ·obtain⟨a,b⟩:=CW nd ps.length [c] 0 ⟨R5,by simpa using hc,[],rfl⟩ (λj d hj=>by omega) R0;have up:∀{x y:Pp},bW ps x y->y∈cA ps c->x∈cA ps c:=λ{x y} h=>by
   induction h with
   | one h=>exact λhy=>b _ hy _ ((k8 h.2.1).mpr h)
   | more _ h ih=>exact λhy=>ih (b _ hy _ ((k8 h.2.1).mpr h))
  rintro(e | e)
  ·rw [e];exact a c R5
  ·exact up e (a c R5)
theorem Kw{ps:List Pp}(nd:(ps.map (·.nm)).Nodup){c:Pp}(hc:c∈ps){h:Hd}:fF (cA ps c) h=true↔told h.ip h.tn c=true\/h.dp=true/\∃a,told h.ip h.tn a=true/\bW ps a c:=by
 obtain⟨r,er⟩:=(oA nd hc).hd;unfold fF;cases hd:h.dp with
 | false=>
  rw [R1 Lx,er];simp
 | true=>
  rw [R3 rfl,MQ];constructor
  ·rintro⟨q,hq,e⟩;rcases(uD nd hc).mp hq with z | z
   ·rw [<-z];exact .inl e
   ·exact .inr ⟨rfl,q,e,z⟩
  ·rintro(e | ⟨_,q,e,z⟩)
   ·exact⟨c,(uD nd hc).mpr (.inl rfl),e⟩
   ·exact⟨q,(uD nd hc).mpr (.inr z),e⟩
def lB{α:Type}(f:α->Str)(a b:α):Prop:=cH (f a) (f b)=true/\f a≠f b
theorem Kx{α:Type}{f:α->Str}(a b:α)(h:lB f a b):¬lB f b a:=λz=>h.2 (mQ h.1 z.1)
theorem oE{α:Type}{f:α->Str}{l1 l2:List α}(h1:l1.Pairwise (lB f))(h2:l2.Pairwise (lB f))(h:∀z,z∈l1↔z∈l2):l1=l2:=
 iB Kx ((N0 (h1.imp λz e=>z.2 (by rw [e])) (h2.imp λz e=>z.2 (by rw [e]))).mpr h) h1 h2
theorem CY{a b:Str}(h:d9 a b=true):cH a b=true/\a≠b:=by
 have h:=of_decide_eq_true h;exact⟨decide_eq_true (List.le_of_lt h),λe=>by rw [e] at h;exact Ri _ h⟩
section
variable {N M:Str->Prop} {xs ys zs:List De}
theorem aM.stR(T:aM N M xs ys zs){n:Int}{z:Str×Pt}:jg zs n z↔jg xs n z\/jg ys n z:=by
 have half:∀{N M:Str->Prop}{xs ys:List De},aM N M xs ys zs->∀d,d<=n->De.oth (Lk "rule") d z.1 [z.2.enc]∈xs->((∀x∈zs,x.isE=true->x.nm=z.1->x.d<=n->x.d<=d)↔∀x∈xs,x.isE=true->x.nm=z.1->x.d<=n->x.d<=d):=λ{N M xs ys} T d hd hm=>
  ⟨λh x hx=>h x (T.mem.mpr (.inl hx)),λh x hx e1 e2 e3=>by
   rcases T.mem.mp hx with y | y
   ·exact h x y e1 e2 e3
   ·exact(T.d z.1 (T.x.e _ hm).sh.nm (by rw [<-e2];exact(T.y.e _ y).sh.nm)).elim⟩
 constructor
 ·rintro⟨d,hd,hm,ha⟩;rcases T.mem.mp hm with y | y
  ·exact .inl ⟨d,hd,y,(half T d hd y).mp ha⟩
  ·exact .inr ⟨d,hd,y,(half T.symm d hd y).mp ha⟩
 ·rintro(⟨d,hd,hm,ha⟩ | ⟨d,hd,hm,ha⟩)
  ·exact⟨d,hd,T.mem.mpr (.inl hm),(half T d hd hm).mpr ha⟩
  ·exact⟨d,hd,T.mem.mpr (.inr hm),(half T.symm d hd hm).mpr ha⟩
theorem aM.rul(T:aM N M xs ys zs){n:Int}{L:List (Str×Pt)}(hp:L.Perm (cK xs n++cK ys n))(hs:L.Pairwise λa b=>d9 a.1 b.1=true):L=cK zs n:=by
 have hz:=hZ T.gz.gd n;refine oE (f:=Prod.fst) (hs.imp λz=>CY z) hz.1 λz=>?_;rw [hp.mem_iff,LI,(hZ T.gx.gd n).2,(hZ T.symm.gx.gd n).2,hz.2];exact T.stR.symm
theorem aM.rul_nd(T:aM N M xs ys zs)(n:Int):((cK xs n++cK ys n).map (·.1)).Nodup:=by
 have half:∀{N M:Str->Prop}{xs ys:List De},aM N M xs ys zs->((cK xs n).map (·.1)).Nodup/\∀z∈cK xs n,N z.1:=λ{N M xs ys} T=>by
  have hx:=hZ T.gx.gd n;refine⟨?_,λz hz=>?_⟩
  ·rw [ML,LO];exact hx.1.imp λz=>z.2
  ·obtain⟨d,_,hm,_⟩:=(hx.2 z).mp hz;exact(T.x.e _ hm).sh.nm
 rw [LS,Nw];refine⟨(half T).1,(half T.symm).1,λa ha b hb e=>?_⟩;obtain⟨u,hu,rfl⟩:=Lv.mp ha;obtain⟨v,hv,rfl⟩:=Lv.mp hb;exact T.d _ ((half T).2 u hu) (by rw [e];exact(half T.symm).2 v hv)
theorem iH{xs:List De}(g:dF xs)(n:Int):(bC xs n).Pairwise (lB Hd.nm):=by
 unfold bC iD;rw [LO];exact((lq (CS g n)).sublist MK).imp λz=>z
def jY(xs:List De)(n:Int)(h:Hd):Prop:=∃d,d<=n/\De.oth (Lk "hold") d h.nm [bZ h.ip h.tn,.bool h.dp]∈xs/\∀x∈xs,x.isL=true->x.nm=h.nm->x.d<=n->x.d<=d
theorem CZ{x:De}(h:x.isL=true):x.rw.w∈dX/\x.rw.nm=x.nm/\x.rw.n=x.d:=by
 cases x with
 | pap p=>cases h
 | oth w d nm r=>
  refine⟨?_,rfl,rfl⟩;simp only [De.isL,NO,beq_iff_eq] at h;show w∈dX;unfold dX;rcases h with e | e
  ·rw [e];exact L9
  ·rw [e];exact L0 _ L9
theorem Ky{x:De}(h:x.rw.w∈dX):x.isL=true:=by
 cases x with
 | pap p=>exact absurd (ow h) (by show ¬(Lk "paper"=_\/Lk "paper"=_);decide+kernel)
 | oth w d nm r=>
  have h:w∈dX:=h;rcases ow h with e | e <;> simp [De.isL,e]
theorem C0{ip ip':Bool}{tn tn':Str}(h:bZ ip tn=bZ ip' tn'):ip=ip'/\tn=tn':=by
 have n1:Lk "paper"≠Lk "kind":=cp
 unfold bZ at h;simp only [Nq,Mr,M9,and_true] at h;cases ip <;> cases ip' <;> simp [n1,Ne.symm n1] at h
 ·exact⟨rfl,h⟩
 ·exact⟨rfl,h⟩
theorem fq{xs:List De}(g:dF xs){n:Int}{h:Hd}:h∈bC xs n↔jY xs n h:=by
 have hl:=CS g n;unfold bC iD;rw [Lv];constructor
 ·rintro⟨x,hx,rfl⟩;obtain⟨h1,h2⟩:=LM.mp hx;obtain⟨a1,a2,a3⟩:=hl.it x h1;obtain⟨y,hy,rfl⟩:=Lv.mp a1;have hw:y.rw.w=Lk "hold":=eq_of_beq h2;cases y with
  | pap p=>exact absurd hw (by show Lk "paper"≠_;decide+kernel)
  | oth w d nm r=>
   have hw:w=Lk "hold":=hw;subst hw;obtain⟨ip,tn,dp,e,_⟩:=g.ho _ _ _ hy;subst e;rw [ot (ip:=ip) (tn:=tn) (dp:=dp) rfl];refine⟨d,a2.2,hy,λx hx e1 e2 e3=>?_⟩;obtain⟨b1,b2,b3⟩:=CZ e1;have:=a3 x.rw (Lv.mpr ⟨x,hx,rfl⟩) ⟨b1,by rw [b3];exact e3⟩ (by rw [b2];exact e2);rw [b3] at this;exact this
 ·rintro⟨d,hd,hm,ha⟩;obtain⟨nm,ip,tn,dp⟩:=h;have hmr:(De.oth (Lk "hold") d nm [bZ ip tn,.bool dp]).rw∈xs.map De.rw:=Lv.mpr ⟨_,hm,rfl⟩;have hok:ck dX n (De.oth (Lk "hold") d nm [bZ ip tn,.bool dp]).rw:=⟨L9,hd⟩;obtain⟨x,hx,xn⟩:=hl.al _ hmr hok;have xn:x.nm=nm:=xn;obtain⟨a1,a2,a3⟩:=hl.it x hx;obtain⟨y,hy,rfl⟩:=Lv.mp a1;have yl:=Ky a2.1;obtain⟨b1,b2,b3⟩:=CZ yl;have c1:d<=y.d:=by have:=a3 _ hmr hok xn.symm;rw [b3] at this;exact this
  have c2:y.d<=d:=ha y hy yl (b2.symm.trans xn) (by have:=a2.2;rw [b3] at this;exact this);have e:=g.rh y hy _ hm yl (by simp [De.isL]) (PR c2 c1) (b2.symm.trans xn);refine⟨y.rw,LM.mpr ⟨hx,by rw [e];exact beq_self_eq_true _⟩,?_⟩;rw [e];exact ot (ip:=ip) (tn:=tn) (dp:=dp) rfl
theorem aM.stH(T:aM N M xs ys zs){n:Int}{h:Hd}:jY zs n h↔jY xs n h\/jY ys n h:=by
 have half:∀{N M:Str->Prop}{xs ys:List De},aM N M xs ys zs->∀d,d<=n->De.oth (Lk "hold") d h.nm [bZ h.ip h.tn,.bool h.dp]∈xs->((∀x∈zs,x.isL=true->x.nm=h.nm->x.d<=n->x.d<=d)↔∀x∈xs,x.isL=true->x.nm=h.nm->x.d<=n->x.d<=d):=λ{N M xs ys} T d hd hm=>
  ⟨λh x hx=>h x (T.mem.mpr (.inl hx)),λh' x hx e1 e2 e3=>by
   rcases T.mem.mp hx with y | y
   ·exact h' x y e1 e2 e3
   ·exact(T.d h.nm (T.x.e _ hm).sh.nm (by rw [<-e2];exact(T.y.e _ y).sh.nm)).elim⟩
 constructor
 ·rintro⟨d,hd,hm,ha⟩;rcases T.mem.mp hm with y | y
  ·exact .inl ⟨d,hd,y,(half T d hd y).mp ha⟩
  ·exact .inr ⟨d,hd,y,(half T.symm d hd y).mp ha⟩
 ·rintro(⟨d,hd,hm,ha⟩ | ⟨d,hd,hm,ha⟩)
  ·exact⟨d,hd,T.mem.mpr (.inl hm),(half T d hd hm).mpr ha⟩
  ·exact⟨d,hd,T.mem.mpr (.inr hm),(half T.symm d hd hm).mpr ha⟩
theorem aM.hol(T:aM N M xs ys zs){n:Int}{L:List Hd}(hp:L.Perm (bC xs n++bC ys n))(hs:L.Pairwise λa b=>d9 a.nm b.nm=true):L=bC zs n:=by
 refine oE (f:=Hd.nm) (hs.imp λz=>CY z) (iH T.gz n) λz=>?_;rw [hp.mem_iff,LI,fq T.gx,fq T.symm.gx,fq T.gz];exact T.stH.symm
theorem aM.hn(T:aM N M xs ys zs){n:Int}{h:Hd}(hh:h∈bC xs n):N h.nm/\N h.tn:=by
 obtain⟨d,_,hm,_⟩:=(fq T.gx).mp hh;have z:=(T.x.e _ hm).sh;refine⟨z.nm,?_⟩;generalize hr:[bZ h.ip h.tn,Nf h.dp]=r at z;generalize hw:Lk "hold"=w at z;cases z with
 | hap=>exact absurd hw cp
 | rue=>exact absurd hw cp
 | fin=>cases hr
 | lift=>cases hr
 | hold a b=>
  simp only [Mr] at hr;rw [(C0 hr.1).2];exact b
 | leave=>cases hr
theorem aM.hol_nd(T:aM N M xs ys zs)(n:Int):((bC xs n++bC ys n).map (·.nm)).Nodup:=by
 rw [LS,Nw];refine⟨?_,?_,λa ha b hb e=>?_⟩
 ·rw [ML,LO];exact(iH T.gx n).imp λz=>z.2
 ·rw [ML,LO];exact(iH T.symm.gx n).imp λz=>z.2
 ·obtain⟨u,hu,rfl⟩:=Lv.mp ha;obtain⟨v,hv,rfl⟩:=Lv.mp hb;exact T.d _ (T.hn hu).1 (by rw [e];exact(T.symm.hn hv).1)
theorem aM.cov(T:aM N M xs ys zs){n:Int}{c:Pp}(hc:c∈ai xs):dY (bC zs n) (cA (ai zs) c)=dY (bC xs n) (cA (ai xs) c):=by
 rw [T.line hc];unfold dY;congr 1;refine oE ((iH T.gz n).sublist MK) ((iH T.gx n).sublist MK) λh=>?_;rw [LM,LM,fq T.gz,fq T.gx];have lin:∀p∈cA (ai xs) c,N p.nm/\N p.kd:=λp hp=>⟨(T.pn ((oA T.gx.gd.gx.gp.nd hc).sb p hp)).1,(T.pn ((oA T.gx.gd.gx.gp.nd hc).sb p hp)).2.1⟩;refine⟨λ⟨a,b⟩=>⟨?_,b⟩,λuu69=>by obtain⟨a,b⟩:=uu69;exact⟨T.stH.mpr (.inl a),b⟩⟩;rcases T.stH.mp a with z | z
 ·exact z
 ·exfalso;have hm:=(T.symm.hn ((fq T.symm.gx).mpr z)).2;unfold fF at b;obtain⟨p,hp,e⟩:=MQ.mp b;have hp:p∈cA (ai xs) c:=by
   split at hp
   ·exact hp
   ·exact MG hp
  unfold told at e;have e:=eq_of_beq e;split at e
  ·exact T.d _ (lin p hp).1 (by rw [<-e];exact hm)
  ·exact T.d _ (lin p hp).2 (by rw [<-e];exact hm)
theorem aM.rcp(T:aM N M xs ys zs){c:Pp}(hc:c∈ai xs):iC zs c=iC xs c:=by
 unfold iC;rw [T.mks hc];congr 1;refine Jo ?_;unfold dW;refine((T.p.filter _).map _).trans ?_;rw [NP,(P4 (l:=ys)).mpr,Mw];intro y hy e;cases y with
 | pap p=>cases e
 | oth w d nm r=>
  simp only [hU,Mf,beq_iff_eq] at e;exact T.d _ (T.pn hc).1 (by rw [<-e.2];exact(T.y.e _ hy).sh.nm)
end
theorem Kz{xs:List De}(g:fo xs){n m:Int}(h:∀x∈xs,x.d<=n↔x.d<=m):cK xs n=cK xs m:=by
 refine ui ⟨(hZ g n).1,λz=>((hZ g n).2 z).trans ?_⟩;have half:∀{n m:Int},(∀x∈xs,x.d<=n↔x.d<=m)->jg xs n z->jg xs m z:=λh uu70=>by obtain⟨d,hd,hm,ha⟩:=uu70;exact⟨d,(h _ hm).mp hd,hm,λx hx a b c=>ha x hx a b ((h x hx).mpr c)⟩
 exact⟨half h,half λx hx=>(h x hx).symm⟩
theorem KA{xs:List De}(g:dF xs){n m:Int}(h:∀x∈xs,x.d<=n↔x.d<=m):bC xs n=bC xs m:=by
 refine oE (iH g n) (iH g m) λz=>?_;rw [fq g,fq g];have half:∀{n m:Int},(∀x∈xs,x.d<=n↔x.d<=m)->jY xs n z->jY xs m z:=λh uu71=>by obtain⟨d,hd,hm,ha⟩:=uu71;exact⟨d,(h _ hm).mp hd,hm,λx hx a b c=>ha x hx a b ((h x hx).mpr c)⟩
 exact⟨half h,half λx hx=>(h x hx).symm⟩
theorem KC{xs:List De}(g:fo xs){n:Int}(h:∀x∈xs,¬x.d<=n):cK xs n=[]:=by
 refine OM.mpr λz hz=>?_;obtain⟨d,hd,hm,_⟩:=((hZ g n).2 z).mp hz;exact h _ hm hd
theorem KD{xs:List De}(g:dF xs){n:Int}(h:∀x∈xs,¬x.d<=n):bC xs n=[]:=by
 refine OM.mpr λz hz=>?_;obtain⟨d,hd,hm,_⟩:=(fq g).mp hz;exact h _ hm hd
theorem C1:aY (av jK) ["_law_names_here","_law_others_here","_law_turn","_law_letters","_law_some"] ["_law_one"] 1 [] ⟨LA,[(Ln ".0",TQ),(Ln "_law_one",TQ)],false,false,[]⟩:= .of
theorem C2:aY (av jK) ["_law_names_here","_law_others_here","_law_turn","_law_letters","_law_some"] ["_law_one","_law_names_here"] 1 [0] ⟨LA,[ (Ln ".0",TQ),(Ln "_law_one",TQ),(Ln "_law_names_here",LK)],false,false,[]⟩:= .of
theorem C3:aY (av jK) ["_law_names_here","_law_others_here","_law_turn","_law_letters","_law_some"] ["_law_k","_law_others_here","_law_some"] 1 [1,4] ⟨LA,[ (Ln ".0",TQ),(Ln "_law_k",TQ),(Ln "_law_others_here",LK),(Ln "_law_some",LK)],false,false,[]⟩:= .of
section
variable {P:Sk} {w:Sm} {K:Ll} {mg:Str->Option R7} {base:Sn} {t:cC}
theorem KH:∀k:Nat,k < 26->(Txt.slice (Lk "abcdefghijklmnopqrstuvwxyz") (some (k:Int)) none++Txt.slice (Lk "abcdefghijklmnopqrstuvwxyz") none (some (k:Int))).cps.toList.length=26/\(Txt.slice (Lk "abcdefghijklmnopqrstuvwxyz") (some (k:Int)) none++Txt.slice (Lk "abcdefghijklmnopqrstuvwxyz") none (some (k:Int))).cps.toList.Nodup/\∀c∈(Txt.slice (Lk "abcdefghijklmnopqrstuvwxyz") (some (k:Int)) none++Txt.slice (Lk "abcdefghijklmnopqrstuvwxyz") none (some (k:Int))).cps.toList,c < 128:=cp
theorem KI{kd:List (ah×R6)}{k:ah}{d:R6}(h:k ∉ kd.map (·.1)):cN kd k d=kd++[(k,d)]:=by
 unfold cN;rw [R1];rw [MQ];rintro⟨p,hp,e⟩;exact h (Lv.mpr ⟨p,hp,of_decide_eq_true e⟩)
theorem uE:∀(kd acc:List (ah×R6)),((acc++kd).map (·.1)).Nodup->kd.foldl (λa p=>cN a p.1 p.2) acc=acc++kd
 | [],acc,_=>by simp
 | p::kd,acc,nd=>by
  have e:acc++p::kd=(acc++[p])++kd:=R5
  rw [Nh,KI,uE kd (acc++[(p.1,p.2)]),e]
  ·rw [<-e];exact nd
  ·intro h;rw [LS,Nw] at nd;exact nd.2.2 p.1 h p.1 R5 rfl
def ji(c:Nat):Str:=⟨#[c]⟩
def iI(c:Nat):Str:=⟨#[c]⟩++Lk "q"
theorem KJ{a b:Nat}(h:ji a=ji b):a=b:=by
 have:=congrArg (λs:Str=>s.cps.toList) h;exact(NH this).1
theorem C4(c:Nat):(iI c).cps.toList=[c,113]:=by
 unfold iI;rw [qZ,ON];rfl
theorem KL{a b:Nat}(h:iI a=iI b):a=b:=by
 have:=congrArg (λs:Str=>s.cps.toList) h;simp only [C4] at this;exact(NH this).1
theorem KN{a b:Nat}(h:ji a=iI b):False:=by
 have:=congrArg (λs:Str=>s.cps.toList) h;simp only [C4] at this;exact absurd (congrArg Oq this) (by show ¬1=2;decide)
def iJ(cs:List Nat):List Str:=cs.map ji++cs.map iI
theorem KO{cs:List Nat}(h:cs.Nodup):(iJ cs).Nodup:=by
 unfold iJ;refine Nw.mpr ⟨?_,?_,λa ha b hb e=>?_⟩
 ·rw [ML,LO];exact h.imp λz e=>z (KJ e)
 ·rw [ML,LO];exact h.imp λz e=>z (KL e)
 ·obtain⟨x,_,rfl⟩:=Lv.mp ha;obtain⟨y,_,rfl⟩:=Lv.mp hb;exact KN e
theorem KP{cs:List Nat}(h:∀c∈cs,c < 128):∀m∈iJ cs,bS 2 m:=λm hm=>by
 have q:bS 1 (Lk "q"):=⟨cp,cp⟩;rcases LI.mp hm with z | z
 ·obtain⟨c,hc,rfl⟩:=Lv.mp z;exact(bS.chr (by have:=h c hc;omega)).mono RZ
 ·obtain⟨c,hc,rfl⟩:=Lv.mp z;exact(bS.chr (c:=c) (by have:=h c hc;omega)).append q
theorem C5{α:Type}(p:α->Bool):∀l:List α,(l.filter p).length+(l.filter λx=>!p x).length=l.length
 | []=>rfl
 | a::l=>by
  have ih:=C5 p l;rw [Ms,Ms];cases h:p a <;> simp <;> omega
def KQ:List R6->(R6->Prop)->Prop:=λds Q=>∃(ns os:List Str)(v:Int),ds=[.list (ns.map .str),.list (os.map .str),.int v]/\0<=v/\v < 26/\ns.length=8/\lz ns/\os.length=8/\os.Nodup/\∀ms:List Str,ms.length=8->ms.Nodup->(∀m∈ms,LB m=true/\m ∉ ns)->Q (g7 os (ms.map .str))
theorem KR(T:Txt K mg t):aF P w K mg base CX0 1 t.a_p t.d_p ["_law_names_here","_law_others_here","_law_turn"] (bf K KQ):=by
 refine T.F_p.F.okD nY (λds Q h=>?_) (λ_ _ _ _ H O ds Q E hr h=>?_)
 ·obtain⟨ns,os,v,rfl,_⟩:=h;rfl
 ·obtain⟨ns,os,v,rfl,v0,v1,nl,nok,ol,ond,q⟩:=h;refine'⟨_,?A,?B⟩
  case A=>
   refine' ar ?C ?D
   case C=>exact(bu (i:=3) nY.nd rfl R4 aT)
   case' D=>refine' ar ?E ?F
   case E=>
    refine' bu (i:=3) nY.nd rfl R4 ?G (hs:=i9)
    case G=>exact(aQ lS mE (mF (df (dv 3)) (cQ (dv 2)) eM) (mF (df (dv 3)) eM (cQ (dv 2))))
   case' F=>refine' ar ?H ?I
   case H=>exact(bu (i:=4) nY.nd rfl R4 (fe (eJ rfl C2 (df (fe (wQ (df (fe (Im rfl rfl T.n_list wG (aR (dv 3) aO)))) (df (fe (GV rfl C1 (df (dv 3)) aK cg RZ (λ_ _ _ _=>(aI (i:=0) C1.nd rfl R4)) (λ_ _ _ _=>d6) (λ_ _ _ _=>(aQ lS mE (dv 0) aT)))))))) aK cg RZ (λ_ _ _ _=>(aI (i:=0) C2.nd rfl R4)) (λ_ _ _ _=>(d4 (aP (rp hr) i8 (dv 0) (dv 1) rfl))) (λ_ _ _ _=>(dv 0)))))
   case' I=>refine' az ?J
   case' J=>refine' aH ?K
   case K=>exact(Bk (A9 rfl rfl T.n_dict (aR (fe (qv rfl C3 rfl T.n_range (aR (PE.imp (bN eV rfl T.n_len MA (aR (dv 1) aO)) (bt fP)) aO) aK cg RZ (λ_ _ _ _=>(aI (i:=0) C3.nd rfl R4)) (λ_ _ _ _=>d6) (λ_ _ _ _=>(bp (aa (au bE bR (dv 1) (dv 0)) (aa (au bE bR (dv 2) (dv 0)) ag)))))) aO)))
  case B=>
  clear hr T;walk_at "d";obtain⟨k,rfl⟩:=My v0;obtain⟨z1,z2,z3⟩:=KH k R0;have ga:bS 26 (Lk "abcdefghijklmnopqrstuvwxyz"):=⟨cp,cp⟩;have g1:=(ga.slice (some (k:Int)) none).le;have g2:=(ga.slice none (some (k:Int))).le;have l0:=ga.le;refine⟨R0,R0,R0,?_⟩;clear ga g1 g2 l0;generalize (Txt.slice (Lk "abcdefghijklmnopqrstuvwxyz") (some (k:Int)) none++Txt.slice (Lk "abcdefghijklmnopqrstuvwxyz") none (some (k:Int)))=Z at z1 z2 z3;rw [LR] at z1;have zl:Z.length=26:=z1;refine⟨R0,R0,?_⟩;have es:mN Z=(Z.cps.toList.map ji).map .str:=by unfold mN;rw [LH];rfl
  rw [es,LH];refine cI (enc:=Lp ∘ ji) (λ_=>true) (λc=>.str (iI c)) (λc hc R S h=>?_) ?_
  ·simp only [NF];walk_at "d";rw [R3 rfl] at h;refine⟨?_,h⟩;show 1+_<=_;decide+kernel
  ·rw [gG];have ec:Z.cps.toList.map (Lp ∘ ji)++(Z.cps.toList.map λc=>Lp (iI c))=(iJ Z.cps.toList).map .str:=by unfold iJ;rw [LS,LH,LH];rfl
   rw [ec];have nl2:=nok;have cl:(iJ Z.cps.toList).length=52:=by unfold iJ;rw [LN,Lm,Lm,LR,z1]
   have cn:=KO z2;have co:=KP z3;refine⟨by rw [Lm,Lm,LR,z1];decide,by rw [Lm,cl];decide,?_⟩;generalize iJ Z.cps.toList=C at cl cn co;refine cI (enc:=Lp) (λx=>!ns.contains x) Lp (λx hx R S h=>?_) ?_
   ·walk_at "d";refine⟨cR.mpr (co x hx).ok,ua λm hm=>(nok m hm).ok,?_⟩;rw [t9];simpa using h
   ·have fl:=C5 (λx=>ns.contains x) C;have f8:(C.filter λx=>ns.contains x).length<=8:=by
     rw [<-nl];exact iE (cn.sublist MK) λz hz=>Nr.mp (LM.mp hz).2
    have sn:(C.filter λx=>!ns.contains x).Nodup:=cn.sublist MK;have so:∀m∈C.filter (λx=>!ns.contains x),LB m=true/\m ∉ ns:=λm hm=>by
     obtain⟨a,b⟩:=LM.mp hm;exact⟨(co m a).ok,λz=>by rw [Nr.mpr z] at b;cases b⟩
    generalize (C.filter λx=>!ns.contains x)=S at fl sn so;have sl:44<=S.length:=R0
    rw [Lm,ol];refine⟨RZ,RZ,λi acc=>acc=((os.zip (S.take 8)).take i).map λp=>.tuple [.str p.1,.str p.2],rfl,?_,?_⟩
    ·rintro i z acc hz rfl;obtain⟨hi,rfl⟩:=i4 hz;have hi:i < 8:=by simpa using hi
     walk_at "d";have e1:os[i]?=some (os[i]'R0):=LG _;have e2:S[i]?=some (S[i]'R0):=LG _;refine⟨_,by rw [QJ];exact eU (by rw [LD,e1];rfl),_,by rw [QJ];exact eU (by rw [LD,e2];rfl),?_⟩;have e3:(os.zip (S.take 8))[i]?=some (os[i]'R0,S[i]'R0):=by
      rw [List.getElem?_zip_eq_some];exact⟨e1,by rw [List.getElem?_take,R3 hi];exact e2⟩
     generalize os.zip (S.take 8)=W at e3;rw [Mx,e3,LS];rfl
    ·rintro acc rfl;have tl:(S.take 8).length=8:=by rw [Mc];omega
     rw [kE,L3 (by rw [List.length_zip,ol,tl];decide)];have kz:((os.zip (S.take 8)).map λp=>(Mi p.1,Lp p.2)).map (·.1)=os.map (Mi:Str->ah):=by
      rw [LH,<-Q1 (l₁:=os) (l₂:=S.take 8) R0,LH];rw [Q1 R0];rfl
     have fd:=uE ((os.zip (S.take 8)).map λp=>(Mi p.1,Lp p.2)) [] (by
      rw [Mq,kz,ML,LO];exact ond.imp λz e=>z (PV e))
     refine⟨(os.zip (S.take 8)).map λp=>(Mi p.1,.str p.2),by rw [LH];rfl,os,?_,?_⟩
     ·rw [fd,Mq];exact kz
     ·rw [fd,Mq];have e:Mm (λx:ah×R6=>x.2) (Mm (λp:Str×Str=>(Mi p.1,Lp p.2)) (os.zip (S.take 8)))=(S.take 8).map .str:=by
       rw [LH]
       conv=>rhs;rw [<-OD (l₁:=os) (l₂:=S.take 8) R0]
       rw [LH];rfl
      rw [e];exact q _ tl (sn.sublist (Nu _ _)) λm hm=>so m (MG hm)
end
theorem C6:aY (av nQ) ["_law_deed_here","_law_known","_law_word","_law_day_here","_law_parts_here"] ["_law_one","_law_known"] 1 [1] ⟨LA,[ (Ln ".0",TQ),(Ln "_law_one",TQ),(Ln "_law_known",LK)],false,false,[]⟩:= .of
section
variable {P:Sk} {w:Sm} {K:Ll} {mg:Str->Option R7} {base:Sn} {t:cC}
def bD:List Str->List Str->Str->Str
 | o::os,m::ms,s=>if o=s then m else bD os ms s
 | _,_,_=>Lk ""
theorem C7:∀{os ms:List Str}{s:Str},os.length=ms.length->s∈os->cY os (ms.map Lp) s=some (.str (bD os ms s))
 | o::os,m::ms,s,hl,h=>by
  rw [Lq,cY,bD];by_cases e:o=s
  ·rw [R3 e,R3 e]
  ·rw [R1 e,R1 e];exact C7 (by simpa using hl) ((LF.mp h).resolve_left λz=>e z.symm)
 | o::os,[],s,hl,h=>by simp at hl
 | [],ms,s,hl,h=>by cases h
theorem oF:∀{os ms:List Str}{s:Str},os.length=ms.length->s∈os->bD os ms s∈ms
 | o::os,m::ms,s,hl,h=>by
  rw [bD];by_cases e:o=s
  ·rw [R3 e];exact L9
  ·rw [R1 e];exact L0 _ (oF (by simpa using hl) ((LF.mp h).resolve_left λz=>e z.symm))
 | o::os,[],s,hl,h=>by simp at hl
 | [],ms,s,hl,h=>by cases h
theorem C8:∀{os ms:List Str}{s s':Str},os.length=ms.length->ms.Nodup->s∈os->s'∈os->bD os ms s=bD os ms s'->s=s'
 | o::os,m::ms,s,s',hl,nd,h,h',e=>by
  rw [MO] at nd;rw [bD,bD] at e;have hl':os.length=ms.length:=by simpa using hl
  by_cases e1:o=s
  ·by_cases e2:o=s'
   ·rw [<-e1,<-e2]
   ·rw [R3 e1,R1 e2] at e;exact absurd (by rw [e];exact oF hl' ((LF.mp h').resolve_left λz=>e2 z.symm)) nd.1
  ·by_cases e2:o=s'
   ·rw [R1 e1,R3 e2] at e;exact absurd (by rw [<-e];exact oF hl' ((LF.mp h).resolve_left λz=>e1 z.symm)) nd.1
   ·rw [R1 e1,R1 e2] at e;exact C8 hl' nd.2 ((LF.mp h).resolve_left λz=>e1 z.symm) ((LF.mp h').resolve_left λz=>e2 z.symm) e
 | o::os,[],s,s',hl,_,h,_,_=>by simp at hl
 | [],ms,s,s',hl,_,h,_,_=>by cases h
structure oG (r:Str->Str) (x y:De):Prop where
 wo:y.w=x.w
 da:y.d=x.d
 na:y.nm=r x.nm
 hp:∀d nm wd,x= .oth (Lk "happens") d nm [.str wd]->y= .oth (Lk "happens") d (r nm) [.str (r wd)]
def KS:List R6->(R6->Prop)->Prop:=λds Q=>∃(os ms:List Str)(x:De),ds=[x.enc,g7 os (ms.map .str)]/\os.length=ms.length/\jX (·∈ms)/\cq (·∈os) x/\∀y,cq (·∈ms) y->oG (bD os ms) x y->Q y.enc
theorem KU(T:Txt K mg t):aF P w K mg base CX0 1 t.a_o t.d_o ["_law_deed_here","_law_known"] (bf K KS):=by
 refine T.F_o.F.okD kY (λds Q h=>?_) (λ_ _ _ _ H O ds Q E hr h=>?_)
 ·obtain⟨os,ms,x,rfl,_⟩:=h;rfl
 ·obtain⟨os,ms,x,rfl,hl,no,sh,q⟩:=h;refine'⟨_,?A,?B⟩
  case A=>
   refine' ar ?C ?D
   case C=>exact(mz (jF (df (dv 0)) eM (cQ af)) (gi (n:=2) rfl (cw (aI (i:=2) kY.nd rfl R4) (cw (aI (i:=3) kY.nd rfl R4) gh))) (gX (cG aK (cG aK gW))))
   case' D=>refine' ar ?E ?F
   case E=>
    refine' bH ?G ?H bG
    case G=>exact(aP (dB hr) dD (dv 2) aT (aE _))
    case' H=>refine' az ?I
    case' I=>refine' aH ?J
    case' J=>refine' bp ?K
    case' K=>refine' aa (dv 2) ?L
    case' L=>refine' aa (dv 3) ?M
    case' M=>refine' aa ?N ?O
    case N=>exact(fA hr.units (dv 1) (au ay aB (dv 0) af) (λ_ _=>rfl))
    case' O=>refine' aa ?P ?Q
    case P=>exact(fA hr.units (dv 1) (au ay aB (dv 0) af) (λ_ _=>rfl))
    case' Q=>refine' aa ?R ag
    case R=>exact(PE.imp (cB dH rfl T.n_tuple dJ (aR (fe (xC rfl T.n_sorted MB (aR (fe (iY rfl C6 (df (au ay aB (dv 0) af)) aK cg RZ (λ_ _ _ _=>(aI (i:=0) C6.nd rfl R4)) (λ_ _ _ _=>d6) (λ_ _ _ _=>(fA hr.units (dv 1) (dv 0) (λ_ _=>rfl))))) aO))) aO)) (bt dN))
   case' F=>refine' ar ?S ?T
   case S=>
    refine' bH ?U ?V bG
    case U=>exact(aP (mR hr) mS (dv 2) (bp (aa aT (aa aT ag))) rfl)
    case' V=>refine' az ?W
    case' W=>refine' aH ?X
    case' X=>refine' bp ?Y
    case' Y=>refine' aa (dv 2) ?Z
    case' Z=>refine' aa (dv 3) ?a
    case' a=>refine' aa ?b ag
    case b=>exact(fA hr.units (dv 1) (au ay aB (dv 0) af) (λ_ _=>rfl))
   case' T=>refine' ar ?c ?d
   case c=>
    refine' bH ?e ?f bG
    case e=>exact(aP (dB hr) dD (dv 2) aT (aE _))
    case' f=>refine' az ?g
    case' g=>generalize hG34:Expr.Tuple _ _ _=eg34
    refine' aH ?h
    case' h=>subst hG34
    refine' bp ?i
    case' i=>refine' aa (dv 2) ?j
    case' j=>refine' aa (dv 3) ?k
    case' k=>refine' aa ?l ?m
    case l=>exact(fA hr.units (dv 1) (au ay aB (dv 0) af) (λ_ _=>rfl))
    case' m=>refine' aa ?n ?o
    case n=>
     refine' bp ?p
     case' p=>refine' aa ?q ?r
     case q=>exact(au ay aB (au ay aB (dv 0) af) af)
     case' r=>refine' aa ?s ag
     case s=>exact(fA hr.units (dv 1) (au ay aB (au ay aB (dv 0) af) af) (λ_ _=>rfl))
    case' o=>refine' aa ?t ag
    case t=>exact(au ay aB (dv 0) af)
   case' d=>refine' ar ?u ?v
   case u=>
    refine' bH ?w ?x bG
    case w=>exact(aP (gA hr.units) gB (dv 2) aT (aE _))
    case' x=>refine' az ?y
    case' y=>refine' aH ?z
    case' z=>refine' bp ?A0
    case' A0=>refine' aa (dv 2) ?A1
    case' A1=>refine' aa (dv 3) ?A2
    case' A2=>refine' aa ?A3 ?A4
    case A3=>exact(fA hr.units (dv 1) (au ay aB (dv 0) af) (λ_ _=>rfl))
    case' A4=>refine' aa ?A5 ag
    case A5=>exact(fA hr.units (dv 1) (au ay aB (dv 0) af) (λ_ _=>rfl))
   case' v=>refine' ar ?A6 ?A7
   case A6=>
    generalize hG67:Rb _ _ _ _=eg67;refine' bu (i:=4) kY.nd rfl R4 ?A8 (hs:=by subst hG67;exact i9)
    case' A8=>subst hG67
    refine' aQ kO kP ?A9 ?AA
    case A9=>
     refine' bp ?AB
     case' AB=>refine' aa ?AC ?AD
     case AC=>exact(au ay aB (au ay aB (dv 0) af) af)
     case' AD=>refine' aa ?AE ag
     case AE=>exact(fA hr.units (dv 1) (au ay aB (au ay aB (dv 0) af) af) (λ_ _=>rfl))
    case AA=>exact(jF (df (au ay aB (dv 0) af)) (cQ af) eM)
   case' A7=>refine' ar ?AF ?AG
   case AF=>
    refine' bH ?AH ?AI bG
    case AH=>exact(PW.pt (gS (aP (cx hr.units) cy (PE.imp (bN eV rfl T.n_len MA (aR (dv 4) aO)) (bt fP)) af (aE _)) (ic (aP (gA hr.units) gB (au ay aB (au ay aB (dv 4) af) af) aT (aE _)))))
    case' AI=>refine' az ?AJ
    case' AJ=>generalize hG79:Rb _ _ _ _=eg79
    refine' bu (i:=4) kY.nd rfl R4 ?AK (hs:=by subst hG79;exact i9)
    case' AK=>subst hG79
    refine' aQ kO kP ?AL ?AM
    case AL=>
     refine' aQ kO kP ?AN ?AO
     case AN=>exact(jF (df (dv 4)) eM (cQ af))
     case' AO=>refine' bp ?AP
     case' AP=>refine' aa ?AQ ag
     case' AQ=>refine' bp ?AR
     case' AR=>refine' aa ?AS ?AT
     case AS=>exact(au ay aB (au ay aB (dv 4) af) af)
     case' AT=>refine' aa ?AU ag
     case AU=>exact(fA hr.units (dv 1) (au ay aB (au ay aB (dv 4) af) af) (λ_ _=>rfl))
    case AM=>exact(jF (df (dv 4)) (cQ af) eM)
   case' AG=>refine' az ?AV
   case' AV=>refine' aH ?AW
   case' AW=>refine' bp ?AX
   case' AX=>refine' aa (dv 2) ?AY
   case' AY=>refine' aa (dv 3) ?AZ
   case' AZ=>refine' aa ?Aa ?Ab
   case Aa=>exact(fA hr.units (dv 1) (au ay aB (dv 0) af) (λ_ _=>rfl))
   case Ab=>refine' aa (dv 4) ag
  case B=>
  clear hr T;have rm:∀{z},z∈os->bD os ms z∈ms:=λh=>oF hl h;have ra:∀{z},z∈os->cY os (ms.map Lp) z=some (.str (bD os ms z)):=λh=>C7 hl h;have sw:∀w:Str,LB w=true->MN (Lp w)=true:=λw h=>cR.mpr h;have ck:LB (Lk "rule")=true:=cp
  cases sh with
  | @pap p h1 h2 h3 h4=>
   simp only [De.enc,Pp.enc];walk_at "d";refine⟨_,_,rfl,_,ra h1,_,_,rfl,_,ra h2,by rw [Lm];omega,?_⟩;refine cI (enc:=Lp) (λ_=>true) (λm=>.str (bD os ms m)) (λm hm R S h=>?_) ?_
   ·walk_at "d";rw [R3 rfl] at h;exact⟨_,_,rfl,_,ra (h3 m hm),h⟩
   ·rw [gG];refine⟨p.ms.map (bD os ms),by rw [LH];rfl,by rw [Lm];omega,?_⟩;refine q (.pap ⟨p.d,bD os ms p.nm,bD os ms p.kd,cM (p.ms.map (bD os ms))⟩) (.pap (rm h1) (rm h2) (λm hm=>?_) ?_) ⟨rfl,rfl,rfl,λd nm wd e=>by cases e⟩
    ·obtain⟨z,hz,rfl⟩:=Lv.mp ((fg _).mem_iff.mp hm);exact rm (h3 z hz)
    ·show(cM (p.ms.map (bD os ms))).length<=50;rw [(fg _).length_eq,Lm];exact h4
  | @hap d nm wd h1 h2=>
   simp only [De.enc];walk_at "d";exact⟨sw _ cp,sw _ ck,_,_,rfl,_,ra h1,_,_,rfl,_,ra h2,q (.oth (Lk "happens") d (bD os ms nm) [.str (bD os ms wd)]) (.hap (rm h1) (rm h2)) ⟨rfl,rfl,rfl,λd' nm' wd' e=>by cases e;rfl⟩⟩
  | @rue d nm pt h1 h2 h3=>
   have q2:∀pt':Pt,uw (·∈ms) pt'->pt'.Ok->Q (.tuple [.str (Lk "rule"),.int d,.str (bD os ms nm),pt'.enc]):=λpt' a b=>
    q (.oth (Lk "rule") d (bD os ms nm) [pt'.enc]) (.rue (rm h1) a b) ⟨rfl,rfl,rfl,λd' nm' wd' e=>absurd (De.oth.inj e).1 cp⟩
   cases pt with
   | two w2 kd=>
    simp only [De.enc,Pt.enc];walk_at "d";refine⟨sw _ ck,sw _ ck,_,_,rfl,_,ra h2,?_⟩
    first | rw [R1 (show ¬(((2:Nat):Int)==5)=true by decide)] | skip
    exact⟨_,_,rfl,_,ra h1,q2 (.two w2 (bD os ms kd)) (rm h2) ⟨h3.1,h3.2.1,no _ (rm h2)⟩⟩
   | five w2 kd sn k u=>
    cases sn with
    | com=>
     simp only [De.enc,Pt.enc,cJ.enc];walk_at "d";refine⟨sw _ ck,sw _ ck,_,_,rfl,_,ra h2.1,?_⟩;rw [R3 (show(((5:Nat):Int)==5)=true by decide)];exact⟨sw _ cp,sw _ cp,_,_,rfl,_,ra h1,q2 (.five w2 (bD os ms kd) .com k u) ⟨rm h2.1,trivial⟩ ⟨h3.1,no _ (rm h2.1),trivial,h3.2.2.2⟩⟩
    | fst wd=>
     simp only [De.enc,Pt.enc,cJ.enc];walk_at "d";refine⟨sw _ ck,sw _ ck,_,_,rfl,_,ra h2.1,?_⟩;rw [R3 (show(((5:Nat):Int)==5)=true by decide)];refine⟨sw _ cp,sw _ cp,?_⟩;rw [R3 cp];exact⟨_,_,rfl,_,ra h2.2,_,_,rfl,_,ra h1,q2 (.five w2 (bD os ms kd) (.fst (bD os ms wd)) k u) ⟨rm h2.1,rm h2.2⟩ ⟨h3.1,no _ (rm h2.1),no _ (rm h2.2),h3.2.2.2⟩⟩
    | lst wd=>
     simp only [De.enc,Pt.enc,cJ.enc];walk_at "d";refine⟨sw _ ck,sw _ ck,_,_,rfl,_,ra h2.1,?_⟩;rw [R3 (show(((5:Nat):Int)==5)=true by decide)];refine⟨sw _ cp,sw _ cp,?_⟩;rw [R3 cp];exact⟨_,_,rfl,_,ra h2.2,_,_,rfl,_,ra h1,q2 (.five w2 (bD os ms kd) (.lst (bD os ms wd)) k u) ⟨rm h2.1,rm h2.2⟩ ⟨h3.1,no _ (rm h2.1),no _ (rm h2.2),h3.2.2.2⟩⟩
  | @fin d nm h1=>
   simp only [De.enc];walk_at "d";exact⟨_,_,rfl,_,ra h1,q (.oth (Lk "end") d (bD os ms nm) []) (.fin (rm h1)) ⟨rfl,rfl,rfl,λd' nm' wd' e=>by cases e⟩⟩
  | @lift d nm h1=>
   simp only [De.enc];walk_at "d";exact⟨_,_,rfl,_,ra h1,q (.oth (Lk "lift") d (bD os ms nm) []) (.lift (rm h1)) ⟨rfl,rfl,rfl,λd' nm' wd' e=>by cases e⟩⟩
  | @hold d nm ip tn dp h1 h2=>
   simp only [De.enc,bZ];walk_at "d";exact⟨_,_,rfl,_,ra h1,_,_,rfl,_,ra h2,q (.oth (Lk "hold") d (bD os ms nm) [bZ ip (bD os ms tn),.bool dp]) (.hold (rm h1) (rm h2)) ⟨rfl,rfl,rfl,λd' nm' wd' e=>absurd (De.oth.inj e).1 cp⟩⟩
  | @leave d nm kd h1 h2=>
   simp only [De.enc];walk_at "d";exact⟨sw _ cp,sw _ ck,_,_,rfl,_,ra h1,_,_,rfl,_,ra h2,q (.oth (Lk "leave") d (bD os ms nm) [.str (bD os ms kd)]) (.leave (rm h1) (rm h2)) ⟨rfl,rfl,rfl,λd' nm' wd' e=>absurd (De.oth.inj e).1 cp⟩⟩
def lC(xs:List De)(c:Pp)(n:Int):R6:= .tuple [.str c.kd,.tuple (((cD (ai xs) c).map (·.nm)).map .str),.tuple (((gI (ai xs) c).map (·.nm)).map .str),.tuple ((dY (bC xs n) (cA (ai xs) c)).map .str)]
def KW:List R6->(R6->Prop)->Prop:=λds Q=>∃(xs:List De)(c:Pp)(n:Int),ds=[.tuple (xs.map De.enc),.str c.nm,.int n]/\dF xs/\c∈ai xs/\Q (lC xs c n)
theorem KY(T:Txt K mg t):aF P w K mg base CX0 8 t.a_q t.d_q ["_law_deeds_here","_law_name","_law_day_here"] (bf K KW):=by
 have G_N:=@B1 P w _ _ base _ T;have G_P:=@ue P w _ _ base _ T;have G_Q:=@CA P w _ _ base _ T;have G_X:=@CB P w _ _ base _ T;refine T.F_q.F.okD Bx (λds Q h=>?_) (λ_ _ _ _ H O ds Q E hr h=>?_)
 ·obtain⟨xs,c,n,rfl,_⟩:=h;rfl
 ·obtain⟨xs,c,n,rfl,g,hc,q⟩:=h;refine'⟨_,?A,?B⟩
  case A=>
   refine' ar ?C ?D
   case C=>
    refine' bu (i:=3) Bx.nd rfl R4 ?E (hs:=G8)
    case' E=>refine' fe ?F
    case' F=>refine' cL ?G
    case' G=>refine' aa ?H ?I
    case H=>exact(aq G_N hr T.F_N (aa (dv 0) (aa (dv 1) ag)))
    case' I=>refine' aa ?J ?K
    case J=>exact(aq G_P hr T.F_P (aa (dv 0) (aa (dv 1) ag)))
    case' K=>refine' aa ?L ?M
    case L=>exact(aq G_Q hr T.F_Q (aa (dv 0) (aa (dv 1) ag)))
    case' M=>refine' aa ?N ag
    case N=>exact(aq G_X hr T.F_X (aa (dv 0) (aa (dv 2) (aa (dv 1) ag))))
   case' D=>refine' az ?O
   case O=>exact(aH (PE.imp (cB dH rfl T.n_tuple dJ (aR (dv 3) aO)) (bt dN)))
  case B=>
  clear hr T G_N G_P G_Q G_X;walk_at "d";exact⟨xs,c,rfl,g.gd.gx,hc,xs,c,rfl,g.gd.gx,hc,xs,c,rfl,g.gd.gx,hc,xs,n,c,rfl,g,hc,q⟩
def KZ:List R6->(R6->Prop)->Prop:=λds Q=>∃(N M:Str->Prop)(xs ys zs:List De)(c:Pp)(n:Int),ds=[.tuple (xs.map De.enc),.tuple (zs.map De.enc),.str c.nm,.int n]/\aM N M xs ys zs/\c∈ai xs/\Q (.bool true)
theorem K0(T:Txt K mg t):aF P w K mg base CX0 10 t.a_r t.d_r ["_law_some","_law_both","_law_name","_law_day_here"] (bf K KZ):=by
 have G_b:=@JR P w _ _ base _ T;refine T.F_r.F.okD By (λds Q h=>?_) (λ_ _ _ _ H O ds Q E hr h=>?_)
 ·obtain⟨N,M,xs,ys,zs,c,n,rfl,_⟩:=h;rfl
 ·obtain⟨N,M,xs,ys,zs,c,n,rfl,tw,hc,q⟩:=h;refine'⟨_,?A,?B⟩
  case A=>
   refine' ar ?C ?D
   case C=>
    refine' ij Mj rfl (dv 0) ?E aK ?F
    case E=>exact(aI (i:=4) By.nd rfl R4)
    case' F=>refine' az ?G
    case' G=>refine' bH ?H ?I bG
    case H=>exact(PW.pt (gS (aP (dB hr) dD (au ay aB (dv 4) af) aT (aE _)) (ic (aP (mR hr) mS (au ay aB (au ay aB (dv 4) af) af) (bp (aa aT (aa aT ag))) rfl))))
    case' I=>refine' az ?J
    case' J=>refine' bH ?K ?L bG
    case K=>exact(aP (gA hr.units) gB (aq G_b hr T.F_b (aa (dv 0) (aa (au ay aB (dv 4) af) (aa (dv 2) (aa (dv 3) ag))))) (aq G_b hr T.F_b (aa (dv 1) (aa (au ay aB (dv 4) af) (aa (dv 2) (aa (dv 3) ag))))) (aE _))
    case L=>refine' az (aH d5)
   case D=>refine' az (aH d5)
  case B=>
  clear hr T G_b;walk_at "d";refine⟨λi δ=>∃o4:Option Sl,δ=[some (Sl.v (.tuple (xs.map De.enc))),some (Sl.v (.tuple (zs.map De.enc))),some (Sl.v (.str c.nm)),some (Sl.v (.int n)),o4],⟨_,rfl⟩,?_,?_⟩
  ·rintro i z δ hz ⟨o4,rfl⟩;rw [LD] at hz;cases hz':xs[i]? with
   | none=>rw [hz'] at hz;cases hz
   | some x=>
    rw [hz'] at hz;cases hz;have sh:=(tw.x.e x (LQ hz')).sh;clear hz';cases sh with
    | @pap p h1 h2 h3 h4=>
     simp only [De.enc,Pp.enc];walk_at "d"
     first | exact⟨_,rfl⟩ | trace_state
    | @hap d nm wd h1 h2=>
     simp only [De.enc];walk_at "d"
     first | exact⟨_,rfl⟩ | trace_state
    | @fin d nm h1=>
     simp only [De.enc];walk_at "d"
     first | exact⟨_,rfl⟩ | trace_state
    | @lift d nm h1=>
     simp only [De.enc];walk_at "d"
     first | exact⟨_,rfl⟩ | trace_state
    | @hold d nm ip tn dp h1 h2=>
     simp only [De.enc];walk_at "d"
     first | exact⟨_,rfl⟩ | trace_state
    | @leave d nm kd h1 h2=>
     simp only [De.enc];walk_at "d"
     first | exact⟨_,rfl⟩ | trace_state
    | @rue d nm pt h1 h2 h3=>
     cases pt with
     | two w2 kd=>
      simp only [De.enc,Pt.enc];walk_at "d";rw [R1 (by rw [cU (λe=>h3.1 (.inl e.symm)),cU (λe=>h3.1 (.inr e.symm))];decide)];exact⟨_,rfl⟩
     | five w2 kd sn k u=>
      simp only [De.enc,Pt.enc];walk_at "d";rw [R3 (by rcases h3.1 with e | e <;> rw [e] <;> decide+kernel)];refine⟨xs,c,w2,kd,sn,k,u,n,rfl,tw.gx.gd,hc,h3.2.2.1,h3.2.2.2.2.2,zs,c,w2,kd,sn,k,u,n,rfl,tw.gz.gd,tw.pm.mpr (.inl hc),h3.2.2.1,h3.2.2.2.2.2,?_⟩;rw [tw.rcp hc];have so:∀z:Option Int,MN (eh z)=true/\LL (eh z) (eh z)=true:=λz=>by
       cases z with
       | none=>exact⟨mH,by simp [eh,LL]⟩
       | some a=>exact⟨fQ,by simp [eh,LL]⟩
      obtain⟨s1,s2⟩:=so (uk (iC xs c) n (.five w2 kd sn k u));refine⟨s1,s1,?_⟩;rw [s2]
      first | exact⟨_,rfl⟩ | (rw [R1 RZ];exact⟨_,rfl⟩) | trace_state
  ·rintro δ ⟨o4,rfl⟩;walk_at "d";exact q
end
theorem C9:aY (av kX) ["_law_deeds_here","_law_day_here","_law_known","_law_found","_law_hold","_law_target","_law_deep","_law_some","_law_more","_law_name"] ["_law_name","_law_deeds_here"] 1 [0] ⟨LA,[ (Ln ".0",TQ),(Ln "_law_name",TQ),(Ln "kind_of",Me),(Ln "_law_deeds_here",LK)],false,false,[]⟩:= .of
theorem Dc:aY (av kX) ["_law_deeds_here","_law_day_here","_law_known","_law_found","_law_hold","_law_target","_law_deep","_law_some","_law_more","_law_name"] ["_law_name","_law_target","_law_known"] 1 [5,2] ⟨LA,[ (Ln ".0",TQ),(Ln "_law_name",TQ),(Ln "_law_known",LK),(Ln "_law_target",LK)],false,false,[]⟩:= .of
section
variable {P:Sk} {w:Sm} {K:Ll} {mg:Str->Option R7} {base:Sn} {t:cC}
def cZ(ps:List Pp)(h:Hd):List Pp:=(bj ps).filter (told h.ip h.tn)
def iK(ps:List Pp)(h:Hd):List Str:=(cZ ps h).map (·.nm)++if h.dp=true then(cZ ps h).flatMap (λp=>(gI ps p).map (·.nm)) else []
def ft(ps:List Pp)(h:Hd):R6:= .tuple [.str h.nm,.list ((iK ps h).map .str)]
def K1:List R6->(R6->Prop)->Prop:=λds Q=>∃(zs:List De)(n:Int),ds=[.tuple (zs.map De.enc),.int n]/\dF zs/\(oz (bC zs n)->Q (.list ((bC zs n).map (ft (ai zs)))))
theorem K2(T:Txt K mg t):aF P w K mg base CX0 8 t.a_s t.d_s ["_law_deeds_here","_law_day_here"] (bf K K1):=by
 have G_N:=@B1 P w _ _ base _ T;have G_M:=@oh P w _ _ base _ T;have G_Q:=@CA P w _ _ base _ T;have G_U:=@um P w _ _ base _ T;refine T.F_s.F.okD hG (λds Q h=>?_) (λ_ _ _ _ H O ds Q E hr h=>?_)
 ·obtain⟨zs,n,rfl,_⟩:=h;rfl
 ·obtain⟨zs,n,rfl,g,q⟩:=h;refine'⟨_,?A,?B⟩
  case A=>
   refine' ar ?C ?D
   case C=>
    refine' bu (i:=2) hG.nd rfl R4 ?E (hs:=fh)
    case E=>exact(Bk (A9 rfl rfl T.n_dict (aR (fe (iY rfl C9 (df (aq G_M hr T.F_M (aa (dv 0) ag))) aK cg RZ (λ_ _ _ _=>(aI (i:=0) C9.nd rfl R4)) (λ_ _ _ _=>d6) (λ_ _ _ _=>(bp (aa (dv 0) (aa (aq G_N hr T.F_N (aa (dv 1) (aa (dv 0) ag))) ag)))))) aO)))
   case' D=>refine' ar ?F ?G
   case F=>exact(ig (i:=3) hG.nd rfl R4 (cL ag))
   case' G=>refine' ar ?H ?I
   case H=>
    refine' ij Mj rfl (aq G_U hr T.F_U (aa (dv 0) (aa (dv 1) ag))) ?J (gX (cG aK (cG aK (cG aK gW)))) ?K
    case J=>exact(gi (n:=3) rfl (cw (aI (i:=4) hG.nd rfl R4) (cw (aI (i:=5) hG.nd rfl R4) (cw (aI (i:=6) hG.nd rfl R4) gh))))
    case' K=>refine' ar ?L ?M
    case L=>exact(kJ (i:=7) hG.nd rfl R4 (Io rfl Dc (dv 2) aK cg RZ (λ_ _ _ _=>(aI (i:=0) Dc.nd rfl R4)) (λ_ _ _ _=>(d4 (aP (mP hr) i8 (dv 1) (fe (cL (aa (bp (aa aT (aa (dv 0) ag))) (aa (bp (aa aT (aa (fA hr.units (dv 2) (dv 0) (λ_ _=>rfl)) ag))) ag)))) rfl))) (λ_ _ _ _=>(dv 0))))
    case' M=>refine' ar ?N ?O
    case N=>exact(ig (i:=8) hG.nd rfl R4 (cL ag))
    case' O=>refine' ar ?P ?Q
    case P=>
     refine' qt Mj rfl (fe (Ir (df (dv 7)) (PE.imp (cB pb rfl T.n_int pI (aR (dv 6) aO)) (bt qQ)))) ?R aK ?S
     case R=>exact(aI (i:=9) hG.nd rfl R4)
     case' S=>refine' az ?T
     case T=>exact(Iy (i:=8) (pv 8) (aq G_Q hr T.F_Q (aa (dv 0) (aa (dv 9) ag))))
    case' Q=>refine' az ?U
    case' U=>refine' mv (i:=3) (pv 3) ?V
    case V=>exact(bp (aa (dv 4) (aa (fe (wQ (df (dv 7)) (dw 8))) ag)))
   case' I=>refine' az ?W
   case W=>exact(wK (pv 3))
  case B=>
  clear hr T G_N G_M G_Q G_U;walk_at "d";have gp:=g.gd.gx.gp;have pl:=gp.ln;have ol:(bj (ai zs)).length<=41:=by rw [kZ];exact pl
  have om:∀p∈bj (ai zs),p∈ai zs:=λp hp=>fk.mp hp;have onm:((bj (ai zs)).map (·.nm)).Nodup:=((fX (ai zs)).map _).nodup_iff.mpr gp.nd;refine⟨zs,rfl,g.gd.gx,_,rfl,by rw [Lm,Lm];omega,?_⟩;rw [LH];refine cI (enc:=Lp ∘ Pp.nm) (λ_=>true) (λp=>.tuple [.str p.nm,.str p.kd]) (λp hp R S h=>?_) ?_
  ·simp only [NF];walk_at "d";rw [R3 rfl] at h;exact⟨zs,p,rfl,g.gd.gx,om p hp,h⟩
  rw [gG];have fd:=uE ((bj (ai zs)).map λp=>(Mi p.nm,Lp p.kd)) [] (by
   rw [Mq,LH,ML,LO];rw [ML,LO] at onm;exact onm.imp λz e=>z (PV e))
  refine⟨(bj (ai zs)).map λp=>(Mi p.nm,.str p.kd),by rw [LH];rfl,(bj (ai zs)).map (·.nm),?_,?_⟩
  ·rw [fd,Mq,LH,LH];rfl
  rw [fd,Mq,LH];have hat:∀p∈bj (ai zs),cY ((bj (ai zs)).map (·.nm)) ((bj (ai zs)).map ((λx:ah×R6=>x.snd)∘ λp:Pp=>(Mi p.nm,Lp p.kd))) p.nm=some (.str p.kd):=by
   have:∀l:List Pp,(l.map (·.nm)).Nodup->∀p∈l,cY (l.map (·.nm)) (l.map ((λx:ah×R6=>x.snd)∘ λp:Pp=>(Mi p.nm,Lp p.kd))) p.nm=some (.str p.kd):=by
    intro l
    induction l with
    | nil=>intro _ p hp;cases hp
    | cons a l ih=>
     intro nd p hp;rw [Lq,MO] at nd;rw [Lq,Lq,cY];rcases LF.mp hp with e | hp
     ·subst e;rw [R3 rfl];rfl
     ·rw [R1 (λe=>nd.1 (by rw [e];exact Lv.mpr ⟨p,hp,rfl⟩))];exact ih nd.2 p hp
   exact this _ onm
  generalize ((bj (ai zs)).map ((λx:ah×R6=>x.snd)∘ λp:Pp=>(Mi p.nm,Lp p.kd)))=vals at hat;refine⟨zs,n,rfl,g,λhok=>⟨_,rfl,?_⟩⟩;have q:=q hok;have hl:=hok.1;refine⟨λi δ=>∃o4 o5 o6 o7 o8 o9:Option Sl,δ=[some (Sl.v (.tuple (zs.map De.enc))),some (Sl.v (.int n)),some (Sl.v (g7 ((bj (ai zs)).map (·.nm)) vals)),some (Sl.o (((bC zs n).take i).map (ft (ai zs)))),o4,o5,o6,o7,o8,o9],⟨_,_,_,_,_,_,rfl⟩,?_,?_⟩
  ·rintro i z δ hz ⟨o4,o5,o6,o7,o8,o9,rfl⟩;rw [LD] at hz;cases hz':(bC zs n)[i]? with
   | none=>rw [hz'] at hz;cases hz
   | some h=>
    rw [hz'] at hz;cases hz;have tok:=hok.2 h (LQ hz');have ts:((bC zs n).take (i+1)).map (ft (ai zs))=((bC zs n).take i).map (ft (ai zs))++[ft (ai zs) h]:=by rw [Mx,hz',LS];rfl
    have tl:(((bC zs n).take i).map (ft (ai zs))).length<=41:=by rw [Lm,Mc];omega
    simp only [ts];generalize ((bC zs n).take i).map (ft (ai zs))=acc at tl;simp only [Hd.enc];walk_at "d";refine⟨_,⟨_,rfl⟩,by rw [Lm];omega,?_⟩;rw [LH];refine cI (enc:=Lp ∘ Pp.nm) (told h.ip h.tn) (λp=>.str p.nm) (λp hp R S h1=>?_) ?_
    ·have pok:=gp.nm p (om p hp);have kok:=gp.kd p (om p hp);simp only [NF];walk_at "d";refine⟨_,_,rfl,_,hat p hp,(lA tok).shp RZ,(jE (n:=2) λd hd=>?_).1,?_⟩
     ·simp only [LF,MX,or_false] at hd;rcases hd with e | e <;> rw [e]
      ·exact lA (ip:=true) pok
      ·exact lA (ip:=false) kok
     ·have e:((LW [Lp (Lk "paper"),Lp p.nm]).eqv (bZ h.ip h.tn) || (LW [Lp (Lk "kind"),Lp p.kd]).eqv (bZ h.ip h.tn))=told h.ip h.tn p:=by
       have n1:Lk "paper"≠Lk "kind":=cp
       unfold told bZ;cases h.ip <;> simp [LL,MY,JS,n1,Ne.symm n1,eq_comm]
      first | (rw [e];exact h1) | trace_state
    ·have el:(Ow (told h.ip h.tn) (bj (ai zs))).map (λp=>Lp p.nm)=((cZ (ai zs) h).map (·.nm)).map .str:=by unfold cZ;rw [LH];rfl
     rw [el];have cl:(cZ (ai zs) h).length<=41:=LY (Mo _ _) ol;have cm:∀p∈cZ (ai zs) h,p∈ai zs:=λp hp=>om p (LM.mp hp).1;have ml:∀p,(gI (ai zs) p).length<=41:=λp=>LY (Mo _ _) ol;have fl:∀l:List Pp,(l.flatMap λp=>(gI (ai zs) p).map (·.nm)).length<=l.length*41:=λl=>by
      induction l with
      | nil=>simp
      | cons a l ih=>
       rw [List.flatMap_cons,LN,Lm,LP];have:=ml a;omega
     have fin:∀(M:List Str)(o:Option Sl),M.length<=2000->iK (ai zs) h=(cZ (ai zs) h).map (·.nm)++M->acc.length < 16777216/\acc++[LW [Lp h.nm,M5 (((cZ (ai zs) h).map (·.nm)).map .str++M.map .str)]]=acc++[ft (ai zs) h]:=λM o hM e=>by
      refine⟨R0,?_⟩;unfold ft;rw [e,LS]
     refine⟨by rw [Lm,Lm];omega,by split <;> decide,by split <;> decide,?_⟩;cases hd:h.dp with
     | false=>
      refine⟨λj δ=>δ=[some (Sl.v (.tuple (zs.map De.enc))),some (Sl.v (.int n)),some (Sl.v (g7 ((bj (ai zs)).map (·.nm)) vals)),some (Sl.o acc),some (Sl.v (Lp h.nm)),some (Sl.v (bZ h.ip h.tn)),some (Sl.v (Nf false)),some (Sl.v (M5 (((cZ (ai zs) h).map (·.nm)).map .str))),some (Sl.o []),o9],rfl,?_,?_⟩
      ·rintro j z δ hz rfl;simp at hz
      ·rintro δ rfl;walk_at "d";refine⟨by rw [Lm,Lm];omega,?_⟩;obtain⟨a,b⟩:=fin [] none R5 (by unfold iK;rw [hd,R1 Lx]);rw [Mp,Mw] at b;exact⟨a,b,_,rfl⟩
     | true=>
      rw [R3 rfl,show LC (1:Int).toNat (((cZ (ai zs) h).map (·.nm)).map Lp)=[((cZ (ai zs) h).map (·.nm)).map Lp] from rfl,List.flatten_singleton];refine⟨λj δ=>∃o9,δ=[some (Sl.v (.tuple (zs.map De.enc))),some (Sl.v (.int n)),some (Sl.v (g7 ((bj (ai zs)).map (·.nm)) vals)),some (Sl.o acc),some (Sl.v (Lp h.nm)),some (Sl.v (bZ h.ip h.tn)),some (Sl.v (Nf true)),some (Sl.v (M5 (((cZ (ai zs) h).map (·.nm)).map .str))),some (Sl.o ((((cZ (ai zs) h).take j).flatMap λp=>(gI (ai zs) p).map (·.nm)).map .str)),o9],⟨_,rfl⟩,?_,?_⟩
      ·rintro j z δ hz ⟨o9,rfl⟩;rw [LD,LD] at hz;cases hz2:(cZ (ai zs) h)[j]? with
       | none=>rw [hz2] at hz;cases hz
       | some p=>
        rw [hz2] at hz;cases hz;have hp:=cm p (LQ hz2);have jl:=(Lz.mp hz2).1;have f1:=fl ((cZ (ai zs) h).take j);rw [Mc] at f1;have f2:=ml p;walk_at "d";refine⟨zs,p,rfl,g.gd.gx,hp,_,rfl,?_,?_,_,rfl⟩
        ·rw [Lm,Lm,Lm];omega
        ·rw [Mx,hz2,List.flatMap_append,LS];simp
      ·rintro δ ⟨o9,rfl⟩;walk_at "d";rw [Lm,Lm,L3 (Lr _)];have f1:=fl (cZ (ai zs) h);obtain⟨a,b⟩:=fin ((cZ (ai zs) h).flatMap λp=>(gI (ai zs) p).map (·.nm)) none R0 (by unfold iK;rw [hd,R3 rfl]);refine⟨by rw [Lm];omega,a,b,_,rfl⟩
  ·rintro δ ⟨o4,o5,o6,o7,o8,o9,rfl⟩;walk_at "d";rw [Lm,L3 (Lr _)];exact q
end
theorem Dd:aY (av nR) ["_law_sets","_law_both","_law_day_here","_law_due","_law_held","_law_days"] ["_law_deed_here","_law_day_here"] 1 [2] ⟨LA,[ (Ln ".0",TQ),(Ln "_law_deed_here",TQ),(Ln "_law_day_here",LK)],false,false,[]⟩:= .of
section
variable {P:Sk} {w:Sm} {K:Ll} {mg:Str->Option R7} {base:Sn} {t:cC}
theorem uF{α β:Type}{f:α->β}:∀{l:List α}{l':List β},l'.Perm (l.map f)->∃L:List α,L.Perm l/\l'=L.map f
 | [],l',h=>⟨[],.refl _,by rw [Mp] at h⊢;exact List.Perm.eq_nil h⟩
 | a::l,l',h=>by
  have ha:f a∈l':=h.mem_iff.mpr R5;obtain⟨s,t,rfl⟩:=QG ha;rw [Lq] at h;have h2:(s++t).Perm (l.map f):=(Rj (f a)).mp (List.perm_middle.symm.trans h);obtain⟨L,hL,e⟩:=uF h2;obtain⟨L1,L2,rfl,e1,e2⟩:=List.map_eq_append_iff.mp e.symm;refine⟨L1++a::L2,QY.trans (hL.cons a),?_⟩;rw [LS,Lq,e1,e2]
def Df(z:Str×Pt):Str×List R6:=(z.1,[z.2.enc])
def Dg(h:Hd):Str×List R6:=(h.nm,[bZ h.ip h.tn,.bool h.dp])
theorem Dh{α:Type}{f:α->Str}{l:List α}{xs:List De}(nd:(l.map f).Nodup)(h:∀z∈l,∃x∈xs,x.nm=f z):l.length<=xs.length:=by
 have:=iE (L:=xs.map De.nm) nd λz hz=>by
  obtain⟨a,ha,rfl⟩:=Lv.mp hz;obtain⟨x,hx,e⟩:=h a ha;exact Lv.mpr ⟨x,hx,e⟩
 rwa [Lm,Lm] at this
theorem Di{xs:List De}(g:fo xs)(n:Int):(cK xs n).length<=xs.length:=by
 have hx:=hZ g n;refine Dh (f:=Prod.fst) (by rw [ML,LO];exact hx.1.imp λz=>z.2) λz hz=>?_;obtain⟨d,_,hm,_⟩:=(hx.2 z).mp hz;exact⟨_,hm,rfl⟩
theorem Dj{xs:List De}(g:dF xs)(n:Int):(bC xs n).length<=xs.length:=by
 refine Dh (f:=Hd.nm) (by rw [ML,LO];exact(iH g n).imp λz=>z.2) λz hz=>?_;obtain⟨d,_,hm,_⟩:=(fq g).mp hz;exact⟨_,hm,rfl⟩
theorem K3{xs:List De}(g:fo xs)(n:Int):bO 5 (.tuple ((cK xs n).map lp)):=cj λd hd=>by
 obtain⟨z,hz,rfl⟩:=Lv.mp hd;obtain⟨d,_,hm,_⟩:=((hZ g n).2 z).mp hz;obtain⟨pt,e,ok⟩:=g.ru _ _ _ hm;rw [B8 (NH e).1.symm] at ok;exact cj (aJ (bB (g.gx.nm _ hm)) (aJ (Pt.lay ok) cT))
theorem K4{xs:List De}(g:dF xs)(n:Int):bO 4 (.tuple ((bC xs n).map Hd.enc)):=cj λd hd=>by
 obtain⟨z,hz,rfl⟩:=Lv.mp hd;obtain⟨d,_,hm,_⟩:=(fq g).mp hz;obtain⟨ip,tn,dp,e,ok⟩:=g.ho _ _ _ hm;have e2:=C0 (NH e).1;rw [<-e2.2] at ok;exact cj (aJ (bB (g.gd.gx.nm _ hm)) (aJ ((lA ok).mono RZ) (aJ xP cT)))
theorem K5{n:Nat}{ds:List R6}(h:∀d∈ds,bO n d):bO (n+1) (.list ds):=by
 obtain⟨a,b⟩:=jE h;refine⟨by simpa [L7] using a,?_⟩;rw [Oa];omega
def K6:List R6->(R6->Prop)->Prop:=λds Q=>∃(N M:Str->Prop)(xs ys zs:List De)(n:Int),ds=[.list [.tuple (xs.map De.enc),.tuple (ys.map De.enc)],.tuple (zs.map De.enc),.int n]/\aM N M xs ys zs/\Q (.bool true)
theorem K7(T:Txt K mg t):aF P w K mg base CX0 3 t.a_t t.d_t ["_law_sets","_law_both","_law_day_here"] (bf K K6):=by
 have G_T:=@JH P w _ _ base _ T;have G_U:=@um P w _ _ base _ T;refine T.F_t.F.okD nZ (λds Q h=>?_) (λ_ _ _ _ H O ds Q E hr h=>?_)
 ·obtain⟨N,M,xs,ys,zs,n,rfl,_⟩:=h;rfl
 ·obtain⟨N,M,xs,ys,zs,n,rfl,tw,q⟩:=h;refine'⟨_,?A,?B⟩
  case A=>
   refine' ar ?C ?D
   case C=>
    refine' bu (i:=3) nZ.nd rfl R4 ?E (hs:=fh)
    case E=>exact(PE.imp (cB dH rfl T.n_tuple dJ (aR (fe (Bj rfl T.n_sorted MB (aR (aQ kO kP (aq G_T hr T.F_T (aa (au bE bR (dv 0) af) (aa (dv 2) ag))) (aq G_T hr T.F_T (aa (au bE bR (dv 0) af) (aa (dv 2) ag)))) aO))) aO)) (bt dN))
   case' D=>refine' ar ?F ?G
   case F=>
    refine' bu (i:=4) nZ.nd rfl R4 ?H (hs:=fh)
    case H=>exact(PE.imp (cB dH rfl T.n_tuple dJ (aR (fe (Bj rfl T.n_sorted MB (aR (aQ kO kP (aq G_U hr T.F_U (aa (au bE bR (dv 0) af) (aa (dv 2) ag))) (aq G_U hr T.F_U (aa (au bE bR (dv 0) af) (aa (dv 2) ag)))) aO))) aO)) (bt dN))
   case' G=>refine' ar ?I ?J
   case I=>
    refine' bH ?K ?L bG
    case K=>exact(PW.pt (mm (aP (gA hr.units) gB (aq G_T hr T.F_T (aa (dv 1) (aa (dv 2) ag))) (dv 3) (aE _)) (mj (aP (gA hr.units) gB (aq G_U hr T.F_U (aa (dv 1) (aa (dv 2) ag))) (dv 4) (aE _)))))
    case L=>refine' az (aH d5)
   case' J=>refine' ar ?M ?N
   case M=>exact(kJ (i:=5) nZ.nd rfl R4 (AA rfl Dd (df (dv 1)) aK cg RZ (λ_ _ _ _=>(aI (i:=0) Dd.nd rfl R4)) (λ_ _ _ _=>(d4 (aP lQ jA (au ay aB (dv 0) af) (dv 1) (aE _)))) (λ_ _ _ _=>(au ay aB (dv 0) af))))
   case' N=>refine' ar ?O ?P
   case O=>
    refine' bH ?Q ?R bG
    case Q=>exact(aP (cx hr.units) cy (dv 5) (fe (cL ag)) (aE _))
    case' R=>refine' az ?S
    case' S=>refine' aH ?T
    case T=>exact(pT (fv (cx hr.units) cy (df (dv 3)) (df (bp ag)) (aE _)) (mn (fv (cx hr.units) cy (df (aq G_U hr T.F_U (aa (dv 1) (aa (dv 2) ag)))) (df (bp ag)) (aE _))))
   case' P=>refine' az ?U
   case' U=>refine' aH ?V
   case V=>exact(pT (fv (cx hr.units) cy (df (aq G_T hr T.F_T (aa (dv 1) (aa (PE.imp (bN (Au rfl) rfl T.n_max Nt (aR (dv 5) aO)) (bt Av)) ag)))) (df (dv 3)) (aE _)) (mn (fv (cx hr.units) cy (df (aq G_U hr T.F_U (aa (dv 1) (aa (PE.imp (bN (Au rfl) rfl T.n_max Nt (aR (dv 5) aO)) (bt Av)) ag)))) (df (aq G_U hr T.F_U (aa (dv 1) (aa (dv 2) ag)))) (aE _))))
  case B=>
  clear hr T G_T G_U;walk_at "d";have gx:=tw.gx;have gy:=tw.symm.gx;have gz:=tw.gz;have tl:=tw.l;have rx:=Di gx.gd n;have ry:=Di gy.gd n;have hx:=Dj gx n;have hy:=Dj gy n;refine⟨xs,n,rfl,gx.gd,λ_ _=>⟨ys,n,rfl,gy.gd,λ_ _=>⟨_,rfl,_,rfl,by rw [Lm,Lm];omega,(cK xs n++cK ys n).map Df,by rw [LH,<-LS];rfl,by rw [Lm,LN];omega,by rw [LH];exact tw.rul_nd n,λR hR1 hR2=>?_⟩⟩⟩;obtain⟨L,hL,rfl⟩:=uF hR1;rw [LO] at hR2;have eL:=tw.rul hL hR2;refine⟨xs,n,rfl,gx,λ_=>⟨ys,n,rfl,gy,λ_=>⟨_,rfl,_,rfl,by rw [Lm,Lm];omega,(bC xs n++bC ys n).map Dg,by rw [LH,<-LS];rfl,by rw [Lm,LN];omega,by rw [LH];exact tw.hol_nd n,λR hR3 hR4=>?_⟩⟩⟩;obtain⟨B,hB,rfl⟩:=uF hR3;rw [LO] at hR4;have eB:=tw.hol hB hR4;subst eL eB;have eR:((cK zs n).map Df).map eQ=(cK zs n).map lp:=by rw [LH];rfl
  have eH:((bC zs n).map Dg).map eQ=(bC zs n).map Hd.enc:=by rw [LH];rfl
  rw [eR,eH];clear hL hR1 hR2 hB hR3 hR4 eR eH;have lr:=K3 gz.gd n;have lh:=K4 gz n;have sr:=lr.shp RZ;have sh:=lh.shp RZ;have qr:=iG _ lr.can;have qh:=iG _ lh.can;refine⟨zs,n,rfl,gz.gd,λ_ _=>⟨sr,sr,?_⟩⟩;rw [qr,R1 RZ];refine⟨zs,n,rfl,gz,λ_=>⟨sh,sh,?_⟩⟩;rw [qh,R1 RZ];have zl:=gz.gd.gx.ln;refine⟨by rw [Lm];omega,cI (λx:De=>decide (x.d<=n)) (λx=>.int x.d) (λx hx R S h=>?_) ?_⟩
  ·have ex:∃r,x.enc= .tuple (.str x.w:: .int x.d:: .str x.nm::r):=by cases x <;> exact⟨_,rfl⟩
   obtain⟨r,er⟩:=ex;rw [er];walk_at "d";simpa using h
  have eD:(zs.filter λx:De=>decide (x.d<=n)).map (λx=>Ly x.d)=((zs.filter λx:De=>decide (x.d<=n)).map De.d).map .int:=by rw [LH];rfl
  rw [eD];have mD:∀x∈zs,x.d<=n->x.d∈(zs.filter λx:De=>decide (x.d<=n)).map De.d:=λx hx h=>Lv.mpr ⟨x,LM.mpr ⟨hx,decide_eq_true h⟩,rfl⟩;have nD:∀m∈(zs.filter λx:De=>decide (x.d<=n)).map De.d,m<=n:=λm hm=>by
   obtain⟨x,hx,rfl⟩:=Lv.mp hm;exact of_decide_eq_true (LM.mp hx).2
  generalize (zs.filter λx:De=>decide (x.d<=n)).map De.d=D at mD nD;have sD:∀l:List Int,MN (M5 (l.map .int))=true:=λl=>(K5 (n:=1) λd hd=>by obtain⟨i,_,rfl⟩:=Lv.mp hd;exact fy).shp RZ;have s0:MN (LW [])=true:=RZ
  refine⟨sD D,sD [],?_⟩;cases D with
  | nil=>
   rw [R3 (by rfl)];have no:∀x∈zs,¬x.d<=n:=λx hx h=>by cases mD x hx h
   rw [KC gz.gd no] at sr⊢;refine⟨sr,s0,?_⟩;rw [R3 (by rfl)];refine⟨zs,n,rfl,gz,λ_=>?_⟩;rw [KD gz no] at sh⊢;exact⟨sh,s0,q⟩
  | cons a D=>
   rw [R1 (by simp [LL,MY])];have day:∀m,m∈a::D->(∀b∈a::D,b<=m)->∀x∈zs,x.d<=m↔x.d<=n:=λm hm hx x hz=>⟨λh=>Int.le_trans h (nD m hm),λh=>hx _ (mD x hz h)⟩;refine⟨_,rfl,R5,λm hm hmx=>⟨zs,m,rfl,gz.gd,λ_ _=>?_⟩⟩;rw [Kz gz.gd (day m hm hmx)];refine⟨sr,sr,?_⟩;rw [R3 qr];refine⟨_,rfl,R5,λm hm hmx=>⟨zs,m,rfl,gz,λ_=>⟨zs,n,rfl,gz,λ_=>?_⟩⟩⟩;rw [KA gz (day m hm hmx)];refine⟨sh,sh,?_⟩;rw [qh];exact q
end
theorem uG:aY (av nS) ["_law_sets","_law_both","_law_day_here","_law_known","_law_some","_law_name"] ["_law_hold","_law_beside","_law_name"] 2 [5] ⟨LA,[ (Ln ".0",TQ),(Ln "_law_hold",TQ),(Ln "_law_beside",TQ),(Ln "_law_name",LK)],false,false,[]⟩:= .of
section
variable {P:Sk} {w:Sm} {K:Ll} {mg:Str->Option R7} {base:Sn} {t:cC}
theorem K8{ps:List Pp}(g:hJ ps){c:Pp}(hc:c∈ps){h:Hd}:(iK ps h).contains c.nm=fF (cA ps c) h:=by
 have sm:∀p,p∈cZ ps h↔p∈ps/\told h.ip h.tn p=true:=λp=>by unfold cZ;rw [LM,fk]
 have key:(iK ps h).contains c.nm=true↔fF (cA ps c) h=true:=by
  rw [Kw g.nd hc,Nr];unfold iK;rw [LI];refine or_congr ⟨λz=>?_,λz=>?_⟩ ⟨λz=>?_,λz=>?_⟩
  ·obtain⟨p,hp,e⟩:=Lv.mp z;obtain⟨h1,h2⟩:=(sm p).mp hp;rw [<-k6 g.nd h1 hc e];exact h2
  ·exact Lv.mpr ⟨c,(sm c).mpr ⟨hc,z⟩,rfl⟩
  ·split at z
   ·rename_i hd;obtain⟨p,hp,hz⟩:=PF.mp z;obtain⟨o,ho,e⟩:=Lv.mp hz;have ha:=fZ.mp (LM.mp ho).2;rw [k6 g.nd ha.mem.2 hc e] at ha;exact⟨hd,p,((sm p).mp hp).2,ha⟩
   ·cases z
  ·obtain⟨hd,p,h1,h2⟩:=z;rw [R3 hd];refine PF.mpr ⟨p,(sm p).mpr ⟨h2.mem.1,h1⟩,Lv.mpr ⟨c,?_,rfl⟩⟩;exact LM.mpr ⟨fk.mpr hc,fZ.mpr h2⟩
 exact NK.mpr key
theorem K9{xs:List De}(g:dF xs){n:Int}{h:Hd}(hh:h∈bC xs n):LB h.nm=true:=by
 obtain⟨d,_,hm,_⟩:=(fq g).mp hh;exact g.gd.gx.nm _ hm
theorem Dk{xs:List De}(g:dF xs){n:Int}{c:Pp}:bO 2 (.tuple ((dY (bC xs n) (cA (ai xs) c)).map .str)):=cj (n:=1) (jG λm hm=>by
 obtain⟨h,hh,rfl⟩:=Lv.mp hm;exact K9 g (LM.mp hh).1)
theorem La{xs:List De}(g:dF xs){n:Int}{c:Pp}(hc:c∈ai xs):bO 3 (lC xs c n):=by
 have gp:=g.gd.gx.gp;have sub:∀f:Pp->Bool,bO 2 (.tuple ((((bj (ai xs)).filter f).map (·.nm)).map .str)):=λf=>cj (n:=1) (jG λm hm=>by
  obtain⟨p,hp,rfl⟩:=Lv.mp hm;exact gp.nm p (fk.mp (LM.mp hp).1))
 exact cj (aJ (bB (gp.kd c hc)) (aJ (sub _) (aJ (sub _) (aJ (Dk g) cT))))
theorem aM.told{N M:Str->Prop}{xs ys zs:List De}(T:aM N M xs ys zs){c:Pp}(hc:c∈ai xs)(n:Int):lC zs c n=lC xs c n:=by
 unfold lC;rw [T.mks hc,T.made hc,T.cov hc]
def Lb:List R6->(R6->Prop)->Prop:=λds Q=>∃(N M:Str->Prop)(xs ys zs:List De)(n:Int),ds=[.list [.tuple (xs.map De.enc),.tuple (ys.map De.enc)],.tuple (zs.map De.enc),.int n]/\aM N M xs ys zs/\Q (.bool true)
theorem Lc(T:Txt K mg t):aF P w K mg base CX0 11 t.a_u t.d_u ["_law_sets","_law_both","_law_day_here"] (bf K Lb):=by
 have G_t:=@K7 P w _ _ base _ T;have G_s:=@K2 P w _ _ base _ T;have G_M:=@oh P w _ _ base _ T;have G_q:=@KY P w _ _ base _ T;have G_X:=@CB P w _ _ base _ T;have G_r:=@K0 P w _ _ base _ T;refine T.F_u.F.okD n4 (λds Q h=>?_) (λ_ _ _ _ H O ds Q E hr h=>?_)
 ·obtain⟨N,M,xs,ys,zs,n,rfl,_⟩:=h;rfl
 ·obtain⟨N,M,xs,ys,zs,n,rfl,tw,q⟩:=h;refine'⟨_,?A,?B⟩
  case A=>
   refine' ar ?C ?D
   case C=>
    refine' bH ?E ?F bG
    case E=>exact(kq (ib (aq G_t hr T.F_t (aa (dv 0) (aa (dv 1) (aa (dv 2) ag))))))
    case F=>refine' az (aH d5)
   case' D=>refine' ar ?G ?H
   case G=>exact(bu (i:=3) n4.nd rfl R4 (aq G_s hr T.F_s (aa (dv 1) (aa (dv 2) ag))))
   case' H=>refine' ar ?I ?J
   case I=>
    refine' qt Mj rfl (dv 0) ?K aK ?L
    case K=>exact(aI (i:=4) n4.nd rfl R4)
    case' L=>refine' az ?M
    case' M=>refine' ij Mj rfl (aq G_M hr T.F_M (aa (dv 4) ag)) ?N aK ?O
    case N=>exact(aI (i:=5) n4.nd rfl R4)
    case' O=>refine' ar ?P ?Q
    case P=>
     refine' bH ?R ?S bG
     case R=>exact(aP (gA hr.units) gB (aq G_q hr T.F_q (aa (dv 4) (aa (dv 5) (aa (dv 2) ag)))) (aq G_q hr T.F_q (aa (dv 1) (aa (dv 5) (aa (dv 2) ag)))) (aE _))
     case S=>refine' az (aH d5)
    case' Q=>refine' ar ?T ?U
    case T=>
     refine' bH ?V ?W bG
     case V=>exact(aP (gA hr.units) gB (aq G_X hr T.F_X (aa (dv 1) (aa (dv 2) (aa (dv 5) ag)))) (PE.imp (cB dH rfl T.n_tuple dJ (aR (fe (eJ rfl uG (df (dv 3)) (gX (cG aK (cG aK gW))) sA RZ (λ_ _ _ _=>(gi (n:=2) rfl (cw (aI (i:=0) uG.nd rfl R4) (cw (aI (i:=1) uG.nd rfl R4) gh)))) (λ_ _ _ _=>(d4 (aP (mP hr) i8 (dv 2) (dv 1) rfl))) (λ_ _ _ _=>(dv 0)))) aO)) (bt dN)) (aE _))
     case W=>refine' az (aH d5)
    case' U=>refine' az ?X
    case' X=>refine' bH ?Y ?Z bG
    case Y=>exact(kq (ib (aq G_r hr T.F_r (aa (dv 4) (aa (dv 1) (aa (dv 5) (aa (dv 2) ag)))))))
    case Z=>refine' az (aH d5)
   case J=>refine' az (aH d5)
  case B=>
  clear hr T G_t G_s G_M G_q G_X G_r;walk_at "d";refine⟨N,M,xs,ys,zs,n,rfl,tw,true,rfl,?_⟩;rw [R1 RZ];have gz:=tw.gz;have gp:=gz.gd.gx.gp;refine⟨zs,n,rfl,gz,λhok=>?_⟩;have hl:=hok.1;have two:∀(i:Nat)(z:R6),[LW (xs.map De.enc),LW (ys.map De.enc)][i]?=some z->∃(N M:Str->Prop)(us vs:List De),aM N M us vs zs/\z= .tuple (us.map De.enc):=λi z hz=>by
   match i,hz with
   | 0,hz=>cases hz;exact⟨N,M,xs,ys,tw,rfl⟩
   | 1,hz=>cases hz;exact⟨M,N,ys,xs,tw.symm,rfl⟩
   | i+2,hz=>simp at hz
  generalize [LW (xs.map De.enc),LW (ys.map De.enc)]=sets at two;clear tw;refine⟨λi δ=>∃o4 o5:Option Sl,δ=[some (Sl.v (.list sets)),some (Sl.v (.tuple (zs.map De.enc))),some (Sl.v (.int n)),some (Sl.v (.list ((bC zs n).map (ft (ai zs))))),o4,o5],⟨_,_,rfl⟩,?_,?_⟩
  ·rintro i z δ hz ⟨o4,o5,rfl⟩;obtain⟨N,M,us,vs,tw,rfl⟩:=two i z hz;clear two hz;walk_at "d";refine⟨us,rfl,tw.gx.gd.gx,_,rfl,?_⟩;refine⟨λj δ=>∃o5:Option Sl,δ=[some (Sl.v (.list sets)),some (Sl.v (.tuple (zs.map De.enc))),some (Sl.v (.int n)),some (Sl.v (.list ((bC zs n).map (ft (ai zs))))),some (Sl.v (.tuple (us.map De.enc))),o5],⟨_,rfl⟩,?_,?_⟩
   ·rintro j z δ hz ⟨o5,rfl⟩;rw [LD,LD] at hz;cases hz':(bj (ai us))[j]? with
    | none=>rw [hz'] at hz;cases hz
    | some c=>
     rw [hz'] at hz;cases hz;have hc:=fk.mp (LQ hz');have hcz:=tw.pm.mpr (.inl hc);have lt:=La (n:=n) gz hcz;have lc:=Dk (n:=n) (c:=c) gz;have cok:=gp.nm c hcz;walk_at "d";refine⟨us,c,n,rfl,tw.gx,hc,zs,c,n,rfl,gz,hcz,?_⟩;rw [<-tw.told hc n];refine⟨lt.shp RZ,lt.shp RZ,?_⟩;rw [iG _ lt.can,R1 RZ];refine⟨zs,n,c,rfl,gz,hcz,by rw [Lm];omega,?_⟩;refine cI (enc:=ft (ai zs)) (fF (cA (ai zs) c)) (λh=>.str h.nm) (λh hh R S h1=>?_) ?_
     ·simp only [ft];walk_at "d";refine⟨cR.mpr cok,ua λm hm=>?_,?_⟩
      ·unfold iK at hm;rcases LI.mp hm with z | z
       ·obtain⟨p,hp,rfl⟩:=Lv.mp z;exact gp.nm p (fk.mp (LM.mp hp).1)
       ·split at z
        ·obtain⟨p,hp,hz⟩:=PF.mp z;obtain⟨o,ho,rfl⟩:=Lv.mp hz;exact gp.nm o (fk.mp (LM.mp ho).1)
        ·cases z
      ·rw [t9,K8 gp hcz];exact h1
     ·have e:(Ow (fF (cA (ai zs) c)) (bC zs n)).map (λh=>Lp h.nm)=(dY (bC zs n) (cA (ai zs) c)).map .str:=by unfold dY;rw [LH];rfl
      rw [e];refine⟨lc.shp RZ,lc.shp RZ,?_⟩;rw [iG _ lc.can,R1 RZ];refine⟨N,M,us,vs,zs,c,n,rfl,tw,hc,true,rfl,?_⟩;rw [R1 RZ];exact⟨_,rfl⟩
   ·rintro δ ⟨o5,rfl⟩;exact⟨_,_,rfl⟩
  ·rintro δ ⟨o4,o5,rfl⟩;walk_at "d";exact q
end
theorem Dm:aY (av jL) ["_law_script","_law_menu","_law_first","_law_names_here","_law_far","_law_second","_law_others_here","_law_purse_here","_law_known","_law_both","_law_deed_here","_law_comings","_law_k","_law_day_here"] ["_law_deed_here","_law_known"] 1 [8] ⟨LA,[ (Ln ".0",TQ),(Ln "_law_deed_here",TQ),(Ln "_law_renamed",Me),(Ln "_law_known",LK)],false,false,[]⟩:= .of
theorem Dp:aY (av jL) ["_law_script","_law_menu","_law_first","_law_names_here","_law_far","_law_second","_law_others_here","_law_purse_here","_law_known","_law_both","_law_deed_here","_law_comings","_law_k","_law_day_here"] ["_law_deed_here"] 1 [] ⟨LA,[(Ln ".0",TQ),(Ln "_law_deed_here",TQ)],false,false,[]⟩:= .of
theorem uH:aY (av jL) ["_law_script","_law_menu","_law_first","_law_names_here","_law_far","_law_second","_law_others_here","_law_purse_here","_law_known","_law_both","_law_deed_here","_law_comings","_law_k","_law_day_here"] ["_law_day_here","_law_name"] 2 [] ⟨LA,[ (Ln ".0",TQ),(Ln "_law_day_here",TQ),(Ln "_law_name",TQ)],false,false,[]⟩:= .of
section
variable {P:Sk} {w:Sm} {K:Ll} {mg:Str->Option R7} {base:Sn} {t:cC}
def F_v:List R6->(R6->Prop)->Prop:=λds Q=>∃ns:List Int,ds=[eI (ns.map .int)]/\ns.length<=63/\(∀z∈ns,MJ z<=1048576)/\Q (.bool true)
def sp_law(K:Ll):Sp:=bf K F_v
theorem start_law{K:Ll}{H:Hp}{a:R8}{ns:List Int}(hl:ns.length<=63)(hb:∀z∈ns,MJ z<=1048576)(hS:aN K H a (ns.map V.int)):sp_law K [.ref a] H (λv _=>v= .bl true) λ_ _ _=>False:=
 ⟨λ_=>False,[eI (ns.map .int)],λd=>d= .bool true,λ_ z=>z.elim,.cons (.scr (by
  rcases hS with h | h
  ·exact .inl ⟨h,λz=>z⟩
  ·exact .inr (.inr h)) (aj.ints ns)) .nil,⟨ns,rfl,hl,hb,rfl⟩,λd v H' e _ r=>by subst e;cases r;rfl⟩
theorem uI(x:De):x.isE=(x.w==Lk "rule" || x.w==Lk "end"):=by
 cases x with
 | pap p=>show false=(Lk "paper"==_ || Lk "paper"==_);decide+kernel
 | oth w d nm r=>rfl
theorem uJ(x:De):x.isL=(x.w==Lk "hold" || x.w==Lk "lift"):=by
 cases x with
 | pap p=>show false=(Lk "paper"==_ || Lk "paper"==_);decide+kernel
 | oth w d nm r=>rfl
theorem Dq{N:Str->Prop}{x:De}(h:cq N x)(e:x.w=Lk "happens"):∃d nm wd,x= .oth (Lk "happens") d nm [.str wd]/\N wd:=by
 cases h with
 | pap=>exact absurd e (by show Lk "paper"≠_;decide+kernel)
 | hap h1 h2=>exact⟨_,_,_,rfl,h2⟩
 | rue=>exact absurd e (by show Lk "rule"≠_;decide+kernel)
 | fin=>exact absurd e (by show Lk "end"≠_;decide+kernel)
 | lift=>exact absurd e (by show Lk "lift"≠_;decide+kernel)
 | hold=>exact absurd e (by show Lk "hold"≠_;decide+kernel)
 | leave=>exact absurd e (by show Lk "leave"≠_;decide+kernel)
theorem Ld{os ms:List Str}(hl:os.length=ms.length)(nd:ms.Nodup){x x' y y':De}(sx:cq (·∈os) x)(sx':cq (·∈os) x')(r:oG (bD os ms) x y)(r':oG (bD os ms) x' y')(q:dQ x x'):dQ y y':=by
 have ri:∀{s s'},s∈os->s'∈os->bD os ms s=bD os ms s'->s=s':=λa b e=>C8 hl nd a b e;have nn:y.nm=y'.nm->x.nm=x'.nm:=λe=>ri sx.nm sx'.nm (by rw [<-r.na,<-r'.na];exact e);have dd:y.d=y'.d->x.d=x'.d:=λe=>by rw [<-r.da,<-r'.da];exact e
 have ee:∀{x y:De},y.w=x.w->y.isE=true->x.isE=true:=λe h=>by rw [uI] at h⊢;rw [<-e];exact h
 have ll:∀{x y:De},y.w=x.w->y.isL=true->x.isL=true:=λe h=>by rw [uJ] at h⊢;rw [<-e];exact h
 refine⟨λe=>?_,λe p z=>?_,λa b z=>q.re (ee r.wo a) (ee r'.wo b) ⟨dd z.1,nn z.2⟩,λa b z=>q.hl (ll r.wo a) (ll r'.wo b) ⟨dd z.1,nn z.2⟩⟩
 ·have ew:x.w=x'.w:=by rw [<-r.wo,<-r'.wo,e]
  have en:=nn (by rw [e]);have ed:=dd (by rw [e]);have both:∀(b:x.isE=true\/x.isL=true),False:=λb=>by
   rcases b with b | b
   ·exact q.re b (by rw [uI,<-ew,<-uI];exact b) ⟨ed,en⟩
   ·exact q.hl b (by rw [uJ,<-ew,<-uJ];exact b) ⟨ed,en⟩
  by_cases hw:x.w=Lk "happens"
  ·obtain⟨d,nm,wd,e1,w1⟩:=Dq sx hw;obtain⟨d',nm',wd',e2,w2⟩:=Dq sx' (ew.symm.trans hw);have f1:=r.hp _ _ _ e1;have f2:=r'.hp _ _ _ e2;rw [f1,f2] at e;simp only [De.oth.injEq,Mr,M9,and_true,true_and] at e;have g3:=ri w1 w2 e.2.2;subst e1 e2;have en:nm=nm':=en;have ed:d=d':=ed;exact q.ne (by rw [en,ed,g3])
  ·cases sx with
   | pap=>exact q.pl ew (.inl rfl) en
   | hap=>exact hw rfl
   | rue=>exact both (.inl (by simp [De.isE]))
   | fin=>exact both (.inl (by simp [De.isE]))
   | lift=>exact both (.inr (by simp [De.isL]))
   | hold=>exact both (.inr (by simp [De.isL]))
   | leave=>exact q.pl ew (.inr rfl) en
 ·exact q.pl (by rw [<-r.wo,<-r'.wo];exact e) (by rw [<-r.wo];exact p) (nn z)
def Dr(os ms:List Str)(xs ys:List De):Prop:=∀(j:Nat)(x y:De),xs[j]?=some x->ys[j]?=some y->cq (·∈ms) y/\oG (bD os ms) x y
theorem Le{os ms:List Str}(hl:os.length=ms.length)(nd:ms.Nodup){xs ys:List De}(g:gJ (·∈os) xs)(hy:ys.length=xs.length)(h:Dr os ms xs ys):gJ (·∈ms) ys:=by
 refine⟨λy hm=>?_,?_⟩
 ·obtain⟨j,hj⟩:=Ni hm;have lj:=(Lz.mp hj).1;have hx:xs[j]?=some (xs[j]'R0):=LG _;obtain⟨a,b⟩:=h j _ _ hx hj;refine⟨a,?_⟩;rw [b.da];exact(g.e _ (LQ hx)).d0
 ·rw [MI];intro i j hi hj hij;have xi:xs[i]?=some (xs[i]'R0):=LG _;have xj:xs[j]?=some (xs[j]'R0):=LG _;exact Ld hl nd (g.e _ (LQ xi)).sh (g.e _ (LQ xj)).sh (h i _ _ xi (LG hi)).2 (h j _ _ xj (LG hj)).2 (MI.mp g.q i j R0 R0 hij)
theorem uK:∀zs:List De,(zs.filter (eg λ_=>true)).map (λx=>bP (x.d,x.nm))=((ai zs).map Pp.key).map bP
 | []=>rfl
 | .pap p::zs=>by
  have ih:=uK zs;show _=(((p::ai zs)).map Pp.key).map bP;rw [Ms,R3 (show eg (λ_=>true) (.pap p)=true from rfl),Lq,ih];rfl
 | .oth w d nm r::zs=>by
  have ih:=uK zs;show _=((ai zs).map Pp.key).map bP;rw [Ms,R1 (show ¬eg (λ_=>true) (.oth w d nm r)=true from Lx),ih]
def oH:List Str:=["keep","gone","while","leave","end","happens","happens","hold","hold","lift","permit"]
theorem Ds:∀m∈oH,LB m=true/\m≠Lk "paper":=by
 intro z hz;have a:oH.all (λz=>LB z && decide (z≠Lk "paper"))=true:=cp
 have:=Pn.mp a z hz;simp only [Mf,decide_eq_true_eq] at this;exact this
theorem ok_law(T:Txt K mg t):aF P w K mg base CX0 12 t.a_v t.d_v ["_law_script"] (sp_law K):=by
 have G_n:=@Kv P w _ _ base _ T;have G_d:=@CD P w _ _ base _ T;have G_c:=@CI P w _ _ base _ T;have G_e:=@jW P w _ _ base _ T;have G_p:=@KR P w _ _ base _ T;have G_o:=@KU P w _ _ base _ T;have G_M:=@oh P w _ _ base _ T;have G_u:=@Lc P w _ _ base _ T;refine T.F_v.F.okD dE (λds Q h=>?_) (λ_ _ _ _ H O ds Q E hr h=>?_)
 ·obtain⟨ns,rfl,_⟩:=h;rfl
 ·obtain⟨ns,rfl,hl,hb,q⟩:=h;refine'⟨_,?A,?B⟩
  case A=>
   refine' ar ?C ?D
   case C=>
    generalize hE2_0:Rm _ _=ee2_0;exact bu (i:=1) dE.nd rfl R4 (fe (qY (ds:=[.str "keep",.str "gone",.str "while",.str "leave",.str "end",.str "happens",.str "happens",.str "hold",.str "hold",.str "lift",.str "permit"]) (by first | (subst hE2_0;rfl)))) (hs:=GH (ds:=[.str "keep",.str "gone",.str "while",.str "leave",.str "end",.str "happens",.str "happens",.str "hold",.str "hold",.str "lift",.str "permit"]) (by first | (subst hE2_0;rfl)))
   case' D=>refine' ar ?E ?F
   case E=>exact(mz (aq G_n hr T.F_n (aa (dv 0) (aa af (aa (dv 1) (aa af ag))))) (gi (n:=3) rfl (cw (aI (i:=2) dE.nd rfl R4) (cw (aI (i:=3) dE.nd rfl R4) (cw (aI (i:=4) dE.nd rfl R4) gh)))) (gX (cG aK (cG aK (cG aK gW)))))
   case' F=>refine' ar ?G ?H
   case G=>exact(mz (aq G_n hr T.F_n (aa (dv 0) (aa af (aa (dv 1) (aa af ag))))) (gi (n:=3) rfl (cw (aI (i:=5) dE.nd rfl R4) (cw (aI (i:=6) dE.nd rfl R4) (cw (aI (i:=4) dE.nd rfl R4) gh)))) (gX (cG aK (cG aK (cG aK gW)))))
   case' H=>refine' ar ?I ?J
   case I=>exact(bu (i:=7) dE.nd rfl R4 (aq G_d hr T.F_d (aa (aq G_c hr T.F_c (aa (dv 0) (aa af ag))) ag)))
   case' J=>refine' ar ?K ?L
   case K=>
    refine' bu (i:=8) dE.nd rfl R4 ?M (hs:=fh)
    case M=>exact(aq G_p hr T.F_p (aa (dv 3) (aa (dv 6) (aa (aq G_e hr T.F_e (aa (dv 7) (aa af ag))) ag))))
   case' L=>refine' ar ?N ?O
   case N=>
    refine' bu (i:=5) dE.nd rfl R4 ?P (hs:=fh)
    case P=>exact(PE.imp (cB dH rfl T.n_tuple dJ (aR (fe (iY rfl Dm (df (dv 5)) aK cg RZ (λ_ _ _ _=>(aI (i:=0) Dm.nd rfl R4)) (λ_ _ _ _=>d6) (λ_ _ _ _=>(aq G_o hr T.F_o (aa (dv 0) (aa (dv 1) ag)))))) aO)) (bt dN))
   case' O=>refine' ar ?Q ?R
   case Q=>exact(ig (i:=9) dE.nd rfl R4 (Gd rfl T.n_list wG (aR (dv 2) aO)))
   case' R=>refine' ar ?S ?T
   case S=>
    refine' ij Mj rfl (dv 5) ?U aK ?V
    case U=>exact(aI (i:=10) dE.nd rfl R4)
    case' V=>refine' az ?W
    case W=>exact(A3 (i:=9) (pv 9) (aq G_e hr T.F_e (aa (dv 7) (aa (aQ bz bQ (PE.imp (bN eV rfl T.n_len MA (gT (dw 9) aO)) (bt fP)) af) ag))) (dv 10))
   case' T=>refine' ar ?X ?Y
   case X=>exact(bu (i:=9) dE.nd rfl R4 (PE.imp (cB dH rfl T.n_tuple dJ (gT (dw 9) aO)) (bt dN)))
   case' Y=>refine' ar ?Z ?a
   case Z=>
    refine' bu (i:=11) dE.nd rfl R4 ?b (hs:=fh)
    case b=>exact(fe (AM rfl T.n_sorted MB (aR (fe (iY rfl Dp (df (dv 9)) aK cg RZ (λ_ _ _ _=>(aI (i:=0) Dp.nd rfl R4)) (λ_ _ _ _=>(d4 (aP (dB hr) dD (au ay aB (dv 0) af) aT (aE _)))) (λ_ _ _ _=>(bp (aa (au ay aB (dv 0) af) (aa (au ay aB (dv 0) af) ag)))))) aO)))
   case' a=>refine' ar ?c ?d
   case c=>
    refine' bH ?e ?f bG
    case e=>exact(aP (gA hr.units) gB (aq G_M hr T.F_M (aa (dv 9) ag)) (PE.imp (cB dH rfl T.n_tuple dJ (aR (fe (eJ rfl uH (df (dv 11)) (gX (cG aK (cG aK gW))) sA RZ (λ_ _ _ _=>(gi (n:=2) rfl (cw (aI (i:=0) uH.nd rfl R4) (cw (aI (i:=1) uH.nd rfl R4) gh)))) (λ_ _ _ _=>d6) (λ_ _ _ _=>(dv 1)))) aO)) (bt dN)) (aE _))
    case f=>refine' az (aH d5)
   case' d=>refine' ar ?g ?h
   case g=>
    refine' F3 Mj rfl rfl T.n_range (aa af (aa (PE.imp (bN (oZ rfl) rfl T.n_max Nt (aR af (aR (PE.imp (bN (vL rfl) rfl T.n_min Qb (aR (PE.imp (bN eV rfl T.n_len MA (aR (dv 0) aO)) (bt wR)) (aR af aO))) (bt mC)) aO))) (bt mC)) ag)) ?i aK ?j
    case i=>exact(aI (i:=12) dE.nd rfl R4)
    case' j=>refine' ar ?k ?l
    case k=>exact(bu (i:=7) dE.nd rfl R4 (aq G_d hr T.F_d (aa (aq G_c hr T.F_c (aa (dv 0) (aa (dv 12) ag))) ag)))
    case' l=>refine' ar ?m ?n
    case m=>
     generalize hG35:QF _ _ _ _=eg35;refine' bu (i:=13) dE.nd rfl R4 ?o (hs:=by subst hG35;exact fh)
     case' o=>subst hG35
     exact(PE.imp (bN (oZ rfl) rfl T.n_max Nt (aR af (aR (aQ bz bQ (au ay aB (au ay aB (dv 9) (aq G_e hr T.F_e (aa (dv 7) (aa (PE.imp (bN eV rfl T.n_len MA (aR (dv 9) aO)) (bt fP)) ag)))) af) (au bE bR (fe (cL (aa af (aa af (aa af (aa (xU af) (aa af ag))))))) (aq G_e hr T.F_e (aa (dv 7) (aa af ag))))) aO))) (bt mC))
    case' n=>refine' az ?p
    case' p=>refine' bH ?q ?r bG
    case q=>exact(kq (ib (aq G_u hr T.F_u (aa (fe (cL (aa (dv 2) (aa (dv 5) ag)))) (aa (dv 9) (aa (dv 13) ag))))))
    case r=>refine' az (aH d5)
   case h=>refine' az (aH d5)
  case B=>
  clear G_n G_d G_c G_e G_p G_o G_M G_u hr T;walk_at "d";refine⟨ns,oH,0,7,rfl,RZ,RZ,RZ,RZ,Ds,RZ,RZ,λxs n1 f1 g1 l1 x0 nl1 nok1 nnd1=>?_⟩;refine⟨_,rfl,rfl,_,_,rfl,_,_,rfl,_,_,rfl,rfl,?_⟩;refine⟨ns,oH,40,7,rfl,RZ,RZ,RZ,RZ,Ds,RZ,RZ,λys0 n2 f2 g2 l2 y0 nl2 nok2 nnd2=>?_⟩;refine⟨_,rfl,rfl,_,_,rfl,_,_,rfl,_,_,rfl,rfl,?_⟩;refine⟨ns,39,rfl,RZ,RZ,λc=>⟨c,rfl,26,rfl,RZ,RZ,λv v0 v1=>?_⟩⟩;refine⟨n1,n2,v,rfl,v0,v1,nl1,nok1,nl2,nnd2,λms ml mnd mok=>?_⟩;have ml2:n2.length=ms.length:=R0
  refine⟨_,rfl,by rw [Lm];omega,?_⟩;refine⟨λi acc=>∃ys:List De,acc=ys.map De.enc/\ys.length=i/\Dr n2 ms ys0 ys,⟨[],rfl,rfl,λj x y _ h=>by simp at h⟩,?_,?_⟩
  ·rintro i z acc hz ⟨ys,rfl,yl,yr⟩;rw [LD] at hz;cases hz':ys0[i]? with
   | none=>rw [hz'] at hz;cases hz
   | some x=>
    rw [hz'] at hz;cases hz;walk_at "d";refine⟨n2,ms,x,rfl,ml2,λs hs=>(mok s hs).1,(g2.e x (LQ hz')).sh,λy sy ry=>⟨ys++[y],by rw [LS];rfl,by simp [yl],λj x' y' hx hy=>?_⟩⟩;by_cases hj:j < ys.length
    ·rw [MH hj] at hy;exact yr j x' y' hx hy
    ·rw [MR R0] at hy;have:j=i:=by
      have:=(Lz.mp hy).1;simp at this;omega
     subst this;rw [hz'] at hx;cases hx;rw [yl,Pz] at hy;cases hy;exact⟨sy,ry⟩
  rintro acc ⟨ys,rfl,yl,yr⟩;rw [Lm] at yl;have gy:=Le ml2 mnd g2 yl yr;clear yr g2;refine⟨_,.inr rfl,?_⟩;refine⟨λi δ=>∃(zs:List De)(o1 o3 o4 o6 o8 o10 o11 o12 o13:Option Sl),zs.Perm (xs++ys.take i)/\δ=[some (Sl.v (eI (ns.map .int))),o1,some (Sl.v (.tuple (xs.map De.enc))),o3,o4,some (Sl.v (.tuple (ys.map De.enc))),o6,some (Sl.v fu),o8,some (Sl.o (zs.map De.enc)),o10,o11,o12,o13],⟨xs,_,_,_,_,_,_,_,_,_,R5,rfl⟩,?_,?_⟩
  ·rintro i z δ hz ⟨zs,o1,o3,o4,o6,o8,o10,o11,o12,o13,hp,rfl⟩;rw [LD] at hz;cases hz':ys[i]? with
   | none=>rw [hz'] at hz;cases hz
   | some y=>
    rw [hz'] at hz;cases hz;have zl:=hp.length_eq;rw [LN,Mc] at zl;walk_at "d";rw [Lm];refine⟨_,rfl,R0,R0,λv v0 v1=>?_⟩;obtain⟨k,rfl⟩:=My v0;refine⟨k,rfl,R0,R0,d7 zs k y,?_,(A2 _ _ _ _).symm,_,rfl⟩;rw [Mx,hz'];refine(nk zs k y).trans ((hp.cons y).trans ?_);rw [<-Oi];exact(Qc (l₁:=[y])).trans (.refl _)
  ·rintro δ ⟨zs,o1,o3,o4,o6,o8,o10,o11,o12,o13,hp,rfl⟩;rw [Lm,L3 (Lr _)] at hp;have tw:aM (·∈n1) (·∈ms) xs ys zs:=⟨hp,g1,gy,λs a b=>(mok s b).2 a,λs hs=>(nok1 s hs).ok,λs hs=>(mok s hs).1,R0⟩;have z0:zs≠[]:=λe=>by
    rw [e] at hp;have:=hp.length_eq;rw [LN] at this;exact x0 (Og.mp (by simp at this;omega))
   clear hp g1 gy mok mnd nok1 nok2;have gz:=tw.gz;have gx:=gz.gd.gx;have gp:=gx.gp;have pl:=gp.ln;have zl:=gx.ln;walk_at "d";refine⟨by rw [Lm];omega,?_⟩;refine cI (eg λ_=>true) (λx=>bP (x.d,x.nm)) (λx hx R S h=>?_) ?_
   ·cases x with
    | pap p=>
     simp only [De.enc,Pp.enc];walk_at "d";exact h
    | oth w d nm r=>
     simp only [De.enc];walk_at "d";rw [cU (gx.np w d nm r hx),R1 Lx];rw [R1 (show ¬eg (λ_=>true) (.oth w d nm r)=true from Lx)] at h;exact h
   rw [uK];refine⟨(ai zs).map Pp.key,rfl,by rw [Lm];omega,BY gp.nd,λps hp1 hp2=>?_⟩;have ep:=Jf gp.nd hp1 hp2;subst ep;clear hp1 hp2;refine⟨zs,rfl,gx,by rw [Lm,Lm,kZ];omega,?_⟩;rw [LH];refine cI (enc:=bP ∘ Pp.key) (λ_=>true) (λp=>.str p.nm) (λp hp R S h=>?_) ?_
   ·simp only [NF,bP,Pp.key];walk_at "d";rw [R3 rfl] at h;exact h
   rw [gG];have ln:bO 2 (.tuple (((bj (ai zs)).map (·.nm)).map .str)):=cj (n:=1) (jG λm hm=>by
    obtain⟨p,hp,rfl⟩:=Lv.mp hm;exact gp.nm p (fk.mp hp))
   have e:(bj (ai zs)).map (λp=>Lp p.nm)=((bj (ai zs)).map (·.nm)).map .str:=by rw [LH];rfl
   rw [e];refine⟨ln.shp RZ,ln.shp RZ,?_⟩;rw [iG _ ln.can,R1 RZ];refine⟨_,rfl,?_⟩;rw [Lm];obtain⟨bg,et,t0,t1⟩:∃m:Int,(if (if 34 < (ns.length:Int) then 34 else(ns.length:Int)) > 32 then if 34 < (ns.length:Int) then 34 else(ns.length:Int) else 32)=m/\32<=m/\m<=34:=⟨_,rfl,by split <;> split <;> omega,by split <;> split <;> omega⟩;rw [et];clear et e ln;refine⟨R0,R0,?_⟩;refine⟨λi δ=>∃(o1 o3 o4 o6 o7 o8 o10 o11 o12 o13:Option Sl),δ=[some (Sl.v (eI (ns.map .int))),o1,some (Sl.v (.tuple (xs.map De.enc))),o3,o4,some (Sl.v (.tuple (ys.map De.enc))),o6,o7,o8,some (Sl.v (.tuple (zs.map De.enc))),o10,o11,o12,o13],⟨_,_,_,_,_,_,_,_,_,_,rfl⟩,?_,?_⟩
   ·rintro i z δ hz ⟨o1,o3,o4,o6,o7,o8,o10,o11,o12,o13,rfl⟩;obtain⟨hi,rfl⟩:=i4 hz;clear hz;walk_at "d";have z1:0 < zs.length:=Qo.mpr z0;refine⟨ns,_,rfl,R0,R0,λc=>⟨c,rfl,_,rfl,by rw [Lm];omega,by rw [Lm];omega,λv v0 v1=>?_⟩⟩;rw [Lm] at v1;obtain⟨j,rfl⟩:=My v0;have hj:j < zs.length:=R0
    have ej:∃rx,zs[j].enc= .tuple (.str zs[j].w:: .int zs[j].d:: .str zs[j].nm::rx):=by cases zs[j] <;> exact⟨_,rfl⟩
    obtain⟨rx,ej⟩:=ej;refine⟨_,rfl,_,eU (by simp [hj];exact ej),_,rfl,_,gE,5,rfl,RZ,RZ,λu u0 u1=>⟨_,rfl,?_⟩⟩;obtain⟨e,ee⟩:∃e:Int,atI [Ly 0,Ly 0,Ly 1,Ly (-1),Ly 3] u=some (.int e):=by
     have:u=0\/u=1\/u=2\/u=3\/u=4:=R0
     rcases this with h | h | h | h | h <;> subst h <;> exact⟨_,rfl⟩
    refine⟨_,ee,_,rfl,_,rfl,?_⟩;generalize (if zs[j].d+e > 0 then zs[j].d+e else 0)=n;refine⟨_,_,xs,ys,zs,n,rfl,tw,true,rfl,?_⟩;rw [R1 RZ]
    first | exact⟨_,rfl⟩ | trace_state
   ·rintro δ ⟨o1,o3,o4,o6,o7,o8,o10,o11,o12,o13,rfl⟩;walk_at "d";exact q
end
end K14
namespace PySem.W.Fast
def tw15084132262459934561:=0
def tw6890740861178044986:=0
def tw16366963301985954844:=0
def tw627073346750128590:=0
def tw4358053187829435600:=0
def tw4153112840648830597:=0
def tw3084350208315391347:=0
def tw15652285550024963878:=0
def tw9933092433301878055:=0
def tw3771564093929469253:=0
def tw5630536091586056243:=0
def tw12260587559147130560:=0
def tw4657656607584343834:=0
def tw15288220793846820461:=0
def tw10195473895996638884:=0
def tw5225152828393430959:=0
def tw4691841572093941565:=0
def tw7240486446755269054:=0
def tw15790330493805439356:=0
def tw10910622267625751969:=0
def tw9109489110354029122:=0
def tw9286246752520140389:=0
def tw690902131439554624:=0
def tw4154556012874416293:=0
def tw4179656827886879286:=0
def tw12213252827054257188:=0
def tw16228753042687695509:=0
def tw8750955482301607049:=0
def tw7063207913304569784:=0
def tw3404852880345894792:=0
def tw10659722981237940254:=0
def tw10749955669360222391:=0
def tw12041591471766017353:=0
def tw2027417964162106221:=0
def tw11711082895992837301:=0
def tw11755489348753957409:=0
def tw9044349329426387434:=0
def tw1528018811064679404:=0
def tw13901137414423211197:=0
def tw12800215726863790705:=0
def tw14392207528191966129:=0
def tw13606977073535307657:=0
def tw15885767403938258648:=0
def tw6256403308574045295:=0
def tw3013167787824781873:=0
def tw7489330163996866520:=0
def tw114119614470022287:=0
def tw5486517558473881149:=0
def tw11409263969969173248:=0
def tw4396642443073798968:=0
def tw4186338119650854743:=0
def tw14550017199426772754:=0
def tw3159198100038671517:=0
def tw9451122047541720324:=0
def tw5925379716517390104:=0
def tw451331585603269989:=0
def tw9980701600394350871:=0
def tw7901707676535975914:=0
def tw4769561739508221123:=0
def tw10644303141998979319:=0
def tw15515279008879534327:=0
def tw9674365146714660050:=0
def tw18438896865961859725:=0
def tw15410821048246751890:=0
def tw14582570485858787125:=0
def tw16804120762533757492:=0
def tw1151187627947196364:=0
def tw10968700479832553718:=0
def tw3234841324748889988:=0
def tw15768096546184322042:=0
def tw9615708473964676365:=0
def tw197470351061229442:=0
def tw13922691959584539964:=0
def tw9376939824792710974:=0
def tw11226017790254121747:=0
def tw1496592173515370985:=0
def tw8462449377835772750:=0
def tw5570693604407116478:=0
def tw5479504942035199596:=0
def tw99968932692206942:=0
def tw4324272093117713094:=0
def tw1109907636372319616:=0
def tw3369921148277792631:=0
def tw1326354722125172123:=0
def tw13898416346937943244:=0
def tw15140121451330122443:=0
def tw9471062880637914205:=0
def tw4293301974326270428:=0
def tw18431327078298360629:=0
def tw12731219082970019762:=0
def tw1075572772453008094:=0
def tw8435485284758490060:=0
def tw13858715430373935301:=0
def tw7731707545097882685:=0
def tw14196095517505401291:=0
def tw13798336768598692851:=0
def tw13394417340338788241:=0
def tw10408574292589023402:=0
def tw2872929845653831084:=0
def tw6981842926491166445:=0
def tw7287802636299279180:=0
def tw14877408563196522186:=0
def tw16622715954616857937:=0
def tw3194477036779424053:=0
def tw13483128525755407653:=0
def tw16822727240538601010:=0
def tw5652702994562859317:=0
def tw7471444349771429304:=0
def tw12877422613052804022:=0
def tw13339587166986352425:=0
def tw14116221726164220774:=0
def tw14453408041796626904:=0
def tw17304858184257397714:=0
def tw2253068184415257016:=0
def tw1685370198726026675:=0
def tw12686430107891121613:=0
def tw17277266575779593141:=0
def tw10068272496040702861:=0
def tw9051900319289358564:=0
def tw3218016767957607039:=0
def tw18279746269506929966:=0
def tw2762503129117810048:=0
def tw11832308527867389477:=0
def tw5007946028630351341:=0
def tw9268431780685751698:=0
def tw13131059656553150631:=0
def tw10226665135573587068:=0
def tw17685449147736245474:=0
def tw17019533236681286440:=0
def tw7526693745504073849:=0
def tw7991678121969999925:=0
def tw11308514995765399160:=0
def tw17998054116173738261:=0
def tw15335920267762422781:=0
def tw8528914116910675090:=0
def tw3911204485960183967:=0
def tw16740904222492966203:=0
def tw1240245847098390873:=0
def tw9127021534283913005:=0
def tw6151390815206467825:=0
def tw1695172733695495220:=0
def tw17384493696922810621:=0
def tw5920633080834384535:=0
def tw2630369606497181815:=0
def tw10375641750389597718:=0
def tw10736506792298319823:=0
def tw9821049824638885605:=0
def tw15054952796225709533:=0
def tw1008264167287104672:=0
def tw3352961459076761958:=0
def tw15078514144715882571:=0
def tw9003200099294530612:=0
def tw4282622993604559505:=0
def tw14494031735513565239:=0
def tw11564435846075964956:=0
def tw7460591323529565816:=0
def tw4152347164092483305:=0
def tw2667174330828048945:=0
def tw8520218918789540124:=0
def tw5913980719453911603:=0
def tw16258966030187612739:=0
def tw3688400720563089320:=0
def tw8404716559582485721:=0
def tw3096936639898583493:=0
def tw3667833610521665342:=0
def tw11189178648282585047:=0
def tw481550066119325515:=0
def tw14296407533692471850:=0
def tw11931532971006105106:=0
def tw13021951944175811940:=0
def tw11899362692255917207:=0
def tw11266647259901214299:=0
def tw15939594503250665512:=0
def tw6266917453824635860:=0
def tw17606271029465174241:=0
def tw10276342484237383503:=0
def tw3995046672172728338:=0
def tw14013985603553696102:=0
def tw13830652481507504926:=0
def tw17954566454514510323:=0
def tw11613474676938757695:=0
def tw17600644525254829114:=0
def tw16716430353369886530:=0
def tw7810716542409584920:=0
def tw1327925692114207140:=0
def tw4856568112415734468:=0
def tw3160902149099616742:=0
def tw18304388686658035486:=0
def tw6443327906894695342:=0
def tw2221026184164515329:=0
def tw11769007433564422322:=0
def tw14976121985678906168:=0
def tw12151855844562830763:=0
def tw15895988979529914314:=0
def tw14226032143805349030:=0
def tw3010209874283499436:=0
def tw8517786926838913319:=0
def tw17760863072733902888:=0
def tw12962458100150365218:=0
def tw14315920762938485100:=0
def tw1125006910276094121:=0
def tw4704344553803819036:=0
def tw15572666382320070315:=0
def tw17826951776858409682:=0
def tw7545927362106735252:=0
def tw16118806056193283619:=0
def tw5422438152794209209:=0
def tw3728686775902073121:=0
def tw17109180375439577385:=0
def tw6577159514687482960:=0
def tw333527125492544200:=0
def tw12739291224262966490:=0
def tw924234719723262394:=0
def tw985086463730215265:=0
def tw9652715080526937272:=0
def tw16275148987150593003:=0
def tw2089680717052150930:=0
def tw4536226530712421954:=0
def tw15873496922436094634:=0
def tw16805962192190602704:=0
def tw3048707192169175311:=0
def tw17736984021884417399:=0
def tw1164381477009021436:=0
def tw2257834071711054639:=0
def tw357019342769853947:=0
def tw3229621805622392867:=0
def tw10211658236074943201:=0
def tw16405139368248152921:=0
def tw7369204597713013101:=0
def tw13500616146001104455:=0
def tw11780616431549245668:=0
def tw11362849819762582979:=0
def tw9871115757346585704:=0
def tw9494119729130125047:=0
def tw9346624553347675348:=0
def tw9057340435823374459:=0
def tw8958191026339368026:=0
def tw8933255314821997349:=0
def tw8798844045548683268:=0
def tw8765350191371362269:=0
def tw8430435601168548010:=0
def tw8349404757484786646:=0
def tw8273095964426556389:=0
def tw8205004061658868472:=0
def tw7833829499505125055:=0
def tw7768890152961605100:=0
def tw7692604878223941292:=0
def tw7462918937316458797:=0
def tw7380453679752867634:=0
def tw7142565171328412320:=0
def tw6937814952884612940:=0
def tw681361502628686264:=0
def tw6601314915139923926:=0
def tw6564526734844454954:=0
def tw6266881141116112883:=0
def tw5690926393432024515:=0
def tw5503260018081695238:=0
def tw5230964704818068531:=0
def tw4680361905641877154:=0
def tw4285376078390493877:=0
def tw4186441660715764350:=0
def tw4140588572534699948:=0
def tw4000251700231367994:=0
def tw3729944783470213447:=0
def tw362215227002343617:=0
def tw3347998321387644801:=0
def tw2746210007841315608:=0
def tw2695395150549014772:=0
def tw2514859528960630022:=0
def tw2221622551790903570:=0
def tw1978568376577544551:=0
def tw18440885526327876411:=0
def tw1772146530785015750:=0
def tw17313328501674356773:=0
def tw17300485947594659601:=0
def tw17224140872086607852:=0
def tw17169934602294453005:=0
def tw17056644477113326469:=0
def tw16845823391043411919:=0
def tw16607585705465131727:=0
def tw16435112469938937393:=0
def tw16353607248477500249:=0
def tw16132720644016740717:=0
def tw15900710435471061684:=0
def tw15180542079187336766:=0
def tw15127798149906999118:=0
def tw15089788835678918876:=0
def tw15066472536139686676:=0
def tw15061005197325573610:=0
def tw1488049884807274127:=0
def tw14253781190237756335:=0
def tw1421183672294575322:=0
def tw14183275967557942165:=0
def tw1417094574038335332:=0
def tw13734901009996278021:=0
def tw13567113465146207070:=0
def tw13560310028506555733:=0
def tw13031790255910440123:=0
def tw1297448124918666222:=0
def tw12751846399167347590:=0
def tw12746079269251726893:=0
def tw12038204587187100855:=0
def tw11608042453451947832:=0
def tw11548847279565374026:=0
def tw11533070944042294692:=0
def tw1124593383397452769:=0
def tw11187827245195239626:=0
def tw11059666817706796944:=0
def tw1064756634208640667:=0
def tw10639018032752276562:=0
def tw10135921110889189294:=0
def tw1008495065713948655:=0
def tw10009972101838271728:=0
end PySem.W.Fast
open PySem PySem.W PyProof.Rows
local macro_rules | `(tactic| walk_at "f")=>`(tactic| (refine' L2.DfT.of ?a ?l ?c ?k;(case a=>k_is);(case l=>k_is);(case c=>k_is);(case k=>k_is)))
local macro_rules | `(tactic| walk_at "m")=>`(tactic| (refine' L2.DmT.of ?a ?i ?l ?c ?k;(case a=>k_is);(case i=>k_is);(case l=>k_is);(case c=>k_is);(case k=>k_is)))
local macro_rules | `(tactic| walk_at "c")=>`(tactic| (refine'⟨⟨?a,?i,?l,?c⟩,?m,?k⟩;(case a=>k_is);(case i=>k_is);(case l=>k_is);(case c=>k_is);(case m=>k_is);(case k=>k_is)))
set_option maxRecDepth 100000 in
theorem PySem.Challenge.cw_goneday_k14_whole_two_sets_beside_holds : PySem.Challenge.rw_goneday_k14_whole_two_sets_beside.Holds := by
 w_on;o_law;k_head;(case hw=>w_witness2)
 k_fill
 refine L2.walk_ofBK (l:=PySem.Challenge.rw_goneday_k14_whole_two_sets_beside) (n:=63) (k:=12) (x:="_law_script") (CX:=L2.CX0) (sp:=K14.sp_law) rfl RZ rfl ⟨rfl,RZ,RZ⟩ (λw h Y=>PySem.W.kIn_of Y) ?F ?S ?C
 case F=>
  intro w mg fa h KX G hmg;have T:∃t,K14.Txt (L2.KOf KX) mg t:=by
   dsimp only [L2.KOf];refine' K14.txt_mk KX G ?za ?zb ?zc ?zd ?ze ?zf ?zg ?zh ?zi ?zj ?zk ?zl ?zm ?zn ?zo ?zp ?zq ?zr ?zs ?zt ?zu ?zv ?zw ?zx ?zy ?zz ?zA ?zB ?zC ?zD ?zE ?zF ?zG ?zH ?zI ?zJ ?zK ?zL ?zM ?zN ?zO ?zP ?zQ ?zR ?zS ?zT ?zU ?zV ?zW ?zX ?zY ?zZ ?ya ?yb ?yc ?yd ?ye ?yf ?yg ?yh ?yi ?yj ?yk ?yl ?ym ?yn ?yo ?yp ?yq ?yr ?ys ?yt ?yu ?yv ?yw ?yx ?yy ?yz ?yA
   (case za | zb | zc | zd | ze | zf | zg | zh | zj | zk | zl | zm | zn | zo | zp | zq | zr | zs | zt | zu | zv | zw | zx | zy | zz | zA | zB | zC | zD | zE | zF | zG | zH | zI | zJ | zK | zL | zM | zN | zO | zP | zQ | zR | zS | zT | zU | zV=>walk_at "f")
   (case zW | zX=>k_is)
   (case zY=>first | (repeat (first | exact .nil | refine .cons ⟨_,rfl⟩ ?_)))
   (case zZ=>decide)
   (case ya=>k_is)
   (case yb=>exact⟨_,rfl⟩)
   (case yc=>k_is)
   (case yd=>exact⟨_,rfl⟩)
   (case ye=>k_is)
   (case yf=>exact⟨_,rfl⟩)
   (case yg | yh=>k_is)
   (case yi=>walk_at "c")
   (case yj | yk | yl | ym | yn=>unfold L2.NoAttr;k_is)
   (case yo | yp | yq | yr | ys | yt | yu | yv | yw | yx | yy | yz | yA=>k_is)
   (case zi=>walk_at "m")
  obtain⟨t,T⟩:=T;have e0:=hmg.symm.trans T.F_v.m;cases e0;exact⟨t.d_v,T.bt_v,λbase kb nb=>K14.ok_law T⟩
 case S=>exact λK H a ns hl hb hO hS=>K14.start_law hl hb hS
 case C=>exact λ_ _ _ _ z=>z
