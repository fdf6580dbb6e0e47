import PyProof.Rows.All
import Wide.All
import OpenK.AllK
import PySem.Challenge.RW_goneday_k12_holds_that_cover
open PySem.Str renaming ofString->Jt,ofString->Jw
open PySem.W renaming Frag->Ju,nsIn->J4,mg_none_of->Ks,mg_of->Lp,excIn->Ma,fnOf->Mv,mroIn->MC,keepIn->MH,findIn->MS,kitOne->M8,cellsFrom_some->Nh,codeIn->NB,kitAny->NC,methodObj->NP,callWith_K->OM,specialIn->O6,takesIn->Pt,isClsIn->Pu
open List renaming length_map->Jv,map_cons->JB,getElem?_map->JD,mem_map->JE,mem_cons->JF,getElem?_eq_some_iff->JH,mem_append->JI,mem_singleton->JJ,getElem?_eq_getElem->JN,mem_of_getElem?->JQ,length_cons->JS,size_toArray->JT,replicate->JU,getElem?_set_ne->JV,map_append->JZ,getElem?_set_self->J0,map->J1,append_nil->J5,getElem?_cons_succ->J6,take_of_length_le->J7,mem_cons_of_mem->Ka,lookup_cons->Kb,mem_append_right->Kc,length_append->Kg,getElem?_cons_zero->Ki,map_nil->Kk,mem_filter->Kq,length_nil->Kr,map_map->Ku,length_take->Kw,any_cons->Kz,not_mem_nil->KA,nil_append->KC,cons_append->KD,set_cons_zero->KG,set_cons_succ->KH,length_filter_le->KJ,getElem?_nil->KN,range->KQ,pairwise_cons->KU,getElem_mem->KY,take_succ->K3,pairwise_map->La,mem_cons_self->Lj,mem_of_mem_take->Ll,nodup_cons->LL,find?_cons->LO,getElem?_eq_none->LR,filter_cons->LV,all_cons->LY,foldl_cons->L6,filterMap_cons->L7,all_nil->L8,any_nil->L9,getD_eq_getElem?_getD->Mb,take_append_drop->Md,getElem?_append_left->Me,drop_eq_getElem_cons->Mf,mem_append_left->Mh,pairwise_append->Mj,map_take->Ml,filter_sublist->Mm,mem_range->Mn,all_eq_true->Mo,mem_filterMap->Mu,length_replicate->Mz,getElem?_append_right->MA,length_range->ME,length_drop->MI,any_eq_true->MK,ext_getElem->ML,getElem?_replicate->MN,nodup_append->MQ,filter_append->M6,pairwise_singleton->Nc,reverse_cons->Nd,getElem_inj->Nl,filterMap_append->Nr,mem_of_mem_drop->Nx,eq_nil_of_length_eq_zero->Ny,getElem_of_mem->Nz,filterMap_map->NI,mem_replicate->NL,length_eraseIdx_of_lt->NN,take_sublist->NS,append_assoc->NV,pairwise_iff_getElem->N1,idxOf_lt_length_iff->N6,getElem?_set_self'->N8,of_mem_zip->Oc,drop_of_length_le->Of,filter_eq_nil_iff->Oi,filter->Oj,Nodup->Ox,map_drop->OC,map_congr_left->OE,length_reverse->OF,filter_eq_self->OH,replicate_succ->OI,contains_cons->OQ,any_map->OT,toArray->OV,getElem_idxOf->OX,filter_filter->OY,reverse_perm->O8,length->O9,not_lt->Pa,le_antisymm->Pe,nodup_range->Pf,map_snd_zip->Pk,forIn_cons->Pm,range_succ->Pq,filter_map->Pw,filter_nil->Py,forIn_nil->PB,drop_zero->PF,lt_trans->PL,foldl->Qc
open PySem.Heap renaming get?_push_of_some->Jx,lt_size->JC,get?_push_size->JR,get?_update_self->LS,get?_update_other->Mr,SameBut->Mt,size_push->M7,get?_update_ne->OG,FlyingW->OP,get?_push_ne->OZ,MadeExcOf->PD,ExtBut->P8
open Nat renaming le_refl->Jy,ne_of_lt->JW,lt_of_lt_of_le->JX,le_trans->Km,zero_le->KI,lt_succ_of_lt->K9,lt_irrefl->Le,reduceAdd->Lh,reduceSub->Li,reduceLeDiff->Lm,add_zero->Lz,zero_add->LA,sub_self->LB,reduceLT->LC,le_of_lt->Ms,lt_or_ge->Mw,lt_succ_self->MJ,ne_of_gt->M3,le_of_succ_le->NT,le_of_not_lt->N3,le_succ->Oh,min_le_right->Pb,sub_zero->PV,le_of_eq->PX
open PySem renaming Spec->Jz,Scope->Kv,mem_of_lookup->K7,boot_len->Lu,Fin->OW,call->Qb
open PySem.PyData renaming str->JA,eqv->JG,strOk->JK,int->JM,tuple->J3,canLay0->Ke,list->Kl,canLayAll0->LJ,bool->LX,depth->Mx,eqvAll->MD,depthAll->MW,none->ND,dict->P9
open Array renaming length_toList->JL,getD_eq_getD_getElem?->K8,toList_append->MM,getElem?_eq_getElem->MY,getD->Na,getElem?_eq_none->Ni,getElem?_toList->Nq,append_assoc->NF,perm_iff_toList_perm->NO,toArray_toList->Ov,toList_push->O4,toList_inj->Pg,toList_map->Ph,toList_zip->Pj,toList->PM
open PySem.ScopeKind renaming function->JO
open PySem.NameKind renaming free->JP,globalImplicit->Kj,free->Lg,cell->Nj
open PySem.Value renaming ref->JY,str->L5,none->Mg,bool->Mq,int->MG,type->MT,builtin->Nk,isStrOf->Oy,isStrOf_shape->OD,isInt->P1
open List.cons renaming injEq->Kd
open Bool renaming false_ne_true->Kf,false_eq_true->Kh,and_eq_true->Kn,not_eq_true'->Ko,true_eq_false->KW,or_false->Lf,false_or->Lo,not_false->Lv,true_and->Ly,not_true->LH,and_true->LZ,eq_iff_iff->Od,beq_comm->OB,not_eq_true->Pl,or_eq_true->Pr,false_and->Pz,or_true->PR
open Option.some renaming inj->Kp,injEq->KO
open PySem.Heap.SameBut renaming update->Kt
open PySem.PassesOwn renaming never->Kx,leaving->O7
open Int renaming eq_ofNat_of_zero_le->Ky,reduceNeg->Lq,reducePow->Lr,reduceLT->LD,reduceLE->LG,emod_nonneg->LP,emod_lt_of_pos->LW,toNat_natCast->L4,ediv_one->PN,zero_add->PY,le_refl->P6
open PySem.PyData.int renaming injEq->KL
open PySem.Obj renaming mapSeq->KR,data_mapFields->LU,isFreed_of_fields->MR,cls_mapFields->NW,putSet->NZ,mapFields->PK
open PySem.SeqAt renaming canLay_of_shaped->KS,shaped->Lk
open Option renaming join_some->KZ,join_none->K0,map_some->Lw,map_none->Lx,isSome_iff_exists->Mi,isSome_map->NU,isSome_some->OO,getD_none->Pc,bind->P7
open PySem.Builtin.Slice renaming slicePlaces->K1,sliceAdjust->LN,sliceApplied->MB,sliceFields->NX
open PySem.PyData.tuple renaming injEq->K2
open PySem.Builtin.Tuple renaming tupleExact->K4,tupleItemsOf->MU
open PySem.PyData.str renaming injEq->K5
open False renaming elim->K6
open PySem.PyData.bool renaming injEq->Lb
open PySem.PyData.list renaming injEq->Lc
open PyProof.Rows renaming slot_tuple_getitem->Ld,boot_sorted->Mk,entry_tuple_getitem->Nn,args_tuple_getitem->Nt,bubble->NA,callWith_type1->NG,boot_max->Oo,boot_min->Qa
open True renaming intro->Ln
open PySem.Builtin.Int renaming intBits->LK
open Sum renaming inr->LQ,inl->N2
open PySem.Txt renaming mul->Mc
open PySem.SetTable renaming grown->Mp,below->M9,sizeAbove->OU,layClean->O3,relaid->Po,laid->PJ
open PyProof.Rows.F renaming plain_set_update_loop->My,entry_set_update_loop->M5
open PySem.Around renaming under_plainId->MF,frames_deeper->Oq
open PySem.W.WData renaming int->MO,weightAll->MV,list->NY,layableAll->Pd,weight->PQ
open ForInStep renaming yield->MP
open PySem.Calls renaming call_function_entry->MX,evalArgs_plain->Nu,spliced_cons->NH,Name_function_global->NM,spliced_nil->NQ,callWith_builtin->Oe
open PySem.W.KasT renaming kasWp_bind->MZ
open PySem.Builtin.List renaming listTooLong->M4,listLengthHint->NJ,listExtendWith->NK,listSameRef->N5,listUpdate->Oa
open PySem.F renaming plainAttrs_list->Nb,slot_dict_get->Np,plain_extend_loop->N0,args_dict_get_2->N7,plain_list_iadd->N9,slot_list_index->Ob,entry_dict_get->Og,plain_set_new->Ol,slot_set_iter->Om
open Or renaming inr->Nv,inl->N4
open Nat.succ renaming inj->Nw
open PySem.SeqAt.RcAt renaming tuple_str->Ot,str_tuple->Ow,str_str->OS
open PySem.SeqAt.EqAt renaming str_tuple->Ou,str_int->OJ
open PySem.Paired renaming length->Oz,snoc->P5
open Function renaming comp->OA
open PyProof.Rows.IsTup renaming new->OL
open PySem.Heap.IsSliceOf renaming new->ON
open PySem.Code renaming quiet_builtin->OR
open PySem.SetTable.below renaming go->O5
open PySem.Walks renaming list->Pn
open PySem.Expr renaming BinOp->Px,Subscript->PH,List->Qf
open List.Pairwise renaming imp_of_mem->PZ
open PySem.Builtin.Str renaming occurrences->P0
open Sum.inr renaming inj->P2
open PySem.CmpOp renaming NotIn->P4
open PySem.Flow renaming next->Qe
open PySem.Heap.DictOf renaming new->Qg
open PySem renaming PyData->Qp,wpAny_bind->Qq,Value->Qr,Addr->Qs,Shared->Qt,wpAny_pure->Qu,wpAny->Qv,model->Qw,Expr->Qx,starEach->Qy,sizeLine->Qz,Program->QA,Heap->QB,FuncData->QC,mainGlobals->QD,World->QE,Around->QF,wpAny_newObj_type->QG,Stmt->QH,foldedSetIterable->QI,sizeLine_eq->QK,bootBuiltins->QL,wpAny_mono->QM,backTo->QN,compareOp->QO,Scope->QP,wpAny_call_entry->QQ,wpAny_holding->QR,swapsWith->QS,wpAny_callSpecial?_slot->QU,cLine->QV,behindInMarks->QW,wpAny_truthy_bool->QX,cellsFrom->QY,NameKind->QZ,wpAny_loadPart'->Q0,sysModules->Q1,codeAny_mono->Q2,wpAny_Call_Name_kw->Q3,wpAny_passesOwn->Q4,codeAny_builtin->Q5,rawInt->Q6,wpAny_setState_of->Q7,getItem->Q8,binaryOp->Q9,wpAny_askSetting->Ra,wpAny_setEntries_of->Rb,codeAny->Rc,Keyword->Rf,wpAny_execs_nil->Rg,tupleKind_room_in1->Rh,scanBound->Ri,wpAny_setField->Rk,PassesOwn->Rl,pyNext->Rm,attributeBase->Rn,wpAny_newList->Ro,sliceBounds->Rq,wpAny_typeOf->Rt,SetTable->Ru,builtinsNs->Rv,assignEach->Ry,call_meets->Rz,setNext->RA,wpAny_field->RB,subscripted->RC,keywordEach->RD,plainId_quiet->RF,wpAny_attempt->RG,relayAll->RH,DictEntry->RJ,wpAny_rule->RK,letOwnedTupleGo->RL,typeIs_str->RM,codeAny_call_builtin->RN,wpAny_ite_split->RO,wpAny_fieldsOf->RS,firstArgMember->RT,wpAny_of_eq->RU,tupleKind->RV,Arguments->RX,pickOrder->RY,swapsWithSole->RZ,swappedStores->R0,wpAny_pyIter_list->R3,wpAny_sequenceKey->R4,wpAny_execs_cons->R5,wpAny_comprehension_free->R6,checkBuiltinCall->R7,wpAny_isInstance->R8,GenState->R9
open PyProof.Rows renaming seqObj->QJ,StrsAre->QT,envOfC->Rj,listUpdate_at->Rp,get?_update_seq->Rr,AllBare->Rx,entry_list_sort->RP,slicePart_none->RQ,slot_list_sort->RR,assignInOrder_cons->RW,subscriptTail->R1
open PySem.W renaming hideAll_get->RE,kia_one->RI
theorem Qh{p:Prop}[Decidable p](h:decide p=true:=by decide+kernel):p:=of_decide_eq_true h
theorem Qi{p:Prop}(h:p:=by decide):p:=h
theorem Qj{p:Prop}(h:p:=by omega):p:=h
theorem Qo{p:Prop}(h:p:=by simp):p:=h
theorem Qk{c:Prop}{h:Decidable c}(k:¬c){α:Sort u}{t e:α}:ite c t e=e:=if_neg k
theorem Ql{c:Prop}{h:Decidable c}(k:c){α:Sort u}{t e:α}:ite c t e=t:=if_pos k
abbrev Sa:=PySem.NameKind.local
set_option compiler.extract_closed false
def rzT (n : String) : Lean.MacroM (Lean.TSyntax `tactic) := do
 let ts : Array (Lean.TSyntax `Lean.Parser.Tactic.simpLemma) <- ((n.splitOn " ").toArray).mapM λs =>do
  if s.startsWith "↓" then
   let i := Lean.mkIdent (s.drop 1).toString.toName
   `(Lean.Parser.Tactic.simpLemma| ↓ $i:ident)
  else
   let i := Lean.mkIdent s.toName
   `(Lean.Parser.Tactic.simpLemma| $i:ident)
 `(tactic| simp only [$ts,*])
local macro_rules|`(command|def $i:declId $s:optDeclSig $v:declVal)=>`(command|noncomputable def $i:declId $s:optDeclSig $v:declVal)|`(command|abbrev $i:declId $s:optDeclSig $v:declVal)=>`(command|noncomputable abbrev $i:declId $s:optDeclSig $v:declVal)
noncomputable section
set_option Elab.async false
set_option linter.all false
set_option maxRecDepth 100000
set_option maxHeartbeats 0
set_option genSizeOf false
namespace L2
open PySem PySem.Spec PyProof.Rows
abbrev ag:=Sum Int Str
def oE:ag->Qr->Bool
 | .inl k,v=>P1 k v
 | .inr x,v=>Oy x v
def BI(w:QE):ag->Int
 | .inl k=>hashInt k
 | .inr x=>hashStr w x
theorem iB:∀{k:ag}{v:Qr},oE k v=true->(∃i t,k=N2 i/\v=MG i t)\/(∃x t,k=LQ x/\v=L5 x t)
 | .inl i,v,h=>by
  obtain⟨t,e⟩:=Value.isInt_shape (k:=i) (v:=v) h;exact .inl ⟨i,t,rfl,e⟩
 | .inr x,v,h=>by
  obtain⟨t,e⟩:=OD (x:=x) (v:=v) h;exact .inr ⟨x,t,rfl,e⟩
theorem BJ(i:Int)(t:Tok):oE (.inl i) (.int i t)=true:=by simp [oE,P1]
theorem BK(x:Str)(t:Tok):oE (.inr x) (.str x t)=true:=by simp [oE,Oy]
theorem BL(a b:Int):decide ((N2 a:ag)=N2 b)=(a==b):=by
 by_cases e:a=b
 ·subst e;simp
 ·have h:¬(N2 a:ag)=N2 b:=λq=>e (N2.inj q);rw [decide_eq_false h];exact(beq_eq_false_iff_ne.mpr e).symm
theorem BM(a b:Str):decide ((LQ a:ag)=LQ b)=decide (a=b):=by
 by_cases e:a=b
 ·subst e;simp
 ·have h:¬(LQ a:ag)=LQ b:=λq=>e (P2 q);rw [decide_eq_false h,decide_eq_false e]
theorem BN(a:Int)(b:Str):decide ((N2 a:ag)=LQ b)=false:=decide_eq_false (λq=>nomatch q)
theorem BO(a:Str)(b:Int):decide ((LQ a:ag)=N2 b)=false:=decide_eq_false (λq=>nomatch q)
def cg(prog:QA)(w:QE):PySem.KeyKind prog w ag where
 is:=oE
 hash:=BI w
 inj:=λv a b ha hb=>by
  rcases iB ha with⟨i,t,rfl,rfl⟩ | ⟨x,t,rfl,rfl⟩
  ·rcases iB hb with⟨j,u,rfl,e⟩ | ⟨y,u,rfl,e⟩
   ·injection e with e1 _;rw [e1]
   ·exact nomatch e
  ·rcases iB hb with⟨j,u,rfl,e⟩ | ⟨y,u,rfl,e⟩
   ·exact nomatch e
   ·injection e with e1 _;rw [e1]
 byValue:=λk v h=>by
  rcases iB h with⟨i,t,rfl,rfl⟩ | ⟨x,t,rfl,rfl⟩ <;> rfl
 pyHash:=λhv h=>by
  rcases iB hv with⟨i,t,rfl,rfl⟩ | ⟨x,t,rfl,rfl⟩
  ·exact wpAny_pyHash_int h
  ·exact wpAny_pyHash_str h
 eqBool:=λhu hv h=>by
  rcases iB hu with⟨i,t,rfl,rfl⟩ | ⟨x,t,rfl,rfl⟩
  ·rcases iB hv with⟨j,u,rfl,rfl⟩ | ⟨y,u,rfl,rfl⟩
   ·rw [BL] at h;exact wpAny_eqBool_int h
   ·rw [BN] at h;exact SeqAt.EqAt.int_str i t y u _ _ _ _ h
  ·rcases iB hv with⟨j,u,rfl,rfl⟩ | ⟨y,u,rfl,rfl⟩
   ·rw [BO] at h;exact OJ x t j u _ _ _ _ h
   ·rw [BM] at h;exact wpAny_eqBool_str h
 «strs»:=λk x t v h=>by
  rcases iB h with⟨i,u,rfl,e⟩ | ⟨y,u,rfl,e⟩
  ·exact nomatch e
  ·injection e with e1 _
   subst e1;cases v <;> rfl
theorem BP(prog:QA)(w:QE)(i:Int)(t:Tok):(cg prog w).is (.inl i) (.int i t)=true:=BJ i t
theorem BQ(prog:QA)(w:QE)(x:Str)(t:Tok):(cg prog w).is (.inr x) (.str x t)=true:=BK x t
inductive V where
 | non | bl (b:Bool) | int (i:Int) | str (x:Str) | byt (b:Array UInt8) | flt (b:UInt64) | ref (a:Qs) | ty (n:String)
 deriving DecidableEq
def ay:V->Qr->Prop
 | .non,u=>u=Mg
 | .bl b,u=>u=Mq b
 | .int i,u=>∃t,u=MG i t
 | .str x,u=>∃t,u=L5 x t
 | .byt b,u=>∃t,u=Value.bytes b t
 | .flt b,u=>∃t,u=Value.float b t
 | .ref a,u=>u=JY a
 | .ty n,u=>u=MT n
abbrev aA:List V->List Qr->Prop:=Paired ay
theorem aA.length{xs:List V}{us:List Qr}(r:aA xs us):xs.length=us.length:=Oz r
theorem aA.get:∀{xs:List V}{us:List Qr}{i:Nat}{x:V},aA xs us->xs[i]?=some x->∃u,us[i]?=some u/\ay x u
 | _,_,_,_,.nil,e=>by simp at e
 | _,_,0,_,.cons r _,e=>by simp at e;subst e;exact⟨_,rfl,r⟩
 | _,_,i+1,x,.cons _ t,e=>by
  obtain⟨u,h1,h2⟩:=aA.get (i:=i) (x:=x) t (by simpa using e);exact⟨u,by simpa using h1,h2⟩
theorem aA.append:∀{xs ys:List V}{us ws:List Qr},aA xs us->aA ys ws->aA (xs++ys) (us++ws)
 | _,_,_,_,.nil,s=>s
 | _,_,_,_,.cons r t,s=>.cons r (aA.append t s)
theorem aA.take:∀{xs:List V}{us:List Qr}(n:Nat),aA xs us->aA (xs.take n) (us.take n)
 | _,_,0,_=>.nil
 | _,_,_+1,.nil=>.nil
 | _,_,n+1,.cons r t=>.cons r (aA.take n t)
theorem aA.drop:∀{xs:List V}{us:List Qr}(n:Nat),aA xs us->aA (xs.drop n) (us.drop n)
 | _,_,0,r=>r
 | _,_,_+1,.nil=>.nil
 | _,_,n+1,.cons _ t=>aA.drop n t
def fq:Option V->Option Qr->Prop
 | some v,some u=>ay v u
 | none,none=>True
 | _,_=>False
def KV{κ:Type}:List (κ×V)->List (κ×Qr)->Prop:=Paired λ(p:κ×V) (q:κ×Qr)=>p.1=q.1/\ay p.2 q.2
def kV:ag->V
 | .inl i=>.int i
 | .inr x=>.str x
inductive HO where
 | lst (xs:List V)
 | tup (xs:List V)
 | dK (kvs:List (ag×V)) | dT (kvs:List (List ag×V))
 | set (S:Int->Bool) (n:Nat)
 | ins (C dx:Qs) (fs:List (Str×V))
 | own (x:Qs)
 | xd (fs:List (Str×V))
 | met (f x:Qs)
 | rng (lo hi:Int)
 | frz (o:Obj) (u:HO)
 | tbl (ps:Array Qr)
 | cod (q:Str)
 | ext (φ:QB->Prop)
abbrev Hp:=Qs->Option HO
def ao(H:Hp)(a:Qs)(o:HO):Hp:=λb=>if b=a then some o else H b
theorem bh{H:Hp}{a:Qs}{o:HO}:ao H a o a=some o:=by unfold ao;rw [Ql rfl]
theorem az{H:Hp}{a b:Qs}{o:HO}(h:b≠a):ao H a o b=H b:=by unfold ao;rw [Qk h]
theorem BR{H:Hp}{a b:Qs}{o u:HO}(h:H a=some o)(h':H b=some u)(d:o≠u):a≠b:=by
 intro e;subst e;rw [h] at h';exact d (Kp h')
theorem cE{H:Hp}{a b:Qs}{o:HO}(h:H a=some o)(h':H b=none):a≠b:=by
 intro e;subst e;rw [h] at h';cases h'
def BS(h:QB)(a:Qs)(q:Str):Prop:=∃oc vs t,h.get? a=some oc/\oc.data= .fields vs/\vs[1]?=some (.str q t)
def BU(H:Hp)(h:QB)(a:Qs)(q:Str):Prop:=∃ps:Array Qr,h.get? a=some {cls:= .none,data:= .fields ps}/\PySem.TriplesOk ps.toList/\∀pos cv,PySem.codeAmong pos ps.toList=some cv->∃c,cv= .ref c/\H c=some (.cod q)
section
variable (P:QA) (w:QE)
def bx(H:Hp)(h:QB)(a:Qs):HO->Prop
 | .lst xs=>xs.length<=Qz/\∃(its:List Qr)(n:Nat),aA xs its/\h.get? a=some {cls:= .type "list",data:= .seq its.toArray n}
 | .tup xs=>xs.length<=Qz/\∃its:List Qr,aA xs its/\IsTup h a its.toArray
 | .dK kvs=>kvs.length<=Qz/\(a==Q1)=false/\∃vs,KV kvs vs/\h.DictOf (cg P w) a vs
 | .dT kvs=>kvs.length<=Qz/\(a==Q1)=false/\∃xs:List (List ag×Qs×Qr),
  Paired (λ(p:List ag×V) (q:List ag×Qs×Qr)=>p.1=q.1/\H q.2.1=some (.tup (p.1.map kV))/\ay p.2 q.2.2) kvs xs/\
  ∃o es ep,h.get? a=some o/\o.ExactDict/\o.data= .dict es ep/\es.toList=xs.map (entryOfKey (RV (cg P w)))/\(xs.map (·.1)).Nodup
 | .set S n=>h.SetOf (intKind P w) a S n
 | .ins C dx fs=>H dx=some (.own a)/\fs.length<=1000/\dx≠a/\h.get? a=some (PySem.W.instObj C dx)/\
  ∃mA,h.Ns1 dx mA/\(∀f,fq (fs.lookup f) (mA f))/\PySem.Within mA (fs.map (·.1))
 | .own _=>∃o,h.get? a=some o
 | .xd fs=>∃mA,h.Ns1 a mA/\∀f,fq (fs.lookup f) (mA f)
 | .rng lo hi=>∃t u v,h.get? a=some {cls:= .type "range",data:= .fields #[.int lo t,.int hi u,.int 1 v]}
 | .frz o u=>h.get? a=some o/\bx H h a u
 | .tbl ps=>∃q t,ps[0]?=some (.str q t)/\BU H h a q
 | .cod q=>BS h a q
 | .met f x=>h.get? a=some (NP (.ref f) (.ref x))
 | .ext φ=>φ h/\(∃o,h.get? a=some o)/\∀h1 h2:QB,φ h1->(∀o,h1.get? a=some o->h2.get? a=some o)->φ h2
def aW(H:Hp)(h:QB):Prop:=∀a o,H a=some o->bx P w H h a o
end
section
variable {P:QA} {w:QE} {H H':Hp} {h h':QB} {a:Qs} {o:HO}
theorem bx.lt(x:bx P w H h a o):a < h.objs.size:=by
 cases o with
 | lst xs=>obtain⟨_,_,_,_,e⟩:=x;exact JC e
 | tup xs=>obtain⟨_,_,_,p⟩:=x;exact p.lt
 | dK kvs=>obtain⟨_,_,_,_,o,_,_,e,_⟩:=x;exact JC e
 | dT kvs=>obtain⟨_,_,_,_,o,_,_,e,_⟩:=x;exact JC e
 | set S n=>obtain⟨o,_,_,_,e,_⟩:=x;exact JC e
 | ins C dx fs=>obtain⟨_,_,_,e,_⟩:=x;exact JC e
 | own y=>obtain⟨_,e⟩:=x;exact JC e
 | xd fs=>obtain⟨_,⟨_,_,_,e,_⟩,_⟩:=x;exact JC e
 | rng lo hi=>obtain⟨_,_,_,e⟩:=x;exact JC e
 | frz ob u=>obtain⟨e,_⟩:=x;exact JC e
 | tbl ps=>obtain⟨_,_,_,_,e,_⟩:=x;exact JC e
 | cod q=>obtain⟨_,_,_,e,_⟩:=x;exact JC e
 | met f y=>exact JC (show h.get? a=some _ from x)
 | ext φ=>obtain⟨_,⟨_,e⟩,_⟩:=x;exact JC e
theorem Paired.mapP{α β:Type}{F G:α->β->Prop}:∀{l₁:List α}{l₂:List β},Paired F l₁ l₂->(∀a b,F a b->G a b)->Paired G l₁ l₂
 | _,_,.nil,_=>.nil
 | _,_,.cons r t,f=>.cons (f _ _ r) (Paired.mapP t f)
theorem bx.stay(x:bx P w H h a o)(k:∀b u,(b=a\/H b=some (.own a))->h.get? b=some u->h'.get? b=some u)
 (ho:∀b,H b=some (.own a)->H' b=some (.own a))(ht:∀b xs,H b=some (.tup xs)->H' b=some (.tup xs))(hc:∀b q,H b=some (.cod q)->H' b=some (.cod q)):bx P w H' h' a o:=by
 induction o with
 | lst xs=>obtain⟨z,its,n,r,e⟩:=x;exact⟨z,its,n,r,k _ _ (.inl rfl) e⟩
 | tup xs=>obtain⟨z,its,r,ob,e,c⟩:=x;exact⟨z,its,r,ob,k _ _ (.inl rfl) e,c⟩
 | dK kvs=>obtain⟨z,y,vs,r,ob,es,ep,e,c⟩:=x;exact⟨z,y,vs,r,ob,es,ep,k _ _ (.inl rfl) e,c⟩
 | dT kvs=>
  obtain⟨z,y,xs,r,ob,es,ep,e,c⟩:=x;exact⟨z,y,xs,Paired.mapP r λp q z=>⟨z.1,ht _ _ z.2.1,z.2.2⟩,ob,es,ep,k _ _ (.inl rfl) e,c⟩
 | set S n=>obtain⟨ob,es,ep,t,e,c⟩:=x;exact⟨ob,es,ep,t,k _ _ (.inl rfl) e,c⟩
 | ins C dx fs=>
  obtain⟨d,z,ne,e,mA,⟨od,es,ep,e2,c⟩,r⟩:=x;exact⟨ho _ d,z,ne,k _ _ (.inl rfl) e,mA,⟨od,es,ep,k _ _ (.inr d) e2,c⟩,r⟩
 | own y=>obtain⟨ob,e⟩:=x;exact⟨ob,k _ _ (.inl rfl) e⟩
 | xd fs=>obtain⟨mA,⟨od,es,ep,e,c⟩,r⟩:=x;exact⟨mA,⟨od,es,ep,k _ _ (.inl rfl) e,c⟩,r⟩
 | rng lo hi=>obtain⟨t,u,v,e⟩:=x;exact⟨t,u,v,k _ _ (.inl rfl) e⟩
 | frz ob u ih=>obtain⟨e,q⟩:=x;exact⟨k _ _ (.inl rfl) e,ih q⟩
 | tbl ps=>
  obtain⟨q,t,z,qs,e,tr,y⟩:=x;exact⟨q,t,z,qs,k _ _ (.inl rfl) e,tr,λpos cv w=>let ⟨c,e1,e2⟩:=y pos cv w;⟨c,e1,hc _ _ e2⟩⟩
 | cod q=>obtain⟨oc,vs,t,e,r⟩:=x;exact⟨oc,vs,t,k _ _ (.inl rfl) e,r⟩
 | met f y=>
  have e:h.get? a=some (NP (.ref f) (.ref y)):=x;show h'.get? a=some (NP (.ref f) (.ref y));exact k a _ (.inl rfl) e
 | ext φ=>obtain⟨p,⟨o,e⟩,st⟩:=x;exact⟨st _ _ p λo q=>k _ _ (.inl rfl) q,⟨o,k _ _ (.inl rfl) e⟩,st⟩
theorem aW.lt(x:aW P w H h)(e:H a=some o):a < h.objs.size:=(x a o e).lt
theorem aW.fresh(x:aW P w H h)(e:h.objs.size<=a):H a=none:=by
 cases q:H a with
 | none=>rfl
 | some u=>exact absurd (JX (x.lt q) e) (Le _)
theorem aW.kept(x:aW P w H h)(k:∀b u,h.get? b=some u->h'.get? b=some u):aW P w H h':=λa o e=>
 (x a o e).stay (λb u _ q=>k b u q) (λ_ q=>q) (λ_ _ q=>q) λ_ _ q=>q
theorem aW.laid(x:aW P w H h)(k:∀b u,h.get? b=some u->h'.get? b=some u)(hp:h.objs.size<=a)(new:bx P w (ao H a o) h' a o):aW P w (ao H a o) h':=λb u e=>by
 have hn:=x.fresh hp;by_cases hb:b=a
 ·subst hb;rw [bh] at e;cases e;exact new
 ·rw [az hb] at e;exact(x b u e).stay (λc v _ q=>k c v q) (λc q=>by rw [az (cE q hn)];exact q) (λc xs q=>by rw [az (cE q hn)];exact q) λc xs q=>by rw [az (cE q hn)];exact q
end
def Rd(H:Hp)(a:Qs)(u:HO):Prop:=H a=some u\/∃o,H a=some (.frz o u)
theorem Rd.ok{P:QA}{w:QE}{H:Hp}{h:QB}{a:Qs}{u:HO}(r:Rd H a u)(x:aW P w H h):bx P w H h a u:=by
 rcases r with r | ⟨o,r⟩
 ·exact x a u r
 ·obtain⟨_,q⟩:=x a _ r;exact q
def pP:Option HO->Prop
 | some (.lst _)=>True
 | some (.dK _)=>True
 | some (.dT _)=>True
 | some (.set _ _)=>True
 | some (.ins _ _ _)=>True
 | some (.ext _)=>True
 | _=>False
section
variable {P:QA} {w:QE} {H:Hp} {h h':QB} {x e:Qs} {o':HO}
theorem aW.write(ok:aW P w H h)(mu:pP (H x))(he:e=x\/H e=some (.own x))(k:∀b u,b≠e->h.get? b=some u->h'.get? b=some u)(heo:∃u,h'.get? e=some u)
 (new:bx P w (ao H x o') h' x o'):aW P w (ao H x o') h':=λb u q=>by
 have nown:∀c y,H c=some (.own y)->c≠x:=λc y r z=>by subst z;rw [r] at mu;exact mu
 have ntup:∀c xs,H c=some (.tup xs)->c≠x:=λc xs r z=>by subst z;rw [r] at mu;exact mu
 have ncod:∀c xs,H c=some (.cod xs)->c≠x:=λc xs r z=>by subst z;rw [r] at mu;exact mu
 by_cases hb:b=x
 ·subst hb;rw [bh] at q;cases q;exact new
 ·rw [az hb] at q;by_cases hbe:b=e
  ·have q':H b=some (.own x):=by
    rcases he with z | z
    ·exact absurd (hbe.trans z) hb
    ·rw [hbe];exact z
   rw [q] at q';cases q';obtain⟨v,hv⟩:=heo;exact⟨v,by rw [hbe];exact hv⟩
  ·refine(ok b u q).stay (λc v hc r=>k c v ?_ r) (λc r=>by rw [az (nown c b r)];exact r) (λc xs r=>by rw [az (ntup c xs r)];exact r) λc xs r=>by rw [az (ncod c xs r)];exact r
   rcases hc with rfl | hc
   ·exact hbe
   ·rintro rfl;rcases he with z | z
    ·exact nown c b hc z
    ·rw [hc] at z;cases z;exact hb rfl
end
structure Un (fs ex:List Qs) (H H':Hp) (h h':QB):Prop where
 keep:∀b o,h.get? b=some o->H b=none->b ∉ fs->b ∉ ex->h'.get? b=some o
 slot:∀b o,h.get? b=some o->H b=none->b∈fs->b ∉ ex->∃sl,h'.get? b=some {o with slots:=sl}
 free:∀b o,h.get? b=some o->H b=none->b ∉ ex->H' b=none
 there:∀b o,h.get? b=some o->b ∉ ex->∃o',h'.get? b=some o'
 tups:∀b xs,H b=some (.tup xs)->H' b=some (.tup xs)
 frzs:∀b o u,H b=some (.frz o u)->H' b=some (.frz o u)
 tbls:∀b ps,H b=some (.tbl ps)->∃more,H' b=some (.tbl (ps++more))
section
variable {fs fs' ex ex':List Qs} {H H1 H2:Hp} {h h1 h2 h':QB} {a x e:Qs} {o:HO}
theorem Un.any(u:Un fs ex H H1 h h1){b:Qs}{ob:Obj}(q:h.get? b=some ob)(n:H b=none)(hx:b ∉ ex):∃sl,h1.get? b=some {ob with slots:=sl}:=by
 by_cases hb:b∈fs
 ·exact u.slot b ob q n hb hx
 ·exact⟨ob.slots,u.keep b ob q n hb hx⟩
theorem Un.kept(k:∀b u,h.get? b=some u->h'.get? b=some u):Un fs ex H H h h':=
 ⟨λb ob q _ _ _=>k b ob q,λb ob q _ _ _=>⟨ob.slots,k b ob q⟩,λ_ _ _ n _=>n,λb ob q _=>⟨ob,k b ob q⟩,λ_ _ q=>q,λ_ _ _ q=>q,λ_ ps q=>⟨#[],by rw [q];simp⟩⟩
theorem Un.refl:Un fs ex H H h h:=Un.kept λ_ _ q=>q
theorem Un.laid(k:∀b u,h.get? b=some u->h'.get? b=some u)(hp:h.objs.size<=a)(hn:H a=none):Un fs ex H (ao H a o) h h' where
 keep:=λb u q _ _ _=>k b u q
 slot:=λb u q _ _ _=>⟨u.slots,k b u q⟩
 free:=λb u q n _=>by rw [az (JW (JX (JC q) hp))];exact n
 there:=λb u q _=>⟨u,k b u q⟩
 tups:=λb xs q=>by rw [az (cE q hn)];exact q
 frzs:=λb u xs q=>by rw [az (cE q hn)];exact q
 tbls:=λb ps q=>⟨#[],by rw [az (cE q hn),q];simp⟩
theorem Un.write(mu:pP (H x))(he:e=x\/H e=some (.own x))(k:∀b u,b≠e->h.get? b=some u->h'.get? b=some u)(heo:∃u,h'.get? e=some u):Un fs ex H (ao H x o) h h':=by
 have hx:∀b,H b=none->b≠x:=λb n z=>by subst z;rw [n] at mu;exact mu
 have hb:∀b,H b=none->b≠e:=λb n z=>by
  subst z;rcases he with r | r
  ·exact hx b n r
  ·rw [n] at r;cases r
 have hm:∀b u,H b=some u->¬pP (some u)->b≠x:=λb u q nm z=>by subst z;rw [q] at mu;exact nm mu
 refine⟨λb u q n _ _=>k b u (hb b n) q,λb u q n _ _=>⟨u.slots,k b u (hb b n) q⟩,λb u q n _=>by rw [az (hx b n)];exact n,λb u q _=>?_,
  λb xs q=>by rw [az (hm b _ q λz=>z)];exact q,λb u xs q=>by rw [az (hm b _ q λz=>z)];exact q,λb ps q=>⟨#[],by rw [az (hm b _ q λz=>z),q];simp⟩⟩
 by_cases hbe:b=e
 ·subst hbe;exact heo
 ·exact⟨u,k b u hbe q⟩
end
def trk(h:QB)(H:Hp):List Qs:=(KQ h.objs.size).filter λa=>(H a).isSome
def mK(h:QB)(H:Hp):QB:=PySem.W.hideAll h (trk h H)
theorem BV(h:QB)(H:Hp):(mK h H).objs.size=h.objs.size:=PySem.W.hideAll_size _ _
theorem BW{h:QB}{H:Hp}{b:Qs}{o:Obj}(e:h.get? b=some o)(n:H b=none):(mK h H).get? b=some o:=
 PySem.W.hideAll_get _ e λhm=>by
  have q:(H b).isSome=true:=(Kq.mp hm).2;rw [n] at q;simp at q
theorem BX{h:QB}{H:Hp}{b:Qs}{o:Obj}(e:(mK h H).get? b=some o):h.get? b=some o/\H b=none:=by
 have e':h.get? b=some o:=PySem.W.of_hideAll (trk h H) e;refine⟨e',?_⟩;cases q:H b with
 | none=>rfl
 | some x=>
  have hm:b∈trk h H:=Kq.mpr ⟨Mn.mpr (JC e'),by simp [q]⟩;have z:(mK h H).get? b=none:=PySem.W.hideAll_none (trk h H) hm;rw [z] at e;cases e
def BY(g h:QB)(L:Qs):List (Qs×Obj):=(KQ h.objs.size).filterMap λa=>if a=L\/(g.get? a).isSome=true then none else(h.get? a).map λo=>(a,o)
def rest(g h:QB)(L d:Qs):List (Qs×Obj):=(BY g h L).filter λp=>decide (p.1≠d)
structure Mod (K:Ju) (mg:Str->Option Qr) (base:QB):Prop where
 kin:K.In base
 glob:base.Ns QD mg
 blt:∃mb,base.Ns Rv mb/\∀x:Str,x≠"__name__"->mb x=QL x
 nolimit:base.NoLimit
structure Cx where
 prog:QA
 w:QE
 K:Ju
 mg:Str->Option Qr
 base:QB
 A:QF
 N:List Str
 s₀:Qt
 H₀:Hp
 env:Env
 outer:List Env
 stack:List Env
 ex:List Qs
 fn:Str->Bool
 calm:Bool
 pn:List (Qs×Obj)
 xe:Qr->Qt->Prop
def aD(l:List Env):List Qs:=l.filterMap (·.frame)
abbrev Cx.fs(X:Cx):List Qs:=aD X.outer
def oF(sc:QP)(x:Str):Prop:=sc.names.lookup x=some .local\/sc.names.lookup x=some .cell\/sc.names.lookup x=some .free
def iC(sc:QP)(x:Str):Prop:=sc.names.lookup x=some .local\/sc.names.lookup x=some .cell
def BZ(env:Env)(h:QB)(m:Str->Option Qr)(x:Str)(u:Qr):Prop:=
 (env.kindOf x=some .local/\m x=some u)\/((env.kindOf x=some .cell\/env.kindOf x=some .free)/\∃c,env.cells.lookup x=some c/\h.IsCell c (some u))
structure Cx.Ok (X:Cx):Prop where
 mod:Mod X.K X.mg X.base
 kind:X.env.scope.kind= .function
 glob:X.env.globals=QD
 blt:X.env.builtins=Rv
 above:X.s₀.heap.objs.size<=X.env.locals
 inj:∀x y c,X.env.cells.lookup x=some c->X.env.cells.lookup y=some c->x=y
 has:∀x,(X.env.kindOf x=some .cell\/X.env.kindOf x=some .free)->∃c,X.env.cells.lookup x=some c
 cab:∀x c,X.fn x=true->X.env.cells.lookup x=some c->X.s₀.heap.objs.size<=c
 hd:X.calm=true->X.A.handled=none
 frames:X.A.frames=some X.stack
 stk:X.stack=X.outer\/(X.stack=X.env::X.outer/\X.env.frame=some X.env.locals)
 exf:∀b∈X.ex,b≠X.env.locals/\∀x c,X.env.cells.lookup x=some c->c≠b
 bs:∀b o,X.base.get? b=some o->X.s₀.heap.get? b=some o/\X.H₀ b=none
 bsz:X.base.objs.size<=X.s₀.heap.objs.size
 noex:∀b o,X.base.get? b=some o->b ∉ X.ex
 exfs:∀b∈X.ex,b ∉ X.fs
 funs:X.s₀.heap.FunFrames X.base X.outer
 frf:∀b∈X.fs,X.H₀ b=none
structure aa (X:Cx) (Sb:List (Qs×Obj)) (σ:List (Option V)) (H:Hp) (s:Qt):Prop where
 ok:X.Ok
 os:s.os=X.s₀.os
 bare:Rx s.gens
 base:Un X.fs X.ex X.H₀ H X.s₀.heap s.heap
 loc:∃m,s.heap.Ns X.env.locals m/\∀(i:Nat)(x:Str)(v:V),X.N[i]?=some x->σ[i]?=some (some v)->oF X.env.scope x->∃u,ay v u/\BZ X.env s.heap m x u
 cell:∀x c,X.env.cells.lookup x=some c->∃v,s.heap.IsCell c v
 free:H X.env.locals=none
 freeC:∀x c,X.env.cells.lookup x=some c->H c=none
 pin:∀p∈X.pn++Sb,s.heap.get? p.1=some p.2/\H p.1=none/\p.1≠X.env.locals/\p.1 ∉ X.fs/\∀v,p.2.data≠ .cell v
 hok:aW X.prog X.w H s.heap
 len:σ.length=X.N.length
section
variable {X:Cx} {Sb:List (Qs×Obj)} {σ:List (Option V)} {H H':Hp} {s:Qt} {h':QB}
theorem Cx.Ok.nofr(ok:X.Ok){b:Qs}{o:Obj}(e:X.base.get? b=some o):b ∉ X.fs:=λhb=>by
 have:=(ok.funs.mem hb).1;rw [e] at this;cases this
theorem aa.bs(I:aa X Sb σ H s):∀b o,X.base.get? b=some o->s.heap.get? b=some o/\H b=none:=λb o e=>
 ⟨I.base.keep b o (I.ok.bs b o e).1 (I.ok.bs b o e).2 (I.ok.nofr e) (I.ok.noex b o e),I.base.free b o (I.ok.bs b o e).1 (I.ok.bs b o e).2 (I.ok.noex b o e)⟩
theorem aa.bk(I:aa X Sb σ H s):∀b o,X.base.get? b=some o->s.heap.get? b=some o:=λb o e=>(I.bs b o e).1
theorem aa.mod(I:aa X Sb σ H s):Mod X.K X.mg X.base:=I.ok.mod
theorem aa.kIn(I:aa X Sb σ H s):X.K.In s.heap:=I.ok.mod.kin.keeps I.bk
theorem aa.fr(I:aa X Sb σ H s):∃m,Fr X.base X.env.locals s.heap m:=
 let ⟨m,hn,_⟩:=I.loc
 ⟨m,hn,I.bk,Km I.ok.bsz I.ok.above⟩
theorem aa.lt(I:aa X Sb σ H s):X.env.locals < s.heap.objs.size:=let ⟨_,hn,_⟩:=I.loc;hn.lt
theorem aa.sz(I:aa X Sb σ H s):X.s₀.heap.objs.size<=s.heap.objs.size:=Km I.ok.above (Ms I.lt)
theorem aa.nofs(I:aa X Sb σ H s){a:Qs}(h:s.heap.objs.size<=a):a ∉ X.fs:=λhb=>by
 obtain⟨_,o,ho,_⟩:=I.ok.funs.mem hb;exact absurd (JX (JC ho) (Km I.sz h)) (Le _)
theorem aa.cne(I:aa X Sb σ H s):∀x c,X.env.cells.lookup x=some c->c≠X.env.locals:=λx c e z=>by
 obtain⟨v,o,ho,hd⟩:=I.cell x c e;obtain⟨m,⟨o',es,ep,ho',hd',_⟩,_⟩:=I.loc;rw [z,ho'] at ho;cases ho;rw [hd'] at hd;cases hd
theorem aa.funs(I:aa X Sb σ H s):s.heap.FunFrames X.base X.outer:=by
 have all:∀(l:List Env),(∀b∈aD l,b∈X.fs)->X.s₀.heap.FunFrames X.base l->s.heap.FunFrames X.base l:=by
  intro l
  induction l with
  | nil=>intro _ _;trivial
  | cons env r ih=>
   intro hs hl;obtain⟨hk,⟨L,o,hf,hn,ho,hd⟩,hr⟩:=hl;have hL:L∈X.fs:=hs L (by unfold aD;rw [L7,hf];exact Lj);obtain⟨sl,e⟩:=I.base.slot L o ho (I.ok.frf L hL) hL λz=>I.ok.exfs L z hL;exact⟨hk,⟨L,_,hf,hn,e,hd⟩,ih (λb hb=>hs b (by unfold aD;rw [L7,hf];exact Ka _ hb)) hr⟩
 exact all X.outer (λ_ hb=>hb) I.ok.funs
theorem aa.stack(I:aa X Sb σ H s):s.heap.FunFrames X.base X.stack:=by
 rcases I.ok.stk with e | ⟨e,hf⟩
 ·rw [e];exact I.funs
 ·rw [e];obtain⟨m,hn,_⟩:=I.loc;refine .cons (by rw [I.ok.kind];decide) hf hn ?_ I.funs;exact Heap.get?_none_of_le (Km I.ok.bsz I.ok.above)
theorem aa.stkSub(I:aa X Sb σ H s):∀b∈aD X.stack,b∈X.env.locals::X.fs:=λb hb=>by
 rcases I.ok.stk with e | ⟨e,hf⟩
 ·rw [e] at hb;exact Ka _ hb
 ·rw [e] at hb;unfold aD at hb;rw [L7,hf] at hb;exact hb
theorem aa.stkFree(I:aa X Sb σ H s):∀b∈aD X.stack,H b=none:=λb hb=>by
 rcases JF.mp (I.stkSub b hb) with e | hb
 ·rw [e];exact I.free
 ·obtain⟨_,o,ho,_⟩:=I.ok.funs.mem hb;exact I.base.free b o ho (I.ok.frf b hb) λz=>I.ok.exfs b z hb
theorem aa.step{g':Array R9}{t':Nat}{d':Drawn}{ch:List Qs}(I:aa X Sb σ H s)
 (hch:∀b∈ch,(b∈X.ex\/X.s₀.heap.objs.size<=b)/\b≠X.env.locals/\(∀x c,X.env.cells.lookup x=some c->c≠b)/\∀p∈X.pn++Sb,p.1≠b)
 (keep:∀b o,b≠X.env.locals->b ∉ X.fs->b ∉ ch->s.heap.get? b=some o->H b=none->h'.get? b=some o)
 (slot:∀b o,b≠X.env.locals->b∈X.fs->b ∉ ch->s.heap.get? b=some o->H b=none->∃sl,h'.get? b=some {o with slots:=sl})(free:∀b o,b ∉ ch->s.heap.get? b=some o->H b=none->H' b=none)
 (there:∀b o,b ∉ ch->s.heap.get? b=some o->∃o',h'.get? b=some o')
 (tups:∀b xs,H b=some (.tup xs)->H' b=some (.tup xs))(frzs:∀b o u,H b=some (.frz o u)->H' b=some (.frz o u))(tbls:∀b ps,H b=some (.tbl ps)->∃more,H' b=some (.tbl (ps++more)))
 (ns:∀m,s.heap.Ns X.env.locals m->h'.Ns X.env.locals m)(hok:aW X.prog X.w H' h')(hg:Rx g'):
 aa X Sb σ H' {s with heap:=h',gens:=g',drawn:=d',toks:=t'}:=by
 have neL:∀b o,X.s₀.heap.get? b=some o->b≠X.env.locals:=λb o e=>JW (JX (JC e) I.ok.above);have neC:∀b o,X.s₀.heap.get? b=some o->b ∉ X.ex->b ∉ ch:=λb o e hx hb=>by
  rcases(hch b hb).1 with z | z
  ·exact hx z
  ·exact absurd (JX (JC e) z) (Le _)
 have cellK:∀x c,X.env.cells.lookup x=some c->∀v,s.heap.IsCell c v->h'.IsCell c v:=λx c e v uu1=>by
  obtain⟨o,ho,hd⟩:=uu1;have nch:c ∉ ch:=λz=>(hch c z).2.2.1 x c e rfl;by_cases hc:c∈X.fs
  ·obtain⟨sl,q⟩:=slot c o (I.cne x c e) hc nch ho (I.freeC x c e);exact⟨_,q,hd⟩
  ·exact⟨o,keep c o (I.cne x c e) hc nch ho (I.freeC x c e),hd⟩
 refine⟨I.ok,I.os,hg,⟨λb o e n hb hx=>?_,λb o e n hb hx=>?_,λb o e n hx=>?_,λb o e hx=>?_,λb xs e=>tups b xs (I.base.tups b xs e),λb o xs e=>frzs b o xs (I.base.frzs b o xs e),λb ps e=>?_⟩,?_,λx c e=>?_,?_,λx c e=>?_,λp hp=>?_,hok,I.len⟩
 ·exact keep b o (neL b o e) hb (neC b o e hx) (I.base.keep b o e n hb hx) (I.base.free b o e n hx)
 ·obtain⟨sl,e1⟩:=I.base.slot b o e n hb hx;obtain⟨sl',e2⟩:=slot b _ (neL b o e) hb (neC b o e hx) e1 (I.base.free b o e n hx);exact⟨sl',e2⟩
 ·obtain⟨o',e1⟩:=I.base.there b o e hx;exact free b o' (neC b o e hx) e1 (I.base.free b o e n hx)
 ·obtain⟨o',e1⟩:=I.base.there b o e hx;exact there b o' (neC b o e hx) e1
 ·obtain⟨m1,e1⟩:=I.base.tbls b ps e;obtain⟨m2,e2⟩:=tbls b _ e1;exact⟨m1++m2,by rw [e2,NF]⟩
 ·obtain⟨m,hn,hl⟩:=I.loc;refine⟨m,ns m hn,λi x v e1 e2 e3=>?_⟩;obtain⟨u,r,l⟩:=hl i x v e1 e2 e3;refine⟨u,r,?_⟩;rcases l with l | ⟨k,c,e,z⟩
  ·exact .inl l
  ·exact .inr ⟨k,c,e,cellK x c e _ z⟩
 ·obtain⟨v,z⟩:=I.cell x c e;exact⟨v,cellK x c e v z⟩
 ·obtain⟨m,⟨o,_,_,ho,_⟩,_⟩:=I.loc;exact free _ o (λz=>(hch _ z).2.1 rfl) ho I.free
 ·obtain⟨v,o,ho,hd⟩:=I.cell x c e;exact free c o (λz=>(hch c z).2.2.1 x c e rfl) ho (I.freeC x c e)
 ·obtain⟨e,n,ne,nf,d⟩:=I.pin p hp;have nch:p.1 ∉ ch:=λz=>(hch p.1 z).2.2.2 p hp rfl;exact⟨keep p.1 p.2 ne nf nch e n,free p.1 p.2 nch e n,ne,nf,d⟩
theorem aa.un{t':Nat}(I:aa X Sb σ H s)(u:Un X.fs [] H H' s.heap h')(hok:aW X.prog X.w H' h'):aa X Sb σ H' {s with heap:=h',toks:=t'}:=by
 obtain⟨m,⟨o,es,ep,ho,r⟩,_⟩:=id I.loc;obtain⟨sl,hL⟩:=u.any ho I.free Qo;exact I.step (g':=s.gens) (d':=s.drawn) (ch:=[]) (λ_ z=>nomatch z) (λb o _ hb _ e n=>u.keep b o e n hb Qo) (λb o _ hb _ e n=>u.slot b o e n hb Qo) (λb o _ e n=>u.free b o e n Qo) (λb o _ e=>u.there b o e Qo) u.tups u.frzs u.tbls (λm' hm=>by
  obtain⟨o',es',ep',ho',r'⟩:=hm;rw [ho] at ho';cases ho';exact⟨_,es',ep',hL,r'⟩) hok I.bare
theorem aa.call{g':Array R9}{t':Nat}{d':Drawn}{ch:List Qs}(I:aa X Sb σ H s)(u:Un (aD X.stack) ch H H' s.heap h')(hok:aW X.prog X.w H' h')(hg:Rx g')
 (hch:∀b∈ch,(b∈X.ex\/X.s₀.heap.objs.size<=b)/\b≠X.env.locals/\(∀x c,X.env.cells.lookup x=some c->c≠b)/\∀p∈X.pn++Sb,p.1≠b):
 aa X Sb σ H' {s with heap:=h',gens:=g',drawn:=d',toks:=t'}:=by
 obtain⟨m,⟨o,es,ep,ho,r⟩,_⟩:=id I.loc;obtain⟨sl,hL⟩:=u.any ho I.free λz=>(hch _ z).2.1 rfl;exact I.step (ch:=ch) hch (λb o hL hb hc e n=>u.keep b o e n (λz=>(JF.mp (I.stkSub b z)).elim hL hb) hc) (λb o _ _ hc e n=>u.any e n hc) (λb o hc e n=>u.free b o e n hc) (λb o hc e=>u.there b o e hc) u.tups u.frzs u.tbls (λm' hm=>by
  obtain⟨o',es',ep',ho',r'⟩:=hm;rw [ho] at ho';cases ho';exact⟨_,es',ep',hL,r'⟩) hok hg
theorem aa.turned{t':Nat}{it:Qs}(I:aa X Sb σ H s)(k:∀b o,b≠it->s.heap.get? b=some o->h'.get? b=some o)(hn:H it=none)(hL:it≠X.env.locals)
 (h1:it∈X.ex\/X.s₀.heap.objs.size<=it)(h2:∀x c,X.env.cells.lookup x=some c->c≠it)(h3:∀p∈X.pn++Sb,p.1≠it):aa X Sb σ H {s with heap:=h',toks:=t'}:=by
 have nit:∀b u,H b=some u->b≠it:=λb u e z=>by rw [z,hn] at e;cases e
 refine I.step (g':=s.gens) (d':=s.drawn) (ch:=[it]) (λb hb=>?_) (λb o _ _ hc e _=>k b o (λz=>hc (by simp [z])) e) (λb o _ _ hc e _=>⟨o.slots,k b o (λz=>hc (by simp [z])) e⟩) (λ_ _ _ _ n=>n)
  (λb o hc e=>⟨o,k b o (λz=>hc (by simp [z])) e⟩) (λ_ _ e=>e) (λ_ _ _ e=>e) (λb ps e=>⟨#[],by rw [e];simp⟩) (λm hm=>?_) (λb u e=>?_) I.bare
 ·have e:b=it:=by simpa using hb
  subst e;exact⟨h1,hL,h2,h3⟩
 ·obtain⟨o,es,ep,ho,r⟩:=hm;exact⟨o,es,ep,k _ o (Ne.symm hL) ho,r⟩
 ·refine(I.hok b u e).stay (λc v hc q=>k c v ?_ q) (λ_ q=>q) (λ_ _ q=>q) λ_ _ q=>q;rcases hc with z | z
  ·rw [z];exact nit b u e
  ·exact nit c _ z
theorem aa.tok(I:aa X Sb σ H s)(t:Nat):aa X Sb σ H {s with toks:=t}:=I.un (h':=s.heap) (t':=t) Un.refl I.hok
theorem aa.kept{t':Nat}(I:aa X Sb σ H s)(k:∀b u,s.heap.get? b=some u->h'.get? b=some u):aa X Sb σ H {s with heap:=h',toks:=t'}:=I.un (Un.kept k) (I.hok.kept k)
theorem aa.laid{a:Qs}{o:HO}{t':Nat}(I:aa X Sb σ H s)(k:∀b u,s.heap.get? b=some u->h'.get? b=some u)(hp:s.heap.objs.size<=a)(new:bx X.prog X.w (ao H a o) h' a o):
 aa X Sb σ (ao H a o) {s with heap:=h',toks:=t'}:=I.un (Un.laid k hp (I.hok.fresh hp)) (I.hok.laid k hp new)
theorem aa.write{x e:Qs}{o:HO}{t':Nat}(I:aa X Sb σ H s)(mu:pP (H x))(he:e=x\/H e=some (.own x))(k:∀b u,b≠e->s.heap.get? b=some u->h'.get? b=some u)(heo:∃u,h'.get? e=some u)
 (new:bx X.prog X.w (ao H x o) h' x o):aa X Sb σ (ao H x o) {s with heap:=h',toks:=t'}:=I.un (Un.write mu he k heo) (I.hok.write mu he k heo new)
theorem aa.weak{σ':List (Option V)}(I:aa X Sb σ H s)(hl:σ'.length=σ.length)(w:∀(i:Nat) v,σ'[i]?=some (some v)->σ[i]?=some (some v)):aa X Sb σ' H s:=
 ⟨I.ok,I.os,I.bare,I.base,let ⟨m,hn,hl'⟩:=I.loc;⟨m,hn,λi x v e1 e2 e3=>hl' i x v e1 (w i v e2) e3⟩,I.cell,I.free,I.freeC,I.pin,I.hok,hl.trans I.len⟩
theorem aa.pins_of{pins':List (Qs×Obj)}(I:aa X Sb σ H s)(h:∀p∈pins',s.heap.get? p.1=some p.2/\H p.1=none/\p.1≠X.env.locals/\p.1 ∉ X.fs/\∀v,p.2.data≠ .cell v):aa X pins' σ H s:=
 ⟨I.ok,I.os,I.bare,I.base,I.loc,I.cell,I.free,I.freeC,λp hp=>(JI.mp hp).elim (λz=>I.pin p (Mh _ z)) (h p),I.hok,I.len⟩
theorem tF{N:List Str}(hN:N.Nodup){i j:Nat}{x:Str}(a:N[i]?=some x)(b:N[j]?=some x):i=j:=by
 obtain⟨h1,e1⟩:=JH.mp a;obtain⟨h2,e2⟩:=JH.mp b;exact(Nl hN).mp (e1.trans e2.symm)
theorem v9{M:Model}{A:QF}{E:Qr->Qt->Prop}{i:Nat}{x:Str}{v:V}{u:Qr}{Q:Unit->Qt->Prop}(I:aa X Sb σ H s)(hN:X.N.Nodup)(hi:X.N[i]?=some x)(hx:iC X.env.scope x)(r:ay v u)
 (h:∀s',aa X Sb (σ.set i (some v)) H s'->(∃a,Mt a s.heap s'.heap/\(a=X.env.locals\/X.env.cells.lookup x=some a))->Q () s')(hf:X.fn x=true\/X.env.scope.names.lookup x=some .local:=by first | exact .inl rfl | exact .inr rfl | assumption):Qv M A (storeName X.env x u) Q E s:=by
 obtain⟨m,hn,hl⟩:=id I.loc;have hcls:(X.env.scope.kind== .class || (X.env.scope.kind== .module && X.env.locals !=X.env.globals))=false:=by rw [I.ok.kind];rfl
 have hiσ:i < σ.length:=by rw [I.len];exact(JH.mp hi).1
 have cne:=I.cne;have tracked:∀{a:Qs}{h':QB},(∃o,s.heap.get? a=some o/\H a=none)->Mt a s.heap h'->aW X.prog X.w H h':=λ{a h'} ha hs b ob e=>by
  obtain⟨_,_,hfree⟩:=ha;refine(I.hok b ob e).stay (λc w' hc q=>(hs.2 c ?_).trans q) (λ_ q=>q) (λ_ _ q=>q) λ_ _ q=>q;rintro rfl;rcases hc with rfl | hc
  ·rw [hfree] at e;cases e
  ·rw [hfree] at hc;cases hc
 rcases hx with hk | hk
 ·refine wpAny_storeName_local hk hn (λh' hn' hs=>?_) hcls;obtain⟨oL,_,_,hoL,_⟩:=id hn;refine h _ ⟨I.ok,I.os,I.bare,⟨λb o e n hb hx=>?_,λb o e n hb hx=>?_,I.base.free,λb o e hx=>?_,I.base.tups,I.base.frzs,I.base.tbls⟩,⟨_,hn',λj y v' e1 e2 e3=>?_⟩,λy c e=>?_,I.free,I.freeC,λp hp=>?_,tracked ⟨oL,hoL,I.free⟩ hs,by simpa using I.len⟩ ⟨_,hs,.inl rfl⟩
  ·exact(hs.2 b (JW (JX (JC e) I.ok.above))).trans (I.base.keep b o e n hb hx)
  ·obtain⟨sl,e1⟩:=I.base.slot b o e n hb hx;exact⟨sl,(hs.2 b (JW (JX (JC e) I.ok.above))).trans e1⟩
  ·obtain⟨o',e1⟩:=I.base.there b o e hx;exact⟨o',(hs.2 b (JW (JX (JC e) I.ok.above))).trans e1⟩
  ·by_cases hj:j=i
   ·subst hj;rw [hi] at e1;cases e1;rw [J0 hiσ] at e2;cases e2;exact⟨u,r,.inl ⟨hk,Qo⟩⟩
   ·rw [JV (Ne.symm hj)] at e2;obtain⟨u',r',q⟩:=hl j y v' e1 e2 e3;refine⟨u',r',?_⟩;rcases q with⟨k,e⟩ | ⟨k,c,e,z⟩
    ·refine .inl ⟨k,?_⟩;have:y≠x:=λe=>hj (tF hN e1 (e▸hi));simp [this,e]
    ·exact .inr ⟨k,c,e,z.sameBut hs (cne y c e)⟩
  ·obtain⟨w',z⟩:=I.cell y c e;exact⟨w',z.sameBut hs (cne y c e)⟩
  ·obtain⟨e,n,ne,nf,d⟩:=I.pin p hp;exact⟨(hs.2 p.1 ne).trans e,n,ne,nf,d⟩
 ·have hfn:X.fn x=true:=by
   rcases hf with z | z
   ·exact z
   ·rw [z] at hk;cases hk
  obtain⟨c,hc⟩:=I.ok.has x (.inl hk);obtain⟨w',z⟩:=I.cell x c hc;refine wpAny_storeName_cell I.ok.kind hk hc z (λh' hc' hs=>?_);obtain⟨oc,hoc,hocd⟩:=id z;refine h {s with heap:=h'} ⟨I.ok,I.os,I.bare,⟨λb o e n hb hx=>?_,λb o e n hb hx=>?_,I.base.free,λb o e hx=>?_,I.base.tups,I.base.frzs,I.base.tbls⟩,⟨m,hn.sameBut hs (Ne.symm (cne x c hc)),λj y v' e1 e2 e3=>?_⟩,λy c' e=>?_,I.free,I.freeC,λp hp=>?_,tracked ⟨oc,hoc,I.freeC x c hc⟩ hs,by simpa using I.len⟩ ⟨c,hs,.inr hc⟩
  ·exact(hs.2 b (JW (JX (JC e) (I.ok.cab x c hfn hc)))).trans (I.base.keep b o e n hb hx)
  ·obtain⟨sl,e1⟩:=I.base.slot b o e n hb hx;exact⟨sl,(hs.2 b (JW (JX (JC e) (I.ok.cab x c hfn hc)))).trans e1⟩
  ·obtain⟨o',e1⟩:=I.base.there b o e hx;exact⟨o',(hs.2 b (JW (JX (JC e) (I.ok.cab x c hfn hc)))).trans e1⟩
  ·by_cases hj:j=i
   ·subst hj;rw [hi] at e1;cases e1;rw [J0 hiσ] at e2;cases e2;exact⟨u,r,.inr ⟨.inl hk,c,hc,hc'⟩⟩
   ·rw [JV (Ne.symm hj)] at e2;obtain⟨u',r',q⟩:=hl j y v' e1 e2 e3;refine⟨u',r',?_⟩;rcases q with q | ⟨k,c',e,z'⟩
    ·exact .inl q
    ·refine .inr ⟨k,c',e,z'.sameBut hs ?_⟩;rintro rfl;exact hj (tF hN e1 (I.ok.inj _ _ _ e hc▸hi))
  ·by_cases hcc:c'=c
   ·subst hcc;exact⟨_,hc'⟩
   ·obtain⟨w2,z2⟩:=I.cell y c' e;exact⟨w2,z2.sameBut hs hcc⟩
  ·obtain⟨e,n,ne,nf,d⟩:=I.pin p hp;refine⟨(hs.2 p.1 ?_).trans e,n,ne,nf,d⟩;intro q;rw [q,hoc] at e;have q':oc=p.2:=Kp e;exact d w' (by rw [<-q'];exact hocd)
theorem oG{M:Model}{A:QF}{E:Qr->Qt->Prop}{i:Nat}{x:Str}{v:V}{u:Qr}{Q:Unit->Qt->Prop}(I:aa X Sb σ H s)(hN:X.N.Nodup)(hi:X.N[i]?=some x)(hx:iC X.env.scope x)(r:ay v u)
 (h:∀s',aa X Sb (σ.set i (some v)) H s'->Q () s')(hf:X.fn x=true\/X.env.scope.names.lookup x=some .local:=by first | exact .inl rfl | exact .inr rfl | assumption):Qv M A (storeName X.env x u) Q E s:=
 v9 I hN hi hx r (λs' I' _=>h s' I') hf
theorem aa.call'{s':Qt}{ch:List Qs}(I:aa X Sb σ H s)(ho:s'.os=s.os)(u:Un (aD X.stack) ch H H' s.heap s'.heap)(hok:aW X.prog X.w H' s'.heap)(hg:Rx s'.gens)
 (hch:∀b∈ch,(b∈X.ex\/X.s₀.heap.objs.size<=b)/\b≠X.env.locals/\(∀x c,X.env.cells.lookup x=some c->c≠b)/\∀p∈X.pn++Sb,p.1≠b):aa X Sb σ H' s':=by
 obtain⟨h',g',d',t',o'⟩:=s';have e:o'=s.os:=ho;subst e;exact I.call (g':=g') (t':=t') (d':=d') u hok hg hch
end
abbrev XK:=Qr->Option Qs->Hp->Prop
abbrev St:=List (Option V)
abbrev VK:=V->Hp->Prop
abbrev TE:=St->Hp->VK->Prop
abbrev TT:=St->Hp->(Bool->Hp->Prop)->Prop
abbrev TA:=St->Hp->(List V->Hp->Prop)->Prop
structure m7 where
 nx:St->Hp->Prop
 rt:VK
 bk:St->Hp->Prop:=λ_ _=>False
 ct:St->Hp->Prop:=λ_ _=>False
abbrev TS:=m7->St->Hp->Prop
inductive EP (X:Cx) (Sb:List (Qs×Obj)) (σ:St) (Q:VK) (u:Qr) (s':Qt):Prop
 | mk (v:V) (H':Hp):aa X Sb σ H' s'->ay v u->Q v H'->EP X Sb σ Q u s'
inductive TP (X:Cx) (Sb:List (Qs×Obj)) (σ:St) (Q:Bool->Hp->Prop) (b:Bool) (s':Qt):Prop
 | mk (H':Hp):aa X Sb σ H' s'->Q b H'->TP X Sb σ Q b s'
inductive AP (X:Cx) (Sb:List (Qs×Obj)) (σ:St) (Q:List V->Hp->Prop) (us:List Qr) (s':Qt):Prop
 | mk (vs:List V) (H':Hp):aa X Sb σ H' s'->aA vs us->Q vs H'->AP X Sb σ Q us s'
def SP(X:Cx)(Sb:List (Qs×Obj))(D:m7)(f:Flow)(s':Qt):Prop:=
 match f with
 | .next=>∃σ' H',aa X Sb σ' H' s'/\D.nx σ' H'
 | .brk=>∃σ' H',aa X Sb σ' H' s'/\D.bk σ' H'
 | .cont=>∃σ' H',aa X Sb σ' H' s'/\D.ct σ' H'
 | .ret u=>∃v σ' H',aa X Sb σ' H' s'/\ay v u/\D.rt v H'
def PE(X:Cx)(e:Qx)(t:TE):Prop:=
 ∀(Sb:List (Qs×Obj))(s:Qt)(σ:St)(H:Hp)(Q:VK),aa X Sb σ H s->t σ H Q->Qv (Qw X.prog X.w) X.A (eval e X.env) (EP X Sb σ Q) X.xe s
def PT(X:Cx)(e:Qx)(t:TT):Prop:=
 ∀(Sb:List (Qs×Obj))(s:Qt)(σ:St)(H:Hp)(Q:Bool->Hp->Prop),aa X Sb σ H s->t σ H Q->Qv (Qw X.prog X.w) X.A (isTrue e X.env (eval e X.env)) (TP X Sb σ Q) X.xe s
def PW(X:Cx)(e:Qx)(t:TT):Prop:=
 ∀(whole:Sem Qr)(Sb:List (Qs×Obj))(s:Qt)(σ:St)(H:Hp)(Q:Bool->Hp->Prop),aa X Sb σ H s->t σ H Q->Qv (Qw X.prog X.w) X.A (isTrue e X.env whole) (TP X Sb σ Q) X.xe s
theorem PW.pt{X:Cx}{e:Qx}{t:TT}(h:PW X e t):PT X e t:=h _
def PA(X:Cx)(es:List Qx)(t:TA):Prop:=
 ∀(pos:Pos)(Sb:List (Qs×Obj))(s:Qt)(σ:St)(H:Hp)(Q:List V->Hp->Prop),aa X Sb σ H s->t σ H Q->Qv (Qw X.prog X.w) X.A (spliced (QN pos (Qy es X.env))) (AP X Sb σ Q) X.xe s
def PS(X:Cx)(st:QH)(t:TS):Prop:=
 ∀(Sb:List (Qs×Obj))(s:Qt)(σ:St)(H:Hp)(D:m7),aa X Sb σ H s->t D σ H->Qv (Qw X.prog X.w) X.A (exec st X.env) (SP X Sb D) X.xe s
def bu(X:Cx)(st:List QH)(t:TS):Prop:=
 ∀(Sb:List (Qs×Obj))(s:Qt)(σ:St)(H:Hp)(D:m7),aa X Sb σ H s->t D σ H->Qv (Qw X.prog X.w) X.A (execs st X.env) (SP X Sb D) X.xe s
theorem ar{α:Type}{t:Sem α}{Q Q':α->Qt->Prop}{M:Model}{A:QF}{E:Qr->Qt->Prop}{s:Qt}(h:Qv M A t Q E s)(hQ:∀a s,Q a s->Q' a s):Qv M A t Q' E s:=QM h hQ λ_ _ x=>x
section
variable {X:Cx}
theorem Jq{a b:Qx}{ta tb:TE}(ha:PE X a ta)(hb:PE X b tb){Sb:List (Qs×Obj)}{s:Qt}{σ:St}{H:Hp}{R:V->V->Hp->Prop}(I:aa X Sb σ H s)(h:ta σ H λx H1=>tb σ H1 λy H2=>R x y H2)
 {α:Type}{Q:α->Qt->Prop}{f:Qr->Qr->Sem α}
 (hf:∀v u s2 x y H2,aa X Sb σ H2 s2->ay x v->ay y u->R x y H2->Qv (Qw X.prog X.w) X.A (f v u) Q X.xe s2):
 Qv (Qw X.prog X.w) X.A (eval a X.env) (λv s₁=>Qv (Qw X.prog X.w) X.A (eval b X.env) (λu s₂=>Qv (Qw X.prog X.w) X.A (f v u) Q X.xe s₂) X.xe s₁) X.xe s:=by
 refine ar (ha Sb s σ H _ I h) λv s1 ⟨x,H1,I1,r1,q1⟩=>?_;refine ar (hb Sb s1 σ H1 _ I1 q1) λu s2 ⟨y,H2,I2,r2,q2⟩=>?_;exact hf v u s2 x y H2 I2 r1 r2 q2
def eF(i:Nat):TE:=λσ H Q=>∃v,σ[i]?=some (some v)/\Q v H
def tC(v:V):TE:=λ_ H Q=>Q v H
theorem qR{i:Nat}{x:Str}{pos:Pos}(hN:X.N[i]?=some x)(hv:oF X.env.scope x)(hd:(x==("__debug__":Str))=false:=by decide)(hcd:(x==("__classdict__":Str))=false:=by decide):PE X (.Name x pos) (eF i):=by
 intro Sb s σ H Q I h;obtain⟨v,e,h⟩:=h;obtain⟨m,hn,hl⟩:=I.loc;obtain⟨u,r,l⟩:=hl i x v hN e hv;have fin:EP X Sb σ Q u s:=⟨v,H,I,r,h⟩;rcases l with⟨hk,hm⟩ | ⟨hk,c,hc,hcell⟩
 ·exact wpAny_Name (wpAny_loadName_local I.ok.kind hk hn hm fin) hd
 ·rcases hk with hk | hk
  ·exact wpAny_Name (wpAny_loadName_cell I.ok.kind hk hc hcell fin) hd
  ·exact wpAny_Name (wpAny_loadName_free I.ok.kind hk hc hcell fin hcd) hd
theorem wa{i j pos}:PE X (.Constant (.int i) j pos) (tC (.int i)):=λ_ _ _ H _ I h=>wpAny_Constant_int ⟨.int i,H,I.tok _,⟨_,rfl⟩,h⟩
theorem tG{b j pos}:PE X (.Constant (.bool b) j pos) (tC (.bl b)):=λ_ _ _ H _ I h=>Constant_bool ⟨.bl b,H,I,rfl,h⟩
theorem B0{j pos}:PE X (.Constant .none j pos) (tC .non):=λ_ _ _ H _ I h=>Constant_none ⟨.non,H,I,rfl,h⟩
theorem B1{x j pos}:PE X (.Constant (.str x) j pos) (tC (.str x)):=λ_ _ _ H _ I h=>Calls.Constant_str ⟨.str x,H,I.tok _,⟨_,rfl⟩,h⟩
def Gl(X:Cx)(x:Str):Prop:=X.env.kindOf x=some .globalImplicit
theorem oH{E:Qr->Qt->Prop}{Sb:List (Qs×Obj)}{s:Qt}{σ:St}{H:Hp}{x:Str}{u:Qr}{pos:Pos}{Q:Qr->Qt->Prop}(I:aa X Sb σ H s)(hg:Gl X x)(hm:X.mg x=some u)(h:Q u s)
 (hd:(x==("__debug__":Str))=false:=by decide):Qv (Qw X.prog X.w) X.A (eval (.Name x pos) X.env) Q E s:=
 NM I.ok.kind hg (Calls.loadGlobal_global (by rw [I.ok.glob];exact I.mod.glob.keeps I.bk) hm h) hd
theorem pQ{E:Qr->Qt->Prop}{Sb:List (Qs×Obj)}{s:Qt}{σ:St}{H:Hp}{x:Str}{u:Qr}{pos:Pos}{Q:Qr->Qt->Prop}(I:aa X Sb σ H s)(hg:Gl X x)(hm:X.mg x=none)(hv:QL x=some u)(h:Q u s)
 (hn:x≠"__name__":=by decide)(hd:(x==("__debug__":Str))=false:=by decide):Qv (Qw X.prog X.w) X.A (eval (.Name x pos) X.env) Q E s:=by
 obtain⟨mb,h1,h2⟩:=I.mod.blt;exact NM I.ok.kind hg (Calls.loadGlobal_builtin (by rw [I.ok.glob];exact I.mod.glob.keeps I.bk) hm (by rw [I.ok.blt];exact h1.keeps I.bk) ((h2 x hn).trans hv) h) hd
theorem iD{x:Str}{v:V}{u:Qr}{pos:Pos}(hg:Gl X x)(hm:X.mg x=some u)(r:ay v u)(hd:(x==("__debug__":Str))=false:=by decide):PE X (.Name x pos) (tC v):=
 λ_ _ _ H _ I h=>oH I hg hm ⟨v,H,I,r,h⟩ hd
theorem m8{x:Str}{v:V}{u:Qr}{pos:Pos}(hg:Gl X x)(hm:X.mg x=none)(hv:QL x=some u)(r:ay v u)(hn:x≠"__name__":=by decide)(hd:(x==("__debug__":Str))=false:=by decide):PE X (.Name x pos) (tC v):=
 λ_ _ _ H _ I h=>pQ I hg hm hv ⟨v,H,I,r,h⟩ hn hd
variable {a b:Qx} {ta tb:TE} {pos:Pos}
def PC(X:Cx)(op:CmpOp)(a b:Qx)(t:TE):Prop:=
 ∀(Sb:List (Qs×Obj))(s:Qt)(σ:St)(H:Hp)(Q:VK),aa X Sb σ H s->t σ H Q->
  Qv (Qw X.prog X.w) X.A (eval a X.env) (λv s₁=>Qv (Qw X.prog X.w) X.A (eval b X.env) (λu s₂=>Qv (Qw X.prog X.w) X.A (QO op v u) (EP X Sb σ Q) X.xe s₂) X.xe s₁) X.xe s
theorem B2(b:Qx){op:CmpOp}(h:op≠ .In)(h2:op≠ .NotIn):QW op b=false:=by
 have e1:(op==CmpOp.In)=false:=by cases op <;> first | rfl | exact absurd rfl h
 have e2:(op==P4)=false:=by cases op <;> first | rfl | exact absurd rfl h2
 cases b <;> simp [QW,e1,e2]
def tB(t:TE):TT:=λσ H Q=>t σ H λx H1=>∃c,x= .bl c/\Q c H1
theorem wb{op:CmpOp}{t:TE}(h:PC X op a b t)(h1:QW op b=false:=by first | exact B2 _ Qi Qi | rfl):PT X (.Compare a [op] [b] pos) (tB t):=by
 intro Sb s σ H Q I hw;refine wpAny_isTrue_Compare1 (ar (h Sb s σ H _ I hw) λv s1 h1=>ar h1 λu s2 h2=>ar h2 λc s3 ⟨x,H1,I1,r1,q1⟩=>?_) h1;obtain⟨d,rfl,q⟩:=q1;cases r1;exact QX ⟨H1,I1,q⟩
theorem wc{e:Qx}{t:TE}(h:PE X e t)(he:∀whole,isTrue e X.env whole=(do let v<-whole;standAt e.pos;holding [v] (truthy v)):=by intro _;rfl):PT X e (tB t):=by
 intro Sb s σ H Q I hw;refine isTrue_plain (ar (h Sb s σ H _ I hw) λv s1 ⟨x,H1,I1,r1,q1⟩=>?_) (he _);obtain⟨d,rfl,q⟩:=q1;cases r1;exact QX ⟨H1,I1,q⟩
variable {tA tB':TT} {rest:List Qx}
def tH(t u:TT):TT:=λσ H Q=>t σ H λc H1=>if c=true then u σ H1 Q else Q false H1
def tI(t u:TT):TT:=λσ H Q=>t σ H λc H1=>if c=true then Q true H1 else u σ H1 Q
def tJ(t:TT):TT:=λσ H Q=>t σ H λc H1=>Q (!c) H1
theorem B3(ha:PT X a tA):PW X (.BoolOp .And [a] pos) tA:=by
 intro wh Sb s σ H Q I h;refine isTrue_and (ar (ha Sb s σ H Q I h) λc s1 e=>?_);cases c with
 | true=>exact isTrue_and_nil e
 | false=>exact e
theorem B4(ha:PT X a tA):PW X (.BoolOp .Or [a] pos) tA:=by
 intro wh Sb s σ H Q I h;refine isTrue_or (ar (ha Sb s σ H Q I h) λc s1 e=>?_);cases c with
 | false=>exact isTrue_or_nil e
 | true=>exact e
theorem B5(ha:PT X a tA)(hb:PW X (.BoolOp .And (b::rest) pos) tB'):PW X (.BoolOp .And (a::b::rest) pos) (tH tA tB'):=by
 intro wh Sb s σ H Q I h;refine isTrue_and (ar (ha Sb s σ H _ I h) λc s1 ⟨H1,I1,q1⟩=>?_);cases c with
 | true=>exact hb wh Sb s1 σ H1 Q I1 q1
 | false=>exact⟨H1,I1,q1⟩
theorem B6(ha:PT X a tA)(hb:PW X (.BoolOp .Or (b::rest) pos) tB'):PW X (.BoolOp .Or (a::b::rest) pos) (tI tA tB'):=by
 intro wh Sb s σ H Q I h;refine isTrue_or (ar (ha Sb s σ H _ I h) λc s1 ⟨H1,I1,q1⟩=>?_);cases c with
 | true=>exact⟨H1,I1,q1⟩
 | false=>exact hb wh Sb s1 σ H1 Q I1 q1
theorem B7(ha:PT X a tA):PT X (.UnaryOp .Not a pos) (tJ tA):=by
 intro Sb s σ H Q I h;exact isTrue_not (ar (ha Sb s σ H (λc H1=>Q (!c) H1) I h) λc s1 uu8=>by obtain⟨H1,I1,q⟩:=uu8;exact⟨H1,I1,q⟩)
def tK(ta tb:TE):TE:=λσ H Q=>ta σ H λx H1=>∃c,x= .bl c/\if c=true then tb σ H1 Q else Q (.bl false) H1
def tL(ta tb:TE):TE:=λσ H Q=>ta σ H λx H1=>∃c,x= .bl c/\if c=true then Q (.bl true) H1 else tb σ H1 Q
def tM(ta:TE):TE:=λσ H Q=>ta σ H λx H1=>∃c,x= .bl c/\Q (.bl (!c)) H1
theorem we{op}{t:TE}(h:PE X a t):PE X (.BoolOp op [a] pos) t:=λSb s σ H Q I hw=>BoolOp_one (h Sb s σ H Q I hw)
theorem wg(ha:PE X a ta)(hb:PE X (.BoolOp .And (b::rest) pos) tb):PE X (.BoolOp .And (a::b::rest) pos) (tK ta tb):=by
 intro Sb s σ H Q I h;refine BoolOp_and (ar (ha Sb s σ H _ I h) λv s1 ⟨x,H1,I1,r1,q1⟩=>?_);obtain⟨c,rfl,q1⟩:=q1;cases r1;refine QX ?_;cases c with
 | true=>exact hb Sb s1 σ H1 Q I1 q1
 | false=>exact⟨.bl false,H1,I1,rfl,q1⟩
theorem B8(ha:PE X a ta)(hb:PE X (.BoolOp .Or (b::rest) pos) tb):PE X (.BoolOp .Or (a::b::rest) pos) (tL ta tb):=by
 intro Sb s σ H Q I h;refine BoolOp_or (ar (ha Sb s σ H _ I h) λv s1 ⟨x,H1,I1,r1,q1⟩=>?_);obtain⟨c,rfl,q1⟩:=q1;cases r1;refine QX ?_;cases c with
 | false=>exact hb Sb s1 σ H1 Q I1 q1
 | true=>exact⟨.bl true,H1,I1,rfl,q1⟩
theorem B9(ha:PE X a ta):PE X (.UnaryOp .Not a pos) (tM ta):=by
 intro Sb s σ H Q I h;refine UnaryOp_ (ar (ha Sb s σ H _ I h) λv s1 ⟨x,H1,I1,r1,q1⟩=>?_);obtain⟨c,rfl,q1⟩:=q1;cases r1;exact not_of (QX ⟨.bl (!c),H1,I1,rfl,q1⟩)
def tN(t:TT)(ta tb:TE):TE:=λσ H Q=>t σ H λc H1=>if c=true then ta σ H1 Q else tb σ H1 Q
theorem Ca{c:Qx}(hc:PT X c tA)(ha:PE X a ta)(hb:PE X b tb):PE X (.IfExp c a b pos) (tN tA ta tb):=by
 intro Sb s σ H Q I h;refine wpAny_IfExp (ar (hc Sb s σ H _ I h) λd s1 ⟨H1,I1,q1⟩=>?_);cases d with
 | true=>exact ha Sb s1 σ H1 Q I1 q1
 | false=>exact hb Sb s1 σ H1 Q I1 q1
end
def aS(K:Ju)(H:Hp)(a:Qs)(xs:List V):Prop:=
 Rd H a (.lst xs)\/
  ∃(o:Obj)(its:Array Qr)(n:Nat),K.lookup a=some o/\o.cls= .type "list"/\o.dict=none/\o.data= .seq its n/\its.size<=Qz/\aA xs its.toList
def bw(K:Ju)(H:Hp)(a:Qs)(xs:List V):Prop:=
 Rd H a (.tup xs)\/
  ∃(o:Obj)(its:Array Qr)(n:Nat),K.lookup a=some o/\o.cls= .type "tuple"/\o.data= .seq its n/\its.size<=Qz/\aA xs its.toList
def Cb:Qr->Option V
 | .none=>some .non
 | .bool b=>some (.bl b)
 | .int i _=>some (.int i)
 | .str x _=>some (.str x)
 | .bytes b _=>some (.byt b)
 | .float b _=>some (.flt b)
 | .ref a=>some (.ref a)
 | .type n=>some (.ty n)
 | _=>none
theorem ay.abs{x:V}{u:Qr}(r:ay x u):Cb u=some x:=by
 cases x with
 | non=>cases r;rfl
 | bl _=>cases r;rfl
 | int _=>obtain⟨t,rfl⟩:=r;rfl
 | str _=>obtain⟨t,rfl⟩:=r;rfl
 | byt _=>obtain⟨t,rfl⟩:=r;rfl
 | flt _=>obtain⟨t,rfl⟩:=r;rfl
 | ref _=>cases r;rfl
 | ty _=>cases r;rfl
theorem ay.inj{x y:V}{u:Qr}(r:ay x u)(q:ay y u):x=y:=Kp (r.abs.symm.trans q.abs)
theorem aA.inj:∀{xs ys:List V}{us:List Qr},aA xs us->aA ys us->xs=ys
 | _,_,_,.nil,.nil=>rfl
 | _,_,_,.cons r t,.cons r' t'=>by rw [r.inj r',aA.inj t t']
section
variable {X:Cx} {Sb:List (Qs×Obj)} {σ:St} {H:Hp} {s:Qt} {a:Qs} {xs ys:List V}
theorem aS.of{K:Ju}(h:H a=some (.lst xs)):aS K H a xs:= .inl (.inl h)
theorem bw.of{K:Ju}(h:H a=some (.tup xs)):bw K H a xs:= .inl (.inl h)
theorem aa.list(I:aa X Sb σ H s)(h:aS X.K H a xs):∃its:List Qr,aA xs its/\PlainL s.heap a its.toArray/\xs.length<=Qz:=by
 rcases h with h | ⟨o,its,n,hk,hc,hd,hs,hz,r⟩
 ·obtain⟨z,its,n,r,e⟩:=h.ok I.hok;exact⟨its,r,⟨_,n,e,rfl,rfl,rfl⟩,z⟩
 ·refine⟨its.toList,r,⟨o,n,I.kIn a o hk,hc,hd,by simpa using hs⟩,?_⟩;have e:=r.length;simp only [JL] at e;omega
theorem aa.tuple(I:aa X Sb σ H s)(h:bw X.K H a xs):∃its:List Qr,aA xs its/\IsTup s.heap a its.toArray/\xs.length<=Qz:=by
 rcases h with h | ⟨o,its,n,hk,hc,hs,hz,r⟩
 ·obtain⟨z,its,r,p⟩:=h.ok I.hok;exact⟨its,r,p,z⟩
 ·refine⟨its.toList,r,⟨o,I.kIn a o hk,hc,n,by simpa using hs⟩,?_⟩;have e:=r.length;simp only [JL] at e;omega
theorem aa.list_inj(I:aa X Sb σ H s)(h:aS X.K H a xs)(h':aS X.K H a ys):xs=ys:=by
 obtain⟨its,r,⟨o,n,e,_,_,d⟩,_⟩:=I.list h;obtain⟨its',r',⟨o',n',e',_,_,d'⟩,_⟩:=I.list h';rw [e] at e';cases e';rw [d] at d';injection d' with d1 _
 have:its=its':=by simpa using congrArg PM d1
 subst this;exact r.inj r'
theorem aa.tuple_inj(I:aa X Sb σ H s)(h:bw X.K H a xs)(h':bw X.K H a ys):xs=ys:=by
 obtain⟨its,r,⟨o,e,_,n,d⟩,_⟩:=I.tuple h;obtain⟨its',r',⟨o',e',_,n',d'⟩,_⟩:=I.tuple h';rw [e] at e';cases e';rw [d] at d';injection d' with d1 _
 have:its=its':=by simpa using congrArg PM d1
 subst this;exact r.inj r'
end
abbrev Cx.wish(X:Cx)(E:Qr->Qt->Prop):Cx:={X with xe:=E}
abbrev Cx.nox(X:Cx):Cx:=X.wish λ_ _=>False
theorem Cx.Ok.wish{X:Cx}(ok:X.Ok)(E:Qr->Qt->Prop):(X.wish E).Ok:=
 ⟨ok.mod,ok.kind,ok.glob,ok.blt,ok.above,ok.inj,ok.has,ok.cab,ok.hd,ok.frames,ok.stk,ok.exf,ok.bs,ok.bsz,ok.noex,ok.exfs,ok.funs,ok.frf⟩
theorem Cx.Ok.unwish{X:Cx}{E:Qr->Qt->Prop}(ok:(X.wish E).Ok):X.Ok:=
 ⟨ok.mod,ok.kind,ok.glob,ok.blt,ok.above,ok.inj,ok.has,ok.cab,ok.hd,ok.frames,ok.stk,ok.exf,ok.bs,ok.bsz,ok.noex,ok.exfs,ok.funs,ok.frf⟩
section
variable {X:Cx} {Sb:List (Qs×Obj)} {σ:St} {H:Hp} {s:Qt} {E:Qr->Qt->Prop}
theorem aa.wish(I:aa X Sb σ H s)(E:Qr->Qt->Prop):aa (X.wish E) Sb σ H s:=⟨I.ok.wish E,I.os,I.bare,I.base,I.loc,I.cell,I.free,I.freeC,I.pin,I.hok,I.len⟩
theorem aa.unwish(I:aa (X.wish E) Sb σ H s):aa X Sb σ H s:=⟨I.ok.unwish,I.os,I.bare,I.base,I.loc,I.cell,I.free,I.freeC,I.pin,I.hok,I.len⟩
theorem SP.unwish{D:m7}{f:Flow}{s':Qt}(h:SP (X.wish E) Sb D f s'):SP X Sb D f s':=by
 cases f with
 | next=>obtain⟨σ',H',I,q⟩:=h;exact⟨σ',H',I.unwish,q⟩
 | brk=>obtain⟨σ',H',I,q⟩:=h;exact⟨σ',H',I.unwish,q⟩
 | cont=>obtain⟨σ',H',I,q⟩:=h;exact⟨σ',H',I.unwish,q⟩
 | ret u=>obtain⟨v,σ',H',I,r,q⟩:=h;exact⟨v,σ',H',I.unwish,r,q⟩
theorem bu.nox{st:List QH}{t:TS}(h:bu X.nox st t):bu X st t:=λSb s σ H D I hw=>
 QM (h Sb s σ H D (I.wish _) hw) (λ_ _ q=>q.unwish) λ_ _ z=>K6 z
end
section
variable {X:Cx} {st:QH} {rest:List QH} {t u:TS} {e:Qx} {te:TE} {pos:Pos}
def tO:TS:=λD σ H=>D.nx σ H
def tP(t u:TS):TS:=λD σ H=>t {D with nx:=u D} σ H
theorem wj:bu X [] tO:=λ_ _ σ H _ I h=>Rg ⟨σ,H,I,h⟩
theorem tQ(h1:PS X st t)(h2:bu X rest u):bu X (st::rest) (tP t u):=by
 intro Sb s σ H D I h;refine R5 (ar (h1 Sb s σ H {D with nx:=u D} I h) λf s1 q=>?_);cases f with
 | next=>
  obtain⟨σ',H',I',q⟩:=q;exact h2 Sb s1 σ' H' D I' q
 | ret v=>exact q
 | brk=>exact q
 | cont=>exact q
theorem qS(h1:PS X st t):bu X [st] t:=by
 intro Sb s σ H D I h;refine R5 (ar (h1 Sb s σ H D I h) λf s1 q=>?_);cases f with
 | next=>exact Rg q
 | ret v=>exact q
 | brk=>exact q
 | cont=>exact q
theorem aa.quiet{Sb:List (Qs×Obj)}{σ:St}{H:Hp}{s:Qt}(I:aa X Sb σ H s):interactive X.env=false:=by simp [interactive,I.ok.kind]
def tR(te:TE):TS:=λD σ H=>te σ H λ_ H1=>D.nx σ H1
theorem wk(he:PE X e te)(hs:QS e none pos.line X.env=pure false:=by rfl):PS X (.Expr e pos) (tR te):=by
 intro Sb s σ H D I h;exact wpAny_Expr_any (ar (he Sb s σ H _ I h) λv s1 uu13=>by obtain⟨x,H1,I1,r1,q1⟩:=uu13;exact⟨σ,H1,I1,q1⟩) I.quiet hs
def tS(te:TE):TS:=λD σ H=>te σ H D.rt
theorem pR(he:PE X e te):PS X (.Return (some e) pos) (tS te):=by
 intro Sb s σ H D I h;exact wpAny_Return_some (ar (he Sb s σ H _ I h) λv s1 uu14=>by obtain⟨x,H1,I1,r1,q1⟩:=uu14;exact⟨x,σ,H1,I1,r1,q1⟩)
def tT(c:TT)(t u:TS):TS:=λD σ H=>c σ H λb H1=>if b=true then t D σ H1 else u D σ H1
theorem wm{c:Qx}{a b:List QH}{tc:TT}(hc:PT X c tc)(ha:bu X a t)(hb:bu X b u):PS X (.If c a b pos) (tT tc t u):=by
 intro Sb s σ H D I h;refine wpAny_If (ar (hc Sb s σ H _ I h) λd s1 ⟨H1,I1,q1⟩=>?_);cases d with
 | true=>exact ha Sb s1 σ H1 D I1 q1
 | false=>exact hb Sb s1 σ H1 D I1 q1
def Cc:TS:=λ_ _ _=>False
theorem Cd:PS X st Cc:=λ_ _ _ _ _ _ h=>h.elim
end
abbrev TG:=V->St->Hp->(St->Hp->Prop)->Prop
abbrev mL:=List V->St->Hp->(St->Hp->Prop)->Prop
def PG(X:Cx)(target:Qx)(t:TG):Prop:=
 ∀(Sb:List (Qs×Obj))(s:Qt)(σ:St)(H:Hp)(v:V)(u:Qr)(Q:St->Hp->Prop),aa X Sb σ H s->ay v u->t v σ H Q->
  Qv (Qw X.prog X.w) X.A (assign target X.env u) (λ_ s'=>∃σ' H',aa X Sb σ' H' s'/\Q σ' H') X.xe s
def qT(X:Cx)(ts:List Qx)(t:mL):Prop:=
 ∀(Sb:List (Qs×Obj))(s:Qt)(σ:St)(H:Hp)(vs:List V)(us:List Qr)(Q:St->Hp->Prop),aa X Sb σ H s->aA vs us->t vs σ H Q->
  Qv (Qw X.prog X.w) X.A (assignInOrder ((Ry ts X.env).map (·.2)) us) (λ_ s'=>∃σ' H',aa X Sb σ' H' s'/\Q σ' H') X.xe s
section
variable {X:Cx} {pos:Pos}
def mM(i:Nat):TG:=λv σ H Q=>Q (σ.set i (some v)) H
theorem aH{i:Nat}{x:Str}(hN:X.N.Nodup)(hi:X.N[i]?=some x)(hx:iC X.env.scope x)(hf:X.fn x=true\/X.env.scope.names.lookup x=some .local:=by first | exact .inl rfl | exact .inr rfl | assumption):PG X (.Name x pos) (mM i):=by
 intro Sb s σ H v u Q I r h;exact wpAny_assign_Name (oG I hN hi hx r (λs' I'=>⟨_,H,I',h⟩) hf)
def pU:mL:=λvs σ H Q=>vs=[]/\Q σ H
def oI(t:TG)(u:mL):mL:=λvs σ H Q=>∃v r,vs=v::r/\t v σ H λσ' H'=>u r σ' H' Q
theorem oJ:qT X [] pU:=by
 intro Sb s σ H vs us Q I r h;obtain⟨e,h⟩:=h;subst e;cases r;exact assignInOrder_nil ⟨σ,H,I,h⟩
theorem di{e:Qx}{es:List Qx}{t:TG}{u:mL}(h1:PG X e t)(h2:qT X es u)
 (hs:(Ry (e::es) X.env).map (·.2)=assign e X.env::(Ry es X.env).map (·.2):=by rfl):qT X (e::es) (oI t u):=by
 intro Sb s σ H vs us Q I r h;obtain⟨v,vr,e1,h⟩:=h;subst e1;cases r with
 | cons r rr=>
  rw [hs];refine RW (ar (h1 Sb s σ H _ _ _ I r h) λ_ s1 ⟨σ1,H1,I1,q1⟩=>?_);exact h2 Sb s1 σ1 H1 _ _ Q I1 rr q1
def pV(K:Ju)(n:Nat)(t:mL):TG:=λv σ H Q=>∃a xs,v= .ref a/\bw K H a xs/\xs.length=n/\t xs σ H Q
theorem oK{es:List Qx}{k:Nat}{t:mL}{n:Nat}(hc:X.calm=true)(h:qT X es t)
 (hn:(Ry es X.env).length=n:=by rfl)(hst:(Ry es X.env).findIdx? (·.1)=none:=by rfl):PG X (.Tuple es k pos) (pV X.K n t):=by
 intro Sb s σ H v u Q I r hw;obtain⟨a,xs,e1,hq,hl,hw⟩:=hw;subst e1;cases r;obtain⟨its,rv,ht,hz⟩:=I.tuple hq;refine assign_Tuple_tuple (I.ok.hd hc) ht (by simp [hn,<-hl,rv.length]) hst λh' hx=>?_;have I1:aa X Sb σ H {s with heap:=h'}:=I.kept (t':=s.toks) λb o e=>hx b o (JW (JC e)) e;exact h Sb _ σ H xs _ Q I1 (by simpa using rv) hw
def oM(te:TE)(g:TG):TS:=λD σ H=>te σ H λx H1=>g x σ H1 D.nx
theorem Ce{tg e:Qx}{te:TE}{g:TG}(he:PE X e te)(hg:PG X tg g)(hs:RZ [tg] e pos.line X.env=pure false:=by rfl)(hw:R0 [tg] e X.env=pure none:=by rfl)
 (h1:(Ry [tg] X.env).map (·.2)=[assign tg X.env]:=by rfl):PS X (.Assign [tg] e pos) (oM te g):=by
 intro Sb s σ H D I h;refine wpAny_Assign_stores (ar (he Sb s σ H _ I h) λv s1 ⟨x,H1,I1,r1,q1⟩=>?_) hs hw;rw [h1];exact ar (hg Sb s1 σ H1 x v _ I1 r1 q1) λ_ s2 q=>q
theorem tU{i:Nat}{x:Str}{e:Qx}{te:TE}{pos':Pos}(hN:X.N.Nodup)(hi:X.N[i]?=some x)(hx:iC X.env.scope x)(he:PE X e te)(hs:QS e (some (.Name x pos')) pos.line X.env=pure false:=by rfl)(hf:X.fn x=true\/X.env.scope.names.lookup x=some .local:=by first | exact .inl rfl | exact .inr rfl | assumption):
 PS X (.Assign [.Name x pos'] e pos) (oM te (mM i)):=by
 intro Sb s σ H D I h;refine wpAny_Assign_Name (ar (he Sb s σ H _ I h) λv s1 ⟨y,H1,I1,r1,q1⟩=>?_) hs;exact oG I1 hN hi hx r1 (λs2 I2=>⟨_,H1,I2,q1⟩) hf
def tV(i j:Nat)(ta:TA):TS:=λD σ H=>ta σ H λvs H1=>∃v w,vs=[v,w]/\D.nx ((σ.set i (some v)).set j (some w)) H1
theorem Cf{i j:Nat}{x y:Str}{a b:Qx}{ta:TA}{px py pt:Pos}{kt k2 pt2}(hc:X.calm=true)(hN:X.N.Nodup)(hi:X.N[i]?=some x)(hj:X.N[j]?=some y)(hij:i≠j)
 (hx:X.env.scope.names.lookup x=some .local)(hy:X.env.scope.names.lookup y=some .local)(ha:PA X [a,b] ta)
 (hw:R0 [.Tuple [.Name x px,.Name y py] kt pt] (.Tuple [a,b] k2 pt2) X.env=pure (some [x,y]))
 (hs:RZ [.Tuple [.Name x px,.Name y py] kt pt] (.Tuple [a,b] k2 pt2) pos.line X.env=pure false:=by rfl):
 PS X (.Assign [.Tuple [.Name x px,.Name y py] kt pt] (.Tuple [a,b] k2 pt2) pos) (tV i j ta):=by
 intro Sb s σ H D I h;rw [exec_Assign_arm];refine Qq (wpAny_standAt ?_);rw [hs];refine Qq (Qu ?_);rw [Qk Qi];refine Qq (Tuple_ (ar (ha _ Sb s σ H _ I h) λus s1 ⟨vs,H1,I1,r1,q1⟩=>?_));obtain⟨v,w,e1,q1⟩:=q1;subst e1;obtain⟨u1,u2,rfl,rv,rw'⟩:∃u1 u2,us=[u1,u2]/\ay v u1/\ay w u2:=by
  cases r1 with
  | cons p q=>
   cases q with
   | cons p' q'=>
    cases q';exact⟨_,_,rfl,p,p'⟩
 refine QG ?_ (by show 2<=Qz;decide);have I2:aa X Sb σ H1 {s1 with heap:=s1.heap.push {cls:= .type "tuple",data:= .seq [u1,u2].toArray}}:=I1.kept (t':=s1.toks) λb o e=>Jx _ e;rw [hw];refine Qq (Qu ?_);show Qv (Qw X.prog X.w) X.A (do rule "assign.swapped-stores";let items<-unpackItems (.ref s1.heap.objs.size) 2 none;assignInOrder [λv=>bindName X.env y v,λv=>bindName X.env x v] items.reverse;pure Qe) _ _ _;refine Qq (RK (Qq (unpackItems_tuple (items:=#[u1,u2]) (I.ok.hd hc) (OL s1.heap _) λh' hx'=>?_)));have I3:=I2.kept (h':=h') (t':=s1.toks) λb o e=>hx' b o (JW (JC e)) e;show Qv _ _ (assignInOrder [λv=>bindName X.env y v,λv=>bindName X.env x v] [u2,u1] >>=λ_=>pure Qe) _ _ _;refine Qq (RW (wpAny_bindName (oG I3 hN hj (.inl hy) rw' (λs2 I4=>?_) (.inr hy))));refine RW (wpAny_bindName (oG I4 hN hi (.inl hx) rv (λs3 I5=>assignInOrder_nil (Qu ?_)) (.inr hx)));rw [List.set_comm _ _ (Ne.symm hij)] at I5;exact⟨_,H1,I5,q1⟩
def Cg(c:TT)(tb:TS):TS:=λD σ H=>∃W:Nat->St->Hp->Prop,(∃m,W m σ H)/\∀m σ H,W m σ H->
 c σ H λb H1=>if b=true then ∃N:St->Hp->Prop,(∀σ' H',N σ' H'->∃m',m' < m/\W m' σ' H')/\tb {D with nx:=N,ct:=N,bk:=D.nx} σ H1 else D.nx σ H1
theorem Ci{c:Qx}{body:List QH}{tc:TT}{tb:TS}(hp:Rl (Qw X.prog X.w) X.A X.env X.xe)(hc:PT X c tc)(hb:bu X body tb):PS X (.While c body [] pos) (Cg tc tb):=by
 intro Sb s σ H D I h;obtain⟨W,⟨m0,w0⟩,turn⟩:=h;refine wpAny_While (codeAny_whileLoop (λn s'=>∃σ' H',aa X Sb σ' H' s'/\W n σ' H') ?_ m0 ⟨σ,H,I,w0⟩);rintro n s1 ⟨σ1,H1,I1,w1⟩;refine Q4 hp (ar (hc Sb s1 σ1 H1 _ I1 (turn n σ1 H1 w1)) λb s2 ⟨H2,I2,q2⟩=>?_);cases b with
 | true=>
  obtain⟨N,hN,q2⟩:=q2;rw [Ql rfl];refine Q4 hp (ar (hb Sb s2 σ1 H2 _ I2 q2) λf s3 q3=>?_);cases f with
  | next=>
   obtain⟨σ3,H3,I3,n3⟩:=q3;obtain⟨m',hm,w3⟩:=hN σ3 H3 n3;exact⟨m',hm,σ3,H3,I3,w3⟩
  | cont=>
   obtain⟨σ3,H3,I3,n3⟩:=q3;obtain⟨m',hm,w3⟩:=hN σ3 H3 n3;exact⟨m',hm,σ3,H3,I3,w3⟩
  | brk=>exact q3
  | ret v=>exact q3
 | false=>
  rw [Qk Kf];exact Rg ⟨σ1,H2,I2,q2⟩
end
structure It where
 go:Nat->Hp->Prop
 yld:Nat->Hp->V->Hp->Prop
 stop:Nat->Hp->Prop
def iE(X:Cx)(Sb:List (Qs×Obj))(H:Hp)(b:Qs):Prop:=
 H b=none/\b≠X.env.locals/\b ∉ X.fs/\(b∈X.ex\/X.s₀.heap.objs.size<=b)/\(∀x c,X.env.cells.lookup x=some c->c≠b)/\∀p∈X.pn++Sb,p.1≠b
theorem aa.fpOk{X:Cx}{Sb:List (Qs×Obj)}{σ:St}{H H':Hp}{s:Qt}{b:Qs}(I:aa X Sb σ H s)(hb:s.heap.objs.size<=b)(hn:H' b=none):iE X Sb H' b:=by
 refine⟨hn,M3 (JX I.lt hb),I.nofs hb,.inr (Km I.sz hb),λx c e z=>?_,λp hp z=>?_⟩
 ·obtain⟨v,q⟩:=I.cell x c e;exact absurd (JX q.lt (by rw [z];exact hb)) (Le _)
 ·exact absurd (JX (JC (I.pin p hp).1) (by rw [z];exact hb)) (Le _)
structure pW (P:QA) (w:QE) (K:Ju) (tg:Qx) (J:It) (fp:List Qs) (it:Qs) (tn:Nat->QB->Prop):Prop where
 mem:it∈fp
 obj:∀i h,tn i h->∀b∈fp,∃o,h.get? b=some o/\∀v,o.data≠ .cell v
 keep:∀i h h',tn i h->(∀b∈fp,∀o,h.get? b=some o->h'.get? b=some o)->tn i h'
 item:∀(X:Cx),X.prog=P->X.w=w->X.K=K->X.calm=true->∀(i:Nat)(Sb:List (Qs×Obj))(s:Qt)(σ:St)(H:Hp)(E:Qr->Qt->Prop),aa X Sb σ H s->(∀b∈fp,iE X Sb H b)->tn i s.heap->J.go i H->
  Qv (Qw P w) X.A (Rm (.ref it)) (λr s1=>∃u,r=some u/\
   Qv (Qw P w) X.A (RL tg (.ref it) u) (λ_ s2=>∃x H',aa X Sb σ H' s2/\ay x u/\J.yld i H x H'/\tn (i+1) s2.heap/\∀b∈fp,H' b=none) E s1) E s
 done:∀(X:Cx),X.prog=P->X.w=w->X.K=K->X.calm=true->∀(i:Nat)(Sb:List (Qs×Obj))(s:Qt)(σ:St)(H:Hp)(E:Qr->Qt->Prop),aa X Sb σ H s->(∀b∈fp,iE X Sb H b)->tn i s.heap->J.stop i H->
  Qv (Qw P w) X.A (Rm (.ref it)) (λr s1=>r=none/\aa X Sb σ H s1) E s
 self:∀(A:QF)(i:Nat)(s:Qt)(Q:Qr->Qt->Prop)(E:Qr->Qt->Prop),tn i s.heap->Q (.ref it) s->Qv (Qw P w) A (pyIter (.ref it)) Q E s
abbrev TI:=St->Hp->(It->Hp->Prop)->Prop
def wq(X:Cx)(Sb:List (Qs×Obj))(σ:St)(tg:Qx)(R:It->Hp->Prop)(itv:Qr)(s2:Qt):Prop:=
 ∃(it:Qs)(fp:List Qs)(tn:Nat->QB->Prop)(J:It)(H':Hp),itv= .ref it/\aa X Sb σ H' s2/\pW X.prog X.w X.K tg J fp it tn/\tn 0 s2.heap/\(∀b∈fp,iE X Sb H' b)/\R J H'
def PI(X:Cx)(tg iter:Qx)(wi:TI):Prop:=
 ∀(Sb:List (Qs×Obj))(s:Qt)(σ:St)(H:Hp)(R:It->Hp->Prop),aa X Sb σ H s->wi σ H R->
  Qv (Qw X.prog X.w) X.A (eval iter X.env) (λv s1=>Qv (Qw X.prog X.w) X.A (pyIter v) (wq X Sb σ tg R) X.xe s1) X.xe s
theorem qU{M:Model}{A:QF}{E:Qr->Qt->Prop}{s:Qt}{tg:Qx}{it:Qs}{u:Qr}{o:Obj}{n:String}{vs:Array Qr}{Q:Unit->Qt->Prop}(ho:s.heap.get? it=some o)(hc:o.cls= .type n)(hd:o.data= .fields vs)
 (hn:["enumerate","zip","dict_itemiterator","dict_reverseitemiterator","odict_iterator","itertools.zip_longest","itertools.pairwise"].contains n=false)(hQ:Q () s):Qv M A (RL tg (.ref it) u) Q E s:=by
 unfold RL;cases tg <;> first
  | exact Qu hQ
  | (cases u <;> first
      | exact Qu hQ
      | (refine Qq (wpAny_load ho ?_)
         rw [hc,hd];show Qv M A (if (["enumerate","zip","dict_itemiterator","dict_reverseitemiterator","odict_iterator","itertools.zip_longest","itertools.pairwise"].contains n && vs[0]?==some (Q6 _))=true then _ else _) Q E s;rw [Qk (by intro h;rw [hn,Pz] at h;cases h)];exact Qu hQ))
def pX(K:Ju)(a:Qs):It:=
 ⟨λi H=>∃xs x,aS K H a xs/\xs[i]?=some x,λi H x H'=>H'=H/\∀xs,aS K H a xs->xs[i]?=some x,λi H=>∃xs,aS K H a xs/\xs.length<=i⟩
def pY(K:Ju)(a:Qs):It:=
 ⟨λi H=>∃xs x,bw K H a xs/\xs[i]?=some x,λi H x H'=>H'=H/\∀xs,bw K H a xs->xs[i]?=some x,λi H=>∃xs,bw K H a xs/\xs.length<=i⟩
def m9(lo:Int)(n:Nat):It:=⟨λi _=>i < n,λi H x H'=>H'=H/\x= .int (lo+i),λi _=>n<=i⟩
theorem Cj{P:QA}{w:QE}{K:Ju}{tg:Qx}(a it:Qs):pW P w K tg (pX K a) [it] it (λi h=>h.IsListIter it a i) where
 mem:=Qo
 obj:=λi h st b hb=>by
  have e:b=it:=by simpa using hb
  subst e;obtain⟨o,e,c,d⟩:=st;exact⟨o,e,λv z=>by rw [d] at z;cases z⟩
 keep:=λi h h' st k=>st.at λo e=>k it Qo o e
 item:=by
  intro X hP hw hK hc i Sb s σ H E I hf st hg;subst hP hw hK;obtain⟨xs,x,hq,hx⟩:=hg;obtain⟨its,rv,p,hz⟩:=I.list hq;obtain⟨u,hu,ru⟩:=rv.get hx;obtain⟨f0,f1,f2,f3,f4,f5⟩:=hf it Qo;refine wpAny_pyNext_list_item st p.isList (x:=u) (by simpa using hu) λh' st' sb=>?_;have I1:aa X Sb σ H {s with heap:=h'}:=I.turned (t':=s.toks) (λb o hb e=>(sb.2 b hb).trans e) f0 f1 f3 f4 f5;obtain⟨o,e,c,d⟩:=id st';exact⟨u,rfl,qU (s:={s with heap:=h'}) e c d Qi ⟨x,H,I1,ru,⟨rfl,λys hy=>by rw [I.list_inj hy hq];exact hx⟩,st',λb hb=>(hf b hb).1⟩⟩
 done:=by
  intro X hP hw hK hc i Sb s σ H E I hf st hg;subst hP hw hK;obtain⟨xs,hq,hx⟩:=hg;obtain⟨its,rv,p,hz⟩:=I.list hq;obtain⟨f0,f1,f2,f3,f4,f5⟩:=hf it Qo;have hl:=rv.length;exact wpAny_pyNext_list_end (I.ok.hd hc) st p.isList (by simp;omega) λh' eb=>⟨rfl,I.turned (t':=s.toks) (λb o hb e=>eb b o hb e) f0 f1 f3 f4 f5⟩
 self:=λ_ _ _ _ _ st h=>wpAny_pyIter_listiter st h
theorem Ck{P:QA}{w:QE}{K:Ju}{tg:Qx}(a it:Qs):pW P w K tg (pY K a) [it] it (λi h=>h.IsTupleIter it a i) where
 mem:=Qo
 obj:=λi h st b hb=>by
  have e:b=it:=by simpa using hb
  subst e;obtain⟨o,e,c,d⟩:=st;exact⟨o,e,λv z=>by rw [d] at z;cases z⟩
 keep:=λi h h' st k=>st.at λo e=>k it Qo o e
 item:=by
  intro X hP hw hK hc i Sb s σ H E I hf st hg;subst hP hw hK;obtain⟨xs,x,hq,hx⟩:=hg;obtain⟨its,rv,p,hz⟩:=I.tuple hq;obtain⟨u,hu,ru⟩:=rv.get hx;obtain⟨f0,f1,f2,f3,f4,f5⟩:=hf it Qo;refine wpAny_pyNext_tuple_item st (show s.heap.IsTuple a its.toArray from p) (x:=u) (by simpa using hu) λh' st' sb=>?_;have I1:aa X Sb σ H {s with heap:=h'}:=I.turned (t':=s.toks) (λb o hb e=>(sb.2 b hb).trans e) f0 f1 f3 f4 f5;obtain⟨o,e,c,d⟩:=id st';exact⟨u,rfl,qU (s:={s with heap:=h'}) e c d Qi ⟨x,H,I1,ru,⟨rfl,λys hy=>by rw [I.tuple_inj hy hq];exact hx⟩,st',λb hb=>(hf b hb).1⟩⟩
 done:=by
  intro X hP hw hK hc i Sb s σ H E I hf st hg;subst hP hw hK;obtain⟨xs,hq,hx⟩:=hg;obtain⟨its,rv,p,hz⟩:=I.tuple hq;obtain⟨f0,f1,f2,f3,f4,f5⟩:=hf it Qo;have hl:=rv.length;exact wpAny_pyNext_tuple_end (I.ok.hd hc) st (show s.heap.IsTuple a its.toArray from p) (by simp;omega) λh' eb=>⟨rfl,I.turned (t':=s.toks) (λb o hb e=>eb b o hb e) f0 f1 f3 f4 f5⟩
 self:=λ_ _ _ _ _ st h=>wpAny_pyIter_tupleiter st h
theorem Cm{P:QA}{w:QE}{K:Ju}{tg:Qx}(it:Qs)(lo:Int)(n:Nat):pW P w K tg (m9 lo n) [it] it (λi h=>IsRangeIter h it (lo+(i:Nat)*1) ((n:Int) - (i:Nat)) 1) where
 mem:=Qo
 obj:=λi h st b hb=>by
  have e:b=it:=by simpa using hb
  subst e;exact⟨_,st,λv z=>by
   have z':Data.fields _=Data.cell v:=z;cases z'⟩
 keep:=λi h h' st k=>k it Qo _ st
 item:=by
  intro X hP hw hK hc i Sb s σ H E I hf st hg;subst hP hw hK;obtain⟨f0,f1,f2,f3,f4,f5⟩:=hf it Qo;have W:=Walks.range (prog:=X.prog) (w:=X.w) (I.ok.hd hc) it lo 1 n;refine W.item i s _ _ hg st λv h' tk hv st' kk=>?_;obtain⟨t,rfl⟩:=hv;have I1:aa X Sb σ H {s with heap:=h',toks:=tk}:=I.turned (λb o hb e=>kk b o (by simpa using hb) e) f0 f1 f3 f4 f5;refine⟨_,rfl,qU (s:={s with heap:=h',toks:=tk}) (n:="range_iterator") st' rfl rfl Qi ⟨.int (lo+i),H,I1,⟨t,?_⟩,⟨rfl,rfl⟩,st',λb hb=>(hf b hb).1⟩⟩;rw [Int.mul_one]
 done:=by
  intro X hP hw hK hc i Sb s σ H E I hf st hg;subst hP hw hK;obtain⟨f0,f1,f2,f3,f4,f5⟩:=hf it Qo;exact wpAny_pyNext_range_end (I.ok.hd hc) st (by have:n<=i:=hg;omega) λh' eb=>⟨rfl,I.turned (t':=s.toks) (λb o hb e=>eb b o hb e) f0 f1 f3 f4 f5⟩
 self:=λ_ _ _ _ _ st h=>wpAny_pyIter_rangeiter st h
section
variable {X:Cx} {tg:Qx}
def tW(K:Ju)(tl:TE):TI:=λσ H R=>tl σ H λx H1=>∃a,x= .ref a/\(∃xs,aS K H1 a xs)/\R (pX K a) H1
def tX(K:Ju)(tl:TE):TI:=λσ H R=>tl σ H λx H1=>∃a,x= .ref a/\(∃xs,bw K H1 a xs)/\R (pY K a) H1
theorem tY{l:Qx}{tl:TE}(hl:PE X l tl):PI X tg l (tW X.K tl):=by
 intro Sb s σ H R I h;refine ar (hl Sb s σ H _ I h) λv s1 ⟨x,H1,I1,r1,q1⟩=>?_;obtain⟨a,e,⟨xs,hq⟩,q⟩:=q1;subst e;cases r1;obtain⟨its,rv,p,hz⟩:=I1.list hq;refine R3 p.isList ?_;refine⟨s1.heap.objs.size,[s1.heap.objs.size],_,_,H1,rfl,I1.kept (t':=s1.toks) λb o e=>Jx _ e,Cj a _,⟨_,JR _ rfl,rfl,rfl⟩,λb hb=>?_,q⟩;have e:b=s1.heap.objs.size:=by simpa using hb
 subst e;exact I1.fpOk (Jy _) (I1.hok.fresh (Jy _))
theorem tZ{l:Qx}{tl:TE}(hl:PE X l tl):PI X tg l (tX X.K tl):=by
 intro Sb s σ H R I h;refine ar (hl Sb s σ H _ I h) λv s1 ⟨x,H1,I1,r1,q1⟩=>?_;obtain⟨a,e,⟨xs,hq⟩,q⟩:=q1;subst e;cases r1;obtain⟨its,rv,p,hz⟩:=I1.tuple hq;refine wpAny_pyIter_tuple (show s1.heap.IsTuple a its.toArray from p) ?_;refine⟨s1.heap.objs.size,[s1.heap.objs.size],_,_,H1,rfl,I1.kept (t':=s1.toks) λb o e=>Jx _ e,Ck a _,⟨_,JR _ rfl,rfl,rfl⟩,λb hb=>?_,q⟩;have e:b=s1.heap.objs.size:=by simpa using hb
 subst e;exact I1.fpOk (Jy _) (I1.hok.fresh (Jy _))
theorem Cn{Sb:List (Qs×Obj)}{σ:St}{H:Hp}{s:Qt}{R:It->Hp->Prop}{E:Qr->Qt->Prop}{lo hi:Int}{t u v:Tok}{tk:Nat}(I:aa X Sb σ H s)(h1:-(2 ^ 62)<=lo)(h2:lo < 2 ^ 62)(h3:-(2 ^ 62)<=hi)(h4:hi < 2 ^ 62)
 (q:R (m9 lo (hi - lo).toNat) H):Qv (Qw X.prog X.w) X.A (pyIter (.ref s.heap.objs.size)) (wq X Sb σ tg R) E {s with heap:=s.heap.push {cls:= .type "range",data:= .fields #[.int lo t,.int hi u,.int 1 v]},toks:=tk}:=by
 refine wpAny_pyIter_range (IsRange.new ..) (small_one h1 h2 h3 h4) ?_;have I1:aa X Sb σ H {s with heap:=s.heap.push {cls:= .type "range",data:= .fields #[.int lo t,.int hi u,.int 1 v]},toks:=tk}:=I.kept λb o e=>Jx _ e;refine⟨(s.heap.push {cls:= .type "range",data:= .fields #[.int lo t,.int hi u,.int 1 v]}).objs.size,[(s.heap.push {cls:= .type "range",data:= .fields #[.int lo t,.int hi u,.int 1 v]}).objs.size],_,_,H,rfl,
  I1.kept (t':=tk) λb o e=>Jx _ e,Cm _ lo (hi - lo).toNat,?_,λb hb=>?_,q⟩
 ·have e1:lo+((0:Nat):Int)*1=lo:=Qo
  have e2:(((hi - lo).toNat:Nat):Int) - ((0:Nat):Int)=Builtin.Range.rangeSize lo hi 1:=by rw [rangeSize_one];split <;> omega
  show IsRangeIter _ _ (lo+((0:Nat):Int)*1) ((((hi - lo).toNat:Nat):Int) - ((0:Nat):Int)) 1;rw [e1,e2];exact JR _ rfl
 ·have e:b=(s.heap.push {cls:= .type "range",data:= .fields #[.int lo t,.int hi u,.int 1 v]}).objs.size:=by simpa using hb
  subst e;exact I1.fpOk (Jy _) (I1.hok.fresh (Jy _))
def t5(ta:TA):TI:=λσ H R=>ta σ H λvs H1=>∃j:Int,vs=[.int j]/\-(2 ^ 62)<=j/\j < 2 ^ 62/\R (m9 0 j.toNat) H1
def wt(ta:TA):TI:=λσ H R=>ta σ H λvs H1=>∃i j:Int,vs=[.int i,.int j]/\(-(2 ^ 62)<=i/\i < 2 ^ 62/\-(2 ^ 62)<=j/\j < 2 ^ 62)/\R (m9 i (j - i).toNat) H1
theorem t6{a:Qx}{ta:TA}{p pos:Pos}(hg:Gl X "range")(hm:X.mg "range"=none)(ha:PA X [a] ta)(hs:Qy [a] X.env=[(false,eval a X.env)]:=by rfl):PI X tg (.Call (.Name "range" p) [a] [] pos) (t5 ta):=by
 intro Sb s σ H R I h;refine Call_ (pQ I hg hm boot_range (NG (ar (ha pos Sb s σ H _ I h) λus s1 ⟨vs,H1,I1,r1,q1⟩=>?_) hs rfl));obtain⟨j,e,q1,q2,q⟩:=q1;subst e;cases r1 with
 | cons r rr=>
  cases rr;obtain⟨t,rfl⟩:=r;exact call_range_1 (Cn I1 Qj Qj q1 q2 (by simpa using q))
def pZ(wi:TI)(g:TG)(tb:TS):TS:=λD σ H=>wi σ H λJ H1=>∃W:Nat->Nat->St->Hp->Prop,(∃m,W 0 m σ H1)/\∀i m σ H,W i m σ H->
 (J.stop i H/\D.nx σ H)\/(J.go i H/\∃N:St->Hp->Prop,(∀σ' H',N σ' H'->∃m',m' < m/\W (i+1) m' σ' H')/\∀x H',J.yld i H x H'->g x σ H' λσ2 H2=>tb {D with nx:=N,ct:=N,bk:=D.nx} σ2 H2)
def p5(fp:List Qs)(h:QB):List (Qs×Obj):=fp.filterMap λb=>(h.get? b).map λo=>(b,o)
theorem qV{fp:List Qs}{h:QB}{b:Qs}{o:Obj}(hb:b∈fp)(e:h.get? b=some o):(b,o)∈p5 fp h:=Mu.mpr ⟨b,hb,by rw [e];rfl⟩
theorem Co{fp:List Qs}{h:QB}{p:Qs×Obj}(hp:p∈p5 fp h):p.1∈fp/\h.get? p.1=some p.2:=by
 obtain⟨b,hb,e⟩:=Mu.mp hp;cases q:h.get? b with
 | none=>rw [q] at e;cases e
 | some o=>
  rw [q] at e;have e':(b,o)=p:=Kp e;subst e';exact⟨hb,q⟩
theorem aa.pinned{Sb:List (Qs×Obj)}{σ:St}{H:Hp}{s:Qt}{fp:List Qs}(I:aa X Sb σ H s)(hf:∀b∈fp,iE X Sb H b)(ho:∀b∈fp,∃o,s.heap.get? b=some o/\∀v,o.data≠ .cell v):aa X (Sb++p5 fp s.heap) σ H s:=
 I.pins_of λp hp=>(JI.mp hp).elim (λz=>I.pin p (Kc _ z)) λz=>by
  obtain⟨hb,e⟩:=Co z;obtain⟨f0,f1,f2,_⟩:=hf p.1 hb;obtain⟨o,e',d⟩:=ho p.1 hb;rw [e] at e';cases e';exact⟨e,f0,f1,f2,d⟩
theorem aa.unpinned{Sb pl:List (Qs×Obj)}{σ:St}{H:Hp}{s:Qt}(I:aa X (Sb++pl) σ H s):aa X Sb σ H s:=I.pins_of λp hp=>I.pin p (Kc _ (Mh _ hp))
theorem oN{iter:Qx}{body:List QH}{wi:TI}{g:TG}{tb:TS}{pos:Pos}(hp:Rl (Qw X.prog X.w) X.A X.env X.xe)(hc:X.calm=true)(hi:PI X tg iter wi)(hg:PG X tg g)(hb:bu X body tb)
 (hs:∀x,QI iter X.env x=pure x:=by intro _;rfl):PS X (.For tg iter body [] pos) (pZ wi g tb):=by
 intro Sb s σ H D I h;refine wpAny_For (ar (hi Sb s σ H _ I h) λv s1 h1=>ar h1 λitv s2 h2=>?_) hs;obtain⟨it,fp,tn,J,H2,e,I2,T,st2,f2,W,⟨m0,w0⟩,turn⟩:=h2;subst e;have stat:∀{H':Hp},(∀b∈fp,H' b=none)->∀b∈fp,iE X Sb H' b:=λhn b hb=>⟨hn b hb,(f2 b hb).2⟩;refine codeAny_forLoop_any (λn s'=>∃i σ' H',aa X Sb σ' H' s'/\tn i s'.heap/\(∀b∈fp,H' b=none)/\W i n σ' H') ?_ m0 ⟨0,σ,H2,I2,st2,λb hb=>(f2 b hb).1,w0⟩;rintro n s3 ⟨i,σ3,H3,I3,st3,fr3,w3⟩;rcases turn i n σ3 H3 w3 with⟨stop,qn⟩ | ⟨go,N,hN,step⟩
 ·refine Q4 hp (ar (T.done X rfl rfl rfl hc i Sb s3 σ3 H3 X.xe I3 (stat fr3) st3 stop) λr s4 ⟨hr,I4⟩=>?_);subst hr;exact Rg ⟨σ3,H3,I4,qn⟩
 ·refine Q4 hp (ar (T.item X rfl rfl rfl hc i Sb s3 σ3 H3 X.xe I3 (stat fr3) st3 go) λr s4 ⟨u,hr,h4⟩=>?_);subst hr;refine Q4 hp (ar h4 λ_ s5 ⟨x,H5,I5,r5,y5,st5,fr5⟩=>?_);have I5':=I5.pinned (stat fr5) (T.obj _ _ st5);refine Q4 hp (ar (hg _ s5 σ3 H5 x u _ I5' r5 (step x H5 y5)) λ_ s6 ⟨σ6,H6,I6,q6⟩=>?_);refine Q4 hp (ar (hb _ s6 σ6 H6 _ I6 q6) λf s7 q7=>?_);have again:∀{σ7:St}{H7:Hp},aa X (Sb++p5 fp s5.heap) σ7 H7 s7->N σ7 H7->∃m,m < n/\∃i σ' H',aa X Sb σ' H' s7/\tn i s7.heap/\(∀b∈fp,H' b=none)/\W i m σ' H':=λ{σ7 H7} I7 n7=>by
   obtain⟨m',hm,w7⟩:=hN σ7 H7 n7;refine⟨m',hm,i+1,σ7,H7,I7.unpinned,T.keep _ _ _ st5 λb hb o e=>(I7.pin (b,o) (Kc _ (Kc _ (qV hb e)))).1,λb hb=>?_,w7⟩;obtain⟨o,e,d⟩:=T.obj _ _ st5 b hb;exact(I7.pin (b,o) (Kc _ (Kc _ (qV hb e)))).2.1
  cases f with
  | next=>obtain⟨σ7,H7,I7,n7⟩:=q7;exact again I7 n7
  | cont=>obtain⟨σ7,H7,I7,n7⟩:=q7;exact again I7 n7
  | brk=>obtain⟨σ7,H7,I7,q7⟩:=q7;exact⟨σ7,H7,I7.unpinned,q7⟩
  | ret v=>obtain⟨x7,σ7,H7,I7,r7,q7⟩:=q7;exact⟨x7,σ7,H7,I7.unpinned,r7,q7⟩
end
abbrev R2:=V->V->Hp->VK->Prop
def bz(X:Cx)(f:Qr->Qr->Sem Qr)(r:R2):Prop:=
 ∀(Sb:List (Qs×Obj))(s:Qt)(σ:St)(H:Hp)(x y:V)(v u:Qr)(Q:VK),aa X Sb σ H s->ay x v->ay y u->r x y H Q->
  Qv (Qw X.prog X.w) X.A (f v u) (EP X Sb σ Q) X.xe s
def t7(X:Cx)(f:Qr->Sem Qr)(r:V->Hp->VK->Prop):Prop:=
 ∀(Sb:List (Qs×Obj))(s:Qt)(σ:St)(H:Hp)(x:V)(v:Qr)(Q:VK),aa X Sb σ H s->ay x v->r x H Q->
  Qv (Qw X.prog X.w) X.A (f v) (EP X Sb σ Q) X.xe s
def cj(X:Cx)(f:Qr)(r:List V->Hp->VK->Prop):Prop:=
 ∀(Sb:List (Qs×Obj))(s:Qt)(σ:St)(H:Hp)(xs:List V)(us:List Qr)(Q:VK),aa X Sb σ H s->aA xs us->r xs H Q->
  Qv (Qw X.prog X.w) X.A (call f us) (EP X Sb σ Q) X.xe s
def nY(r:R2)(ta tb:TE):TE:=λσ H Q=>ta σ H λx H1=>tb σ H1 λy H2=>r x y H2 Q
def t8(r:V->Hp->VK->Prop)(ta:TE):TE:=λσ H Q=>ta σ H λx H1=>r x H1 Q
def rI(C:Int->Int->Prop)(g:Int->Int->V):R2:=λx y H Q=>∃i j,x= .int i/\y= .int j/\C i j/\Q (g i j) H
def ft(g:Int->Int->V):R2:=λx y H Q=>∃i j,x= .int i/\y= .int j/\Q (g i j) H
def rU(g:Int->V):V->Hp->VK->Prop:=λx H Q=>∃i,x= .int i/\Q (g i) H
section
variable {X:Cx} {a b c:Qx} {ta tb tc:TE} {pos:Pos}
theorem t9(ha:PE X a ta)(hb:PE X b tb){Sb:List (Qs×Obj)}{s:Qt}{σ:St}{H:Hp}{R:V->V->Hp->Prop}(I:aa X Sb σ H s)
 (h:ta σ H λx H1=>tb σ H1 λy H2=>R x y H2){Q:Qr->Qt->Prop}{f:Qr->Qr->Sem Qr}
 (hf:∀v u s2 x y H2,aa X Sb σ H2 s2->ay x v->ay y u->R x y H2->Qv (Qw X.prog X.w) X.A (f v u) Q X.xe s2):
 Qv (Qw X.prog X.w) X.A (eval a X.env) (λv s₁=>Qv (Qw X.prog X.w) X.A (eval b X.env) (λu s₂=>Qv (Qw X.prog X.w) X.A (f v u) Q X.xe s₂) X.xe s₁) X.xe s:=by
 refine ar (ha Sb s σ H _ I h) λv s1 ⟨x,H1,I1,r1,q1⟩=>?_;refine ar (hb Sb s1 σ H1 _ I1 q1) λu s2 ⟨y,H2,I2,r2,q2⟩=>?_;exact hf v u s2 x y H2 I2 r1 r2 q2
theorem wu{op:Operator}{r:R2}(ho:bz X (Q9 op) r)(ha:PE X a ta)(hb:PE X b tb):PE X (.BinOp a op b pos) (nY r ta tb):=by
 intro Sb s σ H Q I h;exact wpAny_BinOp (t9 ha hb I h λv u s2 x y H2 I2 rx ry q=>ho Sb s2 σ H2 x y v u Q I2 rx ry q)
theorem wz{op:UnaryOp}{r:V->Hp->VK->Prop}(ho:t7 X (unaryOp op) r)(ha:PE X a ta):PE X (.UnaryOp op a pos) (t8 r ta):=by
 intro Sb s σ H Q I h;exact UnaryOp_ (ar (ha Sb s σ H _ I h) λv s1 uu30=>by obtain⟨x,H1,I1,r1,q1⟩:=uu30;exact ho Sb s1 σ H1 x v Q I1 r1 q1)
theorem qW{f:Qr->Qr->Sem Qr}{C:Int->Int->Prop}{g:Int->Int->Int}
 (rule:∀(i j:Int) (t u:Tok) (s:Qt) (Q:Qr->Qt->Prop) (E:Qr->Qt->Prop),C i j->Q (.int (g i j) s.toks) {s with toks:=s.toks+1}->Qv (Qw X.prog X.w) X.A (f (.int i t) (.int j u)) Q E s):
 bz X f (rI C λi j=>.int (g i j)):=by
 intro Sb s σ H x y v u Q I rx ry h;obtain⟨i,j,rfl,rfl,hc,q⟩:=h;obtain⟨t,rfl⟩:=rx;obtain⟨t',rfl⟩:=ry;exact rule i j t t' s _ _ hc ⟨.int (g i j),H,I.tok _,⟨_,rfl⟩,q⟩
theorem wA{f:Qr->Qr->Sem Qr}{g:Int->Int->Int}
 (rule:∀(i j:Int) (t u:Tok) (s:Qt) (Q:Qr->Qt->Prop) (E:Qr->Qt->Prop),Q (.int (g i j) s.toks) {s with toks:=s.toks+1}->Qv (Qw X.prog X.w) X.A (f (.int i t) (.int j u)) Q E s):
 bz X f (ft λi j=>.int (g i j)):=by
 intro Sb s σ H x y v u Q I rx ry h;obtain⟨i,j,rfl,rfl,q⟩:=h;obtain⟨t,rfl⟩:=rx;obtain⟨t',rfl⟩:=ry;exact rule i j t t' s _ _ ⟨.int (g i j),H,I.tok _,⟨_,rfl⟩,q⟩
theorem qX{f:Qr->Qr->Sem Qr}{g:Int->Int->Bool}
 (rule:∀(i j:Int) (t u:Tok) (s:Qt) (Q:Qr->Qt->Prop) (E:Qr->Qt->Prop),Q (.bool (g i j)) s->Qv (Qw X.prog X.w) X.A (f (.int i t) (.int j u)) Q E s):
 bz X f (ft λi j=>.bl (g i j)):=by
 intro Sb s σ H x y v u Q I rx ry h;obtain⟨i,j,rfl,rfl,q⟩:=h;obtain⟨t,rfl⟩:=rx;obtain⟨t',rfl⟩:=ry;exact rule i j t t' s _ _ ⟨.bl (g i j),H,I,rfl,q⟩
def dj(i j:Int):Prop:=0 < j/\j < 1073741824
def dQ(i j:Int):Prop:=0<=j/\j<=1000000/\i.natAbs < 2 ^ 64
def cR(i j:Int):Prop:=(-(2 ^ 64) < i/\i < 2 ^ 64)\/(-(2 ^ 64) < j/\j < 2 ^ 64)
theorem cR.ok{i j:Int}(h:cR i j):IntMulOk i j:=by
 rcases h with⟨h1,h2⟩ | ⟨h1,h2⟩
 ·exact .of_left (intBits_le_64 h1 h2)
 ·exact .of_right (intBits_le_64 h1 h2)
theorem cu:bz X (Q9 .Add) (ft λi j=>.int (i+j)):=wA λ_ _ _ _ _ _ _ q=>add_int q
theorem p6:bz X (Q9 .Sub) (ft λi j=>.int (i - j)):=wA λ_ _ _ _ _ _ _ q=>sub_int q
theorem nz:bz X (Q9 .Mult) (rI cR λi j=>.int (i*j)):=qW λ_ _ _ _ _ _ _ hc q=>mul_int q hc.ok
theorem qY:bz X (Q9 .FloorDiv) (rI dj λi j=>.int (i / j)):=qW λi j _ _ _ _ _ hc q=>by
 have h1:(0:Int) < j:=hc.1;have h2:j < 1073741824:=hc.2;exact floordiv_int Qj (by rw [Int.fdiv_eq_ediv_of_nonneg i Qj];exact q) (.inl (PyProof.noPylong_small Qj))
theorem bq:bz X (Q9 .Mod) (rI (λ_ j=>0 < j) λi j=>.int (i % j)):=qW λi j _ _ _ _ _ hc q=>by
 have h1:(0:Int) < j:=hc;exact mod_int' Qj (by rw [Int.fmod_eq_emod_of_nonneg i Qj];exact q)
theorem wB:bz X (Q9 .Pow) (rI dQ λi j=>.int (i ^ j.toNat)):=qW λ_ _ _ _ _ _ _ hc q=>pow_int_small hc.1 hc.2.1 hc.2.2 q
theorem Cp{f:Qr->Sem Qr}{g:Int->Int}
 (rule:∀(i:Int) (t:Tok) (s:Qt) (Q:Qr->Qt->Prop) (E:Qr->Qt->Prop),Q (.int (g i) s.toks) {s with toks:=s.toks+1}->Qv (Qw X.prog X.w) X.A (f (.int i t)) Q E s):
 t7 X f (rU λi=>.int (g i)):=by
 intro Sb s σ H x v Q I rx h;obtain⟨i,rfl,q⟩:=h;obtain⟨t,rfl⟩:=rx;exact rule i t s _ _ ⟨.int (g i),H,I.tok _,⟨_,rfl⟩,q⟩
theorem wC:t7 X (unaryOp .USub) (rU λi=>.int (-i)):=Cp λ_ _ _ _ _ q=>neg_int q
end
def oO:V->V->Bool
 | .non,.non=>true | .non,.int _=>true | .int _,.non=>true | .non,.bl _=>true | .bl _,.non=>true | .non,.str _=>true | .str _,.non=>true
 | .int _,.int _=>true | .bl _,.bl _=>true | .str _,.str _=>true | .byt _,.byt _=>true
 | .int _,.str _=>true | .str _,.int _=>true | .bl _,.str _=>true | .str _,.bl _=>true
 | _,_=>false
section
variable {X:Cx} {a b c:Qx} {ta tb tc:TE} {pos:Pos}
theorem mO{Sb:List (Qs×Obj)}{σ:St}{H:Hp}{s:Qt}{Q:VK}{k k':Bool}(I:aa X Sb σ H s)(q:Q (.bl k) H)(e:k=k'):EP X Sb σ Q (.bool k') s:=by
 subst e;exact⟨.bl k,H,I,rfl,q⟩
theorem mP:bz X (QO .Lt) (ft λi j=>.bl (decide (i < j))):=qX λ_ _ _ _ _ _ _ q=>lt_int q
theorem wD:bz X (QO .LtE) (ft λi j=>.bl (decide (i<=j))):=qX λ_ _ _ _ _ _ _ q=>le_int q
theorem qZ:bz X (QO .Gt) (ft λi j=>.bl (decide (j < i))):=qX λ_ _ _ _ _ _ _ q=>gt_int q
theorem Cq:bz X (QO .GtE) (ft λi j=>.bl (decide (j<=i))):=qX λ_ _ _ _ _ _ _ q=>ge_int q
theorem ua:bz X (QO .Is) (λx y H Q=>y= .non/\Q (.bl (decide (x= .non))) H):=by
 intro Sb s σ H x y v u Q I rx ry h;obtain⟨rfl,q⟩:=h;cases ry;refine is_none_gen (mO I q ?_);cases x <;> first
  | (cases rx;rfl)
  | (obtain⟨t,rfl⟩:=rx;rfl)
theorem aI(b:Qx){op:CmpOp}(h:op≠ .In:=by decide)(h2:op≠ .NotIn:=by decide):QW op b=false:=by
 have e1:(op==CmpOp.In)=false:=by cases op <;> first | rfl | exact absurd rfl h
 have e2:(op==P4)=false:=by cases op <;> first | rfl | exact absurd rfl h2
 cases b <;> simp [QW,e1,e2]
theorem Cr{op:CmpOp}{r:R2}(ho:bz X (QO op) r)(ha:PE X a ta)(hb:PE X b tb)(hm:QW op b=false):PE X (.Compare a [op] [b] pos) (nY r ta tb):=by
 intro Sb s σ H Q I h;exact wpAny_Compare1 (t9 ha hb I h λv u s2 x y H2 I2 rx ry q=>ho Sb s2 σ H2 x y v u Q I2 rx ry q) hm
def uc(t:TE):TT:=λσ H Q=>t σ H λx H'=>∃k,x= .bl k/\Q k H'
theorem Cs{op:CmpOp}{r:R2}(ho:bz X (QO op) r)(ha:PE X a ta)(hb:PE X b tb)(hm:QW op b=false):PT X (.Compare a [op] [b] pos) (uc (nY r ta tb)):=by
 intro Sb s σ H Q I h;refine wpAny_isTrue_Compare1 (ar (ha Sb s σ H _ I h) λv s1 ⟨x,H1,I1,r1,q1⟩=>ar (hb Sb s1 σ H1 _ I1 q1) λu s2 ⟨y,H2,I2,r2,q2⟩=>
  ar (ho Sb s2 σ H2 x y v u _ I2 r1 r2 q2) λc s3 ⟨z,H3,I3,r3,k,e,q3⟩=>?_) hm
 subst e;cases r3;exact QX ⟨H3,I3,q3⟩
theorem q5:(Qz:Nat) < 2 ^ 63:=by rw [QK];decide
theorem rg:bz X (Q9 .Add) (λx y H Q=>∃i j,x= .str i/\y= .str j/\i.length+j.length<=Qz/\Q (.str (i++j)) H):=by
 intro Sb s σ H x y v u Q I rx ry h;obtain⟨i,j,rfl,rfl,hz,q⟩:=h;obtain⟨t,rfl⟩:=rx;obtain⟨t',rfl⟩:=ry;exact add_str (λt' tk=>⟨.str (i++j),H,I.tok _,⟨_,rfl⟩,q⟩) hz
theorem dR{x:V}{us:List Qr}(r:aA [x] us):∃u,us=[u]/\ay x u:=by
 cases r with
 | cons r1 r2=>cases r2;exact⟨_,rfl,r1⟩
theorem p7{x y:V}{us:List Qr}(r:aA [x,y] us):∃u w',us=[u,w']/\ay x u/\ay y w':=by
 cases r with
 | cons r1 r2=>
  cases r2 with
  | cons r3 r4=>cases r4;exact⟨_,_,rfl,r1,r3⟩
theorem Ct:cj X (.builtin "abs") (λxs H Q=>∃i,xs=[.int i]/\Q (.int (if i < 0 then -i else i)) H):=by
 intro Sb s σ H xs us Q I r h;obtain⟨i,rfl,q⟩:=h;obtain⟨u,rfl,t,rfl⟩:=dR r;exact call_abs_int λu tk=>⟨.int (if i < 0 then -i else i),H,I.tok _,⟨_,rfl⟩,q⟩
theorem Cu(hc:X.calm=true):cj X (.builtin "max") (λxs H Q=>∃i j,xs=[.int i,.int j]/\Q (.int (if j > i then j else i)) H):=by
 intro Sb s σ H xs us Q I r h;obtain⟨i,j,rfl,q⟩:=h;obtain⟨u,w',rfl,⟨t,rfl⟩,⟨t',rfl⟩⟩:=p7 r;refine max_two_ints (I.ok.hd hc) λh' tk k=>⟨_,H,I.kept k,?_,q⟩;by_cases hj:j > i
 ·rw [Ql hj,Ql hj];exact⟨_,rfl⟩
 ·rw [Qk hj,Qk hj];exact⟨_,rfl⟩
theorem Cv(hc:X.calm=true):cj X (.builtin "min") (λxs H Q=>∃i j,xs=[.int i,.int j]/\Q (.int (if j < i then j else i)) H):=by
 intro Sb s σ H xs us Q I r h;obtain⟨i,j,rfl,q⟩:=h;obtain⟨u,w',rfl,⟨t,rfl⟩,⟨t',rfl⟩⟩:=p7 r;refine min_two_ints (I.ok.hd hc) λh' tk k=>⟨_,H,I.kept k,?_,q⟩;by_cases hj:j < i
 ·rw [Ql hj,Ql hj];exact⟨_,rfl⟩
 ·rw [Qk hj,Qk hj];exact⟨_,rfl⟩
theorem wF:cj X (.type "int") (λxs H Q=>(∃i,xs=[.int i]/\Q (.int i) H)\/∃k,xs=[.bl k]/\Q (.int (if k then 1 else 0)) H):=by
 intro Sb s σ H xs us Q I r h;rcases h with⟨i,rfl,q⟩ | ⟨k,rfl,q⟩
 ·obtain⟨u,rfl,t,rfl⟩:=dR r;exact call_int_int ⟨.int i,H,I,⟨_,rfl⟩,q⟩
 ·obtain⟨u,rfl,r1⟩:=dR r;cases r1;exact call_int_bool ⟨.int (if k then 1 else 0),H,I.tok _,⟨_,rfl⟩,q⟩
end
theorem fq.some_of{v:V}{o:Option Qr}(r:fq (some v) o):∃u,o=some u/\ay v u:=by
 cases o with
 | none=>exact(show False from r).elim
 | some u=>exact⟨u,rfl,r⟩
structure aP (k:Nat) (A:QF):Prop where
 hd:A.handled=none
 dp:A.depth+3*k+5 < recursionLimit
 un:A.units+16*k+200 < QV
theorem aP.mono{j k:Nat}{A:QF}(r:aP k A)(h:j<=k):aP j A:=⟨r.hd,by have:=r.dp;omega,by have:=r.un;omega⟩
theorem aP.deeper{k:Nat}{A:QF}(r:aP (k+1) A)(env:Env):aP k (A.deeper env):=
 ⟨r.hd,by have:=r.dp;show A.depth+1+3*k+5 < _;omega,by have:=r.un;show A.units+3+16*k+200 < _;omega⟩
theorem aP.in1{k:Nat}{A:QF}(r:aP (k+1) A):aP k A.in1:=
 ⟨r.hd,by have:=r.dp;show A.depth+3*k+5 < _;omega,by have:=r.un;show A.units+1+16*k+200 < _;omega⟩
theorem aP.depth{k:Nat}{A:QF}(r:aP k A):A.depth < recursionLimit:=by have:=r.dp;omega
theorem aP.units{k:Nat}{A:QF}(r:aP k A):A.units+64 < QV:=by have:=r.un;omega
theorem aP.units0{k:Nat}{A:QF}(r:aP k A):A.units < QV:=by have:=r.un;omega
def ue:TA:=λ_ H Q=>Q [] H
def uf(ta:TE)(tr:TA):TA:=λσ H Q=>ta σ H λx H1=>tr σ H1 λxs H2=>Q (x::xs) H2
section
variable {X:Cx} {e:Qx} {es:List Qx} {te:TE} {t:TA} {pos:Pos}
theorem eG:PA X [] ue:=λ_ _ _ _ H Q I h=>NQ ⟨[],H,I,.nil,h⟩
theorem bP(ha:PE X e te)(hr:PA X es t)(hs:Qy (e::es) X.env=(false,eval e X.env)::Qy es X.env:=by rfl):PA X (e::es) (uf te t):=by
 intro pos Sb s σ H Q I h;rw [hs];show Qv _ _ (spliced ((false,eval e X.env)::QN pos (Qy es X.env))) _ _ s;refine NH (ar (ha Sb s σ H _ I h) λu s1 ⟨x,H1,I1,r1,q1⟩=>?_);exact ar (hr pos Sb s1 σ H1 _ I1 q1) λus s2 uu35=>by obtain⟨xs,H2,I2,r2,q2⟩:=uu35;exact⟨x::xs,H2,I2,.cons r1 r2,q2⟩
def ug(t:TA):TE:=λσ H Q=>t σ H λxs H1=>xs.length<=Qz/\∀p,H1 p=none->Q (.ref p) (ao H1 p (.tup xs))
def uh(t:TA):TE:=λσ H Q=>t σ H λxs H1=>xs.length<=Qz/\∀p,H1 p=none->Q (.ref p) (ao H1 p (.lst xs))
theorem wG{x1}(h:PA X es t):PE X (.Tuple es x1 pos) (ug t):=by
 intro Sb s σ H Q I hq;refine wpAny_Tuple_spliced (ar (h pos Sb s σ H _ I hq) λus s1 ⟨xs,H1,I1,r,z,q⟩=>⟨by rw [<-r.length];exact z,?_⟩);have hf:H1 s1.heap.objs.size=none:=I1.hok.fresh (Jy _);refine⟨.ref s1.heap.objs.size,ao H1 s1.heap.objs.size (.tup xs),I1.laid (t':=s1.toks) (λb u e=>Jx _ e) (Jy _) ?_,rfl,q _ hf⟩;exact⟨z,us,r,⟨_,JR _ rfl,rfl,_,rfl⟩⟩
theorem Cw(h:PA X es t):PE X (.List es pos) (uh t):=by
 intro Sb s σ H Q I hq;refine wpAny_List_spliced (ar (h pos Sb s σ H _ I hq) λus s1 ⟨xs,H1,I1,r,z,q⟩=>⟨by rw [<-r.length];exact z,?_⟩);have hf:H1 s1.heap.objs.size=none:=I1.hok.fresh (Jy _);refine⟨.ref s1.heap.objs.size,ao H1 s1.heap.objs.size (.lst xs),I1.laid (t':=s1.toks) (λb u e=>Jx _ e) (Jy _) ?_,rfl,q _ hf⟩;exact⟨z,us,0,r,JR _ rfl⟩
end
abbrev Sp:=List V->Hp->VK->XK->Prop
abbrev dz:=List Env->Hp->Qt->XK->Qr->Qt->Prop
structure nA (P:QA) (w:QE) (K:Ju) (mg:Str->Option Qr) (base:QB) (A:QF) (outer:List Env) (s:Qt) (H:Hp):Prop where
 frames:A.frames=some outer
 mod:Mod K mg base
 bs:∀b o,base.get? b=some o->s.heap.get? b=some o/\H b=none
 bsz:base.objs.size<=s.heap.objs.size
 funs:s.heap.FunFrames base outer
 frf:∀b∈aD outer,H b=none
 hok:aW P w H s.heap
 bare:Rx s.gens
def CE(outer:List Env)(P:QA)(w:QE)(H:Hp)(s:Qt)(Q:VK)(u:Qr)(s':Qt):Prop:=
 ∃v H',s'.os=s.os/\Rx s'.gens/\Un (aD outer) [] H H' s.heap s'.heap/\aW P w H' s'.heap/\ay v u/\Q v H'
def CR(CX:dz)(outer:List Env)(P:QA)(w:QE)(H:Hp)(s:Qt)(Q:VK)(E:XK)(r:Result)(s':Qt):Prop:=
 match r with
 | .ok (.ret u)=>CE outer P w H s Q u s'
 | .ok _=>False
 | .error e=>CX outer H s E e s'
structure aB (P:QA) (w:QE) (K:Ju) (mg:Str->Option Qr) (base:QB) (CX:dz) (k:Nat) (f:Qs) (fd:QC) (ps:List Str) (sp:Sp):Prop where
 len:∀vs H Q E,sp vs H Q E->vs.length=ps.length
 run:∀(A:QF)(outer:List Env)(s:Qt)(H:Hp)(args:Args)(us:List Qr)(vs:List V)(Q:VK)(E:XK),aP k A->nA P w K mg base A outer s H->BindsTo s fd args (ps.zip us)->aA vs us->sp vs H Q E->
  Rc (Qw P w) A (.call (.ref f) args) (CR CX outer P w H s Q E) s
theorem aB.imp{P:QA}{w:QE}{K:Ju}{mg:Str->Option Qr}{base:QB}{CX:dz}{k:Nat}{f:Qs}{fd:QC}{ps:List Str}{sp sp':Sp}(F:aB P w K mg base CX k f fd ps sp)
 (h:∀vs H Q E,sp' vs H Q E->sp vs H Q E):aB P w K mg base CX k f fd ps sp':=
 ⟨λvs H Q E q=>F.len vs H Q E (h _ _ _ _ q),λA outer s H args us vs Q E hr he hb hv hs=>F.run A outer s H args us vs Q E hr he hb hv (h _ _ _ _ hs)⟩
theorem nA.in1{P:QA}{w:QE}{K:Ju}{mg:Str->Option Qr}{base:QB}{A:QF}{outer:List Env}{s:Qt}{H:Hp}(e:nA P w K mg base A outer s H):
 nA P w K mg base A.in1 outer s H:=⟨e.frames,e.mod,e.bs,e.bsz,e.funs,e.frf,e.hok,e.bare⟩
section
variable {X:Cx} {Sb:List (Qs×Obj)} {σ:St} {H:Hp} {s s':Qt}
theorem aa.env0(I:aa X Sb σ H s):nA X.prog X.w X.K X.mg X.base X.A X.stack s H:=
 ⟨I.ok.frames,I.ok.mod,I.bs,Km I.ok.bsz I.sz,I.stack,I.stkFree,I.hok,I.bare⟩
theorem aa.after{Q:VK}{u:Qr}(I:aa X Sb σ H s)(h:CE X.stack X.prog X.w H s Q u s'):EP X Sb σ Q u s':=by
 obtain⟨v,H',os,bare,un,hok,r,q⟩:=h;obtain⟨hh,g,d,t,os'⟩:=s';obtain rfl:os'=s.os:=os;exact⟨v,H',I.call (h':=hh) (g':=g) (d':=d) (t':=t) (ch:=[]) un hok bare (λb z=>absurd z Qo),r,q⟩
end
def p8(sp:Sp)(dvs:List V)(E:XK)(t:TA):TE:=λσ H Q=>t σ H λvs H1=>sp (vs++dvs) H1 Q E
def dA(K:Ju)(fd:QC)(ps:List Str)(ds:List Qr):Prop:=
 ∀(s:Qt)(us:List Qr),K.In s.heap->(us++ds).length=ps.length->BindsTo s fd ⟨us,[]⟩ (ps.zip (us++ds))
theorem dA.all{K:Ju}{fd:QC}{ps:List Str}(h:∀us:List Qr,us.length=ps.length->bindArgs fd ⟨us,[]⟩=pure (ps.zip us)):dA K fd ps []:=λs us _ hl=>by
 rw [J5] at hl⊢;exact .of_eq (h us hl)
def p9(CX:dz)(X:Cx)(E:XK):Prop:=∀(Sb:List (Qs×Obj))(σ:St)(H:Hp)(s:Qt)(e:Qr)(s':Qt),aa X Sb σ H s->CX X.stack H s E e s'->X.xe e s'
section
variable {X:Cx} {CX:dz} {k:Nat} {f C:Qs} {fd:QC} {ps:List Str} {sp:Sp} {dvs:List V} {ds:List Qr} {E:XK} {x m:Str} {p pos apos:Pos} {e o:Qx} {es:List Qx} {ta:TE} {t:TA}
theorem Cy{Sb:List (Qs×Obj)}{σ:St}{H:Hp}{s:Qt}{Q:VK}{us:List Qr}{vs:List V}(F:aB X.prog X.w X.K X.mg X.base CX k f fd ps sp)(hr:aP k X.A)(hb:dA X.K fd ps ds)(hd:aA dvs ds)(hx:p9 CX X E)
 (I:aa X Sb σ H s)(r:aA vs us)(h:sp (vs++dvs) H Q E):Qv (Qw X.prog X.w) X.A (call (.ref f) us) (EP X Sb σ Q) X.xe s:=by
 have r2:aA (vs++dvs) (us++ds):=r.append hd;have hl:(us++ds).length=ps.length:=by rw [<-r2.length];exact F.len _ _ _ _ h
 refine wpAny_call (Q2 (F.run X.A X.stack s H ⟨us,[]⟩ (us++ds) (vs++dvs) Q E hr I.env0 (hb s us I.kIn hl) r2 h) λr s' hq=>?_);cases r with
 | error e=>exact hx Sb σ H s e s' I hq
 | ok fl=>
  cases fl with
  | ret u=>exact I.after hq
  | next=>exact K6 hq
  | brk=>exact K6 hq
  | cont=>exact K6 hq
theorem ui(F:aB X.prog X.w X.K X.mg X.base CX k f fd ps sp)(hr:aP k X.A)(hg:Gl X x)(hm:X.mg x=some (.ref f))(hk:MH X.K (.ref f)=true)(hb:dA X.K fd ps ds)(hd:aA dvs ds)(hx:p9 CX X E)
 (ha:PA X (e::es) t)(hdb:(x==("__debug__":Str))=false:=by decide)(he:Qy (e::es) X.env=(false,eval e X.env)::Qy es X.env:=by rfl)(hpl:(QN pos (Qy es X.env)).any (·.1)=false:=by rfl):
 PE X (.Call (.Name x p) (e::es) [] pos) (p8 sp dvs E t):=by
 intro Sb s σ H Q I h;refine Q3 (oH I hg hm ?_ hdb);refine OM (h₀:=X.base) I.ok.mod.kin hk (ar (ha pos Sb s σ H _ I h) λus s1 ⟨vs,H1,I1,r,q⟩=>⟨I1.kIn,?_⟩) he hpl;exact Cy F hr hb hd hx I1 r q
end
section
variable {X:Cx} {CX:dz} {k:Nat} {f C:Qs} {fd:QC} {ps ks:List Str} {sp:Sp} {E:XK} {x m:Str} {p pos apos kpos:Pos} {e o:Qx} {es:List Qx} {kws:List Rf} {te ta:TE} {t tk:TA} {nm:Option Str}
variable {g:List Qr->List Qr->List Qr} {gV:List V->List V->List V}
end
structure bj (N P:List Str) (sc:QP):Prop where
 kind:sc.kind= .function
 co:sc.isCoroutine=false
 gen:sc.isGenerator=false
 nd:N.Nodup
 pre:N.take P.length=P
 par:∀x∈P,sc.names.lookup x=some .local\/sc.names.lookup x=some .cell
 nofree:∀y∈sc.names,y.2≠ .free
theorem wH{kindOf:Str->Option QZ}{x:Str}:∀{binds:List (Str×Qr)}{m:Str->Option Qr},(∀v,(x,v)∉ binds)->bindL kindOf binds m x=m x
 | [],_,_=>rfl
 | (n,v)::r,m,h=>by
  unfold bindL;rw [wH λw hw=>h w (Ka _ hw)];split
  ·have:x≠n:=by rintro rfl;exact h v Lj
   simp [this]
  ·rfl
theorem wI{kindOf:Str->Option QZ}{x:Str}:∀{binds:List (Str×Qr)}{m:Str->Option Qr},(∀v,(x,v)∉ binds)->bindC kindOf binds m x=m x
 | [],_,_=>rfl
 | (n,v)::r,m,h=>by
  unfold bindC;rw [wI λw hw=>h w (Ka _ hw)];split
  ·rfl
  ·have:x≠n:=by rintro rfl;exact h v Lj
   simp [this]
theorem wJ{kindOf:Str->Option QZ}{x:Str}{v:Qr}:∀{P:List Str}{vs:List Qr}{i:Nat}{m:Str->Option Qr},P.Nodup->P[i]?=some x->vs[i]?=some v->kindOf x=some .local->
 bindL kindOf (P.zip vs) m x=some v
 | [],_,_,_,_,h,_,_=>by simp at h
 | _::_,[],_,_,_,_,h,_=>by simp at h
 | p::P,w::vs,0,m,nd,h1,h2,hk=>by
  simp at h1 h2;subst h1;subst h2;show bindL kindOf ((p,w)::P.zip vs) m p=_;unfold bindL;rw [wH λv hv=>(LL.mp nd).1 (Oc hv).1,Ql hk];simp
 | p::P,w::vs,i+1,m,nd,h1,h2,hk=>by
  show bindL kindOf ((p,w)::P.zip vs) m x=_;unfold bindL;exact wJ (i:=i) (LL.mp nd).2 (by simpa using h1) (by simpa using h2) hk
theorem wK{kindOf:Str->Option QZ}{x:Str}{v:Qr}:∀{P:List Str}{vs:List Qr}{i:Nat}{m:Str->Option Qr},P.Nodup->P[i]?=some x->vs[i]?=some v->kindOf x≠some .local->
 bindC kindOf (P.zip vs) m x=some v
 | [],_,_,_,_,h,_,_=>by simp at h
 | _::_,[],_,_,_,_,h,_=>by simp at h
 | p::P,w::vs,0,m,nd,h1,h2,hk=>by
  simp at h1 h2;subst h1;subst h2;show bindC kindOf ((p,w)::P.zip vs) m p=_;unfold bindC;rw [wI λv hv=>(LL.mp nd).1 (Oc hv).1,Qk hk];simp
 | p::P,w::vs,i+1,m,nd,h1,h2,hk=>by
  show bindC kindOf ((p,w)::P.zip vs) m x=_;unfold bindC;exact wK (i:=i) (LL.mp nd).2 (by simpa using h1) (by simpa using h2) hk
def start(N:List Str)(vs:List V):St:=vs.map some++JU (N.length - vs.length) none
def bo(CX:dz)(P:QA)(w:QE)(K:Ju)(mg:Str->Option Qr)(base:QB)(N:List Str)(qual:Str)(scope:QP)(f:Qs)(cd:Qr)(A:QF)(outer:List Env)(s:Qt)(H:Hp)(E:XK):Cx where
 prog:=P
 w:=w
 K:=K
 mg:=mg
 base:=base
 A:=A.deeper (Rj qual scope s.heap.objs.size f cd)
 N:=N
 s₀:=s
 H₀:=H
 env:=Rj qual scope s.heap.objs.size f cd
 outer:=outer
 stack:=Rj qual scope s.heap.objs.size f cd::outer
 ex:=[]
 calm:=true
 fn:=λ_=>true
 pn:=[]
 xe:=λe s'=>Qv (Qw P w) (A.deeper (Rj qual scope s.heap.objs.size f cd)) (leaving (Rj qual scope s.heap.objs.size f cd) e) (λ_ s''=>CX outer H s E e s'') (λe' s''=>CX outer H s E e' s'') s'
theorem wL{sc:QP}{n:Nat}{x:Str}(h:sc.names.lookup x=some .cell):∃c,(QY n sc.names []).lookup x=some c:=by
 have q:=Nh sc.names n [] (.inl h);exact Mi.mp q
theorem Cz{CX:dz}{P:QA}{w:QE}{K:Ju}{mg:Str->Option Qr}{base:QB}{N ps:List Str}{qual:Str}{scope:QP}{f:Qs}{cd:Qr}{A:QF}{outer:List Env}{s s1:Qt}{H:Hp}{E:XK}{us:List Qr}{vs:List V}
 (S:bj N ps scope)(hd:A.handled=none)(e0:nA P w K mg base A outer s H)(hl:vs.length=ps.length)(r:aA vs us)
 (x:InCallC s s.heap.objs.size (bindL (Rj qual scope s.heap.objs.size f cd).kindOf (ps.zip us) λ_=>none) (QY (s.heap.objs.size+1) scope.names []) (bindC (Rj qual scope s.heap.objs.size f cd).kindOf (ps.zip us) λ_=>none) s1):
 aa (bo CX P w K mg base N qual scope f cd A outer s H E) [] (start N vs) H s1:=by
 have hpl:ps.length<=N.length:=by have:=congrArg O9 S.pre;rw [Kw] at this;omega
 obtain⟨h1,tk,rfl,hk⟩:=x.done;have noA:∀b:Qs,b ∉ (bo CX P w K mg base N qual scope f cd A outer s H E).ex:=λb z=>absurd (show b∈([]:List Qs) from z) Qo;refine⟨⟨e0.mod,S.kind,rfl,rfl,Jy _,λy z c h1 h2=>?_,λy hy=>?_,λy c _ h=>?_,λ_=>hd,Oq e0.frames,.inr ⟨rfl,rfl⟩,λb z=>absurd z (noA b),e0.bs,e0.bsz,λb _ _=>noA b,λb z=>absurd z (noA b),e0.funs,e0.frf⟩,
  rfl,e0.bare,Un.kept hk,⟨_,x.toInCall.ns,λi y v h1 h2 h3=>?_⟩,λy c h=>⟨_,x.cell y c h⟩,e0.hok.fresh (Jy _),λy c h=>?_,λp hp=>absurd (show p∈([]:List (Qs×Obj)) from hp) Qo,e0.hok.kept hk,?_⟩
 ·exact name_of_addr x.apart (K7 h1) (K7 h2)
 ·have hy:scope.names.lookup y=some .cell\/scope.names.lookup y=some .free:=hy;rcases hy with hy | hy
  ·exact wL hy
  ·exact absurd rfl (S.nofree _ (K7 hy))
 ·exact Ms (x.above y c (K7 h))
 ·have hi:i < vs.length:=by
   unfold start at h2;by_cases hi:i < vs.length
   ·exact hi
   ·rw [MA (by simpa using hi)] at h2;rw [MN] at h2;split at h2 <;> cases h2
  have ha:vs[i]?=some v:=by
   unfold start at h2;rw [Me (by simpa using hi),JD] at h2;cases e:vs[i]? with
   | none=>rw [e] at h2;cases h2
   | some a=>rw [e] at h2;cases h2;rfl
  obtain⟨u,hu,rv⟩:=r.get ha;have hp:ps[i]?=some y:=by
   rw [<-S.pre,List.getElem?_take_of_lt Qj];exact h1
  have ndP:ps.Nodup:=by rw [<-S.pre];exact S.nd.sublist (NS _ _)
  refine⟨u,rv,?_⟩;rcases S.par y (JQ hp) with k | k
  ·exact .inl ⟨k,wJ ndP hp hu k⟩
  ·obtain⟨c,e⟩:=wL (n:=s.heap.objs.size+1) k;refine .inr ⟨.inl k,c,e,?_⟩;have q:=x.cell y c e;rw [wK ndP hp hu (by show scope.names.lookup y≠_;rw [k];decide)] at q;exact q
 ·exact e0.hok.fresh (Ms (x.above y c (K7 h)))
 ·unfold start;show _=N.length;rw [Kg,Jv,Mz];omega
theorem uj{CX:dz}{P:QA}{w:QE}{K:Ju}{mg:Str->Option Qr}{base:QB}{k:Nat}{f:Qs}{name qual:Str}{params:RX}{body:List QH}{scope:QP}{dV kV doc pm cdv ct oc:Qr}{an od:Option Qs}
 {osl:Array (Option Qr)}{N ps:List Str}{sp:Sp}(lk:K.lookup f=some ⟨oc,od,.func (Mv name qual params body scope dV kV doc pm an cdv ct),osl⟩)(hcd:NB K cdv qual=true)(S:bj N ps scope)
 (len:∀vs H Q E,sp vs H Q E->vs.length=ps.length)
 (hbody:∀(A:QF) (outer:List Env) (s:Qt) (H:Hp) (vs:List V) (Q:VK) (E:XK),aP k (A.deeper (Rj qual scope s.heap.objs.size f cdv))->sp vs H Q E->
   ∃t,bu (bo CX P w K mg base N qual scope f cdv A outer s H E) body t/\t {nx:=λ_ H'=>Q .non H',rt:=Q} (start N vs) H):
 aB P w K mg base CX (k+1) f (Mv name qual params body scope dV kV doc pm an cdv ct) ps sp:=by
 refine⟨len,λA outer s H args us vs Q E hr e0 hb r hsp=>?_⟩;have hl:=len _ _ _ _ hsp;have KX:K.In s.heap:=e0.mod.kin.keeps λb o e=>(e0.bs b o e).1;have lim:s.heap.NoLimit:=e0.mod.nolimit.keeps λb o e=>(e0.bs b o e).1;have hkind:∀y∈ps.zip us,scope.names.lookup y.1=some .local\/(scope.names.lookup y.1=some .cell/\((QY (s.heap.objs.size+1) scope.names []).lookup y.1).isSome=true):=λuu39 hy=>by
  obtain⟨n,v⟩:=uu39;rcases S.par n (Oc hy).1 with q | q
  ·exact .inl q
  ·exact .inr ⟨q,Nh _ _ _ (.inl q)⟩
 refine codeAny_call_function hr.depth (KX _ _ lk) rfl S.co S.gen rfl (PySem.W.codeRec_of KX hcd) (hb _ _ _ _ ?_);refine wpAny_newFunctionEnv_cells S.kind hkind λenv he s1 x=>?_;subst he;refine⟨lim.keeps x.toInCall.keep,codeAny_func ?_⟩;obtain⟨t,ht,hq⟩:=hbody A outer s H vs Q E (hr.deeper _) hsp;have I:aa (bo CX P w K mg base N qual scope f cdv A outer s H E) [] (start N vs) H s1:=Cz S hr.hd e0 hl r x;refine QM (ht [] s1 (start N vs) H _ I hq) (λfl s' hs=>?_) λe s' hs=>hs;have fin:∀{σ':St}{H':Hp}{v:V}{u:Qr},aa (bo CX P w K mg base N qual scope f cdv A outer s H E) [] σ' H' s'->ay v u->Q v H'->CE outer P w H s Q u s':=
  λ{σ' H' v u} J rv q=>⟨v,H',J.os,J.bare,J.base,J.hok,rv,q⟩
 cases fl with
 | ret u=>
  obtain⟨v,σ',H',J,rv,q⟩:=hs;exact fin J rv q
 | next=>
  obtain⟨σ',H',J,q⟩:=hs;exact fin (v:=V.non) (u:=Mg) J rfl q
 | brk=>
  obtain⟨_,_,_,q⟩:=hs;exact K6 q
 | cont=>
  obtain⟨_,_,_,q⟩:=hs;exact K6 q
section
variable {X:Cx} {x:Str} {p pos:Pos} {e:Qx} {es:List Qx} {t:TA} {id T:String} {r:List V->Hp->VK->Prop}
def qa(r:List V->Hp->VK->Prop)(t:TA):TE:=λσ H Q=>t σ H λvs H1=>r vs H1 Q
theorem bI(hc:cj X (.builtin id) r)(hg:Gl X x)(hm:X.mg x=none)(hv:QL x=some (.builtin id))(ha:PA X (e::es) t)(hn:x≠"__name__":=by decide)(hdb:(x==("__debug__":Str))=false:=by decide)
 (he:Qy (e::es) X.env=(false,eval e X.env)::Qy es X.env:=by rfl)(hpl:(QN pos (Qy es X.env)).any (·.1)=false:=by rfl):PE X (.Call (.Name x p) (e::es) [] pos) (qa r t):=by
 intro Sb s σ H Q I h;refine Q3 (pQ I hg hm hv ?_ hn hdb);exact PyProof.Rows.callWith_builtin1 (ar (ha pos Sb s σ H _ I h) λus s1 uu40=>by obtain⟨vs,H1,I1,r1,q1⟩:=uu40;exact hc Sb s1 σ H1 vs us Q I1 r1 q1) he hpl
theorem nc(hc:cj X (.type T) r)(hg:Gl X x)(hm:X.mg x=none)(hv:QL x=some (.type T))(ha:PA X (e::es) t)(hn:x≠"__name__":=by decide)(hdb:(x==("__debug__":Str))=false:=by decide)
 (he:Qy (e::es) X.env=(false,eval e X.env)::Qy es X.env:=by rfl)(hpl:(QN pos (Qy es X.env)).any (·.1)=false:=by rfl):PE X (.Call (.Name x p) (e::es) [] pos) (qa r t):=by
 intro Sb s σ H Q I h;refine Q3 (pQ I hg hm hv ?_ hn hdb);exact NG (ar (ha pos Sb s σ H _ I h) λus s1 uu41=>by obtain⟨vs,H1,I1,r1,q1⟩:=uu41;exact hc Sb s1 σ H1 vs us Q I1 r1 q1) he hpl
end
end L2
namespace HT
open PySem PyProof.Rows
def lexLt:List Int->List Int->Bool
 | [],[]=>false
 | [],_::_=>true
 | _::_,[]=>false
 | x::xs,y::ys=>if x=y then lexLt xs ys else decide (x < y)
theorem eqAt_int(A:QF)(s:Qt)(a:Int)(t:Tok)(c:Int)(u:Tok):∃e,SeqAt.EqAt A s (.int a t) (.int c u) e/\(e=true↔a=c):=
 ⟨(a==c),SeqAt.EqAt.int_int a t c u,Qo⟩
theorem rcLt_int(A:QF)(s:Qt)(a:Int)(t:Tok)(c:Int)(u:Tok)(prog:QA)(w:QE)(E:Qr->Qt->Prop)(Q:Qr->Qt->Prop)(h:Q (.bool (decide (a < c))) s):
 Qv (Qw prog w) A (richCompare .Lt (.int a t) (.int c u)) Q E s:=
 (PyProof.Rows.lt_int h:Qv (Qw prog w) A (QO .Lt (.int a t) (.int c u)) Q E s)
section
open PySem.SeqAt
open PySem.AutoSeq1 (wpAny_loadPart')
open PySem.MeetsSeq PySem.MeetsSeq2 PySem.MeetsSeq3
end
section
variable {prog:QA} {w:QE} {A:QF} {E:Qr->Qt->Prop} {s:Qt}
def sIx(n d:Nat):Option Int->Nat
 | none=>d
 | some v=>if v < 0 then(v+(n:Int)).toNat else min v.toNat n
theorem rj(n d:Nat):sIx n d none=d:=rfl
theorem sIx_nat(n d k:Nat):sIx n d (some (k:Int))=min k n:=by
 show(if (k:Int) < 0 then((k:Int)+(n:Int)).toNat else min (k:Int).toNat n)=min k n;rw [Qk Qj,L4]
theorem CA(n d:Nat)(hd:d<=n)(o:Option Int):sIx n d o<=n:=by
 cases o with
 | none=>exact hd
 | some v=>
  show(if v < 0 then(v+(n:Int)).toNat else min v.toNat n)<=n;by_cases hv:v < 0
  ·rw [Ql hv];omega
  ·rw [Qk hv];exact Pb _ _
theorem wM(v:Int)(n d:Nat):(if v < 0 then max (v+(n:Int)) 0 else min v (n:Int))=((sIx n d (some v):Nat):Int):=by
 show(if v < 0 then max (v+(n:Int)) 0 else min v (n:Int))=(((if v < 0 then(v+(n:Int)).toNat else min v.toNat n):Nat):Int);by_cases hv:v < 0
 ·simp only [Ql hv];omega
 ·simp only [Qk hv];omega
theorem CB(lo hi:Option Int)(n:Nat):LN lo hi 1 (n:Int)=(((sIx n 0 lo:Nat):Int),((sIx n n hi:Nat):Int)):=by
 have h1:¬((1:Int) < 0):=Qj
 unfold LN;simp only [h1,if_false];refine Prod.ext ?_ ?_
 ·cases lo with
  | none=>rfl
  | some v=>exact wM v n 0
 ·cases hi with
  | none=>rfl
  | some v=>exact wM v n n
theorem CC(i j:Nat):K1 (i:Int) (j:Int) 1=j - i:=by
 unfold K1;have h1:(1:Int) > 0:=Qj
 simp only [h1,if_true,PN];split <;> omega
theorem wN{v:Qr}{o:Option Int}{Q:Option Int->Qt->Prop}(p:IsPart v o)(h:Q o s):Qv (Qw prog w) A (Builtin.Slice.slicePartIndex v) Q E s:=by
 cases p with
 | none=>exact RQ h
 | int i t=>exact slicePart_int h
theorem sliceApplied_gen{sl:Qs}{vl vu:Qr}{lo hi:Option Int}{n:Nat}{Q:Int×Int×Nat->Qt->Prop}(hs:s.heap.IsSliceOf sl vl vu .none)(pl:IsPart vl lo)(pu:IsPart vu hi)
 (h:Q (((sIx n 0 lo:Nat):Int),1,sIx n n hi - sIx n 0 lo) s):Qv (Qw prog w) A (MB (.ref sl) (pure (n:Int))) Q E s:=by
 obtain⟨os,hos,hcs,hds⟩:=id hs;unfold MB NX;refine Qq (Qq (RB hos hds (x:=vl) rfl (Qq (RB hos hds (x:=vu) rfl (Qq (RB hos hds (x:= .none) rfl (Qu ?_)))))));refine Qq (RQ ?_);show Qv _ _ (if ((1:Int)==0)=true then _ else _) _ _ s;rw [Qk Qi];refine Qq (wN pl (Qq (wN pu (Qq (Qu ?_)))));show Qv _ _ (match LN lo hi 1 (n:Int) with | (lo,hi)=>pure (lo,(1:Int),K1 lo hi 1)) _ _ s;rw [CB lo hi n];show Qv _ _ (pure (((sIx n 0 lo:Nat):Int),(1:Int),K1 ((sIx n 0 lo:Nat):Int) ((sIx n n hi:Nat):Int) 1)) _ _ s;rw [CC];exact Qu h
theorem CD(xs:Array Qr)(i k:Nat):((KQ k).filterMap λ(m:Nat)=>xs[((i:Int)+(m:Int)*1).toNat]?).toArray=((xs.toList.drop i).take k).toArray:=by
 have e:(λ(m:Nat)=>xs[((i:Int)+(m:Int)*1).toNat]?)=λm=>xs[i+m]?:=by
  funext m;have:((i:Int)+(m:Int)*1).toNat=i+m:=Qj
  rw [this]
 rw [e];have:=pick_run xs i k;rw [NI] at this;have e2:((λx=>xs[x]?)∘ λx=>i+x)=λm=>xs[i+m]?:=rfl;rw [e2] at this;rw [this]
theorem getItem_tuple_cut{t sl:Qs}{items:Array Qr}{vl vu:Qr}{lo hi:Option Int}{Q:Qr->Qt->Prop}(ht:IsTup s.heap t items)(hs:s.heap.IsSliceOf sl vl vu .none)(pl:IsPart vl lo)(pu:IsPart vu hi)
 (hw:¬(sIx items.size 0 lo=0/\sIx items.size items.size hi=items.size))
 (h:Q (.ref s.heap.objs.size) {s with heap:=s.heap.push {cls:= .type "tuple",data:= .seq ((items.toList.drop (sIx items.size 0 lo)).take (sIx items.size items.size hi - sIx items.size 0 lo)).toArray}})
 (hsz:items.size<=Qz):Qv (Qw prog w) A (Q8 (.ref t) (.ref sl)) Q E s:=by
 have htake:sizeOk (.seq ((items.toList.drop (sIx items.size 0 lo)).take (sIx items.size items.size hi - sIx items.size 0 lo)).toArray):=by
  show((items.toList.drop (sIx items.size 0 lo)).take (sIx items.size items.size hi - sIx items.size 0 lo)).toArray.size<=Qz;rw [JT,Kw,MI,JL];omega
 have hj:sIx items.size items.size hi<=items.size:=CA _ _ (Jy _) hi;obtain⟨os,hos,hcs,hds⟩:=id hs;have hTs:s.TypeIs (.ref sl) "slice":=⟨os,hos,hcs⟩;unfold Q8
 try with_reducible refine QR ?_
 first | refine Qq (Qu ?_) | skip
 refine Qq (R4 ht.typeIs Qi ?_);refine Qq (QU (name:=Jt "__getitem__") ht.typeIs Ld
  (QQ Ld ht.typeIs entry_tuple_getitem ?_ (args_tuple_getitem _ _)))
 show Qv _ _ (MU (.ref t) >>=_) _ _ s;refine Qq (tupleItemsOf_ ht ?_);refine Qq (Rt hTs ?_);rw [Ql Qi];refine Qq (sliceApplied_gen hs pl pu ?_);have hno:¬((((sIx items.size 0 lo:Nat):Int)==0 && (1:Int)==1 && (sIx items.size items.size hi - sIx items.size 0 lo)==items.size)=true):=by
  intro q;rw [Kn,Kn] at q;have q1:((sIx items.size 0 lo:Nat):Int)=0:=eq_of_beq q.1.1;have q2:sIx items.size items.size hi - sIx items.size 0 lo=items.size:=eq_of_beq q.2;exact hw ⟨Qj,Qj⟩
 show Qv _ _ (if (((sIx items.size 0 lo:Nat):Int)==0 && (1:Int)==1 && (sIx items.size items.size hi - sIx items.size 0 lo)==items.size)=true then _ else _) _ _ s;rw [Qk hno,CD]
 first
  | exact Qq (m:=K4 _) (QG (Qu ⟨_,rfl,Qu h⟩) htake)
  | exact Qq (m:=K4 _) (QG (Qq (Qu (Qu ⟨_,rfl,Qu h⟩))) htake)
  | exact Qq (Qq (m:=K4 _) (QG (Qu (Qu ⟨_,rfl,Qu h⟩)) htake))
  | exact Qq (Qq (m:=K4 _) (QG (Qu ⟨_,rfl,Qu h⟩) htake))
end
end HT
namespace L2
open PySem PySem.Spec PyProof.Rows
abbrev TO:=St->Hp->(Option Int->Hp->Prop)->Prop
def PO(X:Cx)(e:Option Qx)(t:TO):Prop:=
 ∀(Sb:List (Qs×Obj))(s:Qt)(σ:St)(H:Hp)(Q:Option Int->Hp->Prop),aa X Sb σ H s->t σ H Q->
  Qv (Qw X.prog X.w) X.A (evalPart e X.env) (λu s'=>∃o H',aa X Sb σ H' s'/\IsPart u o/\Q o H') X.xe s
def CF:TO:=λ_ H Q=>Q none H
def CG(t:TE):TO:=λσ H Q=>t σ H λx H1=>∃i,x= .int i/\Q (some i) H1
section
variable {X:Cx} {e:Qx} {te:TE} {lo hi:Option Qx} {tl th:TO} {pos p2:Pos}
theorem CH:PO X none CF:=by
 intro Sb s σ H Q I h;rw [evalPart_none];exact Qu ⟨none,H,I,.none,h⟩
theorem CI(h:PE X e te):PO X (some e) (CG te):=by
 intro Sb s σ H Q I hw;rw [evalPart_some];refine ar (h Sb s σ H _ I hw) λu s1 ⟨x,H1,I1,r1,q1⟩=>?_;obtain⟨i,rfl,q⟩:=q1;obtain⟨t,rfl⟩:=r1;exact⟨some i,H1,I1,.int i t,q⟩
def rn(X:Cx)(r:V->Option Int->Option Int->Hp->VK->Prop):Prop:=
 ∀(Sb:List (Qs×Obj))(s:Qt)(σ:St)(H:Hp)(x:V)(v vl vu:Qr)(lo hi:Option Int)(sl:Qs)(Q:VK),aa X Sb σ H s->ay x v->s.heap.IsSliceOf sl vl vu .none->IsPart vl lo->IsPart vu hi->r x lo hi H Q->
  ∃T id,typeLookup (.type T) "__getitem__"=pure (some (.builtin id))/\s.TypeIs v T/\Qv (Qw X.prog X.w) X.A (Q8 v (.ref sl)) (EP X Sb σ Q) X.xe s
def CJ(r:V->Option Int->Option Int->Hp->VK->Prop)(te:TE)(tl th:TO):TE:=λσ H Q=>te σ H λx H1=>tl σ H1 λl H2=>th σ H2 λu H3=>r x l u H3 Q
theorem uk{r:V->Option Int->Option Int->Hp->VK->Prop}(hr:rn X r)(he:PE X e te)(hl:PO X lo tl)(hu:PO X hi th):PE X (.Subscript e (.Slice lo hi none p2) pos) (CJ r te tl th):=by
 intro Sb s σ H Q I h;refine Subscript_ (ar (he Sb s σ H _ I h) λv s1 ⟨x,H1,I1,r1,q1⟩=>?_);refine wpAny_Slice (ar (hl Sb s1 σ H1 _ I1 q1) λvl s2 ⟨l,H2,I2,pl,q2⟩=>ar (hu Sb s2 σ H2 _ I2 q2) λvu s3 ⟨u,H3,I3,pu,q3⟩=>?_);rw [evalPart_none];refine Qu ?_;have I4:aa X Sb σ H3 {s3 with heap:=s3.heap.push {cls:= .type "slice",data:= .fields #[vl,vu,.none]}}:=I3.kept (t':=s3.toks) λb ob q=>Jx _ q;obtain⟨T,id,hT,ht,hg⟩:=hr Sb {s3 with heap:=s3.heap.push {cls:= .type "slice",data:= .fields #[vl,vu,.none]}} σ H3 x v vl vu l u s3.heap.objs.size Q I4 r1 (ON ..) pl pu q3;show Qv (Qw X.prog X.w) X.A (R1 e (.Slice lo hi none p2) v (.ref s3.heap.objs.size)) (EP X Sb σ Q) X.xe {s3 with heap:=s3.heap.push {cls:= .type "slice",data:= .fields #[vl,vu,.none]}};exact tail_any (ops:=[.ref s3.heap.objs.size,v]) ht hT hg (by with_unfolding_all rfl)
def ng(xs:List V)(lo hi:Option Int):List V:=(xs.drop (HT.sIx xs.length 0 lo)).take (HT.sIx xs.length xs.length hi - HT.sIx xs.length 0 lo)
theorem wO(xs:List V)(lo hi:Option Int):(ng xs lo hi).length<=xs.length:=by
 unfold ng;rw [Kw,MI];omega
def CK(K:Ju):V->Option Int->Option Int->Hp->VK->Prop:=λx lo hi H Q=>∃a xs,x= .ref a/\bw K H a xs/\
 ¬(HT.sIx xs.length 0 lo=0/\HT.sIx xs.length xs.length hi=xs.length)/\∀p,H p=none->Q (.ref p) (ao H p (.tup (ng xs lo hi)))
theorem CL:rn X (CK X.K):=by
 intro Sb s σ H x v vl vu lo hi sl Q I rx hs pl pu h;obtain⟨a,xs,rfl,hx,hw,q⟩:=h;cases rx;obtain⟨its,r,ht,hz⟩:=I.tuple hx;have hlen:its.toArray.size=xs.length:=by rw [JT];exact r.length.symm
 refine⟨"tuple",_,Ld.lookup,ht.typeIs,?_⟩;refine HT.getItem_tuple_cut ht hs pl pu (by rw [hlen];exact hw) ?_ (by rw [hlen];exact hz);rw [hlen];refine⟨.ref s.heap.objs.size,_,I.laid (t':=s.toks) (o:= .tup (ng xs lo hi)) (λb ob q=>Jx _ q) (Jy _) ?_,rfl,q _ (I.hok.fresh (Jy _))⟩;exact⟨Km (wO xs lo hi) hz,_,(r.drop (HT.sIx xs.length 0 lo)).take (HT.sIx xs.length xs.length hi - HT.sIx xs.length 0 lo),OL _ _⟩
end
def nZ(n:Nat)(i:Int):Option Nat:=if 0<=i then(if i < n then some i.toNat else none) else if -(n:Int)<=i then some (i+n).toNat else none
def atI{α:Type}(xs:List α)(i:Int):Option α:=(nZ xs.length i).bind λj=>xs[j]?
theorem CM{n:Nat}{i:Int}{j:Nat}(h:nZ n i=some j):seqIndex? i n=some j/\j < n/\-(n:Int)<=i/\i < n:=by
 unfold nZ at h;by_cases h0:0<=i
 ·rw [Ql h0] at h;by_cases h1:i < n
  ·rw [Ql h1] at h;have e:i.toNat=j:=Kp h;exact⟨by rw [seqIndex_of h0 h1,e],Qj,Qj,h1⟩
  ·rw [Qk h1] at h;cases h
 ·rw [Qk h0] at h;by_cases h1:-(n:Int)<=i
  ·rw [Ql h1] at h;have e:(i+n).toNat=j:=Kp h;exact⟨by rw [seqIndex_neg Qj h1,e],Qj,h1,Qj⟩
  ·rw [Qk h1] at h;cases h
theorem um{α:Type}{xs:List α}{i:Int}{v:α}(h:atI xs i=some v):∃j,seqIndex? i xs.length=some j/\xs[j]?=some v/\j < xs.length/\-(xs.length:Int)<=i/\i < xs.length:=by
 unfold atI at h;cases e:nZ xs.length i with
 | none=>rw [e] at h;cases h
 | some j=>
  rw [e] at h;obtain⟨h1,h2,h3,h4⟩:=CM e;exact⟨j,h1,h,h2,h3,h4⟩
theorem eJ{α:Type}{xs:List α}{j:Nat}{v:α}(h:xs[j]?=some v):atI xs (j:Int)=some v:=by
 have hj:j < xs.length:=(JH.mp h).1;have e:nZ xs.length (j:Int)=some j:=by
  unfold nZ;rw [Ql Qj,Ql Qj];simp
 unfold atI;rw [e];exact h
def CN(b:Qx):Prop:=∀o i,RC b false o i=operate [o,i] (Q8 o i)
def oP(X:Cx)(r:R2):Prop:=
 ∀(value slice:Qx)(Sb:List (Qs×Obj))(s:Qt)(σ:St)(H:Hp)(x y:V)(v u:Qr)(Q:VK),aa X Sb σ H s->ay x v->ay y u->r x y H Q->
  RC slice false v u=operate [v,u] (Q8 v u)->Qv (Qw X.prog X.w) X.A (R1 value slice v u) (EP X Sb σ Q) X.xe s
def CO(X:Cx)(id:String)(r:V->List V->Hp->VK->Prop):Prop:=
 ∀(Sb:List (Qs×Obj))(s:Qt)(σ:St)(H:Hp)(x:V)(xs:List V)(v:Qr)(us:List Qr)(Q:VK),aa X Sb σ H s->ay x v->aA xs us->r x xs H Q->
  Qv (Qw X.prog X.w) X.A (call (.builtin id) (v::us)) (EP X Sb σ Q) X.xe s
section
variable {X:Cx} {a b:Qx} {ta tb:TE} {pos:Pos}
theorem CP{r:R2}(hr:oP X r)(ha:PE X a ta)(hb:PE X b tb)(hs:CN b):PE X (.Subscript a b pos) (nY r ta tb):=by
 intro Sb s σ H Q I h;exact Subscript_ (t9 ha hb I h λv u s2 x y H2 I2 rx ry q=>hr a b Sb s2 σ H2 x y v u Q I2 rx ry q (hs _ _))
def uo(K:Ju):R2:=λx y H Q=>∃p xs i v,x= .ref p/\y= .int i/\aS K H p xs/\atI xs i=some v/\Q v H
def wQ(K:Ju):R2:=λx y H Q=>∃p xs i v,x= .ref p/\y= .int i/\bw K H p xs/\atI xs i=some v/\Q v H
def wR:R2:=λx y H Q=>∃z i c,x= .str z/\y= .int i/\z.length<=Qz/\atI z.cps.toList i=some c/\Q (.str ⟨#[c]⟩) H
theorem aL:oP X (uo X.K):=by
 intro value slice Sb s σ H x y v u Q I rx ry h hs;obtain⟨p,xs,i,z,rfl,rfl,hq,he,q⟩:=h;cases rx;obtain⟨t,rfl⟩:=ry;obtain⟨its,r,pl,hz⟩:=I.list hq;obtain⟨j,h1,h2,h3,h4,h5⟩:=um he;obtain⟨w,ew,rw'⟩:=r.get h2;have hl:=r.length;have hn:=q5;have fin:EP X Sb σ Q w s:=⟨z,H,I,rw',q⟩;by_cases h0:0<=i
 ·have hj:i.toNat=j:=by
   rw [seqIndex_of h0 h5] at h1;exact Kp h1
  exact item_listR pl.isList h0 Qj (by rw [hj];simpa using ew) fin hs
 ·have hj:(i+(its.toArray.size:Int)).toNat=j:=by
   rw [seqIndex_neg Qj h4] at h1;rw [JT,<-hl];exact Kp h1
  exact subscriptTail_builtinR (x:=w) pl.isList.typeIs slot_list_getitem.lookup
   (wpAny_getItem_list_neg (Q:=λr s'=>r=w/\EP X Sb σ Q r s') pl.isList Qj (by rw [JT] <;> omega) Qj (by rw [hj];simpa using ew) ⟨rfl,fin⟩) hs
theorem aE:oP X (wQ X.K):=by
 intro value slice Sb s σ H x y v u Q I rx ry h hs;obtain⟨p,xs,i,z,rfl,rfl,hq,he,q⟩:=h;cases rx;obtain⟨t,rfl⟩:=ry;obtain⟨its,r,pl,hz⟩:=I.tuple hq;obtain⟨j,h1,h2,h3,h4,h5⟩:=um he;obtain⟨w,ew,rw'⟩:=r.get h2;have hl:=r.length;have hn:=q5;have fin:EP X Sb σ Q w s:=⟨z,H,I,rw',q⟩;exact subscriptTail_builtinR (x:=w) pl.typeIs slot_tuple_getitem.lookup
  (getItem_tuple (j:=j) (Q:=λr s'=>r=w/\EP X Sb σ Q r s') pl Qj Qj (by rw [JT,<-hl];exact h1) (by simpa using ew) ⟨rfl,fin⟩) hs
theorem ro:oP X wR:=by
 intro value slice Sb s σ H x y v u Q I rx ry h hs;obtain⟨z,i,c,rfl,rfl,hz,he,q⟩:=h;obtain⟨t,rfl⟩:=rx;obtain⟨t',rfl⟩:=ry;obtain⟨j,h1,h2,h3,h4,h5⟩:=um he;have hl:z.cps.toList.length=z.length:=by simp [Str.length]
 rw [hl] at h1 h4 h5;have hn:=q5;exact tail_any (RM s z t) slot_str_getitem.lookup (getItem_str (c:=c) (by
  have e1:decide (i < -(2 ^ 63:Int))=false:=decide_eq_false Qj;have e2:decide (i >= 2 ^ 63)=false:=decide_eq_false Qj;rw [e1,e2,Lf]) (by rw [h1];simpa using h2) ⟨.str ⟨#[c]⟩,H,I.tok _,⟨_,rfl⟩,q⟩) hs
theorem CQ(lo hi:Option Int)(n:Nat):(Rq lo hi none n).1=((HT.sIx n 0 lo:Nat):Int)/\(Rq lo hi none n).2.1=((HT.sIx n n hi:Nat):Int)/\(Rq lo hi none n).2.2=1:=by
 refine⟨?_,?_,rfl⟩
 ·cases lo with
  | none=>simp [Rq,HT.sIx]
  | some i=>
   simp only [Rq,HT.sIx,Pc,show(1:Int) > 0 by decide,if_true];by_cases h:i < 0
   ·simp only [h,if_true] <;> omega
   ·simp only [h,if_false] <;> omega
 ·cases hi with
  | none=>simp [Rq,HT.sIx]
  | some i=>
   simp only [Rq,HT.sIx,Pc,show(1:Int) > 0 by decide,if_true];by_cases h:i < 0
   ·simp only [h,if_true] <;> omega
   ·simp only [h,if_false] <;> omega
theorem CS(its:List Qr)(lo hi:Option Int):slicePick its.toArray lo hi none=((its.drop (HT.sIx its.length 0 lo)).take (HT.sIx its.length its.length hi - HT.sIx its.length 0 lo)).toArray:=by
 obtain⟨h1,h2,h3⟩:=CQ lo hi its.toArray.size;unfold slicePick;rw [h1,h2,h3];simp only [sliceRange_one,pick_run,JT] <;> rfl
def CT(K:Ju):V->Option Int->Option Int->Hp->VK->Prop:=λx lo hi H Q=>∃a xs,x= .ref a/\aS K H a xs/\∀p,H p=none->Q (.ref p) (ao H p (.lst (ng xs lo hi)))
theorem wU:rn X (CT X.K):=by
 intro Sb s σ H x v vl vu lo hi sl Q I rx hs pl pu h;obtain⟨a,xs,rfl,hx,q⟩:=h;cases rx;obtain⟨its,r,ht,hz⟩:=I.list hx;have hlen:=r.length;refine⟨"list",_,slot_list_getitem.lookup,ht.isList.typeIs,?_⟩;refine wpAny_getItem_list_slice ht.isList hs pl pu .none Qo ?_ (by rw [JT] <;> omega);rw [CS,<-hlen];refine⟨.ref s.heap.objs.size,_,I.laid (t':=s.toks) (o:= .lst (ng xs lo hi)) (λb ob q=>Jx _ q) (Jy _) ?_,rfl,q _ (I.hok.fresh (Jy _))⟩;exact⟨Km (wO xs lo hi) hz,_,0,(r.drop (HT.sIx xs.length 0 lo)).take (HT.sIx xs.length xs.length hi - HT.sIx xs.length 0 lo),JR _ rfl⟩
theorem iF:cj X (.builtin "len") (λxs H Q=>∃p ys,xs=[.ref p]/\(aS X.K H p ys\/bw X.K H p ys)/\Q (.int ys.length) H):=by
 intro Sb s σ H xs us Q I r h;obtain⟨p,ys,rfl,hq,q⟩:=h;obtain⟨u,rfl,rx⟩:=dR r;cases rx;have hn:=q5;rcases hq with hq | hq
 ·obtain⟨its,r',pl,hz⟩:=I.list hq;have hlen:=r'.length;exact Calls.call_len_list pl.isList (by simp only [JT] <;> omega) ⟨.int ys.length,H,I.tok _,⟨s.toks+1,by rw [JT,hlen]⟩,q⟩
 ·obtain⟨its,r',pl,hz⟩:=I.tuple hq;have hlen:=r'.length;exact len_tuple pl (by simp only [JT] <;> omega) ⟨.int ys.length,H,I.tok _,⟨s.toks+1,by rw [JT,hlen]⟩,q⟩
theorem oQ:cj X (.type "tuple") (λxs H Q=>∃p ys,xs=[.ref p]/\((aS X.K H p ys/\∀l,H l=none->Q (.ref l) (ao H l (.tup ys)))\/(bw X.K H p ys/\Q (.ref p) H))):=by
 intro Sb s σ H xs us Q I r h;obtain⟨p,ys,rfl,h⟩:=h;obtain⟨u,rfl,rx⟩:=dR r;cases rx;rcases h with⟨hq,q⟩ | ⟨hq,q⟩
 ·obtain⟨its,r',pl,hz⟩:=I.list hq;have hlen:=r'.length;refine call_tuple_list pl.isList (λh' kp=>?_) (by simp only [JT] <;> omega);have I1:aa X Sb σ H {s with heap:=h'}:=I.kept (t':=s.toks) kp;have I2:aa X Sb σ (ao H h'.objs.size (.tup ys)) {s with heap:=h'.push {cls:= .type "tuple",data:= .seq its.toArray}}:=
   I1.laid (t':=s.toks) (λb o e=>Jx _ e) (Jy _) (show bx X.prog X.w _ _ _ (.tup ys) from⟨hz,its,r',OL _ _⟩)
  exact⟨.ref h'.objs.size,_,I2,rfl,q _ (I1.hok.fresh (Jy _))⟩
 ·obtain⟨its,r',pl,hz⟩:=I.tuple hq;exact call_tuple_same pl ⟨.ref p,H,I,rfl,q⟩
def wV(K:Ju)(T:String)(x:V)(H:Hp):Prop:=match x with
 | .str _=>T="str"
 | .int _=>T="int"
 | .ref p=>(T="list"/\∃xs,aS K H p xs)\/(T="tuple"/\∃o,K.lookup p=some o/\o.cls= .type "tuple"/\o.dict=none)\/
  (T="dict"/\((∃kvs,H p=some (.dK kvs))\/∃kvs,H p=some (.dT kvs)))\/(T="set"/\∃S n,H p=some (.set S n))
 | _=>False
theorem CU{Sb:List (Qs×Obj)}{σ:St}{H:Hp}{s:Qt}{T:String}{x:V}{v:Qr}(I:aa X Sb σ H s)(r:ay x v)(ty:wV X.K T x H):
 s.TypeIs v T/\∀a,v= .ref a->∃ob,s.heap.get? a=some ob/\ob.dict=none:=by
 cases x with
 | str z=>
  obtain⟨t,rfl⟩:=r;cases (show T="str" from ty);exact⟨RM s z t,λ_ e=>nomatch e⟩
 | int i=>
  obtain⟨t,rfl⟩:=r;cases (show T="int" from ty);exact⟨typeIs_int s i t,λ_ e=>nomatch e⟩
 | ref p=>
  cases r;rcases ty with⟨rfl,xs,hq⟩ | ⟨rfl,o,hk,hc,hd⟩ | ⟨rfl,hk⟩ | ⟨rfl,S,n,hk⟩
  ·obtain⟨its,_,pl,_⟩:=I.list hq;refine⟨pl.isList.typeIs,λa e=>?_⟩;cases e;obtain⟨o,n,e,c,hd,_⟩:=pl;exact⟨o,e,hd⟩
  ·refine⟨⟨o,I.kIn p o hk,hc⟩,λa e=>?_⟩;cases e;exact⟨o,I.kIn _ o hk,hd⟩
  ·have z:∃o,s.heap.get? p=some o/\o.ExactDict:=by
    rcases hk with⟨kvs,hk⟩ | ⟨kvs,hk⟩
    ·obtain⟨_,_,_,_,o,_,_,e,ex,_⟩:=I.hok p _ hk;exact⟨o,e,ex⟩
    ·obtain⟨_,_,_,_,o,_,_,e,ex,_⟩:=I.hok p _ hk;exact⟨o,e,ex⟩
   obtain⟨o,e,ex⟩:=z;refine⟨⟨o,e,ex.1⟩,λa e2=>?_⟩;cases e2;exact⟨o,e,ex.2.1⟩
  ·obtain⟨o,_,_,_,e,ex,_⟩:=I.hok p _ hk;refine⟨⟨o,e,ex.1⟩,λa e2=>?_⟩;cases e2;exact⟨o,e,ex.2.1⟩
 | _=>exact K6 ty
def CV(K:Ju)(T:String)(r:V->List V->Hp->VK->Prop)(to:TE)(t:TA):TE:=λσ H Q=>to σ H λx H1=>wV K T x H1/\t σ H1 λxs H2=>r x xs H2 Q
variable {o e:Qx} {es:List Qx} {to:TE} {t:TA} {name:Str} {apos cpos:Pos} {T id:String} {r:V->List V->Hp->VK->Prop}
theorem ur(pa:PlainAttrs T)(slot:Slot T name id)(hty:typeOf (.builtin id)=pure (.type "method_descriptor"))(hm:CO X id r)(ho:PE X o to)(ha:PA X (e::es) t)
 (hbase:Rn o name X.env (eval o X.env)=eval o X.env:=by rfl)
 (hfew:((QN cpos (Qy (e::es) X.env)).all (λx=>!x.1) && (backToKw cpos (RD [] X.env)).all (λx=>x.1.isSome)
   && decide ((e::es).length+([]:List Rf).length+(if ([]:List Rf).isEmpty then 0 else 1) < 30))=true:=by rfl)
 (hline:(apos.endLine==cpos.line)=true:=by rfl)(hs:Qy (e::es) X.env=(false,eval e X.env)::Qy es X.env:=by rfl)(hplain:(QN cpos (Qy es X.env)).any (·.1)=false:=by rfl):
 PE X (.Call (.Attribute o name apos) (e::es) [] cpos) (CV X.K T r to t):=by
 intro Sb s σ H Q I h;refine wpAny_Call_method_late hbase hfew hline rfl (ar (ho Sb s σ H _ I h) λv s1 ⟨x,H1,I1,r1,ty,q1⟩=>?_);obtain⟨h1,h2⟩:=CU I1 r1 ty;refine⟨T,id,pa,slot,hty,h1,h2,?_⟩;have hA:=ha cpos Sb s1 σ H1 _ I1 q1;rw [hs] at hA⊢;refine Oe (by show(false || (QN cpos (Qy es X.env)).any (·.1))=false;rw [hplain] <;> rfl) (Nu ?_);exact ar hA λus s2 uu47=>by obtain⟨vs,H2,I2,r2,q2⟩:=uu47;exact hm Sb s2 σ H2 x vs v us Q I2 r1 r2 q2
end
def uu(X:Cx)(id:String)(r:V->List V->Hp->VK->Prop):Prop:=
 ∀(Sb:List (Qs×Obj))(s:Qt)(σ:St)(H:Hp)(x:V)(xs:List V)(v:Qr)(us:List Qr)(Q:VK),aa X Sb σ H s->ay x v->aA xs us->r x xs H Q->
  Qv (Qw X.prog X.w) X.A (call (.builtin id) (v::us)) (EP X Sb σ Q) X.xe s
theorem aA.one:∀{x:V}{us:List Qr},aA [x] us->∃u,us=[u]/\ay x u
 | _,_,.cons r .nil=>⟨_,rfl,r⟩
section
variable {X:Cx} {Sb:List (Qs×Obj)} {σ:St} {H:Hp} {s:Qt} {l b:Qs} {xs ys zs:List V}
theorem aa.lset{its its':List Qr}{n:Nat}{f:Array Qr->Array Qr}{t':Nat}(I:aa X Sb σ H s)(hH:H l=some (.lst xs))
 (e:s.heap.get? l=some {cls:= .type "list",data:= .seq its.toArray n})(hf:f its.toArray=its'.toArray)(hv:aA ys its')(hz:ys.length<=Qz):
 aa X Sb σ (ao H l (.lst ys)) {s with heap:=s.heap.update l (KR f),toks:=t'}:=by
 have q:=PySem.IsL.update e f;rw [hf] at q;refine I.write (x:=l) (e:=l) (by rw [hH];exact trivial) (.inl rfl) (λb' u hb hu=>(Mr s.heap (KR f) (Ne.symm hb)).trans hu) ⟨_,q⟩ ?_;exact⟨hz,its',_,hv,q⟩
theorem aa.lnew{its:List Qr}{t':Nat}(I:aa X Sb σ H s)(hv:aA ys its)(hz:ys.length<=Qz):
 aa X Sb σ (ao H s.heap.objs.size (.lst ys)) {s with heap:=s.heap.push {cls:= .type "list",data:= .seq its.toArray},toks:=t'}:=
 I.laid (λ_ _ q=>Jx _ q) (Jy _) ⟨hz,its,0,hv,JR _ rfl⟩
theorem aa.fresh(I:aa X Sb σ H s):H s.heap.objs.size=none:=I.hok.fresh (Jy _)
theorem aa.lstM(I:aa X Sb σ H s)(hH:H l=some (.lst xs)):xs.length<=Qz/\∃(its:List Qr)(n:Nat),aA xs its/\xs.length=its.length/\s.heap.get? l=some {cls:= .type "list",data:= .seq its.toArray n}:=by
 obtain⟨z,its,n,r,e⟩:=I.hok l _ hH;exact⟨z,its,n,r,r.length,e⟩
theorem CW{n:Nat}(h:n<=Qz):M4 n=false:=by
 unfold M4;exact decide_eq_false Qj
end
section
variable {X:Cx}
def CY:V->List V->Hp->VK->Prop:=λx vs H Q=>∃l xs y,x= .ref l/\vs=[y]/\H l=some (.lst xs)/\xs.length < Qz/\Q .non (ao H l (.lst (xs++[y])))
theorem wX:uu X "list.append" CY:=by
 intro Sb s σ H x vs v us Q I rx rv h;obtain⟨l,xs,y,rfl,rfl,hH,hz,q⟩:=h;cases rx;obtain⟨u,rfl,ru⟩:=rv.one;obtain⟨z,its,n,r,hl,e⟩:=I.lstM hH;refine Rz F.slot_list_append ⟨_,e,rfl⟩ F.entry_list_append (F.args_list_append_2 _ _) (PySem.list_append l its.toArray n u (by rw [JT];omega)) ⟨e,?_⟩;refine⟨.non,_,I.lset (its':=its++[u]) hH e Qo (r.append (.cons ru .nil)) ?_,rfl,q⟩;rw [Kg,List.length_singleton];omega
def CZ:V->List V->Hp->VK->Prop:=λx vs H Q=>∃l b xs zs,x= .ref l/\vs=[.ref b]/\H l=some (.lst xs)/\H b=some (.lst zs)/\xs.length+zs.length<=Qz/\Q .non (ao H l (.lst (xs++zs)))
theorem C0:uu X "list.extend" CZ:=by
 intro Sb s σ H x vs v us Q I rx rv h;obtain⟨l,b,xs,zs,rfl,rfl,hH,hB,hz,q⟩:=h;cases rx;obtain⟨u,rfl,ru⟩:=rv.one;cases ru;obtain⟨z,its,n,r,hl,e⟩:=I.lstM hH;obtain⟨z2,its2,n2,r2,hl2,e2⟩:=I.lstM hB;have hsz:its.toArray.size+its2.toArray.size<=Qz:=by rw [JT,JT];omega
 have hlong:¬(!its.toArray.isEmpty && M4 (its.toArray.size+its2.toArray.size))=true:=by
  rw [CW hsz,Bool.and_false];exact Kf
 refine Rz F.slot_list_extend ⟨_,e,rfl⟩ F.entry_list_extend (F.args_list_extend_2 _ _)
  (AutoSeq1.list_extend_list_list_0 l its.toArray n b its2.toArray n2 hlong (by rw [JT];omega) Qj) ⟨e,e2,?_⟩
 refine⟨.non,_,I.lset (its':=its++its2) hH e Qo (r.append r2) ?_,rfl,q⟩;rw [Kg];omega
end
end L2
namespace Att
open PySem PySem.W PySem.Calls PyProof.Rows
theorem C1{P:Params}{h:QB}:∀(ns:List Int)(vs:List Qr),WellAll P h vs (ns.map MO)->IntsAre vs ns:=by
 intro ns
 induction ns with
 | nil=>
  intro vs w;rw [Kk] at w;cases w;exact .nil
 | cons n ns ih=>
  intro vs w;rw [JB] at w;cases w with
  | cons a b=>
   cases a;exact .cons _ _ (ih _ b)
theorem C2{l:OpenLaw}{n:Nat}(hn:l.most=some n){P:Params}{h:QB}{args:List WData}{vals:List Qr}
 (hpre:l.row.toRowW.claim.pre args=true)(hwl:WellAll P h vals args):
 ∃a vs ns,vals=[JY a]/\args=[NY (ns.map MO)]/\h.get? a=some {cls:= .type "list",data:= .seq vs.toArray}/\IntsAre vs ns/\ns.length<=n:=by
 have hsh:WShape.hasAll [] args [.list .int]=true:=(pre_splitW hpre).1;have hc:l.pre.holds [] {args:=args}=true:=(pre_splitW hpre).2;obtain⟨d,r,rfl,h1,h2⟩:=hasAllW_cons hsh;obtain rfl:=hasAllW_nil h2;obtain⟨xs,rfl,h3⟩:=hasW_list h1;obtain⟨ns,rfl⟩:=items_int h3;have hlen:ns.length<=n:=by
  unfold OpenLaw.pre at hc;have h4:(WTm.not (.lt (.lit (.int (n:Int))) (.len (.arg 0)))).holds [] {args:=[.list (ns.map .int)]}=true:=by
   have h4:=(holds_andW hc).1;rw [hn] at h4;exact h4
  have h5:=condW_of h4 (w_not (w_lt w_lit (w_len_list (w_arg rfl))));rw [Jv] at h5;refine N3 λq=>?_;have q':(n:Int) < ((ns.length:Nat):Int):=Qj
  first
   | (rw [decide_eq_true q'] at h5;exact absurd h5 Qi)
   | (simp at h5;omega)
 cases hwl with
 | cons w1 w2=>
  cases w2;cases w1 with
  | list ho hall=>exact⟨_,_,ns,rfl,rfl,ho,C1 ns _ hall,hlen⟩
theorem C3(l:OpenLaw)(args:List WData):l.row.toRowW.claim.post args (.bool true) args=true:=
 postW_of (r:=l.row.toRowW) (X:=(true==true))
  (show WShape.has [] (.bool true) .bool=true by first | rfl | decide | simp [WShape.has,WShape.arms,WShape.armsAll])
  (show(WTm.eq .res (.lit (.bool true))).value [] {args:=args,res:=some (.bool true),after:=args}=some (.bool (true==true)) from w_eq_bool (w_res rfl) w_lit) rfl
end Att
namespace L2
open PySem PySem.Spec PyProof.Rows
theorem wY:∀{vs:List Qr}{ns:List Int},IntsAre vs ns->aA (ns.map V.int) vs
 | _,_,.nil=>.nil
 | _,_,.cons n t h=>.cons ⟨t,rfl⟩ (wY h)
abbrev KOf{K:Ju}{h:QB}(_:K.In h):Ju:=K
def n4(s:QH):RX:=match s with
 | .FunctionDef _ a _ _ _ _ _ _ _ _=>a
 | _=>{posonlyargs:=[],args:=[],vararg:=none,kwonlyargs:=[],kw_defaults:=[],kwarg:=none,defaults:=[]}
def fu(s:QH):List QH:=match s with
 | .FunctionDef _ _ b _ _ _ _ _ _ _=>b
 | _=>[]
def ax(s:QH):QP:=match s with
 | .FunctionDef _ _ _ _ _ _ sc _ _ _=>sc
 | _=>{kind:= .function,names:=[],isGenerator:=false,isCoroutine:=false}
abbrev aM:dz:=λ_ _ _ _ _ _=>False
abbrev E0:XK:=λ_ _ _=>False
theorem C4{X:Cx}:p9 aM X E0:=λ_ _ _ _ _ _ _ h=>h.elim
structure dB (K:Ju) (x qual:Str) (st:QH) (f:Qs) (fd:QC):Prop where
 ex:∃(oc:Qr)(od:Option Qs)(kV doc pm:Qr)(an:Option Qs)(cdv ct:Qr)(osl:Array (Option Qr)),
  fd=Mv x qual (n4 st) (fu st) (ax st) .none kV doc pm an cdv ct/\K.lookup f=some ⟨oc,od,.func fd,osl⟩/\NB K cdv qual=true
 kp:MH K (.ref f)=true
section
variable {P:QA} {w:QE} {K:Ju} {mg:Str->Option Qr} {base:QB}
theorem dB.ok{x qual:Str}{st:QH}{f:Qs}{fd:QC}{N ps:List Str}{k:Nat}{sp:Sp}(F:dB K x qual st f fd)(S:bj N ps (ax st))(len:∀vs H Q E,sp vs H Q E->vs.length=ps.length)
 (hbody:∀(cdv:Qr) (A:QF) (outer:List Env) (s:Qt) (H:Hp) (vs:List V) (Q:VK) (E:XK),aP k (A.deeper (Rj qual (ax st) s.heap.objs.size f cdv))->sp vs H Q E->
   ∃t,bu (bo aM P w K mg base N qual (ax st) f cdv A outer s H E).nox (fu st) t/\t {nx:=λ_ H'=>Q .non H',rt:=Q} (start N vs) H):aB P w K mg base aM (k+1) f fd ps sp:=by
 obtain⟨oc,od,kV,doc,pm,an,cdv,ct,osl,rfl,lk,hcd⟩:=F.ex;refine uj lk hcd S len λA outer s H vs Q E hr hsp=>?_;obtain⟨t,h,q⟩:=hbody cdv A outer s H vs Q E hr hsp;exact⟨t,h.nox,q⟩
theorem dB.binds{x qual:Str}{st:QH}{f:Qs}{fd:QC}{ps:List Str}(F:dB K x qual st f fd)
 (h:∀(kV doc pm:Qr) (an:Option Qs) (cdv ct:Qr) (us:List Qr),us.length=ps.length->bindArgs (Mv x qual (n4 st) (fu st) (ax st) .none kV doc pm an cdv ct) ⟨us,[]⟩=pure (ps.zip us)):dA K fd ps []:=by
 obtain⟨oc,od,kV,doc,pm,an,cdv,ct,osl,rfl,lk,hcd⟩:=F.ex;exact .all (h kV doc pm an cdv ct)
theorem C5{x qual:Str}{st:QH}{f:Qs}{oc:Qr}{od an:Option Qs}{osl:Array (Option Qr)}{kV doc pm cdv ct:Qr}(l:K.lookup f=some ⟨oc,od,.func (Mv x qual (n4 st) (fu st) (ax st) .none kV doc pm an cdv ct),osl⟩)
 (c:NB K cdv qual=true)(k:MH K (.ref f)=true):dB K x qual st f (Mv x qual (n4 st) (fu st) (ax st) .none kV doc pm an cdv ct):=⟨⟨oc,od,kV,doc,pm,an,cdv,ct,osl,rfl,l,c⟩,k⟩
end
section
variable {X:Cx}
theorem pv(i:Nat){x:Str}{pos:Pos}(hN:X.N[i]?=some x:=by rfl)(hv:oF X.env.scope x:=by first | exact N4 rfl | exact Nv (N4 rfl) | exact Nv (Nv rfl))(hd:(x==("__debug__":Str))=false:=by decide)
 (hcd:(x==("__classdict__":Str))=false:=by decide):PE X (.Name x pos) (eF i):=qR hN hv hd hcd
end
def ai(H H':Hp):Prop:=∀b o,H b=some o->H' b=some o
theorem ai.refl(H:Hp):ai H H:=λ_ _ h=>h
theorem ai.trans{H H1 H2:Hp}(a:ai H H1)(b:ai H1 H2):ai H H2:=λc o h=>b c o (a c o h)
def cz(env:Env)(names:List (Str×QZ))(cs:List (Str×Qs)):List (Str×Qs):=
 names.foldl (λcs p=>if (p.2==Lg)=true then(p.1,(env.cells.lookup p.1).getD 0)::cs else cs) cs
theorem uw{scope:QP}{env:Env}(h:∀y∈scope.names,y.2= .free->∃c,env.cells.lookup y.1=some c):closureFor scope env=pure (cz env scope.names []):=by
 unfold closureFor;have key:∀(l:List (Str×QZ))(cs:List (Str×Qs)),(∀y∈l,y.2= .free->∃c,env.cells.lookup y.1=some c)->
  (forIn l cs λ(x:Str×QZ) (r:List (Str×Qs))=>(if (x.2==Lg)=true then do let a<-cellOf env x.1;pure (MP ((x.1,a)::r)) else pure (MP r):Sem (ForInStep (List (Str×Qs)))))=pure (cz env l cs):=by
  intro l
  induction l with
  | nil=>intro cs _;rfl
  | cons p r ih=>
   intro cs hl;rw [Pm];by_cases hk:(p.2==Lg)=true
   ·obtain⟨c,hc⟩:=hl p Lj (by simpa using hk);rw [Ql hk];have e:cellOf env p.1=pure c:=by unfold cellOf;rw [hc]
    rw [e];simp only [pure_bind];rw [ih _ λy hy=>hl y (Ka _ hy)];unfold cz;rw [L6,Ql hk,hc];rfl
   ·rw [Qk hk];simp only [pure_bind];rw [ih _ λy hy=>hl y (Ka _ hy)];unfold cz;rw [L6,Qk hk]
 have:=key scope.names [] h;simp only [bind_pure];exact this
theorem uz{env:Env}:∀(l:List (Str×QZ))(cs:List (Str×Qs)){x:Str}{c:Qs},(∀y∈l,y.2= .free->∃c,env.cells.lookup y.1=some c)->(∀y d,cs.lookup y=some d->env.cells.lookup y=some d)->
 (cz env l cs).lookup x=some c->env.cells.lookup x=some c
 | [],cs,x,c,_,hc,h=>hc x c h
 | p::r,cs,x,c,hl,hc,h=>by
  unfold cz at h;rw [L6] at h;by_cases hk:(p.2==Lg)=true
  ·rw [Ql hk] at h;refine uz r _ (λy hy=>hl y (Ka _ hy)) (λy d e=>?_) h;obtain⟨a,ha⟩:=hl p Lj (by simpa using hk);rw [Kb] at e;cases hx:y==p.1 with
   | true=>
    rw [hx] at e;have hy:y=p.1:=by simpa using hx
    rw [ha] at e;cases e;rw [hy];exact ha
   | false=>rw [hx] at e;exact hc y d e
  ·rw [Qk hk] at h;exact uz r cs (λy hy=>hl y (Ka _ hy)) hc h
theorem uA{env:Env}:∀(l:List (Str×QZ))(cs:List (Str×Qs)){x:Str},(∃c,cs.lookup x=some c)->∃c,(cz env l cs).lookup x=some c
 | [],cs,x,h=>h
 | p::r,cs,x,⟨c,h⟩=>by
  unfold cz;rw [L6];by_cases hk:(p.2==Lg)=true
  ·rw [Ql hk];refine uA r _ ?_;rw [Kb];cases hx:x==p.1 with
   | true=>exact⟨_,rfl⟩
   | false=>exact⟨c,h⟩
  ·rw [Qk hk];exact uA r cs ⟨c,h⟩
theorem qc{env:Env}:∀(l:List (Str×QZ))(cs:List (Str×Qs)){x:Str},(x,Lg)∈l->∃c,(cz env l cs).lookup x=some c
 | [],_,_,h=>by simp at h
 | p::r,cs,x,h=>by
  unfold cz;rw [L6];rcases JF.mp h with e | e
  ·subst e;rw [Ql (by rfl)];exact uA r _ ⟨(env.cells.lookup x).getD 0,by rw [Kb];simp⟩
  ·exact qc r _ e
theorem C6{env:Env}{scope:QP}{x:Str}(h:(relabel scope env).names.lookup x=some .cell\/(relabel scope env).names.lookup x=some .free):scope.names.lookup x=some .free\/scope.names.lookup x=some .cell:=by
 have key:∀(l:List (Str×QZ)),
  ((l.map λ(n,k)=>if (k==Lg && env.scope.kind== .function && env.kindOf n==some .cell) then(n,Nj) else(n,k)).lookup x=some .cell\/
  (l.map λ(n,k)=>if (k==Lg && env.scope.kind== .function && env.kindOf n==some .cell) then(n,Nj) else(n,k)).lookup x=some .free)->l.lookup x=some .free\/l.lookup x=some .cell:=by
  intro l
  induction l with
  | nil=>intro h;simp at h
  | cons p r ih=>
   obtain⟨n,k⟩:=p;intro h;rw [JB] at h;rw [Kb];by_cases hx:x=n
   ·subst hx;rw [beq_self_eq_true];by_cases hq:(k==Lg && env.scope.kind== .function && env.kindOf x==some .cell)=true
    ·have:k= .free:=by simp only [Kn,beq_iff_eq] at hq;exact hq.1.1
     subst this;exact .inl rfl
    ·simp only [Qk hq,Kb,beq_self_eq_true] at h;exact h.symm
   ·have hb:(x==n)=false:=by simpa using hx
    rw [hb];refine ih ?_;by_cases hq:(k==Lg && env.scope.kind== .function && env.kindOf n==some .cell)=true
    ·simpa only [Ql hq,Kb,hb] using h
    ·simpa only [Qk hq,Kb,hb] using h
 exact key scope.names h
theorem C7{env:Env}{scope:QP}{x:Str}(h:scope.names.lookup x=some .cell\/scope.names.lookup x=some .free):(relabel scope env).names.lookup x=some .cell\/(relabel scope env).names.lookup x=some .free:=by
 have key:∀(l:List (Str×QZ)),l.lookup x=some .cell\/l.lookup x=some .free->
  ((l.map λ(n,k)=>if (k==Lg && env.scope.kind== .function && env.kindOf n==some .cell) then(n,Nj) else(n,k)).lookup x=some .cell\/
  (l.map λ(n,k)=>if (k==Lg && env.scope.kind== .function && env.kindOf n==some .cell) then(n,Nj) else(n,k)).lookup x=some .free):=by
  intro l
  induction l with
  | nil=>intro h;simp at h
  | cons p r ih=>
   obtain⟨n,k⟩:=p;intro h;rw [JB];by_cases hx:x=n
   ·subst hx;rw [Kb,beq_self_eq_true] at h;by_cases hq:(k==Lg && env.scope.kind== .function && env.kindOf x==some .cell)=true
    ·left;simp only [Ql hq,Kb,beq_self_eq_true]
    ·simp only [Qk hq,Kb,beq_self_eq_true];exact h
   ·have hb:(x==n)=false:=by simpa using hx
    rw [Kb,hb] at h;by_cases hq:(k==Lg && env.scope.kind== .function && env.kindOf n==some .cell)=true
    ·simpa only [Ql hq,Kb,hb] using ih h
    ·simpa only [Qk hq,Kb,hb] using ih h
 exact key scope.names h
structure aU (sc:QP) (N N':List Str) (k:Nat) (fr:List Nat) (scope:QP):Prop where
 kind:scope.kind= .function
 cell:∀y∈scope.names,y.2= .cell->scope.names.lookup y.1=some .cell
 names:∀y∈scope.names,y.2= .local->scope.names.lookup y.1=some .local
 nd:N'.Nodup
 slot:fr.map (λj=>N[j]?)=(N'.drop k).map some
 frees:∀x∈N'.drop k,scope.names.lookup x=some .free
 outer:∀y∈scope.names,y.2= .free->sc.names.lookup y.1=some .cell\/sc.names.lookup y.1=some .free
 outer':∀x∈N'.drop k,sc.names.lookup x=some .cell\/sc.names.lookup x=some .free
 len:N'.length=k+fr.length
theorem rz:∀(l:List (Str×QZ)){n:Nat}{a:List (Str×Qs)}{x:Str}{c:Qs},(QY n l a).lookup x=some c->n<=c\/a.lookup x=some c
 | [],_,_,_,_,h=>.inr h
 | (y,k)::r,n,a,x,c,h=>by
  unfold QY at h;split at h
  ·rcases rz r h with z | z
   ·exact .inl Qj
   ·rw [Kb] at z;split at z
    ·exact .inl (by cases z;exact Jy _)
    ·exact .inr z
  ·exact rz r h
theorem uB:∀(l:List (Str×QZ)){n:Nat}{a:List (Str×Qs)}{x:Str}{c:Qs},l.lookup x=some .cell->(QY n l a).lookup x=some c->n<=c
 | [],_,_,_,_,e,_=>nomatch e
 | (y,k)::r,n,a,x,c,e,h=>by
  unfold QY at h;rw [Kb] at e;cases hx:x==y with
  | true=>
   rw [hx] at e;cases e;have h:List.lookup x (QY (n+1) r ((y,n)::a))=some c:=h;rcases rz r h with z | z
   ·exact NT z
   ·rw [Kb,hx] at z;cases z;exact Jy _
  | false=>
   rw [hx] at e;split at h
   ·exact NT (uB r e h)
   ·exact uB r e h
theorem uC:∀(l:List (Str×QZ)){n:Nat}{a:List (Str×Qs)}{x:Str},(∀y∈l,y.2= .cell->y.1≠x)->(QY n l a).lookup x=a.lookup x
 | [],_,_,_,_=>rfl
 | (y,k)::r,n,a,x,h=>by
  unfold QY;split
  ·rename_i hk;rw [uC r λz hz=>h z (Ka _ hz),Kb];have:(x==y)=false:=by simpa using Ne.symm (h (y,k) Lj (by simpa using hk))
   rw [this]
  ·exact uC r λz hz=>h z (Ka _ hz)
theorem uD:∀(l:List (Str×QZ)){n:Nat}{a:List (Str×Qs)},(∀x c,a.lookup x=some c->c < n)->(∀x y c,a.lookup x=some c->a.lookup y=some c->x=y)->∀x y c,(QY n l a).lookup x=some c->(QY n l a).lookup y=some c->x=y
 | [],_,_,_,h=>h
 | (z,k)::r,n,a,hl,hi=>by
  unfold QY;split
  ·have one:∀x c,((z,n)::a).lookup x=some c->x=z/\c=n\/c < n/\a.lookup x=some c:=λx c e=>by
    rw [Kb] at e;cases hx:x==z with
    | true=>rw [hx] at e;cases e;exact .inl ⟨by simpa using hx,rfl⟩
    | false=>rw [hx] at e;exact .inr ⟨hl x c e,e⟩
   refine uD r (λx c e=>?_) λx y c e1 e2=>?_
   ·rcases one x c e with⟨_,z⟩ | ⟨z,_⟩
    ·rw [z];exact MJ _
    ·exact K9 z
   ·rcases one x c e1 with⟨a1,b1⟩ | ⟨a1,b1⟩ <;> rcases one y c e2 with⟨a2,b2⟩ | ⟨a2,b2⟩
    ·rw [a1,a2]
    ·omega
    ·omega
    ·exact hi x y c b1 b2
  ·exact uD r hl hi
theorem uE:∀(l:List (Str×QZ)){h:QB}{a:List (Str×Qs)},(∀x c,a.lookup x=some c->∃v,h.IsCell c v)->∀x c,(QY h.objs.size l a).lookup x=some c->∃v,(pushCells h l).IsCell c v
 | [],_,_,h=>h
 | (z,k)::r,h,a,ha=>by
  unfold QY pushCells;split
  ·have:=uE r (h:=h.push {cls:= .type "cell",data:= .cell none}) (a:=(z,h.objs.size)::a) λx c e=>by
    rw [Kb] at e;split at e
    ·cases e;exact⟨none,_,JR _ rfl,rfl⟩
    ·obtain⟨v,q⟩:=ha x c e;exact⟨v,q.keeps λb o e=>Jx _ e⟩
   rwa [M7] at this
  ·exact uE r ha
def rA(X:Cx)(scope:QP)(C:Qs):List (Str×Qs):=QY (C+1) scope.names (cz X.env scope.names [])
def bp(X:Cx)(scope:QP)(N':List Str)(fp:List Qs)(C:Qs)(s:Qt)(H:Hp):Cx where
 prog:=X.prog
 w:=X.w
 K:=X.K
 mg:=X.mg
 base:=X.base
 A:=X.A
 N:=N'
 s₀:=s
 H₀:=H
 env:=compEnvC scope (rA X scope C) C X.env
 outer:=X.stack
 stack:=X.stack
 ex:=fp
 fn:=λx=>scope.names.lookup x==some .cell
 calm:=X.calm
 pn:=[]
 xe:=λ_ _=>False
def aN(k:Nat)(fr:List Nat)(σ:St):St:=JU k none++fr.map λj=>(σ[j]?).join
def n5(σ σ':St):Prop:=σ.length=σ'.length/\∀(i:Nat) v,σ[i]?=some (some v)->σ'[i]?=some (some v)
section
variable {X:Cx} {Sb:List (Qs×Obj)} {σ:St} {H:Hp} {s:Qt} {scope:QP} {N':List Str} {k:Nat} {fr:List Nat} {fp:List Qs}
theorem rB(S:aU X.env.scope X.N N' k fr scope)(I:aa X Sb σ H s):∀x c,(cz X.env scope.names []).lookup x=some c->X.env.cells.lookup x=some c:=λx c e=>uz scope.names [] (λy hy e=>I.ok.has y.1 (S.outer y hy e)) (λ_ _ z=>by simp at z) e
theorem wZ(S:aU X.env.scope X.N N' k fr scope)(I:aa X Sb σ H s){x:Str}{c:Qs}(e:(rA X scope s.heap.objs.size).lookup x=some c):s.heap.objs.size < c\/X.env.cells.lookup x=some c:=
 (rz _ e).imp (λz=>z) λz=>rB S I x c z
theorem C8(S:aU X.env.scope X.N N' k fr scope)(I:aa X Sb σ H s)(hf:∀b∈fp,iE X Sb H b)(hlt:∀b∈fp,b < s.heap.objs.size):
 (bp X scope N' fp s.heap.objs.size s H).Ok:=by
 have hcl:=rB S I;refine⟨I.ok.mod,S.kind,I.ok.glob,I.ok.blt,Jy _,uD _ (λx c e=>?_) (λx y c h1 h2=>I.ok.inj x y c (hcl x c h1) (hcl y c h2)),λx hx=>Mi.mp (Nh _ _ _ ?_),λx c h e=>NT (uB _ (eq_of_beq h) e),I.ok.hd,I.ok.frames,.inl rfl,λb hb=>⟨JW (hlt b hb),λx c e=>?_⟩,
  I.bs,Km I.ok.bsz I.sz,λb o e hb=>?_,λb hb hb'=>?_,I.stack,I.stkFree⟩
 ·obtain⟨v,o,ho,_⟩:=I.cell x c (hcl x c e);exact K9 (JC ho)
 ·rcases C6 hx with z | z
  ·exact .inr (Mi.mpr (qc _ _ (K7 z)))
  ·exact .inl z
 ·rcases wZ S I e with z | z
  ·exact λq=>absurd (hlt b hb) (by rw [<-q];exact Nat.lt_asymm z)
  ·exact(hf b hb).2.2.2.2.1 x c z
 ·rcases(hf b hb).2.2.2.1 with z | z
  ·exact I.ok.noex b o e z
  ·exact absurd (JX (JC e) (Km I.ok.bsz z)) (Le _)
 ·rcases JF.mp (I.stkSub b hb') with z | z
  ·exact(hf b hb).2.1 z
  ·exact(hf b hb).2.2.1 z
theorem C9(S:aU X.env.scope X.N N' k fr scope)(I:aa X Sb σ H s)(hf:∀b∈fp,iE X Sb H b)(hlt:∀b∈fp,b < s.heap.objs.size){o:Obj}{h':QB}(e':h'=pushCells (s.heap.push o) scope.names)
 (hn:h'.Ns s.heap.objs.size (λ_=>none))(hk:∀b o,s.heap.get? b=some o->h'.get? b=some o):
 aa (bp X scope N' fp s.heap.objs.size s H) [] (aN k fr σ) H {s with heap:=h'}:=by
 have hcl:=rB S I;refine⟨C8 S I hf hlt,rfl,I.bare,Un.kept hk,⟨_,hn,λi x v h1 h2 h3=>?_⟩,λx c e=>?_,I.hok.fresh (Jy _),λx c e=>?_,λp hp=>absurd hp (by simp [bp]),I.hok.kept hk,?_⟩
 ·have hi:k<=i:=by
   rcases Mw i k with z | z
   ·exfalso;unfold aN at h2;rw [Me (by simpa using z),MN,Ql z] at h2;cases h2
   ·exact z
  have h2':(fr.map λj=>(σ[j]?).join)[i - k]?=some (some v):=by
   unfold aN at h2;rw [MA (by simpa using hi)] at h2;simpa using h2
  have h1':(N'.drop k)[i - k]?=some x:=by
   rw [List.getElem?_drop,Nat.add_sub_cancel' hi];exact h1
  have hmem:x∈N'.drop k:=JQ h1';have e2:(fr.map λj=>X.N[j]?)[i - k]?=some (some x):=by
   rw [S.slot,JD,h1'];rfl
  obtain⟨j,hj,ej⟩:∃j,fr[i - k]?=some j/\X.N[j]?=some x:=by
   rw [JD] at e2;cases e:fr[i - k]? with
   | none=>rw [e] at e2;cases e2
   | some j=>rw [e] at e2;exact⟨j,rfl,Kp e2⟩
  have hv:σ[j]?=some (some v):=by
   rw [JD,hj] at h2';have h3':(σ[j]?).join=some v:=Kp h2';cases e:σ[j]? with
   | none=>rw [e] at h3';cases h3'
   | some o=>rw [e] at h3';rw [show o=some v from h3']
  obtain⟨m,hn0,hl⟩:=I.loc;have ho:=S.outer' x hmem;obtain⟨u,ru,lk⟩:=hl j x v ej hv (.inr ho);refine⟨u,ru,.inr ⟨C7 (.inr (S.frees x hmem)),?_⟩⟩;rcases lk with⟨z,_⟩ | ⟨_,c,hc,hx⟩
  ·exfalso;rcases ho with ho | ho
   ·exact absurd (z.symm.trans ho) Qo
   ·exact absurd (z.symm.trans ho) Qo
  ·obtain⟨c',hc'⟩:=qc (env:=X.env) scope.names [] (K7 (S.frees x hmem));have:=hcl x c' hc';rw [hc] at this;cases this;obtain⟨o,ho,hd⟩:=hx;exact⟨c,(uC _ λy hy ey ex=>by have q:=S.cell y hy ey;rw [ex,S.frees x hmem] at q;cases q).trans hc',o,hk c o ho,hd⟩
 ·subst e';have:=uE scope.names (h:=s.heap.push o) (a:=cz X.env scope.names []) (λx c e=>by
   obtain⟨v,q⟩:=I.cell x c (hcl x c e);exact⟨v,q.keeps λb o e=>Jx _ e⟩) x c
  rw [M7] at this;exact this e
 ·rcases wZ S I e with z | z
  ·exact I.hok.fresh (Ms z)
  ·exact I.freeC x c z
 ·unfold aN;show _=N'.length;rw [Kg,Mz,Jv,S.len]
end
section
variable {prog:QA} {w:QE} {A:QF} {E:Qr->Qt->Prop} {R:Result->Qt->Prop} {s:Qt}
theorem Dc{elt target iter:Qx}{ifs:List Qx}{scope:QP}{pos:Pos}{it acc:Qr}{env:Env}(I:Nat->Qt->Prop)
 (turn:∀n s,I n s->Qv (Qw prog w) A (Rm it) (λr s₁=>match r with
  | none=>R (.ok .next) s₁
  | some v=>Qv (Qw prog w) A (RL target it v) (λ_ s₁'=>Qv (Qw prog w) A (assign target env v) (λ_ s₂=>
   Qv (Qw prog w) A (forIn ifs true λc r=>if r=true then do let ok<-isTrue c env (eval c env);pure (MP ok) else pure (MP r)) (λok s₃=>
    if ok=true then Qv (Qw prog w) A (eval elt env) (λx s₄=>
     Qv (Qw prog w) A (call (.builtin "list.append") [acc,x]) (λ_ s₅=>∃m,m < n/\I m s₅) (λ_ _=>False) s₄) (λ_ _=>False) s₃
    else ∃m,m < n/\I m s₃) (λ_ _=>False) s₂) (λ_ _=>False) s₁') (λ_ _=>False) s₁) (λ_ _=>False) s)
 (n:Nat)(h:I n s):
 Rc (Qw prog w) A (.compLoop (.ListComp elt [⟨target,iter,ifs,0⟩] scope pos) 0 it acc env) R s:=by
 refine codeAny_loop rfl I (λn s hI=>?_) n h;show Qv _ A ((compTurn (.ListComp elt [⟨target,iter,ifs,0⟩] scope pos) 0 it acc env).onRaise (λx=>do noteFrame x env;theTreesLotGoes x)) _ _ s;refine wpAny_noted ?_;rw [compTurn_list];refine Qq (wpAny_standAt (Qq (QM (turn n s hI) (λr s₁ h₁=>?_) λ_ _ h'=>h'.elim)));cases r with
 | none=>exact Qu h₁
 | some v=>
  refine Qq (QM h₁ (λ_ s₁' h₁'=>?_) λ_ _ h'=>h'.elim);refine Qq (QM h₁' (λ_ s₂ h₂=>Qq (QM h₂ (λok s₃ h₃=>?_) λ_ _ h'=>h'.elim)) λ_ _ h'=>h'.elim);cases ok with
  | false=>exact Qu ⟨rfl,h₃⟩
  | true=>
   exact Qq (Qq (QM h₃ (λx s₄ h₄=>Qq (QM h₄ (λ_ s₅ h₅=>Qu (Qu ⟨rfl,h₅⟩)) λ_ _ h'=>h'.elim)) λ_ _ h'=>h'.elim))
end
def dS(X:Cx)(ifs:List Qx)(t:TT):Prop:=
 ∀(Sb:List (Qs×Obj))(s:Qt)(σ:St)(H:Hp)(Q:Bool->Hp->Prop),aa X Sb σ H s->t σ H Q->
  Qv (Qw X.prog X.w) X.A (forIn ifs true λc r=>if r=true then do let ok<-isTrue c X.env (eval c X.env);pure (MP ok) else pure (MP r)) (TP X Sb σ Q) X.xe s
def Dd:TT:=λ_ H Q=>Q true H
theorem Df{X:Cx}:dS X [] Dd:=λSb s σ H Q I h=>wpAny_tests_nil ⟨H,I,h⟩
theorem dU{X:Cx}{c:Qx}{t:TT}(h:PT X c t):dS X [c] t:=λSb s σ H Q I hq=>wpAny_tests_one (h Sb s σ H Q I hq)
theorem aW.but{P:QA}{w:QE}{H:Hp}{h h':QB}{C:Qs}(x:aW P w H h)(hC:H C=none)(k:∀b o,b≠C->h.get? b=some o->h'.get? b=some o):aW P w H h':=λa o e=>by
 refine(x a o e).stay (λb u hb q=>k b u ?_ q) (λ_ q=>q) (λ_ _ q=>q) λ_ _ q=>q;intro z;subst z;rcases hb with z | z
 ·rw [<-z,hC] at e;cases e
 ·rw [hC] at z;cases z
theorem Dg{M:Model}{A:QF}{E:Qr->Qt->Prop}{s:Qt}{scope:QP}{g:Qs}{cl:List (Str×Qs)}{qual:Str}{e:Env}{Q:Env->Qt->Prop}
 (hQ:∀h',h'=pushCells (s.heap.push {cls:= .type "dict",data:= .dict #[]}) scope.names->h'.Ns s.heap.objs.size (λ_=>none)->(∀b o,s.heap.get? b=some o->h'.get? b=some o)->
  Q (newEnv scope s.heap.objs.size g (QY (s.heap.objs.size+1) scope.names cl) qual none .none (some e) Rv) {s with heap:=h'}):
 Qv M A (newFunctionEnv scope g cl [] qual none .none (some e)) Q E s:=by
 simp only [newFunctionEnv,OO,if_true];refine Qq (wpAny_alloc (Qq (wpAny_layCells _ (λname kind cells=>by cases hkc:kind==Nj <;> simp [hkc]) _ _ _ _ ?_)));rw [show({s with heap:=s.heap.push {cls:= .type "dict",data:= .dict #[]}}:Qt).heap.objs.size=s.heap.objs.size+1 from M7 ..];rw [PB];exact Qq (Qu (Qu (hQ _ rfl ((Heap.Ns.new s.heap (.type "dict")).keeps (pushCells_keeps _ _)) λb o e=>pushCells_keeps _ _ b o (Jx _ e))))
def nB(wi:TI)(g:TG)(tc:TT)(te:TE)(k:Nat)(fr:List Nat):TE:=λσ H Q=>wi σ H λJ H1=>∀D,H1 D=none->∃W:Nat->Nat->Hp->Prop,(∃m,W 0 m (ao H1 D (.lst [])))/\∀i m H,W i m H->
 (J.stop i H/\Q (.ref D) H)\/(J.go i H/\∀x H',J.yld i H x H'->g x (aN k fr σ) H' λσ2 H2=>n5 (aN k fr σ) σ2/\tc σ2 H2 λok H3=>
  if ok=true then te σ2 H3 λy H4=>∃ys,H4 D=some (.lst ys)/\ys.length < Qz/\∃m',m' < m/\W (i+1) m' (ao H4 D (.lst (ys++[y])))
  else ∃m',m' < m/\W (i+1) m' H3)
section
variable {X:Cx} {tg iter elt:Qx} {ifs:List Qx} {scope:QP} {N':List Str} {k:Nat} {fr:List Nat} {wi:TI} {g:TG} {tc:TT} {te:TE} {pos:Pos}
theorem w8{use:Option (Qr->Sem Unit)}{Q':Qr->Qt->Prop}{Sb:List (Qs×Obj)}{s:Qt}{σ:St}{H:Hp}{Q:VK}(hc:X.calm=true)(S:aU X.env.scope X.N N' k fr scope)(hi:PI X tg iter wi)
 (hg:∀fp C s H,PG (bp X scope N' fp C s H) tg g)(hf:∀fp C s H,dS (bp X scope N' fp C s H) ifs tc)(he:∀fp C s H,PE (bp X scope N' fp C s H) elt te)
 (I:aa X Sb σ H s)(h:nB wi g tc te k fr σ H Q)
 (hQ:∀D C s' H',C≠X.env.locals->aa X Sb σ H' s'->(∀h',Mt C s'.heap h'->aa X Sb σ H' {s' with heap:=h'})->Q (.ref D) H'->(∃m,s'.heap.Ns C m)->X.env.locals < C->H' C=none/\(∀x c,X.env.cells.lookup x=some c->c≠C)/\(∀p∈X.pn++Sb,p.1≠C)->compPost (Qw X.prog X.w) X.A X.xe use Q' (.ref D) C (.ok .next) s'):
 Qv (Qw X.prog X.w) X.A (eval iter X.env) (λx s₁=>Qv (Qw X.prog X.w) X.A (pyIter x) (λit s₂=>Qv (Qw X.prog X.w) X.A (newList []) (λacc s₃=>
  Qv (Qw X.prog X.w) X.A (newFunctionEnv scope X.env.globals (cz X.env scope.names []) [] X.env.qual none .none (some X.env)) (λcenv s₄=>
   Rc (Qw X.prog X.w) X.A (.compStart (.ListComp elt [⟨tg,iter,ifs,0⟩] scope pos) 0 it acc {cenv with scope:=relabel scope X.env}) (compPost (Qw X.prog X.w) X.A X.xe use Q' acc cenv.locals) s₄) X.xe s₃) X.xe s₂) X.xe s₁) X.xe s:=by
 refine ar (hi Sb s σ H _ I h) λv s1 h1=>ar h1 λitv s2 h2=>?_;obtain⟨it,fp,tn,J,H2,e,I2,T,st2,f2,wW⟩:=h2;subst e;refine QG ?_;have hD0:H2 s2.heap.objs.size=none:=I2.hok.fresh (Jy _);obtain⟨W,⟨m0,w0⟩,turn⟩:=wW _ hD0;generalize hD:s2.heap.objs.size=D at*;have I3:aa X Sb σ (ao H2 D (.lst [])) {s2 with heap:=s2.heap.push {cls:= .type "list",dict:=none,data:= .seq ([]:List Qr).toArray}}:=by
  have:=I2.lnew (ys:=[]) (its:=[]) (t':=s2.toks) .nil (KI _);rw [hD] at this;exact this
 generalize hs3:({s2 with heap:=s2.heap.push {cls:= .type "list",dict:=none,data:= .seq ([]:List Qr).toArray}}:Qt)=s3 at*;have up23:∀b o,s2.heap.get? b=some o->s3.heap.get? b=some o:=λb o e=>by rw [<-hs3];exact Jx _ e
 have fpD:∀b∈fp,b≠D:=λb hb z=>by
  obtain⟨o,ho,_⟩:=T.obj _ _ st2 b hb;have:=JC ho;rw [hD,z] at this;exact Le _ this
 have f3:∀b∈fp,iE X Sb (ao H2 D (.lst [])) b:=λb hb=>⟨by rw [az (fpD b hb)];exact(f2 b hb).1,(f2 b hb).2⟩;have st3:tn 0 s3.heap:=T.keep _ _ _ st2 λb hb o e=>up23 b o e;have lt3:∀b∈fp,b < s3.heap.objs.size:=λb hb=>by obtain⟨o,ho,_⟩:=T.obj _ _ st3 b hb;exact JC ho
 refine Dg λh₁ e₁ hns₁ up34=>?_;have I4:=C9 S I3 f3 lt3 e₁ hns₁ up34;have st4:tn 0 h₁:=T.keep _ _ _ st3 λb hb o e=>up34 b o e;generalize hX':bp X scope N' fp s3.heap.objs.size s3 (ao H2 D (.lst []))=X' at*;have hg':PG X' tg g:=by rw [<-hX'];exact hg _ _ _ _
 have hf':dS X' ifs tc:=by rw [<-hX'];exact hf _ _ _ _
 have he':PE X' elt te:=by rw [<-hX'];exact he _ _ _ _
 have eP:X'.prog=X.prog:=by rw [<-hX'];rfl
 have eW:X'.w=X.w:=by rw [<-hX'];rfl
 have eK:X'.K=X.K:=by rw [<-hX'];rfl
 have eA:X'.A=X.A:=by rw [<-hX'];rfl
 have eC:X'.calm=true:=by rw [<-hX'];exact hc
 have eE:X'.xe=λ_ _=>False:=by rw [<-hX'];rfl
 have eEnv:X'.env=compEnvC scope (rA X scope s3.heap.objs.size) s3.heap.objs.size X.env:=by rw [<-hX'];rfl
 have fpx:∀{H':Hp},(∀b∈fp,H' b=none)->∀b∈fp,iE X' [] H' b:=λ{H'} hn b hb=>by
  refine⟨hn b hb,?_,?_,.inl ?_,?_,?_⟩
  ·rw [eEnv];exact JW (lt3 b hb)
  ·have:=I4.ok.exfs b (by rw [<-hX'];exact hb);exact this
  ·rw [<-hX'];exact hb
  ·have:=I4.ok.exf b (by rw [<-hX'];exact hb);exact this.2
  ·intro p hp;rw [<-hX'] at hp;simp [bp] at hp
 have fin:∀(s':Qt)(H':Hp)(σ':St),aa X' [] σ' H' s'->Q (.ref D) H'->compPost (Qw X.prog X.w) X.A X.xe use Q' (.ref D) s3.heap.objs.size (.ok .next) s':=λs' H' σ' J q=>by
  have un:Un (aD X.stack) fp (ao H2 D (.lst [])) H' s3.heap s'.heap:=by have:=J.base;rw [<-hX'] at this;exact this
  have jos:s'.os=s3.os:=by have:=J.os;rw [<-hX'] at this;exact this
  have hC:H' s3.heap.objs.size=none:=by have:=J.free;rw [eEnv] at this;exact this
  have hok':aW X.prog X.w H' s'.heap:=by have:=J.hok;rw [eP,eW] at this;exact this
  have iM:∀h',Mt s3.heap.objs.size s'.heap h'->aa X Sb σ H' {s' with heap:=h'}:=λh' hs'=>by
   have un':Un (aD X.stack) fp (ao H2 D (.lst [])) H' s3.heap h':=
    ⟨λb o e n h1 h2=>hs'.extBut b o (JW (JC e)) (un.keep b o e n h1 h2),λb o e n h1 h2=>by
     obtain⟨sl,z⟩:=un.slot b o e n h1 h2;exact⟨sl,hs'.extBut b _ (JW (JC e)) z⟩,un.free,λb o e h2=>by
     obtain⟨o',z⟩:=un.there b o e h2;exact⟨o',hs'.extBut b o' (JW (JC e)) z⟩,un.tups,un.frzs,un.tbls⟩
   exact aa.call' (s':={s' with heap:=h'}) I3 jos un' (hok'.but hC hs'.extBut) J.bare λb hb=>⟨(f3 b hb).2.2.2.1,(f3 b hb).2.1,(f3 b hb).2.2.2.2.1,(f3 b hb).2.2.2.2.2⟩
  have nsC:∃m,s'.heap.Ns s3.heap.objs.size m:=by
   obtain⟨m,hn,_⟩:=J.loc;rw [eEnv] at hn;exact⟨m,hn⟩
  exact hQ D s3.heap.objs.size s' H' (M3 I3.lt) (iM s'.heap (.refl ..)) iM q nsC I3.lt
   ⟨hC,λx c e=>by obtain⟨v,o,ho,_⟩:=I3.cell x c e;exact JW (JC ho),λp hp=>JW (JC (I3.pin p hp).1)⟩
 have loop:∀s4:Qt,s4=({s3 with heap:=h₁}:Qt)->
  Rc (Qw X.prog X.w) X.A (.compLoop (.ListComp elt [⟨tg,iter,ifs,0⟩] scope pos) 0 (.ref it) (.ref D) X'.env) (compPost (Qw X.prog X.w) X.A X.xe use Q' (.ref D) s3.heap.objs.size) s4:=by
  rintro s4 rfl;refine Dc (λn s'=>∃i H',aa X' [] (aN k fr σ) H' s'/\tn i s'.heap/\(∀b∈fp,H' b=none)/\W i n H') ?_ m0 ⟨0,_,I4,st4,λb hb=>(f3 b hb).1,w0⟩;rintro n s5 ⟨i,H5,I5,st5,fr5,w5⟩;rcases turn i n H5 w5 with⟨stop,qn⟩ | ⟨go,step⟩
  ·have:=T.done X' eP eW eK eC i [] s5 _ H5 (λ_ _=>False) I5 (fpx fr5) st5 stop;rw [eA] at this;refine ar this λr s6 ⟨hr,I6⟩=>?_;subst hr;exact fin s6 H5 _ I6 qn
  ·have:=T.item X' eP eW eK eC i [] s5 _ H5 (λ_ _=>False) I5 (fpx fr5) st5 go;rw [eA] at this;refine ar this λr s6 ⟨u,hr,h6⟩=>?_;subst hr;refine ar h6 λ_ s7 ⟨x,H7,I7,r7,y7,st7,fr7⟩=>?_;have I7':=I7.pinned (fpx fr7) (T.obj _ _ st7);have h8:=hg' _ s7 _ H7 x u _ I7' r7 (step x H7 y7);rw [eP,eW,eA,eE] at h8;refine ar h8 λ_ s8 ⟨σ8,H8,I8,kp,q8⟩=>?_;have h9:=hf' _ s8 σ8 H8 _ I8 q8;rw [eP,eW,eA,eE] at h9;have again:∀{s9:Qt}{H9:Hp}{n':Nat},aa X' ([]++p5 fp s7.heap) σ8 H9 s9->n' < n->W (i+1) n' H9->∃m,m < n/\∃i H',aa X' [] (aN k fr σ) H' s9/\tn i s9.heap/\(∀b∈fp,H' b=none)/\W i m H':=λ{s9 H9 n'} I9 hn' w9=>by
    refine⟨n',hn',i+1,H9,I9.unpinned.weak kp.1 kp.2,T.keep _ _ _ st7 λb hb o e=>(I9.pin (b,o) (Kc _ (Kc _ (qV hb e)))).1,λb hb=>?_,w9⟩;obtain⟨o,e,d⟩:=T.obj _ _ st7 b hb;exact(I9.pin (b,o) (Kc _ (Kc _ (qV hb e)))).2.1
   refine ar h9 λok s9 ⟨H9,I9,q9⟩=>?_;cases ok with
   | false=>
    rw [Qk Kf] at q9;obtain⟨m',hm',w9⟩:=q9;rw [Qk Kf];exact again I9 hm' w9
   | true=>
    rw [Ql rfl] at q9;rw [Ql rfl];have h10:=he' _ s9 σ8 H9 _ I9 q9;rw [eP,eW,eA,eE] at h10;refine ar h10 λy s10 ⟨yv,H10,I10,r10,ys,hys,hz,m',hm',w10⟩=>?_;have h11:=wX (X:=X') _ s10 σ8 H10 (.ref D) [yv] (.ref D) [y] (λ_ H'=>W (i+1) m' H') I10 rfl (.cons r10 .nil) ⟨D,ys,yv,rfl,rfl,hys,hz,w10⟩;rw [eP,eW,eA,eE] at h11;exact ar h11 λ_ s11 uu54=>by obtain⟨_,H11,I11,_,q11⟩:=uu54;exact again I11 hm' q11
 have hE:({newEnv scope s3.heap.objs.size X.env.globals (rA X scope s3.heap.objs.size) X.env.qual none .none (some X.env) Rv with scope:=relabel scope X.env}:Env)=X'.env:=by
  rw [eEnv];rfl
 have goal:=codeAny_compStart_list (elt:=elt) (target:=tg) (iter:=iter) (ifs:=ifs) (rest:=[]) (scope:=scope) (pos:=pos) (loop _ rfl) (T.self X.A 0 _ _ _ st4 (loop _ rfl));rw [<-hE] at goal;exact goal
theorem uF(hc:X.calm=true)(S:aU X.env.scope X.N N' k fr scope)(hi:PI X tg iter wi)
 (hg:∀fp C s H,PG (bp X scope N' fp C s H) tg g)(hf:∀fp C s H,dS (bp X scope N' fp C s H) ifs tc)(he:∀fp C s H,PE (bp X scope N' fp C s H) elt te)
 (hs:∀x,QI iter X.env x=pure x:=by intro _;rfl):PE X (.ListComp elt [⟨tg,iter,ifs,0⟩] scope pos) (nB wi g tc te k fr):=by
 intro Sb s σ H Q I h;have hcell:∀y∈scope.names,y.2= .free->∃c,X.env.cells.lookup y.1=some c:=λy hy e=>I.ok.has y.1 (S.outer y hy e);rw [eval_ListComp];refine R6 (use:=none) rfl hs (uw hcell) S.kind S.names (w8 hc S hi hg hf he I h ?_);intro D C s' H' hC J iM q ns hlt _;obtain⟨m,hn⟩:=ns;exact⟨m,hn,λh' hs'=>⟨.ref D,H',iM h' hs',rfl,q⟩⟩
theorem Dh{i:Nat}{x:Str}{pos' spos:Pos}(hN:X.N.Nodup)(hxi:X.N[i]?=some x)(hx:iC X.env.scope x)(hc:X.calm=true)(S:aU X.env.scope X.N N' k fr scope)(hi:PI X tg iter wi)
 (hg:∀fp C s H,PG (bp X scope N' fp C s H) tg g)(hf:∀fp C s H,dS (bp X scope N' fp C s H) ifs tc)(he:∀fp C s H,PE (bp X scope N' fp C s H) elt te)
 (hsw:QS (.ListComp elt [⟨tg,iter,ifs,0⟩] scope pos) (some (.Name x pos')) spos.line X.env=pure true)
 (hs:∀x,QI iter X.env x=pure x:=by intro _;rfl)(hfn:X.fn x=true\/X.env.scope.names.lookup x=some .local:=by first | exact .inl rfl | exact .inr rfl | assumption):
 PS X (.Assign [.Name x pos'] (.ListComp elt [⟨tg,iter,ifs,0⟩] scope pos) spos) (oM (nB wi g tc te k fr) (mM i)):=by
 intro Sb s σ H D I h;have hcell:∀y∈scope.names,y.2= .free->∃c,X.env.cells.lookup y.1=some c:=λy hy e=>I.ok.has y.1 (S.outer y hy e);rw [exec_Assign_Name_used _ _ _ _ hsw];refine Qq (wpAny_standAt (Qq ?_));show Qv _ X.A (do let _<-comprehension (.ListComp elt [⟨tg,iter,ifs,0⟩] scope pos) scope X.env _ (newList []) false (eval iter X.env) (some (assign (.Name x pos') X.env))) _ _ s;refine Qq (QM (R6 (use:=some (assign (.Name x pos') X.env)) (Q:=λ_ s'=>∃σ' H',aa X Sb σ' H' s'/\D.nx σ' H') rfl hs (uw hcell) S.kind S.names (w8 hc S hi hg hf he I h ?_)) (λ_ s' hq=>Qu (Qu hq)) λ_ _ e=>e);intro D' C s' H' hC J iM q ns hlt ⟨c1,c2,c3⟩;obtain⟨m,hn⟩:=ns;show Qv _ X.A (assign (.Name x pos') X.env (.ref D')) _ _ _;refine wpAny_assign_Name (v9 J hN hxi hx (v:= .ref D') rfl (λs2 J2 sb=>?_) hfn);obtain⟨a,sb,ha⟩:=sb;have hCa:C≠a:=by
  rcases ha with z | z
  ·rw [z];exact hC
  ·exact Ne.symm (c2 _ _ z)
 refine⟨m,hn.sameBut sb hCa,λh3 hs3=>⟨_,H',?_,q⟩⟩;exact J2.turned (t':=s2.toks) hs3.extBut c1 hC (.inr (Km J.ok.above (Ms hlt))) c2 c3
end
end L2
namespace Att
open PySem PySem.W PySem.Calls PyProof.Rows
theorem Di{ns:List Int}(h:Pd [NY (ns.map MO)]=true):∀n∈ns,LK n<=1048576:=by
 have h1:(NY (ns.map MO)).layable=true:=by simpa [Pd] using h
 have h2:(NY (ns.map MO)).weight<=1048576:=(PySem.W.layableW_iff.mp h1).2.2;have key:∀l:List Int,∀n∈l,LK n<=MV (l.map MO):=by
  intro l
  induction l with
  | nil=>intro n hn;simp at hn
  | cons x r ih=>
   intro n hn;have e:MV ((x::r).map MO)=LK x+1+MV (r.map MO):=by
    rw [JB,MV,PQ];rfl
   rw [e];rcases JF.mp hn with z | z
   ·subst z;omega
   ·have:=ih n z;omega
 intro n hn;have e:(NY (ns.map MO)).weight=MV (ns.map MO):=by rw [PQ]
 rw [e] at h2;exact Km (key ns n hn) h2
theorem attach_callB{l:OpenLaw}{n:Nat}{q:QA}{loose:List Str}{XP:(Str->Option Qr)->QB->Prop}{YP:QE->QB->Prop}{d:DefRec}
 (hn:l.most=some n)(hdf:d.params.defaults=[])
 (call:∀(w:QE) (s₀ s₁:Qt) (mg mb:Str->Option Qr) (fa:Qs) (o:Obj) (pm cd doc:Qr) (a:Qs) (vs:List Qr) (ns:List Int),
  Ground q loose [] XP w s₀ mg mb s₁.heap->YP w s₁.heap->
  s₁.heap.get? fa=some o->o.data= .func (docDef d.name d.params d.body d.scope pm cd doc)->s₁.heap.CodeRec cd d.name->mg d.name=some (.ref fa)->
  s₁.heap.get? a=some {cls:= .type "list",data:= .seq vs.toArray}->IntsAre vs ns->ns.length<=n->(∀z∈ns,LK z<=1048576)->s₁.gens=#[]->
  Rc (Qw l.prog w) callerA (.call (.ref fa) ⟨[.ref a],[]⟩) (λr s'=>r= .ok (.ret (.bool true))/\OldK s₁.heap s'.heap/\s'.os=s₁.os/\Rx s'.gens) s₁):
 WalkO q loose XP YP l.row.toRowW d [] (λf vs=>Qb f vs):=by
 intro w s₀ s₁ mg mb G Y fa o pm cd doc dV kV ho hd hcd hD hmg hg args vals as hpre hlay hrd hwl hlo;obtain rfl:dV= .none:=Dflts.none hD hdf;obtain rfl:kV= .none:=Dflts.noKw hD;obtain⟨a,vs,ns,rfl,rfl,hobj,hints,hlen⟩:=C2 hn hpre hwl;have hb:∀z∈ns,LK z<=1048576:=Di hlay;refine enter_call (Q2 (call w s₀ s₁ mg mb fa o pm cd doc a vs ns G Y ho (fd_plain hd) hcd hmg hobj hints hlen hb hg) λr s' hq=>?_);obtain⟨rfl,h2,h3,h4⟩:=hq;exact⟨.inl ⟨.bool true,.bool true,[],rfl,λ_=>rfl,.bool true,C3 l _,λ_=>⟨List.Pairwise.nil,λ_ hm=>(nomatch hm)⟩⟩,h2,h3,h4⟩
end Att
namespace L2
open PySem PySem.Spec PyProof.Rows
def oR(p:Qs)(H H':Hp):Prop:=∀b o,H b=some o->b≠p->H' b=some o
theorem ai.new{H:Hp}{p:Qs}{o:HO}(h:H p=none):ai H (ao H p o):=λb u e=>by rw [az (cE e h)];exact e
def FR(J:It)(g:TG)(tb:TS)(D:m7)(σ:St)(H1:Hp):Prop:=∃W:Nat->Nat->St->Hp->Prop,(∃m,W 0 m σ H1)/\∀i m σ H,W i m σ H->
 (J.stop i H/\D.nx σ H)\/(J.go i H/\∃N:St->Hp->Prop,(∀σ' H',N σ' H'->∃m',m' < m/\W (i+1) m' σ' H')/\∀x H',J.yld i H x H'->g x σ H' λσ2 H2=>tb {D with nx:=N,ct:=N,bk:=D.nx} σ2 H2)
theorem xa{ta:TA}{g:TG}{tb:TS}:pZ (t5 ta) g tb=λD σ H=>ta σ H λvs H1=>∃j:Int,vs=[.int j]/\-(2 ^ 62)<=j/\j < 2 ^ 62/\FR (m9 0 j.toNat) g tb D σ H1:=rfl
theorem xb{ta:TA}{g:TG}{tb:TS}:pZ (wt ta) g tb=λD σ H=>ta σ H λvs H1=>∃i j:Int,vs=[.int i,.int j]/\(-(2 ^ 62)<=i/\i < 2 ^ 62/\-(2 ^ 62)<=j/\j < 2 ^ 62)/\FR (m9 i (j - i).toNat) g tb D σ H1:=rfl
theorem xc{K:Ju}{tl:TE}{g:TG}{tb:TS}:pZ (tW K tl) g tb=λD σ H=>tl σ H λx H1=>∃a,x= .ref a/\(∃xs,aS K H1 a xs)/\FR (pX K a) g tb D σ H1:=rfl
theorem xf{K:Ju}{tl:TE}{g:TG}{tb:TS}:pZ (tX K tl) g tb=λD σ H=>tl σ H λx H1=>∃a,x= .ref a/\(∃xs,bw K H1 a xs)/\FR (pY K a) g tb D σ H1:=rfl
def oT(J:It)(g:TG)(tc:TT)(te:TE)(k:Nat)(fr:List Nat)(σ:St)(H1:Hp)(Q:VK):Prop:=∀D,H1 D=none->∃W:Nat->Nat->Hp->Prop,(∃m,W 0 m (ao H1 D (.lst [])))/\∀i m H,W i m H->
 (J.stop i H/\Q (.ref D) H)\/(J.go i H/\∀x H',J.yld i H x H'->g x (aN k fr σ) H' λσ2 H2=>n5 (aN k fr σ) σ2/\tc σ2 H2 λok H3=>
  if ok=true then te σ2 H3 λy H4=>∃ys,H4 D=some (.lst ys)/\ys.length < Qz/\∃m',m' < m/\W (i+1) m' (ao H4 D (.lst (ys++[y])))
  else ∃m',m' < m/\W (i+1) m' H3)
theorem xh{ta:TA}{g:TG}{tc:TT}{te:TE}{k:Nat}{fr:List Nat}:nB (t5 ta) g tc te k fr=λσ H Q=>ta σ H λvs H1=>∃j:Int,vs=[.int j]/\-(2 ^ 62)<=j/\j < 2 ^ 62/\oT (m9 0 j.toNat) g tc te k fr σ H1 Q:=rfl
theorem xi{ta:TA}{g:TG}{tc:TT}{te:TE}{k:Nat}{fr:List Nat}:nB (wt ta) g tc te k fr=λσ H Q=>ta σ H λvs H1=>∃i j:Int,vs=[.int i,.int j]/\(-(2 ^ 62)<=i/\i < 2 ^ 62/\-(2 ^ 62)<=j/\j < 2 ^ 62)/\oT (m9 i (j - i).toNat) g tc te k fr σ H1 Q:=rfl
theorem xj{K:Ju}{tl:TE}{g:TG}{tc:TT}{te:TE}{k:Nat}{fr:List Nat}:nB (tW K tl) g tc te k fr=λσ H Q=>tl σ H λx H1=>∃a,x= .ref a/\(∃xs,aS K H1 a xs)/\oT (pX K a) g tc te k fr σ H1 Q:=rfl
theorem xk{K:Ju}{tl:TE}{g:TG}{tc:TT}{te:TE}{k:Nat}{fr:List Nat}:nB (tX K tl) g tc te k fr=λσ H Q=>tl σ H λx H1=>∃a,x= .ref a/\(∃xs,bw K H1 a xs)/\oT (pY K a) g tc te k fr σ H1 Q:=rfl
theorem Dj{fr:List Nat}{σ:St}{v:Option V}:n5 (aN 1 fr σ) ((aN 1 fr σ).set 0 v):=by
 refine⟨Qo,λi w h=>?_⟩;cases i with
 | zero=>simp [aN,JU] at h
 | succ i=>simpa [aN,JU] using h
theorem cxK{CX:dz}{P:QA}{w:QE}{K:Ju}{mg:Str->Option Qr}{base:QB}{N:List Str}{qual:Str}{scope:QP}{f:Qs}{cd:Qr}{A:QF}{outer:List Env}{s:Qt}{H:Hp}{E:XK}:(bo CX P w K mg base N qual scope f cd A outer s H E).K=K:=rfl
theorem cmK{X:Cx}{scope:QP}{N':List Str}{fp:List Qs}{C:Qs}{s:Qt}{H:Hp}:(bp X scope N' fp C s H).K=X.K:=rfl
theorem iG:QL "isinstance"=some (.builtin "isinstance"):=Qh
theorem rC:QL "int"=some (.type "int"):=Qh
theorem uG:QL "bool"=some (.type "bool"):=Qh
theorem Dk:QL "str"=some (.type "str"):=Qh
theorem nE:QL "tuple"=some (.type "tuple"):=Qh
open PySem PySem.Spec PyProof.Rows PySem.W
def aV(P:QA)(w:QE):dz:=λouter H s E ev s'=>∃(e:Qs)(cls a0:Qr)(B:QB)(H':Hp),ev= .ref e/\s'.os=s.os/\Rx s'.gens/\OP B outer e cls a0 s'.heap/\aW P w H' B/\
 Un (aD outer) [] H H' s.heap s'.heap/\(∀b o,s.heap.get? b=some o->H b=none->b ∉ aD outer->B.get? b=some o)/\(∀b o,s.heap.get? b=some o->b ∉ aD outer->∃o',B.get? b=some o')/\E cls none H'
theorem aW.hide{P:QA}{w:QE}{H:Hp}{h:QB}{as:List Qs}(x:aW P w H h)(hn:∀b∈as,H b=none):aW P w H (hideAll h as):=λa o e=>by
 refine(x a o e).stay (λb u hb q=>RE _ q λhm=>?_) (λ_ q=>q) (λ_ _ q=>q) λ_ _ q=>q;have z:=hn b hm;rcases hb with r | r
 ·rw [r] at z;rw [z] at e;cases e
 ·rw [z] at r;cases r
section
variable {P:QA} {w:QE} {K:Ju} {mg:Str->Option Qr} {base:QB} {N:List Str} {qual:Str} {scope:QP} {f:Qs} {cd:Qr} {A:QF} {outer:List Env} {s:Qt} {H:Hp} {E:XK}
theorem Dm{Sb:List (Qs×Obj)}{σ:St}{H1:Hp}{s1:Qt}{h':QB}{e:Qs}{cls:Qr}{args:List Qr}
 (I:aa (bo (aV P w) P w K mg base N qual scope f cd A outer s H E) Sb σ H1 s1)(hx:PD s1.heap h' e cls args)(q:E cls none H1):
 (bo (aV P w) P w K mg base N qual scope f cd A outer s H E).xe (.ref e) {s1 with heap:=h'}:=by
 have st:=I.stack;have sf:=I.stkFree;have ub:Un (aD outer) [] H H1 s.heap s1.heap:=I.base;have fo:s1.heap.FunFrames base outer:=I.funs;have hin:∀env∈(bo (aV P w) P w K mg base N qual scope f cd A outer s H E).stack,∀a,env.frame=some a->a∈aD (bo (aV P w) P w K mg base N qual scope f cd A outer s H E).stack:=λenv he a hf=>Mu.mpr ⟨env,he,hf⟩;show Qv (Qw P w) _ (leaving _ (.ref e)) _ _ _;refine wpAny_leaves_madeW (base:=hideAll s1.heap (aD (bo (aV P w) P w K mg base N qual scope f cd A outer s H E).stack)) (h:=s1.heap) I.ok.frames rfl (λb o z=>of_hideAll _ z) (funFrames_hide st hin) hx λh2 t x1 x2 x3 x4=>?_;have nst:∀b o,s.heap.get? b=some o->b ∉ aD outer->b ∉ aD (bo (aV P w) P w K mg base N qual scope f cd A outer s H E).stack:=λb o eb hb hm=>by
  rcases JF.mp (I.stkSub b hm) with z | z
  ·have h1:=JC eb;have h2:=I.ok.above;rw [<-z] at h2;exact absurd (JX h1 h2) (Le _)
  ·exact hb z
 have up:∀b∈aD outer,∀o,s1.heap.get? b=some o->∃sl,h2.get? b=some {o with slots:=sl}:=λb hb o eo=>by
  obtain⟨_,o',ho',hd⟩:=fo.mem hb;rw [eo] at ho';cases ho';exact x4 b o (hx.keeps _ _ eo) hd
 refine⟨e,cls,.ref t,_,H1,rfl,I.os,I.bare,x1,I.hok.hide sf,⟨λb o eb n hb hx'=>?_,λb o eb n hb hx'=>?_,ub.free,λb o eb hx'=>?_,ub.tups,ub.frzs,ub.tbls⟩,λb o eb n hb=>?_,λb o eb hb=>?_,q⟩
 ·exact x1.1 b o (RE _ (ub.keep b o eb n hb hx') (nst b o eb hb))
 ·obtain⟨sl,es⟩:=ub.slot b o eb n hb hx';obtain⟨sl',es'⟩:=up b hb _ es;exact⟨sl',es'⟩
 ·obtain⟨o',eo'⟩:=ub.there b o eb hx';by_cases hb:b∈aD outer
  ·obtain⟨sl',es'⟩:=up b hb _ eo';exact⟨_,es'⟩
  ·exact⟨o',x1.1 b o' (RE _ eo' (nst b o eb hb))⟩
 ·exact RE _ (ub.keep b o eb n hb Qo) (nst b o eb hb)
 ·obtain⟨o',eo'⟩:=ub.there b o eb Qo;exact⟨o',RE _ eo' (nst b o eb hb)⟩
theorem Dp{E':XK}(hE:∀cls d H',E' cls d H'->E cls d H'):p9 (aV P w) (bo (aV P w) P w K mg base N qual scope f cd A outer s H E) E':=by
 intro Sb σ H1 s1 ev s2 I h;obtain⟨e,cls,a0,B,H2,rfl,ho,hg,fl,hb,un,kb,th,q⟩:=h;have ub:Un (aD outer) [] H H1 s.heap s1.heap:=I.base;have stk:(bo (aV P w) P w K mg base N qual scope f cd A outer s H E).stack=Rj qual scope s.heap.objs.size f cd::outer:=rfl;show Qv (Qw P w) _ (leaving _ (.ref e)) _ _ _;refine wpAny_leaves_onW I.ok.frames rfl fl λh2 x1 x2=>?_;have nst:∀b o,s.heap.get? b=some o->b ∉ aD outer->b ∉ aD (bo (aV P w) P w K mg base N qual scope f cd A outer s H E).stack:=λb o eb hb hm=>by
  rcases JF.mp (I.stkSub b hm) with z | z
  ·have h1:=JC eb;have h2:=I.ok.above;rw [<-z] at h2;exact absurd (JX h1 h2) (Le _)
  ·exact hb z
 have sub:∀b∈aD outer,b∈aD (bo (aV P w) P w K mg base N qual scope f cd A outer s H E).stack:=λb hb=>by
  rw [stk];unfold aD;rw [L7];exact Ka _ hb
 have up:∀b∈aD outer,∀o,s2.heap.get? b=some o->∃sl,h2.get? b=some {o with slots:=sl}:=λb hb o eo=>by
  obtain⟨_,o',ho',hd⟩:=fl.2.2.1.mem (sub b hb);rw [eo] at ho';cases ho';exact x2 b o eo hd
 have kB:∀b o,s.heap.get? b=some o->H b=none->b ∉ aD outer->B.get? b=some o:=λb o eb n hb=>kb b o (ub.keep b o eb n hb Qo) (ub.free b o eb n Qo) (nst b o eb hb);have tB:∀b o,s.heap.get? b=some o->b ∉ aD outer->∃o',B.get? b=some o':=λb o eb hb=>by
  obtain⟨o',eo'⟩:=ub.there b o eb Qo;exact th b o' eo' (nst b o eb hb)
 refine⟨e,cls,a0,B,H2,rfl,ho.trans I.os,hg,x1,hb,⟨λb o eb n hb' hx'=>x1.1 b o (kB b o eb n hb'),λb o eb n hb' hx'=>?_,λb o eb n hx'=>?_,λb o eb hx'=>?_,λb xs z=>un.tups b xs (ub.tups b xs z),λb o u z=>un.frzs b o u (ub.frzs b o u z),λb ps z=>?_⟩,kB,tB,hE _ _ _ q⟩
 ·obtain⟨sl,es⟩:=ub.slot b o eb n hb' hx';obtain⟨sl1,es1⟩:=un.slot b _ es (ub.free b o eb n hx') (sub b hb') Qo;obtain⟨sl2,es2⟩:=up b hb' _ es1;exact⟨sl2,es2⟩
 ·obtain⟨o',eo'⟩:=ub.there b o eb hx';exact un.free b o' eo' (ub.free b o eb n hx') Qo
 ·by_cases hb':b∈aD outer
  ·obtain⟨o',eo'⟩:=ub.there b o eb hx';obtain⟨o2,eo2⟩:=un.there b o' eo' Qo;obtain⟨sl',es'⟩:=up b hb' _ eo2;exact⟨_,es'⟩
  ·obtain⟨o',eo'⟩:=tB b o eb hb';exact⟨o',x1.1 b o' eo'⟩
 ·obtain⟨m1,e1⟩:=ub.tbls b ps z;obtain⟨m2,e2⟩:=un.tbls b _ e1;exact⟨m1++m2,by rw [e2,NF]⟩
end
theorem uH{K:Ju}{h:QB}{mg:Str->Option Qr}{x:Str}{C:Qs}{bmB:List Qr}{newId:String}(X:K.In h)(hm:mg x=some (.ref C))(q:Ma K C bmB newId=true):OwnCls x C bmB newId mg h:=by
 refine⟨hm,?_⟩;unfold Ma at q;split at q
 ·rename_i dd cd sl ho;split at q
  ·rename_i C' bm k0 k1 k2 k3 n k5 hm hs;simp only [Kn,beq_iff_eq,Ko] at q;obtain⟨⟨⟨⟨⟨rfl,rfl⟩,hdel⟩,ht⟩,hok⟩,hni⟩:=q;obtain⟨nm,bs,mro,ns,qn,hd,sn,sub,ab,col,del⟩:=cd;dsimp only at hm hdel hok hni;subst hm hdel;have hsl:sl=#[k0,k1,k2,k3,some (.builtin n),k5]:=by
    obtain⟨l⟩:=sl;simp only at hs;rw [hs]
   subst hsl;exact⟨bm,ns,nm,qn,bs,hd,sn,sub,ab,col,dd,k0,k1,k2,k3,k5,_,X _ _ ho,.of_isNs (isNs_of_in X hok),nsMap_none_of_in X hok hni,tail_of_in X ht⟩
  ·cases q
 ·cases q
section
variable {X:Cx}
def xn(ta:TA)(Ex:Hp->Prop):TS:=λ_ σ H=>ta σ H λvs H1=>vs.length<=Qz/\Ex H1
theorem Dq{x:Str}{C:Qs}{bm:List Qr}{B newId initId:String}{e:Qx}{es:List Qx}{np cpos pos:Pos}{ta:TA}{Ex:Hp->Prop}(hm:X.mg x=some (.ref C))(O:Ma X.K C bm newId=true)(FB:ExcBaseFacts B newId initId bm)(hc:X.calm=true)
 (hg:Gl X x)(ha:PA X (e::es) ta)(hxe:∀(Sb:List (Qs×Obj)) (σ:St) (H:Hp) (s:Qt) (h':QB) (e:Qs) (args:List Qr),aa X Sb σ H s->PD s.heap h' e (.ref C) args->Ex H->X.xe (.ref e) {s with heap:=h'})
 (hd:(x==("__debug__":Str))=false:=by decide)(he:Qy (e::es) X.env=(false,eval e X.env)::Qy es X.env:=by rfl)(hpl:(QN cpos (Qy es X.env)).any (·.1)=false:=by rfl):
 PS X (.Raise (some (.Call (.Name x np) (e::es) [] cpos)) none pos) (xn ta Ex):=by
 intro Sb s σ H D I h;obtain⟨tl,N,nm,q,bs,hdct,sn,sub,ab,col,dd,k0,k1,k2,k3,k5,mN,hC,hN,hni,T⟩:=(uH (x:=x) I.ok.mod.kin hm O).obj;have h':=ha cpos Sb s σ H _ I h;refine wpAny_Raise_call_subT (C:=C) (nm:=nm) (q:=q) (N:=N) (bs:=bs) (bm:=tl) (hdct:=hdct) (sn:=sn) (sub:=sub) (ab:=ab) (col:=col) (dd:=dd) (k0:=k0) (k1:=k1) (k2:=k2) (k3:=k3) (k5:=k5)
  FB (mN:=mN) (T.hasType FB.hasBase) (I.ok.hd hc) (by rw [he];show(false || (QN cpos (Qy es X.env)).any (·.1))=false;rw [hpl];rfl) hni (oH I hg hm ⟨rfl,?_⟩ hd)
 rw [he] at h'⊢;refine Nu (ar h' λus s1 uu55=>by obtain⟨vs,H1,I1,r,hz,q1⟩:=uu55;exact⟨rfl,by rw [<-r.length];exact hz,I1.bk _ _ hC,hN.keeps I1.bk,T.keeps I1.bk,λh2 e2 hm2=>hxe Sb σ H1 s1 h2 e2 us I1 hm2 q1⟩)
end
section
variable {P:QA} {w:QE} {K:Ju} {mg:Str->Option Qr} {base:QB}
theorem dB.okR{x qual:Str}{st:QH}{f:Qs}{fd:QC}{N ps:List Str}{k:Nat}{sp:Sp}(F:dB K x qual st f fd)(S:bj N ps (ax st))(len:∀vs H Q E,sp vs H Q E->vs.length=ps.length)
 (hbody:∀(cdv:Qr) (A:QF) (outer:List Env) (s:Qt) (H:Hp) (vs:List V) (Q:VK) (E:XK),aP k (A.deeper (Rj qual (ax st) s.heap.objs.size f cdv))->sp vs H Q E->
  ∃t,bu (bo (aV P w) P w K mg base N qual (ax st) f cdv A outer s H E) (fu st) t/\t {nx:=λ_ H'=>Q .non H',rt:=Q} (start N vs) H):aB P w K mg base (aV P w) (k+1) f fd ps sp:=by
 obtain⟨oc,od,kV,doc,pm,an,cdv,ct,osl,rfl,lk,hcd⟩:=F.ex;exact uj lk hcd S len λA outer s H vs Q E hr hsp=>hbody cdv A outer s H vs Q E hr hsp
end
section
variable {M:Model} {A:QF} {E:Qr->Qt->Prop}
variable {nm q:Str} {C N:Qs} {bs bm:List Qr} {hdct:Bool} {sn:List Str} {sub:List Qr} {ab:Bool} {col:Option Bool} {dd:Option Qs} {k0 k1 k2 k3 k5:Option Qr} {newId:String}
variable {nm' q':Str} {C' N':Qs} {bs' bm':List Qr} {hdct':Bool} {sn':List Str} {sub':List Qr} {ab':Bool} {col':Option Bool} {dd':Option Qs} {k0' k1' k2' k3' k5':Option Qr} {newId':String}
theorem Dr{h:QB}{g:Array R9}{d:Drawn}{t:Nat}{os:OsState}{e:Qs}{oe:Obj}{Q:Bool->Qt->Prop}
 (hC:h.get? C=some (excClassObj nm q C N bs bm hdct sn sub ab col dd k0 k1 k2 k3 k5 newId))(hC':h.get? C'=some (excClassObj nm' q' C' N' bs' bm' hdct' sn' sub' ab' col' dd' k0' k1' k2' k3' k5' newId'))
 (he:h.get? e=some oe)(hcls:oe.cls= .ref C)(hbase:bm'.contains (.type "BaseException")=true)(hin:(JY C::bm).contains (.ref C')=true)
 (hq:Q true ⟨h,g,d,t,os⟩):Qv M A (excMatches (.ref e) (.ref C')) Q E ⟨h,g,d,t,os⟩:=by
 have hcB:(JY C'::bm').contains (.type "BaseException")=true:=by rw [OQ,hbase,PR]
 have f:=tc_notTuple;unfold excMatches
 repeat (first | (with_reducible refine wpAny_loadPart_at he ?_;rw [hcls]) | with_reducible refine wpAny_loadPart_at hC' ?_ | (with_reducible refine wpAny_isSubtype_exc hC' ?_;rw [hcB]) | (with_reducible refine wpAny_isSubtype_exc hC ?_;rw [hin]) | wp_step)
 exact hq
end
section
variable {X:Cx} {Sb:List (Qs×Obj)} {σ:St} {H:Hp} {s:Qt}
theorem xp{M:Model}{A:QF}{E:Qr->Qt->Prop}{i:Nat}{x:Str}{pos:Pos}{Q:Unit->Qt->Prop}(I:aa X Sb σ H s)(hN:X.N.Nodup)(hi:X.N[i]?=some x)(hx:X.env.scope.names.lookup x=some .local)
 (h:∀s',aa X Sb (σ.set i none) H s'->Q () s'):Qv M A (do bindName X.env x .none;unbindBehindTheSuite X.env x pos) Q E s:=by
 have hcls:(X.env.scope.kind== .class || (X.env.scope.kind== .module && X.env.locals !=X.env.globals))=false:=by rw [I.ok.kind];rfl
 have hiσ:i < σ.length:=by rw [I.len];exact(JH.mp hi).1
 refine Qq (wpAny_bindName (oG I hN hi (.inl hx) (v:= .non) rfl (λs1 I1=>?_) (.inr hx)));obtain⟨m,hn,hl⟩:=id I1.loc;obtain⟨u0,r0,lk⟩:=hl i x .non hi (by rw [J0 hiσ]) (.inl hx);have hv:∃v,m x=some v:=by
  rcases lk with⟨_,z⟩ | ⟨z,_⟩
  ·exact⟨_,z⟩
  ·rcases z with z | z
   ·exact absurd (z.symm.trans hx) Qo
   ·exact absurd (z.symm.trans hx) Qo
 obtain⟨v,hv⟩:=hv;unfold unbindBehindTheSuite;refine wpAny_onRaise (QM (wpAny_unbindName_local (E:=λ_ _=>False) hx hn hv hcls λh' u hn' hs=>?_) (λ_ _ z=>z) λ_ _ z=>z.elim);obtain⟨oL,_,_,hoL,_⟩:=id hn;have cne:=I1.cne;have tracked:aW X.prog X.w H h':=λb ob e=>by
  refine(I1.hok b ob e).stay (λc w' hc q=>(hs.2 c ?_).trans q) (λ_ q=>q) (λ_ _ q=>q) λ_ _ q=>q;rintro rfl;rcases hc with z | hc
  ·rw [<-z,I1.free] at e;cases e
  ·rw [I1.free] at hc;cases hc
 refine h _ ⟨I1.ok,I1.os,I1.bare,⟨λb o e n hb hx'=>?_,λb o e n hb hx'=>?_,I1.base.free,λb o e hx'=>?_,I1.base.tups,I1.base.frzs,I1.base.tbls⟩,⟨_,hn',λj y v' e1 e2 e3=>?_⟩,λy c e=>?_,I1.free,I1.freeC,λp hp=>?_,tracked,by simpa using I.len⟩
 ·exact(hs.2 b (JW (JX (JC e) I.ok.above))).trans (I1.base.keep b o e n hb hx')
 ·obtain⟨sl,e1⟩:=I1.base.slot b o e n hb hx';exact⟨sl,(hs.2 b (JW (JX (JC e) I.ok.above))).trans e1⟩
 ·obtain⟨o',e1⟩:=I1.base.there b o e hx';exact⟨o',(hs.2 b (JW (JX (JC e) I.ok.above))).trans e1⟩
 ·by_cases hj:j=i
  ·subst hj;rw [J0 hiσ] at e2;cases e2
  ·rw [JV (Ne.symm hj)] at e2;obtain⟨u',r',q⟩:=hl j y v' e1 (by rw [JV (Ne.symm hj)];exact e2) e3;refine⟨u',r',?_⟩;rcases q with⟨k,e⟩ | ⟨k,c,e,z⟩
   ·refine .inl ⟨k,?_⟩;have:y≠x:=λe=>hj (tF hN e1 (e▸hi));simp [this,e]
   ·exact .inr ⟨k,c,e,z.sameBut hs (cne y c e)⟩
 ·obtain⟨w',z⟩:=I1.cell y c e;exact⟨w',z.sameBut hs (cne y c e)⟩
 ·obtain⟨e,n,ne,nf,d⟩:=I1.pin p hp;exact⟨(hs.2 p.1 ne).trans e,n,ne,nf,d⟩
end
def bQ(e:Qs)(C:Qr)(h:QB):Prop:=∃o,h.get? e=some o/\o.cls=C
theorem bx.there{P:QA}{w:QE}{H:Hp}{h:QB}{a:Qs}{o:HO}(x:bx P w H h a o):∃ob,h.get? a=some ob:=by
 cases o with
 | lst xs=>obtain⟨_,_,_,_,e⟩:=x;exact⟨_,e⟩
 | tup xs=>obtain⟨_,_,_,ob,e,_⟩:=x;exact⟨_,e⟩
 | dK kvs=>obtain⟨_,_,_,_,o,_,_,e,_⟩:=x;exact⟨_,e⟩
 | dT kvs=>obtain⟨_,_,_,_,o,_,_,e,_⟩:=x;exact⟨_,e⟩
 | set S n=>obtain⟨o,_,_,_,e,_⟩:=x;exact⟨_,e⟩
 | ins C dx fs=>obtain⟨_,_,_,e,_⟩:=x;exact⟨_,e⟩
 | own y=>exact x
 | xd fs=>obtain⟨_,⟨_,_,_,e,_⟩,_⟩:=x;exact⟨_,e⟩
 | rng lo hi=>obtain⟨_,_,_,e⟩:=x;exact⟨_,e⟩
 | frz ob u=>obtain⟨e,_⟩:=x;exact⟨_,e⟩
 | tbl ps=>obtain⟨_,_,_,_,e,_⟩:=x;exact⟨_,e⟩
 | cod q=>obtain⟨_,_,_,e,_⟩:=x;exact⟨_,e⟩
 | met f y=>exact⟨_,(show h.get? a=some _ from x)⟩
 | ext φ=>exact x.2.1
theorem xq{X:Cx}{outer:List Env}{H H':Hp}{h h1 h2 B:QB}{e:Qs}{cls a0:Qr}(un:Un (aD outer) [] H H' h h1)(fl:OP B outer e cls a0 h1)(st:B.StaysIn h2)(sm:h1.UpToSlots h2)
 (kb:∀b o,h.get? b=some o->H b=none->b ∉ aD outer->B.get? b=some o)(th:∀b o,h.get? b=some o->b ∉ aD outer->∃o',B.get? b=some o'):Un (aD outer) [] H H' h h2:=by
 have up:∀b∈aD outer,∀o,h1.get? b=some o->∃sl,h2.get? b=some {o with slots:=sl}:=λb hb o eo=>by
  obtain⟨_,o',ho',hd⟩:=fl.2.2.1.mem hb;rw [eo] at ho';cases ho';exact sm b o eo hd
 refine⟨λb o eb n hb _=>st b o (kb b o eb n hb),λb o eb n hb hx=>?_,un.free,λb o eb hx=>?_,un.tups,un.frzs,un.tbls⟩
 ·obtain⟨sl,es⟩:=un.slot b o eb n hb hx;obtain⟨sl',es'⟩:=up b hb _ es;exact⟨sl',es'⟩
 ·by_cases hb:b∈aD outer
  ·obtain⟨o',eo'⟩:=un.there b o eb hx;obtain⟨sl',es'⟩:=up b hb _ eo';exact⟨_,es'⟩
  ·obtain⟨o',eo'⟩:=th b o eb hb;exact⟨o',st b o' eo'⟩
abbrev Cx.inEx(X:Cx)(e:Qs):Cx:={X with A:=X.A.mark (some (.ref e)),calm:=false,xe:=λ_ _=>False}
theorem Cx.Ok.inEx{X:Cx}(ok:X.Ok)(e:Qs):(X.inEx e).Ok:=
 ⟨ok.mod,ok.kind,ok.glob,ok.blt,ok.above,ok.inj,ok.has,ok.cab,λz=>absurd z Qo,ok.frames,ok.stk,ok.exf,ok.bs,ok.bsz,ok.noex,ok.exfs,ok.funs,ok.frf⟩
theorem Cx.Ok.outEx{X:Cx}{e:Qs}(ok:(X.inEx e).Ok)(hd:X.calm=true->X.A.handled=none):X.Ok:=
 ⟨ok.mod,ok.kind,ok.glob,ok.blt,ok.above,ok.inj,ok.has,ok.cab,hd,ok.frames,ok.stk,ok.exf,ok.bs,ok.bsz,ok.noex,ok.exfs,ok.funs,ok.frf⟩
section
variable {X:Cx} {Sb:List (Qs×Obj)} {σ:St} {H:Hp} {s:Qt}
theorem aa.inEx(I:aa X Sb σ H s)(e:Qs):aa (X.inEx e) Sb σ H s:=⟨I.ok.inEx e,I.os,I.bare,I.base,I.loc,I.cell,I.free,I.freeC,I.pin,I.hok,I.len⟩
theorem aa.outEx{e:Qs}(I:aa (X.inEx e) Sb σ H s)(hd:X.calm=true->X.A.handled=none):aa X Sb σ H s:=⟨I.ok.outEx hd,I.os,I.bare,I.base,I.loc,I.cell,I.free,I.freeC,I.pin,I.hok,I.len⟩
end
theorem Ds{K:Ju}{h:QB}{C C':Qs}{nm qn:Str}{N:Qs}{bs bm:List Qr}{hdct:Bool}{sn:List Str}{sub:List Qr}{ab:Bool}{col:Option Bool}{dd:Option Qs}{k0 k1 k2 k3 k5:Option Qr}{newId:String}(X:K.In h)(e:MC K C (.ref C')=some true)
 (hC:h.get? C=some (excClassObj nm qn C N bs bm hdct sn sub ab col dd k0 k1 k2 k3 k5 newId)):(JY C::bm).contains (.ref C')=true:=by
 obtain⟨cd,a,b⟩:=Option.bind_eq_some_iff.mp e;unfold PySem.W.clsIn at a;split at a
 ·rename_i ho;cases a;have z:=(X _ _ ho).symm.trans hC;have z1:cd.mro=JY C::bm:=by unfold excClassObj at z;cases z;rfl
  split at b
  ·cases b
  ·rw [z1] at b;exact Kp b
 ·cases a
section
variable {X:Cx}
theorem xt{bs:List Bool}{its:List Qr}(r:aA (bs.map V.bl) its):its=bs.map Mq:=by
 induction bs generalizing its with
 | nil=>cases r;rfl
 | cons b bs ih=>
  rw [JB] at r;cases r with
  | cons r1 r2=>
   rw [JB,<-ih r2];exact congrArg (·::_) r1
theorem Du(bs:List Bool)(f:Nat->Bool)(h:∀i,i < bs.length->f i=bs.getD i true):(KQ bs.length).all f=bs.all id:=by
 rw [Od,Mo,Mo];constructor
 ·intro z b hb;obtain⟨i,hi,e⟩:=Nz hb;have:=z i (Mn.mpr hi);rw [h i hi,Mb,JN hi] at this;rw [<-e];exact this
 ·intro z i hi;have hi:=Mn.mp hi;rw [h i hi,Mb,JN hi];exact z _ (KY hi)
theorem Dv(bs:List Bool)(f:Nat->Bool)(h:∀i,i < bs.length->f i=bs.getD i true):(KQ bs.length).any f=bs.any id:=by
 rw [Od,MK,MK];constructor
 ·rintro⟨i,hi,z⟩;have hi:=Mn.mp hi;rw [h i hi,Mb,JN hi] at z;exact⟨_,KY hi,z⟩
 ·rintro⟨b,hb,z⟩;obtain⟨i,hi,e⟩:=Nz hb;refine⟨i,Mn.mpr hi,?_⟩;rw [h i hi,Mb,JN hi];show bs[i]=true;rw [e];exact z
theorem xu{bs:List Bool}{i:Nat}{v:Qr}(h:(bs.map Mq).toArray[i]?=some v):v= .bool (bs.getD i true):=by
 have h':(bs.map Mq)[i]?=some v:=by simpa using h
 rw [JD] at h';cases e:bs[i]? with
 | none=>rw [e] at h';cases h'
 | some b=>
  rw [e] at h';rw [Mb,e];exact(Kp h').symm
theorem xv{prog:QA}{w:QE}{A:QF}{E:Qr->Qt->Prop}{s:Qt}{l:Qs}{items:Array Qr}{Q:Qr->Qt->Prop}(hl:s.heap.IsList l items)
 (h:∀s₂:Qt,s₂={s with heap:=s.heap.push {cls:= .type "list_iterator",data:= .fields #[.ref l,.int 0 0]}}->
  (s₂.heap.IsListIter s.heap.objs.size l 0/\s₂.heap.IsList l items)->l≠s.heap.objs.size->Q (.ref s.heap.objs.size) s₂):Qv (Qw prog w) A (pyIter (.ref l)) Q E s:=by
 have hlt:l < s.heap.objs.size:=by obtain⟨_,e,_⟩:=hl;exact JC e
 exact R3 hl (h _ rfl ⟨⟨_,JR _ rfl,rfl,rfl⟩,hl.push _⟩ (JW hlt))
theorem Dw(hc:X.calm=true):cj X (.builtin "all") (λxs H Q=>∃(a:Qs)(bs:List Bool),xs=[.ref a]/\aS X.K H a (bs.map V.bl)/\Q (.bl (bs.all id)) H):=by
 intro Sb s σ H xs us Q I r h;obtain⟨a,bs,rfl,hl,q⟩:=h;obtain⟨u,rfl,rx⟩:=dR r;cases rx;obtain⟨its,rv,p,hz⟩:=I.list hl;have hi:=xt rv;subst hi;refine call_all_walk (xv p.isList λs₂ e st hlI=>?_);subst e;refine⟨_,_,_,_,_,_,λi=>bs.getD i true,rfl,Pn (A:=X.A.in1) (I.ok.hd hc) _ a hlI _,st,λi v s' Q' E' hP hq=>by rw [xu hP];exact QX hq,λh' tk hk=>?_⟩;have e:=Du bs (λi=>bs.getD i true) λ_ _=>rfl;have e2:(J1 Mq bs).toArray.size=bs.length:=Qo
 rw [e2,e];exact⟨.bl (bs.all id),H,I.kept (old_kept hk),rfl,q⟩
theorem uI(hc:X.calm=true):cj X (.builtin "any") (λxs H Q=>∃(a:Qs)(bs:List Bool),xs=[.ref a]/\aS X.K H a (bs.map V.bl)/\Q (.bl (bs.any id)) H):=by
 intro Sb s σ H xs us Q I r h;obtain⟨a,bs,rfl,hl,q⟩:=h;obtain⟨u,rfl,rx⟩:=dR r;cases rx;obtain⟨its,rv,p,hz⟩:=I.list hl;have hi:=xt rv;subst hi;refine call_any_walk (xv p.isList λs₂ e st hlI=>?_);subst e;refine⟨_,_,_,_,_,_,λi=>bs.getD i true,rfl,Pn (A:=X.A.in1) (I.ok.hd hc) _ a hlI _,st,λi v s' Q' E' hP hq=>by rw [xu hP];exact QX hq,λh' tk hk=>?_⟩;have e:=Dv bs (λi=>bs.getD i true) λ_ _=>rfl;have e2:(J1 Mq bs).toArray.size=bs.length:=Qo
 rw [e2,e];exact⟨.bl (bs.any id),H,I.kept (old_kept hk),rfl,q⟩
end
open PySem PySem.Spec PyProof.Rows PySem.W PySem.Calls PySem.Builtin.ObjectAttr PySem.Builtin PySem.Builtin.Getset_descriptor
section
variable {prog:QA} {w:QE} {A:QF} {E:Qr->Qt->Prop} {s:Qt} {K:Ju} {x C:Qs}
theorem bQ.type{M:Model}{h:QB}(p:bQ x (.ref C) h):Looks M h (typeOf (.ref x)) (.ref C):=by
 obtain⟨o,h1,h2⟩:=p;exact h2▸(Looks.ld h1).andThen .now
theorem Dx{tp:Qr}{R:Result->Qt->Prop}(X:K.In s.heap)(p:bQ x (.ref C) s.heap)(hm:mroIn K C (.type "object")=some true)(hq:R (.ok (.ret (.ref C))) s):
 Rc (Qw prog w) A (.call (.builtin "getset_descriptor.__get__") ⟨[.builtin "object.__class__",.ref x,tp],[]⟩) R s:=by
 obtain⟨hh,gg,dr,tt,os⟩:=s;have LT:=bQ.type (M:=Qw prog w) p;have LM:=looks_mroIn (M:=Qw prog w) X hm;refine RN KF.slot_gs.plain KF.entry_gs (KF.slot_gs.check _ _ _ _ _ _ _ _ KF.type_class (KF.args_gs _ _ _) ?_);unfold Builtin.«getset_descriptor.__get__» descrGet;rw [dga_obj];refine Qq (Qu ?_);unfold descrGetter descrCheckInstance descrNameAndClass isInstance;simp only [KF.owner_class]
 repeat lk
 refine⟨OR _ Qh,Q5 KF.entry_class ?_⟩;unfold Builtin.«object.__class__» shownTypeOf;(repeat lk);exact hq
structure iH (K:Ju) (C:Qs):Prop where
 ga:findIn K (.ref C) "__getattribute__"=some (some (.builtin "BaseException.__getattribute__"))
 hk:findIn K (.ref C) "__getattr__"=some none
 cl:findIn K (.ref C) "__class__"=some (some (.builtin "object.__class__"))
 gt:specialIn K (.builtin "object.__class__") "__get__"=some (some (.builtin "getset_descriptor.__get__"))
 tk:takesIn K (.builtin "object.__class__")=some true
 ob:mroIn K C (.type "object")=some true
 be:mroIn K C (.type "BaseException")=some true
 cd:(clsIn K C).isSome=true
theorem Dy{nameV:Qr}{Q:Unit->Qt->Prop}(Z:iH K C)(X:K.In s.heap)(p:bQ x (.ref C) s.heap)(hq:Q () s):
 Qv (Qw prog w) A (R7 "BaseException.__getattribute__" ⟨[.ref x,nameV],[]⟩) Q E s:=by
 have hk:builtinKind "BaseException.__getattribute__"=some .slot:=Qh
 have hsp:splitId "BaseException.__getattribute__"=some ("BaseException","__getattribute__"):=Qh
 have ha:=F.args_bexc_ga (.ref x) nameV;have LI:Looks (Qw prog w) s.heap (isInstance (.ref x) (.type "BaseException")) true:=(bQ.type p).andThen (looks_mroIn X Z.be);simp only [R7,hk,hsp];refine Qq (LI.at ?_)
 repeat (first | wp_step)
 exact hq
theorem Dz{tk:Tok}{Q:Fin->Qt->Prop}(Z:iH K C)(X:K.In s.heap)(p:bQ x (.ref C) s.heap)(hq:Q (.done (.ret (.ref C))) s):
 Qv (Qw prog w) A (Builtin.«object.__getattribute__» ⟨[.ref x,.str "__class__" tk],[]⟩) Q E s:=by
 obtain⟨hh,gg,dr,tt,os⟩:=s;have L0:=bQ.type (M:=Qw prog w) p;have L1:=looks_findIn (M:=Qw prog w) X Z.cl;have L2:=looks_specialIn (M:=Qw prog w) X Z.gt;have L3:=looks_takesIn (M:=Qw prog w) X Z.tk;have LF:Looks (Qw prog w) hh (PySem.Builtin.ObjectAttr.find (.ref x) (.ref C) "__class__") (.bind (.builtin "getset_descriptor.__get__") (.builtin "object.__class__")):=
  L1.andThen (L2.andThen ((show Looks (Qw prog w) hh (dataDescriptor? (some (.builtin "object.__class__")) (some (.builtin "getset_descriptor.__get__"))) (some (.builtin "getset_descriptor.__get__",.builtin "object.__class__")) from L3.andThen .now).andThen (Looks.tag .now)))
 unfold Builtin.«object.__getattribute__»
 repeat (first | with_reducible refine Qq (L0.at ?_) | with_reducible refine Qq (LF.at ?_) | wp_step)
 refine Dx X p Z.ob ?_
 repeat (first | wp_step)
 exact hq
theorem DC{tk:Tok}{R:Result->Qt->Prop}(Z:iH K C)(X:K.In s.heap)(p:bQ x (.ref C) s.heap)(hq:R (.ok (.ret (.ref C))) s):
 Rc (Qw prog w) A (.call (.builtin "BaseException.__getattribute__") ⟨[.ref x,.str "__class__" tk],[]⟩) R s:=
 RN F.excAttr_ValueError.ga.plain F.entry_bexc_ga (Dy Z X p (Dz Z X p hq))
theorem DD{tk:Tok}{Q:Qr->Qt->Prop}(Z:iH K C)(X:K.In s.heap)(p:bQ x (.ref C) s.heap)(hq:Q (.ref C) s):
 Qv (Qw prog w) A (getAttrBy (.ref x) (.str "__class__" tk) false) Q E s:=by
 obtain⟨hh,gg,dr,tt,os⟩:=s;have L0:=bQ.type (M:=Qw prog w) p;have L1:=looks_findIn (M:=Qw prog w) X Z.ga;have L2:=looks_findIn (M:=Qw prog w) X Z.hk;have f3:=F.excAttr_ValueError.ga.bind (.ref x);have hx0:(false && onTheHeap (Nk "BaseException.__getattribute__"))=false:=rfl;have hx2:(Nk "BaseException.__getattribute__"==Nk "object.__getattribute__")=false:=Qh
 have hx1:(onTheHeap (JY C) && Nk "BaseException.__getattribute__"==Nk "object.__getattribute__")=false:=by rw [hx2];rfl
 repeat (first | with_reducible refine Qq (L0.at ?_) | with_reducible refine Qq (L1.at ?_) | with_reducible refine L2.at ?_ | wp_step)
 refine DC (s:=⟨hh,gg,dr,tt,os⟩) Z X p ?_
 repeat (first | wp_step)
 exact hq
theorem DH{Q:Option Qr->Qt->Prop}(Z:iH K C)(X:K.In s.heap)(p:bQ x (.ref C) s.heap)(hq:Q (some (.ref C)) {s with toks:=s.toks+1}):
 Qv (Qw prog w) A (getAttr? (.ref x) "__class__") Q E s:=by
 obtain⟨hh,gg,dr,tt,os⟩:=s;unfold getAttr? getAttrBy?
 repeat (any_goals (first | assumption | with_reducible apply DD (s:=⟨hh,gg,dr,tt+1,os⟩) Z X p | wp_step))
theorem xw(Z:iH K C):KitX K (.ref x) (.ref C) (bQ x (.ref C)) where
 ty:=λM h _ p=>bQ.type p
 it:=λM h X _=>by
  obtain⟨cdD,hcD⟩:=Mi.mp Z.cd;unfold clsIn at hcD;split at hcD
  ·rename_i ho;intro A' Q' E' s' k q;unfold isType loadHead;exact Qq (wpAny_loadPart (k _ _ (X _ _ ho)) (Qu q))
  ·cases hcD
 ne:=λh tp dd its n sl X htp=>by
  obtain⟨cdD,hcD⟩:=Mi.mp Z.cd;refine Bool.eq_false_iff.mpr λq=>?_;have e:=JY.inj (beq_iff_eq.mp q);subst e;unfold clsIn at hcD;split at hcD
  ·rename_i ho;have z:=(X _ _ ho).symm.trans htp;cases z
  ·cases hcD
 ca:=λX p k=>DH Z X p k
end
section
variable {X:Cx}
theorem DI:cj X (.builtin "isinstance") (λxs H Q=>∃(e C:Qs)(c:V)(cv:Qr)(b:Bool),xs=[.ref e,c]/\H e=some (.ext (bQ e (.ref C)))/\iH X.K C/\(∀u,ay c u->u=cv)/\M8 X.K (.ref C) cv=some b/\Q (.bl b) H):=by
 intro Sb s σ H xs us Q I r h;obtain⟨e,C,c,cv,b,rfl,he,Z,hc,hk,q⟩:=h;obtain⟨u,w',rfl,rx,rt⟩:=p7 r;cases (show u=JY e from rx);have:=hc _ rt;subst this;have p:bQ e (.ref C) s.heap:=(show bx X.prog X.w H s.heap e (.ext (bQ e (.ref C))) from I.hok e _ he).1;exact PySem.W.kia_one (xw Z) I.kIn p hk (λz=>nomatch z) λtk=>⟨.bl b,H,I.tok tk,rfl,q⟩
end
section
variable {X:Cx}
abbrev bJ(d:Qp):Prop:=Lk d=true
theorem DJ{cs:List Qs}{its:List Qr}(r:aA (cs.map V.ref) its):its=cs.map JY:=by
 induction cs generalizing its with
 | nil=>cases r;rfl
 | cons b bs ih=>
  rw [JB] at r;cases r with
  | cons r1 r2=>
   rw [JB,<-ih r2];exact congrArg (·::_) r1
theorem DK:cj X (.builtin "isinstance") (λxs H Q=>∃(e C q:Qs)(cs:List Qs)(b:Bool),xs=[.ref e,.ref q]/\H e=some (.ext (bQ e (.ref C)))/\H q=some (.tup (cs.map V.ref))/\iH X.K C/\NC X.K (.ref C) (cs.map JY)=some b/\Q (.bl b) H):=by
 intro Sb s σ H xs us Q I r h;obtain⟨e,C,q,cs,b,rfl,he,hq,Z,hk,k⟩:=h;obtain⟨u,w',rfl,rx,rt⟩:=p7 r;cases (show u=JY e from rx);cases (show w'=JY q from rt);have p:bQ e (.ref C) s.heap:=(show bx X.prog X.w H s.heap e (.ext (bQ e (.ref C))) from I.hok e _ he).1;obtain⟨its,rv,⟨⟨oc,od,odt,osl⟩,eo,c,n,dd⟩,_⟩:=I.tuple (bw.of hq);have:=DJ rv;subst this;simp only at c dd;subst c dd;exact PySem.W.kia_tup (xw Z) I.kIn p eo hk (λz=>nomatch z) λtk=>⟨.bl b,H,I.tok tk,rfl,k⟩
end
theorem DL:QL "all"=some (.builtin "all"):=Qh
theorem uJ:QL "any"=some (.builtin "any"):=Qh
theorem DM:QL "ValueError"=some (.type "ValueError"):=Qh
def DN(p:Qs)(h:QB):Prop:=∃(n:Int)(t:Tok)(k:Nat),h.get? p=some {cls:= .type "list",data:= .seq #[.int n t] k}
abbrev DP(p:Qs):HO:= .ext (DN p)
abbrev uK:Qp:= .dict [(.none,.none)]
def DQ(p:Qs)(h:QB):Prop:=∃(a b c:Int)(t u v:Tok)(k:Nat),h.get? p=some {cls:= .type "list",data:= .seq #[.int a t,.int b u,.int c v] k}
abbrev DR(p:Qs):HO:= .ext (DQ p)
abbrev DU:Qp:= .dict [(.none,.bool true)]
abbrev cN(ds:List Qp):Qp:= .dict [(.none,.list ds)]
abbrev xx(C:Qs)(kp ds:List Qp):Qp:= .dict [(.none,.tuple [.int (C:Int),.list kp,.list ds])]
abbrev xy(kp ds:List Qp):Qp:= .dict [(.bool true,.tuple [.list kp,.list ds])]
abbrev Ex:=Qs->Prop
abbrev rD:Hp:=λ_=>none
mutual
inductive Dt (K:Ju) (H:Hp) (O:Ex):V->Qp->Prop
 | non:Dt K H O .non .none
 | bl (b:Bool):Dt K H O (.bl b) (.bool b)
 | int (i:Int):Dt K H O (.int i) (.int i)
 | str (x:Str):Dt K H O (.str x) (.str x)
 | tup {a:Qs} {xs:List V} {ds:List Qp}:Rd H a (.tup xs)->¬O a->ah K H O xs ds->Dt K H O (.ref a) (.tuple ds)
 | tupK {a:Qs} {xs:List V} {ds:List Qp}:bw K rD a xs->ah K H O xs ds->Dt K H O (.ref a) (.tuple ds)
 | lst {a:Qs} {xs:List V} {ds:List Qp}:Rd H a (.lst xs)->¬O a->ah K H O xs ds->Dt K H O (.ref a) (.list ds)
 | pack {p:Qs}:H p=some (DP p)->¬O p->Dt K H O (.ref p) uK
 | purse {p:Qs}:H p=some (DR p)->¬O p->Dt K H O (.ref p) DU
 | dct0 {a:Qs}:H a=some (.dK [])->¬O a->Dt K H O (.ref a) (.dict [])
 | obj {a C dx:Qs} {fs:List (Str×V)} {kp ds:List Qp}:H a=some (.ins C dx fs)->kp=fs.map (λp=>JA p.1)->¬O a->ah K H O (fs.map (·.2)) ds->Dt K H O (.ref a) (xx C kp ds)
 | dic {a:Qs} {ob:Obj} {kv:List (ag×V)} {ks:List Str} {kp ds:List Qp}:H a=some (.frz ob (.dK kv))->kv.map (·.1)=ks.map LQ->kp=ks.map JA->¬O a->ah K H O (kv.map (·.2)) ds->Dt K H O (.ref a) (xy kp ds)
 | scr {a:Qs} {xs:List V} {ds:List Qp}:(Rd H a (.lst xs)/\¬O a)\/aS K rD a xs->ah K H O xs ds->Dt K H O (.ref a) (cN ds)
inductive ah (K:Ju) (H:Hp) (O:Ex):List V->List Qp->Prop
 | nil:ah K H O [] []
 | cons {v:V} {d:Qp} {vs:List V} {ds:List Qp}:Dt K H O v d->ah K H O vs ds->ah K H O (v::vs) (d::ds)
end
theorem Rd.same{H H':Hp}{a:Qs}{u:HO}(s:∀o,H a=some o->H' a=some o)(h:Rd H a u):Rd H' a u:=by
 rcases h with h | ⟨o,h⟩
 ·exact .inl (s _ h)
 ·exact .inr ⟨o,s _ h⟩
theorem Rd.trk{H:Hp}{a:Qs}{u:HO}(h:Rd H a u):H a≠none:=by
 rcases h with h | ⟨o,h⟩ <;> rw [h] <;> exact λz=>nomatch z
section
variable {K:Ju}
structure aG (H H':Hp) (O O':Ex):Prop where
 keep:∀b o,H b=some o->¬O b->H' b=some o
 out:∀b,H b≠none->¬O b->¬O' b
mutual
theorem Dt.step{H H':Hp}{O O':Ex}(S:aG H H' O O'):∀{v:V}{d:Qp},Dt K H O v d->Dt K H' O' v d
 | _,_,.non=>.non
 | _,_,.bl b=>.bl b
 | _,_,.int i=>.int i
 | _,_,.str x=>.str x
 | _,_,.tup h n r=>.tup (h.same λo e=>S.keep _ o e n) (S.out _ h.trk n) (ah.step S r)
 | _,_,.tupK h r=>.tupK h (ah.step S r)
 | _,_,.lst h n r=>.lst (h.same λo e=>S.keep _ o e n) (S.out _ h.trk n) (ah.step S r)
 | _,_,.pack h n=>.pack (S.keep _ _ h n) (S.out _ (by rw [h];exact λz=>nomatch z) n)
 | _,_,.purse h n=>.purse (S.keep _ _ h n) (S.out _ (by rw [h];exact λz=>nomatch z) n)
 | _,_,.dct0 h n=>.dct0 (S.keep _ _ h n) (S.out _ (by rw [h];exact λz=>nomatch z) n)
 | _,_,.obj h e n r=>.obj (S.keep _ _ h n) e (S.out _ (by rw [h];exact λz=>nomatch z) n) (ah.step S r)
 | _,_,.dic h e1 e2 n r=>.dic (S.keep _ _ h n) e1 e2 (S.out _ (by rw [h];exact λz=>nomatch z) n) (ah.step S r)
 | _,_,.scr h r=>.scr (h.imp (λh=>⟨h.1.same λo e=>S.keep _ o e h.2,S.out _ h.1.trk h.2⟩) id) (ah.step S r)
theorem ah.step{H H':Hp}{O O':Ex}(S:aG H H' O O'):∀{vs:List V}{ds:List Qp},ah K H O vs ds->ah K H' O' vs ds
 | _,_,.nil=>.nil
 | _,_,.cons h r=>.cons (Dt.step S h) (ah.step S r)
end
theorem aG.same{H H':Hp}{O:Ex}(s:ai H H'):aG H H' O O:=⟨λb o e _=>s b o e,λ_ _ n=>n⟩
theorem Dt.mono{H H':Hp}{O:Ex}{v:V}{d:Qp}(s:ai H H')(h:Dt K H O v d):Dt K H' O v d:=h.step (.same s)
theorem ah.mono{H H':Hp}{O:Ex}{v:List V}{d:List Qp}(s:ai H H')(h:ah K H O v d):ah K H' O v d:=h.step (.same s)
theorem ah.length{H:Hp}{O:Ex}:∀{vs:List V}{ds:List Qp},ah K H O vs ds->vs.length=ds.length
 | _,_,.nil=>rfl
 | _,_,.cons _ r=>by rw [JS,JS,ah.length r]
theorem ah.get{H:Hp}{O:Ex}:∀{vs:List V}{ds:List Qp}{i:Nat}{v:V},ah K H O vs ds->vs[i]?=some v->∃d,ds[i]?=some d/\Dt K H O v d
 | _,_,_,_,.nil,e=>by simp at e
 | _,_,0,_,.cons h _,e=>by simp at e;subst e;exact⟨_,rfl,h⟩
 | _,_,i+1,_,.cons _ r,e=>by simpa using ah.get (i:=i) r (by simpa using e)
theorem ah.getD{H:Hp}{O:Ex}:∀{vs:List V}{ds:List Qp}{i:Nat}{d:Qp},ah K H O vs ds->ds[i]?=some d->∃v,vs[i]?=some v/\Dt K H O v d
 | _,_,_,_,.nil,e=>by simp at e
 | _,_,0,_,.cons h _,e=>by simp at e;subst e;exact⟨_,rfl,h⟩
 | _,_,i+1,_,.cons _ r,e=>by simpa using ah.getD (i:=i) r (by simpa using e)
theorem ah.append{H:Hp}{O:Ex}:∀{vs ws:List V}{ds es:List Qp},ah K H O vs ds->ah K H O ws es->ah K H O (vs++ws) (ds++es)
 | _,_,_,_,.nil,s=>s
 | _,_,_,_,.cons h r,s=>.cons h (ah.append r s)
theorem ah.take{H:Hp}{O:Ex}:∀{vs:List V}{ds:List Qp}(n:Nat),ah K H O vs ds->ah K H O (vs.take n) (ds.take n)
 | _,_,0,_=>.nil
 | _,_,_+1,.nil=>.nil
 | _,_,n+1,.cons h r=>.cons h (ah.take n r)
theorem ah.drop{H:Hp}{O:Ex}:∀{vs:List V}{ds:List Qp}(n:Nat),ah K H O vs ds->ah K H O (vs.drop n) (ds.drop n)
 | _,_,0,r=>r
 | _,_,_+1,.nil=>.nil
 | _,_,n+1,.cons _ r=>ah.drop n r
theorem ah.reverse{H:Hp}{O:Ex}:∀{vs:List V}{ds:List Qp},ah K H O vs ds->ah K H O vs.reverse ds.reverse
 | _,_,.nil=>.nil
 | _,_,.cons h r=>by rw [Nd,Nd];exact(ah.reverse r).append (.cons h .nil)
theorem ah.ints{H:Hp}{O:Ex}:∀(ns:List Int),ah K H O (ns.map V.int) (ns.map JM)
 | []=>.nil
 | n::r=>.cons (.int n) (ah.ints r)
inductive Sh (K:Ju) (H:Hp) (O:Ex):V->Qp->Prop
 | dt {v:V} {d:Qp}:Dt K H O v d->Sh K H O v d
 | own {l:Qs} {vs:List V} {ds:List Qp}:H l=some (.lst vs)->ah K H O vs ds->Sh K H O (.ref l) (.list ds)
theorem Sh.mono{H H':Hp}{O:Ex}{v:V}{d:Qp}(s:ai H H'):Sh K H O v d->Sh K H' O v d
 | .dt h=>.dt (h.mono s)
 | .own h r=>.own (s _ _ h) (r.mono s)
theorem Dt.all{H:Hp}{O:Ex}{v:V}{d:Qp}(h:Dt K H O v d):Dt K H (λ_=>False) v d:=h.step ⟨λ_ _ e _=>e,λ_ _ _ z=>z⟩
theorem ah.all{H:Hp}{O:Ex}{v:List V}{d:List Qp}(h:ah K H O v d):ah K H (λ_=>False) v d:=h.step ⟨λ_ _ e _=>e,λ_ _ _ z=>z⟩
theorem Sh.all{H:Hp}{O:Ex}{v:V}{d:Qp}:Sh K H O v d->Dt K H (λ_=>False) v d
 | .dt h=>h.all
 | .own h r=>.lst (.inl h) (λz=>z) r.all
theorem bw.of0{H:Hp}{a:Qs}{xs:List V}(h:bw K rD a xs):bw K H a xs:=by
 rcases h with(h | ⟨o,h⟩) | h
 ·cases h
 ·cases h
 ·exact .inr h
theorem aS.of0{H:Hp}{a:Qs}{xs:List V}(h:aS K rD a xs):aS K H a xs:=by
 rcases h with(h | ⟨o,h⟩) | h
 ·cases h
 ·cases h
 ·exact .inr h
theorem Sh.tup{H:Hp}{O:Ex}{v:V}{ds:List Qp}(h:Sh K H O v (.tuple ds)):∃a xs,v= .ref a/\bw K H a xs/\ah K H O xs ds:=by
 cases h with
 | dt h=>
  cases h with
  | tup h _ r=>exact⟨_,_,rfl,.inl h,r⟩
  | tupK h r=>exact⟨_,_,rfl,h.of0,r⟩
theorem Sh.lstR{H:Hp}{O:Ex}{v:V}{ds:List Qp}(h:Sh K H O v (.list ds)):∃a xs,v= .ref a/\Rd H a (.lst xs)/\ah K H O xs ds:=by
 cases h with
 | dt h=>
  cases h with
  | lst h _ r=>exact⟨_,_,rfl,h,r⟩
 | own h r=>exact⟨_,_,rfl,.inl h,r⟩
theorem Sh.lst{H:Hp}{O:Ex}{v:V}{ds:List Qp}(h:Sh K H O v (.list ds)):∃a xs,v= .ref a/\aS K H a xs/\ah K H O xs ds:=by
 obtain⟨a,xs,e,h,r⟩:=h.lstR;exact⟨a,xs,e,.inl h,r⟩
theorem Sh.scr{H:Hp}{O:Ex}{v:V}{ds:List Qp}(h:Sh K H O v (cN ds)):∃a xs,v= .ref a/\aS K H a xs/\ah K H O xs ds:=by
 cases h with
 | dt h=>
  cases h with
  | scr h r=>
   rcases h with h | h
   ·exact⟨_,_,rfl,.inl h.1,r⟩
   ·exact⟨_,_,rfl,h.of0,r⟩
theorem Sh.int{H:Hp}{O:Ex}{v:V}{i:Int}(h:Sh K H O v (.int i)):v= .int i:=by cases h with | dt h=>cases h;rfl
theorem Sh.bl{H:Hp}{O:Ex}{v:V}{i:Bool}(h:Sh K H O v (.bool i)):v= .bl i:=by cases h with | dt h=>cases h;rfl
theorem Sh.str{H:Hp}{O:Ex}{v:V}{i:Str}(h:Sh K H O v (.str i)):v= .str i:=by cases h with | dt h=>cases h;rfl
theorem Sh.non{H:Hp}{O:Ex}{v:V}(h:Sh K H O v .none):v= .non:=by cases h with | dt h=>cases h;rfl
def cO:Qp->Bool
 | .none | .bool _ | .int _ | .str _=>true
 | _=>false
end
section
variable {X:Cx} {Sb:List (Qs×Obj)} {σ:St} {H:Hp} {s:Qt}
mutual
theorem iI(I:aa X Sb σ H s){O:Ex}:∀{v:V}{d:Qp}{u:Qr},Dt X.K H O v d->d.canLay0=true->ay v u->∃as,Reads s.heap u d as
 | _,_,_,.non,_,r=>by cases r;exact⟨_,Reads.none⟩
 | _,_,_,.bl b,_,r=>by cases r;exact⟨_,Reads.bool b⟩
 | _,_,_,.int i,_,r=>by obtain⟨t,rfl⟩:=r;exact⟨_,Reads.int i t⟩
 | _,_,_,.str x,_,r=>by obtain⟨t,rfl⟩:=r;exact⟨_,Reads.str x t⟩
 | _,_,_,.tup h _ hs,c,r=>by
  cases r;obtain⟨its,rv,⟨o,e,c',n,dd⟩,_⟩:=I.tuple (.inl h);obtain⟨as,q⟩:=rE I hs (by simpa [Ke] using c) rv;exact⟨as,reads_tuple_at e c' dd (by simpa using q)⟩
 | _,_,_,.tupK h hs,c,r=>by
  cases r;obtain⟨its,rv,⟨o,e,c',n,dd⟩,_⟩:=I.tuple h.of0;obtain⟨as,q⟩:=rE I hs (by simpa [Ke] using c) rv;exact⟨as,reads_tuple_at e c' dd (by simpa using q)⟩
 | _,_,_,.lst h _ hs,c,r=>by
  cases r;obtain⟨its,rv,⟨o,n,e,c',_,dd⟩,_⟩:=I.list (.inl h);obtain⟨as,q⟩:=rE I hs (by simpa [Ke] using c) rv;exact⟨_,reads_list_at e c' dd (by simpa using q)⟩
 | _,_,_,.pack _ _,c,_=>by simp [Ke] at c
 | _,_,_,.purse _ _,c,_=>by simp [Ke] at c
 | _,_,_,.dct0 _ _,c,_=>by simp [Ke] at c
 | _,_,_,.obj _ _ _ _,c,_=>by simp [Ke] at c
 | _,_,_,.dic _ _ _ _ _,c,_=>by simp [Ke] at c
 | _,_,_,.scr _ _,c,_=>by simp [Ke] at c
theorem rE(I:aa X Sb σ H s){O:Ex}:∀{vs:List V}{ds:List Qp}{us:List Qr},ah X.K H O vs ds->LJ ds=true->aA vs us->∃as,ReadsAll s.heap us ds as
 | _,_,_,.nil,_,r=>by cases r;exact⟨_,ReadsAll.nil⟩
 | _,_,_,.cons h hs,c,r=>by
  rw [LJ,Kn] at c;cases r with
  | cons r1 r2=>
   obtain⟨as,q⟩:=iI I h c.1 r1;obtain⟨bs,p⟩:=rE I hs c.2 r2;exact⟨_,ReadsAll.cons q p⟩
end
end
inductive Sl where
 | v (d:Qp)
 | o (ds:List Qp)
 | k (kd:List (ag×Qp))
 | i (l C:Qs) (fd:List (Str×Qp))
 | r (l C g u:Qs) (fd:List (Str×Qp)) (gd ud:List (ag×Qp))
 | b (ds:List Qp)
abbrev Dl:=List (Option Sl)
inductive aT (K:Ju) (H:Hp) (O:Ex):List (ag×V)->List (ag×Qp)->Prop
 | nil:aT K H O [] []
 | cons {k:ag} {v:V} {d:Qp} {r:List (ag×V)} {s:List (ag×Qp)}:Dt K H O v d->aT K H O r s->aT K H O ((k,v)::r) ((k,d)::s)
theorem aT.step{K:Ju}{H H':Hp}{O O':Ex}(S:aG H H' O O'){r:List (ag×V)}{s:List (ag×Qp)}(h:aT K H O r s):aT K H' O' r s:=by
 induction h with
 | nil=>exact .nil
 | cons a _ ih=>exact .cons (a.step S) ih
theorem aT.mono{K:Ju}{H H':Hp}{O:Ex}(S:ai H H'){r:List (ag×V)}{s:List (ag×Qp)}(h:aT K H O r s):aT K H' O r s:=h.step (.same S)
def uL(K:Ju)(H:Hp)(O:Ex)(fs:List (Str×V))(fd:List (Str×Qp)):Prop:=fs.map (·.1)=fd.map (·.1)/\ah K H O (fs.map (·.2)) (fd.map (·.2))
def Sl.own:Sl->Prop
 | .v _=>False
 | .b _=>False
 | _=>True
abbrev DV:Str:=Jt "gone"
abbrev DW:Str:=Jt "used"
def xA(K:Ju)(H:Hp)(O0 O:Ex)(l C g u:Qs)(fd:List (Str×Qp))(gd ud:List (ag×Qp)):Prop:=∃dx fs og ou gv uv,H l=some (.ins C dx (fs++[(DV,.ref g),(DW,.ref u)]))/\uL K H O fs fd/\g≠u/\
 (O g/\¬O0 g/\H g=some (.frz og (.dK gv))/\aT K H O gv gd)/\(O u/\¬O0 u/\H u=some (.frz ou (.dK uv))/\aT K H O uv ud)
def nh(K:Ju)(H:Hp)(O0 O:Ex)(x:Option V):Option Sl->Prop
 | none=>True
 | some (.v d)=>∃v,x=some v/\Dt K H O v d
 | some (.o ds)=>∃l vs,x=some (.ref l)/\O l/\¬O0 l/\H l=some (.lst vs)/\ah K H O vs ds
 | some (.k kd)=>∃l kv,x=some (.ref l)/\O l/\¬O0 l/\H l=some (.dK kv)/\aT K H O kv kd
 | some (.i l C fd)=>∃dx fs,x=some (.ref l)/\O l/\¬O0 l/\H l=some (.ins C dx fs)/\uL K H O fs fd
 | some (.r l C g u fd gd ud)=>x=some (.ref l)/\O l/\¬O0 l/\xA K H O0 O l C g u fd gd ud
 | some (.b ds)=>∃l vs,x=some (.ref l)/\O0 l/\H l=some (.lst vs)/\ah K H O vs ds
structure Wd (K:Ju) (H0:Hp) (O0:Ex) (H:Hp) (O:Ex) (σ:St) (δ:Dl):Prop where
 same:ai H0 H
 sub:∀l,O0 l->O l
 new:∀l,O l->O0 l\/H0 l=none
 trk:∀l,O l->H l≠none
 len:σ.length=δ.length
 sl:∀(i:Nat) y,δ[i]?=some y->nh K H O0 O ((σ[i]?).join) y
 dis:∀(i j:Nat) y z l,δ[i]?=some (some y)->y.own->δ[j]?=some (some z)->z.own->σ[i]?=some (some (.ref l))->σ[j]?=some (some (.ref l))->i=j
section
variable {K:Ju} {H0 H H':Hp} {O0 O:Ex} {σ:St} {δ:Dl}
theorem nh.mono{x:Option V}{y:Option Sl}(s:ai H H')(h:nh K H O0 O x y):nh K H' O0 O x y:=by
 cases y with
 | none=>exact Ln
 | some y=>
  cases y with
  | v d=>
   obtain⟨v,e,r⟩:=h;exact⟨v,e,r.mono s⟩
  | o ds=>
   obtain⟨l,vs,e,a,b,c,r⟩:=h;exact⟨l,vs,e,a,b,s _ _ c,r.mono s⟩
  | k ds=>
   obtain⟨l,vs,e,a,b,c,r⟩:=h;exact⟨l,vs,e,a,b,s _ _ c,r.mono s⟩
  | i l C ds=>
   obtain⟨dx,vs,e,a,b,c,r1,r2⟩:=h;exact⟨dx,vs,e,a,b,s _ _ c,r1,r2.mono s⟩
  | r l C g u fd gd ud=>
   obtain⟨e,a,b,dx,fs,og,ou,gv,uv,c,⟨r1,r2⟩,ne,⟨g1,g2,g3,g4⟩,u1,u2,u3,u4⟩:=h;exact⟨e,a,b,dx,fs,og,ou,gv,uv,s _ _ c,⟨r1,r2.mono s⟩,ne,⟨g1,g2,s _ _ g3,g4.mono s⟩,u1,u2,s _ _ u3,u4.mono s⟩
  | b ds=>
   obtain⟨l,vs,e,a,c,r⟩:=h;exact⟨l,vs,e,a,s _ _ c,r.mono s⟩
theorem nh.go{O':Ex}{x:Option V}{y:Option Sl}(h:nh K H O0 O x y)(S:aG H H' O O')(kp:∀l o,y.any (λz=>match z with | .v _=>false | .b _=>false | _=>true)=true->x=some (.ref l)->O l->¬O0 l->H l=some o->O' l/\H' l=some o)
 (kp2:∀a o u,O a->¬O0 a->H a=some (.frz o u)->O' a/\H' a=some (.frz o u))(kp3:∀a o,O0 a->H a=some o->H' a=some o):nh K H' O0 O' x y:=by
 cases y with
 | none=>exact Ln
 | some y=>
  cases y with
  | v d=>
   obtain⟨v,e,r⟩:=h;exact⟨v,e,r.step S⟩
  | o ds=>
   obtain⟨l,vs,e,a,b,c,r⟩:=h;exact⟨l,vs,e,(kp l _ rfl e a b c).1,b,(kp l _ rfl e a b c).2,r.step S⟩
  | k ds=>
   obtain⟨l,vs,e,a,b,c,r⟩:=h;exact⟨l,vs,e,(kp l _ rfl e a b c).1,b,(kp l _ rfl e a b c).2,r.step S⟩
  | i l C ds=>
   obtain⟨dx,vs,e,a,b,c,r1,r2⟩:=h;exact⟨dx,vs,e,(kp l _ rfl e a b c).1,b,(kp l _ rfl e a b c).2,r1,r2.step S⟩
  | r l C g u fd gd ud=>
   obtain⟨e,a,b,dx,fs,og,ou,gv,uv,c,⟨r1,r2⟩,ne,⟨g1,g2,g3,g4⟩,u1,u2,u3,u4⟩:=h;exact⟨e,(kp l _ rfl e a b c).1,b,dx,fs,og,ou,gv,uv,(kp l _ rfl e a b c).2,⟨r1,r2.step S⟩,ne,⟨(kp2 _ _ _ g1 g2 g3).1,g2,(kp2 _ _ _ g1 g2 g3).2,g4.step S⟩,(kp2 _ _ _ u1 u2 u3).1,u2,(kp2 _ _ _ u1 u2 u3).2,u4.step S⟩
  | b ds=>
   obtain⟨l,vs,e,a,c,r⟩:=h;exact⟨l,vs,e,a,kp3 _ _ a c,r.step S⟩
theorem Wd.mono(s:ai H H')(w:Wd K H0 O0 H O σ δ):Wd K H0 O0 H' O σ δ:=
 ⟨w.same.trans s,w.sub,w.new,λl h z=>(by
  cases e:H l with
  | none=>exact w.trk l h e
  | some o=>rw [s _ _ e] at z;cases z),w.len,λi y e=>(w.sl i y e).mono s,w.dis⟩
theorem nF{i:Nat}{v:V}(h:(σ[i]?).join=some v):σ[i]?=some (some v):=by
 cases q:σ[i]? with
 | none=>rw [q] at h;cases h
 | some o=>rw [q] at h;rw [show o=some v from h]
theorem Wd.val(w:Wd K H0 O0 H O σ δ){i:Nat}{d:Qp}(e:δ[i]?=some (some (.v d))):∃v,σ[i]?=some (some v)/\Dt K H O v d:=by
 obtain⟨v,h,r⟩:=w.sl i _ e;exact⟨v,nF h,r⟩
theorem Wd.own(w:Wd K H0 O0 H O σ δ){i:Nat}{ds:List Qp}(e:δ[i]?=some (some (.o ds))):∃l vs,σ[i]?=some (some (.ref l))/\O l/\¬O0 l/\H l=some (.lst vs)/\ah K H O vs ds:=by
 obtain⟨l,vs,h,r⟩:=w.sl i _ e;exact⟨l,vs,nF h,r⟩
theorem Wd.ownK(w:Wd K H0 O0 H O σ δ){i:Nat}{kd:List (ag×Qp)}(e:δ[i]?=some (some (.k kd))):∃l kv,σ[i]?=some (some (.ref l))/\O l/\¬O0 l/\H l=some (.dK kv)/\aT K H O kv kd:=by
 obtain⟨l,vs,h,r⟩:=w.sl i _ e;exact⟨l,vs,nF h,r⟩
theorem Wd.ownI(w:Wd K H0 O0 H O σ δ){i:Nat}{l C:Qs}{fd:List (Str×Qp)}(e:δ[i]?=some (some (.i l C fd))):∃dx fs,σ[i]?=some (some (.ref l))/\O l/\¬O0 l/\H l=some (.ins C dx fs)/\uL K H O fs fd:=by
 obtain⟨dx,vs,h,r⟩:=w.sl i _ e;exact⟨dx,vs,nF h,r⟩
theorem Wd.adr(w:Wd K H0 O0 H O σ δ){i:Nat}{y:Sl}(e:δ[i]?=some (some y))(h:y.own):∃l,σ[i]?=some (some (.ref l))/\O l/\¬O0 l:=by
 match y,h,e with
 | .o ds,_,e=>obtain⟨l,vs,a,b,c,_⟩:=w.own e;exact⟨l,a,b,c⟩
 | .k ds,_,e=>obtain⟨l,vs,a,b,c,_⟩:=w.ownK e;exact⟨l,a,b,c⟩
 | .i l C ds,_,e=>obtain⟨dx,vs,a,b,c,_⟩:=w.ownI e;exact⟨l,a,b,c⟩
 | .r l C g u fd gd ud,_,e=>obtain⟨a,b,c,_⟩:=w.sl i _ e;exact⟨l,nF a,b,c⟩
theorem Wd.nofrz(w:Wd K H0 O0 H O σ δ){i:Nat}{y:Sl}{l:Qs}(e:δ[i]?=some (some y))(h:y.own)(hl:σ[i]?=some (some (.ref l)))(o:Obj)(u:HO):H l≠some (.frz o u):=by
 match y,h,e with
 | .o ds,_,e=>obtain⟨l',vs,a,b,c,d,_⟩:=w.own e;rw [hl] at a;cases a;rw [d];exact λz=>nomatch z
 | .k ds,_,e=>obtain⟨l',vs,a,b,c,d,_⟩:=w.ownK e;rw [hl] at a;cases a;rw [d];exact λz=>nomatch z
 | .i l C ds,_,e=>obtain⟨dx,vs,a,b,c,d,_⟩:=w.ownI e;rw [hl] at a;cases a;rw [d];exact λz=>nomatch z
 | .r l C g u fd gd ud,_,e=>obtain⟨a,b,c,_,_,_,_,_,_,d,_⟩:=w.sl i _ e;have a:=nF a;rw [hl] at a;cases a;rw [d];exact λz=>nomatch z
theorem Wd.set(w:Wd K H0 O0 H O σ δ){i:Nat}{v:V}{d:Qp}(h:Dt K H O v d):Wd K H0 O0 H O (σ.set i (some v)) (δ.set i (some (.v d))):=by
 refine⟨w.same,w.sub,w.new,w.trk,by simp [w.len],λj y e=>?_,λj k y z l e1 y1 e2 z2 e3 e4=>?_⟩
 ·by_cases hj:j=i
  ·subst hj;have hl:j < δ.length:=by
    have:=(JH.mp e).1;simpa using this
   rw [J0 hl] at e;cases e;rw [J0 (by rw [w.len];exact hl)];exact⟨v,rfl,h⟩
  ·rw [JV (Ne.symm hj)] at e⊢;exact w.sl j y e
 ·have ne:∀{j:Nat}{y:Sl},(δ.set i (some (.v d)))[j]?=some (some y)->y.own->j≠i:=λ{j y} e ho z=>by
   subst z;by_cases hl:j < δ.length
   ·rw [J0 hl] at e;cases e;exact ho
   ·rw [LR (by simpa using hl)] at e;cases e
  have n1:=ne e1 y1;have n2:=ne e2 z2;rw [JV (Ne.symm n1)] at e1 e3;rw [JV (Ne.symm n2)] at e2 e4;exact w.dis j k y z l e1 y1 e2 z2 e3 e4
theorem Wd.setY(w:Wd K H0 O0 H O σ δ){i:Nat}{p:Qs}{ho:HO}{y0:Sl}(hy:y0.own)(hp:H p=none)(h:∀O',aG H (ao H p ho) O O'->O' p->¬O0 p->nh K (ao H p ho) O0 O' (some (.ref p)) (some y0)):
 Wd K H0 O0 (ao H p ho) (λl=>O l\/l=p) (σ.set i (some (.ref p))) (δ.set i (some y0)):=by
 have sm:ai H (ao H p ho):=ai.new hp;have np:∀l,O l->l≠p:=λl hl z=>w.trk l hl (by rw [z];exact hp);have p0:H0 p=none:=by
  cases e:H0 p with
  | none=>rfl
  | some o=>rw [w.same _ _ e] at hp;cases hp
 have S:aG H (ao H p ho) O (λl=>O l\/l=p):=⟨λb o e _=>sm b o e,λb hb hn z=>z.elim hn λq=>hb (by rw [q];exact hp)⟩;have n0:¬O0 p:=λz=>np p (w.sub p z) rfl;refine⟨w.same.trans sm,λl z=>.inl (w.sub l z),λl z=>z.elim (w.new l) λq=>.inr (by rw [q];exact p0),λl z=>?_,by simp [w.len],λj y e=>?_,λj k y z l e1 y1 e2 z2 e3 e4=>?_⟩
 ·by_cases q:l=p
  ·rw [q,bh];exact λz=>nomatch z
  ·rw [az q];exact w.trk l (z.resolve_right q)
 ·by_cases hj:j=i
  ·subst hj;have hl:j < δ.length:=by
    have:=(JH.mp e).1;simpa using this
   rw [J0 hl] at e;cases e;rw [J0 (by rw [w.len];exact hl)];exact h _ S (.inr rfl) n0
  ·rw [JV (Ne.symm hj)] at e⊢;exact(w.sl j y e).go S (λl o _ _ a _ c=>⟨.inl a,sm _ _ c⟩) (λa o u a1 _ a3=>⟨.inl a1,sm _ _ a3⟩) λa o _ a3=>sm _ _ a3
 ·by_cases hj:j=i
  ·by_cases hk:k=i
   ·rw [hj,hk]
   ·exfalso;rw [hj] at e1 e3;have hl:i < σ.length:=by
     have:=(JH.mp e3).1;simpa using this
    rw [J0 hl] at e3;cases e3;rw [JV (Ne.symm hk)] at e2 e4;obtain⟨l',x1,x2,_⟩:=w.adr e2 z2;rw [e4] at x1;cases x1;exact np _ x2 rfl
  ·by_cases hk:k=i
   ·exfalso;rw [hk] at e2 e4;have hl:i < σ.length:=by
     have:=(JH.mp e4).1;simpa using this
    rw [J0 hl] at e4;cases e4;rw [JV (Ne.symm hj)] at e1 e3;obtain⟨l',x1,x2,_⟩:=w.adr e1 y1;rw [e3] at x1;cases x1;exact np _ x2 rfl
   ·rw [JV (Ne.symm hj)] at e1 e3;rw [JV (Ne.symm hk)] at e2 e4;exact w.dis j k _ _ l e1 y1 e2 z2 e3 e4
theorem Wd.setO(w:Wd K H0 O0 H O σ δ){i:Nat}{p:Qs}{vs:List V}{ds:List Qp}(hp:H p=none)(h:ah K H O vs ds):
 Wd K H0 O0 (ao H p (.lst vs)) (λl=>O l\/l=p) (σ.set i (some (.ref p))) (δ.set i (some (.o ds))):=
 w.setY trivial hp λO' S a b=>⟨p,vs,rfl,a,b,bh,h.step S⟩
theorem Wd.setK(w:Wd K H0 O0 H O σ δ){i:Nat}{p:Qs}{kv:List (ag×V)}{kd:List (ag×Qp)}(hp:H p=none)(h:aT K H O kv kd):
 Wd K H0 O0 (ao H p (.dK kv)) (λl=>O l\/l=p) (σ.set i (some (.ref p))) (δ.set i (some (.k kd))):=
 w.setY trivial hp λO' S a b=>⟨p,kv,rfl,a,b,bh,h.step S⟩
theorem Wd.putY(w:Wd K H0 O0 H O σ δ){i:Nat}{l:Qs}{ho:HO}{y0 y1:Sl}(h0:y0.own)(h1:y1.own)(e:δ[i]?=some (some y0))(hl:σ[i]?=some (some (.ref l)))(h:aG H (ao H l ho) O O->O l->¬O0 l->nh K (ao H l ho) O0 O (some (.ref l)) (some y1)):
 Wd K H0 O0 (ao H l ho) O σ (δ.set i (some y1)):=by
 obtain⟨l',x1,x2,x3⟩:=w.adr e h0;rw [hl] at x1;cases x1;have l0:H0 l=none:=(w.new l x2).resolve_left x3;have S:aG H (ao H l ho) O O:=⟨λb o q n=>by rw [az (λz=>n (by rw [z];exact x2))];exact q,λ_ _ n=>n⟩;have li:i < δ.length:=(JH.mp e).1;refine⟨λb o q=>by rw [az (λz=>by rw [z,l0] at q;cases q)];exact w.same b o q,w.sub,w.new,λb z=>?_,by simp [w.len],λj y q=>?_,λj k y z b e1 y1' e2 z2 e3 e4=>?_⟩
 ·by_cases q:b=l
  ·rw [q,bh];exact λz=>nomatch z
  ·rw [az q];exact w.trk b z
 ·by_cases hj:j=i
  ·subst hj;rw [J0 li] at q;cases q;rw [hl];exact h S x2 x3
  ·rw [JV (Ne.symm hj)] at q;refine(w.sl j y q).go S (λb o ho' e' a1 a2 a3=>⟨a1,?_⟩) (λb o u a1 a2 a3=>⟨a1,by rw [az (λz=>w.nofrz e h0 hl o u (by rw [<-z];exact a3))];exact a3⟩) λb o a1 a3=>by rw [az (λz=>x3 (by rw [<-z];exact a1))];exact a3
   have nb:b≠l:=λz=>by
    subst z
    match y,ho',q with
    | some z,ho',q=>exact hj (w.dis j i z y0 b q (by cases z <;> first | trivial | cases ho') e h0 (nF e') hl)
   rw [az nb];exact a3
 ·have iM:∀{j:Nat}{y:Sl},(δ.set i (some y1))[j]?=some (some y)->y.own->∃y',δ[j]?=some (some y')/\y'.own:=λ{j y} q hq=>by
   by_cases hj:j=i
   ·subst hj;exact⟨_,e,h0⟩
   ·rw [JV (Ne.symm hj)] at q;exact⟨_,q,hq⟩
  obtain⟨_,q1,r1⟩:=iM e1 y1';obtain⟨_,q2,r2⟩:=iM e2 z2;exact w.dis j k _ _ b q1 r1 q2 r2 e3 e4
theorem Wd.putO(w:Wd K H0 O0 H O σ δ){i:Nat}{l:Qs}{vs us:List V}{ds es:List Qp}(e:δ[i]?=some (some (.o ds)))(hl:σ[i]?=some (some (.ref l)))(h:ah K H O us es):
 Wd K H0 O0 (ao H l (.lst us)) O σ (δ.set i (some (.o es))):=
 w.putY (y0:= .o ds) (y1:= .o es) trivial trivial e hl λS a b=>⟨l,us,rfl,a,b,bh,h.step S⟩
theorem Wd.putK(w:Wd K H0 O0 H O σ δ){i:Nat}{l:Qs}{kv:List (ag×V)}{kd kd':List (ag×Qp)}(e:δ[i]?=some (some (.k kd)))(hl:σ[i]?=some (some (.ref l)))(h:aT K H O kv kd'):
 Wd K H0 O0 (ao H l (.dK kv)) O σ (δ.set i (some (.k kd'))):=
 w.putY (y0:= .k kd) (y1:= .k kd') trivial trivial e hl λS a b=>⟨l,kv,rfl,a,b,bh,h.step S⟩
end
abbrev DT:=Dl->(Qp->Prop)->Prop
abbrev DA:=Dl->(List Qp->Prop)->Prop
abbrev DB:=Dl->(Bool->Prop)->Prop
structure ni where
 nx:Dl->Prop
 rt:Qp->Prop
 bk:Dl->Prop:=λ_=>False
 ct:Dl->Prop:=λ_=>False
abbrev DS:=ni->Dl->Prop
section
variable (K:Ju) (H0:Hp) (O0:Ex)
inductive up (t:DT) (σ:St) (H:Hp) (R:VK):Prop
 | mk (O:Ex) (δ:Dl) (Qd:Qp->Prop):Wd K H0 O0 H O σ δ->t δ Qd->(∀d v H',Qd d->ai H H'->Dt K H' O v d->R v H')->up t σ H R
inductive rF (t:DT) (σ:St) (H:Hp) (R:VK):Prop
 | mk (O:Ex) (δ:Dl) (Qd:Qp->Prop):Wd K H0 O0 H O σ δ->t δ Qd->(∀d v H',Qd d->ai H H'->Sh K H' O v d->R v H')->rF t σ H R
inductive dW (t:DA) (σ:St) (H:Hp) (R:List V->Hp->Prop):Prop
 | mk (O:Ex) (δ:Dl) (Qd:List Qp->Prop):Wd K H0 O0 H O σ δ->t δ Qd->(∀ds vs H',Qd ds->ai H H'->ah K H' O vs ds->R vs H')->dW t σ H R
inductive bD (t:DB) (σ:St) (H:Hp) (R:Bool->Hp->Prop):Prop
 | mk (O:Ex) (δ:Dl) (Qd:Bool->Prop):Wd K H0 O0 H O σ δ->t δ Qd->(∀b H',Qd b->ai H H'->R b H')->bD t σ H R
inductive aQ (t:DS) (D:m7) (σ:St) (H:Hp):Prop
 | mk (O:Ex) (δ:Dl) (E:ni):Wd K H0 O0 H O σ δ->t E δ->(∀O' δ' σ' H',E.nx δ'->Wd K H0 O0 H' O' σ' δ'->aG H H' O O'->D.nx σ' H')->(∀d v H',E.rt d->ai H0 H'->Dt K H' O0 v d->D.rt v H')->
 (∀O' δ' σ' H',E.bk δ'->Wd K H0 O0 H' O' σ' δ'->aG H H' O O'->D.bk σ' H')->(∀O' δ' σ' H',E.ct δ'->Wd K H0 O0 H' O' σ' δ'->aG H H' O O'->D.ct σ' H')->aQ t D σ H
end
theorem PE.imp{X:Cx}{e:Qx}{t u:TE}(h:PE X e t)(i:∀σ H Q,u σ H Q->t σ H Q):PE X e u:=λSb s σ H Q I z=>h Sb s σ H Q I (i σ H Q z)
theorem PT.imp{X:Cx}{e:Qx}{t u:TT}(h:PT X e t)(i:∀σ H Q,u σ H Q->t σ H Q):PT X e u:=λSb s σ H Q I z=>h Sb s σ H Q I (i σ H Q z)
theorem PW.imp{X:Cx}{e:Qx}{t u:TT}(h:PW X e t)(i:∀σ H Q,u σ H Q->t σ H Q):PW X e u:=λwh Sb s σ H Q I z=>h wh Sb s σ H Q I (i σ H Q z)
theorem PA.imp{X:Cx}{e:List Qx}{t u:TA}(h:PA X e t)(i:∀σ H Q,u σ H Q->t σ H Q):PA X e u:=λpos Sb s σ H Q I z=>h pos Sb s σ H Q I (i σ H Q z)
theorem PS.imp{X:Cx}{e:QH}{t u:TS}(h:PS X e t)(i:∀D σ H,u D σ H->t D σ H):PS X e u:=λSb s σ H D I z=>h Sb s σ H D I (i D σ H z)
theorem bu.imp{X:Cx}{e:List QH}{t u:TS}(h:bu X e t)(i:∀D σ H,u D σ H->t D σ H):bu X e u:=λSb s σ H D I z=>h Sb s σ H D I (i D σ H z)
section
variable {X:Cx} {H0:Hp} {O0:Ex}
abbrev DE(X:Cx)(H0:Hp)(O0:Ex)(e:Qx)(t:DT):Prop:=PE X e (up X.K H0 O0 t)
abbrev DF(X:Cx)(H0:Hp)(O0:Ex)(e:Qx)(t:DT):Prop:=PE X e (rF X.K H0 O0 t)
theorem df{e:Qx}{t:DT}(h:DE X H0 O0 e t):DF X H0 O0 e t:=h.imp λσ H Q uu56=>by obtain⟨O,δ,Qd,w,q,k⟩:=uu56;exact⟨O,δ,Qd,w,q,λd v H' a b c=>k d v H' a b (.dt c)⟩
def xB(Q:Qp->Prop):Option (Option Sl)->Prop
 | some (some (.v d))=>Q d
 | _=>False
def bW(i:Nat):DT:=λδ Q=>xB Q δ[i]?
theorem DY{Q:Qp->Prop}{o:Option (Option Sl)}:xB Q o↔∃d,o=some (some (.v d))/\Q d:=by
 constructor
 ·intro h
  match o,h with
  | some (some (.v d)),h=>exact⟨d,rfl,h⟩
 ·rintro⟨d,rfl,h⟩;exact h
theorem DZ{i:Nat}{δ:Dl}{Q:Qp->Prop}(h:bW i δ Q):∃d,δ[i]?=some (some (.v d))/\Q d:=DY.mp h
def fv(i:Nat):DT:=λδ Q=>∃ds,δ[i]?=some (some (.o ds))/\Q (.list ds)
def dC(d:Qp):DT:=λ_ Q=>Q d
theorem dv(i:Nat){x:Str}{pos:Pos}(hN:X.N[i]?=some x:=by rfl)(hv:oF X.env.scope x:=by first | exact N4 rfl | exact Nv (N4 rfl) | exact Nv (Nv rfl))
 (hd:(x==("__debug__":Str))=false:=by decide)(hcd:(x==("__classdict__":Str))=false:=by decide):DE X H0 O0 (.Name x pos) (bW i):=
 (qR hN hv hd hcd).imp λσ H Q uu57=>by
  obtain⟨O,δ,Qd,w,dq,k⟩:=uu57;obtain⟨d,e,q⟩:=DZ dq;obtain⟨v,h,r⟩:=w.val e;exact⟨v,h,k d v H q (ai.refl _) r⟩
theorem dw(i:Nat){x:Str}{pos:Pos}(hN:X.N[i]?=some x:=by rfl)(hv:oF X.env.scope x:=by first | exact N4 rfl | exact Nv (N4 rfl) | exact Nv (Nv rfl))
 (hd:(x==("__debug__":Str))=false:=by decide)(hcd:(x==("__classdict__":Str))=false:=by decide):DF X H0 O0 (.Name x pos) (fv i):=
 (qR hN hv hd hcd).imp λσ H Q uu58=>by
  obtain⟨O,δ,Qd,w,⟨ds,e,q⟩,k⟩:=uu58;obtain⟨l,vs,h,_,_,r,rs⟩:=w.own e;exact⟨_,h,k _ _ H q (ai.refl _) (.own r rs)⟩
theorem dc{e:Qx}{v:V}{d:Qp}(h:PE X e (tC v))(r:∀H O,Dt X.K H O v d):DE X H0 O0 e (dC d):=h.imp λσ H Q uu59=>by obtain⟨O,δ,Qd,w,q,k⟩:=uu59;exact k d v H q (ai.refl _) (r H O)
theorem af{i j pos}:DE X H0 O0 (.Constant (.int i) j pos) (dC (.int i)):=dc wa λ_ _=>.int i
theorem fw{b j pos}:DE X H0 O0 (.Constant (.bool b) j pos) (dC (.bool b)):=dc tG λ_ _=>.bl b
theorem rG{j pos}:DE X H0 O0 (.Constant .none j pos) (dC .none):=dc B0 λ_ _=>.non
theorem aZ{x j pos}:DE X H0 O0 (.Constant (.str x) j pos) (dC (.str x)):=dc B1 λ_ _=>.str x
def dX:DA:=λ_ Q=>Q []
def cS(t:DT)(u:DA):DA:=λδ Q=>t δ λd=>u δ λds=>Q (d::ds)
theorem ak:PA X [] (dW X.K H0 O0 dX):=eG.imp λσ H Q uu60=>by obtain⟨O,δ,Qd,w,q,k⟩:=uu60;exact k [] [] H q (ai.refl _) .nil
theorem ae{e:Qx}{es:List Qx}{t:DT}{u:DA}(h:DE X H0 O0 e t)(hs:PA X es (dW X.K H0 O0 u))(he:Qy (e::es) X.env=(false,eval e X.env)::Qy es X.env:=by rfl):PA X (e::es) (dW X.K H0 O0 (cS t u)):=
 (bP h hs he).imp λσ H Q uu61=>by obtain⟨O,δ,Qd,w,q,k⟩:=uu61;exact⟨O,δ,_,w,q,λd v H1 q1 s1 r1=>⟨O,δ,_,w.mono s1,q1,λds vs H2 q2 s2 r2=>k (d::ds) (v::vs) H2 q2 (s1.trans s2) (.cons (r1.mono s2) r2)⟩⟩
def fx(t:DA):DT:=λδ Q=>t δ λds=>ds.length<=Qz/\Q (.tuple ds)
def iJ(t:DA):DT:=λδ Q=>t δ λds=>ds.length<=Qz/\Q (.list ds)
theorem oU{H:Hp}{O:Ex}{σ:St}{δ:Dl}{H1:Hp}{p:Qs}{K:Ju}(w:Wd K H0 O0 H O σ δ)(s:ai H H1)(hp:H1 p=none):¬O p:=λz=>(w.mono s).trk p z hp
theorem bF{es:List Qx}{t:DA}{x1}{pos:Pos}(h:PA X es (dW X.K H0 O0 t)):DE X H0 O0 (.Tuple es x1 pos) (fx t):=
 (wG h).imp λσ H Q uu62=>by obtain⟨O,δ,Qd,w,q,k⟩:=uu62;exact⟨O,δ,_,w,q,λds vs H1 q1 s1 r1=>⟨by rw [r1.length];exact q1.1,λp hp=>k _ _ _ q1.2 (s1.trans (ai.new hp)) (.tup (.inl bh) (oU w s1 hp) (r1.mono (ai.new hp)))⟩⟩
end
theorem aG.refl(H:Hp)(O:Ex):aG H H O O:=⟨λ_ _ e _=>e,λ_ _ n=>n⟩
theorem aG.trans{H H1 H2:Hp}{O O1 O2:Ex}(a:aG H H1 O O1)(b:aG H1 H2 O1 O2):aG H H2 O O2:=by
 refine⟨λc o e n=>?_,λc e n=>?_⟩
 ·have h1:=a.keep c o e n;exact b.keep c o h1 (a.out c (by rw [e];exact λz=>nomatch z) n)
 ·cases q:H c with
  | none=>exact absurd q e
  | some o=>exact b.out c (by rw [a.keep c o q n];exact λz=>nomatch z) (a.out c e n)
section
variable {X:Cx} {H0:Hp} {O0:Ex}
def bS(K:Ju)(r:R2)(rd:Qp->Qp->(Qp->Prop)->Prop):Prop:=
 ∀(H:Hp)(O:Ex)(x y:V)(dx dy:Qp)(Qd:Qp->Prop)(R:VK),(∀l,O l->H l≠none)->Sh K H O x dx->Sh K H O y dy->rd dx dy Qd->(∀d v H',Qd d->ai H H'->Dt K H' O v d->R v H')->r x y H R
def bK(rd:Qp->Qp->(Qp->Prop)->Prop)(ta tb:DT):DT:=λδ Q=>ta δ λx=>tb δ λy=>rd x y Q
theorem rH{K:Ju}{r:R2}{rd:Qp->Qp->(Qp->Prop)->Prop}{ta tb:DT}(hd:bS K r rd):∀σ H Q,up K H0 O0 (bK rd ta tb) σ H Q->nY r (rF K H0 O0 ta) (rF K H0 O0 tb) σ H Q:=
 λσ H Q uu63=>by obtain⟨O,δ,Qd,w,q,k⟩:=uu63;exact⟨O,δ,_,w,q,λx v H1 q1 s1 r1=>⟨O,δ,_,w.mono s1,q1,λy u H2 q2 s2 r2=>hd H2 O v u x y Qd _ (w.mono (s1.trans s2)).trk (r1.mono s2) r2 q2 λd z H3 qd s3 r3=>k d z H3 qd (s1.trans (s2.trans s3)) r3⟩⟩
theorem D1{a b:Qx}{ta tb:DT}{op:Operator}{r:R2}{rd:Qp->Qp->(Qp->Prop)->Prop}{pos:Pos}(ho:bz X (Q9 op) r)(hd:bS X.K r rd)(ha:DF X H0 O0 a ta)(hb:DF X H0 O0 b tb):DE X H0 O0 (.BinOp a op b pos) (bK rd ta tb):=(wu ho ha hb).imp (rH hd)
theorem cT{a b:Qx}{ta tb:DT}{op:CmpOp}{r:R2}{rd:Qp->Qp->(Qp->Prop)->Prop}{pos:Pos}(ho:bz X (QO op) r)(hd:bS X.K r rd)(ha:DF X H0 O0 a ta)(hb:DF X H0 O0 b tb)(hm:QW op b=false):DE X H0 O0 (.Compare a [op] [b] pos) (bK rd ta tb):=(Cr ho ha hb hm).imp (rH hd)
def ck(t:DT):DB:=λδ Q=>t δ λd=>∃b,d= .bool b/\Q b
theorem rJ{a b:Qx}{ta tb:DT}{op:CmpOp}{r:R2}{rd:Qp->Qp->(Qp->Prop)->Prop}{pos:Pos}(ho:bz X (QO op) r)(hd:bS X.K r rd)(ha:DF X H0 O0 a ta)(hb:DF X H0 O0 b tb)(hm:QW op b=false):PT X (.Compare a [op] [b] pos) (bD X.K H0 O0 (ck (bK rd ta tb))):=
 (Cs ho ha hb hm).imp λσ H Q uu64=>by obtain⟨O,δ,Qd,w,q,k⟩:=uu64;exact rH hd σ H _ ⟨O,δ,_,w,q,λd v H' uu65 s r=>by obtain⟨b,e,qb⟩:=uu65;subst e;cases r;exact⟨b,rfl,k b H' qb s⟩⟩
theorem dD{e:Qx}{t:DT}(h:DE X H0 O0 e t)(he:∀whole,isTrue e X.env whole=(do let v<-whole;standAt e.pos;holding [v] (truthy v)):=by intro _;rfl):PT X e (bD X.K H0 O0 (ck t)):=
 (wc h he).imp λσ H Q uu66=>by obtain⟨O,δ,Qd,w,q,k⟩:=uu66;exact⟨O,δ,_,w,q,λd v H' uu67 s r=>by obtain⟨b,e,qb⟩:=uu67;subst e;cases r;exact⟨b,rfl,k b H' qb s⟩⟩
def fy(t u:DB):DB:=λδ Q=>t δ λc=>if c=true then u δ Q else Q false
def fz(t u:DB):DB:=λδ Q=>t δ λc=>if c=true then Q true else u δ Q
def fA(t:DB):DB:=λδ Q=>t δ λc=>Q (!c)
theorem eL{a:Qx}{t:DB}{pos:Pos}(h:PT X a (bD X.K H0 O0 t)):PW X (.BoolOp .And [a] pos) (bD X.K H0 O0 t):=B3 h
theorem rK{a:Qx}{t:DB}{pos:Pos}(h:PT X a (bD X.K H0 O0 t)):PW X (.BoolOp .Or [a] pos) (bD X.K H0 O0 t):=B4 h
theorem dY{a b:Qx}{rest:List Qx}{t u:DB}{pos:Pos}(h:PT X a (bD X.K H0 O0 t))(hb:PW X (.BoolOp .And (b::rest) pos) (bD X.K H0 O0 u)):PW X (.BoolOp .And (a::b::rest) pos) (bD X.K H0 O0 (fy t u)):=
 (B5 h hb).imp λσ H Q uu68=>by obtain⟨O,δ,Qd,w,q,k⟩:=uu68;exact⟨O,δ,_,w,q,λc H1 q1 s1=>by
  cases c with
  | true=>exact⟨O,δ,_,w.mono s1,q1,λb H2 q2 s2=>k b H2 q2 (s1.trans s2)⟩
  | false=>exact k false H1 q1 s1⟩
theorem rL{a b:Qx}{rest:List Qx}{t u:DB}{pos:Pos}(h:PT X a (bD X.K H0 O0 t))(hb:PW X (.BoolOp .Or (b::rest) pos) (bD X.K H0 O0 u)):PW X (.BoolOp .Or (a::b::rest) pos) (bD X.K H0 O0 (fz t u)):=
 (B6 h hb).imp λσ H Q uu69=>by obtain⟨O,δ,Qd,w,q,k⟩:=uu69;exact⟨O,δ,_,w,q,λc H1 q1 s1=>by
  cases c with
  | false=>exact⟨O,δ,_,w.mono s1,q1,λb H2 q2 s2=>k b H2 q2 (s1.trans s2)⟩
  | true=>exact k true H1 q1 s1⟩
theorem n6{a:Qx}{t:DB}{pos:Pos}(h:PT X a (bD X.K H0 O0 t)):PT X (.UnaryOp .Not a pos) (bD X.K H0 O0 (fA t)):=
 (B7 h).imp λσ H Q uu70=>by obtain⟨O,δ,Qd,w,q,k⟩:=uu70;exact⟨O,δ,_,w,q,λc H1 q1 s1=>k (!c) H1 q1 s1⟩
def fB(t u:DT):DT:=λδ Q=>t δ λd=>∃c,d= .bool c/\if c=true then u δ Q else Q (.bool false)
def fC(t u:DT):DT:=λδ Q=>t δ λd=>∃c,d= .bool c/\if c=true then Q (.bool true) else u δ Q
def fD(t:DT):DT:=λδ Q=>t δ λd=>∃c,d= .bool c/\Q (.bool (!c))
theorem qf{op}{a:Qx}{t:DT}{pos:Pos}(h:DE X H0 O0 a t):DE X H0 O0 (.BoolOp op [a] pos) t:=we h
theorem oV{a b:Qx}{rest:List Qx}{t u:DT}{pos:Pos}(h:DE X H0 O0 a t)(hb:DE X H0 O0 (.BoolOp .And (b::rest) pos) u):DE X H0 O0 (.BoolOp .And (a::b::rest) pos) (fB t u):=
 (wg h hb).imp λσ H Q ⟨O,δ,Qd,w,q,k⟩=>⟨O,δ,_,w,q,λd v H1 uu72 s1 r=>by
  obtain⟨c,e,q1⟩:=uu72;subst e;cases r;refine⟨c,rfl,?_⟩;cases c with
  | true=>exact⟨O,δ,_,w.mono s1,q1,λd v H2 q2 s2 r2=>k d v H2 q2 (s1.trans s2) r2⟩
  | false=>exact k _ _ H1 q1 s1 (.bl false)⟩
theorem D2{a b:Qx}{rest:List Qx}{t u:DT}{pos:Pos}(h:DE X H0 O0 a t)(hb:DE X H0 O0 (.BoolOp .Or (b::rest) pos) u):DE X H0 O0 (.BoolOp .Or (a::b::rest) pos) (fC t u):=
 (B8 h hb).imp λσ H Q ⟨O,δ,Qd,w,q,k⟩=>⟨O,δ,_,w,q,λd v H1 uu74 s1 r=>by
  obtain⟨c,e,q1⟩:=uu74;subst e;cases r;refine⟨c,rfl,?_⟩;cases c with
  | false=>exact⟨O,δ,_,w.mono s1,q1,λd v H2 q2 s2 r2=>k d v H2 q2 (s1.trans s2) r2⟩
  | true=>exact k _ _ H1 q1 s1 (.bl true)⟩
theorem D3{a:Qx}{t:DT}{pos:Pos}(h:DE X H0 O0 a t):DE X H0 O0 (.UnaryOp .Not a pos) (fD t):=
 (B9 h).imp λσ H Q uu75=>by obtain⟨O,δ,Qd,w,q,k⟩:=uu75;exact⟨O,δ,_,w,q,λd v H1 uu76 s1 r=>by
  obtain⟨c,e,q1⟩:=uu76;subst e;cases r;exact⟨c,rfl,k _ _ H1 q1 s1 (.bl _)⟩⟩
def fE(c:DB)(t u:DT):DT:=λδ Q=>c δ λb=>if b=true then t δ Q else u δ Q
theorem uM{c a b:Qx}{tc:DB}{t u:DT}{pos:Pos}(hc:PT X c (bD X.K H0 O0 tc))(ha:DE X H0 O0 a t)(hb:DE X H0 O0 b u):DE X H0 O0 (.IfExp c a b pos) (fE tc t u):=
 (Ca hc ha hb).imp λσ H Q uu77=>by obtain⟨O,δ,Qd,w,q,k⟩:=uu77;exact⟨O,δ,_,w,q,λc H1 q1 s1=>by
  cases c with
  | true=>exact⟨O,δ,_,w.mono s1,q1,λd v H2 q2 s2 r2=>k d v H2 q2 (s1.trans s2) r2⟩
  | false=>exact⟨O,δ,_,w.mono s1,q1,λd v H2 q2 s2 r2=>k d v H2 q2 (s1.trans s2) r2⟩⟩
def iK(rd rd':Qp->Qp->(Qp->Prop)->Prop)(ta tb tc:DT):DT:=λδ Q=>ta δ λx=>tb δ λy=>rd x y λz=>∃k,z= .bool k/\if k=true then tc δ λu=>rd' y u Q else Q (.bool false)
inductive bb (K:Ju) (F:List Qp->(Qp->Prop)->Prop) (vs:List V) (H:Hp) (Q:VK) (E:XK):Prop
 | mk (O:Ex) (ds:List Qp) (Qd:Qp->Prop):(∀l,O l->H l≠none)->ah K H O vs ds->F ds Qd->(∀d v H',Qd d->ai H H'->Dt K H' O v d->Q v H')->bb K F vs H Q E
def dE(F:List Qp->(Qp->Prop)->Prop)(t:DA):DT:=λδ Q=>t δ λds=>F ds Q
theorem rM{K:Ju}{F:List Qp->(Qp->Prop)->Prop}{t:DA}{E:XK}:∀σ H Q,up K H0 O0 (dE F t) σ H Q->p8 (bb K F) [] E (dW K H0 O0 t) σ H Q:=
 λσ H Q uu78=>by obtain⟨O,δ,Qd,w,q,k⟩:=uu78;exact⟨O,δ,_,w,q,λds vs H1 q1 s1 r1=>⟨O,ds,Qd,(w.mono s1).trk,by rw [J5];exact r1,q1,λd v H2 q2 s2 r2=>k d v H2 q2 (s1.trans s2) r2⟩⟩
inductive oW (K:Ju) (H:Hp) (O:Ex):List V->List Qp->Prop
 | nil:oW K H O [] []
 | cons {v:V} {d:Qp} {vs:List V} {ds:List Qp}:Sh K H O v d->oW K H O vs ds->oW K H O (v::vs) (d::ds)
inductive fF (K:Ju) (H0:Hp) (O0:Ex) (t:DA) (σ:St) (H:Hp) (R:List V->Hp->Prop):Prop
 | mk (O:Ex) (δ:Dl) (Qd:List Qp->Prop):Wd K H0 O0 H O σ δ->t δ Qd->(∀ds vs H',Qd ds->ai H H'->oW K H' O vs ds->R vs H')->fF K H0 O0 t σ H R
theorem br:PA X [] (fF X.K H0 O0 dX):=eG.imp λσ H Q uu79=>by obtain⟨O,δ,Qd,w,q,k⟩:=uu79;exact k [] [] H q (ai.refl _) .nil
theorem nG{e:Qx}{es:List Qx}{t:DT}{u:DA}(h:DF X H0 O0 e t)(hs:PA X es (fF X.K H0 O0 u))(he:Qy (e::es) X.env=(false,eval e X.env)::Qy es X.env:=by rfl):PA X (e::es) (fF X.K H0 O0 (cS t u)):=
 (bP h hs he).imp λσ H Q uu80=>by obtain⟨O,δ,Qd,w,q,k⟩:=uu80;exact⟨O,δ,_,w,q,λd v H1 q1 s1 r1=>⟨O,δ,_,w.mono s1,q1,λds vs H2 q2 s2 r2=>k (d::ds) (v::vs) H2 q2 (s1.trans s2) (.cons (r1.mono s2) r2)⟩⟩
def iL(F:List Qp->(Qp->Prop)->Prop)(t:DA):DT:=λδ Q=>t δ λds=>F ds λd=>cO d=true/\Q d
def nj(K:Ju)(r:List V->Hp->VK->Prop)(rd:List Qp->(Qp->Prop)->Prop):Prop:=
 ∀(H:Hp)(O:Ex)(xs:List V)(ds:List Qp)(Qd:Qp->Prop)(R:VK),(∀l,O l->H l≠none)->oW K H O xs ds->rd ds Qd->(∀d v H',Qd d->ai H H'->Dt K H' O v d->R v H')->r xs H R
theorem bL{K:Ju}{r:List V->Hp->VK->Prop}{rd:List Qp->(Qp->Prop)->Prop}{t:DA}(hd:nj K r rd):∀σ H Q,up K H0 O0 (dE rd t) σ H Q->qa r (fF K H0 O0 t) σ H Q:=
 λσ H Q uu81=>by obtain⟨O,δ,Qd,w,q,k⟩:=uu81;exact⟨O,δ,_,w,q,λds vs H1 q1 s1 r1=>hd H1 O vs ds Qd _ (w.mono s1).trk r1 q1 λd v H2 q2 s2 r2=>k d v H2 q2 (s1.trans s2) r2⟩
def dF(t u:DS):DS:=λE δ=>t {E with nx:=u E} δ
theorem au{st:QH}{rest:List QH}{t u:DS}(h:PS X st (aQ X.K H0 O0 t))(h2:bu X rest (aQ X.K H0 O0 u)):bu X (st::rest) (aQ X.K H0 O0 (dF t u)):=
 (tQ h h2).imp λD σ H uu82=>by obtain⟨O,δ,E,w,q,k1,k2,k3,k4⟩:=uu82;exact⟨O,δ,_,w,q,λO' δ' σ' H' z w' S=>⟨O',δ',E,w',z,λO2 δ2 σ2 H2 z2 w2 S2=>k1 O2 δ2 σ2 H2 z2 w2 (S.trans S2),k2,λO2 δ2 σ2 H2 z2 w2 S2=>k3 O2 δ2 σ2 H2 z2 w2 (S.trans S2),λO2 δ2 σ2 H2 z2 w2 S2=>k4 O2 δ2 σ2 H2 z2 w2 (S.trans S2)⟩,k2,k3,k4⟩
def fG:DS:=λE δ=>E.nx δ
theorem bM:bu X [] (aQ X.K H0 O0 fG):=wj.imp λD σ H uu83=>by obtain⟨O,δ,E,w,q,k1,k2,k3,k4⟩:=uu83;exact k1 O δ σ H q w (aG.refl _ _)
theorem aw{st:QH}{t:DS}(h:PS X st (aQ X.K H0 O0 t)):bu X [st] (aQ X.K H0 O0 t):=qS h
def dG(i:Nat)(t:DT):DS:=λE δ=>t δ λd=>E.nx (δ.set i (some (.v d)))
theorem bt{i:Nat}{x:Str}{e:Qx}{t:DT}{pos pos':Pos}(hN:X.N.Nodup)(hi:X.N[i]?=some x)(hx:iC X.env.scope x)(he:DE X H0 O0 e t)(hs:QS e (some (.Name x pos')) pos.line X.env=pure false:=by rfl)(hf:X.fn x=true\/X.env.scope.names.lookup x=some .local:=by first | exact .inl rfl | exact .inr rfl | assumption):
 PS X (.Assign [.Name x pos'] e pos) (aQ X.K H0 O0 (dG i t)):=
 (tU hN hi hx he hs hf).imp λD σ H uu84=>by obtain⟨O,δ,E,w,q,k1,k2,k3,k4⟩:=uu84;exact⟨O,δ,_,w,q,λd v H1 q1 s1 r1=>k1 O _ _ H1 q1 ((w.mono s1).set r1) (.same s1)⟩
def fH(t:DT):DS:=λE δ=>t δ E.rt
theorem iM{K:Ju}{H:Hp}{O:Ex}{σ:St}{δ:Dl}(w:Wd K H0 O0 H O σ δ):aG H H O O0:=⟨λ_ _ e _=>e,λb _ n z=>n (w.sub b z)⟩
theorem aX{e:Qx}{t:DT}{pos:Pos}(he:DE X H0 O0 e t):PS X (.Return (some e) pos) (aQ X.K H0 O0 (fH t)):=
 (pR he).imp λD σ H uu85=>by obtain⟨O,δ,E,w,q,k1,k2,k3,k4⟩:=uu85;exact⟨O,δ,_,w,q,λd v H1 q1 s1 r1=>k2 d v H1 q1 (w.same.trans s1) (r1.step (iM (w.mono s1)))⟩
def fI(i:Nat):DS:=λE δ=>∃ds,δ[i]?=some (some (.o ds))/\E.rt (.list ds)
theorem qh{e:Qx}{i:Nat}{pos:Pos}(he:PE X e (eF i)):PS X (.Return (some e) pos) (aQ X.K H0 O0 (fI i)):=
 (pR he).imp λD σ H uu86=>by
  obtain⟨O,δ,E,w,⟨ds,e,q⟩,k1,k2,k3,k4⟩:=uu86;obtain⟨l,vs,h,a,b,c,r⟩:=w.own e;exact⟨_,h,k2 _ _ H q w.same (.lst (.inl c) b (r.step (iM w)))⟩
def eM(c:DB)(t u:DS):DS:=λE δ=>c δ λb=>if b=true then t E δ else u E δ
theorem bN{c:Qx}{a b:List QH}{tc:DB}{t u:DS}{pos:Pos}(hc:PT X c (bD X.K H0 O0 tc))(ha:bu X a (aQ X.K H0 O0 t))(hb:bu X b (aQ X.K H0 O0 u)):PS X (.If c a b pos) (aQ X.K H0 O0 (eM tc t u)):=
 (wm hc ha hb).imp λD σ H uu87=>by obtain⟨O,δ,E,w,q,k1,k2,k3,k4⟩:=uu87;exact⟨O,δ,_,w,q,λc H1 q1 s1=>by
  have g:∀{t':DS},t' E δ->aQ X.K H0 O0 t' D σ H1:=λz=>⟨O,δ,E,w.mono s1,z,λO2 δ2 σ2 H2 z2 w2 S2=>k1 O2 δ2 σ2 H2 z2 w2 (aG.trans (.same s1) S2),k2,λO2 δ2 σ2 H2 z2 w2 S2=>k3 O2 δ2 σ2 H2 z2 w2 (aG.trans (.same s1) S2),λO2 δ2 σ2 H2 z2 w2 S2=>k4 O2 δ2 σ2 H2 z2 w2 (aG.trans (.same s1) S2)⟩;cases c with
  | true=>exact g q1
  | false=>exact g q1⟩
def iO(t:DT):DS:=λE δ=>t δ λ_=>E.nx δ
inductive oX (K:Ju) (H0:Hp) (O0:Ex) (t:DA) (σ:St) (H:Hp) (R:VK):Prop
 | mk (O:Ex) (δ:Dl) (Qd:List Qp->Prop):Wd K H0 O0 H O σ δ->t δ Qd->(∀ds vs p H',Qd ds->ai H H'->H' p=none->ah K H' O vs ds->R (.ref p) (ao H' p (.lst vs)))->oX K H0 O0 t σ H R
abbrev FE(X:Cx)(H0:Hp)(O0:Ex)(e:Qx)(t:DA):Prop:=PE X e (oX X.K H0 O0 t)
def dL(t:DA):DT:=λδ Q=>t δ λds=>Q (.list ds)
theorem fe{e:Qx}{t:DA}(h:FE X H0 O0 e t):DE X H0 O0 e (dL t):=
 h.imp λσ H Q uu88=>by obtain⟨O,δ,Qd,w,q,k⟩:=uu88;exact⟨O,δ,_,w,q,λds vs p H1 q1 s1 hp r1=>k _ _ _ q1 (s1.trans (ai.new hp)) (.lst (.inl bh) (oU w s1 hp) (r1.mono (ai.new hp)))⟩
def eO(t:DA):DA:=λδ Q=>t δ λds=>ds.length<=Qz/\Q ds
theorem bZ{es:List Qx}{t:DA}{pos:Pos}(h:PA X es (dW X.K H0 O0 t)):FE X H0 O0 (.List es pos) (eO t):=
 (Cw h).imp λσ H Q uu89=>by obtain⟨O,δ,Qd,w,q,k⟩:=uu89;exact⟨O,δ,_,w,q,λds vs H1 q1 s1 r1=>⟨by rw [r1.length];exact q1.1,λp hp=>k _ _ _ _ q1.2 s1 hp r1⟩⟩
def eQ(i:Nat)(t:DA):DS:=λE δ=>t δ λds=>E.nx (δ.set i (some (.o ds)))
theorem nH{i:Nat}{x:Str}{e:Qx}{t:DA}{pos pos':Pos}(hN:X.N.Nodup)(hi:X.N[i]?=some x)(hx:iC X.env.scope x)(he:FE X H0 O0 e t)(hs:QS e (some (.Name x pos')) pos.line X.env=pure false:=by rfl)(hf:X.fn x=true\/X.env.scope.names.lookup x=some .local:=by first | exact .inl rfl | exact .inr rfl | assumption):
 PS X (.Assign [.Name x pos'] e pos) (aQ X.K H0 O0 (eQ i t)):=
 (tU hN hi hx he hs hf).imp λD σ H ⟨O,δ,E,w,q,k1,k2,k3,k4⟩=>⟨O,δ,_,w,q,λds vs p H1 q1 s1 hp r1=>k1 _ _ _ _ q1 ((w.mono s1).setO hp r1)
  ⟨λb o e _=>(s1.trans (ai.new hp)) b o e,λb e n z=>z.elim n λy=>by
   cases q:H b with
   | none=>exact e q
   | some o=>have:=s1 _ _ q;rw [y,hp] at this;cases this⟩⟩
def fJ(i:Nat)(t:DT):DS:=λE δ=>∃ds,δ[i]?=some (some (.o ds))/\t δ λd=>ds.length < Qz/\E.nx (δ.set i (some (.o (ds++[d]))))
theorem qi{i:Nat}{o e:Qx}{t:DT}{apos cpos pos:Pos}(ho:PE X o (eF i))(he:DE X H0 O0 e t)(hbase:Rn o "append" X.env (eval o X.env)=eval o X.env:=by rfl)
 (hfew:((QN cpos (Qy [e] X.env)).all (λx=>!x.1) && (backToKw cpos (RD [] X.env)).all (λx=>x.1.isSome) && decide ([e].length+([]:List Rf).length+(if ([]:List Rf).isEmpty then 0 else 1) < 30))=true:=by rfl)
 (hline:(apos.endLine==cpos.line)=true:=by rfl)(hst:Qy [e] X.env=(false,eval e X.env)::Qy [] X.env:=by rfl)(hplain:(QN cpos (Qy [] X.env)).any (·.1)=false:=by rfl)
 (hs:QS (.Call (.Attribute o "append" apos) [e] [] cpos) none pos.line X.env=pure false:=by rfl):PS X (.Expr (.Call (.Attribute o "append" apos) [e] [] cpos) pos) (aQ X.K H0 O0 (fJ i t)):=
 (wk (ur Nb PySem.F.slot_list_append PySem.F.type_list_append wX ho (bP he eG hst) hbase hfew hline hst hplain) hs).imp λD σ H uu91=>by
  obtain⟨O,δ,E,w,⟨ds,e,q⟩,k1,k2,k3,k4⟩:=uu91;obtain⟨l,vs,h,a,b,c,r⟩:=w.own e;refine⟨_,h,.inl ⟨rfl,_,aS.of c⟩,O,δ,_,w,q,λd v H1 q1 s1 r1=>?_⟩;refine⟨l,vs,v,rfl,rfl,s1 _ _ c,by rw [r.length];exact q1.1,?_⟩;exact k1 _ _ _ _ q1.2 ((w.mono s1).putO (vs:=vs) e h ((r.mono s1).append (.cons r1 .nil))) ⟨λb' o' z n=>by rw [az (λy=>n (by rw [y];exact a))];exact s1 _ _ z,λ_ _ n=>n⟩
end
structure bX (J:It) (P:Hp->Prop) (vs:List V):Prop where
 go:∀i H',P H'->i < vs.length->J.go i H'
 yl:∀i H' x H'',P H'->i < vs.length->J.yld i H' x H''->H''=H'/\vs[i]?=some x
 st:∀i H',P H'->vs.length<=i->J.stop i H'
def rN(H1:Hp)(a:Qs)(H':Hp):Prop:=∀o,H1 a=some o->H' a=some o
theorem aS.keep{K:Ju}{H H':Hp}{a:Qs}{xs:List V}(s:rN H a H')(h:aS K H a xs):aS K H' a xs:=by
 rcases h with(h | ⟨o,h⟩) | h
 ·exact .inl (.inl (s _ h))
 ·exact .inl (.inr ⟨o,s _ h⟩)
 ·exact .inr h
theorem bw.keep{K:Ju}{H H':Hp}{a:Qs}{xs:List V}(s:rN H a H')(h:bw K H a xs):bw K H' a xs:=by
 rcases h with(h | ⟨o,h⟩) | h
 ·exact .inl (.inl (s _ h))
 ·exact .inl (.inr ⟨o,s _ h⟩)
 ·exact .inr h
theorem bX.list{K:Ju}{H:Hp}{a:Qs}{vs:List V}(h:aS K H a vs):bX (pX K a) (rN H a) vs:=
 ⟨λi H' s hi=>⟨vs,vs[i],h.keep s,by simp [hi]⟩,λi H' x H'' s _ y=>⟨y.1,y.2 vs (h.keep s)⟩,λi H' s hi=>⟨vs,h.keep s,hi⟩⟩
theorem bX.tup{K:Ju}{H:Hp}{a:Qs}{vs:List V}(h:bw K H a vs):bX (pY K a) (rN H a) vs:=
 ⟨λi H' s hi=>⟨vs,vs[i],h.keep s,by simp [hi]⟩,λi H' x H'' s _ y=>⟨y.1,y.2 vs (h.keep s)⟩,λi H' s hi=>⟨vs,h.keep s,hi⟩⟩
def fK(lo:Int)(n:Nat):List Qp:=(KQ n).map λ(k:Nat)=>.int (lo+k)
theorem bX.rng{lo:Int}{n:Nat}:bX (m9 lo n) (λ_=>True) ((KQ n).map λ(k:Nat)=>V.int (lo+k)):=by
 refine⟨λi H' s hi=>(by simpa using hi:i < n),λi H' x H'' s hi y=>⟨y.1,?_⟩,λi H' s hi=>(by simpa using hi:n<=i)⟩;obtain⟨_,rfl⟩:=y;have hn:i < n:=by simpa using hi
 simp [hn]
theorem ah.rng{K:Ju}{H:Hp}{O:Ex}{lo:Int}:∀(l:List Nat),ah K H O (l.map λ(k:Nat)=>V.int (lo+k)) (l.map λ(k:Nat)=>JM (lo+k))
 | []=>.nil
 | n::r=>.cons (.int _) (ah.rng r)
abbrev DG:=Qp->Dl->(Dl->Prop)->Prop
def GD(K:Ju)(g:TG)(dg:DG):Prop:=∀(H0:Hp)(O0:Ex)(H:Hp)(O:Ex)(σ:St)(δ:Dl)(v:V)(x:Qp)(R:St->Hp->Prop)(Qd:Dl->Prop),Wd K H0 O0 H O σ δ->Dt K H O v x->dg x δ Qd->(∀δ' σ',Qd δ'->Wd K H0 O0 H O σ' δ'->R σ' H)->g v σ H R
def dZ(i:Nat):DG:=λx δ Q=>Q (δ.set i (some (.v x)))
theorem aJ{K:Ju}{i:Nat}:GD K (mM i) (dZ i):=λH0 O0 H O σ δ v x R Qd w r q k=>k _ _ q (w.set r)
abbrev n8:=List Qp->Dl->(Dl->Prop)->Prop
def rO(K:Ju)(g:mL)(dg:n8):Prop:=∀(H0:Hp)(O0:Ex)(H:Hp)(O:Ex)(σ:St)(δ:Dl)(vs:List V)(xs:List Qp)(R:St->Hp->Prop)(Qd:Dl->Prop),Wd K H0 O0 H O σ δ->ah K H O vs xs->dg xs δ Qd->(∀δ' σ',Qd δ'->Wd K H0 O0 H O σ' δ'->R σ' H)->g vs σ H R
def fL:n8:=λxs δ Q=>xs=[]/\Q δ
def fM(t:DG)(u:n8):n8:=λxs δ Q=>∃x r,xs=x::r/\t x δ λδ'=>u r δ' Q
theorem oY{K:Ju}:rO K pU fL:=λH0 O0 H O σ δ vs xs R Qd w r uu92 k=>by obtain⟨e,q⟩:=uu92;subst e;cases r;exact⟨rfl,k _ _ q w⟩
theorem dH{K:Ju}{t:TG}{u:mL}{dt:DG}{du:n8}(h:GD K t dt)(h2:rO K u du):rO K (oI t u) (fM dt du):=λH0 O0 H O σ δ vs xs R Qd w r uu93 k=>by
 obtain⟨x,rr,e,q⟩:=uu93;subst e;cases r with
 | cons r1 r2=>exact⟨_,_,rfl,h H0 O0 H O σ δ _ _ _ _ w r1 q λδ' σ' q' w'=>h2 H0 O0 H O σ' δ' _ _ R Qd w' r2 q' k⟩
def fN(n:Nat)(t:n8):DG:=λx δ Q=>∃xs,x= .tuple xs/\xs.length=n/\t xs δ Q
theorem oZ{K:Ju}{n:Nat}{t:mL}{dt:n8}(h:rO K t dt):GD K (pV K n t) (fN n dt):=λH0 O0 H O σ δ v x R Qd w r uu94 k=>by
 obtain⟨xs,e,hl,q⟩:=uu94;subst e;obtain⟨a,vs,rfl,hs,rr⟩:=(Sh.dt r).tup;exact⟨a,vs,rfl,hs,by rw [rr.length];exact hl,h H0 O0 H O σ δ _ _ R Qd w rr q k⟩
section
variable {X:Cx} {H0:Hp} {O0:Ex}
def fO(t:DT)(g:DG):DS:=λE δ=>t δ λd=>g d δ E.nx
theorem uN{tg e:Qx}{t:DT}{g:TG}{dg:DG}{pos:Pos}(he:DE X H0 O0 e t)(hg:PG X tg g)(gd:GD X.K g dg)(hs:RZ [tg] e pos.line X.env=pure false:=by rfl)(hw:R0 [tg] e X.env=pure none:=by rfl)
 (h1:(Ry [tg] X.env).map (·.2)=[assign tg X.env]:=by rfl):PS X (.Assign [tg] e pos) (aQ X.K H0 O0 (fO t dg)):=
 (Ce he hg hs hw h1).imp λD σ H uu95=>by obtain⟨O,δ,E,w,q,k1,k2,k3,k4⟩:=uu95;exact⟨O,δ,_,w,q,λd v H1 q1 s1 r1=>gd H0 O0 H1 O σ δ v d _ _ (w.mono s1) r1 q1 λδ' σ' q' w'=>k1 O δ' σ' H1 q' w' (.same s1)⟩
def fP(i j:Nat)(t:DA):DS:=λE δ=>t δ λds=>∃x y,ds=[x,y]/\E.nx ((δ.set i (some (.v x))).set j (some (.v y)))
theorem D4{i j:Nat}{x y:Str}{a b:Qx}{ta:DA}{px py pt pos:Pos}{kt k2 pt2}(hc:X.calm=true)(hN:X.N.Nodup)(hi:X.N[i]?=some x)(hj:X.N[j]?=some y)(hij:i≠j)
 (hx:X.env.scope.names.lookup x=some .local)(hy:X.env.scope.names.lookup y=some .local)(ha:PA X [a,b] (dW X.K H0 O0 ta))
 (hw:R0 [.Tuple [.Name x px,.Name y py] kt pt] (.Tuple [a,b] k2 pt2) X.env=pure (some [x,y]))
 (hs:RZ [.Tuple [.Name x px,.Name y py] kt pt] (.Tuple [a,b] k2 pt2) pos.line X.env=pure false:=by rfl):
 PS X (.Assign [.Tuple [.Name x px,.Name y py] kt pt] (.Tuple [a,b] k2 pt2) pos) (aQ X.K H0 O0 (fP i j ta)):=
 (Cf hc hN hi hj hij hx hy ha hw hs).imp λD σ H uu96=>by obtain⟨O,δ,E,w,q,k1,k2,k3,k4⟩:=uu96;exact⟨O,δ,_,w,q,λds vs H1 uu0 s1 r1=>by
  obtain⟨d1,d2,e,q1⟩:=uu0;subst e;cases r1 with
  | cons r1 r2=>
   cases r2 with
   | cons r2 r3=>
    cases r3;exact⟨_,_,rfl,k1 _ _ _ _ q1 (((w.mono s1).set r1).set r2) (.same s1)⟩⟩
def cw(g:DG)(tb:DS)(E:ni):List Qp->Dl->Prop
 | [],δ=>E.nx δ
 | x::xs,δ=>g x δ λδ2=>tb {E with nx:=cw g tb E xs,ct:=cw g tb E xs,bk:=E.nx} δ2
theorem D5{K:Ju}{J:It}{P:Hp->Prop}{vs:List V}{xs:List Qp}{g:TG}{dg:DG}{tb:DS}{D:m7}{E:ni}{σ:St}{H:Hp}{O:Ex}{δ:Dl}(S:bX J P vs)(gd:GD K g dg)
 (hP:∀H' O',aG H H' O O'->P H')(r:ah K H O vs xs)(w:Wd K H0 O0 H O σ δ)(q:cw dg tb E xs δ)
 (k1:∀O' δ' σ' H',E.nx δ'->Wd K H0 O0 H' O' σ' δ'->aG H H' O O'->D.nx σ' H')(k2:∀d v H',E.rt d->ai H0 H'->Dt K H' O0 v d->D.rt v H'):FR J g (aQ K H0 O0 tb) D σ H:=by
 refine⟨λi m σ' H'=>∃O' δ',m=vs.length - i/\i<=vs.length/\Wd K H0 O0 H' O' σ' δ'/\aG H H' O O'/\cw dg tb E (xs.drop i) δ',⟨vs.length,O,δ,Qo,KI _,w,aG.refl _ _,by simpa using q⟩,?_⟩;rintro i m σ1 H1 ⟨O1,δ1,rfl,hi,w1,S1,q1⟩;by_cases hlt:i < vs.length
 ·refine .inr ⟨S.go i H1 (hP _ _ S1) hlt,λσ' H'=>∃O' δ',Wd K H0 O0 H' O' σ' δ'/\aG H H' O O'/\cw dg tb E (xs.drop (i+1)) δ',λσ' H' uu1=>by obtain⟨O',δ',w',S',q'⟩:=uu1;exact⟨vs.length - (i+1),Qj,O',δ',rfl,hlt,w',S',q'⟩,λx H' y=>?_⟩;have yy:=S.yl i H1 x H' (hP _ _ S1) hlt y;clear y;obtain⟨e,y⟩:=yy;subst e;obtain⟨d,ed,rd⟩:=r.get y;have hd:xs.drop i=d::xs.drop (i+1):=by
   rw [Mf (h:=(JH.mp ed).1),(JH.mp ed).2]
  rw [hd] at q1;refine gd H0 O0 _ O1 σ1 δ1 x d _ _ w1 (rd.step S1) q1 λδ2 σ2 q2 w2=>?_;refine⟨O1,δ2,_,w2,q2,λO' δ' σ' H' z w' S'=>⟨O',δ',w',S1.trans S',z⟩,k2,λO' δ' σ' H' z w' S'=>k1 O' δ' σ' H' z w' (S1.trans S'),λO' δ' σ' H' z w' S'=>⟨O',δ',w',S1.trans S',z⟩⟩
 ·have e:i=vs.length:=Qj
  subst e;refine .inl ⟨S.st _ H1 (hP _ _ S1) (Jy _),?_⟩;rw [r.length,Of (Jy _)] at q1;exact k1 O1 δ1 σ1 H1 q1 w1 S1
def fQ(g:DG)(tb:DS)(E:ni)(xs:List Qp)(δ:Dl):Prop:=∃I:Nat->Dl->Prop,I 0 δ/\(∀i x δ,xs[i]?=some x->I i δ->g x δ λδ2=>tb {E with nx:=I (i+1),ct:=I (i+1),bk:=E.nx} δ2)/\∀δ,I xs.length δ->E.nx δ
theorem pb{K:Ju}{J:It}{P:Hp->Prop}{vs:List V}{xs:List Qp}{g:TG}{dg:DG}{tb:DS}{D:m7}{E:ni}{σ:St}{H:Hp}{O:Ex}{δ:Dl}(S:bX J P vs)(gd:GD K g dg)
 (hP:∀H' O',aG H H' O O'->P H')(r:ah K H O vs xs)(w:Wd K H0 O0 H O σ δ)(q:fQ dg tb E xs δ)
 (k1:∀O' δ' σ' H',E.nx δ'->Wd K H0 O0 H' O' σ' δ'->aG H H' O O'->D.nx σ' H')(k2:∀d v H',E.rt d->ai H0 H'->Dt K H' O0 v d->D.rt v H'):FR J g (aQ K H0 O0 tb) D σ H:=by
 obtain⟨Iv,q0,qs,qe⟩:=q;refine⟨λi m σ' H'=>∃O' δ',m=vs.length - i/\i<=vs.length/\Wd K H0 O0 H' O' σ' δ'/\aG H H' O O'/\Iv i δ',⟨vs.length,O,δ,Qo,KI _,w,aG.refl _ _,q0⟩,?_⟩;rintro i m σ1 H1 ⟨O1,δ1,rfl,hi,w1,S1,q1⟩;by_cases hlt:i < vs.length
 ·refine .inr ⟨S.go i H1 (hP _ _ S1) hlt,λσ' H'=>∃O' δ',Wd K H0 O0 H' O' σ' δ'/\aG H H' O O'/\Iv (i+1) δ',λσ' H' uu2=>by obtain⟨O',δ',w',S',q'⟩:=uu2;exact⟨vs.length - (i+1),Qj,O',δ',rfl,hlt,w',S',q'⟩,λx H' y=>?_⟩;have yy:=S.yl i H1 x H' (hP _ _ S1) hlt y;clear y;obtain⟨e,y⟩:=yy;subst e;obtain⟨d,ed,rd⟩:=r.get y;refine gd H0 O0 _ O1 σ1 δ1 x d _ _ w1 (rd.step S1) (qs i d δ1 ed q1) λδ2 σ2 q2 w2=>?_;refine⟨O1,δ2,_,w2,q2,λO' δ' σ' H' z w' S'=>⟨O',δ',w',S1.trans S',z⟩,k2,λO' δ' σ' H' z w' S'=>k1 O' δ' σ' H' z w' (S1.trans S'),λO' δ' σ' H' z w' S'=>⟨O',δ',w',S1.trans S',z⟩⟩
 ·have e:i=vs.length:=Qj
  subst e;refine .inl ⟨S.st _ H1 (hP _ _ S1) (Jy _),?_⟩;rw [r.length] at q1;exact k1 O1 δ1 σ1 H1 (qe δ1 q1) w1 S1
def fS(t:DT)(g:DG)(tb:DS):DS:=λE δ=>t δ λd=>∃xs,d= .list xs/\cw g tb E xs δ
def iP(t:DT)(g:DG)(tb:DS):DS:=λE δ=>t δ λd=>∃xs,d= .tuple xs/\cw g tb E xs δ
def iQ(t:DA)(g:DG)(tb:DS):DS:=λE δ=>t δ λds=>∃j:Int,ds=[.int j]/\-(2 ^ 62)<=j/\j < 2 ^ 62/\cw g tb E (fK 0 j.toNat) δ
def iR(t:DA)(g:DG)(tb:DS):DS:=λE δ=>t δ λds=>∃i j:Int,ds=[.int i,.int j]/\(-(2 ^ 62)<=i/\i < 2 ^ 62/\-(2 ^ 62)<=j/\j < 2 ^ 62)/\cw g tb E (fK i (j - i).toNat) δ
section
variable {tg iter:Qx} {body:List QH} {t:DT} {ta:DA} {g:TG} {dg:DG} {tb:DS} {pos p ps:Pos}
theorem D6(hp:Rl (Qw X.prog X.w) X.A X.env X.xe)(hc:X.calm=true)(hi:DE X H0 O0 iter t)(hg:PG X tg g)(gd:GD X.K g dg)(hb:bu X body (aQ X.K H0 O0 tb))(hs:∀x,QI iter X.env x=pure x:=by intro _;rfl):
 PS X (.For tg iter body [] pos) (aQ X.K H0 O0 (fS t dg tb)):=
 (oN hp hc (tY hi) hg hb hs).imp λD σ H uu3=>by obtain⟨O,δ,E,w,q,k1,k2,k3,k4⟩:=uu3;exact⟨O,δ,_,w,q,λd v H1 uu4 s1 r1=>by
  obtain⟨xs,e,q1⟩:=uu4;subst e;cases r1 with
  | lst h n r=>
   refine⟨_,rfl,⟨_,.inl h⟩,D5 (bX.list (.inl h)) gd (λH' O' S o e=>S.keep _ _ e n) r (w.mono s1) q1 (λO' δ' σ' H' z w' S=>k1 O' δ' σ' H' z w' (aG.trans (.same s1) S)) k2⟩⟩
end
def fT(t:DT)(g:DG)(tb:DS):DS:=λE δ=>t δ λd=>∃xs,d= .list xs/\fQ g tb E xs δ
def fU(t:DT)(g:DG)(tb:DS):DS:=λE δ=>t δ λd=>∃xs,d= .tuple xs/\fQ g tb E xs δ
def fV(t:DA)(g:DG)(tb:DS):DS:=λE δ=>t δ λds=>∃j:Int,ds=[.int j]/\-(2 ^ 62)<=j/\j < 2 ^ 62/\fQ g tb E (fK 0 j.toNat) δ
def iS(t:DA)(g:DG)(tb:DS):DS:=λE δ=>t δ λds=>∃i j:Int,ds=[.int i,.int j]/\(-(2 ^ 62)<=i/\i < 2 ^ 62/\-(2 ^ 62)<=j/\j < 2 ^ 62)/\fQ g tb E (fK i (j - i).toNat) δ
section
variable {tg iter:Qx} {body:List QH} {t:DT} {ta:DA} {g:TG} {dg:DG} {tb:DS} {pos p ps:Pos}
theorem rP(hp:Rl (Qw X.prog X.w) X.A X.env X.xe)(hc:X.calm=true)(hi:DE X H0 O0 iter t)(hg:PG X tg g)(gd:GD X.K g dg)(hb:bu X body (aQ X.K H0 O0 tb))(hs:∀x,QI iter X.env x=pure x:=by intro _;rfl):
 PS X (.For tg iter body [] pos) (aQ X.K H0 O0 (fT t dg tb)):=
 (oN hp hc (tY hi) hg hb hs).imp λD σ H uu5=>by obtain⟨O,δ,E,w,q,k1,k2,k3,k4⟩:=uu5;exact⟨O,δ,_,w,q,λd v H1 uu6 s1 r1=>by
  obtain⟨xs,e,q1⟩:=uu6;subst e;cases r1 with
  | lst h n r=>
   refine⟨_,rfl,⟨_,.inl h⟩,pb (bX.list (.inl h)) gd (λH' O' S o e=>S.keep _ _ e n) r (w.mono s1) q1 (λO' δ' σ' H' z w' S=>k1 O' δ' σ' H' z w' (aG.trans (.same s1) S)) k2⟩⟩
theorem pd(hp:Rl (Qw X.prog X.w) X.A X.env X.xe)(hc:X.calm=true)(hi:DE X H0 O0 iter t)(hg:PG X tg g)(gd:GD X.K g dg)(hb:bu X body (aQ X.K H0 O0 tb))(hs:∀x,QI iter X.env x=pure x:=by intro _;rfl):
 PS X (.For tg iter body [] pos) (aQ X.K H0 O0 (fU t dg tb)):=
 (oN hp hc (tZ hi) hg hb hs).imp λD σ H uu7=>by obtain⟨O,δ,E,w,q,k1,k2,k3,k4⟩:=uu7;exact⟨O,δ,_,w,q,λd v H1 uu8 s1 r1=>by
  obtain⟨xs,e,q1⟩:=uu8;subst e;cases r1 with
  | tup h n r=>
   refine⟨_,rfl,⟨_,.inl h⟩,pb (bX.tup (.inl h)) gd (λH' O' S o e=>S.keep _ _ e n) r (w.mono s1) q1 (λO' δ' σ' H' z w' S=>k1 O' δ' σ' H' z w' (aG.trans (.same s1) S)) k2⟩
  | tupK h r=>
   refine⟨_,rfl,⟨_,h.of0⟩,pb (P:=λ_=>True) ⟨λi H' _ hi=>⟨_,_,h.of0,by simp [hi];rfl⟩,λi H' x H'' _ _ y=>⟨y.1,y.2 _ h.of0⟩,λi H' _ hi=>⟨_,h.of0,hi⟩⟩ gd (λ_ _ _=>trivial) r (w.mono s1) q1 (λO' δ' σ' H' z w' S=>k1 O' δ' σ' H' z w' (aG.trans (.same s1) S)) k2⟩⟩
theorem uO(hp:Rl (Qw X.prog X.w) X.A X.env X.xe)(hc:X.calm=true){a:Qx}(hgl:Gl X "range")(hm:X.mg "range"=none)(ha:PA X [a] (dW X.K H0 O0 ta))(hg:PG X tg g)(gd:GD X.K g dg)(hb:bu X body (aQ X.K H0 O0 tb))
 (hst:Qy [a] X.env=[(false,eval a X.env)]:=by rfl)(hs:∀x,QI (.Call (.Name "range" p) [a] [] ps) X.env x=pure x:=by intro _;rfl):
 PS X (.For tg (.Call (.Name "range" p) [a] [] ps) body [] pos) (aQ X.K H0 O0 (fV ta dg tb)):=
 (oN hp hc (t6 hgl hm ha hst) hg hb hs).imp λD σ H uu9=>by obtain⟨O,δ,E,w,q,k1,k2,k3,k4⟩:=uu9;exact⟨O,δ,_,w,q,λds vs H1 uu10 s1 r1=>by
  obtain⟨j,e,b1,b2,q1⟩:=uu10;subst e;cases r1 with
  | cons r1 r2=>
   cases r2;cases r1;exact⟨j,rfl,b1,b2,pb bX.rng gd (λ_ _ _=>trivial) (ah.rng _) (w.mono s1) q1 (λO' δ' σ' H' z w' S=>k1 O' δ' σ' H' z w' (aG.trans (.same s1) S)) k2⟩⟩
end
def iT(i:Nat)(t:DS):DS:=λE δ=>∃ds,δ[i]?=some (some (.o ds))/\t E (δ.set i (some (.v (.list ds))))
def bC(k:Nat)(fr:List Nat)(δ:Dl):Dl:=JU k none++fr.map λj=>(δ[j]?).join
def n9(g:DG)(tc:DB)(te:DT)(δ0:Dl):List Qp->List Qp->(List Qp->Prop)->Prop
 | [],acc,Q=>Q acc
 | x::xs,acc,Q=>g x δ0 λδ2=>tc δ2 λok=>if ok=true then te δ2 λy=>n9 g tc te δ0 xs (acc++[y]) Q else n9 g tc te δ0 xs acc Q
theorem Wd.comp{K:Ju}{H:Hp}{O:Ex}{σ:St}{δ:Dl}(w:Wd K H0 O0 H O σ δ){k:Nat}{fr:List Nat}(hf:fr.Nodup):Wd K H0 O0 H O (aN k fr σ) (bC k fr δ):=by
 have at1:∀{α:Type}(l:List (Option α))(i:Nat),(JU k none++fr.map λj=>(l[j]?).join)[i]?=if i < k then some none else(fr[i - k]?).map λj=>(l[j]?).join:=by
  intro α l i;by_cases h:i < k
  ·rw [Ql h,Me (by simpa using h),MN,Ql h]
  ·rw [Qk h,MA (by simpa using N3 h),JD];simp
 have un:∀{α:Type}(l:List (Option α))(i:Nat)(x:α),(JU k none++fr.map λj=>(l[j]?).join)[i]?=some (some x)->∃j,fr[i - k]?=some j/\k<=i/\l[j]?=some (some x):=by
  intro α l i x h;rw [at1] at h;split at h
  ·cases h
  ·cases e:fr[i - k]? with
   | none=>rw [e] at h;cases h
   | some j=>
    rw [e] at h;refine⟨j,rfl,Qj,?_⟩;have h':(l[j]?).join=some x:=Kp h;cases q:l[j]? with
    | none=>rw [q] at h';cases h'
    | some o=>rw [q] at h';rw [show o=some x from h']
 refine⟨w.same,w.sub,w.new,w.trk,by simp [aN,bC],λi y e=>?_,λi j y z l e1 y1 e2 z2 e3 e4=>?_⟩
 ·match y,e with
  | none,_=>exact Ln
  | some x,e=>
   obtain⟨j,hj,hk,ej⟩:=un δ i x e;have q:=w.sl j _ ej;have e2:((aN k fr σ)[i]?).join=(σ[j]?).join:=by
    unfold aN;rw [at1,Qk Qj,hj];rfl
   rw [e2];exact q
 ·obtain⟨a,ha,ka,ea⟩:=un δ i _ e1;obtain⟨b,hb,kb,eb⟩:=un δ j _ e2;obtain⟨a',ha',_,ea'⟩:=un σ i _ e3;obtain⟨b',hb',_,eb'⟩:=un σ j _ e4;rw [ha] at ha';cases ha';rw [hb] at hb';cases hb';have:=w.dis a b y z l ea y1 eb z2 ea' eb';subst this;have e5:=(List.getElem?_inj (l:=fr) (i:=i - k) (j:=j - k) (JH.mp ha).1 hf).mp (by rw [ha,hb]);omega
theorem Jr{K:Ju}{J:It}{P:Hp->Prop}{vs:List V}{xs:List Qp}{g:TG}{dg:DG}{tc:TT}{dc:DB}{te:TE}{de:DT}{k:Nat}{fr:List Nat}{σ:St}{H:Hp}{O:Ex}{δ:Dl}{Qd:List Qp->Prop}{Q:VK}(S:bX J P vs)(gd:GD K g dg)(hf:fr.Nodup)
 (hk:∀v:V,∀σ':St,∀H':Hp,∀R:St->Hp->Prop,g v (aN k fr σ) H' R->g v (aN k fr σ) H' λσ2 H2=>n5 (aN k fr σ) σ2/\R σ2 H2)
 (hc:∀σ H Q,bD K H0 O0 dc σ H Q->tc σ H Q)(he:∀σ H Q,up K H0 O0 de σ H Q->te σ H Q)
 (hP:∀D H',H D=none->oR D H H'->P H')(r:ah K H O vs xs)(w:Wd K H0 O0 H O σ δ)(hz:vs.length<=Qz)(q:n9 dg dc de (bC k fr δ) xs [] Qd)
 (k1:∀ds us p H',Qd ds->ai H H'->H' p=none->ah K H' O us ds->Q (.ref p) (ao H' p (.lst us))):oT J g tc te k fr σ H Q:=by
 intro D hD;have w0:Wd K H0 O0 H O (aN k fr σ) (bC k fr δ):=w.comp hf;have nD:¬O D:=λz=>w.trk D z hD;have D0:H0 D=none:=by
  cases e:H0 D with
  | none=>rfl
  | some o=>rw [w.same _ _ e] at hD;cases hD
 have ex:∀H',oR D H H'->H' D≠none->Wd K H0 O0 H' (λa=>O a\/a=D) (aN k fr σ) (bC k fr δ):=λH' s' hd=>by
  have S':aG H H' O (λa=>O a\/a=D):=⟨λb o e _=>s' b o e (cE e hD),λb hb hn z=>z.elim hn λq=>hb (by rw [q];exact hD)⟩;refine⟨λb o e=>s' b o (w.same b o e) (λz=>by rw [z,D0] at e;cases e),λl z=>.inl (w.sub l z),λl z=>z.elim (w.new l) λq=>.inr (by rw [q];exact D0),λl z=>?_,w0.len,λj y e=>?_,w0.dis⟩
  ·by_cases ql:l=D
   ·rw [ql];exact hd
   ·have hl:=w.trk l (z.resolve_right ql);cases e:H l with
    | none=>exact absurd e hl
    | some o=>rw [s' l o e ql];exact λz=>nomatch z
  ·exact(w0.sl j y e).go S' (λl o _ _ a1 _ a3=>⟨.inl a1,s' _ _ a3 (λz=>nD (by rw [<-z];exact a1))⟩) (λa o u a1 _ a3=>⟨.inl a1,s' _ _ a3 (λz=>nD (by rw [<-z];exact a1))⟩) λa o a1 a3=>s' _ _ a3 (λz=>nD (by rw [<-z];exact w.sub _ a1))
 refine⟨λi m H'=>∃acc ys,m=vs.length - i/\i<=vs.length/\oR D H H'/\H' D=some (.lst ys)/\ys.length<=i/\ah K H' (λa=>O a\/a=D) ys acc/\n9 dg dc de (bC k fr δ) (xs.drop i) acc Qd,⟨vs.length,[],[],Qo,KI _,λb o e n=>by rw [az n];exact e,bh,KI _,.nil,by simpa using q⟩,?_⟩;rintro i m H1 ⟨acc,ys,rfl,hi,s1,e1,hy,ra,q1⟩;by_cases hlt:i < vs.length
 ·refine .inr ⟨S.go i H1 (hP D H1 hD s1) hlt,λx H' y=>?_⟩;have yy:=S.yl i H1 x H' (hP D H1 hD s1) hlt y;clear y;obtain⟨e,y⟩:=yy;subst e;obtain⟨d,ed,rd⟩:=r.get y;have hd:xs.drop i=d::xs.drop (i+1):=by
   rw [Mf (h:=(JH.mp ed).1),(JH.mp ed).2]
  rw [hd] at q1;have w1:=ex _ s1 (by rw [e1];exact λz=>nomatch z);have S':aG H H' O (λa=>O a\/a=D):=⟨λb o e _=>s1 b o e (cE e hD),λb hb hn z=>z.elim hn λq=>hb (by rw [q];exact hD)⟩;refine hk x σ _ _ (gd H0 O0 _ _ _ _ x d _ _ w1 (rd.step S') q1 λδ2 σ2 q2 w2=>?_);refine hc σ2 _ _ ⟨_,δ2,_,w2,q2,λok H3 q3 s3=>?_⟩;cases ok with
  | true=>
   rw [Ql rfl];refine he σ2 H3 _ ⟨_,δ2,_,w2.mono s3,q3,λd' v H4 q4 s4 r4=>?_⟩;have e4:=s4 _ _ (s3 _ _ e1);have sD:aG H4 (ao H4 D (.lst (ys++[v]))) (λa=>O a\/a=D) (λa=>O a\/a=D):=⟨λb o e n=>by rw [az (λz=>n (.inr z))];exact e,λ_ _ n=>n⟩;refine⟨ys,e4,Qj,vs.length - (i+1),Qj,acc++[d'],ys++[v],rfl,hlt,λb o e n=>by rw [az n];exact s4 _ _ (s3 _ _ (s1 b o e n)),bh,by simpa using hy,?_,q4⟩;exact((ra.mono (s3.trans s4)).append (.cons r4 .nil)).step sD
  | false=>
   rw [Qk Qi];exact⟨vs.length - (i+1),Qj,acc,ys,rfl,hlt,λb o e n=>s3 _ _ (s1 b o e n),s3 _ _ e1,Qj,ra.mono s3,q3⟩
 ·have e:i=vs.length:=Qj
  subst e;refine .inl ⟨S.st _ H1 (hP D H1 hD s1) (Jy _),?_⟩;rw [r.length,Of (Jy _)] at q1;have hrest:∃H2:Hp,H2 D=none/\ai H H2/\H1=ao H2 D (.lst ys):=by
   refine⟨λb=>if b=D then none else H1 b,Qo,λb o e=>?_,?_⟩
   ·have n:=cE e hD;show(if b=D then none else H1 b)=some o;rw [Qk n];exact s1 b o e n
   ·funext b;by_cases z:b=D
    ·rw [z,bh];exact e1
    ·rw [az z];show H1 b=if b=D then none else H1 b;rw [Qk z]
  obtain⟨H2,h2,s2,rfl⟩:=hrest;refine k1 acc ys D H2 q1 s2 h2 (ra.step ⟨λb o e n=>?_,λb _ n z=>n (.inl z)⟩);rw [az (λz=>n (.inr z))] at e;exact e
def d4(g:DG)(tc:DB)(te:DT)(δ0:Dl)(xs:List Qp)(Q:List Qp->Prop):Prop:=∃I:Nat->List Qp->Prop,I 0 []/\(∀i x acc,xs[i]?=some x->I i acc->g x δ0 λδ2=>tc δ2 λok=>if ok=true then te δ2 λy=>I (i+1) (acc++[y]) else I (i+1) acc)/\∀acc,I xs.length acc->Q acc
theorem qj{K:Ju}{J:It}{P:Hp->Prop}{vs:List V}{xs:List Qp}{g:TG}{dg:DG}{tc:TT}{dc:DB}{te:TE}{de:DT}{k:Nat}{fr:List Nat}{σ:St}{H:Hp}{O:Ex}{δ:Dl}{Qd:List Qp->Prop}{Q:VK}(S:bX J P vs)(gd:GD K g dg)(hf:fr.Nodup)
 (hk:∀v:V,∀σ':St,∀H':Hp,∀R:St->Hp->Prop,g v (aN k fr σ) H' R->g v (aN k fr σ) H' λσ2 H2=>n5 (aN k fr σ) σ2/\R σ2 H2)
 (hc:∀σ H Q,bD K H0 O0 dc σ H Q->tc σ H Q)(he:∀σ H Q,up K H0 O0 de σ H Q->te σ H Q)
 (hP:∀D H',H D=none->oR D H H'->P H')(r:ah K H O vs xs)(w:Wd K H0 O0 H O σ δ)(hz:vs.length<=Qz)(q:d4 dg dc de (bC k fr δ) xs Qd)
 (k1:∀ds us p H',Qd ds->ai H H'->H' p=none->ah K H' O us ds->Q (.ref p) (ao H' p (.lst us))):oT J g tc te k fr σ H Q:=by
 obtain⟨Iv,q0,qs,qe⟩:=q;intro D hD;have w0:Wd K H0 O0 H O (aN k fr σ) (bC k fr δ):=w.comp hf;have nD:¬O D:=λz=>w.trk D z hD;have D0:H0 D=none:=by
  cases e:H0 D with
  | none=>rfl
  | some o=>rw [w.same _ _ e] at hD;cases hD
 have ex:∀H',oR D H H'->H' D≠none->Wd K H0 O0 H' (λa=>O a\/a=D) (aN k fr σ) (bC k fr δ):=λH' s' hd=>by
  have S':aG H H' O (λa=>O a\/a=D):=⟨λb o e _=>s' b o e (cE e hD),λb hb hn z=>z.elim hn λq=>hb (by rw [q];exact hD)⟩;refine⟨λb o e=>s' b o (w.same b o e) (λz=>by rw [z,D0] at e;cases e),λl z=>.inl (w.sub l z),λl z=>z.elim (w.new l) λq=>.inr (by rw [q];exact D0),λl z=>?_,w0.len,λj y e=>?_,w0.dis⟩
  ·by_cases ql:l=D
   ·rw [ql];exact hd
   ·have hl:=w.trk l (z.resolve_right ql);cases e:H l with
    | none=>exact absurd e hl
    | some o=>rw [s' l o e ql];exact λz=>nomatch z
  ·exact(w0.sl j y e).go S' (λl o _ _ a1 _ a3=>⟨.inl a1,s' _ _ a3 (λz=>nD (by rw [<-z];exact a1))⟩) (λa o u a1 _ a3=>⟨.inl a1,s' _ _ a3 (λz=>nD (by rw [<-z];exact a1))⟩) λa o a1 a3=>s' _ _ a3 (λz=>nD (by rw [<-z];exact w.sub _ a1))
 refine⟨λi m H'=>∃acc ys,m=vs.length - i/\i<=vs.length/\oR D H H'/\H' D=some (.lst ys)/\ys.length<=i/\ah K H' (λa=>O a\/a=D) ys acc/\Iv i acc,⟨vs.length,[],[],Qo,KI _,λb o e n=>by rw [az n];exact e,bh,KI _,.nil,q0⟩,?_⟩;rintro i m H1 ⟨acc,ys,rfl,hi,s1,e1,hy,ra,q1⟩;by_cases hlt:i < vs.length
 ·refine .inr ⟨S.go i H1 (hP D H1 hD s1) hlt,λx H' y=>?_⟩;have yy:=S.yl i H1 x H' (hP D H1 hD s1) hlt y;clear y;obtain⟨e,y⟩:=yy;subst e;obtain⟨d,ed,rd⟩:=r.get y;have w1:=ex _ s1 (by rw [e1];exact λz=>nomatch z);have S':aG H H' O (λa=>O a\/a=D):=⟨λb o e _=>s1 b o e (cE e hD),λb hb hn z=>z.elim hn λq=>hb (by rw [q];exact hD)⟩;refine hk x σ _ _ (gd H0 O0 _ _ _ _ x d _ _ w1 (rd.step S') (qs i d acc ed q1) λδ2 σ2 q2 w2=>?_);refine hc σ2 _ _ ⟨_,δ2,_,w2,q2,λok H3 q3 s3=>?_⟩;cases ok with
  | true=>
   rw [Ql rfl];refine he σ2 H3 _ ⟨_,δ2,_,w2.mono s3,q3,λd' v H4 q4 s4 r4=>?_⟩;have e4:=s4 _ _ (s3 _ _ e1);have sD:aG H4 (ao H4 D (.lst (ys++[v]))) (λa=>O a\/a=D) (λa=>O a\/a=D):=⟨λb o e n=>by rw [az (λz=>n (.inr z))];exact e,λ_ _ n=>n⟩;refine⟨ys,e4,Qj,vs.length - (i+1),Qj,acc++[d'],ys++[v],rfl,hlt,λb o e n=>by rw [az n];exact s4 _ _ (s3 _ _ (s1 b o e n)),bh,by simpa using hy,?_,q4⟩;exact((ra.mono (s3.trans s4)).append (.cons r4 .nil)).step sD
  | false=>
   rw [Qk Qi];exact⟨vs.length - (i+1),Qj,acc,ys,rfl,hlt,λb o e n=>s3 _ _ (s1 b o e n),s3 _ _ e1,Qj,ra.mono s3,q3⟩
 ·have e:i=vs.length:=Qj
  subst e;refine .inl ⟨S.st _ H1 (hP D H1 hD s1) (Jy _),?_⟩;rw [r.length] at q1;have hrest:∃H2:Hp,H2 D=none/\ai H H2/\H1=ao H2 D (.lst ys):=by
   refine⟨λb=>if b=D then none else H1 b,Qo,λb o e=>?_,?_⟩
   ·have n:=cE e hD;show(if b=D then none else H1 b)=some o;rw [Qk n];exact s1 b o e n
   ·funext b;by_cases z:b=D
    ·rw [z,bh];exact e1
    ·rw [az z];show H1 b=if b=D then none else H1 b;rw [Qk z]
  obtain⟨H2,h2,s2,rfl⟩:=hrest;refine k1 acc ys D H2 (qe acc q1) s2 h2 (ra.step ⟨λb o e n=>?_,λb _ n z=>n (.inl z)⟩);rw [az (λz=>n (.inr z))] at e;exact e
def iU(t:DT)(g:DG)(tc:DB)(te:DT)(k:Nat)(fr:List Nat):DA:=λδ Q=>t δ λd=>∃xs,d= .list xs/\xs.length<=Qz/\n9 g tc te (bC k fr δ) xs [] Q
def iV(t:DT)(g:DG)(tc:DB)(te:DT)(k:Nat)(fr:List Nat):DA:=λδ Q=>t δ λd=>∃xs,d= .tuple xs/\xs.length<=Qz/\n9 g tc te (bC k fr δ) xs [] Q
def iW(ta:DA)(g:DG)(tc:DB)(te:DT)(k:Nat)(fr:List Nat):DA:=λδ Q=>ta δ λds=>∃j:Int,ds=[.int j]/\-(2 ^ 62)<=j/\j < Qz/\n9 g tc te (bC k fr δ) (fK 0 j.toNat) [] Q
def cU:DB:=λ_ Q=>Q true
def nI(g:TG)(k:Nat):Prop:=∀(fr:List Nat)(σ:St)(v:V)(H':Hp)(R:St->Hp->Prop),g v (aN k fr σ) H' R->g v (aN k fr σ) H' λσ2 H2=>n5 (aN k fr σ) σ2/\R σ2 H2
theorem bY:nI (mM 0) 1:=λfr σ v H' R h=>⟨Dj,h⟩
def eR(t:DT)(g:DG)(tc:DB)(te:DT)(k:Nat)(fr:List Nat):DA:=λδ Q=>t δ λd=>∃xs,d= .list xs/\xs.length<=Qz/\d4 g tc te (bC k fr δ) xs Q
def d5(t:DT)(g:DG)(tc:DB)(te:DT)(k:Nat)(fr:List Nat):DA:=λδ Q=>t δ λd=>∃xs,d= .tuple xs/\xs.length<=Qz/\d4 g tc te (bC k fr δ) xs Q
def eT(ta:DA)(g:DG)(tc:DB)(te:DT)(k:Nat)(fr:List Nat):DA:=λδ Q=>ta δ λds=>∃j:Int,ds=[.int j]/\-(2 ^ 62)<=j/\j < Qz/\d4 g tc te (bC k fr δ) (fK 0 j.toNat) Q
section
variable {tg iter elt:Qx} {ifs:List Qx} {scope:QP} {N':List Str} {k:Nat} {fr:List Nat} {g:TG} {dg:DG} {t:DT} {ta:DA} {tc:DB} {te:DT} {pos p ps:Pos}
theorem dJ(hc:X.calm=true)(S:aU X.env.scope X.N N' k fr scope)(hi:DF X H0 O0 iter t)(gd:GD X.K g dg)(hk:nI g k)(hfr:fr.Nodup)
 (hg:∀fp C s H,PG (bp X scope N' fp C s H) tg g)(hf:∀fp C s H,dS (bp X scope N' fp C s H) ifs (bD X.K H0 O0 tc))(he:∀fp C s H,PE (bp X scope N' fp C s H) elt (up X.K H0 O0 te))
 (hs:∀x,QI iter X.env x=pure x:=by intro _;rfl):FE X H0 O0 (.ListComp elt [⟨tg,iter,ifs,0⟩] scope pos) (eR t dg tc te k fr):=
 (uF hc S (tY hi) hg hf he hs).imp λσ H Q uu11=>by obtain⟨O,δ,Qd,w,q,kk⟩:=uu11;exact⟨O,δ,_,w,q,λd v H1 uu12 s1 r1=>by
  obtain⟨xs,e,hz,q1⟩:=uu12;subst e;obtain⟨a,vs,rfl,hq,rr⟩:=r1.lst;refine⟨a,rfl,⟨_,hq⟩,λD hD=>qj (bX.list hq) gd hfr (λv _ H' R h=>hk fr σ v H' R h) (λ_ _ _ z=>z) (λ_ _ _ z=>z) (λD H' hD s' o e=>s' _ _ e (cE e hD)) rr (w.mono s1) (by rw [rr.length];exact hz) q1 (λds us p H' z s' hp r'=>kk ds us p H' z (s1.trans s') hp r') D hD⟩⟩
theorem rQ(hc:X.calm=true)(S:aU X.env.scope X.N N' k fr scope)(hi:DF X H0 O0 iter t)(gd:GD X.K g dg)(hk:nI g k)(hfr:fr.Nodup)
 (hg:∀fp C s H,PG (bp X scope N' fp C s H) tg g)(hf:∀fp C s H,dS (bp X scope N' fp C s H) ifs (bD X.K H0 O0 tc))(he:∀fp C s H,PE (bp X scope N' fp C s H) elt (up X.K H0 O0 te))
 (hs:∀x,QI iter X.env x=pure x:=by intro _;rfl):FE X H0 O0 (.ListComp elt [⟨tg,iter,ifs,0⟩] scope pos) (d5 t dg tc te k fr):=
 (uF hc S (tZ hi) hg hf he hs).imp λσ H Q uu13=>by obtain⟨O,δ,Qd,w,q,kk⟩:=uu13;exact⟨O,δ,_,w,q,λd v H1 uu14 s1 r1=>by
  obtain⟨xs,e,hz,q1⟩:=uu14;subst e;obtain⟨a,vs,rfl,hq,rr⟩:=r1.tup;refine⟨a,rfl,⟨_,hq⟩,λD hD=>qj (bX.tup hq) gd hfr (λv _ H' R h=>hk fr σ v H' R h) (λ_ _ _ z=>z) (λ_ _ _ z=>z) (λD H' hD s' o e=>s' _ _ e (cE e hD)) rr (w.mono s1) (by rw [rr.length];exact hz) q1 (λds us p H' z s' hp r'=>kk ds us p H' z (s1.trans s') hp r') D hD⟩⟩
theorem xC(hc:X.calm=true){a:Qx}(S:aU X.env.scope X.N N' k fr scope)(hgl:Gl X "range")(hm:X.mg "range"=none)(ha:PA X [a] (fF X.K H0 O0 ta))(gd:GD X.K g dg)(hk:nI g k)(hfr:fr.Nodup)
 (hg:∀fp C s H,PG (bp X scope N' fp C s H) tg g)(hf:∀fp C s H,dS (bp X scope N' fp C s H) ifs (bD X.K H0 O0 tc))(he:∀fp C s H,PE (bp X scope N' fp C s H) elt (up X.K H0 O0 te))
 (hst:Qy [a] X.env=[(false,eval a X.env)]:=by rfl)(hs:∀x,QI (.Call (.Name "range" p) [a] [] ps) X.env x=pure x:=by intro _;rfl):
 FE X H0 O0 (.ListComp elt [⟨tg,(.Call (.Name "range" p) [a] [] ps),ifs,0⟩] scope pos) (eT ta dg tc te k fr):=
 (uF hc S (t6 hgl hm ha hst) hg hf he hs).imp λσ H Q uu15=>by obtain⟨O,δ,Qd,w,q,kk⟩:=uu15;exact⟨O,δ,_,w,q,λds vs H1 uu16 s1 r1=>by
  obtain⟨j,e,b1,b2,q1⟩:=uu16;subst e;cases r1 with
  | cons r1 r2=>
   cases r2;cases r1.int;have hb:(Qz:Int) < 2 ^ 62:=Qi
   exact⟨j,rfl,b1,Qj,λD hD=>qj (P:=λ_=>True) bX.rng gd hfr (λv _ H' R h=>hk fr σ v H' R h) (λ_ _ _ z=>z) (λ_ _ _ z=>z) (λ_ _ _ _=>trivial) (ah.rng _) (w.mono s1) (by rw [Jv,ME];omega) q1 (λds us p H' z s' hp r'=>kk ds us p H' z (s1.trans s') hp r') D hD⟩⟩
end
end
section
variable {K:Ju}
def dI(g:Int->Int->Qp):Qp->Qp->(Qp->Prop)->Prop:=λx y Q=>∃i j,x= .int i/\y= .int j/\Q (g i j)
def fW(C:Int->Int->Prop)(g:Int->Int->Qp):Qp->Qp->(Qp->Prop)->Prop:=λx y Q=>∃i j,x= .int i/\y= .int j/\C i j/\Q (g i j)
theorem bT{g:Int->Int->Int}:bS K (ft λi j=>.int (g i j)) (dI λi j=>.int (g i j)):=λH O x y dx dy Qd R _ hx hy uu17 k=>by
 obtain⟨i,j,e1,e2,q⟩:=uu17;subst e1 e2;cases hx.int;cases hy.int;exact⟨i,j,rfl,rfl,k _ _ H q (ai.refl _) (.int _)⟩
theorem cP{g:Int->Int->Bool}:bS K (ft λi j=>.bl (g i j)) (dI λi j=>.bool (g i j)):=λH O x y dx dy Qd R _ hx hy uu18 k=>by
 obtain⟨i,j,e1,e2,q⟩:=uu18;subst e1 e2;cases hx.int;cases hy.int;exact⟨i,j,rfl,rfl,k _ _ H q (ai.refl _) (.bl _)⟩
theorem aK{C:Int->Int->Prop}{g:Int->Int->Int}:bS K (rI C λi j=>.int (g i j)) (fW C λi j=>.int (g i j)):=λH O x y dx dy Qd R _ hx hy uu19 k=>by
 obtain⟨i,j,e1,e2,c,q⟩:=uu19;subst e1 e2;cases hx.int;cases hy.int;exact⟨i,j,rfl,rfl,c,k _ _ H q (ai.refl _) (.int _)⟩
def xD(K:Ju):R2:=λx y H Q=>∃O dx dy,Sh K H O x dx/\Sh K H O y dy/\bJ dx/\bJ dy/\Q (.bl (JG dx dy)) H
def xE(K:Ju):R2:=λx y H Q=>∃O dx dy,Sh K H O x dx/\Sh K H O y dy/\bJ dx/\bJ dy/\Q (.bl (!JG dx dy)) H
theorem cA{X:Cx}(hu:X.A.units+64 < QV):bz X (QO .Eq) (xD X.K):=by
 intro Sb s σ H x y v u Q I rx ry h;obtain⟨O,dx,dy,hx,hy,sx,sy,q⟩:=h;obtain⟨as,ra⟩:=iI I hx.all (KS sx) rx;obtain⟨bs,rb⟩:=iI I hy.all (KS sy) ry;exact SeqAt.compareEq_shaped ra rb sx sy hu (mO I q rfl)
theorem D7{X:Cx}(hu:X.A.units+64 < QV):bz X (QO .NotEq) (xE X.K):=by
 intro Sb s σ H x y v u Q I rx ry h;obtain⟨O,dx,dy,hx,hy,sx,sy,q⟩:=h;obtain⟨as,ra⟩:=iI I hx.all (KS sx) rx;obtain⟨bs,rb⟩:=iI I hy.all (KS sy) ry;exact SeqAt.compareNe_shaped ra rb sx sy hu (mO I q rfl)
def fX:Qp->Qp->(Qp->Prop)->Prop:=λx y Q=>bJ x/\bJ y/\Q (.bool (JG x y))
def fY:Qp->Qp->(Qp->Prop)->Prop:=λx y Q=>bJ x/\bJ y/\Q (.bool (!JG x y))
theorem cB:bS K (xD K) fX:=λH O x y dx dy Qd R _ hx hy uu20 k=>by obtain⟨a,b,q⟩:=uu20;exact⟨O,dx,dy,hx,hy,a,b,k _ _ H q (ai.refl _) (.bl _)⟩
theorem D8:bS K (xE K) fY:=λH O x y dx dy Qd R _ hx hy uu21 k=>by obtain⟨a,b,q⟩:=uu21;exact⟨O,dx,dy,hx,hy,a,b,k _ _ H q (ai.refl _) (.bl _)⟩
def fZ:Qp->Qp->(Qp->Prop)->Prop:=λx y Q=>∃ds i d,x= .list ds/\y= .int i/\atI ds i=some d/\Q d
def cV:Qp->Qp->(Qp->Prop)->Prop:=λx y Q=>∃ds i d,x= .tuple ds/\y= .int i/\atI ds i=some d/\Q d
theorem ah.atI{H:Hp}{O:Ex}{vs:List V}{ds:List Qp}{i:Int}{d:Qp}(r:ah K H O vs ds)(e:L2.atI ds i=some d):∃v,L2.atI vs i=some v/\Dt K H O v d:=by
 unfold L2.atI at e⊢;rw [r.length];cases q:nZ ds.length i with
 | none=>rw [q] at e;cases e
 | some j=>rw [q] at e;exact r.getD e
theorem aO:bS K (uo K) fZ:=λH O x y dx dy Qd R _ hx hy uu22 k=>by
 obtain⟨ds,i,d,e1,e2,e3,q⟩:=uu22;subst e1 e2;obtain⟨a,vs,rfl,hs,r⟩:=hx.lst;cases hy.int;obtain⟨v,hv,rv⟩:=r.atI e3;exact⟨a,vs,i,v,rfl,rfl,hs,hv,k d v H q (ai.refl _) rv⟩
theorem aF:bS K (wQ K) cV:=λH O x y dx dy Qd R _ hx hy uu23 k=>by
 obtain⟨ds,i,d,e1,e2,e3,q⟩:=uu23;subst e1 e2;obtain⟨a,vs,rfl,hs,r⟩:=hx.tup;cases hy.int;obtain⟨v,hv,rv⟩:=r.atI e3;exact⟨a,vs,i,v,rfl,rfl,hs,hv,k d v H q (ai.refl _) rv⟩
end
section
variable {X:Cx} {H0:Hp} {O0:Ex}
def D9:R2:=λx y H Q=>∃l b xs zs,x= .ref l/\y= .ref b/\Rd H l (.lst xs)/\Rd H b (.lst zs)/\xs.length+zs.length<=Qz/\∀p,H p=none->Q (.ref p) (ao H p (.lst (xs++zs)))
theorem Ea:bz X (Q9 .Add) D9:=by
 intro Sb s σ H x y v u Q I rx ry h;obtain⟨l,b,xs,zs,rfl,rfl,hH,hB,hz,q⟩:=h;cases rx;cases ry;obtain⟨z,its,n,r,e⟩:=hH.ok I.hok;obtain⟨z2,its2,n2,r2,e2⟩:=hB.ok I.hok;have l1:=r.length;have l2:=r2.length;refine PySem.P.add_list e e2 ?_ (by rw [JT,JT];omega);have ea:its.toArray++its2.toArray=(its++its2).toArray:=Qo
 rw [ea];exact⟨.ref _,_,I.lnew (t':=s.toks) (r.append r2) (by rw [Kg];omega),rfl,q _ I.fresh⟩
def gc(ta tb:DT):DA:=λδ Q=>ta δ λx=>tb δ λy=>∃xs ys,x= .list xs/\y= .list ys/\xs.length+ys.length<=Qz/\Q (xs++ys)
theorem qm{a b:Qx}{ta tb:DT}{pos:Pos}(ha:DF X H0 O0 a ta)(hb:DF X H0 O0 b tb):FE X H0 O0 (.BinOp a .Add b pos) (gc ta tb):=
 (wu Ea ha hb).imp λσ H Q uu24=>by obtain⟨O,δ,Qd,w,q,k⟩:=uu24;exact⟨O,δ,_,w,q,λx v H1 q1 s1 r1=>⟨O,δ,_,w.mono s1,q1,λy u H2 uu25 s2 r2=>by
  obtain⟨xs,ys,e1,e2,hz,q2⟩:=uu25;subst e1 e2;obtain⟨a,vs,rfl,h1,d1⟩:=(r1.mono s2).lstR;obtain⟨b,us,rfl,h2,d2⟩:=r2.lstR;exact⟨a,b,vs,us,rfl,rfl,h1,h2,by rw [d1.length,d2.length];exact hz,λp hp=>k _ _ _ _ q2 (s1.trans s2) hp (d1.append d2)⟩⟩⟩
def iX:Qp->Qp->(Qp->Prop)->Prop:=λx y Q=>∃xs ys,x= .tuple xs/\y= .tuple ys/\xs≠[]/\xs.length+ys.length<=Qz/\Q (.tuple (xs++ys))
def bf(xs:List Qp)(lo hi:Option Int):List Qp:=(xs.drop (HT.sIx xs.length 0 lo)).take (HT.sIx xs.length xs.length hi - HT.sIx xs.length 0 lo)
theorem ah.cut{K:Ju}{H:Hp}{O:Ex}{vs:List V}{ds:List Qp}(r:ah K H O vs ds)(lo hi:Option Int):ah K H O (ng vs lo hi) (bf ds lo hi):=by
 unfold ng bf;rw [r.length];exact(r.drop _).take _
abbrev DO:=Dl->(Option Int->Prop)->Prop
inductive nk (K:Ju) (H0:Hp) (O0:Ex) (t:DO) (σ:St) (H:Hp) (R:Option Int->Hp->Prop):Prop
 | mk (O:Ex) (δ:Dl) (Qd:Option Int->Prop):Wd K H0 O0 H O σ δ->t δ Qd->(∀d H',Qd d->ai H H'->R d H')->nk K H0 O0 t σ H R
def gf:DO:=λ_ Q=>Q none
def gh(t:DT):DO:=λδ Q=>t δ λd=>∃i,d= .int i/\Q (some i)
theorem PO.imp{X:Cx}{e:Option Qx}{t u:TO}(h:PO X e t)(i:∀σ H Q,u σ H Q->t σ H Q):PO X e u:=λSb s σ H Q I z=>h Sb s σ H Q I (i σ H Q z)
theorem eU:PO X none (nk X.K H0 O0 gf):=CH.imp λσ H Q uu26=>by obtain⟨O,δ,Qd,w,q,k⟩:=uu26;exact k none H q (ai.refl _)
theorem cm{e:Qx}{t:DT}(h:DE X H0 O0 e t):PO X (some e) (nk X.K H0 O0 (gh t)):=(CI h).imp λσ H Q uu27=>by obtain⟨O,δ,Qd,w,q,k⟩:=uu27;exact⟨O,δ,_,w,q,λd v H1 uu28 s1 r1=>by obtain⟨i,e,q1⟩:=uu28;subst e;cases r1;exact⟨i,rfl,k _ H1 q1 s1⟩⟩
def gi(t:DT)(tl th:DO):DA:=λδ Q=>t δ λd=>tl δ λl=>th δ λu=>∃xs,d= .list xs/\Q (bf xs l u)
def iY(t:DT)(tl th:DO):DT:=λδ Q=>t δ λd=>tl δ λl=>th δ λu=>∃xs,d= .tuple xs/\¬(HT.sIx xs.length 0 l=0/\HT.sIx xs.length xs.length u=xs.length)/\Q (.tuple (bf xs l u))
theorem gj{e:Qx}{lo hi:Option Qx}{t:DT}{tl th:DO}{pos p2:Pos}(h:DF X H0 O0 e t)(hl:PO X lo (nk X.K H0 O0 tl))(hu:PO X hi (nk X.K H0 O0 th)):FE X H0 O0 (.Subscript e (.Slice lo hi none p2) pos) (gi t tl th):=
 (uk wU h hl hu).imp λσ H Q uu29=>by obtain⟨O,δ,Qd,w,q,k⟩:=uu29;exact⟨O,δ,_,w,q,λd v H1 q1 s1 r1=>⟨O,δ,_,w.mono s1,q1,λl H2 q2 s2=>⟨O,δ,_,w.mono (s1.trans s2),q2,λu H3 uu30 s3=>by
  obtain⟨xs,e,q3⟩:=uu30;subst e;obtain⟨a,vs,rfl,h1,d1⟩:=(r1.mono (s2.trans s3)).lst;exact⟨a,vs,rfl,h1,λp hp=>k _ _ _ _ q3 (s1.trans (s2.trans s3)) hp (d1.cut l u)⟩⟩⟩⟩
theorem gm{a b:Qx}{ta tb:DT}{r:R2}{rd:Qp->Qp->(Qp->Prop)->Prop}{pos:Pos}(ho:oP X r)(hd:bS X.K r rd)(ha:DF X H0 O0 a ta)(hb:DF X H0 O0 b tb)(hs:∀v u,RC b false v u=operate [v,u] (Q8 v u):=by intro _ _;rfl):DE X H0 O0 (.Subscript a b pos) (bK rd ta tb):=(CP ho ha hb hs).imp (rH hd)
def gr:List Qp->(Qp->Prop)->Prop:=λds Q=>∃xs,(ds=[.list xs]\/ds=[.tuple xs])/\Q (.int xs.length)
def gs:List Qp->(Qp->Prop)->Prop:=λds Q=>∃xs,ds=[cN xs]/\Q (.int xs.length)
theorem mQ{K:Ju}:nj K (λxs H Q=>∃p ys,xs=[.ref p]/\(aS K H p ys\/bw K H p ys)/\Q (.int ys.length) H) gr:=λH O xs ds Qd R _ hs uu31 k=>by
 obtain⟨ys,e,q⟩:=uu31;rcases e with e | e <;> subst e
 ·cases hs with
  | cons h r=>
   cases r;obtain⟨a,vs,rfl,h1,d1⟩:=h.lst;exact⟨a,vs,rfl,.inl h1,by rw [d1.length];exact k _ _ H q (ai.refl _) (.int _)⟩
 ·cases hs with
  | cons h r=>
   cases r;obtain⟨a,vs,rfl,h1,d1⟩:=h.tup;exact⟨a,vs,rfl,.inr h1,by rw [d1.length];exact k _ _ H q (ai.refl _) (.int _)⟩
theorem Eb{K:Ju}:nj K (λxs H Q=>∃p ys,xs=[.ref p]/\(aS K H p ys\/bw K H p ys)/\Q (.int ys.length) H) gs:=λH O xs ds Qd R _ hs uu32 k=>by
 obtain⟨ys,e,q⟩:=uu32;subst e;cases hs with
 | cons h r=>
  cases r;obtain⟨a,vs,rfl,h1,d1⟩:=h.scr;exact⟨a,vs,rfl,.inl h1,by rw [d1.length];exact k _ _ H q (ai.refl _) (.int _)⟩
def gu:List Qp->(Qp->Prop)->Prop:=λds Q=>∃xs,ds=[.list xs]/\Q (.tuple xs)
theorem pf{K:Ju}:nj K (λxs H Q=>∃p ys,xs=[.ref p]/\((aS K H p ys/\∀l,H l=none->Q (.ref l) (ao H l (.tup ys)))\/(bw K H p ys/\Q (.ref p) H))) gu:=λH O xs ds Qd R tr hs uu33 k=>by
 obtain⟨ys,e,q⟩:=uu33;subst e;cases hs with
 | cons h r=>
  cases r;obtain⟨a,vs,rfl,h1,d1⟩:=h.lst;exact⟨a,vs,rfl,.inl ⟨h1,λl hl=>k _ _ _ q (ai.new hl) (.tup (.inl bh) (λz=>tr l z hl) (d1.mono (ai.new hl)))⟩⟩
theorem ah.bools{K:Ju}{H:Hp}{O:Ex}:∀{bs:List Bool}{vs:List V},ah K H O vs (bs.map LX)->vs=bs.map V.bl
 | [],_,r=>by rw [Kk] at r;cases r;rfl
 | b::bs,_,r=>by
  rw [JB] at r;cases r with
  | cons h r=>cases h;rw [JB,ah.bools r]
def gy(g:List Bool->Bool):List Qp->(Qp->Prop)->Prop:=λds Q=>∃bs:List Bool,ds=[.list (bs.map .bool)]/\Q (.bool (g bs))
theorem rR{K:Ju}{g:List Bool->Bool}:nj K (λxs H Q=>∃(a:Qs)(bs:List Bool),xs=[.ref a]/\aS K H a (bs.map V.bl)/\Q (.bl (g bs)) H) (gy g):=λH O xs ds Qd R tr hs uu34 k=>by
 obtain⟨bs,e,q⟩:=uu34;subst e;cases hs with
 | cons h r=>
  cases r;obtain⟨a,vs,rfl,h1,d1⟩:=h.lst;cases d1.bools;exact⟨a,bs,rfl,h1,k _ _ H q (ai.refl _) (.bl _)⟩
def gz(g:Int->Int->Int):List Qp->(Qp->Prop)->Prop:=λds Q=>∃i j,ds=[.int i,.int j]/\Q (.int (g i j))
theorem xF{K:Ju}{g:Int->Int->Int}:nj K (λxs H Q=>∃i j,xs=[.int i,.int j]/\Q (.int (g i j)) H) (gz g):=λH O xs ds Qd R tr hs uu35 k=>by
 obtain⟨i,j,e,q⟩:=uu35;subst e;cases hs with
 | cons h r=>
  cases r with
  | cons h2 r=>
   cases r;cases h.int;cases h2.int;exact⟨i,j,rfl,k _ _ H q (ai.refl _) (.int _)⟩
def pg:Qp->String
 | .none=> "NoneType" | .bool _=> "bool" | .int _=> "int" | .str _=> "str" | .list _=> "list" | .tuple _=> "tuple" | .dict _=> "dict"
def iZ(neg:Bool):Qp->Qp->(Qp->Prop)->Prop:=λx y Q=>∃ds,(y= .list ds\/y= .tuple ds)/\cO x=true/\ds.all cO=true/\Q (.bool (if neg then !(ds.any λd=>JG d x) else ds.any λd=>JG d x))
end
section
variable {P:QA} {w:QE} {K:Ju} {mg:Str->Option Qr} {base:QB}
def cC(N:List Str)(ds:List Qp):Dl:=ds.map (λd=>some (.v d))++JU (N.length - ds.length) none
theorem uP{H:Hp}{O:Ex}{N:List Str}{vs:List V}{ds:List Qp}(tr:∀l,O l->H l≠none)(r:ah K H O vs ds):Wd K H O H O (start N vs) (cC N ds):=by
 have hl:=r.length;have at1:∀(i:Nat) y,(cC N ds)[i]?=some y->(∃d,ds[i]?=some d/\y=some (.v d))\/y=none:=λi y e=>by
  unfold cC at e;by_cases h:i < ds.length
  ·rw [Me (by simpa using h),JD] at e;cases q:ds[i]? with
   | none=>rw [q] at e;cases e
   | some d=>rw [q] at e;exact .inl ⟨d,rfl,(Kp e).symm⟩
  ·rw [MA (by simpa using N3 h),MN] at e;split at e
   ·exact .inr (Kp e).symm
   ·cases e
 refine⟨ai.refl _,λ_ z=>z,λ_ z=>.inl z,tr,by simp [start,cC,hl],λi y e=>?_,λi j ds' es l e1=>?_⟩
 ·rcases at1 i y e with⟨d,hd,rfl⟩ | rfl
  ·obtain⟨v,hv,rv⟩:=r.getD hd;refine⟨v,?_,rv⟩;unfold start;rw [Me (by simpa using(JH.mp hv).1),JD,hv];rfl
  ·exact Ln
 ·rcases at1 i _ e1 with⟨d,_,z⟩ | z
  ·cases z;intro h;exact h.elim
  ·cases z
theorem dB.okD{x qual:Str}{st:QH}{f:Qs}{fd:QC}{N ps:List Str}{k:Nat}{F:List Qp->(Qp->Prop)->Prop}(Fu:dB K x qual st f fd)(S:bj N ps (ax st))(len:∀ds Q,F ds Q->ds.length=ps.length)
 (hbody:∀(cdv:Qr) (A:QF) (outer:List Env) (s:Qt) (H:Hp) (O:Ex) (ds:List Qp) (Q:Qp->Prop) (E:XK),aP k (A.deeper (Rj qual (ax st) s.heap.objs.size f cdv))->F ds Q->
  ∃t,bu (bo aM P w K mg base N qual (ax st) f cdv A outer s H E).nox (fu st) (aQ K H O t)/\t {nx:=λ_=>Q .none,rt:=Q} (cC N ds)):aB P w K mg base aM (k+1) f fd ps (bb K F):=by
 refine Fu.ok S (λvs H Q E h=>?_) (λcdv A outer s H vs Q E hr h=>?_)
 ·obtain⟨O,ds,Qd,_,r,q,_⟩:=h;rw [r.length];exact len _ _ q
 ·obtain⟨O,ds,Qd,tr,r,q,k⟩:=h;obtain⟨t,ht,q'⟩:=hbody cdv A outer s H O ds Qd E hr q;refine⟨_,ht,O,_,_,uP tr r,q',λO' δ' σ' H' z w' S'=>?_,λd v H' z s' r'=>k d v H' z s' r',λ_ _ _ _ z=>z.elim,λ_ _ _ _ z=>z.elim⟩;exact k _ _ _ z w'.same .non
end
section
variable {X:Cx} {H0:Hp} {O0:Ex}
theorem mR:dS X [] (bD X.K H0 O0 cU):=λSb s σ H Q I h=>by
 obtain⟨O,δ,Qd,w,q,k⟩:=h;exact Df Sb s σ H Q I (k true H q (ai.refl _))
theorem Ec:cj X (.builtin "isinstance") (λxs H Q=>∃O d T b x,xs=[x,.ty T]/\Dt X.K H O x d/\(∀x,d≠ .dict [(.none,x)])/\kitOne X.K (.type (pg d)) (.type T)=some b/\Q (.bl b) H):=by
 intro Sb s σ H xs us Q I r h;obtain⟨O,d,T,b,x,rfl,hd,hp,hk,q⟩:=h;obtain⟨u,w',rfl,rx,rt⟩:=p7 r;cases (show w'=MT T from rt);have fin:∀tk,EP X Sb σ Q (.bool b) {s with toks:=tk}:=λtk=>⟨.bl b,H,I.tok tk,rfl,q⟩;cases hd with
 | non=>cases (show u=Mg from rx);exact RI kitx_none I.kIn Ln hk (λz=>nomatch z) fin
 | bl y=>cases (show u=Mq y from rx);exact RI kitx_bool I.kIn Ln hk (λz=>nomatch z) fin
 | int i=>obtain⟨t,e⟩:=(show ∃t,u=MG i t from rx);cases e;exact RI kitx_int I.kIn Ln hk (λz=>nomatch z) fin
 | str y=>obtain⟨t,e⟩:=(show ∃t,u=L5 y t from rx);cases e;exact RI kitx_str I.kIn Ln hk (λz=>nomatch z) fin
 | @tup a xs ds h n rr=>
  cases (show u=JY a from rx);obtain⟨its,rv,⟨o,e,c,_⟩,_⟩:=I.tuple (.inl h);exact RI kitx_tuple I.kIn ⟨o,e,c⟩ hk (λz=>nomatch z) fin
 | @tupK a xs ds h rr=>
  cases (show u=JY a from rx);obtain⟨its,rv,⟨o,e,c,_⟩,_⟩:=I.tuple h.of0;exact RI kitx_tuple I.kIn ⟨o,e,c⟩ hk (λz=>nomatch z) fin
 | @lst a xs ds h n rr=>
  cases (show u=JY a from rx);obtain⟨its,rv,⟨o,_,e,c,_⟩,_⟩:=I.list (.inl h);exact RI kitx_list I.kIn ⟨o,e,c⟩ hk (λz=>nomatch z) fin
 | pack h n=>exact absurd rfl (hp _)
 | purse h n=>exact absurd rfl (hp _)
 | scr h r=>exact absurd rfl (hp _)
 | obj h e n r=>exact absurd rfl (hp _)
 | @dct0 a h n=>
  cases (show u=JY a from rx);obtain⟨_,_,_,_,o,_,_,e,c,_⟩:=(show bx X.prog X.w H s.heap a (.dK []) from I.hok a _ h);exact RI kitx_dict I.kIn ⟨o,e,c.1⟩ hk (λz=>nomatch z) fin
 | @dic a ob kv ks kp ds h e1 e2 n rr=>
  cases (show u=JY a from rx);obtain⟨_,_,_,_,o,_,_,e,c,_⟩:=(show bx X.prog X.w H s.heap a (.dK kv) from(I.hok a _ h).2);exact RI kitx_dict I.kIn ⟨o,e,c.1⟩ hk (λz=>nomatch z) fin
def eV(K:Ju)(T:String)(t:DT):DT:=λδ Q=>t δ λd=>∃b,kitOne K (.type (pg d)) (.type T)=some b/\(∀x,d≠ .dict [(.none,x)])/\Q (.bool b)
theorem Ed{T:String}{a c:Qx}{t:DT}{np p:Pos}(hg:Gl X "isinstance")(hm:X.mg "isinstance"=none)(hv:QL "isinstance"=some (.builtin "isinstance"))(ha:DF X H0 O0 a t)(hc:PE X c (tC (.ty T)))
 (hs:Qy [a,c] X.env=(false,eval a X.env)::Qy [c] X.env:=by rfl)(hs2:Qy [c] X.env=[(false,eval c X.env)]:=by rfl)(hb:(QN p (Qy [c] X.env)).any (·.1)=false:=by rfl):DE X H0 O0 (.Call (.Name "isinstance" np) [a,c] [] p) (eV X.K T t):=
 (bI Ec hg hm hv (bP ha (bP hc eG hs2) hs) (he:=hs) (hpl:=hb)).imp λσ H Q uu36=>by obtain⟨O,δ,Qd,w,q,k⟩:=uu36;exact⟨O,δ,_,w,q,λd v H1 uu37 s1 r1=>by obtain⟨b,e,hp,q1⟩:=uu37;exact⟨λ_=>False,d,T,b,v,rfl,r1.all,hp,e,k _ _ H1 q1 s1 (.bl b)⟩⟩
def gA:Qp->Qp->(Qp->Prop)->Prop:=λx y Q=>∃i j,x= .str i/\y= .str j/\i.length+j.length<=Qz/\Q (.str (i++j))
theorem rS{K:Ju}:bS K (λx y H Q=>∃i j,x= .str i/\y= .str j/\i.length+j.length<=Qz/\Q (.str (i++j)) H) gA:=λH O x y dx dy Qd R tr hx hy uu38 k=>by
 obtain⟨i,j,e1,e2,hz,q⟩:=uu38;subst e1 e2;cases hx.str;cases hy.str;exact⟨i,j,rfl,rfl,hz,k _ _ H q (ai.refl _) (.str _)⟩
def gB:Qp->Qp->(Qp->Prop)->Prop:=λx y Q=>∃z i c,x= .str z/\y= .int i/\z.length<=Qz/\atI z.cps.toList i=some c/\Q (.str ⟨#[c]⟩)
theorem rT{K:Ju}:bS K wR gB:=λH O x y dx dy Qd R tr hx hy uu39 k=>by
 obtain⟨z,i,c,e1,e2,hz,e3,q⟩:=uu39;subst e1 e2;cases hx.str;cases hy.int;exact⟨z,i,c,rfl,rfl,hz,e3,k _ _ H q (ai.refl _) (.str _)⟩
def i1(t:DT)(tl th:DO):DT:=λδ Q=>t δ λd=>tl δ λl=>th δ λu=>∃z,d= .str z/\z.length<=Qz/\Q (.str (Txt.slice z l u))
def i2(to:DT)(t:DT):DT:=λδ Q=>to δ λx=>∃z:Str,x= .str z/\t δ λy=>∃(ys:List Str),y= .list (ys.map .str)/\(ys.map (·.length)).sum+ys.length*z.length<=16777216/\Q (.str (Txt.join z ys))
def gC:List Qp->(Qp->Prop)->Prop:=λds Q=>(∃i,ds=[.int i]/\Q (.int i))\/∃b,ds=[.bool b]/\Q (.int (if b then 1 else 0))
theorem xG{K:Ju}:nj K (λxs H Q=>(∃i,xs=[.int i]/\Q (.int i) H)\/∃k,xs=[.bl k]/\Q (.int (if k then 1 else 0)) H) gC:=λH O xs ds Qd R tr hs h k=>by
 rcases h with⟨i,e,q⟩ | ⟨b,e,q⟩ <;> subst e
 ·cases hs with
  | cons h r=>cases r;cases h.int;exact .inl ⟨i,rfl,k _ _ H q (ai.refl _) (.int _)⟩
 ·cases hs with
  | cons h r=>cases r;cases h.bl;exact .inr ⟨b,rfl,k _ _ H q (ai.refl _) (.int _)⟩
def i3(t:DA):DA:=λδ Q=>t δ λds=>∃xs,(ds=[.list xs]\/ds=[.tuple xs])/\Q xs
theorem Ee{xs:List V}{us:List Qr}(r:aA xs us):aA xs.reverse us.reverse:=by
 induction r with
 | nil=>exact .nil
 | cons h r ih=>rw [Nd,Nd];exact ih.append (.cons h .nil)
def i4(t:DT):DA:=λδ Q=>t δ λd=>∃xs,d= .list xs/\Q xs.reverse
end
def Ef:List Qp->(Qp->Prop)->Prop:=λds Q=>∃z:Int,ds=[uK,.int z]/\0 < z/\z<=1000000/\∀i:Int,0<=i->i < z->Q (.int i)
theorem cx{α:Type}{a:α}{l:List α}:atI (a::l) 0=some a:=eJ (j:=0) rfl
theorem cy{α:Type}{a b:α}{l:List α}:atI (a::b::l) 1=some b:=eJ (j:=1) rfl
theorem cW{α:Type}{a b c:α}{l:List α}:atI (a::b::c::l) 2=some c:=eJ (j:=2) rfl
theorem cF{α:Type}{a b c d:α}{l:List α}:atI (a::b::c::d::l) 3=some d:=eJ (j:=3) rfl
theorem cX{α:Type}{a b c d e:α}{l:List α}:atI (a::b::c::d::e::l) 4=some e:=eJ (j:=4) rfl
theorem i5{i:Int}:bJ (.int i):=rfl
theorem i6{i:Bool}:bJ (.bool i):=rfl
theorem i7:bJ .none:=rfl
theorem cG{x y:Str}:JG (.str x) (.str y)=(x==y):=by simp [JG]
theorem eX{x y:Int}:JG (.int x) (.int y)=(x==y):=by simp [JG]
theorem gE{x y:Bool}:JG (.bool x) (.bool y)=(x==y):=by simp [JG]
theorem cH{x:Str}:bJ (.str x)↔JK x=true:=by
 unfold bJ Lk;simp [Ke,Mx]
theorem rj{n d:Nat}:HT.sIx n d none=d:=rfl
theorem rV{n d:Nat}{i:Int}(h0:0<=i)(h1:i<=n):HT.sIx n d (some i)=i.toNat:=by
 obtain⟨j,rfl⟩:=Ky h0;rw [HT.sIx_nat,L4];omega
theorem nq{xs:List Qp}{i:Int}(h0:0<=i)(h1:i<=xs.length):bf xs none (some i)=xs.take i.toNat:=by
 unfold bf;rw [rj,rV h0 h1];simp
theorem ph{xs:List Qp}{i:Int}(h0:0<=i)(h1:i<=xs.length):bf xs (some i) none=xs.drop i.toNat:=by
 unfold bf;rw [rj,rV h0 h1,J7 (by rw [MI];exact Jy _)]
theorem oh{lo:Int}{n i:Nat}{x:Qp}(h:(fK lo n)[i]?=some x):i < n/\x= .int (lo+i):=by
 unfold fK at h;rw [JD] at h;by_cases hi:i < n
 ·rw [List.getElem?_range hi] at h;exact⟨hi,(Kp h).symm⟩
 ·rw [LR (by simpa using hi)] at h;cases h
theorem qo{lo:Int}{n:Nat}:(fK lo n).length=n:=by unfold fK;simp
section
variable {κ:Type} [DecidableEq κ]
def cI(kvs:List (κ×V))(k:κ):Option V:=(kvs.find? λkv=>decide (kv.1=k)).map (·.2)
def putK(kvs:List (κ×V))(k:κ)(v:V):List (κ×V):=
 if (kvs.any λkv=>decide (kv.1=k))=true then kvs.map (λkv=>if kv.1=k then(kv.1,v) else kv) else kvs++[(k,v)]
theorem qp{p:κ×V}{r:List (κ×V)}{k:κ}(e:p.1=k):cI (p::r) k=some p.2:=by simp [cI,LO,e]
theorem pj{p:κ×V}{r:List (κ×V)}{k:κ}(e:¬p.1=k):cI (p::r) k=cI r k:=by simp [cI,LO,e]
theorem xH(k:κ):∀kvs:List (κ×V),(kvs.any λkv=>decide (kv.1=k))=(cI kvs k).isSome
 | []=>rfl
 | p::r=>by
  rw [Kz];by_cases e:p.1=k
  ·simp only [qp e,decide_eq_true e,Bool.true_or,OO]
  ·rw [pj e,decide_eq_false e,Lo];exact xH k r
theorem uQ(kvs:List (κ×V))(k:κ)(v:V):(putK kvs k v).length<=kvs.length+1:=by
 unfold putK;split
 ·rw [Jv];omega
 ·rw [Kg,JS,Kr];omega
theorem fq.isSome_eq{o:Option V}{u:Option Qr}(r:fq o u):o.isSome=u.isSome:=by
 cases o with
 | none=>cases u with
  | none=>rfl
  | some _=>exact(show False from r).elim
 | some _=>cases u with
  | none=>exact(show False from r).elim
  | some _=>rfl
theorem fq.getD{o:Option V}{u:Option Qr}{d:V}{d':Qr}(r:fq o u)(rd:ay d d'):ay (o.getD d) (u.getD d'):=by
 cases o with
 | none=>cases u with
  | none=>exact rd
  | some _=>exact(show False from r).elim
 | some _=>cases u with
  | none=>exact(show False from r).elim
  | some _=>exact r
theorem KV.val{kvs:List (κ×V)}{vs:List (κ×Qr)}(r:KV kvs vs)(k:κ):fq (cI kvs k) (valueAt vs k):=by
 unfold KV at r
 induction r with
 | nil=>exact Ln
 | @cons p q ps qs h t ih=>
  obtain⟨h1,h2⟩:=h;by_cases e:p.1=k
  ·have e':q.1=k:=h1.symm.trans e;have b:valueAt (q::qs) k=some q.2:=by simp [valueAt,LO,e']
   rw [qp e,b];exact h2
  ·have e':¬q.1=k:=λz=>e (h1.trans z);have b:valueAt (q::qs) k=valueAt qs k:=by simp [valueAt,LO,e']
   rw [pj e,b];exact ih
theorem KV.any{kvs:List (κ×V)}{vs:List (κ×Qr)}(r:KV kvs vs)(k:κ):(kvs.any λkv=>decide (kv.1=k))=vs.any λkv=>decide (kv.1=k):=by
 unfold KV at r
 induction r with
 | nil=>rfl
 | cons h t ih=>rw [Kz,Kz,ih,h.1]
theorem KV.repl{kvs:List (κ×V)}{vs:List (κ×Qr)}(r:KV kvs vs)(k:κ){y:V}{u:Qr}(ry:ay y u):
 KV (kvs.map λkv=>if kv.1=k then(kv.1,y) else kv) (vs.map λkv=>if kv.1=k then(kv.1,u) else kv):=by
 unfold KV at r⊢
 induction r with
 | nil=>exact .nil
 | @cons p q ps qs h t ih=>
  rw [JB,JB];refine .cons ?_ ih;obtain⟨h1,h2⟩:=h;by_cases e:p.1=k
  ·rw [Ql e,Ql (h1.symm.trans e)];exact⟨h1,ry⟩
  ·rw [Qk e,Qk (λz=>e (h1.trans z))];exact⟨h1,h2⟩
theorem KV.put{kvs:List (κ×V)}{vs:List (κ×Qr)}(r:KV kvs vs)(k:κ){y:V}{u:Qr}(ry:ay y u):KV (putK kvs k y) (stored vs k u):=by
 unfold putK stored;rw [r.any k];by_cases e:(vs.any λkv=>decide (kv.1=k))=true
 ·rw [Ql e,Ql e];exact r.repl k ry
 ·rw [Qk e,Qk e];exact P5 r ⟨rfl,ry⟩
theorem KV.keys{kvs:List (κ×V)}{vs:List (κ×Qr)}(r:KV kvs vs):kvs.map (·.1)=vs.map (·.1):=by
 unfold KV at r
 induction r with
 | nil=>rfl
 | cons h t ih=>rw [JB,JB,ih,h.1]
theorem KV.length{kvs:List (κ×V)}{vs:List (κ×Qr)}(r:KV kvs vs):kvs.length=vs.length:=Oz r
end
theorem oi{P:QA}{w:QE}{k:ag}{u:Qr}(r:ay (kV k) u):(cg P w).is k u=true:=by
 cases k with
 | inl i=>obtain⟨t,e⟩:=(show ∃t,u=MG i t from r);subst e;exact BP P w i t
 | inr x=>obtain⟨t,e⟩:=(show ∃t,u=L5 x t from r);subst e;exact BQ P w x t
theorem xI{P:QA}{w:QE}:∀{ks:List ag}{us:List Qr},aA (ks.map kV) us->ItemsAre (cg P w) ks us
 | [],_,r=>by rw [Kk] at r;cases r;exact .nil
 | k::ks,_,r=>by
  rw [JB] at r;cases r with
  | cons h t=>exact .cons (oi h) (xI t)
abbrev KT(H:Hp):List (List ag×V)->List (List ag×Qs×Qr)->Prop:=Paired λp q=>p.1=q.1/\H q.2.1=some (.tup (p.1.map kV))/\ay p.2 q.2.2
theorem KT.val{H:Hp}{kvs:List (List ag×V)}{xs:List (List ag×Qs×Qr)}(r:KT H kvs xs)(k:List ag):fq (cI kvs k) ((atKey xs k).map (·.2)):=by
 induction r with
 | nil=>exact Ln
 | @cons p q ps qs h t ih=>
  obtain⟨h1,_,h2⟩:=h;by_cases e:p.1=k
  ·have e':q.1=k:=h1.symm.trans e;have b:atKey (q::qs) k=some q.2:=by simp [atKey,LO,e']
   rw [qp e,b];exact h2
  ·have e':¬q.1=k:=λz=>e (h1.trans z);have b:atKey (q::qs) k=atKey qs k:=by simp [atKey,LO,e']
   rw [pj e,b];exact ih
theorem KT.repl{H:Hp}{kvs:List (List ag×V)}{xs:List (List ag×Qs×Qr)}(r:KT H kvs xs)(k:List ag){y:V}{u:Qr}(ry:ay y u):
 KT H (kvs.map λkv=>if kv.1=k then(kv.1,y) else kv) (xs.map (putAt k u)):=by
 induction r with
 | nil=>exact .nil
 | @cons p q ps qs h t ih=>
  rw [JB,JB];refine .cons ?_ ih;obtain⟨h1,h2,h3⟩:=h;unfold putAt;by_cases e:p.1=k
  ·rw [Ql e,Ql (h1.symm.trans e)];exact⟨h1,h2,ry⟩
  ·rw [Qk e,Qk (λz=>e (h1.trans z))];exact⟨h1,h2,h3⟩
theorem KT.put{H:Hp}{kvs:List (List ag×V)}{xs:List (List ag×Qs×Qr)}(r:KT H kvs xs)(k:List ag){b:Qs}{y:V}{u:Qr}(hb:H b=some (.tup (k.map kV)))(ry:ay y u):
 KT H (putK kvs k y) (storedH xs k b u):=by
 have e:(kvs.any λkv=>decide (kv.1=k))=(atKey xs k).isSome:=by
  rw [xH,(r.val k).isSome_eq,NU]
 unfold putK storedH;rw [e];by_cases q:(atKey xs k).isSome=true
 ·rw [Ql q,Ql q];exact r.repl k ry
 ·rw [Qk q,Qk q];exact P5 r ⟨rfl,hb,ry⟩
theorem KT.keeps{H H':Hp}{kvs:List (List ag×V)}{xs:List (List ag×Qs×Qr)}(r:KT H kvs xs)(ht:∀b ys,H b=some (.tup ys)->H' b=some (.tup ys)):KT H' kvs xs:=
 Paired.mapP r λ_ _ z=>⟨z.1,ht _ _ z.2.1,z.2.2⟩
section
variable {P:QA} {w:QE} {H:Hp} {h:QB} {a:Qs}
theorem xJ{u:HO}(ok:aW P w H h)(e:Rd H a u):bx P w H h a u:=e.ok ok
theorem nr{kvs:List (ag×V)}(ok:aW P w H h)(e:Rd H a (.dK kvs)):kvs.length<=Qz/\(a==Q1)=false/\∃vs,KV kvs vs/\h.DictOf (cg P w) a vs:=
 show bx P w H h a (.dK kvs) from xJ ok e
theorem xK{kvs:List (ag×V)}(ok:aW P w H h)(e:H a=some (.dK kvs)):kvs.length<=Qz/\(a==Q1)=false/\∃vs,KV kvs vs/\h.DictOf (cg P w) a vs:=nr ok (.inl e)
theorem pq{ks:List ag}(ok:aW P w H h)(e:H a=some (.tup (ks.map kV))):(RV (cg P w)).is h ks a:=by
 obtain⟨_,its,r,o,h1,h2,n,h3⟩:=(show bx P w H h a (.tup (ks.map kV)) from ok a _ e);exact⟨o,its.toArray,n,h1,h2,h3,by simpa using xI r⟩
theorem oj{kvs:List (List ag×V)}(ok:aW P w H h)(e:Rd H a (.dT kvs)):kvs.length<=Qz/\(a==Q1)=false/\
 ∃xs,KT H kvs xs/\h.DictOfH (RV (cg P w)) a xs:=by
 obtain⟨z,y,xs,r,o,es,ep,h1,h2,h3,h4,h5⟩:=(show bx P w H h a (.dT kvs) from xJ ok e);refine⟨z,y,xs,r,o,es,ep,h1,h2,h3,h4,λx hx=>?_,h5⟩;have all:∀{l:List (List ag×V)}{m:List (List ag×Qs×Qr)},KT H l m->∀x∈m,(RV (cg P w)).is h x.1 x.2.1:=by
  intro l m q
  induction q with
  | nil=>intro x hx;exact nomatch hx
  | @cons p q ps qs hq t ih=>
   intro x hx;rcases JF.mp hx with e | hx
   ·subst e;exact pq ok (by rw [<-hq.1];exact hq.2.1)
   ·exact ih x hx
 exact all r x hx
theorem Eg{kvs:List (List ag×V)}(ok:aW P w H h)(e:H a=some (.dT kvs)):kvs.length<=Qz/\(a==Q1)=false/\
 ∃xs,KT H kvs xs/\h.DictOfH (RV (cg P w)) a xs:=oj ok (.inl e)
end
def cJ(H:Hp)(a:Qs)(y:V)(r:Option V):Prop:=
 (∃kvs k,Rd H a (.dK kvs)/\y=kV k/\r=cI kvs k)\/∃kvs k b,Rd H a (.dT kvs)/\y= .ref b/\H b=some (.tup (k.map kV))/\r=cI kvs k
def qq(H:Hp)(a:Qs)(y v:V)(H':Hp):Prop:=
 (∃kvs k,H a=some (.dK kvs)/\y=kV k/\kvs.length < Qz/\H'=ao H a (.dK (putK kvs k v)))\/
 ∃kvs k b,H a=some (.dT kvs)/\y= .ref b/\H b=some (.tup (k.map kV))/\kvs.length < Qz/\H'=ao H a (.dT (putK kvs k v))
theorem cJ.k{H:Hp}{a:Qs}{kvs:List (ag×V)}{k:ag}(e:H a=some (.dK kvs)):cJ H a (kV k) (cI kvs k):= .inl ⟨kvs,k,.inl e,rfl,rfl⟩
theorem qq.k{H:Hp}{a:Qs}{kvs:List (ag×V)}{k:ag}{v:V}(e:H a=some (.dK kvs))(hl:kvs.length < Qz):qq H a (kV k) v (ao H a (.dK (putK kvs k v))):= .inl ⟨kvs,k,e,rfl,hl,rfl⟩
section
variable {X:Cx} {Sb:List (Qs×Obj)} {σ:St} {H:Hp} {s:Qt} {a:Qs} {y v:V} {u r:Qr} {o:Option V} {A:QF} {E:Qr->Qt->Prop}
theorem aa.big(I:aa X Sb σ H s):Q1 < s.heap.objs.size:=by
 have h:QD < s.heap.objs.size:=(I.mod.glob.keeps I.bk).lt;exact Nat.lt_trans Qi h
theorem Ei{Q:Qr->Qt->Prop}(hu:A.units+1 < QV)(I:aa X Sb σ H s)(g:cJ H a y (some v))(ry:ay y u)(h:∀w' s',aa X Sb σ H s'->ay v w'->Q w' s'):
 Qv (Qw X.prog X.w) A (Q8 (.ref a) u) Q E s:=by
 rcases g with⟨kvs,k,e,ey,l⟩ | ⟨kvs,k,b,e,ey,eb,l⟩
 ·subst ey;obtain⟨z,hd,vs,rel,dd⟩:=nr I.hok e;obtain⟨w',hw,rw'⟩:=fq.some_of (v:=v) (o:=valueAt vs k) (by rw [l];exact rel.val k);exact wpAny_getItem_of (oi ry) dd.mapOf hw (h w' _ (I.tok _) rw')
 ·subst ey;cases (show u=JY b from ry);obtain⟨z,hd,xs,rel,dd⟩:=oj I.hok e;obtain⟨w',hw,rw'⟩:=fq.some_of (v:=v) (o:=(atKey xs k).map (·.2)) (by rw [l];exact rel.val k);obtain⟨p,hp,hp2⟩:=Option.map_eq_some_iff.mp hw;refine wpAny_getItem_heap (Rh hu) (pq I.hok eb) dd hp ?_;rw [hp2];exact h w' _ (I.tok _) rw'
theorem Ej{Q:Qr->Qt->Prop}(hu:A.units+1 < QV)(I:aa X Sb σ H s)(g:cJ H a y o)(ry:ay y u)(h:∀s',aa X Sb σ H s'->Q (.bool o.isSome) s'):
 Qv (Qw X.prog X.w) A (QO .In u (.ref a)) Q E s:=by
 rcases g with⟨kvs,k,e,ey,l⟩ | ⟨kvs,k,b,e,ey,eb,l⟩
 ·subst ey;obtain⟨z,hd,vs,rel,dd⟩:=nr I.hok e;refine wpAny_in_of (oi ry) hd dd.mapOf ?_;rw [<-(rel.val k).isSome_eq,<-l];exact h _ (I.tok _)
 ·subst ey;cases (show u=JY b from ry);obtain⟨z,hd,xs,rel,dd⟩:=oj I.hok e;refine wpAny_in_heap (Rh hu) (pq I.hok eb) hd dd ?_;have q:=(rel.val k).isSome_eq;rw [NU] at q;rw [<-q,<-l];exact h _ (I.tok _)
theorem Ek{Q:Qr->Qt->Prop}(hu:A.units+1 < QV)(I:aa X Sb σ H s)(g:cJ H a y o)(ry:ay y u)(h:∀s',aa X Sb σ H s'->Q (.bool (!o.isSome)) s'):
 Qv (Qw X.prog X.w) A (QO .NotIn u (.ref a)) Q E s:=by
 rcases g with⟨kvs,k,e,ey,l⟩ | ⟨kvs,k,b,e,ey,eb,l⟩
 ·subst ey;obtain⟨z,hd,vs,rel,dd⟩:=nr I.hok e;refine wpAny_notIn_of (oi ry) hd dd.mapOf ?_;rw [<-(rel.val k).isSome_eq,<-l];exact h _ (I.tok _)
 ·subst ey;cases (show u=JY b from ry);obtain⟨z,hd,xs,rel,dd⟩:=oj I.hok e;refine wpAny_notIn_heap (Rh hu) (pq I.hok eb) hd dd ?_;have q:=(rel.val k).isSome_eq;rw [NU] at q;rw [<-q,<-l];exact h _ (I.tok _)
theorem uR{h':QB}{t':Nat}{ob:HO}(I:aa X Sb σ H s)(mu:pP (H a))(hs:Mt a s.heap h')(he:∃q,h'.get? a=some q)(new:bx X.prog X.w (ao H a ob) h' a ob):
 aa X Sb σ (ao H a ob) {s with heap:=h',toks:=t'}:=
 I.write (x:=a) (e:=a) mu (.inl rfl) (λb q hb z=>(hs.2 b hb).trans z) he new
theorem xM{P:QA}{w:QE}{H':Hp}{h':QB}{kvs:List (ag×V)}{vs:List (ag×Qr)}(z:kvs.length<=Qz)(hd:(a==Q1)=false)(rel:KV kvs vs)(dd:h'.DictOf (cg P w) a vs):
 bx P w H' h' a (.dK kvs):=⟨z,hd,vs,rel,dd⟩
theorem El{H':Hp}{Q:Unit->Qt->Prop}(hu:A.units+1 < QV)(I:aa X Sb σ H s)(g:qq H a y v H')(ry:ay y u)(rv:ay v r)(h:∀s',aa X Sb σ H' s'->Q () s'):
 Qv (Qw X.prog X.w) A (setItem (.ref a) u r) Q E s:=by
 rcases g with⟨kvs,k,e,ey,l,eH⟩ | ⟨kvs,k,b,e,ey,eb,l,eH⟩
 ·subst ey eH;obtain⟨z,hd,vs,rel,dd⟩:=xK I.hok e;have hz:vs.length<=Qz:=by rw [<-rel.length];exact z
  have hl:(putK kvs k v).length<=Qz:=by have:=uQ kvs k v;omega
  refine wpAny_setItem_pairs (hsz:=hz) (oi ry) dd λh' dd' hs=>h _ ?_;have he:∃q,h'.get? a=some q:=let ⟨q,_,_,hq,_⟩:=dd';⟨q,hq⟩
  exact uR I (by rw [e];exact Ln) hs he (xM hl hd (rel.put k rv) dd')
 ·subst ey eH;cases (show u=JY b from ry);obtain⟨z,hd,xs,rel,dd⟩:=Eg I.hok e;have hz:xs.length<=Qz:=by rw [<-Oz rel];exact z
  have hl:(putK kvs k v).length<=Qz:=by have:=uQ kvs k v;omega
  refine wpAny_setItem_heap (hsz:=hz) (Rh hu) (pq I.hok eb) dd λh' dd' hs=>h _ ?_;obtain⟨q,es,ep,hq,h2,h3,h4,_,h5⟩:=dd';refine uR I (by rw [e];exact Ln) hs ⟨q,hq⟩ ⟨hl,hd,_,(rel.put k eb rv).keeps λc ys ec=>?_,q,es,ep,hq,h2,h3,h4,h5⟩;rw [az (BR ec e (λz=>nomatch z))];exact ec
end
section
variable {X:Cx} {Sb:List (Qs×Obj)} {σ:St} {H:Hp} {s:Qt} {a:Qs} {kvs:List (ag×V)} {k:ag} {u:Qr} {A:QF} {E:Qr->Qt->Prop}
theorem Em{Q:Qr->Qt->Prop}(I:aa X Sb σ H s)(e:Rd H a (.dK kvs))(h:∀t s',aa X Sb σ H s'->Q (.int kvs.length t) s'):Qv (Qw X.prog X.w) A (call (.builtin "len") [.ref a]) Q E s:=by
 obtain⟨z,hd,vs,rel,dd⟩:=nr I.hok e;refine call_len_dict hd dd (by rw [<-rel.length];rw [QK] at z;omega) ?_;rw [<-rel.length];exact h _ _ (I.tok _)
end
def rW(i:Qx):Prop:=∀ov iv,RC i false ov iv=operate [ov,iv] (Q8 ov iv)
theorem Eo{prog:QA}{w:QE}{A:QF}{E:Qr->Qt->Prop}{s:Qt}{env:Env}{value slice:Qx}{pos:Pos}{T id:String}{Q:Qr->Qt->Prop}
 (hl:typeLookup (.type T) "__getitem__"=pure (some (.builtin id)))(hs:rW slice)
 (h:Qv (Qw prog w) A (eval value env) (λo s₁=>Qv (Qw prog w) A (eval slice env) (λi s₂=>s₂.TypeIs o T/\Qv (Qw prog w) A (Q8 o i) Q E s₂) E s₁) E s):
 Qv (Qw prog w) A (eval (.Subscript value slice pos) env) Q E s:=by
 refine Subscript_ (QM h (λo s₁ h₁=>QM h₁ (λi s₂ h₂=>?_) λ_ _ x=>x) λ_ _ x=>x);obtain⟨hT,h₂⟩:=h₂;unfold R1;refine Qq ?_;rw [getitemInPython_of_ne hT.not_modules];refine Qq (wpAny_specialOf hT hl ?_);have fin:Qv (Qw prog w) A (RC slice false o i) (λr s₃=>Qv (Qw prog w) A (letTemporaryGo value o r >>=λ_=>pure r) Q E s₃) E s₂:=by
  rw [hs o i];exact wpAny_operating (QM h₂ (λr s₃ h₃=>Qq (wpAny_letTemporaryGo (Qu h₃))) λ_ _ x=>x)
 first
  | exact Qu (Qq fin)
  | exact Qq (Qu (Qq fin))
  | exact Qq fin
theorem Ep{X:Cx}{Sb:List (Qs×Obj)}{σ:St}{H:Hp}{s:Qt}{a:Qs}{y:V}{o:Option V}(I:aa X Sb σ H s)(g:cJ H a y o):s.TypeIs (.ref a) "dict":=by
 rcases g with⟨kvs,k,e,_,_⟩ | ⟨kvs,k,b,e,_,_,_⟩
 ·obtain⟨_,_,vs,_,dd⟩:=nr I.hok e;exact dd.typeIs
 ·obtain⟨_,_,xs,_,dd⟩:=oj I.hok e;exact dd.typeIs
def Er(td ty:TE):TE:=λσ H Q=>td σ H λx H1=>ty σ H1 λy H2=>∃a v,x= .ref a/\cJ H2 a y (some v)/\Q v H2
def Es(ty td:TE):TE:=λσ H Q=>ty σ H λy H1=>td σ H1 λx H2=>∃a o,x= .ref a/\cJ H2 a y o/\Q (.bl o.isSome) H2
def Et(ty td:TE):TE:=λσ H Q=>ty σ H λy H1=>td σ H1 λx H2=>∃a o,x= .ref a/\cJ H2 a y o/\Q (.bl (!o.isSome)) H2
def Eu(td ty tv:TE):TS:=λD σ H=>tv σ H λv H1=>td σ H1 λx H2=>ty σ H2 λy H3=>∃a H4,x= .ref a/\qq H3 a y v H4/\D.nx σ H4
section
variable {X:Cx} {o i e value:Qx} {pos pos' tpos:Pos} {td ty tv:TE}
theorem xN(hu:X.A.units+1 < QV)(ho:PE X o td)(hi:PE X i ty)(hs:rW i):PE X (.Subscript o i pos) (Er td ty):=by
 intro Sb s σ H Q I h;refine Eo PySem.F.slot_dict_getitem.lookup hs (ar (ho Sb s σ H _ I h) λu s1 ⟨x,H1,I1,rx,q1⟩=>ar (hi Sb s1 σ H1 _ I1 q1) λiv s2 ⟨y,H2,I2,ry,a,v,ex,g,q2⟩=>?_);subst ex;obtain rfl:u=JY a:=rx;exact⟨Ep I2 g,Ei hu I2 g ry λw' s3 I3 rw'=>⟨v,H2,I3,rw',q2⟩⟩
theorem Ew(hu:X.A.units+1 < QV)(hi:PE X i ty)(ho:PE X o td):PC X .In i o (Es ty td):=by
 intro Sb s σ H Q I h;refine ar (hi Sb s σ H _ I h) λiv s1 ⟨y,H1,I1,ry,q1⟩=>ar (ho Sb s1 σ H1 _ I1 q1) λu s2 ⟨x,H2,I2,rx,a,ov,ex,g,q2⟩=>?_;subst ex;obtain rfl:u=JY a:=rx;exact Ej hu I2 g ry λs3 I3=>⟨.bl ov.isSome,H2,I3,rfl,q2⟩
theorem Ey(hu:X.A.units+1 < QV)(hi:PE X i ty)(ho:PE X o td):PC X .NotIn i o (Et ty td):=by
 intro Sb s σ H Q I h;refine ar (hi Sb s σ H _ I h) λiv s1 ⟨y,H1,I1,ry,q1⟩=>ar (ho Sb s1 σ H1 _ I1 q1) λu s2 ⟨x,H2,I2,rx,a,ov,ex,g,q2⟩=>?_;subst ex;obtain rfl:u=JY a:=rx;exact Ek hu I2 g ry λs3 I3=>⟨.bl (!ov.isSome),H2,I3,rfl,q2⟩
theorem Ez(hu:X.A.units+1 < QV)(ho:PE X o td)(hi:PE X i ty)(hv:PE X value tv)(hs:QS value (some (.Subscript o i pos')) pos.line X.env=pure false):
 PS X (.Assign [.Subscript o i pos'] value pos) (Eu td ty tv):=by
 intro Sb s σ H D I h;refine wpAny_Assign_Subscript (ar (hv Sb s σ H _ I h) λr s1 ⟨v,H1,I1,rv,q1⟩=>ar (ho Sb s1 σ H1 _ I1 q1) λu s2 ⟨x,H2,I2,rx,q2⟩=>ar (hi Sb s2 σ H2 _ I2 q2) λiv s3 ⟨y,H3,I3,ry,a,H4,ex,g,q3⟩=>?_) hs;subst ex;obtain rfl:u=JY a:=rx;exact El hu I3 g ry rv λs4 I4=>⟨σ,H4,I4,q3⟩
end
theorem xO{P:QA}{w:QE}{H:Hp}(h:QB)(hb:Q1 < h.objs.size):bx P w H (h.push {cls:= .type "dict",data:= .dict #[]}) h.objs.size (.dK []):=
 ⟨KI _,beq_eq_false_iff_ne.mpr (Ne.symm (JW hb)),[],.nil,Qg h⟩
def EA:TE:=λ_ H Q=>∀p,H p=none->Q (.ref p) (ao H p (.dK []))
section
variable {X:Cx} {pos:Pos}
theorem xP:PE X (.Dict [] [] pos) EA:=λSb s σ H Q I h=>
 wpAny_Dict_empty ⟨.ref s.heap.objs.size,_,I.laid (a:=s.heap.objs.size) (o:= .dK []) (t':=s.toks) (λ_ _ q=>Jx _ q) (Jy _) (xO s.heap I.big),rfl,h _ (I.hok.fresh (Jy _))⟩
end
def rX:List (TE×TE)->St->Hp->(List (V×V)->Hp->Prop)->Prop
 | [],_,H,Q=>Q [] H
 | (tk,tv)::r,σ,H,Q=>tk σ H λx H1=>tv σ H1 λy H2=>rX r σ H2 λps H3=>Q ((x,y)::ps) H3
abbrev VV:List (V×V)->List (Qr×Qr)->Prop:=Paired λp q=>ay p.1 q.1/\ay p.2 q.2
def qr(X:Cx)(pos:Pos)(keys:List (Option Qx))(values:List Qx)(trs:List (TE×TE)):Prop:=
 ∀(Sb:List (Qs×Obj))(s:Qt)(σ:St)(H:Hp)(Q:List (V×V)->Hp->Prop),aa X Sb σ H s->rX trs σ H Q->
  Qv (Qw X.prog X.w) X.A (evalPairs (pairTrees keys values X.env pos)) (λvs s'=>∃ps H',aa X Sb σ H' s'/\VV ps vs/\Q ps H') X.xe s
theorem EB{X:Cx}{pos:Pos}:qr X pos [] [] []:=λSb s σ H Q I h=>pairTrees_nil_walk ⟨[],H,I,.nil,h⟩
theorem EC{X:Cx}{pos:Pos}{k v:Qx}{ks:List (Option Qx)}{vs:List Qx}{tk tv:TE}{trs:List (TE×TE)}(hk:PE X k tk)(hv:PE X v tv)(hr:qr X pos ks vs trs):
 qr X pos (some k::ks) (v::vs) ((tk,tv)::trs):=λSb s σ H Q I h=>
 pairTrees_cons_walk (ar (hk Sb s σ H _ I h) λu s1 ⟨x,H1,I1,rx,q1⟩=>ar (hv Sb s1 σ H1 _ I1 q1) λw2 s2 ⟨y,H2,I2,ry,q2⟩=>
  ar (hr Sb s2 σ H2 _ I2 q2) λws s3 uu51=>by obtain⟨ps,H3,I3,rel,q3⟩:=uu51;exact⟨(x,y)::ps,H3,I3,.cons ⟨rx,ry⟩ rel,q3⟩)
def nJ(kvs more:List (ag×V)):List (ag×V):=more.foldl (λacc kv=>putK acc kv.1 kv.2) kvs
theorem KV.merge:∀{more:List (ag×V)}{rs:List (ag×Qr)}{kvs:List (ag×V)}{vs:List (ag×Qr)},KV more rs->KV kvs vs->KV (nJ kvs more) (merged vs rs):=by
 intro more rs kvs vs r;unfold KV at r
 induction r generalizing kvs vs with
 | nil=>intro q;exact q
 | @cons p q ps qs h t ih=>
  intro r0;have e:KV (putK kvs p.1 p.2) (stored vs q.1 q.2):=by
   have:=r0.put p.1 h.2;rw [<-h.1];exact this
  exact ih e
theorem xQ:∀(more kvs:List (ag×V)),(nJ kvs more).length<=kvs.length+more.length
 | [],kvs=>by show kvs.length<=kvs.length+0;omega
 | p::r,kvs=>by
  have h1:=xQ r (putK kvs p.1 p.2);have h2:=uQ kvs p.1 p.2;show(nJ (putK kvs p.1 p.2) r).length<=_;rw [JS];omega
theorem xR{P:QA}{w:QE}:∀{kvs:List (ag×V)}{ws:List (Qr×Qr)},VV (kvs.map λkv=>(kV kv.1,kv.2)) ws->∃rs,Carries (cg P w) ws rs/\KV kvs rs
 | [],_,r=>by rw [Kk] at r;cases r;exact⟨[],Ln,.nil⟩
 | p::kvs,_,r=>by
  rw [JB] at r;cases r with
  | @cons a b as bs h t=>
   obtain⟨rs,c,q⟩:=xR (P:=P) (w:=w) t;obtain⟨b1,b2⟩:=b;exact⟨(p.1,b2)::rs,⟨oi h.1,rfl,c⟩,.cons ⟨rfl,h.2⟩ q⟩
def ED(trs:List (TE×TE)):TE:=λσ H Q=>∀p,H p=none->rX trs σ (ao H p (.dK [])) λps H2=>H2 p=some (.dK [])/\∃kvs:List (ag×V),ps=kvs.map (λkv=>(kV kv.1,kv.2))/\kvs.length<=15/\Q (.ref p) (ao H2 p (.dK (nJ [] kvs)))
theorem EF{X:Cx}{pos:Pos}{keys:List (Option Qx)}{values:List Qx}{trs:List (TE×TE)}(h:qr X pos keys values trs)(hall:keys.all (·.isSome)=true)(hl:keys.length=values.length)(h0:keys≠[])
 (h15:keys.length<=15):PE X (.Dict keys values pos) (ED trs):=by
 intro Sb s σ H Q I q;have hn:=I.hok.fresh (Jy s.heap.objs.size);have I1:=I.laid (a:=s.heap.objs.size) (o:= .dK []) (h':=s.heap.push {cls:= .type "dict",data:= .dict #[]}) (t':=s.toks) (λ_ _ q=>Jx _ q) (Jy _) (xO s.heap I.big);refine wpAny_Dict_walk (knd:=cg X.prog X.w) hall hl h0 h15 (ar (h Sb _ σ _ _ I1 (q _ hn)) λws s2 ⟨ps,H2,I2,rel,e,kvs,ep,lk,q2⟩=>?_);subst ep;obtain⟨rs,c,rk⟩:=xR (P:=X.prog) (w:=X.w) rel;obtain⟨z,hd,vs0,r0,dd⟩:=xK I2.hok e;cases r0;refine⟨rs,c,dd,λh' dd' hs=>⟨.ref s.heap.objs.size,_,?_,rfl,q2⟩⟩;have hz:(nJ [] kvs).length<=Qz:=by
  have h1:=xQ kvs [];rw [Kr] at h1;rw [QK];omega
 have he:∃q,h'.get? s.heap.objs.size=some q:=let ⟨q,_,_,hq,_⟩:=dd';⟨q,hq⟩
 exact uR I2 (by rw [e];exact Ln) hs he (xM hz hd (rk.merge .nil) dd')
structure M1 (X:Cx) (o:Qx) (m:Str) (apos:Pos) (e:Qx) (cpos:Pos):Prop where
 base:Rn o m X.env (eval o X.env)=eval o X.env
 few:((QN cpos (Qy [e] X.env)).all (λx=>!x.1) && (backToKw cpos (RD [] X.env)).all (λx=>x.1.isSome)
  && decide (([e]:List Qx).length+([]:List Rf).length+(if ([]:List Rf).isEmpty then 0 else 1) < 30))=true
 line:(apos.endLine==cpos.line)=true
 trees:QN cpos (Qy [e] X.env)=[(false,eval e X.env)]
structure M2 (X:Cx) (o:Qx) (m:Str) (apos:Pos) (e f:Qx) (cpos:Pos):Prop where
 base:Rn o m X.env (eval o X.env)=eval o X.env
 few:((QN cpos (Qy [e,f] X.env)).all (λx=>!x.1) && (backToKw cpos (RD [] X.env)).all (λx=>x.1.isSome)
  && decide (([e,f]:List Qx).length+([]:List Rf).length+(if ([]:List Rf).isEmpty then 0 else 1) < 30))=true
 line:(apos.endLine==cpos.line)=true
 trees:QN cpos (Qy [e,f] X.env)=[(false,eval e X.env),(false,eval f X.env)]
def xS(H:Hp)(a:Qs):Prop:=(∃kvs,Rd H a (.dK kvs))\/∃kvs,Rd H a (.dT kvs)
theorem EG{X:Cx}{Sb:List (Qs×Obj)}{σ:St}{H:Hp}{s:Qt}{a:Qs}(I:aa X Sb σ H s)(d:xS H a):
 s.TypeIs (.ref a) "dict"/\(∀b,JY a= .ref b->∃ob,s.heap.get? b=some ob/\ob.dict=none)/\(a==Q1)=false:=by
 rcases d with⟨kvs,e⟩ | ⟨kvs,e⟩
 ·obtain⟨_,hd,vs,_,dd⟩:=nr I.hok e;refine⟨dd.typeIs,λb q=>?_,hd⟩;cases q;obtain⟨ob,_,_,h1,h2,_⟩:=dd;exact⟨ob,h1,h2.2.1⟩
 ·obtain⟨_,hd,xs,_,dd⟩:=oj I.hok e;refine⟨dd.typeIs,λb q=>?_,hd⟩;cases q;obtain⟨ob,_,_,h1,h2,_⟩:=dd;exact⟨ob,h1,h2.2.1⟩
section
variable {X:Cx} {Sb:List (Qs×Obj)} {σ:St} {H:Hp} {s:Qt} {a:Qs} {y d:V} {u r:Qr} {o:Option V} {A:QF} {E:Qr->Qt->Prop}
theorem EH{Q:Qr->Qt->Prop}(hu:A.units+1 < QV)(I:aa X Sb σ H s)(g:cJ H a y o)(ry:ay y u)(h:∀w' s',aa X Sb σ H s'->ay (o.getD .non) w'->Q w' s'):
 Qv (Qw X.prog X.w) A (call (.builtin "dict.get") [.ref a,u]) Q E s:=by
 rcases g with⟨kvs,k,e,ey,l⟩ | ⟨kvs,k,b,e,ey,eb,l⟩
 ·subst ey;obtain⟨z,hd,vs,rel,dd⟩:=nr I.hok e;refine call_meetsIn Np dd.typeIs Og (N7 _ _) (meets_dict_get (cg X.prog X.w) a (oi ry) hd) ⟨_,dd.mapOf,h _ _ (I.tok _) ?_⟩;rw [l];exact(rel.val k).getD rfl
 ·subst ey;cases (show u=JY b from ry);obtain⟨z,hd,xs,rel,dd⟩:=oj I.hok e;refine call_meetsIn Np dd.typeIs Og (N7 _ _) (meetsH_dict_get (RV (cg X.prog X.w)) a b hd) ⟨Rh hu,k,xs,pq I.hok eb,dd,h _ _ (I.tok _) ?_⟩;rw [l];exact(rel.val k).getD rfl
end
def EI(td ty:TE):TE:=λσ H Q=>td σ H λx H1=>∃a,x= .ref a/\xS H1 a/\ty σ H1 λy H2=>∃o,cJ H2 a y o/\Q (o.getD .non) H2
section
variable {X:Cx} {o e f:Qx} {apos cpos:Pos} {td ty tx:TE}
theorem EJ(hu:X.A.units+1 < QV)(ho:PE X o td)(he:PE X e ty)(m:M1 X o "get" apos e cpos):PE X (.Call (.Attribute o "get" apos) [e] [] cpos) (EI td ty):=by
 intro Sb s σ H Q I h;refine wpAny_Call_method m.base m.few m.line PySem.F.plainAttrs_dict Np PySem.F.type_dict_get (ar (ho Sb s σ H _ I h) λu s1 ⟨x,H1,I1,rx,a,ex,d,q1⟩=>?_);subst ex;obtain rfl:u=JY a:=rx;obtain⟨t1,t2,_⟩:=EG I1 d;refine⟨t1,t2,?_⟩;rw [m.trees];refine Oe rfl (Nu (NH (ar (he Sb s1 σ H1 _ I1 q1) λiv s2 ⟨y,H2,I2,ry,ov,g,q2⟩=>NQ ?_)));exact EH hu I2 g ry λw' s3 I3 rw'=>⟨_,H2,I3,rw',q2⟩
end
section
variable {X:Cx} {H0:Hp} {O0:Ex}
def i8(a b c d:Str)(t:DT):DT:=λδ Q=>t δ λy=>(y= .str a/\Q (.str c))\/(y= .str b/\Q (.str d))
def litsOf:List Qx->Option (List Qp)
 | []=>some []
 | .Constant (.int i) _ _::r=>(litsOf r).map (.int i::·)
 | .Constant (.str x) _ _::r=>(litsOf r).map (.str x::·)
 | _::_=>none
def eY(ds:List Qp):DA:=λ_ Q=>Q ds
theorem uS:∀{es:List Qx}{ds:List Qp},litsOf es=some ds->PA X es (dW X.K H0 O0 (eY ds))
 | [],ds,h=>by cases h;exact ak
 | e::r,ds,h=>by
  cases e with
  | Constant c j p=>
   cases c with
   | int i=>
    have h':(litsOf r).map (.int i::·)=some ds:=h;cases q:litsOf r with
    | none=>rw [q] at h';cases h'
    | some ms=>rw [q] at h';cases h';exact ae af (uS q)
   | str x=>
    have h':(litsOf r).map (.str x::·)=some ds:=h;cases q:litsOf r with
    | none=>rw [q] at h';cases h'
    | some ms=>rw [q] at h';cases h';exact ae aZ (uS q)
   | _=>cases h
  | _=>cases h
def litsE:Qx->Option (List Qp)
 | .List es _=>litsOf es
 | _=>none
theorem EK{e:Qx}{ds:List Qp}(h:litsE e=some ds):FE X H0 O0 e (eO (eY ds)):=by
 cases e with
 | List es p=>exact bZ (uS h)
 | _=>cases h
end
structure EL (n:Nat) (x:Str):Prop where
 ok:JK x=true
 le:x.length<=n
theorem xT{x:Str}:JK x=true↔∀c∈x.cps.toList,c < 0x110000:=by
 unfold JK;rw [<-Array.all_toList,Mo];simp
theorem uT(x y:Str):(x++y).cps=x.cps++y.cps:=rfl
theorem qt(x y:Str):(x++y).length=x.length+y.length:=by
 show(x.cps++y.cps).size=_;rw [Array.size_append];rfl
def dM:Str:="abcdefghijklmnopqrstuvwxyz"
theorem EM:dM.cps.toList.length=26:=Qh
theorem xU:∀c∈dM.cps.toList,c < 0x110000:=Qh
theorem rY{j:Int}(h0:0<=j)(h1:j < 26):∃c,atI dM.cps.toList j=some c/\dM.cps.toList[j.toNat]?=some c/\c < 0x110000:=by
 obtain⟨k,rfl⟩:=Ky h0;have hk:k < dM.cps.toList.length:=by rw [EM];omega
 refine⟨dM.cps.toList[k],eJ (by simp [hk]),by simp [hk],xU _ (KY hk)⟩
def gF(j:Int):Nat:=(dM.cps.toList[j.toNat]?).getD 0
theorem xV{j:Int}(h0:0<=j)(h1:j < 26):atI dM.cps.toList j=some (gF j)/\gF j < 0x110000:=by
 obtain⟨c,e1,e2,e3⟩:=rY h0 h1;have:gF j=c:=by unfold gF;rw [e2];rfl
 rw [this];exact⟨e1,e3⟩
structure bU (n:Nat) (d:Qp):Prop where
 can:d.canLay0=true
 dep:d.depth<=n
theorem bU.shp{n:Nat}{d:Qp}(h:bU n d)(hn:n<=64):Lk d=true:=by
 unfold Lk;rw [h.can,decide_eq_true (Km h.dep hn)];rfl
theorem bU.mono{n m:Nat}{d:Qp}(h:bU n d)(hn:n<=m):bU m d:=⟨h.can,Km h.dep hn⟩
theorem xW{x:Str}(h:JK x=true):bU 1 (.str x):=⟨by simpa [Ke] using h,by simp [Mx]⟩
theorem EN{i:Int}:bU 1 (.int i):=⟨by simp [Ke],by simp [Mx]⟩
theorem EO{i:Bool}:bU 1 (.bool i):=⟨by simp [Ke],by simp [Mx]⟩
theorem qu{n:Nat}:∀{ds:List Qp},(∀d∈ds,bU n d)->LJ ds=true/\MW ds<=n
 | [],_=>⟨by simp [LJ],by simp [MW]⟩
 | d::r,h=>by
  obtain⟨a,b⟩:=qu (ds:=r) λe he=>h e (by simp [he]);have c:=h d Qo;refine⟨by rw [LJ,c.can,a];rfl,?_⟩;rw [MW];exact Nat.max_le.mpr ⟨c.dep,b⟩
theorem i9{n:Nat}{ds:List Qp}(h:∀d∈ds,bU n d):bU (n+1) (.tuple ds):=by
 obtain⟨a,b⟩:=qu h;refine⟨by simpa [Ke] using a,?_⟩;rw [Mx];omega
def PU(X:Cx)(e:Qx)(te:TE):Prop:=∀(i:Nat)(x:Str)(pos' spos:Pos)(hN:X.N.Nodup)(hxi:X.N[i]?=some x)(hx:iC X.env.scope x)(hsw:QS e (some (.Name x pos')) spos.line X.env=pure true)
 (hfn:X.fn x=true\/X.env.scope.names.lookup x=some .local),PS X (.Assign [.Name x pos'] e spos) (oM te (mM i))
theorem PU.imp{X:Cx}{e:Qx}{t u:TE}(h:PU X e t)(i:∀σ H Q,u σ H Q->t σ H Q):PU X e u:=λi' x p1 p2 hN hxi hx hsw hfn=>(h i' x p1 p2 hN hxi hx hsw hfn).imp λD σ H z=>i σ H _ z
section
variable {X:Cx} {H0:Hp} {O0:Ex}
section
variable {tg iter elt:Qx} {ifs:List Qx} {scope:QP} {N':List Str} {k:Nat} {fr:List Nat} {g:TG} {dg:DG} {t:DT} {ta:DA} {tc:DB} {te:DT} {pos p ps:Pos}
theorem xX{wi:TI}{tc:TT}{te:TE}(hc:X.calm=true)(S:aU X.env.scope X.N N' k fr scope)(hi:PI X tg iter wi)
 (hg:∀fp C s H,PG (bp X scope N' fp C s H) tg g)(hf:∀fp C s H,dS (bp X scope N' fp C s H) ifs tc)(he:∀fp C s H,PE (bp X scope N' fp C s H) elt te)
 (hs:∀x,QI iter X.env x=pure x:=by intro _;rfl):PU X (.ListComp elt [⟨tg,iter,ifs,0⟩] scope pos) (nB wi g tc te k fr):=
 λ_ _ _ _ hN hxi hx hsw hfn=>Dh hN hxi hx hc S hi hg hf he hsw hs hfn
theorem xY(hc:X.calm=true){a:Qx}(S:aU X.env.scope X.N N' k fr scope)(hgl:Gl X "range")(hm:X.mg "range"=none)(ha:PA X [a] (fF X.K H0 O0 ta))(gd:GD X.K g dg)(hk:nI g k)(hfr:fr.Nodup)
 (hg:∀fp C s H,PG (bp X scope N' fp C s H) tg g)(hf:∀fp C s H,dS (bp X scope N' fp C s H) ifs (bD X.K H0 O0 tc))(he:∀fp C s H,PE (bp X scope N' fp C s H) elt (up X.K H0 O0 te))
 (hst:Qy [a] X.env=[(false,eval a X.env)]:=by rfl)(hs:∀x,QI (.Call (.Name "range" p) [a] [] ps) X.env x=pure x:=by intro _;rfl):
 PU X (.ListComp elt [⟨tg,(.Call (.Name "range" p) [a] [] ps),ifs,0⟩] scope pos) (oX X.K H0 O0 (eT ta dg tc te k fr)):=
 (xX hc S (t6 hgl hm ha hst) hg hf he hs).imp λσ H Q uu55=>by obtain⟨O,δ,Qd,w,q,kk⟩:=uu55;exact⟨O,δ,_,w,q,λds vs H1 uu56 s1 r1=>by
  obtain⟨j,e,b1,b2,q1⟩:=uu56;subst e;cases r1 with
  | cons r1 r2=>
   cases r2;cases r1.int;have hb:(Qz:Int) < 2 ^ 62:=Qi
   exact⟨j,rfl,b1,Qj,λD hD=>qj (P:=λ_=>True) bX.rng gd hfr (λv _ H' R h=>hk fr σ v H' R h) (λ_ _ _ z=>z) (λ_ _ _ z=>z) (λ_ _ _ _=>trivial) (ah.rng _) (w.mono s1) (by rw [Jv,ME];omega) q1 (λds us p H' z s' hp r'=>kk ds us p H' z (s1.trans s') hp r') D hD⟩⟩
end
theorem uU{i:Nat}{x:Str}{e:Qx}{t:DA}{pos pos':Pos}(hN:X.N.Nodup)(hi:X.N[i]?=some x)(hx:iC X.env.scope x)(he:PU X e (oX X.K H0 O0 t))(hs:QS e (some (.Name x pos')) pos.line X.env=pure true:=by rfl)(hf:X.fn x=true\/X.env.scope.names.lookup x=some .local:=by first | exact .inl rfl | exact .inr rfl | assumption):
 PS X (.Assign [.Name x pos'] e pos) (aQ X.K H0 O0 (dG i (dL t))):=
 (he _ _ _ _ hN hi hx hs hf).imp λD σ H ⟨O,δ,E,w,q,k1,k2,k3,k4⟩=>⟨O,δ,_,w,q,λds vs p H1 q1 s1 hp r1=>
  k1 O _ _ _ q1 ((w.mono (s1.trans (ai.new hp))).set (.lst (.inl bh) (oU w s1 hp) (r1.mono (ai.new hp)))) (.same (s1.trans (ai.new hp)))⟩
end
def ER(z:Str):List Qp:=z.cps.toList.map λc=>.str ⟨#[c]⟩
section
variable {X:Cx} {H0:Hp} {O0:Ex}
def ja(t:DT)(g:DG)(tc:DB)(te:DT)(k:Nat)(fr:List Nat):DA:=λδ Q=>t δ λd=>∃z,d= .str z/\z.length<=Qz/\d4 g tc te (bC k fr δ) (ER z) Q
def jb(ta:DA)(g:DG)(tc:DB)(te:DT)(k:Nat)(fr:List Nat):DA:=λδ Q=>ta δ λds=>∃i j:Int,ds=[.int i,.int j]/\-(2 ^ 62)<=i/\j - i < Qz/\i < 2 ^ 62/\-(2 ^ 62)<=j/\j < 2 ^ 62/\d4 g tc te (bC k fr δ) (fK i (j - i).toNat) Q
def uV(K:Ju)(neg:Bool):R2:=λx y H Q=>∃O dx ds dy,Sh K H O x dx/\Sh K H O y dy/\(dy= .list ds\/dy= .tuple ds)/\bJ dx/\LJ ds=true/\Q (.bl (if neg then !(ds.any λd=>JG d dx) else ds.any λd=>JG d dx)) H
theorem rZ{A:QF}{k:Nat}{xs:List Qp}{d:Qp}(hd:bJ d)(hr:aP k A):A.units+1+min (MW xs) d.depth < QV:=by
 have:=SeqAt.depth_of_shaped hd;have h1:min (MW xs) d.depth<=d.depth:=Pb _ _;have:=hr.un;omega
theorem sa{k:Nat}(hr:aP k X.A):bz X (QO .In) (uV X.K false):=by
 intro Sb s σ H x y v u Q I rx ry h;obtain⟨O,dx,ds,dy,hx,hy,e,sx,sy,q⟩:=h;obtain⟨as,ra⟩:=iI I hx.all (KS sx) rx;rcases e with e | e <;> subst e
 ·obtain⟨bs,rb⟩:=iI I hy.all (by simpa [Ke] using sy) ry;exact SeqAt.in_list_reads rb ra sy (KS sx) (rZ sx hr) (mO I q rfl)
 ·obtain⟨bs,rb⟩:=iI I hy.all (by simpa [Ke] using sy) ry;exact SeqAt.in_tuple_reads rb ra sy (KS sx) (rZ sx hr) (mO I q rfl)
theorem uW{k:Nat}(hr:aP k X.A):bz X (QO .NotIn) (uV X.K true):=by
 intro Sb s σ H x y v u Q I rx ry h;obtain⟨O,dx,ds,dy,hx,hy,e,sx,sy,q⟩:=h;obtain⟨as,ra⟩:=iI I hx.all (KS sx) rx;rcases e with e | e <;> subst e
 ·obtain⟨bs,rb⟩:=iI I hy.all (by simpa [Ke] using sy) ry;exact SeqAt.notIn_list_reads rb ra sy (KS sx) (rZ sx hr) (mO I q rfl)
 ·obtain⟨bs,rb⟩:=iI I hy.all (by simpa [Ke] using sy) ry;exact SeqAt.notIn_tuple_reads rb ra sy (KS sx) (rZ sx hr) (mO I q rfl)
def gG(neg:Bool):Qp->Qp->(Qp->Prop)->Prop:=λx y Q=>∃ds,(y= .list ds\/y= .tuple ds)/\bJ x/\LJ ds=true/\Q (.bool (if neg then !(ds.any λd=>JG d x) else ds.any λd=>JG d x))
theorem om{K:Ju}{neg:Bool}:bS K (uV K neg) (gG neg):=λH O x y dx dy Qd R _ hx hy uu58 k=>by obtain⟨ds,e,a,b,q⟩:=uu58;exact⟨O,dx,ds,dy,hx,hy,e,a,b,k _ _ H q (ai.refl _) (.bl _)⟩
def jc:List Qp->(Qp->Prop)->Prop:=λds Q=>∃z:Str,ds=[.str z]/\z.length<=Qz/\Q (.int z.length)
def jd:Qp->Qp->(Qp->Prop)->Prop:=λx y Q=>∃i j:Str,x= .str i/\y= .str j/\Q (.bool (decide (i.cps.toList < j.cps.toList)))
def je:Qp->Qp->(Qp->Prop)->Prop:=λx y Q=>∃i j:Str,x= .str i/\y= .str j/\Q (.bool (!(P0 j i 0 j.length 1).isEmpty))
theorem ES{prog:QA}{w:QE}{A:QF}{E:Qr->Qt->Prop}{s:Qt}{t sl:Qs}{items:Array Qr}{vl vu:Qr}{lo hi:Option Int}{Q:Qr->Qt->Prop}(ht:IsTup s.heap t items)(hs:s.heap.IsSliceOf sl vl vu .none)(pl:IsPart vl lo)(pu:IsPart vu hi)
 (hw:HT.sIx items.size 0 lo=0/\HT.sIx items.size items.size hi=items.size)(h:Q (.ref t) s):Qv (Qw prog w) A (Q8 (.ref t) (.ref sl)) Q E s:=by
 obtain⟨os,hos,hcs,hds⟩:=id hs;have hTs:s.TypeIs (.ref sl) "slice":=⟨os,hos,hcs⟩;unfold Q8
 try with_reducible refine QR ?_
 first | refine Qq (Qu ?_) | skip
 refine Qq (R4 ht.typeIs Qi ?_);refine Qq (QU (name:=Jt "__getitem__") ht.typeIs Ld
  (QQ Ld ht.typeIs Nn ?_ (Nt _ _)))
 show Qv _ _ (MU (.ref t) >>=_) _ _ s;refine Qq (tupleItemsOf_ ht ?_);refine Qq (Rt hTs ?_);rw [Ql Qi];refine Qq (HT.sliceApplied_gen hs pl pu ?_);show Qv _ _ (if (((HT.sIx items.size 0 lo:Nat):Int)==0 && (1:Int)==1 && (HT.sIx items.size items.size hi - HT.sIx items.size 0 lo)==items.size)=true then _ else _) _ _ s;rw [Ql (by rw [hw.1,hw.2];simp)];unfold Builtin.Tuple.tupleIsExact;refine Qq (Qq (Rt ht.typeIs (Qu ?_)));rw [Ql Qi];exact Qq (RK (Qu ⟨_,rfl,Qu h⟩))
def ET(K:Ju):V->Option Int->Option Int->Hp->VK->Prop:=λx lo hi H Q=>∃a xs,x= .ref a/\bw K H a xs/\
 ((HT.sIx xs.length 0 lo=0/\HT.sIx xs.length xs.length hi=xs.length)->Q x H)/\(¬(HT.sIx xs.length 0 lo=0/\HT.sIx xs.length xs.length hi=xs.length)->∀p,H p=none->Q (.ref p) (ao H p (.tup (ng xs lo hi))))
theorem EU:rn X (ET X.K):=by
 intro Sb s σ H x v vl vu lo hi sl Q I rx hs pl pu h;obtain⟨a,xs,rfl,hx,q1,q2⟩:=h;by_cases hw:HT.sIx xs.length 0 lo=0/\HT.sIx xs.length xs.length hi=xs.length
 ·cases rx;obtain⟨its,r,ht,hz⟩:=I.tuple hx;have hlen:its.toArray.size=xs.length:=by rw [JT];exact r.length.symm
  refine⟨"tuple",_,Ld.lookup,ht.typeIs,?_⟩;exact ES ht hs pl pu (by rw [hlen];exact hw) ⟨.ref a,H,I,rfl,q1 hw⟩
 ·exact CL Sb s σ H _ v vl vu lo hi sl Q I rx hs pl pu ⟨a,xs,rfl,hx,hw,q2 hw⟩
theorem EV{xs:List Qp}{l u:Option Int}(h:HT.sIx xs.length 0 l=0/\HT.sIx xs.length xs.length u=xs.length):bf xs l u=xs:=by
 unfold bf;rw [h.1,h.2];simp
def gH(t:DT)(tl th:DO):DT:=λδ Q=>t δ λd=>tl δ λl=>th δ λu=>∃xs,d= .tuple xs/\Q (.tuple (bf xs l u))
theorem se{e:Qx}{lo hi:Option Qx}{t:DT}{tl th:DO}{pos p2:Pos}(h:DF X H0 O0 e t)(hl:PO X lo (nk X.K H0 O0 tl))(hu:PO X hi (nk X.K H0 O0 th)):DE X H0 O0 (.Subscript e (.Slice lo hi none p2) pos) (gH t tl th):=
 (uk EU h hl hu).imp λσ H Q ⟨O,δ,Qd,w,q,k⟩=>⟨O,δ,_,w,q,λd v H1 q1 s1 r1=>⟨O,δ,_,w.mono s1,q1,λl H2 q2 s2=>⟨O,δ,_,w.mono (s1.trans s2),q2,λu H3 uu60 s3=>by
  obtain⟨xs,e,q3⟩:=uu60;subst e;have r3:=r1.mono (s2.trans s3);have r4:=r3;obtain⟨a,vs,rfl,h1,d1⟩:=r4.tup;refine⟨a,vs,rfl,h1,λhw=>?_,λ_ p hp=>k _ _ _ q3 (s1.trans (s2.trans (s3.trans (ai.new hp)))) (.tup (.inl bh) (oU w (s1.trans (s2.trans s3)) hp) ((d1.cut l u).mono (ai.new hp)))⟩;rw [d1.length] at hw;rw [EV hw] at q3;cases r3 with
  | dt r3=>exact k _ _ _ q3 (s1.trans (s2.trans s3)) r3⟩⟩⟩
def cn(a b:Str):Bool:=decide (a.cps.toList<=b.cps.toList)
def bV(l:List Str):List Str:=l.mergeSort cn
theorem xZ(a b c:Str)(h:cn a b=true)(h':cn b c=true):cn a c=true:=
 decide_eq_true (List.le_trans (of_decide_eq_true h) (of_decide_eq_true h'))
theorem EW(a b:Str):(cn a b || cn b a)=true:=by
 rcases List.le_total a.cps.toList b.cps.toList with h | h
 ·unfold cn;rw [decide_eq_true h];rfl
 ·unfold cn;rw [decide_eq_true h,PR]
theorem x5{a b:Str}(h:a.cps.toList=b.cps.toList):a=b:=by
 cases a;cases b;congr 1;exact Array.ext' h
theorem x6{a b:Str}(h:cn a b=true)(h':cn b a=true):a=b:=x5 (Pe (of_decide_eq_true h) (of_decide_eq_true h'))
theorem eZ(l:List Str):(bV l).Perm l:=List.mergeSort_perm l cn
theorem uX(l:List Str):(bV l).Pairwise λa b=>cn a b=true:=List.pairwise_mergeSort xZ EW l
theorem x8{l m:List Str}(h:m.Perm l)(p:m.Pairwise λa b=>cn a b=true):m=bV l:=
 List.Perm.eq_of_pairwise (λa b _ _ x y=>x6 x y) p (uX l) (h.trans (eZ l).symm)
theorem x9:∀(p:Str)(l:List Str),risingS p l=true->(p::l).Pairwise λa b=>cn a b=true
 | p,[],_=>by simp
 | p,x::r,h=>by
  rw [risingS,Kn,Ko,ltCps_eq,decide_eq_false_iff_not] at h;have h1:cn p x=true:=decide_eq_true (Pa.mp h.1);have h2:=x9 x r h.2;rw [KU];refine⟨λy hy=>?_,h2⟩;rcases JF.mp hy with z | z
  ·rw [z];exact h1
  ·exact xZ p x y h1 ((KU.mp h2).1 y z)
theorem yp:∀(l:List Str),sortedS l=true->l.Pairwise λa b=>cn a b=true
 | [],_=>.nil
 | x::r,h=>x9 x r h
theorem yq:∀{ys:List Str}{us:List Qr},aA (ys.map V.str) us->QT us ys:=by
 intro ys
 induction ys with
 | nil=>intro us rv;cases rv;exact .nil
 | cons y ys ih=>
  intro us rv;rw [JB] at rv;cases rv with
  | cons r1 r2=>obtain⟨t,rfl⟩:=r1;exact .cons y t (ih r2)
theorem uY:∀{ys:List Str}{us:List Qr},QT us ys->aA (ys.map V.str) us
 | _,_,.nil=>.nil
 | _,_,.cons y t r=>.cons ⟨t,rfl⟩ (uY r)
theorem ah.strs{K:Ju}{H:Hp}{O:Ex}:∀{ss:List Str}{vs:List V},ah K H O vs (ss.map JA)->vs=ss.map V.str
 | [],_,r=>by rw [Kk] at r;cases r;rfl
 | b::bs,_,r=>by
  rw [JB] at r;cases r with
  | cons h r=>cases h;rw [JB,ah.strs r]
theorem ah.ofStrs{K:Ju}{H:Hp}{O:Ex}:∀(ss:List Str),ah K H O (ss.map V.str) (ss.map JA)
 | []=>.nil
 | s::r=>.cons (.str s) (ah.ofStrs r)
def jf(t:DA):DA:=λδ Q=>t δ λds=>∃ss:List Str,ds=[.list (ss.map .str)]/\ss.length < 64/\Q ((bV ss).map .str)
end
end L2
namespace PySem.SeqAt
open AutoSeq1 (wpAny_loadPart')
open MeetsSeq
theorem yr(l:Qs)(es:Array RJ)(n:Nat)(dd:Option Qs)(sl:Array (Option Qr))(b:Str)(u:Tok):
 Meets (Builtin.«dict.__eq__» ⟨[.ref l,.str b u],[]⟩) (λ_ R s=>s.heap.get? l=some {cls:= .type "dict",dict:=dd,data:= .dict es n,slots:=sl}/\R (.ok (.ret .notImplemented)) s):=
 .of_wp λprog w A R s h=>by obtain⟨hp,g,d,tk,os⟩:=s;obtain⟨hl,h⟩:=h;have f1:=F.sub_str_dict;wp_walk using Q0 hl;exact⟨_,rfl,h⟩
theorem yt(b:Str)(u:Tok)(l:Qs)(c:Qr)(es:Array RJ)(n:Nat)(dd:Option Qs)(sl:Array (Option Qr)):
 Meets (Builtin.«str.__eq__» ⟨[.str b u,.ref l],[]⟩) (λ_ R s=>s.heap.get? l=some {cls:=c,dict:=dd,data:= .dict es n,slots:=sl}/\R (.ok (.ret .notImplemented)) s):=
 .of_wp λprog w A R s h=>by obtain⟨hp,g,d,tk,os⟩:=s;obtain⟨hl,h⟩:=h;wp_walk using Q0 hl,wpAny_load hl;exact⟨_,rfl,h⟩
section
variable {A:QF} {s:Qt}
theorem RcAt.dict_str{l:Qs}{es:Array RJ}{n:Nat}{o:Obj}(b:Str)(u:Tok)(ho:s.heap.get? l=some o)(hc:o.cls= .type "dict")(hd:o.data= .dict es n)(hu:A.units < QV):RcAt A s (.ref l) (.str b u) false:=λprog w E Q h=>by
 obtain⟨cls,dd,data,sl⟩:=o;simp only at hc hd;subst hc hd;exact rc_eq_decline_or (k:=false) ⟨_,ho,rfl⟩ (RM s b u) Qi F.sub_str_dict F.slot_dict_eq F.slot_str_eq_refl
  (λ_ hq=>Rz F.slot_dict_eq ⟨_,ho,rfl⟩ F.entry_dict_eq (F.args_dict_eq_2 _ _) (yr l es n dd sl b u) ⟨ho,hq⟩)
  (λ_ hq=>Rz F.slot_str_eq_refl (RM s b u) F.entry_str_eq (F.args_str_eq_2 _ _) (yt b u l (.type "dict") es n dd sl) ⟨ho,hq⟩)
  (λ_ hq=>RU (rfl:isSame (.ref l) (.str b u)=pure false) hq) (.inr hu) h
theorem RcAt.str_dict{l:Qs}{es:Array RJ}{n:Nat}{o:Obj}(b:Str)(u:Tok)(ho:s.heap.get? l=some o)(hc:o.cls= .type "dict")(hd:o.data= .dict es n)(hu:A.units < QV):RcAt A s (.str b u) (.ref l) false:=λprog w E Q h=>by
 obtain⟨cls,dd,data,sl⟩:=o;simp only at hc hd;subst hc hd;exact rc_eq_decline_or (k:=false) (RM s b u) ⟨_,ho,rfl⟩ Qi F.sub_dict_str F.slot_str_eq F.slot_dict_eq_refl
  (λ_ hq=>Rz F.slot_str_eq (RM s b u) F.entry_str_eq (F.args_str_eq_2 _ _) (yt b u l (.type "dict") es n dd sl) ⟨ho,hq⟩)
  (λ_ hq=>Rz F.slot_dict_eq_refl ⟨_,ho,rfl⟩ F.entry_dict_eq (F.args_dict_eq_2 _ _) (yr l es n dd sl b u) ⟨ho,hq⟩)
  (λ_ hq=>RU (rfl:isSame (.str b u) (.ref l)=pure false) hq) (.inr hu) h
theorem EqAt.str_dict{l:Qs}{es:Array RJ}{n:Nat}{o:Obj}(b:Str)(u:Tok)(ho:s.heap.get? l=some o)(hc:o.cls= .type "dict")(hd:o.data= .dict es n)(hu:A.units < QV):EqAt A s (.str b u) (.ref l) false:=λprog w E Q h=>by
 unfold eqBool;refine QR ?_;refine RO (λhab=>absurd (eq_of_beq hab) nofun) (λ_=>?_);exact Qq (RcAt.str_dict b u ho hc hd hu prog w E _ (QX h))
end
end PySem.SeqAt
namespace L2
open PySem PySem.Spec PyProof.Rows PySem.W
section
variable {X:Cx} {Sb:List (Qs×Obj)} {σ:St} {H:Hp} {s:Qt}
def bG:Qp->Bool
 | .dict [(.none,_)]=>false
 | _=>true
theorem EX(I:aa X Sb σ H s){O:Ex}{v:V}{d:Qp}{u:Qr}(h:Dt X.K H O v d)(ht:bG d=true)(r:ay v u)(y:Str)(t:Tok)(hu:X.A.units < QV):SeqAt.RcAt X.A s u (.str y t) (JG d (.str y)):=by
 cases h with
 | non=>cases (show u=Mg from r);simpa [JG] using SeqAt.RcAt.none_str y t
 | bl b=>cases (show u=Mq b from r);simpa [JG] using SeqAt.RcAt.bool_str b y t
 | int i=>obtain⟨k,e⟩:=(show ∃t,u=MG i t from r);cases e;simpa [JG] using SeqAt.RcAt.int_str i k y t
 | str x=>obtain⟨k,e⟩:=(show ∃t,u=L5 x t from r);cases e;simpa [JG] using OS x k y t
 | @tup a xs ds h n rr=>
  cases (show u=JY a from r);obtain⟨its,rv,p,_⟩:=I.tuple (.inl h);simpa [JG] using Ot y t (show s.heap.IsTuple a its.toArray from p) hu
 | @tupK a xs ds h rr=>
  cases (show u=JY a from r);obtain⟨its,rv,p,_⟩:=I.tuple h.of0;simpa [JG] using Ot y t (show s.heap.IsTuple a its.toArray from p) hu
 | @lst a xs ds h n rr=>
  cases (show u=JY a from r);obtain⟨its,rv,p,_⟩:=I.list (.inl h);simpa [JG] using SeqAt.RcAt.list_str y t p.isList hu
 | pack h n=>exact absurd ht (by simp [bG])
 | purse h n=>exact absurd ht (by simp [bG])
 | scr h r=>exact absurd ht (by simp [bG])
 | obj h e n r=>exact absurd ht (by simp [bG])
 | @dct0 a h n=>
  cases (show u=JY a from r);obtain⟨_,_,_,_,o,es,ep,e,c,dd,_⟩:=(show bx X.prog X.w H s.heap a (.dK []) from I.hok a _ h);simpa [JG] using SeqAt.RcAt.dict_str y t e c.1 dd hu
 | @dic a ob kv ks kp ds h e1 e2 n rr=>
  cases (show u=JY a from r);obtain⟨_,_,_,_,o,es,ep,e,c,dd,_⟩:=(show bx X.prog X.w H s.heap a (.dK kv) from(I.hok a _ h).2);simpa [JG] using SeqAt.RcAt.dict_str y t e c.1 dd hu
theorem EY(I:aa X Sb σ H s){A:QF}{O:Ex}{v:V}{d:Qp}{u:Qr}(h:Dt X.K H O v d)(ht:bG d=true)(r:ay v u)(y:Str)(t:Tok)(hu:A.units < QV):SeqAt.EqAt A s (.str y t) u (JG (.str y) d):=by
 cases h with
 | non=>cases (show u=Mg from r);simpa [JG] using SeqAt.EqAt.str_none y t
 | bl b=>cases (show u=Mq b from r);simpa [JG] using SeqAt.EqAt.str_bool y t b
 | int i=>obtain⟨k,e⟩:=(show ∃t,u=MG i t from r);cases e;simpa [JG] using OJ y t i k
 | str x=>obtain⟨k,e⟩:=(show ∃t,u=L5 x t from r);cases e;simpa [JG] using SeqAt.EqAt.str_str y t x k
 | @tup a xs ds h n rr=>
  cases (show u=JY a from r);obtain⟨its,rv,p,_⟩:=I.tuple (.inl h);simpa [JG] using Ou y t (show s.heap.IsTuple a its.toArray from p) hu
 | @tupK a xs ds h rr=>
  cases (show u=JY a from r);obtain⟨its,rv,p,_⟩:=I.tuple h.of0;simpa [JG] using Ou y t (show s.heap.IsTuple a its.toArray from p) hu
 | @lst a xs ds h n rr=>
  cases (show u=JY a from r);obtain⟨its,rv,p,_⟩:=I.list (.inl h);simpa [JG] using SeqAt.EqAt.str_list y t p.isList hu
 | pack h n=>exact absurd ht (by simp [bG])
 | purse h n=>exact absurd ht (by simp [bG])
 | scr h r=>exact absurd ht (by simp [bG])
 | obj h e n r=>exact absurd ht (by simp [bG])
 | @dct0 a h n=>
  cases (show u=JY a from r);obtain⟨_,_,_,_,o,es,ep,e,c,dd,_⟩:=(show bx X.prog X.w H s.heap a (.dK []) from I.hok a _ h);simpa [JG] using SeqAt.EqAt.str_dict y t e c.1 dd hu
 | @dic a ob kv ks kp ds h e1 e2 n rr=>
  cases (show u=JY a from r);obtain⟨_,_,_,_,o,es,ep,e,c,dd,_⟩:=(show bx X.prog X.w H s.heap a (.dK kv) from(I.hok a _ h).2);simpa [JG] using SeqAt.EqAt.str_dict y t e c.1 dd hu
end
section
variable {X:Cx} {H0:Hp} {O0:Ex}
def yu(K:Ju):R2:=λx y H Q=>∃O dx z,Dt K H O x dx/\bG dx=true/\y= .str z/\Q (.bl (JG dx (.str z))) H
theorem mS{k:Nat}(hr:aP k X.A):bz X (QO .Eq) (yu X.K):=by
 intro Sb s σ H x y v u Q I rx ry h;obtain⟨O,dx,z,hx,ht,rfl,q⟩:=h;obtain⟨t,rfl⟩:=ry;have hc:QO .Eq v (.str z t)=richCompare .Eq v (.str z t):=rfl;rw [hc];exact EX I hx ht rx z t hr.units0 X.prog X.w X.xe _ (mO I q rfl)
def cY:Qp->Qp->(Qp->Prop)->Prop:=λx y Q=>∃z,y= .str z/\bG x=true/\Q (.bool (JG x (.str z)))
theorem mU{K:Ju}:bS K (yu K) cY:=λH O x y dx dy Qd R _ hx hy uu61 k=>by
 obtain⟨z,e,ht,q⟩:=uu61;subst e;cases hy.str;exact⟨_,dx,z,hx.all,ht,rfl,k _ _ H q (ai.refl _) (.bl _)⟩
theorem EZ(dx:Qp){its:List Qr}{zs:List Str}(hS:QT its zs):its.any (λy=>JG (.str (strOf y)) dx)=zs.any λz=>JG (.str z) dx:=by
 induction hS with
 | nil=>rfl
 | cons y t r ih=>rw [Kz,Kz,ih];rfl
def yw(K:Ju):R2:=λx y H Q=>∃(O:Ex)(dx:Qp)(zs:List Str)(a:Qs),Dt K H O x dx/\bG dx=true/\y= .ref a/\bw K H a (zs.map V.str)/\Q (.bl (zs.any λz=>JG (.str z) dx)) H
theorem pz{k:Nat}(hr:aP k X.A):bz X (QO .In) (yw X.K):=by
 intro Sb s σ H x y v u Q I rx ry h;obtain⟨O,dx,zs,a,hx,ht,rfl,ha,q⟩:=h;cases ry;obtain⟨its,rv,p,_⟩:=I.tuple ha;have hS:=yq rv;have hl:=EZ dx hS;refine SeqAt.in_tupleAt (λy=>JG (.str (strOf y)) dx) (show s.heap.IsTuple a its.toArray from p) (λy hy=>?_) (by rw [List.any_toArray,hl];exact mO I q rfl);obtain⟨z,t,rfl⟩:=hS.all y (by simpa using hy);exact EY I hx ht rx z t (by show X.A.units+1 < QV;have:=hr.un;omega)
def gI:Qp->Qp->(Qp->Prop)->Prop:=λx y Q=>∃zs:List Str,y= .tuple (zs.map .str)/\bG x=true/\Q (.bool (zs.any λz=>JG (.str z) x))
theorem pA{K:Ju}:bS K (yw K) gI:=λH O x y dx dy Qd R _ hx hy uu62 k=>by
 obtain⟨zs,e,ht,q⟩:=uu62;subst e;obtain⟨a,vs,rfl,hs,r⟩:=hy.tup;cases r.strs;exact⟨_,dx,zs,a,hx.all,ht,rfl,hs,k _ _ H q (ai.refl _) (.bl _)⟩
end
theorem jg{z:Int}{Q:Qp->Prop}:Ef [uK,.int z] Q↔(0 < z/\z<=1000000/\∀i:Int,0<=i->i < z->Q (.int i)):=by
 constructor
 ·rintro⟨z',e,a,b,c⟩;simp only [Kd,KL,and_true,true_and] at e;subst e;exact⟨a,b,c⟩
 ·rintro⟨a,b,c⟩;exact⟨z,rfl,a,b,c⟩
def sh:Qp->Bool | .str _=>true | _=>false
def qv:Qp->Bool | .int _=>true | .bool _=>true | _=>false
def qw:Qp->Bool | .bool _=>true | _=>false
def pB:Qp->Bool | .tuple _=>true | _=>false
theorem E1{K:Ju}(d:Qp):kitOne K (.type (pg d)) (.type "str")=some (sh d):=by cases d <;> rfl
theorem E2{K:Ju}(d:Qp):kitOne K (.type (pg d)) (.type "int")=some (qv d):=by cases d <;> rfl
theorem E3{K:Ju}(d:Qp):kitOne K (.type (pg d)) (.type "bool")=some (qw d):=by cases d <;> rfl
theorem E4{K:Ju}(d:Qp):kitOne K (.type (pg d)) (.type "tuple")=some (pB d):=by cases d <;> rfl
structure Nm (z:Str):Prop where
 lo:1<=z.length
 hi:z.length<=8
 ab:∀c∈z.cps.toList,c∈dM.cps.toList
theorem Nm.ok{z:Str}(h:Nm z):JK z=true:=xT.mpr λc hc=>xU c (h.ab c hc)
theorem yx{g:DG}{te:DT}{δ0:Dl}{xs:List Qp}{Q:List Qp->Prop}(f:Qp->Qp)
 (h:∀x∈xs,∀R:Qp->Prop,R (f x)->g x δ0 λδ2=>te δ2 R)(q:Q (xs.map f)):d4 g cU te δ0 xs Q:=by
 refine⟨λi acc=>acc=(xs.take i).map f,rfl,?_,?_⟩
 ·rintro i x acc hx rfl;have:=h x (JQ hx) (λy=>(xs.take i).map f++[y]=(xs.take (i+1)).map f) (by rw [K3,hx];simp);simpa [cU] using this
 ·rintro acc rfl;rw [J7 (Jy _)];exact q
theorem E5{g:DG}{te:DT}{δ0:Dl}{xs:List Qp}{p:Bool->Prop}{gg:List Bool->Bool}(f:Qp->Bool)
 (h:∀x∈xs,∀R:Qp->Prop,R (.bool (f x))->g x δ0 λδ2=>te δ2 R)(q:p (gg (xs.map f))):d4 g cU te δ0 xs λds=>∃bs:List Bool,ds=bs.map LX/\p (gg bs):=
 yx (λx=>.bool (f x)) h ⟨xs.map f,by rw [Ku];rfl,q⟩
theorem jh{a:Str}{P:List Str->Prop}:(∃zs,[JA a]=J1 JA zs/\P zs)↔P [a]:=by
 refine⟨λ⟨zs,e,h⟩=>?_,λh=>⟨_,rfl,h⟩⟩
 match zs,e with
 | [x],e=>simp at e;rw [e];exact h
theorem ji{a b:Str}{P:List Str->Prop}:(∃zs,[JA a,JA b]=J1 JA zs/\P zs)↔P [a,b]:=by
 refine⟨λ⟨zs,e,h⟩=>?_,λh=>⟨_,rfl,h⟩⟩
 match zs,e with
 | [x,y],e=>simp at e;rw [e.1,e.2];exact h
theorem jj{a b c:Str}{P:List Str->Prop}:(∃zs,[JA a,JA b,JA c]=J1 JA zs/\P zs)↔P [a,b,c]:=by
 refine⟨λ⟨zs,e,h⟩=>?_,λh=>⟨_,rfl,h⟩⟩
 match zs,e with
 | [x,y,z],e=>simp at e;rw [e.1,e.2.1,e.2.2];exact h
theorem jk{x:Str}:bG (.str x)=true:=rfl
theorem jl{x:Int}:bG (.int x)=true:=rfl
theorem jm{x:Bool}:bG (.bool x)=true:=rfl
theorem jn{x:List Qp}:bG (.tuple x)=true:=rfl
theorem jo{x:List Qp}:bG (.list x)=true:=rfl
theorem yz(x:Str):x.length=x.cps.toList.length:=by rw [JL];rfl
theorem Nm.of{z:Str}{l:List Nat}(e:z.cps.toList=l)(lo:1<=l.length)(hi:l.length<=8)(ab:∀c∈l,c∈dM.cps.toList):Nm z:=
 ⟨by rw [yz,e];exact lo,by rw [yz,e];exact hi,by rw [e];exact ab⟩
theorem fb{n:Nat}:∀d∈([]:List Qp),bU n d:=λd hd=>by simp at hd
theorem bB{n:Nat}{d:Qp}{r:List Qp}(h:bU n d)(hr:∀e∈r,bU n e):∀e∈d::r,bU n e:=λe he=>by
 rcases JF.mp he with z | z
 ·rw [z];exact h
 ·exact hr e z
theorem cq{n:Nat}{x:Str}(h:JK x=true)(hn:1<=n:=by decide):bU n (.str x):=(xW h).mono hn
theorem qx{n:Nat}{x:Int}(hn:1<=n:=by decide):bU n (.int x):=EN.mono hn
theorem E6{n:Nat}{x:Bool}(hn:1<=n:=by decide):bU n (.bool x):=EO.mono hn
theorem yA{n:Nat}{ms:List Str}(h:∀m∈ms,JK m=true)(hn:1<=n:=by decide):∀d∈ms.map JA,bU n d:=λd hd=>by
 obtain⟨m,hm,rfl⟩:=JE.mp hd;exact(xW (h m hm)).mono hn
theorem jq{a:Qp}{l:List Qp}:bf (a::l) (some 1) none=l:=by
 rw [ph Qi (by simp only [JS];omega)];rfl
theorem jr{a b:Qp}{l:List Qp}:bf (a::b::l) (some 2) none=l:=by
 rw [ph Qi (by simp only [JS];omega)];rfl
theorem jt{a b c:Qp}{l:List Qp}:bf (a::b::c::l) (some 3) none=l:=by
 rw [ph Qi (by simp only [JS];omega)];rfl
theorem ju{a b c d:Qp}{l:List Qp}:bf (a::b::c::d::l) (some 4) none=l:=by
 rw [ph Qi (by simp only [JS];omega)];rfl
theorem jv{a:Qp}{l:List Qp}:bf (a::l) none (some 1)=[a]:=by
 rw [nq Qi (by simp only [JS];omega)];rfl
theorem jw{a b:Qp}{l:List Qp}:bf (a::b::l) none (some 2)=[a,b]:=by
 rw [nq Qi (by simp only [JS];omega)];rfl
theorem jx{a b c:Qp}{l:List Qp}:bf (a::b::c::l) none (some 3)=[a,b,c]:=by
 rw [nq Qi (by simp only [JS];omega)];rfl
theorem jy{a b c d:Qp}{l:List Qp}:bf (a::b::c::d::l) none (some 4)=[a,b,c,d]:=by
 rw [nq Qi (by simp only [JS];omega)];rfl
theorem jz{a b c:Qp}{l:List Qp}:bf (a::b::c::l) (some 1) (some 3)=[b,c]:=by
 unfold bf;rw [rV Qi (by simp only [JS];omega),rV Qi (by simp only [JS];omega)];rfl
end L2
namespace PySem
open Builtin
open AutoSeq1 (wpAny_loadPart')
end PySem
namespace L2
open PySem PySem.Spec PyProof.Rows PySem.W
section
variable {X:Cx} {H0:Hp} {O0:Ex}
def jA:Qp->Qp->(Qp->Prop)->Prop:=λx y Q=>∃xs,x= .tuple xs/\y= .int 2/\xs≠[]/\xs.length<=1000/\Q (.tuple (xs++xs))
def gJ:DT:=λ_ Q=>Q (.dict [])
theorem E7{pos:Pos}:DE X H0 O0 (.Dict [] [] pos) gJ:=xP.imp λσ H Q uu66=>by obtain⟨O,δ,Qd,w,q,k⟩:=uu66;exact λp hp=>k _ _ _ q (ai.new hp) (.dct0 bh (oU w (ai.refl _) hp))
def gK(t:DT):DT:=λδ Q=>t δ λd=>∃i,d= .int i/\Q (.int (-i))
theorem E8{e:Qx}{t:DT}{pos:Pos}(h:DE X H0 O0 e t):DE X H0 O0 (.UnaryOp .USub e pos) (gK t):=
 (wz wC h).imp λσ H Q uu67=>by obtain⟨O,δ,Qd,w,q,k⟩:=uu67;exact⟨O,δ,_,w,q,λd v H1 uu68 s1 r1=>by obtain⟨i,e,q1⟩:=uu68;subst e;cases r1;exact⟨i,rfl,k _ _ H1 q1 s1 (.int _)⟩⟩
def jB(t:DT):DT:=λδ Q=>t δ λd=>∃z:Str,d= .str z/\z.length<=1000000/\Q (.str (Txt.upper z))
end
theorem E9(n:Nat):LN none none (-1) (n:Int)=((n:Int) - 1,-1):=by
 unfold LN;rfl
theorem Fb(n:Nat):K1 ((n:Int) - 1) (-1) (-1)=n:=by
 unfold K1;rw [Qk Qi];split
 ·rw [show(- -1:Int)=1 by decide,PN];omega
 ·omega
theorem Fc(xs:Array Qr):((KQ xs.size).filterMap λ(m:Nat)=>xs[((xs.size:Int) - 1+(m:Int)*(-1)).toNat]?).toArray=xs.toList.reverse.toArray:=by
 have e:(KQ xs.size).filterMap (λ(m:Nat)=>xs[((xs.size:Int) - 1+(m:Int)*(-1)).toNat]?)=((KQ xs.size).map λk=>xs.size - 1 - k).filterMap (xs[·]?):=by
  have e2:((KQ xs.size).map λk=>xs.size - 1 - k)=(KQ xs.size).map λ(m:Nat)=>((xs.size:Int) - 1+(m:Int)*(-1)).toNat:=
   OE λm hm=>by have:=Mn.mp hm;omega
  rw [e2,NI];rfl
 have k:=krv_pick xs;unfold slicePick at k;rw [krv_bounds] at k;have k2:((sliceRange ((xs.size:Int) - 1) (-1) (-1)).filterMap (xs[·]?)).toArray=xs.toList.reverse.toArray:=k;rw [krv_sliceRange] at k2;rw [e];exact k2
theorem Fd{prog:QA}{w:QE}{A:QF}{E:Qr->Qt->Prop}{s:Qt}{sl:Qs}{tk:Tok}{n:Nat}{Q:Int×Int×Nat->Qt->Prop}(hs:s.heap.IsSliceOf sl .none .none (.int (-1) tk))
 (h:Q ((n:Int) - 1,-1,n) s):Qv (Qw prog w) A (MB (.ref sl) (pure (n:Int))) Q E s:=by
 obtain⟨os,hos,hcs,hds⟩:=id hs;unfold MB NX;refine Qq (Qq (RB hos hds (x:= .none) rfl (Qq (RB hos hds (x:= .none) rfl (Qq (RB hos hds (x:= .int (-1) tk) rfl (Qu ?_)))))));refine Qq (slicePart_int ?_);show Qv _ _ (if ((-1:Int)==0)=true then _ else _) _ _ s;rw [Qk Qi];refine Qq (RQ (Qq (RQ (Qq (Qu ?_)))));show Qv _ _ (match LN none none (-1) (n:Int) with | (lo,hi)=>pure (lo,(-1:Int),K1 lo hi (-1))) _ _ s;rw [E9];show Qv _ _ (pure ((n:Int) - 1,(-1:Int),K1 ((n:Int) - 1) (-1) (-1))) _ _ s;rw [Fb];exact Qu h
theorem Fe{prog:QA}{w:QE}{A:QF}{E:Qr->Qt->Prop}{s:Qt}{t sl:Qs}{items:Array Qr}{tk:Tok}{Q:Qr->Qt->Prop}(ht:IsTup s.heap t items)(hs:s.heap.IsSliceOf sl .none .none (.int (-1) tk))(hz:items.size<=Qz)
 (h:Q (.ref s.heap.objs.size) {s with heap:=s.heap.push {cls:= .type "tuple",data:= .seq items.toList.reverse.toArray}}):Qv (Qw prog w) A (Q8 (.ref t) (.ref sl)) Q E s:=by
 have htake:sizeOk (.seq items.toList.reverse.toArray):=by
  show items.toList.reverse.toArray.size<=Qz;rw [JT,OF,JL];exact hz
 obtain⟨os,hos,hcs,hds⟩:=id hs;have hTs:s.TypeIs (.ref sl) "slice":=⟨os,hos,hcs⟩;unfold Q8
 try with_reducible refine QR ?_
 first | refine Qq (Qu ?_) | skip
 refine Qq (R4 ht.typeIs Qi ?_);refine Qq (QU (name:=Jt "__getitem__") ht.typeIs Ld
  (QQ Ld ht.typeIs Nn ?_ (Nt _ _)))
 show Qv _ _ (MU (.ref t) >>=_) _ _ s;refine Qq (tupleItemsOf_ ht ?_);refine Qq (Rt hTs ?_);rw [Ql Qi];refine Qq (Fd hs ?_);show Qv _ _ (if (((items.size:Int) - 1)==0 && (-1:Int)==1 && items.size==items.size)=true then _ else _) _ _ s;rw [Qk Qo,Fc]
 first
  | exact Qq (m:=K4 _) (QG (Qu ⟨_,rfl,Qu h⟩) htake)
  | exact Qq (m:=K4 _) (QG (Qq (Qu (Qu ⟨_,rfl,Qu h⟩))) htake)
  | exact Qq (Qq (m:=K4 _) (QG (Qu (Qu ⟨_,rfl,Qu h⟩)) htake))
  | exact Qq (Qq (m:=K4 _) (QG (Qu ⟨_,rfl,Qu h⟩) htake))
section
variable {X:Cx} {H0:Hp} {O0:Ex}
theorem Fg{e:Qx}{te:TE}{pos p2 up cp:Pos}{j}(he:PE X e te):PE X (.Subscript e (.Slice none none (some (.UnaryOp .USub (.Constant (.int 1) j cp) up)) p2) pos) (λσ H Q=>te σ H λx H1=>∃a xs,x= .ref a/\bw X.K H1 a xs/\∀p,H1 p=none->Q (.ref p) (ao H1 p (.tup xs.reverse))):=by
 intro Sb s σ H Q I h;refine Subscript_ (ar (he Sb s σ H _ I h) λv s1 ⟨x,H1,I1,r1,q1⟩=>?_);obtain⟨a,xs,rfl,hq,q⟩:=q1;cases r1;refine wpAny_Slice ?_;rw [evalPart_none];refine Qu (Qu ?_);rw [evalPart_some];refine ar (wz wC wa Sb s1 σ H1 (λx H2=>x= .int (-1)/\H2=H1) I1 ⟨1,rfl,rfl,rfl⟩) λvk s3 ⟨x3,H3,I3,r3,e3,e4⟩=>?_;subst e3 e4;obtain⟨tk,rfl⟩:=r3;have I4:aa X Sb σ H3 {s3 with heap:=s3.heap.push {cls:= .type "slice",data:= .fields #[.none,.none,.int (-1) tk]}}:=I3.kept (t':=s3.toks) λb ob q=>Jx _ q;show Qv (Qw X.prog X.w) X.A (R1 e (.Slice none none (some (.UnaryOp .USub (.Constant (.int 1) j cp) up)) p2) (.ref a) (.ref s3.heap.objs.size)) (EP X Sb σ Q) X.xe {s3 with heap:=s3.heap.push {cls:= .type "slice",data:= .fields #[.none,.none,.int (-1) tk]}};obtain⟨its,r,ht,hz⟩:=I4.tuple hq;have hlen:=r.length;refine tail_any (ops:=[.ref a,.ref s3.heap.objs.size]) ht.typeIs Ld.lookup ?_ (by with_unfolding_all rfl);refine Fe ht (ON ..) (by rw [JT];omega) ?_;refine⟨.ref _,_,I4.laid (t':=s3.toks) (o:= .tup xs.reverse) (λb ob q=>Jx _ q) (Jy _) ?_,rfl,q _ (I4.hok.fresh (Jy _))⟩;exact⟨by rw [OF];exact hz,_,(show aA xs.reverse its.reverse from Ee r),OL _ _⟩
def gL(t:DT):DT:=λδ Q=>t δ λd=>∃xs,d= .tuple xs/\Q (.tuple xs.reverse)
theorem Fh{e:Qx}{t:DT}{pos p2 up cp:Pos}{j}(h:DF X H0 O0 e t):DE X H0 O0 (.Subscript e (.Slice none none (some (.UnaryOp .USub (.Constant (.int 1) j cp) up)) p2) pos) (gL t):=
 (Fg h).imp λσ H Q uu71=>by obtain⟨O,δ,Qd,w,q,k⟩:=uu71;exact⟨O,δ,_,w,q,λd v H1 uu72 s1 r1=>by
  obtain⟨xs,e,q1⟩:=uu72;subst e;obtain⟨a,us,rfl,h1,d1⟩:=r1.tup;exact⟨a,us,rfl,h1,λp hp=>k _ _ _ q1 (s1.trans (ai.new hp)) (.tup (.inl bh) (oU w s1 hp) (d1.reverse.mono (ai.new hp)))⟩⟩
end
theorem jC{xs:List Qp}:bf xs none (some (-1))=xs.dropLast:=by
 unfold bf;rw [rj];have e:HT.sIx xs.length xs.length (some (-1))=xs.length - 1:=by
  simp only [HT.sIx];rw [Ql Qi];omega
 rw [e,PF,PV,List.dropLast_eq_take]
section
variable {x:Option Qx} {n:Nat} {env:Env}
theorem Fi{a b}:QS (.List a b) x n env=pure false:=rfl
theorem mV{a b c d}:QS (.BinOp a b c d) x n env=pure false:=rfl
theorem yB{a b c d}:QS (.Call a b c d) x n env=pure false:=rfl
theorem uZ{a b c}:QS (.Subscript a b c) x n env=pure false:=rfl
theorem Fj{a b c d}:QS (.IfExp a b c d) x n env=pure false:=rfl
theorem Fl{a b c}:QS (.Dict a b c) x n env=pure false:=rfl
end
section
variable {X:Cx} {H0:Hp} {O0:Ex}
def jD(F:List Qp->(List Qp->Prop)->Prop)(t:DA):DA:=λδ Q=>t δ λds=>F ds Q
end
section
variable {X:Cx} {H0:Hp} {O0:Ex}
def jE(t:DA):DA:=λδ Q=>t δ λds=>ds.length<=1000/\Q (ds++ds)
end
theorem jF:(Jt "paper"==Jt "happens")=false:=Qh
theorem jG:(Jt "paper"==Jt "rule")=false:=Qh
theorem jH:(Jt "paper"==Jt "end")=false:=Qh
theorem jI:(Jt "paper"==Jt "hold")=false:=Qh
theorem jJ:(Jt "paper"==Jt "lift")=false:=Qh
theorem jK:(Jt "paper"==Jt "leave")=false:=Qh
theorem jL:(Jt "happens"==Jt "paper")=false:=Qh
theorem jM:(Jt "happens"==Jt "rule")=false:=Qh
theorem jN:(Jt "happens"==Jt "end")=false:=Qh
theorem jO:(Jt "happens"==Jt "hold")=false:=Qh
theorem jP:(Jt "happens"==Jt "lift")=false:=Qh
theorem jQ:(Jt "happens"==Jt "leave")=false:=Qh
theorem jR:(Jt "rule"==Jt "paper")=false:=Qh
theorem jS:(Jt "rule"==Jt "happens")=false:=Qh
theorem jT:(Jt "rule"==Jt "end")=false:=Qh
theorem jU:(Jt "rule"==Jt "hold")=false:=Qh
theorem jV:(Jt "rule"==Jt "lift")=false:=Qh
theorem jW:(Jt "rule"==Jt "leave")=false:=Qh
theorem jX:(Jt "end"==Jt "paper")=false:=Qh
theorem jY:(Jt "end"==Jt "happens")=false:=Qh
theorem jZ:(Jt "end"==Jt "rule")=false:=Qh
theorem j0:(Jt "end"==Jt "hold")=false:=Qh
theorem j1:(Jt "end"==Jt "lift")=false:=Qh
theorem j2:(Jt "end"==Jt "leave")=false:=Qh
theorem j3:(Jt "hold"==Jt "paper")=false:=Qh
theorem j4:(Jt "hold"==Jt "happens")=false:=Qh
theorem j5:(Jt "hold"==Jt "rule")=false:=Qh
theorem j6:(Jt "hold"==Jt "end")=false:=Qh
theorem j7:(Jt "hold"==Jt "lift")=false:=Qh
theorem j8:(Jt "hold"==Jt "leave")=false:=Qh
theorem j9:(Jt "lift"==Jt "paper")=false:=Qh
theorem kc:(Jt "lift"==Jt "happens")=false:=Qh
theorem ke:(Jt "lift"==Jt "rule")=false:=Qh
theorem kh:(Jt "lift"==Jt "end")=false:=Qh
theorem ki:(Jt "lift"==Jt "hold")=false:=Qh
theorem kj:(Jt "lift"==Jt "leave")=false:=Qh
theorem km:(Jt "leave"==Jt "paper")=false:=Qh
theorem ko:(Jt "leave"==Jt "happens")=false:=Qh
theorem kq:(Jt "leave"==Jt "rule")=false:=Qh
theorem kr:(Jt "leave"==Jt "end")=false:=Qh
theorem ku:(Jt "leave"==Jt "hold")=false:=Qh
theorem kz:(Jt "leave"==Jt "lift")=false:=Qh
section
variable {X:Cx} {H0:Hp} {O0:Ex}
def kA:List Qp->(Qp->Prop)->Prop:=λds Q=>∃i:Int,ds=[.int i]/\i.natAbs.log2 < 1920/\Q (.str (toString i))
def kC:List Qp->(Qp->Prop)->Prop:=λds Q=>∃(z:Str)(n:Int),ds=[.str z]/\PySem.intText? z=some n/\z.length<=640/\Q (.int n)
def kD(to t:DT):DT:=λδ Q=>to δ λx=>∃z:Str,x= .str z/\t δ λy=>∃i:Int,y= .int i/\PadOk i=true/\Q (.str (Txt.zfill z i))
def kF(to t:DT):DA:=λδ Q=>to δ λx=>∃z:Str,x= .str z/\t δ λy=>∃y':Str,y= .str y'/\(y'.length==0)=false/\z.length<=1000000/\Q ((Txt.split z y').map .str)
def gM:List DT->Str->DT
 | [],out=>λ_ Q=>out.length<=Qz/\Q (.str out)
 | t::ts,out=>λδ Q=>t δ λd=>∃z:Str,d= .str z/\z.length<=Qz/\(out++z).length<=Qz/\gM ts (out++z) δ Q
def gN:DS:=λ_ _=>False
theorem Fm{st:QH}:PS X st (aQ X.K H0 O0 gN):=Cd.imp λD σ H uu73=>by obtain⟨O,δ,E,w,q,_,_,_,_⟩:=uu73;exact q.elim
def yC(ns:List Int):List Qp:=ns.map .int
def kG:Qp->Qp->(Qp->Prop)->Prop:=λx y Q=>(∃i j:Int,x= .int i/\y= .int j/\Q (.bool (decide (i < j))))\/(∃i j:Str,x= .str i/\y= .str j/\Q (.bool (decide (i.cps.toList < j.cps.toList))))\/
 (∃ns ms:List Int,x= .tuple (yC ns)/\y= .tuple (yC ms)/\Q (.bool (HT.lexLt ns ms)))
end
section
variable {α:Type} {P:α->Prop}
theorem gO{a:Qp}{r:Dl}{P:Qp->Prop}:bW 0 (some (Sl.v a)::r) P=P a:=rfl
theorem kH{x:Option Sl}{r:Dl}{i:Nat}{P:Qp->Prop}:bW (i+1) (x::r) P=bW i r P:=rfl
theorem kI{a:List Qp}{r:Dl}{P:List Qp->Prop}:(∃d,(some (Sl.o a)::r)[0]?=some (some (Sl.o d))/\P d)=P a:=Qo
theorem kJ{x:Option Sl}{r:Dl}{i:Nat}{P:List Qp->Prop}:(∃d,(x::r)[i+1]?=some (some (Sl.o d))/\P d)=(∃d,r[i]?=some (some (Sl.o d))/\P d):=Qo
theorem kK{a:List Qp}{l:Dl}{i:Nat}{P:List Qp->Prop}:(∃d,(l.set i (some (Sl.o a)))[i]?=some (some (Sl.o d))/\P d)=(i < l.length/\P a):=by
 apply propext;rw [N8];constructor
 ·rintro⟨d,e,p⟩;by_cases h:i < l.length
  ·rw [JN h] at e;cases e;exact⟨h,p⟩
  ·rw [LR Qj] at e;cases e
 ·rintro⟨h,p⟩;exact⟨a,by rw [JN h];rfl,p⟩
theorem kL{x:Option Sl}{l:Dl}{i j:Nat}{P:List Qp->Prop}(h:i≠j):(∃d,(l.set i x)[j]?=some (some (Sl.o d))/\P d)=(∃d,l[j]?=some (some (Sl.o d))/\P d):=by rw [JV h]
theorem kM{a:Bool}{P:Bool->Prop}:(∃b,LX a= .bool b/\P b)=P a:=Qo
theorem kN{a:Int}{P:Int->Prop}:(∃b,JM a= .int b/\P b)=P a:=Qo
theorem kO{a:Str}{P:Str->Prop}:(∃b,JA a= .str b/\P b)=P a:=Qo
theorem kP{a:List Qp}{P:List Qp->Prop}:(∃b,J3 a= .tuple b/\P b)=P a:=Qo
theorem kT{a:List Qp}{P:List Qp->Prop}:(∃b,Kl a= .list b/\P b)=P a:=Qo
theorem kU{a b:Int}{P:Int->Int->Prop}:(∃i j,JM a= .int i/\JM b= .int j/\P i j)=P a b:=Qo
theorem kW{a b:Str}{P:Str->Str->Prop}:(∃i j,JA a= .str i/\JA b= .str j/\P i j)=P a b:=Qo
theorem kX{a b:List Qp}{P:List Qp->List Qp->Prop}:(∃i j,J3 a= .tuple i/\J3 b= .tuple j/\P i j)=P a b:=Qo
theorem kY{a b:List Qp}{P:List Qp->List Qp->Prop}:(∃i j,Kl a= .list i/\Kl b= .list j/\P i j)=P a b:=Qo
theorem kZ{a:Qp}{r:List Qp}{P:Qp->List Qp->Prop}:(∃x y,a::r=x::y/\P x y)=P a r:=propext ⟨λuu74=>by obtain⟨_,_,e,p⟩:=uu74;cases e;exact p,λp=>⟨_,_,rfl,p⟩⟩
theorem k6{a b:Qp}{P:Qp->Qp->Prop}:(∃x y,[a,b]=[x,y]/\P x y)=P a b:=propext ⟨λuu75=>by obtain⟨_,_,e,p⟩:=uu75;cases e;exact p,λp=>⟨_,_,rfl,p⟩⟩
theorem k7{a:Qp}{r:List Qp}{P:Qp->Prop}:(∃ds i d,J3 (a::r)= .tuple ds/\JM 0= .int i/\atI ds i=some d/\P d)=P a:=by simp [cx]
theorem k8{a b:Qp}{r:List Qp}{P:Qp->Prop}:(∃ds i d,J3 (a::b::r)= .tuple ds/\JM 1= .int i/\atI ds i=some d/\P d)=P b:=by simp [cy]
theorem k9{a b c:Qp}{r:List Qp}{P:Qp->Prop}:(∃ds i d,J3 (a::b::c::r)= .tuple ds/\JM 2= .int i/\atI ds i=some d/\P d)=P c:=by simp [cW]
theorem lg{a b c e:Qp}{r:List Qp}{P:Qp->Prop}:(∃ds i d,J3 (a::b::c::e::r)= .tuple ds/\JM 3= .int i/\atI ds i=some d/\P d)=P e:=by simp [cF]
theorem lh{a:Qp}{r:List Qp}{P:Qp->Prop}:(∃ds i d,Kl (a::r)= .list ds/\JM 0= .int i/\atI ds i=some d/\P d)=P a:=by simp [cx]
theorem lq{a b:Qp}{r:List Qp}{P:Qp->Prop}:(∃ds i d,Kl (a::b::r)= .list ds/\JM 1= .int i/\atI ds i=some d/\P d)=P b:=by simp [cy]
theorem lr{a b c:Qp}{r:List Qp}{P:Qp->Prop}:(∃ds i d,Kl (a::b::c::r)= .list ds/\JM 2= .int i/\atI ds i=some d/\P d)=P c:=by simp [cW]
theorem lu{xs:List Qp}{k:Int}{P:Qp->Prop}:(∃ds i d,J3 xs= .tuple ds/\JM k= .int i/\atI ds i=some d/\P d)=(∃d,atI xs k=some d/\P d):=Qo
theorem lz{xs:List Qp}{k:Int}{P:Qp->Prop}:(∃ds i d,Kl xs= .list ds/\JM k= .int i/\atI ds i=some d/\P d)=(∃d,atI xs k=some d/\P d):=Qo
end
theorem lA{w v:Str}{r:List Qp}{l:Dl}{Q:Bool->Prop}:ck (bK cY (bK cV (bW 0) (dC (.int 0))) (dC (.str v))) (some (.v (.tuple (.str w::r)))::l) Q=Q (w==v):=by
 simp [ck,bK,cY,cV,gO,dC,cx,bG,cG]
theorem lB{v:Str}{x:Option Sl}{l:Dl}{k:Nat}{Q:Bool->Prop}:ck (bK cY (bK cV (bW 0) (dC (.int 0))) (dC (.str v))) (l.set (k+1) x) Q=ck (bK cY (bK cV (bW 0) (dC (.int 0))) (dC (.str v))) l Q:=by
 simp only [ck,bK,bW,dC,JV (show k+1≠0 by omega)]
def d6:ag->Qp
 | .inl i=>.int i
 | .inr x=>.str x
def fc(kd:List (ag×Qp))(k:ag):Option Qp:=(kd.find? λp=>decide (p.1=k)).map (·.2)
def d8(kd:List (ag×Qp))(k:ag)(d:Qp):List (ag×Qp):=if (kd.any λp=>decide (p.1=k))=true then kd.map (λp=>if p.1=k then(p.1,d) else p) else kd++[(k,d)]
section
variable {K:Ju} {H:Hp} {O:Ex}
theorem Dt.key{v:V}{k:ag}(h:Dt K H O v (d6 k)):v=kV k:=by
 cases k with
 | inl i=>cases h;rfl
 | inr x=>cases h;rfl
theorem aT.val{kv:List (ag×V)}{kd:List (ag×Qp)}(h:aT K H O kv kd)(k:ag):(cI kv k=none/\fc kd k=none)\/∃v d,cI kv k=some v/\fc kd k=some d/\Dt K H O v d:=by
 induction h with
 | nil=>exact .inl ⟨rfl,rfl⟩
 | @cons j v d r s a _ ih=>
  by_cases e:j=k
  ·exact .inr ⟨v,d,qp e,by simp [fc,LO,e],a⟩
  ·rw [pj e,show fc ((j,d)::s) k=fc s k by simp [fc,LO,e]];exact ih
theorem aT.any{kv:List (ag×V)}{kd:List (ag×Qp)}(h:aT K H O kv kd)(k:ag):(kv.any λp=>decide (p.1=k))=(kd.any λp=>decide (p.1=k)):=by
 induction h with
 | nil=>rfl
 | cons a _ ih=>simp only [Kz,ih]
theorem aT.length{kv:List (ag×V)}{kd:List (ag×Qp)}(h:aT K H O kv kd):kv.length=kd.length:=by
 induction h with
 | nil=>rfl
 | cons a _ ih=>simp only [JS,ih]
theorem aT.append{kv kv':List (ag×V)}{kd kd':List (ag×Qp)}(h:aT K H O kv kd)(h':aT K H O kv' kd'):aT K H O (kv++kv') (kd++kd'):=by
 induction h with
 | nil=>exact h'
 | cons a _ ih=>exact .cons a ih
theorem aT.repl{kv:List (ag×V)}{kd:List (ag×Qp)}(h:aT K H O kv kd)(k:ag){v:V}{d:Qp}(hv:Dt K H O v d):aT K H O (kv.map λp=>if p.1=k then(p.1,v) else p) (kd.map λp=>if p.1=k then(p.1,d) else p):=by
 induction h with
 | nil=>exact .nil
 | @cons j u e r s a _ ih=>
  simp only [JB];by_cases z:j=k
  ·rw [Ql z,Ql z];exact .cons hv ih
  ·rw [Qk z,Qk z];exact .cons a ih
theorem aT.put{kv:List (ag×V)}{kd:List (ag×Qp)}(h:aT K H O kv kd)(k:ag){v:V}{d:Qp}(hv:Dt K H O v d):aT K H O (putK kv k v) (d8 kd k d):=by
 unfold putK d8;rw [h.any k];split
 ·exact h.repl k hv
 ·exact h.append (.cons hv .nil)
end
section
variable {X:Cx} {H0:Hp} {O0:Ex}
abbrev oo:=Dl->(List (ag×Qp)->Prop)->Prop
inductive yD (K:Ju) (H0:Hp) (O0:Ex) (t:oo) (σ:St) (H:Hp) (R:VK):Prop
 | mk (O:Ex) (δ:Dl) (Qd:List (ag×Qp)->Prop):Wd K H0 O0 H O σ δ->t δ Qd->(∀kd kv p H',Qd kd->ai H H'->H' p=none->aT K H' O kv kd->R (.ref p) (ao H' p (.dK kv)))->yD K H0 O0 t σ H R
abbrev KE(X:Cx)(H0:Hp)(O0:Ex)(e:Qx)(t:oo):Prop:=PE X e (yD X.K H0 O0 t)
def gQ:oo:=λ_ Q=>Q []
theorem yE{pos:Pos}:KE X H0 O0 (.Dict [] [] pos) gQ:=xP.imp λσ H Q uu76=>by obtain⟨O,δ,Qd,w,q,k⟩:=uu76;exact λp hp=>k [] [] p H q (ai.refl _) hp .nil
def gR(i:Nat)(t:oo):DS:=λE δ=>t δ λkd=>E.nx (δ.set i (some (.k kd)))
theorem u5{i:Nat}{x:Str}{e:Qx}{t:oo}{pos pos':Pos}(hN:X.N.Nodup)(hi:X.N[i]?=some x)(hx:iC X.env.scope x)(he:KE X H0 O0 e t)(hs:QS e (some (.Name x pos')) pos.line X.env=pure false:=by rfl)(hf:X.fn x=true\/X.env.scope.names.lookup x=some .local:=by first | exact .inl rfl | exact .inr rfl | assumption):
 PS X (.Assign [.Name x pos'] e pos) (aQ X.K H0 O0 (gR i t)):=
 (tU hN hi hx he hs hf).imp λD σ H ⟨O,δ,E,w,q,k1,k2,k3,k4⟩=>⟨O,δ,_,w,q,λds vs p H1 q1 s1 hp r1=>k1 _ _ _ _ q1 ((w.mono s1).setK hp r1)
  ⟨λb o e _=>(s1.trans (ai.new hp)) b o e,λb e n z=>z.elim n λy=>by
   cases q:H b with
   | none=>exact e q
   | some o=>have:=s1 _ _ q;rw [y,hp] at this;cases this⟩⟩
def gS(i:Nat)(tk tv:DT):DS:=λE δ=>tv δ λd=>∃kd,δ[i]?=some (some (.k kd))/\tk δ λy=>∃k,y=d6 k/\kd.length < Qz/\E.nx (δ.set i (some (.k (d8 kd k d))))
theorem u7{i:Nat}{o e v:Qx}{tk tv:DT}{pos pos':Pos}(hu:X.A.units+64 < QV)(ho:PE X o (eF i))(he:DE X H0 O0 e tk)(hv:DE X H0 O0 v tv)(hs:QS v (some (.Subscript o e pos')) pos.line X.env=pure false:=by rfl):
 PS X (.Assign [.Subscript o e pos'] v pos) (aQ X.K H0 O0 (gS i tk tv)):=
 (Ez Qj ho he hv hs).imp λD σ H ⟨O,δ,E,w,q,k1,k2,k3,k4⟩=>⟨O,δ,_,w,q,λd u H1 uu79 s1 r1=>by
  obtain⟨kd,e,qk⟩:=uu79;have w1:=w.mono s1;obtain⟨l,kv,h,a,b,c,r⟩:=w1.ownK e;refine⟨.ref l,h,O,δ,_,w1,qk,λy uy H2 ⟨k,ek,hl,q2⟩ s2 r2=>?_⟩;subst ek;obtain rfl:=r2.key;refine⟨l,_,rfl,qq.k (s2 _ _ c) (by rw [r.length];exact hl),k1 _ _ _ _ q2 ((w1.mono s2).putK e h ((r.mono s2).put k (r1.mono s2))) ⟨λb' o' z n=>?_,λ_ _ n=>n⟩⟩;rw [az (λy=>n (by rw [y];exact a))];exact(s1.trans s2) _ _ z⟩
def gT(i:Nat)(tk:DT):DT:=λδ Q=>∃kd,δ[i]?=some (some (.k kd))/\tk δ λy=>∃k d,y=d6 k/\fc kd k=some d/\Q d
theorem aT.got{K:Ju}{H:Hp}{O:Ex}{kv:List (ag×V)}{kd:List (ag×Qp)}(h:aT K H O kv kd){k:ag}{d:Qp}(e:fc kd k=some d):∃v,cI kv k=some v/\Dt K H O v d:=by
 rcases h.val k with⟨_,z⟩ | ⟨v,d',a,b,c⟩
 ·rw [e] at z;cases z
 ·rw [e] at b;cases b;exact⟨v,a,c⟩
theorem Fo{i:Nat}{o e:Qx}{tk:DT}{pos:Pos}(hu:X.A.units+64 < QV)(ho:PE X o (eF i))(he:DE X H0 O0 e tk)(hs:rW e):DE X H0 O0 (.Subscript o e pos) (gT i tk):=
 (xN Qj ho he hs).imp λσ H Q uu81=>by
  obtain⟨O,δ,Qd,w,⟨kd,e,q⟩,k⟩:=uu81;obtain⟨l,kv,h,a,b,c,r⟩:=w.ownK e;refine⟨.ref l,h,O,δ,_,w,q,λy uy H2 ⟨ky,d,ek,ev,q2⟩ s2 r2=>?_⟩;subst ek;obtain rfl:=r2.key;obtain⟨v,hv,dv⟩:=r.got ev;exact⟨l,v,rfl,by rw [<-hv];exact cJ.k (s2 _ _ c),k _ _ _ q2 s2 (dv.mono s2)⟩
def gU(i:Nat)(tk:DT):DT:=λδ Q=>∃kd,δ[i]?=some (some (.k kd))/\tk δ λy=>∃k,y=d6 k/\Q ((fc kd k).getD .none)
theorem Fp{i:Nat}{o e:Qx}{tk:DT}{apos cpos:Pos}(hu:X.A.units+64 < QV)(ho:PE X o (eF i))(he:DE X H0 O0 e tk)(m:M1 X o "get" apos e cpos):DE X H0 O0 (.Call (.Attribute o "get" apos) [e] [] cpos) (gU i tk):=
 (EJ Qj ho he m).imp λσ H Q uu83=>by
  obtain⟨O,δ,Qd,w,⟨kd,e,q⟩,k⟩:=uu83;obtain⟨l,kv,h,a,b,c,r⟩:=w.ownK e;refine⟨.ref l,h,l,rfl,.inl ⟨kv,.inl c⟩,O,δ,_,w,q,λy uy H2 ⟨ky,ek,q2⟩ s2 r2=>?_⟩;subst ek;obtain rfl:=r2.key;refine⟨_,cJ.k (s2 _ _ c),k _ _ _ q2 s2 ?_⟩;rcases r.val ky with⟨y,z⟩ | ⟨v,d',a',b',c'⟩
  ·rw [y,z];exact .non
  ·rw [a',b'];exact c'.mono s2
def lC(neg:Bool)(i:Nat)(tk:DT):DT:=λδ Q=>tk δ λy=>∃k,y=d6 k/\∃kd,δ[i]?=some (some (.k kd))/\Q (.bool (if neg then !(fc kd k).isSome else(fc kd k).isSome))
end
open PySem PySem.Spec PyProof.Rows PySem.W PySem.Calls
theorem Fq{prog:QA}{w:QE}{A:QF}{E:Qr->Qt->Prop}{s:Qt}{T:String}{r d:Qs}{n:Nat}{P:Nat->Qr->Prop}{OK:QB->Prop}{ss:List Str}{Q:Qr->Qt->Prop}
 (K:KdlSrc prog w T r d n P OK)(hh:A.handled=none)(hok:OK s.heap)(hn:n < 64)(hP:∀vs:List Qr,vs.length=n->(∀j v,vs[j]?=some v->P j v)->QT vs ss)
 (h:∀(h' h2:QB) (tk:Nat) (out:Array Qr) (e:Nat) (ss':List Str),(∀b o,s.heap.get? b=some o->h'.get? b=some o)->(∀b o,h'.get? b=some o->h2.get? b=some o)->h2.get? h'.objs.size=some (QJ "list" out e)->QT out.toList ss'->ss'.Perm ss->sortedS ss'=true->Q (.ref h'.objs.size) {s with heap:=h2,toks:=tk}):
 Qv (Qw prog w) A (call (.builtin "sorted") [.ref r]) Q E s:=by
 refine MX kind_sorted plain_sorted entry_sorted (args_sorted1 _) ?_;unfold Builtin.«sorted»;refine Qq (m:=checkCount "sorted" 1 1 _) (Qu ?_);refine Qq (kdu_collect (A:=A.in1) K hh hok (Km (Ms hn) Qi) λh' tk acc hk hacc=>?_);have hl:acc.toList.length=n:=by rw [JL];exact hacc.1
 refine Qq (Ro ?_);have hS:=hP acc.toList hl (λj v e=>hacc.2 j v (by rw [<-Nq];exact e));have hoL:(h'.push (QJ "list" acc.toList.toArray 0)).get? h'.objs.size=some (QJ "list" acc.toList.toArray 0):=JR _ rfl;refine Qq (QR (QQ RR ⟨_,hoL,rfl⟩ RP (list_sort_treeK (s:={s with heap:=h'.push (QJ "list" acc.toList.toArray 0),toks:=tk}) strKind_oneLt hoL hS.keysOf (λv₁ v₂ rest e=>keyKind_strs (by rw [<-e];exact hS)) (by rw [hl];exact hn) λst' a1 a2=>⟨_,rfl,?_⟩) (args_list_sort _)));obtain⟨ss',h1,h2,h3⟩:=sorted_out_str hS a1 a2;obtain⟨e,he⟩:=sortedHeap_at (n:=0) (vs:=acc.toList) (out:=(arrOf st').map (·.2)) hoL;refine Qu ⟨_,rfl,h h' _ tk _ e ss' hk (λb o q=>?_) he h1 h2 h3⟩;have hlt:b < h'.objs.size:=JC q;rw [sortedHeap_old (JW hlt) (by rw [size_push'];exact K9 hlt),OZ _ _ _ (JW hlt)];exact q
theorem yF{P:QA}{w:QE}:∀{ss:List Str}{vs:List Qr},vs.length=ss.length->(∀(j:Nat)(v:Qr),vs[j]?=some v->∃x:Str,ss[j]?=some x/\(cg P w).is (.inr x) v=true)->QT vs ss
 | [],[],_,_=>.nil
 | x::ss,v::vs,hl,h=>by
  obtain⟨y,e,k⟩:=h 0 v rfl;cases e;rcases iB (k:= .inr x) (v:=v) k with⟨i,t,e,_⟩ | ⟨z,t,e,ev⟩
  ·cases e
  ·cases e;subst ev;exact .cons x t (yF (by simpa using hl) λj v e=>h (j+1) v e)
theorem Fs{X:Cx}:cj X (.builtin "sorted") (λxs H Q=>X.calm=true/\∃a kv ss,xs=[.ref a]/\Rd H a (.dK kv)/\kv.map (·.1)=ss.map LQ/\ss.length < 64/\∀l,H l=none->Q (.ref l) (ao H l (.lst ((bV ss).map V.str)))):=by
 intro Sb s σ H xs us Q I r h;obtain⟨hc,a,kv,ss,rfl,ha,hk,h64,q⟩:=h;obtain⟨u,rfl,rx⟩:=dR r;cases rx;obtain⟨hz,lo,vs,rel,dd⟩:=nr I.hok ha;obtain⟨ep,da⟩:=dd.dictAt;have hlen:vs.length=ss.length:=by rw [<-rel.length,<-Jv (f:=(·.1)),hk,Jv]
 refine Fq (ss:=ss) (kdl_dict (kvs:=vs) (ep:=ep) lo) (I.ok.hd hc) da Qj (λus hl hp=>yF (P:=X.prog) (w:=X.w) Qj λj v e=>?_) λh' h2 tk out e ss' k1 k2 at2 s1 s2 s3=>?_
 ·obtain⟨k,x,ek,kk⟩:=hp j v e;have e1:(vs.map (·.1))[j]?=some k:=by rw [JD,ek];rfl
  rw [<-rel.keys,hk,JD] at e1;cases es:ss[j]? with
  | none=>rw [es] at e1;cases e1
  | some y=>rw [es] at e1;cases e1;exact⟨y,rfl,kk⟩
 ·have es:ss'=bV ss:=x8 s2 (yp _ s3);subst es;have hl2:(bV ss).length=ss.length:=s2.length_eq;have I1:aa X Sb σ H {s with heap:=h',toks:=tk}:=I.kept (t':=tk) k1;refine⟨.ref _,_,I1.laid (t':=tk) (o:= .lst ((bV ss).map V.str)) k2 (Jy _) ?_,rfl,q _ (I1.hok.fresh (Jy _))⟩;refine⟨by rw [Jv,hl2];exact Km (Ms h64) Qi,out.toList,e,uY s1,?_⟩;rw [at2]
theorem aT.keys{K:Ju}{H:Hp}{O:Ex}{kv:List (ag×V)}{kd:List (ag×Qp)}(h:aT K H O kv kd):kv.map (·.1)=kd.map (·.1):=by
 induction h with
 | nil=>rfl
 | cons a _ ih=>simp only [JB,ih]
section
variable {X:Cx} {H0:Hp} {O0:Ex}
def gW(i:Nat):DA:=λδ Q=>∃kd,δ[i]?=some (some (.k kd))/\∃ss:List Str,kd.map (·.1)=ss.map LQ/\ss.length < 64/\Q ((bV ss).map .str)
theorem Ft{i:Nat}{o:Qx}{np p:Pos}(hc:X.calm=true)(hg:Gl X "sorted")(hm:X.mg "sorted"=none)(hv:QL "sorted"=some (.builtin "sorted"))(ho:PE X o (eF i))(he:Qy [o] X.env=(false,eval o X.env)::Qy [] X.env:=by rfl)(hpl:(QN p (Qy [] X.env)).any (·.1)=false:=by rfl):
 FE X H0 O0 (.Call (.Name "sorted" np) [o] [] p) (gW i):=
 (bI Fs hg hm hv (bP ho eG he) (he:=he) (hpl:=hpl)).imp λσ H Q uu85=>by
  obtain⟨O,δ,Qd,w,⟨kd,e,ss,ek,h64,q⟩,k⟩:=uu85;obtain⟨l,kv,h,a,b,c,r⟩:=w.ownK e;exact⟨.ref l,h,hc,l,kv,ss,rfl,.inl c,by rw [r.keys];exact ek,h64,λp hp=>k _ _ _ _ q (ai.refl _) hp (ah.ofStrs _)⟩
end
section
theorem lF{a:List (ag×Qp)}{r:Dl}{P:List (ag×Qp)->Prop}:(∃d,(some (Sl.k a)::r)[0]?=some (some (Sl.k d))/\P d)=P a:=Qo
theorem lG{x:Option Sl}{r:Dl}{i:Nat}{P:List (ag×Qp)->Prop}:(∃d,(x::r)[i+1]?=some (some (Sl.k d))/\P d)=(∃d,r[i]?=some (some (Sl.k d))/\P d):=Qo
theorem lH{a:List (ag×Qp)}{l:Dl}{i:Nat}{P:List (ag×Qp)->Prop}:(∃d,(l.set i (some (Sl.k a)))[i]?=some (some (Sl.k d))/\P d)=(i < l.length/\P a):=by
 apply propext;rw [N8];constructor
 ·rintro⟨d,e,p⟩;by_cases h:i < l.length
  ·rw [JN h] at e;cases e;exact⟨h,p⟩
  ·rw [LR Qj] at e;cases e
 ·rintro⟨h,p⟩;exact⟨a,by rw [JN h];rfl,p⟩
theorem lI{x:Option Sl}{l:Dl}{i j:Nat}{P:List (ag×Qp)->Prop}(h:i≠j):(∃d,(l.set i x)[j]?=some (some (Sl.k d))/\P d)=(∃d,l[j]?=some (some (Sl.k d))/\P d):=by rw [JV h]
theorem lJ{x:Str}{P:ag->Prop}:(∃k,JA x=d6 k/\P k)=P (.inr x):=propext ⟨λuu86=>by obtain⟨k,e,p⟩:=uu86;cases k with | inl i=>cases e | inr y=>cases e;exact p,λp=>⟨_,rfl,p⟩⟩
theorem lK{x:Int}{P:ag->Prop}:(∃k,JM x=d6 k/\P k)=P (.inl x):=propext ⟨λuu87=>by obtain⟨k,e,p⟩:=uu87;cases k with | inr i=>cases e | inl y=>cases e;exact p,λp=>⟨_,rfl,p⟩⟩
end
def lL:Qp->Bool
 | .none=>true
 | _=>false
def gX:Qp->Qp->(Qp->Prop)->Prop:=λx y Q=>y= .none/\Q (.bool (lL x))
def lM:Qp->Qp->(Qp->Prop)->Prop:=λx y Q=>y= .none/\Q (.bool (!lL x))
theorem Sh.isN{K:Ju}{H:Hp}{O:Ex}{x:V}{d:Qp}(h:Sh K H O x d):decide (x= .non)=lL d:=by
 cases h with
 | dt h=>cases h <;> simp [lL]
 | _=>simp [lL]
theorem u9{K:Ju}:bS K (λx y H Q=>y= .non/\Q (.bl (decide (x= .non))) H) gX:=λH O x y dx dy Qd R _ hx hy uu88 k=>by
 obtain⟨e,q⟩:=uu88;subst e;refine⟨hy.non,?_⟩;rw [hx.isN];exact k _ _ H q (ai.refl _) (.bl _)
def gY:List Qp->(Qp->Prop)->Prop:=λds Q=>∃i:Int,ds=[.int i]/\Q (.int (if i < 0 then -i else i))
theorem Fv{K:Ju}:nj K (λxs H Q=>∃i,xs=[.int i]/\Q (.int (if i < 0 then -i else i)) H) gY:=λH O xs ds Qd R _ hs uu89 k=>by
 obtain⟨i,e,q⟩:=uu89;subst e;cases hs with
 | cons h r=>cases r;cases h.int;exact⟨i,rfl,k _ _ H q (ai.refl _) (.int _)⟩
def gZ:Qp->Qp->(Qp->Prop)->Prop:=λx y Q=>∃ds i d,x=cN ds/\y= .int i/\atI ds i=some d/\Q d
theorem Fw{K:Ju}:bS K (uo K) gZ:=λH O x y dx dy Qd R _ hx hy uu90 k=>by
 obtain⟨ds,i,d,e1,e2,e3,q⟩:=uu90;subst e1 e2;obtain⟨a,vs,rfl,hs,r⟩:=hx.scr;cases hy.int;obtain⟨v,hv,rv⟩:=r.atI e3;exact⟨a,vs,i,v,rfl,rfl,hs,hv,k d v H q (ai.refl _) rv⟩
section
variable {X:Cx} {H0:Hp} {O0:Ex}
def g6(t:DT)(tl th:DO):DA:=λδ Q=>t δ λd=>tl δ λl=>th δ λu=>∃xs,d=cN xs/\Q (bf xs l u)
theorem Fx{e:Qx}{lo hi:Option Qx}{t:DT}{tl th:DO}{pos p2:Pos}(h:DF X H0 O0 e t)(hl:PO X lo (nk X.K H0 O0 tl))(hu:PO X hi (nk X.K H0 O0 th)):FE X H0 O0 (.Subscript e (.Slice lo hi none p2) pos) (g6 t tl th):=
 (uk wU h hl hu).imp λσ H Q uu91=>by obtain⟨O,δ,Qd,w,q,k⟩:=uu91;exact⟨O,δ,_,w,q,λd v H1 q1 s1 r1=>⟨O,δ,_,w.mono s1,q1,λl H2 q2 s2=>⟨O,δ,_,w.mono (s1.trans s2),q2,λu H3 uu92 s3=>by
  obtain⟨xs,e,q3⟩:=uu92;subst e;obtain⟨a,vs,rfl,h1,d1⟩:=(r1.mono (s2.trans s3)).scr;exact⟨a,vs,rfl,h1,λp hp=>k _ _ _ _ q3 (s1.trans (s2.trans s3)) hp (d1.cut l u)⟩⟩⟩⟩
end
theorem va{X:Cx}:bz X (Q9 .Mult) (λx y H Q=>∃(z:Str)(n:Int),x= .str z/\y= .int n/\MulOk z n/\Q (.str (Txt.mul z n)) H):=by
 intro Sb s σ H x y v u Q I rx ry h;obtain⟨z,n,rfl,rfl,hok,q⟩:=h;obtain⟨t,rfl⟩:=rx;obtain⟨t',rfl⟩:=ry;exact SB.mul hok λt' k=>⟨.str _,H,I.tok _,⟨_,rfl⟩,q⟩
def g8:Qp->Qp->(Qp->Prop)->Prop:=λx y Q=>∃(z:Str)(n:Int),x= .str z/\y= .int n/\MulOk z n/\Q (.str (Txt.mul z n))
theorem vb{K:Ju}:bS K (λx y H Q=>∃(z:Str)(n:Int),x= .str z/\y= .int n/\MulOk z n/\Q (.str (Txt.mul z n)) H) g8:=λH O x y dx dy Qd R _ hx hy uu93 k=>by
 obtain⟨z,n,e1,e2,c,q⟩:=uu93;subst e1 e2;cases hx.str;cases hy.int;exact⟨z,n,rfl,rfl,c,k _ _ H q (ai.refl _) (.str _)⟩
structure Rw where
 w:Str
 n:Int
 nm:Str
 r:List Qp
def Rw.enc(x:Rw):Qp:= .tuple (.str x.w:: .int x.n:: .str x.nm::x.r)
def lO(ws:List Str)(day:Int)(x:Rw):Prop:=x.w∈ws/\x.n<=day
instance {ws:List Str} {day:Int} {x:Rw}:Decidable (lO ws day x):=by unfold lO;infer_instance
abbrev Ls:=List (Str×Rw)
def g9(L:Ls):List (ag×Qp):=L.map λp=>(.inr p.1,p.2.enc)
def cK(L:Ls)(nm:Str):Option Rw:=(L.find? λp=>decide (p.1=nm)).map (·.2)
def si(L:Ls)(nm:Str)(x:Rw):Ls:=if (L.any λp=>decide (p.1=nm))=true then L.map (λp=>if p.1=nm then(p.1,x) else p) else L++[(nm,x)]
theorem qy{a b:Str}:((LQ a:ag)=LQ b)↔a=b:=⟨λh=>by cases h;rfl,λh=>by rw [h]⟩
theorem vc(nm:Str):∀L:Ls,fc (g9 L) (.inr nm)=(cK L nm).map Rw.enc
 | []=>rfl
 | p::L=>by
  have ih:=vc nm L;unfold fc cK g9 at*;by_cases h:p.1=nm
  ·simp [LO,h]
  ·have h':¬((LQ p.1:ag)=LQ nm):=λz=>h (qy.mp z);simp only [JB,LO,decide_eq_false h,decide_eq_false h'];exact ih
theorem yG(L:Ls)(nm:Str)(x:Rw):d8 (g9 L) (.inr nm) x.enc=g9 (si L nm x):=by
 have ha:(g9 L).any (λp=>decide (p.1=(LQ nm:ag)))=L.any λp=>decide (p.1=nm):=by
  unfold g9;rw [OT];congr 1;funext p;simp only [OA,qy]
 unfold d8 si;rw [ha];split
 ·unfold g9;rw [Ku,Ku];apply OE;intro p _;simp only [OA,qy];split <;> rfl
 ·unfold g9;simp
structure cZ (ws:List Str) (day:Int) (xs:List Rw) (L:Ls):Prop where
 nd:(L.map (·.1)).Nodup
 it:∀p∈L,p.1=p.2.nm/\p.2∈xs/\lO ws day p.2/\∀y∈xs,lO ws day y->y.nm=p.1->y.n<=p.2.n
 al:∀y∈xs,lO ws day y->∃p∈L,p.1=y.nm
 le:L.length<=xs.length
theorem cZ.nil(ws:List Str)(day:Int):cZ ws day [] []:=⟨List.nodup_nil,(λp h=>by cases h),(λp h=>by cases h),Jy _⟩
theorem sj{L:Ls}{nm:Str}{y:Rw}(h:cK L nm=some y):∃p∈L,p.1=nm/\p.2=y:=by
 unfold cK at h;cases e:L.find? (λp=>decide (p.1=nm)) with
 | none=>rw [e] at h;cases h
 | some p=>
  rw [e] at h;cases h;exact⟨p,List.mem_of_find?_eq_some e,by simpa using List.find?_some e,rfl⟩
theorem yH{L:Ls}{nm:Str}(h:cK L nm=none):∀p∈L,p.1≠nm:=by
 intro p hp e;unfold cK at h;rw [Option.map_eq_none_iff,List.find?_eq_none] at h;exact h p hp (by simpa using e)
section
variable {ws:List Str} {day:Int} {xs:List Rw} {L:Ls} {x:Rw}
theorem cZ.skip(h:cZ ws day xs L)(hx:¬lO ws day x):cZ ws day (xs++[x]) L:=by
 refine⟨h.nd,λp hp=>?_,λy hy ho=>?_,by have:=h.le;simp;omega⟩
 ·obtain⟨a,b,c,d⟩:=h.it p hp;refine⟨a,by simp [b],c,λy hy ho e=>?_⟩;rcases JI.mp hy with z | z
  ·exact d y z ho e
  ·rw [JJ] at z;subst z;exact absurd ho hx
 ·rcases JI.mp hy with z | z
  ·exact h.al y z ho
  ·rw [JJ] at z;subst z;exact absurd ho hx
theorem cZ.keep(h:cZ ws day xs L){y0:Rw}(hl:cK L x.nm=some y0)(hn:¬y0.n < x.n):cZ ws day (xs++[x]) L:=by
 obtain⟨p0,hp0,e0,rfl⟩:=sj hl;have uq:∀p∈L,p.1=x.nm->p=p0:=λp hp e=>by
  have nd:=h.nd;clear h hl hn
  induction L with
  | nil=>cases hp
  | cons q L ih=>
   rw [JB,LL] at nd;rcases JF.mp hp with a | a <;> rcases JF.mp hp0 with b | b
   ·rw [a,b]
   ·exact absurd (JE.mpr ⟨p0,b,by rw [e0,<-e,a]⟩) nd.1
   ·exact absurd (JE.mpr ⟨p,a,by rw [e,<-e0,b]⟩) nd.1
   ·exact ih b a nd.2
 refine⟨h.nd,λp hp=>?_,λy hy ho=>?_,by have:=h.le;simp;omega⟩
 ·obtain⟨a,b,c,d⟩:=h.it p hp;refine⟨a,by simp [b],c,λy hy ho e=>?_⟩;rcases JI.mp hy with z | z
  ·exact d y z ho e
  ·rw [JJ] at z;subst z;rw [uq p hp e.symm];omega
 ·rcases JI.mp hy with z | z
  ·exact h.al y z ho
  ·rw [JJ] at z;subst z;exact⟨p0,hp0,e0⟩
theorem cZ.put(h:cZ ws day xs L)(ho:lO ws day x)(hl:∀y,cK L x.nm=some y->y.n < x.n):cZ ws day (xs++[x]) (si L x.nm x):=by
 unfold si;split
 ·rename_i ha;obtain⟨p0,hp0,e0⟩:=MK.mp ha;have e0:p0.1=x.nm:=of_decide_eq_true e0;have hmx:∀y∈xs,lO ws day y->y.nm=x.nm->y.n<=x.n:=λy hy ho' e=>by
   cases hk:cK L x.nm with
   | none=>exact absurd e0 (yH hk p0 hp0)
   | some z=>
    obtain⟨p,hp,ep,rfl⟩:=sj hk;have:=(h.it p hp).2.2.2 y hy ho' (by rw [ep];exact e);have:=hl _ hk;omega
  refine⟨?_,λp hp=>?_,λy hy ho'=>?_,by have:=h.le;simp;omega⟩
  ·rw [Ku,show((λp:Str×Rw=>p.1)∘ λp=>if p.1=x.nm then(p.1,x) else p)=λp=>p.1 by funext p;simp only [OA];split <;> rfl];exact h.nd
  ·obtain⟨q,hq,rfl⟩:=JE.mp hp;by_cases z:q.1=x.nm
   ·rw [Ql z];refine⟨z,Qo,ho,λy hy ho' e=>?_⟩;rcases JI.mp hy with m | m
    ·exact hmx y m ho' (by rw [e];exact z)
    ·rw [JJ] at m;subst m;exact P6 _
   ·rw [Qk z];obtain⟨a,b,c,d⟩:=h.it q hq;refine⟨a,by simp [b],c,λy hy ho' e=>?_⟩;rcases JI.mp hy with m | m
    ·exact d y m ho' e
    ·rw [JJ] at m;subst m;exact absurd e.symm z
  ·rcases JI.mp hy with m | m
   ·obtain⟨p,hp,e⟩:=h.al y m ho';refine⟨_,JE.mpr ⟨p,hp,rfl⟩,?_⟩;split <;> exact e
   ·rw [JJ] at m;subst m;refine⟨_,JE.mpr ⟨p0,hp0,rfl⟩,?_⟩;rw [Ql e0];exact e0
 ·rename_i ha;have hno:∀p∈L,p.1≠x.nm:=λp hp e=>ha (MK.mpr ⟨p,hp,decide_eq_true e⟩);refine⟨?_,λp hp=>?_,λy hy ho'=>?_,by have:=h.le;simp;omega⟩
  ·rw [JZ];refine MQ.mpr ⟨h.nd,Qo,λa ha' b hb=>?_⟩;simp only [JB,Kk,JJ] at hb;obtain⟨p,hp,rfl⟩:=JE.mp ha';rw [hb];exact hno p hp
  ·rcases JI.mp hp with m | m
   ·obtain⟨a,b,c,d⟩:=h.it p m;refine⟨a,by simp [b],c,λy hy ho' e=>?_⟩;rcases JI.mp hy with z | z
    ·exact d y z ho' e
    ·rw [JJ] at z;subst z;exact absurd e.symm (hno p m)
   ·rw [JJ] at m;subst m;refine⟨rfl,Qo,ho,λy hy ho' e=>?_⟩;rcases JI.mp hy with z | z
    ·obtain⟨p,hp,e'⟩:=h.al y z ho';exact absurd (e'.trans e) (hno p hp)
    ·rw [JJ] at z;subst z;exact P6 _
  ·rcases JI.mp hy with m | m
   ·obtain⟨p,hp,e⟩:=h.al y m ho';exact⟨p,by simp [hp],e⟩
   ·rw [JJ] at m;subst m;exact⟨(y.nm,y),Qo,rfl⟩
end
structure sk (ws:List Str) (day:Int) (xs res:List Rw):Prop where
 up:(res.map (·.nm)).Pairwise λa b=>cn a b=true
 nd:(res.map (·.nm)).Nodup
 it:∀x∈res,x∈xs/\lO ws day x/\∀y∈xs,lO ws day y->y.nm=x.nm->y.n<=x.n
 al:∀y∈xs,lO ws day y->∃x∈res,x.nm=y.nm
 le:res.length<=xs.length
theorem vd{L:Ls}{nm:Str}(h:nm∈L.map (·.1)):∃x,cK L nm=some x:=by
 cases e:cK L nm with
 | some x=>exact⟨x,rfl⟩
 | none=>
  obtain⟨p,hp,e'⟩:=JE.mp h;exact absurd e' (yH e p hp)
def so(L:Ls):List Rw:=(bV (L.map (·.1))).filterMap (cK L)
theorem Fy{ws:List Str}{day:Int}{xs:List Rw}{L:Ls}(h:cZ ws day xs L):(so L).map (·.nm)=bV (L.map (·.1)):=by
 unfold so;have key:∀l:List Str,(∀a∈l,a∈L.map (·.1))->(l.filterMap (cK L)).map (·.nm)=l:=by
  intro l
  induction l with
  | nil=>intro _;rfl
  | cons a l ih=>
   intro hl;obtain⟨x,hx⟩:=vd (hl a Qo);obtain⟨p,hp,e,rfl⟩:=sj hx;rw [L7,hx];show p.2.nm::_=_;rw [ih λb hb=>hl b (by simp [hb]),<-(h.it p hp).1,e]
 exact key _ λa ha=>(eZ _).mem_iff.mp ha
theorem cZ.res{ws:List Str}{day:Int}{xs:List Rw}{L:Ls}(h:cZ ws day xs L):sk ws day xs (so L):=by
 have hn:=Fy h;refine⟨by rw [hn];exact uX _,by rw [hn];exact(eZ _).nodup_iff.mpr h.nd,λx hx=>?_,λy hy ho=>?_,by rw [<-Jv (f:=λx:Rw=>x.nm),hn,(eZ _).length_eq,Jv];exact h.le⟩
 ·obtain⟨a,ha,e⟩:=Mu.mp hx;obtain⟨p,hp,e1,rfl⟩:=sj e;obtain⟨b1,b2,b3,b4⟩:=h.it p hp;exact⟨b2,b3,λy hy ho e=>b4 y hy ho (by rw [b1];exact e)⟩
 ·obtain⟨p,hp,e⟩:=h.al y hy ho;have:p.1∈(so L).map (·.nm):=by rw [hn];exact(eZ _).mem_iff.mpr (JE.mpr ⟨p,hp,rfl⟩)
  obtain⟨x,hx,e'⟩:=JE.mp this;exact⟨x,hx,e'.trans e⟩
theorem Fz(t:Ru)(n:Nat):(t.orStandIn n).led=t.led:=by unfold SetTable.orStandIn;split <;> rfl
theorem FA(t:Ru)(es:Array (Int×Qr))(h:Int)(x:Qr):(layNew t es h x).2.1.led=t.led:=by
 unfold layNew;split
 ·exact Fz _ _
 ·rfl
theorem FC(t:Ru)(es:Array (Int×Qr))(n:Nat):(RH t es n).2.1.led=t.led:=by
 unfold RH Po PJ;cases O3 (OU n - 1) (es.map (·.1)) with
 | none=>rfl
 | some ow=>simp only [bind,P7,pure];split <;> rfl
theorem FD(t:Ru)(es:Array (Int×Qr))(n:Nat):(RH t es n).2.1.plain=true->t.plain=true:=by
 unfold RH Po PJ;cases O3 (OU n - 1) (es.map (·.1)) with
 | none=>intro e;cases e
 | some ow=>
  simp only [bind,P7,pure];split
  ·exact id
  ·intro e;cases e
abbrev d9(w:QE):Bool:=w.params.followText "set-order"
structure FF (P:QA) (w:QE) (o:Obj) (ss:List Str):Prop where
 ex:o.ExactSet
 da:∃es ep t,o.data= .set es ep t/\ElemsOf (strKind P w) es.toList/\(∃ss',QT (es.toList.map (·.2)) ss'/\ss'.Perm ss)/\es.size < Ri/\t.fits es.size=true/\(d9 w=true\/t.led=true)/\(es.size≠0->t.plain=false)
def cb(P:QA)(w:QE)(h:QB)(a:Qs)(ss:List Str):Prop:=∃o,h.get? a=some o/\FF P w o ss
theorem yI{k:Str}:∀{vs:List Qr}{ss:List Str},QT vs ss->((∃v∈vs,v.isStrOf k=true)↔k∈ss)
 | _,_,.nil=>by simp
 | _,_,.cons x t r=>by
  have ih:=yI (k:=k) r;constructor
  ·rintro⟨v,hv,e⟩;rcases JF.mp hv with z | z
   ·subst z;obtain⟨u,e'⟩:=OD e;cases e';exact Lj
   ·exact Ka _ (ih.mp ⟨v,z,e⟩)
  ·intro hk;rcases JF.mp hk with z | z
   ·subst z;exact⟨_,Lj,by simp [Oy]⟩
   ·obtain⟨v,hv,e⟩:=ih.mpr z;exact⟨v,Ka _ hv,e⟩
theorem sq{vs vs':List Qr}(p:vs'.Perm vs):∀{ss:List Str},QT vs ss->∃ss',QT vs' ss'/\ss'.Perm ss:=by
 induction p with
 | nil=>intro ss h;exact⟨ss,h,.refl _⟩
 | cons x p ih=>
  intro ss h;cases h with
  | cons y t r=>obtain⟨s1,a,b⟩:=ih r;exact⟨y::s1,.cons y t a,b.cons y⟩
 | swap x y l=>
  intro ss h;cases h with
  | cons a t r=>cases r with | cons b u r=>exact⟨b::a::_,.cons b u (.cons a t r),.swap _ _ _⟩
 | trans p q ih1 ih2=>
  intro ss h;obtain⟨s1,a,b⟩:=ih2 h;obtain⟨s2,c,d⟩:=ih1 a;exact⟨s2,c,d.trans b⟩
theorem yJ{x:Str}{t:Tok}:∀{vs:List Qr}{ss:List Str},QT vs ss->QT (vs++[.str x t]) (ss++[x])
 | _,_,.nil=>.cons x t .nil
 | _,_,.cons y u r=>.cons y u (yJ r)
theorem qz:∀{vs:List Qr}{ss:List Str},QT vs ss->vs.length=ss.length
 | _,_,.nil=>rfl
 | _,_,.cons y u r=>by simp [qz r]
def bH(ss:List Str)(x:Str):List Str:=if x∈ss then ss else ss++[x]
section
variable {P:QA} {w:QE} {A:QF} {E:Qr->Qt->Prop} {s:Qt}
theorem cb.mk{h:QB}{a:Qs}{o:Obj}{es es':Array (Int×Qr)}{ep:Nat}{t t':Ru}{ss:List Str}(o1:h.get? a=some o)(x1:o.ExactSet)(d1:o.data= .set es ep t)
 (el:ElemsOf (strKind P w) es'.toList)(sp:∃ss',QT (es'.toList.map (·.2)) ss'/\ss'.Perm ss)(b1:es'.size < Ri)(f1:t'.fits es'.size=true)(l1:d9 w=true\/t'.led=true)(p1:es'.size≠0->t'.plain=false):
 (h.update a (NZ es' t')).get? a=some {o with data:= .set es' (ep+1) t'}/\cb P w (h.update a (NZ es' t')) a ss:=by
 have g:(h.update a (NZ es' t')).get? a=some {o with data:= .set es' (ep+1) t'}:=by
  have z:=LS (NZ es' t') o1 (by rw [putSet_of es' t' d1];rfl);rw [putSet_of es' t' d1] at z;exact z
 exact⟨g,_,g,x1,es',ep+1,t',rfl,el,sp,b1,f1,l1,p1⟩
theorem yK{g:Bool->Sem Unit}(hg:∀(b:Bool) (s₁:Qt) (Q':Unit->Qt->Prop),Q' () s₁->Qv (Qw P w) A (g b) Q' E s₁)
 {a:Qs}{o:Obj}{es:Array (Int×Qr)}{ep:Nat}{t:Ru}(o1:s.heap.get? a=some o)(x1:o.ExactSet)(d1:o.data= .set es ep t)
 {es1:Array (Int×Qr)}{t2:Ru}{ss:List Str}(el:ElemsOf (strKind P w) es1.toList)(sp:∃ss',QT (es1.toList.map (·.2)) ss'/\ss'.Perm ss)
 (b1:es1.size < Ri)(f2:t2.fits es1.size=true)(l2:d9 w=true\/t2.led=true)(p2:t2.plain=false){wd:Bool}{R:Option Bool->Qt->Prop}
 (h:∀h',Mt a s.heap h'->cb P w h' a ss->R (some true) {s with heap:=h'}):
 Qv (Qw P w) A (do
  storeSet a es1 t2
  if (!wd && t2.tooFull)=true then do
   g (RH t2 es1 (Mp es1.size)).2.2
   storeSet a (RH t2 es1 (Mp es1.size)).1 (RH t2 es1 (Mp es1.size)).2.1
   pure (some true)
   else pure (some true)) R E s:=by
 refine Qq (wpAny_storeSet_of o1 d1 ?_ (fits_of_scanBound b1));obtain⟨o2,S2⟩:=cb.mk (P:=P) o1 x1 d1 el sp b1 f2 l2 (λ_=>p2);have sb:=Kt s.heap a (NZ es1 t2);split
 ·have rp:=relayAll_perm t2 es1 (Mp es1.size);have rf:=relayAll_fits t2 es1 (Mp es1.size);have rl:=FC t2 es1 (Mp es1.size);have rq:=FD t2 es1 (Mp es1.size);generalize RH t2 es1 (Mp es1.size)=Z at rp rf rl rq⊢;obtain⟨es2,t3,gv⟩:=Z;dsimp only at rp rf rl rq⊢;have sz:es2.size=es1.size:=by rw [<-JL,rp.length_eq,JL]
  obtain⟨ss',q1,q2⟩:=sp;obtain⟨ss2,q3,q4⟩:=sq (rp.map (·.2)) q1;refine Qq (hg _ _ _ (Qq (wpAny_storeSet_of o2 rfl ?_ (fits_of_scanBound (by rw [sz];exact b1)))));obtain⟨_,S3⟩:=cb.mk (P:=P) (w:=w) (t':=t3) o2 x1 rfl (el.perm rp) ⟨ss2,q3,q4.trans q2⟩ (by rw [sz];exact b1) rf (by rw [rl];exact l2) (λ_=>by
   cases hb:t3.plain with
   | false=>rfl
   | true=>rw [rq hb] at p2;cases p2)
  exact Qu (h _ (sb.trans (Kt _ a _)) S3)
 ·exact Qu (h _ sb S2)
theorem FG{a:Qs}{ss:List Str}{x:Str}{tk:Tok}{Q:Bool->Qt->Prop}(hS:cb P w s.heap a ss)(hroom:ss.length+1 < Ri)
 (h:∀h' b,Mt a s.heap h'->cb P w h' a (bH ss x)->Q b {s with heap:=h'}):
 Qv (Qw P w) A (setAddHashed a (.str x tk) (hashStr w x)) Q E s:=by
 obtain⟨o,o1,x1,es,ep,t,d1,el,⟨ss',s1,s2⟩,b1,f1,l1,p1⟩:=hS;have hk:(strKind P w).is x (.str x tk)=true:=strKind_is _ _ _ _;have hsc:(L5 x tk).scannable=true:=rfl;have ln:es.size=ss.length:=by rw [<-s2.length_eq,<-qz s1,Jv,JL]
 unfold setAddHashed setAddHashedIn;refine QR (Qq (Q7 o1 d1 f1 ?_));dsimp only;rw [byScan_of hsc b1 el,Ql rfl];unfold setAddByScan;refine Qq (Qq (RK (Qq (wpAny_setScan_of hk o1 d1 f1 el ?_))));have mem:(∃e∈es.toList,(strKind P w).is x e.2=true)↔x∈ss:=by
  rw [<-s2.mem_iff,<-yI s1];constructor
  ·rintro⟨e,he,q⟩;exact⟨e.2,JE.mpr ⟨e,he,rfl⟩,q⟩
  ·rintro⟨v,hv,q⟩;obtain⟨e,he,rfl⟩:=JE.mp hv;exact⟨e,he,q⟩
 cases hr:List.findIdx? (λe=>(strKind P w).is x e.2) es.toList with
 | some j=>
  obtain⟨hj,hp,_⟩:=List.findIdx?_eq_some_iff_getElem.mp hr;have hx:x∈ss:=mem.mp ⟨_,KY hj,hp⟩;refine Qu (Qu ?_);have z:=h s.heap false (Mt.refl a s.heap) (by unfold bH;rw [Ql hx];exact⟨o,o1,x1,es,ep,t,d1,el,⟨ss',s1,s2⟩,b1,f1,l1,p1⟩);have e:s={s with heap:=s.heap}:=by cases s;rfl
  rw [e];exact z
 | none=>
  dsimp only;have hx:x ∉ ss:=λz=>by
   obtain⟨e,he,q⟩:=mem.mpr z;have:=List.findIdx?_eq_none_iff.mp hr e he;rw [q] at this;cases this
  have eS:bH ss x=ss++[x]:=Qk hx;rw [eS] at h;have lp:=layNew_perm t es (hashStr w x) (.str x tk);have lf:=layNew_fits t es (hashStr w x) (.str x tk);have ll:=FA t es (hashStr w x) (.str x tk);generalize layNew t es (hashStr w x) (.str x tk)=L at lp lf ll⊢;obtain⟨es1,t1,wd,gv⟩:=L;dsimp only at lp lf ll⊢;rw [O4] at lp;have el1:ElemsOf (strKind P w) es1.toList:=(el.push hk hsc).perm lp;have sp1:∃ss',QT (es1.toList.map (·.2)) ss'/\ss'.Perm (ss++[x]):=by
   have s3:QT ((es.toList++[(hashStr w x,L5 x tk)]).map (·.2)) (ss'++[x]):=by
    rw [JZ];exact yJ s1
   obtain⟨s4,q1,q2⟩:=sq (lp.map (·.2)) s3;exact⟨s4,q1,q2.trans (s2.append_right _)⟩
  have n1:es1.size=es.size+1:=by rw [<-JL,lp.length_eq];simp
  have b2:es1.size < Ri:=Qj
  have l2:d9 w=true\/t1.led=true:=by rw [ll];exact l1
  have gw:∀(b:Bool)(s₁:Qt)(Q':Unit->Qt->Prop),Q' () s₁->Qv (Qw P w) A (match b with | true=>rule "set.scan.the-table-gave-way" | false=>pure ()) Q' E s₁:=
   λb s₁ Q' z=>by cases b <;> first | exact Qu z | exact RK z
  refine Qq (gw _ _ _ ?_);split
  ·refine Qq ?_;rw [hashByValue_scannable 8 hsc];refine Qu ?_;refine yK gw o1 x1 d1 el1 sp1 b2 (SetTable.fits_plain_off lf) l2 rfl λh' sb S'=>Qu (h h' true sb S')
  ·rename_i hp;refine Qq (Qu ?_);rw [Ql rfl];exact yK gw o1 x1 d1 el1 sp1 b2 lf l2 (by simpa using hp) λh' sb S'=>Qu (h h' true sb S')
end
def nt(val:Nat->Str)(i:Nat):List Str:=((KQ i).map val).foldl bH []
theorem yL(val:Nat->Str)(i:Nat):nt val (i+1)=bH (nt val i) (val i):=by
 unfold nt;rw [Pq,JZ,List.foldl_append];rfl
theorem yM(val:Nat->Str):∀i,(nt val i).length<=i
 | 0=>Jy _
 | i+1=>by
  have ih:=yM val i;rw [yL];unfold bH;split
  ·omega
  ·simp;omega
theorem FH{ss:List Str}{x:Str}(h:ss.Nodup):(bH ss x).Nodup:=by
 unfold bH;split
 ·exact h
 ·rename_i hx;refine MQ.mpr ⟨h,Qo,λa ha b hb=>?_⟩;rw [JJ] at hb;subst hb;intro e;subst e;exact hx ha
theorem FI{ss:List Str}{x y:Str}:y∈bH ss x↔y∈ss\/y=x:=by
 unfold bH;split
 ·rename_i hx;exact⟨.inl,λz=>z.elim id λe=>by subst e;exact hx⟩
 ·simp
theorem ve{y:Str}:∀{l ss:List Str},y∈l.foldl bH ss↔y∈ss\/y∈l
 | [],ss=>by simp
 | a::l,ss=>by rw [L6,ve,FI,JF];exact or_assoc
theorem yN:∀{l ss:List Str},ss.Nodup->(l.foldl bH ss).Nodup
 | [],_,h=>h
 | a::l,_,h=>by rw [L6];exact yN (FH h)
theorem cb.stay{P:QA}{w:QE}{h h':QB}{a:Qs}{ss:List Str}(x:cb P w h a ss)(k:∀o,h.get? a=some o->h'.get? a=some o):cb P w h' a ss:=
 let ⟨o,e,r⟩:=x;⟨o,k o e,r⟩
section
variable {P:QA} {w:QE} {A:QF} {R:Result->Qt->Prop} {I:Qs} {fp wr:List Qs} {G:Array R9->Array R9->Prop} {n:Nat} {Pv:Nat->Qr->Prop} {St:Nat->Qt->Prop}
theorem FJ(W:WalksS P w A.in1 I fp wr G n Pv St)(S:Qs)(hSf:S ∉ fp)(val:Nat->Str)(hval:∀i v,Pv i v->∃t,v= .str (val i) t)(hb:n+1 < Ri):
 ∀(k i:Nat)(s:Qt),n - i=k->i<=n->St i s->cb P w s.heap S (nt val i)->
  (∀s',Moved (S::wr) G s s'->cb P w s'.heap S (nt val n)->R (.ok (.ret .none)) s')->Rc (Qw P w) A (.builtin "set.update.loop" ⟨[.ref S,.ref I],[]⟩) R s:=by
 have sw:S ∉ wr:=λz=>hSf (W.sub _ z);have sub:∀b∈wr,b∈S::wr:=λb z=>Ka _ z;intro k
 induction k with
 | zero=>
  intro i s e1 e2 st hS q;obtain rfl:i=n:=Qj
  refine Q5 M5 ?_;rw [MF My _];show Qv _ A.in1 (Rm (.ref I) >>=_) _ _ s;exact Qq (W.done s _ _ st λs' m=>Qu (q s' (m.mono sub) (hS.stay λo e=>m.heap S o sw e)))
 | succ k ih=>
  intro i s e1 e2 st hS q;have lt:i < n:=Qj
  refine Q5 M5 ?_;rw [MF My _];show Qv _ A.in1 (Rm (.ref I) >>=_) _ _ s;refine Qq (W.item i s _ _ lt st λv s' hP st' m=>?_);obtain⟨t,rfl⟩:=hval i v hP;have hS':=hS.stay (h':=s'.heap) λo e=>m.heap S o sw e;show Qv _ A.in1 (holding [L5 (val i) t] (setAdd S (.str (val i) t)) >>=_) _ _ s';refine Qq (QR ?_);unfold setAdd;refine QR (Qq ((strKind P w).pyHash (k:=val i) (strKind_is _ _ _ _) ?_));have rm:(nt val i).length+1 < Ri:=by have:=yM val i;omega
  refine FG (s:={s' with toks:=s'.toks+1}) hS' rm λh' b sb S2=>?_;rw [<-yL] at S2;refine Qu ⟨RF My _,ih (i+1) _ Qj lt (W.frame _ s' _ _ st' (Oh _) λb hb o e=>?_) S2 λs2 m2 S3=>?_⟩
  ·rw [sb.2 b (λz:b=S=>hSf (by rw [<-z];exact hb))];exact e
  ·refine q s2 (Moved.trans W.gtrans ((m.mono sub).then_heap (Oh _) λb o hb e=>?_) m2) S3;rw [sb.2 b (λz:b=S=>hb (by rw [z];exact Lj))];exact e
end
section
variable {P:QA} {w:QE} {A:QF} {E:Qr->Qt->Prop} {s:Qt}
theorem FK(a:Qr){Q₁:Qr->Qt->Prop}
 (h:Q₁ (.ref s.heap.objs.size) {s with heap:=s.heap.push {cls:= .type "set",dict:=none,data:= .set #[] 0 (.fresh 0 0 (!d9 w))}}):
 Rc (Qw P w) A (.call (.builtin "set.__new__") ⟨[.type "set",a],[]⟩) (wants Q₁ E) s:=by
 refine codeAny_of_tree ?_;show Qv _ A.in1 (R7 "set.__new__" ⟨[.type "set",a],[]⟩ >>=λ_=>again (.builtin "set.__new__" ⟨[.type "set",a],[]⟩)) _ _ s;refine Qq (RU (PySem.F.newCall_set_1 a) (Qu ⟨RF Ol _,Q5 PySem.F.entry_set_new ?_⟩));rw [MF Ol _];unfold Builtin.«set.__new__» Builtin.Frozenset.newClass;have hsb:=sub_set_self;obtain⟨hp,g,d,tk,os⟩:=s;dsimp only
 wp_walk
 refine Ra (Qu ?_);dsimp only;simp only [newObj];exact Qq (wpAny_alloc (Qu (Qu h)))
theorem cb.fresh{h:QB}{a:Qs}(e:h.get? a=some {cls:= .type "set",dict:=none,data:= .set #[] 0 (.fresh 0 0 (!d9 w))}):cb P w h a []:=by
 refine⟨_,e,⟨rfl,rfl,rfl⟩,#[],0,_,rfl,λe he=>by simp at he,⟨[],.nil,.refl _⟩,Qi,rfl,?_,λz=>absurd rfl z⟩;cases hb:d9 w with
 | true=>exact .inl rfl
 | false=>exact .inr rfl
theorem FL{l:Qs}{items:Array Qr}{ss:List Str}{Q:Qr->Qt->Prop}
 (hh:A.handled=none)(hl:s.heap.IsList l items)(hi:QT items.toList ss)(hb:items.size+1 < Ri)
 (h:∀(h':QB) (tk:Nat),cb P w h' s.heap.objs.size (ss.foldl bH [])->(∀b o,s.heap.get? b=some o->h'.get? b=some o)->Q (.ref s.heap.objs.size) {s with heap:=h',toks:=tk}):
 Qv (Qw P w) A (call (.type "set") [.ref l]) Q E s:=by
 obtain⟨c,tl,hmro⟩:=PySem.F.called_set.mro;have hmade:=PySem.F.called_set.made;have hsub:=PySem.F.called_set.sub;refine wpAny_call (codeAny_of_tree ?_);show Qv _ _ (callAny (.type "set") _) _ _ _;refine Qu ⟨OR _ Qh,Q5 PySem.F.entry_type_call ?_⟩;rw [Around.under_plain (weight_type_call_type "set" [.ref l] []) rfl];have h1:=PySem.F.called_set.notType;have h2:=PySem.F.called_set.canCreate;have hct:=PySem.F.typeCall_set_1 (.ref l)
 repeat (any_goals (first | assumption | wp_step))
 generalize hob:({cls:= .type "set",dict:=none,data:= .set #[] 0 (.fresh 0 0 (!d9 w))}:Obj)=ob;refine Q2 (FK (P:=P) (w:=w) (.ref l) (E:=E) (Q₁:=λu s₁=>u= .ref s.heap.objs.size/\s₁={s with heap:=s.heap.push ob}) (by subst hob;exact⟨rfl,rfl⟩)) λr s₁ hr=>?_;cases r with
 | error e=>exact hr
 | ok fl=>
  cases fl with
  | ret u=>
   obtain⟨rfl,rfl⟩:=hr;have hS:(s.heap.push ob).get? s.heap.objs.size=some ob:=JR _ (by subst hob;rfl);have hT:Shared.TypeIs {s with heap:=s.heap.push ob} (.ref s.heap.objs.size) "set":=⟨_,hS,by subst hob;rfl⟩;have hli:=PySem.F.called_set.init.lookup;have hbi:=PySem.F.called_set.init.bind (.ref s.heap.objs.size)
   repeat (any_goals (first | assumption | wp_step))
   refine Q2 (RN (R:=wants (λr s₂=>r= .none/\∃h' tk,s₂={s with heap:=h',toks:=tk}/\cb P w h' s.heap.objs.size (ss.foldl bH [])/\∀b o,s.heap.get? b=some o->h'.get? b=some o) E)
    PySem.F.called_set.init.plain PySem.F.entry_set_init (check_set_init_1 hT ?_)) λr₂ s₂ hr₂=>?_
   ·obtain⟨ol,o1,c1,nl,d1⟩:=hl;obtain⟨oc,od,oda,osl⟩:=ol;simp only at c1 d1;subst c1;subst d1;have o2:(s.heap.push ob).get? l=some {cls:= .type "list",dict:=od,data:= .seq items nl,slots:=osl}:=Jx _ o1;have q1:=PySem.F.sub_list_set;have q2:=PySem.F.sub_list_frozenset;have q3:(MT "list"==MT "dict")=false:=Qi
    have l1:(s.heap.push ob).IsList l items:=⟨_,o2,rfl,nl,rfl⟩;subst hob;unfold Builtin.«set.__init__» noKeywords Builtin.Frozenset.updateFrom;generalize hPI:pyIter=PI
    wp_walk
    subst hPI;refine R3 l1 ?_;refine Qq (wpAny_runValue ?_);have ll:l < s.heap.objs.size:=JC o1;have sz:∀ob:Obj,(s.heap.push ob).objs.size=s.heap.objs.size+1:=λ_=>M7 _ _;have n1:∀ob:Obj,l≠(s.heap.push ob).objs.size:=λ_=>by rw [sz];exact JW (K9 ll)
    have n2:∀ob:Obj,s.heap.objs.size ∉ [(s.heap.push ob).objs.size,l]:=λ_=>by
     rw [sz];simp only [JF,KA,or_false,not_or];exact⟨JW (MJ _),M3 ll⟩
    have hv:∀(i:Nat)(v:Qr),items[i]?=some v->∃t,v= .str ((λi=>(ss[i]?).getD (Jt "")) i) t:=λi v e=>by
     rw [<-Nq] at e;have:∀{vs:List Qr}{ss:List Str},QT vs ss->∀(i:Nat)(v:Qr),vs[i]?=some v->∃t,v= .str ((ss[i]?).getD (Jt "")) t:=by
      intro vs ss x
      induction x with
      | nil=>intro i v e;simp at e
      | cons y t r ih=>
       intro i v e;cases i with
       | zero=>simp at e;exact⟨t,by rw [<-e];rfl⟩
       | succ i=>simp only [J6] at e⊢;exact ih i v e
     exact this hi i v e
    have hm:nt (λi=>(ss[i]?).getD (Jt "")) items.size=ss.foldl bH []:=by
     have e:items.size=ss.length:=by rw [<-qz hi,JL]
     unfold nt;rw [e];congr 1;apply ML Qo;intro i a b;simp at a b⊢;rw [JN Qj];rfl
    refine FJ (Pn (show A.in1.in1.in1.handled=none by simp [hh]) _ l (n1 _) items).toS s.heap.objs.size (n2 _) _ hv hb (items.size - 0) 0 _ Qj (KI _)
     ⟨⟨_,JR _ rfl,rfl,rfl⟩,l1.push _⟩ ?hS0 ?hR
    case hS0=>
     exact cb.fresh (Jx _ hS)
    case hR=>
     intro s' m S';rw [hm] at S';obtain⟨h',g',d',tk',os'⟩:=s';obtain rfl:g'=s.gens:=m.gens;obtain rfl:d'=s.drawn:=m.drawn;obtain rfl:os'=s.os:=m.os;show Qv _ _ _ _ _ _;refine Qu (Qu ⟨rfl,h',tk',rfl,S',λb o e=>?_⟩);have hb1:b < s.heap.objs.size:=JC e;refine m.heap b o ?_ (Jx _ (Jx _ e));rw [sz];simp only [JF,KA,or_false,not_or];exact⟨JW hb1,JW (K9 hb1)⟩
   ·cases r₂ with
    | error e=>exact hr₂
    | ok fl₂=>
     cases fl₂ with
     | ret r=>
      obtain⟨rfl,h',tk,rfl,S',k'⟩:=hr₂
      repeat (any_goals (first | assumption | wp_step))
      exact h _ _ S' k'
     | _=>exact hr₂.elim
  | _=>exact hr.elim
end
theorem mW:Slot "set_iterator" "__next__" "set_iterator.__next__":=
 .of (owner:="set_iterator") (n:="__next__") (by rw [typeLookup_type,builtinLookup_eq_fast];kernel_rfl) Qh Qh Qh
  (by first | exact .inl Qh | exact .inr Qh) (by rw [isSubtype_type];kernel_rfl)
theorem su:entryFor table "set_iterator.__next__"=some Builtin.«set_iterator.__next__»:=entryFor_of_tree (by kernel_rfl)
theorem yO:Manifest.owners.lookup (String.ofList ['r','o','t','a','r','e','t','i','_','t','e','s'].reverse)=some Manifest.sig_set_iterator:=by kernel_rfl
theorem sA(a:Qr):argsOk "set_iterator.__next__" ⟨[a],[]⟩:=by
 unfold argsOk;rw [signature?_of (id:="set_iterator.__next__") (n:=['_','_','t','x','e','n','_','_']) (o:=['r','o','t','a','r','e','t','i','_','t','e','s']) (by kernel_rfl) yO];kernel_rfl
theorem FN:entryFor table "set.__iter__"=some Builtin.«frozenset.__iter__»:=entryFor_alias (id':="frozenset.__iter__") (by kernel_rfl) rfl Qh (by kernel_rfl)
theorem vf{α:Type}:∀{l:List α}{i:Nat}(h:i < l.length),(l[i]::l.eraseIdx i).Perm l
 | a::l,0,h=>.refl _
 | a::l,i+1,h=>by
  have:=vf (l:=l) (i:=i) (by simpa using h);simp only [List.getElem_cons_succ,List.eraseIdx_cons_succ];exact(List.Perm.swap _ _ _).trans (this.cons a)
theorem yP{α:Type}(next:Nat->Nat):∀(f k:Nat)(left:List α)(out:Array α),f=left.length->(pickOrder.go next f k left out).toList.Perm (out.toList++left)
 | 0,k,left,out,e=>by
  rw [Ny e.symm];unfold pickOrder.go;simp
 | f+1,k,left,out,e=>by
  unfold pickOrder.go;have hlt:next k % left.length < left.length:=Nat.mod_lt _ Qj;rw [JN hlt];refine(yP next f (k+1) _ _ (by rw [NN hlt];omega)).trans ?_;rw [O4,NV];exact List.Perm.append_left _ (vf hlt)
theorem FO{α:Type}(next:Nat->Nat)(xs:Array α):(RY next xs).toList.Perm xs.toList:=by
 have:=yP next xs.size 0 xs.toList #[] Qo;simpa [RY] using this
section
variable {P:QA} {w:QE} {A:QF} {E:Qr->Qt->Prop}
theorem yQ{α:Type}:∀(n:Nat)(xs:List α)(s:Qt)(Q:List α->Qt->Prop),n=xs.length->(∀ys d,ys.Perm xs->Q ys {s with drawn:=d})->Qv (Qw P w) A (drawOrder n xs) Q E s
 | 0,xs,s,Q,e,q=>by
  rw [Ny e.symm] at q⊢;unfold drawOrder;exact Qu (q [] s.drawn (.refl _))
 | n+1,[],s,Q,e,q=>by cases e
 | n+1,x::xs,s,Q,e,q=>by
  unfold drawOrder;refine Qq ?_;intro Γ p hΓ;refine⟨Qo,?_⟩;generalize hi:(Qw P w).w.draws .order (s.drawn.get .order)% (x::xs).length=i;have hlt:i < (x::xs).length:=by rw [<-hi];exact Nat.mod_lt _ Qo
  have key:Qv (Qw P w) A (match (x::xs)[i]? with | some y=>(do return y::(<-drawOrder n ((x::xs).eraseIdx i))) | none=>unsupported "internal:drawOrder") Q E {s with drawn:=s.drawn.bump .order}:=by
   rw [JN hlt];refine Qq (yQ n _ _ _ (by rw [NN hlt];simp at e⊢;omega) λys d hp=>Qu (q _ d ?_));exact(hp.cons _).trans (vf hlt)
  exact key
end
def eg(h:QB)(it:Qs)(f:Qr)(i:Nat)(a:Qs)(n ep:Nat):Prop:=∃o,h.get? it=some o/\o.cls= .type "set_iterator"/\o.data= .fields #[f,.int i 0,.ref a,.int n 0,.int ep 0]
theorem eg.typeIs{s:Qt}{it f i a n ep}(x:eg s.heap it f i a n ep):s.TypeIs (.ref it) "set_iterator":=let ⟨o,h,c,_⟩:=x;⟨o,h,c⟩
section
variable {P:QA} {w:QE} {A:QF} {E:Qr->Qt->Prop} {s:Qt} {a:Qs} {o:Obj} {es:Array (Int×Qr)} {ep:Nat} {t:Ru}
theorem yR{slot i:Nat}{Q:Option (Qr×Nat)->Qt->Prop}(hb:d9 w=true)(o1:s.heap.get? a=some o)(d1:o.data= .set es ep t)(f1:t.fits es.size=true)
 (h:Q (((RY (w.params.setOrder a ep) es)[i]?).map λe=>(e.2,slot)) s):Qv (Qw P w) A (RA a slot i ep) Q E s:=by
 unfold RA setWalk setsByText;refine Qq (Q7 o1 d1 f1 (Qq (Qq (Ra (Qu ?_)))));rw [Ql (show(Qw P w).w.params.followText "set-order"=true from hb)];rw [Qk Qo];refine Qq (Qq (Q7 o1 d1 f1 (Qq (Qq (Ra (Qu ?_))))));rw [Ql (show(Qw P w).w.params.followText "set-order"=true from hb)];exact Qq (Ra (Qu (Qu h)))
theorem yS{slot i:Nat}{Q:Option (Qr×Nat)->Qt->Prop}(hb:d9 w=false)(o1:s.heap.get? a=some o)(d1:o.data= .set es ep t)(f1:t.fits es.size=true)(hd:es.size<=1)(hl:t.led=true)
 (h:Q (match es[M9 t.place slot]?,t.place[M9 t.place slot]? with | some (_,x),some j=>some (x,j+1) | _,_=>none) s):Qv (Qw P w) A (RA a slot i ep) Q E s:=by
 unfold RA setsByText;refine Qq (Q7 o1 d1 f1 (Qq (Qq (Ra (Qu ?_)))));rw [Qk (show ¬(Qw P w).w.params.followText "set-order"=true from by show ¬d9 w=true;rw [hb];decide)];show Qv _ _ (if (!t.plain && decide (es.size > 1))=true then _ else _) _ _ _;rw [Qk (by simp;omega)];refine Qq (m:=if (!t.led && !es.isEmpty)=true then unsupported "set:maker-not-led" else pure ()) ?_;rw [Qk (by simp [hl])];exact Qu (Qu h)
theorem FP{it:Qs}{slot slot' i:Nat}{x:Qr}{Q:Option Qr->Qt->Prop}(hit:eg s.heap it (.int slot 0) i a es.size ep)(o1:s.heap.get? a=some o)(d1:o.data= .set es ep t)(f1:t.fits es.size=true)
 (nx:∀E' Q',Q' (some (x,slot')) s->Qv (Qw P w) A.in1 (RA a slot i ep) Q' E' s)
 (hQ:∀h',eg h' it (.int slot' 0) (i+1) a es.size ep->Mt it s.heap h'->Q (some x) {s with heap:=h'}):Qv (Qw P w) A (Rm (.ref it)) Q E s:=by
 obtain⟨u,u1,c1,e1⟩:=id hit;unfold Rm;refine Qq (RG (QU (name:=Jt "__next__") hit.typeIs mW (QQ mW hit.typeIs su ?_ (sA _))));unfold Builtin.«set_iterator.__next__»;refine Qq (m:=slotArgs _ _ _) (Qu (Qq (RS u1 e1 ?_)));show Qv _ _ (setEntries a >>=_) _ _ s;refine Qq (Rb o1 d1 f1 ?_);rw [Qk Qo];show Qv _ _ (RA a ((slot:Int)).toNat ((i:Int)).toNat ((ep:Int)).toNat >>=_) _ _ s;simp only [L4];refine Qq (nx _ _ ?_);show Qv _ _ (setField (.ref it) 0 (Q6 (slot':Int)) >>=_) _ _ s;refine Qq (Rk u1 e1 Qo ?_);have g1:=LS (PK (·.setIfInBounds 0 (Q6 (slot':Int)))) u1 (MR (LU e1 _));have k1:=LU e1 (·.setIfInBounds 0 (Q6 (slot':Int)));refine Qq (Rk g1 k1 Qo (Qu ⟨x,rfl,Qu (hQ _ ?_ ((Kt ..).trans (Kt ..)))⟩));refine⟨_,LS _ g1 (MR (LU k1 _)),(NW ..).trans ((NW ..).trans c1),?_⟩;rw [LU k1];simp [Q6]
theorem FQ{it pl:Qs}{i k:Nat}{hk:Int}{x:Qr}{ol:Obj}{ps:Array Qr}{nl:Nat}{Q:Option Qr->Qt->Prop}(hit:eg s.heap it (.ref pl) i a es.size ep)(o1:s.heap.get? a=some o)(d1:o.data= .set es ep t)(f1:t.fits es.size=true)
 (l1:s.heap.get? pl=some ol)(l2:ol.data= .seq ps nl)(p1:ps[i]?=some (.int (k:Int) 0))(x1:es[k]?=some (hk,x))
 (hQ:∀h',eg h' it (.ref pl) (i+1) a es.size ep->Mt it s.heap h'->Q (some x) {s with heap:=h'}):Qv (Qw P w) A (Rm (.ref it)) Q E s:=by
 obtain⟨u,u1,c1,e1⟩:=id hit;unfold Rm;refine Qq (RG (QU (name:=Jt "__next__") hit.typeIs mW (QQ mW hit.typeIs su ?_ (sA _))));unfold Builtin.«set_iterator.__next__»;refine Qq (m:=slotArgs _ _ _) (Qu (Qq (RS u1 e1 ?_)));show Qv _ _ (setEntries a >>=_) _ _ s;refine Qq (Rb o1 d1 f1 ?_);rw [Qk Qo];show Qv _ _ (seqItems? (.ref pl) >>=_) _ _ s;refine Qq (wpAny_seqItems l1 l2 ?_);simp only [L4,p1];refine Qq ?_;unfold setNextDrawn;refine Qq (Q7 o1 d1 f1 ?_);simp only [L4];rw [Qk Qo,x1];refine Qu (Qq (Rk u1 e1 Qo (Qu ⟨x,rfl,Qu (hQ _ ?_ (Kt ..))⟩)));refine⟨_,LS _ u1 (MR (LU e1 _)),(NW ..).trans c1,?_⟩;rw [LU e1];simp [Q6]
theorem FT{it:Qs}{slot i:Nat}{Q:Option Qr->Qt->Prop}(hh:A.handled=none)(hit:eg s.heap it (.int slot 0) i a es.size ep)(o1:s.heap.get? a=some o)(d1:o.data= .set es ep t)(f1:t.fits es.size=true)
 (nx:∀E' Q',Q' none s->Qv (Qw P w) A.in1 (RA a slot i ep) Q' E' s)
 (hQ:∀h',P8 it s.heap h'->Q none {s with heap:=h'}):Qv (Qw P w) A (Rm (.ref it)) Q E s:=by
 obtain⟨u,u1,c1,e1⟩:=id hit;unfold Rm;refine Qq (RG (QU (name:=Jt "__next__") hit.typeIs mW (QQ mW hit.typeIs su ?_ (sA _))));unfold Builtin.«set_iterator.__next__»;refine Qq (m:=slotArgs _ _ _) (Qu (Qq (RS u1 e1 ?_)));show Qv _ _ (setEntries a >>=_) _ _ s;refine Qq (Rb o1 d1 f1 ?_);rw [Qk Qo];show Qv _ _ (RA a ((slot:Int)).toNat ((i:Int)).toNat ((ep:Int)).toNat >>=_) _ _ s;simp only [L4];refine Qq (nx _ _ ?_);show Qv _ _ (setField (.ref it) 2 .none >>=_) _ _ s;refine Qq (Rk u1 e1 Qo ?_);refine Qq (m:=newExc (.type "StopIteration") []) ?_;simp only [newExc,newTuple];refine Qq (QG ?_ (by size_fits));refine Qq (m:=RT _ _) (RU (a:=Mg) (by first | rfl | (simp only [RT];rfl)) ?_);refine QG ?_ (by size_fits);simp only [raiseNew];refine Qq (wpAny_handled ?_);rw [show A.in1.handled=none from hh];refine Qq (Qu (wpAny_throw ?_));refine Qq (R8 (T:="StopIteration") (b:=true) ⟨_,JR _ rfl,rfl⟩ isSubtype_stop ?_);exact Qu (hQ _ (((Kt ..).extBut.push _).push _))
theorem FU{it pl:Qs}{i:Nat}{ol:Obj}{ps:Array Qr}{nl:Nat}{Q:Option Qr->Qt->Prop}(hh:A.handled=none)(hit:eg s.heap it (.ref pl) i a es.size ep)(o1:s.heap.get? a=some o)(d1:o.data= .set es ep t)(f1:t.fits es.size=true)
 (l1:s.heap.get? pl=some ol)(l2:ol.data= .seq ps nl)(p1:ps[i]?=none)
 (hQ:∀h',P8 it s.heap h'->Q none {s with heap:=h'}):Qv (Qw P w) A (Rm (.ref it)) Q E s:=by
 obtain⟨u,u1,c1,e1⟩:=id hit;unfold Rm;refine Qq (RG (QU (name:=Jt "__next__") hit.typeIs mW (QQ mW hit.typeIs su ?_ (sA _))));unfold Builtin.«set_iterator.__next__»;refine Qq (m:=slotArgs _ _ _) (Qu (Qq (RS u1 e1 ?_)));show Qv _ _ (setEntries a >>=_) _ _ s;refine Qq (Rb o1 d1 f1 ?_);rw [Qk Qo];show Qv _ _ (seqItems? (.ref pl) >>=_) _ _ s;refine Qq (wpAny_seqItems l1 l2 ?_);simp only [L4,p1];show Qv _ _ (setField (.ref it) 0 (Q6 0) >>=_) _ _ s;refine Qq (Rk u1 e1 Qo ?_);have g1:=LS (PK (·.setIfInBounds 0 (Q6 0))) u1 (MR (LU e1 _));have k1:=LU e1 (·.setIfInBounds 0 (Q6 0));refine Qq (Rk g1 k1 Qo ?_);refine Qq (m:=newExc (.type "StopIteration") []) ?_;simp only [newExc,newTuple];refine Qq (QG ?_ (by size_fits));refine Qq (m:=RT _ _) (RU (a:=Mg) (by first | rfl | (simp only [RT];rfl)) ?_);refine QG ?_ (by size_fits);simp only [raiseNew];refine Qq (wpAny_handled ?_);rw [show A.in1.handled=none from hh];refine Qq (Qu (wpAny_throw ?_));refine Qq (R8 (T:="StopIteration") (b:=true) ⟨_,JR _ rfl,rfl⟩ isSubtype_stop ?_);exact Qu (hQ _ ((((Kt ..).trans (Kt ..)).extBut.push _).push _))
end
theorem yT:Slot "set_iterator" "__iter__" "set_iterator.__iter__":=
 .of (owner:="set_iterator") (n:="__iter__") (by rw [typeLookup_type,builtinLookup_eq_fast];kernel_rfl) Qh Qh Qh
  (by first | exact .inl Qh | exact .inr Qh) (by rw [isSubtype_type];kernel_rfl)
theorem FV:entryFor table "set_iterator.__iter__"=some Builtin.«dict_keyiterator.__iter__»:=entryFor_alias (id':="dict_keyiterator.__iter__") (by kernel_rfl) rfl Qh (by kernel_rfl)
theorem FW(a:Qr):argsOk "set_iterator.__iter__" ⟨[a],[]⟩:=by
 unfold argsOk;rw [signature?_of (id:="set_iterator.__iter__") (n:=['_','_','r','e','t','i','_','_']) (o:=['r','o','t','a','r','e','t','i','_','t','e','s']) (by kernel_rfl) yO];kernel_rfl
theorem eg.at{h h':QB}{it f i a n ep}(x:eg h it f i a n ep)(e:∀o,h.get? it=some o->h'.get? it=some o):eg h' it f i a n ep:=let ⟨o,ho,r⟩:=x;⟨o,e _ ho,r⟩
section
variable {P:QA} {w:QE} {A:QF} {E:Qr->Qt->Prop} {s:Qt} {a:Qs} {o:Obj} {es:Array (Int×Qr)} {ep:Nat} {t:Ru}
theorem yU{it:Qs}{f:Qr}{i n:Nat}{Q:Qr->Qt->Prop}(hit:eg s.heap it f i a n ep)(h:Q (.ref it) s):Qv (Qw P w) A (pyIter (.ref it)) Q E s:=by
 refine wpAny_pyIter_slot hit.typeIs yT (QQ yT hit.typeIs FV ?_ (FW _));exact Qq (m:=slotArgs _ _ _) (Qu (Qu ⟨_,rfl,"set_iterator",_,hit.typeIs,mW.lookup,h⟩))
theorem yV(hh:A.handled=none)(it:Qs)(hne:a≠it)(d1:o.data= .set es ep t)(f1:t.fits es.size=true)(vs:List Qr)(hl:vs.length=es.size)(sl:Nat->Nat)
 (nx:∀(s:Qt) (i:Nat) (h:i < vs.length) E' Q',s.heap.get? a=some o->Q' (some (vs[i],sl (i+1))) s->Qv (Qw P w) A.in1 (RA a (sl i) i ep) Q' E' s)
 (nd:∀(s:Qt) E' Q',s.heap.get? a=some o->Q' none s->Qv (Qw P w) A.in1 (RA a (sl es.size) es.size ep) Q' E' s):
 Walks P w A it [it,a] [it] es.size (λi v=>vs[i]?=some v) (λi h=>eg h it (.int (sl i:Nat) 0) i a es.size ep/\h.get? a=some o) where
 sub:=λb hb=>by rw [JJ] at hb;simp [hb]
 frame:=λ_ _ _ st hk=>⟨st.1.at λo e=>hk it Qo o e,hk a Qo o st.2⟩
 item:=λi s Q E hi st hQ=>by
  have hi':i < vs.length:=Qj
  refine FP st.1 st.2 d1 f1 (λE' Q' q=>nx s i hi' E' Q' st.2 q) λh' it' sb=>?_;exact hQ _ h' s.toks (by simp [hi']) ⟨it',by rw [sb.2 a hne];exact st.2⟩ λb u hb e=>sb.extBut b u (λz=>hb (by simp [z])) e
 done:=λs Q E st hQ=>FT hh st.1 st.2 d1 f1 (λE' Q' q=>nd s E' Q' st.2 q) λh' he=>hQ h' s.toks λb u hb e=>he b u (λz=>hb (by simp [z])) e
 self:=λ_ _ _ _ st hQ=>yU st.1 hQ
theorem FX(hh:A.handled=none)(it pl:Qs)(hne:a≠it)(hnp:pl≠it)(d1:o.data= .set es ep t)(f1:t.fits es.size=true)(vs:List Qr)(ks:List Nat){ol:Obj}{nl:Nat}(l2:ol.data= .seq (ks.map λ(k:Nat)=>MG (k:Int) 0).toArray nl)
 (hl:ks.length=es.size)(hv:∀i k:Nat,ks[i]?=some k->∃h x,es[k]?=some (h,x)/\vs[i]?=some x):
 Walks P w A it [it,a,pl] [it] es.size (λi v=>vs[i]?=some v) (λi h=>eg h it (.ref pl) i a es.size ep/\h.get? a=some o/\h.get? pl=some ol) where
 sub:=λb hb=>by rw [JJ] at hb;simp [hb]
 frame:=λ_ _ _ st hk=>⟨st.1.at λo e=>hk it Qo o e,hk a Qo o st.2.1,hk pl Qo ol st.2.2⟩
 item:=λi s Q E hi st hQ=>by
  have hi':i < ks.length:=Qj
  obtain⟨h,x,e1,e2⟩:=hv i ks[i] (by simp [hi']);refine FQ st.1 st.2.1 d1 f1 st.2.2 l2 (k:=ks[i]) (by simp [hi']) e1 λh' it' sb=>?_;exact hQ _ h' s.toks e2 ⟨it',by rw [sb.2 a hne];exact st.2.1,by rw [sb.2 pl hnp];exact st.2.2⟩ λb u hb e=>sb.extBut b u (λz=>hb (by simp [z])) e
 done:=λs Q E st hQ=>FU hh st.1 st.2.1 d1 f1 st.2.2 l2 (by simp [hl]) λh' he=>hQ h' s.toks λb u hb e=>he b u (λz=>hb (by simp [z])) e
 self:=λ_ _ _ _ st hQ=>yU st.1 hQ
theorem yW{j k:Nat}:M9 #[j] k=if j < k then 1 else 0:=by
 unfold M9;show O5 #[j] k 1 0 1=_;simp [O5]
theorem FY{ss:List Str}{Q:Qr->Qt->Prop}(hh:A.handled=none)(hS:cb P w s.heap a ss)
 (q:∀(I:Qs) (h1:QB) (d1:Drawn) (vs:List Qr) (fp wr:List Qs) (n:Nat) (St:Nat->QB->Prop),(∀b u,s.heap.get? b=some u->h1.get? b=some u)->(∃ss',QT vs ss'/\ss'.Perm ss)->n=ss.length->
  Walks P w A I fp wr n (λi v=>vs[i]?=some v) St->St 0 h1->(∀b∈fp,b=a\/s.heap.objs.size<=b)->(∀b∈wr,s.heap.objs.size<=b)->vs.length=n->(∀b∈fp,b < h1.objs.size)->Q (.ref I) {s with heap:=h1,drawn:=d1}):
 Qv (Qw P w) A (pyIter (.ref a)) Q E s:=by
 obtain⟨o,o1,x1,es,ep,t,d1,el,⟨ss',s1,s2⟩,b1,f1,l1,p1⟩:=hS;have hT:s.TypeIs (.ref a) "set":=⟨o,o1,x1.1⟩;have la:a < s.heap.objs.size:=JC o1;have ln:es.size=ss.length:=by rw [<-s2.length_eq,<-qz s1,Jv,JL]
 refine wpAny_pyIter_slot hT Om (QQ Om hT FN ?_ (PySem.F.args_set_iter_1 _));unfold Builtin.«frozenset.__iter__»;refine Qq (m:=Builtin.Frozenset.slot0 _ _) (Qu ?_);refine Qq (m:=Builtin.Frozenset.sizeOf a) (Qq (Rb o1 d1 f1 (Qu ?_)));refine Qq (m:=setDrawn a) ?_;unfold setDrawn setsByText;refine Qq (Q7 o1 d1 f1 (Qq (Qq (Ra (Qu (Qu ?_))))));show Qv _ _ (if (!(d9 w) && (!t.plain && decide (es.size > 1)))=true then _ else _) _ _ _;have lastly:∀(f:Qr)(h1:QB)(d:Drawn),h1.get? a=some o->(∀I h2,h2=h1.push {cls:= .type "set_iterator",data:= .fields #[f,.int (0:Nat) 0,.ref a,.int es.size 0,.int ep 0]}->I=h1.objs.size->Q (.ref I) {s with heap:=h2,drawn:=d})->
  Qv (Qw P w) A.in1 (setEpoch a >>=λe=>newFields "set_iterator" [f,Q6 0,.ref a,Q6 es.size,Q6 e] >>=λv=>ret v)
   (λfin s'=>∃v,fin= .done (.ret v)/\∃T' r,s'.TypeIs v T'/\typeLookup (.type T') "__next__"=pure (some r)/\Q v s') E {s with heap:=h1,drawn:=d}:=by
  intro f h1 d e1 k;refine Qq (wpAny_setEpoch_of (s:={s with heap:=h1,drawn:=d}) e1 d1 f1 ?_);refine Qq (QG (Qu ?_));exact⟨_,rfl,"set_iterator",_,⟨_,JR _ rfl,rfl⟩,mW.lookup,k _ _ rfl rfl⟩
 have szp:∀(h:QB)(ob:Obj),(h.push ob).objs.size=h.objs.size+1:=λ_ _=>M7 _ _;have n0:a≠s.heap.objs.size:=JW la;by_cases hdr:(!(d9 w) && (!t.plain && decide (es.size > 1)))=true
 ·rw [Ql hdr];refine Qq (yQ es.size (KQ es.size) s _ Qo λks d hp=>Qq (m:=newTuple _) (QG ?_ ?_))
  ·have lk:ks.length=es.size:=by rw [hp.length_eq,ME]
   refine lastly _ (s.heap.push _) d (Jx _ o1) λI h2 e2 eI=>?_;subst e2 eI;have k1:a≠(s.heap.push {cls:= .type "tuple",data:= .seq (ks.map λ(i:Nat)=>Q6 i).toArray}).objs.size:=by rw [szp];exact JW (K9 la)
   have k2:s.heap.objs.size≠(s.heap.push {cls:= .type "tuple",data:= .seq (ks.map λ(i:Nat)=>Q6 i).toArray}).objs.size:=by rw [szp];exact JW (MJ _)
   have pm:(ks.map λk=>((es[k]?).map (·.2)).getD .none).Perm (es.toList.map (·.2)):=by
    refine(hp.map _).trans (.of_eq ?_);apply ML Qo;intro i a b;simp at a b⊢;rw [MY a];rfl
   obtain⟨ss2,q3,q4⟩:=sq pm s1;refine q _ _ d _ _ _ es.size _ (λb u e=>Jx _ (Jx _ e)) ⟨ss2,q3,q4.trans s2⟩ ln
    (FX hh _ _ k1 k2 d1 f1 _ ks rfl lk (λi k e=>?_)) ⟨⟨_,JR _ rfl,rfl,rfl⟩,Jx _ (Jx _ o1),Jx _ (JR _ rfl)⟩ (λb hb=>?_) (λb hb=>?_) (by simp [lk]) (λb hb=>?_)
   ·have hk:k < es.size:=by
     have:=hp.mem_iff.mp (JQ e);simpa using this
    refine⟨es[k].1,es[k].2,by simp [hk],?_⟩;rw [JD,e];simp [hk]
   ·simp only [JF,KA,or_false] at hb;rcases hb with rfl | rfl | rfl
    ·right;rw [szp];exact Oh _
    ·left;rfl
    ·right;exact Jy _
   ·rw [JJ] at hb;rw [hb,szp];exact Oh _
   ·simp only [JF,KA,or_false] at hb;rw [szp,szp];rcases hb with rfl | rfl | rfl
    ·rw [szp];exact MJ _
    ·exact K9 (K9 la)
    ·exact K9 (MJ _)
  ·unfold sizeOk;simp [hp.length_eq];have:Ri=4096:=rfl;have:Qz=16777216:=by first | rfl | exact QK
   omega
 ·rw [Qk hdr];refine Qq (Qu ?_);have e0:s={s with heap:=s.heap,drawn:=s.drawn}:=by cases s;rfl
  show Qv _ _ _ _ _ {s with heap:=s.heap,drawn:=s.drawn};refine lastly _ s.heap s.drawn o1 λI h2 e2 eI=>?_;subst e2 eI;have fpa:∀b∈[s.heap.objs.size,a],b=a\/s.heap.objs.size<=b:=λb hb=>by
   simp only [JF,KA,or_false] at hb;rcases hb with rfl | rfl
   ·right;exact Jy _
   ·left;rfl
  have wra:∀b∈[s.heap.objs.size],s.heap.objs.size<=b:=λb hb=>by rw [JJ] at hb;rw [hb];exact Jy _
  have fpl:∀(ob:Obj),∀b∈[s.heap.objs.size,a],b < (s.heap.push ob).objs.size:=λob b hb=>by
   rw [szp];simp only [JF,KA,or_false] at hb;rcases hb with rfl | rfl
   ·exact MJ _
   ·exact K9 la
  cases hb:d9 w with
  | true=>
   have pm:=FO (w.params.setOrder a ep) es;obtain⟨ss2,q3,q4⟩:=sq (pm.map (·.2)) s1;have lp:((RY (w.params.setOrder a ep) es).toList.map (·.2)).length=es.size:=by rw [Jv,pm.length_eq,JL]
   refine q _ _ s.drawn _ _ _ es.size _ (λb u e=>Jx _ e) ⟨ss2,q3,q4.trans s2⟩ ln
    (yV hh _ n0 d1 f1 _ lp (λ_=>0) (λs i hi E' Q' g z=>yR hb g d1 f1 ?_) (λs E' Q' g z=>yR hb g d1 f1 ?_)) ⟨⟨_,JR _ rfl,rfl,rfl⟩,Jx _ o1⟩ fpa wra lp (fpl _)
   ·have hi':i < (RY (w.params.setOrder a ep) es).size:=by rw [<-JL,<-Jv (f:=(·.2))];exact hi
    rw [MY hi'];simpa using z
   ·have:(RY (w.params.setOrder a ep) es).size=es.size:=by rw [<-JL,pm.length_eq,JL]
    rw [Ni Qj];exact z
  | false=>
   have hled:t.led=true:=by
    rcases l1 with l1 | l1
    ·rw [hb] at l1;cases l1
    ·exact l1
   have hsz:es.size<=1:=by
    rcases Mw 1 es.size with z | z
    ·exfalso;apply hdr;rw [hb,p1 Qj];simpa using z
    ·exact z
   have hpl:t.place.size=es.size:=by
    simp only [SetTable.fits,Kn,beq_iff_eq] at f1;exact f1.1
   have lp:(es.toList.map (·.2)).length=es.size:=by rw [Jv,JL]
   refine q _ _ s.drawn _ _ _ es.size _ (λb u e=>Jx _ e) ⟨ss',s1,s2⟩ ln
    (yV hh _ n0 d1 f1 _ lp (λi=>if i=0 then 0 else t.place.getD 0 0+1) (λs i hi E' Q' g z=>yS hb g d1 f1 hsz hled ?_) (λs E' Q' g z=>yS hb g d1 f1 hsz hled ?_)) ⟨⟨_,JR _ rfl,rfl,rfl⟩,Jx _ o1⟩ fpa wra lp (fpl _)
   ·have i0:i=0:=Qj
    subst i0;have h1:es.size=1:=Qj
    obtain⟨j,hj⟩:∃j,t.place=#[j]:=by
     have:t.place.toList.length=1:=by rw [JL];omega
     match hq:t.place.toList,this with
     | [j],_=>exact⟨j,by rw [<-Ov (xs:=t.place),hq]⟩
    rw [hj] at z⊢;rw [Ql rfl,yW,Qk Qj];have:es[0]?=some es[0]:=by simp [h1]
    rw [this];simpa using z
   ·have hn:es[M9 t.place (if es.size=0 then 0 else t.place.getD 0 0+1)]?=none:=by
     by_cases h0:es.size=0
     ·rw [Ni Qj]
     ·have h1:es.size=1:=Qj
      obtain⟨j,hj⟩:∃j,t.place=#[j]:=by
       have:t.place.toList.length=1:=by rw [JL];omega
       match hq:t.place.toList,this with
       | [j],_=>exact⟨j,by rw [<-Ov (xs:=t.place),hq]⟩
      rw [hj,Qk h0,yW,Ql Qo];rw [Ni Qj]
    rw [hn];exact z
end
section
variable {P:QA} {w:QE} {A:QF} {E:Qr->Qt->Prop} {s:Qt} {a:Qs}
theorem FZ{Q:Bool->Qt->Prop}(hT:s.TypeIs (.ref a) "set")(h:Q false s):Qv (Qw P w) A (NJ (.ref a)) Q E s:=by
 unfold NJ;refine Qq (wpAny_specialOf hT PySem.F.slot_set_len.lookup ?_);generalize hid:("set.__len__":String)=id0
 wp_delta
 rw [show splitId id0=some ("set","__len__") from by subst hid;decide+kernel];subst hid;refine Qq (R8 (T:="set") (b:=true) hT (by rw [isSubtype_type];kernel_rfl) ?_);refine RO (λz=>absurd z Qi) (λ_=>?_);refine RO (λ_=>?_) (λz=>absurd Qh z);exact Qq (Rt hT (Qu h))
theorem F0{ss:List Str}{R:Result->Qt->Prop}(hh:A.handled=none)(hS:cb P w s.heap a ss)(S:Qs)(hSa:S≠a)(res:Qr)(c₀:Nat)(l1:s.heap.get? S=some {cls:= .type "list",data:= .seq #[] c₀})(hn:ss.length<=4096)
 (hR:∀h' tk d acc c',(∀b u,b≠S->s.heap.get? b=some u->h'.get? b=some u)->h'.get? S=some {cls:= .type "list",dict:=none,data:= .seq acc c',slots:=#[]}->(∃ss',QT acc.toList ss'/\ss'.Perm ss)->R (.ok (.ret res)) {s with heap:=h',toks:=tk,drawn:=d}):
 Qv (Qw P w) A.in1 (NK (.ref S) (.ref a) res)
  (λfin s'=>match fin with | .done f=>R (.ok f) s' | .again c'=>c'.quiet=true/\Rc (Qw P w) A c' R s') (λe s'=>R (.error e) s') s:=by
 obtain⟨o,o1,x1,rest⟩:=id hS;have hT:s.TypeIs (.ref a) "set":=⟨o,o1,x1.1⟩;have lS:S < s.heap.objs.size:=JC l1;unfold NK;refine Qq (Rt hT ?_);have e1:N5 (.ref S) (.ref a)=false:=by simp [N5,hSa]
 have e2:(MT "set"==MT "list")=false:=Qi
 have e3:(MT "set"==MT "tuple")=false:=Qi
 simp only [e1,e2,e3,Lf,Kh,if_false];refine Qq (FY (A:=A.in1) hh hS λI h1 d1 vs fp wr n St k1 sv en W st hf hw hlv hfl=>?_);have nf:S ∉ fp:=λz=>by
  rcases hf S z with e | e
  ·exact hSa e
  ·exact absurd lS (Nat.not_lt.mpr e)
 have key:∀(h:QB)(c₁ tk:Nat),St 0 h->(∀b u,b≠S->s.heap.get? b=some u->h.get? b=some u)->
  h.get? S=some {cls:= .type "list",data:= .seq #[] c₁}->Rc (Qw P w) A (.builtin "list.extend.loop" ⟨[.ref S,.ref I,res],[]⟩) R {s with heap:=h,toks:=tk,drawn:=d1}:=by
  intro h c₁ tk hst hk g;refine codeAny_extend_loopS W.toS (Km (by omega:n<=4096) Qi) S nf res n 0 _ #[] c₁ rfl (KI _) hst g (ItemsOf.nil _) λs' acc c' m gq hacc=>?_;obtain⟨h',g',d',tk',os'⟩:=s';obtain rfl:g'=s.gens:=m.gens;obtain rfl:d'=d1:=m.drawn;obtain rfl:os'=s.os:=m.os;refine hR h' tk' d' acc c' (λb u hb e=>m.heap b u (λz=>?_) (hk b u hb e)) gq ?_
  ·rcases JF.mp z with e' | z
   ·exact hb e'
   ·exact absurd (JC e) (Nat.not_lt.mpr (hw b z))
  ·have ea:acc.toList=vs:=by
    apply List.ext_getElem?;intro i;rcases Mw i n with z | z
    ·have hz:i < acc.size:=by rw [hacc.1];exact z
     have:acc[i]?=some acc[i]:=MY hz;rw [Nq,this,hacc.2 i _ this]
    ·rw [LR (by rw [JL,hacc.1];exact z),LR Qj]
   rw [ea];exact sv
 have g1:=k1 S _ l1;refine Qq (QR (FZ (s:={s with heap:=h1,drawn:=d1}) ⟨o,k1 a o o1,x1.1⟩ ?_));refine RO (λ_=>?_) (λ_=>Qu ⟨RF N0 _,key _ c₀ _ st (λb u _ e=>k1 b u e) g1⟩);refine Qq (RK (Qq ?_));show Qv _ _ (updateSeq S (·.push .none) >>=λ_=>updateSeq S (·.pop)) _ _ {s with heap:=h1,drawn:=d1};refine Qq (wpAny_updateSeq g1 rfl ?_);have g2:=LS (KR (·.push Mg)) g1 rfl;refine wpAny_updateSeq (hz:=by seq_fits) g2 rfl ?_;have g3:=LS (KR (·.pop)) g2 rfl;refine Qu ⟨RF N0 _,key _ _ _ (W.frame 0 _ _ st λb hb u e=>?_) (λb u hb e=>?_) g3⟩
 ·have hbS:b≠S:=λz=>nf (z▸hb);exact(Mr _ _ (Ne.symm hbS)).trans ((Mr _ _ (Ne.symm hbS)).trans e)
 ·exact(Mr _ _ (Ne.symm hb)).trans ((Mr _ _ (Ne.symm hb)).trans (k1 b u e))
theorem F1{ss:List Str}{R:List Qr->Qt->Prop}(hh:A.handled=none)(hS:cb P w s.heap a ss)(hn:ss.length<=4096)
 (h:∀(h':QB) (tk:Nat) (d:Drawn) (vs:List Qr),(∀b u,s.heap.get? b=some u->h'.get? b=some u)->(∃ss',QT vs ss'/\ss'.Perm ss)->R vs {s with heap:=h',toks:=tk,drawn:=d}):
 Qv (Qw P w) A (collect (.ref a)) R E s:=by
 have la:a < s.heap.objs.size:=by obtain⟨o,o1,_⟩:=id hS;exact JC o1
 unfold collect;refine Qq (wpAny_runValue (Q5 entry_proto_collect' ?_));rw [MF PySem.F.plain_proto_collect _];refine Qq (m:=newList []) (QG ?_);refine Qu ⟨RF N9 _,Q5 entry_list_iadd' ?_⟩;rw [MF N9 _];have g1:(s.heap.push {cls:= .type "list",data:= .seq ([]:List Qr).toArray}).get? s.heap.objs.size=some {cls:= .type "list",data:= .seq #[]}:=JR _ rfl;have key:=F0 (A:=A) (s:={s with heap:=s.heap.push {cls:= .type "list",data:= .seq ([]:List Qr).toArray}})
  (R:=λ(q:Result) (s':Qt)=>∃(h':QB)(tk:Nat)(d:Drawn)(acc:Array Qr)(c':Nat),q= .ok (.ret (.ref s.heap.objs.size))/\s'={s with heap:=h',toks:=tk,drawn:=d}/\
   (∀b u,s.heap.get? b=some u->h'.get? b=some u)/\h'.get? s.heap.objs.size=some {cls:= .type "list",dict:=none,data:= .seq acc c',slots:=#[]}/\(∃ss',QT acc.toList ss'/\ss'.Perm ss))
  hh (hS.stay λu e=>Jx _ e) s.heap.objs.size (M3 la) (.ref s.heap.objs.size) 0 g1 hn
  (λh' tk d acc c' hk g' hacc=>⟨h',tk,d,acc,c',rfl,rfl,λb u e=>hk b u (JW (JC e)) (Jx _ e),g',hacc⟩)
 refine QM key (λfin s' x=>?_) λe s' x=>?_
 ·cases fin with
  | done f=>
   obtain⟨h',tk,d,acc,c',e,rfl,hk,g',hacc⟩:=x;cases e;exact Qq (m:=load s.heap.objs.size) (wpAny_load g' (Qu (h h' tk d acc.toList hk hacc)))
  | again c₁=>
   refine⟨x.1,Q2 x.2 λq s₂ y=>?_⟩;obtain⟨h',tk,d,acc,c',rfl,rfl,hk,g',hacc⟩:=y;exact Qq (m:=load s.heap.objs.size) (wpAny_load g' (Qu (h h' tk d acc.toList hk hacc)))
 ·obtain⟨_,_,_,_,_,e',_⟩:=x;cases e'
theorem F2{ss:List Str}{Q:Qr->Qt->Prop}(hh:A.handled=none)(hS:cb P w s.heap a ss)(hn:ss.length < 64)
 (h:∀(h' h2:QB) (tk:Nat) (d:Drawn) (out:Array Qr) (e:Nat) (ss':List Str),(∀b o,s.heap.get? b=some o->h'.get? b=some o)->(∀b o,h'.get? b=some o->h2.get? b=some o)->h2.get? h'.objs.size=some (QJ "list" out e)->QT out.toList ss'->ss'.Perm ss->sortedS ss'=true->Q (.ref h'.objs.size) {s with heap:=h2,toks:=tk,drawn:=d}):
 Qv (Qw P w) A (call (.builtin "sorted") [.ref a]) Q E s:=by
 refine MX kind_sorted plain_sorted entry_sorted (args_sorted1 _) ?_;unfold Builtin.«sorted»;refine Qq (m:=checkCount "sorted" 1 1 _) (Qu ?_);refine Qq (F1 (A:=A.in1) hh hS Qj λh' tk d vs hk ⟨s1,sv,sp⟩=>?_);have hl:vs.length=ss.length:=by rw [qz sv,sp.length_eq]
 refine Qq (Ro ?_);have hoL:(h'.push (QJ "list" vs.toArray 0)).get? h'.objs.size=some (QJ "list" vs.toArray 0):=JR _ rfl;refine Qq (QR (QQ RR ⟨_,hoL,rfl⟩ RP (list_sort_treeK (s:={s with heap:=h'.push (QJ "list" vs.toArray 0),toks:=tk,drawn:=d}) strKind_oneLt hoL sv.keysOf (λv₁ v₂ rest e=>keyKind_strs (by rw [<-e];exact sv)) (by rw [hl];exact hn) λst' a1 a2=>⟨_,rfl,?_⟩) (args_list_sort _)));obtain⟨ss',h1,h2,h3⟩:=sorted_out_str sv a1 a2;obtain⟨e,he⟩:=sortedHeap_at (n:=0) (vs:=vs) (out:=(arrOf st').map (·.2)) hoL;refine Qu ⟨_,rfl,h h' _ tk d _ e ss' hk (λb o q=>?_) he h1 (h2.trans sp) h3⟩;have hlt:b < h'.objs.size:=JC q;rw [sortedHeap_old (JW hlt) (by rw [size_push'];exact K9 hlt),OZ _ _ _ (JW hlt)];exact q
end
def vg(P:QA)(w:QE)(a:Qs)(ss:List Str):HO:= .ext λh=>cb P w h a ss
theorem aa.drw{X:Cx}{Sb:List (Qs×Obj)}{σ:List (Option V)}{H:Hp}{s:Qt}{d:Drawn}(I:aa X Sb σ H s):aa X Sb σ H {s with drawn:=d}:=⟨I.ok,I.os,I.bare,I.base,I.loc,I.cell,I.free,I.freeC,I.pin,I.hok,I.len⟩
theorem F3{X:Cx}:cj X (.type "set") (λxs H Q=>X.calm=true/\∃(p:Qs)(ss:List Str),xs=[.ref p]/\aS X.K H p (ss.map V.str)/\ss.length < 64/\∀l,H l=none->Q (.ref l) (ao H l (vg X.prog X.w l (ss.foldl bH [])))):=by
 intro Sb s σ H xs us Q I r h;obtain⟨hc,p,ss,rfl,hq,h64,q⟩:=h;obtain⟨u,rfl,rx⟩:=dR r;cases rx;obtain⟨its,rv,pl,hz⟩:=I.list hq;have hlen:=rv.length;rw [Jv] at hlen;refine FL (I.ok.hd hc) pl.isList (by simpa using yq rv) (by have:Ri=4096:=rfl;simp;omega) λh' tk S' k'=>?_;refine⟨.ref _,_,I.laid (t':=tk) (o:=vg X.prog X.w _ (ss.foldl bH [])) k' (Jy _) ?_,rfl,q _ (I.hok.fresh (Jy _))⟩;obtain⟨o,e,_⟩:=id S';exact⟨S',⟨o,e⟩,λh1 h2 x k=>x.stay k⟩
theorem F4{X:Cx}:cj X (.builtin "sorted") (λxs H Q=>X.calm=true/\∃(a:Qs)(ss:List Str),xs=[.ref a]/\H a=some (vg X.prog X.w a ss)/\ss.length < 64/\∀l,H l=none->Q (.ref l) (ao H l (.lst ((bV ss).map V.str)))):=by
 intro Sb s σ H xs us Q I r h;obtain⟨hc,a,ss,rfl,ha,h64,q⟩:=h;obtain⟨u,rfl,rx⟩:=dR r;cases rx;obtain⟨hS,_⟩:=I.hok a _ ha;refine F2 (I.ok.hd hc) hS h64 λh' h2 tk d out e ss' k1 k2 at2 s1 s2 s3=>?_;have es:ss'=bV ss:=x8 s2 (yp _ s3);subst es;have hl2:(bV ss).length=ss.length:=s2.length_eq;have I1:aa X Sb σ H {s with heap:=h',toks:=tk,drawn:=d}:=(I.kept (t':=tk) k1).drw;refine⟨.ref _,_,I1.laid (t':=tk) (o:= .lst ((bV ss).map V.str)) k2 (Jy _) ?_,rfl,q _ (I1.hok.fresh (Jy _))⟩;refine⟨by rw [Jv,hl2];exact Km (Ms h64) Qi,out.toList,e,uY s1,?_⟩;rw [at2]
theorem sC:∀(l ss:List Str),(l.foldl bH ss).length<=ss.length+l.length
 | [],ss=>by simp
 | a::l,ss=>by
  have:=sC l (bH ss a);have h:(bH ss a).length<=ss.length+1:=by unfold bH;split <;> simp
  simp only [L6,JS];omega
theorem F5:QL "set"=some (.type "set"):=Qh
section
variable {X:Cx} {H0:Hp} {O0:Ex}
def hG(t:DA):DA:=λδ Q=>t δ λds=>∃ss:List Str,ds=[.list (ss.map .str)]/\ss.length < 64/\Q ((bV (ss.foldl bH [])).map .str)
theorem yX{a:Qx}{t:DA}{np p np' p':Pos}(hc:X.calm=true)(hg:Gl X "sorted")(hm:X.mg "sorted"=none)(hv:QL "sorted"=some (.builtin "sorted"))(hg':Gl X "set")(hm':X.mg "set"=none)(ha:PA X [a] (fF X.K H0 O0 t))
 (he:Qy [a] X.env=(false,eval a X.env)::Qy [] X.env:=by rfl)(hpl:(QN p' (Qy [] X.env)).any (·.1)=false:=by rfl)
 (he':Qy [.Call (.Name "set" np') [a] [] p'] X.env=(false,eval (.Call (.Name "set" np') [a] [] p') X.env)::Qy [] X.env:=by rfl)(hpl':(QN p (Qy [] X.env)).any (·.1)=false:=by rfl):
 FE X H0 O0 (.Call (.Name "sorted" np) [.Call (.Name "set" np') [a] [] p'] [] p) (hG t):=
 (bI F4 hg hm hv (bP (nc F3 hg' hm' F5 ha (he:=he) (hpl:=hpl)) eG he') (he:=he') (hpl:=hpl')).imp λσ H Q ⟨O,δ,Qd,w,q,k⟩=>⟨O,δ,_,w,q,λds vs H1 uu96 s1 r1=>by
  obtain⟨ss,e,h64,q1⟩:=uu96;subst e;cases r1 with
  | cons h r=>
   cases r;obtain⟨a,us,rfl,h1,d1⟩:=h.lst;cases d1.strs;refine⟨hc,a,ss,rfl,h1,h64,λl hl=>⟨hc,l,_,rfl,bh,by have:=sC ss [];simp at this;omega,λl2 hl2=>?_⟩⟩;exact k _ _ _ _ q1 (s1.trans (ai.new hl)) hl2 (ah.ofStrs _)⟩
def hJ(i:Nat)(t:DA):DS:=λE δ=>∃ds,δ[i]?=some (some (.o ds))/\t δ λes=>ds.length+es.length<=Qz/\E.nx (δ.set i (some (.o (ds++es))))
theorem sE{i:Nat}{o e:Qx}{t:DA}{apos cpos pos:Pos}(ho:PE X o (eF i))(he:FE X H0 O0 e t)(hbase:Rn o "extend" X.env (eval o X.env)=eval o X.env:=by rfl)
 (hfew:((QN cpos (Qy [e] X.env)).all (λx=>!x.1) && (backToKw cpos (RD [] X.env)).all (λx=>x.1.isSome) && decide ([e].length+([]:List Rf).length+(if ([]:List Rf).isEmpty then 0 else 1) < 30))=true:=by rfl)
 (hline:(apos.endLine==cpos.line)=true:=by rfl)(hst:Qy [e] X.env=(false,eval e X.env)::Qy [] X.env:=by rfl)(hplain:(QN cpos (Qy [] X.env)).any (·.1)=false:=by rfl)
 (hs:QS (.Call (.Attribute o "extend" apos) [e] [] cpos) none pos.line X.env=pure false:=by rfl):PS X (.Expr (.Call (.Attribute o "extend" apos) [e] [] cpos) pos) (aQ X.K H0 O0 (hJ i t)):=
 (wk (ur Nb PySem.F.slot_list_extend PySem.F.type_list_extend C0 ho (bP he eG hst) hbase hfew hline hst hplain) hs).imp λD σ H uu0=>by
  obtain⟨O,δ,E,w,⟨ds,e,q⟩,k1,k2,k3,k4⟩:=uu0;obtain⟨l,vs,h,a,b,c,r⟩:=w.own e;refine⟨_,h,.inl ⟨rfl,_,aS.of c⟩,O,δ,_,w,q,λes ws p H1 q1 s1 hp r1=>?_⟩;have hl:H1 l=some (.lst vs):=s1 _ _ c;have np:l≠p:=λz=>by rw [z,hp] at hl;cases hl
  have S2:ai H1 (ao H1 p (.lst ws)):=ai.new hp;refine⟨l,p,vs,ws,rfl,rfl,by rw [az np];exact hl,bh,by rw [r.length,r1.length];exact q1.1,?_⟩;exact k1 _ _ _ _ q1.2 (((w.mono s1).mono S2).putO (vs:=vs) e h (((r.mono s1).mono S2).append (r1.mono S2))) ⟨λb' o' z n=>by rw [az (λy=>n (by rw [y];exact a))];exact S2 _ _ (s1 _ _ z),λ_ _ n=>n⟩
end
theorem yY:∀{ns:List Int}{us:List Qr},aA (ns.map V.int) us->IntsAre us ns
 | [],_,r=>by rw [Kk] at r;cases r;exact .nil
 | n::ns,_,r=>by
  rw [JB] at r;cases r with
  | cons r1 r2=>obtain⟨t,rfl⟩:=r1;exact .cons n t (yY r2)
theorem F6{X:Cx}(hc:X.calm=true):cj X (.builtin "max") (λxs H Q=>∃(p:Qs)(ns:List Int),xs=[.ref p]/\aS X.K H p (ns.map V.int)/\ns≠[]/\∀M,M∈ns->(∀a∈ns,a<=M)->Q (.int M) H):=by
 intro Sb s σ H xs us Q I r h;obtain⟨p,ns,rfl,hq,hne,q⟩:=h;obtain⟨u,rfl,rx⟩:=dR r;cases rx;obtain⟨its,rv,pl,hz⟩:=I.list hq;have hi:=yY rv;obtain⟨zs,e⟩:=hi.allInts.items;have hns:ns=zs.toList.map (·.1):=by rw [<-hi.numsOf,<-nums_intItems,<-e]
 have h0:0 < zs.size:=by
  rcases Nat.eq_zero_or_pos zs.size with z | z
  ·exact absurd (by rw [hns];simp [Array.size_eq_zero_iff.mp z]) hne
  ·exact z
 have hl:=pl.isList;rw [e] at hl;refine max_intList (I.ok.hd hc) hl h0 λv h' tk hv hk=>?_;obtain⟨t,rfl⟩:=intItems_at hv;obtain⟨h1,h2⟩:=argBest_gt (numAt zs) (zs.size - 1);refine⟨.int _,H,I.kept (t':=tk) hk,⟨t,rfl⟩,q _ ?_ λa ha=>?_⟩
 ·rw [hns,numAt_eq];exact getD_mem (by rw [Jv,JL];omega)
 ·rw [hns] at ha;obtain⟨j,hj,rfl⟩:=mem_getD ha;rw [Jv,JL] at hj;rw [<-numAt_eq];exact h2 j Qj
theorem ah.intsL{K:Ju}{H:Hp}{O:Ex}:∀{ns:List Int}{vs:List V},ah K H O vs (ns.map JM)->vs=ns.map V.int
 | [],_,r=>by rw [Kk] at r;cases r;rfl
 | b::bs,_,r=>by
  rw [JB] at r;cases r with
  | cons h r=>cases h;rw [JB,ah.intsL r]
def hU:List Qp->(Qp->Prop)->Prop:=λds Q=>∃ns:List Int,ds=[.list (ns.map .int)]/\ns≠[]/\∀M,M∈ns->(∀a∈ns,a<=M)->Q (.int M)
theorem F7{K:Ju}:nj K (λxs H Q=>∃(p:Qs)(ns:List Int),xs=[.ref p]/\aS K H p (ns.map V.int)/\ns≠[]/\∀M,M∈ns->(∀a∈ns,a<=M)->Q (.int M) H) hU:=λH O xs ds Qd R tr hs uu1 k=>by
 obtain⟨ns,e,hne,q⟩:=uu1;subst e;cases hs with
 | cons h r=>
  cases r;obtain⟨a,vs,rfl,h1,d1⟩:=h.lst;cases d1.intsL;exact⟨a,ns,rfl,h1,hne,λM m1 m2=>k _ _ H (q M m1 m2) (ai.refl _) (.int _)⟩
def sF(o:Obj)(a:Qs)(kv:List (ag×V)):It:=⟨λi H=>i < kv.length/\H a=some (.frz o (.dK kv)),λi H x H'=>H'=H/\∃p,kv[i]?=some p/\x=kV p.1,λi H=>kv.length<=i/\H a=some (.frz o (.dK kv))⟩
theorem yZ{P:QA}{w:QE}{H:Hp}{h:QB}{a:Qs}{o:Obj}{es:Array RJ}{ep:Nat}{kv:List (ag×V)}(ok:aW P w H h)(e:H a=some (.frz o (.dK kv)))(d:o.data= .dict es ep):
 (a==Q1)=false/\∃vs,KV kv vs/\h.DictAt (cg P w) a vs ep:=by
 obtain⟨h1,_,hd,vs,rel,o',es',ep',g,r1,r2,r3⟩:=ok a _ e;rw [h1] at g;cases g;rw [d] at r2;cases r2;exact⟨hd,vs,rel,o,es,h1,r1,d,r3⟩
theorem KV.len{kv:List (ag×V)}{vs:List (ag×Qr)}(r:KV kv vs):vs.length=kv.length:=r.length.symm
theorem y8{P:QA}{w:QE}{K:Ju}{tg:Qx}(it a:Qs)(o:Obj)(es:Array RJ)(ep:Nat)(kv:List (ag×V))(d:o.data= .dict es ep):pW P w K tg (sF o a kv) [it] it (λi h=>h.IsKeyIter it a i kv.length ep) where
 mem:=Qo
 obj:=λi h st b hb=>by
  have e:b=it:=by simpa using hb
  subst e;obtain⟨o,e,c,d⟩:=st;exact⟨o,e,λv z=>by rw [d] at z;cases z⟩
 keep:=λi h h' st k=>st.at λo e=>k it Qo o e
 item:=by
  intro X hP hw hK hc i Sb s σ H E I hf st hg;subst hP hw hK;obtain⟨hi,ha⟩:=hg;obtain⟨hd,vs,rel,da⟩:=yZ I.hok ha d;have hlen:=rel.len;obtain⟨f0,f1,f2,f3,f4,f5⟩:=hf it Qo;obtain⟨⟨k0,v0⟩,hx⟩:∃p,vs[i]?=some p:=⟨vs[i]'Qj,by simp [hlen,hi]⟩;refine wpAny_pyNext_dict_item (by rw [hlen];exact st) da hx λkey h' hkey st' sb=>?_;rw [hlen] at st';have I1:aa X Sb σ H {s with heap:=h'}:=I.turned (t':=s.toks) (λb o hb e=>(sb.2 b hb).trans e) f0 f1 f3 f4 f5;obtain⟨u,e,c,dd⟩:=id st';have ek:(kv[i]'hi).1=k0:=by
   have z:=congrArg (λl:List ag=>l[i]?) rel.keys;simp only [JD,hx] at z;simpa [hi] using z
  refine⟨key,rfl,qU (s:={s with heap:=h'}) e c dd Qi ⟨kV (kv[i]'hi).1,H,I1,?_,⟨rfl,_,by simp [hi],rfl⟩,st',λb hb=>(hf b hb).1⟩⟩;rw [ek];rcases iB (k:=k0) (v:=key) hkey with⟨j,t,e1,e2⟩ | ⟨j,t,e1,e2⟩
  ·rw [e1,e2];exact⟨t,rfl⟩
  ·rw [e1,e2];exact⟨t,rfl⟩
 done:=by
  intro X hP hw hK hc i Sb s σ H E I hf st hg;subst hP hw hK;obtain⟨hi,ha⟩:=hg;obtain⟨hd,vs,rel,da⟩:=yZ I.hok ha d;have hlen:=rel.len;obtain⟨f0,f1,f2,f3,f4,f5⟩:=hf it Qo;refine wpAny_pyNext_dict_end (I.ok.hd hc) (by rw [hlen];exact st) da (by simp [hlen,hi]) λh' he=>⟨rfl,?_⟩;exact I.turned (t':=s.toks) (λb o hb e=>he b o hb e) f0 f1 f3 f4 f5
 self:=λA i s Q E st h=>wpAny_pyIter_keyiter st h
def F8(tl:TE):TI:=λσ H R=>tl σ H λx H1=>∃a kv,x= .ref a/\H1 a=some (.dK kv)/\∀o,R (sF o a kv) (ao H1 a (.frz o (.dK kv)))
theorem F9{X:Cx}{tg l:Qx}{tl:TE}(hl:PE X l tl):PI X tg l (F8 tl):=by
 intro Sb s σ H R I h;refine ar (hl Sb s σ H _ I h) λv s1 ⟨x,H1,I1,r1,q1⟩=>?_;obtain⟨a,kv,e,ha,q⟩:=q1;subst e;cases r1;obtain⟨z,hd,vs,rel,o,es,ep,g,r1,r2,r3⟩:=I1.hok a _ ha;have hlen:=rel.len;have hd':(a==Q1)=false:=hd;have I2:aa X Sb σ (ao H1 a (.frz o (.dK kv))) s1:=by
  have:=I1.write (x:=a) (e:=a) (o:= .frz o (.dK kv)) (h':=s1.heap) (t':=s1.toks) (by rw [ha];exact Ln) (.inl rfl) (λ_ _ _ q=>q) ⟨o,g⟩ ⟨g,z,hd,vs,rel,o,es,ep,g,r1,r2,r3⟩;exact this
 refine wpAny_pyIter_dict hd' (knd:=cg X.prog X.w) (kvs:=vs) (ep:=ep) ⟨o,es,g,r1,r2,r3⟩ ?_;rw [hlen];refine⟨s1.heap.objs.size,[s1.heap.objs.size],_,_,_,rfl,I2.kept (t':=s1.toks) λb o e=>Jx _ e,y8 _ a o es ep kv r2,⟨_,JR _ rfl,rfl,rfl⟩,λb hb=>?_,q o⟩;have e:b=s1.heap.objs.size:=by simpa using hb
 subst e;exact I2.fpOk (Jy _) (I2.hok.fresh (Jy _))
theorem Wd.frzK{K:Ju}{H0 H:Hp}{O0 O:Ex}{σ:St}{δ:Dl}(w:Wd K H0 O0 H O σ δ){i:Nat}{l:Qs}{y0:Sl}(e:δ[i]?=some (some y0))(ho:y0.own)(h:σ[i]?=some (some (.ref l)))(u:HO):
 ∃O',Wd K H0 O0 (ao H l u) O' σ (δ.set i none)/\aG H (ao H l u) O O'/\¬O' l:=by
 obtain⟨l',x1,a,b⟩:=w.adr e ho;rw [h] at x1;cases x1;have l0:H0 l=none:=(w.new l a).resolve_left b;have S:aG H (ao H l u) O (λx=>O x/\x≠l):=⟨λc q z n=>by rw [az (λy=>n (by rw [y];exact a))];exact z,λ_ _ n z=>n z.1⟩;have li:i < δ.length:=(JH.mp e).1;have ne:∀{j:Nat}{y:Sl},(δ.set i none)[j]?=some (some y)->j≠i:=λ{j y} q z=>by
  subst z;rw [J0 li] at q;cases q
 refine⟨_,⟨λc q z=>?_,λx z=>⟨w.sub x z,λy=>b (by rw [<-y];exact z)⟩,λx z=>w.new x z.1,λx z=>by rw [az z.2];exact w.trk x z.1,by simp [w.len],λj y q=>?_,λj k y z l' e1 y1 e2 z2 e3 e4=>?_⟩,S,λz=>z.2 rfl⟩
 ·have:c≠l:=λy=>by rw [y,l0] at z;cases z
  rw [az this];exact w.same c q z
 ·by_cases hj:j=i
  ·subst hj;rw [J0 li] at q;cases q;exact Ln
  ·rw [JV (Ne.symm hj)] at q;refine(w.sl j y q).go S (λb o ho' e' a1 a2 a3=>?_) (λb o u a1 a2 a3=>by have nb:b≠l:=λz=>w.nofrz e ho h o u (by rw [<-z];exact a3);exact⟨⟨a1,nb⟩,by rw [az nb];exact a3⟩) λc o a1 a3=>by rw [az (λz=>b (by rw [<-z];exact a1))];exact a3
   have nb:b≠l:=λz=>by
    subst z
    match y,ho',q with
    | some z,ho',q=>exact hj (w.dis j i z y0 _ q (by cases z <;> first | trivial | cases ho') e ho (nF e') h)
   exact⟨⟨a1,nb⟩,by rw [az nb];exact a3⟩
 ·have n1:=ne e1;have n2:=ne e2;rw [JV (Ne.symm n1)] at e1;rw [JV (Ne.symm n2)] at e2;exact w.dis j k _ _ l' e1 y1 e2 z2 e3 e4
theorem bX.dk{o:Obj}{a:Qs}{kv:List (ag×V)}:bX (sF o a kv) (λH=>H a=some (.frz o (.dK kv))) (kv.map λp=>kV p.1):=by
 refine⟨λi H' s hi=>⟨by simpa using hi,s⟩,λi H' x H'' s hi y=>⟨y.1,?_⟩,λi H' s hi=>⟨by simpa using hi,s⟩⟩;obtain⟨_,p,hp,rfl⟩:=y;simp [hp]
theorem ah.keysK{K:Ju}{H:Hp}{O:Ex}:∀{kv:List (ag×V)}{kd:List (ag×Qp)},aT K H O kv kd->ah K H O (kv.map λp=>kV p.1) (kd.map λp=>d6 p.1):=by
 intro kv kd h
 induction h with
 | nil=>exact .nil
 | @cons k v d r s a _ ih=>
  refine .cons ?_ ih;cases k with
  | inl i=>exact .int i
  | inr x=>exact .str x
section
variable {X:Cx} {H0:Hp} {O0:Ex}
def hV(i:Nat)(dg:DG)(tb:DS):DS:=λE δ=>∃kd,δ[i]?=some (some (.k kd))/\fQ dg tb E (kd.map λp=>d6 p.1) (δ.set i none)
theorem Ga{i:Nat}{tg iter:Qx}{g:TG}{dg:DG}{tb:DS}{body:List QH}{pos:Pos}(hp:Rl (Qw X.prog X.w) X.A X.env X.xe)(hc:X.calm=true)(hi:PE X iter (eF i))(hg:PG X tg g)(gd:GD X.K g dg)(hb:bu X body (aQ X.K H0 O0 tb))(hs:∀x,QI iter X.env x=pure x:=by intro _;rfl):
 PS X (.For tg iter body [] pos) (aQ X.K H0 O0 (hV i dg tb)):=
 (oN hp hc (F9 hi) hg hb hs).imp λD σ H uu3=>by
  obtain⟨O,δ,E,w,⟨kd,e,q⟩,k1,k2,k3,k4⟩:=uu3;obtain⟨l,kv,h,a,b,c,r⟩:=w.ownK e;refine⟨.ref l,h,l,kv,rfl,c,λo=>?_⟩;obtain⟨O',w',S,n⟩:=w.frzK (y0:= .k kd) e trivial h (.frz o (.dK kv));exact pb bX.dk gd (λH' O2 S2=>S2.keep _ _ bh n) (ah.keysK r |>.step S) w' q (λO2 δ2 σ2 H2 z2 w2 S2=>k1 O2 δ2 σ2 H2 z2 w2 (S.trans S2)) k2
end
def eh:List (DT×DT)->Dl->(List (Qp×Qp)->Prop)->Prop
 | [],_,Q=>Q []
 | (a,b)::r,δ,Q=>a δ λx=>b δ λy=>eh r δ λps=>Q ((x,y)::ps)
inductive nK (K:Ju) (H:Hp) (O:Ex):List (V×V)->List (Qp×Qp)->Prop
 | nil:nK K H O [] []
 | cons {a b:V} {x y:Qp} {r s}:Dt K H O a x->Dt K H O b y->nK K H O r s->nK K H O ((a,b)::r) ((x,y)::s)
theorem y9{K:Ju}{H0:Hp}{O0 O:Ex}{σ:St}{δ:Dl}:∀(trs:List (DT×DT)){H:Hp}{Qd:List (Qp×Qp)->Prop}{R:List (V×V)->Hp->Prop},Wd K H0 O0 H O σ δ->eh trs δ Qd->(∀ds vs H',Qd ds->ai H H'->nK K H' O vs ds->R vs H')->rX (trs.map λp=>(up K H0 O0 p.1,up K H0 O0 p.2)) σ H R
 | [],H,Qd,R,w,q,k=>k [] [] H q (ai.refl _) .nil
 | (a,b)::r,H,Qd,R,w,q,k=>by
  refine⟨O,δ,_,w,q,λx v H1 q1 s1 r1=>⟨O,δ,_,w.mono s1,q1,λy u H2 q2 s2 r2=>?_⟩⟩;exact y9 r ((w.mono s1).mono s2) q2 λds vs H3 q3 s3 r3=>k _ _ H3 q3 ((s1.trans s2).trans s3) (.cons (r1.mono (s2.trans s3)) (r2.mono s3) r3)
theorem Dt.free{K:Ju}{H H':Hp}{O O':Ex}{v:V}{d:Qp}(h:Dt K H O v d)(s:cO d=true):Dt K H' O' v d:=by
 cases h <;> first | exact .non | exact .bl _ | exact .int _ | exact .str _ | cases s
theorem nK.kd{K:Ju}{H H':Hp}{O:Ex}:∀{kd:List (ag×Qp)}{ps:List (V×V)},nK K H O ps (kd.map λp=>(d6 p.1,p.2))->(∀p∈kd,cO p.2=true)->∃kv:List (ag×V),ps=kv.map (λp=>(kV p.1,p.2))/\aT K H' O kv kd
 | [],_,h,_=>by cases h;exact⟨[],rfl,.nil⟩
 | p::kd,_,h,sc=>by
  cases h with
  | cons a b r=>
   obtain⟨kv,e,k⟩:=nK.kd r λq hq=>sc q (Ka _ hq);have:=a.key;exact⟨(p.1,_)::kv,by rw [e,this];rfl,.cons (b.free (sc p Lj)) k⟩
theorem aT.merge{K:Ju}{H:Hp}{O:Ex}{more:List (ag×V)}{md:List (ag×Qp)}(h:aT K H O more md):∀{kv:List (ag×V)}{kd:List (ag×Qp)},aT K H O kv kd->aT K H O (nJ kv more) (md.foldl (λa p=>d8 a p.1 p.2) kd):=by
 induction h with
 | nil=>intro kv kd r;exact r
 | cons a _ ih=>intro kv kd r;exact ih (r.put _ a)
section
variable {X:Cx} {H0:Hp} {O0:Ex}
def hW(trs:List (DT×DT)):oo:=λδ Q=>eh trs δ λps=>∃kd:List (ag×Qp),ps=kd.map (λp=>(d6 p.1,p.2))/\kd.length<=15/\(∀p∈kd,cO p.2=true)/\Q (kd.foldl (λa p=>d8 a p.1 p.2) [])
def sG(X:Cx)(H0:Hp)(O0:Ex)(pos:Pos)(keys:List (Option Qx))(values:List Qx)(trs:List (DT×DT)):Prop:=qr X pos keys values (trs.map λp=>(up X.K H0 O0 p.1,up X.K H0 O0 p.2))
theorem Gb{pos:Pos}:sG X H0 O0 pos [] [] []:=EB
theorem vh{pos:Pos}{k v:Qx}{ks:List (Option Qx)}{vs:List Qx}{tk tv:DT}{trs:List (DT×DT)}(hk:DE X H0 O0 k tk)(hv:DE X H0 O0 v tv)(hr:sG X H0 O0 pos ks vs trs):sG X H0 O0 pos (some k::ks) (v::vs) ((tk,tv)::trs):=EC hk hv hr
theorem Gd{pos:Pos}{keys:List (Option Qx)}{values:List Qx}{trs:List (DT×DT)}(h:sG X H0 O0 pos keys values trs)(hall:keys.all (·.isSome)=true:=by rfl)(hl:keys.length=values.length:=by rfl)(h0:keys≠[]:=by exact List.cons_ne_nil _ _)(h15:keys.length<=15:=by exact Nat.le_of_ble_eq_true rfl):KE X H0 O0 (.Dict keys values pos) (hW trs):=
 (EF h hall hl h0 h15).imp λσ H Q ⟨O,δ,Qd,w,q,k⟩=>λp hp=>by
  refine y9 trs (w.mono (ai.new hp)) q λds vs H2 ⟨kd,e,n,sc,q2⟩ s2 r2=>?_;subst e;have hp2:H2 p=some (.dK []):=s2 _ _ bh;obtain⟨kv,e,r⟩:=nK.kd (H':=λb=>if b=p then none else H2 b) r2 sc;refine⟨hp2,kv,e,by rw [r.length];exact n,?_⟩;have eu:ao H2 p (.dK (nJ [] kv))=ao (λb=>if b=p then none else H2 b) p (.dK (nJ [] kv)):=by
   funext b;unfold ao;split
   ·rfl
   ·rename_i hb;exact(Qk hb).symm
  rw [eu];refine k _ _ p _ q2 (λb o z=>?_) (Ql rfl) (r.merge .nil);have:b≠p:=λy=>by rw [y,hp] at z;cases z
  show(if b=p then none else H2 b)=some o;rw [Qk this];exact s2 _ _ (by rw [az this];exact z)
def lP(i j k:Nat)(t:DA):DS:=λE δ=>t δ λds=>∃x y z,ds=[x,y,z]/\E.nx (((δ.set i (some (.v x))).set j (some (.v y))).set k (some (.v z)))
theorem z9{N':List Str}{k:Nat}{fr:List Nat}{scope:QP}{iter elt tg:Qx}{ifs:List Qx}{t te:DT}{tc:DB}{g:TG}{dg:DG}{pos:Pos}(hc:X.calm=true)(S:aU X.env.scope X.N N' k fr scope)(hi:DF X H0 O0 iter t)(gd:GD X.K g dg)(hk:nI g k)(hfr:fr.Nodup)
 (hg:∀fp C s H,PG (bp X scope N' fp C s H) tg g)(hf:∀fp C s H,dS (bp X scope N' fp C s H) ifs (bD X.K H0 O0 tc))(he:∀fp C s H,PE (bp X scope N' fp C s H) elt (up X.K H0 O0 te))
 (hs:∀x,QI iter X.env x=pure x:=by intro _;rfl):PU X (.ListComp elt [⟨tg,iter,ifs,0⟩] scope pos) (oX X.K H0 O0 (d5 t dg tc te k fr)):=
 (xX hc S (tZ hi) hg hf he hs).imp λσ H Q uu6=>by obtain⟨O,δ,Qd,w,q,kk⟩:=uu6;exact⟨O,δ,_,w,q,λd v H1 uu7 s1 r1=>by
  obtain⟨xs,e,hz,q1⟩:=uu7;subst e;obtain⟨a,vs,rfl,hq,rr⟩:=r1.tup;refine⟨a,rfl,⟨_,hq⟩,λD hD=>qj (bX.tup hq) gd hfr (λv _ H' R h=>hk fr σ v H' R h) (λ_ _ _ z=>z) (λ_ _ _ z=>z) (λD H' hD s' o e=>s' _ _ e (cE e hD)) rr (w.mono s1) (by rw [rr.length];exact hz) q1 (λds us p H' z s' hp r'=>kk ds us p H' z (s1.trans s') hp r') D hD⟩⟩
end
structure pC (n:Nat) (lt:Nat->Nat->Bool) (I:Qt->Prop) (cmp:Nat->Nat->(Bool->Qt->Prop)->Qt->Prop):Prop where
 as:∀i j C s,i < n->j < n->i≠j->I s->(∀s',I s'->C (lt i j) s')->cmp i j C s
structure mX (n:Nat) (lt:Nat->Nat->Bool):Prop where
 tot:∀i j,i < n->j < n->i≠j->lt i j=!lt j i
 tr:∀i j k,i < n->j < n->k < n->lt i j=true->lt j k=true->lt i k=true
structure bA (n:Nat) (p:Array Nat):Prop where
 perm:p.toList.Perm (KQ n)
theorem bA.size{n:Nat}{p:Array Nat}(h:bA n p):p.size=n:=by rw [<-JL,h.perm.length_eq,ME]
theorem bA.lt{n:Nat}{p:Array Nat}(h:bA n p){k:Nat}(hk:k < n):p.getD k 0 < n:=by
 have hs:=h.size;have e:p.getD k 0=p[k]'Qj:=by simp [Na,show k < p.size by omega]
 rw [e];have:=h.perm.mem_iff.mp (Array.mem_toList_iff.mpr (Array.getElem_mem (show k < p.size by omega)));simpa using this
theorem bA.ne{n:Nat}{p:Array Nat}(h:bA n p){i j:Nat}(hi:i < n)(hj:j < n)(hij:i≠j):p.getD i 0≠p.getD j 0:=by
 have hs:=h.size;have nd:p.toList.Nodup:=h.perm.nodup_iff.mpr Pf;have ei:p.getD i 0=p.toList[i]'(by simp;omega):=by simp [Na,show i < p.size by omega]
 have ej:p.getD j 0=p.toList[j]'(by simp;omega):=by simp [Na,show j < p.size by omega]
 rw [ei,ej];intro e;exact hij ((Nl nd).mp e)
theorem bA.bubble{n:Nat}{p:Array Nat}(h:bA n p)(a d:Nat):bA n (NA p a d):=⟨(NO.mp (bubble_perm p a d)).trans h.perm⟩
theorem bA.rev{n:Nat}{p:Array Nat}(h:bA n p)(i j:Nat):bA n (kas_rev p i j):=⟨(NO.mp (mirror_perm p i j _)).trans h.perm⟩
theorem vi(n:Nat):bA n (OV (KQ n)):=⟨Qo⟩
def Up(lt:Nat->Nat->Bool)(p:Array Nat)(k:Nat):Prop:=∀i j,i < j->j < k->lt (p.getD i 0) (p.getD j 0)=true
section
variable {n:Nat} {lt:Nat->Nat->Bool} {I:Qt->Prop} {cmp:Nat->Nat->(Bool->Qt->Prop)->Qt->Prop}
theorem Up.snoc(T:mX n lt){p:Array Nat}(hp:bA n p){k:Nat}(hk:k < n)(h:Up lt p k)(h0:0 < k)(hl:lt (p.getD (k - 1) 0) (p.getD k 0)=true):Up lt p (k+1):=by
 intro i j hij hj;rcases Mw j k with z | z
 ·exact h i j hij z
 ·have:j=k:=Qj
  subst this;rcases Mw i (j - 1) with w | w
  ·exact T.tr _ _ _ (hp.lt Qj) (hp.lt Qj) (hp.lt hk) (h i (j - 1) w Qj) hl
  ·have:i=j - 1:=Qj
   subst this;exact hl
theorem vj(A:pC n lt I cmp)(T:mX n lt){p:Array Nat}(hp:bA n p){Q:Nat->Qt->Prop}:∀(f m:Nat)(s:Qt),1<=m->m+f=n->Up lt p m->I s->
 (∀k s',I s'->m<=k->k<=n->Up lt p k->(k < n->lt (p.getD k 0) (p.getD (k - 1) 0)=true)->Q k s')->(kas_asc p f m).kasWp cmp Q s
 | 0,m,s,h1,hf,hu,hI,q=>q m s hI (Jy _) Qj hu (λz=>by omega)
 | f+1,m,s,h1,hf,hu,hI,q=>by
  have hm:m < n:=Qj
  refine A.as _ _ _ s (hp.lt hm) (hp.lt Qj) (hp.ne hm Qj Qj) hI λs' hI'=>?_;cases hc:lt (p.getD m 0) (p.getD (m - 1) 0) with
  | true=>
   dsimp only;rw [Ql rfl];exact q m s' hI' (Jy _) Qj hu (λ_=>hc)
  | false=>
   dsimp only;rw [Qk Qo];have hl:lt (p.getD (m - 1) 0) (p.getD m 0)=true:=by rw [T.tot _ _ (hp.lt Qj) (hp.lt hm) (hp.ne Qj hm Qj),hc];rfl
   exact vj A T hp f (m+1) s' Qj Qj (hu.snoc T hp hm Qj hl) hI' λk s2 a b c d e=>q k s2 a Qj c d e
def Dn(lt:Nat->Nat->Bool)(p:Array Nat)(k:Nat):Prop:=∀i j,i < j->j < k->lt (p.getD j 0) (p.getD i 0)=true
theorem Dn.snoc(T:mX n lt){p:Array Nat}(hp:bA n p){k:Nat}(hk:k < n)(h:Dn lt p k)(h0:0 < k)(hl:lt (p.getD k 0) (p.getD (k - 1) 0)=true):Dn lt p (k+1):=by
 intro i j hij hj;rcases Mw j k with z | z
 ·exact h i j hij z
 ·have:j=k:=Qj
  subst this;rcases Mw i (j - 1) with w | w
  ·exact T.tr _ _ _ (hp.lt hk) (hp.lt Qj) (hp.lt Qj) hl (h i (j - 1) w Qj)
  ·have:i=j - 1:=Qj
   subst this;exact hl
theorem Aa(A:pC n lt I cmp)(T:mX n lt){p:Array Nat}(hp:bA n p){Q:Array Nat×Nat×Nat->Qt->Prop}:∀(f m:Nat)(s:Qt),1<=m->m+f=n->Dn lt p m->I s->
 (∀k s',I s'->m<=k->k<=n->Dn lt p k->Q (p,k,0) s')->(kas_desc f p m 0).kasWp cmp Q s
 | 0,m,s,h1,hf,hu,hI,q=>q m s hI (Jy _) Qj hu
 | f+1,m,s,h1,hf,hu,hI,q=>by
  have hm:m < n:=Qj
  refine A.as _ _ _ s (hp.lt hm) (hp.lt Qj) (hp.ne hm Qj Qj) hI λs' hI'=>?_;cases hc:lt (p.getD m 0) (p.getD (m - 1) 0) with
  | true=>
   dsimp only;rw [Ql rfl,Qk Qo];exact Aa A T hp f (m+1) s' Qj Qj (hu.snoc T hp hm Qj hc) hI' λk s2 a b c d=>q k s2 a Qj c d
  | false=>
   dsimp only;rw [Qk Qo];refine A.as _ _ _ s' (hp.lt Qj) (hp.lt hm) (hp.ne Qj hm Qj) hI' λs2 hI2=>?_;have hl:lt (p.getD (m - 1) 0) (p.getD m 0)=true:=by rw [T.tot _ _ (hp.lt Qj) (hp.lt hm) (hp.ne Qj hm Qj),hc];rfl
   rw [hl];dsimp only;rw [Ql rfl];exact q m s2 hI2 (Jy _) Qj hu
theorem Ab{p:Array Nat}{j k:Nat}(hj:j<=p.size):(kas_rev p 0 j).getD k 0=if k < j then p.getD (j - 1 - k) 0 else p.getD k 0:=by
 have:=getElem?_mirror_all (xs:=p) (i:=0) (j:=j) hj k;unfold kas_rev;rw [K8,this];by_cases h:k < j
 ·simp [h,K8]
 ·simp [h,K8]
theorem Dn.rev{p:Array Nat}(hp:bA n p){k:Nat}(hk:k<=n)(h:Dn lt p k):Up lt (kas_rev p 0 k) k:=by
 intro i j hij hj;have hs:=hp.size;rw [Ab Qj,Ab Qj,Ql Qj,Ql hj];exact h _ _ Qj Qj
theorem Ge(A:pC n lt I cmp)(T:mX n lt)(h2:2<=n){p:Array Nat}(hp:bA n p){Q:Nat×Array Nat->Qt->Prop}{s:Qt}(hI:I s)
 (q:∀k p' s',I s'->1<=k->k<=n->bA n p'->Up lt p' k->Q (k,p') s'):(kas_count n p).kasWp cmp Q s:=by
 unfold kas_count;rw [MZ];refine vj A T hp (n - 1) 1 s (Jy _) Qj (λi j a b=>by omega) hI λm s1 hI1 m1 m2 hu hs=>?_;by_cases hm:m=n
 ·subst hm;rw [Ql Qo];exact q m p s1 hI1 m1 (Jy _) hp hu
 ·rw [Qk (by simpa using hm)];by_cases hm1:m > 1
  ·rw [Ql hm1];refine A.as _ _ _ s1 (hp.lt Qj) (hp.lt Qj) (hp.ne Qj Qj Qj) hI1 λs2 hI2=>?_;rw [hu 0 (m - 1) Qj Qj];dsimp only;rw [Ql rfl];exact q m p s2 hI2 m1 Qj hp hu
  ·rw [Qk hm1];have:m=1:=Qj
   subst this;have h10:=hs Qj;unfold kas_descPart;rw [MZ];refine Aa A T hp (n - (1+1)) (1+1) s1 Qj Qj (λi j a b=>?_) hI1 λk s2 hI2 k1 k2 hd=>?_
   ·have:i=0:=Qj
    have:j=1:=Qj
    subst_vars
    exact h10
   ·rw [Qk Qo];unfold kas_tail3;rw [MZ];have hp':=hp.rev 0 k;refine vj A T hp' (n - k) k s2 Qj Qj (hd.rev hp k2) hI2 λm s3 hI3 a b c d=>?_;exact q m _ s3 hI3 Qj b hp' c
theorem vn(A:pC n lt I cmp)(T:mX n lt){p:Array Nat}(hp:bA n p){k:Nat}(hk:k < n)(hu:Up lt p k){Q:Nat->Qt->Prop}:∀(f l r:Nat)(s:Qt),r - l<=f->l<=r->r<=k->I s->
 (∀i,i < l->lt (p.getD i 0) (p.getD k 0)=true)->(∀i,r<=i->i < k->lt (p.getD k 0) (p.getD i 0)=true)->
 (∀l s',I s'->l<=k->(∀i,i < l->lt (p.getD i 0) (p.getD k 0)=true)->(∀i,l<=i->i < k->lt (p.getD k 0) (p.getD i 0)=true)->Q l s')->(kas_place p k f l r).kasWp cmp Q s
 | 0,l,r,s,hf,hlr,hrk,hI,h1,h2,q=>q l s hI Qj h1 (λi a b=>h2 i Qj b)
 | f+1,l,r,s,hf,hlr,hrk,hI,h1,h2,q=>by
  unfold kas_place;by_cases hge:l >= r
  ·rw [Ql hge];exact q l s hI Qj h1 (λi a b=>h2 i Qj b)
  ·rw [Qk hge];have hm:(l+r)/ 2 < k:=Qj
   refine A.as _ _ _ s (hp.lt hk) (hp.lt Qj) (hp.ne hk Qj Qj) hI λs' hI'=>?_;cases hc:lt (p.getD k 0) (p.getD ((l+r)/ 2) 0) with
   | true=>
    dsimp only;rw [Ql rfl];refine vn A T hp hk hu f l ((l+r)/ 2) s' Qj Qj Qj hI' h1 (λi a b=>?_) q;rcases Mw ((l+r)/ 2) i with z | z
    ·exact T.tr _ _ _ (hp.lt hk) (hp.lt Qj) (hp.lt Qj) hc (hu _ _ z b)
    ·have:i=(l+r)/ 2:=Qj
     rw [this];exact hc
   | false=>
    dsimp only;rw [Qk Qo];have hl:lt (p.getD ((l+r)/ 2) 0) (p.getD k 0)=true:=by rw [T.tot _ _ (hp.lt Qj) (hp.lt hk) (hp.ne Qj hk Qj),hc];rfl
    refine vn A T hp hk hu f ((l+r)/ 2+1) r s' Qj Qj hrk hI' (λi a=>?_) h2 q;rcases Mw i ((l+r)/ 2) with z | z
    ·exact T.tr _ _ _ (hp.lt Qj) (hp.lt Qj) (hp.lt hk) (hu _ _ z hm) hl
    ·have:i=(l+r)/ 2:=Qj
     rw [this];exact hl
theorem Ac{p:Array Nat}{k d i:Nat}(hk:k < p.size)(hd:d<=k):(NA p k d).getD i 0=if i=k - d then p.getD k 0 else if k - d < i/\i<=k then p.getD (i - 1) 0 else p.getD i 0:=by
 rw [K8,getElem?_bubble hk d hd i];by_cases h1:i=k - d
 ·rw [Ql h1,Ql h1,K8]
 ·rw [Qk h1,Qk h1];by_cases h2:k - d < i/\i<=k
  ·rw [Ql h2,Ql h2,K8]
  ·rw [Qk h2,Qk h2,K8]
theorem Up.ins(T:mX n lt){p:Array Nat}(hp:bA n p){k l:Nat}(hk:k < n)(hu:Up lt p k)(hl:l<=k)(h1:∀i,i < l->lt (p.getD i 0) (p.getD k 0)=true)(h2:∀i,l<=i->i < k->lt (p.getD k 0) (p.getD i 0)=true):Up lt (NA p k (k - l)) (k+1):=by
 have hs:=hp.size;intro i j hij hj;rw [Ac Qj Qj,Ac Qj Qj];have e:k - (k - l)=l:=Qj
 rw [e];clear hs e hk;by_cases hi:i=l
 ·rw [Ql hi,Qk Qj,Ql Qj];exact h2 _ Qj Qj
 ·rw [Qk hi];by_cases hi2:l < i/\i<=k
  ·rw [Ql hi2,Qk Qj,Ql Qj];exact hu _ _ Qj Qj
  ·rw [Qk hi2];by_cases hj1:j=l
   ·rw [Ql hj1];exact h1 _ Qj
   ·rw [Qk hj1];by_cases hj2:l < j/\j<=k
    ·rw [Ql hj2];exact hu _ _ Qj Qj
    ·rw [Qk hj2];exact hu _ _ hij Qj
theorem Ad(A:pC n lt I cmp)(T:mX n lt){Q:Array Nat->Qt->Prop}:∀(f:Nat)(p:Array Nat)(k:Nat)(s:Qt),k+f=n->bA n p->Up lt p k->I s->(∀p' s',I s'->bA n p'->Up lt p' n->Q p' s')->(kas_bin f p k).kasWp cmp Q s
 | 0,p,k,s,hf,hp,hu,hI,q=>q p s hI hp (by rw [show n=k by omega];exact hu)
 | f+1,p,k,s,hf,hp,hu,hI,q=>by
  unfold kas_bin;rw [MZ];have hk:k < n:=Qj
  refine vn A T hp hk hu k 0 k s Qj Qj (Jy _) hI (λi z=>by omega) (λi a b=>by omega) λl s' hI' hl h1 h2=>?_;exact Ad A T f _ (k+1) s' Qj (hp.bubble _ _) (hu.ins T hp hk hl h1 h2) hI' q
theorem Gf(A:pC n lt I cmp)(T:mX n lt)(h2:2<=n){Q:Array Nat->Qt->Prop}{s:Qt}(hI:I s)(q:∀p s',I s'->bA n p->Up lt p n->Q p s'):(kas_sort n).kasWp cmp Q s:=by
 unfold kas_sort;rw [MZ];refine Ge A T h2 (vi n) hI λk p s1 hI1 k1 k2 hp hu=>?_;dsimp only;by_cases hk:k < n
 ·rw [Ql hk,show max k 1=k by omega];exact Ad A T (n - k) p k s1 Qj hp hu hI1 q
 ·rw [Qk hk];exact q p s1 hI1 hp (by rw [show n=k by omega];exact hu)
end
def aC(p q:Int×Str):Bool:=decide (p.1 < q.1) || (decide (p.1=q.1) && decide (p.2.cps.toList < q.2.cps.toList))
def lQ(h:QB)(v:Qr)(p:Int×Str):Prop:=∃a o n t u,v= .ref a/\h.get? a=some o/\o.cls= .type "tuple"/\o.data= .seq #[.int p.1 t,.str p.2 u] n
section
variable {P:QA} {w:QE} {A:QF} {E:Qr->Qt->Prop} {s:Qt}
theorem Gh{v u:Qr}{p q:Int×Str}{Q:Bool->Qt->Prop}(hv:lQ s.heap v p)(hu:lQ s.heap u q)(h:Q (aC p q) s):Qv (Qw P w) A (keyLt' (tuples' true) v u) Q E s:=by
 obtain⟨a,oa,na,t1,t2,rfl,ha,_,da⟩:=hv;obtain⟨b,ob,nb,t3,t4,rfl,hb,_,db⟩:=hu;refine kat_lt ha da hb db (kat_cons ((intKind P w).eqBool (intKind_is _ _ _ _) (intKind_is _ _ _ _) (kat_go (λe1=>?_) λe1=>?_)))
 ·have e1:p.1=q.1:=by simpa using e1
  refine kat_yes (kat_cons ((PySem.strKind P w).eqBool (strKind_is _ _ _ _) (strKind_is _ _ _ _) (kat_go (λe2=>?_) λe2=>?_)))
  ·have e2:p.2=q.2:=by simpa using e2
   refine kat_yes (kat_nil ?_);have:aC p q=false:=by unfold aC;rw [e1,e2];simp
   rw [this] at h;simpa using h
  ·have e2:p.2≠q.2:=by simpa using e2
   refine kat_no (kat_one _ _ ?_);have:aC p q=decide (p.2.cps.toList < q.2.cps.toList):=by unfold aC;simp [e1]
   rw [this] at h;exact lt_str h
 ·have e1:p.1≠q.1:=by simpa using e1
  refine kat_no ?_;show Qv _ _ (oneLt' true _ _) _ _ _;refine oneLt_int ?_;have:aC p q=decide (p.1 < q.1):=by unfold aC;simp [e1]
  rw [this] at h;exact h
theorem Ae{n:Nat}{kp:Nat->Int×Str}(hd:∀i j,i < n->j < n->kp i=kp j->i=j):mX n λi j=>aC (kp i) (kp j):=by
 have tl:∀a b:Str,a≠b->(decide (a.cps.toList < b.cps.toList))=!decide (b.cps.toList < a.cps.toList):=λa b h=>by
  by_cases z:a.cps.toList < b.cps.toList
  ·rw [decide_eq_true z,decide_eq_false (List.lt_asymm z)];rfl
  ·have z2:b.cps.toList<=a.cps.toList:=Pa.mp z;have:b.cps.toList < a.cps.toList:=by
    rcases Classical.em (b.cps.toList < a.cps.toList) with y | y
    ·exact y
    ·exact absurd (x5 (Pe (Pa.mp y) z2)) h
   rw [decide_eq_false z,decide_eq_true this];rfl
 refine⟨λi j hi hj hij=>?_,λi j k hi hj hk h1 h2=>?_⟩
 ·have hne:kp i≠kp j:=λe=>hij (hd i j hi hj e);unfold aC;by_cases e:(kp i).1=(kp j).1
  ·have e2:(kp i).2≠(kp j).2:=λz=>hne (Prod.ext e z);simp only [e,Int.lt_irrefl,decide_false,Lo,decide_true,Ly];exact tl _ _ e2
  ·have e':(kp j).1≠(kp i).1:=λz=>e z.symm;simp only [e,e',decide_false,Pz,Lf];by_cases z:(kp i).1 < (kp j).1
   ·rw [decide_eq_true z,decide_eq_false Qj];rfl
   ·rw [decide_eq_false z,decide_eq_true Qj];rfl
 ·unfold aC at h1 h2⊢;simp only [Pr,Kn,decide_eq_true_eq] at h1 h2⊢;rcases h1 with h1 | ⟨h1,h1'⟩ <;> rcases h2 with h2 | ⟨h2,h2'⟩
  ·left;omega
  ·left;omega
  ·left;omega
  ·right;exact⟨h1.trans h2,PL h1' h2'⟩
theorem Af{ks:List Qr}{kp:Nat->Int×Str}(hk:∀i v,ks[i]?=some v->lQ s.heap v (kp i))(h2:2<=ks.length){Q:SortKind->Qt->Prop}(h:Q (tuples' true) s):Qv (Qw P w) A (keyKind' ks.toArray) Q E s:=by
 have key:∀(ks:List Qr)(kp:Nat->Int×Str),(∀i v,ks[i]?=some v->lQ s.heap v (kp i))->∃fs:List Qr,KatTups s.heap ks fs/\fs.length=ks.length/\∀v∈fs,∃n t,v=MG n t:=by
  intro ks
  induction ks with
  | nil=>intro kp _;exact⟨[],KatTups.nil,rfl,Qo⟩
  | cons v ks ih=>
   intro kp hk;obtain⟨fs,a,b,c⟩:=ih (λi=>kp (i+1)) λi v e=>hk (i+1) v (by simpa using e);obtain⟨ad,o,n,t,u,rfl,h1,h2,h3⟩:=hk 0 v rfl;refine⟨.int (kp 0).1 t::fs,KatTups.cons h1 h2 h3 rfl a,by simp [b],λx hx=>?_⟩;rcases JF.mp hx with rfl | hx
   ·exact⟨_,_,rfl⟩
   ·exact c x hx
 obtain⟨fs,a,b,c⟩:=key ks kp hk;refine kat_kind (T:= .type "int") a Qj (λv hv=>?_) Qi h;obtain⟨n,t,rfl⟩:=c v hv;exact .now
theorem Ag{n:Nat}{ks:List Qr}{kp:Nat->Int×Str}(hn:ks.length=n)(h2:2<=n)(hk:∀i v,ks[i]?=some v->lQ s.heap v (kp i))(hd:∀i j,i < n->j < n->kp i=kp j->i=j){G:Array Nat->Qt->Prop}
 (q:∀p,bA n p->Up (λi j=>aC (kp i) (kp j)) p n->G p s):(kas_sort n).kasWp (kas_ask P w A (tuples' true) ks) G s:=by
 refine Gf (lt:=λi j=>aC (kp i) (kp j)) (I:=λs'=>s'=s) ⟨λi j C s' hi hj hij e c=>?_⟩ (Ae hd) h2 rfl λp s' e hp hu=>by subst e;exact q p hp hu
 subst e;have ei:ks[i]?=some (ks.getD i .none):=by simp [show i < ks.length by omega]
 have ej:ks[j]?=some (ks.getD j .none):=by simp [show j < ks.length by omega]
 exact Gh (hk i _ ei) (hk j _ ej) (c _ rfl)
def Ah(kS D:Qs)(s:Qt)(out:List Qr)(C:Qt->Prop):Prop:=∀h' c,h'.get? D=some (QJ "list" out.toArray c)->(∀b u,b≠kS->b≠D->s.heap.get? b=some u->h'.get? b=some u)->C {s with heap:=h'}
theorem Ai{st:SortSt}{kS D:Qs}{ks out:List Qr}{e e1:Nat}{C:OW->Qt->Prop}(hk:s.heap.get? kS=some (QJ "list" ks.toArray e))(hD:s.heap.get? D=some (QJ "list" #[] e1))(hne:kS≠D)(hf:failedOf st=none)
 (ho:(arrOf st).map (·.2)=out.toArray)(h64:out.length < 64)(hk64:ks.length < 64)(q:Ah kS D s out (C (.done (.ret .none)))):Qv (Qw P w) A (ksk_tail D false e1 (.ref kS) st) C E s:=by
 have hsl:Qz=16777216:=QK;unfold ksk_tail;rw [ho];refine Qq (Rp hk rfl (Qq (wpAny_letGo ?_)) (by rw [JT];omega) (KI _));have u1:=Kt s.heap kS (KR λ_=>(#[]:Array Qr));have hD1:(s.heap.update kS (KR λ_=>(#[]:Array Qr))).get? D=some (QJ "list" #[] e1):=(u1.2 D (Ne.symm hne)).trans hD;refine Qq (seqEpoch_at (s:={s with heap:=s.heap.update kS (KR λ_=>(#[]:Array Qr))}) hD1 rfl ?_);rw [Qk Qo];refine Qq (Rp (s:={s with heap:=s.heap.update kS (KR λ_=>(#[]:Array Qr))}) hD1 rfl ?_ (KI _) (by show out.toArray.size<=_;rw [JT];omega));have u2:=Kt (s.heap.update kS (KR λ_=>(#[]:Array Qr))) D (KR λ_=>out.toArray);rw [hf];simp only [bne_self_eq_false,Kh,if_false];exact Qu (q _ _ (Rr hD1 λ_=>out.toArray) λb u n1 n2 z=>(u2.2 b n2).trans ((u1.2 b n1).trans z))
theorem Gi{kS D:Qs}{vs ks:List Qr}{n e e1:Nat}{kp:Nat->Int×Str}{C:OW->Qt->Prop}(hv:vs.length=n)(hn:ks.length=n)(h64:n < 64)(hks:s.heap.get? kS=some (QJ "list" ks.toArray e))(hD:s.heap.get? D=some (QJ "list" #[] e1))(hne:kS≠D)
 (hk:∀i v,ks[i]?=some v->lQ s.heap v (kp i))(hd:∀i j,i < n->j < n->kp i=kp j->i=j)
 (q:∀p,bA n p->Up (λi j=>aC (kp i) (kp j)) p n->Ah kS D s (p.toList.map λi=>vs.getD i .none) (C (.done (.ret .none)))):Qv (Qw P w) A (ksk_end D false vs.toArray e1 (.ref kS) ks.toArray) C E s:=by
 unfold ksk_end;have hz:vs.toArray.size=n:=by rw [JT];exact hv
 by_cases h2:n < 2
 ·simp only [Kh,if_false,hz,h2,if_true];refine Qq (Qu (Qq (Qu ?_)));refine Ai hks hD hne rfl (out:=vs) ?_ Qj Qj ?_
  ·show(ks.toArray.zip vs.toArray).map (·.2)=vs.toArray;apply Pg.mp;simp only [Ph,Pj];rw [Pk Qj]
  ·have:=q _ (vi n) (λi j a b=>by omega);have e:((OV (KQ n)).toList.map λi=>vs.getD i Mg)=vs:=by
    apply ML (by simp [hv]);intro i a b;simp at a b⊢;rw [JN b];rfl
   rw [e] at this;exact this
 ·simp only [Kh,if_false,hz,h2];refine Qq (Af hk Qj ?_);have hl:ks.length=vs.length:=Qj
  refine Qq (QM (kat_run (κ:=tuples' true) (E:=λ_ _=>False) (Q:=λst' s'=>s'=s/\∃p,bA n p/\Up (λi j=>aC (kp i) (kp j)) p n/\arrOf st'=p.map (kas_item (ks.toArray.zip vs.toArray))/\failedOf st'=none) (G:=λp s'=>s'=s/\bA n p/\Up (λi j=>aC (kp i) (kp j)) p n) hl Qj Qj
   (λp st' s' a b c d=>⟨d.1,p,d.2.1,d.2.2,b,c⟩) ?_) (λr s' hr=>?_) λ_ _ x=>x.elim)
  ·rw [hv];exact Ag hn Qj hk hd λp a b=>⟨rfl,a,b⟩
  ·obtain⟨rfl,p,p1,p2,p3,p4⟩:=hr;refine Ai hks hD hne p4 (kat_snds hl p3) ?_ Qj (q p p1 p2);rw [Jv,JL,p1.size];exact h64
end
section
variable {X:Cx} {Sb:List (Qs×Obj)} {σ:St} {H:Hp} {s:Qt}
theorem aa.track{o:HO}{D:Qs}{ch:List Qs}{t':Nat}{h':QB}(I:aa X Sb σ H s)(hD:D∈ch)(f:∀b∈ch,iE X Sb H b)(k:∀b u,b ∉ ch->s.heap.get? b=some u->h'.get? b=some u)(new:bx X.prog X.w (ao H D o) h' D o):aa X Sb σ (ao H D o) {s with heap:=h',toks:=t'}:=by
 have nC:∀b u,H b=some u->b ∉ ch:=λb u e z=>by rw [(f b z).1] at e;cases e
 have nD:∀b u,H b=some u->b≠D:=λb u e z=>nC b u e (by rw [z];exact hD);refine I.step (g':=s.gens) (d':=s.drawn) (ch:=ch) (λb hb=>?_) (λb o _ _ hc e _=>k b o hc e) (λb o _ _ hc e _=>⟨o.slots,k b o hc e⟩) (λb o hc _ n=>by rw [az (λz=>hc (by rw [z];exact hD))];exact n)
  (λb o hc e=>⟨o,k b o hc e⟩) (λb xs e=>by rw [az (nD _ _ e)];exact e) (λb u xs e=>by rw [az (nD _ _ e)];exact e) (λb ps e=>⟨#[],by rw [az (nD _ _ e),e];simp⟩) (λm hm=>hm.at' λo e=>k _ o (λz=>(f _ z).2.1 rfl) e) (λb u e=>?_) I.bare
 ·obtain⟨f0,f1,f2,f3,f4,f5⟩:=f b hb;exact⟨f3,f1,f4,f5⟩
 ·by_cases hb:b=D
  ·subst hb;rw [bh] at e;cases e;exact new
  ·rw [az hb] at e;refine(I.hok b u e).stay (λc v hc q=>k c v (λz=>?_) q) (λc q=>by rw [az (nD _ _ q)];exact q) (λc xs q=>by rw [az (nD _ _ q)];exact q) (λc xs q=>by rw [az (nD _ _ q)];exact q);rcases hc with r | r
   ·subst r;exact nC _ _ e z
   ·exact nC _ _ r z
theorem Gj{k:Nat}{f:Qs}{fd:QC}{ps:List Str}{sp:Sp}{v:V}{u:Qr}{Q:VK}(Fk:aB X.prog X.w X.K X.mg X.base aM k f fd ps sp)(hr:aP k X.A.in1.in1)(hb:dA X.K fd ps [])(I:aa X Sb σ H s)(r:ay v u)(h:sp [v] H Q E0):
 Qv (Qw X.prog X.w) X.A.in1.in1 (call (.ref f) [u]) (EP X Sb σ Q) (λ_ _=>False) s:=by
 have r2:aA [v] [u]:= .cons r .nil;have hl:([u]++[]).length=ps.length:=by
  have:=Fk.len _ _ _ _ h;simpa using this
 have hb2:=hb s [u] I.kIn hl;rw [J5] at hb2;refine wpAny_call (Q2 (Fk.run X.A.in1.in1 X.stack s H ⟨[u],[]⟩ [u] [v] Q E0 hr I.env0.in1.in1 hb2 r2 h) λr s' hq=>?_);cases r with
 | error e=>exact hq.elim
 | ok fl=>
  cases fl with
  | ret u=>exact I.after hq
  | next=>exact K6 hq
  | brk=>exact K6 hq
  | cont=>exact K6 hq
def nL(X:Cx)(Sb:List (Qs×Obj))(b:Qs):Prop:=b≠X.env.locals/\b ∉ X.fs/\(b∈X.ex\/X.s₀.heap.objs.size<=b)/\(∀x c,X.env.cells.lookup x=some c->c≠b)/\∀p∈X.pn++Sb,p.1≠b
theorem aa.out(I:aa X Sb σ H s){b:Qs}(hb:s.heap.objs.size<=b):nL X Sb b:=(I.fpOk (H':=H) hb (I.hok.fresh hb)).2
structure nM (X:Cx) (Sb:List (Qs×Obj)) (σ:St) (H:Hp) (O:Ex) (kS D:Qs) (e1:Nat) (kds:List Qp) (ks:List Qr) (s:Qt):Prop where
 ex:∃H' kvs e,aa X (Sb++[(kS,QJ "list" ks.toArray e),(D,QJ "list" #[] e1)]) σ H' s/\ai H H'/\ah X.K H' O kvs kds/\aA kvs ks
theorem nM.push{O:Ex}{kS D:Qs}{e1:Nat}{kds:List Qp}{ks:List Qr}{H':Hp}{kvs:List V}{e:Nat}{h':QB}{kv:V}{kd:Qp}{k:Qr}(oS:nL X Sb kS)(oD:nL X Sb D)(hne:kS≠D)
 (I:aa X (Sb++[(kS,QJ "list" ks.toArray e),(D,QJ "list" #[] e1)]) σ H' s)(hs:ai H H')(hk:ah X.K H' O kvs kds)(hv:aA kvs ks)(k1:Dt X.K H' O kv kd)(k2:ay kv k)
 (hu:∃e',h'.get? kS=some (QJ "list" (ks++[k]).toArray e'))(kept:∀b u,b≠kS->s.heap.get? b=some u->h'.get? b=some u):nM X Sb σ H O kS D e1 (kds++[kd]) (ks++[k]) {s with heap:=h'}:=by
 obtain⟨e',hu⟩:=hu;have pS:=I.pin (kS,QJ "list" ks.toArray e) Qo;have pD:=I.pin (D,QJ "list" #[] e1) Qo;have I1:aa X Sb σ H' s:=I.pins_of λp hp=>I.pin p (by simp only [JI] at hp⊢;exact .inr (.inl hp));have I2:aa X Sb σ H' {s with heap:=h'}:=I1.turned (t':=s.toks) (it:=kS) kept pS.2.1 oS.1 oS.2.2.1 oS.2.2.2.1 oS.2.2.2.2;refine⟨H',kvs++[kv],e',I2.pins_of λp hp=>?_,hs,hk.append (.cons k1 .nil),hv.append (.cons k2 .nil)⟩;rcases JI.mp hp with z | z
 ·exact I2.pin p (Kc _ z)
 ·simp only [JF,KA,or_false] at z;rcases z with rfl | rfl
  ·exact⟨hu,pS.2.1,oS.1,oS.2.1,λv z=>by cases z⟩
  ·exact⟨kept _ _ (Ne.symm hne) pD.1,pD.2.1,oD.1,oD.2.1,λv z=>by cases z⟩
theorem Aj{k:Nat}{f:Qs}{fd:QC}{ps:List Str}{F:List Qp->(Qp->Prop)->Prop}{O:Ex}{kS D:Qs}{e1:Nat}{kd:Qp->Qp}(Fk:aB X.prog X.w X.K X.mg X.base aM k f fd ps (bb X.K F))(hr:aP k X.A.in1.in1)(hb:dA X.K fd ps [])(trk:∀l,O l->H l≠none)
 (oS:nL X Sb kS)(oD:nL X Sb D)(hne:kS≠D){body:Qr->PUnit->Sem (ForInStep PUnit)}{E:Qr->Qt->Prop}
 (hbo:∀(x:Qr) (s:Qt) (Q':Qt->Prop),Qv (Qw X.prog X.w) X.A.in1.in1 (call (.ref f) [x]) (λk s'=>Qv (Qw X.prog X.w) X.A.in1.in1 (Oa (.ref kS) (·.push k)) (λ_ s''=>Q' s'') (λ_ _=>False) s') (λ_ _=>False) s->Qv (Qw X.prog X.w) X.A.in1.in1 (body x ⟨⟩) (λr s'=>r= .yield ⟨⟩/\Q' s') E s):
 ∀(r:List Qr)(xr:List V)(dr:List Qp)(kds:List Qp)(ks:List Qr)(s:Qt)(Q:Qt->Prop),aA xr r->ah X.K H O xr dr->(∀d∈dr,∀R:Qp->Prop,R (kd d)->F [d] R)->nM X Sb σ H O kS D e1 kds ks s->ks.length+r.length < 64->
  (∀ks' s',nM X Sb σ H O kS D e1 (kds++dr.map kd) ks' s'->ks'.length=ks.length+r.length->Q s')->Qv (Qw X.prog X.w) X.A.in1.in1 (forIn r PUnit.unit body) (λ_ s'=>Q s') E s
 | [],xr,dr,kds,ks,s,Q,hv,hd,hF,M,hl,q=>by
  cases hv;cases hd;rw [PB];exact Qu (q ks s (by rw [Kk,J5];exact M) Qo)
 | x::r,xr,dr,kds,ks,s,Q,hv,hd,hF,M,hl,q=>by
  cases hv with
  | @cons v _ xr _ h1 h2=>
   cases hd with
   | @cons _ d _ dr g1 g2=>
    rw [Pm];rw [JS] at hl;obtain⟨H',kvs,e,I,hs,hk,hvk⟩:=M.ex;refine Qq (QM (hbo x s (λs'=>∃k,nM X Sb σ H O kS D e1 (kds++[kd d]) (ks++[k]) s') (QM (Gj (Q:=λv2 H2=>ai H' H2/\Dt X.K H2 O v2 (kd d)) Fk hr hb I h1 ⟨O,[d],λy=>y=kd d,λl z e=>trk l z (by
     cases q:H l with
     | none=>rfl
     | some u=>rw [hs _ _ q] at e;cases e),.cons (g1.mono hs) .nil,hF d Qo _ rfl,λy v2 H2 e s2 r2=>by subst e;exact⟨s2,r2⟩⟩) (λkk s' hq=>?_) λ_ _ z=>z)) (λr' s' hq=>?_) λ_ _ z=>z)
    ·obtain⟨kv,H2,I2,rk,s2,dk⟩:=hq;have pS:=I2.pin (kS,QJ "list" ks.toArray e) Qo;refine Rp pS.1 rfl ⟨kk,?_⟩ (by rw [JT];have:Qz=16777216:=QK;omega) (by rw [Array.size_push,JT];have:Qz=16777216:=QK;omega);have u1:=Kt s'.heap kS (KR (·.push kk));have gk:=Rr pS.1 (·.push kk);rw [show ks.toArray.push kk=(ks++[kk]).toArray by simp] at gk;exact nM.push oS oD hne I2 (hs.trans s2) (hk.mono s2) hvk dk rk ⟨_,gk⟩ λb u n z=>(u1.2 b n).trans z
    ·obtain⟨rfl,kk,M'⟩:=hq;refine Aj Fk hr hb trk oS oD hne hbo r xr dr (kds++[kd d]) (ks++[kk]) s' Q h2 g2 (λy hy=>hF y (by simp [hy])) M' (by simp;omega) λks' s2 M2 l2=>q ks' s2 ?_ (by rw [l2];simp;omega);rw [JB,<-List.singleton_append,<-NV];exact M2
def bR(p:Int×Str):Qp:= .tuple [.int p.1,.str p.2]
theorem vo{h:V}{u:Qr}{O:Ex}{p:Int×Str}(I:aa X Sb σ H s)(d:Dt X.K H O h (bR p))(r:ay h u):lQ s.heap u p:=by
 obtain⟨a,xs,rfl,hq,hd⟩:=(Sh.dt d).tup;cases r;obtain⟨its,rv,⟨o,e,c,n,dd⟩,_⟩:=I.tuple hq;cases hd with
 | cons g1 g2=>
  cases g2 with
  | cons g2 g3=>
   cases g3;cases g1;cases g2;cases rv with
   | cons r1 r2=>
    cases r2 with
    | cons r2 r3=>
     cases r3;obtain⟨t,rfl⟩:=r1;obtain⟨u,rfl⟩:=r2;exact⟨a,o,n,t,u,rfl,e,c,dd⟩
theorem qA{K:Ju}{H:Hp}{O:Ex}:∀{xs:List V}{ds:List Qp}{i:Nat}{d:Qp},ah K H O xs ds->ds[i]?=some d->∃x,xs[i]?=some x/\Dt K H O x d
 | _,_,0,d,.cons h r,e=>by simp at e;subst e;exact⟨_,rfl,h⟩
 | _,_,i+1,d,.cons h r,e=>by simp only [J6] at e⊢;exact qA r e
theorem qB{xs:List V}{us:List Qr}:∀{i:Nat}{u:Qr},aA xs us->us[i]?=some u->∃x,xs[i]?=some x/\ay x u:=by
 intro i u h e;have hl:=h.length;have hi:i < us.length:=(JH.mp e).1;obtain⟨u',e',r⟩:=h.get (show xs[i]?=some (xs[i]'Qj) by simp);rw [e] at e';cases e';exact⟨_,Qo,r⟩
theorem Gk{O:Ex}{kS D:Qs}{e1:Nat}{kps:List (Int×Str)}{ks:List Qr}(M:nM X Sb σ H O kS D e1 (kps.map bR) ks s):(∀i v,ks[i]?=some v->lQ s.heap v (kps.getD i (0,Jt "")))/\ks.length=kps.length:=by
 obtain⟨H',kvs,e,I,hs,hk,hv⟩:=M.ex;have hl:ks.length=kps.length:=by rw [<-hv.length,hk.length,Jv]
 refine⟨λi v ei=>?_,hl⟩;have hi:i < kps.length:=by rw [<-hl];exact(JH.mp ei).1
 obtain⟨x,ex,rx⟩:=qB hv ei;obtain⟨y,ey,dy⟩:=qA (i:=i) (d:=bR kps[i]) hk (by rw [JD,JN hi];rfl);rw [ex] at ey;cases ey;have:kps.getD i (0,Jt "")=kps[i]:=by simp [hi]
 rw [this];exact vo I dy rx
theorem Gm{k:Nat}{f:Qs}{fd:QC}{ps:List Str}{F:List Qp->(Qp->Prop)->Prop}{O:Ex}{D:Qs}{n0:Nat}{kf:Qp->Int×Str}{vs:List Qr}{xs:List V}{ds:List Qp}{Q:V->Hp->Prop}{C:OW->Qt->Prop}{E:Qr->Qt->Prop}
 (Fk:aB X.prog X.w X.K X.mg X.base aM k f fd ps (bb X.K F))(hr:aP k X.A.in1.in1)(hb:dA X.K fd ps [])(trk:∀l,O l->H l≠none)(I:aa X Sb σ H s)(oD:nL X Sb D)(hHD:H D=none)(hD:s.heap.get? D=some (QJ "list" vs.toArray n0))
 (hv:aA xs vs)(hd:ah X.K H O xs ds)(hF:∀d∈ds,∀R:Qp->Prop,R (bR (kf d))->F [d] R)(h64:ds.length < 64)(nd:(ds.map kf).Nodup)
 (q:∀(H':Hp) (xs':List V) (ds':List Qp),ai H H'->H' D=none->ah X.K H' O xs' ds'->ds'.Perm ds->ds'.Pairwise (λa b=>aC (kf a) (kf b)=true)->Q (.ref D) (ao H' D (.lst xs')))
 (fin:∀s',EP X Sb σ Q (.ref D) s'->C (.done (.ret .none)) s'):Qv (Qw X.prog X.w) X.A.in1.in1 (ksk_tree D (.ref f) false) C E s:=by
 have hsl:Qz=16777216:=QK;have lv:vs.length=ds.length:=by rw [<-hv.length,hd.length]
 have lD:D < s.heap.objs.size:=JC hD;unfold ksk_tree;refine Qq (listItems_at hD rfl (Qq (Rp hD rfl ?_ (by rw [JT];omega) (KI _))));have u1:=Kt s.heap D (KR λ_=>(#[]:Array Qr));have g1:=Rr hD λ_=>(#[]:Array Qr);have I1:aa X Sb σ H {s with heap:=s.heap.update D (KR λ_=>(#[]:Array Qr))}:=I.turned (t':=s.toks) (it:=D) (λb u n z=>(u1.2 b n).trans z) hHD oD.1 oD.2.2.1 oD.2.2.2.1 oD.2.2.2.2;generalize s.heap.update D (KR λ_=>(#[]:Array Qr))=h1 at*;generalize (if (#[]:Array Qr).size==vs.toArray.size then n0 else n0+1)=e1 at*;refine Qq (seqEpoch_at (s:={s with heap:=h1}) g1 rfl ?_);refine Qq (wpAny_newTuple ?_ (by show vs.length<=_;omega));have I2:aa X Sb σ H {s with heap:=h1.push {cls:= .type "tuple",data:= .seq vs.toArray}}:=I1.kept (t':=s.toks) λb u z=>Jx _ z;have g2:(h1.push {cls:= .type "tuple",data:= .seq vs.toArray}).get? D=some (QJ "list" #[] e1):=Jx _ g1;show Qv _ _ _ _ _ {s with heap:=h1.push {cls:= .type "tuple",data:= .seq vs.toArray}};generalize h1.push {cls:= .type "tuple",data:= .seq vs.toArray}=h2 at*;refine Qq (Ro (s:={s with heap:=h2}) ?_ (KI _));have oS:nL X Sb h2.objs.size:=I2.out (Jy _);have hne:h2.objs.size≠D:=M3 (JC g2);have I3:aa X Sb σ H {s with heap:=h2.push (QJ "list" #[] 0)}:=I2.kept (t':=s.toks) λb u z=>Jx _ z;have hS0:H h2.objs.size=none:=I2.hok.fresh (Jy _);have M0:nM X Sb σ H O h2.objs.size D e1 [] [] {s with heap:=h2.push (QJ "list" #[] 0)}:=by
  refine⟨H,[],0,I3.pins_of λp hp=>?_,ai.refl _,.nil,.nil⟩;rcases JI.mp hp with z | z
  ·exact I3.pin p (Kc _ z)
  ·simp only [JF,KA,or_false] at z;rcases z with rfl | rfl
   ·exact⟨JR _ rfl,hS0,oS.1,oS.2.1,λv z=>by cases z⟩
   ·exact⟨Jx _ g2,hHD,oD.1,oD.2.1,λv z=>by cases z⟩
 refine QR ?_;unfold ksk_rest;refine Qq (RK ?_);rw [List.forIn_toArray];refine Qq (Aj (kd:=λd=>bR (kf d)) (E:=E) Fk hr hb trk oS oD hne (λx s' Q' hx=>?_) vs xs ds [] [] _ _ hv hd hF M0 (by simp;omega) λks s' M hkl=>?_)
 ·refine Qq (RG (QM hx (λkk s2 hk=>?_) λ_ _ z=>z.elim));exact Qq (QM hk (λ_ s3 z=>Qu ⟨rfl,z⟩) λ_ _ z=>z.elim)
 ·rw [KC,<-Function.comp_def,<-Ku] at M;obtain⟨hk,hkn⟩:=Gk M;rw [Jv] at hkn;obtain⟨H',kvs,e,I4,hs,_,_⟩:=M.ex;have pS:=I4.pin (h2.objs.size,QJ "list" ks.toArray e) Qo;have pD:=I4.pin (D,QJ "list" #[] e1) Qo;have I5:aa X Sb σ H' s':=I4.pins_of λp hp=>I4.pin p (by simp only [JI] at hp⊢;exact .inr (.inl hp));refine Qq (listItems_at pS.1 rfl ?_);refine Gi (n:=ds.length) (kp:=λi=>(ds.map kf).getD i (0,Jt "")) lv hkn h64 pS.1 pD.1 hne hk (λi j hi hj ee=>?_) λp pp pu h' c gD kept=>?_
  ·have e1':(ds.map kf).getD i (0,Jt "")=(ds.map kf)[i]'(by simpa using hi):=by simp [hi]
   have e2':(ds.map kf).getD j (0,Jt "")=(ds.map kf)[j]'(by simpa using hj):=by simp [hj]
   rw [e1',e2'] at ee;exact(Nl nd).mp ee
  ·refine fin _ ⟨.ref D,ao H' D (.lst (p.toList.map λi=>xs.getD i .non)),?_,rfl,q H' _ (p.toList.map λi=>ds.getD i .none) hs pD.2.1 ?_ ?_ ?_⟩
   ·refine I5.track (t':=s'.toks) (ch:=[h2.objs.size,D]) Qo (λb hb=>?_) (λb u hb z=>kept b u (λy=>hb (by simp [y])) (λy=>hb (by simp [y])) z) ⟨?_,_,c,?_,gD⟩
    ·simp only [JF,KA,or_false] at hb;rcases hb with rfl | rfl
     ·exact⟨pS.2.1,oS⟩
     ·exact⟨pD.2.1,oD⟩
    ·rw [Jv,JL,pp.size];omega
    ·have:∀l:List Nat,(∀i∈l,i < ds.length)->aA (l.map λi=>xs.getD i .non) (l.map λi=>vs.getD i .none):=by
      intro l
      induction l with
      | nil=>intro _;exact .nil
      | cons a l ih=>
       intro hl;have ha:=hl a Qo;refine .cons ?_ (ih λi hi=>hl i (by simp [hi]));obtain⟨x,ex,rx⟩:=qB hv (show vs[a]?=some (vs[a]'Qj) by simp);have e1':xs.getD a .non=x:=by simp [ex]
       have e2':vs.getD a .none=vs[a]'Qj:=by simp [show a < vs.length by omega]
       show ay (xs.getD a .non) (vs.getD a .none);rw [e1',e2'];exact rx
     exact this _ λi hi=>by simpa using pp.perm.mem_iff.mp hi
   ·have:∀l:List Nat,(∀i∈l,i < ds.length)->ah X.K H' O (l.map λi=>xs.getD i .non) (l.map λi=>ds.getD i .none):=by
     intro l
     induction l with
     | nil=>intro _;exact .nil
     | cons a l ih=>
      intro hl;have ha:=hl a Qo;refine .cons ?_ (ih λi hi=>hl i (by simp [hi]));obtain⟨x,ex,dx⟩:=qA (i:=a) (d:=ds[a]) hd (by simp [ha]);have e1':xs.getD a .non=x:=by simp [ex]
      have e2':ds.getD a .none=ds[a]:=by simp [ha]
      show Dt X.K H' O (xs.getD a .non) (ds.getD a .none);rw [e1',e2'];exact dx.mono hs
    exact this _ λi hi=>by simpa using pp.perm.mem_iff.mp hi
   ·have h1:=pp.perm.map λi=>ds.getD i .none;have e:(KQ ds.length).map (λi=>ds.getD i ND)=ds:=by
     apply ML Qo;intro i a b;simp at a b⊢;rw [JN b];rfl
    rw [e] at h1;exact h1
   ·rw [La,N1];intro i j hi hj hij;have:=pu i j hij (by rw [JL,pp.size] at hj;exact hj);have ei:p.getD i 0=p.toList[i]:=by simp [Na,show i < p.size by simpa using hi]
    have ej:p.getD j 0=p.toList[j]:=by simp [Na,show j < p.size by simpa using hj]
    rw [ei,ej] at this;have li:p.toList[i] < ds.length:=by simpa using pp.perm.mem_iff.mp (KY hi)
    have lj:p.toList[j] < ds.length:=by simpa using pp.perm.mem_iff.mp (KY hj)
    have ff:∀a,a < ds.length->(ds.map kf).getD a (0,Jt "")=kf (ds.getD a .none):=λa ha=>by simp [ha]
    dsimp only at this;rw [ff _ li,ff _ lj] at this;exact this
theorem Gn{k:Nat}{f l:Qs}{fd:QC}{ps:List Str}{F:List Qp->(Qp->Prop)->Prop}{O:Ex}{kf:Qp->Int×Str}{xs:List V}{ds:List Qp}{Q:VK}
 (hc:X.calm=true)(Fk:aB X.prog X.w X.K X.mg X.base aM k f fd ps (bb X.K F))(hr:aP k X.A.in1.in1)(hb:dA X.K fd ps [])(trk:∀l,O l->H l≠none)(I:aa X Sb σ H s)(hq:aS X.K H l xs)
 (hd:ah X.K H O xs ds)(hF:∀d∈ds,∀R:Qp->Prop,R (bR (kf d))->F [d] R)(h64:ds.length < 64)(nd:(ds.map kf).Nodup)
 (q:∀(H':Hp) (p:Qs) (xs':List V) (ds':List Qp),ai H H'->H' p=none->ah X.K H' O xs' ds'->ds'.Perm ds->ds'.Pairwise (λa b=>aC (kf a) (kf b)=true)->Q (.ref p) (ao H' p (.lst xs'))):
 Qv (Qw X.prog X.w) X.A (call (.builtin "sorted") [.ref l] [(Jt "key",.ref f)]) (EP X Sb σ Q) X.xe s:=by
 have hsl:Qz=16777216:=QK;obtain⟨vs,hv,pl,hz⟩:=I.list hq;have lv:vs.length=ds.length:=by rw [<-hv.length,hd.length]
 refine call_function_entry_kw kind_sorted plain_sorted entry_sorted (ksk_s1 _ _) ?_;unfold Builtin.«sorted»;refine Qq (m:=checkCount "sorted" 1 1 _) (Qu ?_);refine Qq (collect_list pl.isList ?_ Qj);have I1:aa X Sb σ H {s with heap:=(s.heap.push (QJ "list" #[] 0)).update s.heap.objs.size (KR (·++vs.toArray))}:=by
  refine I.kept (t':=s.toks) λb u z=>?_;have hlt:b < s.heap.objs.size:=JC z;exact(OG _ _ _ _ (JW hlt)).trans (Jx _ z)
 generalize (s.heap.push (QJ "list" #[] 0)).update s.heap.objs.size (KR (·++vs.toArray))=h1 at*;refine Qq (Ro (s:={s with heap:=h1}) ?_ Qj);have I2:aa X Sb σ H {s with heap:=h1.push (QJ "list" vs.toArray 0)}:=I1.kept (t':=s.toks) λb u z=>Jx _ z;have gD:(h1.push (QJ "list" vs.toArray 0)).get? h1.objs.size=some (QJ "list" vs.toArray 0):=JR _ rfl;refine Qq (QR (wpAny_call_entry_kw RR ⟨_,gD,rfl⟩ RP ?_ (ksk_l1 _ _)));rw [ksk_t1];refine Gm (kf:=kf) Fk hr hb trk I2 (I1.out (Jy _)) (I1.hok.fresh (Jy _)) gD hv hd hF h64 nd (Q:=Q) (λH' xs' ds' a b c d e=>q H' _ xs' ds' a b c d e) λs' hs'=>?_;exact⟨_,rfl,Qu ⟨_,rfl,hs'⟩⟩
end
section
variable {P:QA} {w:QE} {A:QF} {E:Qr->Qt->Prop} {s:Qt}
theorem Gp{D:Qs}{vs:List Qr}{n n0:Nat}{kp:Nat->Int×Str}{C:OW->Qt->Prop}(hv:vs.length=n)(h64:n < 64)(hD:s.heap.get? D=some (QJ "list" vs.toArray n0))(hk:∀i v,vs[i]?=some v->lQ s.heap v (kp i)/\v≠ .ref D)(hd:∀i j,i < n->j < n->kp i=kp j->i=j)
 (q:∀p,bA n p->Up (λi j=>aC (kp i) (kp j)) p n->∀h' c,h'.get? D=some (QJ "list" (p.toList.map λi=>vs.getD i .none).toArray c)->(∀b u,b≠D->s.heap.get? b=some u->h'.get? b=some u)->C (.done (.ret .none)) {s with heap:=h'}):
 Qv (Qw P w) A (Builtin.«list.sort» ⟨[.ref D],[]⟩) C E s:=by
 have hsl:Qz=16777216:=QK;rw [list_sort_plain];refine Qq (listItems_at hD rfl (Qq (Rp hD rfl ?_ (by rw [JT];omega) (KI _))));have u1:=Kt s.heap D (KR λ_=>(#[]:Array Qr));have g1:=Rr hD λ_=>(#[]:Array Qr);have k1:∀b u,b≠D->s.heap.get? b=some u->(s.heap.update D (KR λ_=>(#[]:Array Qr))).get? b=some u:=λb u n z=>(u1.2 b n).trans z;generalize s.heap.update D (KR λ_=>(#[]:Array Qr))=h1 at*;generalize (if (#[]:Array Qr).size==vs.toArray.size then n0 else n0+1)=e1 at*;refine Qq (seqEpoch_at (s:={s with heap:=h1}) g1 rfl ?_);refine Qq (wpAny_newTuple ?_ (by show vs.length<=_;omega));refine Qq (Ro ?_ (KI _));have g2:((h1.push {cls:= .type "tuple",data:= .seq vs.toArray}).push {cls:= .type "list",data:= .seq ([]:List Qr).toArray}).get? D=some (QJ "list" #[] e1):=Jx _ (Jx _ g1);have k2:∀b u,b≠D->s.heap.get? b=some u->((h1.push {cls:= .type "tuple",data:= .seq vs.toArray}).push {cls:= .type "list",data:= .seq ([]:List Qr).toArray}).get? b=some u:=λb u n z=>Jx _ (Jx _ (k1 b u n z));show Qv _ _ _ _ _ {s with heap:=(h1.push {cls:= .type "tuple",data:= .seq vs.toArray}).push {cls:= .type "list",data:= .seq ([]:List Qr).toArray}};generalize (h1.push {cls:= .type "tuple",data:= .seq vs.toArray}).push {cls:= .type "list",data:= .seq ([]:List Qr).toArray}=h2 at*;refine QR ?_;have hz:vs.toArray.size=n:=by rw [JT];exact hv
 have last:∀(st:SortSt)(p:Array Nat),bA n p->Up (λi j=>aC (kp i) (kp j)) p n->failedOf st=none->(arrOf st).map (·.2)=(p.toList.map λi=>vs.getD i .none).toArray->
  Qv (Qw P w) A (do
   let touched:=(<-seqEpoch D) !=e1
   Oa (.ref D) λ_=>(arrOf st).map (·.2)
   if let some e:=failedOf st then rule "list.sort.comparison-raised";throw e
   if touched then rule "list.sort.modified";raiseError "ValueError" "list modified during sort"
   ret .none) C E {s with heap:=h2}:=by
  intro st p p1 p2 hf ho;rw [ho,hf];refine Qq (seqEpoch_at (s:={s with heap:=h2}) g2 rfl ?_);refine Qq (Rp (s:={s with heap:=h2}) g2 rfl ?_ (KI _) (by rw [JT,Jv,JL,p1.size];omega));simp only [bne_self_eq_false,Kh,if_false];have u3:=Kt h2 D (KR λ_=>(p.toList.map λi=>vs.getD i Mg).toArray);exact Qu (q p p1 p2 _ _ (Rr g2 λ_=>(p.toList.map λi=>vs.getD i Mg).toArray) λb u n z=>(u3.2 b n).trans (k2 b u n z))
 by_cases h2':n < 2
 ·simp only [hz,h2',if_true];refine Qq (Qu (Qq (Qu ?_)));refine last _ (OV (KQ n)) (vi n) (λi j a b=>by omega) rfl ?_;show(vs.toArray.zip vs.toArray).map (·.2)=_;apply Pg.mp;simp only [Ph,Pj];rw [Pk Qj];apply ML (by simp [hv]);intro i a b;simp at a b⊢;rw [JN a];rfl
 ·simp only [hz,h2',if_false];have hk2:∀i v,vs[i]?=some v->lQ h2 v (kp i):=λi v e=>by
   obtain⟨⟨a,o,m,t,u,rfl,x1,x2,x3⟩,ne⟩:=hk i v e;exact⟨a,o,m,t,u,rfl,k2 a o (λz=>ne (by rw [z])) x1,x2,x3⟩
  refine Qq (Af (s:={s with heap:=h2}) hk2 Qj ?_);refine Qq (QM (kat_run (κ:=tuples' true) (ks:=vs) (s:={s with heap:=h2}) (E:=λ_ _=>False) (Q:=λst' s'=>s'={s with heap:=h2}/\∃p,bA n p/\Up (λi j=>aC (kp i) (kp j)) p n/\arrOf st'=p.map (kas_item (vs.toArray.zip vs.toArray))/\failedOf st'=none) (G:=λp s'=>s'={s with heap:=h2}/\bA n p/\Up (λi j=>aC (kp i) (kp j)) p n) rfl Qj Qj
   (λp st' s' a b c d=>⟨d.1,p,d.2.1,d.2.2,b,c⟩) ?_) (λr s' hr=>?_) λ_ _ x=>x.elim)
  ·rw [hv];exact Ag (s:={s with heap:=h2}) hv Qj hk2 hd λp a b=>⟨rfl,a,b⟩
  ·obtain⟨rfl,p,p1,p2,p3,p4⟩:=hr;exact last _ p p1 p2 p4 (kat_snds rfl p3)
end
theorem Gq{X:Cx}:cj X (.builtin "sorted") (λxs H Q=>∃(p:Qs)(us:List V)(O:Ex)(ps:List (Int×Str)),xs=[.ref p]/\aS X.K H p us/\ah X.K H O us (ps.map bR)/\ps.length < 64/\ps.Nodup/\∀(l:Qs)(us':List V)(ps':List (Int×Str)),H l=none->ah X.K H O us' (ps'.map bR)->ps'.Perm ps->ps'.Pairwise (λa b=>aC a b=true)->Q (.ref l) (ao H l (.lst us'))):=by
 intro Sb s σ H xs ws Q I r h;obtain⟨l,us,O,ps,rfl,hq,hd,h64,nd,q⟩:=h;obtain⟨u,rfl,rx⟩:=dR r;cases rx;have hsl:Qz=16777216:=QK;obtain⟨vs,hv,pl,hz⟩:=I.list hq;have lv:vs.length=ps.length:=by rw [<-hv.length,hd.length,Jv]
 refine MX kind_sorted plain_sorted entry_sorted (args_sorted1 _) ?_;unfold Builtin.«sorted»;refine Qq (m:=checkCount "sorted" 1 1 _) (Qu ?_);refine Qq (collect_list pl.isList ?_ Qj);have I1:aa X Sb σ H {s with heap:=(s.heap.push (QJ "list" #[] 0)).update s.heap.objs.size (KR (·++vs.toArray))}:=by
  refine I.kept (t':=s.toks) λb u z=>?_;have hlt:b < s.heap.objs.size:=JC z;exact(OG _ _ _ _ (JW hlt)).trans (Jx _ z)
 generalize (s.heap.push (QJ "list" #[] 0)).update s.heap.objs.size (KR (·++vs.toArray))=h1 at*;refine Qq (Ro (s:={s with heap:=h1}) ?_ Qj);have I2:aa X Sb σ H {s with heap:=h1.push (QJ "list" vs.toArray 0)}:=I1.kept (t':=s.toks) λb u z=>Jx _ z;have gD:(h1.push (QJ "list" vs.toArray 0)).get? h1.objs.size=some (QJ "list" vs.toArray 0):=JR _ rfl;have hH:H h1.objs.size=none:=I1.hok.fresh (Jy _);have oD:nL X Sb h1.objs.size:=I1.out (Jy _);have isp:∀i v,vs[i]?=some v->lQ (h1.push (QJ "list" vs.toArray 0)) v (ps.getD i (0,Jt ""))/\v≠ .ref h1.objs.size:=λi v ei=>by
  have hi:i < ps.length:=by rw [<-lv];exact(JH.mp ei).1
  obtain⟨x,ex,rx⟩:=qB hv ei;obtain⟨y,ey,dy⟩:=qA (i:=i) (d:=bR ps[i]) hd (by rw [JD,JN hi];rfl);rw [ex] at ey;cases ey;have e:ps.getD i (0,Jt "")=ps[i]:=by simp [hi]
  rw [e];have a:=vo I1 dy rx;refine⟨vo I2 dy rx,λz=>?_⟩;obtain⟨ad,o,m,t,u,e1,e2,_⟩:=a;rw [e1] at z;cases z;exact absurd (JC e2) (Le _)
 refine Qq (QR (QQ RR ⟨_,gD,rfl⟩ RP ?_ (args_list_sort _)));refine Gp (s:={s with heap:=h1.push (QJ "list" vs.toArray 0)}) (n:=ps.length) (kp:=λi=>ps.getD i (0,Jt "")) lv h64 gD isp (λi j hi hj ee=>?_) λp pp pu h' c g kept=>?_
 ·have e1':ps.getD i (0,Jt "")=ps[i]:=by simp [hi]
  have e2':ps.getD j (0,Jt "")=ps[j]:=by simp [hj]
  rw [e1',e2'] at ee;exact(Nl nd).mp ee
 ·have lt:∀i∈p.toList,i < ps.length:=λi hi=>by simpa using pp.perm.mem_iff.mp hi
  have dm:ah X.K H O (p.toList.map λi=>us.getD i .non) ((p.toList.map λi=>ps.getD i (0,Jt "")).map bR):=by
   have:∀l:List Nat,(∀i∈l,i < ps.length)->ah X.K H O (l.map λi=>us.getD i .non) ((l.map λi=>ps.getD i (0,Jt "")).map bR):=by
    intro l
    induction l with
    | nil=>intro _;exact .nil
    | cons a l ih=>
     intro hl;have ha:=hl a Qo;refine .cons ?_ (ih λi hi=>hl i (by simp [hi]));obtain⟨x,ex,dx⟩:=qA (i:=a) (d:=bR ps[a]) hd (by rw [JD,JN ha];rfl);have e1':us.getD a .non=x:=by simp [ex]
     have e2':ps.getD a (0,Jt "")=ps[a]:=by simp [ha]
     show Dt X.K H O (us.getD a .non) (bR (ps.getD a (0,Jt "")));rw [e1',e2'];exact dx
   exact this _ lt
  have vm:aA (p.toList.map λi=>us.getD i .non) (p.toList.map λi=>vs.getD i .none):=by
   have:∀l:List Nat,(∀i∈l,i < ps.length)->aA (l.map λi=>us.getD i .non) (l.map λi=>vs.getD i .none):=by
    intro l
    induction l with
    | nil=>intro _;exact .nil
    | cons a l ih=>
     intro hl;have ha:=hl a Qo;refine .cons ?_ (ih λi hi=>hl i (by simp [hi]));obtain⟨x,ex,rx⟩:=qB hv (show vs[a]?=some (vs[a]'Qj) by simp);have e1':us.getD a .non=x:=by simp [ex]
     have e2':vs.getD a .none=vs[a]'Qj:=by simp [show a < vs.length by omega]
     show ay (us.getD a .non) (vs.getD a .none);rw [e1',e2'];exact rx
   exact this _ lt
  refine⟨_,rfl,Qu ⟨_,rfl,.ref h1.objs.size,ao H h1.objs.size (.lst (p.toList.map λi=>us.getD i .non)),?_,rfl,q _ _ (p.toList.map λi=>ps.getD i (0,Jt "")) hH dm ?_ ?_⟩⟩
  ·refine I2.track (t':=s.toks) (ch:=[h1.objs.size]) Qo (λb hb=>?_) (λb u hb z=>kept b u (λy=>hb (by simp [y])) z) ⟨?_,_,c,vm,g⟩
   ·rw [JJ] at hb;subst hb;exact⟨hH,oD⟩
   ·rw [Jv,JL,pp.size];omega
  ·have h1:=pp.perm.map λi=>ps.getD i (0,Jt "");have e:(KQ ps.length).map (λi=>ps.getD i (0,Jt ""))=ps:=by
    apply ML Qo;intro i a b;simp at a b⊢;rw [JN b];rfl
   rw [e] at h1;exact h1
  ·rw [La,N1];intro i j hi hj hij;have:=pu i j hij (by rw [JL,pp.size] at hj;exact hj);have ei:p.getD i 0=p.toList[i]:=by simp [Na,show i < p.size by simpa using hi]
   have ej:p.getD j 0=p.toList[j]:=by simp [Na,show j < p.size by simpa using hj]
   rw [ei,ej] at this;exact this
section
variable {X:Cx} {H0:Hp} {O0:Ex}
def hZ(t:DA):DA:=λδ Q=>t δ λds=>∃ps:List (Int×Str),ds=[.list (ps.map bR)]/\ps.length < 64/\ps.Nodup/\∀ps':List (Int×Str),ps'.Perm ps->ps'.Pairwise (λa b=>aC a b=true)->Q (ps'.map bR)
theorem Gr{a:Qx}{t:DA}{np p:Pos}(hg:Gl X "sorted")(hm:X.mg "sorted"=none)(hv:QL "sorted"=some (.builtin "sorted"))(ha:PA X [a] (fF X.K H0 O0 t))(he:Qy [a] X.env=(false,eval a X.env)::Qy [] X.env:=by rfl)(hpl:(QN p (Qy [] X.env)).any (·.1)=false:=by rfl):
 FE X H0 O0 (.Call (.Name "sorted" np) [a] [] p) (hZ t):=
 (bI Gq hg hm hv ha (he:=he) (hpl:=hpl)).imp λσ H Q uu8=>by obtain⟨O,δ,Qd,w,q,k⟩:=uu8;exact⟨O,δ,_,w,q,λds vs H1 uu9 s1 r1=>by
  obtain⟨ps,e,h64,nd,q1⟩:=uu9;subst e;cases r1 with
  | cons h r=>
   cases r;obtain⟨a,us,rfl,h1,d1⟩:=h.lst;exact⟨a,us,O,ps,rfl,h1,d1,h64,nd,λl us' ps' hl hd hp hs=>k _ _ _ _ (q1 ps' hp hs) s1 hl hd⟩⟩
def ia(F:List Qp->(Qp->Prop)->Prop)(kf:Qp->Int×Str)(t:DA):DA:=λδ Q=>t δ λds0=>∃ds,ds0=[.list ds]/\(∀d∈ds,∀R:Qp->Prop,R (bR (kf d))->F [d] R)/\ds.length < 64/\(ds.map kf).Nodup/\∀ds',ds'.Perm ds->ds'.Pairwise (λa b=>aC (kf a) (kf b)=true)->Q ds'
theorem Gs{a:Qx}{t:DA}{np p gp kp:Pos}{g:Str}{k:Nat}{f:Qs}{fd:QC}{ps:List Str}{F:List Qp->(Qp->Prop)->Prop}(kf:Qp->Int×Str)(hc:X.calm=true)(Fk:aB X.prog X.w X.K X.mg X.base aM k f fd ps (bb X.K F))(hr:aP k X.A.in1.in1)(hb:dA X.K fd ps [])
 (hgg:Gl X g)(hgm:X.mg g=some (.ref f))(hg:Gl X "sorted")(hm:X.mg "sorted"=none)(hv:QL "sorted"=some (.builtin "sorted"))(ha:PA X [a] (fF X.K H0 O0 t))(hdb:(g==("__debug__":Str))=false:=by decide)
 (he:QN p (Qy [a] X.env)=(false,eval a X.env)::QN p (Qy [] X.env):=by rfl)(hplain:(QN p (Qy [a] X.env)).any (·.1)=false:=by rfl):
 FE X H0 O0 (.Call (.Name "sorted" np) [a] [⟨some "key",.Name g gp,kp⟩] p) (ia F kf t):=by
 intro Sb s σ H Q I h;obtain⟨O,δ,Qd,w,q,kk⟩:=h;refine Q3 (pQ I hg hm hv ?_);refine callWith_kw (ar (ha p Sb s σ H (λvs H1=>∃ds0,ai H H1/\oW X.K H1 O vs ds0/\∃ds,ds0=[.list ds]/\(∀d∈ds,∀R:Qp->Prop,R (bR (kf d))->F [d] R)/\ds.length < 64/\(ds.map kf).Nodup/\∀ds',ds'.Perm ds->ds'.Pairwise (λa b=>aC (kf a) (kf b)=true)->Qd ds') I ⟨O,δ,_,w,q,λds0 vs H1 q1 s1 r1=>⟨ds0,s1,r1,q1⟩⟩) λus s1 hus=>?_) he hplain rfl rfl;obtain⟨vs,H1,I1,rv,ds0,s1',r1,ds,e,hF,h64,nd,q1⟩:=hus;subst e;refine kws_cons (oH I1 hgg hgm (kws_nil ?_) hdb);cases r1 with
 | cons h r=>
  cases r;obtain⟨ad,xs,rfl,hq,hd⟩:=h.lst;obtain⟨u,rfl,rx⟩:=dR rv;cases rx;exact Gn (kf:=kf) hc Fk hr hb (w.mono s1').trk I1 hq hd hF h64 nd λH' l xs' ds' a b c d e=>kk _ _ _ _ (q1 ds' d e) (s1'.trans a) b c
end
section
open PySem.SeqAt
open PySem.AutoSeq1 (wpAny_loadPart')
open PySem.MeetsSeq PySem.MeetsSeq2 PySem.MeetsSeq3
theorem Gu(l b:Qs)(n n2:Nat)(dd dd2:Option Qs)(sl sl2:Array (Option Qr))(p q:Int×Str)(t1 t2 t3 t4:Tok):
 Meets (Builtin.«tuple.__lt__» ⟨[.ref l,.ref b],[]⟩)
  (λ_ R s=>s.heap.get? l=some {cls:= .type "tuple",dict:=dd,data:= .seq #[.int p.1 t1,.str p.2 t2] n,slots:=sl}/\s.heap.get? b=some {cls:= .type "tuple",dict:=dd2,data:= .seq #[.int q.1 t3,.str q.2 t4] n2,slots:=sl2}/\
   R (.ok (.ret (.bool (aC p q)))) s):=
 .of_wp λprog w A R s h=>by
  obtain⟨hp,g,d,tk,os⟩:=s;obtain⟨hl,hb,h⟩:=h;have f2:=AutoSeq1.sub_tuple_tuple
  wp_walk using Q0 hl,Q0 hb,wpAny_forIn_list _ (λrest b s'=>b.1=none/\s'=⟨hp,g,d,tk,os⟩/\(rest=[(MG p.1 t1,MG q.1 t3),(L5 p.2 t2,L5 q.2 t4)]\/(rest=[(L5 p.2 t2,L5 q.2 t4)]/\p.1=q.1)\/(rest=[]/\p.1=q.1/\p.2=q.2))) _
  case turn=>
   rintro⟨y,x⟩ rest b s' ⟨hb',rfl,h3⟩;rcases h3 with h3 | ⟨h3,e1⟩ | ⟨h3,_⟩
   ·injection h3 with hyx hrest
    injection hyx with hy hx
    subst hy hx;obtain⟨e,he,hiff⟩:=HT.eqAt_int A.in1 ⟨hp,g,d,tk,os⟩ p.1 t1 q.1 t3;refine Qq (he prog w _ _ ?_);cases e with
    | true=>
     wp_walk
     exact⟨rfl,rfl,.inr (.inl ⟨hrest,hiff.mp rfl⟩)⟩
    | false=>
     have ne:p.1≠q.1:=λz=>absurd (hiff.mpr z) Kf;have hri:=HT.rcLt_int A.in1 ⟨hp,g,d,tk,os⟩ p.1 t1 q.1 t3 prog w;have hv:aC p q=decide (p.1 < q.1):=by unfold aC;simp [ne]
     rw [hv] at h
     wp_walk using hri
     exact⟨_,rfl,by simpa using h⟩
   ·injection h3 with hyx hrest
    injection hyx with hy hx
    subst hy hx;have he:=EqAt.str_str (A:=A.in1) (s:=⟨hp,g,d,tk,os⟩) p.2 t2 q.2 t4;refine Qq (he prog w _ _ ?_);cases e:(p.2==q.2) with
    | true=>
     wp_walk
     exact⟨rfl,rfl,.inr (.inr ⟨hrest,e1,eq_of_beq e⟩)⟩
    | false=>
     have hri:∀(E:Qr->Qt->Prop)(Q:Qr->Qt->Prop),Q (.bool (decide (p.2.cps.toList < q.2.cps.toList))) ⟨hp,g,d,tk,os⟩->Qv (Qw prog w) A.in1 (richCompare .Lt (.str p.2 t2) (.str q.2 t4)) Q E ⟨hp,g,d,tk,os⟩:=λE Q z=>(lt_str z:Qv (Qw prog w) A.in1 (QO .Lt (.str p.2 t2) (.str q.2 t4)) Q E _);have hv:aC p q=decide (p.2.cps.toList < q.2.cps.toList):=by unfold aC;simp [e1]
     rw [hv] at h
     wp_walk using hri
     exact⟨_,rfl,by simpa using h⟩
   ·cases h3
  case fin=>
   rintro⟨b1,b2⟩ s' ⟨hb',rfl,h3⟩;simp only at hb';subst hb';rcases h3 with h3 | ⟨h3,e1⟩ | ⟨h3,e1,e2⟩
   ·cases h3
   ·cases h3
   ·have hv:aC p q=false:=by unfold aC;rw [e1,e2];simp
    rw [hv] at h
    wp_walk
    exact⟨_,rfl,by simpa [Builtin.Tuple.tupleCompareSizes] using h⟩
  case h=>
   exact⟨rfl,rfl,.inl rfl⟩
end
def Ak(K:Ju):R2:=λx y H Q=>∃a b p q,x= .ref a/\y= .ref b/\bw K H a [.int p.1,.str p.2]/\bw K H b [.int q.1,.str q.2]/\Q (.bl (aC p q)) H
theorem Gv{X:Cx}(hu:X.A.units < QV):bz X (QO .Lt) (Ak X.K):=by
 intro Sb s σ H x y v u Q I rx ry h;obtain⟨a,b,p,q,rfl,rfl,ha,hb,z⟩:=h;cases rx;cases ry;obtain⟨its,r1,⟨⟨c1,d1,da1,s1⟩,o1,k1,n1,e1⟩,_⟩:=I.tuple ha;obtain⟨its2,r2,⟨⟨c2,d2,da2,s2⟩,o2,k2,n2,e2⟩,_⟩:=I.tuple hb;simp only at k1 e1 k2 e2;subst k1 e1 k2 e2;cases r1 with
 | cons x1 r1=>
  cases r1 with
  | cons x2 r1=>
   cases r1;obtain⟨t1,rfl⟩:=x1;obtain⟨t2,rfl⟩:=x2;cases r2 with
   | cons y1 r2=>
    cases r2 with
    | cons y2 r2=>
     cases r2;obtain⟨t3,rfl⟩:=y1;obtain⟨t4,rfl⟩:=y2;exact richCompare_meets_room (op:= .Lt) ⟨_,o1,rfl⟩ ⟨_,o2,rfl⟩ PySem.F.slot_tuple_lt PySem.F.entry_tuple_lt (PySem.F.args_tuple_lt_2 _ _) (Gu a b n1 n2 d1 d2 s1 s2 p q t1 t2 t3 t4) ⟨o1,o2,(λx=>nomatch x),.bl (aC p q),H,I,rfl,z⟩ hu
def ib:Qp->Qp->(Qp->Prop)->Prop:=λx y Q=>∃p q:Int×Str,x=bR p/\y=bR q/\Q (.bool (aC p q))
theorem Gw{K:Ju}:bS K (Ak K) ib:=λH O x y dx dy Qd R _ hx hy uu10 k=>by
 obtain⟨p,q,e1,e2,z⟩:=uu10;subst e1 e2;obtain⟨a,xs,rfl,h1,g1⟩:=hx.tup;obtain⟨b,ys,rfl,h2,g2⟩:=hy.tup;cases g1 with
 | cons x1 g1=>
  cases g1 with
  | cons x2 g1=>
   cases g1;cases x1;cases x2;cases g2 with
   | cons y1 g2=>
    cases g2 with
    | cons y2 g2=>
     cases g2;cases y1;cases y2;exact⟨a,b,p,q,rfl,rfl,h1,h2,k _ _ H z (ai.refl _) (.bl _)⟩
section
variable {X:Cx} {H0:Hp} {O0:Ex}
def Gx(tc:DB)(tb:DS):DS:=λE δ=>∃W:Nat->Dl->Prop,(∃m,W m δ)/\∀m δ,W m δ->tc δ λb=>if b=true then tb {E with nx:=λδ'=>∃m',m' < m/\W m' δ',ct:=λδ'=>∃m',m' < m/\W m' δ',bk:=E.nx} δ else E.nx δ
theorem vp{c:Qx}{body:List QH}{tc:DB}{tb:DS}{pos:Pos}(hp:Rl (Qw X.prog X.w) X.A X.env X.xe)(hc:PT X c (bD X.K H0 O0 tc))(hb:bu X body (aQ X.K H0 O0 tb)):PS X (.While c body [] pos) (aQ X.K H0 O0 (Gx tc tb)):=
 (Ci hp hc hb).imp λD σ H uu11=>by
  obtain⟨O,δ,E,w,⟨W,⟨m0,w0⟩,st⟩,k1,k2,k3,k4⟩:=uu11;refine⟨λm σ' H'=>∃O' δ',Wd X.K H0 O0 H' O' σ' δ'/\aG H H' O O'/\W m δ',⟨m0,O,δ,w,aG.refl _ _,w0⟩,λm σ1 H1 ⟨O1,δ1,w1,S1,q1⟩=>⟨O1,δ1,_,w1,st m δ1 q1,λb H2 q2 s2=>?_⟩⟩;cases b with
  | false=>
   rw [Qk Qo] at q2⊢;exact k1 O1 δ1 σ1 H2 q2 (w1.mono s2) (S1.trans (.same s2))
  | true=>
   rw [Ql rfl] at q2⊢;refine⟨λσ' H'=>∃O' δ' m',m' < m/\Wd X.K H0 O0 H' O' σ' δ'/\aG H H' O O'/\W m' δ',λσ' H' uu13=>by obtain⟨O',δ',m',lt,w',S',q'⟩:=uu13;exact⟨m',lt,O',δ',w',S',q'⟩,O1,δ1,_,w1.mono s2,q2,?_,k2,?_,?_⟩
   ·rintro O' δ' σ' H' ⟨m',lt,q'⟩ w' S';exact⟨O',δ',m',lt,w',S1.trans ((aG.same s2).trans S'),q'⟩
   ·intro O' δ' σ' H' q' w' S';exact k1 O' δ' σ' H' q' w' (S1.trans ((aG.same s2).trans S'))
   ·rintro O' δ' σ' H' ⟨m',lt,q'⟩ w' S';exact⟨O',δ',m',lt,w',S1.trans ((aG.same s2).trans S'),q'⟩
theorem aT.vals{K:Ju}{H:Hp}{O:Ex}{kv:List (ag×V)}{kd:List (ag×Qp)}(h:aT K H O kv kd):ah K H O (kv.map (·.2)) (kd.map (·.2)):=by
 induction h with
 | nil=>exact .nil
 | cons a _ ih=>exact .cons a ih
abbrev dN(ks:List Str)(ds:List Qp):Qp:=xy (ks.map .str) ds
def fh(i:Nat)(t:DS):DS:=λE δ=>∃kd,δ[i]?=some (some (.k kd))/\∃ks:List Str,kd.map (·.1)=ks.map LQ/\t E (δ.set i (some (.v (dN ks (kd.map (·.2))))))
theorem cJ.z{H:Hp}{a:Qs}{ob:Obj}{kvs:List (ag×V)}{k:ag}(e:H a=some (.frz ob (.dK kvs))):cJ H a (kV k) (cI kvs k):= .inl ⟨kvs,k,.inr ⟨ob,e⟩,rfl,rfl⟩
theorem aa.fast{X:Cx}{Sb:List (Qs×Obj)}{σ:St}{H:Hp}{s:Qt}(I:aa X Sb σ H s){a:Qs}{kv:List (ag×V)}(ha:H a=some (.dK kv)):∃o,aa X Sb σ (ao H a (.frz o (.dK kv))) s:=by
 obtain⟨z,hd,vs,rel,o,es,ep,g,r1,r2,r3⟩:=I.hok a _ ha;exact⟨o,I.write (x:=a) (e:=a) (o:= .frz o (.dK kv)) (h':=s.heap) (t':=s.toks) (by rw [ha];exact Ln) (.inl rfl) (λ_ _ _ q=>q) ⟨o,g⟩ ⟨g,z,hd,vs,rel,o,es,ep,g,r1,r2,r3⟩⟩
theorem Gy{st:QH}{t:TS}(h:PS X st t)(i:Nat):PS X st (λD σ H=>∃a kv,σ[i]?=some (some (.ref a))/\H a=some (.dK kv)/\∀o,t D σ (ao H a (.frz o (.dK kv)))):=by
 intro Sb s σ H D I q;obtain⟨a,kv,_,ha,q⟩:=q;obtain⟨o,I2⟩:=I.fast ha;exact h Sb s σ _ D I2 (q o)
theorem Wd.tell{K:Ju}{H0 H:Hp}{O0 O:Ex}{σ:St}{δ:Dl}(w:Wd K H0 O0 H O σ δ){i:Nat}{v:V}{d:Qp}(h:σ[i]?=some (some v))(hd:Dt K H O v d):Wd K H0 O0 H O σ (δ.set i (some (.v d))):=by
 have li:i < δ.length:=by rw [<-w.len];exact(JH.mp h).1
 have ne:∀{j:Nat}{y:Sl},(δ.set i (some (.v d)))[j]?=some (some y)->y.own->j≠i:=λ{j y} q hy z=>by
  subst z;rw [J0 li] at q;cases q;exact hy
 refine⟨w.same,w.sub,w.new,w.trk,by simp [w.len],λj y q=>?_,λj k y z l' e1 y1 e2 z2 e3 e4=>?_⟩
 ·by_cases hj:j=i
  ·subst hj;rw [J0 li] at q;cases q;exact⟨v,by rw [h];rfl,hd⟩
  ·rw [JV (Ne.symm hj)] at q;exact w.sl j y q
 ·have n1:=ne e1 y1;have n2:=ne e2 z2;rw [JV (Ne.symm n1)] at e1;rw [JV (Ne.symm n2)] at e2;exact w.dis j k _ _ l' e1 y1 e2 z2 e3 e4
theorem Gz(i:Nat){st:QH}{t:DS}(h:PS X st (aQ X.K H0 O0 t)):PS X st (aQ X.K H0 O0 (fh i t)):=
 (Gy h i).imp λD σ H uu14=>by
  obtain⟨O,δ,E,w,⟨kd,e,ks,ek,q⟩,k1,k2,k3,k4⟩:=uu14;obtain⟨l,kv,h,a,b,c,r⟩:=w.ownK e;refine⟨l,kv,h,c,λo=>?_⟩;obtain⟨O',w',S,n⟩:=w.frzK (y0:= .k kd) e trivial h (.frz o (.dK kv));have w2:=w'.tell (d:=dN ks (kd.map (·.2))) h (.dic bh (by rw [r.keys];exact ek) rfl n (r.vals.step S));rw [List.set_set] at w2;exact⟨O',_,E,w2,q,λO2 δ2 σ2 H2 z2 w2 S2=>k1 O2 δ2 σ2 H2 z2 w2 (S.trans S2),k2,λO2 δ2 σ2 H2 z2 w2 S2=>k3 O2 δ2 σ2 H2 z2 w2 (S.trans S2),λO2 δ2 σ2 H2 z2 w2 S2=>k4 O2 δ2 σ2 H2 z2 w2 (S.trans S2)⟩
theorem vq:∀{a b:List Str},a.map JA=b.map JA->a=b
 | [],[],_=>rfl
 | [],_::_,h=>by cases h
 | _::_,[],h=>by cases h
 | x::a,y::b,h=>by
  simp only [JB,Kd,K5] at h;rw [h.1,vq h.2]
def cQ:List Str->List Qp->Str->Option Qp
 | k::ks,d::ds,z=>if k=z then some d else cQ ks ds z
 | _,_,_=>none
theorem vt{K:Ju}{H:Hp}{O:Ex}{z:Str}{d:Qp}:∀{kv:List (ag×V)}{ks:List Str}{ds:List Qp},kv.map (·.1)=ks.map LQ->ah K H O (kv.map (·.2)) ds->cQ ks ds z=some d->∃v,cI kv (.inr z)=some v/\Dt K H O v d
 | [],[],ds,_,_,e=>by unfold cQ at e;cases e
 | [],_::_,ds,h,_,_=>by cases h
 | _::_,[],ds,h,_,_=>by cases h
 | p::kv,k::ks,ds,h,hd,e=>by
  rw [JB] at hd;cases hd with
  | cons h1 h2=>
   simp only [JB,Kd] at h;obtain⟨p1,p2⟩:=p;obtain⟨rfl,h⟩:=h;unfold cQ at e;by_cases hk:k=z
   ·rw [Ql hk] at e;cases e;exact⟨p2,qp (by rw [hk]),h1⟩
   ·rw [Qk hk] at e;obtain⟨v,a,b⟩:=vt h h2 e;exact⟨v,by rw [pj (λq=>hk (qy.mp q))];exact a,b⟩
def ic(to tk:DT):DT:=λδ Q=>to δ λx=>∃ks ds,x=dN ks ds/\tk δ λy=>∃z,y= .str z/\∃d,cQ ks ds z=some d/\Q d
theorem GA{o e:Qx}{to tk:DT}{pos:Pos}(hu:X.A.units+64 < QV)(ho:DE X H0 O0 o to)(he:DE X H0 O0 e tk)(hs:rW e):DE X H0 O0 (.Subscript o e pos) (ic to tk):=
 (xN Qj ho he hs).imp λσ H Q uu15=>by
  obtain⟨O,δ,Qd,w,q,k⟩:=uu15;refine⟨O,δ,_,w,q,λx vx H1 ⟨ks,ds,ex,q1⟩ s1 r1=>?_⟩;subst ex;refine⟨O,δ,_,w.mono s1,q1,λy vy H2 ⟨z,ey,d,ed,q2⟩ s2 r2=>?_⟩;subst ey;cases r2;cases r1 with
  | @dic a ob kv ks' kp ds h e1 e2 n rr=>
   have ek:ks'=ks:=by
    have:ks'.map JA=ks.map JA:=e2.symm;exact vq this
   subst ek;obtain⟨v,hv,dv⟩:=vt e1 rr ed;exact⟨a,v,rfl,by rw [<-hv];exact cJ.z (k:= .inr z) (s2 _ _ h),k _ _ _ q2 (s1.trans s2) (dv.mono s2)⟩
end
def vv(z:Str):Qr->Bool
 | .str y _=>y==z
 | _=>false
theorem vw:∀{ss:List Str}{us:List Qr}{i:Nat}{u:Qr},aA (ss.map V.str) us->us[i]?=some u->∃y t,ss[i]?=some y/\u= .str y t:=by
 intro ss us i u hv e;obtain⟨x,ex,rx⟩:=qB hv e;rw [JD] at ex;cases hy:ss[i]? with
 | none=>rw [hy] at ex;cases ex
 | some y=>
  rw [hy] at ex;cases ex;obtain⟨t,rfl⟩:=rx;exact⟨y,t,rfl,rfl⟩
theorem Al{z:Str}:∀{ss:List Str}{j:Nat},j < ss.idxOf z->∀y,ss[j]?=some y->(y==z)=false
 | [],j,h,y,e=>by simp at e
 | a::ss,j,h,y,e=>by
  rw [List.idxOf_cons] at h;by_cases ha:(a==z)=true
  ·rw [ha] at h;simp at h
  ·rw [Pl] at ha;rw [ha] at h;cases j with
   | zero=>simp at e;subst e;exact ha
   | succ j=>exact Al (ss:=ss) (j:=j) (by simpa using h) y (by simpa using e)
theorem GB{X:Cx}:uu X "list.index" (λx xs H Q=>∃(a:Qs)(ss:List Str)(z:Str),x= .ref a/\xs=[.str z]/\aS X.K H a (ss.map V.str)/\z∈ss/\Q (.int (ss.idxOf z:Nat)) H):=by
 intro Sb s σ H x xs v us Q I rx rv h;obtain⟨a,ss,z,rfl,rfl,hq,hz,q⟩:=h;obtain⟨u,rfl,ru⟩:=rv.one;obtain⟨tz,rfl⟩:=ru;cases rx;obtain⟨its,ri,pl,hs⟩:=I.list hq;obtain⟨⟨cls,dd,data,sl⟩,ho,hc,n,hd⟩:=pl.isList;simp only at hc hd;subst hc hd;have hlen:=ri.length;rw [Jv] at hlen;have hsl:Qz=16777216:=QK;have hj:ss.idxOf z < ss.length:=N6.mpr hz;refine Rz Ob ⟨_,ho,rfl⟩ PySem.F.entry_list_index (PySem.F.args_list_index_2 _ _)
  (PySem.SeqAt.list_indexAt a its.toArray n dd sl (.str z tz) (vv z) (ss.idxOf z) (by simp;omega) (by rw [Jv] at hs;omega) ?_ ?_) ⟨ho,λy hy=>?_,.int _,H,I.tok _,⟨_,rfl⟩,q⟩
 ·obtain⟨y,t,e1,e2⟩:=vw (i:=ss.idxOf z) ri (show its[ss.idxOf z]?=some (its[ss.idxOf z]'Qj) by simp);show vv z (its[ss.idxOf z]'Qj)=true;rw [e2];rw [JN hj] at e1;cases e1;show(ss[ss.idxOf z]==z)=true;rw [OX hj];exact beq_self_eq_true z
 ·intro m hm hlt;have hm':m < its.length:=by simpa using hm
  obtain⟨y,t,e1,e2⟩:=vw (i:=m) ri (show its[m]?=some (its[m]'hm') by simp);show vv z (its[m]'hm')=false;rw [e2];exact Al hlt y e1
 ·have hy':y∈its:=by simpa using hy
  obtain⟨m,hm,rfl⟩:=Nz hy';obtain⟨y,t,e1,e2⟩:=vw (i:=m) ri (show its[m]?=some (its[m]'hm) by simp);rw [e2];exact PySem.SeqAt.EqAt.str_str y t z tz
section
variable {X:Cx} {H0:Hp} {O0:Ex}
def ie(to t:DT):DT:=λδ Q=>to δ λx=>∃ss:List Str,x= .list (ss.map .str)/\t δ λy=>∃z,y= .str z/\z∈ss/\Q (.int (ss.idxOf z:Nat))
theorem GC{o e:Qx}{to t:DT}{apos cpos:Pos}(ho:DE X H0 O0 o to)(ha:DE X H0 O0 e t)(hbase:Rn o "index" X.env (eval o X.env)=eval o X.env:=by rfl)
 (hfew:((QN cpos (Qy [e] X.env)).all (λx=>!x.1) && (backToKw cpos (RD [] X.env)).all (λx=>x.1.isSome) && decide ([e].length+([]:List Rf).length+(if ([]:List Rf).isEmpty then 0 else 1) < 30))=true:=by rfl)
 (hline:(apos.endLine==cpos.line)=true:=by rfl)(hst:Qy [e] X.env=(false,eval e X.env)::Qy [] X.env:=by rfl)(hplain:(QN cpos (Qy [] X.env)).any (·.1)=false:=by rfl):
 DE X H0 O0 (.Call (.Attribute o "index" apos) [e] [] cpos) (ie to t):=
 (ur Nb Ob PySem.F.type_list_index GB ho (bP ha eG hst) hbase hfew hline hst hplain).imp λσ H Q ⟨O,δ,Qd,w,q,k⟩=>⟨O,δ,_,w,q,λx v H1 uu19 s1 r1=>by
  obtain⟨ss,e,q1⟩:=uu19;subst e;obtain⟨a,us,rfl,h1,d1⟩:=(Sh.dt r1).lst;refine⟨.inl ⟨rfl,us,h1⟩,O,δ,_,w.mono s1,q1,λy u H2 ⟨z,ey,hz,q2⟩ s2 r2=>?_⟩;subst ey;cases r2;obtain⟨a',us',ea,h2,d2⟩:=(Sh.dt (r1.mono s2)).lst;cases ea;cases d2.strs;exact⟨a,ss,z,rfl,rfl,h2,hz,k _ _ H2 q2 (s1.trans s2) (.int _)⟩⟩
def lR(t:DA):DA:=λδ Q=>t δ λds=>∃n k:Int,ds=[.int 0,.int n,.int k]/\0<=n/\n < 1000/\0 < k/\k < 1000/\∀js:List Int,(∀j∈js,0<=j/\j < n)->js.length<=1000->Q (js.map .int)
def ig(t:DT)(g:DG)(tc:DB)(te:DT)(k:Nat)(fr:List Nat):DA:=λδ Q=>eR t g tc te k fr δ Q\/d5 t g tc te k fr δ Q
theorem GF{N':List Str}{k:Nat}{fr:List Nat}{scope:QP}{iter elt tg:Qx}{ifs:List Qx}{t te:DT}{tc:DB}{g:TG}{dg:DG}{pos:Pos}(hc:X.calm=true)(S:aU X.env.scope X.N N' k fr scope)(hi:DF X H0 O0 iter t)(gd:GD X.K g dg)(hk:nI g k)(hfr:fr.Nodup)
 (hg:∀fp C s H,PG (bp X scope N' fp C s H) tg g)(hf:∀fp C s H,dS (bp X scope N' fp C s H) ifs (bD X.K H0 O0 tc))(he:∀fp C s H,PE (bp X scope N' fp C s H) elt (up X.K H0 O0 te))
 (hs:∀x,QI iter X.env x=pure x:=by intro _;rfl):FE X H0 O0 (.ListComp elt [⟨tg,iter,ifs,0⟩] scope pos) (ig t dg tc te k fr):=by
 intro Sb s σ H Q I h;obtain⟨O,δ,Qd,w,q,kk⟩:=h;rcases q with q | q
 ·exact dJ hc S hi gd hk hfr hg hf he hs Sb s σ H Q I ⟨O,δ,Qd,w,q,kk⟩
 ·exact rQ hc S hi gd hk hfr hg hf he hs Sb s σ H Q I ⟨O,δ,Qd,w,q,kk⟩
end
theorem GG{fr:List Nat}{σ:St}{v u:Option V}:n5 (aN 2 fr σ) (((aN 2 fr σ).set 0 v).set 1 u):=by
 refine⟨Qo,λi w h=>?_⟩
 match i with
 | 0=>simp [aN,JU] at h
 | 1=>simp [aN,JU] at h
 | i+2=>simpa [aN,JU] using h
theorem GH{K:Ju}{n:Nat}:nI (pV K n (oI (mM 0) (oI (mM 1) pU))) 2:=λfr σ v H' R uu21=>by obtain⟨a,xs,e,h1,h2,x,r,e1,y,r2,e2,e3,h⟩:=uu21;exact⟨a,xs,e,h1,h2,x,r,e1,y,r2,e2,e3,GG,h⟩
section
variable {X:Cx} {H0:Hp} {O0:Ex}
theorem nN{T:String}{a c:Qx}{t:DT}{np p:Pos}{K':Ju}(hK:X.K=K')(hg:Gl X "isinstance")(hm:X.mg "isinstance"=none)(hv:QL "isinstance"=some (.builtin "isinstance"))(ha:DF X H0 O0 a t)(hc:PE X c (tC (.ty T)))
 (hs:Qy [a,c] X.env=(false,eval a X.env)::Qy [c] X.env:=by rfl)(hs2:Qy [c] X.env=[(false,eval c X.env)]:=by rfl)(hb:(QN p (Qy [c] X.env)).any (·.1)=false:=by rfl):DE X H0 O0 (.Call (.Name "isinstance" np) [a,c] [] p) (eV K' T t):=by
 subst hK;exact Ed hg hm hv ha hc hs hs2 hb
end
def lU:Qp->Qp->(Qp->Prop)->Prop:=λx y Q=>∃xs ys,x= .tuple xs/\y= .tuple ys/\xs.length+ys.length<=Qz/\Q (.tuple (xs++ys))
theorem GI(a b:Int):oO (.int a) (.int b)=true:=rfl
theorem GJ(a b:Str):oO (.str a) (.str b)=true:=rfl
theorem GK(a b:Bool):oO (.bl a) (.bl b)=true:=rfl
theorem GL(b:Int):oO .non (.int b)=true:=rfl
theorem GN(b:Int):oO (.int b) .non=true:=rfl
def Am(f:Str)(d:Qp):List (Str×Qp)->List (Str×Qp)
 | []=>[(f,d)]
 | (g,x)::r=>if g=f then(g,d)::r else(g,x)::Am f d r
section
variable {X:Cx} {H0:Hp} {O0:Ex}
def lV(C:Qs)(i:Nat)(f:Str)(t:DT):DS:=λE δ=>t δ λd=>∃l fd,δ[i]?=some (some (.i l C fd))/\fd.length < 1000/\E.nx (δ.set i (some (.i l C (Am f d fd))))
end
section
variable {X:Cx} {H0:Hp} {O0:Ex}
def lW(C:Qs)(f:Str)(t:DT):DT:=λδ Q=>t δ λx=>∃ks ds d,x=xx C (ks.map .str) ds/\cQ ks ds f=some d/\Q d
end
def GO(ss:List Int)(x:Int):List Int:=if x∈ss then ss else ss++[x]
section
variable {X:Cx} {H0:Hp} {O0:Ex}
def lX(t:DA):DA:=λδ Q=>t δ λds=>∃ss:List Int,ds=[.list (ss.map .int)]/\ss.length < 4000/\(ss.foldl GO []).length < 64/\∀ns:List Int,(∀z,z∈ns↔z∈ss)->ns.Pairwise (· < ·)->Q (ns.map .int)
end
def An:Nat->List Qp->List Qp
 | _,[]=>[]
 | k,x::r=>.tuple [.int (k:Int),x]::An (k+1) r
section
variable {X:Cx} {H0:Hp} {O0:Ex}
def lY(t:DA)(g:DG)(tb:DS):DS:=λE δ=>t δ λds=>∃xs,ds=[.list xs]/\fQ g tb E (An 0 xs) δ
end
def lZ:List Qp->(Qp->Prop)->Prop:=λds Q=>∃i j:Int,ds=[.int i,.int j]/\dj i j/\Q (.tuple [.int (i / j),.int (i % j)])
def l3:List Qp->(Qp->Prop)->Prop:=λds Q=>∃ns:List Int,ds=[.list (ns.map .int)]/\Q (.int ns.sum)
def l4:List Qp->(Qp->Prop)->Prop:=λds Q=>∃ns:List Int,ds=[.list (ns.map .int)]/\ns≠[]/\∀M,M∈ns->(∀a∈ns,M<=a)->Q (.int M)
def l5(c:Int->Int->Prop):Qp->Qp->(Qp->Prop)->Prop:=λx y Q=>∃i j:Int,x= .int i/\y= .int j/\c i j/\∀r:Int,Q (.int r)
section
variable {X:Cx} {H0:Hp} {O0:Ex}
def l6(n:Nat)(t:DA):DA:=λδ Q=>t δ λds=>ds.length<=1000/\Q (JU n ds).flatten
def l7(i:Nat)(t:DT):DS:=λE δ=>∃ds,δ[i]?=some (some (.o ds))/\t δ λd=>∃es,d= .list es/\ds.length+es.length<=Qz/\E.nx (δ.set i (some (.o (ds++es))))
theorem GP{i:Nat}{x:Str}{e:Qx}{t:DA}{pos pos':Pos}(hN:X.N.Nodup)(hi:X.N[i]?=some x)(hx:iC X.env.scope x)(he:PU X e (oX X.K H0 O0 t))(hs:QS e (some (.Name x pos')) pos.line X.env=pure true:=by rfl)(hf:X.fn x=true\/X.env.scope.names.lookup x=some .local:=by first | exact .inl rfl | exact .inr rfl | assumption):
 PS X (.Assign [.Name x pos'] e pos) (aQ X.K H0 O0 (eQ i t)):=
 (he _ _ _ _ hN hi hx hs hf).imp λD σ H ⟨O,δ,E,w,q,k1,k2,k3,k4⟩=>⟨O,δ,_,w,q,λds vs p H1 q1 s1 hp r1=>k1 _ _ _ _ q1 ((w.mono s1).setO hp r1)
  ⟨λb o e _=>(s1.trans (ai.new hp)) b o e,λb e n z=>z.elim n λy=>by
   cases q:H b with
   | none=>exact e q
   | some o=>have:=s1 _ _ q;rw [y,hp] at this;cases this⟩⟩
end
end L2
namespace Day
def pF(y:Int):Bool:=decide (y % 400=0) || (decide (y % 4=0) && !decide (y % 100=0))
def ld(y:Int):Int:=if pF y=true then 1 else 0
def Ao:List Int:=[31,28,31,30,31,30,31,31,30,31,30,31]
def pG(y m:Int):Int:=if m=2/\pF y=true then 29 else Ao.getD (m - 1).toNat 0
def lb(y:Int):Int:=(y - 1)/ 4 - (y - 1)/ 100+(y - 1)/ 400
def GQ(y:Int):Int:=365*(y - 2000)+lb y - lb 2000
def GR(y m:Int):Int:=((KQ (m - 1).toNat).map λ(i:Nat)=>pG y (1+(i:Int))).sum
def GS(y m n:Int):Int:=GQ y+GR y m+n - 1
theorem Ap(y:Int):pF y=true↔(y % 400=0\/(y % 4=0/\y % 100≠0)):=by
 unfold pF;simp
theorem GU(y:Int):pG y 2=28+ld y:=by
 unfold pG ld;by_cases h:pF y=true
 ·rw [Ql ⟨rfl,h⟩,Ql h];rfl
 ·rw [Qk (λz=>h z.2),Qk h];rfl
theorem GV{y m:Int}(h:m≠2):pG y m=Ao.getD (m - 1).toNat 0:=by
 unfold pG;rw [Qk (λz=>h z.1)]
theorem GW{m:Int}(h1:1<=m)(h2:m<=12):m=1\/m=2\/m=3\/m=4\/m=5\/m=6\/m=7\/m=8\/m=9\/m=10\/m=11\/m=12:=by
 obtain⟨k,e⟩:=Ky (show 0<=m - 1 by omega);have e:m=(k:Int)+1:=Qj
 have hk:k < 12:=Qj
 have key:∀k:Fin 12,((k.1:Nat):Int)+1=1\/((k.1:Nat):Int)+1=2\/((k.1:Nat):Int)+1=3\/((k.1:Nat):Int)+1=4\/((k.1:Nat):Int)+1=5\/((k.1:Nat):Int)+1=6\/((k.1:Nat):Int)+1=7\/((k.1:Nat):Int)+1=8\/((k.1:Nat):Int)+1=9\/((k.1:Nat):Int)+1=10\/((k.1:Nat):Int)+1=11\/((k.1:Nat):Int)+1=12:=Qh
 rw [e];exact key ⟨k,hk⟩
theorem length_eq(y m:Int)(h1:1<=m)(h2:m<=12):(if m=2/\(y % 4≠0\/(y % 100=0/\y % 400≠0)) then(28:Int) else [31,29,31,30,31,30,31,31,30,31,30,31].getD (m - 1).toNat 0)=pG y m:=by
 by_cases h:m=2
 ·subst h;rw [GU];unfold ld;by_cases l:pF y=true
  ·rw [Ql l,Qk (by have:=(Ap y).mp l;omega)];rfl
  ·rw [Qk l,Ql (by have:=mt (Ap y).mpr l;omega)];rfl
 ·rw [GV h,Qk (λz=>h z.1)];rcases GW h1 h2 with z | z | z | z | z | z | z | z | z | z | z | z <;> subst z <;> first | rfl | exact absurd rfl h
def fst(M:Int):Int:=GS (M / 12) (M % 12+1) 1
def Dn(M n:Int):Int:=fst M+n - 1
end Day
namespace L2
open PySem PySem.Spec PyProof.Rows PySem.W
def d2(m:Nat):List Nat:=[48+m / 10,48+m % 10]
section
variable {X:Cx} {H0:Hp} {O0:Ex}
def l8(to:DT)(t:DT):DT:=λδ Q=>to δ λx=>∃z:Str,x= .str z/\t δ λy=>∃(ys:List Str),y= .tuple (ys.map .str)/\(ys.map (·.length)).sum+ys.length*z.length<=16777216/\Q (.str (Txt.join z ys))
def l9(t:DA)(u:DT):DA:=λδ Q=>t δ λds=>ds.length<=1000/\u δ λy=>∃i:Int,y= .int i/\0<=i/\i<=1000/\Q (JU i.toNat ds).flatten
end
open PySem PySem.Spec PyProof.Rows PySem.W PySem.Calls
def GX(xs ys:List Qp):List Qp:=List.zipWith (λx y=>.tuple [x,y]) xs ys
def ma(ta:DA)(g:DG)(tc:DB)(te:DT)(k:Nat)(fr:List Nat):DA:=λδ Q=>ta δ λds=>∃xs ys,ds=[.tuple xs,.tuple ys]/\xs.length=ys.length/\xs.length<=Qz/\d4 g tc te (bC k fr δ) (GX xs ys) Q
def GY{α:Type}(xs:List α)(n:Nat)(y:α):List α:=xs.take n++y::xs.drop n
section
variable {X:Cx} {H0:Hp} {O0:Ex}
def me(i:Nat)(t1 t2:DT):DS:=λE δ=>∃ds,δ[i]?=some (some (.o ds))/\t1 δ λa=>t2 δ λd=>∃n:Nat,a= .int (n:Int)/\n<=ds.length/\ds.length < 1000000/\E.nx (δ.set i (some (.o (GY ds n d))))
def mf(t:DT):DB:=λδ Q=>t δ λd=>∃ds,d= .list ds/\Q (!ds.isEmpty)
theorem Aq{K:Ju}{H:Hp}{O:Ex}{z:Str}:∀{kv:List (ag×V)}{ks:List Str}{ds:List Qp},kv.map (·.1)=ks.map LQ->ah K H O (kv.map (·.2)) ds->cQ ks ds z=none->cI kv (.inr z)=none
 | [],_,ds,_,_,e=>rfl
 | _::_,[],ds,h,_,_=>by cases h
 | p::kv,k::ks,ds,h,hd,e=>by
  rw [JB] at hd;cases hd with
  | cons h1 h2=>
   simp only [JB,Kd] at h;obtain⟨p1,p2⟩:=p;obtain⟨rfl,h⟩:=h;unfold cQ at e;by_cases hk:k=z
   ·rw [Ql hk] at e;cases e
   ·rw [Qk hk] at e;rw [pj (λq=>hk (qy.mp q))];exact Aq h h2 e
def mh(to tk:DT):DT:=λδ Q=>to δ λx=>∃ks ds,x=dN ks ds/\tk δ λy=>∃z,y= .str z/\Q ((cQ ks ds z).getD .none)
def mi(to tk tx:DT):DT:=λδ Q=>to δ λx=>∃ks ds,x=dN ks ds/\tk δ λy=>tx δ λu=>∃z,y= .str z/\Q ((cQ ks ds z).getD u)
end
section
variable {X:Cx} {H0:Hp} {O0:Ex}
def mj(t:DA):oo:=λδ Q=>t δ λds=>∃kd:List (ag×Qp),ds=[.list (kd.map λp=>.tuple [d6 p.1,p.2])]/\Q (kd.foldl (λa p=>d8 a p.1 p.2) [])
end
theorem Dt.dicE{K:Ju}{H:Hp}{O:Ex}{v:V}{ks:List Str}{ds:List Qp}(h:Dt K H O v (dN ks ds)):∃a ob kv,v= .ref a/\H a=some (.frz ob (.dK kv))/\kv.map (·.1)=ks.map LQ/\¬O a/\ah K H O (kv.map (·.2)) ds:=by
 cases h with
 | @dic a ob kv ks' kp ds h e1 e2 n rr=>
  have ek:ks'=ks:=vq e2.symm;subst ek;exact⟨a,ob,kv,rfl,h,e1,n,rr⟩
theorem Ar{K:Ju}{H:Hp}{O:Ex}{z:Str}{kv:List (ag×V)}{ks:List Str}{ds:List Qp}(e1:kv.map (·.1)=ks.map LQ)(r:ah K H O (kv.map (·.2)) ds):(cI kv (.inr z)).isSome=(cQ ks ds z).isSome:=by
 cases hd:cQ ks ds z with
 | none=>rw [Aq e1 r hd];rfl
 | some d=>
  obtain⟨v,hv,_⟩:=vt e1 r hd;rw [hv];rfl
section
variable {X:Cx} {H0:Hp} {O0:Ex}
def mm(t:DT):DA:=λδ Q=>t δ λd=>∃ks ds,d=dN ks ds/\ks.length < 64/\Q ((bV ks).map .str)
def dO(neg:Bool)(tk to:DT):DT:=λδ Q=>tk δ λy=>to δ λx=>∃z ks ds,y= .str z/\x=dN ks ds/\Q (.bool (if neg then !(cQ ks ds z).isSome else(cQ ks ds z).isSome))
theorem GZ{o e:Qx}{tk to:DT}(hu:X.A.units+64 < QV)(ho:DE X H0 O0 o to)(he:DE X H0 O0 e tk):PC X .In e o (up X.K H0 O0 (dO false tk to)):=λSb s σ H Q I ⟨O,δ,Qd,w,q,k⟩=>
 Ew Qj he ho Sb s σ H Q I ⟨O,δ,_,w,q,λy uy H2 q2 s2 r2=>⟨O,δ,_,w.mono s2,q2,λx ux H3 uu24 s3 r3=>by
  obtain⟨z,ks,ds,ey,ex,q3⟩:=uu24;subst ey ex;cases r2;obtain⟨a,ob,kv,rfl,h,e1,n,rr⟩:=r3.dicE;exact⟨a,_,rfl,cJ.z (k:= .inr z) h,by rw [Ar e1 rr];exact k _ _ _ q3 (s2.trans s3) (.bl _)⟩⟩⟩
theorem G0{o e:Qx}{tk to:DT}(hu:X.A.units+64 < QV)(ho:DE X H0 O0 o to)(he:DE X H0 O0 e tk):PC X .NotIn e o (up X.K H0 O0 (dO true tk to)):=λSb s σ H Q I ⟨O,δ,Qd,w,q,k⟩=>
 Ey Qj he ho Sb s σ H Q I ⟨O,δ,_,w,q,λy uy H2 q2 s2 r2=>⟨O,δ,_,w.mono s2,q2,λx ux H3 uu26 s3 r3=>by
  obtain⟨z,ks,ds,ey,ex,q3⟩:=uu26;subst ey ex;cases r2;obtain⟨a,ob,kv,rfl,h,e1,n,rr⟩:=r3.dicE;exact⟨a,_,rfl,cJ.z (k:= .inr z) h,by rw [Ar e1 rr];exact k _ _ _ q3 (s2.trans s3) (.bl _)⟩⟩⟩
theorem Js{o e:Qx}{tk to:DT}{pos:Pos}(hu:X.A.units+64 < QV)(ho:DE X H0 O0 o to)(he:DE X H0 O0 e tk)(hm:QW .In o=false:=by rfl):PT X (.Compare e [.In] [o] pos) (bD X.K H0 O0 (ck (dO false tk to))):=
 (wb (GZ hu ho he) hm).imp λσ H Q uu27=>by obtain⟨O,δ,Qd,w,q,k⟩:=uu27;exact⟨O,δ,_,w,q,λd v H' uu28 s r=>by obtain⟨b,e,qb⟩:=uu28;subst e;cases r;exact⟨b,rfl,k b H' qb s⟩⟩
theorem G1{o e:Qx}{tk to:DT}{pos:Pos}(hu:X.A.units+64 < QV)(ho:DE X H0 O0 o to)(he:DE X H0 O0 e tk)(hm:QW .NotIn o=false:=by rfl):PT X (.Compare e [.NotIn] [o] pos) (bD X.K H0 O0 (ck (dO true tk to))):=
 (wb (G0 hu ho he) hm).imp λσ H Q uu29=>by obtain⟨O,δ,Qd,w,q,k⟩:=uu29;exact⟨O,δ,_,w,q,λd v H' uu30 s r=>by obtain⟨b,e,qb⟩:=uu30;subst e;cases r;exact⟨b,rfl,k b H' qb s⟩⟩
def G2(tl:TE):TI:=λσ H R=>tl σ H λx H1=>∃a o kv,x= .ref a/\H1 a=some (.frz o (.dK kv))/\R (sF o a kv) H1
theorem G3{X:Cx}{tg l:Qx}{tl:TE}(hl:PE X l tl):PI X tg l (G2 tl):=by
 intro Sb s σ H R I h;refine ar (hl Sb s σ H _ I h) λv s1 ⟨x,H1,I1,r1,q1⟩=>?_;obtain⟨a,o,kv,e,ha,q⟩:=q1;subst e;cases r1;obtain⟨g,z,hd,vs,rel,o',es,ep,g',r1,r2,r3⟩:=I1.hok a _ ha;rw [g] at g';cases g';have hlen:=rel.len;have hd':(a==Q1)=false:=hd;refine wpAny_pyIter_dict hd' (knd:=cg X.prog X.w) (kvs:=vs) (ep:=ep) ⟨o,es,g,r1,r2,r3⟩ ?_;rw [hlen];refine⟨s1.heap.objs.size,[s1.heap.objs.size],_,_,_,rfl,I1.kept (t':=s1.toks) λb o e=>Jx _ e,y8 _ a o es ep kv r2,⟨_,JR _ rfl,rfl,rfl⟩,λb hb=>?_,q⟩;have e:b=s1.heap.objs.size:=by simpa using hb
 subst e;exact I1.fpOk (Jy _) (I1.hok.fresh (Jy _))
theorem As{K:Ju}{H:Hp}{O:Ex}:∀{kv:List (ag×V)}{ks:List Str},kv.map (·.1)=ks.map LQ->ah K H O (kv.map λp=>kV p.1) (ks.map .str)
 | [],[],_=>.nil
 | p::kv,k::ks,h=>by
  simp only [JB,Kd] at h;obtain⟨p1,p2⟩:=p;obtain⟨rfl,h⟩:=h;exact .cons (.str _) (As h)
def ij(t:DT)(dg:DG)(tb:DS):DS:=λE δ=>t δ λd=>∃ks ds,d=dN ks ds/\fQ dg tb E (ks.map .str) δ
theorem G4{tg iter:Qx}{t:DT}{g:TG}{dg:DG}{tb:DS}{body:List QH}{pos:Pos}(hp:Rl (Qw X.prog X.w) X.A X.env X.xe)(hc:X.calm=true)(hi:DE X H0 O0 iter t)(hg:PG X tg g)(gd:GD X.K g dg)(hb:bu X body (aQ X.K H0 O0 tb))(hs:∀x,QI iter X.env x=pure x:=by intro _;rfl):
 PS X (.For tg iter body [] pos) (aQ X.K H0 O0 (ij t dg tb)):=
 (oN hp hc (G3 hi) hg hb hs).imp λD σ H uu32=>by obtain⟨O,δ,E,w,q,k1,k2,k3,k4⟩:=uu32;exact⟨O,δ,_,w,q,λd v H1 uu33 s1 r1=>by
  obtain⟨ks,ds,e,q1⟩:=uu33;subst e;obtain⟨a,ob,kv,rfl,h,e1,n,rr⟩:=r1.dicE;exact⟨a,ob,kv,rfl,h,pb bX.dk gd (λH' O' S=>S.keep _ _ h n) (As e1) (w.mono s1) q1 (λO' δ' σ' H' z w' S=>k1 O' δ' σ' H' z w' (aG.trans (.same s1) S)) k2⟩⟩
def mn:List Qp->(Qp->Prop)->Prop:=λds Q=>∃ks xs,ds=[dN ks xs]/\Q (dN ks xs)
def mq:DT:=λ_ Q=>Q (dN [] [])
def mr:Qp->Qp->(Qp->Prop)->Prop:=λx y Q=>∃(ks:List Str)(ns:List Int),x=dN ks (ns.map .int)/\y=dN ks (ns.map .int)/\Q (.bool false)
def mv(i j:Nat):DS:=λE δ=>E.nx ((δ.set i (some (.o []))).set j (some (.o [])))
end
section
variable {P:QA} {w:QE} {K:Ju} {mg:Str->Option Qr} {base:QB}
inductive pH (K:Ju) (C:Qs) (F:List Qp->List Qp->(List (Str×Qp)->List (ag×Qp)->List (ag×Qp)->Prop)->Prop) (vs:List V) (H:Hp) (Q:VK) (E:XK):Prop
 | mk (x dx:Qs) (vs':List V) (l:Qs) (ws:List V) (H1:Hp) (O:Ex) (ds es:List Qp) (Qd:List (Str×Qp)->List (ag×Qp)->List (ag×Qp)->Prop):vs= .ref x::(vs'++[.ref l])->H=ao (ao H1 dx (.own x)) x (.ins C dx [])->H1 x=none->H1 dx=none->dx≠x->
 (∀a,O a->H1 a≠none)->ah K H1 O vs' ds->O l->H1 l=some (.lst ws)->ah K H1 O ws es->F ds es Qd->
 (∀fd gd ud g u O' H',Qd fd gd ud->ai H1 H'->(∀a,O a->O' a)->(∀a,O' a->O a\/H1 a=none)->(∀a,O' a->H' a≠none)->O' x->¬O x->xA K H' O O' x C g u fd gd ud->Q .non H')->pH K C F vs H Q E
end
section
variable {x y z w:Option Sl} {l:Dl} {i j k m:Nat} {P:Qp->Prop}
theorem mw:bW j ((x::l).set 0 y) P=bW j (y::l) P:=rfl
theorem mz:bW j ((x::l).set (i+1) y) P=bW j (x::l.set i y) P:=rfl
theorem mB:bW j (((x::l).set 0 y).set k z) P=bW j ((y::l).set k z) P:=rfl
theorem mC:bW j (((x::l).set (i+1) y).set k z) P=bW j ((x::l.set i y).set k z) P:=rfl
theorem mD:bW j ((((x::l).set 0 y).set k z).set m w) P=bW j (((y::l).set k z).set m w) P:=rfl
theorem mF:bW j ((((x::l).set (i+1) y).set k z).set m w) P=bW j (((x::l.set i y).set k z).set m w) P:=rfl
end
section
variable {K:Ju} {mg:Str->Option Qr} {h:QB} {x q:Str} {st:QH} {f C:Qs} {fd:QC} {ps:List Str}
structure Fn (K:Ju) (mg:Str->Option Qr) (x:Str) (st:QH) (f:Qs) (fd:QC) (ps:List Str):Prop where
 F:dB K x x st f fd
 m:mg x=some (.ref f)
 b:dA K fd ps []
structure DfT (K:Ju) (x:Str) (st:QH) (f:Qs) (fd:QC):Prop where
 a:J4 K QD x=some (some (.ref f))
 F:dB K x x st f fd
theorem DfT.of{oc:Qr}{od an:Option Qs}{osl:Array (Option Qr)}{kV doc pm cdv ct:Qr}(a:J4 K QD x=some (some (.ref f)))(l:K.lookup f=some ⟨oc,od,.func (Mv x x (n4 st) (fu st) (ax st) .none kV doc pm an cdv ct),osl⟩)
 (c:NB K cdv x=true)(k:MH K (.ref f)=true):DfT K x st f (Mv x x (n4 st) (fu st) (ax st) .none kV doc pm an cdv ct):=⟨a,C5 l c k⟩
theorem DfT.fn(D:DfT K x st f fd)(X:K.In h)(G:h.Ns QD mg)(hb:∀(kV doc pm:Qr) (an:Option Qs) (cdv ct:Qr) (us:List Qr),us.length=ps.length->bindArgs (Mv x x (n4 st) (fu st) (ax st) .none kV doc pm an cdv ct) ⟨us,[]⟩=pure (ps.zip us):=by walk_at "b"):Fn K mg x st f fd ps:=⟨D.F,Lp X G D.a,D.F.binds hb⟩
theorem Fn.kp(N:Fn K mg x st f fd ps):MH K (.ref f)=true:=N.F.kp
end
section
variable {X:Cx} {k:Nat} {f:Qs} {fd:QC} {ps:List Str} {sp:Sp} {st:QH} {x:Str} {p pos:Pos} {e:Qx} {es:List Qx} {t:TA}
theorem sH(F:aB X.prog X.w X.K X.mg X.base aM k f fd ps sp)(hr:aP k X.A)(hg:Gl X x)(N:Fn X.K X.mg x st f fd ps)
 (ha:PA X (e::es) t)(hdb:(x==("__debug__":Str))=false:=by decide)(he:Qy (e::es) X.env=(false,eval e X.env)::Qy es X.env:=by rfl)(hpl:(QN pos (Qy es X.env)).any (·.1)=false:=by rfl):
 PE X (.Call (.Name x p) (e::es) [] pos) (p8 sp [] E0 t):=ui F hr hg N.m N.kp N.b .nil C4 ha hdb he hpl
end
theorem aU.of{sc:QP}{N N':List Str}{k:Nat}{fr:List Nat}{scope:QP}(a:scope.kind= .function:=by rfl)(b:∀y∈scope.names,y.2= .cell->scope.names.lookup y.1=some .cell:=by decide+kernel)(c:∀y∈scope.names,y.2= .local->scope.names.lookup y.1=some .local:=by decide+kernel)(d:N'.Nodup:=by decide+kernel)(e:fr.map (λj=>N[j]?)=(N'.drop k).map some:=by rfl)(f:∀x∈N'.drop k,scope.names.lookup x=some .free:=by decide+kernel)(g:∀y∈scope.names,y.2= .free->sc.names.lookup y.1=some .cell\/sc.names.lookup y.1=some .free:=by decide+kernel)(h:∀x∈N'.drop k,sc.names.lookup x=some .cell\/sc.names.lookup x=some .free:=by decide+kernel)(i:N'.length=k+fr.length:=by rfl):aU sc N N' k fr scope:=⟨a,b,c,d,e,f,g,h,i⟩
theorem bj.of{N P:List Str}{sc:QP}(a:sc.kind= .function:=by rfl)(b:sc.isCoroutine=false:=by rfl)(c:sc.isGenerator=false:=by rfl)(d:N.Nodup:=by decide+kernel)(e:N.take P.length=P:=by rfl)(f:∀x∈P,sc.names.lookup x=some .local\/sc.names.lookup x=some .cell:=by decide+kernel)(g:∀y∈sc.names,y.2≠ .free:=by decide+kernel):bj N P sc:=⟨a,b,c,d,e,f,g⟩
section
variable {X:Cx} {H0:Hp} {O0:Ex} {pos:Pos} {a b e:Qx} {es:List Qx} {ta tb t:DT} {u:DA} {r:R2} {rd:Qp->Qp->(Qp->Prop)->Prop}
theorem av{op:Operator}(ho:bz X (Q9 op) r)(hd:bS X.K r rd)(ha:DE X H0 O0 a ta)(hb:DE X H0 O0 b tb):DE X H0 O0 (.BinOp a op b pos) (bK rd ta tb):=D1 ho hd (df ha) (df hb)
theorem aq(ho:oP X r)(hd:bS X.K r rd)(ha:DE X H0 O0 a ta)(hb:DE X H0 O0 b tb)(hs:∀v u,RC b false v u=operate [v,u] (Q8 v u):=by intro _ _;rfl):DE X H0 O0 (.Subscript a b pos) (bK rd ta tb):=gm ho hd (df ha) (df hb) hs
theorem aR{op:CmpOp}(ho:bz X (QO op) r)(hd:bS X.K r rd)(ha:DE X H0 O0 a ta)(hb:DE X H0 O0 b tb)(hm:QW op b=false):PT X (.Compare a [op] [b] pos) (bD X.K H0 O0 (ck (bK rd ta tb))):=rJ ho hd (df ha) (df hb) hm
theorem bE(h:DE X H0 O0 e t)(hs:PA X es (fF X.K H0 O0 u))(he:Qy (e::es) X.env=(false,eval e X.env)::Qy es X.env:=by rfl):PA X (e::es) (fF X.K H0 O0 (cS t u)):=nG (df h) hs he
theorem ba{k j:Nat}{f:Qs}{fd:QC}{ps:List Str}{F:List Qp->(Qp->Prop)->Prop}{st:QH}{x:Str}{p:Pos}(G:aB X.prog X.w X.K X.mg X.base aM k f fd ps (bb X.K F))(hr:aP j X.A)(N:Fn X.K X.mg x st f fd ps)
 (ha:PA X (e::es) (dW X.K H0 O0 u))(hk:k<=j:=by decide)(hg:Gl X x:=by exact rfl)(hdb:(x==("__debug__":Str))=false:=by decide)(he:Qy (e::es) X.env=(false,eval e X.env)::Qy es X.env:=by rfl)(hpl:(QN pos (Qy es X.env)).any (·.1)=false:=by rfl):
 DE X H0 O0 (.Call (.Name x p) (e::es) [] pos) (dE F u):=PE.imp (sH G (hr.mono hk) hg N ha hdb he hpl) rM
end
def qC(p q:Str):Bool:=decide (p.cps.toList < q.cps.toList)
end L2
namespace PySem
open Sem (wp)
open AutoSeq1 (wpAny_loadPart')
end PySem
namespace L2
open PySem PySem.Spec PyProof.Rows PySem.W PySem.Calls
structure oq (base:QB) (mg:Str->Option Qr) (c P:Qs):Prop where
 cd:CodeHd base c P
 gP:QD≠P
 bl:base.BuiltinsAt mg P
theorem G5{pos p:Pos}{v cv:Qr}(l:List Qr)(h:TriplesOk l)(e:codeAmong pos (l++[Q6 p.line,Q6 p.col,v])=some cv):codeAmong pos l=some cv\/cv=v:=by
 fun_induction TriplesOk l with
 | case1=>
  simp only [KC,codeAmong,Q6] at e;split at e
  ·cases e;exact .inr rfl
  ·cases e
 | case2 a t b u x rest ih=>
  simp only [KD,codeAmong] at e⊢;split at e
  ·rename_i hc;rw [Ql hc];exact .inl e
  ·rename_i hc;rw [Qk hc];exact ih h e
 | case3 l h1 h2=>exact h.elim
abbrev ik(q:Str):HO:= .tbl #[.str q 0]
section
variable {X:Cx} {Sb:List (Qs×Obj)} {σ:St} {H:Hp} {s:Qt}
theorem G6{h h':QB}{mg:Str->Option Qr}{P:Qs}(b:h.BuiltinsAt mg P)(k:∀b o,h.get? b=some o->h'.get? b=some o):h'.BuiltinsAt mg P:=
 let ⟨bm,o,a1,a2,a3,a4,a5,r⟩:=b;⟨bm,o,a1,a2,a3,a4,k _ _ a5,r⟩
theorem G7{E:Qr->Qt->Prop}{Q:Qr->Qt->Prop}{c P:Qs}{qual:Str}{body:Qx}{scope:QP}{params:RX}{pos:Pos}{clos:List (Str×Qs)}(I:aa X Sb σ H s)(L:oq X.base X.mg c P)(hcode:X.env.code= .ref c)
 (hP:H P=some (ik qual))(hq:X.env.qual++"<lambda>"=qual)(hcl:closureFor scope X.env=pure clos)(hdef:defaultsOf params X.env=([],[]))
 (h:∀f c' pm ctv h' tk H',aa X Sb σ H' {s with heap:=h',toks:=tk}->h'.get? f=some (kla_obj "<lambda>" qual params body scope clos pm c' ctv)->s.heap.objs.size<=f->H' f=none->H' c'=some (.cod qual)->ai H H'->
  Q (.ref f) {s with heap:=h',toks:=tk}):Qv (Qw X.prog X.w) X.A (eval (.Lambda params body scope pos) X.env) Q E s:=by
 refine kla_eval hdef ?_;rw [hq];obtain⟨q,t,z,ps,eP,tr,ent⟩:=id (I.hok P _ hP);have z:some (L5 qual 0)=some (.str q t):=z;cases z;have hg:s.heap.Ns QD X.mg:=I.ok.mod.glob.keeps I.bk;have C:=L.cd.keeps I.bk;have hb:=G6 L.bl I.bk;cases hf:codeAmong pos ps.toList with
 | some cv=>
  obtain⟨c',rfl,hc'⟩:=ent pos cv hf;refine kla_makeFunctionHit hcl I.ok.glob hg hcode C eP tr hf hb λctv h' tk hk hsz=>?_;have k2:∀b o,s.heap.get? b=some o->(h'.push (kla_obj "<lambda>" qual params body scope clos ((X.mg "__name__").getD .none) c' ctv)).get? b=some o:=λb o e=>Jx _ (hk b o e);exact h h'.objs.size c' _ ctv _ tk H (I.kept k2) (JR _ rfl) hsz (I.hok.fresh hsz) hc' (ai.refl _)
 | none=>
  refine kla_makeFunction hcl I.ok.glob hg hcode C eP tr hf L.gP hb λc' ctv h' tk hx hge hlt hrec htb=>?_;have hn:H c'=none:=I.hok.fresh hge;have nP:∀b,H b=none->b≠P:=λb n e=>by rw [e,hP] at n;cases n
  have pk:∀{b o},h'.get? b=some o->(h'.push (kla_obj "<lambda>" qual params body scope clos ((X.mg "__name__").getD .none) c' ctv)).get? b=some o:=λe=>Jx _ e;have sm:ai H (ao H c' (.cod qual)):=λb o e=>by rw [az (cE e hn)];exact e
  have hlt':s.heap.objs.size<=h'.objs.size:=Km hge (Ms hlt);refine h h'.objs.size c' _ ctv _ tk (ao H c' (.cod qual)) (I.un ⟨λb o e n _ _=>pk (hx b o (nP b n) e),λb o e n _ _=>⟨o.slots,pk (hx b o (nP b n) e)⟩,λb o e n _=>by rw [az (JW (JX (JC e) hge))];exact n,λb o e _=>?_,
   λb xs e=>sm b _ e,λb o u e=>sm b _ e,λb qs e=>⟨#[],by rw [Array.append_empty];exact sm b _ e⟩⟩ λb u e=>?_) (JR _ rfl) hlt' (by rw [az (M3 hlt)];exact I.hok.fresh hlt') bh sm
  ·by_cases hb':b=P
   ·exact⟨_,pk (by rw [hb'];exact htb)⟩
   ·exact⟨o,pk (hx b o hb' e)⟩
  ·by_cases hbc:b=c'
   ·subst hbc;rw [bh] at e;cases e;obtain⟨c₂,oc,vs,t',e2,hoc,hd,hv⟩:=hrec;cases e2;exact⟨oc,vs,t',pk hoc,hd,hv⟩
   ·rw [az hbc] at e;by_cases hbP:b=P
    ·subst hbP;rw [hP] at e;cases e;refine⟨qual,0,rfl,_,pk htb,?_,λp cv e=>?_⟩
     ·rw [MM];exact TriplesOk_snoc _ _ _ _ tr
     ·rw [MM] at e;rcases G5 _ tr e with e | e
      ·obtain⟨c2,e1,e2⟩:=ent p cv e;exact⟨c2,e1,sm _ _ e2⟩
      ·exact⟨c',e,bh⟩
    ·refine(I.hok b u e).stay (λc2 v hc r=>pk (hx c2 v (λw=>?_) r)) (λc2 r=>sm _ _ r) (λc2 xs r=>sm _ _ r) λc2 xs r=>sm _ _ r;rcases hc with hc | hc
     ·exact hbP (hc.symm.trans w)
     ·rw [w,hP] at hc;cases hc
def mY(X:Cx)(s:Qt)(H:Hp):QB:=hideAll s.heap (aD X.stack++trk s.heap H)
theorem qD{b:Qs}{o:Obj}(e:s.heap.get? b=some o)(n:H b=none)(nf:b ∉ aD X.stack):(mY X s H).get? b=some o:=
 RE _ e λhm=>by
  rcases JI.mp hm with h | h
  ·exact nf h
  ·have q:(H b).isSome=true:=(Kq.mp h).2;rw [n] at q;simp at q
theorem G8{b:Qs}{o:Obj}(e:(mY X s H).get? b=some o):s.heap.get? b=some o/\H b=none:=by
 have e':s.heap.get? b=some o:=of_hideAll _ e;refine⟨e',?_⟩;cases q:H b with
 | none=>rfl
 | some x=>
  have hm:b∈aD X.stack++trk s.heap H:=Kc _ (Kq.mpr ⟨Mn.mpr (JC e'),by simp [q]⟩);have z:(mY X s H).get? b=none:=hideAll_none _ hm;rw [z] at e;cases e
theorem aa.lamK(I:aa X Sb σ H s){b:Qs}{o:Obj}(e:X.base.get? b=some o):(mY X s H).get? b=some o:=
 qD (I.bs b o e).1 (I.bs b o e).2 λhb=>by have:=(I.stack.mem hb).1;rw [e] at this;cases this
theorem aa.lamM(I:aa X Sb σ H s):Mod X.K X.mg (mY X s H):=
 ⟨I.mod.kin.keeps λ_ _ e=>I.lamK e,I.mod.glob.keeps λ_ _ e=>I.lamK e,let ⟨mb,h1,h2⟩:=I.mod.blt;⟨mb,h1.keeps λ_ _ e=>I.lamK e,h2⟩,I.mod.nolimit.keeps λ_ _ e=>I.lamK e⟩
theorem aa.env0L(I:aa X Sb σ H s):nA X.prog X.w X.K X.mg (mY X s H) X.A X.stack s H:=
 ⟨I.ok.frames,I.lamM,λ_ _ e=>G8 e,PX (hideAll_size _ _),funFrames_hide I.stack λenv he a hf=>Mh _ (Mu.mpr ⟨env,he,hf⟩),I.stkFree,I.hok,I.bare⟩
abbrev ot(scope:QP)(qual:Str)(L f:Qs)(c':Qs)(cl:List (Str×Qs)):Env:=envX qual scope L f (.ref c') cl
def nu(X:Cx)(base:QB)(scope:QP)(N':List Str)(cl:List (Str×Qs))(qual:Str)(f c':Qs)(A:QF)(outer:List Env)(s:Qt)(H:Hp)(E:XK):Cx where
 prog:=X.prog
 w:=X.w
 K:=X.K
 mg:=X.mg
 base:=base
 A:=A.deeper (ot scope qual s.heap.objs.size f c' cl)
 N:=N'
 s₀:=s
 H₀:=H
 env:=ot scope qual s.heap.objs.size f c' cl
 outer:=outer
 stack:=ot scope qual s.heap.objs.size f c' cl::outer
 ex:=[]
 calm:=true
 fn:=λ_=>false
 pn:=[]
 xe:=λe s'=>Qv (Qw X.prog X.w) (A.deeper (ot scope qual s.heap.objs.size f c' cl)) (leaving (ot scope qual s.heap.objs.size f c' cl) e) (λ_ s''=>aV X.prog X.w outer H s E e s'') (λe' s''=>aV X.prog X.w outer H s E e' s'') s'
def Au(X:Cx)(base:QB)(σ:St)(scope:QP)(N':List Str)(fr:List Nat)(cl:List (Str×Qs))(qual:Str)(f c' k:Nat)(body:Qx):Sp:=λvs H2 Q E=>vs=[]/\H2 c'=some (.cod qual)/\
 ∀(A:QF)(outer:List Env)(s2:Qt),aP k (A.deeper (ot scope qual s2.heap.objs.size f c' cl))->∃t,PE (nu X base scope N' cl qual f c' A outer s2 H2 E) body t/\t (aN 0 fr σ) H2 Q
theorem G9{f c' k:Nat}{pm ctv:Qr}{qual:Str}{body:Qx}{scope:QP}{N':List Str}{fr:List Nat}{params:RX}(S:aU X.env.scope X.N N' 0 fr scope)(I:aa X Sb σ H s)
 (ho:s.heap.get? f=some (kla_obj "<lambda>" qual params body scope (cz X.env scope.names []) pm c' ctv))(hf:H f=none)(hfs:f ∉ aD X.stack)(hfn:∀x,X.fn x=true)
 (hco:scope.isCoroutine=false)(hgen:scope.isGenerator=false)(hcell:∀x∈scope.names,x.2≠ .cell):
 aB X.prog X.w X.K X.mg (mY X s H) (aV X.prog X.w) (k+1) f (kla_fn "<lambda>" qual params body scope (cz X.env scope.names []) pm (.ref c') ctv) [] (Au X (mY X s H) σ scope N' fr (cz X.env scope.names []) qual f c' k body):=by
 have hcl:=rB S I;refine⟨λvs H2 Q E h=>by rw [h.1];rfl,λA outer s2 H2 args us vs Q E hr e0 hb rv hsp=>?_⟩;obtain⟨rfl,hc,hbody⟩:=hsp;cases rv;have fo:=(e0.bs f _ (qD ho hf hfs)).1;obtain⟨oc,vs,t,g1,g2,g3⟩:=id (e0.hok c' _ hc);have lim:s2.heap.NoLimit:=e0.mod.nolimit.keeps λb o e=>(e0.bs b o e).1;refine kla_callFunE hr.depth fo rfl hco hgen rfl ⟨c',oc,vs,t,rfl,g1,g2,g3⟩ (hb _ _ _ _ ?_);refine wpAny_newFunctionEnv hcell (λx hx=>absurd (show x∈([]:List (Str×Qr)) from hx) Qo) (λh₁ hns hsb=>⟨lim.fresh _ hsb,?_⟩) S.kind;obtain⟨t,ht,hq⟩:=hbody A outer s2 (hr.deeper _);have hk₁:∀b o,s2.heap.get? b=some o->h₁.get? b=some o:=λb o e=>hsb.extBut b o (JW (JC e)) (Jx _ e);have hcb:∀x c,(cz X.env scope.names []).lookup x=some c->∀u,s.heap.IsCell c u->s2.heap.IsCell c u:=λx c e u uu34=>by
  obtain⟨o,eo,d⟩:=uu34;have ex:=hcl x c e;refine⟨o,(e0.bs c o (qD eo (I.freeC x c ex) λhm=>?_)).1,d⟩;rcases JF.mp (I.stkSub c hm) with z | z
  ·exact I.cne x c ex z
  ·have h1:=I.ok.cab x c (hfn x) ex;obtain⟨_,o',ho',_⟩:=I.ok.funs.mem z;exact absurd (JX (JC ho') h1) (Le _)
 have J:aa (nu X (mY X s H) scope N' (cz X.env scope.names []) qual f c' A outer s2 H2 E) [] (aN 0 fr σ) H2 {s2 with heap:=h₁,toks:=s2.toks+([]:List (Str×Qr)).length}:=by
  refine⟨⟨e0.mod,S.kind,rfl,rfl,Jy _,λx y c h1 h2=>I.ok.inj x y c (hcl x c h1) (hcl y c h2),λx hx=>?_,λx c h=>absurd h (by simp [nu]),λ_=>hr.hd,Oq e0.frames,.inr ⟨rfl,rfl⟩,λb z=>absurd (show b∈([]:List Qs) from z) Qo,e0.bs,e0.bsz,λb _ _ z=>absurd (show b∈([]:List Qs) from z) Qo,λb z=>absurd (show b∈([]:List Qs) from z) Qo,e0.funs,e0.frf⟩,
   rfl,e0.bare,Un.kept hk₁,⟨_,hns,λi x v h1 h2 h3=>?_⟩,λx c e=>?_,e0.hok.fresh (Jy _),λx c e=>?_,λp hp=>absurd (show p∈([]:List (Qs×Obj)) from hp) Qo,e0.hok.kept hk₁,?_⟩
  ·have hx:scope.names.lookup x=some .cell\/scope.names.lookup x=some .free:=hx;rcases hx with z | z
   ·exact absurd rfl (hcell _ (K7 z))
   ·exact qc _ _ (K7 z)
  ·have h2':(fr.map λj=>(σ[j]?).join)[i]?=some (some v):=by
    unfold aN at h2;simpa using h2
   have h1':(N'.drop 0)[i]?=some x:=by simpa using(show N'[i]?=some x from h1)
   have hmem:x∈N'.drop 0:=JQ h1';have e2:(fr.map λj=>X.N[j]?)[i]?=some (some x):=by
    rw [S.slot,JD,h1'];rfl
   obtain⟨j,hj,ej⟩:∃j,fr[i]?=some j/\X.N[j]?=some x:=by
    rw [JD] at e2;cases e:fr[i]? with
    | none=>rw [e] at e2;cases e2
    | some j=>rw [e] at e2;exact⟨j,rfl,Kp e2⟩
   have hv:σ[j]?=some (some v):=by
    rw [JD,hj] at h2';have h3':(σ[j]?).join=some v:=Kp h2';cases e:σ[j]? with
    | none=>rw [e] at h3';cases h3'
    | some o=>rw [e] at h3';rw [show o=some v from h3']
   obtain⟨m,hn0,hl⟩:=I.loc;have ho:=S.outer' x hmem;obtain⟨u,ru,lk⟩:=hl j x v ej hv (.inr ho);refine⟨u,ru,.inr ⟨.inr (S.frees x hmem),?_⟩⟩;rcases lk with⟨z,_⟩ | ⟨_,c,hc,hx⟩
   ·exfalso;rcases ho with ho | ho
    ·exact absurd (z.symm.trans ho) Qo
    ·exact absurd (z.symm.trans ho) Qo
   ·obtain⟨c2,hc2⟩:=qc (env:=X.env) scope.names [] (K7 (S.frees x hmem));have:=hcl x c2 hc2;rw [hc] at this;cases this;exact⟨c,hc2,(hcb x c hc2 _ hx).keeps hk₁⟩
  ·obtain⟨v,q⟩:=I.cell x c (hcl x c e);exact⟨v,(hcb x c e v q).keeps hk₁⟩
  ·cases q:H2 c with
   | none=>rfl
   | some u=>
    obtain⟨v,o,eo,d⟩:=I.cell x c (hcl x c e);have ex:=hcl x c e;have:=(e0.bs c o (qD eo (I.freeC x c ex) λhm=>?_)).2
    ·rw [q] at this;cases this
    ·rcases JF.mp (I.stkSub c hm) with z | z
     ·exact I.cne x c ex z
     ·have h1:=I.ok.cab x c (hfn x) ex;obtain⟨_,o',ho',_⟩:=I.ok.funs.mem z;exact absurd (JX (JC ho') h1) (Le _)
  ·unfold aN;show _=N'.length;rw [Kg,Mz,Jv,S.len]
 refine kla_codeExpr (QM (ht [] _ (aN 0 fr σ) H2 Q J hq) (λv s' hl=>?_) λ_ _ y=>y);obtain⟨v',H',J',rv,q⟩:=hl;exact⟨v',H',J'.os,J'.bare,J'.base,J'.hok,rv,q⟩
theorem Ha{base:QB}{scope:QP}{N':List Str}{cl:List (Str×Qs)}{qual:Str}{f c':Qs}{A:QF}{outer:List Env}{s:Qt}{H:Hp}{E E':XK}(hE:∀cls d H',E' cls d H'->E cls d H'):p9 (aV X.prog X.w) (nu X base scope N' cl qual f c' A outer s H E) E':=by
 intro Sb σ H1 s1 ev s2 I h;obtain⟨e,cls,a0,B,H2,rfl,ho,hg,fl,hb,un,kb,th,q⟩:=h;have ub:Un (aD outer) [] H H1 s.heap s1.heap:=I.base;have stk:(nu X base scope N' cl qual f c' A outer s H E).stack=ot scope qual s.heap.objs.size f c' cl::outer:=rfl;show Qv (Qw X.prog X.w) _ (leaving _ (.ref e)) _ _ _;refine wpAny_leaves_onW I.ok.frames rfl fl λh2 x1 x2=>?_;have nst:∀b o,s.heap.get? b=some o->b ∉ aD outer->b ∉ aD (nu X base scope N' cl qual f c' A outer s H E).stack:=λb o eb hb hm=>by
  rcases JF.mp (I.stkSub b hm) with z | z
  ·have h1:=JC eb;have h2:=I.ok.above;rw [<-z] at h2;exact absurd (JX h1 h2) (Le _)
  ·exact hb z
 have sub:∀b∈aD outer,b∈aD (nu X base scope N' cl qual f c' A outer s H E).stack:=λb hb=>by
  rw [stk];unfold aD;rw [L7];exact Ka _ hb
 have up:∀b∈aD outer,∀o,s2.heap.get? b=some o->∃sl,h2.get? b=some {o with slots:=sl}:=λb hb o eo=>by
  obtain⟨_,o',ho',hd⟩:=fl.2.2.1.mem (sub b hb);rw [eo] at ho';cases ho';exact x2 b o eo hd
 have kB:∀b o,s.heap.get? b=some o->H b=none->b ∉ aD outer->B.get? b=some o:=λb o eb n hb=>kb b o (ub.keep b o eb n hb Qo) (ub.free b o eb n Qo) (nst b o eb hb);have tB:∀b o,s.heap.get? b=some o->b ∉ aD outer->∃o',B.get? b=some o':=λb o eb hb=>by
  obtain⟨o',eo'⟩:=ub.there b o eb Qo;exact th b o' eo' (nst b o eb hb)
 refine⟨e,cls,a0,B,H2,rfl,ho.trans I.os,hg,x1,hb,⟨λb o eb n hb' hx'=>x1.1 b o (kB b o eb n hb'),λb o eb n hb' hx'=>?_,λb o eb n hx'=>?_,λb o eb hx'=>?_,λb xs z=>un.tups b xs (ub.tups b xs z),λb o u z=>un.frzs b o u (ub.frzs b o u z),λb ps z=>?_⟩,kB,tB,hE _ _ _ q⟩
 ·obtain⟨sl,es⟩:=ub.slot b o eb n hb' hx';obtain⟨sl1,es1⟩:=un.slot b _ es (ub.free b o eb n hx') (sub b hb') Qo;obtain⟨sl2,es2⟩:=up b hb' _ es1;exact⟨sl2,es2⟩
 ·obtain⟨o',eo'⟩:=ub.there b o eb hx';exact un.free b o' eo' (ub.free b o eb n hx') Qo
 ·by_cases hb':b∈aD outer
  ·obtain⟨o',eo'⟩:=ub.there b o eb hx';obtain⟨o2,eo2⟩:=un.there b o' eo' Qo;obtain⟨sl',es'⟩:=up b hb' _ eo2;exact⟨_,es'⟩
  ·obtain⟨o',eo'⟩:=tB b o eb hb';exact⟨o',x1.1 b o' eo'⟩
 ·obtain⟨m1,e1⟩:=ub.tbls b ps z;obtain⟨m2,e2⟩:=un.tbls b _ e1;exact⟨m1++m2,by rw [e2,NF]⟩
def Hb(X:Cx)(d:Nat)(C:Qs)(i:Nat)(ts:TS):TS:=λD σ H=>∃(f:Qs)(k:Nat)(fd:QC)(sp:Sp)(o:Qr×Option Qs×Array (Option Qr)),σ[d]?=some (some (.ref f))/\X.base.get? f=some ⟨o.1,o.2.1,.func fd,o.2.2⟩/\aP k X.A/\
 aB X.prog X.w X.K X.mg X.base (aV X.prog X.w) k f fd [] sp/\dA X.K fd [] []/\sp [] H (λ_ H2=>D.nx σ H2) (λcls _ H2=>cls= .ref C/\∀e,H2 e=none->
 ts {nx:=λσ' H'=>D.nx (σ'.set i none) H',rt:=D.rt} (σ.set i (some (.ref e))) (ao H2 e (.ext (bQ e (.ref C)))))
theorem Hc{C C':Qs}{x c n:Str}{p cp ep np hp tp:Pos}{b₀:QH}{suite:List QH}{i d:Nat}{ts:TS}{bmB bmB':List Qr}{newId newId':String}(hd:X.N[d]?=some x)(hv:oF X.env.scope x)
 (hst:X.stack=X.env::X.outer)(hfr:X.env.frame=some X.env.locals)
 (hmc:X.mg c=some (.ref C'))(hgc:Gl X c)(q:Ma X.K C bmB newId=true)(q':Ma X.K C' bmB' newId'=true)(hB:bmB'.contains (.type "BaseException")=true)
 (hin:MC X.K C (.ref C')=some true)
 (hN:X.N.Nodup)(hi:X.N[i]?=some n)(hn:X.env.scope.names.lookup n=some .local)(hs:∀e,bu (X.inEx e) (b₀::suite) ts)
 (hdb:(x==("__debug__":Str))=false:=by decide)(hdc2:(x==("__classdict__":Str))=false:=by decide)(hdc:(c==("__debug__":Str))=false:=by decide)(hsw:QS (.Call (.Name x p) [] [] cp) none ep.line X.env=pure false:=by rfl):
 PS X (.Try [.Expr (.Call (.Name x p) [] [] cp) ep] [.ExceptHandler (some (.Name c np)) (some n) (b₀::suite) hp] [] [] tp) (Hb X d C i ts):=by
 intro Sb s σ H D I h;refine wpAny_Try_except ?_;generalize hEh:(λ(e:Qr) (s₁:Qt)=>Qv (Qw X.prog X.w) X.A (noteFrame e X.env) (λ_ s₂=>Qv (Qw X.prog X.w) X.A (setFlight e none) (λ_ s₃=>Qv (Qw X.prog X.w) X.A (handleBy e X.env [.ExceptHandler (some (.Name c np)) (some n) (b₀::suite) hp]) (SP X Sb D) X.xe s₃) X.xe s₂) X.xe s₁)=Eh;have I':aa (X.wish Eh) Sb σ H s:=I.wish Eh;have out:Qv (Qw X.prog X.w) X.A (eval (.Call (.Name x p) [] [] cp) X.env) (λ_ s₁=>∃H',aa X Sb σ H' s₁/\D.nx σ H') Eh s:=by
  obtain⟨f,k,fd,sp,⟨oc,od,osl⟩,ef,ho,hr,F,hb,q1⟩:=h;refine Q3 (ar (qR (X:=X.wish Eh) hd hv hdb hdc2 Sb s σ H (λv H'=>v=V.ref f/\H'=H) I' ⟨_,ef,rfl,rfl⟩) λu s1 ⟨x',H1,I1w,r,e1,e2⟩=>?_);subst e1;subst e2;cases r;have I1:aa X Sb σ H1 s1:=I1w.unwish;have X1:Ju.In [(f,⟨oc,od,.func fd,osl⟩)] s1.heap:=λa o e=>by
   rw [Kb] at e;split at e
   ·rename_i hh;cases e;have:a=f:=by simpa using hh
    rw [this];exact I1.bk _ _ ho
   ·cases e
  refine PySem.W.callWith_K0 (K:=[(f,⟨oc,od,.func fd,osl⟩)]) X1 (by simp [MH]) ?_;refine wpAny_call (Q2 (F.run X.A X.stack s1 H1 ⟨[],[]⟩ [] [] _ _ hr I1.env0 (hb s1 [] I1.kIn rfl) .nil q1) λr2 s2 hq=>?_);cases r2 with
  | ok fl=>
   cases fl with
   | ret u=>
    obtain⟨v,H2,I2,_,q2⟩:=I1.after hq;exact⟨H2,I2,q2⟩
   | next=>exact K6 hq
   | brk=>exact K6 hq
   | cont=>exact K6 hq
  | error ev=>
   obtain⟨e,cls,a0,B,H2,rfl,ho,hgn,fl,hB2,un,kb,th,rfl,hsu⟩:=hq;rw [<-hEh];have fl':OP B (X.env::X.outer) e (.ref C) a0 s2.heap:=by rw [<-hst];exact fl
   refine wpAny_looks_onW (by rw [I.ok.frames,hst]) hfr fl' λh4 held4 sm4=>?_;refine wpAny_landsW held4 λh5 fl5 sm5=>?_;have sm25:=sm4.trans sm5;have I5:aa X Sb σ H2 {s2 with heap:=h5}:=aa.call' (ch:=[]) (s':={s2 with heap:=h5}) I1 ho (xq (X:=X) un fl fl5.1 sm25 kb th) (hB2.kept fl5.1) hgn (λ_ z=>nomatch z);have I5e:=I5.inEx e;obtain⟨ob,hob,hobc⟩:=fl5.there;have O:=(uH (x:=c) (mg:=X.mg) (C:=C') I.ok.mod.kin hmc q').obj;obtain⟨tl',N',nm',qn',bs',hd',sn',sub',ab',col',dd',k0',k1',k2',k3',k5',mN',hC',_,_,T'⟩:=O;have O2:=(uH (x:=c) (mg:=λ_=>some (.ref C)) (C:=C) I.ok.mod.kin rfl q).obj;obtain⟨tl,N,nm,qn,bs,hd,sn,sub,ab,col,dd,k0,k1,k2,k3,k5,mN,hC,_,_,T⟩:=O2;refine wpAny_handleBy_cons (codeAny_handlers_test (oH I5e hgc hmc ?_ hdc)) (by intro z;cases z);have hbase':tl'.contains (.type "BaseException")=true:=by rw [T'.hasType hB]
   refine Dr (I5.bk _ _ hC) (I5.bk _ _ hC') hob hobc hbase' (Ds I.ok.mod.kin hin hC) ?_;refine codeAny_handlers_suite_as ?_;refine lands_againW fl5 λh6 fl6 sm6=>?_;have eB:B.get? e=none:=fl.2.1;have nH2:H2 e=none:=by
    cases z:H2 e with
    | none=>rfl
    | some u=>
     obtain⟨ob',z'⟩:=(hB2 e u z).there;rw [eB] at z';cases z'
   have u6:=xq (X:=X) un fl fl6.1 (sm25.trans sm6) kb th;have n1:∀o,s1.heap.get? e=some o->False:=λo z=>by
    by_cases hbf:e∈aD X.stack
    ·obtain⟨_,o',ho',hd'⟩:=fl.2.2.1.mem hbf;obtain⟨oe,ws,hoe,_,hoed,_⟩:=fl.first;rw [hoe] at ho';cases ho';exact hd' _ hoed
    ·obtain⟨o',z'⟩:=th e o z hbf;rw [eB] at z';cases z'
   have ne2:∀b u,H2 b=some u->b≠e:=λb u z w'=>by rw [w',nH2] at z;cases z
   have un6:Un (aD X.stack) [] H1 (ao H2 e (.ext (bQ e (.ref C)))) s1.heap h6:=
    ⟨u6.keep,u6.slot,λb o z nn hx=>by rw [az (λw'=>n1 o (by rw [<-w'];exact z))];exact u6.free b o z nn hx,u6.there,
     λb xs z=>by rw [az (ne2 b _ (u6.tups b xs z))];exact u6.tups b xs z,λb o xs z=>by rw [az (ne2 b _ (u6.frzs b o xs z))];exact u6.frzs b o xs z,
     λb pss z=>by obtain⟨mo,z'⟩:=u6.tbls b pss z;exact⟨mo,by rw [az (ne2 b _ z')];exact z'⟩⟩
   have ok6:aW X.prog X.w (ao H2 e (.ext (bQ e (.ref C)))) h6:=λb u z=>by
    by_cases hbe:b=e
    ·subst hbe;rw [bh] at z;cases z;obtain⟨o6,ho6,hc6⟩:=fl6.there;exact⟨⟨o6,ho6,hc6⟩,⟨o6,ho6⟩,λh1 h2 uu36 kk=>by obtain⟨o,z1,z2⟩:=uu36;exact⟨o,kk o z1,z2⟩⟩
    ·rw [az hbe] at z;exact(hB2 b u z).stay (λcc v _ z'=>fl6.1 cc v z') (λcc z'=>by rw [az (ne2 cc _ z')];exact z') (λcc xs z'=>by rw [az (ne2 cc _ z')];exact z') λcc xs z'=>by rw [az (ne2 cc _ z')];exact z'
   have I6:aa X Sb σ (ao H2 e (.ext (bQ e (.ref C)))) {s2 with heap:=h6}:=aa.call' (ch:=[]) (s':={s2 with heap:=h6}) I1 ho un6 ok6 hgn (λ_ z=>nomatch z);refine oG (X:=X.inEx e) (I6.inEx e) hN hi (.inl hn) (v:= .ref e) rfl (λs7 I7=>?_) (.inr hn);refine QM (hs e Sb s7 _ _ _ I7 (hsu e nH2)) (λf s8 q8=>?_) λ_ _ z=>z.elim;cases f with
   | next=>
    obtain⟨σ8,H8,J8,q8⟩:=q8;exact xp (J8.outEx I.ok.hd) hN hi hn λs9 J9=>⟨σ8.set i none,H8,J9,q8⟩
   | ret v=>
    obtain⟨v8,σ8,H8,J8,r8,q8⟩:=q8;exact xp (J8.outEx I.ok.hd) hN hi hn λs9 J9=>⟨v8,σ8.set i none,H8,J9,r8,q8⟩
   | brk=>obtain⟨_,_,_,z⟩:=q8;exact z.elim
   | cont=>obtain⟨_,_,_,z⟩:=q8;exact z.elim
 refine R5 (wpAny_Expr_any (ar out λv s1 ⟨H',I1,q1⟩=>?_) I.quiet hsw);exact Rg (Rg ⟨σ,H',I1,q1⟩)
def He(X:Cx)(P:Qs)(qual:Str)(scope:QP)(N':List Str)(fr:List Nat)(body:Qx)(k:Nat)(pH:QB->Sp):TE:=λσ H Q=>H P=some (ik qual)/\∀(base':QB)(f c':Qs)(fd:QC)(o:Qr×Option Qs×Array (Option Qr))(cl:List (Str×Qs))(H':Hp),
 ai H H'->H' c'=some (.cod qual)->base'.get? f=some ⟨o.1,o.2.1,.func fd,o.2.2⟩->aB X.prog X.w X.K X.mg base' (aV X.prog X.w) (k+1) f fd [] (Au X base' σ scope N' fr cl qual f c' k body)->dA X.K fd [] []->pH base' [.ref f] H' Q E0
theorem Hf{kR k:Nat}{fR c P:Qs}{fdR:QC}{pn x:Str}{pH:QB->Sp}{qual:Str}{scope:QP}{N':List Str}{fr:List Nat}{params:RX}{body:Qx}{p lpos pos:Pos}(G:∀base':QB,aB X.prog X.w X.K X.mg base' aM kR fR fdR [pn] (pH base'))(hr:aP kR X.A)
 (hg:Gl X x)(hm:X.mg x=some (.ref fR))(hk:MH X.K (.ref fR)=true)(hb:dA X.K fdR [pn] [])(L:oq X.base X.mg c P)(hcode:X.env.code= .ref c)(hq:X.env.qual++"<lambda>"=qual)(S:aU X.env.scope X.N N' 0 fr scope)(hfn:∀x,X.fn x=true)
 (hco:scope.isCoroutine=false)(hgen:scope.isGenerator=false)(hcell:∀x∈scope.names,x.2≠ .cell)(hdef:defaultsOf params X.env=([],[]))(hbp:∀(pm cv ctv:Qr) (cl:List (Str×Qs)),bindArgs (kla_fn "<lambda>" qual params body scope cl pm cv ctv) ⟨[],[]⟩=pure [])
 (hdb:(x==("__debug__":Str))=false:=by decide)(he:Qy [.Lambda params body scope lpos] X.env=(false,eval (.Lambda params body scope lpos) X.env)::Qy [] X.env:=by rfl)(hpl:(QN pos (Qy [] X.env)).any (·.1)=false:=by rfl):
 PE X (.Call (.Name x p) [.Lambda params body scope lpos] [] pos) (He X P qual scope N' fr body k pH):=by
 intro Sb s σ H Q I ⟨hP,h⟩;refine Q3 (oH I hg hm ?_ hdb);refine OM (h₀:=X.base) I.ok.mod.kin hk ?_ he hpl;rw [he];show Qv _ _ (spliced ((false,eval (.Lambda params body scope lpos) X.env)::QN pos (Qy [] X.env))) _ _ s;refine NH (G7 I L hcode hP hq (uw λy hy e=>I.ok.has y.1 (S.outer y hy e)) hdef λf c' pm ctv h' tk H' I1 ho hsz hf hc' sm=>?_);refine NQ ⟨I1.kIn,?_⟩;have hfs:f ∉ aD X.stack:=λhb'=>by
  obtain⟨_,o,ho',_⟩:=I.stack.mem hb';exact absurd (JX (JC ho') hsz) (Le _)
 have h2:=h (mY X {s with heap:=h',toks:=tk} H') f c' _ (_,_,_) _ H' sm hc' (qD ho hf hfs) (G9 (k:=k) S I1 ho hf hfs hfn hco hgen hcell) (λs2 us _ hl=>by
  cases us with
  | nil=>exact .of_eq (hbp _ _ _ _)
  | cons a l=>simp at hl)
 refine wpAny_call (Q2 ((G _).run X.A X.stack _ H' ⟨[.ref f],[]⟩ [.ref f] [.ref f] Q E0 hr I1.env0L (hb _ [.ref f] I1.kIn rfl) (.cons rfl .nil) h2) λr s' hq=>?_);cases r with
 | error e=>exact hq.elim
 | ok fl=>
  cases fl with
  | ret u=>exact I1.after hq
  | next=>exact K6 hq
  | brk=>exact K6 hq
  | cont=>exact K6 hq
end
abbrev DX:=List Qp->(Qp->Prop)->Prop->Prop
inductive ox (K:Ju) (C:Qs) (F:DX) (vs:List V) (H:Hp) (Q:VK) (E:XK):Prop
 | mk (O:Ex) (ds:List Qp) (Qd:Qp->Prop) (R:Prop):(∀l,O l->H l≠none)->ah K H O vs ds->F ds Qd R->(∀d v H',Qd d->ai H H'->Dt K H' O v d->Q v H')->(R->∀H',ai H H'->E (.ref C) none H')->ox K C F vs H Q E
section
variable {P:QA} {w:QE} {K:Ju} {mg:Str->Option Qr} {base:QB}
theorem dB.okDX{C:Qs}{x qual:Str}{st:QH}{f:Qs}{fd:QC}{N ps:List Str}{k:Nat}{F:DX}(Fu:dB K x qual st f fd)(S:bj N ps (ax st))(len:∀ds Q R,F ds Q R->ds.length=ps.length)
 (hbody:∀(cdv:Qr) (A:QF) (outer:List Env) (s:Qt) (H:Hp) (O:Ex) (ds:List Qp) (Q:Qp->Prop) (R:Prop) (E:XK),aP k (A.deeper (Rj qual (ax st) s.heap.objs.size f cdv))->F ds Q R->(R->∀H',ai H H'->E (.ref C) none H')->
  ∃t,bu (bo (aV P w) P w K mg base N qual (ax st) f cdv A outer s H E) (fu st) (aQ K H O t)/\t {nx:=λ_=>Q .none,rt:=Q} (cC N ds)):aB P w K mg base (aV P w) (k+1) f fd ps (ox K C F):=by
 refine Fu.okR S (λvs H Q E h=>?_) (λcdv A outer s H vs Q E hr h=>?_)
 ·obtain⟨O,ds,Qd,R,_,r,q,_⟩:=h;rw [r.length];exact len _ _ _ q
 ·obtain⟨O,ds,Qd,R,tr,r,q,k,kx⟩:=h;obtain⟨t,ht,q'⟩:=hbody cdv A outer s H O ds Qd R E hr q kx;refine⟨_,ht,O,_,_,uP tr r,q',λO' δ' σ' H' z w' S'=>?_,λd v H' z s' r'=>k d v H' z s' r',λ_ _ _ _ z=>z.elim,λ_ _ _ _ z=>z.elim⟩;exact k _ _ _ z w'.same .non
def il(R:Prop)(u:DA):DS:=λ_ δ=>u δ λds=>ds.length<=Qz/\R
section
variable {N:List Str} {qual:Str} {scope:QP} {f0:Qs} {cd:Qr} {A:QF} {outer:List Env} {s:Qt} {H:Hp} {O:Ex} {E:XK} {R:Prop} {C:Qs}
theorem Hg{x:Str}{bm:List Qr}{B newId initId:String}{e:Qx}{es:List Qx}{np cpos pos:Pos}{u:DA}(hx:R->∀H',ai H H'->E (.ref C) none H')(hm:mg x=some (.ref C))(q:Ma K C bm newId=true)(FB:ExcBaseFacts B newId initId bm)
 (ha:PA (bo (aV P w) P w K mg base N qual scope f0 cd A outer s H E) (e::es) (dW K H O u))(hg:Gl (bo (aV P w) P w K mg base N qual scope f0 cd A outer s H E) x:=by exact rfl)(hd:(x==("__debug__":Str))=false:=by decide)
 (he:Qy (e::es) (bo (aV P w) P w K mg base N qual scope f0 cd A outer s H E).env=(false,eval e (bo (aV P w) P w K mg base N qual scope f0 cd A outer s H E).env)::Qy es (bo (aV P w) P w K mg base N qual scope f0 cd A outer s H E).env:=by rfl)
 (hpl:(QN cpos (Qy es (bo (aV P w) P w K mg base N qual scope f0 cd A outer s H E).env)).any (·.1)=false:=by rfl):
 PS (bo (aV P w) P w K mg base N qual scope f0 cd A outer s H E) (.Raise (some (.Call (.Name x np) (e::es) [] cpos)) none pos) (aQ K H O (il R u)):=
 λSb s1 σ H1 D I ⟨O1,δ,EE,w1,q1,_,_,_,_⟩=>Dq (Ex:=λH2=>R/\ai H H2) hm q FB rfl hg ha (λSb σ H2 s2 h' e args I2 hM uu39=>by obtain⟨r,sm⟩:=uu39;exact Dm I2 hM (hx r H2 sm)) hd he hpl Sb s1 σ H1 D I
  ⟨O1,δ,_,w1,q1,λds vs H2 uu40 s2 r2=>by obtain⟨hl,r⟩:=uu40;exact⟨by rw [r2.length];exact hl,r,w1.same.trans s2⟩⟩
def iq(F:DX)(R:Prop)(t:DA):DT:=λδ Q=>t δ λds=>F ds Q R
theorem Av{k j:Nat}{f:Qs}{fd:QC}{ps:List Str}{F:DX}{st:QH}{x:Str}{p pos:Pos}{e:Qx}{es:List Qx}{u:DA}(hx:R->∀H',ai H H'->E (.ref C) none H')(G:aB P w K mg base (aV P w) k f fd ps (ox K C F))
 (hr:aP j (bo (aV P w) P w K mg base N qual scope f0 cd A outer s H E).A)(Nf:Fn K mg x st f fd ps)(ha:PA (bo (aV P w) P w K mg base N qual scope f0 cd A outer s H E) (e::es) (dW K H O u))(hk:k<=j:=by decide)
 (hg:Gl (bo (aV P w) P w K mg base N qual scope f0 cd A outer s H E) x:=by exact rfl)(hdb:(x==("__debug__":Str))=false:=by decide)
 (he:Qy (e::es) (bo (aV P w) P w K mg base N qual scope f0 cd A outer s H E).env=(false,eval e (bo (aV P w) P w K mg base N qual scope f0 cd A outer s H E).env)::Qy es (bo (aV P w) P w K mg base N qual scope f0 cd A outer s H E).env:=by rfl)
 (hpl:(QN pos (Qy es (bo (aV P w) P w K mg base N qual scope f0 cd A outer s H E).env)).any (·.1)=false:=by rfl):
 DE (bo (aV P w) P w K mg base N qual scope f0 cd A outer s H E) H O (.Call (.Name x p) (e::es) [] pos) (iq F R u):=
 PE.imp (ui (E:=λcls d H1=>cls= .ref C/\d=none/\R/\ai H H1) G (hr.mono hk) hg Nf.m Nf.kp Nf.b .nil (Dp λcls d H' uu41=>by obtain⟨e,e2,r,sm⟩:=uu41;exact e▸e2▸hx r H' sm) ha hdb he hpl)
  λσ H1 Q uu42=>by obtain⟨O1,δ,Qd,w1,q,k1⟩:=uu42;exact⟨O1,δ,_,w1,q,λds vs H2 q1 s1 r1=>⟨O1,ds,Qd,R,(w1.mono s1).trk,by rw [J5];exact r1,q1,λd v H3 q2 s2 r2=>k1 d v H3 q2 (s1.trans s2) r2,λr H3 s2=>⟨rfl,rfl,r,w1.same.trans (s1.trans s2)⟩⟩⟩
end
def Aw(P:QA)(w:QE)(K:Ju)(mg:Str->Option Qr)(C:Qs)(k0:Nat)(base:QB):Sp:=λvs H Q _=>∃(f k:Nat)(fd:QC)(sp:Sp)(o:Qr×Option Qs×Array (Option Qr)),vs=[.ref f]/\base.get? f=some ⟨o.1,o.2.1,.func fd,o.2.2⟩/\k<=k0/\
 aB P w K mg base (aV P w) k f fd [] sp/\dA K fd [] []/\∀(Qn:VK)(En:XK),(∀v H2,Q (.bl false) H2->Qn v H2)->(∀d H2,(∀H3,ai H2 H3->Q (.bl true) H3)->En (.ref C) d H2)->sp [] H Qn En
end
section
variable {X:Cx} {H0:Hp} {O0:Ex}
def iu(F:DX)(fr:List Nat)(u:DA):DT:=λδ Q=>u (bC 0 fr δ) λds=>F ds (λ_=>Q (.bool false)) (Q (.bool true))
theorem Hh{C c PT:Qs}{kR k0 kg:Nat}{fR fg:Qs}{fdR fdg:QC}{pn x xg qual:Str}{psg:List Str}{stR stg:QH}{F:DX}{scope:QP}{N':List Str}{fr:List Nat}{params:RX}{a:Qx}{as:List Qx}{p gp gpos lpos pos:Pos}{u:DA}
 (G:∀base':QB,aB X.prog X.w X.K X.mg base' aM kR fR fdR [pn] (Aw X.prog X.w X.K X.mg C k0 base'))(Gg:∀base':QB,aB X.prog X.w X.K X.mg base' (aV X.prog X.w) kg fg fdg psg (ox X.K C F))
 (hr:aP kR X.A)(NR:Fn X.K X.mg x stR fR fdR [pn])(Ng:Fn X.K X.mg xg stg fg fdg psg)(hP0:H0 PT=some (ik qual))(L:oq X.base X.mg c PT)(hcode:X.env.code= .ref c)(hq:X.env.qual++"<lambda>"=qual)
 (S:aU X.env.scope X.N N' 0 fr scope)(hfr:fr.Nodup)(hfn:∀x,X.fn x=true)
 (ha:∀base' cl f c' A outer s2 H2 E,PA (nu X base' scope N' cl qual f c' A outer s2 H2 E) (a::as) (dW X.K H0 O0 u))(hk:kg+1<=k0:=by decide)
 (hg:Gl X x:=by exact rfl)(hgl:∀base' cl f c' A outer s2 H2 E,Gl (nu X base' scope N' cl qual f c' A outer s2 H2 E) xg:=by intros;exact rfl)
 (hco:scope.isCoroutine=false:=by rfl)(hgen:scope.isGenerator=false:=by rfl)(hcell:∀x∈scope.names,x.2≠ .cell:=by decide+kernel)(hdef:defaultsOf params X.env=([],[]):=by rfl)
 (hbp:∀(pm cv ctv:Qr) (cl:List (Str×Qs)),bindArgs (kla_fn "<lambda>" qual params (.Call (.Name xg gp) (a::as) [] gpos) scope cl pm cv ctv) ⟨[],[]⟩=pure []:=by intros;rfl)
 (hdb:(x==("__debug__":Str))=false:=by decide)(hdg:(xg==("__debug__":Str))=false:=by decide)(he:Qy [.Lambda params (.Call (.Name xg gp) (a::as) [] gpos) scope lpos] X.env=(false,eval (.Lambda params (.Call (.Name xg gp) (a::as) [] gpos) scope lpos) X.env)::Qy [] X.env:=by rfl)(hpl:(QN pos (Qy [] X.env)).any (·.1)=false:=by rfl)
 (heg:∀env:Env,Qy (a::as) env=(false,eval a env)::Qy as env:=by intro;rfl)(hplg:∀env:Env,(QN gpos (Qy as env)).any (·.1)=false:=by intro;rfl):
 DE X H0 O0 (.Call (.Name x p) [.Lambda params (.Call (.Name xg gp) (a::as) [] gpos) scope lpos] [] pos) (iu F fr u):=
 PE.imp (Hf (k:=kg) G hr hg NR.m NR.kp NR.b L hcode hq S hfn hco hgen hcell hdef hbp hdb he hpl) λσ H Q ⟨O,δ,Qd,w,q,kk⟩=>⟨w.same _ _ hP0,λbase' f c' fd o cl H' sm hc' hbf Ff hb'=>
  ⟨f,kg+1,fd,_,o,rfl,hbf,hk,Ff,hb',λQn En kQ kE=>⟨rfl,hc',λA outer s2 hr2=>⟨_,ui (E:=λcls _ H4=>cls= .ref C/\Qd (.bool true)/\ai H' H4) (Gg base') hr2 (hgl _ _ _ _ _ _ _ _ _) Ng.m Ng.kp Ng.b .nil
   (Ha λcls d H4 uu44=>by obtain⟨e,r,s4⟩:=uu44;exact e▸kE d H4 λH5 s5=>kk (.bool true) (.bl true) H5 r (sm.trans (s4.trans s5)) (.bl true)) (ha _ _ _ _ _ _ _ _ _) hdg (heg _) (hplg _),
   O,bC 0 fr δ,_,(w.mono sm).comp hfr,q,λds vs H3 q1 s1 r1=>⟨O,ds,_,_,((w.mono sm).mono s1).trk,by rw [J5];exact r1,q1,λd v H4 q2 s2 r2=>kQ v H4 (kk (.bool false) (.bl false) H4 q2 (sm.trans (s1.trans s2)) (.bl false)),λr H4 s2=>⟨rfl,r,s1.trans s2⟩⟩⟩⟩⟩⟩
end
section
variable {P:QA} {w:QE} {K:Ju} {mg:Str->Option Qr} {base:QB}
def Ax(PT:Qs)(q:Str)(K:Ju)(F:List Qp->(Qp->Prop)->Prop):Sp:=λvs H Q E=>H PT=some (ik q)/\bb K F vs H Q E
theorem dB.okDL{x qual q:Str}{st:QH}{f c PT:Qs}{fd:QC}{N ps:List Str}{k:Nat}{F:List Qp->(Qp->Prop)->Prop}(Fu:dB K x qual st f fd)(hco:fd.code= .ref c)(S:bj N ps (ax st))(len:∀ds Q,F ds Q->ds.length=ps.length)
 (hbody:∀(cdv:Qr) (A:QF) (outer:List Env) (s:Qt) (H:Hp) (O:Ex) (ds:List Qp) (Q:Qp->Prop) (E:XK),cdv= .ref c->H PT=some (ik q)->aP k (A.deeper (Rj qual (ax st) s.heap.objs.size f cdv))->F ds Q->
  ∃t,bu (bo aM P w K mg base N qual (ax st) f cdv A outer s H E).nox (fu st) (aQ K H O t)/\t {nx:=λ_=>Q .none,rt:=Q} (cC N ds)):aB P w K mg base aM (k+1) f fd ps (Ax PT q K F):=by
 obtain⟨oc,od,kV,doc,pm,an,cdv,ct,osl,rfl,lk,hcd⟩:=Fu.ex;refine uj lk hcd S (λvs H Q E h=>?_) λA outer s H vs Q E hr hsp=>?_
 ·obtain⟨_,O,ds,Qd,_,r,q,_⟩:=h;rw [r.length];exact len _ _ q
 ·obtain⟨hP,O,ds,Qd,tr,r,q,k⟩:=hsp;obtain⟨t,ht,q'⟩:=hbody cdv A outer s H O ds Qd E hco hP hr q;refine⟨_,ht.nox,O,_,_,uP tr r,q',λO' δ' σ' H' z w' S'=>?_,λd v H' z s' r'=>k d v H' z s' r',λ_ _ _ _ z=>z.elim,λ_ _ _ _ z=>z.elim⟩;exact k _ _ _ z w'.same .non
end
section
variable {X:Cx} {Sb:List (Qs×Obj)} {σ:St} {H:Hp} {s:Qt}
theorem Hi(I:aa X Sb σ H s){O:Ex}{v:V}{d:Qp}{u:Qr}(h:Dt X.K H O v d)(ht:bG d=true)(r:ay v u)(y:Str)(t:Tok)(hu:X.A.units < QV):SeqAt.RcAt X.A s (.str y t) u (JG (.str y) d):=by
 cases h with
 | non=>cases (show u=Mg from r);simpa [JG] using SeqAt.RcAt.str_none y t
 | bl b=>cases (show u=Mq b from r);simpa [JG] using SeqAt.RcAt.str_bool y t b
 | int i=>obtain⟨k,e⟩:=(show ∃t,u=MG i t from r);cases e;simpa [JG] using SeqAt.RcAt.str_int y t i k
 | str x=>obtain⟨k,e⟩:=(show ∃t,u=L5 x t from r);cases e;simpa [JG] using OS y t x k
 | @tup a xs ds h n rr=>
  cases (show u=JY a from r);obtain⟨its,rv,p,_⟩:=I.tuple (.inl h);simpa [JG] using Ow y t (show s.heap.IsTuple a its.toArray from p) hu
 | @tupK a xs ds h rr=>
  cases (show u=JY a from r);obtain⟨its,rv,p,_⟩:=I.tuple h.of0;simpa [JG] using Ow y t (show s.heap.IsTuple a its.toArray from p) hu
 | @lst a xs ds h n rr=>
  cases (show u=JY a from r);obtain⟨its,rv,p,_⟩:=I.list (.inl h);simpa [JG] using SeqAt.RcAt.str_list y t p.isList hu
 | pack h n=>exact absurd ht (by simp [bG])
 | purse h n=>exact absurd ht (by simp [bG])
 | scr h r=>exact absurd ht (by simp [bG])
 | obj h e n r=>exact absurd ht (by simp [bG])
 | @dct0 a h n=>
  cases (show u=JY a from r);obtain⟨_,_,_,_,o,es,ep,e,c,dd,_⟩:=(show bx X.prog X.w H s.heap a (.dK []) from I.hok a _ h);simpa [JG] using SeqAt.RcAt.str_dict y t e c.1 dd hu
 | @dic a ob kv ks kp ds h e1 e2 n rr=>
  cases (show u=JY a from r);obtain⟨_,_,_,_,o,es,ep,e,c,dd,_⟩:=(show bx X.prog X.w H s.heap a (.dK kv) from(I.hok a _ h).2);simpa [JG] using SeqAt.RcAt.str_dict y t e c.1 dd hu
end
section
variable {X:Cx}
def Ay(K:Ju):R2:=λx y H Q=>∃O dy z,Dt K H O y dy/\bG dy=true/\x= .str z/\Q (.bl (JG (.str z) dy)) H
theorem Hj{k:Nat}(hr:aP k X.A):bz X (QO .Eq) (Ay X.K):=by
 intro Sb s σ H x y v u Q I rx ry h;obtain⟨O,dy,z,hy,ht,rfl,q⟩:=h;obtain⟨t,rfl⟩:=rx;exact Hi I hy ht ry z t hr.units0 X.prog X.w X.xe _ (mO I q rfl)
def iw:Qp->Qp->(Qp->Prop)->Prop:=λx y Q=>∃z,x= .str z/\bG y=true/\Q (.bool (JG (.str z) y))
theorem Hk{K:Ju}:bS K (Ay K) iw:=λH O x y dx dy Qd R _ hx hy uu45 k=>by
 obtain⟨z,e,ht,q⟩:=uu45;subst e;cases hx.str;exact⟨_,dy,z,hy.all,ht,rfl,k _ _ H q (ai.refl _) (.bl _)⟩
end
theorem Az{X:Cx}{K':Ju}(h:X.K=K'):cj X (.builtin "isinstance") (λxs H Q=>∃(e C:Qs)(c:V)(cv:Qr)(b:Bool),xs=[.ref e,c]/\H e=some (.ext (bQ e (.ref C)))/\iH K' C/\(∀u,ay c u->u=cv)/\M8 K' (.ref C) cv=some b/\Q (.bl b) H):=by
 subst h;exact DI
theorem Hl{X:Cx}{K':Ju}(h:X.K=K'):cj X (.builtin "isinstance") (λxs H Q=>∃(e C q:Qs)(cs:List Qs)(b:Bool),xs=[.ref e,.ref q]/\H e=some (.ext (bQ e (.ref C)))/\H q=some (.tup (cs.map V.ref))/\iH K' C/\NC K' (.ref C) (cs.map JY)=some b/\Q (.bl b) H):=by
 subst h;exact DK
def Hm(P:Qs)(q:Str)(H:Hp):Prop:=∀b,H b=none\/(∃o xs,H b=some (.frz o (.lst xs)))\/(b=P/\H b=some (ik q))
theorem Hn{P:QA}{w:QE}{K:Ju}{mg mb:Str->Option Qr}{CX:dz}{k:Nat}{fa a c PT:Qs}{fd:QC}{x q:Str}{sp:Sp}{s₁:Qt}{vs:List Qr}{ns:List Int}
 (KX:K.In s₁.heap)(hnt:noTabs K=true)(hns:s₁.heap.Ns QD mg)(hb:s₁.heap.Ns Rv mb)(hbb:∀x:Str,x≠"__name__"->mb x=QL x)(hlim:s₁.heap.NoLimit)(hg:s₁.gens=#[])
 (hC:CodeHd s₁.heap c PT)(hPT:s₁.heap.get? PT=some (tabObj #[]))(hbm:∃bm ob,mg "__builtins__"=some (.ref bm)/\bm≠Rv/\s₁.heap.get? bm=some ob/\ob.cls= .type "module"/\ob.dict=some Rv/\ob.data= .plain)
 (ha:s₁.heap.get? a=some {cls:= .type "list",data:= .seq vs.toArray})(hi:IntsAre vs ns)(hl:ns.length<=Qz)(hr:aP k callerA)
 (F:∀base:QB,K.In base->base.Ns QD mg->oq base mg c PT->aB P w K mg base CX k fa fd [x] sp)(hbind:∀(s:Qt) (u:Qr),BindsTo s fd ⟨[u],[]⟩ [(x,u)])
 (hsp:∀H:Hp,H PT=some (ik q)->aS K H a (ns.map V.int)->sp [.ref a] H (λv _=>v= .bl true) λ_ _ _=>False)
 (hCX:∀H e s',CX [] H s₁ (λ_ _ _=>False) e s'->False):
 Rc (Qw P w) callerA (.call (.ref fa) ⟨[.ref a],[]⟩) (λr s'=>r= .ok (.ret (.bool true))/\OldK s₁.heap s'.heap/\s'.os=s₁.os/\Rx s'.gens) s₁:=by
 have rv:=wY hi;have lenV:=hi.length;have naP:a≠PT:=λe=>by rw [e,hPT] at ha;cases ha
 have KP:K.lookup PT=none:=by
  cases q:K.lookup PT with
  | none=>rfl
  | some o=>
   have e:=KX PT o q;rw [hPT] at e;cases e;have h2:=Mo.mp hnt (PT,tabObj #[]) (mem_of_lookupK q);exact absurd (show false=true from h2) Kf
 have core:∀H:Hp,Hm PT q H->H PT=some (ik q)->aS K H a (ns.map V.int)->aW P w H s₁.heap->(∀b,H b≠none->b=a\/b=PT)->(H a≠none->K.lookup a=none)->
  Rc (Qw P w) callerA (.call (.ref fa) ⟨[.ref a],[]⟩) (λr s'=>r= .ok (.ret (.bool true))/\OldK s₁.heap s'.heap/\s'.os=s₁.os/\Rx s'.gens) s₁:=by
  intro H hO hHP hS hok hA hK;have base_of:∀{b:Qs}{o:Obj},s₁.heap.get? b=some o->H b=none->(mK s₁.heap H).get? b=some o:=λe n=>BW e n;have noA:∀{b:Qs}{o:Obj},s₁.heap.get? b=some o->(∀xs,o.data≠ .seq xs 0)->(∀xs,o.data≠ .fields xs)->H b=none:=λ{b o} e d d2=>by
   cases q:H b with
   | none=>rfl
   | some u=>
    rcases hA b (by rw [q];simp) with e' | e' <;> subst e'
    ·rw [ha] at e;cases e;exact absurd rfl (d _)
    ·rw [hPT] at e;cases e;exact absurd rfl (d2 _)
  have nsK:∀{b:Qs}{m:Str->Option Qr},s₁.heap.Ns b m->(mK s₁.heap H).Ns b m:=λ{b m} ⟨o,es,ep,e,d,r⟩=>⟨o,es,ep,base_of e (noA e (λ_ z=>by rw [d] at z;cases z) λ_ z=>by rw [d] at z;cases z),d,r⟩;have hKb:K.In (mK s₁.heap H):=λb o e=>base_of (KX b o e) (by
   cases q:H b with
   | none=>rfl
   | some u=>
    rcases hA b (by rw [q];simp) with e' | e' <;> subst e'
    ·rw [hK (by rw [q];simp)] at e;cases e
    ·rw [KP] at e;cases e)
  have hM:Mod K mg (mK s₁.heap H):=⟨hKb,nsK hns,⟨mb,nsK hb,hbb⟩,let ⟨mc,h1,h2⟩:=hlim;⟨mc,nsK h1,h2⟩⟩;have e0:nA P w K mg (mK s₁.heap H) callerA [] s₁ H:=⟨rfl,hM,λb o e=>BX e,PX (BV _ _),trivial,λb hb=>absurd (show b∈([]:List Qs) from hb) Qo,hok,.of_eq hg⟩;have hL:oq (mK s₁.heap H) mg c PT:=by
   refine⟨?_,λe=>?_,?_⟩
   ·obtain⟨o,vs,file,tf,flags,tg,inF,text,tt,g1,g2,r1,r2,r3,r4,r5,r6,r7,ne⟩:=hC;refine⟨o,vs,file,tf,flags,tg,inF,text,tt,base_of g1 ?_,g2,r1,r2,r3,r4,r5,r6,r7,ne⟩;cases q:H c with
    | none=>rfl
    | some u=>
     rcases hA c (by rw [q];simp) with e' | e'
     ·rw [e',ha] at g1;cases g1;exact absurd (show("list":String)="code" from by injection g2) Qi
     ·exact absurd e' ne
   ·obtain⟨o,es,ep,g1,g2,_⟩:=hns;rw [e,hPT] at g1;cases g1;cases g2
   ·obtain⟨bm,ob,b1,b2,b3,b4,b5,b6⟩:=hbm;refine⟨bm,ob,b1,b2,λe=>?_,λe=>?_,base_of b3 (noA b3 (λ_ z=>by rw [b6] at z;cases z) λ_ z=>by rw [b6] at z;cases z),b4,b5,b6⟩
    ·obtain⟨o,es,ep,g1,g2,_⟩:=hns;rw [<-e,b3] at g1;cases g1;rw [b6] at g2;cases g2
    ·rw [e,hPT] at b3;cases b3;cases b4
  refine Q2 ((F _ hKb (nsK hns) hL).run callerA [] s₁ H ⟨[.ref a],[]⟩ [.ref a] [.ref a] _ _ hr e0 (hbind s₁ (.ref a)) (.cons rfl .nil) (hsp H hHP hS)) λr s' h=>?_;cases r with
  | error e=>exact(hCX H e s' h).elim
  | ok fl=>
   cases fl with
   | next=>exact K6 h
   | brk=>exact K6 h
   | cont=>exact K6 h
   | ret u=>
    obtain⟨v,H',os,bare,un,hok',r',q⟩:=h;have q':v= .bl true:=q;subst q';obtain rfl:u=Mq true:=r';refine⟨rfl,⟨λb o e=>?_,λb o e=>un.there b o e Qo⟩,os,bare⟩;cases q:H b with
    | none=>exact .inl (un.keep b o e q (by intro z;exact absurd (show b∈([]:List Qs) from z) Qo) Qo)
    | some u=>
     rcases hO b with z | ⟨ob,xs,z⟩ | ⟨rfl,z⟩
     ·rw [q] at z;cases z
     ·have z2:=un.frzs b ob _ z;obtain⟨e1,_⟩:=hok b _ z;obtain⟨e2,_⟩:=hok' b _ z2;rw [e] at e1;cases e1;exact .inl e2
     ·obtain⟨more,z2⟩:=un.tbls b _ z;obtain⟨_,_,_,ps,e2,_⟩:=hok' b _ z2;rw [hPT] at e;cases e;exact .inr (.inl ⟨(hC.tab hPT).isCodeTable,rfl,#[],ps,rfl,by rw [Array.empty_append];exact e2⟩)
 cases hk:K.lookup a with
 | some o=>
  have e:=KX a o hk;rw [ha] at e;cases e;refine core (λb=>if b=PT then some (ik q) else none) (λb=>?_) (Ql rfl) (.inr ⟨_,vs.toArray,_,hk,rfl,rfl,rfl,by rw [JT,lenV];exact hl,by simpa using rv⟩) (λb u z=>?_) (λb z=>?_) λz=>absurd (Qk naP) z
  ·by_cases hb:b=PT
   ·exact .inr (.inr ⟨hb,Ql hb⟩)
   ·exact .inl (Qk hb)
  ·by_cases hb:b=PT
   ·have z':=(Ql hb).symm.trans z;cases z';subst hb;exact⟨q,0,rfl,#[],hPT,trivial,λ_ _ e=>nomatch e⟩
   ·have z':=(Qk hb).symm.trans z;cases z'
  ·by_cases hb:b=PT
   ·exact .inr hb
   ·exact absurd (Qk hb) z
 | none=>
  refine core (λb=>if b=PT then some (ik q) else if b=a then some (.frz {cls:= .type "list",data:= .seq vs.toArray} (.lst (ns.map V.int))) else none) (λb=>?_) (Ql rfl) (.inl (.inr ⟨{cls:= .type "list",data:= .seq vs.toArray},(Qk naP).trans (Ql rfl)⟩)) (λb u z=>?_) (λb z=>?_) λ_=>hk
  ·by_cases hb:b=PT
   ·exact .inr (.inr ⟨hb,Ql hb⟩)
   ·by_cases hb2:b=a
    ·exact .inr (.inl ⟨_,_,(Qk hb).trans (Ql hb2)⟩)
    ·exact .inl ((Qk hb).trans (Qk hb2))
  ·by_cases hb:b=PT
   ·have z':=(Ql hb).symm.trans z;cases z';subst hb;exact⟨q,0,rfl,#[],hPT,trivial,λ_ _ e=>nomatch e⟩
   ·have z:=(Qk hb).symm.trans z;by_cases hb2:b=a
    ·have z':=(Ql hb2).symm.trans z;cases z';subst hb2;exact⟨ha,by rw [Jv];exact hl,vs,_,rv,ha⟩
    ·have z':=(Qk hb2).symm.trans z;cases z'
  ·by_cases hb:b=PT
   ·exact .inr hb
   ·by_cases hb2:b=a
    ·exact .inl hb2
    ·exact absurd ((Qk hb).trans (Qk hb2)) z
theorem tabIn_of{K:Ju}{x:Str}{f c P:Qs}{oc o2:Qr}{od d2:Option Qs}{osl s2:Array (Option Qr)}{fd:QC}{vs:Array Qr}(a:nsIn K QD x=some (some (.ref f)))(b:K.lookup f=some ⟨oc,od,.func fd,osl⟩)(e:fd.code= .ref c)
 (g:K.lookup c=some ⟨o2,d2,.fields vs,s2⟩)(j:(vs[11]?:Option Qr)=some (.ref P)):tabIn K x=some (c,P):=by
 unfold tabIn;simp only [a,b,e,g,j]
theorem walk_ofTK{l:PySem.W.OpenLaw}{n k:Nat}{q:QA}{loose:List Str}{XP:(Str->Option Qr)->QB->Prop}{YP:QE->QB->Prop}{d dl:DefRec}{K:Params->Ju}{sp:Ju->Qs->Sp}{x qn:Str}{c PT:Qs}
 (hn:l.most=some n)(hn2:n<=Qz)(hdf:d.params.defaults=[])(hr:aP k callerA)
 (hY:∀(w:QE) (h:QB),YP w h->(K w.params).In h)(hrec:(recsOf q).find? (λe=>e.name==d.name)=some dl)
 (F:∀(w:QE) (mg:Str->Option Qr) (fa:Qs) (h:QB),(K w.params).In h->h.Ns QD mg->mg d.name=some (.ref fa)->
  ∃fd:QC,noTabs (K w.params)=true/\tabIn (K w.params) d.name=some (c,PT)/\(∀(s:Qt) (u:Qr),BindsTo s fd ⟨[u],[]⟩ [(x,u)])/\(∃oc od osl,(K w.params).lookup fa=some ⟨oc,od,.func fd,osl⟩)/\
   ∀base:QB,(K w.params).In base->base.Ns QD mg->oq base mg c PT->fd.code= .ref c->aB l.prog w (K w.params) mg base aM k fa fd [x] (sp (K w.params) PT))
 (hsp:∀(K:Ju) (H:Hp) (a:Qs) (ns:List Int),ns.length<=n->(∀z∈ns,LK z<=1048576)->H PT=some (ik qn)->aS K H a (ns.map V.int)->sp K PT [.ref a] H (λv _=>v= .bl true) λ_ _ _=>False):
 PySem.W.WalkO q loose XP YP l.row.toRowW d [] (λf vs=>Qb f vs):=by
 refine Att.attach_callB hn hdf λw s₀ s₁ mg mb fa o pm cd doc a vs ns G Y ho hd hcd hmg hobj hints hlen hb hg=>?_;have KX:=hY w _ Y;obtain⟨fd,hnt,hti,hbi,⟨oc,od,osl,hl⟩,hF⟩:=F w mg fa _ KX G.T.g hmg;obtain⟨hC,hPT⟩:=tab_of G.T KX hrec hti;have hco:fd.code= .ref c:=law_code KX G.T.g hti hmg (KX _ _ hl) rfl;exact Hn (q:=qn) KX hnt G.T.g G.T.b G.T.builtins G.T.nolimit hg hC hPT G.T.bmain hobj hints (Km hlen hn2) hr (λbase h1 h2 h3=>hF base h1 h2 h3 hco) hbi (λH hO hS=>hsp _ H a ns hlen hb hO hS) λH e s' h=>h.elim
section
variable {X:Cx} {H0:Hp} {O0:Ex}
theorem Ho:cj X (.builtin "len") (λxs H Q=>∃a kvs,xs=[.ref a]/\Rd H a (.dK kvs)/\Q (.int kvs.length) H):=by
 intro Sb s σ H xs us Q I r h;obtain⟨a,kvs,rfl,e,q⟩:=h;obtain⟨u,rfl,rx⟩:=dR r;cases rx;exact Em I e λt s' I'=>⟨.int kvs.length,H,I',⟨t,rfl⟩,q⟩
def iy(i:Nat):DT:=λδ Q=>∃kd,δ[i]?=some (some (.k kd))/\Q (.int kd.length)
theorem Hq{i:Nat}{o:Qx}{p pos:Pos}(ho:PE X o (eF i))(hg:Gl X "len")(hm:X.mg "len"=none)(hs:Qy [o] X.env=(false,eval o X.env)::Qy [] X.env:=by rfl):DE X H0 O0 (.Call (.Name "len" p) [o] [] pos) (iy i):=
 (bI Ho hg hm Lu (bP ho eG hs) (he:=hs)).imp λσ H Q uu46=>by
  obtain⟨O,δ,Qd,w,⟨kd,e,q⟩,k⟩:=uu46;obtain⟨l,kv,h,a,b,c,r⟩:=w.ownK e;refine⟨.ref l,h,l,kv,rfl,.inl c,?_⟩;rw [r.length];exact k _ _ _ q (ai.refl _) (.int _)
end
end L2
namespace K12
open PySem L2
def bO(i:Nat):QH:=PySem.Challenge.pw_goneday_k12_holds_that_cover.main.body.getD i (.Pass ⟨0,0,0,0⟩)
abbrev vz:QH:=bO 14
abbrev sI:QH:=bO 15
abbrev vA:QH:=bO 16
abbrev qE:QH:=bO 17
abbrev sJ:QH:=bO 18
abbrev sL:QH:=bO 20
abbrev sM:QH:=bO 21
abbrev vB:QH:=bO 22
abbrev sN:QH:=bO 23
abbrev vC:QH:=bO 24
abbrev vD:QH:=bO 26
abbrev vE:QH:=bO 27
abbrev sO:QH:=bO 28
abbrev vF:QH:=bO 29
abbrev sP:QH:=bO 30
abbrev vG:QH:=bO 31
abbrev vH:QH:=bO 32
abbrev qF:QH:=bO 33
abbrev sQ:QH:=bO 34
abbrev qG:QH:=bO 35
abbrev sR:QH:=bO 36
abbrev sS:QH:=bO 37
abbrev vI:QH:=bO 38
abbrev oy:QH:=bO 39
abbrev sT:QH:=bO 40
abbrev sU:QH:=bO 41
abbrev qH:QH:=bO 42
set_option genInjectivity false in
set_option genSizeOfSpec false in
structure er where
 a_A:Qs
 d_A:QC
 a_B:Qs
 d_B:QC
 a_C:Qs
 d_C:QC
 a_D:Qs
 d_D:QC
 a_E:Qs
 d_E:QC
 a_F:Qs
 d_F:QC
 a_G:Qs
 d_G:QC
 a_H:Qs
 d_H:QC
 a_I:Qs
 d_I:QC
 a_J:Qs
 d_J:QC
 a_K:Qs
 d_K:QC
 a_L:Qs
 d_L:QC
 a_M:Qs
 d_M:QC
 a_N:Qs
 d_N:QC
 a_O:Qs
 d_O:QC
 a_P:Qs
 d_P:QC
 a_Q:Qs
 d_Q:QC
 a_R:Qs
 d_R:QC
 a_S:Qs
 d_S:QC
 a_T:Qs
 d_T:QC
 a_U:Qs
 d_U:QC
 a_V:Qs
 d_V:QC
 a_W:Qs
 d_W:QC
 a_X:Qs
 d_X:QC
 a_Y:Qs
 d_Y:QC
 a_Z:Qs
 d_Z:QC
 a_a:Qs
 d_a:QC
 u_NoPaper:Qs
 u_ArchiveError:Qs
 u_GoneMaker:Qs
 u_Held:Qs
 u_MustStay:Qs
 u_NoCall:Qs
 u_NoDay:Qs
 u_NoDeed:Qs
 u_NoLeave:Qs
 u_NoNumber:Qs
 u_NoText:Qs
 u_Twice:Qs
structure Txt (K:Ju) (mg:Str->Option Qr) (t:er):Prop where
 F_A:Fn K mg "place_of" vz t.a_A t.d_A ["deed"]
 F_B:Fn K mg "comings" sI t.a_B t.d_B ["deeds"]
 F_C:Fn K mg "coming_of" vA t.a_C t.d_C ["deeds","paper"]
 F_D:Fn K mg "maker_comings" qE t.a_D t.d_D ["deeds","coming"]
 F_E:Fn K mg "line_of" sJ t.a_E t.d_E ["deeds","paper"]
 F_F:Fn K mg "latest" sL t.a_F t.d_F ["deeds","words","day"]
 F_G:Fn K mg "holds_on" sM t.a_G t.d_G ["deeds","day"]
 F_H:Fn K mg "is_told" vB t.a_H t.d_H ["target","coming"]
 F_I:Fn K mg "holding" sN t.a_I t.d_I ["holds","line"]
 F_J:Fn K mg "covering" vC t.a_J t.d_J ["deeds","day","paper"]
 F_K:Fn K mg "_law_cell" vD t.a_K t.d_K ["_law_script","_law_k"]
 F_L:Fn K mg "_law_numbers" vE t.a_L t.d_L ["_law_cell_here","_law_many"]
 F_M:Fn K mg "_law_names" sO t.a_M t.d_M ["_law_xs","_law_many"]
 F_N:Fn K mg "_law_day" vF t.a_N t.d_N ["_law_x","_law_far"]
 F_O:Fn K mg "_law_paper" sP t.a_O t.d_O ["_law_xs","_law_k","_law_names_here","_law_kinds","_law_far","_law_chain"]
 F_P:Fn K mg "_law_hold" vG t.a_P t.d_P ["_law_xs","_law_names_here","_law_kinds","_law_bars","_law_far"]
 F_Q:Fn K mg "_law_quarrel" vH t.a_Q t.d_Q ["_law_one","_law_other"]
 F_R:Fn K mg "_law_drawn" qF t.a_R t.d_R ["_law_script"]
 F_S:Fn K mg "_law_row" sQ t.a_S t.d_S ["_law_deeds","_law_name"]
 F_T:Fn K mg "_law_order" qG t.a_T t.d_T ["_law_deeds"]
 F_U:Fn K mg "_law_makers" sR t.a_U t.d_U ["_law_deeds","_law_name"]
 F_V:Fn K mg "_law_is" sS t.a_V t.d_V ["_law_told","_law_due"]
 F_W:Fn K mg "_law_refused" vI t.a_W t.d_W ["_law_deed"]
 F_X:Fn K mg "_law_holds" oy t.a_X t.d_X ["_law_deeds","_law_day_here"]
 F_Y:Fn K mg "_law_above" sT t.a_Y t.d_Y ["_law_deeds","_law_name"]
 F_Z:Fn K mg "_law_right" sU t.a_Z t.d_Z ["_law_deeds","_law_above_here","_law_day_here"]
 F_a:Fn K mg "law" qH t.a_a t.d_a ["_law_script"]
 bt_a:∀(s:Qt)(u:Qr),BindsTo s t.d_a ⟨[u],[]⟩ [("_law_script",u)]
 c_NoPaper:mg "NoPaper"=some (.ref t.u_NoPaper)
 c_ArchiveError:mg "ArchiveError"=some (.ref t.u_ArchiveError)
 c_GoneMaker:mg "GoneMaker"=some (.ref t.u_GoneMaker)
 c_Held:mg "Held"=some (.ref t.u_Held)
 c_MustStay:mg "MustStay"=some (.ref t.u_MustStay)
 c_NoCall:mg "NoCall"=some (.ref t.u_NoCall)
 c_NoDay:mg "NoDay"=some (.ref t.u_NoDay)
 c_NoDeed:mg "NoDeed"=some (.ref t.u_NoDeed)
 c_NoLeave:mg "NoLeave"=some (.ref t.u_NoLeave)
 c_NoNumber:mg "NoNumber"=some (.ref t.u_NoNumber)
 c_NoText:mg "NoText"=some (.ref t.u_NoText)
 c_Twice:mg "Twice"=some (.ref t.u_Twice)
 q_NoPaper:Ma K t.u_NoPaper [.type "ValueError",.type "Exception",.type "BaseException",.type "object"] "ValueError.__new__"=true
 q_ArchiveError:Ma K t.u_ArchiveError [.type "ValueError",.type "Exception",.type "BaseException",.type "object"] "ValueError.__new__"=true
 z1:MS K (.ref t.u_NoPaper) "__getattribute__"=some (some (.builtin "BaseException.__getattribute__"))
 z2:MS K (.ref t.u_NoPaper) "__getattr__"=some none
 z3:MS K (.ref t.u_NoPaper) "__class__"=some (some (.builtin "object.__class__"))
 z4:O6 K (.builtin "object.__class__") "__get__"=some (some (.builtin "getset_descriptor.__get__"))
 z5:Pt K (.builtin "object.__class__")=some true
 z6:MC K t.u_NoPaper (.type "object")=some true
 z7:MC K t.u_NoPaper (.type "BaseException")=some true
 z8:Pu K t.u_NoPaper=true
 i_NoPaper_ArchiveError:MC K t.u_NoPaper (.ref t.u_ArchiveError)=some true
 ka:NC K (.ref t.u_NoPaper) [.ref t.u_GoneMaker,.ref t.u_Held,.ref t.u_MustStay,.ref t.u_NoCall,.ref t.u_NoDay,.ref t.u_NoDeed,.ref t.u_NoLeave,.ref t.u_NoNumber,.ref t.u_NoText,.ref t.u_Twice]=some false
 kv:M8 K (.ref t.u_NoPaper) (.type "ValueError")=some true
 n_ValueError:mg "ValueError"=none
 n_abs:mg "abs"=none
 n_all:mg "all"=none
 n_any:mg "any"=none
 n_bool:mg "bool"=none
 n_int:mg "int"=none
 n_isinstance:mg "isinstance"=none
 n_len:mg "len"=none
 n_max:mg "max"=none
 n_min:mg "min"=none
 n_range:mg "range"=none
 n_set:mg "set"=none
 n_sorted:mg "sorted"=none
 n_str:mg "str"=none
 n_tuple:mg "tuple"=none
theorem Hr:bj ["deed"] ["deed"] (ax vz):= .of
theorem Hs:bj ["deeds"] ["deeds"] (ax sI):= .of
theorem sV:bj ["deeds","paper","deed"] ["deeds","paper"] (ax vA):= .of
theorem AA:bj ["deeds","coming","named"] ["deeds","coming"] (ax qE):= .of
theorem nO:bj ["deeds","paper","line","place"] ["deeds","paper"] (ax sJ):= .of
theorem sW:bj ["deeds","words","day","found","deed","known"] ["deeds","words","day"] (ax sL):= .of
theorem Ht:bj ["deeds","day"] ["deeds","day"] (ax sM):= .of
theorem Hu:bj ["target","coming"] ["target","coming"] (ax vB):= .of
theorem pI:bj ["holds","line","names","hold","target","deep","reached"] ["holds","line"] (ax sN):= .of
theorem AB:bj ["deeds","day","paper"] ["deeds","day","paper"] (ax vC):= .of
theorem sX:bj ["_law_script","_law_k","_law_state","_law_cell_here"] ["_law_script","_law_k"] (ax vD):= .of
theorem nQ:bj ["_law_cell_here","_law_many","_law_some","_law_state","_law_digits","_law_k"] ["_law_cell_here","_law_many"] (ax vE):= .of
theorem nR:bj ["_law_xs","_law_many","_law_letters","_law_stem","_law_size","_law_at","_law_some","_law_k","_law_two"] ["_law_xs","_law_many"] (ax sO):= .of
theorem Hv:bj ["_law_x","_law_far"] ["_law_x","_law_far"] (ax vF):= .of
theorem vJ:bj ["_law_xs","_law_k","_law_names_here","_law_kinds","_law_far","_law_chain","_law_told"] ["_law_xs","_law_k","_law_names_here","_law_kinds","_law_far","_law_chain"] (ax sP):= .of
theorem qI:bj ["_law_xs","_law_names_here","_law_kinds","_law_bars","_law_far","_law_day_here","_law_name","_law_sort","_law_some","_law_target"] ["_law_xs","_law_names_here","_law_kinds","_law_bars","_law_far"] (ax vG):= .of
theorem Hw:bj ["_law_one","_law_other"] ["_law_one","_law_other"] (ax vH):= .of
theorem fi:bj ["_law_script","_law_xs","_law_many","_law_far","_law_chain","_law_names_here","_law_kinds","_law_bars","_law_some","_law_k","_law_deed","_law_turn"] ["_law_script"] (ax qF):= .of
theorem Hx:bj ["_law_deeds","_law_name"] ["_law_deeds","_law_name"] (ax sQ):= .of
theorem Hy:bj ["_law_deeds"] ["_law_deeds"] (ax qG):= .of
theorem vK:bj ["_law_deeds","_law_name","_law_row_here","_law_order_here"] ["_law_deeds","_law_name"] (ax sR):= .of
theorem Hz:bj ["_law_told","_law_due"] ["_law_told","_law_due"] (ax sS):= .of
theorem AD:bj ["_law_deed","e"] ["_law_deed"] (ax vI):= .of
theorem qJ:bj ["_law_deeds","_law_day_here","_law_some","_law_name","_law_told","_law_last"] ["_law_deeds","_law_day_here"] (ax oy):= .of
theorem sY:bj ["_law_deeds","_law_name","_law_some","_law_at"] ["_law_deeds","_law_name"] (ax sT):= .of
theorem nS:bj ["_law_deeds","_law_above_here","_law_day_here","_law_stand","_law_name","_law_due","_law_hold_here","_law_target","_law_deep","_law_some"] ["_law_deeds","_law_above_here","_law_day_here"] (ax sU):= .of
theorem mG:bj ["_law_script","_law_names_here","_law_deeds","_law_above_here","_law_name","_law_days","_law_deed","_law_day_here","_law_odd","_law_thing"] ["_law_script"] (ax qH):= .of
theorem AE{α:Type}{us:List α}(h:us.length=1):∃a,us=[a]:=List.length_eq_one_iff.mp h
theorem AF{α:Type}{us:List α}(h0:us.length=2):∃a b,us=[a,b]:=by
 cases us with
 | nil=>cases h0
 | cons a us=>
  obtain⟨b,z0⟩:=AE (us:=us) (Nw h0);exact⟨a,b,by rw [z0]⟩
theorem AG{α:Type}{us:List α}(h0:us.length=3):∃a b c,us=[a,b,c]:=by
 cases us with
 | nil=>cases h0
 | cons a us=>
  obtain⟨b,c,z0⟩:=AF (us:=us) (Nw h0);exact⟨a,b,c,by rw [z0]⟩
theorem AH{α:Type}{us:List α}(h0:us.length=4):∃a b c d,us=[a,b,c,d]:=by
 cases us with
 | nil=>cases h0
 | cons a us=>
  obtain⟨b,c,d,z0⟩:=AG (us:=us) (Nw h0);exact⟨a,b,c,d,by rw [z0]⟩
theorem AI{α:Type}{us:List α}(h0:us.length=5):∃a b c d p,us=[a,b,c,d,p]:=by
 cases us with
 | nil=>cases h0
 | cons a us=>
  obtain⟨b,c,d,p,z0⟩:=AH (us:=us) (Nw h0);exact⟨a,b,c,d,p,by rw [z0]⟩
theorem HA{α:Type}{us:List α}(h0:us.length=6):∃a b c d p q,us=[a,b,c,d,p,q]:=by
 cases us with
 | nil=>cases h0
 | cons a us=>
  obtain⟨b,c,d,p,q,z0⟩:=AI (us:=us) (Nw h0);exact⟨a,b,c,d,p,q,by rw [z0]⟩
local macro_rules | `(tactic| walk_at "b")=>`(tactic| (intro _ _ _ _ _ _ us hl;first | (cases ls0 (us:=us) hl;rfl) | (obtain⟨a,e⟩:=AE (us:=us) hl;subst e;rfl) | (obtain⟨a,b,e⟩:=AF (us:=us) hl;subst e;rfl) | (obtain⟨a,b,c,e⟩:=AG (us:=us) hl;subst e;rfl) | (obtain⟨a,b,c,d,e⟩:=AH (us:=us) hl;subst e;rfl) | (obtain⟨a,b,c,d,p,e⟩:=AI (us:=us) hl;subst e;rfl) | (obtain⟨a,b,c,d,p,q,e⟩:=HA (us:=us) hl;subst e;rfl)))
theorem txt_mk{K:Ju}{h:QB}{mg:Str->Option Qr}(X:K.In h)(G:h.Ns QD mg)
 {f0 f1 f2 f3 f4 f5 f6 f7 f8 f9 f10 f11 f12 f13 f14 f15 f16 f17 f18 f19 f20 f21 f22 f23 f24 f25 f26:Qs}{e0 e1 e2 e3 e4 e5 e6 e7 e8 e9 e10 e11 e12 e13 e14 e15 e16 e17 e18 e19 e20 e21 e22 e23 e24 e25 e26:QC}
 {u_NoPaper u_ArchiveError u_GoneMaker u_Held u_MustStay u_NoCall u_NoDay u_NoDeed u_NoLeave u_NoNumber u_NoText u_Twice:Qs}
 (a0:DfT K "place_of" vz f0 e0)
 (a1:DfT K "comings" sI f1 e1)
 (a2:DfT K "coming_of" vA f2 e2)
 (a3:DfT K "maker_comings" qE f3 e3)
 (a4:DfT K "line_of" sJ f4 e4)
 (a5:DfT K "latest" sL f5 e5)
 (a6:DfT K "holds_on" sM f6 e6)
 (a7:DfT K "is_told" vB f7 e7)
 (a8:DfT K "holding" sN f8 e8)
 (a9:DfT K "covering" vC f9 e9)
 (a10:DfT K "_law_cell" vD f10 e10)
 (a11:DfT K "_law_numbers" vE f11 e11)
 (a12:DfT K "_law_names" sO f12 e12)
 (a13:DfT K "_law_day" vF f13 e13)
 (a14:DfT K "_law_paper" sP f14 e14)
 (a15:DfT K "_law_hold" vG f15 e15)
 (a16:DfT K "_law_quarrel" vH f16 e16)
 (a17:DfT K "_law_drawn" qF f17 e17)
 (a18:DfT K "_law_row" sQ f18 e18)
 (a19:DfT K "_law_order" qG f19 e19)
 (a20:DfT K "_law_makers" sR f20 e20)
 (a21:DfT K "_law_is" sS f21 e21)
 (a22:DfT K "_law_refused" vI f22 e22)
 (a23:DfT K "_law_holds" oy f23 e23)
 (a24:DfT K "_law_above" sT f24 e24)
 (a25:DfT K "_law_right" sU f25 e25)
 (a26:DfT K "law" qH f26 e26)
 (x_NoPaper:J4 K QD "NoPaper"=some (some (.ref u_NoPaper)))
 (x_ArchiveError:J4 K QD "ArchiveError"=some (some (.ref u_ArchiveError)))
 (x_GoneMaker:J4 K QD "GoneMaker"=some (some (.ref u_GoneMaker)))
 (x_Held:J4 K QD "Held"=some (some (.ref u_Held)))
 (x_MustStay:J4 K QD "MustStay"=some (some (.ref u_MustStay)))
 (x_NoCall:J4 K QD "NoCall"=some (some (.ref u_NoCall)))
 (x_NoDay:J4 K QD "NoDay"=some (some (.ref u_NoDay)))
 (x_NoDeed:J4 K QD "NoDeed"=some (some (.ref u_NoDeed)))
 (x_NoLeave:J4 K QD "NoLeave"=some (some (.ref u_NoLeave)))
 (x_NoNumber:J4 K QD "NoNumber"=some (some (.ref u_NoNumber)))
 (x_NoText:J4 K QD "NoText"=some (some (.ref u_NoText)))
 (x_Twice:J4 K QD "Twice"=some (some (.ref u_Twice)))
 (f_q_NoPaper:Ma K u_NoPaper [.type "ValueError",.type "Exception",.type "BaseException",.type "object"] "ValueError.__new__"=true)
 (f_q_ArchiveError:Ma K u_ArchiveError [.type "ValueError",.type "Exception",.type "BaseException",.type "object"] "ValueError.__new__"=true)
 (f_z1:MS K (.ref u_NoPaper) "__getattribute__"=some (some (.builtin "BaseException.__getattribute__")))
 (f_z2:MS K (.ref u_NoPaper) "__getattr__"=some none)
 (f_z3:MS K (.ref u_NoPaper) "__class__"=some (some (.builtin "object.__class__")))
 (f_z4:O6 K (.builtin "object.__class__") "__get__"=some (some (.builtin "getset_descriptor.__get__")))
 (f_z5:Pt K (.builtin "object.__class__")=some true)
 (f_z6:MC K u_NoPaper (.type "object")=some true)
 (f_z7:MC K u_NoPaper (.type "BaseException")=some true)
 (f_z8:Pu K u_NoPaper=true)
 (f_i_NoPaper_ArchiveError:MC K u_NoPaper (.ref u_ArchiveError)=some true)
 (f_ka:NC K (.ref u_NoPaper) [.ref u_GoneMaker,.ref u_Held,.ref u_MustStay,.ref u_NoCall,.ref u_NoDay,.ref u_NoDeed,.ref u_NoLeave,.ref u_NoNumber,.ref u_NoText,.ref u_Twice]=some false)
 (f_kv:M8 K (.ref u_NoPaper) (.type "ValueError")=some true)
 (n_ValueError:J4 K QD "ValueError"=some none)
 (n_abs:J4 K QD "abs"=some none)
 (n_all:J4 K QD "all"=some none)
 (n_any:J4 K QD "any"=some none)
 (n_bool:J4 K QD "bool"=some none)
 (n_int:J4 K QD "int"=some none)
 (n_isinstance:J4 K QD "isinstance"=some none)
 (n_len:J4 K QD "len"=some none)
 (n_max:J4 K QD "max"=some none)
 (n_min:J4 K QD "min"=some none)
 (n_range:J4 K QD "range"=some none)
 (n_set:J4 K QD "set"=some none)
 (n_sorted:J4 K QD "sorted"=some none)
 (n_str:J4 K QD "str"=some none)
 (n_tuple:J4 K QD "tuple"=some none):∃t:er,Txt K mg t:=by
 refine⟨⟨f0,e0,f1,e1,f2,e2,f3,e3,f4,e4,f5,e5,f6,e6,f7,e7,f8,e8,f9,e9,f10,e10,f11,e11,f12,e12,f13,e13,f14,e14,f15,e15,f16,e16,f17,e17,f18,e18,f19,e19,f20,e20,f21,e21,f22,e22,f23,e23,f24,e24,f25,e25,f26,e26,u_NoPaper,u_ArchiveError,u_GoneMaker,u_Held,u_MustStay,u_NoCall,u_NoDay,u_NoDeed,u_NoLeave,u_NoNumber,u_NoText,u_Twice⟩,?_⟩;have bl:∀(s:Qt)(u:Qr),BindsTo s e26 ⟨[u],[]⟩ [("_law_script",u)]:=λs v=>by
  obtain⟨oc,od,kV,doc,pm,an,cdv,ct,osl,rfl,_⟩:=a26.F.ex;exact .of_eq rfl
 exact⟨a0.fn X G,a1.fn X G,a2.fn X G,a3.fn X G,a4.fn X G,a5.fn X G,a6.fn X G,a7.fn X G,a8.fn X G,a9.fn X G,a10.fn X G,a11.fn X G,a12.fn X G,a13.fn X G,a14.fn X G,a15.fn X G,a16.fn X G,a17.fn X G,a18.fn X G,a19.fn X G,a20.fn X G,a21.fn X G,a22.fn X G,a23.fn X G,a24.fn X G,a25.fn X G,a26.fn X G,bl,Lp X G x_NoPaper,Lp X G x_ArchiveError,Lp X G x_GoneMaker,Lp X G x_Held,Lp X G x_MustStay,Lp X G x_NoCall,Lp X G x_NoDay,Lp X G x_NoDeed,Lp X G x_NoLeave,Lp X G x_NoNumber,Lp X G x_NoText,Lp X G x_Twice,f_q_NoPaper,f_q_ArchiveError,f_z1,f_z2,f_z3,f_z4,f_z5,f_z6,f_z7,f_z8,f_i_NoPaper_ArchiveError,f_ka,f_kv,Ks X G n_ValueError,Ks X G n_abs,Ks X G n_all,Ks X G n_any,Ks X G n_bool,Ks X G n_int,Ks X G n_isinstance,Ks X G n_len,Ks X G n_max,Ks X G n_min,Ks X G n_range,Ks X G n_set,Ks X G n_sorted,Ks X G n_str,Ks X G n_tuple⟩
local macro_rules | `(tactic| walk_at "o")=>`(tactic| first | exact N4 rfl | exact Nv rfl)
theorem Qm{p:Prop}(h:p:=by walk_at "o"):p:=h
structure Pp where
 d:Int
 nm:Str
 kd:Str
 ms:List Str
def Pp.enc(p:Pp):Qp:= .tuple [.str (Jt "paper"),.int p.d,.str p.nm,.str p.kd,.tuple (p.ms.map .str)]
def Pp.key(p:Pp):Int×Str:=(p.d,p.nm)
def nT:Qp->Int×Str
 | .tuple (_:: .int d:: .str n::_)=>(d,n)
 | _=>(0,Jt "")
def Pp.lt(a b:Pp):Prop:=aC a.key b.key=true
instance (a b:Pp):Decidable (a.lt b):=by unfold Pp.lt;infer_instance
theorem AJ(p:Int×Str):aC p p=false:=by unfold aC;simp [List.lt_irrefl]
theorem AK{a b c:Int×Str}(h1:aC a b=true)(h2:aC b c=true):aC a c=true:=by
 unfold aC at h1 h2⊢;simp only [Pr,Kn,decide_eq_true_eq] at h1 h2⊢;rcases h1 with h1 | ⟨h1,h1'⟩ <;> rcases h2 with h2 | ⟨h2,h2'⟩
 ·left;omega
 ·left;omega
 ·left;omega
 ·right;exact⟨h1.trans h2,PL h1' h2'⟩
theorem vL{a b:Int×Str}(h:aC a b=true):¬aC b a=true:=λz=>by
 have:=AK h z;rw [AJ] at this;cases this
theorem HB{a b:Int×Str}(h:a≠b):aC a b=true\/aC b a=true:=by
 have T:=Ae (n:=2) (kp:=λi=>if i=0 then a else b) (λi j hi hj e=>by
  have:i=0\/i=1:=Qj
  have:j=0\/j=1:=Qj
  rcases ‹i=0\/i=1› with rfl | rfl <;> rcases ‹j=0\/j=1› with rfl | rfl
  ·rfl
  ·exact absurd e h
  ·exact absurd e.symm h
  ·rfl)
 have:=T.tot 0 1 Qj Qj Qj;simp at this;cases hb:aC b a with
 | true=>exact .inr rfl
 | false=>rw [hb] at this;exact .inl (by simpa using this)
theorem Pp.lt_irr(a:Pp):¬a.lt a:=by unfold Pp.lt;rw [AJ];simp
theorem Pp.lt_tr{a b c:Pp}(h1:a.lt b)(h2:b.lt c):a.lt c:=AK h1 h2
theorem qK{α:Type}{r:α->α->Prop}(as:∀a b,r a b->¬r b a):∀{l1 l2:List α},l1.Perm l2->l1.Pairwise r->l2.Pairwise r->l1=l2
 | [],l2,p,_,_=>by rw [p.nil_eq]
 | a::l1,[],p,_,_=>by have:=p.length_eq;simp at this
 | a::l1,b::l2,p,h1,h2=>by
  have e:a=b:=by
   have m1:a∈b::l2:=p.mem_iff.mp Qo;have m2:b∈a::l1:=p.mem_iff.mpr Qo;rcases JF.mp m1 with e | m1
   ·exact e
   ·rcases JF.mp m2 with e | m2
    ·exact e.symm
    ·exact absurd ((KU.mp h1).1 b m2) (as _ _ ((KU.mp h2).1 a m1))
  subst e;rw [qK as ((List.perm_cons a).mp p) (KU.mp h1).2 (KU.mp h2).2]
def pJ(x:Pp):List Pp->List Pp
 | []=>[x]
 | y::l=>if x.lt y then x::y::l else y::pJ x l
def aY(ps:List Pp):List Pp:=ps.foldr pJ []
theorem vM(x:Pp):∀l,(pJ x l).Perm (x::l)
 | []=>.refl _
 | y::l=>by
  unfold pJ;split
  ·exact .refl _
  ·exact((vM x l).cons y).trans (.swap x y l)
theorem mH:∀ps:List Pp,(aY ps).Perm ps
 | []=>.refl _
 | x::ps=>(vM x (aY ps)).trans ((mH ps).cons x)
theorem AL{x:Pp}:∀{l:List Pp},(∀y∈l,y.nm≠x.nm)->l.Pairwise Pp.lt->(pJ x l).Pairwise Pp.lt
 | [],_,_=>Nc _ _
 | y::l,hn,h=>by
  have hp:=KU.mp h;unfold pJ;split
  ·rename_i hl;refine KU.mpr ⟨λz hz=>?_,h⟩;rcases JF.mp hz with e | e
   ·subst e;exact hl
   ·exact Pp.lt_tr hl (hp.1 z e)
  ·rename_i hl;refine KU.mpr ⟨λz hz=>?_,AL (λz hz=>hn z (by simp [hz])) hp.2⟩;rcases JF.mp ((vM x l).mem_iff.mp hz) with e | e
   ·subst e;rcases HB (a:=y.key) (b:=z.key) (λz=>hn y Qo (congrArg Prod.snd z)) with w | w
    ·exact w
    ·exact absurd w hl
   ·exact hp.1 z e
theorem nU:∀{ps:List Pp},(ps.map (·.nm)).Nodup->(aY ps).Pairwise Pp.lt
 | [],_=>.nil
 | x::ps,h=>by
  rw [JB,LL] at h;exact AL (λy hy e=>h.1 (by rw [<-e];exact JE.mpr ⟨y,(mH ps).mem_iff.mp hy,rfl⟩)) (nU h.2)
theorem pK{ps:List Pp}{x:Pp}:x∈aY ps↔x∈ps:=(mH ps).mem_iff
theorem sZ{ps:List Pp}:(aY ps).length=ps.length:=(mH ps).length_eq
theorem Pp.asym(a b:Pp)(h:a.lt b):¬b.lt a:=vL h
theorem AM{ps os:List Pp}(nd:(ps.map (·.nm)).Nodup)(hp:os.Perm ps)(hs:os.Pairwise Pp.lt):os=aY ps:=
 qK Pp.asym (hp.trans (mH ps).symm) hs (nU nd)
theorem HC{ps qs:List Pp}(nd:(ps.map (·.nm)).Nodup)(h:qs.Perm ps):aY qs=aY ps:=
 AM nd ((mH qs).trans h) (nU ((h.map _).nodup_iff.mpr nd))
theorem vN{ps:List Pp}{f:Pp->Bool}(nd:(ps.map (·.nm)).Nodup):((ps.filter f).map (·.nm)).Nodup:=nd.sublist (Mm.map _)
theorem AN{ps:List Pp}{f:Pp->Bool}(nd:(ps.map (·.nm)).Nodup):aY (ps.filter f)=(aY ps).filter f:=
 (AM (vN nd) ((mH ps).filter f) ((nU nd).sublist Mm)).symm
theorem HD{ps:List Pp}{ds:List Qp}(nd:(ps.map (·.nm)).Nodup)(hp:ds.Perm (ps.map Pp.enc))(hs:ds.Pairwise λa b=>aC (nT a) (nT b)=true):ds=(aY ps).map Pp.enc:=by
 refine qK (λa b h=>vL h) (hp.trans ((mH ps).symm.map _)) hs ?_;rw [La];exact nU nd
theorem HE{ps:List Pp}{ds:List (Int×Str)}(nd:(ps.map (·.nm)).Nodup)(hp:ds.Perm (ps.map Pp.key))(hs:ds.Pairwise λa b=>aC a b=true):ds=(aY ps).map Pp.key:=by
 refine qK (λa b h=>vL h) (hp.trans ((mH ps).symm.map _)) hs ?_;rw [La];exact nU nd
theorem ti{ps:List Pp}(nd:(ps.map (·.nm)).Nodup){a b:Pp}(ha:a∈ps)(hb:b∈ps)(e:a.nm=b.nm):a=b:=by
 induction ps with
 | nil=>cases ha
 | cons x ps ih=>
  rw [JB,LL] at nd;rcases JF.mp ha with ea | ha1 <;> rcases JF.mp hb with eb | hb1
  ·rw [ea,eb]
  ·subst ea;exact absurd (JE.mpr ⟨b,hb1,e.symm⟩) nd.1
  ·subst eb;exact absurd (JE.mpr ⟨a,ha1,e⟩) nd.1
  ·exact ih nd.2 ha1 hb1
theorem HF{os:List Pp}(h:os.Pairwise Pp.lt){i:Nat}{o m:Pp}(ho:os[i]?=some o)(hm:m∈os)(hl:m.lt o):m∈os.take i:=by
 rw [<-Md i os] at hm h;rcases JI.mp hm with z | z
 ·exact z
 ·have hd:os.drop i=o::os.drop (i+1):=by
   obtain⟨h1,h2⟩:=JH.mp ho;rw [Mf h1,h2]
  rw [hd] at z h;rcases JF.mp z with e | z
  ·rw [e] at hl;exact absurd hl (Pp.lt_irr o)
  ·have:=(KU.mp (Mj.mp h).2.1).1 m z;exact absurd hl (Pp.asym _ _ this)
theorem AO{os:List Pp}(h:os.Pairwise Pp.lt){i:Nat}{o m:Pp}(ho:os[i]?=some o)(hm:m∈os.take i):m.lt o:=by
 rw [<-Md i os] at h;have hd:o∈os.drop i:=by
  obtain⟨h1,h2⟩:=JH.mp ho;rw [Mf h1,h2];simp
 exact(Mj.mp h).2.2 m hm o hd
theorem HG{os:List Pp}(h:os.Pairwise Pp.lt){i:Nat}{o:Pp}(ho:os[i]?=some o):os.take i=os.filter λp=>aC p.key o.key:=by
 have e:os.filter (λp=>aC p.key o.key)=(os.take i).filter (λp=>aC p.key o.key)++(os.drop i).filter (λp=>aC p.key o.key):=by
  rw [<-M6,Md]
 rw [e,OH.mpr λm hm=>AO h ho hm,Oi.mpr,J5];intro m hm hl;have hmo:m∈os:=Nx hm;have:=HF h ho hmo hl;have nd:os.Nodup:=List.Pairwise.imp (R:=Pp.lt) (λ{a b} (z:a.lt b) (e:a=b)=>Pp.lt_irr a (by rw [<-e] at z;exact z)) h;rw [<-Md i os] at nd;exact(MQ.mp nd).2.2 m this m hm rfl
structure iz (ps:List Pp):Prop where
 ln:ps.length<=41
 nd:(ps.map (·.nm)).Nodup
 nm:∀p∈ps,JK p.nm=true
 kd:∀p∈ps,JK p.kd=true
 ms:∀p∈ps,(∀m∈p.ms,JK m=true)/\p.ms.length<=50
theorem iz.perm{ps qs:List Pp}(g:iz ps)(h:qs.Perm ps):iz qs:=
 ⟨by rw [h.length_eq];exact g.ln,(h.map _).nodup_iff.mpr g.nd,λp hp=>g.nm p (h.mem_iff.mp hp),λp hp=>g.kd p (h.mem_iff.mp hp),λp hp=>g.ms p (h.mem_iff.mp hp)⟩
theorem iz.filter{ps:List Pp}(g:iz ps)(f:Pp->Bool):iz (ps.filter f):=
 ⟨Km (KJ _ _) g.ln,vN g.nd,λp hp=>g.nm p (Kq.mp hp).1,λp hp=>g.kd p (Kq.mp hp).1,λp hp=>g.ms p (Kq.mp hp).1⟩
def vO(c p:Pp):Bool:=c.ms.contains p.nm && aC p.key c.key
def fj(ps:List Pp)(c:Pp):List Pp:=(aY ps).filter (vO c)
inductive De where
 | pap (p:Pp)
 | oth (w:Str) (d:Int) (nm:Str) (r:List Qp)
def De.enc:De->Qp
 | .pap p=>p.enc
 | .oth w d nm r=>.tuple (.str w:: .int d:: .str nm::r)
def De.w:De->Str
 | .pap _=>Jt "paper"
 | .oth w _ _ _=>w
def De.d:De->Int
 | .pap p=>p.d
 | .oth _ d _ _=>d
def De.nm:De->Str
 | .pap p=>p.nm
 | .oth _ _ nm _=>nm
def De.pp:De->Option Pp
 | .pap p=>some p
 | _=>none
def aj(xs:List De):List Pp:=xs.filterMap De.pp
structure dP (xs:List De):Prop where
 gp:iz (aj xs)
 np:∀w d nm r,De.oth w d nm r∈xs->w≠Jt "paper"
 ln:xs.length<=41
 w:∀x∈xs,JK x.w=true
 nm:∀x∈xs,JK x.nm=true
theorem vP{xs:List De}{p:Pp}:p∈aj xs↔De.pap p∈xs:=by
 unfold aj;rw [Mu];constructor
 ·rintro⟨x,hx,e⟩;cases x with
  | pap q=>cases e;exact hx
  | oth w d nm r=>cases e
 ·intro h;exact⟨_,h,rfl⟩
theorem dP.perm{xs ys:List De}(g:dP xs)(h:ys.Perm xs):dP ys:=
 ⟨g.gp.perm (h.filterMap _),λw d nm r z=>g.np w d nm r (h.mem_iff.mp z),by rw [h.length_eq];exact g.ln,λx hx=>g.w x (h.mem_iff.mp hx),λx hx=>g.nm x (h.mem_iff.mp hx)⟩
theorem vQ(ps:List Pp):aj (ps.map De.pap)=ps:=by
 unfold aj;rw [NI];exact List.filterMap_some
theorem AQ(ps:List Pp):ps.map Pp.enc=(ps.map De.pap).map De.enc:=by rw [Ku];rfl
theorem vR:JK (Jt "paper")=true:=Qh
theorem dP.of{ps:List Pp}(g:iz ps):dP (ps.map De.pap):=by
 refine⟨by rw [vQ];exact g,λw d nm r h=>?_,by rw [Jv];exact g.ln,λx hx=>?_,λx hx=>?_⟩
 ·obtain⟨p,_,e⟩:=JE.mp h;cases e
 ·obtain⟨p,_,rfl⟩:=JE.mp hx;exact vR
 ·obtain⟨p,hp,rfl⟩:=JE.mp hx;exact g.nm p hp
local macro_rules | `(tactic| walk_at "a") =>do let a <- rzT "cC JB Kk JS Kr Lh Li JU KD KC"; let b <- rzT "↓lA ↓lF ↓lG ↓lH ↓lI ↓lJ ↓lK ↓lB ↓gO ↓kH ↓mw ↓mz ↓mB ↓mC ↓mD ↓mF ↓kI ↓kJ ↓kK ↓kL ↓kM ↓kN ↓kO ↓kP ↓kT ↓kU ↓kW ↓kX ↓kY ↓kZ ↓k6 ↓k7 ↓k8 ↓k9 ↓lg ↓lh ↓lq ↓lr ↓lu ↓lz dF fG eM fH fI iO dG eQ fJ fO fP iT fv dC bK dI fW fX fY iZ fZ cV gB gA iX gc dL eO fx iJ dX cS ck fy fz fA fB fC fD fE iK dE iL jD jF jG jH jI jJ jK jL jM jN jO jP jQ jR jS jT jU jV jW jX jY jZ j0 j1 j2 j3 j4 j5 j6 j7 j8 j9 kc ke kh ki kj km ko kq kr ku kz jE gi iY i1 eY i8 i4 gf gh gr gs gu gy gz eV i2 gC i3 cU iU iV iW fS iP iQ iR fT fU fV iS gH gJ gK jB gL jA jC gG jc jd je cY gI jf ja jb kA kC kD kF gM gN kG gR gQ gS gT gU lC gW gX lM g8 gZ g6 gY lP hJ hU hV hW eh hG fh ic hZ ia ib ie lR ig lU lV lW lY lZ l3 l4 l5 l6 lX l7 l8 l9 ma iw il iq iu iy me mh mi mf mm dO ij mn mq mr mj mv jg jq jr jt ju jv jw jx jy jz ne_eq jk jl jm jn jo jh ji jj eR d5 eT dZ fN fM fL cw cC bC dj dQ cR JB Kk JS Kr JU KD KC J5 Lh Li Lz LA LB Ki J6 KN KG KH KO exists_eq_left' exists_eq_left exists_and_left exists_and_right KZ K0 Sl.v.injEq Sl.o.injEq Sl.k.injEq KL Lb K5 K2 Lc Kd and_true true_and LC Lm exists_const decide_eq_true_eq LD LG Lq Lr Ko decide_eq_false_iff_not and_assoc or_true true_or ↓reduceIte if_true if_false Kh KW not_true_eq_false not_false_eq_true LH Lv ite_true ite_false eq_self exists_eq reduceCtorEq false_and and_false or_false false_or exists_false Lw Lx cO LY L8 Kz L9 LZ Lf Ly Lo cx cy cW cF cX cG eX gE beq_self_eq_true i5 i6 i7 bJ sizeLine_eq"; `(tactic| ((try $a:tactic); $b:tactic))
theorem AR:aU (ax sI) ["deeds"] ["deed"] 1 [] ⟨JO,[(Jw ".0",Sa),(Jw "deed",Sa)],false,false,[]⟩:= .of
theorem AS:aU (ax qE) ["deeds","coming","named"] ["deed","coming"] 1 [1] ⟨JO,[ (Jw ".0",Sa),(Jw "deed",Sa),(Jw "coming",JP)],false,false,[]⟩:= .of
theorem AU:aU (ax qE) ["deeds","coming","named"] ["deed","coming"] 1 [1] ⟨JO,[ (Jw ".0",Sa),(Jw "deed",Sa),(Jw "place_of",Kj),(Jw "coming",JP)],false,false,[]⟩:= .of
section
variable {P:QA} {w:QE} {K:Ju} {mg:Str->Option Qr} {base:QB} {t:er}
theorem eD{α:Type}{enc:α->Qp}{g:DG}{tc:DB}{te:DT}{δ0:Dl}{xs:List α}{Q:List Qp->Prop}(p:α->Bool)(f:α->Qp)
 (h:∀x∈xs,∀(R:Qp->Prop) (S:Prop),(if p x=true then R (f x) else S)->g (enc x) δ0 λδ2=>tc δ2 λok=>if ok=true then te δ2 R else S)(q:Q ((xs.filter p).map f)):d4 g tc te δ0 (xs.map enc) Q:=by
 refine⟨λi acc=>acc=((xs.take i).filter p).map f,rfl,?_,?_⟩
 ·rintro i z acc hz rfl;rw [JD] at hz;cases hz':xs[i]? with
  | none=>rw [hz'] at hz;cases hz
  | some x=>
   rw [hz'] at hz;cases hz;refine h x (JQ hz') (λy=>((xs.take i).filter p).map f++[y]=((xs.take (i+1)).filter p).map f) (((xs.take i).filter p).map f=((xs.take (i+1)).filter p).map f) ?_;rw [K3,hz'];by_cases e:p x=true
   ·rw [Ql e];simp [e]
   ·rw [Qk e];simp [e]
 ·rintro acc rfl;rw [Jv,J7 (Jy _)];exact q
theorem HH{α:Type}{enc:α->Qp}{g:DG}{tc:DB}{te:DT}{δ0:Dl}{xs:List α}{Q:List Qp->Prop}(p:α->Bool)(f:α->Qp)
 (h:∀x∈xs,∀(R:Qp->Prop) (S:Prop),(p x=true->R (f x))->(p x=false->S)->g (enc x) δ0 λδ2=>tc δ2 λok=>if ok=true then te δ2 R else S)(q:Q ((xs.filter p).map f)):d4 g tc te δ0 (xs.map enc) Q:=
 eD p f (λx hx R S z=>h x hx R S (λe=>by rw [Ql e] at z;exact z) (λe=>by rw [Qk (by rw [e];exact Kf)] at z;exact z)) q
theorem tj{α:Type}(l:List α):l.filter (λ_=>true)=l:=OH.mpr λ_ _=>rfl
theorem mI{a b:Str}(h:a≠b):(a==b)=false:=by simpa using h
theorem vS{ws:List Str}{w:Str}:((ws.map JA).any λd=>JG d (.str w))=ws.contains w:=by
 induction ws with
 | nil=>rfl
 | cons a ws ih=>
  rw [JB,Kz,ih,cG,OQ];congr 1;by_cases h:a=w
  ·simp [h]
  ·rw [mI h,mI (Ne.symm h)]
theorem vT{ms:List Str}(h:∀m∈ms,JK m=true):LJ (ms.map .str)=true:=(qu (n:=1) (yA h)).1
def cL(f:Pp->Bool):De->Bool
 | .pap p=>f p
 | _=>false
theorem pL{f:Pp->Bool}:∀xs:List De,(xs.filter (cL f)).map De.enc=((aj xs).filter f).map Pp.enc
 | []=>rfl
 | .pap p::xs=>by
  have ih:=pL (f:=f) xs;show _=(Oj f (p::aj xs)).map Pp.enc;rw [LV,LV];by_cases h:f p=true
  ·rw [Ql h,Ql (show cL f (.pap p)=true from h),JB,JB,ih];rfl
  ·rw [Qk h,Qk (show ¬cL f (.pap p)=true from h),ih]
 | .oth w d nm r::xs=>by
  have ih:=pL (f:=f) xs;show _=(Oj f (aj xs)).map Pp.enc;rw [LV,Qk (show ¬cL f (.oth w d nm r)=true from Kf),ih]
def vU:List Qp->(Qp->Prop)->Prop:=λds Q=>∃p:De,ds=[p.enc]/\Q (bR (p.d,p.nm))
theorem AV(T:Txt K mg t):aB P w K mg base aM 1 t.a_A t.d_A ["deed"] (bb K vU):=by
 refine T.F_A.F.okD Hr (λds Q h=>?_) (λ_ _ _ _ H O ds Q E hr h=>?_)
 ·obtain⟨p,rfl,_⟩:=h;rfl
 ·obtain⟨p,rfl,q⟩:=h;refine'⟨_,?A,?B⟩
  case A=>
   refine' aw ?C
   case' C=>refine' aX ?D
   case' D=>refine' bF ?E
   case' E=>refine' ae ?F ?G
   case F=>exact(aq aE aF (dv 0) af)
   case' G=>refine' ae ?H ak
   case H=>exact(aq aE aF (dv 0) af)
  case B=>
  clear hr T;cases p <;> simp only [De.enc,Pp.enc] <;> walk_at "a" <;> exact q
theorem HI{d:Qp}{ps:List Pp}(h:d∈ps.map Pp.enc)(R:Qp->Prop)(q:R (bR (nT d))):vU [d] R:=by
 obtain⟨p,hp,rfl⟩:=JE.mp h;exact⟨.pap p,rfl,q⟩
theorem AW{ps:List Pp}(nd:(ps.map (·.nm)).Nodup):(ps.map Pp.key).Nodup:=by
 rw [Ox,La] at nd⊢;exact nd.imp λh e=>h (congrArg Prod.snd e)
def F_B:List Qp->(Qp->Prop)->Prop:=λds Q=>∃xs:List De,(ds=[.list (xs.map De.enc)]\/ds=[.tuple (xs.map De.enc)])/\dP xs/\Q (.list ((aY (aj xs)).map Pp.enc))
theorem HJ(T:Txt K mg t):aB P w K mg base aM 4 t.a_B t.d_B ["deeds"] (bb K F_B):=by
 have G_A:=@AV P w _ _ base _ T;refine T.F_B.F.okD Hs (λds Q h=>?_) (λ_ _ _ _ H O ds Q E hr h=>?_)
 ·obtain⟨ps,h | h,_⟩:=h <;> subst h <;> rfl
 ·obtain⟨xs,e,gd,q⟩:=h;refine'⟨_,?A,?B⟩
  case A=>
   refine' aw ?C
   case' C=>refine' aX ?D
   case D=>exact(fe (Gs nT rfl G_A (aP.in1 (aP.in1 (hr.mono Qi))) T.F_A.b rfl T.F_A.m rfl T.n_sorted Mk (bE (fe (GF rfl AR (df (dv 0)) aJ bY Qi (λ_ _ _ _=>(aH (i:=0) AR.nd rfl Qm)) (λ_ _ _ _=>(dU (aR (mS hr) mU (aq aE aF (dv 0) af) aZ (aI _)))) (λ_ _ _ _=>(dv 0)))) br)))
  case B=>
  clear hr T G_A;have ln:=gd.ln;have pl:=gd.gp.ln;have step:∀x∈xs,∀(R:Qp->Prop)(S:Prop),(if cL (λ_=>true) x=true then R x.enc else S)->(if (x.w==Jt "paper")=true then R x.enc else S):=λx hx R S h=>by
   cases x with
   | pap p=>exact h
   | oth w d nm r=>
    rw [show((De.oth w d nm r).w==Jt "paper")=false from mI (gd.np w d nm r hx),Qk Kf];rw [Qk (show ¬cL (λ_=>true) (.oth w d nm r)=true from Kf)] at h;exact h
  have fin:∀ds':List Qp,ds'.Perm ((aj xs).map Pp.enc)->ds'.Pairwise (λa b=>aC (nT a) (nT b)=true)->Q (.list ds'):=λds' h1 h2=>by
   rw [HD gd.gp.nd h1 h2];exact q
  have tail:(∀d∈(aj xs).map Pp.enc,∀R:Qp->Prop,R (bR (nT d))->vU [d] R)/\((aj xs).map Pp.enc).length < 64/\(((aj xs).map Pp.enc).map nT).Nodup:=by
   refine⟨λd hd R z=>HI hd R z,by rw [Jv];omega,?_⟩;rw [Ku];exact AW gd.gp.nd
  rcases e with e | e <;> subst e <;> walk_at "a"
  ·refine⟨by rw [Jv];omega,eD (cL λ_=>true) De.enc (λx hx R S h=>?_) ?_⟩
   ·have h:=step x hx R S h;cases x <;> simp only [De.enc,De.w,Pp.enc] at h⊢<;> walk_at "a" <;> exact h
   ·rw [pL,tj];exact⟨tail.1,tail.2.1,tail.2.2,fin⟩
  ·refine⟨by rw [Jv];omega,eD (cL λ_=>true) De.enc (λx hx R S h=>?_) ?_⟩
   ·have h:=step x hx R S h;cases x <;> simp only [De.enc,De.w,Pp.enc] at h⊢<;> walk_at "a" <;> exact h
   ·rw [pL,tj];exact⟨tail.1,tail.2.1,tail.2.2,fin⟩
def AX:List Qp->(Qp->Prop)->Prop:=λds Q=>∃(xs:List De)(c:Pp),ds=[.tuple (xs.map De.enc),.str c.nm]/\dP xs/\c∈aj xs/\Q c.enc
theorem HK(T:Txt K mg t):aB P w K mg base aM 1 t.a_C t.d_C ["deeds","paper"] (bb K AX):=by
 refine T.F_C.F.okD sV (λds Q h=>?_) (λ_ _ _ _ H O ds Q E hr h=>?_)
 ·obtain⟨ps,c,rfl,_⟩:=h;rfl
 ·obtain⟨xs,c,rfl,gd,hc,q⟩:=h;refine'⟨_,?A,?B⟩
  case A=>
   refine' au ?C ?D
   case C=>
    refine' pd Kx rfl (dv 0) ?E aJ ?F
    case E=>exact(aH (i:=2) sV.nd rfl Qm)
    case' F=>refine' aw ?G
    case' G=>refine' bN ?H ?I bM
    case H=>exact(PW.pt (dY (aR (mS hr) mU (aq aE aF (dv 2) af) aZ (aI _)) (eL (aR (cA hr.units) cB (aq aE aF (dv 2) af) (dv 1) (aI _)))))
    case' I=>refine' aw ?J
    case J=>exact(aX (dv 2))
   case D=>refine' aw Fm
  case B=>
  clear hr T;walk_at "a";refine⟨λi δ=>(∀x∈aj (xs.take i),x.nm≠c.nm)/\∃o2,δ=[some (Sl.v (.tuple (xs.map De.enc))),some (Sl.v (.str c.nm)),o2],⟨by simp [aj],_,rfl⟩,?_,?_⟩
  ·rintro i z δ hz ⟨hn,o2,rfl⟩;rw [JD] at hz;cases hz':xs[i]? with
   | none=>rw [hz'] at hz;cases hz
   | some x=>
    rw [hz'] at hz;cases hz;have hx:=JQ hz';cases x with
    | pap p=>
     simp only [De.enc,Pp.enc];walk_at "a";refine⟨cH.mpr (gd.nm _ hx),cH.mpr (gd.gp.nm c hc),?_⟩;split
     ·rename_i h;have e:=ti gd.gp.nd (vP.mpr hx) hc (eq_of_beq h);subst e;exact q
     ·rename_i h;refine⟨λy hy=>?_,_,rfl⟩;rw [K3,hz'] at hy;unfold aj at hy;rw [Nr] at hy;rcases JI.mp hy with z | z
      ·exact hn y z
      ·have:y=p:=by simpa [De.pp] using z
       rw [this];exact λe=>h (by rw [e];exact beq_self_eq_true _)
    | oth w d nm r=>
     simp only [De.enc];walk_at "a";rw [mI (gd.np w d nm r hx),Qk Kf];refine⟨λy hy=>?_,_,rfl⟩;rw [K3,hz'] at hy;unfold aj at hy;rw [Nr] at hy;rcases JI.mp hy with z | z
     ·exact hn y z
     ·simp [De.pp] at z
  ·rintro δ ⟨hn,o2,rfl⟩;rw [Jv,J7 (Jy _)] at hn;exact absurd rfl (hn c hc)
def HL:List Qp->(Qp->Prop)->Prop:=λds Q=>∃(xs:List De)(c:Pp),ds=[.tuple (xs.map De.enc),c.enc]/\dP xs/\c∈aj xs/\Q (.list ((fj (aj xs) c).map Pp.enc))
theorem AY(T:Txt K mg t):aB P w K mg base aM 5 t.a_D t.d_D ["deeds","coming"] (bb K HL):=by
 have G_B:=@HJ P w _ _ base _ T;have G_A:=@AV P w _ _ base _ T;refine T.F_D.F.okD AA (λds Q h=>?_) (λ_ _ _ _ H O ds Q E hr h=>?_)
 ·obtain⟨ps,c,rfl,_⟩:=h;rfl
 ·obtain⟨xs,c,rfl,gd,hc,q⟩:=h;refine'⟨_,?A,?B⟩
  case A=>
   refine' au ?C ?D
   case C=>exact(uU (i:=2) AA.nd rfl Qm (z9 rfl AS (df (dv 0)) aJ bY Qi (λ_ _ _ _=>(aH (i:=0) AS.nd rfl Qm)) (λ_ _ _ _=>(dU (PW.pt (dY (aR (mS hr) mU (aq aE aF (dv 0) af) aZ (aI _)) (eL (aR (sa hr) om (aq aE aF (dv 0) af) (aq aE aF (dv 1) af) rfl)))))) (λ_ _ _ _=>(dv 0))))
   case' D=>refine' aw ?E
   case' E=>refine' aX ?F
   case F=>exact(ba G_B hr T.F_B (ae (fe (dJ rfl AU (df (dv 2)) aJ bY Qi (λ_ _ _ _=>(aH (i:=0) AU.nd rfl Qm)) (λ_ _ _ _=>(dU (aR (Gv hr.units0) Gw (ba G_A hr T.F_A (ae (dv 0) ak)) (ba G_A hr T.F_A (ae (dv 1) ak)) (aI _)))) (λ_ _ _ _=>(dv 0)))) ak))
  case B=>
  clear hr T G_B G_A;have ln:=gd.ln;have pl:=gd.gp.ln;obtain⟨hm1,hm2⟩:=gd.gp.ms c hc;walk_at "a";refine⟨by rw [Jv];omega,eD (cL λp=>c.ms.contains p.nm) De.enc (λx hx R S h=>?_) ?_⟩
  ·cases x with
   | pap p=>
    simp only [De.enc,Pp.enc];walk_at "a";refine⟨cH.mpr (gd.nm _ hx),vT hm1,?_⟩;rw [vS];exact h
   | oth w d nm r=>
    simp only [De.enc];walk_at "a";rw [mI (gd.np w d nm r hx),Qk Kf];rw [Qk (show ¬cL _ (.oth w d nm r)=true from Kf)] at h;exact h
  ·rw [pL];have fl:=KJ (λp:Pp=>c.ms.contains p.nm) (aj xs);refine⟨by rw [Jv];omega,eD (λp=>aC p.key c.key) Pp.enc (λx hx R S h=>?_) ?_⟩
   ·walk_at "a";exact⟨.pap x,rfl,.pap c,rfl,x.key,rfl,c.key,rfl,h⟩
   ·rw [AQ];refine⟨_,.inl rfl,dP.of ((gd.gp.filter _).filter _),?_⟩;rw [vQ,AN (vN gd.gp.nd),AN gd.gp.nd,OY];have e:(aY (aj xs)).filter (λa=>aC a.key c.key && c.ms.contains a.nm)=fj (aj xs) c:=by
     unfold fj vO;congr 1;funext a;rw [Bool.and_comm]
    rw [e];exact q
theorem AZ{ps:List Pp}{c:Pp}(g:iz ps):(fj ps c).length<=41:=by
 unfold fj;have h1:=KJ (vO c) (aY ps);have h2:=sZ (ps:=ps);have h3:=g.ln;omega
end
theorem A1:aU (ax sQ) ["_law_deeds","_law_name"] ["_law_deed","_law_name"] 1 [1] ⟨JO,[ (Jw ".0",Sa),(Jw "_law_deed",Sa),(Jw "_law_name",JP)],false,false,[]⟩:= .of
theorem A2:aU (ax qG) ["_law_deeds"] ["_law_deed"] 1 [] ⟨JO,[(Jw ".0",Sa),(Jw "_law_deed",Sa)],false,false,[]⟩:= .of
theorem vV:aU (ax qG) ["_law_deeds"] ["_law_day_here","_law_name"] 2 [] ⟨JO,[ (Jw ".0",Sa),(Jw "_law_day_here",Sa),(Jw "_law_name",Sa)],false,false,[]⟩:= .of
theorem A3:aU (ax sR) ["_law_deeds","_law_name","_law_row_here","_law_order_here"] ["_law_one","_law_row_here"] 1 [2] ⟨JO,[ (Jw ".0",Sa),(Jw "_law_one",Sa),(Jw "_law_row_here",JP)],false,false,[]⟩:= .of
theorem A4:aU (ax sS) ["_law_told","_law_due"] ["_law_k","_law_told","_law_due"] 1 [0,1] ⟨JO,[ (Jw ".0",Sa),(Jw "_law_k",Sa),(Jw "_law_is",Kj),(Jw "_law_due",JP),(Jw "_law_told",JP)],false,false,[]⟩:= .of
section
variable {P:QA} {w:QE} {K:Ju} {mg:Str->Option Qr} {base:QB} {t:er}
theorem HM{ps:List Pp}(nd:(ps.map (·.nm)).Nodup){c:Pp}(hc:c∈ps):ps.filter (λp=>p.nm==c.nm)=[c]:=by
 induction ps with
 | nil=>cases hc
 | cons x ps ih=>
  rw [JB,LL] at nd;rcases JF.mp hc with e | h
  ·subst e;rw [LV,Ql (beq_self_eq_true _),Oi.mpr];intro p hp e;exact nd.1 (by rw [<-eq_of_beq e];exact JE.mpr ⟨p,hp,rfl⟩)
  ·rw [LV,Qk,ih nd.2 h];intro e;exact nd.1 (by rw [eq_of_beq e];exact JE.mpr ⟨c,h,rfl⟩)
theorem A5(T:Txt K mg t):aB P w K mg base aM 1 t.a_S t.d_S ["_law_deeds","_law_name"] (bb K AX):=by
 refine T.F_S.F.okD Hx (λds Q h=>?_) (λ_ _ _ _ H O ds Q E hr h=>?_)
 ·obtain⟨xs,c,rfl,_⟩:=h;rfl
 ·obtain⟨xs,c,rfl,gd,hc,q⟩:=h;refine'⟨_,?A,?B⟩
  case A=>
   refine' aw ?C
   case' C=>refine' aX ?D
   case' D=>refine' gm aL aO (df ?E) (df af)
   case' E=>refine' fe ?F
   case F=>exact(rQ rfl A1 (df (dv 0)) aJ bY Qi (λ_ _ _ _=>(aH (i:=0) A1.nd rfl Qm)) (λ_ _ _ _=>(dU (PW.pt (dY (aR (mS hr) mU (aq aE aF (dv 0) af) aZ (aI _)) (eL (aR (cA hr.units) cB (aq aE aF (dv 0) af) (dv 1) (aI _))))))) (λ_ _ _ _=>(dv 0)))
  case B=>
  clear hr T;walk_at "a";refine⟨by rw [Jv];have:=gd.ln;omega,eD (cL λp=>p.nm==c.nm) De.enc (λx hx R S h=>?_) ?_⟩
  ·cases x with
   | pap p=>
    simp only [De.enc,Pp.enc] at h⊢;walk_at "a";have hp:=vP.mpr hx;exact⟨cH.mpr (gd.gp.nm p hp),cH.mpr (gd.gp.nm c hc),h⟩
   | oth wo n nm l=>
    simp only [De.enc] at h⊢;walk_at "a";rw [mI (gd.np _ _ _ _ hx),Qk Kf];rw [Qk (by simp [cL])] at h;exact h
  ·rw [pL,HM gd.gp.nd hc];exact⟨_,cx,q⟩
def HN:List Qp->(Qp->Prop)->Prop:=λds Q=>∃xs:List De,ds=[.tuple (xs.map De.enc)]/\dP xs/\Q (.list (((aY (aj xs)).map (·.nm)).map .str))
theorem HP{g:DG}{tc:DB}{te:DT}{δ0:Dl}{xs:List (Int×Str)}{Q:List Qp->Prop}(f:Int×Str->Qp)
 (h:∀x∈xs,∀(R:Qp->Prop) (S:Prop),R (f x)->g (bR x) δ0 λδ2=>tc δ2 λok=>if ok=true then te δ2 R else S)(q:Q (xs.map f)):d4 g tc te δ0 (xs.map bR) Q:=by
 refine⟨λi acc=>acc=(xs.take i).map f,rfl,?_,?_⟩
 ·rintro i z acc hz rfl;rw [JD] at hz;cases hz':xs[i]? with
  | none=>rw [hz'] at hz;cases hz
  | some x=>
   rw [hz'] at hz;cases hz;refine h x (JQ hz') (λy=>(xs.take i).map f++[y]=(xs.take (i+1)).map f) _ ?_;rw [K3,hz'];simp
 ·rintro acc rfl;rw [Jv,J7 (Jy _)];exact q
theorem vW(f:De->Qp):∀xs:List De,(xs.filter (cL λ_=>true)).map f=(aj xs).map λp=>f (.pap p)
 | []=>rfl
 | .pap p::xs=>by
  rw [LV,Ql (show cL (λ_=>true) (De.pap p)=true from rfl),JB,vW f xs];rfl
 | .oth w d nm r::xs=>by
  rw [LV,Qk (by simp [cL])];exact vW f xs
theorem A6(T:Txt K mg t):aB P w K mg base aM 1 t.a_T t.d_T ["_law_deeds"] (bb K HN):=by
 refine T.F_T.F.okD Hy (λds Q h=>?_) (λ_ _ _ _ H O ds Q E hr h=>?_)
 ·obtain⟨xs,rfl,_⟩:=h;rfl
 ·obtain⟨xs,rfl,gd,q⟩:=h;refine'⟨_,?A,?B⟩
  case A=>
   refine' aw ?C
   case' C=>refine' aX ?D
   case' D=>refine' fe ?E
   case E=>exact(dJ rfl vV (df (fe (Gr rfl T.n_sorted Mk (bE (fe (rQ rfl A2 (df (dv 0)) aJ bY Qi (λ_ _ _ _=>(aH (i:=0) A2.nd rfl Qm)) (λ_ _ _ _=>(dU (aR (mS hr) mU (aq aE aF (dv 0) af) aZ (aI _)))) (λ_ _ _ _=>(bF (ae (aq aE aF (dv 0) af) (ae (aq aE aF (dv 0) af) ak)))))) br)))) (oZ (dH aJ (dH aJ oY))) GH Qi (λ_ _ _ _=>(oK (n:=2) rfl (di (aH (i:=0) vV.nd rfl Qm) (di (aH (i:=1) vV.nd rfl Qm) oJ)))) (λ_ _ _ _=>mR) (λ_ _ _ _=>(dv 1)))
  case B=>
  clear hr T;have ln:=gd.ln;have gp:=gd.gp;have pln:=gp.ln;walk_at "a";refine⟨by rw [Jv];omega,eD (cL λ_=>true) (λx=>bR (x.d,x.nm)) (λx hx R S h=>?_) ?_⟩
  ·cases x with
   | pap p=>
    simp only [De.enc,Pp.enc] at h⊢;walk_at "a";rw [Ql (show cL (λ_=>true) (De.pap p)=true from rfl)] at h;exact h
   | oth wo n nm l=>
    simp only [De.enc] at h⊢;walk_at "a";rw [mI (gd.np _ _ _ _ hx),Qk Kf];rw [Qk (by simp [cL])] at h;exact h
  ·rw [vW];refine⟨(aj xs).map Pp.key,by rw [Ku];rfl,by rw [Jv];omega,AW gp.nd,λps' h1 h2=>?_⟩;rw [HE gp.nd h1 h2];refine⟨by rw [Jv,Jv,sZ];omega,HP (λx=>.str x.2) (λx hx R S h=>?_) ?_⟩
   ·simp only [bR];walk_at "a";exact h
   ·rw [Ku];rw [Ku] at q;exact q
theorem HQ{g:DG}{tc:DB}{te:DT}{δ0:Dl}{ss:List Str}{Q:List Qp->Prop}(p:Str->Bool)(f:Str->Qp)
 (h:∀x∈ss,∀(R:Qp->Prop) (S:Prop),(if p x=true then R (f x) else S)->g (.str x) δ0 λδ2=>tc δ2 λok=>if ok=true then te δ2 R else S)(q:Q ((ss.filter p).map f)):d4 g tc te δ0 (ss.map .str) Q:=by
 refine⟨λi acc=>acc=((ss.take i).filter p).map f,rfl,?_,?_⟩
 ·rintro i z acc hz rfl;rw [JD] at hz;cases hz':ss[i]? with
  | none=>rw [hz'] at hz;cases hz
  | some x=>
   rw [hz'] at hz;cases hz;refine h x (JQ hz') (λy=>((ss.take i).filter p).map f++[y]=((ss.take (i+1)).filter p).map f) (((ss.take i).filter p).map f=((ss.take (i+1)).filter p).map f) ?_;rw [K3,hz'];by_cases e:p x=true
   ·rw [Ql e];simp [e]
   ·rw [Qk e];simp [e]
 ·rintro acc rfl;rw [Jv,J7 (Jy _)];exact q
def HR:List Qp->(Qp->Prop)->Prop:=λds Q=>∃(xs:List De)(c:Pp),ds=[.tuple (xs.map De.enc),.str c.nm]/\dP xs/\c∈aj xs/\Q (.list (((fj (aj xs) c).map (·.nm)).map .str))
theorem HS(T:Txt K mg t):aB P w K mg base aM 2 t.a_U t.d_U ["_law_deeds","_law_name"] (bb K HR):=by
 have G_S:=@A5 P w _ _ base _ T;have G_T:=@A6 P w _ _ base _ T;refine T.F_U.F.okD vK (λds Q h=>?_) (λ_ _ _ _ H O ds Q E hr h=>?_)
 ·obtain⟨xs,c,rfl,_⟩:=h;rfl
 ·obtain⟨xs,c,rfl,gx,hc,q⟩:=h;refine'⟨_,?A,?B⟩
  case A=>
   refine' au ?C ?D
   case C=>exact(bt (i:=2) vK.nd rfl Qm (ba G_S hr T.F_S (ae (dv 0) (ae (dv 1) ak))))
   case' D=>refine' au ?E ?F
   case E=>exact(bt (i:=3) vK.nd rfl Qm (ba G_T hr T.F_T (ae (dv 0) ak)))
   case' F=>refine' aw ?G
   case' G=>refine' aX ?H
   case' H=>refine' fe ?I
   case I=>exact(dJ rfl A3 (df (fe (gj (df (dv 3)) eU (cm (GC (dv 3) (dv 1)))))) aJ bY Qi (λ_ _ _ _=>(aH (i:=0) A3.nd rfl Qm)) (λ_ _ _ _=>(dU (aR (sa hr) om (dv 0) (aq aE aF (dv 1) af) rfl))) (λ_ _ _ _=>(dv 0)))
  case B=>
  clear hr T G_S G_T;walk_at "a";refine⟨xs,c,rfl,gx,hc,xs,rfl,gx,?_⟩;have gd:=gx.gp;have ln:=gd.ln;generalize aj xs=ps at*;walk_at "a";have hc':c.nm∈(aY ps).map (·.nm):=JE.mpr ⟨c,pK.mpr hc,rfl⟩;have hlt:((aY ps).map (·.nm)).idxOf c.nm < ((aY ps).map (·.nm)).length:=N6.mpr hc';have hlt':((aY ps).map (·.nm)).idxOf c.nm < (aY ps).length:=by simpa using hlt
  have hat:(aY ps)[((aY ps).map (·.nm)).idxOf c.nm]?=some c:=by
   rw [JN hlt'];have h1:=OX hlt;rw [List.getElem_map] at h1;rw [ti gd.nd (pK.mp (KY hlt')) hc h1]
  have ecut:bf (J1 JA (J1 (λx=>x.nm) (aY ps))) none (some ((((aY ps).map (·.nm)).idxOf c.nm:Nat):Int))=(((aY ps).filter λp=>aC p.key c.key).map (·.nm)).map .str:=by
   rw [nq Qj (by rw [Jv];omega),L4,<-HG (nU gd.nd) hat,<-Ml,<-Ml]
  refine⟨_,rfl,hc',?_⟩;rw [ecut];have fl:=KJ (λp:Pp=>aC p.key c.key) (aY ps);rw [sZ] at fl;obtain⟨hm1,hm2⟩:=gd.ms c hc;refine⟨by rw [Jv,Jv];omega,HQ (λz=>c.ms.contains z) .str (λx hx R S h=>?_) ?_⟩
  ·simp only [Pp.enc];walk_at "a";obtain⟨p,hp,rfl⟩:=JE.mp hx;refine⟨cH.mpr (gd.nm p (pK.mp (Kq.mp hp).1)),vT hm1,?_⟩;rw [vS];exact h
  ·have e:((((aY ps).filter λp=>aC p.key c.key).map (·.nm)).filter λz=>c.ms.contains z)=(fj ps c).map (·.nm):=by
    rw [Pw,OY];rfl
   rw [e];exact q
theorem HU{k:Nat}{f:Qs}{fd:QC}{ps:List Str}:aB P w K mg base aM k f fd ps (bb K λ_ _=>False):=⟨λvs H Q E uu47=>by obtain⟨_,_,_,_,_,h,_⟩:=uu47;exact h.elim,λ_ _ _ _ _ _ _ _ _ _ _ _ _ uu48=>by obtain⟨_,_,_,_,_,h,_⟩:=uu48;exact h.elim⟩
def HV(x:Qp):Prop:=x= .none\/(∃i,x= .int i)\/(∃s,x= .str s/\JK s=true)\/∃b,x= .bool b
def tm:Nat->Qp->Prop
 | 0,_=>False
 | n+1,d=>HV d\/∃ds,d= .tuple ds/\ds.length<=1000/\∀x∈ds,tm n x
def tq(n:Nat):List Qp->(Qp->Prop)->Prop:=λds Q=>∃x,ds=[x,x]/\tm n x/\Q (.bool true)
theorem tu{d n:Nat}(T:Txt K mg t)(G_V:aB P w K mg base aM d t.a_V t.d_V ["_law_told","_law_due"] (bb K (tq n))):
 aB P w K mg base aM (d+1) t.a_V t.d_V ["_law_told","_law_due"] (bb K (tq (n+1))):=by
 refine T.F_V.F.okD Hz (λds Q h=>?_) (λ_ _ _ _ H O ds Q E hr h=>?_)
 ·obtain⟨x,rfl,_⟩:=h;rfl
 ·obtain⟨x,rfl,hx,q⟩:=h;refine'⟨_,?A,?B⟩
  case A=>
   refine' au ?C ?D
   case C=>
    refine' bN ?E ?F bM
    case E=>exact(dD (nN (K':=K) (T:="tuple") rfl rfl T.n_isinstance iG (df (dv 1)) (m8 (v:= .ty "tuple") rfl T.n_tuple nE rfl)))
    case' F=>refine' au ?G ?H
    case G=>
     refine' bN ?I ?J bM
     case I=>exact(PW.pt (rL (n6 (dD (nN (K':=K) (T:="tuple") rfl rfl T.n_isinstance iG (df (dv 0)) (m8 (v:= .ty "tuple") rfl T.n_tuple nE rfl)))) (rK (aR (D7 hr.units) D8 (PE.imp (bI iF rfl T.n_len Lu (bE (dv 0) br)) (bL mQ)) (PE.imp (bI iF rfl T.n_len Lu (bE (dv 1) br)) (bL mQ)) (aI _)))))
     case J=>refine' aw (aX fw)
    case' H=>refine' aw ?K
    case' K=>refine' aX ?L
    case L=>exact(PE.imp (bI (Dw rfl) rfl T.n_all DL (bE (fe (xC rfl A4 rfl T.n_range (bE (PE.imp (bI iF rfl T.n_len Lu (bE (dv 1) br)) (bL mQ)) br) aJ bY Qi (λ_ _ _ _=>(aH (i:=0) A4.nd rfl Qm)) (λ_ _ _ _=>mR) (λ_ _ _ _=>(PE.imp (sH G_V (hr.mono (Jy _)) rfl T.F_V (ae (aq aE aF (dv 1) (dv 0)) (ae (aq aE aF (dv 2) (dv 0)) ak))) rM)))) br)) (bL rR))
   case' D=>refine' au ?M ?N
   case M=>
    refine' bN ?O ?P bM
    case O=>exact(aR ua u9 (dv 1) rG (aI _))
    case' P=>refine' aw ?Q
    case Q=>exact(aX (cT ua u9 (df (dv 0)) (df rG) (aI _)))
   case' N=>refine' au ?R ?S
   case R=>
    refine' bN ?T ?U bM
    case T=>exact(dD (nN (K':=K) (T:="bool") rfl rfl T.n_isinstance iG (df (dv 1)) (m8 (v:= .ty "bool") rfl T.n_bool uG rfl)))
    case' U=>refine' aw ?V
    case' V=>refine' aX ?W
    case W=>exact(oV (nN (K':=K) (T:="bool") rfl rfl T.n_isinstance iG (df (dv 0)) (m8 (v:= .ty "bool") rfl T.n_bool uG rfl)) (qf (cT (cA hr.units) cB (df (dv 0)) (df (dv 1)) (aI _))))
   case' S=>refine' au ?X ?Y
   case X=>
    refine' bN ?Z ?a bM
    case Z=>exact(dD (nN (K':=K) (T:="int") rfl rfl T.n_isinstance iG (df (dv 1)) (m8 (v:= .ty "int") rfl T.n_int rC rfl)))
    case' a=>refine' aw ?b
    case' b=>refine' aX ?c
    case c=>exact(oV (nN (K':=K) (T:="int") rfl rfl T.n_isinstance iG (df (dv 0)) (m8 (v:= .ty "int") rfl T.n_int rC rfl)) (oV (D3 (nN (K':=K) (T:="bool") rfl rfl T.n_isinstance iG (df (dv 0)) (m8 (v:= .ty "bool") rfl T.n_bool uG rfl))) (qf (cT (cA hr.units) cB (df (dv 0)) (df (dv 1)) (aI _)))))
   case' Y=>refine' aw ?d
   case' d=>refine' aX ?e
   case e=>exact(oV (nN (K':=K) (T:="str") rfl rfl T.n_isinstance iG (df (dv 0)) (m8 (v:= .ty "str") rfl T.n_str Dk rfl)) (qf (cT (cA hr.units) cB (df (dv 0)) (df (dv 1)) (aI _))))
  case B=>
  clear hr T G_V;rcases hx with(rfl | ⟨i,rfl⟩ | ⟨s,rfl,hs⟩ | ⟨b,rfl⟩) | ⟨xs,rfl,hl,hF⟩ <;> walk_at "a" <;> simp only [E4,E3,E2,E1]
  ·simpa [pB,lL,qw,qv,eX,Lk,Ke,Mx] using q
  ·simpa [pB,sh,lL,qw,qv,eX,Lk,Ke,Mx] using q
  ·simpa [pB,sh,lL,qw,qv,cG,hs,Lk,Ke,Mx] using q
  ·simpa [pB,sh,lL,qw,qv,gE,Lk,Ke,Mx] using q
  ·simp only [pB];walk_at "a";refine⟨Qo,Qo,Qj,Qj,E5 (p:=λb=>Q (.bool b)) (λ_=>true) (λx hx R hR=>?_) ?_⟩
   ·obtain⟨i,hi⟩:=List.getElem?_of_mem hx;obtain⟨hlt,rfl⟩:=oh hi;have hj:i < xs.length:=Qj
    have ha:atI xs (0+(i:Int))=some xs[i]:=by rw [PY];exact eJ (by simp [hj])
    walk_at "a";exact⟨xs[i],ha,xs[i],ha,_,rfl,hF _ (KY hj),hR⟩
   ·have e:∀l:List Qp,((l.map λ_=>true).all id)=true:=λl=>by rw [List.all_map];exact Mo.mpr λ_ _=>rfl
    rw [e];exact q
theorem HW(T:Txt K mg t):aB P w K mg base aM 5 t.a_V t.d_V ["_law_told","_law_due"] (bb K (tq 0)):=aB.imp HU λvs H Q E uu49=>by obtain⟨O,ds,Qd,a,b,⟨x,_,h,_⟩,_⟩:=uu49;exact h.elim
theorem HX(T:Txt K mg t):aB P w K mg base aM 9 t.a_V t.d_V ["_law_told","_law_due"] (bb K (tq 4)):=tu T (tu T (tu T (tu T (HW T))))
theorem HY{ss:List Str}{n:Nat}(h:∀z∈ss,JK z=true)(hl:ss.length<=1000):tm (n+2) (.tuple (ss.map .str)):= .inr ⟨_,rfl,by rw [Jv];exact hl,λx hx=>by
 obtain⟨z,hz,rfl⟩:=JE.mp hx;exact .inl (.inr (.inr (.inl ⟨z,rfl,h z hz⟩)))⟩
end
theorem A7:aU (ax sL) ["deeds","words","day","found","deed","known"] ["name","found"] 1 [3] ⟨JO,[ (Jw ".0",Sa),(Jw "name",Sa),(Jw "found",JP)],false,false,[]⟩:= .of
section
variable {P:QA} {w:QE} {K:Ju} {mg:Str->Option Qr} {base:QB} {t:er}
def F_F:List Qp->(Qp->Prop)->Prop:=λds Q=>∃(xs:List Rw)(ws:List Str)(n:Int),ds=[.tuple (xs.map Rw.enc),.tuple (ws.map .str),.int n]/\(∀x∈xs,JK x.w=true)/\LJ (ws.map .str)=true/\xs.length < 64/\∀res,sk ws n xs res->Q (.list (res.map Rw.enc))
theorem HZ{ws:List Str}{w:Str}:((ws.map JA).any λd=>JG d (.str w))=decide (w∈ws):=by
 induction ws with
 | nil=>simp
 | cons a ws ih=>
  rw [JB,Kz,ih,cG];by_cases h:a=w
  ·simp [h]
  ·have h':(a==w)=false:=by simpa using h
   rw [h'];simp [Ne.symm h]
theorem Ia(T:Txt K mg t):aB P w K mg base aM 1 t.a_F t.d_F ["deeds","words","day"] (bb K F_F):=by
 refine T.F_F.F.okD sW (λds Q h=>?_) (λ_ _ _ _ H O ds Q E hr h=>?_)
 ·obtain⟨xs,ws,n,rfl,_⟩:=h;rfl
 ·obtain⟨xs,ws,n,rfl,hw,hws,h64,q⟩:=h;refine'⟨_,?A,?B⟩
  case A=>
   refine' au ?C ?D
   case C=>exact(u5 (i:=3) sW.nd rfl Qm yE)
   case' D=>refine' au ?E ?F
   case E=>
    refine' pd Kx rfl (dv 0) ?G aJ ?H
    case G=>exact(aH (i:=4) sW.nd rfl Qm)
    case' H=>refine' aw ?I
    case' I=>refine' bN ?J ?K bM
    case J=>exact(PW.pt (dY (aR (sa hr) om (aq aE aF (dv 4) af) (dv 1) rfl) (eL (aR wD cP (aq aE aF (dv 4) af) (dv 2) (aI _)))))
    case' K=>refine' au ?L ?M
    case L=>exact(bt (i:=5) sW.nd rfl Qm (Fp (i:=3) hr.units (pv 3) (aq aE aF (dv 4) af) ⟨rfl,rfl,rfl,rfl⟩))
    case' M=>refine' aw ?N
    case' N=>refine' bN ?O ?P bM
    case O=>exact(PW.pt (rL (aR ua u9 (dv 5) rG (aI _)) (rK (aR mP cP (aq aE aF (dv 5) af) (aq aE aF (dv 4) af) (aI _)))))
    case' P=>refine' aw ?Q
    case Q=>exact(u7 (i:=3) hr.units (pv 3) (aq aE aF (dv 4) af) (dv 4))
   case' F=>refine' aw ?R
   case' R=>refine' aX ?S
   case' S=>refine' fe ?T
   case T=>exact(dJ rfl A7 (df (fe (Ft (i:=3) rfl rfl T.n_sorted Mk (pv 3)))) aJ bY Qi (λ_ _ _ _=>(aH (i:=0) A7.nd rfl Qm)) (λ_ _ _ _=>mR) (λ_ _ _ _=>(Fo (i:=1) hr.units (pv 1) (dv 0) (λ_ _=>rfl))))
  case B=>
  clear hr T;walk_at "a";refine⟨λi δ=>∃L o4 o5,cZ ws n (xs.take i) L/\δ=[some (Sl.v (.tuple (xs.map Rw.enc))),some (Sl.v (.tuple (ws.map .str))),some (Sl.v (.int n)),some (Sl.k (g9 L)),o4,o5],⟨[],_,_,cZ.nil _ _,rfl⟩,?_,?_⟩
  ·rintro i x δ hx ⟨L,o4,o5,hL,rfl⟩;rw [JD] at hx;cases hx':xs[i]? with
   | none=>rw [hx'] at hx;cases hx
   | some y=>
    rw [hx'] at hx;cases hx;have hy:y∈xs:=JQ hx';have tk:xs.take (i+1)=xs.take i++[y]:=by rw [K3,hx'];rfl
    simp only [Rw.enc];walk_at "a";have hle:L.length < 64:=by have:=hL.le;rw [Kw] at this;omega
    have hk:(g9 L).length < 16777216:=by unfold g9;rw [Jv];omega
    have en:J3 (JA y.w::JM y.n::JA y.nm::y.r)=y.enc:=rfl;refine⟨cH.mpr (hw y hy),hws,?_⟩;rw [HZ];by_cases hin:y.w∈ws
    ·rw [Ql (decide_eq_true hin)];by_cases hn:y.n<=n
     ·rw [Ql hn,vc,en];cases hl:cK L y.nm with
      | none=>
       rw [Ql (show lL ((Option.map Rw.enc none).getD ND)=true from rfl)];exact⟨hk,_,by rw [tk];exact hL.put ⟨hin,hn⟩ (λz e=>by rw [hl] at e;cases e),yG L y.nm y,_,rfl⟩
      | some z=>
       rw [Qk (by simp [lL,Rw.enc])];refine⟨_,rfl,_,cy,_,rfl,?_⟩;split
       ·rename_i hlt;exact⟨hk,_,by rw [tk];exact hL.put ⟨hin,hn⟩ (λz' e=>by rw [hl] at e;cases e;exact hlt),yG L y.nm y,_,rfl⟩
       ·rename_i hlt;exact⟨L,by rw [tk];exact hL.keep hl hlt,rfl,_,rfl⟩
     ·rw [Qk hn];exact⟨L,by rw [tk];exact hL.skip (λz=>hn z.2),rfl,_,rfl⟩
    ·rw [Qk (by simpa using hin)];exact⟨L,by rw [tk];exact hL.skip (λz=>hin z.1),rfl,_,rfl⟩
  ·rintro δ ⟨L,o4,o5,hL,rfl⟩;walk_at "a";rw [Jv,J7 (Jy _)] at hL;have hle:L.length < 64:=by have:=hL.le;omega
   refine⟨L.map (·.1),by unfold g9;rw [Ku,Ku];rfl,by rw [Jv];exact hle,by rw [Jv,(eZ _).length_eq,Jv];omega,?_⟩;refine yx (λx=>match x with | .str nm=>((cK L nm).map Rw.enc).getD .none | _=>.none) (λx hx R hR=>?_) ?_
   ·obtain⟨nm,hnm,rfl⟩:=JE.mp hx;obtain⟨z,hz⟩:=vd ((eZ _).mem_iff.mp hnm);walk_at "a";refine⟨z.enc,by rw [vc,hz];rfl,?_⟩;have hR:R (((cK L nm).map Rw.enc).getD .none):=hR;rw [hz] at hR;exact hR
   ·have e:∀l:List Str,(∀a∈l,a∈L.map (·.1))->(l.map JA).map (λx=>match x with | .str nm=>((cK L nm).map Rw.enc).getD .none | _=>.none)=(l.filterMap (cK L)).map Rw.enc:=by
     intro l
     induction l with
     | nil=>intro _;rfl
     | cons a l ih=>
      intro hl;obtain⟨z,hz⟩:=vd (hl a Qo);rw [JB,JB,L7,hz,ih λb hb=>hl b (by simp [hb])];simp [hz]
    rw [e _ λa ha=>(eZ _).mem_iff.mp ha];exact q _ hL.res
end
theorem A8:aU (ax sM) ["deeds","day"] ["deed"] 1 [] ⟨JO,[(Jw ".0",Sa),(Jw "deed",Sa)],false,false,[]⟩:= .of
theorem A9:aU (ax sN) ["holds","line","names","hold","target","deep","reached"] ["coming","target"] 1 [4] ⟨JO,[ (Jw ".0",Sa),(Jw "coming",Sa),(Jw "is_told",Kj),(Jw "target",JP)],false,false,[]⟩:= .of
section
variable {P:QA} {w:QE} {K:Ju} {mg:Str->Option Qr} {base:QB} {t:er}
def De.rw:De->Rw
 | .pap p=>⟨Jt "paper",p.d,p.nm,[.str p.kd,.tuple (p.ms.map .str)]⟩
 | .oth w d nm r=>⟨w,d,nm,r⟩
theorem De.rw_enc(x:De):x.rw.enc=x.enc:=by cases x <;> rfl
theorem Ib(xs:List De):(xs.map De.rw).map Rw.enc=xs.map De.enc:=by
 rw [Ku];congr 1;funext x;exact x.rw_enc
theorem Ic(xs:List Qp):bf xs none (some 1)=xs.take 1:=by
 cases xs with
 | nil=>rfl
 | cons a l=>rw [nq Qi (by simp;omega)];rfl
def Ie(a b:Rw):Prop:=cn a.nm b.nm=true/\a.nm≠b.nm
theorem Ig{ws:List Str}{n:Int}{xs res:List Rw}(h:sk ws n xs res):res.Pairwise Ie:=by
 have up:=h.up;have nd:=h.nd;rw [La] at up;rw [Ox,La] at nd;exact up.and nd
def cD(ip:Bool)(tn:Str):Qp:= .tuple [.str (if ip=true then Jt "paper" else Jt "kind"),.str tn]
structure Hd where
 nm:Str
 ip:Bool
 tn:Str
 dp:Bool
def Hd.enc(h:Hd):Qp:= .tuple [.str h.nm,cD h.ip h.tn,.bool h.dp]
def De.isL:De->Bool
 | .oth w _ _ _=>w==Jt "hold" || w==Jt "lift"
 | _=>false
def mZ(x y:De):Prop:=x.isL=true->y.isL=true->¬(x.d=y.d/\x.nm=y.nm)
theorem mZ.symm{x y:De}(h:mZ x y):mZ y x:=λa b e=>h b a ⟨e.1.symm,e.2.symm⟩
structure fk (xs:List De):Prop where
 gx:dP xs
 ho:∀d nm r,De.oth (Jt "hold") d nm r∈xs->∃(ip:Bool)(tn:Str)(dp:Bool),r=[cD ip tn,.bool dp]/\JK tn=true
 pw:xs.Pairwise mZ
 d0:∀x∈xs,x.isL=true->0<=x.d
theorem Ba:∀{xs:List De},xs.Pairwise mZ->∀x∈xs,∀y∈xs,x.isL=true->y.isL=true->x.d=y.d->x.nm=y.nm->x=y
 | [],_,x,hx,_,_,_,_,_,_=>by cases hx
 | z::zs,h,x,hx,y,hy,h1,h2,h3,h4=>by
  have hp:=KU.mp h;rcases JF.mp hx with e | hx1 <;> rcases JF.mp hy with e' | hy1
  ·rw [e,e']
  ·rw [e] at h1 h3 h4⊢;exact absurd ⟨h3,h4⟩ (hp.1 y hy1 h1 h2)
  ·rw [e'] at h2 h3 h4⊢;exact absurd ⟨h3.symm,h4.symm⟩ (hp.1 x hx1 h2 h1)
  ·exact Ba hp.2 x hx1 y hy1 h1 h2 h3 h4
theorem fk.rh{xs:List De}(g:fk xs):∀x∈xs,∀y∈xs,x.isL=true->y.isL=true->x.d=y.d->x.nm=y.nm->x=y:=Ba g.pw
theorem fk.perm{xs ys:List De}(g:fk xs)(h:ys.Perm xs):fk ys:=
 ⟨g.gx.perm h,λd nm r z=>g.ho d nm r (h.mem_iff.mp z),(h.pairwise_iff λ{a b}=>mZ.symm).mpr g.pw,λx hx=>g.d0 x (h.mem_iff.mp hx)⟩
def iA:List Str:=["hold","lift"]
def qL:List Qp->Bool×Str×Bool
 | [.tuple [.str a,.str b],.bool c]=>(a==Jt "paper",b,c)
 | _=>(false,Jt "",false)
def nV(x:Rw):Hd:=⟨x.nm,(qL x.r).1,(qL x.r).2.1,(qL x.r).2.2⟩
theorem oz{x:Rw}{ip dp:Bool}{tn:Str}(h:x.r=[cD ip tn,.bool dp]):nV x=⟨x.nm,ip,tn,dp⟩:=by
 unfold nV;rw [h];cases ip with
 | true=>simp [cD,qL]
 | false=>simp [cD,qL,mI (show Jt "kind"≠Jt "paper" by decide+kernel)]
def nW(res:List Rw):List Hd:=(res.filter λx=>x.w==Jt "hold").map nV
theorem Ih{w:Str}(h:w∈iA):w=Jt "hold"\/w=Jt "lift":=by
 unfold iA at h;rcases JF.mp h with e | h
 ·exact .inl e
 ·rcases JF.mp h with e | h
  ·exact .inr e
  ·cases h
def vX(xs:List De)(n:Int)(h:Hd):Prop:=∃d,d<=n/\De.oth (Jt "hold") d h.nm [cD h.ip h.tn,.bool h.dp]∈xs/\∀x∈xs,x.isL=true->x.nm=h.nm->x.d<=n->x.d<=d
def qC(a b:Hd):Prop:=cn a.nm b.nm=true/\a.nm≠b.nm
structure pM (xs:List De) (n:Int) (L:List Hd):Prop where
 pw:L.Pairwise qC
 mem:∀h,h∈L↔vX xs n h
theorem Bb{L:List Hd}(h:L.Pairwise qC):L.Nodup:=h.imp λ{a b} z e=>z.2 (by rw [e])
theorem Bc{xs:List De}{n:Int}{L M:List Hd}(h1:pM xs n L)(h2:pM xs n M):L=M:=
 qK (r:=qC) (λa b h z=>h.2 (x6 h.1 z.1)) ((List.perm_ext_iff_of_nodup (Bb h1.pw) (Bb h2.pw)).mpr λx=>(h1.mem x).trans (h2.mem x).symm) h1.pw h2.pw
theorem oA{w:Str}{d:Int}{nm:Str}{r:List Qp}:(De.oth w d nm r).isL=true↔w∈iA:=by
 unfold iA De.isL;simp
theorem Ii{z:De}(h:z.isL=true):z.rw.w∈iA/\z.rw.nm=z.nm/\z.rw.n=z.d:=by
 cases z with
 | pap p=>cases h
 | oth w d nm r=>exact⟨oA.mp h,rfl,rfl⟩
theorem Bd{z:De}(h:z.rw.w∈iA):∃w d nm r,z= .oth w d nm r/\w∈iA:=by
 cases z with
 | pap p=>exact absurd (Ih h) (by show ¬(Jt "paper"=_\/Jt "paper"=_);decide+kernel)
 | oth w d nm r=>exact⟨_,_,_,_,rfl,h⟩
theorem Ij{xs:List De}{n:Int}{res:List Rw}(g:fk xs)(h:sk iA n (xs.map De.rw) res):pM xs n (nW res):=by
 refine⟨?_,λz=>⟨λhz=>?_,λ⟨d,dn,hd,mx⟩=>?_⟩⟩
 ·unfold nW;rw [La];exact((Ig h).sublist Mm).imp λ{a b} z=>z
 ·obtain⟨x,hx,rfl⟩:=JE.mp hz;obtain⟨hx1,hx2⟩:=Kq.mp hx;obtain⟨h1,h2,h3⟩:=h.it x hx1;obtain⟨y,hy,rfl⟩:=JE.mp h1;obtain⟨w,d,nm,r,rfl,hw⟩:=Bd h2.1;obtain rfl:w=Jt "hold":=eq_of_beq hx2;obtain⟨ip,tn,dp,rfl,hk⟩:=g.ho _ _ _ hy;rw [oz rfl];refine⟨d,h2.2,hy,λz hz hl hn hd=>?_⟩;obtain⟨a1,a2,a3⟩:=Ii hl;rw [<-a3];exact h3 z.rw (JE.mpr ⟨z,hz,rfl⟩) ⟨a1,by rw [a3];exact hd⟩ (by rw [a2];exact hn)
 ·obtain⟨x,hx,e⟩:=h.al (De.oth (Jt "hold") d z.nm [cD z.ip z.tn,.bool z.dp]).rw (JE.mpr ⟨_,hd,rfl⟩) ⟨by show Jt "hold"∈iA;exact .head _,dn⟩;obtain⟨h1,h2,h3⟩:=h.it x hx;obtain⟨y,hy,rfl⟩:=JE.mp h1;obtain⟨w,d2,nm,r,rfl,hw⟩:=Bd h2.1;have l1:d<=d2:=h3 (De.oth (Jt "hold") d z.nm [cD z.ip z.tn,.bool z.dp]).rw (JE.mpr ⟨_,hd,rfl⟩) ⟨by show Jt "hold"∈iA;exact .head _,dn⟩ e.symm;have l2:d2<=d:=mx _ hy (oA.mpr hw) e h2.2;have e2:=g.rh _ hy _ hd (oA.mpr hw) (oA.mpr (.head _)) (show d2=d by omega) e;cases e2;unfold nW;refine JE.mpr ⟨_,Kq.mpr ⟨hx,beq_self_eq_true _⟩,?_⟩;rw [oz rfl];rfl
def qM(hs:List Hd):Prop:=hs.length<=41/\∀h∈hs,JK h.tn=true
def Ik:List Qp->(Qp->Prop)->Prop:=λds Q=>∃(xs:List De)(n:Int),ds=[.tuple (xs.map De.enc),.int n]/\fk xs/\∀L,pM xs n L->qM L->Q (.tuple (L.map Hd.enc))
theorem vY(T:Txt K mg t):aB P w K mg base aM 2 t.a_G t.d_G ["deeds","day"] (bb K Ik):=by
 have G_F:=@Ia P w _ _ base _ T;refine T.F_G.F.okD Ht (λds Q h=>?_) (λ_ _ _ _ H O ds Q E hr h=>?_)
 ·obtain⟨xs,n,rfl,_⟩:=h;rfl
 ·obtain⟨xs,n,rfl,g,q⟩:=h;refine'⟨_,?A,?B⟩
  case A=>
   refine' aw ?C
   case' C=>generalize hG2:Expr.Call _ _ _ _=eg2
   refine' aX ?D
   case' D=>subst hG2
   exact(PE.imp (nc oQ rfl T.n_tuple nE (bE (fe (dJ rfl A8 (df (ba G_F hr T.F_F (ae (dv 0) (ae (bF (ae aZ (ae aZ ak))) (ae (dv 1) ak))))) aJ bY Qi (λ_ _ _ _=>(aH (i:=0) A8.nd rfl Qm)) (λ_ _ _ _=>(dU (aR (mS hr) mU (aq aE aF (dv 0) af) aZ (aI _)))) (λ_ _ _ _=>(bF (ae (aq aE aF (dv 0) af) (ae (aq aE aF (dv 0) af) (ae (aq aE aF (dv 0) af) ak))))))) br)) (bL pf))
  case B=>
  clear hr T G_F;have okst:∀x∈xs.map De.rw,JK x.w=true:=λx hx=>by
   obtain⟨y,hy,rfl⟩:=JE.mp hx;have:=g.gx.w _ hy;cases y <;> exact this
  have okle:(xs.map De.rw).length < 64:=by rw [Jv];have:=g.gx.ln;omega
  walk_at "a";refine⟨xs.map De.rw,iA,n,by rw [Ib];rfl,okst,Qh,okle,λres hres=>⟨_,rfl,?_,?_⟩⟩
  ·rw [Jv];have:=hres.le;omega
  have fm:∀x∈res,x.w=Jt "hold"->∃(ip:Bool)(tn:Str)(dp:Bool),x.r=[cD ip tn,.bool dp]/\JK tn=true:=λx hx hw=>by
   obtain⟨h1,_,_⟩:=hres.it x hx;obtain⟨y,hy,rfl⟩:=JE.mp h1;cases y with
   | pap p=>exact absurd hw (by show Jt "paper"≠_;decide+kernel)
   | oth w d nm r=>
    have hw:w=Jt "hold":=hw;subst hw;exact g.ho _ _ _ hy
  have q:qM (nW res)->Q (.tuple ((nW res).map Hd.enc)):=q _ (Ij g hres);refine eD (enc:=Rw.enc) (λx=>x.w==Jt "hold") (λx=>(nV x).enc) (λx hx R S h=>?_) ?_
  ·simp only [Rw.enc];walk_at "a";by_cases hr:(x.w==Jt "hold")=true
   ·rw [Ql hr] at h⊢;obtain⟨ip,tn,dp,hp,_⟩:=fm x hx (eq_of_beq hr);rw [oz hp] at h;rw [hp];exact⟨_,cF,_,cX,h⟩
   ·rw [Qk hr] at h⊢;exact h
  ·have e2:(Oj (λx=>x.w==Jt "hold") res).map (λx=>(nV x).enc)=(nW res).map Hd.enc:=by unfold nW;rw [Ku];rfl
   rw [e2];refine q ⟨?_,λh hh=>?_⟩
   ·unfold nW;rw [Jv];have h1:=KJ (λx:Rw=>x.w==Jt "hold") res;have h2:=hres.le;rw [Jv] at h2;have:=g.gx.ln;omega
   ·obtain⟨x,hx,rfl⟩:=JE.mp hh;obtain⟨hx1,hx2⟩:=Kq.mp hx;obtain⟨ip,tn,dp,hp,hk⟩:=fm x hx1 (eq_of_beq hx2);rw [oz hp];exact hk
def c5(ip:Bool)(tn:Str)(c:Pp):Bool:=tn==if ip=true then c.nm else c.kd
def Be:List Qp->(Qp->Prop)->Prop:=λds Q=>∃(ip:Bool)(tn:Str)(c:Pp),ds=[cD ip tn,c.enc]/\JK tn=true/\JK c.nm=true/\JK c.kd=true/\Q (.bool (c5 ip tn c))
theorem Il(T:Txt K mg t):aB P w K mg base aM 1 t.a_H t.d_H ["target","coming"] (bb K Be):=by
 refine T.F_H.F.okD Hu (λds Q h=>?_) (λ_ _ _ _ H O ds Q E hr h=>?_)
 ·obtain⟨ip,tn,c,rfl,_⟩:=h;rfl
 ·obtain⟨ip,tn,c,rfl,h1,h2,h3,q⟩:=h;refine'⟨_,?A,?B⟩
  case A=>
   refine' aw ?C
   case' C=>refine' aX ?D
   case D=>exact(cT (cA hr.units) cB (df (aq aE aF (dv 0) af)) (df (uM (aR (mS hr) mU (aq aE aF (dv 0) af) aZ (aI _)) (aq aE aF (dv 1) af) (aq aE aF (dv 1) af))) (aI _))
  case B=>
  clear hr T;simp only [cD,Pp.enc];unfold c5 at q;cases ip with
  | true=>
   walk_at "a";exact⟨cH.mpr h1,cH.mpr h2,q⟩
  | false=>
   walk_at "a";rw [Qk (show ¬(Jt "kind"==Jt "paper")=true by decide+kernel)];exact⟨cH.mpr h1,cH.mpr h3,q⟩
def cM(line:List Pp)(h:Hd):Bool:=(if h.dp=true then line else line.take 1).any (c5 h.ip h.tn)
def m3(hs:List Hd)(line:List Pp):List Str:=(hs.filter (cM line)).map (·.nm)
def Bf(line:List Pp):Prop:=line.length<=41/\∀c∈line,JK c.nm=true/\JK c.kd=true
def F_I:List Qp->(Qp->Prop)->Prop:=λds Q=>∃(hs:List Hd)(line:List Pp),ds=[.tuple (hs.map Hd.enc),.list (line.map Pp.enc)]/\qM hs/\Bf line/\Q (.tuple ((m3 hs line).map .str))
theorem Bg(T:Txt K mg t):aB P w K mg base aM 2 t.a_I t.d_I ["holds","line"] (bb K F_I):=by
 have G_H:=@Il P w _ _ base _ T;refine T.F_I.F.okD pI (λds Q h=>?_) (λ_ _ _ _ H O ds Q E hr h=>?_)
 ·obtain⟨hs,line,rfl,_⟩:=h;rfl
 ·obtain⟨hs,line,rfl,ho,lo,q⟩:=h;refine'⟨_,?A,?B⟩
  case A=>
   refine' au ?C ?D
   case C=>exact(nH (i:=2) pI.nd rfl Qm (bZ ak))
   case' D=>refine' au ?E ?F
   case E=>
    refine' pd Kx rfl (dv 0) ?G (oZ (dH aJ (dH aJ (dH aJ oY)))) ?H
    case G=>exact(oK (n:=3) rfl (di (aH (i:=3) pI.nd rfl Qm) (di (aH (i:=4) pI.nd rfl Qm) (di (aH (i:=5) pI.nd rfl Qm) oJ))))
    case' H=>refine' au ?I ?J
    case I=>exact(bt (i:=6) pI.nd rfl Qm (uM (dD (dv 5)) (dv 1) (fe (gj (df (dv 1)) eU (cm af)))))
    case' J=>refine' aw ?K
    case' K=>refine' bN ?L ?M bM
    case L=>exact(dD (PE.imp (bI (uI rfl) rfl T.n_any uJ (bE (fe (dJ rfl A9 (df (dv 6)) aJ bY Qi (λ_ _ _ _=>(aH (i:=0) A9.nd rfl Qm)) (λ_ _ _ _=>mR) (λ_ _ _ _=>(ba G_H hr T.F_H (ae (dv 1) (ae (dv 0) ak)))))) br)) (bL rR)))
    case' M=>refine' aw ?N
    case N=>exact(qi (i:=2) (pv 2) (dv 3))
   case' F=>refine' aw ?O
   case O=>exact(aX (PE.imp (nc oQ rfl T.n_tuple nE (nG (dw 2) br)) (bL pf)))
  case B=>
  clear hr T G_H;have h41:=ho.1;have l41:=lo.1;walk_at "a";refine⟨λi δ=>∃o3 o4 o5 o6,δ=[some (Sl.v (.tuple (hs.map Hd.enc))),some (Sl.v (.list (line.map Pp.enc))),some (Sl.o ((m3 (hs.take i) line).map .str)),o3,o4,o5,o6],⟨_,_,_,_,rfl⟩,?_,?_⟩
  ·rintro i z δ hz ⟨o3,o4,o5,o6,rfl⟩;rw [JD] at hz;cases hz':hs[i]? with
   | none=>rw [hz'] at hz;cases hz
   | some h=>
    rw [hz'] at hz;cases hz;have hk:=ho.2 h (JQ hz');have ts:m3 (hs.take (i+1)) line=m3 (hs.take i) line++if cM line h=true then [h.nm] else []:=by
     unfold m3;rw [K3,hz',M6,JZ];congr 1;by_cases e:cM line h=true
     ·simp [e]
     ·simp [e]
    have ll:(m3 (hs.take i) line).length<=41:=by
     unfold m3;rw [Jv];have:=KJ (cM line) (hs.take i);rw [Kw] at this;omega
    have key:∀(l2:List Pp)(R:List Qp->Prop),(∀c∈l2,c∈line)->R ((l2.map (c5 h.ip h.tn)).map .bool)->d4 (dZ 0) cU (dE Be (cS (bW 1) (cS (bW 0) dX))) [none,some (Sl.v (cD h.ip h.tn))] (l2.map Pp.enc) R:=λl2 R hl hR=>by
     refine HH (λ_=>true) (λc=>.bool (c5 h.ip h.tn c)) (λc hc R S h1 _=>?_) (by rw [tj];rw [Ku] at hR;exact hR);walk_at "a";exact⟨h.ip,h.tn,c,rfl,hk,(lo.2 c (hl c hc)).1,(lo.2 c (hl c hc)).2,h1 rfl⟩
    simp only [Hd.enc];simp only [ts];have ec:cM line h=(if h.dp=true then line else line.take 1).any (c5 h.ip h.tn):=rfl;rw [ec];generalize m3 (hs.take i) line=A0 at ll;have fin:∀(l2:List Pp)(x:Option Sl),if (l2.map (c5 h.ip h.tn)).any id=true then(A0.map JA).length < 16777216/\A0.map JA++[JA h.nm]=(A0++if l2.any (c5 h.ip h.tn)=true then [h.nm] else []).map JA/\∃y,x=y else A0.map JA=(A0++if l2.any (c5 h.ip h.tn)=true then [h.nm] else []).map JA/\∃y,x=y:=λl2 x=>by
     rw [OT];show if l2.any (c5 h.ip h.tn)=true then _ else _
     split
     ·exact⟨by rw [Jv];omega,Qo,_,rfl⟩
     ·exact⟨Qo,_,rfl⟩
    cases hd:h.dp with
    | true=>
     walk_at "a";exact⟨by rw [Jv];omega,key line _ (λ_ h=>h) ⟨_,rfl,fin line _⟩⟩
    | false=>
     walk_at "a";rw [Ic,<-Ml];have lt:(line.take 1).length<=41:=by rw [Kw];omega
     exact⟨by rw [Jv];omega,key (line.take 1) _ (λ_ h=>Ll h) ⟨_,rfl,fin (line.take 1) _⟩⟩
  ·rintro δ ⟨o3,o4,o5,o6,rfl⟩;walk_at "a";rw [Jv,J7 (Jy _)];exact q
end
theorem tw:aU (ax sJ) ["deeds","paper","line","place"] ["deed","line"] 1 [2] ⟨JO,[ (Jw ".0",Sa),(Jw "deed",Sa),(Jw "line",JP)],false,false,[]⟩:= .of
section
variable {P:QA} {w:QE} {K:Ju} {mg:Str->Option Qr} {base:QB} {t:er}
theorem Bh:∀{a b:List Str},MD (a.map .str) (b.map .str)=true↔a=b
 | [],[]=>by simp [MD]
 | [],_::_=>by simp [MD]
 | _::_,[]=>by simp [MD]
 | x::a,y::b=>by
  rw [JB,JB,MD,Kn,Bh,cG,beq_iff_eq,Kd]
theorem Bi{a b:Pp}:JG a.enc b.enc=true↔a=b:=by
 obtain⟨d,nm,kd,ms⟩:=a;obtain⟨d',nm',kd',ms'⟩:=b;simp only [Pp.enc,JG,MD,Kn,Bh,Pp.mk.injEq,decide_eq_true_eq,beq_iff_eq,and_true,true_and]
def oB(l:List Pp)(p:Pp):Bool:=(l.map Pp.enc).any λd=>JG d p.enc
theorem Bj{l:List Pp}{p:Pp}:oB l p=true↔p∈l:=by
 unfold oB;rw [MK];constructor
 ·rintro⟨d,hd,e⟩;obtain⟨q,hq,rfl⟩:=JE.mp hd;rw [<-Bi.mp e];exact hq
 ·intro h;exact⟨p.enc,JE.mpr ⟨p,h,rfl⟩,Bi.mpr rfl⟩
def nv(ps line:List Pp)(c:Pp):List Pp:=(fj ps c).filter λp=>!oB line p
def dh(ps:List Pp):Nat->List Pp->Nat->List Pp
 | 0,l,_=>l
 | f+1,l,i=>match l[i]? with
  | none=>l
  | some c=>dh ps f (l++nv ps l c) (i+1)
def cf(ps:List Pp)(c:Pp):List Pp:=dh ps ps.length [c] 0
theorem Bk{ps l:List Pp}{i:Nat}(h:l.length<=i):∀f,dh ps f l i=l
 | 0=>rfl
 | f+1=>by rw [dh,LR h]
structure nX (ps:List Pp) (c:Pp) (l:List Pp):Prop where
 nd:l.Nodup
 sb:∀p∈l,p∈ps
 hd:∃r,l=c::r
theorem pN{α:Type}:∀{l L:List α},l.Nodup->(∀z∈l,z∈L)->l.length<=L.length
 | [],_,_,_=>KI _
 | a::l,L,nd,hm=>by
  rw [LL] at nd;obtain⟨p,q,e⟩:=List.append_of_mem (hm a Qo);have:=pN (l:=l) (L:=p++q) nd.2 λb hb=>by
   have hb':=hm b (by simp [hb]);rw [e] at hb';rcases JI.mp hb' with z | z
   ·exact Mh _ z
   ·rcases JF.mp z with z | z
    ·exact absurd (by rw [<-z];exact hb) nd.1
    ·exact Kc _ z
  rw [e,Kg,JS,JS];rw [Kg] at this;omega
theorem Im{ps:List Pp}(nd:(ps.map (·.nm)).Nodup):ps.Nodup:=by
 rw [Ox,La] at nd;exact nd.imp λh e=>h (by rw [e])
theorem Io{ps:List Pp}(nd:(ps.map (·.nm)).Nodup)(c:Pp):(fj ps c).Nodup:=((mH ps).nodup_iff.mpr (Im nd)).sublist Mm
theorem tD{ps:List Pp}{c p:Pp}(h:p∈fj ps c):p∈ps:=pK.mp (Kq.mp h).1
theorem nX.next{ps:List Pp}(nd:(ps.map (·.nm)).Nodup){c:Pp}{l:List Pp}(h:nX ps c l)(d:Pp):nX ps c (l++nv ps l d):=by
 refine⟨MQ.mpr ⟨h.nd,(Io nd d).sublist Mm,λa ha b hb e=>?_⟩,λp hp=>?_,?_⟩
 ·have:=(Kq.mp hb).2;rw [Ko,<-Pl] at this;exact this (Bj.mpr (by rw [<-e];exact ha))
 ·rcases JI.mp hp with z | z
  ·exact h.sb p z
  ·exact tD (Kq.mp z).1
 ·obtain⟨r,e⟩:=h.hd;exact⟨r++nv ps l d,by rw [e];rfl⟩
theorem Bl{ps:List Pp}(nd:(ps.map (·.nm)).Nodup){c:Pp}:∀(f:Nat){l:List Pp}(i:Nat),nX ps c l->nX ps c (dh ps f l i)
 | 0,_,_,h=>h
 | f+1,l,i,h=>by
  rw [dh];split
  ·exact h
  ·exact Bl nd f (i+1) (h.next nd _)
theorem Bm{ps:List Pp}(nd:(ps.map (·.nm)).Nodup){c:Pp}(hc:c∈ps):nX ps c (cf ps c):=Bl nd _ _ ⟨Qo,by simpa using hc,[],rfl⟩
theorem Bn{ps:List Pp}(g:iz ps){c:Pp}(hc:c∈ps):Bf (cf ps c):=by
 have h:=Bm g.nd hc;have h1:=pN h.nd h.sb;have h2:=g.ln;exact⟨Qj,λp hp=>⟨g.nm p (h.sb p hp),g.kd p (h.sb p hp)⟩⟩
theorem vZ{ps:List Pp}(g:iz ps){c:Pp}(hc:c∈ps):bU 3 c.enc:=by
 obtain⟨h1,h2⟩:=g.ms c hc;exact i9 (bB (cq Qh) (bB qx (bB (cq (g.nm c hc)) (bB (cq (g.kd c hc)) (bB (i9 (n:=1) (yA h1)) fb)))))
def Ip:List Qp->(Qp->Prop)->Prop:=λds Q=>∃(xs:List De)(c:Pp),ds=[.tuple (xs.map De.enc),.str c.nm]/\dP xs/\c∈aj xs/\Q (.list ((cf (aj xs) c).map Pp.enc))
theorem Iq(T:Txt K mg t):aB P w K mg base aM 6 t.a_E t.d_E ["deeds","paper"] (bb K Ip):=by
 have G_C:=@HK P w _ _ base _ T;have G_D:=@AY P w _ _ base _ T;refine T.F_E.F.okD nO (λds Q h=>?_) (λ_ _ _ _ H O ds Q E hr h=>?_)
 ·obtain⟨xs,c,rfl,_⟩:=h;rfl
 ·obtain⟨xs,c,rfl,gd,hc,q⟩:=h;refine'⟨_,?A,?B⟩
  case A=>
   refine' au ?C ?D
   case C=>exact(nH (i:=2) nO.nd rfl Qm (bZ (ae (ba G_C hr T.F_C (ae (dv 0) (ae (dv 1) ak))) ak)))
   case' D=>refine' au ?E ?F
   case E=>exact(bt (i:=3) nO.nd rfl Qm af)
   case' F=>refine' au ?G ?H
   case G=>
    refine' vp Kx ?I ?J
    case I=>exact(aR mP cP (dv 3) (PE.imp (bI iF rfl T.n_len Lu (nG (dw 2) br)) (bL mQ)) (aI _))
    case' J=>refine' au ?K ?L
    case K=>exact(sE (i:=2) (pv 2) (dJ rfl tw (df (ba G_D hr T.F_D (ae (dv 0) (ae (gm aL aO (dw 2) (df (dv 3))) ak)))) aJ bY Qi (λ_ _ _ _=>(aH (i:=0) tw.nd rfl Qm)) (λ_ _ _ _=>(dU (rJ (uW hr) om (df (dv 0)) (dw 1) rfl))) (λ_ _ _ _=>(dv 0))))
    case' L=>refine' aw ?M
    case M=>exact(bt (i:=3) nO.nd rfl Qm (av cu bT (dv 3) af))
   case' H=>refine' aw ?N
   case N=>exact(qh (pv 2))
  case B=>
  clear hr T G_C G_D;have nd:=gd.gp.nd;have pl:=gd.gp.ln;walk_at "a";refine⟨xs,c,rfl,gd,hc,?_⟩;refine⟨λm δ=>∃(l:List Pp)(i f:Nat),nX (aj xs) c l/\i<=l.length/\m+i=(aj xs).length/\(aj xs).length<=f+i/\dh (aj xs) f l i=cf (aj xs) c/\δ=[some (Sl.v (.tuple (xs.map De.enc))),some (Sl.v (.str c.nm)),some (Sl.o (l.map Pp.enc)),some (Sl.v (.int (i:Int)))],⟨(aj xs).length,[c],0,(aj xs).length,⟨Qo,by simpa using hc,[],rfl⟩,KI _,Qj,Qj,rfl,rfl⟩,?_⟩;rintro m δ ⟨l,i,f,hl,hi,hm,hf,ef,rfl⟩;have ll:=pN hl.nd hl.sb;walk_at "a";rw [Jv];by_cases hlt:i < l.length
  ·rw [Ql Qj];have hc':l[i]?=some l[i]:=JN hlt;have ho:=hl.next nd l[i];have lo:=pN ho.nd ho.sb;rw [Kg] at lo;refine⟨_,eJ (j:=i) (by rw [JD,hc'];rfl),xs,l[i],rfl,gd,hl.sb _ (KY hlt),_,rfl,by rw [Jv];have:=AZ (c:=l[i]) gd.gp;omega,eD (λp=>!oB l p) Pp.enc (λp hp R S h=>?_) ?_⟩
   ·walk_at "a";have ps:=tD hp;refine⟨(vZ gd.gp ps).shp Qi,(qu (n:=3) λd hd=>?_).1,by simpa [oB] using h⟩;obtain⟨p',hp',rfl⟩:=JE.mp hd;exact vZ gd.gp (hl.sb p' hp')
   ·have e:(Oj (λp=>!oB l p) (fj (aj xs) l[i]))=nv (aj xs) l l[i]:=rfl;rw [e];cases f with
    | zero=>omega
    | succ f=>
     rw [dh,hc'] at ef;refine⟨by rw [Jv];omega,m - 1,Qj,_,ho,i+1,by rw [Kg];omega,Qj,f,Qj,ef,by rw [JZ],Qj⟩
  ·rw [Qk Qj];rw [<-ef,Bk Qj] at q;exact q
local macro_rules | `(tactic| walk_at "c") =>rzT "tP tO tT tS tR oM mM eF tC nY t8 rI ft rU GI GJ GK GL GN uc tB tH tI tJ tK tL tM tN p8 uf ue qa ug uh pV oI pU tV xa xb xc xf xh xi xj xk dj dQ cR L2.start JB Kk JS Kr JU KD KC J5 Lh Li Lz LA LB Ki J6 KG KH KO exists_eq_left' exists_eq_left exists_and_left exists_and_right V.int.injEq V.bl.injEq V.str.injEq V.ref.injEq Kd and_true true_and LC exists_const decide_eq_true_eq LD LG Lq Lr Ko decide_eq_false_iff_not and_assoc aN KZ KN K0 L2.cxK L2.cmK or_true true_or"
local macro_rules | `(tactic| walk_at "d") =>rzT "tP tO tT tS tR oM mM eF tC nY t8 rI ft rU oO uc tB tH tI tJ tK tL tM tN p8 uf ue qa ug uh pV oI pU tV xa xb xc xf xh xi xj xk dj dQ cR L2.start JB Kk JS Kr JU KD KC J5 Lh Li Lz LA LB Ki J6 KG KH KO exists_eq_left' exists_eq_left exists_and_left exists_and_right V.int.injEq V.bl.injEq V.str.injEq V.ref.injEq Kd and_true true_and LC exists_const decide_eq_true_eq LD LG Lq Lr Ko decide_eq_false_iff_not and_assoc aN KZ KN K0 L2.cxK L2.cmK or_true true_or if_true if_false Kh KW not_true_eq_false not_false_eq_true LH Lv ite_true ite_false eq_self xn L2.E0 exists_eq forall_eq'"
def v3(xs:List De)(d:Qp):Prop:=bG d=true/\∀p∈aj xs,(JA p.nm).eqv d=false
def Bo:DX:=λds _ R=>∃(xs:List De)(d:Qp),ds=[.tuple (xs.map De.enc),d]/\dP xs/\v3 xs d/\R
theorem Ir(T:Txt K mg t):aB P w K mg base (aV P w) 1 t.a_C t.d_C ["deeds","paper"] (ox K t.u_NoPaper Bo):=by
 refine T.F_C.F.okDX sV (λds Q R h=>?_) (λcdv A outer s H O ds Q R E hr h hx=>?_)
 ·obtain⟨xs,d,rfl,_⟩:=h;rfl
 ·obtain⟨xs,d,rfl,g,⟨ht,hn⟩,r⟩:=h;refine'⟨_,?A,?B⟩
  case A=>
   refine' au ?C ?D
   case C=>
    refine' pd O7 rfl (dv 0) ?E aJ ?F
    case E=>exact(aH (i:=2) sV.nd rfl Qm)
    case' F=>refine' aw ?G
    case' G=>refine' bN ?H ?I bM
    case H=>exact(PW.pt (dY (aR (mS hr) mU (aq aE aF (dv 2) af) aZ (aI _)) (eL (aR (Hj hr) Hk (aq aE aF (dv 2) af) (dv 1) (aI _)))))
    case' I=>refine' aw ?J
    case J=>exact(aX (dv 2))
   case' D=>refine' aw ?K
   case K=>exact(Hg hx T.c_NoPaper T.q_NoPaper PySem.F.excBase_ValueError (ae aZ ak))
  case B=>
  clear hr T hx;walk_at "a";refine⟨λi δ=>∃o2,δ=[some (Sl.v (J3 (J1 De.enc xs))),some (Sl.v d),o2],⟨_,rfl⟩,?_,?_⟩
  ·rintro i z δ hz ⟨o2,rfl⟩;rw [JD] at hz;cases hz':xs[i]? with
   | none=>rw [hz'] at hz;cases hz
   | some x=>
    rw [hz'] at hz;cases hz;have hx:=JQ hz';cases x with
    | pap p=>
     simp only [De.enc,Pp.enc];walk_at "a";rw [hn p (vP.mpr hx)];exact⟨ht,_,rfl⟩
    | oth wo n nm l=>
     simp only [De.enc];walk_at "a";rw [mI (g.np _ _ _ _ hx),Qk Kf];exact⟨_,rfl⟩
  ·rintro δ ⟨o2,rfl⟩;walk_at "a";exact r
theorem Iu(T:Txt K mg t):aB P w K mg base (aV P w) 6 t.a_E t.d_E ["deeds","paper"] (ox K t.u_NoPaper Bo):=by
 have G_C:=@Ir P w _ _ base _ T;have G_D:=@AY P w _ _ base _ T;refine T.F_E.F.okDX nO (λds Q R h=>?_) (λcdv A outer s H O ds Q R E hr h hx=>?_)
 ·obtain⟨xs,d,rfl,_⟩:=h;rfl
 ·obtain⟨xs,d,rfl,h⟩:=h;refine'⟨_,?A,?B⟩
  case A=>
   refine' au ?C ?D
   case C=>exact(nH (i:=2) nO.nd rfl Qm (bZ (ae (Av hx G_C hr T.F_C (ae (dv 0) (ae (dv 1) ak))) ak)))
   case' D=>refine' au ?E ?F
   case E=>exact(bt (i:=3) nO.nd rfl Qm af)
   case' F=>refine' au ?G ?H
   case G=>
    refine' vp O7 ?I ?J
    case I=>exact(aR mP cP (dv 3) (PE.imp (bI iF rfl T.n_len Lu (nG (dw 2) br)) (bL mQ)) (aI _))
    case' J=>refine' au ?K ?L
    case K=>exact(sE (i:=2) (pv 2) (dJ rfl tw (df (ba G_D hr T.F_D (ae (dv 0) (ae (gm aL aO (dw 2) (df (dv 3))) ak)))) aJ bY Qi (λ_ _ _ _=>(aH (i:=0) tw.nd rfl Qm)) (λ_ _ _ _=>(dU (rJ (uW hr) om (df (dv 0)) (dw 1) rfl))) (λ_ _ _ _=>(dv 0))))
    case' L=>refine' aw ?M
    case M=>exact(bt (i:=3) nO.nd rfl Qm (av cu bT (dv 3) af))
   case' H=>refine' aw ?N
   case N=>exact(qh (pv 2))
  case B=>
  clear hr T hx G_C G_D;walk_at "a";exact⟨xs,d,rfl,h⟩
def Iw:DX:=λds _ R=>∃(xs:List De)(n:Int)(d:Qp),ds=[.tuple (xs.map De.enc),.int n,d]/\fk xs/\v3 xs d/\R
theorem Iy(T:Txt K mg t):aB P w K mg base (aV P w) 7 t.a_J t.d_J ["deeds","day","paper"] (ox K t.u_NoPaper Iw):=by
 have G_G:=@vY P w _ _ base _ T;have G_E:=@Iu P w _ _ base _ T;have G_I:=@Bg P w _ _ base _ T;refine T.F_J.F.okDX AB (λds Q R h=>?_) (λcdv A outer s H O ds Q R E hr h hx=>?_)
 ·obtain⟨xs,n,d,rfl,_⟩:=h;rfl
 ·obtain⟨xs,n,d,rfl,g,np,r⟩:=h;refine'⟨_,?A,?B⟩
  case A=>
   refine' aw ?C
   case' C=>refine' aX ?D
   case D=>exact(ba G_I hr T.F_I (ae (ba G_G hr T.F_G (ae (dv 0) (ae (dv 1) ak))) (ae (Av hx G_E hr T.F_E (ae (dv 0) (ae (dv 2) ak))) ak)))
  case B=>
  clear hr T hx G_G G_E G_I;walk_at "a";exact⟨xs,n,rfl,g,λL hL hok=>⟨xs,d,rfl,g.gx,np,r⟩⟩
def Iz:List Qp->(Qp->Prop)->Prop:=λds Q=>∃(xs:List De)(n:Int)(c:Pp),ds=[.tuple (xs.map De.enc),.int n,.str c.nm]/\fk xs/\c∈aj xs/\∀L,pM xs n L->qM L->Q (.tuple ((m3 L (cf (aj xs) c)).map .str))
theorem IA(T:Txt K mg t):aB P w K mg base aM 7 t.a_J t.d_J ["deeds","day","paper"] (bb K Iz):=by
 have G_G:=@vY P w _ _ base _ T;have G_E:=@Iq P w _ _ base _ T;have G_I:=@Bg P w _ _ base _ T;refine T.F_J.F.okD AB (λds Q h=>?_) (λ_ _ _ _ H O ds Q E hr h=>?_)
 ·obtain⟨xs,n,c,rfl,_⟩:=h;rfl
 ·obtain⟨xs,n,c,rfl,g,hc,q⟩:=h;refine'⟨_,?A,?B⟩
  case A=>
   refine' aw ?C
   case' C=>refine' aX ?D
   case D=>exact(ba G_I hr T.F_I (ae (ba G_G hr T.F_G (ae (dv 0) (ae (dv 1) ak))) (ae (ba G_E hr T.F_E (ae (dv 0) (ae (dv 2) ak))) ak)))
  case B=>
  clear hr T G_G G_E G_I;walk_at "a";exact⟨xs,n,rfl,g,λL hL hok=>⟨xs,c,rfl,g.gx,hc,_,_,rfl,hok,Bn g.gx.gp hc,q L hL hok⟩⟩
theorem IB(T:Txt K mg t):aB P w K mg base aM 14 t.a_W t.d_W ["_law_deed"] (Aw P w K mg t.u_NoPaper 13 base):=by
 refine T.F_W.F.ok AD (λvs H Q E h=>?_) (λcdv A outer s H vs Q E hr h=>?_)
 ·obtain⟨f,k,fd,sp,o,rfl,_⟩:=h;rfl
 ·obtain⟨f,k,fd,sp,o,rfl,hbf,hk,Ff,hb,hsp⟩:=h;refine'⟨_,?A,?B⟩
  case A=>
   refine' tQ ?C ?D
   case C=>
    exact(Hc (C:=t.u_NoPaper) (i:=1) (d:=0) rfl (N4 rfl) rfl rfl T.c_ArchiveError rfl T.q_NoPaper T.q_ArchiveError Qi T.i_NoPaper_ArchiveError AD.nd rfl rfl (λe=>(tQ (wm (wc (bI (Hl (K':=K) rfl) rfl T.n_isinstance iG (bP (pv 1) (bP (wG (bP (iD (v:= .ref t.u_GoneMaker) rfl T.c_GoneMaker rfl) (bP (iD (v:= .ref t.u_Held) rfl T.c_Held rfl) (bP (iD (v:= .ref t.u_MustStay) rfl T.c_MustStay rfl) (bP (iD (v:= .ref t.u_NoCall) rfl T.c_NoCall rfl) (bP (iD (v:= .ref t.u_NoDay) rfl T.c_NoDay rfl) (bP (iD (v:= .ref t.u_NoDeed) rfl T.c_NoDeed rfl) (bP (iD (v:= .ref t.u_NoLeave) rfl T.c_NoLeave rfl) (bP (iD (v:= .ref t.u_NoNumber) rfl T.c_NoNumber rfl) (bP (iD (v:= .ref t.u_NoText) rfl T.c_NoText rfl) (bP (iD (v:= .ref t.u_Twice) rfl T.c_Twice rfl) eG))))))))))) eG)))) (qS (pR tG)) wj)
   (qS (pR (wg (bI (Az (K':=K) rfl) rfl T.n_isinstance iG (bP (pv 1) (bP (iD (v:= .ref t.u_NoPaper) rfl T.c_NoPaper rfl) eG))) (we (bI (Az (K':=K) rfl) rfl T.n_isinstance iG (bP (pv 1) (bP (m8 (v:= .ty "ValueError") rfl T.n_ValueError DM rfl) eG))))))))))
   case D=>
    refine' qS ?E
    case E=>refine' pR tG
  case B=>
  walk_at "d";refine⟨f,k,fd,sp,o,rfl,hbf,hr.mono hk,Ff,hb,hsp _ _ (λv H2 q=>?_) (λd H2 q=>⟨rfl,λe he=>?_⟩)⟩
  ·walk_at "d";exact q
  ·walk_at "d";refine⟨Qi,λq' hq=>?_⟩;have ne:e≠q':=cE bh hq;have Z:iH K t.u_NoPaper:=⟨T.z1,T.z2,T.z3,T.z4,T.z5,T.z6,T.z7,T.z8⟩;refine⟨t.u_NoPaper,(az ne).trans bh,[t.u_GoneMaker,t.u_Held,t.u_MustStay,t.u_NoCall,t.u_NoDay,t.u_NoDeed,t.u_NoLeave,t.u_NoNumber,t.u_NoText,t.u_Twice],bh,Z,false,T.ka,?_⟩;rw [Qk Qi];refine⟨t.u_NoPaper,(az ne).trans bh,Z,.ref t.u_NoPaper,λu h=>h,true,by unfold M8;rw [Ql Qo],?_⟩;rw [Ql rfl];refine⟨t.u_NoPaper,(az ne).trans bh,Z,.type "ValueError",λu h=>h,true,T.kv,?_⟩;exact q _ ((ai.new he).trans (ai.new hq))
end
theorem Bp:aU (ax oy) ["_law_deeds","_law_day_here","_law_some","_law_name","_law_told","_law_last"] ["_law_deed"] 1 [] ⟨JO,[(Jw ".0",Sa),(Jw "_law_deed",Sa)],false,false,[]⟩:= .of
theorem Bq:aU (ax oy) ["_law_deeds","_law_day_here","_law_some","_law_name","_law_told","_law_last"] ["_law_deed","_law_name","_law_day_here"] 1 [3,1] ⟨JO,[ (Jw ".0",Sa),(Jw "_law_deed",Sa),(Jw "_law_day_here",JP),(Jw "_law_name",JP)],false,false,[]⟩:= .of
theorem Br:aU (ax oy) ["_law_deeds","_law_day_here","_law_some","_law_name","_law_told","_law_last"] ["_law_deed"] 1 [] ⟨JO,[(Jw ".0",Sa),(Jw "_law_deed",Sa)],false,false,[]⟩:= .of
theorem Bs:aU (ax oy) ["_law_deeds","_law_day_here","_law_some","_law_name","_law_told","_law_last"] ["_law_deed","_law_name","_law_last"] 1 [3,5] ⟨JO,[ (Jw ".0",Sa),(Jw "_law_deed",Sa),(Jw "_law_last",JP),(Jw "_law_name",JP)],false,false,[]⟩:= .of
theorem Bt:aU (ax sT) ["_law_deeds","_law_name","_law_some","_law_at"] ["_law_one","_law_some"] 1 [2] ⟨JO,[ (Jw ".0",Sa),(Jw "_law_one",Sa),(Jw "_law_some",JP)],false,false,[]⟩:= .of
section
variable {P:QA} {w:QE} {K:Ju} {mg:Str->Option Qr} {base:QB} {t:er}
theorem IC(x:De):(Jt "hold"==x.w || Jt "lift"==x.w)=x.isL:=by
 cases x with
 | pap p=>show(Jt "hold"==Jt "paper" || Jt "lift"==Jt "paper")=false;decide+kernel
 | oth w d nm r=>
  show(Jt "hold"==w || Jt "lift"==w)=(w==Jt "hold" || w==Jt "lift");rw [OB,OB (a:=Jt "lift")]
def ID:List Qp->(Qp->Prop)->Prop:=λds Q=>∃(xs:List De)(n:Int),ds=[.tuple (xs.map De.enc),.int n]/\fk xs/\∀L,pM xs n L->Q (.tuple (L.map Hd.enc))
theorem IE(T:Txt K mg t):aB P w K mg base aM 1 t.a_X t.d_X ["_law_deeds","_law_day_here"] (bb K ID):=by
 refine T.F_X.F.okD qJ (λds Q h=>?_) (λ_ _ _ _ H O ds Q E hr h=>?_)
 ·obtain⟨xs,n,rfl,_⟩:=h;rfl
 ·obtain⟨xs,n,rfl,g,q⟩:=h;refine'⟨_,?A,?B⟩
  case A=>
   refine' au ?C ?D
   case C=>exact(nH (i:=2) qJ.nd rfl Qm (bZ ak))
   case' D=>refine' au ?E ?F
   case E=>
    refine' rP Kx rfl (fe (yX rfl rfl T.n_sorted Mk rfl T.n_set (bE (fe (rQ rfl Bp (df (dv 0)) aJ bY Qi (λ_ _ _ _=>(aH (i:=0) Bp.nd rfl Qm)) (λ_ _ _ _=>(dU (aR (mS hr) mU (aq aE aF (dv 0) af) aZ (aI _)))) (λ_ _ _ _=>(aq aE aF (dv 0) af)))) br))) ?G aJ ?H
    case G=>exact(aH (i:=3) qJ.nd rfl Qm)
    case' H=>refine' au ?I ?J
    case I=>exact(uU (i:=4) qJ.nd rfl Qm (z9 rfl Bq (df (dv 0)) aJ bY Qi (λ_ _ _ _=>(aH (i:=0) Bq.nd rfl Qm)) (λ_ _ _ _=>(dU (PW.pt (dY (aR (pz hr) pA (aq aE aF (dv 0) af) (bF (ae aZ (ae aZ ak))) rfl) (dY (aR (cA hr.units) cB (aq aE aF (dv 0) af) (dv 1) (aI _)) (eL (aR wD cP (aq aE aF (dv 0) af) (dv 2) (aI _)))))))) (λ_ _ _ _=>(dv 0))))
    case' J=>refine' au ?K ?L
    case K=>
     refine' bt (i:=5) qJ.nd rfl Qm ?M (hs:=yB)
     case M=>exact(PE.imp (bI (F6 rfl) rfl T.n_max Oo (bE (fe (qm (df (fe (dJ rfl Br (df (dv 4)) aJ bY Qi (λ_ _ _ _=>(aH (i:=0) Br.nd rfl Qm)) (λ_ _ _ _=>mR) (λ_ _ _ _=>(aq aE aF (dv 0) af))))) (df (fe (bZ (ae (E8 af) ak)))))) br)) (bL F7))
    case' L=>refine' aw ?N
    case N=>exact(sE (i:=2) (pv 2) (dJ rfl Bs (df (dv 4)) aJ bY Qi (λ_ _ _ _=>(aH (i:=0) Bs.nd rfl Qm)) (λ_ _ _ _=>(dU (PW.pt (dY (aR (cA hr.units) cB (aq aE aF (dv 0) af) (dv 2) (aI _)) (eL (aR (mS hr) mU (aq aE aF (dv 0) af) aZ (aI _))))))) (λ_ _ _ _=>(bF (ae (dv 1) (ae (aq aE aF (dv 0) af) (ae (aq aE aF (dv 0) af) ak)))))))
   case' F=>refine' aw ?O
   case O=>exact(aX (PE.imp (nc oQ rfl T.n_tuple nE (nG (dw 2) br)) (bL pf)))
  case B=>
  clear hr T;walk_at "a";refine⟨by rw [Jv];have:=g.gx.ln;omega,eD (λx=>x.w==Jt "hold") (λx=>.str x.nm) (λx hx R S h=>?_) ?_⟩
  ·obtain⟨rx,ex⟩:∃r,x.enc= .tuple (.str x.w:: .int x.d:: .str x.nm::r):=by cases x <;> exact⟨_,rfl⟩
   rw [ex];walk_at "a";exact h
  have xl:=g.gx.ln;refine⟨(xs.filter λx=>x.w==Jt "hold").map (·.nm),by rw [Ku];rfl,by rw [Jv];have:=KJ (λx:De=>x.w==Jt "hold") xs;omega,?_⟩;generalize hss:(xs.filter λx=>x.w==Jt "hold").map (·.nm)=ss;have hmem:∀z,z∈bV (ss.foldl bH [])↔∃x∈xs,x.w=Jt "hold"/\x.nm=z:=λz=>by
   rw [(eZ _).mem_iff,ve,<-hss];simp only [KA,false_or,JE,Kq,beq_iff_eq,and_assoc]
  have pwN:(bV (ss.foldl bH [])).Pairwise λa b=>cn a b=true/\a≠b:=(uX _).and ((eZ _).nodup_iff.mpr (yN .nil));have lN:(bV (ss.foldl bH [])).length<=41:=by
   have h1:=sC ss [];have h2:=KJ (λx:De=>x.w==Jt "hold") xs;have h3:=congrArg O9 hss;rw [Jv] at h3;rw [(eZ _).length_eq];simp only [Kr] at h1;omega
  generalize bV (ss.foldl bH [])=N at hmem pwN lN⊢;clear hss ss;refine⟨λi δ=>∃(L:List Hd)(o3 o4 o5:Option Sl),L.Pairwise qC/\(∀h,h∈L↔vX xs n h/\h.nm∈N.take i)/\L.length<=i/\δ=[some (Sl.v (J3 (J1 De.enc xs))),some (Sl.v (JM n)),some (Sl.o (L.map Hd.enc)),o3,o4,o5],⟨[],_,_,_,.nil,Qo,KI _,rfl⟩,?_,?_⟩
  ·rintro i z δ hz ⟨L,o3,o4,o5,hp,hm,hl,rfl⟩;rw [JD] at hz;cases hz':N[i]? with
   | none=>rw [hz'] at hz;cases hz
   | some nm=>
    rw [hz'] at hz;cases hz;walk_at "a";have hnm:nm∈N:=JQ hz';have nok:JK nm=true:=by
     obtain⟨x,hx,_,rfl⟩:=(hmem nm).mp hnm;exact g.gx.nm x hx
    have eq3:∀x:De,∃r,x.enc= .tuple (.str x.w:: .int x.d:: .str x.nm::r):=λx=>by cases x <;> exact⟨_,rfl⟩
    refine⟨by rw [Jv];omega,eD (λx=>x.isL && x.nm==nm && decide (x.d<=n)) De.enc (λx hx R S h=>?_) ?_⟩
    ·obtain⟨rx,ex⟩:=eq3 x;rw [ex];walk_at "a";rw [IC];cases hl2:x.isL with
     | false=>
      rw [Qk Kf];rw [hl2,Qk Qo] at h;exact h
     | true=>
      rw [Ql rfl];refine⟨cH.mpr (g.gx.nm x hx),cH.mpr nok,?_⟩;by_cases h1:(x.nm==nm)=true
      ·rw [Ql h1];by_cases h2:x.d<=n
       ·rw [Ql h2];rw [Ql (by rw [hl2,h1,decide_eq_true h2];rfl),ex] at h;exact h
       ·rw [Qk h2];rw [Qk (by rw [decide_eq_false h2];simp)] at h;exact h
      ·rw [Qk h1];rw [Qk (by intro z;simp only [Kn] at z;exact h1 z.1.2)] at h;exact h
    generalize hT:xs.filter (λx=>x.isL && x.nm==nm && decide (x.d<=n))=T;have mT:∀x,x∈T↔x∈xs/\x.isL=true/\x.nm=nm/\x.d<=n:=λx=>by
     rw [<-hT,Kq];simp only [Kn,beq_iff_eq,decide_eq_true_eq,and_assoc]
    have pT:T.Pairwise mZ:=by rw [<-hT];exact g.pw.sublist Mm
    have lT:T.length<=41:=by rw [<-hT];exact Km (KJ _ _) xl
    clear hT;refine⟨by rw [Jv];omega,eD (λ_=>true) (λx=>.int x.d) (λx hx R S h=>?_) ?_⟩
    ·obtain⟨rx,ex⟩:=eq3 x;rw [ex];walk_at "a";rw [Ql rfl] at h;exact h
    rw [tj];refine⟨by rw [Jv];omega,T.map (·.d)++[-1],by rw [JZ,Ku];rfl,Qo,λM hM hMx=>⟨by rw [Jv];omega,?_⟩⟩;refine eD (λx=>x.d==M && x.w==Jt "hold") (λx=>(nV x.rw).enc) (λx hx R S h=>?_) ?_
    ·obtain⟨x1,x2,x3,x4⟩:=(mT x).mp hx;cases x with
     | pap p=>cases x2
     | oth w d nm' r=>
      obtain rfl:nm'=nm:=x3;simp only [De.enc];walk_at "a";by_cases h1:(d==M)=true
      ·rw [Ql h1];by_cases h2:(w==Jt "hold")=true
       ·rw [Ql h2];obtain rfl:w=Jt "hold":=eq_of_beq h2;obtain⟨ip,tn,dp,rfl,_⟩:=g.ho _ _ _ x1;rw [Ql (by show(d==M && _)=true;rw [h1];rfl),oz rfl] at h;exact⟨_,cF,_,cX,h⟩
       ·rw [Qk h2];rw [Qk (by intro z;simp only [Kn] at z;exact h2 z.2)] at h;exact h
      ·rw [Qk h1];rw [Qk (by intro z;simp only [Kn] at z;exact h1 z.1)] at h;exact h
    have mE:∀x,x∈T.filter (λx=>x.d==M && x.w==Jt "hold")↔x∈T/\x.d=M/\x.w=Jt "hold":=λx=>by
     rw [Kq];simp only [Kn,beq_iff_eq]
    have pE:(T.filter λx=>x.d==M && x.w==Jt "hold").Pairwise mZ:=pT.sublist Mm;generalize T.filter (λx=>x.d==M && x.w==Jt "hold")=E at mE pE⊢;have oneE:E=[]\/∃x,E=[x]:=by
     cases E with
     | nil=>exact .inl rfl
     | cons a l=>
      cases l with
      | nil=>exact .inr ⟨a,rfl⟩
      | cons b l=>
       obtain⟨a1,a2,_⟩:=(mE a).mp Qo;obtain⟨b1,b2,_⟩:=(mE b).mp Qo;have a3:=(mT a).mp a1;have b3:=(mT b).mp b1;exact absurd ⟨by rw [a2,b2],by rw [a3.2.2.1,b3.2.2.1]⟩ ((KU.mp pE).1 b Qo a3.2.1 b3.2.1)
    have memE:∀h:Hd,h∈E.map (λx=>nV x.rw)↔vX xs n h/\h.nm=nm:=λh=>by
     constructor
     ·intro hh;obtain⟨x,hx,rfl⟩:=JE.mp hh;obtain⟨x1,x2,x3⟩:=(mE x).mp hx;obtain⟨y1,y2,y3,y4⟩:=(mT x).mp x1;cases x with
      | pap p=>cases y2
      | oth w d nm' r=>
       obtain rfl:w=Jt "hold":=x3;obtain rfl:nm'=nm:=y3;obtain rfl:d=M:=x2;obtain⟨ip,tn,dp,rfl,_⟩:=g.ho _ _ _ y1;rw [oz rfl];exact⟨⟨d,y4,y1,λz hz hl hn hd=>hMx z.d (Mh _ (JE.mpr ⟨z,(mT z).mpr ⟨hz,hl,hn,hd⟩,rfl⟩))⟩,rfl⟩
     ·rintro⟨⟨d,dn,hd,mx⟩,e⟩;have dT:De.oth (Jt "hold") d h.nm [cD h.ip h.tn,.bool h.dp]∈T:=(mT _).mpr ⟨hd,oA.mpr (.head _),e,dn⟩;have l1:d<=M:=hMx d (Mh _ (JE.mpr ⟨_,dT,rfl⟩));have l2:M<=d:=by
       rcases JI.mp hM with h' | h'
       ·obtain⟨z,hz,rfl⟩:=JE.mp h';obtain⟨z1,z2,z3,z4⟩:=(mT z).mp hz;exact mx z z1 z2 (z3.trans e.symm) z4
       ·rw [JJ.mp h'];have:0<=d:=g.d0 _ hd (oA.mpr (.head _));omega
      refine JE.mpr ⟨_,(mE _).mpr ⟨dT,Int.le_antisymm l1 l2,rfl⟩,?_⟩;rw [oz rfl];rfl
    have lE:E.length<=1:=by rcases oneE with e | ⟨x,e⟩ <;> rw [e] <;> simp
    have tk:N.take (i+1)=N.take i++[nm]:=by rw [K3,hz'];rfl
    have ahead:∀z∈N.take i,cn z nm=true/\z≠nm:=λz hz=>by
     have pw:=pwN;rw [<-Md i N] at pw;obtain⟨hi1,hi2⟩:=JH.mp hz';exact(Mj.mp pw).2.2 z hz nm (by rw [Mf hi1,hi2];simp)
    have iN:i < N.length:=(JH.mp hz').1;refine⟨by rw [Jv,Jv];omega,L++E.map (λx=>nV x.rw),Mj.mpr ⟨hp,?_,λa ha b hb=>?_⟩,λh=>?_,by rw [Kg,Jv];omega,by rw [JZ,Ku];rfl,_,rfl⟩
    ·rcases oneE with e | ⟨x,e⟩ <;> rw [e]
     ·exact .nil
     ·exact Nc _ _
    ·have:=ahead a.nm ((hm a).mp ha).2;rw [<-((memE b).mp hb).2] at this;exact this
    ·rw [JI,hm h,memE h,tk,JI,JJ];exact⟨λz=>z.elim (λz=>⟨z.1,.inl z.2⟩) λz=>⟨z.1,.inr z.2⟩,λz=>z.2.elim (λy=>.inl ⟨z.1,y⟩) λy=>.inr ⟨z.1,y⟩⟩
  ·rintro δ ⟨L,o3,o4,o5,hp,hm,hl,rfl⟩;walk_at "a";rw [Jv,J7 (Jy _)] at hm;refine q L ⟨hp,λh=>(hm h).trans ⟨λz=>z.1,λz=>⟨z,?_⟩⟩⟩;obtain⟨d,dn,hd,_⟩:=z;exact(hmem _).mpr ⟨_,hd,rfl,rfl⟩
def IF:List Qp->(Qp->Prop)->Prop:=λds Q=>∃(xs:List De)(c:Pp),ds=[.tuple (xs.map De.enc),.str c.nm]/\dP xs/\c∈aj xs/\Q (.list (((cf (aj xs) c).map (·.nm)).map .str))
theorem IG(T:Txt K mg t):aB P w K mg base aM 3 t.a_Y t.d_Y ["_law_deeds","_law_name"] (bb K IF):=by
 have G_U:=@HS P w _ _ base _ T;refine T.F_Y.F.okD sY (λds Q h=>?_) (λ_ _ _ _ H O ds Q E hr h=>?_)
 ·obtain⟨xs,c,rfl,_⟩:=h;rfl
 ·obtain⟨xs,c,rfl,g,hc,q⟩:=h;refine'⟨_,?A,?B⟩
  case A=>
   refine' au ?C ?D
   case C=>exact(nH (i:=2) sY.nd rfl Qm (bZ (ae (dv 1) ak)))
   case' D=>refine' au ?E ?F
   case E=>exact(bt (i:=3) sY.nd rfl Qm af)
   case' F=>refine' au ?G ?H
   case G=>
    refine' vp Kx ?I ?J
    case I=>exact(aR mP cP (dv 3) (PE.imp (bI iF rfl T.n_len Lu (nG (dw 2) br)) (bL mQ)) (aI _))
    case' J=>refine' au ?K ?L
    case K=>exact(sE (i:=2) (pv 2) (dJ rfl Bt (df (ba G_U hr T.F_U (ae (dv 0) (ae (gm aL aO (dw 2) (df (dv 3))) ak)))) aJ bY Qi (λ_ _ _ _=>(aH (i:=0) Bt.nd rfl Qm)) (λ_ _ _ _=>(dU (rJ (uW hr) om (df (dv 0)) (dw 1) rfl))) (λ_ _ _ _=>(dv 0))))
    case' L=>refine' aw ?M
    case M=>exact(bt (i:=3) sY.nd rfl Qm (av cu bT (dv 3) af))
   case' H=>refine' aw ?N
   case N=>exact(qh (pv 2))
  case B=>
  clear hr T G_U;have nd:=g.gp.nd;have pl:=g.gp.ln;walk_at "a";refine⟨λm δ=>∃(l:List Pp)(i f:Nat),nX (aj xs) c l/\i<=l.length/\m+i=(aj xs).length/\(aj xs).length<=f+i/\dh (aj xs) f l i=cf (aj xs) c/\δ=[some (Sl.v (.tuple (xs.map De.enc))),some (Sl.v (.str c.nm)),some (Sl.o ((l.map (·.nm)).map .str)),some (Sl.v (.int (i:Int)))],⟨(aj xs).length,[c],0,(aj xs).length,⟨Qo,by simpa using hc,[],rfl⟩,KI _,Qj,Qj,rfl,rfl⟩,?_⟩;rintro m δ ⟨l,i,f,hl,hi,hm,hf,ef,rfl⟩;have ll:=pN hl.nd hl.sb;walk_at "a";rw [Jv,Jv];by_cases hlt:i < l.length
  ·rw [Ql Qj];have hc':l[i]?=some l[i]:=JN hlt;have ho:=hl.next nd l[i];have lo:=pN ho.nd ho.sb;rw [Kg] at lo;refine⟨_,eJ (j:=i) (by rw [JD,JD,hc'];rfl),xs,l[i],rfl,g,hl.sb _ (KY hlt),_,rfl,by rw [Jv,Jv];have:=AZ (c:=l[i]) g.gp;omega,?_⟩;refine eD (enc:=JA) (λz=>!(l.map (·.nm)).contains z) JA (λz hz R S h=>?_) ?_
   ·walk_at "a";obtain⟨p,hp,rfl⟩:=JE.mp hz;refine⟨cH.mpr (g.gp.nm p (tD hp)),vT λz hz=>?_,?_⟩
    ·obtain⟨p,hp,rfl⟩:=JE.mp hz;exact g.gp.nm p (hl.sb p hp)
    ·rw [vS];simpa using h
   ·have e:(((fj (aj xs) l[i]).map (·.nm)).filter λz=>!(l.map (·.nm)).contains z)=(nv (aj xs) l l[i]).map (·.nm):=by
     unfold nv;rw [Pw];congr 1;refine List.filter_congr λp hp=>?_;show(!(l.map (·.nm)).contains p.nm)=!oB l p;congr 1;refine Od.mpr ?_;rw [Bj,List.contains_iff_mem,JE];exact⟨λuu51=>by obtain⟨p',h1,h2⟩:=uu51;exact ti nd (hl.sb p' h1) (tD hp) h2▸h1,λh=>⟨p,h,rfl⟩⟩
    rw [e];cases f with
    | zero=>omega
    | succ f=>
     rw [dh,hc'] at ef;refine⟨by rw [Jv,Jv];omega,m - 1,Qj,_,ho,i+1,by rw [Kg];omega,Qj,f,Qj,ef,by rw [JZ,JZ],Qj⟩
  ·rw [Qk Qj];rw [<-ef,Bk Qj] at q;exact q
theorem IH{g:DG}{tb:DS}{E:ni}{xs:List Qp}{δf:Int->Dl}{C D p q X:Prop} [Decidable C] [Decidable D]{d1 d2 d3:Int}(hp:p)(hq:q)(hX:X)(key:∀dg,fQ g tb E xs (δf dg)):
 if C then p/\q/\fQ g tb E xs (δf d1) else X/\if D then p/\q/\fQ g tb E xs (δf d2) else p/\q/\fQ g tb E xs (δf d3):=by
 split
 ·exact⟨hp,hq,key _⟩
 ·refine⟨hX,?_⟩;split
  ·exact⟨hp,hq,key _⟩
  ·exact⟨hp,hq,key _⟩
def Bu:List Qp->(Qp->Prop)->Prop:=λds Q=>∃(ns:List Int)(k:Int),ds=[cN (ns.map .int),.int k]/\0<=k/\k<=1000/\∀c:Int,Q (.int c)
theorem II(T:Txt K mg t):aB P w K mg base aM 1 t.a_K t.d_K ["_law_script","_law_k"] (bb K Bu):=by
 refine T.F_K.F.okD sX (λds Q h=>?_) (λ_ _ _ _ H O ds Q E hr h=>?_)
 ·obtain⟨ns,k,rfl,_⟩:=h;rfl
 ·obtain⟨ns,k,rfl,k0,k1,q⟩:=h;refine'⟨_,?A,?B⟩
  case A=>
   refine' au ?C ?D
   case C=>
    refine' bN ?E ?F bM
    case E=>exact(aR mP cP (dv 1) (PE.imp (bI iF rfl T.n_len Lu (bE (dv 0) br)) (bL Eb)) (aI _))
    case' F=>refine' aw ?G
    case G=>exact(aX (aq aL Fw (dv 0) (dv 1)))
   case' D=>refine' au ?H ?I
   case H=>
    refine' bt (i:=2) sX.nd rfl Qm ?J (hs:=mV)
    case J=>exact(av bq aK (av nz aK af (av cu bT (av cu bT (av nz aK (dv 1) (dv 1)) (av nz aK af (dv 1))) af)) af)
   case' I=>refine' au ?K ?L
   case K=>
    refine' rP Kx rfl (fe (Fx (df (dv 0)) eU (cm af))) ?M aJ ?N
    case M=>exact(aH (i:=3) sX.nd rfl Qm)
    case' N=>refine' aw ?O
    case' O=>refine' bt (i:=2) sX.nd rfl Qm ?P (hs:=mV)
    case P=>exact(av bq aK (av cu bT (av nz aK (dv 2) af) (dv 3)) af)
   case' L=>refine' aw ?Q
   case Q=>exact(aX (dv 2))
  case B=>
  clear hr T;walk_at "a";refine⟨_,rfl,?_⟩;rw [Jv];split
  ·rename_i hlt;obtain⟨j,rfl⟩:=Ky k0;have hj:j < ns.length:=Qj
   exact⟨_,rfl,.int ns[j],eJ (by simp [hj]),q _⟩
  ·refine⟨.inl ⟨Qj,Qj⟩,_,rfl,λi δ=>∃(st:Int)(o:Option Sl),δ=[some (Sl.v (cN (ns.map .int))),some (Sl.v (.int k)),some (Sl.v (.int st)),o],⟨_,_,rfl⟩,?_,?_⟩
   ·rintro i x δ hx ⟨st,o,rfl⟩;have hm:=JQ hx;unfold bf at hm;have hm2:=Nx (Ll hm);obtain⟨c,_,rfl⟩:=JE.mp hm2;walk_at "a"
    first | exact⟨_,_,rfl,rfl⟩ | exact⟨⟨_,rfl⟩,⟨_,rfl⟩⟩ | exact⟨_,_,rfl⟩ | exact⟨_,rfl⟩
   ·rintro δ ⟨st,o,rfl⟩;walk_at "a";exact q _
def Bv:List Qp->(Qp->Prop)->Prop:=λds Q=>∃c m:Int,ds=[.int c,.int m]/\0<=m/\m<=64/\∀ns:List Int,(ns.length:Int)=m->(∀z∈ns,0<=z/\z < 2000000000)->Q (.list (ns.map .int))
theorem IJ(T:Txt K mg t):aB P w K mg base aM 1 t.a_L t.d_L ["_law_cell_here","_law_many"] (bb K Bv):=by
 refine T.F_L.F.okD nQ (λds Q h=>?_) (λ_ _ _ _ H O ds Q E hr h=>?_)
 ·obtain⟨c,m,rfl,_⟩:=h;rfl
 ·obtain⟨c,m,rfl,m0,m1,q⟩:=h;refine'⟨_,?A,?B⟩
  case A=>
   refine' au ?C ?D
   case C=>exact(nH (i:=2) nQ.nd rfl Qm (bZ ak))
   case' D=>refine' au ?E ?F
   case E=>
    refine' bt (i:=3) nQ.nd rfl Qm ?G (hs:=mV)
    case G=>exact(av bq aK (av nz aK (av cu bT (av bq aK (dv 0) af) af) af) af)
   case' F=>refine' au ?H ?I
   case H=>exact(bt (i:=4) nQ.nd rfl Qm af)
   case' I=>refine' au ?J ?K
   case J=>
    refine' bN ?L ?M bM
    case L=>exact(PW.pt (rL (aR mP cP (dv 0) af (aI _)) (rK (aR Cq cP (dv 0) (av wB aK af af) (aI _)))))
    case' M=>refine' aw ?N
    case N=>exact(bt (i:=4) nQ.nd rfl Qm (PE.imp (bI Ct rfl T.n_abs PyProof.Rows.boot_abs (bE (dv 0) br)) (bL Fv)))
   case' K=>refine' au ?O ?P
   case O=>
    refine' uO Kx rfl rfl T.n_range (ae (dv 1) ak) ?Q aJ ?R
    case Q=>exact(aH (i:=5) nQ.nd rfl Qm)
    case' R=>refine' au ?S ?T
    case S=>
     generalize hG15:Px _ _ _ _=eg15;refine' bt (i:=3) nQ.nd rfl Qm ?U (hs:=by subst hG15;exact mV)
     case' U=>subst hG15
     exact(av bq aK (av cu bT (av cu bT (av nz aK (dv 3) (av cu bT (av bq aK (dv 3) af) af)) (av nz aK af (dv 5))) af) af)
    case' T=>refine' au ?V ?W
    case V=>
     refine' qi (i:=2) (pv 2) ?X
     case' X=>refine' gm aL aO (df ?Y) ?Z
     case Y=>exact(fe (bZ (ae (dv 3) (ae (av bq aK (dv 4) af) ak))))
     case Z=>exact(df (PE.imp (nc wF rfl T.n_int rC (bE (cT qZ cP (df (dv 4)) (df af) (aI _)) br)) (bL xG)))
    case' W=>refine' aw ?a
    case a=>exact(bt (i:=4) nQ.nd rfl Qm (av qY aK (dv 4) af))
   case' P=>refine' aw ?b
   case b=>exact(qh (pv 2))
  case B=>
  clear hr T;walk_at "a";have aN:0<=(c % 1999999871+53)*598371041 % 1999999871/\(c % 1999999871+53)*598371041 % 1999999871 < 1999999871:=⟨LP _ Qi,LW _ Qi⟩;generalize (c % 1999999871+53)*598371041 % 1999999871=st at*;have b1:-4611686018427387904<=m:=Qj
  have b2:m < 4611686018427387904:=Qj
  refine IH (δf:=λdg=>[some (Sl.v (.int c)),some (Sl.v (.int m)),some (Sl.o []),some (Sl.v (.int st)),some (Sl.v (.int dg)),none]) b1 b2 Qi ?c
  case c=>
   intro dg;refine⟨λi δ=>∃(ns:List Int)(st dg:Int)(o:Option Sl),ns.length=i/\(∀z∈ns,0<=z/\z < 2000000000)/\0<=st/\st < 1999999871/\δ=[some (Sl.v (.int c)),some (Sl.v (.int m)),some (Sl.o (ns.map .int)),some (Sl.v (.int st)),some (Sl.v (.int dg)),o],⟨[],st,dg,none,rfl,Qo,aN.1,aN.2,rfl⟩,?_,?_⟩
   ·rintro i x δ hx ⟨ns,st,dg,o,hl,hn,s0,s1,rfl⟩;obtain⟨hi,rfl⟩:=oh hx;clear aN;walk_at "a";have n0:0<=(st*(st % 63443+41201)+13*(0+(i:Int))+7)% 1999999871:=LP _ Qi;have n1:(st*(st % 63443+41201)+13*(0+(i:Int))+7)% 1999999871 < 1999999871:=LW _ Qi;generalize (st*(st % 63443+41201)+13*(0+(i:Int))+7)% 1999999871=nx at*;have d0:0<=dg % 1000000:=LP _ Qi;have d1:dg % 1000000 < 1000000:=LW _ Qi;obtain⟨z,hz,z0,z1⟩:∃z:Int,atI [JM nx,JM (dg % 1000000)] (if 0 < dg then 1 else 0)=some (.int z)/\0<=z/\z < 2000000000:=by
     split
     ·exact⟨_,cy,d0,Qj⟩
     ·exact⟨_,cx,n0,Qj⟩
    refine⟨.inl ⟨Qj,Qj⟩,.int z,hz,by rw [Jv];omega,ns++[z],by simp [hl],λy hy=>?_,nx,n0,n1,Qo,rfl,_,rfl⟩;rcases JI.mp hy with h | h
    ·exact hn y h
    ·rw [JJ] at h;rw [h];exact⟨z0,z1⟩
   ·rintro δ ⟨ns,st,dg,o,hl,hn,s0,s1,rfl⟩;walk_at "a";have hm:(ns.length:Int)=m:=by rw [hl];unfold fK;simp;omega
    exact q ns hm hn
end
theorem Bw:aU (ax sO) ["_law_xs","_law_many","_law_letters","_law_stem","_law_size","_law_at","_law_some","_law_k","_law_two"] ["_law_k","_law_letters","_law_stem","_law_xs"] 1 [2,3,0] ⟨JO,[ (Jw ".0",Sa),(Jw "_law_k",Sa),(Jw "_law_letters",JP),(Jw "_law_stem",JP),(Jw "_law_xs",JP)],false,false,[]⟩:= .of
section
variable {P:QA} {w:QE} {K:Ju} {mg:Str->Option Qr} {base:QB} {t:er}
def IL:List Qp->(Qp->Prop)->Prop:=λds Q=>∃(a b c d e:Int)(r:List Qp)(m:Int),ds=[.list (.int a:: .int b:: .int c:: .int d:: .int e::r),.int m]/\0<=m/\m<=50/\∀ss:List Str,(ss.length:Int)=m->(∀z∈ss,Nm z)->ss.Nodup->Q (.list (ss.map .str))
theorem qN{c:Nat}{n:Int}(h0:0<=n):(Mc ⟨#[c]⟩ n).cps.toList=JU n.toNat c:=by
 have key:∀(k:Nat)(a:Array Nat),((JU k #[c]).foldl (·++·) a).toList=a.toList++JU k c:=by
  intro k
  induction k with
  | zero=>intro a;simp
  | succ k ih=>intro a;rw [OI,L6,ih];simp [OI]
 unfold Mc;split
 ·rw [show n.toNat=0 by omega];rfl
 ·split
  ·rename_i h;have:n=1:=by
    rw [show(⟨#[c]⟩:Str).length=1 from rfl] at h;simpa using h
   subst this;rfl
  ·show((JU n.toNat #[c]).foldl (·++·) #[]).toList=_;rw [key];rfl
theorem mul_one{c:Nat}(hc:c < 0x110000){n:Int}(h0:0<=n)(h1:n<=50):PySem.MulOk ⟨#[c]⟩ n/\EL n.toNat (Mc ⟨#[c]⟩ n):=by
 have lc:(⟨#[c]⟩:Str).length=1:=rfl;constructor
 ·refine⟨by simp;omega,λa b=>?_,λa b=>?_⟩
  ·rw [lc];have:(2 ^ 63 - 1:Int)/ n >= 1:=by rw [ge_iff_le,Int.le_ediv_iff_mul_le Qj];omega
   omega
  ·rw [lc];obtain⟨k,rfl⟩:=Ky h0;rw [Nat.one_mul];unfold PySem.Builtin.Str.tooLong;simp;have:Qz=16777216:=by first | rfl | decide | exact QK
   omega
 ·have l:=qN (c:=c) h0;refine⟨xT.mpr λd hd=>?_,?_⟩
  ·rw [l] at hd;rw [(NL.mp hd).2];exact hc
  ·show(Mc ⟨#[c]⟩ n).cps.size<=_;rw [<-JL,l,Mz];exact Jy _
theorem IM{p x y A B C:Prop}{_:Decidable p}{_:Decidable x}{_:Decidable y}(hA:p->A)(hB:p->B)(hC:C):if p then(if x then A else if p then(if y then B else C) else C) else(if p then(if y then B else C) else C):=by
 by_cases hp:p
 ·rw [Ql hp,Ql hp];split
  ·exact hA hp
  ·split
   ·exact hB hp
   ·exact hC
 ·rw [Qk hp,Qk hp];exact hC
def pO:List Str:=["coming","paper","kind","first","rule","last","hold","end"]
theorem IP:∀z∈pO,Nm z:=by
 intro z hz;have a:pO.all (λz=>decide (1<=z.length) && decide (z.length<=8) && z.cps.toList.all λc=>decide (c∈dM.cps.toList))=true:=Qh
 have:=Mo.mp a z hz;simp only [Kn,decide_eq_true_eq,Mo] at this;exact⟨this.1.1,this.1.2,this.2⟩
theorem IQ:pO.Nodup:=Qh
theorem Bx{c:Nat}{n:Int}(h0:0<=n):(Mc ⟨#[c]⟩ n).length=n.toNat:=by
 show(Mc ⟨#[c]⟩ n).cps.size=_;rw [<-JL,qN h0,Mz]
theorem tE{j:Int}(h0:0<=j)(h1:j < 26):(gF j:Int)=97+j:=by
 have:∀k:Nat,k < 26->gF (k:Int)=97+k:=Qh
 obtain⟨k,rfl⟩:=Ky h0;rw [this k Qj];omega
theorem By{j:Int}(h0:0<=j)(h1:j < 26):gF j∈dM.cps.toList:=by
 obtain⟨c,_,hc,_⟩:=rY h0 h1;unfold gF;rw [hc];exact JQ hc
def oC(x:Nat)(a r d e k:Int):Str:=Mc ⟨#[x]⟩ a++(⟨#[gF ((d+3*(0+k))% 26)]⟩++⟨#[gF ((e+(0+k)/ 26)% 26)]⟩)++Mc ⟨#[x]⟩ r
theorem IS{x:Nat}{a r d e k k':Int}(h0:0<=k)(h1:k < 50)(h2:0<=k')(h3:k' < 50)(h:oC x a r d e k=oC x a r d e k'):k=k':=by
 have h:=congrArg (λz:Str=>z.cps.toList) h;unfold oC at h;simp only [uT,MM] at h;have h:=List.append_cancel_left (List.append_cancel_right h);simp at h;have e1:=tE (j:=(d+3*(0+k))% 26) Qj Qj;have e2:=tE (j:=(d+3*(0+k'))% 26) Qj Qj;have e3:=tE (j:=(e+(0+k)/ 26)% 26) Qj Qj;have e4:=tE (j:=(e+(0+k')/ 26)% 26) Qj Qj;simp only [PY] at e1 e2 e3 e4;rw [h.1] at e1;rw [h.2] at e3;have f1:(d+3*k)% 26=(d+3*k')% 26:=Qj
 have f2:(e+k / 26)% 26=(e+k' / 26)% 26:=Qj
 clear e1 e2 e3 e4 h;omega
theorem IT{x:Nat}{a r d e k:Int}(hx:x∈dM.cps.toList)(ha:0<=a)(hr:0<=r)(h8:a+r+2<=8):Nm (oC x a r d e k):=by
 refine Nm.of (l:=JU a.toNat x++([gF ((d+3*(0+k))% 26)]++[gF ((e+(0+k)/ 26)% 26)])++JU r.toNat x) ?_ ?_ ?_ λc hc=>?_
 ·unfold oC;simp only [uT,MM,qN ha,qN hr]
 ·simp;omega
 ·simp;omega
 ·simp only [JI,NL,JJ] at hc;rcases hc with(⟨_,h⟩ | h | h) | ⟨_,h⟩
  ·rw [h];exact hx
  ·rw [h];exact By Qj Qj
  ·rw [h];exact By Qj Qj
  ·rw [h];exact hx
theorem IU{x y:Nat}{i:Int}(hx:x∈dM.cps.toList)(hy:y∈dM.cps.toList)(h0:0<=i)(h7:i<=7):Nm (⟨#[y]⟩++Mc ⟨#[x]⟩ i):=by
 refine Nm.of (l:=y::JU i.toNat x) (by rw [uT,MM,qN h0];rfl) Qo (by simp;omega) λc hc=>?_;rcases JF.mp hc with e | e
 ·rw [e];exact hy
 ·rw [(NL.mp e).2];exact hx
def m4(x:Nat)(a r d e:Int)(i:Nat):List Str:=(KQ i).map λk:Nat=>oC x a r d e (k:Int)
theorem IV{x:Nat}{a r d e:Int}{i:Nat}(hi:i<=50):(m4 x a r d e i).Nodup:=by
 unfold m4;rw [Ox,La];refine PZ (λ{k k'} hk hk' h z=>?_) Pf;rw [Mn] at hk hk';have:=IS Qj Qj Qj Qj z;exact h Qj
theorem Bz{x:Nat}{a r d e:Int}{i:Nat}:m4 x a r d e (i+1)=m4 x a r d e i++[oC x a r d e i]:=by
 unfold m4;rw [Pq,JZ];rfl
theorem IW(T:Txt K mg t):aB P w K mg base aM 1 t.a_M t.d_M ["_law_xs","_law_many"] (bb K IL):=by
 refine T.F_M.F.okD nR (λds Q h=>?_) (λ_ _ _ _ H O ds Q E hr h=>?_)
 ·obtain⟨a,b,c,d,e,r,m,rfl,_⟩:=h;rfl
 ·obtain⟨a,b,c,d,e,r,m,rfl,m0,m1,q⟩:=h;refine'⟨_,?A,?B⟩
  case A=>
   refine' au ?C ?D
   case C=>exact(bt (i:=2) nR.nd rfl Qm aZ)
   case' D=>refine' au ?E ?F
   case E=>
    refine' bt (i:=3) nR.nd rfl Qm ?G (hs:=uZ)
    case G=>exact(aq ro rT (dv 2) (av bq aK (aq aL aO (dv 0) af) af))
   case' F=>refine' au ?H ?I
   case H=>
    refine' bN ?J ?K bM
    case J=>exact(PW.pt (dY (aR mP cP (dv 1) af (aI _)) (eL (aR (cA hr.units) cB (av bq aK (aq aL aO (dv 0) af) af) af (aI _)))))
    case' K=>refine' aw ?L
    case' L=>refine' aX ?M
    case' M=>refine' fe ?N
    case N=>exact(xC rfl Bw rfl T.n_range (bE (dv 1) br) aJ bY Qi (λ_ _ _ _=>(aH (i:=0) Bw.nd rfl Qm)) (λ_ _ _ _=>mR) (λ_ _ _ _=>(av rg rS (aq ro rT (dv 1) (av bq aK (aq aL aO (dv 3) af) af)) (av va vb (dv 2) (dv 0)))))
   case' I=>refine' au ?O ?P
   case O=>
    refine' bN ?Q ?R bM
    case Q=>exact(PW.pt (dY (aR mP cP (dv 1) af (aI _)) (eL (aR (cA hr.units) cB (av bq aK (aq aL aO (dv 0) af) af) af (aI _)))))
    case' R=>refine' aw ?S
    case' S=>generalize hE15_0:Qf _ _=ee15_0
    exact(aX (fe (gj (df (fe (EK (ds:=[.str "coming",.str "paper",.str "kind",.str "first",.str "rule",.str "last",.str "hold",.str "end"]) (by first | (subst hE15_0;rfl))))) eU (cm (dv 1)))))
   case' P=>refine' au ?T ?U
   case T=>
    refine' bt (i:=4) nR.nd rfl Qm ?V (hs:=mV)
    case V=>exact(av cu bT af (av bq aK (av qY aK (aq aL aO (dv 0) af) af) af))
   case' U=>refine' au ?W ?X
   case W=>
    refine' bt (i:=5) nR.nd rfl Qm ?Y (hs:=mV)
    case Y=>exact(av bq aK (aq aL aO (dv 0) af) (av p6 bT (dv 4) af))
   case' X=>refine' au ?Z ?a
   case Z=>exact(nH (i:=6) nR.nd rfl Qm (bZ ak))
   case' a=>refine' au ?b ?c
   case b=>
    refine' uO Kx rfl rfl T.n_range (ae (dv 1) ak) ?d aJ ?e
    case d=>exact(aH (i:=7) nR.nd rfl Qm)
    case' e=>refine' au ?f ?g
    case f=>
     generalize hG27:Px _ _ _ _=eg27;refine' bt (i:=8) nR.nd rfl Qm ?h (hs:=by subst hG27;exact mV)
     case' h=>subst hG27
     exact(av rg rS (aq ro rT (dv 2) (av bq aK (av cu bT (aq aL aO (dv 0) af) (av nz aK af (dv 7))) af)) (aq ro rT (dv 2) (av bq aK (av cu bT (aq aL aO (dv 0) af) (av qY aK (dv 7) af)) af)))
    case' g=>refine' aw ?i
    case' i=>refine' qi (i:=6) (pv 6) ?j
    case j=>exact(av rg rS (av rg rS (av va vb (dv 3) (dv 5)) (dv 8)) (av va vb (dv 3) (av p6 bT (av p6 bT (dv 4) af) (dv 5))))
   case' c=>refine' aw ?k
   case k=>exact(qh (pv 6))
  case B=>
  clear hr T;simp only [cx,cy,cW,cF,cX,↓lA,↓lF,↓lG,↓lH,↓lI,↓lJ,↓lK,↓lB,↓gO,↓kH,↓mw,↓mz,↓mB,↓mC,↓mD,↓mF,↓kI,↓kJ,↓kK,↓kL,↓kM,↓kN,↓kO,↓kP,↓kT,↓kU,↓kW,↓kX,↓kY,↓kZ,↓k6,↓k7,↓k8,↓k9,↓lg,↓lh,↓lq,↓lr,↓lu,↓lz,dF,fG,eM,fH,fI,iO,dG,eQ,fJ,fO,fP,iT,fv,dC,bK,dI,fW,fX,fY,iZ,fZ,cV,gB,gA,iX,gc,dL,eO,fx,iJ,dX,cS,ck,fy,fz,fA,fB,fC,fD,fE,iK,dE,iL,jD,jF,jG,jH,jI,jJ,jK,jL,jM,jN,jO,jP,jQ,jR,jS,jT,jU,jV,jW,jX,jY,jZ,j0,j1,j2,j3,j4,j5,j6,j7,j8,j9,kc,ke,kh,ki,kj,km,ko,kq,kr,ku,kz,jE,gi,iY,i1,eY,i8,i4,gf,gh,gr,gs,gu,gy,gz,eV,i2,gC,i3,cU,iU,iV,iW,fS,iP,iQ,iR,fT,fU,fV,iS,gH,gJ,gK,jB,gL,jA,jC,gG,jc,jd,je,cY,gI,jf,ja,jb,kA,kC,kD,kF,gM,gN,kG,gR,gQ,gS,gT,gU,lC,gW,gX,lM,g8,gZ,g6,gY,lP,hJ,hU,hV,hW,eh,hG,fh,ic,hZ,ia,ib,ie,lR,ig,lU,lV,lW,lY,lZ,l3,l4,l5,l6,lX,l7,l8,l9,ma,iw,il,iq,iu,iy,me,mh,mi,mf,mm,dO,ij,mn,mq,mr,mj,mv,jg,jq,jr,jt,ju,jv,jw,jx,jy,jz,ne_eq,jk,jl,jm,jn,jo,jh,ji,jj,eR,d5,eT,dZ,fN,fM,fL,cw,cC,bC,dj,dQ,cR,JB,Kk,JS,Kr,JU,KD,KC,J5,Lh,Li,Lz,LA,LB,Ki,J6,KN,KG,KH,KO,exists_eq_left',exists_eq_left,exists_and_left,exists_and_right,KZ,K0,Sl.v.injEq,Sl.o.injEq,Sl.k.injEq,KL,Lb,K5,K2,Lc,Kd,and_true,true_and,LC,Lm,exists_const,decide_eq_true_eq,LD,LG,Lq,Lr,Ko,decide_eq_false_iff_not,and_assoc,or_true,true_or,↓reduceIte,if_true,if_false,Kh,KW,not_true_eq_false,not_false_eq_true,LH,Lv,ite_true,ite_false,eq_self,exists_eq,reduceCtorEq,false_and,and_false,or_false,false_or,exists_false,Lw,Lx,cO,LY,L8,Kz,L9,LZ,Lf,Ly,Lo,cx,cy,cW,cF,cX,cG,eX,gE,beq_self_eq_true,i5,i6,i7,bJ,QK];obtain⟨x,e1,xm,x1⟩:=rY (j:=a % 26) Qj Qj
  refine⟨Qh,x,e1,?_⟩;refine IM (λhm=>?_) (λhm=>?_) ?_
  ·refine⟨Qj,by have:(16777216:Nat)=(16777216:Int):=rfl;omega,?_⟩;refine⟨λi acc=>∃ys:List Str,acc=ys.map .str/\ys.length=i/\(∀y∈ys,Nm y)/\(∀y∈ys,y.length<=i)/\ys.Nodup,⟨[],rfl,rfl,Qo,Qo,Qo⟩,?_,?_⟩
   ·rintro i z acc hz ⟨ys,rfl,hl,hg,hs,hnd⟩;obtain⟨hi,rfl⟩:=oh hz;simp only [cx,cy,cW,cF,cX,↓lA,↓lF,↓lG,↓lH,↓lI,↓lJ,↓lK,↓lB,↓gO,↓kH,↓mw,↓mz,↓mB,↓mC,↓mD,↓mF,↓kI,↓kJ,↓kK,↓kL,↓kM,↓kN,↓kO,↓kP,↓kT,↓kU,↓kW,↓kX,↓kY,↓kZ,↓k6,↓k7,↓k8,↓k9,↓lg,↓lh,↓lq,↓lr,↓lu,↓lz,dF,fG,eM,fH,fI,iO,dG,eQ,fJ,fO,fP,iT,fv,dC,bK,dI,fW,fX,fY,iZ,fZ,cV,gB,gA,iX,gc,dL,eO,fx,iJ,dX,cS,ck,fy,fz,fA,fB,fC,fD,fE,iK,dE,iL,jD,jF,jG,jH,jI,jJ,jK,jL,jM,jN,jO,jP,jQ,jR,jS,jT,jU,jV,jW,jX,jY,jZ,j0,j1,j2,j3,j4,j5,j6,j7,j8,j9,kc,ke,kh,ki,kj,km,ko,kq,kr,ku,kz,jE,gi,iY,i1,eY,i8,i4,gf,gh,gr,gs,gu,gy,gz,eV,i2,gC,i3,cU,iU,iV,iW,fS,iP,iQ,iR,fT,fU,fV,iS,gH,gJ,gK,jB,gL,jA,jC,gG,jc,jd,je,cY,gI,jf,ja,jb,kA,kC,kD,kF,gM,gN,kG,gR,gQ,gS,gT,gU,lC,gW,gX,lM,g8,gZ,g6,gY,lP,hJ,hU,hV,hW,eh,hG,fh,ic,hZ,ia,ib,ie,lR,ig,lU,lV,lW,lY,lZ,l3,l4,l5,l6,lX,l7,l8,l9,ma,iw,il,iq,iu,iy,me,mh,mi,mf,mm,dO,ij,mn,mq,mr,mj,mv,jg,jq,jr,jt,ju,jv,jw,jx,jy,jz,ne_eq,jk,jl,jm,jn,jo,jh,ji,jj,eR,d5,eT,dZ,fN,fM,fL,cw,cC,bC,dj,dQ,cR,JB,Kk,JS,Kr,JU,KD,KC,J5,Lh,Li,Lz,LA,LB,Ki,J6,KN,KG,KH,KO,exists_eq_left',exists_eq_left,exists_and_left,exists_and_right,KZ,K0,Sl.v.injEq,Sl.o.injEq,Sl.k.injEq,KL,Lb,K5,K2,Lc,Kd,and_true,true_and,LC,Lm,exists_const,decide_eq_true_eq,LD,LG,Lq,Lr,Ko,decide_eq_false_iff_not,and_assoc,or_true,true_or,↓reduceIte,if_true,if_false,Kh,KW,not_true_eq_false,not_false_eq_true,LH,Lv,ite_true,ite_false,eq_self,exists_eq,reduceCtorEq,false_and,and_false,or_false,false_or,exists_false,Lw,Lx,cO,LY,L8,Kz,L9,LZ,Lf,Ly,Lo,cx,cy,cW,cF,cX,cG,eX,gE,beq_self_eq_true,i5,i6,i7,bJ,QK]
    obtain⟨y,g1,ym,y1⟩:=rY (j:=c % 26) Qj Qj;obtain⟨mo,mg⟩:=mul_one x1 (n:=0+(i:Int)) Qj Qj;have ml:=mg.le;have lc:(⟨#[y]⟩:Str).length=1:=rfl;have lm:m.toNat < 9:=Qj
    refine⟨Qh,y,g1,mo,by rw [lc];omega,ys++[⟨#[y]⟩++Mc ⟨#[x]⟩ (0+(i:Int))],by rw [JZ];rfl,by simp [hl],λz hz=>?_,λz hz=>?_,?_⟩
    ·rcases JI.mp hz with h | h
     ·exact hg z h
     ·rw [JJ] at h;rw [h];exact IU (JQ xm) (JQ ym) Qj Qj
    ·rcases JI.mp hz with h | h
     ·exact Nat.le_succ_of_le (hs z h)
     ·rw [JJ] at h;rw [h,qt,lc,Bx Qj];omega
    ·rw [MQ];refine⟨hnd,Qo,λa ha b hb e=>?_⟩;rw [JJ] at hb;have l1:=hs a ha;rw [e,hb,qt,lc,Bx Qj] at l1;omega
   ·rintro acc ⟨ys,rfl,hl,hg,hs,hnd⟩;rw [qo] at hl;exact q ys Qj hg hnd
  ·obtain⟨k,rfl⟩:=Ky m0;rw [nq Qj (by simp;omega)];rw [show ∀l:List Qp,l.take ((k:Int)).toNat=l.take k from λl=>by simp];have ew:=(Ml (f:=JA) (l:=pO) (i:=k)).symm;refine Eq.mp (congrArg (λz=>Q (Kl z)) ew.symm) ?_;refine q (pO.take k) ?_ (λz hz=>IP z (Ll hz)) (IQ.sublist (NS _ _));rw [Kw,show pO.length=8 from rfl];omega
  ·refine⟨Qj,Qj,Qj,?_⟩;generalize hsz:2+b / 4 % 7=sz;have s0:2<=sz:=Qj
   have s1:sz<=8:=Qj
   generalize hat:c % (sz - 1)=at0;have a0:0<=at0:=by rw [<-hat];exact LP _ Qj
   have a1:at0 < sz - 1:=by rw [<-hat];exact LW _ Qj
   obtain⟨mo,gg⟩:=mul_one x1 a0 Qj;obtain⟨mo2,gg2⟩:=mul_one x1 (n:=sz - 2 - at0) Qj Qj;clear hsz hat;refine⟨λi δ=>∃(o7 o8:Option Sl),(∀z∈m4 x at0 (sz - 2 - at0) d e i,Nm z)/\δ=[some (Sl.v (Kl (JM a::JM b::JM c::JM d::JM e::r))),
    some (Sl.v (JM m)),some (Sl.v (JA (Jt "abcdefghijklmnopqrstuvwxyz"))),some (Sl.v (JA {cps:=#[x]})),some (Sl.v (JM sz)),
    some (Sl.v (JM at0)),some (Sl.o ((m4 x at0 (sz - 2 - at0) d e i).map .str)),o7,o8],⟨_,_,by simp [m4],rfl⟩,?_,?_⟩
   ·rintro i z δ hz ⟨o7,o8,hg,rfl⟩;obtain⟨hi,rfl⟩:=oh hz;simp only [cx,cy,cW,cF,cX,↓lA,↓lF,↓lG,↓lH,↓lI,↓lJ,↓lK,↓lB,↓gO,↓kH,↓mw,↓mz,↓mB,↓mC,↓mD,↓mF,↓kI,↓kJ,↓kK,↓kL,↓kM,↓kN,↓kO,↓kP,↓kT,↓kU,↓kW,↓kX,↓kY,↓kZ,↓k6,↓k7,↓k8,↓k9,↓lg,↓lh,↓lq,↓lr,↓lu,↓lz,dF,fG,eM,fH,fI,iO,dG,eQ,fJ,fO,fP,iT,fv,dC,bK,dI,fW,fX,fY,iZ,fZ,cV,gB,gA,iX,gc,dL,eO,fx,iJ,dX,cS,ck,fy,fz,fA,fB,fC,fD,fE,iK,dE,iL,jD,jF,jG,jH,jI,jJ,jK,jL,jM,jN,jO,jP,jQ,jR,jS,jT,jU,jV,jW,jX,jY,jZ,j0,j1,j2,j3,j4,j5,j6,j7,j8,j9,kc,ke,kh,ki,kj,km,ko,kq,kr,ku,kz,jE,gi,iY,i1,eY,i8,i4,gf,gh,gr,gs,gu,gy,gz,eV,i2,gC,i3,cU,iU,iV,iW,fS,iP,iQ,iR,fT,fU,fV,iS,gH,gJ,gK,jB,gL,jA,jC,gG,jc,jd,je,cY,gI,jf,ja,jb,kA,kC,kD,kF,gM,gN,kG,gR,gQ,gS,gT,gU,lC,gW,gX,lM,g8,gZ,g6,gY,lP,hJ,hU,hV,hW,eh,hG,fh,ic,hZ,ia,ib,ie,lR,ig,lU,lV,lW,lY,lZ,l3,l4,l5,l6,lX,l7,l8,l9,ma,iw,il,iq,iu,iy,me,mh,mi,mf,mm,dO,ij,mn,mq,mr,mj,mv,jg,jq,jr,jt,ju,jv,jw,jx,jy,jz,ne_eq,jk,jl,jm,jn,jo,jh,ji,jj,eR,d5,eT,dZ,fN,fM,fL,cw,cC,bC,dj,dQ,cR,JB,Kk,JS,Kr,JU,KD,KC,J5,Lh,Li,Lz,LA,LB,Ki,J6,KN,KG,KH,KO,exists_eq_left',exists_eq_left,exists_and_left,exists_and_right,KZ,K0,Sl.v.injEq,Sl.o.injEq,Sl.k.injEq,KL,Lb,K5,K2,Lc,Kd,and_true,true_and,LC,Lm,exists_const,decide_eq_true_eq,LD,LG,Lq,Lr,Ko,decide_eq_false_iff_not,and_assoc,or_true,true_or,↓reduceIte,if_true,if_false,Kh,KW,not_true_eq_false,not_false_eq_true,LH,Lv,ite_true,ite_false,eq_self,exists_eq,reduceCtorEq,false_and,and_false,or_false,false_or,exists_false,Lw,Lx,cO,LY,L8,Kz,L9,LZ,Lf,Ly,Lo,cx,cy,cW,cF,cX,cG,eX,gE,beq_self_eq_true,i5,i6,i7,bJ,QK]
    obtain⟨g1,y1⟩:=xV (j:=(d+3*(0+(i:Int)))% 26) Qj Qj;obtain⟨g2,v1⟩:=xV (j:=(e+(0+(i:Int))/ 26)% 26) Qj Qj;have ly:∀y:Nat,(⟨#[y]⟩:Str).length=1:=λ_=>rfl;have l1:=gg.le;have l2:=gg2.le;refine⟨Qh,_,g1,Qh,_,g2,by rw [ly,ly];decide,mo,by rw [qt,ly,ly];omega,mo2,by rw [qt,qt,ly,ly];omega,by rw [Jv,m4,Jv,ME];omega,λz hz=>?_,by rw [Bz,JZ];rfl,_,rfl⟩;rw [Bz] at hz;rcases JI.mp hz with h | h
    ·exact hg z h
    ·rw [JJ] at h;rw [h];exact IT (JQ xm) a0 Qj Qj
   ·rintro δ ⟨o7,o8,hg,rfl⟩;walk_at "a";rw [qo] at hg⊢;exact q _ (by rw [m4,Jv,ME];omega) hg (IV Qj)
end
theorem BA:aU (ax sP) ["_law_xs","_law_k","_law_names_here","_law_kinds","_law_far","_law_chain","_law_told"] ["_law_j","_law_names_here","_law_xs"] 1 [2,0] ⟨JO,[ (Jw ".0",Sa),(Jw "_law_j",Sa),(Jw "len",Kj),(Jw "_law_names_here",JP),(Jw "_law_xs",JP)],false,false,[]⟩:= .of
theorem BB:aU (ax qF) ["_law_script","_law_xs","_law_many","_law_far","_law_chain","_law_names_here","_law_kinds","_law_bars","_law_some","_law_k","_law_deed","_law_turn"] ["_law_k","_law_names_here","_law_kinds","_law_far","_law_chain","_law_script"] 1 [5,6,3,4,0] ⟨JO,[ (Jw ".0",Sa),(Jw "_law_k",Sa),(Jw "_law_paper",Kj),(Jw "_law_numbers",Kj),(Jw "_law_cell",Kj),(Jw "_law_chain",JP),(Jw "_law_far",JP),(Jw "_law_kinds",JP),(Jw "_law_names_here",JP),(Jw "_law_script",JP)],false,false,[]⟩:= .of
theorem BC:aU (ax qF) ["_law_script","_law_xs","_law_many","_law_far","_law_chain","_law_names_here","_law_kinds","_law_bars","_law_some","_law_k","_law_deed","_law_turn"] ["_law_other","_law_deed"] 1 [10] ⟨JO,[ (Jw ".0",Sa),(Jw "_law_other",Sa),(Jw "_law_quarrel",Kj),(Jw "_law_deed",JP)],false,false,[]⟩:= .of
section
variable {P:QA} {w:QE} {K:Ju} {mg:Str->Option Qr} {base:QB} {t:er}
def m5(ss:List Str):Prop:=∀z∈ss,Nm z
theorem m6{ss:List Str}{i:Int}(h:m5 ss)(h0:0<=i)(h1:i < ss.length):∃s∈ss,atI (ss.map JA) i=some (.str s)/\Nm s:=by
 obtain⟨k,rfl⟩:=Ky h0;have hk:k < ss.length:=Qj
 exact⟨ss[k],KY hk,eJ (by simp [hk]),h _ (KY hk)⟩
def BD:List Qp->(Qp->Prop)->Prop:=λds Q=>∃(x:Int)(far:Bool),ds=[.int x,.bool far]/\∀d:Int,0<=d->Q (.int d)
theorem BE(T:Txt K mg t):aB P w K mg base aM 1 t.a_N t.d_N ["_law_x","_law_far"] (bb K BD):=by
 refine T.F_N.F.okD Hv (λds Q h=>?_) (λ_ _ _ _ H O ds Q E hr h=>?_)
 ·obtain⟨x,far,rfl,_⟩:=h;rfl
 ·obtain⟨x,far,rfl,q⟩:=h;refine'⟨_,?A,?B⟩
  case A=>
   refine' aw ?C
   case' C=>refine' aX ?D
   case' D=>refine' gm aL aO (df ?E) ?F
   case E=>
    refine' fe ?G
    case' G=>refine' bZ ?H
    case' H=>refine' ae ?I ?J
    case I=>exact(av bq aK (dv 0) af)
    case' J=>refine' ae ?K ak
    case K=>exact(av bq aK (dv 0) af)
   case F=>exact(df (PE.imp (nc wF rfl T.n_int rC (bE (dv 1) br)) (bL xG)))
  case B=>
  clear hr T;walk_at "a";split
  ·exact⟨_,cy,q _ (LP _ Qi)⟩
  ·exact⟨_,cx,q _ (LP _ Qi)⟩
theorem qO{ns:List Int}{k:Int}{Q:Qp->Prop}:Bu [cN (ns.map .int),.int k] Q↔(0<=k/\k<=1000/\∀c:Int,Q (.int c)):=by
 constructor
 ·rintro⟨ns',k',e,a,b,q⟩;simp only [Kd,KL,and_true] at e;rw [e.2];exact⟨a,b,q⟩
 ·rintro⟨a,b,q⟩;exact⟨ns,k,rfl,a,b,q⟩
theorem qP{c m:Int}{Q:Qp->Prop}:Bv [.int c,.int m] Q↔(0<=m/\m<=64/\∀ns:List Int,(ns.length:Int)=m->(∀z∈ns,0<=z/\z < 2000000000)->Q (.list (ns.map .int))):=by
 constructor
 ·rintro⟨c',m',e,a,b,q⟩;simp only [Kd,KL,and_true] at e;obtain⟨rfl,rfl⟩:=e;exact⟨a,b,q⟩
 ·rintro⟨a,b,q⟩;exact⟨c,m,rfl,a,b,q⟩
theorem BF{x:Int}{far:Bool}{Q:Qp->Prop}:BD [.int x,.bool far] Q↔∀d:Int,0<=d->Q (.int d):=by
 constructor
 ·rintro⟨x',far',e,q⟩;exact q
 ·intro q;exact⟨x,far,rfl,q⟩
theorem IX{ns:List Str}{lo hi:Option Int}:∃ss:List Str,bf (ns.map .str) lo hi=ss.map .str/\(∀z∈ss,z∈ns)/\ss.length<=ns.length:=by
 unfold bf;refine⟨(ns.drop (HT.sIx (ns.map JA).length 0 lo)).take (HT.sIx (ns.map JA).length (ns.map JA).length hi - HT.sIx (ns.map JA).length 0 lo),by rw [Ml,OC],λz hz=>Nx (Ll hz),?_⟩;rw [Kw,MI];omega
def IY:List Qp->(Qp->Prop)->Prop:=λds Q=>∃(ys:List Int)(ns ks:List Str)(k:Int)(far ch:Bool),ds=[.list (ys.map .int),.int k,.list (ns.map .str),.list (ks.map .str),.bool far,.bool ch]/\ys.length=8/\(∀z∈ys,0<=z/\z < 2000000000)/\m5 ns/\0<=k/\k < ns.length/\ns.length<=10/\m5 ks/\ks.length=3/\
 ∀p:Pp,ns[k.toNat]?=some p.nm->JK p.kd=true->(∀z∈p.ms,JK z=true)->p.ms.length<=50->Q p.enc
theorem IZ(T:Txt K mg t):aB P w K mg base aM 2 t.a_O t.d_O ["_law_xs","_law_k","_law_names_here","_law_kinds","_law_far","_law_chain"] (bb K IY):=by
 have G_N:=@BE P w _ _ base _ T;refine T.F_O.F.okD vJ (λds Q h=>?_) (λ_ _ _ _ H O ds Q E hr h=>?_)
 ·obtain⟨ys,ns,ks,k,far,ch,rfl,_⟩:=h;rfl
 ·obtain⟨ys,ns,ks,k,far,ch,rfl,yl,yn,nn,k0,k1,nl,kn,kl,q⟩:=h;refine'⟨_,?A,?B⟩
  case A=>
   refine' au ?C ?D
   case C=>exact(uU (i:=6) vJ.nd rfl Qm (xY rfl BA rfl T.n_range (bE (av bq aK (aq aL aO (dv 0) af) af) br) aJ bY Qi (λ_ _ _ _=>(aH (i:=0) BA.nd rfl Qm)) (λ_ _ _ _=>mR) (λ_ _ _ _=>(aq aL aO (dv 1) (av bq aK (aq aL aO (dv 2) (av cu bT af (dv 0))) (PE.imp (bI iF rfl T.n_len Lu (bE (dv 1) br)) (bL mQ)))))))
   case' D=>refine' au ?E ?F
   case E=>
    refine' bN ?G ?H bM
    case G=>exact(PW.pt (dY (dD (dv 5)) (eL (aR qZ cP (dv 1) af (aI _)))))
    case' H=>refine' aw ?I
    case' I=>refine' bt (i:=6) vJ.nd rfl Qm ?J (hs:=mV)
    case' J=>refine' fe ?K
    case' K=>refine' qm (df ?L) (df ?M)
    case L=>exact(fe (gj (df (dv 6)) eU (cm af)))
    case M=>exact(fe (bZ (ae (aq aL aO (dv 2) (av p6 bT (dv 1) af)) ak)))
   case' F=>refine' aw ?N
   case' N=>refine' aX ?O
   case' O=>refine' bF ?P
   case' P=>refine' ae aZ ?Q
   case' Q=>refine' ae ?R ?S
   case R=>exact(ba G_N hr T.F_N (ae (aq aL aO (dv 0) af) (ae (dv 4) ak)))
   case' S=>refine' ae ?T ?U
   case T=>exact(aq aL aO (dv 2) (dv 1))
   case' U=>refine' ae ?V ?W
   case V=>
    refine' gm aL aO (df (dv 3)) ?X
    case X=>exact(df (av bq aK (aq aL aO (dv 0) af) af))
   case' W=>refine' ae ?Y ak
   case Y=>exact(PE.imp (nc oQ rfl T.n_tuple nE (bE (fe (yX rfl rfl T.n_sorted Mk rfl T.n_set (bE (dv 6) br))) br)) (bL pf))
  case B=>
  clear hr T G_N
  match ys,yl with
  | [y0,y1,y2,y3,y4,y5,y6,y7],_=>
  clear yl;simp only [BF,true_and,↓lA,↓lF,↓lG,↓lH,↓lI,↓lJ,↓lK,↓lB,↓gO,↓kH,↓mw,↓mz,↓mB,↓mC,↓mD,↓mF,↓kI,↓kJ,↓kK,↓kL,↓kM,↓kN,↓kO,↓kP,↓kT,↓kU,↓kW,↓kX,↓kY,↓kZ,↓k6,↓k7,↓k8,↓k9,↓lg,↓lh,↓lq,↓lr,↓lu,↓lz,dF,fG,eM,fH,fI,iO,dG,eQ,fJ,fO,fP,iT,fv,dC,bK,dI,fW,fX,fY,iZ,fZ,cV,gB,gA,iX,gc,dL,eO,fx,iJ,dX,cS,ck,fy,fz,fA,fB,fC,fD,fE,iK,dE,iL,jD,jF,jG,jH,jI,jJ,jK,jL,jM,jN,jO,jP,jQ,jR,jS,jT,jU,jV,jW,jX,jY,jZ,j0,j1,j2,j3,j4,j5,j6,j7,j8,j9,kc,ke,kh,ki,kj,km,ko,kq,kr,ku,kz,jE,gi,iY,i1,eY,i8,i4,gf,gh,gr,gs,gu,gy,gz,eV,i2,gC,i3,cU,iU,iV,iW,fS,iP,iQ,iR,fT,fU,fV,iS,gH,gJ,gK,jB,gL,jA,jC,gG,jc,jd,je,cY,gI,jf,ja,jb,kA,kC,kD,kF,gM,gN,kG,gR,gQ,gS,gT,gU,lC,gW,gX,lM,g8,gZ,g6,gY,lP,hJ,hU,hV,hW,eh,hG,fh,ic,hZ,ia,ib,ie,lR,ig,lU,lV,lW,lY,lZ,l3,l4,l5,l6,lX,l7,l8,l9,ma,iw,il,iq,iu,iy,me,mh,mi,mf,mm,dO,ij,mn,mq,mr,mj,mv,jg,jq,jr,jt,ju,jv,jw,jx,jy,jz,ne_eq,jk,jl,jm,jn,jo,jh,ji,jj,eR,d5,eT,dZ,fN,fM,fL,cw,cC,bC,dj,dQ,cR,JB,Kk,JS,Kr,JU,KD,KC,J5,Lh,Li,Lz,LA,LB,Ki,J6,KN,KG,KH,KO,exists_eq_left',exists_eq_left,exists_and_left,exists_and_right,KZ,K0,Sl.v.injEq,Sl.o.injEq,Sl.k.injEq,KL,Lb,K5,K2,Lc,Kd,and_true,true_and,LC,Lm,exists_const,decide_eq_true_eq,LD,LG,Lq,Lr,Ko,decide_eq_false_iff_not,and_assoc,or_true,true_or,↓reduceIte,if_true,if_false,Kh,KW,not_true_eq_false,not_false_eq_true,LH,Lv,ite_true,ite_false,eq_self,exists_eq,reduceCtorEq,false_and,and_false,or_false,false_or,exists_false,Lw,Lx,cO,LY,L8,Kz,L9,LZ,Lf,Ly,Lo,cx,cy,cW,cF,cX,cG,eX,gE,beq_self_eq_true,i5,i6,i7,bJ,QK];have l0:0 < (ns.length:Int):=Qj
  obtain⟨kd,_,ek,gk⟩:=m6 kn (i:=y1 % 3) Qj Qj;obtain⟨z0,hz0,en,gn⟩:=m6 nn k0 Qj;have hk:ns[k.toNat]?=some z0:=by
   obtain⟨j,rfl⟩:=Ky k0;have hj:j < ns.length:=Qj
   have e1:atI (ns.map JA) ((j:Nat):Int)=some (.str ns[j]):=eJ (by rw [JD,JN hj];rfl);rw [e1] at en;cases en;show ns[j]?=_;rw [JN hj]
  have fin:∀ts:List Str,(∀z∈ts,z∈ns)->ts.length<=8->∀d:Int,0<=d->∃x,atI (J1 JA ns) k=some x/\∃x_1,atI (J1 JA ks) (y1 % 3)=some x_1/\∃ss:List Str,ts.map JA=J1 JA ss/\ss.length < 64/\Q (J3 [JA (Jt "paper"),JM d,x,x_1,J3 (J1 JA (bV (Qc bH [] ss)))]):=λts ht hl d _=>by
   refine⟨_,en,_,ek,ts,rfl,Qj,q ⟨d,z0,kd,bV (ts.foldl bH [])⟩ hk gk.ok (λz hz=>?_) ?_⟩
   ·have:=(eZ _).mem_iff.mp hz;rw [ve] at this;rcases this with h | h
    ·cases h
    ·exact(nn z (ht z h)).ok
   ·have l1:=sC ts [];show(bV _).length<=50;rw [(eZ _).length_eq];simp only [Kr] at l1;omega
  refine⟨Qj,Qj,λj acc=>∃ts:List Str,acc=ts.map .str/\ts.length=j/\∀z∈ts,z∈ns,⟨[],rfl,rfl,Qo⟩,?_,?_⟩
  ·rintro j z acc hj ⟨ts,rfl,tl,tn⟩;obtain⟨hj,rfl⟩:=oh hj;walk_at "a";have hj5:j < 5:=Qj
   have hy:∃y:Int,atI [JM y0,JM y1,JM y2,JM y3,JM y4,JM y5,JM y6,JM y7] (3+(0+(j:Int)))=some (.int y):=by
    have:j=0\/j=1\/j=2\/j=3\/j=4:=Qj
    rcases this with h | h | h | h | h <;> subst h <;> exact⟨_,rfl⟩
   obtain⟨y,ey⟩:=hy;obtain⟨z,hz,ez,_⟩:=m6 nn (i:=y % (ns.length:Int)) (LP _ Qj) (LW _ l0);refine⟨_,ey,y,rfl,by rw [Jv];omega,_,by rw [Jv];exact ez,ts++[z],by rw [JZ];rfl,by simp [tl],λz' hz'=>?_⟩;rcases JI.mp hz' with h | h
   ·exact tn z' h
   ·rw [JJ.mp h];exact hz
  ·rintro acc ⟨ts,rfl,tl,tn⟩;rw [qo] at tl;have tl:ts.length<=4:=Qj
   cases ch with
   | false=>
    rw [Qk Qo];exact fin ts tn Qj
   | true=>
    rw [Ql rfl];split
    ·rename_i hk0;obtain⟨z,hz,ez,_⟩:=m6 nn (i:=k - 1) Qj Qj;obtain⟨ms,em,hms,lms⟩:=IX (ns:=ts) (lo:=none) (hi:=some 3);refine⟨_,ez,by rw [em,Jv];omega,?_⟩;rw [em];have:=fin (ms++[z]) (λz' hz'=>?_) (by simp;omega)
     ·rw [JZ] at this;exact this
     ·rcases JI.mp hz' with h | h
      ·exact tn z' (hms z' h)
      ·rw [JJ.mp h];exact hz
    ·exact fin ts tn Qj
def I0(x:De):Prop:=∀d nm r,x= .oth (Jt "hold") d nm r->∃(ip:Bool)(tn:Str)(dp:Bool),r=[cD ip tn,.bool dp]/\JK tn=true
structure qQ (x:De):Prop where
 np:x.pp=none
 w:JK x.w=true
 wp:x.w≠Jt "paper"
 nm:JK x.nm=true
 ho:I0 x
 ly:bU 4 x.enc
 d0:0<=x.d
def Ja:List Qp->(Qp->Prop)->Prop:=λds Q=>∃(ys:List Int)(ns ks bs:List Str)(far:Bool),ds=[.list (ys.map .int),.list (ns.map .str),.list (ks.map .str),.list (bs.map .str),.bool far]/\ys.length=5/\(∀z∈ys,0<=z/\z < 2000000000)/\m5 ns/\0 < ns.length/\ns.length<=10/\m5 ks/\ks.length=3/\m5 bs/\0 < bs.length/\bs.length<=10/\
 ∀x:De,qQ x->Q x.enc
theorem Jb(T:Txt K mg t):aB P w K mg base aM 2 t.a_P t.d_P ["_law_xs","_law_names_here","_law_kinds","_law_bars","_law_far"] (bb K Ja):=by
 have G_N:=@BE P w _ _ base _ T;refine T.F_P.F.okD qI (λds Q h=>?_) (λ_ _ _ _ H O ds Q E hr h=>?_)
 ·obtain⟨ys,ns,ks,bs,far,rfl,_⟩:=h;rfl
 ·obtain⟨ys,ns,ks,bs,far,rfl,yl,yn,nn,n0,nl,kn,kl,bn,b0,bl,q⟩:=h;refine'⟨_,?A,?B⟩
  case A=>
   refine' au ?C ?D
   case C=>exact(D4 (i:=5) (j:=6) rfl qI.nd rfl rfl Qi rfl rfl (ae (ba G_N hr T.F_N (ae (aq aL aO (dv 0) af) (ae (dv 4) ak))) (ae (aq aL aO (dv 3) (av bq aK (aq aL aO (dv 0) af) (PE.imp (bI iF rfl T.n_len Lu (bE (dv 3) br)) (bL mQ)))) ak)) (by rfl))
   case' D=>refine' au ?E ?F
   case E=>exact(bt (i:=7) qI.nd rfl Qm (av bq aK (aq aL aO (dv 0) af) af))
   case' F=>refine' au ?G ?H
   case G=>
    refine' bN ?I ?J bM
    case I=>exact(aR mP cP (dv 7) af (aI _))
    case' J=>refine' aw ?K
    case K=>exact(aX (bF (ae aZ (ae (dv 5) (ae (dv 6) ak)))))
   case' H=>refine' au ?L ?M
   case L=>
    refine' bN ?N ?O bM
    case N=>exact(aR (cA hr.units) cB (dv 7) af (aI _))
    case' O=>refine' au ?P ?Q
    case P=>
     refine' bt (i:=8) qI.nd rfl Qm ?R (hs:=Fi)
     case' R=>refine' fe ?S
     case' S=>refine' bZ ?T
     case' T=>refine' ae ?U ?V
     case U=>
      refine' bF ?W
      case' W=>refine' ae aZ ?X
      case' X=>refine' ae (dv 5) ?Y
      case' Y=>refine' ae (dv 6) ?Z
      case' Z=>refine' ae ?a ak
      case a=>exact(bF (ae aZ (ae (aq aL aO (dv 2) af) ak)))
     case' V=>refine' ae ?b ak
     case b=>exact(bF (ae aZ (ae (dv 5) (ae (dv 6) ak))))
    case' Q=>refine' aw ?c
    case' c=>refine' aX ?d
    case' d=>refine' gm aL aO (df ?e) ?f
    case e=>
     refine' fe ?g
     case' g=>refine' qm (df (dv 8)) (df ?h)
     case' h=>refine' fe ?i
     case' i=>refine' bZ ?j
     case' j=>refine' ae ?k ak
     case' k=>refine' bF ?l
     case' l=>refine' ae aZ ?m
     case' m=>refine' ae (dv 5) ?n
     case' n=>refine' ae ?o ?p
     case o=>exact(aq aL aO (dv 1) af)
     case p=>refine' ae (dv 6) ak
    case f=>exact(df (av bq aK (aq aL aO (dv 0) af) af))
   case' M=>refine' au ?q ?r
   case q=>
    generalize hG50:PH _ _ _=eg50;refine' bt (i:=9) qI.nd rfl Qm ?s (hs:=by subst hG50;exact uZ)
    case' s=>subst hG50
    refine' gm aL aO (df ?t) ?u
    case t=>
     refine' fe ?v
     case' v=>refine' bZ ?w
     case' w=>refine' ae ?x ?y
     case x=>
      refine' bF ?z
      case' z=>refine' ae aZ ?A0
      case' A0=>refine' ae ?A1 ak
      case' A1=>refine' gm aL aO (df (dv 1)) ?A2
      case A2=>exact(df (av bq aK (aq aL aO (dv 0) af) (PE.imp (bI iF rfl T.n_len Lu (bE (dv 1) br)) (bL mQ))))
     case' y=>refine' ae ?A3 ak
     case' A3=>refine' bF ?A4
     case' A4=>refine' ae aZ ?A5
     case' A5=>refine' ae ?A6 ak
     case' A6=>refine' gm aL aO (df (dv 2)) ?A7
     case A7=>exact(df (av bq aK (aq aL aO (dv 0) af) af))
    case u=>exact(df (av bq aK (dv 7) af))
   case' r=>refine' aw ?A8
   case' A8=>refine' aX ?A9
   case' A9=>refine' bF ?AA
   case' AA=>refine' ae aZ ?AB
   case' AB=>refine' ae (dv 5) ?AC
   case' AC=>refine' ae (dv 6) ?AD
   case' AD=>refine' ae (dv 9) ?AE
   case' AE=>refine' ae ?AF ak
   case AF=>exact(cT qZ cP (df (av bq aK (aq aL aO (dv 0) af) af)) (df af) (aI _))
  case B=>
  clear hr T G_N
  match ys,yl with
  | [y0,y1,y2,y3,y4],_=>
  clear yl;simp only [BF,true_and,↓lA,↓lF,↓lG,↓lH,↓lI,↓lJ,↓lK,↓lB,↓gO,↓kH,↓mw,↓mz,↓mB,↓mC,↓mD,↓mF,↓kI,↓kJ,↓kK,↓kL,↓kM,↓kN,↓kO,↓kP,↓kT,↓kU,↓kW,↓kX,↓kY,↓kZ,↓k6,↓k7,↓k8,↓k9,↓lg,↓lh,↓lq,↓lr,↓lu,↓lz,dF,fG,eM,fH,fI,iO,dG,eQ,fJ,fO,fP,iT,fv,dC,bK,dI,fW,fX,fY,iZ,fZ,cV,gB,gA,iX,gc,dL,eO,fx,iJ,dX,cS,ck,fy,fz,fA,fB,fC,fD,fE,iK,dE,iL,jD,jF,jG,jH,jI,jJ,jK,jL,jM,jN,jO,jP,jQ,jR,jS,jT,jU,jV,jW,jX,jY,jZ,j0,j1,j2,j3,j4,j5,j6,j7,j8,j9,kc,ke,kh,ki,kj,km,ko,kq,kr,ku,kz,jE,gi,iY,i1,eY,i8,i4,gf,gh,gr,gs,gu,gy,gz,eV,i2,gC,i3,cU,iU,iV,iW,fS,iP,iQ,iR,fT,fU,fV,iS,gH,gJ,gK,jB,gL,jA,jC,gG,jc,jd,je,cY,gI,jf,ja,jb,kA,kC,kD,kF,gM,gN,kG,gR,gQ,gS,gT,gU,lC,gW,gX,lM,g8,gZ,g6,gY,lP,hJ,hU,hV,hW,eh,hG,fh,ic,hZ,ia,ib,ie,lR,ig,lU,lV,lW,lY,lZ,l3,l4,l5,l6,lX,l7,l8,l9,ma,iw,il,iq,iu,iy,me,mh,mi,mf,mm,dO,ij,mn,mq,mr,mj,mv,jg,jq,jr,jt,ju,jv,jw,jx,jy,jz,ne_eq,jk,jl,jm,jn,jo,jh,ji,jj,eR,d5,eT,dZ,fN,fM,fL,cw,cC,bC,dj,dQ,cR,JB,Kk,JS,Kr,JU,KD,KC,J5,Lh,Li,Lz,LA,LB,Ki,J6,KN,KG,KH,KO,exists_eq_left',exists_eq_left,exists_and_left,exists_and_right,KZ,K0,Sl.v.injEq,Sl.o.injEq,Sl.k.injEq,KL,Lb,K5,K2,Lc,Kd,and_true,true_and,LC,Lm,exists_const,decide_eq_true_eq,LD,LG,Lq,Lr,Ko,decide_eq_false_iff_not,and_assoc,or_true,true_or,↓reduceIte,if_true,if_false,Kh,KW,not_true_eq_false,not_false_eq_true,LH,Lv,ite_true,ite_false,eq_self,exists_eq,reduceCtorEq,false_and,and_false,or_false,false_or,exists_false,Lw,Lx,cO,LY,L8,Kz,L9,LZ,Lf,Ly,Lo,cx,cy,cW,cF,cX,cG,eX,gE,beq_self_eq_true,i5,i6,i7,bJ,QK];intro d d0;have lb:(bs.map JA).length=bs.length:=Jv _
  have ln:(ns.map JA).length=ns.length:=Jv _;rw [lb,ln];obtain⟨b,_,eb,gb⟩:=m6 bn (i:=y1 % (bs.length:Int)) (LP _ Qj) (LW _ Qj);obtain⟨k0,_,ek0,gk0⟩:=m6 kn (i:=0) Qi Qj;obtain⟨n1,_,en1,gn1⟩:=m6 nn (i:=0) Qi Qj;obtain⟨k3,_,ek3,gk3⟩:=m6 kn (i:=y3 % 3) Qj Qj;obtain⟨n3,_,en3,gn3⟩:=m6 nn (i:=y3 % (ns.length:Int)) (LP _ Qj) (LW _ Qj);have wf:∀w∈(["happens","rule","end","lift"]:List Str),w≠Jt "paper"/\w≠Jt "hold"/\JK w=true:=Qh
  have wh:Jt "hold"≠Jt "paper"/\JK (Jt "hold")=true:=Qh
  have oth:∀(w:Str)(r:List Qp),w∈(["happens","rule","end","lift"]:List Str)->(∀e∈r,bU 3 e)->qQ (.oth w d b r):=λw r hw h1=>by
   obtain⟨a1,a2,a3⟩:=wf w hw;exact⟨rfl,a3,a1,gb.ok,λd' nm' r' e=>absurd (by cases e;rfl) a2,i9 (bB (cq a3) (bB qx (bB (cq gb.ok) h1))),d0⟩
  refine⟨Qj,_,eb,?_⟩;split
  ·exact q (.oth "lift" d b []) (oth _ _ Qo fb)
  ·split
   ·refine⟨_,ek0,_,en1,?_⟩;have:y3 % 3=0\/y3 % 3=1\/y3 % 3=2:=Qj
    rcases this with h | h | h <;> rw [h]
    ·exact⟨_,rfl,q (.oth "rule" d b [.tuple [.str (Jt "follow"),.str k0]]) (oth _ _ Qo (bB (i9 (n:=2) (bB (cq Qh) (bB (cq gk0.ok) fb))) fb))⟩
    ·exact⟨_,rfl,q (.oth "end" d b []) (oth _ _ Qo fb)⟩
    ·obtain⟨a1,a2,a3⟩:=wf "happens" Qo;exact⟨_,rfl,q (.oth "happens" d n1 [.str b]) ⟨rfl,a3,a1,gn1.ok,λd' nm' r' e=>(by cases e),i9 (bB (cq a3) (bB qx (bB (cq gn1.ok) (bB (cq gb.ok) fb)))),d0⟩⟩
   ·refine⟨Qj,_,en3,_,ek3,?_⟩;have hold:∀(ip:Bool)(tn:Str),JK tn=true->qQ (.oth "hold" d b [cD ip tn,.bool (decide (0 < y4 % 3))]):=λip tn ht=>by
     have hp:JK (if ip=true then Jt "paper" else Jt "kind")=true:=by cases ip <;> decide+kernel
     refine⟨rfl,wh.2,wh.1,gb.ok,λd' nm' r' e=>?_,i9 (bB (cq wh.2) (bB qx (bB (cq gb.ok) (bB ?_ (bB E6 fb))))),d0⟩
     ·cases e;exact⟨_,_,_,rfl,ht⟩
     ·exact i9 (n:=2) (bB (cq hp) (bB (cq ht) fb))
    have:y2 % 8 % 2=0\/y2 % 8 % 2=1:=Qj
    rcases this with h | h <;> rw [h]
    ·exact⟨_,rfl,q _ (hold true n3 gn3.ok)⟩
    ·exact⟨_,rfl,q _ (hold false k3 gk3.ok)⟩
def Jc:List Qp->(Qp->Prop)->Prop:=λds Q=>∃(x y:De),ds=[x.enc,y.enc]/\bU 4 x.enc/\bU 4 y.enc/\JK x.w=true/\JK y.w=true/\JK x.nm=true/\JK y.nm=true/\∀b:Bool,(b=false->x.isL=true->y.isL=true->¬(x.d=y.d/\x.nm=y.nm))->Q (.bool b)
theorem Jd(T:Txt K mg t):aB P w K mg base aM 1 t.a_Q t.d_Q ["_law_one","_law_other"] (bb K Jc):=by
 refine T.F_Q.F.okD Hw (λds Q h=>?_) (λ_ _ _ _ H O ds Q E hr h=>?_)
 ·obtain⟨x,y,rfl,_⟩:=h;rfl
 ·obtain⟨x,y,rfl,lx,ly,wx,wy,mx,my,q⟩:=h;refine'⟨_,?A,?B⟩
  case A=>
   refine' au ?C ?D
   case C=>
    refine' bN ?E ?F bM
    case E=>exact(PW.pt (dY (aR (pz hr) pA (aq aE aF (dv 0) af) (bF (ae aZ (ae aZ ak))) rfl) (eL (aR (pz hr) pA (aq aE aF (dv 1) af) (bF (ae aZ (ae aZ ak))) rfl))))
    case' F=>refine' aw ?G
    case' G=>refine' aX ?H
    case H=>exact(cT (cA hr.units) cB (df (se (df (dv 0)) (cm af) (cm af))) (df (se (df (dv 1)) (cm af) (cm af))) (aI _))
   case' D=>refine' au ?I ?J
   case I=>
    refine' bN ?K ?L bM
    case K=>exact(PW.pt (dY (aR (pz hr) pA (aq aE aF (dv 0) af) (bF (ae aZ (ae aZ ak))) rfl) (eL (aR (pz hr) pA (aq aE aF (dv 1) af) (bF (ae aZ (ae aZ ak))) rfl))))
    case' L=>refine' aw ?M
    case' M=>refine' aX ?N
    case N=>exact(cT (cA hr.units) cB (df (se (df (dv 0)) (cm af) (cm af))) (df (se (df (dv 1)) (cm af) (cm af))) (aI _))
   case' J=>refine' aw ?O
   case' O=>refine' aX ?P
   case P=>exact(D2 (cT (cA hr.units) cB (df (dv 0)) (df (dv 1)) (aI _)) (qf (oV (cT (cA hr.units) cB (df (aq aE aF (dv 0) af)) (df (aq aE aF (dv 1) af)) (aI _)) (oV (cT (pz hr) pA (df (aq aE aF (dv 0) af)) (df (bF (ae aZ (ae aZ ak)))) rfl) (qf (cT (cA hr.units) cB (df (aq aE aF (dv 0) af)) (df (aq aE aF (dv 1) af)) (aI _)))))))
  case B=>
  clear hr T;obtain⟨rx,ex⟩:∃r,x.enc= .tuple (.str x.w:: .int x.d:: .str x.nm::r):=by cases x <;> exact⟨_,rfl⟩
  obtain⟨ry,ey⟩:∃r,y.enc= .tuple (.str y.w:: .int y.d:: .str y.nm::r):=by cases y <;> exact⟨_,rfl⟩
  rw [ex] at lx⊢;rw [ey] at ly⊢;walk_at "a";have nl:∀z:De,z.isL=true->(Jt "hold"==z.w || Jt "lift"==z.w)=true/\¬(Jt "rule"==z.w || Jt "end"==z.w)=true:=λz h=>by
   cases z with
   | pap p=>cases h
   | oth w d nm r=>
    have:∀w∈iA,(Jt "hold"==w || Jt "lift"==w)=true/\¬(Jt "rule"==w || Jt "end"==w)=true:=Qh
    exact this w (oA.mp h)
  have sd:∀z:De,JK z.nm=true->Lk (J3 [JM z.d,JA z.nm])=true:=λz hz=>(i9 (n:=1) (bB qx (bB (cq hz) fb))).shp Qi;by_cases hb:x.isL=true/\y.isL=true
  ·obtain⟨x1,x2⟩:=nl x hb.1;obtain⟨y1,y2⟩:=nl y hb.2;rw [Qk x2,Ql x1,Ql y1];refine⟨sd x mx,sd y my,q _ λe _ _ h=>?_⟩;rw [h.1,h.2] at e;simp [JG,MD] at e
  ·have key:∀b:Bool,Q (.bool b):=λb=>q b λ_ h1 h2=>absurd ⟨h1,h2⟩ hb;have sl:Lk (J3 (JA x.w::JM x.d::JA x.nm::rx))=true:=lx.shp Qi;have sr:Lk (J3 (JA y.w::JM y.d::JA y.nm::ry))=true:=ly.shp Qi;have tail:∀{p q r s t:Prop} [Decidable p] [Decidable q] [Decidable r],s->t->(s/\t/\if p then Q (.bool true) else Lk (JA x.w)=true/\Lk (JA y.w)=true/\if q then(if r then Lk (JA x.nm)=true/\Lk (JA y.nm)=true/\Q (LX (x.nm==y.nm)) else Q (LX false)) else Q (LX false)):=λhs ht=>by
    refine⟨hs,ht,?_⟩;split
    ·exact key _
    ·refine⟨cH.mpr wx,cH.mpr wy,?_⟩;split
     ·split
      ·exact⟨cH.mpr mx,cH.mpr my,key _⟩
      ·exact key _
     ·exact key _
   have two:=λb=>(⟨sd x mx,sd y my,key b⟩:_/\_/\_);split
   ·split
    ·exact two _
    ·split
     ·split
      ·exact two _
      ·exact tail sl sr
     ·exact tail sl sr
   ·split
    ·split
     ·exact two _
     ·exact tail sl sr
    ·exact tail sl sr
theorem Je(xs:List Qp)(k:Nat)(h:k<=xs.length):bf xs none (some (k:Int))=xs.take k:=by rw [nq Qj Qj];rfl
theorem v5(xs:List Qp){k:Nat}:bf xs none (some (k:Int))=xs.take k:=by
 by_cases h:k<=xs.length
 ·exact Je xs k h
 ·have h0:HT.sIx xs.length 0 none=0:=rfl;have h1:HT.sIx xs.length xs.length (some (k:Int))=xs.length:=by unfold HT.sIx;simp only [];split <;> omega
  unfold bf;rw [h0,h1,PF,PV,J7 (Jy _),J7 Qj]
theorem Jf(xs:List Qp):bf xs none (some 3)=xs.take 3:=v5 xs (k:=3)
theorem Jg(xs:List Qp):bf xs none (some 4)=xs.take 4:=v5 xs (k:=4)
def Jh:List Qp->(Qp->Prop)->Prop:=λds Q=>∃cs:List Int,ds=[cN (cs.map .int)]/\∀(ns:List Str)(xs:List De),fk xs->m5 ns->2<=ns.length->ns.length<=10->(∀p∈aj xs,p.nm∈ns)->Q (.tuple [.list (ns.map .str),.tuple (xs.map De.enc)])
theorem Ji(T:Txt K mg t):aB P w K mg base aM 3 t.a_R t.d_R ["_law_script"] (bb K Jh):=by
 have G_K:=@II P w _ _ base _ T;have G_L:=@IJ P w _ _ base _ T;have G_M:=@IW P w _ _ base _ T;have G_O:=@IZ P w _ _ base _ T;have G_P:=@Jb P w _ _ base _ T;have G_Q:=@Jd P w _ _ base _ T;refine T.F_R.F.okD fi (λds Q h=>?_) (λ_ _ _ _ H O ds Q E hr h=>?_)
 ·obtain⟨ns,rfl,_⟩:=h;rfl
 ·obtain⟨cs,rfl,q⟩:=h;refine'⟨_,?A,?B⟩
  case A=>
   refine' au ?C ?D
   case C=>exact(bt (i:=1) fi.nd rfl Qm (ba G_L hr T.F_L (ae (ba G_K hr T.F_K (ae (dv 0) (ae af ak))) (ae af ak))))
   case' D=>refine' au ?E ?F
   case E=>exact(uN (bF (ae (av bq aK (aq aL aO (dv 1) af) af) (ae (cT (cA hr.units) cB (df (av bq aK (aq aL aO (dv 1) af) af)) (df af) (aI _)) (ae (cT (cA hr.units) cB (df (av bq aK (av qY aK (aq aL aO (dv 1) af) af) af)) (df af) (aI _)) ak)))) (oK (n:=3) rfl (di (aH (i:=2) fi.nd rfl Qm) (di (aH (i:=3) fi.nd rfl Qm) (di (aH (i:=4) fi.nd rfl Qm) oJ)))) (oZ (dH aJ (dH aJ (dH aJ oY)))))
   case' F=>refine' au ?G ?H
   case G=>exact(uN (bF (ae (ba G_M hr T.F_M (ae (fe (gj (df (dv 1)) (cm af) eU)) (ae (av cu bT (dv 2) af) ak))) (ae (ba G_M hr T.F_M (ae (fe (gj (df (dv 1)) (cm af) eU)) (ae af ak))) ak))) (oK (n:=2) rfl (di (aH (i:=5) fi.nd rfl Qm) (di (aH (i:=6) fi.nd rfl Qm) oJ))) (oZ (dH aJ (dH aJ oY))))
   case' H=>refine' au ?I ?J
   case I=>
    refine' bN ?K ?L bM
    case K=>exact(PW.pt (dY (aR (cA hr.units) cB (av bq aK (aq aL aO (dv 1) af) af) af (aI _)) (eL (aR qZ cP (dv 2) af (aI _)))))
    case' L=>refine' aw ?M
    case M=>exact(bt (i:=6) fi.nd rfl Qm (fe (gj (df (dv 5)) eU (cm af))))
   case' J=>refine' au ?N ?O
   case N=>
    generalize hG12:PH _ _ _=eg12;refine' bt (i:=7) fi.nd rfl Qm ?P (hs:=by subst hG12;exact uZ)
    case' P=>subst hG12
    exact(fe (gj (df (aq aL aO (fe (bZ (ae (ba G_M hr T.F_M (ae (fe (gj (df (dv 1)) (cm af) eU)) (ae af ak))) (ae (fe (gj (df (dv 5)) eU (cm af))) ak)))) (av bq aK (aq aL aO (dv 1) af) af))) eU (cm (av cu bT af (av bq aK (aq aL aO (dv 1) af) af)))))
   case' O=>refine' au ?Q ?R
   case Q=>exact(GP (i:=8) fi.nd rfl Qm (xY rfl BB rfl T.n_range (bE (dv 2) br) aJ bY Qi (λ_ _ _ _=>(aH (i:=0) BB.nd rfl Qm)) (λ_ _ _ _=>mR) (λ_ _ _ _=>(ba G_O hr T.F_O (ae (ba G_L hr T.F_L (ae (ba G_K hr T.F_K (ae (dv 5) (ae (av cu bT af (dv 0)) ak))) (ae af ak))) (ae (dv 0) (ae (dv 1) (ae (dv 2) (ae (dv 3) (ae (dv 4) ak))))))))))
   case' R=>refine' au ?S ?T
   case S=>
    refine' uO Kx rfl rfl T.n_range (ae (av bq aK (aq aL aO (dv 1) af) af) ak) ?U aJ ?V
    case U=>exact(aH (i:=9) fi.nd rfl Qm)
    case' V=>refine' au ?W ?X
    case W=>
     refine' bt (i:=10) fi.nd rfl Qm ?Y (hs:=yB)
     case Y=>exact(ba G_P hr T.F_P (ae (ba G_L hr T.F_L (ae (ba G_K hr T.F_K (ae (dv 0) (ae (av cu bT af (dv 9)) ak))) (ae af ak))) (ae (dv 5) (ae (dv 6) (ae (dv 7) (ae (dv 3) ak))))))
    case' X=>refine' aw ?Z
    case' Z=>refine' bN ?a ?b bM
    case a=>exact(n6 (dD (PE.imp (bI (uI rfl) rfl T.n_any uJ (bE (fe (dJ rfl BC (dw 8) aJ bY Qi (λ_ _ _ _=>(aH (i:=0) BC.nd rfl Qm)) (λ_ _ _ _=>mR) (λ_ _ _ _=>(ba G_Q hr T.F_Q (ae (dv 1) (ae (dv 0) ak)))))) br)) (bL rR))))
    case' b=>refine' aw ?c
    case c=>exact(qi (i:=8) (pv 8) (dv 10))
   case' T=>refine' au ?d ?e
   case d=>
    refine' bt (i:=11) fi.nd rfl Qm ?f (hs:=mV)
    case f=>exact(av bq aK (aq aL aO (dv 1) af) (av cu bT (PE.imp (bI iF rfl T.n_len Lu (nG (dw 8) br)) (bL mQ)) af))
   case' e=>refine' aw ?g
   case' g=>refine' aX ?h
   case' h=>refine' bF ?i
   case' i=>refine' ae (dv 5) ?j
   case' j=>refine' ae ?k ak
   case k=>exact(PE.imp (nc oQ rfl T.n_tuple nE (bE (fe (qm (df (fe (gj (dw 8) (cm (dv 11)) eU))) (df (fe (gj (dw 8) eU (cm (dv 11))))))) br)) (bL pf))
  case B=>
  clear hr T G_K G_L G_M G_O G_P G_Q;generalize hB:dF (dG 7 _) _=TB;simp only [qO,qP,↓lA,↓lF,↓lG,↓lH,↓lI,↓lJ,↓lK,↓lB,↓gO,↓kH,↓mw,↓mz,↓mB,↓mC,↓mD,↓mF,↓kI,↓kJ,↓kK,↓kL,↓kM,↓kN,↓kO,↓kP,↓kT,↓kU,↓kW,↓kX,↓kY,↓kZ,↓k6,↓k7,↓k8,↓k9,↓lg,↓lh,↓lq,↓lr,↓lu,↓lz,dF,fG,eM,fH,fI,iO,dG,eQ,fJ,fO,fP,iT,fv,dC,bK,dI,fW,fX,fY,iZ,fZ,cV,gB,gA,iX,gc,dL,eO,fx,iJ,dX,cS,ck,fy,fz,fA,fB,fC,fD,fE,iK,dE,iL,jD,jF,jG,jH,jI,jJ,jK,jL,jM,jN,jO,jP,jQ,jR,jS,jT,jU,jV,jW,jX,jY,jZ,j0,j1,j2,j3,j4,j5,j6,j7,j8,j9,kc,ke,kh,ki,kj,km,ko,kq,kr,ku,kz,jE,gi,iY,i1,eY,i8,i4,gf,gh,gr,gs,gu,gy,gz,eV,i2,gC,i3,cU,iU,iV,iW,fS,iP,iQ,iR,fT,fU,fV,iS,gH,gJ,gK,jB,gL,jA,jC,gG,jc,jd,je,cY,gI,jf,ja,jb,kA,kC,kD,kF,gM,gN,kG,gR,gQ,gS,gT,gU,lC,gW,gX,lM,g8,gZ,g6,gY,lP,hJ,hU,hV,hW,eh,hG,fh,ic,hZ,ia,ib,ie,lR,ig,lU,lV,lW,lY,lZ,l3,l4,l5,l6,lX,l7,l8,l9,ma,iw,il,iq,iu,iy,me,mh,mi,mf,mm,dO,ij,mn,mq,mr,mj,mv,jg,jq,jr,jt,ju,jv,jw,jx,jy,jz,ne_eq,jk,jl,jm,jn,jo,jh,ji,jj,eR,d5,eT,dZ,fN,fM,fL,cw,cC,bC,dj,dQ,cR,JB,Kk,JS,Kr,JU,KD,KC,J5,Lh,Li,Lz,LA,LB,Ki,J6,KN,KG,KH,KO,exists_eq_left',exists_eq_left,exists_and_left,exists_and_right,KZ,K0,Sl.v.injEq,Sl.o.injEq,Sl.k.injEq,KL,Lb,K5,K2,Lc,Kd,and_true,true_and,LC,Lm,exists_const,decide_eq_true_eq,LD,LG,Lq,Lr,Ko,decide_eq_false_iff_not,and_assoc,or_true,true_or,↓reduceIte,if_true,if_false,Kh,KW,not_true_eq_false,not_false_eq_true,LH,Lv,ite_true,ite_false,eq_self,exists_eq,reduceCtorEq,false_and,and_false,or_false,false_or,exists_false,Lw,Lx,cO,LY,L8,Kz,L9,LZ,Lf,Ly,Lo,cx,cy,cW,cF,cX,cG,eX,gE,beq_self_eq_true,i5,i6,i7,bJ,QK]
  intro c0 ys yl yn;have ix:∀i:Int,0<=i->i < 22->∃v:Int,atI (ys.map JM) i=some (.int v)/\0<=v:=λi h0 h1=>by
   obtain⟨k,rfl⟩:=Ky h0;have hk:k < ys.length:=Qj
   exact⟨ys[k],eJ (by simp [hk]),(yn _ (KY hk)).1⟩
  have cut:∀k:Int,0<=k->k<=17->∃(a b c d e:Int)(r:List Qp),bf (ys.map JM) (some k) none= .int a:: .int b:: .int c:: .int d:: .int e::r:=λk h0 h1=>by
   obtain⟨k,rfl⟩:=Ky h0;rw [ph Qj (by rw [Jv];omega),<-OC];have hl:5<=(ys.drop k).length:=by rw [MI];omega
   show ∃a b c d e r,(ys.drop k).map JM=_
   match ys.drop k,hl with
   | a::b::c::d::e::r,_=>exact⟨a,b,c,d,e,r.map .int,rfl⟩
  obtain⟨x0,e0,p0⟩:=ix 0 Qi Qi;obtain⟨x1,e1,p1⟩:=ix 1 Qi Qi;obtain⟨x17,e17,p17⟩:=ix 17 Qi Qi;obtain⟨x18,e18,p18⟩:=ix 18 Qi Qi;obtain⟨x19,e19,p19⟩:=ix 19 Qi Qi;obtain⟨x20,e20,p20⟩:=ix 20 Qi Qi;obtain⟨x21,e21,p21⟩:=ix 21 Qi Qi;obtain⟨a2,b2,c2,d2,f2,r2,g2⟩:=cut 2 Qi Qi;obtain⟨a7,b7,c7,d7,f7,r7,g7⟩:=cut 7 Qi Qi;obtain⟨a12,b12,c12,d12,f12,r12,g12⟩:=cut 12 Qi Qi;refine⟨_,e0,_,rfl,_,e1,_,rfl,_,e1,_,rfl,a2,b2,c2,d2,f2,r2,x0 % 9+2,by rw [g2],Qj,Qj,λss sl sg snd=>⟨a7,b7,c7,d7,f7,r7,3,by rw [g7],Qi,Qi,λks kl0 kg0 _=>⟨_,e21,_,rfl,?_⟩⟩⟩;clear ix cut g2 g7 yn;have sll:ss.length=(x0 % 9).toNat+2:=Qj
  have fin:∀kk:List Str,m5 kk->kk.length=3->TB {nx:=λx=>Q ND,rt:=Q} [some (Sl.v (cN (J1 JM cs))),some (Sl.v (Kl (J1 JM ys))),some (Sl.v (JM (x0 % 9))),some (Sl.v (LX (x1 % 2==1))),
   some (Sl.v (LX (x1 / 2 % 3==1))),some (Sl.v (Kl (J1 JA ss))),some (Sl.v (Kl (J1 JA kk))),none,none,none,none,none]:=λkk kg kl=>by
   subst hB;simp only [qO,qP,↓lA,↓lF,↓lG,↓lH,↓lI,↓lJ,↓lK,↓lB,↓gO,↓kH,↓mw,↓mz,↓mB,↓mC,↓mD,↓mF,↓kI,↓kJ,↓kK,↓kL,↓kM,↓kN,↓kO,↓kP,↓kT,↓kU,↓kW,↓kX,↓kY,↓kZ,↓k6,↓k7,↓k8,↓k9,↓lg,↓lh,↓lq,↓lr,↓lu,↓lz,dF,fG,eM,fH,fI,iO,dG,eQ,fJ,fO,fP,iT,fv,dC,bK,dI,fW,fX,fY,iZ,fZ,cV,gB,gA,iX,gc,dL,eO,fx,iJ,dX,cS,ck,fy,fz,fA,fB,fC,fD,fE,iK,dE,iL,jD,jF,jG,jH,jI,jJ,jK,jL,jM,jN,jO,jP,jQ,jR,jS,jT,jU,jV,jW,jX,jY,jZ,j0,j1,j2,j3,j4,j5,j6,j7,j8,j9,kc,ke,kh,ki,kj,km,ko,kq,kr,ku,kz,jE,gi,iY,i1,eY,i8,i4,gf,gh,gr,gs,gu,gy,gz,eV,i2,gC,i3,cU,iU,iV,iW,fS,iP,iQ,iR,fT,fU,fV,iS,gH,gJ,gK,jB,gL,jA,jC,gG,jc,jd,je,cY,gI,jf,ja,jb,kA,kC,kD,kF,gM,gN,kG,gR,gQ,gS,gT,gU,lC,gW,gX,lM,g8,gZ,g6,gY,lP,hJ,hU,hV,hW,eh,hG,fh,ic,hZ,ia,ib,ie,lR,ig,lU,lV,lW,lY,lZ,l3,l4,l5,l6,lX,l7,l8,l9,ma,iw,il,iq,iu,iy,me,mh,mi,mf,mm,dO,ij,mn,mq,mr,mj,mv,jg,jq,jr,jt,ju,jv,jw,jx,jy,jz,ne_eq,jk,jl,jm,jn,jo,jh,ji,jj,eR,d5,eT,dZ,fN,fM,fL,cw,cC,bC,dj,dQ,cR,JB,Kk,JS,Kr,JU,KD,KC,J5,Lh,Li,Lz,LA,LB,Ki,J6,KN,KG,KH,KO,exists_eq_left',exists_eq_left,exists_and_left,exists_and_right,KZ,K0,Sl.v.injEq,Sl.o.injEq,Sl.k.injEq,KL,Lb,K5,K2,Lc,Kd,and_true,true_and,LC,Lm,exists_const,decide_eq_true_eq,LD,LG,Lq,Lr,Ko,decide_eq_false_iff_not,and_assoc,or_true,true_or,↓reduceIte,if_true,if_false,Kh,KW,not_true_eq_false,not_false_eq_true,LH,Lv,ite_true,ite_false,eq_self,exists_eq,reduceCtorEq,false_and,and_false,or_false,false_or,exists_false,Lw,Lx,cO,LY,L8,Kz,L9,LZ,Lf,Ly,Lo,cx,cy,cW,cF,cX,cG,eX,gE,beq_self_eq_true,i5,i6,i7,bJ,QK];refine⟨a12,b12,c12,d12,f12,r12,4,by rw [g12],Qi,Qi,λqs ql qg _=>⟨_,e18,_,rfl,?_⟩⟩
   have hbs:∃bs:List Str,atI [Kl (qs.map .str),Kl (bf (J1 JA ss) none (some 4))] (x18 % 2)=some (.list (bs.map .str))/\m5 bs/\0 < bs.length:=by
    have:x18 % 2=0\/x18 % 2=1:=Qj
    rcases this with h | h <;> rw [h]
    ·exact⟨qs,rfl,qg,Qj⟩
    ·refine⟨ss.take 4,?_,λz hz=>sg z (Ll hz),by rw [Kw];omega⟩;rw [cy,Ml,Jg]
   obtain⟨bs0,eb,bg,b0⟩:=hbs;refine⟨_,eb,_,e17,_,rfl,_,rfl,?_⟩;have hb2:∃bs:List Str,bf (J1 JA bs0) none (some (1+x17 % 4))=bs.map .str/\m5 bs/\0 < bs.length/\bs.length<=10:=by
    have e:(1+x17 % 4:Int)=(((1+x17 % 4).toNat:Nat):Int):=Qj
    refine⟨bs0.take (1+x17 % 4).toNat,by rw [e,v5,Ml];rfl,λz hz=>bg z (Ll hz),by rw [Kw];omega,by rw [Kw];omega⟩
   obtain⟨bs,eb2,bn,bs0,bs10⟩:=hb2;rw [eb2];clear eb eb2 bg b0 qg ql g12;refine⟨Qj,Qj,λi acc=>∃ps:List Pp,acc=ps.map Pp.enc/\ps.map (·.nm)=ss.take i/\(∀p∈ps,JK p.kd=true/\(∀z∈p.ms,JK z=true)/\p.ms.length<=50),⟨[],rfl,Qo,Qo⟩,?_,?_⟩
   ·rintro i z acc hz ⟨ps,rfl,hn,hg⟩;obtain⟨hi,rfl⟩:=oh hz;simp only [qO,qP,↓lA,↓lF,↓lG,↓lH,↓lI,↓lJ,↓lK,↓lB,↓gO,↓kH,↓mw,↓mz,↓mB,↓mC,↓mD,↓mF,↓kI,↓kJ,↓kK,↓kL,↓kM,↓kN,↓kO,↓kP,↓kT,↓kU,↓kW,↓kX,↓kY,↓kZ,↓k6,↓k7,↓k8,↓k9,↓lg,↓lh,↓lq,↓lr,↓lu,↓lz,dF,fG,eM,fH,fI,iO,dG,eQ,fJ,fO,fP,iT,fv,dC,bK,dI,fW,fX,fY,iZ,fZ,cV,gB,gA,iX,gc,dL,eO,fx,iJ,dX,cS,ck,fy,fz,fA,fB,fC,fD,fE,iK,dE,iL,jD,jF,jG,jH,jI,jJ,jK,jL,jM,jN,jO,jP,jQ,jR,jS,jT,jU,jV,jW,jX,jY,jZ,j0,j1,j2,j3,j4,j5,j6,j7,j8,j9,kc,ke,kh,ki,kj,km,ko,kq,kr,ku,kz,jE,gi,iY,i1,eY,i8,i4,gf,gh,gr,gs,gu,gy,gz,eV,i2,gC,i3,cU,iU,iV,iW,fS,iP,iQ,iR,fT,fU,fV,iS,gH,gJ,gK,jB,gL,jA,jC,gG,jc,jd,je,cY,gI,jf,ja,jb,kA,kC,kD,kF,gM,gN,kG,gR,gQ,gS,gT,gU,lC,gW,gX,lM,g8,gZ,g6,gY,lP,hJ,hU,hV,hW,eh,hG,fh,ic,hZ,ia,ib,ie,lR,ig,lU,lV,lW,lY,lZ,l3,l4,l5,l6,lX,l7,l8,l9,ma,iw,il,iq,iu,iy,me,mh,mi,mf,mm,dO,ij,mn,mq,mr,mj,mv,jg,jq,jr,jt,ju,jv,jw,jx,jy,jz,ne_eq,jk,jl,jm,jn,jo,jh,ji,jj,eR,d5,eT,dZ,fN,fM,fL,cw,cC,bC,dj,dQ,cR,JB,Kk,JS,Kr,JU,KD,KC,J5,Lh,Li,Lz,LA,LB,Ki,J6,KN,KG,KH,KO,exists_eq_left',exists_eq_left,exists_and_left,exists_and_right,KZ,K0,Sl.v.injEq,Sl.o.injEq,Sl.k.injEq,KL,Lb,K5,K2,Lc,Kd,and_true,true_and,LC,Lm,exists_const,decide_eq_true_eq,LD,LG,Lq,Lr,Ko,decide_eq_false_iff_not,and_assoc,or_true,true_or,↓reduceIte,if_true,if_false,Kh,KW,not_true_eq_false,not_false_eq_true,LH,Lv,ite_true,ite_false,eq_self,exists_eq,reduceCtorEq,false_and,and_false,or_false,false_or,exists_false,Lw,Lx,cO,LY,L8,Kz,L9,LZ,Lf,Ly,Lo,cx,cy,cW,cF,cX,cG,eX,gE,beq_self_eq_true,i5,i6,i7,bJ,QK]
    refine⟨Qj,Qj,λc1 zs zl zn=>⟨zs,ss,kk,0+(i:Int),_,_,rfl,Qj,zn,sg,Qj,Qj,Qj,kg,kl,λp hp h1 h2 h3=>⟨ps++[p],by rw [JZ];rfl,?_,λp' hp'=>?_⟩⟩⟩
    ·have ei:(0+(i:Int)).toNat=i:=Qj
     rw [ei] at hp;rw [JZ,hn,K3,hp];rfl
    ·rcases JI.mp hp' with h | h
     ·exact hg p' h
     ·rw [JJ.mp h];exact⟨h1,h2,h3⟩
   ·rintro acc ⟨ps,rfl,hn,hg⟩;rw [qo] at hn;have hpl:ps.length<=8:=by
     have:=congrArg O9 hn;rw [Jv,Kw] at this;omega
    have pin:∀p∈ps,p.nm∈ss:=λp hp=>Ll (by rw [<-hn];exact JE.mpr ⟨p,hp,rfl⟩);have gp:iz ps:=⟨Qj,by rw [hn];exact snd.sublist (NS _ _),λp hp=>(sg _ (pin p hp)).ok,λp hp=>(hg p hp).1,λp hp=>(hg p hp).2⟩;have gn:∀os:List De,(∀x∈os,qQ x)->os.Pairwise mZ->os.length<=11->fk (ps.map De.pap++os)/\aj (ps.map De.pap++os)=ps:=λos ho hr ol=>by
     have pe:aj (ps.map De.pap++os)=ps:=by
      have h2:os.filterMap De.pp=[]:=List.filterMap_eq_nil_iff.mpr λx hx=>(ho x hx).np;have h1:(ps.map De.pap).filterMap De.pp=ps:=vQ ps;unfold aj;rw [Nr,h1,h2,J5]
     have sp:∀x∈ps.map De.pap++os,(∃p∈ps,x=De.pap p)\/x∈os:=λx hx=>by
      rcases JI.mp hx with h | h
      ·obtain⟨p,hp,rfl⟩:=JE.mp h;exact .inl ⟨p,hp,rfl⟩
      ·exact .inr h
     refine⟨⟨⟨by rw [pe];exact gp,λw d nm r hx=>?_,by rw [Kg,Jv];omega,λx hx=>?_,λx hx=>?_⟩,λd nm r hx=>?_,?_,λx hx hl=>?_⟩,pe⟩
     ·rcases sp _ hx with⟨p,_,e⟩ | h
      ·cases e
      ·exact(ho _ h).wp
     ·rcases sp _ hx with⟨p,_,rfl⟩ | h
      ·exact vR
      ·exact(ho _ h).w
     ·rcases sp _ hx with⟨p,hp,rfl⟩ | h
      ·exact gp.nm p hp
      ·exact(ho _ h).nm
     ·rcases sp _ hx with⟨p,_,e⟩ | h
      ·cases e
      ·exact(ho _ h).ho _ _ _ rfl
     ·refine Mj.mpr ⟨La.mpr (List.pairwise_of_forall λ_ _ h=>by cases h),hr,λx hx y _ h=>?_⟩;obtain⟨p,_,rfl⟩:=JE.mp hx;cases h
     ·rcases sp _ hx with⟨p,_,rfl⟩ | h
      ·cases hl
      ·exact(ho _ h).d0
    refine⟨_,e19,_,rfl,Qj,Qj,?_⟩;refine⟨λi δ=>∃(os:List De)(o9 o10 o11:Option Sl),(∀x∈os,qQ x)/\os.Pairwise mZ/\os.length<=i/\δ=[some (Sl.v (cN (J1 JM cs))),some (Sl.v (Kl (J1 JM ys))),some (Sl.v (JM (x0 % 9))),some (Sl.v (LX (x1 % 2==1))),some (Sl.v (LX (x1 / 2 % 3==1))),some (Sl.v (Kl (J1 JA ss))),some (Sl.v (Kl (J1 JA kk))),some (Sl.v (Kl (J1 JA bs))),some (Sl.o ((ps.map De.pap++os).map De.enc)),o9,o10,o11],⟨[],_,_,_,Qo,Qo,Qo,by rw [J5,<-AQ]⟩,?_,?_⟩
    ·rintro i z δ hz ⟨os,o9,o10,o11,ho,hr,ol,rfl⟩;obtain⟨hi,rfl⟩:=oh hz;simp only [qO,qP,↓lA,↓lF,↓lG,↓lH,↓lI,↓lJ,↓lK,↓lB,↓gO,↓kH,↓mw,↓mz,↓mB,↓mC,↓mD,↓mF,↓kI,↓kJ,↓kK,↓kL,↓kM,↓kN,↓kO,↓kP,↓kT,↓kU,↓kW,↓kX,↓kY,↓kZ,↓k6,↓k7,↓k8,↓k9,↓lg,↓lh,↓lq,↓lr,↓lu,↓lz,dF,fG,eM,fH,fI,iO,dG,eQ,fJ,fO,fP,iT,fv,dC,bK,dI,fW,fX,fY,iZ,fZ,cV,gB,gA,iX,gc,dL,eO,fx,iJ,dX,cS,ck,fy,fz,fA,fB,fC,fD,fE,iK,dE,iL,jD,jF,jG,jH,jI,jJ,jK,jL,jM,jN,jO,jP,jQ,jR,jS,jT,jU,jV,jW,jX,jY,jZ,j0,j1,j2,j3,j4,j5,j6,j7,j8,j9,kc,ke,kh,ki,kj,km,ko,kq,kr,ku,kz,jE,gi,iY,i1,eY,i8,i4,gf,gh,gr,gs,gu,gy,gz,eV,i2,gC,i3,cU,iU,iV,iW,fS,iP,iQ,iR,fT,fU,fV,iS,gH,gJ,gK,jB,gL,jA,jC,gG,jc,jd,je,cY,gI,jf,ja,jb,kA,kC,kD,kF,gM,gN,kG,gR,gQ,gS,gT,gU,lC,gW,gX,lM,g8,gZ,g6,gY,lP,hJ,hU,hV,hW,eh,hG,fh,ic,hZ,ia,ib,ie,lR,ig,lU,lV,lW,lY,lZ,l3,l4,l5,l6,lX,l7,l8,l9,ma,iw,il,iq,iu,iy,me,mh,mi,mf,mm,dO,ij,mn,mq,mr,mj,mv,jg,jq,jr,jt,ju,jv,jw,jx,jy,jz,ne_eq,jk,jl,jm,jn,jo,jh,ji,jj,eR,d5,eT,dZ,fN,fM,fL,cw,cC,bC,dj,dQ,cR,JB,Kk,JS,Kr,JU,KD,KC,J5,Lh,Li,Lz,LA,LB,Ki,J6,KN,KG,KH,KO,exists_eq_left',exists_eq_left,exists_and_left,exists_and_right,KZ,K0,Sl.v.injEq,Sl.o.injEq,Sl.k.injEq,KL,Lb,K5,K2,Lc,Kd,and_true,true_and,LC,Lm,exists_const,decide_eq_true_eq,LD,LG,Lq,Lr,Ko,decide_eq_false_iff_not,and_assoc,or_true,true_or,↓reduceIte,if_true,if_false,Kh,KW,not_true_eq_false,not_false_eq_true,LH,Lv,ite_true,ite_false,eq_self,exists_eq,reduceCtorEq,false_and,and_false,or_false,false_or,exists_false,Lw,Lx,cO,LY,L8,Kz,L9,LZ,Lf,Ly,Lo,cx,cy,cW,cF,cX,cG,eX,gE,beq_self_eq_true,i5,i6,i7,bJ,QK]
     refine⟨Qj,Qj,λc1 zs zl zn=>⟨zs,ss,kk,bs,_,rfl,Qj,zn,sg,Qj,Qj,kg,kl,bn,bs0,bs10,λx hx=>?_⟩⟩;have xo:=hx;have ok:∀y∈ps.map De.pap++os,bU 4 y.enc/\JK y.w=true/\JK y.nm=true:=λy hy=>by
      rcases JI.mp hy with h | h
      ·obtain⟨p,hp,rfl⟩:=JE.mp h;exact⟨(vZ gp hp).mono Qi,vR,gp.nm p hp⟩
      ·exact⟨(ho _ h).ly,(ho _ h).w,(ho _ h).nm⟩
     have ll:(ps.map De.pap++os).length<=20:=by rw [Kg,Jv];omega
     refine⟨by rw [Jv];omega,λk acc=>∃bs:List Bool,acc=bs.map .bool/\(bs.any id=false->∀y∈(ps.map De.pap++os).take k,x.isL=true->y.isL=true->¬(x.d=y.d/\x.nm=y.nm)),⟨[],rfl,Qo⟩,?_,?_⟩
     ·rintro k z acc hz ⟨bs,rfl,hb⟩;rw [JD] at hz;cases hz':(ps.map De.pap++os)[k]? with
      | none=>rw [hz'] at hz;cases hz
      | some y=>
       rw [hz'] at hz;cases hz;obtain⟨y1,y2,y3⟩:=ok y (JQ hz');simp only [qO,qP,↓lA,↓lF,↓lG,↓lH,↓lI,↓lJ,↓lK,↓lB,↓gO,↓kH,↓mw,↓mz,↓mB,↓mC,↓mD,↓mF,↓kI,↓kJ,↓kK,↓kL,↓kM,↓kN,↓kO,↓kP,↓kT,↓kU,↓kW,↓kX,↓kY,↓kZ,↓k6,↓k7,↓k8,↓k9,↓lg,↓lh,↓lq,↓lr,↓lu,↓lz,dF,fG,eM,fH,fI,iO,dG,eQ,fJ,fO,fP,iT,fv,dC,bK,dI,fW,fX,fY,iZ,fZ,cV,gB,gA,iX,gc,dL,eO,fx,iJ,dX,cS,ck,fy,fz,fA,fB,fC,fD,fE,iK,dE,iL,jD,jF,jG,jH,jI,jJ,jK,jL,jM,jN,jO,jP,jQ,jR,jS,jT,jU,jV,jW,jX,jY,jZ,j0,j1,j2,j3,j4,j5,j6,j7,j8,j9,kc,ke,kh,ki,kj,km,ko,kq,kr,ku,kz,jE,gi,iY,i1,eY,i8,i4,gf,gh,gr,gs,gu,gy,gz,eV,i2,gC,i3,cU,iU,iV,iW,fS,iP,iQ,iR,fT,fU,fV,iS,gH,gJ,gK,jB,gL,jA,jC,gG,jc,jd,je,cY,gI,jf,ja,jb,kA,kC,kD,kF,gM,gN,kG,gR,gQ,gS,gT,gU,lC,gW,gX,lM,g8,gZ,g6,gY,lP,hJ,hU,hV,hW,eh,hG,fh,ic,hZ,ia,ib,ie,lR,ig,lU,lV,lW,lY,lZ,l3,l4,l5,l6,lX,l7,l8,l9,ma,iw,il,iq,iu,iy,me,mh,mi,mf,mm,dO,ij,mn,mq,mr,mj,mv,jg,jq,jr,jt,ju,jv,jw,jx,jy,jz,ne_eq,jk,jl,jm,jn,jo,jh,ji,jj,eR,d5,eT,dZ,fN,fM,fL,cw,cC,bC,dj,dQ,cR,JB,Kk,JS,Kr,JU,KD,KC,J5,Lh,Li,Lz,LA,LB,Ki,J6,KN,KG,KH,KO,exists_eq_left',exists_eq_left,exists_and_left,exists_and_right,KZ,K0,Sl.v.injEq,Sl.o.injEq,Sl.k.injEq,KL,Lb,K5,K2,Lc,Kd,and_true,true_and,LC,Lm,exists_const,decide_eq_true_eq,LD,LG,Lq,Lr,Ko,decide_eq_false_iff_not,and_assoc,or_true,true_or,↓reduceIte,if_true,if_false,Kh,KW,not_true_eq_false,not_false_eq_true,LH,Lv,ite_true,ite_false,eq_self,exists_eq,reduceCtorEq,false_and,and_false,or_false,false_or,exists_false,Lw,Lx,cO,LY,L8,Kz,L9,LZ,Lf,Ly,Lo,cx,cy,cW,cF,cX,cG,eX,gE,beq_self_eq_true,i5,i6,i7,bJ,QK]
       refine⟨x,y,rfl,xo.ly,y1,xo.w,y2,xo.nm,y3,λb hb'=>⟨bs++[b],by rw [JZ];rfl,λe y' hy'=>?_⟩⟩;rw [List.any_append,Bool.or_eq_false_iff] at e;rw [K3,hz'] at hy';rcases JI.mp hy' with h | h
       ·exact hb e.1 y' h
       ·have:y'=y:=by simpa using h
        rw [this];exact hb' (by simpa using e.2)
     ·rintro acc ⟨bs,rfl,hb⟩;rw [Jv,J7 (Jy _)] at hb;refine⟨bs,rfl,?_⟩;split
      ·rename_i hn;have hb:=hb hn;refine⟨by rw [Jv];omega,os++[x],λy hy=>?_,Mj.mpr ⟨hr,Nc _ _,λy hy z hz h1 h2 e=>?_⟩,by simp;omega,by simp only [JZ,NV,JB,Kk],_,rfl⟩
       ·rcases JI.mp hy with h | h
        ·exact ho y h
        ·rw [JJ.mp h];exact xo
       ·rw [JJ] at hz;subst hz;exact hb y (Kc _ hy) h2 h1 ⟨e.1.symm,e.2.symm⟩
      ·exact⟨os,ho,hr,Qj,rfl,_,rfl⟩
    ·rintro δ ⟨os,o9,o10,o11,ho,hr,ol,rfl⟩;rw [qo] at ol;obtain⟨g,pe⟩:=gn os ho hr Qj;walk_at "a";refine⟨_,e20,_,rfl,?_⟩;generalize hys:ps.map De.pap++os=zs at g pe⊢;have ll:(zs.map De.enc).length=zs.length:=Jv _;have yl:=g.gx.ln;generalize htn:x20 % (((zs.map De.enc).length:Int)+1)=tn;have t0:0<=tn:=by rw [<-htn];exact LP _ Qj
     have t1:tn < ((zs.map De.enc).length:Int)+1:=by rw [<-htn];exact LW _ Qj
     refine⟨Qj,?_⟩;rw [ph t0 Qj,nq t0 Qj];refine⟨by rw [MI,Kw];omega,?_⟩;rw [<-OC,<-Ml,<-JZ];have hpm:(zs.drop tn.toNat++zs.take tn.toNat).Perm zs:=by
      refine List.perm_append_comm.trans ?_;rw [Md]
     refine q ss _ (g.perm hpm) sg Qj Qj λp h=>pin p ?_;rw [<-pe];unfold aj at h⊢;exact(hpm.filterMap _).mem_iff.mp h
  have hk3:bf (J1 JA ss) none (some 3)=(ss.take 3).map JA:=by rw [Jf,Ml]
  split
  ·split
   ·refine⟨_,rfl,?_⟩;rw [hk3];exact fin _ (λz hz=>sg z (Ll hz)) (by rw [Kw];omega)
   ·exact fin ks kg0 Qj
  ·exact fin ks kg0 Qj
end
theorem BG:aU (ax sU) ["_law_deeds","_law_above_here","_law_day_here","_law_stand","_law_name","_law_due","_law_hold_here","_law_target","_law_deep","_law_some"] ["_law_one","_law_target","_law_deeds"] 1 [7,0] ⟨JO,[ (Jw ".0",Sa),(Jw "_law_one",Sa),(Jw "_law_row",Kj),(Jw "_law_deeds",JP),(Jw "_law_target",JP)],false,false,[]⟩:= .of
section
variable {P:QA} {w:QE} {K:Ju} {mg:Str->Option Qr} {base:QB} {t:er}
def mJ(ps:List Pp)(c:Pp):Qp:= .list (((cf ps c).map (·.nm)).map .str)
def ny(ps os:List Pp):Qp:=dN (os.map (·.nm)) (os.map (mJ ps))
theorem v7{f:Pp->Qp}:∀{ps:List Pp}{p:Pp},(ps.map (·.nm)).Nodup->p∈ps->cQ (ps.map (·.nm)) (ps.map f) p.nm=some (f p)
 | x::ps,p,nd,h=>by
  rw [JB,JB];unfold cQ;rw [JB,LL] at nd;rcases JF.mp h with e | e
  ·rw [e,Ql rfl]
  ·rw [Qk (λz=>nd.1 (by rw [z];exact JE.mpr ⟨p,e,rfl⟩))];exact v7 nd.2 e
theorem Jj{ip:Bool}{tn:Str}{p:Pp}:((J3 [JA (Jt "paper"),JA p.nm]).eqv (cD ip tn) || (J3 [JA (Jt "kind"),JA p.kd]).eqv (cD ip tn))=c5 ip tn p:=by
 have n1:(Jt "kind"==Jt "paper")=false:=Qh
 have n2:(Jt "paper"==Jt "kind")=false:=Qh
 unfold c5 cD;cases ip <;> simp [JG,MD,n1,n2] <;> rw [OB]
theorem Jk{L:List Hd}(h:qM L)(hn:∀x∈L,JK x.nm=true):tm 4 (.tuple (L.map Hd.enc)):= .inr ⟨_,rfl,by rw [Jv];have:=h.1;omega,λx hx=>by
 obtain⟨z,hz,rfl⟩:=JE.mp hx;have hp:JK (if z.ip=true then Jt "paper" else Jt "kind")=true:=by cases z.ip <;> decide+kernel
 refine .inr ⟨_,rfl,Qo,λy hy=>?_⟩;simp only [JF,KA,or_false] at hy;rcases hy with e | e | e <;> rw [e]
 ·exact .inl (.inr (.inr (.inl ⟨_,rfl,hn z hz⟩)))
 ·refine .inr ⟨_,rfl,Qo,λy hy=>?_⟩;simp only [JF,KA,or_false] at hy;rcases hy with e | e <;> rw [e]
  ·exact .inl (.inr (.inr (.inl ⟨_,rfl,hp⟩)))
  ·exact .inl (.inr (.inr (.inl ⟨_,rfl,h.2 z hz⟩)))
 ·exact .inl (.inr (.inr (.inr ⟨_,rfl⟩)))⟩
def Jl:List Qp->(Qp->Prop)->Prop:=λds Q=>∃(xs:List De)(os:List Pp)(n:Int),ds=[.tuple (xs.map De.enc),ny (aj xs) os,.int n]/\fk xs/\os.Perm (aj xs)/\Q (.bool true)
theorem Jm(T:Txt K mg t):aB P w K mg base aM 10 t.a_Z t.d_Z ["_law_deeds","_law_above_here","_law_day_here"] (bb K Jl):=by
 have G_X:=@IE P w _ _ base _ T;have G_V:=@HX P w _ _ base _ T;have G_G:=@vY P w _ _ base _ T;have G_S:=@A5 P w _ _ base _ T;have G_J:=@IA P w _ _ base _ T;refine T.F_Z.F.okD nS (λds Q h=>?_) (λ_ _ _ _ H O ds Q E hr h=>?_)
 ·obtain⟨xs,os,n,rfl,_⟩:=h;rfl
 ·obtain⟨xs,os,n,rfl,g,hp,q⟩:=h;refine'⟨_,?A,?B⟩
  case A=>
   refine' au ?C ?D
   case C=>exact(bt (i:=3) nS.nd rfl Qm (ba G_X hr T.F_X (ae (dv 0) (ae (dv 2) ak))))
   case' D=>refine' au ?E ?F
   case E=>
    refine' bN ?G ?H bM
    case G=>exact(n6 (dD (PE.imp (sH G_V (hr.mono (Jy _)) rfl T.F_V (ae (ba G_G hr T.F_G (ae (dv 0) (ae (dv 2) ak))) (ae (dv 3) ak))) rM)))
    case H=>refine' aw (aX fw)
   case' F=>refine' au ?I ?J
   case I=>
    refine' G4 Kx rfl (dv 1) ?K aJ ?L
    case K=>exact(aH (i:=4) nS.nd rfl Qm)
    case' L=>refine' au ?M ?N
    case M=>exact(nH (i:=5) nS.nd rfl Qm (bZ ak))
    case' N=>refine' au ?O ?P
    case O=>
     refine' pd Kx rfl (dv 3) ?Q (oZ (dH aJ (dH aJ (dH aJ oY)))) ?R
     case Q=>exact(oK (n:=3) rfl (di (aH (i:=6) nS.nd rfl Qm) (di (aH (i:=7) nS.nd rfl Qm) (di (aH (i:=8) nS.nd rfl Qm) oJ))))
     case' R=>refine' au ?S ?T
     case S=>
      refine' bt (i:=9) nS.nd rfl Qm ?U (hs:=Fj)
      case U=>exact(uM (dD (dv 8)) (GA hr.units (dv 1) (dv 4) (λ_ _=>rfl)) (fe (bZ (ae (dv 4) ak))))
     case' T=>refine' aw ?V
     case' V=>refine' bN ?W ?X bM
     case W=>exact(dD (PE.imp (bI (uI rfl) rfl T.n_any uJ (bE (fe (dJ rfl BG (df (dv 9)) aJ bY Qi (λ_ _ _ _=>(aH (i:=0) BG.nd rfl Qm)) (λ_ _ _ _=>mR) (λ_ _ _ _=>(cT (sa hr) om (df (dv 1)) (df (bF (ae (bF (ae aZ (ae (dv 0) ak))) (ae (bF (ae aZ (ae (aq aE aF (ba G_S hr T.F_S (ae (dv 2) (ae (dv 0) ak))) af) ak))) ak)))) rfl)))) br)) (bL rR)))
     case' X=>refine' aw ?Y
     case Y=>exact(qi (i:=5) (pv 5) (dv 6))
    case' P=>refine' aw ?Z
    case' Z=>refine' bN ?a ?b bM
    case a=>exact(n6 (dD (PE.imp (sH G_V (hr.mono (Jy _)) rfl T.F_V (ae (ba G_J hr T.F_J (ae (dv 0) (ae (dv 2) (ae (dv 4) ak)))) (ae (PE.imp (nc oQ rfl T.n_tuple nE (nG (dw 5) br)) (bL pf)) ak))) rM)))
    case b=>refine' aw (aX fw)
   case J=>refine' aw (aX fw)
  case B=>
  clear hr T G_X G_V G_G G_S G_J;walk_at "a";refine⟨xs,n,rfl,g,λL hL=>⟨xs,n,rfl,g,λL' hL' hok=>?_⟩⟩;obtain rfl:L'=L:=Bc hL' hL;have hln:∀x∈L',JK x.nm=true:=λx hx=>by
   obtain⟨d,_,hd,_⟩:=(hL.mem x).mp hx;exact g.gx.nm _ hd
  have nd:=g.gx.gp.nd;have nd2:(os.map (·.nm)).Nodup:=(hp.map _).nodup_iff.mpr nd;refine⟨_,rfl,Jk hok hln,true,rfl,?_⟩;rw [Qk Qo];refine⟨_,⟨_,rfl⟩,?_⟩;refine⟨λi δ=>∃o4 o5 o6 o7 o8 o9,δ=[some (Sl.v (J3 (J1 De.enc xs))),some (Sl.v (ny (aj xs) os)),some (Sl.v (JM n)),some (Sl.v (.tuple (L'.map Hd.enc))),o4,o5,o6,o7,o8,o9],⟨_,_,_,_,_,_,rfl⟩,?_,?_⟩
  ·rintro i z δ hz ⟨o4,o5,o6,o7,o8,o9,rfl⟩;rw [JD,JD] at hz;cases hz':os[i]? with
   | none=>rw [hz'] at hz;cases hz
   | some c=>
    rw [hz'] at hz;cases hz;have hc:c∈aj xs:=hp.mem_iff.mp (JQ hz');have ha:cQ (os.map (·.nm)) (os.map (mJ (aj xs))) c.nm=some (mJ (aj xs) c):=v7 nd2 (JQ hz');generalize hB:eM _ _ _=TB;walk_at "a";refine⟨λj δ=>∃o6 o7 o8 o9,δ=[some (Sl.v (J3 (J1 De.enc xs))),some (Sl.v (ny (aj xs) os)),some (Sl.v (JM n)),some (Sl.v (.tuple (L'.map Hd.enc))),some (Sl.v (.str c.nm)),some (Sl.o ((((L'.take j).filter (cM (cf (aj xs) c))).map (·.nm)).map .str)),o6,o7,o8,o9],⟨_,_,_,_,rfl⟩,?_,?_⟩
    ·rintro j z δ hz ⟨o6,o7,o8,o9,rfl⟩;rw [JD] at hz;cases hj:L'[j]? with
     | none=>rw [hj] at hz;cases hz
     | some h=>
      rw [hj] at hz;cases hz;have hh:h∈L':=JQ hj;have tk:L'.take (j+1)=L'.take j++[h]:=by rw [K3,hj];rfl
      generalize hE:ni.mk _ _ _ _=EE;have eN:=congrArg ni.nx hE;clear hE;simp only [Hd.enc];have fin:∀l:List Pp,(∀p∈l,p∈aj xs)->l.length<=41->cM (cf (aj xs) c) h=l.any (c5 h.ip h.tn)->TB EE [some (Sl.v (J3 (J1 De.enc xs))),some (Sl.v (ny (aj xs) os)),some (Sl.v (JM n)),some (Sl.v (.tuple (L'.map Hd.enc))),some (Sl.v (.str c.nm)),some (Sl.o ((((L'.take j).filter (cM (cf (aj xs) c))).map (·.nm)).map .str)),some (Sl.v (.str h.nm)),some (Sl.v (cD h.ip h.tn)),some (Sl.v (.bool h.dp)),some (Sl.v (.list ((l.map (·.nm)).map .str)))]:=λl hl ll hd=>by
       subst hB;walk_at "a";refine⟨by rw [Jv,Jv];omega,λk acc=>acc=(l.take k).map λp=>LX (c5 h.ip h.tn p),rfl,?_,?_⟩
       ·rintro k z acc hz rfl;rw [JD,JD] at hz;cases hk:l[k]? with
        | none=>rw [hk] at hz;cases hz
        | some p=>
         rw [hk] at hz;cases hz;have hp2:=hl p (JQ hk);walk_at "a";have wp:JK (if h.ip=true then Jt "paper" else Jt "kind")=true:=by cases h.ip <;> decide+kernel
         refine⟨xs,p,rfl,g.gx,hp2,_,rfl,_,cF,(i9 (n:=1) (bB (cq wp) (bB (cq (hok.2 h hh)) fb))).shp Qi,(qu (n:=2) (bB (i9 (bB (cq Qh) (bB (cq (g.gx.gp.nm p hp2)) fb))) (bB (i9 (bB (cq Qh) (bB (cq (g.gx.gp.kd p hp2)) fb))) fb))).1,?_⟩;rw [Jj,K3,hk,JZ];rfl
       ·rintro acc rfl;rw [Jv,Jv,J7 (Jy _)];have e:(l.map λp=>c5 h.ip h.tn p).any id=cM (cf (aj xs) c) h:=by rw [hd,OT];rfl
        have lt:((L'.take j).filter (cM (cf (aj xs) c))).length<=41:=Km (KJ _ _) (by rw [Kw];have:=hok.1;omega);refine⟨l.map λp=>c5 h.ip h.tn p,by rw [Ku];rfl,?_⟩;by_cases ht:cM (cf (aj xs) c) h=true
        ·rw [Ql (e.trans ht)];refine⟨by rw [Jv,Jv];omega,?_⟩;have e2:(((L'.take (j+1)).filter (cM (cf (aj xs) c))).map (·.nm)).map JA=(((L'.take j).filter (cM (cf (aj xs) c))).map (·.nm)).map JA++[JA h.nm]:=by
          rw [tk,M6,LV,Ql ht,Py,JZ,JZ];rfl
         rw [<-eN,<-e2];exact⟨_,_,_,_,rfl⟩
        ·rw [Qk (λz=>ht (e.symm.trans z))];have e2:(L'.take (j+1)).filter (cM (cf (aj xs) c))=(L'.take j).filter (cM (cf (aj xs) c)):=by
          rw [tk,M6,LV,Qk ht,Py,J5]
         rw [<-eN,<-e2];exact⟨_,_,_,_,rfl⟩
      walk_at "a";have lk:=Bn g.gx.gp hc;have lo:=Bm nd hc;split
      ·rename_i hdp;refine⟨_,_,rfl,_,ha,?_⟩;exact fin _ lo.sb lk.1 (by unfold cM;rw [Ql hdp])
      ·rename_i hdp;refine fin [c] (λp hp=>by rw [JJ.mp hp];exact hc) Qo ?_;unfold cM;rw [Qk hdp];obtain⟨tl,e⟩:=lo.hd;rw [e];rfl
    ·rintro δ ⟨o6,o7,o8,o9,rfl⟩;walk_at "a";rw [Jv,J7 (Jy _)];refine⟨xs,n,c,rfl,g,hc,λL hL2 _=>?_⟩;obtain rfl:L=L':=Bc hL2 hL;refine⟨_,rfl,HY (λz hz=>?_) ?_,true,rfl,?_⟩
     ·obtain⟨x,hx,rfl⟩:=JE.mp hz;exact hln x (Kq.mp hx).1
     ·unfold m3;rw [Jv];have:=KJ (cM (cf (aj xs) c)) L;have:=hok.1;omega
     ·rw [Qk Qo];exact⟨_,rfl⟩
  ·rintro δ ⟨o4,o5,o6,o7,o8,o9,rfl⟩;walk_at "a";exact q
end
theorem BH:aU (ax qH) ["_law_script","_law_names_here","_law_deeds","_law_above_here","_law_name","_law_days","_law_deed","_law_day_here","_law_odd","_law_thing"] ["_law_name","_law_above_here"] 1 [3] ⟨JO,[ (Jw ".0",Sa),(Jw "_law_name",Sa),(Jw "_law_above_here",JP)],false,false,[]⟩:= .of
theorem Jn:aU (ax qH) ["_law_script","_law_names_here","_law_deeds","_law_above_here","_law_name","_law_days","_law_deed","_law_day_here","_law_odd","_law_thing"] ["_law_deeds","_law_thing"] 0 [2,9] ⟨JO,[ (Jw "_law_deeds",JP),(Jw "_law_thing",JP),(Jw "covering",Kj)],false,false,[]⟩:= .of
section
variable {P:QA} {w:QE} {K:Ju} {mg:Str->Option Qr} {base:QB} {t:er}
def F_a:List Qp->(Qp->Prop)->Prop:=λds Q=>∃ns:List Int,ds=[cN (ns.map .int)]/\ns.length<=63/\(∀z∈ns,LK z<=1048576)/\Q (.bool true)
def lamQ:Str:="law.<locals>.<lambda>"
theorem Jo:(Jt "law"++Jt ".<locals>.")++Jt "<lambda>"=lamQ:=Qh
def sp_law(K:Ju)(PT:Qs):Sp:=Ax PT lamQ K F_a
theorem start_law{K:Ju}{H:Hp}{a PT:Qs}{ns:List Int}(hl:ns.length<=63)(hb:∀z∈ns,LK z<=1048576)(hP:H PT=some (ik lamQ))(hS:aS K H a (ns.map V.int)):sp_law K PT [.ref a] H (λv _=>v= .bl true) λ_ _ _=>False:=
 ⟨hP,λ_=>False,[cN (ns.map .int)],λd=>d= .bool true,λ_ z=>z.elim,.cons (.scr (by
  rcases hS with h | h
  ·exact .inl ⟨h,λz=>z⟩
  ·exact .inr (.inr h)) (ah.ints ns)) .nil,⟨ns,rfl,hl,hb,rfl⟩,λd v H' e _ r=>by subst e;cases r;rfl⟩
def IK(kd:List (ag×Qp)):Prop:=(∀p∈kd,∃z:Int,p.1= .inl z)/\kd.length<=11
theorem IK.put{kd:List (ag×Qp)}(z:Int)(h:IK kd)(hl:(kd.length:Int) < 11):IK (d8 kd (.inl z) (.bool true)):=by
 unfold d8;split
 ·refine⟨λp hp=>?_,by rw [Jv];exact h.2⟩;obtain⟨q,hq,rfl⟩:=JE.mp hp;split
  ·exact h.1 q hq
  ·exact h.1 q hq
 ·refine⟨λp hp=>?_,by rw [Kg];simp;omega⟩;rcases JI.mp hp with h' | h'
  ·exact h.1 p h'
  ·rw [JJ.mp h'];exact⟨z,rfl⟩
theorem Jp{ps qs:List Pp}(nd:(ps.map (·.nm)).Nodup)(h:qs.Perm ps)(c:Pp):cf qs c=cf ps c:=by
 have n:∀l c,nv qs l c=nv ps l c:=λl c=>by unfold nv fj;rw [HC nd h]
 have:∀f l i,dh qs f l i=dh ps f l i:=by
  intro f
  induction f with
  | zero=>intro l i;rfl
  | succ f ih=>
   intro l i;rw [dh,dh];cases l[i]? with
   | none=>rfl
   | some c=>show dh qs f _ _=dh ps f _ _;rw [n,ih]
 unfold cf;rw [h.length_eq,this]
theorem ok_law{c PT:Qs}(T:Txt K mg t)(LF:oq base mg c PT)(hco:t.d_a.code= .ref c):aB P w K mg base aM 15 t.a_a t.d_a ["_law_script"] (sp_law K PT):=by
 have G_R:=@Ji P w _ _ base _ T;have G_Z:=@Jm P w _ _ base _ T;have G_T:=@A6 P w _ _ base _ T;have G_W:=λbase':QB=>IB (P:=P) (w:=w) (base:=base') T;have G_Y:=@IG P w _ _ base _ T;have X_covering:=λbase':QB=>Iy (P:=P) (w:=w) (base:=base') T;refine T.F_a.F.okDL hco mG (λds Q h=>?_) (λcdv A outer s H O ds Q E hcode hP0 hr h=>?_)
 ·obtain⟨ns,rfl,_⟩:=h;rfl
 ·obtain⟨cs,rfl,hl,hb,q⟩:=h;refine'⟨_,?A,?B⟩
  case A=>
   refine' au ?C ?D
   case C=>exact(uN (ba G_R hr T.F_R (ae (dv 0) ak)) (oK (n:=2) rfl (di (aH (i:=1) mG.nd rfl Qm) (di (aH (i:=2) mG.nd rfl Qm) oJ))) (oZ (dH aJ (dH aJ oY))))
   case' D=>refine' au ?E ?F
   case E=>exact(u5 (i:=3) mG.nd rfl Qm yE)
   case' F=>refine' au ?G ?H
   case G=>
    refine' rP Kx rfl (ba G_T hr T.F_T (ae (dv 2) ak)) ?I aJ ?J
    case I=>exact(aH (i:=4) mG.nd rfl Qm)
    case' J=>refine' aw ?K
    case K=>exact(u7 (i:=3) hr.units (pv 3) (dv 4) (ba G_Y hr T.F_Y (ae (dv 2) (ae (dv 4) ak))))
   case' H=>refine' au ?L ?M
   case L=>
    generalize hD10:Expr.Dict _ _ _=ed10;refine' u5 (i:=5) mG.nd rfl Qm ?N (hs:=by subst hD10;first | rfl | exact Fl)
    case' N=>subst hD10
    refine' Gd ?p10_0
    case p10_0=>
     refine' vh af fw ?p10_1
     case p10_1=>
      refine' vh af fw ?p10_2
      case p10_2=>
       refine' vh ?O fw ?p10_3
       case O=>exact(av wB aK af af)
       case p10_3=>exact Gb
   case' M=>refine' au ?P ?Q
   case P=>
    refine' pd Kx rfl (dv 2) ?R aJ ?S
    case R=>exact(aH (i:=6) mG.nd rfl Qm)
    case' S=>refine' aw ?T
    case' T=>generalize hG14:Qf _ _=eg14
    refine' D6 Kx rfl ?U ?V aJ ?W (hs:=by subst hG14;intro _;rfl)
    case U=>
     subst hG14;refine' fe ?X
     case' X=>refine' bZ ?Y
     case' Y=>refine' ae ?Z ?a
     case Z=>exact(av p6 bT (aq aE aF (dv 6) af) af)
     case' a=>refine' ae ?b ?c
     case b=>exact(aq aE aF (dv 6) af)
     case' c=>refine' ae ?d ak
     case d=>exact(av cu bT (aq aE aF (dv 6) af) af)
    case V=>exact(aH (i:=7) mG.nd rfl Qm)
    case' W=>refine' aw ?e
    case' e=>refine' bN ?f ?g bM
    case f=>exact(aR mP cP (Hq (pv 5) rfl T.n_len) af (aI _))
    case' g=>refine' aw ?h
    case h=>exact(u7 (i:=5) hr.units (pv 5) (PE.imp (bI (Cu rfl) rfl T.n_max Oo (bE af (bE (PE.imp (bI (Cv rfl) rfl T.n_min Qa (bE af (bE (dv 7) br))) (bL xF)) br))) (bL xF)) fw)
   case' Q=>refine' au ?i ?j
   case i=>
    refine' Gz 3 ?k
    case' k=>refine' Ga (i:=5) Kx rfl (pv 5) ?l aJ ?m
    case l=>exact(aH (i:=7) mG.nd rfl Qm)
    case' m=>refine' aw ?n
    case' n=>refine' bN ?o ?p bM
    case o=>exact(PW.pt (rL (n6 (dD (ba G_Z hr T.F_Z (ae (dv 2) (ae (dv 3) (ae (dv 7) ak)))))) (rK (n6 (dD (ba G_Z hr T.F_Z (ae (Fh (df (dv 2))) (ae (dv 3) (ae (dv 7) ak)))))))))
    case p=>refine' aw (aX fw)
   case' j=>refine' au ?q ?r
   case q=>
    generalize hG36:Px _ _ _ _=eg36;refine' bt (i:=8) mG.nd rfl Qm ?s (hs:=by subst hG36;exact mV)
    case' s=>subst hG36
    refine' fe ?t
    case' t=>refine' qm (df ?u) (df ?v)
    case u=>
     refine' fe ?w
     case w=>exact(dJ rfl BH (df (dv 1)) aJ bY Qi (λ_ _ _ _=>(aH (i:=0) BH.nd rfl Qm)) (λ_ _ _ _=>(dU (G1 hr.units (dv 1) (dv 0)))) (λ_ _ _ _=>(dv 0)))
    case' v=>refine' fe ?x
    case' x=>refine' bZ ?y
    case' y=>refine' ae aZ ?z
    case' z=>refine' ae rG ?A0
    case' A0=>refine' ae af ?A1
    case' A1=>refine' ae fw ?A2
    case' A2=>refine' ae ?A3 ?A4
    case A3=>exact(fe (bZ (ae (aq aL aO (dv 1) af) ak)))
    case' A4=>refine' ae ?A5 ?A6
    case A5=>exact(bF (ae (aq aL aO (dv 1) af) ak))
    case' A6=>refine' ae E7 ?A7
    case' A7=>refine' ae ?A8 ak
    case A8=>exact(bF (ae (fe (bZ ak)) ak))
   case' r=>refine' au ?A9 ?AA
   case A9=>
    refine' rP Kx rfl (dv 8) ?AB aJ ?AC
    case AB=>exact(aH (i:=9) mG.nd rfl Qm)
    case' AC=>refine' aw ?AD
    case' AD=>refine' bN ?AE ?AF bM
    case AE=>exact(n6 (dD (Hh (C:=t.u_NoPaper) (k0:=13) G_W X_covering (hr.mono Qi) T.F_W T.F_J hP0 LF hcode Jo Jn Qi (λ_=>rfl) (λ_ _ _ _ _ _ _ _ _=>(ae (dv 0) (ae af (ae (dv 1) ak)))))))
    case AF=>refine' aw (aX fw)
   case AA=>refine' aw (aX fw)
  case B=>
  clear G_R G_Z G_T G_W G_Y X_covering hr T LF hcode hP0;walk_at "a";refine⟨cs,rfl,λns xs g nn n2 n10 hin=>?_⟩;have ln:=g.gx.gp.ln;refine⟨_,rfl,rfl,_,_,rfl,_,_,rfl,rfl,xs,rfl,g.gx,_,rfl,?_⟩;refine⟨λi δ=>∃o4,δ=[some (Sl.v (cN (J1 JM cs))),some (Sl.v (Kl (J1 JA ns))),some (Sl.v (J3 (J1 De.enc xs))),some (Sl.k (((aY (aj xs)).take i).map λc=>(.inr c.nm,mJ (aj xs) c))),o4,none,none,none,none,none],⟨_,rfl⟩,?_,?_⟩
  ·rintro i z δ hz ⟨o4,rfl⟩;rw [JD,JD] at hz;cases hz':(aY (aj xs))[i]? with
   | none=>rw [hz'] at hz;cases hz
   | some c=>
    rw [hz'] at hz;cases hz;have hc:=pK.mp (JQ hz');walk_at "a";refine⟨xs,c,rfl,g.gx,hc,by rw [Jv,Kw,sZ];omega,?_,_,rfl⟩;rw [K3,hz',JZ];unfold d8;rw [Qk]
    ·rfl
    ·intro h;obtain⟨p,hp,e⟩:=MK.mp h;obtain⟨o,ho,rfl⟩:=JE.mp hp;have e:o.nm=c.nm:=P2 (of_decide_eq_true e);have:=AO (nU g.gx.gp.nd) hz' ho;have oc:=ti g.gx.gp.nd (pK.mp (Ll ho)) hc e;rw [oc] at this;exact Pp.lt_irr c this
  ·rintro δ ⟨o4,rfl⟩;rw [Jv,Jv,J7 (Jy _)];generalize hA:dF (fh _ _) _=TA;walk_at "a";refine⟨Qi,[(.inl 0,.bool true),(.inl 99999,.bool true),(.inl 1000000000,.bool true)],rfl,Qi,?_,?_⟩
   ·intro p hp;simp only [JF,KA,or_false] at hp;rcases hp with e | e | e <;> rw [e]
   refine⟨λi δ=>∃(kd:List (ag×Qp))(o6 o7:Option Sl),(∀p∈kd,∃z:Int,p.1= .inl z)/\kd.length<=11/\δ=[some (Sl.v (cN (J1 JM cs))),some (Sl.v (Kl (J1 JA ns))),some (Sl.v (J3 (J1 De.enc xs))),some (Sl.k ((aY (aj xs)).map λc=>(.inr c.nm,mJ (aj xs) c))),o4,some (Sl.k kd),o6,o7,none,none],⟨_,_,_,?_,?_,rfl⟩,?_,?_⟩
   ·intro p hp;have e:Qc (λ(a:List (ag×Qp)) p=>d8 a p.fst p.snd) [] [(.inl 0,.bool true),(.inl 99999,.bool true),(.inl 1000000000,.bool true)]=[(.inl 0,.bool true),(.inl 99999,.bool true),(.inl 1000000000,.bool true)]:=rfl;rw [e] at hp;simp only [JF,KA,or_false] at hp;rcases hp with e | e | e <;> rw [e] <;> exact⟨_,rfl⟩
   ·decide+kernel
   ·rintro i z δ hz ⟨kd,o6,o7,hk,kl,rfl⟩;rw [JD] at hz;cases hz':xs[i]? with
    | none=>rw [hz'] at hz;cases hz
    | some x=>
     rw [hz'] at hz;cases hz;obtain⟨rx,ex⟩:∃r,x.enc= .tuple (.str x.w:: .int x.d:: .str x.nm::r):=by cases x <;> exact⟨_,rfl⟩
     rw [ex];walk_at "a";split
     ·rename_i h1;have k1:=IK.put (if (if x.d - 1 < 99999 then x.d - 1 else 99999) > 0 then if x.d - 1 < 99999 then x.d - 1 else 99999 else 0) ⟨hk,kl⟩ h1;refine⟨Qj,?_⟩;generalize d8 kd _ _=kd1 at k1⊢;have l1:=k1.2;split
      ·rename_i h2;have k2:=IK.put (if (if x.d < 99999 then x.d else 99999) > 0 then if x.d < 99999 then x.d else 99999 else 0) k1 h2;refine⟨Qj,?_⟩;generalize d8 kd1 _ _=kd2 at k2⊢;have l2:=k2.2;split
       ·rename_i h3;have k3:=IK.put (if (if x.d+1 < 99999 then x.d+1 else 99999) > 0 then if x.d+1 < 99999 then x.d+1 else 99999 else 0) k2 h3;exact⟨Qj,_,k3.1,k3.2,rfl,_,rfl⟩
       ·exact⟨_,k2.1,k2.2,rfl,_,rfl⟩
      ·exact⟨_,k1.1,k1.2,rfl,_,rfl⟩
     ·exact⟨_,hk,kl,rfl,_,rfl⟩
   ·rintro δ ⟨kd,o6,o7,hk,kl,rfl⟩;subst hA;generalize hB:dF (dG 8 _) _=TB;walk_at "a";have pm:=mH (aj xs);have rv:(aj xs.reverse).Perm (aj xs):=(O8 xs).filterMap _;have hab:ny (aj xs.reverse) (aY (aj xs))=ny (aj xs) (aY (aj xs)):=by
     have:mJ (aj xs.reverse)=mJ (aj xs):=by
      funext c;unfold mJ;rw [Jp g.gx.gp.nd rv]
     unfold ny;rw [this]
    refine⟨(aY (aj xs)).map (·.nm),by rw [Ku,Ku];rfl,?_⟩;have ed:J1 (λx:ag×Qp=>x.snd) (J1 (λc:Pp=>((.inr c.nm:ag),mJ (aj xs) c)) (aY (aj xs)))=(aY (aj xs)).map (mJ (aj xs)):=by rw [Ku];rfl
    rw [ed];refine⟨λi δ=>∃o7:Option Sl,δ=[some (Sl.v (cN (J1 JM cs))),some (Sl.v (Kl (J1 JA ns))),some (Sl.v (J3 (J1 De.enc xs))),some (Sl.v (ny (aj xs) (aY (aj xs)))),o4,none,o6,o7,none,none],⟨_,rfl⟩,?_,?_⟩
    ·rintro i z δ hz ⟨o7,rfl⟩;rw [JD] at hz;cases hz':kd[i]? with
     | none=>rw [hz'] at hz;cases hz
     | some p=>
      rw [hz'] at hz;cases hz;obtain⟨z,ez⟩:=hk p (JQ hz');show dZ 7 (d6 p.fst) _ _;rw [ez];simp only [d6];walk_at "a";refine⟨xs,_,z,rfl,g,pm,true,rfl,?_⟩;rw [Qk Qo];refine⟨xs.reverse,aY (aj xs),z,by rw [hab,List.map_reverse],g.perm (O8 xs),pm.trans rv.symm,true,rfl,?_⟩;rw [Qk Qo];exact⟨_,rfl⟩
    ·rintro δ ⟨o7,rfl⟩;subst hB;walk_at "a";refine⟨by rw [Jv];omega,?_⟩;refine⟨λk acc=>∃zs:List Str,acc=zs.map .str/\zs.length<=k/\∀z∈zs,z∈ns/\∀p∈aj xs,p.nm≠z,⟨[],rfl,Qo,Qo⟩,?_,?_⟩
     ·rintro k z acc hz ⟨zs,rfl,zl,zn⟩;rw [JD] at hz;cases hz':ns[k]? with
      | none=>rw [hz'] at hz;cases hz
      | some n=>
       rw [hz'] at hz;cases hz;walk_at "a";have hn:=JQ hz';refine⟨_,_,rfl,?_⟩;split
       ·rename_i hc;refine⟨zs++[n],by rw [JZ];rfl,by simp;omega,λz hz=>?_⟩;rcases JI.mp hz with h | h
        ·exact zn z h
        ·rw [JJ.mp h];refine⟨hn,λp hp e=>?_⟩;have:=v7 (f:=mJ (aj xs)) ((pm.map _).nodup_iff.mpr g.gx.gp.nd) (pm.mem_iff.mpr hp);rw [e] at this;rw [this] at hc;simp at hc
       ·exact⟨zs,rfl,Qj,zn⟩
     ·rintro acc ⟨zs,rfl,zl,zn⟩;rw [Jv] at zl;obtain⟨n0,hn0,e0,g0⟩:=m6 nn (i:=0) Qi Qj;refine⟨_,e0,_,e0,by rw [Jv];omega,?_⟩;have odd:∀z∈(J1 JA zs++[JA (Jt ""),ND,JM 0,LX true,Kl [.str n0],J3 [.str n0],P9 [],J3 [Kl []]]),v3 xs z:=λz hz=>by
       simp only [JI,JF,KA,or_false,JE] at hz;rcases hz with⟨y,hy,rfl⟩ | h | h | h | h | h | h | h | h
       ·exact⟨rfl,λp hp=>by rw [cG];exact mI ((zn y hy).2 p hp)⟩
       ·rw [h];refine⟨rfl,λp hp=>?_⟩;rw [cG];refine mI λe=>?_;have:=(nn _ (hin p hp)).lo;rw [e] at this
        revert this;decide+kernel
       all_goals (rw [h];exact⟨rfl,λp hp=>by simp [JG]⟩)
      generalize J1 JA zs++[JA (Jt ""),ND,JM 0,LX true,Kl [.str n0],J3 [.str n0],P9 [],J3 [Kl []]]=L at odd⊢;refine⟨λi δ=>∃o5,δ=[some (Sl.v (cN (J1 JM cs))),some (Sl.v (Kl (J1 JA ns))),some (Sl.v (J3 (J1 De.enc xs))),some (Sl.v (ny (aj xs) (aY (aj xs)))),o4,none,o6,o7,some (Sl.v (.list L)),o5],⟨_,rfl⟩,?_,?_⟩
      ·rintro i z δ hz ⟨o5,rfl⟩;have np:=odd z (JQ hz);walk_at "a";exact⟨xs,12,z,rfl,g,np,_,rfl⟩
      ·rintro δ ⟨o5,rfl⟩;walk_at "a";exact q
end
end K12
namespace PySem.W.Fast
def tw10184573872095121384:=0
def tw568397653090204159:=0
def tw8467920580880822468:=0
def tw5372729956170551130:=0
def tw226556236991413931:=0
def tw2574182547765252003:=0
def tw8497190967575598501:=0
def tw6899206356996282721:=0
def tw4382929899857868934:=0
def tw10567804052052823153:=0
def tw17025231894725384616:=0
def tw16294138693100212280:=0
def tw2602952950943463740:=0
def tw11238729621513985309:=0
def tw15874443171750175282:=0
def tw619827078557320192:=0
def tw18301546157183823574:=0
def tw5749055473404518469:=0
def tw18157312361697928735:=0
def tw8095822085965152628:=0
def tw8637505624422483624:=0
def tw3316958296182145285:=0
def tw10737565544628417274:=0
def tw18394602896594213546:=0
def tw251455066886014691:=0
def tw17960328281283008610:=0
def tw15177677378946149118:=0
def tw7598579966157992457:=0
def tw16229239705829861268:=0
def tw6816458708651514870:=0
def tw15337945894609688930:=0
def tw14534842231635057456:=0
def tw2082039412458591886:=0
def tw16176592404455980701:=0
def tw12860582711528160481:=0
def tw4898108025640545983:=0
def tw2927124288392965802:=0
def tw17096991435921246213:=0
def tw1463451530719857503:=0
def tw17671037188004873923:=0
def tw12812382079291566564:=0
def tw2220841827882534404:=0
def tw9406017237953819347:=0
def tw780492697656654455:=0
def tw15007749035589706448:=0
def tw3247691059696526360:=0
def tw12039033641019841573:=0
def tw2092359535632548035:=0
def tw16323904644553138929:=0
def tw279645727023305526:=0
def tw9559615585002041627:=0
def tw8991028695742662317:=0
def tw10595361219665128306:=0
def tw1354997096944870720:=0
def tw9401872590902205924:=0
def tw9586503077073449930:=0
def tw1098184556752406498:=0
def tw88242910095743158:=0
def tw6694085906024637452:=0
def tw7571767551416737106:=0
def tw16532021826180160254:=0
def tw18440877131397729360:=0
def tw13019177165281179270:=0
def tw8821674621932220653:=0
def tw3040683038574568298:=0
def tw16584468621152519704:=0
def tw11899453435504498558:=0
def tw5283911200342824484:=0
def tw5625231430404412502:=0
def tw4709784698800629906:=0
def tw3593132638879836374:=0
def tw13041986221447010724:=0
def tw8686305793627277054:=0
def tw5994014718364137086:=0
def tw13890225041410801444:=0
def tw3515696695574841979:=0
def tw4858441833693700879:=0
def tw11884116506284191199:=0
def tw14612376613595693658:=0
def tw17161365387495824675:=0
def tw9576802656975225867:=0
def tw329450824935917928:=0
def tw249077186079545935:=0
def tw1844117000344400702:=0
def tw3173411158635475473:=0
def tw17691439306985641730:=0
def tw15804401932097699774:=0
def tw17748785663036719850:=0
def tw14993784636648592630:=0
def tw16936886171745585:=0
def tw12512105478216190252:=0
def tw1512306636654187679:=0
def tw2024948642203713273:=0
def tw3080004390275012490:=0
def tw2978493389006664778:=0
def tw11073116774932429675:=0
def tw14236166789350811021:=0
def tw16268329365515088360:=0
def tw1838684233238302409:=0
def tw15569168969867267418:=0
def tw6236212804271313141:=0
def tw904008765986278279:=0
def tw8407257359081661056:=0
def tw15793489302886620828:=0
def tw3575499090125663498:=0
def tw4190207905407662883:=0
def tw12025943372157416844:=0
def tw5913958496121910087:=0
def tw1103281007016766895:=0
def tw7573319154636417768:=0
def tw18440616263623461040:=0
def tw155445819726865875:=0
def tw10469332771599682898:=0
def tw2854569616997859900:=0
def tw434430400577023993:=0
def tw8469230403259320092:=0
def tw583986789841315851:=0
def tw4380020289679065365:=0
def tw2615533190818368636:=0
def tw2088232341505977490:=0
def tw17823179063426584728:=0
def tw7178030593412675815:=0
def tw14432248198697002608:=0
def tw5667895804979889889:=0
def tw7947464929061919242:=0
def tw8205567513376055147:=0
def tw15150748087314752527:=0
def tw2295322132559552244:=0
def tw15898730493977524329:=0
def tw9608988078470231405:=0
def tw8126440445839937061:=0
def tw5992391569103925412:=0
def tw14188774052265923963:=0
def tw6423293739324939942:=0
def tw1511251151662762551:=0
def tw14268719744240266426:=0
def tw3220156668671825065:=0
def tw7005737669710051058:=0
def tw10739351293800558695:=0
def tw14429019352422619622:=0
def tw7718731816556803702:=0
def tw17622663607570094522:=0
def tw9730224544704097007:=0
def tw17595103232498504020:=0
def tw17853658206799800446:=0
def tw18437375250258586570:=0
def tw6349924416739784901:=0
def tw1595370117416331827:=0
def tw16315996107924141531:=0
def tw9479967144756786341:=0
def tw3428298375481250875:=0
def tw5536856196575458899:=0
def tw293921846992532238:=0
def tw17843409731081166371:=0
def tw3968452878161754046:=0
def tw15023769551502900808:=0
def tw8185024391471664248:=0
def tw13895756013440596142:=0
def tw17576023746413869285:=0
def tw17681232581831185976:=0
def tw5773824683009621385:=0
def tw3165437194914679603:=0
def tw15129249060824343330:=0
def tw14100905378311641145:=0
def tw12846028961751692059:=0
def tw477277854677017339:=0
def tw6281596847955578579:=0
def tw8535648986999153747:=0
def tw701300952485030138:=0
def tw11311479382086515804:=0
def tw4009254815692966561:=0
def tw16594973866962783965:=0
def tw13822723199726856727:=0
def tw13619184101577490504:=0
def tw12385568688886390623:=0
def tw906117066968751935:=0
def tw529401603875845064:=0
def tw7779202088752957034:=0
def tw2686080562934320843:=0
def tw6349123918751522808:=0
def tw8891494224996395538:=0
def tw623709856145489059:=0
def tw8453037585396050340:=0
def tw15576931549318768533:=0
def tw7065762936001948594:=0
def tw8422999871811660782:=0
def tw5261671188061184088:=0
def tw6258353206798389711:=0
def tw5846214240402941709:=0
def tw12248426111876895074:=0
def tw3590728067347680344:=0
def tw17313663720699659591:=0
def tw11466066530167596792:=0
def tw9925884888261687481:=0
def tw1470934487689769787:=0
def tw3768707400794385026:=0
def tw14314853060977806704:=0
def tw17243825613986516679:=0
def tw17142338270182318542:=0
def tw14552503581539022942:=0
def tw13914571490964548123:=0
def tw2908509830766243784:=0
def tw14098069879867999628:=0
def tw13954361998318869612:=0
def tw7887230094867087211:=0
def tw2120017366676408145:=0
def tw13168434866424898051:=0
def tw5490241040021267524:=0
def tw16746609009292330364:=0
def tw17674432971181870127:=0
def tw962521100465967287:=0
def tw13198609178292225323:=0
def tw5225276272176259018:=0
def tw15511666260670064335:=0
def tw12308006562119960305:=0
def tw9830280204057204503:=0
def tw9335709550787325737:=0
def tw8393222712320481834:=0
def tw6975555686026346804:=0
def tw4810467161758191685:=0
def tw329590019376454461:=0
def tw2240157052893753879:=0
def tw16573517203254809199:=0
def tw15441689859891240711:=0
def tw14596651395729335202:=0
def tw13904260011730854796:=0
def tw10200437746786587242:=0
def tw10072632997022026205:=0
def tw17182696014321072191:=0
def tw7265481474961444692:=0
def tw16075901846014418078:=0
def tw3094326076644361674:=0
def tw15111764623477736842:=0
def tw12415118964214622893:=0
def tw7778404335151657108:=0
def tw1419290097226493951:=0
def tw5586883458092917429:=0
def tw11263919813548825673:=0
def tw14051683195144205521:=0
def tw9395137463304870635:=0
def tw2016287887807487817:=0
def tw16674697404818891153:=0
def tw13184004540166165875:=0
def tw1865753360704677083:=0
def tw6694706988982268083:=0
def tw6261527904613109641:=0
def tw4445027890820612201:=0
def tw2474441790364921177:=0
def tw17615352962455265382:=0
def tw16663833504179357243:=0
def tw16497910510055724090:=0
def tw15892663413919425045:=0
def tw1368968647342407761:=0
def tw13383242999546742183:=0
def tw12205758822918486737:=0
def tw10448548870244483999:=0
def tw3165135839306492785:=0
def tw8188270674253061759:=0
def tw6696375413625054185:=0
def tw6029652780077867370:=0
def tw4393597661728932975:=0
def tw4334352749981834366:=0
def tw4177830936130420595:=0
def tw368444618340785332:=0
def tw3644213034480660639:=0
def tw16079491642621184508:=0
def tw15006940880164204467:=0
def tw13495469996940171319:=0
def tw11663237454165447525:=0
def tw3080556179193844551:=0
def tw8937917053754292335:=0
def tw6582223544298709250:=0
def tw6517935540621614387:=0
def tw487572791449465010:=0
def tw2819683976890813218:=0
def tw263129678041783073:=0
def tw18012252581443099024:=0
def tw17905052013081503996:=0
def tw14734100597649419853:=0
def tw14406142403385137684:=0
def tw10710648004201938228:=0
def tw8072757802177506138:=0
def tw7822598179836538029:=0
def tw4318904481105606258:=0
def tw3528071216078525851:=0
def tw18367365021519184093:=0
def tw17628911305076519491:=0
def tw17228803041425106122:=0
def tw16881099744864000089:=0
def tw1546396797046325387:=0
def tw13783390646401182106:=0
def tw13698079849576514569:=0
def tw12518485286898454517:=0
def tw9915062074077426919:=0
def tw973466652719334264:=0
def tw9495286926992362340:=0
def tw9323778470855642188:=0
def tw9289156691016973520:=0
def tw9250589385009045314:=0
def tw9229566686279417004:=0
def tw9003251637615778689:=0
def tw8982636079472728808:=0
def tw8969452393249027058:=0
def tw8948010193608774104:=0
def tw7972160307525613031:=0
def tw7726137065756168739:=0
def tw7650239535918810159:=0
def tw6994085580660116205:=0
def tw697672191556701086:=0
def tw6684617933589560224:=0
def tw6588771121944858818:=0
def tw6420106700968327785:=0
def tw6230151529502262464:=0
def tw5575662572740298349:=0
def tw5323032000235716172:=0
def tw477042522718003897:=0
def tw4392855028516805741:=0
def tw4001640688024165612:=0
def tw3353286338874453791:=0
def tw3192501802328984555:=0
def tw2791415132612995686:=0
def tw2728796425081268546:=0
def tw2549751646447529168:=0
def tw2548341369075818793:=0
def tw2286739998752153605:=0
def tw1856334820310130027:=0
def tw18315865466940911257:=0
def tw18305950004743752699:=0
def tw1814296866171980772:=0
def tw18019295990789837100:=0
def tw1780873788594189604:=0
def tw17624262395770300446:=0
def tw17571779259085820570:=0
def tw1752252537396893035:=0
def tw17091824099110046986:=0
def tw1692428065709183390:=0
def tw16814312844094204863:=0
def tw16745954990907948415:=0
def tw16685862738076917249:=0
def tw16505970251013390240:=0
def tw16162127441435702180:=0
def tw161435699634131345:=0
def tw15957288054198342253:=0
def tw14873916945635008014:=0
def tw14764455085913515534:=0
def tw14730186175027601218:=0
def tw14593485145127028171:=0
def tw14427185244953537003:=0
def tw14407469923686945918:=0
def tw14272692171860294708:=0
def tw13864365813092156510:=0
def tw13074349449788948628:=0
def tw12602534222981669528:=0
def tw12230848144083046475:=0
def tw11661248333066408292:=0
def tw11649837425021322333:=0
def tw11606029477843573669:=0
def tw11331686064525757360:=0
def tw11258071361740368054:=0
def tw10296835375392217275:=0
def tw10226955947563048555:=0
end PySem.W.Fast
open PySem PySem.W PyProof.Rows
local macro_rules | `(tactic| walk_at "f")=>`(tactic| (refine' L2.DfT.of ?a ?l ?c ?k;(case a=>k_is);(case l=>k_is);(case c=>k_is);(case k=>k_is)))
set_option maxRecDepth 100000 in
theorem PySem.Challenge.cw_goneday_k12_holds_that_cover_holds : PySem.Challenge.rw_goneday_k12_holds_that_cover.Holds := by
 w_on;o_law;k_head;(case hw=>w_witness2)
 k_fill
 refine' L2.walk_ofTK (l:=PySem.Challenge.rw_goneday_k12_holds_that_cover) (n:=63) (k:=15) (x:="_law_script") (qn:=K12.lamQ) (c:=?cc) (PT:=?pp) (sp:=K12.sp_law) rfl Qi rfl ⟨rfl,Qi,Qi⟩ (λw h Y=>PySem.W.km_in_of Y) rfl ?F ?S
 case F=>
  intro w mg fa h KX G hmg;have hnt:PySem.W.noTabs (L2.KOf KX)=true:=by
   dsimp only [L2.KOf]
   kernel_rfl
  have hti:PySem.W.tabIn (L2.KOf KX) "law"=some (?cc,?pp):=by
   dsimp only [L2.KOf];refine' L2.tabIn_of ?a ?b ?c ?d ?e
   (case a | b=>k_is)
   (case c=>rfl)
   (case d=>k_is)
   (case e=>rfl)
  have T:∃t,K12.Txt (L2.KOf KX) mg t:=by
   dsimp only [L2.KOf];refine' K12.txt_mk KX G ?za ?zb ?zc ?zd ?ze ?zf ?zg ?zh ?zi ?zj ?zk ?zl ?zm ?zn ?zo ?zp ?zq ?zr ?zs ?zt ?zu ?zv ?zw ?zx ?zy ?zz ?zA ?zB ?zC ?zD ?zE ?zF ?zG ?zH ?zI ?zJ ?zK ?zL ?zM ?zN ?zO ?zP ?zQ ?zR ?zS ?zT ?zU ?zV ?zW ?zX ?zY ?zZ ?ya ?yb ?yc ?yd ?ye ?yf ?yg ?yh ?yi ?yj ?yk ?yl ?ym ?yn ?yo
   (case za | zb | zc | zd | ze | zf | zg | zh | zi | zj | zk | zl | zm | zn | zo | zp | zq | zr | zs | zt | zu | zv | zw | zx | zy | zz | zA=>walk_at "f")
   (case zB | zC | zD | zE | zF | zG | zH | zI | zJ | zK | zL | zM=>k_is)
   (case zN | zO | zP | zQ | zR | zS | zT | zU | zV | zW | zX | zY | zZ=>first | k_is | k_exc | kit_is)
   (case ya | yb | yc | yd | ye | yf | yg | yh | yi | yj | yk | yl | ym | yn | yo=>k_is)
  obtain⟨t,T⟩:=T;have e0:=hmg.symm.trans T.F_a.m;cases e0;have hF:∃oc od osl,(L2.KOf KX).lookup t.a_a=some ⟨oc,od,.func t.d_a,osl⟩:=by
   obtain⟨oc,od,kV,doc,pm,an,cdv,ct,osl,e,lk,_⟩:=T.F_a.F.ex;exact⟨oc,od,osl,lk⟩
  exact⟨t.d_a,hnt,hti,T.bt_a,hF,λbase kb nb LF hco=>K12.ok_law T LF hco⟩
 case S=>exact λK H a ns hl hb hP hS=>K12.start_law hl hb hP hS
