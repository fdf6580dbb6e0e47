import PyProof.Rows.All
import Wide.All
import OpenK.AllK
import PySem.Challenge.RW_goneday_k50_claims_of_holds
open PySem.W renaming Frag->J0,nsIn->KO,mg_none_of->KQ,fnOf->Ma,mg_of->Mj,keepIn->MU,cellsFrom_some->M5,codeIn->Nv,methodObj->NH,OpenLaw->Pm,WalkO->Py
open List renaming length_map->J1,map_cons->Kb,getElem?_eq_getElem->Kc,mem_map->Kd,size_toArray->Ke,getElem?_eq_some_iff->Kg,mem_cons->Kh,getElem?_map->Kj,length_append->Kk,mem_append->Kn,replicate->Kp,mem_singleton->Kr,length_cons->Kt,map_append->Ku,map->Kv,mem_of_getElem?->Kw,map_map->Kx,take_of_length_le->Ky,mem_cons_of_mem->Kz,mem_cons_self->KA,getElem?_set_ne->KC,getD_eq_getElem?_getD->KG,getElem?_set_self->KP,lookup_cons->KR,range->KU,length_take->KW,mem_of_find?_eq_some->K1,length_singleton->K2,mem_append_right->K6,pairwise_cons->K7,getElem_mem->K9,pairwise_map->La,find?_eq_none->Lc,take_succ->Le,mem_filter->Lh,all_eq_true->Lj,not_mem_nil->Lk,find?_some->Ln,mem_of_mem_take->Lx,map_nil->LA,find?_cons->LB,length_drop->LF,length_nil->LI,replicate_succ->LK,getElem?_append_right->LM,any_cons->LN,any_eq_true->LO,length_filter_le->LR,getElem?_append_left->LS,drop_eq_getElem_cons->LU,append_nil->LV,nodup_cons->LW,nil_append->LX,filterMap_cons->L3,mem_range->L5,filter_cons->L6,dropLast_concat_getLast->L7,length_replicate->Mc,foldl_cons->Md,range_succ->Me,contains_iff_mem->Mf,take_sublist->Mk,flatten_cons->Mm,pairwise_iff_getElem->Mn,mem_of_mem_drop->Mo,filter_sublist->Mr,getElem?_replicate->Ms,getElem?_cons_succ->Mt,mem_filterMap->Mw,foldl->MF,ext_getElem->MG,map_congr_left->MJ,all_map->MS,Nodup->MW,reverse_cons->M3,length_range->M4,drop_of_length_le->M7,map_take->M9,getElem_inj->Na,getElem?_eq_none->Nd,take_append_drop->Nf,mem_append_left->Ni,any_map->Nn,getElem_of_mem->Nr,length_reverse->Nt,filterMap_map->Nw,all_cons->ND,perm_ext_iff_of_nodup->NG,append_assoc->NJ,any_eq_false->NR,cons_append->N3,getElem?_cons_zero->N9,pairwise_singleton->Oa,of_mem_zip->Oc,length->Og,find?_cons_of_pos->Oj,filterMap_append->Ov,pairwise_append->OB,getLast?_append->OC,lt_trans->OE,length_pos_iff->OJ,toArray->OR,set_cons_zero->OU,set_cons_succ->OV,getElem_range->OY,getElem?_inj->OZ,nodup_append->O3,getElem?_nil->O4,find?_append->O5,not_lt->O6,filter->O7,le_antisymm->Pc,any_toArray->Pd,map_snd_zip->Pg,forIn_cons->Pk,forIn_nil->Pr,take_zero->Pt,lt_irrefl->Pu,sum_cons->Pz,map_drop->PB,Pairwise->PJ,any_nil->PX
open PySem.Str renaming ofString->J3,ofString->J4,join->Pb
open PySem.PyData renaming str->J5,eqv->J6,int->J7,tuple->Kl,strOk->KJ,canLay0->K0,canLayAll0->Lf,bool->Lm,eqvAll->Lz,depthAll->LY,list->L9,depth->MD,none->MI
open Nat renaming le_refl->J8,ne_of_lt->KH,le_trans->KI,lt_of_lt_of_le->K3,zero_le->Lq,lt_irrefl->Mg,le_of_lt->Mp,lt_or_ge->MC,le_of_succ_le->NK,lt_succ_of_lt->NL,ne_of_gt->NY,le_of_not_lt->NZ,lt_trans->N0,le_succ->Oi,reduceAdd->OG,reduceSub->OH,sub_self->OT,min_le_right->O8,add_zero->PM,zero_add->PN,reduceLT->PQ
open PySem.Heap renaming get?_push_of_some->J9,lt_size->Km,get?_push_size->KN,SameBut->Nj,get?_update_other->Oh,size_push->Oo,get?_update_ne->OI
open PySem renaming Spec->Ka,boot_len->Ko,Scope->KY,mem_of_lookup->LJ,Fin->OS,call->Pl
open PySem.SeqAt renaming shaped->Kf,canLay_of_shaped->K8,pairEq->Np,EqAt->NS,depth_of_shaped->Oq,eqvAll_eq->Pq
open PySem.ScopeKind renaming function->Ki
open PySem.NameKind renaming free->Kq,globalImplicit->KD,free->Lu,cell->M8
open Bool renaming and_eq_true->Ks,false_ne_true->K5,true_and->Lb,and_true->Lv,false_or->L1,false_eq_true->Mb,eq_iff_iff->ML,or_eq_true->MN,false_and->MT,or_false->NC,not_eq_true'->NN,eq_false_iff->NO,and_comm->PH
open PySem.Value renaming ref->KL,str->LZ,bool->L8,int->Mu,none->Mv,isStrOf->Px,isInt->PZ,type->P6
open PySem.PassesOwn renaming never->KS
open Array renaming length_toList->KZ,getD_eq_getD_getElem?->Lp,toList_append->Mq,getD->MV,perm_iff_toList_perm->NF,toList_inj->N1,getElem?_toList->Ol,toList_map->Pe,toList_zip->Pf,toList->PK
open Option.some renaming inj->K4,injEq->NP
open PySem.Obj renaming mapSeq->Ld
open Sum renaming inr->Lg,inl->NX
open List.cons renaming injEq->Li
open PySem.Builtin.Slice renaming slicePlaces->Ll,sliceAdjust->LD,sliceApplied->Mh,sliceFields->NT
open PySem.Builtin.Tuple renaming tupleExact->Lo,tupleItemsOf->MH
open PyProof.Rows renaming slot_tuple_getitem->Lr,boot_sorted->LH,callWith_type1->ME,entry_tuple_getitem->Nb,boot_max->Ng,args_tuple_getitem->Nh,bubble->Nu,boot_sum->P4,boot_min->P5
open True renaming intro->Lw
open PySem.Builtin.Int renaming intBits->Ly
open Int renaming eq_ofNat_of_zero_le->LC,toNat_natCast->Ml,emod_lt_of_pos->Ny,fdiv_eq_ediv_of_nonneg->NA,fmod_eq_emod_of_nonneg->NB,emod_nonneg->Od,ediv_one->ON,zero_add->OW,reduceNeg->PD,reducePow->PF,reduceLT->PR,reduceLE->PV,le_refl->P2
open PySem.PyData.str renaming injEq->LG
open False renaming elim->LL
open PySem.F renaming slot_dict_get->LP,entry_dict_get->MA,args_tuple_add_2->MQ,entry_tuple_add->MY,plainAttrs_list->MZ,slot_tuple_add->M6,slot_list_insert->N2,args_dict_get_2->N4,args_dict_get_3->N5,plainAttrs_dict->N6,type_dict_get->Ot
open PySem.PyData.tuple renaming injEq->LQ
open PySem.Heap.SameBut renaming update->L4
open PySem.Builtin.List renaming listFitsIndex->Mi,listTooLong->MR,listUpdate->N7
open PySem.W.WData renaming int->Mx,weightAll->MK,list->NU,layableAll->Pa,weight->PL
open ForInStep renaming yield->My
open PySem.Calls renaming callWith_builtin->Mz,spliced_cons->MO,evalArgs_plain->Nk,Name_function_global->Nz,spliced_nil->NI,call_function_entry->NV
open BEq renaming comm->MB
open PySem.W.KasT renaming kasWp_bind->MM
open Option renaming isSome_iff_exists->MP,isSome_map->NM,isSome_some->OP,getD_none->O9,join_some->Ph,join_none->Pj
open PySem.Builtin.Str renaming occurrences->MX,strSliceIndices->Nx
open PySem.PyData.int renaming injEq->Nc
open Or renaming inr->Nl,inl->Om
open Nat.succ renaming inj->Nq
open Classical renaming byContradiction->NW
open PySem.Builtin.Dict renaming updateFrom->N8
open PyProof.Rows.IsTup renaming new->Ob
open Sum.inr renaming inj->Oe
open PyProof renaming noPylong_small->Of
open PySem.StrLaws renaming glued_eq_join->Ou
open PySem.Expr renaming Subscript->Ow,List->OX,Call->Pw
open PySem.SeqAt.RcAt renaming tuple_str->Ox
open PySem.SeqAt.EqAt renaming str_tuple->Oy,tuple_str->OA,int_str->OL,str_int->OM,str_str->OQ
open PySem.Around renaming under_plainId->Oz
open PySem.Paired renaming length->OD,snoc->P1
open Function renaming comp->OF
open PySem.Heap.IsSliceOf renaming new->OO
open PySem.Walks renaming list->Pn
open PySem.Heap.DictOf renaming new->Po
open Prod renaming snd->PY
open PySem.CmpOp renaming NotIn->P0
open PySem.Flow renaming next->P7
open PySem.PyData.bool renaming injEq->P8
open PySem.PyData.list renaming injEq->P9
open PySem renaming PyData->Qi,Value->Qj,Addr->Qk,Shared->Ql,wpAny_bind->Qm,Expr->Qn,starEach->Qo,sizeLine->Qp,wpAny_pure->Qq,wpAny->Qr,model->Qs,FuncData->Qt,Program->Qu,mainGlobals->Qv,World->Qw,Stmt->Qx,Heap->Qy,compareOp->Qz,foldedSetIterable->QA,bootBuiltins->QB,Around->QC,cLine->QD,wpAny_truthy_bool->QF,behindInMarks->QG,wpAny_holding->QH,wpAny_mono->QI,backTo->QJ,swapsWith->QK,wpAny_newObj_type->QL,cellsFrom->QM,wpAny_loadPart'->QN,Scope->QO,NameKind->QP,sysModules->QQ,binaryOp->QR,sizeLine_eq->QS,tupleKind_room_in1->QT,wpAny_passesOwn->QU,attributeBase->QV,call_meets->QW,getItem->QX,Keyword->QY,PassesOwn->QZ,DictEntry->Q0,wpAny_call_entry->Q1,sliceBounds->Q3,wpAny_Call_Name_kw->Q5,wpAny_typeOf->Q6,CmpOp->Q7,assignEach->Q8,typeIs_str->Q9,wpAny_callSpecial?_slot->Ra,wpAny_field->Rb,subscripted->Rc,keywordEach->Rf,strIterType->Rg,swapsWithSole->Rh,swappedStores->Ri,wpAny_newList->Rj,tupleKind->Rk,wpAny_execs_nil->Rn,letOwnedTupleGo->Ro,wpAny_standAt->Rr,wpAny_pyIter_list->Ru,wpAny_sequenceKey->Rv,noFill_tuple_add->Rx,wpAny_comprehension_free->Ry,GenState->Rz
open PyProof.Rows renaming seqObj->QE,listUpdate_at->Q2,get?_update_seq->Q4,AllBare->Rl,slicePart_none->Rp,assignInOrder_cons->Rq,subscriptTail->Rt
open PySem.W renaming kia_one->Rm
theorem Qa{p:Prop}[Decidable p](h:decide p=true:=by decide+kernel):p:=of_decide_eq_true h
theorem Qb{p:Prop}(h:p:=by decide):p:=h
theorem Qc{p:Prop}(h:p:=by omega):p:=h
theorem Qh{p:Prop}(h:p:=by simp):p:=h
theorem Qe{c:Prop}{h:Decidable c}(k:¬c){α:Sort u}{t e:α}:ite c t e=e:=if_neg k
theorem Qf{c:Prop}{h:Decidable c}(k:c){α:Sort u}{t e:α}:ite c t e=t:=if_pos k
abbrev RA:=PySem.NameKind.local
set_option compiler.extract_closed false
def rzT (n : String) : Lean.MacroM (Lean.TSyntax `tactic) := do
 let ts : Array (Lean.TSyntax `Lean.Parser.Tactic.simpLemma) <- ((n.splitOn " ").toArray).mapM λs =>do
  if s.startsWith "↓" then
   let i := Lean.mkIdent (s.drop 1).toString.toName
   `(Lean.Parser.Tactic.simpLemma| ↓ $i:ident)
  else
   let i := Lean.mkIdent s.toName
   `(Lean.Parser.Tactic.simpLemma| $i:ident)
 `(tactic| simp only [$ts,*])
local macro_rules|`(command|def $i:declId $s:optDeclSig $v:declVal)=>`(command|noncomputable def $i:declId $s:optDeclSig $v:declVal)|`(command|abbrev $i:declId $s:optDeclSig $v:declVal)=>`(command|noncomputable abbrev $i:declId $s:optDeclSig $v:declVal)
noncomputable section
set_option Elab.async false
set_option linter.all false
set_option maxRecDepth 100000
set_option maxHeartbeats 0
set_option genSizeOf false
namespace L2
open PySem PySem.Spec PyProof.Rows
abbrev ah:=Sum Int Str
def jh:ah->Qj->Bool
 | .inl k,v=>PZ k v
 | .inr x,v=>Px x v
def Bp(w:Qw):ah->Int
 | .inl k=>hashInt k
 | .inr x=>hashStr w x
theorem fC:∀{k:ah}{v:Qj},jh k v=true->(∃i t,k=NX i/\v=Mu i t)\/(∃x t,k=Lg x/\v=LZ x t)
 | .inl i,v,h=>by
  obtain⟨t,e⟩:=Value.isInt_shape (k:=i) (v:=v) h;exact .inl ⟨i,t,rfl,e⟩
 | .inr x,v,h=>by
  obtain⟨t,e⟩:=Value.isStrOf_shape (x:=x) (v:=v) h;exact .inr ⟨x,t,rfl,e⟩
theorem Bq(i:Int)(t:Tok):jh (.inl i) (.int i t)=true:=by simp [jh,PZ]
theorem Br(x:Str)(t:Tok):jh (.inr x) (.str x t)=true:=by simp [jh,Px]
theorem Bs(a b:Int):decide ((NX a:ah)=NX b)=(a==b):=by
 by_cases e:a=b
 ·subst e;simp
 ·have h:¬(NX a:ah)=NX b:=λq=>e (NX.inj q);rw [decide_eq_false h];exact(beq_eq_false_iff_ne.mpr e).symm
theorem Bt(a b:Str):decide ((Lg a:ah)=Lg b)=decide (a=b):=by
 by_cases e:a=b
 ·subst e;simp
 ·have h:¬(Lg a:ah)=Lg b:=λq=>e (Oe q);rw [decide_eq_false h,decide_eq_false e]
theorem Bu(a:Int)(b:Str):decide ((NX a:ah)=Lg b)=false:=decide_eq_false (λq=>nomatch q)
theorem Bv(a:Str)(b:Int):decide ((Lg a:ah)=NX b)=false:=decide_eq_false (λq=>nomatch q)
def bS(prog:Qu)(w:Qw):PySem.KeyKind prog w ah where
 is:=jh
 hash:=Bp w
 inj:=λv a b ha hb=>by
  rcases fC ha with⟨i,t,rfl,rfl⟩ | ⟨x,t,rfl,rfl⟩
  ·rcases fC hb with⟨j,u,rfl,e⟩ | ⟨y,u,rfl,e⟩
   ·injection e with e1 _;rw [e1]
   ·exact nomatch e
  ·rcases fC hb with⟨j,u,rfl,e⟩ | ⟨y,u,rfl,e⟩
   ·exact nomatch e
   ·injection e with e1 _;rw [e1]
 byValue:=λk v h=>by
  rcases fC h with⟨i,t,rfl,rfl⟩ | ⟨x,t,rfl,rfl⟩ <;> rfl
 pyHash:=λhv h=>by
  rcases fC hv with⟨i,t,rfl,rfl⟩ | ⟨x,t,rfl,rfl⟩
  ·exact wpAny_pyHash_int h
  ·exact wpAny_pyHash_str h
 eqBool:=λhu hv h=>by
  rcases fC hu with⟨i,t,rfl,rfl⟩ | ⟨x,t,rfl,rfl⟩
  ·rcases fC hv with⟨j,u,rfl,rfl⟩ | ⟨y,u,rfl,rfl⟩
   ·rw [Bs] at h;exact wpAny_eqBool_int h
   ·rw [Bu] at h;exact OL i t y u _ _ _ _ h
  ·rcases fC hv with⟨j,u,rfl,rfl⟩ | ⟨y,u,rfl,rfl⟩
   ·rw [Bv] at h;exact OM x t j u _ _ _ _ h
   ·rw [Bt] at h;exact wpAny_eqBool_str h
 «strs»:=λk x t v h=>by
  rcases fC h with⟨i,u,rfl,e⟩ | ⟨y,u,rfl,e⟩
  ·exact nomatch e
  ·injection e with e1 _
   subst e1;cases v <;> rfl
theorem Bw(prog:Qu)(w:Qw)(i:Int)(t:Tok):(bS prog w).is (.inl i) (.int i t)=true:=Bq i t
theorem Bx(prog:Qu)(w:Qw)(x:Str)(t:Tok):(bS prog w).is (.inr x) (.str x t)=true:=Br x t
inductive V where
 | non | bl (b:Bool) | int (i:Int) | str (x:Str) | byt (b:Array UInt8) | flt (b:UInt64) | ref (a:Qk) | ty (n:String)
 deriving DecidableEq
def aC:V->Qj->Prop
 | .non,u=>u=Mv
 | .bl b,u=>u=L8 b
 | .int i,u=>∃t,u=Mu i t
 | .str x,u=>∃t,u=LZ x t
 | .byt b,u=>∃t,u=Value.bytes b t
 | .flt b,u=>∃t,u=Value.float b t
 | .ref a,u=>u=KL a
 | .ty n,u=>u=P6 n
abbrev aD:List V->List Qj->Prop:=Paired aC
theorem aD.length{xs:List V}{us:List Qj}(r:aD xs us):xs.length=us.length:=OD r
theorem aD.get:∀{xs:List V}{us:List Qj}{i:Nat}{x:V},aD xs us->xs[i]?=some x->∃u,us[i]?=some u/\aC x u
 | _,_,_,_,.nil,e=>by simp at e
 | _,_,0,_,.cons r _,e=>by simp at e;subst e;exact⟨_,rfl,r⟩
 | _,_,i+1,x,.cons _ t,e=>by
  obtain⟨u,h1,h2⟩:=aD.get (i:=i) (x:=x) t (by simpa using e);exact⟨u,by simpa using h1,h2⟩
theorem aD.set{x:V}{u:Qj}(r:aC x u):∀{xs:List V}{us:List Qj}(i:Nat),aD xs us->aD (xs.set i x) (us.set i u)
 | _,_,_,.nil=>.nil
 | _,_,0,.cons _ t=>.cons r t
 | _,_,i+1,.cons q t=>.cons q (aD.set r i t)
theorem aD.append:∀{xs ys:List V}{us ws:List Qj},aD xs us->aD ys ws->aD (xs++ys) (us++ws)
 | _,_,_,_,.nil,s=>s
 | _,_,_,_,.cons r t,s=>.cons r (aD.append t s)
theorem aD.take:∀{xs:List V}{us:List Qj}(n:Nat),aD xs us->aD (xs.take n) (us.take n)
 | _,_,0,_=>.nil
 | _,_,_+1,.nil=>.nil
 | _,_,n+1,.cons r t=>.cons r (aD.take n t)
theorem aD.drop:∀{xs:List V}{us:List Qj}(n:Nat),aD xs us->aD (xs.drop n) (us.drop n)
 | _,_,0,r=>r
 | _,_,_+1,.nil=>.nil
 | _,_,n+1,.cons _ t=>aD.drop n t
def fc:Option V->Option Qj->Prop
 | some v,some u=>aC v u
 | none,none=>True
 | _,_=>False
def KV{κ:Type}:List (κ×V)->List (κ×Qj)->Prop:=Paired λ(p:κ×V) (q:κ×Qj)=>p.1=q.1/\aC p.2 q.2
def kV:ah->V
 | .inl i=>.int i
 | .inr x=>.str x
inductive HO where
 | lst (xs:List V)
 | tup (xs:List V)
 | dK (kvs:List (ah×V)) | dT (kvs:List (List ah×V))
 | set (S:Int->Bool) (n:Nat)
 | ins (C dx:Qk) (fs:List (Str×V))
 | own (x:Qk)
 | xd (fs:List (Str×V))
 | met (f x:Qk)
 | rng (lo hi:Int)
 | frz (o:Obj) (u:HO)
 | tbl (ps:Array Qj)
 | ext (φ:Qy->Prop)
abbrev Hp:=Qk->Option HO
def aq(H:Hp)(a:Qk)(o:HO):Hp:=λb=>if b=a then some o else H b
theorem bq{H:Hp}{a:Qk}{o:HO}:aq H a o a=some o:=by unfold aq;rw [Qf rfl]
theorem aH{H:Hp}{a b:Qk}{o:HO}(h:b≠a):aq H a o b=H b:=by unfold aq;rw [Qe h]
theorem By{H:Hp}{a b:Qk}{o u:HO}(h:H a=some o)(h':H b=some u)(d:o≠u):a≠b:=by
 intro e;subst e;rw [h] at h';exact d (K4 h')
theorem cS{H:Hp}{a b:Qk}{o:HO}(h:H a=some o)(h':H b=none):a≠b:=by
 intro e;subst e;rw [h] at h';cases h'
section
variable (P:Qu) (w:Qw)
def bN(H:Hp)(h:Qy)(a:Qk):HO->Prop
 | .lst xs=>xs.length<=Qp/\∃(its:List Qj)(n:Nat),aD xs its/\h.get? a=some {cls:= .type "list",data:= .seq its.toArray n}
 | .tup xs=>xs.length<=Qp/\∃its:List Qj,aD xs its/\IsTup h a its.toArray
 | .dK kvs=>kvs.length<=Qp/\(a==QQ)=false/\∃vs,KV kvs vs/\h.DictOf (bS P w) a vs
 | .dT kvs=>kvs.length<=Qp/\(a==QQ)=false/\∃xs:List (List ah×Qk×Qj),
  Paired (λ(p:List ah×V) (q:List ah×Qk×Qj)=>p.1=q.1/\H q.2.1=some (.tup (p.1.map kV))/\aC p.2 q.2.2) kvs xs/\
  ∃o es ep,h.get? a=some o/\o.ExactDict/\o.data= .dict es ep/\es.toList=xs.map (entryOfKey (Rk (bS P w)))/\(xs.map (·.1)).Nodup
 | .set S n=>h.SetOf (intKind P w) a S n
 | .ins C dx fs=>H dx=some (.own a)/\fs.length<=1000/\dx≠a/\h.get? a=some (PySem.W.instObj C dx)/\
  ∃mA,h.Ns1 dx mA/\(∀f,fc (fs.lookup f) (mA f))/\PySem.Within mA (fs.map (·.1))
 | .own _=>∃o,h.get? a=some o
 | .xd fs=>∃mA,h.Ns1 a mA/\∀f,fc (fs.lookup f) (mA f)
 | .rng lo hi=>∃t u v,h.get? a=some {cls:= .type "range",data:= .fields #[.int lo t,.int hi u,.int 1 v]}
 | .frz o u=>h.get? a=some o/\bN H h a u
 | .tbl ps=>h.get? a=some {cls:= .none,data:= .fields ps}
 | .met f x=>h.get? a=some (NH (.ref f) (.ref x))
 | .ext φ=>φ h/\(∃o,h.get? a=some o)/\∀h1 h2:Qy,φ h1->(∀o,h1.get? a=some o->h2.get? a=some o)->φ h2
def bK(H:Hp)(h:Qy):Prop:=∀a o,H a=some o->bN P w H h a o
end
section
variable {P:Qu} {w:Qw} {H H':Hp} {h h':Qy} {a:Qk} {o:HO}
theorem bN.lt(x:bN P w H h a o):a < h.objs.size:=by
 cases o with
 | lst xs=>obtain⟨_,_,_,_,e⟩:=x;exact Km e
 | tup xs=>obtain⟨_,_,_,p⟩:=x;exact p.lt
 | dK kvs=>obtain⟨_,_,_,_,o,_,_,e,_⟩:=x;exact Km e
 | dT kvs=>obtain⟨_,_,_,_,o,_,_,e,_⟩:=x;exact Km e
 | set S n=>obtain⟨o,_,_,_,e,_⟩:=x;exact Km e
 | ins C dx fs=>obtain⟨_,_,_,e,_⟩:=x;exact Km e
 | own y=>obtain⟨_,e⟩:=x;exact Km e
 | xd fs=>obtain⟨_,⟨_,_,_,e,_⟩,_⟩:=x;exact Km e
 | rng lo hi=>obtain⟨_,_,_,e⟩:=x;exact Km e
 | frz ob u=>obtain⟨e,_⟩:=x;exact Km e
 | tbl ps=>exact Km (show h.get? a=some _ from x)
 | met f y=>exact Km (show h.get? a=some _ from x)
 | ext φ=>obtain⟨_,⟨_,e⟩,_⟩:=x;exact Km e
theorem Paired.mapP{α β:Type}{F G:α->β->Prop}:∀{l₁:List α}{l₂:List β},Paired F l₁ l₂->(∀a b,F a b->G a b)->Paired G l₁ l₂
 | _,_,.nil,_=>.nil
 | _,_,.cons r t,f=>.cons (f _ _ r) (Paired.mapP t f)
theorem bN.stay(x:bN P w H h a o)(k:∀b u,(b=a\/H b=some (.own a))->h.get? b=some u->h'.get? b=some u)
 (ho:∀b,H b=some (.own a)->H' b=some (.own a))(ht:∀b xs,H b=some (.tup xs)->H' b=some (.tup xs)):bN P w H' h' a o:=by
 induction o with
 | lst xs=>obtain⟨z,its,n,r,e⟩:=x;exact⟨z,its,n,r,k _ _ (.inl rfl) e⟩
 | tup xs=>obtain⟨z,its,r,ob,e,c⟩:=x;exact⟨z,its,r,ob,k _ _ (.inl rfl) e,c⟩
 | dK kvs=>obtain⟨z,y,vs,r,ob,es,ep,e,c⟩:=x;exact⟨z,y,vs,r,ob,es,ep,k _ _ (.inl rfl) e,c⟩
 | dT kvs=>
  obtain⟨z,y,xs,r,ob,es,ep,e,c⟩:=x;exact⟨z,y,xs,Paired.mapP r λp q z=>⟨z.1,ht _ _ z.2.1,z.2.2⟩,ob,es,ep,k _ _ (.inl rfl) e,c⟩
 | set S n=>obtain⟨ob,es,ep,t,e,c⟩:=x;exact⟨ob,es,ep,t,k _ _ (.inl rfl) e,c⟩
 | ins C dx fs=>
  obtain⟨d,z,ne,e,mA,⟨od,es,ep,e2,c⟩,r⟩:=x;exact⟨ho _ d,z,ne,k _ _ (.inl rfl) e,mA,⟨od,es,ep,k _ _ (.inr d) e2,c⟩,r⟩
 | own y=>obtain⟨ob,e⟩:=x;exact⟨ob,k _ _ (.inl rfl) e⟩
 | xd fs=>obtain⟨mA,⟨od,es,ep,e,c⟩,r⟩:=x;exact⟨mA,⟨od,es,ep,k _ _ (.inl rfl) e,c⟩,r⟩
 | rng lo hi=>obtain⟨t,u,v,e⟩:=x;exact⟨t,u,v,k _ _ (.inl rfl) e⟩
 | frz ob u ih=>obtain⟨e,q⟩:=x;exact⟨k _ _ (.inl rfl) e,ih q⟩
 | tbl ps=>
  have e:h.get? a=some {cls:= .none,data:= .fields ps}:=x;show h'.get? a=some {cls:= .none,data:= .fields ps};exact k a _ (.inl rfl) e
 | met f y=>
  have e:h.get? a=some (NH (.ref f) (.ref y)):=x;show h'.get? a=some (NH (.ref f) (.ref y));exact k a _ (.inl rfl) e
 | ext φ=>obtain⟨p,⟨o,e⟩,st⟩:=x;exact⟨st _ _ p λo q=>k _ _ (.inl rfl) q,⟨o,k _ _ (.inl rfl) e⟩,st⟩
theorem bK.lt(x:bK P w H h)(e:H a=some o):a < h.objs.size:=(x a o e).lt
theorem bK.fresh(x:bK P w H h)(e:h.objs.size<=a):H a=none:=by
 cases q:H a with
 | none=>rfl
 | some u=>exact absurd (K3 (x.lt q) e) (Mg _)
theorem bK.kept(x:bK P w H h)(k:∀b u,h.get? b=some u->h'.get? b=some u):bK P w H h':=λa o e=>
 (x a o e).stay (λb u _ q=>k b u q) (λ_ q=>q) λ_ _ q=>q
theorem bK.laid(x:bK P w H h)(k:∀b u,h.get? b=some u->h'.get? b=some u)(hp:h.objs.size<=a)(new:bN P w (aq H a o) h' a o):bK P w (aq H a o) h':=λb u e=>by
 have hn:=x.fresh hp;by_cases hb:b=a
 ·subst hb;rw [bq] at e;cases e;exact new
 ·rw [aH hb] at e;exact(x b u e).stay (λc v _ q=>k c v q) (λc q=>by rw [aH (cS q hn)];exact q) λc xs q=>by rw [aH (cS q hn)];exact q
end
def Rd(H:Hp)(a:Qk)(u:HO):Prop:=H a=some u\/∃o,H a=some (.frz o u)
theorem Rd.ok{P:Qu}{w:Qw}{H:Hp}{h:Qy}{a:Qk}{u:HO}(r:Rd H a u)(x:bK P w H h):bN P w H h a u:=by
 rcases r with r | ⟨o,r⟩
 ·exact x a u r
 ·obtain⟨_,q⟩:=x a _ r;exact q
def ji:Option HO->Prop
 | some (.lst _)=>True
 | some (.dK _)=>True
 | some (.dT _)=>True
 | some (.set _ _)=>True
 | some (.ins _ _ _)=>True
 | some (.ext _)=>True
 | _=>False
section
variable {P:Qu} {w:Qw} {H:Hp} {h h':Qy} {x e:Qk} {o':HO}
theorem bK.write(ok:bK P w H h)(mu:ji (H x))(he:e=x\/H e=some (.own x))(k:∀b u,b≠e->h.get? b=some u->h'.get? b=some u)(heo:∃u,h'.get? e=some u)
 (new:bN P w (aq H x o') h' x o'):bK P w (aq H x o') h':=λb u q=>by
 have nown:∀c y,H c=some (.own y)->c≠x:=λc y r z=>by subst z;rw [r] at mu;exact mu
 have ntup:∀c xs,H c=some (.tup xs)->c≠x:=λc xs r z=>by subst z;rw [r] at mu;exact mu
 by_cases hb:b=x
 ·subst hb;rw [bq] at q;cases q;exact new
 ·rw [aH hb] at q;by_cases hbe:b=e
  ·have q':H b=some (.own x):=by
    rcases he with z | z
    ·exact absurd (hbe.trans z) hb
    ·rw [hbe];exact z
   rw [q] at q';cases q';obtain⟨v,hv⟩:=heo;exact⟨v,by rw [hbe];exact hv⟩
  ·refine(ok b u q).stay (λc v hc r=>k c v ?_ r) (λc r=>by rw [aH (nown c b r)];exact r) λc xs r=>by rw [aH (ntup c xs r)];exact r
   rcases hc with rfl | hc
   ·exact hbe
   ·rintro rfl;rcases he with z | z
    ·exact nown c b hc z
    ·rw [hc] at z;cases z;exact hb rfl
end
structure Un (fs ex:List Qk) (H H':Hp) (h h':Qy):Prop where
 keep:∀b o,h.get? b=some o->H b=none->b ∉ fs->b ∉ ex->h'.get? b=some o
 slot:∀b o,h.get? b=some o->H b=none->b∈fs->b ∉ ex->∃sl,h'.get? b=some {o with slots:=sl}
 free:∀b o,h.get? b=some o->H b=none->b ∉ ex->H' b=none
 there:∀b o,h.get? b=some o->b ∉ ex->∃o',h'.get? b=some o'
 tups:∀b xs,H b=some (.tup xs)->H' b=some (.tup xs)
 frzs:∀b o u,H b=some (.frz o u)->H' b=some (.frz o u)
 tbls:∀b ps,H b=some (.tbl ps)->∃more,H' b=some (.tbl (ps++more))
section
variable {fs fs' ex ex':List Qk} {H H1 H2:Hp} {h h1 h2 h':Qy} {a x e:Qk} {o:HO}
theorem Un.any(u:Un fs ex H H1 h h1){b:Qk}{ob:Obj}(q:h.get? b=some ob)(n:H b=none)(hx:b ∉ ex):∃sl,h1.get? b=some {ob with slots:=sl}:=by
 by_cases hb:b∈fs
 ·exact u.slot b ob q n hb hx
 ·exact⟨ob.slots,u.keep b ob q n hb hx⟩
theorem Un.kept(k:∀b u,h.get? b=some u->h'.get? b=some u):Un fs ex H H h h':=
 ⟨λb ob q _ _ _=>k b ob q,λb ob q _ _ _=>⟨ob.slots,k b ob q⟩,λ_ _ _ n _=>n,λb ob q _=>⟨ob,k b ob q⟩,λ_ _ q=>q,λ_ _ _ q=>q,λ_ ps q=>⟨#[],by rw [q];simp⟩⟩
theorem Un.refl:Un fs ex H H h h:=Un.kept λ_ _ q=>q
theorem Un.laid(k:∀b u,h.get? b=some u->h'.get? b=some u)(hp:h.objs.size<=a)(hn:H a=none):Un fs ex H (aq H a o) h h' where
 keep:=λb u q _ _ _=>k b u q
 slot:=λb u q _ _ _=>⟨u.slots,k b u q⟩
 free:=λb u q n _=>by rw [aH (KH (K3 (Km q) hp))];exact n
 there:=λb u q _=>⟨u,k b u q⟩
 tups:=λb xs q=>by rw [aH (cS q hn)];exact q
 frzs:=λb u xs q=>by rw [aH (cS q hn)];exact q
 tbls:=λb ps q=>⟨#[],by rw [aH (cS q hn),q];simp⟩
theorem Un.write(mu:ji (H x))(he:e=x\/H e=some (.own x))(k:∀b u,b≠e->h.get? b=some u->h'.get? b=some u)(heo:∃u,h'.get? e=some u):Un fs ex H (aq H x o) h h':=by
 have hx:∀b,H b=none->b≠x:=λb n z=>by subst z;rw [n] at mu;exact mu
 have hb:∀b,H b=none->b≠e:=λb n z=>by
  subst z;rcases he with r | r
  ·exact hx b n r
  ·rw [n] at r;cases r
 have hm:∀b u,H b=some u->¬ji (some u)->b≠x:=λb u q nm z=>by subst z;rw [q] at mu;exact nm mu
 refine⟨λb u q n _ _=>k b u (hb b n) q,λb u q n _ _=>⟨u.slots,k b u (hb b n) q⟩,λb u q n _=>by rw [aH (hx b n)];exact n,λb u q _=>?_,
  λb xs q=>by rw [aH (hm b _ q λz=>z)];exact q,λb u xs q=>by rw [aH (hm b _ q λz=>z)];exact q,λb ps q=>⟨#[],by rw [aH (hm b _ q λz=>z),q];simp⟩⟩
 by_cases hbe:b=e
 ·subst hbe;exact heo
 ·exact⟨u,k b u hbe q⟩
end
def trk(h:Qy)(H:Hp):List Qk:=(KU h.objs.size).filter λa=>(H a).isSome
def gF(h:Qy)(H:Hp):Qy:=PySem.W.hideAll h (trk h H)
theorem Bz(h:Qy)(H:Hp):(gF h H).objs.size=h.objs.size:=PySem.W.hideAll_size _ _
theorem BA{h:Qy}{H:Hp}{b:Qk}{o:Obj}(e:h.get? b=some o)(n:H b=none):(gF h H).get? b=some o:=
 PySem.W.hideAll_get _ e λhm=>by
  have q:(H b).isSome=true:=(Lh.mp hm).2;rw [n] at q;simp at q
theorem BB{h:Qy}{H:Hp}{b:Qk}{o:Obj}(e:(gF h H).get? b=some o):h.get? b=some o/\H b=none:=by
 have e':h.get? b=some o:=PySem.W.of_hideAll (trk h H) e;refine⟨e',?_⟩;cases q:H b with
 | none=>rfl
 | some x=>
  have hm:b∈trk h H:=Lh.mpr ⟨L5.mpr (Km e'),by simp [q]⟩;have z:(gF h H).get? b=none:=PySem.W.hideAll_none (trk h H) hm;rw [z] at e;cases e
def BC(g h:Qy)(L:Qk):List (Qk×Obj):=(KU h.objs.size).filterMap λa=>if a=L\/(g.get? a).isSome=true then none else(h.get? a).map λo=>(a,o)
def rest(g h:Qy)(L d:Qk):List (Qk×Obj):=(BC g h L).filter λp=>decide (p.1≠d)
structure Mod (K:J0) (mg:Str->Option Qj) (base:Qy):Prop where
 kin:K.In base
 glob:base.Ns Qv mg
 blt:∃mb,base.Ns builtinsNs mb/\∀x:Str,x≠"__name__"->mb x=QB x
 nolimit:base.NoLimit
structure Cx where
 prog:Qu
 w:Qw
 K:J0
 mg:Str->Option Qj
 base:Qy
 A:QC
 N:List Str
 s₀:Ql
 H₀:Hp
 env:Env
 outer:List Env
 stack:List Env
 ex:List Qk
 fn:Str->Bool
 calm:Bool
 pn:List (Qk×Obj)
 xe:Qj->Ql->Prop
def eJ(l:List Env):List Qk:=l.filterMap (·.frame)
abbrev Cx.fs(X:Cx):List Qk:=eJ X.outer
def j5(sc:QO)(x:Str):Prop:=sc.names.lookup x=some .local\/sc.names.lookup x=some .cell\/sc.names.lookup x=some .free
def fD(sc:QO)(x:Str):Prop:=sc.names.lookup x=some .local\/sc.names.lookup x=some .cell
def BD(env:Env)(h:Qy)(m:Str->Option Qj)(x:Str)(u:Qj):Prop:=
 (env.kindOf x=some .local/\m x=some u)\/((env.kindOf x=some .cell\/env.kindOf x=some .free)/\∃c,env.cells.lookup x=some c/\h.IsCell c (some u))
structure Cx.Ok (X:Cx):Prop where
 mod:Mod X.K X.mg X.base
 kind:X.env.scope.kind= .function
 glob:X.env.globals=Qv
 blt:X.env.builtins=builtinsNs
 above:X.s₀.heap.objs.size<=X.env.locals
 inj:∀x y c,X.env.cells.lookup x=some c->X.env.cells.lookup y=some c->x=y
 has:∀x,(X.env.kindOf x=some .cell\/X.env.kindOf x=some .free)->∃c,X.env.cells.lookup x=some c
 cab:∀x c,X.fn x=true->X.env.cells.lookup x=some c->X.s₀.heap.objs.size<=c
 hd:X.calm=true->X.A.handled=none
 frames:X.A.frames=some X.stack
 stk:X.stack=X.outer\/(X.stack=X.env::X.outer/\X.env.frame=some X.env.locals)
 exf:∀b∈X.ex,b≠X.env.locals/\∀x c,X.env.cells.lookup x=some c->c≠b
 bs:∀b o,X.base.get? b=some o->X.s₀.heap.get? b=some o/\X.H₀ b=none
 bsz:X.base.objs.size<=X.s₀.heap.objs.size
 noex:∀b o,X.base.get? b=some o->b ∉ X.ex
 exfs:∀b∈X.ex,b ∉ X.fs
 funs:X.s₀.heap.FunFrames X.base X.outer
 frf:∀b∈X.fs,X.H₀ b=none
structure af (X:Cx) (RB:List (Qk×Obj)) (σ:List (Option V)) (H:Hp) (s:Ql):Prop where
 ok:X.Ok
 os:s.os=X.s₀.os
 bare:Rl s.gens
 base:Un X.fs X.ex X.H₀ H X.s₀.heap s.heap
 loc:∃m,s.heap.Ns X.env.locals m/\∀(i:Nat)(x:Str)(v:V),X.N[i]?=some x->σ[i]?=some (some v)->j5 X.env.scope x->∃u,aC v u/\BD X.env s.heap m x u
 cell:∀x c,X.env.cells.lookup x=some c->∃v,s.heap.IsCell c v
 free:H X.env.locals=none
 freeC:∀x c,X.env.cells.lookup x=some c->H c=none
 pin:∀p∈X.pn++RB,s.heap.get? p.1=some p.2/\H p.1=none/\p.1≠X.env.locals/\p.1 ∉ X.fs/\∀v,p.2.data≠ .cell v
 hok:bK X.prog X.w H s.heap
 len:σ.length=X.N.length
section
variable {X:Cx} {RB:List (Qk×Obj)} {σ:List (Option V)} {H H':Hp} {s:Ql} {h':Qy}
theorem Cx.Ok.nofr(ok:X.Ok){b:Qk}{o:Obj}(e:X.base.get? b=some o):b ∉ X.fs:=λhb=>by
 have:=(ok.funs.mem hb).1;rw [e] at this;cases this
theorem af.bs(I:af X RB σ H s):∀b o,X.base.get? b=some o->s.heap.get? b=some o/\H b=none:=λb o e=>
 ⟨I.base.keep b o (I.ok.bs b o e).1 (I.ok.bs b o e).2 (I.ok.nofr e) (I.ok.noex b o e),I.base.free b o (I.ok.bs b o e).1 (I.ok.bs b o e).2 (I.ok.noex b o e)⟩
theorem af.bk(I:af X RB σ H s):∀b o,X.base.get? b=some o->s.heap.get? b=some o:=λb o e=>(I.bs b o e).1
theorem af.mod(I:af X RB σ H s):Mod X.K X.mg X.base:=I.ok.mod
theorem af.kIn(I:af X RB σ H s):X.K.In s.heap:=I.ok.mod.kin.keeps I.bk
theorem af.fr(I:af X RB σ H s):∃m,Fr X.base X.env.locals s.heap m:=
 let ⟨m,hn,_⟩:=I.loc
 ⟨m,hn,I.bk,KI I.ok.bsz I.ok.above⟩
theorem af.lt(I:af X RB σ H s):X.env.locals < s.heap.objs.size:=let ⟨_,hn,_⟩:=I.loc;hn.lt
theorem af.sz(I:af X RB σ H s):X.s₀.heap.objs.size<=s.heap.objs.size:=KI I.ok.above (Mp I.lt)
theorem af.nofs(I:af X RB σ H s){a:Qk}(h:s.heap.objs.size<=a):a ∉ X.fs:=λhb=>by
 obtain⟨_,o,ho,_⟩:=I.ok.funs.mem hb;exact absurd (K3 (Km ho) (KI I.sz h)) (Mg _)
theorem af.cne(I:af X RB σ H s):∀x c,X.env.cells.lookup x=some c->c≠X.env.locals:=λx c e z=>by
 obtain⟨v,o,ho,hd⟩:=I.cell x c e;obtain⟨m,⟨o',es,ep,ho',hd',_⟩,_⟩:=I.loc;rw [z,ho'] at ho;cases ho;rw [hd'] at hd;cases hd
theorem af.funs(I:af X RB σ H s):s.heap.FunFrames X.base X.outer:=by
 have all:∀(l:List Env),(∀b∈eJ l,b∈X.fs)->X.s₀.heap.FunFrames X.base l->s.heap.FunFrames X.base l:=by
  intro l
  induction l with
  | nil=>intro _ _;trivial
  | cons env r ih=>
   intro hs hl;obtain⟨hk,⟨L,o,hf,hn,ho,hd⟩,hr⟩:=hl;have hL:L∈X.fs:=hs L (by unfold eJ;rw [L3,hf];exact KA);obtain⟨sl,e⟩:=I.base.slot L o ho (I.ok.frf L hL) hL λz=>I.ok.exfs L z hL;exact⟨hk,⟨L,_,hf,hn,e,hd⟩,ih (λb hb=>hs b (by unfold eJ;rw [L3,hf];exact Kz _ hb)) hr⟩
 exact all X.outer (λ_ hb=>hb) I.ok.funs
theorem af.stack(I:af X RB σ H s):s.heap.FunFrames X.base X.stack:=by
 rcases I.ok.stk with e | ⟨e,hf⟩
 ·rw [e];exact I.funs
 ·rw [e];obtain⟨m,hn,_⟩:=I.loc;refine .cons (by rw [I.ok.kind];decide) hf hn ?_ I.funs;exact Heap.get?_none_of_le (KI I.ok.bsz I.ok.above)
theorem af.stkSub(I:af X RB σ H s):∀b∈eJ X.stack,b∈X.env.locals::X.fs:=λb hb=>by
 rcases I.ok.stk with e | ⟨e,hf⟩
 ·rw [e] at hb;exact Kz _ hb
 ·rw [e] at hb;unfold eJ at hb;rw [L3,hf] at hb;exact hb
theorem af.stkFree(I:af X RB σ H s):∀b∈eJ X.stack,H b=none:=λb hb=>by
 rcases Kh.mp (I.stkSub b hb) with e | hb
 ·rw [e];exact I.free
 ·obtain⟨_,o,ho,_⟩:=I.ok.funs.mem hb;exact I.base.free b o ho (I.ok.frf b hb) λz=>I.ok.exfs b z hb
theorem af.step{g':Array Rz}{t':Nat}{d':Drawn}{ch:List Qk}(I:af X RB σ H s)
 (hch:∀b∈ch,(b∈X.ex\/X.s₀.heap.objs.size<=b)/\b≠X.env.locals/\(∀x c,X.env.cells.lookup x=some c->c≠b)/\∀p∈X.pn++RB,p.1≠b)
 (keep:∀b o,b≠X.env.locals->b ∉ X.fs->b ∉ ch->s.heap.get? b=some o->H b=none->h'.get? b=some o)
 (slot:∀b o,b≠X.env.locals->b∈X.fs->b ∉ ch->s.heap.get? b=some o->H b=none->∃sl,h'.get? b=some {o with slots:=sl})(free:∀b o,b ∉ ch->s.heap.get? b=some o->H b=none->H' b=none)
 (there:∀b o,b ∉ ch->s.heap.get? b=some o->∃o',h'.get? b=some o')
 (tups:∀b xs,H b=some (.tup xs)->H' b=some (.tup xs))(frzs:∀b o u,H b=some (.frz o u)->H' b=some (.frz o u))(tbls:∀b ps,H b=some (.tbl ps)->∃more,H' b=some (.tbl (ps++more)))
 (ns:∀m,s.heap.Ns X.env.locals m->h'.Ns X.env.locals m)(hok:bK X.prog X.w H' h')(hg:Rl g'):
 af X RB σ H' {s with heap:=h',gens:=g',drawn:=d',toks:=t'}:=by
 have neL:∀b o,X.s₀.heap.get? b=some o->b≠X.env.locals:=λb o e=>KH (K3 (Km e) I.ok.above);have neC:∀b o,X.s₀.heap.get? b=some o->b ∉ X.ex->b ∉ ch:=λb o e hx hb=>by
  rcases(hch b hb).1 with z | z
  ·exact hx z
  ·exact absurd (K3 (Km e) z) (Mg _)
 have cellK:∀x c,X.env.cells.lookup x=some c->∀v,s.heap.IsCell c v->h'.IsCell c v:=λx c e v uu1=>by
  obtain⟨o,ho,hd⟩:=uu1;have nch:c ∉ ch:=λz=>(hch c z).2.2.1 x c e rfl;by_cases hc:c∈X.fs
  ·obtain⟨sl,q⟩:=slot c o (I.cne x c e) hc nch ho (I.freeC x c e);exact⟨_,q,hd⟩
  ·exact⟨o,keep c o (I.cne x c e) hc nch ho (I.freeC x c e),hd⟩
 refine⟨I.ok,I.os,hg,⟨λb o e n hb hx=>?_,λb o e n hb hx=>?_,λb o e n hx=>?_,λb o e hx=>?_,λb xs e=>tups b xs (I.base.tups b xs e),λb o xs e=>frzs b o xs (I.base.frzs b o xs e),λb ps e=>?_⟩,?_,λx c e=>?_,?_,λx c e=>?_,λp hp=>?_,hok,I.len⟩
 ·exact keep b o (neL b o e) hb (neC b o e hx) (I.base.keep b o e n hb hx) (I.base.free b o e n hx)
 ·obtain⟨sl,e1⟩:=I.base.slot b o e n hb hx;obtain⟨sl',e2⟩:=slot b _ (neL b o e) hb (neC b o e hx) e1 (I.base.free b o e n hx);exact⟨sl',e2⟩
 ·obtain⟨o',e1⟩:=I.base.there b o e hx;exact free b o' (neC b o e hx) e1 (I.base.free b o e n hx)
 ·obtain⟨o',e1⟩:=I.base.there b o e hx;exact there b o' (neC b o e hx) e1
 ·obtain⟨m1,e1⟩:=I.base.tbls b ps e;obtain⟨m2,e2⟩:=tbls b _ e1;exact⟨m1++m2,by rw [e2,Array.append_assoc]⟩
 ·obtain⟨m,hn,hl⟩:=I.loc;refine⟨m,ns m hn,λi x v e1 e2 e3=>?_⟩;obtain⟨u,r,l⟩:=hl i x v e1 e2 e3;refine⟨u,r,?_⟩;rcases l with l | ⟨k,c,e,z⟩
  ·exact .inl l
  ·exact .inr ⟨k,c,e,cellK x c e _ z⟩
 ·obtain⟨v,z⟩:=I.cell x c e;exact⟨v,cellK x c e v z⟩
 ·obtain⟨m,⟨o,_,_,ho,_⟩,_⟩:=I.loc;exact free _ o (λz=>(hch _ z).2.1 rfl) ho I.free
 ·obtain⟨v,o,ho,hd⟩:=I.cell x c e;exact free c o (λz=>(hch c z).2.2.1 x c e rfl) ho (I.freeC x c e)
 ·obtain⟨e,n,ne,nf,d⟩:=I.pin p hp;have nch:p.1 ∉ ch:=λz=>(hch p.1 z).2.2.2 p hp rfl;exact⟨keep p.1 p.2 ne nf nch e n,free p.1 p.2 nch e n,ne,nf,d⟩
theorem af.un{t':Nat}(I:af X RB σ H s)(u:Un X.fs [] H H' s.heap h')(hok:bK X.prog X.w H' h'):af X RB σ H' {s with heap:=h',toks:=t'}:=by
 obtain⟨m,⟨o,es,ep,ho,r⟩,_⟩:=id I.loc;obtain⟨sl,hL⟩:=u.any ho I.free Qh;exact I.step (g':=s.gens) (d':=s.drawn) (ch:=[]) (λ_ z=>nomatch z) (λb o _ hb _ e n=>u.keep b o e n hb Qh) (λb o _ hb _ e n=>u.slot b o e n hb Qh) (λb o _ e n=>u.free b o e n Qh) (λb o _ e=>u.there b o e Qh) u.tups u.frzs u.tbls (λm' hm=>by
  obtain⟨o',es',ep',ho',r'⟩:=hm;rw [ho] at ho';cases ho';exact⟨_,es',ep',hL,r'⟩) hok I.bare
theorem af.call{g':Array Rz}{t':Nat}{d':Drawn}{ch:List Qk}(I:af X RB σ H s)(u:Un (eJ X.stack) ch H H' s.heap h')(hok:bK X.prog X.w H' h')(hg:Rl g')
 (hch:∀b∈ch,(b∈X.ex\/X.s₀.heap.objs.size<=b)/\b≠X.env.locals/\(∀x c,X.env.cells.lookup x=some c->c≠b)/\∀p∈X.pn++RB,p.1≠b):
 af X RB σ H' {s with heap:=h',gens:=g',drawn:=d',toks:=t'}:=by
 obtain⟨m,⟨o,es,ep,ho,r⟩,_⟩:=id I.loc;obtain⟨sl,hL⟩:=u.any ho I.free λz=>(hch _ z).2.1 rfl;exact I.step (ch:=ch) hch (λb o hL hb hc e n=>u.keep b o e n (λz=>(Kh.mp (I.stkSub b z)).elim hL hb) hc) (λb o _ _ hc e n=>u.any e n hc) (λb o hc e n=>u.free b o e n hc) (λb o hc e=>u.there b o e hc) u.tups u.frzs u.tbls (λm' hm=>by
  obtain⟨o',es',ep',ho',r'⟩:=hm;rw [ho] at ho';cases ho';exact⟨_,es',ep',hL,r'⟩) hok hg
theorem af.turned{t':Nat}{it:Qk}(I:af X RB σ H s)(k:∀b o,b≠it->s.heap.get? b=some o->h'.get? b=some o)(hn:H it=none)(hL:it≠X.env.locals)
 (h1:it∈X.ex\/X.s₀.heap.objs.size<=it)(h2:∀x c,X.env.cells.lookup x=some c->c≠it)(h3:∀p∈X.pn++RB,p.1≠it):af X RB σ H {s with heap:=h',toks:=t'}:=by
 have nit:∀b u,H b=some u->b≠it:=λb u e z=>by rw [z,hn] at e;cases e
 refine I.step (g':=s.gens) (d':=s.drawn) (ch:=[it]) (λb hb=>?_) (λb o _ _ hc e _=>k b o (λz=>hc (by simp [z])) e) (λb o _ _ hc e _=>⟨o.slots,k b o (λz=>hc (by simp [z])) e⟩) (λ_ _ _ _ n=>n)
  (λb o hc e=>⟨o,k b o (λz=>hc (by simp [z])) e⟩) (λ_ _ e=>e) (λ_ _ _ e=>e) (λb ps e=>⟨#[],by rw [e];simp⟩) (λm hm=>?_) (λb u e=>?_) I.bare
 ·have e:b=it:=by simpa using hb
  subst e;exact⟨h1,hL,h2,h3⟩
 ·obtain⟨o,es,ep,ho,r⟩:=hm;exact⟨o,es,ep,k _ o (Ne.symm hL) ho,r⟩
 ·refine(I.hok b u e).stay (λc v hc q=>k c v ?_ q) (λ_ q=>q) λ_ _ q=>q;rcases hc with z | z
  ·rw [z];exact nit b u e
  ·exact nit c _ z
theorem af.tok(I:af X RB σ H s)(t:Nat):af X RB σ H {s with toks:=t}:=I.un (h':=s.heap) (t':=t) Un.refl I.hok
theorem af.kept{t':Nat}(I:af X RB σ H s)(k:∀b u,s.heap.get? b=some u->h'.get? b=some u):af X RB σ H {s with heap:=h',toks:=t'}:=I.un (Un.kept k) (I.hok.kept k)
theorem af.laid{a:Qk}{o:HO}{t':Nat}(I:af X RB σ H s)(k:∀b u,s.heap.get? b=some u->h'.get? b=some u)(hp:s.heap.objs.size<=a)(new:bN X.prog X.w (aq H a o) h' a o):
 af X RB σ (aq H a o) {s with heap:=h',toks:=t'}:=I.un (Un.laid k hp (I.hok.fresh hp)) (I.hok.laid k hp new)
theorem af.write{x e:Qk}{o:HO}{t':Nat}(I:af X RB σ H s)(mu:ji (H x))(he:e=x\/H e=some (.own x))(k:∀b u,b≠e->s.heap.get? b=some u->h'.get? b=some u)(heo:∃u,h'.get? e=some u)
 (new:bN X.prog X.w (aq H x o) h' x o):af X RB σ (aq H x o) {s with heap:=h',toks:=t'}:=I.un (Un.write mu he k heo) (I.hok.write mu he k heo new)
theorem af.weak{σ':List (Option V)}(I:af X RB σ H s)(hl:σ'.length=σ.length)(w:∀(i:Nat) v,σ'[i]?=some (some v)->σ[i]?=some (some v)):af X RB σ' H s:=
 ⟨I.ok,I.os,I.bare,I.base,let ⟨m,hn,hl'⟩:=I.loc;⟨m,hn,λi x v e1 e2 e3=>hl' i x v e1 (w i v e2) e3⟩,I.cell,I.free,I.freeC,I.pin,I.hok,hl.trans I.len⟩
theorem af.pins_of{pins':List (Qk×Obj)}(I:af X RB σ H s)(h:∀p∈pins',s.heap.get? p.1=some p.2/\H p.1=none/\p.1≠X.env.locals/\p.1 ∉ X.fs/\∀v,p.2.data≠ .cell v):af X pins' σ H s:=
 ⟨I.ok,I.os,I.bare,I.base,I.loc,I.cell,I.free,I.freeC,λp hp=>(Kn.mp hp).elim (λz=>I.pin p (Ni _ z)) (h p),I.hok,I.len⟩
theorem sh{N:List Str}(hN:N.Nodup){i j:Nat}{x:Str}(a:N[i]?=some x)(b:N[j]?=some x):i=j:=by
 obtain⟨h1,e1⟩:=Kg.mp a;obtain⟨h2,e2⟩:=Kg.mp b;exact(Na hN).mp (e1.trans e2.symm)
theorem si{M:Model}{A:QC}{E:Qj->Ql->Prop}{i:Nat}{x:Str}{v:V}{u:Qj}{Q:Unit->Ql->Prop}(I:af X RB σ H s)(hN:X.N.Nodup)(hi:X.N[i]?=some x)(hx:fD X.env.scope x)(r:aC v u)
 (h:∀s',af X RB (σ.set i (some v)) H s'->(∃a,Nj a s.heap s'.heap/\(a=X.env.locals\/X.env.cells.lookup x=some a))->Q () s')(hf:X.fn x=true\/X.env.scope.names.lookup x=some .local:=by first | exact .inl rfl | exact .inr rfl | assumption):Qr M A (storeName X.env x u) Q E s:=by
 obtain⟨m,hn,hl⟩:=id I.loc;have hcls:(X.env.scope.kind== .class || (X.env.scope.kind== .module && X.env.locals !=X.env.globals))=false:=by rw [I.ok.kind];rfl
 have hiσ:i < σ.length:=by rw [I.len];exact(Kg.mp hi).1
 have cne:=I.cne;have tracked:∀{a:Qk}{h':Qy},(∃o,s.heap.get? a=some o/\H a=none)->Nj a s.heap h'->bK X.prog X.w H h':=λ{a h'} ha hs b ob e=>by
  obtain⟨_,_,hfree⟩:=ha;refine(I.hok b ob e).stay (λc w' hc q=>(hs.2 c ?_).trans q) (λ_ q=>q) λ_ _ q=>q;rintro rfl;rcases hc with rfl | hc
  ·rw [hfree] at e;cases e
  ·rw [hfree] at hc;cases hc
 rcases hx with hk | hk
 ·refine wpAny_storeName_local hk hn (λh' hn' hs=>?_) hcls;obtain⟨oL,_,_,hoL,_⟩:=id hn;refine h _ ⟨I.ok,I.os,I.bare,⟨λb o e n hb hx=>?_,λb o e n hb hx=>?_,I.base.free,λb o e hx=>?_,I.base.tups,I.base.frzs,I.base.tbls⟩,⟨_,hn',λj y v' e1 e2 e3=>?_⟩,λy c e=>?_,I.free,I.freeC,λp hp=>?_,tracked ⟨oL,hoL,I.free⟩ hs,by simpa using I.len⟩ ⟨_,hs,.inl rfl⟩
  ·exact(hs.2 b (KH (K3 (Km e) I.ok.above))).trans (I.base.keep b o e n hb hx)
  ·obtain⟨sl,e1⟩:=I.base.slot b o e n hb hx;exact⟨sl,(hs.2 b (KH (K3 (Km e) I.ok.above))).trans e1⟩
  ·obtain⟨o',e1⟩:=I.base.there b o e hx;exact⟨o',(hs.2 b (KH (K3 (Km e) I.ok.above))).trans e1⟩
  ·by_cases hj:j=i
   ·subst hj;rw [hi] at e1;cases e1;rw [KP hiσ] at e2;cases e2;exact⟨u,r,.inl ⟨hk,Qh⟩⟩
   ·rw [KC (Ne.symm hj)] at e2;obtain⟨u',r',q⟩:=hl j y v' e1 e2 e3;refine⟨u',r',?_⟩;rcases q with⟨k,e⟩ | ⟨k,c,e,z⟩
    ·refine .inl ⟨k,?_⟩;have:y≠x:=λe=>hj (sh hN e1 (e▸hi));simp [this,e]
    ·exact .inr ⟨k,c,e,z.sameBut hs (cne y c e)⟩
  ·obtain⟨w',z⟩:=I.cell y c e;exact⟨w',z.sameBut hs (cne y c e)⟩
  ·obtain⟨e,n,ne,nf,d⟩:=I.pin p hp;exact⟨(hs.2 p.1 ne).trans e,n,ne,nf,d⟩
 ·have hfn:X.fn x=true:=by
   rcases hf with z | z
   ·exact z
   ·rw [z] at hk;cases hk
  obtain⟨c,hc⟩:=I.ok.has x (.inl hk);obtain⟨w',z⟩:=I.cell x c hc;refine wpAny_storeName_cell I.ok.kind hk hc z (λh' hc' hs=>?_);obtain⟨oc,hoc,hocd⟩:=id z;refine h {s with heap:=h'} ⟨I.ok,I.os,I.bare,⟨λb o e n hb hx=>?_,λb o e n hb hx=>?_,I.base.free,λb o e hx=>?_,I.base.tups,I.base.frzs,I.base.tbls⟩,⟨m,hn.sameBut hs (Ne.symm (cne x c hc)),λj y v' e1 e2 e3=>?_⟩,λy c' e=>?_,I.free,I.freeC,λp hp=>?_,tracked ⟨oc,hoc,I.freeC x c hc⟩ hs,by simpa using I.len⟩ ⟨c,hs,.inr hc⟩
  ·exact(hs.2 b (KH (K3 (Km e) (I.ok.cab x c hfn hc)))).trans (I.base.keep b o e n hb hx)
  ·obtain⟨sl,e1⟩:=I.base.slot b o e n hb hx;exact⟨sl,(hs.2 b (KH (K3 (Km e) (I.ok.cab x c hfn hc)))).trans e1⟩
  ·obtain⟨o',e1⟩:=I.base.there b o e hx;exact⟨o',(hs.2 b (KH (K3 (Km e) (I.ok.cab x c hfn hc)))).trans e1⟩
  ·by_cases hj:j=i
   ·subst hj;rw [hi] at e1;cases e1;rw [KP hiσ] at e2;cases e2;exact⟨u,r,.inr ⟨.inl hk,c,hc,hc'⟩⟩
   ·rw [KC (Ne.symm hj)] at e2;obtain⟨u',r',q⟩:=hl j y v' e1 e2 e3;refine⟨u',r',?_⟩;rcases q with q | ⟨k,c',e,z'⟩
    ·exact .inl q
    ·refine .inr ⟨k,c',e,z'.sameBut hs ?_⟩;rintro rfl;exact hj (sh hN e1 (I.ok.inj _ _ _ e hc▸hi))
  ·by_cases hcc:c'=c
   ·subst hcc;exact⟨_,hc'⟩
   ·obtain⟨w2,z2⟩:=I.cell y c' e;exact⟨w2,z2.sameBut hs hcc⟩
  ·obtain⟨e,n,ne,nf,d⟩:=I.pin p hp;refine⟨(hs.2 p.1 ?_).trans e,n,ne,nf,d⟩;intro q;rw [q,hoc] at e;have q':oc=p.2:=K4 e;exact d w' (by rw [<-q'];exact hocd)
theorem lJ{M:Model}{A:QC}{E:Qj->Ql->Prop}{i:Nat}{x:Str}{v:V}{u:Qj}{Q:Unit->Ql->Prop}(I:af X RB σ H s)(hN:X.N.Nodup)(hi:X.N[i]?=some x)(hx:fD X.env.scope x)(r:aC v u)
 (h:∀s',af X RB (σ.set i (some v)) H s'->Q () s')(hf:X.fn x=true\/X.env.scope.names.lookup x=some .local:=by first | exact .inl rfl | exact .inr rfl | assumption):Qr M A (storeName X.env x u) Q E s:=
 si I hN hi hx r (λs' I' _=>h s' I') hf
theorem af.call'{s':Ql}{ch:List Qk}(I:af X RB σ H s)(ho:s'.os=s.os)(u:Un (eJ X.stack) ch H H' s.heap s'.heap)(hok:bK X.prog X.w H' s'.heap)(hg:Rl s'.gens)
 (hch:∀b∈ch,(b∈X.ex\/X.s₀.heap.objs.size<=b)/\b≠X.env.locals/\(∀x c,X.env.cells.lookup x=some c->c≠b)/\∀p∈X.pn++RB,p.1≠b):af X RB σ H' s':=by
 obtain⟨h',g',d',t',o'⟩:=s';have e:o'=s.os:=ho;subst e;exact I.call (g':=g') (t':=t') (d':=d') u hok hg hch
end
abbrev XK:=Qj->Option Qk->Hp->Prop
abbrev St:=List (Option V)
abbrev VK:=V->Hp->Prop
abbrev TE:=St->Hp->VK->Prop
abbrev TT:=St->Hp->(Bool->Hp->Prop)->Prop
abbrev TA:=St->Hp->(List V->Hp->Prop)->Prop
structure gG where
 nx:St->Hp->Prop
 rt:VK
 bk:St->Hp->Prop:=λ_ _=>False
 ct:St->Hp->Prop:=λ_ _=>False
abbrev TS:=gG->St->Hp->Prop
inductive EP (X:Cx) (RB:List (Qk×Obj)) (σ:St) (Q:VK) (u:Qj) (s':Ql):Prop
 | mk (v:V) (H':Hp):af X RB σ H' s'->aC v u->Q v H'->EP X RB σ Q u s'
inductive TP (X:Cx) (RB:List (Qk×Obj)) (σ:St) (Q:Bool->Hp->Prop) (b:Bool) (s':Ql):Prop
 | mk (H':Hp):af X RB σ H' s'->Q b H'->TP X RB σ Q b s'
inductive AP (X:Cx) (RB:List (Qk×Obj)) (σ:St) (Q:List V->Hp->Prop) (us:List Qj) (s':Ql):Prop
 | mk (vs:List V) (H':Hp):af X RB σ H' s'->aD vs us->Q vs H'->AP X RB σ Q us s'
def SP(X:Cx)(RB:List (Qk×Obj))(D:gG)(f:Flow)(s':Ql):Prop:=
 match f with
 | .next=>∃σ' H',af X RB σ' H' s'/\D.nx σ' H'
 | .brk=>∃σ' H',af X RB σ' H' s'/\D.bk σ' H'
 | .cont=>∃σ' H',af X RB σ' H' s'/\D.ct σ' H'
 | .ret u=>∃v σ' H',af X RB σ' H' s'/\aC v u/\D.rt v H'
def PE(X:Cx)(e:Qn)(t:TE):Prop:=
 ∀(RB:List (Qk×Obj))(s:Ql)(σ:St)(H:Hp)(Q:VK),af X RB σ H s->t σ H Q->Qr (Qs X.prog X.w) X.A (eval e X.env) (EP X RB σ Q) X.xe s
def PT(X:Cx)(e:Qn)(t:TT):Prop:=
 ∀(RB:List (Qk×Obj))(s:Ql)(σ:St)(H:Hp)(Q:Bool->Hp->Prop),af X RB σ H s->t σ H Q->Qr (Qs X.prog X.w) X.A (isTrue e X.env (eval e X.env)) (TP X RB σ Q) X.xe s
def PW(X:Cx)(e:Qn)(t:TT):Prop:=
 ∀(whole:Sem Qj)(RB:List (Qk×Obj))(s:Ql)(σ:St)(H:Hp)(Q:Bool->Hp->Prop),af X RB σ H s->t σ H Q->Qr (Qs X.prog X.w) X.A (isTrue e X.env whole) (TP X RB σ Q) X.xe s
theorem PW.pt{X:Cx}{e:Qn}{t:TT}(h:PW X e t):PT X e t:=h _
def PA(X:Cx)(es:List Qn)(t:TA):Prop:=
 ∀(pos:Pos)(RB:List (Qk×Obj))(s:Ql)(σ:St)(H:Hp)(Q:List V->Hp->Prop),af X RB σ H s->t σ H Q->Qr (Qs X.prog X.w) X.A (spliced (QJ pos (Qo es X.env))) (AP X RB σ Q) X.xe s
def PS(X:Cx)(st:Qx)(t:TS):Prop:=
 ∀(RB:List (Qk×Obj))(s:Ql)(σ:St)(H:Hp)(D:gG),af X RB σ H s->t D σ H->Qr (Qs X.prog X.w) X.A (exec st X.env) (SP X RB D) X.xe s
def bz(X:Cx)(st:List Qx)(t:TS):Prop:=
 ∀(RB:List (Qk×Obj))(s:Ql)(σ:St)(H:Hp)(D:gG),af X RB σ H s->t D σ H->Qr (Qs X.prog X.w) X.A (execs st X.env) (SP X RB D) X.xe s
theorem aA{α:Type}{t:Sem α}{Q Q':α->Ql->Prop}{M:Model}{A:QC}{E:Qj->Ql->Prop}{s:Ql}(h:Qr M A t Q E s)(hQ:∀a s,Q a s->Q' a s):Qr M A t Q' E s:=QI h hQ λ_ _ x=>x
section
variable {X:Cx}
theorem JW{a b:Qn}{ta tb:TE}(ha:PE X a ta)(hb:PE X b tb){RB:List (Qk×Obj)}{s:Ql}{σ:St}{H:Hp}{R:V->V->Hp->Prop}(I:af X RB σ H s)(h:ta σ H λx H1=>tb σ H1 λy H2=>R x y H2)
 {α:Type}{Q:α->Ql->Prop}{f:Qj->Qj->Sem α}
 (hf:∀v u s2 x y H2,af X RB σ H2 s2->aC x v->aC y u->R x y H2->Qr (Qs X.prog X.w) X.A (f v u) Q X.xe s2):
 Qr (Qs X.prog X.w) X.A (eval a X.env) (λv s₁=>Qr (Qs X.prog X.w) X.A (eval b X.env) (λu s₂=>Qr (Qs X.prog X.w) X.A (f v u) Q X.xe s₂) X.xe s₁) X.xe s:=by
 refine aA (ha RB s σ H _ I h) λv s1 ⟨x,H1,I1,r1,q1⟩=>?_;refine aA (hb RB s1 σ H1 _ I1 q1) λu s2 ⟨y,H2,I2,r2,q2⟩=>?_;exact hf v u s2 x y H2 I2 r1 r2 q2
def dh(i:Nat):TE:=λσ H Q=>∃v,σ[i]?=some (some v)/\Q v H
def tC(v:V):TE:=λ_ H Q=>Q v H
theorem oi{i:Nat}{x:Str}{pos:Pos}(hN:X.N[i]?=some x)(hv:j5 X.env.scope x)(hd:(x==("__debug__":Str))=false:=by decide)(hcd:(x==("__classdict__":Str))=false:=by decide):PE X (.Name x pos) (dh i):=by
 intro RB s σ H Q I h;obtain⟨v,e,h⟩:=h;obtain⟨m,hn,hl⟩:=I.loc;obtain⟨u,r,l⟩:=hl i x v hN e hv;have fin:EP X RB σ Q u s:=⟨v,H,I,r,h⟩;rcases l with⟨hk,hm⟩ | ⟨hk,c,hc,hcell⟩
 ·exact wpAny_Name (wpAny_loadName_local I.ok.kind hk hn hm fin) hd
 ·rcases hk with hk | hk
  ·exact wpAny_Name (wpAny_loadName_cell I.ok.kind hk hc hcell fin) hd
  ·exact wpAny_Name (wpAny_loadName_free I.ok.kind hk hc hcell fin hcd) hd
theorem cq{i j pos}:PE X (.Constant (.int i) j pos) (tC (.int i)):=λ_ _ _ H _ I h=>wpAny_Constant_int ⟨.int i,H,I.tok _,⟨_,rfl⟩,h⟩
theorem BE{b j pos}:PE X (.Constant (.bool b) j pos) (tC (.bl b)):=λ_ _ _ H _ I h=>Constant_bool ⟨.bl b,H,I,rfl,h⟩
theorem BF{j pos}:PE X (.Constant .none j pos) (tC .non):=λ_ _ _ H _ I h=>Constant_none ⟨.non,H,I,rfl,h⟩
theorem BG{x j pos}:PE X (.Constant (.str x) j pos) (tC (.str x)):=λ_ _ _ H _ I h=>Calls.Constant_str ⟨.str x,H,I.tok _,⟨_,rfl⟩,h⟩
def Gl(X:Cx)(x:Str):Prop:=X.env.kindOf x=some .globalImplicit
theorem oj{E:Qj->Ql->Prop}{RB:List (Qk×Obj)}{s:Ql}{σ:St}{H:Hp}{x:Str}{u:Qj}{pos:Pos}{Q:Qj->Ql->Prop}(I:af X RB σ H s)(hg:Gl X x)(hm:X.mg x=some u)(h:Q u s)
 (hd:(x==("__debug__":Str))=false:=by decide):Qr (Qs X.prog X.w) X.A (eval (.Name x pos) X.env) Q E s:=
 Nz I.ok.kind hg (Calls.loadGlobal_global (by rw [I.ok.glob];exact I.mod.glob.keeps I.bk) hm h) hd
theorem jj{E:Qj->Ql->Prop}{RB:List (Qk×Obj)}{s:Ql}{σ:St}{H:Hp}{x:Str}{u:Qj}{pos:Pos}{Q:Qj->Ql->Prop}(I:af X RB σ H s)(hg:Gl X x)(hm:X.mg x=none)(hv:QB x=some u)(h:Q u s)
 (hn:x≠"__name__":=by decide)(hd:(x==("__debug__":Str))=false:=by decide):Qr (Qs X.prog X.w) X.A (eval (.Name x pos) X.env) Q E s:=by
 obtain⟨mb,h1,h2⟩:=I.mod.blt;exact Nz I.ok.kind hg (Calls.loadGlobal_builtin (by rw [I.ok.glob];exact I.mod.glob.keeps I.bk) hm (by rw [I.ok.blt];exact h1.keeps I.bk) ((h2 x hn).trans hv) h) hd
theorem jk{x:Str}{v:V}{u:Qj}{pos:Pos}(hg:Gl X x)(hm:X.mg x=some u)(r:aC v u)(hd:(x==("__debug__":Str))=false:=by decide):PE X (.Name x pos) (tC v):=
 λ_ _ _ H _ I h=>oj I hg hm ⟨v,H,I,r,h⟩ hd
theorem eL{x:Str}{v:V}{u:Qj}{pos:Pos}(hg:Gl X x)(hm:X.mg x=none)(hv:QB x=some u)(r:aC v u)(hn:x≠"__name__":=by decide)(hd:(x==("__debug__":Str))=false:=by decide):PE X (.Name x pos) (tC v):=
 λ_ _ _ H _ I h=>jj I hg hm hv ⟨v,H,I,r,h⟩ hn hd
variable {a b:Qn} {ta tb:TE} {pos:Pos}
def PC(X:Cx)(op:Q7)(a b:Qn)(t:TE):Prop:=
 ∀(RB:List (Qk×Obj))(s:Ql)(σ:St)(H:Hp)(Q:VK),af X RB σ H s->t σ H Q->
  Qr (Qs X.prog X.w) X.A (eval a X.env) (λv s₁=>Qr (Qs X.prog X.w) X.A (eval b X.env) (λu s₂=>Qr (Qs X.prog X.w) X.A (Qz op v u) (EP X RB σ Q) X.xe s₂) X.xe s₁) X.xe s
theorem sj(b:Qn){op:Q7}(h:op≠ .In)(h2:op≠ .NotIn):QG op b=false:=by
 have e1:(op==CmpOp.In)=false:=by cases op <;> first | rfl | exact absurd rfl h
 have e2:(op==P0)=false:=by cases op <;> first | rfl | exact absurd rfl h2
 cases b <;> simp [QG,e1,e2]
def tB(t:TE):TT:=λσ H Q=>t σ H λx H1=>∃c,x= .bl c/\Q c H1
theorem BH{op:Q7}{t:TE}(h:PC X op a b t)(h1:QG op b=false:=by first | exact sj _ Qb Qb | rfl):PE X (.Compare a [op] [b] pos) t:=λRB s σ H Q I hw=>wpAny_Compare1 (h RB s σ H Q I hw) h1
theorem om{op:Q7}{t:TE}(h:PC X op a b t)(h1:QG op b=false:=by first | exact sj _ Qb Qb | rfl):PT X (.Compare a [op] [b] pos) (tB t):=by
 intro RB s σ H Q I hw;refine wpAny_isTrue_Compare1 (aA (h RB s σ H _ I hw) λv s1 h1=>aA h1 λu s2 h2=>aA h2 λc s3 ⟨x,H1,I1,r1,q1⟩=>?_) h1;obtain⟨d,rfl,q⟩:=q1;cases r1;exact QF ⟨H1,I1,q⟩
theorem BI{e:Qn}{t:TE}(h:PE X e t)(he:∀whole,isTrue e X.env whole=(do let v<-whole;standAt e.pos;holding [v] (truthy v)):=by intro _;rfl):PT X e (tB t):=by
 intro RB s σ H Q I hw;refine isTrue_plain (aA (h RB s σ H _ I hw) λv s1 ⟨x,H1,I1,r1,q1⟩=>?_) (he _);obtain⟨d,rfl,q⟩:=q1;cases r1;exact QF ⟨H1,I1,q⟩
variable {tA tB':TT} {rest:List Qn}
def sk(t u:TT):TT:=λσ H Q=>t σ H λc H1=>if c=true then u σ H1 Q else Q false H1
def sq(t u:TT):TT:=λσ H Q=>t σ H λc H1=>if c=true then Q true H1 else u σ H1 Q
def sr(t:TT):TT:=λσ H Q=>t σ H λc H1=>Q (!c) H1
theorem BJ(ha:PT X a tA):PW X (.BoolOp .And [a] pos) tA:=by
 intro wh RB s σ H Q I h;refine isTrue_and (aA (ha RB s σ H Q I h) λc s1 e=>?_);cases c with
 | true=>exact isTrue_and_nil e
 | false=>exact e
theorem su(ha:PT X a tA):PW X (.BoolOp .Or [a] pos) tA:=by
 intro wh RB s σ H Q I h;refine isTrue_or (aA (ha RB s σ H Q I h) λc s1 e=>?_);cases c with
 | false=>exact isTrue_or_nil e
 | true=>exact e
theorem BK(ha:PT X a tA)(hb:PW X (.BoolOp .And (b::rest) pos) tB'):PW X (.BoolOp .And (a::b::rest) pos) (sk tA tB'):=by
 intro wh RB s σ H Q I h;refine isTrue_and (aA (ha RB s σ H _ I h) λc s1 ⟨H1,I1,q1⟩=>?_);cases c with
 | true=>exact hb wh RB s1 σ H1 Q I1 q1
 | false=>exact⟨H1,I1,q1⟩
theorem sv(ha:PT X a tA)(hb:PW X (.BoolOp .Or (b::rest) pos) tB'):PW X (.BoolOp .Or (a::b::rest) pos) (sq tA tB'):=by
 intro wh RB s σ H Q I h;refine isTrue_or (aA (ha RB s σ H _ I h) λc s1 ⟨H1,I1,q1⟩=>?_);cases c with
 | true=>exact⟨H1,I1,q1⟩
 | false=>exact hb wh RB s1 σ H1 Q I1 q1
theorem BL(ha:PT X a tA):PT X (.UnaryOp .Not a pos) (sr tA):=by
 intro RB s σ H Q I h;exact isTrue_not (aA (ha RB s σ H (λc H1=>Q (!c) H1) I h) λc s1 uu8=>by obtain⟨H1,I1,q⟩:=uu8;exact⟨H1,I1,q⟩)
def sA(ta tb:TE):TE:=λσ H Q=>ta σ H λx H1=>∃c,x= .bl c/\if c=true then tb σ H1 Q else Q (.bl false) H1
def sC(ta tb:TE):TE:=λσ H Q=>ta σ H λx H1=>∃c,x= .bl c/\if c=true then Q (.bl true) H1 else tb σ H1 Q
def sE(ta:TE):TE:=λσ H Q=>ta σ H λx H1=>∃c,x= .bl c/\Q (.bl (!c)) H1
theorem BM{op}{t:TE}(h:PE X a t):PE X (.BoolOp op [a] pos) t:=λRB s σ H Q I hw=>BoolOp_one (h RB s σ H Q I hw)
theorem BN(ha:PE X a ta)(hb:PE X (.BoolOp .And (b::rest) pos) tb):PE X (.BoolOp .And (a::b::rest) pos) (sA ta tb):=by
 intro RB s σ H Q I h;refine BoolOp_and (aA (ha RB s σ H _ I h) λv s1 ⟨x,H1,I1,r1,q1⟩=>?_);obtain⟨c,rfl,q1⟩:=q1;cases r1;refine QF ?_;cases c with
 | true=>exact hb RB s1 σ H1 Q I1 q1
 | false=>exact⟨.bl false,H1,I1,rfl,q1⟩
theorem BO(ha:PE X a ta)(hb:PE X (.BoolOp .Or (b::rest) pos) tb):PE X (.BoolOp .Or (a::b::rest) pos) (sC ta tb):=by
 intro RB s σ H Q I h;refine BoolOp_or (aA (ha RB s σ H _ I h) λv s1 ⟨x,H1,I1,r1,q1⟩=>?_);obtain⟨c,rfl,q1⟩:=q1;cases r1;refine QF ?_;cases c with
 | false=>exact hb RB s1 σ H1 Q I1 q1
 | true=>exact⟨.bl true,H1,I1,rfl,q1⟩
theorem BP(ha:PE X a ta):PE X (.UnaryOp .Not a pos) (sE ta):=by
 intro RB s σ H Q I h;refine UnaryOp_ (aA (ha RB s σ H _ I h) λv s1 ⟨x,H1,I1,r1,q1⟩=>?_);obtain⟨c,rfl,q1⟩:=q1;cases r1;exact not_of (QF ⟨.bl (!c),H1,I1,rfl,q1⟩)
def sF(t:TT)(ta tb:TE):TE:=λσ H Q=>t σ H λc H1=>if c=true then ta σ H1 Q else tb σ H1 Q
theorem BQ{c:Qn}(hc:PT X c tA)(ha:PE X a ta)(hb:PE X b tb):PE X (.IfExp c a b pos) (sF tA ta tb):=by
 intro RB s σ H Q I h;refine wpAny_IfExp (aA (hc RB s σ H _ I h) λd s1 ⟨H1,I1,q1⟩=>?_);cases d with
 | true=>exact ha RB s1 σ H1 Q I1 q1
 | false=>exact hb RB s1 σ H1 Q I1 q1
end
def aX(K:J0)(H:Hp)(a:Qk)(xs:List V):Prop:=
 Rd H a (.lst xs)\/
  ∃(o:Obj)(its:Array Qj)(n:Nat),K.lookup a=some o/\o.cls= .type "list"/\o.dict=none/\o.data= .seq its n/\its.size<=Qp/\aD xs its.toList
def bg(K:J0)(H:Hp)(a:Qk)(xs:List V):Prop:=
 Rd H a (.tup xs)\/
  ∃(o:Obj)(its:Array Qj)(n:Nat),K.lookup a=some o/\o.cls= .type "tuple"/\o.data= .seq its n/\its.size<=Qp/\aD xs its.toList
def BR:Qj->Option V
 | .none=>some .non
 | .bool b=>some (.bl b)
 | .int i _=>some (.int i)
 | .str x _=>some (.str x)
 | .bytes b _=>some (.byt b)
 | .float b _=>some (.flt b)
 | .ref a=>some (.ref a)
 | .type n=>some (.ty n)
 | _=>none
theorem aC.abs{x:V}{u:Qj}(r:aC x u):BR u=some x:=by
 cases x with
 | non=>cases r;rfl
 | bl _=>cases r;rfl
 | int _=>obtain⟨t,rfl⟩:=r;rfl
 | str _=>obtain⟨t,rfl⟩:=r;rfl
 | byt _=>obtain⟨t,rfl⟩:=r;rfl
 | flt _=>obtain⟨t,rfl⟩:=r;rfl
 | ref _=>cases r;rfl
 | ty _=>cases r;rfl
theorem aC.inj{x y:V}{u:Qj}(r:aC x u)(q:aC y u):x=y:=K4 (r.abs.symm.trans q.abs)
theorem aD.inj:∀{xs ys:List V}{us:List Qj},aD xs us->aD ys us->xs=ys
 | _,_,_,.nil,.nil=>rfl
 | _,_,_,.cons r t,.cons r' t'=>by rw [r.inj r',aD.inj t t']
section
variable {X:Cx} {RB:List (Qk×Obj)} {σ:St} {H:Hp} {s:Ql} {a:Qk} {xs ys:List V}
theorem aX.of{K:J0}(h:H a=some (.lst xs)):aX K H a xs:= .inl (.inl h)
theorem bg.of{K:J0}(h:H a=some (.tup xs)):bg K H a xs:= .inl (.inl h)
theorem af.list(I:af X RB σ H s)(h:aX X.K H a xs):∃its:List Qj,aD xs its/\PlainL s.heap a its.toArray/\xs.length<=Qp:=by
 rcases h with h | ⟨o,its,n,hk,hc,hd,hs,hz,r⟩
 ·obtain⟨z,its,n,r,e⟩:=h.ok I.hok;exact⟨its,r,⟨_,n,e,rfl,rfl,rfl⟩,z⟩
 ·refine⟨its.toList,r,⟨o,n,I.kIn a o hk,hc,hd,by simpa using hs⟩,?_⟩;have e:=r.length;simp only [KZ] at e;omega
theorem af.tuple(I:af X RB σ H s)(h:bg X.K H a xs):∃its:List Qj,aD xs its/\IsTup s.heap a its.toArray/\xs.length<=Qp:=by
 rcases h with h | ⟨o,its,n,hk,hc,hs,hz,r⟩
 ·obtain⟨z,its,r,p⟩:=h.ok I.hok;exact⟨its,r,p,z⟩
 ·refine⟨its.toList,r,⟨o,I.kIn a o hk,hc,n,by simpa using hs⟩,?_⟩;have e:=r.length;simp only [KZ] at e;omega
theorem af.list_inj(I:af X RB σ H s)(h:aX X.K H a xs)(h':aX X.K H a ys):xs=ys:=by
 obtain⟨its,r,⟨o,n,e,_,_,d⟩,_⟩:=I.list h;obtain⟨its',r',⟨o',n',e',_,_,d'⟩,_⟩:=I.list h';rw [e] at e';cases e';rw [d] at d';injection d' with d1 _
 have:its=its':=by simpa using congrArg PK d1
 subst this;exact r.inj r'
theorem af.tuple_inj(I:af X RB σ H s)(h:bg X.K H a xs)(h':bg X.K H a ys):xs=ys:=by
 obtain⟨its,r,⟨o,e,_,n,d⟩,_⟩:=I.tuple h;obtain⟨its',r',⟨o',e',_,n',d'⟩,_⟩:=I.tuple h';rw [e] at e';cases e';rw [d] at d';injection d' with d1 _
 have:its=its':=by simpa using congrArg PK d1
 subst this;exact r.inj r'
end
abbrev Cx.wish(X:Cx)(E:Qj->Ql->Prop):Cx:={X with xe:=E}
abbrev Cx.nox(X:Cx):Cx:=X.wish λ_ _=>False
theorem Cx.Ok.wish{X:Cx}(ok:X.Ok)(E:Qj->Ql->Prop):(X.wish E).Ok:=
 ⟨ok.mod,ok.kind,ok.glob,ok.blt,ok.above,ok.inj,ok.has,ok.cab,ok.hd,ok.frames,ok.stk,ok.exf,ok.bs,ok.bsz,ok.noex,ok.exfs,ok.funs,ok.frf⟩
theorem Cx.Ok.unwish{X:Cx}{E:Qj->Ql->Prop}(ok:(X.wish E).Ok):X.Ok:=
 ⟨ok.mod,ok.kind,ok.glob,ok.blt,ok.above,ok.inj,ok.has,ok.cab,ok.hd,ok.frames,ok.stk,ok.exf,ok.bs,ok.bsz,ok.noex,ok.exfs,ok.funs,ok.frf⟩
section
variable {X:Cx} {RB:List (Qk×Obj)} {σ:St} {H:Hp} {s:Ql} {E:Qj->Ql->Prop}
theorem af.wish(I:af X RB σ H s)(E:Qj->Ql->Prop):af (X.wish E) RB σ H s:=⟨I.ok.wish E,I.os,I.bare,I.base,I.loc,I.cell,I.free,I.freeC,I.pin,I.hok,I.len⟩
theorem af.unwish(I:af (X.wish E) RB σ H s):af X RB σ H s:=⟨I.ok.unwish,I.os,I.bare,I.base,I.loc,I.cell,I.free,I.freeC,I.pin,I.hok,I.len⟩
theorem SP.unwish{D:gG}{f:Flow}{s':Ql}(h:SP (X.wish E) RB D f s'):SP X RB D f s':=by
 cases f with
 | next=>obtain⟨σ',H',I,q⟩:=h;exact⟨σ',H',I.unwish,q⟩
 | brk=>obtain⟨σ',H',I,q⟩:=h;exact⟨σ',H',I.unwish,q⟩
 | cont=>obtain⟨σ',H',I,q⟩:=h;exact⟨σ',H',I.unwish,q⟩
 | ret u=>obtain⟨v,σ',H',I,r,q⟩:=h;exact⟨v,σ',H',I.unwish,r,q⟩
theorem bz.nox{st:List Qx}{t:TS}(h:bz X.nox st t):bz X st t:=λRB s σ H D I hw=>
 QI (h RB s σ H D (I.wish _) hw) (λ_ _ q=>q.unwish) λ_ _ z=>LL z
end
section
variable {X:Cx} {st:Qx} {rest:List Qx} {t u:TS} {e:Qn} {te:TE} {pos:Pos}
def sG:TS:=λD σ H=>D.nx σ H
def sH(t u:TS):TS:=λD σ H=>t {D with nx:=u D} σ H
theorem oo:bz X [] sG:=λ_ _ σ H _ I h=>Rn ⟨σ,H,I,h⟩
theorem hJ(h1:PS X st t)(h2:bz X rest u):bz X (st::rest) (sH t u):=by
 intro RB s σ H D I h;refine wpAny_execs_cons (aA (h1 RB s σ H {D with nx:=u D} I h) λf s1 q=>?_);cases f with
 | next=>
  obtain⟨σ',H',I',q⟩:=q;exact h2 RB s1 σ' H' D I' q
 | ret v=>exact q
 | brk=>exact q
 | cont=>exact q
theorem j6(h1:PS X st t):bz X [st] t:=by
 intro RB s σ H D I h;refine wpAny_execs_cons (aA (h1 RB s σ H D I h) λf s1 q=>?_);cases f with
 | next=>exact Rn q
 | ret v=>exact q
 | brk=>exact q
 | cont=>exact q
theorem af.quiet{RB:List (Qk×Obj)}{σ:St}{H:Hp}{s:Ql}(I:af X RB σ H s):interactive X.env=false:=by simp [interactive,I.ok.kind]
def sI(te:TE):TS:=λD σ H=>te σ H λ_ H1=>D.nx σ H1
theorem sJ(he:PE X e te)(hs:QK e none pos.line X.env=pure false:=by rfl):PS X (.Expr e pos) (sI te):=by
 intro RB s σ H D I h;exact wpAny_Expr_any (aA (he RB s σ H _ I h) λv s1 uu13=>by obtain⟨x,H1,I1,r1,q1⟩:=uu13;exact⟨σ,H1,I1,q1⟩) I.quiet hs
def sL(te:TE):TS:=λD σ H=>te σ H D.rt
theorem j7(he:PE X e te):PS X (.Return (some e) pos) (sL te):=by
 intro RB s σ H D I h;exact wpAny_Return_some (aA (he RB s σ H _ I h) λv s1 uu14=>by obtain⟨x,H1,I1,r1,q1⟩:=uu14;exact⟨x,σ,H1,I1,r1,q1⟩)
def sM(c:TT)(t u:TS):TS:=λD σ H=>c σ H λb H1=>if b=true then t D σ H1 else u D σ H1
theorem oq{c:Qn}{a b:List Qx}{tc:TT}(hc:PT X c tc)(ha:bz X a t)(hb:bz X b u):PS X (.If c a b pos) (sM tc t u):=by
 intro RB s σ H D I h;refine wpAny_If (aA (hc RB s σ H _ I h) λd s1 ⟨H1,I1,q1⟩=>?_);cases d with
 | true=>exact ha RB s1 σ H1 D I1 q1
 | false=>exact hb RB s1 σ H1 D I1 q1
def BS:TS:=λ_ _ _=>False
theorem BU:PS X st BS:=λ_ _ _ _ _ _ h=>h.elim
end
abbrev TG:=V->St->Hp->(St->Hp->Prop)->Prop
abbrev gf:=List V->St->Hp->(St->Hp->Prop)->Prop
def PG(X:Cx)(target:Qn)(t:TG):Prop:=
 ∀(RB:List (Qk×Obj))(s:Ql)(σ:St)(H:Hp)(v:V)(u:Qj)(Q:St->Hp->Prop),af X RB σ H s->aC v u->t v σ H Q->
  Qr (Qs X.prog X.w) X.A (assign target X.env u) (λ_ s'=>∃σ' H',af X RB σ' H' s'/\Q σ' H') X.xe s
def lK(X:Cx)(ts:List Qn)(t:gf):Prop:=
 ∀(RB:List (Qk×Obj))(s:Ql)(σ:St)(H:Hp)(vs:List V)(us:List Qj)(Q:St->Hp->Prop),af X RB σ H s->aD vs us->t vs σ H Q->
  Qr (Qs X.prog X.w) X.A (assignInOrder ((Q8 ts X.env).map (·.2)) us) (λ_ s'=>∃σ' H',af X RB σ' H' s'/\Q σ' H') X.xe s
abbrev ot:=V->V->V->Hp->(Hp->Prop)->Prop
def sN(X:Cx)(t:ot):Prop:=
 ∀(RB:List (Qk×Obj))(s:Ql)(σ:St)(H:Hp)(o i v:V)(ov iv u:Qj)(Q:Hp->Prop),af X RB σ H s->aC o ov->aC i iv->aC v u->t o i v H Q->
  Qr (Qs X.prog X.w) X.A (setItem ov iv u) (λ_ s'=>∃H',af X RB σ H' s'/\Q H') X.xe s
section
variable {X:Cx} {pos:Pos}
def gH(i:Nat):TG:=λv σ H Q=>Q (σ.set i (some v)) H
theorem aY{i:Nat}{x:Str}(hN:X.N.Nodup)(hi:X.N[i]?=some x)(hx:fD X.env.scope x)(hf:X.fn x=true\/X.env.scope.names.lookup x=some .local:=by first | exact .inl rfl | exact .inr rfl | assumption):PG X (.Name x pos) (gH i):=by
 intro RB s σ H v u Q I r h;exact wpAny_assign_Name (lJ I hN hi hx r (λs' I'=>⟨_,H,I',h⟩) hf)
def lL:gf:=λvs σ H Q=>vs=[]/\Q σ H
def j9(t:TG)(u:gf):gf:=λvs σ H Q=>∃v r,vs=v::r/\t v σ H λσ' H'=>u r σ' H' Q
theorem kc:lK X [] lL:=by
 intro RB s σ H vs us Q I r h;obtain⟨e,h⟩:=h;subst e;cases r;exact assignInOrder_nil ⟨σ,H,I,h⟩
theorem fg{e:Qn}{es:List Qn}{t:TG}{u:gf}(h1:PG X e t)(h2:lK X es u)
 (hs:(Q8 (e::es) X.env).map (·.2)=assign e X.env::(Q8 es X.env).map (·.2):=by rfl):lK X (e::es) (j9 t u):=by
 intro RB s σ H vs us Q I r h;obtain⟨v,vr,e1,h⟩:=h;subst e1;cases r with
 | cons r rr=>
  rw [hs];refine Rq (aA (h1 RB s σ H _ _ _ I r h) λ_ s1 ⟨σ1,H1,I1,q1⟩=>?_);exact h2 RB s1 σ1 H1 _ _ Q I1 rr q1
def lM(K:J0)(n:Nat)(t:gf):TG:=λv σ H Q=>∃a xs,v= .ref a/\bg K H a xs/\xs.length=n/\t xs σ H Q
theorem ke{es:List Qn}{k:Nat}{t:gf}{n:Nat}(hc:X.calm=true)(h:lK X es t)
 (hn:(Q8 es X.env).length=n:=by rfl)(hst:(Q8 es X.env).findIdx? (·.1)=none:=by rfl):PG X (.Tuple es k pos) (lM X.K n t):=by
 intro RB s σ H v u Q I r hw;obtain⟨a,xs,e1,hq,hl,hw⟩:=hw;subst e1;cases r;obtain⟨its,rv,ht,hz⟩:=I.tuple hq;refine assign_Tuple_tuple (I.ok.hd hc) ht (by simp [hn,<-hl,rv.length]) hst λh' hx=>?_;have I1:af X RB σ H {s with heap:=h'}:=I.kept (t':=s.toks) λb o e=>hx b o (KH (Km e)) e;exact h RB _ σ H xs _ Q I1 (by simpa using rv) hw
def sO(to ti:TE)(t:ot):TG:=λv σ H Q=>to σ H λo H1=>ti σ H1 λi H2=>t o i v H2 λH3=>Q σ H3
theorem oz{o i:Qn}{to ti:TE}{t:ot}(ho:PE X o to)(hi:PE X i ti)(hs:sN X t)
 (ha:∀v,assign (.Subscript o i pos) X.env v=(do
   let ov<-holding [v] (eval o X.env)
   let iv<-holding [v,ov] (eval i X.env)
   standAt pos
   holding [v,ov,iv] (setItem ov iv v)
   release [v,ov,iv] []):=by intro _;rfl):PG X (.Subscript o i pos) (sO to ti t):=by
 intro RB s σ H v u Q I r h;rw [ha];refine Qm (QH (aA (ho RB s σ H _ I h) λov s1 ⟨x,H1,I1,r1,q1⟩=>?_));refine Qm (QH (aA (hi RB s1 σ H1 _ I1 q1) λiv s2 ⟨y,H2,I2,r2,q2⟩=>?_));refine Qm (Rr (Qm (QH (aA (hs RB s2 σ H2 x y v ov iv u _ I2 r1 r2 r q2) λ_ s3 ⟨H3,I3,q3⟩=>?_))));exact wpAny_release ⟨σ,H3,I3,q3⟩
def kh(te:TE)(g:TG):TS:=λD σ H=>te σ H λx H1=>g x σ H1 D.nx
theorem lN{tg e:Qn}{te:TE}{g:TG}(he:PE X e te)(hg:PG X tg g)(hs:Rh [tg] e pos.line X.env=pure false:=by rfl)(hw:Ri [tg] e X.env=pure none:=by rfl)
 (h1:(Q8 [tg] X.env).map (·.2)=[assign tg X.env]:=by rfl):PS X (.Assign [tg] e pos) (kh te g):=by
 intro RB s σ H D I h;refine wpAny_Assign_stores (aA (he RB s σ H _ I h) λv s1 ⟨x,H1,I1,r1,q1⟩=>?_) hs hw;rw [h1];exact aA (hg RB s1 σ H1 x v _ I1 r1 q1) λ_ s2 q=>q
theorem iK{i:Nat}{x:Str}{e:Qn}{te:TE}{pos':Pos}(hN:X.N.Nodup)(hi:X.N[i]?=some x)(hx:fD X.env.scope x)(he:PE X e te)(hs:QK e (some (.Name x pos')) pos.line X.env=pure false:=by rfl)(hf:X.fn x=true\/X.env.scope.names.lookup x=some .local:=by first | exact .inl rfl | exact .inr rfl | assumption):
 PS X (.Assign [.Name x pos'] e pos) (kh te (gH i)):=by
 intro RB s σ H D I h;refine wpAny_Assign_Name (aA (he RB s σ H _ I h) λv s1 ⟨y,H1,I1,r1,q1⟩=>?_) hs;exact lJ I1 hN hi hx r1 (λs2 I2=>⟨_,H1,I2,q1⟩) hf
def sP(i j:Nat)(ta:TA):TS:=λD σ H=>ta σ H λvs H1=>∃v w,vs=[v,w]/\D.nx ((σ.set i (some v)).set j (some w)) H1
theorem sQ{i j:Nat}{x y:Str}{a b:Qn}{ta:TA}{px py pt:Pos}{kt k2 pt2}(hc:X.calm=true)(hN:X.N.Nodup)(hi:X.N[i]?=some x)(hj:X.N[j]?=some y)(hij:i≠j)
 (hx:X.env.scope.names.lookup x=some .local)(hy:X.env.scope.names.lookup y=some .local)(ha:PA X [a,b] ta)
 (hw:Ri [.Tuple [.Name x px,.Name y py] kt pt] (.Tuple [a,b] k2 pt2) X.env=pure (some [x,y]))
 (hs:Rh [.Tuple [.Name x px,.Name y py] kt pt] (.Tuple [a,b] k2 pt2) pos.line X.env=pure false:=by rfl):
 PS X (.Assign [.Tuple [.Name x px,.Name y py] kt pt] (.Tuple [a,b] k2 pt2) pos) (sP i j ta):=by
 intro RB s σ H D I h;rw [exec_Assign_arm];refine Qm (Rr ?_);rw [hs];refine Qm (Qq ?_);rw [Qe Qb];refine Qm (Tuple_ (aA (ha _ RB s σ H _ I h) λus s1 ⟨vs,H1,I1,r1,q1⟩=>?_));obtain⟨v,w,e1,q1⟩:=q1;subst e1;obtain⟨u1,u2,rfl,rv,rw'⟩:∃u1 u2,us=[u1,u2]/\aC v u1/\aC w u2:=by
  cases r1 with
  | cons p q=>
   cases q with
   | cons p' q'=>
    cases q';exact⟨_,_,rfl,p,p'⟩
 refine QL ?_ (by show 2<=Qp;decide);have I2:af X RB σ H1 {s1 with heap:=s1.heap.push {cls:= .type "tuple",data:= .seq [u1,u2].toArray}}:=I1.kept (t':=s1.toks) λb o e=>J9 _ e;rw [hw];refine Qm (Qq ?_);show Qr (Qs X.prog X.w) X.A (do rule "assign.swapped-stores";let items<-unpackItems (.ref s1.heap.objs.size) 2 none;assignInOrder [λv=>bindName X.env y v,λv=>bindName X.env x v] items.reverse;pure P7) _ _ _;refine Qm (wpAny_rule (Qm (unpackItems_tuple (items:=#[u1,u2]) (I.ok.hd hc) (Ob s1.heap _) λh' hx'=>?_)));have I3:=I2.kept (h':=h') (t':=s1.toks) λb o e=>hx' b o (KH (Km e)) e;show Qr _ _ (assignInOrder [λv=>bindName X.env y v,λv=>bindName X.env x v] [u2,u1] >>=λ_=>pure P7) _ _ _;refine Qm (Rq (wpAny_bindName (lJ I3 hN hj (.inl hy) rw' (λs2 I4=>?_) (.inr hy))));refine Rq (wpAny_bindName (lJ I4 hN hi (.inl hx) rv (λs3 I5=>assignInOrder_nil (Qq ?_)) (.inr hx)));rw [List.set_comm _ _ (Ne.symm hij)] at I5;exact⟨_,H1,I5,q1⟩
def BV(c:TT)(tb:TS):TS:=λD σ H=>∃W:Nat->St->Hp->Prop,(∃m,W m σ H)/\∀m σ H,W m σ H->
 c σ H λb H1=>if b=true then ∃N:St->Hp->Prop,(∀σ' H',N σ' H'->∃m',m' < m/\W m' σ' H')/\tb {D with nx:=N,ct:=N,bk:=D.nx} σ H1 else D.nx σ H1
theorem BW{c:Qn}{body:List Qx}{tc:TT}{tb:TS}(hp:QZ (Qs X.prog X.w) X.A X.env X.xe)(hc:PT X c tc)(hb:bz X body tb):PS X (.While c body [] pos) (BV tc tb):=by
 intro RB s σ H D I h;obtain⟨W,⟨m0,w0⟩,turn⟩:=h;refine wpAny_While (codeAny_whileLoop (λn s'=>∃σ' H',af X RB σ' H' s'/\W n σ' H') ?_ m0 ⟨σ,H,I,w0⟩);rintro n s1 ⟨σ1,H1,I1,w1⟩;refine QU hp (aA (hc RB s1 σ1 H1 _ I1 (turn n σ1 H1 w1)) λb s2 ⟨H2,I2,q2⟩=>?_);cases b with
 | true=>
  obtain⟨N,hN,q2⟩:=q2;rw [Qf rfl];refine QU hp (aA (hb RB s2 σ1 H2 _ I2 q2) λf s3 q3=>?_);cases f with
  | next=>
   obtain⟨σ3,H3,I3,n3⟩:=q3;obtain⟨m',hm,w3⟩:=hN σ3 H3 n3;exact⟨m',hm,σ3,H3,I3,w3⟩
  | cont=>
   obtain⟨σ3,H3,I3,n3⟩:=q3;obtain⟨m',hm,w3⟩:=hN σ3 H3 n3;exact⟨m',hm,σ3,H3,I3,w3⟩
  | brk=>exact q3
  | ret v=>exact q3
 | false=>
  rw [Qe K5];exact Rn ⟨σ1,H2,I2,q2⟩
end
structure It where
 go:Nat->Hp->Prop
 yld:Nat->Hp->V->Hp->Prop
 stop:Nat->Hp->Prop
def fE(X:Cx)(RB:List (Qk×Obj))(H:Hp)(b:Qk):Prop:=
 H b=none/\b≠X.env.locals/\b ∉ X.fs/\(b∈X.ex\/X.s₀.heap.objs.size<=b)/\(∀x c,X.env.cells.lookup x=some c->c≠b)/\∀p∈X.pn++RB,p.1≠b
theorem af.fpOk{X:Cx}{RB:List (Qk×Obj)}{σ:St}{H H':Hp}{s:Ql}{b:Qk}(I:af X RB σ H s)(hb:s.heap.objs.size<=b)(hn:H' b=none):fE X RB H' b:=by
 refine⟨hn,NY (K3 I.lt hb),I.nofs hb,.inr (KI I.sz hb),λx c e z=>?_,λp hp z=>?_⟩
 ·obtain⟨v,q⟩:=I.cell x c e;exact absurd (K3 q.lt (by rw [z];exact hb)) (Mg _)
 ·exact absurd (K3 (Km (I.pin p hp).1) (by rw [z];exact hb)) (Mg _)
structure jl (P:Qu) (w:Qw) (K:J0) (tg:Qn) (J:It) (fp:List Qk) (it:Qk) (tn:Nat->Qy->Prop):Prop where
 mem:it∈fp
 obj:∀i h,tn i h->∀b∈fp,∃o,h.get? b=some o/\∀v,o.data≠ .cell v
 keep:∀i h h',tn i h->(∀b∈fp,∀o,h.get? b=some o->h'.get? b=some o)->tn i h'
 item:∀(X:Cx),X.prog=P->X.w=w->X.K=K->X.calm=true->∀(i:Nat)(RB:List (Qk×Obj))(s:Ql)(σ:St)(H:Hp)(E:Qj->Ql->Prop),af X RB σ H s->(∀b∈fp,fE X RB H b)->tn i s.heap->J.go i H->
  Qr (Qs P w) X.A (pyNext (.ref it)) (λr s1=>∃u,r=some u/\
   Qr (Qs P w) X.A (Ro tg (.ref it) u) (λ_ s2=>∃x H',af X RB σ H' s2/\aC x u/\J.yld i H x H'/\tn (i+1) s2.heap/\∀b∈fp,H' b=none) E s1) E s
 done:∀(X:Cx),X.prog=P->X.w=w->X.K=K->X.calm=true->∀(i:Nat)(RB:List (Qk×Obj))(s:Ql)(σ:St)(H:Hp)(E:Qj->Ql->Prop),af X RB σ H s->(∀b∈fp,fE X RB H b)->tn i s.heap->J.stop i H->
  Qr (Qs P w) X.A (pyNext (.ref it)) (λr s1=>r=none/\af X RB σ H s1) E s
 self:∀(A:QC)(i:Nat)(s:Ql)(Q:Qj->Ql->Prop)(E:Qj->Ql->Prop),tn i s.heap->Q (.ref it) s->Qr (Qs P w) A (pyIter (.ref it)) Q E s
abbrev TI:=St->Hp->(It->Hp->Prop)->Prop
def sR(X:Cx)(RB:List (Qk×Obj))(σ:St)(tg:Qn)(R:It->Hp->Prop)(itv:Qj)(s2:Ql):Prop:=
 ∃(it:Qk)(fp:List Qk)(tn:Nat->Qy->Prop)(J:It)(H':Hp),itv= .ref it/\af X RB σ H' s2/\jl X.prog X.w X.K tg J fp it tn/\tn 0 s2.heap/\(∀b∈fp,fE X RB H' b)/\R J H'
def PI(X:Cx)(tg iter:Qn)(wi:TI):Prop:=
 ∀(RB:List (Qk×Obj))(s:Ql)(σ:St)(H:Hp)(R:It->Hp->Prop),af X RB σ H s->wi σ H R->
  Qr (Qs X.prog X.w) X.A (eval iter X.env) (λv s1=>Qr (Qs X.prog X.w) X.A (pyIter v) (sR X RB σ tg R) X.xe s1) X.xe s
theorem ki{M:Model}{A:QC}{E:Qj->Ql->Prop}{s:Ql}{tg:Qn}{it:Qk}{u:Qj}{o:Obj}{n:String}{vs:Array Qj}{Q:Unit->Ql->Prop}(ho:s.heap.get? it=some o)(hc:o.cls= .type n)(hd:o.data= .fields vs)
 (hn:["enumerate","zip","dict_itemiterator","dict_reverseitemiterator","odict_iterator","itertools.zip_longest","itertools.pairwise"].contains n=false)(hQ:Q () s):Qr M A (Ro tg (.ref it) u) Q E s:=by
 unfold Ro;cases tg <;> first
  | exact Qq hQ
  | (cases u <;> first
      | exact Qq hQ
      | (refine Qm (wpAny_load ho ?_)
         rw [hc,hd];show Qr M A (if (["enumerate","zip","dict_itemiterator","dict_reverseitemiterator","odict_iterator","itertools.zip_longest","itertools.pairwise"].contains n && vs[0]?==some (rawInt _))=true then _ else _) Q E s;rw [Qe (by intro h;rw [hn,MT] at h;cases h)];exact Qq hQ))
def kj(K:J0)(a:Qk):It:=
 ⟨λi H=>∃xs x,aX K H a xs/\xs[i]?=some x,λi H x H'=>H'=H/\∀xs,aX K H a xs->xs[i]?=some x,λi H=>∃xs,aX K H a xs/\xs.length<=i⟩
def kl(K:J0)(a:Qk):It:=
 ⟨λi H=>∃xs x,bg K H a xs/\xs[i]?=some x,λi H x H'=>H'=H/\∀xs,bg K H a xs->xs[i]?=some x,λi H=>∃xs,bg K H a xs/\xs.length<=i⟩
def gI(lo:Int)(n:Nat):It:=⟨λi _=>i < n,λi H x H'=>H'=H/\x= .int (lo+i),λi _=>n<=i⟩
theorem BX{P:Qu}{w:Qw}{K:J0}{tg:Qn}(a it:Qk):jl P w K tg (kj K a) [it] it (λi h=>h.IsListIter it a i) where
 mem:=Qh
 obj:=λi h st b hb=>by
  have e:b=it:=by simpa using hb
  subst e;obtain⟨o,e,c,d⟩:=st;exact⟨o,e,λv z=>by rw [d] at z;cases z⟩
 keep:=λi h h' st k=>st.at λo e=>k it Qh o e
 item:=by
  intro X hP hw hK hc i RB s σ H E I hf st hg;subst hP hw hK;obtain⟨xs,x,hq,hx⟩:=hg;obtain⟨its,rv,p,hz⟩:=I.list hq;obtain⟨u,hu,ru⟩:=rv.get hx;obtain⟨f0,f1,f2,f3,f4,f5⟩:=hf it Qh;refine wpAny_pyNext_list_item st p.isList (x:=u) (by simpa using hu) λh' st' sb=>?_;have I1:af X RB σ H {s with heap:=h'}:=I.turned (t':=s.toks) (λb o hb e=>(sb.2 b hb).trans e) f0 f1 f3 f4 f5;obtain⟨o,e,c,d⟩:=id st';exact⟨u,rfl,ki (s:={s with heap:=h'}) e c d Qb ⟨x,H,I1,ru,⟨rfl,λys hy=>by rw [I.list_inj hy hq];exact hx⟩,st',λb hb=>(hf b hb).1⟩⟩
 done:=by
  intro X hP hw hK hc i RB s σ H E I hf st hg;subst hP hw hK;obtain⟨xs,hq,hx⟩:=hg;obtain⟨its,rv,p,hz⟩:=I.list hq;obtain⟨f0,f1,f2,f3,f4,f5⟩:=hf it Qh;have hl:=rv.length;exact wpAny_pyNext_list_end (I.ok.hd hc) st p.isList (by simp;omega) λh' eb=>⟨rfl,I.turned (t':=s.toks) (λb o hb e=>eb b o hb e) f0 f1 f3 f4 f5⟩
 self:=λ_ _ _ _ _ st h=>wpAny_pyIter_listiter st h
theorem BY{P:Qu}{w:Qw}{K:J0}{tg:Qn}(a it:Qk):jl P w K tg (kl K a) [it] it (λi h=>h.IsTupleIter it a i) where
 mem:=Qh
 obj:=λi h st b hb=>by
  have e:b=it:=by simpa using hb
  subst e;obtain⟨o,e,c,d⟩:=st;exact⟨o,e,λv z=>by rw [d] at z;cases z⟩
 keep:=λi h h' st k=>st.at λo e=>k it Qh o e
 item:=by
  intro X hP hw hK hc i RB s σ H E I hf st hg;subst hP hw hK;obtain⟨xs,x,hq,hx⟩:=hg;obtain⟨its,rv,p,hz⟩:=I.tuple hq;obtain⟨u,hu,ru⟩:=rv.get hx;obtain⟨f0,f1,f2,f3,f4,f5⟩:=hf it Qh;refine wpAny_pyNext_tuple_item st (show s.heap.IsTuple a its.toArray from p) (x:=u) (by simpa using hu) λh' st' sb=>?_;have I1:af X RB σ H {s with heap:=h'}:=I.turned (t':=s.toks) (λb o hb e=>(sb.2 b hb).trans e) f0 f1 f3 f4 f5;obtain⟨o,e,c,d⟩:=id st';exact⟨u,rfl,ki (s:={s with heap:=h'}) e c d Qb ⟨x,H,I1,ru,⟨rfl,λys hy=>by rw [I.tuple_inj hy hq];exact hx⟩,st',λb hb=>(hf b hb).1⟩⟩
 done:=by
  intro X hP hw hK hc i RB s σ H E I hf st hg;subst hP hw hK;obtain⟨xs,hq,hx⟩:=hg;obtain⟨its,rv,p,hz⟩:=I.tuple hq;obtain⟨f0,f1,f2,f3,f4,f5⟩:=hf it Qh;have hl:=rv.length;exact wpAny_pyNext_tuple_end (I.ok.hd hc) st (show s.heap.IsTuple a its.toArray from p) (by simp;omega) λh' eb=>⟨rfl,I.turned (t':=s.toks) (λb o hb e=>eb b o hb e) f0 f1 f3 f4 f5⟩
 self:=λ_ _ _ _ _ st h=>wpAny_pyIter_tupleiter st h
theorem BZ{P:Qu}{w:Qw}{K:J0}{tg:Qn}(it:Qk)(lo:Int)(n:Nat):jl P w K tg (gI lo n) [it] it (λi h=>IsRangeIter h it (lo+(i:Nat)*1) ((n:Int) - (i:Nat)) 1) where
 mem:=Qh
 obj:=λi h st b hb=>by
  have e:b=it:=by simpa using hb
  subst e;exact⟨_,st,λv z=>by
   have z':Data.fields _=Data.cell v:=z;cases z'⟩
 keep:=λi h h' st k=>k it Qh _ st
 item:=by
  intro X hP hw hK hc i RB s σ H E I hf st hg;subst hP hw hK;obtain⟨f0,f1,f2,f3,f4,f5⟩:=hf it Qh;have W:=Walks.range (prog:=X.prog) (w:=X.w) (I.ok.hd hc) it lo 1 n;refine W.item i s _ _ hg st λv h' tk hv st' kk=>?_;obtain⟨t,rfl⟩:=hv;have I1:af X RB σ H {s with heap:=h',toks:=tk}:=I.turned (λb o hb e=>kk b o (by simpa using hb) e) f0 f1 f3 f4 f5;refine⟨_,rfl,ki (s:={s with heap:=h',toks:=tk}) (n:="range_iterator") st' rfl rfl Qb ⟨.int (lo+i),H,I1,⟨t,?_⟩,⟨rfl,rfl⟩,st',λb hb=>(hf b hb).1⟩⟩;rw [Int.mul_one]
 done:=by
  intro X hP hw hK hc i RB s σ H E I hf st hg;subst hP hw hK;obtain⟨f0,f1,f2,f3,f4,f5⟩:=hf it Qh;exact wpAny_pyNext_range_end (I.ok.hd hc) st (by have:n<=i:=hg;omega) λh' eb=>⟨rfl,I.turned (t':=s.toks) (λb o hb e=>eb b o hb e) f0 f1 f3 f4 f5⟩
 self:=λ_ _ _ _ _ st h=>wpAny_pyIter_rangeiter st h
section
variable {X:Cx} {tg:Qn}
def oA(K:J0)(tl:TE):TI:=λσ H R=>tl σ H λx H1=>∃a,x= .ref a/\(∃xs,aX K H1 a xs)/\R (kj K a) H1
def oB(K:J0)(tl:TE):TI:=λσ H R=>tl σ H λx H1=>∃a,x= .ref a/\(∃xs,bg K H1 a xs)/\R (kl K a) H1
theorem lO{l:Qn}{tl:TE}(hl:PE X l tl):PI X tg l (oA X.K tl):=by
 intro RB s σ H R I h;refine aA (hl RB s σ H _ I h) λv s1 ⟨x,H1,I1,r1,q1⟩=>?_;obtain⟨a,e,⟨xs,hq⟩,q⟩:=q1;subst e;cases r1;obtain⟨its,rv,p,hz⟩:=I1.list hq;refine Ru p.isList ?_;refine⟨s1.heap.objs.size,[s1.heap.objs.size],_,_,H1,rfl,I1.kept (t':=s1.toks) λb o e=>J9 _ e,BX a _,⟨_,KN _ rfl,rfl,rfl⟩,λb hb=>?_,q⟩;have e:b=s1.heap.objs.size:=by simpa using hb
 subst e;exact I1.fpOk (J8 _) (I1.hok.fresh (J8 _))
theorem lP{l:Qn}{tl:TE}(hl:PE X l tl):PI X tg l (oB X.K tl):=by
 intro RB s σ H R I h;refine aA (hl RB s σ H _ I h) λv s1 ⟨x,H1,I1,r1,q1⟩=>?_;obtain⟨a,e,⟨xs,hq⟩,q⟩:=q1;subst e;cases r1;obtain⟨its,rv,p,hz⟩:=I1.tuple hq;refine wpAny_pyIter_tuple (show s1.heap.IsTuple a its.toArray from p) ?_;refine⟨s1.heap.objs.size,[s1.heap.objs.size],_,_,H1,rfl,I1.kept (t':=s1.toks) λb o e=>J9 _ e,BY a _,⟨_,KN _ rfl,rfl,rfl⟩,λb hb=>?_,q⟩;have e:b=s1.heap.objs.size:=by simpa using hb
 subst e;exact I1.fpOk (J8 _) (I1.hok.fresh (J8 _))
theorem sS{RB:List (Qk×Obj)}{σ:St}{H:Hp}{s:Ql}{R:It->Hp->Prop}{E:Qj->Ql->Prop}{lo hi:Int}{t u v:Tok}{tk:Nat}(I:af X RB σ H s)(h1:-(2 ^ 62)<=lo)(h2:lo < 2 ^ 62)(h3:-(2 ^ 62)<=hi)(h4:hi < 2 ^ 62)
 (q:R (gI lo (hi - lo).toNat) H):Qr (Qs X.prog X.w) X.A (pyIter (.ref s.heap.objs.size)) (sR X RB σ tg R) E {s with heap:=s.heap.push {cls:= .type "range",data:= .fields #[.int lo t,.int hi u,.int 1 v]},toks:=tk}:=by
 refine wpAny_pyIter_range (IsRange.new ..) (small_one h1 h2 h3 h4) ?_;have I1:af X RB σ H {s with heap:=s.heap.push {cls:= .type "range",data:= .fields #[.int lo t,.int hi u,.int 1 v]},toks:=tk}:=I.kept λb o e=>J9 _ e;refine⟨(s.heap.push {cls:= .type "range",data:= .fields #[.int lo t,.int hi u,.int 1 v]}).objs.size,[(s.heap.push {cls:= .type "range",data:= .fields #[.int lo t,.int hi u,.int 1 v]}).objs.size],_,_,H,rfl,
  I1.kept (t':=tk) λb o e=>J9 _ e,BZ _ lo (hi - lo).toNat,?_,λb hb=>?_,q⟩
 ·have e1:lo+((0:Nat):Int)*1=lo:=Qh
  have e2:(((hi - lo).toNat:Nat):Int) - ((0:Nat):Int)=Builtin.Range.rangeSize lo hi 1:=by rw [rangeSize_one];split <;> omega
  show IsRangeIter _ _ (lo+((0:Nat):Int)*1) ((((hi - lo).toNat:Nat):Int) - ((0:Nat):Int)) 1;rw [e1,e2];exact KN _ rfl
 ·have e:b=(s.heap.push {cls:= .type "range",data:= .fields #[.int lo t,.int hi u,.int 1 v]}).objs.size:=by simpa using hb
  subst e;exact I1.fpOk (J8 _) (I1.hok.fresh (J8 _))
def oC(ta:TA):TI:=λσ H R=>ta σ H λvs H1=>∃j:Int,vs=[.int j]/\-(2 ^ 62)<=j/\j < 2 ^ 62/\R (gI 0 j.toNat) H1
def oE(ta:TA):TI:=λσ H R=>ta σ H λvs H1=>∃i j:Int,vs=[.int i,.int j]/\(-(2 ^ 62)<=i/\i < 2 ^ 62/\-(2 ^ 62)<=j/\j < 2 ^ 62)/\R (gI i (j - i).toNat) H1
theorem sT{a:Qn}{ta:TA}{p pos:Pos}(hg:Gl X "range")(hm:X.mg "range"=none)(ha:PA X [a] ta)(hs:Qo [a] X.env=[(false,eval a X.env)]:=by rfl):PI X tg (.Call (.Name "range" p) [a] [] pos) (oC ta):=by
 intro RB s σ H R I h;refine Call_ (jj I hg hm boot_range (ME (aA (ha pos RB s σ H _ I h) λus s1 ⟨vs,H1,I1,r1,q1⟩=>?_) hs rfl));obtain⟨j,e,q1,q2,q⟩:=q1;subst e;cases r1 with
 | cons r rr=>
  cases rr;obtain⟨t,rfl⟩:=r;exact call_range_1 (sS I1 Qc Qc q1 q2 (by simpa using q))
theorem sU{a b:Qn}{ta:TA}{p pos:Pos}(hg:Gl X "range")(hm:X.mg "range"=none)(ha:PA X [a,b] ta)(hs:Qo [a,b] X.env=[(false,eval a X.env),(false,eval b X.env)]:=by rfl)(hs2:Qo [b] X.env=[(false,eval b X.env)]:=by rfl):
 PI X tg (.Call (.Name "range" p) [a,b] [] pos) (oE ta):=by
 intro RB s σ H R I h;refine Call_ (jj I hg hm boot_range (ME (aA (ha pos RB s σ H _ I h) λus s1 ⟨vs,H1,I1,r1,q1⟩=>?_) (by rw [hs,hs2]) (by rw [hs2];rfl)));obtain⟨i,j,e,⟨q1,q2,q3,q4⟩,q⟩:=q1;subst e;cases r1 with
 | cons r rr=>
  cases rr with
  | cons r' rr=>
   cases rr;obtain⟨t,rfl⟩:=r;obtain⟨t',rfl⟩:=r';exact call_range_2 (sS I1 q1 q2 q3 q4 q)
def km(wi:TI)(g:TG)(tb:TS):TS:=λD σ H=>wi σ H λJ H1=>∃W:Nat->Nat->St->Hp->Prop,(∃m,W 0 m σ H1)/\∀i m σ H,W i m σ H->
 (J.stop i H/\D.nx σ H)\/(J.go i H/\∃N:St->Hp->Prop,(∀σ' H',N σ' H'->∃m',m' < m/\W (i+1) m' σ' H')/\∀x H',J.yld i H x H'->g x σ H' λσ2 H2=>tb {D with nx:=N,ct:=N,bk:=D.nx} σ2 H2)
def kq(fp:List Qk)(h:Qy):List (Qk×Obj):=fp.filterMap λb=>(h.get? b).map λo=>(b,o)
theorem lQ{fp:List Qk}{h:Qy}{b:Qk}{o:Obj}(hb:b∈fp)(e:h.get? b=some o):(b,o)∈kq fp h:=Mw.mpr ⟨b,hb,by rw [e];rfl⟩
theorem B0{fp:List Qk}{h:Qy}{p:Qk×Obj}(hp:p∈kq fp h):p.1∈fp/\h.get? p.1=some p.2:=by
 obtain⟨b,hb,e⟩:=Mw.mp hp;cases q:h.get? b with
 | none=>rw [q] at e;cases e
 | some o=>
  rw [q] at e;have e':(b,o)=p:=K4 e;subst e';exact⟨hb,q⟩
theorem af.pinned{RB:List (Qk×Obj)}{σ:St}{H:Hp}{s:Ql}{fp:List Qk}(I:af X RB σ H s)(hf:∀b∈fp,fE X RB H b)(ho:∀b∈fp,∃o,s.heap.get? b=some o/\∀v,o.data≠ .cell v):af X (RB++kq fp s.heap) σ H s:=
 I.pins_of λp hp=>(Kn.mp hp).elim (λz=>I.pin p (K6 _ z)) λz=>by
  obtain⟨hb,e⟩:=B0 z;obtain⟨f0,f1,f2,_⟩:=hf p.1 hb;obtain⟨o,e',d⟩:=ho p.1 hb;rw [e] at e';cases e';exact⟨e,f0,f1,f2,d⟩
theorem af.unpinned{RB pl:List (Qk×Obj)}{σ:St}{H:Hp}{s:Ql}(I:af X (RB++pl) σ H s):af X RB σ H s:=I.pins_of λp hp=>I.pin p (K6 _ (Ni _ hp))
theorem iL{iter:Qn}{body:List Qx}{wi:TI}{g:TG}{tb:TS}{pos:Pos}(hp:QZ (Qs X.prog X.w) X.A X.env X.xe)(hc:X.calm=true)(hi:PI X tg iter wi)(hg:PG X tg g)(hb:bz X body tb)
 (hs:∀x,QA iter X.env x=pure x:=by intro _;rfl):PS X (.For tg iter body [] pos) (km wi g tb):=by
 intro RB s σ H D I h;refine wpAny_For (aA (hi RB s σ H _ I h) λv s1 h1=>aA h1 λitv s2 h2=>?_) hs;obtain⟨it,fp,tn,J,H2,e,I2,T,st2,f2,W,⟨m0,w0⟩,turn⟩:=h2;subst e;have stat:∀{H':Hp},(∀b∈fp,H' b=none)->∀b∈fp,fE X RB H' b:=λhn b hb=>⟨hn b hb,(f2 b hb).2⟩;refine codeAny_forLoop_any (λn s'=>∃i σ' H',af X RB σ' H' s'/\tn i s'.heap/\(∀b∈fp,H' b=none)/\W i n σ' H') ?_ m0 ⟨0,σ,H2,I2,st2,λb hb=>(f2 b hb).1,w0⟩;rintro n s3 ⟨i,σ3,H3,I3,st3,fr3,w3⟩;rcases turn i n σ3 H3 w3 with⟨stop,qn⟩ | ⟨go,N,hN,step⟩
 ·refine QU hp (aA (T.done X rfl rfl rfl hc i RB s3 σ3 H3 X.xe I3 (stat fr3) st3 stop) λr s4 ⟨hr,I4⟩=>?_);subst hr;exact Rn ⟨σ3,H3,I4,qn⟩
 ·refine QU hp (aA (T.item X rfl rfl rfl hc i RB s3 σ3 H3 X.xe I3 (stat fr3) st3 go) λr s4 ⟨u,hr,h4⟩=>?_);subst hr;refine QU hp (aA h4 λ_ s5 ⟨x,H5,I5,r5,y5,st5,fr5⟩=>?_);have I5':=I5.pinned (stat fr5) (T.obj _ _ st5);refine QU hp (aA (hg _ s5 σ3 H5 x u _ I5' r5 (step x H5 y5)) λ_ s6 ⟨σ6,H6,I6,q6⟩=>?_);refine QU hp (aA (hb _ s6 σ6 H6 _ I6 q6) λf s7 q7=>?_);have again:∀{σ7:St}{H7:Hp},af X (RB++kq fp s5.heap) σ7 H7 s7->N σ7 H7->∃m,m < n/\∃i σ' H',af X RB σ' H' s7/\tn i s7.heap/\(∀b∈fp,H' b=none)/\W i m σ' H':=λ{σ7 H7} I7 n7=>by
   obtain⟨m',hm,w7⟩:=hN σ7 H7 n7;refine⟨m',hm,i+1,σ7,H7,I7.unpinned,T.keep _ _ _ st5 λb hb o e=>(I7.pin (b,o) (K6 _ (K6 _ (lQ hb e)))).1,λb hb=>?_,w7⟩;obtain⟨o,e,d⟩:=T.obj _ _ st5 b hb;exact(I7.pin (b,o) (K6 _ (K6 _ (lQ hb e)))).2.1
  cases f with
  | next=>obtain⟨σ7,H7,I7,n7⟩:=q7;exact again I7 n7
  | cont=>obtain⟨σ7,H7,I7,n7⟩:=q7;exact again I7 n7
  | brk=>obtain⟨σ7,H7,I7,q7⟩:=q7;exact⟨σ7,H7,I7.unpinned,q7⟩
  | ret v=>obtain⟨x7,σ7,H7,I7,r7,q7⟩:=q7;exact⟨x7,σ7,H7,I7.unpinned,r7,q7⟩
end
abbrev R2:=V->V->Hp->VK->Prop
def bh(X:Cx)(f:Qj->Qj->Sem Qj)(r:R2):Prop:=
 ∀(RB:List (Qk×Obj))(s:Ql)(σ:St)(H:Hp)(x y:V)(v u:Qj)(Q:VK),af X RB σ H s->aC x v->aC y u->r x y H Q->
  Qr (Qs X.prog X.w) X.A (f v u) (EP X RB σ Q) X.xe s
def oF(X:Cx)(f:Qj->Sem Qj)(r:V->Hp->VK->Prop):Prop:=
 ∀(RB:List (Qk×Obj))(s:Ql)(σ:St)(H:Hp)(x:V)(v:Qj)(Q:VK),af X RB σ H s->aC x v->r x H Q->
  Qr (Qs X.prog X.w) X.A (f v) (EP X RB σ Q) X.xe s
def cT(X:Cx)(f:Qj)(r:List V->Hp->VK->Prop):Prop:=
 ∀(RB:List (Qk×Obj))(s:Ql)(σ:St)(H:Hp)(xs:List V)(us:List Qj)(Q:VK),af X RB σ H s->aD xs us->r xs H Q->
  Qr (Qs X.prog X.w) X.A (call f us) (EP X RB σ Q) X.xe s
def jm(r:R2)(ta tb:TE):TE:=λσ H Q=>ta σ H λx H1=>tb σ H1 λy H2=>r x y H2 Q
def sV(r:V->Hp->VK->Prop)(ta:TE):TE:=λσ H Q=>ta σ H λx H1=>r x H1 Q
def rI(C:Int->Int->Prop)(g:Int->Int->V):R2:=λx y H Q=>∃i j,x= .int i/\y= .int j/\C i j/\Q (g i j) H
def fF(g:Int->Int->V):R2:=λx y H Q=>∃i j,x= .int i/\y= .int j/\Q (g i j) H
def rU(g:Int->V):V->Hp->VK->Prop:=λx H Q=>∃i,x= .int i/\Q (g i) H
section
variable {X:Cx} {a b c:Qn} {ta tb tc:TE} {pos:Pos}
theorem oG(ha:PE X a ta)(hb:PE X b tb){RB:List (Qk×Obj)}{s:Ql}{σ:St}{H:Hp}{R:V->V->Hp->Prop}(I:af X RB σ H s)
 (h:ta σ H λx H1=>tb σ H1 λy H2=>R x y H2){Q:Qj->Ql->Prop}{f:Qj->Qj->Sem Qj}
 (hf:∀v u s2 x y H2,af X RB σ H2 s2->aC x v->aC y u->R x y H2->Qr (Qs X.prog X.w) X.A (f v u) Q X.xe s2):
 Qr (Qs X.prog X.w) X.A (eval a X.env) (λv s₁=>Qr (Qs X.prog X.w) X.A (eval b X.env) (λu s₂=>Qr (Qs X.prog X.w) X.A (f v u) Q X.xe s₂) X.xe s₁) X.xe s:=by
 refine aA (ha RB s σ H _ I h) λv s1 ⟨x,H1,I1,r1,q1⟩=>?_;refine aA (hb RB s1 σ H1 _ I1 q1) λu s2 ⟨y,H2,I2,r2,q2⟩=>?_;exact hf v u s2 x y H2 I2 r1 r2 q2
theorem d7{op:Operator}{r:R2}(ho:bh X (QR op) r)(ha:PE X a ta)(hb:PE X b tb):PE X (.BinOp a op b pos) (jm r ta tb):=by
 intro RB s σ H Q I h;exact wpAny_BinOp (oG ha hb I h λv u s2 x y H2 I2 rx ry q=>ho RB s2 σ H2 x y v u Q I2 rx ry q)
theorem sW{op:UnaryOp}{r:V->Hp->VK->Prop}(ho:oF X (unaryOp op) r)(ha:PE X a ta):PE X (.UnaryOp op a pos) (sV r ta):=by
 intro RB s σ H Q I h;exact UnaryOp_ (aA (ha RB s σ H _ I h) λv s1 uu34=>by obtain⟨x,H1,I1,r1,q1⟩:=uu34;exact ho RB s1 σ H1 x v Q I1 r1 q1)
theorem lR{f:Qj->Qj->Sem Qj}{C:Int->Int->Prop}{g:Int->Int->Int}
 (rule:∀(i j:Int) (t u:Tok) (s:Ql) (Q:Qj->Ql->Prop) (E:Qj->Ql->Prop),C i j->Q (.int (g i j) s.toks) {s with toks:=s.toks+1}->Qr (Qs X.prog X.w) X.A (f (.int i t) (.int j u)) Q E s):
 bh X f (rI C λi j=>.int (g i j)):=by
 intro RB s σ H x y v u Q I rx ry h;obtain⟨i,j,rfl,rfl,hc,q⟩:=h;obtain⟨t,rfl⟩:=rx;obtain⟨t',rfl⟩:=ry;exact rule i j t t' s _ _ hc ⟨.int (g i j),H,I.tok _,⟨_,rfl⟩,q⟩
theorem sX{f:Qj->Qj->Sem Qj}{g:Int->Int->Int}
 (rule:∀(i j:Int) (t u:Tok) (s:Ql) (Q:Qj->Ql->Prop) (E:Qj->Ql->Prop),Q (.int (g i j) s.toks) {s with toks:=s.toks+1}->Qr (Qs X.prog X.w) X.A (f (.int i t) (.int j u)) Q E s):
 bh X f (fF λi j=>.int (g i j)):=by
 intro RB s σ H x y v u Q I rx ry h;obtain⟨i,j,rfl,rfl,q⟩:=h;obtain⟨t,rfl⟩:=rx;obtain⟨t',rfl⟩:=ry;exact rule i j t t' s _ _ ⟨.int (g i j),H,I.tok _,⟨_,rfl⟩,q⟩
theorem lS{f:Qj->Qj->Sem Qj}{g:Int->Int->Bool}
 (rule:∀(i j:Int) (t u:Tok) (s:Ql) (Q:Qj->Ql->Prop) (E:Qj->Ql->Prop),Q (.bool (g i j)) s->Qr (Qs X.prog X.w) X.A (f (.int i t) (.int j u)) Q E s):
 bh X f (fF λi j=>.bl (g i j)):=by
 intro RB s σ H x y v u Q I rx ry h;obtain⟨i,j,rfl,rfl,q⟩:=h;obtain⟨t,rfl⟩:=rx;obtain⟨t',rfl⟩:=ry;exact rule i j t t' s _ _ ⟨.bl (g i j),H,I,rfl,q⟩
def lT(i j:Int):Prop:=0 < j/\j < 1073741824
def oH(i j:Int):Prop:=0<=j/\j<=1000000/\i.natAbs < 2 ^ 64
def kr(i j:Int):Prop:=(-(2 ^ 64) < i/\i < 2 ^ 64)\/(-(2 ^ 64) < j/\j < 2 ^ 64)
theorem kr.ok{i j:Int}(h:kr i j):IntMulOk i j:=by
 rcases h with⟨h1,h2⟩ | ⟨h1,h2⟩
 ·exact .of_left (intBits_le_64 h1 h2)
 ·exact .of_right (intBits_le_64 h1 h2)
theorem cf:bh X (QR .Add) (fF λi j=>.int (i+j)):=sX λ_ _ _ _ _ _ _ q=>add_int q
theorem fG:bh X (QR .Sub) (fF λi j=>.int (i - j)):=sX λ_ _ _ _ _ _ _ q=>sub_int q
theorem gh:bh X (QR .Mult) (rI kr λi j=>.int (i*j)):=lR λ_ _ _ _ _ _ _ hc q=>mul_int q hc.ok
theorem lU:bh X (QR .FloorDiv) (rI lT λi j=>.int (i / j)):=lR λi j _ _ _ _ _ hc q=>by
 have h1:(0:Int) < j:=hc.1;have h2:j < 1073741824:=hc.2;exact floordiv_int Qc (by rw [NA i Qc];exact q) (.inl (Of Qc))
theorem fH:bh X (QR .Mod) (rI (λ_ j=>0 < j) λi j=>.int (i % j)):=lR λi j _ _ _ _ _ hc q=>by
 have h1:(0:Int) < j:=hc;exact mod_int' Qc (by rw [NB i Qc];exact q)
theorem B1:bh X (QR .Pow) (rI oH λi j=>.int (i ^ j.toNat)):=lR λ_ _ _ _ _ _ _ hc q=>pow_int_small hc.1 hc.2.1 hc.2.2 q
theorem B2{f:Qj->Sem Qj}{g:Int->Int}
 (rule:∀(i:Int) (t:Tok) (s:Ql) (Q:Qj->Ql->Prop) (E:Qj->Ql->Prop),Q (.int (g i) s.toks) {s with toks:=s.toks+1}->Qr (Qs X.prog X.w) X.A (f (.int i t)) Q E s):
 oF X f (rU λi=>.int (g i)):=by
 intro RB s σ H x v Q I rx h;obtain⟨i,rfl,q⟩:=h;obtain⟨t,rfl⟩:=rx;exact rule i t s _ _ ⟨.int (g i),H,I.tok _,⟨_,rfl⟩,q⟩
theorem sY:oF X (unaryOp .USub) (rU λi=>.int (-i)):=B2 λ_ _ _ _ _ q=>neg_int q
end
def ku:V->V->Bool
 | .non,.non=>true | .non,.int _=>true | .int _,.non=>true | .non,.bl _=>true | .bl _,.non=>true | .non,.str _=>true | .str _,.non=>true
 | .int _,.int _=>true | .bl _,.bl _=>true | .str _,.str _=>true | .byt _,.byt _=>true
 | .int _,.str _=>true | .str _,.int _=>true | .bl _,.str _=>true | .str _,.bl _=>true
 | _,_=>false
section
variable {X:Cx} {a b c:Qn} {ta tb tc:TE} {pos:Pos}
theorem d8{RB:List (Qk×Obj)}{σ:St}{H:Hp}{s:Ql}{Q:VK}{k k':Bool}(I:af X RB σ H s)(q:Q (.bl k) H)(e:k=k'):EP X RB σ Q (.bool k') s:=by
 subst e;exact⟨.bl k,H,I,rfl,q⟩
theorem hV:bh X (Qz .Lt) (fF λi j=>.bl (decide (i < j))):=lS λ_ _ _ _ _ _ _ q=>lt_int q
theorem hW:bh X (Qz .LtE) (fF λi j=>.bl (decide (i<=j))):=lS λ_ _ _ _ _ _ _ q=>le_int q
theorem sZ:bh X (Qz .Gt) (fF λi j=>.bl (decide (j < i))):=lS λ_ _ _ _ _ _ _ q=>gt_int q
theorem tf:bh X (Qz .GtE) (fF λi j=>.bl (decide (j<=i))):=lS λ_ _ _ _ _ _ _ q=>ge_int q
theorem B3:bh X (Qz .Lt) (λx y H Q=>∃i j,x= .str i/\y= .str j/\Q (.bl (decide (i.cps.toList < j.cps.toList))) H):=by
 intro RB s σ H x y v u Q I rx ry h;obtain⟨i,j,rfl,rfl,q⟩:=h;obtain⟨t,rfl⟩:=rx;obtain⟨t',rfl⟩:=ry;exact lt_str (d8 I q rfl)
theorem B4:bh X (Qz .In) (λx y H Q=>∃i j,x= .str i/\y= .str j/\Q (.bl (!(MX j i 0 j.length 1).isEmpty)) H):=by
 intro RB s σ H x y v u Q I rx ry h;obtain⟨i,j,rfl,rfl,q⟩:=h;obtain⟨t,rfl⟩:=rx;obtain⟨t',rfl⟩:=ry;exact in_str (d8 I q rfl)
theorem B5:bh X (Qz .Is) (λx y H Q=>y= .non/\Q (.bl (decide (x= .non))) H):=by
 intro RB s σ H x y v u Q I rx ry h;obtain⟨rfl,q⟩:=h;cases ry;refine is_none_gen (d8 I q ?_);cases x <;> first
  | (cases rx;rfl)
  | (obtain⟨t,rfl⟩:=rx;rfl)
theorem aG(b:Qn){op:Q7}(h:op≠ .In:=by decide)(h2:op≠ .NotIn:=by decide):QG op b=false:=by
 have e1:(op==CmpOp.In)=false:=by cases op <;> first | rfl | exact absurd rfl h
 have e2:(op==P0)=false:=by cases op <;> first | rfl | exact absurd rfl h2
 cases b <;> simp [QG,e1,e2]
theorem B6{op:Q7}{r:R2}(ho:bh X (Qz op) r)(ha:PE X a ta)(hb:PE X b tb)(hm:QG op b=false):PE X (.Compare a [op] [b] pos) (jm r ta tb):=by
 intro RB s σ H Q I h;exact wpAny_Compare1 (oG ha hb I h λv u s2 x y H2 I2 rx ry q=>ho RB s2 σ H2 x y v u Q I2 rx ry q) hm
def oI(t:TE):TT:=λσ H Q=>t σ H λx H'=>∃k,x= .bl k/\Q k H'
theorem lV{op:Q7}{r:R2}(ho:bh X (Qz op) r)(ha:PE X a ta)(hb:PE X b tb)(hm:QG op b=false):PT X (.Compare a [op] [b] pos) (oI (jm r ta tb)):=by
 intro RB s σ H Q I h;refine wpAny_isTrue_Compare1 (aA (ha RB s σ H _ I h) λv s1 ⟨x,H1,I1,r1,q1⟩=>aA (hb RB s1 σ H1 _ I1 q1) λu s2 ⟨y,H2,I2,r2,q2⟩=>
  aA (ho RB s2 σ H2 x y v u _ I2 r1 r2 q2) λc s3 ⟨z,H3,I3,r3,k,e,q3⟩=>?_) hm
 subst e;cases r3;exact QF ⟨H3,I3,q3⟩
def oJ(r r':R2)(ta tb tc:TE):TE:=λσ H Q=>ta σ H λx H1=>tb σ H1 λy H2=>r x y H2 λz H3=>∃k,z= .bl k/\
 (if k=true then tc σ H3 λw' H4=>r' y w' H4 Q else Q (.bl false) H3)
theorem B7{op op':Q7}{r r':R2}(ho:bh X (Qz op) r)(ho':bh X (Qz op') r')(ha:PE X a ta)(hb:PE X b tb)(hc:PE X c tc)
 (hm:lastMarks [op,op'] [b,c]=false:=by with_unfolding_all rfl):PE X (.Compare a [op,op'] [b,c] pos) (oJ r r' ta tb tc):=by
 intro RB s σ H Q I h;refine Compare_chain (aA (ha RB s σ H _ I h) λv s1 ⟨x,H1,I1,r1,q1⟩=>chain_link (aA (hb RB s1 σ H1 _ I1 q1) λu s2 ⟨y,H2,I2,r2,q2⟩=>
  aA (ho RB s2 σ H2 x y v u _ I2 r1 r2 q2) λd s3 ⟨z,H3,I3,r3,k,e,q3⟩=>?_)) hm
 subst e;cases r3;refine QF ?_;cases k with
 | false=>exact ite_ff ⟨.bl false,H3,I3,rfl,q3⟩
 | true=>exact ite_tt (chain_last (aA (hc RB s3 σ H3 _ I3 q3) λw' s4 uu41=>by obtain⟨z',H4,I4,r4,q4⟩:=uu41;exact ho' RB s4 σ H4 y z' u w' Q I4 r2 r4 q4))
theorem B8{op op':Q7}{r r':R2}(ho:bh X (Qz op) r)(ho':bh X (Qz op') r')(ha:PE X a ta)(hb:PE X b tb)(hc:PE X c tc)
 (hm:lastMarks [op,op'] [b,c]=false:=by with_unfolding_all rfl):PT X (.Compare a [op,op'] [b,c] pos) (oI (oJ r r' ta tb tc)):=by
 intro RB s σ H Q I h;refine isTrue_chain (aA (ha RB s σ H _ I h) λv s1 ⟨x,H1,I1,r1,q1⟩=>test_link (aA (hb RB s1 σ H1 _ I1 q1) λu s2 ⟨y,H2,I2,r2,q2⟩=>
  aA (ho RB s2 σ H2 x y v u _ I2 r1 r2 q2) λd s3 ⟨z,H3,I3,r3,k,e,q3⟩=>?_)) hm
 subst e;cases r3;refine QF ?_;cases k with
 | false=>
  obtain⟨k',e',q'⟩:=q3;cases e';exact ite_ff ⟨H3,I3,q'⟩
 | true=>
  refine ite_tt (test_last (aA (hc RB s3 σ H3 _ I3 q3) λw' s4 ⟨z',H4,I4,r4,q4⟩=>aA (ho' RB s4 σ H4 y z' u w' _ I4 r2 r4 q4) λd' s5 ⟨z2,H5,I5,r5,k2,e2,q5⟩=>?_));subst e2;cases r5;exact QF ⟨H5,I5,q5⟩
theorem jn:(Qp:Nat) < 2 ^ 63:=by rw [QS];decide
theorem tj:bh X (QR .Add) (λx y H Q=>∃i j,x= .str i/\y= .str j/\i.length+j.length<=Qp/\Q (.str (i++j)) H):=by
 intro RB s σ H x y v u Q I rx ry h;obtain⟨i,j,rfl,rfl,hz,q⟩:=h;obtain⟨t,rfl⟩:=rx;obtain⟨t',rfl⟩:=ry;exact add_str (λt' tk=>⟨.str (i++j),H,I.tok _,⟨_,rfl⟩,q⟩) hz
theorem cW{x:V}{us:List Qj}(r:aD [x] us):∃u,us=[u]/\aC x u:=by
 cases r with
 | cons r1 r2=>cases r2;exact⟨_,rfl,r1⟩
theorem lW{x y:V}{us:List Qj}(r:aD [x,y] us):∃u w',us=[u,w']/\aC x u/\aC y w':=by
 cases r with
 | cons r1 r2=>
  cases r2 with
  | cons r3 r4=>cases r4;exact⟨_,_,rfl,r1,r3⟩
theorem B9:cT X (.builtin "abs") (λxs H Q=>∃i,xs=[.int i]/\Q (.int (if i < 0 then -i else i)) H):=by
 intro RB s σ H xs us Q I r h;obtain⟨i,rfl,q⟩:=h;obtain⟨u,rfl,t,rfl⟩:=cW r;exact call_abs_int λu tk=>⟨.int (if i < 0 then -i else i),H,I.tok _,⟨_,rfl⟩,q⟩
theorem oK(hc:X.calm=true):cT X (.builtin "max") (λxs H Q=>∃i j,xs=[.int i,.int j]/\Q (.int (if j > i then j else i)) H):=by
 intro RB s σ H xs us Q I r h;obtain⟨i,j,rfl,q⟩:=h;obtain⟨u,w',rfl,⟨t,rfl⟩,⟨t',rfl⟩⟩:=lW r;refine max_two_ints (I.ok.hd hc) λh' tk k=>⟨_,H,I.kept k,?_,q⟩;by_cases hj:j > i
 ·rw [Qf hj,Qf hj];exact⟨_,rfl⟩
 ·rw [Qe hj,Qe hj];exact⟨_,rfl⟩
theorem Ca(hc:X.calm=true):cT X (.builtin "min") (λxs H Q=>∃i j,xs=[.int i,.int j]/\Q (.int (if j < i then j else i)) H):=by
 intro RB s σ H xs us Q I r h;obtain⟨i,j,rfl,q⟩:=h;obtain⟨u,w',rfl,⟨t,rfl⟩,⟨t',rfl⟩⟩:=lW r;refine min_two_ints (I.ok.hd hc) λh' tk k=>⟨_,H,I.kept k,?_,q⟩;by_cases hj:j < i
 ·rw [Qf hj,Qf hj];exact⟨_,rfl⟩
 ·rw [Qe hj,Qe hj];exact⟨_,rfl⟩
theorem oM:cT X (.type "int") (λxs H Q=>(∃i,xs=[.int i]/\Q (.int i) H)\/∃k,xs=[.bl k]/\Q (.int (if k then 1 else 0)) H):=by
 intro RB s σ H xs us Q I r h;rcases h with⟨i,rfl,q⟩ | ⟨k,rfl,q⟩
 ·obtain⟨u,rfl,t,rfl⟩:=cW r;exact call_int_int ⟨.int i,H,I,⟨_,rfl⟩,q⟩
 ·obtain⟨u,rfl,r1⟩:=cW r;cases r1;exact call_int_bool ⟨.int (if k then 1 else 0),H,I.tok _,⟨_,rfl⟩,q⟩
theorem Cb:cT X (.builtin "divmod") (λxs H Q=>∃i j,xs=[.int i,.int j]/\lT i j/\∀p,H p=none->Q (.ref p) (aq H p (.tup [.int (i / j),.int (i % j)]))):=by
 intro RB s σ H xs us Q I r h;obtain⟨i,j,rfl,⟨h1,h2⟩,q⟩:=h;obtain⟨u,w',rfl,⟨t,rfl⟩,⟨t',rfl⟩⟩:=lW r;refine divmod_int Qc ?_ (.inl (Of Qc));rw [NA i Qc,NB i Qc];have hn:H s.heap.objs.size=none:=I.hok.fresh (J8 _);refine⟨.ref s.heap.objs.size,_,?_,rfl,q _ hn⟩;refine I.laid (λb o e=>J9 _ e) (J8 _) ⟨by simp only [Kt,LI];rw [QS];decide,[.int (i / j) s.toks,.int (i % j) (s.toks+1)],.cons ⟨_,rfl⟩ (.cons ⟨_,rfl⟩ .nil),?_⟩;exact⟨_,KN s.heap rfl,rfl,0,rfl⟩
end
theorem fc.some_of{v:V}{o:Option Qj}(r:fc (some v) o):∃u,o=some u/\aC v u:=by
 cases o with
 | none=>exact(show False from r).elim
 | some u=>exact⟨u,rfl,r⟩
structure bx (k:Nat) (A:QC):Prop where
 hd:A.handled=none
 dp:A.depth+3*k+5 < recursionLimit
 un:A.units+16*k+200 < QD
theorem bx.mono{j k:Nat}{A:QC}(r:bx k A)(h:j<=k):bx j A:=⟨r.hd,by have:=r.dp;omega,by have:=r.un;omega⟩
theorem bx.deeper{k:Nat}{A:QC}(r:bx (k+1) A)(env:Env):bx k (A.deeper env):=
 ⟨r.hd,by have:=r.dp;show A.depth+1+3*k+5 < _;omega,by have:=r.un;show A.units+3+16*k+200 < _;omega⟩
theorem bx.in1{k:Nat}{A:QC}(r:bx (k+1) A):bx k A.in1:=
 ⟨r.hd,by have:=r.dp;show A.depth+3*k+5 < _;omega,by have:=r.un;show A.units+1+16*k+200 < _;omega⟩
theorem bx.depth{k:Nat}{A:QC}(r:bx k A):A.depth < recursionLimit:=by have:=r.dp;omega
theorem bx.units{k:Nat}{A:QC}(r:bx k A):A.units+64 < QD:=by have:=r.un;omega
theorem bx.units0{k:Nat}{A:QC}(r:bx k A):A.units < QD:=by have:=r.un;omega
def tm:TA:=λ_ H Q=>Q [] H
def tq(ta:TE)(tr:TA):TA:=λσ H Q=>ta σ H λx H1=>tr σ H1 λxs H2=>Q (x::xs) H2
section
variable {X:Cx} {e:Qn} {es:List Qn} {te:TE} {t:TA} {pos:Pos}
theorem dE:PA X [] tm:=λ_ _ _ _ H Q I h=>NI ⟨[],H,I,.nil,h⟩
theorem cC(ha:PE X e te)(hr:PA X es t)(hs:Qo (e::es) X.env=(false,eval e X.env)::Qo es X.env:=by rfl):PA X (e::es) (tq te t):=by
 intro pos RB s σ H Q I h;rw [hs];show Qr _ _ (spliced ((false,eval e X.env)::QJ pos (Qo es X.env))) _ _ s;refine MO (aA (ha RB s σ H _ I h) λu s1 ⟨x,H1,I1,r1,q1⟩=>?_);exact aA (hr pos RB s1 σ H1 _ I1 q1) λus s2 uu48=>by obtain⟨xs,H2,I2,r2,q2⟩:=uu48;exact⟨x::xs,H2,I2,.cons r1 r2,q2⟩
def tu(t:TA):TE:=λσ H Q=>t σ H λxs H1=>xs.length<=Qp/\∀p,H1 p=none->Q (.ref p) (aq H1 p (.tup xs))
def tw(t:TA):TE:=λσ H Q=>t σ H λxs H1=>xs.length<=Qp/\∀p,H1 p=none->Q (.ref p) (aq H1 p (.lst xs))
theorem oN{x1}(h:PA X es t):PE X (.Tuple es x1 pos) (tu t):=by
 intro RB s σ H Q I hq;refine wpAny_Tuple_spliced (aA (h pos RB s σ H _ I hq) λus s1 ⟨xs,H1,I1,r,z,q⟩=>⟨by rw [<-r.length];exact z,?_⟩);have hf:H1 s1.heap.objs.size=none:=I1.hok.fresh (J8 _);refine⟨.ref s1.heap.objs.size,aq H1 s1.heap.objs.size (.tup xs),I1.laid (t':=s1.toks) (λb u e=>J9 _ e) (J8 _) ?_,rfl,q _ hf⟩;exact⟨z,us,r,⟨_,KN _ rfl,rfl,_,rfl⟩⟩
theorem lX(h:PA X es t):PE X (.List es pos) (tw t):=by
 intro RB s σ H Q I hq;refine wpAny_List_spliced (aA (h pos RB s σ H _ I hq) λus s1 ⟨xs,H1,I1,r,z,q⟩=>⟨by rw [<-r.length];exact z,?_⟩);have hf:H1 s1.heap.objs.size=none:=I1.hok.fresh (J8 _);refine⟨.ref s1.heap.objs.size,aq H1 s1.heap.objs.size (.lst xs),I1.laid (t':=s1.toks) (λb u e=>J9 _ e) (J8 _) ?_,rfl,q _ hf⟩;exact⟨z,us,0,r,KN _ rfl⟩
end
abbrev Sp:=List V->Hp->VK->XK->Prop
abbrev dR:=List Env->Hp->Ql->XK->Qj->Ql->Prop
structure iM (P:Qu) (w:Qw) (K:J0) (mg:Str->Option Qj) (base:Qy) (A:QC) (outer:List Env) (s:Ql) (H:Hp):Prop where
 frames:A.frames=some outer
 mod:Mod K mg base
 bs:∀b o,base.get? b=some o->s.heap.get? b=some o/\H b=none
 bsz:base.objs.size<=s.heap.objs.size
 funs:s.heap.FunFrames base outer
 frf:∀b∈eJ outer,H b=none
 hok:bK P w H s.heap
 bare:Rl s.gens
def CE(outer:List Env)(P:Qu)(w:Qw)(H:Hp)(s:Ql)(Q:VK)(u:Qj)(s':Ql):Prop:=
 ∃v H',s'.os=s.os/\Rl s'.gens/\Un (eJ outer) [] H H' s.heap s'.heap/\bK P w H' s'.heap/\aC v u/\Q v H'
def CR(CX:dR)(outer:List Env)(P:Qu)(w:Qw)(H:Hp)(s:Ql)(Q:VK)(E:XK)(r:Result)(s':Ql):Prop:=
 match r with
 | .ok (.ret u)=>CE outer P w H s Q u s'
 | .ok _=>False
 | .error e=>CX outer H s E e s'
structure aM (P:Qu) (w:Qw) (K:J0) (mg:Str->Option Qj) (base:Qy) (CX:dR) (k:Nat) (f:Qk) (fd:Qt) (ps:List Str) (sp:Sp):Prop where
 len:∀vs H Q E,sp vs H Q E->vs.length=ps.length
 run:∀(A:QC)(outer:List Env)(s:Ql)(H:Hp)(args:Args)(us:List Qj)(vs:List V)(Q:VK)(E:XK),bx k A->iM P w K mg base A outer s H->BindsTo s fd args (ps.zip us)->aD vs us->sp vs H Q E->
  codeAny (Qs P w) A (.call (.ref f) args) (CR CX outer P w H s Q E) s
theorem iM.in1{P:Qu}{w:Qw}{K:J0}{mg:Str->Option Qj}{base:Qy}{A:QC}{outer:List Env}{s:Ql}{H:Hp}(e:iM P w K mg base A outer s H):
 iM P w K mg base A.in1 outer s H:=⟨e.frames,e.mod,e.bs,e.bsz,e.funs,e.frf,e.hok,e.bare⟩
section
variable {X:Cx} {RB:List (Qk×Obj)} {σ:St} {H:Hp} {s s':Ql}
theorem af.env0(I:af X RB σ H s):iM X.prog X.w X.K X.mg X.base X.A X.stack s H:=
 ⟨I.ok.frames,I.ok.mod,I.bs,KI I.ok.bsz I.sz,I.stack,I.stkFree,I.hok,I.bare⟩
theorem af.after{Q:VK}{u:Qj}(I:af X RB σ H s)(h:CE X.stack X.prog X.w H s Q u s'):EP X RB σ Q u s':=by
 obtain⟨v,H',os,bare,un,hok,r,q⟩:=h;obtain⟨hh,g,d,t,os'⟩:=s';obtain rfl:os'=s.os:=os;exact⟨v,H',I.call (h':=hh) (g':=g) (d':=d) (t':=t) (ch:=[]) un hok bare (λb z=>absurd z Qh),r,q⟩
end
def lY(sp:Sp)(dvs:List V)(E:XK)(t:TA):TE:=λσ H Q=>t σ H λvs H1=>sp (vs++dvs) H1 Q E
def fI(K:J0)(fd:Qt)(ps:List Str)(ds:List Qj):Prop:=
 ∀(s:Ql)(us:List Qj),K.In s.heap->(us++ds).length=ps.length->BindsTo s fd ⟨us,[]⟩ (ps.zip (us++ds))
theorem fI.all{K:J0}{fd:Qt}{ps:List Str}(h:∀us:List Qj,us.length=ps.length->bindArgs fd ⟨us,[]⟩=pure (ps.zip us)):fI K fd ps []:=λs us _ hl=>by
 rw [LV] at hl⊢;exact .of_eq (h us hl)
def oO(CX:dR)(X:Cx)(E:XK):Prop:=∀(RB:List (Qk×Obj))(σ:St)(H:Hp)(s:Ql)(e:Qj)(s':Ql),af X RB σ H s->CX X.stack H s E e s'->X.xe e s'
section
variable {X:Cx} {CX:dR} {k:Nat} {f C:Qk} {fd:Qt} {ps:List Str} {sp:Sp} {dvs:List V} {ds:List Qj} {E:XK} {x m:Str} {p pos apos:Pos} {e o:Qn} {es:List Qn} {ta:TE} {t:TA}
theorem Cc{RB:List (Qk×Obj)}{σ:St}{H:Hp}{s:Ql}{Q:VK}{us:List Qj}{vs:List V}(F:aM X.prog X.w X.K X.mg X.base CX k f fd ps sp)(hr:bx k X.A)(hb:fI X.K fd ps ds)(hd:aD dvs ds)(hx:oO CX X E)
 (I:af X RB σ H s)(r:aD vs us)(h:sp (vs++dvs) H Q E):Qr (Qs X.prog X.w) X.A (call (.ref f) us) (EP X RB σ Q) X.xe s:=by
 have r2:aD (vs++dvs) (us++ds):=r.append hd;have hl:(us++ds).length=ps.length:=by rw [<-r2.length];exact F.len _ _ _ _ h
 refine wpAny_call (codeAny_mono (F.run X.A X.stack s H ⟨us,[]⟩ (us++ds) (vs++dvs) Q E hr I.env0 (hb s us I.kIn hl) r2 h) λr s' hq=>?_);cases r with
 | error e=>exact hx RB σ H s e s' I hq
 | ok fl=>
  cases fl with
  | ret u=>exact I.after hq
  | next=>exact LL hq
  | brk=>exact LL hq
  | cont=>exact LL hq
theorem Cd(F:aM X.prog X.w X.K X.mg X.base CX k f fd ps sp)(hr:bx k X.A)(hg:Gl X x)(hm:X.mg x=some (.ref f))(hk:MU X.K (.ref f)=true)(hb:fI X.K fd ps ds)(hd:aD dvs ds)(hx:oO CX X E)
 (ha:PA X (e::es) t)(hdb:(x==("__debug__":Str))=false:=by decide)(he:Qo (e::es) X.env=(false,eval e X.env)::Qo es X.env:=by rfl)(hpl:(QJ pos (Qo es X.env)).any (·.1)=false:=by rfl):
 PE X (.Call (.Name x p) (e::es) [] pos) (lY sp dvs E t):=by
 intro RB s σ H Q I h;refine Q5 (oj I hg hm ?_ hdb);refine PySem.W.callWith_K (h₀:=X.base) I.ok.mod.kin hk (aA (ha pos RB s σ H _ I h) λus s1 ⟨vs,H1,I1,r,q⟩=>⟨I1.kIn,?_⟩) he hpl;exact Cc F hr hb hd hx I1 r q
end
section
variable {X:Cx} {CX:dR} {k:Nat} {f C:Qk} {fd:Qt} {ps ks:List Str} {sp:Sp} {E:XK} {x m:Str} {p pos apos kpos:Pos} {e o:Qn} {es:List Qn} {kws:List QY} {te ta:TE} {t tk:TA} {nm:Option Str}
variable {g:List Qj->List Qj->List Qj} {gV:List V->List V->List V}
end
structure aZ (N P:List Str) (sc:QO):Prop where
 kind:sc.kind= .function
 co:sc.isCoroutine=false
 gen:sc.isGenerator=false
 nd:N.Nodup
 pre:N.take P.length=P
 par:∀x∈P,sc.names.lookup x=some .local\/sc.names.lookup x=some .cell
 nofree:∀y∈sc.names,y.2≠ .free
theorem tD{kindOf:Str->Option QP}{x:Str}:∀{binds:List (Str×Qj)}{m:Str->Option Qj},(∀v,(x,v)∉ binds)->bindL kindOf binds m x=m x
 | [],_,_=>rfl
 | (n,v)::r,m,h=>by
  unfold bindL;rw [tD λw hw=>h w (Kz _ hw)];split
  ·have:x≠n:=by rintro rfl;exact h v KA
   simp [this]
  ·rfl
theorem tF{kindOf:Str->Option QP}{x:Str}:∀{binds:List (Str×Qj)}{m:Str->Option Qj},(∀v,(x,v)∉ binds)->bindC kindOf binds m x=m x
 | [],_,_=>rfl
 | (n,v)::r,m,h=>by
  unfold bindC;rw [tF λw hw=>h w (Kz _ hw)];split
  ·rfl
  ·have:x≠n:=by rintro rfl;exact h v KA
   simp [this]
theorem tG{kindOf:Str->Option QP}{x:Str}{v:Qj}:∀{P:List Str}{vs:List Qj}{i:Nat}{m:Str->Option Qj},P.Nodup->P[i]?=some x->vs[i]?=some v->kindOf x=some .local->
 bindL kindOf (P.zip vs) m x=some v
 | [],_,_,_,_,h,_,_=>by simp at h
 | _::_,[],_,_,_,_,h,_=>by simp at h
 | p::P,w::vs,0,m,nd,h1,h2,hk=>by
  simp at h1 h2;subst h1;subst h2;show bindL kindOf ((p,w)::P.zip vs) m p=_;unfold bindL;rw [tD λv hv=>(LW.mp nd).1 (Oc hv).1,Qf hk];simp
 | p::P,w::vs,i+1,m,nd,h1,h2,hk=>by
  show bindL kindOf ((p,w)::P.zip vs) m x=_;unfold bindL;exact tG (i:=i) (LW.mp nd).2 (by simpa using h1) (by simpa using h2) hk
theorem tH{kindOf:Str->Option QP}{x:Str}{v:Qj}:∀{P:List Str}{vs:List Qj}{i:Nat}{m:Str->Option Qj},P.Nodup->P[i]?=some x->vs[i]?=some v->kindOf x≠some .local->
 bindC kindOf (P.zip vs) m x=some v
 | [],_,_,_,_,h,_,_=>by simp at h
 | _::_,[],_,_,_,_,h,_=>by simp at h
 | p::P,w::vs,0,m,nd,h1,h2,hk=>by
  simp at h1 h2;subst h1;subst h2;show bindC kindOf ((p,w)::P.zip vs) m p=_;unfold bindC;rw [tF λv hv=>(LW.mp nd).1 (Oc hv).1,Qe hk];simp
 | p::P,w::vs,i+1,m,nd,h1,h2,hk=>by
  show bindC kindOf ((p,w)::P.zip vs) m x=_;unfold bindC;exact tH (i:=i) (LW.mp nd).2 (by simpa using h1) (by simpa using h2) hk
def start(N:List Str)(vs:List V):St:=vs.map some++Kp (N.length - vs.length) none
def hX(CX:dR)(P:Qu)(w:Qw)(K:J0)(mg:Str->Option Qj)(base:Qy)(N:List Str)(qual:Str)(scope:QO)(f:Qk)(cd:Qj)(A:QC)(outer:List Env)(s:Ql)(H:Hp)(E:XK):Cx where
 prog:=P
 w:=w
 K:=K
 mg:=mg
 base:=base
 A:=A.deeper (envOfC qual scope s.heap.objs.size f cd)
 N:=N
 s₀:=s
 H₀:=H
 env:=envOfC qual scope s.heap.objs.size f cd
 outer:=outer
 stack:=envOfC qual scope s.heap.objs.size f cd::outer
 ex:=[]
 calm:=true
 fn:=λ_=>true
 pn:=[]
 xe:=λe s'=>Qr (Qs P w) (A.deeper (envOfC qual scope s.heap.objs.size f cd)) (leaving (envOfC qual scope s.heap.objs.size f cd) e) (λ_ s''=>CX outer H s E e s'') (λe' s''=>CX outer H s E e' s'') s'
theorem tI{sc:QO}{n:Nat}{x:Str}(h:sc.names.lookup x=some .cell):∃c,(QM n sc.names []).lookup x=some c:=by
 have q:=M5 sc.names n [] (.inl h);exact MP.mp q
theorem Ce{CX:dR}{P:Qu}{w:Qw}{K:J0}{mg:Str->Option Qj}{base:Qy}{N ps:List Str}{qual:Str}{scope:QO}{f:Qk}{cd:Qj}{A:QC}{outer:List Env}{s s1:Ql}{H:Hp}{E:XK}{us:List Qj}{vs:List V}
 (S:aZ N ps scope)(hd:A.handled=none)(e0:iM P w K mg base A outer s H)(hl:vs.length=ps.length)(r:aD vs us)
 (x:InCallC s s.heap.objs.size (bindL (envOfC qual scope s.heap.objs.size f cd).kindOf (ps.zip us) λ_=>none) (QM (s.heap.objs.size+1) scope.names []) (bindC (envOfC qual scope s.heap.objs.size f cd).kindOf (ps.zip us) λ_=>none) s1):
 af (hX CX P w K mg base N qual scope f cd A outer s H E) [] (start N vs) H s1:=by
 have hpl:ps.length<=N.length:=by have:=congrArg Og S.pre;rw [KW] at this;omega
 obtain⟨h1,tk,rfl,hk⟩:=x.done;have noA:∀b:Qk,b ∉ (hX CX P w K mg base N qual scope f cd A outer s H E).ex:=λb z=>absurd (show b∈([]:List Qk) from z) Qh;refine⟨⟨e0.mod,S.kind,rfl,rfl,J8 _,λy z c h1 h2=>?_,λy hy=>?_,λy c _ h=>?_,λ_=>hd,Around.frames_deeper e0.frames,.inr ⟨rfl,rfl⟩,λb z=>absurd z (noA b),e0.bs,e0.bsz,λb _ _=>noA b,λb z=>absurd z (noA b),e0.funs,e0.frf⟩,
  rfl,e0.bare,Un.kept hk,⟨_,x.toInCall.ns,λi y v h1 h2 h3=>?_⟩,λy c h=>⟨_,x.cell y c h⟩,e0.hok.fresh (J8 _),λy c h=>?_,λp hp=>absurd (show p∈([]:List (Qk×Obj)) from hp) Qh,e0.hok.kept hk,?_⟩
 ·exact name_of_addr x.apart (LJ h1) (LJ h2)
 ·have hy:scope.names.lookup y=some .cell\/scope.names.lookup y=some .free:=hy;rcases hy with hy | hy
  ·exact tI hy
  ·exact absurd rfl (S.nofree _ (LJ hy))
 ·exact Mp (x.above y c (LJ h))
 ·have hi:i < vs.length:=by
   unfold start at h2;by_cases hi:i < vs.length
   ·exact hi
   ·rw [LM (by simpa using hi)] at h2;rw [Ms] at h2;split at h2 <;> cases h2
  have ha:vs[i]?=some v:=by
   unfold start at h2;rw [LS (by simpa using hi),Kj] at h2;cases e:vs[i]? with
   | none=>rw [e] at h2;cases h2
   | some a=>rw [e] at h2;cases h2;rfl
  obtain⟨u,hu,rv⟩:=r.get ha;have hp:ps[i]?=some y:=by
   rw [<-S.pre,List.getElem?_take_of_lt Qc];exact h1
  have ndP:ps.Nodup:=by rw [<-S.pre];exact S.nd.sublist (Mk _ _)
  refine⟨u,rv,?_⟩;rcases S.par y (Kw hp) with k | k
  ·exact .inl ⟨k,tG ndP hp hu k⟩
  ·obtain⟨c,e⟩:=tI (n:=s.heap.objs.size+1) k;refine .inr ⟨.inl k,c,e,?_⟩;have q:=x.cell y c e;rw [tH ndP hp hu (by show scope.names.lookup y≠_;rw [k];decide)] at q;exact q
 ·exact e0.hok.fresh (Mp (x.above y c (LJ h)))
 ·unfold start;show _=N.length;rw [Kk,J1,Mc];omega
theorem Cf{CX:dR}{P:Qu}{w:Qw}{K:J0}{mg:Str->Option Qj}{base:Qy}{k:Nat}{f:Qk}{name qual:Str}{params:Arguments}{body:List Qx}{scope:QO}{dV kV doc pm cdv ct oc:Qj}{an od:Option Qk}
 {osl:Array (Option Qj)}{N ps:List Str}{sp:Sp}(lk:K.lookup f=some ⟨oc,od,.func (Ma name qual params body scope dV kV doc pm an cdv ct),osl⟩)(hcd:Nv K cdv qual=true)(S:aZ N ps scope)
 (len:∀vs H Q E,sp vs H Q E->vs.length=ps.length)
 (hbody:∀(A:QC) (outer:List Env) (s:Ql) (H:Hp) (vs:List V) (Q:VK) (E:XK),bx k (A.deeper (envOfC qual scope s.heap.objs.size f cdv))->sp vs H Q E->
   ∃t,bz (hX CX P w K mg base N qual scope f cdv A outer s H E) body t/\t {nx:=λ_ H'=>Q .non H',rt:=Q} (start N vs) H):
 aM P w K mg base CX (k+1) f (Ma name qual params body scope dV kV doc pm an cdv ct) ps sp:=by
 refine⟨len,λA outer s H args us vs Q E hr e0 hb r hsp=>?_⟩;have hl:=len _ _ _ _ hsp;have KX:K.In s.heap:=e0.mod.kin.keeps λb o e=>(e0.bs b o e).1;have lim:s.heap.NoLimit:=e0.mod.nolimit.keeps λb o e=>(e0.bs b o e).1;have hkind:∀y∈ps.zip us,scope.names.lookup y.1=some .local\/(scope.names.lookup y.1=some .cell/\((QM (s.heap.objs.size+1) scope.names []).lookup y.1).isSome=true):=λuu52 hy=>by
  obtain⟨n,v⟩:=uu52;rcases S.par n (Oc hy).1 with q | q
  ·exact .inl q
  ·exact .inr ⟨q,M5 _ _ _ (.inl q)⟩
 refine codeAny_call_function hr.depth (KX _ _ lk) rfl S.co S.gen rfl (PySem.W.codeRec_of KX hcd) (hb _ _ _ _ ?_);refine wpAny_newFunctionEnv_cells S.kind hkind λenv he s1 x=>?_;subst he;refine⟨lim.keeps x.toInCall.keep,codeAny_func ?_⟩;obtain⟨t,ht,hq⟩:=hbody A outer s H vs Q E (hr.deeper _) hsp;have I:af (hX CX P w K mg base N qual scope f cdv A outer s H E) [] (start N vs) H s1:=Ce S hr.hd e0 hl r x;refine QI (ht [] s1 (start N vs) H _ I hq) (λfl s' hs=>?_) λe s' hs=>hs;have fin:∀{σ':St}{H':Hp}{v:V}{u:Qj},af (hX CX P w K mg base N qual scope f cdv A outer s H E) [] σ' H' s'->aC v u->Q v H'->CE outer P w H s Q u s':=
  λ{σ' H' v u} J rv q=>⟨v,H',J.os,J.bare,J.base,J.hok,rv,q⟩
 cases fl with
 | ret u=>
  obtain⟨v,σ',H',J,rv,q⟩:=hs;exact fin J rv q
 | next=>
  obtain⟨σ',H',J,q⟩:=hs;exact fin (v:=V.non) (u:=Mv) J rfl q
 | brk=>
  obtain⟨_,_,_,q⟩:=hs;exact LL q
 | cont=>
  obtain⟨_,_,_,q⟩:=hs;exact LL q
section
variable {X:Cx} {x:Str} {p pos:Pos} {e:Qn} {es:List Qn} {t:TA} {id T:String} {r:List V->Hp->VK->Prop}
def lZ(r:List V->Hp->VK->Prop)(t:TA):TE:=λσ H Q=>t σ H λvs H1=>r vs H1 Q
theorem aS(hc:cT X (.builtin id) r)(hg:Gl X x)(hm:X.mg x=none)(hv:QB x=some (.builtin id))(ha:PA X (e::es) t)(hn:x≠"__name__":=by decide)(hdb:(x==("__debug__":Str))=false:=by decide)
 (he:Qo (e::es) X.env=(false,eval e X.env)::Qo es X.env:=by rfl)(hpl:(QJ pos (Qo es X.env)).any (·.1)=false:=by rfl):PE X (.Call (.Name x p) (e::es) [] pos) (lZ r t):=by
 intro RB s σ H Q I h;refine Q5 (jj I hg hm hv ?_ hn hdb);exact PyProof.Rows.callWith_builtin1 (aA (ha pos RB s σ H _ I h) λus s1 uu53=>by obtain⟨vs,H1,I1,r1,q1⟩:=uu53;exact hc RB s1 σ H1 vs us Q I1 r1 q1) he hpl
theorem fJ(hc:cT X (.type T) r)(hg:Gl X x)(hm:X.mg x=none)(hv:QB x=some (.type T))(ha:PA X (e::es) t)(hn:x≠"__name__":=by decide)(hdb:(x==("__debug__":Str))=false:=by decide)
 (he:Qo (e::es) X.env=(false,eval e X.env)::Qo es X.env:=by rfl)(hpl:(QJ pos (Qo es X.env)).any (·.1)=false:=by rfl):PE X (.Call (.Name x p) (e::es) [] pos) (lZ r t):=by
 intro RB s σ H Q I h;refine Q5 (jj I hg hm hv ?_ hn hdb);exact ME (aA (ha pos RB s σ H _ I h) λus s1 uu54=>by obtain⟨vs,H1,I1,r1,q1⟩:=uu54;exact hc RB s1 σ H1 vs us Q I1 r1 q1) he hpl
end
end L2
namespace HT
open PySem PyProof.Rows
theorem eqAt_int(A:QC)(s:Ql)(a:Int)(t:Tok)(c:Int)(u:Tok):∃e,NS A s (.int a t) (.int c u) e/\(e=true↔a=c):=
 ⟨(a==c),NS.int_int a t c u,Qh⟩
theorem rcLt_int(A:QC)(s:Ql)(a:Int)(t:Tok)(c:Int)(u:Tok)(prog:Qu)(w:Qw)(E:Qj->Ql->Prop)(Q:Qj->Ql->Prop)(h:Q (.bool (decide (a < c))) s):
 Qr (Qs prog w) A (richCompare .Lt (.int a t) (.int c u)) Q E s:=
 (PyProof.Rows.lt_int h:Qr (Qs prog w) A (Qz .Lt (.int a t) (.int c u)) Q E s)
section
open PySem.SeqAt
open PySem.AutoSeq1 (wpAny_loadPart')
open PySem.MeetsSeq PySem.MeetsSeq2 PySem.MeetsSeq3
end
section
variable {prog:Qu} {w:Qw} {A:QC} {E:Qj->Ql->Prop} {s:Ql}
theorem cat_tup{t b:Qk}{vs ws:List Qj}{Q:Qj->Ql->Prop}(ht:IsTup s.heap t vs.toArray)(hb:IsTup s.heap b ws.toArray)(hv:vs≠[])
 (h1:ws=[]->Q (.ref t) s)(h2:ws≠[]->Q (.ref s.heap.objs.size) {s with heap:=s.heap.push {cls:= .type "tuple",data:= .seq (vs++ws).toArray}})
 (hsz:vs.length+ws.length<=Qp):Qr (Qs prog w) A (QR .Add (.ref t) (.ref b)) Q E s:=by
 obtain⟨⟨cls,dd,data,sl⟩,ho,hc,n,hd⟩:=id ht;obtain⟨⟨cls2,dd2,data2,sl2⟩,ho2,hc2,n2,hd2⟩:=id hb;simp only at hc hd hc2 hd2;subst hc hd hc2 hd2;have e:vs.toArray++ws.toArray=(vs++ws).toArray:=Qh
 by_cases hw:ws=[]
 ·exact concat_meets ⟨_,ho,rfl⟩ ⟨_,ho2,rfl⟩ Rx seq_tuple_add M6 MY (MQ _ _)
   (tuple_addW1 t b vs.toArray ws.toArray n n2 dd dd2 sl sl2 (by simpa using hv) (by simp [hw])) ⟨ho,ho2,h1 hw⟩
 ·refine concat_meets ⟨_,ho,rfl⟩ ⟨_,ho2,rfl⟩ Rx seq_tuple_add M6 MY (MQ _ _)
   (tuple_addW2 t b vs.toArray ws.toArray n n2 dd dd2 sl sl2 (by simpa using hv) (by simpa using hw) (by rw [Ke,Ke];exact hsz)) ⟨ho,ho2,?_⟩
  rw [e];exact h2 hw
def sIx(n d:Nat):Option Int->Nat
 | none=>d
 | some v=>if v < 0 then(v+(n:Int)).toNat else min v.toNat n
theorem kx(n d:Nat):sIx n d none=d:=rfl
theorem sIx_nat(n d k:Nat):sIx n d (some (k:Int))=min k n:=by
 show(if (k:Int) < 0 then((k:Int)+(n:Int)).toNat else min (k:Int).toNat n)=min k n;rw [Qe Qc,Ml]
theorem sIx_le(n d:Nat)(hd:d<=n)(o:Option Int):sIx n d o<=n:=by
 cases o with
 | none=>exact hd
 | some v=>
  show(if v < 0 then(v+(n:Int)).toNat else min v.toNat n)<=n;by_cases hv:v < 0
  ·rw [Qf hv];omega
  ·rw [Qe hv];exact O8 _ _
theorem tJ(v:Int)(n d:Nat):(if v < 0 then max (v+(n:Int)) 0 else min v (n:Int))=((sIx n d (some v):Nat):Int):=by
 show(if v < 0 then max (v+(n:Int)) 0 else min v (n:Int))=(((if v < 0 then(v+(n:Int)).toNat else min v.toNat n):Nat):Int);by_cases hv:v < 0
 ·simp only [Qf hv];omega
 ·simp only [Qe hv];omega
theorem Cg(lo hi:Option Int)(n:Nat):LD lo hi 1 (n:Int)=(((sIx n 0 lo:Nat):Int),((sIx n n hi:Nat):Int)):=by
 have h1:¬((1:Int) < 0):=Qc
 unfold LD;simp only [h1,if_false];refine Prod.ext ?_ ?_
 ·cases lo with
  | none=>rfl
  | some v=>exact tJ v n 0
 ·cases hi with
  | none=>rfl
  | some v=>exact tJ v n n
theorem Ci(i j:Nat):Ll (i:Int) (j:Int) 1=j - i:=by
 unfold Ll;have h1:(1:Int) > 0:=Qc
 simp only [h1,if_true,ON];split <;> omega
theorem tK{v:Qj}{o:Option Int}{Q:Option Int->Ql->Prop}(p:IsPart v o)(h:Q o s):Qr (Qs prog w) A (Builtin.Slice.slicePartIndex v) Q E s:=by
 cases p with
 | none=>exact Rp h
 | int i t=>exact slicePart_int h
theorem sliceApplied_gen{sl:Qk}{vl vu:Qj}{lo hi:Option Int}{n:Nat}{Q:Int×Int×Nat->Ql->Prop}(hs:s.heap.IsSliceOf sl vl vu .none)(pl:IsPart vl lo)(pu:IsPart vu hi)
 (h:Q (((sIx n 0 lo:Nat):Int),1,sIx n n hi - sIx n 0 lo) s):Qr (Qs prog w) A (Mh (.ref sl) (pure (n:Int))) Q E s:=by
 obtain⟨os,hos,hcs,hds⟩:=id hs;unfold Mh NT;refine Qm (Qm (Rb hos hds (x:=vl) rfl (Qm (Rb hos hds (x:=vu) rfl (Qm (Rb hos hds (x:= .none) rfl (Qq ?_)))))));refine Qm (Rp ?_);show Qr _ _ (if ((1:Int)==0)=true then _ else _) _ _ s;rw [Qe Qb];refine Qm (tK pl (Qm (tK pu (Qm (Qq ?_)))));show Qr _ _ (match LD lo hi 1 (n:Int) with | (lo,hi)=>pure (lo,(1:Int),Ll lo hi 1)) _ _ s;rw [Cg lo hi n];show Qr _ _ (pure (((sIx n 0 lo:Nat):Int),(1:Int),Ll ((sIx n 0 lo:Nat):Int) ((sIx n n hi:Nat):Int) 1)) _ _ s;rw [Ci];exact Qq h
theorem Cj(xs:Array Qj)(i k:Nat):((KU k).filterMap λ(m:Nat)=>xs[((i:Int)+(m:Int)*1).toNat]?).toArray=((xs.toList.drop i).take k).toArray:=by
 have e:(λ(m:Nat)=>xs[((i:Int)+(m:Int)*1).toNat]?)=λm=>xs[i+m]?:=by
  funext m;have:((i:Int)+(m:Int)*1).toNat=i+m:=Qc
  rw [this]
 rw [e];have:=pick_run xs i k;rw [Nw] at this;have e2:((λx=>xs[x]?)∘ λx=>i+x)=λm=>xs[i+m]?:=rfl;rw [e2] at this;rw [this]
theorem getItem_tuple_cut{t sl:Qk}{items:Array Qj}{vl vu:Qj}{lo hi:Option Int}{Q:Qj->Ql->Prop}(ht:IsTup s.heap t items)(hs:s.heap.IsSliceOf sl vl vu .none)(pl:IsPart vl lo)(pu:IsPart vu hi)
 (hw:¬(sIx items.size 0 lo=0/\sIx items.size items.size hi=items.size))
 (h:Q (.ref s.heap.objs.size) {s with heap:=s.heap.push {cls:= .type "tuple",data:= .seq ((items.toList.drop (sIx items.size 0 lo)).take (sIx items.size items.size hi - sIx items.size 0 lo)).toArray}})
 (hsz:items.size<=Qp):Qr (Qs prog w) A (QX (.ref t) (.ref sl)) Q E s:=by
 have htake:sizeOk (.seq ((items.toList.drop (sIx items.size 0 lo)).take (sIx items.size items.size hi - sIx items.size 0 lo)).toArray):=by
  show((items.toList.drop (sIx items.size 0 lo)).take (sIx items.size items.size hi - sIx items.size 0 lo)).toArray.size<=Qp;rw [Ke,KW,LF,KZ];omega
 have hj:sIx items.size items.size hi<=items.size:=sIx_le _ _ (J8 _) hi;obtain⟨os,hos,hcs,hds⟩:=id hs;have hTs:s.TypeIs (.ref sl) "slice":=⟨os,hos,hcs⟩;unfold QX
 try with_reducible refine QH ?_
 first | refine Qm (Qq ?_) | skip
 refine Qm (Rv ht.typeIs Qb ?_);refine Qm (Ra (name:=J4 "__getitem__") ht.typeIs Lr
  (Q1 Lr ht.typeIs entry_tuple_getitem ?_ (args_tuple_getitem _ _)))
 show Qr _ _ (MH (.ref t) >>=_) _ _ s;refine Qm (tupleItemsOf_ ht ?_);refine Qm (Q6 hTs ?_);rw [Qf Qb];refine Qm (sliceApplied_gen hs pl pu ?_);have hno:¬((((sIx items.size 0 lo:Nat):Int)==0 && (1:Int)==1 && (sIx items.size items.size hi - sIx items.size 0 lo)==items.size)=true):=by
  intro q;rw [Ks,Ks] at q;have q1:((sIx items.size 0 lo:Nat):Int)=0:=eq_of_beq q.1.1;have q2:sIx items.size items.size hi - sIx items.size 0 lo=items.size:=eq_of_beq q.2;exact hw ⟨Qc,Qc⟩
 show Qr _ _ (if (((sIx items.size 0 lo:Nat):Int)==0 && (1:Int)==1 && (sIx items.size items.size hi - sIx items.size 0 lo)==items.size)=true then _ else _) _ _ s;rw [Qe hno,Cj]
 first
  | exact Qm (m:=Lo _) (QL (Qq ⟨_,rfl,Qq h⟩) htake)
  | exact Qm (m:=Lo _) (QL (Qm (Qq (Qq ⟨_,rfl,Qq h⟩))) htake)
  | exact Qm (Qm (m:=Lo _) (QL (Qq (Qq ⟨_,rfl,Qq h⟩)) htake))
  | exact Qm (Qm (m:=Lo _) (QL (Qq ⟨_,rfl,Qq h⟩) htake))
end
end HT
namespace L2
open PySem PySem.Spec PyProof.Rows
abbrev TO:=St->Hp->(Option Int->Hp->Prop)->Prop
def PO(X:Cx)(e:Option Qn)(t:TO):Prop:=
 ∀(RB:List (Qk×Obj))(s:Ql)(σ:St)(H:Hp)(Q:Option Int->Hp->Prop),af X RB σ H s->t σ H Q->
  Qr (Qs X.prog X.w) X.A (evalPart e X.env) (λu s'=>∃o H',af X RB σ H' s'/\IsPart u o/\Q o H') X.xe s
def Ck:TO:=λ_ H Q=>Q none H
def Cm(t:TE):TO:=λσ H Q=>t σ H λx H1=>∃i,x= .int i/\Q (some i) H1
theorem Cn{ns:List Int}:∀{us:List Qj},aD (ns.map V.int) us->IntsAre us ns:=by
 induction ns with
 | nil=>intro us r;rw [LA] at r;cases r;exact .nil
 | cons n ns ih=>
  intro us r;rw [Kb] at r;cases r with
  | cons r1 r2=>
   obtain⟨t,e⟩:=r1;subst e;exact .cons n t (ih r2)
section
variable {X:Cx} {e:Qn} {te:TE} {lo hi:Option Qn} {tl th:TO} {pos p2:Pos}
theorem Co:PO X none Ck:=by
 intro RB s σ H Q I h;rw [evalPart_none];exact Qq ⟨none,H,I,.none,h⟩
theorem Cp(h:PE X e te):PO X (some e) (Cm te):=by
 intro RB s σ H Q I hw;rw [evalPart_some];refine aA (h RB s σ H _ I hw) λu s1 ⟨x,H1,I1,r1,q1⟩=>?_;obtain⟨i,rfl,q⟩:=q1;obtain⟨t,rfl⟩:=r1;exact⟨some i,H1,I1,.int i t,q⟩
def kz(X:Cx)(r:V->Option Int->Option Int->Hp->VK->Prop):Prop:=
 ∀(RB:List (Qk×Obj))(s:Ql)(σ:St)(H:Hp)(x:V)(v vl vu:Qj)(lo hi:Option Int)(sl:Qk)(Q:VK),af X RB σ H s->aC x v->s.heap.IsSliceOf sl vl vu .none->IsPart vl lo->IsPart vu hi->r x lo hi H Q->
  ∃T id,typeLookup (.type T) "__getitem__"=pure (some (.builtin id))/\s.TypeIs v T/\Qr (Qs X.prog X.w) X.A (QX v (.ref sl)) (EP X RB σ Q) X.xe s
def Cq(r:V->Option Int->Option Int->Hp->VK->Prop)(te:TE)(tl th:TO):TE:=λσ H Q=>te σ H λx H1=>tl σ H1 λl H2=>th σ H2 λu H3=>r x l u H3 Q
theorem l3{r:V->Option Int->Option Int->Hp->VK->Prop}(hr:kz X r)(he:PE X e te)(hl:PO X lo tl)(hu:PO X hi th):PE X (.Subscript e (.Slice lo hi none p2) pos) (Cq r te tl th):=by
 intro RB s σ H Q I h;refine Subscript_ (aA (he RB s σ H _ I h) λv s1 ⟨x,H1,I1,r1,q1⟩=>?_);refine wpAny_Slice (aA (hl RB s1 σ H1 _ I1 q1) λvl s2 ⟨l,H2,I2,pl,q2⟩=>aA (hu RB s2 σ H2 _ I2 q2) λvu s3 ⟨u,H3,I3,pu,q3⟩=>?_);rw [evalPart_none];refine Qq ?_;have I4:af X RB σ H3 {s3 with heap:=s3.heap.push {cls:= .type "slice",data:= .fields #[vl,vu,.none]}}:=I3.kept (t':=s3.toks) λb ob q=>J9 _ q;obtain⟨T,id,hT,ht,hg⟩:=hr RB {s3 with heap:=s3.heap.push {cls:= .type "slice",data:= .fields #[vl,vu,.none]}} σ H3 x v vl vu l u s3.heap.objs.size Q I4 r1 (OO ..) pl pu q3;show Qr (Qs X.prog X.w) X.A (Rt e (.Slice lo hi none p2) v (.ref s3.heap.objs.size)) (EP X RB σ Q) X.xe {s3 with heap:=s3.heap.push {cls:= .type "slice",data:= .fields #[vl,vu,.none]}};exact tail_any (ops:=[.ref s3.heap.objs.size,v]) ht hT hg (by with_unfolding_all rfl)
def gJ(xs:List V)(lo hi:Option Int):List V:=(xs.drop (HT.sIx xs.length 0 lo)).take (HT.sIx xs.length xs.length hi - HT.sIx xs.length 0 lo)
theorem tL(xs:List V)(lo hi:Option Int):(gJ xs lo hi).length<=xs.length:=by
 unfold gJ;rw [KW,LF];omega
def Cr(K:J0):V->Option Int->Option Int->Hp->VK->Prop:=λx lo hi H Q=>∃a xs,x= .ref a/\bg K H a xs/\
 ¬(HT.sIx xs.length 0 lo=0/\HT.sIx xs.length xs.length hi=xs.length)/\∀p,H p=none->Q (.ref p) (aq H p (.tup (gJ xs lo hi)))
theorem Cs:kz X (Cr X.K):=by
 intro RB s σ H x v vl vu lo hi sl Q I rx hs pl pu h;obtain⟨a,xs,rfl,hx,hw,q⟩:=h;cases rx;obtain⟨its,r,ht,hz⟩:=I.tuple hx;have hlen:its.toArray.size=xs.length:=by rw [Ke];exact r.length.symm
 refine⟨"tuple",_,Lr.lookup,ht.typeIs,?_⟩;refine HT.getItem_tuple_cut ht hs pl pu (by rw [hlen];exact hw) ?_ (by rw [hlen];exact hz);rw [hlen];refine⟨.ref s.heap.objs.size,_,I.laid (t':=s.toks) (o:= .tup (gJ xs lo hi)) (λb ob q=>J9 _ q) (J8 _) ?_,rfl,q _ (I.hok.fresh (J8 _))⟩;exact⟨KI (tL xs lo hi) hz,_,(r.drop (HT.sIx xs.length 0 lo)).take (HT.sIx xs.length xs.length hi - HT.sIx xs.length 0 lo),Ob _ _⟩
def oP(K:J0):R2:=λx y H Q=>∃a b xs ys,x= .ref a/\y= .ref b/\bg K H a xs/\bg K H b ys/\xs≠[]/\xs.length+ys.length<=Qp/\
 (ys=[]->Q (.ref a) H)/\(ys≠[]->∀p,H p=none->Q (.ref p) (aq H p (.tup (xs++ys))))
theorem aD.nil_iff{xs:List V}{us:List Qj}(r:aD xs us):us=[]↔xs=[]:=by
 cases r with
 | nil=>simp
 | cons _ _=>simp
theorem Ct:bh X (QR .Add) (oP X.K):=by
 intro RB s σ H x y v u Q I rx ry h;obtain⟨a,b,xs,ys,rfl,rfl,ha,hb,hx,hz,q1,q2⟩:=h;cases rx;cases ry;obtain⟨its,r1,p1,_⟩:=I.tuple ha;obtain⟨its2,r2,p2,_⟩:=I.tuple hb;refine HT.cat_tup p1 p2 (λz=>hx (r1.nil_iff.mp z)) (λz=>⟨.ref a,H,I,rfl,q1 (r2.nil_iff.mp z)⟩) (λz=>?_) (by rw [<-r1.length,<-r2.length];exact hz);refine⟨.ref s.heap.objs.size,_,I.laid (t':=s.toks) (o:= .tup (xs++ys)) (λb ob q=>J9 _ q) (J8 _) ?_,rfl,q2 (λw=>z (r2.nil_iff.mpr w)) _ (I.hok.fresh (J8 _))⟩;exact⟨by rw [Kk];exact hz,_,r1.append r2,Ob _ _⟩
end
def gi(n:Nat)(i:Int):Option Nat:=if 0<=i then(if i < n then some i.toNat else none) else if -(n:Int)<=i then some (i+n).toNat else none
def atI{α:Type}(xs:List α)(i:Int):Option α:=(gi xs.length i).bind λj=>xs[j]?
theorem tM{n:Nat}{i:Int}{j:Nat}(h:gi n i=some j):seqIndex? i n=some j/\j < n/\-(n:Int)<=i/\i < n:=by
 unfold gi at h;by_cases h0:0<=i
 ·rw [Qf h0] at h;by_cases h1:i < n
  ·rw [Qf h1] at h;have e:i.toNat=j:=K4 h;exact⟨by rw [seqIndex_of h0 h1,e],Qc,Qc,h1⟩
  ·rw [Qe h1] at h;cases h
 ·rw [Qe h0] at h;by_cases h1:-(n:Int)<=i
  ·rw [Qf h1] at h;have e:(i+n).toNat=j:=K4 h;exact⟨by rw [seqIndex_neg Qc h1,e],Qc,h1,Qc⟩
  ·rw [Qe h1] at h;cases h
theorem oQ{α:Type}{xs:List α}{i:Int}{v:α}(h:atI xs i=some v):∃j,seqIndex? i xs.length=some j/\xs[j]?=some v/\j < xs.length/\-(xs.length:Int)<=i/\i < xs.length:=by
 unfold atI at h;cases e:gi xs.length i with
 | none=>rw [e] at h;cases h
 | some j=>
  rw [e] at h;obtain⟨h1,h2,h3,h4⟩:=tM e;exact⟨j,h1,h,h2,h3,h4⟩
theorem di{α:Type}{xs:List α}{j:Nat}{v:α}(h:xs[j]?=some v):atI xs (j:Int)=some v:=by
 have hj:j < xs.length:=(Kg.mp h).1;have e:gi xs.length (j:Int)=some j:=by
  unfold gi;rw [Qf Qc,Qf Qc];simp
 unfold atI;rw [e];exact h
theorem atI_last{α:Type}(xs:List α)(v:α):atI (xs++[v]) (-1)=some v:=by
 have hl:(xs++[v]).length=xs.length+1:=Qh
 have e:gi (xs++[v]).length (-1)=some xs.length:=by
  unfold gi;rw [hl,Qe Qb,Qf Qc];congr 1;omega
 unfold atI;rw [e];show(xs++[v])[xs.length]?=some v;simp
def Cu(b:Qn):Prop:=∀o i,Rc b false o i=operate [o,i] (QX o i)
def jo(X:Cx)(r:R2):Prop:=
 ∀(value slice:Qn)(RB:List (Qk×Obj))(s:Ql)(σ:St)(H:Hp)(x y:V)(v u:Qj)(Q:VK),af X RB σ H s->aC x v->aC y u->r x y H Q->
  Rc slice false v u=operate [v,u] (QX v u)->Qr (Qs X.prog X.w) X.A (Rt value slice v u) (EP X RB σ Q) X.xe s
def oR(X:Cx)(id:String)(r:V->List V->Hp->VK->Prop):Prop:=
 ∀(RB:List (Qk×Obj))(s:Ql)(σ:St)(H:Hp)(x:V)(xs:List V)(v:Qj)(us:List Qj)(Q:VK),af X RB σ H s->aC x v->aD xs us->r x xs H Q->
  Qr (Qs X.prog X.w) X.A (call (.builtin id) (v::us)) (EP X RB σ Q) X.xe s
section
variable {X:Cx} {a b:Qn} {ta tb:TE} {pos:Pos}
theorem iN{r:R2}(hr:jo X r)(ha:PE X a ta)(hb:PE X b tb)(hs:Cu b):PE X (.Subscript a b pos) (jm r ta tb):=by
 intro RB s σ H Q I h;exact Subscript_ (oG ha hb I h λv u s2 x y H2 I2 rx ry q=>hr a b RB s2 σ H2 x y v u Q I2 rx ry q (hs _ _))
def l4(K:J0):R2:=λx y H Q=>∃p xs i v,x= .ref p/\y= .int i/\aX K H p xs/\atI xs i=some v/\Q v H
def tN(K:J0):R2:=λx y H Q=>∃p xs i v,x= .ref p/\y= .int i/\bg K H p xs/\atI xs i=some v/\Q v H
def tO:R2:=λx y H Q=>∃z i c,x= .str z/\y= .int i/\z.length<=Qp/\atI z.cps.toList i=some c/\Q (.str ⟨#[c]⟩) H
theorem bC:jo X (l4 X.K):=by
 intro value slice RB s σ H x y v u Q I rx ry h hs;obtain⟨p,xs,i,z,rfl,rfl,hq,he,q⟩:=h;cases rx;obtain⟨t,rfl⟩:=ry;obtain⟨its,r,pl,hz⟩:=I.list hq;obtain⟨j,h1,h2,h3,h4,h5⟩:=oQ he;obtain⟨w,ew,rw'⟩:=r.get h2;have hl:=r.length;have hn:=jn;have fin:EP X RB σ Q w s:=⟨z,H,I,rw',q⟩;by_cases h0:0<=i
 ·have hj:i.toNat=j:=by
   rw [seqIndex_of h0 h5] at h1;exact K4 h1
  exact item_listR pl.isList h0 Qc (by rw [hj];simpa using ew) fin hs
 ·have hj:(i+(its.toArray.size:Int)).toNat=j:=by
   rw [seqIndex_neg Qc h4] at h1;rw [Ke,<-hl];exact K4 h1
  exact subscriptTail_builtinR (x:=w) pl.isList.typeIs slot_list_getitem.lookup
   (wpAny_getItem_list_neg (Q:=λr s'=>r=w/\EP X RB σ Q r s') pl.isList Qc (by rw [Ke] <;> omega) Qc (by rw [hj];simpa using ew) ⟨rfl,fin⟩) hs
theorem av:jo X (tN X.K):=by
 intro value slice RB s σ H x y v u Q I rx ry h hs;obtain⟨p,xs,i,z,rfl,rfl,hq,he,q⟩:=h;cases rx;obtain⟨t,rfl⟩:=ry;obtain⟨its,r,pl,hz⟩:=I.tuple hq;obtain⟨j,h1,h2,h3,h4,h5⟩:=oQ he;obtain⟨w,ew,rw'⟩:=r.get h2;have hl:=r.length;have hn:=jn;have fin:EP X RB σ Q w s:=⟨z,H,I,rw',q⟩;exact subscriptTail_builtinR (x:=w) pl.typeIs slot_tuple_getitem.lookup
  (getItem_tuple (j:=j) (Q:=λr s'=>r=w/\EP X RB σ Q r s') pl Qc Qc (by rw [Ke,<-hl];exact h1) (by simpa using ew) ⟨rfl,fin⟩) hs
theorem tP:jo X tO:=by
 intro value slice RB s σ H x y v u Q I rx ry h hs;obtain⟨z,i,c,rfl,rfl,hz,he,q⟩:=h;obtain⟨t,rfl⟩:=rx;obtain⟨t',rfl⟩:=ry;obtain⟨j,h1,h2,h3,h4,h5⟩:=oQ he;have hl:z.cps.toList.length=z.length:=by simp [Str.length]
 rw [hl] at h1 h4 h5;have hn:=jn;exact tail_any (Q9 s z t) slot_str_getitem.lookup (getItem_str (c:=c) (by
  have e1:decide (i < -(2 ^ 63:Int))=false:=decide_eq_false Qc;have e2:decide (i >= 2 ^ 63)=false:=decide_eq_false Qc;rw [e1,e2,NC]) (by rw [h1];simpa using h2) ⟨.str ⟨#[c]⟩,H,I.tok _,⟨_,rfl⟩,q⟩) hs
theorem Cv(its:List Qj)(n j:Nat)(u:Qj):Ld (·.setIfInBounds j u) {cls:= .type "list",data:= .seq its.toArray n}={cls:= .type "list",data:= .seq (its.set j u).toArray n}:=by
 simp [Ld]
theorem af.lst{RB:List (Qk×Obj)}{σ:St}{H:Hp}{s:Ql}{p:Qk}{xs:List V}(I:af X RB σ H s)(h:H p=some (.lst xs)):
 ∃(its:List Qj)(n:Nat),aD xs its/\s.heap.get? p=some {cls:= .type "list",data:= .seq its.toArray n}/\xs.length<=Qp:=by
 obtain⟨z,its,n,r,e⟩:=I.hok p _ h;exact⟨its,n,r,e,z⟩
theorem af.lstUpd{RB:List (Qk×Obj)}{σ:St}{H:Hp}{s:Ql}{p:Qk}{xs ys:List V}{its its':List Qj}{n n':Nat}{f:Obj->Obj}(I:af X RB σ H s)(h:H p=some (.lst xs))
 (ho:s.heap.get? p=some {cls:= .type "list",data:= .seq its.toArray n})(hf:f {cls:= .type "list",data:= .seq its.toArray n}={cls:= .type "list",data:= .seq its'.toArray n'})(r:aD ys its')(hz:ys.length<=Qp)(t:Nat):
 af X RB σ (aq H p (.lst ys)) {s with heap:=s.heap.update p f,toks:=t}:=by
 have e:(s.heap.update p f).get? p=some {cls:= .type "list",data:= .seq its'.toArray n'}:=by
  rw [Heap.get?_update_self f ho (by rw [hf] <;> rfl),hf]
 refine I.write (x:=p) (e:=p) (by rw [h];trivial) (.inl rfl) (λb u hb q=>(Oh _ _ (Ne.symm hb)).trans q) ⟨_,e⟩ ?_;exact⟨hz,its',n',r,e⟩
def Cw:V->V->V->Hp->(Hp->Prop)->Prop:=λo i v H Q=>∃p xs k j,o= .ref p/\i= .int k/\H p=some (.lst xs)/\gi xs.length k=some j/\Q (aq H p (.lst (xs.set j v)))
theorem oT:sN X Cw:=by
 intro RB s σ H o i v ov iv u Q I ro ri rv h;obtain⟨p,xs,k,j,rfl,rfl,hp,hj,q⟩:=h;cases ro;obtain⟨t,rfl⟩:=ri;obtain⟨its,n,r,ho,hz⟩:=I.lst hp;obtain⟨h1,h2,h3,h4⟩:=tM hj;have hl:=r.length;have hn:=jn;have I':af X RB σ (aq H p (.lst (xs.set j v))) {s with heap:=s.heap.update p (Ld (·.setIfInBounds j u))}:=
  I.lstUpd hp ho (Cv its n j u) (r.set rv j) (by rw [List.length_set];exact hz) s.toks
 by_cases h0:0<=k
 ·have hk:k.toNat=j:=by
   rw [seqIndex_of h0 h4] at h1;exact K4 h1
  exact PySem.W.ki_setAt ho h0 Qc (by rw [Ke,<-hl];exact h4) (by rw [hk];exact⟨_,I',q⟩)
 ·have hk:(k+(its.toArray.size:Int)).toNat=j:=by
   rw [seqIndex_neg Qc h3] at h1;rw [Ke,<-hl];exact K4 h1
  exact PySem.W.ki_setBack ho Qc (by rw [Ke,<-hl];exact h3) Qc (by rw [hk];exact⟨_,I',q⟩)
theorem Cy(lo hi:Option Int)(n:Nat):(Q3 lo hi none n).1=((HT.sIx n 0 lo:Nat):Int)/\(Q3 lo hi none n).2.1=((HT.sIx n n hi:Nat):Int)/\(Q3 lo hi none n).2.2=1:=by
 refine⟨?_,?_,rfl⟩
 ·cases lo with
  | none=>simp [Q3,HT.sIx]
  | some i=>
   simp only [Q3,HT.sIx,O9,show(1:Int) > 0 by decide,if_true];by_cases h:i < 0
   ·simp only [h,if_true] <;> omega
   ·simp only [h,if_false] <;> omega
 ·cases hi with
  | none=>simp [Q3,HT.sIx]
  | some i=>
   simp only [Q3,HT.sIx,O9,show(1:Int) > 0 by decide,if_true];by_cases h:i < 0
   ·simp only [h,if_true] <;> omega
   ·simp only [h,if_false] <;> omega
theorem Cz(its:List Qj)(lo hi:Option Int):slicePick its.toArray lo hi none=((its.drop (HT.sIx its.length 0 lo)).take (HT.sIx its.length its.length hi - HT.sIx its.length 0 lo)).toArray:=by
 obtain⟨h1,h2,h3⟩:=Cy lo hi its.toArray.size;unfold slicePick;rw [h1,h2,h3];simp only [sliceRange_one,pick_run,Ke] <;> rfl
def CA(K:J0):V->Option Int->Option Int->Hp->VK->Prop:=λx lo hi H Q=>∃a xs,x= .ref a/\aX K H a xs/\∀p,H p=none->Q (.ref p) (aq H p (.lst (gJ xs lo hi)))
theorem tQ:kz X (CA X.K):=by
 intro RB s σ H x v vl vu lo hi sl Q I rx hs pl pu h;obtain⟨a,xs,rfl,hx,q⟩:=h;cases rx;obtain⟨its,r,ht,hz⟩:=I.list hx;have hlen:=r.length;refine⟨"list",_,slot_list_getitem.lookup,ht.isList.typeIs,?_⟩;refine wpAny_getItem_list_slice ht.isList hs pl pu .none Qh ?_ (by rw [Ke] <;> omega);rw [Cz,<-hlen];refine⟨.ref s.heap.objs.size,_,I.laid (t':=s.toks) (o:= .lst (gJ xs lo hi)) (λb ob q=>J9 _ q) (J8 _) ?_,rfl,q _ (I.hok.fresh (J8 _))⟩;exact⟨KI (tL xs lo hi) hz,_,0,(r.drop (HT.sIx xs.length 0 lo)).take (HT.sIx xs.length xs.length hi - HT.sIx xs.length 0 lo),KN _ rfl⟩
theorem bH:cT X (.builtin "len") (λxs H Q=>∃p ys,xs=[.ref p]/\(aX X.K H p ys\/bg X.K H p ys)/\Q (.int ys.length) H):=by
 intro RB s σ H xs us Q I r h;obtain⟨p,ys,rfl,hq,q⟩:=h;obtain⟨u,rfl,rx⟩:=cW r;cases rx;have hn:=jn;rcases hq with hq | hq
 ·obtain⟨its,r',pl,hz⟩:=I.list hq;have hlen:=r'.length;exact Calls.call_len_list pl.isList (by simp only [Ke] <;> omega) ⟨.int ys.length,H,I.tok _,⟨s.toks+1,by rw [Ke,hlen]⟩,q⟩
 ·obtain⟨its,r',pl,hz⟩:=I.tuple hq;have hlen:=r'.length;exact len_tuple pl (by simp only [Ke] <;> omega) ⟨.int ys.length,H,I.tok _,⟨s.toks+1,by rw [Ke,hlen]⟩,q⟩
theorem tR:cT X (.builtin "len") (λxs H Q=>∃z,xs=[.str z]/\z.length<=Qp/\Q (.int z.length) H):=by
 intro RB s σ H xs us Q I r h;obtain⟨z,rfl,hz,q⟩:=h;obtain⟨u,rfl,t,rfl⟩:=cW r;have hn:=jn;exact len_str Qc ⟨.int z.length,H,I.tok _,⟨_,rfl⟩,q⟩
theorem CB:cT X (.type "list") (λxs H Q=>∃p ys,xs=[.ref p]/\(aX X.K H p ys\/bg X.K H p ys)/\∀l,H l=none->Q (.ref l) (aq H l (.lst ys))):=by
 intro RB s σ H xs us Q I r h;obtain⟨p,ys,rfl,hq,q⟩:=h;obtain⟨u,rfl,rx⟩:=cW r;cases rx;have fin:∀(its:List Qj),aD ys its->ys.length<=Qp->∀(h':Qy)(c':Nat),(∀b o',s.heap.get? b=some o'->h'.get? b=some o')->
  h'.get? s.heap.objs.size=some {cls:= .type "list",dict:=none,data:= .seq its.toArray c',slots:=#[]}->EP X RB σ Q (.ref s.heap.objs.size) {s with heap:=h'}:=λits r' hz h' c' kp e=>
  ⟨.ref s.heap.objs.size,_,I.laid (t':=s.toks) kp (J8 _) (show bN X.prog X.w _ h' _ (.lst ys) from⟨hz,its,c',r',e⟩),rfl,q _ (I.hok.fresh (J8 _))⟩
 rcases hq with hq | hq
 ·obtain⟨its,r',pl,hz⟩:=I.list hq;have hlen:=r'.length;obtain⟨o,ho,hc,n,hd⟩:=pl.isList;exact call_list_seq p (.inl rfl) ho hc hd (λh' c' kp e=>fin its r' hz h' c' kp e) (by simp only [Ke] <;> omega)
 ·obtain⟨its,r',pl,hz⟩:=I.tuple hq;have hlen:=r'.length;obtain⟨o,ho,hc,n,hd⟩:=pl;exact call_list_seq p (.inr rfl) ho hc hd (λh' c' kp e=>fin its r' hz h' c' kp e) (by simp only [Ke] <;> omega)
theorem jq:cT X (.type "tuple") (λxs H Q=>∃p ys,xs=[.ref p]/\((aX X.K H p ys/\∀l,H l=none->Q (.ref l) (aq H l (.tup ys)))\/(bg X.K H p ys/\Q (.ref p) H))):=by
 intro RB s σ H xs us Q I r h;obtain⟨p,ys,rfl,h⟩:=h;obtain⟨u,rfl,rx⟩:=cW r;cases rx;rcases h with⟨hq,q⟩ | ⟨hq,q⟩
 ·obtain⟨its,r',pl,hz⟩:=I.list hq;have hlen:=r'.length;refine call_tuple_list pl.isList (λh' kp=>?_) (by simp only [Ke] <;> omega);have I1:af X RB σ H {s with heap:=h'}:=I.kept (t':=s.toks) kp;have I2:af X RB σ (aq H h'.objs.size (.tup ys)) {s with heap:=h'.push {cls:= .type "tuple",data:= .seq its.toArray}}:=
   I1.laid (t':=s.toks) (λb o e=>J9 _ e) (J8 _) (show bN X.prog X.w _ _ _ (.tup ys) from⟨hz,its,r',Ob _ _⟩)
  exact⟨.ref h'.objs.size,_,I2,rfl,q _ (I1.hok.fresh (J8 _))⟩
 ·obtain⟨its,r',pl,hz⟩:=I.tuple hq;exact call_tuple_same pl ⟨.ref p,H,I,rfl,q⟩
def oU(K:J0)(T:String)(x:V)(H:Hp):Prop:=match x with
 | .str _=>T="str"
 | .int _=>T="int"
 | .ref p=>(T="list"/\∃xs,aX K H p xs)\/(T="tuple"/\∃o,K.lookup p=some o/\o.cls= .type "tuple"/\o.dict=none)\/
  (T="dict"/\((∃kvs,H p=some (.dK kvs))\/∃kvs,H p=some (.dT kvs)))\/(T="set"/\∃S n,H p=some (.set S n))
 | _=>False
theorem tS{RB:List (Qk×Obj)}{σ:St}{H:Hp}{s:Ql}{T:String}{x:V}{v:Qj}(I:af X RB σ H s)(r:aC x v)(ty:oU X.K T x H):
 s.TypeIs v T/\∀a,v= .ref a->∃ob,s.heap.get? a=some ob/\ob.dict=none:=by
 cases x with
 | str z=>
  obtain⟨t,rfl⟩:=r;cases (show T="str" from ty);exact⟨Q9 s z t,λ_ e=>nomatch e⟩
 | int i=>
  obtain⟨t,rfl⟩:=r;cases (show T="int" from ty);exact⟨typeIs_int s i t,λ_ e=>nomatch e⟩
 | ref p=>
  cases r;rcases ty with⟨rfl,xs,hq⟩ | ⟨rfl,o,hk,hc,hd⟩ | ⟨rfl,hk⟩ | ⟨rfl,S,n,hk⟩
  ·obtain⟨its,_,pl,_⟩:=I.list hq;refine⟨pl.isList.typeIs,λa e=>?_⟩;cases e;obtain⟨o,n,e,c,hd,_⟩:=pl;exact⟨o,e,hd⟩
  ·refine⟨⟨o,I.kIn p o hk,hc⟩,λa e=>?_⟩;cases e;exact⟨o,I.kIn _ o hk,hd⟩
  ·have z:∃o,s.heap.get? p=some o/\o.ExactDict:=by
    rcases hk with⟨kvs,hk⟩ | ⟨kvs,hk⟩
    ·obtain⟨_,_,_,_,o,_,_,e,ex,_⟩:=I.hok p _ hk;exact⟨o,e,ex⟩
    ·obtain⟨_,_,_,_,o,_,_,e,ex,_⟩:=I.hok p _ hk;exact⟨o,e,ex⟩
   obtain⟨o,e,ex⟩:=z;refine⟨⟨o,e,ex.1⟩,λa e2=>?_⟩;cases e2;exact⟨o,e,ex.2.1⟩
  ·obtain⟨o,_,_,_,e,ex,_⟩:=I.hok p _ hk;refine⟨⟨o,e,ex.1⟩,λa e2=>?_⟩;cases e2;exact⟨o,e,ex.2.1⟩
 | _=>exact LL ty
def CC(K:J0)(T:String)(r:V->List V->Hp->VK->Prop)(to:TE):TE:=λσ H Q=>to σ H λx H1=>oU K T x H1/\r x [] H1 Q
def CD(K:J0)(T:String)(r:V->List V->Hp->VK->Prop)(to:TE)(t:TA):TE:=λσ H Q=>to σ H λx H1=>oU K T x H1/\t σ H1 λxs H2=>r x xs H2 Q
variable {o e:Qn} {es:List Qn} {to:TE} {t:TA} {name:Str} {apos cpos:Pos} {T id:String} {r:V->List V->Hp->VK->Prop}
theorem CF(pa:PlainAttrs T)(slot:Slot T name id)(hty:typeOf (.builtin id)=pure (.type "method_descriptor"))(hm:oR X id r)(ho:PE X o to)
 (hbase:QV o name X.env (eval o X.env)=eval o X.env:=by rfl)(hline:(apos.endLine==cpos.line)=true:=by rfl):PE X (.Call (.Attribute o name apos) [] [] cpos) (CC X.K T r to):=by
 intro RB s σ H Q I h;refine wpAny_Call_method0_late hbase hline (aA (ho RB s σ H _ I h) λv s1 ⟨x,H1,I1,r1,ty,q1⟩=>?_);obtain⟨h1,h2⟩:=tS I1 r1 ty;exact⟨T,id,pa,slot,hty,h1,h2,Mz rfl (PySem.evalArgs_none (hm RB s1 σ H1 x [] v [] Q I1 r1 .nil q1))⟩
theorem oV(pa:PlainAttrs T)(slot:Slot T name id)(hty:typeOf (.builtin id)=pure (.type "method_descriptor"))(hm:oR X id r)(ho:PE X o to)(ha:PA X (e::es) t)
 (hbase:QV o name X.env (eval o X.env)=eval o X.env:=by rfl)
 (hfew:((QJ cpos (Qo (e::es) X.env)).all (λx=>!x.1) && (backToKw cpos (Rf [] X.env)).all (λx=>x.1.isSome)
   && decide ((e::es).length+([]:List QY).length+(if ([]:List QY).isEmpty then 0 else 1) < 30))=true:=by rfl)
 (hline:(apos.endLine==cpos.line)=true:=by rfl)(hs:Qo (e::es) X.env=(false,eval e X.env)::Qo es X.env:=by rfl)(hplain:(QJ cpos (Qo es X.env)).any (·.1)=false:=by rfl):
 PE X (.Call (.Attribute o name apos) (e::es) [] cpos) (CD X.K T r to t):=by
 intro RB s σ H Q I h;refine wpAny_Call_method_late hbase hfew hline rfl (aA (ho RB s σ H _ I h) λv s1 ⟨x,H1,I1,r1,ty,q1⟩=>?_);obtain⟨h1,h2⟩:=tS I1 r1 ty;refine⟨T,id,pa,slot,hty,h1,h2,?_⟩;have hA:=ha cpos RB s1 σ H1 _ I1 q1;rw [hs] at hA⊢;refine Mz (by show(false || (QJ cpos (Qo es X.env)).any (·.1))=false;rw [hplain] <;> rfl) (Nk ?_);exact aA hA λus s2 uu61=>by obtain⟨vs,H2,I2,r2,q2⟩:=uu61;exact hm RB s2 σ H2 x vs v us Q I2 r1 r2 q2
end
def oW(X:Cx)(id:String)(r:V->List V->Hp->VK->Prop):Prop:=
 ∀(RB:List (Qk×Obj))(s:Ql)(σ:St)(H:Hp)(x:V)(xs:List V)(v:Qj)(us:List Qj)(Q:VK),af X RB σ H s->aC x v->aD xs us->r x xs H Q->
  Qr (Qs X.prog X.w) X.A (call (.builtin id) (v::us)) (EP X RB σ Q) X.xe s
theorem aD.one:∀{x:V}{us:List Qj},aD [x] us->∃u,us=[u]/\aC x u
 | _,_,.cons r .nil=>⟨_,rfl,r⟩
theorem aD.zero:∀{us:List Qj},aD [] us->us=[]
 | _,.nil=>rfl
theorem aD.dropLast{xs:List V}{us:List Qj}(h:aD xs us):aD xs.dropLast us.dropLast:=by
 induction h with
 | nil=>exact .nil
 | cons r t ih=>
  cases t with
  | nil=>exact .nil
  | cons q t'=>exact .cons r ih
theorem aD.rep{xs:List V}{us:List Qj}(h:aD xs us):∀k:Nat,aD (Kp k xs).flatten (Kp k us).flatten
 | 0=>.nil
 | k+1=>by
  rw [LK,LK,Mm,Mm];exact aD.append h (aD.rep h k)
theorem CG{α:Type}(l:List α):l.eraseIdx (l.length - 1)=l.dropLast:=by
 induction l with
 | nil=>rfl
 | cons a r ih=>
  cases r with
  | nil=>rfl
  | cons b r=>
   have e:(a::b::r).length - 1=((b::r).length - 1)+1:=by
    have h1:(a::b::r).length=r.length+2:=rfl;have h2:(b::r).length=r.length+1:=rfl;omega
   rw [e,List.eraseIdx_cons_succ,ih]
   all_goals rfl
theorem tT(its:List Qj):∀(k:Nat)(acc:List Qj),
 MF (λx1 x2=>x1++x2) acc.toArray (Kp k its.toArray)=(acc++(Kp k its).flatten).toArray
 | 0,acc=>by simp
 | k+1,acc=>by
  have e:acc.toArray++its.toArray=(acc++its).toArray:=Qh
  have e2:(acc++its)++(Kp k its).flatten=acc++(Kp (k+1) its).flatten:=by
   rw [LK,Mm,NJ]
  rw [<-e2,<-tT its k (acc++its),<-e,LK,Md]
section
variable {X:Cx} {RB:List (Qk×Obj)} {σ:St} {H:Hp} {s:Ql} {l b:Qk} {xs ys zs:List V}
theorem af.lset{its its':List Qj}{n:Nat}{f:Array Qj->Array Qj}{t':Nat}(I:af X RB σ H s)(hH:H l=some (.lst xs))
 (e:s.heap.get? l=some {cls:= .type "list",data:= .seq its.toArray n})(hf:f its.toArray=its'.toArray)(hv:aD ys its')(hz:ys.length<=Qp):
 af X RB σ (aq H l (.lst ys)) {s with heap:=s.heap.update l (Ld f),toks:=t'}:=by
 have q:=PySem.IsL.update e f;rw [hf] at q;refine I.write (x:=l) (e:=l) (by rw [hH];exact trivial) (.inl rfl) (λb' u hb hu=>(Oh s.heap (Ld f) (Ne.symm hb)).trans hu) ⟨_,q⟩ ?_;exact⟨hz,its',_,hv,q⟩
theorem af.lnew{its:List Qj}{t':Nat}(I:af X RB σ H s)(hv:aD ys its)(hz:ys.length<=Qp):
 af X RB σ (aq H s.heap.objs.size (.lst ys)) {s with heap:=s.heap.push {cls:= .type "list",data:= .seq its.toArray},toks:=t'}:=
 I.laid (λ_ _ q=>J9 _ q) (J8 _) ⟨hz,its,0,hv,KN _ rfl⟩
theorem af.fresh(I:af X RB σ H s):H s.heap.objs.size=none:=I.hok.fresh (J8 _)
theorem af.lstM(I:af X RB σ H s)(hH:H l=some (.lst xs)):xs.length<=Qp/\∃(its:List Qj)(n:Nat),aD xs its/\xs.length=its.length/\s.heap.get? l=some {cls:= .type "list",data:= .seq its.toArray n}:=by
 obtain⟨z,its,n,r,e⟩:=I.hok l _ hH;exact⟨z,its,n,r,r.length,e⟩
theorem CH{n:Nat}(h:n<=Qp):MR n=false:=by
 unfold MR;exact decide_eq_false Qc
end
section
variable {X:Cx}
def CI:V->List V->Hp->VK->Prop:=λx vs H Q=>∃l xs y,x= .ref l/\vs=[y]/\H l=some (.lst xs)/\xs.length < Qp/\Q .non (aq H l (.lst (xs++[y])))
theorem tU:oW X "list.append" CI:=by
 intro RB s σ H x vs v us Q I rx rv h;obtain⟨l,xs,y,rfl,rfl,hH,hz,q⟩:=h;cases rx;obtain⟨u,rfl,ru⟩:=rv.one;obtain⟨z,its,n,r,hl,e⟩:=I.lstM hH;refine QW F.slot_list_append ⟨_,e,rfl⟩ F.entry_list_append (F.args_list_append_2 _ _) (PySem.list_append l its.toArray n u (by rw [Ke];omega)) ⟨e,?_⟩;refine⟨.non,_,I.lset (its':=its++[u]) hH e Qh (r.append (.cons ru .nil)) ?_,rfl,q⟩;rw [Kk,K2];omega
def CJ:V->List V->Hp->VK->Prop:=λx vs H Q=>∃l xs y,x= .ref l/\vs=[]/\H l=some (.lst xs)/\xs[xs.length - 1]?=some y/\Q y (aq H l (.lst xs.dropLast))
theorem CK:oW X "list.pop" CJ:=by
 intro RB s σ H x vs v us Q I rx rv h;obtain⟨l,xs,y,rfl,rfl,hH,hy,q⟩:=h;cases rx;have hus:=rv.zero;subst hus;obtain⟨z,its,n,r,hl,e⟩:=I.lstM hH;obtain⟨u,hu,ru⟩:=r.get hy;have hy':its.toArray[its.toArray.size - 1]?=some u:=by
  show its.toArray[its.length - 1]?=some u;rw [<-Ol,<-hl];exact hu
 refine QW F.slot_list_pop ⟨_,e,rfl⟩ F.entry_list_pop (F.args_list_pop_1 _) (MeetsSeq.list_pop_last l its.toArray n u hy' (by rw [Ke];omega)) ⟨e,?_⟩;refine⟨y,_,I.lset (its':=its.dropLast) hH e ?_ r.dropLast ?_,ru,q⟩
 ·show its.toArray.eraseIdxIfInBounds (its.toArray.size - 1)=its.dropLast.toArray;rw [Ke,List.eraseIdxIfInBounds_toArray,CG]
 ·rw [List.length_dropLast];omega
def CL:R2:=λx y H Q=>∃l k xs,x= .ref l/\y= .int k/\H l=some (.lst xs)/\-(2 ^ 63)<=k/\k < 2 ^ 63/\xs.length*k.toNat<=Qp/\
 ∀p,H p=none->Q (.ref p) (aq H p (.lst (Kp k.toNat xs).flatten))
theorem CM{α:Type}(xs:List α)(k:Nat):(Kp k xs).flatten.length=k*xs.length:=by
 induction k with
 | zero=>simp
 | succ k ih=>rw [LK,Mm,Kk,ih,Nat.succ_mul,Nat.add_comm]
theorem CN:bh X (QR .Mult) CL:=by
 intro RB s σ H x y v u Q I rx ry h;obtain⟨l,k,xs,rfl,rfl,hH,h1,h2,hz,q⟩:=h;cases rx;obtain⟨t,rfl⟩:=ry;obtain⟨z,its,n,r,hl,e⟩:=I.lstM hH;have hlen:its.toArray.size*k.toNat<=Qp:=by rw [Ke,<-hl];exact hz
 have hcap:¬its.toArray.size*k.toNat > (2 ^ 63 - 1)/ 8:=by
  have:(Qp:Nat)<=(2 ^ 63 - 1)/ 8:=Qb
  omega
 have hfit:¬(!Mi k)=true:=by
  rw [fitsIndex_both h1 h2];exact K5
 have hlong:¬MR (its.toArray.size*k.toNat)=true:=by
  rw [CH hlen];exact K5
 have hnew:MF (λx1 x2=>x1++x2) #[] (Kp (if its.toArray.isEmpty=true then 0 else k.toNat) its.toArray)=(Kp k.toNat its).flatten.toArray:=by
  have f0:∀m:Nat,MF (λx1 x2=>x1++x2) #[] (Kp m its.toArray)=(Kp m its).flatten.toArray:=λm=>by
   have:=tT its m [];rw [LX] at this;exact this
  rw [f0];cases its with
  | nil=>simp
  | cons a r'=>rw [Qe Qh]
 refine wpAny_binaryOp_repeat_ref (T:="list") (U:="int") Qb ⟨_,e,rfl⟩ (λs'=>typeIs_int s' k t) noFill_list_mul F.fills_int_mul F.slot_int_rmul repeat_list F.slot_int_index.lookup
  (QW F.slot_int_rmul (typeIs_int s k t) F.entry_int_rmul (F.args_int_rmul_2 _ _) (int___rmul___int_list k t l its.toArray n)
    ⟨e,rfl,⟨_,e,rfl⟩,QW F.slot_list_mul ⟨_,e,rfl⟩ F.entry_list_mul (F.args_list_mul_2 _ _) (AutoListH.list___mul___list_int_3 l its.toArray n k t hfit hcap hlong) ⟨e,?_⟩⟩)
 rw [hnew];exact⟨.ref _,_,I.lnew (t':=s.toks) (r.rep k.toNat) (by rw [CM,Nat.mul_comm];exact hz),rfl,q _ I.fresh⟩
end
end L2
namespace Att
open PySem PySem.W PySem.Calls PyProof.Rows
theorem CO{P:Params}{h:Qy}:∀(ns:List Int)(vs:List Qj),WellAll P h vs (ns.map Mx)->IntsAre vs ns:=by
 intro ns
 induction ns with
 | nil=>
  intro vs w;rw [LA] at w;cases w;exact .nil
 | cons n ns ih=>
  intro vs w;rw [Kb] at w;cases w with
  | cons a b=>
   cases a;exact .cons _ _ (ih _ b)
theorem CP{l:OpenLaw}{n:Nat}(hn:l.most=some n){P:Params}{h:Qy}{args:List WData}{vals:List Qj}
 (hpre:l.row.toRowW.claim.pre args=true)(hwl:WellAll P h vals args):
 ∃a vs ns,vals=[KL a]/\args=[NU (ns.map Mx)]/\h.get? a=some {cls:= .type "list",data:= .seq vs.toArray}/\IntsAre vs ns/\ns.length<=n:=by
 have hsh:WShape.hasAll [] args [.list .int]=true:=(pre_splitW hpre).1;have hc:l.pre.holds [] {args:=args}=true:=(pre_splitW hpre).2;obtain⟨d,r,rfl,h1,h2⟩:=hasAllW_cons hsh;obtain rfl:=hasAllW_nil h2;obtain⟨xs,rfl,h3⟩:=hasW_list h1;obtain⟨ns,rfl⟩:=items_int h3;have hlen:ns.length<=n:=by
  unfold OpenLaw.pre at hc;have h4:(WTm.not (.lt (.lit (.int (n:Int))) (.len (.arg 0)))).holds [] {args:=[.list (ns.map .int)]}=true:=by
   have h4:=(holds_andW hc).1;rw [hn] at h4;exact h4
  have h5:=condW_of h4 (w_not (w_lt w_lit (w_len_list (w_arg rfl))));rw [J1] at h5;refine NZ λq=>?_;have q':(n:Int) < ((ns.length:Nat):Int):=Qc
  first
   | (rw [decide_eq_true q'] at h5;exact absurd h5 Qb)
   | (simp at h5;omega)
 cases hwl with
 | cons w1 w2=>
  cases w2;cases w1 with
  | list ho hall=>exact⟨_,_,ns,rfl,rfl,ho,CO ns _ hall,hlen⟩
theorem CQ(l:OpenLaw)(args:List WData):l.row.toRowW.claim.post args (.bool true) args=true:=
 postW_of (r:=l.row.toRowW) (X:=(true==true))
  (show WShape.has [] (.bool true) .bool=true by first | rfl | decide | simp [WShape.has,WShape.arms,WShape.armsAll])
  (show(WTm.eq .res (.lit (.bool true))).value [] {args:=args,res:=some (.bool true),after:=args}=some (.bool (true==true)) from w_eq_bool (w_res rfl) w_lit) rfl
end Att
namespace L2
open PySem PySem.Spec PyProof.Rows
theorem tV:∀{vs:List Qj}{ns:List Int},IntsAre vs ns->aD (ns.map V.int) vs
 | _,_,.nil=>.nil
 | _,_,.cons n t h=>.cons ⟨t,rfl⟩ (tV h)
def l5(H:Hp):Prop:=∀b,H b=none\/∃o xs,H b=some (.frz o (.lst xs))
theorem CS{P:Qu}{w:Qw}{K:J0}{mg mb:Str->Option Qj}{CX:dR}{k:Nat}{fa a:Qk}{fd:Qt}{x:Str}{sp:Sp}{s₁:Ql}{vs:List Qj}{ns:List Int}
 (KX:K.In s₁.heap)(hns:s₁.heap.Ns Qv mg)(hb:s₁.heap.Ns builtinsNs mb)(hbb:∀x:Str,x≠"__name__"->mb x=QB x)(hlim:s₁.heap.NoLimit)(hg:s₁.gens=#[])
 (ha:s₁.heap.get? a=some {cls:= .type "list",data:= .seq vs.toArray})(hi:IntsAre vs ns)(hl:ns.length<=Qp)(hr:bx k callerA)
 (F:∀base:Qy,K.In base->base.Ns Qv mg->aM P w K mg base CX k fa fd [x] sp)(hbind:∀(s:Ql) (u:Qj),BindsTo s fd ⟨[u],[]⟩ [(x,u)])
 (hsp:∀H:Hp,l5 H->aX K H a (ns.map V.int)->sp [.ref a] H (λv _=>v= .bl true) λ_ _ _=>False)
 (hCX:∀H e s',CX [] H s₁ (λ_ _ _=>False) e s'->False):
 codeAny (Qs P w) callerA (.call (.ref fa) ⟨[.ref a],[]⟩) (λr s'=>r= .ok (.ret (.bool true))/\OldK s₁.heap s'.heap/\s'.os=s₁.os/\Rl s'.gens) s₁:=by
 have rv:=tV hi;have lenV:=hi.length;have core:∀H:Hp,l5 H->aX K H a (ns.map V.int)->bK P w H s₁.heap->(∀b,H b≠none->b=a)->(H a≠none->K.lookup a=none)->
  codeAny (Qs P w) callerA (.call (.ref fa) ⟨[.ref a],[]⟩) (λr s'=>r= .ok (.ret (.bool true))/\OldK s₁.heap s'.heap/\s'.os=s₁.os/\Rl s'.gens) s₁:=by
  intro H hO hS hok hA hK;have base_of:∀{b:Qk}{o:Obj},s₁.heap.get? b=some o->H b=none->(gF s₁.heap H).get? b=some o:=λe n=>BA e n;have noA:∀{b:Qk}{o:Obj}{es:Array Q0}{ep:Nat},s₁.heap.get? b=some o->o.data= .dict es ep->H b=none:=λ{b o es ep} e d=>by
   cases q:H b with
   | none=>rfl
   | some u=>
    have e':b=a:=hA b (by rw [q];simp);subst e';rw [ha] at e;cases e;have d':Data.seq vs.toArray _=Data.dict es ep:=d;cases d'
  have nsK:∀{b:Qk}{m:Str->Option Qj},s₁.heap.Ns b m->(gF s₁.heap H).Ns b m:=λ{b m} ⟨o,es,ep,e,d,r⟩=>⟨o,es,ep,base_of e (noA e d),d,r⟩;have hKb:K.In (gF s₁.heap H):=λb o e=>base_of (KX b o e) (by
   cases q:H b with
   | none=>rfl
   | some u=>
    have e':b=a:=hA b (by rw [q];simp);subst e';rw [hK (by rw [q];simp)] at e;cases e)
  have hM:Mod K mg (gF s₁.heap H):=⟨hKb,nsK hns,⟨mb,nsK hb,hbb⟩,let ⟨mc,h1,h2⟩:=hlim;⟨mc,nsK h1,h2⟩⟩;have e0:iM P w K mg (gF s₁.heap H) callerA [] s₁ H:=⟨rfl,hM,λb o e=>BB e,Nat.le_of_eq (Bz _ _),trivial,λb hb=>absurd (show b∈([]:List Qk) from hb) Qh,hok,.of_eq hg⟩;refine codeAny_mono ((F _ hKb (nsK hns)).run callerA [] s₁ H ⟨[.ref a],[]⟩ [.ref a] [.ref a] _ _ hr e0 (hbind s₁ (.ref a)) (.cons rfl .nil) (hsp H hO hS)) λr s' h=>?_;cases r with
  | error e=>exact(hCX H e s' h).elim
  | ok fl=>
   cases fl with
   | next=>exact LL h
   | brk=>exact LL h
   | cont=>exact LL h
   | ret u=>
    obtain⟨v,H',os,bare,un,hok',r',q⟩:=h;have q':v= .bl true:=q;subst q';obtain rfl:u=L8 true:=r';refine⟨rfl,OldK.of_keep λb o e=>?_,os,bare⟩;cases q:H b with
    | none=>exact un.keep b o e q (by intro z;exact absurd (show b∈([]:List Qk) from z) Qh) Qh
    | some u=>
     rcases hO b with z | ⟨ob,xs,z⟩
     ·rw [q] at z;cases z
     ·have z2:=un.frzs b ob _ z;obtain⟨e1,_⟩:=hok b _ z;obtain⟨e2,_⟩:=hok' b _ z2;rw [e] at e1;cases e1;exact e2
 cases hk:K.lookup a with
 | some o=>
  have e:=KX a o hk;rw [ha] at e;cases e;refine core (λ_=>none) (λ_=>.inl rfl) (.inr ⟨_,vs.toArray,_,hk,rfl,rfl,rfl,by rw [Ke,lenV];exact hl,by simpa using rv⟩) (λb u z=>by have z':(none:Option HO)=some u:=z;cases z') (λb z=>absurd rfl z) λz=>absurd rfl z
 | none=>
  refine core (λb=>if b=a then some (.frz {cls:= .type "list",data:= .seq vs.toArray} (.lst (ns.map V.int))) else none) (λb=>?_) (.inl (.inr ⟨{cls:= .type "list",data:= .seq vs.toArray},Qf rfl⟩)) (λb u z=>?_) (λb z=>?_) λ_=>hk
  ·by_cases hb:b=a
   ·exact .inr ⟨_,_,Qf hb⟩
   ·exact .inl (Qe hb)
  ·by_cases hb:b=a
   ·have z':=(Qf hb).symm.trans z;cases z';subst hb;exact⟨ha,by rw [J1];exact hl,vs,_,rv,ha⟩
   ·have z':=(Qe hb).symm.trans z;cases z'
  ·by_cases hb:b=a
   ·exact hb
   ·exact absurd (Qe hb) z
abbrev KOf{K:J0}{h:Qy}(_:K.In h):J0:=K
def iO(s:Qx):Arguments:=match s with
 | .FunctionDef _ a _ _ _ _ _ _ _ _=>a
 | _=>{posonlyargs:=[],args:=[],vararg:=none,kwonlyargs:=[],kw_defaults:=[],kwarg:=none,defaults:=[]}
def gK(s:Qx):List Qx:=match s with
 | .FunctionDef _ _ b _ _ _ _ _ _ _=>b
 | _=>[]
def aE(s:Qx):QO:=match s with
 | .FunctionDef _ _ _ _ _ _ sc _ _ _=>sc
 | _=>{kind:= .function,names:=[],isGenerator:=false,isCoroutine:=false}
abbrev CX0:dR:=λ_ _ _ _ _ _=>False
abbrev E0:XK:=λ_ _ _=>False
theorem CT{X:Cx}:oO CX0 X E0:=λ_ _ _ _ _ _ _ h=>h.elim
structure gL (K:J0) (x qual:Str) (st:Qx) (f:Qk) (fd:Qt):Prop where
 ex:∃(oc:Qj)(od:Option Qk)(kV doc pm:Qj)(an:Option Qk)(cdv ct:Qj)(osl:Array (Option Qj)),
  fd=Ma x qual (iO st) (gK st) (aE st) .none kV doc pm an cdv ct/\K.lookup f=some ⟨oc,od,.func fd,osl⟩/\Nv K cdv qual=true
 kp:MU K (.ref f)=true
section
variable {P:Qu} {w:Qw} {K:J0} {mg:Str->Option Qj} {base:Qy}
theorem gL.ok{x qual:Str}{st:Qx}{f:Qk}{fd:Qt}{N ps:List Str}{k:Nat}{sp:Sp}(F:gL K x qual st f fd)(S:aZ N ps (aE st))(len:∀vs H Q E,sp vs H Q E->vs.length=ps.length)
 (hbody:∀(cdv:Qj) (A:QC) (outer:List Env) (s:Ql) (H:Hp) (vs:List V) (Q:VK) (E:XK),bx k (A.deeper (envOfC qual (aE st) s.heap.objs.size f cdv))->sp vs H Q E->
   ∃t,bz (hX CX0 P w K mg base N qual (aE st) f cdv A outer s H E).nox (gK st) t/\t {nx:=λ_ H'=>Q .non H',rt:=Q} (start N vs) H):aM P w K mg base CX0 (k+1) f fd ps sp:=by
 obtain⟨oc,od,kV,doc,pm,an,cdv,ct,osl,rfl,lk,hcd⟩:=F.ex;refine Cf lk hcd S len λA outer s H vs Q E hr hsp=>?_;obtain⟨t,h,q⟩:=hbody cdv A outer s H vs Q E hr hsp;exact⟨t,h.nox,q⟩
theorem gL.binds{x qual:Str}{st:Qx}{f:Qk}{fd:Qt}{ps:List Str}(F:gL K x qual st f fd)
 (h:∀(kV doc pm:Qj) (an:Option Qk) (cdv ct:Qj) (us:List Qj),us.length=ps.length->bindArgs (Ma x qual (iO st) (gK st) (aE st) .none kV doc pm an cdv ct) ⟨us,[]⟩=pure (ps.zip us)):fI K fd ps []:=by
 obtain⟨oc,od,kV,doc,pm,an,cdv,ct,osl,rfl,lk,hcd⟩:=F.ex;exact .all (h kV doc pm an cdv ct)
theorem CU{x qual:Str}{st:Qx}{f:Qk}{oc:Qj}{od an:Option Qk}{osl:Array (Option Qj)}{kV doc pm cdv ct:Qj}(l:K.lookup f=some ⟨oc,od,.func (Ma x qual (iO st) (gK st) (aE st) .none kV doc pm an cdv ct),osl⟩)
 (c:Nv K cdv qual=true)(k:MU K (.ref f)=true):gL K x qual st f (Ma x qual (iO st) (gK st) (aE st) .none kV doc pm an cdv ct):=⟨⟨oc,od,kV,doc,pm,an,cdv,ct,osl,rfl,l,c⟩,k⟩
end
section
variable {X:Cx}
theorem pv(i:Nat){x:Str}{pos:Pos}(hN:X.N[i]?=some x:=by rfl)(hv:j5 X.env.scope x:=by first | exact Om rfl | exact Nl (Om rfl) | exact Nl (Nl rfl))(hd:(x==("__debug__":Str))=false:=by decide)
 (hcd:(x==("__classdict__":Str))=false:=by decide):PE X (.Name x pos) (dh i):=oi hN hv hd hcd
end
def ar(H H':Hp):Prop:=∀b o,H b=some o->H' b=some o
theorem ar.refl(H:Hp):ar H H:=λ_ _ h=>h
theorem ar.trans{H H1 H2:Hp}(a:ar H H1)(b:ar H1 H2):ar H H2:=λc o h=>b c o (a c o h)
theorem CV(a b:Int):ku (.int a) (.int b)=true:=rfl
theorem CW(a b:Str):ku (.str a) (.str b)=true:=rfl
theorem CY(a b:Bool):ku (.bl a) (.bl b)=true:=rfl
theorem CZ(b:Int):ku .non (.int b)=true:=rfl
theorem C0(b:Int):ku (.int b) .non=true:=rfl
def d9(env:Env)(names:List (Str×QP))(cs:List (Str×Qk)):List (Str×Qk):=
 names.foldl (λcs p=>if (p.2==Lu)=true then(p.1,(env.cells.lookup p.1).getD 0)::cs else cs) cs
theorem tW{scope:QO}{env:Env}(h:∀y∈scope.names,y.2= .free->∃c,env.cells.lookup y.1=some c):closureFor scope env=pure (d9 env scope.names []):=by
 unfold closureFor;have key:∀(l:List (Str×QP))(cs:List (Str×Qk)),(∀y∈l,y.2= .free->∃c,env.cells.lookup y.1=some c)->
  (forIn l cs λ(x:Str×QP) (r:List (Str×Qk))=>(if (x.2==Lu)=true then do let a<-cellOf env x.1;pure (My ((x.1,a)::r)) else pure (My r):Sem (ForInStep (List (Str×Qk)))))=pure (d9 env l cs):=by
  intro l
  induction l with
  | nil=>intro cs _;rfl
  | cons p r ih=>
   intro cs hl;rw [Pk];by_cases hk:(p.2==Lu)=true
   ·obtain⟨c,hc⟩:=hl p KA (by simpa using hk);rw [Qf hk];have e:cellOf env p.1=pure c:=by unfold cellOf;rw [hc]
    rw [e];simp only [pure_bind];rw [ih _ λy hy=>hl y (Kz _ hy)];unfold d9;rw [Md,Qf hk,hc];rfl
   ·rw [Qe hk];simp only [pure_bind];rw [ih _ λy hy=>hl y (Kz _ hy)];unfold d9;rw [Md,Qe hk]
 have:=key scope.names [] h;simp only [bind_pure];exact this
theorem oX{env:Env}:∀(l:List (Str×QP))(cs:List (Str×Qk)){x:Str}{c:Qk},(∀y∈l,y.2= .free->∃c,env.cells.lookup y.1=some c)->(∀y d,cs.lookup y=some d->env.cells.lookup y=some d)->
 (d9 env l cs).lookup x=some c->env.cells.lookup x=some c
 | [],cs,x,c,_,hc,h=>hc x c h
 | p::r,cs,x,c,hl,hc,h=>by
  unfold d9 at h;rw [Md] at h;by_cases hk:(p.2==Lu)=true
  ·rw [Qf hk] at h;refine oX r _ (λy hy=>hl y (Kz _ hy)) (λy d e=>?_) h;obtain⟨a,ha⟩:=hl p KA (by simpa using hk);rw [KR] at e;cases hx:y==p.1 with
   | true=>
    rw [hx] at e;have hy:y=p.1:=by simpa using hx
    rw [ha] at e;cases e;rw [hy];exact ha
   | false=>rw [hx] at e;exact hc y d e
  ·rw [Qe hk] at h;exact oX r cs (λy hy=>hl y (Kz _ hy)) hc h
theorem oY{env:Env}:∀(l:List (Str×QP))(cs:List (Str×Qk)){x:Str},(∃c,cs.lookup x=some c)->∃c,(d9 env l cs).lookup x=some c
 | [],cs,x,h=>h
 | p::r,cs,x,⟨c,h⟩=>by
  unfold d9;rw [Md];by_cases hk:(p.2==Lu)=true
  ·rw [Qf hk];refine oY r _ ?_;rw [KR];cases hx:x==p.1 with
   | true=>exact⟨_,rfl⟩
   | false=>exact⟨c,h⟩
  ·rw [Qe hk];exact oY r cs ⟨c,h⟩
theorem oZ{env:Env}:∀(l:List (Str×QP))(cs:List (Str×Qk)){x:Str},(x,Lu)∈l->∃c,(d9 env l cs).lookup x=some c
 | [],_,_,h=>by simp at h
 | p::r,cs,x,h=>by
  unfold d9;rw [Md];rcases Kh.mp h with e | e
  ·subst e;rw [Qf (by rfl)];exact oY r _ ⟨(env.cells.lookup x).getD 0,by rw [KR];simp⟩
  ·exact oZ r _ e
theorem C1{env:Env}{scope:QO}{x:Str}(h:(relabel scope env).names.lookup x=some .cell\/(relabel scope env).names.lookup x=some .free):scope.names.lookup x=some .free\/scope.names.lookup x=some .cell:=by
 have key:∀(l:List (Str×QP)),
  ((l.map λ(n,k)=>if (k==Lu && env.scope.kind== .function && env.kindOf n==some .cell) then(n,M8) else(n,k)).lookup x=some .cell\/
  (l.map λ(n,k)=>if (k==Lu && env.scope.kind== .function && env.kindOf n==some .cell) then(n,M8) else(n,k)).lookup x=some .free)->l.lookup x=some .free\/l.lookup x=some .cell:=by
  intro l
  induction l with
  | nil=>intro h;simp at h
  | cons p r ih=>
   obtain⟨n,k⟩:=p;intro h;rw [Kb] at h;rw [KR];by_cases hx:x=n
   ·subst hx;rw [beq_self_eq_true];by_cases hq:(k==Lu && env.scope.kind== .function && env.kindOf x==some .cell)=true
    ·have:k= .free:=by simp only [Ks,beq_iff_eq] at hq;exact hq.1.1
     subst this;exact .inl rfl
    ·simp only [Qe hq,KR,beq_self_eq_true] at h;exact h.symm
   ·have hb:(x==n)=false:=by simpa using hx
    rw [hb];refine ih ?_;by_cases hq:(k==Lu && env.scope.kind== .function && env.kindOf n==some .cell)=true
    ·simpa only [Qf hq,KR,hb] using h
    ·simpa only [Qe hq,KR,hb] using h
 exact key scope.names h
theorem C2{env:Env}{scope:QO}{x:Str}(h:scope.names.lookup x=some .cell\/scope.names.lookup x=some .free):(relabel scope env).names.lookup x=some .cell\/(relabel scope env).names.lookup x=some .free:=by
 have key:∀(l:List (Str×QP)),l.lookup x=some .cell\/l.lookup x=some .free->
  ((l.map λ(n,k)=>if (k==Lu && env.scope.kind== .function && env.kindOf n==some .cell) then(n,M8) else(n,k)).lookup x=some .cell\/
  (l.map λ(n,k)=>if (k==Lu && env.scope.kind== .function && env.kindOf n==some .cell) then(n,M8) else(n,k)).lookup x=some .free):=by
  intro l
  induction l with
  | nil=>intro h;simp at h
  | cons p r ih=>
   obtain⟨n,k⟩:=p;intro h;rw [Kb];by_cases hx:x=n
   ·subst hx;rw [KR,beq_self_eq_true] at h;by_cases hq:(k==Lu && env.scope.kind== .function && env.kindOf x==some .cell)=true
    ·left;simp only [Qf hq,KR,beq_self_eq_true]
    ·simp only [Qe hq,KR,beq_self_eq_true];exact h
   ·have hb:(x==n)=false:=by simpa using hx
    rw [KR,hb] at h;by_cases hq:(k==Lu && env.scope.kind== .function && env.kindOf n==some .cell)=true
    ·simpa only [Qf hq,KR,hb] using ih h
    ·simpa only [Qe hq,KR,hb] using ih h
 exact key scope.names h
structure br (sc:QO) (N N':List Str) (k:Nat) (fr:List Nat) (scope:QO):Prop where
 kind:scope.kind= .function
 cell:∀y∈scope.names,y.2= .cell->scope.names.lookup y.1=some .cell
 names:∀y∈scope.names,y.2= .local->scope.names.lookup y.1=some .local
 nd:N'.Nodup
 slot:fr.map (λj=>N[j]?)=(N'.drop k).map some
 frees:∀x∈N'.drop k,scope.names.lookup x=some .free
 outer:∀y∈scope.names,y.2= .free->sc.names.lookup y.1=some .cell\/sc.names.lookup y.1=some .free
 outer':∀x∈N'.drop k,sc.names.lookup x=some .cell\/sc.names.lookup x=some .free
 len:N'.length=k+fr.length
theorem l6:∀(l:List (Str×QP)){n:Nat}{a:List (Str×Qk)}{x:Str}{c:Qk},(QM n l a).lookup x=some c->n<=c\/a.lookup x=some c
 | [],_,_,_,_,h=>.inr h
 | (y,k)::r,n,a,x,c,h=>by
  unfold QM at h;split at h
  ·rcases l6 r h with z | z
   ·exact .inl Qc
   ·rw [KR] at z;split at z
    ·exact .inl (by cases z;exact J8 _)
    ·exact .inr z
  ·exact l6 r h
theorem pb:∀(l:List (Str×QP)){n:Nat}{a:List (Str×Qk)}{x:Str}{c:Qk},l.lookup x=some .cell->(QM n l a).lookup x=some c->n<=c
 | [],_,_,_,_,e,_=>nomatch e
 | (y,k)::r,n,a,x,c,e,h=>by
  unfold QM at h;rw [KR] at e;cases hx:x==y with
  | true=>
   rw [hx] at e;cases e;have h:List.lookup x (QM (n+1) r ((y,n)::a))=some c:=h;rcases l6 r h with z | z
   ·exact NK z
   ·rw [KR,hx] at z;cases z;exact J8 _
  | false=>
   rw [hx] at e;split at h
   ·exact NK (pb r e h)
   ·exact pb r e h
theorem pd:∀(l:List (Str×QP)){n:Nat}{a:List (Str×Qk)}{x:Str},(∀y∈l,y.2= .cell->y.1≠x)->(QM n l a).lookup x=a.lookup x
 | [],_,_,_,_=>rfl
 | (y,k)::r,n,a,x,h=>by
  unfold QM;split
  ·rename_i hk;rw [pd r λz hz=>h z (Kz _ hz),KR];have:(x==y)=false:=by simpa using Ne.symm (h (y,k) KA (by simpa using hk))
   rw [this]
  ·exact pd r λz hz=>h z (Kz _ hz)
theorem pe:∀(l:List (Str×QP)){n:Nat}{a:List (Str×Qk)},(∀x c,a.lookup x=some c->c < n)->(∀x y c,a.lookup x=some c->a.lookup y=some c->x=y)->∀x y c,(QM n l a).lookup x=some c->(QM n l a).lookup y=some c->x=y
 | [],_,_,_,h=>h
 | (z,k)::r,n,a,hl,hi=>by
  unfold QM;split
  ·have one:∀x c,((z,n)::a).lookup x=some c->x=z/\c=n\/c < n/\a.lookup x=some c:=λx c e=>by
    rw [KR] at e;cases hx:x==z with
    | true=>rw [hx] at e;cases e;exact .inl ⟨by simpa using hx,rfl⟩
    | false=>rw [hx] at e;exact .inr ⟨hl x c e,e⟩
   refine pe r (λx c e=>?_) λx y c e1 e2=>?_
   ·rcases one x c e with⟨_,z⟩ | ⟨z,_⟩
    ·rw [z];exact Nat.lt_succ_self _
    ·exact NL z
   ·rcases one x c e1 with⟨a1,b1⟩ | ⟨a1,b1⟩ <;> rcases one y c e2 with⟨a2,b2⟩ | ⟨a2,b2⟩
    ·rw [a1,a2]
    ·omega
    ·omega
    ·exact hi x y c b1 b2
  ·exact pe r hl hi
theorem pf:∀(l:List (Str×QP)){h:Qy}{a:List (Str×Qk)},(∀x c,a.lookup x=some c->∃v,h.IsCell c v)->∀x c,(QM h.objs.size l a).lookup x=some c->∃v,(pushCells h l).IsCell c v
 | [],_,_,h=>h
 | (z,k)::r,h,a,ha=>by
  unfold QM pushCells;split
  ·have:=pf r (h:=h.push {cls:= .type "cell",data:= .cell none}) (a:=(z,h.objs.size)::a) λx c e=>by
    rw [KR] at e;split at e
    ·cases e;exact⟨none,_,KN _ rfl,rfl⟩
    ·obtain⟨v,q⟩:=ha x c e;exact⟨v,q.keeps λb o e=>J9 _ e⟩
   rwa [Oo] at this
  ·exact pf r ha
def mf(X:Cx)(scope:QO)(C:Qk):List (Str×Qk):=QM (C+1) scope.names (d9 X.env scope.names [])
def bu(X:Cx)(scope:QO)(N':List Str)(fp:List Qk)(C:Qk)(s:Ql)(H:Hp):Cx where
 prog:=X.prog
 w:=X.w
 K:=X.K
 mg:=X.mg
 base:=X.base
 A:=X.A
 N:=N'
 s₀:=s
 H₀:=H
 env:=compEnvC scope (mf X scope C) C X.env
 outer:=X.stack
 stack:=X.stack
 ex:=fp
 fn:=λx=>scope.names.lookup x==some .cell
 calm:=X.calm
 pn:=[]
 xe:=λ_ _=>False
def bD(k:Nat)(fr:List Nat)(σ:St):St:=Kp k none++fr.map λj=>(σ[j]?).join
def iP(σ σ':St):Prop:=σ.length=σ'.length/\∀(i:Nat) v,σ[i]?=some (some v)->σ'[i]?=some (some v)
section
variable {X:Cx} {RB:List (Qk×Obj)} {σ:St} {H:Hp} {s:Ql} {scope:QO} {N':List Str} {k:Nat} {fr:List Nat} {fp:List Qk}
theorem pg(S:br X.env.scope X.N N' k fr scope)(I:af X RB σ H s):∀x c,(d9 X.env scope.names []).lookup x=some c->X.env.cells.lookup x=some c:=λx c e=>oX scope.names [] (λy hy e=>I.ok.has y.1 (S.outer y hy e)) (λ_ _ z=>by simp at z) e
theorem tX(S:br X.env.scope X.N N' k fr scope)(I:af X RB σ H s){x:Str}{c:Qk}(e:(mf X scope s.heap.objs.size).lookup x=some c):s.heap.objs.size < c\/X.env.cells.lookup x=some c:=
 (l6 _ e).imp (λz=>z) λz=>pg S I x c z
theorem C3(S:br X.env.scope X.N N' k fr scope)(I:af X RB σ H s)(hf:∀b∈fp,fE X RB H b)(hlt:∀b∈fp,b < s.heap.objs.size):
 (bu X scope N' fp s.heap.objs.size s H).Ok:=by
 have hcl:=pg S I;refine⟨I.ok.mod,S.kind,I.ok.glob,I.ok.blt,J8 _,pe _ (λx c e=>?_) (λx y c h1 h2=>I.ok.inj x y c (hcl x c h1) (hcl y c h2)),λx hx=>MP.mp (M5 _ _ _ ?_),λx c h e=>NK (pb _ (eq_of_beq h) e),I.ok.hd,I.ok.frames,.inl rfl,λb hb=>⟨KH (hlt b hb),λx c e=>?_⟩,
  I.bs,KI I.ok.bsz I.sz,λb o e hb=>?_,λb hb hb'=>?_,I.stack,I.stkFree⟩
 ·obtain⟨v,o,ho,_⟩:=I.cell x c (hcl x c e);exact NL (Km ho)
 ·rcases C1 hx with z | z
  ·exact .inr (MP.mpr (oZ _ _ (LJ z)))
  ·exact .inl z
 ·rcases tX S I e with z | z
  ·exact λq=>absurd (hlt b hb) (by rw [<-q];exact Nat.lt_asymm z)
  ·exact(hf b hb).2.2.2.2.1 x c z
 ·rcases(hf b hb).2.2.2.1 with z | z
  ·exact I.ok.noex b o e z
  ·exact absurd (K3 (Km e) (KI I.ok.bsz z)) (Mg _)
 ·rcases Kh.mp (I.stkSub b hb') with z | z
  ·exact(hf b hb).2.1 z
  ·exact(hf b hb).2.2.1 z
theorem C4(S:br X.env.scope X.N N' k fr scope)(I:af X RB σ H s)(hf:∀b∈fp,fE X RB H b)(hlt:∀b∈fp,b < s.heap.objs.size){o:Obj}{h':Qy}(e':h'=pushCells (s.heap.push o) scope.names)
 (hn:h'.Ns s.heap.objs.size (λ_=>none))(hk:∀b o,s.heap.get? b=some o->h'.get? b=some o):
 af (bu X scope N' fp s.heap.objs.size s H) [] (bD k fr σ) H {s with heap:=h'}:=by
 have hcl:=pg S I;refine⟨C3 S I hf hlt,rfl,I.bare,Un.kept hk,⟨_,hn,λi x v h1 h2 h3=>?_⟩,λx c e=>?_,I.hok.fresh (J8 _),λx c e=>?_,λp hp=>absurd hp (by simp [bu]),I.hok.kept hk,?_⟩
 ·have hi:k<=i:=by
   rcases MC i k with z | z
   ·exfalso;unfold bD at h2;rw [LS (by simpa using z),Ms,Qf z] at h2;cases h2
   ·exact z
  have h2':(fr.map λj=>(σ[j]?).join)[i - k]?=some (some v):=by
   unfold bD at h2;rw [LM (by simpa using hi)] at h2;simpa using h2
  have h1':(N'.drop k)[i - k]?=some x:=by
   rw [List.getElem?_drop,Nat.add_sub_cancel' hi];exact h1
  have hmem:x∈N'.drop k:=Kw h1';have e2:(fr.map λj=>X.N[j]?)[i - k]?=some (some x):=by
   rw [S.slot,Kj,h1'];rfl
  obtain⟨j,hj,ej⟩:∃j,fr[i - k]?=some j/\X.N[j]?=some x:=by
   rw [Kj] at e2;cases e:fr[i - k]? with
   | none=>rw [e] at e2;cases e2
   | some j=>rw [e] at e2;exact⟨j,rfl,K4 e2⟩
  have hv:σ[j]?=some (some v):=by
   rw [Kj,hj] at h2';have h3':(σ[j]?).join=some v:=K4 h2';cases e:σ[j]? with
   | none=>rw [e] at h3';cases h3'
   | some o=>rw [e] at h3';rw [show o=some v from h3']
  obtain⟨m,hn0,hl⟩:=I.loc;have ho:=S.outer' x hmem;obtain⟨u,ru,lk⟩:=hl j x v ej hv (.inr ho);refine⟨u,ru,.inr ⟨C2 (.inr (S.frees x hmem)),?_⟩⟩;rcases lk with⟨z,_⟩ | ⟨_,c,hc,hx⟩
  ·exfalso;rcases ho with ho | ho
   ·exact absurd (z.symm.trans ho) Qh
   ·exact absurd (z.symm.trans ho) Qh
  ·obtain⟨c',hc'⟩:=oZ (env:=X.env) scope.names [] (LJ (S.frees x hmem));have:=hcl x c' hc';rw [hc] at this;cases this;obtain⟨o,ho,hd⟩:=hx;exact⟨c,(pd _ λy hy ey ex=>by have q:=S.cell y hy ey;rw [ex,S.frees x hmem] at q;cases q).trans hc',o,hk c o ho,hd⟩
 ·subst e';have:=pf scope.names (h:=s.heap.push o) (a:=d9 X.env scope.names []) (λx c e=>by
   obtain⟨v,q⟩:=I.cell x c (hcl x c e);exact⟨v,q.keeps λb o e=>J9 _ e⟩) x c
  rw [Oo] at this;exact this e
 ·rcases tX S I e with z | z
  ·exact I.hok.fresh (Mp z)
  ·exact I.freeC x c z
 ·unfold bD;show _=N'.length;rw [Kk,Mc,J1,S.len]
end
section
variable {prog:Qu} {w:Qw} {A:QC} {E:Qj->Ql->Prop} {R:Result->Ql->Prop} {s:Ql}
theorem C5{elt target iter:Qn}{ifs:List Qn}{scope:QO}{pos:Pos}{it acc:Qj}{env:Env}(I:Nat->Ql->Prop)
 (turn:∀n s,I n s->Qr (Qs prog w) A (pyNext it) (λr s₁=>match r with
  | none=>R (.ok .next) s₁
  | some v=>Qr (Qs prog w) A (Ro target it v) (λ_ s₁'=>Qr (Qs prog w) A (assign target env v) (λ_ s₂=>
   Qr (Qs prog w) A (forIn ifs true λc r=>if r=true then do let ok<-isTrue c env (eval c env);pure (My ok) else pure (My r)) (λok s₃=>
    if ok=true then Qr (Qs prog w) A (eval elt env) (λx s₄=>
     Qr (Qs prog w) A (call (.builtin "list.append") [acc,x]) (λ_ s₅=>∃m,m < n/\I m s₅) (λ_ _=>False) s₄) (λ_ _=>False) s₃
    else ∃m,m < n/\I m s₃) (λ_ _=>False) s₂) (λ_ _=>False) s₁') (λ_ _=>False) s₁) (λ_ _=>False) s)
 (n:Nat)(h:I n s):
 codeAny (Qs prog w) A (.compLoop (.ListComp elt [⟨target,iter,ifs,0⟩] scope pos) 0 it acc env) R s:=by
 refine codeAny_loop rfl I (λn s hI=>?_) n h;show Qr _ A ((compTurn (.ListComp elt [⟨target,iter,ifs,0⟩] scope pos) 0 it acc env).onRaise (λx=>do noteFrame x env;theTreesLotGoes x)) _ _ s;refine wpAny_noted ?_;rw [compTurn_list];refine Qm (Rr (Qm (QI (turn n s hI) (λr s₁ h₁=>?_) λ_ _ h'=>h'.elim)));cases r with
 | none=>exact Qq h₁
 | some v=>
  refine Qm (QI h₁ (λ_ s₁' h₁'=>?_) λ_ _ h'=>h'.elim);refine Qm (QI h₁' (λ_ s₂ h₂=>Qm (QI h₂ (λok s₃ h₃=>?_) λ_ _ h'=>h'.elim)) λ_ _ h'=>h'.elim);cases ok with
  | false=>exact Qq ⟨rfl,h₃⟩
  | true=>
   exact Qm (Qm (QI h₃ (λx s₄ h₄=>Qm (QI h₄ (λ_ s₅ h₅=>Qq (Qq ⟨rfl,h₅⟩)) λ_ _ h'=>h'.elim)) λ_ _ h'=>h'.elim))
end
def dF(X:Cx)(ifs:List Qn)(t:TT):Prop:=
 ∀(RB:List (Qk×Obj))(s:Ql)(σ:St)(H:Hp)(Q:Bool->Hp->Prop),af X RB σ H s->t σ H Q->
  Qr (Qs X.prog X.w) X.A (forIn ifs true λc r=>if r=true then do let ok<-isTrue c X.env (eval c X.env);pure (My ok) else pure (My r)) (TP X RB σ Q) X.xe s
def C6:TT:=λ_ H Q=>Q true H
theorem C7{X:Cx}:dF X [] C6:=λRB s σ H Q I h=>wpAny_tests_nil ⟨H,I,h⟩
theorem gM{X:Cx}{c:Qn}{t:TT}(h:PT X c t):dF X [c] t:=λRB s σ H Q I hq=>wpAny_tests_one (h RB s σ H Q I hq)
theorem bK.but{P:Qu}{w:Qw}{H:Hp}{h h':Qy}{C:Qk}(x:bK P w H h)(hC:H C=none)(k:∀b o,b≠C->h.get? b=some o->h'.get? b=some o):bK P w H h':=λa o e=>by
 refine(x a o e).stay (λb u hb q=>k b u ?_ q) (λ_ q=>q) λ_ _ q=>q;intro z;subst z;rcases hb with z | z
 ·rw [<-z,hC] at e;cases e
 ·rw [hC] at z;cases z
theorem C8{M:Model}{A:QC}{E:Qj->Ql->Prop}{s:Ql}{scope:QO}{g:Qk}{cl:List (Str×Qk)}{qual:Str}{e:Env}{Q:Env->Ql->Prop}
 (hQ:∀h',h'=pushCells (s.heap.push {cls:= .type "dict",data:= .dict #[]}) scope.names->h'.Ns s.heap.objs.size (λ_=>none)->(∀b o,s.heap.get? b=some o->h'.get? b=some o)->
  Q (newEnv scope s.heap.objs.size g (QM (s.heap.objs.size+1) scope.names cl) qual none .none (some e) builtinsNs) {s with heap:=h'}):
 Qr M A (newFunctionEnv scope g cl [] qual none .none (some e)) Q E s:=by
 simp only [newFunctionEnv,OP,if_true];refine Qm (wpAny_alloc (Qm (wpAny_layCells _ (λname kind cells=>by cases hkc:kind==M8 <;> simp [hkc]) _ _ _ _ ?_)));rw [show({s with heap:=s.heap.push {cls:= .type "dict",data:= .dict #[]}}:Ql).heap.objs.size=s.heap.objs.size+1 from Oo ..];rw [Pr];exact Qm (Qq (Qq (hQ _ rfl ((Heap.Ns.new s.heap (.type "dict")).keeps (pushCells_keeps _ _)) λb o e=>pushCells_keeps _ _ b o (J9 _ e))))
def hZ(wi:TI)(g:TG)(tc:TT)(te:TE)(k:Nat)(fr:List Nat):TE:=λσ H Q=>wi σ H λJ H1=>∀D,H1 D=none->∃W:Nat->Nat->Hp->Prop,(∃m,W 0 m (aq H1 D (.lst [])))/\∀i m H,W i m H->
 (J.stop i H/\Q (.ref D) H)\/(J.go i H/\∀x H',J.yld i H x H'->g x (bD k fr σ) H' λσ2 H2=>iP (bD k fr σ) σ2/\tc σ2 H2 λok H3=>
  if ok=true then te σ2 H3 λy H4=>∃ys,H4 D=some (.lst ys)/\ys.length < Qp/\∃m',m' < m/\W (i+1) m' (aq H4 D (.lst (ys++[y])))
  else ∃m',m' < m/\W (i+1) m' H3)
section
variable {X:Cx} {tg iter elt:Qn} {ifs:List Qn} {scope:QO} {N':List Str} {k:Nat} {fr:List Nat} {wi:TI} {g:TG} {tc:TT} {te:TE} {pos:Pos}
theorem tY{use:Option (Qj->Sem Unit)}{Q':Qj->Ql->Prop}{RB:List (Qk×Obj)}{s:Ql}{σ:St}{H:Hp}{Q:VK}(hc:X.calm=true)(S:br X.env.scope X.N N' k fr scope)(hi:PI X tg iter wi)
 (hg:∀fp C s H,PG (bu X scope N' fp C s H) tg g)(hf:∀fp C s H,dF (bu X scope N' fp C s H) ifs tc)(he:∀fp C s H,PE (bu X scope N' fp C s H) elt te)
 (I:af X RB σ H s)(h:hZ wi g tc te k fr σ H Q)
 (hQ:∀D C s' H',C≠X.env.locals->af X RB σ H' s'->(∀h',Nj C s'.heap h'->af X RB σ H' {s' with heap:=h'})->Q (.ref D) H'->(∃m,s'.heap.Ns C m)->X.env.locals < C->H' C=none/\(∀x c,X.env.cells.lookup x=some c->c≠C)/\(∀p∈X.pn++RB,p.1≠C)->compPost (Qs X.prog X.w) X.A X.xe use Q' (.ref D) C (.ok .next) s'):
 Qr (Qs X.prog X.w) X.A (eval iter X.env) (λx s₁=>Qr (Qs X.prog X.w) X.A (pyIter x) (λit s₂=>Qr (Qs X.prog X.w) X.A (newList []) (λacc s₃=>
  Qr (Qs X.prog X.w) X.A (newFunctionEnv scope X.env.globals (d9 X.env scope.names []) [] X.env.qual none .none (some X.env)) (λcenv s₄=>
   codeAny (Qs X.prog X.w) X.A (.compStart (.ListComp elt [⟨tg,iter,ifs,0⟩] scope pos) 0 it acc {cenv with scope:=relabel scope X.env}) (compPost (Qs X.prog X.w) X.A X.xe use Q' acc cenv.locals) s₄) X.xe s₃) X.xe s₂) X.xe s₁) X.xe s:=by
 refine aA (hi RB s σ H _ I h) λv s1 h1=>aA h1 λitv s2 h2=>?_;obtain⟨it,fp,tn,J,H2,e,I2,T,st2,f2,wW⟩:=h2;subst e;refine QL ?_;have hD0:H2 s2.heap.objs.size=none:=I2.hok.fresh (J8 _);obtain⟨W,⟨m0,w0⟩,turn⟩:=wW _ hD0;generalize hD:s2.heap.objs.size=D at*;have I3:af X RB σ (aq H2 D (.lst [])) {s2 with heap:=s2.heap.push {cls:= .type "list",dict:=none,data:= .seq ([]:List Qj).toArray}}:=by
  have:=I2.lnew (ys:=[]) (its:=[]) (t':=s2.toks) .nil (Lq _);rw [hD] at this;exact this
 generalize hs3:({s2 with heap:=s2.heap.push {cls:= .type "list",dict:=none,data:= .seq ([]:List Qj).toArray}}:Ql)=s3 at*;have up23:∀b o,s2.heap.get? b=some o->s3.heap.get? b=some o:=λb o e=>by rw [<-hs3];exact J9 _ e
 have fpD:∀b∈fp,b≠D:=λb hb z=>by
  obtain⟨o,ho,_⟩:=T.obj _ _ st2 b hb;have:=Km ho;rw [hD,z] at this;exact Mg _ this
 have f3:∀b∈fp,fE X RB (aq H2 D (.lst [])) b:=λb hb=>⟨by rw [aH (fpD b hb)];exact(f2 b hb).1,(f2 b hb).2⟩;have st3:tn 0 s3.heap:=T.keep _ _ _ st2 λb hb o e=>up23 b o e;have lt3:∀b∈fp,b < s3.heap.objs.size:=λb hb=>by obtain⟨o,ho,_⟩:=T.obj _ _ st3 b hb;exact Km ho
 refine C8 λh₁ e₁ hns₁ up34=>?_;have I4:=C4 S I3 f3 lt3 e₁ hns₁ up34;have st4:tn 0 h₁:=T.keep _ _ _ st3 λb hb o e=>up34 b o e;generalize hX':bu X scope N' fp s3.heap.objs.size s3 (aq H2 D (.lst []))=X' at*;have hg':PG X' tg g:=by rw [<-hX'];exact hg _ _ _ _
 have hf':dF X' ifs tc:=by rw [<-hX'];exact hf _ _ _ _
 have he':PE X' elt te:=by rw [<-hX'];exact he _ _ _ _
 have eP:X'.prog=X.prog:=by rw [<-hX'];rfl
 have eW:X'.w=X.w:=by rw [<-hX'];rfl
 have eK:X'.K=X.K:=by rw [<-hX'];rfl
 have eA:X'.A=X.A:=by rw [<-hX'];rfl
 have eC:X'.calm=true:=by rw [<-hX'];exact hc
 have eE:X'.xe=λ_ _=>False:=by rw [<-hX'];rfl
 have eEnv:X'.env=compEnvC scope (mf X scope s3.heap.objs.size) s3.heap.objs.size X.env:=by rw [<-hX'];rfl
 have fpx:∀{H':Hp},(∀b∈fp,H' b=none)->∀b∈fp,fE X' [] H' b:=λ{H'} hn b hb=>by
  refine⟨hn b hb,?_,?_,.inl ?_,?_,?_⟩
  ·rw [eEnv];exact KH (lt3 b hb)
  ·have:=I4.ok.exfs b (by rw [<-hX'];exact hb);exact this
  ·rw [<-hX'];exact hb
  ·have:=I4.ok.exf b (by rw [<-hX'];exact hb);exact this.2
  ·intro p hp;rw [<-hX'] at hp;simp [bu] at hp
 have fin:∀(s':Ql)(H':Hp)(σ':St),af X' [] σ' H' s'->Q (.ref D) H'->compPost (Qs X.prog X.w) X.A X.xe use Q' (.ref D) s3.heap.objs.size (.ok .next) s':=λs' H' σ' J q=>by
  have un:Un (eJ X.stack) fp (aq H2 D (.lst [])) H' s3.heap s'.heap:=by have:=J.base;rw [<-hX'] at this;exact this
  have jos:s'.os=s3.os:=by have:=J.os;rw [<-hX'] at this;exact this
  have hC:H' s3.heap.objs.size=none:=by have:=J.free;rw [eEnv] at this;exact this
  have hok':bK X.prog X.w H' s'.heap:=by have:=J.hok;rw [eP,eW] at this;exact this
  have fM:∀h',Nj s3.heap.objs.size s'.heap h'->af X RB σ H' {s' with heap:=h'}:=λh' hs'=>by
   have un':Un (eJ X.stack) fp (aq H2 D (.lst [])) H' s3.heap h':=
    ⟨λb o e n h1 h2=>hs'.extBut b o (KH (Km e)) (un.keep b o e n h1 h2),λb o e n h1 h2=>by
     obtain⟨sl,z⟩:=un.slot b o e n h1 h2;exact⟨sl,hs'.extBut b _ (KH (Km e)) z⟩,un.free,λb o e h2=>by
     obtain⟨o',z⟩:=un.there b o e h2;exact⟨o',hs'.extBut b o' (KH (Km e)) z⟩,un.tups,un.frzs,un.tbls⟩
   exact af.call' (s':={s' with heap:=h'}) I3 jos un' (hok'.but hC hs'.extBut) J.bare λb hb=>⟨(f3 b hb).2.2.2.1,(f3 b hb).2.1,(f3 b hb).2.2.2.2.1,(f3 b hb).2.2.2.2.2⟩
  have nsC:∃m,s'.heap.Ns s3.heap.objs.size m:=by
   obtain⟨m,hn,_⟩:=J.loc;rw [eEnv] at hn;exact⟨m,hn⟩
  exact hQ D s3.heap.objs.size s' H' (NY I3.lt) (fM s'.heap (.refl ..)) fM q nsC I3.lt
   ⟨hC,λx c e=>by obtain⟨v,o,ho,_⟩:=I3.cell x c e;exact KH (Km ho),λp hp=>KH (Km (I3.pin p hp).1)⟩
 have loop:∀s4:Ql,s4=({s3 with heap:=h₁}:Ql)->
  codeAny (Qs X.prog X.w) X.A (.compLoop (.ListComp elt [⟨tg,iter,ifs,0⟩] scope pos) 0 (.ref it) (.ref D) X'.env) (compPost (Qs X.prog X.w) X.A X.xe use Q' (.ref D) s3.heap.objs.size) s4:=by
  rintro s4 rfl;refine C5 (λn s'=>∃i H',af X' [] (bD k fr σ) H' s'/\tn i s'.heap/\(∀b∈fp,H' b=none)/\W i n H') ?_ m0 ⟨0,_,I4,st4,λb hb=>(f3 b hb).1,w0⟩;rintro n s5 ⟨i,H5,I5,st5,fr5,w5⟩;rcases turn i n H5 w5 with⟨stop,qn⟩ | ⟨go,step⟩
  ·have:=T.done X' eP eW eK eC i [] s5 _ H5 (λ_ _=>False) I5 (fpx fr5) st5 stop;rw [eA] at this;refine aA this λr s6 ⟨hr,I6⟩=>?_;subst hr;exact fin s6 H5 _ I6 qn
  ·have:=T.item X' eP eW eK eC i [] s5 _ H5 (λ_ _=>False) I5 (fpx fr5) st5 go;rw [eA] at this;refine aA this λr s6 ⟨u,hr,h6⟩=>?_;subst hr;refine aA h6 λ_ s7 ⟨x,H7,I7,r7,y7,st7,fr7⟩=>?_;have I7':=I7.pinned (fpx fr7) (T.obj _ _ st7);have h8:=hg' _ s7 _ H7 x u _ I7' r7 (step x H7 y7);rw [eP,eW,eA,eE] at h8;refine aA h8 λ_ s8 ⟨σ8,H8,I8,kp,q8⟩=>?_;have h9:=hf' _ s8 σ8 H8 _ I8 q8;rw [eP,eW,eA,eE] at h9;have again:∀{s9:Ql}{H9:Hp}{n':Nat},af X' ([]++kq fp s7.heap) σ8 H9 s9->n' < n->W (i+1) n' H9->∃m,m < n/\∃i H',af X' [] (bD k fr σ) H' s9/\tn i s9.heap/\(∀b∈fp,H' b=none)/\W i m H':=λ{s9 H9 n'} I9 hn' w9=>by
    refine⟨n',hn',i+1,H9,I9.unpinned.weak kp.1 kp.2,T.keep _ _ _ st7 λb hb o e=>(I9.pin (b,o) (K6 _ (K6 _ (lQ hb e)))).1,λb hb=>?_,w9⟩;obtain⟨o,e,d⟩:=T.obj _ _ st7 b hb;exact(I9.pin (b,o) (K6 _ (K6 _ (lQ hb e)))).2.1
   refine aA h9 λok s9 ⟨H9,I9,q9⟩=>?_;cases ok with
   | false=>
    rw [Qe K5] at q9;obtain⟨m',hm',w9⟩:=q9;rw [Qe K5];exact again I9 hm' w9
   | true=>
    rw [Qf rfl] at q9;rw [Qf rfl];have h10:=he' _ s9 σ8 H9 _ I9 q9;rw [eP,eW,eA,eE] at h10;refine aA h10 λy s10 ⟨yv,H10,I10,r10,ys,hys,hz,m',hm',w10⟩=>?_;have h11:=tU (X:=X') _ s10 σ8 H10 (.ref D) [yv] (.ref D) [y] (λ_ H'=>W (i+1) m' H') I10 rfl (.cons r10 .nil) ⟨D,ys,yv,rfl,rfl,hys,hz,w10⟩;rw [eP,eW,eA,eE] at h11;exact aA h11 λ_ s11 uu68=>by obtain⟨_,H11,I11,_,q11⟩:=uu68;exact again I11 hm' q11
 have hE:({newEnv scope s3.heap.objs.size X.env.globals (mf X scope s3.heap.objs.size) X.env.qual none .none (some X.env) builtinsNs with scope:=relabel scope X.env}:Env)=X'.env:=by
  rw [eEnv];rfl
 have goal:=codeAny_compStart_list (elt:=elt) (target:=tg) (iter:=iter) (ifs:=ifs) (rest:=[]) (scope:=scope) (pos:=pos) (loop _ rfl) (T.self X.A 0 _ _ _ st4 (loop _ rfl));rw [<-hE] at goal;exact goal
theorem kA(hc:X.calm=true)(S:br X.env.scope X.N N' k fr scope)(hi:PI X tg iter wi)
 (hg:∀fp C s H,PG (bu X scope N' fp C s H) tg g)(hf:∀fp C s H,dF (bu X scope N' fp C s H) ifs tc)(he:∀fp C s H,PE (bu X scope N' fp C s H) elt te)
 (hs:∀x,QA iter X.env x=pure x:=by intro _;rfl):PE X (.ListComp elt [⟨tg,iter,ifs,0⟩] scope pos) (hZ wi g tc te k fr):=by
 intro RB s σ H Q I h;have hcell:∀y∈scope.names,y.2= .free->∃c,X.env.cells.lookup y.1=some c:=λy hy e=>I.ok.has y.1 (S.outer y hy e);rw [eval_ListComp];refine Ry (use:=none) rfl hs (tW hcell) S.kind S.names (tY hc S hi hg hf he I h ?_);intro D C s' H' hC J fM q ns hlt _;obtain⟨m,hn⟩:=ns;exact⟨m,hn,λh' hs'=>⟨.ref D,H',fM h' hs',rfl,q⟩⟩
theorem C9{i:Nat}{x:Str}{pos' spos:Pos}(hN:X.N.Nodup)(hxi:X.N[i]?=some x)(hx:fD X.env.scope x)(hc:X.calm=true)(S:br X.env.scope X.N N' k fr scope)(hi:PI X tg iter wi)
 (hg:∀fp C s H,PG (bu X scope N' fp C s H) tg g)(hf:∀fp C s H,dF (bu X scope N' fp C s H) ifs tc)(he:∀fp C s H,PE (bu X scope N' fp C s H) elt te)
 (hsw:QK (.ListComp elt [⟨tg,iter,ifs,0⟩] scope pos) (some (.Name x pos')) spos.line X.env=pure true)
 (hs:∀x,QA iter X.env x=pure x:=by intro _;rfl)(hfn:X.fn x=true\/X.env.scope.names.lookup x=some .local:=by first | exact .inl rfl | exact .inr rfl | assumption):
 PS X (.Assign [.Name x pos'] (.ListComp elt [⟨tg,iter,ifs,0⟩] scope pos) spos) (kh (hZ wi g tc te k fr) (gH i)):=by
 intro RB s σ H D I h;have hcell:∀y∈scope.names,y.2= .free->∃c,X.env.cells.lookup y.1=some c:=λy hy e=>I.ok.has y.1 (S.outer y hy e);rw [exec_Assign_Name_used _ _ _ _ hsw];refine Qm (Rr (Qm ?_));show Qr _ X.A (do let _<-comprehension (.ListComp elt [⟨tg,iter,ifs,0⟩] scope pos) scope X.env _ (newList []) false (eval iter X.env) (some (assign (.Name x pos') X.env))) _ _ s;refine Qm (QI (Ry (use:=some (assign (.Name x pos') X.env)) (Q:=λ_ s'=>∃σ' H',af X RB σ' H' s'/\D.nx σ' H') rfl hs (tW hcell) S.kind S.names (tY hc S hi hg hf he I h ?_)) (λ_ s' hq=>Qq (Qq hq)) λ_ _ e=>e);intro D' C s' H' hC J fM q ns hlt ⟨c1,c2,c3⟩;obtain⟨m,hn⟩:=ns;show Qr _ X.A (assign (.Name x pos') X.env (.ref D')) _ _ _;refine wpAny_assign_Name (si J hN hxi hx (v:= .ref D') rfl (λs2 J2 sb=>?_) hfn);obtain⟨a,sb,ha⟩:=sb;have hCa:C≠a:=by
  rcases ha with z | z
  ·rw [z];exact hC
  ·exact Ne.symm (c2 _ _ z)
 refine⟨m,hn.sameBut sb hCa,λh3 hs3=>⟨_,H',?_,q⟩⟩;exact J2.turned (t':=s2.toks) hs3.extBut c1 hC (.inr (KI J.ok.above (Mp hlt))) c2 c3
end
section
variable {X:Cx}
theorem Dc(hc:X.calm=true):cT X (.builtin "sum") (λxs H Q=>∃(a:Qk)(ns:List Int),xs=[.ref a]/\aX X.K H a (ns.map V.int)/\Q (.int ns.sum) H):=by
 intro RB s σ H xs us Q I r h;obtain⟨a,ns,rfl,hl,q⟩:=h;obtain⟨u,rfl,rx⟩:=cW r;cases rx;obtain⟨its,rv,p,hz⟩:=I.list hl;have hi:IntsAre its ns:=Cn rv;have hall:AllInts its.toArray:=hi.allInts;obtain⟨ys,hys⟩:=hall.items;have hn:numsOf its.toArray.toList=ns:=by rw [show its.toArray.toList=its from rfl,hi.numsOf]
 rw [hys,nums_intItems] at hn;have hl':=p.isList;rw [hys] at hl';refine sum_intListG (I.ok.hd hc) hl' λh' tk t' hk=>?_;refine⟨.int ns.sum,H,I.kept hk,⟨t',?_⟩,q⟩;rw [preSum_eq,Ky Qh,hn]
end
end L2
namespace Att
open PySem PySem.W PySem.Calls PyProof.Rows
theorem Dd{ns:List Int}(h:Pa [NU (ns.map Mx)]=true):∀n∈ns,Ly n<=1048576:=by
 have h1:(NU (ns.map Mx)).layable=true:=by simpa [Pa] using h
 have h2:(NU (ns.map Mx)).weight<=1048576:=(PySem.W.layableW_iff.mp h1).2.2;have key:∀l:List Int,∀n∈l,Ly n<=MK (l.map Mx):=by
  intro l
  induction l with
  | nil=>intro n hn;simp at hn
  | cons x r ih=>
   intro n hn;have e:MK ((x::r).map Mx)=Ly x+1+MK (r.map Mx):=by
    rw [Kb,MK,PL];rfl
   rw [e];rcases Kh.mp hn with z | z
   ·subst z;omega
   ·have:=ih n z;omega
 intro n hn;have e:(NU (ns.map Mx)).weight=MK (ns.map Mx):=by rw [PL]
 rw [e] at h2;exact KI (key ns n hn) h2
theorem attach_callB{l:OpenLaw}{n:Nat}{q:Qu}{loose:List Str}{XP:(Str->Option Qj)->Qy->Prop}{YP:Qw->Qy->Prop}{d:DefRec}
 (hn:l.most=some n)(hdf:d.params.defaults=[])
 (call:∀(w:Qw) (s₀ s₁:Ql) (mg mb:Str->Option Qj) (fa:Qk) (o:Obj) (pm cd doc:Qj) (a:Qk) (vs:List Qj) (ns:List Int),
  Ground q loose [] XP w s₀ mg mb s₁.heap->YP w s₁.heap->
  s₁.heap.get? fa=some o->o.data= .func (docDef d.name d.params d.body d.scope pm cd doc)->s₁.heap.CodeRec cd d.name->mg d.name=some (.ref fa)->
  s₁.heap.get? a=some {cls:= .type "list",data:= .seq vs.toArray}->IntsAre vs ns->ns.length<=n->(∀z∈ns,Ly z<=1048576)->s₁.gens=#[]->
  codeAny (Qs l.prog w) callerA (.call (.ref fa) ⟨[.ref a],[]⟩) (λr s'=>r= .ok (.ret (.bool true))/\OldK s₁.heap s'.heap/\s'.os=s₁.os/\Rl s'.gens) s₁):
 WalkO q loose XP YP l.row.toRowW d [] (λf vs=>Pl f vs):=by
 intro w s₀ s₁ mg mb G Y fa o pm cd doc dV kV ho hd hcd hD hmg hg args vals as hpre hlay hrd hwl hlo;obtain rfl:dV= .none:=Dflts.none hD hdf;obtain rfl:kV= .none:=Dflts.noKw hD;obtain⟨a,vs,ns,rfl,rfl,hobj,hints,hlen⟩:=CP hn hpre hwl;have hb:∀z∈ns,Ly z<=1048576:=Dd hlay;refine enter_call (codeAny_mono (call w s₀ s₁ mg mb fa o pm cd doc a vs ns G Y ho (fd_plain hd) hcd hmg hobj hints hlen hb hg) λr s' hq=>?_);obtain⟨rfl,h2,h3,h4⟩:=hq;exact⟨.inl ⟨.bool true,.bool true,[],rfl,λ_=>rfl,.bool true,CQ l _,λ_=>⟨PJ.nil,λ_ hm=>(nomatch hm)⟩⟩,h2,h3,h4⟩
end Att
namespace L2
open PySem PySem.Spec PyProof.Rows
theorem Df{l:Pm}{n k:Nat}{q:Qu}{loose:List Str}{XP:(Str->Option Qj)->Qy->Prop}{YP:Qw->Qy->Prop}{d:DefRec}{K:Params->J0}{CX:Qw->dR}{sp:Qw->Sp}{x:Str}
 (hn:l.most=some n)(hn2:n<=Qp)(hdf:d.params.defaults=[])(hr:bx k callerA)
 (hY:∀(w:Qw) (h:Qy),YP w h->(K w.params).In h)
 (F:∀(w:Qw) (mg:Str->Option Qj) (fa:Qk) (h:Qy),(K w.params).In h->h.Ns Qv mg->mg d.name=some (.ref fa)->
  ∃fd:Qt,(∀(s:Ql) (u:Qj),BindsTo s fd ⟨[u],[]⟩ [(x,u)])/\
   ∀base:Qy,(K w.params).In base->base.Ns Qv mg->aM l.prog w (K w.params) mg base (CX w) k fa fd [x] (sp w))
 (hsp:∀(w:Qw) (H:Hp) (a:Qk) (ns:List Int),ns.length<=n->(∀z∈ns,Ly z<=1048576)->l5 H->aX (K w.params) H a (ns.map V.int)->sp w [.ref a] H (λv _=>v= .bl true) λ_ _ _=>False)
 (hCX:∀(w:Qw) (H:Hp) (s:Ql) (e:Qj) (s':Ql),CX w [] H s (λ_ _ _=>False) e s'->False):
 Py q loose XP YP l.row.toRowW d [] (λf vs=>Pl f vs):=by
 refine Att.attach_callB hn hdf λw s₀ s₁ mg mb fa o pm cd doc a vs ns G Y ho hd hcd hmg hobj hints hlen hb hg=>?_;have KX:=hY w _ Y;obtain⟨fd,hbi,hF⟩:=F w mg fa _ KX G.T.g hmg;exact CS KX G.T.g G.T.b G.T.builtins G.T.nolimit hg hobj hints (KI hlen hn2) hr hF hbi (λH hO hS=>hsp w H a ns hlen hb hO hS) λH e s'=>hCX w H s₁ e s'
theorem walk_ofBK{l:Pm}{n k:Nat}{q:Qu}{loose:List Str}{XP:(Str->Option Qj)->Qy->Prop}{YP:Qw->Qy->Prop}{d:DefRec}{K:Params->J0}{CX:dR}{sp:J0->Sp}{x:Str}
 (hn:l.most=some n)(hn2:n<=Qp)(hdf:d.params.defaults=[])(hr:bx k callerA)
 (hY:∀(w:Qw) (h:Qy),YP w h->(K w.params).In h)
 (F:∀(w:Qw) (mg:Str->Option Qj) (fa:Qk) (h:Qy),(K w.params).In h->h.Ns Qv mg->mg d.name=some (.ref fa)->
  ∃fd:Qt,(∀(s:Ql) (u:Qj),BindsTo s fd ⟨[u],[]⟩ [(x,u)])/\
   ∀base:Qy,(K w.params).In base->base.Ns Qv mg->aM l.prog w (K w.params) mg base CX k fa fd [x] (sp (K w.params)))
 (hsp:∀(K:J0) (H:Hp) (a:Qk) (ns:List Int),ns.length<=n->(∀z∈ns,Ly z<=1048576)->l5 H->aX K H a (ns.map V.int)->sp K [.ref a] H (λv _=>v= .bl true) λ_ _ _=>False)
 (hCX:∀(H:Hp) (s:Ql) (e:Qj) (s':Ql),CX [] H s (λ_ _ _=>False) e s'->False):
 Py q loose XP YP l.row.toRowW d [] (λf vs=>Pl f vs):=
 Df (K:=K) (CX:=λ_=>CX) (sp:=λw=>sp (K w.params)) hn hn2 hdf hr hY F (λw H a ns h1 hb h2 h3=>hsp (K w.params) H a ns h1 hb h2 h3) λ_ H s e s'=>hCX H s e s'
def jr(p:Qk)(H H':Hp):Prop:=∀b o,H b=some o->b≠p->H' b=some o
theorem ar.new{H:Hp}{p:Qk}{o:HO}(h:H p=none):ar H (aq H p o):=λb u e=>by rw [aH (cS e h)];exact e
def FR(J:It)(g:TG)(tb:TS)(D:gG)(σ:St)(H1:Hp):Prop:=∃W:Nat->Nat->St->Hp->Prop,(∃m,W 0 m σ H1)/\∀i m σ H,W i m σ H->
 (J.stop i H/\D.nx σ H)\/(J.go i H/\∃N:St->Hp->Prop,(∀σ' H',N σ' H'->∃m',m' < m/\W (i+1) m' σ' H')/\∀x H',J.yld i H x H'->g x σ H' λσ2 H2=>tb {D with nx:=N,ct:=N,bk:=D.nx} σ2 H2)
theorem Dg{ta:TA}{g:TG}{tb:TS}:km (oC ta) g tb=λD σ H=>ta σ H λvs H1=>∃j:Int,vs=[.int j]/\-(2 ^ 62)<=j/\j < 2 ^ 62/\FR (gI 0 j.toNat) g tb D σ H1:=rfl
theorem Dh{ta:TA}{g:TG}{tb:TS}:km (oE ta) g tb=λD σ H=>ta σ H λvs H1=>∃i j:Int,vs=[.int i,.int j]/\(-(2 ^ 62)<=i/\i < 2 ^ 62/\-(2 ^ 62)<=j/\j < 2 ^ 62)/\FR (gI i (j - i).toNat) g tb D σ H1:=rfl
theorem Di{K:J0}{tl:TE}{g:TG}{tb:TS}:km (oA K tl) g tb=λD σ H=>tl σ H λx H1=>∃a,x= .ref a/\(∃xs,aX K H1 a xs)/\FR (kj K a) g tb D σ H1:=rfl
theorem Dj{K:J0}{tl:TE}{g:TG}{tb:TS}:km (oB K tl) g tb=λD σ H=>tl σ H λx H1=>∃a,x= .ref a/\(∃xs,bg K H1 a xs)/\FR (kl K a) g tb D σ H1:=rfl
def js(J:It)(g:TG)(tc:TT)(te:TE)(k:Nat)(fr:List Nat)(σ:St)(H1:Hp)(Q:VK):Prop:=∀D,H1 D=none->∃W:Nat->Nat->Hp->Prop,(∃m,W 0 m (aq H1 D (.lst [])))/\∀i m H,W i m H->
 (J.stop i H/\Q (.ref D) H)\/(J.go i H/\∀x H',J.yld i H x H'->g x (bD k fr σ) H' λσ2 H2=>iP (bD k fr σ) σ2/\tc σ2 H2 λok H3=>
  if ok=true then te σ2 H3 λy H4=>∃ys,H4 D=some (.lst ys)/\ys.length < Qp/\∃m',m' < m/\W (i+1) m' (aq H4 D (.lst (ys++[y])))
  else ∃m',m' < m/\W (i+1) m' H3)
theorem Dk{ta:TA}{g:TG}{tc:TT}{te:TE}{k:Nat}{fr:List Nat}:hZ (oC ta) g tc te k fr=λσ H Q=>ta σ H λvs H1=>∃j:Int,vs=[.int j]/\-(2 ^ 62)<=j/\j < 2 ^ 62/\js (gI 0 j.toNat) g tc te k fr σ H1 Q:=rfl
theorem Dm{ta:TA}{g:TG}{tc:TT}{te:TE}{k:Nat}{fr:List Nat}:hZ (oE ta) g tc te k fr=λσ H Q=>ta σ H λvs H1=>∃i j:Int,vs=[.int i,.int j]/\(-(2 ^ 62)<=i/\i < 2 ^ 62/\-(2 ^ 62)<=j/\j < 2 ^ 62)/\js (gI i (j - i).toNat) g tc te k fr σ H1 Q:=rfl
theorem Dp{K:J0}{tl:TE}{g:TG}{tc:TT}{te:TE}{k:Nat}{fr:List Nat}:hZ (oA K tl) g tc te k fr=λσ H Q=>tl σ H λx H1=>∃a,x= .ref a/\(∃xs,aX K H1 a xs)/\js (kj K a) g tc te k fr σ H1 Q:=rfl
theorem Dq{K:J0}{tl:TE}{g:TG}{tc:TT}{te:TE}{k:Nat}{fr:List Nat}:hZ (oB K tl) g tc te k fr=λσ H Q=>tl σ H λx H1=>∃a,x= .ref a/\(∃xs,bg K H1 a xs)/\js (kl K a) g tc te k fr σ H1 Q:=rfl
theorem Dr{fr:List Nat}{σ:St}{v:Option V}:iP (bD 1 fr σ) ((bD 1 fr σ).set 0 v):=by
 refine⟨Qh,λi w h=>?_⟩;cases i with
 | zero=>simp [bD,Kp] at h
 | succ i=>simpa [bD,Kp] using h
theorem cxK{CX:dR}{P:Qu}{w:Qw}{K:J0}{mg:Str->Option Qj}{base:Qy}{N:List Str}{qual:Str}{scope:QO}{f:Qk}{cd:Qj}{A:QC}{outer:List Env}{s:Ql}{H:Hp}{E:XK}:(hX CX P w K mg base N qual scope f cd A outer s H E).K=K:=rfl
theorem cmK{X:Cx}{scope:QO}{N':List Str}{fp:List Qk}{C:Qk}{s:Ql}{H:Hp}:(bu X scope N' fp C s H).K=X.K:=rfl
theorem jt{K:J0}{p:Qk}{xs:List V}{i:Int}{v:V}{H:Hp}{Q:VK}(h:aX K H p xs)(hv:atI xs i=some v)(q:Q v H):l4 K (.ref p) (.int i) H Q:=⟨p,xs,i,v,rfl,rfl,h,hv,q⟩
theorem Ds:QB "divmod"=some (.builtin "divmod"):=Qa
theorem eM:QB "isinstance"=some (.builtin "isinstance"):=Qa
theorem mh:QB "int"=some (.type "int"):=Qa
theorem ph:QB "bool"=some (.type "bool"):=Qa
theorem tZ:QB "str"=some (.type "str"):=Qa
theorem eN:QB "tuple"=some (.type "tuple"):=Qa
theorem Du:QB "list"=some (.type "list"):=Qa
theorem Dv:QB "dict"=some (.type "dict"):=Qa
open PySem PySem.Spec PyProof.Rows PySem.W
section
variable {M:Model} {A:QC} {E:Qj->Ql->Prop}
variable {nm q:Str} {C N:Qk} {bs bm:List Qj} {hdct:Bool} {sn:List Str} {sub:List Qj} {ab:Bool} {col:Option Bool} {dd:Option Qk} {k0 k1 k2 k3 k5:Option Qj} {newId:String}
variable {nm' q':Str} {C' N':Qk} {bs' bm':List Qj} {hdct':Bool} {sn':List Str} {sub':List Qj} {ab':Bool} {col':Option Bool} {dd':Option Qk} {k0' k1' k2' k3' k5':Option Qj} {newId':String}
end
section
variable {X:Cx}
theorem t5{bs:List Bool}{its:List Qj}(r:aD (bs.map V.bl) its):its=bs.map L8:=by
 induction bs generalizing its with
 | nil=>cases r;rfl
 | cons b bs ih=>
  rw [Kb] at r;cases r with
  | cons r1 r2=>
   rw [Kb,<-ih r2];exact congrArg (·::_) r1
theorem Dw(bs:List Bool)(f:Nat->Bool)(h:∀i,i < bs.length->f i=bs.getD i true):(KU bs.length).all f=bs.all id:=by
 rw [ML,Lj,Lj];constructor
 ·intro z b hb;obtain⟨i,hi,e⟩:=Nr hb;have:=z i (L5.mpr hi);rw [h i hi,KG,Kc hi] at this;rw [<-e];exact this
 ·intro z i hi;have hi:=L5.mp hi;rw [h i hi,KG,Kc hi];exact z _ (K9 hi)
theorem Dx(bs:List Bool)(f:Nat->Bool)(h:∀i,i < bs.length->f i=bs.getD i true):(KU bs.length).any f=bs.any id:=by
 rw [ML,LO,LO];constructor
 ·rintro⟨i,hi,z⟩;have hi:=L5.mp hi;rw [h i hi,KG,Kc hi] at z;exact⟨_,K9 hi,z⟩
 ·rintro⟨b,hb,z⟩;obtain⟨i,hi,e⟩:=Nr hb;refine⟨i,L5.mpr hi,?_⟩;rw [h i hi,KG,Kc hi];show bs[i]=true;rw [e];exact z
theorem t6{bs:List Bool}{i:Nat}{v:Qj}(h:(bs.map L8).toArray[i]?=some v):v= .bool (bs.getD i true):=by
 have h':(bs.map L8)[i]?=some v:=by simpa using h
 rw [Kj] at h';cases e:bs[i]? with
 | none=>rw [e] at h';cases h'
 | some b=>
  rw [e] at h';rw [KG,e];exact(K4 h').symm
theorem t7{prog:Qu}{w:Qw}{A:QC}{E:Qj->Ql->Prop}{s:Ql}{l:Qk}{items:Array Qj}{Q:Qj->Ql->Prop}(hl:s.heap.IsList l items)
 (h:∀s₂:Ql,s₂={s with heap:=s.heap.push {cls:= .type "list_iterator",data:= .fields #[.ref l,.int 0 0]}}->
  (s₂.heap.IsListIter s.heap.objs.size l 0/\s₂.heap.IsList l items)->l≠s.heap.objs.size->Q (.ref s.heap.objs.size) s₂):Qr (Qs prog w) A (pyIter (.ref l)) Q E s:=by
 have hlt:l < s.heap.objs.size:=by obtain⟨_,e,_⟩:=hl;exact Km e
 exact Ru hl (h _ rfl ⟨⟨_,KN _ rfl,rfl,rfl⟩,hl.push _⟩ (KH hlt))
theorem ju(hc:X.calm=true):cT X (.builtin "all") (λxs H Q=>∃(a:Qk)(bs:List Bool),xs=[.ref a]/\aX X.K H a (bs.map V.bl)/\Q (.bl (bs.all id)) H):=by
 intro RB s σ H xs us Q I r h;obtain⟨a,bs,rfl,hl,q⟩:=h;obtain⟨u,rfl,rx⟩:=cW r;cases rx;obtain⟨its,rv,p,hz⟩:=I.list hl;have hi:=t5 rv;subst hi;refine call_all_walk (t7 p.isList λs₂ e st hlI=>?_);subst e;refine⟨_,_,_,_,_,_,λi=>bs.getD i true,rfl,Pn (A:=X.A.in1) (I.ok.hd hc) _ a hlI _,st,λi v s' Q' E' hP hq=>by rw [t6 hP];exact QF hq,λh' tk hk=>?_⟩;have e:=Dw bs (λi=>bs.getD i true) λ_ _=>rfl;have e2:(Kv L8 bs).toArray.size=bs.length:=Qh
 rw [e2,e];exact⟨.bl (bs.all id),H,I.kept (old_kept hk),rfl,q⟩
theorem t8(hc:X.calm=true):cT X (.builtin "any") (λxs H Q=>∃(a:Qk)(bs:List Bool),xs=[.ref a]/\aX X.K H a (bs.map V.bl)/\Q (.bl (bs.any id)) H):=by
 intro RB s σ H xs us Q I r h;obtain⟨a,bs,rfl,hl,q⟩:=h;obtain⟨u,rfl,rx⟩:=cW r;cases rx;obtain⟨its,rv,p,hz⟩:=I.list hl;have hi:=t5 rv;subst hi;refine call_any_walk (t7 p.isList λs₂ e st hlI=>?_);subst e;refine⟨_,_,_,_,_,_,λi=>bs.getD i true,rfl,Pn (A:=X.A.in1) (I.ok.hd hc) _ a hlI _,st,λi v s' Q' E' hP hq=>by rw [t6 hP];exact QF hq,λh' tk hk=>?_⟩;have e:=Dx bs (λi=>bs.getD i true) λ_ _=>rfl;have e2:(Kv L8 bs).toArray.size=bs.length:=Qh
 rw [e2,e];exact⟨.bl (bs.any id),H,I.kept (old_kept hk),rfl,q⟩
end
open PySem PySem.Spec PyProof.Rows PySem.W PySem.Calls PySem.Builtin.ObjectAttr PySem.Builtin PySem.Builtin.Getset_descriptor
section
variable {X:Cx}
abbrev bL(d:Qi):Prop:=Kf d=true
end
theorem jv:QB "all"=some (.builtin "all"):=Qa
theorem t9:QB "any"=some (.builtin "any"):=Qa
def Dy(p:Qk)(h:Qy):Prop:=∃(n:Int)(t:Tok)(k:Nat),h.get? p=some {cls:= .type "list",data:= .seq #[.int n t] k}
abbrev Dz(p:Qk):HO:= .ext (Dy p)
abbrev DC:Qi:= .dict [(.none,.none)]
def DD(p:Qk)(h:Qy):Prop:=∃(a b c:Int)(t u v:Tok)(k:Nat),h.get? p=some {cls:= .type "list",data:= .seq #[.int a t,.int b u,.int c v] k}
abbrev fK(p:Qk):HO:= .ext (DD p)
abbrev dG:Qi:= .dict [(.none,.bool true)]
abbrev dS(ds:List Qi):Qi:= .dict [(.none,.list ds)]
abbrev DH(C:Qk)(kp ds:List Qi):Qi:= .dict [(.none,.tuple [.int (C:Int),.list kp,.list ds])]
abbrev ua(kp ds:List Qi):Qi:= .dict [(.bool true,.tuple [.list kp,.list ds])]
abbrev Ex:=Qk->Prop
abbrev kB:Hp:=λ_=>none
mutual
inductive Dt (K:J0) (H:Hp) (O:Ex):V->Qi->Prop
 | non:Dt K H O .non .none
 | bl (b:Bool):Dt K H O (.bl b) (.bool b)
 | int (i:Int):Dt K H O (.int i) (.int i)
 | str (x:Str):Dt K H O (.str x) (.str x)
 | tup {a:Qk} {xs:List V} {ds:List Qi}:Rd H a (.tup xs)->¬O a->ai K H O xs ds->Dt K H O (.ref a) (.tuple ds)
 | tupK {a:Qk} {xs:List V} {ds:List Qi}:bg K kB a xs->ai K H O xs ds->Dt K H O (.ref a) (.tuple ds)
 | lst {a:Qk} {xs:List V} {ds:List Qi}:Rd H a (.lst xs)->¬O a->ai K H O xs ds->Dt K H O (.ref a) (.list ds)
 | pack {p:Qk}:H p=some (Dz p)->¬O p->Dt K H O (.ref p) DC
 | purse {p:Qk}:H p=some (fK p)->¬O p->Dt K H O (.ref p) dG
 | dct0 {a:Qk}:H a=some (.dK [])->¬O a->Dt K H O (.ref a) (.dict [])
 | obj {a C dx:Qk} {fs:List (Str×V)} {kp ds:List Qi}:H a=some (.ins C dx fs)->kp=fs.map (λp=>J5 p.1)->¬O a->ai K H O (fs.map (·.2)) ds->Dt K H O (.ref a) (DH C kp ds)
 | dic {a:Qk} {ob:Obj} {kv:List (ah×V)} {ks:List Str} {kp ds:List Qi}:H a=some (.frz ob (.dK kv))->kv.map (·.1)=ks.map Lg->kp=ks.map J5->¬O a->ai K H O (kv.map (·.2)) ds->Dt K H O (.ref a) (ua kp ds)
 | scr {a:Qk} {xs:List V} {ds:List Qi}:(Rd H a (.lst xs)/\¬O a)\/aX K kB a xs->ai K H O xs ds->Dt K H O (.ref a) (dS ds)
inductive ai (K:J0) (H:Hp) (O:Ex):List V->List Qi->Prop
 | nil:ai K H O [] []
 | cons {v:V} {d:Qi} {vs:List V} {ds:List Qi}:Dt K H O v d->ai K H O vs ds->ai K H O (v::vs) (d::ds)
end
theorem Rd.same{H H':Hp}{a:Qk}{u:HO}(s:∀o,H a=some o->H' a=some o)(h:Rd H a u):Rd H' a u:=by
 rcases h with h | ⟨o,h⟩
 ·exact .inl (s _ h)
 ·exact .inr ⟨o,s _ h⟩
theorem Rd.trk{H:Hp}{a:Qk}{u:HO}(h:Rd H a u):H a≠none:=by
 rcases h with h | ⟨o,h⟩ <;> rw [h] <;> exact λz=>nomatch z
section
variable {K:J0}
structure aN (H H':Hp) (O O':Ex):Prop where
 keep:∀b o,H b=some o->¬O b->H' b=some o
 out:∀b,H b≠none->¬O b->¬O' b
mutual
theorem Dt.step{H H':Hp}{O O':Ex}(S:aN H H' O O'):∀{v:V}{d:Qi},Dt K H O v d->Dt K H' O' v d
 | _,_,.non=>.non
 | _,_,.bl b=>.bl b
 | _,_,.int i=>.int i
 | _,_,.str x=>.str x
 | _,_,.tup h n r=>.tup (h.same λo e=>S.keep _ o e n) (S.out _ h.trk n) (ai.step S r)
 | _,_,.tupK h r=>.tupK h (ai.step S r)
 | _,_,.lst h n r=>.lst (h.same λo e=>S.keep _ o e n) (S.out _ h.trk n) (ai.step S r)
 | _,_,.pack h n=>.pack (S.keep _ _ h n) (S.out _ (by rw [h];exact λz=>nomatch z) n)
 | _,_,.purse h n=>.purse (S.keep _ _ h n) (S.out _ (by rw [h];exact λz=>nomatch z) n)
 | _,_,.dct0 h n=>.dct0 (S.keep _ _ h n) (S.out _ (by rw [h];exact λz=>nomatch z) n)
 | _,_,.obj h e n r=>.obj (S.keep _ _ h n) e (S.out _ (by rw [h];exact λz=>nomatch z) n) (ai.step S r)
 | _,_,.dic h e1 e2 n r=>.dic (S.keep _ _ h n) e1 e2 (S.out _ (by rw [h];exact λz=>nomatch z) n) (ai.step S r)
 | _,_,.scr h r=>.scr (h.imp (λh=>⟨h.1.same λo e=>S.keep _ o e h.2,S.out _ h.1.trk h.2⟩) id) (ai.step S r)
theorem ai.step{H H':Hp}{O O':Ex}(S:aN H H' O O'):∀{vs:List V}{ds:List Qi},ai K H O vs ds->ai K H' O' vs ds
 | _,_,.nil=>.nil
 | _,_,.cons h r=>.cons (Dt.step S h) (ai.step S r)
end
theorem aN.same{H H':Hp}{O:Ex}(s:ar H H'):aN H H' O O:=⟨λb o e _=>s b o e,λ_ _ n=>n⟩
theorem Dt.mono{H H':Hp}{O:Ex}{v:V}{d:Qi}(s:ar H H')(h:Dt K H O v d):Dt K H' O v d:=h.step (.same s)
theorem ai.mono{H H':Hp}{O:Ex}{v:List V}{d:List Qi}(s:ar H H')(h:ai K H O v d):ai K H' O v d:=h.step (.same s)
theorem ai.length{H:Hp}{O:Ex}:∀{vs:List V}{ds:List Qi},ai K H O vs ds->vs.length=ds.length
 | _,_,.nil=>rfl
 | _,_,.cons _ r=>by rw [Kt,Kt,ai.length r]
theorem ai.get{H:Hp}{O:Ex}:∀{vs:List V}{ds:List Qi}{i:Nat}{v:V},ai K H O vs ds->vs[i]?=some v->∃d,ds[i]?=some d/\Dt K H O v d
 | _,_,_,_,.nil,e=>by simp at e
 | _,_,0,_,.cons h _,e=>by simp at e;subst e;exact⟨_,rfl,h⟩
 | _,_,i+1,_,.cons _ r,e=>by simpa using ai.get (i:=i) r (by simpa using e)
theorem ai.getD{H:Hp}{O:Ex}:∀{vs:List V}{ds:List Qi}{i:Nat}{d:Qi},ai K H O vs ds->ds[i]?=some d->∃v,vs[i]?=some v/\Dt K H O v d
 | _,_,_,_,.nil,e=>by simp at e
 | _,_,0,_,.cons h _,e=>by simp at e;subst e;exact⟨_,rfl,h⟩
 | _,_,i+1,_,.cons _ r,e=>by simpa using ai.getD (i:=i) r (by simpa using e)
theorem ai.append{H:Hp}{O:Ex}:∀{vs ws:List V}{ds es:List Qi},ai K H O vs ds->ai K H O ws es->ai K H O (vs++ws) (ds++es)
 | _,_,_,_,.nil,s=>s
 | _,_,_,_,.cons h r,s=>.cons h (ai.append r s)
theorem ai.take{H:Hp}{O:Ex}:∀{vs:List V}{ds:List Qi}(n:Nat),ai K H O vs ds->ai K H O (vs.take n) (ds.take n)
 | _,_,0,_=>.nil
 | _,_,_+1,.nil=>.nil
 | _,_,n+1,.cons h r=>.cons h (ai.take n r)
theorem ai.drop{H:Hp}{O:Ex}:∀{vs:List V}{ds:List Qi}(n:Nat),ai K H O vs ds->ai K H O (vs.drop n) (ds.drop n)
 | _,_,0,r=>r
 | _,_,_+1,.nil=>.nil
 | _,_,n+1,.cons _ r=>ai.drop n r
theorem ai.reverse{H:Hp}{O:Ex}:∀{vs:List V}{ds:List Qi},ai K H O vs ds->ai K H O vs.reverse ds.reverse
 | _,_,.nil=>.nil
 | _,_,.cons h r=>by rw [M3,M3];exact(ai.reverse r).append (.cons h .nil)
theorem ai.ints{H:Hp}{O:Ex}:∀(ns:List Int),ai K H O (ns.map V.int) (ns.map J7)
 | []=>.nil
 | n::r=>.cons (.int n) (ai.ints r)
inductive Sh (K:J0) (H:Hp) (O:Ex):V->Qi->Prop
 | dt {v:V} {d:Qi}:Dt K H O v d->Sh K H O v d
 | own {l:Qk} {vs:List V} {ds:List Qi}:H l=some (.lst vs)->ai K H O vs ds->Sh K H O (.ref l) (.list ds)
theorem Sh.mono{H H':Hp}{O:Ex}{v:V}{d:Qi}(s:ar H H'):Sh K H O v d->Sh K H' O v d
 | .dt h=>.dt (h.mono s)
 | .own h r=>.own (s _ _ h) (r.mono s)
theorem Dt.all{H:Hp}{O:Ex}{v:V}{d:Qi}(h:Dt K H O v d):Dt K H (λ_=>False) v d:=h.step ⟨λ_ _ e _=>e,λ_ _ _ z=>z⟩
theorem ai.all{H:Hp}{O:Ex}{v:List V}{d:List Qi}(h:ai K H O v d):ai K H (λ_=>False) v d:=h.step ⟨λ_ _ e _=>e,λ_ _ _ z=>z⟩
theorem Sh.all{H:Hp}{O:Ex}{v:V}{d:Qi}:Sh K H O v d->Dt K H (λ_=>False) v d
 | .dt h=>h.all
 | .own h r=>.lst (.inl h) (λz=>z) r.all
theorem bg.of0{H:Hp}{a:Qk}{xs:List V}(h:bg K kB a xs):bg K H a xs:=by
 rcases h with(h | ⟨o,h⟩) | h
 ·cases h
 ·cases h
 ·exact .inr h
theorem aX.of0{H:Hp}{a:Qk}{xs:List V}(h:aX K kB a xs):aX K H a xs:=by
 rcases h with(h | ⟨o,h⟩) | h
 ·cases h
 ·cases h
 ·exact .inr h
theorem Sh.tup{H:Hp}{O:Ex}{v:V}{ds:List Qi}(h:Sh K H O v (.tuple ds)):∃a xs,v= .ref a/\bg K H a xs/\ai K H O xs ds:=by
 cases h with
 | dt h=>
  cases h with
  | tup h _ r=>exact⟨_,_,rfl,.inl h,r⟩
  | tupK h r=>exact⟨_,_,rfl,h.of0,r⟩
theorem Sh.lstR{H:Hp}{O:Ex}{v:V}{ds:List Qi}(h:Sh K H O v (.list ds)):∃a xs,v= .ref a/\Rd H a (.lst xs)/\ai K H O xs ds:=by
 cases h with
 | dt h=>
  cases h with
  | lst h _ r=>exact⟨_,_,rfl,h,r⟩
 | own h r=>exact⟨_,_,rfl,.inl h,r⟩
theorem Sh.lst{H:Hp}{O:Ex}{v:V}{ds:List Qi}(h:Sh K H O v (.list ds)):∃a xs,v= .ref a/\aX K H a xs/\ai K H O xs ds:=by
 obtain⟨a,xs,e,h,r⟩:=h.lstR;exact⟨a,xs,e,.inl h,r⟩
theorem Sh.scr{H:Hp}{O:Ex}{v:V}{ds:List Qi}(h:Sh K H O v (dS ds)):∃a xs,v= .ref a/\aX K H a xs/\ai K H O xs ds:=by
 cases h with
 | dt h=>
  cases h with
  | scr h r=>
   rcases h with h | h
   ·exact⟨_,_,rfl,.inl h.1,r⟩
   ·exact⟨_,_,rfl,h.of0,r⟩
theorem Sh.int{H:Hp}{O:Ex}{v:V}{i:Int}(h:Sh K H O v (.int i)):v= .int i:=by cases h with | dt h=>cases h;rfl
theorem Sh.bl{H:Hp}{O:Ex}{v:V}{i:Bool}(h:Sh K H O v (.bool i)):v= .bl i:=by cases h with | dt h=>cases h;rfl
theorem Sh.str{H:Hp}{O:Ex}{v:V}{i:Str}(h:Sh K H O v (.str i)):v= .str i:=by cases h with | dt h=>cases h;rfl
theorem Sh.non{H:Hp}{O:Ex}{v:V}(h:Sh K H O v .none):v= .non:=by cases h with | dt h=>cases h;rfl
def mi:Qi->Bool
 | .none | .bool _ | .int _ | .str _=>true
 | _=>false
end
section
variable {X:Cx} {RB:List (Qk×Obj)} {σ:St} {H:Hp} {s:Ql}
mutual
theorem fL(I:af X RB σ H s){O:Ex}:∀{v:V}{d:Qi}{u:Qj},Dt X.K H O v d->d.canLay0=true->aC v u->∃as,Reads s.heap u d as
 | _,_,_,.non,_,r=>by cases r;exact⟨_,Reads.none⟩
 | _,_,_,.bl b,_,r=>by cases r;exact⟨_,Reads.bool b⟩
 | _,_,_,.int i,_,r=>by obtain⟨t,rfl⟩:=r;exact⟨_,Reads.int i t⟩
 | _,_,_,.str x,_,r=>by obtain⟨t,rfl⟩:=r;exact⟨_,Reads.str x t⟩
 | _,_,_,.tup h _ hs,c,r=>by
  cases r;obtain⟨its,rv,⟨o,e,c',n,dd⟩,_⟩:=I.tuple (.inl h);obtain⟨as,q⟩:=mj I hs (by simpa [K0] using c) rv;exact⟨as,reads_tuple_at e c' dd (by simpa using q)⟩
 | _,_,_,.tupK h hs,c,r=>by
  cases r;obtain⟨its,rv,⟨o,e,c',n,dd⟩,_⟩:=I.tuple h.of0;obtain⟨as,q⟩:=mj I hs (by simpa [K0] using c) rv;exact⟨as,reads_tuple_at e c' dd (by simpa using q)⟩
 | _,_,_,.lst h _ hs,c,r=>by
  cases r;obtain⟨its,rv,⟨o,n,e,c',_,dd⟩,_⟩:=I.list (.inl h);obtain⟨as,q⟩:=mj I hs (by simpa [K0] using c) rv;exact⟨_,reads_list_at e c' dd (by simpa using q)⟩
 | _,_,_,.pack _ _,c,_=>by simp [K0] at c
 | _,_,_,.purse _ _,c,_=>by simp [K0] at c
 | _,_,_,.dct0 _ _,c,_=>by simp [K0] at c
 | _,_,_,.obj _ _ _ _,c,_=>by simp [K0] at c
 | _,_,_,.dic _ _ _ _ _,c,_=>by simp [K0] at c
 | _,_,_,.scr _ _,c,_=>by simp [K0] at c
theorem mj(I:af X RB σ H s){O:Ex}:∀{vs:List V}{ds:List Qi}{us:List Qj},ai X.K H O vs ds->Lf ds=true->aD vs us->∃as,ReadsAll s.heap us ds as
 | _,_,_,.nil,_,r=>by cases r;exact⟨_,ReadsAll.nil⟩
 | _,_,_,.cons h hs,c,r=>by
  rw [Lf,Ks] at c;cases r with
  | cons r1 r2=>
   obtain⟨as,q⟩:=fL I h c.1 r1;obtain⟨bs,p⟩:=mj I hs c.2 r2;exact⟨_,ReadsAll.cons q p⟩
end
end
inductive Sl where
 | v (d:Qi)
 | o (ds:List Qi)
 | k (kd:List (ah×Qi))
 | i (l C:Qk) (fd:List (Str×Qi))
 | r (l C g u:Qk) (fd:List (Str×Qi)) (gd ud:List (ah×Qi))
 | b (ds:List Qi)
abbrev Dl:=List (Option Sl)
inductive bo (K:J0) (H:Hp) (O:Ex):List (ah×V)->List (ah×Qi)->Prop
 | nil:bo K H O [] []
 | cons {k:ah} {v:V} {d:Qi} {r:List (ah×V)} {s:List (ah×Qi)}:Dt K H O v d->bo K H O r s->bo K H O ((k,v)::r) ((k,d)::s)
theorem bo.step{K:J0}{H H':Hp}{O O':Ex}(S:aN H H' O O'){r:List (ah×V)}{s:List (ah×Qi)}(h:bo K H O r s):bo K H' O' r s:=by
 induction h with
 | nil=>exact .nil
 | cons a _ ih=>exact .cons (a.step S) ih
theorem bo.mono{K:J0}{H H':Hp}{O:Ex}(S:ar H H'){r:List (ah×V)}{s:List (ah×Qi)}(h:bo K H O r s):bo K H' O r s:=h.step (.same S)
def pj(K:J0)(H:Hp)(O:Ex)(fs:List (Str×V))(fd:List (Str×Qi)):Prop:=fs.map (·.1)=fd.map (·.1)/\ai K H O (fs.map (·.2)) (fd.map (·.2))
def Sl.own:Sl->Prop
 | .v _=>False
 | .b _=>False
 | _=>True
abbrev DI:Str:=J4 "gone"
abbrev DJ:Str:=J4 "used"
def DK(K:J0)(H:Hp)(O0 O:Ex)(l C g u:Qk)(fd:List (Str×Qi))(gd ud:List (ah×Qi)):Prop:=∃dx fs og ou gv uv,H l=some (.ins C dx (fs++[(DI,.ref g),(DJ,.ref u)]))/\pj K H O fs fd/\g≠u/\
 (O g/\¬O0 g/\H g=some (.frz og (.dK gv))/\bo K H O gv gd)/\(O u/\¬O0 u/\H u=some (.frz ou (.dK uv))/\bo K H O uv ud)
def gN(K:J0)(H:Hp)(O0 O:Ex)(x:Option V):Option Sl->Prop
 | none=>True
 | some (.v d)=>∃v,x=some v/\Dt K H O v d
 | some (.o ds)=>∃l vs,x=some (.ref l)/\O l/\¬O0 l/\H l=some (.lst vs)/\ai K H O vs ds
 | some (.k kd)=>∃l kv,x=some (.ref l)/\O l/\¬O0 l/\H l=some (.dK kv)/\bo K H O kv kd
 | some (.i l C fd)=>∃dx fs,x=some (.ref l)/\O l/\¬O0 l/\H l=some (.ins C dx fs)/\pj K H O fs fd
 | some (.r l C g u fd gd ud)=>x=some (.ref l)/\O l/\¬O0 l/\DK K H O0 O l C g u fd gd ud
 | some (.b ds)=>∃l vs,x=some (.ref l)/\O0 l/\H l=some (.lst vs)/\ai K H O vs ds
structure Wd (K:J0) (H0:Hp) (O0:Ex) (H:Hp) (O:Ex) (σ:St) (δ:Dl):Prop where
 same:ar H0 H
 sub:∀l,O0 l->O l
 new:∀l,O l->O0 l\/H0 l=none
 trk:∀l,O l->H l≠none
 len:σ.length=δ.length
 sl:∀(i:Nat) y,δ[i]?=some y->gN K H O0 O ((σ[i]?).join) y
 dis:∀(i j:Nat) y z l,δ[i]?=some (some y)->y.own->δ[j]?=some (some z)->z.own->σ[i]?=some (some (.ref l))->σ[j]?=some (some (.ref l))->i=j
section
variable {K:J0} {H0 H H':Hp} {O0 O:Ex} {σ:St} {δ:Dl}
theorem gN.mono{x:Option V}{y:Option Sl}(s:ar H H')(h:gN K H O0 O x y):gN K H' O0 O x y:=by
 cases y with
 | none=>exact Lw
 | some y=>
  cases y with
  | v d=>
   obtain⟨v,e,r⟩:=h;exact⟨v,e,r.mono s⟩
  | o ds=>
   obtain⟨l,vs,e,a,b,c,r⟩:=h;exact⟨l,vs,e,a,b,s _ _ c,r.mono s⟩
  | k ds=>
   obtain⟨l,vs,e,a,b,c,r⟩:=h;exact⟨l,vs,e,a,b,s _ _ c,r.mono s⟩
  | i l C ds=>
   obtain⟨dx,vs,e,a,b,c,r1,r2⟩:=h;exact⟨dx,vs,e,a,b,s _ _ c,r1,r2.mono s⟩
  | r l C g u fd gd ud=>
   obtain⟨e,a,b,dx,fs,og,ou,gv,uv,c,⟨r1,r2⟩,ne,⟨g1,g2,g3,g4⟩,u1,u2,u3,u4⟩:=h;exact⟨e,a,b,dx,fs,og,ou,gv,uv,s _ _ c,⟨r1,r2.mono s⟩,ne,⟨g1,g2,s _ _ g3,g4.mono s⟩,u1,u2,s _ _ u3,u4.mono s⟩
  | b ds=>
   obtain⟨l,vs,e,a,c,r⟩:=h;exact⟨l,vs,e,a,s _ _ c,r.mono s⟩
theorem gN.go{O':Ex}{x:Option V}{y:Option Sl}(h:gN K H O0 O x y)(S:aN H H' O O')(kp:∀l o,y.any (λz=>match z with | .v _=>false | .b _=>false | _=>true)=true->x=some (.ref l)->O l->¬O0 l->H l=some o->O' l/\H' l=some o)
 (kp2:∀a o u,O a->¬O0 a->H a=some (.frz o u)->O' a/\H' a=some (.frz o u))(kp3:∀a o,O0 a->H a=some o->H' a=some o):gN K H' O0 O' x y:=by
 cases y with
 | none=>exact Lw
 | some y=>
  cases y with
  | v d=>
   obtain⟨v,e,r⟩:=h;exact⟨v,e,r.step S⟩
  | o ds=>
   obtain⟨l,vs,e,a,b,c,r⟩:=h;exact⟨l,vs,e,(kp l _ rfl e a b c).1,b,(kp l _ rfl e a b c).2,r.step S⟩
  | k ds=>
   obtain⟨l,vs,e,a,b,c,r⟩:=h;exact⟨l,vs,e,(kp l _ rfl e a b c).1,b,(kp l _ rfl e a b c).2,r.step S⟩
  | i l C ds=>
   obtain⟨dx,vs,e,a,b,c,r1,r2⟩:=h;exact⟨dx,vs,e,(kp l _ rfl e a b c).1,b,(kp l _ rfl e a b c).2,r1,r2.step S⟩
  | r l C g u fd gd ud=>
   obtain⟨e,a,b,dx,fs,og,ou,gv,uv,c,⟨r1,r2⟩,ne,⟨g1,g2,g3,g4⟩,u1,u2,u3,u4⟩:=h;exact⟨e,(kp l _ rfl e a b c).1,b,dx,fs,og,ou,gv,uv,(kp l _ rfl e a b c).2,⟨r1,r2.step S⟩,ne,⟨(kp2 _ _ _ g1 g2 g3).1,g2,(kp2 _ _ _ g1 g2 g3).2,g4.step S⟩,(kp2 _ _ _ u1 u2 u3).1,u2,(kp2 _ _ _ u1 u2 u3).2,u4.step S⟩
  | b ds=>
   obtain⟨l,vs,e,a,c,r⟩:=h;exact⟨l,vs,e,a,kp3 _ _ a c,r.step S⟩
theorem Wd.mono(s:ar H H')(w:Wd K H0 O0 H O σ δ):Wd K H0 O0 H' O σ δ:=
 ⟨w.same.trans s,w.sub,w.new,λl h z=>(by
  cases e:H l with
  | none=>exact w.trk l h e
  | some o=>rw [s _ _ e] at z;cases z),w.len,λi y e=>(w.sl i y e).mono s,w.dis⟩
theorem ia{i:Nat}{v:V}(h:(σ[i]?).join=some v):σ[i]?=some (some v):=by
 cases q:σ[i]? with
 | none=>rw [q] at h;cases h
 | some o=>rw [q] at h;rw [show o=some v from h]
theorem Wd.val(w:Wd K H0 O0 H O σ δ){i:Nat}{d:Qi}(e:δ[i]?=some (some (.v d))):∃v,σ[i]?=some (some v)/\Dt K H O v d:=by
 obtain⟨v,h,r⟩:=w.sl i _ e;exact⟨v,ia h,r⟩
theorem Wd.own(w:Wd K H0 O0 H O σ δ){i:Nat}{ds:List Qi}(e:δ[i]?=some (some (.o ds))):∃l vs,σ[i]?=some (some (.ref l))/\O l/\¬O0 l/\H l=some (.lst vs)/\ai K H O vs ds:=by
 obtain⟨l,vs,h,r⟩:=w.sl i _ e;exact⟨l,vs,ia h,r⟩
theorem Wd.ownK(w:Wd K H0 O0 H O σ δ){i:Nat}{kd:List (ah×Qi)}(e:δ[i]?=some (some (.k kd))):∃l kv,σ[i]?=some (some (.ref l))/\O l/\¬O0 l/\H l=some (.dK kv)/\bo K H O kv kd:=by
 obtain⟨l,vs,h,r⟩:=w.sl i _ e;exact⟨l,vs,ia h,r⟩
theorem Wd.ownI(w:Wd K H0 O0 H O σ δ){i:Nat}{l C:Qk}{fd:List (Str×Qi)}(e:δ[i]?=some (some (.i l C fd))):∃dx fs,σ[i]?=some (some (.ref l))/\O l/\¬O0 l/\H l=some (.ins C dx fs)/\pj K H O fs fd:=by
 obtain⟨dx,vs,h,r⟩:=w.sl i _ e;exact⟨dx,vs,ia h,r⟩
theorem Wd.adr(w:Wd K H0 O0 H O σ δ){i:Nat}{y:Sl}(e:δ[i]?=some (some y))(h:y.own):∃l,σ[i]?=some (some (.ref l))/\O l/\¬O0 l:=by
 match y,h,e with
 | .o ds,_,e=>obtain⟨l,vs,a,b,c,_⟩:=w.own e;exact⟨l,a,b,c⟩
 | .k ds,_,e=>obtain⟨l,vs,a,b,c,_⟩:=w.ownK e;exact⟨l,a,b,c⟩
 | .i l C ds,_,e=>obtain⟨dx,vs,a,b,c,_⟩:=w.ownI e;exact⟨l,a,b,c⟩
 | .r l C g u fd gd ud,_,e=>obtain⟨a,b,c,_⟩:=w.sl i _ e;exact⟨l,ia a,b,c⟩
theorem Wd.nofrz(w:Wd K H0 O0 H O σ δ){i:Nat}{y:Sl}{l:Qk}(e:δ[i]?=some (some y))(h:y.own)(hl:σ[i]?=some (some (.ref l)))(o:Obj)(u:HO):H l≠some (.frz o u):=by
 match y,h,e with
 | .o ds,_,e=>obtain⟨l',vs,a,b,c,d,_⟩:=w.own e;rw [hl] at a;cases a;rw [d];exact λz=>nomatch z
 | .k ds,_,e=>obtain⟨l',vs,a,b,c,d,_⟩:=w.ownK e;rw [hl] at a;cases a;rw [d];exact λz=>nomatch z
 | .i l C ds,_,e=>obtain⟨dx,vs,a,b,c,d,_⟩:=w.ownI e;rw [hl] at a;cases a;rw [d];exact λz=>nomatch z
 | .r l C g u fd gd ud,_,e=>obtain⟨a,b,c,_,_,_,_,_,_,d,_⟩:=w.sl i _ e;have a:=ia a;rw [hl] at a;cases a;rw [d];exact λz=>nomatch z
theorem Wd.set(w:Wd K H0 O0 H O σ δ){i:Nat}{v:V}{d:Qi}(h:Dt K H O v d):Wd K H0 O0 H O (σ.set i (some v)) (δ.set i (some (.v d))):=by
 refine⟨w.same,w.sub,w.new,w.trk,by simp [w.len],λj y e=>?_,λj k y z l e1 y1 e2 z2 e3 e4=>?_⟩
 ·by_cases hj:j=i
  ·subst hj;have hl:j < δ.length:=by
    have:=(Kg.mp e).1;simpa using this
   rw [KP hl] at e;cases e;rw [KP (by rw [w.len];exact hl)];exact⟨v,rfl,h⟩
  ·rw [KC (Ne.symm hj)] at e⊢;exact w.sl j y e
 ·have ne:∀{j:Nat}{y:Sl},(δ.set i (some (.v d)))[j]?=some (some y)->y.own->j≠i:=λ{j y} e ho z=>by
   subst z;by_cases hl:j < δ.length
   ·rw [KP hl] at e;cases e;exact ho
   ·rw [Nd (by simpa using hl)] at e;cases e
  have n1:=ne e1 y1;have n2:=ne e2 z2;rw [KC (Ne.symm n1)] at e1 e3;rw [KC (Ne.symm n2)] at e2 e4;exact w.dis j k y z l e1 y1 e2 z2 e3 e4
theorem Wd.setY(w:Wd K H0 O0 H O σ δ){i:Nat}{p:Qk}{ho:HO}{y0:Sl}(hy:y0.own)(hp:H p=none)(h:∀O',aN H (aq H p ho) O O'->O' p->¬O0 p->gN K (aq H p ho) O0 O' (some (.ref p)) (some y0)):
 Wd K H0 O0 (aq H p ho) (λl=>O l\/l=p) (σ.set i (some (.ref p))) (δ.set i (some y0)):=by
 have sm:ar H (aq H p ho):=ar.new hp;have np:∀l,O l->l≠p:=λl hl z=>w.trk l hl (by rw [z];exact hp);have p0:H0 p=none:=by
  cases e:H0 p with
  | none=>rfl
  | some o=>rw [w.same _ _ e] at hp;cases hp
 have S:aN H (aq H p ho) O (λl=>O l\/l=p):=⟨λb o e _=>sm b o e,λb hb hn z=>z.elim hn λq=>hb (by rw [q];exact hp)⟩;have n0:¬O0 p:=λz=>np p (w.sub p z) rfl;refine⟨w.same.trans sm,λl z=>.inl (w.sub l z),λl z=>z.elim (w.new l) λq=>.inr (by rw [q];exact p0),λl z=>?_,by simp [w.len],λj y e=>?_,λj k y z l e1 y1 e2 z2 e3 e4=>?_⟩
 ·by_cases q:l=p
  ·rw [q,bq];exact λz=>nomatch z
  ·rw [aH q];exact w.trk l (z.resolve_right q)
 ·by_cases hj:j=i
  ·subst hj;have hl:j < δ.length:=by
    have:=(Kg.mp e).1;simpa using this
   rw [KP hl] at e;cases e;rw [KP (by rw [w.len];exact hl)];exact h _ S (.inr rfl) n0
  ·rw [KC (Ne.symm hj)] at e⊢;exact(w.sl j y e).go S (λl o _ _ a _ c=>⟨.inl a,sm _ _ c⟩) (λa o u a1 _ a3=>⟨.inl a1,sm _ _ a3⟩) λa o _ a3=>sm _ _ a3
 ·by_cases hj:j=i
  ·by_cases hk:k=i
   ·rw [hj,hk]
   ·exfalso;rw [hj] at e1 e3;have hl:i < σ.length:=by
     have:=(Kg.mp e3).1;simpa using this
    rw [KP hl] at e3;cases e3;rw [KC (Ne.symm hk)] at e2 e4;obtain⟨l',x1,x2,_⟩:=w.adr e2 z2;rw [e4] at x1;cases x1;exact np _ x2 rfl
  ·by_cases hk:k=i
   ·exfalso;rw [hk] at e2 e4;have hl:i < σ.length:=by
     have:=(Kg.mp e4).1;simpa using this
    rw [KP hl] at e4;cases e4;rw [KC (Ne.symm hj)] at e1 e3;obtain⟨l',x1,x2,_⟩:=w.adr e1 y1;rw [e3] at x1;cases x1;exact np _ x2 rfl
   ·rw [KC (Ne.symm hj)] at e1 e3;rw [KC (Ne.symm hk)] at e2 e4;exact w.dis j k _ _ l e1 y1 e2 z2 e3 e4
theorem Wd.setO(w:Wd K H0 O0 H O σ δ){i:Nat}{p:Qk}{vs:List V}{ds:List Qi}(hp:H p=none)(h:ai K H O vs ds):
 Wd K H0 O0 (aq H p (.lst vs)) (λl=>O l\/l=p) (σ.set i (some (.ref p))) (δ.set i (some (.o ds))):=
 w.setY trivial hp λO' S a b=>⟨p,vs,rfl,a,b,bq,h.step S⟩
theorem Wd.setK(w:Wd K H0 O0 H O σ δ){i:Nat}{p:Qk}{kv:List (ah×V)}{kd:List (ah×Qi)}(hp:H p=none)(h:bo K H O kv kd):
 Wd K H0 O0 (aq H p (.dK kv)) (λl=>O l\/l=p) (σ.set i (some (.ref p))) (δ.set i (some (.k kd))):=
 w.setY trivial hp λO' S a b=>⟨p,kv,rfl,a,b,bq,h.step S⟩
theorem Wd.putY(w:Wd K H0 O0 H O σ δ){i:Nat}{l:Qk}{ho:HO}{y0 y1:Sl}(h0:y0.own)(h1:y1.own)(e:δ[i]?=some (some y0))(hl:σ[i]?=some (some (.ref l)))(h:aN H (aq H l ho) O O->O l->¬O0 l->gN K (aq H l ho) O0 O (some (.ref l)) (some y1)):
 Wd K H0 O0 (aq H l ho) O σ (δ.set i (some y1)):=by
 obtain⟨l',x1,x2,x3⟩:=w.adr e h0;rw [hl] at x1;cases x1;have l0:H0 l=none:=(w.new l x2).resolve_left x3;have S:aN H (aq H l ho) O O:=⟨λb o q n=>by rw [aH (λz=>n (by rw [z];exact x2))];exact q,λ_ _ n=>n⟩;have li:i < δ.length:=(Kg.mp e).1;refine⟨λb o q=>by rw [aH (λz=>by rw [z,l0] at q;cases q)];exact w.same b o q,w.sub,w.new,λb z=>?_,by simp [w.len],λj y q=>?_,λj k y z b e1 y1' e2 z2 e3 e4=>?_⟩
 ·by_cases q:b=l
  ·rw [q,bq];exact λz=>nomatch z
  ·rw [aH q];exact w.trk b z
 ·by_cases hj:j=i
  ·subst hj;rw [KP li] at q;cases q;rw [hl];exact h S x2 x3
  ·rw [KC (Ne.symm hj)] at q;refine(w.sl j y q).go S (λb o ho' e' a1 a2 a3=>⟨a1,?_⟩) (λb o u a1 a2 a3=>⟨a1,by rw [aH (λz=>w.nofrz e h0 hl o u (by rw [<-z];exact a3))];exact a3⟩) λb o a1 a3=>by rw [aH (λz=>x3 (by rw [<-z];exact a1))];exact a3
   have nb:b≠l:=λz=>by
    subst z
    match y,ho',q with
    | some z,ho',q=>exact hj (w.dis j i z y0 b q (by cases z <;> first | trivial | cases ho') e h0 (ia e') hl)
   rw [aH nb];exact a3
 ·have fM:∀{j:Nat}{y:Sl},(δ.set i (some y1))[j]?=some (some y)->y.own->∃y',δ[j]?=some (some y')/\y'.own:=λ{j y} q hq=>by
   by_cases hj:j=i
   ·subst hj;exact⟨_,e,h0⟩
   ·rw [KC (Ne.symm hj)] at q;exact⟨_,q,hq⟩
  obtain⟨_,q1,r1⟩:=fM e1 y1';obtain⟨_,q2,r2⟩:=fM e2 z2;exact w.dis j k _ _ b q1 r1 q2 r2 e3 e4
theorem Wd.putO(w:Wd K H0 O0 H O σ δ){i:Nat}{l:Qk}{vs us:List V}{ds es:List Qi}(e:δ[i]?=some (some (.o ds)))(hl:σ[i]?=some (some (.ref l)))(h:ai K H O us es):
 Wd K H0 O0 (aq H l (.lst us)) O σ (δ.set i (some (.o es))):=
 w.putY (y0:= .o ds) (y1:= .o es) trivial trivial e hl λS a b=>⟨l,us,rfl,a,b,bq,h.step S⟩
theorem Wd.putK(w:Wd K H0 O0 H O σ δ){i:Nat}{l:Qk}{kv:List (ah×V)}{kd kd':List (ah×Qi)}(e:δ[i]?=some (some (.k kd)))(hl:σ[i]?=some (some (.ref l)))(h:bo K H O kv kd'):
 Wd K H0 O0 (aq H l (.dK kv)) O σ (δ.set i (some (.k kd'))):=
 w.putY (y0:= .k kd) (y1:= .k kd') trivial trivial e hl λS a b=>⟨l,kv,rfl,a,b,bq,h.step S⟩
end
abbrev DT:=Dl->(Qi->Prop)->Prop
abbrev DA:=Dl->(List Qi->Prop)->Prop
abbrev DB:=Dl->(Bool->Prop)->Prop
structure jw where
 nx:Dl->Prop
 rt:Qi->Prop
 bk:Dl->Prop:=λ_=>False
 ct:Dl->Prop:=λ_=>False
abbrev DS:=jw->Dl->Prop
section
variable (K:J0) (H0:Hp) (O0:Ex)
inductive up (t:DT) (σ:St) (H:Hp) (R:VK):Prop
 | mk (O:Ex) (δ:Dl) (Qd:Qi->Prop):Wd K H0 O0 H O σ δ->t δ Qd->(∀d v H',Qd d->ar H H'->Dt K H' O v d->R v H')->up t σ H R
inductive iQ (t:DT) (σ:St) (H:Hp) (R:VK):Prop
 | mk (O:Ex) (δ:Dl) (Qd:Qi->Prop):Wd K H0 O0 H O σ δ->t δ Qd->(∀d v H',Qd d->ar H H'->Sh K H' O v d->R v H')->iQ t σ H R
inductive fh (t:DA) (σ:St) (H:Hp) (R:List V->Hp->Prop):Prop
 | mk (O:Ex) (δ:Dl) (Qd:List Qi->Prop):Wd K H0 O0 H O σ δ->t δ Qd->(∀ds vs H',Qd ds->ar H H'->ai K H' O vs ds->R vs H')->fh t σ H R
inductive bM (t:DB) (σ:St) (H:Hp) (R:Bool->Hp->Prop):Prop
 | mk (O:Ex) (δ:Dl) (Qd:Bool->Prop):Wd K H0 O0 H O σ δ->t δ Qd->(∀b H',Qd b->ar H H'->R b H')->bM t σ H R
inductive bp (t:DS) (D:gG) (σ:St) (H:Hp):Prop
 | mk (O:Ex) (δ:Dl) (E:jw):Wd K H0 O0 H O σ δ->t E δ->(∀O' δ' σ' H',E.nx δ'->Wd K H0 O0 H' O' σ' δ'->aN H H' O O'->D.nx σ' H')->(∀d v H',E.rt d->ar H0 H'->Dt K H' O0 v d->D.rt v H')->
 (∀O' δ' σ' H',E.bk δ'->Wd K H0 O0 H' O' σ' δ'->aN H H' O O'->D.bk σ' H')->(∀O' δ' σ' H',E.ct δ'->Wd K H0 O0 H' O' σ' δ'->aN H H' O O'->D.ct σ' H')->bp t D σ H
end
theorem PE.imp{X:Cx}{e:Qn}{t u:TE}(h:PE X e t)(i:∀σ H Q,u σ H Q->t σ H Q):PE X e u:=λRB s σ H Q I z=>h RB s σ H Q I (i σ H Q z)
theorem PT.imp{X:Cx}{e:Qn}{t u:TT}(h:PT X e t)(i:∀σ H Q,u σ H Q->t σ H Q):PT X e u:=λRB s σ H Q I z=>h RB s σ H Q I (i σ H Q z)
theorem PW.imp{X:Cx}{e:Qn}{t u:TT}(h:PW X e t)(i:∀σ H Q,u σ H Q->t σ H Q):PW X e u:=λwh RB s σ H Q I z=>h wh RB s σ H Q I (i σ H Q z)
theorem PA.imp{X:Cx}{e:List Qn}{t u:TA}(h:PA X e t)(i:∀σ H Q,u σ H Q->t σ H Q):PA X e u:=λpos RB s σ H Q I z=>h pos RB s σ H Q I (i σ H Q z)
theorem PS.imp{X:Cx}{e:Qx}{t u:TS}(h:PS X e t)(i:∀D σ H,u D σ H->t D σ H):PS X e u:=λRB s σ H D I z=>h RB s σ H D I (i D σ H z)
theorem bz.imp{X:Cx}{e:List Qx}{t u:TS}(h:bz X e t)(i:∀D σ H,u D σ H->t D σ H):bz X e u:=λRB s σ H D I z=>h RB s σ H D I (i D σ H z)
section
variable {X:Cx} {H0:Hp} {O0:Ex}
abbrev DE(X:Cx)(H0:Hp)(O0:Ex)(e:Qn)(t:DT):Prop:=PE X e (up X.K H0 O0 t)
abbrev DF(X:Cx)(H0:Hp)(O0:Ex)(e:Qn)(t:DT):Prop:=PE X e (iQ X.K H0 O0 t)
theorem df{e:Qn}{t:DT}(h:DE X H0 O0 e t):DF X H0 O0 e t:=h.imp λσ H Q uu69=>by obtain⟨O,δ,Qd,w,q,k⟩:=uu69;exact⟨O,δ,Qd,w,q,λd v H' a b c=>k d v H' a b (.dt c)⟩
def uc(Q:Qi->Prop):Option (Option Sl)->Prop
 | some (some (.v d))=>Q d
 | _=>False
def cL(i:Nat):DT:=λδ Q=>uc Q δ[i]?
theorem DL{Q:Qi->Prop}{o:Option (Option Sl)}:uc Q o↔∃d,o=some (some (.v d))/\Q d:=by
 constructor
 ·intro h
  match o,h with
  | some (some (.v d)),h=>exact⟨d,rfl,h⟩
 ·rintro⟨d,rfl,h⟩;exact h
theorem DM{i:Nat}{δ:Dl}{Q:Qi->Prop}(h:cL i δ Q):∃d,δ[i]?=some (some (.v d))/\Q d:=DL.mp h
def ue(i:Nat):DT:=λδ Q=>∃ds,δ[i]?=some (some (.o ds))/\Q (.list ds)
def dC(d:Qi):DT:=λ_ Q=>Q d
theorem dv(i:Nat){x:Str}{pos:Pos}(hN:X.N[i]?=some x:=by rfl)(hv:j5 X.env.scope x:=by first | exact Om rfl | exact Nl (Om rfl) | exact Nl (Nl rfl))
 (hd:(x==("__debug__":Str))=false:=by decide)(hcd:(x==("__classdict__":Str))=false:=by decide):DE X H0 O0 (.Name x pos) (cL i):=
 (oi hN hv hd hcd).imp λσ H Q uu70=>by
  obtain⟨O,δ,Qd,w,dq,k⟩:=uu70;obtain⟨d,e,q⟩:=DM dq;obtain⟨v,h,r⟩:=w.val e;exact⟨v,h,k d v H q (ar.refl _) r⟩
theorem dw(i:Nat){x:Str}{pos:Pos}(hN:X.N[i]?=some x:=by rfl)(hv:j5 X.env.scope x:=by first | exact Om rfl | exact Nl (Om rfl) | exact Nl (Nl rfl))
 (hd:(x==("__debug__":Str))=false:=by decide)(hcd:(x==("__classdict__":Str))=false:=by decide):DF X H0 O0 (.Name x pos) (ue i):=
 (oi hN hv hd hcd).imp λσ H Q uu71=>by
  obtain⟨O,δ,Qd,w,⟨ds,e,q⟩,k⟩:=uu71;obtain⟨l,vs,h,_,_,r,rs⟩:=w.own e;exact⟨_,h,k _ _ H q (ar.refl _) (.own r rs)⟩
theorem dc{e:Qn}{v:V}{d:Qi}(h:PE X e (tC v))(r:∀H O,Dt X.K H O v d):DE X H0 O0 e (dC d):=h.imp λσ H Q uu72=>by obtain⟨O,δ,Qd,w,q,k⟩:=uu72;exact k d v H q (ar.refl _) (r H O)
theorem ae{i j pos}:DE X H0 O0 (.Constant (.int i) j pos) (dC (.int i)):=dc cq λ_ _=>.int i
theorem bT{b j pos}:DE X H0 O0 (.Constant (.bool b) j pos) (dC (.bool b)):=dc BE λ_ _=>.bl b
theorem pq{j pos}:DE X H0 O0 (.Constant .none j pos) (dC .none):=dc BF λ_ _=>.non
theorem aL{x j pos}:DE X H0 O0 (.Constant (.str x) j pos) (dC (.str x)):=dc BG λ_ _=>.str x
def mn:DA:=λ_ Q=>Q []
def jx(t:DT)(u:DA):DA:=λδ Q=>t δ λd=>u δ λds=>Q (d::ds)
theorem ag:PA X [] (fh X.K H0 O0 mn):=dE.imp λσ H Q uu73=>by obtain⟨O,δ,Qd,w,q,k⟩:=uu73;exact k [] [] H q (ar.refl _) .nil
theorem aa{e:Qn}{es:List Qn}{t:DT}{u:DA}(h:DE X H0 O0 e t)(hs:PA X es (fh X.K H0 O0 u))(he:Qo (e::es) X.env=(false,eval e X.env)::Qo es X.env:=by rfl):PA X (e::es) (fh X.K H0 O0 (jx t u)):=
 (cC h hs he).imp λσ H Q uu74=>by obtain⟨O,δ,Qd,w,q,k⟩:=uu74;exact⟨O,δ,_,w,q,λd v H1 q1 s1 r1=>⟨O,δ,_,w.mono s1,q1,λds vs H2 q2 s2 r2=>k (d::ds) (v::vs) H2 q2 (s1.trans s2) (.cons (r1.mono s2) r2)⟩⟩
def uf(t:DA):DT:=λδ Q=>t δ λds=>ds.length<=Qp/\Q (.tuple ds)
theorem ib{H:Hp}{O:Ex}{σ:St}{δ:Dl}{H1:Hp}{p:Qk}{K:J0}(w:Wd K H0 O0 H O σ δ)(s:ar H H1)(hp:H1 p=none):¬O p:=λz=>(w.mono s).trk p z hp
theorem bj{es:List Qn}{t:DA}{x1}{pos:Pos}(h:PA X es (fh X.K H0 O0 t)):DE X H0 O0 (.Tuple es x1 pos) (uf t):=
 (oN h).imp λσ H Q uu75=>by obtain⟨O,δ,Qd,w,q,k⟩:=uu75;exact⟨O,δ,_,w,q,λds vs H1 q1 s1 r1=>⟨by rw [r1.length];exact q1.1,λp hp=>k _ _ _ q1.2 (s1.trans (ar.new hp)) (.tup (.inl bq) (ib w s1 hp) (r1.mono (ar.new hp)))⟩⟩
end
theorem aN.refl(H:Hp)(O:Ex):aN H H O O:=⟨λ_ _ e _=>e,λ_ _ n=>n⟩
theorem aN.trans{H H1 H2:Hp}{O O1 O2:Ex}(a:aN H H1 O O1)(b:aN H1 H2 O1 O2):aN H H2 O O2:=by
 refine⟨λc o e n=>?_,λc e n=>?_⟩
 ·have h1:=a.keep c o e n;exact b.keep c o h1 (a.out c (by rw [e];exact λz=>nomatch z) n)
 ·cases q:H c with
  | none=>exact absurd q e
  | some o=>exact b.out c (by rw [a.keep c o q n];exact λz=>nomatch z) (a.out c e n)
section
variable {X:Cx} {H0:Hp} {O0:Ex}
def bG(K:J0)(r:R2)(rd:Qi->Qi->(Qi->Prop)->Prop):Prop:=
 ∀(H:Hp)(O:Ex)(x y:V)(dx dy:Qi)(Qd:Qi->Prop)(R:VK),(∀l,O l->H l≠none)->Sh K H O x dx->Sh K H O y dy->rd dx dy Qd->(∀d v H',Qd d->ar H H'->Dt K H' O v d->R v H')->r x y H R
def fi(rd:Qi->Qi->(Qi->Prop)->Prop)(ta tb:DT):DT:=λδ Q=>ta δ λx=>tb δ λy=>rd x y Q
theorem mq{K:J0}{r:R2}{rd:Qi->Qi->(Qi->Prop)->Prop}{ta tb:DT}(hd:bG K r rd):∀σ H Q,up K H0 O0 (fi rd ta tb) σ H Q->jm r (iQ K H0 O0 ta) (iQ K H0 O0 tb) σ H Q:=
 λσ H Q uu76=>by obtain⟨O,δ,Qd,w,q,k⟩:=uu76;exact⟨O,δ,_,w,q,λx v H1 q1 s1 r1=>⟨O,δ,_,w.mono s1,q1,λy u H2 q2 s2 r2=>hd H2 O v u x y Qd _ (w.mono (s1.trans s2)).trk (r1.mono s2) r2 q2 λd z H3 qd s3 r3=>k d z H3 qd (s1.trans (s2.trans s3)) r3⟩⟩
theorem DN{a b:Qn}{ta tb:DT}{op:Operator}{r:R2}{rd:Qi->Qi->(Qi->Prop)->Prop}{pos:Pos}(ho:bh X (QR op) r)(hd:bG X.K r rd)(ha:DF X H0 O0 a ta)(hb:DF X H0 O0 b tb):DE X H0 O0 (.BinOp a op b pos) (fi rd ta tb):=(d7 ho ha hb).imp (mq hd)
theorem bV{a b:Qn}{ta tb:DT}{op:Q7}{r:R2}{rd:Qi->Qi->(Qi->Prop)->Prop}{pos:Pos}(ho:bh X (Qz op) r)(hd:bG X.K r rd)(ha:DF X H0 O0 a ta)(hb:DF X H0 O0 b tb)(hm:QG op b=false):DE X H0 O0 (.Compare a [op] [b] pos) (fi rd ta tb):=(B6 ho ha hb hm).imp (mq hd)
def gm(t:DT):DB:=λδ Q=>t δ λd=>∃b,d= .bool b/\Q b
theorem ug{a b:Qn}{ta tb:DT}{op:Q7}{r:R2}{rd:Qi->Qi->(Qi->Prop)->Prop}{pos:Pos}(ho:bh X (Qz op) r)(hd:bG X.K r rd)(ha:DF X H0 O0 a ta)(hb:DF X H0 O0 b tb)(hm:QG op b=false):PT X (.Compare a [op] [b] pos) (bM X.K H0 O0 (gm (fi rd ta tb))):=
 (lV ho ha hb hm).imp λσ H Q uu77=>by obtain⟨O,δ,Qd,w,q,k⟩:=uu77;exact mq hd σ H _ ⟨O,δ,_,w,q,λd v H' uu78 s r=>by obtain⟨b,e,qb⟩:=uu78;subst e;cases r;exact⟨b,rfl,k b H' qb s⟩⟩
theorem cD{e:Qn}{t:DT}(h:DE X H0 O0 e t)(he:∀whole,isTrue e X.env whole=(do let v<-whole;standAt e.pos;holding [v] (truthy v)):=by intro _;rfl):PT X e (bM X.K H0 O0 (gm t)):=
 (BI h he).imp λσ H Q uu79=>by obtain⟨O,δ,Qd,w,q,k⟩:=uu79;exact⟨O,δ,_,w,q,λd v H' uu80 s r=>by obtain⟨b,e,qb⟩:=uu80;subst e;cases r;exact⟨b,rfl,k b H' qb s⟩⟩
def uh(t u:DB):DB:=λδ Q=>t δ λc=>if c=true then u δ Q else Q false
def ui(t u:DB):DB:=λδ Q=>t δ λc=>if c=true then Q true else u δ Q
def uj(t:DB):DB:=λδ Q=>t δ λc=>Q (!c)
theorem dU{a:Qn}{t:DB}{pos:Pos}(h:PT X a (bM X.K H0 O0 t)):PW X (.BoolOp .And [a] pos) (bM X.K H0 O0 t):=BJ h
theorem eh{a:Qn}{t:DB}{pos:Pos}(h:PT X a (bM X.K H0 O0 t)):PW X (.BoolOp .Or [a] pos) (bM X.K H0 O0 t):=su h
theorem dj{a b:Qn}{rest:List Qn}{t u:DB}{pos:Pos}(h:PT X a (bM X.K H0 O0 t))(hb:PW X (.BoolOp .And (b::rest) pos) (bM X.K H0 O0 u)):PW X (.BoolOp .And (a::b::rest) pos) (bM X.K H0 O0 (uh t u)):=
 (BK h hb).imp λσ H Q uu81=>by obtain⟨O,δ,Qd,w,q,k⟩:=uu81;exact⟨O,δ,_,w,q,λc H1 q1 s1=>by
  cases c with
  | true=>exact⟨O,δ,_,w.mono s1,q1,λb H2 q2 s2=>k b H2 q2 (s1.trans s2)⟩
  | false=>exact k false H1 q1 s1⟩
theorem dH{a b:Qn}{rest:List Qn}{t u:DB}{pos:Pos}(h:PT X a (bM X.K H0 O0 t))(hb:PW X (.BoolOp .Or (b::rest) pos) (bM X.K H0 O0 u)):PW X (.BoolOp .Or (a::b::rest) pos) (bM X.K H0 O0 (ui t u)):=
 (sv h hb).imp λσ H Q uu82=>by obtain⟨O,δ,Qd,w,q,k⟩:=uu82;exact⟨O,δ,_,w,q,λc H1 q1 s1=>by
  cases c with
  | false=>exact⟨O,δ,_,w.mono s1,q1,λb H2 q2 s2=>k b H2 q2 (s1.trans s2)⟩
  | true=>exact k true H1 q1 s1⟩
theorem dJ{a:Qn}{t:DB}{pos:Pos}(h:PT X a (bM X.K H0 O0 t)):PT X (.UnaryOp .Not a pos) (bM X.K H0 O0 (uj t)):=
 (BL h).imp λσ H Q uu83=>by obtain⟨O,δ,Qd,w,q,k⟩:=uu83;exact⟨O,δ,_,w,q,λc H1 q1 s1=>k (!c) H1 q1 s1⟩
def uk(t u:DT):DT:=λδ Q=>t δ λd=>∃c,d= .bool c/\if c=true then u δ Q else Q (.bool false)
def um(t u:DT):DT:=λδ Q=>t δ λd=>∃c,d= .bool c/\if c=true then Q (.bool true) else u δ Q
def uo(t:DT):DT:=λδ Q=>t δ λd=>∃c,d= .bool c/\Q (.bool (!c))
theorem cE{op}{a:Qn}{t:DT}{pos:Pos}(h:DE X H0 O0 a t):DE X H0 O0 (.BoolOp op [a] pos) t:=BM h
theorem bX{a b:Qn}{rest:List Qn}{t u:DT}{pos:Pos}(h:DE X H0 O0 a t)(hb:DE X H0 O0 (.BoolOp .And (b::rest) pos) u):DE X H0 O0 (.BoolOp .And (a::b::rest) pos) (uk t u):=
 (BN h hb).imp λσ H Q ⟨O,δ,Qd,w,q,k⟩=>⟨O,δ,_,w,q,λd v H1 uu85 s1 r=>by
  obtain⟨c,e,q1⟩:=uu85;subst e;cases r;refine⟨c,rfl,?_⟩;cases c with
  | true=>exact⟨O,δ,_,w.mono s1,q1,λd v H2 q2 s2 r2=>k d v H2 q2 (s1.trans s2) r2⟩
  | false=>exact k _ _ H1 q1 s1 (.bl false)⟩
theorem ur{a b:Qn}{rest:List Qn}{t u:DT}{pos:Pos}(h:DE X H0 O0 a t)(hb:DE X H0 O0 (.BoolOp .Or (b::rest) pos) u):DE X H0 O0 (.BoolOp .Or (a::b::rest) pos) (um t u):=
 (BO h hb).imp λσ H Q ⟨O,δ,Qd,w,q,k⟩=>⟨O,δ,_,w,q,λd v H1 uu87 s1 r=>by
  obtain⟨c,e,q1⟩:=uu87;subst e;cases r;refine⟨c,rfl,?_⟩;cases c with
  | false=>exact⟨O,δ,_,w.mono s1,q1,λd v H2 q2 s2 r2=>k d v H2 q2 (s1.trans s2) r2⟩
  | true=>exact k _ _ H1 q1 s1 (.bl true)⟩
theorem DP{a:Qn}{t:DT}{pos:Pos}(h:DE X H0 O0 a t):DE X H0 O0 (.UnaryOp .Not a pos) (uo t):=
 (BP h).imp λσ H Q uu88=>by obtain⟨O,δ,Qd,w,q,k⟩:=uu88;exact⟨O,δ,_,w,q,λd v H1 uu89 s1 r=>by
  obtain⟨c,e,q1⟩:=uu89;subst e;cases r;exact⟨c,rfl,k _ _ H1 q1 s1 (.bl _)⟩⟩
def uu(c:DB)(t u:DT):DT:=λδ Q=>c δ λb=>if b=true then t δ Q else u δ Q
theorem DQ{c a b:Qn}{tc:DB}{t u:DT}{pos:Pos}(hc:PT X c (bM X.K H0 O0 tc))(ha:DE X H0 O0 a t)(hb:DE X H0 O0 b u):DE X H0 O0 (.IfExp c a b pos) (uu tc t u):=
 (BQ hc ha hb).imp λσ H Q uu90=>by obtain⟨O,δ,Qd,w,q,k⟩:=uu90;exact⟨O,δ,_,w,q,λc H1 q1 s1=>by
  cases c with
  | true=>exact⟨O,δ,_,w.mono s1,q1,λd v H2 q2 s2 r2=>k d v H2 q2 (s1.trans s2) r2⟩
  | false=>exact⟨O,δ,_,w.mono s1,q1,λd v H2 q2 s2 r2=>k d v H2 q2 (s1.trans s2) r2⟩⟩
def mr(rd rd':Qi->Qi->(Qi->Prop)->Prop)(ta tb tc:DT):DT:=λδ Q=>ta δ λx=>tb δ λy=>rd x y λz=>∃k,z= .bool k/\if k=true then tc δ λu=>rd' y u Q else Q (.bool false)
theorem uw{K:J0}{r r':R2}{rd rd':Qi->Qi->(Qi->Prop)->Prop}{ta tb tc:DT}(hd:bG K r rd)(hd':bG K r' rd'):∀σ H Q,up K H0 O0 (mr rd rd' ta tb tc) σ H Q->oJ r r' (iQ K H0 O0 ta) (iQ K H0 O0 tb) (iQ K H0 O0 tc) σ H Q:=
 λσ H Q ⟨O,δ,Qd,w,q,k⟩=>⟨O,δ,_,w,q,λx v H1 q1 s1 r1=>⟨O,δ,_,w.mono s1,q1,λy u H2 q2 s2 r2=>hd H2 O v u x y _ _ (w.mono (s1.trans s2)).trk (r1.mono s2) r2 q2 λd z H3 uu92 s3 r3=>by
  obtain⟨c,e,q3⟩:=uu92;subst e;cases r3;refine⟨c,rfl,?_⟩;cases c with
  | true=>exact⟨O,δ,_,w.mono (s1.trans (s2.trans s3)),q3,λu' p H4 q4 s4 r4=>hd' H4 O u p y u' Qd _ (w.mono (s1.trans (s2.trans (s3.trans s4)))).trk (r2.mono (s3.trans s4)) r4 q4 λd z H5 qd s5 r5=>k d z H5 qd (s1.trans (s2.trans (s3.trans (s4.trans s5)))) r5⟩
  | false=>exact k _ _ H3 q3 (s1.trans (s2.trans s3)) (.bl false)⟩⟩
theorem uz{a b c:Qn}{ta tb tc:DT}{op op':Q7}{r r':R2}{rd rd':Qi->Qi->(Qi->Prop)->Prop}{pos:Pos}(ho:bh X (Qz op) r)(ho':bh X (Qz op') r')(hd:bG X.K r rd)(hd':bG X.K r' rd')(ha:DF X H0 O0 a ta)(hb:DF X H0 O0 b tb)(hc:DF X H0 O0 c tc)
 (hm:lastMarks [op,op'] [b,c]=false:=by with_unfolding_all rfl):DE X H0 O0 (.Compare a [op,op'] [b,c] pos) (mr rd rd' ta tb tc):=(B7 ho ho' ha hb hc hm).imp (uw hd hd')
theorem DR{a b c:Qn}{ta tb tc:DT}{op op':Q7}{r r':R2}{rd rd':Qi->Qi->(Qi->Prop)->Prop}{pos:Pos}(ho:bh X (Qz op) r)(ho':bh X (Qz op') r')(hd:bG X.K r rd)(hd':bG X.K r' rd')(ha:DF X H0 O0 a ta)(hb:DF X H0 O0 b tb)(hc:DF X H0 O0 c tc)
 (hm:lastMarks [op,op'] [b,c]=false:=by with_unfolding_all rfl):PT X (.Compare a [op,op'] [b,c] pos) (bM X.K H0 O0 (gm (mr rd rd' ta tb tc))):=
 (B8 ho ho' ha hb hc hm).imp λσ H Q uu93=>by obtain⟨O,δ,Qd,w,q,k⟩:=uu93;exact uw hd hd' σ H _ ⟨O,δ,_,w,q,λd v H' uu94 s r=>by obtain⟨b,e,qb⟩:=uu94;subst e;cases r;exact⟨b,rfl,k b H' qb s⟩⟩
inductive aT (K:J0) (F:List Qi->(Qi->Prop)->Prop) (vs:List V) (H:Hp) (Q:VK) (E:XK):Prop
 | mk (O:Ex) (ds:List Qi) (Qd:Qi->Prop):(∀l,O l->H l≠none)->ai K H O vs ds->F ds Qd->(∀d v H',Qd d->ar H H'->Dt K H' O v d->Q v H')->aT K F vs H Q E
def kC(F:List Qi->(Qi->Prop)->Prop)(t:DA):DT:=λδ Q=>t δ λds=>F ds Q
theorem DU{K:J0}{F:List Qi->(Qi->Prop)->Prop}{t:DA}{E:XK}:∀σ H Q,up K H0 O0 (kC F t) σ H Q->lY (aT K F) [] E (fh K H0 O0 t) σ H Q:=
 λσ H Q uu95=>by obtain⟨O,δ,Qd,w,q,k⟩:=uu95;exact⟨O,δ,_,w,q,λds vs H1 q1 s1 r1=>⟨O,ds,Qd,(w.mono s1).trk,by rw [LV];exact r1,q1,λd v H2 q2 s2 r2=>k d v H2 q2 (s1.trans s2) r2⟩⟩
inductive jy (K:J0) (H:Hp) (O:Ex):List V->List Qi->Prop
 | nil:jy K H O [] []
 | cons {v:V} {d:Qi} {vs:List V} {ds:List Qi}:Sh K H O v d->jy K H O vs ds->jy K H O (v::vs) (d::ds)
inductive el (K:J0) (H0:Hp) (O0:Ex) (t:DA) (σ:St) (H:Hp) (R:List V->Hp->Prop):Prop
 | mk (O:Ex) (δ:Dl) (Qd:List Qi->Prop):Wd K H0 O0 H O σ δ->t δ Qd->(∀ds vs H',Qd ds->ar H H'->jy K H' O vs ds->R vs H')->el K H0 O0 t σ H R
theorem aK:PA X [] (el X.K H0 O0 mn):=dE.imp λσ H Q uu96=>by obtain⟨O,δ,Qd,w,q,k⟩:=uu96;exact k [] [] H q (ar.refl _) .nil
theorem kD{e:Qn}{es:List Qn}{t:DT}{u:DA}(h:DF X H0 O0 e t)(hs:PA X es (el X.K H0 O0 u))(he:Qo (e::es) X.env=(false,eval e X.env)::Qo es X.env:=by rfl):PA X (e::es) (el X.K H0 O0 (jx t u)):=
 (cC h hs he).imp λσ H Q uu0=>by obtain⟨O,δ,Qd,w,q,k⟩:=uu0;exact⟨O,δ,_,w,q,λd v H1 q1 s1 r1=>⟨O,δ,_,w.mono s1,q1,λds vs H2 q2 s2 r2=>k (d::ds) (v::vs) H2 q2 (s1.trans s2) (.cons (r1.mono s2) r2)⟩⟩
def gO(K:J0)(r:List V->Hp->VK->Prop)(rd:List Qi->(Qi->Prop)->Prop):Prop:=
 ∀(H:Hp)(O:Ex)(xs:List V)(ds:List Qi)(Qd:Qi->Prop)(R:VK),(∀l,O l->H l≠none)->jy K H O xs ds->rd ds Qd->(∀d v H',Qd d->ar H H'->Dt K H' O v d->R v H')->r xs H R
theorem aP{K:J0}{r:List V->Hp->VK->Prop}{rd:List Qi->(Qi->Prop)->Prop}{t:DA}(hd:gO K r rd):∀σ H Q,up K H0 O0 (kC rd t) σ H Q->lZ r (el K H0 O0 t) σ H Q:=
 λσ H Q uu1=>by obtain⟨O,δ,Qd,w,q,k⟩:=uu1;exact⟨O,δ,_,w,q,λds vs H1 q1 s1 r1=>hd H1 O vs ds Qd _ (w.mono s1).trk r1 q1 λd v H2 q2 s2 r2=>k d v H2 q2 (s1.trans s2) r2⟩
def uA(t u:DS):DS:=λE δ=>t {E with nx:=u E} δ
theorem ay{st:Qx}{rest:List Qx}{t u:DS}(h:PS X st (bp X.K H0 O0 t))(h2:bz X rest (bp X.K H0 O0 u)):bz X (st::rest) (bp X.K H0 O0 (uA t u)):=
 (hJ h h2).imp λD σ H uu2=>by obtain⟨O,δ,E,w,q,k1,k2,k3,k4⟩:=uu2;exact⟨O,δ,_,w,q,λO' δ' σ' H' z w' S=>⟨O',δ',E,w',z,λO2 δ2 σ2 H2 z2 w2 S2=>k1 O2 δ2 σ2 H2 z2 w2 (S.trans S2),k2,λO2 δ2 σ2 H2 z2 w2 S2=>k3 O2 δ2 σ2 H2 z2 w2 (S.trans S2),λO2 δ2 σ2 H2 z2 w2 S2=>k4 O2 δ2 σ2 H2 z2 w2 (S.trans S2)⟩,k2,k3,k4⟩
def uB:DS:=λE δ=>E.nx δ
theorem aV:bz X [] (bp X.K H0 O0 uB):=oo.imp λD σ H uu3=>by obtain⟨O,δ,E,w,q,k1,k2,k3,k4⟩:=uu3;exact k1 O δ σ H q w (aN.refl _ _)
theorem ao{st:Qx}{t:DS}(h:PS X st (bp X.K H0 O0 t)):bz X [st] (bp X.K H0 O0 t):=j6 h
def pz(i:Nat)(t:DT):DS:=λE δ=>t δ λd=>E.nx (δ.set i (some (.v d)))
theorem bE{i:Nat}{x:Str}{e:Qn}{t:DT}{pos pos':Pos}(hN:X.N.Nodup)(hi:X.N[i]?=some x)(hx:fD X.env.scope x)(he:DE X H0 O0 e t)(hs:QK e (some (.Name x pos')) pos.line X.env=pure false:=by rfl)(hf:X.fn x=true\/X.env.scope.names.lookup x=some .local:=by first | exact .inl rfl | exact .inr rfl | assumption):
 PS X (.Assign [.Name x pos'] e pos) (bp X.K H0 O0 (pz i t)):=
 (iK hN hi hx he hs hf).imp λD σ H uu4=>by obtain⟨O,δ,E,w,q,k1,k2,k3,k4⟩:=uu4;exact⟨O,δ,_,w,q,λd v H1 q1 s1 r1=>k1 O _ _ H1 q1 ((w.mono s1).set r1) (.same s1)⟩
def uC(t:DT):DS:=λE δ=>t δ E.rt
theorem fM{K:J0}{H:Hp}{O:Ex}{σ:St}{δ:Dl}(w:Wd K H0 O0 H O σ δ):aN H H O O0:=⟨λ_ _ e _=>e,λb _ n z=>n (w.sub b z)⟩
theorem aF{e:Qn}{t:DT}{pos:Pos}(he:DE X H0 O0 e t):PS X (.Return (some e) pos) (bp X.K H0 O0 (uC t)):=
 (j7 he).imp λD σ H uu5=>by obtain⟨O,δ,E,w,q,k1,k2,k3,k4⟩:=uu5;exact⟨O,δ,_,w,q,λd v H1 q1 s1 r1=>k2 d v H1 q1 (w.same.trans s1) (r1.step (fM (w.mono s1)))⟩
def uD(i:Nat):DS:=λE δ=>∃ds,δ[i]?=some (some (.o ds))/\E.rt (.list ds)
theorem DV{e:Qn}{i:Nat}{pos:Pos}(he:PE X e (dh i)):PS X (.Return (some e) pos) (bp X.K H0 O0 (uD i)):=
 (j7 he).imp λD σ H uu6=>by
  obtain⟨O,δ,E,w,⟨ds,e,q⟩,k1,k2,k3,k4⟩:=uu6;obtain⟨l,vs,h,a,b,c,r⟩:=w.own e;exact⟨_,h,k2 _ _ H q w.same (.lst (.inl c) b (r.step (fM w)))⟩
def uE(c:DB)(t u:DS):DS:=λE δ=>c δ λb=>if b=true then t E δ else u E δ
theorem aW{c:Qn}{a b:List Qx}{tc:DB}{t u:DS}{pos:Pos}(hc:PT X c (bM X.K H0 O0 tc))(ha:bz X a (bp X.K H0 O0 t))(hb:bz X b (bp X.K H0 O0 u)):PS X (.If c a b pos) (bp X.K H0 O0 (uE tc t u)):=
 (oq hc ha hb).imp λD σ H uu7=>by obtain⟨O,δ,E,w,q,k1,k2,k3,k4⟩:=uu7;exact⟨O,δ,_,w,q,λc H1 q1 s1=>by
  have g:∀{t':DS},t' E δ->bp X.K H0 O0 t' D σ H1:=λz=>⟨O,δ,E,w.mono s1,z,λO2 δ2 σ2 H2 z2 w2 S2=>k1 O2 δ2 σ2 H2 z2 w2 (aN.trans (.same s1) S2),k2,λO2 δ2 σ2 H2 z2 w2 S2=>k3 O2 δ2 σ2 H2 z2 w2 (aN.trans (.same s1) S2),λO2 δ2 σ2 H2 z2 w2 S2=>k4 O2 δ2 σ2 H2 z2 w2 (aN.trans (.same s1) S2)⟩;cases c with
  | true=>exact g q1
  | false=>exact g q1⟩
inductive kE (K:J0) (H0:Hp) (O0:Ex) (t:DA) (σ:St) (H:Hp) (R:VK):Prop
 | mk (O:Ex) (δ:Dl) (Qd:List Qi->Prop):Wd K H0 O0 H O σ δ->t δ Qd->(∀ds vs p H',Qd ds->ar H H'->H' p=none->ai K H' O vs ds->R (.ref p) (aq H' p (.lst vs)))->kE K H0 O0 t σ H R
abbrev FE(X:Cx)(H0:Hp)(O0:Ex)(e:Qn)(t:DA):Prop:=PE X e (kE X.K H0 O0 t)
def dL(t:DA):DT:=λδ Q=>t δ λds=>Q (.list ds)
theorem fe{e:Qn}{t:DA}(h:FE X H0 O0 e t):DE X H0 O0 e (dL t):=
 h.imp λσ H Q uu8=>by obtain⟨O,δ,Qd,w,q,k⟩:=uu8;exact⟨O,δ,_,w,q,λds vs p H1 q1 s1 hp r1=>k _ _ _ q1 (s1.trans (ar.new hp)) (.lst (.inl bq) (ib w s1 hp) (r1.mono (ar.new hp)))⟩
def pA(t:DA):DA:=λδ Q=>t δ λds=>ds.length<=Qp/\Q ds
theorem cK{es:List Qn}{t:DA}{pos:Pos}(h:PA X es (fh X.K H0 O0 t)):FE X H0 O0 (.List es pos) (pA t):=
 (lX h).imp λσ H Q uu9=>by obtain⟨O,δ,Qd,w,q,k⟩:=uu9;exact⟨O,δ,_,w,q,λds vs H1 q1 s1 r1=>⟨by rw [r1.length];exact q1.1,λp hp=>k _ _ _ _ q1.2 s1 hp r1⟩⟩
def uF(i:Nat)(t:DA):DS:=λE δ=>t δ λds=>E.nx (δ.set i (some (.o ds)))
theorem uG{i:Nat}{x:Str}{e:Qn}{t:DA}{pos pos':Pos}(hN:X.N.Nodup)(hi:X.N[i]?=some x)(hx:fD X.env.scope x)(he:FE X H0 O0 e t)(hs:QK e (some (.Name x pos')) pos.line X.env=pure false:=by rfl)(hf:X.fn x=true\/X.env.scope.names.lookup x=some .local:=by first | exact .inl rfl | exact .inr rfl | assumption):
 PS X (.Assign [.Name x pos'] e pos) (bp X.K H0 O0 (uF i t)):=
 (iK hN hi hx he hs hf).imp λD σ H ⟨O,δ,E,w,q,k1,k2,k3,k4⟩=>⟨O,δ,_,w,q,λds vs p H1 q1 s1 hp r1=>k1 _ _ _ _ q1 ((w.mono s1).setO hp r1)
  ⟨λb o e _=>(s1.trans (ar.new hp)) b o e,λb e n z=>z.elim n λy=>by
   cases q:H b with
   | none=>exact e q
   | some o=>have:=s1 _ _ q;rw [y,hp] at this;cases this⟩⟩
def uH(i:Nat)(t:DT):DS:=λE δ=>∃ds,δ[i]?=some (some (.o ds))/\t δ λd=>ds.length < Qp/\E.nx (δ.set i (some (.o (ds++[d]))))
theorem pB{i:Nat}{o e:Qn}{t:DT}{apos cpos pos:Pos}(ho:PE X o (dh i))(he:DE X H0 O0 e t)(hbase:QV o "append" X.env (eval o X.env)=eval o X.env:=by rfl)
 (hfew:((QJ cpos (Qo [e] X.env)).all (λx=>!x.1) && (backToKw cpos (Rf [] X.env)).all (λx=>x.1.isSome) && decide ([e].length+([]:List QY).length+(if ([]:List QY).isEmpty then 0 else 1) < 30))=true:=by rfl)
 (hline:(apos.endLine==cpos.line)=true:=by rfl)(hst:Qo [e] X.env=(false,eval e X.env)::Qo [] X.env:=by rfl)(hplain:(QJ cpos (Qo [] X.env)).any (·.1)=false:=by rfl)
 (hs:QK (.Call (.Attribute o "append" apos) [e] [] cpos) none pos.line X.env=pure false:=by rfl):PS X (.Expr (.Call (.Attribute o "append" apos) [e] [] cpos) pos) (bp X.K H0 O0 (uH i t)):=
 (sJ (oV MZ PySem.F.slot_list_append PySem.F.type_list_append tU ho (cC he dE hst) hbase hfew hline hst hplain) hs).imp λD σ H uu11=>by
  obtain⟨O,δ,E,w,⟨ds,e,q⟩,k1,k2,k3,k4⟩:=uu11;obtain⟨l,vs,h,a,b,c,r⟩:=w.own e;refine⟨_,h,.inl ⟨rfl,_,aX.of c⟩,O,δ,_,w,q,λd v H1 q1 s1 r1=>?_⟩;refine⟨l,vs,v,rfl,rfl,s1 _ _ c,by rw [r.length];exact q1.1,?_⟩;exact k1 _ _ _ _ q1.2 ((w.mono s1).putO (vs:=vs) e h ((r.mono s1).append (.cons r1 .nil))) ⟨λb' o' z n=>by rw [aH (λy=>n (by rw [y];exact a))];exact s1 _ _ z,λ_ _ n=>n⟩
end
structure bW (J:It) (P:Hp->Prop) (vs:List V):Prop where
 go:∀i H',P H'->i < vs.length->J.go i H'
 yl:∀i H' x H'',P H'->i < vs.length->J.yld i H' x H''->H''=H'/\vs[i]?=some x
 st:∀i H',P H'->vs.length<=i->J.stop i H'
def mv(H1:Hp)(a:Qk)(H':Hp):Prop:=∀o,H1 a=some o->H' a=some o
theorem aX.keep{K:J0}{H H':Hp}{a:Qk}{xs:List V}(s:mv H a H')(h:aX K H a xs):aX K H' a xs:=by
 rcases h with(h | ⟨o,h⟩) | h
 ·exact .inl (.inl (s _ h))
 ·exact .inl (.inr ⟨o,s _ h⟩)
 ·exact .inr h
theorem bg.keep{K:J0}{H H':Hp}{a:Qk}{xs:List V}(s:mv H a H')(h:bg K H a xs):bg K H' a xs:=by
 rcases h with(h | ⟨o,h⟩) | h
 ·exact .inl (.inl (s _ h))
 ·exact .inl (.inr ⟨o,s _ h⟩)
 ·exact .inr h
theorem bW.list{K:J0}{H:Hp}{a:Qk}{vs:List V}(h:aX K H a vs):bW (kj K a) (mv H a) vs:=
 ⟨λi H' s hi=>⟨vs,vs[i],h.keep s,by simp [hi]⟩,λi H' x H'' s _ y=>⟨y.1,y.2 vs (h.keep s)⟩,λi H' s hi=>⟨vs,h.keep s,hi⟩⟩
theorem bW.tup{K:J0}{H:Hp}{a:Qk}{vs:List V}(h:bg K H a vs):bW (kl K a) (mv H a) vs:=
 ⟨λi H' s hi=>⟨vs,vs[i],h.keep s,by simp [hi]⟩,λi H' x H'' s _ y=>⟨y.1,y.2 vs (h.keep s)⟩,λi H' s hi=>⟨vs,h.keep s,hi⟩⟩
def eB(lo:Int)(n:Nat):List Qi:=(KU n).map λ(k:Nat)=>.int (lo+k)
theorem bW.rng{lo:Int}{n:Nat}:bW (gI lo n) (λ_=>True) ((KU n).map λ(k:Nat)=>V.int (lo+k)):=by
 refine⟨λi H' s hi=>(by simpa using hi:i < n),λi H' x H'' s hi y=>⟨y.1,?_⟩,λi H' s hi=>(by simpa using hi:n<=i)⟩;obtain⟨_,rfl⟩:=y;have hn:i < n:=by simpa using hi
 simp [hn]
theorem ai.rng{K:J0}{H:Hp}{O:Ex}{lo:Int}:∀(l:List Nat),ai K H O (l.map λ(k:Nat)=>V.int (lo+k)) (l.map λ(k:Nat)=>J7 (lo+k))
 | []=>.nil
 | n::r=>.cons (.int _) (ai.rng r)
abbrev DG:=Qi->Dl->(Dl->Prop)->Prop
def GD(K:J0)(g:TG)(dg:DG):Prop:=∀(H0:Hp)(O0:Ex)(H:Hp)(O:Ex)(σ:St)(δ:Dl)(v:V)(x:Qi)(R:St->Hp->Prop)(Qd:Dl->Prop),Wd K H0 O0 H O σ δ->Dt K H O v x->dg x δ Qd->(∀δ' σ',Qd δ'->Wd K H0 O0 H O σ' δ'->R σ' H)->g v σ H R
def pC(i:Nat):DG:=λx δ Q=>Q (δ.set i (some (.v x)))
theorem bb{K:J0}{i:Nat}:GD K (gH i) (pC i):=λH0 O0 H O σ δ v x R Qd w r q k=>k _ _ q (w.set r)
abbrev iR:=List Qi->Dl->(Dl->Prop)->Prop
def mw(K:J0)(g:gf)(dg:iR):Prop:=∀(H0:Hp)(O0:Ex)(H:Hp)(O:Ex)(σ:St)(δ:Dl)(vs:List V)(xs:List Qi)(R:St->Hp->Prop)(Qd:Dl->Prop),Wd K H0 O0 H O σ δ->ai K H O vs xs->dg xs δ Qd->(∀δ' σ',Qd δ'->Wd K H0 O0 H O σ' δ'->R σ' H)->g vs σ H R
def uI:iR:=λxs δ Q=>xs=[]/\Q δ
def uJ(t:DG)(u:iR):iR:=λxs δ Q=>∃x r,xs=x::r/\t x δ λδ'=>u r δ' Q
theorem my{K:J0}:mw K lL uI:=λH0 O0 H O σ δ vs xs R Qd w r uu12 k=>by obtain⟨e,q⟩:=uu12;subst e;cases r;exact⟨rfl,k _ _ q w⟩
theorem gn{K:J0}{t:TG}{u:gf}{dt:DG}{du:iR}(h:GD K t dt)(h2:mw K u du):mw K (j9 t u) (uJ dt du):=λH0 O0 H O σ δ vs xs R Qd w r uu13 k=>by
 obtain⟨x,rr,e,q⟩:=uu13;subst e;cases r with
 | cons r1 r2=>exact⟨_,_,rfl,h H0 O0 H O σ δ _ _ _ _ w r1 q λδ' σ' q' w'=>h2 H0 O0 H O σ' δ' _ _ R Qd w' r2 q' k⟩
def uK(n:Nat)(t:iR):DG:=λx δ Q=>∃xs,x= .tuple xs/\xs.length=n/\t xs δ Q
theorem mz{K:J0}{n:Nat}{t:gf}{dt:iR}(h:mw K t dt):GD K (lM K n t) (uK n dt):=λH0 O0 H O σ δ v x R Qd w r uu14 k=>by
 obtain⟨xs,e,hl,q⟩:=uu14;subst e;obtain⟨a,vs,rfl,hs,rr⟩:=(Sh.dt r).tup;exact⟨a,vs,rfl,hs,by rw [rr.length];exact hl,h H0 O0 H O σ δ _ _ R Qd w rr q k⟩
section
variable {X:Cx} {H0:Hp} {O0:Ex}
def uL(t:DT)(g:DG):DS:=λE δ=>t δ λd=>g d δ E.nx
theorem uM{tg e:Qn}{t:DT}{g:TG}{dg:DG}{pos:Pos}(he:DE X H0 O0 e t)(hg:PG X tg g)(gd:GD X.K g dg)(hs:Rh [tg] e pos.line X.env=pure false:=by rfl)(hw:Ri [tg] e X.env=pure none:=by rfl)
 (h1:(Q8 [tg] X.env).map (·.2)=[assign tg X.env]:=by rfl):PS X (.Assign [tg] e pos) (bp X.K H0 O0 (uL t dg)):=
 (lN he hg hs hw h1).imp λD σ H uu15=>by obtain⟨O,δ,E,w,q,k1,k2,k3,k4⟩:=uu15;exact⟨O,δ,_,w,q,λd v H1 q1 s1 r1=>gd H0 O0 H1 O σ δ v d _ _ (w.mono s1) r1 q1 λδ' σ' q' w'=>k1 O δ' σ' H1 q' w' (.same s1)⟩
def uN(i j:Nat)(t:DA):DS:=λE δ=>t δ λds=>∃x y,ds=[x,y]/\E.nx ((δ.set i (some (.v x))).set j (some (.v y)))
theorem uO{i j:Nat}{x y:Str}{a b:Qn}{ta:DA}{px py pt pos:Pos}{kt k2 pt2}(hc:X.calm=true)(hN:X.N.Nodup)(hi:X.N[i]?=some x)(hj:X.N[j]?=some y)(hij:i≠j)
 (hx:X.env.scope.names.lookup x=some .local)(hy:X.env.scope.names.lookup y=some .local)(ha:PA X [a,b] (fh X.K H0 O0 ta))
 (hw:Ri [.Tuple [.Name x px,.Name y py] kt pt] (.Tuple [a,b] k2 pt2) X.env=pure (some [x,y]))
 (hs:Rh [.Tuple [.Name x px,.Name y py] kt pt] (.Tuple [a,b] k2 pt2) pos.line X.env=pure false:=by rfl):
 PS X (.Assign [.Tuple [.Name x px,.Name y py] kt pt] (.Tuple [a,b] k2 pt2) pos) (bp X.K H0 O0 (uN i j ta)):=
 (sQ hc hN hi hj hij hx hy ha hw hs).imp λD σ H uu16=>by obtain⟨O,δ,E,w,q,k1,k2,k3,k4⟩:=uu16;exact⟨O,δ,_,w,q,λds vs H1 uu17 s1 r1=>by
  obtain⟨d1,d2,e,q1⟩:=uu17;subst e;cases r1 with
  | cons r1 r2=>
   cases r2 with
   | cons r2 r3=>
    cases r3;exact⟨_,_,rfl,k1 _ _ _ _ q1 (((w.mono s1).set r1).set r2) (.same s1)⟩⟩
def ic(g:DG)(tb:DS)(E:jw):List Qi->Dl->Prop
 | [],δ=>E.nx δ
 | x::xs,δ=>g x δ λδ2=>tb {E with nx:=ic g tb E xs,ct:=ic g tb E xs,bk:=E.nx} δ2
theorem pE{K:J0}{J:It}{P:Hp->Prop}{vs:List V}{xs:List Qi}{g:TG}{dg:DG}{tb:DS}{D:gG}{E:jw}{σ:St}{H:Hp}{O:Ex}{δ:Dl}(S:bW J P vs)(gd:GD K g dg)
 (hP:∀H' O',aN H H' O O'->P H')(r:ai K H O vs xs)(w:Wd K H0 O0 H O σ δ)(q:ic dg tb E xs δ)
 (k1:∀O' δ' σ' H',E.nx δ'->Wd K H0 O0 H' O' σ' δ'->aN H H' O O'->D.nx σ' H')(k2:∀d v H',E.rt d->ar H0 H'->Dt K H' O0 v d->D.rt v H'):FR J g (bp K H0 O0 tb) D σ H:=by
 refine⟨λi m σ' H'=>∃O' δ',m=vs.length - i/\i<=vs.length/\Wd K H0 O0 H' O' σ' δ'/\aN H H' O O'/\ic dg tb E (xs.drop i) δ',⟨vs.length,O,δ,Qh,Lq _,w,aN.refl _ _,by simpa using q⟩,?_⟩;rintro i m σ1 H1 ⟨O1,δ1,rfl,hi,w1,S1,q1⟩;by_cases hlt:i < vs.length
 ·refine .inr ⟨S.go i H1 (hP _ _ S1) hlt,λσ' H'=>∃O' δ',Wd K H0 O0 H' O' σ' δ'/\aN H H' O O'/\ic dg tb E (xs.drop (i+1)) δ',λσ' H' uu18=>by obtain⟨O',δ',w',S',q'⟩:=uu18;exact⟨vs.length - (i+1),Qc,O',δ',rfl,hlt,w',S',q'⟩,λx H' y=>?_⟩;have yy:=S.yl i H1 x H' (hP _ _ S1) hlt y;clear y;obtain⟨e,y⟩:=yy;subst e;obtain⟨d,ed,rd⟩:=r.get y;have hd:xs.drop i=d::xs.drop (i+1):=by
   rw [LU (h:=(Kg.mp ed).1),(Kg.mp ed).2]
  rw [hd] at q1;refine gd H0 O0 _ O1 σ1 δ1 x d _ _ w1 (rd.step S1) q1 λδ2 σ2 q2 w2=>?_;refine⟨O1,δ2,_,w2,q2,λO' δ' σ' H' z w' S'=>⟨O',δ',w',S1.trans S',z⟩,k2,λO' δ' σ' H' z w' S'=>k1 O' δ' σ' H' z w' (S1.trans S'),λO' δ' σ' H' z w' S'=>⟨O',δ',w',S1.trans S',z⟩⟩
 ·have e:i=vs.length:=Qc
  subst e;refine .inl ⟨S.st _ H1 (hP _ _ S1) (J8 _),?_⟩;rw [r.length,M7 (J8 _)] at q1;exact k1 O1 δ1 σ1 H1 q1 w1 S1
def jz(g:DG)(tb:DS)(E:jw)(xs:List Qi)(δ:Dl):Prop:=∃I:Nat->Dl->Prop,I 0 δ/\(∀i x δ,xs[i]?=some x->I i δ->g x δ λδ2=>tb {E with nx:=I (i+1),ct:=I (i+1),bk:=E.nx} δ2)/\∀δ,I xs.length δ->E.nx δ
theorem jA{K:J0}{J:It}{P:Hp->Prop}{vs:List V}{xs:List Qi}{g:TG}{dg:DG}{tb:DS}{D:gG}{E:jw}{σ:St}{H:Hp}{O:Ex}{δ:Dl}(S:bW J P vs)(gd:GD K g dg)
 (hP:∀H' O',aN H H' O O'->P H')(r:ai K H O vs xs)(w:Wd K H0 O0 H O σ δ)(q:jz dg tb E xs δ)
 (k1:∀O' δ' σ' H',E.nx δ'->Wd K H0 O0 H' O' σ' δ'->aN H H' O O'->D.nx σ' H')(k2:∀d v H',E.rt d->ar H0 H'->Dt K H' O0 v d->D.rt v H'):FR J g (bp K H0 O0 tb) D σ H:=by
 obtain⟨Iv,q0,qs,qe⟩:=q;refine⟨λi m σ' H'=>∃O' δ',m=vs.length - i/\i<=vs.length/\Wd K H0 O0 H' O' σ' δ'/\aN H H' O O'/\Iv i δ',⟨vs.length,O,δ,Qh,Lq _,w,aN.refl _ _,q0⟩,?_⟩;rintro i m σ1 H1 ⟨O1,δ1,rfl,hi,w1,S1,q1⟩;by_cases hlt:i < vs.length
 ·refine .inr ⟨S.go i H1 (hP _ _ S1) hlt,λσ' H'=>∃O' δ',Wd K H0 O0 H' O' σ' δ'/\aN H H' O O'/\Iv (i+1) δ',λσ' H' uu19=>by obtain⟨O',δ',w',S',q'⟩:=uu19;exact⟨vs.length - (i+1),Qc,O',δ',rfl,hlt,w',S',q'⟩,λx H' y=>?_⟩;have yy:=S.yl i H1 x H' (hP _ _ S1) hlt y;clear y;obtain⟨e,y⟩:=yy;subst e;obtain⟨d,ed,rd⟩:=r.get y;refine gd H0 O0 _ O1 σ1 δ1 x d _ _ w1 (rd.step S1) (qs i d δ1 ed q1) λδ2 σ2 q2 w2=>?_;refine⟨O1,δ2,_,w2,q2,λO' δ' σ' H' z w' S'=>⟨O',δ',w',S1.trans S',z⟩,k2,λO' δ' σ' H' z w' S'=>k1 O' δ' σ' H' z w' (S1.trans S'),λO' δ' σ' H' z w' S'=>⟨O',δ',w',S1.trans S',z⟩⟩
 ·have e:i=vs.length:=Qc
  subst e;refine .inl ⟨S.st _ H1 (hP _ _ S1) (J8 _),?_⟩;rw [r.length] at q1;exact k1 O1 δ1 σ1 H1 (qe δ1 q1) w1 S1
def uP(t:DT)(g:DG)(tb:DS):DS:=λE δ=>t δ λd=>∃xs,d= .list xs/\ic g tb E xs δ
def uQ(t:DT)(g:DG)(tb:DS):DS:=λE δ=>t δ λd=>∃xs,d= .tuple xs/\ic g tb E xs δ
section
variable {tg iter:Qn} {body:List Qx} {t:DT} {ta:DA} {g:TG} {dg:DG} {tb:DS} {pos p ps:Pos}
theorem DW(hp:QZ (Qs X.prog X.w) X.A X.env X.xe)(hc:X.calm=true)(hi:DE X H0 O0 iter t)(hg:PG X tg g)(gd:GD X.K g dg)(hb:bz X body (bp X.K H0 O0 tb))(hs:∀x,QA iter X.env x=pure x:=by intro _;rfl):
 PS X (.For tg iter body [] pos) (bp X.K H0 O0 (uP t dg tb)):=
 (iL hp hc (lO hi) hg hb hs).imp λD σ H uu20=>by obtain⟨O,δ,E,w,q,k1,k2,k3,k4⟩:=uu20;exact⟨O,δ,_,w,q,λd v H1 uu21 s1 r1=>by
  obtain⟨xs,e,q1⟩:=uu21;subst e;cases r1 with
  | lst h n r=>
   refine⟨_,rfl,⟨_,.inl h⟩,pE (bW.list (.inl h)) gd (λH' O' S o e=>S.keep _ _ e n) r (w.mono s1) q1 (λO' δ' σ' H' z w' S=>k1 O' δ' σ' H' z w' (aN.trans (.same s1) S)) k2⟩⟩
theorem uR(hp:QZ (Qs X.prog X.w) X.A X.env X.xe)(hc:X.calm=true)(hi:DE X H0 O0 iter t)(hg:PG X tg g)(gd:GD X.K g dg)(hb:bz X body (bp X.K H0 O0 tb))(hs:∀x,QA iter X.env x=pure x:=by intro _;rfl):
 PS X (.For tg iter body [] pos) (bp X.K H0 O0 (uQ t dg tb)):=
 (iL hp hc (lP hi) hg hb hs).imp λD σ H uu22=>by obtain⟨O,δ,E,w,q,k1,k2,k3,k4⟩:=uu22;exact⟨O,δ,_,w,q,λd v H1 uu23 s1 r1=>by
  obtain⟨xs,e,q1⟩:=uu23;subst e;cases r1 with
  | tup h n r=>
   refine⟨_,rfl,⟨_,.inl h⟩,pE (bW.tup (.inl h)) gd (λH' O' S o e=>S.keep _ _ e n) r (w.mono s1) q1 (λO' δ' σ' H' z w' S=>k1 O' δ' σ' H' z w' (aN.trans (.same s1) S)) k2⟩
  | tupK h r=>
   refine⟨_,rfl,⟨_,h.of0⟩,pE (P:=λ_=>True) ⟨λi H' _ hi=>⟨_,_,h.of0,by simp [hi];rfl⟩,λi H' x H'' _ _ y=>⟨y.1,y.2 _ h.of0⟩,λi H' _ hi=>⟨_,h.of0,hi⟩⟩ gd (λ_ _ _=>trivial) r (w.mono s1) q1 (λO' δ' σ' H' z w' S=>k1 O' δ' σ' H' z w' (aN.trans (.same s1) S)) k2⟩⟩
end
def uS(t:DT)(g:DG)(tb:DS):DS:=λE δ=>t δ λd=>∃xs,d= .list xs/\jz g tb E xs δ
def uT(t:DT)(g:DG)(tb:DS):DS:=λE δ=>t δ λd=>∃xs,d= .tuple xs/\jz g tb E xs δ
def uU(t:DA)(g:DG)(tb:DS):DS:=λE δ=>t δ λds=>∃j:Int,ds=[.int j]/\-(2 ^ 62)<=j/\j < 2 ^ 62/\jz g tb E (eB 0 j.toNat) δ
def uV(t:DA)(g:DG)(tb:DS):DS:=λE δ=>t δ λds=>∃i j:Int,ds=[.int i,.int j]/\(-(2 ^ 62)<=i/\i < 2 ^ 62/\-(2 ^ 62)<=j/\j < 2 ^ 62)/\jz g tb E (eB i (j - i).toNat) δ
section
variable {tg iter:Qn} {body:List Qx} {t:DT} {ta:DA} {g:TG} {dg:DG} {tb:DS} {pos p ps:Pos}
theorem kF(hp:QZ (Qs X.prog X.w) X.A X.env X.xe)(hc:X.calm=true)(hi:DE X H0 O0 iter t)(hg:PG X tg g)(gd:GD X.K g dg)(hb:bz X body (bp X.K H0 O0 tb))(hs:∀x,QA iter X.env x=pure x:=by intro _;rfl):
 PS X (.For tg iter body [] pos) (bp X.K H0 O0 (uS t dg tb)):=
 (iL hp hc (lO hi) hg hb hs).imp λD σ H uu24=>by obtain⟨O,δ,E,w,q,k1,k2,k3,k4⟩:=uu24;exact⟨O,δ,_,w,q,λd v H1 uu25 s1 r1=>by
  obtain⟨xs,e,q1⟩:=uu25;subst e;cases r1 with
  | lst h n r=>
   refine⟨_,rfl,⟨_,.inl h⟩,jA (bW.list (.inl h)) gd (λH' O' S o e=>S.keep _ _ e n) r (w.mono s1) q1 (λO' δ' σ' H' z w' S=>k1 O' δ' σ' H' z w' (aN.trans (.same s1) S)) k2⟩⟩
theorem mB(hp:QZ (Qs X.prog X.w) X.A X.env X.xe)(hc:X.calm=true)(hi:DE X H0 O0 iter t)(hg:PG X tg g)(gd:GD X.K g dg)(hb:bz X body (bp X.K H0 O0 tb))(hs:∀x,QA iter X.env x=pure x:=by intro _;rfl):
 PS X (.For tg iter body [] pos) (bp X.K H0 O0 (uT t dg tb)):=
 (iL hp hc (lP hi) hg hb hs).imp λD σ H uu26=>by obtain⟨O,δ,E,w,q,k1,k2,k3,k4⟩:=uu26;exact⟨O,δ,_,w,q,λd v H1 uu27 s1 r1=>by
  obtain⟨xs,e,q1⟩:=uu27;subst e;cases r1 with
  | tup h n r=>
   refine⟨_,rfl,⟨_,.inl h⟩,jA (bW.tup (.inl h)) gd (λH' O' S o e=>S.keep _ _ e n) r (w.mono s1) q1 (λO' δ' σ' H' z w' S=>k1 O' δ' σ' H' z w' (aN.trans (.same s1) S)) k2⟩
  | tupK h r=>
   refine⟨_,rfl,⟨_,h.of0⟩,jA (P:=λ_=>True) ⟨λi H' _ hi=>⟨_,_,h.of0,by simp [hi];rfl⟩,λi H' x H'' _ _ y=>⟨y.1,y.2 _ h.of0⟩,λi H' _ hi=>⟨_,h.of0,hi⟩⟩ gd (λ_ _ _=>trivial) r (w.mono s1) q1 (λO' δ' σ' H' z w' S=>k1 O' δ' σ' H' z w' (aN.trans (.same s1) S)) k2⟩⟩
theorem mC(hp:QZ (Qs X.prog X.w) X.A X.env X.xe)(hc:X.calm=true){a:Qn}(hgl:Gl X "range")(hm:X.mg "range"=none)(ha:PA X [a] (fh X.K H0 O0 ta))(hg:PG X tg g)(gd:GD X.K g dg)(hb:bz X body (bp X.K H0 O0 tb))
 (hst:Qo [a] X.env=[(false,eval a X.env)]:=by rfl)(hs:∀x,QA (.Call (.Name "range" p) [a] [] ps) X.env x=pure x:=by intro _;rfl):
 PS X (.For tg (.Call (.Name "range" p) [a] [] ps) body [] pos) (bp X.K H0 O0 (uU ta dg tb)):=
 (iL hp hc (sT hgl hm ha hst) hg hb hs).imp λD σ H uu28=>by obtain⟨O,δ,E,w,q,k1,k2,k3,k4⟩:=uu28;exact⟨O,δ,_,w,q,λds vs H1 uu29 s1 r1=>by
  obtain⟨j,e,b1,b2,q1⟩:=uu29;subst e;cases r1 with
  | cons r1 r2=>
   cases r2;cases r1;exact⟨j,rfl,b1,b2,jA bW.rng gd (λ_ _ _=>trivial) (ai.rng _) (w.mono s1) q1 (λO' δ' σ' H' z w' S=>k1 O' δ' σ' H' z w' (aN.trans (.same s1) S)) k2⟩⟩
theorem uW(hp:QZ (Qs X.prog X.w) X.A X.env X.xe)(hc:X.calm=true){a b:Qn}(hgl:Gl X "range")(hm:X.mg "range"=none)(ha:PA X [a,b] (fh X.K H0 O0 ta))(hg:PG X tg g)(gd:GD X.K g dg)(hb:bz X body (bp X.K H0 O0 tb))
 (hst:Qo [a,b] X.env=[(false,eval a X.env),(false,eval b X.env)]:=by rfl)(hst2:Qo [b] X.env=[(false,eval b X.env)]:=by rfl)(hs:∀x,QA (.Call (.Name "range" p) [a,b] [] ps) X.env x=pure x:=by intro _;rfl):
 PS X (.For tg (.Call (.Name "range" p) [a,b] [] ps) body [] pos) (bp X.K H0 O0 (uV ta dg tb)):=
 (iL hp hc (sU hgl hm ha hst hst2) hg hb hs).imp λD σ H uu30=>by obtain⟨O,δ,E,w,q,k1,k2,k3,k4⟩:=uu30;exact⟨O,δ,_,w,q,λds vs H1 uu31 s1 r1=>by
  obtain⟨i,j,e,b1,q1⟩:=uu31;subst e;cases r1 with
  | cons r1 r2=>
   cases r2 with
   | cons r2 r3=>
    cases r3;cases r1;cases r2;exact⟨i,j,rfl,b1,jA bW.rng gd (λ_ _ _=>trivial) (ai.rng _) (w.mono s1) q1 (λO' δ' σ' H' z w' S=>k1 O' δ' σ' H' z w' (aN.trans (.same s1) S)) k2⟩⟩
end
def dW(k:Nat)(fr:List Nat)(δ:Dl):Dl:=Kp k none++fr.map λj=>(δ[j]?).join
def mD(g:DG)(tc:DB)(te:DT)(δ0:Dl):List Qi->List Qi->(List Qi->Prop)->Prop
 | [],acc,Q=>Q acc
 | x::xs,acc,Q=>g x δ0 λδ2=>tc δ2 λok=>if ok=true then te δ2 λy=>mD g tc te δ0 xs (acc++[y]) Q else mD g tc te δ0 xs acc Q
theorem Wd.comp{K:J0}{H:Hp}{O:Ex}{σ:St}{δ:Dl}(w:Wd K H0 O0 H O σ δ){k:Nat}{fr:List Nat}(hf:fr.Nodup):Wd K H0 O0 H O (bD k fr σ) (dW k fr δ):=by
 have at1:∀{α:Type}(l:List (Option α))(i:Nat),(Kp k none++fr.map λj=>(l[j]?).join)[i]?=if i < k then some none else(fr[i - k]?).map λj=>(l[j]?).join:=by
  intro α l i;by_cases h:i < k
  ·rw [Qf h,LS (by simpa using h),Ms,Qf h]
  ·rw [Qe h,LM (by simpa using NZ h),Kj];simp
 have un:∀{α:Type}(l:List (Option α))(i:Nat)(x:α),(Kp k none++fr.map λj=>(l[j]?).join)[i]?=some (some x)->∃j,fr[i - k]?=some j/\k<=i/\l[j]?=some (some x):=by
  intro α l i x h;rw [at1] at h;split at h
  ·cases h
  ·cases e:fr[i - k]? with
   | none=>rw [e] at h;cases h
   | some j=>
    rw [e] at h;refine⟨j,rfl,Qc,?_⟩;have h':(l[j]?).join=some x:=K4 h;cases q:l[j]? with
    | none=>rw [q] at h';cases h'
    | some o=>rw [q] at h';rw [show o=some x from h']
 refine⟨w.same,w.sub,w.new,w.trk,by simp [bD,dW],λi y e=>?_,λi j y z l e1 y1 e2 z2 e3 e4=>?_⟩
 ·match y,e with
  | none,_=>exact Lw
  | some x,e=>
   obtain⟨j,hj,hk,ej⟩:=un δ i x e;have q:=w.sl j _ ej;have e2:((bD k fr σ)[i]?).join=(σ[j]?).join:=by
    unfold bD;rw [at1,Qe Qc,hj];rfl
   rw [e2];exact q
 ·obtain⟨a,ha,ka,ea⟩:=un δ i _ e1;obtain⟨b,hb,kb,eb⟩:=un δ j _ e2;obtain⟨a',ha',_,ea'⟩:=un σ i _ e3;obtain⟨b',hb',_,eb'⟩:=un σ j _ e4;rw [ha] at ha';cases ha';rw [hb] at hb';cases hb';have:=w.dis a b y z l ea y1 eb z2 ea' eb';subst this;have e5:=(OZ (l:=fr) (i:=i - k) (j:=j - k) (Kg.mp ha).1 hf).mp (by rw [ha,hb]);omega
theorem JX{K:J0}{J:It}{P:Hp->Prop}{vs:List V}{xs:List Qi}{g:TG}{dg:DG}{tc:TT}{dc:DB}{te:TE}{de:DT}{k:Nat}{fr:List Nat}{σ:St}{H:Hp}{O:Ex}{δ:Dl}{Qd:List Qi->Prop}{Q:VK}(S:bW J P vs)(gd:GD K g dg)(hf:fr.Nodup)
 (hk:∀v:V,∀σ':St,∀H':Hp,∀R:St->Hp->Prop,g v (bD k fr σ) H' R->g v (bD k fr σ) H' λσ2 H2=>iP (bD k fr σ) σ2/\R σ2 H2)
 (hc:∀σ H Q,bM K H0 O0 dc σ H Q->tc σ H Q)(he:∀σ H Q,up K H0 O0 de σ H Q->te σ H Q)
 (hP:∀D H',H D=none->jr D H H'->P H')(r:ai K H O vs xs)(w:Wd K H0 O0 H O σ δ)(hz:vs.length<=Qp)(q:mD dg dc de (dW k fr δ) xs [] Qd)
 (k1:∀ds us p H',Qd ds->ar H H'->H' p=none->ai K H' O us ds->Q (.ref p) (aq H' p (.lst us))):js J g tc te k fr σ H Q:=by
 intro D hD;have w0:Wd K H0 O0 H O (bD k fr σ) (dW k fr δ):=w.comp hf;have nD:¬O D:=λz=>w.trk D z hD;have D0:H0 D=none:=by
  cases e:H0 D with
  | none=>rfl
  | some o=>rw [w.same _ _ e] at hD;cases hD
 have ex:∀H',jr D H H'->H' D≠none->Wd K H0 O0 H' (λa=>O a\/a=D) (bD k fr σ) (dW k fr δ):=λH' s' hd=>by
  have S':aN H H' O (λa=>O a\/a=D):=⟨λb o e _=>s' b o e (cS e hD),λb hb hn z=>z.elim hn λq=>hb (by rw [q];exact hD)⟩;refine⟨λb o e=>s' b o (w.same b o e) (λz=>by rw [z,D0] at e;cases e),λl z=>.inl (w.sub l z),λl z=>z.elim (w.new l) λq=>.inr (by rw [q];exact D0),λl z=>?_,w0.len,λj y e=>?_,w0.dis⟩
  ·by_cases ql:l=D
   ·rw [ql];exact hd
   ·have hl:=w.trk l (z.resolve_right ql);cases e:H l with
    | none=>exact absurd e hl
    | some o=>rw [s' l o e ql];exact λz=>nomatch z
  ·exact(w0.sl j y e).go S' (λl o _ _ a1 _ a3=>⟨.inl a1,s' _ _ a3 (λz=>nD (by rw [<-z];exact a1))⟩) (λa o u a1 _ a3=>⟨.inl a1,s' _ _ a3 (λz=>nD (by rw [<-z];exact a1))⟩) λa o a1 a3=>s' _ _ a3 (λz=>nD (by rw [<-z];exact w.sub _ a1))
 refine⟨λi m H'=>∃acc ys,m=vs.length - i/\i<=vs.length/\jr D H H'/\H' D=some (.lst ys)/\ys.length<=i/\ai K H' (λa=>O a\/a=D) ys acc/\mD dg dc de (dW k fr δ) (xs.drop i) acc Qd,⟨vs.length,[],[],Qh,Lq _,λb o e n=>by rw [aH n];exact e,bq,Lq _,.nil,by simpa using q⟩,?_⟩;rintro i m H1 ⟨acc,ys,rfl,hi,s1,e1,hy,ra,q1⟩;by_cases hlt:i < vs.length
 ·refine .inr ⟨S.go i H1 (hP D H1 hD s1) hlt,λx H' y=>?_⟩;have yy:=S.yl i H1 x H' (hP D H1 hD s1) hlt y;clear y;obtain⟨e,y⟩:=yy;subst e;obtain⟨d,ed,rd⟩:=r.get y;have hd:xs.drop i=d::xs.drop (i+1):=by
   rw [LU (h:=(Kg.mp ed).1),(Kg.mp ed).2]
  rw [hd] at q1;have w1:=ex _ s1 (by rw [e1];exact λz=>nomatch z);have S':aN H H' O (λa=>O a\/a=D):=⟨λb o e _=>s1 b o e (cS e hD),λb hb hn z=>z.elim hn λq=>hb (by rw [q];exact hD)⟩;refine hk x σ _ _ (gd H0 O0 _ _ _ _ x d _ _ w1 (rd.step S') q1 λδ2 σ2 q2 w2=>?_);refine hc σ2 _ _ ⟨_,δ2,_,w2,q2,λok H3 q3 s3=>?_⟩;cases ok with
  | true=>
   rw [Qf rfl];refine he σ2 H3 _ ⟨_,δ2,_,w2.mono s3,q3,λd' v H4 q4 s4 r4=>?_⟩;have e4:=s4 _ _ (s3 _ _ e1);have sD:aN H4 (aq H4 D (.lst (ys++[v]))) (λa=>O a\/a=D) (λa=>O a\/a=D):=⟨λb o e n=>by rw [aH (λz=>n (.inr z))];exact e,λ_ _ n=>n⟩;refine⟨ys,e4,Qc,vs.length - (i+1),Qc,acc++[d'],ys++[v],rfl,hlt,λb o e n=>by rw [aH n];exact s4 _ _ (s3 _ _ (s1 b o e n)),bq,by simpa using hy,?_,q4⟩;exact((ra.mono (s3.trans s4)).append (.cons r4 .nil)).step sD
  | false=>
   rw [Qe Qb];exact⟨vs.length - (i+1),Qc,acc,ys,rfl,hlt,λb o e n=>s3 _ _ (s1 b o e n),s3 _ _ e1,Qc,ra.mono s3,q3⟩
 ·have e:i=vs.length:=Qc
  subst e;refine .inl ⟨S.st _ H1 (hP D H1 hD s1) (J8 _),?_⟩;rw [r.length,M7 (J8 _)] at q1;have hrest:∃H2:Hp,H2 D=none/\ar H H2/\H1=aq H2 D (.lst ys):=by
   refine⟨λb=>if b=D then none else H1 b,Qh,λb o e=>?_,?_⟩
   ·have n:=cS e hD;show(if b=D then none else H1 b)=some o;rw [Qe n];exact s1 b o e n
   ·funext b;by_cases z:b=D
    ·rw [z,bq];exact e1
    ·rw [aH z];show H1 b=if b=D then none else H1 b;rw [Qe z]
  obtain⟨H2,h2,s2,rfl⟩:=hrest;refine k1 acc ys D H2 q1 s2 h2 (ra.step ⟨λb o e n=>?_,λb _ n z=>n (.inl z)⟩);rw [aH (λz=>n (.inr z))] at e;exact e
def gq(g:DG)(tc:DB)(te:DT)(δ0:Dl)(xs:List Qi)(Q:List Qi->Prop):Prop:=∃I:Nat->List Qi->Prop,I 0 []/\(∀i x acc,xs[i]?=some x->I i acc->g x δ0 λδ2=>tc δ2 λok=>if ok=true then te δ2 λy=>I (i+1) (acc++[y]) else I (i+1) acc)/\∀acc,I xs.length acc->Q acc
theorem iS{K:J0}{J:It}{P:Hp->Prop}{vs:List V}{xs:List Qi}{g:TG}{dg:DG}{tc:TT}{dc:DB}{te:TE}{de:DT}{k:Nat}{fr:List Nat}{σ:St}{H:Hp}{O:Ex}{δ:Dl}{Qd:List Qi->Prop}{Q:VK}(S:bW J P vs)(gd:GD K g dg)(hf:fr.Nodup)
 (hk:∀v:V,∀σ':St,∀H':Hp,∀R:St->Hp->Prop,g v (bD k fr σ) H' R->g v (bD k fr σ) H' λσ2 H2=>iP (bD k fr σ) σ2/\R σ2 H2)
 (hc:∀σ H Q,bM K H0 O0 dc σ H Q->tc σ H Q)(he:∀σ H Q,up K H0 O0 de σ H Q->te σ H Q)
 (hP:∀D H',H D=none->jr D H H'->P H')(r:ai K H O vs xs)(w:Wd K H0 O0 H O σ δ)(hz:vs.length<=Qp)(q:gq dg dc de (dW k fr δ) xs Qd)
 (k1:∀ds us p H',Qd ds->ar H H'->H' p=none->ai K H' O us ds->Q (.ref p) (aq H' p (.lst us))):js J g tc te k fr σ H Q:=by
 obtain⟨Iv,q0,qs,qe⟩:=q;intro D hD;have w0:Wd K H0 O0 H O (bD k fr σ) (dW k fr δ):=w.comp hf;have nD:¬O D:=λz=>w.trk D z hD;have D0:H0 D=none:=by
  cases e:H0 D with
  | none=>rfl
  | some o=>rw [w.same _ _ e] at hD;cases hD
 have ex:∀H',jr D H H'->H' D≠none->Wd K H0 O0 H' (λa=>O a\/a=D) (bD k fr σ) (dW k fr δ):=λH' s' hd=>by
  have S':aN H H' O (λa=>O a\/a=D):=⟨λb o e _=>s' b o e (cS e hD),λb hb hn z=>z.elim hn λq=>hb (by rw [q];exact hD)⟩;refine⟨λb o e=>s' b o (w.same b o e) (λz=>by rw [z,D0] at e;cases e),λl z=>.inl (w.sub l z),λl z=>z.elim (w.new l) λq=>.inr (by rw [q];exact D0),λl z=>?_,w0.len,λj y e=>?_,w0.dis⟩
  ·by_cases ql:l=D
   ·rw [ql];exact hd
   ·have hl:=w.trk l (z.resolve_right ql);cases e:H l with
    | none=>exact absurd e hl
    | some o=>rw [s' l o e ql];exact λz=>nomatch z
  ·exact(w0.sl j y e).go S' (λl o _ _ a1 _ a3=>⟨.inl a1,s' _ _ a3 (λz=>nD (by rw [<-z];exact a1))⟩) (λa o u a1 _ a3=>⟨.inl a1,s' _ _ a3 (λz=>nD (by rw [<-z];exact a1))⟩) λa o a1 a3=>s' _ _ a3 (λz=>nD (by rw [<-z];exact w.sub _ a1))
 refine⟨λi m H'=>∃acc ys,m=vs.length - i/\i<=vs.length/\jr D H H'/\H' D=some (.lst ys)/\ys.length<=i/\ai K H' (λa=>O a\/a=D) ys acc/\Iv i acc,⟨vs.length,[],[],Qh,Lq _,λb o e n=>by rw [aH n];exact e,bq,Lq _,.nil,q0⟩,?_⟩;rintro i m H1 ⟨acc,ys,rfl,hi,s1,e1,hy,ra,q1⟩;by_cases hlt:i < vs.length
 ·refine .inr ⟨S.go i H1 (hP D H1 hD s1) hlt,λx H' y=>?_⟩;have yy:=S.yl i H1 x H' (hP D H1 hD s1) hlt y;clear y;obtain⟨e,y⟩:=yy;subst e;obtain⟨d,ed,rd⟩:=r.get y;have w1:=ex _ s1 (by rw [e1];exact λz=>nomatch z);have S':aN H H' O (λa=>O a\/a=D):=⟨λb o e _=>s1 b o e (cS e hD),λb hb hn z=>z.elim hn λq=>hb (by rw [q];exact hD)⟩;refine hk x σ _ _ (gd H0 O0 _ _ _ _ x d _ _ w1 (rd.step S') (qs i d acc ed q1) λδ2 σ2 q2 w2=>?_);refine hc σ2 _ _ ⟨_,δ2,_,w2,q2,λok H3 q3 s3=>?_⟩;cases ok with
  | true=>
   rw [Qf rfl];refine he σ2 H3 _ ⟨_,δ2,_,w2.mono s3,q3,λd' v H4 q4 s4 r4=>?_⟩;have e4:=s4 _ _ (s3 _ _ e1);have sD:aN H4 (aq H4 D (.lst (ys++[v]))) (λa=>O a\/a=D) (λa=>O a\/a=D):=⟨λb o e n=>by rw [aH (λz=>n (.inr z))];exact e,λ_ _ n=>n⟩;refine⟨ys,e4,Qc,vs.length - (i+1),Qc,acc++[d'],ys++[v],rfl,hlt,λb o e n=>by rw [aH n];exact s4 _ _ (s3 _ _ (s1 b o e n)),bq,by simpa using hy,?_,q4⟩;exact((ra.mono (s3.trans s4)).append (.cons r4 .nil)).step sD
  | false=>
   rw [Qe Qb];exact⟨vs.length - (i+1),Qc,acc,ys,rfl,hlt,λb o e n=>s3 _ _ (s1 b o e n),s3 _ _ e1,Qc,ra.mono s3,q3⟩
 ·have e:i=vs.length:=Qc
  subst e;refine .inl ⟨S.st _ H1 (hP D H1 hD s1) (J8 _),?_⟩;rw [r.length] at q1;have hrest:∃H2:Hp,H2 D=none/\ar H H2/\H1=aq H2 D (.lst ys):=by
   refine⟨λb=>if b=D then none else H1 b,Qh,λb o e=>?_,?_⟩
   ·have n:=cS e hD;show(if b=D then none else H1 b)=some o;rw [Qe n];exact s1 b o e n
   ·funext b;by_cases z:b=D
    ·rw [z,bq];exact e1
    ·rw [aH z];show H1 b=if b=D then none else H1 b;rw [Qe z]
  obtain⟨H2,h2,s2,rfl⟩:=hrest;refine k1 acc ys D H2 (qe acc q1) s2 h2 (ra.step ⟨λb o e n=>?_,λb _ n z=>n (.inl z)⟩);rw [aH (λz=>n (.inr z))] at e;exact e
def jB:DB:=λ_ Q=>Q true
def gr(g:TG)(k:Nat):Prop:=∀(fr:List Nat)(σ:St)(v:V)(H':Hp)(R:St->Hp->Prop),g v (bD k fr σ) H' R->g v (bD k fr σ) H' λσ2 H2=>iP (bD k fr σ) σ2/\R σ2 H2
theorem cg:gr (gH 0) 1:=λfr σ v H' R h=>⟨Dr,h⟩
def mE(t:DT)(g:DG)(tc:DB)(te:DT)(k:Nat)(fr:List Nat):DA:=λδ Q=>t δ λd=>∃xs,d= .list xs/\xs.length<=Qp/\gq g tc te (dW k fr δ) xs Q
def mF(t:DT)(g:DG)(tc:DB)(te:DT)(k:Nat)(fr:List Nat):DA:=λδ Q=>t δ λd=>∃xs,d= .tuple xs/\xs.length<=Qp/\gq g tc te (dW k fr δ) xs Q
def uX(ta:DA)(g:DG)(tc:DB)(te:DT)(k:Nat)(fr:List Nat):DA:=λδ Q=>ta δ λds=>∃j:Int,ds=[.int j]/\-(2 ^ 62)<=j/\j < Qp/\gq g tc te (dW k fr δ) (eB 0 j.toNat) Q
section
variable {tg iter elt:Qn} {ifs:List Qn} {scope:QO} {N':List Str} {k:Nat} {fr:List Nat} {g:TG} {dg:DG} {t:DT} {ta:DA} {tc:DB} {te:DT} {pos p ps:Pos}
theorem gP(hc:X.calm=true)(S:br X.env.scope X.N N' k fr scope)(hi:DF X H0 O0 iter t)(gd:GD X.K g dg)(hk:gr g k)(hfr:fr.Nodup)
 (hg:∀fp C s H,PG (bu X scope N' fp C s H) tg g)(hf:∀fp C s H,dF (bu X scope N' fp C s H) ifs (bM X.K H0 O0 tc))(he:∀fp C s H,PE (bu X scope N' fp C s H) elt (up X.K H0 O0 te))
 (hs:∀x,QA iter X.env x=pure x:=by intro _;rfl):FE X H0 O0 (.ListComp elt [⟨tg,iter,ifs,0⟩] scope pos) (mE t dg tc te k fr):=
 (kA hc S (lO hi) hg hf he hs).imp λσ H Q uu32=>by obtain⟨O,δ,Qd,w,q,kk⟩:=uu32;exact⟨O,δ,_,w,q,λd v H1 uu33 s1 r1=>by
  obtain⟨xs,e,hz,q1⟩:=uu33;subst e;obtain⟨a,vs,rfl,hq,rr⟩:=r1.lst;refine⟨a,rfl,⟨_,hq⟩,λD hD=>iS (bW.list hq) gd hfr (λv _ H' R h=>hk fr σ v H' R h) (λ_ _ _ z=>z) (λ_ _ _ z=>z) (λD H' hD s' o e=>s' _ _ e (cS e hD)) rr (w.mono s1) (by rw [rr.length];exact hz) q1 (λds us p H' z s' hp r'=>kk ds us p H' z (s1.trans s') hp r') D hD⟩⟩
theorem iT(hc:X.calm=true)(S:br X.env.scope X.N N' k fr scope)(hi:DF X H0 O0 iter t)(gd:GD X.K g dg)(hk:gr g k)(hfr:fr.Nodup)
 (hg:∀fp C s H,PG (bu X scope N' fp C s H) tg g)(hf:∀fp C s H,dF (bu X scope N' fp C s H) ifs (bM X.K H0 O0 tc))(he:∀fp C s H,PE (bu X scope N' fp C s H) elt (up X.K H0 O0 te))
 (hs:∀x,QA iter X.env x=pure x:=by intro _;rfl):FE X H0 O0 (.ListComp elt [⟨tg,iter,ifs,0⟩] scope pos) (mF t dg tc te k fr):=
 (kA hc S (lP hi) hg hf he hs).imp λσ H Q uu34=>by obtain⟨O,δ,Qd,w,q,kk⟩:=uu34;exact⟨O,δ,_,w,q,λd v H1 uu35 s1 r1=>by
  obtain⟨xs,e,hz,q1⟩:=uu35;subst e;obtain⟨a,vs,rfl,hq,rr⟩:=r1.tup;refine⟨a,rfl,⟨_,hq⟩,λD hD=>iS (bW.tup hq) gd hfr (λv _ H' R h=>hk fr σ v H' R h) (λ_ _ _ z=>z) (λ_ _ _ z=>z) (λD H' hD s' o e=>s' _ _ e (cS e hD)) rr (w.mono s1) (by rw [rr.length];exact hz) q1 (λds us p H' z s' hp r'=>kk ds us p H' z (s1.trans s') hp r') D hD⟩⟩
theorem mG(hc:X.calm=true){a:Qn}(S:br X.env.scope X.N N' k fr scope)(hgl:Gl X "range")(hm:X.mg "range"=none)(ha:PA X [a] (el X.K H0 O0 ta))(gd:GD X.K g dg)(hk:gr g k)(hfr:fr.Nodup)
 (hg:∀fp C s H,PG (bu X scope N' fp C s H) tg g)(hf:∀fp C s H,dF (bu X scope N' fp C s H) ifs (bM X.K H0 O0 tc))(he:∀fp C s H,PE (bu X scope N' fp C s H) elt (up X.K H0 O0 te))
 (hst:Qo [a] X.env=[(false,eval a X.env)]:=by rfl)(hs:∀x,QA (.Call (.Name "range" p) [a] [] ps) X.env x=pure x:=by intro _;rfl):
 FE X H0 O0 (.ListComp elt [⟨tg,(.Call (.Name "range" p) [a] [] ps),ifs,0⟩] scope pos) (uX ta dg tc te k fr):=
 (kA hc S (sT hgl hm ha hst) hg hf he hs).imp λσ H Q uu36=>by obtain⟨O,δ,Qd,w,q,kk⟩:=uu36;exact⟨O,δ,_,w,q,λds vs H1 uu37 s1 r1=>by
  obtain⟨j,e,b1,b2,q1⟩:=uu37;subst e;cases r1 with
  | cons r1 r2=>
   cases r2;cases r1.int;have hb:(Qp:Int) < 2 ^ 62:=Qb
   exact⟨j,rfl,b1,Qc,λD hD=>iS (P:=λ_=>True) bW.rng gd hfr (λv _ H' R h=>hk fr σ v H' R h) (λ_ _ _ z=>z) (λ_ _ _ z=>z) (λ_ _ _ _=>trivial) (ai.rng _) (w.mono s1) (by rw [J1,M4];omega) q1 (λds us p H' z s' hp r'=>kk ds us p H' z (s1.trans s') hp r') D hD⟩⟩
end
end
section
variable {K:J0}
def dI(g:Int->Int->Qi):Qi->Qi->(Qi->Prop)->Prop:=λx y Q=>∃i j,x= .int i/\y= .int j/\Q (g i j)
def uY(C:Int->Int->Prop)(g:Int->Int->Qi):Qi->Qi->(Qi->Prop)->Prop:=λx y Q=>∃i j,x= .int i/\y= .int j/\C i j/\Q (g i j)
theorem bO{g:Int->Int->Int}:bG K (fF λi j=>.int (g i j)) (dI λi j=>.int (g i j)):=λH O x y dx dy Qd R _ hx hy uu38 k=>by
 obtain⟨i,j,e1,e2,q⟩:=uu38;subst e1 e2;cases hx.int;cases hy.int;exact⟨i,j,rfl,rfl,k _ _ H q (ar.refl _) (.int _)⟩
theorem dz{g:Int->Int->Bool}:bG K (fF λi j=>.bl (g i j)) (dI λi j=>.bool (g i j)):=λH O x y dx dy Qd R _ hx hy uu39 k=>by
 obtain⟨i,j,e1,e2,q⟩:=uu39;subst e1 e2;cases hx.int;cases hy.int;exact⟨i,j,rfl,rfl,k _ _ H q (ar.refl _) (.bl _)⟩
theorem cX{C:Int->Int->Prop}{g:Int->Int->Int}:bG K (rI C λi j=>.int (g i j)) (uY C λi j=>.int (g i j)):=λH O x y dx dy Qd R _ hx hy uu40 k=>by
 obtain⟨i,j,e1,e2,c,q⟩:=uu40;subst e1 e2;cases hx.int;cases hy.int;exact⟨i,j,rfl,rfl,c,k _ _ H q (ar.refl _) (.int _)⟩
def uZ(K:J0):R2:=λx y H Q=>∃O dx dy,Sh K H O x dx/\Sh K H O y dy/\bL dx/\bL dy/\Q (.bl (J6 dx dy)) H
def u5(K:J0):R2:=λx y H Q=>∃O dx dy,Sh K H O x dx/\Sh K H O y dy/\bL dx/\bL dy/\Q (.bl (!J6 dx dy)) H
theorem bA{X:Cx}(hu:X.A.units+64 < QD):bh X (Qz .Eq) (uZ X.K):=by
 intro RB s σ H x y v u Q I rx ry h;obtain⟨O,dx,dy,hx,hy,sx,sy,q⟩:=h;obtain⟨as,ra⟩:=fL I hx.all (K8 sx) rx;obtain⟨bs,rb⟩:=fL I hy.all (K8 sy) ry;exact SeqAt.compareEq_shaped ra rb sx sy hu (d8 I q rfl)
theorem jC{X:Cx}(hu:X.A.units+64 < QD):bh X (Qz .NotEq) (u5 X.K):=by
 intro RB s σ H x y v u Q I rx ry h;obtain⟨O,dx,dy,hx,hy,sx,sy,q⟩:=h;obtain⟨as,ra⟩:=fL I hx.all (K8 sx) rx;obtain⟨bs,rb⟩:=fL I hy.all (K8 sy) ry;exact SeqAt.compareNe_shaped ra rb sx sy hu (d8 I q rfl)
def u7:Qi->Qi->(Qi->Prop)->Prop:=λx y Q=>bL x/\bL y/\Q (.bool (J6 x y))
def u9:Qi->Qi->(Qi->Prop)->Prop:=λx y Q=>bL x/\bL y/\Q (.bool (!J6 x y))
theorem bB:bG K (uZ K) u7:=λH O x y dx dy Qd R _ hx hy uu41 k=>by obtain⟨a,b,q⟩:=uu41;exact⟨O,dx,dy,hx,hy,a,b,k _ _ H q (ar.refl _) (.bl _)⟩
theorem jD:bG K (u5 K) u9:=λH O x y dx dy Qd R _ hx hy uu42 k=>by obtain⟨a,b,q⟩:=uu42;exact⟨O,dx,dy,hx,hy,a,b,k _ _ H q (ar.refl _) (.bl _)⟩
def va:Qi->Qi->(Qi->Prop)->Prop:=λx y Q=>∃ds i d,x= .list ds/\y= .int i/\atI ds i=some d/\Q d
def mH:Qi->Qi->(Qi->Prop)->Prop:=λx y Q=>∃ds i d,x= .tuple ds/\y= .int i/\atI ds i=some d/\Q d
theorem ai.atI{H:Hp}{O:Ex}{vs:List V}{ds:List Qi}{i:Int}{d:Qi}(r:ai K H O vs ds)(e:L2.atI ds i=some d):∃v,L2.atI vs i=some v/\Dt K H O v d:=by
 unfold L2.atI at e⊢;rw [r.length];cases q:gi ds.length i with
 | none=>rw [q] at e;cases e
 | some j=>rw [q] at e;exact r.getD e
theorem bU:bG K (l4 K) va:=λH O x y dx dy Qd R _ hx hy uu43 k=>by
 obtain⟨ds,i,d,e1,e2,e3,q⟩:=uu43;subst e1 e2;obtain⟨a,vs,rfl,hs,r⟩:=hx.lst;cases hy.int;obtain⟨v,hv,rv⟩:=r.atI e3;exact⟨a,vs,i,v,rfl,rfl,hs,hv,k d v H q (ar.refl _) rv⟩
theorem ax:bG K (tN K) mH:=λH O x y dx dy Qd R _ hx hy uu44 k=>by
 obtain⟨ds,i,d,e1,e2,e3,q⟩:=uu44;subst e1 e2;obtain⟨a,vs,rfl,hs,r⟩:=hx.tup;cases hy.int;obtain⟨v,hv,rv⟩:=r.atI e3;exact⟨a,vs,i,v,rfl,rfl,hs,hv,k d v H q (ar.refl _) rv⟩
end
section
variable {X:Cx} {H0:Hp} {O0:Ex}
def DX:R2:=λx y H Q=>∃l b xs zs,x= .ref l/\y= .ref b/\Rd H l (.lst xs)/\Rd H b (.lst zs)/\xs.length+zs.length<=Qp/\∀p,H p=none->Q (.ref p) (aq H p (.lst (xs++zs)))
theorem DY:bh X (QR .Add) DX:=by
 intro RB s σ H x y v u Q I rx ry h;obtain⟨l,b,xs,zs,rfl,rfl,hH,hB,hz,q⟩:=h;cases rx;cases ry;obtain⟨z,its,n,r,e⟩:=hH.ok I.hok;obtain⟨z2,its2,n2,r2,e2⟩:=hB.ok I.hok;have l1:=r.length;have l2:=r2.length;refine PySem.P.add_list e e2 ?_ (by rw [Ke,Ke];omega);have ea:its.toArray++its2.toArray=(its++its2).toArray:=Qh
 rw [ea];exact⟨.ref _,_,I.lnew (t':=s.toks) (r.append r2) (by rw [Kk];omega),rfl,q _ I.fresh⟩
def vb(ta tb:DT):DA:=λδ Q=>ta δ λx=>tb δ λy=>∃xs ys,x= .list xs/\y= .list ys/\xs.length+ys.length<=Qp/\Q (xs++ys)
theorem pF{a b:Qn}{ta tb:DT}{pos:Pos}(ha:DF X H0 O0 a ta)(hb:DF X H0 O0 b tb):FE X H0 O0 (.BinOp a .Add b pos) (vb ta tb):=
 (d7 DY ha hb).imp λσ H Q uu45=>by obtain⟨O,δ,Qd,w,q,k⟩:=uu45;exact⟨O,δ,_,w,q,λx v H1 q1 s1 r1=>⟨O,δ,_,w.mono s1,q1,λy u H2 uu46 s2 r2=>by
  obtain⟨xs,ys,e1,e2,hz,q2⟩:=uu46;subst e1 e2;obtain⟨a,vs,rfl,h1,d1⟩:=(r1.mono s2).lstR;obtain⟨b,us,rfl,h2,d2⟩:=r2.lstR;exact⟨a,b,vs,us,rfl,rfl,h1,h2,by rw [d1.length,d2.length];exact hz,λp hp=>k _ _ _ _ q2 (s1.trans s2) hp (d1.append d2)⟩⟩⟩
def vc:Qi->Qi->(Qi->Prop)->Prop:=λx y Q=>∃xs ys,x= .tuple xs/\y= .tuple ys/\xs≠[]/\xs.length+ys.length<=Qp/\Q (.tuple (xs++ys))
theorem DZ{K:J0}:bG K (oP K) vc:=λH O x y dx dy Qd R tr hx hy uu47 k=>by
 obtain⟨xs,ys,e1,e2,hn,hz,q⟩:=uu47;subst e1 e2;have hx0:=hx;obtain⟨a,vs,rfl,h1,d1⟩:=hx.tup;obtain⟨b,us,rfl,h2,d2⟩:=hy.tup;refine⟨a,b,vs,us,rfl,rfl,h1,h2,λz=>?_,by rw [d1.length,d2.length];exact hz,λz=>?_,λ_ p hp=>?_⟩
 ·subst z;cases d1;exact hn rfl
 ·subst z;cases d2;rw [LV] at q;cases hx0 with
  | dt hx0=>exact k _ _ H q (ar.refl _) hx0
 ·exact k _ _ _ q (ar.new hp) (.tup (.inl bq) (λz=>tr p z hp) ((d1.append d2).mono (ar.new hp)))
def bI(xs:List Qi)(lo hi:Option Int):List Qi:=(xs.drop (HT.sIx xs.length 0 lo)).take (HT.sIx xs.length xs.length hi - HT.sIx xs.length 0 lo)
theorem ai.cut{K:J0}{H:Hp}{O:Ex}{vs:List V}{ds:List Qi}(r:ai K H O vs ds)(lo hi:Option Int):ai K H O (gJ vs lo hi) (bI ds lo hi):=by
 unfold gJ bI;rw [r.length];exact(r.drop _).take _
abbrev DO:=Dl->(Option Int->Prop)->Prop
inductive fN (K:J0) (H0:Hp) (O0:Ex) (t:DO) (σ:St) (H:Hp) (R:Option Int->Hp->Prop):Prop
 | mk (O:Ex) (δ:Dl) (Qd:Option Int->Prop):Wd K H0 O0 H O σ δ->t δ Qd->(∀d H',Qd d->ar H H'->R d H')->fN K H0 O0 t σ H R
def vd:DO:=λ_ Q=>Q none
def ve(t:DT):DO:=λδ Q=>t δ λd=>∃i,d= .int i/\Q (some i)
theorem PO.imp{X:Cx}{e:Option Qn}{t u:TO}(h:PO X e t)(i:∀σ H Q,u σ H Q->t σ H Q):PO X e u:=λRB s σ H Q I z=>h RB s σ H Q I (i σ H Q z)
theorem dX:PO X none (fN X.K H0 O0 vd):=Co.imp λσ H Q uu48=>by obtain⟨O,δ,Qd,w,q,k⟩:=uu48;exact k none H q (ar.refl _)
theorem cw{e:Qn}{t:DT}(h:DE X H0 O0 e t):PO X (some e) (fN X.K H0 O0 (ve t)):=(Cp h).imp λσ H Q uu49=>by obtain⟨O,δ,Qd,w,q,k⟩:=uu49;exact⟨O,δ,_,w,q,λd v H1 uu50 s1 r1=>by obtain⟨i,e,q1⟩:=uu50;subst e;cases r1;exact⟨i,rfl,k _ H1 q1 s1⟩⟩
def vf(t:DT)(tl th:DO):DA:=λδ Q=>t δ λd=>tl δ λl=>th δ λu=>∃xs,d= .list xs/\Q (bI xs l u)
theorem iU{e:Qn}{lo hi:Option Qn}{t:DT}{tl th:DO}{pos p2:Pos}(h:DF X H0 O0 e t)(hl:PO X lo (fN X.K H0 O0 tl))(hu:PO X hi (fN X.K H0 O0 th)):FE X H0 O0 (.Subscript e (.Slice lo hi none p2) pos) (vf t tl th):=
 (l3 tQ h hl hu).imp λσ H Q uu51=>by obtain⟨O,δ,Qd,w,q,k⟩:=uu51;exact⟨O,δ,_,w,q,λd v H1 q1 s1 r1=>⟨O,δ,_,w.mono s1,q1,λl H2 q2 s2=>⟨O,δ,_,w.mono (s1.trans s2),q2,λu H3 uu52 s3=>by
  obtain⟨xs,e,q3⟩:=uu52;subst e;obtain⟨a,vs,rfl,h1,d1⟩:=(r1.mono (s2.trans s3)).lst;exact⟨a,vs,rfl,h1,λp hp=>k _ _ _ _ q3 (s1.trans (s2.trans s3)) hp (d1.cut l u)⟩⟩⟩⟩
theorem cY{a b:Qn}{ta tb:DT}{r:R2}{rd:Qi->Qi->(Qi->Prop)->Prop}{pos:Pos}(ho:jo X r)(hd:bG X.K r rd)(ha:DF X H0 O0 a ta)(hb:DF X H0 O0 b tb)(hs:∀v u,Rc b false v u=operate [v,u] (QX v u):=by intro _ _;rfl):DE X H0 O0 (.Subscript a b pos) (fi rd ta tb):=(iN ho ha hb hs).imp (mq hd)
def vg:List Qi->(Qi->Prop)->Prop:=λds Q=>∃xs,(ds=[.list xs]\/ds=[.tuple xs])/\Q (.int xs.length)
def vh:List Qi->(Qi->Prop)->Prop:=λds Q=>∃xs,ds=[dS xs]/\Q (.int xs.length)
theorem bP{K:J0}:gO K (λxs H Q=>∃p ys,xs=[.ref p]/\(aX K H p ys\/bg K H p ys)/\Q (.int ys.length) H) vg:=λH O xs ds Qd R _ hs uu53 k=>by
 obtain⟨ys,e,q⟩:=uu53;rcases e with e | e <;> subst e
 ·cases hs with
  | cons h r=>
   cases r;obtain⟨a,vs,rfl,h1,d1⟩:=h.lst;exact⟨a,vs,rfl,.inl h1,by rw [d1.length];exact k _ _ H q (ar.refl _) (.int _)⟩
 ·cases hs with
  | cons h r=>
   cases r;obtain⟨a,vs,rfl,h1,d1⟩:=h.tup;exact⟨a,vs,rfl,.inr h1,by rw [d1.length];exact k _ _ H q (ar.refl _) (.int _)⟩
theorem vi{K:J0}:gO K (λxs H Q=>∃p ys,xs=[.ref p]/\(aX K H p ys\/bg K H p ys)/\Q (.int ys.length) H) vh:=λH O xs ds Qd R _ hs uu54 k=>by
 obtain⟨ys,e,q⟩:=uu54;subst e;cases hs with
 | cons h r=>
  cases r;obtain⟨a,vs,rfl,h1,d1⟩:=h.scr;exact⟨a,vs,rfl,.inl h1,by rw [d1.length];exact k _ _ H q (ar.refl _) (.int _)⟩
def vj:List Qi->(Qi->Prop)->Prop:=λds Q=>∃xs,ds=[.list xs]/\Q (.tuple xs)
theorem jE{K:J0}:gO K (λxs H Q=>∃p ys,xs=[.ref p]/\((aX K H p ys/\∀l,H l=none->Q (.ref l) (aq H l (.tup ys)))\/(bg K H p ys/\Q (.ref p) H))) vj:=λH O xs ds Qd R tr hs uu55 k=>by
 obtain⟨ys,e,q⟩:=uu55;subst e;cases hs with
 | cons h r=>
  cases r;obtain⟨a,vs,rfl,h1,d1⟩:=h.lst;exact⟨a,vs,rfl,.inl ⟨h1,λl hl=>k _ _ _ q (ar.new hl) (.tup (.inl bq) (λz=>tr l z hl) (d1.mono (ar.new hl)))⟩⟩
theorem ai.bools{K:J0}{H:Hp}{O:Ex}:∀{bs:List Bool}{vs:List V},ai K H O vs (bs.map Lm)->vs=bs.map V.bl
 | [],_,r=>by rw [LA] at r;cases r;rfl
 | b::bs,_,r=>by
  rw [Kb] at r;cases r with
  | cons h r=>cases h;rw [Kb,ai.bools r]
def vn(g:List Bool->Bool):List Qi->(Qi->Prop)->Prop:=λds Q=>∃bs:List Bool,ds=[.list (bs.map .bool)]/\Q (.bool (g bs))
theorem ie{K:J0}{g:List Bool->Bool}:gO K (λxs H Q=>∃(a:Qk)(bs:List Bool),xs=[.ref a]/\aX K H a (bs.map V.bl)/\Q (.bl (g bs)) H) (vn g):=λH O xs ds Qd R tr hs uu56 k=>by
 obtain⟨bs,e,q⟩:=uu56;subst e;cases hs with
 | cons h r=>
  cases r;obtain⟨a,vs,rfl,h1,d1⟩:=h.lst;cases d1.bools;exact⟨a,bs,rfl,h1,k _ _ H q (ar.refl _) (.bl _)⟩
def vo(g:Int->Int->Int):List Qi->(Qi->Prop)->Prop:=λds Q=>∃i j,ds=[.int i,.int j]/\Q (.int (g i j))
theorem mI{K:J0}{g:Int->Int->Int}:gO K (λxs H Q=>∃i j,xs=[.int i,.int j]/\Q (.int (g i j)) H) (vo g):=λH O xs ds Qd R tr hs uu57 k=>by
 obtain⟨i,j,e,q⟩:=uu57;subst e;cases hs with
 | cons h r=>
  cases r with
  | cons h2 r=>
   cases r;cases h.int;cases h2.int;exact⟨i,j,rfl,k _ _ H q (ar.refl _) (.int _)⟩
def jF:Qi->String
 | .none=> "NoneType" | .bool _=> "bool" | .int _=> "int" | .str _=> "str" | .list _=> "list" | .tuple _=> "tuple" | .dict _=> "dict"
end
section
variable {P:Qu} {w:Qw} {K:J0} {mg:Str->Option Qj} {base:Qy}
def iV(N:List Str)(ds:List Qi):Dl:=ds.map (λd=>some (.v d))++Kp (N.length - ds.length) none
theorem D1{H:Hp}{O:Ex}{N:List Str}{vs:List V}{ds:List Qi}(tr:∀l,O l->H l≠none)(r:ai K H O vs ds):Wd K H O H O (start N vs) (iV N ds):=by
 have hl:=r.length;have at1:∀(i:Nat) y,(iV N ds)[i]?=some y->(∃d,ds[i]?=some d/\y=some (.v d))\/y=none:=λi y e=>by
  unfold iV at e;by_cases h:i < ds.length
  ·rw [LS (by simpa using h),Kj] at e;cases q:ds[i]? with
   | none=>rw [q] at e;cases e
   | some d=>rw [q] at e;exact .inl ⟨d,rfl,(K4 e).symm⟩
  ·rw [LM (by simpa using NZ h),Ms] at e;split at e
   ·exact .inr (K4 e).symm
   ·cases e
 refine⟨ar.refl _,λ_ z=>z,λ_ z=>.inl z,tr,by simp [start,iV,hl],λi y e=>?_,λi j ds' es l e1=>?_⟩
 ·rcases at1 i y e with⟨d,hd,rfl⟩ | rfl
  ·obtain⟨v,hv,rv⟩:=r.getD hd;refine⟨v,?_,rv⟩;unfold start;rw [LS (by simpa using(Kg.mp hv).1),Kj,hv];rfl
  ·exact Lw
 ·rcases at1 i _ e1 with⟨d,_,z⟩ | z
  ·cases z;intro h;exact h.elim
  ·cases z
theorem gL.okD{x qual:Str}{st:Qx}{f:Qk}{fd:Qt}{N ps:List Str}{k:Nat}{F:List Qi->(Qi->Prop)->Prop}(Fu:gL K x qual st f fd)(S:aZ N ps (aE st))(len:∀ds Q,F ds Q->ds.length=ps.length)
 (hbody:∀(cdv:Qj) (A:QC) (outer:List Env) (s:Ql) (H:Hp) (O:Ex) (ds:List Qi) (Q:Qi->Prop) (E:XK),bx k (A.deeper (envOfC qual (aE st) s.heap.objs.size f cdv))->F ds Q->
  ∃t,bz (hX CX0 P w K mg base N qual (aE st) f cdv A outer s H E).nox (gK st) (bp K H O t)/\t {nx:=λ_=>Q .none,rt:=Q} (iV N ds)):aM P w K mg base CX0 (k+1) f fd ps (aT K F):=by
 refine Fu.ok S (λvs H Q E h=>?_) (λcdv A outer s H vs Q E hr h=>?_)
 ·obtain⟨O,ds,Qd,_,r,q,_⟩:=h;rw [r.length];exact len _ _ q
 ·obtain⟨O,ds,Qd,tr,r,q,k⟩:=h;obtain⟨t,ht,q'⟩:=hbody cdv A outer s H O ds Qd E hr q;refine⟨_,ht,O,_,_,D1 tr r,q',λO' δ' σ' H' z w' S'=>?_,λd v H' z s' r'=>k d v H' z s' r',λ_ _ _ _ z=>z.elim,λ_ _ _ _ z=>z.elim⟩;exact k _ _ _ z w'.same .non
end
section
variable {X:Cx} {H0:Hp} {O0:Ex}
theorem dA:dF X [] (bM X.K H0 O0 jB):=λRB s σ H Q I h=>by
 obtain⟨O,δ,Qd,w,q,k⟩:=h;exact C7 RB s σ H Q I (k true H q (ar.refl _))
theorem D2:cT X (.builtin "isinstance") (λxs H Q=>∃O d T b x,xs=[x,.ty T]/\Dt X.K H O x d/\(∀x,d≠ .dict [(.none,x)])/\kitOne X.K (.type (jF d)) (.type T)=some b/\Q (.bl b) H):=by
 intro RB s σ H xs us Q I r h;obtain⟨O,d,T,b,x,rfl,hd,hp,hk,q⟩:=h;obtain⟨u,w',rfl,rx,rt⟩:=lW r;cases (show w'=P6 T from rt);have fin:∀tk,EP X RB σ Q (.bool b) {s with toks:=tk}:=λtk=>⟨.bl b,H,I.tok tk,rfl,q⟩;cases hd with
 | non=>cases (show u=Mv from rx);exact Rm kitx_none I.kIn Lw hk (λz=>nomatch z) fin
 | bl y=>cases (show u=L8 y from rx);exact Rm kitx_bool I.kIn Lw hk (λz=>nomatch z) fin
 | int i=>obtain⟨t,e⟩:=(show ∃t,u=Mu i t from rx);cases e;exact Rm kitx_int I.kIn Lw hk (λz=>nomatch z) fin
 | str y=>obtain⟨t,e⟩:=(show ∃t,u=LZ y t from rx);cases e;exact Rm kitx_str I.kIn Lw hk (λz=>nomatch z) fin
 | @tup a xs ds h n rr=>
  cases (show u=KL a from rx);obtain⟨its,rv,⟨o,e,c,_⟩,_⟩:=I.tuple (.inl h);exact Rm kitx_tuple I.kIn ⟨o,e,c⟩ hk (λz=>nomatch z) fin
 | @tupK a xs ds h rr=>
  cases (show u=KL a from rx);obtain⟨its,rv,⟨o,e,c,_⟩,_⟩:=I.tuple h.of0;exact Rm kitx_tuple I.kIn ⟨o,e,c⟩ hk (λz=>nomatch z) fin
 | @lst a xs ds h n rr=>
  cases (show u=KL a from rx);obtain⟨its,rv,⟨o,_,e,c,_⟩,_⟩:=I.list (.inl h);exact Rm kitx_list I.kIn ⟨o,e,c⟩ hk (λz=>nomatch z) fin
 | pack h n=>exact absurd rfl (hp _)
 | purse h n=>exact absurd rfl (hp _)
 | scr h r=>exact absurd rfl (hp _)
 | obj h e n r=>exact absurd rfl (hp _)
 | @dct0 a h n=>
  cases (show u=KL a from rx);obtain⟨_,_,_,_,o,_,_,e,c,_⟩:=(show bN X.prog X.w H s.heap a (.dK []) from I.hok a _ h);exact Rm kitx_dict I.kIn ⟨o,e,c.1⟩ hk (λz=>nomatch z) fin
 | @dic a ob kv ks kp ds h e1 e2 n rr=>
  cases (show u=KL a from rx);obtain⟨_,_,_,_,o,_,_,e,c,_⟩:=(show bN X.prog X.w H s.heap a (.dK kv) from(I.hok a _ h).2);exact Rm kitx_dict I.kIn ⟨o,e,c.1⟩ hk (λz=>nomatch z) fin
def pG(K:J0)(T:String)(t:DT):DT:=λδ Q=>t δ λd=>∃b,kitOne K (.type (jF d)) (.type T)=some b/\(∀x,d≠ .dict [(.none,x)])/\Q (.bool b)
theorem D3{T:String}{a c:Qn}{t:DT}{np p:Pos}(hg:Gl X "isinstance")(hm:X.mg "isinstance"=none)(hv:QB "isinstance"=some (.builtin "isinstance"))(ha:DF X H0 O0 a t)(hc:PE X c (tC (.ty T)))
 (hs:Qo [a,c] X.env=(false,eval a X.env)::Qo [c] X.env:=by rfl)(hs2:Qo [c] X.env=[(false,eval c X.env)]:=by rfl)(hb:(QJ p (Qo [c] X.env)).any (·.1)=false:=by rfl):DE X H0 O0 (.Call (.Name "isinstance" np) [a,c] [] p) (pG X.K T t):=
 (aS D2 hg hm hv (cC ha (cC hc dE hs2) hs) (he:=hs) (hpl:=hb)).imp λσ H Q uu58=>by obtain⟨O,δ,Qd,w,q,k⟩:=uu58;exact⟨O,δ,_,w,q,λd v H1 uu59 s1 r1=>by obtain⟨b,e,hp,q1⟩:=uu59;exact⟨λ_=>False,d,T,b,v,rfl,r1.all,hp,e,k _ _ H1 q1 s1 (.bl b)⟩⟩
def vp:Qi->Qi->(Qi->Prop)->Prop:=λx y Q=>∃i j,x= .str i/\y= .str j/\i.length+j.length<=Qp/\Q (.str (i++j))
theorem vq{K:J0}:bG K (λx y H Q=>∃i j,x= .str i/\y= .str j/\i.length+j.length<=Qp/\Q (.str (i++j)) H) vp:=λH O x y dx dy Qd R tr hx hy uu60 k=>by
 obtain⟨i,j,e1,e2,hz,q⟩:=uu60;subst e1 e2;cases hx.str;cases hy.str;exact⟨i,j,rfl,rfl,hz,k _ _ H q (ar.refl _) (.str _)⟩
def vt:Qi->Qi->(Qi->Prop)->Prop:=λx y Q=>∃z i c,x= .str z/\y= .int i/\z.length<=Qp/\atI z.cps.toList i=some c/\Q (.str ⟨#[c]⟩)
theorem vv{K:J0}:bG K tO vt:=λH O x y dx dy Qd R tr hx hy uu61 k=>by
 obtain⟨z,i,c,e1,e2,hz,e3,q⟩:=uu61;subst e1 e2;cases hx.str;cases hy.int;exact⟨z,i,c,rfl,rfl,hz,e3,k _ _ H q (ar.refl _) (.str _)⟩
def D4:V->Option Int->Option Int->Hp->VK->Prop:=λx lo hi H Q=>∃z,x= .str z/\z.length<=Qp/\Q (.str (Txt.slice z lo hi)) H
theorem D5:kz X D4:=by
 intro RB s σ H x v vl vu lo hi sl Q I rx hs pl pu h;obtain⟨z,rfl,hz,q⟩:=h;obtain⟨t,rfl⟩:=rx;have e1:∃l:Option (Int×Tok),vl=partValue l/\l.map (·.1)=lo:=by
  cases pl with
  | none=>exact⟨none,rfl,rfl⟩
  | int i t=>exact⟨some (i,t),rfl,rfl⟩
 have e2:∃l:Option (Int×Tok),vu=partValue l/\l.map (·.1)=hi:=by
  cases pu with
  | none=>exact⟨none,rfl,rfl⟩
  | int i t=>exact⟨some (i,t),rfl,rfl⟩
 obtain⟨l,rfl,rfl⟩:=e1;obtain⟨u,rfl,rfl⟩:=e2;refine⟨"str",_,F.slot_str_getitem.lookup,Q9 _ _ _,wpAny_getItem_str_slice (l:=l) (u:=u) (st:=none) hs rfl ?_⟩;exact post_val_or_str ⟨KI (Txt.slice_le z _ _) hz,λt' k=>⟨.str (Txt.slice z (l.map (·.1)) (u.map (·.1))),H,I.tok _,⟨_,rfl⟩,q⟩⟩
def vw(t:DT)(tl th:DO):DT:=λδ Q=>t δ λd=>tl δ λl=>th δ λu=>∃z,d= .str z/\z.length<=Qp/\Q (.str (Txt.slice z l u))
theorem vz{e:Qn}{lo hi:Option Qn}{t:DT}{tl th:DO}{pos p2:Pos}(h:DF X H0 O0 e t)(hl:PO X lo (fN X.K H0 O0 tl))(hu:PO X hi (fN X.K H0 O0 th)):DE X H0 O0 (.Subscript e (.Slice lo hi none p2) pos) (vw t tl th):=
 (l3 D5 h hl hu).imp λσ H Q uu62=>by obtain⟨O,δ,Qd,w,q,k⟩:=uu62;exact⟨O,δ,_,w,q,λd v H1 q1 s1 r1=>⟨O,δ,_,w.mono s1,q1,λl H2 q2 s2=>⟨O,δ,_,w.mono (s1.trans s2),q2,λu H3 uu63 s3=>by
  obtain⟨z,e,hz,q3⟩:=uu63;subst e;cases r1.str;exact⟨z,rfl,hz,k _ _ H3 q3 (s1.trans (s2.trans s3)) (.str _)⟩⟩⟩⟩
theorem D6{K:J0}{H:Hp}{O:Ex}:∀{ys:List Str}{vs:List V}{us:List Qj},ai K H O vs (ys.map J5)->aD vs us->StrsAre us ys:=by
 intro ys
 induction ys with
 | nil=>intro vs us r rv;rw [LA] at r;cases r;cases rv;exact .nil
 | cons y ys ih=>
  intro vs us r rv;rw [Kb] at r;cases r with
  | cons h r=>
   cases h;cases rv with
   | cons r1 r2=>
    obtain⟨t,rfl⟩:=r1;exact .cons y t (ih r r2)
theorem D7:oR X "str.join" (λx xs H Q=>∃(O:Ex)(z:Str)(a:V)(ys:List Str),x= .str z/\xs=[a]/\Sh X.K H O a (.list (ys.map .str))/\(ys.map (·.length)).sum+ys.length*z.length<=16777216/\Q (.str (Txt.join z ys)) H):=by
 intro RB s σ H x xs v us Q I rx rs h;obtain⟨O,z,a,ys,rfl,rfl,ha,hz,q⟩:=h;obtain⟨t,rfl⟩:=rx;obtain⟨u,rfl,ru⟩:=cW rs;obtain⟨l,vs,rfl,hl,dl⟩:=ha.lst;cases ru;obtain⟨its,rv,pl,_⟩:=I.list hl;exact join_list pl.isList (by simpa using D6 dl rv) hz λt' k=>⟨.str _,H,I.tok _,⟨_,rfl⟩,q⟩
def vA(to:DT)(t:DT):DT:=λδ Q=>to δ λx=>∃z:Str,x= .str z/\t δ λy=>∃(ys:List Str),y= .list (ys.map .str)/\(ys.map (·.length)).sum+ys.length*z.length<=16777216/\Q (.str (Txt.join z ys))
theorem D8{o e:Qn}{to t:DT}{apos cpos:Pos}(ho:DE X H0 O0 o to)(ha:DF X H0 O0 e t)(hbase:QV o "join" X.env (eval o X.env)=eval o X.env:=by rfl)
 (hfew:((QJ cpos (Qo [e] X.env)).all (λx=>!x.1) && (backToKw cpos (Rf [] X.env)).all (λx=>x.1.isSome) && decide ([e].length+([]:List QY).length+(if ([]:List QY).isEmpty then 0 else 1) < 30))=true:=by rfl)
 (hline:(apos.endLine==cpos.line)=true:=by rfl)(hst:Qo [e] X.env=(false,eval e X.env)::Qo [] X.env:=by rfl)(hplain:(QJ cpos (Qo [] X.env)).any (·.1)=false:=by rfl):
 DE X H0 O0 (.Call (.Attribute o "join" apos) [e] [] cpos) (vA to t):=
 (oV PySem.F.plainAttrs_str PySem.F.slot_str_join PySem.F.type_str_join D7 ho (cC ha dE hst) hbase hfew hline hst hplain).imp λσ H Q uu64=>by obtain⟨O,δ,Qd,w,q,k⟩:=uu64;exact⟨O,δ,_,w,q,λx v H1 uu65 s1 r1=>by
  obtain⟨z,e,q1⟩:=uu65;subst e;cases r1;exact⟨rfl,O,δ,_,w.mono s1,q1,λy u H2 uu66 s2 r2=>by obtain⟨ys,e,hz,q2⟩:=uu66;subst e;exact⟨O,z,u,ys,rfl,rfl,r2,hz,k _ _ H2 q2 (s1.trans s2) (.str _)⟩⟩⟩
def vB:List Qi->(Qi->Prop)->Prop:=λds Q=>(∃i,ds=[.int i]/\Q (.int i))\/∃b,ds=[.bool b]/\Q (.int (if b then 1 else 0))
theorem pH{K:J0}:gO K (λxs H Q=>(∃i,xs=[.int i]/\Q (.int i) H)\/∃k,xs=[.bl k]/\Q (.int (if k then 1 else 0)) H) vB:=λH O xs ds Qd R tr hs h k=>by
 rcases h with⟨i,e,q⟩ | ⟨b,e,q⟩ <;> subst e
 ·cases hs with
  | cons h r=>cases r;cases h.int;exact .inl ⟨i,rfl,k _ _ H q (ar.refl _) (.int _)⟩
 ·cases hs with
  | cons h r=>cases r;cases h.bl;exact .inr ⟨b,rfl,k _ _ H q (ar.refl _) (.int _)⟩
def vC(t:DA):DA:=λδ Q=>t δ λds=>∃xs,(ds=[.list xs]\/ds=[.tuple xs])/\Q xs
theorem D9{a:Qn}{t:DA}{np p:Pos}(hg:Gl X "list")(hm:X.mg "list"=none)(hv:QB "list"=some (.type "list"))(ha:PA X [a] (el X.K H0 O0 t))(he:Qo [a] X.env=(false,eval a X.env)::Qo [] X.env:=by rfl)(hpl:(QJ p (Qo [] X.env)).any (·.1)=false:=by rfl):FE X H0 O0 (.Call (.Name "list" np) [a] [] p) (vC t):=
 (fJ CB hg hm hv ha (he:=he) (hpl:=hpl)).imp λσ H Q uu67=>by obtain⟨O,δ,Qd,w,q,k⟩:=uu67;exact⟨O,δ,_,w,q,λds vs H1 uu68 s1 r1=>by
  obtain⟨xs,e,q1⟩:=uu68;rcases e with e | e <;> subst e
  ·cases r1 with
   | cons h r=>
    cases r;obtain⟨a,us,rfl,h1,d1⟩:=h.lst;exact⟨a,us,rfl,.inl h1,λl hl=>k _ _ _ _ q1 s1 hl d1⟩
  ·cases r1 with
   | cons h r=>
    cases r;obtain⟨a,us,rfl,h1,d1⟩:=h.tup;exact⟨a,us,rfl,.inr h1,λl hl=>k _ _ _ _ q1 s1 hl d1⟩⟩
theorem Ea{xs:List V}{us:List Qj}(r:aD xs us):aD xs.reverse us.reverse:=by
 induction r with
 | nil=>exact .nil
 | cons h r ih=>rw [M3,M3];exact ih.append (.cons h .nil)
end
section
variable {X:Cx} {RB:List (Qk×Obj)} {σ:St} {H:Hp} {s:Ql}
theorem af.swap{p:Qk}{o':HO}(I:af X RB σ H s)(mu:ji (H p))(new:bN X.prog X.w (aq H p o') s.heap p o'):af X RB σ (aq H p o') s:=by
 have hp:∃o,H p=some o:=by
  cases e:H p with
  | none=>rw [e] at mu;exact mu.elim
  | some o=>exact⟨o,rfl⟩
 obtain⟨o,ho⟩:=hp;have nn:∀{b:Qk},H b=none->b≠p:=λhb z=>by rw [z,ho] at hb;cases hb
 have nt:∀{b:Qk}{xs:List V},H b=some (.tup xs)->b≠p:=λhb z=>by rw [z] at hb;rw [hb] at mu;exact mu
 have nw:∀{b y:Qk},H b=some (.own y)->b≠p:=λhb z=>by rw [z] at hb;rw [hb] at mu;exact mu
 have nf:∀{b:Qk}{ob:Obj}{u:HO},H b=some (.frz ob u)->b≠p:=λhb z=>by rw [z] at hb;rw [hb] at mu;exact mu
 have nb:∀{b:Qk}{ps:Array Qj},H b=some (.tbl ps)->b≠p:=λhb z=>by rw [z] at hb;rw [hb] at mu;exact mu
 have ub:=I.base;refine⟨I.ok,I.os,I.bare,⟨ub.keep,ub.slot,λb ob e n hx=>?_,ub.there,λb xs z=>?_,λb ob u z=>?_,λb ps z=>?_⟩,I.loc,I.cell,?_,λx c e=>?_,λq hq=>?_,λb u e=>?_,I.len⟩
 ·have:=ub.free b ob e n hx;rw [aH (nn this)];exact this
 ·have:=ub.tups b xs z;rw [aH (nt this)];exact this
 ·have:=ub.frzs b ob u z;rw [aH (nf this)];exact this
 ·obtain⟨m,this⟩:=ub.tbls b ps z;exact⟨m,by rw [aH (nb this)];exact this⟩
 ·rw [aH (nn I.free)];exact I.free
 ·have:=I.freeC x c e;rw [aH (nn this)];exact this
 ·obtain⟨a,b,c⟩:=I.pin q hq;exact⟨a,by rw [aH (nn b)];exact b,c⟩
 ·by_cases hb:b=p
  ·subst hb;rw [bq] at e;cases e;exact new
  ·rw [aH hb] at e;exact(I.hok b u e).stay (λ_ _ _ q=>q) (λc z=>by rw [aH (nw z)];exact z) λc xs z=>by rw [aH (nt z)];exact z
theorem af.open3{p:Qk}(I:af X RB σ H s)(e:H p=some (fK p)):∃a b c,af X RB σ (aq H p (.lst [.int a,.int b,.int c])) s:=by
 obtain⟨⟨a,b,c,t,u,v,k,h⟩,_,_⟩:=(show bN X.prog X.w H s.heap p (fK p) from I.hok p _ e);exact⟨a,b,c,I.swap (by rw [e];exact Lw) ⟨(show 3<=Qp by decide),[.int a t,.int b u,.int c v],k,.cons ⟨t,rfl⟩ (.cons ⟨u,rfl⟩ (.cons ⟨v,rfl⟩ .nil)),h⟩⟩
theorem af.shut3{p:Qk}{a b c:Int}(I:af X RB σ H s)(e:H p=some (.lst [.int a,.int b,.int c])):af X RB σ (aq H p (fK p)) s:=by
 obtain⟨_,its,k,r,h⟩:=(show bN X.prog X.w H s.heap p (.lst [.int a,.int b,.int c]) from I.hok p _ e);cases r with
 | cons r1 r2=>
  cases r2 with
  | cons r2 r3=>
   cases r3 with
   | cons r3 r4=>
    cases r4;obtain⟨t,rfl⟩:=r1;obtain⟨u,rfl⟩:=r2;obtain⟨v,rfl⟩:=r3;exact I.swap (by rw [e];exact Lw) ⟨⟨a,b,c,t,u,v,k,h⟩,⟨_,h⟩,λh1 h2 uu69 kk=>by obtain⟨a,b,c,t,u,v,k,z⟩:=uu69;exact⟨a,b,c,t,u,v,k,kk _ z⟩⟩
theorem bz.purse{st:List Qx}{t:TS}(h:bz X st t):bz X st (λD σ H=>∃p,H p=some (fK p)/\∀a b c,t {nx:=λσ' H'=>∃a b c,H' p=some (.lst [.int a,.int b,.int c])/\D.nx σ' (aq H' p (fK p)),rt:=λv H'=>∃a b c,H' p=some (.lst [.int a,.int b,.int c])/\D.rt v (aq H' p (fK p))} σ (aq H p (.lst [.int a,.int b,.int c]))):=by
 intro RB s σ H D I ⟨p,e,q⟩;obtain⟨a,b,c,I1⟩:=I.open3 e;refine aA (h RB s σ _ _ I1 (q a b c)) λf s1 z=>?_;cases f with
 | next=>obtain⟨σ',H',J,_,_,_,e',q'⟩:=z;exact⟨σ',_,J.shut3 e',q'⟩
 | ret u=>obtain⟨v,σ',H',J,r,_,_,_,e',q'⟩:=z;exact⟨v,σ',_,J.shut3 e',r,q'⟩
 | brk=>obtain⟨_,_,_,z⟩:=z;exact z.elim
 | cont=>obtain⟨_,_,_,z⟩:=z;exact z.elim
theorem bz.newPurse{st:List Qx}{t:TS}(h:bz X st t):bz X st (λD σ H=>t {nx:=λ_ _=>False,rt:=λv H'=>∃p a b c,v= .ref p/\H' p=some (.lst [.int a,.int b,.int c])/\D.rt v (aq H' p (fK p))} σ H):=by
 intro RB s σ H D I q;refine aA (h RB s σ _ _ I q) λf s1 z=>?_;cases f with
 | next=>obtain⟨_,_,_,z⟩:=z;exact z.elim
 | ret u=>obtain⟨v,σ',H',J,r,p,a,b,c,e,e',q'⟩:=z;subst e;exact⟨_,σ',_,J.shut3 e',r,q'⟩
 | brk=>obtain⟨_,_,_,z⟩:=z;exact z.elim
 | cont=>obtain⟨_,_,_,z⟩:=z;exact z.elim
end
def pI:List Qi->(Qi->Prop)->Prop:=λds Q=>∃z:Int,ds=[dG,.int z]/\0 < z/\z<=1000000/\∀i:Int,0<=i->i < z->Q (.int i)
theorem cM{α:Type}{a:α}{l:List α}:atI (a::l) 0=some a:=di (j:=0) rfl
theorem cx{α:Type}{a b:α}{l:List α}:atI (a::b::l) 1=some b:=di (j:=1) rfl
theorem ig{α:Type}{a b c:α}{l:List α}:atI (a::b::c::l) 2=some c:=di (j:=2) rfl
theorem iW{α:Type}{a b c d:α}{l:List α}:atI (a::b::c::d::l) 3=some d:=di (j:=3) rfl
theorem mJ{α:Type}{a b c d e:α}{l:List α}:atI (a::b::c::d::e::l) 4=some e:=di (j:=4) rfl
theorem gQ{i:Int}:bL (.int i):=rfl
theorem mK{i:Bool}:bL (.bool i):=rfl
theorem vD:bL .none:=rfl
theorem fO{x y:Str}:J6 (.str x) (.str y)=(x==y):=by simp [J6]
theorem mL{x y:Int}:J6 (.int x) (.int y)=(x==y):=by simp [J6]
theorem cj{x:Str}:bL (.str x)↔KJ x=true:=by
 unfold bL Kf;simp [K0,MD]
theorem gu{ds:List Qi}(h:bL (.tuple ds)):∀d∈ds,bL d:=by
 have h1:=K8 h;have h2:=Oq h;have k:∀(ds:List Qi)(d:Qi),d∈ds->(Lf ds=true->d.canLay0=true)/\d.depth<=LY ds:=by
  intro ds
  induction ds with
  | nil=>intro d hd;simp at hd
  | cons e r ih=>
   intro d hd;rcases Kh.mp hd with z | z
   ·subst z;refine⟨λq=>?_,?_⟩
    ·rw [Lf,Ks] at q;exact q.1
    ·rw [LY];exact Nat.le_max_left _ _
   ·obtain⟨a,b⟩:=ih d z;refine⟨λq=>?_,?_⟩
    ·rw [Lf,Ks] at q;exact a q.2
    ·rw [LY];exact KI b (Nat.le_max_right _ _)
 intro d hd;obtain⟨a,b⟩:=k ds d hd;unfold bL Kf;rw [Ks];refine⟨a (by simpa [K0] using h1),decide_eq_true ?_⟩;rw [MD] at h2;omega
theorem kx{n d:Nat}:HT.sIx n d none=d:=rfl
theorem fP{n d:Nat}{i:Int}(h0:0<=i)(h1:i<=n):HT.sIx n d (some i)=i.toNat:=by
 obtain⟨j,rfl⟩:=LC h0;rw [HT.sIx_nat,Ml];omega
theorem kG{xs:List Qi}{i:Int}(h0:0<=i)(h1:i<=xs.length):bI xs none (some i)=xs.take i.toNat:=by
 unfold bI;rw [kx,fP h0 h1];simp
theorem vE{xs:List Qi}{i:Int}(h0:0<=i)(h1:i<=xs.length):bI xs (some i) none=xs.drop i.toNat:=by
 unfold bI;rw [kx,fP h0 h1,Ky (by rw [LF];exact J8 _)]
theorem gR{lo:Int}{n i:Nat}{x:Qi}(h:(eB lo n)[i]?=some x):i < n/\x= .int (lo+i):=by
 unfold eB at h;rw [Kj] at h;by_cases hi:i < n
 ·rw [List.getElem?_range hi] at h;exact⟨hi,(K4 h).symm⟩
 ·rw [Nd (by simpa using hi)] at h;cases h
theorem ij{lo:Int}{n:Nat}:(eB lo n).length=n:=by unfold eB;simp
section
variable {κ:Type} [DecidableEq κ]
def cU(kvs:List (κ×V))(k:κ):Option V:=(kvs.find? λkv=>decide (kv.1=k)).map (·.2)
def putK(kvs:List (κ×V))(k:κ)(v:V):List (κ×V):=
 if (kvs.any λkv=>decide (kv.1=k))=true then kvs.map (λkv=>if kv.1=k then(kv.1,v) else kv) else kvs++[(k,v)]
theorem kH{p:κ×V}{r:List (κ×V)}{k:κ}(e:p.1=k):cU (p::r) k=some p.2:=by simp [cU,LB,e]
theorem jG{p:κ×V}{r:List (κ×V)}{k:κ}(e:¬p.1=k):cU (p::r) k=cU r k:=by simp [cU,LB,e]
theorem vF(k:κ):∀kvs:List (κ×V),(kvs.any λkv=>decide (kv.1=k))=(cU kvs k).isSome
 | []=>rfl
 | p::r=>by
  rw [LN];by_cases e:p.1=k
  ·simp only [kH e,decide_eq_true e,Bool.true_or,OP]
  ·rw [jG e,decide_eq_false e,L1];exact vF k r
theorem pJ(kvs:List (κ×V))(k:κ)(v:V):(putK kvs k v).length<=kvs.length+1:=by
 unfold putK;split
 ·rw [J1];omega
 ·rw [Kk,Kt,LI];omega
theorem fc.isSome_eq{o:Option V}{u:Option Qj}(r:fc o u):o.isSome=u.isSome:=by
 cases o with
 | none=>cases u with
  | none=>rfl
  | some _=>exact(show False from r).elim
 | some _=>cases u with
  | none=>exact(show False from r).elim
  | some _=>rfl
theorem fc.getD{o:Option V}{u:Option Qj}{d:V}{d':Qj}(r:fc o u)(rd:aC d d'):aC (o.getD d) (u.getD d'):=by
 cases o with
 | none=>cases u with
  | none=>exact rd
  | some _=>exact(show False from r).elim
 | some _=>cases u with
  | none=>exact(show False from r).elim
  | some _=>exact r
theorem KV.val{kvs:List (κ×V)}{vs:List (κ×Qj)}(r:KV kvs vs)(k:κ):fc (cU kvs k) (valueAt vs k):=by
 unfold KV at r
 induction r with
 | nil=>exact Lw
 | @cons p q ps qs h t ih=>
  obtain⟨h1,h2⟩:=h;by_cases e:p.1=k
  ·have e':q.1=k:=h1.symm.trans e;have b:valueAt (q::qs) k=some q.2:=by simp [valueAt,LB,e']
   rw [kH e,b];exact h2
  ·have e':¬q.1=k:=λz=>e (h1.trans z);have b:valueAt (q::qs) k=valueAt qs k:=by simp [valueAt,LB,e']
   rw [jG e,b];exact ih
theorem KV.any{kvs:List (κ×V)}{vs:List (κ×Qj)}(r:KV kvs vs)(k:κ):(kvs.any λkv=>decide (kv.1=k))=vs.any λkv=>decide (kv.1=k):=by
 unfold KV at r
 induction r with
 | nil=>rfl
 | cons h t ih=>rw [LN,LN,ih,h.1]
theorem KV.repl{kvs:List (κ×V)}{vs:List (κ×Qj)}(r:KV kvs vs)(k:κ){y:V}{u:Qj}(ry:aC y u):
 KV (kvs.map λkv=>if kv.1=k then(kv.1,y) else kv) (vs.map λkv=>if kv.1=k then(kv.1,u) else kv):=by
 unfold KV at r⊢
 induction r with
 | nil=>exact .nil
 | @cons p q ps qs h t ih=>
  rw [Kb,Kb];refine .cons ?_ ih;obtain⟨h1,h2⟩:=h;by_cases e:p.1=k
  ·rw [Qf e,Qf (h1.symm.trans e)];exact⟨h1,ry⟩
  ·rw [Qe e,Qe (λz=>e (h1.trans z))];exact⟨h1,h2⟩
theorem KV.put{kvs:List (κ×V)}{vs:List (κ×Qj)}(r:KV kvs vs)(k:κ){y:V}{u:Qj}(ry:aC y u):KV (putK kvs k y) (stored vs k u):=by
 unfold putK stored;rw [r.any k];by_cases e:(vs.any λkv=>decide (kv.1=k))=true
 ·rw [Qf e,Qf e];exact r.repl k ry
 ·rw [Qe e,Qe e];exact P1 r ⟨rfl,ry⟩
theorem KV.keys{kvs:List (κ×V)}{vs:List (κ×Qj)}(r:KV kvs vs):kvs.map (·.1)=vs.map (·.1):=by
 unfold KV at r
 induction r with
 | nil=>rfl
 | cons h t ih=>rw [Kb,Kb,ih,h.1]
theorem KV.length{kvs:List (κ×V)}{vs:List (κ×Qj)}(r:KV kvs vs):kvs.length=vs.length:=OD r
end
theorem gS{P:Qu}{w:Qw}{k:ah}{u:Qj}(r:aC (kV k) u):(bS P w).is k u=true:=by
 cases k with
 | inl i=>obtain⟨t,e⟩:=(show ∃t,u=Mu i t from r);subst e;exact Bw P w i t
 | inr x=>obtain⟨t,e⟩:=(show ∃t,u=LZ x t from r);subst e;exact Bx P w x t
theorem vG{P:Qu}{w:Qw}:∀{ks:List ah}{us:List Qj},aD (ks.map kV) us->ItemsAre (bS P w) ks us
 | [],_,r=>by rw [LA] at r;cases r;exact .nil
 | k::ks,_,r=>by
  rw [Kb] at r;cases r with
  | cons h t=>exact .cons (gS h) (vG t)
abbrev KT(H:Hp):List (List ah×V)->List (List ah×Qk×Qj)->Prop:=Paired λp q=>p.1=q.1/\H q.2.1=some (.tup (p.1.map kV))/\aC p.2 q.2.2
theorem KT.val{H:Hp}{kvs:List (List ah×V)}{xs:List (List ah×Qk×Qj)}(r:KT H kvs xs)(k:List ah):fc (cU kvs k) ((atKey xs k).map (·.2)):=by
 induction r with
 | nil=>exact Lw
 | @cons p q ps qs h t ih=>
  obtain⟨h1,_,h2⟩:=h;by_cases e:p.1=k
  ·have e':q.1=k:=h1.symm.trans e;have b:atKey (q::qs) k=some q.2:=by simp [atKey,LB,e']
   rw [kH e,b];exact h2
  ·have e':¬q.1=k:=λz=>e (h1.trans z);have b:atKey (q::qs) k=atKey qs k:=by simp [atKey,LB,e']
   rw [jG e,b];exact ih
theorem KT.repl{H:Hp}{kvs:List (List ah×V)}{xs:List (List ah×Qk×Qj)}(r:KT H kvs xs)(k:List ah){y:V}{u:Qj}(ry:aC y u):
 KT H (kvs.map λkv=>if kv.1=k then(kv.1,y) else kv) (xs.map (putAt k u)):=by
 induction r with
 | nil=>exact .nil
 | @cons p q ps qs h t ih=>
  rw [Kb,Kb];refine .cons ?_ ih;obtain⟨h1,h2,h3⟩:=h;unfold putAt;by_cases e:p.1=k
  ·rw [Qf e,Qf (h1.symm.trans e)];exact⟨h1,h2,ry⟩
  ·rw [Qe e,Qe (λz=>e (h1.trans z))];exact⟨h1,h2,h3⟩
theorem KT.put{H:Hp}{kvs:List (List ah×V)}{xs:List (List ah×Qk×Qj)}(r:KT H kvs xs)(k:List ah){b:Qk}{y:V}{u:Qj}(hb:H b=some (.tup (k.map kV)))(ry:aC y u):
 KT H (putK kvs k y) (storedH xs k b u):=by
 have e:(kvs.any λkv=>decide (kv.1=k))=(atKey xs k).isSome:=by
  rw [vF,(r.val k).isSome_eq,NM]
 unfold putK storedH;rw [e];by_cases q:(atKey xs k).isSome=true
 ·rw [Qf q,Qf q];exact r.repl k ry
 ·rw [Qe q,Qe q];exact P1 r ⟨rfl,hb,ry⟩
theorem KT.keeps{H H':Hp}{kvs:List (List ah×V)}{xs:List (List ah×Qk×Qj)}(r:KT H kvs xs)(ht:∀b ys,H b=some (.tup ys)->H' b=some (.tup ys)):KT H' kvs xs:=
 Paired.mapP r λ_ _ z=>⟨z.1,ht _ _ z.2.1,z.2.2⟩
section
variable {P:Qu} {w:Qw} {H:Hp} {h:Qy} {a:Qk}
theorem vH{u:HO}(ok:bK P w H h)(e:Rd H a u):bN P w H h a u:=e.ok ok
theorem gT{kvs:List (ah×V)}(ok:bK P w H h)(e:Rd H a (.dK kvs)):kvs.length<=Qp/\(a==QQ)=false/\∃vs,KV kvs vs/\h.DictOf (bS P w) a vs:=
 show bN P w H h a (.dK kvs) from vH ok e
theorem vI{kvs:List (ah×V)}(ok:bK P w H h)(e:H a=some (.dK kvs)):kvs.length<=Qp/\(a==QQ)=false/\∃vs,KV kvs vs/\h.DictOf (bS P w) a vs:=gT ok (.inl e)
theorem iX{ks:List ah}(ok:bK P w H h)(e:H a=some (.tup (ks.map kV))):(Rk (bS P w)).is h ks a:=by
 obtain⟨_,its,r,o,h1,h2,n,h3⟩:=(show bN P w H h a (.tup (ks.map kV)) from ok a _ e);exact⟨o,its.toArray,n,h1,h2,h3,by simpa using vG r⟩
theorem ik{kvs:List (List ah×V)}(ok:bK P w H h)(e:Rd H a (.dT kvs)):kvs.length<=Qp/\(a==QQ)=false/\
 ∃xs,KT H kvs xs/\h.DictOfH (Rk (bS P w)) a xs:=by
 obtain⟨z,y,xs,r,o,es,ep,h1,h2,h3,h4,h5⟩:=(show bN P w H h a (.dT kvs) from vH ok e);refine⟨z,y,xs,r,o,es,ep,h1,h2,h3,h4,λx hx=>?_,h5⟩;have all:∀{l:List (List ah×V)}{m:List (List ah×Qk×Qj)},KT H l m->∀x∈m,(Rk (bS P w)).is h x.1 x.2.1:=by
  intro l m q
  induction q with
  | nil=>intro x hx;exact nomatch hx
  | @cons p q ps qs hq t ih=>
   intro x hx;rcases Kh.mp hx with e | hx
   ·subst e;exact iX ok (by rw [<-hq.1];exact hq.2.1)
   ·exact ih x hx
 exact all r x hx
theorem Eb{kvs:List (List ah×V)}(ok:bK P w H h)(e:H a=some (.dT kvs)):kvs.length<=Qp/\(a==QQ)=false/\
 ∃xs,KT H kvs xs/\h.DictOfH (Rk (bS P w)) a xs:=ik ok (.inl e)
end
def cy(H:Hp)(a:Qk)(y:V)(r:Option V):Prop:=
 (∃kvs k,Rd H a (.dK kvs)/\y=kV k/\r=cU kvs k)\/∃kvs k b,Rd H a (.dT kvs)/\y= .ref b/\H b=some (.tup (k.map kV))/\r=cU kvs k
def kI(H:Hp)(a:Qk)(y v:V)(H':Hp):Prop:=
 (∃kvs k,H a=some (.dK kvs)/\y=kV k/\kvs.length < Qp/\H'=aq H a (.dK (putK kvs k v)))\/
 ∃kvs k b,H a=some (.dT kvs)/\y= .ref b/\H b=some (.tup (k.map kV))/\kvs.length < Qp/\H'=aq H a (.dT (putK kvs k v))
theorem cy.k{H:Hp}{a:Qk}{kvs:List (ah×V)}{k:ah}(e:H a=some (.dK kvs)):cy H a (kV k) (cU kvs k):= .inl ⟨kvs,k,.inl e,rfl,rfl⟩
theorem kI.k{H:Hp}{a:Qk}{kvs:List (ah×V)}{k:ah}{v:V}(e:H a=some (.dK kvs))(hl:kvs.length < Qp):kI H a (kV k) v (aq H a (.dK (putK kvs k v))):= .inl ⟨kvs,k,e,rfl,hl,rfl⟩
section
variable {X:Cx} {RB:List (Qk×Obj)} {σ:St} {H:Hp} {s:Ql} {a:Qk} {y v:V} {u r:Qj} {o:Option V} {A:QC} {E:Qj->Ql->Prop}
theorem af.big(I:af X RB σ H s):QQ < s.heap.objs.size:=by
 have h:Qv < s.heap.objs.size:=(I.mod.glob.keeps I.bk).lt;exact N0 Qb h
theorem Ec{Q:Qj->Ql->Prop}(hu:A.units+1 < QD)(I:af X RB σ H s)(g:cy H a y (some v))(ry:aC y u)(h:∀w' s',af X RB σ H s'->aC v w'->Q w' s'):
 Qr (Qs X.prog X.w) A (QX (.ref a) u) Q E s:=by
 rcases g with⟨kvs,k,e,ey,l⟩ | ⟨kvs,k,b,e,ey,eb,l⟩
 ·subst ey;obtain⟨z,hd,vs,rel,dd⟩:=gT I.hok e;obtain⟨w',hw,rw'⟩:=fc.some_of (v:=v) (o:=valueAt vs k) (by rw [l];exact rel.val k);exact wpAny_getItem_of (gS ry) dd.mapOf hw (h w' _ (I.tok _) rw')
 ·subst ey;cases (show u=KL b from ry);obtain⟨z,hd,xs,rel,dd⟩:=ik I.hok e;obtain⟨w',hw,rw'⟩:=fc.some_of (v:=v) (o:=(atKey xs k).map (·.2)) (by rw [l];exact rel.val k);obtain⟨p,hp,hp2⟩:=Option.map_eq_some_iff.mp hw;refine wpAny_getItem_heap (QT hu) (iX I.hok eb) dd hp ?_;rw [hp2];exact h w' _ (I.tok _) rw'
theorem Ed{Q:Qj->Ql->Prop}(hu:A.units+1 < QD)(I:af X RB σ H s)(g:cy H a y o)(ry:aC y u)(h:∀s',af X RB σ H s'->Q (.bool o.isSome) s'):
 Qr (Qs X.prog X.w) A (Qz .In u (.ref a)) Q E s:=by
 rcases g with⟨kvs,k,e,ey,l⟩ | ⟨kvs,k,b,e,ey,eb,l⟩
 ·subst ey;obtain⟨z,hd,vs,rel,dd⟩:=gT I.hok e;refine wpAny_in_of (gS ry) hd dd.mapOf ?_;rw [<-(rel.val k).isSome_eq,<-l];exact h _ (I.tok _)
 ·subst ey;cases (show u=KL b from ry);obtain⟨z,hd,xs,rel,dd⟩:=ik I.hok e;refine wpAny_in_heap (QT hu) (iX I.hok eb) hd dd ?_;have q:=(rel.val k).isSome_eq;rw [NM] at q;rw [<-q,<-l];exact h _ (I.tok _)
theorem Ee{Q:Qj->Ql->Prop}(hu:A.units+1 < QD)(I:af X RB σ H s)(g:cy H a y o)(ry:aC y u)(h:∀s',af X RB σ H s'->Q (.bool (!o.isSome)) s'):
 Qr (Qs X.prog X.w) A (Qz .NotIn u (.ref a)) Q E s:=by
 rcases g with⟨kvs,k,e,ey,l⟩ | ⟨kvs,k,b,e,ey,eb,l⟩
 ·subst ey;obtain⟨z,hd,vs,rel,dd⟩:=gT I.hok e;refine wpAny_notIn_of (gS ry) hd dd.mapOf ?_;rw [<-(rel.val k).isSome_eq,<-l];exact h _ (I.tok _)
 ·subst ey;cases (show u=KL b from ry);obtain⟨z,hd,xs,rel,dd⟩:=ik I.hok e;refine wpAny_notIn_heap (QT hu) (iX I.hok eb) hd dd ?_;have q:=(rel.val k).isSome_eq;rw [NM] at q;rw [<-q,<-l];exact h _ (I.tok _)
theorem pK{h':Qy}{t':Nat}{ob:HO}(I:af X RB σ H s)(mu:ji (H a))(hs:Nj a s.heap h')(he:∃q,h'.get? a=some q)(new:bN X.prog X.w (aq H a ob) h' a ob):
 af X RB σ (aq H a ob) {s with heap:=h',toks:=t'}:=
 I.write (x:=a) (e:=a) mu (.inl rfl) (λb q hb z=>(hs.2 b hb).trans z) he new
theorem pL{P:Qu}{w:Qw}{H':Hp}{h':Qy}{kvs:List (ah×V)}{vs:List (ah×Qj)}(z:kvs.length<=Qp)(hd:(a==QQ)=false)(rel:KV kvs vs)(dd:h'.DictOf (bS P w) a vs):
 bN P w H' h' a (.dK kvs):=⟨z,hd,vs,rel,dd⟩
theorem Ef{H':Hp}{Q:Unit->Ql->Prop}(hu:A.units+1 < QD)(I:af X RB σ H s)(g:kI H a y v H')(ry:aC y u)(rv:aC v r)(h:∀s',af X RB σ H' s'->Q () s'):
 Qr (Qs X.prog X.w) A (setItem (.ref a) u r) Q E s:=by
 rcases g with⟨kvs,k,e,ey,l,eH⟩ | ⟨kvs,k,b,e,ey,eb,l,eH⟩
 ·subst ey eH;obtain⟨z,hd,vs,rel,dd⟩:=vI I.hok e;have hz:vs.length<=Qp:=by rw [<-rel.length];exact z
  have hl:(putK kvs k v).length<=Qp:=by have:=pJ kvs k v;omega
  refine wpAny_setItem_pairs (hsz:=hz) (gS ry) dd λh' dd' hs=>h _ ?_;have he:∃q,h'.get? a=some q:=let ⟨q,_,_,hq,_⟩:=dd';⟨q,hq⟩
  exact pK I (by rw [e];exact Lw) hs he (pL hl hd (rel.put k rv) dd')
 ·subst ey eH;cases (show u=KL b from ry);obtain⟨z,hd,xs,rel,dd⟩:=Eb I.hok e;have hz:xs.length<=Qp:=by rw [<-OD rel];exact z
  have hl:(putK kvs k v).length<=Qp:=by have:=pJ kvs k v;omega
  refine wpAny_setItem_heap (hsz:=hz) (QT hu) (iX I.hok eb) dd λh' dd' hs=>h _ ?_;obtain⟨q,es,ep,hq,h2,h3,h4,_,h5⟩:=dd';refine pK I (by rw [e];exact Lw) hs ⟨q,hq⟩ ⟨hl,hd,_,(rel.put k eb rv).keeps λc ys ec=>?_,q,es,ep,hq,h2,h3,h4,h5⟩;rw [aH (By ec e (λz=>nomatch z))];exact ec
end
def mM(i:Qn):Prop:=∀ov iv,Rc i false ov iv=operate [ov,iv] (QX ov iv)
theorem Eg{prog:Qu}{w:Qw}{A:QC}{E:Qj->Ql->Prop}{s:Ql}{env:Env}{value slice:Qn}{pos:Pos}{T id:String}{Q:Qj->Ql->Prop}
 (hl:typeLookup (.type T) "__getitem__"=pure (some (.builtin id)))(hs:mM slice)
 (h:Qr (Qs prog w) A (eval value env) (λo s₁=>Qr (Qs prog w) A (eval slice env) (λi s₂=>s₂.TypeIs o T/\Qr (Qs prog w) A (QX o i) Q E s₂) E s₁) E s):
 Qr (Qs prog w) A (eval (.Subscript value slice pos) env) Q E s:=by
 refine Subscript_ (QI h (λo s₁ h₁=>QI h₁ (λi s₂ h₂=>?_) λ_ _ x=>x) λ_ _ x=>x);obtain⟨hT,h₂⟩:=h₂;unfold Rt;refine Qm ?_;rw [getitemInPython_of_ne hT.not_modules];refine Qm (wpAny_specialOf hT hl ?_);have fin:Qr (Qs prog w) A (Rc slice false o i) (λr s₃=>Qr (Qs prog w) A (letTemporaryGo value o r >>=λ_=>pure r) Q E s₃) E s₂:=by
  rw [hs o i];exact wpAny_operating (QI h₂ (λr s₃ h₃=>Qm (wpAny_letTemporaryGo (Qq h₃))) λ_ _ x=>x)
 first
  | exact Qq (Qm fin)
  | exact Qm (Qq (Qm fin))
  | exact Qm fin
theorem Eh{X:Cx}{RB:List (Qk×Obj)}{σ:St}{H:Hp}{s:Ql}{a:Qk}{y:V}{o:Option V}(I:af X RB σ H s)(g:cy H a y o):s.TypeIs (.ref a) "dict":=by
 rcases g with⟨kvs,k,e,_,_⟩ | ⟨kvs,k,b,e,_,_,_⟩
 ·obtain⟨_,_,vs,_,dd⟩:=gT I.hok e;exact dd.typeIs
 ·obtain⟨_,_,xs,_,dd⟩:=ik I.hok e;exact dd.typeIs
def Ei(td ty:TE):TE:=λσ H Q=>td σ H λx H1=>ty σ H1 λy H2=>∃a v,x= .ref a/\cy H2 a y (some v)/\Q v H2
def Ej(ty td:TE):TE:=λσ H Q=>ty σ H λy H1=>td σ H1 λx H2=>∃a o,x= .ref a/\cy H2 a y o/\Q (.bl o.isSome) H2
def Ek(ty td:TE):TE:=λσ H Q=>ty σ H λy H1=>td σ H1 λx H2=>∃a o,x= .ref a/\cy H2 a y o/\Q (.bl (!o.isSome)) H2
def El(td ty tv:TE):TS:=λD σ H=>tv σ H λv H1=>td σ H1 λx H2=>ty σ H2 λy H3=>∃a H4,x= .ref a/\kI H3 a y v H4/\D.nx σ H4
section
variable {X:Cx} {o i e value:Qn} {pos pos' tpos:Pos} {td ty tv:TE}
theorem vJ(hu:X.A.units+1 < QD)(ho:PE X o td)(hi:PE X i ty)(hs:mM i):PE X (.Subscript o i pos) (Ei td ty):=by
 intro RB s σ H Q I h;refine Eg PySem.F.slot_dict_getitem.lookup hs (aA (ho RB s σ H _ I h) λu s1 ⟨x,H1,I1,rx,q1⟩=>aA (hi RB s1 σ H1 _ I1 q1) λiv s2 ⟨y,H2,I2,ry,a,v,ex,g,q2⟩=>?_);subst ex;obtain rfl:u=KL a:=rx;exact⟨Eh I2 g,Ec hu I2 g ry λw' s3 I3 rw'=>⟨v,H2,I3,rw',q2⟩⟩
theorem vK(hu:X.A.units+1 < QD)(hi:PE X i ty)(ho:PE X o td):PC X .In i o (Ej ty td):=by
 intro RB s σ H Q I h;refine aA (hi RB s σ H _ I h) λiv s1 ⟨y,H1,I1,ry,q1⟩=>aA (ho RB s1 σ H1 _ I1 q1) λu s2 ⟨x,H2,I2,rx,a,ov,ex,g,q2⟩=>?_;subst ex;obtain rfl:u=KL a:=rx;exact Ed hu I2 g ry λs3 I3=>⟨.bl ov.isSome,H2,I3,rfl,q2⟩
theorem Em(hu:X.A.units+1 < QD)(hi:PE X i ty)(ho:PE X o td):PC X .NotIn i o (Ek ty td):=by
 intro RB s σ H Q I h;refine aA (hi RB s σ H _ I h) λiv s1 ⟨y,H1,I1,ry,q1⟩=>aA (ho RB s1 σ H1 _ I1 q1) λu s2 ⟨x,H2,I2,rx,a,ov,ex,g,q2⟩=>?_;subst ex;obtain rfl:u=KL a:=rx;exact Ee hu I2 g ry λs3 I3=>⟨.bl (!ov.isSome),H2,I3,rfl,q2⟩
theorem En(hu:X.A.units+1 < QD)(ho:PE X o td)(hi:PE X i ty)(hv:PE X value tv)(hs:QK value (some (.Subscript o i pos')) pos.line X.env=pure false):
 PS X (.Assign [.Subscript o i pos'] value pos) (El td ty tv):=by
 intro RB s σ H D I h;refine wpAny_Assign_Subscript (aA (hv RB s σ H _ I h) λr s1 ⟨v,H1,I1,rv,q1⟩=>aA (ho RB s1 σ H1 _ I1 q1) λu s2 ⟨x,H2,I2,rx,q2⟩=>aA (hi RB s2 σ H2 _ I2 q2) λiv s3 ⟨y,H3,I3,ry,a,H4,ex,g,q3⟩=>?_) hs;subst ex;obtain rfl:u=KL a:=rx;exact Ef hu I3 g ry rv λs4 I4=>⟨σ,H4,I4,q3⟩
end
theorem vL{P:Qu}{w:Qw}{H:Hp}(h:Qy)(hb:QQ < h.objs.size):bN P w H (h.push {cls:= .type "dict",data:= .dict #[]}) h.objs.size (.dK []):=
 ⟨Lq _,beq_eq_false_iff_ne.mpr (Ne.symm (KH hb)),[],.nil,Po h⟩
def Eo:TE:=λ_ H Q=>∀p,H p=none->Q (.ref p) (aq H p (.dK []))
section
variable {X:Cx} {pos:Pos}
theorem vM:PE X (.Dict [] [] pos) Eo:=λRB s σ H Q I h=>
 wpAny_Dict_empty ⟨.ref s.heap.objs.size,_,I.laid (a:=s.heap.objs.size) (o:= .dK []) (t':=s.toks) (λ_ _ q=>J9 _ q) (J8 _) (vL s.heap I.big),rfl,h _ (I.hok.fresh (J8 _))⟩
end
def mN:List (TE×TE)->St->Hp->(List (V×V)->Hp->Prop)->Prop
 | [],_,H,Q=>Q [] H
 | (tk,tv)::r,σ,H,Q=>tk σ H λx H1=>tv σ H1 λy H2=>mN r σ H2 λps H3=>Q ((x,y)::ps) H3
abbrev VV:List (V×V)->List (Qj×Qj)->Prop:=Paired λp q=>aC p.1 q.1/\aC p.2 q.2
def kJ(X:Cx)(pos:Pos)(keys:List (Option Qn))(values:List Qn)(trs:List (TE×TE)):Prop:=
 ∀(RB:List (Qk×Obj))(s:Ql)(σ:St)(H:Hp)(Q:List (V×V)->Hp->Prop),af X RB σ H s->mN trs σ H Q->
  Qr (Qs X.prog X.w) X.A (evalPairs (pairTrees keys values X.env pos)) (λvs s'=>∃ps H',af X RB σ H' s'/\VV ps vs/\Q ps H') X.xe s
theorem Ep{X:Cx}{pos:Pos}:kJ X pos [] [] []:=λRB s σ H Q I h=>pairTrees_nil_walk ⟨[],H,I,.nil,h⟩
theorem Er{X:Cx}{pos:Pos}{k v:Qn}{ks:List (Option Qn)}{vs:List Qn}{tk tv:TE}{trs:List (TE×TE)}(hk:PE X k tk)(hv:PE X v tv)(hr:kJ X pos ks vs trs):
 kJ X pos (some k::ks) (v::vs) ((tk,tv)::trs):=λRB s σ H Q I h=>
 pairTrees_cons_walk (aA (hk RB s σ H _ I h) λu s1 ⟨x,H1,I1,rx,q1⟩=>aA (hv RB s1 σ H1 _ I1 q1) λw2 s2 ⟨y,H2,I2,ry,q2⟩=>
  aA (hr RB s2 σ H2 _ I2 q2) λws s3 uu81=>by obtain⟨ps,H3,I3,rel,q3⟩:=uu81;exact⟨(x,y)::ps,H3,I3,.cons ⟨rx,ry⟩ rel,q3⟩)
def fQ(kvs more:List (ah×V)):List (ah×V):=more.foldl (λacc kv=>putK acc kv.1 kv.2) kvs
theorem KV.merge:∀{more:List (ah×V)}{rs:List (ah×Qj)}{kvs:List (ah×V)}{vs:List (ah×Qj)},KV more rs->KV kvs vs->KV (fQ kvs more) (merged vs rs):=by
 intro more rs kvs vs r;unfold KV at r
 induction r generalizing kvs vs with
 | nil=>intro q;exact q
 | @cons p q ps qs h t ih=>
  intro r0;have e:KV (putK kvs p.1 p.2) (stored vs q.1 q.2):=by
   have:=r0.put p.1 h.2;rw [<-h.1];exact this
  exact ih e
theorem pM:∀(more kvs:List (ah×V)),(fQ kvs more).length<=kvs.length+more.length
 | [],kvs=>by show kvs.length<=kvs.length+0;omega
 | p::r,kvs=>by
  have h1:=pM r (putK kvs p.1 p.2);have h2:=pJ kvs p.1 p.2;show(fQ (putK kvs p.1 p.2) r).length<=_;rw [Kt];omega
theorem vN{P:Qu}{w:Qw}:∀{kvs:List (ah×V)}{ws:List (Qj×Qj)},VV (kvs.map λkv=>(kV kv.1,kv.2)) ws->∃rs,Carries (bS P w) ws rs/\KV kvs rs
 | [],_,r=>by rw [LA] at r;cases r;exact⟨[],Lw,.nil⟩
 | p::kvs,_,r=>by
  rw [Kb] at r;cases r with
  | @cons a b as bs h t=>
   obtain⟨rs,c,q⟩:=vN (P:=P) (w:=w) t;obtain⟨b1,b2⟩:=b;exact⟨(p.1,b2)::rs,⟨gS h.1,rfl,c⟩,.cons ⟨rfl,h.2⟩ q⟩
def Es(trs:List (TE×TE)):TE:=λσ H Q=>∀p,H p=none->mN trs σ (aq H p (.dK [])) λps H2=>H2 p=some (.dK [])/\∃kvs:List (ah×V),ps=kvs.map (λkv=>(kV kv.1,kv.2))/\kvs.length<=15/\Q (.ref p) (aq H2 p (.dK (fQ [] kvs)))
theorem Et{X:Cx}{pos:Pos}{keys:List (Option Qn)}{values:List Qn}{trs:List (TE×TE)}(h:kJ X pos keys values trs)(hall:keys.all (·.isSome)=true)(hl:keys.length=values.length)(h0:keys≠[])
 (h15:keys.length<=15):PE X (.Dict keys values pos) (Es trs):=by
 intro RB s σ H Q I q;have hn:=I.hok.fresh (J8 s.heap.objs.size);have I1:=I.laid (a:=s.heap.objs.size) (o:= .dK []) (h':=s.heap.push {cls:= .type "dict",data:= .dict #[]}) (t':=s.toks) (λ_ _ q=>J9 _ q) (J8 _) (vL s.heap I.big);refine wpAny_Dict_walk (knd:=bS X.prog X.w) hall hl h0 h15 (aA (h RB _ σ _ _ I1 (q _ hn)) λws s2 ⟨ps,H2,I2,rel,e,kvs,ep,lk,q2⟩=>?_);subst ep;obtain⟨rs,c,rk⟩:=vN (P:=X.prog) (w:=X.w) rel;obtain⟨z,hd,vs0,r0,dd⟩:=vI I2.hok e;cases r0;refine⟨rs,c,dd,λh' dd' hs=>⟨.ref s.heap.objs.size,_,?_,rfl,q2⟩⟩;have hz:(fQ [] kvs).length<=Qp:=by
  have h1:=pM kvs [];rw [LI] at h1;rw [QS];omega
 have he:∃q,h'.get? s.heap.objs.size=some q:=let ⟨q,_,_,hq,_⟩:=dd';⟨q,hq⟩
 exact pK I2 (by rw [e];exact Lw) hs he (pL hz hd (rk.merge .nil) dd')
structure M1 (X:Cx) (o:Qn) (m:Str) (apos:Pos) (e:Qn) (cpos:Pos):Prop where
 base:QV o m X.env (eval o X.env)=eval o X.env
 few:((QJ cpos (Qo [e] X.env)).all (λx=>!x.1) && (backToKw cpos (Rf [] X.env)).all (λx=>x.1.isSome)
  && decide (([e]:List Qn).length+([]:List QY).length+(if ([]:List QY).isEmpty then 0 else 1) < 30))=true
 line:(apos.endLine==cpos.line)=true
 trees:QJ cpos (Qo [e] X.env)=[(false,eval e X.env)]
structure M2 (X:Cx) (o:Qn) (m:Str) (apos:Pos) (e f:Qn) (cpos:Pos):Prop where
 base:QV o m X.env (eval o X.env)=eval o X.env
 few:((QJ cpos (Qo [e,f] X.env)).all (λx=>!x.1) && (backToKw cpos (Rf [] X.env)).all (λx=>x.1.isSome)
  && decide (([e,f]:List Qn).length+([]:List QY).length+(if ([]:List QY).isEmpty then 0 else 1) < 30))=true
 line:(apos.endLine==cpos.line)=true
 trees:QJ cpos (Qo [e,f] X.env)=[(false,eval e X.env),(false,eval f X.env)]
def pN(H:Hp)(a:Qk):Prop:=(∃kvs,Rd H a (.dK kvs))\/∃kvs,Rd H a (.dT kvs)
theorem vO{X:Cx}{RB:List (Qk×Obj)}{σ:St}{H:Hp}{s:Ql}{a:Qk}(I:af X RB σ H s)(d:pN H a):
 s.TypeIs (.ref a) "dict"/\(∀b,KL a= .ref b->∃ob,s.heap.get? b=some ob/\ob.dict=none)/\(a==QQ)=false:=by
 rcases d with⟨kvs,e⟩ | ⟨kvs,e⟩
 ·obtain⟨_,hd,vs,_,dd⟩:=gT I.hok e;refine⟨dd.typeIs,λb q=>?_,hd⟩;cases q;obtain⟨ob,_,_,h1,h2,_⟩:=dd;exact⟨ob,h1,h2.2.1⟩
 ·obtain⟨_,hd,xs,_,dd⟩:=ik I.hok e;refine⟨dd.typeIs,λb q=>?_,hd⟩;cases q;obtain⟨ob,_,_,h1,h2,_⟩:=dd;exact⟨ob,h1,h2.2.1⟩
section
variable {X:Cx} {RB:List (Qk×Obj)} {σ:St} {H:Hp} {s:Ql} {a:Qk} {y d:V} {u r:Qj} {o:Option V} {A:QC} {E:Qj->Ql->Prop}
theorem Eu{Q:Qj->Ql->Prop}(hu:A.units+1 < QD)(I:af X RB σ H s)(g:cy H a y o)(ry:aC y u)(h:∀w' s',af X RB σ H s'->aC (o.getD .non) w'->Q w' s'):
 Qr (Qs X.prog X.w) A (call (.builtin "dict.get") [.ref a,u]) Q E s:=by
 rcases g with⟨kvs,k,e,ey,l⟩ | ⟨kvs,k,b,e,ey,eb,l⟩
 ·subst ey;obtain⟨z,hd,vs,rel,dd⟩:=gT I.hok e;refine call_meetsIn LP dd.typeIs MA (N4 _ _) (meets_dict_get (bS X.prog X.w) a (gS ry) hd) ⟨_,dd.mapOf,h _ _ (I.tok _) ?_⟩;rw [l];exact(rel.val k).getD rfl
 ·subst ey;cases (show u=KL b from ry);obtain⟨z,hd,xs,rel,dd⟩:=ik I.hok e;refine call_meetsIn LP dd.typeIs MA (N4 _ _) (meetsH_dict_get (Rk (bS X.prog X.w)) a b hd) ⟨QT hu,k,xs,iX I.hok eb,dd,h _ _ (I.tok _) ?_⟩;rw [l];exact(rel.val k).getD rfl
theorem Ew{Q:Qj->Ql->Prop}(hu:A.units+1 < QD)(I:af X RB σ H s)(g:cy H a y o)(ry:aC y u)(rd:aC d r)(h:∀w' s',af X RB σ H s'->aC (o.getD d) w'->Q w' s'):
 Qr (Qs X.prog X.w) A (call (.builtin "dict.get") [.ref a,u,r]) Q E s:=by
 rcases g with⟨kvs,k,e,ey,l⟩ | ⟨kvs,k,b,e,ey,eb,l⟩
 ·subst ey;obtain⟨z,hd,vs,rel,dd⟩:=gT I.hok e;refine call_meetsIn LP dd.typeIs MA (N5 _ _ _) (meets_dict_get_default (bS X.prog X.w) a (gS ry) hd r) ⟨_,dd.mapOf,h _ _ (I.tok _) ?_⟩;rw [l];exact(rel.val k).getD rd
 ·subst ey;cases (show u=KL b from ry);obtain⟨z,hd,xs,rel,dd⟩:=ik I.hok e;refine call_meetsIn LP dd.typeIs MA (N5 _ _ _) (meetsH_dict_get_default (Rk (bS X.prog X.w)) a b hd r) ⟨QT hu,k,xs,iX I.hok eb,dd,h _ _ (I.tok _) ?_⟩;rw [l];exact(rel.val k).getD rd
end
def Ey(td ty:TE):TE:=λσ H Q=>td σ H λx H1=>∃a,x= .ref a/\pN H1 a/\ty σ H1 λy H2=>∃o,cy H2 a y o/\Q (o.getD .non) H2
def Ez(td ty tx:TE):TE:=λσ H Q=>td σ H λx H1=>∃a,x= .ref a/\pN H1 a/\ty σ H1 λy H2=>tx σ H2 λz H3=>∃o,cy H3 a y o/\Q (o.getD z) H3
section
variable {X:Cx} {o e f:Qn} {apos cpos:Pos} {td ty tx:TE}
theorem vP(hu:X.A.units+1 < QD)(ho:PE X o td)(he:PE X e ty)(m:M1 X o "get" apos e cpos):PE X (.Call (.Attribute o "get" apos) [e] [] cpos) (Ey td ty):=by
 intro RB s σ H Q I h;refine wpAny_Call_method m.base m.few m.line N6 LP Ot (aA (ho RB s σ H _ I h) λu s1 ⟨x,H1,I1,rx,a,ex,d,q1⟩=>?_);subst ex;obtain rfl:u=KL a:=rx;obtain⟨t1,t2,_⟩:=vO I1 d;refine⟨t1,t2,?_⟩;rw [m.trees];refine Mz rfl (Nk (MO (aA (he RB s1 σ H1 _ I1 q1) λiv s2 ⟨y,H2,I2,ry,ov,g,q2⟩=>NI ?_)));exact Eu hu I2 g ry λw' s3 I3 rw'=>⟨_,H2,I3,rw',q2⟩
theorem EA(hu:X.A.units+1 < QD)(ho:PE X o td)(he:PE X e ty)(hf:PE X f tx)(m:M2 X o "get" apos e f cpos):PE X (.Call (.Attribute o "get" apos) [e,f] [] cpos) (Ez td ty tx):=by
 intro RB s σ H Q I h;refine wpAny_Call_method m.base m.few m.line N6 LP Ot (aA (ho RB s σ H _ I h) λu s1 ⟨x,H1,I1,rx,a,ex,d,q1⟩=>?_);subst ex;obtain rfl:u=KL a:=rx;obtain⟨t1,t2,_⟩:=vO I1 d;refine⟨t1,t2,?_⟩;rw [m.trees];refine Mz rfl (Nk (MO (aA (he RB s1 σ H1 _ I1 q1) λiv s2 ⟨y,H2,I2,ry,q2⟩=>
  MO (aA (hf RB s2 σ H2 _ I2 q2) λfv s3 ⟨z,H3,I3,rz,ov,g,q3⟩=>NI ?_))))
 exact Ew hu I3 g ry rz λw' s4 I4 rw'=>⟨_,H3,I4,rw',q3⟩
end
section
variable {X:Cx} {H0:Hp} {O0:Ex}
def litsOf:List Qn->Option (List Qi)
 | []=>some []
 | .Constant (.int i) _ _::r=>(litsOf r).map (.int i::·)
 | .Constant (.str x) _ _::r=>(litsOf r).map (.str x::·)
 | _::_=>none
def pO(ds:List Qi):DA:=λ_ Q=>Q ds
theorem iY:∀{es:List Qn}{ds:List Qi},litsOf es=some ds->PA X es (fh X.K H0 O0 (pO ds))
 | [],ds,h=>by cases h;exact ag
 | e::r,ds,h=>by
  cases e with
  | Constant c j p=>
   cases c with
   | int i=>
    have h':(litsOf r).map (.int i::·)=some ds:=h;cases q:litsOf r with
    | none=>rw [q] at h';cases h'
    | some ms=>rw [q] at h';cases h';exact aa ae (iY q)
   | str x=>
    have h':(litsOf r).map (.str x::·)=some ds:=h;cases q:litsOf r with
    | none=>rw [q] at h';cases h'
    | some ms=>rw [q] at h';cases h';exact aa aL (iY q)
   | _=>cases h
  | _=>cases h
def litsE:Qn->Option (List Qi)
 | .List es _=>litsOf es
 | _=>none
theorem pP{e:Qn}{ds:List Qi}(h:litsE e=some ds):FE X H0 O0 e (pA (pO ds)):=by
 cases e with
 | List es p=>exact cK (iY h)
 | _=>cases h
theorem EB{e:Qn}{ds:List Qi}{x:Option Qn}{n:Nat}{env:Env}(h:litsE e=some ds):QK e x n env=pure false:=by
 cases e with
 | List es p=>rfl
 | _=>cases h
end
structure cz (n:Nat) (x:Str):Prop where
 ok:KJ x=true
 le:x.length<=n
theorem il{x:Str}:KJ x=true↔∀c∈x.cps.toList,c < 0x110000:=by
 unfold KJ;rw [<-Array.all_toList,Lj];simp
theorem kK(x y:Str):(x++y).cps=x.cps++y.cps:=rfl
theorem vQ(x y:Str):(x++y).length=x.length+y.length:=by
 show(x.cps++y.cps).size=_;rw [Array.size_append];rfl
theorem cz.append{a b:Nat}{x y:Str}(h:cz a x)(h':cz b y):cz (a+b) (x++y):=by
 refine⟨il.mpr λc hc=>?_,by rw [vQ];have:=h.le;have:=h'.le;omega⟩;rw [kK,Mq] at hc;rcases Kn.mp hc with z | z
 ·exact il.mp h.ok c z
 ·exact il.mp h'.ok c z
theorem cz.mono{a b:Nat}{x:Str}(h:cz a x)(hb:a<=b):cz b x:=⟨h.ok,KI h.le hb⟩
theorem cz.slice{a:Nat}{x:Str}(h:cz a x)(l u:Option Int):cz a (Txt.slice x l u):=by
 refine⟨il.mpr λc hc=>?_,KI (Txt.slice_le x l u) h.le⟩;unfold Txt.slice at hc;split at hc
 ·exact il.mp h.ok c hc
 ·simp only [Mw] at hc;obtain⟨i,_,hi⟩:=hc;exact il.mp h.ok c (by
   have:=Array.mem_of_getElem? hi;simpa using this)
theorem cz.chr{c:Nat}(h:c < 0x110000):cz 1 ⟨#[c]⟩:=⟨il.mpr λd hd=>by
 have:d=c:=by simpa using hd
 rw [this];exact h,J8 _⟩
theorem cz.join:∀{ys:List Str},(∀y∈ys,cz 1 y)->cz ys.length (Txt.join "" ys):=by
 have key:∀ys:List Str,(∀y∈ys,cz 1 y)->cz ys.length (Pb "" ys):=by
  intro ys
  induction ys with
  | nil=>intro _;exact⟨Qa,Qa⟩
  | cons y r ih=>
   intro h;cases r with
   | nil=>exact h y Qh
   | cons z r=>
    have a:=h y Qh;have b:=ih λw hw=>h w (by simp [hw]);have e:cz 0 ("":Str):=⟨Qa,Qa⟩;have:=(a.append e).append b;refine this.mono ?_;simp only [Kt];omega
 intro ys h;have e:Txt.join "" ys=Pb "" ys:=Ou "" ys;rw [e];exact key ys h
def cV:Str:="abcdefghijklmnopqrstuvwxyz"
theorem EC:cV.cps.toList.length=26:=Qa
theorem ED:cV.cps.toList.Nodup:=Qa
theorem vR:∀c∈cV.cps.toList,c < 0x110000:=Qa
theorem kL{j:Int}(h0:0<=j)(h1:j < 26):∃c,atI cV.cps.toList j=some c/\cV.cps.toList[j.toNat]?=some c/\c < 0x110000:=by
 obtain⟨k,rfl⟩:=LC h0;have hk:k < cV.cps.toList.length:=by rw [EC];omega
 refine⟨cV.cps.toList[k],di (by simp [hk]),by simp [hk],vR _ (K9 hk)⟩
def cN(j:Int):Nat:=(cV.cps.toList[j.toNat]?).getD 0
theorem EE{j:Int}(h0:0<=j)(h1:j < 26):atI cV.cps.toList j=some (cN j)/\cN j < 0x110000:=by
 obtain⟨c,e1,e2,e3⟩:=kL h0 h1;have:cN j=c:=by unfold cN;rw [e2];rfl
 rw [this];exact⟨e1,e3⟩
theorem EF{i j:Int}(h0:0<=i)(h1:i < 26)(g0:0<=j)(g1:j < 26)(e:cN i=cN j):i=j:=by
 obtain⟨c,_,e2,_⟩:=kL h0 h1;obtain⟨d,_,e4,_⟩:=kL g0 g1;have a:cN i=c:=by unfold cN;rw [e2];rfl
 have b:cN j=d:=by unfold cN;rw [e4];rfl
 have cd:c=d:=by rw [<-a,<-b,e]
 subst cd;have hi:i.toNat < cV.cps.toList.length:=(Kg.mp e2).1;have:=(OZ (l:=cV.cps.toList) (i:=i.toNat) (j:=j.toNat) hi ED).mp (by rw [e2,e4]);omega
structure cF (n:Nat) (d:Qi):Prop where
 can:d.canLay0=true
 dep:d.depth<=n
theorem cF.shp{n:Nat}{d:Qi}(h:cF n d)(hn:n<=64):Kf d=true:=by
 unfold Kf;rw [h.can,decide_eq_true (KI h.dep hn)];rfl
theorem cF.mono{n m:Nat}{d:Qi}(h:cF n d)(hn:n<=m):cF m d:=⟨h.can,KI h.dep hn⟩
theorem vS{x:Str}(h:KJ x=true):cF 1 (.str x):=⟨by simpa [K0] using h,by simp [MD]⟩
theorem EG{i:Int}:cF 1 (.int i):=⟨by simp [K0],by simp [MD]⟩
theorem EH{i:Bool}:cF 1 (.bool i):=⟨by simp [K0],by simp [MD]⟩
theorem pQ{n:Nat}:∀{ds:List Qi},(∀d∈ds,cF n d)->Lf ds=true/\LY ds<=n
 | [],_=>⟨by simp [Lf],by simp [LY]⟩
 | d::r,h=>by
  obtain⟨a,b⟩:=pQ (ds:=r) λe he=>h e (by simp [he]);have c:=h d Qh;refine⟨by rw [Lf,c.can,a];rfl,?_⟩;rw [LY];exact Nat.max_le.mpr ⟨c.dep,b⟩
theorem dY{n:Nat}{ds:List Qi}(h:∀d∈ds,cF n d):cF (n+1) (.tuple ds):=by
 obtain⟨a,b⟩:=pQ h;refine⟨by simpa [K0] using a,?_⟩;rw [MD];omega
def PU(X:Cx)(e:Qn)(te:TE):Prop:=∀(i:Nat)(x:Str)(pos' spos:Pos)(hN:X.N.Nodup)(hxi:X.N[i]?=some x)(hx:fD X.env.scope x)(hsw:QK e (some (.Name x pos')) spos.line X.env=pure true)
 (hfn:X.fn x=true\/X.env.scope.names.lookup x=some .local),PS X (.Assign [.Name x pos'] e spos) (kh te (gH i))
theorem PU.imp{X:Cx}{e:Qn}{t u:TE}(h:PU X e t)(i:∀σ H Q,u σ H Q->t σ H Q):PU X e u:=λi' x p1 p2 hN hxi hx hsw hfn=>(h i' x p1 p2 hN hxi hx hsw hfn).imp λD σ H z=>i σ H _ z
section
variable {X:Cx} {H0:Hp} {O0:Ex}
section
variable {tg iter elt:Qn} {ifs:List Qn} {scope:QO} {N':List Str} {k:Nat} {fr:List Nat} {g:TG} {dg:DG} {t:DT} {ta:DA} {tc:DB} {te:DT} {pos p ps:Pos}
theorem vT{wi:TI}{tc:TT}{te:TE}(hc:X.calm=true)(S:br X.env.scope X.N N' k fr scope)(hi:PI X tg iter wi)
 (hg:∀fp C s H,PG (bu X scope N' fp C s H) tg g)(hf:∀fp C s H,dF (bu X scope N' fp C s H) ifs tc)(he:∀fp C s H,PE (bu X scope N' fp C s H) elt te)
 (hs:∀x,QA iter X.env x=pure x:=by intro _;rfl):PU X (.ListComp elt [⟨tg,iter,ifs,0⟩] scope pos) (hZ wi g tc te k fr):=
 λ_ _ _ _ hN hxi hx hsw hfn=>C9 hN hxi hx hc S hi hg hf he hsw hs hfn
theorem pR(hc:X.calm=true)(S:br X.env.scope X.N N' k fr scope)(hi:DF X H0 O0 iter t)(gd:GD X.K g dg)(hk:gr g k)(hfr:fr.Nodup)
 (hg:∀fp C s H,PG (bu X scope N' fp C s H) tg g)(hf:∀fp C s H,dF (bu X scope N' fp C s H) ifs (bM X.K H0 O0 tc))(he:∀fp C s H,PE (bu X scope N' fp C s H) elt (up X.K H0 O0 te))
 (hs:∀x,QA iter X.env x=pure x:=by intro _;rfl):PU X (.ListComp elt [⟨tg,iter,ifs,0⟩] scope pos) (kE X.K H0 O0 (mE t dg tc te k fr)):=
 (vT hc S (lO hi) hg hf he hs).imp λσ H Q uu88=>by obtain⟨O,δ,Qd,w,q,kk⟩:=uu88;exact⟨O,δ,_,w,q,λd v H1 uu89 s1 r1=>by
  obtain⟨xs,e,hz,q1⟩:=uu89;subst e;obtain⟨a,vs,rfl,hq,rr⟩:=r1.lst;refine⟨a,rfl,⟨_,hq⟩,λD hD=>iS (bW.list hq) gd hfr (λv _ H' R h=>hk fr σ v H' R h) (λ_ _ _ z=>z) (λ_ _ _ z=>z) (λD H' hD s' o e=>s' _ _ e (cS e hD)) rr (w.mono s1) (by rw [rr.length];exact hz) q1 (λds us p H' z s' hp r'=>kk ds us p H' z (s1.trans s') hp r') D hD⟩⟩
end
theorem mO{i:Nat}{x:Str}{e:Qn}{t:DA}{pos pos':Pos}(hN:X.N.Nodup)(hi:X.N[i]?=some x)(hx:fD X.env.scope x)(he:PU X e (kE X.K H0 O0 t))(hs:QK e (some (.Name x pos')) pos.line X.env=pure true:=by rfl)(hf:X.fn x=true\/X.env.scope.names.lookup x=some .local:=by first | exact .inl rfl | exact .inr rfl | assumption):
 PS X (.Assign [.Name x pos'] e pos) (bp X.K H0 O0 (pz i (dL t))):=
 (he _ _ _ _ hN hi hx hs hf).imp λD σ H ⟨O,δ,E,w,q,k1,k2,k3,k4⟩=>⟨O,δ,_,w,q,λds vs p H1 q1 s1 hp r1=>
  k1 O _ _ _ q1 ((w.mono (s1.trans (ar.new hp))).set (.lst (.inl bq) (ib w s1 hp) (r1.mono (ar.new hp)))) (.same (s1.trans (ar.new hp)))⟩
end
mutual
theorem pT:∀d e:Qi,J6 d e=J6 e d
 | .list xs,.list ys=>by rw [J6,J6];exact pU xs ys
 | .tuple xs,.tuple ys=>by rw [J6,J6];exact pU xs ys
 | .bool _,.bool _ | .int _,.int _ | .str _,.str _=>by simp only [J6];exact MB
 | .bool a,.int j | .int j,.bool a=>by simp only [J6];exact MB
 | .none,.none=>rfl
 | .dict _,.dict _=>by simp only [J6]
 | .none,.bool _ | .none,.int _ | .none,.str _ | .none,.list _ | .none,.tuple _ | .none,.dict _=>by simp only [J6]
 | .bool _,.none | .bool _,.str _ | .bool _,.list _ | .bool _,.tuple _ | .bool _,.dict _=>by simp only [J6]
 | .int _,.none | .int _,.str _ | .int _,.list _ | .int _,.tuple _ | .int _,.dict _=>by simp only [J6]
 | .str _,.none | .str _,.bool _ | .str _,.int _ | .str _,.list _ | .str _,.tuple _ | .str _,.dict _=>by simp only [J6]
 | .list _,.none | .list _,.bool _ | .list _,.int _ | .list _,.str _ | .list _,.tuple _ | .list _,.dict _=>by simp only [J6]
 | .tuple _,.none | .tuple _,.bool _ | .tuple _,.int _ | .tuple _,.str _ | .tuple _,.list _ | .tuple _,.dict _=>by simp only [J6]
 | .dict _,.none | .dict _,.bool _ | .dict _,.int _ | .dict _,.str _ | .dict _,.list _ | .dict _,.tuple _=>by simp only [J6]
theorem pU:∀xs ys:List Qi,Lz xs ys=Lz ys xs
 | [],[]=>rfl
 | x::xs,y::ys=>by rw [Lz,Lz,pT x y,pU xs ys]
 | [],_::_=>by rw [Lz,Lz]
 | _::_,[]=>by rw [Lz,Lz]
end
def pV(z:Str):It:=⟨λi _=>i < z.cps.size,λi H x H'=>H'=H/\∃c,z.cps[i]?=some c/\x= .str ⟨#[c]⟩,λi _=>z.cps.size<=i⟩
theorem EI(z:Str):["enumerate","zip","dict_itemiterator","dict_reverseitemiterator","odict_iterator","itertools.zip_longest","itertools.pairwise"].contains (Rg z)=false:=by
 unfold Rg;split <;> decide
theorem vU{P:Qu}{w:Qw}{A:QC}(hh:A.handled=none)(I:Qk)(z:Str)(t:Tok):Walks P w A I [I] [I] z.cps.size (SignAt z) (λi h=>h.IsStrIter I (Rg z) z t i):=by
 unfold Rg;split
 ·exact Walks.strAscii hh I z t
 ·exact Walks.strWide hh I z t
theorem EJ{P:Qu}{w:Qw}{K:J0}{tg:Qn}(it:Qk)(z:Str)(t:Tok):jl P w K tg (pV z) [it] it (λi h=>h.IsStrIter it (Rg z) z t i/\i<=z.cps.size) where
 mem:=Qh
 obj:=λi h st b hb=>by
  have e:b=it:=by simpa using hb
  subst e;obtain⟨⟨o,e,c,d⟩,_⟩:=st;exact⟨o,e,λv z=>by rw [d] at z;cases z⟩
 keep:=λi h h' st k=>by
  obtain⟨⟨o,e,c,d⟩,l⟩:=st;exact⟨⟨o,k it Qh o e,c,d⟩,l⟩
 item:=by
  intro X hP hw hK hc i RB s σ H E I hf st hg;subst hP hw hK;obtain⟨f0,f1,f2,f3,f4,f5⟩:=hf it Qh;have W:=vU (P:=X.prog) (w:=X.w) (I.ok.hd hc) it z t;refine W.item i s _ _ hg st.1 λv h' tk hv st' kk=>?_;obtain⟨c,u,hc',rfl⟩:=hv;have I1:af X RB σ H {s with heap:=h',toks:=tk}:=I.turned (λb o hb e=>kk b o (by simpa using hb) e) f0 f1 f3 f4 f5;obtain⟨o,e,cc,d⟩:=id st';exact⟨_,rfl,ki (s:={s with heap:=h',toks:=tk}) e cc d (EI z) ⟨.str ⟨#[c]⟩,H,I1,⟨u,rfl⟩,⟨rfl,c,hc',rfl⟩,⟨st',hg⟩,λb hb=>(hf b hb).1⟩⟩
 done:=by
  intro X hP hw hK hc i RB s σ H E I hf st hg;subst hP hw hK;obtain⟨f0,f1,f2,f3,f4,f5⟩:=hf it Qh;have W:=vU (P:=X.prog) (w:=X.w) (I.ok.hd hc) it z t;have e:i=z.cps.size:=Nat.le_antisymm st.2 hg;subst e;exact W.done s _ _ st.1 λh' tk eb=>⟨rfl,I.turned (λb o hb e=>eb b o (by simpa using hb) e) f0 f1 f3 f4 f5⟩
 self:=λA i s Q E st h=>by
  obtain⟨st,_⟩:=st
  revert st
  unfold Rg;split
  ·exact λst=>wpAny_pyIter_striter_ascii st h
  ·exact λst=>wpAny_pyIter_striter_wide st h
def EK(tl:TE):TI:=λσ H R=>tl σ H λx H1=>∃z,x= .str z/\R (pV z) H1
theorem EL{X:Cx}{tg l:Qn}{tl:TE}(hl:PE X l tl):PI X tg l (EK tl):=by
 intro RB s σ H R I h;refine aA (hl RB s σ H _ I h) λv s1 ⟨x,H1,I1,r1,q1⟩=>?_;obtain⟨z,e,q⟩:=q1;subst e;obtain⟨t,rfl⟩:=r1;refine wpAny_pyIter_strU ?_;refine⟨s1.heap.objs.size,[s1.heap.objs.size],_,_,H1,rfl,I1.kept (t':=s1.toks) λb o e=>J9 _ e,EJ _ z t,⟨⟨_,KN _ rfl,rfl,rfl⟩,Lq _⟩,λb hb=>?_,q⟩;have e:b=s1.heap.objs.size:=by simpa using hb
 subst e;exact I1.fpOk (J8 _) (I1.hok.fresh (J8 _))
def vV(z:Str):List Qi:=z.cps.toList.map λc=>.str ⟨#[c]⟩
theorem bW.str{z:Str}:bW (pV z) (λ_=>True) (z.cps.toList.map λc=>V.str ⟨#[c]⟩):=by
 refine⟨λi H' s hi=>(by simpa using hi:i < z.cps.size),λi H' x H'' s hi y=>⟨y.1,?_⟩,λi H' s hi=>(by simpa using hi:z.cps.size<=i)⟩;obtain⟨_,c,hc,rfl⟩:=y;simp [hc]
theorem ai.signs{K:J0}{H:Hp}{O:Ex}:∀(l:List Nat),ai K H O (l.map λc=>V.str ⟨#[c]⟩) (l.map λc=>J5 ⟨#[c]⟩)
 | []=>.nil
 | n::r=>.cons (.str _) (ai.signs r)
section
variable {X:Cx} {H0:Hp} {O0:Ex}
def vW(t:DT)(g:DG)(tc:DB)(te:DT)(k:Nat)(fr:List Nat):DA:=λδ Q=>t δ λd=>∃z,d= .str z/\z.length<=Qp/\gq g tc te (dW k fr δ) (vV z) Q
def vX(ta:DA)(g:DG)(tc:DB)(te:DT)(k:Nat)(fr:List Nat):DA:=λδ Q=>ta δ λds=>∃i j:Int,ds=[.int i,.int j]/\-(2 ^ 62)<=i/\j - i < Qp/\i < 2 ^ 62/\-(2 ^ 62)<=j/\j < 2 ^ 62/\gq g tc te (dW k fr δ) (eB i (j - i).toNat) Q
section
variable {tg iter elt:Qn} {ifs:List Qn} {scope:QO} {N':List Str} {k:Nat} {fr:List Nat} {g:TG} {dg:DG} {t:DT} {ta:DA} {tc:DB} {te:DT} {pos p ps:Pos}
theorem EM(hc:X.calm=true)(S:br X.env.scope X.N N' k fr scope)(hi:DF X H0 O0 iter t)(gd:GD X.K g dg)(hk:gr g k)(hfr:fr.Nodup)
 (hg:∀fp C s H,PG (bu X scope N' fp C s H) tg g)(hf:∀fp C s H,dF (bu X scope N' fp C s H) ifs (bM X.K H0 O0 tc))(he:∀fp C s H,PE (bu X scope N' fp C s H) elt (up X.K H0 O0 te))
 (hs:∀x,QA iter X.env x=pure x:=by intro _;rfl):FE X H0 O0 (.ListComp elt [⟨tg,iter,ifs,0⟩] scope pos) (vW t dg tc te k fr):=
 (kA hc S (EL hi) hg hf he hs).imp λσ H Q uu92=>by obtain⟨O,δ,Qd,w,q,kk⟩:=uu92;exact⟨O,δ,_,w,q,λd v H1 uu93 s1 r1=>by
  obtain⟨z,e,hz,q1⟩:=uu93;subst e;cases r1.str;have hz':(z.cps.toList.map λc=>V.str ⟨#[c]⟩).length<=Qp:=by rw [J1,KZ];exact hz
  exact⟨z,rfl,λD hD=>iS (P:=λ_=>True) bW.str gd hfr (λv _ H' R h=>hk fr σ v H' R h) (λ_ _ _ z=>z) (λ_ _ _ z=>z) (λ_ _ _ _=>trivial) (ai.signs _) (w.mono s1) hz' q1 (λds us p H' z s' hp r'=>kk ds us p H' z (s1.trans s') hp r') D hD⟩⟩
theorem vY(hc:X.calm=true){a b:Qn}(S:br X.env.scope X.N N' k fr scope)(hgl:Gl X "range")(hm:X.mg "range"=none)(ha:PA X [a,b] (el X.K H0 O0 ta))(gd:GD X.K g dg)(hk:gr g k)(hfr:fr.Nodup)
 (hg:∀fp C s H,PG (bu X scope N' fp C s H) tg g)(hf:∀fp C s H,dF (bu X scope N' fp C s H) ifs (bM X.K H0 O0 tc))(he:∀fp C s H,PE (bu X scope N' fp C s H) elt (up X.K H0 O0 te))
 (hst:Qo [a,b] X.env=[(false,eval a X.env),(false,eval b X.env)]:=by rfl)(hst2:Qo [b] X.env=[(false,eval b X.env)]:=by rfl)(hs:∀x,QA (.Call (.Name "range" p) [a,b] [] ps) X.env x=pure x:=by intro _;rfl):
 FE X H0 O0 (.ListComp elt [⟨tg,(.Call (.Name "range" p) [a,b] [] ps),ifs,0⟩] scope pos) (vX ta dg tc te k fr):=
 (kA hc S (sU hgl hm ha hst hst2) hg hf he hs).imp λσ H Q uu94=>by obtain⟨O,δ,Qd,w,q,kk⟩:=uu94;exact⟨O,δ,_,w,q,λds vs H1 uu95 s1 r1=>by
  obtain⟨i,j,e,b1,b2,b3,b4,b5,q1⟩:=uu95;subst e;cases r1 with
  | cons r1 r2=>
   cases r2 with
   | cons r2 r3=>
    cases r3;cases r1.int;cases r2.int;exact⟨i,j,rfl,⟨b1,b3,b4,b5⟩,λD hD=>iS (P:=λ_=>True) bW.rng gd hfr (λv _ H' R h=>hk fr σ v H' R h) (λ_ _ _ z=>z) (λ_ _ _ z=>z) (λ_ _ _ _=>trivial) (ai.rng _) (w.mono s1) (by rw [J1,M4];omega) q1 (λds us p H' z s' hp r'=>kk ds us p H' z (s1.trans s') hp r') D hD⟩⟩
end
def pW(K:J0)(neg:Bool):R2:=λx y H Q=>∃O dx ds dy,Sh K H O x dx/\Sh K H O y dy/\(dy= .list ds\/dy= .tuple ds)/\bL dx/\Lf ds=true/\Q (.bl (if neg then !(ds.any λd=>J6 d dx) else ds.any λd=>J6 d dx)) H
theorem mP{A:QC}{k:Nat}{xs:List Qi}{d:Qi}(hd:bL d)(hr:bx k A):A.units+1+min (LY xs) d.depth < QD:=by
 have:=Oq hd;have h1:min (LY xs) d.depth<=d.depth:=O8 _ _;have:=hr.un;omega
theorem kM{k:Nat}(hr:bx k X.A):bh X (Qz .In) (pW X.K false):=by
 intro RB s σ H x y v u Q I rx ry h;obtain⟨O,dx,ds,dy,hx,hy,e,sx,sy,q⟩:=h;obtain⟨as,ra⟩:=fL I hx.all (K8 sx) rx;rcases e with e | e <;> subst e
 ·obtain⟨bs,rb⟩:=fL I hy.all (by simpa [K0] using sy) ry;exact SeqAt.in_list_reads rb ra sy (K8 sx) (mP sx hr) (d8 I q rfl)
 ·obtain⟨bs,rb⟩:=fL I hy.all (by simpa [K0] using sy) ry;exact SeqAt.in_tuple_reads rb ra sy (K8 sx) (mP sx hr) (d8 I q rfl)
theorem EN{k:Nat}(hr:bx k X.A):bh X (Qz .NotIn) (pW X.K true):=by
 intro RB s σ H x y v u Q I rx ry h;obtain⟨O,dx,ds,dy,hx,hy,e,sx,sy,q⟩:=h;obtain⟨as,ra⟩:=fL I hx.all (K8 sx) rx;rcases e with e | e <;> subst e
 ·obtain⟨bs,rb⟩:=fL I hy.all (by simpa [K0] using sy) ry;exact SeqAt.notIn_list_reads rb ra sy (K8 sx) (mP sx hr) (d8 I q rfl)
 ·obtain⟨bs,rb⟩:=fL I hy.all (by simpa [K0] using sy) ry;exact SeqAt.notIn_tuple_reads rb ra sy (K8 sx) (mP sx hr) (d8 I q rfl)
def vZ(neg:Bool):Qi->Qi->(Qi->Prop)->Prop:=λx y Q=>∃ds,(y= .list ds\/y= .tuple ds)/\bL x/\Lf ds=true/\Q (.bool (if neg then !(ds.any λd=>J6 d x) else ds.any λd=>J6 d x))
theorem jH{K:J0}{neg:Bool}:bG K (pW K neg) (vZ neg):=λH O x y dx dy Qd R _ hx hy uu96 k=>by obtain⟨ds,e,a,b,q⟩:=uu96;exact⟨O,dx,ds,dy,hx,hy,e,a,b,k _ _ H q (ar.refl _) (.bl _)⟩
def v3:List Qi->(Qi->Prop)->Prop:=λds Q=>∃z:Str,ds=[.str z]/\z.length<=Qp/\Q (.int z.length)
theorem v5{K:J0}:gO K (λxs H Q=>∃z,xs=[.str z]/\z.length<=Qp/\Q (.int z.length) H) v3:=λH O xs ds Qd R _ hs uu0 k=>by
 obtain⟨z,e,hz,q⟩:=uu0;subst e;cases hs with
 | cons h r=>cases r;cases h.str;exact⟨z,rfl,hz,k _ _ H q (ar.refl _) (.int _)⟩
def v7:Qi->Qi->(Qi->Prop)->Prop:=λx y Q=>∃i j:Str,x= .str i/\y= .str j/\Q (.bool (decide (i.cps.toList < j.cps.toList)))
theorem EO{K:J0}:bG K (λx y H Q=>∃i j,x= .str i/\y= .str j/\Q (.bl (decide (i.cps.toList < j.cps.toList))) H) v7:=λH O x y dx dy Qd R _ hx hy uu1 k=>by
 obtain⟨i,j,e1,e2,q⟩:=uu1;subst e1 e2;cases hx.str;cases hy.str;exact⟨i,j,rfl,rfl,k _ _ H q (ar.refl _) (.bl _)⟩
def v8:Qi->Qi->(Qi->Prop)->Prop:=λx y Q=>∃i j:Str,x= .str i/\y= .str j/\Q (.bool (!(MX j i 0 j.length 1).isEmpty))
theorem ER{K:J0}:bG K (λx y H Q=>∃i j,x= .str i/\y= .str j/\Q (.bl (!(MX j i 0 j.length 1).isEmpty)) H) v8:=λH O x y dx dy Qd R _ hx hy uu2 k=>by
 obtain⟨i,j,e1,e2,q⟩:=uu2;subst e1 e2;cases hx.str;cases hy.str;exact⟨i,j,rfl,rfl,k _ _ H q (ar.refl _) (.bl _)⟩
theorem ES{prog:Qu}{w:Qw}{A:QC}{E:Qj->Ql->Prop}{s:Ql}{t sl:Qk}{items:Array Qj}{vl vu:Qj}{lo hi:Option Int}{Q:Qj->Ql->Prop}(ht:IsTup s.heap t items)(hs:s.heap.IsSliceOf sl vl vu .none)(pl:IsPart vl lo)(pu:IsPart vu hi)
 (hw:HT.sIx items.size 0 lo=0/\HT.sIx items.size items.size hi=items.size)(h:Q (.ref t) s):Qr (Qs prog w) A (QX (.ref t) (.ref sl)) Q E s:=by
 obtain⟨os,hos,hcs,hds⟩:=id hs;have hTs:s.TypeIs (.ref sl) "slice":=⟨os,hos,hcs⟩;unfold QX
 try with_reducible refine QH ?_
 first | refine Qm (Qq ?_) | skip
 refine Qm (Rv ht.typeIs Qb ?_);refine Qm (Ra (name:=J4 "__getitem__") ht.typeIs Lr
  (Q1 Lr ht.typeIs Nb ?_ (Nh _ _)))
 show Qr _ _ (MH (.ref t) >>=_) _ _ s;refine Qm (tupleItemsOf_ ht ?_);refine Qm (Q6 hTs ?_);rw [Qf Qb];refine Qm (HT.sliceApplied_gen hs pl pu ?_);show Qr _ _ (if (((HT.sIx items.size 0 lo:Nat):Int)==0 && (1:Int)==1 && (HT.sIx items.size items.size hi - HT.sIx items.size 0 lo)==items.size)=true then _ else _) _ _ s;rw [Qf (by rw [hw.1,hw.2];simp)];unfold Builtin.Tuple.tupleIsExact;refine Qm (Qm (Q6 ht.typeIs (Qq ?_)));rw [Qf Qb];exact Qm (wpAny_rule (Qq ⟨_,rfl,Qq h⟩))
def ET(K:J0):V->Option Int->Option Int->Hp->VK->Prop:=λx lo hi H Q=>∃a xs,x= .ref a/\bg K H a xs/\
 ((HT.sIx xs.length 0 lo=0/\HT.sIx xs.length xs.length hi=xs.length)->Q x H)/\(¬(HT.sIx xs.length 0 lo=0/\HT.sIx xs.length xs.length hi=xs.length)->∀p,H p=none->Q (.ref p) (aq H p (.tup (gJ xs lo hi))))
theorem EU:kz X (ET X.K):=by
 intro RB s σ H x v vl vu lo hi sl Q I rx hs pl pu h;obtain⟨a,xs,rfl,hx,q1,q2⟩:=h;by_cases hw:HT.sIx xs.length 0 lo=0/\HT.sIx xs.length xs.length hi=xs.length
 ·cases rx;obtain⟨its,r,ht,hz⟩:=I.tuple hx;have hlen:its.toArray.size=xs.length:=by rw [Ke];exact r.length.symm
  refine⟨"tuple",_,Lr.lookup,ht.typeIs,?_⟩;exact ES ht hs pl pu (by rw [hlen];exact hw) ⟨.ref a,H,I,rfl,q1 hw⟩
 ·exact Cs RB s σ H _ v vl vu lo hi sl Q I rx hs pl pu ⟨a,xs,rfl,hx,hw,q2 hw⟩
theorem EV{xs:List Qi}{l u:Option Int}(h:HT.sIx xs.length 0 l=0/\HT.sIx xs.length xs.length u=xs.length):bI xs l u=xs:=by
 unfold bI;rw [h.1,h.2];simp
def v9(t:DT)(tl th:DO):DT:=λδ Q=>t δ λd=>tl δ λl=>th δ λu=>∃xs,d= .tuple xs/\Q (.tuple (bI xs l u))
theorem gU{e:Qn}{lo hi:Option Qn}{t:DT}{tl th:DO}{pos p2:Pos}(h:DF X H0 O0 e t)(hl:PO X lo (fN X.K H0 O0 tl))(hu:PO X hi (fN X.K H0 O0 th)):DE X H0 O0 (.Subscript e (.Slice lo hi none p2) pos) (v9 t tl th):=
 (l3 EU h hl hu).imp λσ H Q ⟨O,δ,Qd,w,q,k⟩=>⟨O,δ,_,w,q,λd v H1 q1 s1 r1=>⟨O,δ,_,w.mono s1,q1,λl H2 q2 s2=>⟨O,δ,_,w.mono (s1.trans s2),q2,λu H3 uu4 s3=>by
  obtain⟨xs,e,q3⟩:=uu4;subst e;have r3:=r1.mono (s2.trans s3);have r4:=r3;obtain⟨a,vs,rfl,h1,d1⟩:=r4.tup;refine⟨a,vs,rfl,h1,λhw=>?_,λ_ p hp=>k _ _ _ q3 (s1.trans (s2.trans (s3.trans (ar.new hp)))) (.tup (.inl bq) (ib w (s1.trans (s2.trans s3)) hp) ((d1.cut l u).mono (ar.new hp)))⟩;rw [d1.length] at hw;rw [EV hw] at q3;cases r3 with
  | dt r3=>exact k _ _ _ q3 (s1.trans (s2.trans s3)) r3⟩⟩⟩
def cO(a b:Str):Bool:=decide (a.cps.toList<=b.cps.toList)
def cG(l:List Str):List Str:=l.mergeSort cO
theorem wa(a b c:Str)(h:cO a b=true)(h':cO b c=true):cO a c=true:=
 decide_eq_true (List.le_trans (of_decide_eq_true h) (of_decide_eq_true h'))
theorem EW(a b:Str):(cO a b || cO b a)=true:=by
 rcases List.le_total a.cps.toList b.cps.toList with h | h
 ·unfold cO;rw [decide_eq_true h];rfl
 ·unfold cO;rw [decide_eq_true h,Bool.or_true]
theorem wb{a b:Str}(h:a.cps.toList=b.cps.toList):a=b:=by
 cases a;cases b;congr 1;exact Array.ext' h
theorem wc{a b:Str}(h:cO a b=true)(h':cO b a=true):a=b:=wb (Pc (of_decide_eq_true h) (of_decide_eq_true h'))
theorem eD(l:List Str):(cG l).Perm l:=List.mergeSort_perm l cO
theorem pX(l:List Str):(cG l).Pairwise λa b=>cO a b=true:=List.pairwise_mergeSort wa EW l
theorem we{l m:List Str}(h:m.Perm l)(p:m.Pairwise λa b=>cO a b=true):m=cG l:=
 List.Perm.eq_of_pairwise (λa b _ _ x y=>wc x y) p (pX l) (h.trans (eD l).symm)
theorem wg:∀(p:Str)(l:List Str),risingS p l=true->(p::l).Pairwise λa b=>cO a b=true
 | p,[],_=>by simp
 | p,x::r,h=>by
  rw [risingS,Ks,NN,ltCps_eq,decide_eq_false_iff_not] at h;have h1:cO p x=true:=decide_eq_true (O6.mp h.1);have h2:=wg x r h.2;rw [K7];refine⟨λy hy=>?_,h2⟩;rcases Kh.mp hy with z | z
  ·rw [z];exact h1
  ·exact wa p x y h1 ((K7.mp h2).1 y z)
theorem wj:∀(l:List Str),sortedS l=true->l.Pairwise λa b=>cO a b=true
 | [],_=>.nil
 | x::r,h=>wg x r h
theorem pY:∀{ys:List Str}{us:List Qj},aD (ys.map V.str) us->StrsAre us ys:=by
 intro ys
 induction ys with
 | nil=>intro us rv;cases rv;exact .nil
 | cons y ys ih=>
  intro us rv;rw [Kb] at rv;cases rv with
  | cons r1 r2=>obtain⟨t,rfl⟩:=r1;exact .cons y t (ih r2)
theorem pZ:∀{ys:List Str}{us:List Qj},StrsAre us ys->aD (ys.map V.str) us
 | _,_,.nil=>.nil
 | _,_,.cons y t r=>.cons ⟨t,rfl⟩ (pZ r)
theorem EX:cT X (.builtin "sorted") (λxs H Q=>∃p ss,xs=[.ref p]/\aX X.K H p (ss.map V.str)/\ss.length < 64/\∀l,H l=none->Q (.ref l) (aq H l (.lst ((cG ss).map V.str)))):=by
 intro RB s σ H xs us Q I r h;obtain⟨p,ss,rfl,hq,h64,q⟩:=h;obtain⟨u,rfl,rx⟩:=cW r;cases rx;obtain⟨its,rv,pl,hz⟩:=I.list hq;have hlen:=rv.length;rw [J1] at hlen;refine sorted_strs pl.isList (pY rv) Qc λout ss' a1 a2 a3=>?_;obtain⟨e,he⟩:=sortedAll_at s.heap its out;have es:ss'=cG ss:=we a2 (wj _ a3);subst es;have hl2:(cG ss).length=ss.length:=a2.length_eq;refine⟨.ref _,_,I.laid (t':=s.toks) (o:= .lst ((cG ss).map V.str)) (λb ob q=>sortedAll_old q) (Oi _) ?_,rfl,q _ (I.hok.fresh (Oi _))⟩;refine⟨by rw [J1,hl2];exact KI (Mp h64) Qb,out.toList,e,pZ a1,?_⟩;rw [he]
theorem ai.strs{K:J0}{H:Hp}{O:Ex}:∀{ss:List Str}{vs:List V},ai K H O vs (ss.map J5)->vs=ss.map V.str
 | [],_,r=>by rw [LA] at r;cases r;rfl
 | b::bs,_,r=>by
  rw [Kb] at r;cases r with
  | cons h r=>cases h;rw [Kb,ai.strs r]
theorem ai.ofStrs{K:J0}{H:Hp}{O:Ex}:∀(ss:List Str),ai K H O (ss.map V.str) (ss.map J5)
 | []=>.nil
 | s::r=>.cons (.str s) (ai.ofStrs r)
def wk(t:DA):DA:=λδ Q=>t δ λds=>∃ss:List Str,ds=[.list (ss.map .str)]/\ss.length < 64/\Q ((cG ss).map .str)
theorem EY{a:Qn}{t:DA}{np p:Pos}(hg:Gl X "sorted")(hm:X.mg "sorted"=none)(hv:QB "sorted"=some (.builtin "sorted"))(ha:PA X [a] (el X.K H0 O0 t))(he:Qo [a] X.env=(false,eval a X.env)::Qo [] X.env:=by rfl)(hpl:(QJ p (Qo [] X.env)).any (·.1)=false:=by rfl):FE X H0 O0 (.Call (.Name "sorted" np) [a] [] p) (wk t):=
 (aS EX hg hm hv ha (he:=he) (hpl:=hpl)).imp λσ H Q uu5=>by obtain⟨O,δ,Qd,w,q,k⟩:=uu5;exact⟨O,δ,_,w,q,λds vs H1 uu6 s1 r1=>by
  obtain⟨ss,e,h64,q1⟩:=uu6;subst e;cases r1 with
  | cons h r=>
   cases r;obtain⟨a,us,rfl,h1,d1⟩:=h.lst;cases d1.strs;exact⟨a,ss,rfl,h1,h64,λl hl=>k _ _ _ _ q1 s1 hl (ai.ofStrs _)⟩⟩
end
end L2
namespace PySem.SeqAt
open AutoSeq1 (wpAny_loadPart')
open MeetsSeq
theorem wq(l:Qk)(es:Array Q0)(n:Nat)(dd:Option Qk)(sl:Array (Option Qj))(b:Str)(u:Tok):
 Meets (Builtin.«dict.__eq__» ⟨[.ref l,.str b u],[]⟩) (λ_ R s=>s.heap.get? l=some {cls:= .type "dict",dict:=dd,data:= .dict es n,slots:=sl}/\R (.ok (.ret .notImplemented)) s):=
 .of_wp λprog w A R s h=>by obtain⟨hp,g,d,tk,os⟩:=s;obtain⟨hl,h⟩:=h;have f1:=F.sub_str_dict;wp_walk using QN hl;exact⟨_,rfl,h⟩
theorem wu(b:Str)(u:Tok)(l:Qk)(c:Qj)(es:Array Q0)(n:Nat)(dd:Option Qk)(sl:Array (Option Qj)):
 Meets (Builtin.«str.__eq__» ⟨[.str b u,.ref l],[]⟩) (λ_ R s=>s.heap.get? l=some {cls:=c,dict:=dd,data:= .dict es n,slots:=sl}/\R (.ok (.ret .notImplemented)) s):=
 .of_wp λprog w A R s h=>by obtain⟨hp,g,d,tk,os⟩:=s;obtain⟨hl,h⟩:=h;wp_walk using QN hl,wpAny_load hl;exact⟨_,rfl,h⟩
section
variable {A:QC} {s:Ql}
theorem RcAt.dict_str{l:Qk}{es:Array Q0}{n:Nat}{o:Obj}(b:Str)(u:Tok)(ho:s.heap.get? l=some o)(hc:o.cls= .type "dict")(hd:o.data= .dict es n)(hu:A.units < QD):RcAt A s (.ref l) (.str b u) false:=λprog w E Q h=>by
 obtain⟨cls,dd,data,sl⟩:=o;simp only at hc hd;subst hc hd;exact rc_eq_decline_or (k:=false) ⟨_,ho,rfl⟩ (Q9 s b u) Qb F.sub_str_dict F.slot_dict_eq F.slot_str_eq_refl
  (λ_ hq=>QW F.slot_dict_eq ⟨_,ho,rfl⟩ F.entry_dict_eq (F.args_dict_eq_2 _ _) (wq l es n dd sl b u) ⟨ho,hq⟩)
  (λ_ hq=>QW F.slot_str_eq_refl (Q9 s b u) F.entry_str_eq (F.args_str_eq_2 _ _) (wu b u l (.type "dict") es n dd sl) ⟨ho,hq⟩)
  (λ_ hq=>wpAny_of_eq (rfl:isSame (.ref l) (.str b u)=pure false) hq) (.inr hu) h
theorem RcAt.str_dict{l:Qk}{es:Array Q0}{n:Nat}{o:Obj}(b:Str)(u:Tok)(ho:s.heap.get? l=some o)(hc:o.cls= .type "dict")(hd:o.data= .dict es n)(hu:A.units < QD):RcAt A s (.str b u) (.ref l) false:=λprog w E Q h=>by
 obtain⟨cls,dd,data,sl⟩:=o;simp only at hc hd;subst hc hd;exact rc_eq_decline_or (k:=false) (Q9 s b u) ⟨_,ho,rfl⟩ Qb F.sub_dict_str F.slot_str_eq F.slot_dict_eq_refl
  (λ_ hq=>QW F.slot_str_eq (Q9 s b u) F.entry_str_eq (F.args_str_eq_2 _ _) (wu b u l (.type "dict") es n dd sl) ⟨ho,hq⟩)
  (λ_ hq=>QW F.slot_dict_eq_refl ⟨_,ho,rfl⟩ F.entry_dict_eq (F.args_dict_eq_2 _ _) (wq l es n dd sl b u) ⟨ho,hq⟩)
  (λ_ hq=>wpAny_of_eq (rfl:isSame (.str b u) (.ref l)=pure false) hq) (.inr hu) h
theorem EqAt.str_dict{l:Qk}{es:Array Q0}{n:Nat}{o:Obj}(b:Str)(u:Tok)(ho:s.heap.get? l=some o)(hc:o.cls= .type "dict")(hd:o.data= .dict es n)(hu:A.units < QD):EqAt A s (.str b u) (.ref l) false:=λprog w E Q h=>by
 unfold eqBool;refine QH ?_;refine wpAny_ite_split (λhab=>absurd (eq_of_beq hab) nofun) (λ_=>?_);exact Qm (RcAt.str_dict b u ho hc hd hu prog w E _ (QF h))
end
end PySem.SeqAt
namespace L2
open PySem PySem.Spec PyProof.Rows PySem.W
section
variable {X:Cx} {RB:List (Qk×Obj)} {σ:St} {H:Hp} {s:Ql}
def bQ:Qi->Bool
 | .dict [(.none,_)]=>false
 | _=>true
theorem EZ(I:af X RB σ H s){O:Ex}{v:V}{d:Qi}{u:Qj}(h:Dt X.K H O v d)(ht:bQ d=true)(r:aC v u)(y:Str)(t:Tok)(hu:X.A.units < QD):SeqAt.RcAt X.A s u (.str y t) (J6 d (.str y)):=by
 cases h with
 | non=>cases (show u=Mv from r);simpa [J6] using SeqAt.RcAt.none_str y t
 | bl b=>cases (show u=L8 b from r);simpa [J6] using SeqAt.RcAt.bool_str b y t
 | int i=>obtain⟨k,e⟩:=(show ∃t,u=Mu i t from r);cases e;simpa [J6] using SeqAt.RcAt.int_str i k y t
 | str x=>obtain⟨k,e⟩:=(show ∃t,u=LZ x t from r);cases e;simpa [J6] using SeqAt.RcAt.str_str x k y t
 | @tup a xs ds h n rr=>
  cases (show u=KL a from r);obtain⟨its,rv,p,_⟩:=I.tuple (.inl h);simpa [J6] using Ox y t (show s.heap.IsTuple a its.toArray from p) hu
 | @tupK a xs ds h rr=>
  cases (show u=KL a from r);obtain⟨its,rv,p,_⟩:=I.tuple h.of0;simpa [J6] using Ox y t (show s.heap.IsTuple a its.toArray from p) hu
 | @lst a xs ds h n rr=>
  cases (show u=KL a from r);obtain⟨its,rv,p,_⟩:=I.list (.inl h);simpa [J6] using SeqAt.RcAt.list_str y t p.isList hu
 | pack h n=>exact absurd ht (by simp [bQ])
 | purse h n=>exact absurd ht (by simp [bQ])
 | scr h r=>exact absurd ht (by simp [bQ])
 | obj h e n r=>exact absurd ht (by simp [bQ])
 | @dct0 a h n=>
  cases (show u=KL a from r);obtain⟨_,_,_,_,o,es,ep,e,c,dd,_⟩:=(show bN X.prog X.w H s.heap a (.dK []) from I.hok a _ h);simpa [J6] using SeqAt.RcAt.dict_str y t e c.1 dd hu
 | @dic a ob kv ks kp ds h e1 e2 n rr=>
  cases (show u=KL a from r);obtain⟨_,_,_,_,o,es,ep,e,c,dd,_⟩:=(show bN X.prog X.w H s.heap a (.dK kv) from(I.hok a _ h).2);simpa [J6] using SeqAt.RcAt.dict_str y t e c.1 dd hu
theorem wz(I:af X RB σ H s){A:QC}{O:Ex}{v:V}{d:Qi}{u:Qj}(h:Dt X.K H O v d)(ht:bQ d=true)(r:aC v u)(y:Str)(t:Tok)(hu:A.units < QD):NS A s (.str y t) u (J6 (.str y) d):=by
 cases h with
 | non=>cases (show u=Mv from r);simpa [J6] using NS.str_none y t
 | bl b=>cases (show u=L8 b from r);simpa [J6] using NS.str_bool y t b
 | int i=>obtain⟨k,e⟩:=(show ∃t,u=Mu i t from r);cases e;simpa [J6] using OM y t i k
 | str x=>obtain⟨k,e⟩:=(show ∃t,u=LZ x t from r);cases e;simpa [J6] using OQ y t x k
 | @tup a xs ds h n rr=>
  cases (show u=KL a from r);obtain⟨its,rv,p,_⟩:=I.tuple (.inl h);simpa [J6] using Oy y t (show s.heap.IsTuple a its.toArray from p) hu
 | @tupK a xs ds h rr=>
  cases (show u=KL a from r);obtain⟨its,rv,p,_⟩:=I.tuple h.of0;simpa [J6] using Oy y t (show s.heap.IsTuple a its.toArray from p) hu
 | @lst a xs ds h n rr=>
  cases (show u=KL a from r);obtain⟨its,rv,p,_⟩:=I.list (.inl h);simpa [J6] using NS.str_list y t p.isList hu
 | pack h n=>exact absurd ht (by simp [bQ])
 | purse h n=>exact absurd ht (by simp [bQ])
 | scr h r=>exact absurd ht (by simp [bQ])
 | obj h e n r=>exact absurd ht (by simp [bQ])
 | @dct0 a h n=>
  cases (show u=KL a from r);obtain⟨_,_,_,_,o,es,ep,e,c,dd,_⟩:=(show bN X.prog X.w H s.heap a (.dK []) from I.hok a _ h);simpa [J6] using NS.str_dict y t e c.1 dd hu
 | @dic a ob kv ks kp ds h e1 e2 n rr=>
  cases (show u=KL a from r);obtain⟨_,_,_,_,o,es,ep,e,c,dd,_⟩:=(show bN X.prog X.w H s.heap a (.dK kv) from(I.hok a _ h).2);simpa [J6] using NS.str_dict y t e c.1 dd hu
end
section
variable {X:Cx} {H0:Hp} {O0:Ex}
def wA(K:J0):R2:=λx y H Q=>∃O dx z,Dt K H O x dx/\bQ dx=true/\y= .str z/\Q (.bl (J6 dx (.str z))) H
theorem cH{k:Nat}(hr:bx k X.A):bh X (Qz .Eq) (wA X.K):=by
 intro RB s σ H x y v u Q I rx ry h;obtain⟨O,dx,z,hx,ht,rfl,q⟩:=h;obtain⟨t,rfl⟩:=ry;have hc:Qz .Eq v (.str z t)=richCompare .Eq v (.str z t):=rfl;rw [hc];exact EZ I hx ht rx z t hr.units0 X.prog X.w X.xe _ (d8 I q rfl)
def mQ:Qi->Qi->(Qi->Prop)->Prop:=λx y Q=>∃z,y= .str z/\bQ x=true/\Q (.bool (J6 x (.str z)))
theorem cI{K:J0}:bG K (wA K) mQ:=λH O x y dx dy Qd R _ hx hy uu7 k=>by
 obtain⟨z,e,ht,q⟩:=uu7;subst e;cases hy.str;exact⟨_,dx,z,hx.all,ht,rfl,k _ _ H q (ar.refl _) (.bl _)⟩
theorem wB(dx:Qi){its:List Qj}{zs:List Str}(hS:StrsAre its zs):its.any (λy=>J6 (.str (strOf y)) dx)=zs.any λz=>J6 (.str z) dx:=by
 induction hS with
 | nil=>rfl
 | cons y t r ih=>rw [LN,LN,ih];rfl
def wC(K:J0):R2:=λx y H Q=>∃(O:Ex)(dx:Qi)(zs:List Str)(a:Qk),Dt K H O x dx/\bQ dx=true/\y= .ref a/\bg K H a (zs.map V.str)/\Q (.bl (zs.any λz=>J6 (.str z) dx)) H
theorem fR{k:Nat}(hr:bx k X.A):bh X (Qz .In) (wC X.K):=by
 intro RB s σ H x y v u Q I rx ry h;obtain⟨O,dx,zs,a,hx,ht,rfl,ha,q⟩:=h;cases ry;obtain⟨its,rv,p,_⟩:=I.tuple ha;have hS:=pY rv;have hl:=wB dx hS;refine SeqAt.in_tupleAt (λy=>J6 (.str (strOf y)) dx) (show s.heap.IsTuple a its.toArray from p) (λy hy=>?_) (by rw [Pd,hl];exact d8 I q rfl);obtain⟨z,t,rfl⟩:=hS.all y (by simpa using hy);exact wz I hx ht rx z t (by show X.A.units+1 < QD;have:=hr.un;omega)
def wD:Qi->Qi->(Qi->Prop)->Prop:=λx y Q=>∃zs:List Str,y= .tuple (zs.map .str)/\bQ x=true/\Q (.bool (zs.any λz=>J6 (.str z) x))
theorem fS{K:J0}:bG K (wC K) wD:=λH O x y dx dy Qd R _ hx hy uu8 k=>by
 obtain⟨zs,e,ht,q⟩:=uu8;subst e;obtain⟨a,vs,rfl,hs,r⟩:=hy.tup;cases r.strs;exact⟨_,dx,zs,a,hx.all,ht,rfl,hs,k _ _ H q (ar.refl _) (.bl _)⟩
end
def mR:Qi->Bool | .str _=>true | _=>false
def wF:Qi->Bool | .int _=>true | .bool _=>true | _=>false
def jI:Qi->Bool | .bool _=>true | _=>false
def fj:Qi->Bool | .tuple _=>true | _=>false
theorem wG{K:J0}(d:Qi):kitOne K (.type (jF d)) (.type "str")=some (mR d):=by cases d <;> rfl
theorem E1{K:J0}(d:Qi):kitOne K (.type (jF d)) (.type "int")=some (wF d):=by cases d <;> rfl
theorem p5{K:J0}(d:Qi):kitOne K (.type (jF d)) (.type "bool")=some (jI d):=by cases d <;> rfl
theorem iZ{K:J0}(d:Qi):kitOne K (.type (jF d)) (.type "tuple")=some (fj d):=by cases d <;> rfl
mutual
def thg:Qi->Bool
 | .dict []=>true
 | .dict (_::_)=>false
 | .str z=>decide (z.length<=1000)
 | .tuple l=>dM l
 | .list l=>dM l
 | .none=>true
 | .bool _=>true
 | .int _=>true
def dM:List Qi->Bool
 | []=>true
 | d::r=>thg d && dM r
end
theorem gW{d:Qi}(h:thg d=true):∀x,d≠ .dict [(.none,x)]:=by
 rintro x rfl;simp [thg] at h
theorem gw{d:Qi}(h:thg d=true):bQ d=true:=by
 unfold bQ;split
 ·simp [thg] at h
 ·rfl
theorem mS:∀{l:List Qi}{d:Qi},dM l=true->d∈l->thg d=true
 | e::r,d,h,m=>by
  rw [dM,Ks] at h;rcases Kh.mp m with z | z
  ·rw [z];exact h.1
  ·exact mS h.2 z
theorem E2{l:List Qi}(h:∀d∈l,thg d=true):dM l=true:=by
 induction l with
 | nil=>rfl
 | cons e r ih=>rw [dM,h e Qh,ih λd hd=>h d (by simp [hd])];rfl
theorem kN{l:List Qi}(h:thg (.tuple l)=true):∀d∈l,thg d=true:=λd hd=>mS (by simpa [thg] using h) hd
theorem E3{z:Str}(h:thg (.str z)=true):z.length<=1000:=by simpa [thg] using h
def dB(zs:List Str)(d:Qi):Bool:=zs.any λz=>J6 (.str z) d
def i4:Qi->Bool | .int _=>true | _=>false
def gX:Qi->Bool | .int i=>decide (0<=i) && decide (i<=99999) | _=>false
def bZ:Qi->Bool | .str z=>decide (1<=z.length) && decide (z.length<=8) && z.cps.toList.all (λc=>decide (c∈cV.cps.toList)) | _=>false
def eF:Qi->Bool
 | .tuple [a]=>J6 a (.str "coming")
 | .tuple [a,b]=>dB ["first","last"] a && bZ b
 | _=>false
def kO:Qi->Bool | .int i=>decide (0<=i) && decide (i<=999) | _=>false
def jJ(m u:Qi):Bool:=kO m && dB ["days","months","years"] u
def dZ:Qi->Bool
 | .tuple [a,b]=>dB ["while","follow","leave"] a && bZ b
 | .tuple [a,b,c,d,e]=>dB ["keep","gone"] a && bZ b && (eF c && jJ d e)
 | _=>false
def mT:Qi->Qi->Bool | .str a,.str b=>decide (a.cps.toList < b.cps.toList) | _,_=>false
def fT:List Qi->Bool
 | a::b::r=>mT a b && fT (b::r)
 | _=>true
def iq:Qi->Bool | .tuple l=>decide (l.length<=4) && (l.all bZ && fT l) | _=>false
def fk:Qi->Bool | .tuple [a,b]=>dB ["paper","kind"] a && bZ b | _=>false
def iu(w:Qi)(ps:List Qi):Bool:=
 if dB ["end","lift"] w then ps.length==0
 else if dB ["happens","leave"] w then(match ps with | [a]=>bZ a | _=>false)
 else if J6 w (.str "rule") then(match ps with | [a]=>dZ a | _=>false)
 else if J6 w (.str "paper") then(match ps with | [a,b]=>bZ a && iq b | _=>false)
 else if J6 w (.str "hold") then(match ps with | [a,b]=>fk a && jI b | _=>false)
 else false
def eO:Qi->Bool
 | .tuple (w::n::x::r)=>gX n && bZ x && iu w r
 | _=>false
structure Nm (z:Str):Prop where
 lo:1<=z.length
 hi:z.length<=8
 ab:∀c∈z.cps.toList,c∈cV.cps.toList
theorem Nm.is{z:Str}(h:Nm z):bZ (.str z)=true:=by
 simp only [bZ,decide_eq_true h.lo,decide_eq_true h.hi,Lb,Lj,decide_eq_true_eq];exact h.ab
theorem ix{d:Qi}(h:bZ d=true):∃z,d= .str z/\Nm z:=by
 cases d with
 | str z=>
  simp only [bZ,Ks,decide_eq_true_eq,Lj] at h;exact⟨z,rfl,h.1.1,h.1.2,h.2⟩
 | _=>simp [bZ] at h
theorem Nm.ok{z:Str}(h:Nm z):KJ z=true:=il.mpr λc hc=>vR c (h.ab c hc)
theorem p7{g:DG}{te:DT}{δ0:Dl}{xs:List Qi}{Q:List Qi->Prop}(f:Qi->Qi)
 (h:∀x∈xs,∀R:Qi->Prop,R (f x)->g x δ0 λδ2=>te δ2 R)(q:Q (xs.map f)):gq g jB te δ0 xs Q:=by
 refine⟨λi acc=>acc=(xs.take i).map f,rfl,?_,?_⟩
 ·rintro i x acc hx rfl;have:=h x (Kw hx) (λy=>(xs.take i).map f++[y]=(xs.take (i+1)).map f) (by rw [Le,hx];simp);simpa [jB] using this
 ·rintro acc rfl;rw [Ky (J8 _)];exact q
theorem p8{g:DG}{te:DT}{δ0:Dl}{xs:List Qi}{p:Bool->Prop}{gg:List Bool->Bool}(f:Qi->Bool)
 (h:∀x∈xs,∀R:Qi->Prop,R (.bool (f x))->g x δ0 λδ2=>te δ2 R)(q:p (gg (xs.map f))):gq g jB te δ0 xs λds=>∃bs:List Bool,ds=bs.map Lm/\p (gg bs):=
 p7 (λx=>.bool (f x)) h ⟨xs.map f,by rw [Kx];rfl,q⟩
theorem E4{a b:Str}{P:List Str->Prop}:(∃zs,[J5 a,J5 b]=Kv J5 zs/\P zs)↔P [a,b]:=by
 refine⟨λ⟨zs,e,h⟩=>?_,λh=>⟨_,rfl,h⟩⟩
 match zs,e with
 | [x,y],e=>simp at e;rw [e.1,e.2];exact h
theorem E5{a b c:Str}{P:List Str->Prop}:(∃zs,[J5 a,J5 b,J5 c]=Kv J5 zs/\P zs)↔P [a,b,c]:=by
 refine⟨λ⟨zs,e,h⟩=>?_,λh=>⟨_,rfl,h⟩⟩
 match zs,e with
 | [x,y,z],e=>simp at e;rw [e.1,e.2.1,e.2.2];exact h
theorem kP(d:Qi):(∃l,d= .tuple l)\/(∀l,d≠ .tuple l):=by
 cases d <;> simp
theorem wH{d:Qi}(h:∀l,d≠ .tuple l):fj d=false:=by
 cases d with
 | tuple l=>exact absurd rfl (h l)
 | _=>rfl
def cZ(d:Qi)(n:Int):Bool:=match d with | .tuple l=>decide ((l.length:Int)=n) | _=>false
theorem p9{d:Qi}(h:∀l,d≠ .tuple l)(n:Int):cZ d n=false:=by
 cases d with
 | tuple l=>exact absurd rfl (h l)
 | _=>rfl
theorem E6{x:Str}:bQ (.str x)=true:=rfl
theorem E7{x:Int}:bQ (.int x)=true:=rfl
theorem E8{x:Bool}:bQ (.bool x)=true:=rfl
theorem E9{x:List Qi}:bQ (.tuple x)=true:=rfl
theorem Fb{x:List Qi}:bQ (.list x)=true:=rfl
theorem Fc(l u:Option Int)(n:Nat):Nx l u 1 n=(KU (HT.sIx n n u - HT.sIx n 0 l)).map (HT.sIx n 0 l+·):=by
 unfold Nx sliceRange;have c:∀(o:Option Int)(d:Nat),(match o with | none=>(d:Int) | some i=>max 0 (min (if i < 0 then i+(n:Int) else i) (n:Int)))=((HT.sIx n d o:Nat):Int):=by
  intro o d;cases o with
  | none=>rfl
  | some v=>
   show max 0 (min (if v < 0 then v+(n:Int) else v) (n:Int))=(((if v < 0 then(v+(n:Int)).toNat else min v.toNat n):Nat):Int);by_cases hv:v < 0
   ·rw [Qf hv,Qf hv];omega
   ·rw [Qe hv,Qe hv];omega
 have c0:=c l 0;have c1:=c u n;simp only [show(1:Int) > 0 by decide,if_true] at c0 c1⊢;simp only [Int.natCast_zero] at c0;have key:∀a b:Int,a=((HT.sIx n 0 l:Nat):Int)->b=((HT.sIx n n u:Nat):Int)->((KU (if a < b then(b - a+1 - 1)/ 1 else 0).toNat).map λ(k:Nat)=>(a+1*(k:Int)).toNat)=(KU (HT.sIx n n u - HT.sIx n 0 l)).map (HT.sIx n 0 l+·):=by
  intro a b ea eb;have e:(if a < b then(b - a+1 - 1)/ 1 else 0).toNat=HT.sIx n n u - HT.sIx n 0 l:=by
   rw [ON];split <;> omega
  rw [e];refine MJ λk _=>?_;show(a+1*(k:Int)).toNat=_;omega
 exact key _ _ c0 c1
def jK(xs:List Nat)(l u:Option Int):List Nat:=(xs.drop (HT.sIx xs.length 0 l)).take (HT.sIx xs.length xs.length u - HT.sIx xs.length 0 l)
theorem wI(x:Str)(l u:Option Int):(Txt.slice x l u).cps.toList=jK x.cps.toList l u:=by
 have hl:x.cps.toList.length=x.length:=by rw [KZ];rfl
 unfold Txt.slice;rw [Fc,J1,M4];unfold jK;rw [hl];split
 ·rename_i h;have h2:HT.sIx x.length x.length u - HT.sIx x.length 0 l=x.length:=by simpa using h
  have h3:HT.sIx x.length x.length u<=x.length:=HT.sIx_le _ _ (J8 _) u;by_cases hz:x.length=0
  ·have:x.cps.toList=[]:=List.length_eq_zero_iff.mp Qc;rw [this];simp
  ·have h4:HT.sIx x.length 0 l=0:=Qc
   rw [h2,h4,List.drop_zero,Ky Qc]
 ·rw [pick_run]
theorem Fd{xs:List Nat}{i:Int}(h0:0<=i)(h1:i<=xs.length):jK xs none (some i)=xs.take i.toNat:=by
 unfold jK;rw [kx,fP h0 h1];simp
theorem Fe{xs:List Nat}{i:Int}(h0:0<=i)(h1:i<=xs.length):jK xs (some i) none=xs.drop i.toNat:=by
 unfold jK;rw [kx,fP h0 h1,Ky (by rw [LF];exact J8 _)]
theorem qa(x:Str):x.length=x.cps.toList.length:=by rw [KZ];rfl
theorem Nm.of{z:Str}{l:List Nat}(e:z.cps.toList=l)(lo:1<=l.length)(hi:l.length<=8)(ab:∀c∈l,c∈cV.cps.toList):Nm z:=
 ⟨by rw [qa,e];exact lo,by rw [qa,e];exact hi,by rw [e];exact ab⟩
theorem wJ{z:Str}{d:Qi}:J6 (.str z) d=true↔d= .str z:=by
 cases d <;> simp [J6];exact⟨λh=>h.symm,λh=>h.symm⟩
theorem wK{z:Str}{d:Qi}:J6 d (.str z)=true↔d= .str z:=by rw [pT];exact wJ
theorem fq{zs:List Str}{d:Qi}:dB zs d=true↔∃z∈zs,d= .str z:=by
 unfold dB;simp only [LO,wJ]
def gY(a b:Str):Prop:=a.cps.toList < b.cps.toList
theorem Ff{a b c:Str}(h:gY a b)(h':gY b c):gY a c:=OE h h'
inductive gz:Qi->Prop
 | coming:gz (.tuple [.str "coming"])
 | first {h:Str}:Nm h->gz (.tuple [.str "first",.str h])
 | last {h:Str}:Nm h->gz (.tuple [.str "last",.str h])
def units:List Str:=["days","months","years"]
inductive gZ:Qi->Prop
 | kg {w k u:Str} {s:Qi} {m:Int}:w∈(["keep","gone"]:List Str)->Nm k->gz s->0<=m->m<=999->u∈units->gZ (.tuple [.str w,.str k,s,.int m,.str u])
 | wfl {w k:Str}:w∈(["while","follow","leave"]:List Str)->Nm k->gZ (.tuple [.str w,.str k])
def iy(n:Int):Prop:=0<=n/\n<=99999
structure kQ (ms:List Str):Prop where
 len:ms.length<=4
 nm:∀m∈ms,Nm m
 up:ms.Pairwise gY
inductive c5:Qi->Prop
 | paper {n:Int} {x k:Str} {ms:List Str}:iy n->Nm x->Nm k->kQ ms->c5 (.tuple [.str "paper",.int n,.str x,.str k,.tuple (ms.map .str)])
 | two {w x y:Str} {n:Int}:w∈(["happens","leave"]:List Str)->iy n->Nm x->Nm y->c5 (.tuple [.str w,.int n,.str x,.str y])
 | rule {n:Int} {x:Str} {p:Qi}:iy n->Nm x->gZ p->c5 (.tuple [.str "rule",.int n,.str x,p])
 | one {w x:Str} {n:Int}:w∈(["end","lift"]:List Str)->iy n->Nm x->c5 (.tuple [.str w,.int n,.str x])
 | hold {n:Int} {x g y:Str} {b:Bool}:iy n->Nm x->g∈(["paper","kind"]:List Str)->Nm y->c5 (.tuple [.str "hold",.int n,.str x,.tuple [.str g,.str y],.bool b])
theorem wL{d:Qi}:eF d=true↔gz d:=by
 constructor
 ·intro h;unfold eF at h;split at h
  ·rw [wK] at h;subst h;exact .coming
  ·rw [Ks,fq] at h;obtain⟨⟨z,hz,rfl⟩,hb⟩:=h;obtain⟨y,rfl,hy⟩:=ix hb;simp only [Kh,Lk,or_false] at hz;rcases hz with rfl | rfl
   ·exact .first hy
   ·exact .last hy
  ·cases h
 ·intro h;cases h with
  | coming=>unfold eF;rw [wK]
  | first hy=>simp only [eF,hy.is,Lv];exact fq.mpr ⟨_,Qh,rfl⟩
  | last hy=>simp only [eF,hy.is,Lv];exact fq.mpr ⟨_,Qh,rfl⟩
theorem wM{m u:Qi}:jJ m u=true↔∃i z,m= .int i/\u= .str z/\0<=i/\i<=999/\z∈units:=by
 unfold jJ;rw [Ks,fq];constructor
 ·rintro⟨h,z,hz,rfl⟩;cases m <;> simp [kO] at h;exact⟨_,z,rfl,rfl,h.1,h.2,hz⟩
 ·rintro⟨i,z,rfl,rfl,h0,h1,hz⟩;exact⟨by simp [kO,h0,h1],z,hz,rfl⟩
theorem Fg{d:Qi}:dZ d=true↔gZ d:=by
 constructor
 ·intro h;unfold dZ at h;split at h
  ·rw [Ks,fq] at h;obtain⟨⟨z,hz,rfl⟩,hb⟩:=h;obtain⟨y,rfl,hy⟩:=ix hb;exact .wfl hz hy
  ·rw [Ks,Ks,Ks,fq,wL,wM] at h;obtain⟨⟨⟨z,hz,rfl⟩,hb⟩,hs,i,u,rfl,rfl,h0,h1,hu⟩:=h;obtain⟨y,rfl,hy⟩:=ix hb;exact .kg hz hy hs h0 h1 hu
  ·cases h
 ·intro h;cases h with
  | kg hw hk hs h0 h1 hu=>
   simp only [dZ,hk.is,wL.mpr hs,wM.mpr ⟨_,_,rfl,rfl,h0,h1,hu⟩,Lv];exact fq.mpr ⟨_,hw,rfl⟩
  | wfl hw hk=>simp only [dZ,hk.is,Lv];exact fq.mpr ⟨_,hw,rfl⟩
theorem qc:∀{ms:List Str},fT (ms.map .str)=true↔ms.Pairwise gY
 | []=>by simp [fT]
 | [a]=>by simp [fT]
 | a::b::r=>by
  have ih:=qc (ms:=b::r);rw [Kb,Kb,fT,Ks,<-Kb,ih];simp only [mT,decide_eq_true_eq];constructor
  ·rintro⟨h1,h2⟩;rw [K7];refine⟨λy hy=>?_,h2⟩;rcases Kh.mp hy with z | z
   ·rw [z];exact h1
   ·exact Ff h1 ((K7.mp h2).1 y z)
  ·intro h;rw [K7] at h;exact⟨h.1 b Qh,h.2⟩
theorem wN:∀{l:List Qi},l.all bZ=true->∃ms:List Str,l=ms.map .str/\∀m∈ms,Nm m
 | [],_=>⟨[],rfl,Qh⟩
 | d::r,h=>by
  rw [ND,Ks] at h;obtain⟨z,rfl,hz⟩:=ix h.1;obtain⟨ms,rfl,hm⟩:=wN h.2;exact⟨z::ms,rfl,λm hm'=>by
   rcases Kh.mp hm' with e | e
   ·rw [e];exact hz
   ·exact hm m e⟩
theorem Fh{d:Qi}:iq d=true↔∃ms:List Str,d= .tuple (ms.map .str)/\kQ ms:=by
 constructor
 ·intro h;unfold iq at h;split at h
  ·rw [Ks,Ks,decide_eq_true_eq] at h;obtain⟨h4,ha,hr⟩:=h;obtain⟨ms,rfl,hm⟩:=wN ha;exact⟨ms,rfl,by simpa using h4,hm,qc.mp hr⟩
  ·cases h
 ·rintro⟨ms,rfl,h⟩;simp only [iq,J1,decide_eq_true h.len,qc.mpr h.up,Lv,Lb,MS,Lj];exact λm hm=>(h.nm m hm).is
theorem Fi{d:Qi}:fk d=true↔∃g y,d= .tuple [.str g,.str y]/\g∈(["paper","kind"]:List Str)/\Nm y:=by
 constructor
 ·intro h;unfold fk at h;split at h
  ·rw [Ks,fq] at h;obtain⟨⟨z,hz,rfl⟩,hb⟩:=h;obtain⟨y,rfl,hy⟩:=ix hb;exact⟨z,y,rfl,hz,hy⟩
  ·cases h
 ·rintro⟨g,y,rfl,hg,hy⟩;simp only [fk,hy.is,Lv];exact fq.mpr ⟨_,hg,rfl⟩
theorem Fj{d:Qi}:gX d=true↔∃n,d= .int n/\iy n:=by
 constructor
 ·intro h;cases d <;> simp [gX] at h;exact⟨_,rfl,h.1,h.2⟩
 ·rintro⟨n,rfl,h0,h1⟩;simp [gX,h0,h1]
theorem c5.is{d:Qi}(h:c5 d):eO d=true:=by
 have dy:∀{n:Int},iy n->gX (.int n)=true:=λh=>Fj.mpr ⟨_,rfl,h⟩;have no:∀{zs:List Str}{w:Str},w ∉ zs->dB zs (.str w)=false:=λ{zs w} h=>by
  rw [NO];intro q;obtain⟨z,hz,e⟩:=fq.mp q;injection e with e;rw [e] at h;exact h hz
 have ye:∀{zs:List Str}{w:Str},w∈zs->dB zs (.str w)=true:=λh=>fq.mpr ⟨_,h,rfl⟩;have nq:∀{z w:Str},w≠z->J6 (.str w) (.str z)=false:=λ{z w} h=>by rw [fO];simpa using h
 have yq:∀{z:Str},J6 (.str z) (.str z)=true:=by intro z;rw [fO];simp
 cases h with
 | paper hn hx hk hm=>
  simp only [eO,dy hn,hx.is,Lv,Lb,iu];rw [Qe (by rw [no Qa];decide),Qe (by rw [no Qa];decide),Qe (by rw [nq Qa];decide),Qf yq];simp only [hk.is,Fh.mpr ⟨_,rfl,hm⟩,Lv]
 | two hw hn hx hy=>
  simp only [eO,dy hn,hx.is,Lv,Lb,iu];rename_i w x y n;have h1:w ∉ (["end","lift"]:List Str):=by
   simp only [Kh,Lk,or_false] at hw;rcases hw with rfl | rfl <;> decide+kernel
  rw [Qe (by rw [no h1];decide),Qf (ye hw)];exact hy.is
 | rule hn hx hp=>
  simp only [eO,dy hn,hx.is,Lv,Lb,iu];rw [Qe (by rw [no Qa];decide),Qe (by rw [no Qa];decide),Qf yq];exact Fg.mpr hp
 | one hw hn hx=>
  simp only [eO,dy hn,hx.is,Lv,Lb,iu];rw [Qf (ye hw)];rfl
 | hold hn hx hg hy=>
  simp only [eO,dy hn,hx.is,Lv,Lb,iu];rw [Qe (by rw [no Qa];decide),Qe (by rw [no Qa];decide),Qe (by rw [nq Qa];decide),Qe (by rw [nq Qa];decide),Qf yq];simp only [Fi.mpr ⟨_,_,rfl,hg,hy⟩,jI,Lv]
theorem ft{n:Nat}:∀d∈([]:List Qi),cF n d:=λd hd=>by simp at hd
theorem bF{n:Nat}{d:Qi}{r:List Qi}(h:cF n d)(hr:∀e∈r,cF n e):∀e∈d::r,cF n e:=λe he=>by
 rcases Kh.mp he with z | z
 ·rw [z];exact h
 ·exact hr e z
theorem ck{n:Nat}{x:Str}(h:KJ x=true)(hn:1<=n:=by decide):cF n (.str x):=(vS h).mono hn
theorem i5{n:Nat}{x:Int}(hn:1<=n:=by decide):cF n (.int x):=EG.mono hn
theorem Fl{n:Nat}{x:Bool}(hn:1<=n:=by decide):cF n (.bool x):=EH.mono hn
theorem qf{n:Nat}{ms:List Str}(h:∀m∈ms,KJ m=true)(hn:1<=n:=by decide):∀d∈ms.map J5,cF n d:=λd hd=>by
 obtain⟨m,hm,rfl⟩:=Kd.mp hd;exact(vS (h m hm)).mono hn
theorem gz.lay{d:Qi}(h:gz d):cF 2 d:=by
 cases h with
 | coming=>exact dY (bF (ck Qa) ft)
 | first h=>exact dY (bF (ck Qa) (bF (ck h.ok) ft))
 | last h=>exact dY (bF (ck Qa) (bF (ck h.ok) ft))
theorem fu{zs:List Str}{w:Str}(h:w∈zs)(hz:∀z∈zs,KJ z=true/\z.length<=1000):KJ w=true/\w.length<=1000:=hz w h
theorem gZ.lay{d:Qi}(h:gZ d):cF 3 d:=by
 cases h with
 | kg hw hk hs _ _ hu=>exact dY (bF (ck (fu hw Qa).1) (bF (ck hk.ok) (bF hs.lay (bF i5 (bF (ck (fu hu Qa).1) ft)))))
 | wfl hw hk=>exact(dY (n:=1) (bF (ck (fu hw Qa).1) (bF (ck hk.ok) ft))).mono Qb
theorem c5.lay{d:Qi}(h:c5 d):cF 4 d:=by
 cases h with
 | paper hn hx hk hm=>exact dY (bF (ck Qa) (bF i5 (bF (ck hx.ok) (bF (ck hk.ok) (bF ((dY (n:=1) (qf λm h=>(hm.nm m h).ok)).mono Qb) ft)))))
 | two hw hn hx hy=>exact dY (bF (ck (fu hw Qa).1) (bF i5 (bF (ck hx.ok) (bF (ck hy.ok) ft))))
 | rule hn hx hp=>exact dY (bF (ck Qa) (bF i5 (bF (ck hx.ok) (bF hp.lay ft))))
 | one hw hn hx=>exact dY (bF (ck (fu hw Qa).1) (bF i5 (bF (ck hx.ok) ft)))
 | hold hn hx hg hy=>exact dY (bF (ck Qa) (bF i5 (bF (ck hx.ok) (bF ((dY (n:=1) (bF (ck (fu hg Qa).1) (bF (ck hy.ok) ft))).mono Qb) (bF Fl ft)))))
theorem c5.shp{d:Qi}(h:c5 d):bL d:=h.lay.shp Qb
theorem bJ{d:Qi}{r:List Qi}(h:thg d=true)(hr:dM r=true):dM (d::r)=true:=by rw [dM,h,hr];rfl
theorem fw{r:List Qi}(hr:dM r=true):thg (.tuple r)=true:=by rw [thg];exact hr
theorem Nm.thg{z:Str}(h:Nm z):thg (.str z)=true:=by rw [L2.thg];exact decide_eq_true (KI h.hi Qb)
theorem fx{z:Str}(h:z.length<=1000):thg (.str z)=true:=by rw [thg];exact decide_eq_true h
theorem jL{i:Int}:thg (.int i)=true:=by rw [thg]
theorem Fm{i:Bool}:thg (.bool i)=true:=by rw [thg]
theorem Fo{ms:List Str}(h:∀m∈ms,Nm m):dM (ms.map .str)=true:=E2 λd hd=>by
 obtain⟨m,hm,rfl⟩:=Kd.mp hd;exact(h m hm).thg
theorem gz.thg{d:Qi}(h:gz d):L2.thg d=true:=by
 cases h with
 | coming=>exact fw (bJ (fx Qa) rfl)
 | first h=>exact fw (bJ (fx Qa) (bJ h.thg rfl))
 | last h=>exact fw (bJ (fx Qa) (bJ h.thg rfl))
theorem gZ.thg{d:Qi}(h:gZ d):L2.thg d=true:=by
 cases h with
 | kg hw hk hs _ _ hu=>exact fw (bJ (fx (fu hw Qa).2) (bJ hk.thg (bJ hs.thg (bJ jL (bJ (fx (fu hu Qa).2) rfl)))))
 | wfl hw hk=>exact fw (bJ (fx (fu hw Qa).2) (bJ hk.thg rfl))
theorem c5.thg{d:Qi}(h:c5 d):L2.thg d=true:=by
 cases h with
 | paper hn hx hk hm=>exact fw (bJ (fx Qa) (bJ jL (bJ hx.thg (bJ hk.thg (bJ (fw (Fo hm.nm)) rfl)))))
 | two hw hn hx hy=>exact fw (bJ (fx (fu hw Qa).2) (bJ jL (bJ hx.thg (bJ hy.thg rfl))))
 | rule hn hx hp=>exact fw (bJ (fx Qa) (bJ jL (bJ hx.thg (bJ hp.thg rfl))))
 | one hw hn hx=>exact fw (bJ (fx (fu hw Qa).2) (bJ jL (bJ hx.thg rfl)))
 | hold hn hx hg hy=>exact fw (bJ (fx Qa) (bJ jL (bJ hx.thg (bJ (fw (bJ (fx (fu hg Qa).2) (bJ hy.thg rfl))) (bJ Fm rfl)))))
theorem Fp{a b c:Qi}{l:List Qi}:bI (a::b::c::l) (some 3) none=l:=by
 rw [vE Qb (by simp only [Kt];omega)];rfl
theorem Fq{a b c:Qi}{l:List Qi}:bI (a::b::c::l) (some 1) (some 3)=[b,c]:=by
 unfold bI;rw [fP Qb (by simp only [Kt];omega),fP Qb (by simp only [Kt];omega)];rfl
end L2
namespace PySem
open Builtin
open AutoSeq1 (wpAny_loadPart')
end PySem
namespace L2
open PySem PySem.Spec PyProof.Rows PySem.W
section
variable {X:Cx} {H0:Hp} {O0:Ex}
def wO:DT:=λ_ Q=>Q (.dict [])
theorem Fs{pos:Pos}:DE X H0 O0 (.Dict [] [] pos) wO:=vM.imp λσ H Q uu11=>by obtain⟨O,δ,Qd,w,q,k⟩:=uu11;exact λp hp=>k _ _ _ q (ar.new hp) (.dct0 bq (ib w (ar.refl _) hp))
def wQ(t:DT):DT:=λδ Q=>t δ λd=>∃i,d= .int i/\Q (.int (-i))
theorem jM{e:Qn}{t:DT}{pos:Pos}(h:DE X H0 O0 e t):DE X H0 O0 (.UnaryOp .USub e pos) (wQ t):=
 (sW sY h).imp λσ H Q uu12=>by obtain⟨O,δ,Qd,w,q,k⟩:=uu12;exact⟨O,δ,_,w,q,λd v H1 uu13 s1 r1=>by obtain⟨i,e,q1⟩:=uu13;subst e;cases r1;exact⟨i,rfl,k _ _ H1 q1 s1 (.int _)⟩⟩
end
theorem Ft(n:Nat):LD none none (-1) (n:Int)=((n:Int) - 1,-1):=by
 unfold LD;rfl
theorem Fv(n:Nat):Ll ((n:Int) - 1) (-1) (-1)=n:=by
 unfold Ll;rw [Qe Qb];split
 ·rw [show(- -1:Int)=1 by decide,ON];omega
 ·omega
theorem Fw(xs:Array Qj):((KU xs.size).filterMap λ(m:Nat)=>xs[((xs.size:Int) - 1+(m:Int)*(-1)).toNat]?).toArray=xs.toList.reverse.toArray:=by
 have e:(KU xs.size).filterMap (λ(m:Nat)=>xs[((xs.size:Int) - 1+(m:Int)*(-1)).toNat]?)=((KU xs.size).map λk=>xs.size - 1 - k).filterMap (xs[·]?):=by
  have e2:((KU xs.size).map λk=>xs.size - 1 - k)=(KU xs.size).map λ(m:Nat)=>((xs.size:Int) - 1+(m:Int)*(-1)).toNat:=
   MJ λm hm=>by have:=L5.mp hm;omega
  rw [e2,Nw];rfl
 have k:=krv_pick xs;unfold slicePick at k;rw [krv_bounds] at k;have k2:((sliceRange ((xs.size:Int) - 1) (-1) (-1)).filterMap (xs[·]?)).toArray=xs.toList.reverse.toArray:=k;rw [krv_sliceRange] at k2;rw [e];exact k2
theorem Fx{prog:Qu}{w:Qw}{A:QC}{E:Qj->Ql->Prop}{s:Ql}{sl:Qk}{tk:Tok}{n:Nat}{Q:Int×Int×Nat->Ql->Prop}(hs:s.heap.IsSliceOf sl .none .none (.int (-1) tk))
 (h:Q ((n:Int) - 1,-1,n) s):Qr (Qs prog w) A (Mh (.ref sl) (pure (n:Int))) Q E s:=by
 obtain⟨os,hos,hcs,hds⟩:=id hs;unfold Mh NT;refine Qm (Qm (Rb hos hds (x:= .none) rfl (Qm (Rb hos hds (x:= .none) rfl (Qm (Rb hos hds (x:= .int (-1) tk) rfl (Qq ?_)))))));refine Qm (slicePart_int ?_);show Qr _ _ (if ((-1:Int)==0)=true then _ else _) _ _ s;rw [Qe Qb];refine Qm (Rp (Qm (Rp (Qm (Qq ?_)))));show Qr _ _ (match LD none none (-1) (n:Int) with | (lo,hi)=>pure (lo,(-1:Int),Ll lo hi (-1))) _ _ s;rw [Ft];show Qr _ _ (pure ((n:Int) - 1,(-1:Int),Ll ((n:Int) - 1) (-1) (-1))) _ _ s;rw [Fv];exact Qq h
theorem Fy{prog:Qu}{w:Qw}{A:QC}{E:Qj->Ql->Prop}{s:Ql}{t sl:Qk}{items:Array Qj}{tk:Tok}{Q:Qj->Ql->Prop}(ht:IsTup s.heap t items)(hs:s.heap.IsSliceOf sl .none .none (.int (-1) tk))(hz:items.size<=Qp)
 (h:Q (.ref s.heap.objs.size) {s with heap:=s.heap.push {cls:= .type "tuple",data:= .seq items.toList.reverse.toArray}}):Qr (Qs prog w) A (QX (.ref t) (.ref sl)) Q E s:=by
 have htake:sizeOk (.seq items.toList.reverse.toArray):=by
  show items.toList.reverse.toArray.size<=Qp;rw [Ke,Nt,KZ];exact hz
 obtain⟨os,hos,hcs,hds⟩:=id hs;have hTs:s.TypeIs (.ref sl) "slice":=⟨os,hos,hcs⟩;unfold QX
 try with_reducible refine QH ?_
 first | refine Qm (Qq ?_) | skip
 refine Qm (Rv ht.typeIs Qb ?_);refine Qm (Ra (name:=J4 "__getitem__") ht.typeIs Lr
  (Q1 Lr ht.typeIs Nb ?_ (Nh _ _)))
 show Qr _ _ (MH (.ref t) >>=_) _ _ s;refine Qm (tupleItemsOf_ ht ?_);refine Qm (Q6 hTs ?_);rw [Qf Qb];refine Qm (Fx hs ?_);show Qr _ _ (if (((items.size:Int) - 1)==0 && (-1:Int)==1 && items.size==items.size)=true then _ else _) _ _ s;rw [Qe Qh,Fw]
 first
  | exact Qm (m:=Lo _) (QL (Qq ⟨_,rfl,Qq h⟩) htake)
  | exact Qm (m:=Lo _) (QL (Qm (Qq (Qq ⟨_,rfl,Qq h⟩))) htake)
  | exact Qm (Qm (m:=Lo _) (QL (Qq (Qq ⟨_,rfl,Qq h⟩)) htake))
  | exact Qm (Qm (m:=Lo _) (QL (Qq ⟨_,rfl,Qq h⟩) htake))
section
variable {X:Cx} {H0:Hp} {O0:Ex}
theorem Fz{e:Qn}{te:TE}{pos p2 up cp:Pos}{j}(he:PE X e te):PE X (.Subscript e (.Slice none none (some (.UnaryOp .USub (.Constant (.int 1) j cp) up)) p2) pos) (λσ H Q=>te σ H λx H1=>∃a xs,x= .ref a/\bg X.K H1 a xs/\∀p,H1 p=none->Q (.ref p) (aq H1 p (.tup xs.reverse))):=by
 intro RB s σ H Q I h;refine Subscript_ (aA (he RB s σ H _ I h) λv s1 ⟨x,H1,I1,r1,q1⟩=>?_);obtain⟨a,xs,rfl,hq,q⟩:=q1;cases r1;refine wpAny_Slice ?_;rw [evalPart_none];refine Qq (Qq ?_);rw [evalPart_some];refine aA (sW sY cq RB s1 σ H1 (λx H2=>x= .int (-1)/\H2=H1) I1 ⟨1,rfl,rfl,rfl⟩) λvk s3 ⟨x3,H3,I3,r3,e3,e4⟩=>?_;subst e3 e4;obtain⟨tk,rfl⟩:=r3;have I4:af X RB σ H3 {s3 with heap:=s3.heap.push {cls:= .type "slice",data:= .fields #[.none,.none,.int (-1) tk]}}:=I3.kept (t':=s3.toks) λb ob q=>J9 _ q;show Qr (Qs X.prog X.w) X.A (Rt e (.Slice none none (some (.UnaryOp .USub (.Constant (.int 1) j cp) up)) p2) (.ref a) (.ref s3.heap.objs.size)) (EP X RB σ Q) X.xe {s3 with heap:=s3.heap.push {cls:= .type "slice",data:= .fields #[.none,.none,.int (-1) tk]}};obtain⟨its,r,ht,hz⟩:=I4.tuple hq;have hlen:=r.length;refine tail_any (ops:=[.ref a,.ref s3.heap.objs.size]) ht.typeIs Lr.lookup ?_ (by with_unfolding_all rfl);refine Fy ht (OO ..) (by rw [Ke];omega) ?_;refine⟨.ref _,_,I4.laid (t':=s3.toks) (o:= .tup xs.reverse) (λb ob q=>J9 _ q) (J8 _) ?_,rfl,q _ (I4.hok.fresh (J8 _))⟩;exact⟨by rw [Nt];exact hz,_,(show aD xs.reverse its.reverse from Ea r),Ob _ _⟩
def wR(t:DT):DT:=λδ Q=>t δ λd=>∃xs,d= .tuple xs/\Q (.tuple xs.reverse)
theorem FA{e:Qn}{t:DT}{pos p2 up cp:Pos}{j}(h:DF X H0 O0 e t):DE X H0 O0 (.Subscript e (.Slice none none (some (.UnaryOp .USub (.Constant (.int 1) j cp) up)) p2) pos) (wR t):=
 (Fz h).imp λσ H Q uu16=>by obtain⟨O,δ,Qd,w,q,k⟩:=uu16;exact⟨O,δ,_,w,q,λd v H1 uu17 s1 r1=>by
  obtain⟨xs,e,q1⟩:=uu17;subst e;obtain⟨a,us,rfl,h1,d1⟩:=r1.tup;exact⟨a,us,rfl,h1,λp hp=>k _ _ _ q1 (s1.trans (ar.new hp)) (.tup (.inl bq) (ib w s1 hp) (d1.reverse.mono (ar.new hp)))⟩⟩
end
section
variable {x:Option Qn} {n:Nat} {env:Env}
theorem FC{a b}:QK (.List a b) x n env=pure false:=rfl
theorem FD{a b c}:QK (.Tuple a b c) x n env=pure false:=rfl
theorem kR{a b c d}:QK (.BinOp a b c d) x n env=pure false:=rfl
theorem iz{a b c d}:QK (.Call a b c d) x n env=pure false:=rfl
theorem iA{a b c}:QK (.Subscript a b c) x n env=pure false:=rfl
theorem FF{a b c}:QK (.Dict a b c) x n env=pure false:=rfl
end
section
variable {X:Cx} {H0:Hp} {O0:Ex}
def wU:DS:=λ_ _=>False
theorem jN{st:Qx}:PS X st (bp X.K H0 O0 wU):=BU.imp λD σ H uu18=>by obtain⟨O,δ,E,w,q,_,_,_,_⟩:=uu18;exact q.elim
end
section
variable {α:Type} {P:α->Prop}
theorem wV{a:Qi}{r:Dl}{P:Qi->Prop}:cL 0 (some (Sl.v a)::r) P=P a:=rfl
theorem FG{x:Option Sl}{r:Dl}{i:Nat}{P:Qi->Prop}:cL (i+1) (x::r) P=cL i r P:=rfl
theorem FH{a:List Qi}{r:Dl}{P:List Qi->Prop}:(∃d,(some (Sl.o a)::r)[0]?=some (some (Sl.o d))/\P d)=P a:=Qh
theorem FI{x:Option Sl}{r:Dl}{i:Nat}{P:List Qi->Prop}:(∃d,(x::r)[i+1]?=some (some (Sl.o d))/\P d)=(∃d,r[i]?=some (some (Sl.o d))/\P d):=Qh
theorem FJ{a:Bool}{P:Bool->Prop}:(∃b,Lm a= .bool b/\P b)=P a:=Qh
theorem FK{a:Int}{P:Int->Prop}:(∃b,J7 a= .int b/\P b)=P a:=Qh
theorem FL{a:Str}{P:Str->Prop}:(∃b,J5 a= .str b/\P b)=P a:=Qh
theorem FN{a:List Qi}{P:List Qi->Prop}:(∃b,Kl a= .tuple b/\P b)=P a:=Qh
theorem FO{a:List Qi}{P:List Qi->Prop}:(∃b,L9 a= .list b/\P b)=P a:=Qh
theorem FP{a b:Int}{P:Int->Int->Prop}:(∃i j,J7 a= .int i/\J7 b= .int j/\P i j)=P a b:=Qh
theorem FQ{a b:Str}{P:Str->Str->Prop}:(∃i j,J5 a= .str i/\J5 b= .str j/\P i j)=P a b:=Qh
theorem FT{a b:List Qi}{P:List Qi->List Qi->Prop}:(∃i j,Kl a= .tuple i/\Kl b= .tuple j/\P i j)=P a b:=Qh
theorem FU{a b:List Qi}{P:List Qi->List Qi->Prop}:(∃i j,L9 a= .list i/\L9 b= .list j/\P i j)=P a b:=Qh
theorem FV{a:Qi}{r:List Qi}{P:Qi->List Qi->Prop}:(∃x y,a::r=x::y/\P x y)=P a r:=propext ⟨λuu19=>by obtain⟨_,_,e,p⟩:=uu19;cases e;exact p,λp=>⟨_,_,rfl,p⟩⟩
theorem FW{a b:Qi}{P:Qi->Qi->Prop}:(∃x y,[a,b]=[x,y]/\P x y)=P a b:=propext ⟨λuu20=>by obtain⟨_,_,e,p⟩:=uu20;cases e;exact p,λp=>⟨_,_,rfl,p⟩⟩
theorem FX{a:Qi}{r:List Qi}{P:Qi->Prop}:(∃ds i d,Kl (a::r)= .tuple ds/\J7 0= .int i/\atI ds i=some d/\P d)=P a:=by simp [cM]
theorem FY{a b:Qi}{r:List Qi}{P:Qi->Prop}:(∃ds i d,Kl (a::b::r)= .tuple ds/\J7 1= .int i/\atI ds i=some d/\P d)=P b:=by simp [cx]
theorem FZ{a b c:Qi}{r:List Qi}{P:Qi->Prop}:(∃ds i d,Kl (a::b::c::r)= .tuple ds/\J7 2= .int i/\atI ds i=some d/\P d)=P c:=by simp [ig]
theorem F0{a b c e:Qi}{r:List Qi}{P:Qi->Prop}:(∃ds i d,Kl (a::b::c::e::r)= .tuple ds/\J7 3= .int i/\atI ds i=some d/\P d)=P e:=by simp [iW]
theorem F1{xs:List Qi}{k:Int}{P:Qi->Prop}:(∃ds i d,Kl xs= .tuple ds/\J7 k= .int i/\atI ds i=some d/\P d)=(∃d,atI xs k=some d/\P d):=Qh
theorem F2{xs:List Qi}{k:Int}{P:Qi->Prop}:(∃ds i d,L9 xs= .list ds/\J7 k= .int i/\atI ds i=some d/\P d)=(∃d,atI xs k=some d/\P d):=Qh
end
theorem F3{w v:Str}{r:List Qi}{l:Dl}{Q:Bool->Prop}:gm (fi mQ (fi mH (cL 0) (dC (.int 0))) (dC (.str v))) (some (.v (.tuple (.str w::r)))::l) Q=Q (w==v):=by
 simp [gm,fi,mQ,mH,wV,dC,cM,bQ,fO]
def fU:ah->Qi
 | .inl i=>.int i
 | .inr x=>.str x
def cP(kd:List (ah×Qi))(k:ah):Option Qi:=(kd.find? λp=>decide (p.1=k)).map (·.2)
def dN(kd:List (ah×Qi))(k:ah)(d:Qi):List (ah×Qi):=if (kd.any λp=>decide (p.1=k))=true then kd.map (λp=>if p.1=k then(p.1,d) else p) else kd++[(k,d)]
section
variable {K:J0} {H:Hp} {O:Ex}
theorem Dt.key{v:V}{k:ah}(h:Dt K H O v (fU k)):v=kV k:=by
 cases k with
 | inl i=>cases h;rfl
 | inr x=>cases h;rfl
theorem bo.val{kv:List (ah×V)}{kd:List (ah×Qi)}(h:bo K H O kv kd)(k:ah):(cU kv k=none/\cP kd k=none)\/∃v d,cU kv k=some v/\cP kd k=some d/\Dt K H O v d:=by
 induction h with
 | nil=>exact .inl ⟨rfl,rfl⟩
 | @cons j v d r s a _ ih=>
  by_cases e:j=k
  ·exact .inr ⟨v,d,kH e,by simp [cP,LB,e],a⟩
  ·rw [jG e,show cP ((j,d)::s) k=cP s k by simp [cP,LB,e]];exact ih
theorem bo.any{kv:List (ah×V)}{kd:List (ah×Qi)}(h:bo K H O kv kd)(k:ah):(kv.any λp=>decide (p.1=k))=(kd.any λp=>decide (p.1=k)):=by
 induction h with
 | nil=>rfl
 | cons a _ ih=>simp only [LN,ih]
theorem bo.length{kv:List (ah×V)}{kd:List (ah×Qi)}(h:bo K H O kv kd):kv.length=kd.length:=by
 induction h with
 | nil=>rfl
 | cons a _ ih=>simp only [Kt,ih]
theorem bo.append{kv kv':List (ah×V)}{kd kd':List (ah×Qi)}(h:bo K H O kv kd)(h':bo K H O kv' kd'):bo K H O (kv++kv') (kd++kd'):=by
 induction h with
 | nil=>exact h'
 | cons a _ ih=>exact .cons a ih
theorem bo.repl{kv:List (ah×V)}{kd:List (ah×Qi)}(h:bo K H O kv kd)(k:ah){v:V}{d:Qi}(hv:Dt K H O v d):bo K H O (kv.map λp=>if p.1=k then(p.1,v) else p) (kd.map λp=>if p.1=k then(p.1,d) else p):=by
 induction h with
 | nil=>exact .nil
 | @cons j u e r s a _ ih=>
  simp only [Kb];by_cases z:j=k
  ·rw [Qf z,Qf z];exact .cons hv ih
  ·rw [Qe z,Qe z];exact .cons a ih
theorem bo.put{kv:List (ah×V)}{kd:List (ah×Qi)}(h:bo K H O kv kd)(k:ah){v:V}{d:Qi}(hv:Dt K H O v d):bo K H O (putK kv k v) (dN kd k d):=by
 unfold putK dN;rw [h.any k];split
 ·exact h.repl k hv
 ·exact h.append (.cons hv .nil)
end
section
variable {X:Cx} {H0:Hp} {O0:Ex}
abbrev i6:=Dl->(List (ah×Qi)->Prop)->Prop
inductive wX (K:J0) (H0:Hp) (O0:Ex) (t:i6) (σ:St) (H:Hp) (R:VK):Prop
 | mk (O:Ex) (δ:Dl) (Qd:List (ah×Qi)->Prop):Wd K H0 O0 H O σ δ->t δ Qd->(∀kd kv p H',Qd kd->ar H H'->H' p=none->bo K H' O kv kd->R (.ref p) (aq H' p (.dK kv)))->wX K H0 O0 t σ H R
abbrev KE(X:Cx)(H0:Hp)(O0:Ex)(e:Qn)(t:i6):Prop:=PE X e (wX X.K H0 O0 t)
def wY:i6:=λ_ Q=>Q []
theorem qg{pos:Pos}:KE X H0 O0 (.Dict [] [] pos) wY:=vM.imp λσ H Q uu21=>by obtain⟨O,δ,Qd,w,q,k⟩:=uu21;exact λp hp=>k [] [] p H q (ar.refl _) hp .nil
def wZ(i:Nat)(t:i6):DS:=λE δ=>t δ λkd=>E.nx (δ.set i (some (.k kd)))
theorem kT{i:Nat}{x:Str}{e:Qn}{t:i6}{pos pos':Pos}(hN:X.N.Nodup)(hi:X.N[i]?=some x)(hx:fD X.env.scope x)(he:KE X H0 O0 e t)(hs:QK e (some (.Name x pos')) pos.line X.env=pure false:=by rfl)(hf:X.fn x=true\/X.env.scope.names.lookup x=some .local:=by first | exact .inl rfl | exact .inr rfl | assumption):
 PS X (.Assign [.Name x pos'] e pos) (bp X.K H0 O0 (wZ i t)):=
 (iK hN hi hx he hs hf).imp λD σ H ⟨O,δ,E,w,q,k1,k2,k3,k4⟩=>⟨O,δ,_,w,q,λds vs p H1 q1 s1 hp r1=>k1 _ _ _ _ q1 ((w.mono s1).setK hp r1)
  ⟨λb o e _=>(s1.trans (ar.new hp)) b o e,λb e n z=>z.elim n λy=>by
   cases q:H b with
   | none=>exact e q
   | some o=>have:=s1 _ _ q;rw [y,hp] at this;cases this⟩⟩
def w6(i:Nat)(tk tv:DT):DS:=λE δ=>tv δ λd=>∃kd,δ[i]?=some (some (.k kd))/\tk δ λy=>∃k,y=fU k/\kd.length < Qp/\E.nx (δ.set i (some (.k (dN kd k d))))
theorem qh{i:Nat}{o e v:Qn}{tk tv:DT}{pos pos':Pos}(hu:X.A.units+64 < QD)(ho:PE X o (dh i))(he:DE X H0 O0 e tk)(hv:DE X H0 O0 v tv)(hs:QK v (some (.Subscript o e pos')) pos.line X.env=pure false:=by rfl):
 PS X (.Assign [.Subscript o e pos'] v pos) (bp X.K H0 O0 (w6 i tk tv)):=
 (En Qc ho he hv hs).imp λD σ H ⟨O,δ,E,w,q,k1,k2,k3,k4⟩=>⟨O,δ,_,w,q,λd u H1 uu24 s1 r1=>by
  obtain⟨kd,e,qk⟩:=uu24;have w1:=w.mono s1;obtain⟨l,kv,h,a,b,c,r⟩:=w1.ownK e;refine⟨.ref l,h,O,δ,_,w1,qk,λy uy H2 ⟨k,ek,hl,q2⟩ s2 r2=>?_⟩;subst ek;obtain rfl:=r2.key;refine⟨l,_,rfl,kI.k (s2 _ _ c) (by rw [r.length];exact hl),k1 _ _ _ _ q2 ((w1.mono s2).putK e h ((r.mono s2).put k (r1.mono s2))) ⟨λb' o' z n=>?_,λ_ _ n=>n⟩⟩;rw [aH (λy=>n (by rw [y];exact a))];exact(s1.trans s2) _ _ z⟩
def xa(i:Nat)(tk:DT):DT:=λδ Q=>∃kd,δ[i]?=some (some (.k kd))/\tk δ λy=>∃k d,y=fU k/\cP kd k=some d/\Q d
theorem bo.got{K:J0}{H:Hp}{O:Ex}{kv:List (ah×V)}{kd:List (ah×Qi)}(h:bo K H O kv kd){k:ah}{d:Qi}(e:cP kd k=some d):∃v,cU kv k=some v/\Dt K H O v d:=by
 rcases h.val k with⟨_,z⟩ | ⟨v,d',a,b,c⟩
 ·rw [e] at z;cases z
 ·rw [e] at b;cases b;exact⟨v,a,c⟩
theorem bo.none{K:J0}{H:Hp}{O:Ex}{kv:List (ah×V)}{kd:List (ah×Qi)}(h:bo K H O kv kd){k:ah}:(cU kv k).isSome=(cP kd k).isSome:=by
 rcases h.val k with⟨y,z⟩ | ⟨v,d',a,b,c⟩
 ·rw [y,z];rfl
 ·rw [a,b];rfl
theorem kU{i:Nat}{o e:Qn}{tk:DT}{pos:Pos}(hu:X.A.units+64 < QD)(ho:PE X o (dh i))(he:DE X H0 O0 e tk)(hs:mM e):DE X H0 O0 (.Subscript o e pos) (xa i tk):=
 (vJ Qc ho he hs).imp λσ H Q uu26=>by
  obtain⟨O,δ,Qd,w,⟨kd,e,q⟩,k⟩:=uu26;obtain⟨l,kv,h,a,b,c,r⟩:=w.ownK e;refine⟨.ref l,h,O,δ,_,w,q,λy uy H2 ⟨ky,d,ek,ev,q2⟩ s2 r2=>?_⟩;subst ek;obtain rfl:=r2.key;obtain⟨v,hv,dv⟩:=r.got ev;exact⟨l,v,rfl,by rw [<-hv];exact cy.k (s2 _ _ c),k _ _ _ q2 s2 (dv.mono s2)⟩
def xb(i:Nat)(tk:DT):DT:=λδ Q=>∃kd,δ[i]?=some (some (.k kd))/\tk δ λy=>∃k,y=fU k/\Q ((cP kd k).getD .none)
theorem xc{i:Nat}{o e:Qn}{tk:DT}{apos cpos:Pos}(hu:X.A.units+64 < QD)(ho:PE X o (dh i))(he:DE X H0 O0 e tk)(m:M1 X o "get" apos e cpos):DE X H0 O0 (.Call (.Attribute o "get" apos) [e] [] cpos) (xb i tk):=
 (vP Qc ho he m).imp λσ H Q uu28=>by
  obtain⟨O,δ,Qd,w,⟨kd,e,q⟩,k⟩:=uu28;obtain⟨l,kv,h,a,b,c,r⟩:=w.ownK e;refine⟨.ref l,h,l,rfl,.inl ⟨kv,.inl c⟩,O,δ,_,w,q,λy uy H2 ⟨ky,ek,q2⟩ s2 r2=>?_⟩;subst ek;obtain rfl:=r2.key;refine⟨_,cy.k (s2 _ _ c),k _ _ _ q2 s2 ?_⟩;rcases r.val ky with⟨y,z⟩ | ⟨v,d',a',b',c'⟩
  ·rw [y,z];exact .non
  ·rw [a',b'];exact c'.mono s2
def kW(neg:Bool)(i:Nat)(tk:DT):DT:=λδ Q=>tk δ λy=>∃k,y=fU k/\∃kd,δ[i]?=some (some (.k kd))/\Q (.bool (if neg then !(cP kd k).isSome else(cP kd k).isSome))
theorem F4{i:Nat}{o e:Qn}{tk:DT}(hu:X.A.units+64 < QD)(ho:PE X o (dh i))(he:DE X H0 O0 e tk):PC X .In e o (up X.K H0 O0 (kW false i tk)):=λRB s σ H Q I ⟨O,δ,Qd,w,q,k⟩=>
 vK Qc he ho RB s σ H Q I ⟨O,δ,_,w,q,λy uy H2 uu31 s2 r2=>by
  obtain⟨ky,ek,kd,e,q2⟩:=uu31;subst ek;obtain rfl:=r2.key;obtain⟨l,kv,h,a,b,c,r⟩:=(w.mono s2).ownK e;exact⟨.ref l,h,l,_,rfl,cy.k c,by rw [r.none];exact k _ _ _ q2 s2 (.bl _)⟩⟩
theorem F5{i:Nat}{o e:Qn}{tk:DT}(hu:X.A.units+64 < QD)(ho:PE X o (dh i))(he:DE X H0 O0 e tk):PC X .NotIn e o (up X.K H0 O0 (kW true i tk)):=λRB s σ H Q I ⟨O,δ,Qd,w,q,k⟩=>
 Em Qc he ho RB s σ H Q I ⟨O,δ,_,w,q,λy uy H2 uu33 s2 r2=>by
  obtain⟨ky,ek,kd,e,q2⟩:=uu33;subst ek;obtain rfl:=r2.key;obtain⟨l,kv,h,a,b,c,r⟩:=(w.mono s2).ownK e;exact⟨.ref l,h,l,_,rfl,cy.k c,by rw [r.none];exact k _ _ _ q2 s2 (.bl _)⟩⟩
end
open PySem PySem.Spec PyProof.Rows PySem.W PySem.Calls
theorem F6{prog:Qu}{w:Qw}{A:QC}{E:Qj->Ql->Prop}{s:Ql}{T:String}{r d:Qk}{n:Nat}{P:Nat->Qj->Prop}{OK:Qy->Prop}{ss:List Str}{Q:Qj->Ql->Prop}
 (K:KdlSrc prog w T r d n P OK)(hh:A.handled=none)(hok:OK s.heap)(hn:n < 64)(hP:∀vs:List Qj,vs.length=n->(∀j v,vs[j]?=some v->P j v)->StrsAre vs ss)
 (h:∀(h' h2:Qy) (tk:Nat) (out:Array Qj) (e:Nat) (ss':List Str),(∀b o,s.heap.get? b=some o->h'.get? b=some o)->(∀b o,h'.get? b=some o->h2.get? b=some o)->h2.get? h'.objs.size=some (QE "list" out e)->StrsAre out.toList ss'->ss'.Perm ss->sortedS ss'=true->Q (.ref h'.objs.size) {s with heap:=h2,toks:=tk}):
 Qr (Qs prog w) A (call (.builtin "sorted") [.ref r]) Q E s:=by
 refine NV kind_sorted plain_sorted entry_sorted (args_sorted1 _) ?_;unfold Builtin.«sorted»;refine Qm (m:=checkCount "sorted" 1 1 _) (Qq ?_);refine Qm (kdu_collect (A:=A.in1) K hh hok (KI (Mp hn) Qb) λh' tk acc hk hacc=>?_);have hl:acc.toList.length=n:=by rw [KZ];exact hacc.1
 refine Qm (Rj ?_);have hS:=hP acc.toList hl (λj v e=>hacc.2 j v (by rw [<-Ol];exact e));have hoL:(h'.push (QE "list" acc.toList.toArray 0)).get? h'.objs.size=some (QE "list" acc.toList.toArray 0):=KN _ rfl;refine Qm (QH (Q1 slot_list_sort ⟨_,hoL,rfl⟩ entry_list_sort (list_sort_treeK (s:={s with heap:=h'.push (QE "list" acc.toList.toArray 0),toks:=tk}) strKind_oneLt hoL hS.keysOf (λv₁ v₂ rest e=>keyKind_strs (by rw [<-e];exact hS)) (by rw [hl];exact hn) λst' a1 a2=>⟨_,rfl,?_⟩) (args_list_sort _)));obtain⟨ss',h1,h2,h3⟩:=sorted_out_str hS a1 a2;obtain⟨e,he⟩:=sortedHeap_at (n:=0) (vs:=acc.toList) (out:=(arrOf st').map (·.2)) hoL;refine Qq ⟨_,rfl,h h' _ tk _ e ss' hk (λb o q=>?_) he h1 h2 h3⟩;have hlt:b < h'.objs.size:=Km q;rw [sortedHeap_old (KH hlt) (by rw [size_push'];exact NL hlt),Heap.get?_push_ne _ _ _ (KH hlt)];exact q
theorem xf{P:Qu}{w:Qw}:∀{ss:List Str}{vs:List Qj},vs.length=ss.length->(∀(j:Nat)(v:Qj),vs[j]?=some v->∃x:Str,ss[j]?=some x/\(bS P w).is (.inr x) v=true)->StrsAre vs ss
 | [],[],_,_=>.nil
 | x::ss,v::vs,hl,h=>by
  obtain⟨y,e,k⟩:=h 0 v rfl;cases e;rcases fC (k:= .inr x) (v:=v) k with⟨i,t,e,_⟩ | ⟨z,t,e,ev⟩
  ·cases e
  ·cases e;subst ev;exact .cons x t (xf (by simpa using hl) λj v e=>h (j+1) v e)
theorem xh{X:Cx}:cT X (.builtin "sorted") (λxs H Q=>X.calm=true/\∃a kv ss,xs=[.ref a]/\Rd H a (.dK kv)/\kv.map (·.1)=ss.map Lg/\ss.length < 64/\∀l,H l=none->Q (.ref l) (aq H l (.lst ((cG ss).map V.str)))):=by
 intro RB s σ H xs us Q I r h;obtain⟨hc,a,kv,ss,rfl,ha,hk,h64,q⟩:=h;obtain⟨u,rfl,rx⟩:=cW r;cases rx;obtain⟨hz,lo,vs,rel,dd⟩:=gT I.hok ha;obtain⟨ep,da⟩:=dd.dictAt;have hlen:vs.length=ss.length:=by rw [<-rel.length,<-J1 (f:=(·.1)),hk,J1]
 refine F6 (ss:=ss) (kdl_dict (kvs:=vs) (ep:=ep) lo) (I.ok.hd hc) da Qc (λus hl hp=>xf (P:=X.prog) (w:=X.w) Qc λj v e=>?_) λh' h2 tk out e ss' k1 k2 nX s1 s2 s3=>?_
 ·obtain⟨k,x,ek,kk⟩:=hp j v e;have e1:(vs.map (·.1))[j]?=some k:=by rw [Kj,ek];rfl
  rw [<-rel.keys,hk,Kj] at e1;cases es:ss[j]? with
  | none=>rw [es] at e1;cases e1
  | some y=>rw [es] at e1;cases e1;exact⟨y,rfl,kk⟩
 ·have es:ss'=cG ss:=we s2 (wj _ s3);subst es;have hl2:(cG ss).length=ss.length:=s2.length_eq;have I1:af X RB σ H {s with heap:=h',toks:=tk}:=I.kept (t':=tk) k1;refine⟨.ref _,_,I1.laid (t':=tk) (o:= .lst ((cG ss).map V.str)) k2 (J8 _) ?_,rfl,q _ (I1.hok.fresh (J8 _))⟩;refine⟨by rw [J1,hl2];exact KI (Mp h64) Qb,out.toList,e,pZ s1,?_⟩;rw [nX]
theorem bo.keys{K:J0}{H:Hp}{O:Ex}{kv:List (ah×V)}{kd:List (ah×Qi)}(h:bo K H O kv kd):kv.map (·.1)=kd.map (·.1):=by
 induction h with
 | nil=>rfl
 | cons a _ ih=>simp only [Kb,ih]
section
variable {X:Cx} {H0:Hp} {O0:Ex}
def xi(i:Nat):DA:=λδ Q=>∃kd,δ[i]?=some (some (.k kd))/\∃ss:List Str,kd.map (·.1)=ss.map Lg/\ss.length < 64/\Q ((cG ss).map .str)
theorem xj{i:Nat}{o:Qn}{np p:Pos}(hc:X.calm=true)(hg:Gl X "sorted")(hm:X.mg "sorted"=none)(hv:QB "sorted"=some (.builtin "sorted"))(ho:PE X o (dh i))(he:Qo [o] X.env=(false,eval o X.env)::Qo [] X.env:=by rfl)(hpl:(QJ p (Qo [] X.env)).any (·.1)=false:=by rfl):
 FE X H0 O0 (.Call (.Name "sorted" np) [o] [] p) (xi i):=
 (aS xh hg hm hv (cC ho dE he) (he:=he) (hpl:=hpl)).imp λσ H Q uu34=>by
  obtain⟨O,δ,Qd,w,⟨kd,e,ss,ek,h64,q⟩,k⟩:=uu34;obtain⟨l,kv,h,a,b,c,r⟩:=w.ownK e;exact⟨.ref l,h,hc,l,kv,ss,rfl,.inl c,by rw [r.keys];exact ek,h64,λp hp=>k _ _ _ _ q (ar.refl _) hp (ai.ofStrs _)⟩
theorem JY{i:Nat}{o e:Qn}{tk:DT}{pos:Pos}(hu:X.A.units+64 < QD)(ho:PE X o (dh i))(he:DE X H0 O0 e tk)(hm:QG .In o=false:=by rfl):PT X (.Compare e [.In] [o] pos) (bM X.K H0 O0 (gm (kW false i tk))):=
 (om (F4 hu ho he) hm).imp λσ H Q uu35=>by obtain⟨O,δ,Qd,w,q,k⟩:=uu35;exact⟨O,δ,_,w,q,λd v H' uu36 s r=>by obtain⟨b,e,qb⟩:=uu36;subst e;cases r;exact⟨b,rfl,k b H' qb s⟩⟩
theorem xk{i:Nat}{o e:Qn}{tk:DT}{pos:Pos}(hu:X.A.units+64 < QD)(ho:PE X o (dh i))(he:DE X H0 O0 e tk)(hm:QG .NotIn o=false:=by rfl):PT X (.Compare e [.NotIn] [o] pos) (bM X.K H0 O0 (gm (kW true i tk))):=
 (om (F5 hu ho he) hm).imp λσ H Q uu37=>by obtain⟨O,δ,Qd,w,q,k⟩:=uu37;exact⟨O,δ,_,w,q,λd v H' uu38 s r=>by obtain⟨b,e,qb⟩:=uu38;subst e;cases r;exact⟨b,rfl,k b H' qb s⟩⟩
end
section
theorem F7{a:List (ah×Qi)}{r:Dl}{P:List (ah×Qi)->Prop}:(∃d,(some (Sl.k a)::r)[0]?=some (some (Sl.k d))/\P d)=P a:=Qh
theorem F8{x:Option Sl}{r:Dl}{i:Nat}{P:List (ah×Qi)->Prop}:(∃d,(x::r)[i+1]?=some (some (Sl.k d))/\P d)=(∃d,r[i]?=some (some (Sl.k d))/\P d):=Qh
theorem F9{a:List (ah×Qi)}{l:Dl}{i:Nat}{P:List (ah×Qi)->Prop}:(∃d,(l.set i (some (Sl.k a)))[i]?=some (some (Sl.k d))/\P d)=(i < l.length/\P a):=by
 apply propext;rw [List.getElem?_set_self'];constructor
 ·rintro⟨d,e,p⟩;by_cases h:i < l.length
  ·rw [Kc h] at e;cases e;exact⟨h,p⟩
  ·rw [Nd Qc] at e;cases e
 ·rintro⟨h,p⟩;exact⟨a,by rw [Kc h];rfl,p⟩
theorem Ga{x:Option Sl}{l:Dl}{i j:Nat}{P:List (ah×Qi)->Prop}(h:i≠j):(∃d,(l.set i x)[j]?=some (some (Sl.k d))/\P d)=(∃d,l[j]?=some (some (Sl.k d))/\P d):=by rw [KC h]
theorem Gb{x:Str}{P:ah->Prop}:(∃k,J5 x=fU k/\P k)=P (.inr x):=propext ⟨λuu39=>by obtain⟨k,e,p⟩:=uu39;cases k with | inl i=>cases e | inr y=>cases e;exact p,λp=>⟨_,rfl,p⟩⟩
end
def jO:Qi->Bool
 | .none=>true
 | _=>false
def xm:Qi->Qi->(Qi->Prop)->Prop:=λx y Q=>y= .none/\Q (.bool (jO x))
theorem Sh.isN{K:J0}{H:Hp}{O:Ex}{x:V}{d:Qi}(h:Sh K H O x d):decide (x= .non)=jO d:=by
 cases h with
 | dt h=>cases h <;> simp [jO]
 | _=>simp [jO]
theorem Gd{K:J0}:bG K (λx y H Q=>y= .non/\Q (.bl (decide (x= .non))) H) xm:=λH O x y dx dy Qd R _ hx hy uu40 k=>by
 obtain⟨e,q⟩:=uu40;subst e;refine⟨hy.non,?_⟩;rw [hx.isN];exact k _ _ H q (ar.refl _) (.bl _)
def xn:Qi->Qi->(Qi->Prop)->Prop:=λx y Q=>∃ds i d,x=dS ds/\y= .int i/\atI ds i=some d/\Q d
theorem Ge{K:J0}:bG K (l4 K) xn:=λH O x y dx dy Qd R _ hx hy uu41 k=>by
 obtain⟨ds,i,d,e1,e2,e3,q⟩:=uu41;subst e1 e2;obtain⟨a,vs,rfl,hs,r⟩:=hx.scr;cases hy.int;obtain⟨v,hv,rv⟩:=r.atI e3;exact⟨a,vs,i,v,rfl,rfl,hs,hv,k d v H q (ar.refl _) rv⟩
section
variable {X:Cx} {H0:Hp} {O0:Ex}
def xo(t:DT)(tl th:DO):DA:=λδ Q=>t δ λd=>tl δ λl=>th δ λu=>∃xs,d=dS xs/\Q (bI xs l u)
theorem Gf{e:Qn}{lo hi:Option Qn}{t:DT}{tl th:DO}{pos p2:Pos}(h:DF X H0 O0 e t)(hl:PO X lo (fN X.K H0 O0 tl))(hu:PO X hi (fN X.K H0 O0 th)):FE X H0 O0 (.Subscript e (.Slice lo hi none p2) pos) (xo t tl th):=
 (l3 tQ h hl hu).imp λσ H Q uu42=>by obtain⟨O,δ,Qd,w,q,k⟩:=uu42;exact⟨O,δ,_,w,q,λd v H1 q1 s1 r1=>⟨O,δ,_,w.mono s1,q1,λl H2 q2 s2=>⟨O,δ,_,w.mono (s1.trans s2),q2,λu H3 uu43 s3=>by
  obtain⟨xs,e,q3⟩:=uu43;subst e;obtain⟨a,vs,rfl,h1,d1⟩:=(r1.mono (s2.trans s3)).scr;exact⟨a,vs,rfl,h1,λp hp=>k _ _ _ _ q3 (s1.trans (s2.trans s3)) hp (d1.cut l u)⟩⟩⟩⟩
end
structure Rw where
 w:Str
 n:Int
 nm:Str
 r:List Qi
def Rw.enc(x:Rw):Qi:= .tuple (.str x.w:: .int x.n:: .str x.nm::x.r)
def eQ(ws:List Str)(day:Int)(x:Rw):Prop:=x.w∈ws/\x.n<=day
instance {ws:List Str} {day:Int} {x:Rw}:Decidable (eQ ws day x):=by unfold eQ;infer_instance
abbrev Ls:=List (Str×Rw)
def dO(L:Ls):List (ah×Qi):=L.map λp=>(.inr p.1,p.2.enc)
def cA(L:Ls)(nm:Str):Option Rw:=(L.find? λp=>decide (p.1=nm)).map (·.2)
def mU(L:Ls)(nm:Str)(x:Rw):Ls:=if (L.any λp=>decide (p.1=nm))=true then L.map (λp=>if p.1=nm then(p.1,x) else p) else L++[(nm,x)]
theorem kX{a b:Str}:((Lg a:ah)=Lg b)↔a=b:=⟨λh=>by cases h;rfl,λh=>by rw [h]⟩
theorem jP(nm:Str):∀L:Ls,cP (dO L) (.inr nm)=(cA L nm).map Rw.enc
 | []=>rfl
 | p::L=>by
  have ih:=jP nm L;unfold cP cA dO at*;by_cases h:p.1=nm
  ·simp [LB,h]
  ·have h':¬((Lg p.1:ah)=Lg nm):=λz=>h (kX.mp z);simp only [Kb,LB,decide_eq_false h,decide_eq_false h'];exact ih
theorem mV(L:Ls)(nm:Str)(x:Rw):dN (dO L) (.inr nm) x.enc=dO (mU L nm x):=by
 have ha:(dO L).any (λp=>decide (p.1=(Lg nm:ah)))=L.any λp=>decide (p.1=nm):=by
  unfold dO;rw [Nn];congr 1;funext p;simp only [OF,kX]
 unfold dN mU;rw [ha];split
 ·unfold dO;rw [Kx,Kx];apply MJ;intro p _;simp only [OF,kX];split <;> rfl
 ·unfold dO;simp
structure c7 (ws:List Str) (day:Int) (xs:List Rw) (L:Ls):Prop where
 nd:(L.map (·.1)).Nodup
 it:∀p∈L,p.1=p.2.nm/\p.2∈xs/\eQ ws day p.2/\∀y∈xs,eQ ws day y->y.nm=p.1->y.n<=p.2.n
 al:∀y∈xs,eQ ws day y->∃p∈L,p.1=y.nm
 le:L.length<=xs.length
theorem c7.nil(ws:List Str)(day:Int):c7 ws day [] []:=⟨List.nodup_nil,(λp h=>by cases h),(λp h=>by cases h),J8 _⟩
theorem kY{L:Ls}{nm:Str}{y:Rw}(h:cA L nm=some y):∃p∈L,p.1=nm/\p.2=y:=by
 unfold cA at h;cases e:L.find? (λp=>decide (p.1=nm)) with
 | none=>rw [e] at h;cases h
 | some p=>
  rw [e] at h;cases h;exact⟨p,K1 e,by simpa using Ln e,rfl⟩
theorem xp{L:Ls}{nm:Str}(h:cA L nm=none):∀p∈L,p.1≠nm:=by
 intro p hp e;unfold cA at h;rw [Option.map_eq_none_iff,Lc] at h;exact h p hp (by simpa using e)
section
variable {ws:List Str} {day:Int} {xs:List Rw} {L:Ls} {x:Rw}
theorem c7.skip(h:c7 ws day xs L)(hx:¬eQ ws day x):c7 ws day (xs++[x]) L:=by
 refine⟨h.nd,λp hp=>?_,λy hy ho=>?_,by have:=h.le;simp;omega⟩
 ·obtain⟨a,b,c,d⟩:=h.it p hp;refine⟨a,by simp [b],c,λy hy ho e=>?_⟩;rcases Kn.mp hy with z | z
  ·exact d y z ho e
  ·rw [Kr] at z;subst z;exact absurd ho hx
 ·rcases Kn.mp hy with z | z
  ·exact h.al y z ho
  ·rw [Kr] at z;subst z;exact absurd ho hx
theorem c7.keep(h:c7 ws day xs L){y0:Rw}(hl:cA L x.nm=some y0)(hn:¬y0.n < x.n):c7 ws day (xs++[x]) L:=by
 obtain⟨p0,hp0,e0,rfl⟩:=kY hl;have uq:∀p∈L,p.1=x.nm->p=p0:=λp hp e=>by
  have nd:=h.nd;clear h hl hn
  induction L with
  | nil=>cases hp
  | cons q L ih=>
   rw [Kb,LW] at nd;rcases Kh.mp hp with a | a <;> rcases Kh.mp hp0 with b | b
   ·rw [a,b]
   ·exact absurd (Kd.mpr ⟨p0,b,by rw [e0,<-e,a]⟩) nd.1
   ·exact absurd (Kd.mpr ⟨p,a,by rw [e,<-e0,b]⟩) nd.1
   ·exact ih b a nd.2
 refine⟨h.nd,λp hp=>?_,λy hy ho=>?_,by have:=h.le;simp;omega⟩
 ·obtain⟨a,b,c,d⟩:=h.it p hp;refine⟨a,by simp [b],c,λy hy ho e=>?_⟩;rcases Kn.mp hy with z | z
  ·exact d y z ho e
  ·rw [Kr] at z;subst z;rw [uq p hp e.symm];omega
 ·rcases Kn.mp hy with z | z
  ·exact h.al y z ho
  ·rw [Kr] at z;subst z;exact⟨p0,hp0,e0⟩
theorem c7.put(h:c7 ws day xs L)(ho:eQ ws day x)(hl:∀y,cA L x.nm=some y->y.n < x.n):c7 ws day (xs++[x]) (mU L x.nm x):=by
 unfold mU;split
 ·rename_i ha;obtain⟨p0,hp0,e0⟩:=LO.mp ha;have e0:p0.1=x.nm:=of_decide_eq_true e0;have hmx:∀y∈xs,eQ ws day y->y.nm=x.nm->y.n<=x.n:=λy hy ho' e=>by
   cases hk:cA L x.nm with
   | none=>exact absurd e0 (xp hk p0 hp0)
   | some z=>
    obtain⟨p,hp,ep,rfl⟩:=kY hk;have:=(h.it p hp).2.2.2 y hy ho' (by rw [ep];exact e);have:=hl _ hk;omega
  refine⟨?_,λp hp=>?_,λy hy ho'=>?_,by have:=h.le;simp;omega⟩
  ·rw [Kx,show((λp:Str×Rw=>p.1)∘ λp=>if p.1=x.nm then(p.1,x) else p)=λp=>p.1 by funext p;simp only [OF];split <;> rfl];exact h.nd
  ·obtain⟨q,hq,rfl⟩:=Kd.mp hp;by_cases z:q.1=x.nm
   ·rw [Qf z];refine⟨z,Qh,ho,λy hy ho' e=>?_⟩;rcases Kn.mp hy with m | m
    ·exact hmx y m ho' (by rw [e];exact z)
    ·rw [Kr] at m;subst m;exact P2 _
   ·rw [Qe z];obtain⟨a,b,c,d⟩:=h.it q hq;refine⟨a,by simp [b],c,λy hy ho' e=>?_⟩;rcases Kn.mp hy with m | m
    ·exact d y m ho' e
    ·rw [Kr] at m;subst m;exact absurd e.symm z
  ·rcases Kn.mp hy with m | m
   ·obtain⟨p,hp,e⟩:=h.al y m ho';refine⟨_,Kd.mpr ⟨p,hp,rfl⟩,?_⟩;split <;> exact e
   ·rw [Kr] at m;subst m;refine⟨_,Kd.mpr ⟨p0,hp0,rfl⟩,?_⟩;rw [Qf e0];exact e0
 ·rename_i ha;have hno:∀p∈L,p.1≠x.nm:=λp hp e=>ha (LO.mpr ⟨p,hp,decide_eq_true e⟩);refine⟨?_,λp hp=>?_,λy hy ho'=>?_,by have:=h.le;simp;omega⟩
  ·rw [Ku];refine O3.mpr ⟨h.nd,Qh,λa ha' b hb=>?_⟩;simp only [Kb,LA,Kr] at hb;obtain⟨p,hp,rfl⟩:=Kd.mp ha';rw [hb];exact hno p hp
  ·rcases Kn.mp hp with m | m
   ·obtain⟨a,b,c,d⟩:=h.it p m;refine⟨a,by simp [b],c,λy hy ho' e=>?_⟩;rcases Kn.mp hy with z | z
    ·exact d y z ho' e
    ·rw [Kr] at z;subst z;exact absurd e.symm (hno p m)
   ·rw [Kr] at m;subst m;refine⟨rfl,Qh,ho,λy hy ho' e=>?_⟩;rcases Kn.mp hy with z | z
    ·obtain⟨p,hp,e'⟩:=h.al y z ho';exact absurd (e'.trans e) (hno p hp)
    ·rw [Kr] at z;subst z;exact P2 _
  ·rcases Kn.mp hy with m | m
   ·obtain⟨p,hp,e⟩:=h.al y m ho';exact⟨p,by simp [hp],e⟩
   ·rw [Kr] at m;subst m;exact⟨(y.nm,y),Qh,rfl⟩
end
structure eR (ws:List Str) (day:Int) (xs res:List Rw):Prop where
 up:(res.map (·.nm)).Pairwise λa b=>cO a b=true
 nd:(res.map (·.nm)).Nodup
 it:∀x∈res,x∈xs/\eQ ws day x/\∀y∈xs,eQ ws day y->y.nm=x.nm->y.n<=x.n
 al:∀y∈xs,eQ ws day y->∃x∈res,x.nm=y.nm
 le:res.length<=xs.length
theorem kZ{L:Ls}{nm:Str}(h:nm∈L.map (·.1)):∃x,cA L nm=some x:=by
 cases e:cA L nm with
 | some x=>exact⟨x,rfl⟩
 | none=>
  obtain⟨p,hp,e'⟩:=Kd.mp h;exact absurd e' (xp e p hp)
def mW(L:Ls):List Rw:=(cG (L.map (·.1))).filterMap (cA L)
theorem Gg{ws:List Str}{day:Int}{xs:List Rw}{L:Ls}(h:c7 ws day xs L):(mW L).map (·.nm)=cG (L.map (·.1)):=by
 unfold mW;have key:∀l:List Str,(∀a∈l,a∈L.map (·.1))->(l.filterMap (cA L)).map (·.nm)=l:=by
  intro l
  induction l with
  | nil=>intro _;rfl
  | cons a l ih=>
   intro hl;obtain⟨x,hx⟩:=kZ (hl a Qh);obtain⟨p,hp,e,rfl⟩:=kY hx;rw [L3,hx];show p.2.nm::_=_;rw [ih λb hb=>hl b (by simp [hb]),<-(h.it p hp).1,e]
 exact key _ λa ha=>(eD _).mem_iff.mp ha
theorem c7.res{ws:List Str}{day:Int}{xs:List Rw}{L:Ls}(h:c7 ws day xs L):eR ws day xs (mW L):=by
 have hn:=Gg h;refine⟨by rw [hn];exact pX _,by rw [hn];exact(eD _).nodup_iff.mpr h.nd,λx hx=>?_,λy hy ho=>?_,by rw [<-J1 (f:=λx:Rw=>x.nm),hn,(eD _).length_eq,J1];exact h.le⟩
 ·obtain⟨a,ha,e⟩:=Mw.mp hx;obtain⟨p,hp,e1,rfl⟩:=kY e;obtain⟨b1,b2,b3,b4⟩:=h.it p hp;exact⟨b2,b3,λy hy ho e=>b4 y hy ho (by rw [b1];exact e)⟩
 ·obtain⟨p,hp,e⟩:=h.al y hy ho;have:p.1∈(mW L).map (·.nm):=by rw [hn];exact(eD _).mem_iff.mpr (Kd.mpr ⟨p,hp,rfl⟩)
  obtain⟨x,hx,e'⟩:=Kd.mp this;exact⟨x,hx,e'.trans e⟩
theorem ai.intsL{K:J0}{H:Hp}{O:Ex}:∀{ns:List Int}{vs:List V},ai K H O vs (ns.map J7)->vs=ns.map V.int
 | [],_,r=>by rw [LA] at r;cases r;rfl
 | b::bs,_,r=>by
  rw [Kb] at r;cases r with
  | cons h r=>cases h;rw [Kb,ai.intsL r]
def qi(o:Obj)(a:Qk)(kv:List (ah×V)):It:=⟨λi H=>i < kv.length/\H a=some (.frz o (.dK kv)),λi H x H'=>H'=H/\∃p,kv[i]?=some p/\x=kV p.1,λi H=>kv.length<=i/\H a=some (.frz o (.dK kv))⟩
theorem xt{P:Qu}{w:Qw}{H:Hp}{h:Qy}{a:Qk}{o:Obj}{es:Array Q0}{ep:Nat}{kv:List (ah×V)}(ok:bK P w H h)(e:H a=some (.frz o (.dK kv)))(d:o.data= .dict es ep):
 (a==QQ)=false/\∃vs,KV kv vs/\h.DictAt (bS P w) a vs ep:=by
 obtain⟨h1,_,hd,vs,rel,o',es',ep',g,r1,r2,r3⟩:=ok a _ e;rw [h1] at g;cases g;rw [d] at r2;cases r2;exact⟨hd,vs,rel,o,es,h1,r1,d,r3⟩
theorem KV.len{kv:List (ah×V)}{vs:List (ah×Qj)}(r:KV kv vs):vs.length=kv.length:=r.length.symm
theorem Gh{P:Qu}{w:Qw}{K:J0}{tg:Qn}(it a:Qk)(o:Obj)(es:Array Q0)(ep:Nat)(kv:List (ah×V))(d:o.data= .dict es ep):jl P w K tg (qi o a kv) [it] it (λi h=>h.IsKeyIter it a i kv.length ep) where
 mem:=Qh
 obj:=λi h st b hb=>by
  have e:b=it:=by simpa using hb
  subst e;obtain⟨o,e,c,d⟩:=st;exact⟨o,e,λv z=>by rw [d] at z;cases z⟩
 keep:=λi h h' st k=>st.at λo e=>k it Qh o e
 item:=by
  intro X hP hw hK hc i RB s σ H E I hf st hg;subst hP hw hK;obtain⟨hi,ha⟩:=hg;obtain⟨hd,vs,rel,da⟩:=xt I.hok ha d;have hlen:=rel.len;obtain⟨f0,f1,f2,f3,f4,f5⟩:=hf it Qh;obtain⟨⟨k0,v0⟩,hx⟩:∃p,vs[i]?=some p:=⟨vs[i]'Qc,by simp [hlen,hi]⟩;refine wpAny_pyNext_dict_item (by rw [hlen];exact st) da hx λkey h' hkey st' sb=>?_;rw [hlen] at st';have I1:af X RB σ H {s with heap:=h'}:=I.turned (t':=s.toks) (λb o hb e=>(sb.2 b hb).trans e) f0 f1 f3 f4 f5;obtain⟨u,e,c,dd⟩:=id st';have ek:(kv[i]'hi).1=k0:=by
   have z:=congrArg (λl:List ah=>l[i]?) rel.keys;simp only [Kj,hx] at z;simpa [hi] using z
  refine⟨key,rfl,ki (s:={s with heap:=h'}) e c dd Qb ⟨kV (kv[i]'hi).1,H,I1,?_,⟨rfl,_,by simp [hi],rfl⟩,st',λb hb=>(hf b hb).1⟩⟩;rw [ek];rcases fC (k:=k0) (v:=key) hkey with⟨j,t,e1,e2⟩ | ⟨j,t,e1,e2⟩
  ·rw [e1,e2];exact⟨t,rfl⟩
  ·rw [e1,e2];exact⟨t,rfl⟩
 done:=by
  intro X hP hw hK hc i RB s σ H E I hf st hg;subst hP hw hK;obtain⟨hi,ha⟩:=hg;obtain⟨hd,vs,rel,da⟩:=xt I.hok ha d;have hlen:=rel.len;obtain⟨f0,f1,f2,f3,f4,f5⟩:=hf it Qh;refine wpAny_pyNext_dict_end (I.ok.hd hc) (by rw [hlen];exact st) da (by simp [hlen,hi]) λh' he=>⟨rfl,?_⟩;exact I.turned (t':=s.toks) (λb o hb e=>he b o hb e) f0 f1 f3 f4 f5
 self:=λA i s Q E st h=>wpAny_pyIter_keyiter st h
theorem Wd.frzK{K:J0}{H0 H:Hp}{O0 O:Ex}{σ:St}{δ:Dl}(w:Wd K H0 O0 H O σ δ){i:Nat}{l:Qk}{y0:Sl}(e:δ[i]?=some (some y0))(ho:y0.own)(h:σ[i]?=some (some (.ref l)))(u:HO):
 ∃O',Wd K H0 O0 (aq H l u) O' σ (δ.set i none)/\aN H (aq H l u) O O'/\¬O' l:=by
 obtain⟨l',x1,a,b⟩:=w.adr e ho;rw [h] at x1;cases x1;have l0:H0 l=none:=(w.new l a).resolve_left b;have S:aN H (aq H l u) O (λx=>O x/\x≠l):=⟨λc q z n=>by rw [aH (λy=>n (by rw [y];exact a))];exact z,λ_ _ n z=>n z.1⟩;have li:i < δ.length:=(Kg.mp e).1;have ne:∀{j:Nat}{y:Sl},(δ.set i none)[j]?=some (some y)->j≠i:=λ{j y} q z=>by
  subst z;rw [KP li] at q;cases q
 refine⟨_,⟨λc q z=>?_,λx z=>⟨w.sub x z,λy=>b (by rw [<-y];exact z)⟩,λx z=>w.new x z.1,λx z=>by rw [aH z.2];exact w.trk x z.1,by simp [w.len],λj y q=>?_,λj k y z l' e1 y1 e2 z2 e3 e4=>?_⟩,S,λz=>z.2 rfl⟩
 ·have:c≠l:=λy=>by rw [y,l0] at z;cases z
  rw [aH this];exact w.same c q z
 ·by_cases hj:j=i
  ·subst hj;rw [KP li] at q;cases q;exact Lw
  ·rw [KC (Ne.symm hj)] at q;refine(w.sl j y q).go S (λb o ho' e' a1 a2 a3=>?_) (λb o u a1 a2 a3=>by have nb:b≠l:=λz=>w.nofrz e ho h o u (by rw [<-z];exact a3);exact⟨⟨a1,nb⟩,by rw [aH nb];exact a3⟩) λc o a1 a3=>by rw [aH (λz=>b (by rw [<-z];exact a1))];exact a3
   have nb:b≠l:=λz=>by
    subst z
    match y,ho',q with
    | some z,ho',q=>exact hj (w.dis j i z y0 _ q (by cases z <;> first | trivial | cases ho') e ho (ia e') h)
   exact⟨⟨a1,nb⟩,by rw [aH nb];exact a3⟩
 ·have n1:=ne e1;have n2:=ne e2;rw [KC (Ne.symm n1)] at e1;rw [KC (Ne.symm n2)] at e2;exact w.dis j k _ _ l' e1 y1 e2 z2 e3 e4
theorem bW.dk{o:Obj}{a:Qk}{kv:List (ah×V)}:bW (qi o a kv) (λH=>H a=some (.frz o (.dK kv))) (kv.map λp=>kV p.1):=by
 refine⟨λi H' s hi=>⟨by simpa using hi,s⟩,λi H' x H'' s hi y=>⟨y.1,?_⟩,λi H' s hi=>⟨by simpa using hi,s⟩⟩;obtain⟨_,p,hp,rfl⟩:=y;simp [hp]
def mX:List (DT×DT)->Dl->(List (Qi×Qi)->Prop)->Prop
 | [],_,Q=>Q []
 | (a,b)::r,δ,Q=>a δ λx=>b δ λy=>mX r δ λps=>Q ((x,y)::ps)
inductive iB (K:J0) (H:Hp) (O:Ex):List (V×V)->List (Qi×Qi)->Prop
 | nil:iB K H O [] []
 | cons {a b:V} {x y:Qi} {r s}:Dt K H O a x->Dt K H O b y->iB K H O r s->iB K H O ((a,b)::r) ((x,y)::s)
theorem xu{K:J0}{H0:Hp}{O0 O:Ex}{σ:St}{δ:Dl}:∀(trs:List (DT×DT)){H:Hp}{Qd:List (Qi×Qi)->Prop}{R:List (V×V)->Hp->Prop},Wd K H0 O0 H O σ δ->mX trs δ Qd->(∀ds vs H',Qd ds->ar H H'->iB K H' O vs ds->R vs H')->mN (trs.map λp=>(up K H0 O0 p.1,up K H0 O0 p.2)) σ H R
 | [],H,Qd,R,w,q,k=>k [] [] H q (ar.refl _) .nil
 | (a,b)::r,H,Qd,R,w,q,k=>by
  refine⟨O,δ,_,w,q,λx v H1 q1 s1 r1=>⟨O,δ,_,w.mono s1,q1,λy u H2 q2 s2 r2=>?_⟩⟩;exact xu r ((w.mono s1).mono s2) q2 λds vs H3 q3 s3 r3=>k _ _ H3 q3 ((s1.trans s2).trans s3) (.cons (r1.mono (s2.trans s3)) (r2.mono s3) r3)
theorem Dt.free{K:J0}{H H':Hp}{O O':Ex}{v:V}{d:Qi}(h:Dt K H O v d)(s:mi d=true):Dt K H' O' v d:=by
 cases h <;> first | exact .non | exact .bl _ | exact .int _ | exact .str _ | cases s
theorem iB.kd{K:J0}{H H':Hp}{O:Ex}:∀{kd:List (ah×Qi)}{ps:List (V×V)},iB K H O ps (kd.map λp=>(fU p.1,p.2))->(∀p∈kd,mi p.2=true)->∃kv:List (ah×V),ps=kv.map (λp=>(kV p.1,p.2))/\bo K H' O kv kd
 | [],_,h,_=>by cases h;exact⟨[],rfl,.nil⟩
 | p::kd,_,h,sc=>by
  cases h with
  | cons a b r=>
   obtain⟨kv,e,k⟩:=iB.kd r λq hq=>sc q (Kz _ hq);have:=a.key;exact⟨(p.1,_)::kv,by rw [e,this];rfl,.cons (b.free (sc p KA)) k⟩
theorem bo.merge{K:J0}{H:Hp}{O:Ex}{more:List (ah×V)}{md:List (ah×Qi)}(h:bo K H O more md):∀{kv:List (ah×V)}{kd:List (ah×Qi)},bo K H O kv kd->bo K H O (fQ kv more) (md.foldl (λa p=>dN a p.1 p.2) kd):=by
 induction h with
 | nil=>intro kv kd r;exact r
 | cons a _ ih=>intro kv kd r;exact ih (r.put _ a)
section
variable {X:Cx} {H0:Hp} {O0:Ex}
def xv(trs:List (DT×DT)):i6:=λδ Q=>mX trs δ λps=>∃kd:List (ah×Qi),ps=kd.map (λp=>(fU p.1,p.2))/\kd.length<=15/\(∀p∈kd,mi p.2=true)/\Q (kd.foldl (λa p=>dN a p.1 p.2) [])
def mY(X:Cx)(H0:Hp)(O0:Ex)(pos:Pos)(keys:List (Option Qn))(values:List Qn)(trs:List (DT×DT)):Prop:=kJ X pos keys values (trs.map λp=>(up X.K H0 O0 p.1,up X.K H0 O0 p.2))
theorem Gi{pos:Pos}:mY X H0 O0 pos [] [] []:=Ep
theorem mZ{pos:Pos}{k v:Qn}{ks:List (Option Qn)}{vs:List Qn}{tk tv:DT}{trs:List (DT×DT)}(hk:DE X H0 O0 k tk)(hv:DE X H0 O0 v tv)(hr:mY X H0 O0 pos ks vs trs):mY X H0 O0 pos (some k::ks) (v::vs) ((tk,tv)::trs):=Er hk hv hr
theorem Gj{pos:Pos}{keys:List (Option Qn)}{values:List Qn}{trs:List (DT×DT)}(h:mY X H0 O0 pos keys values trs)(hall:keys.all (·.isSome)=true:=by rfl)(hl:keys.length=values.length:=by rfl)(h0:keys≠[]:=by exact List.cons_ne_nil _ _)(h15:keys.length<=15:=by exact Nat.le_of_ble_eq_true rfl):KE X H0 O0 (.Dict keys values pos) (xv trs):=
 (Et h hall hl h0 h15).imp λσ H Q ⟨O,δ,Qd,w,q,k⟩=>λp hp=>by
  refine xu trs (w.mono (ar.new hp)) q λds vs H2 ⟨kd,e,n,sc,q2⟩ s2 r2=>?_;subst e;have hp2:H2 p=some (.dK []):=s2 _ _ bq;obtain⟨kv,e,r⟩:=iB.kd (H':=λb=>if b=p then none else H2 b) r2 sc;refine⟨hp2,kv,e,by rw [r.length];exact n,?_⟩;have eu:aq H2 p (.dK (fQ [] kv))=aq (λb=>if b=p then none else H2 b) p (.dK (fQ [] kv)):=by
   funext b;unfold aq;split
   ·rfl
   ·rename_i hb;exact(Qe hb).symm
  rw [eu];refine k _ _ p _ q2 (λb o z=>?_) (Qf rfl) (r.merge .nil);have:b≠p:=λy=>by rw [y,hp] at z;cases z
  show(if b=p then none else H2 b)=some o;rw [Qe this];exact s2 _ _ (by rw [aH this];exact z)
theorem Gk{N':List Str}{k:Nat}{fr:List Nat}{scope:QO}{iter elt tg:Qn}{ifs:List Qn}{t te:DT}{tc:DB}{g:TG}{dg:DG}{pos:Pos}(hc:X.calm=true)(S:br X.env.scope X.N N' k fr scope)(hi:DF X H0 O0 iter t)(gd:GD X.K g dg)(hk:gr g k)(hfr:fr.Nodup)
 (hg:∀fp C s H,PG (bu X scope N' fp C s H) tg g)(hf:∀fp C s H,dF (bu X scope N' fp C s H) ifs (bM X.K H0 O0 tc))(he:∀fp C s H,PE (bu X scope N' fp C s H) elt (up X.K H0 O0 te))
 (hs:∀x,QA iter X.env x=pure x:=by intro _;rfl):PU X (.ListComp elt [⟨tg,iter,ifs,0⟩] scope pos) (kE X.K H0 O0 (mF t dg tc te k fr)):=
 (vT hc S (lP hi) hg hf he hs).imp λσ H Q uu46=>by obtain⟨O,δ,Qd,w,q,kk⟩:=uu46;exact⟨O,δ,_,w,q,λd v H1 uu47 s1 r1=>by
  obtain⟨xs,e,hz,q1⟩:=uu47;subst e;obtain⟨a,vs,rfl,hq,rr⟩:=r1.tup;refine⟨a,rfl,⟨_,hq⟩,λD hD=>iS (bW.tup hq) gd hfr (λv _ H' R h=>hk fr σ v H' R h) (λ_ _ _ z=>z) (λ_ _ _ z=>z) (λD H' hD s' o e=>s' _ _ e (cS e hD)) rr (w.mono s1) (by rw [rr.length];exact hz) q1 (λds us p H' z s' hp r'=>kk ds us p H' z (s1.trans s') hp r') D hD⟩⟩
end
structure jQ (n:Nat) (lt:Nat->Nat->Bool) (I:Ql->Prop) (cmp:Nat->Nat->(Bool->Ql->Prop)->Ql->Prop):Prop where
 as:∀i j C s,i < n->j < n->i≠j->I s->(∀s',I s'->C (lt i j) s')->cmp i j C s
structure gA (n:Nat) (lt:Nat->Nat->Bool):Prop where
 tot:∀i j,i < n->j < n->i≠j->lt i j=!lt j i
 tr:∀i j k,i < n->j < n->k < n->lt i j=true->lt j k=true->lt i k=true
structure bR (n:Nat) (p:Array Nat):Prop where
 perm:p.toList.Perm (KU n)
theorem bR.size{n:Nat}{p:Array Nat}(h:bR n p):p.size=n:=by rw [<-KZ,h.perm.length_eq,M4]
theorem bR.lt{n:Nat}{p:Array Nat}(h:bR n p){k:Nat}(hk:k < n):p.getD k 0 < n:=by
 have hs:=h.size;have e:p.getD k 0=p[k]'Qc:=by simp [MV,show k < p.size by omega]
 rw [e];have:=h.perm.mem_iff.mp (Array.mem_toList_iff.mpr (Array.getElem_mem (show k < p.size by omega)));simpa using this
theorem bR.ne{n:Nat}{p:Array Nat}(h:bR n p){i j:Nat}(hi:i < n)(hj:j < n)(hij:i≠j):p.getD i 0≠p.getD j 0:=by
 have hs:=h.size;have nd:p.toList.Nodup:=h.perm.nodup_iff.mpr List.nodup_range;have ei:p.getD i 0=p.toList[i]'(by simp;omega):=by simp [MV,show i < p.size by omega]
 have ej:p.getD j 0=p.toList[j]'(by simp;omega):=by simp [MV,show j < p.size by omega]
 rw [ei,ej];intro e;exact hij ((Na nd).mp e)
theorem bR.bubble{n:Nat}{p:Array Nat}(h:bR n p)(a d:Nat):bR n (Nu p a d):=⟨(NF.mp (bubble_perm p a d)).trans h.perm⟩
theorem bR.rev{n:Nat}{p:Array Nat}(h:bR n p)(i j:Nat):bR n (kas_rev p i j):=⟨(NF.mp (mirror_perm p i j _)).trans h.perm⟩
theorem qj(n:Nat):bR n (OR (KU n)):=⟨Qh⟩
def Up(lt:Nat->Nat->Bool)(p:Array Nat)(k:Nat):Prop:=∀i j,i < j->j < k->lt (p.getD i 0) (p.getD j 0)=true
section
variable {n:Nat} {lt:Nat->Nat->Bool} {I:Ql->Prop} {cmp:Nat->Nat->(Bool->Ql->Prop)->Ql->Prop}
theorem Up.snoc(T:gA n lt){p:Array Nat}(hp:bR n p){k:Nat}(hk:k < n)(h:Up lt p k)(h0:0 < k)(hl:lt (p.getD (k - 1) 0) (p.getD k 0)=true):Up lt p (k+1):=by
 intro i j hij hj;rcases MC j k with z | z
 ·exact h i j hij z
 ·have:j=k:=Qc
  subst this;rcases MC i (j - 1) with w | w
  ·exact T.tr _ _ _ (hp.lt Qc) (hp.lt Qc) (hp.lt hk) (h i (j - 1) w Qc) hl
  ·have:i=j - 1:=Qc
   subst this;exact hl
theorem qm(A:jQ n lt I cmp)(T:gA n lt){p:Array Nat}(hp:bR n p){Q:Nat->Ql->Prop}:∀(f m:Nat)(s:Ql),1<=m->m+f=n->Up lt p m->I s->
 (∀k s',I s'->m<=k->k<=n->Up lt p k->(k < n->lt (p.getD k 0) (p.getD (k - 1) 0)=true)->Q k s')->(kas_asc p f m).kasWp cmp Q s
 | 0,m,s,h1,hf,hu,hI,q=>q m s hI (J8 _) Qc hu (λz=>by omega)
 | f+1,m,s,h1,hf,hu,hI,q=>by
  have hm:m < n:=Qc
  refine A.as _ _ _ s (hp.lt hm) (hp.lt Qc) (hp.ne hm Qc Qc) hI λs' hI'=>?_;cases hc:lt (p.getD m 0) (p.getD (m - 1) 0) with
  | true=>
   dsimp only;rw [Qf rfl];exact q m s' hI' (J8 _) Qc hu (λ_=>hc)
  | false=>
   dsimp only;rw [Qe Qh];have hl:lt (p.getD (m - 1) 0) (p.getD m 0)=true:=by rw [T.tot _ _ (hp.lt Qc) (hp.lt hm) (hp.ne Qc hm Qc),hc];rfl
   exact qm A T hp f (m+1) s' Qc Qc (hu.snoc T hp hm Qc hl) hI' λk s2 a b c d e=>q k s2 a Qc c d e
def Dn(lt:Nat->Nat->Bool)(p:Array Nat)(k:Nat):Prop:=∀i j,i < j->j < k->lt (p.getD j 0) (p.getD i 0)=true
theorem Dn.snoc(T:gA n lt){p:Array Nat}(hp:bR n p){k:Nat}(hk:k < n)(h:Dn lt p k)(h0:0 < k)(hl:lt (p.getD k 0) (p.getD (k - 1) 0)=true):Dn lt p (k+1):=by
 intro i j hij hj;rcases MC j k with z | z
 ·exact h i j hij z
 ·have:j=k:=Qc
  subst this;rcases MC i (j - 1) with w | w
  ·exact T.tr _ _ _ (hp.lt hk) (hp.lt Qc) (hp.lt Qc) hl (h i (j - 1) w Qc)
  ·have:i=j - 1:=Qc
   subst this;exact hl
theorem xw(A:jQ n lt I cmp)(T:gA n lt){p:Array Nat}(hp:bR n p){Q:Array Nat×Nat×Nat->Ql->Prop}:∀(f m:Nat)(s:Ql),1<=m->m+f=n->Dn lt p m->I s->
 (∀k s',I s'->m<=k->k<=n->Dn lt p k->Q (p,k,0) s')->(kas_desc f p m 0).kasWp cmp Q s
 | 0,m,s,h1,hf,hu,hI,q=>q m s hI (J8 _) Qc hu
 | f+1,m,s,h1,hf,hu,hI,q=>by
  have hm:m < n:=Qc
  refine A.as _ _ _ s (hp.lt hm) (hp.lt Qc) (hp.ne hm Qc Qc) hI λs' hI'=>?_;cases hc:lt (p.getD m 0) (p.getD (m - 1) 0) with
  | true=>
   dsimp only;rw [Qf rfl,Qe Qh];exact xw A T hp f (m+1) s' Qc Qc (hu.snoc T hp hm Qc hc) hI' λk s2 a b c d=>q k s2 a Qc c d
  | false=>
   dsimp only;rw [Qe Qh];refine A.as _ _ _ s' (hp.lt Qc) (hp.lt hm) (hp.ne Qc hm Qc) hI' λs2 hI2=>?_;have hl:lt (p.getD (m - 1) 0) (p.getD m 0)=true:=by rw [T.tot _ _ (hp.lt Qc) (hp.lt hm) (hp.ne Qc hm Qc),hc];rfl
   rw [hl];dsimp only;rw [Qf rfl];exact q m s2 hI2 (J8 _) Qc hu
theorem xx{p:Array Nat}{j k:Nat}(hj:j<=p.size):(kas_rev p 0 j).getD k 0=if k < j then p.getD (j - 1 - k) 0 else p.getD k 0:=by
 have:=getElem?_mirror_all (xs:=p) (i:=0) (j:=j) hj k;unfold kas_rev;rw [Lp,this];by_cases h:k < j
 ·simp [h,Lp]
 ·simp [h,Lp]
theorem Dn.rev{p:Array Nat}(hp:bR n p){k:Nat}(hk:k<=n)(h:Dn lt p k):Up lt (kas_rev p 0 k) k:=by
 intro i j hij hj;have hs:=hp.size;rw [xx Qc,xx Qc,Qf Qc,Qf hj];exact h _ _ Qc Qc
theorem Gm(A:jQ n lt I cmp)(T:gA n lt)(h2:2<=n){p:Array Nat}(hp:bR n p){Q:Nat×Array Nat->Ql->Prop}{s:Ql}(hI:I s)
 (q:∀k p' s',I s'->1<=k->k<=n->bR n p'->Up lt p' k->Q (k,p') s'):(kas_count n p).kasWp cmp Q s:=by
 unfold kas_count;rw [MM];refine qm A T hp (n - 1) 1 s (J8 _) Qc (λi j a b=>by omega) hI λm s1 hI1 m1 m2 hu hs=>?_;by_cases hm:m=n
 ·subst hm;rw [Qf Qh];exact q m p s1 hI1 m1 (J8 _) hp hu
 ·rw [Qe (by simpa using hm)];by_cases hm1:m > 1
  ·rw [Qf hm1];refine A.as _ _ _ s1 (hp.lt Qc) (hp.lt Qc) (hp.ne Qc Qc Qc) hI1 λs2 hI2=>?_;rw [hu 0 (m - 1) Qc Qc];dsimp only;rw [Qf rfl];exact q m p s2 hI2 m1 Qc hp hu
  ·rw [Qe hm1];have:m=1:=Qc
   subst this;have h10:=hs Qc;unfold kas_descPart;rw [MM];refine xw A T hp (n - (1+1)) (1+1) s1 Qc Qc (λi j a b=>?_) hI1 λk s2 hI2 k1 k2 hd=>?_
   ·have:i=0:=Qc
    have:j=1:=Qc
    subst_vars
    exact h10
   ·rw [Qe Qh];unfold kas_tail3;rw [MM];have hp':=hp.rev 0 k;refine qm A T hp' (n - k) k s2 Qc Qc (hd.rev hp k2) hI2 λm s3 hI3 a b c d=>?_;exact q m _ s3 hI3 Qc b hp' c
theorem qo(A:jQ n lt I cmp)(T:gA n lt){p:Array Nat}(hp:bR n p){k:Nat}(hk:k < n)(hu:Up lt p k){Q:Nat->Ql->Prop}:∀(f l r:Nat)(s:Ql),r - l<=f->l<=r->r<=k->I s->
 (∀i,i < l->lt (p.getD i 0) (p.getD k 0)=true)->(∀i,r<=i->i < k->lt (p.getD k 0) (p.getD i 0)=true)->
 (∀l s',I s'->l<=k->(∀i,i < l->lt (p.getD i 0) (p.getD k 0)=true)->(∀i,l<=i->i < k->lt (p.getD k 0) (p.getD i 0)=true)->Q l s')->(kas_place p k f l r).kasWp cmp Q s
 | 0,l,r,s,hf,hlr,hrk,hI,h1,h2,q=>q l s hI Qc h1 (λi a b=>h2 i Qc b)
 | f+1,l,r,s,hf,hlr,hrk,hI,h1,h2,q=>by
  unfold kas_place;by_cases hge:l >= r
  ·rw [Qf hge];exact q l s hI Qc h1 (λi a b=>h2 i Qc b)
  ·rw [Qe hge];have hm:(l+r)/ 2 < k:=Qc
   refine A.as _ _ _ s (hp.lt hk) (hp.lt Qc) (hp.ne hk Qc Qc) hI λs' hI'=>?_;cases hc:lt (p.getD k 0) (p.getD ((l+r)/ 2) 0) with
   | true=>
    dsimp only;rw [Qf rfl];refine qo A T hp hk hu f l ((l+r)/ 2) s' Qc Qc Qc hI' h1 (λi a b=>?_) q;rcases MC ((l+r)/ 2) i with z | z
    ·exact T.tr _ _ _ (hp.lt hk) (hp.lt Qc) (hp.lt Qc) hc (hu _ _ z b)
    ·have:i=(l+r)/ 2:=Qc
     rw [this];exact hc
   | false=>
    dsimp only;rw [Qe Qh];have hl:lt (p.getD ((l+r)/ 2) 0) (p.getD k 0)=true:=by rw [T.tot _ _ (hp.lt Qc) (hp.lt hk) (hp.ne Qc hk Qc),hc];rfl
    refine qo A T hp hk hu f ((l+r)/ 2+1) r s' Qc Qc hrk hI' (λi a=>?_) h2 q;rcases MC i ((l+r)/ 2) with z | z
    ·exact T.tr _ _ _ (hp.lt Qc) (hp.lt Qc) (hp.lt hk) (hu _ _ z hm) hl
    ·have:i=(l+r)/ 2:=Qc
     rw [this];exact hl
theorem xy{p:Array Nat}{k d i:Nat}(hk:k < p.size)(hd:d<=k):(Nu p k d).getD i 0=if i=k - d then p.getD k 0 else if k - d < i/\i<=k then p.getD (i - 1) 0 else p.getD i 0:=by
 rw [Lp,getElem?_bubble hk d hd i];by_cases h1:i=k - d
 ·rw [Qf h1,Qf h1,Lp]
 ·rw [Qe h1,Qe h1];by_cases h2:k - d < i/\i<=k
  ·rw [Qf h2,Qf h2,Lp]
  ·rw [Qe h2,Qe h2,Lp]
theorem Up.ins(T:gA n lt){p:Array Nat}(hp:bR n p){k l:Nat}(hk:k < n)(hu:Up lt p k)(hl:l<=k)(h1:∀i,i < l->lt (p.getD i 0) (p.getD k 0)=true)(h2:∀i,l<=i->i < k->lt (p.getD k 0) (p.getD i 0)=true):Up lt (Nu p k (k - l)) (k+1):=by
 have hs:=hp.size;intro i j hij hj;rw [xy Qc Qc,xy Qc Qc];have e:k - (k - l)=l:=Qc
 rw [e];clear hs e hk;by_cases hi:i=l
 ·rw [Qf hi,Qe Qc,Qf Qc];exact h2 _ Qc Qc
 ·rw [Qe hi];by_cases hi2:l < i/\i<=k
  ·rw [Qf hi2,Qe Qc,Qf Qc];exact hu _ _ Qc Qc
  ·rw [Qe hi2];by_cases hj1:j=l
   ·rw [Qf hj1];exact h1 _ Qc
   ·rw [Qe hj1];by_cases hj2:l < j/\j<=k
    ·rw [Qf hj2];exact hu _ _ Qc Qc
    ·rw [Qe hj2];exact hu _ _ hij Qc
theorem xA(A:jQ n lt I cmp)(T:gA n lt){Q:Array Nat->Ql->Prop}:∀(f:Nat)(p:Array Nat)(k:Nat)(s:Ql),k+f=n->bR n p->Up lt p k->I s->(∀p' s',I s'->bR n p'->Up lt p' n->Q p' s')->(kas_bin f p k).kasWp cmp Q s
 | 0,p,k,s,hf,hp,hu,hI,q=>q p s hI hp (by rw [show n=k by omega];exact hu)
 | f+1,p,k,s,hf,hp,hu,hI,q=>by
  unfold kas_bin;rw [MM];have hk:k < n:=Qc
  refine qo A T hp hk hu k 0 k s Qc Qc (J8 _) hI (λi z=>by omega) (λi a b=>by omega) λl s' hI' hl h1 h2=>?_;exact xA A T f _ (k+1) s' Qc (hp.bubble _ _) (hu.ins T hp hk hl h1 h2) hI' q
theorem Gn(A:jQ n lt I cmp)(T:gA n lt)(h2:2<=n){Q:Array Nat->Ql->Prop}{s:Ql}(hI:I s)(q:∀p s',I s'->bR n p->Up lt p n->Q p s'):(kas_sort n).kasWp cmp Q s:=by
 unfold kas_sort;rw [MM];refine Gm A T h2 (qj n) hI λk p s1 hI1 k1 k2 hp hu=>?_;dsimp only;by_cases hk:k < n
 ·rw [Qf hk,show max k 1=k by omega];exact xA A T (n - k) p k s1 Qc hp hu hI1 q
 ·rw [Qe hk];exact q p s1 hI1 hp (by rw [show n=k by omega];exact hu)
end
def aQ(p q:Int×Str):Bool:=decide (p.1 < q.1) || (decide (p.1=q.1) && decide (p.2.cps.toList < q.2.cps.toList))
def fV(h:Qy)(v:Qj)(p:Int×Str):Prop:=∃a o n t u,v= .ref a/\h.get? a=some o/\o.cls= .type "tuple"/\o.data= .seq #[.int p.1 t,.str p.2 u] n
section
variable {P:Qu} {w:Qw} {A:QC} {E:Qj->Ql->Prop} {s:Ql}
theorem Gp{v u:Qj}{p q:Int×Str}{Q:Bool->Ql->Prop}(hv:fV s.heap v p)(hu:fV s.heap u q)(h:Q (aQ p q) s):Qr (Qs P w) A (keyLt' (tuples' true) v u) Q E s:=by
 obtain⟨a,oa,na,t1,t2,rfl,ha,_,da⟩:=hv;obtain⟨b,ob,nb,t3,t4,rfl,hb,_,db⟩:=hu;refine kat_lt ha da hb db (kat_cons ((intKind P w).eqBool (intKind_is _ _ _ _) (intKind_is _ _ _ _) (kat_go (λe1=>?_) λe1=>?_)))
 ·have e1:p.1=q.1:=by simpa using e1
  refine kat_yes (kat_cons ((PySem.strKind P w).eqBool (strKind_is _ _ _ _) (strKind_is _ _ _ _) (kat_go (λe2=>?_) λe2=>?_)))
  ·have e2:p.2=q.2:=by simpa using e2
   refine kat_yes (kat_nil ?_);have:aQ p q=false:=by unfold aQ;rw [e1,e2];simp
   rw [this] at h;simpa using h
  ·have e2:p.2≠q.2:=by simpa using e2
   refine kat_no (kat_one _ _ ?_);have:aQ p q=decide (p.2.cps.toList < q.2.cps.toList):=by unfold aQ;simp [e1]
   rw [this] at h;exact lt_str h
 ·have e1:p.1≠q.1:=by simpa using e1
  refine kat_no ?_;show Qr _ _ (oneLt' true _ _) _ _ _;refine oneLt_int ?_;have:aQ p q=decide (p.1 < q.1):=by unfold aQ;simp [e1]
  rw [this] at h;exact h
theorem xB{n:Nat}{kp:Nat->Int×Str}(hd:∀i j,i < n->j < n->kp i=kp j->i=j):gA n λi j=>aQ (kp i) (kp j):=by
 have tl:∀a b:Str,a≠b->(decide (a.cps.toList < b.cps.toList))=!decide (b.cps.toList < a.cps.toList):=λa b h=>by
  by_cases z:a.cps.toList < b.cps.toList
  ·rw [decide_eq_true z,decide_eq_false (List.lt_asymm z)];rfl
  ·have z2:b.cps.toList<=a.cps.toList:=O6.mp z;have:b.cps.toList < a.cps.toList:=by
    rcases Classical.em (b.cps.toList < a.cps.toList) with y | y
    ·exact y
    ·exact absurd (wb (Pc (O6.mp y) z2)) h
   rw [decide_eq_false z,decide_eq_true this];rfl
 refine⟨λi j hi hj hij=>?_,λi j k hi hj hk h1 h2=>?_⟩
 ·have hne:kp i≠kp j:=λe=>hij (hd i j hi hj e);unfold aQ;by_cases e:(kp i).1=(kp j).1
  ·have e2:(kp i).2≠(kp j).2:=λz=>hne (Prod.ext e z);simp only [e,Int.lt_irrefl,decide_false,L1,decide_true,Lb];exact tl _ _ e2
  ·have e':(kp j).1≠(kp i).1:=λz=>e z.symm;simp only [e,e',decide_false,MT,NC];by_cases z:(kp i).1 < (kp j).1
   ·rw [decide_eq_true z,decide_eq_false Qc];rfl
   ·rw [decide_eq_false z,decide_eq_true Qc];rfl
 ·unfold aQ at h1 h2⊢;simp only [MN,Ks,decide_eq_true_eq] at h1 h2⊢;rcases h1 with h1 | ⟨h1,h1'⟩ <;> rcases h2 with h2 | ⟨h2,h2'⟩
  ·left;omega
  ·left;omega
  ·left;omega
  ·right;exact⟨h1.trans h2,OE h1' h2'⟩
theorem xC{ks:List Qj}{kp:Nat->Int×Str}(hk:∀i v,ks[i]?=some v->fV s.heap v (kp i))(h2:2<=ks.length){Q:SortKind->Ql->Prop}(h:Q (tuples' true) s):Qr (Qs P w) A (keyKind' ks.toArray) Q E s:=by
 have key:∀(ks:List Qj)(kp:Nat->Int×Str),(∀i v,ks[i]?=some v->fV s.heap v (kp i))->∃fs:List Qj,KatTups s.heap ks fs/\fs.length=ks.length/\∀v∈fs,∃n t,v=Mu n t:=by
  intro ks
  induction ks with
  | nil=>intro kp _;exact⟨[],KatTups.nil,rfl,Qh⟩
  | cons v ks ih=>
   intro kp hk;obtain⟨fs,a,b,c⟩:=ih (λi=>kp (i+1)) λi v e=>hk (i+1) v (by simpa using e);obtain⟨ad,o,n,t,u,rfl,h1,h2,h3⟩:=hk 0 v rfl;refine⟨.int (kp 0).1 t::fs,KatTups.cons h1 h2 h3 rfl a,by simp [b],λx hx=>?_⟩;rcases Kh.mp hx with rfl | hx
   ·exact⟨_,_,rfl⟩
   ·exact c x hx
 obtain⟨fs,a,b,c⟩:=key ks kp hk;refine kat_kind (T:= .type "int") a Qc (λv hv=>?_) Qb h;obtain⟨n,t,rfl⟩:=c v hv;exact .now
theorem xD{n:Nat}{ks:List Qj}{kp:Nat->Int×Str}(hn:ks.length=n)(h2:2<=n)(hk:∀i v,ks[i]?=some v->fV s.heap v (kp i))(hd:∀i j,i < n->j < n->kp i=kp j->i=j){G:Array Nat->Ql->Prop}
 (q:∀p,bR n p->Up (λi j=>aQ (kp i) (kp j)) p n->G p s):(kas_sort n).kasWp (kas_ask P w A (tuples' true) ks) G s:=by
 refine Gn (lt:=λi j=>aQ (kp i) (kp j)) (I:=λs'=>s'=s) ⟨λi j C s' hi hj hij e c=>?_⟩ (xB hd) h2 rfl λp s' e hp hu=>by subst e;exact q p hp hu
 subst e;have ei:ks[i]?=some (ks.getD i .none):=by simp [show i < ks.length by omega]
 have ej:ks[j]?=some (ks.getD j .none):=by simp [show j < ks.length by omega]
 exact Gp (hk i _ ei) (hk j _ ej) (c _ rfl)
def xE(kS D:Qk)(s:Ql)(out:List Qj)(C:Ql->Prop):Prop:=∀h' c,h'.get? D=some (QE "list" out.toArray c)->(∀b u,b≠kS->b≠D->s.heap.get? b=some u->h'.get? b=some u)->C {s with heap:=h'}
theorem xF{st:SortSt}{kS D:Qk}{ks out:List Qj}{e e1:Nat}{C:OS->Ql->Prop}(hk:s.heap.get? kS=some (QE "list" ks.toArray e))(hD:s.heap.get? D=some (QE "list" #[] e1))(hne:kS≠D)(hf:failedOf st=none)
 (ho:(arrOf st).map (·.2)=out.toArray)(h64:out.length < 64)(hk64:ks.length < 64)(q:xE kS D s out (C (.done (.ret .none)))):Qr (Qs P w) A (ksk_tail D false e1 (.ref kS) st) C E s:=by
 have hsl:Qp=16777216:=QS;unfold ksk_tail;rw [ho];refine Qm (Q2 hk rfl (Qm (wpAny_letGo ?_)) (by rw [Ke];omega) (Lq _));have u1:=L4 s.heap kS (Ld λ_=>(#[]:Array Qj));have hD1:(s.heap.update kS (Ld λ_=>(#[]:Array Qj))).get? D=some (QE "list" #[] e1):=(u1.2 D (Ne.symm hne)).trans hD;refine Qm (seqEpoch_at (s:={s with heap:=s.heap.update kS (Ld λ_=>(#[]:Array Qj))}) hD1 rfl ?_);rw [Qe Qh];refine Qm (Q2 (s:={s with heap:=s.heap.update kS (Ld λ_=>(#[]:Array Qj))}) hD1 rfl ?_ (Lq _) (by show out.toArray.size<=_;rw [Ke];omega));have u2:=L4 (s.heap.update kS (Ld λ_=>(#[]:Array Qj))) D (Ld λ_=>out.toArray);rw [hf];simp only [bne_self_eq_false,Mb,if_false];exact Qq (q _ _ (Q4 hD1 λ_=>out.toArray) λb u n1 n2 z=>(u2.2 b n2).trans ((u1.2 b n1).trans z))
theorem Gq{kS D:Qk}{vs ks:List Qj}{n e e1:Nat}{kp:Nat->Int×Str}{C:OS->Ql->Prop}(hv:vs.length=n)(hn:ks.length=n)(h64:n < 64)(hks:s.heap.get? kS=some (QE "list" ks.toArray e))(hD:s.heap.get? D=some (QE "list" #[] e1))(hne:kS≠D)
 (hk:∀i v,ks[i]?=some v->fV s.heap v (kp i))(hd:∀i j,i < n->j < n->kp i=kp j->i=j)
 (q:∀p,bR n p->Up (λi j=>aQ (kp i) (kp j)) p n->xE kS D s (p.toList.map λi=>vs.getD i .none) (C (.done (.ret .none)))):Qr (Qs P w) A (ksk_end D false vs.toArray e1 (.ref kS) ks.toArray) C E s:=by
 unfold ksk_end;have hz:vs.toArray.size=n:=by rw [Ke];exact hv
 by_cases h2:n < 2
 ·simp only [Mb,if_false,hz,h2,if_true];refine Qm (Qq (Qm (Qq ?_)));refine xF hks hD hne rfl (out:=vs) ?_ Qc Qc ?_
  ·show(ks.toArray.zip vs.toArray).map (·.2)=vs.toArray;apply N1.mp;simp only [Pe,Pf];rw [Pg Qc]
  ·have:=q _ (qj n) (λi j a b=>by omega);have e:((OR (KU n)).toList.map λi=>vs.getD i Mv)=vs:=by
    apply MG (by simp [hv]);intro i a b;simp at a b⊢;rw [Kc b];rfl
   rw [e] at this;exact this
 ·simp only [Mb,if_false,hz,h2];refine Qm (xC hk Qc ?_);have hl:ks.length=vs.length:=Qc
  refine Qm (QI (kat_run (κ:=tuples' true) (E:=λ_ _=>False) (Q:=λst' s'=>s'=s/\∃p,bR n p/\Up (λi j=>aQ (kp i) (kp j)) p n/\arrOf st'=p.map (kas_item (ks.toArray.zip vs.toArray))/\failedOf st'=none) (G:=λp s'=>s'=s/\bR n p/\Up (λi j=>aQ (kp i) (kp j)) p n) hl Qc Qc
   (λp st' s' a b c d=>⟨d.1,p,d.2.1,d.2.2,b,c⟩) ?_) (λr s' hr=>?_) λ_ _ x=>x.elim)
  ·rw [hv];exact xD hn Qc hk hd λp a b=>⟨rfl,a,b⟩
  ·obtain⟨rfl,p,p1,p2,p3,p4⟩:=hr;refine xF hks hD hne p4 (kat_snds hl p3) ?_ Qc (q p p1 p2);rw [J1,KZ,p1.size];exact h64
end
section
variable {X:Cx} {RB:List (Qk×Obj)} {σ:St} {H:Hp} {s:Ql}
theorem af.track{o:HO}{D:Qk}{ch:List Qk}{t':Nat}{h':Qy}(I:af X RB σ H s)(hD:D∈ch)(f:∀b∈ch,fE X RB H b)(k:∀b u,b ∉ ch->s.heap.get? b=some u->h'.get? b=some u)(new:bN X.prog X.w (aq H D o) h' D o):af X RB σ (aq H D o) {s with heap:=h',toks:=t'}:=by
 have nC:∀b u,H b=some u->b ∉ ch:=λb u e z=>by rw [(f b z).1] at e;cases e
 have nD:∀b u,H b=some u->b≠D:=λb u e z=>nC b u e (by rw [z];exact hD);refine I.step (g':=s.gens) (d':=s.drawn) (ch:=ch) (λb hb=>?_) (λb o _ _ hc e _=>k b o hc e) (λb o _ _ hc e _=>⟨o.slots,k b o hc e⟩) (λb o hc _ n=>by rw [aH (λz=>hc (by rw [z];exact hD))];exact n)
  (λb o hc e=>⟨o,k b o hc e⟩) (λb xs e=>by rw [aH (nD _ _ e)];exact e) (λb u xs e=>by rw [aH (nD _ _ e)];exact e) (λb ps e=>⟨#[],by rw [aH (nD _ _ e),e];simp⟩) (λm hm=>hm.at' λo e=>k _ o (λz=>(f _ z).2.1 rfl) e) (λb u e=>?_) I.bare
 ·obtain⟨f0,f1,f2,f3,f4,f5⟩:=f b hb;exact⟨f3,f1,f4,f5⟩
 ·by_cases hb:b=D
  ·subst hb;rw [bq] at e;cases e;exact new
  ·rw [aH hb] at e;refine(I.hok b u e).stay (λc v hc q=>k c v (λz=>?_) q) (λc q=>by rw [aH (nD _ _ q)];exact q) (λc xs q=>by rw [aH (nD _ _ q)];exact q);rcases hc with r | r
   ·subst r;exact nC _ _ e z
   ·exact nC _ _ r z
theorem Gr{k:Nat}{f:Qk}{fd:Qt}{ps:List Str}{sp:Sp}{v:V}{u:Qj}{Q:VK}(Fk:aM X.prog X.w X.K X.mg X.base CX0 k f fd ps sp)(hr:bx k X.A.in1.in1)(hb:fI X.K fd ps [])(I:af X RB σ H s)(r:aC v u)(h:sp [v] H Q E0):
 Qr (Qs X.prog X.w) X.A.in1.in1 (call (.ref f) [u]) (EP X RB σ Q) (λ_ _=>False) s:=by
 have r2:aD [v] [u]:= .cons r .nil;have hl:([u]++[]).length=ps.length:=by
  have:=Fk.len _ _ _ _ h;simpa using this
 have hb2:=hb s [u] I.kIn hl;rw [LV] at hb2;refine wpAny_call (codeAny_mono (Fk.run X.A.in1.in1 X.stack s H ⟨[u],[]⟩ [u] [v] Q E0 hr I.env0.in1.in1 hb2 r2 h) λr s' hq=>?_);cases r with
 | error e=>exact hq.elim
 | ok fl=>
  cases fl with
  | ret u=>exact I.after hq
  | next=>exact LL hq
  | brk=>exact LL hq
  | cont=>exact LL hq
def iC(X:Cx)(RB:List (Qk×Obj))(b:Qk):Prop:=b≠X.env.locals/\b ∉ X.fs/\(b∈X.ex\/X.s₀.heap.objs.size<=b)/\(∀x c,X.env.cells.lookup x=some c->c≠b)/\∀p∈X.pn++RB,p.1≠b
theorem af.out(I:af X RB σ H s){b:Qk}(hb:s.heap.objs.size<=b):iC X RB b:=(I.fpOk (H':=H) hb (I.hok.fresh hb)).2
structure iD (X:Cx) (RB:List (Qk×Obj)) (σ:St) (H:Hp) (O:Ex) (kS D:Qk) (e1:Nat) (kds:List Qi) (ks:List Qj) (s:Ql):Prop where
 ex:∃H' kvs e,af X (RB++[(kS,QE "list" ks.toArray e),(D,QE "list" #[] e1)]) σ H' s/\ar H H'/\ai X.K H' O kvs kds/\aD kvs ks
theorem iD.push{O:Ex}{kS D:Qk}{e1:Nat}{kds:List Qi}{ks:List Qj}{H':Hp}{kvs:List V}{e:Nat}{h':Qy}{kv:V}{kd:Qi}{k:Qj}(oS:iC X RB kS)(oD:iC X RB D)(hne:kS≠D)
 (I:af X (RB++[(kS,QE "list" ks.toArray e),(D,QE "list" #[] e1)]) σ H' s)(hs:ar H H')(hk:ai X.K H' O kvs kds)(hv:aD kvs ks)(k1:Dt X.K H' O kv kd)(k2:aC kv k)
 (hu:∃e',h'.get? kS=some (QE "list" (ks++[k]).toArray e'))(kept:∀b u,b≠kS->s.heap.get? b=some u->h'.get? b=some u):iD X RB σ H O kS D e1 (kds++[kd]) (ks++[k]) {s with heap:=h'}:=by
 obtain⟨e',hu⟩:=hu;have pS:=I.pin (kS,QE "list" ks.toArray e) Qh;have pD:=I.pin (D,QE "list" #[] e1) Qh;have I1:af X RB σ H' s:=I.pins_of λp hp=>I.pin p (by simp only [Kn] at hp⊢;exact .inr (.inl hp));have I2:af X RB σ H' {s with heap:=h'}:=I1.turned (t':=s.toks) (it:=kS) kept pS.2.1 oS.1 oS.2.2.1 oS.2.2.2.1 oS.2.2.2.2;refine⟨H',kvs++[kv],e',I2.pins_of λp hp=>?_,hs,hk.append (.cons k1 .nil),hv.append (.cons k2 .nil)⟩;rcases Kn.mp hp with z | z
 ·exact I2.pin p (K6 _ z)
 ·simp only [Kh,Lk,or_false] at z;rcases z with rfl | rfl
  ·exact⟨hu,pS.2.1,oS.1,oS.2.1,λv z=>by cases z⟩
  ·exact⟨kept _ _ (Ne.symm hne) pD.1,pD.2.1,oD.1,oD.2.1,λv z=>by cases z⟩
theorem xG{k:Nat}{f:Qk}{fd:Qt}{ps:List Str}{F:List Qi->(Qi->Prop)->Prop}{O:Ex}{kS D:Qk}{e1:Nat}{kd:Qi->Qi}(Fk:aM X.prog X.w X.K X.mg X.base CX0 k f fd ps (aT X.K F))(hr:bx k X.A.in1.in1)(hb:fI X.K fd ps [])(trk:∀l,O l->H l≠none)
 (oS:iC X RB kS)(oD:iC X RB D)(hne:kS≠D){body:Qj->PUnit->Sem (ForInStep PUnit)}{E:Qj->Ql->Prop}
 (hbo:∀(x:Qj) (s:Ql) (Q':Ql->Prop),Qr (Qs X.prog X.w) X.A.in1.in1 (call (.ref f) [x]) (λk s'=>Qr (Qs X.prog X.w) X.A.in1.in1 (N7 (.ref kS) (·.push k)) (λ_ s''=>Q' s'') (λ_ _=>False) s') (λ_ _=>False) s->Qr (Qs X.prog X.w) X.A.in1.in1 (body x ⟨⟩) (λr s'=>r= .yield ⟨⟩/\Q' s') E s):
 ∀(r:List Qj)(xr:List V)(dr:List Qi)(kds:List Qi)(ks:List Qj)(s:Ql)(Q:Ql->Prop),aD xr r->ai X.K H O xr dr->(∀d∈dr,∀R:Qi->Prop,R (kd d)->F [d] R)->iD X RB σ H O kS D e1 kds ks s->ks.length+r.length < 64->
  (∀ks' s',iD X RB σ H O kS D e1 (kds++dr.map kd) ks' s'->ks'.length=ks.length+r.length->Q s')->Qr (Qs X.prog X.w) X.A.in1.in1 (forIn r PUnit.unit body) (λ_ s'=>Q s') E s
 | [],xr,dr,kds,ks,s,Q,hv,hd,hF,M,hl,q=>by
  cases hv;cases hd;rw [Pr];exact Qq (q ks s (by rw [LA,LV];exact M) Qh)
 | x::r,xr,dr,kds,ks,s,Q,hv,hd,hF,M,hl,q=>by
  cases hv with
  | @cons v _ xr _ h1 h2=>
   cases hd with
   | @cons _ d _ dr g1 g2=>
    rw [Pk];rw [Kt] at hl;obtain⟨H',kvs,e,I,hs,hk,hvk⟩:=M.ex;refine Qm (QI (hbo x s (λs'=>∃k,iD X RB σ H O kS D e1 (kds++[kd d]) (ks++[k]) s') (QI (Gr (Q:=λv2 H2=>ar H' H2/\Dt X.K H2 O v2 (kd d)) Fk hr hb I h1 ⟨O,[d],λy=>y=kd d,λl z e=>trk l z (by
     cases q:H l with
     | none=>rfl
     | some u=>rw [hs _ _ q] at e;cases e),.cons (g1.mono hs) .nil,hF d Qh _ rfl,λy v2 H2 e s2 r2=>by subst e;exact⟨s2,r2⟩⟩) (λkk s' hq=>?_) λ_ _ z=>z)) (λr' s' hq=>?_) λ_ _ z=>z)
    ·obtain⟨kv,H2,I2,rk,s2,dk⟩:=hq;have pS:=I2.pin (kS,QE "list" ks.toArray e) Qh;refine Q2 pS.1 rfl ⟨kk,?_⟩ (by rw [Ke];have:Qp=16777216:=QS;omega) (by rw [Array.size_push,Ke];have:Qp=16777216:=QS;omega);have u1:=L4 s'.heap kS (Ld (·.push kk));have gk:=Q4 pS.1 (·.push kk);rw [show ks.toArray.push kk=(ks++[kk]).toArray by simp] at gk;exact iD.push oS oD hne I2 (hs.trans s2) (hk.mono s2) hvk dk rk ⟨_,gk⟩ λb u n z=>(u1.2 b n).trans z
    ·obtain⟨rfl,kk,M'⟩:=hq;refine xG Fk hr hb trk oS oD hne hbo r xr dr (kds++[kd d]) (ks++[kk]) s' Q h2 g2 (λy hy=>hF y (by simp [hy])) M' (by simp;omega) λks' s2 M2 l2=>q ks' s2 ?_ (by rw [l2];simp;omega);rw [Kb,<-List.singleton_append,<-NJ];exact M2
def cn(p:Int×Str):Qi:= .tuple [.int p.1,.str p.2]
theorem qp{h:V}{u:Qj}{O:Ex}{p:Int×Str}(I:af X RB σ H s)(d:Dt X.K H O h (cn p))(r:aC h u):fV s.heap u p:=by
 obtain⟨a,xs,rfl,hq,hd⟩:=(Sh.dt d).tup;cases r;obtain⟨its,rv,⟨o,e,c,n,dd⟩,_⟩:=I.tuple hq;cases hd with
 | cons g1 g2=>
  cases g2 with
  | cons g2 g3=>
   cases g3;cases g1;cases g2;cases rv with
   | cons r1 r2=>
    cases r2 with
    | cons r2 r3=>
     cases r3;obtain⟨t,rfl⟩:=r1;obtain⟨u,rfl⟩:=r2;exact⟨a,o,n,t,u,rfl,e,c,dd⟩
theorem k6{K:J0}{H:Hp}{O:Ex}:∀{xs:List V}{ds:List Qi}{i:Nat}{d:Qi},ai K H O xs ds->ds[i]?=some d->∃x,xs[i]?=some x/\Dt K H O x d
 | _,_,0,d,.cons h r,e=>by simp at e;subst e;exact⟨_,rfl,h⟩
 | _,_,i+1,d,.cons h r,e=>by simp only [Mt] at e⊢;exact k6 r e
theorem nc{xs:List V}{us:List Qj}:∀{i:Nat}{u:Qj},aD xs us->us[i]?=some u->∃x,xs[i]?=some x/\aC x u:=by
 intro i u h e;have hl:=h.length;have hi:i < us.length:=(Kg.mp e).1;obtain⟨u',e',r⟩:=h.get (show xs[i]?=some (xs[i]'Qc) by simp);rw [e] at e';cases e';exact⟨_,Qh,r⟩
theorem Gs{O:Ex}{kS D:Qk}{e1:Nat}{kps:List (Int×Str)}{ks:List Qj}(M:iD X RB σ H O kS D e1 (kps.map cn) ks s):(∀i v,ks[i]?=some v->fV s.heap v (kps.getD i (0,J4 "")))/\ks.length=kps.length:=by
 obtain⟨H',kvs,e,I,hs,hk,hv⟩:=M.ex;have hl:ks.length=kps.length:=by rw [<-hv.length,hk.length,J1]
 refine⟨λi v ei=>?_,hl⟩;have hi:i < kps.length:=by rw [<-hl];exact(Kg.mp ei).1
 obtain⟨x,ex,rx⟩:=nc hv ei;obtain⟨y,ey,dy⟩:=k6 (i:=i) (d:=cn kps[i]) hk (by rw [Kj,Kc hi];rfl);rw [ex] at ey;cases ey;have:kps.getD i (0,J4 "")=kps[i]:=by simp [hi]
 rw [this];exact qp I dy rx
theorem Gu{k:Nat}{f:Qk}{fd:Qt}{ps:List Str}{F:List Qi->(Qi->Prop)->Prop}{O:Ex}{D:Qk}{n0:Nat}{kf:Qi->Int×Str}{vs:List Qj}{xs:List V}{ds:List Qi}{Q:V->Hp->Prop}{C:OS->Ql->Prop}{E:Qj->Ql->Prop}
 (Fk:aM X.prog X.w X.K X.mg X.base CX0 k f fd ps (aT X.K F))(hr:bx k X.A.in1.in1)(hb:fI X.K fd ps [])(trk:∀l,O l->H l≠none)(I:af X RB σ H s)(oD:iC X RB D)(hHD:H D=none)(hD:s.heap.get? D=some (QE "list" vs.toArray n0))
 (hv:aD xs vs)(hd:ai X.K H O xs ds)(hF:∀d∈ds,∀R:Qi->Prop,R (cn (kf d))->F [d] R)(h64:ds.length < 64)(nd:(ds.map kf).Nodup)
 (q:∀(H':Hp) (xs':List V) (ds':List Qi),ar H H'->H' D=none->ai X.K H' O xs' ds'->ds'.Perm ds->ds'.Pairwise (λa b=>aQ (kf a) (kf b)=true)->Q (.ref D) (aq H' D (.lst xs')))
 (fin:∀s',EP X RB σ Q (.ref D) s'->C (.done (.ret .none)) s'):Qr (Qs X.prog X.w) X.A.in1.in1 (ksk_tree D (.ref f) false) C E s:=by
 have hsl:Qp=16777216:=QS;have lv:vs.length=ds.length:=by rw [<-hv.length,hd.length]
 have lD:D < s.heap.objs.size:=Km hD;unfold ksk_tree;refine Qm (listItems_at hD rfl (Qm (Q2 hD rfl ?_ (by rw [Ke];omega) (Lq _))));have u1:=L4 s.heap D (Ld λ_=>(#[]:Array Qj));have g1:=Q4 hD λ_=>(#[]:Array Qj);have I1:af X RB σ H {s with heap:=s.heap.update D (Ld λ_=>(#[]:Array Qj))}:=I.turned (t':=s.toks) (it:=D) (λb u n z=>(u1.2 b n).trans z) hHD oD.1 oD.2.2.1 oD.2.2.2.1 oD.2.2.2.2;generalize s.heap.update D (Ld λ_=>(#[]:Array Qj))=h1 at*;generalize (if (#[]:Array Qj).size==vs.toArray.size then n0 else n0+1)=e1 at*;refine Qm (seqEpoch_at (s:={s with heap:=h1}) g1 rfl ?_);refine Qm (wpAny_newTuple ?_ (by show vs.length<=_;omega));have I2:af X RB σ H {s with heap:=h1.push {cls:= .type "tuple",data:= .seq vs.toArray}}:=I1.kept (t':=s.toks) λb u z=>J9 _ z;have g2:(h1.push {cls:= .type "tuple",data:= .seq vs.toArray}).get? D=some (QE "list" #[] e1):=J9 _ g1;show Qr _ _ _ _ _ {s with heap:=h1.push {cls:= .type "tuple",data:= .seq vs.toArray}};generalize h1.push {cls:= .type "tuple",data:= .seq vs.toArray}=h2 at*;refine Qm (Rj (s:={s with heap:=h2}) ?_ (Lq _));have oS:iC X RB h2.objs.size:=I2.out (J8 _);have hne:h2.objs.size≠D:=NY (Km g2);have I3:af X RB σ H {s with heap:=h2.push (QE "list" #[] 0)}:=I2.kept (t':=s.toks) λb u z=>J9 _ z;have hS0:H h2.objs.size=none:=I2.hok.fresh (J8 _);have M0:iD X RB σ H O h2.objs.size D e1 [] [] {s with heap:=h2.push (QE "list" #[] 0)}:=by
  refine⟨H,[],0,I3.pins_of λp hp=>?_,ar.refl _,.nil,.nil⟩;rcases Kn.mp hp with z | z
  ·exact I3.pin p (K6 _ z)
  ·simp only [Kh,Lk,or_false] at z;rcases z with rfl | rfl
   ·exact⟨KN _ rfl,hS0,oS.1,oS.2.1,λv z=>by cases z⟩
   ·exact⟨J9 _ g2,hHD,oD.1,oD.2.1,λv z=>by cases z⟩
 refine QH ?_;unfold ksk_rest;refine Qm (wpAny_rule ?_);rw [List.forIn_toArray];refine Qm (xG (kd:=λd=>cn (kf d)) (E:=E) Fk hr hb trk oS oD hne (λx s' Q' hx=>?_) vs xs ds [] [] _ _ hv hd hF M0 (by simp;omega) λks s' M hkl=>?_)
 ·refine Qm (wpAny_attempt (QI hx (λkk s2 hk=>?_) λ_ _ z=>z.elim));exact Qm (QI hk (λ_ s3 z=>Qq ⟨rfl,z⟩) λ_ _ z=>z.elim)
 ·rw [LX,<-Function.comp_def,<-Kx] at M;obtain⟨hk,hkn⟩:=Gs M;rw [J1] at hkn;obtain⟨H',kvs,e,I4,hs,_,_⟩:=M.ex;have pS:=I4.pin (h2.objs.size,QE "list" ks.toArray e) Qh;have pD:=I4.pin (D,QE "list" #[] e1) Qh;have I5:af X RB σ H' s':=I4.pins_of λp hp=>I4.pin p (by simp only [Kn] at hp⊢;exact .inr (.inl hp));refine Qm (listItems_at pS.1 rfl ?_);refine Gq (n:=ds.length) (kp:=λi=>(ds.map kf).getD i (0,J4 "")) lv hkn h64 pS.1 pD.1 hne hk (λi j hi hj ee=>?_) λp pp pu h' c gD kept=>?_
  ·have e1':(ds.map kf).getD i (0,J4 "")=(ds.map kf)[i]'(by simpa using hi):=by simp [hi]
   have e2':(ds.map kf).getD j (0,J4 "")=(ds.map kf)[j]'(by simpa using hj):=by simp [hj]
   rw [e1',e2'] at ee;exact(Na nd).mp ee
  ·refine fin _ ⟨.ref D,aq H' D (.lst (p.toList.map λi=>xs.getD i .non)),?_,rfl,q H' _ (p.toList.map λi=>ds.getD i .none) hs pD.2.1 ?_ ?_ ?_⟩
   ·refine I5.track (t':=s'.toks) (ch:=[h2.objs.size,D]) Qh (λb hb=>?_) (λb u hb z=>kept b u (λy=>hb (by simp [y])) (λy=>hb (by simp [y])) z) ⟨?_,_,c,?_,gD⟩
    ·simp only [Kh,Lk,or_false] at hb;rcases hb with rfl | rfl
     ·exact⟨pS.2.1,oS⟩
     ·exact⟨pD.2.1,oD⟩
    ·rw [J1,KZ,pp.size];omega
    ·have:∀l:List Nat,(∀i∈l,i < ds.length)->aD (l.map λi=>xs.getD i .non) (l.map λi=>vs.getD i .none):=by
      intro l
      induction l with
      | nil=>intro _;exact .nil
      | cons a l ih=>
       intro hl;have ha:=hl a Qh;refine .cons ?_ (ih λi hi=>hl i (by simp [hi]));obtain⟨x,ex,rx⟩:=nc hv (show vs[a]?=some (vs[a]'Qc) by simp);have e1':xs.getD a .non=x:=by simp [ex]
       have e2':vs.getD a .none=vs[a]'Qc:=by simp [show a < vs.length by omega]
       show aC (xs.getD a .non) (vs.getD a .none);rw [e1',e2'];exact rx
     exact this _ λi hi=>by simpa using pp.perm.mem_iff.mp hi
   ·have:∀l:List Nat,(∀i∈l,i < ds.length)->ai X.K H' O (l.map λi=>xs.getD i .non) (l.map λi=>ds.getD i .none):=by
     intro l
     induction l with
     | nil=>intro _;exact .nil
     | cons a l ih=>
      intro hl;have ha:=hl a Qh;refine .cons ?_ (ih λi hi=>hl i (by simp [hi]));obtain⟨x,ex,dx⟩:=k6 (i:=a) (d:=ds[a]) hd (by simp [ha]);have e1':xs.getD a .non=x:=by simp [ex]
      have e2':ds.getD a .none=ds[a]:=by simp [ha]
      show Dt X.K H' O (xs.getD a .non) (ds.getD a .none);rw [e1',e2'];exact dx.mono hs
    exact this _ λi hi=>by simpa using pp.perm.mem_iff.mp hi
   ·have h1:=pp.perm.map λi=>ds.getD i .none;have e:(KU ds.length).map (λi=>ds.getD i MI)=ds:=by
     apply MG Qh;intro i a b;simp at a b⊢;rw [Kc b];rfl
    rw [e] at h1;exact h1
   ·rw [La,Mn];intro i j hi hj hij;have:=pu i j hij (by rw [KZ,pp.size] at hj;exact hj);have ei:p.getD i 0=p.toList[i]:=by simp [MV,show i < p.size by simpa using hi]
    have ej:p.getD j 0=p.toList[j]:=by simp [MV,show j < p.size by simpa using hj]
    rw [ei,ej] at this;have li:p.toList[i] < ds.length:=by simpa using pp.perm.mem_iff.mp (K9 hi)
    have lj:p.toList[j] < ds.length:=by simpa using pp.perm.mem_iff.mp (K9 hj)
    have ff:∀a,a < ds.length->(ds.map kf).getD a (0,J4 "")=kf (ds.getD a .none):=λa ha=>by simp [ha]
    dsimp only at this;rw [ff _ li,ff _ lj] at this;exact this
theorem Gv{k:Nat}{f l:Qk}{fd:Qt}{ps:List Str}{F:List Qi->(Qi->Prop)->Prop}{O:Ex}{kf:Qi->Int×Str}{xs:List V}{ds:List Qi}{Q:VK}
 (hc:X.calm=true)(Fk:aM X.prog X.w X.K X.mg X.base CX0 k f fd ps (aT X.K F))(hr:bx k X.A.in1.in1)(hb:fI X.K fd ps [])(trk:∀l,O l->H l≠none)(I:af X RB σ H s)(hq:aX X.K H l xs)
 (hd:ai X.K H O xs ds)(hF:∀d∈ds,∀R:Qi->Prop,R (cn (kf d))->F [d] R)(h64:ds.length < 64)(nd:(ds.map kf).Nodup)
 (q:∀(H':Hp) (p:Qk) (xs':List V) (ds':List Qi),ar H H'->H' p=none->ai X.K H' O xs' ds'->ds'.Perm ds->ds'.Pairwise (λa b=>aQ (kf a) (kf b)=true)->Q (.ref p) (aq H' p (.lst xs'))):
 Qr (Qs X.prog X.w) X.A (call (.builtin "sorted") [.ref l] [(J4 "key",.ref f)]) (EP X RB σ Q) X.xe s:=by
 have hsl:Qp=16777216:=QS;obtain⟨vs,hv,pl,hz⟩:=I.list hq;have lv:vs.length=ds.length:=by rw [<-hv.length,hd.length]
 refine call_function_entry_kw kind_sorted plain_sorted entry_sorted (ksk_s1 _ _) ?_;unfold Builtin.«sorted»;refine Qm (m:=checkCount "sorted" 1 1 _) (Qq ?_);refine Qm (collect_list pl.isList ?_ Qc);have I1:af X RB σ H {s with heap:=(s.heap.push (QE "list" #[] 0)).update s.heap.objs.size (Ld (·++vs.toArray))}:=by
  refine I.kept (t':=s.toks) λb u z=>?_;have hlt:b < s.heap.objs.size:=Km z;exact(OI _ _ _ _ (KH hlt)).trans (J9 _ z)
 generalize (s.heap.push (QE "list" #[] 0)).update s.heap.objs.size (Ld (·++vs.toArray))=h1 at*;refine Qm (Rj (s:={s with heap:=h1}) ?_ Qc);have I2:af X RB σ H {s with heap:=h1.push (QE "list" vs.toArray 0)}:=I1.kept (t':=s.toks) λb u z=>J9 _ z;have gD:(h1.push (QE "list" vs.toArray 0)).get? h1.objs.size=some (QE "list" vs.toArray 0):=KN _ rfl;refine Qm (QH (wpAny_call_entry_kw slot_list_sort ⟨_,gD,rfl⟩ entry_list_sort ?_ (ksk_l1 _ _)));rw [ksk_t1];refine Gu (kf:=kf) Fk hr hb trk I2 (I1.out (J8 _)) (I1.hok.fresh (J8 _)) gD hv hd hF h64 nd (Q:=Q) (λH' xs' ds' a b c d e=>q H' _ xs' ds' a b c d e) λs' hs'=>?_;exact⟨_,rfl,Qq ⟨_,rfl,hs'⟩⟩
end
section
variable {P:Qu} {w:Qw} {A:QC} {E:Qj->Ql->Prop} {s:Ql}
theorem Gw{D:Qk}{vs:List Qj}{n n0:Nat}{kp:Nat->Int×Str}{C:OS->Ql->Prop}(hv:vs.length=n)(h64:n < 64)(hD:s.heap.get? D=some (QE "list" vs.toArray n0))(hk:∀i v,vs[i]?=some v->fV s.heap v (kp i)/\v≠ .ref D)(hd:∀i j,i < n->j < n->kp i=kp j->i=j)
 (q:∀p,bR n p->Up (λi j=>aQ (kp i) (kp j)) p n->∀h' c,h'.get? D=some (QE "list" (p.toList.map λi=>vs.getD i .none).toArray c)->(∀b u,b≠D->s.heap.get? b=some u->h'.get? b=some u)->C (.done (.ret .none)) {s with heap:=h'}):
 Qr (Qs P w) A (Builtin.«list.sort» ⟨[.ref D],[]⟩) C E s:=by
 have hsl:Qp=16777216:=QS;rw [list_sort_plain];refine Qm (listItems_at hD rfl (Qm (Q2 hD rfl ?_ (by rw [Ke];omega) (Lq _))));have u1:=L4 s.heap D (Ld λ_=>(#[]:Array Qj));have g1:=Q4 hD λ_=>(#[]:Array Qj);have k1:∀b u,b≠D->s.heap.get? b=some u->(s.heap.update D (Ld λ_=>(#[]:Array Qj))).get? b=some u:=λb u n z=>(u1.2 b n).trans z;generalize s.heap.update D (Ld λ_=>(#[]:Array Qj))=h1 at*;generalize (if (#[]:Array Qj).size==vs.toArray.size then n0 else n0+1)=e1 at*;refine Qm (seqEpoch_at (s:={s with heap:=h1}) g1 rfl ?_);refine Qm (wpAny_newTuple ?_ (by show vs.length<=_;omega));refine Qm (Rj ?_ (Lq _));have g2:((h1.push {cls:= .type "tuple",data:= .seq vs.toArray}).push {cls:= .type "list",data:= .seq ([]:List Qj).toArray}).get? D=some (QE "list" #[] e1):=J9 _ (J9 _ g1);have k2:∀b u,b≠D->s.heap.get? b=some u->((h1.push {cls:= .type "tuple",data:= .seq vs.toArray}).push {cls:= .type "list",data:= .seq ([]:List Qj).toArray}).get? b=some u:=λb u n z=>J9 _ (J9 _ (k1 b u n z));show Qr _ _ _ _ _ {s with heap:=(h1.push {cls:= .type "tuple",data:= .seq vs.toArray}).push {cls:= .type "list",data:= .seq ([]:List Qj).toArray}};generalize (h1.push {cls:= .type "tuple",data:= .seq vs.toArray}).push {cls:= .type "list",data:= .seq ([]:List Qj).toArray}=h2 at*;refine QH ?_;have hz:vs.toArray.size=n:=by rw [Ke];exact hv
 have last:∀(st:SortSt)(p:Array Nat),bR n p->Up (λi j=>aQ (kp i) (kp j)) p n->failedOf st=none->(arrOf st).map (·.2)=(p.toList.map λi=>vs.getD i .none).toArray->
  Qr (Qs P w) A (do
   let touched:=(<-seqEpoch D) !=e1
   N7 (.ref D) λ_=>(arrOf st).map (·.2)
   if let some e:=failedOf st then rule "list.sort.comparison-raised";throw e
   if touched then rule "list.sort.modified";raiseError "ValueError" "list modified during sort"
   ret .none) C E {s with heap:=h2}:=by
  intro st p p1 p2 hf ho;rw [ho,hf];refine Qm (seqEpoch_at (s:={s with heap:=h2}) g2 rfl ?_);refine Qm (Q2 (s:={s with heap:=h2}) g2 rfl ?_ (Lq _) (by rw [Ke,J1,KZ,p1.size];omega));simp only [bne_self_eq_false,Mb,if_false];have u3:=L4 h2 D (Ld λ_=>(p.toList.map λi=>vs.getD i Mv).toArray);exact Qq (q p p1 p2 _ _ (Q4 g2 λ_=>(p.toList.map λi=>vs.getD i Mv).toArray) λb u n z=>(u3.2 b n).trans (k2 b u n z))
 by_cases h2':n < 2
 ·simp only [hz,h2',if_true];refine Qm (Qq (Qm (Qq ?_)));refine last _ (OR (KU n)) (qj n) (λi j a b=>by omega) rfl ?_;show(vs.toArray.zip vs.toArray).map (·.2)=_;apply N1.mp;simp only [Pe,Pf];rw [Pg Qc];apply MG (by simp [hv]);intro i a b;simp at a b⊢;rw [Kc a];rfl
 ·simp only [hz,h2',if_false];have hk2:∀i v,vs[i]?=some v->fV h2 v (kp i):=λi v e=>by
   obtain⟨⟨a,o,m,t,u,rfl,x1,x2,x3⟩,ne⟩:=hk i v e;exact⟨a,o,m,t,u,rfl,k2 a o (λz=>ne (by rw [z])) x1,x2,x3⟩
  refine Qm (xC (s:={s with heap:=h2}) hk2 Qc ?_);refine Qm (QI (kat_run (κ:=tuples' true) (ks:=vs) (s:={s with heap:=h2}) (E:=λ_ _=>False) (Q:=λst' s'=>s'={s with heap:=h2}/\∃p,bR n p/\Up (λi j=>aQ (kp i) (kp j)) p n/\arrOf st'=p.map (kas_item (vs.toArray.zip vs.toArray))/\failedOf st'=none) (G:=λp s'=>s'={s with heap:=h2}/\bR n p/\Up (λi j=>aQ (kp i) (kp j)) p n) rfl Qc Qc
   (λp st' s' a b c d=>⟨d.1,p,d.2.1,d.2.2,b,c⟩) ?_) (λr s' hr=>?_) λ_ _ x=>x.elim)
  ·rw [hv];exact xD (s:={s with heap:=h2}) hv Qc hk2 hd λp a b=>⟨rfl,a,b⟩
  ·obtain⟨rfl,p,p1,p2,p3,p4⟩:=hr;exact last _ p p1 p2 p4 (kat_snds rfl p3)
end
theorem Gx{X:Cx}:cT X (.builtin "sorted") (λxs H Q=>∃(p:Qk)(us:List V)(O:Ex)(ps:List (Int×Str)),xs=[.ref p]/\aX X.K H p us/\ai X.K H O us (ps.map cn)/\ps.length < 64/\ps.Nodup/\∀(l:Qk)(us':List V)(ps':List (Int×Str)),H l=none->ai X.K H O us' (ps'.map cn)->ps'.Perm ps->ps'.Pairwise (λa b=>aQ a b=true)->Q (.ref l) (aq H l (.lst us'))):=by
 intro RB s σ H xs ws Q I r h;obtain⟨l,us,O,ps,rfl,hq,hd,h64,nd,q⟩:=h;obtain⟨u,rfl,rx⟩:=cW r;cases rx;have hsl:Qp=16777216:=QS;obtain⟨vs,hv,pl,hz⟩:=I.list hq;have lv:vs.length=ps.length:=by rw [<-hv.length,hd.length,J1]
 refine NV kind_sorted plain_sorted entry_sorted (args_sorted1 _) ?_;unfold Builtin.«sorted»;refine Qm (m:=checkCount "sorted" 1 1 _) (Qq ?_);refine Qm (collect_list pl.isList ?_ Qc);have I1:af X RB σ H {s with heap:=(s.heap.push (QE "list" #[] 0)).update s.heap.objs.size (Ld (·++vs.toArray))}:=by
  refine I.kept (t':=s.toks) λb u z=>?_;have hlt:b < s.heap.objs.size:=Km z;exact(OI _ _ _ _ (KH hlt)).trans (J9 _ z)
 generalize (s.heap.push (QE "list" #[] 0)).update s.heap.objs.size (Ld (·++vs.toArray))=h1 at*;refine Qm (Rj (s:={s with heap:=h1}) ?_ Qc);have I2:af X RB σ H {s with heap:=h1.push (QE "list" vs.toArray 0)}:=I1.kept (t':=s.toks) λb u z=>J9 _ z;have gD:(h1.push (QE "list" vs.toArray 0)).get? h1.objs.size=some (QE "list" vs.toArray 0):=KN _ rfl;have hH:H h1.objs.size=none:=I1.hok.fresh (J8 _);have oD:iC X RB h1.objs.size:=I1.out (J8 _);have isp:∀i v,vs[i]?=some v->fV (h1.push (QE "list" vs.toArray 0)) v (ps.getD i (0,J4 ""))/\v≠ .ref h1.objs.size:=λi v ei=>by
  have hi:i < ps.length:=by rw [<-lv];exact(Kg.mp ei).1
  obtain⟨x,ex,rx⟩:=nc hv ei;obtain⟨y,ey,dy⟩:=k6 (i:=i) (d:=cn ps[i]) hd (by rw [Kj,Kc hi];rfl);rw [ex] at ey;cases ey;have e:ps.getD i (0,J4 "")=ps[i]:=by simp [hi]
  rw [e];have a:=qp I1 dy rx;refine⟨qp I2 dy rx,λz=>?_⟩;obtain⟨ad,o,m,t,u,e1,e2,_⟩:=a;rw [e1] at z;cases z;exact absurd (Km e2) (Mg _)
 refine Qm (QH (Q1 slot_list_sort ⟨_,gD,rfl⟩ entry_list_sort ?_ (args_list_sort _)));refine Gw (s:={s with heap:=h1.push (QE "list" vs.toArray 0)}) (n:=ps.length) (kp:=λi=>ps.getD i (0,J4 "")) lv h64 gD isp (λi j hi hj ee=>?_) λp pp pu h' c g kept=>?_
 ·have e1':ps.getD i (0,J4 "")=ps[i]:=by simp [hi]
  have e2':ps.getD j (0,J4 "")=ps[j]:=by simp [hj]
  rw [e1',e2'] at ee;exact(Na nd).mp ee
 ·have lt:∀i∈p.toList,i < ps.length:=λi hi=>by simpa using pp.perm.mem_iff.mp hi
  have dm:ai X.K H O (p.toList.map λi=>us.getD i .non) ((p.toList.map λi=>ps.getD i (0,J4 "")).map cn):=by
   have:∀l:List Nat,(∀i∈l,i < ps.length)->ai X.K H O (l.map λi=>us.getD i .non) ((l.map λi=>ps.getD i (0,J4 "")).map cn):=by
    intro l
    induction l with
    | nil=>intro _;exact .nil
    | cons a l ih=>
     intro hl;have ha:=hl a Qh;refine .cons ?_ (ih λi hi=>hl i (by simp [hi]));obtain⟨x,ex,dx⟩:=k6 (i:=a) (d:=cn ps[a]) hd (by rw [Kj,Kc ha];rfl);have e1':us.getD a .non=x:=by simp [ex]
     have e2':ps.getD a (0,J4 "")=ps[a]:=by simp [ha]
     show Dt X.K H O (us.getD a .non) (cn (ps.getD a (0,J4 "")));rw [e1',e2'];exact dx
   exact this _ lt
  have vm:aD (p.toList.map λi=>us.getD i .non) (p.toList.map λi=>vs.getD i .none):=by
   have:∀l:List Nat,(∀i∈l,i < ps.length)->aD (l.map λi=>us.getD i .non) (l.map λi=>vs.getD i .none):=by
    intro l
    induction l with
    | nil=>intro _;exact .nil
    | cons a l ih=>
     intro hl;have ha:=hl a Qh;refine .cons ?_ (ih λi hi=>hl i (by simp [hi]));obtain⟨x,ex,rx⟩:=nc hv (show vs[a]?=some (vs[a]'Qc) by simp);have e1':us.getD a .non=x:=by simp [ex]
     have e2':vs.getD a .none=vs[a]'Qc:=by simp [show a < vs.length by omega]
     show aC (us.getD a .non) (vs.getD a .none);rw [e1',e2'];exact rx
   exact this _ lt
  refine⟨_,rfl,Qq ⟨_,rfl,.ref h1.objs.size,aq H h1.objs.size (.lst (p.toList.map λi=>us.getD i .non)),?_,rfl,q _ _ (p.toList.map λi=>ps.getD i (0,J4 "")) hH dm ?_ ?_⟩⟩
  ·refine I2.track (t':=s.toks) (ch:=[h1.objs.size]) Qh (λb hb=>?_) (λb u hb z=>kept b u (λy=>hb (by simp [y])) z) ⟨?_,_,c,vm,g⟩
   ·rw [Kr] at hb;subst hb;exact⟨hH,oD⟩
   ·rw [J1,KZ,pp.size];omega
  ·have h1:=pp.perm.map λi=>ps.getD i (0,J4 "");have e:(KU ps.length).map (λi=>ps.getD i (0,J4 ""))=ps:=by
    apply MG Qh;intro i a b;simp at a b⊢;rw [Kc b];rfl
   rw [e] at h1;exact h1
  ·rw [La,Mn];intro i j hi hj hij;have:=pu i j hij (by rw [KZ,pp.size] at hj;exact hj);have ei:p.getD i 0=p.toList[i]:=by simp [MV,show i < p.size by simpa using hi]
   have ej:p.getD j 0=p.toList[j]:=by simp [MV,show j < p.size by simpa using hj]
   rw [ei,ej] at this;exact this
section
variable {X:Cx} {H0:Hp} {O0:Ex}
def xH(t:DA):DA:=λδ Q=>t δ λds=>∃ps:List (Int×Str),ds=[.list (ps.map cn)]/\ps.length < 64/\ps.Nodup/\∀ps':List (Int×Str),ps'.Perm ps->ps'.Pairwise (λa b=>aQ a b=true)->Q (ps'.map cn)
theorem Gy{a:Qn}{t:DA}{np p:Pos}(hg:Gl X "sorted")(hm:X.mg "sorted"=none)(hv:QB "sorted"=some (.builtin "sorted"))(ha:PA X [a] (el X.K H0 O0 t))(he:Qo [a] X.env=(false,eval a X.env)::Qo [] X.env:=by rfl)(hpl:(QJ p (Qo [] X.env)).any (·.1)=false:=by rfl):
 FE X H0 O0 (.Call (.Name "sorted" np) [a] [] p) (xH t):=
 (aS Gx hg hm hv ha (he:=he) (hpl:=hpl)).imp λσ H Q uu48=>by obtain⟨O,δ,Qd,w,q,k⟩:=uu48;exact⟨O,δ,_,w,q,λds vs H1 uu49 s1 r1=>by
  obtain⟨ps,e,h64,nd,q1⟩:=uu49;subst e;cases r1 with
  | cons h r=>
   cases r;obtain⟨a,us,rfl,h1,d1⟩:=h.lst;exact⟨a,us,O,ps,rfl,h1,d1,h64,nd,λl us' ps' hl hd hp hs=>k _ _ _ _ (q1 ps' hp hs) s1 hl hd⟩⟩
def xI(F:List Qi->(Qi->Prop)->Prop)(kf:Qi->Int×Str)(t:DA):DA:=λδ Q=>t δ λds0=>∃ds,ds0=[.list ds]/\(∀d∈ds,∀R:Qi->Prop,R (cn (kf d))->F [d] R)/\ds.length < 64/\(ds.map kf).Nodup/\∀ds',ds'.Perm ds->ds'.Pairwise (λa b=>aQ (kf a) (kf b)=true)->Q ds'
theorem Gz{a:Qn}{t:DA}{np p gp kp:Pos}{g:Str}{k:Nat}{f:Qk}{fd:Qt}{ps:List Str}{F:List Qi->(Qi->Prop)->Prop}(kf:Qi->Int×Str)(hc:X.calm=true)(Fk:aM X.prog X.w X.K X.mg X.base CX0 k f fd ps (aT X.K F))(hr:bx k X.A.in1.in1)(hb:fI X.K fd ps [])
 (hgg:Gl X g)(hgm:X.mg g=some (.ref f))(hg:Gl X "sorted")(hm:X.mg "sorted"=none)(hv:QB "sorted"=some (.builtin "sorted"))(ha:PA X [a] (el X.K H0 O0 t))(hdb:(g==("__debug__":Str))=false:=by decide)
 (he:QJ p (Qo [a] X.env)=(false,eval a X.env)::QJ p (Qo [] X.env):=by rfl)(hplain:(QJ p (Qo [a] X.env)).any (·.1)=false:=by rfl):
 FE X H0 O0 (.Call (.Name "sorted" np) [a] [⟨some "key",.Name g gp,kp⟩] p) (xI F kf t):=by
 intro RB s σ H Q I h;obtain⟨O,δ,Qd,w,q,kk⟩:=h;refine Q5 (jj I hg hm hv ?_);refine callWith_kw (aA (ha p RB s σ H (λvs H1=>∃ds0,ar H H1/\jy X.K H1 O vs ds0/\∃ds,ds0=[.list ds]/\(∀d∈ds,∀R:Qi->Prop,R (cn (kf d))->F [d] R)/\ds.length < 64/\(ds.map kf).Nodup/\∀ds',ds'.Perm ds->ds'.Pairwise (λa b=>aQ (kf a) (kf b)=true)->Qd ds') I ⟨O,δ,_,w,q,λds0 vs H1 q1 s1 r1=>⟨ds0,s1,r1,q1⟩⟩) λus s1 hus=>?_) he hplain rfl rfl;obtain⟨vs,H1,I1,rv,ds0,s1',r1,ds,e,hF,h64,nd,q1⟩:=hus;subst e;refine kws_cons (oj I1 hgg hgm (kws_nil ?_) hdb);cases r1 with
 | cons h r=>
  cases r;obtain⟨ad,xs,rfl,hq,hd⟩:=h.lst;obtain⟨u,rfl,rx⟩:=cW rv;cases rx;exact Gv (kf:=kf) hc Fk hr hb (w.mono s1').trk I1 hq hd hF h64 nd λH' l xs' ds' a b c d e=>kk _ _ _ _ (q1 ds' d e) (s1'.trans a) b c
end
section
open PySem.SeqAt
open PySem.AutoSeq1 (wpAny_loadPart')
open PySem.MeetsSeq PySem.MeetsSeq2 PySem.MeetsSeq3
theorem GA(l b:Qk)(n n2:Nat)(dd dd2:Option Qk)(sl sl2:Array (Option Qj))(p q:Int×Str)(t1 t2 t3 t4:Tok):
 Meets (Builtin.«tuple.__lt__» ⟨[.ref l,.ref b],[]⟩)
  (λ_ R s=>s.heap.get? l=some {cls:= .type "tuple",dict:=dd,data:= .seq #[.int p.1 t1,.str p.2 t2] n,slots:=sl}/\s.heap.get? b=some {cls:= .type "tuple",dict:=dd2,data:= .seq #[.int q.1 t3,.str q.2 t4] n2,slots:=sl2}/\
   R (.ok (.ret (.bool (aQ p q)))) s):=
 .of_wp λprog w A R s h=>by
  obtain⟨hp,g,d,tk,os⟩:=s;obtain⟨hl,hb,h⟩:=h;have f2:=AutoSeq1.sub_tuple_tuple
  wp_walk using QN hl,QN hb,wpAny_forIn_list _ (λrest b s'=>b.1=none/\s'=⟨hp,g,d,tk,os⟩/\(rest=[(Mu p.1 t1,Mu q.1 t3),(LZ p.2 t2,LZ q.2 t4)]\/(rest=[(LZ p.2 t2,LZ q.2 t4)]/\p.1=q.1)\/(rest=[]/\p.1=q.1/\p.2=q.2))) _
  case turn=>
   rintro⟨y,x⟩ rest b s' ⟨hb',rfl,h3⟩;rcases h3 with h3 | ⟨h3,e1⟩ | ⟨h3,_⟩
   ·injection h3 with hyx hrest
    injection hyx with hy hx
    subst hy hx;obtain⟨e,he,hiff⟩:=HT.eqAt_int A.in1 ⟨hp,g,d,tk,os⟩ p.1 t1 q.1 t3;refine Qm (he prog w _ _ ?_);cases e with
    | true=>
     wp_walk
     exact⟨rfl,rfl,.inr (.inl ⟨hrest,hiff.mp rfl⟩)⟩
    | false=>
     have ne:p.1≠q.1:=λz=>absurd (hiff.mpr z) K5;have hri:=HT.rcLt_int A.in1 ⟨hp,g,d,tk,os⟩ p.1 t1 q.1 t3 prog w;have hv:aQ p q=decide (p.1 < q.1):=by unfold aQ;simp [ne]
     rw [hv] at h
     wp_walk using hri
     exact⟨_,rfl,by simpa using h⟩
   ·injection h3 with hyx hrest
    injection hyx with hy hx
    subst hy hx;have he:=EqAt.str_str (A:=A.in1) (s:=⟨hp,g,d,tk,os⟩) p.2 t2 q.2 t4;refine Qm (he prog w _ _ ?_);cases e:(p.2==q.2) with
    | true=>
     wp_walk
     exact⟨rfl,rfl,.inr (.inr ⟨hrest,e1,eq_of_beq e⟩)⟩
    | false=>
     have hri:∀(E:Qj->Ql->Prop)(Q:Qj->Ql->Prop),Q (.bool (decide (p.2.cps.toList < q.2.cps.toList))) ⟨hp,g,d,tk,os⟩->Qr (Qs prog w) A.in1 (richCompare .Lt (.str p.2 t2) (.str q.2 t4)) Q E ⟨hp,g,d,tk,os⟩:=λE Q z=>(lt_str z:Qr (Qs prog w) A.in1 (Qz .Lt (.str p.2 t2) (.str q.2 t4)) Q E _);have hv:aQ p q=decide (p.2.cps.toList < q.2.cps.toList):=by unfold aQ;simp [e1]
     rw [hv] at h
     wp_walk using hri
     exact⟨_,rfl,by simpa using h⟩
   ·cases h3
  case fin=>
   rintro⟨b1,b2⟩ s' ⟨hb',rfl,h3⟩;simp only at hb';subst hb';rcases h3 with h3 | ⟨h3,e1⟩ | ⟨h3,e1,e2⟩
   ·cases h3
   ·cases h3
   ·have hv:aQ p q=false:=by unfold aQ;rw [e1,e2];simp
    rw [hv] at h
    wp_walk
    exact⟨_,rfl,by simpa [Builtin.Tuple.tupleCompareSizes] using h⟩
  case h=>
   exact⟨rfl,rfl,.inl rfl⟩
end
def xJ(K:J0):R2:=λx y H Q=>∃a b p q,x= .ref a/\y= .ref b/\bg K H a [.int p.1,.str p.2]/\bg K H b [.int q.1,.str q.2]/\Q (.bl (aQ p q)) H
theorem xK{X:Cx}(hu:X.A.units < QD):bh X (Qz .Lt) (xJ X.K):=by
 intro RB s σ H x y v u Q I rx ry h;obtain⟨a,b,p,q,rfl,rfl,ha,hb,z⟩:=h;cases rx;cases ry;obtain⟨its,r1,⟨⟨c1,d1,da1,s1⟩,o1,k1,n1,e1⟩,_⟩:=I.tuple ha;obtain⟨its2,r2,⟨⟨c2,d2,da2,s2⟩,o2,k2,n2,e2⟩,_⟩:=I.tuple hb;simp only at k1 e1 k2 e2;subst k1 e1 k2 e2;cases r1 with
 | cons x1 r1=>
  cases r1 with
  | cons x2 r1=>
   cases r1;obtain⟨t1,rfl⟩:=x1;obtain⟨t2,rfl⟩:=x2;cases r2 with
   | cons y1 r2=>
    cases r2 with
    | cons y2 r2=>
     cases r2;obtain⟨t3,rfl⟩:=y1;obtain⟨t4,rfl⟩:=y2;exact richCompare_meets_room (op:= .Lt) ⟨_,o1,rfl⟩ ⟨_,o2,rfl⟩ PySem.F.slot_tuple_lt PySem.F.entry_tuple_lt (PySem.F.args_tuple_lt_2 _ _) (GA a b n1 n2 d1 d2 s1 s2 p q t1 t2 t3 t4) ⟨o1,o2,(λx=>nomatch x),.bl (aQ p q),H,I,rfl,z⟩ hu
def xM:Qi->Qi->(Qi->Prop)->Prop:=λx y Q=>∃p q:Int×Str,x=cn p/\y=cn q/\Q (.bool (aQ p q))
theorem xN{K:J0}:bG K (xJ K) xM:=λH O x y dx dy Qd R _ hx hy uu50 k=>by
 obtain⟨p,q,e1,e2,z⟩:=uu50;subst e1 e2;obtain⟨a,xs,rfl,h1,g1⟩:=hx.tup;obtain⟨b,ys,rfl,h2,g2⟩:=hy.tup;cases g1 with
 | cons x1 g1=>
  cases g1 with
  | cons x2 g1=>
   cases g1;cases x1;cases x2;cases g2 with
   | cons y1 g2=>
    cases g2 with
    | cons y2 g2=>
     cases g2;cases y1;cases y2;exact⟨a,b,p,q,rfl,rfl,h1,h2,k _ _ H z (ar.refl _) (.bl _)⟩
section
variable {X:Cx} {H0:Hp} {O0:Ex}
def xO(tc:DB)(tb:DS):DS:=λE δ=>∃W:Nat->Dl->Prop,(∃m,W m δ)/\∀m δ,W m δ->tc δ λb=>if b=true then tb {E with nx:=λδ'=>∃m',m' < m/\W m' δ',ct:=λδ'=>∃m',m' < m/\W m' δ',bk:=E.nx} δ else E.nx δ
theorem GB{c:Qn}{body:List Qx}{tc:DB}{tb:DS}{pos:Pos}(hp:QZ (Qs X.prog X.w) X.A X.env X.xe)(hc:PT X c (bM X.K H0 O0 tc))(hb:bz X body (bp X.K H0 O0 tb)):PS X (.While c body [] pos) (bp X.K H0 O0 (xO tc tb)):=
 (BW hp hc hb).imp λD σ H uu51=>by
  obtain⟨O,δ,E,w,⟨W,⟨m0,w0⟩,st⟩,k1,k2,k3,k4⟩:=uu51;refine⟨λm σ' H'=>∃O' δ',Wd X.K H0 O0 H' O' σ' δ'/\aN H H' O O'/\W m δ',⟨m0,O,δ,w,aN.refl _ _,w0⟩,λm σ1 H1 ⟨O1,δ1,w1,S1,q1⟩=>⟨O1,δ1,_,w1,st m δ1 q1,λb H2 q2 s2=>?_⟩⟩;cases b with
  | false=>
   rw [Qe Qh] at q2⊢;exact k1 O1 δ1 σ1 H2 q2 (w1.mono s2) (S1.trans (.same s2))
  | true=>
   rw [Qf rfl] at q2⊢;refine⟨λσ' H'=>∃O' δ' m',m' < m/\Wd X.K H0 O0 H' O' σ' δ'/\aN H H' O O'/\W m' δ',λσ' H' uu53=>by obtain⟨O',δ',m',lt,w',S',q'⟩:=uu53;exact⟨m',lt,O',δ',w',S',q'⟩,O1,δ1,_,w1.mono s2,q2,?_,k2,?_,?_⟩
   ·rintro O' δ' σ' H' ⟨m',lt,q'⟩ w' S';exact⟨O',δ',m',lt,w',S1.trans ((aN.same s2).trans S'),q'⟩
   ·intro O' δ' σ' H' q' w' S';exact k1 O' δ' σ' H' q' w' (S1.trans ((aN.same s2).trans S'))
   ·rintro O' δ' σ' H' ⟨m',lt,q'⟩ w' S';exact⟨O',δ',m',lt,w',S1.trans ((aN.same s2).trans S'),q'⟩
theorem bo.vals{K:J0}{H:Hp}{O:Ex}{kv:List (ah×V)}{kd:List (ah×Qi)}(h:bo K H O kv kd):ai K H O (kv.map (·.2)) (kd.map (·.2)):=by
 induction h with
 | nil=>exact .nil
 | cons a _ ih=>exact .cons a ih
abbrev fW(ks:List Str)(ds:List Qi):Qi:=ua (ks.map .str) ds
def xP(i:Nat)(t:DS):DS:=λE δ=>∃kd,δ[i]?=some (some (.k kd))/\∃ks:List Str,kd.map (·.1)=ks.map Lg/\t E (δ.set i (some (.v (fW ks (kd.map (·.2))))))
theorem cy.z{H:Hp}{a:Qk}{ob:Obj}{kvs:List (ah×V)}{k:ah}(e:H a=some (.frz ob (.dK kvs))):cy H a (kV k) (cU kvs k):= .inl ⟨kvs,k,.inr ⟨ob,e⟩,rfl,rfl⟩
theorem af.fast{X:Cx}{RB:List (Qk×Obj)}{σ:St}{H:Hp}{s:Ql}(I:af X RB σ H s){a:Qk}{kv:List (ah×V)}(ha:H a=some (.dK kv)):∃o,af X RB σ (aq H a (.frz o (.dK kv))) s:=by
 obtain⟨z,hd,vs,rel,o,es,ep,g,r1,r2,r3⟩:=I.hok a _ ha;exact⟨o,I.write (x:=a) (e:=a) (o:= .frz o (.dK kv)) (h':=s.heap) (t':=s.toks) (by rw [ha];exact Lw) (.inl rfl) (λ_ _ _ q=>q) ⟨o,g⟩ ⟨g,z,hd,vs,rel,o,es,ep,g,r1,r2,r3⟩⟩
theorem GC{st:Qx}{t:TS}(h:PS X st t)(i:Nat):PS X st (λD σ H=>∃a kv,σ[i]?=some (some (.ref a))/\H a=some (.dK kv)/\∀o,t D σ (aq H a (.frz o (.dK kv)))):=by
 intro RB s σ H D I q;obtain⟨a,kv,_,ha,q⟩:=q;obtain⟨o,I2⟩:=I.fast ha;exact h RB s σ _ D I2 (q o)
theorem Wd.tell{K:J0}{H0 H:Hp}{O0 O:Ex}{σ:St}{δ:Dl}(w:Wd K H0 O0 H O σ δ){i:Nat}{v:V}{d:Qi}(h:σ[i]?=some (some v))(hd:Dt K H O v d):Wd K H0 O0 H O σ (δ.set i (some (.v d))):=by
 have li:i < δ.length:=by rw [<-w.len];exact(Kg.mp h).1
 have ne:∀{j:Nat}{y:Sl},(δ.set i (some (.v d)))[j]?=some (some y)->y.own->j≠i:=λ{j y} q hy z=>by
  subst z;rw [KP li] at q;cases q;exact hy
 refine⟨w.same,w.sub,w.new,w.trk,by simp [w.len],λj y q=>?_,λj k y z l' e1 y1 e2 z2 e3 e4=>?_⟩
 ·by_cases hj:j=i
  ·subst hj;rw [KP li] at q;cases q;exact⟨v,by rw [h];rfl,hd⟩
  ·rw [KC (Ne.symm hj)] at q;exact w.sl j y q
 ·have n1:=ne e1 y1;have n2:=ne e2 z2;rw [KC (Ne.symm n1)] at e1;rw [KC (Ne.symm n2)] at e2;exact w.dis j k _ _ l' e1 y1 e2 z2 e3 e4
theorem xQ(i:Nat){st:Qx}{t:DS}(h:PS X st (bp X.K H0 O0 t)):PS X st (bp X.K H0 O0 (xP i t)):=
 (GC h i).imp λD σ H uu54=>by
  obtain⟨O,δ,E,w,⟨kd,e,ks,ek,q⟩,k1,k2,k3,k4⟩:=uu54;obtain⟨l,kv,h,a,b,c,r⟩:=w.ownK e;refine⟨l,kv,h,c,λo=>?_⟩;obtain⟨O',w',S,n⟩:=w.frzK (y0:= .k kd) e trivial h (.frz o (.dK kv));have w2:=w'.tell (d:=fW ks (kd.map (·.2))) h (.dic bq (by rw [r.keys];exact ek) rfl n (r.vals.step S));rw [List.set_set] at w2;exact⟨O',_,E,w2,q,λO2 δ2 σ2 H2 z2 w2 S2=>k1 O2 δ2 σ2 H2 z2 w2 (S.trans S2),k2,λO2 δ2 σ2 H2 z2 w2 S2=>k3 O2 δ2 σ2 H2 z2 w2 (S.trans S2),λO2 δ2 σ2 H2 z2 w2 S2=>k4 O2 δ2 σ2 H2 z2 w2 (S.trans S2)⟩
theorem iE:∀{a b:List Str},a.map J5=b.map J5->a=b
 | [],[],_=>rfl
 | [],_::_,h=>by cases h
 | _::_,[],h=>by cases h
 | x::a,y::b,h=>by
  simp only [Kb,Li,LG] at h;rw [h.1,iE h.2]
def cB:List Str->List Qi->Str->Option Qi
 | k::ks,d::ds,z=>if k=z then some d else cB ks ds z
 | _,_,_=>none
theorem k7{K:J0}{H:Hp}{O:Ex}{z:Str}{d:Qi}:∀{kv:List (ah×V)}{ks:List Str}{ds:List Qi},kv.map (·.1)=ks.map Lg->ai K H O (kv.map (·.2)) ds->cB ks ds z=some d->∃v,cU kv (.inr z)=some v/\Dt K H O v d
 | [],[],ds,_,_,e=>by unfold cB at e;cases e
 | [],_::_,ds,h,_,_=>by cases h
 | _::_,[],ds,h,_,_=>by cases h
 | p::kv,k::ks,ds,h,hd,e=>by
  rw [Kb] at hd;cases hd with
  | cons h1 h2=>
   simp only [Kb,Li] at h;obtain⟨p1,p2⟩:=p;obtain⟨rfl,h⟩:=h;unfold cB at e;by_cases hk:k=z
   ·rw [Qf hk] at e;cases e;exact⟨p2,kH (by rw [hk]),h1⟩
   ·rw [Qe hk] at e;obtain⟨v,a,b⟩:=k7 h h2 e;exact⟨v,by rw [jG (λq=>hk (kX.mp q))];exact a,b⟩
def xR(to tk:DT):DT:=λδ Q=>to δ λx=>∃ks ds,x=fW ks ds/\tk δ λy=>∃z,y= .str z/\∃d,cB ks ds z=some d/\Q d
theorem i7{o e:Qn}{to tk:DT}{pos:Pos}(hu:X.A.units+64 < QD)(ho:DE X H0 O0 o to)(he:DE X H0 O0 e tk)(hs:mM e):DE X H0 O0 (.Subscript o e pos) (xR to tk):=
 (vJ Qc ho he hs).imp λσ H Q uu55=>by
  obtain⟨O,δ,Qd,w,q,k⟩:=uu55;refine⟨O,δ,_,w,q,λx vx H1 ⟨ks,ds,ex,q1⟩ s1 r1=>?_⟩;subst ex;refine⟨O,δ,_,w.mono s1,q1,λy vy H2 ⟨z,ey,d,ed,q2⟩ s2 r2=>?_⟩;subst ey;cases r2;cases r1 with
  | @dic a ob kv ks' kp ds h e1 e2 n rr=>
   have ek:ks'=ks:=by
    have:ks'.map J5=ks.map J5:=e2.symm;exact iE this
   subst ek;obtain⟨v,hv,dv⟩:=k7 e1 rr ed;exact⟨a,v,rfl,by rw [<-hv];exact cy.z (k:= .inr z) (s2 _ _ h),k _ _ _ q2 (s1.trans s2) (dv.mono s2)⟩
def xS(t:DT)(g:DG)(tc:DB)(te:DT)(k:Nat)(fr:List Nat):DA:=λδ Q=>mE t g tc te k fr δ Q\/mF t g tc te k fr δ Q
theorem GF{N':List Str}{k:Nat}{fr:List Nat}{scope:QO}{iter elt tg:Qn}{ifs:List Qn}{t te:DT}{tc:DB}{g:TG}{dg:DG}{pos:Pos}(hc:X.calm=true)(S:br X.env.scope X.N N' k fr scope)(hi:DF X H0 O0 iter t)(gd:GD X.K g dg)(hk:gr g k)(hfr:fr.Nodup)
 (hg:∀fp C s H,PG (bu X scope N' fp C s H) tg g)(hf:∀fp C s H,dF (bu X scope N' fp C s H) ifs (bM X.K H0 O0 tc))(he:∀fp C s H,PE (bu X scope N' fp C s H) elt (up X.K H0 O0 te))
 (hs:∀x,QA iter X.env x=pure x:=by intro _;rfl):FE X H0 O0 (.ListComp elt [⟨tg,iter,ifs,0⟩] scope pos) (xS t dg tc te k fr):=by
 intro RB s σ H Q I h;obtain⟨O,δ,Qd,w,q,kk⟩:=h;rcases q with q | q
 ·exact gP hc S hi gd hk hfr hg hf he hs RB s σ H Q I ⟨O,δ,Qd,w,q,kk⟩
 ·exact iT hc S hi gd hk hfr hg hf he hs RB s σ H Q I ⟨O,δ,Qd,w,q,kk⟩
end
theorem GG{fr:List Nat}{σ:St}{v u:Option V}:iP (bD 2 fr σ) (((bD 2 fr σ).set 0 v).set 1 u):=by
 refine⟨Qh,λi w h=>?_⟩
 match i with
 | 0=>simp [bD,Kp] at h
 | 1=>simp [bD,Kp] at h
 | i+2=>simpa [bD,Kp] using h
theorem GH{K:J0}{n:Nat}:gr (lM K n (j9 (gH 0) (j9 (gH 1) lL))) 2:=λfr σ v H' R uu58=>by obtain⟨a,xs,e,h1,h2,x,r,e1,y,r2,e2,e3,h⟩:=uu58;exact⟨a,xs,e,h1,h2,x,r,e1,y,r2,e2,e3,GG,h⟩
section
variable {X:Cx} {H0:Hp} {O0:Ex}
theorem eS{T:String}{a c:Qn}{t:DT}{np p:Pos}{K':J0}(hK:X.K=K')(hg:Gl X "isinstance")(hm:X.mg "isinstance"=none)(hv:QB "isinstance"=some (.builtin "isinstance"))(ha:DF X H0 O0 a t)(hc:PE X c (tC (.ty T)))
 (hs:Qo [a,c] X.env=(false,eval a X.env)::Qo [c] X.env:=by rfl)(hs2:Qo [c] X.env=[(false,eval c X.env)]:=by rfl)(hb:(QJ p (Qo [c] X.env)).any (·.1)=false:=by rfl):DE X H0 O0 (.Call (.Name "isinstance" np) [a,c] [] p) (pG K' T t):=by
 subst hK;exact D3 hg hm hv ha hc hs hs2 hb
end
def xT(K:J0):R2:=λx y H Q=>∃a b xs ys,x= .ref a/\y= .ref b/\bg K H a xs/\bg K H b ys/\xs.length+ys.length<=Qp/\(xs=[]->Q (.ref b) H)/\(xs≠[]->oP K x y H Q)
theorem k8{X:Cx}:bh X (QR .Add) (xT X.K):=by
 intro RB s σ H x y v u Q I rx ry h;obtain⟨a,b,xs,ys,rfl,rfl,ha,hb,hz,q0,q1⟩:=h;by_cases hx:xs=[]
 ·subst hx;cases rx;cases ry;obtain⟨its,r1,⟨⟨c1,d1,da1,s1⟩,o1,k1,n1,e1⟩,_⟩:=I.tuple ha;obtain⟨its2,r2,⟨⟨c2,d2,da2,s2⟩,o2,k2,n2,e2⟩,_⟩:=I.tuple hb;simp only at k1 e1 k2 e2;subst k1 e1 k2 e2;cases r1;exact concat_meets ⟨_,o1,rfl⟩ ⟨_,o2,rfl⟩ Rx seq_tuple_add M6 MY (MQ _ _)
   (tuple_addW0 a b _ its2.toArray n1 n2 d1 d2 s1 s2 Qh) ⟨o1,o2,.ref b,H,I,rfl,q0 rfl⟩
 ·exact Ct RB s σ H _ _ v u Q I rx ry (q1 hx)
def xU:Qi->Qi->(Qi->Prop)->Prop:=λx y Q=>∃xs ys,x= .tuple xs/\y= .tuple ys/\xs.length+ys.length<=Qp/\Q (.tuple (xs++ys))
theorem k9{K:J0}:bG K (xT K) xU:=λH O x y dx dy Qd R tr hx hy uu59 k=>by
 obtain⟨xs,ys,e1,e2,hz,q⟩:=uu59;subst e1 e2;have hx0:=hx;have hy0:=hy;obtain⟨a,vs,rfl,h1,d1⟩:=hx.tup;obtain⟨b,us,rfl,h2,d2⟩:=hy.tup;refine⟨a,b,vs,us,rfl,rfl,h1,h2,by rw [d1.length,d2.length];exact hz,λz=>?_,λz=>?_⟩
 ·subst z;cases d1;rw [LX] at q;cases hy0 with
  | dt hy0=>exact k _ _ H q (ar.refl _) hy0
 ·exact DZ H O _ _ _ _ Qd R tr hx0 hy0 ⟨xs,ys,rfl,rfl,λe=>z (by subst e;cases d1;rfl),hz,q⟩ k
def xV:List Qi->(Qi->Prop)->Prop:=λds Q=>∃ns:List Int,ds=[.list (ns.map .int)]/\Q (.int ns.sum)
theorem GI{K:J0}:gO K (λxs H Q=>∃(a:Qk)(ns:List Int),xs=[.ref a]/\aX K H a (ns.map V.int)/\Q (.int ns.sum) H) xV:=λH O xs ds Qd R tr hs uu60 k=>by
 obtain⟨ns,e,q⟩:=uu60;subst e;cases hs with
 | cons h r=>
  cases r;obtain⟨a,vs,rfl,h1,d1⟩:=h.lst;cases d1.intsL;exact⟨a,ns,rfl,h1,k _ _ H q (ar.refl _) (.int _)⟩
section
variable {X:Cx} {H0:Hp} {O0:Ex}
theorem ai.rep{K:J0}{H:Hp}{O:Ex}{vs:List V}{ds:List Qi}(h:ai K H O vs ds):∀n:Nat,ai K H O (Kp n vs).flatten (Kp n ds).flatten
 | 0=>.nil
 | n+1=>by rw [LK,LK,Mm,Mm];exact h.append (ai.rep h n)
end
end L2
namespace Day
def iF(y:Int):Bool:=decide (y % 400=0) || (decide (y % 4=0) && !decide (y % 100=0))
def ld(y:Int):Int:=if iF y=true then 1 else 0
def xW:List Int:=[31,28,31,30,31,30,31,31,30,31,30,31]
def bw(y m:Int):Int:=if m=2/\iF y=true then 29 else xW.getD (m - 1).toNat 0
def lb(y:Int):Int:=(y - 1)/ 4 - (y - 1)/ 100+(y - 1)/ 400
def g5(y:Int):Int:=365*(y - 2000)+lb y - lb 2000
def aO(y m:Int):Int:=((KU (m - 1).toNat).map λ(i:Nat)=>bw y (1+(i:Int))).sum
def la(y m n:Int):Int:=g5 y+aO y m+n - 1
theorem xX(y:Int):0<=ld y/\ld y<=1:=by unfold ld;split <;> omega
theorem qr(y:Int):iF y=true↔(y % 400=0\/(y % 4=0/\y % 100≠0)):=by
 unfold iF;simp
theorem ng(y:Int):bw y 2=28+ld y:=by
 unfold bw ld;by_cases h:iF y=true
 ·rw [Qf ⟨rfl,h⟩,Qf h];rfl
 ·rw [Qe (λz=>h z.2),Qe h];rfl
theorem xY{y m:Int}(h:m≠2):bw y m=xW.getD (m - 1).toNat 0:=by
 unfold bw;rw [Qe (λz=>h z.1)]
theorem qt(y:Int):bw y 1=31/\bw y 3=31/\bw y 4=30/\bw y 5=31/\bw y 6=30/\bw y 7=31/\bw y 8=31/\bw y 9=30/\bw y 10=31/\bw y 11=30/\bw y 12=31:=by
 refine⟨?_,?_,?_,?_,?_,?_,?_,?_,?_,?_,?_⟩ <;> (rw [xY Qb];rfl)
theorem qu{m:Int}(h1:1<=m)(h2:m<=12):m=1\/m=2\/m=3\/m=4\/m=5\/m=6\/m=7\/m=8\/m=9\/m=10\/m=11\/m=12:=by
 obtain⟨k,e⟩:=LC (show 0<=m - 1 by omega);have e:m=(k:Int)+1:=Qc
 have hk:k < 12:=Qc
 have key:∀k:Fin 12,((k.1:Nat):Int)+1=1\/((k.1:Nat):Int)+1=2\/((k.1:Nat):Int)+1=3\/((k.1:Nat):Int)+1=4\/((k.1:Nat):Int)+1=5\/((k.1:Nat):Int)+1=6\/((k.1:Nat):Int)+1=7\/((k.1:Nat):Int)+1=8\/((k.1:Nat):Int)+1=9\/((k.1:Nat):Int)+1=10\/((k.1:Nat):Int)+1=11\/((k.1:Nat):Int)+1=12:=Qa
 rw [e];exact key ⟨k,hk⟩
theorem xZ{y m:Int}(h1:1<=m)(h2:m<=12):28<=bw y m/\bw y m<=31:=by
 obtain⟨m1,m3,m4,m5,m6,m7,m8,m9,m10,m11,m12⟩:=qt y;have m2:28<=bw y 2/\bw y 2<=31:=by
  have:=xX y;rw [ng];clear m1 m3 m4 m5 m6 m7 m8 m9 m10 m11 m12 h1 h2;omega
 have k:∀{z:Int},z=31\/z=30->28<=z/\z<=31:=λh=>by rcases h with h | h <;> rw [h] <;> decide
 rcases qu h1 h2 with h | h | h | h | h | h | h | h | h | h | h | h <;> subst h
 ·exact k (.inl m1)
 ·exact m2
 ·exact k (.inl m3)
 ·exact k (.inr m4)
 ·exact k (.inl m5)
 ·exact k (.inr m6)
 ·exact k (.inl m7)
 ·exact k (.inl m8)
 ·exact k (.inr m9)
 ·exact k (.inl m10)
 ·exact k (.inr m11)
 ·exact k (.inl m12)
theorem GJ(y:Int):aO y 1=0:=rfl
theorem eG{y m:Int}(h:1<=m):aO y (m+1)=aO y m+bw y m:=by
 unfold aO;have e:(m+1 - 1).toNat=(m - 1).toNat+1:=Qc
 rw [e,Me,Ku,List.sum_append];have e2:(1:Int)+(((m - 1).toNat:Nat):Int)=m:=Qc
 simp only [Kb,LA,Pz,List.sum_nil,e2];omega
theorem GK{a b c:Int}(l:Int)(h:a+b=c):a+(b+l)=c+l:=Qc
theorem gB{a b c:Int}(l:Int)(h:a+b=c):a+l+b=c+l:=Qc
theorem x4(y:Int):aO y 1=0/\aO y 2=31/\aO y 3=59+ld y/\aO y 4=90+ld y/\aO y 5=120+ld y/\aO y 6=151+ld y/\aO y 7=181+ld y/\aO y 8=212+ld y/\aO y 9=243+ld y/\aO y 10=273+ld y/\aO y 11=304+ld y/\aO y 12=334+ld y/\aO y 13=365+ld y:=by
 obtain⟨m1,m3,m4,m5,m6,m7,m8,m9,m10,m11,m12⟩:=qt y;have e2:aO y 2=31:=by rw [show aO y 2=aO y 1+bw y 1 from eG (m:=1) Qb,m1];rfl
 have e3:aO y 3=59+ld y:=by rw [show aO y 3=aO y 2+bw y 2 from eG (m:=2) Qb,e2,ng];exact GK _ rfl
 have e4:aO y 4=90+ld y:=by rw [show aO y 4=aO y 3+bw y 3 from eG (m:=3) Qb,e3,m3];exact gB _ rfl
 have e5:aO y 5=120+ld y:=by rw [show aO y 5=aO y 4+bw y 4 from eG (m:=4) Qb,e4,m4];exact gB _ rfl
 have e6:aO y 6=151+ld y:=by rw [show aO y 6=aO y 5+bw y 5 from eG (m:=5) Qb,e5,m5];exact gB _ rfl
 have e7:aO y 7=181+ld y:=by rw [show aO y 7=aO y 6+bw y 6 from eG (m:=6) Qb,e6,m6];exact gB _ rfl
 have e8:aO y 8=212+ld y:=by rw [show aO y 8=aO y 7+bw y 7 from eG (m:=7) Qb,e7,m7];exact gB _ rfl
 have e9:aO y 9=243+ld y:=by rw [show aO y 9=aO y 8+bw y 8 from eG (m:=8) Qb,e8,m8];exact gB _ rfl
 have e10:aO y 10=273+ld y:=by rw [show aO y 10=aO y 9+bw y 9 from eG (m:=9) Qb,e9,m9];exact gB _ rfl
 have e11:aO y 11=304+ld y:=by rw [show aO y 11=aO y 10+bw y 10 from eG (m:=10) Qb,e10,m10];exact gB _ rfl
 have e12:aO y 12=334+ld y:=by rw [show aO y 12=aO y 11+bw y 11 from eG (m:=11) Qb,e11,m11];exact gB _ rfl
 have e13:aO y 13=365+ld y:=by rw [show aO y 13=aO y 12+bw y 12 from eG (m:=12) Qb,e12,m12];exact gB _ rfl
 exact⟨GJ y,e2,e3,e4,e5,e6,e7,e8,e9,e10,e11,e12,e13⟩
theorem x5{y m:Int}(h1:1<=m):∀k:Nat,m+k<=13->aO y m<=aO y (m+k)
 | 0,_=>by simp
 | k+1,h=>by
  have ih:=x5 (y:=y) h1 k Qc;have e:m+((k+1:Nat):Int)=(m+k)+1:=Qc
  rw [e,eG Qc];have:=xZ (y:=y) (m:=m+k) Qc Qc;omega
theorem x6{y m m':Int}(h1:1<=m)(h2:m<=m')(h3:m'<=13):aO y m<=aO y m':=by
 have:=x5 (y:=y) h1 (m' - m).toNat Qc;rw [show m+(((m' - m).toNat:Nat):Int)=m' by omega] at this;exact this
theorem GL{y m:Int}(h1:1<=m)(h2:m<=12):0<=aO y m/\aO y m+bw y m<=365+ld y:=by
 have a:=x6 (y:=y) (m:=1) (m':=m) Qb h1 Qc;have b:=x6 (y:=y) (m:=m+1) (m':=13) Qc Qc Qb;rw [eG h1] at b;have c:=(x4 y).1;have e:=(x4 y).2.2.2.2.2.2.2.2.2.2.2.2;omega
theorem x8(y:Int):365*(y - 2000)+(y - 2000+3)/ 4 - (y - 2000+99)/ 100+(y - 2000+399)/ 400=g5 y:=by
 unfold g5 lb;omega
theorem length_eq(y m:Int)(h1:1<=m)(h2:m<=12):(if m=2/\(y % 4≠0\/(y % 100=0/\y % 400≠0)) then(28:Int) else [31,29,31,30,31,30,31,31,30,31,30,31].getD (m - 1).toNat 0)=bw y m:=by
 by_cases h:m=2
 ·subst h;rw [ng];unfold ld;by_cases l:iF y=true
  ·rw [Qf l,Qe (by have:=(qr y).mp l;omega)];rfl
  ·rw [Qe l,Qf (by have:=mt (qr y).mpr l;omega)];rfl
 ·rw [xY h,Qe (λz=>h z.1)];rcases qu h1 h2 with z | z | z | z | z | z | z | z | z | z | z | z <;> subst z <;> first | rfl | exact absurd rfl h
def fst(M:Int):Int:=la (M / 12) (M % 12+1) 1
def Dn(M n:Int):Int:=fst M+n - 1
end Day
namespace L2
open PySem PySem.Spec PyProof.Rows PySem.W
def d2(m:Nat):List Nat:=[48+m / 10,48+m % 10]
section
variable {X:Cx} {H0:Hp} {O0:Ex}
def x9(t:DA)(u:DT):DA:=λδ Q=>t δ λds=>ds.length<=1000/\u δ λy=>∃i:Int,y= .int i/\0<=i/\i<=1000/\Q (Kp i.toNat ds).flatten
theorem GN{e f:Qn}{t:DA}{u:DT}{pos:Pos}(h:FE X H0 O0 e t)(hf:DE X H0 O0 f u):FE X H0 O0 (.BinOp e .Mult f pos) (x9 t u):=
 (d7 CN h hf).imp λσ H Q ⟨O,δ,Qd,w,q,k⟩=>⟨O,δ,_,w,q,λds vs p H1 q1 s1 hp r1=>⟨O,δ,_,w.mono (s1.trans (ar.new hp)),q1.2,λy v H2 uu62 s2 r2=>by
  obtain⟨i,e,i0,i1,q2⟩:=uu62;subst e;cases r2;refine⟨p,i,vs,rfl,rfl,s2 _ _ bq,Qc,Qc,?_,λp' hp'=>k _ _ p' _ q2 ((s1.trans (ar.new hp)).trans s2) hp' ((r1.rep i.toNat).mono ((ar.new hp).trans s2))⟩;have h1:=r1.length;have h2:(Qp:Nat)=16777216:=Qb
  have h3:=q1.1;have h4:vs.length*i.toNat<=1000*1000:=Nat.mul_le_mul Qc Qc;omega⟩⟩
end
open PySem PySem.Spec PyProof.Rows PySem.W PySem.Calls
def eI{α:Type}(xs:List α)(n:Nat)(y:α):List α:=xs.take n++y::xs.drop n
theorem qv{α:Type}(xs:List α)(n:Nat)(y:α):(eI xs n y).Perm (y::xs):=by
 unfold eI;refine List.perm_middle.trans ?_;rw [Nf]
theorem GO{α β:Type}(f:α->β)(xs:List α)(n:Nat)(y:α):(eI xs n y).map f=eI (xs.map f) n (f y):=by
 unfold eI;rw [Ku,Kb,M9,PB]
theorem qw{α:Type}(xs:List α)(n:Nat)(y:α):(eI xs n y).length=xs.length+1:=(qv xs n y).length_eq
def GP:V->List V->Hp->VK->Prop:=λx vs H Q=>∃l xs y,∃n:Nat,x= .ref l/\vs=[.int (n:Int),y]/\H l=some (.lst xs)/\n<=xs.length/\xs.length < 1000000/\Q .non (aq H l (.lst (eI xs n y)))
theorem GQ(l:List Qj)(k:Nat)(y:Qj):(l.toArray.extract 0 k).push y++l.toArray.extract k=(eI l k y).toArray:=by
 apply N1.mp;simp;unfold eI;congr 2;exact Ky Qh
theorem GR{X:Cx}:oW X "list.insert" GP:=by
 intro RB s σ H x vs v us Q I rx rv h;obtain⟨l,xs,y,n,rfl,rfl,hH,hn,hz,q⟩:=h;cases rx;cases rv with
 | cons r1 r2=>
  obtain⟨u,rfl,ru⟩:=cW r2;obtain⟨t,rfl⟩:=r1;obtain⟨z,its,m,r,hl,e⟩:=I.lstM hH;have ef:Mi (n:Int)=true:=by
   unfold Mi;simp;omega
  have sl:(1000000:Nat)<=Qp:=Qb
  have hsz:its.toArray.size<=Qp:=by rw [Ke];exact KI Qc sl
  have hfi:¬(!Mi (n:Int))=true:=by rw [ef];decide
  generalize hni:(n:Int)=ni at hfi ef⊢;refine QW N2 ⟨_,e,rfl⟩ PySem.F.entry_list_insert (PySem.F.args_list_insert_3 _ _ _) (PySem.AutoSeq1.list_insert_list_int_val_1 l its.toArray m ni t u hfi hsz) ⟨e,?_⟩;refine⟨.non,_,I.lset (its':=eI its n u) hH e ?_ ((r.take n).append (.cons ru (r.drop n))) ?_,rfl,q⟩
  ·show(its.toArray.extract 0 (if ni < 0 then(ni+(its.toArray.size:Int)).toNat else min ni.toNat its.toArray.size)).push u++its.toArray.extract (if ni < 0 then(ni+(its.toArray.size:Int)).toNat else min ni.toNat its.toArray.size)=_;subst hni;rw [Qe Qc,Ke,Ml,Nat.min_eq_left Qc];have:=GQ its n u;simp only [Ke] at this;exact this
  ·show(eI xs n y).length<=Qp;rw [qw];exact KI Qc sl
section
variable {X:Cx} {H0:Hp} {O0:Ex}
theorem ai.takeN{K:J0}{H:Hp}{O:Ex}:∀{vs:List V}{ds:List Qi}(n:Nat),ai K H O vs ds->ai K H O (vs.take n) (ds.take n)
 | _,_,0,_=>by rw [Pt,Pt];exact .nil
 | _,_,n+1,.nil=>.nil
 | _,_,n+1,.cons a r=>.cons a (ai.takeN n r)
theorem ai.dropN{K:J0}{H:Hp}{O:Ex}:∀{vs:List V}{ds:List Qi}(n:Nat),ai K H O vs ds->ai K H O (vs.drop n) (ds.drop n)
 | _,_,0,r=>r
 | _,_,n+1,.nil=>.nil
 | _,_,n+1,.cons a r=>ai.dropN n r
def yC(i:Nat)(t1 t2:DT):DS:=λE δ=>∃ds,δ[i]?=some (some (.o ds))/\t1 δ λa=>t2 δ λd=>∃n:Nat,a= .int (n:Int)/\n<=ds.length/\ds.length < 1000000/\E.nx (δ.set i (some (.o (eI ds n d))))
theorem GS{i:Nat}{o e e2:Qn}{t1 t2:DT}{apos cpos pos:Pos}(ho:PE X o (dh i))(he:DE X H0 O0 e t1)(he2:DE X H0 O0 e2 t2)(hbase:QV o "insert" X.env (eval o X.env)=eval o X.env:=by rfl)
 (hfew:((QJ cpos (Qo [e,e2] X.env)).all (λx=>!x.1) && (backToKw cpos (Rf [] X.env)).all (λx=>x.1.isSome) && decide ([e,e2].length+([]:List QY).length+(if ([]:List QY).isEmpty then 0 else 1) < 30))=true:=by rfl)
 (hline:(apos.endLine==cpos.line)=true:=by rfl)(hst:Qo [e,e2] X.env=(false,eval e X.env)::Qo [e2] X.env:=by rfl)(hst2:Qo [e2] X.env=(false,eval e2 X.env)::Qo [] X.env:=by rfl)(hplain:(QJ cpos (Qo [e2] X.env)).any (·.1)=false:=by rfl)
 (hs:QK (.Call (.Attribute o "insert" apos) [e,e2] [] cpos) none pos.line X.env=pure false:=by rfl):PS X (.Expr (.Call (.Attribute o "insert" apos) [e,e2] [] cpos) pos) (bp X.K H0 O0 (yC i t1 t2)):=
 (sJ (oV MZ N2 PySem.F.type_list_insert GR ho (cC he (cC he2 dE hst2) hst) hbase hfew hline hst hplain) hs).imp λD σ H uu63=>by
  obtain⟨O,δ,E,w,⟨ds,e,q⟩,k1,k2,k3,k4⟩:=uu63;obtain⟨l,vs,h,a,b,c,r⟩:=w.own e;refine⟨_,h,.inl ⟨rfl,_,aX.of c⟩,O,δ,_,w,q,λx vx H1 q1 s1 r1=>?_⟩;refine⟨O,δ,_,w.mono s1,q1,λd v H2 q2 s2 r2=>?_⟩;obtain⟨n,rfl,hn,hz,q2⟩:=q2;cases r1;have rl:=r.length;have S:=s1.trans s2;refine⟨l,vs,v,n,rfl,rfl,S _ _ c,Qc,Qc,?_⟩;exact k1 _ _ _ _ q2 ((w.mono S).putO (vs:=vs) e h (((r.mono S).takeN n).append (.cons r2 ((r.mono S).dropN n)))) ⟨λb' o' z n=>by rw [aH (λy=>n (by rw [y];exact a))];exact S _ _ z,λ_ _ n=>n⟩
theorem nh{K:J0}{H:Hp}{O:Ex}{z:Str}:∀{kv:List (ah×V)}{ks:List Str}{ds:List Qi},kv.map (·.1)=ks.map Lg->ai K H O (kv.map (·.2)) ds->cB ks ds z=none->cU kv (.inr z)=none
 | [],_,ds,_,_,e=>rfl
 | _::_,[],ds,h,_,_=>by cases h
 | p::kv,k::ks,ds,h,hd,e=>by
  rw [Kb] at hd;cases hd with
  | cons h1 h2=>
   simp only [Kb,Li] at h;obtain⟨p1,p2⟩:=p;obtain⟨rfl,h⟩:=h;unfold cB at e;by_cases hk:k=z
   ·rw [Qf hk] at e;cases e
   ·rw [Qe hk] at e;rw [jG (λq=>hk (kX.mp q))];exact nh h h2 e
def yD(to tk:DT):DT:=λδ Q=>to δ λx=>∃ks ds,x=fW ks ds/\tk δ λy=>∃z,y= .str z/\Q ((cB ks ds z).getD .none)
theorem JZ{o e:Qn}{to tk:DT}{apos cpos:Pos}(hu:X.A.units+64 < QD)(ho:DE X H0 O0 o to)(he:DE X H0 O0 e tk)(m:M1 X o "get" apos e cpos):DE X H0 O0 (.Call (.Attribute o "get" apos) [e] [] cpos) (yD to tk):=
 (vP Qc ho he m).imp λσ H Q uu64=>by
  obtain⟨O,δ,Qd,w,q,k⟩:=uu64;refine⟨O,δ,_,w,q,λx vx H1 ⟨ks,ds,ex,q1⟩ s1 r1=>?_⟩;subst ex;cases r1 with
  | @dic a ob kv ks' kp ds h e1 e2 n rr=>
   have ek:ks'=ks:=by
    have:ks'.map J5=ks.map J5:=e2.symm;exact iE this
   subst ek;refine⟨a,rfl,.inl ⟨kv,.inr ⟨_,h⟩⟩,O,δ,_,w.mono s1,q1,λy vy H2 ⟨z,ey,q2⟩ s2 r2=>?_⟩;subst ey;cases r2;refine⟨_,cy.z (k:= .inr z) (s2 _ _ h),k _ _ _ q2 (s1.trans s2) ?_⟩;cases hd:cB ks' ds z with
   | none=>rw [nh e1 rr hd];exact .non
   | some d=>
    obtain⟨v,hv,dv⟩:=k7 e1 rr hd;rw [hv];exact dv.mono s2
def yE(to tk tx:DT):DT:=λδ Q=>to δ λx=>∃ks ds,x=fW ks ds/\tk δ λy=>tx δ λu=>∃z,y= .str z/\Q ((cB ks ds z).getD u)
theorem GU{o e f:Qn}{to tk tx:DT}{apos cpos:Pos}(hu:X.A.units+64 < QD)(ho:DE X H0 O0 o to)(he:DE X H0 O0 e tk)(hf:DE X H0 O0 f tx)(m:M2 X o "get" apos e f cpos):DE X H0 O0 (.Call (.Attribute o "get" apos) [e,f] [] cpos) (yE to tk tx):=
 (EA Qc ho he hf m).imp λσ H Q uu67=>by
  obtain⟨O,δ,Qd,w,q,k⟩:=uu67;refine⟨O,δ,_,w,q,λx vx H1 ⟨ks,ds,ex,q1⟩ s1 r1=>?_⟩;subst ex;cases r1 with
  | @dic a ob kv ks' kp ds h e1 e2 n rr=>
   have ek:ks'=ks:=by
    have:ks'.map J5=ks.map J5:=e2.symm;exact iE this
   subst ek;refine⟨a,rfl,.inl ⟨kv,.inr ⟨_,h⟩⟩,O,δ,_,w.mono s1,q1,λy vy H2 q2 s2 r2=>?_⟩;refine⟨O,δ,_,(w.mono s1).mono s2,q2,λu vu H3 ⟨z,ey,q3⟩ s3 r3=>?_⟩;subst ey;cases r2;refine⟨_,cy.z (k:= .inr z) (s3 _ _ (s2 _ _ h)),k _ _ _ q3 ((s1.trans s2).trans s3) ?_⟩;cases hd:cB ks' ds z with
   | none=>rw [nh e1 rr hd];exact r3
   | some d=>
    obtain⟨v,hv,dv⟩:=k7 e1 rr hd;rw [hv];exact(dv.mono s2).mono s3
end
theorem GV:typeLookup (.type "list") "keys"=pure none:=by rw [typeLookup_type,builtinLookup_eq_fast];kernel_rfl
theorem yF:entryFor table "dict.update.loop"=some Builtin.«dict.update.loop»:=entryFor_of_tree (by kernel_rfl)
theorem nj:plainId "dict.update.loop"=true:=Qa
section
variable {P:Qu} {w:Qw} {A:QC} {E:Qj->Ql->Prop} {s:Ql}
theorem GW{l:Qk}{o:Obj}{xs:Array Qj}{k:Nat}{Q:Option Qj->Ql->Prop}(hx:s.heap.get? l=some o)(hc:o.cls= .type "list")(hdat:o.data= .seq xs k)(hd:o.dict=none)(hA:A.handled=none)
 (h:∀(h':Qy) (tk:Nat),(∀b u,s.heap.get? b=some u->h'.get? b=some u)->Q none {s with heap:=h',toks:=tk}):Qr (Qs P w) A (getAttr? (.ref l) "keys") Q E s:=by
 obtain⟨c,dct,dat,sl⟩:=o;simp only at hc hdat hd;subst hc hdat hd;obtain⟨hp,g,d,tk,os⟩:=s;have hT:∀tk',(⟨hp,g,d,tk',os⟩:Ql).TypeIs (.ref l) "list":=λ_=>⟨_,hx,rfl⟩;have f1:=sub_AttributeError;have f3:=PySem.F.slot_list_getattribute.lookup;have f4:=PySem.F.slot_list_getattribute.bind (.ref l);have f5:=am_list_getattr_none;unfold getAttr? getAttrBy? getAttrBy
 repeat (any_goals (first | assumption | exact hT _ | ((with_reducible show Qr _ _ (call (Value.builtin "list.__getattribute__") _ _) _ _ _);refine QW PySem.F.slot_list_getattribute (hT _) am_entry_list_getattribute (PySem.F.args_list_getattribute_2 _ _) (meets_getattribute_miss_list l xs k sl (J4 "keys") _ GV Qa) ⟨hx,hA,λh' tk' e hx'=>?_⟩) | wp_step))
 obtain⟨t',u',he⟩:=hx'.there;show Qr _ _ (getattributeRaised _ _ _ _ _ _ _) _ _ _;unfold getattributeRaised
 repeat (any_goals (first | assumption | wp_step))
 exact h _ _ λb u e=>hx'.keeps b u e
end
def fX(val:Nat->ah×Qj)(i:Nat):List (ah×Qj):=((KU i).map val).foldl (λa p=>stored a p.1 p.2) []
theorem yG(val:Nat->ah×Qj)(i:Nat):fX val (i+1)=stored (fX val i) (val i).1 (val i).2:=by
 unfold fX;rw [Me,Ku,List.foldl_append];rfl
theorem GX{K:Type} [DecidableEq K](l:List (K×Qj))(k:K)(v:Qj):(stored l k v).length<=l.length+1:=by
 unfold stored;split <;> simp
theorem yH(val:Nat->ah×Qj):∀i,(fX val i).length<=i
 | 0=>J8 _
 | i+1=>by
  have ih:=yH val i;rw [yG];have:=GX (fX val i) (val i).1 (val i).2;omega
def lg(h:Qy)(a:Qk)(x y:Qj):Prop:=∃o m,h.get? a=some o/\o.cls= .type "tuple"/\o.data= .seq #[x,y] m
section
variable {P:Qu} {w:Qw} {A:QC} {R:Result->Ql->Prop} {I:Qk} {fp wr:List Qk} {G:Array Rz->Array Rz->Prop} {n:Nat} {Pv:Nat->Qj->Prop} {St:Nat->Ql->Prop}
theorem GY(W:WalksS P w A.in1 I fp wr G n Pv St)(D:Qk)(hDf:D ∉ fp)(tp:Nat->Qk)(kv:Nat->Qj)(val:Nat->ah×Qj)(hval:∀i v,Pv i v->v= .ref (tp i))(hk:∀i,i < n->(bS P w).is (val i).1 (kv i)=true)(hw:∀i,i < n->tp i ∉ D::wr)(hb:n<=Qp):
 ∀(k i:Nat)(s:Ql),n - i=k->i<=n->St i s->s.heap.DictOf (bS P w) D (fX val i)->(∀j,j < n->lg s.heap (tp j) (kv j) (val j).2)->
  (∀s',Moved (D::wr) G s s'->s'.heap.DictOf (bS P w) D (fX val n)->R (.ok (.ret .none)) s')->∀t,codeAny (Qs P w) A (.builtin "dict.update.loop" ⟨[.ref D,.ref I,.int (i:Int) t,.none],[]⟩) R s:=by
 have sw:D ∉ wr:=λz=>hDf (W.sub _ z);have sub:∀b∈wr,b∈D::wr:=λb z=>Kz _ z;intro k
 induction k with
 | zero=>
  intro i s e1 e2 st hS hT q t;obtain rfl:i=n:=Qc
  refine codeAny_builtin yF ?_;rw [Oz nj _];show Qr _ A.in1 (pyNext (.ref I) >>=_) _ _ s;exact Qm (W.done s _ _ st λs' m=>Qm (Qq (Qq (q s' (m.mono sub) (let ⟨o,es,ep,ho,r⟩:=hS;⟨o,es,ep,m.heap D o sw ho,r⟩)))))
 | succ k ih=>
  intro i s e1 e2 st hS hT q t;have lt:i < n:=Qc
  refine codeAny_builtin yF ?_;rw [Oz nj _];show Qr _ A.in1 (pyNext (.ref I) >>=_) _ _ s;refine Qm (W.item i s _ _ lt st λv s' hP st' m=>?_);obtain rfl:=hval i v hP;have hS':s'.heap.DictOf (bS P w) D (fX val i):=let ⟨o,es,ep,ho,r⟩:=hS;⟨o,es,ep,m.heap D o sw ho,r⟩
  have hT':∀j,j < n->lg s'.heap (tp j) (kv j) (val j).2:=λj hj=>let ⟨o,m2,ho,r⟩:=hT j hj;⟨o,m2,m.heap _ o (λz=>hw j hj (sub _ z)) ho,r⟩
  obtain⟨o,m2,ho,hc,hd⟩:=hT' i lt;show Qr _ A.in1 (holding [KL (tp i)] _ >>=_) _ _ s';refine Qm (QH ?_);obtain⟨oc,od,oda,osl⟩:=o;simp only at hc hd;subst hc hd;have hTy:s'.TypeIs (.ref (tp i)) "tuple":=⟨_,ho,rfl⟩;refine Qm (wpAny_tryCatch ?_);unfold Builtin.Dict.pairItems;refine Qm (Q6 hTy ?_);rw [Qf Qb];refine Qm (wpAny_seqItems ho rfl (Qq ?_));show Qr _ A.in1 (holding [kv i,(val i).2] (dictSet D (kv i) (val i).2)) _ _ s';refine QH (wpAny_dictSet_pairs (hk i lt) hS' (λh' S2 sb=>?_) (by have:=yH val i;omega));rw [<-yG] at S2;refine Qq ⟨plainId_quiet nj _,ih (i+1) _ Qc lt (W.frame _ s' _ _ st' (Oi _) λb hb o e=>?_) S2 (λj hj=>?_) (λs2 m2 S3=>?_) _⟩
  ·rw [sb.2 b (λz:b=D=>hDf (by rw [<-z];exact hb))];exact e
  ·obtain⟨o,m3,ho3,r⟩:=hT' j hj;exact⟨o,m3,by rw [sb.2 _ (λz=>hw j hj (by rw [z];exact KA))];exact ho3,r⟩
  ·refine q s2 (Moved.trans W.gtrans ((m.mono sub).then_heap (Oi _) λb o hb e=>?_) m2) S3;rw [sb.2 b (λz:b=D=>hb (by rw [z];exact KA))];exact e
end
section
variable {P:Qu} {w:Qw} {A:QC} {E:Qj->Ql->Prop} {s:Ql}
theorem GZ{l:Qk}{items:Array Qj}{n:Nat}(tp:Nat->Qk)(kv:Nat->Qj)(val:Nat->ah×Qj){Q:Qj->Ql->Prop}
 (hh:A.handled=none)(hl:∃o k,s.heap.get? l=some o/\o.cls= .type "list"/\o.dict=none/\o.data= .seq items k)(hn:items.size=n)(hi:∀(i:Nat) (v:Qj),items[i]?=some v->v= .ref (tp i))(hk:∀i,i < n->(bS P w).is (val i).1 (kv i)=true)(hT:∀i,i < n->lg s.heap (tp i) (kv i) (val i).2)(hb:n<=Qp)
 (h:∀(h':Qy) (tk:Nat),h'.DictOf (bS P w) s.heap.objs.size (fX val n)->(∀b o,s.heap.get? b=some o->h'.get? b=some o)->Q (.ref s.heap.objs.size) {s with heap:=h',toks:=tk}):
 Qr (Qs P w) A (call (.type "dict") [.ref l]) Q E s:=by
 refine callType_codes (Q₁:=λobj s₁=>obj= .ref s.heap.objs.size/\s₁={s with heap:=s.heap.push {cls:= .type "dict",data:= .dict #[]}}) PySem.F.kt_called_dict (PySem.F.kt_typeCall_dict_1 _) PySem.F.entry_dict_init (kt_code_dict_new _ ⟨rfl,rfl⟩) ?_;rintro obj s₁ ⟨rfl,rfl⟩;have hnew:(s.heap.push {cls:= .type "dict",data:= .dict #[]}).DictOf (bS P w) s.heap.objs.size []:=Po s.heap;refine⟨hnew.typeIs,PySem.F.args_dict_init_2 _ _,?_⟩;unfold Builtin.«dict.__init__»;refine Qm ?_;unfold Builtin.Dict.selfAndRest;refine Qm (wpAny_notOrdered_dict hnew.typeIs ?_);show Qr _ _ (pure (s.heap.objs.size,[KL l])) _ _ _;refine Qq ?_;show Qr _ _ (N8 "dict.__init__" s.heap.objs.size (.ref l) [] .none) _ _ _;unfold N8;obtain⟨o,k,ho,hc,hd,hdat⟩:=hl;have ho2:(s.heap.push {cls:= .type "dict",data:= .dict #[]}).get? l=some o:=J9 _ ho;refine Qm (Q6 (T:="list") ⟨_,ho2,hc⟩ ?_);rw [Qf Qb];refine Qm (GW (s:={s with heap:=s.heap.push {cls:= .type "dict",data:= .dict #[]}}) ho2 hc hdat hd ?_ λh' tk hk'=>?_)
 ·simp [hh]
 ·show Qr _ A.in1.in1 (rule _ >>=_) _ _ _;refine Qm (wpAny_rule ?_);have o3:h'.get? l=some o:=hk' l o ho2;have l1:h'.IsList l items:=⟨_,o3,hc,k,hdat⟩;have ll:l < s.heap.objs.size:=Km ho;have nD:s.heap.objs.size < h'.objs.size:=by
   obtain⟨od,_,_,hod,_⟩:=hnew;exact Km (hk' _ _ hod)
  refine Qm (Ru l1 ?_);refine Qq ⟨plainId_quiet nj _,?_⟩;have tl:∀i,i < n->tp i < s.heap.objs.size:=λi hi=>by obtain⟨_,_,e,_⟩:=hT i hi;exact Km e
  have hn2:items.size<=Qp:=Qc
  subst hn;refine GY (A:=A.in1) (Pn (show A.in1.in1.handled=none by simp [hh]) _ l (KH (N0 ll nD)) items).toS s.heap.objs.size (by simp only [Kh,Lk,or_false,not_or];exact⟨KH nD,NY ll⟩) tp kv val hi hk ?A hn2 (items.size - 0) 0 _ Qc (Lq _)
   ⟨⟨_,KN _ rfl,rfl,rfl⟩,l1.push _⟩ ?hS0 ?hT0 ?hR _
  case A=>
   intro i hi z;have t1:=tl i hi;simp only [Kh,Lk,or_false] at z;rcases z with z | z
   ·exact KH t1 z
   ·exact KH (N0 t1 nD) z
  case hT0=>
   intro j hj;obtain⟨u,m,e,r⟩:=hT j hj;exact⟨u,m,J9 _ (hk' _ _ (J9 _ e)),r⟩
  case hS0=>
   obtain⟨od,es,ep,hod,r⟩:=hnew;exact⟨od,es,ep,J9 _ (hk' _ _ hod),r⟩
  case hR=>
   intro s' m S';obtain⟨h2,g',d',tk',os'⟩:=s';obtain rfl:g'=s.gens:=m.gens;obtain rfl:d'=s.drawn:=m.drawn;obtain rfl:os'=s.os:=m.os;refine⟨rfl,h h2 tk' S' λb u e=>?_⟩;have hb1:b < s.heap.objs.size:=Km e;refine m.heap b u ?_ (J9 _ (hk' _ _ (J9 _ e)));simp only [Kh,Lk,or_false,not_or];exact⟨KH hb1,KH (N0 hb1 nD)⟩
end
def qx(K:J0)(H:Hp)(vs:List V)(kvs:List (ah×V)):Prop:=Paired (λv (p:ah×V)=>∃b,v= .ref b/\bg K H b [kV p.1,p.2]) vs kvs
theorem yI{X:Cx}{RB:List (Qk×Obj)}{σ:St}{H:Hp}{s:Ql}(I:af X RB σ H s):∀{vs:List V}{kvs:List (ah×V)}{its:List Qj},qx X.K H vs kvs->aD vs its->
 ∃zs:List (Qk×Qj×ah×Qj),zs.length=its.length/\KV kvs (zs.map (·.2.2))/\its=zs.map (λz=>KL z.1)/\∀z∈zs,(bS X.prog X.w).is z.2.2.1 z.2.1=true/\lg s.heap z.1 z.2.1 z.2.2.2
 | _,_,_,.nil,.nil=>⟨[],rfl,.nil,rfl,Qh⟩
 | _,_,_,.cons (b:=p) h t,.cons r rs=>by
  obtain⟨zs,e1,e2,e3,e4⟩:=yI I t rs;obtain⟨b,rfl,hb⟩:=h;cases r;obtain⟨its2,r2,⟨o,ho,hc,n,hd⟩,_⟩:=I.tuple hb;cases r2 with
  | @cons _ u _ _ ru r3=>
   obtain⟨x,rfl,rx⟩:=cW r3;refine⟨(b,u,p.1,x)::zs,by simp [e1],.cons ⟨rfl,rx⟩ e2,by rw [e3];rfl,λz hz=>?_⟩;rcases Kh.mp hz with e | e
   ·subst e;exact⟨gS ru,o,n,ho,hc,hd⟩
   ·exact e4 z e
theorem G0{X:Cx}:cT X (.type "dict") (λxs H Q=>X.calm=true/\∃a vs kvs,xs=[.ref a]/\aX X.K H a vs/\qx X.K H vs kvs/\∀l,H l=none->Q (.ref l) (aq H l (.dK (fQ [] kvs)))):=by
 intro RB s σ H xs us Q I r h;obtain⟨hc,a,vs,kvs,rfl,ha,hp,q⟩:=h;obtain⟨u,rfl,rx⟩:=cW r;cases rx;obtain⟨its,rv,⟨o,n,ho,hcl,hdi,hda⟩,hz⟩:=I.list ha;obtain⟨zs,z1,z2,z3,z4⟩:=yI I hp rv;have ln:vs.length=its.length:=rv.length;have hk:kvs.length=zs.length:=by rw [z2.length,J1]
 let D:Qk×Qj×ah×Qj:=(0,.none,.inl 0,.none)
 have at_:∀i,i < its.length->∃z∈zs,(zs[i]?).getD D=z:=λi hi=>by
  rw [<-z1] at hi;exact⟨zs[i],K9 hi,by rw [Kc hi];rfl⟩
 refine GZ (s:=s) (n:=its.length) (λi=>((zs[i]?).getD D).1) (λi=>((zs[i]?).getD D).2.1) (λi=>((zs[i]?).getD D).2.2) (I.ok.hd hc) ⟨o,n,ho,hcl,hdi,hda⟩ Qh (λi v e=>?_) (λi hi=>?_) (λi hi=>?_) Qc λh' tk dd kp=>?_
 ·rw [List.getElem?_toArray,z3,Kj] at e;cases hz':zs[i]? with
  | none=>rw [hz'] at e;cases e
  | some z=>rw [hz'] at e;cases e;rfl
 ·obtain⟨z,hz1,e⟩:=at_ i hi;show(bS X.prog X.w).is ((zs[i]?).getD D).2.2.1 ((zs[i]?).getD D).2.1=true;rw [e];exact(z4 z hz1).1
 ·obtain⟨z,hz1,e⟩:=at_ i hi;show lg s.heap ((zs[i]?).getD D).1 ((zs[i]?).getD D).2.1 ((zs[i]?).getD D).2.2.2;rw [e];exact(z4 z hz1).2
 ·have em:fX (λi=>((zs[i]?).getD D).2.2) its.length=merged [] (zs.map (·.2.2)):=by
   unfold fX merged;congr 1;rw [<-z1];apply MG Qh;intro i a b;simp at a b⊢;rw [Kc Qc];rfl
  rw [em] at dd;have zl:(fQ [] kvs).length<=Qp:=by
   have h1:=pM kvs [];rw [LI] at h1;omega
  exact⟨.ref _,_,I.laid (t':=tk) (o:= .dK (fQ [] kvs)) kp (J8 _) (pL zl (beq_eq_false_iff_ne.mpr (Ne.symm (KH I.big))) (z2.merge .nil) dd),rfl,q _ (I.hok.fresh (J8 _))⟩
section
variable {X:Cx} {H0:Hp} {O0:Ex}
def yJ(t:DA):i6:=λδ Q=>t δ λds=>∃kd:List (ah×Qi),ds=[.list (kd.map λp=>.tuple [fU p.1,p.2])]/\Q (kd.foldl (λa p=>dN a p.1 p.2) [])
theorem yK{K:J0}{H:Hp}{O:Ex}:∀{us:List V}{kd:List (ah×Qi)},ai K H O us (kd.map λp=>.tuple [fU p.1,p.2])->∃kv,qx K H us kv/\bo K H O kv kd
 | [],[],_=>⟨[],.nil,.nil⟩
 | _::_,(k,d)::kd,.cons h r=>by
  obtain⟨kv,h1,h2⟩:=yK r;obtain⟨b,vs,rfl,hs,d2⟩:=(Sh.dt h).tup;cases d2 with
  | cons x1 x2=>
   cases x2 with
   | cons x2 x3=>
    cases x3;cases x1.key;exact⟨(k,_)::kv,.cons ⟨b,rfl,hs⟩ h1,.cons x2 h2⟩
theorem G1{a:Qn}{t:DA}{np p:Pos}(hc:X.calm=true)(hg:Gl X "dict")(hm:X.mg "dict"=none)(ha:PA X [a] (el X.K H0 O0 t))(he:Qo [a] X.env=(false,eval a X.env)::Qo [] X.env:=by rfl)(hpl:(QJ p (Qo [] X.env)).any (·.1)=false:=by rfl):KE X H0 O0 (.Call (.Name "dict" np) [a] [] p) (yJ t):=
 (fJ G0 hg hm Dv ha (he:=he) (hpl:=hpl)).imp λσ H Q uu70=>by obtain⟨O,δ,Qd,w,q,k⟩:=uu70;exact⟨O,δ,_,w,q,λds vs H1 uu71 s1 r1=>by
  obtain⟨kd,e,q1⟩:=uu71;subst e;cases r1 with
  | cons h r=>
   cases r;obtain⟨a,us,rfl,h1,d1⟩:=h.lst;obtain⟨kv,p1,p2⟩:=yK d1;exact⟨hc,a,us,kv,rfl,h1,p1,λl hl=>k _ _ _ _ q1 s1 hl (p2.merge .nil)⟩⟩
end
theorem Dt.dicE{K:J0}{H:Hp}{O:Ex}{v:V}{ks:List Str}{ds:List Qi}(h:Dt K H O v (fW ks ds)):∃a ob kv,v= .ref a/\H a=some (.frz ob (.dK kv))/\kv.map (·.1)=ks.map Lg/\¬O a/\ai K H O (kv.map (·.2)) ds:=by
 cases h with
 | @dic a ob kv ks' kp ds h e1 e2 n rr=>
  have ek:ks'=ks:=iE e2.symm;subst ek;exact⟨a,ob,kv,rfl,h,e1,n,rr⟩
theorem G2{K:J0}{H:Hp}{O:Ex}{z:Str}{kv:List (ah×V)}{ks:List Str}{ds:List Qi}(e1:kv.map (·.1)=ks.map Lg)(r:ai K H O (kv.map (·.2)) ds):(cU kv (.inr z)).isSome=(cB ks ds z).isSome:=by
 cases hd:cB ks ds z with
 | none=>rw [nh e1 r hd];rfl
 | some d=>
  obtain⟨v,hv,_⟩:=k7 e1 r hd;rw [hv];rfl
section
variable {X:Cx} {H0:Hp} {O0:Ex}
def yL(t:DT):DA:=λδ Q=>t δ λd=>∃ks ds,d=fW ks ds/\ks.length < 64/\Q ((cG ks).map .str)
theorem G3{o:Qn}{t:DT}{np p:Pos}(hc:X.calm=true)(hg:Gl X "sorted")(hm:X.mg "sorted"=none)(hv:QB "sorted"=some (.builtin "sorted"))(ho:DE X H0 O0 o t)(he:Qo [o] X.env=(false,eval o X.env)::Qo [] X.env:=by rfl)(hpl:(QJ p (Qo [] X.env)).any (·.1)=false:=by rfl):
 FE X H0 O0 (.Call (.Name "sorted" np) [o] [] p) (yL t):=
 (aS xh hg hm hv (cC ho dE he) (he:=he) (hpl:=hpl)).imp λσ H Q uu72=>by obtain⟨O,δ,Qd,w,q,k⟩:=uu72;exact⟨O,δ,_,w,q,λd v H1 uu73 s1 r1=>by
  obtain⟨ks,ds,e,h64,q1⟩:=uu73;subst e;obtain⟨a,ob,kv,rfl,h,e1,n,rr⟩:=r1.dicE;exact⟨hc,a,kv,ks,rfl,.inr ⟨_,h⟩,e1,h64,λp hp=>k _ _ _ _ q1 s1 hp (ai.ofStrs _)⟩⟩
def nk(neg:Bool)(tk to:DT):DT:=λδ Q=>tk δ λy=>to δ λx=>∃z ks ds,y= .str z/\x=fW ks ds/\Q (.bool (if neg then !(cB ks ds z).isSome else(cB ks ds z).isSome))
theorem yM{o e:Qn}{tk to:DT}(hu:X.A.units+64 < QD)(ho:DE X H0 O0 o to)(he:DE X H0 O0 e tk):PC X .In e o (up X.K H0 O0 (nk false tk to)):=λRB s σ H Q I ⟨O,δ,Qd,w,q,k⟩=>
 vK Qc he ho RB s σ H Q I ⟨O,δ,_,w,q,λy uy H2 q2 s2 r2=>⟨O,δ,_,w.mono s2,q2,λx ux H3 uu75 s3 r3=>by
  obtain⟨z,ks,ds,ey,ex,q3⟩:=uu75;subst ey ex;cases r2;obtain⟨a,ob,kv,rfl,h,e1,n,rr⟩:=r3.dicE;exact⟨a,_,rfl,cy.z (k:= .inr z) h,by rw [G2 e1 rr];exact k _ _ _ q3 (s2.trans s3) (.bl _)⟩⟩⟩
theorem G4{o e:Qn}{tk to:DT}{pos:Pos}(hu:X.A.units+64 < QD)(ho:DE X H0 O0 o to)(he:DE X H0 O0 e tk)(hm:QG .In o=false:=by rfl):DE X H0 O0 (.Compare e [.In] [o] pos) (nk false tk to):=BH (yM hu ho he) hm
theorem G5{o e:Qn}{tk to:DT}{pos:Pos}(hu:X.A.units+64 < QD)(ho:DE X H0 O0 o to)(he:DE X H0 O0 e tk)(hm:QG .In o=false:=by rfl):PT X (.Compare e [.In] [o] pos) (bM X.K H0 O0 (gm (nk false tk to))):=
 (om (yM hu ho he) hm).imp λσ H Q uu76=>by obtain⟨O,δ,Qd,w,q,k⟩:=uu76;exact⟨O,δ,_,w,q,λd v H' uu77 s r=>by obtain⟨b,e,qb⟩:=uu77;subst e;cases r;exact⟨b,rfl,k b H' qb s⟩⟩
def G6(tl:TE):TI:=λσ H R=>tl σ H λx H1=>∃a o kv,x= .ref a/\H1 a=some (.frz o (.dK kv))/\R (qi o a kv) H1
theorem G7{X:Cx}{tg l:Qn}{tl:TE}(hl:PE X l tl):PI X tg l (G6 tl):=by
 intro RB s σ H R I h;refine aA (hl RB s σ H _ I h) λv s1 ⟨x,H1,I1,r1,q1⟩=>?_;obtain⟨a,o,kv,e,ha,q⟩:=q1;subst e;cases r1;obtain⟨g,z,hd,vs,rel,o',es,ep,g',r1,r2,r3⟩:=I1.hok a _ ha;rw [g] at g';cases g';have hlen:=rel.len;have hd':(a==QQ)=false:=hd;refine wpAny_pyIter_dict hd' (knd:=bS X.prog X.w) (kvs:=vs) (ep:=ep) ⟨o,es,g,r1,r2,r3⟩ ?_;rw [hlen];refine⟨s1.heap.objs.size,[s1.heap.objs.size],_,_,_,rfl,I1.kept (t':=s1.toks) λb o e=>J9 _ e,Gh _ a o es ep kv r2,⟨_,KN _ rfl,rfl,rfl⟩,λb hb=>?_,q⟩;have e:b=s1.heap.objs.size:=by simpa using hb
 subst e;exact I1.fpOk (J8 _) (I1.hok.fresh (J8 _))
theorem yN{K:J0}{H:Hp}{O:Ex}:∀{kv:List (ah×V)}{ks:List Str},kv.map (·.1)=ks.map Lg->ai K H O (kv.map λp=>kV p.1) (ks.map .str)
 | [],[],_=>.nil
 | p::kv,k::ks,h=>by
  simp only [Kb,Li] at h;obtain⟨p1,p2⟩:=p;obtain⟨rfl,h⟩:=h;exact .cons (.str _) (yN h)
def yO(t:DT)(dg:DG)(tb:DS):DS:=λE δ=>t δ λd=>∃ks ds,d=fW ks ds/\jz dg tb E (ks.map .str) δ
theorem G8{tg iter:Qn}{t:DT}{g:TG}{dg:DG}{tb:DS}{body:List Qx}{pos:Pos}(hp:QZ (Qs X.prog X.w) X.A X.env X.xe)(hc:X.calm=true)(hi:DE X H0 O0 iter t)(hg:PG X tg g)(gd:GD X.K g dg)(hb:bz X body (bp X.K H0 O0 tb))(hs:∀x,QA iter X.env x=pure x:=by intro _;rfl):
 PS X (.For tg iter body [] pos) (bp X.K H0 O0 (yO t dg tb)):=
 (iL hp hc (G7 hi) hg hb hs).imp λD σ H uu79=>by obtain⟨O,δ,E,w,q,k1,k2,k3,k4⟩:=uu79;exact⟨O,δ,_,w,q,λd v H1 uu80 s1 r1=>by
  obtain⟨ks,ds,e,q1⟩:=uu80;subst e;obtain⟨a,ob,kv,rfl,h,e1,n,rr⟩:=r1.dicE;exact⟨a,ob,kv,rfl,h,jA bW.dk gd (λH' O' S=>S.keep _ _ h n) (yN e1) (w.mono s1) q1 (λO' δ' σ' H' z w' S=>k1 O' δ' σ' H' z w' (aN.trans (.same s1) S)) k2⟩⟩
end
section
variable {x y z w:Option Sl} {l:Dl} {i j k m:Nat} {P:Qi->Prop}
theorem G9:cL j ((x::l).set 0 y) P=cL j (y::l) P:=rfl
theorem Ha:cL j ((x::l).set (i+1) y) P=cL j (x::l.set i y) P:=rfl
theorem Hb:cL j (((x::l).set 0 y).set k z) P=cL j ((y::l).set k z) P:=rfl
theorem Hc:cL j (((x::l).set (i+1) y).set k z) P=cL j ((x::l.set i y).set k z) P:=rfl
theorem He:cL j ((((x::l).set 0 y).set k z).set m w) P=cL j (((y::l).set k z).set m w) P:=rfl
theorem Hf:cL j ((((x::l).set (i+1) y).set k z).set m w) P=cL j (((x::l.set i y).set k z).set m w) P:=rfl
end
section
variable {K:J0} {mg:Str->Option Qj} {h:Qy} {x q:Str} {st:Qx} {f C:Qk} {fd:Qt} {ps:List Str}
structure Fn (K:J0) (mg:Str->Option Qj) (x:Str) (st:Qx) (f:Qk) (fd:Qt) (ps:List Str):Prop where
 F:gL K x x st f fd
 m:mg x=some (.ref f)
 b:fI K fd ps []
structure DfT (K:J0) (x:Str) (st:Qx) (f:Qk) (fd:Qt):Prop where
 a:KO K Qv x=some (some (.ref f))
 F:gL K x x st f fd
theorem DfT.of{oc:Qj}{od an:Option Qk}{osl:Array (Option Qj)}{kV doc pm cdv ct:Qj}(a:KO K Qv x=some (some (.ref f)))(l:K.lookup f=some ⟨oc,od,.func (Ma x x (iO st) (gK st) (aE st) .none kV doc pm an cdv ct),osl⟩)
 (c:Nv K cdv x=true)(k:MU K (.ref f)=true):DfT K x st f (Ma x x (iO st) (gK st) (aE st) .none kV doc pm an cdv ct):=⟨a,CU l c k⟩
theorem DfT.fn(D:DfT K x st f fd)(X:K.In h)(G:h.Ns Qv mg)(hb:∀(kV doc pm:Qj) (an:Option Qk) (cdv ct:Qj) (us:List Qj),us.length=ps.length->bindArgs (Ma x x (iO st) (gK st) (aE st) .none kV doc pm an cdv ct) ⟨us,[]⟩=pure (ps.zip us):=by walk_at "b"):Fn K mg x st f fd ps:=⟨D.F,Mj X G D.a,D.F.binds hb⟩
theorem Fn.kp(N:Fn K mg x st f fd ps):MU K (.ref f)=true:=N.F.kp
end
section
variable {X:Cx} {k:Nat} {f:Qk} {fd:Qt} {ps:List Str} {sp:Sp} {st:Qx} {x:Str} {p pos:Pos} {e:Qn} {es:List Qn} {t:TA}
theorem Hg(F:aM X.prog X.w X.K X.mg X.base CX0 k f fd ps sp)(hr:bx k X.A)(hg:Gl X x)(N:Fn X.K X.mg x st f fd ps)
 (ha:PA X (e::es) t)(hdb:(x==("__debug__":Str))=false:=by decide)(he:Qo (e::es) X.env=(false,eval e X.env)::Qo es X.env:=by rfl)(hpl:(QJ pos (Qo es X.env)).any (·.1)=false:=by rfl):
 PE X (.Call (.Name x p) (e::es) [] pos) (lY sp [] E0 t):=Cd F hr hg N.m N.kp N.b .nil CT ha hdb he hpl
end
theorem br.of{sc:QO}{N N':List Str}{k:Nat}{fr:List Nat}{scope:QO}(a:scope.kind= .function:=by rfl)(b:∀y∈scope.names,y.2= .cell->scope.names.lookup y.1=some .cell:=by decide+kernel)(c:∀y∈scope.names,y.2= .local->scope.names.lookup y.1=some .local:=by decide+kernel)(d:N'.Nodup:=by decide+kernel)(e:fr.map (λj=>N[j]?)=(N'.drop k).map some:=by rfl)(f:∀x∈N'.drop k,scope.names.lookup x=some .free:=by decide+kernel)(g:∀y∈scope.names,y.2= .free->sc.names.lookup y.1=some .cell\/sc.names.lookup y.1=some .free:=by decide+kernel)(h:∀x∈N'.drop k,sc.names.lookup x=some .cell\/sc.names.lookup x=some .free:=by decide+kernel)(i:N'.length=k+fr.length:=by rfl):br sc N N' k fr scope:=⟨a,b,c,d,e,f,g,h,i⟩
theorem aZ.of{N P:List Str}{sc:QO}(a:sc.kind= .function:=by rfl)(b:sc.isCoroutine=false:=by rfl)(c:sc.isGenerator=false:=by rfl)(d:N.Nodup:=by decide+kernel)(e:N.take P.length=P:=by rfl)(f:∀x∈P,sc.names.lookup x=some .local\/sc.names.lookup x=some .cell:=by decide+kernel)(g:∀y∈sc.names,y.2≠ .free:=by decide+kernel):aZ N P sc:=⟨a,b,c,d,e,f,g⟩
section
variable {X:Cx} {H0:Hp} {O0:Ex} {pos:Pos} {a b e:Qn} {es:List Qn} {ta tb t:DT} {u:DA} {r:R2} {rd:Qi->Qi->(Qi->Prop)->Prop}
theorem aR{op:Operator}(ho:bh X (QR op) r)(hd:bG X.K r rd)(ha:DE X H0 O0 a ta)(hb:DE X H0 O0 b tb):DE X H0 O0 (.BinOp a op b pos) (fi rd ta tb):=DN ho hd (df ha) (df hb)
theorem ak(ho:jo X r)(hd:bG X.K r rd)(ha:DE X H0 O0 a ta)(hb:DE X H0 O0 b tb)(hs:∀v u,Rc b false v u=operate [v,u] (QX v u):=by intro _ _;rfl):DE X H0 O0 (.Subscript a b pos) (fi rd ta tb):=cY ho hd (df ha) (df hb) hs
theorem aI{op:Q7}(ho:bh X (Qz op) r)(hd:bG X.K r rd)(ha:DE X H0 O0 a ta)(hb:DE X H0 O0 b tb)(hm:QG op b=false):PT X (.Compare a [op] [b] pos) (bM X.K H0 O0 (gm (fi rd ta tb))):=ug ho hd (df ha) (df hb) hm
theorem aJ(h:DE X H0 O0 e t)(hs:PA X es (el X.K H0 O0 u))(he:Qo (e::es) X.env=(false,eval e X.env)::Qo es X.env:=by rfl):PA X (e::es) (el X.K H0 O0 (jx t u)):=kD (df h) hs he
theorem au{k j:Nat}{f:Qk}{fd:Qt}{ps:List Str}{F:List Qi->(Qi->Prop)->Prop}{st:Qx}{x:Str}{p:Pos}(G:aM X.prog X.w X.K X.mg X.base CX0 k f fd ps (aT X.K F))(hr:bx j X.A)(N:Fn X.K X.mg x st f fd ps)
 (ha:PA X (e::es) (fh X.K H0 O0 u))(hk:k<=j:=by decide)(hg:Gl X x:=by exact rfl)(hdb:(x==("__debug__":Str))=false:=by decide)(he:Qo (e::es) X.env=(false,eval e X.env)::Qo es X.env:=by rfl)(hpl:(QJ pos (Qo es X.env)).any (·.1)=false:=by rfl):
 DE X H0 O0 (.Call (.Name x p) (e::es) [] pos) (kC F u):=PE.imp (Hg G (hr.mono hk) hg N ha hdb he hpl) DU
end
end L2
namespace PySem.SeqAt
open AutoSeq1 (wpAny_loadPart')
open MeetsSeq
section
variable {A:QC} {s:Ql}
theorem EqAt.dict_str{l:Qk}{es:Array Q0}{n:Nat}{o:Obj}(b:Str)(u:Tok)(ho:s.heap.get? l=some o)(hc:o.cls= .type "dict")(hd:o.data= .dict es n)(hu:A.units < QD):EqAt A s (.ref l) (.str b u) false:=λprog w E Q h=>by
 unfold eqBool;refine QH ?_;refine wpAny_ite_split (λhab=>absurd (eq_of_beq hab) nofun) (λ_=>?_);exact Qm (RcAt.dict_str b u ho hc hd hu prog w E _ (QF h))
end
end PySem.SeqAt
namespace L2
open PySem PySem.Spec PyProof.Rows PySem.W
section
variable {X:Cx} {RB:List (Qk×Obj)} {σ:St} {H:Hp} {s:Ql}
theorem yP(I:af X RB σ H s){A:QC}{O:Ex}{v:V}{d:Qi}{u:Qj}(h:Dt X.K H O v d)(ht:bQ d=true)(r:aC v u)(y:Str)(t:Tok)(hu:A.units < QD):NS A s u (.str y t) (J6 d (.str y)):=by
 cases h with
 | non=>cases (show u=Mv from r);simpa [J6] using NS.none_str y t
 | bl b=>cases (show u=L8 b from r);simpa [J6] using NS.bool_str b y t
 | int i=>obtain⟨k,e⟩:=(show ∃t,u=Mu i t from r);cases e;simpa [J6] using OL i k y t
 | str x=>obtain⟨k,e⟩:=(show ∃t,u=LZ x t from r);cases e;simpa [J6] using OQ x k y t
 | @tup a xs ds h n rr=>
  cases (show u=KL a from r);obtain⟨its,rv,p,_⟩:=I.tuple (.inl h);simpa [J6] using OA y t (show s.heap.IsTuple a its.toArray from p) hu
 | @tupK a xs ds h rr=>
  cases (show u=KL a from r);obtain⟨its,rv,p,_⟩:=I.tuple h.of0;simpa [J6] using OA y t (show s.heap.IsTuple a its.toArray from p) hu
 | @lst a xs ds h n rr=>
  cases (show u=KL a from r);obtain⟨its,rv,p,_⟩:=I.list (.inl h);simpa [J6] using NS.list_str y t p.isList hu
 | pack h n=>exact absurd ht (by simp [bQ])
 | purse h n=>exact absurd ht (by simp [bQ])
 | scr h r=>exact absurd ht (by simp [bQ])
 | obj h e n r=>exact absurd ht (by simp [bQ])
 | @dct0 a h n=>
  cases (show u=KL a from r);obtain⟨_,_,_,_,o,es,ep,e,c,dd,_⟩:=(show bN X.prog X.w H s.heap a (.dK []) from I.hok a _ h);simpa [J6] using NS.dict_str y t e c.1 dd hu
 | @dic a ob kv ks kp ds h e1 e2 n rr=>
  cases (show u=KL a from r);obtain⟨_,_,_,_,o,es,ep,e,c,dd,_⟩:=(show bN X.prog X.w H s.heap a (.dK kv) from(I.hok a _ h).2);simpa [J6] using NS.dict_str y t e c.1 dd hu
end
section
variable {X:Cx} {H0:Hp} {O0:Ex}
def yQ(K:J0):R2:=λx y H Q=>∃(O:Ex)(a b:Qk)(vs:List V)(ds:List Qi)(z:Str),x= .ref a/\bg K H a vs/\ai K H O vs ds/\(∀d∈ds,bQ d=true)/\y= .ref b/\bg K H b [V.str z]/\Q (.bl (!J6 (.tuple ds) (.tuple [.str z]))) H
theorem Hh{k:Nat}(hr:bx k X.A):bh X (Qz .NotEq) (yQ X.K):=by
 intro RB s σ H x y v u Q I rx ry h;obtain⟨O,a,b,vs,ds,z,rfl,ha,hd,ht,rfl,hb,q⟩:=h;cases rx;cases ry;obtain⟨its,rv,p,_⟩:=I.tuple ha;obtain⟨jts,rw,p2,_⟩:=I.tuple hb;have hc:Qz .NotEq (.ref a) (.ref b)=richCompare .NotEq (.ref a) (.ref b):=rfl;rw [hc];have hu0:X.A.units < QD:=hr.units0;have hu1:X.A.in1.units < QD:=by show X.A.units+1 < QD;have:=hr.un;omega
 have l1:its.length=ds.length:=by rw [<-rv.length,<-hd.length]
 have l2:jts.length=1:=by rw [<-rw.length];rfl
 have he:∀j(h1:j < its.toArray.size)(h2:j < jts.toArray.size),NS X.A.in1 s its.toArray[j] jts.toArray[j] (Np ds [.str z] j):=λj h1 h2=>by
  have h1':j < its.length:=by simpa using h1
  have h2':j < jts.length:=by simpa using h2
  have hj:j=0:=Qc
  subst hj;cases rv with
  | nil=>simp at h1'
  | @cons x0 u0 xs0 us0 r1 r2=>
   cases rw with
   | @cons x1 u1 xs1 us1 r3 r4=>
    cases hd with
    | @cons _ d0 _ ds0 e1 e2=>
     obtain⟨t,rfl⟩:=(show ∃t,u1=LZ z t from r3);exact yP I e1 (ht d0 KA) r1 z t hu1
 have:=SeqAt.RcNeAt.tuples (e:=Np ds [.str z]) (show s.heap.IsTuple a its.toArray from p) (show s.heap.IsTuple b jts.toArray from p2) hu0 he X.prog X.w X.xe;refine this _ ?_;have ee:=Pq ds [.str z];have e1:its.toArray.size=ds.length:=by simpa using l1
 have e2:jts.toArray.size=[J5 z].length:=by simpa using l2
 rw [e1,e2,ee];exact d8 I q rfl
def yR:Qi->Qi->(Qi->Prop)->Prop:=λx y Q=>∃(ds:List Qi)(z:Str),x= .tuple ds/\(∀d∈ds,bQ d=true)/\y= .tuple [.str z]/\Q (.bool (!J6 (.tuple ds) (.tuple [.str z])))
theorem Hi{K:J0}:bG K (yQ K) yR:=λH O x y dx dy Qd R _ hx hy uu81 k=>by
 obtain⟨ds,z,e,ht,e',q⟩:=uu81;subst e e';obtain⟨a,vs,rfl,hs,r⟩:=hx.tup;obtain⟨b,ws,rfl,hs2,r2⟩:=hy.tup;cases (show ai K H _ ws ([z].map J5) from r2).strs;exact⟨_,a,b,vs,ds,z,rfl,hs,r,ht,rfl,hs2,k _ _ H q (ar.refl _) (.bl _)⟩
def yS(K:J0):R2:=λx y H Q=>∃(O:Ex)(dx:Qi)(zs:List Str)(a:Qk),Dt K H O x dx/\bQ dx=true/\y= .ref a/\bg K H a (zs.map V.str)/\Q (.bl (!zs.any λz=>J6 (.str z) dx)) H
theorem Hj{k:Nat}(hr:bx k X.A):bh X (Qz .NotIn) (yS X.K):=by
 intro RB s σ H x y v u Q I rx ry h;obtain⟨O,dx,zs,a,hx,ht,rfl,ha,q⟩:=h;cases ry;obtain⟨its,rv,p,_⟩:=I.tuple ha;have hS:=pY rv;have hl:=wB dx hS;refine SeqAt.notIn_tupleAt (λy=>J6 (.str (strOf y)) dx) (show s.heap.IsTuple a its.toArray from p) (λy hy=>?_) (by rw [Pd,hl];exact d8 I q rfl);obtain⟨z,t,rfl⟩:=hS.all y (by simpa using hy);exact wz I hx ht rx z t (by show X.A.units+1 < QD;have:=hr.un;omega)
def yT:Qi->Qi->(Qi->Prop)->Prop:=λx y Q=>∃zs:List Str,y= .tuple (zs.map .str)/\bQ x=true/\Q (.bool (!zs.any λz=>J6 (.str z) x))
theorem Hk{K:J0}:bG K (yS K) yT:=λH O x y dx dy Qd R _ hx hy uu82 k=>by
 obtain⟨zs,e,ht,q⟩:=uu82;subst e;obtain⟨a,vs,rfl,hs,r⟩:=hy.tup;cases r.strs;exact⟨_,dx,zs,a,hx.all,ht,rfl,hs,k _ _ H q (ar.refl _) (.bl _)⟩
open PySem PySem.Spec PyProof.Rows PySem.W PySem.Calls
end
end L2
namespace PySem.SeqAt
open AutoSeq1 (wpAny_loadPart')
open MeetsSeq
end PySem.SeqAt
namespace L2
open PySem PySem.Spec PyProof.Rows PySem.W
section
variable {X:Cx} {H0:Hp} {O0:Ex}
def yU(K:J0):R2:=λx y H Q=>∃(O:Ex)(a b:Qk)(vs:List V)(ds:List Qi)(zs:List Str),x= .ref a/\bg K H a vs/\ai K H O vs ds/\(∀d∈ds,bQ d=true)/\y= .ref b/\bg K H b (zs.map V.str)/\Q (.bl (J6 (.tuple ds) (.tuple (zs.map .str)))) H
theorem Hl{k:Nat}(hr:bx k X.A):bh X (Qz .Eq) (yU X.K):=by
 intro RB s σ H x y v u Q I rx ry h;obtain⟨O,a,b,vs,ds,zs,rfl,ha,hd,ht,rfl,hb,q⟩:=h;cases rx;cases ry;obtain⟨its,rv,p,_⟩:=I.tuple ha;obtain⟨jts,rw,p2,_⟩:=I.tuple hb;have hu0:X.A.units < QD:=hr.units0;have hu1:X.A.in1.units < QD:=by show X.A.units+1 < QD;have:=hr.un;omega
 have l1:its.length=ds.length:=by rw [<-rv.length,<-hd.length]
 have l2:jts.length=(zs.map J5).length:=by rw [<-rw.length,J1,J1]
 have he:∀j(h1:j < its.toArray.size)(h2:j < jts.toArray.size),NS X.A.in1 s its.toArray[j] jts.toArray[j] (Np ds (zs.map .str) j):=λj h1 h2=>by
  have h1':j < its.length:=by simpa using h1
  have h2':j < jts.length:=by simpa using h2
  have hz:j < zs.length:=by rw [l2,J1] at h2';exact h2'
  have hv:j < vs.length:=by rw [rv.length];exact h1'
  obtain⟨u,eu,ru⟩:=rv.get (Kc hv);obtain⟨d,ed,rd⟩:=hd.get (Kc hv);obtain⟨u2,eu2,ru2⟩:=rw.get (i:=j) (x:=V.str zs[j]) (by rw [Kj,Kc hz];rfl);obtain⟨t,rfl⟩:=(show ∃t,u2=LZ zs[j] t from ru2);have e1:its.toArray[j]=u:=by
   rw [Kc h1'] at eu;simpa using eu
  have e2:jts.toArray[j]= .str zs[j] t:=by
   rw [Kc h2'] at eu2;simpa using eu2
  have e3:Np ds (zs.map .str) j=J6 d (.str zs[j]):=by
   show J6 (ds.getD j .none) ((zs.map J5).getD j .none)=_;rw [KG,KG,ed,Kj,Kc hz];rfl
  rw [e1,e2,e3];exact yP I rd (ht d (Kw ed)) ru zs[j] t hu1
 refine SeqAt.eq_tupleAt (e:=Np ds (zs.map .str)) (show s.heap.IsTuple a its.toArray from p) (show s.heap.IsTuple b jts.toArray from p2) hu0 he ?_;have ee:=Pq ds (zs.map .str);have e1:its.toArray.size=ds.length:=by simpa using l1
 have e2:jts.toArray.size=(zs.map J5).length:=by simpa using l2
 rw [e1,e2,ee];exact d8 I q rfl
def yV:Qi->Qi->(Qi->Prop)->Prop:=λx y Q=>∃(ds:List Qi)(zs:List Str),x= .tuple ds/\(∀d∈ds,bQ d=true)/\y= .tuple (zs.map .str)/\Q (.bool (J6 (.tuple ds) (.tuple (zs.map .str))))
theorem Hm{K:J0}:bG K (yU K) yV:=λH O x y dx dy Qd R _ hx hy uu83 k=>by
 obtain⟨ds,zs,e,ht,e',q⟩:=uu83;subst e e';obtain⟨a,vs,rfl,hs,r⟩:=hx.tup;obtain⟨b,ws,rfl,hs2,r2⟩:=hy.tup;cases r2.strs;exact⟨_,a,b,vs,ds,zs,rfl,hs,r,ht,rfl,hs2,k _ _ H q (ar.refl _) (.bl _)⟩
open PySem PySem.Spec PyProof.Rows PySem.W PySem.Calls
def yW(i j m:Nat):DS:=λE δ=>∃d,δ[m]?=some (some (.v d))/\E.nx ((δ.set i (some (.o [.tuple [d]]))).set j (some (.o [.tuple [d]])))
theorem Hn{i j m:Nat}{x y:Str}{z1 z2:Qn}{px py pt pos p1 p2 p3 p4:Pos}{kt k2 pt2 t1 t2}(hc:X.calm=true)(hN:X.N.Nodup)(hi:X.N[i]?=some x)(hj:X.N[j]?=some y)(hij:i≠j)
 (hx:X.env.scope.names.lookup x=some .local)(hy:X.env.scope.names.lookup y=some .local)(hz1:PE X z1 (dh m))(hz2:PE X z2 (dh m))
 (hw:Ri [.Tuple [.Name x px,.Name y py] kt pt] (.Tuple [.List [.Tuple [z1] t1 p3] p1,.List [.Tuple [z2] t2 p4] p2] k2 pt2) X.env=pure (some [x,y]))
 (h1:Qo [z1] X.env=(false,eval z1 X.env)::Qo [] X.env:=by rfl)(h2:Qo [z2] X.env=(false,eval z2 X.env)::Qo [] X.env:=by rfl)
 (h3:Qo [.Tuple [z1] t1 p3] X.env=(false,eval (.Tuple [z1] t1 p3) X.env)::Qo [] X.env:=by rfl)(h4:Qo [.Tuple [z2] t2 p4] X.env=(false,eval (.Tuple [z2] t2 p4) X.env)::Qo [] X.env:=by rfl)
 (h5:Qo [.List [.Tuple [z1] t1 p3] p1,.List [.Tuple [z2] t2 p4] p2] X.env=(false,eval (.List [.Tuple [z1] t1 p3] p1) X.env)::Qo [.List [.Tuple [z2] t2 p4] p2] X.env:=by rfl)(h6:Qo [.List [.Tuple [z2] t2 p4] p2] X.env=(false,eval (.List [.Tuple [z2] t2 p4] p2) X.env)::Qo [] X.env:=by rfl)
 (hs:Rh [.Tuple [.Name x px,.Name y py] kt pt] (.Tuple [.List [.Tuple [z1] t1 p3] p1,.List [.Tuple [z2] t2 p4] p2] k2 pt2) pos.line X.env=pure false:=by rfl):
 PS X (.Assign [.Tuple [.Name x px,.Name y py] kt pt] (.Tuple [.List [.Tuple [z1] t1 p3] p1,.List [.Tuple [z2] t2 p4] p2] k2 pt2) pos) (bp X.K H0 O0 (yW i j m)):=
 (sQ hc hN hi hj hij hx hy (cC (lX (cC (oN (cC hz1 dE h1)) dE h3)) (cC (lX (cC (oN (cC hz2 dE h2)) dE h4)) dE h6) h5) hw hs).imp λD σ H uu84=>by
  obtain⟨O,δ,E,w,⟨d,ed,q⟩,k1,k2,k3,k4⟩:=uu84;obtain⟨v,hv,rv⟩:=w.val ed;have one:∀u:V,[u].length<=Qp:=λu=>by show 1<=Qp;decide
  refine⟨v,hv,one _,λp1 hp1=>⟨one _,λl1 hl1=>⟨v,hv,one _,λp2 hp2=>⟨one _,λl2 hl2=>⟨_,_,rfl,?_⟩⟩⟩⟩⟩;have s1:ar H (aq H p1 (.tup [v])):=ar.new hp1;have w1:=w.mono s1;have r1:=rv.mono s1;have d1:Dt X.K (aq H p1 (.tup [v])) O (.ref p1) (.tuple [d]):= .tup (.inl bq) (ib w (ar.refl _) hp1) (.cons r1 .nil);have w2:=w1.setO (i:=i) hl1 (.cons d1 .nil);have S1:aN (aq H p1 (.tup [v])) (aq (aq H p1 (.tup [v])) l1 (.lst [.ref p1])) O (λl=>O l\/l=l1):=⟨λb o e _=>(ar.new hl1) b o e,λb e n z=>z.elim n λy=>by rw [y] at e;exact e hl1⟩;have r2:=r1.step S1;generalize hH2:aq (aq H p1 (.tup [v])) l1 (.lst [.ref p1])=H2 at*;have s3:ar H2 (aq H2 p2 (.tup [v])):=ar.new hp2;have w3:=w2.mono s3;have d2:Dt X.K (aq H2 p2 (.tup [v])) (λl=>O l\/l=l1) (.ref p2) (.tuple [d]):= .tup (.inl bq) (ib w2 (ar.refl _) hp2) (.cons (r2.mono s3) .nil);have w4:=w3.setO (i:=j) hl2 (.cons d2 .nil);have S2:aN (aq H2 p2 (.tup [v])) (aq (aq H2 p2 (.tup [v])) l2 (.lst [.ref p2])) (λl=>O l\/l=l1) (λl=>(O l\/l=l1)\/l=l2):=⟨λb o e _=>(ar.new hl2) b o e,λb e n z=>z.elim n λy=>by rw [y] at e;exact e hl2⟩;exact k1 _ _ _ _ q w4 ((aN.same s1).trans (S1.trans ((aN.same s3).trans S2)))
def yX(i j:Nat):DS:=λE δ=>∃d ds,δ[j]?=some (some (.o (ds++[d])))/\E.nx ((δ.set j (some (.o ds))).set i (some (.v d)))
theorem Ho{i j:Nat}{x:Str}{o:Qn}{pos pos' apos cpos:Pos}(hN:X.N.Nodup)(hi:X.N[i]?=some x)(hij:i≠j)(hx:fD X.env.scope x)(ho:PE X o (dh j))
 (hbase:QV o "pop" X.env (eval o X.env)=eval o X.env:=by rfl)(hline:(apos.endLine==cpos.line)=true:=by rfl)
 (hs:QK (.Call (.Attribute o "pop" apos) [] [] cpos) (some (.Name x pos')) pos.line X.env=pure false:=by rfl)(hf:X.fn x=true\/X.env.scope.names.lookup x=some .local:=by first | exact .inl rfl | exact .inr rfl | assumption):
 PS X (.Assign [.Name x pos'] (.Call (.Attribute o "pop" apos) [] [] cpos) pos) (bp X.K H0 O0 (yX i j)):=
 (iK hN hi hx (CF MZ PySem.F.slot_list_pop PySem.F.type_list_pop CK ho hbase hline) hs hf).imp λD σ H uu85=>by
  obtain⟨O,δ,E,w,⟨d,ds,e,q⟩,k1,k2,k3,k4⟩:=uu85;obtain⟨l,vs,h,a,b,c,r⟩:=w.own e;have hl:vs.length=ds.length+1:=by rw [r.length,Kk];rfl
  obtain⟨v0,ev,r0⟩:=r.getD (i:=ds.length) (d:=d) (by rw [LM (J8 _),OT];rfl);have rt:=r.take ds.length;rw [List.take_left' rfl] at rt;have edl:vs.dropLast=vs.take ds.length:=by rw [List.dropLast_eq_take,hl];rfl
  refine⟨_,h,.inl ⟨rfl,_,aX.of c⟩,l,vs,v0,rfl,rfl,c,by rw [hl];exact ev,?_⟩;rw [edl];have S:aN H (aq H l (.lst (vs.take ds.length))) O O:=⟨λb' o' z n=>by rw [aH (λy=>n (by rw [y];exact a))];exact z,λ_ _ n=>n⟩;have w1:=w.putO (vs:=vs) e h rt;exact k1 _ _ _ _ q (w1.set (r0.step S)) S
end
end L2
namespace K50
open PySem L2
theorem lit0:Kf (.str "")=true:=Qa
theorem lit1:Kf (.str "abcdefghijklmnopqrstuvwxyz")=true:=Qa
theorem lit2:Kf (.str "clash")=true:=Qa
theorem lit3:Kf (.str "coming")=true:=Qa
theorem lit4:Kf (.str "covered")=true:=Qa
theorem lit5:Kf (.str "days")=true:=Qa
theorem lit6:Kf (.str "deep")=true:=Qa
theorem lit7:Kf (.str "due")=true:=Qa
theorem lit8:Kf (.str "end")=true:=Qa
theorem lit9:Kf (.str "first")=true:=Qa
theorem lit10:Kf (.str "follow")=true:=Qa
theorem lit11:Kf (.str "gone")=true:=Qa
theorem lit12:Kf (.str "goneday.calls")=true:=Qa
theorem lit13:Kf (.str "goneday.checker")=true:=Qa
theorem lit14:Kf (.str "goneday.days")=true:=Qa
theorem lit15:Kf (.str "goneday.deeds")=true:=Qa
theorem lit16:Kf (.str "goneday.errors")=true:=Qa
theorem lit17:Kf (.str "goneday.standing")=true:=Qa
theorem lit18:Kf (.str "goneday.webs")=true:=Qa
theorem lit19:Kf (.str "happens")=true:=Qa
theorem lit20:Kf (.str "held")=true:=Qa
theorem lit21:Kf (.str "hold")=true:=Qa
theorem lit22:Kf (.str "keep")=true:=Qa
theorem lit23:Kf (.str "kind")=true:=Qa
theorem lit24:Kf (.str "lacks")=true:=Qa
theorem lit25:Kf (.str "last")=true:=Qa
theorem lit26:Kf (.str "law_goneday_k50_claims_of_holds")=true:=Qa
theorem lit27:Kf (.str "leave")=true:=Qa
theorem lit28:Kf (.str "lift")=true:=Qa
theorem lit29:Kf (.str "made")=true:=Qa
theorem lit30:Kf (.str "months")=true:=Qa
theorem lit31:Kf (.str "no paper of the deeds")=true:=Qa
theorem lit32:Kf (.str "none")=true:=Qa
theorem lit33:Kf (.str "paper")=true:=Qa
theorem lit34:Kf (.str "permit")=true:=Qa
theorem lit35:Kf (.str "plan")=true:=Qa
theorem lit36:Kf (.str "rule")=true:=Qa
theorem lit37:Kf (.str "stays")=true:=Qa
theorem lit38:Kf (.str "while")=true:=Qa
theorem lit39:Kf (.str "years")=true:=Qa
def bf(i:Nat):Qx:=PySem.Challenge.pw_goneday_k50_claims_of_holds.main.body.getD i (.Pass ⟨0,0,0,0⟩)
abbrev qy:Qx:=bf 9
abbrev qz:Qx:=bf 10
abbrev qA:Qx:=bf 21
abbrev nr:Qx:=bf 22
abbrev qB:Qx:=bf 23
abbrev nu:Qx:=bf 24
abbrev lq:Qx:=bf 26
abbrev nv:Qx:=bf 27
abbrev nA:Qx:=bf 30
abbrev nB:Qx:=bf 32
abbrev qC:Qx:=bf 33
abbrev qD:Qx:=bf 54
abbrev nE:Qx:=bf 55
abbrev qE:Qx:=bf 56
abbrev qF:Qx:=bf 57
abbrev qG:Qx:=bf 58
abbrev lr:Qx:=bf 59
abbrev qH:Qx:=bf 60
abbrev qI:Qx:=bf 61
abbrev qJ:Qx:=bf 62
abbrev qK:Qx:=bf 63
abbrev nF:Qx:=bf 64
abbrev nG:Qx:=bf 66
abbrev qL:Qx:=bf 67
abbrev qM:Qx:=bf 69
abbrev qN:Qx:=bf 71
abbrev qO:Qx:=bf 75
abbrev qP:Qx:=bf 89
abbrev qQ:Qx:=bf 91
abbrev qR:Qx:=bf 92
abbrev qS:Qx:=bf 93
abbrev lu:Qx:=bf 94
abbrev qT:Qx:=bf 95
abbrev qU:Qx:=bf 96
abbrev nH:Qx:=bf 97
abbrev qV:Qx:=bf 99
abbrev qW:Qx:=bf 100
abbrev nI:Qx:=bf 101
abbrev qX:Qx:=bf 102
abbrev nJ:Qx:=bf 103
abbrev i8:Qx:=bf 104
abbrev nK:Qx:=bf 105
abbrev ly:Qx:=bf 106
abbrev qY:Qx:=bf 107
abbrev qZ:Qx:=bf 108
abbrev rf:Qx:=bf 109
abbrev nL:Qx:=bf 110
abbrev nM:Qx:=bf 111
set_option genInjectivity false in
set_option genSizeOfSpec false in
structure cu where
 a_A:Qk
 d_A:Qt
 a_B:Qk
 d_B:Qt
 a_C:Qk
 d_C:Qt
 a_D:Qk
 d_D:Qt
 a_E:Qk
 d_E:Qt
 a_F:Qk
 d_F:Qt
 a_G:Qk
 d_G:Qt
 a_H:Qk
 d_H:Qt
 a_I:Qk
 d_I:Qt
 a_J:Qk
 d_J:Qt
 a_K:Qk
 d_K:Qt
 a_L:Qk
 d_L:Qt
 a_M:Qk
 d_M:Qt
 a_N:Qk
 d_N:Qt
 a_O:Qk
 d_O:Qt
 a_P:Qk
 d_P:Qt
 a_Q:Qk
 d_Q:Qt
 a_R:Qk
 d_R:Qt
 a_S:Qk
 d_S:Qt
 a_T:Qk
 d_T:Qt
 a_U:Qk
 d_U:Qt
 a_V:Qk
 d_V:Qt
 a_W:Qk
 d_W:Qt
 a_X:Qk
 d_X:Qt
 a_Y:Qk
 d_Y:Qt
 a_Z:Qk
 d_Z:Qt
 a_a:Qk
 d_a:Qt
 a_b:Qk
 d_b:Qt
 a_c:Qk
 d_c:Qt
 a_d:Qk
 d_d:Qt
 a_e:Qk
 d_e:Qt
 a_f:Qk
 d_f:Qt
 a_g:Qk
 d_g:Qt
 a_h:Qk
 d_h:Qt
 a_i:Qk
 d_i:Qt
 a_j:Qk
 d_j:Qt
 a_k:Qk
 d_k:Qt
 a_l:Qk
 d_l:Qt
 a_m:Qk
 d_m:Qt
 a_n:Qk
 d_n:Qt
 a_o:Qk
 d_o:Qt
 a_p:Qk
 d_p:Qt
 a_q:Qk
 d_q:Qt
 a_r:Qk
 d_r:Qt
 a_s:Qk
 d_s:Qt
 a_t:Qk
 d_t:Qt
 a_u:Qk
 d_u:Qt
 a_v:Qk
 d_v:Qt
 u_LAST_WRITTEN:Qj
 u_NoPaper:Qk
 u_LONGEST_NAME:Qj
 u_LETTERS:Qj
 u_MOST_MANY:Qj
 u_UNITS:Qj
 u_MOST_MAKERS:Qj
structure Txt (K:J0) (mg:Str->Option Qj) (t:cu):Prop where
 F_A:Fn K mg "is_whole" qy t.a_A t.d_A ["thing"]
 F_B:Fn K mg "is_day" qz t.a_B t.d_B ["thing"]
 F_C:Fn K mg "place_of" qA t.a_C t.d_C ["deed"]
 F_D:Fn K mg "comings" nr t.a_D t.d_D ["deeds"]
 F_E:Fn K mg "coming_of" qB t.a_E t.d_E ["deeds","paper"]
 F_F:Fn K mg "papers" nu t.a_F t.d_F ["deeds"]
 F_G:Fn K mg "maker_comings" lq t.a_G t.d_G ["deeds","coming"]
 F_H:Fn K mg "makers" nv t.a_H t.d_H ["deeds","paper"]
 F_I:Fn K mg "latest" nA t.a_I t.d_I ["deeds","words","day"]
 F_J:Fn K mg "holds_on" nB t.a_J t.d_J ["deeds","day"]
 F_K:Fn K mg "is_told" qC t.a_K t.d_K ["target","coming"]
 F_L:Fn K mg "is_tuple_of" qD t.a_L t.d_L ["thing","length"]
 F_M:Fn K mg "is_name" nE t.a_M t.d_M ["thing"]
 F_N:Fn K mg "is_since" qE t.a_N t.d_N ["thing"]
 F_O:Fn K mg "is_span" qF t.a_O t.d_O ["many","unit"]
 F_P:Fn K mg "is_rule" qG t.a_P t.d_P ["thing"]
 F_Q:Fn K mg "is_makers" lr t.a_Q t.d_Q ["thing"]
 F_R:Fn K mg "is_target" qH t.a_R t.d_R ["thing"]
 F_S:Fn K mg "are_parts" qI t.a_S t.d_S ["word","parts"]
 F_T:Fn K mg "is_deed" qJ t.a_T t.d_T ["thing"]
 F_U:Fn K mg "quarrel" qK t.a_U t.d_U ["one","other"]
 F_V:Fn K mg "go_together" nF t.a_V t.d_V ["deeds"]
 F_W:Fn K mg "are_deeds" nG t.a_W t.d_W ["thing"]
 F_X:Fn K mg "is_any_day" qL t.a_X t.d_X ["thing"]
 F_Y:Fn K mg "is_way" qM t.a_Y t.d_Y ["deeds","paper","thing"]
 F_Z:Fn K mg "is_asked" qN t.a_Z t.d_Z ["deeds","day","paper"]
 F_a:Fn K mg "is_covered" qO t.a_a t.d_a ["deeds","day","paper","hold","grounds"]
 F_b:Fn K mg "holds" qP t.a_b t.d_b ["claim","grounds"]
 F_c:Fn K mg "_law_cell" qQ t.a_c t.d_c ["_law_script","_law_k"]
 F_d:Fn K mg "_law_purse" qR t.a_d t.d_d ["_law_cell_here"]
 F_e:Fn K mg "_law_take" qS t.a_e t.d_e ["_law_purse_here","_law_many"]
 F_f:Fn K mg "_law_names" lu t.a_f t.d_f ["_law_purse_here","_law_many"]
 F_g:Fn K mg "_law_month" qT t.a_g t.d_g ["_law_year_here","_law_month_here"]
 F_h:Fn K mg "_law_year" qU t.a_h t.d_h ["_law_year_here"]
 F_i:Fn K mg "_law_day" nH t.a_i t.d_i ["_law_year_here","_law_month_here","_law_number"]
 F_j:Fn K mg "_law_drawn_day" qV t.a_j t.d_j ["_law_purse_here","_law_far"]
 F_k:Fn K mg "_law_parts" qW t.a_k t.d_k ["_law_purse_here","_law_word","_law_names_here","_law_kinds","_law_far"]
 F_l:Fn K mg "_law_deed" nI t.a_l t.d_l ["_law_purse_here","_law_word","_law_names_here","_law_kinds","_law_far"]
 F_m:Fn K mg "_law_quarrels" qX t.a_m t.d_m ["_law_one","_law_other"]
 F_n:Fn K mg "_law_deeds" nJ t.a_n t.d_n ["_law_script","_law_menu","_law_most"]
 F_o:Fn K mg "_law_web" i8 t.a_o t.d_o ["_law_deeds_here"]
 F_p:Fn K mg "_law_standing" nK t.a_p t.d_p ["_law_deeds_here","_law_day_here","_law_word","_law_ending"]
 F_q:Fn K mg "_law_line" ly t.a_q t.d_q ["_law_web_here","_law_way"]
 F_r:Fn K mg "_law_due" qY t.a_r t.d_r ["_law_deeds_here","_law_day_here","_law_name","_law_hold","_law_way"]
 F_s:Fn K mg "_law_ways" qZ t.a_s t.d_s ["_law_web_here","_law_name"]
 F_t:Fn K mg "_law_bent" rf t.a_t t.d_t ["_law_purse_here","_law_names_here","_law_way"]
 F_u:Fn K mg "_law_right" nL t.a_u t.d_u ["_law_purse_here","_law_deeds_here","_law_names_here","_law_day_here","_law_name","_law_hold"]
 F_v:Fn K mg "law" nM t.a_v t.d_v ["_law_script"]
 bt_v:∀(s:Ql)(u:Qj),BindsTo s t.d_v ⟨[u],[]⟩ [("_law_script",u)]
 c_LAST_WRITTEN:mg "LAST_WRITTEN"=some t.u_LAST_WRITTEN
 r_LAST_WRITTEN:aC (.int 99999) t.u_LAST_WRITTEN
 c_NoPaper:mg "NoPaper"=some (.ref t.u_NoPaper)
 c_LONGEST_NAME:mg "LONGEST_NAME"=some t.u_LONGEST_NAME
 r_LONGEST_NAME:aC (.int 8) t.u_LONGEST_NAME
 c_LETTERS:mg "LETTERS"=some t.u_LETTERS
 r_LETTERS:aC (.str "abcdefghijklmnopqrstuvwxyz") t.u_LETTERS
 c_MOST_MANY:mg "MOST_MANY"=some t.u_MOST_MANY
 r_MOST_MANY:aC (.int 999) t.u_MOST_MANY
 c_UNITS:mg "UNITS"=some t.u_UNITS
 e_UNITS:∃a,t.u_UNITS= .ref a/\∀H,bg K H a [V.str "days",V.str "months",V.str "years"]
 c_MOST_MAKERS:mg "MOST_MAKERS"=some t.u_MOST_MAKERS
 r_MOST_MAKERS:aC (.int 4) t.u_MOST_MAKERS
 n_abs:mg "abs"=none
 n_all:mg "all"=none
 n_any:mg "any"=none
 n_bool:mg "bool"=none
 n_dict:mg "dict"=none
 n_divmod:mg "divmod"=none
 n_int:mg "int"=none
 n_isinstance:mg "isinstance"=none
 n_len:mg "len"=none
 n_list:mg "list"=none
 n_max:mg "max"=none
 n_min:mg "min"=none
 n_range:mg "range"=none
 n_sorted:mg "sorted"=none
 n_str:mg "str"=none
 n_sum:mg "sum"=none
 n_tuple:mg "tuple"=none
theorem Hq:aZ ["thing"] ["thing"] (aE qy):= .of
theorem Hr:aZ ["thing"] ["thing"] (aE qz):= .of
theorem Hs:aZ ["deed"] ["deed"] (aE qA):= .of
theorem Ht:aZ ["deeds"] ["deeds"] (aE nr):= .of
theorem yY:aZ ["deeds","paper","deed"] ["deeds","paper"] (aE qB):= .of
theorem Hu:aZ ["deeds"] ["deeds"] (aE nu):= .of
theorem yZ:aZ ["deeds","coming","named"] ["deeds","coming"] (aE lq):= .of
theorem Hv:aZ ["deeds","paper"] ["deeds","paper"] (aE nv):= .of
theorem nN:aZ ["deeds","words","day","found","deed","known"] ["deeds","words","day"] (aE nA):= .of
theorem Hw:aZ ["deeds","day"] ["deeds","day"] (aE nB):= .of
theorem Hx:aZ ["target","coming"] ["target","coming"] (aE qC):= .of
theorem Hy:aZ ["thing","length"] ["thing","length"] (aE qD):= .of
theorem Hz:aZ ["thing"] ["thing"] (aE nE):= .of
theorem HA:aZ ["thing"] ["thing"] (aE qE):= .of
theorem HB:aZ ["many","unit"] ["many","unit"] (aE qF):= .of
theorem y3:aZ ["thing","named"] ["thing"] (aE qG):= .of
theorem HC:aZ ["thing"] ["thing"] (aE lr):= .of
theorem HD:aZ ["thing"] ["thing"] (aE qH):= .of
theorem HE:aZ ["word","parts"] ["word","parts"] (aE qI):= .of
theorem HF:aZ ["thing"] ["thing"] (aE qJ):= .of
theorem rg:aZ ["one","other","word","words"] ["one","other"] (aE qK):= .of
theorem y4:aZ ["deeds","place"] ["deeds"] (aE nF):= .of
theorem HG:aZ ["thing"] ["thing"] (aE nG):= .of
theorem HH:aZ ["thing"] ["thing"] (aE qL):= .of
theorem y6:aZ ["deeds","paper","thing","place"] ["deeds","paper","thing"] (aE qM):= .of
theorem HI:aZ ["deeds","day","paper"] ["deeds","day","paper"] (aE qN):= .of
theorem nO:aZ ["deeds","day","paper","hold","grounds","name","target","deep"] ["deeds","day","paper","hold","grounds"] (aE qO):= .of
theorem rh:aZ ["claim","grounds","word","deeds"] ["claim","grounds"] (aE qP):= .of
theorem nP:aZ ["_law_script","_law_k","_law_state","_law_cell_here"] ["_law_script","_law_k"] (aE qQ):= .of
theorem rj:aZ ["_law_cell_here","_law_digits"] ["_law_cell_here"] (aE qR):= .of
theorem rm:aZ ["_law_purse_here","_law_many","_law_state","_law_digit"] ["_law_purse_here","_law_many"] (aE qS):= .of
theorem jR:aZ ["_law_purse_here","_law_many","_law_letters","_law_stem","_law_at","_law_first","_law_step"] ["_law_purse_here","_law_many"] (aE lu):= .of
theorem y8:aZ ["_law_year_here","_law_month_here","_law_leap"] ["_law_year_here","_law_month_here"] (aE qT):= .of
theorem y9:aZ ["_law_year_here"] ["_law_year_here"] (aE qU):= .of
theorem HJ:aZ ["_law_year_here","_law_month_here","_law_number"] ["_law_year_here","_law_month_here","_law_number"] (aE nH):= .of
theorem z5:aZ ["_law_purse_here","_law_far","_law_year_here","_law_month_here"] ["_law_purse_here","_law_far"] (aE qV):= .of
theorem nQ:aZ ["_law_purse_here","_law_word","_law_names_here","_law_kinds","_law_far","_law_kind","_law_since","_law_many"] ["_law_purse_here","_law_word","_law_names_here","_law_kinds","_law_far"] (aE qW):= .of
theorem jS:aZ ["_law_purse_here","_law_word","_law_names_here","_law_kinds","_law_far","_law_day_here","_law_name","_law_some","_law_kind","_law_target"] ["_law_purse_here","_law_word","_law_names_here","_law_kinds","_law_far"] (aE nI):= .of
theorem z7:aZ ["_law_one","_law_other","_law_sorts"] ["_law_one","_law_other"] (aE qX):= .of
theorem fz:aZ ["_law_script","_law_menu","_law_most","_law_head","_law_far","_law_chain","_law_names_here","_law_kinds","_law_words","_law_turn","_law_deeds_here","_law_k","_law_deed_here","_law_day_here"] ["_law_script","_law_menu","_law_most"] (aE nJ):= .of
theorem jT:aZ ["_law_deeds_here","_law_rows","_law_web_here","_law_name","_law_some","_law_ahead"] ["_law_deeds_here"] (aE i8):= .of
theorem rn:aZ ["_law_deeds_here","_law_day_here","_law_word","_law_ending","_law_known","_law_deed_here"] ["_law_deeds_here","_law_day_here","_law_word","_law_ending"] (aE nK):= .of
theorem HK:aZ ["_law_web_here","_law_way"] ["_law_web_here","_law_way"] (aE ly):= .of
theorem nR:aZ ["_law_deeds_here","_law_day_here","_law_name","_law_hold","_law_way","_law_web_here","_law_deed_here","_law_told"] ["_law_deeds_here","_law_day_here","_law_name","_law_hold","_law_way"] (aE qY):= .of
theorem nS:aZ ["_law_web_here","_law_name","_law_found","_law_todo","_law_way","_law_maker"] ["_law_web_here","_law_name"] (aE qZ):= .of
theorem nT:aZ ["_law_purse_here","_law_names_here","_law_way","_law_at","_law_odd","_law_some"] ["_law_purse_here","_law_names_here","_law_way"] (aE rf):= .of
theorem lz:aZ ["_law_purse_here","_law_deeds_here","_law_names_here","_law_day_here","_law_name","_law_hold","_law_ways_here","_law_way","_law_some","_law_found"] ["_law_purse_here","_law_deeds_here","_law_names_here","_law_day_here","_law_name","_law_hold"] (aE nL):= .of
theorem eT:aZ ["_law_script","_law_menu","_law_deeds_here","_law_names_here","_law_far","_law_k","_law_purse_here","_law_day_here","_law_some","_law_among","_law_turn","_law_name","_law_hold"] ["_law_script"] (aE nM):= .of
theorem z8{α:Type}{us:List α}(h:us.length=1):∃a,us=[a]:=List.length_eq_one_iff.mp h
theorem z9{α:Type}{us:List α}(h0:us.length=2):∃a b,us=[a,b]:=by
 cases us with
 | nil=>cases h0
 | cons a us=>
  obtain⟨b,z0⟩:=z8 (us:=us) (Nq h0);exact⟨a,b,by rw [z0]⟩
theorem Aa{α:Type}{us:List α}(h0:us.length=3):∃a b c,us=[a,b,c]:=by
 cases us with
 | nil=>cases h0
 | cons a us=>
  obtain⟨b,c,z0⟩:=z9 (us:=us) (Nq h0);exact⟨a,b,c,by rw [z0]⟩
theorem Ab{α:Type}{us:List α}(h0:us.length=4):∃a b c d,us=[a,b,c,d]:=by
 cases us with
 | nil=>cases h0
 | cons a us=>
  obtain⟨b,c,d,z0⟩:=Aa (us:=us) (Nq h0);exact⟨a,b,c,d,by rw [z0]⟩
theorem Ac{α:Type}{us:List α}(h0:us.length=5):∃a b c d p,us=[a,b,c,d,p]:=by
 cases us with
 | nil=>cases h0
 | cons a us=>
  obtain⟨b,c,d,p,z0⟩:=Ab (us:=us) (Nq h0);exact⟨a,b,c,d,p,by rw [z0]⟩
theorem HL{α:Type}{us:List α}(h0:us.length=6):∃a b c d p q,us=[a,b,c,d,p,q]:=by
 cases us with
 | nil=>cases h0
 | cons a us=>
  obtain⟨b,c,d,p,q,z0⟩:=Ac (us:=us) (Nq h0);exact⟨a,b,c,d,p,q,by rw [z0]⟩
local macro_rules | `(tactic| walk_at "b")=>`(tactic| (intro _ _ _ _ _ _ us hl;first | (cases ls0 (us:=us) hl;rfl) | (obtain⟨a,e⟩:=z8 (us:=us) hl;subst e;rfl) | (obtain⟨a,b,e⟩:=z9 (us:=us) hl;subst e;rfl) | (obtain⟨a,b,c,e⟩:=Aa (us:=us) hl;subst e;rfl) | (obtain⟨a,b,c,d,e⟩:=Ab (us:=us) hl;subst e;rfl) | (obtain⟨a,b,c,d,p,e⟩:=Ac (us:=us) hl;subst e;rfl) | (obtain⟨a,b,c,d,p,q,e⟩:=HL (us:=us) hl;subst e;rfl)))
theorem txt_mk{K:J0}{h:Qy}{mg:Str->Option Qj}(X:K.In h)(G:h.Ns Qv mg)
 {f0 f1 f2 f3 f4 f5 f6 f7 f8 f9 f10 f11 f12 f13 f14 f15 f16 f17 f18 f19 f20 f21 f22 f23 f24 f25 f26 f27 f28 f29 f30 f31 f32 f33 f34 f35 f36 f37 f38 f39 f40 f41 f42 f43 f44 f45 f46 f47:Qk}{e0 e1 e2 e3 e4 e5 e6 e7 e8 e9 e10 e11 e12 e13 e14 e15 e16 e17 e18 e19 e20 e21 e22 e23 e24 e25 e26 e27 e28 e29 e30 e31 e32 e33 e34 e35 e36 e37 e38 e39 e40 e41 e42 e43 e44 e45 e46 e47:Qt}
 {u_NoPaper:Qk}
 {u_LAST_WRITTEN u_LONGEST_NAME u_LETTERS u_MOST_MANY u_MOST_MAKERS:Qj}
 {A_UNITS:Qk}{dd_UNITS:Option Qk}{its_UNITS:Array Qj}{n_UNITS:Nat}{sl_UNITS:Array (Option Qj)}
 (a0:DfT K "is_whole" qy f0 e0)
 (a1:DfT K "is_day" qz f1 e1)
 (a2:DfT K "place_of" qA f2 e2)
 (a3:DfT K "comings" nr f3 e3)
 (a4:DfT K "coming_of" qB f4 e4)
 (a5:DfT K "papers" nu f5 e5)
 (a6:DfT K "maker_comings" lq f6 e6)
 (a7:DfT K "makers" nv f7 e7)
 (a8:DfT K "latest" nA f8 e8)
 (a9:DfT K "holds_on" nB f9 e9)
 (a10:DfT K "is_told" qC f10 e10)
 (a11:DfT K "is_tuple_of" qD f11 e11)
 (a12:DfT K "is_name" nE f12 e12)
 (a13:DfT K "is_since" qE f13 e13)
 (a14:DfT K "is_span" qF f14 e14)
 (a15:DfT K "is_rule" qG f15 e15)
 (a16:DfT K "is_makers" lr f16 e16)
 (a17:DfT K "is_target" qH f17 e17)
 (a18:DfT K "are_parts" qI f18 e18)
 (a19:DfT K "is_deed" qJ f19 e19)
 (a20:DfT K "quarrel" qK f20 e20)
 (a21:DfT K "go_together" nF f21 e21)
 (a22:DfT K "are_deeds" nG f22 e22)
 (a23:DfT K "is_any_day" qL f23 e23)
 (a24:DfT K "is_way" qM f24 e24)
 (a25:DfT K "is_asked" qN f25 e25)
 (a26:DfT K "is_covered" qO f26 e26)
 (a27:DfT K "holds" qP f27 e27)
 (a28:DfT K "_law_cell" qQ f28 e28)
 (a29:DfT K "_law_purse" qR f29 e29)
 (a30:DfT K "_law_take" qS f30 e30)
 (a31:DfT K "_law_names" lu f31 e31)
 (a32:DfT K "_law_month" qT f32 e32)
 (a33:DfT K "_law_year" qU f33 e33)
 (a34:DfT K "_law_day" nH f34 e34)
 (a35:DfT K "_law_drawn_day" qV f35 e35)
 (a36:DfT K "_law_parts" qW f36 e36)
 (a37:DfT K "_law_deed" nI f37 e37)
 (a38:DfT K "_law_quarrels" qX f38 e38)
 (a39:DfT K "_law_deeds" nJ f39 e39)
 (a40:DfT K "_law_web" i8 f40 e40)
 (a41:DfT K "_law_standing" nK f41 e41)
 (a42:DfT K "_law_line" ly f42 e42)
 (a43:DfT K "_law_due" qY f43 e43)
 (a44:DfT K "_law_ways" qZ f44 e44)
 (a45:DfT K "_law_bent" rf f45 e45)
 (a46:DfT K "_law_right" nL f46 e46)
 (a47:DfT K "law" nM f47 e47)
 (x_LAST_WRITTEN:KO K Qv "LAST_WRITTEN"=some (some u_LAST_WRITTEN))(r_LAST_WRITTEN:aC (.int 99999) u_LAST_WRITTEN)
 (x_NoPaper:KO K Qv "NoPaper"=some (some (.ref u_NoPaper)))
 (x_LONGEST_NAME:KO K Qv "LONGEST_NAME"=some (some u_LONGEST_NAME))(r_LONGEST_NAME:aC (.int 8) u_LONGEST_NAME)
 (x_LETTERS:KO K Qv "LETTERS"=some (some u_LETTERS))(r_LETTERS:aC (.str "abcdefghijklmnopqrstuvwxyz") u_LETTERS)
 (x_MOST_MANY:KO K Qv "MOST_MANY"=some (some u_MOST_MANY))(r_MOST_MANY:aC (.int 999) u_MOST_MANY)
 (x_UNITS:KO K Qv "UNITS"=some (some (.ref A_UNITS)))(y_UNITS:K.lookup A_UNITS=some ⟨.type "tuple",dd_UNITS,.seq its_UNITS n_UNITS,sl_UNITS⟩)(z_UNITS:aD [V.str "days",V.str "months",V.str "years"] its_UNITS.toList)(w_UNITS:its_UNITS.size<=Qp)
 (x_MOST_MAKERS:KO K Qv "MOST_MAKERS"=some (some u_MOST_MAKERS))(r_MOST_MAKERS:aC (.int 4) u_MOST_MAKERS)
 (n_abs:KO K Qv "abs"=some none)
 (n_all:KO K Qv "all"=some none)
 (n_any:KO K Qv "any"=some none)
 (n_bool:KO K Qv "bool"=some none)
 (n_dict:KO K Qv "dict"=some none)
 (n_divmod:KO K Qv "divmod"=some none)
 (n_int:KO K Qv "int"=some none)
 (n_isinstance:KO K Qv "isinstance"=some none)
 (n_len:KO K Qv "len"=some none)
 (n_list:KO K Qv "list"=some none)
 (n_max:KO K Qv "max"=some none)
 (n_min:KO K Qv "min"=some none)
 (n_range:KO K Qv "range"=some none)
 (n_sorted:KO K Qv "sorted"=some none)
 (n_str:KO K Qv "str"=some none)
 (n_sum:KO K Qv "sum"=some none)
 (n_tuple:KO K Qv "tuple"=some none):∃t:cu,Txt K mg t:=by
 refine⟨⟨f0,e0,f1,e1,f2,e2,f3,e3,f4,e4,f5,e5,f6,e6,f7,e7,f8,e8,f9,e9,f10,e10,f11,e11,f12,e12,f13,e13,f14,e14,f15,e15,f16,e16,f17,e17,f18,e18,f19,e19,f20,e20,f21,e21,f22,e22,f23,e23,f24,e24,f25,e25,f26,e26,f27,e27,f28,e28,f29,e29,f30,e30,f31,e31,f32,e32,f33,e33,f34,e34,f35,e35,f36,e36,f37,e37,f38,e38,f39,e39,f40,e40,f41,e41,f42,e42,f43,e43,f44,e44,f45,e45,f46,e46,f47,e47,u_LAST_WRITTEN,u_NoPaper,u_LONGEST_NAME,u_LETTERS,u_MOST_MANY,.ref A_UNITS,u_MOST_MAKERS⟩,?_⟩;have bl:∀(s:Ql)(u:Qj),BindsTo s e47 ⟨[u],[]⟩ [("_law_script",u)]:=λs v=>by
  obtain⟨oc,od,kV,doc,pm,an,cdv,ct,osl,rfl,_⟩:=a47.F.ex;exact .of_eq rfl
 exact⟨a0.fn X G,a1.fn X G,a2.fn X G,a3.fn X G,a4.fn X G,a5.fn X G,a6.fn X G,a7.fn X G,a8.fn X G,a9.fn X G,a10.fn X G,a11.fn X G,a12.fn X G,a13.fn X G,a14.fn X G,a15.fn X G,a16.fn X G,a17.fn X G,a18.fn X G,a19.fn X G,a20.fn X G,a21.fn X G,a22.fn X G,a23.fn X G,a24.fn X G,a25.fn X G,a26.fn X G,a27.fn X G,a28.fn X G,a29.fn X G,a30.fn X G,a31.fn X G,a32.fn X G,a33.fn X G,a34.fn X G,a35.fn X G,a36.fn X G,a37.fn X G,a38.fn X G,a39.fn X G,a40.fn X G,a41.fn X G,a42.fn X G,a43.fn X G,a44.fn X G,a45.fn X G,a46.fn X G,a47.fn X G,bl,Mj X G x_LAST_WRITTEN,r_LAST_WRITTEN,Mj X G x_NoPaper,Mj X G x_LONGEST_NAME,r_LONGEST_NAME,Mj X G x_LETTERS,r_LETTERS,Mj X G x_MOST_MANY,r_MOST_MANY,Mj X G x_UNITS,⟨A_UNITS,rfl,λH=>.inr ⟨_,_,_,y_UNITS,rfl,rfl,w_UNITS,z_UNITS⟩⟩,Mj X G x_MOST_MAKERS,r_MOST_MAKERS,KQ X G n_abs,KQ X G n_all,KQ X G n_any,KQ X G n_bool,KQ X G n_dict,KQ X G n_divmod,KQ X G n_int,KQ X G n_isinstance,KQ X G n_len,KQ X G n_list,KQ X G n_max,KQ X G n_min,KQ X G n_range,KQ X G n_sorted,KQ X G n_str,KQ X G n_sum,KQ X G n_tuple⟩
local macro_rules | `(tactic| walk_at "o")=>`(tactic| first | exact Om rfl | exact Nl rfl)
theorem Qg{p:Prop}(h:p:=by walk_at "o"):p:=h
local macro_rules | `(tactic| walk_at "a") =>do let a <- rzT "iV Kb LA Kt LI OG OH Kp N3 LX"; let b <- rzT "↓F3 ↓F7 ↓F8 ↓F9 ↓Ga ↓Gb ↓wV ↓FG ↓G9 ↓Ha ↓Hb ↓Hc ↓He ↓Hf ↓FH ↓FI ↓FJ ↓FK ↓FL ↓FN ↓FO ↓FP ↓FQ ↓FT ↓FU ↓FV ↓FW ↓FX ↓FY ↓FZ ↓F0 ↓F1 ↓F2 uA uB uE uC uD pz uF uH uL uN ue dC fi dI uY u7 u9 va mH vt vp vc vb dL pA uf mn jx gm uh ui uj uk um uo uu mr kC vf vw pO vd ve vg vh vj vn vo pG vA vB vC jB uP uQ uS uT uU uV v9 wO wQ wR vZ v3 v7 v8 mQ wD wk vW vX wU wZ wY w6 xa xb kW xi xm xn xo xv mX xP xR xH xI xM xS xU xV x9 yC yD yE yL nk yO yJ Fp Fq ne_eq E6 E7 E8 E9 Fb E4 E5 mE mF uX pC uK uJ uI ic iV dW lT oH kr Kb LA Kt LI Kp N3 LX LV OG OH PM PN OT N9 Mt O4 OU OV NP exists_eq_left' exists_eq_left exists_and_left exists_and_right Ph Pj Sl.v.injEq Sl.o.injEq Sl.k.injEq Nc P8 LG LQ P9 Li and_true true_and PQ Nat.reduceLeDiff exists_const decide_eq_true_eq PR PV PD PF NN decide_eq_false_iff_not and_assoc or_true true_or ↓reduceIte if_true if_false Mb Bool.true_eq_false not_true_eq_false not_false_eq_true Bool.not_true Bool.not_false ite_true ite_false eq_self exists_eq reduceCtorEq false_and and_false or_false false_or exists_false Option.map_some Option.map_none mi ND List.all_nil LN PX Lv NC Lb L1 cM cx ig iW mJ fO mL beq_self_eq_true gQ mK vD bL sizeLine_eq"; `(tactic| ((try $a:tactic); $b:tactic))
theorem Ad:br (aE nE) ["thing"] ["sign"] 1 [] ⟨Ki,[ (J3 ".0",RA),(J3 "sign",RA),(J3 "LETTERS",KD)],false,false,[]⟩:= .of
theorem Ae:br (aE lr) ["thing"] ["name"] 1 [] ⟨Ki,[ (J3 ".0",RA),(J3 "name",RA),(J3 "is_name",KD)],false,false,[]⟩:= .of
theorem Af:br (aE lr) ["thing"] ["place","thing"] 1 [0] ⟨Ki,[ (J3 ".0",RA),(J3 "place",RA),(J3 "thing",Kq)],false,false,[]⟩:= .of
section
variable {P:Qu} {w:Qw} {K:J0} {mg:Str->Option Qj} {base:Qy} {t:cu}
def HM:List Qi->(Qi->Prop)->Prop:=λds Q=>∃d,ds=[d]/\thg d=true/\Q (.bool (i4 d))
theorem rp(T:Txt K mg t):aM P w K mg base CX0 1 t.a_A t.d_A ["thing"] (aT K HM):=by
 refine T.F_A.F.okD Hq (λds Q h=>?_) (λ_ _ _ _ H O ds Q E hr h=>?_)
 ·obtain⟨d,rfl,_⟩:=h;rfl
 ·obtain⟨d,rfl,hd,q⟩:=h;refine⟨_,(ao (aF (bX (eS (K':=K) (T:="int") rfl rfl T.n_isinstance eM (df (dv 0)) (eL (v:= .ty "int") rfl T.n_int mh rfl)) (cE (DP (eS (K':=K) (T:="bool") rfl rfl T.n_isinstance eM (df (dv 0)) (eL (v:= .ty "bool") rfl T.n_bool ph rfl))))))),?_⟩;walk_at "a";simp only [E1,p5];walk_at "a";refine⟨gW hd,?_⟩;cases d <;> simp [wF,jI,i4] at q⊢<;> exact q
def HN:List Qi->(Qi->Prop)->Prop:=λds Q=>∃d,ds=[d]/\thg d=true/\Q (.bool (gX d))
theorem HP(T:Txt K mg t):aM P w K mg base CX0 2 t.a_B t.d_B ["thing"] (aT K HN):=by
 have G_A:=@rp P w _ _ base _ T;refine T.F_B.F.okD Hr (λds Q h=>?_) (λ_ _ _ _ H O ds Q E hr h=>?_)
 ·obtain⟨d,rfl,_⟩:=h;rfl
 ·obtain⟨d,rfl,hd,q⟩:=h;refine⟨_,(ao (aF (bX (au G_A hr T.F_A (aa (dv 0) ag)) (cE (uz hW hW dz dz (df ae) (df (dv 0)) (df (dc (jk rfl T.c_LAST_WRITTEN T.r_LAST_WRITTEN) (λ_ _=>.int _)))))))),?_⟩;walk_at "a";refine⟨d,rfl,hd,?_⟩;cases d with
  | int i=>
   walk_at "a";simp only [i4,gX] at q⊢;by_cases h0:0<=i
   ·rw [Qf h0];simpa [h0] using q
   ·rw [Qe h0];simpa [h0] using q
  | _=>exact⟨_,rfl,by simpa [i4,gX] using q⟩
def nU:List Qi->(Qi->Prop)->Prop:=λds Q=>∃d,∃n:Int,ds=[d,.int n]/\thg d=true/\Q (.bool (cZ d n))
theorem rq(T:Txt K mg t):aM P w K mg base CX0 1 t.a_L t.d_L ["thing","length"] (aT K nU):=by
 refine T.F_L.F.okD Hy (λds Q h=>?_) (λ_ _ _ _ H O ds Q E hr h=>?_)
 ·obtain⟨d,n,rfl,_⟩:=h;rfl
 ·obtain⟨d,n,rfl,hd,q⟩:=h;refine⟨_,(ao (aF (bX (eS (K':=K) (T:="tuple") rfl rfl T.n_isinstance eM (df (dv 0)) (eL (v:= .ty "tuple") rfl T.n_tuple eN rfl)) (cE (bV (bA hr.units) bB (df (PE.imp (aS bH rfl T.n_len Ko (aJ (dv 0) aK)) (aP bP))) (df (dv 1)) (aG _)))))),?_⟩;walk_at "a";simp only [iZ];walk_at "a";refine⟨gW hd,?_⟩;cases d with
  | tuple l=>simp only [fj];walk_at "a";exact q
  | _=>simpa [fj,cZ] using q
def i9:List Qi->(Qi->Prop)->Prop:=λds Q=>∃d,ds=[d]/\thg d=true/\Q (.bool (bZ d))
theorem jU(T:Txt K mg t):aM P w K mg base CX0 1 t.a_M t.d_M ["thing"] (aT K i9):=by
 refine T.F_M.F.okD Hz (λds Q h=>?_) (λ_ _ _ _ H O ds Q E hr h=>?_)
 ·obtain⟨d,rfl,_⟩:=h;rfl
 ·obtain⟨d,rfl,hd,q⟩:=h;refine⟨_,(ay (aW (PW.pt (dH (dJ (cD (eS (K':=K) (T:="str") rfl rfl T.n_isinstance eM (df (dv 0)) (eL (v:= .ty "str") rfl T.n_str tZ rfl)))) (eh (dJ (DR hW hW dz dz (df ae) (df (PE.imp (aS tR rfl T.n_len Ko (aJ (dv 0) aK)) (aP v5))) (df (dc (jk rfl T.c_LONGEST_NAME T.r_LONGEST_NAME) (λ_ _=>.int _)))))))) (ao (aF bT)) aV)
   (ao (aF (PE.imp (aS (ju rfl) rfl T.n_all jv (aJ (fe (EM rfl Ad (df (dv 0)) bb cg Qb (λ_ _ _ _=>(aY (i:=0) Ad.nd rfl Qg)) (λ_ _ _ _=>dA) (λ_ _ _ _=>(bV B4 ER (df (dv 0)) (df (dc (jk rfl T.c_LETTERS T.r_LETTERS) (λ_ _=>.str _))) rfl)))) aK)) (aP ie))))),?_⟩
  walk_at "a";simp only [wG];walk_at "a";refine⟨gW hd,?_⟩;cases d with
  | str z=>
   have hz:=E3 hd;simp only [mR];walk_at "a";refine⟨Qc,?_⟩;simp only [bZ] at q;split
   ·rename_i h1;split
    ·rename_i h2;rw [decide_eq_false (p:=z.length<=8) Qc] at q;simpa using q
    ·rename_i h2;rw [decide_eq_true (p:=1<=z.length) Qc,decide_eq_true (p:=z.length<=8) Qc] at q;refine⟨Qc,p8 (p:=λb=>Q (.bool b)) (λx=>match x with | .str y=>decide (y.cps.toList.headD 0∈cV.cps.toList) | _=>false) (λx hx R hR=>?_) ?_⟩
     ·obtain⟨c,_,rfl⟩:=Kd.mp hx;walk_at "a";rw [StrLaws.found_one];exact hR
     ·unfold vV;rw [Kx,MS];exact q
   ·rename_i h1;rw [decide_eq_false (p:=1<=z.length) Qc] at q;simpa using q
  | _=>simpa [mR,bZ] using q
def Ag:List Qi->(Qi->Prop)->Prop:=λds Q=>∃d,ds=[d]/\thg d=true/\Q (.bool (eF d))
theorem HQ(T:Txt K mg t):aM P w K mg base CX0 2 t.a_N t.d_N ["thing"] (aT K Ag):=by
 have G_L:=@rq P w _ _ base _ T;have G_M:=@jU P w _ _ base _ T;refine T.F_N.F.okD HA (λds Q h=>?_) (λ_ _ _ _ H O ds Q E hr h=>?_)
 ·obtain⟨d,rfl,_⟩:=h;rfl
 ·obtain⟨d,rfl,hd,q⟩:=h;refine⟨_,(ay (aW (cD (au G_L hr T.F_L (aa (dv 0) (aa ae ag)))) (ao (aF (bV (cH hr) cI (df (ak av ax (dv 0) ae)) (df aL) (aG _)))) aV)
   (ay (aW (cD (au G_L hr T.F_L (aa (dv 0) (aa ae ag)))) (ao (aF (bX (bV (fR hr) fS (df (ak av ax (dv 0) ae)) (df (bj (aa aL (aa aL ag)))) rfl) (cE (au G_M hr T.F_M (aa (ak av ax (dv 0) ae) ag)))))) aV)
   (ao (aF bT)))),?_⟩
  walk_at "a";simp only [nU];walk_at "a";refine⟨hd,?_⟩;rcases kP d with⟨l,rfl⟩ | hn
  ·have hl:=kN hd
   match l,hl with
   | [],_=>simpa [eF,cZ,hd] using q
   | [a],hl=>
    have ha:=hl a Qh;simp [eF,cZ,gw ha,cM] at q⊢;exact q
   | [a,b],hl=>
    have ha:=hl a Qh;have hb:=hl b Qh;simp [eF,dB,cZ,gw ha,hd,i9,hb,cM,cx] at q⊢;generalize ((J5 (J4 "first")).eqv a)=A at*;generalize ((J5 (J4 "last")).eqv a)=B at*;cases A <;> cases B <;> simp at q⊢<;> exact q
   | _::_::_::r,_=>
    have h1:¬((r.length:Int)+1+1+1=1):=Qc
    have h2:¬((r.length:Int)+1+1+1=2):=Qc
    simpa [eF,cZ,hd,h1,h2] using q
  ·have e:eF d=false:=by
    unfold eF;split
    ·exact absurd rfl (hn _)
    ·exact absurd rfl (hn _)
    ·rfl
   rw [e] at q;simpa [p9 hn,hd] using q
theorem HR{a:Qk}(h:∀H,bg K H a [V.str "days",V.str "months",V.str "years"]):∀H O,Dt K H O (.ref a) (.tuple [.str "days",.str "months",.str "years"]):=λH O=>
 .tupK (h kB) (.cons (.str _) (.cons (.str _) (.cons (.str _) .nil)))
def Ah:List Qi->(Qi->Prop)->Prop:=λds Q=>∃m u,ds=[m,u]/\thg m=true/\thg u=true/\Q (.bool (jJ m u))
theorem HS(T:Txt K mg t):aM P w K mg base CX0 2 t.a_O t.d_O ["many","unit"] (aT K Ah):=by
 have G_A:=@rp P w _ _ base _ T;obtain⟨aU,eU,hU⟩:=T.e_UNITS;have Tr_UNITS:aC (.ref aU) t.u_UNITS:=eU;have Td_UNITS:=HR hU;refine T.F_O.F.okD HB (λds Q h=>?_) (λ_ _ _ _ H O ds Q E hr h=>?_)
 ·obtain⟨d,u,rfl,_⟩:=h;rfl
 ·obtain⟨m,u,rfl,hm,hu,q⟩:=h;refine⟨_,(ao (aF (bX (au G_A hr T.F_A (aa (dv 0) ag)) (bX (uz hW hW dz dz (df ae) (df (dv 0)) (df (dc (jk rfl T.c_MOST_MANY T.r_MOST_MANY) (λ_ _=>.int _)))) (cE (bV (fR hr) fS (df (dv 1)) (df (dc (jk rfl T.c_UNITS Tr_UNITS) Td_UNITS)) rfl)))))),?_⟩;walk_at "a";refine⟨m,rfl,hm,?_⟩;cases m with
  | int i=>
   walk_at "a";simp only [i4,jJ,kO,dB] at q⊢;simp only [if_true];by_cases h0:0<=i
   ·rw [Qf h0];by_cases h1:i<=999
    ·simp [h0,h1,gw hu] at q⊢;exact q
    ·simp [h0,h1] at q⊢;exact q
   ·simp [h0] at q⊢;exact q
  | _=>exact⟨_,rfl,by simpa [i4,jJ,kO] using q⟩
def Ai:List Qi->(Qi->Prop)->Prop:=λds Q=>∃d,ds=[d]/\thg d=true/\Q (.bool (dZ d))
theorem HU(T:Txt K mg t):aM P w K mg base CX0 3 t.a_P t.d_P ["thing"] (aT K Ai):=by
 have G_L:=@rq P w _ _ base _ T;have G_M:=@jU P w _ _ base _ T;have G_N:=@HQ P w _ _ base _ T;have G_O:=@HS P w _ _ base _ T;refine T.F_P.F.okD y3 (λds Q h=>?_) (λ_ _ _ _ H O ds Q E hr h=>?_)
 ·obtain⟨d,rfl,_⟩:=h;rfl
 ·obtain⟨d,rfl,hd,q⟩:=h;refine⟨_,(ay (aW (cD (au G_L hr T.F_L (aa (dv 0) (aa ae ag)))) (ao (aF (bX (bV (fR hr) fS (df (ak av ax (dv 0) ae)) (df (bj (iY (ds:=[.str "while",.str "follow",.str "leave"]) (by rfl)))) rfl) (cE (au G_M hr T.F_M (aa (ak av ax (dv 0) ae) ag)))))) aV)
   (ay (aW (cD (au G_L hr T.F_L (aa (dv 0) (aa ae ag)))) (ay (bE (i:=1) y3.nd rfl Qg (bX (bV (fR hr) fS (df (ak av ax (dv 0) ae)) (df (bj (aa aL (aa aL ag)))) rfl) (cE (au G_M hr T.F_M (aa (ak av ax (dv 0) ae) ag)))))
   (ao (aF (bX (dv 1) (bX (au G_N hr T.F_N (aa (ak av ax (dv 0) ae) ag)) (cE (au G_O hr T.F_O (aa (ak av ax (dv 0) ae) (aa (ak av ax (dv 0) ae) ag))))))))) aV)
   (ao (aF bT)))),?_⟩
  walk_at "a";simp only [nU];walk_at "a";refine⟨hd,?_⟩;rcases kP d with⟨l,rfl⟩ | hn
  ·have hl:=kN hd
   match l,hl with
   | [],_=>simpa [dZ,cZ,hd] using q
   | [a],_=>simpa [dZ,cZ,hd] using q
   | [_,_,_],_=>simpa [dZ,cZ,hd] using q
   | [_,_,_,_],_=>simpa [dZ,cZ,hd] using q
   | [a,b],hl=>
    have ha:=hl a Qh;have hb:=hl b Qh;simp [dZ,dB,cZ,gw ha,hd,i9,hb,cM,cx] at q⊢;generalize ((J5 (J4 "while")).eqv a)=A at*;generalize ((J5 (J4 "follow")).eqv a)=B at*;generalize ((J5 (J4 "leave")).eqv a)=C at*;cases A <;> cases B <;> cases C <;> simp at q⊢<;> exact q
   | [a,b,c,d,e],hl=>
    have ha:=hl a Qh;have hb:=hl b Qh;have hc:=hl c Qh;have hd':=hl d Qh;have he:=hl e Qh;simp [dZ,dB,cZ,gw ha,hd,i9,Ag,Ah,hb,hc,hd',he,cM,cx,ig,iW,mJ] at q⊢;generalize ((J5 (J4 "keep")).eqv a)=A at*;generalize ((J5 (J4 "gone")).eqv a)=B at*;generalize bZ b=C at*;generalize eF c=D at*;cases A <;> cases B <;> cases C <;> cases D <;> simp at q⊢<;> first | exact q | exact⟨_,_,⟨rfl,rfl⟩,hd',he,q⟩
   | _::_::_::_::_::_::r,_=>
    have h1:¬((r.length:Int)+1+1+1+1+1+1=2):=Qc
    have h2:¬((r.length:Int)+1+1+1+1+1+1=5):=Qc
    simpa [dZ,cZ,hd,h1,h2] using q
  ·have e:dZ d=false:=by
    unfold dZ;split
    ·exact absurd rfl (hn _)
    ·exact absurd rfl (hn _)
    ·rfl
   rw [e] at q;simpa [p9 hn,hd] using q
def Aj:List Qi->(Qi->Prop)->Prop:=λds Q=>∃d,ds=[d]/\thg d=true/\Q (.bool (iq d))
theorem HV(T:Txt K mg t):aM P w K mg base CX0 2 t.a_Q t.d_Q ["thing"] (aT K Aj):=by
 have G_M:=@jU P w _ _ base _ T;refine T.F_Q.F.okD HC (λds Q h=>?_) (λ_ _ _ _ H O ds Q E hr h=>?_)
 ·obtain⟨d,rfl,_⟩:=h;rfl
 ·obtain⟨d,rfl,hd,q⟩:=h;refine⟨_,(ay (aW (PW.pt (dH (dJ (cD (eS (K':=K) (T:="tuple") rfl rfl T.n_isinstance eM (df (dv 0)) (eL (v:= .ty "tuple") rfl T.n_tuple eN rfl)))) (eh (aI sZ dz (PE.imp (aS bH rfl T.n_len Ko (aJ (dv 0) aK)) (aP bP)) (dc (jk rfl T.c_MOST_MAKERS T.r_MOST_MAKERS) (λ_ _=>.int _)) (aG _))))) (ao (aF bT)) aV)
   (ay (aW (dJ (cD (PE.imp (aS (ju rfl) rfl T.n_all jv (aJ (fe (iT rfl Ae (df (dv 0)) bb cg Qb (λ_ _ _ _=>(aY (i:=0) Ae.nd rfl Qg)) (λ_ _ _ _=>dA) (λ_ _ _ _=>(au G_M hr T.F_M (aa (dv 0) ag))))) aK)) (aP ie)))) (ao (aF bT)) aV)
   (ao (aF (PE.imp (aS (ju rfl) rfl T.n_all jv (aJ (fe (vY rfl Af rfl T.n_range (aJ ae (aJ (PE.imp (aS bH rfl T.n_len Ko (aJ (dv 0) aK)) (aP bP)) aK)) bb cg Qb (λ_ _ _ _=>(aY (i:=0) Af.nd rfl Qg)) (λ_ _ _ _=>dA) (λ_ _ _ _=>(bV B3 EO (df (ak av ax (dv 1) (aR fG bO (dv 0) ae))) (df (ak av ax (dv 1) (dv 0))) (aG _))))) aK)) (aP ie)))))),?_⟩
  walk_at "a";simp only [iZ];walk_at "a";refine⟨gW hd,?_⟩;rcases kP d with⟨l,rfl⟩ | hn
  ·have hl:=kN hd;simp only [fj];walk_at "a";simp only [iq] at q;split
   ·rename_i h4;rw [decide_eq_false (p:=l.length<=4) Qc] at q;simpa using q
   ·rename_i h4;rw [decide_eq_true (p:=l.length<=4) Qc] at q;refine⟨Qc,p8 (p:=λb=>if b=false then Q (.bool false) else _) bZ (λx hx R hR=>?_) ?_⟩
    ·walk_at "a";exact⟨x,rfl,hl x hx,hR⟩
    ·have ea:(l.map bZ).all id=l.all bZ:=by rw [MS];rfl
     rw [ea];split
     ·rename_i h5;rw [h5] at q;simpa using q
     ·rename_i h5;rw [Bool.not_eq_false] at h5;rw [h5] at q;refine⟨by have:((16777216:Nat):Int)=16777216:=rfl;omega,Qc,Qc,p8 (p:=λb=>Q (.bool b)) (λx=>match x with | .int p=>mT (l.getD (p - 1).toNat .none) (l.getD p.toNat .none) | _=>false) (λx hx R hR=>?_) ?_⟩
      ·obtain⟨i,hi,rfl⟩:=Kd.mp hx;have hi':=L5.mp hi;have l1:i < l.length:=Qc
       have l2:i+1 < l.length:=Qc
       have n1:bZ l[i]=true:=Lj.mp h5 _ (K9 l1);have n2:bZ l[i+1]=true:=Lj.mp h5 _ (K9 l2);obtain⟨z1,e1,_⟩:=ix n1;obtain⟨z2,e2,_⟩:=ix n2;have a1:(1:Int)+(i:Int) - 1=((i:Nat):Int):=Qc
       have a2:(1:Int)+(i:Int)=((i+1:Nat):Int):=Qc
       simp only [a1] at hR;rw [a2] at hR;simp only [Ml,KG,Kc l1,Kc l2,Option.getD_some,e1,e2,mT] at hR;walk_at "a";rw [a1,a2];exact⟨_,di (by rw [Kc l1,e1]),_,di (by rw [Kc l2,e2]),z1,rfl,z2,rfl,hR⟩
      ·simp only [Lb] at q
       match l,h4,q with
       | [],_,q=>simpa [fT,eB] using q
       | [a],_,q=>simpa [fT,eB] using q
       | [a,b],_,q=>simpa [fT,eB,Me] using q
       | [a,b,c],_,q=>simpa [fT,eB,Me] using q
       | [a,b,c,d],_,q=>simpa [fT,eB,Me] using q
       | _::_::_::_::_::r,h4,_=>simp only [Kt] at h4;omega
  ·rw [wH hn];have e:iq d=false:=by
    unfold iq;split
    ·exact absurd rfl (hn _)
    ·rfl
   rw [e] at q;simpa using q
def Ak:List Qi->(Qi->Prop)->Prop:=λds Q=>∃d,ds=[d]/\thg d=true/\Q (.bool (fk d))
theorem HW(T:Txt K mg t):aM P w K mg base CX0 2 t.a_R t.d_R ["thing"] (aT K Ak):=by
 have G_L:=@rq P w _ _ base _ T;have G_M:=@jU P w _ _ base _ T;refine T.F_R.F.okD HD (λds Q h=>?_) (λ_ _ _ _ H O ds Q E hr h=>?_)
 ·obtain⟨d,rfl,_⟩:=h;rfl
 ·obtain⟨d,rfl,hd,q⟩:=h;refine⟨_,(ao (aF (bX (au G_L hr T.F_L (aa (dv 0) (aa ae ag))) (bX (bV (fR hr) fS (df (ak av ax (dv 0) ae)) (df (bj (aa aL (aa aL ag)))) rfl) (cE (au G_M hr T.F_M (aa (ak av ax (dv 0) ae) ag))))))),?_⟩;walk_at "a";simp only [nU];walk_at "a";refine⟨hd,?_⟩;rcases kP d with⟨l,rfl⟩ | hn
  ·have hl:=kN hd
   match l,hl with
   | [],_=>simpa [fk,cZ] using q
   | [a],_=>simpa [fk,cZ] using q
   | [a,b],hl=>
    have ha:=hl a Qh;have hb:=hl b Qh;simp [fk,dB,cZ,gw ha,i9,hb,cM,cx] at q⊢;generalize ((J5 (J4 "paper")).eqv a)=A at*;generalize ((J5 (J4 "kind")).eqv a)=B at*;cases A <;> cases B <;> simp at q⊢<;> exact q
   | _::_::_::r,_=>
    have h2:¬((r.length:Int)+1+1+1=2):=Qc
    simpa [fk,cZ,h2] using q
  ·have e:fk d=false:=by
    unfold fk;split
    ·exact absurd rfl (hn _)
    ·rfl
   rw [e] at q;simpa [p9 hn] using q
def HX:List Qi->(Qi->Prop)->Prop:=λds Q=>∃d ps,ds=[d,.tuple ps]/\thg d=true/\(∀p∈ps,thg p=true)/\Q (.bool (iu d ps))
theorem HY(T:Txt K mg t):aM P w K mg base CX0 4 t.a_S t.d_S ["word","parts"] (aT K HX):=by
 have G_M:=@jU P w _ _ base _ T;have G_P:=@HU P w _ _ base _ T;have G_Q:=@HV P w _ _ base _ T;have G_R:=@HW P w _ _ base _ T;refine T.F_S.F.okD HE (λds Q h=>?_) (λ_ _ _ _ H O ds Q E hr h=>?_)
 ·obtain⟨d,ps,rfl,_⟩:=h;rfl
 ·obtain⟨d,ps,rfl,hd,hp,q⟩:=h;refine⟨_,(ay (aW (aI (fR hr) fS (dv 0) (bj (aa aL (aa aL ag))) rfl) (ao (aF (bV (bA hr.units) bB (df (PE.imp (aS bH rfl T.n_len Ko (aJ (dv 1) aK)) (aP bP))) (df ae) (aG _)))) aV)
   (ay (aW (aI (fR hr) fS (dv 0) (bj (aa aL (aa aL ag))) rfl) (ao (aF (bX (bV (bA hr.units) bB (df (PE.imp (aS bH rfl T.n_len Ko (aJ (dv 1) aK)) (aP bP))) (df ae) (aG _)) (cE (au G_M hr T.F_M (aa (ak av ax (dv 1) ae) ag)))))) aV)
   (ay (aW (aI (cH hr) cI (dv 0) aL (aG _)) (ao (aF (bX (bV (bA hr.units) bB (df (PE.imp (aS bH rfl T.n_len Ko (aJ (dv 1) aK)) (aP bP))) (df ae) (aG _)) (cE (au G_P hr T.F_P (aa (ak av ax (dv 1) ae) ag)))))) aV)
   (ay (aW (aI (cH hr) cI (dv 0) aL (aG _)) (ao (aF (bX (bV (bA hr.units) bB (df (PE.imp (aS bH rfl T.n_len Ko (aJ (dv 1) aK)) (aP bP))) (df ae) (aG _)) (bX (au G_M hr T.F_M (aa (ak av ax (dv 1) ae) ag)) (cE (au G_Q hr T.F_Q (aa (ak av ax (dv 1) ae) ag))))))) aV)
   (ay (aW (aI (cH hr) cI (dv 0) aL (aG _)) (ao (aF (bX (bV (bA hr.units) bB (df (PE.imp (aS bH rfl T.n_len Ko (aJ (dv 1) aK)) (aP bP))) (df ae) (aG _)) (bX (au G_R hr T.F_R (aa (ak av ax (dv 1) ae) ag)) (cE (eS (K':=K) (T:="bool") rfl rfl T.n_isinstance eM (df (ak av ax (dv 1) ae)) (eL (v:= .ty "bool") rfl T.n_bool ph rfl))))))) aV)
   (ao (aF bT))))))),?_⟩
  walk_at "a";simp only [gw hd,p5];walk_at "a";simp only [iu,dB,LN,PX,NC] at q;split
  ·rename_i h;rw [Qf h] at q
   match ps with
   | []=>simpa using q
   | _::r=>
    have h1:(((r.length+1:Nat):Int)==0)=false:=by rw [beq_eq_false_iff_ne];omega
    rw [Kt,h1];simpa using q
  rename_i h;rw [Qe h] at q;clear h;split
  ·rename_i h;rw [Qf h] at q
   match ps,hp with
   | [],_=>simpa using q
   | [a],hp=>have ha:=hp a Qh;simpa [cM,i9,ha] using q
   | _::_::r,_=>
    have h1:¬((r.length:Int)+1+1=1):=Qc
    simpa [h1] using q
  rename_i h;rw [Qe h] at q;clear h;split
  ·rename_i h;rw [Qf h] at q
   match ps,hp with
   | [],_=>simpa using q
   | [a],hp=>have ha:=hp a Qh;simpa [cM,Ai,ha] using q
   | _::_::r,_=>
    have h1:¬((r.length:Int)+1+1=1):=Qc
    simpa [h1] using q
  rename_i h;rw [Qe h] at q;clear h;split
  ·rename_i h;rw [Qf h] at q
   match ps,hp with
   | [],_=>simpa using q
   | [a],_=>simpa using q
   | [a,b],hp=>
    have ha:=hp a Qh;have hb:=hp b Qh;simp [cM,cx,i9,Aj,ha,hb] at q⊢;generalize bZ a=A at*;cases A <;> simp at q⊢<;> exact q
   | _::_::_::r,_=>
    have h1:¬((r.length:Int)+1+1+1=2):=Qc
    simpa [h1] using q
  rename_i h;rw [Qe h] at q;clear h;split
  ·rename_i h;rw [Qf h] at q
   match ps,hp with
   | [],_=>simpa using q
   | [a],_=>simpa using q
   | [a,b],hp=>
    have ha:=hp a Qh;have hb:=gW (hp b Qh);simp [cM,cx,Ak,ha] at q⊢;generalize fk a=A at*;cases A <;> simp at q⊢<;> first | exact q | exact⟨hb,q⟩
   | _::_::_::r,_=>
    have h1:¬((r.length:Int)+1+1+1=2):=Qc
    simpa [h1] using q
  ·rename_i h;rw [Qe h] at q;exact q
def HZ:List Qi->(Qi->Prop)->Prop:=λds Q=>∃d,ds=[d]/\thg d=true/\Q (.bool (eO d))
theorem Ia(T:Txt K mg t):aM P w K mg base CX0 5 t.a_T t.d_T ["thing"] (aT K HZ):=by
 have G_M:=@jU P w _ _ base _ T;have G_B:=@HP P w _ _ base _ T;have G_S:=@HY P w _ _ base _ T;refine T.F_T.F.okD HF (λds Q h=>?_) (λ_ _ _ _ H O ds Q E hr h=>?_)
 ·obtain⟨d,rfl,_⟩:=h;rfl
 ·obtain⟨d,rfl,hd,q⟩:=h;refine⟨_,(ay (aW (PW.pt (dH (dJ (cD (eS (K':=K) (T:="tuple") rfl rfl T.n_isinstance eM (df (dv 0)) (eL (v:= .ty "tuple") rfl T.n_tuple eN rfl)))) (eh (aI hV dz (PE.imp (aS bH rfl T.n_len Ko (aJ (dv 0) aK)) (aP bP)) ae (aG _))))) (ao (aF bT)) aV)
   (ao (aF (bX (au G_B hr T.F_B (aa (ak av ax (dv 0) ae) ag)) (bX (au G_M hr T.F_M (aa (ak av ax (dv 0) ae) ag)) (cE (au G_S hr T.F_S (aa (ak av ax (dv 0) ae) (aa (gU (df (dv 0)) (cw ae) dX) ag))))))))),?_⟩
  walk_at "a";simp only [iZ];walk_at "a";refine⟨gW hd,?_⟩;rcases kP d with⟨l,rfl⟩ | hn
  ·have hl:=kN hd;simp only [fj];walk_at "a"
   match l,hl with
   | [],_=>simpa [eO] using q
   | [a],_=>simpa [eO] using q
   | [a,b],_=>simpa [eO] using q
   | w::n::x::r,hl=>
    have h3:¬((((w::n::x::r).length:Nat):Int) < 3):=by simp only [Kt];omega
    rw [Qe h3];have hw:=hl w Qh;have hn:=hl n Qh;have hx:=hl x Qh;have hr':∀p∈r,thg p=true:=λp hp=>hl p (by simp [hp]);have ec:bI (w::n::x::r) (some 3) none=r:=by rw [vE Qb (by simp only [Kt];omega)];rfl
    simp only [eO] at q;refine⟨_,cx,n,rfl,hn,?_⟩;refine⟨_,rfl,?_⟩;cases e1:gX n with
    | false=>simpa [e1] using q
    | true=>
     rw [Qf rfl];refine⟨_,ig,x,rfl,hx,_,rfl,?_⟩;cases e2:bZ x with
     | false=>simpa [e1,e2] using q
     | true=>
      rw [Qf rfl];refine⟨_,cM,w,r,by rw [ec],hw,hr',?_⟩;simpa [e1,e2] using q
  ·rw [wH hn];have e:eO d=false:=by
    unfold eO;split
    ·exact absurd rfl (hn _)
    ·rfl
   rw [e] at q;simpa using q
end
structure Pp where
 d:Int
 nm:Str
 kd:Str
 ms:List Str
def Pp.enc(p:Pp):Qi:= .tuple [.str (J4 "paper"),.int p.d,.str p.nm,.str p.kd,.tuple (p.ms.map .str)]
def Pp.key(p:Pp):Int×Str:=(p.d,p.nm)
def iG:Qi->Int×Str
 | .tuple (_:: .int d:: .str n::_)=>(d,n)
 | _=>(0,J4 "")
def Pp.lt(a b:Pp):Prop:=aQ a.key b.key=true
instance (a b:Pp):Decidable (a.lt b):=by unfold Pp.lt;infer_instance
theorem Al(p:Int×Str):aQ p p=false:=by unfold aQ;simp [Pu]
theorem Am{a b c:Int×Str}(h1:aQ a b=true)(h2:aQ b c=true):aQ a c=true:=by
 unfold aQ at h1 h2⊢;simp only [MN,Ks,decide_eq_true_eq] at h1 h2⊢;rcases h1 with h1 | ⟨h1,h1'⟩ <;> rcases h2 with h2 | ⟨h2,h2'⟩
 ·left;omega
 ·left;omega
 ·left;omega
 ·right;exact⟨h1.trans h2,OE h1' h2'⟩
theorem rA{a b:Int×Str}(h:aQ a b=true):¬aQ b a=true:=λz=>by
 have:=Am h z;rw [Al] at this;cases this
theorem Ib{a b:Int×Str}(h:a≠b):aQ a b=true\/aQ b a=true:=by
 have T:=xB (n:=2) (kp:=λi=>if i=0 then a else b) (λi j hi hj e=>by
  have:i=0\/i=1:=Qc
  have:j=0\/j=1:=Qc
  rcases ‹i=0\/i=1› with rfl | rfl <;> rcases ‹j=0\/j=1› with rfl | rfl
  ·rfl
  ·exact absurd e h
  ·exact absurd e.symm h
  ·rfl)
 have:=T.tot 0 1 Qc Qc Qc;simp at this;cases hb:aQ b a with
 | true=>exact .inr rfl
 | false=>rw [hb] at this;exact .inl (by simpa using this)
theorem Pp.lt_tr{a b c:Pp}(h1:a.lt b)(h2:b.lt c):a.lt c:=Am h1 h2
theorem lA{α:Type}{r:α->α->Prop}(as:∀a b,r a b->¬r b a):∀{l1 l2:List α},l1.Perm l2->l1.Pairwise r->l2.Pairwise r->l1=l2
 | [],l2,p,_,_=>by rw [p.nil_eq]
 | a::l1,[],p,_,_=>by have:=p.length_eq;simp at this
 | a::l1,b::l2,p,h1,h2=>by
  have e:a=b:=by
   have m1:a∈b::l2:=p.mem_iff.mp Qh;have m2:b∈a::l1:=p.mem_iff.mpr Qh;rcases Kh.mp m1 with e | m1
   ·exact e
   ·rcases Kh.mp m2 with e | m2
    ·exact e.symm
    ·exact absurd ((K7.mp h1).1 b m2) (as _ _ ((K7.mp h2).1 a m1))
  subst e;rw [lA as ((List.perm_cons a).mp p) (K7.mp h1).2 (K7.mp h2).2]
def jV(x:Pp):List Pp->List Pp
 | []=>[x]
 | y::l=>if x.lt y then x::y::l else y::jV x l
def dP(ps:List Pp):List Pp:=ps.foldr jV []
theorem rB(x:Pp):∀l,(jV x l).Perm (x::l)
 | []=>.refl _
 | y::l=>by
  unfold jV;split
  ·exact .refl _
  ·exact((rB x l).cons y).trans (.swap x y l)
theorem ja:∀ps:List Pp,(dP ps).Perm ps
 | []=>.refl _
 | x::ps=>(rB x (dP ps)).trans ((ja ps).cons x)
theorem An{x:Pp}:∀{l:List Pp},(∀y∈l,y.nm≠x.nm)->l.Pairwise Pp.lt->(jV x l).Pairwise Pp.lt
 | [],_,_=>Oa _ _
 | y::l,hn,h=>by
  have hp:=K7.mp h;unfold jV;split
  ·rename_i hl;refine K7.mpr ⟨λz hz=>?_,h⟩;rcases Kh.mp hz with e | e
   ·subst e;exact hl
   ·exact Pp.lt_tr hl (hp.1 z e)
  ·rename_i hl;refine K7.mpr ⟨λz hz=>?_,An (λz hz=>hn z (by simp [hz])) hp.2⟩;rcases Kh.mp ((rB x l).mem_iff.mp hz) with e | e
   ·subst e;rcases Ib (a:=y.key) (b:=z.key) (λz=>hn y Qh (congrArg PY z)) with w | w
    ·exact w
    ·exact absurd w hl
   ·exact hp.1 z e
theorem lB:∀{ps:List Pp},(ps.map (·.nm)).Nodup->(dP ps).Pairwise Pp.lt
 | [],_=>.nil
 | x::ps,h=>by
  rw [Kb,LW] at h;exact An (λy hy e=>h.1 (by rw [<-e];exact Kd.mpr ⟨y,(ja ps).mem_iff.mp hy,rfl⟩)) (lB h.2)
theorem jb{ps:List Pp}{x:Pp}:x∈dP ps↔x∈ps:=(ja ps).mem_iff
theorem Ao{ps:List Pp}:(dP ps).length=ps.length:=(ja ps).length_eq
theorem Pp.asym(a b:Pp)(h:a.lt b):¬b.lt a:=rA h
theorem Ic{ps os:List Pp}(nd:(ps.map (·.nm)).Nodup)(hp:os.Perm ps)(hs:os.Pairwise Pp.lt):os=dP ps:=
 lA Pp.asym (hp.trans (ja ps).symm) hs (lB nd)
theorem rC{ps:List Pp}{f:Pp->Bool}(nd:(ps.map (·.nm)).Nodup):((ps.filter f).map (·.nm)).Nodup:=nd.sublist (Mr.map _)
theorem Ap{ps:List Pp}{f:Pp->Bool}(nd:(ps.map (·.nm)).Nodup):dP (ps.filter f)=(dP ps).filter f:=
 (Ic (rC nd) ((ja ps).filter f) ((lB nd).sublist Mr)).symm
theorem Ie{ps:List Pp}{ds:List Qi}(nd:(ps.map (·.nm)).Nodup)(hp:ds.Perm (ps.map Pp.enc))(hs:ds.Pairwise λa b=>aQ (iG a) (iG b)=true):ds=(dP ps).map Pp.enc:=by
 refine lA (λa b h=>rA h) (hp.trans ((ja ps).symm.map _)) hs ?_;rw [La];exact lB nd
theorem nV{ps:List Pp}(nd:(ps.map (·.nm)).Nodup){a b:Pp}(ha:a∈ps)(hb:b∈ps)(e:a.nm=b.nm):a=b:=by
 induction ps with
 | nil=>cases ha
 | cons x ps ih=>
  rw [Kb,LW] at nd;rcases Kh.mp ha with ea | ha1 <;> rcases Kh.mp hb with eb | hb1
  ·rw [ea,eb]
  ·subst ea;exact absurd (Kd.mpr ⟨b,hb1,e.symm⟩) nd.1
  ·subst eb;exact absurd (Kd.mpr ⟨a,ha1,e⟩) nd.1
  ·exact ih nd.2 ha1 hb1
structure jW (ps:List Pp):Prop where
 ln:ps.length<=41
 nd:(ps.map (·.nm)).Nodup
 nm:∀p∈ps,KJ p.nm=true
 kd:∀p∈ps,KJ p.kd=true
 ms:∀p∈ps,(∀m∈p.ms,KJ m=true)/\p.ms.length<=50
theorem jW.filter{ps:List Pp}(g:jW ps)(f:Pp->Bool):jW (ps.filter f):=
 ⟨KI (LR _ _) g.ln,rC g.nd,λp hp=>g.nm p (Lh.mp hp).1,λp hp=>g.kd p (Lh.mp hp).1,λp hp=>g.ms p (Lh.mp hp).1⟩
def jX(c p:Pp):Bool:=c.ms.contains p.nm && aQ p.key c.key
def bY(ps:List Pp)(c:Pp):List Pp:=(dP ps).filter (jX c)
def Ig(ps:List Pp)(a b:Pp):Prop:=a∈ps/\b∈ps/\a.nm∈b.ms/\a.lt b
theorem Ih{ps:List Pp}{c p:Pp}(hc:c∈ps):p∈bY ps c↔Ig ps p c:=by
 unfold bY jX;rw [Lh,jb];simp only [Ks,Mf];exact⟨λuu86=>by obtain⟨a,b,d⟩:=uu86;exact⟨a,hc,b,d⟩,λuu87=>by obtain⟨a,_,b,d⟩:=uu87;exact⟨a,b,d⟩⟩
inductive De where
 | pap (p:Pp)
 | oth (w:Str) (d:Int) (nm:Str) (r:List Qi)
def De.enc:De->Qi
 | .pap p=>p.enc
 | .oth w d nm r=>.tuple (.str w:: .int d:: .str nm::r)
def De.w:De->Str
 | .pap _=>J4 "paper"
 | .oth w _ _ _=>w
def De.d:De->Int
 | .pap p=>p.d
 | .oth _ d _ _=>d
def De.nm:De->Str
 | .pap p=>p.nm
 | .oth _ _ nm _=>nm
def De.pp:De->Option Pp
 | .pap p=>some p
 | _=>none
def aB(xs:List De):List Pp:=xs.filterMap De.pp
structure fY (xs:List De):Prop where
 gp:jW (aB xs)
 np:∀w d nm r,De.oth w d nm r∈xs->w≠J4 "paper"
 ln:xs.length<=41
 w:∀x∈xs,KJ x.w=true
 nm:∀x∈xs,KJ x.nm=true
theorem lC{xs:List De}{p:Pp}:p∈aB xs↔De.pap p∈xs:=by
 unfold aB;rw [Mw];constructor
 ·rintro⟨x,hx,e⟩;cases x with
  | pap q=>cases e;exact hx
  | oth w d nm r=>cases e
 ·intro h;exact⟨_,h,rfl⟩
theorem Aq(ps:List Pp):aB (ps.map De.pap)=ps:=by
 unfold aB;rw [Nw];exact List.filterMap_some
theorem Ii(ps:List Pp):ps.map Pp.enc=(ps.map De.pap).map De.enc:=by rw [Kx];rfl
theorem Ij:KJ (J4 "paper")=true:=Qa
theorem fY.of{ps:List Pp}(g:jW ps):fY (ps.map De.pap):=by
 refine⟨by rw [Aq];exact g,λw d nm r h=>?_,by rw [J1];exact g.ln,λx hx=>?_,λx hx=>?_⟩
 ·obtain⟨p,_,e⟩:=Kd.mp h;cases e
 ·obtain⟨p,_,rfl⟩:=Kd.mp hx;exact Ij
 ·obtain⟨p,hp,rfl⟩:=Kd.mp hx;exact g.nm p hp
theorem Ar:br (aE nr) ["deeds"] ["deed"] 1 [] ⟨Ki,[(J3 ".0",RA),(J3 "deed",RA)],false,false,[]⟩:= .of
theorem As:br (aE nu) ["deeds"] ["deed"] 1 [] ⟨Ki,[(J3 ".0",RA),(J3 "deed",RA)],false,false,[]⟩:= .of
theorem Au:br (aE lq) ["deeds","coming","named"] ["deed","coming"] 1 [1] ⟨Ki,[ (J3 ".0",RA),(J3 "deed",RA),(J3 "coming",Kq)],false,false,[]⟩:= .of
theorem Av:br (aE lq) ["deeds","coming","named"] ["deed","coming"] 1 [1] ⟨Ki,[ (J3 ".0",RA),(J3 "deed",RA),(J3 "place_of",KD),(J3 "coming",Kq)],false,false,[]⟩:= .of
theorem Aw:br (aE nv) ["deeds","paper"] ["deed"] 1 [] ⟨Ki,[(J3 ".0",RA),(J3 "deed",RA)],false,false,[]⟩:= .of
section
variable {P:Qu} {w:Qw} {K:J0} {mg:Str->Option Qj} {base:Qy} {t:cu}
theorem fA{α:Type}{enc:α->Qi}{g:DG}{tc:DB}{te:DT}{δ0:Dl}{xs:List α}{Q:List Qi->Prop}(p:α->Bool)(f:α->Qi)
 (h:∀x∈xs,∀(R:Qi->Prop) (S:Prop),(if p x=true then R (f x) else S)->g (enc x) δ0 λδ2=>tc δ2 λok=>if ok=true then te δ2 R else S)(q:Q ((xs.filter p).map f)):gq g tc te δ0 (xs.map enc) Q:=by
 refine⟨λi acc=>acc=((xs.take i).filter p).map f,rfl,?_,?_⟩
 ·rintro i z acc hz rfl;rw [Kj] at hz;cases hz':xs[i]? with
  | none=>rw [hz'] at hz;cases hz
  | some x=>
   rw [hz'] at hz;cases hz;refine h x (Kw hz') (λy=>((xs.take i).filter p).map f++[y]=((xs.take (i+1)).filter p).map f) (((xs.take i).filter p).map f=((xs.take (i+1)).filter p).map f) ?_;rw [Le,hz'];by_cases e:p x=true
   ·rw [Qf e];simp [e]
   ·rw [Qe e];simp [e]
 ·rintro acc rfl;rw [J1,Ky (J8 _)];exact q
theorem lE{α:Type}(l:List α):l.filter (λ_=>true)=l:=List.filter_eq_self.mpr λ_ _=>rfl
theorem dQ{a b:Str}(h:a≠b):(a==b)=false:=by simpa using h
theorem rD{ws:List Str}{w:Str}:((ws.map J5).any λd=>J6 d (.str w))=ws.contains w:=by
 induction ws with
 | nil=>rfl
 | cons a ws ih=>
  rw [Kb,LN,ih,fO,List.contains_cons];congr 1;by_cases h:a=w
  ·simp [h]
  ·rw [dQ h,dQ (Ne.symm h)]
theorem rE{ms:List Str}(h:∀m∈ms,KJ m=true):Lf (ms.map .str)=true:=(pQ (n:=1) (qf h)).1
def d4(f:Pp->Bool):De->Bool
 | .pap p=>f p
 | _=>false
theorem lF{f:Pp->Bool}:∀xs:List De,(xs.filter (d4 f)).map De.enc=((aB xs).filter f).map Pp.enc
 | []=>rfl
 | .pap p::xs=>by
  have ih:=lF (f:=f) xs;show _=(O7 f (p::aB xs)).map Pp.enc;rw [L6,L6];by_cases h:f p=true
  ·rw [Qf h,Qf (show d4 f (.pap p)=true from h),Kb,Kb,ih];rfl
  ·rw [Qe h,Qe (show ¬d4 f (.pap p)=true from h),ih]
 | .oth w d nm r::xs=>by
  have ih:=lF (f:=f) xs;show _=(O7 f (aB xs)).map Pp.enc;rw [L6,Qe (show ¬d4 f (.oth w d nm r)=true from K5),ih]
def rF:List Qi->(Qi->Prop)->Prop:=λds Q=>∃p:De,ds=[p.enc]/\Q (cn (p.d,p.nm))
theorem Ax(T:Txt K mg t):aM P w K mg base CX0 1 t.a_C t.d_C ["deed"] (aT K rF):=by
 refine T.F_C.F.okD Hs (λds Q h=>?_) (λ_ _ _ _ H O ds Q E hr h=>?_)
 ·obtain⟨p,rfl,_⟩:=h;rfl
 ·obtain⟨p,rfl,q⟩:=h;refine'⟨_,?A,?B⟩
  case A=>
   refine' ao ?C
   case' C=>refine' aF ?D
   case' D=>refine' bj ?E
   case' E=>refine' aa ?F ?G
   case F=>exact(ak av ax (dv 0) ae)
   case' G=>refine' aa ?H ag
   case H=>exact(ak av ax (dv 0) ae)
  case B=>
  clear hr T;cases p <;> simp only [De.enc,Pp.enc] <;> walk_at "a" <;> exact q
theorem Ik{d:Qi}{ps:List Pp}(h:d∈ps.map Pp.enc)(R:Qi->Prop)(q:R (cn (iG d))):rF [d] R:=by
 obtain⟨p,hp,rfl⟩:=Kd.mp h;exact⟨.pap p,rfl,q⟩
theorem Il{ps:List Pp}(nd:(ps.map (·.nm)).Nodup):(ps.map Pp.key).Nodup:=by
 rw [MW,La] at nd⊢;exact nd.imp λh e=>h (congrArg PY e)
def F_D:List Qi->(Qi->Prop)->Prop:=λds Q=>∃xs:List De,(ds=[.list (xs.map De.enc)]\/ds=[.tuple (xs.map De.enc)])/\fY xs/\Q (.list ((dP (aB xs)).map Pp.enc))
theorem Ay(T:Txt K mg t):aM P w K mg base CX0 4 t.a_D t.d_D ["deeds"] (aT K F_D):=by
 have G_C:=@Ax P w _ _ base _ T;refine T.F_D.F.okD Ht (λds Q h=>?_) (λ_ _ _ _ H O ds Q E hr h=>?_)
 ·obtain⟨ps,h | h,_⟩:=h <;> subst h <;> rfl
 ·obtain⟨xs,e,gd,q⟩:=h;refine'⟨_,?A,?B⟩
  case A=>
   refine' ao ?C
   case' C=>refine' aF ?D
   case D=>exact(fe (Gz iG rfl G_C (bx.in1 (bx.in1 (hr.mono Qb))) T.F_C.b rfl T.F_C.m rfl T.n_sorted LH (aJ (fe (GF rfl Ar (df (dv 0)) bb cg Qb (λ_ _ _ _=>(aY (i:=0) Ar.nd rfl Qg)) (λ_ _ _ _=>(gM (aI (cH hr) cI (ak av ax (dv 0) ae) aL (aG _)))) (λ_ _ _ _=>(dv 0)))) aK)))
  case B=>
  clear hr T G_C;have ln:=gd.ln;have pl:=gd.gp.ln;have step:∀x∈xs,∀(R:Qi->Prop)(S:Prop),(if d4 (λ_=>true) x=true then R x.enc else S)->(if (x.w==J4 "paper")=true then R x.enc else S):=λx hx R S h=>by
   cases x with
   | pap p=>exact h
   | oth w d nm r=>
    rw [show((De.oth w d nm r).w==J4 "paper")=false from dQ (gd.np w d nm r hx),Qe K5];rw [Qe (show ¬d4 (λ_=>true) (.oth w d nm r)=true from K5)] at h;exact h
  have fin:∀ds':List Qi,ds'.Perm ((aB xs).map Pp.enc)->ds'.Pairwise (λa b=>aQ (iG a) (iG b)=true)->Q (.list ds'):=λds' h1 h2=>by
   rw [Ie gd.gp.nd h1 h2];exact q
  have tail:(∀d∈(aB xs).map Pp.enc,∀R:Qi->Prop,R (cn (iG d))->rF [d] R)/\((aB xs).map Pp.enc).length < 64/\(((aB xs).map Pp.enc).map iG).Nodup:=by
   refine⟨λd hd R z=>Ik hd R z,by rw [J1];omega,?_⟩;rw [Kx];exact Il gd.gp.nd
  rcases e with e | e <;> subst e <;> walk_at "a"
  ·refine⟨by rw [J1];omega,fA (d4 λ_=>true) De.enc (λx hx R S h=>?_) ?_⟩
   ·have h:=step x hx R S h;cases x <;> simp only [De.enc,De.w,Pp.enc] at h⊢<;> walk_at "a" <;> exact h
   ·rw [lF,lE];exact⟨tail.1,tail.2.1,tail.2.2,fin⟩
  ·refine⟨by rw [J1];omega,fA (d4 λ_=>true) De.enc (λx hx R S h=>?_) ?_⟩
   ·have h:=step x hx R S h;cases x <;> simp only [De.enc,De.w,Pp.enc] at h⊢<;> walk_at "a" <;> exact h
   ·rw [lF,lE];exact⟨tail.1,tail.2.1,tail.2.2,fin⟩
def Az:List Qi->(Qi->Prop)->Prop:=λds Q=>∃(xs:List De)(c:Pp),ds=[.tuple (xs.map De.enc),.str c.nm]/\fY xs/\c∈aB xs/\Q c.enc
theorem AA(T:Txt K mg t):aM P w K mg base CX0 1 t.a_E t.d_E ["deeds","paper"] (aT K Az):=by
 refine T.F_E.F.okD yY (λds Q h=>?_) (λ_ _ _ _ H O ds Q E hr h=>?_)
 ·obtain⟨ps,c,rfl,_⟩:=h;rfl
 ·obtain⟨xs,c,rfl,gd,hc,q⟩:=h;refine'⟨_,?A,?B⟩
  case A=>
   refine' ay ?C ?D
   case C=>
    refine' mB KS rfl (dv 0) ?E bb ?F
    case E=>exact(aY (i:=2) yY.nd rfl Qg)
    case' F=>refine' ao ?G
    case' G=>refine' aW ?H ?I aV
    case H=>exact(PW.pt (dj (aI (cH hr) cI (ak av ax (dv 2) ae) aL (aG _)) (dU (aI (bA hr.units) bB (ak av ax (dv 2) ae) (dv 1) (aG _)))))
    case' I=>refine' ao ?J
    case J=>exact(aF (dv 2))
   case D=>refine' ao jN
  case B=>
  clear hr T;walk_at "a";refine⟨λi δ=>(∀x∈aB (xs.take i),x.nm≠c.nm)/\∃o2,δ=[some (Sl.v (.tuple (xs.map De.enc))),some (Sl.v (.str c.nm)),o2],⟨by simp [aB],_,rfl⟩,?_,?_⟩
  ·rintro i z δ hz ⟨hn,o2,rfl⟩;rw [Kj] at hz;cases hz':xs[i]? with
   | none=>rw [hz'] at hz;cases hz
   | some x=>
    rw [hz'] at hz;cases hz;have hx:=Kw hz';cases x with
    | pap p=>
     simp only [De.enc,Pp.enc];walk_at "a";refine⟨cj.mpr (gd.nm _ hx),cj.mpr (gd.gp.nm c hc),?_⟩;split
     ·rename_i h;have e:=nV gd.gp.nd (lC.mpr hx) hc (eq_of_beq h);subst e;exact q
     ·rename_i h;refine⟨λy hy=>?_,_,rfl⟩;rw [Le,hz'] at hy;unfold aB at hy;rw [Ov] at hy;rcases Kn.mp hy with z | z
      ·exact hn y z
      ·have:y=p:=by simpa [De.pp] using z
       rw [this];exact λe=>h (by rw [e];exact beq_self_eq_true _)
    | oth w d nm r=>
     simp only [De.enc];walk_at "a";rw [dQ (gd.np w d nm r hx),Qe K5];refine⟨λy hy=>?_,_,rfl⟩;rw [Le,hz'] at hy;unfold aB at hy;rw [Ov] at hy;rcases Kn.mp hy with z | z
     ·exact hn y z
     ·simp [De.pp] at z
  ·rintro δ ⟨hn,o2,rfl⟩;rw [J1,Ky (J8 _)] at hn;exact absurd rfl (hn c hc)
def F_F:List Qi->(Qi->Prop)->Prop:=λds Q=>∃xs:List De,ds=[.tuple (xs.map De.enc)]/\fY xs/\Q (.tuple (((dP (aB xs)).map (·.nm)).map .str))
theorem Im(T:Txt K mg t):aM P w K mg base CX0 5 t.a_F t.d_F ["deeds"] (aT K F_F):=by
 have G_D:=@Ay P w _ _ base _ T;refine T.F_F.F.okD Hu (λds Q h=>?_) (λ_ _ _ _ H O ds Q E hr h=>?_)
 ·obtain⟨ps,rfl,_⟩:=h;rfl
 ·obtain⟨xs,rfl,gd,q⟩:=h;refine'⟨_,?A,?B⟩
  case A=>
   refine' ao ?C
   case' C=>refine' aF ?D
   case D=>exact(PE.imp (fJ jq rfl T.n_tuple eN (aJ (fe (gP rfl As (df (au G_D hr T.F_D (aa (dv 0) ag))) bb cg Qb (λ_ _ _ _=>(aY (i:=0) As.nd rfl Qg)) (λ_ _ _ _=>dA) (λ_ _ _ _=>(ak av ax (dv 0) ae)))) aK)) (aP jE))
  case B=>
  clear hr T G_D;walk_at "a";refine⟨xs,.inr rfl,gd,_,rfl,by rw [J1,Ao];have:=gd.gp.ln;omega,fA (λ_=>true) (λp:Pp=>.str p.nm) (λx hx R S h=>?_) ?_⟩
  ·simp only [Pp.enc];walk_at "a";rw [Qf rfl] at h;exact h
  ·rw [lE];rw [Kx] at q;exact q
def Io:List Qi->(Qi->Prop)->Prop:=λds Q=>∃(xs:List De)(c:Pp),ds=[.tuple (xs.map De.enc),c.enc]/\fY xs/\c∈aB xs/\Q (.list ((bY (aB xs) c).map Pp.enc))
theorem Ip(T:Txt K mg t):aM P w K mg base CX0 5 t.a_G t.d_G ["deeds","coming"] (aT K Io):=by
 have G_D:=@Ay P w _ _ base _ T;have G_C:=@Ax P w _ _ base _ T;refine T.F_G.F.okD yZ (λds Q h=>?_) (λ_ _ _ _ H O ds Q E hr h=>?_)
 ·obtain⟨ps,c,rfl,_⟩:=h;rfl
 ·obtain⟨xs,c,rfl,gd,hc,q⟩:=h;refine'⟨_,?A,?B⟩
  case A=>
   refine' ay ?C ?D
   case C=>exact(mO (i:=2) yZ.nd rfl Qg (Gk rfl Au (df (dv 0)) bb cg Qb (λ_ _ _ _=>(aY (i:=0) Au.nd rfl Qg)) (λ_ _ _ _=>(gM (PW.pt (dj (aI (cH hr) cI (ak av ax (dv 0) ae) aL (aG _)) (dU (aI (kM hr) jH (ak av ax (dv 0) ae) (ak av ax (dv 1) ae) rfl)))))) (λ_ _ _ _=>(dv 0))))
   case' D=>refine' ao ?E
   case' E=>refine' aF ?F
   case F=>exact(au G_D hr T.F_D (aa (fe (gP rfl Av (df (dv 2)) bb cg Qb (λ_ _ _ _=>(aY (i:=0) Av.nd rfl Qg)) (λ_ _ _ _=>(gM (aI (xK hr.units0) xN (au G_C hr T.F_C (aa (dv 0) ag)) (au G_C hr T.F_C (aa (dv 1) ag)) (aG _)))) (λ_ _ _ _=>(dv 0)))) ag))
  case B=>
  clear hr T G_D G_C;have ln:=gd.ln;have pl:=gd.gp.ln;obtain⟨hm1,hm2⟩:=gd.gp.ms c hc;walk_at "a";refine⟨by rw [J1];omega,fA (d4 λp=>c.ms.contains p.nm) De.enc (λx hx R S h=>?_) ?_⟩
  ·cases x with
   | pap p=>
    simp only [De.enc,Pp.enc];walk_at "a";refine⟨cj.mpr (gd.nm _ hx),rE hm1,?_⟩;rw [rD];exact h
   | oth w d nm r=>
    simp only [De.enc];walk_at "a";rw [dQ (gd.np w d nm r hx),Qe K5];rw [Qe (show ¬d4 _ (.oth w d nm r)=true from K5)] at h;exact h
  ·rw [lF];have fl:=LR (λp:Pp=>c.ms.contains p.nm) (aB xs);refine⟨by rw [J1];omega,fA (λp=>aQ p.key c.key) Pp.enc (λx hx R S h=>?_) ?_⟩
   ·walk_at "a";exact⟨.pap x,rfl,.pap c,rfl,x.key,rfl,c.key,rfl,h⟩
   ·rw [Ii];refine⟨_,.inl rfl,fY.of ((gd.gp.filter _).filter _),?_⟩;rw [Aq,Ap (rC gd.gp.nd),Ap gd.gp.nd,List.filter_filter];have e:(dP (aB xs)).filter (λa=>aQ a.key c.key && c.ms.contains a.nm)=bY (aB xs) c:=by
     unfold bY jX;congr 1;funext a;rw [PH]
    rw [e];exact q
theorem AB{ps:List Pp}{c:Pp}(g:jW ps):(bY ps c).length<=41:=by
 unfold bY;have h1:=LR (jX c) (dP ps);have h2:=Ao (ps:=ps);have h3:=g.ln;omega
def F_H:List Qi->(Qi->Prop)->Prop:=λds Q=>∃(xs:List De)(c:Pp),ds=[.tuple (xs.map De.enc),.str c.nm]/\fY xs/\c∈aB xs/\Q (.tuple (((bY (aB xs) c).map (·.nm)).map .str))
theorem Iq(T:Txt K mg t):aM P w K mg base CX0 6 t.a_H t.d_H ["deeds","paper"] (aT K F_H):=by
 have G_G:=@Ip P w _ _ base _ T;have G_E:=@AA P w _ _ base _ T;refine T.F_H.F.okD Hv (λds Q h=>?_) (λ_ _ _ _ H O ds Q E hr h=>?_)
 ·obtain⟨ps,c,rfl,_⟩:=h;rfl
 ·obtain⟨xs,c,rfl,gd,hc,q⟩:=h;refine'⟨_,?A,?B⟩
  case A=>
   refine' ao ?C
   case' C=>refine' aF ?D
   case D=>exact(PE.imp (fJ jq rfl T.n_tuple eN (aJ (fe (gP rfl Aw (df (au G_G hr T.F_G (aa (dv 0) (aa (au G_E hr T.F_E (aa (dv 0) (aa (dv 1) ag))) ag)))) bb cg Qb (λ_ _ _ _=>(aY (i:=0) Aw.nd rfl Qg)) (λ_ _ _ _=>dA) (λ_ _ _ _=>(ak av ax (dv 0) ae)))) aK)) (aP jE))
  case B=>
  clear hr T G_G G_E;walk_at "a";refine⟨xs,c,rfl,gd,hc,xs,c,rfl,gd,hc,⟨_,rfl,by rw [J1];have:=AB (c:=c) gd.gp;omega,fA (λ_=>true) (λp:Pp=>.str p.nm) (λx hx R S h=>?_) ?_⟩⟩
  ·simp only [Pp.enc];walk_at "a";rw [Qf rfl] at h;exact h
  ·rw [lE];rw [Kx] at q;exact q
end
theorem AD:br (aE nF) ["deeds","place"] ["other","deeds","place"] 1 [0,1] ⟨Ki,[ (J3 ".0",RA),(J3 "other",RA),(J3 "quarrel",KD),(J3 "deeds",Kq),(J3 "place",Kq)],false,false,[]⟩:= .of
section
variable {P:Qu} {w:Qw} {K:J0} {mg:Str->Option Qj} {base:Qy} {t:cu}
def nW(d:Qi):Prop:=∃(w:Str)(n:Int)(x:Str)(r:List Qi),d= .tuple (.str w:: .int n:: .str x::r)/\bL d
def bt(w:Str)(a b:Str):Bool:=w==a || w==b
def cQ(d e:Qi):Bool:=match d,e with
 | .tuple (.str w:: .int n:: .str x::r),.tuple (.str w':: .int n':: .str x'::r')=>
  J6 d e || (x==x' && ((w==("paper":Str) && w'==("paper":Str)) || (w==("leave":Str) && w'==("leave":Str)) || (n==n' && ((bt w "rule" "end" && bt w' "rule" "end") || (bt w "hold" "lift" && bt w' "hold" "lift")))))
 | _,_=>false
theorem Ir(A B C C' L L' R R' D D' N:Bool)(Q:Bool->Prop)(h:Q (A || (B && (C && C' || L && L' || N && (R && R' || D && D'))))):
 if A=true then Q true else if B=false then Q false else
  if C=true then if C'=true then Q true else
   if L=true then if L'=true then Q true else
    if R=true then if R'=true then Q N else if D=true then if D'=true then Q N else Q false else Q false
    else if D=true then if D'=true then Q N else Q false else Q false
   else if R=true then if R'=true then Q N else if D=true then if D'=true then Q N else Q false else Q false
    else if D=true then if D'=true then Q N else Q false else Q false
  else
   if L=true then if L'=true then Q true else
    if R=true then if R'=true then Q N else if D=true then if D'=true then Q N else Q false else Q false
    else if D=true then if D'=true then Q N else Q false else Q false
   else if R=true then if R'=true then Q N else if D=true then if D'=true then Q N else Q false else Q false
    else if D=true then if D'=true then Q N else Q false else Q false:=by
 cases A
 ·cases B
  ·simpa using h
  ·have tail:∀p:Bool,p=false->Q (false || (true && (p || N && (R && R' || D && D'))))->if R=true then if R'=true then Q N else if D=true then if D'=true then Q N else Q false else Q false else if D=true then if D'=true then Q N else Q false else Q false:=λp hp h=>by
    subst hp;cases R <;> cases R' <;> cases D <;> cases D' <;> simpa using h
   cases C <;> cases C' <;> cases L <;> cases L' <;> first | simpa using h | (simp only [Mb,if_false,if_true,reduceCtorEq];exact tail _ (by rfl) h)
 ·simpa using h
def Iu:List Qi->(Qi->Prop)->Prop:=λds Q=>∃d e,ds=[d,e]/\nW d/\nW e/\Q (.bool (cQ d e))
theorem Iw(T:Txt K mg t):aM P w K mg base CX0 1 t.a_U t.d_U ["one","other"] (aT K Iu):=by
 refine T.F_U.F.okD rg (λds Q h=>?_) (λ_ _ _ _ H O ds Q E hr h=>?_)
 ·obtain⟨d,e,rfl,_⟩:=h;rfl
 ·obtain⟨d,e,rfl,⟨w,n,x,r,rfl,sd⟩,⟨w',n',x',r',rfl,se⟩,q⟩:=h;refine⟨_,(ay (aW (aI (bA hr.units) bB (dv 0) (dv 1) (aG _)) (ao (aF bT)) aV)
   (ay (aW (aI (jC hr.units) jD (ak av ax (dv 0) ae) (ak av ax (dv 1) ae) (aG _)) (ao (aF bT)) aV)
   (ay (uR KS rfl (bj (aa aL (aa aL ag))) (aY (i:=2) rg.nd rfl Qg) bb (ao (aW (PW.pt (dj (aI (bA hr.units) bB (ak av ax (dv 0) ae) (dv 2) (aG _)) (dU (aI (bA hr.units) bB (ak av ax (dv 1) ae) (dv 2) (aG _))))) (ao (aF bT)) aV)))
   (ay (uR KS rfl (bj (aa (bj (aa aL (aa aL ag))) (aa (bj (aa aL (aa aL ag))) ag))) (aY (i:=3) rg.nd rfl Qg) bb (ao (aW (PW.pt (dj (aI (fR hr) fS (ak av ax (dv 0) ae) (dv 3) rfl) (dU (aI (fR hr) fS (ak av ax (dv 1) ae) (dv 3) rfl)))) (ao (aF (bV (bA hr.units) bB (df (ak av ax (dv 0) ae)) (df (ak av ax (dv 1) ae)) (aG _)))) aV)))
   (ao (aF bT)))))),?_⟩
  have hw:bL (.str w):=gu sd _ Qh;have hw':bL (.str w'):=gu se _ Qh;have hx:bL (.str x):=gu sd _ Qh;have hx':bL (.str x'):=gu se _ Qh;walk_at "a";simp only [hw,hw',hx,hx',sd,se,true_and,lit0,lit1,lit2,lit3,lit4,lit5,lit6,lit7,lit8,lit9,lit10,lit11,lit12,lit13,lit14,lit15,lit16,lit17,lit18,lit19,lit20,lit21,lit22,lit23,lit24,lit25,lit26,lit27,lit28,lit29,lit30,lit31,lit32,lit33,lit34,lit35,lit36,lit37,lit38,lit39];have fin:∀{b:Bool},b=cQ (.tuple (.str w:: .int n:: .str x::r)) (.tuple (.str w':: .int n':: .str x'::r'))->Q (.bool b):=λe=>by rw [e];exact q
  have qd:cQ (.tuple (.str w:: .int n:: .str x::r)) (.tuple (.str w':: .int n':: .str x'::r'))=(J6 (.tuple (.str w:: .int n:: .str x::r)) (.tuple (.str w':: .int n':: .str x'::r')) || (x==x' && ((w==("paper":Str) && w'==("paper":Str)) || (w==("leave":Str) && w'==("leave":Str)) || (n==n' && ((bt w "rule" "end" && bt w' "rule" "end") || (bt w "hold" "lift" && bt w' "hold" "lift")))))):=rfl;rw [qd] at fin;clear qd q;have cm:∀a b:Str,(a==b)=(b==a):=λa b=>MB;simp only [bt,cm w,cm w'] at fin;generalize (Kl (J5 w::J7 n::J5 x::r)).eqv (Kl (J5 w'::J7 n'::J5 x'::r'))=A at*;simp only [cm w,cm w'];generalize (x==x')=B at*;generalize (("paper":Str)==w)=C at*;generalize (("paper":Str)==w')=C' at*;generalize (("leave":Str)==w)=L at*;generalize (("leave":Str)==w')=L' at*;generalize (("rule":Str)==w || ("end":Str)==w)=R at*;generalize (("rule":Str)==w' || ("end":Str)==w')=R' at*;generalize (("hold":Str)==w || ("lift":Str)==w)=D at*;generalize (("hold":Str)==w' || ("lift":Str)==w')=D' at*;generalize (n==n')=N at*;exact Ir A B C C' L L' R R' D D' N (λb=>Q (.bool b)) (fin rfl)
def NQ(a b:Qi):Prop:=cQ a b=false
instance (a b:Qi):Decidable (NQ a b):=by unfold NQ;infer_instance
def Iy:List Qi->(Qi->Prop)->Prop:=λds Q=>∃xs,ds=[.tuple xs]/\(∀d∈xs,nW d)/\xs.length<=1000/\Q (.bool (decide (xs.Pairwise NQ)))
theorem Iz(T:Txt K mg t):aM P w K mg base CX0 2 t.a_V t.d_V ["deeds"] (aT K Iy):=by
 have G_U:=@Iw P w _ _ base _ T;refine T.F_V.F.okD y4 (λds Q h=>?_) (λ_ _ _ _ H O ds Q E hr h=>?_)
 ·obtain⟨d,rfl,_⟩:=h;rfl
 ·obtain⟨xs,rfl,hd,hl,q⟩:=h;refine⟨_,(ay (mC KS rfl rfl T.n_range (aa (PE.imp (aS bH rfl T.n_len Ko (aJ (dv 0) aK)) (aP bP)) ag) (aY (i:=1) y4.nd rfl Qg) bb (ao (aW (cD (PE.imp (aS (t8 rfl) rfl T.n_any t9 (aJ (fe (iT rfl AD (df (gU (df (dv 0)) dX (cw (dv 1)))) bb cg Qb (λ_ _ _ _=>(aY (i:=0) AD.nd rfl Qg)) (λ_ _ _ _=>dA) (λ_ _ _ _=>(au G_U hr T.F_U (aa (dv 0) (aa (ak av ax (dv 1) (dv 2)) ag)))))) aK)) (aP ie))) (ao (aF bT)) aV)))
   (ao (aF bT))),?_⟩
  walk_at "a";refine⟨Qc,Qc,λi δ=>(xs.take i).Pairwise NQ/\∃o,δ=[some (Sl.v (Kl xs)),o],⟨Qh,_,rfl⟩,?_,?_⟩
  ·rintro i x δ hx ⟨hp,o,rfl⟩;obtain⟨hi,rfl⟩:=gR hx;have hi':i < xs.length:=Qc
   walk_at "a";simp only [OW];have et:xs.take (i+1)=xs.take i++[xs[i]]:=by rw [Le,Kc hi'];rfl
   rw [kG Qc Qc,Ml];refine⟨?_,λj acc=>acc=((xs.take i).take j).map (λd=>.bool (cQ d xs[i])),Qh,?_,?_⟩
   ·rw [KW];omega
   ·rintro j x acc hx rfl;have hm:x∈xs:=Lx (Kw hx);walk_at "a";refine⟨xs[i],di (by simp [hi']),x,xs[i],rfl,hd _ hm,hd _ (K9 hi'),?_⟩;rw [Le,hx];simp
   ·rintro acc rfl;refine⟨(xs.take i).map (λd=>cQ d xs[i]),?_,?_⟩
    ·rw [Ky (J8 _),Kx];rfl
    ·split
     ·rename_i h;rw [decide_eq_false (λz=>?_)] at q
      ·exact q
      ·have z2:=(PJ.sublist (Mk (i+1) xs) z);rw [et,OB] at z2;rw [Nn,LO] at h;obtain⟨d,hd1,hd2⟩:=h;have z3:=z2.2.2 d hd1 xs[i] Qh;unfold NQ at z3;simp [z3] at hd2
     ·rename_i h;refine⟨?_,_,rfl⟩;rw [et,OB];refine⟨hp,Qh,λd hd1 e he=>?_⟩;rw [Kr] at he;subst he;rw [Bool.not_eq_true,Nn,NR] at h;have:=h d hd1;unfold NQ;simpa using this
  ·rintro δ ⟨hp,o,rfl⟩;walk_at "a";rw [ij,Ml,Ky (J8 _)] at hp;rw [decide_eq_true hp] at q;exact q
local macro_rules | `(tactic| walk_at "c") =>rzT "sH sG sM sL sI kh gH dh tC jm sV rI fF rU CV CW CY CZ C0 oI tB sk sq sr sA sC sE sF lY tq tm lZ tu tw lM j9 lL sO sP Dg Dh Di Dj Dk Dm Dp Dq lT oH kr L2.start Kb LA Kt LI Kp N3 LX LV OG OH PM PN OT N9 Mt OU OV NP exists_eq_left' exists_eq_left exists_and_left exists_and_right V.int.injEq V.bl.injEq V.str.injEq V.ref.injEq Li and_true true_and PQ exists_const decide_eq_true_eq PR PV PD PF NN decide_eq_false_iff_not and_assoc bD Ph O4 Pj L2.cxK L2.cmK or_true true_or"
theorem AE{H H1:Hp}{p:Qk}(hp:H p=some (fK p))(h:∀b o,b≠p->H b=some o->H1 b=some o):ar H (aq H1 p (fK p)):=λb o e=>by
 by_cases hb:b=p
 ·subst hb;rw [bq,<-hp,e]
 ·rw [aH hb];exact h b o hb e
theorem iH(T:Txt K mg t):aM P w K mg base CX0 1 t.a_e t.d_e ["_law_purse_here","_law_many"] (aT K pI):=by
 refine T.F_e.F.ok rm (λvs H Q E h=>?_) (λcdv A outer s H vs Q E hr h=>?_)
 ·obtain⟨O,ds,Qd,_,r,⟨z,rfl,_⟩,_⟩:=h;exact r.length
 ·obtain⟨O,ds,Qd,tr,r,⟨z,rfl,z0,z1,qq⟩,k⟩:=h;cases r with
  | cons r1 r2=>
   cases r2 with
   | cons r2 r3=>
    cases r3;cases r2;cases r1 with
    | @purse p hp hn=>
     refine⟨_,bz.purse (hJ (lN (d7 cf (iN bC (pv 0) cq (λ_ _=>rfl)) cq) (oz (pv 0) cq oT))
   (hJ (iK (i:=2) rm.nd rfl Qg (iN bC (pv 0) cq (λ_ _=>rfl)))
   (hJ (lN (d7 fH (d7 cf (d7 gh (pv 2) (d7 cf (d7 fH (pv 2) cq) cq)) (d7 gh cq (iN bC (pv 0) cq (λ_ _=>rfl)))) cq) (oz (pv 0) cq oT))
   (hJ (oq (lV sZ (iN bC (pv 0) cq (λ_ _=>rfl)) cq (aG _)) (hJ (lN (aS Cb rfl T.n_divmod Ds (cC (iN bC (pv 0) cq (λ_ _=>rfl)) (cC (pv 1) dE))) (ke (n:=2) rfl (fg (oz (pv 0) cq oT) (fg (aY (i:=3) rm.nd rfl Qg) kc))))
   (j6 (j7 (pv 3)))) oo)
   (j6 (j7 (d7 fH (d7 lU (iN bC (pv 0) cq (λ_ _=>rfl)) cq) (pv 1)))))))),p,hp,λa b c=>?_⟩
     walk_at "c";refine jt (aX.of bq) rfl ⟨c,rfl,p,[.int a,.int b,.int c],2,2,rfl,rfl,bq,rfl,?_⟩;refine jt (aX.of bq) rfl ⟨a,rfl,a,rfl,.inr ⟨Qc,Qc⟩,?_⟩;refine jt (aX.of bq) rfl ⟨c+1,rfl,p,[.int a,.int b,.int (c+1)],0,0,rfl,rfl,bq,rfl,?_⟩;generalize (a*(a % 44497+21701)+86243*(c+1))% 2147483579=a';refine jt (aX.of bq) rfl ⟨b,rfl,?_⟩;split
     ·refine jt (aX.of bq) rfl ⟨b,rfl,z0,Qc,λq hq=>?_⟩;have hpq:p≠q:=cS bq hq;refine⟨_,bg.of bq,rfl,_,_,rfl,p,[.int a',.int b,.int (c+1)],1,1,rfl,rfl,by rw [aH hpq,bq];rfl,rfl,?_⟩;refine⟨_,_,rfl,rfl,⟨_,_,_,bq⟩,k _ _ _ (qq (b % z) (Od _ Qc) (Ny _ z0)) (AE hp λx o hx e=>?_) (.int _)⟩;have hxq:x≠q:=λy=>by
       subst y;rw [aH hx,aH hx,aH hx] at hq;rw [hq] at e;cases e
      rw [aH hx,aH hxq,aH hx,aH hx,aH hx];exact e
     ·refine jt (aX.of bq) rfl ⟨a',rfl,z0,⟨_,_,_,bq⟩,k _ _ _ (qq (a' / 16 % z) (Od _ Qc) (Ny _ z0)) (AE hp λx o hx e=>?_) (.int _)⟩;rw [aH hx,aH hx,aH hx];exact e
def IA:List Qi->(Qi->Prop)->Prop:=λds Q=>∃c:Int,ds=[.int c]/\Q dG
theorem AF(T:Txt K mg t):aM P w K mg base CX0 1 t.a_d t.d_d ["_law_cell_here"] (aT K IA):=by
 refine T.F_d.F.ok rj (λvs H Q E h=>?_) (λcdv A outer s H vs Q E hr h=>?_)
 ·obtain⟨O,ds,Qd,_,r,⟨z,rfl,_⟩,_⟩:=h;exact r.length
 ·obtain⟨O,ds,Qd,tr,r,⟨c,rfl,qq⟩,k⟩:=h;cases r with
  | cons r1 r2=>
   cases r2;cases r1;refine⟨_,bz.newPurse (hJ (iK (i:=1) rj.nd rfl Qg cq)
   (hJ (oq (PW.pt (sv (lV hV (pv 0) cq (aG _)) (su (lV tf (pv 0) (d7 B1 cq cq) (aG _))))) (j6 (iK (i:=1) rj.nd rfl Qg (aS B9 rfl T.n_abs PyProof.Rows.boot_abs (cC (pv 0) dE)))) oo)
   (j6 (j7 (lX (cC (d7 fH (pv 0) cq) (cC (pv 1) (cC cq dE)))))))),?_⟩
   walk_at "c";have fin:∀(x y z:Int)(p:Qk),H p=none->(∃u v w,aq H p (HO.lst [V.int x,V.int y,V.int z]) p=some (HO.lst [V.int u,V.int v,V.int w]))/\Q (V.ref p) (aq (aq H p (HO.lst [V.int x,V.int y,V.int z])) p (fK p)):=λx y z p hp=>
    ⟨⟨_,_,_,bq⟩,k _ _ _ qq (λb o e=>by rw [aH (cS e hp),aH (cS e hp)];exact e) (.purse bq λh=>tr p h hp)⟩
   have sl:3<=Qp:=Qb
   split
   ·rw [Qf trivial];exact⟨sl,fin _ _ _⟩
   ·refine⟨Qb,?_⟩;split
    ·exact⟨sl,fin _ _ _⟩
    ·exact⟨sl,fin _ _ _⟩
end
open Day
theorem AG:br (aE lu) ["_law_purse_here","_law_many","_law_letters","_law_stem","_law_at","_law_first","_law_step"] ["_law_k","_law_letters","_law_purse_here"] 1 [2,0] ⟨Ki,[ (J3 ".0",RA),(J3 "_law_k",RA),(J3 "_law_take",KD),(J3 "_law_letters",Kq),(J3 "_law_purse_here",Kq)],false,false,[]⟩:= .of
theorem AH:br (aE lu) ["_law_purse_here","_law_many","_law_letters","_law_stem","_law_at","_law_first","_law_step"] ["_law_k","_law_stem","_law_letters","_law_at","_law_first","_law_step"] 1 [3,2,4,5,6] ⟨Ki,[ (J3 ".0",RA),(J3 "_law_k",RA),(J3 "_law_at",Kq),(J3 "_law_first",Kq),(J3 "_law_letters",Kq),(J3 "_law_stem",Kq),(J3 "_law_step",Kq)],false,false,[]⟩:= .of
theorem AI:br (aE nH) ["_law_year_here","_law_month_here","_law_number"] ["_law_k","_law_year_here"] 1 [0] ⟨Ki,[ (J3 ".0",RA),(J3 "_law_k",RA),(J3 "_law_month",KD),(J3 "_law_year_here",Kq)],false,false,[]⟩:= .of
section
variable {P:Qu} {w:Qw} {K:J0} {mg:Str->Option Qj} {base:Qy} {t:cu}
def IB:List Qi->(Qi->Prop)->Prop:=λds Q=>∃(ns:List Int)(k:Int),ds=[dS (ns.map .int),.int k]/\0<=k/\k<=1000/\∀c:Int,Q (.int c)
theorem AJ(T:Txt K mg t):aM P w K mg base CX0 1 t.a_c t.d_c ["_law_script","_law_k"] (aT K IB):=by
 refine T.F_c.F.okD nP (λds Q h=>?_) (λ_ _ _ _ H O ds Q E hr h=>?_)
 ·obtain⟨ns,k,rfl,_⟩:=h;rfl
 ·obtain⟨ns,k,rfl,k0,k1,q⟩:=h;refine'⟨_,?A,?B⟩
  case A=>
   refine' ay ?C ?D
   case C=>
    refine' aW ?E ?F aV
    case E=>exact(aI hV dz (dv 1) (PE.imp (aS bH rfl T.n_len Ko (aJ (dv 0) aK)) (aP vi)) (aG _))
    case' F=>refine' ao ?G
    case G=>exact(aF (ak bC Ge (dv 0) (dv 1)))
   case' D=>refine' ay ?H ?I
   case H=>
    refine' bE (i:=2) nP.nd rfl Qg ?J (hs:=kR)
    case J=>exact(aR fH cX (aR gh cX ae (aR cf bO (aR cf bO (aR gh cX (dv 1) (dv 1)) (aR gh cX ae (dv 1))) ae)) ae)
   case' I=>refine' ay ?K ?L
   case K=>
    refine' kF KS rfl (fe (Gf (df (dv 0)) dX (cw ae))) ?M bb ?N
    case M=>exact(aY (i:=3) nP.nd rfl Qg)
    case' N=>refine' ao ?O
    case' O=>refine' bE (i:=2) nP.nd rfl Qg ?P (hs:=kR)
    case P=>exact(aR fH cX (aR cf bO (aR gh cX (dv 2) ae) (dv 3)) ae)
   case' L=>refine' ao ?Q
   case Q=>exact(aF (dv 2))
  case B=>
  clear hr T;walk_at "a";refine⟨_,rfl,?_⟩;rw [J1];split
  ·rename_i hlt;obtain⟨j,rfl⟩:=LC k0;have hj:j < ns.length:=Qc
   exact⟨_,rfl,.int ns[j],di (by simp [hj]),q _⟩
  ·refine⟨.inl ⟨Qc,Qc⟩,_,rfl,λi δ=>∃(st:Int)(o:Option Sl),δ=[some (Sl.v (dS (ns.map .int))),some (Sl.v (.int k)),some (Sl.v (.int st)),o],⟨_,_,rfl⟩,?_,?_⟩
   ·rintro i x δ hx ⟨st,o,rfl⟩;have hm:=Kw hx;unfold bI at hm;have hm2:=Mo (Lx hm);obtain⟨c,_,rfl⟩:=Kd.mp hm2;walk_at "a"
    first | exact⟨_,_,rfl,rfl⟩ | exact⟨_,_,rfl⟩ | exact⟨_,rfl,_,rfl⟩ | exact⟨_,rfl⟩ | exact⟨_,_,trivial⟩ | exact⟨⟨_,rfl⟩,⟨_,rfl⟩⟩
   ·rintro δ ⟨st,o,rfl⟩;walk_at "a";exact q _
def IC:List Qi->(Qi->Prop)->Prop:=λds Q=>∃y m:Int,ds=[.int y,.int m]/\1<=m/\m<=12/\Q (.int (bw y m))
theorem AK(T:Txt K mg t):aM P w K mg base CX0 1 t.a_g t.d_g ["_law_year_here","_law_month_here"] (aT K IC):=by
 refine T.F_g.F.okD y8 (λds Q h=>?_) (λ_ _ _ _ H O ds Q E hr h=>?_)
 ·obtain⟨y,m,rfl,_⟩:=h;rfl
 ·obtain⟨y,m,rfl,m1,m2,q⟩:=h;refine'⟨_,?A,?B⟩
  case A=>
   refine' ay ?C ?D
   case C=>
    generalize hG2:Pw _ _ _ _=eg2;refine' bE (i:=2) y8.nd rfl Qg ?E (hs:=by subst hG2;exact iz)
    case' E=>subst hG2
    exact(PE.imp (fJ oM rfl T.n_int mh (aJ (ur (bV (bA hr.units) bB (df (aR fH cX (dv 0) ae)) (df ae) (aG _)) (cE (bX (bV (bA hr.units) bB (df (aR fH cX (dv 0) ae)) (df ae) (aG _)) (cE (bV (jC hr.units) jD (df (aR fH cX (dv 0) ae)) (df ae) (aG _)))))) aK)) (aP pH))
   case' D=>refine' ao ?F
   case' F=>generalize hG5:Ow _ _ _=eg5
   refine' aF ?G
   case' G=>subst hG5
   refine' cY bC bU (df ?H) ?I
   case H=>
    refine' fe ?J
    case' J=>refine' cK ?K
    case' K=>refine' aa ae ?L
    case' L=>refine' aa ?M ?N
    case M=>exact(aR cf bO ae (dv 2))
    case N=>refine' iY (ds:=[.int 31,.int 30,.int 31,.int 30,.int 31,.int 31,.int 30,.int 31,.int 30,.int 31]) (by rfl)
   case I=>exact(df (aR fG bO (dv 1) ae))
  case B=>
  clear hr T;walk_at "a";have ma:=qt y;have key:∀l2:Int,l2=bw y 2->∃d,atI [J7 31,J7 l2,J7 31,J7 30,J7 31,J7 30,J7 31,J7 31,J7 30,J7 31,J7 30,J7 31] (m - 1)=some d/\Q d:=λl2 e=>by
   obtain⟨a1,a3,a4,a5,a6,a7,a8,a9,a10,a11,a12⟩:=ma;rcases qu m1 m2 with z | z | z | z | z | z | z | z | z | z | z | z <;> subst z
   ·rw [a1] at q;exact⟨_,rfl,q⟩
   ·rw [<-e] at q;exact⟨_,rfl,q⟩
   ·rw [a3] at q;exact⟨_,rfl,q⟩
   ·rw [a4] at q;exact⟨_,rfl,q⟩
   ·rw [a5] at q;exact⟨_,rfl,q⟩
   ·rw [a6] at q;exact⟨_,rfl,q⟩
   ·rw [a7] at q;exact⟨_,rfl,q⟩
   ·rw [a8] at q;exact⟨_,rfl,q⟩
   ·rw [a9] at q;exact⟨_,rfl,q⟩
   ·rw [a10] at q;exact⟨_,rfl,q⟩
   ·rw [a11] at q;exact⟨_,rfl,q⟩
   ·rw [a12] at q;exact⟨_,rfl,q⟩
  have e2:=ng y;unfold ld at e2;have li:=qr y;split
  ·rename_i h;have h:=eq_of_beq h;exact key _ (by rw [e2,Qf (li.mpr (.inl h))])
  ·rename_i h;have h:¬y % 400=0:=λe=>h (by rw [e];rfl);split
   ·rename_i h4;have h4:=eq_of_beq h4;by_cases h100:y % 100=0
    ·have nl:¬iF y=true:=λz=>by rcases li.mp z with z | z;exact h z;exact z.2 h100
     have nb:¬(y % 100==0)=false:=by rw [h100];decide
     exact key _ (by rw [e2,Qe nl,Qe nb])
    ·exact key _ (by rw [e2,Qf (show iF y=true from li.mpr (.inr ⟨h4,h100⟩)),Qf (show(y % 100==0)=false by simpa using h100)])
   ·rename_i h4;have h4:¬y % 4=0:=λe=>h4 (by rw [e];rfl);exact key _ (by rw [e2,Qe (λz=>by rcases li.mp z with z | z;exact h z;exact h4 z.1)])
def ID:List Qi->(Qi->Prop)->Prop:=λds Q=>∃y:Int,ds=[.int y]/\Q (.int (g5 y))
theorem IE(T:Txt K mg t):aM P w K mg base CX0 1 t.a_h t.d_h ["_law_year_here"] (aT K ID):=by
 refine T.F_h.F.okD y9 (λds Q h=>?_) (λ_ _ _ _ H O ds Q E hr h=>?_)
 ·obtain⟨y,rfl,_⟩:=h;rfl
 ·obtain⟨y,rfl,q⟩:=h;refine'⟨_,?A,?B⟩
  case A=>
   refine' ay ?C ?D
   case C=>exact(bE (i:=0) y9.nd rfl Qg (aR fG bO (dv 0) ae))
   case' D=>refine' ao ?E
   case' E=>generalize hG4:Expr.BinOp _ _ _ _=eg4
   refine' aF ?F
   case' F=>subst hG4
   exact(aR fG bO (aR cf bO (aR fG bO (aR cf bO (aR gh cX ae (aR fG bO (dv 0) ae)) (aR lU cX (dv 0) ae)) (aR lU cX (dv 0) ae)) (aR lU cX (dv 0) ae)) ae)
  case B=>
  clear hr T;walk_at "a";have e:365*(y - 1 - 1999)+(y - 1)/ 4 - (y - 1)/ 100+(y - 1)/ 400 - 484=g5 y:=by
   unfold g5 lb;omega
  rw [e];exact q
def AL:List Qi->(Qi->Prop)->Prop:=λds Q=>∃y m n:Int,ds=[.int y,.int m,.int n]/\1<=m/\m<=12/\Q (.int (la y m n))
theorem IF(T:Txt K mg t):aM P w K mg base CX0 2 t.a_i t.d_i ["_law_year_here","_law_month_here","_law_number"] (aT K AL):=by
 have G_h:=@IE P w _ _ base _ T;have G_g:=@AK P w _ _ base _ T;refine T.F_i.F.okD HJ (λds Q h=>?_) (λ_ _ _ _ H O ds Q E hr h=>?_)
 ·obtain⟨y,m,n,rfl,_⟩:=h;rfl
 ·obtain⟨y,m,n,rfl,m1,m2,q⟩:=h;refine'⟨_,?A,?B⟩
  case A=>
   refine' ao ?C
   case' C=>refine' aF ?D
   case D=>exact(aR fG bO (aR cf bO (aR cf bO (au G_h hr T.F_h (aa (dv 0) ag)) (PE.imp (aS (Dc rfl) rfl T.n_sum P4 (aJ (fe (vY rfl AI rfl T.n_range (aJ ae (aJ (dv 1) aK)) bb cg Qb (λ_ _ _ _=>(aY (i:=0) AI.nd rfl Qg)) (λ_ _ _ _=>dA) (λ_ _ _ _=>(au G_g hr T.F_g (aa (dv 1) (aa (dv 0) ag)))))) aK)) (aP GI))) (dv 2)) ae)
  case B=>
  clear hr T G_h G_g;walk_at "a";refine⟨y,rfl,by have:((16777216:Nat):Int)=16777216:=rfl;omega,Qc,Qc,?_⟩;refine p7 (λx=>match x with | .int i=>.int (bw y i) | _=>.none) (λx hx R hR=>?_) ?_
  ·obtain⟨i,hi⟩:=List.getElem?_of_mem hx;obtain⟨hlt,rfl⟩:=gR hi;walk_at "a";exact⟨y,1+(i:Int),rfl,Qc,Qc,hR⟩
  ·refine⟨(KU (m - 1).toNat).map λ(i:Nat)=>bw y (1+(i:Int)),by unfold eB;rw [Kx,Kx];rfl,_,rfl,?_⟩;exact q
def c9(ss:List Str):Prop:=∀s∈ss,Nm s
def rG:List Str:=["paper","rule","keep","gone","deep","first","kind","leave"]
theorem IG:∀z∈rG,Nm z:=by
 intro z hz;have a:rG.all (λz=>bZ (.str z))=true:=Qa
 obtain⟨y,e,h⟩:=ix (Lj.mp a z hz);cases e;exact h
def dD(x:Str):Prop:=∀c∈x.cps.toList,c∈cV.cps.toList
theorem dD.append{x y:Str}(h:dD x)(h':dD y):dD (x++y):=λc hc=>by
 rw [kK,Mq] at hc;rcases Kn.mp hc with z | z
 ·exact h c z
 ·exact h' c z
theorem dD.chr{c:Nat}(h:c∈cV.cps.toList):dD ⟨#[c]⟩:=λd hd=>by
 have:d=c:=by simpa using hd
 rw [this];exact h
theorem dD.join{ys:List Str}(h:∀y∈ys,dD y):dD (Txt.join "" ys):=by
 have key:∀ys:List Str,(∀y∈ys,dD y)->dD (Pb "" ys):=by
  intro ys;have e:dD ("":Str):=λc hc=>by
   have:("":Str).cps.toList=[]:=Qa
   rw [this] at hc;cases hc
  induction ys with
  | nil=>intro _;exact e
  | cons y r ih=>
   intro h;cases r with
   | nil=>exact h y Qh
   | cons z r=>exact((h y Qh).append e).append (ih λw hw=>h w (by simp [hw]))
 rw [show Txt.join "" ys=Pb "" ys from Ou "" ys];exact key ys h
theorem IH{j:Int}(h0:0<=j)(h1:j < 26):cN j∈cV.cps.toList:=by
 obtain⟨c,_,e2,_⟩:=kL h0 h1;have:cN j=c:=by unfold cN;rw [e2];rfl
 rw [this];exact Kw e2
def jc(st:Str)(at0 fs sp:Int)(k:Nat):Str:=Txt.slice st none (some at0)++⟨#[cN ((fs+sp*(0+(k:Int)))% 26)]⟩++Txt.slice st (some at0) none
theorem II{st:Str}{at0 fs sp:Int}{a b:Nat}(h:jc st at0 fs sp a=jc st at0 fs sp b):cN ((fs+sp*(0+(a:Int)))% 26)=cN ((fs+sp*(0+(b:Int)))% 26):=by
 have z:=congrArg (λs:Str=>s.cps.toList) h;unfold jc at z;simp only [kK,Mq] at z;have z:=List.append_cancel_left (List.append_cancel_right z);exact(List.cons.inj z).1
theorem IJ{st:Str}{at0 fs sp:Int}{k:Nat}(h:dD st)(l7:st.length<=7)(a0:0<=at0)(a1:at0<=st.length):Nm (jc st at0 fs sp k):=by
 rw [qa] at l7 a1;have e:(jc st at0 fs sp k).cps.toList=st.cps.toList.take at0.toNat++[cN ((fs+sp*(0+(k:Int)))% 26)]++st.cps.toList.drop at0.toNat:=by
  unfold jc;rw [kK,kK,Mq,Mq,wI,wI,Fd a0 a1,Fe a0 a1]
 refine Nm.of e ?_ ?_ λc hc=>?_
 ·simp only [Kk,Kt,LI];omega
 ·simp only [Kk,Kt,LI,KW,LF];omega
 ·rcases Kn.mp hc with z | z
  ·rcases Kn.mp z with z | z
   ·exact h c (Lx z)
   ·rw [Kr.mp z];exact IH (Od _ Qb) (Ny _ Qb)
  ·exact h c (Mo z)
def IK:List Qi->(Qi->Prop)->Prop:=λds Q=>ds=[dG,.int 8]/\∀ss:List Str,ss.length=8->c9 ss->ss.Nodup->Q (.list (ss.map .str))
theorem IL(T:Txt K mg t):aM P w K mg base CX0 2 t.a_f t.d_f ["_law_purse_here","_law_many"] (aT K IK):=by
 have G_e:=@iH P w _ _ base _ T;refine T.F_f.F.okD jR (λds Q h=>?_) (λ_ _ _ _ H O ds Q E hr h=>?_)
 ·obtain⟨rfl,_⟩:=h;rfl
 ·obtain⟨rfl,q⟩:=h;refine'⟨_,?A,?B⟩
  case A=>
   refine' ay ?C ?D
   case C=>exact(bE (i:=2) jR.nd rfl Qg aL)
   case' D=>refine' ay ?E ?F
   case E=>
    refine' bE (i:=3) jR.nd rfl Qg ?G (hs:=iz)
    case G=>exact(D8 aL (df (fe (mG rfl AG rfl T.n_range (aJ (au G_e hr T.F_e (aa (dv 0) (aa ae ag))) aK) bb cg Qb (λ_ _ _ _=>(aY (i:=0) AG.nd rfl Qg)) (λ_ _ _ _=>dA) (λ_ _ _ _=>(ak tP vv (dv 1) (au G_e hr T.F_e (aa (dv 2) (aa ae ag)))))))))
   case' F=>refine' ay ?H ?I
   case H=>
    refine' bE (i:=4) jR.nd rfl Qg ?J (hs:=iz)
    case J=>exact(au G_e hr T.F_e (aa (dv 0) (aa (aR cf bO (PE.imp (aS tR rfl T.n_len Ko (aJ (dv 3) aK)) (aP v5)) ae) ag)))
   case' I=>refine' ay ?K ?L
   case K=>
    generalize hE10_0:OX _ _=ee10_0;exact(uM (bj (aa (au G_e hr T.F_e (aa (dv 0) (aa ae ag))) (aa (ak bC bU (fe (pP (ds:=[.int 1,.int 3,.int 5,.int 7,.int 9,.int 11]) (by first | (subst hE10_0;rfl)))) (au G_e hr T.F_e (aa (dv 0) (aa ae ag)))) ag))) (ke (n:=2) rfl (fg (aY (i:=5) jR.nd rfl Qg) (fg (aY (i:=6) jR.nd rfl Qg) kc))) (mz (gn bb (gn bb my))))
   case' L=>refine' ay ?M ?N
   case M=>
    refine' aW ?O ?P aV
    case O=>exact(aI (bA hr.units) bB (au G_e hr T.F_e (aa (dv 0) (aa ae ag))) ae (aG _))
    case' P=>refine' ao ?Q
    case' Q=>generalize hE14_0:OX _ _=ee14_0
    exact(aF (fe (iU (df (fe (pP (ds:=[.str "paper",.str "rule",.str "keep",.str "gone",.str "deep",.str "first",.str "kind",.str "leave"]) (by first | (subst hE14_0;rfl))))) dX (cw (dv 1)))))
   case' N=>refine' ao ?R
   case' R=>refine' aF ?S
   case' S=>refine' fe ?T
   case T=>exact(mG rfl AH rfl T.n_range (aJ (dv 1) aK) bb cg Qb (λ_ _ _ _=>(aY (i:=0) AH.nd rfl Qg)) (λ_ _ _ _=>dA) (λ_ _ _ _=>(aR tj vq (aR tj vq (vz (df (dv 1)) dX (cw (dv 3))) (ak tP vv (dv 2) (aR fH cX (aR cf bO (dv 4) (aR gh cX (dv 5) (dv 0))) ae))) (vz (df (dv 1)) (cw (dv 3)) dX))))
  case B=>
  clear hr T G_e;walk_at "a";refine⟨8,rfl,Qb,Qb,λj j0 j8=>⟨j,rfl,Qc,by have:((16777216:Nat):Int)=16777216:=rfl;omega,?_⟩⟩;refine⟨λi acc=>∃ys:List Str,acc=ys.map .str/\ys.length=i/\∀y∈ys,cz 1 y/\dD y,⟨[],rfl,rfl,Qh⟩,?_,?_⟩
  ·rintro i z acc hz ⟨ys,rfl,hl,hg⟩;obtain⟨hi,rfl⟩:=gR hz;walk_at "a";refine⟨26,rfl,Qb,Qb,λa a0 a1=>?_⟩;obtain⟨x,e1,x2,x1⟩:=kL a0 a1;refine⟨_,rfl,Qa,x,e1,ys++[⟨#[x]⟩],by rw [Ku];rfl,by simp [hl],λz hz=>?_⟩;rcases Kn.mp hz with h | h
   ·exact hg z h
   ·rw [Kr] at h;rw [h];exact⟨cz.chr x1,dD.chr (Kw x2)⟩
  ·rintro acc ⟨ys,rfl,hl,hg⟩;rw [ij] at hl;have gj:=cz.join λy hy=>(hg y hy).1;have aj:=dD.join λy hy=>(hg y hy).2;have sl:(ys.map λx=>x.length).sum<=ys.length:=by
    clear hl gj aj
    induction ys with
    | nil=>simp
    | cons y ys ih=>
     rw [Kb,Pz,Kt];have:=(hg y Qh).1.le;have:=ih λz hz=>hg z (by simp [hz]);omega
   have l7:ys.length<=7:=Qc
   refine⟨ys,rfl,?_⟩;generalize hst:Txt.join (J4 "") ys=st;have gs:cz 7 st:=by rw [<-hst];exact gj.mono l7
   have ab:dD st:=by rw [<-hst];exact aj
   have e0:(J4 "").length=0:=Qa
   have gl:=gs.le;refine⟨by rw [e0];omega,Qc,_,rfl,Qc,Qc,λat0 a0 a1=>⟨26,rfl,Qb,Qb,λfs f0 f1=>⟨6,rfl,Qb,Qb,λsx s0 s1=>⟨_,rfl,?_⟩⟩⟩⟩;have six:∃sp:Int,atI [J7 1,J7 3,J7 5,J7 7,J7 9,J7 11] sx=some (.int sp)/\(0<=sp/\sp<=11)/\(sp=1\/sp=3\/sp=5\/sp=7\/sp=9\/sp=11):=by
    have:sx=0\/sx=1\/sx=2\/sx=3\/sx=4\/sx=5:=Qc
    rcases this with h | h | h | h | h | h <;> subst h
    ·exact⟨1,rfl,Qb,Qb⟩
    ·exact⟨3,rfl,Qb,Qb⟩
    ·exact⟨5,rfl,Qb,Qb⟩
    ·exact⟨7,rfl,Qb,Qb⟩
    ·exact⟨9,rfl,Qb,Qb⟩
    ·exact⟨11,rfl,Qb,Qb⟩
   obtain⟨sp,hsp,⟨p0,p1⟩,p6⟩:=six;refine⟨_,hsp,8,rfl,Qb,Qb,λv v0 v1=>⟨gQ,?_⟩⟩;rw [mL];split
   ·exact q rG rfl IG Qa
   ·have g1:=gs.slice none (some at0);have g2:=gs.slice (some at0) none;have abr:∀i:Nat,cN ((fs+sp*(0+(i:Int)))% 26) < 0x110000/\atI cV.cps.toList ((fs+sp*(0+(i:Int)))% 26)=some (cN ((fs+sp*(0+(i:Int)))% 26)):=λi=>(EE Qc Qc).symm;refine⟨Qb,λi acc=>acc=((KU i).map λ(k:Nat)=>jc st at0 fs sp k).map .str,rfl,?_,?_⟩
    ·rintro i z acc hz rfl;obtain⟨hi,rfl⟩:=gR hz;walk_at "a";obtain⟨x1,e1⟩:=abr i;have lx:(⟨#[cN ((fs+sp*(0+(i:Int)))% 26)]⟩:Str).length=1:=rfl;have l1:=g1.le;have l2:=g2.le;have ga:=(g1.append (cz.chr x1)).append g2;have gal:=ga.le;refine⟨Qc,.inl ⟨Qc,Qc⟩,Qa,_,e1,by rw [lx];omega,Qc,by rw [vQ,lx];omega,?_⟩;rw [Me,Ku,Ku];rfl
    ·rintro acc rfl;rw [ij];refine q _ Qh (λz hz=>?_) ?_
     ·obtain⟨k,_,rfl⟩:=Kd.mp hz;exact IJ ab gl a0 Qc
     ·rw [MW,La];refine Mn.mpr λa b ha hb lt e=>?_;rw [OY,OY] at e;have hb:b < 8:=by simpa using hb
      have e2:=II e;have e3:=EF Qc Qc Qc Qc e2;rcases p6 with h | h | h | h | h | h <;> subst h <;> omega
def IM:List Qi->(Qi->Prop)->Prop:=λds Q=>∃far:Int,ds=[dG,.int far]/\∀d:Int,0<=d->d < 100000->Q (.int d)
theorem nX{a b:Qi}{i:Int}(h0:0<=i)(h1:i < 2):∃d,atI [a,b] i=some d/\(d=a\/d=b):=by
 have:i=0\/i=1:=Qc
 rcases this with e | e <;> subst e
 ·exact⟨_,cM,.inl rfl⟩
 ·exact⟨_,cx,.inr rfl⟩
theorem IP{y m n:Int}(y0:2000<=y)(y1:y<=2269)(m1:1<=m)(m2:m<=12)(n1:1<=n)(n2:n<=bw y m):0<=la y m n/\la y m n < 100000:=by
 have ba:=GL (y:=y) m1 m2;have ld:=xX y;have ys:0<=g5 y/\g5 y<=98300:=by unfold g5 lb;omega
 unfold la;omega
theorem IQ(T:Txt K mg t):aM P w K mg base CX0 3 t.a_j t.d_j ["_law_purse_here","_law_far"] (aT K IM):=by
 have G_e:=@iH P w _ _ base _ T;have G_g:=@AK P w _ _ base _ T;have G_i:=@IF P w _ _ base _ T;refine T.F_j.F.okD z5 (λds Q h=>?_) (λ_ _ _ _ H O ds Q E hr h=>?_)
 ·obtain⟨far,rfl,_⟩:=h;rfl
 ·obtain⟨far,rfl,q⟩:=h;refine'⟨_,?A,?B⟩
  case A=>
   refine' ay ?C ?D
   case C=>
    refine' aW ?E ?F aV
    case E=>exact(aI (bA hr.units) bB (dv 1) ae (aG _))
    case' F=>refine' ao ?G
    case G=>exact(aF (au G_e hr T.F_e (aa (dv 0) (aa ae ag))))
   case' D=>refine' ay ?H ?I
   case H=>
    refine' aW ?J ?K aV
    case J=>exact(aI (bA hr.units) bB (au G_e hr T.F_e (aa (dv 0) (aa ae ag))) ae (aG _))
    case' K=>refine' ao ?L
    case L=>exact(aF (au G_e hr T.F_e (aa (dv 0) (aa ae ag))))
   case' I=>refine' ay ?M ?N
   case M=>exact(uO (i:=2) (j:=3) rfl z5.nd rfl rfl Qb rfl rfl (aa (aR cf bO ae (au G_e hr T.F_e (aa (dv 0) (aa ae ag)))) (aa (aR cf bO ae (au G_e hr T.F_e (aa (dv 0) (aa ae ag)))) ag)) (by rfl))
   case' N=>refine' ao ?O
   case' O=>refine' aF ?P
   case P=>exact(au G_i hr T.F_i (aa (dv 2) (aa (dv 3) (aa (ak bC bU (fe (cK (aa ae (aa (aR fG bO (au G_g hr T.F_g (aa (dv 2) (aa (dv 3) ag))) (au G_e hr T.F_e (aa (dv 0) (aa ae ag)))) ag)))) (au G_e hr T.F_e (aa (dv 0) (aa ae ag)))) ag))))
  case B=>
  clear hr T G_e G_g G_i;walk_at "a";split
  ·exact⟨41,rfl,Qb,Qb,λd d0 d1=>q d d0 Qc⟩
  ·refine⟨2,rfl,Qb,Qb,λv v0 v1=>⟨gQ,?_⟩⟩;rw [mL];split
   ·exact⟨100000,rfl,Qb,Qb,λd d0 d1=>q d d0 d1⟩
   ·refine⟨270,rfl,Qb,Qb,λy y0 y1=>⟨_,rfl,12,rfl,Qb,Qb,λm m0 m1=>⟨_,rfl,?_⟩⟩⟩;refine⟨2000+y,1+m,rfl,Qc,Qc,4,rfl,Qb,Qb,λz z0 z1=>⟨_,rfl,_,rfl,2,rfl,Qb,Qb,λe e0 e1=>⟨_,rfl,?_⟩⟩⟩;have mb:=xZ (y:=2000+y) (m:=1+m) Qc Qc;have nb:∀n,1<=n->n<=bw (2000+y) (1+m)->AL [.int (2000+y),.int (1+m),.int n] Q:=λn n1 n2=>by
     have:=IP (y:=2000+y) (m:=1+m) (n:=n) Qc Qc Qc Qc n1 n2;exact⟨_,_,_,rfl,Qc,Qc,q _ this.1 this.2⟩
    obtain⟨d,hd,hd'⟩:=nX (a:=J7 1) (b:=J7 (bw (2000+y) (1+m) - z)) e0 e1;refine⟨d,hd,?_⟩;rcases hd' with h | h <;> rw [h]
    ·exact nb 1 Qc Qc
    ·exact nb _ Qc Qc
structure rH (ns ks:List Str) (far:Int):Prop where
 nl:ns.length=8
 no:c9 ns
 nn:ns.Nodup
 k0:2<=ks.length
 k1:ks.length<=3
 ko:c9 ks
 f0:0<=far
 f1:far<=1
def rJ:Str:=J4 "keep"
def IS:List Qi->(Qi->Prop)->Prop:=λds Q=>∃(ns ks:List Str)(far:Int),ds=[dG,.str rJ,.list (ns.map .str),.list (ks.map .str),.int far]/\rH ns ks far/\∀d,gZ d->Q d
theorem eV{ss:List Str}{i:Int}(h0:0<=i)(h1:i < ss.length):∃s∈ss,atI (ss.map J5) i=some (.str s):=by
 obtain⟨k,rfl⟩:=LC h0;have hk:k < ss.length:=Qc
 exact⟨ss[k],K9 hk,di (by simp [hk])⟩
theorem IT(T:Txt K mg t):aM P w K mg base CX0 2 t.a_k t.d_k ["_law_purse_here","_law_word","_law_names_here","_law_kinds","_law_far"] (aT K IS):=by
 have G_e:=@iH P w _ _ base _ T;refine T.F_k.F.okD nQ (λds Q h=>?_) (λ_ _ _ _ H O ds Q E hr h=>?_)
 ·obtain⟨ns,ks,far,rfl,_⟩:=h;rfl
 ·obtain⟨ns,ks,far,rfl,dr,q⟩:=h;refine'⟨_,?A,?B⟩
  case A=>
   refine' ay ?C ?D
   case C=>
    refine' bE (i:=5) nQ.nd rfl Qg ?E (hs:=iA)
    case' E=>refine' cY bC bU (df (dv 3)) ?F
    case F=>exact(df (au G_e hr T.F_e (aa (dv 0) (aa (PE.imp (aS bH rfl T.n_len Ko (aJ (dv 3) aK)) (aP bP)) ag))))
   case' D=>refine' ay ?G ?H
   case G=>
    refine' aW ?I ?J aV
    case I=>exact(aI (EN hr) jH (dv 1) (bj (aa aL (aa aL ag))) rfl)
    case' J=>refine' ao ?K
    case K=>exact(aF (bj (aa (dv 1) (aa (dv 5) ag))))
   case' H=>refine' ay ?L ?M
   case L=>
    generalize hG10:Ow _ _ _=eg10;refine' bE (i:=6) nQ.nd rfl Qg ?N (hs:=by subst hG10;exact iA)
    case' N=>subst hG10
    refine' cY bC bU (df ?O) ?P
    case O=>
     refine' fe ?Q
     case' Q=>refine' cK ?R
     case' R=>refine' aa ?S ?T
     case S=>exact(bj (aa aL ag))
     case' T=>refine' aa ?U ?V
     case U=>exact(bj (aa aL (aa (ak bC bU (dv 2) ae) ag)))
     case' V=>refine' aa ?W ag
     case' W=>refine' bj ?X
     case' X=>refine' aa aL ?Y
     case' Y=>refine' aa ?Z ag
     case' Z=>refine' cY bC bU (df (dv 2)) ?a
     case a=>exact(df (aR cf bO ae (au G_e hr T.F_e (aa (dv 0) (aa ae ag)))))
    case P=>exact(df (au G_e hr T.F_e (aa (dv 0) (aa ae ag))))
   case' M=>refine' ay ?b ?c
   case b=>
    refine' aW ?d ?e aV
    case d=>exact(aI (bA hr.units) bB (dv 4) ae (aG _))
    case' e=>refine' ao ?f
    case' f=>refine' aF ?g
    case' g=>refine' bj ?h
    case' h=>refine' aa (dv 1) ?i
    case' i=>refine' aa (dv 5) ?j
    case' j=>refine' aa (dv 6) ?k
    case' k=>refine' aa ?l ?m
    case l=>exact(au G_e hr T.F_e (aa (dv 0) (aa ae ag)))
    case m=>refine' aa aL ag
   case' c=>refine' ay ?n ?o
   case n=>
    refine' bE (i:=7) nQ.nd rfl Qg ?p (hs:=iz)
    case p=>exact(au G_e hr T.F_e (aa (dv 0) (aa (ak bC bU (fe (cK (iY (ds:=[.int 1000,.int 14,.int 30]) (by rfl)))) (au G_e hr T.F_e (aa (dv 0) (aa ae ag)))) ag)))
   case' o=>refine' ao ?q
   case' q=>refine' aF ?r
   case' r=>refine' bj ?s
   case' s=>refine' aa (dv 1) ?t
   case' t=>refine' aa (dv 5) ?u
   case' u=>refine' aa (dv 6) ?v
   case' v=>refine' aa (dv 7) ?w
   case' w=>refine' aa ?x ag
   case' x=>refine' cY bC bU (df ?y) ?z
   case y=>exact(fe (cK (iY (ds:=[.str "days",.str "months",.str "years"]) (by rfl))))
   case z=>exact(df (au G_e hr T.F_e (aa (dv 0) (aa ae ag))))
  case B=>
  clear hr T G_e;walk_at "a";refine⟨_,rfl,by rw [J1];have:=dr.k0;omega,by rw [J1];have:=dr.k1;omega,λi i0 i1=>⟨_,rfl,?_⟩⟩;rw [J1] at i1;obtain⟨kd,hk,ek⟩:=eV i0 i1;have kok:=dr.ko kd hk;refine⟨_,ek,cj.mpr (show KJ rJ=true by decide+kernel),Qa,?_⟩;rw [Qe Qa];have nl:=dr.nl;obtain⟨n6,h6,e6⟩:=eV (ss:=ns) (i:=6) Qb Qc;refine⟨_,e6,2,rfl,Qb,Qb,λj j0 j1=>⟨_,rfl,?_⟩⟩;obtain⟨n7,h7,e7⟩:=eV (ss:=ns) (i:=6+j) Qc Qc;refine⟨_,e7,3,rfl,Qb,Qb,λv v0 v1=>⟨_,rfl,?_⟩⟩;have sn:∃s:Qi,gz s/\atI [Kl [J5 (J4 "coming")],Kl [J5 (J4 "first"),.str n6],Kl [J5 (J4 "last"),.str n7]] v=some s:=by
   have:v=0\/v=1\/v=2:=Qc
   rcases this with e | e | e <;> subst e
   ·exact⟨_,.coming,rfl⟩
   ·exact⟨_,.first (dr.no n6 h6),rfl⟩
   ·exact⟨_,.last (dr.no n7 h7),rfl⟩
  obtain⟨sn,so,es⟩:=sn;refine⟨_,es,?_⟩;have fin:∀(k:Int)(u:Str),0<=k->k < 1000->u∈units->Q (Kl [J5 rJ,.str kd,sn,.int k,.str u]):=λk u k0 k1 hu=>q _ (.kg KA kok so k0 Qc hu);split
  ·exact⟨21,rfl,Qb,Qb,λk k0 k1=>fin k _ k0 Qc KA⟩
  ·refine⟨3,rfl,Qb,Qb,λa a0 a1=>⟨_,rfl,?_⟩⟩;have mx:∃z:Int,0 < z/\z<=1000/\atI [J7 1000,J7 14,J7 30] a=some (.int z):=by
    have:a=0\/a=1\/a=2:=Qc
    rcases this with e | e | e <;> subst e
    ·exact⟨1000,Qb,Qb,rfl⟩
    ·exact⟨14,Qb,Qb,rfl⟩
    ·exact⟨30,Qb,Qb,rfl⟩
   obtain⟨z,z0,z1,ez⟩:=mx;refine⟨_,ez,z,rfl,z0,Qc,λk k0 k1=>⟨3,rfl,Qb,Qb,λb b0 b1=>⟨_,rfl,?_⟩⟩⟩;have:b=0\/b=1\/b=2:=Qc
   rcases this with e | e | e <;> subst e
   ·exact⟨_,cM,fin k _ k0 Qc KA⟩
   ·exact⟨_,cx,fin k _ k0 Qc (Kz _ KA)⟩
   ·exact⟨_,ig,fin k _ k0 Qc (Kz _ (Kz _ KA))⟩
end
theorem AM:br (aE nI) ["_law_purse_here","_law_word","_law_names_here","_law_kinds","_law_far","_law_day_here","_law_name","_law_some","_law_kind","_law_target"] ["_law_one","_law_purse_here"] 1 [0] ⟨Ki,[ (J3 ".0",RA),(J3 "_law_one",RA),(J3 "_law_take",KD),(J3 "_law_purse_here",Kq)],false,false,[]⟩:= .of
section
variable {P:Qu} {w:Qw} {K:J0} {mg:Str->Option Qj} {base:Qy} {t:cu}
theorem IU{a b:Str}(h:cO a b=true)(n:a≠b):gY a b:=by
 unfold cO at h;unfold gY;have h:=of_decide_eq_true h;rcases List.le_iff_lt_or_eq.mp h with z | z
 ·exact z
 ·exact absurd (by cases a;cases b;simp at z;rw [z]) n
theorem IV{ss:List Str}(h4:ss.length<=4)(hn:∀z∈ss,Nm z)(nd:ss.Nodup):kQ (cG ss):=by
 refine⟨by rw [(eD ss).length_eq];exact h4,λm hm=>hn m ((eD ss).mem_iff.mp hm),?_⟩;have n2:(cG ss).Nodup:=(eD ss).nodup_iff.mpr nd;exact((pX ss).and n2).imp λh=>IU h.1 h.2
def lG:List Str:=["paper","happens","hold","keep","lift"]
structure fZ (x:De):Prop where
 dv:c5 x.enc
 np:∀w d nm r,x= .oth w d nm r->w≠J4 "paper"
def IW:List Qi->(Qi->Prop)->Prop:=λds Q=>∃(wo:Str)(ns ks:List Str)(far:Int),ds=[dG,.str wo,.list (ns.map .str),.list (ks.map .str),.int far]/\wo∈lG/\rH ns ks far/\∀x:De,fZ x->(wo=J4 "paper"->∃p,x= .pap p)->Q x.enc
theorem IX(T:Txt K mg t):aM P w K mg base CX0 4 t.a_l t.d_l ["_law_purse_here","_law_word","_law_names_here","_law_kinds","_law_far"] (aT K IW):=by
 have G_e:=@iH P w _ _ base _ T;have G_j:=@IQ P w _ _ base _ T;have G_k:=@IT P w _ _ base _ T;refine T.F_l.F.okD jS (λds Q h=>?_) (λ_ _ _ _ H O ds Q E hr h=>?_)
 ·obtain⟨wo,ns,ks,far,rfl,_⟩:=h;rfl
 ·obtain⟨wo,ns,ks,far,rfl,hw,dr,q⟩:=h;refine'⟨_,?A,?B⟩
  case A=>
   refine' ay ?C ?D
   case C=>exact(bE (i:=5) jS.nd rfl Qg (au G_j hr T.F_j (aa (dv 0) (aa (dv 4) ag))))
   case' D=>refine' ay ?E ?F
   case E=>exact(bE (i:=6) jS.nd rfl Qg (ak bC bU (dv 2) (au G_e hr T.F_e (aa (dv 0) (aa ae ag)))))
   case' F=>refine' ay ?G ?H
   case G=>
    refine' aW ?I ?J aV
    case I=>exact(aI (cH hr) cI (dv 1) aL (aG _))
    case' J=>refine' ay ?K ?L
    case K=>exact(mO (i:=7) jS.nd rfl Qg (pR rfl AM (df (fe (iU (df (dv 2)) dX (cw ae)))) bb cg Qb (λ_ _ _ _=>(aY (i:=0) AM.nd rfl Qg)) (λ_ _ _ _=>(gM (aI (bA hr.units) bB (au G_e hr T.F_e (aa (dv 1) (aa ae ag))) ae (aG _)))) (λ_ _ _ _=>(dv 0))))
    case' L=>refine' ao ?M
    case' M=>refine' aF ?N
    case' N=>refine' bj ?O
    case' O=>refine' aa (dv 1) ?P
    case' P=>refine' aa (dv 5) ?Q
    case' Q=>refine' aa (dv 6) ?R
    case' R=>refine' aa ?S ?T
    case S=>
     refine' cY bC bU (df (dv 3)) ?U
     case U=>exact(df (au G_e hr T.F_e (aa (dv 0) (aa (PE.imp (aS bH rfl T.n_len Ko (aJ (dv 3) aK)) (aP bP)) ag))))
    case' T=>refine' aa ?V ag
    case V=>exact(PE.imp (fJ jq rfl T.n_tuple eN (aJ (fe (EY rfl T.n_sorted LH (aJ (fe (iU (df (dv 7)) dX (cw ae))) aK))) aK)) (aP jE))
   case' H=>refine' ay ?W ?X
   case W=>
    refine' aW ?Y ?Z aV
    case Y=>exact(aI (cH hr) cI (dv 1) aL (aG _))
    case' Z=>refine' ao ?a
    case' a=>refine' aF ?b
    case' b=>refine' bj ?c
    case' c=>refine' aa (dv 1) ?d
    case' d=>refine' aa (dv 5) ?e
    case' e=>refine' aa (dv 6) ?f
    case' f=>refine' aa ?g ag
    case' g=>refine' cY bC bU (df (dv 2)) ?h
    case h=>exact(df (aR cf bO ae (au G_e hr T.F_e (aa (dv 0) (aa ae ag)))))
   case' X=>refine' ay ?i ?j
   case i=>
    refine' aW ?k ?l aV
    case k=>exact(aI (fR hr) fS (dv 1) (bj (aa aL (aa aL ag))) rfl)
    case' l=>refine' ao ?m
    case m=>exact(aF (bj (aa (dv 1) (aa (dv 5) (aa (dv 6) ag)))))
   case' j=>refine' ay ?n ?o
   case n=>
    refine' bE (i:=8) jS.nd rfl Qg ?p (hs:=iA)
    case' p=>refine' cY bC bU (df (dv 3)) ?q
    case q=>exact(df (au G_e hr T.F_e (aa (dv 0) (aa (PE.imp (aS bH rfl T.n_len Ko (aJ (dv 3) aK)) (aP bP)) ag))))
   case' o=>refine' ay ?r ?s
   case r=>
    refine' aW ?t ?u aV
    case t=>exact(aI (cH hr) cI (dv 1) aL (aG _))
    case' u=>refine' ay ?v ?w
    case v=>
     refine' bE (i:=9) jS.nd rfl Qg ?x (hs:=iA)
     case' x=>refine' cY bC bU (df ?y) ?z
     case y=>
      refine' fe ?A0
      case' A0=>refine' cK ?A1
      case' A1=>refine' aa ?A2 ?A3
      case A2=>
       refine' bj ?A4
       case' A4=>refine' aa aL ?A5
       case' A5=>refine' aa ?A6 ag
       case A6=>exact(ak bC bU (dv 2) (au G_e hr T.F_e (aa (dv 0) (aa ae ag))))
      case' A3=>refine' aa ?A7 ag
      case A7=>exact(bj (aa aL (aa (dv 8) ag)))
     case z=>exact(df (au G_e hr T.F_e (aa (dv 0) (aa ae ag))))
    case' w=>refine' ao ?A8
    case' A8=>refine' aF ?A9
    case' A9=>refine' bj ?AA
    case' AA=>refine' aa (dv 1) ?AB
    case' AB=>refine' aa (dv 5) ?AC
    case' AC=>refine' aa (dv 6) ?AD
    case' AD=>refine' aa (dv 9) ?AE
    case' AE=>refine' aa ?AF ag
    case AF=>exact(bV (bA hr.units) bB (df (au G_e hr T.F_e (aa (dv 0) (aa ae ag)))) (df ae) (aG _))
   case' s=>refine' ay ?AG ?AH
   case AG=>
    refine' aW ?AI ?AJ aV
    case AI=>exact(aI (cH hr) cI (dv 1) aL (aG _))
    case' AJ=>refine' ao ?AK
    case AK=>exact(aF (bj (aa aL (aa (dv 5) (aa (dv 6) (aa (dv 8) ag))))))
   case' AH=>refine' ao ?AL
   case' AL=>refine' aF ?AM
   case' AM=>refine' bj ?AN
   case' AN=>refine' aa aL ?AO
   case' AO=>refine' aa (dv 5) ?AP
   case' AP=>refine' aa (dv 6) ?AQ
   case' AQ=>refine' aa ?AR ag
   case AR=>exact(au G_k hr T.F_k (aa (dv 0) (aa (dv 1) (aa (dv 2) (aa (dv 3) (aa (dv 4) ag))))))
  case B=>
  clear hr T G_e G_j G_k;walk_at "a";refine⟨far,rfl,λd d0 d1=>⟨6,rfl,Qb,Qb,λi i0 i1=>⟨_,rfl,?_⟩⟩⟩;have nl:=dr.nl;have k0:=dr.k0;have k1:=dr.k1;obtain⟨nm,hn,en⟩:=eV (ss:=ns) i0 Qc;have nok:=dr.no nm hn;have dn:iy d:=⟨d0,Qc⟩;refine⟨_,en,?_⟩;have kinds:∀R:Qi->Prop,(∀kd∈ks,R (.str kd))->pI [dG,J7 ((Kv J5 ks).length:Int)] λy=>∃x,y=J7 x/\∃x_2,atI (Kv J5 ks) x=some x_2/\R x_2:=λR hR=>by
   refine⟨_,rfl,by rw [J1];omega,by rw [J1];omega,λi i0 i1=>⟨_,rfl,?_⟩⟩;rw [J1] at i1;obtain⟨kd,hk,ek⟩:=eV i0 i1;exact⟨_,ek,hR kd hk⟩
  by_cases hp:wo=J4 "paper"
  ·rw [Qf (by rw [hp];exact beq_self_eq_true _)];have ec:bI (Kv J5 ns) none (some 6)=(ns.take 6).map J5:=by
    rw [kG Qb (by simp;omega),<-M9];rfl
   rw [ec];refine⟨by rw [J1,KW];omega,λi acc=>∃ss:List Str,acc=ss.map .str/\ss.Sublist ((ns.take 6).take i),⟨[],rfl,List.nil_sublist _⟩,?_,?_⟩
   ·rintro i z acc hz ⟨ss,rfl,hs⟩;rw [Kj] at hz;cases hz':(ns.take 6)[i]? with
    | none=>rw [hz'] at hz;cases hz
    | some x=>
     rw [hz'] at hz;cases hz;walk_at "a";refine⟨3,rfl,Qb,Qb,λv v0 v1=>⟨gQ,?_⟩⟩;rw [mL];split
     ·refine⟨ss++[x],by rw [Ku];rfl,?_⟩;rw [Le,hz'];exact hs.append (.refl _)
     ·refine⟨ss,rfl,?_⟩;rw [Le];exact hs.trans (List.sublist_append_left _ _)
   ·rintro acc ⟨ss,rfl,hs⟩;have hs:ss.Sublist (ns.take 6):=hs.trans (Mk _ _);have hm:∀z∈ss,Nm z:=λz hz=>dr.no z (Lx (hs.subset hz));have snd:ss.Nodup:=(dr.nn.sublist (Mk _ _)).sublist hs;refine kinds (λx_2=>∃ss_1,bI (Kv J5 ss) none (some 4)=Kv J5 ss_1/\ss_1.length < 64/\Q (Kl [J5 wo,.int d,.str nm,x_2,Kl (Kv J5 (cG ss_1))])) λkd hk=>?_;have cc:bI (Kv J5 ss) none (some 4)=(ss.take 4).map J5:=by
     by_cases h4:4<=ss.length
     ·rw [kG Qb (by simp;omega),<-M9];rfl
     ·match ss,h4 with
      | [],_=>rfl
      | [a],_=>rfl
      | [a,b],_=>rfl
      | [a,b,c],_=>rfl
      | a::b::c::e::l,h4=>exact absurd h4 Qh
    refine⟨ss.take 4,cc,by rw [KW];omega,?_⟩;rw [hp];exact q (.pap ⟨d,nm,kd,cG (ss.take 4)⟩) ⟨.paper dn nok (dr.ko kd hk) (IV (by rw [KW];omega) (λz hz=>hm z (Lx hz)) (snd.sublist (Mk _ _))),λ_ _ _ _ e=>by cases e⟩ λ_=>⟨_,rfl⟩
  ·rw [dQ hp,Qe K5];have q2:∀(w:Str)(r:List Qi),w≠J4 "paper"->c5 (.tuple (.str w:: .int d:: .str nm::r))->Q (.tuple (.str w:: .int d:: .str nm::r)):=λw r wp dv=>
    q (.oth w d nm r) ⟨dv,λw' d' nm' r' e=>by cases e;exact wp⟩ (λe=>absurd e hp)
   simp only [lG,Kh,Lk,or_false] at hw;rcases hw with e | e | e | e | e
   ·exact absurd e hp
   ·subst e;rw [Qf (beq_self_eq_true _)];refine⟨2,rfl,Qb,Qb,λj j0 j1=>⟨_,rfl,?_⟩⟩;obtain⟨n7,h7,e7⟩:=eV (ss:=ns) (i:=6+j) Qc Qc;exact⟨_,e7,q2 _ [.str n7] hp (.two KA dn nok (dr.no n7 h7))⟩
   ·subst e;rw [Qe Qa,Qe Qa];refine kinds _ λkd hk=>?_;rw [Qf (beq_self_eq_true _)];refine⟨6,rfl,Qb,Qb,λj j0 j1=>⟨_,rfl,?_⟩⟩;obtain⟨n3,h3,e3⟩:=eV (ss:=ns) j0 Qc;refine⟨_,e3,2,rfl,Qb,Qb,λv v0 v1=>⟨_,rfl,?_⟩⟩;obtain⟨tg,et,ht⟩:=nX (a:=Kl [J5 (J4 "paper"),.str n3]) (b:=Kl [J5 (J4 "kind"),.str kd]) v0 v1;refine⟨_,et,2,rfl,Qb,Qb,λb b0 b1=>⟨gQ,?_⟩⟩;rcases ht with e | e <;> subst e
    ·exact q2 _ [_,.bool _] hp (.hold dn nok KA (dr.no n3 h3))
    ·exact q2 _ [_,.bool _] hp (.hold dn nok (Kz _ KA) (dr.ko kd hk))
   ·subst e;rw [Qe Qa,Qe Qa];refine kinds _ λkd hk=>?_;rw [Qe Qa,Qe Qa];exact⟨ns,ks,far,rfl,dr,λpt po=>q2 (J4 "rule") [pt] Qa (.rule dn nok po)⟩
   ·subst e;rw [Qe Qa,Qf Qa];exact q2 (J4 "lift") [] hp (.one (Kz _ KA) dn nok)
def jY:List (ah×Qi):=[(.inr (J4 "rule"),.int 1),(.inr (J4 "end"),.int 1),(.inr (J4 "hold"),.int 2),(.inr (J4 "lift"),.int 2)]
theorem IY:MF (λa p=>dN a p.fst p.snd) [] jY=jY:=by
 rfl
def rK(w:Str):Option Qi:=if bt w "rule" "end"=true then some (.int 1) else if bt w "hold" "lift"=true then some (.int 2) else none
theorem AN(w:Str):cP jY (.inr w)=rK w:=by
 by_cases h1:w=J4 "rule"
 ·subst h1;rfl
 by_cases h2:w=J4 "end"
 ·subst h2;rfl
 by_cases h3:w=J4 "hold"
 ·subst h3;rfl
 by_cases h4:w=J4 "lift"
 ·subst h4;rfl
 unfold rK bt;rw [dQ h1,dQ h2,dQ h3,dQ h4];unfold cP jY;have n:∀a:Str,w≠a->decide ((Lg a:ah)=Lg w)=false:=λa h=>decide_eq_false λe=>h (Oe e).symm;simp only [LB,n _ h1,n _ h2,n _ h3,n _ h4,List.find?_nil];rfl
theorem AO{w:Str}(h:bt w "rule" "end"=true):bt w "hold" "lift"=false:=by
 simp only [bt,MN,beq_iff_eq] at h;rcases h with e | e <;> subst e <;> decide+kernel
theorem AQ{a b c:Str}(h:¬(a==b)=true):(a==c && b==c)=false:=by
 rw [NO];intro z;rw [Ks] at z;exact h (beq_iff_eq.mpr ((beq_iff_eq.mp z.1).trans (beq_iff_eq.mp z.2).symm))
theorem IZ{a b:Str}(h:¬(J4 "paper"==a || J4 "leave"==a)=true):(a==("paper":Str) && b==("paper":Str))=false/\(a==("leave":Str) && b==("leave":Str))=false:=by
 rw [MN,not_or] at h;constructor <;> rw [NO] <;> intro z <;> rw [Ks] at z
 ·exact h.1 (by rw [MB];exact z.1)
 ·exact h.2 (by rw [MB];exact z.1)
theorem rL{wx wy nx ny:Str}{dx dy:Int}{Q:Qi->Prop}(snx:bL (.str nx))(sny:bL (.str ny))(q:Q (.bool (nx==ny && (dx==dy && ((bt wx "rule" "end" && bt wy "rule" "end") || (bt wx "hold" "lift" && bt wy "hold" "lift")))))):
 ∃kd:List (ah×Qi),[(J5 (J4 "rule"),J7 1),(J5 (J4 "end"),J7 1),(J5 (J4 "hold"),J7 2),(J5 (J4 "lift"),J7 2)]=Kv (λp=>(fU p.fst,p.snd)) kd/\
  kd.length<=15/\(∀(p:ah×Qi),p∈kd->(match p.snd with | MI=>true | Lm b=>true | J7 i=>true | J5 s=>true | x=>false)=true)/\
  if (cP (MF (λa p=>dN a p.fst p.snd) [] kd) (Lg wx)).isSome=false then Q (Lm false)
  else ∃x_1,cP (MF (λa p=>dN a p.fst p.snd) [] kd) (Lg wx)=some x_1/\Kf x_1=true/\Kf ((cP (MF (λa p=>dN a p.fst p.snd) [] kd) (Lg wy)).getD MI)=true/\
   if x_1.eqv ((cP (MF (λa p=>dN a p.fst p.snd) [] kd) (Lg wy)).getD MI)=false then Q (Lm false)
   else Kf (Kl [J7 dx,J5 nx])=true/\Kf (Kl [J7 dy,J5 ny])=true/\Q (Lm ((Kl [J7 dx,J5 nx]).eqv (Kl [J7 dy,J5 ny]))):=by
 refine⟨jY,rfl,Qb,?_,?_⟩
 ·intro p hp;simp only [jY,Kh,Lk,or_false] at hp;rcases hp with e | e | e | e <;> rw [e]
 ·rw [IY,AN,AN];have two:∀(d:Int)(n:Str),bL (.str n)->Kf (Kl [J7 d,J5 n])=true:=λd n hn=>(dY (n:=1) (bF i5 (bF (ck (cj.mp hn)) ft))).shp Qb;have ev:(Kl [J7 dx,J5 nx]).eqv (Kl [J7 dy,J5 ny])=(dx==dy && nx==ny):=by simp [J6,Lz]
  rw [ev];have hx:=AO (w:=wx);have hy:=AO (w:=wy);unfold rK;generalize bt wx "rule" "end"=R,bt wx "hold" "lift"=D at*;generalize bt wy "rule" "end"=R',bt wy "hold" "lift"=D' at*;generalize (dx==dy)=U,(nx==ny)=V at*;have s1:=two dx nx snx;have s2:=two dy ny sny;have i1:Kf (J7 1)=true:=gQ;have i2:Kf (J7 2)=true:=gQ;have i3:Kf MI=true:=vD;have e1:(J7 1).eqv (J7 2)=false:=rfl;have e2:(J7 2).eqv (J7 1)=false:=rfl;have e3:(J7 1).eqv (J7 1)=true:=rfl;have e4:(J7 2).eqv (J7 2)=true:=rfl;have e5:(J7 1).eqv .none=false:=rfl;have e6:(J7 2).eqv .none=false:=rfl;cases R <;> cases D <;> cases R' <;> cases D' <;> simp_all
  all_goals (cases U <;> cases V <;> simp_all)
def AR:List Qi->(Qi->Prop)->Prop:=λds Q=>∃x y:De,ds=[x.enc,y.enc]/\fZ x/\fZ y/\Q (.bool (cQ x.enc y.enc))
theorem I0(T:Txt K mg t):aM P w K mg base CX0 1 t.a_m t.d_m ["_law_one","_law_other"] (aT K AR):=by
 refine T.F_m.F.okD z7 (λds Q h=>?_) (λ_ _ _ _ H O ds Q E hr h=>?_)
 ·obtain⟨x,y,rfl,_⟩:=h;rfl
 ·obtain⟨x,y,rfl,gx,gy,q⟩:=h;refine'⟨_,?A,?B⟩
  case A=>
   refine' ay ?C ?D
   case C=>
    refine' aW ?E ?F aV
    case E=>exact(PW.pt (dH (aI (bA hr.units) bB (dv 0) (dv 1) (aG _)) (eh (PW.pt (dj (aI (bA hr.units) bB (ak av ax (dv 0) ae) (ak av ax (dv 1) ae) (aG _)) (dj (aI (fR hr) fS (ak av ax (dv 0) ae) (bj (aa aL (aa aL ag))) rfl) (dU (aI (bA hr.units) bB (ak av ax (dv 0) ae) (ak av ax (dv 1) ae) (aG _)))))))))
    case F=>refine' ao (aF bT)
   case' D=>refine' ay ?G ?H
   case G=>
    generalize hD6:Expr.Dict _ _ _=ed6;refine' kT (i:=2) z7.nd rfl Qg ?I (hs:=by subst hD6;first | rfl | exact FF)
    case' I=>subst hD6
    refine' Gj ?p6_0
    case p6_0=>
     refine' mZ aL ae ?p6_1
     case p6_1=>
      refine' mZ aL ae ?p6_2
      case p6_2=>
       refine' mZ aL ae ?p6_3
       case p6_3=>
        refine' mZ aL ae ?p6_4
        case p6_4=>exact Gi
   case' H=>refine' ay ?J ?K
   case J=>
    refine' aW ?L ?M aV
    case L=>exact(PW.pt (dH (xk (i:=2) hr.units (pv 2) (ak av ax (dv 0) ae)) (eh (aI (jC hr.units) jD (kU (i:=2) hr.units (pv 2) (ak av ax (dv 0) ae) (λ_ _=>rfl)) (xc (i:=2) hr.units (pv 2) (ak av ax (dv 1) ae) ⟨rfl,rfl,rfl,rfl⟩) (aG _)))))
    case M=>refine' ao (aF bT)
   case' K=>refine' ao ?N
   case' N=>refine' aF ?O
   case O=>exact(bV (bA hr.units) bB (df (gU (df (dv 0)) (cw ae) (cw ae))) (df (gU (df (dv 1)) (cw ae) (cw ae))) (aG _))
  case B=>
  clear hr T;have sx:=gx.dv.shp;have sy:=gy.dv.shp;have ex:∃rx,x.enc= .tuple (.str x.w:: .int x.d:: .str x.nm::rx):=by cases x <;> exact⟨_,rfl⟩
  have ey:∃ry,y.enc= .tuple (.str y.w:: .int y.d:: .str y.nm::ry):=by cases y <;> exact⟨_,rfl⟩
  obtain⟨rx,ex⟩:=ex;obtain⟨ry,ey⟩:=ey;rw [ex] at sx q⊢;rw [ey] at sy q⊢;clear ex ey gx gy;generalize x.w=wx,x.d=dx,x.nm=nx at*;generalize y.w=wy,y.d=dy,y.nm=ny at*;have swx:bL (.str wx):=gu sx _ Qh;have swy:bL (.str wy):=gu sy _ Qh;have snx:bL (.str nx):=gu sx _ Qh;have sny:bL (.str ny):=gu sy _ Qh;walk_at "a";refine⟨sx,sy,?_⟩;have fin:∀{b:Bool},b=cQ (.tuple (.str wx:: .int dx:: .str nx::rx)) (.tuple (.str wy:: .int dy:: .str ny::ry))->Q (.bool b):=λe=>by rw [e];exact q
  have qd:cQ (.tuple (.str wx:: .int dx:: .str nx::rx)) (.tuple (.str wy:: .int dy:: .str ny::ry))=(J6 (.tuple (.str wx:: .int dx:: .str nx::rx)) (.tuple (.str wy:: .int dy:: .str ny::ry)) || (nx==ny && ((wx==("paper":Str) && wy==("paper":Str)) || (wx==("leave":Str) && wy==("leave":Str)) || (dx==dy && ((bt wx "rule" "end" && bt wy "rule" "end") || (bt wx "hold" "lift" && bt wy "hold" "lift")))))):=rfl;rw [qd] at fin;clear qd q;split
  ·rename_i h0;exact fin (by rw [h0];rfl)
  ·rename_i h0;have h0:(Kl (J5 wx::J7 dx::J5 nx::rx)).eqv (Kl (J5 wy::J7 dy::J5 ny::ry))=false:=by simpa using h0
   rw [h0,L1] at fin;refine⟨swx,swy,?_⟩;split
   ·rename_i hw;split
    ·rename_i hp;refine⟨snx,sny,?_⟩;split
     ·rename_i hn;refine fin ?_;rw [hn,Lb];have e:=beq_iff_eq.mp hw;subst e;rw [MN] at hp;rcases hp with z | z
      ·have z:=beq_iff_eq.mp z;subst z;rfl
      ·have z:=beq_iff_eq.mp z;subst z;rw [show((J4 "leave")==("leave":Str))=true from beq_self_eq_true _];simp
     ·rename_i hn;have hn:(nx==ny)=false:=by simpa using hn
      exact rL snx sny (fin (by rw [hn,MT,MT]))
    ·rename_i hp;have z:=IZ (b:=wy) hp;exact rL snx sny (fin (by rw [z.1,z.2,L1,L1]))
   ·rename_i hw;exact rL snx sny (fin (by rw [AQ hw,AQ hw,L1,L1]))
end
theorem AS:br (aE nJ) ["_law_script","_law_menu","_law_most","_law_head","_law_far","_law_chain","_law_names_here","_law_kinds","_law_words","_law_turn","_law_deeds_here","_law_k","_law_deed_here","_law_day_here"] ["_law_one","_law_deed_here"] 1 [12] ⟨Ki,[ (J3 ".0",RA),(J3 "_law_one",RA),(J3 "_law_quarrels",KD),(J3 "_law_deed_here",Kq)],false,false,[]⟩:= .of
section
variable {P:Qu} {w:Qw} {K:J0} {mg:Str->Option Qj} {base:Qy} {t:cu}
theorem rM{ns:List Str}(l u:Option Int):∃ms:List Str,bI (Kv J5 ns) l u=ms.map J5/\(∀m∈ms,m∈ns)/\ms.length<=ns.length/\ms.Sublist ns:=by
 unfold bI;rw [<-PB,<-M9];exact⟨_,rfl,λm hm=>Mo (Lx hm),by rw [KW,LF];omega,(Mk _ _).trans (List.drop_sublist _ _)⟩
theorem De.encE(x:De):∃r,x.enc= .tuple (.str x.w:: .int x.d:: .str x.nm::r):=by cases x <;> exact⟨_,rfl⟩
theorem AU(x y:De):cQ x.enc y.enc=cQ y.enc x.enc:=by
 obtain⟨rx,ex⟩:=x.encE;obtain⟨ry,ey⟩:=y.encE;rw [ex,ey];show(J6 _ _ || (x.nm==y.nm && ((x.w==("paper":Str) && y.w==("paper":Str)) || (x.w==("leave":Str) && y.w==("leave":Str)) || (x.d==y.d && ((bt x.w "rule" "end" && bt y.w "rule" "end") || (bt x.w "hold" "lift" && bt y.w "hold" "lift"))))))=(J6 _ _ || (y.nm==x.nm && ((y.w==("paper":Str) && x.w==("paper":Str)) || (y.w==("leave":Str) && x.w==("leave":Str)) || (y.d==x.d && ((bt y.w "rule" "end" && bt x.w "rule" "end") || (bt y.w "hold" "lift" && bt x.w "hold" "lift"))))));rw [pT,show(x.nm==y.nm)=(y.nm==x.nm) from MB,show(x.d==y.d)=(y.d==x.d) from MB];simp only [PH]
theorem Ja{xs:List Qi}{i:Nat}(h:i<=xs.length):(bI xs (some (if 0+(i:Int) - 1 > 0 then 0+(i:Int) - 1 else 0)) (some (0+(i:Int)))).length<=1:=by
 unfold bI;rw [KW,LF];have e1:HT.sIx xs.length xs.length (some (0+(i:Int)))=i:=by
  rw [fP Qc Qc];omega
 have e2:HT.sIx xs.length 0 (some (if 0+(i:Int) - 1 > 0 then 0+(i:Int) - 1 else 0))=i - 1:=by
  split
  ·rw [fP Qc Qc];omega
  ·rw [fP Qc Qc];omega
 rw [e1,e2];omega
theorem Jb{p:Pp}(h:c5 p.enc):Nm p.kd:=by
 unfold Pp.enc at h;generalize hd:Kl [.str (J4 "paper"),.int p.d,.str p.nm,.str p.kd,.tuple (p.ms.map .str)]=d at h;cases h with
 | paper _ _ hk _=>
  simp only [LQ,Li,LG,Nc] at hd;rw [hd.2.2.2.1];exact hk
 | _=>simp at hd
structure cR (xs:List De):Prop where
 e:∀x∈xs,fZ x
 q:xs.Pairwise λx y=>cQ x.enc y.enc=false
 l:xs.length<=24
def gC:List Str:=["hold","hold","hold","lift","paper","happens","keep"]
theorem Jc{m:Str}(h:m∈gC):m∈lG:=by
 simp only [gC,lG,Kh,Lk,or_false] at h⊢;rcases h with e | e | e | e | e | e | e <;> subst e <;> simp
def Jd:List Qi->(Qi->Prop)->Prop:=λds Q=>∃(cs:List Int),ds=[dS (cs.map .int),.list (gC.map .str),.int 10]/\∀(xs:List De)(ns:List Str)(far:Int),cR xs->xs≠[]->ns.length=8->c9 ns->ns.Nodup->Q (.tuple [.tuple (xs.map De.enc),.list (ns.map .str),.int far])
theorem Je(T:Txt K mg t):aM P w K mg base CX0 5 t.a_n t.d_n ["_law_script","_law_menu","_law_most"] (aT K Jd):=by
 have G_e:=@iH P w _ _ base _ T;have G_d:=@AF P w _ _ base _ T;have G_c:=@AJ P w _ _ base _ T;have G_f:=@IL P w _ _ base _ T;have G_l:=@IX P w _ _ base _ T;have G_m:=@I0 P w _ _ base _ T;refine T.F_n.F.okD fz (λds Q h=>?_) (λ_ _ _ _ H O ds Q E hr h=>?_)
 ·obtain⟨cs,rfl,_⟩:=h;rfl
 ·obtain⟨cs,rfl,q⟩:=h;refine'⟨_,?A,?B⟩
  case A=>
   refine' ay ?C ?D
   case C=>exact(bE (i:=3) fz.nd rfl Qg (au G_d hr T.F_d (aa (au G_c hr T.F_c (aa (dv 0) (aa ae ag))) ag)))
   case' D=>refine' ay ?E ?F
   case E=>exact(uO (i:=4) (j:=5) rfl fz.nd rfl rfl Qb rfl rfl (aa (au G_e hr T.F_e (aa (dv 3) (aa ae ag))) (aa (bV (bA hr.units) bB (df (au G_e hr T.F_e (aa (dv 3) (aa ae ag)))) (df ae) (aG _)) ag)) (by rfl))
   case' F=>refine' ay ?G ?H
   case G=>exact(bE (i:=6) fz.nd rfl Qg (au G_f hr T.F_f (aa (dv 3) (aa ae ag))))
   case' H=>refine' ay ?I ?J
   case I=>
    refine' bE (i:=7) fz.nd rfl Qg ?K (hs:=iA)
    case' K=>refine' fe ?L
    case L=>exact(iU (df (dv 6)) dX (cw (aR cf bO ae (au G_e hr T.F_e (aa (dv 3) (aa ae ag))))))
   case' J=>refine' ay ?M ?N
   case M=>
    refine' uG (i:=8) fz.nd rfl Qg ?O (hs:=kR)
    case O=>exact(GN (cK (aa aL ag)) (aR cf bO ae (au G_e hr T.F_e (aa (dv 3) (aa ae ag)))))
   case' N=>refine' ay ?P ?Q
   case P=>
    refine' mC KS rfl rfl T.n_range (aa (au G_e hr T.F_e (aa (dv 3) (aa (ak bC bU (fe (cK (aa (dv 2) (aa (aR gh cX ae (dv 2)) ag)))) (PE.imp (fJ oM rfl T.n_int mh (aJ (bV (bA hr.units) bB (df (au G_e hr T.F_e (aa (dv 3) (aa ae ag)))) (df ae) (aG _)) aK)) (aP pH))) ag))) ag) ?R bb ?S
    case R=>exact(aY (i:=9) fz.nd rfl Qg)
    case' S=>refine' ao ?T
    case' T=>refine' pB (i:=8) (pv 8) ?U
    case' U=>refine' cY bC bU (df (dv 1)) ?V
    case V=>exact(df (au G_e hr T.F_e (aa (dv 3) (aa (PE.imp (aS bH rfl T.n_len Ko (aJ (dv 1) aK)) (aP bP)) ag))))
   case' Q=>refine' ay ?W ?X
   case W=>exact(uG (i:=10) fz.nd rfl Qg (cK ag))
   case' X=>refine' ay ?Y ?Z
   case Y=>
    refine' mC KS rfl rfl T.n_range (aa (PE.imp (aS bH rfl T.n_len Ko (kD (dw 8) aK)) (aP bP)) ag) ?a bb ?b
    case a=>exact(aY (i:=11) fz.nd rfl Qg)
    case' b=>refine' ay ?c ?d
    case c=>
     refine' bE (i:=12) fz.nd rfl Qg ?e (hs:=iz)
     case e=>exact(au G_l hr T.F_l (aa (au G_d hr T.F_d (aa (au G_c hr T.F_c (aa (dv 0) (aa (aR cf bO ae (dv 11)) ag))) ag)) (aa (cY bC bU (dw 8) (df (dv 11))) (aa (dv 6) (aa (dv 7) (aa (dv 4) ag))))))
    case' d=>refine' ay ?f ?g
    case f=>
     refine' aW ?h ?i aV
     case h=>exact(PW.pt (dj (cD (dv 5)) (dj (aI hV dz (dv 11) ae (aG _)) (dU (aI (cH hr) cI (cY bC bU (dw 8) (df (dv 11))) aL (aG _))))))
     case' i=>refine' ay ?j ?k
     case j=>
      refine' bE (i:=13) fz.nd rfl Qg ?l (hs:=kR)
      case l=>exact(aR cf bO (aR gh cX (ak bC bU (fe (cK (aa ae (aa ae ag)))) (dv 4)) (dv 11)) (aR fH cX (ak av ax (dv 12) ae) ae))
     case' k=>refine' ao ?m
     case' m=>refine' bE (i:=12) fz.nd rfl Qg ?n (hs:=FD)
     case' n=>refine' bj ?o
     case' o=>refine' aa aL ?p
     case' p=>refine' aa (dv 13) ?q
     case' q=>refine' aa ?r ?s
     case r=>exact(ak bC bU (dv 6) (dv 11))
     case' s=>refine' aa ?t ?u
     case t=>exact(ak av ax (dv 12) ae)
     case' u=>refine' aa ?v ag
     case v=>exact(PE.imp (fJ jq rfl T.n_tuple eN (aJ (fe (iU (df (dv 6)) (cw (PE.imp (aS (oK rfl) rfl T.n_max Ng (aJ ae (aJ (aR fG bO (dv 11) ae) aK))) (aP mI))) (cw (dv 11)))) aK)) (aP jE))
    case' g=>refine' ao ?w
    case' w=>refine' aW ?x ?y aV
    case x=>exact(dJ (cD (PE.imp (aS (t8 rfl) rfl T.n_any t9 (aJ (fe (gP rfl AS (dw 10) bb cg Qb (λ_ _ _ _=>(aY (i:=0) AS.nd rfl Qg)) (λ_ _ _ _=>dA) (λ_ _ _ _=>(au G_m hr T.F_m (aa (dv 0) (aa (dv 1) ag)))))) aK)) (aP ie))))
    case' y=>refine' ao ?z
    case z=>exact(GS (i:=10) (pv 10) (au G_e hr T.F_e (aa (dv 3) (aa (aR cf bO (PE.imp (aS bH rfl T.n_len Ko (kD (dw 10) aK)) (aP bP)) ae) ag))) (dv 12))
   case' Z=>refine' ao ?A0
   case A0=>exact(aF (bj (aa (PE.imp (fJ jq rfl T.n_tuple eN (kD (dw 10) aK)) (aP jE)) (aa (dv 6) (aa (dv 4) ag)))))
  case B=>
  clear hr T G_e G_d G_c G_f G_l G_m;walk_at "a";refine⟨cs,0,rfl,Qb,Qb,λc=>⟨c,rfl,2,rfl,Qb,Qb,λfar f0 f1=>⟨8,rfl,Qb,Qb,λch c0 c1=>⟨gQ,rfl,λns nl nok nnd=>⟨2,rfl,Qb,Qb,λkk kk0 kk1=>⟨_,rfl,_,rfl,5,rfl,Qb,Qb,λpc p0 p1=>⟨_,rfl,Qc,Qc,8,rfl,Qb,Qb,λe e0 e1=>⟨gQ,?_⟩⟩⟩⟩⟩⟩⟩⟩;have hz:∃z:Int,atI [J7 10,J7 (2*10)] (if (J7 e).eqv (J7 3)=true then 1 else 0)=some (.int z)/\0 < z/\z<=20:=by
   split
   ·exact⟨_,cx,Qb,Qb⟩
   ·exact⟨_,cM,Qb,Qb⟩
  obtain⟨z2,ez2,z20,z21⟩:=hz;refine⟨_,ez2,z2,rfl,z20,Qc,λj j0 j1=>⟨j,rfl,Qc,Qc,?_⟩⟩;obtain⟨ks,ek,dr⟩:∃ks:List Str,bI (Kv J5 ns) none (some (2+kk))=ks.map J5/\rH ns ks far:=by
   refine⟨ns.take (2+kk).toNat,by rw [kG Qc (by simp;omega),<-M9],nl,nok,nnd,by rw [KW];omega,by rw [KW];omega,λz hz=>nok z (Lx hz),f0,Qc⟩
  rw [ek];have er:(Kp (1+pc).toNat [J5 (J4 "paper")]).flatten=(Kp (1+pc).toNat (J4 "paper")).map J5:=by
   rw [List.flatten_replicate_singleton,List.map_replicate]
  rw [er];generalize (J7 ch).eqv (J7 5)=cb;have n0:1<=(1+pc).toNat:=Qc
  have n1:(1+pc).toNat<=5:=Qc
  generalize (1+pc).toNat=n at n0 n1⊢;refine⟨λi δ=>∃(ms:List Str)(o9:Option Sl),ms.length=i/\(∀m∈ms,m∈gC)/\δ=[some (Sl.v (dS (Kv J7 cs))),some (Sl.v (L9 (Kv J5 gC))),some (Sl.v (J7 10)),some (Sl.v dG),some (Sl.v (.int far)),some (Sl.v (.bool cb)),some (Sl.v (.list (ns.map .str))),some (Sl.v (.list (ks.map .str))),some (Sl.o ((Kp n (J4 "paper")++ms).map J5)),o9,none,none,none,none],⟨[],_,rfl,Qh,by rw [LV]⟩,?_,?_⟩
  ·rintro i x δ hx ⟨ms,o9,hl,hm,rfl⟩;obtain⟨hi,rfl⟩:=gR hx;walk_at "a";have ml:gC.length=7:=rfl;refine⟨_,rfl,by rw [J1];omega,by rw [J1];omega,λv v0 v1=>⟨_,rfl,?_⟩⟩;rw [J1] at v1;obtain⟨m,hm1,em⟩:=eV v0 v1;refine⟨_,em,by rw [J1,Kk,Mc];omega,ms++[m],by simp [hl],λz hz=>?_,?_⟩
   ·rcases Kn.mp hz with h | h
    ·exact hm z h
    ·rw [Kr] at h;rw [h];exact hm1
   ·refine⟨?_,_,rfl⟩;rw [<-NJ,Ku (l₂:=[m])];rfl
  ·rintro δ ⟨ms,o9,hl,hm,rfl⟩;rw [ij] at hl;have wl:(Kp n (J4 "paper")++ms).length<=24:=by rw [Kk,Mc];omega
   have wm:∀w∈Kp n (J4 "paper")++ms,w∈lG:=λw hw=>by
    rcases Kn.mp hw with h | h
    ·rw [(List.mem_replicate.mp h).2];exact KA
    ·exact Jc (hm w h)
   have w0:1<=(Kp n (J4 "paper")++ms).length:=by rw [Kk,Mc];omega
   generalize Kp n (J4 "paper")++ms=ws at wl w0 wm⊢;walk_at "a";rw [J1];refine⟨Qc,Qc,?_⟩;refine⟨λi δ=>∃(xs:List De)(o11 o12 o13:Option Sl),(∀x∈xs,fZ x)/\(xs.Pairwise λx y=>cQ x.enc y.enc=false)/\xs.length<=i/\(0 < i->xs≠[])/\δ=[some (Sl.v (dS (Kv J7 cs))),some (Sl.v (L9 (Kv J5 gC))),some (Sl.v (J7 10)),some (Sl.v dG),some (Sl.v (.int far)),some (Sl.v (.bool cb)),some (Sl.v (.list (ns.map .str))),some (Sl.v (.list (ks.map .str))),some (Sl.o (ws.map J5)),o9,some (Sl.o (xs.map De.enc)),o11,o12,o13],⟨[],_,_,_,Qh,.nil,Qh,Qh,rfl⟩,?_,?_⟩
   ·rintro i x δ hx ⟨xs,o11,o12,o13,xg,xq,xl,x0,rfl⟩;obtain⟨hi,rfl⟩:=gR hx;walk_at "a";have hi:i < ws.length:=Qc
    have hw:ws[i]?=some ws[i]:=Kg.mpr ⟨hi,rfl⟩;have aw:atI (Kv J5 ws) (0+(i:Int))=some (.str ws[i]):=by rw [OW];exact di (by simp [hi])
    have wo:=wm _ (K9 hi);generalize ws[i]=wi at hw aw wo;have tail:∀(y:De)(o:Option Sl),fZ y->((Kv De.enc xs).length<=16777216/\gq (pC 0) jB (kC AR (jx (cL 0) (jx (cL 1) mn))) [none,some (Sl.v y.enc)] (Kv De.enc xs) λds=>∃bs,ds=Kv Lm bs/\
     if bs.any id=false then pI [dG,J7 (((Kv De.enc xs).length:Int)+1)] λa=>∃n:Nat,a=J7 (n:Int)/\n<=(Kv De.enc xs).length/\(Kv De.enc xs).length < 1000000/\∃xs_1:List De,(∀x∈xs_1,fZ x)/\PJ (λx y=>cQ x.enc y.enc=false) xs_1/\xs_1.length<=i+1/\(0 < i+1->¬xs_1=[])/\eI (Kv De.enc xs) n y.enc=Kv De.enc xs_1/\∃x,o=x
     else ∃xs_1:List De,(∀x∈xs_1,fZ x)/\PJ (λx y=>cQ x.enc y.enc=false) xs_1/\xs_1.length<=i+1/\(0 < i+1->¬xs_1=[])/\Kv De.enc xs=Kv De.enc xs_1/\∃x,o=x):=λy o gy=>by
     refine⟨by rw [J1];omega,λk acc=>acc=((xs.take k).map λx=>cQ x.enc y.enc).map Lm,Qh,?_,?_⟩
     ·rintro k x acc hk rfl;rw [Kj] at hk;cases hk':xs[k]? with
      | none=>rw [hk'] at hk;cases hk
      | some x=>
       rw [hk'] at hk;cases hk;walk_at "a";refine⟨x,y,rfl,xg x (Kw hk'),gy,?_⟩;rw [Le,hk'];simp
     ·rintro acc rfl;rw [J1,Ky (J8 _)];refine⟨_,rfl,?_⟩;split
      ·rename_i h;have h:∀x∈xs,cQ x.enc y.enc=false:=λx hx=>by
        rw [Nn,NR] at h;simpa using h x hx
       refine⟨_,rfl,Qc,Qc,λv v0 v1=>?_⟩;obtain⟨n,rfl⟩:=LC v0;refine⟨n,rfl,Qc,Qc,eI xs n y,λx hx=>?_,?_,by rw [qw];omega,(λ_ e=>by have:=congrArg Og e;rw [qw] at this;simp at this),(GO _ _ _ _).symm,_,rfl⟩
       ·rcases Kh.mp ((qv xs n y).mem_iff.mp hx) with e | e
        ·rw [e];exact gy
        ·exact xg x e
       ·exact(List.Perm.pairwise_iff (λ{a b} h=>by rw [AU];exact h) (qv xs n y)).mpr (K7.mpr ⟨λx hx=>by rw [AU];exact h x hx,xq⟩)
      ·rename_i h;refine⟨xs,xg,xq,Qc,(λ_ e=>h (by rw [e];rfl)),rfl,_,rfl⟩
    refine⟨cs,_,rfl,Qc,Qc,λc=>⟨c,rfl,_,aw,wi,ns,ks,far,rfl,wo,dr,λy gy yp=>?_⟩⟩;split
    ·split
     ·rename_i i12;refine⟨_,aw,rfl,?_⟩;rw [fO];split
      ·rename_i hp;have hp:=eq_of_beq hp;obtain⟨p,rfl⟩:=yp hp;have hf:∃z:Int,atI [J7 5,J7 9000] far=some (.int z)/\0<=z/\z<=9000:=by
        have:far=0\/far=1:=Qc
        rcases this with h | h <;> rw [h]
        ·exact⟨5,rfl,Qb,Qb⟩
        ·exact⟨9000,rfl,Qb,Qb⟩
       obtain⟨z,ez,z0,z1⟩:=hf;obtain⟨nm,hn,en⟩:=eV (ss:=ns) (i:=0+(i:Int)) Qc Qc;refine⟨_,ez,_,rfl,.inr ⟨Qc,Qc⟩,_,rfl,_,cx,_,rfl,_,en,_,rfl,_,iW,?_⟩;obtain⟨ms,em,hm,ml,msub⟩:=rM (ns:=ns) (some (if 0+(i:Int) - 1 > 0 then 0+(i:Int) - 1 else 0)) (some (0+(i:Int)));have m1:ms.length<=1:=by
        have:=congrArg Og em;rw [J1] at this;rw [<-this];exact Ja (by rw [J1];omega)
       rw [em];have pk:Nm p.kd:=by
        have:=gy.dv;exact Jb this
       have zi:0<=z*(0+(i:Int))/\z*(0+(i:Int))<=45000:=by
        have h11:i<=5:=Qc
        have a:=Int.mul_le_mul z1 (show(0+(i:Int))<=5 by omega) Qc Qb;exact⟨Int.mul_nonneg z0 Qc,Qc⟩
       refine tail (.pap ⟨z*(0+(i:Int))+p.d % 5,nm,p.kd,ms⟩) _ ⟨.paper ⟨?_,?_⟩ (nok nm hn) pk ⟨KI m1 Qb,λm h=>nok m (hm m h),?_⟩,λ_ _ _ _ e=>by cases e⟩
       ·show 0<=z*(0+(i:Int))+p.d % 5;omega
       ·show z*(0+(i:Int))+p.d % 5<=99999;omega
       ·match ms,m1 with
        | [],_=>exact .nil
        | [a],_=>exact Oa _ _
        | a::b::l,h=>simp at h
      ·exact tail y _ gy
     ·exact tail y _ gy
    ·exact tail y _ gy
   ·rintro δ ⟨xs,o11,o12,o13,xg,xq,xl,x0,rfl⟩;rw [ij] at xl x0;walk_at "a";exact q xs ns far ⟨xg,xq,Qc⟩ (x0 Qc) nl nok nnd
end
theorem AV:br (aE nG) ["thing"] ["deed"] 1 [] ⟨Ki,[ (J3 ".0",RA),(J3 "deed",RA),(J3 "is_deed",KD)],false,false,[]⟩:= .of
section
variable {P:Qu} {w:Qw} {K:J0} {mg:Str->Option Qj} {base:Qy} {t:cu}
theorem De.deed{x:De}(g:fZ x):nW x.enc:=by
 obtain⟨r,e⟩:=x.encE;exact⟨_,_,_,_,e,g.dv.shp⟩
def Jf:List Qi->(Qi->Prop)->Prop:=λds Q=>∃xs:List De,ds=[.tuple (xs.map De.enc)]/\cR xs/\Q (.bool true)
theorem Jg(T:Txt K mg t):aM P w K mg base CX0 6 t.a_W t.d_W ["thing"] (aT K Jf):=by
 have G_T:=@Ia P w _ _ base _ T;have G_V:=@Iz P w _ _ base _ T;refine T.F_W.F.okD HG (λds Q h=>?_) (λ_ _ _ _ H O ds Q E hr h=>?_)
 ·obtain⟨xs,rfl,_⟩:=h;rfl
 ·obtain⟨xs,rfl,g,q⟩:=h;refine'⟨_,?A,?B⟩
  case A=>
   refine' ao ?C
   case' C=>refine' aF ?D
   case D=>exact(bX (eS (K':=K) (T:="tuple") rfl rfl T.n_isinstance eM (df (dv 0)) (eL (v:= .ty "tuple") rfl T.n_tuple eN rfl)) (bX (PE.imp (aS (ju rfl) rfl T.n_all jv (aJ (fe (iT rfl AV (df (dv 0)) bb cg Qb (λ_ _ _ _=>(aY (i:=0) AV.nd rfl Qg)) (λ_ _ _ _=>dA) (λ_ _ _ _=>(au G_T hr T.F_T (aa (dv 0) ag))))) aK)) (aP ie)) (cE (au G_V hr T.F_V (aa (dv 0) ag)))))
  case B=>
  clear hr T G_T G_V;walk_at "a";simp only [iZ];walk_at "a";simp only [fj];walk_at "a";refine⟨λ_=>trivial,by rw [J1];have:=g.l;omega,λi acc=>∃bs:List Bool,acc=bs.map Lm/\bs.all id=true,⟨[],rfl,rfl⟩,?_,?_⟩
  ·rintro i z acc hz ⟨bs,rfl,hb⟩;rw [Kj] at hz;cases hz':xs[i]? with
   | none=>rw [hz'] at hz;cases hz
   | some x=>
    rw [hz'] at hz;cases hz;have dv:=(g.e x (Kw hz')).dv;walk_at "a";refine⟨_,rfl,dv.thg,?_⟩;exact⟨bs++[true],by rw [dv.is,Ku];rfl,by simp [hb]⟩
  ·rintro acc ⟨bs,rfl,hb⟩;refine⟨_,rfl,?_⟩;rw [Qf hb];refine⟨_,rfl,λd hd=>?_,by rw [J1];have:=g.l;omega,?_⟩
   ·obtain⟨x,hx,rfl⟩:=Kd.mp hd;exact De.deed (g.e x hx)
   ·rw [decide_eq_true (La.mpr g.q)];exact q
theorem rN{d:Qi}{z:Str}(h:J6 d (.str z)=true):d= .str z:=by
 cases d <;> simp [J6] at h;rw [h]
theorem AW{d:Qi}{z:Str}(h:J6 (.str z) d=true):d= .str z:=by
 cases d <;> simp [J6] at h;rw [h]
def cJ(ps:List Pp):Pp->List Qi->Bool
 | _,[]=>true
 | c,e::es=>match (bY ps c).find? λm=>J6 (.str m.nm) e with
  | some m=>cJ ps m es
  | none=>false
def eX(ps:List Pp)(c:Pp):Qi->Bool
 | .tuple (e::es)=>J6 e (.str c.nm) && cJ ps c es
 | _=>false
def Jh:List Qi->(Qi->Prop)->Prop:=λds Q=>∃(xs:List De)(c:Pp)(d:Qi),ds=[.tuple (xs.map De.enc),.str c.nm,d]/\fY xs/\c∈aB xs/\thg d=true/\(∀es,d= .tuple es->es.length<=1000)/\Q (.bool (eX (aB xs) c d))
theorem Ji(T:Txt K mg t):aM P w K mg base CX0 7 t.a_Y t.d_Y ["deeds","paper","thing"] (aT K Jh):=by
 have G_H:=@Iq P w _ _ base _ T;refine T.F_Y.F.okD y6 (λds Q h=>?_) (λ_ _ _ _ H O ds Q E hr h=>?_)
 ·obtain⟨xs,c,d,rfl,_⟩:=h;rfl
 ·obtain⟨xs,c,d,rfl,g,hc,hd,hl,q⟩:=h;refine'⟨_,?A,?B⟩
  case A=>
   refine' ay ?C ?D
   case C=>
    refine' aW ?E ?F aV
    case E=>exact(PW.pt (dH (dJ (cD (eS (K':=K) (T:="tuple") rfl rfl T.n_isinstance eM (df (dv 2)) (eL (v:= .ty "tuple") rfl T.n_tuple eN rfl)))) (eh (aI (Hh hr) Hi (gU (df (dv 2)) dX (cw ae)) (bj (aa (dv 1) ag)) (aG _)))))
    case F=>refine' ao (aF bT)
   case' D=>refine' ay ?G ?H
   case G=>
    refine' uW KS rfl rfl T.n_range (aa ae (aa (PE.imp (aS bH rfl T.n_len Ko (aJ (dv 2) aK)) (aP bP)) ag)) ?I bb ?J
    case I=>exact(aY (i:=3) y6.nd rfl Qg)
    case' J=>refine' ao ?K
    case' K=>refine' aW ?L ?M aV
    case L=>exact(aI (Hj hr) Hk (ak av ax (dv 2) (dv 3)) (au G_H hr T.F_H (aa (dv 0) (aa (ak av ax (dv 2) (aR fG bO (dv 3) ae)) ag))) rfl)
    case M=>refine' ao (aF bT)
   case H=>refine' ao (aF bT)
  case B=>
  clear hr T G_H;walk_at "a";simp only [iZ];walk_at "a";refine⟨gW hd,?_⟩;cases d with
  | tuple l=>
   simp only [fj];walk_at "a";have ht:∀e∈l,thg e=true:=λe he=>mS hd he;have ll:=hl l rfl;unfold yR;refine⟨bI l none (some 1),c.nm,rfl,λd hd=>gw (ht d ?_),rfl,_,rfl,?_⟩
   ·unfold bI at hd;exact Mo (Lx hd)
   ·cases l with
    | nil=>exact q
    | cons e es=>
     have ec:bI (e::es) none (some 1)=[e]:=by
      rw [kG Qb (by simp only [Kt];omega)];rfl
     have ev:J6 (.tuple [e]) (.tuple [.str c.nm])=J6 e (.str c.nm):=by simp [J6,Lz]
     rw [ec,ev];have qd:eX (aB xs) c (.tuple (e::es))=(J6 e (.str c.nm) && cJ (aB xs) c es):=rfl;rw [qd] at q;cases hev:J6 e (.str c.nm) with
     | false=>rw [hev] at q;exact q
     | true=>
      rw [hev,Lb] at q;rw [Qe Qh];have ee:=rN hev;subst ee;refine⟨Qc,Qc,?_⟩;rw [Kt] at ll;refine⟨λi δ=>∃(ci:Pp)(o:Option Sl),ci∈aB xs/\cJ (aB xs) c es=cJ (aB xs) ci (es.drop i)/\(J5 c.nm::es)[i]?=some (.str ci.nm)/\δ=[some (Sl.v (Kl (Kv De.enc xs))),some (Sl.v (J5 c.nm)),some (Sl.v (Kl (J5 c.nm::es))),o],⟨c,_,hc,rfl,rfl,rfl⟩,?_,?_⟩
      ·rintro i z δ hz ⟨ci,o,ci1,ci2,ci3,rfl⟩;obtain⟨hi,rfl⟩:=gR hz;walk_at "a";rw [Kt] at hi;have hi':i < es.length:=Qc
       have he:es[i]?=some es[i]:=Kc hi';have a1:atI (J5 c.nm::es) (1+(i:Int))=some es[i]:=by
        rw [show(1+(i:Int))=((i+1:Nat):Int) by omega];exact di he
       have a2:atI (J5 c.nm::es) (1+(i:Int) - 1)=some (.str ci.nm):=by
        rw [show(1+(i:Int) - 1)=(i:Int) by omega];exact di ci3
       have hm:es[i]∈J5 c.nm::es:=Kz _ (K9 hi');have dr:es.drop i=es[i]::es.drop (i+1):=LU hi';rw [dr] at ci2;generalize es[i]=ei at a1 he hm ci2;refine⟨_,a1,_,a2,xs,ci,rfl,g,ci1,?_⟩;unfold yT;refine⟨_,rfl,gw (ht _ hm),_,rfl,?_⟩;rw [Nn];have wd:cJ (aB xs) ci (ei::es.drop (i+1))=match (bY (aB xs) ci).find? λm=>J6 (.str m.nm) ei with
        | some m=>cJ (aB xs) m (es.drop (i+1))
        | none=>false:=rfl
       rw [wd] at ci2;cases hf:(bY (aB xs) ci).find? λm=>J6 (.str m.nm) ei with
       | none=>
        rw [hf] at ci2;rw [ci2] at q;have na:(bY (aB xs) ci).any ((λz=>J6 (.str z) ei)∘ λx=>x.nm)=false:=by
         rw [NR];intro m hm';exact Lc.mp hf m hm'
        rw [na];exact q
       | some m=>
        rw [hf] at ci2;have mm:=K1 hf;have me:=Ln hf;have ya:(bY (aB xs) ci).any ((λz=>J6 (.str z) ei)∘ λx=>x.nm)=true:=LO.mpr ⟨m,mm,me⟩;rw [ya];exact⟨m,((Ih ci1).mp mm).1,ci2,by rw [he,AW me],_,rfl⟩
      ·rintro δ ⟨ci,o,ci1,ci2,ci3,rfl⟩;rw [ij] at ci2;rw [M7 (by rw [Kt];omega)] at ci2;walk_at "a";rw [ci2] at q;exact q
  | _=>simpa [fj,eX] using q
theorem iE:∀{a b:List Str},a.map J5=b.map J5->a=b
 | [],[],_=>rfl
 | [],_::_,h=>by simp at h
 | _::_,[],h=>by simp at h
 | x::a,y::b,h=>by
  rw [Kb,Kb,Li,LG] at h;rw [h.1,iE h.2]
theorem nY{p:Pp}(h:c5 p.enc):Nm p.nm/\Nm p.kd/\kQ p.ms:=by
 unfold Pp.enc at h;generalize hd:Kl [.str (J4 "paper"),.int p.d,.str p.nm,.str p.kd,.tuple (p.ms.map .str)]=d at h;cases h with
 | paper _ hx hk hm=>
  simp only [LQ,Li,LG,Nc] at hd;rw [hd.2.2.1,hd.2.2.2.1,iE hd.2.2.2.2.1];exact⟨hx,hk,hm⟩
 | _=>simp at hd
theorem fZ.ws{x:De}(h:fZ x):KJ x.w=true/\KJ x.nm=true:=by
 have s:=h.dv.shp;obtain⟨r,e⟩:=x.encE;rw [e] at s;exact⟨cj.mp (gu s _ Qh),cj.mp (gu s _ Qh)⟩
theorem Jj{p q:Pp}(h:cQ p.enc q.enc=false):p.nm≠q.nm:=λe=>by
 have qd:cQ p.enc q.enc=(J6 p.enc q.enc || (p.nm==q.nm && ((J4 "paper"==("paper":Str) && J4 "paper"==("paper":Str)) || (J4 "paper"==("leave":Str) && J4 "paper"==("leave":Str)) || (p.d==q.d && ((bt (J4 "paper") "rule" "end" && bt (J4 "paper") "rule" "end") || (bt (J4 "paper") "hold" "lift" && bt (J4 "paper") "hold" "lift")))))):=rfl;rw [qd,e,beq_self_eq_true,Lb,show(J4 "paper"==("paper":Str))=true from beq_self_eq_true _] at h;simp at h
theorem cR.good{xs:List De}(h:cR xs):fY xs:=by
 obtain⟨h1,h2,h3⟩:=h;have pm:∀p∈aB xs,De.pap p∈xs:=λp hp=>lC.mp hp;have pv:∀p∈aB xs,Nm p.nm/\Nm p.kd/\kQ p.ms:=λp hp=>nY (h1 _ (pm p hp)).dv;refine⟨⟨?_,?_,λp hp=>(pv p hp).1.ok,λp hp=>(pv p hp).2.1.ok,λp hp=>⟨λm hm=>((pv p hp).2.2.nm m hm).ok,KI (pv p hp).2.2.len Qb⟩⟩,λw d nm r hx=>(h1 _ hx).np _ _ _ _ rfl,Qc,λx hx=>(h1 x hx).ws.1,λx hx=>(h1 x hx).ws.2⟩
 ·exact KI (List.length_filterMap_le _ _) Qc
 ·unfold aB;rw [MW,La,List.pairwise_filterMap];refine h2.imp λ{a b} h p hp r hr=>?_;cases a with
  | oth w d nm r=>simp [De.pp] at hp
  | pap a=>
   cases b with
   | oth w d nm r=>simp [De.pp] at hr
   | pap b=>
    simp only [De.pp,NP] at hp hr;subst hp hr;exact Jj h
theorem Jk{a b:Str}(h:gY a b):a≠b:=λe=>by
 subst e;unfold gY at h;exact Pu _ h
theorem cR.nd{xs:List De}(h:cR xs){p:Pp}(hp:p∈aB xs):p.ms.Nodup:=
 (nY (h.e _ (lC.mp hp)).dv).2.2.up.imp λh=>Jk h
end
theorem AX:br (aE i8) ["_law_deeds_here","_law_rows","_law_web_here","_law_name","_law_some","_law_ahead"] ["_law_deed_here"] 1 [] ⟨Ki,[(J3 ".0",RA),(J3 "_law_deed_here",RA)],false,false,[]⟩:= .of
theorem AY:br (aE i8) ["_law_deeds_here","_law_rows","_law_web_here","_law_name","_law_some","_law_ahead"] ["_law_one","_law_rows"] 1 [1] ⟨Ki,[ (J3 ".0",RA),(J3 "_law_one",RA),(J3 "_law_rows",Kq)],false,false,[]⟩:= .of
theorem AZ:br (aE i8) ["_law_deeds_here","_law_rows","_law_web_here","_law_name","_law_some","_law_ahead"] ["_law_one","_law_name","_law_rows"] 1 [3,1] ⟨Ki,[ (J3 ".0",RA),(J3 "_law_one",RA),(J3 "_law_name",Kq),(J3 "_law_rows",Kq)],false,false,[]⟩:= .of
theorem rO:br (aE i8) ["_law_deeds_here","_law_rows","_law_web_here","_law_name","_law_some","_law_ahead"] ["_law_day_here","_law_one"] 2 [] ⟨Ki,[ (J3 ".0",RA),(J3 "_law_day_here",RA),(J3 "_law_one",RA)],false,false,[]⟩:= .of
section
variable {P:Qu} {w:Qw} {K:J0} {mg:Str->Option Qj} {base:Qy} {t:cu}
def gE(ps:List Pp)(p:Pp):Qi:= .tuple [.int p.d,.str p.kd,.list (((bY ps p).map (·.nm)).map .str)]
def jZ(ps:List Pp):Qi:=fW (ps.map (·.nm)) (ps.map (gE ps))
def Jl:List Qi->(Qi->Prop)->Prop:=λds Q=>∃xs:List De,ds=[.tuple (xs.map De.enc)]/\cR xs/\Q (jZ (aB xs))
theorem rP(f:De->Qi):∀xs:List De,(xs.filter (d4 λ_=>true)).map f=(aB xs).map λp=>f (.pap p)
 | []=>rfl
 | .pap p::xs=>by
  rw [L6,Qf (show d4 (λ_=>true) (De.pap p)=true from rfl),Kb,rP f xs];rfl
 | .oth w d nm r::xs=>by
  rw [L6,Qe (by simp [d4])];exact rP f xs
theorem A0{kd:List (ah×Qi)}{k:ah}{d:Qi}(h:k ∉ kd.map (·.1)):dN kd k d=kd++[(k,d)]:=by
 unfold dN;rw [Qe];rw [LO];rintro⟨p,hp,e⟩;exact h (Kd.mpr ⟨p,hp,of_decide_eq_true e⟩)
theorem A1:∀(kd acc:List (ah×Qi)),((acc++kd).map (·.1)).Nodup->kd.foldl (λa p=>dN a p.1 p.2) acc=acc++kd
 | [],acc,_=>by simp
 | p::kd,acc,nd=>by
  have e:acc++p::kd=(acc++[p])++kd:=Qh
  rw [Md,A0,A1 kd (acc++[(p.1,p.2)]),e]
  ·rw [<-e];exact nd
  ·intro h;rw [Ku,O3] at nd;exact nd.2.2 p.1 h p.1 Qh rfl
theorem Jm{ss:List Str}(h:ss.Nodup):(ss.map (Lg:Str->ah)).Nodup:=by
 rw [MW,La];exact h.imp λz e=>z (Oe e)
theorem jd{f:Pp->Qi}:∀{ps:List Pp}{p:Pp},(ps.map (·.nm)).Nodup->p∈ps->cB (ps.map (·.nm)) (ps.map f) p.nm=some (f p)
 | x::ps,p,nd,h=>by
  rw [Kb,Kb];unfold cB;rw [Kb,LW] at nd;rcases Kh.mp h with e | e
  ·rw [e,Qf rfl]
  ·rw [Qe (λz=>nd.1 (by rw [z];exact Kd.mpr ⟨p,e,rfl⟩))];exact jd nd.2 e
theorem nZ{f:Pp->Qi}:∀{ps:List Pp}{z:Str},z ∉ ps.map (·.nm)->cB (ps.map (·.nm)) (ps.map f) z=none
 | [],z,_=>rfl
 | x::ps,z,h=>by
  rw [Kb,Kb];unfold cB;rw [Kb,Kh,not_or] at h;rw [Qe (λe=>h.1 e.symm)];exact nZ h.2
def n4(ps:List Pp)(z:Str):Int:=((ps.find? λp=>decide (p.nm=z)).map (·.d)).getD 0
theorem rQ{ps:List Pp}(nd:(ps.map (·.nm)).Nodup){p:Pp}(h:p∈ps):n4 ps p.nm=p.d:=by
 unfold n4;cases hf:ps.find? (λq=>decide (q.nm=p.nm)) with
 | none=>exact absurd (Lc.mp hf p h) Qh
 | some q=>
  have e:q.nm=p.nm:=by simpa using Ln hf
  rw [nV nd (K1 hf) h e];rfl
def g6(ps:List Pp)(c:Pp):List (Int×Str):=(c.ms.filter λz=>decide (z∈ps.map (·.nm))).map λz=>(n4 ps z,z)
theorem A2{ps:List Pp}{c:Pp}(h:c.ms.Nodup):(g6 ps c).Nodup:=by
 unfold g6;rw [MW,La];exact(h.sublist Mr).imp λz e=>z (congrArg PY e)
theorem x8{ps:List Pp}(nd:(ps.map (·.nm)).Nodup){c:Pp}{hs:List (Int×Str)}(h1:hs.Perm (g6 ps c))(h2:hs.Pairwise λa b=>aQ a b=true)(nz:(g6 ps c).Nodup):hs.filter (λz=>aQ z c.key)=(bY ps c).map Pp.key:=by
 have p1:(hs.filter λz=>aQ z c.key).Pairwise λa b=>aQ a b=true:=h2.sublist Mr;have p2:((bY ps c).map Pp.key).Pairwise λa b=>aQ a b=true:=by
  rw [La];unfold bY;exact(lB nd).sublist Mr
 have n1:(hs.filter λz=>aQ z c.key).Nodup:=(h1.nodup_iff.mpr nz).sublist Mr;have n2:((bY ps c).map Pp.key).Nodup:=p2.imp λ{a b} h e=>by rw [e,Al] at h;cases h
 refine lA (λa b h=>rA h) ((NG n1 n2).mpr λz=>?_) p1 p2;rw [Lh,h1.mem_iff,Kd];unfold g6 bY;constructor
 ·rintro⟨hz,hl⟩;obtain⟨y,hy,rfl⟩:=Kd.mp hz;obtain⟨hy1,hy2⟩:=Lh.mp hy;obtain⟨m,hm,rfl⟩:=Kd.mp (of_decide_eq_true hy2);rw [rQ nd hm] at hl⊢;refine⟨m,Lh.mpr ⟨jb.mpr hm,?_⟩,rfl⟩;unfold jX;rw [Mf.mpr hy1,Lb];exact hl
 ·rintro⟨m,hm,rfl⟩;obtain⟨hm1,hm2⟩:=Lh.mp hm;unfold jX at hm2;rw [Ks] at hm2;have hm1:=jb.mp hm1;refine⟨Kd.mpr ⟨m.nm,Lh.mpr ⟨Mf.mp hm2.1,decide_eq_true (Kd.mpr ⟨m,hm1,rfl⟩)⟩,?_⟩,hm2.2⟩;rw [rQ nd hm1];rfl
theorem rR(T:Txt K mg t):aM P w K mg base CX0 1 t.a_o t.d_o ["_law_deeds_here"] (aT K Jl):=by
 refine T.F_o.F.okD jT (λds Q h=>?_) (λ_ _ _ _ H O ds Q E hr h=>?_)
 ·obtain⟨xs,rfl,_⟩:=h;rfl
 ·obtain⟨xs,rfl,gl,q⟩:=h;refine'⟨_,?A,?B⟩
  case A=>
   refine' ay ?C ?D
   case C=>exact(kT (i:=1) jT.nd rfl Qg (G1 rfl rfl T.n_dict (aJ (fe (iT rfl AX (df (dv 0)) bb cg Qb (λ_ _ _ _=>(aY (i:=0) AX.nd rfl Qg)) (λ_ _ _ _=>(gM (aI (cH hr) cI (ak av ax (dv 0) ae) aL (aG _)))) (λ_ _ _ _=>(bj (aa (ak av ax (dv 0) ae) (aa (dv 0) ag)))))) aK)))
   case' D=>refine' ay ?E ?F
   case E=>exact(kT (i:=2) jT.nd rfl Qg qg)
   case' F=>refine' ay ?G ?H
   case G=>
    refine' xQ 1 ?I
    case' I=>refine' G8 KS rfl (dv 1) ?J bb ?K
    case J=>exact(aY (i:=3) jT.nd rfl Qg)
    case' K=>refine' ay ?L ?M
    case L=>
     refine' bE (i:=4) jT.nd rfl Qg ?N (hs:=iz)
     case N=>exact(fe (Gy rfl T.n_sorted LH (aJ (fe (iT rfl AY (df (ak av ax (i7 hr.units (dv 1) (dv 3) (λ_ _=>rfl)) ae)) bb cg Qb (λ_ _ _ _=>(aY (i:=0) AY.nd rfl Qg)) (λ_ _ _ _=>(gM (G5 hr.units (dv 1) (dv 0)))) (λ_ _ _ _=>(bj (aa (ak av ax (i7 hr.units (dv 1) (dv 0) (λ_ _=>rfl)) ae) (aa (dv 0) ag)))))) aK)))
    case' M=>refine' ay ?O ?P
    case O=>exact(mO (i:=5) jT.nd rfl Qg (pR rfl AZ (df (dv 4)) bb cg Qb (λ_ _ _ _=>(aY (i:=0) AZ.nd rfl Qg)) (λ_ _ _ _=>(gM (aI (xK hr.units0) xN (dv 0) (bj (aa (ak av ax (i7 hr.units (dv 2) (dv 1) (λ_ _=>rfl)) ae) (aa (dv 1) ag))) (aG _)))) (λ_ _ _ _=>(dv 0))))
    case' P=>refine' ao ?Q
    case Q=>exact(qh (i:=2) hr.units (pv 2) (dv 3) (bj (aa (ak av ax (i7 hr.units (dv 1) (dv 3) (λ_ _=>rfl)) ae) (aa (ak av ax (i7 hr.units (dv 1) (dv 3) (λ_ _=>rfl)) ae) (aa (fe (gP rfl rO (df (dv 5)) (mz (gn bb (gn bb my))) GH Qb (λ_ _ _ _=>(ke (n:=2) rfl (fg (aY (i:=0) rO.nd rfl Qg) (fg (aY (i:=1) rO.nd rfl Qg) kc)))) (λ_ _ _ _=>dA) (λ_ _ _ _=>(dv 1)))) ag)))))
   case' H=>refine' ao ?R
   case' R=>refine' xQ 2 ?S
   case S=>exact(aF (dv 2))
  case B=>
  clear hr T;walk_at "a";have g:=gl.good;have ln:=g.ln;have gp:=g.gp;refine⟨by rw [J1];omega,fA (d4 λ_=>true) (λx=>.tuple [.str x.nm,x.enc]) (λx hx R S h=>?_) ?_⟩
  ·cases x with
   | pap p=>
    simp only [De.enc,Pp.enc] at h⊢;walk_at "a";exact h
   | oth wo d nm l=>
    simp only [De.enc] at h⊢;walk_at "a";rw [dQ (g.np _ _ _ _ hx),Qe K5];rw [Qe (by simp [d4])] at h;exact h
  ·rw [rP];have mnd:∀p∈aB xs,p.ms.Nodup:=λp hp=>gl.nd hp;generalize aB xs=ps at gp q mnd⊢;have kn:((ps.map λp:Pp=>((Lg p.nm:ah),p.enc)).map (·.1)).Nodup:=by
    rw [Kx];have:=Jm gp.nd;rw [Kx] at this;exact this
   have ef:=A1 (ps.map λp:Pp=>((Lg p.nm:ah),p.enc)) [] (by rw [LX];exact kn);rw [LX] at ef;refine⟨ps.map λp=>(.inr p.nm,p.enc),by rw [Kx];rfl,ps.map (·.nm),by rw [ef,Kx,Kx];rfl,ps.map (·.nm),⟨_,rfl⟩,?_⟩;rw [ef];have ed:Kv (λx=>x.snd) (ps.map λp:Pp=>((Lg p.nm:ah),p.enc))=ps.map Pp.enc:=by rw [Kx];rfl
   rw [ed];refine⟨λi δ=>∃o3 o4 o5,δ=[some (Sl.v (Kl (Kv De.enc xs))),some (Sl.v (fW (ps.map (·.nm)) (ps.map Pp.enc))),some (Sl.k ((ps.take i).map λp=>(.inr p.nm,gE ps p))),o3,o4,o5],⟨_,_,_,rfl⟩,?_,?_⟩
   ·rintro i z δ hz ⟨o3,o4,o5,rfl⟩;rw [Kj,Kj] at hz;cases hz':ps[i]? with
    | none=>rw [hz'] at hz;cases hz
    | some p=>
     rw [hz'] at hz;cases hz;have hp:=Kw hz';have ap:=jd (f:=Pp.enc) gp.nd hp;walk_at "a";have ml:=(gp.ms p hp).2;refine⟨_,_,rfl,_,ap,_,rfl,_,mJ,_,rfl,by rw [J1];omega,fA (λz=>decide (z∈ps.map (·.nm))) (λz=>cn (n4 ps z,z)) (λz hz R S h=>?_) ?_⟩
     ·walk_at "a";refine⟨_,_,rfl,?_⟩;by_cases hm:z∈ps.map (·.nm)
      ·rw [Qf (decide_eq_true hm)] at h;obtain⟨m,hm1,rfl⟩:=Kd.mp hm;have am:=jd (f:=Pp.enc) gp.nd hm1;rw [am,Qf (by rfl)];rw [rQ gp.nd hm1] at h;exact⟨_,_,rfl,_,am,_,rfl,_,cx,h⟩
      ·rw [Qe (by simpa using hm)] at h;rw [nZ hm,Qe Qh];exact h
     ·refine⟨g6 ps p,by unfold g6;rw [Kx];rfl,?_,A2 (mnd p hp),λhs h1 h2=>?_⟩
      ·unfold g6;rw [J1];have:=LR (λz=>decide (z∈ps.map (·.nm))) p.ms;omega
      ·have hl:hs.length<=50:=by
        rw [h1.length_eq];unfold g6;rw [J1];have:=LR (λz=>decide (z∈ps.map (·.nm))) p.ms;omega
       refine⟨by rw [J1];omega,fA (λz=>aQ z p.key) cn (λz hz R S h=>?_) ?_⟩
       ·walk_at "a";refine⟨_,_,rfl,_,ap,_,rfl,_,cx,z,rfl,p.key,rfl,h⟩
       ·rw [x8 gp.nd h1 h2 (A2 (mnd p hp))];refine⟨_,_,rfl,_,ap,_,rfl,_,cx,_,_,rfl,_,ap,_,rfl,_,iW,?_⟩;have mkl:=AB (c:=p) gp;have pl:=gp.ln;refine⟨by rw [J1,J1];omega,fA (λ_=>true) (λz:Int×Str=>.str z.2) (λz hz R S h=>?_) ?_⟩
        ·simp only [cn];walk_at "a";rw [Qf rfl] at h;exact h
        ·rw [lE,Kx];refine⟨by rw [J1,KW];omega,?_,_,rfl⟩;have tk:ps.take (i+1)=ps.take i++[p]:=by rw [Le,hz'];rfl
         rw [tk,Ku,A0]
         ·congr 2;show(_,_)=(_,_);unfold gE;rw [Kx];rfl
         ·rw [Kx];intro hin;obtain⟨m,hm,e⟩:=Kd.mp hin;have e:m.nm=p.nm:=Oe e;have nd:=gp.nd;obtain⟨li,ei⟩:=Kg.mp hz';rw [MW,La] at nd;obtain⟨j,hj,ej⟩:=Nr hm;rw [KW] at hj;rw [List.getElem_take] at ej;have:=Mn.mp nd j i Qc li Qc;rw [ej,ei] at this;exact this e
   ·rintro δ ⟨o3,o4,o5,rfl⟩;walk_at "a";refine⟨ps.map (·.nm),?_,?_⟩
    ·rw [J1,J1,Ky (J8 _),Kx,Kx];rfl
    ·rw [J1,J1,Ky (J8 _),Kx];exact q
end
theorem A3:br (aE ly) ["_law_web_here","_law_way"] ["_law_one","_law_web_here"] 1 [0] ⟨Ki,[ (J3 ".0",RA),(J3 "_law_one",RA),(J3 "isinstance",KD),(J3 "str",KD),(J3 "_law_web_here",Kq)],false,false,[]⟩:= .of
theorem A4:br (aE ly) ["_law_web_here","_law_way"] ["_law_k","_law_way","_law_web_here"] 1 [1,0] ⟨Ki,[ (J3 ".0",RA),(J3 "_law_k",RA),(J3 "_law_way",Kq),(J3 "_law_web_here",Kq)],false,false,[]⟩:= .of
section
variable {P:Qu} {w:Qw} {K:J0} {mg:Str->Option Qj} {base:Qy} {t:cu}
def d5(ps:List Pp)(a:Str):List Str:=match ps.find? λp=>decide (p.nm=a) with
 | some p=>(bY ps p).map (·.nm)
 | none=>[]
theorem A5{ps:List Pp}(nd:(ps.map (·.nm)).Nodup){c:Pp}(hc:c∈ps):d5 ps c.nm=(bY ps c).map (·.nm):=by
 unfold d5;cases hf:ps.find? λp=>decide (p.nm=c.nm) with
 | none=>exact absurd (Lc.mp hf c hc) Qh
 | some p=>
  have e:p.nm=c.nm:=by simpa using Ln hf
  rw [nV nd (K1 hf) hc e]
def je(ps:List Pp):Str->List Str->Bool
 | _,[]=>true
 | a,b::r=>decide (b∈d5 ps a) && je ps b r
theorem n5{ps:List Pp}{c m:Pp}(h:m∈bY ps c):m∈ps:=by
 unfold bY at h;exact jb.mp (Lh.mp h).1
theorem A6{ps:List Pp}(nd:(ps.map (·.nm)).Nodup):∀{r:List Str}{c:Pp},c∈ps->cJ ps c (r.map .str)=je ps c.nm r
 | [],c,_=>rfl
 | b::r,c,hc=>by
  rw [Kb];unfold cJ je;rw [A5 nd hc];cases hf:(bY ps c).find? λm=>J6 (.str m.nm) (.str b) with
  | none=>
   have:b ∉ (bY ps c).map (·.nm):=λh=>by
    obtain⟨m,hm,e⟩:=Kd.mp h;exact absurd (Lc.mp hf m hm) (by simp [J6,e])
   rw [decide_eq_false this];rfl
  | some m=>
   have hm:=K1 hf;have e:m.nm=b:=by simpa [J6] using Ln hf
   rw [decide_eq_true (Kd.mpr ⟨m,hm,e⟩),Lb,<-e];exact A6 nd (n5 hm)
theorem rS{ps:List Pp}:∀{es:List Qi}{c:Pp},cJ ps c es=true->∀e∈es,∃z∈ps.map (·.nm),e= .str z
 | e::es,c,h,x,hx=>by
  unfold cJ at h;cases hf:(bY ps c).find? λm=>J6 (.str m.nm) e with
  | none=>rw [hf] at h;cases h
  | some m=>
   rw [hf] at h;rcases Kh.mp hx with z | z
   ·rw [z];exact⟨m.nm,Kd.mpr ⟨m,n5 (K1 hf),rfl⟩,AW (by simpa using Ln hf)⟩
   ·exact rS h x z
theorem A7{ps:List Pp}:∀(a:Str)(r:List Str),((KU r.length).all λk=>decide (r.getD k a∈d5 ps ((a::r).getD k a)))=je ps a r
 | a,[]=>rfl
 | a,b::r=>by
  rw [Kt,List.range_succ_eq_map,ND,MS];unfold je;rw [<-A7 b r];congr 1;rw [ML,Lj,Lj];have key:∀k∈KU r.length,((λk=>decide ((b::r).getD k a∈d5 ps ((a::b::r).getD k a)))∘ Nat.succ) k=decide (r.getD k b∈d5 ps ((b::r).getD k b)):=λk hk=>by
   have hk:=L5.mp hk;have e1:(b::r).getD (k+1) a=r.getD k b:=by simp [List.getD,hk]
   have e2:(a::b::r).getD (k+1) a=(b::r).getD k b:=by
    rw [List.getD_cons_succ,KG,KG,Kc (by rw [Kt];omega)];rfl
   show decide ((b::r).getD (k+1) a∈d5 ps ((a::b::r).getD (k+1) a))=_;rw [e1,e2]
  constructor <;> intro h k hk
  ·rw [<-key k hk];exact h k hk
  ·rw [key k hk];exact h k hk
def gb(ps:List Pp):Qi->Bool
 | .str z=>decide (z∈ps.map (·.nm))
 | _=>false
theorem rT{ps:List Pp}:∀{l:List Qi},l.all (gb ps)=true->∃zs:List Str,l=zs.map .str/\∀z∈zs,z∈ps.map (·.nm)
 | [],_=>⟨[],rfl,Qh⟩
 | d::l,h=>by
  rw [ND,Ks] at h;obtain⟨zs,e,hz⟩:=rT h.2;cases d with
  | str z=>exact⟨z::zs,by rw [e];rfl,λy hy=>by
   rcases Kh.mp hy with q | q
   ·rw [q];exact of_decide_eq_true h.1
   ·exact hz y q⟩
  | _=>exact absurd h.1 (by simp [gb])
theorem Jn{f:Pp->Qi}{ps:List Pp}(nd:(ps.map (·.nm)).Nodup)(z:Str):(cB (ps.map (·.nm)) (ps.map f) z).isSome=decide (z∈ps.map (·.nm)):=by
 by_cases h:z∈ps.map (·.nm)
 ·obtain⟨p,hp,rfl⟩:=Kd.mp h;rw [jd nd hp,decide_eq_true h];rfl
 ·rw [nZ h,decide_eq_false h];rfl
theorem rV{ps:List Pp}(nd:(ps.map (·.nm)).Nodup){c:Pp}(hc:c∈ps):(ps.find? λp=>p.nm==c.nm)=some c:=by
 cases hf:ps.find? λp=>p.nm==c.nm with
 | none=>exact absurd (Lc.mp hf c hc) Qh
 | some p=>
  have e:p.nm=c.nm:=by simpa using Ln hf
  rw [nV nd (K1 hf) hc e]
def jf(d:Qi):Prop:=thg d=true/\∀es,d= .tuple es->es.length<=1000
def g9(ps:List Pp):Qi->Bool
 | .tuple (.str z::es)=>match ps.find? λp=>p.nm==z with
  | some c=>cJ ps c es
  | none=>false
 | _=>false
def Jo:List Qi->(Qi->Prop)->Prop:=λds Q=>∃(xs:List De)(d:Qi),ds=[jZ (aB xs),d]/\cR xs/\jf d/\Q (.bool (g9 (aB xs) d))
theorem Jp(T:Txt K mg t):aM P w K mg base CX0 1 t.a_q t.d_q ["_law_web_here","_law_way"] (aT K Jo):=by
 refine T.F_q.F.okD HK (λds Q h=>?_) (λ_ _ _ _ H O ds Q E hr h=>?_)
 ·obtain⟨xs,d,rfl,_⟩:=h;rfl
 ·obtain⟨xs,d,rfl,gl,hd,q⟩:=h;refine'⟨_,?A,?B⟩
  case A=>
   refine' ay ?C ?D
   case C=>
    refine' aW ?E ?F aV
    case E=>exact(PW.pt (dH (dJ (cD (eS (K':=K) (T:="tuple") rfl rfl T.n_isinstance eM (df (dv 1)) (eL (v:= .ty "tuple") rfl T.n_tuple eN rfl)))) (dH (aI (Hl hr) Hm (dv 1) (bj ag) (aG _)) (eh (dJ (cD (PE.imp (aS (ju rfl) rfl T.n_all jv (aJ (fe (iT rfl A3 (df (dv 1)) bb cg Qb (λ_ _ _ _=>(aY (i:=0) A3.nd rfl Qg)) (λ_ _ _ _=>dA) (λ_ _ _ _=>(bX (eS (K':=K) (T:="str") rfl rfl T.n_isinstance eM (df (dv 0)) (eL (v:= .ty "str") rfl T.n_str tZ rfl)) (cE (G4 hr.units (dv 1) (dv 0))))))) aK)) (aP ie))))))))
    case F=>refine' ao (aF bT)
   case' D=>refine' ao ?G
   case' G=>refine' aF ?H
   case H=>exact(PE.imp (aS (ju rfl) rfl T.n_all jv (aJ (fe (mG rfl A4 rfl T.n_range (aJ (aR fG bO (PE.imp (aS bH rfl T.n_len Ko (aJ (dv 1) aK)) (aP bP)) ae) aK) bb cg Qb (λ_ _ _ _=>(aY (i:=0) A4.nd rfl Qg)) (λ_ _ _ _=>dA) (λ_ _ _ _=>(bV (kM hr) jH (df (ak av ax (dv 1) (aR cf bO (dv 0) ae))) (df (ak av ax (i7 hr.units (dv 2) (ak av ax (dv 1) (dv 0)) (λ_ _=>rfl)) ae)) rfl)))) aK)) (aP ie))
  case B=>
  clear hr T;walk_at "a";simp only [iZ];walk_at "a";refine⟨gW hd.1,?_⟩;have gp:=gl.good.gp;generalize aB xs=ps at gp q⊢;cases d with
  | tuple l=>
   simp only [fj];walk_at "a";have ll:=hd.2 l rfl;have ht:∀e∈l,thg e=true:=λe he=>mS hd.1 he;unfold yV;refine⟨l,[],rfl,λd hd=>gw (ht d hd),rfl,_,rfl,?_⟩;cases l with
   | nil=>exact q
   | cons e es=>
    rw [Qe (by simp [J6,Lz])];refine⟨Qc,λi acc=>acc=(((e::es).take i).map (gb ps)).map Lm,rfl,?_,?_⟩
    ·rintro i x acc hx rfl;walk_at "a";simp only [wG];walk_at "a";have tx:=ht x (Kw hx);refine⟨gW tx,?_⟩;have tk:(e::es).take (i+1)=(e::es).take i++[x]:=by rw [Le,hx];rfl
     have fin:∀b,gb ps x=b->Kv Lm (Kv (gb ps) (List.take i (e::es)))++[Lm b]=Kv Lm (Kv (gb ps) (List.take (i+1) (e::es))):=λb hb=>by
      rw [tk,Ku,Ku,<-hb];rfl
     cases x with
     | str z=>
      rw [Qf (show mR (J5 z)=true from rfl)];exact⟨z,rfl,_,_,rfl,fin _ (Jn gp.nd z).symm⟩
     | _=>exact fin false rfl
    ·rintro acc rfl;rw [Ky (J8 _)];refine⟨_,rfl,?_⟩;rw [MS];have ea:(e::es).all (id ∘ gb ps)=(e::es).all (gb ps):=rfl;rw [ea];cases hs:(e::es).all (gb ps) with
     | false=>
      rw [Qf rfl];have lf:g9 ps (.tuple (e::es))=false:=by
       cases e with
       | str z=>
        show(match ps.find? λp=>p.nm==z with
         | some c=>cJ ps c es
         | none=>false)=false
        cases hf:ps.find? λp=>p.nm==z with
        | none=>rfl
        | some c=>
         have hc:=K1 hf;have hn:c.nm=z:=by simpa using Ln hf
         show cJ ps c es=false;cases hw:cJ ps c es with
         | false=>rfl
         | true=>
          have:(J5 z::es).all (gb ps)=true:=by
           rw [Lj];intro x hx;rcases Kh.mp hx with y | y
           ·rw [y,<-hn];exact decide_eq_true (Kd.mpr ⟨c,hc,rfl⟩)
           ·obtain⟨y',hy,rfl⟩:=rS hw x y;exact decide_eq_true hy
          rw [this] at hs;cases hs
       | _=>rfl
      rw [lf] at q;exact q
     | true=>
      rw [Qe Qh];obtain⟨zs,ez,hz⟩:=rT hs;cases zs with
      | nil=>cases ez
      | cons nm r=>
       rw [Kb,Li] at ez;obtain⟨e1,e2⟩:=ez;subst e1 e2;rw [Kt,J1] at ll⊢;refine⟨Qc,Qc,λi acc=>acc=((KU i).map λk=>decide (r.getD k nm∈d5 ps ((nm::r).getD k nm))).map Lm,rfl,?_,?_⟩
       ·rintro i x acc hx rfl;obtain⟨hi,rfl⟩:=gR hx;walk_at "a";have hi:i < r.length:=Qc
        have a1:atI (J5 nm::r.map .str) (0+(i:Int)+1)=some (.str (r.getD i nm)):=by
         rw [show(0+(i:Int)+1)=((i+1:Nat):Int) by omega];refine di ?_;rw [Mt,Kj,Kc hi,KG,Kc hi];rfl
        have hi':i < (nm::r).length:=by rw [Kt];omega
        have a2:atI (J5 nm::r.map .str) (0+(i:Int))=some (.str ((nm::r).getD i nm)):=by
         rw [OW,show J5 nm::r.map J5=(nm::r).map J5 from rfl];refine di ?_;rw [Kj,Kc hi',KG,Kc hi'];rfl
        have m1:(nm::r).getD i nm∈nm::r:=by
         rw [KG,Kc hi'];exact K9 hi'
        have m2:r.getD i nm∈nm::r:=by
         rw [KG,Kc hi];exact Kz _ (K9 hi)
        obtain⟨p,hp,ep⟩:=Kd.mp (hz _ m1);obtain⟨p2,hp2,ep2⟩:=Kd.mp (hz _ m2);have aw:cB (ps.map (·.nm)) (ps.map (gE ps)) ((nm::r).getD i nm)=some (gE ps p):=by
         rw [<-ep,jd (f:=gE ps) gp.nd hp]
        have ek:d5 ps ((nm::r).getD i nm)=(bY ps p).map (·.nm):=by rw [<-ep,A5 gp.nd hp]
        refine⟨_,a1,_,_,rfl,_,a2,_,rfl,_,aw,_,rfl,_,ig,_,.inl rfl,cj.mpr (by rw [<-ep2];exact gp.nm p2 hp2),rE λm hm=>?_,?_⟩
        ·obtain⟨p3,hp3,ep3⟩:=Kd.mp hm;rw [<-ep3];exact gp.nm p3 (n5 hp3)
        ·rw [rD,Me,Ku,Ku];congr 2;show Lm _=Lm _;congr 1;dsimp only;rw [ek,ML,Mf,decide_eq_true_iff]
       ·rintro acc rfl;refine⟨_,rfl,?_⟩;rw [ij,MS,show(((r.length+1:Nat):Int) - 1).toNat=r.length by omega];have em:(KU r.length).all (id ∘ λk=>decide (r.getD k nm∈d5 ps ((nm::r).getD k nm)))=je ps nm r:=A7 (ps:=ps) nm r;rw [em];obtain⟨c,hc,hn⟩:=Kd.mp (hz nm KA);have eq:g9 ps (.tuple (.str nm::r.map .str))=je ps nm r:=by
         show(match ps.find? λp=>p.nm==nm with
          | some c=>cJ ps c (r.map .str)
          | none=>false)=_
         rw [<-hn,rV gp.nd hc];exact A6 gp.nd hc
        rw [eq] at q;exact q
  | _=>simpa [fj,g9] using q
theorem rW:∀{a:List Qi},(∀d∈a,thg d=true)->dM a=true
 | [],_=>rfl
 | d::a,h=>by rw [dM,Ks];exact⟨h d KA,rW λx hx=>h x (Kz _ hx)⟩
theorem n8{z:Str}(h:Nm z):thg (.str z)=true:=by
 have:=h.hi;simp only [thg,decide_eq_true_eq];omega
theorem j2{ds:List Qi}(h:∀d∈ds,thg d=true)(hl:ds.length<=1000):jf (.tuple ds):=⟨by rw [thg];exact rW h,λes e=>by cases e;exact hl⟩
theorem Jq{xs:List Qi}{a b:Option Int}:(bI xs a b).length<=xs.length:=by
 unfold bI;rw [KW,LF];omega
theorem Jr{xs:List Qi}{a b:Option Int}{d:Qi}(h:d∈bI xs a b):d∈xs:=by
 unfold bI at h;exact Mo (Lx h)
def Js:List Qi->(Qi->Prop)->Prop:=λds Q=>∃(ns:List Str)(l:List Str),ds=[dG,.list (ns.map .str),.tuple (l.map .str)]/\ns.length=8/\c9 ns/\1<=l.length/\l.length<=30/\c9 l/\∀d:Qi,jf d->Q d
theorem Jt(T:Txt K mg t):aM P w K mg base CX0 2 t.a_t t.d_t ["_law_purse_here","_law_names_here","_law_way"] (aT K Js):=by
 have G_e:=@iH P w _ _ base _ T;refine T.F_t.F.okD nT (λds Q h=>?_) (λ_ _ _ _ H O ds Q E hr h=>?_)
 ·obtain⟨ns,l,rfl,_⟩:=h;rfl
 ·obtain⟨ns,l,rfl,nl,nok,l1,l2,lok,q⟩:=h;refine'⟨_,?A,?B⟩
  case A=>
   refine' ay ?C ?D
   case C=>exact(bE (i:=3) nT.nd rfl Qg (au G_e hr T.F_e (aa (dv 0) (aa (PE.imp (aS bH rfl T.n_len Ko (aJ (dv 2) aK)) (aP bP)) ag))))
   case' D=>refine' ay ?E ?F
   case E=>
    refine' bE (i:=4) nT.nd rfl Qg ?G (hs:=iA)
    case' G=>refine' cY bC bU (df ?H) ?I
    case H=>
     refine' fe ?J
     case' J=>refine' cK ?K
     case' K=>refine' aa ?L ?M
     case L=>
      refine' cY bC bU (df (dv 1)) ?N
      case N=>exact(df (au G_e hr T.F_e (aa (dv 0) (aa (PE.imp (aS bH rfl T.n_len Ko (aJ (dv 1) aK)) (aP bP)) ag))))
     case' M=>refine' aa pq ?O
     case' O=>refine' aa ?P ?Q
     case P=>exact(fe (cK ag))
     case' Q=>refine' aa Fs ?R
     case' R=>refine' aa bT ?S
     case' S=>refine' aa ?T ag
     case T=>exact(bj (aa (ak av ax (dv 2) ae) ag))
    case I=>exact(df (au G_e hr T.F_e (aa (dv 0) (aa ae ag))))
   case' F=>refine' ay ?U ?V
   case U=>
    generalize hG23:OX _ _=eg23;refine' bE (i:=5) nT.nd rfl Qg ?W (hs:=by subst hG23;exact FC)
    case' W=>subst hG23
    refine' fe ?X
    case' X=>refine' cK ?Y
    case' Y=>refine' aa ?Z ?a
    case Z=>exact(gU (df (dv 2)) (cw ae) dX)
    case' a=>refine' aa ?b ?c
    case b=>exact(FA (df (dv 2)))
    case' c=>refine' aa ?d ?e
    case d=>exact(fe (D9 rfl T.n_list Du (aJ (dv 2) aK)))
    case' e=>refine' aa ?f ?g
    case f=>
     refine' aR k8 k9 (dv 2) ?h
     case h=>exact(gU (df (dv 2)) (cw (jM ae)) dX)
    case' g=>refine' aa ?i ?j
    case i=>
     refine' aR k8 k9 ?k ?l
     case k=>
      refine' aR k8 k9 ?m ?n
      case m=>exact(gU (df (dv 2)) dX (cw (dv 3)))
      case n=>exact(bj (aa (dv 4) ag))
     case l=>exact(gU (df (dv 2)) (cw (aR cf bO (dv 3) ae)) dX)
    case' j=>refine' aa pq ?o
    case' o=>refine' aa (bj ag) ?p
    case' p=>refine' aa ?q ag
    case q=>exact(ak av ax (dv 2) ae)
   case' V=>refine' ao ?r
   case r=>exact(aF (ak bC bU (dv 5) (au G_e hr T.F_e (aa (dv 0) (aa ae ag)))))
  case B=>
  clear hr T G_e;walk_at "a";have ll:(Kv J5 l).length=l.length:=J1 _;refine⟨_,rfl,Qc,Qc,λat0 a0 a1=>⟨_,rfl,by rw [J1];omega,by rw [J1];omega,λk k0 k1=>⟨_,rfl,?_⟩⟩⟩;rw [J1] at k1;obtain⟨z,hz,ez⟩:=eV k0 k1;refine⟨_,ez,?_⟩;obtain⟨y0,hy0,ey0⟩:=eV (ss:=l) (i:=0) Qb Qc;have ty:=n8 (lok y0 hy0);refine⟨_,ey0,6,rfl,Qb,Qb,λj j0 j1=>⟨_,rfl,?_⟩⟩;obtain⟨od,eo,ho2⟩:∃od,atI [.str z,MI,L9 [],PyData.dict [],Lm true,Kl [.str y0]] j=some od/\thg od=true:=by
   have:j=0\/j=1\/j=2\/j=3\/j=4\/j=5:=Qc
   rcases this with e | e | e | e | e | e <;> subst e
   ·exact⟨_,rfl,n8 (nok z hz)⟩
   ·exact⟨_,rfl,rfl⟩
   ·exact⟨_,rfl,rfl⟩
   ·exact⟨_,rfl,rfl⟩
   ·exact⟨_,rfl,rfl⟩
   ·exact⟨_,rfl,by rw [thg,dM,dM,ty];rfl⟩
  refine⟨od,eo,?_⟩;have lt:∀d∈l.map J5,thg d=true:=λd hd=>by
   obtain⟨z,hz,rfl⟩:=Kd.mp hd;exact n8 (lok z hz)
  have ct:∀a b,(∀d∈bI (l.map J5) a b,thg d=true)/\(bI (l.map J5) a b).length<=30:=λa b=>⟨λd hd=>lt d (Jr hd),by have:=Jq (xs:=l.map J5) (a:=a) (b:=b);omega⟩;have c1:=λa b=>(ct a b).2;have app:∀a b:List Qi,(∀d∈a,thg d=true)->(∀d∈b,thg d=true)->∀d∈a++b,thg d=true:=λa b ha hb d hd=>by
   rcases Kn.mp hd with h | h
   ·exact ha d h
   ·exact hb d h
  refine⟨by have:=c1 (some (-1)) none;omega,_,rfl,by have:=c1 none (some at0);omega,_,rfl,by rw [Kk,K2];have:=c1 none (some at0);have:=c1 (some (at0+1)) none;omega,_,ey0,8,rfl,Qb,Qb,λv v0 v1=>⟨_,rfl,?_⟩⟩;have:v=0\/v=1\/v=2\/v=3\/v=4\/v=5\/v=6\/v=7:=Qc
  rcases this with e | e | e | e | e | e | e | e <;> subst e
  ·exact⟨_,rfl,q _ (j2 (ct _ _).1 (by have:=c1 (some 1) none;omega))⟩
  ·exact⟨_,rfl,q _ (j2 (λd hd=>lt d (List.mem_reverse.mp hd)) (by rw [Nt];omega))⟩
  ·exact⟨_,rfl,q _ ⟨by rw [thg];exact rW lt,λes e=>by cases e⟩⟩
  ·exact⟨_,rfl,q _ (j2 (app _ _ lt (ct _ _).1) (by rw [Kk];have:=c1 (some (-1)) none;omega))⟩
  ·exact⟨_,rfl,q _ (j2 (app _ _ (app _ _ (ct _ _).1 (λd hd=>by rw [Kr.mp hd];exact ho2)) (ct _ _).1) (by rw [Kk,Kk,K2];have:=c1 none (some at0);have:=c1 (some (at0+1)) none;omega))⟩
  ·exact⟨_,rfl,q _ ⟨rfl,λes e=>by cases e⟩⟩
  ·exact⟨_,rfl,q _ (j2 (λd hd=>by cases hd) Qh)⟩
  ·exact⟨_,rfl,q _ ⟨ty,λes e=>by cases e⟩⟩
def tE(l:List Str):Qi:= .tuple (l.map .str)
structure Sv (nm:Str) (fs ts:List (List Str)):Prop where
 hd:fs.head?=some [nm]
 fl:fs.length<=9
 tl:ts.length<=fs.length
 fo:∀l∈fs,1<=l.length/\l.length<=fs.length/\c9 l
 to:∀l∈ts,1<=l.length/\l.length<=fs.length/\c9 l
theorem Ju{ts:List (List Str)}(h:∀l∈ts,c9 l):Kf (L9 (ts.map tE))=true:=by
 have h:=(dY (n:=2) (ds:=ts.map tE) λd hd=>by
  obtain⟨l,hl,rfl⟩:=Kd.mp hd;exact dY (n:=1) (qf λz hz=>(h l hl z hz).ok)).shp Qb
 simpa [bL,Kf,K0,MD] using h
theorem Jv{ps:List Pp}(nd:(ps.map (·.nm)).Nodup)(z:Str)(a b:Qi):∃a' b',(cB (ps.map (·.nm)) (ps.map (gE ps)) z).getD (.tuple [a,b,.list []])= .tuple [a',b',.list ((d5 ps z).map .str)]:=by
 unfold d5;cases hf:ps.find? λp=>decide (p.nm=z) with
 | none=>
  rw [nZ]
  ·exact⟨a,b,rfl⟩
  ·intro h;obtain⟨p,hp,e⟩:=Kd.mp h;exact absurd (Lc.mp hf p hp) (by simp [e])
 | some p=>
  have hp:=K1 hf;have e:p.nm=z:=by simpa using Ln hf
  rw [<-e,jd (f:=gE ps) nd hp];exact⟨_,_,rfl⟩
theorem Jw{ps:List Pp}{a b:Str}(h:b∈d5 ps a):∃p∈ps,p.nm=b:=by
 unfold d5 at h;split at h
 ·obtain⟨m,hm,e⟩:=Kd.mp h;exact⟨m,n5 hm,e⟩
 ·cases h
def Jx:List Qi->(Qi->Prop)->Prop:=λds Q=>∃(xs:List De)(nm:Str),ds=[jZ (aB xs),.str nm]/\cR xs/\Nm nm/\∀ls:List (List Str),ls≠[]->ls.length<=9->(∀l∈ls,1<=l.length/\l.length<=30/\c9 l)->ls.head?=some [nm]->Q (.list (ls.map λl=>.tuple (l.map .str)))
theorem Jy(T:Txt K mg t):aM P w K mg base CX0 1 t.a_s t.d_s ["_law_web_here","_law_name"] (aT K Jx):=by
 refine T.F_s.F.okD nS (λds Q h=>?_) (λ_ _ _ _ H O ds Q E hr h=>?_)
 ·obtain⟨xs,nm,rfl,_⟩:=h;rfl
 ·obtain⟨xs,nm,rfl,gl,hn,q⟩:=h;refine'⟨_,?A,?B⟩
  case A=>
   refine' ay ?C ?D
   case C=>exact(Hn (i:=2) (j:=3) (m:=1) rfl nS.nd rfl rfl Qb rfl rfl (pv 1) (pv 1) (by rfl))
   case' D=>refine' ay ?E ?F
   case E=>
    refine' GB KS ?G ?H
    case G=>exact(ug (jC hr.units) jD (dw 3) (df (fe (cK ag))) (aG _))
    case' H=>refine' ay ?I ?J
    case I=>exact(Ho (i:=4) (j:=3) nS.nd rfl Qb Qg (pv 3))
    case' J=>refine' ao ?K
    case' K=>refine' kF KS rfl (ak av ax (GU hr.units (dv 0) (ak av ax (dv 4) (jM ae)) (bj (aa ae (aa aL (aa (fe (cK ag)) ag)))) ⟨rfl,rfl,rfl,rfl⟩) ae) ?L bb ?M
    case L=>exact(aY (i:=5) nS.nd rfl Qg)
    case' M=>refine' ao ?N
    case' N=>refine' aW ?O ?P aV
    case O=>exact(aI hV dz (PE.imp (aS bH rfl T.n_len Ko (kD (dw 2) aK)) (aP bP)) ae (aG _))
    case' P=>refine' ay ?Q ?R
    case Q=>
     refine' pB (i:=2) (pv 2) ?S
     case S=>exact(aR k8 k9 (dv 4) (bj (aa (dv 5) ag)))
    case' R=>refine' ao ?T
    case' T=>refine' pB (i:=3) (pv 3) ?U
    case U=>exact(aR k8 k9 (dv 4) (bj (aa (dv 5) ag)))
   case' F=>refine' ao ?V
   case V=>exact(DV (pv 2))
  case B=>
  clear hr T;walk_at "a";unfold yW;walk_at "a";have gp:=gl.good.gp;have pn:∀p∈aB xs,Nm p.nm:=λp hp=>(nY (gl.e _ (lC.mp hp)).dv).1;generalize aB xs=ps at gp pn⊢;unfold xO;refine⟨λm δ=>∃(fs ts:List (List Str))(o4 o5:Option Sl),Sv nm fs ts/\2*(9 - fs.length)+ts.length<=m/\δ=[some (Sl.v (jZ ps)),some (Sl.v (.str nm)),some (Sl.o (fs.map tE)),some (Sl.o (ts.map tE)),o4,o5],⟨_,[[nm]],[[nm]],none,none,?_,J8 _,rfl⟩,?_⟩
  ·have:∀l∈[[nm]],1<=l.length/\l.length<=1/\c9 l:=λl hl=>by
    rw [Kr.mp hl];exact⟨J8 _,J8 _,λz hz=>by rw [Kr.mp hz];exact hn⟩
   exact⟨rfl,Qh,Qh,this,this⟩
  ·rintro m δ ⟨fs,ts,o4,o5,S,hm,rfl⟩;walk_at "a";refine⟨Ju λl hl=>(S.to l hl).2.2,rfl,?_⟩;by_cases h0:ts=[]
   ·subst h0;rw [Qe (by simp [J6,Lz])];refine q fs (λe=>by have:=S.hd;rw [e] at this;cases this) S.fl (λl hl=>?_) S.hd;have h1:=S.fo l hl;have h2:=S.fl;exact⟨h1.1,Qc,h1.2.2⟩
   ·obtain⟨ts',l0,rfl⟩:∃(ts':List (List Str))(l0:List Str),ts=ts'++[l0]:=⟨ts.dropLast,ts.getLast h0,(L7 _).symm⟩;rw [Qf (by cases ts' <;> simp [J6,Lz])];unfold yX;refine⟨tE l0,ts'.map tE,by rw [Ku];rfl,?_⟩;have L0:=S.to l0 Qh;obtain⟨l',z,rfl⟩:∃(l':List Str)(z:Str),l0=l'++[z]:=by
     refine⟨l0.dropLast,l0.getLast (λe=>by rw [e] at L0;exact absurd L0.1 Qh),(L7 _).symm⟩
    have et:tE (l'++[z])= .tuple (l'.map .str++[.str z]):=by unfold tE;rw [Ku];rfl
    rw [et];walk_at "a";obtain⟨a',b',eg⟩:=Jv (z:=z) gp.nd (.int 0) (.str (J4 ""));refine⟨_,_,rfl,_,L2.atI_last _ _,_,rfl,_,eg,_,ig,_,rfl,?_⟩;have mm:2*(9 - fs.length)+ts'.length<=m - 1/\1<=m:=by
     rw [Kk,K2] at hm;omega
    have l0l:=L0.2.1;have l0o:=L0.2.2;rw [Kk,K2] at l0l;refine⟨λi δ=>∃(fs' ts:List (List Str))(o5:Option Sl),Sv nm fs' ts/\fs.length<=fs'.length/\2*(9 - fs'.length)+ts.length<=m - 1/\δ=[some (Sl.v (jZ ps)),some (Sl.v (.str nm)),some (Sl.o (fs'.map tE)),some (Sl.o (ts.map tE)),some (Sl.v (.tuple (l'.map .str++[.str z]))),o5],⟨fs,ts',o5,⟨S.hd,S.fl,by have:=S.tl;rw [Kk,K2] at this;omega,S.fo,λl hl=>S.to l (Ni _ hl)⟩,J8 _,mm.1,rfl⟩,?_,?_⟩
    ·rintro i x δ hx ⟨fs',ts,o5,S',fl',hm',rfl⟩;rw [Kj] at hx;cases hx':(d5 ps z)[i]? with
     | none=>rw [hx'] at hx;cases hx
     | some b=>
      rw [hx'] at hx;cases hx;obtain⟨p,hp,epb⟩:=Jw (Kw hx');have hb:Nm b:=by rw [<-epb];exact pn p hp
      walk_at "a";rw [J1];by_cases h9:(fs'.length:Int) < 9
      ·rw [Qf h9];have f1:=S'.fl;have f2:=S'.tl;have ne:tE (l'++[z]++[b])= .tuple (Kv J5 l'++[J5 z]++[J5 b]):=by unfold tE;rw [Ku,Ku];rfl
       have nok:c9 (l'++[z]++[b]):=λy hy=>by
        rcases Kn.mp hy with h | h
        ·exact l0o y h
        ·rw [Kr.mp h];exact hb
       have N:Sv nm (fs'++[l'++[z]++[b]]) (ts++[l'++[z]++[b]]):=by
        have lf:(fs'++[l'++[z]++[b]]).length=fs'.length+1:=by rw [Kk,K2]
        have nw:1<=(l'++[z]++[b]).length/\(l'++[z]++[b]).length<=fs'.length+1/\c9 (l'++[z]++[b]):=⟨Qh,by rw [Kk,Kk,K2,K2];omega,nok⟩;refine⟨?_,by rw [lf];omega,by rw [lf,Kk,K2];omega,λl hl=>?_,λl hl=>?_⟩
        ·have:=S'.hd;cases fs' with
         | nil=>cases this
         | cons a r=>exact this
        ·rw [lf];rcases Kn.mp hl with h | h
         ·have:=S'.fo l h;exact⟨this.1,Qc,this.2.2⟩
         ·rw [Kr.mp h];exact nw
        ·rw [lf];rcases Kn.mp hl with h | h
         ·have:=S'.to l h;exact⟨this.1,Qc,this.2.2⟩
         ·rw [Kr.mp h];exact nw
       refine⟨by rw [Kk,J1,K2];omega,Qc,by rw [Kk,J1,K2];omega,by rw [J1];omega,_,_,N,by rw [Kk];omega,by simp only [Kk,K2];omega,by rw [Ku,<-ne];rfl,by rw [Ku,<-ne];rfl,_,rfl⟩
      ·rw [Qe h9];exact⟨fs',ts,S',fl',hm',rfl,rfl,_,rfl⟩
    ·rintro δ ⟨fs',ts,o5,S',fl',hm',rfl⟩;exact⟨m - 1,Qc,fs',ts,S',hm',_,_,rfl⟩
end
theorem A8:br (aE nA) ["deeds","words","day","found","deed","known"] ["name","found"] 1 [3] ⟨Ki,[ (J3 ".0",RA),(J3 "name",RA),(J3 "found",Kq)],false,false,[]⟩:= .of
section
variable {P:Qu} {w:Qw} {K:J0} {mg:Str->Option Qj} {base:Qy} {t:cu}
def F_I:List Qi->(Qi->Prop)->Prop:=λds Q=>∃(xs:List Rw)(ws:List Str)(n:Int),ds=[.tuple (xs.map Rw.enc),.tuple (ws.map .str),.int n]/\(∀x∈xs,KJ x.w=true)/\Lf (ws.map .str)=true/\xs.length < 64/\∀res,eR ws n xs res->Q (.list (res.map Rw.enc))
theorem Jz{ws:List Str}{w:Str}:((ws.map J5).any λd=>J6 d (.str w))=decide (w∈ws):=by
 induction ws with
 | nil=>simp
 | cons a ws ih=>
  rw [Kb,LN,ih,fO];by_cases h:a=w
  ·simp [h]
  ·have h':(a==w)=false:=by simpa using h
   rw [h'];simp [Ne.symm h]
theorem JA(T:Txt K mg t):aM P w K mg base CX0 1 t.a_I t.d_I ["deeds","words","day"] (aT K F_I):=by
 refine T.F_I.F.okD nN (λds Q h=>?_) (λ_ _ _ _ H O ds Q E hr h=>?_)
 ·obtain⟨xs,ws,n,rfl,_⟩:=h;rfl
 ·obtain⟨xs,ws,n,rfl,hw,hws,h64,q⟩:=h;refine'⟨_,?A,?B⟩
  case A=>
   refine' ay ?C ?D
   case C=>exact(kT (i:=3) nN.nd rfl Qg qg)
   case' D=>refine' ay ?E ?F
   case E=>
    refine' mB KS rfl (dv 0) ?G bb ?H
    case G=>exact(aY (i:=4) nN.nd rfl Qg)
    case' H=>refine' ao ?I
    case' I=>refine' aW ?J ?K aV
    case J=>exact(PW.pt (dj (aI (kM hr) jH (ak av ax (dv 4) ae) (dv 1) rfl) (dU (aI hW dz (ak av ax (dv 4) ae) (dv 2) (aG _)))))
    case' K=>refine' ay ?L ?M
    case L=>exact(bE (i:=5) nN.nd rfl Qg (xc (i:=3) hr.units (pv 3) (ak av ax (dv 4) ae) ⟨rfl,rfl,rfl,rfl⟩))
    case' M=>refine' ao ?N
    case' N=>refine' aW ?O ?P aV
    case O=>exact(PW.pt (dH (aI B5 Gd (dv 5) pq (aG _)) (eh (aI hV dz (ak av ax (dv 5) ae) (ak av ax (dv 4) ae) (aG _)))))
    case' P=>refine' ao ?Q
    case Q=>exact(qh (i:=3) hr.units (pv 3) (ak av ax (dv 4) ae) (dv 4))
   case' F=>refine' ao ?R
   case' R=>refine' aF ?S
   case' S=>refine' fe ?T
   case T=>exact(gP rfl A8 (df (fe (xj (i:=3) rfl rfl T.n_sorted LH (pv 3)))) bb cg Qb (λ_ _ _ _=>(aY (i:=0) A8.nd rfl Qg)) (λ_ _ _ _=>dA) (λ_ _ _ _=>(kU (i:=1) hr.units (pv 1) (dv 0) (λ_ _=>rfl))))
  case B=>
  clear hr T;walk_at "a";refine⟨λi δ=>∃L o4 o5,c7 ws n (xs.take i) L/\δ=[some (Sl.v (.tuple (xs.map Rw.enc))),some (Sl.v (.tuple (ws.map .str))),some (Sl.v (.int n)),some (Sl.k (dO L)),o4,o5],⟨[],_,_,c7.nil _ _,rfl⟩,?_,?_⟩
  ·rintro i x δ hx ⟨L,o4,o5,hL,rfl⟩;rw [Kj] at hx;cases hx':xs[i]? with
   | none=>rw [hx'] at hx;cases hx
   | some y=>
    rw [hx'] at hx;cases hx;have hy:y∈xs:=Kw hx';have tk:xs.take (i+1)=xs.take i++[y]:=by rw [Le,hx'];rfl
    simp only [Rw.enc];walk_at "a";have hle:L.length < 64:=by have:=hL.le;rw [KW] at this;omega
    have hk:(dO L).length < 16777216:=by unfold dO;rw [J1];omega
    have en:Kl (J5 y.w::J7 y.n::J5 y.nm::y.r)=y.enc:=rfl;refine⟨cj.mpr (hw y hy),hws,?_⟩;rw [Jz];by_cases hin:y.w∈ws
    ·rw [Qf (decide_eq_true hin)];by_cases hn:y.n<=n
     ·rw [Qf hn,jP,en];cases hl:cA L y.nm with
      | none=>
       rw [Qf (show jO ((Option.map Rw.enc none).getD MI)=true from rfl)];exact⟨hk,_,by rw [tk];exact hL.put ⟨hin,hn⟩ (λz e=>by rw [hl] at e;cases e),mV L y.nm y,_,rfl⟩
      | some z=>
       rw [Qe (by simp [jO,Rw.enc])];refine⟨_,rfl,_,cx,_,rfl,?_⟩;split
       ·rename_i hlt;exact⟨hk,_,by rw [tk];exact hL.put ⟨hin,hn⟩ (λz' e=>by rw [hl] at e;cases e;exact hlt),mV L y.nm y,_,rfl⟩
       ·rename_i hlt;exact⟨L,by rw [tk];exact hL.keep hl hlt,rfl,_,rfl⟩
     ·rw [Qe hn];exact⟨L,by rw [tk];exact hL.skip (λz=>hn z.2),rfl,_,rfl⟩
    ·rw [Qe (by simpa using hin)];exact⟨L,by rw [tk];exact hL.skip (λz=>hin z.1),rfl,_,rfl⟩
  ·rintro δ ⟨L,o4,o5,hL,rfl⟩;walk_at "a";rw [J1,Ky (J8 _)] at hL;have hle:L.length < 64:=by have:=hL.le;omega
   refine⟨L.map (·.1),by unfold dO;rw [Kx,Kx];rfl,by rw [J1];exact hle,by rw [J1,(eD _).length_eq,J1];omega,?_⟩;refine p7 (λx=>match x with | .str nm=>((cA L nm).map Rw.enc).getD .none | _=>.none) (λx hx R hR=>?_) ?_
   ·obtain⟨nm,hnm,rfl⟩:=Kd.mp hx;obtain⟨z,hz⟩:=kZ ((eD _).mem_iff.mp hnm);walk_at "a";refine⟨z.enc,by rw [jP,hz];rfl,?_⟩;have hR:R (((cA L nm).map Rw.enc).getD .none):=hR;rw [hz] at hR;exact hR
   ·have e:∀l:List Str,(∀a∈l,a∈L.map (·.1))->(l.map J5).map (λx=>match x with | .str nm=>((cA L nm).map Rw.enc).getD .none | _=>.none)=(l.filterMap (cA L)).map Rw.enc:=by
     intro l
     induction l with
     | nil=>intro _;rfl
     | cons a l ih=>
      intro hl;obtain⟨z,hz⟩:=kZ (hl a Qh);rw [Kb,Kb,L3,hz,ih λb hb=>hl b (by simp [hb])];simp [hz]
    rw [e _ λa ha=>(eD _).mem_iff.mp ha];exact q _ hL.res
end
theorem A9:br (aE nB) ["deeds","day"] ["deed"] 1 [] ⟨Ki,[(J3 ".0",RA),(J3 "deed",RA)],false,false,[]⟩:= .of
theorem Ba:br (aE nK) ["_law_deeds_here","_law_day_here","_law_word","_law_ending","_law_known","_law_deed_here"] ["_law_name","_law_known","_law_word"] 1 [4,2] ⟨Ki,[ (J3 ".0",RA),(J3 "_law_name",RA),(J3 "_law_known",Kq),(J3 "_law_word",Kq)],false,false,[]⟩:= .of
section
variable {P:Qu} {w:Qw} {K:J0} {mg:Str->Option Qj} {base:Qy} {t:cu}
theorem Bb{a b:Str}:(a==b)=decide (a=b):=by
 by_cases h:a=b
 ·simp [h]
 ·rw [dQ h,decide_eq_false h]
def De.rw:De->Rw
 | .pap p=>⟨J4 "paper",p.d,p.nm,[.str p.kd,.tuple (p.ms.map .str)]⟩
 | .oth w d nm r=>⟨w,d,nm,r⟩
theorem De.rw_enc(x:De):x.rw.enc=x.enc:=by cases x <;> rfl
theorem De.rw_w(x:De):x.rw.w=x.w:=by cases x <;> rfl
theorem De.rw_n(x:De):x.rw.n=x.d:=by cases x <;> rfl
theorem De.rw_nm(x:De):x.rw.nm=x.nm:=by cases x <;> rfl
theorem Bc(xs:List De):(xs.map De.rw).map Rw.enc=xs.map De.enc:=by
 rw [Kx];congr 1;funext x;exact x.rw_enc
def Bd(a b:Rw):Prop:=cO a.nm b.nm=true/\a.nm≠b.nm
def Uq(ws:List Str)(n:Int)(xs:List Rw):Prop:=∀x∈xs,∀y∈xs,eQ ws n x->eQ ws n y->x.nm=y.nm->x.n=y.n->x=y
theorem n9{ws:List Str}{n:Int}{xs res:List Rw}(h:eR ws n xs res):res.Pairwise Bd:=by
 have up:=h.up;have nd:=h.nd;rw [La] at up;rw [MW,La] at nd;exact up.and nd
theorem Be{ws:List Str}{n:Int}{xs r1 r2:List Rw}(u:Uq ws n xs)(h1:eR ws n xs r1)(h2:eR ws n xs r2)(x:Rw)(hx:x∈r1):x∈r2:=by
 obtain⟨a1,a2,a3⟩:=h1.it x hx;obtain⟨y,hy,yn⟩:=h2.al x a1 a2;obtain⟨b1,b2,b3⟩:=h2.it y hy;have e:x=y:=u x a1 y b1 a2 b2 yn.symm (Int.le_antisymm (b3 x a1 a2 yn.symm) (a3 y b1 b2 yn));rw [e];exact hy
theorem JB{ws:List Str}{n:Int}{xs r1 r2:List Rw}(u:Uq ws n xs)(h1:eR ws n xs r1)(h2:eR ws n xs r2):r1=r2:=
 lA (r:=Bd) (λa b h z=>h.2 (wc h.1 z.1)) ((NG ((n9 h1).imp λz e=>z.2 (by rw [e])) ((n9 h2).imp λz e=>z.2 (by rw [e]))).mpr λx=>⟨Be u h1 h2 x,Be u h2 h1 x⟩) (n9 h1) (n9 h2)
open Classical in
def rX(ws:List Str)(n:Int)(xs:List Rw):List Rw:=if h:∃r,eR ws n xs r then h.choose else []
theorem Bf{ws:List Str}{n:Int}{xs r:List Rw}(u:Uq ws n xs)(h:eR ws n xs r):r=rX ws n xs:=by
 unfold rX;have e:∃r,eR ws n xs r:=⟨r,h⟩;rw [dif_pos e];exact JB u h e.choose_spec
def gc(ip:Bool)(tn:Str):Qi:= .tuple [.str (if ip=true then J4 "paper" else J4 "kind"),.str tn]
structure Hd where
 nm:Str
 ip:Bool
 tn:Str
 dp:Bool
def Hd.enc(h:Hd):Qi:= .tuple [.str h.nm,gc h.ip h.tn,.bool h.dp]
def d6:List Str:=["hold","lift"]
def lH:List Qi->Bool×Str×Bool
 | [.tuple [.str a,.str b],.bool c]=>(a==J4 "paper",b,c)
 | _=>(false,J4 "",false)
def iI(x:Rw):Hd:=⟨x.nm,(lH x.r).1,(lH x.r).2.1,(lH x.r).2.2⟩
theorem rY{x:Rw}{ip dp:Bool}{tn:Str}(h:x.r=[gc ip tn,.bool dp]):iI x=⟨x.nm,ip,tn,dp⟩:=by
 unfold iI;rw [h];cases ip with
 | true=>simp [gc,lH]
 | false=>simp [gc,lH,dQ (show J4 "kind"≠J4 "paper" by decide+kernel)]
def hG(res:List Rw):List Hd:=(res.filter λx=>x.w==J4 "hold").map iI
def eY(xs:List De)(n:Int):List Hd:=hG (rX d6 n (xs.map De.rw))
theorem JC{w:Str}(h:w∈d6):w=J4 "hold"\/w=J4 "lift":=by
 unfold d6 at h;rcases Kh.mp h with e | h
 ·exact .inl e
 ·rcases Kh.mp h with e | h
  ·exact .inr e
  ·cases h
theorem Bg{x y:De}(hx:x.w∈d6)(hy:y.w∈d6)(hd:x.d=y.d)(hn:x.nm=y.nm):cQ x.enc y.enc=true:=by
 obtain⟨rx,ex⟩:=x.encE;obtain⟨ry,ey⟩:=y.encE;rw [ex,ey];show(J6 _ _ || (x.nm==y.nm && ((x.w==("paper":Str) && y.w==("paper":Str)) || (x.w==("leave":Str) && y.w==("leave":Str)) || (x.d==y.d && ((bt x.w "rule" "end" && bt y.w "rule" "end") || (bt x.w "hold" "lift" && bt y.w "hold" "lift"))))))=true;have hw:∀{w:Str},w∈d6->bt w "hold" "lift"=true:=λ{w} h=>by
  rcases JC h with e | e <;> rw [e] <;> decide+kernel
 rw [hw hx,hw hy,hd,hn];simp
theorem rZ{α:Type}{r:α->α->Prop}:∀{l:List α},l.Pairwise r->∀x∈l,∀y∈l,x≠y->r x y\/r y x
 | a::l,h,x,hx,y,hy,ne=>by
  obtain⟨h1,h2⟩:=K7.mp h;rcases Kh.mp hx with ex | hx1 <;> rcases Kh.mp hy with ey | hy1
  ·exact absurd (ex.trans ey.symm) ne
  ·rw [ex];exact .inl (h1 y hy1)
  ·rw [ey];exact .inr (h1 x hx1)
  ·exact rZ h2 x hx1 y hy1 ne
theorem Bh{xs:List De}{n:Int}(g:cR xs):Uq d6 n (xs.map De.rw):=by
 intro x hx y hy ox oy e1 e2;obtain⟨a,ha,rfl⟩:=Kd.mp hx;obtain⟨b,hb,rfl⟩:=Kd.mp hy;have ow:=ox.1;have pw:=oy.1;rw [De.rw_w] at ow pw;rw [De.rw_nm,De.rw_nm] at e1;rw [De.rw_n,De.rw_n] at e2;have:a=b:=NW λne=>by
  rcases rZ g.q a ha b hb ne with h | h
  ·rw [Bg ow pw e2 e1] at h;cases h
  ·rw [Bg pw ow e2.symm e1.symm] at h;cases h
 rw [this]
theorem JD{d:Int}{nm:Str}{r:List Qi}(h:c5 (De.oth (J4 "hold") d nm r).enc):Nm nm/\∃(ip:Bool)(tn:Str)(dp:Bool),r=[gc ip tn,.bool dp]/\Nm tn:=by
 have e:(De.oth (J4 "hold") d nm r).enc= .tuple (.str (J4 "hold"):: .int d:: .str nm::r):=rfl;rw [e] at h;generalize hd:Kl (.str (J4 "hold"):: .int d:: .str nm::r)=z at h;cases h with
 | @hold n x g y b _ hx hg hy=>
  simp only [LQ,Li,LG,Nc] at hd;obtain⟨_,_,e1,e2⟩:=hd;refine⟨by rw [e1];exact hx,decide (g=J4 "paper"),y,b,?_,hy⟩;rw [e2];unfold gc;simp only [Kh,Lk,or_false] at hg;rcases hg with e | e <;> rw [e] <;> rfl
 | two hw=>
  simp only [LQ,Li,LG] at hd;exact absurd hw (by rw [<-hd.1];decide+kernel)
 | one hw=>
  simp only [LQ,Li,LG] at hd;exact absurd hw (by rw [<-hd.1];decide+kernel)
 | _=>
  simp only [LQ,Li,LG] at hd;exact absurd hd.1 Qa
structure sa (hs:List Hd):Prop where
 le:hs.length<=24
 nd:(hs.map (·.nm)).Nodup
 nm:∀h∈hs,Nm h.nm
 tn:∀h∈hs,Nm h.tn
theorem sf{xs:List De}{n:Int}{res:List Rw}(g:cR xs)(hres:eR d6 n (xs.map De.rw) res):∀x∈res,x.w=J4 "hold"->Nm x.nm/\∃(ip:Bool)(tn:Str)(dp:Bool),x.r=[gc ip tn,.bool dp]/\Nm tn:=λx hx hw=>by
 obtain⟨h1,_,_⟩:=hres.it x hx;obtain⟨y,hy,rfl⟩:=Kd.mp h1;cases y with
 | pap p=>exact absurd hw (by show J4 "paper"≠_;decide+kernel)
 | oth w d nm r=>
  have hw:w=J4 "hold":=hw;subst hw;exact JD (g.e _ hy).dv
theorem Bi{xs:List De}{n:Int}{res:List Rw}(g:cR xs)(hres:eR d6 n (xs.map De.rw) res):sa (hG res):=by
 have fm:=sf g hres;have ml:∀h∈hG res,∃x∈res,x.w=J4 "hold"/\h=iI x:=λh hh=>by
  obtain⟨x,hx,rfl⟩:=Kd.mp hh;obtain⟨hx1,hx2⟩:=Lh.mp hx;exact⟨x,hx1,eq_of_beq hx2,rfl⟩
 refine⟨?_,?_,λh hh=>?_,λh hh=>?_⟩
 ·unfold hG;rw [J1];have h1:=LR (λx:Rw=>x.w==J4 "hold") res;have h2:=hres.le;rw [J1] at h2;have:=g.l;omega
 ·unfold hG;rw [Kx];exact(Mr.map _).nodup hres.nd
 ·obtain⟨x,hx,hw,rfl⟩:=ml h hh;exact(fm x hx hw).1
 ·obtain⟨x,hx,hw,rfl⟩:=ml h hh;obtain⟨_,ip,tn,dp,hp,hk⟩:=fm x hx hw;rw [rY hp];exact hk
theorem cR.wok{xs:List De}(g:cR xs):∀x∈xs.map De.rw,KJ x.w=true:=λx hx=>by
 obtain⟨y,hy,rfl⟩:=Kd.mp hx;rw [De.rw_w];exact(g.e y hy).ws.1
def JE:List Qi->(Qi->Prop)->Prop:=λds Q=>∃(xs:List De)(n:Int),ds=[.tuple (xs.map De.enc),.int n]/\cR xs/\(sa (eY xs n)->Q (.tuple ((eY xs n).map Hd.enc)))
theorem JF(T:Txt K mg t):aM P w K mg base CX0 2 t.a_J t.d_J ["deeds","day"] (aT K JE):=by
 have G_I:=@JA P w _ _ base _ T;refine T.F_J.F.okD Hw (λds Q h=>?_) (λ_ _ _ _ H O ds Q E hr h=>?_)
 ·obtain⟨xs,n,rfl,_⟩:=h;rfl
 ·obtain⟨xs,n,rfl,g,q⟩:=h;refine'⟨_,?A,?B⟩
  case A=>
   refine' ao ?C
   case' C=>generalize hG2:Pw _ _ _ _=eg2
   refine' aF ?D
   case' D=>subst hG2
   exact(PE.imp (fJ jq rfl T.n_tuple eN (aJ (fe (gP rfl A9 (df (au G_I hr T.F_I (aa (dv 0) (aa (bj (aa aL (aa aL ag))) (aa (dv 1) ag))))) bb cg Qb (λ_ _ _ _=>(aY (i:=0) A9.nd rfl Qg)) (λ_ _ _ _=>(gM (aI (cH hr) cI (ak av ax (dv 0) ae) aL (aG _)))) (λ_ _ _ _=>(bj (aa (ak av ax (dv 0) ae) (aa (ak av ax (dv 0) ae) (aa (ak av ax (dv 0) ae) ag))))))) aK)) (aP jE))
  case B=>
  clear hr T G_I;have hl:(xs.map De.rw).length < 64:=by rw [J1];have:=g.l;omega
  walk_at "a";refine⟨xs.map De.rw,d6,n,by rw [Bc];rfl,g.wok,Qa,hl,λres hres=>⟨_,rfl,?_,?_⟩⟩
  ·rw [J1];have:=hres.le;omega
  have fm:=sf g hres;have e:=Bf (Bh g) hres;have q:Q (.tuple ((hG res).map Hd.enc)):=by
   have h1:=Bi g hres;rw [e] at h1⊢;exact q h1
  refine fA (enc:=Rw.enc) (λx=>x.w==J4 "hold") (λx=>(iI x).enc) (λx hx R S h=>?_) ?_
  ·simp only [Rw.enc];walk_at "a";by_cases hr:(x.w==J4 "hold")=true
   ·rw [Qf hr] at h⊢;obtain⟨_,ip,tn,dp,hp,_⟩:=fm x hx (eq_of_beq hr);rw [rY hp] at h;rw [hp];exact⟨_,iW,_,mJ,h⟩
   ·rw [Qe hr] at h⊢;exact h
  ·have e2:(O7 (λx=>x.w==J4 "hold") res).map (λx=>(iI x).enc)=(hG res).map Hd.enc:=by unfold hG;rw [Kx];rfl
   rw [e2];exact q
def j3(z:Int×Hd):Qi:= .tuple [.str (J4 "hold"),.int z.1,.str z.2.nm,gc z.2.ip z.2.tn,.bool z.2.dp]
def JG:List Qi->(Qi->Prop)->Prop:=λds Q=>∃(xs:List De)(n:Int),ds=[.tuple (xs.map De.enc),.int n,.str (J4 "hold"),.str (J4 "lift")]/\cR xs/\∀L:List (Int×Hd),L.map (·.2)=eY xs n->sa (eY xs n)->Q (.list (L.map j3))
def j4(L:Ls)(nm:Str):Bool:=match cA L nm with
 | some z=>z.w==J4 "hold"
 | none=>false
theorem Bj(L:Ls):∀ns:List Str,(∀a∈ns,a∈L.map (·.1))->(ns.filter (j4 L)).map (λnm=>((cA L nm).map Rw.enc).getD .none)=((ns.filterMap (cA L)).filter λx=>x.w==J4 "hold").map Rw.enc
 | [],_=>rfl
 | a::ns,h=>by
  obtain⟨z,hz⟩:=kZ (h a Qh);have ih:=Bj L ns λb hb=>h b (by simp [hb]);rw [L6,L3,hz];simp only [L6];have e:j4 L a=(z.w==J4 "hold"):=by unfold j4;rw [hz]
  rw [e];by_cases hr:(z.w==J4 "hold")=true
  ·rw [Qf hr,Qf hr,Kb,Kb,ih,hz];rfl
  ·rw [Qe hr,Qe hr,ih]
theorem Bk(T:Txt K mg t):aM P w K mg base CX0 1 t.a_p t.d_p ["_law_deeds_here","_law_day_here","_law_word","_law_ending"] (aT K JG):=by
 refine T.F_p.F.okD rn (λds Q h=>?_) (λ_ _ _ _ H O ds Q E hr h=>?_)
 ·obtain⟨xs,n,rfl,_⟩:=h;rfl
 ·obtain⟨xs,n,rfl,g,q⟩:=h;refine'⟨_,?A,?B⟩
  case A=>
   refine' ay ?C ?D
   case C=>exact(kT (i:=4) rn.nd rfl Qg qg)
   case' D=>refine' ay ?E ?F
   case E=>
    refine' mB KS rfl (dv 0) ?G bb ?H
    case G=>exact(aY (i:=5) rn.nd rfl Qg)
    case' H=>refine' ao ?I
    case' I=>refine' aW ?J ?K aV
    case J=>exact(PW.pt (dj (aI (kM hr) jH (ak av ax (dv 5) ae) (bj (aa (dv 2) (aa (dv 3) ag))) rfl) (dU (aI hW dz (ak av ax (dv 5) ae) (dv 1) (aG _)))))
    case' K=>refine' ao ?L
    case' L=>refine' aW ?M ?N aV
    case M=>exact(PW.pt (dH (xk (i:=4) hr.units (pv 4) (ak av ax (dv 5) ae)) (eh (aI hV dz (ak av ax (kU (i:=4) hr.units (pv 4) (ak av ax (dv 5) ae) (λ_ _=>rfl)) ae) (ak av ax (dv 5) ae) (aG _)))))
    case' N=>refine' ao ?O
    case O=>exact(qh (i:=4) hr.units (pv 4) (ak av ax (dv 5) ae) (dv 5))
   case' F=>refine' ao ?P
   case' P=>refine' aF ?Q
   case' Q=>refine' fe ?R
   case R=>exact(gP rfl Ba (df (fe (xj (i:=4) rfl rfl T.n_sorted LH (pv 4)))) bb cg Qb (λ_ _ _ _=>(aY (i:=0) Ba.nd rfl Qg)) (λ_ _ _ _=>(gM (aI (bA hr.units) bB (ak av ax (kU (i:=1) hr.units (pv 1) (dv 0) (λ_ _=>rfl)) ae) (dv 2) (aG _)))) (λ_ _ _ _=>(kU (i:=1) hr.units (pv 1) (dv 0) (λ_ _=>rfl))))
  case B=>
  clear hr T;walk_at "a";rw [<-Bc];have wok:=g.wok;have h64:(xs.map De.rw).length<=24:=by rw [J1];exact g.l
  have q:∀res,eR d6 n (xs.map De.rw) res->Q (.list ((res.filter λx=>x.w==J4 "hold").map Rw.enc)):=λres hres=>by
   have e:=Bf (Bh g) hres;have h1:=Bi g hres;have fm:=sf g hres;have e3:(res.filter λx=>x.w==J4 "hold").map Rw.enc=((res.filter λx=>x.w==J4 "hold").map λx=>(x.n,iI x)).map j3:=by
    rw [Kx];refine MJ λx hx=>?_;obtain⟨hx1,hx2⟩:=Lh.mp hx;obtain⟨_,ip,tn,dp,hp,_⟩:=fm x hx1 (eq_of_beq hx2);show x.enc=j3 (x.n,iI x);rw [rY hp];unfold Rw.enc j3;rw [hp,eq_of_beq hx2]
   rw [e3];have e4:eY xs n=hG res:=by unfold eY;rw [<-e]
   refine q _ ?_ (by rw [e4];exact h1);rw [e4,Kx];rfl
  generalize xs.map De.rw=ys at wok h64 q⊢;clear g;refine⟨λi δ=>∃L o5,c7 d6 n (ys.take i) L/\δ=[some (Sl.v (.tuple (ys.map Rw.enc))),some (Sl.v (.int n)),some (Sl.v (.str (J4 "hold"))),some (Sl.v (.str (J4 "lift"))),some (Sl.k (dO L)),o5],⟨[],_,c7.nil _ _,rfl⟩,?_,?_⟩
  ·rintro i x δ hx ⟨L,o5,hL,rfl⟩;rw [Kj] at hx;cases hx':ys[i]? with
   | none=>rw [hx'] at hx;cases hx
   | some y=>
    rw [hx'] at hx;cases hx;have hy:y∈ys:=Kw hx';have tk:ys.take (i+1)=ys.take i++[y]:=by rw [Le,hx'];rfl
    simp only [Rw.enc];walk_at "a";have hle:L.length < 64:=by have:=hL.le;rw [KW] at this;omega
    have hk:(dO L).length < 16777216:=by unfold dO;rw [J1];omega
    have en:Kl (J5 y.w::J7 y.n::J5 y.nm::y.r)=y.enc:=rfl;refine⟨cj.mpr (wok y hy),Qa,?_⟩;have ein:(J4 "hold"==y.w || J4 "lift"==y.w)=decide (y.w∈d6):=by
     rw [Bb,Bb,<-Bool.decide_or];refine decide_eq_decide.mpr ?_;unfold d6;rw [Kh,Kh];exact⟨λh=>h.imp Eq.symm λh=>.inl h.symm,λh=>h.imp Eq.symm λh=>h.elim Eq.symm λh=>absurd h Lk⟩
    rw [ein];by_cases hin:y.w∈d6
    ·rw [Qf (decide_eq_true hin)];by_cases hn:y.n<=n
     ·rw [Qf hn,jP,en];cases hl:cA L y.nm with
      | none=>
       rw [Qf (by rfl)];exact⟨hk,_,by rw [tk];exact hL.put ⟨hin,hn⟩ (λz e=>by rw [hl] at e;cases e),mV L y.nm y,_,rfl⟩
      | some z=>
       rw [Qe Qh];refine⟨_,rfl,_,rfl,_,cx,_,rfl,?_⟩;split
       ·rename_i hlt;exact⟨hk,_,by rw [tk];exact hL.put ⟨hin,hn⟩ (λz' e=>by rw [hl] at e;cases e;exact hlt),mV L y.nm y,_,rfl⟩
       ·rename_i hlt;exact⟨L,by rw [tk];exact hL.keep hl hlt,rfl,_,rfl⟩
     ·rw [Qe hn];exact⟨L,by rw [tk];exact hL.skip (λz=>hn z.2),rfl,_,rfl⟩
    ·rw [Qe (by simpa using hin)];exact⟨L,by rw [tk];exact hL.skip (λz=>hin z.1),rfl,_,rfl⟩
  ·rintro δ ⟨L,o5,hL,rfl⟩;walk_at "a";rw [J1,Ky (J8 _)] at hL;have hle:L.length < 64:=by have:=hL.le;omega
   have sp:=eD (L.map (·.1));refine⟨L.map (·.1),by unfold dO;rw [Kx,Kx];rfl,by rw [J1];exact hle,by rw [J1,sp.length_eq,J1];omega,?_⟩;refine fA (j4 L) (λnm=>((cA L nm).map Rw.enc).getD .none) (λnm hnm R S h=>?_) ?_
   ·obtain⟨z,hz⟩:=kZ (sp.mem_iff.mp hnm);walk_at "a";refine⟨z.enc,by rw [jP,hz];rfl,_,rfl,_,cM,?_⟩;obtain⟨p,hp,_,e⟩:=kY hz;have zy:z∈ys:=by rw [<-e];exact(hL.it p hp).2.1
    have e2:j4 L nm=(z.w==J4 "hold"):=by unfold j4;rw [hz]
    rw [e2,hz] at h;refine⟨cj.mpr (wok z zy),Qa,?_⟩;rw [fO];split
    ·rename_i h1;rw [Qf h1] at h;exact⟨z.enc,by rw [jP,hz];rfl,h⟩
    ·rename_i h1;rw [Qe h1] at h;exact h
   ·rw [Bj L _ λa ha=>sp.mem_iff.mp ha];exact q _ hL.res
def iJ(ip:Bool)(tn:Str)(c:Pp):Bool:=tn==if ip=true then c.nm else c.kd
def Bl:List Qi->(Qi->Prop)->Prop:=λds Q=>∃(ip:Bool)(tn:Str)(c:Pp),ds=[gc ip tn,c.enc]/\KJ tn=true/\KJ c.nm=true/\KJ c.kd=true/\Q (.bool (iJ ip tn c))
theorem JH(T:Txt K mg t):aM P w K mg base CX0 1 t.a_K t.d_K ["target","coming"] (aT K Bl):=by
 refine T.F_K.F.okD Hx (λds Q h=>?_) (λ_ _ _ _ H O ds Q E hr h=>?_)
 ·obtain⟨ip,tn,c,rfl,_⟩:=h;rfl
 ·obtain⟨ip,tn,c,rfl,h1,h2,h3,q⟩:=h;refine'⟨_,?A,?B⟩
  case A=>
   refine' ao ?C
   case' C=>refine' aF ?D
   case D=>exact(bV (bA hr.units) bB (df (ak av ax (dv 0) ae)) (df (DQ (aI (cH hr) cI (ak av ax (dv 0) ae) aL (aG _)) (ak av ax (dv 1) ae) (ak av ax (dv 1) ae))) (aG _))
  case B=>
  clear hr T;simp only [gc,Pp.enc];unfold iJ at q;cases ip with
  | true=>
   walk_at "a";exact⟨cj.mpr h1,cj.mpr h2,q⟩
  | false=>
   walk_at "a";rw [Qe (show ¬(J4 "kind"==J4 "paper")=true by decide+kernel)];exact⟨cj.mpr h1,cj.mpr h3,q⟩
def JI:List Qi->(Qi->Prop)->Prop:=λds Q=>∃n:Int,ds=[.int n]/\0<=n/\Q (.bool true)
theorem JJ(T:Txt K mg t):aM P w K mg base CX0 2 t.a_X t.d_X ["thing"] (aT K JI):=by
 have G_A:=@rp P w _ _ base _ T;refine T.F_X.F.okD HH (λds Q h=>?_) (λ_ _ _ _ H O ds Q E hr h=>?_)
 ·obtain⟨n,rfl,_⟩:=h;rfl
 ·obtain⟨n,rfl,hn,q⟩:=h;refine'⟨_,?A,?B⟩
  case A=>
   refine' ao ?C
   case' C=>refine' aF ?D
   case D=>exact(bX (au G_A hr T.F_A (aa (dv 0) ag)) (cE (bV tf dz (df (dv 0)) (df ae) (aG _))))
  case B=>
  clear hr T G_A;walk_at "a";refine⟨_,rfl,rfl,?_⟩;simp [i4,hn];exact q
def oe(ps:List Pp)(nm:Str):Bool:=decide (nm∈ps.map (·.nm))
def JK:List Qi->(Qi->Prop)->Prop:=λds Q=>∃(xs:List De)(n:Int)(nm:Str),ds=[.tuple (xs.map De.enc),.int n,.str nm]/\fY xs/\0<=n/\KJ nm=true/\Q (.bool (oe (aB xs) nm))
theorem JL(T:Txt K mg t):aM P w K mg base CX0 6 t.a_Z t.d_Z ["deeds","day","paper"] (aT K JK):=by
 have G_X:=@JJ P w _ _ base _ T;have G_F:=@Im P w _ _ base _ T;refine T.F_Z.F.okD HI (λds Q h=>?_) (λ_ _ _ _ H O ds Q E hr h=>?_)
 ·obtain⟨xs,n,nm,rfl,_⟩:=h;rfl
 ·obtain⟨xs,n,nm,rfl,g,hn,hs,q⟩:=h;refine'⟨_,?A,?B⟩
  case A=>
   refine' ao ?C
   case' C=>refine' aF ?D
   case D=>exact(bX (au G_X hr T.F_X (aa (dv 1) ag)) (cE (bV (kM hr) jH (df (dv 2)) (df (au G_F hr T.F_F (aa (dv 0) ag))) rfl)))
  case B=>
  clear hr T G_X G_F;walk_at "a";have cl:Lf (((dP (aB xs)).map (·.nm)).map .str)=true:=rE λm hm=>by
   obtain⟨p,hp,rfl⟩:=Kd.mp hm;exact g.gp.nm p (jb.mp hp)
  refine⟨n,rfl,hn,true,rfl,?_⟩;rw [Qf rfl];refine⟨xs,rfl,g,_,.inr rfl,cj.mpr hs,cl,?_⟩;rw [rD];have e:((dP (aB xs)).map (·.nm)).contains nm=oe (aB xs) nm:=by
   unfold oe;rw [ML,Mf,decide_eq_true_iff];constructor <;> intro h <;> obtain⟨p,hp,e⟩:=Kd.mp h
   ·exact Kd.mpr ⟨p,jb.mp hp,e⟩
   ·exact Kd.mpr ⟨p,jb.mpr hp,e⟩
  rw [e];exact q
theorem Bm{ps:List Pp}{c:Pp}{l:List Qi}(hc:c∈ps)(h:eX ps c (.tuple l)=true):∃(zs:List Str),l=zs.map .str/\zs≠[]/\∀z∈zs,z∈ps.map (·.nm):=by
 cases l with
 | nil=>simp [eX] at h
 | cons e es=>
  have wd:eX ps c (.tuple (e::es))=(J6 e (.str c.nm) && cJ ps c es):=rfl;rw [wd,Ks] at h;have al:(e::es).all (gb ps)=true:=by
   rw [Lj];intro x hx;rcases Kh.mp hx with z | z
   ·rw [z,rN h.1];exact decide_eq_true (Kd.mpr ⟨c,hc,rfl⟩)
   ·obtain⟨y,hy,rfl⟩:=rS h.2 x z;exact decide_eq_true hy
  obtain⟨zs,ez,hz⟩:=rT al;exact⟨zs,ez,(λe=>by rw [e] at ez;cases ez),hz⟩
def fB(hold:Str)(l:List Qi)(h:Hd):Bool:=h.nm==hold && (h.dp || decide (l.length=1))
def lI(ps:List Pp)(l:List Qi):Option Pp:=match l.getLast? with
 | some (.str z)=>ps.find? λp=>p.nm==z
 | _=>none
def eZ(ps:List Pp)(hs:List Hd)(hold:Str)(l:List Qi):Bool:=match hs.find? (fB hold l) with
 | some h=>match lI ps l with
  | some c=>iJ h.ip h.tn c
  | none=>false
 | none=>false
def fb(ps:List Pp)(nm:Str)(d:Qi):Bool:=match ps.find? λp=>p.nm==nm with
 | none=>false
 | some c=>eX ps c d
def jg(ps:List Pp)(hs:List Hd)(nm hold:Str):Qi->Bool
 | .tuple l=>fb ps nm (.tuple l) && eZ ps hs hold l
 | _=>false
theorem oh{ps:List Pp}{hs:List Hd}{nm hold:Str}{d:Qi}(h:fb ps nm d=false):jg ps hs nm hold d=false:=by
 unfold jg;split
 ·rw [h,MT]
 ·rfl
def JM:List Qi->(Qi->Prop)->Prop:=λds Q=>∃(xs:List De)(n:Int)(nm o:Str)(d:Qi),ds=[.tuple (xs.map De.enc),.int n,.str nm,.str o,d]/\cR xs/\0<=n/\KJ nm=true/\Nm o/\jf d/\Q (.bool (jg (aB xs) (eY xs n) nm o d))
theorem JN(T:Txt K mg t):aM P w K mg base CX0 8 t.a_a t.d_a ["deeds","day","paper","hold","grounds"] (aT K JM):=by
 have G_Z:=@JL P w _ _ base _ T;have G_Y:=@Ji P w _ _ base _ T;have G_J:=@JF P w _ _ base _ T;have G_K:=@JH P w _ _ base _ T;have G_E:=@AA P w _ _ base _ T;refine T.F_a.F.okD nO (λds Q h=>?_) (λ_ _ _ _ H O ds Q E hr h=>?_)
 ·obtain⟨xs,n,nm,o,d,rfl,_⟩:=h;rfl
 ·obtain⟨xs,n,nm,o,d,rfl,gl,hn,hs,ho,hd,q⟩:=h;refine'⟨_,?A,?B⟩
  case A=>
   refine' ay ?C ?D
   case C=>
    refine' aW ?E ?F aV
    case E=>exact(PW.pt (dH (dJ (cD (au G_Z hr T.F_Z (aa (dv 0) (aa (dv 1) (aa (dv 2) ag)))))) (eh (dJ (cD (au G_Y hr T.F_Y (aa (dv 0) (aa (dv 2) (aa (dv 4) ag)))))))))
    case F=>refine' ao (aF bT)
   case' D=>refine' ay ?G ?H
   case G=>
    refine' mB KS rfl (au G_J hr T.F_J (aa (dv 0) (aa (dv 1) ag))) ?I (mz (gn bb (gn bb (gn bb my)))) ?J
    case I=>exact(ke (n:=3) rfl (fg (aY (i:=5) nO.nd rfl Qg) (fg (aY (i:=6) nO.nd rfl Qg) (fg (aY (i:=7) nO.nd rfl Qg) kc))))
    case' J=>refine' ao ?K
    case' K=>refine' aW ?L ?M aV
    case L=>exact(PW.pt (dj (aI (bA hr.units) bB (dv 5) (dv 3) (aG _)) (dU (PW.pt (dH (cD (dv 7)) (eh (aI (bA hr.units) bB (PE.imp (aS bH rfl T.n_len Ko (aJ (dv 4) aK)) (aP bP)) ae (aG _))))))))
    case' M=>refine' ao ?N
    case' N=>refine' aF ?O
    case O=>exact(au G_K hr T.F_K (aa (dv 6) (aa (au G_E hr T.F_E (aa (dv 0) (aa (ak av ax (dv 4) (jM ae)) ag))) ag)))
   case H=>refine' ao (aF bT)
  case B=>
  clear hr T G_Z G_Y G_J G_K G_E;walk_at "a";have g:=gl.good;have gp:=g.gp;refine⟨xs,n,nm,rfl,g,hn,hs,_,rfl,?_⟩;unfold oe;cases hf:(aB xs).find? λp=>p.nm==nm with
  | none=>
   have e:decide (nm∈(aB xs).map (·.nm))=false:=by
    rw [decide_eq_false_iff_not];intro z;obtain⟨p,hp,e⟩:=Kd.mp z;exact absurd (beq_iff_eq.mpr e) (by simpa using Lc.mp hf p hp)
   rw [e,Qf rfl];rw [oh (by unfold fb;rw [hf])] at q;exact q
  | some c=>
   have hc:=K1 hf;have he:c.nm=nm:=beq_iff_eq.mp (by simpa using Ln hf);have e:decide (nm∈(aB xs).map (·.nm))=true:=decide_eq_true (Kd.mpr ⟨c,hc,he⟩);rw [e,Qe Qh];refine⟨xs,c,d,by rw [he],g,hc,hd.1,hd.2,_,rfl,?_⟩;have bd:fb (aB xs) nm d=eX (aB xs) c d:=by unfold fb;rw [hf]
   cases hw:eX (aB xs) c d with
   | false=>
    rw [hw] at bd;rw [oh bd] at q;exact q
   | true=>
    rw [hw] at bd;rw [Qe Qh];cases d with
    | tuple l=>
     have cd:jg (aB xs) (eY xs n) nm o (.tuple l)=eZ (aB xs) (eY xs n) o l:=by
      show(fb (aB xs) nm (.tuple l) && _)=_;rw [bd,Lb]
     rw [cd] at q;refine⟨xs,n,rfl,gl,λhk=>?_⟩;generalize hhs:eY xs n=hs at hk q⊢;obtain⟨zs,rfl,z0,hz⟩:=Bm hc hw;refine⟨_,rfl,λi δ=>(∀h∈hs.take i,fB o (zs.map .str) h=false)/\∃o5 o6 o7,δ=[some (Sl.v (Kl (Kv De.enc xs))),some (Sl.v (J7 n)),some (Sl.v (J5 nm)),some (Sl.v (J5 o)),some (Sl.v (Kl (zs.map .str))),o5,o6,o7],⟨Qh,_,_,_,rfl⟩,?_,?_⟩
     ·rintro i z δ hi ⟨hb,o5,o6,o7,rfl⟩;rw [Kj] at hi;cases hi':hs[i]? with
      | none=>rw [hi'] at hi;cases hi
      | some h=>
       rw [hi'] at hi;cases hi;have hm:=Kw hi';have tk:hs.take (i+1)=hs.take i++[h]:=by rw [Le,hi'];rfl
       simp only [Hd.enc];walk_at "a";have no:fB o (zs.map .str) h=false->(∀h'∈hs.take (i+1),fB o (zs.map .str) h'=false):=λe h' hh=>by
        rw [tk] at hh;rcases Kn.mp hh with a | a
        ·exact hb h' a
        ·rw [Kr.mp a];exact e
       have yes:fB o (zs.map .str) h=true->∃d,atI (Kv J5 zs) (-1)=some d/\Az [Kl (Kv De.enc xs),d] λd=>Bl [gc h.ip h.tn,d] Q:=λe=>by
        obtain⟨y,z,ey⟩:∃(y:List Str)(z:Str),zs=y++[z]:=⟨zs.dropLast,zs.getLast z0,(L7 _).symm⟩;obtain⟨p,hp,ep⟩:=Kd.mp (hz z (by rw [ey];simp));have hf:hs.find? (fB o (zs.map .str))=some h:=by
         have sp:hs=hs.take i++h::hs.drop (i+1):=by
          have hi2:=(Kg.mp hi');obtain⟨hlt,hge⟩:=hi2;rw [<-hge,<-LU hlt,Nf]
         rw [sp,O5,Lc.mpr λh' hh=>by rw [hb h' hh];simp,Oj e];rfl
        have lp:lI (aB xs) (zs.map .str)=some p:=by
         unfold lI;rw [ey,Ku,OC];show(aB xs).find? (λp=>p.nm==z)=some p;rw [<-ep];exact rV gp.nd hp
        have cv:eZ (aB xs) hs o (zs.map .str)=iJ h.ip h.tn p:=by
         unfold eZ;rw [hf,lp]
        rw [cv] at q;refine⟨.str z,by rw [ey,Ku];exact L2.atI_last _ _,xs,p,by rw [ep],g,hp,h.ip,h.tn,p,rfl,(hk.tn h hm).ok,gp.nm p hp,gp.kd p hp,q⟩
       refine⟨cj.mpr (hk.nm h hm).ok,cj.mpr ho.ok,?_⟩;unfold fB at no yes;cases e1:(h.nm==o) with
       | false=>rw [Qe Qh];exact⟨no (by rw [e1];rfl),_,rfl⟩
       | true=>
        rw [Qf rfl];rw [e1] at no yes;cases e2:h.dp with
        | true=>rw [Qf rfl];exact yes (by rw [e2];rfl)
        | false=>
         rw [Qe Qh];rw [e2,L1,Lb] at no yes;by_cases e3:(zs.map J5).length=1
         ·rw [Qf (by rw [e3];rfl)];exact yes (decide_eq_true e3)
         ·rw [Qe (by rw [beq_iff_eq];omega)];exact⟨no (decide_eq_false e3),_,rfl⟩
     ·rintro δ ⟨hb,o5,o6,o7,rfl⟩;walk_at "a";rw [J1,Ky (J8 _)] at hb;have e:eZ (aB xs) hs o (zs.map .str)=false:=by
       unfold eZ;rw [Lc.mpr λh hh=>by rw [hb h hh];simp]
      rw [e] at q;exact q
    | _=>simp [eX] at hw
def JO:List Qi->(Qi->Prop)->Prop:=λds Q=>∃(xs:List De)(n:Int)(nm o:Str)(d:Qi),ds=[.tuple [.str (J4 "covered"),.tuple (xs.map De.enc),.int n,.str nm,.str o],d]/\cR xs/\0<=n/\KJ nm=true/\Nm o/\jf d/\Q (.bool (jg (aB xs) (eY xs n) nm o d))
theorem JP(T:Txt K mg t):aM P w K mg base CX0 9 t.a_b t.d_b ["claim","grounds"] (aT K JO):=by
 have G_W:=@Jg P w _ _ base _ T;have G_a:=@JN P w _ _ base _ T;refine T.F_b.F.okD rh (λds Q h=>?_) (λ_ _ _ _ H O ds Q E hr h=>?_)
 ·obtain⟨xs,n,nm,o,d,rfl,_⟩:=h;rfl
 ·obtain⟨xs,n,nm,o,d,rfl,g,hn,hs,ho,hd,q⟩:=h;refine'⟨_,?A,?B⟩
  case A=>
   refine' ay ?C ?D
   case C=>
    refine' aW ?E ?F aV
    case E=>exact(PW.pt (dH (dJ (cD (eS (K':=K) (T:="tuple") rfl rfl T.n_isinstance eM (df (dv 0)) (eL (v:= .ty "tuple") rfl T.n_tuple eN rfl)))) (dH (aI hV dz (PE.imp (aS bH rfl T.n_len Ko (aJ (dv 0) aK)) (aP bP)) ae (aG _)) (eh (dJ (cD (au G_W hr T.F_W (aa (ak av ax (dv 0) ae) ag))))))))
    case F=>refine' ao (aF bT)
   case' D=>refine' ay ?G ?H
   case G=>exact(bE (i:=2) rh.nd rfl Qg (ak av ax (dv 0) ae))
   case' H=>refine' ay ?I ?J
   case I=>exact(bE (i:=3) rh.nd rfl Qg (ak av ax (dv 0) ae))
   case' J=>refine' ay ?K ?L
   case K=>
    refine' aW ?M ?N aV
    case M=>exact(PW.pt (dj (aI (cH hr) cI (dv 2) aL (aG _)) (dU (aI (bA hr.units) bB (PE.imp (aS bH rfl T.n_len Ko (aJ (dv 0) aK)) (aP bP)) ae (aG _)))))
    case N=>refine' ao jN
   case' L=>refine' ay ?O ?P
   case O=>
    refine' aW ?Q ?R aV
    case Q=>exact(PW.pt (dj (aI (cH hr) cI (dv 2) aL (aG _)) (dU (aI (bA hr.units) bB (PE.imp (aS bH rfl T.n_len Ko (aJ (dv 0) aK)) (aP bP)) ae (aG _)))))
    case R=>refine' ao jN
   case' P=>refine' ay ?S ?T
   case S=>
    refine' aW ?U ?V aV
    case U=>exact(PW.pt (dj (aI (cH hr) cI (dv 2) aL (aG _)) (dU (aI (bA hr.units) bB (PE.imp (aS bH rfl T.n_len Ko (aJ (dv 0) aK)) (aP bP)) ae (aG _)))))
    case V=>refine' ao jN
   case' T=>refine' ay ?W ?X
   case W=>
    refine' aW ?Y ?Z aV
    case Y=>exact(PW.pt (dj (aI (cH hr) cI (dv 2) aL (aG _)) (dU (aI (bA hr.units) bB (PE.imp (aS bH rfl T.n_len Ko (aJ (dv 0) aK)) (aP bP)) ae (aG _)))))
    case' Z=>refine' ao ?a
    case' a=>refine' aF ?b
    case b=>exact(au G_a hr T.F_a (aa (dv 3) (aa (ak av ax (dv 0) ae) (aa (ak av ax (dv 0) ae) (aa (ak av ax (dv 0) ae) (aa (dv 1) ag))))))
   case' X=>refine' ay ?c ?d
   case c=>
    refine' aW ?e ?f aV
    case e=>exact(PW.pt (dj (aI (cH hr) cI (dv 2) aL (aG _)) (dU (aI (bA hr.units) bB (PE.imp (aS bH rfl T.n_len Ko (aJ (dv 0) aK)) (aP bP)) ae (aG _)))))
    case f=>refine' ao jN
   case' d=>refine' ay ?g ?h
   case g=>
    refine' aW ?i ?j aV
    case i=>exact(PW.pt (dj (aI (cH hr) cI (dv 2) aL (aG _)) (dU (aI (bA hr.units) bB (PE.imp (aS bH rfl T.n_len Ko (aJ (dv 0) aK)) (aP bP)) ae (aG _)))))
    case j=>refine' ao jN
   case h=>refine' ao (aF bT)
  case B=>
  clear hr T G_W G_a;walk_at "a";simp only [iZ];walk_at "a";refine⟨λ_=>trivial,?_⟩;rw [Qe (by simp [fj]),Qe Qb];refine⟨xs,rfl,g,true,rfl,?_⟩;rw [Qe Qh];exact⟨xs,n,nm,o,d,rfl,g,hn,hs,ho,hd,q⟩
theorem JQ{ps:List Pp}{d:Qi}(h:g9 ps d=true):∃(c:Pp)(es:List Qi),c∈ps/\(ps.find? λp=>p.nm==c.nm)=some c/\d= .tuple (.str c.nm::es)/\cJ ps c es=true:=by
 unfold g9 at h;split at h
 ·rename_i z es;cases hf:ps.find? λp=>p.nm==z with
  | none=>rw [hf] at h;cases h
  | some c=>
   rw [hf] at h;have e:c.nm=z:=by simpa using Ln hf
   subst e;exact⟨c,es,K1 hf,hf,rfl,h⟩
 ·cases h
theorem JR{ps:List Pp}{d:Qi}(nm:Str)(h:g9 ps d=false):fb ps nm d=false:=by
 unfold fb;cases hf:ps.find? λp=>p.nm==nm with
 | none=>rfl
 | some c=>
  have e:c.nm=nm:=by simpa using Ln hf
  show eX ps c d=false;unfold eX;split
  ·rename_i e1 es;cases hv:J6 e1 (.str c.nm) with
   | false=>rfl
   | true=>
    rw [rN hv] at h;have:g9 ps (.tuple (.str c.nm::es))=cJ ps c es:=by
     show(match ps.find? λp=>p.nm==c.nm with
      | some c=>cJ ps c es
      | none=>false)=_
     rw [e,hf]
    rw [this] at h;rw [h];rfl
  ·rfl
def JS:List Qi->(Qi->Prop)->Prop:=λds Q=>∃(xs:List De)(n:Int)(nm o:Str)(d:Qi),ds=[.tuple (xs.map De.enc),.int n,.str nm,.str o,d]/\cR xs/\KJ nm=true/\Nm o/\jf d/\Q (.bool (jg (aB xs) (eY xs n) nm o d))
theorem JT(T:Txt K mg t):aM P w K mg base CX0 2 t.a_r t.d_r ["_law_deeds_here","_law_day_here","_law_name","_law_hold","_law_way"] (aT K JS):=by
 have G_o:=@rR P w _ _ base _ T;have G_q:=@Jp P w _ _ base _ T;have G_p:=@Bk P w _ _ base _ T;refine T.F_r.F.okD nR (λds Q h=>?_) (λ_ _ _ _ H O ds Q E hr h=>?_)
 ·obtain⟨xs,n,nm,o,d,rfl,_⟩:=h;rfl
 ·obtain⟨xs,n,nm,o,d,rfl,gl,hs,ho,hd,q⟩:=h;refine'⟨_,?A,?B⟩
  case A=>
   refine' ay ?C ?D
   case C=>exact(bE (i:=5) nR.nd rfl Qg (au G_o hr T.F_o (aa (dv 0) ag)))
   case' D=>refine' ay ?E ?F
   case E=>
    refine' aW ?G ?H aV
    case G=>exact(PW.pt (dH (dJ (cD (au G_q hr T.F_q (aa (dv 5) (aa (dv 4) ag))))) (eh (aI (jC hr.units) jD (ak av ax (dv 4) ae) (dv 2) (aG _)))))
    case H=>refine' ao (aF bT)
   case' F=>refine' ay ?I ?J
   case I=>
    refine' kF KS rfl (au G_p hr T.F_p (aa (dv 0) (aa (dv 1) (aa aL (aa aL ag))))) ?K bb ?L
    case K=>exact(aY (i:=6) nR.nd rfl Qg)
    case' L=>refine' ao ?M
    case' M=>refine' aW ?N ?O aV
    case N=>exact(aI (bA hr.units) bB (ak av ax (dv 6) ae) (dv 3) (aG _))
    case' O=>refine' ay ?P ?Q
    case P=>
     generalize hG12:Ow _ _ _=eg12;refine' bE (i:=7) nR.nd rfl Qg ?R (hs:=by subst hG12;exact iA)
     case' R=>subst hG12
     refine' cY bC bU (df ?S) ?T
     case S=>
      refine' fe ?U
      case' U=>refine' cK ?V
      case' V=>refine' aa ?W ?X
      case W=>exact(ak av ax (dv 4) (jM ae))
      case' X=>refine' aa ?Y ag
      case' Y=>refine' cY av ax (df ?Z) (df ae)
      case Z=>exact(i7 hr.units (dv 5) (ak av ax (dv 4) (jM ae)) (λ_ _=>rfl))
     case T=>exact(df (PE.imp (fJ oM rfl T.n_int mh (aJ (bV (cH hr) cI (df (ak av ax (ak av ax (dv 6) ae) ae)) (df aL) (aG _)) aK)) (aP pH)))
    case' Q=>refine' ao ?a
    case' a=>refine' aF ?b
    case b=>exact(bX (bV (bA hr.units) bB (df (dv 7)) (df (ak av ax (ak av ax (dv 6) ae) ae)) (aG _)) (cE (ur (ak av ax (dv 6) ae) (cE (bV (bA hr.units) bB (df (PE.imp (aS bH rfl T.n_len Ko (aJ (dv 4) aK)) (aP bP))) (df ae) (aG _))))))
   case J=>refine' ao (aF bT)
  case B=>
  clear hr T G_o G_q G_p;walk_at "a";have g:=gl.good;have gp:=g.gp;refine⟨xs,rfl,gl,xs,d,rfl,gl,hd,_,rfl,?_⟩;cases hl:g9 (aB xs) d with
  | false=>
   rw [oh (JR nm hl)] at q;exact q
  | true=>
   rw [Qe Qh];obtain⟨c,es,hc,hf,rfl,hw⟩:=JQ hl;refine⟨_,rfl,.str c.nm,cM,cj.mpr (gp.nm c hc),cj.mpr hs,?_⟩;rw [fO];cases e0:(c.nm==nm) with
   | false=>
    rw [Qf rfl];have bd:fb (aB xs) nm (.tuple (.str c.nm::es))=false:=by
     unfold fb;cases hf2:(aB xs).find? λp=>p.nm==nm with
     | none=>rfl
     | some c2=>
      have e:c2.nm=nm:=by simpa using Ln hf2
      show(J6 (.str c.nm) (.str c2.nm) && cJ (aB xs) c2 es)=false;rw [fO,e,e0];rfl
    rw [oh bd] at q;exact q
   | true=>
    rw [Qe Qh];have e0:=eq_of_beq e0;subst e0;have iw:eX (aB xs) c (.tuple (.str c.nm::es))=true:=by
     show(J6 (.str c.nm) (.str c.nm) && cJ (aB xs) c es)=true;rw [hw];simp [J6]
    have bd:fb (aB xs) c.nm (.tuple (.str c.nm::es))=true:=by
     unfold fb;rw [hf];exact iw
    obtain⟨zs,ez,z0,hz⟩:=Bm hc iw;rw [ez] at q bd⊢;refine⟨xs,n,rfl,gl,λL hL hk=>⟨_,rfl,?_⟩⟩;have cd:jg (aB xs) (eY xs n) c.nm o (.tuple (zs.map .str))=eZ (aB xs) (L.map (·.2)) o (zs.map .str):=by
     show(fb (aB xs) c.nm _ && _)=_;rw [bd,Lb,hL]
    rw [cd] at q;rw [<-hL] at hk;obtain⟨y,z,ey⟩:∃(y:List Str)(z:Str),zs=y++[z]:=⟨zs.dropLast,zs.getLast z0,(L7 _).symm⟩;obtain⟨p,hp,ep⟩:=Kd.mp (hz z (by rw [ey];simp));have lp:lI (aB xs) (zs.map .str)=some p:=by
     unfold lI;rw [ey,Ku,OC];show(aB xs).find? (λp=>p.nm==z)=some p;rw [<-ep];exact rV gp.nd hp
    have az:atI (zs.map J5) (-1)=some (.str z):=by rw [ey,Ku];exact L2.atI_last _ _
    have aw:cB ((aB xs).map (·.nm)) ((aB xs).map (gE (aB xs))) z=some (gE (aB xs) p):=by rw [<-ep];exact jd gp.nd hp
    refine⟨λi δ=>(∀h∈(L.take i).map (·.2),h.nm≠o)/\∃o6 o7,δ=[some (Sl.v (Kl (Kv De.enc xs))),some (Sl.v (J7 n)),some (Sl.v (J5 c.nm)),some (Sl.v (J5 o)),some (Sl.v (Kl (zs.map .str))),some (Sl.v (jZ (aB xs))),o6,o7],⟨Qh,_,_,rfl⟩,?_,?_⟩
    ·rintro i x δ hi ⟨hb,o6,o7,rfl⟩;rw [Kj] at hi;cases hi':L[i]? with
     | none=>rw [hi'] at hi;cases hi
     | some h=>
      rw [hi'] at hi;cases hi;have hm:h.2∈L.map (·.2):=Kd.mpr ⟨h,Kw hi',rfl⟩;have tk:L.take (i+1)=L.take i++[h]:=by rw [Le,hi'];rfl
      simp only [j3];walk_at "a";refine⟨cj.mpr (hk.nm _ hm).ok,cj.mpr ho.ok,?_⟩;cases e1:(h.2.nm==o) with
      | false=>
       rw [Qe Qh];refine⟨λh' hh=>?_,_,rfl⟩;rw [tk,Ku] at hh;rcases Kn.mp hh with a | a
       ·exact hb h' a
       ·rw [Kr.mp a];exact λe=>by rw [e,beq_self_eq_true] at e1;cases e1
      | true=>
       rw [Qf rfl];have en:=eq_of_beq e1;have sp:L.map (·.2)=(L.take i).map (·.2)++h.2::(L.drop (i+1)).map (·.2):=by
        obtain⟨hlt,hge⟩:=Kg.mp hi';have e:L=L.take i++h::L.drop (i+1):=by rw [<-hge,<-LU hlt,Nf]
        have e':=congrArg (Kv λx:Int×Hd=>x.2) e;rw [Ku,Kb] at e';exact e'
       have fy:(h.2.dp || decide ((zs.map J5).length=1))=true->eZ (aB xs) (L.map (·.2)) o (zs.map .str)=iJ h.2.ip h.2.tn p:=λe=>by
        unfold eZ;have hm2:fB o (zs.map .str) h.2=true:=by unfold fB;rw [e1,e];rfl
        rw [sp,O5,Lc.mpr λh' hh=>by unfold fB;rw [dQ (hb h' hh)];simp,Oj hm2,lp];rfl
       have fn:(h.2.dp || decide ((zs.map J5).length=1))=false->eZ (aB xs) (L.map (·.2)) o (zs.map .str)=false:=λe=>by
        unfold eZ;rw [Lc.mpr λh' hh=>by
         unfold fB;by_cases he:h'.nm=o
         ·have:h'=h.2:=NW λne=>by
           rcases rZ (La.mp hk.nd) h' hh h.2 hm ne with a | a
           ·exact a (he.trans en.symm)
           ·exact a (en.trans he.symm)
          rw [this,e];simp
         ·rw [dQ he];simp]
       have fin:∀d3:Str,iJ h.2.ip h.2.tn p=(h.2.tn==d3)->if J6 (.str d3) (.str h.2.tn)=true then if h.2.dp=true then Q (.bool true) else Q (.bool (((zs.map J5).length:Int)==1)) else Q (.bool false):=λd3 e=>by
        rw [fO];cases e4:h.2.dp with
        | true=>
         rw [fy (by rw [e4];rfl),e] at q;rw [Qf rfl];cases e5:(d3==h.2.tn) with
         | true=>rw [MB,e5] at q;rw [Qf rfl];exact q
         | false=>rw [MB,e5] at q;rw [Qe Qh];exact q
        | false=>
         rw [Qe (show ¬(false=true) by simp)];by_cases e6:(zs.map J5).length=1
         ·rw [fy (by rw [decide_eq_true e6];simp),e] at q;rw [show(((zs.map J5).length:Int)==1)=true by rw [e6];rfl];cases e5:(d3==h.2.tn) with
          | true=>rw [MB,e5] at q;rw [Qf rfl];exact q
          | false=>rw [MB,e5] at q;rw [Qe Qh];exact q
         ·rw [fn (by rw [e4,decide_eq_false e6];rfl)] at q;rw [show(((zs.map J5).length:Int)==1)=false by rw [beq_eq_false_iff_ne];omega];split <;> exact q
       have tnk:=cj.mpr (hk.tn _ hm).ok;refine⟨_,az,_,_,rfl,_,az,_,rfl,_,aw,_,rfl,_,cx,_,rfl,_,cM,?_⟩;cases e7:h.2.ip with
       | true=>
        rw [e7] at fin;exact⟨rfl,.str z,rfl,_,rfl,_,cx,cj.mpr (by rw [<-ep];exact gp.nm p hp),tnk,fin z (by unfold iJ;rw [Qf rfl,ep])⟩
       | false=>
        rw [e7] at fin;exact⟨rfl,.str p.kd,rfl,_,rfl,_,cx,cj.mpr (gp.kd p hp),tnk,fin p.kd (by unfold iJ;rw [Qe Qh])⟩
    ·rintro δ ⟨hb,o6,o7,rfl⟩;walk_at "a";rw [J1,Ky (J8 _)] at hb;have e:eZ (aB xs) (L.map (·.2)) o (zs.map .str)=false:=by
      unfold eZ;rw [Lc.mpr λh hh=>by unfold fB;rw [dQ (hb h hh)];simp]
     rw [e] at q;exact q
end
theorem Bn:br (aE nL) ["_law_purse_here","_law_deeds_here","_law_names_here","_law_day_here","_law_name","_law_hold","_law_ways_here","_law_way","_law_some","_law_found"] ["_law_turn","_law_ways_here","_law_purse_here"] 1 [6,0] ⟨Ki,[ (J3 ".0",RA),(J3 "_law_turn",RA),(J3 "_law_take",KD),(J3 "len",KD),(J3 "_law_purse_here",Kq),(J3 "_law_ways_here",Kq)],false,false,[]⟩:= .of
section
variable {P:Qu} {w:Qw} {K:J0} {mg:Str->Option Qj} {base:Qy} {t:cu}
def WL(d:Qi):Prop:=∃l:List Str,d= .tuple (l.map .str)/\1<=l.length/\l.length<=30/\c9 l
theorem sg{α:Type}{f:α->Qi}{ls:List α}{v:Int}(h0:0<=v)(h1:v < ls.length):∃l∈ls,atI (ls.map f) v=some (f l):=by
 obtain⟨k,rfl⟩:=LC h0;have hk:k < ls.length:=Qc
 exact⟨ls[k],K9 hk,di (by rw [Kj,Kc hk];rfl)⟩
theorem WL.way{d:Qi}(h:WL d):jf d:=by
 obtain⟨l,rfl,_,h2,h3⟩:=h;refine j2 (λd hd=>?_) (by rw [J1];omega);obtain⟨z,hz,rfl⟩:=Kd.mp hd;exact n8 (h3 z hz)
def JU:List Qi->(Qi->Prop)->Prop:=λds Q=>∃(xs:List De)(ns:List Str)(n:Int)(nm o:Str),ds=[dG,.tuple (xs.map De.enc),.list (ns.map .str),.int n,.str nm,.str o]/\cR xs/\ns.length=8/\c9 ns/\0<=n/\Nm nm/\Nm o/\Q (.bool true)
theorem JV(T:Txt K mg t):aM P w K mg base CX0 10 t.a_u t.d_u ["_law_purse_here","_law_deeds_here","_law_names_here","_law_day_here","_law_name","_law_hold"] (aT K JU):=by
 have G_o:=@rR P w _ _ base _ T;have G_s:=@Jy P w _ _ base _ T;have G_t:=@Jt P w _ _ base _ T;have G_e:=@iH P w _ _ base _ T;have G_b:=@JP P w _ _ base _ T;have G_r:=@JT P w _ _ base _ T;refine T.F_u.F.okD lz (λds Q h=>?_) (λ_ _ _ _ H O ds Q E hr h=>?_)
 ·obtain⟨xs,ns,n,nm,o,rfl,_⟩:=h;rfl
 ·obtain⟨xs,ns,n,nm,o,rfl,gl,nl,nok,hn,hnm,ho,q⟩:=h;refine'⟨_,?A,?B⟩
  case A=>
   refine' ay ?C ?D
   case C=>exact(bE (i:=6) lz.nd rfl Qg (au G_s hr T.F_s (aa (au G_o hr T.F_o (aa (dv 1) ag)) (aa (dv 4) ag))))
   case' D=>refine' ay ?E ?F
   case E=>
    refine' kF KS rfl (fe (pF (df (fe (cK (aa (ak bC bU (dv 6) ae) ag)))) (df (fe (mG rfl Bn rfl T.n_range (aJ ae aK) bb cg Qb (λ_ _ _ _=>(aY (i:=0) Bn.nd rfl Qg)) (λ_ _ _ _=>dA) (λ_ _ _ _=>(ak bC bU (dv 1) (au G_e hr T.F_e (aa (dv 2) (aa (PE.imp (aS bH rfl T.n_len Ko (aJ (dv 1) aK)) (aP bP)) ag)))))))))) ?G bb ?H
    case G=>exact(aY (i:=7) lz.nd rfl Qg)
    case' H=>refine' ao ?I
    case' I=>refine' DW KS rfl (fe (cK (aa (dv 7) (aa (au G_t hr T.F_t (aa (dv 0) (aa (dv 2) (aa (dv 7) ag)))) ag)))) ?J bb ?K
    case J=>exact(aY (i:=8) lz.nd rfl Qg)
    case' K=>refine' ay ?L ?M
    case L=>
     refine' bE (i:=9) lz.nd rfl Qg ?N (hs:=iz)
     case N=>exact(au G_b hr T.F_b (aa (bj (aa aL (aa (dv 1) (aa (dv 3) (aa (dv 4) (aa (dv 5) ag)))))) (aa (dv 8) ag)))
    case' M=>refine' ao ?O
    case' O=>refine' aW ?P ?Q aV
    case P=>exact(PW.pt (dH (dJ (cD (eS (K':=K) (T:="bool") rfl rfl T.n_isinstance eM (df (dv 9)) (eL (v:= .ty "bool") rfl T.n_bool ph rfl)))) (eh (aI (jC hr.units) jD (dv 9) (au G_r hr T.F_r (aa (dv 1) (aa (dv 3) (aa (dv 4) (aa (dv 5) (aa (dv 8) ag)))))) (aG _)))))
    case Q=>refine' ao (aF bT)
   case F=>refine' ao (aF bT)
  case B=>
  clear hr T G_o G_s G_t G_e G_b G_r;walk_at "a";refine⟨xs,rfl,gl,xs,nm,rfl,gl,hnm,λls l0 l9 lok lh=>?_⟩;have wl:∀l∈ls,WL (.tuple (l.map .str)):=λl hl=>⟨l,rfl,lok l hl⟩;have ll:0 < ls.length:=OJ.mpr l0;obtain⟨l1,hl1,el1⟩:=sg (f:=λl:List Str=>Kl (l.map .str)) (ls:=ls) (v:=0) Qb Qc;refine⟨_,rfl,_,el1,Qb,λi acc=>acc.length=i/\∀d∈acc,WL d,⟨rfl,Qh⟩,?_,?_⟩
  ·rintro i x acc hx ⟨al,aw⟩;walk_at "a";refine⟨_,rfl,by rw [J1];omega,by rw [J1];omega,λv v0 v1=>⟨_,rfl,?_⟩⟩;rw [J1] at v1;obtain⟨l2,hl2,el2⟩:=sg (f:=λl:List Str=>Kl (l.map .str)) (ls:=ls) v0 v1;refine⟨_,el2,by rw [Kk,al];rfl,λd hd=>?_⟩;rcases Kn.mp hd with h | h
   ·exact aw d h
   ·rw [Kr.mp h];exact wl l2 hl2
  ·rintro acc ⟨al,aw⟩;rw [ij] at al;refine⟨Qc,?_⟩;have aw2:∀d∈Kl (l1.map .str)::acc,WL d:=λd hd=>by
    rcases Kh.mp hd with h | h
    ·rw [h];exact wl l1 hl1
    ·exact aw d h
   generalize Kl (l1.map .str)::acc=bs at aw2;generalize L9 (ls.map λl=>Kl (l.map .str))=lsd;clear al aw wl el1 lh lok l9;refine⟨λi δ=>∃o7 o8 o9:Option Sl,δ=[some (Sl.v dG),some (Sl.v (Kl (Kv De.enc xs))),some (Sl.v (L9 (Kv J5 ns))),some (Sl.v (J7 n)),some (Sl.v (J5 nm)),some (Sl.v (J5 o)),some (Sl.v lsd),o7,o8,o9],⟨_,_,_,rfl⟩,?_,?_⟩
   ·rintro i d δ hd ⟨o7,o8,o9,rfl⟩;have wd:=aw2 d (Kw hd);have wt:=wd.way;obtain⟨l,rfl,w1,w2,w3⟩:=wd;walk_at "a";refine⟨ns,l,rfl,nl,nok,w1,w2,w3,λd dt=>?_⟩;refine⟨xs,n,nm,o,_,rfl,gl,hn,hnm.ok,ho,wt,?_⟩;simp only [p5];walk_at "a";refine⟨λ_=>trivial,?_⟩;rw [Qe (by simp [jI])];refine⟨xs,n,nm,o,_,rfl,gl,hnm.ok,ho,wt,mK,?_⟩;rw [Qe (by simp [J6])];refine⟨xs,n,nm,o,d,rfl,gl,hn,hnm.ok,ho,dt,?_⟩;refine⟨λ_=>by simp,?_⟩;rw [Qe (by simp [jI])];refine⟨xs,n,nm,o,_,rfl,gl,hnm.ok,ho,dt,mK,mK,?_⟩;rw [Qe (by simp [J6])];exact⟨_,rfl⟩
   ·rintro δ ⟨o7,o8,o9,rfl⟩;walk_at "a";exact q
end
theorem Bo:br (aE nM) ["_law_script","_law_menu","_law_deeds_here","_law_names_here","_law_far","_law_k","_law_purse_here","_law_day_here","_law_some","_law_among","_law_turn","_law_name","_law_hold"] ["_law_deed_here"] 1 [] ⟨Ki,[(J3 ".0",RA),(J3 "_law_deed_here",RA)],false,false,[]⟩:= .of
section
variable {P:Qu} {w:Qw} {K:J0} {mg:Str->Option Qj} {base:Qy} {t:cu}
def F_v:List Qi->(Qi->Prop)->Prop:=λds Q=>∃ns:List Int,ds=[dS (ns.map .int)]/\ns.length<=63/\(∀z∈ns,Ly z<=1048576)/\Q (.bool true)
def sp_law(K:J0):Sp:=aT K F_v
theorem start_law{K:J0}{H:Hp}{a:Qk}{ns:List Int}(hl:ns.length<=63)(hb:∀z∈ns,Ly z<=1048576)(hS:aX K H a (ns.map V.int)):sp_law K [.ref a] H (λv _=>v= .bl true) λ_ _ _=>False:=
 ⟨λ_=>False,[dS (ns.map .int)],λd=>d= .bool true,λ_ z=>z.elim,.cons (.scr (by
  rcases hS with h | h
  ·exact .inl ⟨h,λz=>z⟩
  ·exact .inr (.inr h)) (ai.ints ns)) .nil,⟨ns,rfl,hl,hb,rfl⟩,λd v H' e _ r=>by subst e;cases r;rfl⟩
theorem ok_law(T:Txt K mg t):aM P w K mg base CX0 11 t.a_v t.d_v ["_law_script"] (sp_law K):=by
 have G_n:=@Je P w _ _ base _ T;have G_d:=@AF P w _ _ base _ T;have G_c:=@AJ P w _ _ base _ T;have G_e:=@iH P w _ _ base _ T;have G_o:=@rR P w _ _ base _ T;have G_p:=@Bk P w _ _ base _ T;have G_u:=@JV P w _ _ base _ T;refine T.F_v.F.okD eT (λds Q h=>?_) (λ_ _ _ _ H O ds Q E hr h=>?_)
 ·obtain⟨ns,rfl,_⟩:=h;rfl
 ·obtain⟨ns,rfl,hl,hb,q⟩:=h;refine'⟨_,?A,?B⟩
  case A=>
   refine' ay ?C ?D
   case C=>
    generalize hE2_0:OX _ _=ee2_0;exact bE (i:=1) eT.nd rfl Qg (fe (pP (ds:=[.str "hold",.str "hold",.str "hold",.str "lift",.str "paper",.str "happens",.str "keep"]) (by first | (subst hE2_0;rfl)))) (hs:=EB (ds:=[.str "hold",.str "hold",.str "hold",.str "lift",.str "paper",.str "happens",.str "keep"]) (by first | (subst hE2_0;rfl)))
   case' D=>refine' ay ?E ?F
   case E=>exact(uM (au G_n hr T.F_n (aa (dv 0) (aa (dv 1) (aa ae ag)))) (ke (n:=3) rfl (fg (aY (i:=2) eT.nd rfl Qg) (fg (aY (i:=3) eT.nd rfl Qg) (fg (aY (i:=4) eT.nd rfl Qg) kc)))) (mz (gn bb (gn bb (gn bb my)))))
   case' F=>refine' ay ?G ?H
   case G=>
    refine' uW KS rfl rfl T.n_range (aa ae (aa (PE.imp (aS (oK rfl) rfl T.n_max Ng (aJ ae (aJ (PE.imp (aS (Ca rfl) rfl T.n_min P5 (aJ (PE.imp (aS bH rfl T.n_len Ko (aJ (dv 0) aK)) (aP vi)) (aJ ae aK))) (aP mI)) aK))) (aP mI)) ag)) ?I bb ?J
    case I=>exact(aY (i:=5) eT.nd rfl Qg)
    case' J=>refine' ay ?K ?L
    case K=>exact(bE (i:=6) eT.nd rfl Qg (au G_d hr T.F_d (aa (au G_c hr T.F_c (aa (dv 0) (aa (dv 5) ag))) ag)))
    case' L=>refine' ay ?M ?N
    case M=>
     generalize hG10:Pw _ _ _ _=eg10;refine' bE (i:=7) eT.nd rfl Qg ?O (hs:=by subst hG10;exact iz)
     case' O=>subst hG10
     exact(PE.imp (aS (oK rfl) rfl T.n_max Ng (aJ ae (aJ (aR cf bO (ak av ax (ak av ax (dv 2) (au G_e hr T.F_e (aa (dv 6) (aa (PE.imp (aS bH rfl T.n_len Ko (aJ (dv 2) aK)) (aP bP)) ag)))) ae) (ak bC bU (fe (cK (aa ae (aa ae (aa (jM ae) (aa ae ag)))))) (au G_e hr T.F_e (aa (dv 6) (aa ae ag))))) aK))) (aP mI))
    case' N=>refine' ay ?P ?Q
    case P=>exact(mO (i:=8) eT.nd rfl Qg (pR rfl Bo (df (au G_p hr T.F_p (aa (dv 2) (aa (dv 7) (aa aL (aa aL ag)))))) bb cg Qb (λ_ _ _ _=>(aY (i:=0) Bo.nd rfl Qg)) (λ_ _ _ _=>dA) (λ_ _ _ _=>(ak av ax (dv 0) ae))))
    case' Q=>refine' ay ?R ?S
    case R=>
     refine' bE (i:=9) eT.nd rfl Qg ?T (hs:=kR)
     case' T=>refine' fe ?U
     case' U=>refine' pF (df ?V) (df ?W)
     case V=>exact(fe (G3 rfl rfl T.n_sorted LH (au G_o hr T.F_o (aa (dv 2) ag))))
     case W=>exact(fe (iU (df (dv 3)) (cw ae) (cw ae)))
    case' S=>refine' ao ?X
    case' X=>refine' mC KS rfl rfl T.n_range (aa ae ag) ?Y bb ?Z
    case Y=>exact(aY (i:=10) eT.nd rfl Qg)
    case' Z=>refine' ay ?a ?b
    case a=>
     refine' bE (i:=11) eT.nd rfl Qg ?c (hs:=iA)
     case' c=>refine' cY bC bU (df (dv 9)) ?d
     case d=>exact(df (au G_e hr T.F_e (aa (dv 6) (aa (PE.imp (aS bH rfl T.n_len Ko (aJ (dv 9) aK)) (aP bP)) ag))))
    case' b=>refine' ao ?e
    case' e=>refine' kF KS rfl (fe (pF (df (fe (iU (df (dv 8)) dX (cw ae)))) (df (fe (cK (aa (ak bC bU (dv 3) (au G_e hr T.F_e (aa (dv 6) (aa ae ag)))) ag)))))) ?f bb ?g
    case f=>exact(aY (i:=12) eT.nd rfl Qg)
    case' g=>refine' ao ?h
    case' h=>refine' aW ?i ?j aV
    case i=>exact(dJ (cD (au G_u hr T.F_u (aa (dv 6) (aa (dv 2) (aa (dv 3) (aa (dv 7) (aa (dv 11) (aa (dv 12) ag)))))))))
    case j=>refine' ao (aF bT)
   case H=>refine' ao (aF bT)
  case B=>
  clear G_n G_d G_c G_e G_o G_p G_u hr T;walk_at "a";refine⟨ns,rfl,λxs nms far gl x0 nl nok nnd=>?_⟩;have bnd:∀m:Int,(if (if 36 < m then 36 else m) > 32 then if 36 < m then 36 else m else 32)<=36/\32<=(if (if 36 < m then 36 else m) > 32 then if 36 < m then 36 else m else 32):=λm=>by
   split <;> split <;> omega
  refine⟨_,rfl,rfl,_,_,rfl,_,_,rfl,_,_,rfl,rfl,_,rfl,?_⟩;have b2:=bnd (Kv J7 ns).length;generalize (if (if 36 < ((Kv J7 ns).length:Int) then 36 else((Kv J7 ns).length:Int)) > 32 then if 36 < ((Kv J7 ns).length:Int) then 36 else((Kv J7 ns).length:Int) else 32)=bf at b2;clear bnd;refine⟨Qc,Qc,?_⟩;refine⟨λi δ=>∃o5 o6 o7 o8 o9 o10 o11 o12:Option Sl,δ=[some (Sl.v (dS (Kv J7 ns))),some (Sl.v (.list (gC.map .str))),some (Sl.v (.tuple (xs.map De.enc))),some (Sl.v (.list (nms.map .str))),some (Sl.v (.int far)),o5,o6,o7,o8,o9,o10,o11,o12],⟨_,_,_,_,_,_,_,_,rfl⟩,?_,?_⟩
  ·rintro i z δ hz ⟨o5,o6,o7,o8,o9,o10,o11,o12,rfl⟩;obtain⟨hi,rfl⟩:=gR hz;walk_at "a";have gp:=gl.good.gp;have xl:0 < xs.length:=OJ.mpr x0;have x24:=gl.l;refine⟨ns,30+(i:Int),rfl,Qc,Qc,λc=>⟨c,rfl,_,rfl,by rw [J1];omega,by rw [J1];omega,λv v0 v1=>⟨_,rfl,?_⟩⟩⟩;rw [J1] at v1;obtain⟨x,hx,ex⟩:=sg (f:=De.enc) (ls:=xs) v0 v1;obtain⟨r,er⟩:=x.encE;refine⟨_,ex,_,er,.int x.d,cx,4,rfl,Qb,Qb,λu u0 u1=>⟨_,rfl,?_⟩⟩;obtain⟨y,ey⟩:∃y:Int,atI [J7 0,J7 1,J7 (-1),J7 7] u=some (.int y):=by
    have:u=0\/u=1\/u=2\/u=3:=Qc
    rcases this with h | h | h | h <;> rw [h]
    ·exact⟨_,cM⟩
    ·exact⟨_,cx⟩
    ·exact⟨_,ig⟩
    ·exact⟨_,iW⟩
   refine⟨_,ey,_,rfl,_,rfl,?_⟩;obtain⟨n,en,n0⟩:∃n:Int,(if x.d+y > 0 then x.d+y else 0)=n/\0<=n:=⟨_,rfl,by split <;> omega⟩;rw [en];refine⟨xs,n,rfl,gl,λL hL hk=>⟨_,rfl,?_,?_⟩⟩
   ·rw [<-hL] at hk;have:=hk.le;rw [J1] at this;rw [J1];omega
   rw [<-hL] at hk;refine⟨λi acc=>acc=((L.take i).map λh=>h.2.nm).map .str,rfl,?_,?_⟩
   ·rintro k z acc hz rfl;rw [Kj] at hz;cases hz':L[k]? with
    | none=>rw [hz'] at hz;cases hz
    | some h=>
     rw [hz'] at hz;cases hz;simp only [j3];walk_at "a";rw [Le,hz'];simp
   ·rintro acc rfl;rw [J1,Ky (J8 _)];have sok:c9 (L.map λh=>h.2.nm):=λz hz=>by
     obtain⟨h,hh,rfl⟩:=Kd.mp hz;exact hk.nm _ (Kd.mpr ⟨h,hh,rfl⟩)
    have sl:(L.map λh=>h.2.nm).length<=24:=by
     have:=hk.le;rw [J1] at this⊢;exact this
    generalize (L.map λh=>h.2.nm)=sm at sok sl;have pl:((aB xs).map (·.nm)).length<=41:=by rw [J1];exact gp.ln
    refine⟨xs,rfl,gl,(aB xs).map (·.nm),⟨_,rfl⟩,Qc,?_⟩;obtain⟨am,ea,al0,al1,aok⟩:∃am:List Str,(cG ((aB xs).map (·.nm))).map J5++bI (nms.map J5) (some 5) (some 6)=am.map .str/\0 < am.length/\am.length<=50/\c9 am:=by
     obtain⟨ms,em,hm,ml,_⟩:=rM (ns:=nms) (some 5) (some 6);have m1:0 < ms.length:=by
      have:=congrArg Og em;unfold bI at this;have l8:(nms.map J5).length=8:=by rw [J1];exact nl
      have e1:HT.sIx (nms.map J5).length (nms.map J5).length (some 6)=6:=by rw [fP Qb Qc];rfl
      have e2:HT.sIx (nms.map J5).length 0 (some 5)=5:=by rw [fP Qb Qc];rfl
      rw [e1,e2,KW,LF,l8,J1] at this;omega
     refine⟨cG ((aB xs).map (·.nm))++ms,by rw [em,Ku],by rw [Kk];omega,by rw [Kk,(eD _).length_eq];omega,λz hz=>?_⟩;rcases Kn.mp hz with h | h
     ·obtain⟨p,hp,rfl⟩:=Kd.mp ((eD _).mem_iff.mp h);exact(nY (gl.e _ (lC.mp hp)).dv).1
     ·exact nok z (hm z h)
    refine⟨by rw [<-Kk,ea,J1];omega,?_⟩;rw [ea];clear ea pl hk hL er ex en;refine⟨λk δ=>∃p10 p11 p12:Option Sl,δ=[some (Sl.v (dS (Kv J7 ns))),some (Sl.v (.list (gC.map .str))),some (Sl.v (.tuple (xs.map De.enc))),some (Sl.v (.list (nms.map .str))),some (Sl.v (.int far)),some (Sl.v (J7 (30+(i:Int)))),some (Sl.v dG),some (Sl.v (J7 n)),some (Sl.v (.list (sm.map .str))),some (Sl.v (.list (am.map .str))),p10,p11,p12],⟨_,_,_,rfl⟩,?_,?_⟩
    ·rintro k z δ hz ⟨p10,p11,p12,rfl⟩;walk_at "a";refine⟨_,rfl,by rw [J1];omega,by rw [J1];omega,λv v0 v1=>⟨_,rfl,?_⟩⟩;rw [J1] at v1;obtain⟨nm,hn,en⟩:=eV (ss:=am) v0 v1;refine⟨_,en,8,rfl,Qb,Qb,λu u0 u1=>⟨_,rfl,?_⟩⟩;obtain⟨o2,ho2,eo2⟩:=eV (ss:=nms) u0 Qc;refine⟨_,eo2,?_⟩;obtain⟨ms,em,hm,ml,_⟩:=rM (ns:=sm) none (some 3);rw [em];have hnm:=aok nm hn;have eq:ms.map J5++[J5 o2]=(ms++[o2]).map .str:=by rw [Ku];rfl
     have mok:c9 (ms++[o2]):=λz hz=>by
      rcases Kn.mp hz with h | h
      ·exact sok z (hm z h)
      ·rw [Kr.mp h];exact nok o2 ho2
     refine⟨by rw [J1];omega,?_⟩;rw [eq];generalize ms++[o2]=hs at mok;refine⟨λj δ=>∃q12:Option Sl,δ=[some (Sl.v (dS (Kv J7 ns))),some (Sl.v (.list (gC.map .str))),some (Sl.v (.tuple (xs.map De.enc))),some (Sl.v (.list (nms.map .str))),some (Sl.v (.int far)),some (Sl.v (J7 (30+(i:Int)))),some (Sl.v dG),some (Sl.v (J7 n)),some (Sl.v (.list (sm.map .str))),some (Sl.v (.list (am.map .str))),some (Sl.v z),some (Sl.v (.str nm)),q12],⟨_,rfl⟩,?_,?_⟩
     ·rintro j y δ hj ⟨q12,rfl⟩;rw [Kj] at hj;cases hj':hs[j]? with
      | none=>rw [hj'] at hj;cases hj
      | some h=>
       rw [hj'] at hj;cases hj;walk_at "a";refine⟨xs,nms,n,nm,h,rfl,gl,nl,nok,n0,hnm,mok h (Kw hj'),true,rfl,?_⟩;rw [Qe Qh];exact⟨_,rfl⟩
     ·rintro δ ⟨q12,rfl⟩;exact⟨_,_,_,rfl⟩
    ·rintro δ ⟨p10,p11,p12,rfl⟩;exact⟨_,_,_,_,_,_,_,_,rfl⟩
  ·rintro δ ⟨o5,o6,o7,o8,o9,o10,o11,o12,rfl⟩;walk_at "a";exact q
end
end K50
namespace PySem.W.Fast
def tw4242847205648672306:=0
def tw12317526305682094143:=0
def tw10006501686081459823:=0
def tw2068857695910034330:=0
def tw12538672586946435166:=0
def tw9595993123646978328:=0
def tw14102271882075463486:=0
def tw2103872303001109249:=0
def tw11360574564723678554:=0
def tw7113379170352900732:=0
def tw13672630779684906989:=0
def tw10030117044886990127:=0
def tw7434469423389369689:=0
def tw610681702514760893:=0
def tw1291250874585727788:=0
def tw12843222259071657104:=0
def tw9140163067513451800:=0
def tw11113770127759111408:=0
def tw5847735745373770331:=0
def tw17876718842864156818:=0
def tw1892689646102746920:=0
def tw17967693509467908286:=0
def tw3279724013809388265:=0
def tw9018537938256435646:=0
def tw15847776794815075487:=0
def tw16308691149908045380:=0
def tw7963236863256484285:=0
def tw7736390550033254117:=0
def tw4690547339204186322:=0
def tw11254369104065912457:=0
def tw12581726782928846702:=0
def tw8341603568948195420:=0
def tw2302650810804963158:=0
def tw17650571463142301025:=0
def tw10933646604148792920:=0
def tw18279055383964761038:=0
def tw12799762565361126067:=0
def tw6917303007717584320:=0
def tw11295617915303005711:=0
def tw12909762214641306947:=0
def tw8487849162644860042:=0
def tw11903999893362641103:=0
def tw4753101252164208633:=0
def tw16222358376671292269:=0
def tw14570350427446598291:=0
def tw11326053031786289275:=0
def tw13997059224279238218:=0
def tw3791643052901774664:=0
def tw4214814947218684219:=0
def tw3775715406364680856:=0
def tw13756164714528130809:=0
def tw9116006461593462568:=0
def tw6712474105870365110:=0
def tw2517669622089741249:=0
def tw1675727062593454393:=0
def tw14740448437530473092:=0
def tw8553773231016008420:=0
def tw15429309299831749477:=0
def tw9838898856155158100:=0
def tw2207789047991270886:=0
def tw6874748433033457683:=0
def tw13076090483800961031:=0
def tw10131540587889249944:=0
def tw3138440866520252618:=0
def tw10790107672582317445:=0
def tw12481885332920931755:=0
def tw12377755387006103023:=0
def tw16564054604742610337:=0
def tw5138792446605700794:=0
def tw14470247987789575867:=0
def tw233507338953978871:=0
def tw13527368293011562380:=0
def tw8878337694042451065:=0
def tw5187798183092533471:=0
def tw3186627878033800016:=0
def tw2966973593058141899:=0
def tw17221916039752361200:=0
def tw15557575823780976948:=0
def tw10748508455996855547:=0
def tw16111807387175608407:=0
def tw12590819044753517665:=0
def tw8028257256722368739:=0
def tw12256402096969504180:=0
def tw2237544451152119976:=0
def tw12764086345407916260:=0
def tw10663474703854044261:=0
def tw18150297916682268153:=0
def tw8766953846057536056:=0
def tw13440431876792857840:=0
def tw12787112886514344441:=0
def tw13853692170244125898:=0
def tw15337119806399277008:=0
def tw3380082986069496922:=0
def tw3941413357417123363:=0
def tw9207052513541384069:=0
def tw1958267221884892372:=0
def tw7945799745464208356:=0
def tw1420516765708044815:=0
def tw15897978070589812181:=0
def tw14357386747916464171:=0
def tw1400783102871234837:=0
def tw17733766438134405607:=0
def tw12615186762254053953:=0
def tw14693555051985065902:=0
def tw574376048574092241:=0
def tw11300657684242698331:=0
def tw18330156826844571987:=0
def tw15797386929977054487:=0
def tw5414333823149255346:=0
def tw9831327257087871657:=0
def tw4531606729341179196:=0
def tw13364992857479809832:=0
def tw794013589639942184:=0
def tw8574044975950263237:=0
def tw9879788888246349456:=0
def tw9681261831733929762:=0
def tw627220156259519928:=0
def tw5697852652582889086:=0
def tw13750373237452112335:=0
def tw15740148911338789524:=0
def tw12706769080691461343:=0
def tw4529895629524706473:=0
def tw12434917345561930071:=0
def tw2626110287792909897:=0
def tw14736766200833980784:=0
def tw9889308988330417830:=0
def tw11020644923826880705:=0
def tw14240822923180795072:=0
def tw5920216320980226878:=0
def tw3728206526788200674:=0
def tw8350984770811774264:=0
def tw5581308823244481480:=0
def tw15865815423805838783:=0
def tw13578391036134848385:=0
def tw7389818627181523427:=0
def tw5561707494673005027:=0
def tw8086538415378367689:=0
def tw13081802116519550767:=0
def tw3262278105244939819:=0
def tw15119794604821011356:=0
def tw8755449089994096650:=0
def tw18101545911430664933:=0
def tw15199643648869027851:=0
def tw11812070257241661114:=0
def tw9692959353834117567:=0
def tw13017362030465654868:=0
def tw4511692590964079957:=0
def tw15935770739480848095:=0
def tw17906802101993931385:=0
def tw13400689314345330444:=0
def tw3835380332387862093:=0
def tw6210479909129332821:=0
def tw3340086971111246411:=0
def tw11675570320574010504:=0
def tw7812831585296616697:=0
def tw2261365917167561886:=0
def tw4829702472760693503:=0
def tw17399805715074315531:=0
def tw983445257017671837:=0
def tw17578727440671184493:=0
def tw1873949916073376097:=0
def tw3846651864084187286:=0
def tw11305987804811721278:=0
def tw4083878756109908716:=0
def tw12633597774021475828:=0
def tw16170972377562127530:=0
def tw2140013019071322687:=0
def tw14487355635972168024:=0
def tw9361222058269526858:=0
def tw10256065684414927971:=0
def tw13920353726362568839:=0
def tw1826419058543663071:=0
def tw4638365406053252282:=0
def tw8840473689447446629:=0
def tw14529308569412616483:=0
def tw1717420118721575597:=0
def tw896529046829923837:=0
def tw3123947809137588000:=0
def tw8025317067463217935:=0
def tw5510248322669447814:=0
def tw14717339599110883134:=0
def tw935291649271596801:=0
def tw12279808888625079979:=0
def tw13311863002284434473:=0
def tw1497390449082172889:=0
def tw2566612324874665921:=0
def tw9717992980679277574:=0
def tw9118387737518243364:=0
def tw17741522913058662227:=0
def tw15364250575456182159:=0
def tw16534075624338009092:=0
def tw8965882151973834925:=0
def tw14624409511377312928:=0
def tw9063146035055256244:=0
def tw14053760553390630135:=0
def tw1902766173228292516:=0
def tw12768462822845742054:=0
def tw8245638008874843307:=0
def tw10889642849503410291:=0
def tw6516589255232527397:=0
def tw16718964875991500962:=0
def tw773994216649365056:=0
def tw865327122330889989:=0
def tw16588012807017415335:=0
def tw2642208311136503872:=0
def tw7743636868214749226:=0
def tw3950908906944554968:=0
def tw8333667093375593290:=0
def tw10315490541160900116:=0
def tw8347434358741736777:=0
def tw11055959488885412702:=0
def tw10195359032620287997:=0
def tw11787543460318709755:=0
def tw1136639644273949103:=0
def tw16995753917458814407:=0
def tw9775210183452810515:=0
def tw14224549432266583826:=0
def tw7179277237982256545:=0
def tw2108882875928450479:=0
def tw17508676850126509787:=0
def tw3757719544594331468:=0
def tw806436604613721504:=0
def tw9255329123411295151:=0
def tw16602074352705120387:=0
def tw18441403446805482483:=0
def tw5290512626144695720:=0
def tw12758509097728755556:=0
def tw12366813535896203421:=0
def tw10145465306495038460:=0
def tw15845258383396276248:=0
def tw14572467639891336112:=0
def tw17860928586943596639:=0
def tw9328210024636708858:=0
def tw15190960353709852692:=0
def tw11694645998159249230:=0
def tw2603425348422731635:=0
def tw15252998381915595774:=0
def tw1042239313034947174:=0
def tw135275746384151166:=0
def tw9186159594666806041:=0
def tw5391665322589551437:=0
def tw973224779556791410:=0
def tw17316585206817257981:=0
def tw91905960979362672:=0
def tw9186662693741669748:=0
def tw8424840691670494517:=0
def tw11949264785993534506:=0
def tw3875875650576860591:=0
def tw290546018337707396:=0
def tw18178549942218175398:=0
def tw16382705960697534903:=0
def tw16110191534164721167:=0
def tw16412919648722895588:=0
def tw11831474060687758409:=0
def tw16259989372529998019:=0
def tw3318722648368854134:=0
def tw5210898605999651398:=0
def tw4818684942200386502:=0
def tw1735253721569524814:=0
def tw14559025594930044826:=0
def tw6721064017746379529:=0
def tw4619678661386103771:=0
def tw3889160213059855318:=0
def tw3463412786390693214:=0
def tw12418211653782330836:=0
def tw11814024203263730107:=0
def tw5711515060969857930:=0
def tw17760338199376114076:=0
def tw11810724906102846374:=0
def tw11548448176703534527:=0
def tw10471955710083162370:=0
def tw9186760768542368306:=0
def tw7304763933344848418:=0
def tw6794460610945011241:=0
def tw4432302786596009926:=0
def tw3967481209230022525:=0
def tw1367185730850023635:=0
def tw17426404995555859941:=0
def tw8635740264544485518:=0
def tw8157708163340881425:=0
def tw6138632218805780651:=0
def tw14532470702910571023:=0
def tw14314193646740179583:=0
def tw7807631951575810598:=0
def tw9382374284008214577:=0
def tw5744027409963249290:=0
def tw5575372306600504854:=0
def tw3910843394237759758:=0
def tw312587706017479277:=0
def tw13498813265013023277:=0
def tw1289310168199227042:=0
def tw13177027838572395437:=0
def tw12050246331181808157:=0
def tw11662413991576393202:=0
def tw3266632909326631077:=0
def tw17452298857788428302:=0
def tw17116630736190212250:=0
def tw15284838574291883326:=0
def tw11348418818679820527:=0
def tw3007990773726792848:=0
def tw14267501671322368611:=0
def tw9114344967016030267:=0
def tw8189933200677062678:=0
def tw5327143956225772068:=0
def tw2896972536734836255:=0
def tw18000559839137543111:=0
def tw15570594184444546159:=0
def tw10551680810371922849:=0
def tw14698583443996989595:=0
def tw7940174703133467408:=0
def tw15777886065034634704:=0
def tw15509438498564383196:=0
def tw10188965677814506098:=0
def tw3354111161118875772:=0
def tw17403121114624052681:=0
def tw15058735912148412237:=0
def tw13187474468134053097:=0
def tw11555163910834386934:=0
def tw11171652520586010028:=0
def tw7531767941631491763:=0
def tw14686088237392337492:=0
def tw8773059394683408504:=0
def tw14981358984790767236:=0
def tw13103768442246423709:=0
def tw10609055766918482328:=0
def tw14471111429802912531:=0
def tw7436770148996509386:=0
def tw18325886855934061374:=0
def tw14742632951009120337:=0
def tw10689204305324537653:=0
def tw10133755285767619294:=0
def tw2825571440251065462:=0
def tw10631066691163023391:=0
def tw7928584889287615537:=0
def tw18331467806790446078:=0
def tw16663278757782886050:=0
def tw262661016822565308:=0
def tw4131834442273177873:=0
def tw4098350155010952843:=0
def tw13526542947073371468:=0
def tw2728306060776090656:=0
def tw8487193656262438474:=0
def tw8744499087422165168:=0
def tw14628750467236220312:=0
def tw13095665916792544658:=0
def tw13476873762873695112:=0
def tw10089322239301926322:=0
def tw8676920944212380714:=0
def tw11223101789302139415:=0
def tw4580702723884536926:=0
def tw6879694509263260781:=0
def tw18218258338625639590:=0
def tw8936436974927445338:=0
def tw7471079420836120514:=0
def tw13310072733391899618:=0
def tw10566661807762384819:=0
def tw15304967907014033142:=0
def tw15285217304058670506:=0
def tw10019510851377581928:=0
def tw10585124172283762987:=0
def tw6727427602654711420:=0
def tw16029224320791884151:=0
def tw9196437259900250300:=0
def tw13318713782353390953:=0
def tw8686064570885659299:=0
def tw181205039528804812:=0
def tw9556358752012033004:=0
def tw10241114558165618691:=0
def tw7268523461276694370:=0
def tw3063812488902392317:=0
def tw12871788291167088441:=0
def tw2381661399030009590:=0
def tw17789982620600646143:=0
def tw14507558967720756696:=0
def tw13040439647397097143:=0
def tw11846327434628077116:=0
def tw8437414724001604778:=0
def tw6979665912984007780:=0
def tw18334180595087767175:=0
def tw9173284811898808089:=0
def tw8890803300612769343:=0
def tw15254234814620765813:=0
def tw11570980495030723172:=0
def tw9002899796185034957:=0
def tw8263076813897346212:=0
def tw7844177082652475931:=0
def tw6528133815962596670:=0
def tw5798946979567425267:=0
def tw2629969753663009140:=0
def tw13764970768998171096:=0
def tw11634521864704390065:=0
def tw3136704651922005234:=0
def tw12972150589125253926:=0
def tw17577433247873616844:=0
def tw8297135920176340754:=0
def tw3127350494497644945:=0
def tw12009807409727864186:=0
def tw12712103101271637937:=0
def tw4365150016533014463:=0
def tw2920989910304902061:=0
def tw11224235266334572325:=0
def tw17016694157313372551:=0
def tw8392980793857820403:=0
def tw14948577063418874269:=0
def tw11235000342988893209:=0
def tw1058246367683923192:=0
def tw9926235828377430039:=0
def tw9853430392036351632:=0
def tw9259248172685895389:=0
def tw9231450949261040031:=0
def tw9128653562615101339:=0
def tw8922679893795568799:=0
def tw8901795188504302940:=0
def tw8869479384992971724:=0
def tw8822611542868693499:=0
def tw8702216122347759633:=0
def tw86166599602613235:=0
def tw8418780319197122613:=0
def tw8408470297361709732:=0
def tw766456694695123504:=0
def tw7274251291496059493:=0
def tw7137168566334640391:=0
def tw7074521845469027385:=0
def tw6867251612894981582:=0
def tw6846447296499163394:=0
def tw6660597936960114499:=0
def tw6570100617869158513:=0
def tw6006122965786518892:=0
def tw5922693330597460122:=0
def tw5802384843555625370:=0
def tw5800786351820534761:=0
def tw5551779624082841184:=0
def tw526301670386883412:=0
def tw5109248826341545659:=0
def tw4759222164915678949:=0
def tw450323484083300992:=0
def tw4405542531781379101:=0
def tw4372083325700975859:=0
def tw4352757089091774413:=0
def tw412273442017511518:=0
def tw3915288380093973344:=0
def tw3842792529777565262:=0
def tw3825916287854227179:=0
def tw3789003119532509787:=0
def tw3782142480977769663:=0
def tw3761859072486770159:=0
def tw3475649297592901522:=0
def tw3404129863925461805:=0
def tw3394999611835288687:=0
def tw3177891756175467552:=0
def tw3125856796020896684:=0
def tw2958093366404018689:=0
def tw2904532375461609866:=0
def tw2876649345327505228:=0
def tw2778693242767880298:=0
def tw2682701751752248467:=0
def tw2646924235058382832:=0
def tw2375582574466641794:=0
def tw2271490280733262812:=0
def tw2257369856041670638:=0
def tw2193553864751986425:=0
def tw205873712579592469:=0
def tw1990870918116383685:=0
def tw1917575285328886803:=0
def tw1903765451791673566:=0
def tw1831860947523135938:=0
def tw17755034775545740489:=0
def tw17744066718160705011:=0
def tw17633021429341222862:=0
def tw17599698412860983330:=0
def tw17572601607859703346:=0
def tw17517807140774861831:=0
def tw17459245268254996410:=0
def tw17419879889513870306:=0
def tw17206369231905418037:=0
def tw17199557948889753779:=0
def tw17157193874871777530:=0
def tw17139574128379662313:=0
def tw17116034585642122504:=0
def tw16932450676392908516:=0
def tw16753642947653244042:=0
def tw167326116533656315:=0
def tw1670644745117322465:=0
def tw16705757039929984421:=0
def tw16675939353289449725:=0
def tw16607547515237979326:=0
def tw16561351648610841477:=0
def tw16519335429267783148:=0
def tw16440144989915616815:=0
def tw16410303836467010251:=0
def tw16343820741372710957:=0
def tw16230521577048383412:=0
def tw16206764378080943139:=0
def tw162007854059086954:=0
def tw16179415314562116099:=0
def tw16099548669118579639:=0
def tw15990563694081149186:=0
def tw15942057822192025261:=0
def tw15888639948192141482:=0
def tw15840871434542076494:=0
def tw15704043224231850887:=0
def tw1567382059475675559:=0
def tw15612905789769232378:=0
def tw1551338408076860445:=0
def tw15464235138309522174:=0
def tw15413121157482181810:=0
def tw15312078338201193426:=0
def tw14999277926032326168:=0
def tw14764206951261611092:=0
def tw14675511074552493905:=0
def tw14591875424472324999:=0
def tw14557267625529674453:=0
def tw14553811447783622536:=0
def tw14504900959099483668:=0
def tw14271863319437622217:=0
def tw14261218298892633194:=0
def tw14222713875490405875:=0
def tw14142934628699741359:=0
def tw13650995042331129382:=0
def tw1357805085840138205:=0
def tw13550915164847792626:=0
def tw13519856094519221666:=0
def tw13332699209705082781:=0
def tw13308119662275387933:=0
def tw13295300359227297518:=0
def tw13254164335192319147:=0
def tw13106755495236952509:=0
def tw12940480259102934851:=0
def tw12929230605346574250:=0
def tw12917153517881349718:=0
def tw12909748245079672075:=0
def tw12874510882485164095:=0
def tw12666969479969030225:=0
def tw12601991282301752398:=0
def tw12455720686535775559:=0
def tw12097055324085631430:=0
def tw12066663314941656237:=0
def tw1202008166493317401:=0
def tw12014494282110162821:=0
def tw11996778424933075293:=0
def tw11923606283520886177:=0
def tw11784313734533137615:=0
def tw11750718114865122626:=0
def tw1174428206759616898:=0
def tw1171477756749542079:=0
def tw11707432867733569490:=0
def tw11662677312434324352:=0
def tw11592894741734070818:=0
def tw11239486545476245772:=0
def tw1114324219925805189:=0
def tw1111911559055626481:=0
def tw11039602046459369108:=0
def tw10979440927384139083:=0
def tw10775367513147167705:=0
def tw1059279515379137015:=0
def tw10533976462701291363:=0
def tw10471130330840913689:=0
def tw10431573375838079929:=0
def tw10421309897877207196:=0
def tw10340980900211502121:=0
def tw10216654328923633759:=0
def tw10167755700829090659:=0
end PySem.W.Fast
open PySem PySem.W PyProof.Rows
local macro_rules | `(tactic| walk_at "f")=>`(tactic| (refine' L2.DfT.of ?a ?l ?c ?k;(case a=>k_is);(case l=>k_is);(case c=>k_is);(case k=>k_is)))
set_option maxRecDepth 100000 in
theorem PySem.Challenge.cw_goneday_k50_claims_of_holds_holds : PySem.Challenge.rw_goneday_k50_claims_of_holds.Holds := by
 w_on;o_law;k_head;(case hw=>w_witness2)
 k_fill
 refine L2.walk_ofBK (l:=PySem.Challenge.rw_goneday_k50_claims_of_holds) (n:=63) (k:=11) (x:="_law_script") (CX:=L2.CX0) (sp:=K50.sp_law) rfl Qb rfl ⟨rfl,Qb,Qb⟩ (λw h Y=>PySem.W.kIn_of Y) ?F ?S ?C
 case F=>
  intro w mg fa h KX G hmg;have T:∃t,K50.Txt (L2.KOf KX) mg t:=by
   dsimp only [L2.KOf];refine' K50.txt_mk KX G ?za ?zb ?zc ?zd ?ze ?zf ?zg ?zh ?zi ?zj ?zk ?zl ?zm ?zn ?zo ?zp ?zq ?zr ?zs ?zt ?zu ?zv ?zw ?zx ?zy ?zz ?zA ?zB ?zC ?zD ?zE ?zF ?zG ?zH ?zI ?zJ ?zK ?zL ?zM ?zN ?zO ?zP ?zQ ?zR ?zS ?zT ?zU ?zV ?zW ?zX ?zY ?zZ ?ya ?yb ?yc ?yd ?ye ?yf ?yg ?yh ?yi ?yj ?yk ?yl ?ym ?yn ?yo ?yp ?yq ?yr ?ys ?yt ?yu ?yv ?yw ?yx ?yy ?yz ?yA ?yB
   (case za | zb | zc | zd | ze | zf | zg | zh | zi | zj | zk | zl | zm | zn | zo | zp | zq | zr | zs | zt | zu | zv | zw | zx | zy | zz | zA | zB | zC | zD | zE | zF | zG | zH | zI | zJ | zK | zL | zM | zN | zO | zP | zQ | zR | zS | zT | zU | zV=>walk_at "f")
   (case zW=>k_is)
   (case zX=>exact⟨_,rfl⟩)
   (case zY | zZ=>k_is)
   (case ya=>exact⟨_,rfl⟩)
   (case yb=>k_is)
   (case yc=>exact⟨_,rfl⟩)
   (case yd=>k_is)
   (case ye=>exact⟨_,rfl⟩)
   (case yf | yg=>k_is)
   (case yh=>first | (repeat (first | exact .nil | refine .cons ⟨_,rfl⟩ ?_)))
   (case yi=>decide)
   (case yj=>k_is)
   (case yk=>exact⟨_,rfl⟩)
   (case yl | ym | yn | yo | yp | yq | yr | ys | yt | yu | yv | yw | yx | yy | yz | yA | yB=>k_is)
  obtain⟨t,T⟩:=T;have e0:=hmg.symm.trans T.F_v.m;cases e0;exact⟨t.d_v,T.bt_v,λbase kb nb=>K50.ok_law T⟩
 case S=>exact λK H a ns hl hb hO hS=>K50.start_law hl hb hS
 case C=>exact λ_ _ _ _ z=>z
