import PyProof.Rows.All
import Wide.All
import OpenK.AllK
import PySem.Challenge.RW_goneday_k13_reckonings
open PySem.Str renaming ofString->Ip,ofString->Iu
open PySem.W renaming Frag->Iq,nsIn->IU,mg_none_of->JD,mg_of->JJ,findIn->JT,emptyDict->KA,fnOf->KJ,keepIn->KQ,excIn->KS,instObj->K1,mroIn->Lg,codeIn->LU,kitOne->LV,cellsFrom_some->L5,kitAny->Mp,callWith_K->Ms,methodObj->Mz,hasDictIn->MA,plainGet->MM,takerIn->MV,makesIn->MW,lookIn->M8,isFn->Ny,plainOver->NN,specialIn->NT,handedIn->NV,takesIn->N6,isClsIn->N7
open PySem renaming Spec->Ir,mem_of_lookup->J6,Scope->Kw,boot_len->LY,Within->Nr,Fin->NH,call->OD
open List renaming length_map->Iw,map_cons->IA,length_cons->IE,getElem?_eq_some_iff->IG,getElem?_set_ne->IH,size_toArray->II,replicate->IJ,mem_cons->IP,getElem?_eq_getElem->IQ,getElem?_map->IS,getElem?_set_self->IT,append_nil->IW,getElem?_cons_succ->Ja,lookup_cons->Je,mem_append->Jf,map_nil->Jg,getElem?_cons_zero->Ji,mem_of_getElem?->Jj,mem_cons_of_mem->Jm,mem_append_right->Jo,cons_append->Jq,length_append->Js,length_nil->Jt,nil_append->Ju,mem_singleton->Jv,pairwise_cons->Jw,mem_map->Jy,set_cons_zero->JE,set_cons_succ->JF,map->JG,getElem?_nil->JH,any_cons->JN,range->JP,mem_filter->JS,map_append->J3,take_of_length_le->Kl,length_filter_le->Kv,map_map->Kx,all_cons->Ky,pairwise_map->KC,all_nil->KL,any_nil->KN,length_take->KW,getElem_mem->KY,mem_cons_self->KZ,getElem?_append_left->K0,nodup_cons->K2,filterMap_cons->K5,all_eq_true->K7,not_mem_nil->K8,filter_cons->K9,length_replicate->Lc,getElem?_eq_none->Ld,getElem?_append_right->Le,filter_sublist->Lk,getElem?_replicate->Ll,mem_filterMap->Lo,foldl_cons->Lr,filter_filter->Lu,lookup->Lv,length_range->Lw,nodup_append->Lx,mem_range->Ly,filterMap_append->LA,length_drop->LC,getD_eq_getElem?_getD->LG,filter_map->LN,filterMap_map->LQ,take_succ->LW,getElem?_set_self'->LZ,reverse_cons->L4,length->L6,getElem_inj->Ma,ext_getElem->Mc,length_singleton->Md,eq_nil_or_concat->Mf,concat_eq_append->Mg,mem_append_left->Mi,find?_cons->Ml,mem_of_mem_take->Mm,mem_replicate->Mt,set_comm->Mw,map_take->My,take_sublist->MB,append_assoc->MD,reverse_perm->ME,drop_eq_getElem_cons->MH,pairwise_iff_getElem->MI,Nodup->MJ,pairwise_singleton->MT,of_mem_zip->MX,range_succ->MY,drop_of_length_le->M4,getLast?_concat->Nk,map_congr_left->Nl,length_reverse->Nn,replicate_succ->Nq,contains_cons->NC,toArray->NG,any_eq_false->NM,nodup_range->NZ,map_snd_zip->N3,forIn_cons->N5,forIn_nil->N8,drop_zero->Oa,perm_cons->Ob,tail_cons->Oc,lt_trans->Og,map_drop->Oj,not_lt->OA,filter->OB
open PySem.PyData renaming int->Iy,str->ID,eqv->IL,strOk->IV,list->IY,tuple->I0,canLay0->Jk,canLayAll0->KR,depth->Lb,depthAll->LK,eqvAll->L9,bool->Mq,none->M6,dict->OC
open PySem.Heap renaming get?_push_of_some->Iz,lt_size->IC,get?_push_size->Jh,SameBut->LP,size_push->LS,get?_update_ne->Np,FlyingW->NB,MadeExcOf->N9
open Nat renaming le_refl->IB,lt_of_lt_of_le->IM,ne_of_lt->IZ,le_trans->Jx,reduceAdd->JW,reduceSub->JX,zero_le->J1,reduceLeDiff->J5,lt_irrefl->Kb,add_zero->Kp,zero_add->Kq,sub_self->Kr,reduceLT->Ks,lt_or_ge->Li,le_of_lt->LO,le_of_succ_le->MC,ne_of_gt->ML,lt_succ_self->MN,le_of_not_lt->MO,le_of_eq->Nu,eq_zero_or_pos->NF,lt_of_le_of_lt->NL,lt_succ_of_lt->NQ,le_succ_of_le->NU,min_le_right->NW,sub_zero->Oq
open Bool renaming false_ne_true->IF,false_eq_true->Jl,not_eq_true'->JA,true_eq_false->JK,true_and->JU,or_false->Kc,false_or->Ke,not_false->Kh,and_eq_true->Kk,not_true->Kn,and_true->Kz,eq_iff_iff->LH,or_eq_true->MZ,false_and->M7,and_comm->Oi
open PySem.ScopeKind renaming function->IX
open PySem.Value renaming ref->Jb,str->La,bool->Lh,int->Lm,none->Ln,builtin->L8,type->N4,isStrOf->Of,isInt->Ot,bytes->Ou,float->Ov
open Array renaming length_toList->Jc,getD_eq_getD_getElem?->J7,toList_append->Lj,getD->LX,append_assoc->Mr,perm_iff_toList_perm->Mx,size_eq_zero_iff->M5,mem_toList_iff->Nb,toList_inj->N0,toList_map->N1,toList_zip->N2,toList->Ol
open PySem.NameKind renaming free->Jd,free->Kd,globalImplicit->K4,cell->L7
open List.cons renaming injEq->Jn
open Int renaming eq_ofNat_of_zero_le->Jp,reduceNeg->Kf,reducePow->Kg,reduceLT->Kt,reduceLE->Ku,emod_nonneg->KI,emod_lt_of_pos->KO,le_antisymm->M3,zero_add->NK,toNat_natCast->NP,lt_trichotomy->NS,toNat->Oe,ediv_one->Om,mul_one->Ox
open Option.some renaming inj->Jr,injEq->JB
open PySem.PyData.int renaming injEq->Jz
open PySem.PassesOwn renaming never->JC
open PySem.PyData.tuple renaming injEq->JI
open Option renaming join_some->JL,join_none->JM,map_some->Ki,map_none->Kj,isSome_iff_exists->K3,isSome_some->NA,getD_none->NX
open PySem.PyData.list renaming injEq->JO
open False renaming elim->JQ
open PySem.SeqAt renaming canLay_of_shaped->JR,shaped->Ko
open PySem.PyData.str renaming injEq->JV
open PySem.PyData.bool renaming injEq->JY
open PySem.Builtin.Slice renaming slicePlaces->JZ,sliceAdjust->KH,sliceApplied->Lf,sliceFields->MF
open PySem.Obj renaming mapSeq->J0
open PySem.Builtin.Tuple renaming tupleExact->J4,tupleItemsOf->LD
open PyProof.Rows renaming slot_tuple_getitem->Ka,boot_min->Lz,callWith_type1->LB,entry_tuple_getitem->Mb,boot_sum->Me,args_tuple_getitem->Mh,bubble->Mo,boot_sorted->MQ,boot_max->Na
open True renaming intro->Km
open PySem.Builtin.Int renaming intBits->KD
open PySem.Txt renaming mul->KU
open PySem.Heap.SameBut renaming update->K6
open PySem.W.WData renaming int->Lp,weightAll->LJ,list->MG,layableAll->NY,weight->Oo
open ForInStep renaming yield->Lq
open PySem.W.KasT renaming kasWp_bind->LL
open Sum renaming inr->LR,inl->MK
open Or renaming inr->Mj,inl->MP
open PySem.Paired renaming length->Mu,snoc->Oz
open PySem.Calls renaming Name_function_global->Mv,evalArgs_plain->Nd,spliced_cons->Nx,spliced_nil->NO
open List.Pairwise renaming imp_of_mem->MR,sublist->M9
open PySem.Builtin.List renaming listUpdate->MS
open PyProof.Rows.IsTup renaming new->MU
open PySem.Around renaming frames_deeper->Nc,under->Nv
open PySem.SeqAt.RcAt renaming tuple_str->Nh,str_tuple->Ni,str_str->ND
open PySem.Expr renaming BinOp->Nj,List->NJ,Subscript->Od
open PySem.Flow renaming next->Nt
open PySem.Code renaming isFrame->Nw,frames->Oy
open PySem.Heap.IsSliceOf renaming new->Nz
open Nat.succ renaming inj->NI
open Prod.mk renaming injEq->Oh
open PySem.CmpOp renaming NotIn->Ow
open PySem.SeqAt.EqAt renaming str_int->OE
open PySem renaming PyData->OM,Value->ON,Addr->OO,Shared->OP,wpAny_bind->OQ,Expr->OR,sizeLine->OS,wpAny_pure->OT,model->OU,wpAny->OV,starEach->OW,FuncData->OX,mainGlobals->OY,Program->OZ,Heap->O3,World->O4,Around->O5,Stmt->O6,foldedSetIterable->O7,sizeLine_eq->O8,compareOp->Pa,bootBuiltins->Pb,Scope->Pc,backTo->Pd,wpAny_mono->Pe,wpAny_newObj_type->Pf,swapsWith->Pg,cellsFrom->Ph,wpAny_truthy_bool->Pj,NameKind->Pk,wpAny_loadPart'->Pl,behindInMarks->Pm,wpAny_Call_Name_kw->Pn,sysModules->Po,wpAny_passesOwn->Pr,binaryOp->Pu,attributeBase->Px,wpAny_holding->Py,wpAny_execs_nil->Pz,bindName->PB,wpAny_bindName->PD,codeAny_mono->PF,swapsWithSole->PH,swappedStores->PJ,codeAny->PL,getItem->PM,sliceBounds->PN,PassesOwn->PR,builtinsNs->PV,assignEach->PY,cLine->PZ,wpAny_callSpecial?_slot->P0,wpAny_field->P1,assignInOrder->P4,wpAny_call_entry->P5,Keyword->P6,letOwnedTupleGo->P8,typeIs_str->P9,Arguments->Qb,DictEntry->Qc,wpAny_standAt->Qe,wpAny_newList->Qf,wpAny_sequenceKey->Qh,wpAny_execs_cons->Qi,wpAny_comprehension_free->Qj,GenState->Qk
open PyProof.Rows renaming seqObj->O9,assignInOrder_cons->Pq,envOfC->Pw,listUpdate_at->PK,get?_update_seq->PQ,AllBare->PX,slicePart_none->Qa,assignInOrder_nil->Qg
open PySem.W renaming hideAll_get->P2,kia_one->P7
theorem OF{p:Prop}[Decidable p](h:decide p=true:=by decide+kernel):p:=of_decide_eq_true h
theorem OG{p:Prop}(h:p:=by decide):p:=h
theorem OH{p:Prop}(h:p:=by omega):p:=h
theorem OL{p:Prop}(h:p:=by simp):p:=h
theorem OI{c:Prop}{h:Decidable c}(k:¬c){α:Sort u}{t e:α}:ite c t e=e:=if_neg k
theorem OJ{c:Prop}{h:Decidable c}(k:c){α:Sort u}{t e:α}:ite c t e=t:=if_pos k
abbrev Ql:=PySem.NameKind.local
set_option compiler.extract_closed false
def rzS:="↓kF ↓kM ↓kN ↓kO ↓kP ↓kT ↓kU ↓kG ↓gf ↓j0 ↓lP ↓lQ ↓lR ↓lS ↓lT ↓lU ↓j1 ↓j2 ↓j3 ↓j4 ↓j5 ↓j6 ↓j7 ↓j8 ↓j9 ↓kc ↓ke ↓kh ↓ki ↓kj ↓km ↓ko ↓kq ↓kr ↓ku ↓ky ↓kz ↓kA ↓kC ↓kD cV fb fi fc fh g8 d4 d6 fj fu d8 fy eO dC bM dI fA fB fC il fD cW fO fN ie fE dL d5 eQ gY dZ dM cz eR eS eT eU eV eX eZ gZ dz g6 ja jd je jf jg jh ji jj jk jl jm jn jo jq jr jt ju jv jw jx jy jz jA jB jC jD jE jF jG jH jI jJ jK jL jM jN jO jP jQ jR jS jT jU jc fH ig ip eD iB iw fF fG fI fJ fK fL fM eh iq fP iu dA hW hZ ia d9 hG hJ hU eg fw fx hV fT fX fY i6 fZ i5 i9 fS iF iG iH cX iJ iI iD iE jV jW jX jY gb gc jZ gh kH gi kI kJ kK kL gj kW gs gq gr gm gz kY gu kZ gy dS kX k7 k8 gA gB gC k9 la gE lg gF gG lp lq gH gI lr lu lh lx lA lB lC gN gK gL gM lW gO gQ gR lE lF lG gJ lI lJ lK lL lM lN lH lO iK iT iU iV iW iX iY iZ i3 i4 ne_eq iO iP iQ iR iS iL iM iN dO dB fz dN fq fm fk cq cf bH dn dG cS IA Jg IE Jt IJ Jq Ju IW JW JX Kp Kq Kr Ji Ja JH JE JF JB exists_eq_left' exists_eq_left exists_and_left exists_and_right JL JM Sl.v.injEq Sl.o.injEq Sl.k.injEq Jz JY JV JI JO Jn and_true true_and Ks J5 exists_const decide_eq_true_eq Kt Ku Kf Kg JA decide_eq_false_iff_not and_assoc or_true true_or ↓reduceIte if_true if_false Jl JK not_true_eq_false not_false_eq_true Kn Kh ite_true ite_false eq_self exists_eq reduceCtorEq false_and and_false or_false false_or exists_false Ki Kj cK Ky KL JN KN Kz Kc JU Ke bO bS cA cL dP cM el fQ beq_self_eq_true iy iz iA bL sizeLine_eq"
def rzT (n : String) : Lean.MacroM (Lean.TSyntax `tactic) := do
 let ts : Array (Lean.TSyntax `Lean.Parser.Tactic.simpLemma) <- ((n.splitOn " ").toArray).mapM λs =>do
  if s.startsWith "↓" then
   let i := Lean.mkIdent (s.drop 1).toString.toName
   `(Lean.Parser.Tactic.simpLemma| ↓ $i:ident)
  else
   let i := Lean.mkIdent s.toName
   `(Lean.Parser.Tactic.simpLemma| $i:ident)
 `(tactic| simp only [$ts,*])
local macro_rules|`(command|def $i:declId $s:optDeclSig $v:declVal)=>`(command|noncomputable def $i:declId $s:optDeclSig $v:declVal)|`(command|abbrev $i:declId $s:optDeclSig $v:declVal)=>`(command|noncomputable abbrev $i:declId $s:optDeclSig $v:declVal)
noncomputable section
set_option Elab.async false
set_option linter.all false
set_option maxRecDepth 100000
set_option maxHeartbeats 0
set_option genSizeOf false
namespace L2
open PySem PySem.Spec PyProof.Rows
abbrev ag:=Sum Int Str
def oA:ag->ON->Bool
 | .inl k,v=>Ot k v
 | .inr x,v=>Of x v
def Bu(w:O4):ag->Int
 | .inl k=>hashInt k
 | .inr x=>hashStr w x
theorem mn:∀{k:ag}{v:ON},oA k v=true->(∃i t,k=MK i/\v=Lm i t)\/(∃x t,k=LR x/\v=La x t)
 | .inl i,v,h=>by
  obtain⟨t,e⟩:=Value.isInt_shape (k:=i) (v:=v) h;exact .inl ⟨i,t,rfl,e⟩
 | .inr x,v,h=>by
  obtain⟨t,e⟩:=Value.isStrOf_shape (x:=x) (v:=v) h;exact .inr ⟨x,t,rfl,e⟩
theorem Bv(i:Int)(t:Tok):oA (.inl i) (.int i t)=true:=by simp [oA,Ot]
theorem Bw(x:Str)(t:Tok):oA (.inr x) (.str x t)=true:=by simp [oA,Of]
theorem Bx(a b:Int):decide ((MK a:ag)=MK b)=(a==b):=by
 by_cases e:a=b
 ·subst e;simp
 ·have h:¬(MK a:ag)=MK b:=λq=>e (MK.inj q);rw [decide_eq_false h];exact(beq_eq_false_iff_ne.mpr e).symm
theorem By(a b:Str):decide ((LR a:ag)=LR b)=decide (a=b):=by
 by_cases e:a=b
 ·subst e;simp
 ·have h:¬(LR a:ag)=LR b:=λq=>e (LR.inj q);rw [decide_eq_false h,decide_eq_false e]
theorem Bz(a:Int)(b:Str):decide ((MK a:ag)=LR b)=false:=decide_eq_false (λq=>nomatch q)
theorem BA(a:Str)(b:Int):decide ((LR a:ag)=MK b)=false:=decide_eq_false (λq=>nomatch q)
def cH(prog:OZ)(w:O4):PySem.KeyKind prog w ag where
 is:=oA
 hash:=Bu w
 inj:=λv a b ha hb=>by
  rcases mn ha with⟨i,t,rfl,rfl⟩ | ⟨x,t,rfl,rfl⟩
  ·rcases mn hb with⟨j,u,rfl,e⟩ | ⟨y,u,rfl,e⟩
   ·injection e with e1 _;rw [e1]
   ·exact nomatch e
  ·rcases mn hb with⟨j,u,rfl,e⟩ | ⟨y,u,rfl,e⟩
   ·exact nomatch e
   ·injection e with e1 _;rw [e1]
 byValue:=λk v h=>by
  rcases mn h with⟨i,t,rfl,rfl⟩ | ⟨x,t,rfl,rfl⟩ <;> rfl
 pyHash:=λhv h=>by
  rcases mn hv with⟨i,t,rfl,rfl⟩ | ⟨x,t,rfl,rfl⟩
  ·exact wpAny_pyHash_int h
  ·exact wpAny_pyHash_str h
 eqBool:=λhu hv h=>by
  rcases mn hu with⟨i,t,rfl,rfl⟩ | ⟨x,t,rfl,rfl⟩
  ·rcases mn hv with⟨j,u,rfl,rfl⟩ | ⟨y,u,rfl,rfl⟩
   ·rw [Bx] at h;exact wpAny_eqBool_int h
   ·rw [Bz] at h;exact SeqAt.EqAt.int_str i t y u _ _ _ _ h
  ·rcases mn hv with⟨j,u,rfl,rfl⟩ | ⟨y,u,rfl,rfl⟩
   ·rw [BA] at h;exact OE x t j u _ _ _ _ h
   ·rw [By] at h;exact wpAny_eqBool_str h
 «strs»:=λk x t v h=>by
  rcases mn h with⟨i,u,rfl,e⟩ | ⟨y,u,rfl,e⟩
  ·exact nomatch e
  ·injection e with e1 _
   subst e1;cases v <;> rfl
theorem BB(prog:OZ)(w:O4)(i:Int)(t:Tok):(cH prog w).is (.inl i) (.int i t)=true:=Bv i t
theorem BC(prog:OZ)(w:O4)(x:Str)(t:Tok):(cH prog w).is (.inr x) (.str x t)=true:=Bw x t
inductive V where
 | non | bl (b:Bool) | int (i:Int) | str (x:Str) | byt (b:Array UInt8) | flt (b:UInt64) | ref (a:OO) | ty (n:String)
 deriving DecidableEq
def ax:V->ON->Prop
 | .non,u=>u=Ln
 | .bl b,u=>u=Lh b
 | .int i,u=>∃t,u=Lm i t
 | .str x,u=>∃t,u=La x t
 | .byt b,u=>∃t,u=Ou b t
 | .flt b,u=>∃t,u=Ov b t
 | .ref a,u=>u=Jb a
 | .ty n,u=>u=N4 n
abbrev aB:List V->List ON->Prop:=Paired ax
theorem aB.length{xs:List V}{us:List ON}(r:aB xs us):xs.length=us.length:=Mu r
theorem aB.get:∀{xs:List V}{us:List ON}{i:Nat}{x:V},aB xs us->xs[i]?=some x->∃u,us[i]?=some u/\ax x u
 | _,_,_,_,.nil,e=>by simp at e
 | _,_,0,_,.cons r _,e=>by simp at e;subst e;exact⟨_,rfl,r⟩
 | _,_,i+1,x,.cons _ t,e=>by
  obtain⟨u,h1,h2⟩:=aB.get (i:=i) (x:=x) t (by simpa using e);exact⟨u,by simpa using h1,h2⟩
theorem aB.append:∀{xs ys:List V}{us ws:List ON},aB xs us->aB ys ws->aB (xs++ys) (us++ws)
 | _,_,_,_,.nil,s=>s
 | _,_,_,_,.cons r t,s=>.cons r (aB.append t s)
theorem aB.take:∀{xs:List V}{us:List ON}(n:Nat),aB xs us->aB (xs.take n) (us.take n)
 | _,_,0,_=>.nil
 | _,_,_+1,.nil=>.nil
 | _,_,n+1,.cons r t=>.cons r (aB.take n t)
theorem aB.drop:∀{xs:List V}{us:List ON}(n:Nat),aB xs us->aB (xs.drop n) (us.drop n)
 | _,_,0,r=>r
 | _,_,_+1,.nil=>.nil
 | _,_,n+1,.cons _ t=>aB.drop n t
def mq:Option V->Option ON->Prop
 | some v,some u=>ax v u
 | none,none=>True
 | _,_=>False
def KV{κ:Type}:List (κ×V)->List (κ×ON)->Prop:=Paired λ(p:κ×V) (q:κ×ON)=>p.1=q.1/\ax p.2 q.2
def kV:ag->V
 | .inl i=>.int i
 | .inr x=>.str x
inductive HO where
 | lst (xs:List V)
 | tup (xs:List V)
 | dK (kvs:List (ag×V)) | dT (kvs:List (List ag×V))
 | set (S:Int->Bool) (n:Nat)
 | ins (C dx:OO) (fs:List (Str×V))
 | own (x:OO)
 | xd (fs:List (Str×V))
 | met (f x:OO)
 | rng (lo hi:Int)
 | frz (o:Obj) (u:HO)
 | tbl (ps:Array ON)
 | cod (q:Str)
 | ext (φ:O3->Prop)
abbrev Hp:=OO->Option HO
def ak(H:Hp)(a:OO)(o:HO):Hp:=λb=>if b=a then some o else H b
theorem bg{H:Hp}{a:OO}{o:HO}:ak H a o a=some o:=by unfold ak;rw [OJ rfl]
theorem ay{H:Hp}{a b:OO}{o:HO}(h:b≠a):ak H a o b=H b:=by unfold ak;rw [OI h]
theorem BD{H:Hp}{a b:OO}{o u:HO}(h:H a=some o)(h':H b=some u)(d:o≠u):a≠b:=by
 intro e;subst e;rw [h] at h';exact d (Jr h')
theorem cw{H:Hp}{a b:OO}{o:HO}(h:H a=some o)(h':H b=none):a≠b:=by
 intro e;subst e;rw [h] at h';cases h'
def BE(h:O3)(a:OO)(q:Str):Prop:=∃oc vs t,h.get? a=some oc/\oc.data= .fields vs/\vs[1]?=some (.str q t)
def BF(H:Hp)(h:O3)(a:OO)(q:Str):Prop:=∃ps:Array ON,h.get? a=some {cls:= .none,data:= .fields ps}/\PySem.TriplesOk ps.toList/\∀pos cv,PySem.codeAmong pos ps.toList=some cv->∃c,cv= .ref c/\H c=some (.cod q)
section
variable (P:OZ) (w:O4)
def bF(H:Hp)(h:O3)(a:OO):HO->Prop
 | .lst xs=>xs.length<=OS/\∃(its:List ON)(n:Nat),aB xs its/\h.get? a=some {cls:= .type "list",data:= .seq its.toArray n}
 | .tup xs=>xs.length<=OS/\∃its:List ON,aB xs its/\IsTup h a its.toArray
 | .dK kvs=>kvs.length<=OS/\(a==Po)=false/\∃vs,KV kvs vs/\h.DictOf (cH P w) a vs
 | .dT kvs=>kvs.length<=OS/\(a==Po)=false/\∃xs:List (List ag×OO×ON),
  Paired (λ(p:List ag×V) (q:List ag×OO×ON)=>p.1=q.1/\H q.2.1=some (.tup (p.1.map kV))/\ax p.2 q.2.2) kvs xs/\
  ∃o es ep,h.get? a=some o/\o.ExactDict/\o.data= .dict es ep/\es.toList=xs.map (entryOfKey (tupleKind (cH P w)))/\(xs.map (·.1)).Nodup
 | .set S n=>h.SetOf (intKind P w) a S n
 | .ins C dx fs=>H dx=some (.own a)/\fs.length<=1000/\dx≠a/\h.get? a=some (K1 C dx)/\
  ∃mA,h.Ns1 dx mA/\(∀f,mq (fs.lookup f) (mA f))/\Nr mA (fs.map (·.1))
 | .own _=>∃o,h.get? a=some o
 | .xd fs=>∃mA,h.Ns1 a mA/\∀f,mq (fs.lookup f) (mA f)
 | .rng lo hi=>∃t u v,h.get? a=some {cls:= .type "range",data:= .fields #[.int lo t,.int hi u,.int 1 v]}
 | .frz o u=>h.get? a=some o/\bF H h a u
 | .tbl ps=>∃q t,ps[0]?=some (.str q t)/\BF H h a q
 | .cod q=>BE h a q
 | .met f x=>h.get? a=some (Mz (.ref f) (.ref x))
 | .ext φ=>φ h/\(∃o,h.get? a=some o)/\∀h1 h2:O3,φ h1->(∀o,h1.get? a=some o->h2.get? a=some o)->φ h2
def bf(H:Hp)(h:O3):Prop:=∀a o,H a=some o->bF P w H h a o
end
section
variable {P:OZ} {w:O4} {H H':Hp} {h h':O3} {a:OO} {o:HO}
theorem bF.lt(x:bF P w H h a o):a < h.objs.size:=by
 cases o with
 | lst xs=>obtain⟨_,_,_,_,e⟩:=x;exact IC e
 | tup xs=>obtain⟨_,_,_,p⟩:=x;exact p.lt
 | dK kvs=>obtain⟨_,_,_,_,o,_,_,e,_⟩:=x;exact IC e
 | dT kvs=>obtain⟨_,_,_,_,o,_,_,e,_⟩:=x;exact IC e
 | set S n=>obtain⟨o,_,_,_,e,_⟩:=x;exact IC e
 | ins C dx fs=>obtain⟨_,_,_,e,_⟩:=x;exact IC e
 | own y=>obtain⟨_,e⟩:=x;exact IC e
 | xd fs=>obtain⟨_,⟨_,_,_,e,_⟩,_⟩:=x;exact IC e
 | rng lo hi=>obtain⟨_,_,_,e⟩:=x;exact IC e
 | frz ob u=>obtain⟨e,_⟩:=x;exact IC e
 | tbl ps=>obtain⟨_,_,_,_,e,_⟩:=x;exact IC e
 | cod q=>obtain⟨_,_,_,e,_⟩:=x;exact IC e
 | met f y=>exact IC (show h.get? a=some _ from x)
 | ext φ=>obtain⟨_,⟨_,e⟩,_⟩:=x;exact IC e
theorem Paired.mapP{α β:Type}{F G:α->β->Prop}:∀{l₁:List α}{l₂:List β},Paired F l₁ l₂->(∀a b,F a b->G a b)->Paired G l₁ l₂
 | _,_,.nil,_=>.nil
 | _,_,.cons r t,f=>.cons (f _ _ r) (Paired.mapP t f)
theorem bF.stay(x:bF P w H h a o)(k:∀b u,(b=a\/H b=some (.own a))->h.get? b=some u->h'.get? b=some u)
 (ho:∀b,H b=some (.own a)->H' b=some (.own a))(ht:∀b xs,H b=some (.tup xs)->H' b=some (.tup xs))(hc:∀b q,H b=some (.cod q)->H' b=some (.cod q)):bF P w H' h' a o:=by
 induction o with
 | lst xs=>obtain⟨z,its,n,r,e⟩:=x;exact⟨z,its,n,r,k _ _ (.inl rfl) e⟩
 | tup xs=>obtain⟨z,its,r,ob,e,c⟩:=x;exact⟨z,its,r,ob,k _ _ (.inl rfl) e,c⟩
 | dK kvs=>obtain⟨z,y,vs,r,ob,es,ep,e,c⟩:=x;exact⟨z,y,vs,r,ob,es,ep,k _ _ (.inl rfl) e,c⟩
 | dT kvs=>
  obtain⟨z,y,xs,r,ob,es,ep,e,c⟩:=x;exact⟨z,y,xs,Paired.mapP r λp q z=>⟨z.1,ht _ _ z.2.1,z.2.2⟩,ob,es,ep,k _ _ (.inl rfl) e,c⟩
 | set S n=>obtain⟨ob,es,ep,t,e,c⟩:=x;exact⟨ob,es,ep,t,k _ _ (.inl rfl) e,c⟩
 | ins C dx fs=>
  obtain⟨d,z,ne,e,mA,⟨od,es,ep,e2,c⟩,r⟩:=x;exact⟨ho _ d,z,ne,k _ _ (.inl rfl) e,mA,⟨od,es,ep,k _ _ (.inr d) e2,c⟩,r⟩
 | own y=>obtain⟨ob,e⟩:=x;exact⟨ob,k _ _ (.inl rfl) e⟩
 | xd fs=>obtain⟨mA,⟨od,es,ep,e,c⟩,r⟩:=x;exact⟨mA,⟨od,es,ep,k _ _ (.inl rfl) e,c⟩,r⟩
 | rng lo hi=>obtain⟨t,u,v,e⟩:=x;exact⟨t,u,v,k _ _ (.inl rfl) e⟩
 | frz ob u ih=>obtain⟨e,q⟩:=x;exact⟨k _ _ (.inl rfl) e,ih q⟩
 | tbl ps=>
  obtain⟨q,t,z,qs,e,tr,y⟩:=x;exact⟨q,t,z,qs,k _ _ (.inl rfl) e,tr,λpos cv w=>let ⟨c,e1,e2⟩:=y pos cv w;⟨c,e1,hc _ _ e2⟩⟩
 | cod q=>obtain⟨oc,vs,t,e,r⟩:=x;exact⟨oc,vs,t,k _ _ (.inl rfl) e,r⟩
 | met f y=>
  have e:h.get? a=some (Mz (.ref f) (.ref y)):=x;show h'.get? a=some (Mz (.ref f) (.ref y));exact k a _ (.inl rfl) e
 | ext φ=>obtain⟨p,⟨o,e⟩,st⟩:=x;exact⟨st _ _ p λo q=>k _ _ (.inl rfl) q,⟨o,k _ _ (.inl rfl) e⟩,st⟩
theorem bf.lt(x:bf P w H h)(e:H a=some o):a < h.objs.size:=(x a o e).lt
theorem bf.fresh(x:bf P w H h)(e:h.objs.size<=a):H a=none:=by
 cases q:H a with
 | none=>rfl
 | some u=>exact absurd (IM (x.lt q) e) (Kb _)
theorem bf.kept(x:bf P w H h)(k:∀b u,h.get? b=some u->h'.get? b=some u):bf P w H h':=λa o e=>
 (x a o e).stay (λb u _ q=>k b u q) (λ_ q=>q) (λ_ _ q=>q) λ_ _ q=>q
theorem bf.laid(x:bf P w H h)(k:∀b u,h.get? b=some u->h'.get? b=some u)(hp:h.objs.size<=a)(new:bF P w (ak H a o) h' a o):bf P w (ak H a o) h':=λb u e=>by
 have hn:=x.fresh hp;by_cases hb:b=a
 ·subst hb;rw [bg] at e;cases e;exact new
 ·rw [ay hb] at e;exact(x b u e).stay (λc v _ q=>k c v q) (λc q=>by rw [ay (cw q hn)];exact q) (λc xs q=>by rw [ay (cw q hn)];exact q) λc xs q=>by rw [ay (cw q hn)];exact q
end
def Rd(H:Hp)(a:OO)(u:HO):Prop:=H a=some u\/∃o,H a=some (.frz o u)
theorem Rd.ok{P:OZ}{w:O4}{H:Hp}{h:O3}{a:OO}{u:HO}(r:Rd H a u)(x:bf P w H h):bF P w H h a u:=by
 rcases r with r | ⟨o,r⟩
 ·exact x a u r
 ·obtain⟨_,q⟩:=x a _ r;exact q
def pw:Option HO->Prop
 | some (.lst _)=>True
 | some (.dK _)=>True
 | some (.dT _)=>True
 | some (.set _ _)=>True
 | some (.ins _ _ _)=>True
 | some (.ext _)=>True
 | _=>False
section
variable {P:OZ} {w:O4} {H:Hp} {h h':O3} {x e:OO} {o':HO}
theorem bf.write(ok:bf P w H h)(mu:pw (H x))(he:e=x\/H e=some (.own x))(k:∀b u,b≠e->h.get? b=some u->h'.get? b=some u)(heo:∃u,h'.get? e=some u)
 (new:bF P w (ak H x o') h' x o'):bf P w (ak H x o') h':=λb u q=>by
 have nown:∀c y,H c=some (.own y)->c≠x:=λc y r z=>by subst z;rw [r] at mu;exact mu
 have ntup:∀c xs,H c=some (.tup xs)->c≠x:=λc xs r z=>by subst z;rw [r] at mu;exact mu
 have ncod:∀c xs,H c=some (.cod xs)->c≠x:=λc xs r z=>by subst z;rw [r] at mu;exact mu
 by_cases hb:b=x
 ·subst hb;rw [bg] at q;cases q;exact new
 ·rw [ay hb] at q;by_cases hbe:b=e
  ·have q':H b=some (.own x):=by
    rcases he with z | z
    ·exact absurd (hbe.trans z) hb
    ·rw [hbe];exact z
   rw [q] at q';cases q';obtain⟨v,hv⟩:=heo;exact⟨v,by rw [hbe];exact hv⟩
  ·refine(ok b u q).stay (λc v hc r=>k c v ?_ r) (λc r=>by rw [ay (nown c b r)];exact r) (λc xs r=>by rw [ay (ntup c xs r)];exact r) λc xs r=>by rw [ay (ncod c xs r)];exact r
   rcases hc with rfl | hc
   ·exact hbe
   ·rintro rfl;rcases he with z | z
    ·exact nown c b hc z
    ·rw [hc] at z;cases z;exact hb rfl
end
structure Un (fs ex:List OO) (H H':Hp) (h h':O3):Prop where
 keep:∀b o,h.get? b=some o->H b=none->b ∉ fs->b ∉ ex->h'.get? b=some o
 slot:∀b o,h.get? b=some o->H b=none->b∈fs->b ∉ ex->∃sl,h'.get? b=some {o with slots:=sl}
 free:∀b o,h.get? b=some o->H b=none->b ∉ ex->H' b=none
 there:∀b o,h.get? b=some o->b ∉ ex->∃o',h'.get? b=some o'
 tups:∀b xs,H b=some (.tup xs)->H' b=some (.tup xs)
 frzs:∀b o u,H b=some (.frz o u)->H' b=some (.frz o u)
 tbls:∀b ps,H b=some (.tbl ps)->∃more,H' b=some (.tbl (ps++more))
section
variable {fs fs' ex ex':List OO} {H H1 H2:Hp} {h h1 h2 h':O3} {a x e:OO} {o:HO}
theorem Un.any(u:Un fs ex H H1 h h1){b:OO}{ob:Obj}(q:h.get? b=some ob)(n:H b=none)(hx:b ∉ ex):∃sl,h1.get? b=some {ob with slots:=sl}:=by
 by_cases hb:b∈fs
 ·exact u.slot b ob q n hb hx
 ·exact⟨ob.slots,u.keep b ob q n hb hx⟩
theorem Un.kept(k:∀b u,h.get? b=some u->h'.get? b=some u):Un fs ex H H h h':=
 ⟨λb ob q _ _ _=>k b ob q,λb ob q _ _ _=>⟨ob.slots,k b ob q⟩,λ_ _ _ n _=>n,λb ob q _=>⟨ob,k b ob q⟩,λ_ _ q=>q,λ_ _ _ q=>q,λ_ ps q=>⟨#[],by rw [q];simp⟩⟩
theorem Un.refl:Un fs ex H H h h:=Un.kept λ_ _ q=>q
theorem Un.laid(k:∀b u,h.get? b=some u->h'.get? b=some u)(hp:h.objs.size<=a)(hn:H a=none):Un fs ex H (ak H a o) h h' where
 keep:=λb u q _ _ _=>k b u q
 slot:=λb u q _ _ _=>⟨u.slots,k b u q⟩
 free:=λb u q n _=>by rw [ay (IZ (IM (IC q) hp))];exact n
 there:=λb u q _=>⟨u,k b u q⟩
 tups:=λb xs q=>by rw [ay (cw q hn)];exact q
 frzs:=λb u xs q=>by rw [ay (cw q hn)];exact q
 tbls:=λb ps q=>⟨#[],by rw [ay (cw q hn),q];simp⟩
theorem Un.write(mu:pw (H x))(he:e=x\/H e=some (.own x))(k:∀b u,b≠e->h.get? b=some u->h'.get? b=some u)(heo:∃u,h'.get? e=some u):Un fs ex H (ak H x o) h h':=by
 have hx:∀b,H b=none->b≠x:=λb n z=>by subst z;rw [n] at mu;exact mu
 have hb:∀b,H b=none->b≠e:=λb n z=>by
  subst z;rcases he with r | r
  ·exact hx b n r
  ·rw [n] at r;cases r
 have hm:∀b u,H b=some u->¬pw (some u)->b≠x:=λb u q nm z=>by subst z;rw [q] at mu;exact nm mu
 refine⟨λb u q n _ _=>k b u (hb b n) q,λb u q n _ _=>⟨u.slots,k b u (hb b n) q⟩,λb u q n _=>by rw [ay (hx b n)];exact n,λb u q _=>?_,
  λb xs q=>by rw [ay (hm b _ q λz=>z)];exact q,λb u xs q=>by rw [ay (hm b _ q λz=>z)];exact q,λb ps q=>⟨#[],by rw [ay (hm b _ q λz=>z),q];simp⟩⟩
 by_cases hbe:b=e
 ·subst hbe;exact heo
 ·exact⟨u,k b u hbe q⟩
end
def trk(h:O3)(H:Hp):List OO:=(JP h.objs.size).filter λa=>(H a).isSome
def mr(h:O3)(H:Hp):O3:=PySem.W.hideAll h (trk h H)
theorem BG(h:O3)(H:Hp):(mr h H).objs.size=h.objs.size:=PySem.W.hideAll_size _ _
theorem BH{h:O3}{H:Hp}{b:OO}{o:Obj}(e:h.get? b=some o)(n:H b=none):(mr h H).get? b=some o:=
 PySem.W.hideAll_get _ e λhm=>by
  have q:(H b).isSome=true:=(JS.mp hm).2;rw [n] at q;simp at q
theorem BI{h:O3}{H:Hp}{b:OO}{o:Obj}(e:(mr h H).get? b=some o):h.get? b=some o/\H b=none:=by
 have e':h.get? b=some o:=PySem.W.of_hideAll (trk h H) e;refine⟨e',?_⟩;cases q:H b with
 | none=>rfl
 | some x=>
  have hm:b∈trk h H:=JS.mpr ⟨Ly.mpr (IC e'),by simp [q]⟩;have z:(mr h H).get? b=none:=PySem.W.hideAll_none (trk h H) hm;rw [z] at e;cases e
def BJ(g h:O3)(L:OO):List (OO×Obj):=(JP h.objs.size).filterMap λa=>if a=L\/(g.get? a).isSome=true then none else(h.get? a).map λo=>(a,o)
def rest(g h:O3)(L d:OO):List (OO×Obj):=(BJ g h L).filter λp=>decide (p.1≠d)
structure Mod (K:Iq) (mg:Str->Option ON) (base:O3):Prop where
 kin:K.In base
 glob:base.Ns OY mg
 blt:∃mb,base.Ns PV mb/\∀x:Str,x≠"__name__"->mb x=Pb x
 nolimit:base.NoLimit
structure Cx where
 prog:OZ
 w:O4
 K:Iq
 mg:Str->Option ON
 base:O3
 A:O5
 N:List Str
 s₀:OP
 H₀:Hp
 env:Env
 outer:List Env
 stack:List Env
 ex:List OO
 fn:Str->Bool
 calm:Bool
 pn:List (OO×Obj)
 xe:ON->OP->Prop
def aI(l:List Env):List OO:=l.filterMap (·.frame)
abbrev Cx.fs(X:Cx):List OO:=aI X.outer
def oB(sc:Pc)(x:Str):Prop:=sc.names.lookup x=some .local\/sc.names.lookup x=some .cell\/sc.names.lookup x=some .free
def mv(sc:Pc)(x:Str):Prop:=sc.names.lookup x=some .local\/sc.names.lookup x=some .cell
def BK(env:Env)(h:O3)(m:Str->Option ON)(x:Str)(u:ON):Prop:=
 (env.kindOf x=some .local/\m x=some u)\/((env.kindOf x=some .cell\/env.kindOf x=some .free)/\∃c,env.cells.lookup x=some c/\h.IsCell c (some u))
structure Cx.Ok (X:Cx):Prop where
 mod:Mod X.K X.mg X.base
 kind:X.env.scope.kind= .function
 glob:X.env.globals=OY
 blt:X.env.builtins=PV
 above:X.s₀.heap.objs.size<=X.env.locals
 inj:∀x y c,X.env.cells.lookup x=some c->X.env.cells.lookup y=some c->x=y
 has:∀x,(X.env.kindOf x=some .cell\/X.env.kindOf x=some .free)->∃c,X.env.cells.lookup x=some c
 cab:∀x c,X.fn x=true->X.env.cells.lookup x=some c->X.s₀.heap.objs.size<=c
 hd:X.calm=true->X.A.handled=none
 frames:X.A.frames=some X.stack
 stk:X.stack=X.outer\/(X.stack=X.env::X.outer/\X.env.frame=some X.env.locals)
 exf:∀b∈X.ex,b≠X.env.locals/\∀x c,X.env.cells.lookup x=some c->c≠b
 bs:∀b o,X.base.get? b=some o->X.s₀.heap.get? b=some o/\X.H₀ b=none
 bsz:X.base.objs.size<=X.s₀.heap.objs.size
 noex:∀b o,X.base.get? b=some o->b ∉ X.ex
 exfs:∀b∈X.ex,b ∉ X.fs
 funs:X.s₀.heap.FunFrames X.base X.outer
 frf:∀b∈X.fs,X.H₀ b=none
structure aa (X:Cx) (Qm:List (OO×Obj)) (σ:List (Option V)) (H:Hp) (s:OP):Prop where
 ok:X.Ok
 os:s.os=X.s₀.os
 bare:PX s.gens
 base:Un X.fs X.ex X.H₀ H X.s₀.heap s.heap
 loc:∃m,s.heap.Ns X.env.locals m/\∀(i:Nat)(x:Str)(v:V),X.N[i]?=some x->σ[i]?=some (some v)->oB X.env.scope x->∃u,ax v u/\BK X.env s.heap m x u
 cell:∀x c,X.env.cells.lookup x=some c->∃v,s.heap.IsCell c v
 free:H X.env.locals=none
 freeC:∀x c,X.env.cells.lookup x=some c->H c=none
 pin:∀p∈X.pn++Qm,s.heap.get? p.1=some p.2/\H p.1=none/\p.1≠X.env.locals/\p.1 ∉ X.fs/\∀v,p.2.data≠ .cell v
 hok:bf X.prog X.w H s.heap
 len:σ.length=X.N.length
section
variable {X:Cx} {Qm:List (OO×Obj)} {σ:List (Option V)} {H H':Hp} {s:OP} {h':O3}
theorem Cx.Ok.nofr(ok:X.Ok){b:OO}{o:Obj}(e:X.base.get? b=some o):b ∉ X.fs:=λhb=>by
 have:=(ok.funs.mem hb).1;rw [e] at this;cases this
theorem aa.bs(I:aa X Qm σ H s):∀b o,X.base.get? b=some o->s.heap.get? b=some o/\H b=none:=λb o e=>
 ⟨I.base.keep b o (I.ok.bs b o e).1 (I.ok.bs b o e).2 (I.ok.nofr e) (I.ok.noex b o e),I.base.free b o (I.ok.bs b o e).1 (I.ok.bs b o e).2 (I.ok.noex b o e)⟩
theorem aa.bk(I:aa X Qm σ H s):∀b o,X.base.get? b=some o->s.heap.get? b=some o:=λb o e=>(I.bs b o e).1
theorem aa.mod(I:aa X Qm σ H s):Mod X.K X.mg X.base:=I.ok.mod
theorem aa.kIn(I:aa X Qm σ H s):X.K.In s.heap:=I.ok.mod.kin.keeps I.bk
theorem aa.fr(I:aa X Qm σ H s):∃m,Fr X.base X.env.locals s.heap m:=
 let ⟨m,hn,_⟩:=I.loc
 ⟨m,hn,I.bk,Jx I.ok.bsz I.ok.above⟩
theorem aa.lt(I:aa X Qm σ H s):X.env.locals < s.heap.objs.size:=let ⟨_,hn,_⟩:=I.loc;hn.lt
theorem aa.sz(I:aa X Qm σ H s):X.s₀.heap.objs.size<=s.heap.objs.size:=Jx I.ok.above (LO I.lt)
theorem aa.nofs(I:aa X Qm σ H s){a:OO}(h:s.heap.objs.size<=a):a ∉ X.fs:=λhb=>by
 obtain⟨_,o,ho,_⟩:=I.ok.funs.mem hb;exact absurd (IM (IC ho) (Jx I.sz h)) (Kb _)
theorem aa.cne(I:aa X Qm σ H s):∀x c,X.env.cells.lookup x=some c->c≠X.env.locals:=λx c e z=>by
 obtain⟨v,o,ho,hd⟩:=I.cell x c e;obtain⟨m,⟨o',es,ep,ho',hd',_⟩,_⟩:=I.loc;rw [z,ho'] at ho;cases ho;rw [hd'] at hd;cases hd
theorem aa.funs(I:aa X Qm σ H s):s.heap.FunFrames X.base X.outer:=by
 have all:∀(l:List Env),(∀b∈aI l,b∈X.fs)->X.s₀.heap.FunFrames X.base l->s.heap.FunFrames X.base l:=by
  intro l
  induction l with
  | nil=>intro _ _;trivial
  | cons env r ih=>
   intro hs hl;obtain⟨hk,⟨L,o,hf,hn,ho,hd⟩,hr⟩:=hl;have hL:L∈X.fs:=hs L (by unfold aI;rw [K5,hf];exact KZ);obtain⟨sl,e⟩:=I.base.slot L o ho (I.ok.frf L hL) hL λz=>I.ok.exfs L z hL;exact⟨hk,⟨L,_,hf,hn,e,hd⟩,ih (λb hb=>hs b (by unfold aI;rw [K5,hf];exact Jm _ hb)) hr⟩
 exact all X.outer (λ_ hb=>hb) I.ok.funs
theorem aa.stack(I:aa X Qm σ H s):s.heap.FunFrames X.base X.stack:=by
 rcases I.ok.stk with e | ⟨e,hf⟩
 ·rw [e];exact I.funs
 ·rw [e];obtain⟨m,hn,_⟩:=I.loc;refine .cons (by rw [I.ok.kind];decide) hf hn ?_ I.funs;exact Heap.get?_none_of_le (Jx I.ok.bsz I.ok.above)
theorem aa.stkSub(I:aa X Qm σ H s):∀b∈aI X.stack,b∈X.env.locals::X.fs:=λb hb=>by
 rcases I.ok.stk with e | ⟨e,hf⟩
 ·rw [e] at hb;exact Jm _ hb
 ·rw [e] at hb;unfold aI at hb;rw [K5,hf] at hb;exact hb
theorem aa.stkFree(I:aa X Qm σ H s):∀b∈aI X.stack,H b=none:=λb hb=>by
 rcases IP.mp (I.stkSub b hb) with e | hb
 ·rw [e];exact I.free
 ·obtain⟨_,o,ho,_⟩:=I.ok.funs.mem hb;exact I.base.free b o ho (I.ok.frf b hb) λz=>I.ok.exfs b z hb
theorem aa.step{g':Array Qk}{t':Nat}{d':Drawn}{ch:List OO}(I:aa X Qm σ H s)
 (hch:∀b∈ch,(b∈X.ex\/X.s₀.heap.objs.size<=b)/\b≠X.env.locals/\(∀x c,X.env.cells.lookup x=some c->c≠b)/\∀p∈X.pn++Qm,p.1≠b)
 (keep:∀b o,b≠X.env.locals->b ∉ X.fs->b ∉ ch->s.heap.get? b=some o->H b=none->h'.get? b=some o)
 (slot:∀b o,b≠X.env.locals->b∈X.fs->b ∉ ch->s.heap.get? b=some o->H b=none->∃sl,h'.get? b=some {o with slots:=sl})(free:∀b o,b ∉ ch->s.heap.get? b=some o->H b=none->H' b=none)
 (there:∀b o,b ∉ ch->s.heap.get? b=some o->∃o',h'.get? b=some o')
 (tups:∀b xs,H b=some (.tup xs)->H' b=some (.tup xs))(frzs:∀b o u,H b=some (.frz o u)->H' b=some (.frz o u))(tbls:∀b ps,H b=some (.tbl ps)->∃more,H' b=some (.tbl (ps++more)))
 (ns:∀m,s.heap.Ns X.env.locals m->h'.Ns X.env.locals m)(hok:bf X.prog X.w H' h')(hg:PX g'):
 aa X Qm σ H' {s with heap:=h',gens:=g',drawn:=d',toks:=t'}:=by
 have neL:∀b o,X.s₀.heap.get? b=some o->b≠X.env.locals:=λb o e=>IZ (IM (IC e) I.ok.above);have neC:∀b o,X.s₀.heap.get? b=some o->b ∉ X.ex->b ∉ ch:=λb o e hx hb=>by
  rcases(hch b hb).1 with z | z
  ·exact hx z
  ·exact absurd (IM (IC e) z) (Kb _)
 have cellK:∀x c,X.env.cells.lookup x=some c->∀v,s.heap.IsCell c v->h'.IsCell c v:=λx c e v uu1=>by
  obtain⟨o,ho,hd⟩:=uu1;have nch:c ∉ ch:=λz=>(hch c z).2.2.1 x c e rfl;by_cases hc:c∈X.fs
  ·obtain⟨sl,q⟩:=slot c o (I.cne x c e) hc nch ho (I.freeC x c e);exact⟨_,q,hd⟩
  ·exact⟨o,keep c o (I.cne x c e) hc nch ho (I.freeC x c e),hd⟩
 refine⟨I.ok,I.os,hg,⟨λb o e n hb hx=>?_,λb o e n hb hx=>?_,λb o e n hx=>?_,λb o e hx=>?_,λb xs e=>tups b xs (I.base.tups b xs e),λb o xs e=>frzs b o xs (I.base.frzs b o xs e),λb ps e=>?_⟩,?_,λx c e=>?_,?_,λx c e=>?_,λp hp=>?_,hok,I.len⟩
 ·exact keep b o (neL b o e) hb (neC b o e hx) (I.base.keep b o e n hb hx) (I.base.free b o e n hx)
 ·obtain⟨sl,e1⟩:=I.base.slot b o e n hb hx;obtain⟨sl',e2⟩:=slot b _ (neL b o e) hb (neC b o e hx) e1 (I.base.free b o e n hx);exact⟨sl',e2⟩
 ·obtain⟨o',e1⟩:=I.base.there b o e hx;exact free b o' (neC b o e hx) e1 (I.base.free b o e n hx)
 ·obtain⟨o',e1⟩:=I.base.there b o e hx;exact there b o' (neC b o e hx) e1
 ·obtain⟨m1,e1⟩:=I.base.tbls b ps e;obtain⟨m2,e2⟩:=tbls b _ e1;exact⟨m1++m2,by rw [e2,Mr]⟩
 ·obtain⟨m,hn,hl⟩:=I.loc;refine⟨m,ns m hn,λi x v e1 e2 e3=>?_⟩;obtain⟨u,r,l⟩:=hl i x v e1 e2 e3;refine⟨u,r,?_⟩;rcases l with l | ⟨k,c,e,z⟩
  ·exact .inl l
  ·exact .inr ⟨k,c,e,cellK x c e _ z⟩
 ·obtain⟨v,z⟩:=I.cell x c e;exact⟨v,cellK x c e v z⟩
 ·obtain⟨m,⟨o,_,_,ho,_⟩,_⟩:=I.loc;exact free _ o (λz=>(hch _ z).2.1 rfl) ho I.free
 ·obtain⟨v,o,ho,hd⟩:=I.cell x c e;exact free c o (λz=>(hch c z).2.2.1 x c e rfl) ho (I.freeC x c e)
 ·obtain⟨e,n,ne,nf,d⟩:=I.pin p hp;have nch:p.1 ∉ ch:=λz=>(hch p.1 z).2.2.2 p hp rfl;exact⟨keep p.1 p.2 ne nf nch e n,free p.1 p.2 nch e n,ne,nf,d⟩
theorem aa.un{t':Nat}(I:aa X Qm σ H s)(u:Un X.fs [] H H' s.heap h')(hok:bf X.prog X.w H' h'):aa X Qm σ H' {s with heap:=h',toks:=t'}:=by
 obtain⟨m,⟨o,es,ep,ho,r⟩,_⟩:=id I.loc;obtain⟨sl,hL⟩:=u.any ho I.free OL;exact I.step (g':=s.gens) (d':=s.drawn) (ch:=[]) (λ_ z=>nomatch z) (λb o _ hb _ e n=>u.keep b o e n hb OL) (λb o _ hb _ e n=>u.slot b o e n hb OL) (λb o _ e n=>u.free b o e n OL) (λb o _ e=>u.there b o e OL) u.tups u.frzs u.tbls (λm' hm=>by
  obtain⟨o',es',ep',ho',r'⟩:=hm;rw [ho] at ho';cases ho';exact⟨_,es',ep',hL,r'⟩) hok I.bare
theorem aa.call{g':Array Qk}{t':Nat}{d':Drawn}{ch:List OO}(I:aa X Qm σ H s)(u:Un (aI X.stack) ch H H' s.heap h')(hok:bf X.prog X.w H' h')(hg:PX g')
 (hch:∀b∈ch,(b∈X.ex\/X.s₀.heap.objs.size<=b)/\b≠X.env.locals/\(∀x c,X.env.cells.lookup x=some c->c≠b)/\∀p∈X.pn++Qm,p.1≠b):
 aa X Qm σ H' {s with heap:=h',gens:=g',drawn:=d',toks:=t'}:=by
 obtain⟨m,⟨o,es,ep,ho,r⟩,_⟩:=id I.loc;obtain⟨sl,hL⟩:=u.any ho I.free λz=>(hch _ z).2.1 rfl;exact I.step (ch:=ch) hch (λb o hL hb hc e n=>u.keep b o e n (λz=>(IP.mp (I.stkSub b z)).elim hL hb) hc) (λb o _ _ hc e n=>u.any e n hc) (λb o hc e n=>u.free b o e n hc) (λb o hc e=>u.there b o e hc) u.tups u.frzs u.tbls (λm' hm=>by
  obtain⟨o',es',ep',ho',r'⟩:=hm;rw [ho] at ho';cases ho';exact⟨_,es',ep',hL,r'⟩) hok hg
theorem aa.turned{t':Nat}{it:OO}(I:aa X Qm σ H s)(k:∀b o,b≠it->s.heap.get? b=some o->h'.get? b=some o)(hn:H it=none)(hL:it≠X.env.locals)
 (h1:it∈X.ex\/X.s₀.heap.objs.size<=it)(h2:∀x c,X.env.cells.lookup x=some c->c≠it)(h3:∀p∈X.pn++Qm,p.1≠it):aa X Qm σ H {s with heap:=h',toks:=t'}:=by
 have nit:∀b u,H b=some u->b≠it:=λb u e z=>by rw [z,hn] at e;cases e
 refine I.step (g':=s.gens) (d':=s.drawn) (ch:=[it]) (λb hb=>?_) (λb o _ _ hc e _=>k b o (λz=>hc (by simp [z])) e) (λb o _ _ hc e _=>⟨o.slots,k b o (λz=>hc (by simp [z])) e⟩) (λ_ _ _ _ n=>n)
  (λb o hc e=>⟨o,k b o (λz=>hc (by simp [z])) e⟩) (λ_ _ e=>e) (λ_ _ _ e=>e) (λb ps e=>⟨#[],by rw [e];simp⟩) (λm hm=>?_) (λb u e=>?_) I.bare
 ·have e:b=it:=by simpa using hb
  subst e;exact⟨h1,hL,h2,h3⟩
 ·obtain⟨o,es,ep,ho,r⟩:=hm;exact⟨o,es,ep,k _ o (Ne.symm hL) ho,r⟩
 ·refine(I.hok b u e).stay (λc v hc q=>k c v ?_ q) (λ_ q=>q) (λ_ _ q=>q) λ_ _ q=>q;rcases hc with z | z
  ·rw [z];exact nit b u e
  ·exact nit c _ z
theorem aa.tok(I:aa X Qm σ H s)(t:Nat):aa X Qm σ H {s with toks:=t}:=I.un (h':=s.heap) (t':=t) Un.refl I.hok
theorem aa.kept{t':Nat}(I:aa X Qm σ H s)(k:∀b u,s.heap.get? b=some u->h'.get? b=some u):aa X Qm σ H {s with heap:=h',toks:=t'}:=I.un (Un.kept k) (I.hok.kept k)
theorem aa.laid{a:OO}{o:HO}{t':Nat}(I:aa X Qm σ H s)(k:∀b u,s.heap.get? b=some u->h'.get? b=some u)(hp:s.heap.objs.size<=a)(new:bF X.prog X.w (ak H a o) h' a o):
 aa X Qm σ (ak H a o) {s with heap:=h',toks:=t'}:=I.un (Un.laid k hp (I.hok.fresh hp)) (I.hok.laid k hp new)
theorem aa.write{x e:OO}{o:HO}{t':Nat}(I:aa X Qm σ H s)(mu:pw (H x))(he:e=x\/H e=some (.own x))(k:∀b u,b≠e->s.heap.get? b=some u->h'.get? b=some u)(heo:∃u,h'.get? e=some u)
 (new:bF X.prog X.w (ak H x o) h' x o):aa X Qm σ (ak H x o) {s with heap:=h',toks:=t'}:=I.un (Un.write mu he k heo) (I.hok.write mu he k heo new)
theorem aa.weak{σ':List (Option V)}(I:aa X Qm σ H s)(hl:σ'.length=σ.length)(w:∀(i:Nat) v,σ'[i]?=some (some v)->σ[i]?=some (some v)):aa X Qm σ' H s:=
 ⟨I.ok,I.os,I.bare,I.base,let ⟨m,hn,hl'⟩:=I.loc;⟨m,hn,λi x v e1 e2 e3=>hl' i x v e1 (w i v e2) e3⟩,I.cell,I.free,I.freeC,I.pin,I.hok,hl.trans I.len⟩
theorem aa.pins_of{pins':List (OO×Obj)}(I:aa X Qm σ H s)(h:∀p∈pins',s.heap.get? p.1=some p.2/\H p.1=none/\p.1≠X.env.locals/\p.1 ∉ X.fs/\∀v,p.2.data≠ .cell v):aa X pins' σ H s:=
 ⟨I.ok,I.os,I.bare,I.base,I.loc,I.cell,I.free,I.freeC,λp hp=>(Jf.mp hp).elim (λz=>I.pin p (Mi _ z)) (h p),I.hok,I.len⟩
theorem sE{N:List Str}(hN:N.Nodup){i j:Nat}{x:Str}(a:N[i]?=some x)(b:N[j]?=some x):i=j:=by
 obtain⟨h1,e1⟩:=IG.mp a;obtain⟨h2,e2⟩:=IG.mp b;exact(Ma hN).mp (e1.trans e2.symm)
theorem vG{M:Model}{A:O5}{E:ON->OP->Prop}{i:Nat}{x:Str}{v:V}{u:ON}{Q:Unit->OP->Prop}(I:aa X Qm σ H s)(hN:X.N.Nodup)(hi:X.N[i]?=some x)(hx:mv X.env.scope x)(r:ax v u)
 (h:∀s',aa X Qm (σ.set i (some v)) H s'->(∃a,LP a s.heap s'.heap/\(a=X.env.locals\/X.env.cells.lookup x=some a))->Q () s')(hf:X.fn x=true\/X.env.scope.names.lookup x=some .local:=by first | exact .inl rfl | exact .inr rfl | assumption):OV M A (storeName X.env x u) Q E s:=by
 obtain⟨m,hn,hl⟩:=id I.loc;have hcls:(X.env.scope.kind== .class || (X.env.scope.kind== .module && X.env.locals !=X.env.globals))=false:=by rw [I.ok.kind];rfl
 have hiσ:i < σ.length:=by rw [I.len];exact(IG.mp hi).1
 have cne:=I.cne;have tracked:∀{a:OO}{h':O3},(∃o,s.heap.get? a=some o/\H a=none)->LP a s.heap h'->bf X.prog X.w H h':=λ{a h'} ha hs b ob e=>by
  obtain⟨_,_,hfree⟩:=ha;refine(I.hok b ob e).stay (λc w' hc q=>(hs.2 c ?_).trans q) (λ_ q=>q) (λ_ _ q=>q) λ_ _ q=>q;rintro rfl;rcases hc with rfl | hc
  ·rw [hfree] at e;cases e
  ·rw [hfree] at hc;cases hc
 rcases hx with hk | hk
 ·refine wpAny_storeName_local hk hn (λh' hn' hs=>?_) hcls;obtain⟨oL,_,_,hoL,_⟩:=id hn;refine h _ ⟨I.ok,I.os,I.bare,⟨λb o e n hb hx=>?_,λb o e n hb hx=>?_,I.base.free,λb o e hx=>?_,I.base.tups,I.base.frzs,I.base.tbls⟩,⟨_,hn',λj y v' e1 e2 e3=>?_⟩,λy c e=>?_,I.free,I.freeC,λp hp=>?_,tracked ⟨oL,hoL,I.free⟩ hs,by simpa using I.len⟩ ⟨_,hs,.inl rfl⟩
  ·exact(hs.2 b (IZ (IM (IC e) I.ok.above))).trans (I.base.keep b o e n hb hx)
  ·obtain⟨sl,e1⟩:=I.base.slot b o e n hb hx;exact⟨sl,(hs.2 b (IZ (IM (IC e) I.ok.above))).trans e1⟩
  ·obtain⟨o',e1⟩:=I.base.there b o e hx;exact⟨o',(hs.2 b (IZ (IM (IC e) I.ok.above))).trans e1⟩
  ·by_cases hj:j=i
   ·subst hj;rw [hi] at e1;cases e1;rw [IT hiσ] at e2;cases e2;exact⟨u,r,.inl ⟨hk,OL⟩⟩
   ·rw [IH (Ne.symm hj)] at e2;obtain⟨u',r',q⟩:=hl j y v' e1 e2 e3;refine⟨u',r',?_⟩;rcases q with⟨k,e⟩ | ⟨k,c,e,z⟩
    ·refine .inl ⟨k,?_⟩;have:y≠x:=λe=>hj (sE hN e1 (e▸hi));simp [this,e]
    ·exact .inr ⟨k,c,e,z.sameBut hs (cne y c e)⟩
  ·obtain⟨w',z⟩:=I.cell y c e;exact⟨w',z.sameBut hs (cne y c e)⟩
  ·obtain⟨e,n,ne,nf,d⟩:=I.pin p hp;exact⟨(hs.2 p.1 ne).trans e,n,ne,nf,d⟩
 ·have hfn:X.fn x=true:=by
   rcases hf with z | z
   ·exact z
   ·rw [z] at hk;cases hk
  obtain⟨c,hc⟩:=I.ok.has x (.inl hk);obtain⟨w',z⟩:=I.cell x c hc;refine wpAny_storeName_cell I.ok.kind hk hc z (λh' hc' hs=>?_);obtain⟨oc,hoc,hocd⟩:=id z;refine h {s with heap:=h'} ⟨I.ok,I.os,I.bare,⟨λb o e n hb hx=>?_,λb o e n hb hx=>?_,I.base.free,λb o e hx=>?_,I.base.tups,I.base.frzs,I.base.tbls⟩,⟨m,hn.sameBut hs (Ne.symm (cne x c hc)),λj y v' e1 e2 e3=>?_⟩,λy c' e=>?_,I.free,I.freeC,λp hp=>?_,tracked ⟨oc,hoc,I.freeC x c hc⟩ hs,by simpa using I.len⟩ ⟨c,hs,.inr hc⟩
  ·exact(hs.2 b (IZ (IM (IC e) (I.ok.cab x c hfn hc)))).trans (I.base.keep b o e n hb hx)
  ·obtain⟨sl,e1⟩:=I.base.slot b o e n hb hx;exact⟨sl,(hs.2 b (IZ (IM (IC e) (I.ok.cab x c hfn hc)))).trans e1⟩
  ·obtain⟨o',e1⟩:=I.base.there b o e hx;exact⟨o',(hs.2 b (IZ (IM (IC e) (I.ok.cab x c hfn hc)))).trans e1⟩
  ·by_cases hj:j=i
   ·subst hj;rw [hi] at e1;cases e1;rw [IT hiσ] at e2;cases e2;exact⟨u,r,.inr ⟨.inl hk,c,hc,hc'⟩⟩
   ·rw [IH (Ne.symm hj)] at e2;obtain⟨u',r',q⟩:=hl j y v' e1 e2 e3;refine⟨u',r',?_⟩;rcases q with q | ⟨k,c',e,z'⟩
    ·exact .inl q
    ·refine .inr ⟨k,c',e,z'.sameBut hs ?_⟩;rintro rfl;exact hj (sE hN e1 (I.ok.inj _ _ _ e hc▸hi))
  ·by_cases hcc:c'=c
   ·subst hcc;exact⟨_,hc'⟩
   ·obtain⟨w2,z2⟩:=I.cell y c' e;exact⟨w2,z2.sameBut hs hcc⟩
  ·obtain⟨e,n,ne,nf,d⟩:=I.pin p hp;refine⟨(hs.2 p.1 ?_).trans e,n,ne,nf,d⟩;intro q;rw [q,hoc] at e;have q':oc=p.2:=Jr e;exact d w' (by rw [<-q'];exact hocd)
theorem mP{M:Model}{A:O5}{E:ON->OP->Prop}{i:Nat}{x:Str}{v:V}{u:ON}{Q:Unit->OP->Prop}(I:aa X Qm σ H s)(hN:X.N.Nodup)(hi:X.N[i]?=some x)(hx:mv X.env.scope x)(r:ax v u)
 (h:∀s',aa X Qm (σ.set i (some v)) H s'->Q () s')(hf:X.fn x=true\/X.env.scope.names.lookup x=some .local:=by first | exact .inl rfl | exact .inr rfl | assumption):OV M A (storeName X.env x u) Q E s:=
 vG I hN hi hx r (λs' I' _=>h s' I') hf
theorem aa.call'{s':OP}{ch:List OO}(I:aa X Qm σ H s)(ho:s'.os=s.os)(u:Un (aI X.stack) ch H H' s.heap s'.heap)(hok:bf X.prog X.w H' s'.heap)(hg:PX s'.gens)
 (hch:∀b∈ch,(b∈X.ex\/X.s₀.heap.objs.size<=b)/\b≠X.env.locals/\(∀x c,X.env.cells.lookup x=some c->c≠b)/\∀p∈X.pn++Qm,p.1≠b):aa X Qm σ H' s':=by
 obtain⟨h',g',d',t',o'⟩:=s';have e:o'=s.os:=ho;subst e;exact I.call (g':=g') (t':=t') (d':=d') u hok hg hch
end
abbrev XK:=ON->Option OO->Hp->Prop
abbrev St:=List (Option V)
abbrev VK:=V->Hp->Prop
abbrev TE:=St->Hp->VK->Prop
abbrev TT:=St->Hp->(Bool->Hp->Prop)->Prop
abbrev TA:=St->Hp->(List V->Hp->Prop)->Prop
structure mQ where
 nx:St->Hp->Prop
 rt:VK
 bk:St->Hp->Prop:=λ_ _=>False
 ct:St->Hp->Prop:=λ_ _=>False
abbrev TS:=mQ->St->Hp->Prop
inductive EP (X:Cx) (Qm:List (OO×Obj)) (σ:St) (Q:VK) (u:ON) (s':OP):Prop
 | mk (v:V) (H':Hp):aa X Qm σ H' s'->ax v u->Q v H'->EP X Qm σ Q u s'
inductive TP (X:Cx) (Qm:List (OO×Obj)) (σ:St) (Q:Bool->Hp->Prop) (b:Bool) (s':OP):Prop
 | mk (H':Hp):aa X Qm σ H' s'->Q b H'->TP X Qm σ Q b s'
inductive AP (X:Cx) (Qm:List (OO×Obj)) (σ:St) (Q:List V->Hp->Prop) (us:List ON) (s':OP):Prop
 | mk (vs:List V) (H':Hp):aa X Qm σ H' s'->aB vs us->Q vs H'->AP X Qm σ Q us s'
def SP(X:Cx)(Qm:List (OO×Obj))(D:mQ)(f:Flow)(s':OP):Prop:=
 match f with
 | .next=>∃σ' H',aa X Qm σ' H' s'/\D.nx σ' H'
 | .brk=>∃σ' H',aa X Qm σ' H' s'/\D.bk σ' H'
 | .cont=>∃σ' H',aa X Qm σ' H' s'/\D.ct σ' H'
 | .ret u=>∃v σ' H',aa X Qm σ' H' s'/\ax v u/\D.rt v H'
def PE(X:Cx)(e:OR)(t:TE):Prop:=
 ∀(Qm:List (OO×Obj))(s:OP)(σ:St)(H:Hp)(Q:VK),aa X Qm σ H s->t σ H Q->OV (OU X.prog X.w) X.A (eval e X.env) (EP X Qm σ Q) X.xe s
def PT(X:Cx)(e:OR)(t:TT):Prop:=
 ∀(Qm:List (OO×Obj))(s:OP)(σ:St)(H:Hp)(Q:Bool->Hp->Prop),aa X Qm σ H s->t σ H Q->OV (OU X.prog X.w) X.A (isTrue e X.env (eval e X.env)) (TP X Qm σ Q) X.xe s
def PW(X:Cx)(e:OR)(t:TT):Prop:=
 ∀(whole:Sem ON)(Qm:List (OO×Obj))(s:OP)(σ:St)(H:Hp)(Q:Bool->Hp->Prop),aa X Qm σ H s->t σ H Q->OV (OU X.prog X.w) X.A (isTrue e X.env whole) (TP X Qm σ Q) X.xe s
theorem PW.pt{X:Cx}{e:OR}{t:TT}(h:PW X e t):PT X e t:=h _
def PA(X:Cx)(es:List OR)(t:TA):Prop:=
 ∀(pos:Pos)(Qm:List (OO×Obj))(s:OP)(σ:St)(H:Hp)(Q:List V->Hp->Prop),aa X Qm σ H s->t σ H Q->OV (OU X.prog X.w) X.A (spliced (Pd pos (OW es X.env))) (AP X Qm σ Q) X.xe s
def PS(X:Cx)(st:O6)(t:TS):Prop:=
 ∀(Qm:List (OO×Obj))(s:OP)(σ:St)(H:Hp)(D:mQ),aa X Qm σ H s->t D σ H->OV (OU X.prog X.w) X.A (exec st X.env) (SP X Qm D) X.xe s
def bu(X:Cx)(st:List O6)(t:TS):Prop:=
 ∀(Qm:List (OO×Obj))(s:OP)(σ:St)(H:Hp)(D:mQ),aa X Qm σ H s->t D σ H->OV (OU X.prog X.w) X.A (execs st X.env) (SP X Qm D) X.xe s
theorem au{α:Type}{t:Sem α}{Q Q':α->OP->Prop}{M:Model}{A:O5}{E:ON->OP->Prop}{s:OP}(h:OV M A t Q E s)(hQ:∀a s,Q a s->Q' a s):OV M A t Q' E s:=Pe h hQ λ_ _ x=>x
section
variable {X:Cx}
theorem Ik{a b:OR}{ta tb:TE}(ha:PE X a ta)(hb:PE X b tb){Qm:List (OO×Obj)}{s:OP}{σ:St}{H:Hp}{R:V->V->Hp->Prop}(I:aa X Qm σ H s)(h:ta σ H λx H1=>tb σ H1 λy H2=>R x y H2)
 {α:Type}{Q:α->OP->Prop}{f:ON->ON->Sem α}
 (hf:∀v u s2 x y H2,aa X Qm σ H2 s2->ax x v->ax y u->R x y H2->OV (OU X.prog X.w) X.A (f v u) Q X.xe s2):
 OV (OU X.prog X.w) X.A (eval a X.env) (λv s₁=>OV (OU X.prog X.w) X.A (eval b X.env) (λu s₂=>OV (OU X.prog X.w) X.A (f v u) Q X.xe s₂) X.xe s₁) X.xe s:=by
 refine au (ha Qm s σ H _ I h) λv s1 ⟨x,H1,I1,r1,q1⟩=>?_;refine au (hb Qm s1 σ H1 _ I1 q1) λu s2 ⟨y,H2,I2,r2,q2⟩=>?_;exact hf v u s2 x y H2 I2 r1 r2 q2
def mR(i:Nat):TE:=λσ H Q=>∃v,σ[i]?=some (some v)/\Q v H
def tC(v:V):TE:=λ_ H Q=>Q v H
theorem qB{i:Nat}{x:Str}{pos:Pos}(hN:X.N[i]?=some x)(hv:oB X.env.scope x)(hd:(x==("__debug__":Str))=false:=by decide)(hcd:(x==("__classdict__":Str))=false:=by decide):PE X (.Name x pos) (mR i):=by
 intro Qm s σ H Q I h;obtain⟨v,e,h⟩:=h;obtain⟨m,hn,hl⟩:=I.loc;obtain⟨u,r,l⟩:=hl i x v hN e hv;have fin:EP X Qm σ Q u s:=⟨v,H,I,r,h⟩;rcases l with⟨hk,hm⟩ | ⟨hk,c,hc,hcell⟩
 ·exact wpAny_Name (wpAny_loadName_local I.ok.kind hk hn hm fin) hd
 ·rcases hk with hk | hk
  ·exact wpAny_Name (wpAny_loadName_cell I.ok.kind hk hc hcell fin) hd
  ·exact wpAny_Name (wpAny_loadName_free I.ok.kind hk hc hcell fin hcd) hd
theorem bB{i j pos}:PE X (.Constant (.int i) j pos) (tC (.int i)):=λ_ _ _ H _ I h=>wpAny_Constant_int ⟨.int i,H,I.tok _,⟨_,rfl⟩,h⟩
theorem sF{b j pos}:PE X (.Constant (.bool b) j pos) (tC (.bl b)):=λ_ _ _ H _ I h=>Constant_bool ⟨.bl b,H,I,rfl,h⟩
theorem BL{j pos}:PE X (.Constant .none j pos) (tC .non):=λ_ _ _ H _ I h=>Constant_none ⟨.non,H,I,rfl,h⟩
theorem sG{x j pos}:PE X (.Constant (.str x) j pos) (tC (.str x)):=λ_ _ _ H _ I h=>Calls.Constant_str ⟨.str x,H,I.tok _,⟨_,rfl⟩,h⟩
def Gl(X:Cx)(x:Str):Prop:=X.env.kindOf x=some .globalImplicit
theorem nN{E:ON->OP->Prop}{Qm:List (OO×Obj)}{s:OP}{σ:St}{H:Hp}{x:Str}{u:ON}{pos:Pos}{Q:ON->OP->Prop}(I:aa X Qm σ H s)(hg:Gl X x)(hm:X.mg x=some u)(h:Q u s)
 (hd:(x==("__debug__":Str))=false:=by decide):OV (OU X.prog X.w) X.A (eval (.Name x pos) X.env) Q E s:=
 Mv I.ok.kind hg (Calls.loadGlobal_global (by rw [I.ok.glob];exact I.mod.glob.keeps I.bk) hm h) hd
theorem oC{E:ON->OP->Prop}{Qm:List (OO×Obj)}{s:OP}{σ:St}{H:Hp}{x:Str}{u:ON}{pos:Pos}{Q:ON->OP->Prop}(I:aa X Qm σ H s)(hg:Gl X x)(hm:X.mg x=none)(hv:Pb x=some u)(h:Q u s)
 (hn:x≠"__name__":=by decide)(hd:(x==("__debug__":Str))=false:=by decide):OV (OU X.prog X.w) X.A (eval (.Name x pos) X.env) Q E s:=by
 obtain⟨mb,h1,h2⟩:=I.mod.blt;exact Mv I.ok.kind hg (Calls.loadGlobal_builtin (by rw [I.ok.glob];exact I.mod.glob.keeps I.bk) hm (by rw [I.ok.blt];exact h1.keeps I.bk) ((h2 x hn).trans hv) h) hd
theorem cP{x:Str}{v:V}{u:ON}{pos:Pos}(hg:Gl X x)(hm:X.mg x=some u)(r:ax v u)(hd:(x==("__debug__":Str))=false:=by decide):PE X (.Name x pos) (tC v):=
 λ_ _ _ H _ I h=>nN I hg hm ⟨v,H,I,r,h⟩ hd
theorem mS{x:Str}{v:V}{u:ON}{pos:Pos}(hg:Gl X x)(hm:X.mg x=none)(hv:Pb x=some u)(r:ax v u)(hn:x≠"__name__":=by decide)(hd:(x==("__debug__":Str))=false:=by decide):PE X (.Name x pos) (tC v):=
 λ_ _ _ H _ I h=>oC I hg hm hv ⟨v,H,I,r,h⟩ hn hd
variable {a b:OR} {ta tb:TE} {pos:Pos}
def PC(X:Cx)(op:CmpOp)(a b:OR)(t:TE):Prop:=
 ∀(Qm:List (OO×Obj))(s:OP)(σ:St)(H:Hp)(Q:VK),aa X Qm σ H s->t σ H Q->
  OV (OU X.prog X.w) X.A (eval a X.env) (λv s₁=>OV (OU X.prog X.w) X.A (eval b X.env) (λu s₂=>OV (OU X.prog X.w) X.A (Pa op v u) (EP X Qm σ Q) X.xe s₂) X.xe s₁) X.xe s
theorem BM(b:OR){op:CmpOp}(h:op≠ .In)(h2:op≠ .NotIn):Pm op b=false:=by
 have e1:(op==CmpOp.In)=false:=by cases op <;> first | rfl | exact absurd rfl h
 have e2:(op==Ow)=false:=by cases op <;> first | rfl | exact absurd rfl h2
 cases b <;> simp [Pm,e1,e2]
def tB(t:TE):TT:=λσ H Q=>t σ H λx H1=>∃c,x= .bl c/\Q c H1
theorem Il{op:CmpOp}{t:TE}(h:PC X op a b t)(h1:Pm op b=false:=by first | exact BM _ OG OG | rfl):PT X (.Compare a [op] [b] pos) (tB t):=by
 intro Qm s σ H Q I hw;refine wpAny_isTrue_Compare1 (au (h Qm s σ H _ I hw) λv s1 h1=>au h1 λu s2 h2=>au h2 λc s3 ⟨x,H1,I1,r1,q1⟩=>?_) h1;obtain⟨d,rfl,q⟩:=q1;cases r1;exact Pj ⟨H1,I1,q⟩
theorem sH{e:OR}{t:TE}(h:PE X e t)(he:∀whole,isTrue e X.env whole=(do let v<-whole;standAt e.pos;holding [v] (truthy v)):=by intro _;rfl):PT X e (tB t):=by
 intro Qm s σ H Q I hw;refine isTrue_plain (au (h Qm s σ H _ I hw) λv s1 ⟨x,H1,I1,r1,q1⟩=>?_) (he _);obtain⟨d,rfl,q⟩:=q1;cases r1;exact Pj ⟨H1,I1,q⟩
variable {tA tB':TT} {rest:List OR}
def sI(t u:TT):TT:=λσ H Q=>t σ H λc H1=>if c=true then u σ H1 Q else Q false H1
def sJ(t u:TT):TT:=λσ H Q=>t σ H λc H1=>if c=true then Q true H1 else u σ H1 Q
def sL(t:TT):TT:=λσ H Q=>t σ H λc H1=>Q (!c) H1
theorem vH(ha:PT X a tA):PW X (.BoolOp .And [a] pos) tA:=by
 intro wh Qm s σ H Q I h;refine isTrue_and (au (ha Qm s σ H Q I h) λc s1 e=>?_);cases c with
 | true=>exact isTrue_and_nil e
 | false=>exact e
theorem BN(ha:PT X a tA):PW X (.BoolOp .Or [a] pos) tA:=by
 intro wh Qm s σ H Q I h;refine isTrue_or (au (ha Qm s σ H Q I h) λc s1 e=>?_);cases c with
 | false=>exact isTrue_or_nil e
 | true=>exact e
theorem vI(ha:PT X a tA)(hb:PW X (.BoolOp .And (b::rest) pos) tB'):PW X (.BoolOp .And (a::b::rest) pos) (sI tA tB'):=by
 intro wh Qm s σ H Q I h;refine isTrue_and (au (ha Qm s σ H _ I h) λc s1 ⟨H1,I1,q1⟩=>?_);cases c with
 | true=>exact hb wh Qm s1 σ H1 Q I1 q1
 | false=>exact⟨H1,I1,q1⟩
theorem BO(ha:PT X a tA)(hb:PW X (.BoolOp .Or (b::rest) pos) tB'):PW X (.BoolOp .Or (a::b::rest) pos) (sJ tA tB'):=by
 intro wh Qm s σ H Q I h;refine isTrue_or (au (ha Qm s σ H _ I h) λc s1 ⟨H1,I1,q1⟩=>?_);cases c with
 | true=>exact⟨H1,I1,q1⟩
 | false=>exact hb wh Qm s1 σ H1 Q I1 q1
theorem BP(ha:PT X a tA):PT X (.UnaryOp .Not a pos) (sL tA):=by
 intro Qm s σ H Q I h;exact isTrue_not (au (ha Qm s σ H (λc H1=>Q (!c) H1) I h) λc s1 uu8=>by obtain⟨H1,I1,q⟩:=uu8;exact⟨H1,I1,q⟩)
def sM(ta tb:TE):TE:=λσ H Q=>ta σ H λx H1=>∃c,x= .bl c/\if c=true then tb σ H1 Q else Q (.bl false) H1
def sN(ta tb:TE):TE:=λσ H Q=>ta σ H λx H1=>∃c,x= .bl c/\if c=true then Q (.bl true) H1 else tb σ H1 Q
def sO(ta:TE):TE:=λσ H Q=>ta σ H λx H1=>∃c,x= .bl c/\Q (.bl (!c)) H1
theorem qC{op}{t:TE}(h:PE X a t):PE X (.BoolOp op [a] pos) t:=λQm s σ H Q I hw=>BoolOp_one (h Qm s σ H Q I hw)
theorem sP(ha:PE X a ta)(hb:PE X (.BoolOp .And (b::rest) pos) tb):PE X (.BoolOp .And (a::b::rest) pos) (sM ta tb):=by
 intro Qm s σ H Q I h;refine BoolOp_and (au (ha Qm s σ H _ I h) λv s1 ⟨x,H1,I1,r1,q1⟩=>?_);obtain⟨c,rfl,q1⟩:=q1;cases r1;refine Pj ?_;cases c with
 | true=>exact hb Qm s1 σ H1 Q I1 q1
 | false=>exact⟨.bl false,H1,I1,rfl,q1⟩
theorem vJ(ha:PE X a ta)(hb:PE X (.BoolOp .Or (b::rest) pos) tb):PE X (.BoolOp .Or (a::b::rest) pos) (sN ta tb):=by
 intro Qm s σ H Q I h;refine BoolOp_or (au (ha Qm s σ H _ I h) λv s1 ⟨x,H1,I1,r1,q1⟩=>?_);obtain⟨c,rfl,q1⟩:=q1;cases r1;refine Pj ?_;cases c with
 | false=>exact hb Qm s1 σ H1 Q I1 q1
 | true=>exact⟨.bl true,H1,I1,rfl,q1⟩
theorem BQ(ha:PE X a ta):PE X (.UnaryOp .Not a pos) (sO ta):=by
 intro Qm s σ H Q I h;refine UnaryOp_ (au (ha Qm s σ H _ I h) λv s1 ⟨x,H1,I1,r1,q1⟩=>?_);obtain⟨c,rfl,q1⟩:=q1;cases r1;exact not_of (Pj ⟨.bl (!c),H1,I1,rfl,q1⟩)
def sQ(t:TT)(ta tb:TE):TE:=λσ H Q=>t σ H λc H1=>if c=true then ta σ H1 Q else tb σ H1 Q
theorem vK{c:OR}(hc:PT X c tA)(ha:PE X a ta)(hb:PE X b tb):PE X (.IfExp c a b pos) (sQ tA ta tb):=by
 intro Qm s σ H Q I h;refine wpAny_IfExp (au (hc Qm s σ H _ I h) λd s1 ⟨H1,I1,q1⟩=>?_);cases d with
 | true=>exact ha Qm s1 σ H1 Q I1 q1
 | false=>exact hb Qm s1 σ H1 Q I1 q1
end
def aV(K:Iq)(H:Hp)(a:OO)(xs:List V):Prop:=
 Rd H a (.lst xs)\/
  ∃(o:Obj)(its:Array ON)(n:Nat),K.lookup a=some o/\o.cls= .type "list"/\o.dict=none/\o.data= .seq its n/\its.size<=OS/\aB xs its.toList
def aZ(K:Iq)(H:Hp)(a:OO)(xs:List V):Prop:=
 Rd H a (.tup xs)\/
  ∃(o:Obj)(its:Array ON)(n:Nat),K.lookup a=some o/\o.cls= .type "tuple"/\o.data= .seq its n/\its.size<=OS/\aB xs its.toList
def BR:ON->Option V
 | .none=>some .non
 | .bool b=>some (.bl b)
 | .int i _=>some (.int i)
 | .str x _=>some (.str x)
 | .bytes b _=>some (.byt b)
 | .float b _=>some (.flt b)
 | .ref a=>some (.ref a)
 | .type n=>some (.ty n)
 | _=>none
theorem ax.abs{x:V}{u:ON}(r:ax x u):BR u=some x:=by
 cases x with
 | non=>cases r;rfl
 | bl _=>cases r;rfl
 | int _=>obtain⟨t,rfl⟩:=r;rfl
 | str _=>obtain⟨t,rfl⟩:=r;rfl
 | byt _=>obtain⟨t,rfl⟩:=r;rfl
 | flt _=>obtain⟨t,rfl⟩:=r;rfl
 | ref _=>cases r;rfl
 | ty _=>cases r;rfl
theorem ax.inj{x y:V}{u:ON}(r:ax x u)(q:ax y u):x=y:=Jr (r.abs.symm.trans q.abs)
theorem aB.inj:∀{xs ys:List V}{us:List ON},aB xs us->aB ys us->xs=ys
 | _,_,_,.nil,.nil=>rfl
 | _,_,_,.cons r t,.cons r' t'=>by rw [r.inj r',aB.inj t t']
section
variable {X:Cx} {Qm:List (OO×Obj)} {σ:St} {H:Hp} {s:OP} {a:OO} {xs ys:List V}
theorem aV.of{K:Iq}(h:H a=some (.lst xs)):aV K H a xs:= .inl (.inl h)
theorem aZ.of{K:Iq}(h:H a=some (.tup xs)):aZ K H a xs:= .inl (.inl h)
theorem aa.list(I:aa X Qm σ H s)(h:aV X.K H a xs):∃its:List ON,aB xs its/\PlainL s.heap a its.toArray/\xs.length<=OS:=by
 rcases h with h | ⟨o,its,n,hk,hc,hd,hs,hz,r⟩
 ·obtain⟨z,its,n,r,e⟩:=h.ok I.hok;exact⟨its,r,⟨_,n,e,rfl,rfl,rfl⟩,z⟩
 ·refine⟨its.toList,r,⟨o,n,I.kIn a o hk,hc,hd,by simpa using hs⟩,?_⟩;have e:=r.length;simp only [Jc] at e;omega
theorem aa.tuple(I:aa X Qm σ H s)(h:aZ X.K H a xs):∃its:List ON,aB xs its/\IsTup s.heap a its.toArray/\xs.length<=OS:=by
 rcases h with h | ⟨o,its,n,hk,hc,hs,hz,r⟩
 ·obtain⟨z,its,r,p⟩:=h.ok I.hok;exact⟨its,r,p,z⟩
 ·refine⟨its.toList,r,⟨o,I.kIn a o hk,hc,n,by simpa using hs⟩,?_⟩;have e:=r.length;simp only [Jc] at e;omega
theorem aa.list_inj(I:aa X Qm σ H s)(h:aV X.K H a xs)(h':aV X.K H a ys):xs=ys:=by
 obtain⟨its,r,⟨o,n,e,_,_,d⟩,_⟩:=I.list h;obtain⟨its',r',⟨o',n',e',_,_,d'⟩,_⟩:=I.list h';rw [e] at e';cases e';rw [d] at d';injection d' with d1 _
 have:its=its':=by simpa using congrArg Ol d1
 subst this;exact r.inj r'
theorem aa.tuple_inj(I:aa X Qm σ H s)(h:aZ X.K H a xs)(h':aZ X.K H a ys):xs=ys:=by
 obtain⟨its,r,⟨o,e,_,n,d⟩,_⟩:=I.tuple h;obtain⟨its',r',⟨o',e',_,n',d'⟩,_⟩:=I.tuple h';rw [e] at e';cases e';rw [d] at d';injection d' with d1 _
 have:its=its':=by simpa using congrArg Ol d1
 subst this;exact r.inj r'
end
abbrev Cx.wish(X:Cx)(E:ON->OP->Prop):Cx:={X with xe:=E}
abbrev Cx.nox(X:Cx):Cx:=X.wish λ_ _=>False
theorem Cx.Ok.wish{X:Cx}(ok:X.Ok)(E:ON->OP->Prop):(X.wish E).Ok:=
 ⟨ok.mod,ok.kind,ok.glob,ok.blt,ok.above,ok.inj,ok.has,ok.cab,ok.hd,ok.frames,ok.stk,ok.exf,ok.bs,ok.bsz,ok.noex,ok.exfs,ok.funs,ok.frf⟩
theorem Cx.Ok.unwish{X:Cx}{E:ON->OP->Prop}(ok:(X.wish E).Ok):X.Ok:=
 ⟨ok.mod,ok.kind,ok.glob,ok.blt,ok.above,ok.inj,ok.has,ok.cab,ok.hd,ok.frames,ok.stk,ok.exf,ok.bs,ok.bsz,ok.noex,ok.exfs,ok.funs,ok.frf⟩
section
variable {X:Cx} {Qm:List (OO×Obj)} {σ:St} {H:Hp} {s:OP} {E:ON->OP->Prop}
theorem aa.wish(I:aa X Qm σ H s)(E:ON->OP->Prop):aa (X.wish E) Qm σ H s:=⟨I.ok.wish E,I.os,I.bare,I.base,I.loc,I.cell,I.free,I.freeC,I.pin,I.hok,I.len⟩
theorem aa.unwish(I:aa (X.wish E) Qm σ H s):aa X Qm σ H s:=⟨I.ok.unwish,I.os,I.bare,I.base,I.loc,I.cell,I.free,I.freeC,I.pin,I.hok,I.len⟩
theorem SP.unwish{D:mQ}{f:Flow}{s':OP}(h:SP (X.wish E) Qm D f s'):SP X Qm D f s':=by
 cases f with
 | next=>obtain⟨σ',H',I,q⟩:=h;exact⟨σ',H',I.unwish,q⟩
 | brk=>obtain⟨σ',H',I,q⟩:=h;exact⟨σ',H',I.unwish,q⟩
 | cont=>obtain⟨σ',H',I,q⟩:=h;exact⟨σ',H',I.unwish,q⟩
 | ret u=>obtain⟨v,σ',H',I,r,q⟩:=h;exact⟨v,σ',H',I.unwish,r,q⟩
theorem bu.nox{st:List O6}{t:TS}(h:bu X.nox st t):bu X st t:=λQm s σ H D I hw=>
 Pe (h Qm s σ H D (I.wish _) hw) (λ_ _ q=>q.unwish) λ_ _ z=>JQ z
end
section
variable {X:Cx} {st:O6} {rest:List O6} {t u:TS} {e:OR} {te:TE} {pos:Pos}
def sR:TS:=λD σ H=>D.nx σ H
def sS(t u:TS):TS:=λD σ H=>t {D with nx:=u D} σ H
theorem oE:bu X [] sR:=λ_ _ σ H _ I h=>Pz ⟨σ,H,I,h⟩
theorem cx(h1:PS X st t)(h2:bu X rest u):bu X (st::rest) (sS t u):=by
 intro Qm s σ H D I h;refine Qi (au (h1 Qm s σ H {D with nx:=u D} I h) λf s1 q=>?_);cases f with
 | next=>
  obtain⟨σ',H',I',q⟩:=q;exact h2 Qm s1 σ' H' D I' q
 | ret v=>exact q
 | brk=>exact q
 | cont=>exact q
theorem cQ(h1:PS X st t):bu X [st] t:=by
 intro Qm s σ H D I h;refine Qi (au (h1 Qm s σ H D I h) λf s1 q=>?_);cases f with
 | next=>exact Pz q
 | ret v=>exact q
 | brk=>exact q
 | cont=>exact q
theorem aa.quiet{Qm:List (OO×Obj)}{σ:St}{H:Hp}{s:OP}(I:aa X Qm σ H s):interactive X.env=false:=by simp [interactive,I.ok.kind]
def sT(te:TE):TS:=λD σ H=>te σ H λ_ H1=>D.nx σ H1
theorem BS(he:PE X e te)(hs:Pg e none pos.line X.env=pure false:=by rfl):PS X (.Expr e pos) (sT te):=by
 intro Qm s σ H D I h;exact wpAny_Expr_any (au (he Qm s σ H _ I h) λv s1 uu13=>by obtain⟨x,H1,I1,r1,q1⟩:=uu13;exact⟨σ,H1,I1,q1⟩) I.quiet hs
def sU(te:TE):TS:=λD σ H=>te σ H D.rt
theorem cR(he:PE X e te):PS X (.Return (some e) pos) (sU te):=by
 intro Qm s σ H D I h;exact wpAny_Return_some (au (he Qm s σ H _ I h) λv s1 uu14=>by obtain⟨x,H1,I1,r1,q1⟩:=uu14;exact⟨x,σ,H1,I1,r1,q1⟩)
def sV(c:TT)(t u:TS):TS:=λD σ H=>c σ H λb H1=>if b=true then t D σ H1 else u D σ H1
theorem oF{c:OR}{a b:List O6}{tc:TT}(hc:PT X c tc)(ha:bu X a t)(hb:bu X b u):PS X (.If c a b pos) (sV tc t u):=by
 intro Qm s σ H D I h;refine wpAny_If (au (hc Qm s σ H _ I h) λd s1 ⟨H1,I1,q1⟩=>?_);cases d with
 | true=>exact ha Qm s1 σ H1 D I1 q1
 | false=>exact hb Qm s1 σ H1 D I1 q1
def BU:TS:=λ_ _ _=>False
theorem BV:PS X st BU:=λ_ _ _ _ _ _ h=>h.elim
end
abbrev TG:=V->St->Hp->(St->Hp->Prop)->Prop
abbrev mw:=List V->St->Hp->(St->Hp->Prop)->Prop
def PG(X:Cx)(target:OR)(t:TG):Prop:=
 ∀(Qm:List (OO×Obj))(s:OP)(σ:St)(H:Hp)(v:V)(u:ON)(Q:St->Hp->Prop),aa X Qm σ H s->ax v u->t v σ H Q->
  OV (OU X.prog X.w) X.A (assign target X.env u) (λ_ s'=>∃σ' H',aa X Qm σ' H' s'/\Q σ' H') X.xe s
def qD(X:Cx)(ts:List OR)(t:mw):Prop:=
 ∀(Qm:List (OO×Obj))(s:OP)(σ:St)(H:Hp)(vs:List V)(us:List ON)(Q:St->Hp->Prop),aa X Qm σ H s->aB vs us->t vs σ H Q->
  OV (OU X.prog X.w) X.A (P4 ((PY ts X.env).map (·.2)) us) (λ_ s'=>∃σ' H',aa X Qm σ' H' s'/\Q σ' H') X.xe s
section
variable {X:Cx} {pos:Pos}
def lX(i:Nat):TG:=λv σ H Q=>Q (σ.set i (some v)) H
theorem bC{i:Nat}{x:Str}(hN:X.N.Nodup)(hi:X.N[i]?=some x)(hx:mv X.env.scope x)(hf:X.fn x=true\/X.env.scope.names.lookup x=some .local:=by first | exact .inl rfl | exact .inr rfl | assumption):PG X (.Name x pos) (lX i):=by
 intro Qm s σ H v u Q I r h;exact wpAny_assign_Name (mP I hN hi hx r (λs' I'=>⟨_,H,I',h⟩) hf)
def pA:mw:=λvs σ H Q=>vs=[]/\Q σ H
def oG(t:TG)(u:mw):mw:=λvs σ H Q=>∃v r,vs=v::r/\t v σ H λσ' H'=>u r σ' H' Q
theorem vL:qD X [] pA:=by
 intro Qm s σ H vs us Q I r h;obtain⟨e,h⟩:=h;subst e;cases r;exact Qg ⟨σ,H,I,h⟩
theorem pB{e:OR}{es:List OR}{t:TG}{u:mw}(h1:PG X e t)(h2:qD X es u)
 (hs:(PY (e::es) X.env).map (·.2)=assign e X.env::(PY es X.env).map (·.2):=by rfl):qD X (e::es) (oG t u):=by
 intro Qm s σ H vs us Q I r h;obtain⟨v,vr,e1,h⟩:=h;subst e1;cases r with
 | cons r rr=>
  rw [hs];refine Pq (au (h1 Qm s σ H _ _ _ I r h) λ_ s1 ⟨σ1,H1,I1,q1⟩=>?_);exact h2 Qm s1 σ1 H1 _ _ Q I1 rr q1
def pC(K:Iq)(n:Nat)(t:mw):TG:=λv σ H Q=>∃a xs,v= .ref a/\aZ K H a xs/\xs.length=n/\t xs σ H Q
theorem vM{es:List OR}{k:Nat}{t:mw}{n:Nat}(hc:X.calm=true)(h:qD X es t)
 (hn:(PY es X.env).length=n:=by rfl)(hst:(PY es X.env).findIdx? (·.1)=none:=by rfl):PG X (.Tuple es k pos) (pC X.K n t):=by
 intro Qm s σ H v u Q I r hw;obtain⟨a,xs,e1,hq,hl,hw⟩:=hw;subst e1;cases r;obtain⟨its,rv,ht,hz⟩:=I.tuple hq;refine assign_Tuple_tuple (I.ok.hd hc) ht (by simp [hn,<-hl,rv.length]) hst λh' hx=>?_;have I1:aa X Qm σ H {s with heap:=h'}:=I.kept (t':=s.toks) λb o e=>hx b o (IZ (IC e)) e;exact h Qm _ σ H xs _ Q I1 (by simpa using rv) hw
def oH(te:TE)(g:TG):TS:=λD σ H=>te σ H λx H1=>g x σ H1 D.nx
theorem BW{tg e:OR}{te:TE}{g:TG}(he:PE X e te)(hg:PG X tg g)(hs:PH [tg] e pos.line X.env=pure false:=by rfl)(hw:PJ [tg] e X.env=pure none:=by rfl)
 (h1:(PY [tg] X.env).map (·.2)=[assign tg X.env]:=by rfl):PS X (.Assign [tg] e pos) (oH te g):=by
 intro Qm s σ H D I h;refine wpAny_Assign_stores (au (he Qm s σ H _ I h) λv s1 ⟨x,H1,I1,r1,q1⟩=>?_) hs hw;rw [h1];exact au (hg Qm s1 σ H1 x v _ I1 r1 q1) λ_ s2 q=>q
theorem dj{i:Nat}{x:Str}{e:OR}{te:TE}{pos':Pos}(hN:X.N.Nodup)(hi:X.N[i]?=some x)(hx:mv X.env.scope x)(he:PE X e te)(hs:Pg e (some (.Name x pos')) pos.line X.env=pure false:=by rfl)(hf:X.fn x=true\/X.env.scope.names.lookup x=some .local:=by first | exact .inl rfl | exact .inr rfl | assumption):
 PS X (.Assign [.Name x pos'] e pos) (oH te (lX i)):=by
 intro Qm s σ H D I h;refine wpAny_Assign_Name (au (he Qm s σ H _ I h) λv s1 ⟨y,H1,I1,r1,q1⟩=>?_) hs;exact mP I1 hN hi hx r1 (λs2 I2=>⟨_,H1,I2,q1⟩) hf
def sW(i j:Nat)(ta:TA):TS:=λD σ H=>ta σ H λvs H1=>∃v w,vs=[v,w]/\D.nx ((σ.set i (some v)).set j (some w)) H1
theorem BX{i j:Nat}{x y:Str}{a b:OR}{ta:TA}{px py pt:Pos}{kt k2 pt2}(hc:X.calm=true)(hN:X.N.Nodup)(hi:X.N[i]?=some x)(hj:X.N[j]?=some y)(hij:i≠j)
 (hx:X.env.scope.names.lookup x=some .local)(hy:X.env.scope.names.lookup y=some .local)(ha:PA X [a,b] ta)
 (hw:PJ [.Tuple [.Name x px,.Name y py] kt pt] (.Tuple [a,b] k2 pt2) X.env=pure (some [x,y]))
 (hs:PH [.Tuple [.Name x px,.Name y py] kt pt] (.Tuple [a,b] k2 pt2) pos.line X.env=pure false:=by rfl):
 PS X (.Assign [.Tuple [.Name x px,.Name y py] kt pt] (.Tuple [a,b] k2 pt2) pos) (sW i j ta):=by
 intro Qm s σ H D I h;rw [exec_Assign_arm];refine OQ (Qe ?_);rw [hs];refine OQ (OT ?_);rw [OI OG];refine OQ (Tuple_ (au (ha _ Qm s σ H _ I h) λus s1 ⟨vs,H1,I1,r1,q1⟩=>?_));obtain⟨v,w,e1,q1⟩:=q1;subst e1;obtain⟨u1,u2,rfl,rv,rw'⟩:∃u1 u2,us=[u1,u2]/\ax v u1/\ax w u2:=by
  cases r1 with
  | cons p q=>
   cases q with
   | cons p' q'=>
    cases q';exact⟨_,_,rfl,p,p'⟩
 refine Pf ?_ (by show 2<=OS;decide);have I2:aa X Qm σ H1 {s1 with heap:=s1.heap.push {cls:= .type "tuple",data:= .seq [u1,u2].toArray}}:=I1.kept (t':=s1.toks) λb o e=>Iz _ e;rw [hw];refine OQ (OT ?_);show OV (OU X.prog X.w) X.A (do rule "assign.swapped-stores";let items<-unpackItems (.ref s1.heap.objs.size) 2 none;P4 [λv=>PB X.env y v,λv=>PB X.env x v] items.reverse;pure Nt) _ _ _;refine OQ (wpAny_rule (OQ (unpackItems_tuple (items:=#[u1,u2]) (I.ok.hd hc) (MU s1.heap _) λh' hx'=>?_)));have I3:=I2.kept (h':=h') (t':=s1.toks) λb o e=>hx' b o (IZ (IC e)) e;show OV _ _ (P4 [λv=>PB X.env y v,λv=>PB X.env x v] [u2,u1] >>=λ_=>pure Nt) _ _ _;refine OQ (Pq (PD (mP I3 hN hj (.inl hy) rw' (λs2 I4=>?_) (.inr hy))));refine Pq (PD (mP I4 hN hi (.inl hx) rv (λs3 I5=>Qg (OT ?_)) (.inr hx)));rw [Mw _ _ (Ne.symm hij)] at I5;exact⟨_,H1,I5,q1⟩
def BY(c:TT)(tb:TS):TS:=λD σ H=>∃W:Nat->St->Hp->Prop,(∃m,W m σ H)/\∀m σ H,W m σ H->
 c σ H λb H1=>if b=true then ∃N:St->Hp->Prop,(∀σ' H',N σ' H'->∃m',m' < m/\W m' σ' H')/\tb {D with nx:=N,ct:=N,bk:=D.nx} σ H1 else D.nx σ H1
theorem vN{c:OR}{body:List O6}{tc:TT}{tb:TS}(hp:PR (OU X.prog X.w) X.A X.env X.xe)(hc:PT X c tc)(hb:bu X body tb):PS X (.While c body [] pos) (BY tc tb):=by
 intro Qm s σ H D I h;obtain⟨W,⟨m0,w0⟩,turn⟩:=h;refine wpAny_While (codeAny_whileLoop (λn s'=>∃σ' H',aa X Qm σ' H' s'/\W n σ' H') ?_ m0 ⟨σ,H,I,w0⟩);rintro n s1 ⟨σ1,H1,I1,w1⟩;refine Pr hp (au (hc Qm s1 σ1 H1 _ I1 (turn n σ1 H1 w1)) λb s2 ⟨H2,I2,q2⟩=>?_);cases b with
 | true=>
  obtain⟨N,hN,q2⟩:=q2;rw [OJ rfl];refine Pr hp (au (hb Qm s2 σ1 H2 _ I2 q2) λf s3 q3=>?_);cases f with
  | next=>
   obtain⟨σ3,H3,I3,n3⟩:=q3;obtain⟨m',hm,w3⟩:=hN σ3 H3 n3;exact⟨m',hm,σ3,H3,I3,w3⟩
  | cont=>
   obtain⟨σ3,H3,I3,n3⟩:=q3;obtain⟨m',hm,w3⟩:=hN σ3 H3 n3;exact⟨m',hm,σ3,H3,I3,w3⟩
  | brk=>exact q3
  | ret v=>exact q3
 | false=>
  rw [OI IF];exact Pz ⟨σ1,H2,I2,q2⟩
end
structure It where
 go:Nat->Hp->Prop
 yld:Nat->Hp->V->Hp->Prop
 stop:Nat->Hp->Prop
def lY(X:Cx)(Qm:List (OO×Obj))(H:Hp)(b:OO):Prop:=
 H b=none/\b≠X.env.locals/\b ∉ X.fs/\(b∈X.ex\/X.s₀.heap.objs.size<=b)/\(∀x c,X.env.cells.lookup x=some c->c≠b)/\∀p∈X.pn++Qm,p.1≠b
theorem aa.fpOk{X:Cx}{Qm:List (OO×Obj)}{σ:St}{H H':Hp}{s:OP}{b:OO}(I:aa X Qm σ H s)(hb:s.heap.objs.size<=b)(hn:H' b=none):lY X Qm H' b:=by
 refine⟨hn,ML (IM I.lt hb),I.nofs hb,.inr (Jx I.sz hb),λx c e z=>?_,λp hp z=>?_⟩
 ·obtain⟨v,q⟩:=I.cell x c e;exact absurd (IM q.lt (by rw [z];exact hb)) (Kb _)
 ·exact absurd (IM (IC (I.pin p hp).1) (by rw [z];exact hb)) (Kb _)
structure pE (P:OZ) (w:O4) (K:Iq) (tg:OR) (J:It) (fp:List OO) (it:OO) (tn:Nat->O3->Prop):Prop where
 mem:it∈fp
 obj:∀i h,tn i h->∀b∈fp,∃o,h.get? b=some o/\∀v,o.data≠ .cell v
 keep:∀i h h',tn i h->(∀b∈fp,∀o,h.get? b=some o->h'.get? b=some o)->tn i h'
 item:∀(X:Cx),X.prog=P->X.w=w->X.K=K->X.calm=true->∀(i:Nat)(Qm:List (OO×Obj))(s:OP)(σ:St)(H:Hp)(E:ON->OP->Prop),aa X Qm σ H s->(∀b∈fp,lY X Qm H b)->tn i s.heap->J.go i H->
  OV (OU P w) X.A (pyNext (.ref it)) (λr s1=>∃u,r=some u/\
   OV (OU P w) X.A (P8 tg (.ref it) u) (λ_ s2=>∃x H',aa X Qm σ H' s2/\ax x u/\J.yld i H x H'/\tn (i+1) s2.heap/\∀b∈fp,H' b=none) E s1) E s
 done:∀(X:Cx),X.prog=P->X.w=w->X.K=K->X.calm=true->∀(i:Nat)(Qm:List (OO×Obj))(s:OP)(σ:St)(H:Hp)(E:ON->OP->Prop),aa X Qm σ H s->(∀b∈fp,lY X Qm H b)->tn i s.heap->J.stop i H->
  OV (OU P w) X.A (pyNext (.ref it)) (λr s1=>r=none/\aa X Qm σ H s1) E s
 self:∀(A:O5)(i:Nat)(s:OP)(Q:ON->OP->Prop)(E:ON->OP->Prop),tn i s.heap->Q (.ref it) s->OV (OU P w) A (pyIter (.ref it)) Q E s
abbrev TI:=St->Hp->(It->Hp->Prop)->Prop
def vO(X:Cx)(Qm:List (OO×Obj))(σ:St)(tg:OR)(R:It->Hp->Prop)(itv:ON)(s2:OP):Prop:=
 ∃(it:OO)(fp:List OO)(tn:Nat->O3->Prop)(J:It)(H':Hp),itv= .ref it/\aa X Qm σ H' s2/\pE X.prog X.w X.K tg J fp it tn/\tn 0 s2.heap/\(∀b∈fp,lY X Qm H' b)/\R J H'
def PI(X:Cx)(tg iter:OR)(wi:TI):Prop:=
 ∀(Qm:List (OO×Obj))(s:OP)(σ:St)(H:Hp)(R:It->Hp->Prop),aa X Qm σ H s->wi σ H R->
  OV (OU X.prog X.w) X.A (eval iter X.env) (λv s1=>OV (OU X.prog X.w) X.A (pyIter v) (vO X Qm σ tg R) X.xe s1) X.xe s
theorem qE{M:Model}{A:O5}{E:ON->OP->Prop}{s:OP}{tg:OR}{it:OO}{u:ON}{o:Obj}{n:String}{vs:Array ON}{Q:Unit->OP->Prop}(ho:s.heap.get? it=some o)(hc:o.cls= .type n)(hd:o.data= .fields vs)
 (hn:["enumerate","zip","dict_itemiterator","dict_reverseitemiterator","odict_iterator","itertools.zip_longest","itertools.pairwise"].contains n=false)(hQ:Q () s):OV M A (P8 tg (.ref it) u) Q E s:=by
 unfold P8;cases tg <;> first
  | exact OT hQ
  | (cases u <;> first
      | exact OT hQ
      | (refine OQ (wpAny_load ho ?_)
         rw [hc,hd];show OV M A (if (["enumerate","zip","dict_itemiterator","dict_reverseitemiterator","odict_iterator","itertools.zip_longest","itertools.pairwise"].contains n && vs[0]?==some (rawInt _))=true then _ else _) Q E s;rw [OI (by intro h;rw [hn,M7] at h;cases h)];exact OT hQ))
def pF(K:Iq)(a:OO):It:=
 ⟨λi H=>∃xs x,aV K H a xs/\xs[i]?=some x,λi H x H'=>H'=H/\∀xs,aV K H a xs->xs[i]?=some x,λi H=>∃xs,aV K H a xs/\xs.length<=i⟩
def pG(K:Iq)(a:OO):It:=
 ⟨λi H=>∃xs x,aZ K H a xs/\xs[i]?=some x,λi H x H'=>H'=H/\∀xs,aZ K H a xs->xs[i]?=some x,λi H=>∃xs,aZ K H a xs/\xs.length<=i⟩
def mx(lo:Int)(n:Nat):It:=⟨λi _=>i < n,λi H x H'=>H'=H/\x= .int (lo+i),λi _=>n<=i⟩
theorem BZ{P:OZ}{w:O4}{K:Iq}{tg:OR}(a it:OO):pE P w K tg (pF K a) [it] it (λi h=>h.IsListIter it a i) where
 mem:=OL
 obj:=λi h st b hb=>by
  have e:b=it:=by simpa using hb
  subst e;obtain⟨o,e,c,d⟩:=st;exact⟨o,e,λv z=>by rw [d] at z;cases z⟩
 keep:=λi h h' st k=>st.at λo e=>k it OL o e
 item:=by
  intro X hP hw hK hc i Qm s σ H E I hf st hg;subst hP hw hK;obtain⟨xs,x,hq,hx⟩:=hg;obtain⟨its,rv,p,hz⟩:=I.list hq;obtain⟨u,hu,ru⟩:=rv.get hx;obtain⟨f0,f1,f2,f3,f4,f5⟩:=hf it OL;refine wpAny_pyNext_list_item st p.isList (x:=u) (by simpa using hu) λh' st' sb=>?_;have I1:aa X Qm σ H {s with heap:=h'}:=I.turned (t':=s.toks) (λb o hb e=>(sb.2 b hb).trans e) f0 f1 f3 f4 f5;obtain⟨o,e,c,d⟩:=id st';exact⟨u,rfl,qE (s:={s with heap:=h'}) e c d OG ⟨x,H,I1,ru,⟨rfl,λys hy=>by rw [I.list_inj hy hq];exact hx⟩,st',λb hb=>(hf b hb).1⟩⟩
 done:=by
  intro X hP hw hK hc i Qm s σ H E I hf st hg;subst hP hw hK;obtain⟨xs,hq,hx⟩:=hg;obtain⟨its,rv,p,hz⟩:=I.list hq;obtain⟨f0,f1,f2,f3,f4,f5⟩:=hf it OL;have hl:=rv.length;exact wpAny_pyNext_list_end (I.ok.hd hc) st p.isList (by simp;omega) λh' eb=>⟨rfl,I.turned (t':=s.toks) (λb o hb e=>eb b o hb e) f0 f1 f3 f4 f5⟩
 self:=λ_ _ _ _ _ st h=>wpAny_pyIter_listiter st h
theorem B0{P:OZ}{w:O4}{K:Iq}{tg:OR}(a it:OO):pE P w K tg (pG K a) [it] it (λi h=>h.IsTupleIter it a i) where
 mem:=OL
 obj:=λi h st b hb=>by
  have e:b=it:=by simpa using hb
  subst e;obtain⟨o,e,c,d⟩:=st;exact⟨o,e,λv z=>by rw [d] at z;cases z⟩
 keep:=λi h h' st k=>st.at λo e=>k it OL o e
 item:=by
  intro X hP hw hK hc i Qm s σ H E I hf st hg;subst hP hw hK;obtain⟨xs,x,hq,hx⟩:=hg;obtain⟨its,rv,p,hz⟩:=I.tuple hq;obtain⟨u,hu,ru⟩:=rv.get hx;obtain⟨f0,f1,f2,f3,f4,f5⟩:=hf it OL;refine wpAny_pyNext_tuple_item st (show s.heap.IsTuple a its.toArray from p) (x:=u) (by simpa using hu) λh' st' sb=>?_;have I1:aa X Qm σ H {s with heap:=h'}:=I.turned (t':=s.toks) (λb o hb e=>(sb.2 b hb).trans e) f0 f1 f3 f4 f5;obtain⟨o,e,c,d⟩:=id st';exact⟨u,rfl,qE (s:={s with heap:=h'}) e c d OG ⟨x,H,I1,ru,⟨rfl,λys hy=>by rw [I.tuple_inj hy hq];exact hx⟩,st',λb hb=>(hf b hb).1⟩⟩
 done:=by
  intro X hP hw hK hc i Qm s σ H E I hf st hg;subst hP hw hK;obtain⟨xs,hq,hx⟩:=hg;obtain⟨its,rv,p,hz⟩:=I.tuple hq;obtain⟨f0,f1,f2,f3,f4,f5⟩:=hf it OL;have hl:=rv.length;exact wpAny_pyNext_tuple_end (I.ok.hd hc) st (show s.heap.IsTuple a its.toArray from p) (by simp;omega) λh' eb=>⟨rfl,I.turned (t':=s.toks) (λb o hb e=>eb b o hb e) f0 f1 f3 f4 f5⟩
 self:=λ_ _ _ _ _ st h=>wpAny_pyIter_tupleiter st h
theorem B1{P:OZ}{w:O4}{K:Iq}{tg:OR}(it:OO)(lo:Int)(n:Nat):pE P w K tg (mx lo n) [it] it (λi h=>IsRangeIter h it (lo+(i:Nat)*1) ((n:Int) - (i:Nat)) 1) where
 mem:=OL
 obj:=λi h st b hb=>by
  have e:b=it:=by simpa using hb
  subst e;exact⟨_,st,λv z=>by
   have z':Data.fields _=Data.cell v:=z;cases z'⟩
 keep:=λi h h' st k=>k it OL _ st
 item:=by
  intro X hP hw hK hc i Qm s σ H E I hf st hg;subst hP hw hK;obtain⟨f0,f1,f2,f3,f4,f5⟩:=hf it OL;have W:=Walks.range (prog:=X.prog) (w:=X.w) (I.ok.hd hc) it lo 1 n;refine W.item i s _ _ hg st λv h' tk hv st' kk=>?_;obtain⟨t,rfl⟩:=hv;have I1:aa X Qm σ H {s with heap:=h',toks:=tk}:=I.turned (λb o hb e=>kk b o (by simpa using hb) e) f0 f1 f3 f4 f5;refine⟨_,rfl,qE (s:={s with heap:=h',toks:=tk}) (n:="range_iterator") st' rfl rfl OG ⟨.int (lo+i),H,I1,⟨t,?_⟩,⟨rfl,rfl⟩,st',λb hb=>(hf b hb).1⟩⟩;rw [Ox]
 done:=by
  intro X hP hw hK hc i Qm s σ H E I hf st hg;subst hP hw hK;obtain⟨f0,f1,f2,f3,f4,f5⟩:=hf it OL;exact wpAny_pyNext_range_end (I.ok.hd hc) st (by have:n<=i:=hg;omega) λh' eb=>⟨rfl,I.turned (t':=s.toks) (λb o hb e=>eb b o hb e) f0 f1 f3 f4 f5⟩
 self:=λ_ _ _ _ _ st h=>wpAny_pyIter_rangeiter st h
section
variable {X:Cx} {tg:OR}
def sX(K:Iq)(tl:TE):TI:=λσ H R=>tl σ H λx H1=>∃a,x= .ref a/\(∃xs,aV K H1 a xs)/\R (pF K a) H1
def sY(K:Iq)(tl:TE):TI:=λσ H R=>tl σ H λx H1=>∃a,x= .ref a/\(∃xs,aZ K H1 a xs)/\R (pG K a) H1
theorem qF{l:OR}{tl:TE}(hl:PE X l tl):PI X tg l (sX X.K tl):=by
 intro Qm s σ H R I h;refine au (hl Qm s σ H _ I h) λv s1 ⟨x,H1,I1,r1,q1⟩=>?_;obtain⟨a,e,⟨xs,hq⟩,q⟩:=q1;subst e;cases r1;obtain⟨its,rv,p,hz⟩:=I1.list hq;refine wpAny_pyIter_list p.isList ?_;refine⟨s1.heap.objs.size,[s1.heap.objs.size],_,_,H1,rfl,I1.kept (t':=s1.toks) λb o e=>Iz _ e,BZ a _,⟨_,Jh _ rfl,rfl,rfl⟩,λb hb=>?_,q⟩;have e:b=s1.heap.objs.size:=by simpa using hb
 subst e;exact I1.fpOk (IB _) (I1.hok.fresh (IB _))
theorem sZ{l:OR}{tl:TE}(hl:PE X l tl):PI X tg l (sY X.K tl):=by
 intro Qm s σ H R I h;refine au (hl Qm s σ H _ I h) λv s1 ⟨x,H1,I1,r1,q1⟩=>?_;obtain⟨a,e,⟨xs,hq⟩,q⟩:=q1;subst e;cases r1;obtain⟨its,rv,p,hz⟩:=I1.tuple hq;refine wpAny_pyIter_tuple (show s1.heap.IsTuple a its.toArray from p) ?_;refine⟨s1.heap.objs.size,[s1.heap.objs.size],_,_,H1,rfl,I1.kept (t':=s1.toks) λb o e=>Iz _ e,B0 a _,⟨_,Jh _ rfl,rfl,rfl⟩,λb hb=>?_,q⟩;have e:b=s1.heap.objs.size:=by simpa using hb
 subst e;exact I1.fpOk (IB _) (I1.hok.fresh (IB _))
theorem vP{Qm:List (OO×Obj)}{σ:St}{H:Hp}{s:OP}{R:It->Hp->Prop}{E:ON->OP->Prop}{lo hi:Int}{t u v:Tok}{tk:Nat}(I:aa X Qm σ H s)(h1:-(2 ^ 62)<=lo)(h2:lo < 2 ^ 62)(h3:-(2 ^ 62)<=hi)(h4:hi < 2 ^ 62)
 (q:R (mx lo (hi - lo).toNat) H):OV (OU X.prog X.w) X.A (pyIter (.ref s.heap.objs.size)) (vO X Qm σ tg R) E {s with heap:=s.heap.push {cls:= .type "range",data:= .fields #[.int lo t,.int hi u,.int 1 v]},toks:=tk}:=by
 refine wpAny_pyIter_range (IsRange.new ..) (small_one h1 h2 h3 h4) ?_;have I1:aa X Qm σ H {s with heap:=s.heap.push {cls:= .type "range",data:= .fields #[.int lo t,.int hi u,.int 1 v]},toks:=tk}:=I.kept λb o e=>Iz _ e;refine⟨(s.heap.push {cls:= .type "range",data:= .fields #[.int lo t,.int hi u,.int 1 v]}).objs.size,[(s.heap.push {cls:= .type "range",data:= .fields #[.int lo t,.int hi u,.int 1 v]}).objs.size],_,_,H,rfl,
  I1.kept (t':=tk) λb o e=>Iz _ e,B1 _ lo (hi - lo).toNat,?_,λb hb=>?_,q⟩
 ·have e1:lo+((0:Nat):Int)*1=lo:=OL
  have e2:(((hi - lo).toNat:Nat):Int) - ((0:Nat):Int)=Builtin.Range.rangeSize lo hi 1:=by rw [rangeSize_one];split <;> omega
  show IsRangeIter _ _ (lo+((0:Nat):Int)*1) ((((hi - lo).toNat:Nat):Int) - ((0:Nat):Int)) 1;rw [e1,e2];exact Jh _ rfl
 ·have e:b=(s.heap.push {cls:= .type "range",data:= .fields #[.int lo t,.int hi u,.int 1 v]}).objs.size:=by simpa using hb
  subst e;exact I1.fpOk (IB _) (I1.hok.fresh (IB _))
def ti(ta:TA):TI:=λσ H R=>ta σ H λvs H1=>∃j:Int,vs=[.int j]/\-(2 ^ 62)<=j/\j < 2 ^ 62/\R (mx 0 j.toNat) H1
def tj(ta:TA):TI:=λσ H R=>ta σ H λvs H1=>∃i j:Int,vs=[.int i,.int j]/\(-(2 ^ 62)<=i/\i < 2 ^ 62/\-(2 ^ 62)<=j/\j < 2 ^ 62)/\R (mx i (j - i).toNat) H1
theorem vQ{a:OR}{ta:TA}{p pos:Pos}(hg:Gl X "range")(hm:X.mg "range"=none)(ha:PA X [a] ta)(hs:OW [a] X.env=[(false,eval a X.env)]:=by rfl):PI X tg (.Call (.Name "range" p) [a] [] pos) (ti ta):=by
 intro Qm s σ H R I h;refine Call_ (oC I hg hm boot_range (LB (au (ha pos Qm s σ H _ I h) λus s1 ⟨vs,H1,I1,r1,q1⟩=>?_) hs rfl));obtain⟨j,e,q1,q2,q⟩:=q1;subst e;cases r1 with
 | cons r rr=>
  cases rr;obtain⟨t,rfl⟩:=r;exact call_range_1 (vP I1 OH OH q1 q2 (by simpa using q))
theorem B2{a b:OR}{ta:TA}{p pos:Pos}(hg:Gl X "range")(hm:X.mg "range"=none)(ha:PA X [a,b] ta)(hs:OW [a,b] X.env=[(false,eval a X.env),(false,eval b X.env)]:=by rfl)(hs2:OW [b] X.env=[(false,eval b X.env)]:=by rfl):
 PI X tg (.Call (.Name "range" p) [a,b] [] pos) (tj ta):=by
 intro Qm s σ H R I h;refine Call_ (oC I hg hm boot_range (LB (au (ha pos Qm s σ H _ I h) λus s1 ⟨vs,H1,I1,r1,q1⟩=>?_) (by rw [hs,hs2]) (by rw [hs2];rfl)));obtain⟨i,j,e,⟨q1,q2,q3,q4⟩,q⟩:=q1;subst e;cases r1 with
 | cons r rr=>
  cases rr with
  | cons r' rr=>
   cases rr;obtain⟨t,rfl⟩:=r;obtain⟨t',rfl⟩:=r';exact call_range_2 (vP I1 q1 q2 q3 q4 q)
def pH(wi:TI)(g:TG)(tb:TS):TS:=λD σ H=>wi σ H λJ H1=>∃W:Nat->Nat->St->Hp->Prop,(∃m,W 0 m σ H1)/\∀i m σ H,W i m σ H->
 (J.stop i H/\D.nx σ H)\/(J.go i H/\∃N:St->Hp->Prop,(∀σ' H',N σ' H'->∃m',m' < m/\W (i+1) m' σ' H')/\∀x H',J.yld i H x H'->g x σ H' λσ2 H2=>tb {D with nx:=N,ct:=N,bk:=D.nx} σ2 H2)
def pI(fp:List OO)(h:O3):List (OO×Obj):=fp.filterMap λb=>(h.get? b).map λo=>(b,o)
theorem qG{fp:List OO}{h:O3}{b:OO}{o:Obj}(hb:b∈fp)(e:h.get? b=some o):(b,o)∈pI fp h:=Lo.mpr ⟨b,hb,by rw [e];rfl⟩
theorem B3{fp:List OO}{h:O3}{p:OO×Obj}(hp:p∈pI fp h):p.1∈fp/\h.get? p.1=some p.2:=by
 obtain⟨b,hb,e⟩:=Lo.mp hp;cases q:h.get? b with
 | none=>rw [q] at e;cases e
 | some o=>
  rw [q] at e;have e':(b,o)=p:=Jr e;subst e';exact⟨hb,q⟩
theorem aa.pinned{Qm:List (OO×Obj)}{σ:St}{H:Hp}{s:OP}{fp:List OO}(I:aa X Qm σ H s)(hf:∀b∈fp,lY X Qm H b)(ho:∀b∈fp,∃o,s.heap.get? b=some o/\∀v,o.data≠ .cell v):aa X (Qm++pI fp s.heap) σ H s:=
 I.pins_of λp hp=>(Jf.mp hp).elim (λz=>I.pin p (Jo _ z)) λz=>by
  obtain⟨hb,e⟩:=B3 z;obtain⟨f0,f1,f2,_⟩:=hf p.1 hb;obtain⟨o,e',d⟩:=ho p.1 hb;rw [e] at e';cases e';exact⟨e,f0,f1,f2,d⟩
theorem aa.unpinned{Qm pl:List (OO×Obj)}{σ:St}{H:Hp}{s:OP}(I:aa X (Qm++pl) σ H s):aa X Qm σ H s:=I.pins_of λp hp=>I.pin p (Jo _ (Mi _ hp))
theorem pJ{iter:OR}{body:List O6}{wi:TI}{g:TG}{tb:TS}{pos:Pos}(hp:PR (OU X.prog X.w) X.A X.env X.xe)(hc:X.calm=true)(hi:PI X tg iter wi)(hg:PG X tg g)(hb:bu X body tb)
 (hs:∀x,O7 iter X.env x=pure x:=by intro _;rfl):PS X (.For tg iter body [] pos) (pH wi g tb):=by
 intro Qm s σ H D I h;refine wpAny_For (au (hi Qm s σ H _ I h) λv s1 h1=>au h1 λitv s2 h2=>?_) hs;obtain⟨it,fp,tn,J,H2,e,I2,T,st2,f2,W,⟨m0,w0⟩,turn⟩:=h2;subst e;have stat:∀{H':Hp},(∀b∈fp,H' b=none)->∀b∈fp,lY X Qm H' b:=λhn b hb=>⟨hn b hb,(f2 b hb).2⟩;refine codeAny_forLoop_any (λn s'=>∃i σ' H',aa X Qm σ' H' s'/\tn i s'.heap/\(∀b∈fp,H' b=none)/\W i n σ' H') ?_ m0 ⟨0,σ,H2,I2,st2,λb hb=>(f2 b hb).1,w0⟩;rintro n s3 ⟨i,σ3,H3,I3,st3,fr3,w3⟩;rcases turn i n σ3 H3 w3 with⟨stop,qn⟩ | ⟨go,N,hN,step⟩
 ·refine Pr hp (au (T.done X rfl rfl rfl hc i Qm s3 σ3 H3 X.xe I3 (stat fr3) st3 stop) λr s4 ⟨hr,I4⟩=>?_);subst hr;exact Pz ⟨σ3,H3,I4,qn⟩
 ·refine Pr hp (au (T.item X rfl rfl rfl hc i Qm s3 σ3 H3 X.xe I3 (stat fr3) st3 go) λr s4 ⟨u,hr,h4⟩=>?_);subst hr;refine Pr hp (au h4 λ_ s5 ⟨x,H5,I5,r5,y5,st5,fr5⟩=>?_);have I5':=I5.pinned (stat fr5) (T.obj _ _ st5);refine Pr hp (au (hg _ s5 σ3 H5 x u _ I5' r5 (step x H5 y5)) λ_ s6 ⟨σ6,H6,I6,q6⟩=>?_);refine Pr hp (au (hb _ s6 σ6 H6 _ I6 q6) λf s7 q7=>?_);have again:∀{σ7:St}{H7:Hp},aa X (Qm++pI fp s5.heap) σ7 H7 s7->N σ7 H7->∃m,m < n/\∃i σ' H',aa X Qm σ' H' s7/\tn i s7.heap/\(∀b∈fp,H' b=none)/\W i m σ' H':=λ{σ7 H7} I7 n7=>by
   obtain⟨m',hm,w7⟩:=hN σ7 H7 n7;refine⟨m',hm,i+1,σ7,H7,I7.unpinned,T.keep _ _ _ st5 λb hb o e=>(I7.pin (b,o) (Jo _ (Jo _ (qG hb e)))).1,λb hb=>?_,w7⟩;obtain⟨o,e,d⟩:=T.obj _ _ st5 b hb;exact(I7.pin (b,o) (Jo _ (Jo _ (qG hb e)))).2.1
  cases f with
  | next=>obtain⟨σ7,H7,I7,n7⟩:=q7;exact again I7 n7
  | cont=>obtain⟨σ7,H7,I7,n7⟩:=q7;exact again I7 n7
  | brk=>obtain⟨σ7,H7,I7,q7⟩:=q7;exact⟨σ7,H7,I7.unpinned,q7⟩
  | ret v=>obtain⟨x7,σ7,H7,I7,r7,q7⟩:=q7;exact⟨x7,σ7,H7,I7.unpinned,r7,q7⟩
end
abbrev R2:=V->V->Hp->VK->Prop
def bx(X:Cx)(f:ON->ON->Sem ON)(r:R2):Prop:=
 ∀(Qm:List (OO×Obj))(s:OP)(σ:St)(H:Hp)(x y:V)(v u:ON)(Q:VK),aa X Qm σ H s->ax x v->ax y u->r x y H Q->
  OV (OU X.prog X.w) X.A (f v u) (EP X Qm σ Q) X.xe s
def tm(X:Cx)(f:ON->Sem ON)(r:V->Hp->VK->Prop):Prop:=
 ∀(Qm:List (OO×Obj))(s:OP)(σ:St)(H:Hp)(x:V)(v:ON)(Q:VK),aa X Qm σ H s->ax x v->r x H Q->
  OV (OU X.prog X.w) X.A (f v) (EP X Qm σ Q) X.xe s
def cI(X:Cx)(f:ON)(r:List V->Hp->VK->Prop):Prop:=
 ∀(Qm:List (OO×Obj))(s:OP)(σ:St)(H:Hp)(xs:List V)(us:List ON)(Q:VK),aa X Qm σ H s->aB xs us->r xs H Q->
  OV (OU X.prog X.w) X.A (call f us) (EP X Qm σ Q) X.xe s
def B4(X:Cx)(r:V->Hp->(Bool->Hp->Prop)->Prop):Prop:=
 ∀(Qm:List (OO×Obj))(s:OP)(σ:St)(H:Hp)(x:V)(v:ON)(Q:Bool->Hp->Prop),aa X Qm σ H s->ax x v->r x H Q->
  OV (OU X.prog X.w) X.A (truthy v) (TP X Qm σ Q) X.xe s
def nO(r:R2)(ta tb:TE):TE:=λσ H Q=>ta σ H λx H1=>tb σ H1 λy H2=>r x y H2 Q
def tq(r:V->Hp->VK->Prop)(ta:TE):TE:=λσ H Q=>ta σ H λx H1=>r x H1 Q
def rI(C:Int->Int->Prop)(g:Int->Int->V):R2:=λx y H Q=>∃i j,x= .int i/\y= .int j/\C i j/\Q (g i j) H
def gW(g:Int->Int->V):R2:=λx y H Q=>∃i j,x= .int i/\y= .int j/\Q (g i j) H
def rU(g:Int->V):V->Hp->VK->Prop:=λx H Q=>∃i,x= .int i/\Q (g i) H
section
variable {X:Cx} {a b c:OR} {ta tb tc:TE} {pos:Pos}
theorem tu(ha:PE X a ta)(hb:PE X b tb){Qm:List (OO×Obj)}{s:OP}{σ:St}{H:Hp}{R:V->V->Hp->Prop}(I:aa X Qm σ H s)
 (h:ta σ H λx H1=>tb σ H1 λy H2=>R x y H2){Q:ON->OP->Prop}{f:ON->ON->Sem ON}
 (hf:∀v u s2 x y H2,aa X Qm σ H2 s2->ax x v->ax y u->R x y H2->OV (OU X.prog X.w) X.A (f v u) Q X.xe s2):
 OV (OU X.prog X.w) X.A (eval a X.env) (λv s₁=>OV (OU X.prog X.w) X.A (eval b X.env) (λu s₂=>OV (OU X.prog X.w) X.A (f v u) Q X.xe s₂) X.xe s₁) X.xe s:=by
 refine au (ha Qm s σ H _ I h) λv s1 ⟨x,H1,I1,r1,q1⟩=>?_;refine au (hb Qm s1 σ H1 _ I1 q1) λu s2 ⟨y,H2,I2,r2,q2⟩=>?_;exact hf v u s2 x y H2 I2 r1 r2 q2
theorem bp{op:Operator}{r:R2}(ho:bx X (Pu op) r)(ha:PE X a ta)(hb:PE X b tb):PE X (.BinOp a op b pos) (nO r ta tb):=by
 intro Qm s σ H Q I h;exact wpAny_BinOp (tu ha hb I h λv u s2 x y H2 I2 rx ry q=>ho Qm s2 σ H2 x y v u Q I2 rx ry q)
theorem vR{op:UnaryOp}{r:V->Hp->VK->Prop}(ho:tm X (unaryOp op) r)(ha:PE X a ta):PE X (.UnaryOp op a pos) (tq r ta):=by
 intro Qm s σ H Q I h;exact UnaryOp_ (au (ha Qm s σ H _ I h) λv s1 uu31=>by obtain⟨x,H1,I1,r1,q1⟩:=uu31;exact ho Qm s1 σ H1 x v Q I1 r1 q1)
theorem qH{f:ON->ON->Sem ON}{C:Int->Int->Prop}{g:Int->Int->Int}
 (rule:∀(i j:Int) (t u:Tok) (s:OP) (Q:ON->OP->Prop) (E:ON->OP->Prop),C i j->Q (.int (g i j) s.toks) {s with toks:=s.toks+1}->OV (OU X.prog X.w) X.A (f (.int i t) (.int j u)) Q E s):
 bx X f (rI C λi j=>.int (g i j)):=by
 intro Qm s σ H x y v u Q I rx ry h;obtain⟨i,j,rfl,rfl,hc,q⟩:=h;obtain⟨t,rfl⟩:=rx;obtain⟨t',rfl⟩:=ry;exact rule i j t t' s _ _ hc ⟨.int (g i j),H,I.tok _,⟨_,rfl⟩,q⟩
theorem vS{f:ON->ON->Sem ON}{g:Int->Int->Int}
 (rule:∀(i j:Int) (t u:Tok) (s:OP) (Q:ON->OP->Prop) (E:ON->OP->Prop),Q (.int (g i j) s.toks) {s with toks:=s.toks+1}->OV (OU X.prog X.w) X.A (f (.int i t) (.int j u)) Q E s):
 bx X f (gW λi j=>.int (g i j)):=by
 intro Qm s σ H x y v u Q I rx ry h;obtain⟨i,j,rfl,rfl,q⟩:=h;obtain⟨t,rfl⟩:=rx;obtain⟨t',rfl⟩:=ry;exact rule i j t t' s _ _ ⟨.int (g i j),H,I.tok _,⟨_,rfl⟩,q⟩
theorem qI{f:ON->ON->Sem ON}{g:Int->Int->Bool}
 (rule:∀(i j:Int) (t u:Tok) (s:OP) (Q:ON->OP->Prop) (E:ON->OP->Prop),Q (.bool (g i j)) s->OV (OU X.prog X.w) X.A (f (.int i t) (.int j u)) Q E s):
 bx X f (gW λi j=>.bl (g i j)):=by
 intro Qm s σ H x y v u Q I rx ry h;obtain⟨i,j,rfl,rfl,q⟩:=h;obtain⟨t,rfl⟩:=rx;obtain⟨t',rfl⟩:=ry;exact rule i j t t' s _ _ ⟨.bl (g i j),H,I,rfl,q⟩
def dn(i j:Int):Prop:=0 < j/\j < 1073741824
def dG(i j:Int):Prop:=0<=j/\j<=1000000/\i.natAbs < 2 ^ 64
def cS(i j:Int):Prop:=(-(2 ^ 64) < i/\i < 2 ^ 64)\/(-(2 ^ 64) < j/\j < 2 ^ 64)
theorem cS.ok{i j:Int}(h:cS i j):IntMulOk i j:=by
 rcases h with⟨h1,h2⟩ | ⟨h1,h2⟩
 ·exact .of_left (intBits_le_64 h1 h2)
 ·exact .of_right (intBits_le_64 h1 h2)
theorem aN:bx X (Pu .Add) (gW λi j=>.int (i+j)):=vS λ_ _ _ _ _ _ _ q=>add_int q
theorem cj:bx X (Pu .Sub) (gW λi j=>.int (i - j)):=vS λ_ _ _ _ _ _ _ q=>sub_int q
theorem dH:bx X (Pu .Mult) (rI cS λi j=>.int (i*j)):=qH λ_ _ _ _ _ _ _ hc q=>mul_int q hc.ok
theorem cy:bx X (Pu .FloorDiv) (rI dn λi j=>.int (i / j)):=qH λi j _ _ _ _ _ hc q=>by
 have h1:(0:Int) < j:=hc.1;have h2:j < 1073741824:=hc.2;exact floordiv_int OH (by rw [Int.fdiv_eq_ediv_of_nonneg i OH];exact q) (.inl (PyProof.noPylong_small OH))
theorem aR:bx X (Pu .Mod) (rI (λ_ j=>0 < j) λi j=>.int (i % j)):=qH λi j _ _ _ _ _ hc q=>by
 have h1:(0:Int) < j:=hc;exact mod_int' OH (by rw [Int.fmod_eq_emod_of_nonneg i OH];exact q)
theorem vT:bx X (Pu .Pow) (rI dG λi j=>.int (i ^ j.toNat)):=qH λ_ _ _ _ _ _ _ hc q=>pow_int_small hc.1 hc.2.1 hc.2.2 q
theorem B5{f:ON->Sem ON}{g:Int->Int}
 (rule:∀(i:Int) (t:Tok) (s:OP) (Q:ON->OP->Prop) (E:ON->OP->Prop),Q (.int (g i) s.toks) {s with toks:=s.toks+1}->OV (OU X.prog X.w) X.A (f (.int i t)) Q E s):
 tm X f (rU λi=>.int (g i)):=by
 intro Qm s σ H x v Q I rx h;obtain⟨i,rfl,q⟩:=h;obtain⟨t,rfl⟩:=rx;exact rule i t s _ _ ⟨.int (g i),H,I.tok _,⟨_,rfl⟩,q⟩
theorem vU:tm X (unaryOp .USub) (rU λi=>.int (-i)):=B5 λ_ _ _ _ _ q=>neg_int q
end
def ng:V->V->Bool
 | .non,.non=>true | .non,.int _=>true | .int _,.non=>true | .non,.bl _=>true | .bl _,.non=>true | .non,.str _=>true | .str _,.non=>true
 | .int _,.int _=>true | .bl _,.bl _=>true | .str _,.str _=>true | .byt _,.byt _=>true
 | .int _,.str _=>true | .str _,.int _=>true | .bl _,.str _=>true | .str _,.bl _=>true
 | _,_=>false
def tw:R2:=λx y H Q=>ng x y=true/\Q (.bl (decide (x=y))) H
def tD:R2:=λx y H Q=>ng x y=true/\Q (.bl (!decide (x=y))) H
theorem vV{i j:Int}:decide (V.int i=V.int j)=(i==j):=by
 rw [LH];simp
theorem vW{i j:Bool}:decide (V.bl i=V.bl j)=(i==j):=by
 rw [LH];simp
theorem vX{i j:Str}:decide (V.str i=V.str j)=(i==j):=by
 rw [LH];simp
theorem vY{i j:Array UInt8}:decide (V.byt i=V.byt j)=(i.toList==j.toList):=by
 rw [LH];cases i;cases j;simp
section
variable {X:Cx} {a b c:OR} {ta tb tc:TE} {pos:Pos}
theorem bh{Qm:List (OO×Obj)}{σ:St}{H:Hp}{s:OP}{Q:VK}{k k':Bool}(I:aa X Qm σ H s)(q:Q (.bl k) H)(e:k=k'):EP X Qm σ Q (.bool k') s:=by
 subst e;exact⟨.bl k,H,I,rfl,q⟩
theorem pK:bx X (Pa .Eq) tw:=by
 intro Qm s σ H x y v u Q I rx ry h;obtain⟨hs,q⟩:=h;cases x with
 | non=>
  cases rx;cases y with
  | non=>cases ry;exact PySem.EqNone.eq_none_none (bh I q OL)
  | bl j=>cases ry;exact PySem.EqNone.eq_none_bool (bh I q OL)
  | int j=>obtain⟨t',rfl⟩:=ry;exact PySem.EqNone.eq_none_int (bh I q OL)
  | str j=>obtain⟨t',rfl⟩:=ry;exact PySem.EqNone.eq_none_str (bh I q OL)
  | _=>exact absurd (show false=true from hs) IF
 | bl i=>
  cases rx;cases y with
  | non=>cases ry;exact PySem.EqNone.eq_bool_none (bh I q OL)
  | bl j=>cases ry;exact eq_bool (bh I q vW)
  | str j=>obtain⟨t',rfl⟩:=ry;exact PySem.EqMixed.eq_bool_str (bh I q OL)
  | _=>exact absurd (show false=true from hs) IF
 | int i=>
  obtain⟨t,rfl⟩:=rx;cases y with
  | non=>cases ry;exact PySem.EqNone.eq_int_none (bh I q OL)
  | int j=>obtain⟨t',rfl⟩:=ry;exact eq_int (bh I q vV)
  | str j=>obtain⟨t',rfl⟩:=ry;exact PySem.EqMixed.eq_int_str (bh I q OL)
  | _=>exact absurd (show false=true from hs) IF
 | str i=>
  obtain⟨t,rfl⟩:=rx;cases y with
  | non=>cases ry;exact PySem.EqNone.eq_str_none (bh I q OL)
  | bl j=>cases ry;exact PySem.EqMixed.eq_str_bool (bh I q OL)
  | int j=>obtain⟨t',rfl⟩:=ry;exact PySem.EqMixed.eq_str_int (bh I q OL)
  | str j=>obtain⟨t',rfl⟩:=ry;exact eq_str (bh I q vX)
  | _=>exact absurd (show false=true from hs) IF
 | byt i=>
  obtain⟨t,rfl⟩:=rx;cases y with
  | byt j=>obtain⟨t',rfl⟩:=ry;exact PySem.W.eq_bytes (bh I q vY)
  | _=>exact absurd (show false=true from hs) IF
 | _=>cases y <;> exact absurd (show false=true from hs) IF
theorem B6:bx X (Pa .NotEq) tD:=by
 intro Qm s σ H x y v u Q I rx ry h;obtain⟨hs,q⟩:=h;cases x with
 | non=>
  cases rx;cases y with
  | non=>cases ry;exact PySem.EqNone.ne_none_none (bh I q OL)
  | bl j=>cases ry;exact PySem.EqNone.ne_none_bool (bh I q OL)
  | int j=>obtain⟨t',rfl⟩:=ry;exact PySem.EqNone.ne_none_int (bh I q OL)
  | str j=>obtain⟨t',rfl⟩:=ry;exact PySem.EqNone.ne_none_str (bh I q OL)
  | _=>exact absurd (show false=true from hs) IF
 | bl i=>
  cases rx;cases y with
  | non=>cases ry;exact PySem.EqNone.ne_bool_none (bh I q OL)
  | bl j=>cases ry;exact ne_bool (bh I q (congrArg not vW))
  | str j=>obtain⟨t',rfl⟩:=ry;exact PySem.EqMixed.ne_bool_str (bh I q OL)
  | _=>exact absurd (show false=true from hs) IF
 | int i=>
  obtain⟨t,rfl⟩:=rx;cases y with
  | non=>cases ry;exact PySem.EqNone.ne_int_none (bh I q OL)
  | int j=>obtain⟨t',rfl⟩:=ry;exact ne_int (bh I q (congrArg not vV))
  | str j=>obtain⟨t',rfl⟩:=ry;exact PySem.EqMixed.ne_int_str (bh I q OL)
  | _=>exact absurd (show false=true from hs) IF
 | str i=>
  obtain⟨t,rfl⟩:=rx;cases y with
  | non=>cases ry;exact PySem.EqNone.ne_str_none (bh I q OL)
  | bl j=>cases ry;exact PySem.EqMixed.ne_str_bool (bh I q OL)
  | int j=>obtain⟨t',rfl⟩:=ry;exact PySem.EqMixed.ne_str_int (bh I q OL)
  | str j=>obtain⟨t',rfl⟩:=ry;exact ne_str (bh I q (congrArg not vX))
  | _=>exact absurd (show false=true from hs) IF
 | byt i=>
  obtain⟨t,rfl⟩:=rx;cases y with
  | byt j=>obtain⟨t',rfl⟩:=ry;exact PySem.W.ne_bytes (bh I q (congrArg not vY))
  | _=>exact absurd (show false=true from hs) IF
 | _=>cases y <;> exact absurd (show false=true from hs) IF
theorem qJ:bx X (Pa .Lt) (gW λi j=>.bl (decide (i < j))):=qI λ_ _ _ _ _ _ _ q=>lt_int q
theorem pL:bx X (Pa .LtE) (gW λi j=>.bl (decide (i<=j))):=qI λ_ _ _ _ _ _ _ q=>le_int q
theorem tE:bx X (Pa .Gt) (gW λi j=>.bl (decide (j < i))):=qI λ_ _ _ _ _ _ _ q=>gt_int q
theorem tF:bx X (Pa .GtE) (gW λi j=>.bl (decide (j<=i))):=qI λ_ _ _ _ _ _ _ q=>ge_int q
theorem tG:bx X (Pa .Is) (λx y H Q=>y= .non/\Q (.bl (decide (x= .non))) H):=by
 intro Qm s σ H x y v u Q I rx ry h;obtain⟨rfl,q⟩:=h;cases ry;refine is_none_gen (bh I q ?_);cases x <;> first
  | (cases rx;rfl)
  | (obtain⟨t,rfl⟩:=rx;rfl)
theorem aG(b:OR){op:CmpOp}(h:op≠ .In:=by decide)(h2:op≠ .NotIn:=by decide):Pm op b=false:=by
 have e1:(op==CmpOp.In)=false:=by cases op <;> first | rfl | exact absurd rfl h
 have e2:(op==Ow)=false:=by cases op <;> first | rfl | exact absurd rfl h2
 cases b <;> simp [Pm,e1,e2]
theorem qK{op:CmpOp}{r:R2}(ho:bx X (Pa op) r)(ha:PE X a ta)(hb:PE X b tb)(hm:Pm op b=false):PE X (.Compare a [op] [b] pos) (nO r ta tb):=by
 intro Qm s σ H Q I h;exact wpAny_Compare1 (tu ha hb I h λv u s2 x y H2 I2 rx ry q=>ho Qm s2 σ H2 x y v u Q I2 rx ry q) hm
def tH(t:TE):TT:=λσ H Q=>t σ H λx H'=>∃k,x= .bl k/\Q k H'
theorem nQ{op:CmpOp}{r:R2}(ho:bx X (Pa op) r)(ha:PE X a ta)(hb:PE X b tb)(hm:Pm op b=false):PT X (.Compare a [op] [b] pos) (tH (nO r ta tb)):=by
 intro Qm s σ H Q I h;refine wpAny_isTrue_Compare1 (au (ha Qm s σ H _ I h) λv s1 ⟨x,H1,I1,r1,q1⟩=>au (hb Qm s1 σ H1 _ I1 q1) λu s2 ⟨y,H2,I2,r2,q2⟩=>
  au (ho Qm s2 σ H2 x y v u _ I2 r1 r2 q2) λc s3 ⟨z,H3,I3,r3,k,e,q3⟩=>?_) hm
 subst e;cases r3;exact Pj ⟨H3,I3,q3⟩
def vZ(K:Iq)(x:V)(H:Hp)(k:Bool):Prop:=
 match x with
 | .non=>k=false
 | .bl b=>k=b
 | .int i=>k=(i !=0)
 | .str y=>y.length<=OS/\k=((y.length:Int) !=0)
 | .byt y=>y.size<=OS/\k=((y.size:Int) !=0)
 | .ref p=>(∃xs,aV K H p xs/\k=!xs.isEmpty)\/(∃xs,aZ K H p xs/\k=!xs.isEmpty)\/∃kvs,H p=some (.dK kvs)/\k=!kvs.isEmpty
 | _=>False
theorem B7{κ:Type}{kvs:List (κ×V)}{vs:List (κ×ON)}(r:KV kvs vs):(!vs.isEmpty)=!kvs.isEmpty:=by
 cases r <;> rfl
theorem v5{xs:List V}{its:List ON}(r:aB xs its):(!its.toArray.isEmpty)=!xs.isEmpty:=by
 cases r <;> simp
theorem pM:(OS:Nat) < 2 ^ 63:=by rw [O8];decide
theorem B8:B4 X (λx H Q=>∃k,vZ X.K x H k/\Q k H):=by
 intro Qm s σ H x v Q I rx h;obtain⟨k,e,q⟩:=h;have hl:=pM;have hs:OS=16777216:=O8;cases x with
 | non=>
  cases rx;have e':k=false:=e;subst e';exact truthy_none ⟨H,I,q⟩
 | bl b=>
  cases rx;have e':k=b:=e;subst e';exact Pj ⟨H,I,q⟩
 | int i=>
  obtain⟨t,rfl⟩:=rx;have e':k=(i !=0):=e;subst e';exact PySem.P.truthy_int ⟨H,I,q⟩
 | str y=>
  obtain⟨t,rfl⟩:=rx;obtain⟨hy,e'⟩:y.length<=OS/\k=((y.length:Int) !=0):=e;subst e';exact PySem.P.truthy_str OH ⟨H,I.tok _,q⟩
 | byt y=>
  obtain⟨t,rfl⟩:=rx;obtain⟨hy,e'⟩:y.size<=OS/\k=((y.size:Int) !=0):=e;subst e';exact PySem.W.truthy_bytes OH ⟨H,I.tok _,q⟩
 | ref p=>
  cases rx;have e':(∃xs,aV X.K H p xs/\k=!xs.isEmpty)\/(∃xs,aZ X.K H p xs/\k=!xs.isEmpty)\/∃kvs,H p=some (.dK kvs)/\k=!kvs.isEmpty:=e;rcases e' with⟨xs,hx,e'⟩ | ⟨xs,hx,e'⟩ | ⟨kvs,hx,e'⟩
  ·subst e';obtain⟨its,r,pl,hz⟩:=I.list hx;have hlen:=r.length;exact wpAny_truthy_list pl.isList (by simp only [II];omega) ⟨H,I.tok _,by rw [v5 r];exact q⟩
  ·subst e';obtain⟨its,r,pl,hz⟩:=I.tuple hx;have hlen:=r.length;exact truthy_tuple pl (by simp only [II];omega) ⟨H,I.tok _,by rw [v5 r];exact q⟩
  ·subst e';obtain⟨hz,hS,vs,r,m⟩:kvs.length<=OS/\(p==Po)=false/\∃vs,KV kvs vs/\s.heap.DictOf (cH X.prog X.w) p vs:=I.hok p _ hx;have hlen:kvs.length=vs.length:=Mu r;exact wpAny_truthy_dict hS m OH ⟨H,I.tok _,by rw [B7 r];exact q⟩
 | _=>exact(show False from e).elim
theorem B9(ha:PE X a ta)(he:∀whole,isTrue a X.env whole=(do let v<-whole;standAt a.pos;holding [v] (truthy v))):
 PT X a (λσ H Q=>ta σ H λx H'=>∃k,vZ X.K x H' k/\Q k H'):=by
 intro Qm s σ H Q I h;exact isTrue_plain (au (ha Qm s σ H _ I h) λv s1 uu35=>by obtain⟨x,H1,I1,r1,q1⟩:=uu35;exact B8 Qm s1 σ H1 x v Q I1 r1 q1) (he _)
theorem qL:bx X (Pu .Add) (λx y H Q=>∃i j,x= .str i/\y= .str j/\i.length+j.length<=OS/\Q (.str (i++j)) H):=by
 intro Qm s σ H x y v u Q I rx ry h;obtain⟨i,j,rfl,rfl,hz,q⟩:=h;obtain⟨t,rfl⟩:=rx;obtain⟨t',rfl⟩:=ry;exact add_str (λt' tk=>⟨.str (i++j),H,I.tok _,⟨_,rfl⟩,q⟩) hz
theorem lZ{x:V}{us:List ON}(r:aB [x] us):∃u,us=[u]/\ax x u:=by
 cases r with
 | cons r1 r2=>cases r2;exact⟨_,rfl,r1⟩
theorem pN{x y:V}{us:List ON}(r:aB [x,y] us):∃u w',us=[u,w']/\ax x u/\ax y w':=by
 cases r with
 | cons r1 r2=>
  cases r2 with
  | cons r3 r4=>cases r4;exact⟨_,_,rfl,r1,r3⟩
theorem Ca:cI X (.builtin "abs") (λxs H Q=>∃i,xs=[.int i]/\Q (.int (if i < 0 then -i else i)) H):=by
 intro Qm s σ H xs us Q I r h;obtain⟨i,rfl,q⟩:=h;obtain⟨u,rfl,t,rfl⟩:=lZ r;exact call_abs_int λu tk=>⟨.int (if i < 0 then -i else i),H,I.tok _,⟨_,rfl⟩,q⟩
theorem Cb(hc:X.calm=true):cI X (.builtin "max") (λxs H Q=>∃i j,xs=[.int i,.int j]/\Q (.int (if j > i then j else i)) H):=by
 intro Qm s σ H xs us Q I r h;obtain⟨i,j,rfl,q⟩:=h;obtain⟨u,w',rfl,⟨t,rfl⟩,⟨t',rfl⟩⟩:=pN r;refine max_two_ints (I.ok.hd hc) λh' tk k=>⟨_,H,I.kept k,?_,q⟩;by_cases hj:j > i
 ·rw [OJ hj,OJ hj];exact⟨_,rfl⟩
 ·rw [OI hj,OI hj];exact⟨_,rfl⟩
theorem tI(hc:X.calm=true):cI X (.builtin "min") (λxs H Q=>∃i j,xs=[.int i,.int j]/\Q (.int (if j < i then j else i)) H):=by
 intro Qm s σ H xs us Q I r h;obtain⟨i,j,rfl,q⟩:=h;obtain⟨u,w',rfl,⟨t,rfl⟩,⟨t',rfl⟩⟩:=pN r;refine min_two_ints (I.ok.hd hc) λh' tk k=>⟨_,H,I.kept k,?_,q⟩;by_cases hj:j < i
 ·rw [OJ hj,OJ hj];exact⟨_,rfl⟩
 ·rw [OI hj,OI hj];exact⟨_,rfl⟩
theorem pO:cI X (.type "int") (λxs H Q=>(∃i,xs=[.int i]/\Q (.int i) H)\/∃k,xs=[.bl k]/\Q (.int (if k then 1 else 0)) H):=by
 intro Qm s σ H xs us Q I r h;rcases h with⟨i,rfl,q⟩ | ⟨k,rfl,q⟩
 ·obtain⟨u,rfl,t,rfl⟩:=lZ r;exact call_int_int ⟨.int i,H,I,⟨_,rfl⟩,q⟩
 ·obtain⟨u,rfl,r1⟩:=lZ r;cases r1;exact call_int_bool ⟨.int (if k then 1 else 0),H,I.tok _,⟨_,rfl⟩,q⟩
end
structure oI (h:O3) (x dx C:OO) (mA:Str->Option ON):Prop where
 obj:h.get? x=some (K1 C dx)
 ns:h.Ns1 dx mA
 ne:dx≠x
theorem Cc{h:O3}{dx:OO}{mA:Str->Option ON}(n:h.Ns1 dx mA):∃od,h.get? dx=some od/\∀name,M8 name od=some (mA name):=by
 obtain⟨o,es,ep,ho,hd,hk,_,hm⟩:=n;refine⟨o,ho,λname=>?_⟩;have e:=hm name;unfold nsFind findBy at e;rw [<-Array.find?_toList] at e;unfold M8;rw [hd];dsimp only;split
 ·rename_i y q;rw [q] at e;exact congrArg some e
 ·rename_i q;rw [q] at e;have a:es.toList.any (·.refKey)=false:=by
   rw [NM];intro y hy;obtain⟨z,t,hkey⟩:=hk y (Nb.mp hy);simp [DictEntry.refKey,hkey]
  have a':¬es.toList.any (·.refKey)=true:=by rw [a];exact IF
  rw [OI a'];exact congrArg some e
theorem oI.look{h:O3}{x dx C:OO}{mA:Str->Option ON}(I:oI h x dx C mA):∃od,PySem.W.InstAt h x (K1 C dx) C (some od)/\∀name,M8 name od=some (mA name):=
 let ⟨od,ho,hl⟩:=Cc I.ns
 ⟨od,⟨I.obj,rfl,rfl,ho⟩,hl⟩
section
variable {prog:OZ} {w:O4} {A:O5} {E:ON->OP->Prop} {s:OP} {K:Iq} {x dx C f:OO} {mA:Str->Option ON} {name:Str} {v:ON}
theorem Cd{expr:Bool}{Q:ON->OP->Prop}(X:K.In s.heap)(I:oI s.heap x dx C mA)(hg:MM K C name=true)(hh:MA K C=true)
 (ha:JT K (.ref C) name=some none)(hv:mA name=some v)(hv':NV v=true)(h:Q v {s with toks:=s.toks+1}):
 OV (OU prog w) A (getAttr (.ref x) name expr) Q E s:=by
 obtain⟨od,J,hl⟩:=I.look;exact PySem.W.get_value X J (PySem.W.plainGet_of hg).1 (PySem.W.findObj_own hh ha rfl (by rw [hl,hv])) hv' h
theorem Cf{ns:List Str}{Q:Unit->OP->Prop}(X:K.In s.heap)(I:oI s.heap x dx C mA)
 (hs:JT K (.ref C) "__setattr__"=some (some (.builtin "object.__setattr__")))(hp:NN K C=true)(ht:MV K C name=some none)(hh:MA K C=true)
 (hw:Nr mA ns)(hsz:ns.length<=OS)
 (h:∀h',oI h' x dx C (λy=>if y=name then some v else mA y)->LP dx s.heap h'->Q () {s with heap:=h',toks:=s.toks+2}):
 OV (OU prog w) A (setAttr (.ref x) name v) Q E s:=by
 obtain⟨od,J,hl⟩:=I.look;refine PySem.W.set_plain X J hs (PySem.W.osa_open (s:={s with toks:=s.toks+1}) (r:=none) X J hp ht λb=>?_);obtain⟨cd,hc,hd'⟩:=PySem.W.any_some hh;have hx:s.heap.get? x=some ⟨.ref C,some dx,.plain,#[]⟩:=I.obj;refine OQ (OT (OQ (OQ (wpAny_loadPart hx (OQ (PySem.W.Looks.here (s:={s with toks:=s.toks+1}) (PySem.W.looks_clsIn X hc) ?_))))));rw [hd'];refine OT (a:=some dx) (OQ (OT (OQ ?_)));refine wpAny_nsSet1 (s:={s with toks:=s.toks+1}) I.ns λh' hn2 hs2=>?_;obtain⟨oD,esD,epD,hoD,Ag,hcD⟩:=hn2.count (Nr.cons name v hw);refine OQ (wpAny_lookBehind hoD (by rw [Ag];exact pastItsLine_dict (Jx hcD (by rw [IE];omega))) ?_);exact OT (h _ ⟨(hs2.2 _ (Ne.symm I.ne)).trans I.obj,hn2,I.ne⟩ hs2)
theorem Cg{R:Result->OP->Prop}{vs:List ON}{kw:List (Str×ON)}(X:K.In s.heap)(hm:MW K C=true)
 (hi:JT K (.ref C) "__init__"=some (some (.ref f)))(hf:PySem.W.typeIn K (.ref f)=some (.type "function"))
 (h:PL (OU prog w) (A.under (.builtin "type.__call__" ⟨.ref C::vs,kw⟩)) (.call (.ref f) ⟨.ref (s.heap.objs.size+1)::vs,kw⟩) (PySem.W.InitBack (s.heap.objs.size+1) R)
   {s with heap:=(s.heap.push KA).push (K1 C s.heap.objs.size)}):
 PL (OU prog w) A (.call (.ref C) ⟨vs,kw⟩) R s:=by
 obtain⟨hh,g,d,t,os⟩:=s;exact PySem.W.make_core (PySem.W.makes_of X hm) (PySem.W.looks_findIn X hi) (λself=>PySem.W.bind_fn X self hf) (.inl rfl) h
end
def cJ(f:Str)(v:V):List (Str×V)->List (Str×V)
 | []=>[(f,v)]
 | (g,x)::r=>if g=f then(g,v)::r else(g,x)::cJ f v r
theorem v7(f g:Str)(v:V):∀fs:List (Str×V),(cJ f v fs).lookup g=if g=f then some v else fs.lookup g
 | []=>by
  show Lv g [(f,v)]=_;by_cases h:g=f
  ·have hb:(g==f)=true:=beq_iff_eq.mpr h;simp only [Lv,hb,OJ h]
  ·have hb:(g==f)=false:=beq_eq_false_iff_ne.mpr h;simp only [Lv,hb,OI h]
 | (k,x)::r=>by
  have ih:=v7 f g v r;rw [show cJ f v ((k,x)::r)=(if k=f then(k,v)::r else(k,x)::cJ f v r) from rfl];by_cases hk:k=f
  ·rw [OJ hk];by_cases h:g=k
   ·have hb:(g==k)=true:=beq_iff_eq.mpr h;simp only [Lv,hb,OJ (h.trans hk)]
   ·have hb:(g==k)=false:=beq_eq_false_iff_ne.mpr h;simp only [Lv,hb,OI (λe:g=f=>h (e.trans hk.symm))]
  ·rw [OI hk];by_cases h:g=k
   ·have hb:(g==k)=true:=beq_iff_eq.mpr h;simp only [Lv,hb,OI (λe:g=f=>hk (h.symm.trans e))]
   ·have hb:(g==k)=false:=beq_eq_false_iff_ne.mpr h;simp only [Lv,hb];exact ih
theorem tJ(f:Str)(v:V):∀fs:List (Str×V),f∈(cJ f v fs).map (·.1)/\∀g,g∈fs.map (·.1)->g∈(cJ f v fs).map (·.1)
 | []=>⟨by simp [cJ],λg h=>by simp at h⟩
 | (k,x)::r=>by
  obtain⟨i1,i2⟩:=tJ f v r;rw [show cJ f v ((k,x)::r)=(if k=f then(k,v)::r else(k,x)::cJ f v r) from rfl];by_cases hk:k=f
  ·rw [OJ hk];subst hk;exact⟨OL,λg h=>by simpa using h⟩
  ·rw [OI hk];refine⟨?_,λg h=>?_⟩
   ·rw [IA];exact Jm _ i1
   ·rw [IA] at h⊢;rcases IP.mp h with e | e
    ·exact IP.mpr (.inl e)
    ·exact Jm _ (i2 g e)
theorem v9(f:Str)(v:V):∀fs:List (Str×V),(cJ f v fs).length<=fs.length+1
 | []=>by simp [cJ]
 | (k,x)::r=>by
  have ih:=v9 f v r;rw [show cJ f v ((k,x)::r)=(if k=f then(k,v)::r else(k,x)::cJ f v r) from rfl];by_cases hk:k=f
  ·rw [OJ hk,IE,IE];omega
  ·rw [OI hk,IE,IE];omega
theorem mq.some_of{v:V}{o:Option ON}(r:mq (some v) o):∃u,o=some u/\ax v u:=by
 cases o with
 | none=>exact(show False from r).elim
 | some u=>exact⟨u,rfl,r⟩
theorem Ci{v:V}{u:ON}(r:ax v u):NV u=true:=by
 cases v with
 | non=>cases (show u=Ln from r);rfl
 | bl b=>cases (show u=Lh b from r);rfl
 | int i=>obtain⟨t,e⟩:=(show ∃t,u=Lm i t from r);cases e;rfl
 | str x=>obtain⟨t,e⟩:=(show ∃t,u=La x t from r);cases e;rfl
 | byt b=>obtain⟨t,e⟩:=(show ∃t,u=Ou b t from r);cases e;rfl
 | flt b=>obtain⟨t,e⟩:=(show ∃t,u=Ov b t from r);cases e;rfl
 | ref a=>cases (show u=Jb a from r);rfl
 | ty n=>cases (show u=N4 n from r);rfl
section
variable {P:OZ} {w:O4} {H H':Hp} {h h':O3} {a C dx:OO} {fs fs':List (Str×V)}
theorem wa(hok:bf P w H h)(e:H a=some (.ins C dx fs)):∃mA,oI h a dx C mA/\(∀f,mq (fs.lookup f) (mA f))/\Nr mA (fs.map (·.1))/\fs.length<=1000/\H dx=some (.own a):=by
 obtain⟨d,z,ne,ob,mA,n,r,q⟩:=(show bF P w H h a (.ins C dx fs) from hok a _ e);exact⟨mA,⟨ob,n,ne⟩,r,q,z,d⟩
end
structure my (K:Iq) (C:OO):Prop where
 pg:MM K C Str.empty=true
 hd:MA K C=true
 po:NN K C=true
 sa:JT K (.ref C) "__setattr__"=some (some (.builtin "object.__setattr__"))
theorem my.get{K:Iq}{C:OO}(c:my K C)(f:Str):MM K C f=true:=c.pg
def NoAttr(K:Iq)(C:OO)(f:Str):Prop:=JT K (.ref C) f=some none
theorem NoAttr.taker{K:Iq}{C:OO}{f:Str}(n:NoAttr K C f):MV K C f=some none:=by
 unfold MV;rw [show JT K (.ref C) f=some none from n];rfl
section
variable {X:Cx} {Qm:List (OO×Obj)} {σ:St} {H:Hp} {s:OP} {a C dx:OO} {fs:List (Str×V)} {f:Str} {v:V} {A:O5} {E:ON->OP->Prop}
theorem Cj{b:Bool}{Q:ON->OP->Prop}(I:aa X Qm σ H s)(e:H a=some (.ins C dx fs))(c:my X.K C)(n:NoAttr X.K C f)(l:fs.lookup f=some v)
 (h:∀u s',aa X Qm σ H s'->ax v u->Q u s'):OV (OU X.prog X.w) A (getAttr (.ref a) f b) Q E s:=by
 obtain⟨mA,O,r,_,_,_⟩:=wa I.hok e;obtain⟨u,hu,ru⟩:=mq.some_of (v:=v) (o:=mA f) (by rw [<-l];exact r f);exact Cd I.kIn O (c.get f) c.hd n hu (Ci ru) (h u _ (I.tok _) ru)
theorem Ck{y:V}{u:ON}{Q:Unit->OP->Prop}(I:aa X Qm σ H s)(e:H a=some (.ins C dx fs))(c:my X.K C)(n:NoAttr X.K C f)(hl:fs.length < 1000)(ry:ax y u)
 (h:∀s',aa X Qm σ (ak H a (.ins C dx (cJ f y fs))) s'->Q () s'):OV (OU X.prog X.w) A (setAttr (.ref a) f u) Q E s:=by
 obtain⟨mA,O,r,wi,_,ho⟩:=wa I.hok e;have hz:(fs.map (·.1)).length<=OS:=by rw [Iw,O8];omega
 refine Cf I.kIn O c.sa c.po n.taker c.hd wi hz λh' O' sb=>h _ ?_;have hd:∃o,h'.get? dx=some o:=let ⟨o,_,_,e',_⟩:=O'.ns;⟨o,e'⟩
 refine I.write (x:=a) (e:=dx) (by rw [e];exact Km) (.inr ho) (λb q hb z=>(sb.2 b hb).trans z) hd ?_;refine⟨by rw [ay O.ne];exact ho,?_,O.ne,O'.obj,_,O'.ns,λg=>?_,λg hg=>?_⟩
 ·have:=v9 f y fs;omega
 ·show mq ((cJ f y fs).lookup g) (if g=f then some u else mA g);rw [v7];by_cases q:g=f
  ·rw [OJ q,OJ q];exact ry
  ·rw [OI q,OI q];exact r g
 ·by_cases q:g=f
  ·rw [q];exact(tJ f y fs).1
  ·refine(tJ f y fs).2 g (wi g λz=>hg ?_);show(if g=f then some u else mA g)=none;rw [OI q];exact z
theorem aa.made(I:aa X Qm σ H s):aa X Qm σ (ak (ak H s.heap.objs.size (.own (s.heap.objs.size+1))) (s.heap.objs.size+1) (.ins C s.heap.objs.size []))
 {s with heap:=(s.heap.push KA).push (K1 C s.heap.objs.size)}:=by
 have e1:(s.heap.push KA).get? s.heap.objs.size=some KA:=Jh s.heap rfl;have e2:((s.heap.push KA).push (K1 C s.heap.objs.size)).get? (s.heap.objs.size+1)=some (K1 C s.heap.objs.size):=by
  have:=Jh (s.heap.push KA) (o:=K1 C s.heap.objs.size) rfl
  rwa [LS] at this
 have e3:(s.heap.push KA).Ns s.heap.objs.size (λ_=>none):=⟨KA,#[],_,e1,rfl,(λe he=>absurd he OL),λ_=>rfl⟩;have I1:=I.laid (a:=s.heap.objs.size) (o:= .own (s.heap.objs.size+1)) (h':=s.heap.push KA) (t':=s.toks) (λb u q=>Iz _ q) (IB _) ⟨_,e1⟩;refine I1.laid (a:=s.heap.objs.size+1) (o:= .ins C s.heap.objs.size []) (t':=s.toks) (λb u q=>Iz _ q) (Nu (LS _ _)) ?_;have ne:s.heap.objs.size≠s.heap.objs.size+1:=IZ (MN _);refine⟨by rw [ay ne,bg],J1 _,ne,e2,λ_=>none,(Heap.Ns1.of_empty e3).at λo q=>Iz _ q,λ_=>Km,λy hy=>absurd rfl hy⟩
theorem Cm{prog:OZ}{w:O4}{env:Env}{e:OR}{f:Str}{pos:Pos}{s:OP}{Q:ON->OP->Prop}(hb:Px e f env (eval e env)=eval e env)
 (h:OV (OU prog w) A (eval e env) (λo s₁=>OV (OU prog w) A (getAttr o f true) Q E s₁) E s):OV (OU prog w) A (eval (.Attribute e f pos) env) Q E s:=
 Attribute_any_ h (by rw [arm_eval_Attribute,hb])
end
def Cn(K:Iq)(ta:TE)(f:Str):TE:=λσ H Q=>ta σ H λx H1=>∃a C dx fs v,x= .ref a/\H1 a=some (.ins C dx fs)/\my K C/\NoAttr K C f/\fs.lookup f=some v/\Q v H1
def Co(K:Iq)(ta tv:TE)(f:Str):TS:=λD σ H=>tv σ H λy H1=>ta σ H1 λx H2=>∃a C dx fs,x= .ref a/\H2 a=some (.ins C dx fs)/\my K C/\NoAttr K C f/\fs.length < 1000/\
 D.nx σ (ak H2 a (.ins C dx (cJ f y fs)))
section
variable {X:Cx} {o e value:OR} {f:Str} {pos pos' tpos:Pos} {ta tv:TE}
theorem Cp(he:PE X e ta)(hb:Px e f X.env (eval e X.env)=eval e X.env):PE X (.Attribute e f pos) (Cn X.K ta f):=by
 intro Qm s σ H Q I h;refine Cm hb (au (he Qm s σ H _ I h) λu s1 ⟨x,H1,I1,rx,a,C,dx,fs,v,ex,ea,c,n,l,q⟩=>?_);subst ex;obtain rfl:u=Jb a:=rx;exact Cj I1 ea c n l λu' s2 I2 ru=>⟨v,H1,I2,ru,q⟩
theorem Cq(ha:PE X o ta)(hv:PE X value tv)(hs:Pg value (some (.Attribute o f pos')) pos.line X.env=pure false):PS X (.Assign [.Attribute o f pos'] value pos) (Co X.K ta tv f):=by
 intro Qm s σ H D I h;refine plainObj_wpAny_Assign_Attribute (au (hv Qm s σ H _ I h) λu s1 ⟨y,H1,I1,ry,q⟩=>au (ha Qm s1 σ H1 _ I1 q) λov s2 ⟨x,H2,I2,rx,a,C,dx,fs,ex,ea,c,n,l,q2⟩=>?_) hs;subst ex;obtain rfl:ov=Jb a:=rx;exact Ck I2 ea c n l ry λs3 I3=>⟨σ,_,I3,q2⟩
end
structure aK (k:Nat) (A:O5):Prop where
 hd:A.handled=none
 dp:A.depth+3*k+5 < recursionLimit
 un:A.units+16*k+200 < PZ
theorem aK.mono{j k:Nat}{A:O5}(r:aK k A)(h:j<=k):aK j A:=⟨r.hd,by have:=r.dp;omega,by have:=r.un;omega⟩
theorem aK.deeper{k:Nat}{A:O5}(r:aK (k+1) A)(env:Env):aK k (A.deeper env):=
 ⟨r.hd,by have:=r.dp;show A.depth+1+3*k+5 < _;omega,by have:=r.un;show A.units+3+16*k+200 < _;omega⟩
theorem aK.in1{k:Nat}{A:O5}(r:aK (k+1) A):aK k A.in1:=
 ⟨r.hd,by have:=r.dp;show A.depth+3*k+5 < _;omega,by have:=r.un;show A.units+1+16*k+200 < _;omega⟩
theorem Cr{A:O5}{C:OO}{us:List ON}{kw:List (Str×ON)}:(A.under (.builtin "type.__call__" ⟨.ref C::us,kw⟩)).depth=A.depth+1:=by
 first | rfl | simp [Nv,Code.weight,Code.isCreation,Code.isGuard,Code.isCaller,Oy,Nw,guardIds]
theorem Cs{A:O5}{C:OO}{us:List ON}{kw:List (Str×ON)}:(A.under (.builtin "type.__call__" ⟨.ref C::us,kw⟩)).units=A.units+1:=by
 first | rfl | simp [Nv,Code.cUnits,Oy,Nw]
theorem aK.make{k:Nat}{A:O5}(r:aK (k+1) A)(C:OO)(us:List ON)(kw:List (Str×ON)):aK k (A.under (.builtin "type.__call__" ⟨.ref C::us,kw⟩)):=
 ⟨r.hd,by have:=r.dp;rw [Cr];omega,by have:=r.un;rw [Cs];omega⟩
theorem aK.depth{k:Nat}{A:O5}(r:aK k A):A.depth < recursionLimit:=by have:=r.dp;omega
theorem aK.units{k:Nat}{A:O5}(r:aK k A):A.units+64 < PZ:=by have:=r.un;omega
theorem aK.units0{k:Nat}{A:O5}(r:aK k A):A.units < PZ:=by have:=r.un;omega
def tK:TA:=λ_ H Q=>Q [] H
def tL(ta:TE)(tr:TA):TA:=λσ H Q=>ta σ H λx H1=>tr σ H1 λxs H2=>Q (x::xs) H2
section
variable {X:Cx} {e:OR} {es:List OR} {te:TE} {t:TA} {pos:Pos}
theorem bP:PA X [] tK:=λ_ _ _ _ H Q I h=>NO ⟨[],H,I,.nil,h⟩
theorem aP(ha:PE X e te)(hr:PA X es t)(hs:OW (e::es) X.env=(false,eval e X.env)::OW es X.env:=by rfl):PA X (e::es) (tL te t):=by
 intro pos Qm s σ H Q I h;rw [hs];show OV _ _ (spliced ((false,eval e X.env)::Pd pos (OW es X.env))) _ _ s;refine Nx (au (ha Qm s σ H _ I h) λu s1 ⟨x,H1,I1,r1,q1⟩=>?_);exact au (hr pos Qm s1 σ H1 _ I1 q1) λus s2 uu40=>by obtain⟨xs,H2,I2,r2,q2⟩:=uu40;exact⟨x::xs,H2,I2,.cons r1 r2,q2⟩
def tM(t:TA):TE:=λσ H Q=>t σ H λxs H1=>xs.length<=OS/\∀p,H1 p=none->Q (.ref p) (ak H1 p (.tup xs))
def tN(t:TA):TE:=λσ H Q=>t σ H λxs H1=>xs.length<=OS/\∀p,H1 p=none->Q (.ref p) (ak H1 p (.lst xs))
theorem tO{x1}(h:PA X es t):PE X (.Tuple es x1 pos) (tM t):=by
 intro Qm s σ H Q I hq;refine wpAny_Tuple_spliced (au (h pos Qm s σ H _ I hq) λus s1 ⟨xs,H1,I1,r,z,q⟩=>⟨by rw [<-r.length];exact z,?_⟩);have hf:H1 s1.heap.objs.size=none:=I1.hok.fresh (IB _);refine⟨.ref s1.heap.objs.size,ak H1 s1.heap.objs.size (.tup xs),I1.laid (t':=s1.toks) (λb u e=>Iz _ e) (IB _) ?_,rfl,q _ hf⟩;exact⟨z,us,r,⟨_,Jh _ rfl,rfl,_,rfl⟩⟩
theorem Ct(h:PA X es t):PE X (.List es pos) (tN t):=by
 intro Qm s σ H Q I hq;refine wpAny_List_spliced (au (h pos Qm s σ H _ I hq) λus s1 ⟨xs,H1,I1,r,z,q⟩=>⟨by rw [<-r.length];exact z,?_⟩);have hf:H1 s1.heap.objs.size=none:=I1.hok.fresh (IB _);refine⟨.ref s1.heap.objs.size,ak H1 s1.heap.objs.size (.lst xs),I1.laid (t':=s1.toks) (λb u e=>Iz _ e) (IB _) ?_,rfl,q _ hf⟩;exact⟨z,us,0,r,Jh _ rfl⟩
end
abbrev Sp:=List V->Hp->VK->XK->Prop
abbrev dJ:=List Env->Hp->OP->XK->ON->OP->Prop
structure l3 (P:OZ) (w:O4) (K:Iq) (mg:Str->Option ON) (base:O3) (A:O5) (outer:List Env) (s:OP) (H:Hp):Prop where
 frames:A.frames=some outer
 mod:Mod K mg base
 bs:∀b o,base.get? b=some o->s.heap.get? b=some o/\H b=none
 bsz:base.objs.size<=s.heap.objs.size
 funs:s.heap.FunFrames base outer
 frf:∀b∈aI outer,H b=none
 hok:bf P w H s.heap
 bare:PX s.gens
def CE(outer:List Env)(P:OZ)(w:O4)(H:Hp)(s:OP)(Q:VK)(u:ON)(s':OP):Prop:=
 ∃v H',s'.os=s.os/\PX s'.gens/\Un (aI outer) [] H H' s.heap s'.heap/\bf P w H' s'.heap/\ax v u/\Q v H'
def CR(CX:dJ)(outer:List Env)(P:OZ)(w:O4)(H:Hp)(s:OP)(Q:VK)(E:XK)(r:Result)(s':OP):Prop:=
 match r with
 | .ok (.ret u)=>CE outer P w H s Q u s'
 | .ok _=>False
 | .error e=>CX outer H s E e s'
structure az (P:OZ) (w:O4) (K:Iq) (mg:Str->Option ON) (base:O3) (CX:dJ) (k:Nat) (f:OO) (fd:OX) (ps:List Str) (sp:Sp):Prop where
 len:∀vs H Q E,sp vs H Q E->vs.length=ps.length
 run:∀(A:O5)(outer:List Env)(s:OP)(H:Hp)(args:Args)(us:List ON)(vs:List V)(Q:VK)(E:XK),aK k A->l3 P w K mg base A outer s H->BindsTo s fd args (ps.zip us)->aB vs us->sp vs H Q E->
  PL (OU P w) A (.call (.ref f) args) (CR CX outer P w H s Q E) s
theorem az.imp{P:OZ}{w:O4}{K:Iq}{mg:Str->Option ON}{base:O3}{CX:dJ}{k:Nat}{f:OO}{fd:OX}{ps:List Str}{sp sp':Sp}(F:az P w K mg base CX k f fd ps sp)
 (h:∀vs H Q E,sp' vs H Q E->sp vs H Q E):az P w K mg base CX k f fd ps sp':=
 ⟨λvs H Q E q=>F.len vs H Q E (h _ _ _ _ q),λA outer s H args us vs Q E hr he hb hv hs=>F.run A outer s H args us vs Q E hr he hb hv (h _ _ _ _ hs)⟩
theorem l3.make{P:OZ}{w:O4}{K:Iq}{mg:Str->Option ON}{base:O3}{A:O5}{outer:List Env}{s:OP}{H:Hp}(e:l3 P w K mg base A outer s H)(C:OO)(us:List ON)(kw:List (Str×ON)):
 l3 P w K mg base (A.under (.builtin "type.__call__" ⟨.ref C::us,kw⟩)) outer s H:=⟨by first | exact e.frames | (simpa [Nv,Code.envs,Nw,pushEnvs] using e.frames),e.mod,e.bs,e.bsz,e.funs,e.frf,e.hok,e.bare⟩
theorem l3.in1{P:OZ}{w:O4}{K:Iq}{mg:Str->Option ON}{base:O3}{A:O5}{outer:List Env}{s:OP}{H:Hp}(e:l3 P w K mg base A outer s H):
 l3 P w K mg base A.in1 outer s H:=⟨e.frames,e.mod,e.bs,e.bsz,e.funs,e.frf,e.hok,e.bare⟩
section
variable {X:Cx} {Qm:List (OO×Obj)} {σ:St} {H:Hp} {s s':OP}
theorem aa.env0(I:aa X Qm σ H s):l3 X.prog X.w X.K X.mg X.base X.A X.stack s H:=
 ⟨I.ok.frames,I.ok.mod,I.bs,Jx I.ok.bsz I.sz,I.stack,I.stkFree,I.hok,I.bare⟩
theorem aa.after{Q:VK}{u:ON}(I:aa X Qm σ H s)(h:CE X.stack X.prog X.w H s Q u s'):EP X Qm σ Q u s':=by
 obtain⟨v,H',os,bare,un,hok,r,q⟩:=h;obtain⟨hh,g,d,t,os'⟩:=s';obtain rfl:os'=s.os:=os;exact⟨v,H',I.call (h':=hh) (g':=g) (d':=d) (t':=t) (ch:=[]) un hok bare (λb z=>absurd z OL),r,q⟩
end
def pP(sp:Sp)(dvs:List V)(E:XK)(t:TA):TE:=λσ H Q=>t σ H λvs H1=>sp (vs++dvs) H1 Q E
def wb(C:OO)(sp:Sp)(dvs:List V)(E:XK)(t:TA):TE:=λσ H Q=>t σ H λvs H1=>∀x dx,H1 x=none->H1 dx=none->dx≠x->
 sp (.ref x::(vs++dvs)) (ak (ak H1 dx (.own x)) x (.ins C dx [])) (λv H2=>v= .non/\Q (.ref x) H2) E
def cB(K:Iq)(fd:OX)(ps:List Str)(ds:List ON):Prop:=
 ∀(s:OP)(us:List ON),K.In s.heap->(us++ds).length=ps.length->BindsTo s fd ⟨us,[]⟩ (ps.zip (us++ds))
theorem cB.all{K:Iq}{fd:OX}{ps:List Str}(h:∀us:List ON,us.length=ps.length->bindArgs fd ⟨us,[]⟩=pure (ps.zip us)):cB K fd ps []:=λs us _ hl=>by
 rw [IW] at hl⊢;exact .of_eq (h us hl)
def nR(CX:dJ)(X:Cx)(E:XK):Prop:=∀(Qm:List (OO×Obj))(σ:St)(H:Hp)(s:OP)(e:ON)(s':OP),aa X Qm σ H s->CX X.stack H s E e s'->X.xe e s'
section
variable {X:Cx} {CX:dJ} {k:Nat} {f C:OO} {fd:OX} {ps:List Str} {sp:Sp} {dvs:List V} {ds:List ON} {E:XK} {x m:Str} {p pos apos:Pos} {e o:OR} {es:List OR} {ta:TE} {t:TA}
theorem Cu{Qm:List (OO×Obj)}{σ:St}{H:Hp}{s:OP}{Q:VK}{us:List ON}{vs:List V}(F:az X.prog X.w X.K X.mg X.base CX k f fd ps sp)(hr:aK k X.A)(hb:cB X.K fd ps ds)(hd:aB dvs ds)(hx:nR CX X E)
 (I:aa X Qm σ H s)(r:aB vs us)(h:sp (vs++dvs) H Q E):OV (OU X.prog X.w) X.A (call (.ref f) us) (EP X Qm σ Q) X.xe s:=by
 have r2:aB (vs++dvs) (us++ds):=r.append hd;have hl:(us++ds).length=ps.length:=by rw [<-r2.length];exact F.len _ _ _ _ h
 refine wpAny_call (PF (F.run X.A X.stack s H ⟨us,[]⟩ (us++ds) (vs++dvs) Q E hr I.env0 (hb s us I.kIn hl) r2 h) λr s' hq=>?_);cases r with
 | error e=>exact hx Qm σ H s e s' I hq
 | ok fl=>
  cases fl with
  | ret u=>exact I.after hq
  | next=>exact JQ hq
  | brk=>exact JQ hq
  | cont=>exact JQ hq
theorem tP(F:az X.prog X.w X.K X.mg X.base CX k f fd ps sp)(hr:aK k X.A)(hg:Gl X x)(hm:X.mg x=some (.ref f))(hk:KQ X.K (.ref f)=true)(hb:cB X.K fd ps ds)(hd:aB dvs ds)(hx:nR CX X E)
 (ha:PA X (e::es) t)(hdb:(x==("__debug__":Str))=false:=by decide)(he:OW (e::es) X.env=(false,eval e X.env)::OW es X.env:=by rfl)(hpl:(Pd pos (OW es X.env)).any (·.1)=false:=by rfl):
 PE X (.Call (.Name x p) (e::es) [] pos) (pP sp dvs E t):=by
 intro Qm s σ H Q I h;refine Pn (nN I hg hm ?_ hdb);refine Ms (h₀:=X.base) I.ok.mod.kin hk (au (ha pos Qm s σ H _ I h) λus s1 ⟨vs,H1,I1,r,q⟩=>⟨I1.kIn,?_⟩) he hpl;exact Cu F hr hb hd hx I1 r q
structure Mk (K:Iq) (C f:OO):Prop where
 makes:MW K C=true
 init:JT K (.ref C) "__init__"=some (some (.ref f))
 fn:Ny K (.ref f)=true
 kp:KQ K (.ref C)=true
theorem Cv{Qm:List (OO×Obj)}{σ:St}{H:Hp}{s:OP}{Q:VK}{us:List ON}{vs:List V}(M:Mk X.K C f)(F:az X.prog X.w X.K X.mg X.base CX k f fd ps sp)(hr:aK (k+1) X.A)(hb:cB X.K fd ps ds)(hd:aB dvs ds)
 (hx:nR CX X E)(I:aa X Qm σ H s)(r:aB vs us)
 (h:∀x dx,H x=none->H dx=none->dx≠x->sp (.ref x::(vs++dvs)) (ak (ak H dx (.own x)) x (.ins C dx [])) (λv H2=>v= .non/\Q (.ref x) H2) E):
 OV (OU X.prog X.w) X.A (call (.ref C) us) (EP X Qm σ Q) X.xe s:=by
 have hq:=h (s.heap.objs.size+1) s.heap.objs.size (I.hok.fresh (Nat.le_succ _)) (I.hok.fresh (IB _)) (IZ (MN _));have I2:=aa.made (C:=C) I;have r2:aB (V.ref (s.heap.objs.size+1)::(vs++dvs)) (Jb (s.heap.objs.size+1)::(us++ds)):= .cons rfl (r.append hd);have hl:(Jb (s.heap.objs.size+1)::us++ds).length=ps.length:=by
  have e:=r2.length;rw [F.len _ _ _ _ hq] at e;exact e.symm
 refine wpAny_call (Cg (f:=f) I.kIn M.makes M.init (beq_iff_eq.mp M.fn) (PF (F.run _ X.stack _ _ ⟨Jb (s.heap.objs.size+1)::us,[]⟩ (Jb (s.heap.objs.size+1)::(us++ds)) _ _ E (hr.make C us [])
  (I2.env0.make C us []) (hb _ (Jb (s.heap.objs.size+1)::us) I2.kIn hl) r2 hq) λr s' hq'=>?_))
 cases r with
 | error e=>exact hx Qm σ _ _ e s' I2 hq'
 | ok fl=>
  cases fl with
  | ret u=>
   obtain⟨v,H',I3,rv,ev,q3⟩:=I2.after hq';subst ev;exact⟨rv,⟨V.ref (s.heap.objs.size+1),H',I3,rfl,q3⟩⟩
  | next=>exact JQ hq'
  | brk=>exact JQ hq'
  | cont=>exact JQ hq'
theorem wc(M:Mk X.K C f)(F:az X.prog X.w X.K X.mg X.base CX k f fd ps sp)(hr:aK (k+1) X.A)(hg:Gl X x)(hm:X.mg x=some (.ref C))(hb:cB X.K fd ps ds)(hd:aB dvs ds)(hx:nR CX X E)
 (ha:PA X (e::es) t)(hdb:(x==("__debug__":Str))=false:=by decide)(he:OW (e::es) X.env=(false,eval e X.env)::OW es X.env:=by rfl)(hpl:(Pd pos (OW es X.env)).any (·.1)=false:=by rfl):
 PE X (.Call (.Name x p) (e::es) [] pos) (wb C sp dvs E t):=by
 intro Qm s σ H Q I h;refine Pn (nN I hg hm ?_ hdb);refine Ms (h₀:=X.base) I.ok.mod.kin M.kp (au (ha pos Qm s σ H _ I h) λus s1 ⟨vs,H1,I1,r,q⟩=>⟨I1.kIn,?_⟩) he hpl;exact Cv M F hr hb hd hx I1 r q
end
section
variable {X:Cx} {CX:dJ} {k:Nat} {f C:OO} {fd:OX} {ps ks:List Str} {sp:Sp} {E:XK} {x m:Str} {p pos apos kpos:Pos} {e o:OR} {es:List OR} {kws:List P6} {te ta:TE} {t tk:TA} {nm:Option Str}
variable {g:List ON->List ON->List ON} {gV:List V->List V->List V}
end
structure bb (N P:List Str) (sc:Pc):Prop where
 kind:sc.kind= .function
 co:sc.isCoroutine=false
 gen:sc.isGenerator=false
 nd:N.Nodup
 pre:N.take P.length=P
 par:∀x∈P,sc.names.lookup x=some .local\/sc.names.lookup x=some .cell
 nofree:∀y∈sc.names,y.2≠ .free
theorem we{kindOf:Str->Option Pk}{x:Str}:∀{binds:List (Str×ON)}{m:Str->Option ON},(∀v,(x,v)∉ binds)->bindL kindOf binds m x=m x
 | [],_,_=>rfl
 | (n,v)::r,m,h=>by
  unfold bindL;rw [we λw hw=>h w (Jm _ hw)];split
  ·have:x≠n:=by rintro rfl;exact h v KZ
   simp [this]
  ·rfl
theorem wj{kindOf:Str->Option Pk}{x:Str}:∀{binds:List (Str×ON)}{m:Str->Option ON},(∀v,(x,v)∉ binds)->bindC kindOf binds m x=m x
 | [],_,_=>rfl
 | (n,v)::r,m,h=>by
  unfold bindC;rw [wj λw hw=>h w (Jm _ hw)];split
  ·rfl
  ·have:x≠n:=by rintro rfl;exact h v KZ
   simp [this]
theorem wk{kindOf:Str->Option Pk}{x:Str}{v:ON}:∀{P:List Str}{vs:List ON}{i:Nat}{m:Str->Option ON},P.Nodup->P[i]?=some x->vs[i]?=some v->kindOf x=some .local->
 bindL kindOf (P.zip vs) m x=some v
 | [],_,_,_,_,h,_,_=>by simp at h
 | _::_,[],_,_,_,_,h,_=>by simp at h
 | p::P,w::vs,0,m,nd,h1,h2,hk=>by
  simp at h1 h2;subst h1;subst h2;show bindL kindOf ((p,w)::P.zip vs) m p=_;unfold bindL;rw [we λv hv=>(K2.mp nd).1 (MX hv).1,OJ hk];simp
 | p::P,w::vs,i+1,m,nd,h1,h2,hk=>by
  show bindL kindOf ((p,w)::P.zip vs) m x=_;unfold bindL;exact wk (i:=i) (K2.mp nd).2 (by simpa using h1) (by simpa using h2) hk
theorem wm{kindOf:Str->Option Pk}{x:Str}{v:ON}:∀{P:List Str}{vs:List ON}{i:Nat}{m:Str->Option ON},P.Nodup->P[i]?=some x->vs[i]?=some v->kindOf x≠some .local->
 bindC kindOf (P.zip vs) m x=some v
 | [],_,_,_,_,h,_,_=>by simp at h
 | _::_,[],_,_,_,_,h,_=>by simp at h
 | p::P,w::vs,0,m,nd,h1,h2,hk=>by
  simp at h1 h2;subst h1;subst h2;show bindC kindOf ((p,w)::P.zip vs) m p=_;unfold bindC;rw [wj λv hv=>(K2.mp nd).1 (MX hv).1,OI hk];simp
 | p::P,w::vs,i+1,m,nd,h1,h2,hk=>by
  show bindC kindOf ((p,w)::P.zip vs) m x=_;unfold bindC;exact wm (i:=i) (K2.mp nd).2 (by simpa using h1) (by simpa using h2) hk
def start(N:List Str)(vs:List V):St:=vs.map some++IJ (N.length - vs.length) none
def aX(CX:dJ)(P:OZ)(w:O4)(K:Iq)(mg:Str->Option ON)(base:O3)(N:List Str)(qual:Str)(scope:Pc)(f:OO)(cd:ON)(A:O5)(outer:List Env)(s:OP)(H:Hp)(E:XK):Cx where
 prog:=P
 w:=w
 K:=K
 mg:=mg
 base:=base
 A:=A.deeper (Pw qual scope s.heap.objs.size f cd)
 N:=N
 s₀:=s
 H₀:=H
 env:=Pw qual scope s.heap.objs.size f cd
 outer:=outer
 stack:=Pw qual scope s.heap.objs.size f cd::outer
 ex:=[]
 calm:=true
 fn:=λ_=>true
 pn:=[]
 xe:=λe s'=>OV (OU P w) (A.deeper (Pw qual scope s.heap.objs.size f cd)) (leaving (Pw qual scope s.heap.objs.size f cd) e) (λ_ s''=>CX outer H s E e s'') (λe' s''=>CX outer H s E e' s'') s'
theorem wq{sc:Pc}{n:Nat}{x:Str}(h:sc.names.lookup x=some .cell):∃c,(Ph n sc.names []).lookup x=some c:=by
 have q:=L5 sc.names n [] (.inl h);exact K3.mp q
theorem Cw{CX:dJ}{P:OZ}{w:O4}{K:Iq}{mg:Str->Option ON}{base:O3}{N ps:List Str}{qual:Str}{scope:Pc}{f:OO}{cd:ON}{A:O5}{outer:List Env}{s s1:OP}{H:Hp}{E:XK}{us:List ON}{vs:List V}
 (S:bb N ps scope)(hd:A.handled=none)(e0:l3 P w K mg base A outer s H)(hl:vs.length=ps.length)(r:aB vs us)
 (x:InCallC s s.heap.objs.size (bindL (Pw qual scope s.heap.objs.size f cd).kindOf (ps.zip us) λ_=>none) (Ph (s.heap.objs.size+1) scope.names []) (bindC (Pw qual scope s.heap.objs.size f cd).kindOf (ps.zip us) λ_=>none) s1):
 aa (aX CX P w K mg base N qual scope f cd A outer s H E) [] (start N vs) H s1:=by
 have hpl:ps.length<=N.length:=by have:=congrArg L6 S.pre;rw [KW] at this;omega
 obtain⟨h1,tk,rfl,hk⟩:=x.done;have noA:∀b:OO,b ∉ (aX CX P w K mg base N qual scope f cd A outer s H E).ex:=λb z=>absurd (show b∈([]:List OO) from z) OL;refine⟨⟨e0.mod,S.kind,rfl,rfl,IB _,λy z c h1 h2=>?_,λy hy=>?_,λy c _ h=>?_,λ_=>hd,Nc e0.frames,.inr ⟨rfl,rfl⟩,λb z=>absurd z (noA b),e0.bs,e0.bsz,λb _ _=>noA b,λb z=>absurd z (noA b),e0.funs,e0.frf⟩,
  rfl,e0.bare,Un.kept hk,⟨_,x.toInCall.ns,λi y v h1 h2 h3=>?_⟩,λy c h=>⟨_,x.cell y c h⟩,e0.hok.fresh (IB _),λy c h=>?_,λp hp=>absurd (show p∈([]:List (OO×Obj)) from hp) OL,e0.hok.kept hk,?_⟩
 ·exact name_of_addr x.apart (J6 h1) (J6 h2)
 ·have hy:scope.names.lookup y=some .cell\/scope.names.lookup y=some .free:=hy;rcases hy with hy | hy
  ·exact wq hy
  ·exact absurd rfl (S.nofree _ (J6 hy))
 ·exact LO (x.above y c (J6 h))
 ·have hi:i < vs.length:=by
   unfold start at h2;by_cases hi:i < vs.length
   ·exact hi
   ·rw [Le (by simpa using hi)] at h2;rw [Ll] at h2;split at h2 <;> cases h2
  have ha:vs[i]?=some v:=by
   unfold start at h2;rw [K0 (by simpa using hi),IS] at h2;cases e:vs[i]? with
   | none=>rw [e] at h2;cases h2
   | some a=>rw [e] at h2;cases h2;rfl
  obtain⟨u,hu,rv⟩:=r.get ha;have hp:ps[i]?=some y:=by
   rw [<-S.pre,List.getElem?_take_of_lt OH];exact h1
  have ndP:ps.Nodup:=by rw [<-S.pre];exact S.nd.sublist (MB _ _)
  refine⟨u,rv,?_⟩;rcases S.par y (Jj hp) with k | k
  ·exact .inl ⟨k,wk ndP hp hu k⟩
  ·obtain⟨c,e⟩:=wq (n:=s.heap.objs.size+1) k;refine .inr ⟨.inl k,c,e,?_⟩;have q:=x.cell y c e;rw [wm ndP hp hu (by show scope.names.lookup y≠_;rw [k];decide)] at q;exact q
 ·exact e0.hok.fresh (LO (x.above y c (J6 h)))
 ·unfold start;show _=N.length;rw [Js,Iw,Lc];omega
theorem tQ{CX:dJ}{P:OZ}{w:O4}{K:Iq}{mg:Str->Option ON}{base:O3}{k:Nat}{f:OO}{name qual:Str}{params:Qb}{body:List O6}{scope:Pc}{dV kV doc pm cdv ct oc:ON}{an od:Option OO}
 {osl:Array (Option ON)}{N ps:List Str}{sp:Sp}(lk:K.lookup f=some ⟨oc,od,.func (KJ name qual params body scope dV kV doc pm an cdv ct),osl⟩)(hcd:LU K cdv qual=true)(S:bb N ps scope)
 (len:∀vs H Q E,sp vs H Q E->vs.length=ps.length)
 (hbody:∀(A:O5) (outer:List Env) (s:OP) (H:Hp) (vs:List V) (Q:VK) (E:XK),aK k (A.deeper (Pw qual scope s.heap.objs.size f cdv))->sp vs H Q E->
   ∃t,bu (aX CX P w K mg base N qual scope f cdv A outer s H E) body t/\t {nx:=λ_ H'=>Q .non H',rt:=Q} (start N vs) H):
 az P w K mg base CX (k+1) f (KJ name qual params body scope dV kV doc pm an cdv ct) ps sp:=by
 refine⟨len,λA outer s H args us vs Q E hr e0 hb r hsp=>?_⟩;have hl:=len _ _ _ _ hsp;have KX:K.In s.heap:=e0.mod.kin.keeps λb o e=>(e0.bs b o e).1;have lim:s.heap.NoLimit:=e0.mod.nolimit.keeps λb o e=>(e0.bs b o e).1;have hkind:∀y∈ps.zip us,scope.names.lookup y.1=some .local\/(scope.names.lookup y.1=some .cell/\((Ph (s.heap.objs.size+1) scope.names []).lookup y.1).isSome=true):=λuu45 hy=>by
  obtain⟨n,v⟩:=uu45;rcases S.par n (MX hy).1 with q | q
  ·exact .inl q
  ·exact .inr ⟨q,L5 _ _ _ (.inl q)⟩
 refine codeAny_call_function hr.depth (KX _ _ lk) rfl S.co S.gen rfl (PySem.W.codeRec_of KX hcd) (hb _ _ _ _ ?_);refine wpAny_newFunctionEnv_cells S.kind hkind λenv he s1 x=>?_;subst he;refine⟨lim.keeps x.toInCall.keep,codeAny_func ?_⟩;obtain⟨t,ht,hq⟩:=hbody A outer s H vs Q E (hr.deeper _) hsp;have I:aa (aX CX P w K mg base N qual scope f cdv A outer s H E) [] (start N vs) H s1:=Cw S hr.hd e0 hl r x;refine Pe (ht [] s1 (start N vs) H _ I hq) (λfl s' hs=>?_) λe s' hs=>hs;have fin:∀{σ':St}{H':Hp}{v:V}{u:ON},aa (aX CX P w K mg base N qual scope f cdv A outer s H E) [] σ' H' s'->ax v u->Q v H'->CE outer P w H s Q u s':=
  λ{σ' H' v u} J rv q=>⟨v,H',J.os,J.bare,J.base,J.hok,rv,q⟩
 cases fl with
 | ret u=>
  obtain⟨v,σ',H',J,rv,q⟩:=hs;exact fin J rv q
 | next=>
  obtain⟨σ',H',J,q⟩:=hs;exact fin (v:=V.non) (u:=Ln) J rfl q
 | brk=>
  obtain⟨_,_,_,q⟩:=hs;exact JQ q
 | cont=>
  obtain⟨_,_,_,q⟩:=hs;exact JQ q
section
variable {X:Cx} {x:Str} {p pos:Pos} {e:OR} {es:List OR} {t:TA} {id T:String} {r:List V->Hp->VK->Prop}
def pQ(r:List V->Hp->VK->Prop)(t:TA):TE:=λσ H Q=>t σ H λvs H1=>r vs H1 Q
theorem ck(hc:cI X (.builtin id) r)(hg:Gl X x)(hm:X.mg x=none)(hv:Pb x=some (.builtin id))(ha:PA X (e::es) t)(hn:x≠"__name__":=by decide)(hdb:(x==("__debug__":Str))=false:=by decide)
 (he:OW (e::es) X.env=(false,eval e X.env)::OW es X.env:=by rfl)(hpl:(Pd pos (OW es X.env)).any (·.1)=false:=by rfl):PE X (.Call (.Name x p) (e::es) [] pos) (pQ r t):=by
 intro Qm s σ H Q I h;refine Pn (oC I hg hm hv ?_ hn hdb);exact PyProof.Rows.callWith_builtin1 (au (ha pos Qm s σ H _ I h) λus s1 uu46=>by obtain⟨vs,H1,I1,r1,q1⟩:=uu46;exact hc Qm s1 σ H1 vs us Q I1 r1 q1) he hpl
theorem nh(hc:cI X (.type T) r)(hg:Gl X x)(hm:X.mg x=none)(hv:Pb x=some (.type T))(ha:PA X (e::es) t)(hn:x≠"__name__":=by decide)(hdb:(x==("__debug__":Str))=false:=by decide)
 (he:OW (e::es) X.env=(false,eval e X.env)::OW es X.env:=by rfl)(hpl:(Pd pos (OW es X.env)).any (·.1)=false:=by rfl):PE X (.Call (.Name x p) (e::es) [] pos) (pQ r t):=by
 intro Qm s σ H Q I h;refine Pn (oC I hg hm hv ?_ hn hdb);exact LB (au (ha pos Qm s σ H _ I h) λus s1 uu47=>by obtain⟨vs,H1,I1,r1,q1⟩:=uu47;exact hc Qm s1 σ H1 vs us Q I1 r1 q1) he hpl
end
end L2
namespace HT
open PySem PyProof.Rows
def lexLt:List Int->List Int->Bool
 | [],[]=>false
 | [],_::_=>true
 | _::_,[]=>false
 | x::xs,y::ys=>if x=y then lexLt xs ys else decide (x < y)
theorem eqAt_int(A:O5)(s:OP)(a:Int)(t:Tok)(c:Int)(u:Tok):∃e,SeqAt.EqAt A s (.int a t) (.int c u) e/\(e=true↔a=c):=
 ⟨(a==c),SeqAt.EqAt.int_int a t c u,OL⟩
theorem rcLt_int(A:O5)(s:OP)(a:Int)(t:Tok)(c:Int)(u:Tok)(prog:OZ)(w:O4)(E:ON->OP->Prop)(Q:ON->OP->Prop)(h:Q (.bool (decide (a < c))) s):
 OV (OU prog w) A (richCompare .Lt (.int a t) (.int c u)) Q E s:=
 (PyProof.Rows.lt_int h:OV (OU prog w) A (Pa .Lt (.int a t) (.int c u)) Q E s)
section
open PySem.SeqAt
open PySem.AutoSeq1 (wpAny_loadPart')
open PySem.MeetsSeq PySem.MeetsSeq2 PySem.MeetsSeq3
end
section
variable {prog:OZ} {w:O4} {A:O5} {E:ON->OP->Prop} {s:OP}
def sIx(n d:Nat):Option Int->Nat
 | none=>d
 | some v=>if v < 0 then(v+(n:Int)).toNat else min v.toNat n
theorem qM(n d:Nat):sIx n d none=d:=rfl
theorem sIx_nat(n d k:Nat):sIx n d (some (k:Int))=min k n:=by
 show(if (k:Int) < 0 then((k:Int)+(n:Int)).toNat else min (k:Int).toNat n)=min k n;rw [OI OH,NP]
theorem Cy(n d:Nat)(hd:d<=n)(o:Option Int):sIx n d o<=n:=by
 cases o with
 | none=>exact hd
 | some v=>
  show(if v < 0 then(v+(n:Int)).toNat else min v.toNat n)<=n;by_cases hv:v < 0
  ·rw [OJ hv];omega
  ·rw [OI hv];exact NW _ _
theorem wt(v:Int)(n d:Nat):(if v < 0 then max (v+(n:Int)) 0 else min v (n:Int))=((sIx n d (some v):Nat):Int):=by
 show(if v < 0 then max (v+(n:Int)) 0 else min v (n:Int))=(((if v < 0 then(v+(n:Int)).toNat else min v.toNat n):Nat):Int);by_cases hv:v < 0
 ·simp only [OJ hv];omega
 ·simp only [OI hv];omega
theorem Cz(lo hi:Option Int)(n:Nat):KH lo hi 1 (n:Int)=(((sIx n 0 lo:Nat):Int),((sIx n n hi:Nat):Int)):=by
 have h1:¬((1:Int) < 0):=OH
 unfold KH;simp only [h1,if_false];refine Prod.ext ?_ ?_
 ·cases lo with
  | none=>rfl
  | some v=>exact wt v n 0
 ·cases hi with
  | none=>rfl
  | some v=>exact wt v n n
theorem CA(i j:Nat):JZ (i:Int) (j:Int) 1=j - i:=by
 unfold JZ;have h1:(1:Int) > 0:=OH
 simp only [h1,if_true,Om];split <;> omega
theorem wu{v:ON}{o:Option Int}{Q:Option Int->OP->Prop}(p:IsPart v o)(h:Q o s):OV (OU prog w) A (Builtin.Slice.slicePartIndex v) Q E s:=by
 cases p with
 | none=>exact Qa h
 | int i t=>exact slicePart_int h
theorem sliceApplied_gen{sl:OO}{vl vu:ON}{lo hi:Option Int}{n:Nat}{Q:Int×Int×Nat->OP->Prop}(hs:s.heap.IsSliceOf sl vl vu .none)(pl:IsPart vl lo)(pu:IsPart vu hi)
 (h:Q (((sIx n 0 lo:Nat):Int),1,sIx n n hi - sIx n 0 lo) s):OV (OU prog w) A (Lf (.ref sl) (pure (n:Int))) Q E s:=by
 obtain⟨os,hos,hcs,hds⟩:=id hs;unfold Lf MF;refine OQ (OQ (P1 hos hds (x:=vl) rfl (OQ (P1 hos hds (x:=vu) rfl (OQ (P1 hos hds (x:= .none) rfl (OT ?_)))))));refine OQ (Qa ?_);show OV _ _ (if ((1:Int)==0)=true then _ else _) _ _ s;rw [OI OG];refine OQ (wu pl (OQ (wu pu (OQ (OT ?_)))));show OV _ _ (match KH lo hi 1 (n:Int) with | (lo,hi)=>pure (lo,(1:Int),JZ lo hi 1)) _ _ s;rw [Cz lo hi n];show OV _ _ (pure (((sIx n 0 lo:Nat):Int),(1:Int),JZ ((sIx n 0 lo:Nat):Int) ((sIx n n hi:Nat):Int) 1)) _ _ s;rw [CA];exact OT h
theorem CB(xs:Array ON)(i k:Nat):((JP k).filterMap λ(m:Nat)=>xs[((i:Int)+(m:Int)*1).toNat]?).toArray=((xs.toList.drop i).take k).toArray:=by
 have e:(λ(m:Nat)=>xs[((i:Int)+(m:Int)*1).toNat]?)=λm=>xs[i+m]?:=by
  funext m;have:((i:Int)+(m:Int)*1).toNat=i+m:=OH
  rw [this]
 rw [e];have:=pick_run xs i k;rw [LQ] at this;have e2:((λx=>xs[x]?)∘ λx=>i+x)=λm=>xs[i+m]?:=rfl;rw [e2] at this;rw [this]
theorem getItem_tuple_cut{t sl:OO}{items:Array ON}{vl vu:ON}{lo hi:Option Int}{Q:ON->OP->Prop}(ht:IsTup s.heap t items)(hs:s.heap.IsSliceOf sl vl vu .none)(pl:IsPart vl lo)(pu:IsPart vu hi)
 (hw:¬(sIx items.size 0 lo=0/\sIx items.size items.size hi=items.size))
 (h:Q (.ref s.heap.objs.size) {s with heap:=s.heap.push {cls:= .type "tuple",data:= .seq ((items.toList.drop (sIx items.size 0 lo)).take (sIx items.size items.size hi - sIx items.size 0 lo)).toArray}})
 (hsz:items.size<=OS):OV (OU prog w) A (PM (.ref t) (.ref sl)) Q E s:=by
 have htake:sizeOk (.seq ((items.toList.drop (sIx items.size 0 lo)).take (sIx items.size items.size hi - sIx items.size 0 lo)).toArray):=by
  show((items.toList.drop (sIx items.size 0 lo)).take (sIx items.size items.size hi - sIx items.size 0 lo)).toArray.size<=OS;rw [II,KW,LC,Jc];omega
 have hj:sIx items.size items.size hi<=items.size:=Cy _ _ (IB _) hi;obtain⟨os,hos,hcs,hds⟩:=id hs;have hTs:s.TypeIs (.ref sl) "slice":=⟨os,hos,hcs⟩;unfold PM
 try with_reducible refine Py ?_
 first | refine OQ (OT ?_) | skip
 refine OQ (Qh ht.typeIs OG ?_);refine OQ (P0 (name:=Ip "__getitem__") ht.typeIs Ka
  (P5 Ka ht.typeIs entry_tuple_getitem ?_ (args_tuple_getitem _ _)))
 show OV _ _ (LD (.ref t) >>=_) _ _ s;refine OQ (tupleItemsOf_ ht ?_);refine OQ (wpAny_typeOf hTs ?_);rw [OJ OG];refine OQ (sliceApplied_gen hs pl pu ?_);have hno:¬((((sIx items.size 0 lo:Nat):Int)==0 && (1:Int)==1 && (sIx items.size items.size hi - sIx items.size 0 lo)==items.size)=true):=by
  intro q;rw [Kk,Kk] at q;have q1:((sIx items.size 0 lo:Nat):Int)=0:=eq_of_beq q.1.1;have q2:sIx items.size items.size hi - sIx items.size 0 lo=items.size:=eq_of_beq q.2;exact hw ⟨OH,OH⟩
 show OV _ _ (if (((sIx items.size 0 lo:Nat):Int)==0 && (1:Int)==1 && (sIx items.size items.size hi - sIx items.size 0 lo)==items.size)=true then _ else _) _ _ s;rw [OI hno,CB]
 first
  | exact OQ (m:=J4 _) (Pf (OT ⟨_,rfl,OT h⟩) htake)
  | exact OQ (m:=J4 _) (Pf (OQ (OT (OT ⟨_,rfl,OT h⟩))) htake)
  | exact OQ (OQ (m:=J4 _) (Pf (OT (OT ⟨_,rfl,OT h⟩)) htake))
  | exact OQ (OQ (m:=J4 _) (Pf (OT ⟨_,rfl,OT h⟩) htake))
end
end HT
namespace L2
open PySem PySem.Spec PyProof.Rows
abbrev TO:=St->Hp->(Option Int->Hp->Prop)->Prop
def PO(X:Cx)(e:Option OR)(t:TO):Prop:=
 ∀(Qm:List (OO×Obj))(s:OP)(σ:St)(H:Hp)(Q:Option Int->Hp->Prop),aa X Qm σ H s->t σ H Q->
  OV (OU X.prog X.w) X.A (evalPart e X.env) (λu s'=>∃o H',aa X Qm σ H' s'/\IsPart u o/\Q o H') X.xe s
def CC:TO:=λ_ H Q=>Q none H
def CD(t:TE):TO:=λσ H Q=>t σ H λx H1=>∃i,x= .int i/\Q (some i) H1
theorem CF{ns:List Int}:∀{us:List ON},aB (ns.map V.int) us->IntsAre us ns:=by
 induction ns with
 | nil=>intro us r;rw [Jg] at r;cases r;exact .nil
 | cons n ns ih=>
  intro us r;rw [IA] at r;cases r with
  | cons r1 r2=>
   obtain⟨t,e⟩:=r1;subst e;exact .cons n t (ih r2)
section
variable {X:Cx} {e:OR} {te:TE} {lo hi:Option OR} {tl th:TO} {pos p2:Pos}
theorem CG:PO X none CC:=by
 intro Qm s σ H Q I h;rw [evalPart_none];exact OT ⟨none,H,I,.none,h⟩
theorem CH(h:PE X e te):PO X (some e) (CD te):=by
 intro Qm s σ H Q I hw;rw [evalPart_some];refine au (h Qm s σ H _ I hw) λu s1 ⟨x,H1,I1,r1,q1⟩=>?_;obtain⟨i,rfl,q⟩:=q1;obtain⟨t,rfl⟩:=r1;exact⟨some i,H1,I1,.int i t,q⟩
def qN(X:Cx)(r:V->Option Int->Option Int->Hp->VK->Prop):Prop:=
 ∀(Qm:List (OO×Obj))(s:OP)(σ:St)(H:Hp)(x:V)(v vl vu:ON)(lo hi:Option Int)(sl:OO)(Q:VK),aa X Qm σ H s->ax x v->s.heap.IsSliceOf sl vl vu .none->IsPart vl lo->IsPart vu hi->r x lo hi H Q->
  ∃T id,typeLookup (.type T) "__getitem__"=pure (some (.builtin id))/\s.TypeIs v T/\OV (OU X.prog X.w) X.A (PM v (.ref sl)) (EP X Qm σ Q) X.xe s
def CI(r:V->Option Int->Option Int->Hp->VK->Prop)(te:TE)(tl th:TO):TE:=λσ H Q=>te σ H λx H1=>tl σ H1 λl H2=>th σ H2 λu H3=>r x l u H3 Q
theorem tR{r:V->Option Int->Option Int->Hp->VK->Prop}(hr:qN X r)(he:PE X e te)(hl:PO X lo tl)(hu:PO X hi th):PE X (.Subscript e (.Slice lo hi none p2) pos) (CI r te tl th):=by
 intro Qm s σ H Q I h;refine Subscript_ (au (he Qm s σ H _ I h) λv s1 ⟨x,H1,I1,r1,q1⟩=>?_);refine wpAny_Slice (au (hl Qm s1 σ H1 _ I1 q1) λvl s2 ⟨l,H2,I2,pl,q2⟩=>au (hu Qm s2 σ H2 _ I2 q2) λvu s3 ⟨u,H3,I3,pu,q3⟩=>?_);rw [evalPart_none];refine OT ?_;have I4:aa X Qm σ H3 {s3 with heap:=s3.heap.push {cls:= .type "slice",data:= .fields #[vl,vu,.none]}}:=I3.kept (t':=s3.toks) λb ob q=>Iz _ q;obtain⟨T,id,hT,ht,hg⟩:=hr Qm {s3 with heap:=s3.heap.push {cls:= .type "slice",data:= .fields #[vl,vu,.none]}} σ H3 x v vl vu l u s3.heap.objs.size Q I4 r1 (Nz ..) pl pu q3;show OV (OU X.prog X.w) X.A (subscriptTail e (.Slice lo hi none p2) v (.ref s3.heap.objs.size)) (EP X Qm σ Q) X.xe {s3 with heap:=s3.heap.push {cls:= .type "slice",data:= .fields #[vl,vu,.none]}};exact tail_any (ops:=[.ref s3.heap.objs.size,v]) ht hT hg (by with_unfolding_all rfl)
def mT(xs:List V)(lo hi:Option Int):List V:=(xs.drop (HT.sIx xs.length 0 lo)).take (HT.sIx xs.length xs.length hi - HT.sIx xs.length 0 lo)
theorem wx(xs:List V)(lo hi:Option Int):(mT xs lo hi).length<=xs.length:=by
 unfold mT;rw [KW,LC];omega
def CJ(K:Iq):V->Option Int->Option Int->Hp->VK->Prop:=λx lo hi H Q=>∃a xs,x= .ref a/\aZ K H a xs/\
 ¬(HT.sIx xs.length 0 lo=0/\HT.sIx xs.length xs.length hi=xs.length)/\∀p,H p=none->Q (.ref p) (ak H p (.tup (mT xs lo hi)))
theorem CK:qN X (CJ X.K):=by
 intro Qm s σ H x v vl vu lo hi sl Q I rx hs pl pu h;obtain⟨a,xs,rfl,hx,hw,q⟩:=h;cases rx;obtain⟨its,r,ht,hz⟩:=I.tuple hx;have hlen:its.toArray.size=xs.length:=by rw [II];exact r.length.symm
 refine⟨"tuple",_,Ka.lookup,ht.typeIs,?_⟩;refine HT.getItem_tuple_cut ht hs pl pu (by rw [hlen];exact hw) ?_ (by rw [hlen];exact hz);rw [hlen];refine⟨.ref s.heap.objs.size,_,I.laid (t':=s.toks) (o:= .tup (mT xs lo hi)) (λb ob q=>Iz _ q) (IB _) ?_,rfl,q _ (I.hok.fresh (IB _))⟩;exact⟨Jx (wx xs lo hi) hz,_,(r.drop (HT.sIx xs.length 0 lo)).take (HT.sIx xs.length xs.length hi - HT.sIx xs.length 0 lo),MU _ _⟩
end
def mz(n:Nat)(i:Int):Option Nat:=if 0<=i then(if i < n then some i.toNat else none) else if -(n:Int)<=i then some (i+n).toNat else none
def atI{α:Type}(xs:List α)(i:Int):Option α:=(mz xs.length i).bind λj=>xs[j]?
theorem CL{n:Nat}{i:Int}{j:Nat}(h:mz n i=some j):seqIndex? i n=some j/\j < n/\-(n:Int)<=i/\i < n:=by
 unfold mz at h;by_cases h0:0<=i
 ·rw [OJ h0] at h;by_cases h1:i < n
  ·rw [OJ h1] at h;have e:i.toNat=j:=Jr h;exact⟨by rw [seqIndex_of h0 h1,e],OH,OH,h1⟩
  ·rw [OI h1] at h;cases h
 ·rw [OI h0] at h;by_cases h1:-(n:Int)<=i
  ·rw [OJ h1] at h;have e:(i+n).toNat=j:=Jr h;exact⟨by rw [seqIndex_neg OH h1,e],OH,h1,OH⟩
  ·rw [OI h1] at h;cases h
theorem tS{α:Type}{xs:List α}{i:Int}{v:α}(h:atI xs i=some v):∃j,seqIndex? i xs.length=some j/\xs[j]?=some v/\j < xs.length/\-(xs.length:Int)<=i/\i < xs.length:=by
 unfold atI at h;cases e:mz xs.length i with
 | none=>rw [e] at h;cases h
 | some j=>
  rw [e] at h;obtain⟨h1,h2,h3,h4⟩:=CL e;exact⟨j,h1,h,h2,h3,h4⟩
theorem gX{α:Type}{xs:List α}{j:Nat}{v:α}(h:xs[j]?=some v):atI xs (j:Int)=some v:=by
 have hj:j < xs.length:=(IG.mp h).1;have e:mz xs.length (j:Int)=some j:=by
  unfold mz;rw [OJ OH,OJ OH];simp
 unfold atI;rw [e];exact h
theorem tT{α:Type}(xs:List α)(v:α):atI (xs++[v]) (-1)=some v:=by
 have hl:(xs++[v]).length=xs.length+1:=OL
 have e:mz (xs++[v]).length (-1)=some xs.length:=by
  unfold mz;rw [hl,OI OG,OJ OH];congr 1;omega
 unfold atI;rw [e];show(xs++[v])[xs.length]?=some v;simp
def CM(b:OR):Prop:=∀o i,subscripted b false o i=operate [o,i] (PM o i)
def oJ(X:Cx)(r:R2):Prop:=
 ∀(value slice:OR)(Qm:List (OO×Obj))(s:OP)(σ:St)(H:Hp)(x y:V)(v u:ON)(Q:VK),aa X Qm σ H s->ax x v->ax y u->r x y H Q->
  subscripted slice false v u=operate [v,u] (PM v u)->OV (OU X.prog X.w) X.A (subscriptTail value slice v u) (EP X Qm σ Q) X.xe s
def CN(X:Cx)(id:String)(r:V->List V->Hp->VK->Prop):Prop:=
 ∀(Qm:List (OO×Obj))(s:OP)(σ:St)(H:Hp)(x:V)(xs:List V)(v:ON)(us:List ON)(Q:VK),aa X Qm σ H s->ax x v->aB xs us->r x xs H Q->
  OV (OU X.prog X.w) X.A (call (.builtin id) (v::us)) (EP X Qm σ Q) X.xe s
section
variable {X:Cx} {a b:OR} {ta tb:TE} {pos:Pos}
theorem pR{r:R2}(hr:oJ X r)(ha:PE X a ta)(hb:PE X b tb)(hs:CM b):PE X (.Subscript a b pos) (nO r ta tb):=by
 intro Qm s σ H Q I h;exact Subscript_ (tu ha hb I h λv u s2 x y H2 I2 rx ry q=>hr a b Qm s2 σ H2 x y v u Q I2 rx ry q (hs _ _))
def tU(K:Iq):R2:=λx y H Q=>∃p xs i v,x= .ref p/\y= .int i/\aV K H p xs/\atI xs i=some v/\Q v H
def qO(K:Iq):R2:=λx y H Q=>∃p xs i v,x= .ref p/\y= .int i/\aZ K H p xs/\atI xs i=some v/\Q v H
def wy:R2:=λx y H Q=>∃z i c,x= .str z/\y= .int i/\z.length<=OS/\atI z.cps.toList i=some c/\Q (.str ⟨#[c]⟩) H
theorem aE:oJ X (tU X.K):=by
 intro value slice Qm s σ H x y v u Q I rx ry h hs;obtain⟨p,xs,i,z,rfl,rfl,hq,he,q⟩:=h;cases rx;obtain⟨t,rfl⟩:=ry;obtain⟨its,r,pl,hz⟩:=I.list hq;obtain⟨j,h1,h2,h3,h4,h5⟩:=tS he;obtain⟨w,ew,rw'⟩:=r.get h2;have hl:=r.length;have hn:=pM;have fin:EP X Qm σ Q w s:=⟨z,H,I,rw',q⟩;by_cases h0:0<=i
 ·have hj:i.toNat=j:=by
   rw [seqIndex_of h0 h5] at h1;exact Jr h1
  exact item_listR pl.isList h0 OH (by rw [hj];simpa using ew) fin hs
 ·have hj:(i+(its.toArray.size:Int)).toNat=j:=by
   rw [seqIndex_neg OH h4] at h1;rw [II,<-hl];exact Jr h1
  exact subscriptTail_builtinR (x:=w) pl.isList.typeIs slot_list_getitem.lookup
   (wpAny_getItem_list_neg (Q:=λr s'=>r=w/\EP X Qm σ Q r s') pl.isList OH (by rw [II] <;> omega) OH (by rw [hj];simpa using ew) ⟨rfl,fin⟩) hs
theorem aO:oJ X (qO X.K):=by
 intro value slice Qm s σ H x y v u Q I rx ry h hs;obtain⟨p,xs,i,z,rfl,rfl,hq,he,q⟩:=h;cases rx;obtain⟨t,rfl⟩:=ry;obtain⟨its,r,pl,hz⟩:=I.tuple hq;obtain⟨j,h1,h2,h3,h4,h5⟩:=tS he;obtain⟨w,ew,rw'⟩:=r.get h2;have hl:=r.length;have hn:=pM;have fin:EP X Qm σ Q w s:=⟨z,H,I,rw',q⟩;exact subscriptTail_builtinR (x:=w) pl.typeIs slot_tuple_getitem.lookup
  (getItem_tuple (j:=j) (Q:=λr s'=>r=w/\EP X Qm σ Q r s') pl OH OH (by rw [II,<-hl];exact h1) (by simpa using ew) ⟨rfl,fin⟩) hs
theorem qP:oJ X wy:=by
 intro value slice Qm s σ H x y v u Q I rx ry h hs;obtain⟨z,i,c,rfl,rfl,hz,he,q⟩:=h;obtain⟨t,rfl⟩:=rx;obtain⟨t',rfl⟩:=ry;obtain⟨j,h1,h2,h3,h4,h5⟩:=tS he;have hl:z.cps.toList.length=z.length:=by simp [Str.length]
 rw [hl] at h1 h4 h5;have hn:=pM;exact tail_any (P9 s z t) slot_str_getitem.lookup (getItem_str (c:=c) (by
  have e1:decide (i < -(2 ^ 63:Int))=false:=decide_eq_false OH;have e2:decide (i >= 2 ^ 63)=false:=decide_eq_false OH;rw [e1,e2,Kc]) (by rw [h1];simpa using h2) ⟨.str ⟨#[c]⟩,H,I.tok _,⟨_,rfl⟩,q⟩) hs
theorem CO(lo hi:Option Int)(n:Nat):(PN lo hi none n).1=((HT.sIx n 0 lo:Nat):Int)/\(PN lo hi none n).2.1=((HT.sIx n n hi:Nat):Int)/\(PN lo hi none n).2.2=1:=by
 refine⟨?_,?_,rfl⟩
 ·cases lo with
  | none=>simp [PN,HT.sIx]
  | some i=>
   simp only [PN,HT.sIx,NX,show(1:Int) > 0 by decide,if_true];by_cases h:i < 0
   ·simp only [h,if_true] <;> omega
   ·simp only [h,if_false] <;> omega
 ·cases hi with
  | none=>simp [PN,HT.sIx]
  | some i=>
   simp only [PN,HT.sIx,NX,show(1:Int) > 0 by decide,if_true];by_cases h:i < 0
   ·simp only [h,if_true] <;> omega
   ·simp only [h,if_false] <;> omega
theorem CP(its:List ON)(lo hi:Option Int):slicePick its.toArray lo hi none=((its.drop (HT.sIx its.length 0 lo)).take (HT.sIx its.length its.length hi - HT.sIx its.length 0 lo)).toArray:=by
 obtain⟨h1,h2,h3⟩:=CO lo hi its.toArray.size;unfold slicePick;rw [h1,h2,h3];simp only [sliceRange_one,pick_run,II] <;> rfl
def CQ(K:Iq):V->Option Int->Option Int->Hp->VK->Prop:=λx lo hi H Q=>∃a xs,x= .ref a/\aV K H a xs/\∀p,H p=none->Q (.ref p) (ak H p (.lst (mT xs lo hi)))
theorem wz:qN X (CQ X.K):=by
 intro Qm s σ H x v vl vu lo hi sl Q I rx hs pl pu h;obtain⟨a,xs,rfl,hx,q⟩:=h;cases rx;obtain⟨its,r,ht,hz⟩:=I.list hx;have hlen:=r.length;refine⟨"list",_,slot_list_getitem.lookup,ht.isList.typeIs,?_⟩;refine wpAny_getItem_list_slice ht.isList hs pl pu .none OL ?_ (by rw [II] <;> omega);rw [CP,<-hlen];refine⟨.ref s.heap.objs.size,_,I.laid (t':=s.toks) (o:= .lst (mT xs lo hi)) (λb ob q=>Iz _ q) (IB _) ?_,rfl,q _ (I.hok.fresh (IB _))⟩;exact⟨Jx (wx xs lo hi) hz,_,0,(r.drop (HT.sIx xs.length 0 lo)).take (HT.sIx xs.length xs.length hi - HT.sIx xs.length 0 lo),Jh _ rfl⟩
theorem pT:cI X (.builtin "len") (λxs H Q=>∃p ys,xs=[.ref p]/\(aV X.K H p ys\/aZ X.K H p ys)/\Q (.int ys.length) H):=by
 intro Qm s σ H xs us Q I r h;obtain⟨p,ys,rfl,hq,q⟩:=h;obtain⟨u,rfl,rx⟩:=lZ r;cases rx;have hn:=pM;rcases hq with hq | hq
 ·obtain⟨its,r',pl,hz⟩:=I.list hq;have hlen:=r'.length;exact Calls.call_len_list pl.isList (by simp only [II] <;> omega) ⟨.int ys.length,H,I.tok _,⟨s.toks+1,by rw [II,hlen]⟩,q⟩
 ·obtain⟨its,r',pl,hz⟩:=I.tuple hq;have hlen:=r'.length;exact len_tuple pl (by simp only [II] <;> omega) ⟨.int ys.length,H,I.tok _,⟨s.toks+1,by rw [II,hlen]⟩,q⟩
theorem tV:cI X (.type "tuple") (λxs H Q=>∃p ys,xs=[.ref p]/\((aV X.K H p ys/\∀l,H l=none->Q (.ref l) (ak H l (.tup ys)))\/(aZ X.K H p ys/\Q (.ref p) H))):=by
 intro Qm s σ H xs us Q I r h;obtain⟨p,ys,rfl,h⟩:=h;obtain⟨u,rfl,rx⟩:=lZ r;cases rx;rcases h with⟨hq,q⟩ | ⟨hq,q⟩
 ·obtain⟨its,r',pl,hz⟩:=I.list hq;have hlen:=r'.length;refine call_tuple_list pl.isList (λh' kp=>?_) (by simp only [II] <;> omega);have I1:aa X Qm σ H {s with heap:=h'}:=I.kept (t':=s.toks) kp;have I2:aa X Qm σ (ak H h'.objs.size (.tup ys)) {s with heap:=h'.push {cls:= .type "tuple",data:= .seq its.toArray}}:=
   I1.laid (t':=s.toks) (λb o e=>Iz _ e) (IB _) (show bF X.prog X.w _ _ _ (.tup ys) from⟨hz,its,r',MU _ _⟩)
  exact⟨.ref h'.objs.size,_,I2,rfl,q _ (I1.hok.fresh (IB _))⟩
 ·obtain⟨its,r',pl,hz⟩:=I.tuple hq;exact call_tuple_same pl ⟨.ref p,H,I,rfl,q⟩
def wA(K:Iq)(T:String)(x:V)(H:Hp):Prop:=match x with
 | .str _=>T="str"
 | .int _=>T="int"
 | .ref p=>(T="list"/\∃xs,aV K H p xs)\/(T="tuple"/\∃o,K.lookup p=some o/\o.cls= .type "tuple"/\o.dict=none)\/
  (T="dict"/\((∃kvs,H p=some (.dK kvs))\/∃kvs,H p=some (.dT kvs)))\/(T="set"/\∃S n,H p=some (.set S n))
 | _=>False
theorem CS{Qm:List (OO×Obj)}{σ:St}{H:Hp}{s:OP}{T:String}{x:V}{v:ON}(I:aa X Qm σ H s)(r:ax x v)(ty:wA X.K T x H):
 s.TypeIs v T/\∀a,v= .ref a->∃ob,s.heap.get? a=some ob/\ob.dict=none:=by
 cases x with
 | str z=>
  obtain⟨t,rfl⟩:=r;cases (show T="str" from ty);exact⟨P9 s z t,λ_ e=>nomatch e⟩
 | int i=>
  obtain⟨t,rfl⟩:=r;cases (show T="int" from ty);exact⟨typeIs_int s i t,λ_ e=>nomatch e⟩
 | ref p=>
  cases r;rcases ty with⟨rfl,xs,hq⟩ | ⟨rfl,o,hk,hc,hd⟩ | ⟨rfl,hk⟩ | ⟨rfl,S,n,hk⟩
  ·obtain⟨its,_,pl,_⟩:=I.list hq;refine⟨pl.isList.typeIs,λa e=>?_⟩;cases e;obtain⟨o,n,e,c,hd,_⟩:=pl;exact⟨o,e,hd⟩
  ·refine⟨⟨o,I.kIn p o hk,hc⟩,λa e=>?_⟩;cases e;exact⟨o,I.kIn _ o hk,hd⟩
  ·have z:∃o,s.heap.get? p=some o/\o.ExactDict:=by
    rcases hk with⟨kvs,hk⟩ | ⟨kvs,hk⟩
    ·obtain⟨_,_,_,_,o,_,_,e,ex,_⟩:=I.hok p _ hk;exact⟨o,e,ex⟩
    ·obtain⟨_,_,_,_,o,_,_,e,ex,_⟩:=I.hok p _ hk;exact⟨o,e,ex⟩
   obtain⟨o,e,ex⟩:=z;refine⟨⟨o,e,ex.1⟩,λa e2=>?_⟩;cases e2;exact⟨o,e,ex.2.1⟩
  ·obtain⟨o,_,_,_,e,ex,_⟩:=I.hok p _ hk;refine⟨⟨o,e,ex.1⟩,λa e2=>?_⟩;cases e2;exact⟨o,e,ex.2.1⟩
 | _=>exact JQ ty
def CT(K:Iq)(T:String)(r:V->List V->Hp->VK->Prop)(to:TE)(t:TA):TE:=λσ H Q=>to σ H λx H1=>wA K T x H1/\t σ H1 λxs H2=>r x xs H2 Q
variable {o e:OR} {es:List OR} {to:TE} {t:TA} {name:Str} {apos cpos:Pos} {T id:String} {r:V->List V->Hp->VK->Prop}
theorem CU(pa:PlainAttrs T)(slot:Slot T name id)(hty:typeOf (.builtin id)=pure (.type "method_descriptor"))(hm:CN X id r)(ho:PE X o to)(ha:PA X (e::es) t)
 (hbase:Px o name X.env (eval o X.env)=eval o X.env:=by rfl)
 (hfew:((Pd cpos (OW (e::es) X.env)).all (λx=>!x.1) && (backToKw cpos (keywordEach [] X.env)).all (λx=>x.1.isSome)
   && decide ((e::es).length+([]:List P6).length+(if ([]:List P6).isEmpty then 0 else 1) < 30))=true:=by rfl)
 (hline:(apos.endLine==cpos.line)=true:=by rfl)(hs:OW (e::es) X.env=(false,eval e X.env)::OW es X.env:=by rfl)(hplain:(Pd cpos (OW es X.env)).any (·.1)=false:=by rfl):
 PE X (.Call (.Attribute o name apos) (e::es) [] cpos) (CT X.K T r to t):=by
 intro Qm s σ H Q I h;refine wpAny_Call_method_late hbase hfew hline rfl (au (ho Qm s σ H _ I h) λv s1 ⟨x,H1,I1,r1,ty,q1⟩=>?_);obtain⟨h1,h2⟩:=CS I1 r1 ty;refine⟨T,id,pa,slot,hty,h1,h2,?_⟩;have hA:=ha cpos Qm s1 σ H1 _ I1 q1;rw [hs] at hA⊢;refine Calls.callWith_builtin (by show(false || (Pd cpos (OW es X.env)).any (·.1))=false;rw [hplain] <;> rfl) (Nd ?_);exact au hA λus s2 uu53=>by obtain⟨vs,H2,I2,r2,q2⟩:=uu53;exact hm Qm s2 σ H2 x vs v us Q I2 r1 r2 q2
end
def CV(X:Cx)(id:String)(r:V->List V->Hp->VK->Prop):Prop:=
 ∀(Qm:List (OO×Obj))(s:OP)(σ:St)(H:Hp)(x:V)(xs:List V)(v:ON)(us:List ON)(Q:VK),aa X Qm σ H s->ax x v->aB xs us->r x xs H Q->
  OV (OU X.prog X.w) X.A (call (.builtin id) (v::us)) (EP X Qm σ Q) X.xe s
theorem aB.one:∀{x:V}{us:List ON},aB [x] us->∃u,us=[u]/\ax x u
 | _,_,.cons r .nil=>⟨_,rfl,r⟩
section
variable {X:Cx} {Qm:List (OO×Obj)} {σ:St} {H:Hp} {s:OP} {l b:OO} {xs ys zs:List V}
theorem aa.lset{its its':List ON}{n:Nat}{f:Array ON->Array ON}{t':Nat}(I:aa X Qm σ H s)(hH:H l=some (.lst xs))
 (e:s.heap.get? l=some {cls:= .type "list",data:= .seq its.toArray n})(hf:f its.toArray=its'.toArray)(hv:aB ys its')(hz:ys.length<=OS):
 aa X Qm σ (ak H l (.lst ys)) {s with heap:=s.heap.update l (J0 f),toks:=t'}:=by
 have q:=PySem.IsL.update e f;rw [hf] at q;refine I.write (x:=l) (e:=l) (by rw [hH];exact trivial) (.inl rfl) (λb' u hb hu=>(Heap.get?_update_other s.heap (J0 f) (Ne.symm hb)).trans hu) ⟨_,q⟩ ?_;exact⟨hz,its',_,hv,q⟩
theorem aa.lnew{its:List ON}{t':Nat}(I:aa X Qm σ H s)(hv:aB ys its)(hz:ys.length<=OS):
 aa X Qm σ (ak H s.heap.objs.size (.lst ys)) {s with heap:=s.heap.push {cls:= .type "list",data:= .seq its.toArray},toks:=t'}:=
 I.laid (λ_ _ q=>Iz _ q) (IB _) ⟨hz,its,0,hv,Jh _ rfl⟩
theorem aa.fresh(I:aa X Qm σ H s):H s.heap.objs.size=none:=I.hok.fresh (IB _)
theorem aa.lstM(I:aa X Qm σ H s)(hH:H l=some (.lst xs)):xs.length<=OS/\∃(its:List ON)(n:Nat),aB xs its/\xs.length=its.length/\s.heap.get? l=some {cls:= .type "list",data:= .seq its.toArray n}:=by
 obtain⟨z,its,n,r,e⟩:=I.hok l _ hH;exact⟨z,its,n,r,r.length,e⟩
end
section
variable {X:Cx}
def CW:V->List V->Hp->VK->Prop:=λx vs H Q=>∃l xs y,x= .ref l/\vs=[y]/\H l=some (.lst xs)/\xs.length < OS/\Q .non (ak H l (.lst (xs++[y])))
theorem wB:CV X "list.append" CW:=by
 intro Qm s σ H x vs v us Q I rx rv h;obtain⟨l,xs,y,rfl,rfl,hH,hz,q⟩:=h;cases rx;obtain⟨u,rfl,ru⟩:=rv.one;obtain⟨z,its,n,r,hl,e⟩:=I.lstM hH;refine call_meets F.slot_list_append ⟨_,e,rfl⟩ F.entry_list_append (F.args_list_append_2 _ _) (PySem.list_append l its.toArray n u (by rw [II];omega)) ⟨e,?_⟩;refine⟨.non,_,I.lset (its':=its++[u]) hH e OL (r.append (.cons ru .nil)) ?_,rfl,q⟩;rw [Js,Md];omega
end
end L2
namespace Att
open PySem PySem.W PySem.Calls PyProof.Rows
theorem CY{P:Params}{h:O3}:∀(ns:List Int)(vs:List ON),WellAll P h vs (ns.map Lp)->IntsAre vs ns:=by
 intro ns
 induction ns with
 | nil=>
  intro vs w;rw [Jg] at w;cases w;exact .nil
 | cons n ns ih=>
  intro vs w;rw [IA] at w;cases w with
  | cons a b=>
   cases a;exact .cons _ _ (ih _ b)
theorem CZ{l:OpenLaw}{n:Nat}(hn:l.most=some n){P:Params}{h:O3}{args:List WData}{vals:List ON}
 (hpre:l.row.toRowW.claim.pre args=true)(hwl:WellAll P h vals args):
 ∃a vs ns,vals=[Jb a]/\args=[MG (ns.map Lp)]/\h.get? a=some {cls:= .type "list",data:= .seq vs.toArray}/\IntsAre vs ns/\ns.length<=n:=by
 have hsh:WShape.hasAll [] args [.list .int]=true:=(pre_splitW hpre).1;have hc:l.pre.holds [] {args:=args}=true:=(pre_splitW hpre).2;obtain⟨d,r,rfl,h1,h2⟩:=hasAllW_cons hsh;obtain rfl:=hasAllW_nil h2;obtain⟨xs,rfl,h3⟩:=hasW_list h1;obtain⟨ns,rfl⟩:=items_int h3;have hlen:ns.length<=n:=by
  unfold OpenLaw.pre at hc;have h4:(WTm.not (.lt (.lit (.int (n:Int))) (.len (.arg 0)))).holds [] {args:=[.list (ns.map .int)]}=true:=by
   have h4:=(holds_andW hc).1;rw [hn] at h4;exact h4
  have h5:=condW_of h4 (w_not (w_lt w_lit (w_len_list (w_arg rfl))));rw [Iw] at h5;refine MO λq=>?_;have q':(n:Int) < ((ns.length:Nat):Int):=OH
  first
   | (rw [decide_eq_true q'] at h5;exact absurd h5 OG)
   | (simp at h5;omega)
 cases hwl with
 | cons w1 w2=>
  cases w2;cases w1 with
  | list ho hall=>exact⟨_,_,ns,rfl,rfl,ho,CY ns _ hall,hlen⟩
theorem C0(l:OpenLaw)(args:List WData):l.row.toRowW.claim.post args (.bool true) args=true:=
 postW_of (r:=l.row.toRowW) (X:=(true==true))
  (show WShape.has [] (.bool true) .bool=true by first | rfl | decide | simp [WShape.has,WShape.arms,WShape.armsAll])
  (show(WTm.eq .res (.lit (.bool true))).value [] {args:=args,res:=some (.bool true),after:=args}=some (.bool (true==true)) from w_eq_bool (w_res rfl) w_lit) rfl
end Att
namespace L2
open PySem PySem.Spec PyProof.Rows
theorem wC:∀{vs:List ON}{ns:List Int},IntsAre vs ns->aB (ns.map V.int) vs
 | _,_,.nil=>.nil
 | _,_,.cons n t h=>.cons ⟨t,rfl⟩ (wC h)
abbrev KOf{K:Iq}{h:O3}(_:K.In h):Iq:=K
def inClass(s:O6)(j:Nat):O6:=match s with
 | .ClassDef _ _ _ body _ _ _ _ _ _ _=>body.getD j (.Pass ⟨0,0,0,0⟩)
 | _=>.Pass ⟨0,0,0,0⟩
def mB(s:O6):Qb:=match s with
 | .FunctionDef _ a _ _ _ _ _ _ _ _=>a
 | _=>{posonlyargs:=[],args:=[],vararg:=none,kwonlyargs:=[],kw_defaults:=[],kwarg:=none,defaults:=[]}
def cT(s:O6):List O6:=match s with
 | .FunctionDef _ _ b _ _ _ _ _ _ _=>b
 | _=>[]
def aw(s:O6):Pc:=match s with
 | .FunctionDef _ _ _ _ _ _ sc _ _ _=>sc
 | _=>{kind:= .function,names:=[],isGenerator:=false,isCoroutine:=false}
abbrev aJ:dJ:=λ_ _ _ _ _ _=>False
abbrev E0:XK:=λ_ _ _=>False
theorem wD{X:Cx}:nR aJ X E0:=λ_ _ _ _ _ _ _ h=>h.elim
structure cm (K:Iq) (x qual:Str) (st:O6) (f:OO) (fd:OX):Prop where
 ex:∃(oc:ON)(od:Option OO)(kV doc pm:ON)(an:Option OO)(cdv ct:ON)(osl:Array (Option ON)),
  fd=KJ x qual (mB st) (cT st) (aw st) .none kV doc pm an cdv ct/\K.lookup f=some ⟨oc,od,.func fd,osl⟩/\LU K cdv qual=true
 kp:KQ K (.ref f)=true
section
variable {P:OZ} {w:O4} {K:Iq} {mg:Str->Option ON} {base:O3}
theorem cm.ok{x qual:Str}{st:O6}{f:OO}{fd:OX}{N ps:List Str}{k:Nat}{sp:Sp}(F:cm K x qual st f fd)(S:bb N ps (aw st))(len:∀vs H Q E,sp vs H Q E->vs.length=ps.length)
 (hbody:∀(cdv:ON) (A:O5) (outer:List Env) (s:OP) (H:Hp) (vs:List V) (Q:VK) (E:XK),aK k (A.deeper (Pw qual (aw st) s.heap.objs.size f cdv))->sp vs H Q E->
   ∃t,bu (aX aJ P w K mg base N qual (aw st) f cdv A outer s H E).nox (cT st) t/\t {nx:=λ_ H'=>Q .non H',rt:=Q} (start N vs) H):az P w K mg base aJ (k+1) f fd ps sp:=by
 obtain⟨oc,od,kV,doc,pm,an,cdv,ct,osl,rfl,lk,hcd⟩:=F.ex;refine tQ lk hcd S len λA outer s H vs Q E hr hsp=>?_;obtain⟨t,h,q⟩:=hbody cdv A outer s H vs Q E hr hsp;exact⟨t,h.nox,q⟩
theorem cm.binds{x qual:Str}{st:O6}{f:OO}{fd:OX}{ps:List Str}(F:cm K x qual st f fd)
 (h:∀(kV doc pm:ON) (an:Option OO) (cdv ct:ON) (us:List ON),us.length=ps.length->bindArgs (KJ x qual (mB st) (cT st) (aw st) .none kV doc pm an cdv ct) ⟨us,[]⟩=pure (ps.zip us)):cB K fd ps []:=by
 obtain⟨oc,od,kV,doc,pm,an,cdv,ct,osl,rfl,lk,hcd⟩:=F.ex;exact .all (h kV doc pm an cdv ct)
theorem wF{x qual:Str}{st:O6}{f:OO}{oc:ON}{od an:Option OO}{osl:Array (Option ON)}{kV doc pm cdv ct:ON}(l:K.lookup f=some ⟨oc,od,.func (KJ x qual (mB st) (cT st) (aw st) .none kV doc pm an cdv ct),osl⟩)
 (c:LU K cdv qual=true)(k:KQ K (.ref f)=true):cm K x qual st f (KJ x qual (mB st) (cT st) (aw st) .none kV doc pm an cdv ct):=⟨⟨oc,od,kV,doc,pm,an,cdv,ct,osl,rfl,l,c⟩,k⟩
end
section
variable {X:Cx}
theorem pv(i:Nat){x:Str}{pos:Pos}(hN:X.N[i]?=some x:=by rfl)(hv:oB X.env.scope x:=by first | exact MP rfl | exact Mj (MP rfl) | exact Mj (Mj rfl))(hd:(x==("__debug__":Str))=false:=by decide)
 (hcd:(x==("__classdict__":Str))=false:=by decide):PE X (.Name x pos) (mR i):=qB hN hv hd hcd
end
def ah(H H':Hp):Prop:=∀b o,H b=some o->H' b=some o
theorem ah.refl(H:Hp):ah H H:=λ_ _ h=>h
theorem ah.trans{H H1 H2:Hp}(a:ah H H1)(b:ah H1 H2):ah H H2:=λc o h=>b c o (a c o h)
def cC(env:Env)(names:List (Str×Pk))(cs:List (Str×OO)):List (Str×OO):=
 names.foldl (λcs p=>if (p.2==Kd)=true then(p.1,(env.cells.lookup p.1).getD 0)::cs else cs) cs
theorem tW{scope:Pc}{env:Env}(h:∀y∈scope.names,y.2= .free->∃c,env.cells.lookup y.1=some c):closureFor scope env=pure (cC env scope.names []):=by
 unfold closureFor;have key:∀(l:List (Str×Pk))(cs:List (Str×OO)),(∀y∈l,y.2= .free->∃c,env.cells.lookup y.1=some c)->
  (forIn l cs λ(x:Str×Pk) (r:List (Str×OO))=>(if (x.2==Kd)=true then do let a<-cellOf env x.1;pure (Lq ((x.1,a)::r)) else pure (Lq r):Sem (ForInStep (List (Str×OO)))))=pure (cC env l cs):=by
  intro l
  induction l with
  | nil=>intro cs _;rfl
  | cons p r ih=>
   intro cs hl;rw [N5];by_cases hk:(p.2==Kd)=true
   ·obtain⟨c,hc⟩:=hl p KZ (by simpa using hk);rw [OJ hk];have e:cellOf env p.1=pure c:=by unfold cellOf;rw [hc]
    rw [e];simp only [pure_bind];rw [ih _ λy hy=>hl y (Jm _ hy)];unfold cC;rw [Lr,OJ hk,hc];rfl
   ·rw [OI hk];simp only [pure_bind];rw [ih _ λy hy=>hl y (Jm _ hy)];unfold cC;rw [Lr,OI hk]
 have:=key scope.names [] h;simp only [bind_pure];exact this
theorem tX{env:Env}:∀(l:List (Str×Pk))(cs:List (Str×OO)){x:Str}{c:OO},(∀y∈l,y.2= .free->∃c,env.cells.lookup y.1=some c)->(∀y d,cs.lookup y=some d->env.cells.lookup y=some d)->
 (cC env l cs).lookup x=some c->env.cells.lookup x=some c
 | [],cs,x,c,_,hc,h=>hc x c h
 | p::r,cs,x,c,hl,hc,h=>by
  unfold cC at h;rw [Lr] at h;by_cases hk:(p.2==Kd)=true
  ·rw [OJ hk] at h;refine tX r _ (λy hy=>hl y (Jm _ hy)) (λy d e=>?_) h;obtain⟨a,ha⟩:=hl p KZ (by simpa using hk);rw [Je] at e;cases hx:y==p.1 with
   | true=>
    rw [hx] at e;have hy:y=p.1:=by simpa using hx
    rw [ha] at e;cases e;rw [hy];exact ha
   | false=>rw [hx] at e;exact hc y d e
  ·rw [OI hk] at h;exact tX r cs (λy hy=>hl y (Jm _ hy)) hc h
theorem tY{env:Env}:∀(l:List (Str×Pk))(cs:List (Str×OO)){x:Str},(∃c,cs.lookup x=some c)->∃c,(cC env l cs).lookup x=some c
 | [],cs,x,h=>h
 | p::r,cs,x,⟨c,h⟩=>by
  unfold cC;rw [Lr];by_cases hk:(p.2==Kd)=true
  ·rw [OJ hk];refine tY r _ ?_;rw [Je];cases hx:x==p.1 with
   | true=>exact⟨_,rfl⟩
   | false=>exact⟨c,h⟩
  ·rw [OI hk];exact tY r cs ⟨c,h⟩
theorem pU{env:Env}:∀(l:List (Str×Pk))(cs:List (Str×OO)){x:Str},(x,Kd)∈l->∃c,(cC env l cs).lookup x=some c
 | [],_,_,h=>by simp at h
 | p::r,cs,x,h=>by
  unfold cC;rw [Lr];rcases IP.mp h with e | e
  ·subst e;rw [OJ (by rfl)];exact tY r _ ⟨(env.cells.lookup x).getD 0,by rw [Je];simp⟩
  ·exact pU r _ e
theorem C1{env:Env}{scope:Pc}{x:Str}(h:(relabel scope env).names.lookup x=some .cell\/(relabel scope env).names.lookup x=some .free):scope.names.lookup x=some .free\/scope.names.lookup x=some .cell:=by
 have key:∀(l:List (Str×Pk)),
  ((l.map λ(n,k)=>if (k==Kd && env.scope.kind== .function && env.kindOf n==some .cell) then(n,L7) else(n,k)).lookup x=some .cell\/
  (l.map λ(n,k)=>if (k==Kd && env.scope.kind== .function && env.kindOf n==some .cell) then(n,L7) else(n,k)).lookup x=some .free)->l.lookup x=some .free\/l.lookup x=some .cell:=by
  intro l
  induction l with
  | nil=>intro h;simp at h
  | cons p r ih=>
   obtain⟨n,k⟩:=p;intro h;rw [IA] at h;rw [Je];by_cases hx:x=n
   ·subst hx;rw [beq_self_eq_true];by_cases hq:(k==Kd && env.scope.kind== .function && env.kindOf x==some .cell)=true
    ·have:k= .free:=by simp only [Kk,beq_iff_eq] at hq;exact hq.1.1
     subst this;exact .inl rfl
    ·simp only [OI hq,Je,beq_self_eq_true] at h;exact h.symm
   ·have hb:(x==n)=false:=by simpa using hx
    rw [hb];refine ih ?_;by_cases hq:(k==Kd && env.scope.kind== .function && env.kindOf n==some .cell)=true
    ·simpa only [OJ hq,Je,hb] using h
    ·simpa only [OI hq,Je,hb] using h
 exact key scope.names h
theorem C2{env:Env}{scope:Pc}{x:Str}(h:scope.names.lookup x=some .cell\/scope.names.lookup x=some .free):(relabel scope env).names.lookup x=some .cell\/(relabel scope env).names.lookup x=some .free:=by
 have key:∀(l:List (Str×Pk)),l.lookup x=some .cell\/l.lookup x=some .free->
  ((l.map λ(n,k)=>if (k==Kd && env.scope.kind== .function && env.kindOf n==some .cell) then(n,L7) else(n,k)).lookup x=some .cell\/
  (l.map λ(n,k)=>if (k==Kd && env.scope.kind== .function && env.kindOf n==some .cell) then(n,L7) else(n,k)).lookup x=some .free):=by
  intro l
  induction l with
  | nil=>intro h;simp at h
  | cons p r ih=>
   obtain⟨n,k⟩:=p;intro h;rw [IA];by_cases hx:x=n
   ·subst hx;rw [Je,beq_self_eq_true] at h;by_cases hq:(k==Kd && env.scope.kind== .function && env.kindOf x==some .cell)=true
    ·left;simp only [OJ hq,Je,beq_self_eq_true]
    ·simp only [OI hq,Je,beq_self_eq_true];exact h
   ·have hb:(x==n)=false:=by simpa using hx
    rw [Je,hb] at h;by_cases hq:(k==Kd && env.scope.kind== .function && env.kindOf n==some .cell)=true
    ·simpa only [OJ hq,Je,hb] using ih h
    ·simpa only [OI hq,Je,hb] using ih h
 exact key scope.names h
structure bz (sc:Pc) (N N':List Str) (k:Nat) (fr:List Nat) (scope:Pc):Prop where
 kind:scope.kind= .function
 cell:∀y∈scope.names,y.2= .cell->scope.names.lookup y.1=some .cell
 names:∀y∈scope.names,y.2= .local->scope.names.lookup y.1=some .local
 nd:N'.Nodup
 slot:fr.map (λj=>N[j]?)=(N'.drop k).map some
 frees:∀x∈N'.drop k,scope.names.lookup x=some .free
 outer:∀y∈scope.names,y.2= .free->sc.names.lookup y.1=some .cell\/sc.names.lookup y.1=some .free
 outer':∀x∈N'.drop k,sc.names.lookup x=some .cell\/sc.names.lookup x=some .free
 len:N'.length=k+fr.length
theorem qQ:∀(l:List (Str×Pk)){n:Nat}{a:List (Str×OO)}{x:Str}{c:OO},(Ph n l a).lookup x=some c->n<=c\/a.lookup x=some c
 | [],_,_,_,_,h=>.inr h
 | (y,k)::r,n,a,x,c,h=>by
  unfold Ph at h;split at h
  ·rcases qQ r h with z | z
   ·exact .inl OH
   ·rw [Je] at z;split at z
    ·exact .inl (by cases z;exact IB _)
    ·exact .inr z
  ·exact qQ r h
theorem tZ:∀(l:List (Str×Pk)){n:Nat}{a:List (Str×OO)}{x:Str}{c:OO},l.lookup x=some .cell->(Ph n l a).lookup x=some c->n<=c
 | [],_,_,_,_,e,_=>nomatch e
 | (y,k)::r,n,a,x,c,e,h=>by
  unfold Ph at h;rw [Je] at e;cases hx:x==y with
  | true=>
   rw [hx] at e;cases e;have h:Lv x (Ph (n+1) r ((y,n)::a))=some c:=h;rcases qQ r h with z | z
   ·exact MC z
   ·rw [Je,hx] at z;cases z;exact IB _
  | false=>
   rw [hx] at e;split at h
   ·exact MC (tZ r e h)
   ·exact tZ r e h
theorem t5:∀(l:List (Str×Pk)){n:Nat}{a:List (Str×OO)}{x:Str},(∀y∈l,y.2= .cell->y.1≠x)->(Ph n l a).lookup x=a.lookup x
 | [],_,_,_,_=>rfl
 | (y,k)::r,n,a,x,h=>by
  unfold Ph;split
  ·rename_i hk;rw [t5 r λz hz=>h z (Jm _ hz),Je];have:(x==y)=false:=by simpa using Ne.symm (h (y,k) KZ (by simpa using hk))
   rw [this]
  ·exact t5 r λz hz=>h z (Jm _ hz)
theorem t6:∀(l:List (Str×Pk)){n:Nat}{a:List (Str×OO)},(∀x c,a.lookup x=some c->c < n)->(∀x y c,a.lookup x=some c->a.lookup y=some c->x=y)->∀x y c,(Ph n l a).lookup x=some c->(Ph n l a).lookup y=some c->x=y
 | [],_,_,_,h=>h
 | (z,k)::r,n,a,hl,hi=>by
  unfold Ph;split
  ·have one:∀x c,((z,n)::a).lookup x=some c->x=z/\c=n\/c < n/\a.lookup x=some c:=λx c e=>by
    rw [Je] at e;cases hx:x==z with
    | true=>rw [hx] at e;cases e;exact .inl ⟨by simpa using hx,rfl⟩
    | false=>rw [hx] at e;exact .inr ⟨hl x c e,e⟩
   refine t6 r (λx c e=>?_) λx y c e1 e2=>?_
   ·rcases one x c e with⟨_,z⟩ | ⟨z,_⟩
    ·rw [z];exact MN _
    ·exact NQ z
   ·rcases one x c e1 with⟨a1,b1⟩ | ⟨a1,b1⟩ <;> rcases one y c e2 with⟨a2,b2⟩ | ⟨a2,b2⟩
    ·rw [a1,a2]
    ·omega
    ·omega
    ·exact hi x y c b1 b2
  ·exact t6 r hl hi
theorem t7:∀(l:List (Str×Pk)){h:O3}{a:List (Str×OO)},(∀x c,a.lookup x=some c->∃v,h.IsCell c v)->∀x c,(Ph h.objs.size l a).lookup x=some c->∃v,(pushCells h l).IsCell c v
 | [],_,_,h=>h
 | (z,k)::r,h,a,ha=>by
  unfold Ph pushCells;split
  ·have:=t7 r (h:=h.push {cls:= .type "cell",data:= .cell none}) (a:=(z,h.objs.size)::a) λx c e=>by
    rw [Je] at e;split at e
    ·cases e;exact⟨none,_,Jh _ rfl,rfl⟩
    ·obtain⟨v,q⟩:=ha x c e;exact⟨v,q.keeps λb o e=>Iz _ e⟩
   rwa [LS] at this
  ·exact t7 r ha
def qR(X:Cx)(scope:Pc)(C:OO):List (Str×OO):=Ph (C+1) scope.names (cC X.env scope.names [])
def bt(X:Cx)(scope:Pc)(N':List Str)(fp:List OO)(C:OO)(s:OP)(H:Hp):Cx where
 prog:=X.prog
 w:=X.w
 K:=X.K
 mg:=X.mg
 base:=X.base
 A:=X.A
 N:=N'
 s₀:=s
 H₀:=H
 env:=compEnvC scope (qR X scope C) C X.env
 outer:=X.stack
 stack:=X.stack
 ex:=fp
 fn:=λx=>scope.names.lookup x==some .cell
 calm:=X.calm
 pn:=[]
 xe:=λ_ _=>False
def aS(k:Nat)(fr:List Nat)(σ:St):St:=IJ k none++fr.map λj=>(σ[j]?).join
def nS(σ σ':St):Prop:=σ.length=σ'.length/\∀(i:Nat) v,σ[i]?=some (some v)->σ'[i]?=some (some v)
section
variable {X:Cx} {Qm:List (OO×Obj)} {σ:St} {H:Hp} {s:OP} {scope:Pc} {N':List Str} {k:Nat} {fr:List Nat} {fp:List OO}
theorem qS(S:bz X.env.scope X.N N' k fr scope)(I:aa X Qm σ H s):∀x c,(cC X.env scope.names []).lookup x=some c->X.env.cells.lookup x=some c:=λx c e=>tX scope.names [] (λy hy e=>I.ok.has y.1 (S.outer y hy e)) (λ_ _ z=>by simp at z) e
theorem wG(S:bz X.env.scope X.N N' k fr scope)(I:aa X Qm σ H s){x:Str}{c:OO}(e:(qR X scope s.heap.objs.size).lookup x=some c):s.heap.objs.size < c\/X.env.cells.lookup x=some c:=
 (qQ _ e).imp (λz=>z) λz=>qS S I x c z
theorem C3(S:bz X.env.scope X.N N' k fr scope)(I:aa X Qm σ H s)(hf:∀b∈fp,lY X Qm H b)(hlt:∀b∈fp,b < s.heap.objs.size):
 (bt X scope N' fp s.heap.objs.size s H).Ok:=by
 have hcl:=qS S I;refine⟨I.ok.mod,S.kind,I.ok.glob,I.ok.blt,IB _,t6 _ (λx c e=>?_) (λx y c h1 h2=>I.ok.inj x y c (hcl x c h1) (hcl y c h2)),λx hx=>K3.mp (L5 _ _ _ ?_),λx c h e=>MC (tZ _ (eq_of_beq h) e),I.ok.hd,I.ok.frames,.inl rfl,λb hb=>⟨IZ (hlt b hb),λx c e=>?_⟩,
  I.bs,Jx I.ok.bsz I.sz,λb o e hb=>?_,λb hb hb'=>?_,I.stack,I.stkFree⟩
 ·obtain⟨v,o,ho,_⟩:=I.cell x c (hcl x c e);exact NQ (IC ho)
 ·rcases C1 hx with z | z
  ·exact .inr (K3.mpr (pU _ _ (J6 z)))
  ·exact .inl z
 ·rcases wG S I e with z | z
  ·exact λq=>absurd (hlt b hb) (by rw [<-q];exact Nat.lt_asymm z)
  ·exact(hf b hb).2.2.2.2.1 x c z
 ·rcases(hf b hb).2.2.2.1 with z | z
  ·exact I.ok.noex b o e z
  ·exact absurd (IM (IC e) (Jx I.ok.bsz z)) (Kb _)
 ·rcases IP.mp (I.stkSub b hb') with z | z
  ·exact(hf b hb).2.1 z
  ·exact(hf b hb).2.2.1 z
theorem C4(S:bz X.env.scope X.N N' k fr scope)(I:aa X Qm σ H s)(hf:∀b∈fp,lY X Qm H b)(hlt:∀b∈fp,b < s.heap.objs.size){o:Obj}{h':O3}(e':h'=pushCells (s.heap.push o) scope.names)
 (hn:h'.Ns s.heap.objs.size (λ_=>none))(hk:∀b o,s.heap.get? b=some o->h'.get? b=some o):
 aa (bt X scope N' fp s.heap.objs.size s H) [] (aS k fr σ) H {s with heap:=h'}:=by
 have hcl:=qS S I;refine⟨C3 S I hf hlt,rfl,I.bare,Un.kept hk,⟨_,hn,λi x v h1 h2 h3=>?_⟩,λx c e=>?_,I.hok.fresh (IB _),λx c e=>?_,λp hp=>absurd hp (by simp [bt]),I.hok.kept hk,?_⟩
 ·have hi:k<=i:=by
   rcases Li i k with z | z
   ·exfalso;unfold aS at h2;rw [K0 (by simpa using z),Ll,OJ z] at h2;cases h2
   ·exact z
  have h2':(fr.map λj=>(σ[j]?).join)[i - k]?=some (some v):=by
   unfold aS at h2;rw [Le (by simpa using hi)] at h2;simpa using h2
  have h1':(N'.drop k)[i - k]?=some x:=by
   rw [List.getElem?_drop,Nat.add_sub_cancel' hi];exact h1
  have hmem:x∈N'.drop k:=Jj h1';have e2:(fr.map λj=>X.N[j]?)[i - k]?=some (some x):=by
   rw [S.slot,IS,h1'];rfl
  obtain⟨j,hj,ej⟩:∃j,fr[i - k]?=some j/\X.N[j]?=some x:=by
   rw [IS] at e2;cases e:fr[i - k]? with
   | none=>rw [e] at e2;cases e2
   | some j=>rw [e] at e2;exact⟨j,rfl,Jr e2⟩
  have hv:σ[j]?=some (some v):=by
   rw [IS,hj] at h2';have h3':(σ[j]?).join=some v:=Jr h2';cases e:σ[j]? with
   | none=>rw [e] at h3';cases h3'
   | some o=>rw [e] at h3';rw [show o=some v from h3']
  obtain⟨m,hn0,hl⟩:=I.loc;have ho:=S.outer' x hmem;obtain⟨u,ru,lk⟩:=hl j x v ej hv (.inr ho);refine⟨u,ru,.inr ⟨C2 (.inr (S.frees x hmem)),?_⟩⟩;rcases lk with⟨z,_⟩ | ⟨_,c,hc,hx⟩
  ·exfalso;rcases ho with ho | ho
   ·exact absurd (z.symm.trans ho) OL
   ·exact absurd (z.symm.trans ho) OL
  ·obtain⟨c',hc'⟩:=pU (env:=X.env) scope.names [] (J6 (S.frees x hmem));have:=hcl x c' hc';rw [hc] at this;cases this;obtain⟨o,ho,hd⟩:=hx;exact⟨c,(t5 _ λy hy ey ex=>by have q:=S.cell y hy ey;rw [ex,S.frees x hmem] at q;cases q).trans hc',o,hk c o ho,hd⟩
 ·subst e';have:=t7 scope.names (h:=s.heap.push o) (a:=cC X.env scope.names []) (λx c e=>by
   obtain⟨v,q⟩:=I.cell x c (hcl x c e);exact⟨v,q.keeps λb o e=>Iz _ e⟩) x c
  rw [LS] at this;exact this e
 ·rcases wG S I e with z | z
  ·exact I.hok.fresh (LO z)
  ·exact I.freeC x c z
 ·unfold aS;show _=N'.length;rw [Js,Lc,Iw,S.len]
end
section
variable {prog:OZ} {w:O4} {A:O5} {E:ON->OP->Prop} {R:Result->OP->Prop} {s:OP}
theorem C5{elt target iter:OR}{ifs:List OR}{scope:Pc}{pos:Pos}{it acc:ON}{env:Env}(I:Nat->OP->Prop)
 (turn:∀n s,I n s->OV (OU prog w) A (pyNext it) (λr s₁=>match r with
  | none=>R (.ok .next) s₁
  | some v=>OV (OU prog w) A (P8 target it v) (λ_ s₁'=>OV (OU prog w) A (assign target env v) (λ_ s₂=>
   OV (OU prog w) A (forIn ifs true λc r=>if r=true then do let ok<-isTrue c env (eval c env);pure (Lq ok) else pure (Lq r)) (λok s₃=>
    if ok=true then OV (OU prog w) A (eval elt env) (λx s₄=>
     OV (OU prog w) A (call (.builtin "list.append") [acc,x]) (λ_ s₅=>∃m,m < n/\I m s₅) (λ_ _=>False) s₄) (λ_ _=>False) s₃
    else ∃m,m < n/\I m s₃) (λ_ _=>False) s₂) (λ_ _=>False) s₁') (λ_ _=>False) s₁) (λ_ _=>False) s)
 (n:Nat)(h:I n s):
 PL (OU prog w) A (.compLoop (.ListComp elt [⟨target,iter,ifs,0⟩] scope pos) 0 it acc env) R s:=by
 refine codeAny_loop rfl I (λn s hI=>?_) n h;show OV _ A ((compTurn (.ListComp elt [⟨target,iter,ifs,0⟩] scope pos) 0 it acc env).onRaise (λx=>do noteFrame x env;theTreesLotGoes x)) _ _ s;refine wpAny_noted ?_;rw [compTurn_list];refine OQ (Qe (OQ (Pe (turn n s hI) (λr s₁ h₁=>?_) λ_ _ h'=>h'.elim)));cases r with
 | none=>exact OT h₁
 | some v=>
  refine OQ (Pe h₁ (λ_ s₁' h₁'=>?_) λ_ _ h'=>h'.elim);refine OQ (Pe h₁' (λ_ s₂ h₂=>OQ (Pe h₂ (λok s₃ h₃=>?_) λ_ _ h'=>h'.elim)) λ_ _ h'=>h'.elim);cases ok with
  | false=>exact OT ⟨rfl,h₃⟩
  | true=>
   exact OQ (OQ (Pe h₃ (λx s₄ h₄=>OQ (Pe h₄ (λ_ s₅ h₅=>OT (OT ⟨rfl,h₅⟩)) λ_ _ h'=>h'.elim)) λ_ _ h'=>h'.elim))
end
def dY(X:Cx)(ifs:List OR)(t:TT):Prop:=
 ∀(Qm:List (OO×Obj))(s:OP)(σ:St)(H:Hp)(Q:Bool->Hp->Prop),aa X Qm σ H s->t σ H Q->
  OV (OU X.prog X.w) X.A (forIn ifs true λc r=>if r=true then do let ok<-isTrue c X.env (eval c X.env);pure (Lq ok) else pure (Lq r)) (TP X Qm σ Q) X.xe s
def wH:TT:=λ_ H Q=>Q true H
theorem wI{X:Cx}:dY X [] wH:=λQm s σ H Q I h=>wpAny_tests_nil ⟨H,I,h⟩
theorem mC{X:Cx}{c:OR}{t:TT}(h:PT X c t):dY X [c] t:=λQm s σ H Q I hq=>wpAny_tests_one (h Qm s σ H Q I hq)
theorem bf.but{P:OZ}{w:O4}{H:Hp}{h h':O3}{C:OO}(x:bf P w H h)(hC:H C=none)(k:∀b o,b≠C->h.get? b=some o->h'.get? b=some o):bf P w H h':=λa o e=>by
 refine(x a o e).stay (λb u hb q=>k b u ?_ q) (λ_ q=>q) (λ_ _ q=>q) λ_ _ q=>q;intro z;subst z;rcases hb with z | z
 ·rw [<-z,hC] at e;cases e
 ·rw [hC] at z;cases z
theorem C6{M:Model}{A:O5}{E:ON->OP->Prop}{s:OP}{scope:Pc}{g:OO}{cl:List (Str×OO)}{qual:Str}{e:Env}{Q:Env->OP->Prop}
 (hQ:∀h',h'=pushCells (s.heap.push {cls:= .type "dict",data:= .dict #[]}) scope.names->h'.Ns s.heap.objs.size (λ_=>none)->(∀b o,s.heap.get? b=some o->h'.get? b=some o)->
  Q (newEnv scope s.heap.objs.size g (Ph (s.heap.objs.size+1) scope.names cl) qual none .none (some e) PV) {s with heap:=h'}):
 OV M A (newFunctionEnv scope g cl [] qual none .none (some e)) Q E s:=by
 simp only [newFunctionEnv,NA,if_true];refine OQ (wpAny_alloc (OQ (wpAny_layCells _ (λname kind cells=>by cases hkc:kind==L7 <;> simp [hkc]) _ _ _ _ ?_)));rw [show({s with heap:=s.heap.push {cls:= .type "dict",data:= .dict #[]}}:OP).heap.objs.size=s.heap.objs.size+1 from LS ..];rw [N8];exact OQ (OT (OT (hQ _ rfl ((Heap.Ns.new s.heap (.type "dict")).keeps (pushCells_keeps _ _)) λb o e=>pushCells_keeps _ _ b o (Iz _ e))))
def ni(wi:TI)(g:TG)(tc:TT)(te:TE)(k:Nat)(fr:List Nat):TE:=λσ H Q=>wi σ H λJ H1=>∀D,H1 D=none->∃W:Nat->Nat->Hp->Prop,(∃m,W 0 m (ak H1 D (.lst [])))/\∀i m H,W i m H->
 (J.stop i H/\Q (.ref D) H)\/(J.go i H/\∀x H',J.yld i H x H'->g x (aS k fr σ) H' λσ2 H2=>nS (aS k fr σ) σ2/\tc σ2 H2 λok H3=>
  if ok=true then te σ2 H3 λy H4=>∃ys,H4 D=some (.lst ys)/\ys.length < OS/\∃m',m' < m/\W (i+1) m' (ak H4 D (.lst (ys++[y])))
  else ∃m',m' < m/\W (i+1) m' H3)
section
variable {X:Cx} {tg iter elt:OR} {ifs:List OR} {scope:Pc} {N':List Str} {k:Nat} {fr:List Nat} {wi:TI} {g:TG} {tc:TT} {te:TE} {pos:Pos}
theorem wJ{use:Option (ON->Sem Unit)}{Q':ON->OP->Prop}{Qm:List (OO×Obj)}{s:OP}{σ:St}{H:Hp}{Q:VK}(hc:X.calm=true)(S:bz X.env.scope X.N N' k fr scope)(hi:PI X tg iter wi)
 (hg:∀fp C s H,PG (bt X scope N' fp C s H) tg g)(hf:∀fp C s H,dY (bt X scope N' fp C s H) ifs tc)(he:∀fp C s H,PE (bt X scope N' fp C s H) elt te)
 (I:aa X Qm σ H s)(h:ni wi g tc te k fr σ H Q)
 (hQ:∀D C s' H',C≠X.env.locals->aa X Qm σ H' s'->(∀h',LP C s'.heap h'->aa X Qm σ H' {s' with heap:=h'})->Q (.ref D) H'->(∃m,s'.heap.Ns C m)->X.env.locals < C->H' C=none/\(∀x c,X.env.cells.lookup x=some c->c≠C)/\(∀p∈X.pn++Qm,p.1≠C)->compPost (OU X.prog X.w) X.A X.xe use Q' (.ref D) C (.ok .next) s'):
 OV (OU X.prog X.w) X.A (eval iter X.env) (λx s₁=>OV (OU X.prog X.w) X.A (pyIter x) (λit s₂=>OV (OU X.prog X.w) X.A (newList []) (λacc s₃=>
  OV (OU X.prog X.w) X.A (newFunctionEnv scope X.env.globals (cC X.env scope.names []) [] X.env.qual none .none (some X.env)) (λcenv s₄=>
   PL (OU X.prog X.w) X.A (.compStart (.ListComp elt [⟨tg,iter,ifs,0⟩] scope pos) 0 it acc {cenv with scope:=relabel scope X.env}) (compPost (OU X.prog X.w) X.A X.xe use Q' acc cenv.locals) s₄) X.xe s₃) X.xe s₂) X.xe s₁) X.xe s:=by
 refine au (hi Qm s σ H _ I h) λv s1 h1=>au h1 λitv s2 h2=>?_;obtain⟨it,fp,tn,J,H2,e,I2,T,st2,f2,wW⟩:=h2;subst e;refine Pf ?_;have hD0:H2 s2.heap.objs.size=none:=I2.hok.fresh (IB _);obtain⟨W,⟨m0,w0⟩,turn⟩:=wW _ hD0;generalize hD:s2.heap.objs.size=D at*;have I3:aa X Qm σ (ak H2 D (.lst [])) {s2 with heap:=s2.heap.push {cls:= .type "list",dict:=none,data:= .seq ([]:List ON).toArray}}:=by
  have:=I2.lnew (ys:=[]) (its:=[]) (t':=s2.toks) .nil (J1 _);rw [hD] at this;exact this
 generalize hs3:({s2 with heap:=s2.heap.push {cls:= .type "list",dict:=none,data:= .seq ([]:List ON).toArray}}:OP)=s3 at*;have up23:∀b o,s2.heap.get? b=some o->s3.heap.get? b=some o:=λb o e=>by rw [<-hs3];exact Iz _ e
 have fpD:∀b∈fp,b≠D:=λb hb z=>by
  obtain⟨o,ho,_⟩:=T.obj _ _ st2 b hb;have:=IC ho;rw [hD,z] at this;exact Kb _ this
 have f3:∀b∈fp,lY X Qm (ak H2 D (.lst [])) b:=λb hb=>⟨by rw [ay (fpD b hb)];exact(f2 b hb).1,(f2 b hb).2⟩;have st3:tn 0 s3.heap:=T.keep _ _ _ st2 λb hb o e=>up23 b o e;have lt3:∀b∈fp,b < s3.heap.objs.size:=λb hb=>by obtain⟨o,ho,_⟩:=T.obj _ _ st3 b hb;exact IC ho
 refine C6 λh₁ e₁ hns₁ up34=>?_;have I4:=C4 S I3 f3 lt3 e₁ hns₁ up34;have st4:tn 0 h₁:=T.keep _ _ _ st3 λb hb o e=>up34 b o e;generalize hX':bt X scope N' fp s3.heap.objs.size s3 (ak H2 D (.lst []))=X' at*;have hg':PG X' tg g:=by rw [<-hX'];exact hg _ _ _ _
 have hf':dY X' ifs tc:=by rw [<-hX'];exact hf _ _ _ _
 have he':PE X' elt te:=by rw [<-hX'];exact he _ _ _ _
 have eP:X'.prog=X.prog:=by rw [<-hX'];rfl
 have eW:X'.w=X.w:=by rw [<-hX'];rfl
 have eK:X'.K=X.K:=by rw [<-hX'];rfl
 have eA:X'.A=X.A:=by rw [<-hX'];rfl
 have eC:X'.calm=true:=by rw [<-hX'];exact hc
 have eE:X'.xe=λ_ _=>False:=by rw [<-hX'];rfl
 have eEnv:X'.env=compEnvC scope (qR X scope s3.heap.objs.size) s3.heap.objs.size X.env:=by rw [<-hX'];rfl
 have fpx:∀{H':Hp},(∀b∈fp,H' b=none)->∀b∈fp,lY X' [] H' b:=λ{H'} hn b hb=>by
  refine⟨hn b hb,?_,?_,.inl ?_,?_,?_⟩
  ·rw [eEnv];exact IZ (lt3 b hb)
  ·have:=I4.ok.exfs b (by rw [<-hX'];exact hb);exact this
  ·rw [<-hX'];exact hb
  ·have:=I4.ok.exf b (by rw [<-hX'];exact hb);exact this.2
  ·intro p hp;rw [<-hX'] at hp;simp [bt] at hp
 have fin:∀(s':OP)(H':Hp)(σ':St),aa X' [] σ' H' s'->Q (.ref D) H'->compPost (OU X.prog X.w) X.A X.xe use Q' (.ref D) s3.heap.objs.size (.ok .next) s':=λs' H' σ' J q=>by
  have un:Un (aI X.stack) fp (ak H2 D (.lst [])) H' s3.heap s'.heap:=by have:=J.base;rw [<-hX'] at this;exact this
  have jos:s'.os=s3.os:=by have:=J.os;rw [<-hX'] at this;exact this
  have hC:H' s3.heap.objs.size=none:=by have:=J.free;rw [eEnv] at this;exact this
  have hok':bf X.prog X.w H' s'.heap:=by have:=J.hok;rw [eP,eW] at this;exact this
  have l9:∀h',LP s3.heap.objs.size s'.heap h'->aa X Qm σ H' {s' with heap:=h'}:=λh' hs'=>by
   have un':Un (aI X.stack) fp (ak H2 D (.lst [])) H' s3.heap h':=
    ⟨λb o e n h1 h2=>hs'.extBut b o (IZ (IC e)) (un.keep b o e n h1 h2),λb o e n h1 h2=>by
     obtain⟨sl,z⟩:=un.slot b o e n h1 h2;exact⟨sl,hs'.extBut b _ (IZ (IC e)) z⟩,un.free,λb o e h2=>by
     obtain⟨o',z⟩:=un.there b o e h2;exact⟨o',hs'.extBut b o' (IZ (IC e)) z⟩,un.tups,un.frzs,un.tbls⟩
   exact aa.call' (s':={s' with heap:=h'}) I3 jos un' (hok'.but hC hs'.extBut) J.bare λb hb=>⟨(f3 b hb).2.2.2.1,(f3 b hb).2.1,(f3 b hb).2.2.2.2.1,(f3 b hb).2.2.2.2.2⟩
  have nsC:∃m,s'.heap.Ns s3.heap.objs.size m:=by
   obtain⟨m,hn,_⟩:=J.loc;rw [eEnv] at hn;exact⟨m,hn⟩
  exact hQ D s3.heap.objs.size s' H' (ML I3.lt) (l9 s'.heap (.refl ..)) l9 q nsC I3.lt
   ⟨hC,λx c e=>by obtain⟨v,o,ho,_⟩:=I3.cell x c e;exact IZ (IC ho),λp hp=>IZ (IC (I3.pin p hp).1)⟩
 have loop:∀s4:OP,s4=({s3 with heap:=h₁}:OP)->
  PL (OU X.prog X.w) X.A (.compLoop (.ListComp elt [⟨tg,iter,ifs,0⟩] scope pos) 0 (.ref it) (.ref D) X'.env) (compPost (OU X.prog X.w) X.A X.xe use Q' (.ref D) s3.heap.objs.size) s4:=by
  rintro s4 rfl;refine C5 (λn s'=>∃i H',aa X' [] (aS k fr σ) H' s'/\tn i s'.heap/\(∀b∈fp,H' b=none)/\W i n H') ?_ m0 ⟨0,_,I4,st4,λb hb=>(f3 b hb).1,w0⟩;rintro n s5 ⟨i,H5,I5,st5,fr5,w5⟩;rcases turn i n H5 w5 with⟨stop,qn⟩ | ⟨go,step⟩
  ·have:=T.done X' eP eW eK eC i [] s5 _ H5 (λ_ _=>False) I5 (fpx fr5) st5 stop;rw [eA] at this;refine au this λr s6 ⟨hr,I6⟩=>?_;subst hr;exact fin s6 H5 _ I6 qn
  ·have:=T.item X' eP eW eK eC i [] s5 _ H5 (λ_ _=>False) I5 (fpx fr5) st5 go;rw [eA] at this;refine au this λr s6 ⟨u,hr,h6⟩=>?_;subst hr;refine au h6 λ_ s7 ⟨x,H7,I7,r7,y7,st7,fr7⟩=>?_;have I7':=I7.pinned (fpx fr7) (T.obj _ _ st7);have h8:=hg' _ s7 _ H7 x u _ I7' r7 (step x H7 y7);rw [eP,eW,eA,eE] at h8;refine au h8 λ_ s8 ⟨σ8,H8,I8,kp,q8⟩=>?_;have h9:=hf' _ s8 σ8 H8 _ I8 q8;rw [eP,eW,eA,eE] at h9;have again:∀{s9:OP}{H9:Hp}{n':Nat},aa X' ([]++pI fp s7.heap) σ8 H9 s9->n' < n->W (i+1) n' H9->∃m,m < n/\∃i H',aa X' [] (aS k fr σ) H' s9/\tn i s9.heap/\(∀b∈fp,H' b=none)/\W i m H':=λ{s9 H9 n'} I9 hn' w9=>by
    refine⟨n',hn',i+1,H9,I9.unpinned.weak kp.1 kp.2,T.keep _ _ _ st7 λb hb o e=>(I9.pin (b,o) (Jo _ (Jo _ (qG hb e)))).1,λb hb=>?_,w9⟩;obtain⟨o,e,d⟩:=T.obj _ _ st7 b hb;exact(I9.pin (b,o) (Jo _ (Jo _ (qG hb e)))).2.1
   refine au h9 λok s9 ⟨H9,I9,q9⟩=>?_;cases ok with
   | false=>
    rw [OI IF] at q9;obtain⟨m',hm',w9⟩:=q9;rw [OI IF];exact again I9 hm' w9
   | true=>
    rw [OJ rfl] at q9;rw [OJ rfl];have h10:=he' _ s9 σ8 H9 _ I9 q9;rw [eP,eW,eA,eE] at h10;refine au h10 λy s10 ⟨yv,H10,I10,r10,ys,hys,hz,m',hm',w10⟩=>?_;have h11:=wB (X:=X') _ s10 σ8 H10 (.ref D) [yv] (.ref D) [y] (λ_ H'=>W (i+1) m' H') I10 rfl (.cons r10 .nil) ⟨D,ys,yv,rfl,rfl,hys,hz,w10⟩;rw [eP,eW,eA,eE] at h11;exact au h11 λ_ s11 uu60=>by obtain⟨_,H11,I11,_,q11⟩:=uu60;exact again I11 hm' q11
 have hE:({newEnv scope s3.heap.objs.size X.env.globals (qR X scope s3.heap.objs.size) X.env.qual none .none (some X.env) PV with scope:=relabel scope X.env}:Env)=X'.env:=by
  rw [eEnv];rfl
 have goal:=codeAny_compStart_list (elt:=elt) (target:=tg) (iter:=iter) (ifs:=ifs) (rest:=[]) (scope:=scope) (pos:=pos) (loop _ rfl) (T.self X.A 0 _ _ _ st4 (loop _ rfl));rw [<-hE] at goal;exact goal
theorem qT(hc:X.calm=true)(S:bz X.env.scope X.N N' k fr scope)(hi:PI X tg iter wi)
 (hg:∀fp C s H,PG (bt X scope N' fp C s H) tg g)(hf:∀fp C s H,dY (bt X scope N' fp C s H) ifs tc)(he:∀fp C s H,PE (bt X scope N' fp C s H) elt te)
 (hs:∀x,O7 iter X.env x=pure x:=by intro _;rfl):PE X (.ListComp elt [⟨tg,iter,ifs,0⟩] scope pos) (ni wi g tc te k fr):=by
 intro Qm s σ H Q I h;have hcell:∀y∈scope.names,y.2= .free->∃c,X.env.cells.lookup y.1=some c:=λy hy e=>I.ok.has y.1 (S.outer y hy e);rw [eval_ListComp];refine Qj (use:=none) rfl hs (tW hcell) S.kind S.names (wJ hc S hi hg hf he I h ?_);intro D C s' H' hC J l9 q ns hlt _;obtain⟨m,hn⟩:=ns;exact⟨m,hn,λh' hs'=>⟨.ref D,H',l9 h' hs',rfl,q⟩⟩
theorem C7{i:Nat}{x:Str}{pos' spos:Pos}(hN:X.N.Nodup)(hxi:X.N[i]?=some x)(hx:mv X.env.scope x)(hc:X.calm=true)(S:bz X.env.scope X.N N' k fr scope)(hi:PI X tg iter wi)
 (hg:∀fp C s H,PG (bt X scope N' fp C s H) tg g)(hf:∀fp C s H,dY (bt X scope N' fp C s H) ifs tc)(he:∀fp C s H,PE (bt X scope N' fp C s H) elt te)
 (hsw:Pg (.ListComp elt [⟨tg,iter,ifs,0⟩] scope pos) (some (.Name x pos')) spos.line X.env=pure true)
 (hs:∀x,O7 iter X.env x=pure x:=by intro _;rfl)(hfn:X.fn x=true\/X.env.scope.names.lookup x=some .local:=by first | exact .inl rfl | exact .inr rfl | assumption):
 PS X (.Assign [.Name x pos'] (.ListComp elt [⟨tg,iter,ifs,0⟩] scope pos) spos) (oH (ni wi g tc te k fr) (lX i)):=by
 intro Qm s σ H D I h;have hcell:∀y∈scope.names,y.2= .free->∃c,X.env.cells.lookup y.1=some c:=λy hy e=>I.ok.has y.1 (S.outer y hy e);rw [exec_Assign_Name_used _ _ _ _ hsw];refine OQ (Qe (OQ ?_));show OV _ X.A (do let _<-comprehension (.ListComp elt [⟨tg,iter,ifs,0⟩] scope pos) scope X.env _ (newList []) false (eval iter X.env) (some (assign (.Name x pos') X.env))) _ _ s;refine OQ (Pe (Qj (use:=some (assign (.Name x pos') X.env)) (Q:=λ_ s'=>∃σ' H',aa X Qm σ' H' s'/\D.nx σ' H') rfl hs (tW hcell) S.kind S.names (wJ hc S hi hg hf he I h ?_)) (λ_ s' hq=>OT (OT hq)) λ_ _ e=>e);intro D' C s' H' hC J l9 q ns hlt ⟨c1,c2,c3⟩;obtain⟨m,hn⟩:=ns;show OV _ X.A (assign (.Name x pos') X.env (.ref D')) _ _ _;refine wpAny_assign_Name (vG J hN hxi hx (v:= .ref D') rfl (λs2 J2 sb=>?_) hfn);obtain⟨a,sb,ha⟩:=sb;have hCa:C≠a:=by
  rcases ha with z | z
  ·rw [z];exact hC
  ·exact Ne.symm (c2 _ _ z)
 refine⟨m,hn.sameBut sb hCa,λh3 hs3=>⟨_,H',?_,q⟩⟩;exact J2.turned (t':=s2.toks) hs3.extBut c1 hC (.inr (Jx J.ok.above (LO hlt))) c2 c3
end
section
variable {X:Cx}
theorem t8(hc:X.calm=true):cI X (.builtin "sum") (λxs H Q=>∃(a:OO)(ns:List Int),xs=[.ref a]/\aV X.K H a (ns.map V.int)/\Q (.int ns.sum) H):=by
 intro Qm s σ H xs us Q I r h;obtain⟨a,ns,rfl,hl,q⟩:=h;obtain⟨u,rfl,rx⟩:=lZ r;cases rx;obtain⟨its,rv,p,hz⟩:=I.list hl;have hi:IntsAre its ns:=CF rv;have hall:AllInts its.toArray:=hi.allInts;obtain⟨ys,hys⟩:=hall.items;have hn:numsOf its.toArray.toList=ns:=by rw [show its.toArray.toList=its from rfl,hi.numsOf]
 rw [hys,nums_intItems] at hn;have hl':=p.isList;rw [hys] at hl';refine sum_intListG (I.ok.hd hc) hl' λh' tk t' hk=>?_;refine⟨.int ns.sum,H,I.kept hk,⟨t',?_⟩,q⟩;rw [preSum_eq,Kl OL,hn]
end
end L2
namespace Att
open PySem PySem.W PySem.Calls PyProof.Rows
theorem C8{ns:List Int}(h:NY [MG (ns.map Lp)]=true):∀n∈ns,KD n<=1048576:=by
 have h1:(MG (ns.map Lp)).layable=true:=by simpa [NY] using h
 have h2:(MG (ns.map Lp)).weight<=1048576:=(PySem.W.layableW_iff.mp h1).2.2;have key:∀l:List Int,∀n∈l,KD n<=LJ (l.map Lp):=by
  intro l
  induction l with
  | nil=>intro n hn;simp at hn
  | cons x r ih=>
   intro n hn;have e:LJ ((x::r).map Lp)=KD x+1+LJ (r.map Lp):=by
    rw [IA,LJ,Oo];rfl
   rw [e];rcases IP.mp hn with z | z
   ·subst z;omega
   ·have:=ih n z;omega
 intro n hn;have e:(MG (ns.map Lp)).weight=LJ (ns.map Lp):=by rw [Oo]
 rw [e] at h2;exact Jx (key ns n hn) h2
theorem attach_callB{l:OpenLaw}{n:Nat}{q:OZ}{loose:List Str}{XP:(Str->Option ON)->O3->Prop}{YP:O4->O3->Prop}{d:DefRec}
 (hn:l.most=some n)(hdf:d.params.defaults=[])
 (call:∀(w:O4) (s₀ s₁:OP) (mg mb:Str->Option ON) (fa:OO) (o:Obj) (pm cd doc:ON) (a:OO) (vs:List ON) (ns:List Int),
  Ground q loose [] XP w s₀ mg mb s₁.heap->YP w s₁.heap->
  s₁.heap.get? fa=some o->o.data= .func (docDef d.name d.params d.body d.scope pm cd doc)->s₁.heap.CodeRec cd d.name->mg d.name=some (.ref fa)->
  s₁.heap.get? a=some {cls:= .type "list",data:= .seq vs.toArray}->IntsAre vs ns->ns.length<=n->(∀z∈ns,KD z<=1048576)->s₁.gens=#[]->
  PL (OU l.prog w) callerA (.call (.ref fa) ⟨[.ref a],[]⟩) (λr s'=>r= .ok (.ret (.bool true))/\OldK s₁.heap s'.heap/\s'.os=s₁.os/\PX s'.gens) s₁):
 WalkO q loose XP YP l.row.toRowW d [] (λf vs=>OD f vs):=by
 intro w s₀ s₁ mg mb G Y fa o pm cd doc dV kV ho hd hcd hD hmg hg args vals as hpre hlay hrd hwl hlo;obtain rfl:dV= .none:=Dflts.none hD hdf;obtain rfl:kV= .none:=Dflts.noKw hD;obtain⟨a,vs,ns,rfl,rfl,hobj,hints,hlen⟩:=CZ hn hpre hwl;have hb:∀z∈ns,KD z<=1048576:=C8 hlay;refine enter_call (PF (call w s₀ s₁ mg mb fa o pm cd doc a vs ns G Y ho (fd_plain hd) hcd hmg hobj hints hlen hb hg) λr s' hq=>?_);obtain⟨rfl,h2,h3,h4⟩:=hq;exact⟨.inl ⟨.bool true,.bool true,[],rfl,λ_=>rfl,.bool true,C0 l _,λ_=>⟨List.Pairwise.nil,λ_ hm=>(nomatch hm)⟩⟩,h2,h3,h4⟩
end Att
namespace L2
open PySem PySem.Spec PyProof.Rows
def oK(p:OO)(H H':Hp):Prop:=∀b o,H b=some o->b≠p->H' b=some o
theorem ah.new{H:Hp}{p:OO}{o:HO}(h:H p=none):ah H (ak H p o):=λb u e=>by rw [ay (cw e h)];exact e
def FR(J:It)(g:TG)(tb:TS)(D:mQ)(σ:St)(H1:Hp):Prop:=∃W:Nat->Nat->St->Hp->Prop,(∃m,W 0 m σ H1)/\∀i m σ H,W i m σ H->
 (J.stop i H/\D.nx σ H)\/(J.go i H/\∃N:St->Hp->Prop,(∀σ' H',N σ' H'->∃m',m' < m/\W (i+1) m' σ' H')/\∀x H',J.yld i H x H'->g x σ H' λσ2 H2=>tb {D with nx:=N,ct:=N,bk:=D.nx} σ2 H2)
theorem wK{ta:TA}{g:TG}{tb:TS}:pH (ti ta) g tb=λD σ H=>ta σ H λvs H1=>∃j:Int,vs=[.int j]/\-(2 ^ 62)<=j/\j < 2 ^ 62/\FR (mx 0 j.toNat) g tb D σ H1:=rfl
theorem wL{ta:TA}{g:TG}{tb:TS}:pH (tj ta) g tb=λD σ H=>ta σ H λvs H1=>∃i j:Int,vs=[.int i,.int j]/\(-(2 ^ 62)<=i/\i < 2 ^ 62/\-(2 ^ 62)<=j/\j < 2 ^ 62)/\FR (mx i (j - i).toNat) g tb D σ H1:=rfl
theorem wM{K:Iq}{tl:TE}{g:TG}{tb:TS}:pH (sX K tl) g tb=λD σ H=>tl σ H λx H1=>∃a,x= .ref a/\(∃xs,aV K H1 a xs)/\FR (pF K a) g tb D σ H1:=rfl
theorem wN{K:Iq}{tl:TE}{g:TG}{tb:TS}:pH (sY K tl) g tb=λD σ H=>tl σ H λx H1=>∃a,x= .ref a/\(∃xs,aZ K H1 a xs)/\FR (pG K a) g tb D σ H1:=rfl
def nT(J:It)(g:TG)(tc:TT)(te:TE)(k:Nat)(fr:List Nat)(σ:St)(H1:Hp)(Q:VK):Prop:=∀D,H1 D=none->∃W:Nat->Nat->Hp->Prop,(∃m,W 0 m (ak H1 D (.lst [])))/\∀i m H,W i m H->
 (J.stop i H/\Q (.ref D) H)\/(J.go i H/\∀x H',J.yld i H x H'->g x (aS k fr σ) H' λσ2 H2=>nS (aS k fr σ) σ2/\tc σ2 H2 λok H3=>
  if ok=true then te σ2 H3 λy H4=>∃ys,H4 D=some (.lst ys)/\ys.length < OS/\∃m',m' < m/\W (i+1) m' (ak H4 D (.lst (ys++[y])))
  else ∃m',m' < m/\W (i+1) m' H3)
theorem wO{ta:TA}{g:TG}{tc:TT}{te:TE}{k:Nat}{fr:List Nat}:ni (ti ta) g tc te k fr=λσ H Q=>ta σ H λvs H1=>∃j:Int,vs=[.int j]/\-(2 ^ 62)<=j/\j < 2 ^ 62/\nT (mx 0 j.toNat) g tc te k fr σ H1 Q:=rfl
theorem wQ{ta:TA}{g:TG}{tc:TT}{te:TE}{k:Nat}{fr:List Nat}:ni (tj ta) g tc te k fr=λσ H Q=>ta σ H λvs H1=>∃i j:Int,vs=[.int i,.int j]/\(-(2 ^ 62)<=i/\i < 2 ^ 62/\-(2 ^ 62)<=j/\j < 2 ^ 62)/\nT (mx i (j - i).toNat) g tc te k fr σ H1 Q:=rfl
theorem wR{K:Iq}{tl:TE}{g:TG}{tc:TT}{te:TE}{k:Nat}{fr:List Nat}:ni (sX K tl) g tc te k fr=λσ H Q=>tl σ H λx H1=>∃a,x= .ref a/\(∃xs,aV K H1 a xs)/\nT (pF K a) g tc te k fr σ H1 Q:=rfl
theorem wU{K:Iq}{tl:TE}{g:TG}{tc:TT}{te:TE}{k:Nat}{fr:List Nat}:ni (sY K tl) g tc te k fr=λσ H Q=>tl σ H λx H1=>∃a,x= .ref a/\(∃xs,aZ K H1 a xs)/\nT (pG K a) g tc te k fr σ H1 Q:=rfl
theorem wV{fr:List Nat}{σ:St}{v:Option V}:nS (aS 1 fr σ) ((aS 1 fr σ).set 0 v):=by
 refine⟨OL,λi w h=>?_⟩;cases i with
 | zero=>simp [aS,IJ] at h
 | succ i=>simpa [aS,IJ] using h
theorem C9{lo:Int}{n:Nat}{te:TE}{fr:List Nat}{σ:St}{H:Hp}{Q:VK}(f:Nat->V)(hn:n<=1000000)
 (ht:∀(i:Nat) (H':Hp) (R:VK),i < n->ah H H'->(∀H'',ah H' H''->R (f i) H'')->te ((aS 1 fr σ).set 0 (some (.int (lo+i)))) H' R)
 (hq:∀D H',H D=none->ah H H'->H' D=some (.lst ((JP n).map f))->Q (.ref D) H'):nT (mx lo n) (lX 0) wH te 1 fr σ H Q:=by
 intro D hD;refine⟨λi m H'=>m=n - i/\i<=n/\ah H H'/\H' D=some (.lst ((JP i).map f)),⟨n,OL,J1 _,ah.new hD,by rw [bg];rfl⟩,?_⟩;rintro i m H1 ⟨rfl,hi,s1,e1⟩;by_cases hlt:i < n
 ·refine .inr ⟨hlt,λx H' y=>?_⟩;obtain⟨e,y⟩:=y;subst e y;refine⟨wV,?_⟩;show te _ _ _;refine ht i H' _ hlt s1 λH2 s2=>?_;refine⟨_,s2 D _ e1,?_,n - (i+1),OH,rfl,hlt,?_,?_⟩
  ·rw [Iw,Lw,O8];omega
  ·exact λb o h=>by rw [ay (cw h hD)];exact s2 b o (s1 b o h)
  ·rw [bg,MY,J3];rfl
 ·have e:i=n:=OH
  subst e;exact .inl ⟨IB _,hq D H1 hD s1 e1⟩
theorem cxK{CX:dJ}{P:OZ}{w:O4}{K:Iq}{mg:Str->Option ON}{base:O3}{N:List Str}{qual:Str}{scope:Pc}{f:OO}{cd:ON}{A:O5}{outer:List Env}{s:OP}{H:Hp}{E:XK}:(aX CX P w K mg base N qual scope f cd A outer s H E).K=K:=rfl
theorem cmK{X:Cx}{scope:Pc}{N':List Str}{fp:List OO}{C:OO}{s:OP}{H:Hp}:(bt X scope N' fp C s H).K=X.K:=rfl
theorem oM{K:Iq}{p:OO}{xs:List V}{i:Int}{v:V}{H:Hp}{Q:VK}(h:aZ K H p xs)(hv:atI xs i=some v)(q:Q v H):qO K (.ref p) (.int i) H Q:=⟨p,xs,i,v,rfl,rfl,h,hv,q⟩
theorem wX{a b:Int}:(if b < a then b else a)=min a b:=by
 by_cases h:b < a
 ·rw [OJ h];omega
 ·rw [OI h];omega
theorem l4:Pb "isinstance"=some (.builtin "isinstance"):=OF
theorem nU:Pb "int"=some (.type "int"):=OF
theorem ua:Pb "bool"=some (.type "bool"):=OF
theorem Dc:Pb "str"=some (.type "str"):=OF
theorem pV:Pb "tuple"=some (.type "tuple"):=OF
open PySem PySem.Spec PyProof.Rows PySem.W
def aL(P:OZ)(w:O4):dJ:=λouter H s E ev s'=>∃(e:OO)(cls a0:ON)(B:O3)(H':Hp),ev= .ref e/\s'.os=s.os/\PX s'.gens/\NB B outer e cls a0 s'.heap/\bf P w H' B/\
 Un (aI outer) [] H H' s.heap s'.heap/\(∀b o,s.heap.get? b=some o->H b=none->b ∉ aI outer->B.get? b=some o)/\(∀b o,s.heap.get? b=some o->b ∉ aI outer->∃o',B.get? b=some o')/\E cls none H'
theorem bf.hide{P:OZ}{w:O4}{H:Hp}{h:O3}{as:List OO}(x:bf P w H h)(hn:∀b∈as,H b=none):bf P w H (hideAll h as):=λa o e=>by
 refine(x a o e).stay (λb u hb q=>P2 _ q λhm=>?_) (λ_ q=>q) (λ_ _ q=>q) λ_ _ q=>q;have z:=hn b hm;rcases hb with r | r
 ·rw [r] at z;rw [z] at e;cases e
 ·rw [z] at r;cases r
section
variable {P:OZ} {w:O4} {K:Iq} {mg:Str->Option ON} {base:O3} {N:List Str} {qual:Str} {scope:Pc} {f:OO} {cd:ON} {A:O5} {outer:List Env} {s:OP} {H:Hp} {E:XK}
theorem Dd{Qm:List (OO×Obj)}{σ:St}{H1:Hp}{s1:OP}{h':O3}{e:OO}{cls:ON}{args:List ON}
 (I:aa (aX (aL P w) P w K mg base N qual scope f cd A outer s H E) Qm σ H1 s1)(hx:N9 s1.heap h' e cls args)(q:E cls none H1):
 (aX (aL P w) P w K mg base N qual scope f cd A outer s H E).xe (.ref e) {s1 with heap:=h'}:=by
 have st:=I.stack;have sf:=I.stkFree;have ub:Un (aI outer) [] H H1 s.heap s1.heap:=I.base;have fo:s1.heap.FunFrames base outer:=I.funs;have hin:∀env∈(aX (aL P w) P w K mg base N qual scope f cd A outer s H E).stack,∀a,env.frame=some a->a∈aI (aX (aL P w) P w K mg base N qual scope f cd A outer s H E).stack:=λenv he a hf=>Lo.mpr ⟨env,he,hf⟩;show OV (OU P w) _ (leaving _ (.ref e)) _ _ _;refine wpAny_leaves_madeW (base:=hideAll s1.heap (aI (aX (aL P w) P w K mg base N qual scope f cd A outer s H E).stack)) (h:=s1.heap) I.ok.frames rfl (λb o z=>of_hideAll _ z) (funFrames_hide st hin) hx λh2 t x1 x2 x3 x4=>?_;have nst:∀b o,s.heap.get? b=some o->b ∉ aI outer->b ∉ aI (aX (aL P w) P w K mg base N qual scope f cd A outer s H E).stack:=λb o eb hb hm=>by
  rcases IP.mp (I.stkSub b hm) with z | z
  ·have h1:=IC eb;have h2:=I.ok.above;rw [<-z] at h2;exact absurd (IM h1 h2) (Kb _)
  ·exact hb z
 have up:∀b∈aI outer,∀o,s1.heap.get? b=some o->∃sl,h2.get? b=some {o with slots:=sl}:=λb hb o eo=>by
  obtain⟨_,o',ho',hd⟩:=fo.mem hb;rw [eo] at ho';cases ho';exact x4 b o (hx.keeps _ _ eo) hd
 refine⟨e,cls,.ref t,_,H1,rfl,I.os,I.bare,x1,I.hok.hide sf,⟨λb o eb n hb hx'=>?_,λb o eb n hb hx'=>?_,ub.free,λb o eb hx'=>?_,ub.tups,ub.frzs,ub.tbls⟩,λb o eb n hb=>?_,λb o eb hb=>?_,q⟩
 ·exact x1.1 b o (P2 _ (ub.keep b o eb n hb hx') (nst b o eb hb))
 ·obtain⟨sl,es⟩:=ub.slot b o eb n hb hx';obtain⟨sl',es'⟩:=up b hb _ es;exact⟨sl',es'⟩
 ·obtain⟨o',eo'⟩:=ub.there b o eb hx';by_cases hb:b∈aI outer
  ·obtain⟨sl',es'⟩:=up b hb _ eo';exact⟨_,es'⟩
  ·exact⟨o',x1.1 b o' (P2 _ eo' (nst b o eb hb))⟩
 ·exact P2 _ (ub.keep b o eb n hb OL) (nst b o eb hb)
 ·obtain⟨o',eo'⟩:=ub.there b o eb OL;exact⟨o',P2 _ eo' (nst b o eb hb)⟩
theorem wY{E':XK}(hE:∀cls d H',E' cls d H'->E cls d H'):nR (aL P w) (aX (aL P w) P w K mg base N qual scope f cd A outer s H E) E':=by
 intro Qm σ H1 s1 ev s2 I h;obtain⟨e,cls,a0,B,H2,rfl,ho,hg,fl,hb,un,kb,th,q⟩:=h;have ub:Un (aI outer) [] H H1 s.heap s1.heap:=I.base;have stk:(aX (aL P w) P w K mg base N qual scope f cd A outer s H E).stack=Pw qual scope s.heap.objs.size f cd::outer:=rfl;show OV (OU P w) _ (leaving _ (.ref e)) _ _ _;refine wpAny_leaves_onW I.ok.frames rfl fl λh2 x1 x2=>?_;have nst:∀b o,s.heap.get? b=some o->b ∉ aI outer->b ∉ aI (aX (aL P w) P w K mg base N qual scope f cd A outer s H E).stack:=λb o eb hb hm=>by
  rcases IP.mp (I.stkSub b hm) with z | z
  ·have h1:=IC eb;have h2:=I.ok.above;rw [<-z] at h2;exact absurd (IM h1 h2) (Kb _)
  ·exact hb z
 have sub:∀b∈aI outer,b∈aI (aX (aL P w) P w K mg base N qual scope f cd A outer s H E).stack:=λb hb=>by
  rw [stk];unfold aI;rw [K5];exact Jm _ hb
 have up:∀b∈aI outer,∀o,s2.heap.get? b=some o->∃sl,h2.get? b=some {o with slots:=sl}:=λb hb o eo=>by
  obtain⟨_,o',ho',hd⟩:=fl.2.2.1.mem (sub b hb);rw [eo] at ho';cases ho';exact x2 b o eo hd
 have kB:∀b o,s.heap.get? b=some o->H b=none->b ∉ aI outer->B.get? b=some o:=λb o eb n hb=>kb b o (ub.keep b o eb n hb OL) (ub.free b o eb n OL) (nst b o eb hb);have tB:∀b o,s.heap.get? b=some o->b ∉ aI outer->∃o',B.get? b=some o':=λb o eb hb=>by
  obtain⟨o',eo'⟩:=ub.there b o eb OL;exact th b o' eo' (nst b o eb hb)
 refine⟨e,cls,a0,B,H2,rfl,ho.trans I.os,hg,x1,hb,⟨λb o eb n hb' hx'=>x1.1 b o (kB b o eb n hb'),λb o eb n hb' hx'=>?_,λb o eb n hx'=>?_,λb o eb hx'=>?_,λb xs z=>un.tups b xs (ub.tups b xs z),λb o u z=>un.frzs b o u (ub.frzs b o u z),λb ps z=>?_⟩,kB,tB,hE _ _ _ q⟩
 ·obtain⟨sl,es⟩:=ub.slot b o eb n hb' hx';obtain⟨sl1,es1⟩:=un.slot b _ es (ub.free b o eb n hx') (sub b hb') OL;obtain⟨sl2,es2⟩:=up b hb' _ es1;exact⟨sl2,es2⟩
 ·obtain⟨o',eo'⟩:=ub.there b o eb hx';exact un.free b o' eo' (ub.free b o eb n hx') OL
 ·by_cases hb':b∈aI outer
  ·obtain⟨o',eo'⟩:=ub.there b o eb hx';obtain⟨o2,eo2⟩:=un.there b o' eo' OL;obtain⟨sl',es'⟩:=up b hb' _ eo2;exact⟨_,es'⟩
  ·obtain⟨o',eo'⟩:=tB b o eb hb';exact⟨o',x1.1 b o' eo'⟩
 ·obtain⟨m1,e1⟩:=ub.tbls b ps z;obtain⟨m2,e2⟩:=un.tbls b _ e1;exact⟨m1++m2,by rw [e2,Mr]⟩
end
theorem uc{K:Iq}{h:O3}{mg:Str->Option ON}{x:Str}{C:OO}{bmB:List ON}{newId:String}(X:K.In h)(hm:mg x=some (.ref C))(q:KS K C bmB newId=true):OwnCls x C bmB newId mg h:=by
 refine⟨hm,?_⟩;unfold KS at q;split at q
 ·rename_i dd cd sl ho;split at q
  ·rename_i C' bm k0 k1 k2 k3 n k5 hm hs;simp only [Kk,beq_iff_eq,JA] at q;obtain⟨⟨⟨⟨⟨rfl,rfl⟩,hdel⟩,ht⟩,hok⟩,hni⟩:=q;obtain⟨nm,bs,mro,ns,qn,hd,sn,sub,ab,col,del⟩:=cd;dsimp only at hm hdel hok hni;subst hm hdel;have hsl:sl=#[k0,k1,k2,k3,some (.builtin n),k5]:=by
    obtain⟨l⟩:=sl;simp only at hs;rw [hs]
   subst hsl;exact⟨bm,ns,nm,qn,bs,hd,sn,sub,ab,col,dd,k0,k1,k2,k3,k5,_,X _ _ ho,.of_isNs (isNs_of_in X hok),nsMap_none_of_in X hok hni,tail_of_in X ht⟩
  ·cases q
 ·cases q
section
variable {X:Cx}
def wZ(ta:TA)(Ex:Hp->Prop):TS:=λ_ σ H=>ta σ H λvs H1=>vs.length<=OS/\Ex H1
theorem Df{x:Str}{C:OO}{bm:List ON}{B newId initId:String}{e:OR}{es:List OR}{np cpos pos:Pos}{ta:TA}{Ex:Hp->Prop}(hm:X.mg x=some (.ref C))(O:KS X.K C bm newId=true)(FB:ExcBaseFacts B newId initId bm)(hc:X.calm=true)
 (hg:Gl X x)(ha:PA X (e::es) ta)(hxe:∀(Qm:List (OO×Obj)) (σ:St) (H:Hp) (s:OP) (h':O3) (e:OO) (args:List ON),aa X Qm σ H s->N9 s.heap h' e (.ref C) args->Ex H->X.xe (.ref e) {s with heap:=h'})
 (hd:(x==("__debug__":Str))=false:=by decide)(he:OW (e::es) X.env=(false,eval e X.env)::OW es X.env:=by rfl)(hpl:(Pd cpos (OW es X.env)).any (·.1)=false:=by rfl):
 PS X (.Raise (some (.Call (.Name x np) (e::es) [] cpos)) none pos) (wZ ta Ex):=by
 intro Qm s σ H D I h;obtain⟨tl,N,nm,q,bs,hdct,sn,sub,ab,col,dd,k0,k1,k2,k3,k5,mN,hC,hN,hni,T⟩:=(uc (x:=x) I.ok.mod.kin hm O).obj;have h':=ha cpos Qm s σ H _ I h;refine wpAny_Raise_call_subT (C:=C) (nm:=nm) (q:=q) (N:=N) (bs:=bs) (bm:=tl) (hdct:=hdct) (sn:=sn) (sub:=sub) (ab:=ab) (col:=col) (dd:=dd) (k0:=k0) (k1:=k1) (k2:=k2) (k3:=k3) (k5:=k5)
  FB (mN:=mN) (T.hasType FB.hasBase) (I.ok.hd hc) (by rw [he];show(false || (Pd cpos (OW es X.env)).any (·.1))=false;rw [hpl];rfl) hni (nN I hg hm ⟨rfl,?_⟩ hd)
 rw [he] at h'⊢;refine Nd (au h' λus s1 uu61=>by obtain⟨vs,H1,I1,r,hz,q1⟩:=uu61;exact⟨rfl,by rw [<-r.length];exact hz,I1.bk _ _ hC,hN.keeps I1.bk,T.keeps I1.bk,λh2 e2 hm2=>hxe Qm σ H1 s1 h2 e2 us I1 hm2 q1⟩)
end
section
variable {P:OZ} {w:O4} {K:Iq} {mg:Str->Option ON} {base:O3}
theorem cm.okR{x qual:Str}{st:O6}{f:OO}{fd:OX}{N ps:List Str}{k:Nat}{sp:Sp}(F:cm K x qual st f fd)(S:bb N ps (aw st))(len:∀vs H Q E,sp vs H Q E->vs.length=ps.length)
 (hbody:∀(cdv:ON) (A:O5) (outer:List Env) (s:OP) (H:Hp) (vs:List V) (Q:VK) (E:XK),aK k (A.deeper (Pw qual (aw st) s.heap.objs.size f cdv))->sp vs H Q E->
  ∃t,bu (aX (aL P w) P w K mg base N qual (aw st) f cdv A outer s H E) (cT st) t/\t {nx:=λ_ H'=>Q .non H',rt:=Q} (start N vs) H):az P w K mg base (aL P w) (k+1) f fd ps sp:=by
 obtain⟨oc,od,kV,doc,pm,an,cdv,ct,osl,rfl,lk,hcd⟩:=F.ex;exact tQ lk hcd S len λA outer s H vs Q E hr hsp=>hbody cdv A outer s H vs Q E hr hsp
end
section
variable {M:Model} {A:O5} {E:ON->OP->Prop}
variable {nm q:Str} {C N:OO} {bs bm:List ON} {hdct:Bool} {sn:List Str} {sub:List ON} {ab:Bool} {col:Option Bool} {dd:Option OO} {k0 k1 k2 k3 k5:Option ON} {newId:String}
variable {nm' q':Str} {C' N':OO} {bs' bm':List ON} {hdct':Bool} {sn':List Str} {sub':List ON} {ab':Bool} {col':Option Bool} {dd':Option OO} {k0' k1' k2' k3' k5':Option ON} {newId':String}
theorem Dg{h:O3}{g:Array Qk}{d:Drawn}{t:Nat}{os:OsState}{e:OO}{oe:Obj}{Q:Bool->OP->Prop}
 (hC:h.get? C=some (excClassObj nm q C N bs bm hdct sn sub ab col dd k0 k1 k2 k3 k5 newId))(hC':h.get? C'=some (excClassObj nm' q' C' N' bs' bm' hdct' sn' sub' ab' col' dd' k0' k1' k2' k3' k5' newId'))
 (he:h.get? e=some oe)(hcls:oe.cls= .ref C)(hbase:bm'.contains (.type "BaseException")=true)(hin:(Jb C::bm).contains (.ref C')=true)
 (hq:Q true ⟨h,g,d,t,os⟩):OV M A (excMatches (.ref e) (.ref C')) Q E ⟨h,g,d,t,os⟩:=by
 have hcB:(Jb C'::bm').contains (.type "BaseException")=true:=by rw [NC,hbase,Bool.or_true]
 have f:=tc_notTuple;unfold excMatches
 repeat (first | (with_reducible refine wpAny_loadPart_at he ?_;rw [hcls]) | with_reducible refine wpAny_loadPart_at hC' ?_ | (with_reducible refine wpAny_isSubtype_exc hC' ?_;rw [hcB]) | (with_reducible refine wpAny_isSubtype_exc hC ?_;rw [hin]) | wp_step)
 exact hq
end
section
variable {X:Cx} {Qm:List (OO×Obj)} {σ:St} {H:Hp} {s:OP}
theorem xa{M:Model}{A:O5}{E:ON->OP->Prop}{i:Nat}{x:Str}{pos:Pos}{Q:Unit->OP->Prop}(I:aa X Qm σ H s)(hN:X.N.Nodup)(hi:X.N[i]?=some x)(hx:X.env.scope.names.lookup x=some .local)
 (h:∀s',aa X Qm (σ.set i none) H s'->Q () s'):OV M A (do PB X.env x .none;unbindBehindTheSuite X.env x pos) Q E s:=by
 have hcls:(X.env.scope.kind== .class || (X.env.scope.kind== .module && X.env.locals !=X.env.globals))=false:=by rw [I.ok.kind];rfl
 have hiσ:i < σ.length:=by rw [I.len];exact(IG.mp hi).1
 refine OQ (PD (mP I hN hi (.inl hx) (v:= .non) rfl (λs1 I1=>?_) (.inr hx)));obtain⟨m,hn,hl⟩:=id I1.loc;obtain⟨u0,r0,lk⟩:=hl i x .non hi (by rw [IT hiσ]) (.inl hx);have hv:∃v,m x=some v:=by
  rcases lk with⟨_,z⟩ | ⟨z,_⟩
  ·exact⟨_,z⟩
  ·rcases z with z | z
   ·exact absurd (z.symm.trans hx) OL
   ·exact absurd (z.symm.trans hx) OL
 obtain⟨v,hv⟩:=hv;unfold unbindBehindTheSuite;refine wpAny_onRaise (Pe (wpAny_unbindName_local (E:=λ_ _=>False) hx hn hv hcls λh' u hn' hs=>?_) (λ_ _ z=>z) λ_ _ z=>z.elim);obtain⟨oL,_,_,hoL,_⟩:=id hn;have cne:=I1.cne;have tracked:bf X.prog X.w H h':=λb ob e=>by
  refine(I1.hok b ob e).stay (λc w' hc q=>(hs.2 c ?_).trans q) (λ_ q=>q) (λ_ _ q=>q) λ_ _ q=>q;rintro rfl;rcases hc with z | hc
  ·rw [<-z,I1.free] at e;cases e
  ·rw [I1.free] at hc;cases hc
 refine h _ ⟨I1.ok,I1.os,I1.bare,⟨λb o e n hb hx'=>?_,λb o e n hb hx'=>?_,I1.base.free,λb o e hx'=>?_,I1.base.tups,I1.base.frzs,I1.base.tbls⟩,⟨_,hn',λj y v' e1 e2 e3=>?_⟩,λy c e=>?_,I1.free,I1.freeC,λp hp=>?_,tracked,by simpa using I.len⟩
 ·exact(hs.2 b (IZ (IM (IC e) I.ok.above))).trans (I1.base.keep b o e n hb hx')
 ·obtain⟨sl,e1⟩:=I1.base.slot b o e n hb hx';exact⟨sl,(hs.2 b (IZ (IM (IC e) I.ok.above))).trans e1⟩
 ·obtain⟨o',e1⟩:=I1.base.there b o e hx';exact⟨o',(hs.2 b (IZ (IM (IC e) I.ok.above))).trans e1⟩
 ·by_cases hj:j=i
  ·subst hj;rw [IT hiσ] at e2;cases e2
  ·rw [IH (Ne.symm hj)] at e2;obtain⟨u',r',q⟩:=hl j y v' e1 (by rw [IH (Ne.symm hj)];exact e2) e3;refine⟨u',r',?_⟩;rcases q with⟨k,e⟩ | ⟨k,c,e,z⟩
   ·refine .inl ⟨k,?_⟩;have:y≠x:=λe=>hj (sE hN e1 (e▸hi));simp [this,e]
   ·exact .inr ⟨k,c,e,z.sameBut hs (cne y c e)⟩
 ·obtain⟨w',z⟩:=I1.cell y c e;exact⟨w',z.sameBut hs (cne y c e)⟩
 ·obtain⟨e,n,ne,nf,d⟩:=I1.pin p hp;exact⟨(hs.2 p.1 ne).trans e,n,ne,nf,d⟩
end
def bQ(e:OO)(C:ON)(h:O3):Prop:=∃o,h.get? e=some o/\o.cls=C
theorem bF.there{P:OZ}{w:O4}{H:Hp}{h:O3}{a:OO}{o:HO}(x:bF P w H h a o):∃ob,h.get? a=some ob:=by
 cases o with
 | lst xs=>obtain⟨_,_,_,_,e⟩:=x;exact⟨_,e⟩
 | tup xs=>obtain⟨_,_,_,ob,e,_⟩:=x;exact⟨_,e⟩
 | dK kvs=>obtain⟨_,_,_,_,o,_,_,e,_⟩:=x;exact⟨_,e⟩
 | dT kvs=>obtain⟨_,_,_,_,o,_,_,e,_⟩:=x;exact⟨_,e⟩
 | set S n=>obtain⟨o,_,_,_,e,_⟩:=x;exact⟨_,e⟩
 | ins C dx fs=>obtain⟨_,_,_,e,_⟩:=x;exact⟨_,e⟩
 | own y=>exact x
 | xd fs=>obtain⟨_,⟨_,_,_,e,_⟩,_⟩:=x;exact⟨_,e⟩
 | rng lo hi=>obtain⟨_,_,_,e⟩:=x;exact⟨_,e⟩
 | frz ob u=>obtain⟨e,_⟩:=x;exact⟨_,e⟩
 | tbl ps=>obtain⟨_,_,_,_,e,_⟩:=x;exact⟨_,e⟩
 | cod q=>obtain⟨_,_,_,e,_⟩:=x;exact⟨_,e⟩
 | met f y=>exact⟨_,(show h.get? a=some _ from x)⟩
 | ext φ=>exact x.2.1
theorem xb{X:Cx}{outer:List Env}{H H':Hp}{h h1 h2 B:O3}{e:OO}{cls a0:ON}(un:Un (aI outer) [] H H' h h1)(fl:NB B outer e cls a0 h1)(st:B.StaysIn h2)(sm:h1.UpToSlots h2)
 (kb:∀b o,h.get? b=some o->H b=none->b ∉ aI outer->B.get? b=some o)(th:∀b o,h.get? b=some o->b ∉ aI outer->∃o',B.get? b=some o'):Un (aI outer) [] H H' h h2:=by
 have up:∀b∈aI outer,∀o,h1.get? b=some o->∃sl,h2.get? b=some {o with slots:=sl}:=λb hb o eo=>by
  obtain⟨_,o',ho',hd⟩:=fl.2.2.1.mem hb;rw [eo] at ho';cases ho';exact sm b o eo hd
 refine⟨λb o eb n hb _=>st b o (kb b o eb n hb),λb o eb n hb hx=>?_,un.free,λb o eb hx=>?_,un.tups,un.frzs,un.tbls⟩
 ·obtain⟨sl,es⟩:=un.slot b o eb n hb hx;obtain⟨sl',es'⟩:=up b hb _ es;exact⟨sl',es'⟩
 ·by_cases hb:b∈aI outer
  ·obtain⟨o',eo'⟩:=un.there b o eb hx;obtain⟨sl',es'⟩:=up b hb _ eo';exact⟨_,es'⟩
  ·obtain⟨o',eo'⟩:=th b o eb hb;exact⟨o',st b o' eo'⟩
abbrev Cx.inEx(X:Cx)(e:OO):Cx:={X with A:=X.A.mark (some (.ref e)),calm:=false,xe:=λ_ _=>False}
theorem Cx.Ok.inEx{X:Cx}(ok:X.Ok)(e:OO):(X.inEx e).Ok:=
 ⟨ok.mod,ok.kind,ok.glob,ok.blt,ok.above,ok.inj,ok.has,ok.cab,λz=>absurd z OL,ok.frames,ok.stk,ok.exf,ok.bs,ok.bsz,ok.noex,ok.exfs,ok.funs,ok.frf⟩
theorem Cx.Ok.outEx{X:Cx}{e:OO}(ok:(X.inEx e).Ok)(hd:X.calm=true->X.A.handled=none):X.Ok:=
 ⟨ok.mod,ok.kind,ok.glob,ok.blt,ok.above,ok.inj,ok.has,ok.cab,hd,ok.frames,ok.stk,ok.exf,ok.bs,ok.bsz,ok.noex,ok.exfs,ok.funs,ok.frf⟩
section
variable {X:Cx} {Qm:List (OO×Obj)} {σ:St} {H:Hp} {s:OP}
theorem aa.inEx(I:aa X Qm σ H s)(e:OO):aa (X.inEx e) Qm σ H s:=⟨I.ok.inEx e,I.os,I.bare,I.base,I.loc,I.cell,I.free,I.freeC,I.pin,I.hok,I.len⟩
theorem aa.outEx{e:OO}(I:aa (X.inEx e) Qm σ H s)(hd:X.calm=true->X.A.handled=none):aa X Qm σ H s:=⟨I.ok.outEx hd,I.os,I.bare,I.base,I.loc,I.cell,I.free,I.freeC,I.pin,I.hok,I.len⟩
end
theorem Dh{K:Iq}{h:O3}{C C':OO}{nm qn:Str}{N:OO}{bs bm:List ON}{hdct:Bool}{sn:List Str}{sub:List ON}{ab:Bool}{col:Option Bool}{dd:Option OO}{k0 k1 k2 k3 k5:Option ON}{newId:String}(X:K.In h)(e:Lg K C (.ref C')=some true)
 (hC:h.get? C=some (excClassObj nm qn C N bs bm hdct sn sub ab col dd k0 k1 k2 k3 k5 newId)):(Jb C::bm).contains (.ref C')=true:=by
 obtain⟨cd,a,b⟩:=Option.bind_eq_some_iff.mp e;unfold PySem.W.clsIn at a;split at a
 ·rename_i ho;cases a;have z:=(X _ _ ho).symm.trans hC;have z1:cd.mro=Jb C::bm:=by unfold excClassObj at z;cases z;rfl
  split at b
  ·cases b
  ·rw [z1] at b;exact Jr b
 ·cases a
section
variable {X:Cx}
theorem Di{bs:List Bool}{its:List ON}(r:aB (bs.map V.bl) its):its=bs.map Lh:=by
 induction bs generalizing its with
 | nil=>cases r;rfl
 | cons b bs ih=>
  rw [IA] at r;cases r with
  | cons r1 r2=>
   rw [IA,<-ih r2];exact congrArg (·::_) r1
theorem Dj(bs:List Bool)(f:Nat->Bool)(h:∀i,i < bs.length->f i=bs.getD i true):(JP bs.length).all f=bs.all id:=by
 rw [LH,K7,K7];constructor
 ·intro z b hb;obtain⟨i,hi,e⟩:=List.getElem_of_mem hb;have:=z i (Ly.mpr hi);rw [h i hi,LG,IQ hi] at this;rw [<-e];exact this
 ·intro z i hi;have hi:=Ly.mp hi;rw [h i hi,LG,IQ hi];exact z _ (KY hi)
theorem Dk{bs:List Bool}{i:Nat}{v:ON}(h:(bs.map Lh).toArray[i]?=some v):v= .bool (bs.getD i true):=by
 have h':(bs.map Lh)[i]?=some v:=by simpa using h
 rw [IS] at h';cases e:bs[i]? with
 | none=>rw [e] at h';cases h'
 | some b=>
  rw [e] at h';rw [LG,e];exact(Jr h').symm
theorem Dm{prog:OZ}{w:O4}{A:O5}{E:ON->OP->Prop}{s:OP}{l:OO}{items:Array ON}{Q:ON->OP->Prop}(hl:s.heap.IsList l items)
 (h:∀s₂:OP,s₂={s with heap:=s.heap.push {cls:= .type "list_iterator",data:= .fields #[.ref l,.int 0 0]}}->
  (s₂.heap.IsListIter s.heap.objs.size l 0/\s₂.heap.IsList l items)->l≠s.heap.objs.size->Q (.ref s.heap.objs.size) s₂):OV (OU prog w) A (pyIter (.ref l)) Q E s:=by
 have hlt:l < s.heap.objs.size:=by obtain⟨_,e,_⟩:=hl;exact IC e
 exact wpAny_pyIter_list hl (h _ rfl ⟨⟨_,Jh _ rfl,rfl,rfl⟩,hl.push _⟩ (IZ hlt))
theorem Dp(hc:X.calm=true):cI X (.builtin "all") (λxs H Q=>∃(a:OO)(bs:List Bool),xs=[.ref a]/\aV X.K H a (bs.map V.bl)/\Q (.bl (bs.all id)) H):=by
 intro Qm s σ H xs us Q I r h;obtain⟨a,bs,rfl,hl,q⟩:=h;obtain⟨u,rfl,rx⟩:=lZ r;cases rx;obtain⟨its,rv,p,hz⟩:=I.list hl;have hi:=Di rv;subst hi;refine call_all_walk (Dm p.isList λs₂ e st hlI=>?_);subst e;refine⟨_,_,_,_,_,_,λi=>bs.getD i true,rfl,Walks.list (A:=X.A.in1) (I.ok.hd hc) _ a hlI _,st,λi v s' Q' E' hP hq=>by rw [Dk hP];exact Pj hq,λh' tk hk=>?_⟩;have e:=Dj bs (λi=>bs.getD i true) λ_ _=>rfl;have e2:(JG Lh bs).toArray.size=bs.length:=OL
 rw [e2,e];exact⟨.bl (bs.all id),H,I.kept (old_kept hk),rfl,q⟩
end
open PySem PySem.Spec PyProof.Rows PySem.W PySem.Calls PySem.Builtin.ObjectAttr PySem.Builtin PySem.Builtin.Getset_descriptor
section
variable {prog:OZ} {w:O4} {A:O5} {E:ON->OP->Prop} {s:OP} {K:Iq} {x C:OO}
theorem bQ.type{M:Model}{h:O3}(p:bQ x (.ref C) h):Looks M h (typeOf (.ref x)) (.ref C):=by
 obtain⟨o,h1,h2⟩:=p;exact h2▸(Looks.ld h1).andThen .now
theorem Dq{tp:ON}{R:Result->OP->Prop}(X:K.In s.heap)(p:bQ x (.ref C) s.heap)(hm:mroIn K C (.type "object")=some true)(hq:R (.ok (.ret (.ref C))) s):
 PL (OU prog w) A (.call (.builtin "getset_descriptor.__get__") ⟨[.builtin "object.__class__",.ref x,tp],[]⟩) R s:=by
 obtain⟨hh,gg,dr,tt,os⟩:=s;have LT:=bQ.type (M:=OU prog w) p;have LM:=looks_mroIn (M:=OU prog w) X hm;refine codeAny_call_builtin KF.slot_gs.plain KF.entry_gs (KF.slot_gs.check _ _ _ _ _ _ _ _ KF.type_class (KF.args_gs _ _ _) ?_);unfold Builtin.«getset_descriptor.__get__» descrGet;rw [dga_obj];refine OQ (OT ?_);unfold descrGetter descrCheckInstance descrNameAndClass isInstance;simp only [KF.owner_class]
 repeat lk
 refine⟨Code.quiet_builtin _ OF,codeAny_builtin KF.entry_class ?_⟩;unfold Builtin.«object.__class__» shownTypeOf;(repeat lk);exact hq
structure l5 (K:Iq) (C:OO):Prop where
 ga:findIn K (.ref C) "__getattribute__"=some (some (.builtin "BaseException.__getattribute__"))
 hk:findIn K (.ref C) "__getattr__"=some none
 cl:findIn K (.ref C) "__class__"=some (some (.builtin "object.__class__"))
 gt:specialIn K (.builtin "object.__class__") "__get__"=some (some (.builtin "getset_descriptor.__get__"))
 tk:takesIn K (.builtin "object.__class__")=some true
 ob:mroIn K C (.type "object")=some true
 be:mroIn K C (.type "BaseException")=some true
 cd:(clsIn K C).isSome=true
theorem Dr{nameV:ON}{Q:Unit->OP->Prop}(Z:l5 K C)(X:K.In s.heap)(p:bQ x (.ref C) s.heap)(hq:Q () s):
 OV (OU prog w) A (checkBuiltinCall "BaseException.__getattribute__" ⟨[.ref x,nameV],[]⟩) Q E s:=by
 have hk:builtinKind "BaseException.__getattribute__"=some .slot:=OF
 have hsp:splitId "BaseException.__getattribute__"=some ("BaseException","__getattribute__"):=OF
 have ha:=F.args_bexc_ga (.ref x) nameV;have LI:Looks (OU prog w) s.heap (isInstance (.ref x) (.type "BaseException")) true:=(bQ.type p).andThen (looks_mroIn X Z.be);simp only [checkBuiltinCall,hk,hsp];refine OQ (LI.at ?_)
 repeat (first | wp_step)
 exact hq
theorem Ds{tk:Tok}{Q:Fin->OP->Prop}(Z:l5 K C)(X:K.In s.heap)(p:bQ x (.ref C) s.heap)(hq:Q (.done (.ret (.ref C))) s):
 OV (OU prog w) A (Builtin.«object.__getattribute__» ⟨[.ref x,.str "__class__" tk],[]⟩) Q E s:=by
 obtain⟨hh,gg,dr,tt,os⟩:=s;have L0:=bQ.type (M:=OU prog w) p;have L1:=looks_findIn (M:=OU prog w) X Z.cl;have L2:=looks_specialIn (M:=OU prog w) X Z.gt;have L3:=looks_takesIn (M:=OU prog w) X Z.tk;have LF:Looks (OU prog w) hh (PySem.Builtin.ObjectAttr.find (.ref x) (.ref C) "__class__") (.bind (.builtin "getset_descriptor.__get__") (.builtin "object.__class__")):=
  L1.andThen (L2.andThen ((show Looks (OU prog w) hh (dataDescriptor? (some (.builtin "object.__class__")) (some (.builtin "getset_descriptor.__get__"))) (some (.builtin "getset_descriptor.__get__",.builtin "object.__class__")) from L3.andThen .now).andThen (Looks.tag .now)))
 unfold Builtin.«object.__getattribute__»
 repeat (first | with_reducible refine OQ (L0.at ?_) | with_reducible refine OQ (LF.at ?_) | wp_step)
 refine Dq X p Z.ob ?_
 repeat (first | wp_step)
 exact hq
theorem Du{tk:Tok}{R:Result->OP->Prop}(Z:l5 K C)(X:K.In s.heap)(p:bQ x (.ref C) s.heap)(hq:R (.ok (.ret (.ref C))) s):
 PL (OU prog w) A (.call (.builtin "BaseException.__getattribute__") ⟨[.ref x,.str "__class__" tk],[]⟩) R s:=
 codeAny_call_builtin F.excAttr_ValueError.ga.plain F.entry_bexc_ga (Dr Z X p (Ds Z X p hq))
theorem Dv{tk:Tok}{Q:ON->OP->Prop}(Z:l5 K C)(X:K.In s.heap)(p:bQ x (.ref C) s.heap)(hq:Q (.ref C) s):
 OV (OU prog w) A (getAttrBy (.ref x) (.str "__class__" tk) false) Q E s:=by
 obtain⟨hh,gg,dr,tt,os⟩:=s;have L0:=bQ.type (M:=OU prog w) p;have L1:=looks_findIn (M:=OU prog w) X Z.ga;have L2:=looks_findIn (M:=OU prog w) X Z.hk;have f3:=F.excAttr_ValueError.ga.bind (.ref x);have hx0:(false && onTheHeap (L8 "BaseException.__getattribute__"))=false:=rfl;have hx2:(L8 "BaseException.__getattribute__"==L8 "object.__getattribute__")=false:=OF
 have hx1:(onTheHeap (Jb C) && L8 "BaseException.__getattribute__"==L8 "object.__getattribute__")=false:=by rw [hx2];rfl
 repeat (first | with_reducible refine OQ (L0.at ?_) | with_reducible refine OQ (L1.at ?_) | with_reducible refine L2.at ?_ | wp_step)
 refine Du (s:=⟨hh,gg,dr,tt,os⟩) Z X p ?_
 repeat (first | wp_step)
 exact hq
theorem Dw{Q:Option ON->OP->Prop}(Z:l5 K C)(X:K.In s.heap)(p:bQ x (.ref C) s.heap)(hq:Q (some (.ref C)) {s with toks:=s.toks+1}):
 OV (OU prog w) A (getAttr? (.ref x) "__class__") Q E s:=by
 obtain⟨hh,gg,dr,tt,os⟩:=s;unfold getAttr? getAttrBy?
 repeat (any_goals (first | assumption | with_reducible apply Dv (s:=⟨hh,gg,dr,tt+1,os⟩) Z X p | wp_step))
theorem xc(Z:l5 K C):KitX K (.ref x) (.ref C) (bQ x (.ref C)) where
 ty:=λM h _ p=>bQ.type p
 it:=λM h X _=>by
  obtain⟨cdD,hcD⟩:=K3.mp Z.cd;unfold clsIn at hcD;split at hcD
  ·rename_i ho;intro A' Q' E' s' k q;unfold isType loadHead;exact OQ (wpAny_loadPart (k _ _ (X _ _ ho)) (OT q))
  ·cases hcD
 ne:=λh tp dd its n sl X htp=>by
  obtain⟨cdD,hcD⟩:=K3.mp Z.cd;refine Bool.eq_false_iff.mpr λq=>?_;have e:=Jb.inj (beq_iff_eq.mp q);subst e;unfold clsIn at hcD;split at hcD
  ·rename_i ho;have z:=(X _ _ ho).symm.trans htp;cases z
  ·cases hcD
 ca:=λX p k=>Dw Z X p k
end
section
variable {X:Cx}
theorem Dx:cI X (.builtin "isinstance") (λxs H Q=>∃(e C:OO)(c:V)(cv:ON)(b:Bool),xs=[.ref e,c]/\H e=some (.ext (bQ e (.ref C)))/\l5 X.K C/\(∀u,ax c u->u=cv)/\LV X.K (.ref C) cv=some b/\Q (.bl b) H):=by
 intro Qm s σ H xs us Q I r h;obtain⟨e,C,c,cv,b,rfl,he,Z,hc,hk,q⟩:=h;obtain⟨u,w',rfl,rx,rt⟩:=pN r;cases (show u=Jb e from rx);have:=hc _ rt;subst this;have p:bQ e (.ref C) s.heap:=(show bF X.prog X.w H s.heap e (.ext (bQ e (.ref C))) from I.hok e _ he).1;exact PySem.W.kia_one (xc Z) I.kIn p hk (λz=>nomatch z) λtk=>⟨.bl b,H,I.tok tk,rfl,q⟩
end
section
variable {X:Cx}
abbrev bL(d:OM):Prop:=Ko d=true
theorem Dy{cs:List OO}{its:List ON}(r:aB (cs.map V.ref) its):its=cs.map Jb:=by
 induction cs generalizing its with
 | nil=>cases r;rfl
 | cons b bs ih=>
  rw [IA] at r;cases r with
  | cons r1 r2=>
   rw [IA,<-ih r2];exact congrArg (·::_) r1
theorem Dz:cI X (.builtin "isinstance") (λxs H Q=>∃(e C q:OO)(cs:List OO)(b:Bool),xs=[.ref e,.ref q]/\H e=some (.ext (bQ e (.ref C)))/\H q=some (.tup (cs.map V.ref))/\l5 X.K C/\Mp X.K (.ref C) (cs.map Jb)=some b/\Q (.bl b) H):=by
 intro Qm s σ H xs us Q I r h;obtain⟨e,C,q,cs,b,rfl,he,hq,Z,hk,k⟩:=h;obtain⟨u,w',rfl,rx,rt⟩:=pN r;cases (show u=Jb e from rx);cases (show w'=Jb q from rt);have p:bQ e (.ref C) s.heap:=(show bF X.prog X.w H s.heap e (.ext (bQ e (.ref C))) from I.hok e _ he).1;obtain⟨its,rv,⟨⟨oc,od,odt,osl⟩,eo,c,n,dd⟩,_⟩:=I.tuple (aZ.of hq);have:=Dy rv;subst this;simp only at c dd;subst c dd;exact PySem.W.kia_tup (xc Z) I.kIn p eo hk (λz=>nomatch z) λtk=>⟨.bl b,H,I.tok tk,rfl,k⟩
end
theorem DC:Pb "all"=some (.builtin "all"):=OF
theorem DD:Pb "ValueError"=some (.type "ValueError"):=OF
def DH(p:OO)(h:O3):Prop:=∃(n:Int)(t:Tok)(k:Nat),h.get? p=some {cls:= .type "list",data:= .seq #[.int n t] k}
abbrev DI(p:OO):HO:= .ext (DH p)
abbrev ue:OM:= .dict [(.none,.none)]
def DJ(p:OO)(h:O3):Prop:=∃(a b c:Int)(t u v:Tok)(k:Nat),h.get? p=some {cls:= .type "list",data:= .seq #[.int a t,.int b u,.int c v] k}
abbrev DK(p:OO):HO:= .ext (DJ p)
abbrev DL:OM:= .dict [(.none,.bool true)]
abbrev cD(ds:List OM):OM:= .dict [(.none,.list ds)]
abbrev nV(C:OO)(kp ds:List OM):OM:= .dict [(.none,.tuple [.int (C:Int),.list kp,.list ds])]
abbrev xf(kp ds:List OM):OM:= .dict [(.bool true,.tuple [.list kp,.list ds])]
abbrev Ex:=OO->Prop
abbrev qU:Hp:=λ_=>none
mutual
inductive Dt (K:Iq) (H:Hp) (O:Ex):V->OM->Prop
 | non:Dt K H O .non .none
 | bl (b:Bool):Dt K H O (.bl b) (.bool b)
 | int (i:Int):Dt K H O (.int i) (.int i)
 | str (x:Str):Dt K H O (.str x) (.str x)
 | tup {a:OO} {xs:List V} {ds:List OM}:Rd H a (.tup xs)->¬O a->aj K H O xs ds->Dt K H O (.ref a) (.tuple ds)
 | tupK {a:OO} {xs:List V} {ds:List OM}:aZ K qU a xs->aj K H O xs ds->Dt K H O (.ref a) (.tuple ds)
 | lst {a:OO} {xs:List V} {ds:List OM}:Rd H a (.lst xs)->¬O a->aj K H O xs ds->Dt K H O (.ref a) (.list ds)
 | pack {p:OO}:H p=some (DI p)->¬O p->Dt K H O (.ref p) ue
 | purse {p:OO}:H p=some (DK p)->¬O p->Dt K H O (.ref p) DL
 | dct0 {a:OO}:H a=some (.dK [])->¬O a->Dt K H O (.ref a) (.dict [])
 | obj {a C dx:OO} {fs:List (Str×V)} {kp ds:List OM}:H a=some (.ins C dx fs)->kp=fs.map (λp=>ID p.1)->¬O a->aj K H O (fs.map (·.2)) ds->Dt K H O (.ref a) (nV C kp ds)
 | dic {a:OO} {ob:Obj} {kv:List (ag×V)} {ks:List Str} {kp ds:List OM}:H a=some (.frz ob (.dK kv))->kv.map (·.1)=ks.map LR->kp=ks.map ID->¬O a->aj K H O (kv.map (·.2)) ds->Dt K H O (.ref a) (xf kp ds)
 | scr {a:OO} {xs:List V} {ds:List OM}:(Rd H a (.lst xs)/\¬O a)\/aV K qU a xs->aj K H O xs ds->Dt K H O (.ref a) (cD ds)
inductive aj (K:Iq) (H:Hp) (O:Ex):List V->List OM->Prop
 | nil:aj K H O [] []
 | cons {v:V} {d:OM} {vs:List V} {ds:List OM}:Dt K H O v d->aj K H O vs ds->aj K H O (v::vs) (d::ds)
end
theorem Rd.same{H H':Hp}{a:OO}{u:HO}(s:∀o,H a=some o->H' a=some o)(h:Rd H a u):Rd H' a u:=by
 rcases h with h | ⟨o,h⟩
 ·exact .inl (s _ h)
 ·exact .inr ⟨o,s _ h⟩
theorem Rd.trk{H:Hp}{a:OO}{u:HO}(h:Rd H a u):H a≠none:=by
 rcases h with h | ⟨o,h⟩ <;> rw [h] <;> exact λz=>nomatch z
section
variable {K:Iq}
structure aH (H H':Hp) (O O':Ex):Prop where
 keep:∀b o,H b=some o->¬O b->H' b=some o
 out:∀b,H b≠none->¬O b->¬O' b
mutual
theorem Dt.step{H H':Hp}{O O':Ex}(S:aH H H' O O'):∀{v:V}{d:OM},Dt K H O v d->Dt K H' O' v d
 | _,_,.non=>.non
 | _,_,.bl b=>.bl b
 | _,_,.int i=>.int i
 | _,_,.str x=>.str x
 | _,_,.tup h n r=>.tup (h.same λo e=>S.keep _ o e n) (S.out _ h.trk n) (aj.step S r)
 | _,_,.tupK h r=>.tupK h (aj.step S r)
 | _,_,.lst h n r=>.lst (h.same λo e=>S.keep _ o e n) (S.out _ h.trk n) (aj.step S r)
 | _,_,.pack h n=>.pack (S.keep _ _ h n) (S.out _ (by rw [h];exact λz=>nomatch z) n)
 | _,_,.purse h n=>.purse (S.keep _ _ h n) (S.out _ (by rw [h];exact λz=>nomatch z) n)
 | _,_,.dct0 h n=>.dct0 (S.keep _ _ h n) (S.out _ (by rw [h];exact λz=>nomatch z) n)
 | _,_,.obj h e n r=>.obj (S.keep _ _ h n) e (S.out _ (by rw [h];exact λz=>nomatch z) n) (aj.step S r)
 | _,_,.dic h e1 e2 n r=>.dic (S.keep _ _ h n) e1 e2 (S.out _ (by rw [h];exact λz=>nomatch z) n) (aj.step S r)
 | _,_,.scr h r=>.scr (h.imp (λh=>⟨h.1.same λo e=>S.keep _ o e h.2,S.out _ h.1.trk h.2⟩) id) (aj.step S r)
theorem aj.step{H H':Hp}{O O':Ex}(S:aH H H' O O'):∀{vs:List V}{ds:List OM},aj K H O vs ds->aj K H' O' vs ds
 | _,_,.nil=>.nil
 | _,_,.cons h r=>.cons (Dt.step S h) (aj.step S r)
end
theorem aH.same{H H':Hp}{O:Ex}(s:ah H H'):aH H H' O O:=⟨λb o e _=>s b o e,λ_ _ n=>n⟩
theorem Dt.mono{H H':Hp}{O:Ex}{v:V}{d:OM}(s:ah H H')(h:Dt K H O v d):Dt K H' O v d:=h.step (.same s)
theorem aj.mono{H H':Hp}{O:Ex}{v:List V}{d:List OM}(s:ah H H')(h:aj K H O v d):aj K H' O v d:=h.step (.same s)
theorem aj.length{H:Hp}{O:Ex}:∀{vs:List V}{ds:List OM},aj K H O vs ds->vs.length=ds.length
 | _,_,.nil=>rfl
 | _,_,.cons _ r=>by rw [IE,IE,aj.length r]
theorem aj.get{H:Hp}{O:Ex}:∀{vs:List V}{ds:List OM}{i:Nat}{v:V},aj K H O vs ds->vs[i]?=some v->∃d,ds[i]?=some d/\Dt K H O v d
 | _,_,_,_,.nil,e=>by simp at e
 | _,_,0,_,.cons h _,e=>by simp at e;subst e;exact⟨_,rfl,h⟩
 | _,_,i+1,_,.cons _ r,e=>by simpa using aj.get (i:=i) r (by simpa using e)
theorem aj.getD{H:Hp}{O:Ex}:∀{vs:List V}{ds:List OM}{i:Nat}{d:OM},aj K H O vs ds->ds[i]?=some d->∃v,vs[i]?=some v/\Dt K H O v d
 | _,_,_,_,.nil,e=>by simp at e
 | _,_,0,_,.cons h _,e=>by simp at e;subst e;exact⟨_,rfl,h⟩
 | _,_,i+1,_,.cons _ r,e=>by simpa using aj.getD (i:=i) r (by simpa using e)
theorem aj.append{H:Hp}{O:Ex}:∀{vs ws:List V}{ds es:List OM},aj K H O vs ds->aj K H O ws es->aj K H O (vs++ws) (ds++es)
 | _,_,_,_,.nil,s=>s
 | _,_,_,_,.cons h r,s=>.cons h (aj.append r s)
theorem aj.take{H:Hp}{O:Ex}:∀{vs:List V}{ds:List OM}(n:Nat),aj K H O vs ds->aj K H O (vs.take n) (ds.take n)
 | _,_,0,_=>.nil
 | _,_,_+1,.nil=>.nil
 | _,_,n+1,.cons h r=>.cons h (aj.take n r)
theorem aj.drop{H:Hp}{O:Ex}:∀{vs:List V}{ds:List OM}(n:Nat),aj K H O vs ds->aj K H O (vs.drop n) (ds.drop n)
 | _,_,0,r=>r
 | _,_,_+1,.nil=>.nil
 | _,_,n+1,.cons _ r=>aj.drop n r
theorem aj.reverse{H:Hp}{O:Ex}:∀{vs:List V}{ds:List OM},aj K H O vs ds->aj K H O vs.reverse ds.reverse
 | _,_,.nil=>.nil
 | _,_,.cons h r=>by rw [L4,L4];exact(aj.reverse r).append (.cons h .nil)
theorem aj.ints{H:Hp}{O:Ex}:∀(ns:List Int),aj K H O (ns.map V.int) (ns.map Iy)
 | []=>.nil
 | n::r=>.cons (.int n) (aj.ints r)
inductive Sh (K:Iq) (H:Hp) (O:Ex):V->OM->Prop
 | dt {v:V} {d:OM}:Dt K H O v d->Sh K H O v d
 | own {l:OO} {vs:List V} {ds:List OM}:H l=some (.lst vs)->aj K H O vs ds->Sh K H O (.ref l) (.list ds)
theorem Sh.mono{H H':Hp}{O:Ex}{v:V}{d:OM}(s:ah H H'):Sh K H O v d->Sh K H' O v d
 | .dt h=>.dt (h.mono s)
 | .own h r=>.own (s _ _ h) (r.mono s)
theorem Dt.all{H:Hp}{O:Ex}{v:V}{d:OM}(h:Dt K H O v d):Dt K H (λ_=>False) v d:=h.step ⟨λ_ _ e _=>e,λ_ _ _ z=>z⟩
theorem aj.all{H:Hp}{O:Ex}{v:List V}{d:List OM}(h:aj K H O v d):aj K H (λ_=>False) v d:=h.step ⟨λ_ _ e _=>e,λ_ _ _ z=>z⟩
theorem Sh.all{H:Hp}{O:Ex}{v:V}{d:OM}:Sh K H O v d->Dt K H (λ_=>False) v d
 | .dt h=>h.all
 | .own h r=>.lst (.inl h) (λz=>z) r.all
theorem aZ.of0{H:Hp}{a:OO}{xs:List V}(h:aZ K qU a xs):aZ K H a xs:=by
 rcases h with(h | ⟨o,h⟩) | h
 ·cases h
 ·cases h
 ·exact .inr h
theorem aV.of0{H:Hp}{a:OO}{xs:List V}(h:aV K qU a xs):aV K H a xs:=by
 rcases h with(h | ⟨o,h⟩) | h
 ·cases h
 ·cases h
 ·exact .inr h
theorem Sh.tup{H:Hp}{O:Ex}{v:V}{ds:List OM}(h:Sh K H O v (.tuple ds)):∃a xs,v= .ref a/\aZ K H a xs/\aj K H O xs ds:=by
 cases h with
 | dt h=>
  cases h with
  | tup h _ r=>exact⟨_,_,rfl,.inl h,r⟩
  | tupK h r=>exact⟨_,_,rfl,h.of0,r⟩
theorem Sh.lstR{H:Hp}{O:Ex}{v:V}{ds:List OM}(h:Sh K H O v (.list ds)):∃a xs,v= .ref a/\Rd H a (.lst xs)/\aj K H O xs ds:=by
 cases h with
 | dt h=>
  cases h with
  | lst h _ r=>exact⟨_,_,rfl,h,r⟩
 | own h r=>exact⟨_,_,rfl,.inl h,r⟩
theorem Sh.lst{H:Hp}{O:Ex}{v:V}{ds:List OM}(h:Sh K H O v (.list ds)):∃a xs,v= .ref a/\aV K H a xs/\aj K H O xs ds:=by
 obtain⟨a,xs,e,h,r⟩:=h.lstR;exact⟨a,xs,e,.inl h,r⟩
theorem Sh.scr{H:Hp}{O:Ex}{v:V}{ds:List OM}(h:Sh K H O v (cD ds)):∃a xs,v= .ref a/\aV K H a xs/\aj K H O xs ds:=by
 cases h with
 | dt h=>
  cases h with
  | scr h r=>
   rcases h with h | h
   ·exact⟨_,_,rfl,.inl h.1,r⟩
   ·exact⟨_,_,rfl,h.of0,r⟩
theorem Sh.int{H:Hp}{O:Ex}{v:V}{i:Int}(h:Sh K H O v (.int i)):v= .int i:=by cases h with | dt h=>cases h;rfl
theorem Sh.bl{H:Hp}{O:Ex}{v:V}{i:Bool}(h:Sh K H O v (.bool i)):v= .bl i:=by cases h with | dt h=>cases h;rfl
theorem Sh.str{H:Hp}{O:Ex}{v:V}{i:Str}(h:Sh K H O v (.str i)):v= .str i:=by cases h with | dt h=>cases h;rfl
theorem Sh.non{H:Hp}{O:Ex}{v:V}(h:Sh K H O v .none):v= .non:=by cases h with | dt h=>cases h;rfl
def cK:OM->Bool
 | .none | .bool _ | .int _ | .str _=>true
 | _=>false
end
section
variable {X:Cx} {Qm:List (OO×Obj)} {σ:St} {H:Hp} {s:OP}
mutual
theorem l6(I:aa X Qm σ H s){O:Ex}:∀{v:V}{d:OM}{u:ON},Dt X.K H O v d->d.canLay0=true->ax v u->∃as,Reads s.heap u d as
 | _,_,_,.non,_,r=>by cases r;exact⟨_,Reads.none⟩
 | _,_,_,.bl b,_,r=>by cases r;exact⟨_,Reads.bool b⟩
 | _,_,_,.int i,_,r=>by obtain⟨t,rfl⟩:=r;exact⟨_,Reads.int i t⟩
 | _,_,_,.str x,_,r=>by obtain⟨t,rfl⟩:=r;exact⟨_,Reads.str x t⟩
 | _,_,_,.tup h _ hs,c,r=>by
  cases r;obtain⟨its,rv,⟨o,e,c',n,dd⟩,_⟩:=I.tuple (.inl h);obtain⟨as,q⟩:=qV I hs (by simpa [Jk] using c) rv;exact⟨as,reads_tuple_at e c' dd (by simpa using q)⟩
 | _,_,_,.tupK h hs,c,r=>by
  cases r;obtain⟨its,rv,⟨o,e,c',n,dd⟩,_⟩:=I.tuple h.of0;obtain⟨as,q⟩:=qV I hs (by simpa [Jk] using c) rv;exact⟨as,reads_tuple_at e c' dd (by simpa using q)⟩
 | _,_,_,.lst h _ hs,c,r=>by
  cases r;obtain⟨its,rv,⟨o,n,e,c',_,dd⟩,_⟩:=I.list (.inl h);obtain⟨as,q⟩:=qV I hs (by simpa [Jk] using c) rv;exact⟨_,reads_list_at e c' dd (by simpa using q)⟩
 | _,_,_,.pack _ _,c,_=>by simp [Jk] at c
 | _,_,_,.purse _ _,c,_=>by simp [Jk] at c
 | _,_,_,.dct0 _ _,c,_=>by simp [Jk] at c
 | _,_,_,.obj _ _ _ _,c,_=>by simp [Jk] at c
 | _,_,_,.dic _ _ _ _ _,c,_=>by simp [Jk] at c
 | _,_,_,.scr _ _,c,_=>by simp [Jk] at c
theorem qV(I:aa X Qm σ H s){O:Ex}:∀{vs:List V}{ds:List OM}{us:List ON},aj X.K H O vs ds->KR ds=true->aB vs us->∃as,ReadsAll s.heap us ds as
 | _,_,_,.nil,_,r=>by cases r;exact⟨_,ReadsAll.nil⟩
 | _,_,_,.cons h hs,c,r=>by
  rw [KR,Kk] at c;cases r with
  | cons r1 r2=>
   obtain⟨as,q⟩:=l6 I h c.1 r1;obtain⟨bs,p⟩:=qV I hs c.2 r2;exact⟨_,ReadsAll.cons q p⟩
end
end
inductive Sl where
 | v (d:OM)
 | o (ds:List OM)
 | k (kd:List (ag×OM))
 | i (l C:OO) (fd:List (Str×OM))
 | r (l C g u:OO) (fd:List (Str×OM)) (gd ud:List (ag×OM))
 | b (ds:List OM)
 | f (kd:List (ag×OM))
abbrev Dl:=List (Option Sl)
inductive bj (K:Iq) (H:Hp) (O:Ex):List (ag×V)->List (ag×OM)->Prop
 | nil:bj K H O [] []
 | cons {k:ag} {v:V} {d:OM} {r:List (ag×V)} {s:List (ag×OM)}:Dt K H O v d->bj K H O r s->bj K H O ((k,v)::r) ((k,d)::s)
theorem bj.step{K:Iq}{H H':Hp}{O O':Ex}(S:aH H H' O O'){r:List (ag×V)}{s:List (ag×OM)}(h:bj K H O r s):bj K H' O' r s:=by
 induction h with
 | nil=>exact .nil
 | cons a _ ih=>exact .cons (a.step S) ih
theorem bj.mono{K:Iq}{H H':Hp}{O:Ex}(S:ah H H'){r:List (ag×V)}{s:List (ag×OM)}(h:bj K H O r s):bj K H' O r s:=h.step (.same S)
def nW(K:Iq)(H:Hp)(O:Ex)(fs:List (Str×V))(fd:List (Str×OM)):Prop:=fs.map (·.1)=fd.map (·.1)/\aj K H O (fs.map (·.2)) (fd.map (·.2))
def Sl.own:Sl->Prop
 | .v _=>False
 | .b _=>False
 | .f _=>False
 | _=>True
abbrev DM:Str:=Ip "gone"
abbrev DN:Str:=Ip "used"
def xh(K:Iq)(H:Hp)(O0 O:Ex)(l C g u:OO)(fd:List (Str×OM))(gd ud:List (ag×OM)):Prop:=∃dx fs og ou gv uv,H l=some (.ins C dx (fs++[(DM,.ref g),(DN,.ref u)]))/\nW K H O fs fd/\g≠u/\
 (O g/\¬O0 g/\H g=some (.frz og (.dK gv))/\bj K H O gv gd)/\(O u/\¬O0 u/\H u=some (.frz ou (.dK uv))/\bj K H O uv ud)
def mU(K:Iq)(H:Hp)(O0 O:Ex)(x:Option V):Option Sl->Prop
 | none=>True
 | some (.v d)=>∃v,x=some v/\Dt K H O v d
 | some (.o ds)=>∃l vs,x=some (.ref l)/\O l/\¬O0 l/\H l=some (.lst vs)/\aj K H O vs ds
 | some (.k kd)=>∃l kv,x=some (.ref l)/\O l/\¬O0 l/\H l=some (.dK kv)/\bj K H O kv kd
 | some (.i l C fd)=>∃dx fs,x=some (.ref l)/\O l/\¬O0 l/\H l=some (.ins C dx fs)/\nW K H O fs fd
 | some (.r l C g u fd gd ud)=>x=some (.ref l)/\O l/\¬O0 l/\xh K H O0 O l C g u fd gd ud
 | some (.b ds)=>∃l vs,x=some (.ref l)/\O0 l/\H l=some (.lst vs)/\aj K H O vs ds
 | some (.f kd)=>∃l o kv,x=some (.ref l)/\¬O l/\H l=some (.frz o (.dK kv))/\bj K H O kv kd
structure Wd (K:Iq) (H0:Hp) (O0:Ex) (H:Hp) (O:Ex) (σ:St) (δ:Dl):Prop where
 same:ah H0 H
 sub:∀l,O0 l->O l
 new:∀l,O l->O0 l\/H0 l=none
 trk:∀l,O l->H l≠none
 len:σ.length=δ.length
 sl:∀(i:Nat) y,δ[i]?=some y->mU K H O0 O ((σ[i]?).join) y
 dis:∀(i j:Nat) y z l,δ[i]?=some (some y)->y.own->δ[j]?=some (some z)->z.own->σ[i]?=some (some (.ref l))->σ[j]?=some (some (.ref l))->i=j
section
variable {K:Iq} {H0 H H':Hp} {O0 O:Ex} {σ:St} {δ:Dl}
theorem mU.mono{x:Option V}{y:Option Sl}(s:ah H H')(h:mU K H O0 O x y):mU K H' O0 O x y:=by
 cases y with
 | none=>exact Km
 | some y=>
  cases y with
  | v d=>
   obtain⟨v,e,r⟩:=h;exact⟨v,e,r.mono s⟩
  | o ds=>
   obtain⟨l,vs,e,a,b,c,r⟩:=h;exact⟨l,vs,e,a,b,s _ _ c,r.mono s⟩
  | k ds=>
   obtain⟨l,vs,e,a,b,c,r⟩:=h;exact⟨l,vs,e,a,b,s _ _ c,r.mono s⟩
  | i l C ds=>
   obtain⟨dx,vs,e,a,b,c,r1,r2⟩:=h;exact⟨dx,vs,e,a,b,s _ _ c,r1,r2.mono s⟩
  | r l C g u fd gd ud=>
   obtain⟨e,a,b,dx,fs,og,ou,gv,uv,c,⟨r1,r2⟩,ne,⟨g1,g2,g3,g4⟩,u1,u2,u3,u4⟩:=h;exact⟨e,a,b,dx,fs,og,ou,gv,uv,s _ _ c,⟨r1,r2.mono s⟩,ne,⟨g1,g2,s _ _ g3,g4.mono s⟩,u1,u2,s _ _ u3,u4.mono s⟩
  | b ds=>
   obtain⟨l,vs,e,a,c,r⟩:=h;exact⟨l,vs,e,a,s _ _ c,r.mono s⟩
  | f kd=>
   obtain⟨l,o,kv,e,a,c,r⟩:=h;exact⟨l,o,kv,e,a,s _ _ c,r.mono s⟩
theorem mU.go{O':Ex}{x:Option V}{y:Option Sl}(h:mU K H O0 O x y)(S:aH H H' O O')(kp:∀l o,y.any (λz=>match z with | .v _=>false | .b _=>false | .f _=>false | _=>true)=true->x=some (.ref l)->O l->¬O0 l->H l=some o->O' l/\H' l=some o)
 (kp2:∀a o u,O a->¬O0 a->H a=some (.frz o u)->O' a/\H' a=some (.frz o u))(kp3:∀a o,O0 a->H a=some o->H' a=some o):mU K H' O0 O' x y:=by
 cases y with
 | none=>exact Km
 | some y=>
  cases y with
  | v d=>
   obtain⟨v,e,r⟩:=h;exact⟨v,e,r.step S⟩
  | o ds=>
   obtain⟨l,vs,e,a,b,c,r⟩:=h;exact⟨l,vs,e,(kp l _ rfl e a b c).1,b,(kp l _ rfl e a b c).2,r.step S⟩
  | k ds=>
   obtain⟨l,vs,e,a,b,c,r⟩:=h;exact⟨l,vs,e,(kp l _ rfl e a b c).1,b,(kp l _ rfl e a b c).2,r.step S⟩
  | i l C ds=>
   obtain⟨dx,vs,e,a,b,c,r1,r2⟩:=h;exact⟨dx,vs,e,(kp l _ rfl e a b c).1,b,(kp l _ rfl e a b c).2,r1,r2.step S⟩
  | r l C g u fd gd ud=>
   obtain⟨e,a,b,dx,fs,og,ou,gv,uv,c,⟨r1,r2⟩,ne,⟨g1,g2,g3,g4⟩,u1,u2,u3,u4⟩:=h;exact⟨e,(kp l _ rfl e a b c).1,b,dx,fs,og,ou,gv,uv,(kp l _ rfl e a b c).2,⟨r1,r2.step S⟩,ne,⟨(kp2 _ _ _ g1 g2 g3).1,g2,(kp2 _ _ _ g1 g2 g3).2,g4.step S⟩,(kp2 _ _ _ u1 u2 u3).1,u2,(kp2 _ _ _ u1 u2 u3).2,u4.step S⟩
  | b ds=>
   obtain⟨l,vs,e,a,c,r⟩:=h;exact⟨l,vs,e,a,kp3 _ _ a c,r.step S⟩
  | f kd=>
   obtain⟨l,o,kv,e,a,c,r⟩:=h;exact⟨l,o,kv,e,S.out _ (by rw [c];exact λz=>nomatch z) a,S.keep _ _ c a,r.step S⟩
theorem Wd.mono(s:ah H H')(w:Wd K H0 O0 H O σ δ):Wd K H0 O0 H' O σ δ:=
 ⟨w.same.trans s,w.sub,w.new,λl h z=>(by
  cases e:H l with
  | none=>exact w.trk l h e
  | some o=>rw [s _ _ e] at z;cases z),w.len,λi y e=>(w.sl i y e).mono s,w.dis⟩
theorem mD{i:Nat}{v:V}(h:(σ[i]?).join=some v):σ[i]?=some (some v):=by
 cases q:σ[i]? with
 | none=>rw [q] at h;cases h
 | some o=>rw [q] at h;rw [show o=some v from h]
theorem Wd.val(w:Wd K H0 O0 H O σ δ){i:Nat}{d:OM}(e:δ[i]?=some (some (.v d))):∃v,σ[i]?=some (some v)/\Dt K H O v d:=by
 obtain⟨v,h,r⟩:=w.sl i _ e;exact⟨v,mD h,r⟩
theorem Wd.own(w:Wd K H0 O0 H O σ δ){i:Nat}{ds:List OM}(e:δ[i]?=some (some (.o ds))):∃l vs,σ[i]?=some (some (.ref l))/\O l/\¬O0 l/\H l=some (.lst vs)/\aj K H O vs ds:=by
 obtain⟨l,vs,h,r⟩:=w.sl i _ e;exact⟨l,vs,mD h,r⟩
theorem Wd.ownK(w:Wd K H0 O0 H O σ δ){i:Nat}{kd:List (ag×OM)}(e:δ[i]?=some (some (.k kd))):∃l kv,σ[i]?=some (some (.ref l))/\O l/\¬O0 l/\H l=some (.dK kv)/\bj K H O kv kd:=by
 obtain⟨l,vs,h,r⟩:=w.sl i _ e;exact⟨l,vs,mD h,r⟩
theorem Wd.ownI(w:Wd K H0 O0 H O σ δ){i:Nat}{l C:OO}{fd:List (Str×OM)}(e:δ[i]?=some (some (.i l C fd))):∃dx fs,σ[i]?=some (some (.ref l))/\O l/\¬O0 l/\H l=some (.ins C dx fs)/\nW K H O fs fd:=by
 obtain⟨dx,vs,h,r⟩:=w.sl i _ e;exact⟨dx,vs,mD h,r⟩
theorem Wd.adr(w:Wd K H0 O0 H O σ δ){i:Nat}{y:Sl}(e:δ[i]?=some (some y))(h:y.own):∃l,σ[i]?=some (some (.ref l))/\O l/\¬O0 l:=by
 match y,h,e with
 | .o ds,_,e=>obtain⟨l,vs,a,b,c,_⟩:=w.own e;exact⟨l,a,b,c⟩
 | .k ds,_,e=>obtain⟨l,vs,a,b,c,_⟩:=w.ownK e;exact⟨l,a,b,c⟩
 | .i l C ds,_,e=>obtain⟨dx,vs,a,b,c,_⟩:=w.ownI e;exact⟨l,a,b,c⟩
 | .r l C g u fd gd ud,_,e=>obtain⟨a,b,c,_⟩:=w.sl i _ e;exact⟨l,mD a,b,c⟩
theorem Wd.nofrz(w:Wd K H0 O0 H O σ δ){i:Nat}{y:Sl}{l:OO}(e:δ[i]?=some (some y))(h:y.own)(hl:σ[i]?=some (some (.ref l)))(o:Obj)(u:HO):H l≠some (.frz o u):=by
 match y,h,e with
 | .o ds,_,e=>obtain⟨l',vs,a,b,c,d,_⟩:=w.own e;rw [hl] at a;cases a;rw [d];exact λz=>nomatch z
 | .k ds,_,e=>obtain⟨l',vs,a,b,c,d,_⟩:=w.ownK e;rw [hl] at a;cases a;rw [d];exact λz=>nomatch z
 | .i l C ds,_,e=>obtain⟨dx,vs,a,b,c,d,_⟩:=w.ownI e;rw [hl] at a;cases a;rw [d];exact λz=>nomatch z
 | .r l C g u fd gd ud,_,e=>obtain⟨a,b,c,_,_,_,_,_,_,d,_⟩:=w.sl i _ e;have a:=mD a;rw [hl] at a;cases a;rw [d];exact λz=>nomatch z
theorem Wd.set(w:Wd K H0 O0 H O σ δ){i:Nat}{v:V}{d:OM}(h:Dt K H O v d):Wd K H0 O0 H O (σ.set i (some v)) (δ.set i (some (.v d))):=by
 refine⟨w.same,w.sub,w.new,w.trk,by simp [w.len],λj y e=>?_,λj k y z l e1 y1 e2 z2 e3 e4=>?_⟩
 ·by_cases hj:j=i
  ·subst hj;have hl:j < δ.length:=by
    have:=(IG.mp e).1;simpa using this
   rw [IT hl] at e;cases e;rw [IT (by rw [w.len];exact hl)];exact⟨v,rfl,h⟩
  ·rw [IH (Ne.symm hj)] at e⊢;exact w.sl j y e
 ·have ne:∀{j:Nat}{y:Sl},(δ.set i (some (.v d)))[j]?=some (some y)->y.own->j≠i:=λ{j y} e ho z=>by
   subst z;by_cases hl:j < δ.length
   ·rw [IT hl] at e;cases e;exact ho
   ·rw [Ld (by simpa using hl)] at e;cases e
  have n1:=ne e1 y1;have n2:=ne e2 z2;rw [IH (Ne.symm n1)] at e1 e3;rw [IH (Ne.symm n2)] at e2 e4;exact w.dis j k y z l e1 y1 e2 z2 e3 e4
theorem Wd.setY(w:Wd K H0 O0 H O σ δ){i:Nat}{p:OO}{ho:HO}{y0:Sl}(hy:y0.own)(hp:H p=none)(h:∀O',aH H (ak H p ho) O O'->O' p->¬O0 p->mU K (ak H p ho) O0 O' (some (.ref p)) (some y0)):
 Wd K H0 O0 (ak H p ho) (λl=>O l\/l=p) (σ.set i (some (.ref p))) (δ.set i (some y0)):=by
 have sm:ah H (ak H p ho):=ah.new hp;have np:∀l,O l->l≠p:=λl hl z=>w.trk l hl (by rw [z];exact hp);have p0:H0 p=none:=by
  cases e:H0 p with
  | none=>rfl
  | some o=>rw [w.same _ _ e] at hp;cases hp
 have S:aH H (ak H p ho) O (λl=>O l\/l=p):=⟨λb o e _=>sm b o e,λb hb hn z=>z.elim hn λq=>hb (by rw [q];exact hp)⟩;have n0:¬O0 p:=λz=>np p (w.sub p z) rfl;refine⟨w.same.trans sm,λl z=>.inl (w.sub l z),λl z=>z.elim (w.new l) λq=>.inr (by rw [q];exact p0),λl z=>?_,by simp [w.len],λj y e=>?_,λj k y z l e1 y1 e2 z2 e3 e4=>?_⟩
 ·by_cases q:l=p
  ·rw [q,bg];exact λz=>nomatch z
  ·rw [ay q];exact w.trk l (z.resolve_right q)
 ·by_cases hj:j=i
  ·subst hj;have hl:j < δ.length:=by
    have:=(IG.mp e).1;simpa using this
   rw [IT hl] at e;cases e;rw [IT (by rw [w.len];exact hl)];exact h _ S (.inr rfl) n0
  ·rw [IH (Ne.symm hj)] at e⊢;exact(w.sl j y e).go S (λl o _ _ a _ c=>⟨.inl a,sm _ _ c⟩) (λa o u a1 _ a3=>⟨.inl a1,sm _ _ a3⟩) λa o _ a3=>sm _ _ a3
 ·by_cases hj:j=i
  ·by_cases hk:k=i
   ·rw [hj,hk]
   ·exfalso;rw [hj] at e1 e3;have hl:i < σ.length:=by
     have:=(IG.mp e3).1;simpa using this
    rw [IT hl] at e3;cases e3;rw [IH (Ne.symm hk)] at e2 e4;obtain⟨l',x1,x2,_⟩:=w.adr e2 z2;rw [e4] at x1;cases x1;exact np _ x2 rfl
  ·by_cases hk:k=i
   ·exfalso;rw [hk] at e2 e4;have hl:i < σ.length:=by
     have:=(IG.mp e4).1;simpa using this
    rw [IT hl] at e4;cases e4;rw [IH (Ne.symm hj)] at e1 e3;obtain⟨l',x1,x2,_⟩:=w.adr e1 y1;rw [e3] at x1;cases x1;exact np _ x2 rfl
   ·rw [IH (Ne.symm hj)] at e1 e3;rw [IH (Ne.symm hk)] at e2 e4;exact w.dis j k _ _ l e1 y1 e2 z2 e3 e4
theorem Wd.setO(w:Wd K H0 O0 H O σ δ){i:Nat}{p:OO}{vs:List V}{ds:List OM}(hp:H p=none)(h:aj K H O vs ds):
 Wd K H0 O0 (ak H p (.lst vs)) (λl=>O l\/l=p) (σ.set i (some (.ref p))) (δ.set i (some (.o ds))):=
 w.setY trivial hp λO' S a b=>⟨p,vs,rfl,a,b,bg,h.step S⟩
theorem Wd.setK(w:Wd K H0 O0 H O σ δ){i:Nat}{p:OO}{kv:List (ag×V)}{kd:List (ag×OM)}(hp:H p=none)(h:bj K H O kv kd):
 Wd K H0 O0 (ak H p (.dK kv)) (λl=>O l\/l=p) (σ.set i (some (.ref p))) (δ.set i (some (.k kd))):=
 w.setY trivial hp λO' S a b=>⟨p,kv,rfl,a,b,bg,h.step S⟩
theorem Wd.putY(w:Wd K H0 O0 H O σ δ){i:Nat}{l:OO}{ho:HO}{y0 y1:Sl}(h0:y0.own)(h1:y1.own)(e:δ[i]?=some (some y0))(hl:σ[i]?=some (some (.ref l)))(h:aH H (ak H l ho) O O->O l->¬O0 l->mU K (ak H l ho) O0 O (some (.ref l)) (some y1)):
 Wd K H0 O0 (ak H l ho) O σ (δ.set i (some y1)):=by
 obtain⟨l',x1,x2,x3⟩:=w.adr e h0;rw [hl] at x1;cases x1;have l0:H0 l=none:=(w.new l x2).resolve_left x3;have S:aH H (ak H l ho) O O:=⟨λb o q n=>by rw [ay (λz=>n (by rw [z];exact x2))];exact q,λ_ _ n=>n⟩;have li:i < δ.length:=(IG.mp e).1;refine⟨λb o q=>by rw [ay (λz=>by rw [z,l0] at q;cases q)];exact w.same b o q,w.sub,w.new,λb z=>?_,by simp [w.len],λj y q=>?_,λj k y z b e1 y1' e2 z2 e3 e4=>?_⟩
 ·by_cases q:b=l
  ·rw [q,bg];exact λz=>nomatch z
  ·rw [ay q];exact w.trk b z
 ·by_cases hj:j=i
  ·subst hj;rw [IT li] at q;cases q;rw [hl];exact h S x2 x3
  ·rw [IH (Ne.symm hj)] at q;refine(w.sl j y q).go S (λb o ho' e' a1 a2 a3=>⟨a1,?_⟩) (λb o u a1 a2 a3=>⟨a1,by rw [ay (λz=>w.nofrz e h0 hl o u (by rw [<-z];exact a3))];exact a3⟩) λb o a1 a3=>by rw [ay (λz=>x3 (by rw [<-z];exact a1))];exact a3
   have nb:b≠l:=λz=>by
    subst z
    match y,ho',q with
    | some z,ho',q=>exact hj (w.dis j i z y0 b q (by cases z <;> first | trivial | cases ho') e h0 (mD e') hl)
   rw [ay nb];exact a3
 ·have l9:∀{j:Nat}{y:Sl},(δ.set i (some y1))[j]?=some (some y)->y.own->∃y',δ[j]?=some (some y')/\y'.own:=λ{j y} q hq=>by
   by_cases hj:j=i
   ·subst hj;exact⟨_,e,h0⟩
   ·rw [IH (Ne.symm hj)] at q;exact⟨_,q,hq⟩
  obtain⟨_,q1,r1⟩:=l9 e1 y1';obtain⟨_,q2,r2⟩:=l9 e2 z2;exact w.dis j k _ _ b q1 r1 q2 r2 e3 e4
theorem Wd.putO(w:Wd K H0 O0 H O σ δ){i:Nat}{l:OO}{vs us:List V}{ds es:List OM}(e:δ[i]?=some (some (.o ds)))(hl:σ[i]?=some (some (.ref l)))(h:aj K H O us es):
 Wd K H0 O0 (ak H l (.lst us)) O σ (δ.set i (some (.o es))):=
 w.putY (y0:= .o ds) (y1:= .o es) trivial trivial e hl λS a b=>⟨l,us,rfl,a,b,bg,h.step S⟩
theorem Wd.putK(w:Wd K H0 O0 H O σ δ){i:Nat}{l:OO}{kv:List (ag×V)}{kd kd':List (ag×OM)}(e:δ[i]?=some (some (.k kd)))(hl:σ[i]?=some (some (.ref l)))(h:bj K H O kv kd'):
 Wd K H0 O0 (ak H l (.dK kv)) O σ (δ.set i (some (.k kd'))):=
 w.putY (y0:= .k kd) (y1:= .k kd') trivial trivial e hl λS a b=>⟨l,kv,rfl,a,b,bg,h.step S⟩
end
abbrev DT:=Dl->(OM->Prop)->Prop
abbrev DA:=Dl->(List OM->Prop)->Prop
abbrev DB:=Dl->(Bool->Prop)->Prop
structure nX where
 nx:Dl->Prop
 rt:OM->Prop
 bk:Dl->Prop:=λ_=>False
 ct:Dl->Prop:=λ_=>False
abbrev DS:=nX->Dl->Prop
section
variable (K:Iq) (H0:Hp) (O0:Ex)
inductive up (t:DT) (σ:St) (H:Hp) (R:VK):Prop
 | mk (O:Ex) (δ:Dl) (Qd:OM->Prop):Wd K H0 O0 H O σ δ->t δ Qd->(∀d v H',Qd d->ah H H'->Dt K H' O v d->R v H')->up t σ H R
inductive qW (t:DT) (σ:St) (H:Hp) (R:VK):Prop
 | mk (O:Ex) (δ:Dl) (Qd:OM->Prop):Wd K H0 O0 H O σ δ->t δ Qd->(∀d v H',Qd d->ah H H'->Sh K H' O v d->R v H')->qW t σ H R
inductive cU (t:DA) (σ:St) (H:Hp) (R:List V->Hp->Prop):Prop
 | mk (O:Ex) (δ:Dl) (Qd:List OM->Prop):Wd K H0 O0 H O σ δ->t δ Qd->(∀ds vs H',Qd ds->ah H H'->aj K H' O vs ds->R vs H')->cU t σ H R
inductive bK (t:DB) (σ:St) (H:Hp) (R:Bool->Hp->Prop):Prop
 | mk (O:Ex) (δ:Dl) (Qd:Bool->Prop):Wd K H0 O0 H O σ δ->t δ Qd->(∀b H',Qd b->ah H H'->R b H')->bK t σ H R
inductive aT (t:DS) (D:mQ) (σ:St) (H:Hp):Prop
 | mk (O:Ex) (δ:Dl) (E:nX):Wd K H0 O0 H O σ δ->t E δ->(∀O' δ' σ' H',E.nx δ'->Wd K H0 O0 H' O' σ' δ'->aH H H' O O'->D.nx σ' H')->(∀d v H',E.rt d->ah H0 H'->Dt K H' O0 v d->D.rt v H')->
 (∀O' δ' σ' H',E.bk δ'->Wd K H0 O0 H' O' σ' δ'->aH H H' O O'->D.bk σ' H')->(∀O' δ' σ' H',E.ct δ'->Wd K H0 O0 H' O' σ' δ'->aH H H' O O'->D.ct σ' H')->aT t D σ H
end
theorem PE.imp{X:Cx}{e:OR}{t u:TE}(h:PE X e t)(i:∀σ H Q,u σ H Q->t σ H Q):PE X e u:=λQm s σ H Q I z=>h Qm s σ H Q I (i σ H Q z)
theorem PT.imp{X:Cx}{e:OR}{t u:TT}(h:PT X e t)(i:∀σ H Q,u σ H Q->t σ H Q):PT X e u:=λQm s σ H Q I z=>h Qm s σ H Q I (i σ H Q z)
theorem PW.imp{X:Cx}{e:OR}{t u:TT}(h:PW X e t)(i:∀σ H Q,u σ H Q->t σ H Q):PW X e u:=λwh Qm s σ H Q I z=>h wh Qm s σ H Q I (i σ H Q z)
theorem PA.imp{X:Cx}{e:List OR}{t u:TA}(h:PA X e t)(i:∀σ H Q,u σ H Q->t σ H Q):PA X e u:=λpos Qm s σ H Q I z=>h pos Qm s σ H Q I (i σ H Q z)
theorem PS.imp{X:Cx}{e:O6}{t u:TS}(h:PS X e t)(i:∀D σ H,u D σ H->t D σ H):PS X e u:=λQm s σ H D I z=>h Qm s σ H D I (i D σ H z)
theorem bu.imp{X:Cx}{e:List O6}{t u:TS}(h:bu X e t)(i:∀D σ H,u D σ H->t D σ H):bu X e u:=λQm s σ H D I z=>h Qm s σ H D I (i D σ H z)
section
variable {X:Cx} {H0:Hp} {O0:Ex}
abbrev DE(X:Cx)(H0:Hp)(O0:Ex)(e:OR)(t:DT):Prop:=PE X e (up X.K H0 O0 t)
abbrev DF(X:Cx)(H0:Hp)(O0:Ex)(e:OR)(t:DT):Prop:=PE X e (qW X.K H0 O0 t)
theorem df{e:OR}{t:DT}(h:DE X H0 O0 e t):DF X H0 O0 e t:=h.imp λσ H Q uu62=>by obtain⟨O,δ,Qd,w,q,k⟩:=uu62;exact⟨O,δ,Qd,w,q,λd v H' a b c=>k d v H' a b (.dt c)⟩
def uf(Q:OM->Prop):Option (Option Sl)->Prop
 | some (some (.v d))=>Q d
 | _=>False
def bW(i:Nat):DT:=λδ Q=>uf Q δ[i]?
theorem xi{Q:OM->Prop}{o:Option (Option Sl)}:uf Q o↔∃d,o=some (some (.v d))/\Q d:=by
 constructor
 ·intro h
  match o,h with
  | some (some (.v d)),h=>exact⟨d,rfl,h⟩
 ·rintro⟨d,rfl,h⟩;exact h
theorem DP{i:Nat}{δ:Dl}{Q:OM->Prop}(h:bW i δ Q):∃d,δ[i]?=some (some (.v d))/\Q d:=xi.mp h
def eO(i:Nat):DT:=λδ Q=>∃ds,δ[i]?=some (some (.o ds))/\Q (.list ds)
def dC(d:OM):DT:=λ_ Q=>Q d
theorem dv(i:Nat){x:Str}{pos:Pos}(hN:X.N[i]?=some x:=by rfl)(hv:oB X.env.scope x:=by first | exact MP rfl | exact Mj (MP rfl) | exact Mj (Mj rfl))
 (hd:(x==("__debug__":Str))=false:=by decide)(hcd:(x==("__classdict__":Str))=false:=by decide):DE X H0 O0 (.Name x pos) (bW i):=
 (qB hN hv hd hcd).imp λσ H Q uu63=>by
  obtain⟨O,δ,Qd,w,dq,k⟩:=uu63;obtain⟨d,e,q⟩:=DP dq;obtain⟨v,h,r⟩:=w.val e;exact⟨v,h,k d v H q (ah.refl _) r⟩
theorem dw(i:Nat){x:Str}{pos:Pos}(hN:X.N[i]?=some x:=by rfl)(hv:oB X.env.scope x:=by first | exact MP rfl | exact Mj (MP rfl) | exact Mj (Mj rfl))
 (hd:(x==("__debug__":Str))=false:=by decide)(hcd:(x==("__classdict__":Str))=false:=by decide):DF X H0 O0 (.Name x pos) (eO i):=
 (qB hN hv hd hcd).imp λσ H Q uu64=>by
  obtain⟨O,δ,Qd,w,⟨ds,e,q⟩,k⟩:=uu64;obtain⟨l,vs,h,_,_,r,rs⟩:=w.own e;exact⟨_,h,k _ _ H q (ah.refl _) (.own r rs)⟩
theorem dc{e:OR}{v:V}{d:OM}(h:PE X e (tC v))(r:∀H O,Dt X.K H O v d):DE X H0 O0 e (dC d):=h.imp λσ H Q uu65=>by obtain⟨O,δ,Qd,w,q,k⟩:=uu65;exact k d v H q (ah.refl _) (r H O)
theorem ae{i j pos}:DE X H0 O0 (.Constant (.int i) j pos) (dC (.int i)):=dc bB λ_ _=>.int i
theorem nj{b j pos}:DE X H0 O0 (.Constant (.bool b) j pos) (dC (.bool b)):=dc sF λ_ _=>.bl b
theorem nY{j pos}:DE X H0 O0 (.Constant .none j pos) (dC .none):=dc BL λ_ _=>.non
theorem bD{x j pos}:DE X H0 O0 (.Constant (.str x) j pos) (dC (.str x)):=dc sG λ_ _=>.str x
def dZ:DA:=λ_ Q=>Q []
def dM(t:DT)(u:DA):DA:=λδ Q=>t δ λd=>u δ λds=>Q (d::ds)
theorem aq:PA X [] (cU X.K H0 O0 dZ):=bP.imp λσ H Q uu66=>by obtain⟨O,δ,Qd,w,q,k⟩:=uu66;exact k [] [] H q (ah.refl _) .nil
theorem af{e:OR}{es:List OR}{t:DT}{u:DA}(h:DE X H0 O0 e t)(hs:PA X es (cU X.K H0 O0 u))(he:OW (e::es) X.env=(false,eval e X.env)::OW es X.env:=by rfl):PA X (e::es) (cU X.K H0 O0 (dM t u)):=
 (aP h hs he).imp λσ H Q uu67=>by obtain⟨O,δ,Qd,w,q,k⟩:=uu67;exact⟨O,δ,_,w,q,λd v H1 q1 s1 r1=>⟨O,δ,_,w.mono s1,q1,λds vs H2 q2 s2 r2=>k (d::ds) (v::vs) H2 q2 (s1.trans s2) (.cons (r1.mono s2) r2)⟩⟩
def eQ(t:DA):DT:=λδ Q=>t δ λds=>ds.length<=OS/\Q (.tuple ds)
def gY(t:DA):DT:=λδ Q=>t δ λds=>ds.length<=OS/\Q (.list ds)
theorem oN{H:Hp}{O:Ex}{σ:St}{δ:Dl}{H1:Hp}{p:OO}{K:Iq}(w:Wd K H0 O0 H O σ δ)(s:ah H H1)(hp:H1 p=none):¬O p:=λz=>(w.mono s).trk p z hp
theorem cE{es:List OR}{t:DA}{x1}{pos:Pos}(h:PA X es (cU X.K H0 O0 t)):DE X H0 O0 (.Tuple es x1 pos) (eQ t):=
 (tO h).imp λσ H Q uu68=>by obtain⟨O,δ,Qd,w,q,k⟩:=uu68;exact⟨O,δ,_,w,q,λds vs H1 q1 s1 r1=>⟨by rw [r1.length];exact q1.1,λp hp=>k _ _ _ q1.2 (s1.trans (ah.new hp)) (.tup (.inl bg) (oN w s1 hp) (r1.mono (ah.new hp)))⟩⟩
end
theorem aH.refl(H:Hp)(O:Ex):aH H H O O:=⟨λ_ _ e _=>e,λ_ _ n=>n⟩
theorem aH.trans{H H1 H2:Hp}{O O1 O2:Ex}(a:aH H H1 O O1)(b:aH H1 H2 O1 O2):aH H H2 O O2:=by
 refine⟨λc o e n=>?_,λc e n=>?_⟩
 ·have h1:=a.keep c o e n;exact b.keep c o h1 (a.out c (by rw [e];exact λz=>nomatch z) n)
 ·cases q:H c with
  | none=>exact absurd q e
  | some o=>exact b.out c (by rw [a.keep c o q n];exact λz=>nomatch z) (a.out c e n)
section
variable {X:Cx} {H0:Hp} {O0:Ex}
def bU(K:Iq)(r:R2)(rd:OM->OM->(OM->Prop)->Prop):Prop:=
 ∀(H:Hp)(O:Ex)(x y:V)(dx dy:OM)(Qd:OM->Prop)(R:VK),(∀l,O l->H l≠none)->Sh K H O x dx->Sh K H O y dy->rd dx dy Qd->(∀d v H',Qd d->ah H H'->Dt K H' O v d->R v H')->r x y H R
def bM(rd:OM->OM->(OM->Prop)->Prop)(ta tb:DT):DT:=λδ Q=>ta δ λx=>tb δ λy=>rd x y Q
theorem qX{K:Iq}{r:R2}{rd:OM->OM->(OM->Prop)->Prop}{ta tb:DT}(hd:bU K r rd):∀σ H Q,up K H0 O0 (bM rd ta tb) σ H Q->nO r (qW K H0 O0 ta) (qW K H0 O0 tb) σ H Q:=
 λσ H Q uu69=>by obtain⟨O,δ,Qd,w,q,k⟩:=uu69;exact⟨O,δ,_,w,q,λx v H1 q1 s1 r1=>⟨O,δ,_,w.mono s1,q1,λy u H2 q2 s2 r2=>hd H2 O v u x y Qd _ (w.mono (s1.trans s2)).trk (r1.mono s2) r2 q2 λd z H3 qd s3 r3=>k d z H3 qd (s1.trans (s2.trans s3)) r3⟩⟩
theorem DQ{a b:OR}{ta tb:DT}{op:Operator}{r:R2}{rd:OM->OM->(OM->Prop)->Prop}{pos:Pos}(ho:bx X (Pu op) r)(hd:bU X.K r rd)(ha:DF X H0 O0 a ta)(hb:DF X H0 O0 b tb):DE X H0 O0 (.BinOp a op b pos) (bM rd ta tb):=(bp ho ha hb).imp (qX hd)
theorem l7{a b:OR}{ta tb:DT}{op:CmpOp}{r:R2}{rd:OM->OM->(OM->Prop)->Prop}{pos:Pos}(ho:bx X (Pa op) r)(hd:bU X.K r rd)(ha:DF X H0 O0 a ta)(hb:DF X H0 O0 b tb)(hm:Pm op b=false):DE X H0 O0 (.Compare a [op] [b] pos) (bM rd ta tb):=(qK ho ha hb hm).imp (qX hd)
def cz(t:DT):DB:=λδ Q=>t δ λd=>∃b,d= .bool b/\Q b
theorem xj{a b:OR}{ta tb:DT}{op:CmpOp}{r:R2}{rd:OM->OM->(OM->Prop)->Prop}{pos:Pos}(ho:bx X (Pa op) r)(hd:bU X.K r rd)(ha:DF X H0 O0 a ta)(hb:DF X H0 O0 b tb)(hm:Pm op b=false):PT X (.Compare a [op] [b] pos) (bK X.K H0 O0 (cz (bM rd ta tb))):=
 (nQ ho ha hb hm).imp λσ H Q uu70=>by obtain⟨O,δ,Qd,w,q,k⟩:=uu70;exact qX hd σ H _ ⟨O,δ,_,w,q,λd v H' uu71 s r=>by obtain⟨b,e,qb⟩:=uu71;subst e;cases r;exact⟨b,rfl,k b H' qb s⟩⟩
theorem oO{e:OR}{t:DT}(h:DE X H0 O0 e t)(he:∀whole,isTrue e X.env whole=(do let v<-whole;standAt e.pos;holding [v] (truthy v)):=by intro _;rfl):PT X e (bK X.K H0 O0 (cz t)):=
 (sH h he).imp λσ H Q uu72=>by obtain⟨O,δ,Qd,w,q,k⟩:=uu72;exact⟨O,δ,_,w,q,λd v H' uu73 s r=>by obtain⟨b,e,qb⟩:=uu73;subst e;cases r;exact⟨b,rfl,k b H' qb s⟩⟩
def eR(t u:DB):DB:=λδ Q=>t δ λc=>if c=true then u δ Q else Q false
def eS(t u:DB):DB:=λδ Q=>t δ λc=>if c=true then Q true else u δ Q
def eT(t:DB):DB:=λδ Q=>t δ λc=>Q (!c)
theorem nZ{a:OR}{t:DB}{pos:Pos}(h:PT X a (bK X.K H0 O0 t)):PW X (.BoolOp .And [a] pos) (bK X.K H0 O0 t):=vH h
theorem ug{a:OR}{t:DB}{pos:Pos}(h:PT X a (bK X.K H0 O0 t)):PW X (.BoolOp .Or [a] pos) (bK X.K H0 O0 t):=BN h
theorem nk{a b:OR}{rest:List OR}{t u:DB}{pos:Pos}(h:PT X a (bK X.K H0 O0 t))(hb:PW X (.BoolOp .And (b::rest) pos) (bK X.K H0 O0 u)):PW X (.BoolOp .And (a::b::rest) pos) (bK X.K H0 O0 (eR t u)):=
 (vI h hb).imp λσ H Q uu74=>by obtain⟨O,δ,Qd,w,q,k⟩:=uu74;exact⟨O,δ,_,w,q,λc H1 q1 s1=>by
  cases c with
  | true=>exact⟨O,δ,_,w.mono s1,q1,λb H2 q2 s2=>k b H2 q2 (s1.trans s2)⟩
  | false=>exact k false H1 q1 s1⟩
theorem uh{a b:OR}{rest:List OR}{t u:DB}{pos:Pos}(h:PT X a (bK X.K H0 O0 t))(hb:PW X (.BoolOp .Or (b::rest) pos) (bK X.K H0 O0 u)):PW X (.BoolOp .Or (a::b::rest) pos) (bK X.K H0 O0 (eS t u)):=
 (BO h hb).imp λσ H Q uu75=>by obtain⟨O,δ,Qd,w,q,k⟩:=uu75;exact⟨O,δ,_,w,q,λc H1 q1 s1=>by
  cases c with
  | false=>exact⟨O,δ,_,w.mono s1,q1,λb H2 q2 s2=>k b H2 q2 (s1.trans s2)⟩
  | true=>exact k true H1 q1 s1⟩
theorem qY{a:OR}{t:DB}{pos:Pos}(h:PT X a (bK X.K H0 O0 t)):PT X (.UnaryOp .Not a pos) (bK X.K H0 O0 (eT t)):=
 (BP h).imp λσ H Q uu76=>by obtain⟨O,δ,Qd,w,q,k⟩:=uu76;exact⟨O,δ,_,w,q,λc H1 q1 s1=>k (!c) H1 q1 s1⟩
def eU(t u:DT):DT:=λδ Q=>t δ λd=>∃c,d= .bool c/\if c=true then u δ Q else Q (.bool false)
def eV(t u:DT):DT:=λδ Q=>t δ λd=>∃c,d= .bool c/\if c=true then Q (.bool true) else u δ Q
def eX(t:DT):DT:=λδ Q=>t δ λd=>∃c,d= .bool c/\Q (.bool (!c))
theorem pW{op}{a:OR}{t:DT}{pos:Pos}(h:DE X H0 O0 a t):DE X H0 O0 (.BoolOp op [a] pos) t:=qC h
theorem pX{a b:OR}{rest:List OR}{t u:DT}{pos:Pos}(h:DE X H0 O0 a t)(hb:DE X H0 O0 (.BoolOp .And (b::rest) pos) u):DE X H0 O0 (.BoolOp .And (a::b::rest) pos) (eU t u):=
 (sP h hb).imp λσ H Q ⟨O,δ,Qd,w,q,k⟩=>⟨O,δ,_,w,q,λd v H1 uu78 s1 r=>by
  obtain⟨c,e,q1⟩:=uu78;subst e;cases r;refine⟨c,rfl,?_⟩;cases c with
  | true=>exact⟨O,δ,_,w.mono s1,q1,λd v H2 q2 s2 r2=>k d v H2 q2 (s1.trans s2) r2⟩
  | false=>exact k _ _ H1 q1 s1 (.bl false)⟩
theorem DR{a b:OR}{rest:List OR}{t u:DT}{pos:Pos}(h:DE X H0 O0 a t)(hb:DE X H0 O0 (.BoolOp .Or (b::rest) pos) u):DE X H0 O0 (.BoolOp .Or (a::b::rest) pos) (eV t u):=
 (vJ h hb).imp λσ H Q ⟨O,δ,Qd,w,q,k⟩=>⟨O,δ,_,w,q,λd v H1 uu80 s1 r=>by
  obtain⟨c,e,q1⟩:=uu80;subst e;cases r;refine⟨c,rfl,?_⟩;cases c with
  | false=>exact⟨O,δ,_,w.mono s1,q1,λd v H2 q2 s2 r2=>k d v H2 q2 (s1.trans s2) r2⟩
  | true=>exact k _ _ H1 q1 s1 (.bl true)⟩
theorem DU{a:OR}{t:DT}{pos:Pos}(h:DE X H0 O0 a t):DE X H0 O0 (.UnaryOp .Not a pos) (eX t):=
 (BQ h).imp λσ H Q uu81=>by obtain⟨O,δ,Qd,w,q,k⟩:=uu81;exact⟨O,δ,_,w,q,λd v H1 uu82 s1 r=>by
  obtain⟨c,e,q1⟩:=uu82;subst e;cases r;exact⟨c,rfl,k _ _ H1 q1 s1 (.bl _)⟩⟩
def eZ(c:DB)(t u:DT):DT:=λδ Q=>c δ λb=>if b=true then t δ Q else u δ Q
theorem DV{c a b:OR}{tc:DB}{t u:DT}{pos:Pos}(hc:PT X c (bK X.K H0 O0 tc))(ha:DE X H0 O0 a t)(hb:DE X H0 O0 b u):DE X H0 O0 (.IfExp c a b pos) (eZ tc t u):=
 (vK hc ha hb).imp λσ H Q uu83=>by obtain⟨O,δ,Qd,w,q,k⟩:=uu83;exact⟨O,δ,_,w,q,λc H1 q1 s1=>by
  cases c with
  | true=>exact⟨O,δ,_,w.mono s1,q1,λd v H2 q2 s2 r2=>k d v H2 q2 (s1.trans s2) r2⟩
  | false=>exact⟨O,δ,_,w.mono s1,q1,λd v H2 q2 s2 r2=>k d v H2 q2 (s1.trans s2) r2⟩⟩
def gZ(rd rd':OM->OM->(OM->Prop)->Prop)(ta tb tc:DT):DT:=λδ Q=>ta δ λx=>tb δ λy=>rd x y λz=>∃k,z= .bool k/\if k=true then tc δ λu=>rd' y u Q else Q (.bool false)
inductive bA (K:Iq) (F:List OM->(OM->Prop)->Prop) (vs:List V) (H:Hp) (Q:VK) (E:XK):Prop
 | mk (O:Ex) (ds:List OM) (Qd:OM->Prop):(∀l,O l->H l≠none)->aj K H O vs ds->F ds Qd->(∀d v H',Qd d->ah H H'->Dt K H' O v d->Q v H')->bA K F vs H Q E
def dz(F:List OM->(OM->Prop)->Prop)(t:DA):DT:=λδ Q=>t δ λds=>F ds Q
theorem xk{K:Iq}{F:List OM->(OM->Prop)->Prop}{t:DA}{E:XK}:∀σ H Q,up K H0 O0 (dz F t) σ H Q->pP (bA K F) [] E (cU K H0 O0 t) σ H Q:=
 λσ H Q uu84=>by obtain⟨O,δ,Qd,w,q,k⟩:=uu84;exact⟨O,δ,_,w,q,λds vs H1 q1 s1 r1=>⟨O,ds,Qd,(w.mono s1).trk,by rw [IW];exact r1,q1,λd v H2 q2 s2 r2=>k d v H2 q2 (s1.trans s2) r2⟩⟩
inductive oP (K:Iq) (H:Hp) (O:Ex):List V->List OM->Prop
 | nil:oP K H O [] []
 | cons {v:V} {d:OM} {vs:List V} {ds:List OM}:Sh K H O v d->oP K H O vs ds->oP K H O (v::vs) (d::ds)
inductive mE (K:Iq) (H0:Hp) (O0:Ex) (t:DA) (σ:St) (H:Hp) (R:List V->Hp->Prop):Prop
 | mk (O:Ex) (δ:Dl) (Qd:List OM->Prop):Wd K H0 O0 H O σ δ->t δ Qd->(∀ds vs H',Qd ds->ah H H'->oP K H' O vs ds->R vs H')->mE K H0 O0 t σ H R
theorem bR:PA X [] (mE X.K H0 O0 dZ):=bP.imp λσ H Q uu85=>by obtain⟨O,δ,Qd,w,q,k⟩:=uu85;exact k [] [] H q (ah.refl _) .nil
theorem xn{e:OR}{es:List OR}{t:DT}{u:DA}(h:DF X H0 O0 e t)(hs:PA X es (mE X.K H0 O0 u))(he:OW (e::es) X.env=(false,eval e X.env)::OW es X.env:=by rfl):PA X (e::es) (mE X.K H0 O0 (dM t u)):=
 (aP h hs he).imp λσ H Q uu86=>by obtain⟨O,δ,Qd,w,q,k⟩:=uu86;exact⟨O,δ,_,w,q,λd v H1 q1 s1 r1=>⟨O,δ,_,w.mono s1,q1,λds vs H2 q2 s2 r2=>k (d::ds) (v::vs) H2 q2 (s1.trans s2) (.cons (r1.mono s2) r2)⟩⟩
def g6(F:List OM->(OM->Prop)->Prop)(t:DA):DT:=λδ Q=>t δ λds=>F ds λd=>cK d=true/\Q d
def l8(K:Iq)(r:List V->Hp->VK->Prop)(rd:List OM->(OM->Prop)->Prop):Prop:=
 ∀(H:Hp)(O:Ex)(xs:List V)(ds:List OM)(Qd:OM->Prop)(R:VK),(∀l,O l->H l≠none)->oP K H O xs ds->rd ds Qd->(∀d v H',Qd d->ah H H'->Dt K H' O v d->R v H')->r xs H R
theorem bX{K:Iq}{r:List V->Hp->VK->Prop}{rd:List OM->(OM->Prop)->Prop}{t:DA}(hd:l8 K r rd):∀σ H Q,up K H0 O0 (dz rd t) σ H Q->pQ r (mE K H0 O0 t) σ H Q:=
 λσ H Q uu87=>by obtain⟨O,δ,Qd,w,q,k⟩:=uu87;exact⟨O,δ,_,w,q,λds vs H1 q1 s1 r1=>hd H1 O vs ds Qd _ (w.mono s1).trk r1 q1 λd v H2 q2 s2 r2=>k d v H2 q2 (s1.trans s2) r2⟩
def cV(t u:DS):DS:=λE δ=>t {E with nx:=u E} δ
theorem av{st:O6}{rest:List O6}{t u:DS}(h:PS X st (aT X.K H0 O0 t))(h2:bu X rest (aT X.K H0 O0 u)):bu X (st::rest) (aT X.K H0 O0 (cV t u)):=
 (cx h h2).imp λD σ H uu88=>by obtain⟨O,δ,E,w,q,k1,k2,k3,k4⟩:=uu88;exact⟨O,δ,_,w,q,λO' δ' σ' H' z w' S=>⟨O',δ',E,w',z,λO2 δ2 σ2 H2 z2 w2 S2=>k1 O2 δ2 σ2 H2 z2 w2 (S.trans S2),k2,λO2 δ2 σ2 H2 z2 w2 S2=>k3 O2 δ2 σ2 H2 z2 w2 (S.trans S2),λO2 δ2 σ2 H2 z2 w2 S2=>k4 O2 δ2 σ2 H2 z2 w2 (S.trans S2)⟩,k2,k3,k4⟩
def fb:DS:=λE δ=>E.nx δ
theorem bY:bu X [] (aT X.K H0 O0 fb):=oE.imp λD σ H uu89=>by obtain⟨O,δ,E,w,q,k1,k2,k3,k4⟩:=uu89;exact k1 O δ σ H q w (aH.refl _ _)
theorem aC{st:O6}{t:DS}(h:PS X st (aT X.K H0 O0 t)):bu X [st] (aT X.K H0 O0 t):=cQ h
def d4(i:Nat)(t:DT):DS:=λE δ=>t δ λd=>E.nx (δ.set i (some (.v d)))
theorem bw{i:Nat}{x:Str}{e:OR}{t:DT}{pos pos':Pos}(hN:X.N.Nodup)(hi:X.N[i]?=some x)(hx:mv X.env.scope x)(he:DE X H0 O0 e t)(hs:Pg e (some (.Name x pos')) pos.line X.env=pure false:=by rfl)(hf:X.fn x=true\/X.env.scope.names.lookup x=some .local:=by first | exact .inl rfl | exact .inr rfl | assumption):
 PS X (.Assign [.Name x pos'] e pos) (aT X.K H0 O0 (d4 i t)):=
 (dj hN hi hx he hs hf).imp λD σ H uu90=>by obtain⟨O,δ,E,w,q,k1,k2,k3,k4⟩:=uu90;exact⟨O,δ,_,w,q,λd v H1 q1 s1 r1=>k1 O _ _ H1 q1 ((w.mono s1).set r1) (.same s1)⟩
def fc(t:DT):DS:=λE δ=>t δ E.rt
theorem l9{K:Iq}{H:Hp}{O:Ex}{σ:St}{δ:Dl}(w:Wd K H0 O0 H O σ δ):aH H H O O0:=⟨λ_ _ e _=>e,λb _ n z=>n (w.sub b z)⟩
theorem bq{e:OR}{t:DT}{pos:Pos}(he:DE X H0 O0 e t):PS X (.Return (some e) pos) (aT X.K H0 O0 (fc t)):=
 (cR he).imp λD σ H uu91=>by obtain⟨O,δ,E,w,q,k1,k2,k3,k4⟩:=uu91;exact⟨O,δ,_,w,q,λd v H1 q1 s1 r1=>k2 d v H1 q1 (w.same.trans s1) (r1.step (l9 (w.mono s1)))⟩
def fh(i:Nat):DS:=λE δ=>∃ds,δ[i]?=some (some (.o ds))/\E.rt (.list ds)
theorem xo{e:OR}{i:Nat}{pos:Pos}(he:PE X e (mR i)):PS X (.Return (some e) pos) (aT X.K H0 O0 (fh i)):=
 (cR he).imp λD σ H uu92=>by
  obtain⟨O,δ,E,w,⟨ds,e,q⟩,k1,k2,k3,k4⟩:=uu92;obtain⟨l,vs,h,a,b,c,r⟩:=w.own e;exact⟨_,h,k2 _ _ H q w.same (.lst (.inl c) b (r.step (l9 w)))⟩
def fi(c:DB)(t u:DS):DS:=λE δ=>c δ λb=>if b=true then t E δ else u E δ
theorem bZ{c:OR}{a b:List O6}{tc:DB}{t u:DS}{pos:Pos}(hc:PT X c (bK X.K H0 O0 tc))(ha:bu X a (aT X.K H0 O0 t))(hb:bu X b (aT X.K H0 O0 u)):PS X (.If c a b pos) (aT X.K H0 O0 (fi tc t u)):=
 (oF hc ha hb).imp λD σ H uu93=>by obtain⟨O,δ,E,w,q,k1,k2,k3,k4⟩:=uu93;exact⟨O,δ,_,w,q,λc H1 q1 s1=>by
  have g:∀{t':DS},t' E δ->aT X.K H0 O0 t' D σ H1:=λz=>⟨O,δ,E,w.mono s1,z,λO2 δ2 σ2 H2 z2 w2 S2=>k1 O2 δ2 σ2 H2 z2 w2 (aH.trans (.same s1) S2),k2,λO2 δ2 σ2 H2 z2 w2 S2=>k3 O2 δ2 σ2 H2 z2 w2 (aH.trans (.same s1) S2),λO2 δ2 σ2 H2 z2 w2 S2=>k4 O2 δ2 σ2 H2 z2 w2 (aH.trans (.same s1) S2)⟩;cases c with
  | true=>exact g q1
  | false=>exact g q1⟩
def g8(t:DT):DS:=λE δ=>t δ λ_=>E.nx δ
inductive pY (K:Iq) (H0:Hp) (O0:Ex) (t:DA) (σ:St) (H:Hp) (R:VK):Prop
 | mk (O:Ex) (δ:Dl) (Qd:List OM->Prop):Wd K H0 O0 H O σ δ->t δ Qd->(∀ds vs p H',Qd ds->ah H H'->H' p=none->aj K H' O vs ds->R (.ref p) (ak H' p (.lst vs)))->pY K H0 O0 t σ H R
abbrev FE(X:Cx)(H0:Hp)(O0:Ex)(e:OR)(t:DA):Prop:=PE X e (pY X.K H0 O0 t)
def dL(t:DA):DT:=λδ Q=>t δ λds=>Q (.list ds)
theorem fe{e:OR}{t:DA}(h:FE X H0 O0 e t):DE X H0 O0 e (dL t):=
 h.imp λσ H Q uu94=>by obtain⟨O,δ,Qd,w,q,k⟩:=uu94;exact⟨O,δ,_,w,q,λds vs p H1 q1 s1 hp r1=>k _ _ _ q1 (s1.trans (ah.new hp)) (.lst (.inl bg) (oN w s1 hp) (r1.mono (ah.new hp)))⟩
def d5(t:DA):DA:=λδ Q=>t δ λds=>ds.length<=OS/\Q ds
theorem cn{es:List OR}{t:DA}{pos:Pos}(h:PA X es (cU X.K H0 O0 t)):FE X H0 O0 (.List es pos) (d5 t):=
 (Ct h).imp λσ H Q uu95=>by obtain⟨O,δ,Qd,w,q,k⟩:=uu95;exact⟨O,δ,_,w,q,λds vs H1 q1 s1 r1=>⟨by rw [r1.length];exact q1.1,λp hp=>k _ _ _ _ q1.2 s1 hp r1⟩⟩
def d6(i:Nat)(t:DA):DS:=λE δ=>t δ λds=>E.nx (δ.set i (some (.o ds)))
theorem qZ{i:Nat}{x:Str}{e:OR}{t:DA}{pos pos':Pos}(hN:X.N.Nodup)(hi:X.N[i]?=some x)(hx:mv X.env.scope x)(he:FE X H0 O0 e t)(hs:Pg e (some (.Name x pos')) pos.line X.env=pure false:=by rfl)(hf:X.fn x=true\/X.env.scope.names.lookup x=some .local:=by first | exact .inl rfl | exact .inr rfl | assumption):
 PS X (.Assign [.Name x pos'] e pos) (aT X.K H0 O0 (d6 i t)):=
 (dj hN hi hx he hs hf).imp λD σ H ⟨O,δ,E,w,q,k1,k2,k3,k4⟩=>⟨O,δ,_,w,q,λds vs p H1 q1 s1 hp r1=>k1 _ _ _ _ q1 ((w.mono s1).setO hp r1)
  ⟨λb o e _=>(s1.trans (ah.new hp)) b o e,λb e n z=>z.elim n λy=>by
   cases q:H b with
   | none=>exact e q
   | some o=>have:=s1 _ _ q;rw [y,hp] at this;cases this⟩⟩
def fj(i:Nat)(t:DT):DS:=λE δ=>∃ds,δ[i]?=some (some (.o ds))/\t δ λd=>ds.length < OS/\E.nx (δ.set i (some (.o (ds++[d]))))
theorem n4{i:Nat}{o e:OR}{t:DT}{apos cpos pos:Pos}(ho:PE X o (mR i))(he:DE X H0 O0 e t)(hbase:Px o "append" X.env (eval o X.env)=eval o X.env:=by rfl)
 (hfew:((Pd cpos (OW [e] X.env)).all (λx=>!x.1) && (backToKw cpos (keywordEach [] X.env)).all (λx=>x.1.isSome) && decide ([e].length+([]:List P6).length+(if ([]:List P6).isEmpty then 0 else 1) < 30))=true:=by rfl)
 (hline:(apos.endLine==cpos.line)=true:=by rfl)(hst:OW [e] X.env=(false,eval e X.env)::OW [] X.env:=by rfl)(hplain:(Pd cpos (OW [] X.env)).any (·.1)=false:=by rfl)
 (hs:Pg (.Call (.Attribute o "append" apos) [e] [] cpos) none pos.line X.env=pure false:=by rfl):PS X (.Expr (.Call (.Attribute o "append" apos) [e] [] cpos) pos) (aT X.K H0 O0 (fj i t)):=
 (BS (CU PySem.F.plainAttrs_list PySem.F.slot_list_append PySem.F.type_list_append wB ho (aP he bP hst) hbase hfew hline hst hplain) hs).imp λD σ H uu0=>by
  obtain⟨O,δ,E,w,⟨ds,e,q⟩,k1,k2,k3,k4⟩:=uu0;obtain⟨l,vs,h,a,b,c,r⟩:=w.own e;refine⟨_,h,.inl ⟨rfl,_,aV.of c⟩,O,δ,_,w,q,λd v H1 q1 s1 r1=>?_⟩;refine⟨l,vs,v,rfl,rfl,s1 _ _ c,by rw [r.length];exact q1.1,?_⟩;exact k1 _ _ _ _ q1.2 ((w.mono s1).putO (vs:=vs) e h ((r.mono s1).append (.cons r1 .nil))) ⟨λb' o' z n=>by rw [ay (λy=>n (by rw [y];exact a))];exact s1 _ _ z,λ_ _ n=>n⟩
end
structure cb (J:It) (P:Hp->Prop) (vs:List V):Prop where
 go:∀i H',P H'->i < vs.length->J.go i H'
 yl:∀i H' x H'',P H'->i < vs.length->J.yld i H' x H''->H''=H'/\vs[i]?=some x
 st:∀i H',P H'->vs.length<=i->J.stop i H'
def q5(H1:Hp)(a:OO)(H':Hp):Prop:=∀o,H1 a=some o->H' a=some o
theorem aV.keep{K:Iq}{H H':Hp}{a:OO}{xs:List V}(s:q5 H a H')(h:aV K H a xs):aV K H' a xs:=by
 rcases h with(h | ⟨o,h⟩) | h
 ·exact .inl (.inl (s _ h))
 ·exact .inl (.inr ⟨o,s _ h⟩)
 ·exact .inr h
theorem aZ.keep{K:Iq}{H H':Hp}{a:OO}{xs:List V}(s:q5 H a H')(h:aZ K H a xs):aZ K H' a xs:=by
 rcases h with(h | ⟨o,h⟩) | h
 ·exact .inl (.inl (s _ h))
 ·exact .inl (.inr ⟨o,s _ h⟩)
 ·exact .inr h
theorem cb.list{K:Iq}{H:Hp}{a:OO}{vs:List V}(h:aV K H a vs):cb (pF K a) (q5 H a) vs:=
 ⟨λi H' s hi=>⟨vs,vs[i],h.keep s,by simp [hi]⟩,λi H' x H'' s _ y=>⟨y.1,y.2 vs (h.keep s)⟩,λi H' s hi=>⟨vs,h.keep s,hi⟩⟩
theorem cb.tup{K:Iq}{H:Hp}{a:OO}{vs:List V}(h:aZ K H a vs):cb (pG K a) (q5 H a) vs:=
 ⟨λi H' s hi=>⟨vs,vs[i],h.keep s,by simp [hi]⟩,λi H' x H'' s _ y=>⟨y.1,y.2 vs (h.keep s)⟩,λi H' s hi=>⟨vs,h.keep s,hi⟩⟩
def g9(lo:Int)(n:Nat):List OM:=(JP n).map λ(k:Nat)=>.int (lo+k)
theorem cb.rng{lo:Int}{n:Nat}:cb (mx lo n) (λ_=>True) ((JP n).map λ(k:Nat)=>V.int (lo+k)):=by
 refine⟨λi H' s hi=>(by simpa using hi:i < n),λi H' x H'' s hi y=>⟨y.1,?_⟩,λi H' s hi=>(by simpa using hi:n<=i)⟩;obtain⟨_,rfl⟩:=y;have hn:i < n:=by simpa using hi
 simp [hn]
theorem aj.rng{K:Iq}{H:Hp}{O:Ex}{lo:Int}:∀(l:List Nat),aj K H O (l.map λ(k:Nat)=>V.int (lo+k)) (l.map λ(k:Nat)=>Iy (lo+k))
 | []=>.nil
 | n::r=>.cons (.int _) (aj.rng r)
abbrev DG:=OM->Dl->(Dl->Prop)->Prop
def GD(K:Iq)(g:TG)(dg:DG):Prop:=∀(H0:Hp)(O0:Ex)(H:Hp)(O:Ex)(σ:St)(δ:Dl)(v:V)(x:OM)(R:St->Hp->Prop)(Qd:Dl->Prop),Wd K H0 O0 H O σ δ->Dt K H O v x->dg x δ Qd->(∀δ' σ',Qd δ'->Wd K H0 O0 H O σ' δ'->R σ' H)->g v σ H R
def dN(i:Nat):DG:=λx δ Q=>Q (δ.set i (some (.v x)))
theorem bG{K:Iq}{i:Nat}:GD K (lX i) (dN i):=λH0 O0 H O σ δ v x R Qd w r q k=>k _ _ q (w.set r)
abbrev n6:=List OM->Dl->(Dl->Prop)->Prop
def rf(K:Iq)(g:mw)(dg:n6):Prop:=∀(H0:Hp)(O0:Ex)(H:Hp)(O:Ex)(σ:St)(δ:Dl)(vs:List V)(xs:List OM)(R:St->Hp->Prop)(Qd:Dl->Prop),Wd K H0 O0 H O σ δ->aj K H O vs xs->dg xs δ Qd->(∀δ' σ',Qd δ'->Wd K H0 O0 H O σ' δ'->R σ' H)->g vs σ H R
def fk:n6:=λxs δ Q=>xs=[]/\Q δ
def fm(t:DG)(u:n6):n6:=λxs δ Q=>∃x r,xs=x::r/\t x δ λδ'=>u r δ' Q
theorem xp{K:Iq}:rf K pA fk:=λH0 O0 H O σ δ vs xs R Qd w r uu1 k=>by obtain⟨e,q⟩:=uu1;subst e;cases r;exact⟨rfl,k _ _ q w⟩
theorem pZ{K:Iq}{t:TG}{u:mw}{dt:DG}{du:n6}(h:GD K t dt)(h2:rf K u du):rf K (oG t u) (fm dt du):=λH0 O0 H O σ δ vs xs R Qd w r uu2 k=>by
 obtain⟨x,rr,e,q⟩:=uu2;subst e;cases r with
 | cons r1 r2=>exact⟨_,_,rfl,h H0 O0 H O σ δ _ _ _ _ w r1 q λδ' σ' q' w'=>h2 H0 O0 H O σ' δ' _ _ R Qd w' r2 q' k⟩
def fq(n:Nat)(t:n6):DG:=λx δ Q=>∃xs,x= .tuple xs/\xs.length=n/\t xs δ Q
theorem xq{K:Iq}{n:Nat}{t:mw}{dt:n6}(h:rf K t dt):GD K (pC K n t) (fq n dt):=λH0 O0 H O σ δ v x R Qd w r uu3 k=>by
 obtain⟨xs,e,hl,q⟩:=uu3;subst e;obtain⟨a,vs,rfl,hs,rr⟩:=(Sh.dt r).tup;exact⟨a,vs,rfl,hs,by rw [rr.length];exact hl,h H0 O0 H O σ δ _ _ R Qd w rr q k⟩
section
variable {X:Cx} {H0:Hp} {O0:Ex}
def fu(t:DT)(g:DG):DS:=λE δ=>t δ λd=>g d δ E.nx
theorem DW{tg e:OR}{t:DT}{g:TG}{dg:DG}{pos:Pos}(he:DE X H0 O0 e t)(hg:PG X tg g)(gd:GD X.K g dg)(hs:PH [tg] e pos.line X.env=pure false:=by rfl)(hw:PJ [tg] e X.env=pure none:=by rfl)
 (h1:(PY [tg] X.env).map (·.2)=[assign tg X.env]:=by rfl):PS X (.Assign [tg] e pos) (aT X.K H0 O0 (fu t dg)):=
 (BW he hg hs hw h1).imp λD σ H uu4=>by obtain⟨O,δ,E,w,q,k1,k2,k3,k4⟩:=uu4;exact⟨O,δ,_,w,q,λd v H1 q1 s1 r1=>gd H0 O0 H1 O σ δ v d _ _ (w.mono s1) r1 q1 λδ' σ' q' w'=>k1 O δ' σ' H1 q' w' (.same s1)⟩
def d8(i j:Nat)(t:DA):DS:=λE δ=>t δ λds=>∃x y,ds=[x,y]/\E.nx ((δ.set i (some (.v x))).set j (some (.v y)))
theorem xt{i j:Nat}{x y:Str}{a b:OR}{ta:DA}{px py pt pos:Pos}{kt k2 pt2}(hc:X.calm=true)(hN:X.N.Nodup)(hi:X.N[i]?=some x)(hj:X.N[j]?=some y)(hij:i≠j)
 (hx:X.env.scope.names.lookup x=some .local)(hy:X.env.scope.names.lookup y=some .local)(ha:PA X [a,b] (cU X.K H0 O0 ta))
 (hw:PJ [.Tuple [.Name x px,.Name y py] kt pt] (.Tuple [a,b] k2 pt2) X.env=pure (some [x,y]))
 (hs:PH [.Tuple [.Name x px,.Name y py] kt pt] (.Tuple [a,b] k2 pt2) pos.line X.env=pure false:=by rfl):
 PS X (.Assign [.Tuple [.Name x px,.Name y py] kt pt] (.Tuple [a,b] k2 pt2) pos) (aT X.K H0 O0 (d8 i j ta)):=
 (BX hc hN hi hj hij hx hy ha hw hs).imp λD σ H uu5=>by obtain⟨O,δ,E,w,q,k1,k2,k3,k4⟩:=uu5;exact⟨O,δ,_,w,q,λds vs H1 uu6 s1 r1=>by
  obtain⟨d1,d2,e,q1⟩:=uu6;subst e;cases r1 with
  | cons r1 r2=>
   cases r2 with
   | cons r2 r3=>
    cases r3;exact⟨_,_,rfl,k1 _ _ _ _ q1 (((w.mono s1).set r1).set r2) (.same s1)⟩⟩
def cq(g:DG)(tb:DS)(E:nX):List OM->Dl->Prop
 | [],δ=>E.nx δ
 | x::xs,δ=>g x δ λδ2=>tb {E with nx:=cq g tb E xs,ct:=cq g tb E xs,bk:=E.nx} δ2
theorem DY{K:Iq}{J:It}{P:Hp->Prop}{vs:List V}{xs:List OM}{g:TG}{dg:DG}{tb:DS}{D:mQ}{E:nX}{σ:St}{H:Hp}{O:Ex}{δ:Dl}(S:cb J P vs)(gd:GD K g dg)
 (hP:∀H' O',aH H H' O O'->P H')(r:aj K H O vs xs)(w:Wd K H0 O0 H O σ δ)(q:cq dg tb E xs δ)
 (k1:∀O' δ' σ' H',E.nx δ'->Wd K H0 O0 H' O' σ' δ'->aH H H' O O'->D.nx σ' H')(k2:∀d v H',E.rt d->ah H0 H'->Dt K H' O0 v d->D.rt v H'):FR J g (aT K H0 O0 tb) D σ H:=by
 refine⟨λi m σ' H'=>∃O' δ',m=vs.length - i/\i<=vs.length/\Wd K H0 O0 H' O' σ' δ'/\aH H H' O O'/\cq dg tb E (xs.drop i) δ',⟨vs.length,O,δ,OL,J1 _,w,aH.refl _ _,by simpa using q⟩,?_⟩;rintro i m σ1 H1 ⟨O1,δ1,rfl,hi,w1,S1,q1⟩;by_cases hlt:i < vs.length
 ·refine .inr ⟨S.go i H1 (hP _ _ S1) hlt,λσ' H'=>∃O' δ',Wd K H0 O0 H' O' σ' δ'/\aH H H' O O'/\cq dg tb E (xs.drop (i+1)) δ',λσ' H' uu7=>by obtain⟨O',δ',w',S',q'⟩:=uu7;exact⟨vs.length - (i+1),OH,O',δ',rfl,hlt,w',S',q'⟩,λx H' y=>?_⟩;have yy:=S.yl i H1 x H' (hP _ _ S1) hlt y;clear y;obtain⟨e,y⟩:=yy;subst e;obtain⟨d,ed,rd⟩:=r.get y;have hd:xs.drop i=d::xs.drop (i+1):=by
   rw [MH (h:=(IG.mp ed).1),(IG.mp ed).2]
  rw [hd] at q1;refine gd H0 O0 _ O1 σ1 δ1 x d _ _ w1 (rd.step S1) q1 λδ2 σ2 q2 w2=>?_;refine⟨O1,δ2,_,w2,q2,λO' δ' σ' H' z w' S'=>⟨O',δ',w',S1.trans S',z⟩,k2,λO' δ' σ' H' z w' S'=>k1 O' δ' σ' H' z w' (S1.trans S'),λO' δ' σ' H' z w' S'=>⟨O',δ',w',S1.trans S',z⟩⟩
 ·have e:i=vs.length:=OH
  subst e;refine .inl ⟨S.st _ H1 (hP _ _ S1) (IB _),?_⟩;rw [r.length,M4 (IB _)] at q1;exact k1 O1 δ1 σ1 H1 q1 w1 S1
def fv(g:DG)(tb:DS)(E:nX)(xs:List OM)(δ:Dl):Prop:=∃I:Nat->Dl->Prop,I 0 δ/\(∀i x δ,xs[i]?=some x->I i δ->g x δ λδ2=>tb {E with nx:=I (i+1),ct:=I (i+1),bk:=E.nx} δ2)/\∀δ,I xs.length δ->E.nx δ
theorem p5{K:Iq}{J:It}{P:Hp->Prop}{vs:List V}{xs:List OM}{g:TG}{dg:DG}{tb:DS}{D:mQ}{E:nX}{σ:St}{H:Hp}{O:Ex}{δ:Dl}(S:cb J P vs)(gd:GD K g dg)
 (hP:∀H' O',aH H H' O O'->P H')(r:aj K H O vs xs)(w:Wd K H0 O0 H O σ δ)(q:fv dg tb E xs δ)
 (k1:∀O' δ' σ' H',E.nx δ'->Wd K H0 O0 H' O' σ' δ'->aH H H' O O'->D.nx σ' H')(k2:∀d v H',E.rt d->ah H0 H'->Dt K H' O0 v d->D.rt v H'):FR J g (aT K H0 O0 tb) D σ H:=by
 obtain⟨Iv,q0,qs,qe⟩:=q;refine⟨λi m σ' H'=>∃O' δ',m=vs.length - i/\i<=vs.length/\Wd K H0 O0 H' O' σ' δ'/\aH H H' O O'/\Iv i δ',⟨vs.length,O,δ,OL,J1 _,w,aH.refl _ _,q0⟩,?_⟩;rintro i m σ1 H1 ⟨O1,δ1,rfl,hi,w1,S1,q1⟩;by_cases hlt:i < vs.length
 ·refine .inr ⟨S.go i H1 (hP _ _ S1) hlt,λσ' H'=>∃O' δ',Wd K H0 O0 H' O' σ' δ'/\aH H H' O O'/\Iv (i+1) δ',λσ' H' uu8=>by obtain⟨O',δ',w',S',q'⟩:=uu8;exact⟨vs.length - (i+1),OH,O',δ',rfl,hlt,w',S',q'⟩,λx H' y=>?_⟩;have yy:=S.yl i H1 x H' (hP _ _ S1) hlt y;clear y;obtain⟨e,y⟩:=yy;subst e;obtain⟨d,ed,rd⟩:=r.get y;refine gd H0 O0 _ O1 σ1 δ1 x d _ _ w1 (rd.step S1) (qs i d δ1 ed q1) λδ2 σ2 q2 w2=>?_;refine⟨O1,δ2,_,w2,q2,λO' δ' σ' H' z w' S'=>⟨O',δ',w',S1.trans S',z⟩,k2,λO' δ' σ' H' z w' S'=>k1 O' δ' σ' H' z w' (S1.trans S'),λO' δ' σ' H' z w' S'=>⟨O',δ',w',S1.trans S',z⟩⟩
 ·have e:i=vs.length:=OH
  subst e;refine .inl ⟨S.st _ H1 (hP _ _ S1) (IB _),?_⟩;rw [r.length] at q1;exact k1 O1 δ1 σ1 H1 (qe δ1 q1) w1 S1
def d9(t:DT)(g:DG)(tb:DS):DS:=λE δ=>t δ λd=>∃xs,d= .list xs/\cq g tb E xs δ
def hG(t:DT)(g:DG)(tb:DS):DS:=λE δ=>t δ λd=>∃xs,d= .tuple xs/\cq g tb E xs δ
def hJ(t:DA)(g:DG)(tb:DS):DS:=λE δ=>t δ λds=>∃j:Int,ds=[.int j]/\-(2 ^ 62)<=j/\j < 2 ^ 62/\cq g tb E (g9 0 j.toNat) δ
def hU(t:DA)(g:DG)(tb:DS):DS:=λE δ=>t δ λds=>∃i j:Int,ds=[.int i,.int j]/\(-(2 ^ 62)<=i/\i < 2 ^ 62/\-(2 ^ 62)<=j/\j < 2 ^ 62)/\cq g tb E (g9 i (j - i).toNat) δ
section
variable {tg iter:OR} {body:List O6} {t:DT} {ta:DA} {g:TG} {dg:DG} {tb:DS} {pos p ps:Pos}
theorem xu(hp:PR (OU X.prog X.w) X.A X.env X.xe)(hc:X.calm=true)(hi:DE X H0 O0 iter t)(hg:PG X tg g)(gd:GD X.K g dg)(hb:bu X body (aT X.K H0 O0 tb))(hs:∀x,O7 iter X.env x=pure x:=by intro _;rfl):
 PS X (.For tg iter body [] pos) (aT X.K H0 O0 (d9 t dg tb)):=
 (pJ hp hc (qF hi) hg hb hs).imp λD σ H uu9=>by obtain⟨O,δ,E,w,q,k1,k2,k3,k4⟩:=uu9;exact⟨O,δ,_,w,q,λd v H1 uu10 s1 r1=>by
  obtain⟨xs,e,q1⟩:=uu10;subst e;cases r1 with
  | lst h n r=>
   refine⟨_,rfl,⟨_,.inl h⟩,DY (cb.list (.inl h)) gd (λH' O' S o e=>S.keep _ _ e n) r (w.mono s1) q1 (λO' δ' σ' H' z w' S=>k1 O' δ' σ' H' z w' (aH.trans (.same s1) S)) k2⟩⟩
end
def eg(t:DT)(g:DG)(tb:DS):DS:=λE δ=>t δ λd=>∃xs,d= .list xs/\fv g tb E xs δ
def fw(t:DT)(g:DG)(tb:DS):DS:=λE δ=>t δ λd=>∃xs,d= .tuple xs/\fv g tb E xs δ
def fx(t:DA)(g:DG)(tb:DS):DS:=λE δ=>t δ λds=>∃j:Int,ds=[.int j]/\-(2 ^ 62)<=j/\j < 2 ^ 62/\fv g tb E (g9 0 j.toNat) δ
def hV(t:DA)(g:DG)(tb:DS):DS:=λE δ=>t δ λds=>∃i j:Int,ds=[.int i,.int j]/\(-(2 ^ 62)<=i/\i < 2 ^ 62/\-(2 ^ 62)<=j/\j < 2 ^ 62)/\fv g tb E (g9 i (j - i).toNat) δ
section
variable {tg iter:OR} {body:List O6} {t:DT} {ta:DA} {g:TG} {dg:DG} {tb:DS} {pos p ps:Pos}
theorem rg(hp:PR (OU X.prog X.w) X.A X.env X.xe)(hc:X.calm=true)(hi:DE X H0 O0 iter t)(hg:PG X tg g)(gd:GD X.K g dg)(hb:bu X body (aT X.K H0 O0 tb))(hs:∀x,O7 iter X.env x=pure x:=by intro _;rfl):
 PS X (.For tg iter body [] pos) (aT X.K H0 O0 (eg t dg tb)):=
 (pJ hp hc (qF hi) hg hb hs).imp λD σ H uu11=>by obtain⟨O,δ,E,w,q,k1,k2,k3,k4⟩:=uu11;exact⟨O,δ,_,w,q,λd v H1 uu12 s1 r1=>by
  obtain⟨xs,e,q1⟩:=uu12;subst e;cases r1 with
  | lst h n r=>
   refine⟨_,rfl,⟨_,.inl h⟩,p5 (cb.list (.inl h)) gd (λH' O' S o e=>S.keep _ _ e n) r (w.mono s1) q1 (λO' δ' σ' H' z w' S=>k1 O' δ' σ' H' z w' (aH.trans (.same s1) S)) k2⟩⟩
theorem ui(hp:PR (OU X.prog X.w) X.A X.env X.xe)(hc:X.calm=true)(hi:DE X H0 O0 iter t)(hg:PG X tg g)(gd:GD X.K g dg)(hb:bu X body (aT X.K H0 O0 tb))(hs:∀x,O7 iter X.env x=pure x:=by intro _;rfl):
 PS X (.For tg iter body [] pos) (aT X.K H0 O0 (fw t dg tb)):=
 (pJ hp hc (sZ hi) hg hb hs).imp λD σ H uu13=>by obtain⟨O,δ,E,w,q,k1,k2,k3,k4⟩:=uu13;exact⟨O,δ,_,w,q,λd v H1 uu14 s1 r1=>by
  obtain⟨xs,e,q1⟩:=uu14;subst e;cases r1 with
  | tup h n r=>
   refine⟨_,rfl,⟨_,.inl h⟩,p5 (cb.tup (.inl h)) gd (λH' O' S o e=>S.keep _ _ e n) r (w.mono s1) q1 (λO' δ' σ' H' z w' S=>k1 O' δ' σ' H' z w' (aH.trans (.same s1) S)) k2⟩
  | tupK h r=>
   refine⟨_,rfl,⟨_,h.of0⟩,p5 (P:=λ_=>True) ⟨λi H' _ hi=>⟨_,_,h.of0,by simp [hi];rfl⟩,λi H' x H'' _ _ y=>⟨y.1,y.2 _ h.of0⟩,λi H' _ hi=>⟨_,h.of0,hi⟩⟩ gd (λ_ _ _=>trivial) r (w.mono s1) q1 (λO' δ' σ' H' z w' S=>k1 O' δ' σ' H' z w' (aH.trans (.same s1) S)) k2⟩⟩
theorem p7(hp:PR (OU X.prog X.w) X.A X.env X.xe)(hc:X.calm=true){a:OR}(hgl:Gl X "range")(hm:X.mg "range"=none)(ha:PA X [a] (cU X.K H0 O0 ta))(hg:PG X tg g)(gd:GD X.K g dg)(hb:bu X body (aT X.K H0 O0 tb))
 (hst:OW [a] X.env=[(false,eval a X.env)]:=by rfl)(hs:∀x,O7 (.Call (.Name "range" p) [a] [] ps) X.env x=pure x:=by intro _;rfl):
 PS X (.For tg (.Call (.Name "range" p) [a] [] ps) body [] pos) (aT X.K H0 O0 (fx ta dg tb)):=
 (pJ hp hc (vQ hgl hm ha hst) hg hb hs).imp λD σ H uu15=>by obtain⟨O,δ,E,w,q,k1,k2,k3,k4⟩:=uu15;exact⟨O,δ,_,w,q,λds vs H1 uu16 s1 r1=>by
  obtain⟨j,e,b1,b2,q1⟩:=uu16;subst e;cases r1 with
  | cons r1 r2=>
   cases r2;cases r1;exact⟨j,rfl,b1,b2,p5 cb.rng gd (λ_ _ _=>trivial) (aj.rng _) (w.mono s1) q1 (λO' δ' σ' H' z w' S=>k1 O' δ' σ' H' z w' (aH.trans (.same s1) S)) k2⟩⟩
end
theorem Wd.letbe{K:Iq}{H:Hp}{O:Ex}{σ:St}{δ:Dl}(w:Wd K H0 O0 H O σ δ){i:Nat}{l:OO}{y0:Sl}{d:OM}(e:δ[i]?=some (some y0))(ho:y0.own)(h:σ[i]?=some (some (.ref l)))(hd:∀O',aH H H O O'->¬O' l->Dt K H O' (.ref l) d):
 ∃O',Wd K H0 O0 H O' σ (δ.set i (some (.v d)))/\aH H H O O':=by
 obtain⟨l',x1,a,b⟩:=w.adr e ho;rw [h] at x1;cases x1;have S:aH H H O (λx=>O x/\x≠l):=⟨λ_ _ z _=>z,λ_ _ n z=>n z.1⟩;have li:i < δ.length:=(IG.mp e).1;have ne:∀{j:Nat}{y:Sl},(δ.set i (some (.v d)))[j]?=some (some y)->y.own->j≠i:=λ{j y} q hy z=>by
  subst z;rw [IT li] at q;cases q;exact hy
 refine⟨_,⟨w.same,λx z=>⟨w.sub x z,λy=>b (by rw [<-y];exact z)⟩,λx z=>w.new x z.1,λx z=>w.trk x z.1,by simp [w.len],λj y q=>?_,λj k y z l' e1 y1 e2 z2 e3 e4=>?_⟩,S⟩
 ·by_cases hj:j=i
  ·subst hj;rw [IT li] at q;cases q;exact⟨.ref l,by rw [h];rfl,hd _ S (λz=>z.2 rfl)⟩
  ·rw [IH (Ne.symm hj)] at q;refine(w.sl j y q).go S (λb o ho' e' a1 a2 a3=>⟨⟨a1,λz=>?_⟩,a3⟩) (λb o u a1 a2 a3=>⟨⟨a1,λz=>w.nofrz e ho h o u (by rw [<-z];exact a3)⟩,a3⟩) λb o a1 a3=>a3;subst z
   match y,ho',q with
   | some z,ho',q=>exact hj (w.dis j i z y0 _ q (by cases z <;> first | trivial | cases ho') e ho (mD e') h)
 ·have n1:=ne e1 y1;have n2:=ne e2 z2;rw [IH (Ne.symm n1)] at e1;rw [IH (Ne.symm n2)] at e2;exact w.dis j k _ _ l' e1 y1 e2 z2 e3 e4
theorem Wd.freeze{K:Iq}{H:Hp}{O:Ex}{σ:St}{δ:Dl}(w:Wd K H0 O0 H O σ δ){i:Nat}{ds:List OM}(e:δ[i]?=some (some (.o ds))):∃O',Wd K H0 O0 H O' σ (δ.set i (some (.v (.list ds))))/\aH H H O O':=by
 obtain⟨l,vs,h,a,b,c,r⟩:=w.own e;exact w.letbe (y0:= .o ds) e trivial h λO' S n=>.lst (.inl c) n (r.step S)
def fy(i:Nat)(t:DS):DS:=λE δ=>∃ds,δ[i]?=some (some (.o ds))/\t E (δ.set i (some (.v (.list ds))))
theorem DZ(i:Nat){st:O6}{t:DS}(h:PS X st (aT X.K H0 O0 t)):PS X st (aT X.K H0 O0 (fy i t)):=
 h.imp λD σ H uu17=>by
  obtain⟨O,δ,E,w,⟨ds,e,q⟩,k1,k2,k3,k4⟩:=uu17;obtain⟨O',w',S⟩:=w.freeze e;exact⟨O',_,E,w',q,λO2 δ2 σ2 H2 z2 w2 S2=>k1 O2 δ2 σ2 H2 z2 w2 (S.trans S2),k2,λO2 δ2 σ2 H2 z2 w2 S2=>k3 O2 δ2 σ2 H2 z2 w2 (S.trans S2),λO2 δ2 σ2 H2 z2 w2 S2=>k4 O2 δ2 σ2 H2 z2 w2 (S.trans S2)⟩
def bH(k:Nat)(fr:List Nat)(δ:Dl):Dl:=IJ k none++fr.map λj=>(δ[j]?).join
def n8(g:DG)(tc:DB)(te:DT)(δ0:Dl):List OM->List OM->(List OM->Prop)->Prop
 | [],acc,Q=>Q acc
 | x::xs,acc,Q=>g x δ0 λδ2=>tc δ2 λok=>if ok=true then te δ2 λy=>n8 g tc te δ0 xs (acc++[y]) Q else n8 g tc te δ0 xs acc Q
theorem Wd.comp{K:Iq}{H:Hp}{O:Ex}{σ:St}{δ:Dl}(w:Wd K H0 O0 H O σ δ){k:Nat}{fr:List Nat}(hf:fr.Nodup):Wd K H0 O0 H O (aS k fr σ) (bH k fr δ):=by
 have at1:∀{α:Type}(l:List (Option α))(i:Nat),(IJ k none++fr.map λj=>(l[j]?).join)[i]?=if i < k then some none else(fr[i - k]?).map λj=>(l[j]?).join:=by
  intro α l i;by_cases h:i < k
  ·rw [OJ h,K0 (by simpa using h),Ll,OJ h]
  ·rw [OI h,Le (by simpa using MO h),IS];simp
 have un:∀{α:Type}(l:List (Option α))(i:Nat)(x:α),(IJ k none++fr.map λj=>(l[j]?).join)[i]?=some (some x)->∃j,fr[i - k]?=some j/\k<=i/\l[j]?=some (some x):=by
  intro α l i x h;rw [at1] at h;split at h
  ·cases h
  ·cases e:fr[i - k]? with
   | none=>rw [e] at h;cases h
   | some j=>
    rw [e] at h;refine⟨j,rfl,OH,?_⟩;have h':(l[j]?).join=some x:=Jr h;cases q:l[j]? with
    | none=>rw [q] at h';cases h'
    | some o=>rw [q] at h';rw [show o=some x from h']
 refine⟨w.same,w.sub,w.new,w.trk,by simp [aS,bH],λi y e=>?_,λi j y z l e1 y1 e2 z2 e3 e4=>?_⟩
 ·match y,e with
  | none,_=>exact Km
  | some x,e=>
   obtain⟨j,hj,hk,ej⟩:=un δ i x e;have q:=w.sl j _ ej;have e2:((aS k fr σ)[i]?).join=(σ[j]?).join:=by
    unfold aS;rw [at1,OI OH,hj];rfl
   rw [e2];exact q
 ·obtain⟨a,ha,ka,ea⟩:=un δ i _ e1;obtain⟨b,hb,kb,eb⟩:=un δ j _ e2;obtain⟨a',ha',_,ea'⟩:=un σ i _ e3;obtain⟨b',hb',_,eb'⟩:=un σ j _ e4;rw [ha] at ha';cases ha';rw [hb] at hb';cases hb';have:=w.dis a b y z l ea y1 eb z2 ea' eb';subst this;have e5:=(List.getElem?_inj (l:=fr) (i:=i - k) (j:=j - k) (IG.mp ha).1 hf).mp (by rw [ha,hb]);omega
theorem Im{K:Iq}{J:It}{P:Hp->Prop}{vs:List V}{xs:List OM}{g:TG}{dg:DG}{tc:TT}{dc:DB}{te:TE}{de:DT}{k:Nat}{fr:List Nat}{σ:St}{H:Hp}{O:Ex}{δ:Dl}{Qd:List OM->Prop}{Q:VK}(S:cb J P vs)(gd:GD K g dg)(hf:fr.Nodup)
 (hk:∀v:V,∀σ':St,∀H':Hp,∀R:St->Hp->Prop,g v (aS k fr σ) H' R->g v (aS k fr σ) H' λσ2 H2=>nS (aS k fr σ) σ2/\R σ2 H2)
 (hc:∀σ H Q,bK K H0 O0 dc σ H Q->tc σ H Q)(he:∀σ H Q,up K H0 O0 de σ H Q->te σ H Q)
 (hP:∀D H',H D=none->oK D H H'->P H')(r:aj K H O vs xs)(w:Wd K H0 O0 H O σ δ)(hz:vs.length<=OS)(q:n8 dg dc de (bH k fr δ) xs [] Qd)
 (k1:∀ds us p H',Qd ds->ah H H'->H' p=none->aj K H' O us ds->Q (.ref p) (ak H' p (.lst us))):nT J g tc te k fr σ H Q:=by
 intro D hD;have w0:Wd K H0 O0 H O (aS k fr σ) (bH k fr δ):=w.comp hf;have nD:¬O D:=λz=>w.trk D z hD;have D0:H0 D=none:=by
  cases e:H0 D with
  | none=>rfl
  | some o=>rw [w.same _ _ e] at hD;cases hD
 have ex:∀H',oK D H H'->H' D≠none->Wd K H0 O0 H' (λa=>O a\/a=D) (aS k fr σ) (bH k fr δ):=λH' s' hd=>by
  have S':aH H H' O (λa=>O a\/a=D):=⟨λb o e _=>s' b o e (cw e hD),λb hb hn z=>z.elim hn λq=>hb (by rw [q];exact hD)⟩;refine⟨λb o e=>s' b o (w.same b o e) (λz=>by rw [z,D0] at e;cases e),λl z=>.inl (w.sub l z),λl z=>z.elim (w.new l) λq=>.inr (by rw [q];exact D0),λl z=>?_,w0.len,λj y e=>?_,w0.dis⟩
  ·by_cases ql:l=D
   ·rw [ql];exact hd
   ·have hl:=w.trk l (z.resolve_right ql);cases e:H l with
    | none=>exact absurd e hl
    | some o=>rw [s' l o e ql];exact λz=>nomatch z
  ·exact(w0.sl j y e).go S' (λl o _ _ a1 _ a3=>⟨.inl a1,s' _ _ a3 (λz=>nD (by rw [<-z];exact a1))⟩) (λa o u a1 _ a3=>⟨.inl a1,s' _ _ a3 (λz=>nD (by rw [<-z];exact a1))⟩) λa o a1 a3=>s' _ _ a3 (λz=>nD (by rw [<-z];exact w.sub _ a1))
 refine⟨λi m H'=>∃acc ys,m=vs.length - i/\i<=vs.length/\oK D H H'/\H' D=some (.lst ys)/\ys.length<=i/\aj K H' (λa=>O a\/a=D) ys acc/\n8 dg dc de (bH k fr δ) (xs.drop i) acc Qd,⟨vs.length,[],[],OL,J1 _,λb o e n=>by rw [ay n];exact e,bg,J1 _,.nil,by simpa using q⟩,?_⟩;rintro i m H1 ⟨acc,ys,rfl,hi,s1,e1,hy,ra,q1⟩;by_cases hlt:i < vs.length
 ·refine .inr ⟨S.go i H1 (hP D H1 hD s1) hlt,λx H' y=>?_⟩;have yy:=S.yl i H1 x H' (hP D H1 hD s1) hlt y;clear y;obtain⟨e,y⟩:=yy;subst e;obtain⟨d,ed,rd⟩:=r.get y;have hd:xs.drop i=d::xs.drop (i+1):=by
   rw [MH (h:=(IG.mp ed).1),(IG.mp ed).2]
  rw [hd] at q1;have w1:=ex _ s1 (by rw [e1];exact λz=>nomatch z);have S':aH H H' O (λa=>O a\/a=D):=⟨λb o e _=>s1 b o e (cw e hD),λb hb hn z=>z.elim hn λq=>hb (by rw [q];exact hD)⟩;refine hk x σ _ _ (gd H0 O0 _ _ _ _ x d _ _ w1 (rd.step S') q1 λδ2 σ2 q2 w2=>?_);refine hc σ2 _ _ ⟨_,δ2,_,w2,q2,λok H3 q3 s3=>?_⟩;cases ok with
  | true=>
   rw [OJ rfl];refine he σ2 H3 _ ⟨_,δ2,_,w2.mono s3,q3,λd' v H4 q4 s4 r4=>?_⟩;have e4:=s4 _ _ (s3 _ _ e1);have sD:aH H4 (ak H4 D (.lst (ys++[v]))) (λa=>O a\/a=D) (λa=>O a\/a=D):=⟨λb o e n=>by rw [ay (λz=>n (.inr z))];exact e,λ_ _ n=>n⟩;refine⟨ys,e4,OH,vs.length - (i+1),OH,acc++[d'],ys++[v],rfl,hlt,λb o e n=>by rw [ay n];exact s4 _ _ (s3 _ _ (s1 b o e n)),bg,by simpa using hy,?_,q4⟩;exact((ra.mono (s3.trans s4)).append (.cons r4 .nil)).step sD
  | false=>
   rw [OI OG];exact⟨vs.length - (i+1),OH,acc,ys,rfl,hlt,λb o e n=>s3 _ _ (s1 b o e n),s3 _ _ e1,OH,ra.mono s3,q3⟩
 ·have e:i=vs.length:=OH
  subst e;refine .inl ⟨S.st _ H1 (hP D H1 hD s1) (IB _),?_⟩;rw [r.length,M4 (IB _)] at q1;have hrest:∃H2:Hp,H2 D=none/\ah H H2/\H1=ak H2 D (.lst ys):=by
   refine⟨λb=>if b=D then none else H1 b,OL,λb o e=>?_,?_⟩
   ·have n:=cw e hD;show(if b=D then none else H1 b)=some o;rw [OI n];exact s1 b o e n
   ·funext b;by_cases z:b=D
    ·rw [z,bg];exact e1
    ·rw [ay z];show H1 b=if b=D then none else H1 b;rw [OI z]
  obtain⟨H2,h2,s2,rfl⟩:=hrest;refine k1 acc ys D H2 q1 s2 h2 (ra.step ⟨λb o e n=>?_,λb _ n z=>n (.inl z)⟩);rw [ay (λz=>n (.inr z))] at e;exact e
def ma(g:DG)(tc:DB)(te:DT)(δ0:Dl)(xs:List OM)(Q:List OM->Prop):Prop:=∃I:Nat->List OM->Prop,I 0 []/\(∀i x acc,xs[i]?=some x->I i acc->g x δ0 λδ2=>tc δ2 λok=>if ok=true then te δ2 λy=>I (i+1) (acc++[y]) else I (i+1) acc)/\∀acc,I xs.length acc->Q acc
theorem p8{K:Iq}{J:It}{P:Hp->Prop}{vs:List V}{xs:List OM}{g:TG}{dg:DG}{tc:TT}{dc:DB}{te:TE}{de:DT}{k:Nat}{fr:List Nat}{σ:St}{H:Hp}{O:Ex}{δ:Dl}{Qd:List OM->Prop}{Q:VK}(S:cb J P vs)(gd:GD K g dg)(hf:fr.Nodup)
 (hk:∀v:V,∀σ':St,∀H':Hp,∀R:St->Hp->Prop,g v (aS k fr σ) H' R->g v (aS k fr σ) H' λσ2 H2=>nS (aS k fr σ) σ2/\R σ2 H2)
 (hc:∀σ H Q,bK K H0 O0 dc σ H Q->tc σ H Q)(he:∀σ H Q,up K H0 O0 de σ H Q->te σ H Q)
 (hP:∀D H',H D=none->oK D H H'->P H')(r:aj K H O vs xs)(w:Wd K H0 O0 H O σ δ)(hz:vs.length<=OS)(q:ma dg dc de (bH k fr δ) xs Qd)
 (k1:∀ds us p H',Qd ds->ah H H'->H' p=none->aj K H' O us ds->Q (.ref p) (ak H' p (.lst us))):nT J g tc te k fr σ H Q:=by
 obtain⟨Iv,q0,qs,qe⟩:=q;intro D hD;have w0:Wd K H0 O0 H O (aS k fr σ) (bH k fr δ):=w.comp hf;have nD:¬O D:=λz=>w.trk D z hD;have D0:H0 D=none:=by
  cases e:H0 D with
  | none=>rfl
  | some o=>rw [w.same _ _ e] at hD;cases hD
 have ex:∀H',oK D H H'->H' D≠none->Wd K H0 O0 H' (λa=>O a\/a=D) (aS k fr σ) (bH k fr δ):=λH' s' hd=>by
  have S':aH H H' O (λa=>O a\/a=D):=⟨λb o e _=>s' b o e (cw e hD),λb hb hn z=>z.elim hn λq=>hb (by rw [q];exact hD)⟩;refine⟨λb o e=>s' b o (w.same b o e) (λz=>by rw [z,D0] at e;cases e),λl z=>.inl (w.sub l z),λl z=>z.elim (w.new l) λq=>.inr (by rw [q];exact D0),λl z=>?_,w0.len,λj y e=>?_,w0.dis⟩
  ·by_cases ql:l=D
   ·rw [ql];exact hd
   ·have hl:=w.trk l (z.resolve_right ql);cases e:H l with
    | none=>exact absurd e hl
    | some o=>rw [s' l o e ql];exact λz=>nomatch z
  ·exact(w0.sl j y e).go S' (λl o _ _ a1 _ a3=>⟨.inl a1,s' _ _ a3 (λz=>nD (by rw [<-z];exact a1))⟩) (λa o u a1 _ a3=>⟨.inl a1,s' _ _ a3 (λz=>nD (by rw [<-z];exact a1))⟩) λa o a1 a3=>s' _ _ a3 (λz=>nD (by rw [<-z];exact w.sub _ a1))
 refine⟨λi m H'=>∃acc ys,m=vs.length - i/\i<=vs.length/\oK D H H'/\H' D=some (.lst ys)/\ys.length<=i/\aj K H' (λa=>O a\/a=D) ys acc/\Iv i acc,⟨vs.length,[],[],OL,J1 _,λb o e n=>by rw [ay n];exact e,bg,J1 _,.nil,q0⟩,?_⟩;rintro i m H1 ⟨acc,ys,rfl,hi,s1,e1,hy,ra,q1⟩;by_cases hlt:i < vs.length
 ·refine .inr ⟨S.go i H1 (hP D H1 hD s1) hlt,λx H' y=>?_⟩;have yy:=S.yl i H1 x H' (hP D H1 hD s1) hlt y;clear y;obtain⟨e,y⟩:=yy;subst e;obtain⟨d,ed,rd⟩:=r.get y;have w1:=ex _ s1 (by rw [e1];exact λz=>nomatch z);have S':aH H H' O (λa=>O a\/a=D):=⟨λb o e _=>s1 b o e (cw e hD),λb hb hn z=>z.elim hn λq=>hb (by rw [q];exact hD)⟩;refine hk x σ _ _ (gd H0 O0 _ _ _ _ x d _ _ w1 (rd.step S') (qs i d acc ed q1) λδ2 σ2 q2 w2=>?_);refine hc σ2 _ _ ⟨_,δ2,_,w2,q2,λok H3 q3 s3=>?_⟩;cases ok with
  | true=>
   rw [OJ rfl];refine he σ2 H3 _ ⟨_,δ2,_,w2.mono s3,q3,λd' v H4 q4 s4 r4=>?_⟩;have e4:=s4 _ _ (s3 _ _ e1);have sD:aH H4 (ak H4 D (.lst (ys++[v]))) (λa=>O a\/a=D) (λa=>O a\/a=D):=⟨λb o e n=>by rw [ay (λz=>n (.inr z))];exact e,λ_ _ n=>n⟩;refine⟨ys,e4,OH,vs.length - (i+1),OH,acc++[d'],ys++[v],rfl,hlt,λb o e n=>by rw [ay n];exact s4 _ _ (s3 _ _ (s1 b o e n)),bg,by simpa using hy,?_,q4⟩;exact((ra.mono (s3.trans s4)).append (.cons r4 .nil)).step sD
  | false=>
   rw [OI OG];exact⟨vs.length - (i+1),OH,acc,ys,rfl,hlt,λb o e n=>s3 _ _ (s1 b o e n),s3 _ _ e1,OH,ra.mono s3,q3⟩
 ·have e:i=vs.length:=OH
  subst e;refine .inl ⟨S.st _ H1 (hP D H1 hD s1) (IB _),?_⟩;rw [r.length] at q1;have hrest:∃H2:Hp,H2 D=none/\ah H H2/\H1=ak H2 D (.lst ys):=by
   refine⟨λb=>if b=D then none else H1 b,OL,λb o e=>?_,?_⟩
   ·have n:=cw e hD;show(if b=D then none else H1 b)=some o;rw [OI n];exact s1 b o e n
   ·funext b;by_cases z:b=D
    ·rw [z,bg];exact e1
    ·rw [ay z];show H1 b=if b=D then none else H1 b;rw [OI z]
  obtain⟨H2,h2,s2,rfl⟩:=hrest;refine k1 acc ys D H2 (qe acc q1) s2 h2 (ra.step ⟨λb o e n=>?_,λb _ n z=>n (.inl z)⟩);rw [ay (λz=>n (.inr z))] at e;exact e
def hW(t:DT)(g:DG)(tc:DB)(te:DT)(k:Nat)(fr:List Nat):DA:=λδ Q=>t δ λd=>∃xs,d= .list xs/\xs.length<=OS/\n8 g tc te (bH k fr δ) xs [] Q
def hZ(t:DT)(g:DG)(tc:DB)(te:DT)(k:Nat)(fr:List Nat):DA:=λδ Q=>t δ λd=>∃xs,d= .tuple xs/\xs.length<=OS/\n8 g tc te (bH k fr δ) xs [] Q
def ia(ta:DA)(g:DG)(tc:DB)(te:DT)(k:Nat)(fr:List Nat):DA:=λδ Q=>ta δ λds=>∃j:Int,ds=[.int j]/\-(2 ^ 62)<=j/\j < OS/\n8 g tc te (bH k fr δ) (g9 0 j.toNat) [] Q
def dA:DB:=λ_ Q=>Q true
def nq(g:TG)(k:Nat):Prop:=∀(fr:List Nat)(σ:St)(v:V)(H':Hp)(R:St->Hp->Prop),g v (aS k fr σ) H' R->g v (aS k fr σ) H' λσ2 H2=>nS (aS k fr σ) σ2/\R σ2 H2
theorem ib:nq (lX 0) 1:=λfr σ v H' R h=>⟨wV,h⟩
def dO(t:DT)(g:DG)(tc:DB)(te:DT)(k:Nat)(fr:List Nat):DA:=λδ Q=>t δ λd=>∃xs,d= .list xs/\xs.length<=OS/\ma g tc te (bH k fr δ) xs Q
def dB(t:DT)(g:DG)(tc:DB)(te:DT)(k:Nat)(fr:List Nat):DA:=λδ Q=>t δ λd=>∃xs,d= .tuple xs/\xs.length<=OS/\ma g tc te (bH k fr δ) xs Q
def fz(ta:DA)(g:DG)(tc:DB)(te:DT)(k:Nat)(fr:List Nat):DA:=λδ Q=>ta δ λds=>∃j:Int,ds=[.int j]/\-(2 ^ 62)<=j/\j < OS/\ma g tc te (bH k fr δ) (g9 0 j.toNat) Q
section
variable {tg iter elt:OR} {ifs:List OR} {scope:Pc} {N':List Str} {k:Nat} {fr:List Nat} {g:TG} {dg:DG} {t:DT} {ta:DA} {tc:DB} {te:DT} {pos p ps:Pos}
theorem rh(hc:X.calm=true)(S:bz X.env.scope X.N N' k fr scope)(hi:DF X H0 O0 iter t)(gd:GD X.K g dg)(hk:nq g k)(hfr:fr.Nodup)
 (hg:∀fp C s H,PG (bt X scope N' fp C s H) tg g)(hf:∀fp C s H,dY (bt X scope N' fp C s H) ifs (bK X.K H0 O0 tc))(he:∀fp C s H,PE (bt X scope N' fp C s H) elt (up X.K H0 O0 te))
 (hs:∀x,O7 iter X.env x=pure x:=by intro _;rfl):FE X H0 O0 (.ListComp elt [⟨tg,iter,ifs,0⟩] scope pos) (dO t dg tc te k fr):=
 (qT hc S (qF hi) hg hf he hs).imp λσ H Q uu18=>by obtain⟨O,δ,Qd,w,q,kk⟩:=uu18;exact⟨O,δ,_,w,q,λd v H1 uu19 s1 r1=>by
  obtain⟨xs,e,hz,q1⟩:=uu19;subst e;obtain⟨a,vs,rfl,hq,rr⟩:=r1.lst;refine⟨a,rfl,⟨_,hq⟩,λD hD=>p8 (cb.list hq) gd hfr (λv _ H' R h=>hk fr σ v H' R h) (λ_ _ _ z=>z) (λ_ _ _ z=>z) (λD H' hD s' o e=>s' _ _ e (cw e hD)) rr (w.mono s1) (by rw [rr.length];exact hz) q1 (λds us p H' z s' hp r'=>kk ds us p H' z (s1.trans s') hp r') D hD⟩⟩
theorem ri(hc:X.calm=true)(S:bz X.env.scope X.N N' k fr scope)(hi:DF X H0 O0 iter t)(gd:GD X.K g dg)(hk:nq g k)(hfr:fr.Nodup)
 (hg:∀fp C s H,PG (bt X scope N' fp C s H) tg g)(hf:∀fp C s H,dY (bt X scope N' fp C s H) ifs (bK X.K H0 O0 tc))(he:∀fp C s H,PE (bt X scope N' fp C s H) elt (up X.K H0 O0 te))
 (hs:∀x,O7 iter X.env x=pure x:=by intro _;rfl):FE X H0 O0 (.ListComp elt [⟨tg,iter,ifs,0⟩] scope pos) (dB t dg tc te k fr):=
 (qT hc S (sZ hi) hg hf he hs).imp λσ H Q uu20=>by obtain⟨O,δ,Qd,w,q,kk⟩:=uu20;exact⟨O,δ,_,w,q,λd v H1 uu21 s1 r1=>by
  obtain⟨xs,e,hz,q1⟩:=uu21;subst e;obtain⟨a,vs,rfl,hq,rr⟩:=r1.tup;refine⟨a,rfl,⟨_,hq⟩,λD hD=>p8 (cb.tup hq) gd hfr (λv _ H' R h=>hk fr σ v H' R h) (λ_ _ _ z=>z) (λ_ _ _ z=>z) (λD H' hD s' o e=>s' _ _ e (cw e hD)) rr (w.mono s1) (by rw [rr.length];exact hz) q1 (λds us p H' z s' hp r'=>kk ds us p H' z (s1.trans s') hp r') D hD⟩⟩
theorem xv(hc:X.calm=true){a:OR}(S:bz X.env.scope X.N N' k fr scope)(hgl:Gl X "range")(hm:X.mg "range"=none)(ha:PA X [a] (mE X.K H0 O0 ta))(gd:GD X.K g dg)(hk:nq g k)(hfr:fr.Nodup)
 (hg:∀fp C s H,PG (bt X scope N' fp C s H) tg g)(hf:∀fp C s H,dY (bt X scope N' fp C s H) ifs (bK X.K H0 O0 tc))(he:∀fp C s H,PE (bt X scope N' fp C s H) elt (up X.K H0 O0 te))
 (hst:OW [a] X.env=[(false,eval a X.env)]:=by rfl)(hs:∀x,O7 (.Call (.Name "range" p) [a] [] ps) X.env x=pure x:=by intro _;rfl):
 FE X H0 O0 (.ListComp elt [⟨tg,(.Call (.Name "range" p) [a] [] ps),ifs,0⟩] scope pos) (fz ta dg tc te k fr):=
 (qT hc S (vQ hgl hm ha hst) hg hf he hs).imp λσ H Q uu22=>by obtain⟨O,δ,Qd,w,q,kk⟩:=uu22;exact⟨O,δ,_,w,q,λds vs H1 uu23 s1 r1=>by
  obtain⟨j,e,b1,b2,q1⟩:=uu23;subst e;cases r1 with
  | cons r1 r2=>
   cases r2;cases r1.int;have hb:(OS:Int) < 2 ^ 62:=OG
   exact⟨j,rfl,b1,OH,λD hD=>p8 (P:=λ_=>True) cb.rng gd hfr (λv _ H' R h=>hk fr σ v H' R h) (λ_ _ _ z=>z) (λ_ _ _ z=>z) (λ_ _ _ _=>trivial) (aj.rng _) (w.mono s1) (by rw [Iw,Lw];omega) q1 (λds us p H' z s' hp r'=>kk ds us p H' z (s1.trans s') hp r') D hD⟩⟩
end
end
section
variable {K:Iq}
def dI(g:Int->Int->OM):OM->OM->(OM->Prop)->Prop:=λx y Q=>∃i j,x= .int i/\y= .int j/\Q (g i j)
def fA(C:Int->Int->Prop)(g:Int->Int->OM):OM->OM->(OM->Prop)->Prop:=λx y Q=>∃i j,x= .int i/\y= .int j/\C i j/\Q (g i j)
theorem aQ{g:Int->Int->Int}:bU K (gW λi j=>.int (g i j)) (dI λi j=>.int (g i j)):=λH O x y dx dy Qd R _ hx hy uu24 k=>by
 obtain⟨i,j,e1,e2,q⟩:=uu24;subst e1 e2;cases hx.int;cases hy.int;exact⟨i,j,rfl,rfl,k _ _ H q (ah.refl _) (.int _)⟩
theorem ic{g:Int->Int->Bool}:bU K (gW λi j=>.bl (g i j)) (dI λi j=>.bool (g i j)):=λH O x y dx dy Qd R _ hx hy uu25 k=>by
 obtain⟨i,j,e1,e2,q⟩:=uu25;subst e1 e2;cases hx.int;cases hy.int;exact⟨i,j,rfl,rfl,k _ _ H q (ah.refl _) (.bl _)⟩
theorem aA{C:Int->Int->Prop}{g:Int->Int->Int}:bU K (rI C λi j=>.int (g i j)) (fA C λi j=>.int (g i j)):=λH O x y dx dy Qd R _ hx hy uu26 k=>by
 obtain⟨i,j,e1,e2,c,q⟩:=uu26;subst e1 e2;cases hx.int;cases hy.int;exact⟨i,j,rfl,rfl,c,k _ _ H q (ah.refl _) (.int _)⟩
def xw(K:Iq):R2:=λx y H Q=>∃O dx dy,Sh K H O x dx/\Sh K H O y dy/\bL dx/\bL dy/\Q (.bl (IL dx dy)) H
def xx(K:Iq):R2:=λx y H Q=>∃O dx dy,Sh K H O x dx/\Sh K H O y dy/\bL dx/\bL dy/\Q (.bl (!IL dx dy)) H
theorem dD{X:Cx}(hu:X.A.units+64 < PZ):bx X (Pa .Eq) (xw X.K):=by
 intro Qm s σ H x y v u Q I rx ry h;obtain⟨O,dx,dy,hx,hy,sx,sy,q⟩:=h;obtain⟨as,ra⟩:=l6 I hx.all (JR sx) rx;obtain⟨bs,rb⟩:=l6 I hy.all (JR sy) ry;exact SeqAt.compareEq_shaped ra rb sx sy hu (bh I q rfl)
theorem xy{X:Cx}(hu:X.A.units+64 < PZ):bx X (Pa .NotEq) (xx X.K):=by
 intro Qm s σ H x y v u Q I rx ry h;obtain⟨O,dx,dy,hx,hy,sx,sy,q⟩:=h;obtain⟨as,ra⟩:=l6 I hx.all (JR sx) rx;obtain⟨bs,rb⟩:=l6 I hy.all (JR sy) ry;exact SeqAt.compareNe_shaped ra rb sx sy hu (bh I q rfl)
def fB:OM->OM->(OM->Prop)->Prop:=λx y Q=>bL x/\bL y/\Q (.bool (IL x y))
def fC:OM->OM->(OM->Prop)->Prop:=λx y Q=>bL x/\bL y/\Q (.bool (!IL x y))
theorem dE:bU K (xw K) fB:=λH O x y dx dy Qd R _ hx hy uu27 k=>by obtain⟨a,b,q⟩:=uu27;exact⟨O,dx,dy,hx,hy,a,b,k _ _ H q (ah.refl _) (.bl _)⟩
theorem xA:bU K (xx K) fC:=λH O x y dx dy Qd R _ hx hy uu28 k=>by obtain⟨a,b,q⟩:=uu28;exact⟨O,dx,dy,hx,hy,a,b,k _ _ H q (ah.refl _) (.bl _)⟩
def fD:OM->OM->(OM->Prop)->Prop:=λx y Q=>∃ds i d,x= .list ds/\y= .int i/\atI ds i=some d/\Q d
def cW:OM->OM->(OM->Prop)->Prop:=λx y Q=>∃ds i d,x= .tuple ds/\y= .int i/\atI ds i=some d/\Q d
theorem aj.atI{H:Hp}{O:Ex}{vs:List V}{ds:List OM}{i:Int}{d:OM}(r:aj K H O vs ds)(e:L2.atI ds i=some d):∃v,L2.atI vs i=some v/\Dt K H O v d:=by
 unfold L2.atI at e⊢;rw [r.length];cases q:mz ds.length i with
 | none=>rw [q] at e;cases e
 | some j=>rw [q] at e;exact r.getD e
theorem aF:bU K (tU K) fD:=λH O x y dx dy Qd R _ hx hy uu29 k=>by
 obtain⟨ds,i,d,e1,e2,e3,q⟩:=uu29;subst e1 e2;obtain⟨a,vs,rfl,hs,r⟩:=hx.lst;cases hy.int;obtain⟨v,hv,rv⟩:=r.atI e3;exact⟨a,vs,i,v,rfl,rfl,hs,hv,k d v H q (ah.refl _) rv⟩
theorem aW:bU K (qO K) cW:=λH O x y dx dy Qd R _ hx hy uu30 k=>by
 obtain⟨ds,i,d,e1,e2,e3,q⟩:=uu30;subst e1 e2;obtain⟨a,vs,rfl,hs,r⟩:=hx.tup;cases hy.int;obtain⟨v,hv,rv⟩:=r.atI e3;exact⟨a,vs,i,v,rfl,rfl,hs,hv,k d v H q (ah.refl _) rv⟩
end
section
variable {X:Cx} {H0:Hp} {O0:Ex}
def D1:R2:=λx y H Q=>∃l b xs zs,x= .ref l/\y= .ref b/\Rd H l (.lst xs)/\Rd H b (.lst zs)/\xs.length+zs.length<=OS/\∀p,H p=none->Q (.ref p) (ak H p (.lst (xs++zs)))
theorem D2:bx X (Pu .Add) D1:=by
 intro Qm s σ H x y v u Q I rx ry h;obtain⟨l,b,xs,zs,rfl,rfl,hH,hB,hz,q⟩:=h;cases rx;cases ry;obtain⟨z,its,n,r,e⟩:=hH.ok I.hok;obtain⟨z2,its2,n2,r2,e2⟩:=hB.ok I.hok;have l1:=r.length;have l2:=r2.length;refine PySem.P.add_list e e2 ?_ (by rw [II,II];omega);have ea:its.toArray++its2.toArray=(its++its2).toArray:=OL
 rw [ea];exact⟨.ref _,_,I.lnew (t':=s.toks) (r.append r2) (by rw [Js];omega),rfl,q _ I.fresh⟩
def fE(ta tb:DT):DA:=λδ Q=>ta δ λx=>tb δ λy=>∃xs ys,x= .list xs/\y= .list ys/\xs.length+ys.length<=OS/\Q (xs++ys)
theorem D3{a b:OR}{ta tb:DT}{pos:Pos}(ha:DF X H0 O0 a ta)(hb:DF X H0 O0 b tb):FE X H0 O0 (.BinOp a .Add b pos) (fE ta tb):=
 (bp D2 ha hb).imp λσ H Q uu31=>by obtain⟨O,δ,Qd,w,q,k⟩:=uu31;exact⟨O,δ,_,w,q,λx v H1 q1 s1 r1=>⟨O,δ,_,w.mono s1,q1,λy u H2 uu32 s2 r2=>by
  obtain⟨xs,ys,e1,e2,hz,q2⟩:=uu32;subst e1 e2;obtain⟨a,vs,rfl,h1,d1⟩:=(r1.mono s2).lstR;obtain⟨b,us,rfl,h2,d2⟩:=r2.lstR;exact⟨a,b,vs,us,rfl,rfl,h1,h2,by rw [d1.length,d2.length];exact hz,λp hp=>k _ _ _ _ q2 (s1.trans s2) hp (d1.append d2)⟩⟩⟩
def ie:OM->OM->(OM->Prop)->Prop:=λx y Q=>∃xs ys,x= .tuple xs/\y= .tuple ys/\xs≠[]/\xs.length+ys.length<=OS/\Q (.tuple (xs++ys))
def bI(xs:List OM)(lo hi:Option Int):List OM:=(xs.drop (HT.sIx xs.length 0 lo)).take (HT.sIx xs.length xs.length hi - HT.sIx xs.length 0 lo)
theorem aj.cut{K:Iq}{H:Hp}{O:Ex}{vs:List V}{ds:List OM}(r:aj K H O vs ds)(lo hi:Option Int):aj K H O (mT vs lo hi) (bI ds lo hi):=by
 unfold mT bI;rw [r.length];exact(r.drop _).take _
abbrev DO:=Dl->(Option Int->Prop)->Prop
inductive mV (K:Iq) (H0:Hp) (O0:Ex) (t:DO) (σ:St) (H:Hp) (R:Option Int->Hp->Prop):Prop
 | mk (O:Ex) (δ:Dl) (Qd:Option Int->Prop):Wd K H0 O0 H O σ δ->t δ Qd->(∀d H',Qd d->ah H H'->R d H')->mV K H0 O0 t σ H R
def fF:DO:=λ_ Q=>Q none
def fG(t:DT):DO:=λδ Q=>t δ λd=>∃i,d= .int i/\Q (some i)
theorem PO.imp{X:Cx}{e:Option OR}{t u:TO}(h:PO X e t)(i:∀σ H Q,u σ H Q->t σ H Q):PO X e u:=λQm s σ H Q I z=>h Qm s σ H Q I (i σ H Q z)
theorem mF:PO X none (mV X.K H0 O0 fF):=CG.imp λσ H Q uu33=>by obtain⟨O,δ,Qd,w,q,k⟩:=uu33;exact k none H q (ah.refl _)
theorem mG{e:OR}{t:DT}(h:DE X H0 O0 e t):PO X (some e) (mV X.K H0 O0 (fG t)):=(CH h).imp λσ H Q uu34=>by obtain⟨O,δ,Qd,w,q,k⟩:=uu34;exact⟨O,δ,_,w,q,λd v H1 uu35 s1 r1=>by obtain⟨i,e,q1⟩:=uu35;subst e;cases r1;exact⟨i,rfl,k _ H1 q1 s1⟩⟩
def fH(t:DT)(tl th:DO):DA:=λδ Q=>t δ λd=>tl δ λl=>th δ λu=>∃xs,d= .list xs/\Q (bI xs l u)
def ig(t:DT)(tl th:DO):DT:=λδ Q=>t δ λd=>tl δ λl=>th δ λu=>∃xs,d= .tuple xs/\¬(HT.sIx xs.length 0 l=0/\HT.sIx xs.length xs.length u=xs.length)/\Q (.tuple (bI xs l u))
theorem nr{e:OR}{lo hi:Option OR}{t:DT}{tl th:DO}{pos p2:Pos}(h:DF X H0 O0 e t)(hl:PO X lo (mV X.K H0 O0 tl))(hu:PO X hi (mV X.K H0 O0 th)):FE X H0 O0 (.Subscript e (.Slice lo hi none p2) pos) (fH t tl th):=
 (tR wz h hl hu).imp λσ H Q uu36=>by obtain⟨O,δ,Qd,w,q,k⟩:=uu36;exact⟨O,δ,_,w,q,λd v H1 q1 s1 r1=>⟨O,δ,_,w.mono s1,q1,λl H2 q2 s2=>⟨O,δ,_,w.mono (s1.trans s2),q2,λu H3 uu37 s3=>by
  obtain⟨xs,e,q3⟩:=uu37;subst e;obtain⟨a,vs,rfl,h1,d1⟩:=(r1.mono (s2.trans s3)).lst;exact⟨a,vs,rfl,h1,λp hp=>k _ _ _ _ q3 (s1.trans (s2.trans s3)) hp (d1.cut l u)⟩⟩⟩⟩
theorem ij{a b:OR}{ta tb:DT}{r:R2}{rd:OM->OM->(OM->Prop)->Prop}{pos:Pos}(ho:oJ X r)(hd:bU X.K r rd)(ha:DF X H0 O0 a ta)(hb:DF X H0 O0 b tb)(hs:∀v u,subscripted b false v u=operate [v,u] (PM v u):=by intro _ _;rfl):DE X H0 O0 (.Subscript a b pos) (bM rd ta tb):=(pR ho ha hb hs).imp (qX hd)
def fI:List OM->(OM->Prop)->Prop:=λds Q=>∃xs,(ds=[.list xs]\/ds=[.tuple xs])/\Q (.int xs.length)
def fJ:List OM->(OM->Prop)->Prop:=λds Q=>∃xs,ds=[cD xs]/\Q (.int xs.length)
theorem rj{K:Iq}:l8 K (λxs H Q=>∃p ys,xs=[.ref p]/\(aV K H p ys\/aZ K H p ys)/\Q (.int ys.length) H) fI:=λH O xs ds Qd R _ hs uu38 k=>by
 obtain⟨ys,e,q⟩:=uu38;rcases e with e | e <;> subst e
 ·cases hs with
  | cons h r=>
   cases r;obtain⟨a,vs,rfl,h1,d1⟩:=h.lst;exact⟨a,vs,rfl,.inl h1,by rw [d1.length];exact k _ _ H q (ah.refl _) (.int _)⟩
 ·cases hs with
  | cons h r=>
   cases r;obtain⟨a,vs,rfl,h1,d1⟩:=h.tup;exact⟨a,vs,rfl,.inr h1,by rw [d1.length];exact k _ _ H q (ah.refl _) (.int _)⟩
theorem D4{K:Iq}:l8 K (λxs H Q=>∃p ys,xs=[.ref p]/\(aV K H p ys\/aZ K H p ys)/\Q (.int ys.length) H) fJ:=λH O xs ds Qd R _ hs uu39 k=>by
 obtain⟨ys,e,q⟩:=uu39;subst e;cases hs with
 | cons h r=>
  cases r;obtain⟨a,vs,rfl,h1,d1⟩:=h.scr;exact⟨a,vs,rfl,.inl h1,by rw [d1.length];exact k _ _ H q (ah.refl _) (.int _)⟩
def fK:List OM->(OM->Prop)->Prop:=λds Q=>∃xs,ds=[.list xs]/\Q (.tuple xs)
theorem uj{K:Iq}:l8 K (λxs H Q=>∃p ys,xs=[.ref p]/\((aV K H p ys/\∀l,H l=none->Q (.ref l) (ak H l (.tup ys)))\/(aZ K H p ys/\Q (.ref p) H))) fK:=λH O xs ds Qd R tr hs uu40 k=>by
 obtain⟨ys,e,q⟩:=uu40;subst e;cases hs with
 | cons h r=>
  cases r;obtain⟨a,vs,rfl,h1,d1⟩:=h.lst;exact⟨a,vs,rfl,.inl ⟨h1,λl hl=>k _ _ _ q (ah.new hl) (.tup (.inl bg) (λz=>tr l z hl) (d1.mono (ah.new hl)))⟩⟩
theorem aj.bools{K:Iq}{H:Hp}{O:Ex}:∀{bs:List Bool}{vs:List V},aj K H O vs (bs.map Mq)->vs=bs.map V.bl
 | [],_,r=>by rw [Jg] at r;cases r;rfl
 | b::bs,_,r=>by
  rw [IA] at r;cases r with
  | cons h r=>cases h;rw [IA,aj.bools r]
def fL(g:List Bool->Bool):List OM->(OM->Prop)->Prop:=λds Q=>∃bs:List Bool,ds=[.list (bs.map .bool)]/\Q (.bool (g bs))
theorem D5{K:Iq}{g:List Bool->Bool}:l8 K (λxs H Q=>∃(a:OO)(bs:List Bool),xs=[.ref a]/\aV K H a (bs.map V.bl)/\Q (.bl (g bs)) H) (fL g):=λH O xs ds Qd R tr hs uu41 k=>by
 obtain⟨bs,e,q⟩:=uu41;subst e;cases hs with
 | cons h r=>
  cases r;obtain⟨a,vs,rfl,h1,d1⟩:=h.lst;cases d1.bools;exact⟨a,bs,rfl,h1,k _ _ H q (ah.refl _) (.bl _)⟩
def fM(g:Int->Int->Int):List OM->(OM->Prop)->Prop:=λds Q=>∃i j,ds=[.int i,.int j]/\Q (.int (g i j))
theorem uk{K:Iq}{g:Int->Int->Int}:l8 K (λxs H Q=>∃i j,xs=[.int i,.int j]/\Q (.int (g i j)) H) (fM g):=λH O xs ds Qd R tr hs uu42 k=>by
 obtain⟨i,j,e,q⟩:=uu42;subst e;cases hs with
 | cons h r=>
  cases r with
  | cons h2 r=>
   cases r;cases h.int;cases h2.int;exact⟨i,j,rfl,k _ _ H q (ah.refl _) (.int _)⟩
def oQ:OM->String
 | .none=> "NoneType" | .bool _=> "bool" | .int _=> "int" | .str _=> "str" | .list _=> "list" | .tuple _=> "tuple" | .dict _=> "dict"
def il(neg:Bool):OM->OM->(OM->Prop)->Prop:=λx y Q=>∃ds,(y= .list ds\/y= .tuple ds)/\cK x=true/\ds.all cK=true/\Q (.bool (if neg then !(ds.any λd=>IL d x) else ds.any λd=>IL d x))
end
section
variable {P:OZ} {w:O4} {K:Iq} {mg:Str->Option ON} {base:O3}
def cf(N:List Str)(ds:List OM):Dl:=ds.map (λd=>some (.v d))++IJ (N.length - ds.length) none
theorem rl{H:Hp}{O:Ex}{N:List Str}{vs:List V}{ds:List OM}(tr:∀l,O l->H l≠none)(r:aj K H O vs ds):Wd K H O H O (start N vs) (cf N ds):=by
 have hl:=r.length;have at1:∀(i:Nat) y,(cf N ds)[i]?=some y->(∃d,ds[i]?=some d/\y=some (.v d))\/y=none:=λi y e=>by
  unfold cf at e;by_cases h:i < ds.length
  ·rw [K0 (by simpa using h),IS] at e;cases q:ds[i]? with
   | none=>rw [q] at e;cases e
   | some d=>rw [q] at e;exact .inl ⟨d,rfl,(Jr e).symm⟩
  ·rw [Le (by simpa using MO h),Ll] at e;split at e
   ·exact .inr (Jr e).symm
   ·cases e
 refine⟨ah.refl _,λ_ z=>z,λ_ z=>.inl z,tr,by simp [start,cf,hl],λi y e=>?_,λi j ds' es l e1=>?_⟩
 ·rcases at1 i y e with⟨d,hd,rfl⟩ | rfl
  ·obtain⟨v,hv,rv⟩:=r.getD hd;refine⟨v,?_,rv⟩;unfold start;rw [K0 (by simpa using(IG.mp hv).1),IS,hv];rfl
  ·exact Km
 ·rcases at1 i _ e1 with⟨d,_,z⟩ | z
  ·cases z;intro h;exact h.elim
  ·cases z
theorem cm.okD{x qual:Str}{st:O6}{f:OO}{fd:OX}{N ps:List Str}{k:Nat}{F:List OM->(OM->Prop)->Prop}(Fu:cm K x qual st f fd)(S:bb N ps (aw st))(len:∀ds Q,F ds Q->ds.length=ps.length)
 (hbody:∀(cdv:ON) (A:O5) (outer:List Env) (s:OP) (H:Hp) (O:Ex) (ds:List OM) (Q:OM->Prop) (E:XK),aK k (A.deeper (Pw qual (aw st) s.heap.objs.size f cdv))->F ds Q->
  ∃t,bu (aX aJ P w K mg base N qual (aw st) f cdv A outer s H E).nox (cT st) (aT K H O t)/\t {nx:=λ_=>Q .none,rt:=Q} (cf N ds)):az P w K mg base aJ (k+1) f fd ps (bA K F):=by
 refine Fu.ok S (λvs H Q E h=>?_) (λcdv A outer s H vs Q E hr h=>?_)
 ·obtain⟨O,ds,Qd,_,r,q,_⟩:=h;rw [r.length];exact len _ _ q
 ·obtain⟨O,ds,Qd,tr,r,q,k⟩:=h;obtain⟨t,ht,q'⟩:=hbody cdv A outer s H O ds Qd E hr q;refine⟨_,ht,O,_,_,rl tr r,q',λO' δ' σ' H' z w' S'=>?_,λd v H' z s' r'=>k d v H' z s' r',λ_ _ _ _ z=>z.elim,λ_ _ _ _ z=>z.elim⟩;exact k _ _ _ z w'.same .non
end
section
variable {X:Cx} {H0:Hp} {O0:Ex}
theorem um:dY X [] (bK X.K H0 O0 dA):=λQm s σ H Q I h=>by
 obtain⟨O,δ,Qd,w,q,k⟩:=h;exact wI Qm s σ H Q I (k true H q (ah.refl _))
theorem D6:cI X (.builtin "isinstance") (λxs H Q=>∃O d T b x,xs=[x,.ty T]/\Dt X.K H O x d/\(∀x,d≠ .dict [(.none,x)])/\kitOne X.K (.type (oQ d)) (.type T)=some b/\Q (.bl b) H):=by
 intro Qm s σ H xs us Q I r h;obtain⟨O,d,T,b,x,rfl,hd,hp,hk,q⟩:=h;obtain⟨u,w',rfl,rx,rt⟩:=pN r;cases (show w'=N4 T from rt);have fin:∀tk,EP X Qm σ Q (.bool b) {s with toks:=tk}:=λtk=>⟨.bl b,H,I.tok tk,rfl,q⟩;cases hd with
 | non=>cases (show u=Ln from rx);exact P7 kitx_none I.kIn Km hk (λz=>nomatch z) fin
 | bl y=>cases (show u=Lh y from rx);exact P7 kitx_bool I.kIn Km hk (λz=>nomatch z) fin
 | int i=>obtain⟨t,e⟩:=(show ∃t,u=Lm i t from rx);cases e;exact P7 kitx_int I.kIn Km hk (λz=>nomatch z) fin
 | str y=>obtain⟨t,e⟩:=(show ∃t,u=La y t from rx);cases e;exact P7 kitx_str I.kIn Km hk (λz=>nomatch z) fin
 | @tup a xs ds h n rr=>
  cases (show u=Jb a from rx);obtain⟨its,rv,⟨o,e,c,_⟩,_⟩:=I.tuple (.inl h);exact P7 kitx_tuple I.kIn ⟨o,e,c⟩ hk (λz=>nomatch z) fin
 | @tupK a xs ds h rr=>
  cases (show u=Jb a from rx);obtain⟨its,rv,⟨o,e,c,_⟩,_⟩:=I.tuple h.of0;exact P7 kitx_tuple I.kIn ⟨o,e,c⟩ hk (λz=>nomatch z) fin
 | @lst a xs ds h n rr=>
  cases (show u=Jb a from rx);obtain⟨its,rv,⟨o,_,e,c,_⟩,_⟩:=I.list (.inl h);exact P7 kitx_list I.kIn ⟨o,e,c⟩ hk (λz=>nomatch z) fin
 | pack h n=>exact absurd rfl (hp _)
 | purse h n=>exact absurd rfl (hp _)
 | scr h r=>exact absurd rfl (hp _)
 | obj h e n r=>exact absurd rfl (hp _)
 | @dct0 a h n=>
  cases (show u=Jb a from rx);obtain⟨_,_,_,_,o,_,_,e,c,_⟩:=(show bF X.prog X.w H s.heap a (.dK []) from I.hok a _ h);exact P7 kitx_dict I.kIn ⟨o,e,c.1⟩ hk (λz=>nomatch z) fin
 | @dic a ob kv ks kp ds h e1 e2 n rr=>
  cases (show u=Jb a from rx);obtain⟨_,_,_,_,o,_,_,e,c,_⟩:=(show bF X.prog X.w H s.heap a (.dK kv) from(I.hok a _ h).2);exact P7 kitx_dict I.kIn ⟨o,e,c.1⟩ hk (λz=>nomatch z) fin
def eh(K:Iq)(T:String)(t:DT):DT:=λδ Q=>t δ λd=>∃b,kitOne K (.type (oQ d)) (.type T)=some b/\(∀x,d≠ .dict [(.none,x)])/\Q (.bool b)
theorem D7{T:String}{a c:OR}{t:DT}{np p:Pos}(hg:Gl X "isinstance")(hm:X.mg "isinstance"=none)(hv:Pb "isinstance"=some (.builtin "isinstance"))(ha:DF X H0 O0 a t)(hc:PE X c (tC (.ty T)))
 (hs:OW [a,c] X.env=(false,eval a X.env)::OW [c] X.env:=by rfl)(hs2:OW [c] X.env=[(false,eval c X.env)]:=by rfl)(hb:(Pd p (OW [c] X.env)).any (·.1)=false:=by rfl):DE X H0 O0 (.Call (.Name "isinstance" np) [a,c] [] p) (eh X.K T t):=
 (ck D6 hg hm hv (aP ha (aP hc bP hs2) hs) (he:=hs) (hpl:=hb)).imp λσ H Q uu43=>by obtain⟨O,δ,Qd,w,q,k⟩:=uu43;exact⟨O,δ,_,w,q,λd v H1 uu44 s1 r1=>by obtain⟨b,e,hp,q1⟩:=uu44;exact⟨λ_=>False,d,T,b,v,rfl,r1.all,hp,e,k _ _ H1 q1 s1 (.bl b)⟩⟩
def fN:OM->OM->(OM->Prop)->Prop:=λx y Q=>∃i j,x= .str i/\y= .str j/\i.length+j.length<=OS/\Q (.str (i++j))
theorem rm{K:Iq}:bU K (λx y H Q=>∃i j,x= .str i/\y= .str j/\i.length+j.length<=OS/\Q (.str (i++j)) H) fN:=λH O x y dx dy Qd R tr hx hy uu45 k=>by
 obtain⟨i,j,e1,e2,hz,q⟩:=uu45;subst e1 e2;cases hx.str;cases hy.str;exact⟨i,j,rfl,rfl,hz,k _ _ H q (ah.refl _) (.str _)⟩
def fO:OM->OM->(OM->Prop)->Prop:=λx y Q=>∃z i c,x= .str z/\y= .int i/\z.length<=OS/\atI z.cps.toList i=some c/\Q (.str ⟨#[c]⟩)
theorem rn{K:Iq}:bU K wy fO:=λH O x y dx dy Qd R tr hx hy uu46 k=>by
 obtain⟨z,i,c,e1,e2,hz,e3,q⟩:=uu46;subst e1 e2;cases hx.str;cases hy.int;exact⟨z,i,c,rfl,rfl,hz,e3,k _ _ H q (ah.refl _) (.str _)⟩
def ip(t:DT)(tl th:DO):DT:=λδ Q=>t δ λd=>tl δ λl=>th δ λu=>∃z,d= .str z/\z.length<=OS/\Q (.str (Txt.slice z l u))
def iq(to:DT)(t:DT):DT:=λδ Q=>to δ λx=>∃z:Str,x= .str z/\t δ λy=>∃(ys:List Str),y= .list (ys.map .str)/\(ys.map (·.length)).sum+ys.length*z.length<=16777216/\Q (.str (Txt.join z ys))
def fP:List OM->(OM->Prop)->Prop:=λds Q=>(∃i,ds=[.int i]/\Q (.int i))\/∃b,ds=[.bool b]/\Q (.int (if b then 1 else 0))
theorem p9{K:Iq}:l8 K (λxs H Q=>(∃i,xs=[.int i]/\Q (.int i) H)\/∃k,xs=[.bl k]/\Q (.int (if k then 1 else 0)) H) fP:=λH O xs ds Qd R tr hs h k=>by
 rcases h with⟨i,e,q⟩ | ⟨b,e,q⟩ <;> subst e
 ·cases hs with
  | cons h r=>cases r;cases h.int;exact .inl ⟨i,rfl,k _ _ H q (ah.refl _) (.int _)⟩
 ·cases hs with
  | cons h r=>cases r;cases h.bl;exact .inr ⟨b,rfl,k _ _ H q (ah.refl _) (.int _)⟩
def iu(t:DA):DA:=λδ Q=>t δ λds=>∃xs,(ds=[.list xs]\/ds=[.tuple xs])/\Q xs
theorem D8{xs:List V}{us:List ON}(r:aB xs us):aB xs.reverse us.reverse:=by
 induction r with
 | nil=>exact .nil
 | cons h r ih=>rw [L4,L4];exact ih.append (.cons h .nil)
def iw(t:DT):DA:=λδ Q=>t δ λd=>∃xs,d= .list xs/\Q xs.reverse
end
def D9:List OM->(OM->Prop)->Prop:=λds Q=>∃z:Int,ds=[ue,.int z]/\0 < z/\z<=1000000/\∀i:Int,0<=i->i < z->Q (.int i)
theorem bO{α:Type}{a:α}{l:List α}:atI (a::l) 0=some a:=gX (j:=0) rfl
theorem bS{α:Type}{a b:α}{l:List α}:atI (a::b::l) 1=some b:=gX (j:=1) rfl
theorem cA{α:Type}{a b c:α}{l:List α}:atI (a::b::c::l) 2=some c:=gX (j:=2) rfl
theorem cL{α:Type}{a b c d:α}{l:List α}:atI (a::b::c::d::l) 3=some d:=gX (j:=3) rfl
theorem dP{α:Type}{a b c d e:α}{l:List α}:atI (a::b::c::d::e::l) 4=some e:=gX (j:=4) rfl
theorem iy{i:Int}:bL (.int i):=rfl
theorem iz{i:Bool}:bL (.bool i):=rfl
theorem iA:bL .none:=rfl
theorem cM{x y:Str}:IL (.str x) (.str y)=(x==y):=by simp [IL]
theorem el{x y:Int}:IL (.int x) (.int y)=(x==y):=by simp [IL]
theorem fQ{x y:Bool}:IL (.bool x) (.bool y)=(x==y):=by simp [IL]
theorem me{x:Str}:bL (.str x)↔IV x=true:=by
 unfold bL Ko;simp [Jk,Lb]
theorem qM{n d:Nat}:HT.sIx n d none=d:=rfl
theorem ro{n d:Nat}{i:Int}(h0:0<=i)(h1:i<=n):HT.sIx n d (some i)=i.toNat:=by
 obtain⟨j,rfl⟩:=Jp h0;rw [HT.sIx_nat,NP];omega
theorem nt{xs:List OM}{i:Int}(h0:0<=i)(h1:i<=xs.length):bI xs none (some i)=xs.take i.toNat:=by
 unfold bI;rw [qM,ro h0 h1];simp
theorem oR{xs:List OM}{i:Int}(h0:0<=i)(h1:i<=xs.length):bI xs (some i) none=xs.drop i.toNat:=by
 unfold bI;rw [qM,ro h0 h1,Kl (by rw [LC];exact IB _)]
theorem n9{lo:Int}{n i:Nat}{x:OM}(h:(g9 lo n)[i]?=some x):i < n/\x= .int (lo+i):=by
 unfold g9 at h;rw [IS] at h;by_cases hi:i < n
 ·rw [List.getElem?_range hi] at h;exact⟨hi,(Jr h).symm⟩
 ·rw [Ld (by simpa using hi)] at h;cases h
theorem qa{lo:Int}{n:Nat}:(g9 lo n).length=n:=by unfold g9;simp
section
variable {κ:Type} [DecidableEq κ]
def oh(kvs:List (κ×V))(k:κ):Option V:=(kvs.find? λkv=>decide (kv.1=k)).map (·.2)
def putK(kvs:List (κ×V))(k:κ)(v:V):List (κ×V):=
 if (kvs.any λkv=>decide (kv.1=k))=true then kvs.map (λkv=>if kv.1=k then(kv.1,v) else kv) else kvs++[(k,v)]
theorem xB{p:κ×V}{r:List (κ×V)}{k:κ}(e:p.1=k):oh (p::r) k=some p.2:=by simp [oh,Ml,e]
theorem xC{p:κ×V}{r:List (κ×V)}{k:κ}(e:¬p.1=k):oh (p::r) k=oh r k:=by simp [oh,Ml,e]
theorem xD(k:κ):∀kvs:List (κ×V),(kvs.any λkv=>decide (kv.1=k))=(oh kvs k).isSome
 | []=>rfl
 | p::r=>by
  rw [JN];by_cases e:p.1=k
  ·simp only [xB e,decide_eq_true e,Bool.true_or,NA]
  ·rw [xC e,decide_eq_false e,Ke];exact xD k r
theorem uo(kvs:List (κ×V))(k:κ)(v:V):(putK kvs k v).length<=kvs.length+1:=by
 unfold putK;split
 ·rw [Iw];omega
 ·rw [Js,IE,Jt];omega
theorem mq.isSome_eq{o:Option V}{u:Option ON}(r:mq o u):o.isSome=u.isSome:=by
 cases o with
 | none=>cases u with
  | none=>rfl
  | some _=>exact(show False from r).elim
 | some _=>cases u with
  | none=>exact(show False from r).elim
  | some _=>rfl
theorem KV.any{kvs:List (κ×V)}{vs:List (κ×ON)}(r:KV kvs vs)(k:κ):(kvs.any λkv=>decide (kv.1=k))=vs.any λkv=>decide (kv.1=k):=by
 unfold KV at r
 induction r with
 | nil=>rfl
 | cons h t ih=>rw [JN,JN,ih,h.1]
theorem KV.repl{kvs:List (κ×V)}{vs:List (κ×ON)}(r:KV kvs vs)(k:κ){y:V}{u:ON}(ry:ax y u):
 KV (kvs.map λkv=>if kv.1=k then(kv.1,y) else kv) (vs.map λkv=>if kv.1=k then(kv.1,u) else kv):=by
 unfold KV at r⊢
 induction r with
 | nil=>exact .nil
 | @cons p q ps qs h t ih=>
  rw [IA,IA];refine .cons ?_ ih;obtain⟨h1,h2⟩:=h;by_cases e:p.1=k
  ·rw [OJ e,OJ (h1.symm.trans e)];exact⟨h1,ry⟩
  ·rw [OI e,OI (λz=>e (h1.trans z))];exact⟨h1,h2⟩
theorem KV.put{kvs:List (κ×V)}{vs:List (κ×ON)}(r:KV kvs vs)(k:κ){y:V}{u:ON}(ry:ax y u):KV (putK kvs k y) (stored vs k u):=by
 unfold putK stored;rw [r.any k];by_cases e:(vs.any λkv=>decide (kv.1=k))=true
 ·rw [OJ e,OJ e];exact r.repl k ry
 ·rw [OI e,OI e];exact Oz r ⟨rfl,ry⟩
theorem KV.keys{kvs:List (κ×V)}{vs:List (κ×ON)}(r:KV kvs vs):kvs.map (·.1)=vs.map (·.1):=by
 unfold KV at r
 induction r with
 | nil=>rfl
 | cons h t ih=>rw [IA,IA,ih,h.1]
theorem KV.length{kvs:List (κ×V)}{vs:List (κ×ON)}(r:KV kvs vs):kvs.length=vs.length:=Mu r
end
theorem uq{P:OZ}{w:O4}{k:ag}{u:ON}(r:ax (kV k) u):(cH P w).is k u=true:=by
 cases k with
 | inl i=>obtain⟨t,e⟩:=(show ∃t,u=Lm i t from r);subst e;exact BB P w i t
 | inr x=>obtain⟨t,e⟩:=(show ∃t,u=La x t from r);subst e;exact BC P w x t
theorem xE{P:OZ}{w:O4}:∀{ks:List ag}{us:List ON},aB (ks.map kV) us->ItemsAre (cH P w) ks us
 | [],_,r=>by rw [Jg] at r;cases r;exact .nil
 | k::ks,_,r=>by
  rw [IA] at r;cases r with
  | cons h t=>exact .cons (uq h) (xE t)
abbrev KT(H:Hp):List (List ag×V)->List (List ag×OO×ON)->Prop:=Paired λp q=>p.1=q.1/\H q.2.1=some (.tup (p.1.map kV))/\ax p.2 q.2.2
theorem KT.val{H:Hp}{kvs:List (List ag×V)}{xs:List (List ag×OO×ON)}(r:KT H kvs xs)(k:List ag):mq (oh kvs k) ((atKey xs k).map (·.2)):=by
 induction r with
 | nil=>exact Km
 | @cons p q ps qs h t ih=>
  obtain⟨h1,_,h2⟩:=h;by_cases e:p.1=k
  ·have e':q.1=k:=h1.symm.trans e;have b:atKey (q::qs) k=some q.2:=by simp [atKey,Ml,e']
   rw [xB e,b];exact h2
  ·have e':¬q.1=k:=λz=>e (h1.trans z);have b:atKey (q::qs) k=atKey qs k:=by simp [atKey,Ml,e']
   rw [xC e,b];exact ih
theorem KT.repl{H:Hp}{kvs:List (List ag×V)}{xs:List (List ag×OO×ON)}(r:KT H kvs xs)(k:List ag){y:V}{u:ON}(ry:ax y u):
 KT H (kvs.map λkv=>if kv.1=k then(kv.1,y) else kv) (xs.map (putAt k u)):=by
 induction r with
 | nil=>exact .nil
 | @cons p q ps qs h t ih=>
  rw [IA,IA];refine .cons ?_ ih;obtain⟨h1,h2,h3⟩:=h;unfold putAt;by_cases e:p.1=k
  ·rw [OJ e,OJ (h1.symm.trans e)];exact⟨h1,h2,ry⟩
  ·rw [OI e,OI (λz=>e (h1.trans z))];exact⟨h1,h2,h3⟩
theorem KT.put{H:Hp}{kvs:List (List ag×V)}{xs:List (List ag×OO×ON)}(r:KT H kvs xs)(k:List ag){b:OO}{y:V}{u:ON}(hb:H b=some (.tup (k.map kV)))(ry:ax y u):
 KT H (putK kvs k y) (storedH xs k b u):=by
 have e:(kvs.any λkv=>decide (kv.1=k))=(atKey xs k).isSome:=by
  rw [xD,(r.val k).isSome_eq,Option.isSome_map]
 unfold putK storedH;rw [e];by_cases q:(atKey xs k).isSome=true
 ·rw [OJ q,OJ q];exact r.repl k ry
 ·rw [OI q,OI q];exact Oz r ⟨rfl,hb,ry⟩
theorem KT.keeps{H H':Hp}{kvs:List (List ag×V)}{xs:List (List ag×OO×ON)}(r:KT H kvs xs)(ht:∀b ys,H b=some (.tup ys)->H' b=some (.tup ys)):KT H' kvs xs:=
 Paired.mapP r λ_ _ z=>⟨z.1,ht _ _ z.2.1,z.2.2⟩
section
variable {P:OZ} {w:O4} {H:Hp} {h:O3} {a:OO}
theorem xF{u:HO}(ok:bf P w H h)(e:Rd H a u):bF P w H h a u:=e.ok ok
theorem Ea{kvs:List (ag×V)}(ok:bf P w H h)(e:Rd H a (.dK kvs)):kvs.length<=OS/\(a==Po)=false/\∃vs,KV kvs vs/\h.DictOf (cH P w) a vs:=
 show bF P w H h a (.dK kvs) from xF ok e
theorem xG{kvs:List (ag×V)}(ok:bf P w H h)(e:H a=some (.dK kvs)):kvs.length<=OS/\(a==Po)=false/\∃vs,KV kvs vs/\h.DictOf (cH P w) a vs:=Ea ok (.inl e)
theorem xH{ks:List ag}(ok:bf P w H h)(e:H a=some (.tup (ks.map kV))):(tupleKind (cH P w)).is h ks a:=by
 obtain⟨_,its,r,o,h1,h2,n,h3⟩:=(show bF P w H h a (.tup (ks.map kV)) from ok a _ e);exact⟨o,its.toArray,n,h1,h2,h3,by simpa using xE r⟩
theorem Eb{kvs:List (List ag×V)}(ok:bf P w H h)(e:Rd H a (.dT kvs)):kvs.length<=OS/\(a==Po)=false/\
 ∃xs,KT H kvs xs/\h.DictOfH (tupleKind (cH P w)) a xs:=by
 obtain⟨z,y,xs,r,o,es,ep,h1,h2,h3,h4,h5⟩:=(show bF P w H h a (.dT kvs) from xF ok e);refine⟨z,y,xs,r,o,es,ep,h1,h2,h3,h4,λx hx=>?_,h5⟩;have all:∀{l:List (List ag×V)}{m:List (List ag×OO×ON)},KT H l m->∀x∈m,(tupleKind (cH P w)).is h x.1 x.2.1:=by
  intro l m q
  induction q with
  | nil=>intro x hx;exact nomatch hx
  | @cons p q ps qs hq t ih=>
   intro x hx;rcases IP.mp hx with e | hx
   ·subst e;exact xH ok (by rw [<-hq.1];exact hq.2.1)
   ·exact ih x hx
 exact all r x hx
theorem Ec{kvs:List (List ag×V)}(ok:bf P w H h)(e:H a=some (.dT kvs)):kvs.length<=OS/\(a==Po)=false/\
 ∃xs,KT H kvs xs/\h.DictOfH (tupleKind (cH P w)) a xs:=Eb ok (.inl e)
end
def qc(H:Hp)(a:OO)(y v:V)(H':Hp):Prop:=
 (∃kvs k,H a=some (.dK kvs)/\y=kV k/\kvs.length < OS/\H'=ak H a (.dK (putK kvs k v)))\/
 ∃kvs k b,H a=some (.dT kvs)/\y= .ref b/\H b=some (.tup (k.map kV))/\kvs.length < OS/\H'=ak H a (.dT (putK kvs k v))
theorem qc.k{H:Hp}{a:OO}{kvs:List (ag×V)}{k:ag}{v:V}(e:H a=some (.dK kvs))(hl:kvs.length < OS):qc H a (kV k) v (ak H a (.dK (putK kvs k v))):= .inl ⟨kvs,k,e,rfl,hl,rfl⟩
section
variable {X:Cx} {Qm:List (OO×Obj)} {σ:St} {H:Hp} {s:OP} {a:OO} {y v:V} {u r:ON} {o:Option V} {A:O5} {E:ON->OP->Prop}
theorem aa.big(I:aa X Qm σ H s):Po < s.heap.objs.size:=by
 have h:OY < s.heap.objs.size:=(I.mod.glob.keeps I.bk).lt;exact Nat.lt_trans OG h
theorem ur{h':O3}{t':Nat}{ob:HO}(I:aa X Qm σ H s)(mu:pw (H a))(hs:LP a s.heap h')(he:∃q,h'.get? a=some q)(new:bF X.prog X.w (ak H a ob) h' a ob):
 aa X Qm σ (ak H a ob) {s with heap:=h',toks:=t'}:=
 I.write (x:=a) (e:=a) mu (.inl rfl) (λb q hb z=>(hs.2 b hb).trans z) he new
theorem xI{P:OZ}{w:O4}{H':Hp}{h':O3}{kvs:List (ag×V)}{vs:List (ag×ON)}(z:kvs.length<=OS)(hd:(a==Po)=false)(rel:KV kvs vs)(dd:h'.DictOf (cH P w) a vs):
 bF P w H' h' a (.dK kvs):=⟨z,hd,vs,rel,dd⟩
theorem Ed{H':Hp}{Q:Unit->OP->Prop}(hu:A.units+1 < PZ)(I:aa X Qm σ H s)(g:qc H a y v H')(ry:ax y u)(rv:ax v r)(h:∀s',aa X Qm σ H' s'->Q () s'):
 OV (OU X.prog X.w) A (setItem (.ref a) u r) Q E s:=by
 rcases g with⟨kvs,k,e,ey,l,eH⟩ | ⟨kvs,k,b,e,ey,eb,l,eH⟩
 ·subst ey eH;obtain⟨z,hd,vs,rel,dd⟩:=xG I.hok e;have hz:vs.length<=OS:=by rw [<-rel.length];exact z
  have hl:(putK kvs k v).length<=OS:=by have:=uo kvs k v;omega
  refine wpAny_setItem_pairs (hsz:=hz) (uq ry) dd λh' dd' hs=>h _ ?_;have he:∃q,h'.get? a=some q:=let ⟨q,_,_,hq,_⟩:=dd';⟨q,hq⟩
  exact ur I (by rw [e];exact Km) hs he (xI hl hd (rel.put k rv) dd')
 ·subst ey eH;cases (show u=Jb b from ry);obtain⟨z,hd,xs,rel,dd⟩:=Ec I.hok e;have hz:xs.length<=OS:=by rw [<-Mu rel];exact z
  have hl:(putK kvs k v).length<=OS:=by have:=uo kvs k v;omega
  refine wpAny_setItem_heap (hsz:=hz) (tupleKind_room_in1 hu) (xH I.hok eb) dd λh' dd' hs=>h _ ?_;obtain⟨q,es,ep,hq,h2,h3,h4,_,h5⟩:=dd';refine ur I (by rw [e];exact Km) hs ⟨q,hq⟩ ⟨hl,hd,_,(rel.put k eb rv).keeps λc ys ec=>?_,q,es,ep,hq,h2,h3,h4,h5⟩;rw [ay (BD ec e (λz=>nomatch z))];exact ec
end
def Ee(td ty tv:TE):TS:=λD σ H=>tv σ H λv H1=>td σ H1 λx H2=>ty σ H2 λy H3=>∃a H4,x= .ref a/\qc H3 a y v H4/\D.nx σ H4
section
variable {X:Cx} {o i e value:OR} {pos pos' tpos:Pos} {td ty tv:TE}
theorem Ef(hu:X.A.units+1 < PZ)(ho:PE X o td)(hi:PE X i ty)(hv:PE X value tv)(hs:Pg value (some (.Subscript o i pos')) pos.line X.env=pure false):
 PS X (.Assign [.Subscript o i pos'] value pos) (Ee td ty tv):=by
 intro Qm s σ H D I h;refine wpAny_Assign_Subscript (au (hv Qm s σ H _ I h) λr s1 ⟨v,H1,I1,rv,q1⟩=>au (ho Qm s1 σ H1 _ I1 q1) λu s2 ⟨x,H2,I2,rx,q2⟩=>au (hi Qm s2 σ H2 _ I2 q2) λiv s3 ⟨y,H3,I3,ry,a,H4,ex,g,q3⟩=>?_) hs;subst ex;obtain rfl:u=Jb a:=rx;exact Ed hu I3 g ry rv λs4 I4=>⟨σ,H4,I4,q3⟩
end
theorem xJ{P:OZ}{w:O4}{H:Hp}(h:O3)(hb:Po < h.objs.size):bF P w H (h.push {cls:= .type "dict",data:= .dict #[]}) h.objs.size (.dK []):=
 ⟨J1 _,beq_eq_false_iff_ne.mpr (Ne.symm (IZ hb)),[],.nil,Heap.DictOf.new h⟩
def Eg:TE:=λ_ H Q=>∀p,H p=none->Q (.ref p) (ak H p (.dK []))
section
variable {X:Cx} {pos:Pos}
theorem Ei:PE X (.Dict [] [] pos) Eg:=λQm s σ H Q I h=>
 wpAny_Dict_empty ⟨.ref s.heap.objs.size,_,I.laid (a:=s.heap.objs.size) (o:= .dK []) (t':=s.toks) (λ_ _ q=>Iz _ q) (IB _) (xJ s.heap I.big),rfl,h _ (I.hok.fresh (IB _))⟩
end
def rq:List (TE×TE)->St->Hp->(List (V×V)->Hp->Prop)->Prop
 | [],_,H,Q=>Q [] H
 | (tk,tv)::r,σ,H,Q=>tk σ H λx H1=>tv σ H1 λy H2=>rq r σ H2 λps H3=>Q ((x,y)::ps) H3
abbrev VV:List (V×V)->List (ON×ON)->Prop:=Paired λp q=>ax p.1 q.1/\ax p.2 q.2
def qf(X:Cx)(pos:Pos)(keys:List (Option OR))(values:List OR)(trs:List (TE×TE)):Prop:=
 ∀(Qm:List (OO×Obj))(s:OP)(σ:St)(H:Hp)(Q:List (V×V)->Hp->Prop),aa X Qm σ H s->rq trs σ H Q->
  OV (OU X.prog X.w) X.A (evalPairs (pairTrees keys values X.env pos)) (λvs s'=>∃ps H',aa X Qm σ H' s'/\VV ps vs/\Q ps H') X.xe s
theorem Ej{X:Cx}{pos:Pos}:qf X pos [] [] []:=λQm s σ H Q I h=>pairTrees_nil_walk ⟨[],H,I,.nil,h⟩
theorem Ek{X:Cx}{pos:Pos}{k v:OR}{ks:List (Option OR)}{vs:List OR}{tk tv:TE}{trs:List (TE×TE)}(hk:PE X k tk)(hv:PE X v tv)(hr:qf X pos ks vs trs):
 qf X pos (some k::ks) (v::vs) ((tk,tv)::trs):=λQm s σ H Q I h=>
 pairTrees_cons_walk (au (hk Qm s σ H _ I h) λu s1 ⟨x,H1,I1,rx,q1⟩=>au (hv Qm s1 σ H1 _ I1 q1) λw2 s2 ⟨y,H2,I2,ry,q2⟩=>
  au (hr Qm s2 σ H2 _ I2 q2) λws s3 uu52=>by obtain⟨ps,H3,I3,rel,q3⟩:=uu52;exact⟨(x,y)::ps,H3,I3,.cons ⟨rx,ry⟩ rel,q3⟩)
def nu(kvs more:List (ag×V)):List (ag×V):=more.foldl (λacc kv=>putK acc kv.1 kv.2) kvs
theorem KV.merge:∀{more:List (ag×V)}{rs:List (ag×ON)}{kvs:List (ag×V)}{vs:List (ag×ON)},KV more rs->KV kvs vs->KV (nu kvs more) (merged vs rs):=by
 intro more rs kvs vs r;unfold KV at r
 induction r generalizing kvs vs with
 | nil=>intro q;exact q
 | @cons p q ps qs h t ih=>
  intro r0;have e:KV (putK kvs p.1 p.2) (stored vs q.1 q.2):=by
   have:=r0.put p.1 h.2;rw [<-h.1];exact this
  exact ih e
theorem xK:∀(more kvs:List (ag×V)),(nu kvs more).length<=kvs.length+more.length
 | [],kvs=>by show kvs.length<=kvs.length+0;omega
 | p::r,kvs=>by
  have h1:=xK r (putK kvs p.1 p.2);have h2:=uo kvs p.1 p.2;show(nu (putK kvs p.1 p.2) r).length<=_;rw [IE];omega
theorem xM{P:OZ}{w:O4}:∀{kvs:List (ag×V)}{ws:List (ON×ON)},VV (kvs.map λkv=>(kV kv.1,kv.2)) ws->∃rs,Carries (cH P w) ws rs/\KV kvs rs
 | [],_,r=>by rw [Jg] at r;cases r;exact⟨[],Km,.nil⟩
 | p::kvs,_,r=>by
  rw [IA] at r;cases r with
  | @cons a b as bs h t=>
   obtain⟨rs,c,q⟩:=xM (P:=P) (w:=w) t;obtain⟨b1,b2⟩:=b;exact⟨(p.1,b2)::rs,⟨uq h.1,rfl,c⟩,.cons ⟨rfl,h.2⟩ q⟩
def El(trs:List (TE×TE)):TE:=λσ H Q=>∀p,H p=none->rq trs σ (ak H p (.dK [])) λps H2=>H2 p=some (.dK [])/\∃kvs:List (ag×V),ps=kvs.map (λkv=>(kV kv.1,kv.2))/\kvs.length<=15/\Q (.ref p) (ak H2 p (.dK (nu [] kvs)))
theorem Em{X:Cx}{pos:Pos}{keys:List (Option OR)}{values:List OR}{trs:List (TE×TE)}(h:qf X pos keys values trs)(hall:keys.all (·.isSome)=true)(hl:keys.length=values.length)(h0:keys≠[])
 (h15:keys.length<=15):PE X (.Dict keys values pos) (El trs):=by
 intro Qm s σ H Q I q;have hn:=I.hok.fresh (IB s.heap.objs.size);have I1:=I.laid (a:=s.heap.objs.size) (o:= .dK []) (h':=s.heap.push {cls:= .type "dict",data:= .dict #[]}) (t':=s.toks) (λ_ _ q=>Iz _ q) (IB _) (xJ s.heap I.big);refine wpAny_Dict_walk (knd:=cH X.prog X.w) hall hl h0 h15 (au (h Qm _ σ _ _ I1 (q _ hn)) λws s2 ⟨ps,H2,I2,rel,e,kvs,ep,lk,q2⟩=>?_);subst ep;obtain⟨rs,c,rk⟩:=xM (P:=X.prog) (w:=X.w) rel;obtain⟨z,hd,vs0,r0,dd⟩:=xG I2.hok e;cases r0;refine⟨rs,c,dd,λh' dd' hs=>⟨.ref s.heap.objs.size,_,?_,rfl,q2⟩⟩;have hz:(nu [] kvs).length<=OS:=by
  have h1:=xK kvs [];rw [Jt] at h1;rw [O8];omega
 have he:∃q,h'.get? s.heap.objs.size=some q:=let ⟨q,_,_,hq,_⟩:=dd';⟨q,hq⟩
 exact ur I2 (by rw [e];exact Km) hs he (xI hz hd (rk.merge .nil) dd')
structure M1 (X:Cx) (o:OR) (m:Str) (apos:Pos) (e:OR) (cpos:Pos):Prop where
 base:Px o m X.env (eval o X.env)=eval o X.env
 few:((Pd cpos (OW [e] X.env)).all (λx=>!x.1) && (backToKw cpos (keywordEach [] X.env)).all (λx=>x.1.isSome)
  && decide (([e]:List OR).length+([]:List P6).length+(if ([]:List P6).isEmpty then 0 else 1) < 30))=true
 line:(apos.endLine==cpos.line)=true
 trees:Pd cpos (OW [e] X.env)=[(false,eval e X.env)]
structure M2 (X:Cx) (o:OR) (m:Str) (apos:Pos) (e f:OR) (cpos:Pos):Prop where
 base:Px o m X.env (eval o X.env)=eval o X.env
 few:((Pd cpos (OW [e,f] X.env)).all (λx=>!x.1) && (backToKw cpos (keywordEach [] X.env)).all (λx=>x.1.isSome)
  && decide (([e,f]:List OR).length+([]:List P6).length+(if ([]:List P6).isEmpty then 0 else 1) < 30))=true
 line:(apos.endLine==cpos.line)=true
 trees:Pd cpos (OW [e,f] X.env)=[(false,eval e X.env),(false,eval f X.env)]
section
variable {X:Cx} {H0:Hp} {O0:Ex}
def iB(a b c d:Str)(t:DT):DT:=λδ Q=>t δ λy=>(y= .str a/\Q (.str c))\/(y= .str b/\Q (.str d))
def litsOf:List OR->Option (List OM)
 | []=>some []
 | .Constant (.int i) _ _::r=>(litsOf r).map (.int i::·)
 | .Constant (.str x) _ _::r=>(litsOf r).map (.str x::·)
 | _::_=>none
def eD(ds:List OM):DA:=λ_ Q=>Q ds
theorem qg:∀{es:List OR}{ds:List OM},litsOf es=some ds->PA X es (cU X.K H0 O0 (eD ds))
 | [],ds,h=>by cases h;exact aq
 | e::r,ds,h=>by
  cases e with
  | Constant c j p=>
   cases c with
   | int i=>
    have h':(litsOf r).map (.int i::·)=some ds:=h;cases q:litsOf r with
    | none=>rw [q] at h';cases h'
    | some ms=>rw [q] at h';cases h';exact af ae (qg q)
   | str x=>
    have h':(litsOf r).map (.str x::·)=some ds:=h;cases q:litsOf r with
    | none=>rw [q] at h';cases h'
    | some ms=>rw [q] at h';cases h';exact af bD (qg q)
   | _=>cases h
  | _=>cases h
def litsE:OR->Option (List OM)
 | .List es _=>litsOf es
 | _=>none
theorem Eo{e:OR}{ds:List OM}(h:litsE e=some ds):FE X H0 O0 e (d5 (eD ds)):=by
 cases e with
 | List es p=>exact cn (qg h)
 | _=>cases h
end
structure Ep (n:Nat) (x:Str):Prop where
 ok:IV x=true
 le:x.length<=n
theorem xN{x:Str}:IV x=true↔∀c∈x.cps.toList,c < 0x110000:=by
 unfold IV;rw [<-Array.all_toList,K7];simp
theorem uu(x y:Str):(x++y).cps=x.cps++y.cps:=rfl
theorem qh(x y:Str):(x++y).length=x.length+y.length:=by
 show(x.cps++y.cps).size=_;rw [Array.size_append];rfl
def dQ:Str:="abcdefghijklmnopqrstuvwxyz"
theorem Er:dQ.cps.toList.length=26:=OF
theorem xO:∀c∈dQ.cps.toList,c < 0x110000:=OF
theorem rz{j:Int}(h0:0<=j)(h1:j < 26):∃c,atI dQ.cps.toList j=some c/\dQ.cps.toList[j.toNat]?=some c/\c < 0x110000:=by
 obtain⟨k,rfl⟩:=Jp h0;have hk:k < dQ.cps.toList.length:=by rw [Er];omega
 refine⟨dQ.cps.toList[k],gX (by simp [hk]),by simp [hk],xO _ (KY hk)⟩
def iC(j:Int):Nat:=(dQ.cps.toList[j.toNat]?).getD 0
theorem xP{j:Int}(h0:0<=j)(h1:j < 26):atI dQ.cps.toList j=some (iC j)/\iC j < 0x110000:=by
 obtain⟨c,e1,e2,e3⟩:=rz h0 h1;have:iC j=c:=by unfold iC;rw [e2];rfl
 rw [this];exact⟨e1,e3⟩
structure cu (n:Nat) (d:OM):Prop where
 can:d.canLay0=true
 dep:d.depth<=n
theorem cu.shp{n:Nat}{d:OM}(h:cu n d)(hn:n<=64):Ko d=true:=by
 unfold Ko;rw [h.can,decide_eq_true (Jx h.dep hn)];rfl
theorem cu.mono{n m:Nat}{d:OM}(h:cu n d)(hn:n<=m):cu m d:=⟨h.can,Jx h.dep hn⟩
theorem xQ{x:Str}(h:IV x=true):cu 1 (.str x):=⟨by simpa [Jk] using h,by simp [Lb]⟩
theorem xR{i:Int}:cu 1 (.int i):=⟨by simp [Jk],by simp [Lb]⟩
theorem rA{n:Nat}:∀{ds:List OM},(∀d∈ds,cu n d)->KR ds=true/\LK ds<=n
 | [],_=>⟨by simp [KR],by simp [LK]⟩
 | d::r,h=>by
  obtain⟨a,b⟩:=rA (ds:=r) λe he=>h e (by simp [he]);have c:=h d OL;refine⟨by rw [KR,c.can,a];rfl,?_⟩;rw [LK];exact Nat.max_le.mpr ⟨c.dep,b⟩
theorem oi{n:Nat}{ds:List OM}(h:∀d∈ds,cu n d):cu (n+1) (.tuple ds):=by
 obtain⟨a,b⟩:=rA h;refine⟨by simpa [Jk] using a,?_⟩;rw [Lb];omega
def PU(X:Cx)(e:OR)(te:TE):Prop:=∀(i:Nat)(x:Str)(pos' spos:Pos)(hN:X.N.Nodup)(hxi:X.N[i]?=some x)(hx:mv X.env.scope x)(hsw:Pg e (some (.Name x pos')) spos.line X.env=pure true)
 (hfn:X.fn x=true\/X.env.scope.names.lookup x=some .local),PS X (.Assign [.Name x pos'] e spos) (oH te (lX i))
theorem PU.imp{X:Cx}{e:OR}{t u:TE}(h:PU X e t)(i:∀σ H Q,u σ H Q->t σ H Q):PU X e u:=λi' x p1 p2 hN hxi hx hsw hfn=>(h i' x p1 p2 hN hxi hx hsw hfn).imp λD σ H z=>i σ H _ z
section
variable {X:Cx} {H0:Hp} {O0:Ex}
section
variable {tg iter elt:OR} {ifs:List OR} {scope:Pc} {N':List Str} {k:Nat} {fr:List Nat} {g:TG} {dg:DG} {t:DT} {ta:DA} {tc:DB} {te:DT} {pos p ps:Pos}
theorem xS{wi:TI}{tc:TT}{te:TE}(hc:X.calm=true)(S:bz X.env.scope X.N N' k fr scope)(hi:PI X tg iter wi)
 (hg:∀fp C s H,PG (bt X scope N' fp C s H) tg g)(hf:∀fp C s H,dY (bt X scope N' fp C s H) ifs tc)(he:∀fp C s H,PE (bt X scope N' fp C s H) elt te)
 (hs:∀x,O7 iter X.env x=pure x:=by intro _;rfl):PU X (.ListComp elt [⟨tg,iter,ifs,0⟩] scope pos) (ni wi g tc te k fr):=
 λ_ _ _ _ hN hxi hx hsw hfn=>C7 hN hxi hx hc S hi hg hf he hsw hs hfn
theorem xT(hc:X.calm=true)(S:bz X.env.scope X.N N' k fr scope)(hi:DF X H0 O0 iter t)(gd:GD X.K g dg)(hk:nq g k)(hfr:fr.Nodup)
 (hg:∀fp C s H,PG (bt X scope N' fp C s H) tg g)(hf:∀fp C s H,dY (bt X scope N' fp C s H) ifs (bK X.K H0 O0 tc))(he:∀fp C s H,PE (bt X scope N' fp C s H) elt (up X.K H0 O0 te))
 (hs:∀x,O7 iter X.env x=pure x:=by intro _;rfl):PU X (.ListComp elt [⟨tg,iter,ifs,0⟩] scope pos) (pY X.K H0 O0 (dO t dg tc te k fr)):=
 (xS hc S (qF hi) hg hf he hs).imp λσ H Q uu54=>by obtain⟨O,δ,Qd,w,q,kk⟩:=uu54;exact⟨O,δ,_,w,q,λd v H1 uu55 s1 r1=>by
  obtain⟨xs,e,hz,q1⟩:=uu55;subst e;obtain⟨a,vs,rfl,hq,rr⟩:=r1.lst;refine⟨a,rfl,⟨_,hq⟩,λD hD=>p8 (cb.list hq) gd hfr (λv _ H' R h=>hk fr σ v H' R h) (λ_ _ _ z=>z) (λ_ _ _ z=>z) (λD H' hD s' o e=>s' _ _ e (cw e hD)) rr (w.mono s1) (by rw [rr.length];exact hz) q1 (λds us p H' z s' hp r'=>kk ds us p H' z (s1.trans s') hp r') D hD⟩⟩
end
theorem rB{i:Nat}{x:Str}{e:OR}{t:DA}{pos pos':Pos}(hN:X.N.Nodup)(hi:X.N[i]?=some x)(hx:mv X.env.scope x)(he:PU X e (pY X.K H0 O0 t))(hs:Pg e (some (.Name x pos')) pos.line X.env=pure true:=by rfl)(hf:X.fn x=true\/X.env.scope.names.lookup x=some .local:=by first | exact .inl rfl | exact .inr rfl | assumption):
 PS X (.Assign [.Name x pos'] e pos) (aT X.K H0 O0 (d4 i (dL t))):=
 (he _ _ _ _ hN hi hx hs hf).imp λD σ H ⟨O,δ,E,w,q,k1,k2,k3,k4⟩=>⟨O,δ,_,w,q,λds vs p H1 q1 s1 hp r1=>
  k1 O _ _ _ q1 ((w.mono (s1.trans (ah.new hp))).set (.lst (.inl bg) (oN w s1 hp) (r1.mono (ah.new hp)))) (.same (s1.trans (ah.new hp)))⟩
end
def Es(z:Str):List OM:=z.cps.toList.map λc=>.str ⟨#[c]⟩
section
variable {X:Cx} {H0:Hp} {O0:Ex}
def iD(t:DT)(g:DG)(tc:DB)(te:DT)(k:Nat)(fr:List Nat):DA:=λδ Q=>t δ λd=>∃z,d= .str z/\z.length<=OS/\ma g tc te (bH k fr δ) (Es z) Q
def iE(ta:DA)(g:DG)(tc:DB)(te:DT)(k:Nat)(fr:List Nat):DA:=λδ Q=>ta δ λds=>∃i j:Int,ds=[.int i,.int j]/\-(2 ^ 62)<=i/\j - i < OS/\i < 2 ^ 62/\-(2 ^ 62)<=j/\j < 2 ^ 62/\ma g tc te (bH k fr δ) (g9 i (j - i).toNat) Q
def uw(K:Iq)(neg:Bool):R2:=λx y H Q=>∃O dx ds dy,Sh K H O x dx/\Sh K H O y dy/\(dy= .list ds\/dy= .tuple ds)/\bL dx/\KR ds=true/\Q (.bl (if neg then !(ds.any λd=>IL d dx) else ds.any λd=>IL d dx)) H
theorem rC{A:O5}{k:Nat}{xs:List OM}{d:OM}(hd:bL d)(hr:aK k A):A.units+1+min (LK xs) d.depth < PZ:=by
 have:=SeqAt.depth_of_shaped hd;have h1:min (LK xs) d.depth<=d.depth:=NW _ _;have:=hr.un;omega
theorem Et{k:Nat}(hr:aK k X.A):bx X (Pa .In) (uw X.K false):=by
 intro Qm s σ H x y v u Q I rx ry h;obtain⟨O,dx,ds,dy,hx,hy,e,sx,sy,q⟩:=h;obtain⟨as,ra⟩:=l6 I hx.all (JR sx) rx;rcases e with e | e <;> subst e
 ·obtain⟨bs,rb⟩:=l6 I hy.all (by simpa [Jk] using sy) ry;exact SeqAt.in_list_reads rb ra sy (JR sx) (rC sx hr) (bh I q rfl)
 ·obtain⟨bs,rb⟩:=l6 I hy.all (by simpa [Jk] using sy) ry;exact SeqAt.in_tuple_reads rb ra sy (JR sx) (rC sx hr) (bh I q rfl)
theorem Eu{k:Nat}(hr:aK k X.A):bx X (Pa .NotIn) (uw X.K true):=by
 intro Qm s σ H x y v u Q I rx ry h;obtain⟨O,dx,ds,dy,hx,hy,e,sx,sy,q⟩:=h;obtain⟨as,ra⟩:=l6 I hx.all (JR sx) rx;rcases e with e | e <;> subst e
 ·obtain⟨bs,rb⟩:=l6 I hy.all (by simpa [Jk] using sy) ry;exact SeqAt.notIn_list_reads rb ra sy (JR sx) (rC sx hr) (bh I q rfl)
 ·obtain⟨bs,rb⟩:=l6 I hy.all (by simpa [Jk] using sy) ry;exact SeqAt.notIn_tuple_reads rb ra sy (JR sx) (rC sx hr) (bh I q rfl)
def fS(neg:Bool):OM->OM->(OM->Prop)->Prop:=λx y Q=>∃ds,(y= .list ds\/y= .tuple ds)/\bL x/\KR ds=true/\Q (.bool (if neg then !(ds.any λd=>IL d x) else ds.any λd=>IL d x))
theorem xU{K:Iq}{neg:Bool}:bU K (uw K neg) (fS neg):=λH O x y dx dy Qd R _ hx hy uu57 k=>by obtain⟨ds,e,a,b,q⟩:=uu57;exact⟨O,dx,ds,dy,hx,hy,e,a,b,k _ _ H q (ah.refl _) (.bl _)⟩
def iF:List OM->(OM->Prop)->Prop:=λds Q=>∃z:Str,ds=[.str z]/\z.length<=OS/\Q (.int z.length)
def iG:OM->OM->(OM->Prop)->Prop:=λx y Q=>∃i j:Str,x= .str i/\y= .str j/\Q (.bool (decide (i.cps.toList < j.cps.toList)))
def iH:OM->OM->(OM->Prop)->Prop:=λx y Q=>∃i j:Str,x= .str i/\y= .str j/\Q (.bool (!(Builtin.Str.occurrences j i 0 j.length 1).isEmpty))
theorem Ew{prog:OZ}{w:O4}{A:O5}{E:ON->OP->Prop}{s:OP}{t sl:OO}{items:Array ON}{vl vu:ON}{lo hi:Option Int}{Q:ON->OP->Prop}(ht:IsTup s.heap t items)(hs:s.heap.IsSliceOf sl vl vu .none)(pl:IsPart vl lo)(pu:IsPart vu hi)
 (hw:HT.sIx items.size 0 lo=0/\HT.sIx items.size items.size hi=items.size)(h:Q (.ref t) s):OV (OU prog w) A (PM (.ref t) (.ref sl)) Q E s:=by
 obtain⟨os,hos,hcs,hds⟩:=id hs;have hTs:s.TypeIs (.ref sl) "slice":=⟨os,hos,hcs⟩;unfold PM
 try with_reducible refine Py ?_
 first | refine OQ (OT ?_) | skip
 refine OQ (Qh ht.typeIs OG ?_);refine OQ (P0 (name:=Ip "__getitem__") ht.typeIs Ka
  (P5 Ka ht.typeIs Mb ?_ (Mh _ _)))
 show OV _ _ (LD (.ref t) >>=_) _ _ s;refine OQ (tupleItemsOf_ ht ?_);refine OQ (wpAny_typeOf hTs ?_);rw [OJ OG];refine OQ (HT.sliceApplied_gen hs pl pu ?_);show OV _ _ (if (((HT.sIx items.size 0 lo:Nat):Int)==0 && (1:Int)==1 && (HT.sIx items.size items.size hi - HT.sIx items.size 0 lo)==items.size)=true then _ else _) _ _ s;rw [OJ (by rw [hw.1,hw.2];simp)];unfold Builtin.Tuple.tupleIsExact;refine OQ (OQ (wpAny_typeOf ht.typeIs (OT ?_)));rw [OJ OG];exact OQ (wpAny_rule (OT ⟨_,rfl,OT h⟩))
def Ey(K:Iq):V->Option Int->Option Int->Hp->VK->Prop:=λx lo hi H Q=>∃a xs,x= .ref a/\aZ K H a xs/\
 ((HT.sIx xs.length 0 lo=0/\HT.sIx xs.length xs.length hi=xs.length)->Q x H)/\(¬(HT.sIx xs.length 0 lo=0/\HT.sIx xs.length xs.length hi=xs.length)->∀p,H p=none->Q (.ref p) (ak H p (.tup (mT xs lo hi))))
theorem Ez:qN X (Ey X.K):=by
 intro Qm s σ H x v vl vu lo hi sl Q I rx hs pl pu h;obtain⟨a,xs,rfl,hx,q1,q2⟩:=h;by_cases hw:HT.sIx xs.length 0 lo=0/\HT.sIx xs.length xs.length hi=xs.length
 ·cases rx;obtain⟨its,r,ht,hz⟩:=I.tuple hx;have hlen:its.toArray.size=xs.length:=by rw [II];exact r.length.symm
  refine⟨"tuple",_,Ka.lookup,ht.typeIs,?_⟩;exact Ew ht hs pl pu (by rw [hlen];exact hw) ⟨.ref a,H,I,rfl,q1 hw⟩
 ·exact CK Qm s σ H _ v vl vu lo hi sl Q I rx hs pl pu ⟨a,xs,rfl,hx,hw,q2 hw⟩
theorem EA{xs:List OM}{l u:Option Int}(h:HT.sIx xs.length 0 l=0/\HT.sIx xs.length xs.length u=xs.length):bI xs l u=xs:=by
 unfold bI;rw [h.1,h.2];simp
def fT(t:DT)(tl th:DO):DT:=λδ Q=>t δ λd=>tl δ λl=>th δ λu=>∃xs,d= .tuple xs/\Q (.tuple (bI xs l u))
theorem EB{e:OR}{lo hi:Option OR}{t:DT}{tl th:DO}{pos p2:Pos}(h:DF X H0 O0 e t)(hl:PO X lo (mV X.K H0 O0 tl))(hu:PO X hi (mV X.K H0 O0 th)):DE X H0 O0 (.Subscript e (.Slice lo hi none p2) pos) (fT t tl th):=
 (tR Ez h hl hu).imp λσ H Q ⟨O,δ,Qd,w,q,k⟩=>⟨O,δ,_,w,q,λd v H1 q1 s1 r1=>⟨O,δ,_,w.mono s1,q1,λl H2 q2 s2=>⟨O,δ,_,w.mono (s1.trans s2),q2,λu H3 uu59 s3=>by
  obtain⟨xs,e,q3⟩:=uu59;subst e;have r3:=r1.mono (s2.trans s3);have r4:=r3;obtain⟨a,vs,rfl,h1,d1⟩:=r4.tup;refine⟨a,vs,rfl,h1,λhw=>?_,λ_ p hp=>k _ _ _ q3 (s1.trans (s2.trans (s3.trans (ah.new hp)))) (.tup (.inl bg) (oN w (s1.trans (s2.trans s3)) hp) ((d1.cut l u).mono (ah.new hp)))⟩;rw [d1.length] at hw;rw [EA hw] at q3;cases r3 with
  | dt r3=>exact k _ _ _ q3 (s1.trans (s2.trans s3)) r3⟩⟩⟩
def EC(a b:Str):Bool:=decide (a.cps.toList<=b.cps.toList)
def rD(l:List Str):List Str:=l.mergeSort EC
theorem ED{a b:Str}(h:a.cps.toList=b.cps.toList):a=b:=by
 cases a;cases b;congr 1;exact Array.ext' h
def iI(t:DA):DA:=λδ Q=>t δ λds=>∃ss:List Str,ds=[.list (ss.map .str)]/\ss.length < 64/\Q ((rD ss).map .str)
end
end L2
namespace PySem.SeqAt
open AutoSeq1 (wpAny_loadPart')
open MeetsSeq
theorem xV(l:OO)(es:Array Qc)(n:Nat)(dd:Option OO)(sl:Array (Option ON))(b:Str)(u:Tok):
 Meets (Builtin.«dict.__eq__» ⟨[.ref l,.str b u],[]⟩) (λ_ R s=>s.heap.get? l=some {cls:= .type "dict",dict:=dd,data:= .dict es n,slots:=sl}/\R (.ok (.ret .notImplemented)) s):=
 .of_wp λprog w A R s h=>by obtain⟨hp,g,d,tk,os⟩:=s;obtain⟨hl,h⟩:=h;have f1:=F.sub_str_dict;wp_walk using Pl hl;exact⟨_,rfl,h⟩
theorem xW(b:Str)(u:Tok)(l:OO)(c:ON)(es:Array Qc)(n:Nat)(dd:Option OO)(sl:Array (Option ON)):
 Meets (Builtin.«str.__eq__» ⟨[.str b u,.ref l],[]⟩) (λ_ R s=>s.heap.get? l=some {cls:=c,dict:=dd,data:= .dict es n,slots:=sl}/\R (.ok (.ret .notImplemented)) s):=
 .of_wp λprog w A R s h=>by obtain⟨hp,g,d,tk,os⟩:=s;obtain⟨hl,h⟩:=h;wp_walk using Pl hl,wpAny_load hl;exact⟨_,rfl,h⟩
section
variable {A:O5} {s:OP}
theorem RcAt.dict_str{l:OO}{es:Array Qc}{n:Nat}{o:Obj}(b:Str)(u:Tok)(ho:s.heap.get? l=some o)(hc:o.cls= .type "dict")(hd:o.data= .dict es n)(hu:A.units < PZ):RcAt A s (.ref l) (.str b u) false:=λprog w E Q h=>by
 obtain⟨cls,dd,data,sl⟩:=o;simp only at hc hd;subst hc hd;exact rc_eq_decline_or (k:=false) ⟨_,ho,rfl⟩ (P9 s b u) OG F.sub_str_dict F.slot_dict_eq F.slot_str_eq_refl
  (λ_ hq=>call_meets F.slot_dict_eq ⟨_,ho,rfl⟩ F.entry_dict_eq (F.args_dict_eq_2 _ _) (xV l es n dd sl b u) ⟨ho,hq⟩)
  (λ_ hq=>call_meets F.slot_str_eq_refl (P9 s b u) F.entry_str_eq (F.args_str_eq_2 _ _) (xW b u l (.type "dict") es n dd sl) ⟨ho,hq⟩)
  (λ_ hq=>wpAny_of_eq (rfl:isSame (.ref l) (.str b u)=pure false) hq) (.inr hu) h
theorem RcAt.str_dict{l:OO}{es:Array Qc}{n:Nat}{o:Obj}(b:Str)(u:Tok)(ho:s.heap.get? l=some o)(hc:o.cls= .type "dict")(hd:o.data= .dict es n)(hu:A.units < PZ):RcAt A s (.str b u) (.ref l) false:=λprog w E Q h=>by
 obtain⟨cls,dd,data,sl⟩:=o;simp only at hc hd;subst hc hd;exact rc_eq_decline_or (k:=false) (P9 s b u) ⟨_,ho,rfl⟩ OG F.sub_dict_str F.slot_str_eq F.slot_dict_eq_refl
  (λ_ hq=>call_meets F.slot_str_eq (P9 s b u) F.entry_str_eq (F.args_str_eq_2 _ _) (xW b u l (.type "dict") es n dd sl) ⟨ho,hq⟩)
  (λ_ hq=>call_meets F.slot_dict_eq_refl ⟨_,ho,rfl⟩ F.entry_dict_eq (F.args_dict_eq_2 _ _) (xV l es n dd sl b u) ⟨ho,hq⟩)
  (λ_ hq=>wpAny_of_eq (rfl:isSame (.str b u) (.ref l)=pure false) hq) (.inr hu) h
end
end PySem.SeqAt
namespace L2
open PySem PySem.Spec PyProof.Rows PySem.W
section
variable {X:Cx} {Qm:List (OO×Obj)} {σ:St} {H:Hp} {s:OP}
def cg:OM->Bool
 | .dict [(.none,_)]=>false
 | _=>true
theorem EF(I:aa X Qm σ H s){O:Ex}{v:V}{d:OM}{u:ON}(h:Dt X.K H O v d)(ht:cg d=true)(r:ax v u)(y:Str)(t:Tok)(hu:X.A.units < PZ):SeqAt.RcAt X.A s u (.str y t) (IL d (.str y)):=by
 cases h with
 | non=>cases (show u=Ln from r);simpa [IL] using SeqAt.RcAt.none_str y t
 | bl b=>cases (show u=Lh b from r);simpa [IL] using SeqAt.RcAt.bool_str b y t
 | int i=>obtain⟨k,e⟩:=(show ∃t,u=Lm i t from r);cases e;simpa [IL] using SeqAt.RcAt.int_str i k y t
 | str x=>obtain⟨k,e⟩:=(show ∃t,u=La x t from r);cases e;simpa [IL] using ND x k y t
 | @tup a xs ds h n rr=>
  cases (show u=Jb a from r);obtain⟨its,rv,p,_⟩:=I.tuple (.inl h);simpa [IL] using Nh y t (show s.heap.IsTuple a its.toArray from p) hu
 | @tupK a xs ds h rr=>
  cases (show u=Jb a from r);obtain⟨its,rv,p,_⟩:=I.tuple h.of0;simpa [IL] using Nh y t (show s.heap.IsTuple a its.toArray from p) hu
 | @lst a xs ds h n rr=>
  cases (show u=Jb a from r);obtain⟨its,rv,p,_⟩:=I.list (.inl h);simpa [IL] using SeqAt.RcAt.list_str y t p.isList hu
 | pack h n=>exact absurd ht (by simp [cg])
 | purse h n=>exact absurd ht (by simp [cg])
 | scr h r=>exact absurd ht (by simp [cg])
 | obj h e n r=>exact absurd ht (by simp [cg])
 | @dct0 a h n=>
  cases (show u=Jb a from r);obtain⟨_,_,_,_,o,es,ep,e,c,dd,_⟩:=(show bF X.prog X.w H s.heap a (.dK []) from I.hok a _ h);simpa [IL] using SeqAt.RcAt.dict_str y t e c.1 dd hu
 | @dic a ob kv ks kp ds h e1 e2 n rr=>
  cases (show u=Jb a from r);obtain⟨_,_,_,_,o,es,ep,e,c,dd,_⟩:=(show bF X.prog X.w H s.heap a (.dK kv) from(I.hok a _ h).2);simpa [IL] using SeqAt.RcAt.dict_str y t e c.1 dd hu
end
section
variable {X:Cx} {H0:Hp} {O0:Ex}
def xX(K:Iq):R2:=λx y H Q=>∃O dx z,Dt K H O x dx/\cg dx=true/\y= .str z/\Q (.bl (IL dx (.str z))) H
theorem fU{k:Nat}(hr:aK k X.A):bx X (Pa .Eq) (xX X.K):=by
 intro Qm s σ H x y v u Q I rx ry h;obtain⟨O,dx,z,hx,ht,rfl,q⟩:=h;obtain⟨t,rfl⟩:=ry;have hc:Pa .Eq v (.str z t)=richCompare .Eq v (.str z t):=rfl;rw [hc];exact EF I hx ht rx z t hr.units0 X.prog X.w X.xe _ (bh I q rfl)
def cX:OM->OM->(OM->Prop)->Prop:=λx y Q=>∃z,y= .str z/\cg x=true/\Q (.bool (IL x (.str z)))
theorem fV{K:Iq}:bU K (xX K) cX:=λH O x y dx dy Qd R _ hx hy uu60 k=>by
 obtain⟨z,e,ht,q⟩:=uu60;subst e;cases hy.str;exact⟨_,dx,z,hx.all,ht,rfl,k _ _ H q (ah.refl _) (.bl _)⟩
def iJ:OM->OM->(OM->Prop)->Prop:=λx y Q=>∃zs:List Str,y= .tuple (zs.map .str)/\cg x=true/\Q (.bool (zs.any λz=>IL (.str z) x))
end
theorem iK{z:Int}{Q:OM->Prop}:D9 [ue,.int z] Q↔(0 < z/\z<=1000000/\∀i:Int,0<=i->i < z->Q (.int i)):=by
 constructor
 ·rintro⟨z',e,a,b,c⟩;simp only [Jn,Jz,and_true,true_and] at e;subst e;exact⟨a,b,c⟩
 ·rintro⟨a,b,c⟩;exact⟨z,rfl,a,b,c⟩
def rE:OM->Bool | .str _=>true | _=>false
def qi:OM->Bool | .int _=>true | .bool _=>true | _=>false
def qj:OM->Bool | .bool _=>true | _=>false
def oT:OM->Bool | .tuple _=>true | _=>false
theorem EG{K:Iq}(d:OM):kitOne K (.type (oQ d)) (.type "str")=some (rE d):=by cases d <;> rfl
theorem EH{K:Iq}(d:OM):kitOne K (.type (oQ d)) (.type "int")=some (qi d):=by cases d <;> rfl
theorem EI{K:Iq}(d:OM):kitOne K (.type (oQ d)) (.type "bool")=some (qj d):=by cases d <;> rfl
theorem EJ{K:Iq}(d:OM):kitOne K (.type (oQ d)) (.type "tuple")=some (oT d):=by cases d <;> rfl
structure Nm (z:Str):Prop where
 lo:1<=z.length
 hi:z.length<=8
 ab:∀c∈z.cps.toList,c∈dQ.cps.toList
theorem Nm.ok{z:Str}(h:Nm z):IV z=true:=xN.mpr λc hc=>xO c (h.ab c hc)
theorem EK{g:DG}{te:DT}{δ0:Dl}{xs:List OM}{Q:List OM->Prop}(f:OM->OM)
 (h:∀x∈xs,∀R:OM->Prop,R (f x)->g x δ0 λδ2=>te δ2 R)(q:Q (xs.map f)):ma g dA te δ0 xs Q:=by
 refine⟨λi acc=>acc=(xs.take i).map f,rfl,?_,?_⟩
 ·rintro i x acc hx rfl;have:=h x (Jj hx) (λy=>(xs.take i).map f++[y]=(xs.take (i+1)).map f) (by rw [LW,hx];simp);simpa [dA] using this
 ·rintro acc rfl;rw [Kl (IB _)];exact q
theorem EL{g:DG}{te:DT}{δ0:Dl}{xs:List OM}{p:Bool->Prop}{gg:List Bool->Bool}(f:OM->Bool)
 (h:∀x∈xs,∀R:OM->Prop,R (.bool (f x))->g x δ0 λδ2=>te δ2 R)(q:p (gg (xs.map f))):ma g dA te δ0 xs λds=>∃bs:List Bool,ds=bs.map Mq/\p (gg bs):=
 EK (λx=>.bool (f x)) h ⟨xs.map f,by rw [Kx];rfl,q⟩
theorem iL{a:Str}{P:List Str->Prop}:(∃zs,[ID a]=JG ID zs/\P zs)↔P [a]:=by
 refine⟨λ⟨zs,e,h⟩=>?_,λh=>⟨_,rfl,h⟩⟩
 match zs,e with
 | [x],e=>simp at e;rw [e];exact h
theorem iM{a b:Str}{P:List Str->Prop}:(∃zs,[ID a,ID b]=JG ID zs/\P zs)↔P [a,b]:=by
 refine⟨λ⟨zs,e,h⟩=>?_,λh=>⟨_,rfl,h⟩⟩
 match zs,e with
 | [x,y],e=>simp at e;rw [e.1,e.2];exact h
theorem iN{a b c:Str}{P:List Str->Prop}:(∃zs,[ID a,ID b,ID c]=JG ID zs/\P zs)↔P [a,b,c]:=by
 refine⟨λ⟨zs,e,h⟩=>?_,λh=>⟨_,rfl,h⟩⟩
 match zs,e with
 | [x,y,z],e=>simp at e;rw [e.1,e.2.1,e.2.2];exact h
theorem iO{x:Str}:cg (.str x)=true:=rfl
theorem iP{x:Int}:cg (.int x)=true:=rfl
theorem iQ{x:Bool}:cg (.bool x)=true:=rfl
theorem iR{x:List OM}:cg (.tuple x)=true:=rfl
theorem iS{x:List OM}:cg (.list x)=true:=rfl
theorem xY(x:Str):x.length=x.cps.toList.length:=by rw [Jc];rfl
theorem Nm.of{z:Str}{l:List Nat}(e:z.cps.toList=l)(lo:1<=l.length)(hi:l.length<=8)(ab:∀c∈l,c∈dQ.cps.toList):Nm z:=
 ⟨by rw [xY,e];exact lo,by rw [xY,e];exact hi,by rw [e];exact ab⟩
def units:List Str:=["days","months","years"]
theorem qm{n:Nat}:∀d∈([]:List OM),cu n d:=λd hd=>by simp at hd
theorem cY{n:Nat}{d:OM}{r:List OM}(h:cu n d)(hr:∀e∈r,cu n e):∀e∈d::r,cu n e:=λe he=>by
 rcases IP.mp he with z | z
 ·rw [z];exact h
 ·exact hr e z
theorem fW{n:Nat}{x:Str}(h:IV x=true)(hn:1<=n:=by decide):cu n (.str x):=(xQ h).mono hn
theorem ux{n:Nat}{x:Int}(hn:1<=n:=by decide):cu n (.int x):=xR.mono hn
theorem xZ{n:Nat}{ms:List Str}(h:∀m∈ms,IV m=true)(hn:1<=n:=by decide):∀d∈ms.map ID,cu n d:=λd hd=>by
 obtain⟨m,hm,rfl⟩:=Jy.mp hd;exact(xQ (h m hm)).mono hn
theorem iT{a:OM}{l:List OM}:bI (a::l) (some 1) none=l:=by
 rw [oR OG (by simp only [IE];omega)];rfl
theorem iU{a b:OM}{l:List OM}:bI (a::b::l) (some 2) none=l:=by
 rw [oR OG (by simp only [IE];omega)];rfl
theorem iV{a b c:OM}{l:List OM}:bI (a::b::c::l) (some 3) none=l:=by
 rw [oR OG (by simp only [IE];omega)];rfl
theorem iW{a b c d:OM}{l:List OM}:bI (a::b::c::d::l) (some 4) none=l:=by
 rw [oR OG (by simp only [IE];omega)];rfl
theorem iX{a:OM}{l:List OM}:bI (a::l) none (some 1)=[a]:=by
 rw [nt OG (by simp only [IE];omega)];rfl
theorem iY{a b:OM}{l:List OM}:bI (a::b::l) none (some 2)=[a,b]:=by
 rw [nt OG (by simp only [IE];omega)];rfl
theorem iZ{a b c:OM}{l:List OM}:bI (a::b::c::l) none (some 3)=[a,b,c]:=by
 rw [nt OG (by simp only [IE];omega)];rfl
theorem i3{a b c d:OM}{l:List OM}:bI (a::b::c::d::l) none (some 4)=[a,b,c,d]:=by
 rw [nt OG (by simp only [IE];omega)];rfl
theorem i4{a b c:OM}{l:List OM}:bI (a::b::c::l) (some 1) (some 3)=[b,c]:=by
 unfold bI;rw [ro OG (by simp only [IE];omega),ro OG (by simp only [IE];omega)];rfl
end L2
namespace PySem
open Builtin
open AutoSeq1 (wpAny_loadPart')
end PySem
namespace L2
open PySem PySem.Spec PyProof.Rows PySem.W
section
variable {X:Cx} {H0:Hp} {O0:Ex}
def i5:OM->OM->(OM->Prop)->Prop:=λx y Q=>∃xs,x= .tuple xs/\y= .int 2/\xs≠[]/\xs.length<=1000/\Q (.tuple (xs++xs))
def fX:DT:=λ_ Q=>Q (.dict [])
theorem EM{pos:Pos}:DE X H0 O0 (.Dict [] [] pos) fX:=Ei.imp λσ H Q uu64=>by obtain⟨O,δ,Qd,w,q,k⟩:=uu64;exact λp hp=>k _ _ _ q (ah.new hp) (.dct0 bg (oN w (ah.refl _) hp))
def fY(t:DT):DT:=λδ Q=>t δ λd=>∃i,d= .int i/\Q (.int (-i))
theorem x5{e:OR}{t:DT}{pos:Pos}(h:DE X H0 O0 e t):DE X H0 O0 (.UnaryOp .USub e pos) (fY t):=
 (vR vU h).imp λσ H Q uu65=>by obtain⟨O,δ,Qd,w,q,k⟩:=uu65;exact⟨O,δ,_,w,q,λd v H1 uu66 s1 r1=>by obtain⟨i,e,q1⟩:=uu66;subst e;cases r1;exact⟨i,rfl,k _ _ H1 q1 s1 (.int _)⟩⟩
def i6(t:DT):DT:=λδ Q=>t δ λd=>∃z:Str,d= .str z/\z.length<=1000000/\Q (.str (Txt.upper z))
end
theorem EN(n:Nat):KH none none (-1) (n:Int)=((n:Int) - 1,-1):=by
 unfold KH;rfl
theorem EO(n:Nat):JZ ((n:Int) - 1) (-1) (-1)=n:=by
 unfold JZ;rw [OI OG];split
 ·rw [show(- -1:Int)=1 by decide,Om];omega
 ·omega
theorem ER(xs:Array ON):((JP xs.size).filterMap λ(m:Nat)=>xs[((xs.size:Int) - 1+(m:Int)*(-1)).toNat]?).toArray=xs.toList.reverse.toArray:=by
 have e:(JP xs.size).filterMap (λ(m:Nat)=>xs[((xs.size:Int) - 1+(m:Int)*(-1)).toNat]?)=((JP xs.size).map λk=>xs.size - 1 - k).filterMap (xs[·]?):=by
  have e2:((JP xs.size).map λk=>xs.size - 1 - k)=(JP xs.size).map λ(m:Nat)=>((xs.size:Int) - 1+(m:Int)*(-1)).toNat:=
   Nl λm hm=>by have:=Ly.mp hm;omega
  rw [e2,LQ];rfl
 have k:=krv_pick xs;unfold slicePick at k;rw [krv_bounds] at k;have k2:((sliceRange ((xs.size:Int) - 1) (-1) (-1)).filterMap (xs[·]?)).toArray=xs.toList.reverse.toArray:=k;rw [krv_sliceRange] at k2;rw [e];exact k2
theorem ES{prog:OZ}{w:O4}{A:O5}{E:ON->OP->Prop}{s:OP}{sl:OO}{tk:Tok}{n:Nat}{Q:Int×Int×Nat->OP->Prop}(hs:s.heap.IsSliceOf sl .none .none (.int (-1) tk))
 (h:Q ((n:Int) - 1,-1,n) s):OV (OU prog w) A (Lf (.ref sl) (pure (n:Int))) Q E s:=by
 obtain⟨os,hos,hcs,hds⟩:=id hs;unfold Lf MF;refine OQ (OQ (P1 hos hds (x:= .none) rfl (OQ (P1 hos hds (x:= .none) rfl (OQ (P1 hos hds (x:= .int (-1) tk) rfl (OT ?_)))))));refine OQ (slicePart_int ?_);show OV _ _ (if ((-1:Int)==0)=true then _ else _) _ _ s;rw [OI OG];refine OQ (Qa (OQ (Qa (OQ (OT ?_)))));show OV _ _ (match KH none none (-1) (n:Int) with | (lo,hi)=>pure (lo,(-1:Int),JZ lo hi (-1))) _ _ s;rw [EN];show OV _ _ (pure ((n:Int) - 1,(-1:Int),JZ ((n:Int) - 1) (-1) (-1))) _ _ s;rw [EO];exact OT h
theorem ET{prog:OZ}{w:O4}{A:O5}{E:ON->OP->Prop}{s:OP}{t sl:OO}{items:Array ON}{tk:Tok}{Q:ON->OP->Prop}(ht:IsTup s.heap t items)(hs:s.heap.IsSliceOf sl .none .none (.int (-1) tk))(hz:items.size<=OS)
 (h:Q (.ref s.heap.objs.size) {s with heap:=s.heap.push {cls:= .type "tuple",data:= .seq items.toList.reverse.toArray}}):OV (OU prog w) A (PM (.ref t) (.ref sl)) Q E s:=by
 have htake:sizeOk (.seq items.toList.reverse.toArray):=by
  show items.toList.reverse.toArray.size<=OS;rw [II,Nn,Jc];exact hz
 obtain⟨os,hos,hcs,hds⟩:=id hs;have hTs:s.TypeIs (.ref sl) "slice":=⟨os,hos,hcs⟩;unfold PM
 try with_reducible refine Py ?_
 first | refine OQ (OT ?_) | skip
 refine OQ (Qh ht.typeIs OG ?_);refine OQ (P0 (name:=Ip "__getitem__") ht.typeIs Ka
  (P5 Ka ht.typeIs Mb ?_ (Mh _ _)))
 show OV _ _ (LD (.ref t) >>=_) _ _ s;refine OQ (tupleItemsOf_ ht ?_);refine OQ (wpAny_typeOf hTs ?_);rw [OJ OG];refine OQ (ES hs ?_);show OV _ _ (if (((items.size:Int) - 1)==0 && (-1:Int)==1 && items.size==items.size)=true then _ else _) _ _ s;rw [OI OL,ER]
 first
  | exact OQ (m:=J4 _) (Pf (OT ⟨_,rfl,OT h⟩) htake)
  | exact OQ (m:=J4 _) (Pf (OQ (OT (OT ⟨_,rfl,OT h⟩))) htake)
  | exact OQ (OQ (m:=J4 _) (Pf (OT (OT ⟨_,rfl,OT h⟩)) htake))
  | exact OQ (OQ (m:=J4 _) (Pf (OT ⟨_,rfl,OT h⟩) htake))
section
variable {X:Cx} {H0:Hp} {O0:Ex}
theorem EU{e:OR}{te:TE}{pos p2 up cp:Pos}{j}(he:PE X e te):PE X (.Subscript e (.Slice none none (some (.UnaryOp .USub (.Constant (.int 1) j cp) up)) p2) pos) (λσ H Q=>te σ H λx H1=>∃a xs,x= .ref a/\aZ X.K H1 a xs/\∀p,H1 p=none->Q (.ref p) (ak H1 p (.tup xs.reverse))):=by
 intro Qm s σ H Q I h;refine Subscript_ (au (he Qm s σ H _ I h) λv s1 ⟨x,H1,I1,r1,q1⟩=>?_);obtain⟨a,xs,rfl,hq,q⟩:=q1;cases r1;refine wpAny_Slice ?_;rw [evalPart_none];refine OT (OT ?_);rw [evalPart_some];refine au (vR vU bB Qm s1 σ H1 (λx H2=>x= .int (-1)/\H2=H1) I1 ⟨1,rfl,rfl,rfl⟩) λvk s3 ⟨x3,H3,I3,r3,e3,e4⟩=>?_;subst e3 e4;obtain⟨tk,rfl⟩:=r3;have I4:aa X Qm σ H3 {s3 with heap:=s3.heap.push {cls:= .type "slice",data:= .fields #[.none,.none,.int (-1) tk]}}:=I3.kept (t':=s3.toks) λb ob q=>Iz _ q;show OV (OU X.prog X.w) X.A (subscriptTail e (.Slice none none (some (.UnaryOp .USub (.Constant (.int 1) j cp) up)) p2) (.ref a) (.ref s3.heap.objs.size)) (EP X Qm σ Q) X.xe {s3 with heap:=s3.heap.push {cls:= .type "slice",data:= .fields #[.none,.none,.int (-1) tk]}};obtain⟨its,r,ht,hz⟩:=I4.tuple hq;have hlen:=r.length;refine tail_any (ops:=[.ref a,.ref s3.heap.objs.size]) ht.typeIs Ka.lookup ?_ (by with_unfolding_all rfl);refine ET ht (Nz ..) (by rw [II];omega) ?_;refine⟨.ref _,_,I4.laid (t':=s3.toks) (o:= .tup xs.reverse) (λb ob q=>Iz _ q) (IB _) ?_,rfl,q _ (I4.hok.fresh (IB _))⟩;exact⟨by rw [Nn];exact hz,_,(show aB xs.reverse its.reverse from D8 r),MU _ _⟩
def fZ(t:DT):DT:=λδ Q=>t δ λd=>∃xs,d= .tuple xs/\Q (.tuple xs.reverse)
theorem EV{e:OR}{t:DT}{pos p2 up cp:Pos}{j}(h:DF X H0 O0 e t):DE X H0 O0 (.Subscript e (.Slice none none (some (.UnaryOp .USub (.Constant (.int 1) j cp) up)) p2) pos) (fZ t):=
 (EU h).imp λσ H Q uu69=>by obtain⟨O,δ,Qd,w,q,k⟩:=uu69;exact⟨O,δ,_,w,q,λd v H1 uu70 s1 r1=>by
  obtain⟨xs,e,q1⟩:=uu70;subst e;obtain⟨a,us,rfl,h1,d1⟩:=r1.tup;exact⟨a,us,rfl,h1,λp hp=>k _ _ _ q1 (s1.trans (ah.new hp)) (.tup (.inl bg) (oN w s1 hp) (d1.reverse.mono (ah.new hp)))⟩⟩
end
theorem i9{xs:List OM}:bI xs none (some (-1))=xs.dropLast:=by
 unfold bI;rw [qM];have e:HT.sIx xs.length xs.length (some (-1))=xs.length - 1:=by
  simp only [HT.sIx];rw [OJ OG];omega
 rw [e,Oa,Oq,List.dropLast_eq_take]
section
variable {x:Option OR} {n:Nat} {env:Env}
theorem EW{a b c}:Pg (.Tuple a b c) x n env=pure false:=rfl
theorem mf{a b c d}:Pg (.BinOp a b c d) x n env=pure false:=rfl
theorem rF{a b c d}:Pg (.Call a b c d) x n env=pure false:=rfl
theorem uz{a b c}:Pg (.Subscript a b c) x n env=pure false:=rfl
theorem EX{a b c}:Pg (.BoolOp a b c) x n env=pure false:=rfl
theorem EY{a b c}:Pg (.Dict a b c) x n env=pure false:=rfl
end
section
variable {X:Cx} {H0:Hp} {O0:Ex}
def ja(F:List OM->(List OM->Prop)->Prop)(t:DA):DA:=λδ Q=>t δ λds=>F ds Q
end
section
variable {X:Cx} {H0:Hp} {O0:Ex}
def jc(t:DA):DA:=λδ Q=>t δ λds=>ds.length<=1000/\Q (ds++ds)
end
theorem jd:(Ip "paper"==Ip "happens")=false:=OF
theorem je:(Ip "paper"==Ip "rule")=false:=OF
theorem jf:(Ip "paper"==Ip "end")=false:=OF
theorem jg:(Ip "paper"==Ip "hold")=false:=OF
theorem jh:(Ip "paper"==Ip "lift")=false:=OF
theorem ji:(Ip "paper"==Ip "leave")=false:=OF
theorem jj:(Ip "happens"==Ip "paper")=false:=OF
theorem jk:(Ip "happens"==Ip "rule")=false:=OF
theorem jl:(Ip "happens"==Ip "end")=false:=OF
theorem jm:(Ip "happens"==Ip "hold")=false:=OF
theorem jn:(Ip "happens"==Ip "lift")=false:=OF
theorem jo:(Ip "happens"==Ip "leave")=false:=OF
theorem jq:(Ip "rule"==Ip "paper")=false:=OF
theorem jr:(Ip "rule"==Ip "happens")=false:=OF
theorem jt:(Ip "rule"==Ip "end")=false:=OF
theorem ju:(Ip "rule"==Ip "hold")=false:=OF
theorem jv:(Ip "rule"==Ip "lift")=false:=OF
theorem jw:(Ip "rule"==Ip "leave")=false:=OF
theorem jx:(Ip "end"==Ip "paper")=false:=OF
theorem jy:(Ip "end"==Ip "happens")=false:=OF
theorem jz:(Ip "end"==Ip "rule")=false:=OF
theorem jA:(Ip "end"==Ip "hold")=false:=OF
theorem jB:(Ip "end"==Ip "lift")=false:=OF
theorem jC:(Ip "end"==Ip "leave")=false:=OF
theorem jD:(Ip "hold"==Ip "paper")=false:=OF
theorem jE:(Ip "hold"==Ip "happens")=false:=OF
theorem jF:(Ip "hold"==Ip "rule")=false:=OF
theorem jG:(Ip "hold"==Ip "end")=false:=OF
theorem jH:(Ip "hold"==Ip "lift")=false:=OF
theorem jI:(Ip "hold"==Ip "leave")=false:=OF
theorem jJ:(Ip "lift"==Ip "paper")=false:=OF
theorem jK:(Ip "lift"==Ip "happens")=false:=OF
theorem jL:(Ip "lift"==Ip "rule")=false:=OF
theorem jM:(Ip "lift"==Ip "end")=false:=OF
theorem jN:(Ip "lift"==Ip "hold")=false:=OF
theorem jO:(Ip "lift"==Ip "leave")=false:=OF
theorem jP:(Ip "leave"==Ip "paper")=false:=OF
theorem jQ:(Ip "leave"==Ip "happens")=false:=OF
theorem jR:(Ip "leave"==Ip "rule")=false:=OF
theorem jS:(Ip "leave"==Ip "end")=false:=OF
theorem jT:(Ip "leave"==Ip "hold")=false:=OF
theorem jU:(Ip "leave"==Ip "lift")=false:=OF
section
variable {X:Cx} {H0:Hp} {O0:Ex}
def jV:List OM->(OM->Prop)->Prop:=λds Q=>∃i:Int,ds=[.int i]/\i.natAbs.log2 < 1920/\Q (.str (toString i))
def jW:List OM->(OM->Prop)->Prop:=λds Q=>∃(z:Str)(n:Int),ds=[.str z]/\PySem.intText? z=some n/\z.length<=640/\Q (.int n)
def jX(to t:DT):DT:=λδ Q=>to δ λx=>∃z:Str,x= .str z/\t δ λy=>∃i:Int,y= .int i/\PadOk i=true/\Q (.str (Txt.zfill z i))
def jY(to t:DT):DA:=λδ Q=>to δ λx=>∃z:Str,x= .str z/\t δ λy=>∃y':Str,y= .str y'/\(y'.length==0)=false/\z.length<=1000000/\Q ((Txt.split z y').map .str)
def gb:List DT->Str->DT
 | [],out=>λ_ Q=>out.length<=OS/\Q (.str out)
 | t::ts,out=>λδ Q=>t δ λd=>∃z:Str,d= .str z/\z.length<=OS/\(out++z).length<=OS/\gb ts (out++z) δ Q
def gc:DS:=λ_ _=>False
theorem oU{st:O6}:PS X st (aT X.K H0 O0 gc):=BV.imp λD σ H uu71=>by obtain⟨O,δ,E,w,q,_,_,_,_⟩:=uu71;exact q.elim
def x6(ns:List Int):List OM:=ns.map .int
def jZ:OM->OM->(OM->Prop)->Prop:=λx y Q=>(∃i j:Int,x= .int i/\y= .int j/\Q (.bool (decide (i < j))))\/(∃i j:Str,x= .str i/\y= .str j/\Q (.bool (decide (i.cps.toList < j.cps.toList))))\/
 (∃ns ms:List Int,x= .tuple (x6 ns)/\y= .tuple (x6 ms)/\Q (.bool (HT.lexLt ns ms)))
end
section
variable {α:Type} {P:α->Prop}
theorem gf{a:OM}{r:Dl}{P:OM->Prop}:bW 0 (some (Sl.v a)::r) P=P a:=rfl
theorem j0{x:Option Sl}{r:Dl}{i:Nat}{P:OM->Prop}:bW (i+1) (x::r) P=bW i r P:=rfl
theorem Io{a:OM}{l:Dl}{i:Nat}{P:OM->Prop}:bW i (l.set i (some (Sl.v a))) P=(i < l.length/\P a):=by
 apply propext;show uf P _↔_;rw [xi,LZ];constructor
 ·rintro⟨d,e,p⟩;by_cases h:i < l.length
  ·rw [IQ h] at e;cases e;exact⟨h,p⟩
  ·rw [Ld OH] at e;cases e
 ·rintro⟨h,p⟩;exact⟨a,by rw [IQ h];rfl,p⟩
theorem j1{a:List OM}{r:Dl}{P:List OM->Prop}:(∃d,(some (Sl.o a)::r)[0]?=some (some (Sl.o d))/\P d)=P a:=OL
theorem j2{x:Option Sl}{r:Dl}{i:Nat}{P:List OM->Prop}:(∃d,(x::r)[i+1]?=some (some (Sl.o d))/\P d)=(∃d,r[i]?=some (some (Sl.o d))/\P d):=OL
theorem j3{a:List OM}{l:Dl}{i:Nat}{P:List OM->Prop}:(∃d,(l.set i (some (Sl.o a)))[i]?=some (some (Sl.o d))/\P d)=(i < l.length/\P a):=by
 apply propext;rw [LZ];constructor
 ·rintro⟨d,e,p⟩;by_cases h:i < l.length
  ·rw [IQ h] at e;cases e;exact⟨h,p⟩
  ·rw [Ld OH] at e;cases e
 ·rintro⟨h,p⟩;exact⟨a,by rw [IQ h];rfl,p⟩
theorem j4{x:Option Sl}{l:Dl}{i j:Nat}{P:List OM->Prop}(h:i≠j):(∃d,(l.set i x)[j]?=some (some (Sl.o d))/\P d)=(∃d,l[j]?=some (some (Sl.o d))/\P d):=by rw [IH h]
theorem j5{a:Bool}{P:Bool->Prop}:(∃b,Mq a= .bool b/\P b)=P a:=OL
theorem j6{a:Int}{P:Int->Prop}:(∃b,Iy a= .int b/\P b)=P a:=OL
theorem j7{a:Str}{P:Str->Prop}:(∃b,ID a= .str b/\P b)=P a:=OL
theorem j8{a:List OM}{P:List OM->Prop}:(∃b,I0 a= .tuple b/\P b)=P a:=OL
theorem j9{a:List OM}{P:List OM->Prop}:(∃b,IY a= .list b/\P b)=P a:=OL
theorem kc{a b:Int}{P:Int->Int->Prop}:(∃i j,Iy a= .int i/\Iy b= .int j/\P i j)=P a b:=OL
theorem ke{a b:Str}{P:Str->Str->Prop}:(∃i j,ID a= .str i/\ID b= .str j/\P i j)=P a b:=OL
theorem kh{a b:List OM}{P:List OM->List OM->Prop}:(∃i j,I0 a= .tuple i/\I0 b= .tuple j/\P i j)=P a b:=OL
theorem ki{a b:List OM}{P:List OM->List OM->Prop}:(∃i j,IY a= .list i/\IY b= .list j/\P i j)=P a b:=OL
theorem kj{a:OM}{r:List OM}{P:OM->List OM->Prop}:(∃x y,a::r=x::y/\P x y)=P a r:=propext ⟨λuu72=>by obtain⟨_,_,e,p⟩:=uu72;cases e;exact p,λp=>⟨_,_,rfl,p⟩⟩
theorem km{a b:OM}{P:OM->OM->Prop}:(∃x y,[a,b]=[x,y]/\P x y)=P a b:=propext ⟨λuu73=>by obtain⟨_,_,e,p⟩:=uu73;cases e;exact p,λp=>⟨_,_,rfl,p⟩⟩
theorem ko{a:OM}{r:List OM}{P:OM->Prop}:(∃ds i d,I0 (a::r)= .tuple ds/\Iy 0= .int i/\atI ds i=some d/\P d)=P a:=by simp [bO]
theorem kq{a b:OM}{r:List OM}{P:OM->Prop}:(∃ds i d,I0 (a::b::r)= .tuple ds/\Iy 1= .int i/\atI ds i=some d/\P d)=P b:=by simp [bS]
theorem kr{a b c:OM}{r:List OM}{P:OM->Prop}:(∃ds i d,I0 (a::b::c::r)= .tuple ds/\Iy 2= .int i/\atI ds i=some d/\P d)=P c:=by simp [cA]
theorem ku{a b c e:OM}{r:List OM}{P:OM->Prop}:(∃ds i d,I0 (a::b::c::e::r)= .tuple ds/\Iy 3= .int i/\atI ds i=some d/\P d)=P e:=by simp [cL]
theorem ky{a:OM}{r:List OM}{P:OM->Prop}:(∃ds i d,IY (a::r)= .list ds/\Iy 0= .int i/\atI ds i=some d/\P d)=P a:=by simp [bO]
theorem kz{a b:OM}{r:List OM}{P:OM->Prop}:(∃ds i d,IY (a::b::r)= .list ds/\Iy 1= .int i/\atI ds i=some d/\P d)=P b:=by simp [bS]
theorem kA{a b c:OM}{r:List OM}{P:OM->Prop}:(∃ds i d,IY (a::b::c::r)= .list ds/\Iy 2= .int i/\atI ds i=some d/\P d)=P c:=by simp [cA]
theorem kC{xs:List OM}{k:Int}{P:OM->Prop}:(∃ds i d,I0 xs= .tuple ds/\Iy k= .int i/\atI ds i=some d/\P d)=(∃d,atI xs k=some d/\P d):=OL
theorem kD{xs:List OM}{k:Int}{P:OM->Prop}:(∃ds i d,IY xs= .list ds/\Iy k= .int i/\atI ds i=some d/\P d)=(∃d,atI xs k=some d/\P d):=OL
end
theorem kF{w v:Str}{r:List OM}{l:Dl}{Q:Bool->Prop}:cz (bM cX (bM cW (bW 0) (dC (.int 0))) (dC (.str v))) (some (.v (.tuple (.str w::r)))::l) Q=Q (w==v):=by
 simp [cz,bM,cX,cW,gf,dC,bO,cg,cM]
theorem kG{v:Str}{x:Option Sl}{l:Dl}{k:Nat}{Q:Bool->Prop}:cz (bM cX (bM cW (bW 0) (dC (.int 0))) (dC (.str v))) (l.set (k+1) x) Q=cz (bM cX (bM cW (bW 0) (dC (.int 0))) (dC (.str v))) l Q:=by
 simp only [cz,bM,bW,dC,IH (show k+1≠0 by omega)]
def dR:ag->OM
 | .inl i=>.int i
 | .inr x=>.str x
def rG(kd:List (ag×OM))(k:ag):Option OM:=(kd.find? λp=>decide (p.1=k)).map (·.2)
def mW(kd:List (ag×OM))(k:ag)(d:OM):List (ag×OM):=if (kd.any λp=>decide (p.1=k))=true then kd.map (λp=>if p.1=k then(p.1,d) else p) else kd++[(k,d)]
section
variable {K:Iq} {H:Hp} {O:Ex}
theorem Dt.key{v:V}{k:ag}(h:Dt K H O v (dR k)):v=kV k:=by
 cases k with
 | inl i=>cases h;rfl
 | inr x=>cases h;rfl
theorem bj.any{kv:List (ag×V)}{kd:List (ag×OM)}(h:bj K H O kv kd)(k:ag):(kv.any λp=>decide (p.1=k))=(kd.any λp=>decide (p.1=k)):=by
 induction h with
 | nil=>rfl
 | cons a _ ih=>simp only [JN,ih]
theorem bj.length{kv:List (ag×V)}{kd:List (ag×OM)}(h:bj K H O kv kd):kv.length=kd.length:=by
 induction h with
 | nil=>rfl
 | cons a _ ih=>simp only [IE,ih]
theorem bj.append{kv kv':List (ag×V)}{kd kd':List (ag×OM)}(h:bj K H O kv kd)(h':bj K H O kv' kd'):bj K H O (kv++kv') (kd++kd'):=by
 induction h with
 | nil=>exact h'
 | cons a _ ih=>exact .cons a ih
theorem bj.repl{kv:List (ag×V)}{kd:List (ag×OM)}(h:bj K H O kv kd)(k:ag){v:V}{d:OM}(hv:Dt K H O v d):bj K H O (kv.map λp=>if p.1=k then(p.1,v) else p) (kd.map λp=>if p.1=k then(p.1,d) else p):=by
 induction h with
 | nil=>exact .nil
 | @cons j u e r s a _ ih=>
  simp only [IA];by_cases z:j=k
  ·rw [OJ z,OJ z];exact .cons hv ih
  ·rw [OI z,OI z];exact .cons a ih
theorem bj.put{kv:List (ag×V)}{kd:List (ag×OM)}(h:bj K H O kv kd)(k:ag){v:V}{d:OM}(hv:Dt K H O v d):bj K H O (putK kv k v) (mW kd k d):=by
 unfold putK mW;rw [h.any k];split
 ·exact h.repl k hv
 ·exact h.append (.cons hv .nil)
end
section
variable {X:Cx} {H0:Hp} {O0:Ex}
abbrev oj:=Dl->(List (ag×OM)->Prop)->Prop
inductive x8 (K:Iq) (H0:Hp) (O0:Ex) (t:oj) (σ:St) (H:Hp) (R:VK):Prop
 | mk (O:Ex) (δ:Dl) (Qd:List (ag×OM)->Prop):Wd K H0 O0 H O σ δ->t δ Qd->(∀kd kv p H',Qd kd->ah H H'->H' p=none->bj K H' O kv kd->R (.ref p) (ak H' p (.dK kv)))->x8 K H0 O0 t σ H R
abbrev KE(X:Cx)(H0:Hp)(O0:Ex)(e:OR)(t:oj):Prop:=PE X e (x8 X.K H0 O0 t)
def kH:oj:=λ_ Q=>Q []
def gh(i:Nat)(t:oj):DS:=λE δ=>t δ λkd=>E.nx (δ.set i (some (.k kd)))
theorem EZ{i:Nat}{x:Str}{e:OR}{t:oj}{pos pos':Pos}(hN:X.N.Nodup)(hi:X.N[i]?=some x)(hx:mv X.env.scope x)(he:KE X H0 O0 e t)(hs:Pg e (some (.Name x pos')) pos.line X.env=pure false:=by rfl)(hf:X.fn x=true\/X.env.scope.names.lookup x=some .local:=by first | exact .inl rfl | exact .inr rfl | assumption):
 PS X (.Assign [.Name x pos'] e pos) (aT X.K H0 O0 (gh i t)):=
 (dj hN hi hx he hs hf).imp λD σ H ⟨O,δ,E,w,q,k1,k2,k3,k4⟩=>⟨O,δ,_,w,q,λds vs p H1 q1 s1 hp r1=>k1 _ _ _ _ q1 ((w.mono s1).setK hp r1)
  ⟨λb o e _=>(s1.trans (ah.new hp)) b o e,λb e n z=>z.elim n λy=>by
   cases q:H b with
   | none=>exact e q
   | some o=>have:=s1 _ _ q;rw [y,hp] at this;cases this⟩⟩
def gi(i:Nat)(tk tv:DT):DS:=λE δ=>tv δ λd=>∃kd,δ[i]?=some (some (.k kd))/\tk δ λy=>∃k,y=dR k/\kd.length < OS/\E.nx (δ.set i (some (.k (mW kd k d))))
theorem E1{i:Nat}{o e v:OR}{tk tv:DT}{pos pos':Pos}(hu:X.A.units+64 < PZ)(ho:PE X o (mR i))(he:DE X H0 O0 e tk)(hv:DE X H0 O0 v tv)(hs:Pg v (some (.Subscript o e pos')) pos.line X.env=pure false:=by rfl):
 PS X (.Assign [.Subscript o e pos'] v pos) (aT X.K H0 O0 (gi i tk tv)):=
 (Ef OH ho he hv hs).imp λD σ H ⟨O,δ,E,w,q,k1,k2,k3,k4⟩=>⟨O,δ,_,w,q,λd u H1 uu76 s1 r1=>by
  obtain⟨kd,e,qk⟩:=uu76;have w1:=w.mono s1;obtain⟨l,kv,h,a,b,c,r⟩:=w1.ownK e;refine⟨.ref l,h,O,δ,_,w1,qk,λy uy H2 ⟨k,ek,hl,q2⟩ s2 r2=>?_⟩;subst ek;obtain rfl:=r2.key;refine⟨l,_,rfl,qc.k (s2 _ _ c) (by rw [r.length];exact hl),k1 _ _ _ _ q2 ((w1.mono s2).putK e h ((r.mono s2).put k (r1.mono s2))) ⟨λb' o' z n=>?_,λ_ _ n=>n⟩⟩;rw [ay (λy=>n (by rw [y];exact a))];exact(s1.trans s2) _ _ z⟩
def kI(i:Nat)(tk:DT):DT:=λδ Q=>∃kd,δ[i]?=some (some (.k kd))/\tk δ λy=>∃k d,y=dR k/\rG kd k=some d/\Q d
def kJ(i:Nat)(tk:DT):DT:=λδ Q=>∃kd,δ[i]?=some (some (.k kd))/\tk δ λy=>∃k,y=dR k/\Q ((rG kd k).getD .none)
def kK(neg:Bool)(i:Nat)(tk:DT):DT:=λδ Q=>tk δ λy=>∃k,y=dR k/\∃kd,δ[i]?=some (some (.k kd))/\Q (.bool (if neg then !(rG kd k).isSome else(rG kd k).isSome))
open PySem PySem.Spec PyProof.Rows PySem.W PySem.Calls
def kL(i:Nat):DA:=λδ Q=>∃kd,δ[i]?=some (some (.k kd))/\∃ss:List Str,kd.map (·.1)=ss.map LR/\ss.length < 64/\Q ((rD ss).map .str)
end
section
theorem kM{a:List (ag×OM)}{r:Dl}{P:List (ag×OM)->Prop}:(∃d,(some (Sl.k a)::r)[0]?=some (some (Sl.k d))/\P d)=P a:=OL
theorem kN{x:Option Sl}{r:Dl}{i:Nat}{P:List (ag×OM)->Prop}:(∃d,(x::r)[i+1]?=some (some (Sl.k d))/\P d)=(∃d,r[i]?=some (some (Sl.k d))/\P d):=OL
theorem kO{a:List (ag×OM)}{l:Dl}{i:Nat}{P:List (ag×OM)->Prop}:(∃d,(l.set i (some (Sl.k a)))[i]?=some (some (Sl.k d))/\P d)=(i < l.length/\P a):=by
 apply propext;rw [LZ];constructor
 ·rintro⟨d,e,p⟩;by_cases h:i < l.length
  ·rw [IQ h] at e;cases e;exact⟨h,p⟩
  ·rw [Ld OH] at e;cases e
 ·rintro⟨h,p⟩;exact⟨a,by rw [IQ h];rfl,p⟩
theorem kP{x:Option Sl}{l:Dl}{i j:Nat}{P:List (ag×OM)->Prop}(h:i≠j):(∃d,(l.set i x)[j]?=some (some (Sl.k d))/\P d)=(∃d,l[j]?=some (some (Sl.k d))/\P d):=by rw [IH h]
theorem kT{x:Str}{P:ag->Prop}:(∃k,ID x=dR k/\P k)=P (.inr x):=propext ⟨λuu78=>by obtain⟨k,e,p⟩:=uu78;cases k with | inl i=>cases e | inr y=>cases e;exact p,λp=>⟨_,rfl,p⟩⟩
theorem kU{x:Int}{P:ag->Prop}:(∃k,Iy x=dR k/\P k)=P (.inl x):=propext ⟨λuu79=>by obtain⟨k,e,p⟩:=uu79;cases k with | inr i=>cases e | inl y=>cases e;exact p,λp=>⟨_,rfl,p⟩⟩
end
def mh:OM->Bool
 | .none=>true
 | _=>false
def gj:OM->OM->(OM->Prop)->Prop:=λx y Q=>y= .none/\Q (.bool (mh x))
def kW:OM->OM->(OM->Prop)->Prop:=λx y Q=>y= .none/\Q (.bool (!mh x))
theorem Sh.isN{K:Iq}{H:Hp}{O:Ex}{x:V}{d:OM}(h:Sh K H O x d):decide (x= .non)=mh d:=by
 cases h with
 | dt h=>cases h <;> simp [mh]
 | _=>simp [mh]
theorem uA{K:Iq}:bU K (λx y H Q=>y= .non/\Q (.bl (decide (x= .non))) H) gj:=λH O x y dx dy Qd R _ hx hy uu80 k=>by
 obtain⟨e,q⟩:=uu80;subst e;refine⟨hy.non,?_⟩;rw [hx.isN];exact k _ _ H q (ah.refl _) (.bl _)
def gm:List OM->(OM->Prop)->Prop:=λds Q=>∃i:Int,ds=[.int i]/\Q (.int (if i < 0 then -i else i))
theorem E2{K:Iq}:l8 K (λxs H Q=>∃i,xs=[.int i]/\Q (.int (if i < 0 then -i else i)) H) gm:=λH O xs ds Qd R _ hs uu81 k=>by
 obtain⟨i,e,q⟩:=uu81;subst e;cases hs with
 | cons h r=>cases r;cases h.int;exact⟨i,rfl,k _ _ H q (ah.refl _) (.int _)⟩
def gq:OM->OM->(OM->Prop)->Prop:=λx y Q=>∃ds i d,x=cD ds/\y= .int i/\atI ds i=some d/\Q d
theorem E3{K:Iq}:bU K (tU K) gq:=λH O x y dx dy Qd R _ hx hy uu82 k=>by
 obtain⟨ds,i,d,e1,e2,e3,q⟩:=uu82;subst e1 e2;obtain⟨a,vs,rfl,hs,r⟩:=hx.scr;cases hy.int;obtain⟨v,hv,rv⟩:=r.atI e3;exact⟨a,vs,i,v,rfl,rfl,hs,hv,k d v H q (ah.refl _) rv⟩
section
variable {X:Cx} {H0:Hp} {O0:Ex}
def gr(t:DT)(tl th:DO):DA:=λδ Q=>t δ λd=>tl δ λl=>th δ λu=>∃xs,d=cD xs/\Q (bI xs l u)
theorem E4{e:OR}{lo hi:Option OR}{t:DT}{tl th:DO}{pos p2:Pos}(h:DF X H0 O0 e t)(hl:PO X lo (mV X.K H0 O0 tl))(hu:PO X hi (mV X.K H0 O0 th)):FE X H0 O0 (.Subscript e (.Slice lo hi none p2) pos) (gr t tl th):=
 (tR wz h hl hu).imp λσ H Q uu83=>by obtain⟨O,δ,Qd,w,q,k⟩:=uu83;exact⟨O,δ,_,w,q,λd v H1 q1 s1 r1=>⟨O,δ,_,w.mono s1,q1,λl H2 q2 s2=>⟨O,δ,_,w.mono (s1.trans s2),q2,λu H3 uu84 s3=>by
  obtain⟨xs,e,q3⟩:=uu84;subst e;obtain⟨a,vs,rfl,h1,d1⟩:=(r1.mono (s2.trans s3)).scr;exact⟨a,vs,rfl,h1,λp hp=>k _ _ _ _ q3 (s1.trans (s2.trans s3)) hp (d1.cut l u)⟩⟩⟩⟩
end
theorem uB{X:Cx}:bx X (Pu .Mult) (λx y H Q=>∃(z:Str)(n:Int),x= .str z/\y= .int n/\MulOk z n/\Q (.str (Txt.mul z n)) H):=by
 intro Qm s σ H x y v u Q I rx ry h;obtain⟨z,n,rfl,rfl,hok,q⟩:=h;obtain⟨t,rfl⟩:=rx;obtain⟨t',rfl⟩:=ry;exact SB.mul hok λt' k=>⟨.str _,H,I.tok _,⟨_,rfl⟩,q⟩
def gs:OM->OM->(OM->Prop)->Prop:=λx y Q=>∃(z:Str)(n:Int),x= .str z/\y= .int n/\MulOk z n/\Q (.str (Txt.mul z n))
theorem uC{K:Iq}:bU K (λx y H Q=>∃(z:Str)(n:Int),x= .str z/\y= .int n/\MulOk z n/\Q (.str (Txt.mul z n)) H) gs:=λH O x y dx dy Qd R _ hx hy uu85 k=>by
 obtain⟨z,n,e1,e2,c,q⟩:=uu85;subst e1 e2;cases hx.str;cases hy.int;exact⟨z,n,rfl,rfl,c,k _ _ H q (ah.refl _) (.str _)⟩
structure Rw where
 w:Str
 n:Int
 nm:Str
 r:List OM
abbrev Ls:=List (Str×Rw)
open PySem PySem.Spec PyProof.Rows PySem.W PySem.Calls
def E5(ss:List Str)(x:Str):List Str:=if x∈ss then ss else ss++[x]
section
variable {X:Cx} {H0:Hp} {O0:Ex}
def kX(t:DA):DA:=λδ Q=>t δ λds=>∃ss:List Str,ds=[.list (ss.map .str)]/\ss.length < 64/\Q ((rD (ss.foldl E5 [])).map .str)
def kY(i:Nat)(t:DA):DS:=λE δ=>∃ds,δ[i]?=some (some (.o ds))/\t δ λes=>ds.length+es.length<=OS/\E.nx (δ.set i (some (.o (ds++es))))
end
theorem uD:∀{ns:List Int}{us:List ON},aB (ns.map V.int) us->IntsAre us ns
 | [],_,r=>by rw [Jg] at r;cases r;exact .nil
 | n::ns,_,r=>by
  rw [IA] at r;cases r with
  | cons r1 r2=>obtain⟨t,rfl⟩:=r1;exact .cons n t (uD r2)
theorem E6{X:Cx}(hc:X.calm=true):cI X (.builtin "max") (λxs H Q=>∃(p:OO)(ns:List Int),xs=[.ref p]/\aV X.K H p (ns.map V.int)/\ns≠[]/\∀M,M∈ns->(∀a∈ns,a<=M)->Q (.int M) H):=by
 intro Qm s σ H xs us Q I r h;obtain⟨p,ns,rfl,hq,hne,q⟩:=h;obtain⟨u,rfl,rx⟩:=lZ r;cases rx;obtain⟨its,rv,pl,hz⟩:=I.list hq;have hi:=uD rv;obtain⟨zs,e⟩:=hi.allInts.items;have hns:ns=zs.toList.map (·.1):=by rw [<-hi.numsOf,<-nums_intItems,<-e]
 have h0:0 < zs.size:=by
  rcases NF zs.size with z | z
  ·exact absurd (by rw [hns];simp [M5.mp z]) hne
  ·exact z
 have hl:=pl.isList;rw [e] at hl;refine max_intList (I.ok.hd hc) hl h0 λv h' tk hv hk=>?_;obtain⟨t,rfl⟩:=intItems_at hv;obtain⟨h1,h2⟩:=argBest_gt (numAt zs) (zs.size - 1);refine⟨.int _,H,I.kept (t':=tk) hk,⟨t,rfl⟩,q _ ?_ λa ha=>?_⟩
 ·rw [hns,numAt_eq];exact getD_mem (by rw [Iw,Jc];omega)
 ·rw [hns] at ha;obtain⟨j,hj,rfl⟩:=mem_getD ha;rw [Iw,Jc] at hj;rw [<-numAt_eq];exact h2 j OH
theorem aj.intsL{K:Iq}{H:Hp}{O:Ex}:∀{ns:List Int}{vs:List V},aj K H O vs (ns.map Iy)->vs=ns.map V.int
 | [],_,r=>by rw [Jg] at r;cases r;rfl
 | b::bs,_,r=>by
  rw [IA] at r;cases r with
  | cons h r=>cases h;rw [IA,aj.intsL r]
def gu:List OM->(OM->Prop)->Prop:=λds Q=>∃ns:List Int,ds=[.list (ns.map .int)]/\ns≠[]/\∀M,M∈ns->(∀a∈ns,a<=M)->Q (.int M)
theorem E7{K:Iq}:l8 K (λxs H Q=>∃(p:OO)(ns:List Int),xs=[.ref p]/\aV K H p (ns.map V.int)/\ns≠[]/\∀M,M∈ns->(∀a∈ns,a<=M)->Q (.int M) H) gu:=λH O xs ds Qd R tr hs uu86 k=>by
 obtain⟨ns,e,hne,q⟩:=uu86;subst e;cases hs with
 | cons h r=>
  cases r;obtain⟨a,vs,rfl,h1,d1⟩:=h.lst;cases d1.intsL;exact⟨a,ns,rfl,h1,hne,λM m1 m2=>k _ _ H (q M m1 m2) (ah.refl _) (.int _)⟩
def uE(o:Obj)(a:OO)(kv:List (ag×V)):It:=⟨λi H=>i < kv.length/\H a=some (.frz o (.dK kv)),λi H x H'=>H'=H/\∃p,kv[i]?=some p/\x=kV p.1,λi H=>kv.length<=i/\H a=some (.frz o (.dK kv))⟩
theorem x9{P:OZ}{w:O4}{H:Hp}{h:O3}{a:OO}{o:Obj}{es:Array Qc}{ep:Nat}{kv:List (ag×V)}(ok:bf P w H h)(e:H a=some (.frz o (.dK kv)))(d:o.data= .dict es ep):
 (a==Po)=false/\∃vs,KV kv vs/\h.DictAt (cH P w) a vs ep:=by
 obtain⟨h1,_,hd,vs,rel,o',es',ep',g,r1,r2,r3⟩:=ok a _ e;rw [h1] at g;cases g;rw [d] at r2;cases r2;exact⟨hd,vs,rel,o,es,h1,r1,d,r3⟩
theorem KV.len{kv:List (ag×V)}{vs:List (ag×ON)}(r:KV kv vs):vs.length=kv.length:=r.length.symm
theorem E8{P:OZ}{w:O4}{K:Iq}{tg:OR}(it a:OO)(o:Obj)(es:Array Qc)(ep:Nat)(kv:List (ag×V))(d:o.data= .dict es ep):pE P w K tg (uE o a kv) [it] it (λi h=>h.IsKeyIter it a i kv.length ep) where
 mem:=OL
 obj:=λi h st b hb=>by
  have e:b=it:=by simpa using hb
  subst e;obtain⟨o,e,c,d⟩:=st;exact⟨o,e,λv z=>by rw [d] at z;cases z⟩
 keep:=λi h h' st k=>st.at λo e=>k it OL o e
 item:=by
  intro X hP hw hK hc i Qm s σ H E I hf st hg;subst hP hw hK;obtain⟨hi,ha⟩:=hg;obtain⟨hd,vs,rel,da⟩:=x9 I.hok ha d;have hlen:=rel.len;obtain⟨f0,f1,f2,f3,f4,f5⟩:=hf it OL;obtain⟨⟨k0,v0⟩,hx⟩:∃p,vs[i]?=some p:=⟨vs[i]'OH,by simp [hlen,hi]⟩;refine wpAny_pyNext_dict_item (by rw [hlen];exact st) da hx λkey h' hkey st' sb=>?_;rw [hlen] at st';have I1:aa X Qm σ H {s with heap:=h'}:=I.turned (t':=s.toks) (λb o hb e=>(sb.2 b hb).trans e) f0 f1 f3 f4 f5;obtain⟨u,e,c,dd⟩:=id st';have ek:(kv[i]'hi).1=k0:=by
   have z:=congrArg (λl:List ag=>l[i]?) rel.keys;simp only [IS,hx] at z;simpa [hi] using z
  refine⟨key,rfl,qE (s:={s with heap:=h'}) e c dd OG ⟨kV (kv[i]'hi).1,H,I1,?_,⟨rfl,_,by simp [hi],rfl⟩,st',λb hb=>(hf b hb).1⟩⟩;rw [ek];rcases mn (k:=k0) (v:=key) hkey with⟨j,t,e1,e2⟩ | ⟨j,t,e1,e2⟩
  ·rw [e1,e2];exact⟨t,rfl⟩
  ·rw [e1,e2];exact⟨t,rfl⟩
 done:=by
  intro X hP hw hK hc i Qm s σ H E I hf st hg;subst hP hw hK;obtain⟨hi,ha⟩:=hg;obtain⟨hd,vs,rel,da⟩:=x9 I.hok ha d;have hlen:=rel.len;obtain⟨f0,f1,f2,f3,f4,f5⟩:=hf it OL;refine wpAny_pyNext_dict_end (I.ok.hd hc) (by rw [hlen];exact st) da (by simp [hlen,hi]) λh' he=>⟨rfl,?_⟩;exact I.turned (t':=s.toks) (λb o hb e=>he b o hb e) f0 f1 f3 f4 f5
 self:=λA i s Q E st h=>wpAny_pyIter_keyiter st h
theorem Wd.frzK{K:Iq}{H0 H:Hp}{O0 O:Ex}{σ:St}{δ:Dl}(w:Wd K H0 O0 H O σ δ){i:Nat}{l:OO}{y0:Sl}(e:δ[i]?=some (some y0))(ho:y0.own)(h:σ[i]?=some (some (.ref l)))(u:HO):
 ∃O',Wd K H0 O0 (ak H l u) O' σ (δ.set i none)/\aH H (ak H l u) O O'/\¬O' l:=by
 obtain⟨l',x1,a,b⟩:=w.adr e ho;rw [h] at x1;cases x1;have l0:H0 l=none:=(w.new l a).resolve_left b;have S:aH H (ak H l u) O (λx=>O x/\x≠l):=⟨λc q z n=>by rw [ay (λy=>n (by rw [y];exact a))];exact z,λ_ _ n z=>n z.1⟩;have li:i < δ.length:=(IG.mp e).1;have ne:∀{j:Nat}{y:Sl},(δ.set i none)[j]?=some (some y)->j≠i:=λ{j y} q z=>by
  subst z;rw [IT li] at q;cases q
 refine⟨_,⟨λc q z=>?_,λx z=>⟨w.sub x z,λy=>b (by rw [<-y];exact z)⟩,λx z=>w.new x z.1,λx z=>by rw [ay z.2];exact w.trk x z.1,by simp [w.len],λj y q=>?_,λj k y z l' e1 y1 e2 z2 e3 e4=>?_⟩,S,λz=>z.2 rfl⟩
 ·have:c≠l:=λy=>by rw [y,l0] at z;cases z
  rw [ay this];exact w.same c q z
 ·by_cases hj:j=i
  ·subst hj;rw [IT li] at q;cases q;exact Km
  ·rw [IH (Ne.symm hj)] at q;refine(w.sl j y q).go S (λb o ho' e' a1 a2 a3=>?_) (λb o u a1 a2 a3=>by have nb:b≠l:=λz=>w.nofrz e ho h o u (by rw [<-z];exact a3);exact⟨⟨a1,nb⟩,by rw [ay nb];exact a3⟩) λc o a1 a3=>by rw [ay (λz=>b (by rw [<-z];exact a1))];exact a3
   have nb:b≠l:=λz=>by
    subst z
    match y,ho',q with
    | some z,ho',q=>exact hj (w.dis j i z y0 _ q (by cases z <;> first | trivial | cases ho') e ho (mD e') h)
   exact⟨⟨a1,nb⟩,by rw [ay nb];exact a3⟩
 ·have n1:=ne e1;have n2:=ne e2;rw [IH (Ne.symm n1)] at e1;rw [IH (Ne.symm n2)] at e2;exact w.dis j k _ _ l' e1 y1 e2 z2 e3 e4
theorem cb.dk{o:Obj}{a:OO}{kv:List (ag×V)}:cb (uE o a kv) (λH=>H a=some (.frz o (.dK kv))) (kv.map λp=>kV p.1):=by
 refine⟨λi H' s hi=>⟨by simpa using hi,s⟩,λi H' x H'' s hi y=>⟨y.1,?_⟩,λi H' s hi=>⟨by simpa using hi,s⟩⟩;obtain⟨_,p,hp,rfl⟩:=y;simp [hp]
theorem aj.keysK{K:Iq}{H:Hp}{O:Ex}:∀{kv:List (ag×V)}{kd:List (ag×OM)},bj K H O kv kd->aj K H O (kv.map λp=>kV p.1) (kd.map λp=>dR p.1):=by
 intro kv kd h
 induction h with
 | nil=>exact .nil
 | @cons k v d r s a _ ih=>
  refine .cons ?_ ih;cases k with
  | inl i=>exact .int i
  | inr x=>exact .str x
section
variable {X:Cx} {H0:Hp} {O0:Ex}
def kZ(i:Nat)(dg:DG)(tb:DS):DS:=λE δ=>∃kd,δ[i]?=some (some (.k kd))/\fv dg tb E (kd.map λp=>dR p.1) (δ.set i none)
end
def dS:List (DT×DT)->Dl->(List (OM×OM)->Prop)->Prop
 | [],_,Q=>Q []
 | (a,b)::r,δ,Q=>a δ λx=>b δ λy=>dS r δ λps=>Q ((x,y)::ps)
inductive nv (K:Iq) (H:Hp) (O:Ex):List (V×V)->List (OM×OM)->Prop
 | nil:nv K H O [] []
 | cons {a b:V} {x y:OM} {r s}:Dt K H O a x->Dt K H O b y->nv K H O r s->nv K H O ((a,b)::r) ((x,y)::s)
theorem yJ{K:Iq}{H0:Hp}{O0 O:Ex}{σ:St}{δ:Dl}:∀(trs:List (DT×DT)){H:Hp}{Qd:List (OM×OM)->Prop}{R:List (V×V)->Hp->Prop},Wd K H0 O0 H O σ δ->dS trs δ Qd->(∀ds vs H',Qd ds->ah H H'->nv K H' O vs ds->R vs H')->rq (trs.map λp=>(up K H0 O0 p.1,up K H0 O0 p.2)) σ H R
 | [],H,Qd,R,w,q,k=>k [] [] H q (ah.refl _) .nil
 | (a,b)::r,H,Qd,R,w,q,k=>by
  refine⟨O,δ,_,w,q,λx v H1 q1 s1 r1=>⟨O,δ,_,w.mono s1,q1,λy u H2 q2 s2 r2=>?_⟩⟩;exact yJ r ((w.mono s1).mono s2) q2 λds vs H3 q3 s3 r3=>k _ _ H3 q3 ((s1.trans s2).trans s3) (.cons (r1.mono (s2.trans s3)) (r2.mono s3) r3)
theorem Dt.free{K:Iq}{H H':Hp}{O O':Ex}{v:V}{d:OM}(h:Dt K H O v d)(s:cK d=true):Dt K H' O' v d:=by
 cases h <;> first | exact .non | exact .bl _ | exact .int _ | exact .str _ | cases s
theorem nv.kd{K:Iq}{H H':Hp}{O:Ex}:∀{kd:List (ag×OM)}{ps:List (V×V)},nv K H O ps (kd.map λp=>(dR p.1,p.2))->(∀p∈kd,cK p.2=true)->∃kv:List (ag×V),ps=kv.map (λp=>(kV p.1,p.2))/\bj K H' O kv kd
 | [],_,h,_=>by cases h;exact⟨[],rfl,.nil⟩
 | p::kd,_,h,sc=>by
  cases h with
  | cons a b r=>
   obtain⟨kv,e,k⟩:=nv.kd r λq hq=>sc q (Jm _ hq);have:=a.key;exact⟨(p.1,_)::kv,by rw [e,this];rfl,.cons (b.free (sc p KZ)) k⟩
theorem bj.merge{K:Iq}{H:Hp}{O:Ex}{more:List (ag×V)}{md:List (ag×OM)}(h:bj K H O more md):∀{kv:List (ag×V)}{kd:List (ag×OM)},bj K H O kv kd->bj K H O (nu kv more) (md.foldl (λa p=>mW a p.1 p.2) kd):=by
 induction h with
 | nil=>intro kv kd r;exact r
 | cons a _ ih=>intro kv kd r;exact ih (r.put _ a)
section
variable {X:Cx} {H0:Hp} {O0:Ex}
def gy(trs:List (DT×DT)):oj:=λδ Q=>dS trs δ λps=>∃kd:List (ag×OM),ps=kd.map (λp=>(dR p.1,p.2))/\kd.length<=15/\(∀p∈kd,cK p.2=true)/\Q (kd.foldl (λa p=>mW a p.1 p.2) [])
def rH(X:Cx)(H0:Hp)(O0:Ex)(pos:Pos)(keys:List (Option OR))(values:List OR)(trs:List (DT×DT)):Prop:=qf X pos keys values (trs.map λp=>(up X.K H0 O0 p.1,up X.K H0 O0 p.2))
theorem E9{pos:Pos}:rH X H0 O0 pos [] [] []:=Ej
theorem yK{pos:Pos}{k v:OR}{ks:List (Option OR)}{vs:List OR}{tk tv:DT}{trs:List (DT×DT)}(hk:DE X H0 O0 k tk)(hv:DE X H0 O0 v tv)(hr:rH X H0 O0 pos ks vs trs):rH X H0 O0 pos (some k::ks) (v::vs) ((tk,tv)::trs):=Ek hk hv hr
theorem Fb{pos:Pos}{keys:List (Option OR)}{values:List OR}{trs:List (DT×DT)}(h:rH X H0 O0 pos keys values trs)(hall:keys.all (·.isSome)=true:=by rfl)(hl:keys.length=values.length:=by rfl)(h0:keys≠[]:=by exact List.cons_ne_nil _ _)(h15:keys.length<=15:=by exact Nat.le_of_ble_eq_true rfl):KE X H0 O0 (.Dict keys values pos) (gy trs):=
 (Em h hall hl h0 h15).imp λσ H Q ⟨O,δ,Qd,w,q,k⟩=>λp hp=>by
  refine yJ trs (w.mono (ah.new hp)) q λds vs H2 ⟨kd,e,n,sc,q2⟩ s2 r2=>?_;subst e;have hp2:H2 p=some (.dK []):=s2 _ _ bg;obtain⟨kv,e,r⟩:=nv.kd (H':=λb=>if b=p then none else H2 b) r2 sc;refine⟨hp2,kv,e,by rw [r.length];exact n,?_⟩;have eu:ak H2 p (.dK (nu [] kv))=ak (λb=>if b=p then none else H2 b) p (.dK (nu [] kv)):=by
   funext b;unfold ak;split
   ·rfl
   ·rename_i hb;exact(OI hb).symm
  rw [eu];refine k _ _ p _ q2 (λb o z=>?_) (OJ rfl) (r.merge .nil);have:b≠p:=λy=>by rw [y,hp] at z;cases z
  show(if b=p then none else H2 b)=some o;rw [OI this];exact s2 _ _ (by rw [ay this];exact z)
def Fc(i j k:Nat)(ta:TA):TS:=λD σ H=>ta σ H λvs H1=>∃v w z,vs=[v,w,z]/\D.nx (((σ.set i (some v)).set j (some w)).set k (some z)) H1
theorem Fd{i j k:Nat}{x y z:Str}{a b c:OR}{ta:TA}{px py pz pt pos:Pos}{kt k2 pt2}(hc:X.calm=true)(hN:X.N.Nodup)(hi:X.N[i]?=some x)(hj:X.N[j]?=some y)(hk:X.N[k]?=some z)(hij:i≠j)(hik:i≠k)(hjk:j≠k)
 (hx:X.env.scope.names.lookup x=some .local)(hy:X.env.scope.names.lookup y=some .local)(hz:X.env.scope.names.lookup z=some .local)(ha:PA X [a,b,c] ta)
 (hw:PJ [.Tuple [.Name x px,.Name y py,.Name z pz] kt pt] (.Tuple [a,b,c] k2 pt2) X.env=pure (some [x,y,z]))
 (hs:PH [.Tuple [.Name x px,.Name y py,.Name z pz] kt pt] (.Tuple [a,b,c] k2 pt2) pos.line X.env=pure false:=by rfl):
 PS X (.Assign [.Tuple [.Name x px,.Name y py,.Name z pz] kt pt] (.Tuple [a,b,c] k2 pt2) pos) (Fc i j k ta):=by
 intro Qm s σ H D I h;rw [exec_Assign_arm];refine OQ (Qe ?_);rw [hs];refine OQ (OT ?_);rw [OI OG];refine OQ (Tuple_ (au (ha _ Qm s σ H _ I h) λus s1 ⟨vs,H1,I1,r1,q1⟩=>?_));obtain⟨v,w,v3,e1,q1⟩:=q1;subst e1;obtain⟨u1,u2,u3,rfl,rv,rw2,rw3⟩:∃u1 u2 u3,us=[u1,u2,u3]/\ax v u1/\ax w u2/\ax v3 u3:=by
  cases r1 with
  | cons p q=>cases q with | cons p' q'=>cases q' with | cons p2 q2=>cases q2;exact⟨_,_,_,rfl,p,p',p2⟩
 refine Pf ?_ (by show 3<=OS;decide);have I2:aa X Qm σ H1 {s1 with heap:=s1.heap.push {cls:= .type "tuple",data:= .seq [u1,u2,u3].toArray}}:=I1.kept (t':=s1.toks) λb o e=>Iz _ e;rw [hw];refine OQ (OT ?_);show OV (OU X.prog X.w) X.A (do rule "assign.swapped-stores";let items<-unpackItems (.ref s1.heap.objs.size) 3 none;P4 [λv=>PB X.env z v,λv=>PB X.env y v,λv=>PB X.env x v] items.reverse;pure Nt) _ _ _;refine OQ (wpAny_rule (OQ (unpackItems_tuple (items:=#[u1,u2,u3]) (I.ok.hd hc) (MU s1.heap _) λh' hx'=>?_)));have I3:=I2.kept (h':=h') (t':=s1.toks) λb o e=>hx' b o (IZ (IC e)) e;show OV _ _ (P4 [λv=>PB X.env z v,λv=>PB X.env y v,λv=>PB X.env x v] [u3,u2,u1] >>=λ_=>pure Nt) _ _ _;refine OQ (Pq (PD (mP I3 hN hk (.inl hz) rw3 (λs2 I4=>?_) (.inr hz))));refine Pq (PD (mP I4 hN hj (.inl hy) rw2 (λs3 I5=>?_) (.inr hy)));refine Pq (PD (mP I5 hN hi (.inl hx) rv (λs4 I6=>Qg (OT ?_)) (.inr hx)));rw [Mw _ _ (Ne.symm hij),Mw _ _ (Ne.symm hik),Mw _ _ (Ne.symm hjk)] at I6;exact⟨_,H1,I6,q1⟩
def gz(i j k:Nat)(t:DA):DS:=λE δ=>t δ λds=>∃x y z,ds=[x,y,z]/\E.nx (((δ.set i (some (.v x))).set j (some (.v y))).set k (some (.v z)))
theorem Fe{i j k:Nat}{x y z:Str}{a b c:OR}{ta:DA}{px py pz pt pos:Pos}{kt k2 pt2}(hc:X.calm=true)(hN:X.N.Nodup)(hi:X.N[i]?=some x)(hj:X.N[j]?=some y)(hk:X.N[k]?=some z)(hij:i≠j)(hik:i≠k)(hjk:j≠k)
 (hx:X.env.scope.names.lookup x=some .local)(hy:X.env.scope.names.lookup y=some .local)(hz:X.env.scope.names.lookup z=some .local)(ha:PA X [a,b,c] (cU X.K H0 O0 ta))
 (hw:PJ [.Tuple [.Name x px,.Name y py,.Name z pz] kt pt] (.Tuple [a,b,c] k2 pt2) X.env=pure (some [x,y,z]))
 (hs:PH [.Tuple [.Name x px,.Name y py,.Name z pz] kt pt] (.Tuple [a,b,c] k2 pt2) pos.line X.env=pure false:=by rfl):
 PS X (.Assign [.Tuple [.Name x px,.Name y py,.Name z pz] kt pt] (.Tuple [a,b,c] k2 pt2) pos) (aT X.K H0 O0 (gz i j k ta)):=
 (Fd hc hN hi hj hk hij hik hjk hx hy hz ha hw hs).imp λD σ H uu90=>by obtain⟨O,δ,E,w,q,k1,k2,k3,k4⟩:=uu90;exact⟨O,δ,_,w,q,λds vs H1 uu91 s1 r1=>by
  obtain⟨d1,d2,d3,e,q1⟩:=uu91;subst e;cases r1 with
  | cons r1 r2=>cases r2 with | cons r2 r3=>cases r3 with | cons r3 r4=>cases r4;exact⟨_,_,_,rfl,k1 _ _ _ _ q1 ((((w.mono s1).set r1).set r2).set r3) (.same s1)⟩⟩
theorem yL{N':List Str}{k:Nat}{fr:List Nat}{scope:Pc}{iter elt tg:OR}{ifs:List OR}{t te:DT}{tc:DB}{g:TG}{dg:DG}{pos:Pos}(hc:X.calm=true)(S:bz X.env.scope X.N N' k fr scope)(hi:DF X H0 O0 iter t)(gd:GD X.K g dg)(hk:nq g k)(hfr:fr.Nodup)
 (hg:∀fp C s H,PG (bt X scope N' fp C s H) tg g)(hf:∀fp C s H,dY (bt X scope N' fp C s H) ifs (bK X.K H0 O0 tc))(he:∀fp C s H,PE (bt X scope N' fp C s H) elt (up X.K H0 O0 te))
 (hs:∀x,O7 iter X.env x=pure x:=by intro _;rfl):PU X (.ListComp elt [⟨tg,iter,ifs,0⟩] scope pos) (pY X.K H0 O0 (dB t dg tc te k fr)):=
 (xS hc S (sZ hi) hg hf he hs).imp λσ H Q uu92=>by obtain⟨O,δ,Qd,w,q,kk⟩:=uu92;exact⟨O,δ,_,w,q,λd v H1 uu93 s1 r1=>by
  obtain⟨xs,e,hz,q1⟩:=uu93;subst e;obtain⟨a,vs,rfl,hq,rr⟩:=r1.tup;refine⟨a,rfl,⟨_,hq⟩,λD hD=>p8 (cb.tup hq) gd hfr (λv _ H' R h=>hk fr σ v H' R h) (λ_ _ _ z=>z) (λ_ _ _ z=>z) (λD H' hD s' o e=>s' _ _ e (cw e hD)) rr (w.mono s1) (by rw [rr.length];exact hz) q1 (λds us p H' z s' hp r'=>kk ds us p H' z (s1.trans s') hp r') D hD⟩⟩
end
structure oV (n:Nat) (lt:Nat->Nat->Bool) (I:OP->Prop) (cmp:Nat->Nat->(Bool->OP->Prop)->OP->Prop):Prop where
 as:∀i j C s,i < n->j < n->i≠j->I s->(∀s',I s'->C (lt i j) s')->cmp i j C s
structure mH (n:Nat) (lt:Nat->Nat->Bool):Prop where
 tot:∀i j,i < n->j < n->i≠j->lt i j=!lt j i
 tr:∀i j k,i < n->j < n->k < n->lt i j=true->lt j k=true->lt i k=true
structure bE (n:Nat) (p:Array Nat):Prop where
 perm:p.toList.Perm (JP n)
theorem bE.size{n:Nat}{p:Array Nat}(h:bE n p):p.size=n:=by rw [<-Jc,h.perm.length_eq,Lw]
theorem bE.lt{n:Nat}{p:Array Nat}(h:bE n p){k:Nat}(hk:k < n):p.getD k 0 < n:=by
 have hs:=h.size;have e:p.getD k 0=p[k]'OH:=by simp [LX,show k < p.size by omega]
 rw [e];have:=h.perm.mem_iff.mp (Nb.mpr (Array.getElem_mem (show k < p.size by omega)));simpa using this
theorem bE.ne{n:Nat}{p:Array Nat}(h:bE n p){i j:Nat}(hi:i < n)(hj:j < n)(hij:i≠j):p.getD i 0≠p.getD j 0:=by
 have hs:=h.size;have nd:p.toList.Nodup:=h.perm.nodup_iff.mpr NZ;have ei:p.getD i 0=p.toList[i]'(by simp;omega):=by simp [LX,show i < p.size by omega]
 have ej:p.getD j 0=p.toList[j]'(by simp;omega):=by simp [LX,show j < p.size by omega]
 rw [ei,ej];intro e;exact hij ((Ma nd).mp e)
theorem bE.bubble{n:Nat}{p:Array Nat}(h:bE n p)(a d:Nat):bE n (Mo p a d):=⟨(Mx.mp (bubble_perm p a d)).trans h.perm⟩
theorem bE.rev{n:Nat}{p:Array Nat}(h:bE n p)(i j:Nat):bE n (kas_rev p i j):=⟨(Mx.mp (mirror_perm p i j _)).trans h.perm⟩
theorem uF(n:Nat):bE n (NG (JP n)):=⟨OL⟩
def Up(lt:Nat->Nat->Bool)(p:Array Nat)(k:Nat):Prop:=∀i j,i < j->j < k->lt (p.getD i 0) (p.getD j 0)=true
section
variable {n:Nat} {lt:Nat->Nat->Bool} {I:OP->Prop} {cmp:Nat->Nat->(Bool->OP->Prop)->OP->Prop}
theorem Up.snoc(T:mH n lt){p:Array Nat}(hp:bE n p){k:Nat}(hk:k < n)(h:Up lt p k)(h0:0 < k)(hl:lt (p.getD (k - 1) 0) (p.getD k 0)=true):Up lt p (k+1):=by
 intro i j hij hj;rcases Li j k with z | z
 ·exact h i j hij z
 ·have:j=k:=OH
  subst this;rcases Li i (j - 1) with w | w
  ·exact T.tr _ _ _ (hp.lt OH) (hp.lt OH) (hp.lt hk) (h i (j - 1) w OH) hl
  ·have:i=j - 1:=OH
   subst this;exact hl
theorem uG(A:oV n lt I cmp)(T:mH n lt){p:Array Nat}(hp:bE n p){Q:Nat->OP->Prop}:∀(f m:Nat)(s:OP),1<=m->m+f=n->Up lt p m->I s->
 (∀k s',I s'->m<=k->k<=n->Up lt p k->(k < n->lt (p.getD k 0) (p.getD (k - 1) 0)=true)->Q k s')->(kas_asc p f m).kasWp cmp Q s
 | 0,m,s,h1,hf,hu,hI,q=>q m s hI (IB _) OH hu (λz=>by omega)
 | f+1,m,s,h1,hf,hu,hI,q=>by
  have hm:m < n:=OH
  refine A.as _ _ _ s (hp.lt hm) (hp.lt OH) (hp.ne hm OH OH) hI λs' hI'=>?_;cases hc:lt (p.getD m 0) (p.getD (m - 1) 0) with
  | true=>
   dsimp only;rw [OJ rfl];exact q m s' hI' (IB _) OH hu (λ_=>hc)
  | false=>
   dsimp only;rw [OI OL];have hl:lt (p.getD (m - 1) 0) (p.getD m 0)=true:=by rw [T.tot _ _ (hp.lt OH) (hp.lt hm) (hp.ne OH hm OH),hc];rfl
   exact uG A T hp f (m+1) s' OH OH (hu.snoc T hp hm OH hl) hI' λk s2 a b c d e=>q k s2 a OH c d e
def Dn(lt:Nat->Nat->Bool)(p:Array Nat)(k:Nat):Prop:=∀i j,i < j->j < k->lt (p.getD j 0) (p.getD i 0)=true
theorem Dn.snoc(T:mH n lt){p:Array Nat}(hp:bE n p){k:Nat}(hk:k < n)(h:Dn lt p k)(h0:0 < k)(hl:lt (p.getD k 0) (p.getD (k - 1) 0)=true):Dn lt p (k+1):=by
 intro i j hij hj;rcases Li j k with z | z
 ·exact h i j hij z
 ·have:j=k:=OH
  subst this;rcases Li i (j - 1) with w | w
  ·exact T.tr _ _ _ (hp.lt hk) (hp.lt OH) (hp.lt OH) hl (h i (j - 1) w OH)
  ·have:i=j - 1:=OH
   subst this;exact hl
theorem yM(A:oV n lt I cmp)(T:mH n lt){p:Array Nat}(hp:bE n p){Q:Array Nat×Nat×Nat->OP->Prop}:∀(f m:Nat)(s:OP),1<=m->m+f=n->Dn lt p m->I s->
 (∀k s',I s'->m<=k->k<=n->Dn lt p k->Q (p,k,0) s')->(kas_desc f p m 0).kasWp cmp Q s
 | 0,m,s,h1,hf,hu,hI,q=>q m s hI (IB _) OH hu
 | f+1,m,s,h1,hf,hu,hI,q=>by
  have hm:m < n:=OH
  refine A.as _ _ _ s (hp.lt hm) (hp.lt OH) (hp.ne hm OH OH) hI λs' hI'=>?_;cases hc:lt (p.getD m 0) (p.getD (m - 1) 0) with
  | true=>
   dsimp only;rw [OJ rfl,OI OL];exact yM A T hp f (m+1) s' OH OH (hu.snoc T hp hm OH hc) hI' λk s2 a b c d=>q k s2 a OH c d
  | false=>
   dsimp only;rw [OI OL];refine A.as _ _ _ s' (hp.lt OH) (hp.lt hm) (hp.ne OH hm OH) hI' λs2 hI2=>?_;have hl:lt (p.getD (m - 1) 0) (p.getD m 0)=true:=by rw [T.tot _ _ (hp.lt OH) (hp.lt hm) (hp.ne OH hm OH),hc];rfl
   rw [hl];dsimp only;rw [OJ rfl];exact q m s2 hI2 (IB _) OH hu
theorem yN{p:Array Nat}{j k:Nat}(hj:j<=p.size):(kas_rev p 0 j).getD k 0=if k < j then p.getD (j - 1 - k) 0 else p.getD k 0:=by
 have:=getElem?_mirror_all (xs:=p) (i:=0) (j:=j) hj k;unfold kas_rev;rw [J7,this];by_cases h:k < j
 ·simp [h,J7]
 ·simp [h,J7]
theorem Dn.rev{p:Array Nat}(hp:bE n p){k:Nat}(hk:k<=n)(h:Dn lt p k):Up lt (kas_rev p 0 k) k:=by
 intro i j hij hj;have hs:=hp.size;rw [yN OH,yN OH,OJ OH,OJ hj];exact h _ _ OH OH
theorem Fg(A:oV n lt I cmp)(T:mH n lt)(h2:2<=n){p:Array Nat}(hp:bE n p){Q:Nat×Array Nat->OP->Prop}{s:OP}(hI:I s)
 (q:∀k p' s',I s'->1<=k->k<=n->bE n p'->Up lt p' k->Q (k,p') s'):(kas_count n p).kasWp cmp Q s:=by
 unfold kas_count;rw [LL];refine uG A T hp (n - 1) 1 s (IB _) OH (λi j a b=>by omega) hI λm s1 hI1 m1 m2 hu hs=>?_;by_cases hm:m=n
 ·subst hm;rw [OJ OL];exact q m p s1 hI1 m1 (IB _) hp hu
 ·rw [OI (by simpa using hm)];by_cases hm1:m > 1
  ·rw [OJ hm1];refine A.as _ _ _ s1 (hp.lt OH) (hp.lt OH) (hp.ne OH OH OH) hI1 λs2 hI2=>?_;rw [hu 0 (m - 1) OH OH];dsimp only;rw [OJ rfl];exact q m p s2 hI2 m1 OH hp hu
  ·rw [OI hm1];have:m=1:=OH
   subst this;have h10:=hs OH;unfold kas_descPart;rw [LL];refine yM A T hp (n - (1+1)) (1+1) s1 OH OH (λi j a b=>?_) hI1 λk s2 hI2 k1 k2 hd=>?_
   ·have:i=0:=OH
    have:j=1:=OH
    subst_vars
    exact h10
   ·rw [OI OL];unfold kas_tail3;rw [LL];have hp':=hp.rev 0 k;refine uG A T hp' (n - k) k s2 OH OH (hd.rev hp k2) hI2 λm s3 hI3 a b c d=>?_;exact q m _ s3 hI3 OH b hp' c
theorem uH(A:oV n lt I cmp)(T:mH n lt){p:Array Nat}(hp:bE n p){k:Nat}(hk:k < n)(hu:Up lt p k){Q:Nat->OP->Prop}:∀(f l r:Nat)(s:OP),r - l<=f->l<=r->r<=k->I s->
 (∀i,i < l->lt (p.getD i 0) (p.getD k 0)=true)->(∀i,r<=i->i < k->lt (p.getD k 0) (p.getD i 0)=true)->
 (∀l s',I s'->l<=k->(∀i,i < l->lt (p.getD i 0) (p.getD k 0)=true)->(∀i,l<=i->i < k->lt (p.getD k 0) (p.getD i 0)=true)->Q l s')->(kas_place p k f l r).kasWp cmp Q s
 | 0,l,r,s,hf,hlr,hrk,hI,h1,h2,q=>q l s hI OH h1 (λi a b=>h2 i OH b)
 | f+1,l,r,s,hf,hlr,hrk,hI,h1,h2,q=>by
  unfold kas_place;by_cases hge:l >= r
  ·rw [OJ hge];exact q l s hI OH h1 (λi a b=>h2 i OH b)
  ·rw [OI hge];have hm:(l+r)/ 2 < k:=OH
   refine A.as _ _ _ s (hp.lt hk) (hp.lt OH) (hp.ne hk OH OH) hI λs' hI'=>?_;cases hc:lt (p.getD k 0) (p.getD ((l+r)/ 2) 0) with
   | true=>
    dsimp only;rw [OJ rfl];refine uH A T hp hk hu f l ((l+r)/ 2) s' OH OH OH hI' h1 (λi a b=>?_) q;rcases Li ((l+r)/ 2) i with z | z
    ·exact T.tr _ _ _ (hp.lt hk) (hp.lt OH) (hp.lt OH) hc (hu _ _ z b)
    ·have:i=(l+r)/ 2:=OH
     rw [this];exact hc
   | false=>
    dsimp only;rw [OI OL];have hl:lt (p.getD ((l+r)/ 2) 0) (p.getD k 0)=true:=by rw [T.tot _ _ (hp.lt OH) (hp.lt hk) (hp.ne OH hk OH),hc];rfl
    refine uH A T hp hk hu f ((l+r)/ 2+1) r s' OH OH hrk hI' (λi a=>?_) h2 q;rcases Li i ((l+r)/ 2) with z | z
    ·exact T.tr _ _ _ (hp.lt OH) (hp.lt OH) (hp.lt hk) (hu _ _ z hm) hl
    ·have:i=(l+r)/ 2:=OH
     rw [this];exact hl
theorem yO{p:Array Nat}{k d i:Nat}(hk:k < p.size)(hd:d<=k):(Mo p k d).getD i 0=if i=k - d then p.getD k 0 else if k - d < i/\i<=k then p.getD (i - 1) 0 else p.getD i 0:=by
 rw [J7,getElem?_bubble hk d hd i];by_cases h1:i=k - d
 ·rw [OJ h1,OJ h1,J7]
 ·rw [OI h1,OI h1];by_cases h2:k - d < i/\i<=k
  ·rw [OJ h2,OJ h2,J7]
  ·rw [OI h2,OI h2,J7]
theorem Up.ins(T:mH n lt){p:Array Nat}(hp:bE n p){k l:Nat}(hk:k < n)(hu:Up lt p k)(hl:l<=k)(h1:∀i,i < l->lt (p.getD i 0) (p.getD k 0)=true)(h2:∀i,l<=i->i < k->lt (p.getD k 0) (p.getD i 0)=true):Up lt (Mo p k (k - l)) (k+1):=by
 have hs:=hp.size;intro i j hij hj;rw [yO OH OH,yO OH OH];have e:k - (k - l)=l:=OH
 rw [e];clear hs e hk;by_cases hi:i=l
 ·rw [OJ hi,OI OH,OJ OH];exact h2 _ OH OH
 ·rw [OI hi];by_cases hi2:l < i/\i<=k
  ·rw [OJ hi2,OI OH,OJ OH];exact hu _ _ OH OH
  ·rw [OI hi2];by_cases hj1:j=l
   ·rw [OJ hj1];exact h1 _ OH
   ·rw [OI hj1];by_cases hj2:l < j/\j<=k
    ·rw [OJ hj2];exact hu _ _ OH OH
    ·rw [OI hj2];exact hu _ _ hij OH
theorem yP(A:oV n lt I cmp)(T:mH n lt){Q:Array Nat->OP->Prop}:∀(f:Nat)(p:Array Nat)(k:Nat)(s:OP),k+f=n->bE n p->Up lt p k->I s->(∀p' s',I s'->bE n p'->Up lt p' n->Q p' s')->(kas_bin f p k).kasWp cmp Q s
 | 0,p,k,s,hf,hp,hu,hI,q=>q p s hI hp (by rw [show n=k by omega];exact hu)
 | f+1,p,k,s,hf,hp,hu,hI,q=>by
  unfold kas_bin;rw [LL];have hk:k < n:=OH
  refine uH A T hp hk hu k 0 k s OH OH (IB _) hI (λi z=>by omega) (λi a b=>by omega) λl s' hI' hl h1 h2=>?_;exact yP A T f _ (k+1) s' OH (hp.bubble _ _) (hu.ins T hp hk hl h1 h2) hI' q
theorem Fh(A:oV n lt I cmp)(T:mH n lt)(h2:2<=n){Q:Array Nat->OP->Prop}{s:OP}(hI:I s)(q:∀p s',I s'->bE n p->Up lt p n->Q p s'):(kas_sort n).kasWp cmp Q s:=by
 unfold kas_sort;rw [LL];refine Fg A T h2 (uF n) hI λk p s1 hI1 k1 k2 hp hu=>?_;dsimp only;by_cases hk:k < n
 ·rw [OJ hk,show max k 1=k by omega];exact yP A T (n - k) p k s1 OH hp hu hI1 q
 ·rw [OI hk];exact q p s1 hI1 hp (by rw [show n=k by omega];exact hu)
end
def aD(p q:Int×Str):Bool:=decide (p.1 < q.1) || (decide (p.1=q.1) && decide (p.2.cps.toList < q.2.cps.toList))
def mi(h:O3)(v:ON)(p:Int×Str):Prop:=∃a o n t u,v= .ref a/\h.get? a=some o/\o.cls= .type "tuple"/\o.data= .seq #[.int p.1 t,.str p.2 u] n
section
variable {P:OZ} {w:O4} {A:O5} {E:ON->OP->Prop} {s:OP}
theorem Fi{v u:ON}{p q:Int×Str}{Q:Bool->OP->Prop}(hv:mi s.heap v p)(hu:mi s.heap u q)(h:Q (aD p q) s):OV (OU P w) A (keyLt' (tuples' true) v u) Q E s:=by
 obtain⟨a,oa,na,t1,t2,rfl,ha,_,da⟩:=hv;obtain⟨b,ob,nb,t3,t4,rfl,hb,_,db⟩:=hu;refine kat_lt ha da hb db (kat_cons ((intKind P w).eqBool (intKind_is _ _ _ _) (intKind_is _ _ _ _) (kat_go (λe1=>?_) λe1=>?_)))
 ·have e1:p.1=q.1:=by simpa using e1
  refine kat_yes (kat_cons ((PySem.strKind P w).eqBool (strKind_is _ _ _ _) (strKind_is _ _ _ _) (kat_go (λe2=>?_) λe2=>?_)))
  ·have e2:p.2=q.2:=by simpa using e2
   refine kat_yes (kat_nil ?_);have:aD p q=false:=by unfold aD;rw [e1,e2];simp
   rw [this] at h;simpa using h
  ·have e2:p.2≠q.2:=by simpa using e2
   refine kat_no (kat_one _ _ ?_);have:aD p q=decide (p.2.cps.toList < q.2.cps.toList):=by unfold aD;simp [e1]
   rw [this] at h;exact lt_str h
 ·have e1:p.1≠q.1:=by simpa using e1
  refine kat_no ?_;show OV _ _ (oneLt' true _ _) _ _ _;refine oneLt_int ?_;have:aD p q=decide (p.1 < q.1):=by unfold aD;simp [e1]
  rw [this] at h;exact h
theorem yQ{n:Nat}{kp:Nat->Int×Str}(hd:∀i j,i < n->j < n->kp i=kp j->i=j):mH n λi j=>aD (kp i) (kp j):=by
 have tl:∀a b:Str,a≠b->(decide (a.cps.toList < b.cps.toList))=!decide (b.cps.toList < a.cps.toList):=λa b h=>by
  by_cases z:a.cps.toList < b.cps.toList
  ·rw [decide_eq_true z,decide_eq_false (List.lt_asymm z)];rfl
  ·have z2:b.cps.toList<=a.cps.toList:=OA.mp z;have:b.cps.toList < a.cps.toList:=by
    rcases Classical.em (b.cps.toList < a.cps.toList) with y | y
    ·exact y
    ·exact absurd (ED (List.le_antisymm (OA.mp y) z2)) h
   rw [decide_eq_false z,decide_eq_true this];rfl
 refine⟨λi j hi hj hij=>?_,λi j k hi hj hk h1 h2=>?_⟩
 ·have hne:kp i≠kp j:=λe=>hij (hd i j hi hj e);unfold aD;by_cases e:(kp i).1=(kp j).1
  ·have e2:(kp i).2≠(kp j).2:=λz=>hne (Prod.ext e z);simp only [e,Int.lt_irrefl,decide_false,Ke,decide_true,JU];exact tl _ _ e2
  ·have e':(kp j).1≠(kp i).1:=λz=>e z.symm;simp only [e,e',decide_false,M7,Kc];by_cases z:(kp i).1 < (kp j).1
   ·rw [decide_eq_true z,decide_eq_false OH];rfl
   ·rw [decide_eq_false z,decide_eq_true OH];rfl
 ·unfold aD at h1 h2⊢;simp only [MZ,Kk,decide_eq_true_eq] at h1 h2⊢;rcases h1 with h1 | ⟨h1,h1'⟩ <;> rcases h2 with h2 | ⟨h2,h2'⟩
  ·left;omega
  ·left;omega
  ·left;omega
  ·right;exact⟨h1.trans h2,Og h1' h2'⟩
theorem yR{ks:List ON}{kp:Nat->Int×Str}(hk:∀i v,ks[i]?=some v->mi s.heap v (kp i))(h2:2<=ks.length){Q:SortKind->OP->Prop}(h:Q (tuples' true) s):OV (OU P w) A (keyKind' ks.toArray) Q E s:=by
 have key:∀(ks:List ON)(kp:Nat->Int×Str),(∀i v,ks[i]?=some v->mi s.heap v (kp i))->∃fs:List ON,KatTups s.heap ks fs/\fs.length=ks.length/\∀v∈fs,∃n t,v=Lm n t:=by
  intro ks
  induction ks with
  | nil=>intro kp _;exact⟨[],KatTups.nil,rfl,OL⟩
  | cons v ks ih=>
   intro kp hk;obtain⟨fs,a,b,c⟩:=ih (λi=>kp (i+1)) λi v e=>hk (i+1) v (by simpa using e);obtain⟨ad,o,n,t,u,rfl,h1,h2,h3⟩:=hk 0 v rfl;refine⟨.int (kp 0).1 t::fs,KatTups.cons h1 h2 h3 rfl a,by simp [b],λx hx=>?_⟩;rcases IP.mp hx with rfl | hx
   ·exact⟨_,_,rfl⟩
   ·exact c x hx
 obtain⟨fs,a,b,c⟩:=key ks kp hk;refine kat_kind (T:= .type "int") a OH (λv hv=>?_) OG h;obtain⟨n,t,rfl⟩:=c v hv;exact .now
theorem yS{n:Nat}{ks:List ON}{kp:Nat->Int×Str}(hn:ks.length=n)(h2:2<=n)(hk:∀i v,ks[i]?=some v->mi s.heap v (kp i))(hd:∀i j,i < n->j < n->kp i=kp j->i=j){G:Array Nat->OP->Prop}
 (q:∀p,bE n p->Up (λi j=>aD (kp i) (kp j)) p n->G p s):(kas_sort n).kasWp (kas_ask P w A (tuples' true) ks) G s:=by
 refine Fh (lt:=λi j=>aD (kp i) (kp j)) (I:=λs'=>s'=s) ⟨λi j C s' hi hj hij e c=>?_⟩ (yQ hd) h2 rfl λp s' e hp hu=>by subst e;exact q p hp hu
 subst e;have ei:ks[i]?=some (ks.getD i .none):=by simp [show i < ks.length by omega]
 have ej:ks[j]?=some (ks.getD j .none):=by simp [show j < ks.length by omega]
 exact Fi (hk i _ ei) (hk j _ ej) (c _ rfl)
def yT(kS D:OO)(s:OP)(out:List ON)(C:OP->Prop):Prop:=∀h' c,h'.get? D=some (O9 "list" out.toArray c)->(∀b u,b≠kS->b≠D->s.heap.get? b=some u->h'.get? b=some u)->C {s with heap:=h'}
theorem yU{st:SortSt}{kS D:OO}{ks out:List ON}{e e1:Nat}{C:NH->OP->Prop}(hk:s.heap.get? kS=some (O9 "list" ks.toArray e))(hD:s.heap.get? D=some (O9 "list" #[] e1))(hne:kS≠D)(hf:failedOf st=none)
 (ho:(arrOf st).map (·.2)=out.toArray)(h64:out.length < 64)(hk64:ks.length < 64)(q:yT kS D s out (C (.done (.ret .none)))):OV (OU P w) A (ksk_tail D false e1 (.ref kS) st) C E s:=by
 have hsl:OS=16777216:=O8;unfold ksk_tail;rw [ho];refine OQ (PK hk rfl (OQ (wpAny_letGo ?_)) (by rw [II];omega) (J1 _));have u1:=K6 s.heap kS (J0 λ_=>(#[]:Array ON));have hD1:(s.heap.update kS (J0 λ_=>(#[]:Array ON))).get? D=some (O9 "list" #[] e1):=(u1.2 D (Ne.symm hne)).trans hD;refine OQ (seqEpoch_at (s:={s with heap:=s.heap.update kS (J0 λ_=>(#[]:Array ON))}) hD1 rfl ?_);rw [OI OL];refine OQ (PK (s:={s with heap:=s.heap.update kS (J0 λ_=>(#[]:Array ON))}) hD1 rfl ?_ (J1 _) (by show out.toArray.size<=_;rw [II];omega));have u2:=K6 (s.heap.update kS (J0 λ_=>(#[]:Array ON))) D (J0 λ_=>out.toArray);rw [hf];simp only [bne_self_eq_false,Jl,if_false];exact OT (q _ _ (PQ hD1 λ_=>out.toArray) λb u n1 n2 z=>(u2.2 b n2).trans ((u1.2 b n1).trans z))
theorem Fj{kS D:OO}{vs ks:List ON}{n e e1:Nat}{kp:Nat->Int×Str}{C:NH->OP->Prop}(hv:vs.length=n)(hn:ks.length=n)(h64:n < 64)(hks:s.heap.get? kS=some (O9 "list" ks.toArray e))(hD:s.heap.get? D=some (O9 "list" #[] e1))(hne:kS≠D)
 (hk:∀i v,ks[i]?=some v->mi s.heap v (kp i))(hd:∀i j,i < n->j < n->kp i=kp j->i=j)
 (q:∀p,bE n p->Up (λi j=>aD (kp i) (kp j)) p n->yT kS D s (p.toList.map λi=>vs.getD i .none) (C (.done (.ret .none)))):OV (OU P w) A (ksk_end D false vs.toArray e1 (.ref kS) ks.toArray) C E s:=by
 unfold ksk_end;have hz:vs.toArray.size=n:=by rw [II];exact hv
 by_cases h2:n < 2
 ·simp only [Jl,if_false,hz,h2,if_true];refine OQ (OT (OQ (OT ?_)));refine yU hks hD hne rfl (out:=vs) ?_ OH OH ?_
  ·show(ks.toArray.zip vs.toArray).map (·.2)=vs.toArray;apply N0.mp;simp only [N1,N2];rw [N3 OH]
  ·have:=q _ (uF n) (λi j a b=>by omega);have e:((NG (JP n)).toList.map λi=>vs.getD i Ln)=vs:=by
    apply Mc (by simp [hv]);intro i a b;simp at a b⊢;rw [IQ b];rfl
   rw [e] at this;exact this
 ·simp only [Jl,if_false,hz,h2];refine OQ (yR hk OH ?_);have hl:ks.length=vs.length:=OH
  refine OQ (Pe (kat_run (κ:=tuples' true) (E:=λ_ _=>False) (Q:=λst' s'=>s'=s/\∃p,bE n p/\Up (λi j=>aD (kp i) (kp j)) p n/\arrOf st'=p.map (kas_item (ks.toArray.zip vs.toArray))/\failedOf st'=none) (G:=λp s'=>s'=s/\bE n p/\Up (λi j=>aD (kp i) (kp j)) p n) hl OH OH
   (λp st' s' a b c d=>⟨d.1,p,d.2.1,d.2.2,b,c⟩) ?_) (λr s' hr=>?_) λ_ _ x=>x.elim)
  ·rw [hv];exact yS hn OH hk hd λp a b=>⟨rfl,a,b⟩
  ·obtain⟨rfl,p,p1,p2,p3,p4⟩:=hr;refine yU hks hD hne p4 (kat_snds hl p3) ?_ OH (q p p1 p2);rw [Iw,Jc,p1.size];exact h64
end
section
variable {X:Cx} {Qm:List (OO×Obj)} {σ:St} {H:Hp} {s:OP}
theorem aa.track{o:HO}{D:OO}{ch:List OO}{t':Nat}{h':O3}(I:aa X Qm σ H s)(hD:D∈ch)(f:∀b∈ch,lY X Qm H b)(k:∀b u,b ∉ ch->s.heap.get? b=some u->h'.get? b=some u)(new:bF X.prog X.w (ak H D o) h' D o):aa X Qm σ (ak H D o) {s with heap:=h',toks:=t'}:=by
 have nC:∀b u,H b=some u->b ∉ ch:=λb u e z=>by rw [(f b z).1] at e;cases e
 have nD:∀b u,H b=some u->b≠D:=λb u e z=>nC b u e (by rw [z];exact hD);refine I.step (g':=s.gens) (d':=s.drawn) (ch:=ch) (λb hb=>?_) (λb o _ _ hc e _=>k b o hc e) (λb o _ _ hc e _=>⟨o.slots,k b o hc e⟩) (λb o hc _ n=>by rw [ay (λz=>hc (by rw [z];exact hD))];exact n)
  (λb o hc e=>⟨o,k b o hc e⟩) (λb xs e=>by rw [ay (nD _ _ e)];exact e) (λb u xs e=>by rw [ay (nD _ _ e)];exact e) (λb ps e=>⟨#[],by rw [ay (nD _ _ e),e];simp⟩) (λm hm=>hm.at' λo e=>k _ o (λz=>(f _ z).2.1 rfl) e) (λb u e=>?_) I.bare
 ·obtain⟨f0,f1,f2,f3,f4,f5⟩:=f b hb;exact⟨f3,f1,f4,f5⟩
 ·by_cases hb:b=D
  ·subst hb;rw [bg] at e;cases e;exact new
  ·rw [ay hb] at e;refine(I.hok b u e).stay (λc v hc q=>k c v (λz=>?_) q) (λc q=>by rw [ay (nD _ _ q)];exact q) (λc xs q=>by rw [ay (nD _ _ q)];exact q) (λc xs q=>by rw [ay (nD _ _ q)];exact q);rcases hc with r | r
   ·subst r;exact nC _ _ e z
   ·exact nC _ _ r z
theorem Fl{k:Nat}{f:OO}{fd:OX}{ps:List Str}{sp:Sp}{v:V}{u:ON}{Q:VK}(Fk:az X.prog X.w X.K X.mg X.base aJ k f fd ps sp)(hr:aK k X.A.in1.in1)(hb:cB X.K fd ps [])(I:aa X Qm σ H s)(r:ax v u)(h:sp [v] H Q E0):
 OV (OU X.prog X.w) X.A.in1.in1 (call (.ref f) [u]) (EP X Qm σ Q) (λ_ _=>False) s:=by
 have r2:aB [v] [u]:= .cons r .nil;have hl:([u]++[]).length=ps.length:=by
  have:=Fk.len _ _ _ _ h;simpa using this
 have hb2:=hb s [u] I.kIn hl;rw [IW] at hb2;refine wpAny_call (PF (Fk.run X.A.in1.in1 X.stack s H ⟨[u],[]⟩ [u] [v] Q E0 hr I.env0.in1.in1 hb2 r2 h) λr s' hq=>?_);cases r with
 | error e=>exact hq.elim
 | ok fl=>
  cases fl with
  | ret u=>exact I.after hq
  | next=>exact JQ hq
  | brk=>exact JQ hq
  | cont=>exact JQ hq
def ny(X:Cx)(Qm:List (OO×Obj))(b:OO):Prop:=b≠X.env.locals/\b ∉ X.fs/\(b∈X.ex\/X.s₀.heap.objs.size<=b)/\(∀x c,X.env.cells.lookup x=some c->c≠b)/\∀p∈X.pn++Qm,p.1≠b
theorem aa.out(I:aa X Qm σ H s){b:OO}(hb:s.heap.objs.size<=b):ny X Qm b:=(I.fpOk (H':=H) hb (I.hok.fresh hb)).2
structure nz (X:Cx) (Qm:List (OO×Obj)) (σ:St) (H:Hp) (O:Ex) (kS D:OO) (e1:Nat) (kds:List OM) (ks:List ON) (s:OP):Prop where
 ex:∃H' kvs e,aa X (Qm++[(kS,O9 "list" ks.toArray e),(D,O9 "list" #[] e1)]) σ H' s/\ah H H'/\aj X.K H' O kvs kds/\aB kvs ks
theorem nz.push{O:Ex}{kS D:OO}{e1:Nat}{kds:List OM}{ks:List ON}{H':Hp}{kvs:List V}{e:Nat}{h':O3}{kv:V}{kd:OM}{k:ON}(oS:ny X Qm kS)(oD:ny X Qm D)(hne:kS≠D)
 (I:aa X (Qm++[(kS,O9 "list" ks.toArray e),(D,O9 "list" #[] e1)]) σ H' s)(hs:ah H H')(hk:aj X.K H' O kvs kds)(hv:aB kvs ks)(k1:Dt X.K H' O kv kd)(k2:ax kv k)
 (hu:∃e',h'.get? kS=some (O9 "list" (ks++[k]).toArray e'))(kept:∀b u,b≠kS->s.heap.get? b=some u->h'.get? b=some u):nz X Qm σ H O kS D e1 (kds++[kd]) (ks++[k]) {s with heap:=h'}:=by
 obtain⟨e',hu⟩:=hu;have pS:=I.pin (kS,O9 "list" ks.toArray e) OL;have pD:=I.pin (D,O9 "list" #[] e1) OL;have I1:aa X Qm σ H' s:=I.pins_of λp hp=>I.pin p (by simp only [Jf] at hp⊢;exact .inr (.inl hp));have I2:aa X Qm σ H' {s with heap:=h'}:=I1.turned (t':=s.toks) (it:=kS) kept pS.2.1 oS.1 oS.2.2.1 oS.2.2.2.1 oS.2.2.2.2;refine⟨H',kvs++[kv],e',I2.pins_of λp hp=>?_,hs,hk.append (.cons k1 .nil),hv.append (.cons k2 .nil)⟩;rcases Jf.mp hp with z | z
 ·exact I2.pin p (Jo _ z)
 ·simp only [IP,K8,or_false] at z;rcases z with rfl | rfl
  ·exact⟨hu,pS.2.1,oS.1,oS.2.1,λv z=>by cases z⟩
  ·exact⟨kept _ _ (Ne.symm hne) pD.1,pD.2.1,oD.1,oD.2.1,λv z=>by cases z⟩
theorem yV{k:Nat}{f:OO}{fd:OX}{ps:List Str}{F:List OM->(OM->Prop)->Prop}{O:Ex}{kS D:OO}{e1:Nat}{kd:OM->OM}(Fk:az X.prog X.w X.K X.mg X.base aJ k f fd ps (bA X.K F))(hr:aK k X.A.in1.in1)(hb:cB X.K fd ps [])(trk:∀l,O l->H l≠none)
 (oS:ny X Qm kS)(oD:ny X Qm D)(hne:kS≠D){body:ON->PUnit->Sem (ForInStep PUnit)}{E:ON->OP->Prop}
 (hbo:∀(x:ON) (s:OP) (Q':OP->Prop),OV (OU X.prog X.w) X.A.in1.in1 (call (.ref f) [x]) (λk s'=>OV (OU X.prog X.w) X.A.in1.in1 (MS (.ref kS) (·.push k)) (λ_ s''=>Q' s'') (λ_ _=>False) s') (λ_ _=>False) s->OV (OU X.prog X.w) X.A.in1.in1 (body x ⟨⟩) (λr s'=>r= .yield ⟨⟩/\Q' s') E s):
 ∀(r:List ON)(xr:List V)(dr:List OM)(kds:List OM)(ks:List ON)(s:OP)(Q:OP->Prop),aB xr r->aj X.K H O xr dr->(∀d∈dr,∀R:OM->Prop,R (kd d)->F [d] R)->nz X Qm σ H O kS D e1 kds ks s->ks.length+r.length < 64->
  (∀ks' s',nz X Qm σ H O kS D e1 (kds++dr.map kd) ks' s'->ks'.length=ks.length+r.length->Q s')->OV (OU X.prog X.w) X.A.in1.in1 (forIn r PUnit.unit body) (λ_ s'=>Q s') E s
 | [],xr,dr,kds,ks,s,Q,hv,hd,hF,M,hl,q=>by
  cases hv;cases hd;rw [N8];exact OT (q ks s (by rw [Jg,IW];exact M) OL)
 | x::r,xr,dr,kds,ks,s,Q,hv,hd,hF,M,hl,q=>by
  cases hv with
  | @cons v _ xr _ h1 h2=>
   cases hd with
   | @cons _ d _ dr g1 g2=>
    rw [N5];rw [IE] at hl;obtain⟨H',kvs,e,I,hs,hk,hvk⟩:=M.ex;refine OQ (Pe (hbo x s (λs'=>∃k,nz X Qm σ H O kS D e1 (kds++[kd d]) (ks++[k]) s') (Pe (Fl (Q:=λv2 H2=>ah H' H2/\Dt X.K H2 O v2 (kd d)) Fk hr hb I h1 ⟨O,[d],λy=>y=kd d,λl z e=>trk l z (by
     cases q:H l with
     | none=>rfl
     | some u=>rw [hs _ _ q] at e;cases e),.cons (g1.mono hs) .nil,hF d OL _ rfl,λy v2 H2 e s2 r2=>by subst e;exact⟨s2,r2⟩⟩) (λkk s' hq=>?_) λ_ _ z=>z)) (λr' s' hq=>?_) λ_ _ z=>z)
    ·obtain⟨kv,H2,I2,rk,s2,dk⟩:=hq;have pS:=I2.pin (kS,O9 "list" ks.toArray e) OL;refine PK pS.1 rfl ⟨kk,?_⟩ (by rw [II];have:OS=16777216:=O8;omega) (by rw [Array.size_push,II];have:OS=16777216:=O8;omega);have u1:=K6 s'.heap kS (J0 (·.push kk));have gk:=PQ pS.1 (·.push kk);rw [show ks.toArray.push kk=(ks++[kk]).toArray by simp] at gk;exact nz.push oS oD hne I2 (hs.trans s2) (hk.mono s2) hvk dk rk ⟨_,gk⟩ λb u n z=>(u1.2 b n).trans z
    ·obtain⟨rfl,kk,M'⟩:=hq;refine yV Fk hr hb trk oS oD hne hbo r xr dr (kds++[kd d]) (ks++[kk]) s' Q h2 g2 (λy hy=>hF y (by simp [hy])) M' (by simp;omega) λks' s2 M2 l2=>q ks' s2 ?_ (by rw [l2];simp;omega);rw [IA,<-List.singleton_append,<-MD];exact M2
def bT(p:Int×Str):OM:= .tuple [.int p.1,.str p.2]
theorem uI{h:V}{u:ON}{O:Ex}{p:Int×Str}(I:aa X Qm σ H s)(d:Dt X.K H O h (bT p))(r:ax h u):mi s.heap u p:=by
 obtain⟨a,xs,rfl,hq,hd⟩:=(Sh.dt d).tup;cases r;obtain⟨its,rv,⟨o,e,c,n,dd⟩,_⟩:=I.tuple hq;cases hd with
 | cons g1 g2=>
  cases g2 with
  | cons g2 g3=>
   cases g3;cases g1;cases g2;cases rv with
   | cons r1 r2=>
    cases r2 with
    | cons r2 r3=>
     cases r3;obtain⟨t,rfl⟩:=r1;obtain⟨u,rfl⟩:=r2;exact⟨a,o,n,t,u,rfl,e,c,dd⟩
theorem qo{K:Iq}{H:Hp}{O:Ex}:∀{xs:List V}{ds:List OM}{i:Nat}{d:OM},aj K H O xs ds->ds[i]?=some d->∃x,xs[i]?=some x/\Dt K H O x d
 | _,_,0,d,.cons h r,e=>by simp at e;subst e;exact⟨_,rfl,h⟩
 | _,_,i+1,d,.cons h r,e=>by simp only [Ja] at e⊢;exact qo r e
theorem rJ{xs:List V}{us:List ON}:∀{i:Nat}{u:ON},aB xs us->us[i]?=some u->∃x,xs[i]?=some x/\ax x u:=by
 intro i u h e;have hl:=h.length;have hi:i < us.length:=(IG.mp e).1;obtain⟨u',e',r⟩:=h.get (show xs[i]?=some (xs[i]'OH) by simp);rw [e] at e';cases e';exact⟨_,OL,r⟩
theorem Fm{O:Ex}{kS D:OO}{e1:Nat}{kps:List (Int×Str)}{ks:List ON}(M:nz X Qm σ H O kS D e1 (kps.map bT) ks s):(∀i v,ks[i]?=some v->mi s.heap v (kps.getD i (0,Ip "")))/\ks.length=kps.length:=by
 obtain⟨H',kvs,e,I,hs,hk,hv⟩:=M.ex;have hl:ks.length=kps.length:=by rw [<-hv.length,hk.length,Iw]
 refine⟨λi v ei=>?_,hl⟩;have hi:i < kps.length:=by rw [<-hl];exact(IG.mp ei).1
 obtain⟨x,ex,rx⟩:=rJ hv ei;obtain⟨y,ey,dy⟩:=qo (i:=i) (d:=bT kps[i]) hk (by rw [IS,IQ hi];rfl);rw [ex] at ey;cases ey;have:kps.getD i (0,Ip "")=kps[i]:=by simp [hi]
 rw [this];exact uI I dy rx
theorem Fo{k:Nat}{f:OO}{fd:OX}{ps:List Str}{F:List OM->(OM->Prop)->Prop}{O:Ex}{D:OO}{n0:Nat}{kf:OM->Int×Str}{vs:List ON}{xs:List V}{ds:List OM}{Q:V->Hp->Prop}{C:NH->OP->Prop}{E:ON->OP->Prop}
 (Fk:az X.prog X.w X.K X.mg X.base aJ k f fd ps (bA X.K F))(hr:aK k X.A.in1.in1)(hb:cB X.K fd ps [])(trk:∀l,O l->H l≠none)(I:aa X Qm σ H s)(oD:ny X Qm D)(hHD:H D=none)(hD:s.heap.get? D=some (O9 "list" vs.toArray n0))
 (hv:aB xs vs)(hd:aj X.K H O xs ds)(hF:∀d∈ds,∀R:OM->Prop,R (bT (kf d))->F [d] R)(h64:ds.length < 64)(nd:(ds.map kf).Nodup)
 (q:∀(H':Hp) (xs':List V) (ds':List OM),ah H H'->H' D=none->aj X.K H' O xs' ds'->ds'.Perm ds->ds'.Pairwise (λa b=>aD (kf a) (kf b)=true)->Q (.ref D) (ak H' D (.lst xs')))
 (fin:∀s',EP X Qm σ Q (.ref D) s'->C (.done (.ret .none)) s'):OV (OU X.prog X.w) X.A.in1.in1 (ksk_tree D (.ref f) false) C E s:=by
 have hsl:OS=16777216:=O8;have lv:vs.length=ds.length:=by rw [<-hv.length,hd.length]
 have lD:D < s.heap.objs.size:=IC hD;unfold ksk_tree;refine OQ (listItems_at hD rfl (OQ (PK hD rfl ?_ (by rw [II];omega) (J1 _))));have u1:=K6 s.heap D (J0 λ_=>(#[]:Array ON));have g1:=PQ hD λ_=>(#[]:Array ON);have I1:aa X Qm σ H {s with heap:=s.heap.update D (J0 λ_=>(#[]:Array ON))}:=I.turned (t':=s.toks) (it:=D) (λb u n z=>(u1.2 b n).trans z) hHD oD.1 oD.2.2.1 oD.2.2.2.1 oD.2.2.2.2;generalize s.heap.update D (J0 λ_=>(#[]:Array ON))=h1 at*;generalize (if (#[]:Array ON).size==vs.toArray.size then n0 else n0+1)=e1 at*;refine OQ (seqEpoch_at (s:={s with heap:=h1}) g1 rfl ?_);refine OQ (wpAny_newTuple ?_ (by show vs.length<=_;omega));have I2:aa X Qm σ H {s with heap:=h1.push {cls:= .type "tuple",data:= .seq vs.toArray}}:=I1.kept (t':=s.toks) λb u z=>Iz _ z;have g2:(h1.push {cls:= .type "tuple",data:= .seq vs.toArray}).get? D=some (O9 "list" #[] e1):=Iz _ g1;show OV _ _ _ _ _ {s with heap:=h1.push {cls:= .type "tuple",data:= .seq vs.toArray}};generalize h1.push {cls:= .type "tuple",data:= .seq vs.toArray}=h2 at*;refine OQ (Qf (s:={s with heap:=h2}) ?_ (J1 _));have oS:ny X Qm h2.objs.size:=I2.out (IB _);have hne:h2.objs.size≠D:=ML (IC g2);have I3:aa X Qm σ H {s with heap:=h2.push (O9 "list" #[] 0)}:=I2.kept (t':=s.toks) λb u z=>Iz _ z;have hS0:H h2.objs.size=none:=I2.hok.fresh (IB _);have M0:nz X Qm σ H O h2.objs.size D e1 [] [] {s with heap:=h2.push (O9 "list" #[] 0)}:=by
  refine⟨H,[],0,I3.pins_of λp hp=>?_,ah.refl _,.nil,.nil⟩;rcases Jf.mp hp with z | z
  ·exact I3.pin p (Jo _ z)
  ·simp only [IP,K8,or_false] at z;rcases z with rfl | rfl
   ·exact⟨Jh _ rfl,hS0,oS.1,oS.2.1,λv z=>by cases z⟩
   ·exact⟨Iz _ g2,hHD,oD.1,oD.2.1,λv z=>by cases z⟩
 refine Py ?_;unfold ksk_rest;refine OQ (wpAny_rule ?_);rw [List.forIn_toArray];refine OQ (yV (kd:=λd=>bT (kf d)) (E:=E) Fk hr hb trk oS oD hne (λx s' Q' hx=>?_) vs xs ds [] [] _ _ hv hd hF M0 (by simp;omega) λks s' M hkl=>?_)
 ·refine OQ (wpAny_attempt (Pe hx (λkk s2 hk=>?_) λ_ _ z=>z.elim));exact OQ (Pe hk (λ_ s3 z=>OT ⟨rfl,z⟩) λ_ _ z=>z.elim)
 ·rw [Ju,<-Function.comp_def,<-Kx] at M;obtain⟨hk,hkn⟩:=Fm M;rw [Iw] at hkn;obtain⟨H',kvs,e,I4,hs,_,_⟩:=M.ex;have pS:=I4.pin (h2.objs.size,O9 "list" ks.toArray e) OL;have pD:=I4.pin (D,O9 "list" #[] e1) OL;have I5:aa X Qm σ H' s':=I4.pins_of λp hp=>I4.pin p (by simp only [Jf] at hp⊢;exact .inr (.inl hp));refine OQ (listItems_at pS.1 rfl ?_);refine Fj (n:=ds.length) (kp:=λi=>(ds.map kf).getD i (0,Ip "")) lv hkn h64 pS.1 pD.1 hne hk (λi j hi hj ee=>?_) λp pp pu h' c gD kept=>?_
  ·have e1':(ds.map kf).getD i (0,Ip "")=(ds.map kf)[i]'(by simpa using hi):=by simp [hi]
   have e2':(ds.map kf).getD j (0,Ip "")=(ds.map kf)[j]'(by simpa using hj):=by simp [hj]
   rw [e1',e2'] at ee;exact(Ma nd).mp ee
  ·refine fin _ ⟨.ref D,ak H' D (.lst (p.toList.map λi=>xs.getD i .non)),?_,rfl,q H' _ (p.toList.map λi=>ds.getD i .none) hs pD.2.1 ?_ ?_ ?_⟩
   ·refine I5.track (t':=s'.toks) (ch:=[h2.objs.size,D]) OL (λb hb=>?_) (λb u hb z=>kept b u (λy=>hb (by simp [y])) (λy=>hb (by simp [y])) z) ⟨?_,_,c,?_,gD⟩
    ·simp only [IP,K8,or_false] at hb;rcases hb with rfl | rfl
     ·exact⟨pS.2.1,oS⟩
     ·exact⟨pD.2.1,oD⟩
    ·rw [Iw,Jc,pp.size];omega
    ·have:∀l:List Nat,(∀i∈l,i < ds.length)->aB (l.map λi=>xs.getD i .non) (l.map λi=>vs.getD i .none):=by
      intro l
      induction l with
      | nil=>intro _;exact .nil
      | cons a l ih=>
       intro hl;have ha:=hl a OL;refine .cons ?_ (ih λi hi=>hl i (by simp [hi]));obtain⟨x,ex,rx⟩:=rJ hv (show vs[a]?=some (vs[a]'OH) by simp);have e1':xs.getD a .non=x:=by simp [ex]
       have e2':vs.getD a .none=vs[a]'OH:=by simp [show a < vs.length by omega]
       show ax (xs.getD a .non) (vs.getD a .none);rw [e1',e2'];exact rx
     exact this _ λi hi=>by simpa using pp.perm.mem_iff.mp hi
   ·have:∀l:List Nat,(∀i∈l,i < ds.length)->aj X.K H' O (l.map λi=>xs.getD i .non) (l.map λi=>ds.getD i .none):=by
     intro l
     induction l with
     | nil=>intro _;exact .nil
     | cons a l ih=>
      intro hl;have ha:=hl a OL;refine .cons ?_ (ih λi hi=>hl i (by simp [hi]));obtain⟨x,ex,dx⟩:=qo (i:=a) (d:=ds[a]) hd (by simp [ha]);have e1':xs.getD a .non=x:=by simp [ex]
      have e2':ds.getD a .none=ds[a]:=by simp [ha]
      show Dt X.K H' O (xs.getD a .non) (ds.getD a .none);rw [e1',e2'];exact dx.mono hs
    exact this _ λi hi=>by simpa using pp.perm.mem_iff.mp hi
   ·have h1:=pp.perm.map λi=>ds.getD i .none;have e:(JP ds.length).map (λi=>ds.getD i M6)=ds:=by
     apply Mc OL;intro i a b;simp at a b⊢;rw [IQ b];rfl
    rw [e] at h1;exact h1
   ·rw [KC,MI];intro i j hi hj hij;have:=pu i j hij (by rw [Jc,pp.size] at hj;exact hj);have ei:p.getD i 0=p.toList[i]:=by simp [LX,show i < p.size by simpa using hi]
    have ej:p.getD j 0=p.toList[j]:=by simp [LX,show j < p.size by simpa using hj]
    rw [ei,ej] at this;have li:p.toList[i] < ds.length:=by simpa using pp.perm.mem_iff.mp (KY hi)
    have lj:p.toList[j] < ds.length:=by simpa using pp.perm.mem_iff.mp (KY hj)
    have ff:∀a,a < ds.length->(ds.map kf).getD a (0,Ip "")=kf (ds.getD a .none):=λa ha=>by simp [ha]
    dsimp only at this;rw [ff _ li,ff _ lj] at this;exact this
theorem Fp{k:Nat}{f l:OO}{fd:OX}{ps:List Str}{F:List OM->(OM->Prop)->Prop}{O:Ex}{kf:OM->Int×Str}{xs:List V}{ds:List OM}{Q:VK}
 (hc:X.calm=true)(Fk:az X.prog X.w X.K X.mg X.base aJ k f fd ps (bA X.K F))(hr:aK k X.A.in1.in1)(hb:cB X.K fd ps [])(trk:∀l,O l->H l≠none)(I:aa X Qm σ H s)(hq:aV X.K H l xs)
 (hd:aj X.K H O xs ds)(hF:∀d∈ds,∀R:OM->Prop,R (bT (kf d))->F [d] R)(h64:ds.length < 64)(nd:(ds.map kf).Nodup)
 (q:∀(H':Hp) (p:OO) (xs':List V) (ds':List OM),ah H H'->H' p=none->aj X.K H' O xs' ds'->ds'.Perm ds->ds'.Pairwise (λa b=>aD (kf a) (kf b)=true)->Q (.ref p) (ak H' p (.lst xs'))):
 OV (OU X.prog X.w) X.A (call (.builtin "sorted") [.ref l] [(Ip "key",.ref f)]) (EP X Qm σ Q) X.xe s:=by
 have hsl:OS=16777216:=O8;obtain⟨vs,hv,pl,hz⟩:=I.list hq;have lv:vs.length=ds.length:=by rw [<-hv.length,hd.length]
 refine call_function_entry_kw kind_sorted plain_sorted entry_sorted (ksk_s1 _ _) ?_;unfold Builtin.«sorted»;refine OQ (m:=checkCount "sorted" 1 1 _) (OT ?_);refine OQ (collect_list pl.isList ?_ OH);have I1:aa X Qm σ H {s with heap:=(s.heap.push (O9 "list" #[] 0)).update s.heap.objs.size (J0 (·++vs.toArray))}:=by
  refine I.kept (t':=s.toks) λb u z=>?_;have hlt:b < s.heap.objs.size:=IC z;exact(Np _ _ _ _ (IZ hlt)).trans (Iz _ z)
 generalize (s.heap.push (O9 "list" #[] 0)).update s.heap.objs.size (J0 (·++vs.toArray))=h1 at*;refine OQ (Qf (s:={s with heap:=h1}) ?_ OH);have I2:aa X Qm σ H {s with heap:=h1.push (O9 "list" vs.toArray 0)}:=I1.kept (t':=s.toks) λb u z=>Iz _ z;have gD:(h1.push (O9 "list" vs.toArray 0)).get? h1.objs.size=some (O9 "list" vs.toArray 0):=Jh _ rfl;refine OQ (Py (wpAny_call_entry_kw slot_list_sort ⟨_,gD,rfl⟩ entry_list_sort ?_ (ksk_l1 _ _)));rw [ksk_t1];refine Fo (kf:=kf) Fk hr hb trk I2 (I1.out (IB _)) (I1.hok.fresh (IB _)) gD hv hd hF h64 nd (Q:=Q) (λH' xs' ds' a b c d e=>q H' _ xs' ds' a b c d e) λs' hs'=>?_;exact⟨_,rfl,OT ⟨_,rfl,hs'⟩⟩
end
section
variable {P:OZ} {w:O4} {A:O5} {E:ON->OP->Prop} {s:OP}
theorem Fq{D:OO}{vs:List ON}{n n0:Nat}{kp:Nat->Int×Str}{C:NH->OP->Prop}(hv:vs.length=n)(h64:n < 64)(hD:s.heap.get? D=some (O9 "list" vs.toArray n0))(hk:∀i v,vs[i]?=some v->mi s.heap v (kp i)/\v≠ .ref D)(hd:∀i j,i < n->j < n->kp i=kp j->i=j)
 (q:∀p,bE n p->Up (λi j=>aD (kp i) (kp j)) p n->∀h' c,h'.get? D=some (O9 "list" (p.toList.map λi=>vs.getD i .none).toArray c)->(∀b u,b≠D->s.heap.get? b=some u->h'.get? b=some u)->C (.done (.ret .none)) {s with heap:=h'}):
 OV (OU P w) A (Builtin.«list.sort» ⟨[.ref D],[]⟩) C E s:=by
 have hsl:OS=16777216:=O8;rw [list_sort_plain];refine OQ (listItems_at hD rfl (OQ (PK hD rfl ?_ (by rw [II];omega) (J1 _))));have u1:=K6 s.heap D (J0 λ_=>(#[]:Array ON));have g1:=PQ hD λ_=>(#[]:Array ON);have k1:∀b u,b≠D->s.heap.get? b=some u->(s.heap.update D (J0 λ_=>(#[]:Array ON))).get? b=some u:=λb u n z=>(u1.2 b n).trans z;generalize s.heap.update D (J0 λ_=>(#[]:Array ON))=h1 at*;generalize (if (#[]:Array ON).size==vs.toArray.size then n0 else n0+1)=e1 at*;refine OQ (seqEpoch_at (s:={s with heap:=h1}) g1 rfl ?_);refine OQ (wpAny_newTuple ?_ (by show vs.length<=_;omega));refine OQ (Qf ?_ (J1 _));have g2:((h1.push {cls:= .type "tuple",data:= .seq vs.toArray}).push {cls:= .type "list",data:= .seq ([]:List ON).toArray}).get? D=some (O9 "list" #[] e1):=Iz _ (Iz _ g1);have k2:∀b u,b≠D->s.heap.get? b=some u->((h1.push {cls:= .type "tuple",data:= .seq vs.toArray}).push {cls:= .type "list",data:= .seq ([]:List ON).toArray}).get? b=some u:=λb u n z=>Iz _ (Iz _ (k1 b u n z));show OV _ _ _ _ _ {s with heap:=(h1.push {cls:= .type "tuple",data:= .seq vs.toArray}).push {cls:= .type "list",data:= .seq ([]:List ON).toArray}};generalize (h1.push {cls:= .type "tuple",data:= .seq vs.toArray}).push {cls:= .type "list",data:= .seq ([]:List ON).toArray}=h2 at*;refine Py ?_;have hz:vs.toArray.size=n:=by rw [II];exact hv
 have last:∀(st:SortSt)(p:Array Nat),bE n p->Up (λi j=>aD (kp i) (kp j)) p n->failedOf st=none->(arrOf st).map (·.2)=(p.toList.map λi=>vs.getD i .none).toArray->
  OV (OU P w) A (do
   let touched:=(<-seqEpoch D) !=e1
   MS (.ref D) λ_=>(arrOf st).map (·.2)
   if let some e:=failedOf st then rule "list.sort.comparison-raised";throw e
   if touched then rule "list.sort.modified";raiseError "ValueError" "list modified during sort"
   ret .none) C E {s with heap:=h2}:=by
  intro st p p1 p2 hf ho;rw [ho,hf];refine OQ (seqEpoch_at (s:={s with heap:=h2}) g2 rfl ?_);refine OQ (PK (s:={s with heap:=h2}) g2 rfl ?_ (J1 _) (by rw [II,Iw,Jc,p1.size];omega));simp only [bne_self_eq_false,Jl,if_false];have u3:=K6 h2 D (J0 λ_=>(p.toList.map λi=>vs.getD i Ln).toArray);exact OT (q p p1 p2 _ _ (PQ g2 λ_=>(p.toList.map λi=>vs.getD i Ln).toArray) λb u n z=>(u3.2 b n).trans (k2 b u n z))
 by_cases h2':n < 2
 ·simp only [hz,h2',if_true];refine OQ (OT (OQ (OT ?_)));refine last _ (NG (JP n)) (uF n) (λi j a b=>by omega) rfl ?_;show(vs.toArray.zip vs.toArray).map (·.2)=_;apply N0.mp;simp only [N1,N2];rw [N3 OH];apply Mc (by simp [hv]);intro i a b;simp at a b⊢;rw [IQ a];rfl
 ·simp only [hz,h2',if_false];have hk2:∀i v,vs[i]?=some v->mi h2 v (kp i):=λi v e=>by
   obtain⟨⟨a,o,m,t,u,rfl,x1,x2,x3⟩,ne⟩:=hk i v e;exact⟨a,o,m,t,u,rfl,k2 a o (λz=>ne (by rw [z])) x1,x2,x3⟩
  refine OQ (yR (s:={s with heap:=h2}) hk2 OH ?_);refine OQ (Pe (kat_run (κ:=tuples' true) (ks:=vs) (s:={s with heap:=h2}) (E:=λ_ _=>False) (Q:=λst' s'=>s'={s with heap:=h2}/\∃p,bE n p/\Up (λi j=>aD (kp i) (kp j)) p n/\arrOf st'=p.map (kas_item (vs.toArray.zip vs.toArray))/\failedOf st'=none) (G:=λp s'=>s'={s with heap:=h2}/\bE n p/\Up (λi j=>aD (kp i) (kp j)) p n) rfl OH OH
   (λp st' s' a b c d=>⟨d.1,p,d.2.1,d.2.2,b,c⟩) ?_) (λr s' hr=>?_) λ_ _ x=>x.elim)
  ·rw [hv];exact yS (s:={s with heap:=h2}) hv OH hk2 hd λp a b=>⟨rfl,a,b⟩
  ·obtain⟨rfl,p,p1,p2,p3,p4⟩:=hr;exact last _ p p1 p2 p4 (kat_snds rfl p3)
end
theorem Fs{X:Cx}:cI X (.builtin "sorted") (λxs H Q=>∃(p:OO)(us:List V)(O:Ex)(ps:List (Int×Str)),xs=[.ref p]/\aV X.K H p us/\aj X.K H O us (ps.map bT)/\ps.length < 64/\ps.Nodup/\∀(l:OO)(us':List V)(ps':List (Int×Str)),H l=none->aj X.K H O us' (ps'.map bT)->ps'.Perm ps->ps'.Pairwise (λa b=>aD a b=true)->Q (.ref l) (ak H l (.lst us'))):=by
 intro Qm s σ H xs ws Q I r h;obtain⟨l,us,O,ps,rfl,hq,hd,h64,nd,q⟩:=h;obtain⟨u,rfl,rx⟩:=lZ r;cases rx;have hsl:OS=16777216:=O8;obtain⟨vs,hv,pl,hz⟩:=I.list hq;have lv:vs.length=ps.length:=by rw [<-hv.length,hd.length,Iw]
 refine Calls.call_function_entry kind_sorted plain_sorted entry_sorted (args_sorted1 _) ?_;unfold Builtin.«sorted»;refine OQ (m:=checkCount "sorted" 1 1 _) (OT ?_);refine OQ (collect_list pl.isList ?_ OH);have I1:aa X Qm σ H {s with heap:=(s.heap.push (O9 "list" #[] 0)).update s.heap.objs.size (J0 (·++vs.toArray))}:=by
  refine I.kept (t':=s.toks) λb u z=>?_;have hlt:b < s.heap.objs.size:=IC z;exact(Np _ _ _ _ (IZ hlt)).trans (Iz _ z)
 generalize (s.heap.push (O9 "list" #[] 0)).update s.heap.objs.size (J0 (·++vs.toArray))=h1 at*;refine OQ (Qf (s:={s with heap:=h1}) ?_ OH);have I2:aa X Qm σ H {s with heap:=h1.push (O9 "list" vs.toArray 0)}:=I1.kept (t':=s.toks) λb u z=>Iz _ z;have gD:(h1.push (O9 "list" vs.toArray 0)).get? h1.objs.size=some (O9 "list" vs.toArray 0):=Jh _ rfl;have hH:H h1.objs.size=none:=I1.hok.fresh (IB _);have oD:ny X Qm h1.objs.size:=I1.out (IB _);have isp:∀i v,vs[i]?=some v->mi (h1.push (O9 "list" vs.toArray 0)) v (ps.getD i (0,Ip ""))/\v≠ .ref h1.objs.size:=λi v ei=>by
  have hi:i < ps.length:=by rw [<-lv];exact(IG.mp ei).1
  obtain⟨x,ex,rx⟩:=rJ hv ei;obtain⟨y,ey,dy⟩:=qo (i:=i) (d:=bT ps[i]) hd (by rw [IS,IQ hi];rfl);rw [ex] at ey;cases ey;have e:ps.getD i (0,Ip "")=ps[i]:=by simp [hi]
  rw [e];have a:=uI I1 dy rx;refine⟨uI I2 dy rx,λz=>?_⟩;obtain⟨ad,o,m,t,u,e1,e2,_⟩:=a;rw [e1] at z;cases z;exact absurd (IC e2) (Kb _)
 refine OQ (Py (P5 slot_list_sort ⟨_,gD,rfl⟩ entry_list_sort ?_ (args_list_sort _)));refine Fq (s:={s with heap:=h1.push (O9 "list" vs.toArray 0)}) (n:=ps.length) (kp:=λi=>ps.getD i (0,Ip "")) lv h64 gD isp (λi j hi hj ee=>?_) λp pp pu h' c g kept=>?_
 ·have e1':ps.getD i (0,Ip "")=ps[i]:=by simp [hi]
  have e2':ps.getD j (0,Ip "")=ps[j]:=by simp [hj]
  rw [e1',e2'] at ee;exact(Ma nd).mp ee
 ·have lt:∀i∈p.toList,i < ps.length:=λi hi=>by simpa using pp.perm.mem_iff.mp hi
  have dm:aj X.K H O (p.toList.map λi=>us.getD i .non) ((p.toList.map λi=>ps.getD i (0,Ip "")).map bT):=by
   have:∀l:List Nat,(∀i∈l,i < ps.length)->aj X.K H O (l.map λi=>us.getD i .non) ((l.map λi=>ps.getD i (0,Ip "")).map bT):=by
    intro l
    induction l with
    | nil=>intro _;exact .nil
    | cons a l ih=>
     intro hl;have ha:=hl a OL;refine .cons ?_ (ih λi hi=>hl i (by simp [hi]));obtain⟨x,ex,dx⟩:=qo (i:=a) (d:=bT ps[a]) hd (by rw [IS,IQ ha];rfl);have e1':us.getD a .non=x:=by simp [ex]
     have e2':ps.getD a (0,Ip "")=ps[a]:=by simp [ha]
     show Dt X.K H O (us.getD a .non) (bT (ps.getD a (0,Ip "")));rw [e1',e2'];exact dx
   exact this _ lt
  have vm:aB (p.toList.map λi=>us.getD i .non) (p.toList.map λi=>vs.getD i .none):=by
   have:∀l:List Nat,(∀i∈l,i < ps.length)->aB (l.map λi=>us.getD i .non) (l.map λi=>vs.getD i .none):=by
    intro l
    induction l with
    | nil=>intro _;exact .nil
    | cons a l ih=>
     intro hl;have ha:=hl a OL;refine .cons ?_ (ih λi hi=>hl i (by simp [hi]));obtain⟨x,ex,rx⟩:=rJ hv (show vs[a]?=some (vs[a]'OH) by simp);have e1':us.getD a .non=x:=by simp [ex]
     have e2':vs.getD a .none=vs[a]'OH:=by simp [show a < vs.length by omega]
     show ax (us.getD a .non) (vs.getD a .none);rw [e1',e2'];exact rx
   exact this _ lt
  refine⟨_,rfl,OT ⟨_,rfl,.ref h1.objs.size,ak H h1.objs.size (.lst (p.toList.map λi=>us.getD i .non)),?_,rfl,q _ _ (p.toList.map λi=>ps.getD i (0,Ip "")) hH dm ?_ ?_⟩⟩
  ·refine I2.track (t':=s.toks) (ch:=[h1.objs.size]) OL (λb hb=>?_) (λb u hb z=>kept b u (λy=>hb (by simp [y])) z) ⟨?_,_,c,vm,g⟩
   ·rw [Jv] at hb;subst hb;exact⟨hH,oD⟩
   ·rw [Iw,Jc,pp.size];omega
  ·have h1:=pp.perm.map λi=>ps.getD i (0,Ip "");have e:(JP ps.length).map (λi=>ps.getD i (0,Ip ""))=ps:=by
    apply Mc OL;intro i a b;simp at a b⊢;rw [IQ b];rfl
   rw [e] at h1;exact h1
  ·rw [KC,MI];intro i j hi hj hij;have:=pu i j hij (by rw [Jc,pp.size] at hj;exact hj);have ei:p.getD i 0=p.toList[i]:=by simp [LX,show i < p.size by simpa using hi]
   have ej:p.getD j 0=p.toList[j]:=by simp [LX,show j < p.size by simpa using hj]
   rw [ei,ej] at this;exact this
section
variable {X:Cx} {H0:Hp} {O0:Ex}
def gA(t:DA):DA:=λδ Q=>t δ λds=>∃ps:List (Int×Str),ds=[.list (ps.map bT)]/\ps.length < 64/\ps.Nodup/\∀ps':List (Int×Str),ps'.Perm ps->ps'.Pairwise (λa b=>aD a b=true)->Q (ps'.map bT)
theorem Ft{a:OR}{t:DA}{np p:Pos}(hg:Gl X "sorted")(hm:X.mg "sorted"=none)(hv:Pb "sorted"=some (.builtin "sorted"))(ha:PA X [a] (mE X.K H0 O0 t))(he:OW [a] X.env=(false,eval a X.env)::OW [] X.env:=by rfl)(hpl:(Pd p (OW [] X.env)).any (·.1)=false:=by rfl):
 FE X H0 O0 (.Call (.Name "sorted" np) [a] [] p) (gA t):=
 (ck Fs hg hm hv ha (he:=he) (hpl:=hpl)).imp λσ H Q uu94=>by obtain⟨O,δ,Qd,w,q,k⟩:=uu94;exact⟨O,δ,_,w,q,λds vs H1 uu95 s1 r1=>by
  obtain⟨ps,e,h64,nd,q1⟩:=uu95;subst e;cases r1 with
  | cons h r=>
   cases r;obtain⟨a,us,rfl,h1,d1⟩:=h.lst;exact⟨a,us,O,ps,rfl,h1,d1,h64,nd,λl us' ps' hl hd hp hs=>k _ _ _ _ (q1 ps' hp hs) s1 hl hd⟩⟩
def gB(F:List OM->(OM->Prop)->Prop)(kf:OM->Int×Str)(t:DA):DA:=λδ Q=>t δ λds0=>∃ds,ds0=[.list ds]/\(∀d∈ds,∀R:OM->Prop,R (bT (kf d))->F [d] R)/\ds.length < 64/\(ds.map kf).Nodup/\∀ds',ds'.Perm ds->ds'.Pairwise (λa b=>aD (kf a) (kf b)=true)->Q ds'
theorem Fv{a:OR}{t:DA}{np p gp kp:Pos}{g:Str}{k:Nat}{f:OO}{fd:OX}{ps:List Str}{F:List OM->(OM->Prop)->Prop}(kf:OM->Int×Str)(hc:X.calm=true)(Fk:az X.prog X.w X.K X.mg X.base aJ k f fd ps (bA X.K F))(hr:aK k X.A.in1.in1)(hb:cB X.K fd ps [])
 (hgg:Gl X g)(hgm:X.mg g=some (.ref f))(hg:Gl X "sorted")(hm:X.mg "sorted"=none)(hv:Pb "sorted"=some (.builtin "sorted"))(ha:PA X [a] (mE X.K H0 O0 t))(hdb:(g==("__debug__":Str))=false:=by decide)
 (he:Pd p (OW [a] X.env)=(false,eval a X.env)::Pd p (OW [] X.env):=by rfl)(hplain:(Pd p (OW [a] X.env)).any (·.1)=false:=by rfl):
 FE X H0 O0 (.Call (.Name "sorted" np) [a] [⟨some "key",.Name g gp,kp⟩] p) (gB F kf t):=by
 intro Qm s σ H Q I h;obtain⟨O,δ,Qd,w,q,kk⟩:=h;refine Pn (oC I hg hm hv ?_);refine callWith_kw (au (ha p Qm s σ H (λvs H1=>∃ds0,ah H H1/\oP X.K H1 O vs ds0/\∃ds,ds0=[.list ds]/\(∀d∈ds,∀R:OM->Prop,R (bT (kf d))->F [d] R)/\ds.length < 64/\(ds.map kf).Nodup/\∀ds',ds'.Perm ds->ds'.Pairwise (λa b=>aD (kf a) (kf b)=true)->Qd ds') I ⟨O,δ,_,w,q,λds0 vs H1 q1 s1 r1=>⟨ds0,s1,r1,q1⟩⟩) λus s1 hus=>?_) he hplain rfl rfl;obtain⟨vs,H1,I1,rv,ds0,s1',r1,ds,e,hF,h64,nd,q1⟩:=hus;subst e;refine kws_cons (nN I1 hgg hgm (kws_nil ?_) hdb);cases r1 with
 | cons h r=>
  cases r;obtain⟨ad,xs,rfl,hq,hd⟩:=h.lst;obtain⟨u,rfl,rx⟩:=lZ rv;cases rx;exact Fp (kf:=kf) hc Fk hr hb (w.mono s1').trk I1 hq hd hF h64 nd λH' l xs' ds' a b c d e=>kk _ _ _ _ (q1 ds' d e) (s1'.trans a) b c
end
section
open PySem.SeqAt
open PySem.AutoSeq1 (wpAny_loadPart')
open PySem.MeetsSeq PySem.MeetsSeq2 PySem.MeetsSeq3
theorem Fw(l b:OO)(n n2:Nat)(dd dd2:Option OO)(sl sl2:Array (Option ON))(p q:Int×Str)(t1 t2 t3 t4:Tok):
 Meets (Builtin.«tuple.__lt__» ⟨[.ref l,.ref b],[]⟩)
  (λ_ R s=>s.heap.get? l=some {cls:= .type "tuple",dict:=dd,data:= .seq #[.int p.1 t1,.str p.2 t2] n,slots:=sl}/\s.heap.get? b=some {cls:= .type "tuple",dict:=dd2,data:= .seq #[.int q.1 t3,.str q.2 t4] n2,slots:=sl2}/\
   R (.ok (.ret (.bool (aD p q)))) s):=
 .of_wp λprog w A R s h=>by
  obtain⟨hp,g,d,tk,os⟩:=s;obtain⟨hl,hb,h⟩:=h;have f2:=AutoSeq1.sub_tuple_tuple
  wp_walk using Pl hl,Pl hb,wpAny_forIn_list _ (λrest b s'=>b.1=none/\s'=⟨hp,g,d,tk,os⟩/\(rest=[(Lm p.1 t1,Lm q.1 t3),(La p.2 t2,La q.2 t4)]\/(rest=[(La p.2 t2,La q.2 t4)]/\p.1=q.1)\/(rest=[]/\p.1=q.1/\p.2=q.2))) _
  case turn=>
   rintro⟨y,x⟩ rest b s' ⟨hb',rfl,h3⟩;rcases h3 with h3 | ⟨h3,e1⟩ | ⟨h3,_⟩
   ·injection h3 with hyx hrest
    injection hyx with hy hx
    subst hy hx;obtain⟨e,he,hiff⟩:=HT.eqAt_int A.in1 ⟨hp,g,d,tk,os⟩ p.1 t1 q.1 t3;refine OQ (he prog w _ _ ?_);cases e with
    | true=>
     wp_walk
     exact⟨rfl,rfl,.inr (.inl ⟨hrest,hiff.mp rfl⟩)⟩
    | false=>
     have ne:p.1≠q.1:=λz=>absurd (hiff.mpr z) IF;have hri:=HT.rcLt_int A.in1 ⟨hp,g,d,tk,os⟩ p.1 t1 q.1 t3 prog w;have hv:aD p q=decide (p.1 < q.1):=by unfold aD;simp [ne]
     rw [hv] at h
     wp_walk using hri
     exact⟨_,rfl,by simpa using h⟩
   ·injection h3 with hyx hrest
    injection hyx with hy hx
    subst hy hx;have he:=EqAt.str_str (A:=A.in1) (s:=⟨hp,g,d,tk,os⟩) p.2 t2 q.2 t4;refine OQ (he prog w _ _ ?_);cases e:(p.2==q.2) with
    | true=>
     wp_walk
     exact⟨rfl,rfl,.inr (.inr ⟨hrest,e1,eq_of_beq e⟩)⟩
    | false=>
     have hri:∀(E:ON->OP->Prop)(Q:ON->OP->Prop),Q (.bool (decide (p.2.cps.toList < q.2.cps.toList))) ⟨hp,g,d,tk,os⟩->OV (OU prog w) A.in1 (richCompare .Lt (.str p.2 t2) (.str q.2 t4)) Q E ⟨hp,g,d,tk,os⟩:=λE Q z=>(lt_str z:OV (OU prog w) A.in1 (Pa .Lt (.str p.2 t2) (.str q.2 t4)) Q E _);have hv:aD p q=decide (p.2.cps.toList < q.2.cps.toList):=by unfold aD;simp [e1]
     rw [hv] at h
     wp_walk using hri
     exact⟨_,rfl,by simpa using h⟩
   ·cases h3
  case fin=>
   rintro⟨b1,b2⟩ s' ⟨hb',rfl,h3⟩;simp only at hb';subst hb';rcases h3 with h3 | ⟨h3,e1⟩ | ⟨h3,e1,e2⟩
   ·cases h3
   ·cases h3
   ·have hv:aD p q=false:=by unfold aD;rw [e1,e2];simp
    rw [hv] at h
    wp_walk
    exact⟨_,rfl,by simpa [Builtin.Tuple.tupleCompareSizes] using h⟩
  case h=>
   exact⟨rfl,rfl,.inl rfl⟩
end
def yW(K:Iq):R2:=λx y H Q=>∃a b p q,x= .ref a/\y= .ref b/\aZ K H a [.int p.1,.str p.2]/\aZ K H b [.int q.1,.str q.2]/\Q (.bl (aD p q)) H
theorem Fx{X:Cx}(hu:X.A.units < PZ):bx X (Pa .Lt) (yW X.K):=by
 intro Qm s σ H x y v u Q I rx ry h;obtain⟨a,b,p,q,rfl,rfl,ha,hb,z⟩:=h;cases rx;cases ry;obtain⟨its,r1,⟨⟨c1,d1,da1,s1⟩,o1,k1,n1,e1⟩,_⟩:=I.tuple ha;obtain⟨its2,r2,⟨⟨c2,d2,da2,s2⟩,o2,k2,n2,e2⟩,_⟩:=I.tuple hb;simp only at k1 e1 k2 e2;subst k1 e1 k2 e2;cases r1 with
 | cons x1 r1=>
  cases r1 with
  | cons x2 r1=>
   cases r1;obtain⟨t1,rfl⟩:=x1;obtain⟨t2,rfl⟩:=x2;cases r2 with
   | cons y1 r2=>
    cases r2 with
    | cons y2 r2=>
     cases r2;obtain⟨t3,rfl⟩:=y1;obtain⟨t4,rfl⟩:=y2;exact richCompare_meets_room (op:= .Lt) ⟨_,o1,rfl⟩ ⟨_,o2,rfl⟩ PySem.F.slot_tuple_lt PySem.F.entry_tuple_lt (PySem.F.args_tuple_lt_2 _ _) (Fw a b n1 n2 d1 d2 s1 s2 p q t1 t2 t3 t4) ⟨o1,o2,(λx=>nomatch x),.bl (aD p q),H,I,rfl,z⟩ hu
def gC:OM->OM->(OM->Prop)->Prop:=λx y Q=>∃p q:Int×Str,x=bT p/\y=bT q/\Q (.bool (aD p q))
theorem Fy{K:Iq}:bU K (yW K) gC:=λH O x y dx dy Qd R _ hx hy uu96 k=>by
 obtain⟨p,q,e1,e2,z⟩:=uu96;subst e1 e2;obtain⟨a,xs,rfl,h1,g1⟩:=hx.tup;obtain⟨b,ys,rfl,h2,g2⟩:=hy.tup;cases g1 with
 | cons x1 g1=>
  cases g1 with
  | cons x2 g1=>
   cases g1;cases x1;cases x2;cases g2 with
   | cons y1 g2=>
    cases g2 with
    | cons y2 g2=>
     cases g2;cases y1;cases y2;exact⟨a,b,p,q,rfl,rfl,h1,h2,k _ _ H z (ah.refl _) (.bl _)⟩
section
variable {X:Cx} {H0:Hp} {O0:Ex}
def Fz(tc:DB)(tb:DS):DS:=λE δ=>∃W:Nat->Dl->Prop,(∃m,W m δ)/\∀m δ,W m δ->tc δ λb=>if b=true then tb {E with nx:=λδ'=>∃m',m' < m/\W m' δ',ct:=λδ'=>∃m',m' < m/\W m' δ',bk:=E.nx} δ else E.nx δ
theorem yX{c:OR}{body:List O6}{tc:DB}{tb:DS}{pos:Pos}(hp:PR (OU X.prog X.w) X.A X.env X.xe)(hc:PT X c (bK X.K H0 O0 tc))(hb:bu X body (aT X.K H0 O0 tb)):PS X (.While c body [] pos) (aT X.K H0 O0 (Fz tc tb)):=
 (vN hp hc hb).imp λD σ H uu0=>by
  obtain⟨O,δ,E,w,⟨W,⟨m0,w0⟩,st⟩,k1,k2,k3,k4⟩:=uu0;refine⟨λm σ' H'=>∃O' δ',Wd X.K H0 O0 H' O' σ' δ'/\aH H H' O O'/\W m δ',⟨m0,O,δ,w,aH.refl _ _,w0⟩,λm σ1 H1 ⟨O1,δ1,w1,S1,q1⟩=>⟨O1,δ1,_,w1,st m δ1 q1,λb H2 q2 s2=>?_⟩⟩;cases b with
  | false=>
   rw [OI OL] at q2⊢;exact k1 O1 δ1 σ1 H2 q2 (w1.mono s2) (S1.trans (.same s2))
  | true=>
   rw [OJ rfl] at q2⊢;refine⟨λσ' H'=>∃O' δ' m',m' < m/\Wd X.K H0 O0 H' O' σ' δ'/\aH H H' O O'/\W m' δ',λσ' H' uu2=>by obtain⟨O',δ',m',lt,w',S',q'⟩:=uu2;exact⟨m',lt,O',δ',w',S',q'⟩,O1,δ1,_,w1.mono s2,q2,?_,k2,?_,?_⟩
   ·rintro O' δ' σ' H' ⟨m',lt,q'⟩ w' S';exact⟨O',δ',m',lt,w',S1.trans ((aH.same s2).trans S'),q'⟩
   ·intro O' δ' σ' H' q' w' S';exact k1 O' δ' σ' H' q' w' (S1.trans ((aH.same s2).trans S'))
   ·rintro O' δ' σ' H' ⟨m',lt,q'⟩ w' S';exact⟨O',δ',m',lt,w',S1.trans ((aH.same s2).trans S'),q'⟩
abbrev k6(ks:List Str)(ds:List OM):OM:=xf (ks.map .str) ds
def k7(i:Nat)(t:DS):DS:=λE δ=>∃kd,δ[i]?=some (some (.k kd))/\∃ks:List Str,kd.map (·.1)=ks.map LR/\t E (δ.set i (some (.v (k6 ks (kd.map (·.2))))))
theorem aa.fast{X:Cx}{Qm:List (OO×Obj)}{σ:St}{H:Hp}{s:OP}(I:aa X Qm σ H s){a:OO}{kv:List (ag×V)}(ha:H a=some (.dK kv)):∃o,aa X Qm σ (ak H a (.frz o (.dK kv))) s:=by
 obtain⟨z,hd,vs,rel,o,es,ep,g,r1,r2,r3⟩:=I.hok a _ ha;exact⟨o,I.write (x:=a) (e:=a) (o:= .frz o (.dK kv)) (h':=s.heap) (t':=s.toks) (by rw [ha];exact Km) (.inl rfl) (λ_ _ _ q=>q) ⟨o,g⟩ ⟨g,z,hd,vs,rel,o,es,ep,g,r1,r2,r3⟩⟩
theorem FA{st:O6}{t:TS}(h:PS X st t)(i:Nat):PS X st (λD σ H=>∃a kv,σ[i]?=some (some (.ref a))/\H a=some (.dK kv)/\∀o,t D σ (ak H a (.frz o (.dK kv)))):=by
 intro Qm s σ H D I q;obtain⟨a,kv,_,ha,q⟩:=q;obtain⟨o,I2⟩:=I.fast ha;exact h Qm s σ _ D I2 (q o)
def eF:List Str->List OM->Str->Option OM
 | k::ks,d::ds,z=>if k=z then some d else eF ks ds z
 | _,_,_=>none
def k8(to tk:DT):DT:=λδ Q=>to δ λx=>∃ks ds,x=k6 ks ds/\tk δ λy=>∃z,y= .str z/\∃d,eF ks ds z=some d/\Q d
def k9(to t:DT):DT:=λδ Q=>to δ λx=>∃ss:List Str,x= .list (ss.map .str)/\t δ λy=>∃z,y= .str z/\z∈ss/\Q (.int (ss.idxOf z:Nat))
def la(t:DA):DA:=λδ Q=>t δ λds=>∃n k:Int,ds=[.int 0,.int n,.int k]/\0<=n/\n < 1000/\0 < k/\k < 1000/\∀js:List Int,(∀j∈js,0<=j/\j < n)->js.length<=1000->Q (js.map .int)
def gE(t:DT)(g:DG)(tc:DB)(te:DT)(k:Nat)(fr:List Nat):DA:=λδ Q=>dO t g tc te k fr δ Q\/dB t g tc te k fr δ Q
theorem FC{N':List Str}{k:Nat}{fr:List Nat}{scope:Pc}{iter elt tg:OR}{ifs:List OR}{t te:DT}{tc:DB}{g:TG}{dg:DG}{pos:Pos}(hc:X.calm=true)(S:bz X.env.scope X.N N' k fr scope)(hi:DF X H0 O0 iter t)(gd:GD X.K g dg)(hk:nq g k)(hfr:fr.Nodup)
 (hg:∀fp C s H,PG (bt X scope N' fp C s H) tg g)(hf:∀fp C s H,dY (bt X scope N' fp C s H) ifs (bK X.K H0 O0 tc))(he:∀fp C s H,PE (bt X scope N' fp C s H) elt (up X.K H0 O0 te))
 (hs:∀x,O7 iter X.env x=pure x:=by intro _;rfl):FE X H0 O0 (.ListComp elt [⟨tg,iter,ifs,0⟩] scope pos) (gE t dg tc te k fr):=by
 intro Qm s σ H Q I h;obtain⟨O,δ,Qd,w,q,kk⟩:=h;rcases q with q | q
 ·exact rh hc S hi gd hk hfr hg hf he hs Qm s σ H Q I ⟨O,δ,Qd,w,q,kk⟩
 ·exact ri hc S hi gd hk hfr hg hf he hs Qm s σ H Q I ⟨O,δ,Qd,w,q,kk⟩
end
theorem FD{fr:List Nat}{σ:St}{v u:Option V}:nS (aS 2 fr σ) (((aS 2 fr σ).set 0 v).set 1 u):=by
 refine⟨OL,λi w h=>?_⟩
 match i with
 | 0=>simp [aS,IJ] at h
 | 1=>simp [aS,IJ] at h
 | i+2=>simpa [aS,IJ] using h
theorem FF{K:Iq}{n:Nat}:nq (pC K n (oG (lX 0) (oG (lX 1) pA))) 2:=λfr σ v H' R uu3=>by obtain⟨a,xs,e,h1,h2,x,r,e1,y,r2,e2,e3,h⟩:=uu3;exact⟨a,xs,e,h1,h2,x,r,e1,y,r2,e2,e3,FD,h⟩
section
variable {X:Cx} {H0:Hp} {O0:Ex}
theorem nA{T:String}{a c:OR}{t:DT}{np p:Pos}{K':Iq}(hK:X.K=K')(hg:Gl X "isinstance")(hm:X.mg "isinstance"=none)(hv:Pb "isinstance"=some (.builtin "isinstance"))(ha:DF X H0 O0 a t)(hc:PE X c (tC (.ty T)))
 (hs:OW [a,c] X.env=(false,eval a X.env)::OW [c] X.env:=by rfl)(hs2:OW [c] X.env=[(false,eval c X.env)]:=by rfl)(hb:(Pd p (OW [c] X.env)).any (·.1)=false:=by rfl):DE X H0 O0 (.Call (.Name "isinstance" np) [a,c] [] p) (eh K' T t):=by
 subst hK;exact D7 hg hm hv ha hc hs hs2 hb
end
def lg:OM->OM->(OM->Prop)->Prop:=λx y Q=>∃xs ys,x= .tuple xs/\y= .tuple ys/\xs.length+ys.length<=OS/\Q (.tuple (xs++ys))
theorem FG(a b:Int):ng (.int a) (.int b)=true:=rfl
theorem FH(a b:Str):ng (.str a) (.str b)=true:=rfl
theorem FI(a b:Bool):ng (.bl a) (.bl b)=true:=rfl
theorem FJ(b:Int):ng .non (.int b)=true:=rfl
theorem FK(b:Int):ng (.int b) .non=true:=rfl
def eG(f:Str)(d:OM):List (Str×OM)->List (Str×OM)
 | []=>[(f,d)]
 | (g,x)::r=>if g=f then(g,d)::r else(g,x)::eG f d r
theorem nW.put{K:Iq}{H:Hp}{O:Ex}{f:Str}{v:V}{d:OM}(hv:Dt K H O v d):∀{fs:List (Str×V)}{fd:List (Str×OM)},nW K H O fs fd->nW K H O (cJ f v fs) (eG f d fd)
 | [],[],_=>⟨rfl,.cons hv .nil⟩
 | [],_::_,h=>by cases h.1
 | _::_,[],h=>by cases h.1
 | (g,x)::fs,(g',y)::fd,⟨h1,h2⟩=>by
  simp only [IA,Jn] at h1;obtain⟨rfl,h1⟩:=h1;simp only [IA] at h2;cases h2 with
  | cons a r=>
   unfold cJ eG;by_cases e:g=f
   ·rw [OJ e,OJ e];exact⟨by simp only [IA,h1],.cons hv r⟩
   ·rw [OI e,OI e];obtain⟨q1,q2⟩:=nW.put hv (fs:=fs) (fd:=fd) ⟨h1,r⟩;exact⟨by simp only [IA,q1],.cons a q2⟩
section
variable {X:Cx} {H0:Hp} {O0:Ex}
def gF(C:OO)(i:Nat)(f:Str)(t:DT):DS:=λE δ=>t δ λd=>∃l fd,δ[i]?=some (some (.i l C fd))/\fd.length < 1000/\E.nx (δ.set i (some (.i l C (eG f d fd))))
theorem qp{C:OO}{i:Nat}{f:Str}{o e:OR}{t:DT}{pos pos':Pos}(hc:my X.K C)(hn:NoAttr X.K C f)(ho:PE X o (mR i))(he:DE X H0 O0 e t)(hs:Pg e (some (.Attribute o f pos')) pos.line X.env=pure false:=by rfl):
 PS X (.Assign [.Attribute o f pos'] e pos) (aT X.K H0 O0 (gF C i f t)):=
 (Cq ho he hs).imp λD σ H ⟨O,δ,E,w,q,k1,k2,k3,k4⟩=>⟨O,δ,_,w,q,λd u H1 uu5 s1 r1=>by
  obtain⟨l,fd,e,hl,q1⟩:=uu5;have w1:=w.mono s1;obtain⟨dx,fs,h,a,b,c,r⟩:=w1.ownI e;have lf:fs.length=fd.length:=by have:=congrArg L6 r.1;simpa using this
  refine⟨.ref l,h,l,C,dx,fs,rfl,c,hc,hn,by rw [lf];exact hl,k1 _ _ _ _ q1 (w1.putY (y0:= .i l C fd) (y1:= .i l C (eG f d fd)) trivial trivial e h λS a b=>⟨dx,_,rfl,a,b,bg,?_⟩) ⟨λb' o' z n=>?_,λ_ _ n=>n⟩⟩
  ·obtain⟨z1,z2⟩:=r.put (f:=f) r1;exact⟨z1,z2.step S⟩
  ·rw [ay (λy=>n (by rw [y];exact a))];exact s1 _ _ z⟩
abbrev yY(C:OO)(fd:List (Str×OM)):OM:=nV C (fd.map λp=>.str p.1) (fd.map (·.2))
inductive rK (K:Iq) (C:OO) (F:List OM->(OM->Prop)->Prop) (vs:List V) (H:Hp) (Q:VK) (E:XK):Prop
 | mk (x dx:OO) (vs':List V) (H1:Hp) (O:Ex) (ds:List OM) (Qd:OM->Prop):vs= .ref x::vs'->H=ak (ak H1 dx (.own x)) x (.ins C dx [])->H1 x=none->H1 dx=none->dx≠x->(∀l,O l->H1 l≠none)->aj K H1 O vs' ds->F ds Qd->
 (∀d H',Qd d->ah H1 H'->Dt K H' O (.ref x) d->Q .non H')->rK K C F vs H Q E
theorem FL{K:Iq}{C:OO}{F:List OM->(OM->Prop)->Prop}{t:DA}{E:XK}:∀σ H Q,up K H0 O0 (dz F t) σ H Q->wb C (rK K C F) [] E (cU K H0 O0 t) σ H Q:=
 λσ H Q uu6=>by obtain⟨O,δ,Qd,w,q,k⟩:=uu6;exact⟨O,δ,_,w,q,λds vs H1 q1 s1 r1 x dx hx hdx ne=>⟨x,dx,vs,H1,O,ds,Qd,by rw [IW],rfl,hx,hdx,ne,(w.mono s1).trk,r1,q1,λd H2 q2 s2 r2=>⟨rfl,k d _ H2 q2 (s1.trans s2) r2⟩⟩⟩
def qq(N:List Str)(l C:OO)(ds:List OM):Dl:=some (.i l C [])::(cf N (.none::ds)).tail
theorem yZ{K:Iq}{H1:Hp}{O:Ex}{N:List Str}{vs:List V}{ds:List OM}{x dx C:OO}(tr:∀l,O l->H1 l≠none)(r:aj K H1 O vs ds)(hx:H1 x=none)(hdx:H1 dx=none)(ne:dx≠x):
 Wd K H1 O (ak (ak H1 dx (.own x)) x (.ins C dx [])) (λl=>O l\/l=x) (start N (.ref x::vs)) (qq N x C ds):=by
 have w0:=rl (N:=N) tr (.cons .non r);have w1:=w0.mono (ah.new (o:=HO.own x) hdx);have hx1:(ak H1 dx (.own x)) x=none:=by rw [ay (Ne.symm ne)];exact hx
 have:=w1.setY (i:=0) (p:=x) (ho:= .ins C dx []) (y0:= .i x C []) trivial hx1 λO' S a b=>⟨dx,[],rfl,a,b,bg,rfl,.nil⟩;exact this
end
section
variable {P:OZ} {w:O4} {K:Iq} {mg:Str->Option ON} {base:O3}
theorem cm.okI{x qual:Str}{st:O6}{f C:OO}{fd:OX}{N ps:List Str}{k:Nat}{F:List OM->(OM->Prop)->Prop}(Fu:cm K x qual st f fd)(S:bb N ps (aw st))(len:∀ds Q,F ds Q->ds.length+1=ps.length)
 (hbody:∀(cdv:ON) (A:O5) (outer:List Env) (s:OP) (H H1:Hp) (O:Ex) (ds:List OM) (Q:OM->Prop) (E:XK) (l:OO),aK k (A.deeper (Pw qual (aw st) s.heap.objs.size f cdv))->F ds Q->
  ∃t,bu (aX aJ P w K mg base N qual (aw st) f cdv A outer s H E).nox (cT st) (aT K H1 O t)/\t {nx:=λδ=>∃fd,δ[0]?=some (some (.i l C fd))/\Q (yY C fd),rt:=λ_=>False} (qq N l C ds)):az P w K mg base aJ (k+1) f fd ps (rK K C F):=by
 refine Fu.ok S (λvs H Q E h=>?_) (λcdv A outer s H vs Q E hr h=>?_)
 ·obtain⟨x,dx,vs',H1,O,ds,Qd,rfl,_,_,_,_,_,r,q,_⟩:=h;rw [IE,r.length];exact len _ _ q
 ·obtain⟨x,dx,vs',H1,O,ds,Qd,rfl,rfl,hx,hdx,ne,tr,r,q,k⟩:=h;obtain⟨t,ht,q'⟩:=hbody cdv A outer s _ H1 O ds Qd E x hr q;refine⟨_,ht,_,_,_,yZ tr r hx hdx ne,q',λO' δ' σ' H' z w' S'=>?_,λd v H' z s' r'=>z.elim,λ_ _ _ _ z=>z.elim,λ_ _ _ _ z=>z.elim⟩;obtain⟨fd,e,z⟩:=z;obtain⟨dx',fs,h,a,b,c,r1,r2⟩:=w'.ownI e;refine k _ _ z w'.same (.obj c ?_ b (r2.step ⟨λ_ _ y _=>y,λb' _ n z=>n (w'.sub b' z)⟩));rw [show(fd.map λp:Str×OM=>ID p.1)=(fd.map (·.1)).map ID by rw [Kx];rfl,<-r1,Kx];rfl
end
theorem Dt.objI{K:Iq}{H:Hp}{O:Ex}{v:V}{C:OO}{kp ds:List OM}(h:Dt K H O v (nV C kp ds)):∃a dx fs,v= .ref a/\H a=some (.ins C dx fs)/\kp=fs.map (λp=>ID p.1)/\aj K H O (fs.map (·.2)) ds:=by
 generalize e:nV C kp ds=x at h;cases h with
 | @obj a C' dx fs kp' ds' h1 h2 n r=>
  simp only [nV,OC.injEq,Jn,Oh,JI,Jz,JO,and_true,true_and] at e;obtain⟨e1,e2,e3⟩:=e;have e1:C=C':=by exact_mod_cast e1
  subst e1 e2 e3;exact⟨a,dx,fs,rfl,h1,h2,r⟩
 | _=>first | cases e | simp [nV] at e
section
variable {X:Cx} {H0:Hp} {O0:Ex}
theorem y6{K:Iq}{H:Hp}{O:Ex}{f:Str}{d:OM}:∀{fs:List (Str×V)}{ks:List Str}{ds:List OM},fs.map (λp=>ID p.1)=ks.map ID->aj K H O (fs.map (·.2)) ds->eF ks ds f=some d->∃v,fs.lookup f=some v/\Dt K H O v d
 | [],[],ds,_,_,e=>by unfold eF at e;cases e
 | [],_::_,ds,h,_,_=>by cases h
 | _::_,[],ds,h,_,_=>by cases h
 | (g,x)::fs,k::ks,ds,h,hd,e=>by
  rw [IA] at hd;cases hd with
  | cons h1 h2=>
   simp only [IA,Jn,JV] at h;obtain⟨rfl,h⟩:=h;unfold eF at e;rw [Je];by_cases hk:g=f
   ·rw [OJ hk] at e;cases e;subst hk;exact⟨x,OL,h1⟩
   ·rw [OI hk] at e;have:(f==g)=false:=by simpa using Ne.symm hk
    rw [this];exact y6 h h2 e
def gG(C:OO)(f:Str)(t:DT):DT:=λδ Q=>t δ λx=>∃ks ds d,x=nV C (ks.map .str) ds/\eF ks ds f=some d/\Q d
theorem y8{C:OO}{f:Str}{e:OR}{t:DT}{pos:Pos}(hc:my X.K C)(hn:NoAttr X.K C f)(he:DE X H0 O0 e t)(hb:Px e f X.env (eval e X.env)=eval e X.env:=by rfl):DE X H0 O0 (.Attribute e f pos) (gG C f t):=
 (Cp he hb).imp λσ H Q uu7=>by obtain⟨O,δ,Qd,w,q,k⟩:=uu7;exact⟨O,δ,_,w,q,λx v H1 uu8 s1 r1=>by
  obtain⟨ks,ds,d,ex,ed,q1⟩:=uu8;subst ex;obtain⟨a,dx,fs,rfl,h1,h2,r⟩:=r1.objI;obtain⟨v,hv,dv⟩:=y6 h2.symm r ed;exact⟨a,C,dx,fs,v,rfl,h1,hc,hn,hv,k _ _ _ q1 s1 dv⟩⟩
end
def FN(ss:List Int)(x:Int):List Int:=if x∈ss then ss else ss++[x]
section
variable {X:Cx} {H0:Hp} {O0:Ex}
def lh(t:DA):DA:=λδ Q=>t δ λds=>∃ss:List Int,ds=[.list (ss.map .int)]/\ss.length < 4000/\(ss.foldl FN []).length < 64/\∀ns:List Int,(∀z,z∈ns↔z∈ss)->ns.Pairwise (· < ·)->Q (ns.map .int)
end
def y9:Nat->List OM->List OM
 | _,[]=>[]
 | k,x::r=>.tuple [.int (k:Int),x]::y9 (k+1) r
section
variable {X:Cx} {H0:Hp} {O0:Ex}
def lp(t:DA)(g:DG)(tb:DS):DS:=λE δ=>t δ λds=>∃xs,ds=[.list xs]/\fv g tb E (y9 0 xs) δ
end
def lq:List OM->(OM->Prop)->Prop:=λds Q=>∃i j:Int,ds=[.int i,.int j]/\dn i j/\Q (.tuple [.int (i / j),.int (i % j)])
def gH:List OM->(OM->Prop)->Prop:=λds Q=>∃ns:List Int,ds=[.list (ns.map .int)]/\Q (.int ns.sum)
theorem z9{K:Iq}:l8 K (λxs H Q=>∃(a:OO)(ns:List Int),xs=[.ref a]/\aV K H a (ns.map V.int)/\Q (.int ns.sum) H) gH:=λH O xs ds Qd R tr hs uu9 k=>by
 obtain⟨ns,e,q⟩:=uu9;subst e;cases hs with
 | cons h r=>
  cases r;obtain⟨a,vs,rfl,h1,d1⟩:=h.lst;cases d1.intsL;exact⟨a,ns,rfl,h1,k _ _ H q (ah.refl _) (.int _)⟩
theorem FO{X:Cx}(hc:X.calm=true):cI X (.builtin "min") (λxs H Q=>∃(p:OO)(ns:List Int),xs=[.ref p]/\aV X.K H p (ns.map V.int)/\ns≠[]/\∀M,M∈ns->(∀a∈ns,M<=a)->Q (.int M) H):=by
 intro Qm s σ H xs us Q I r h;obtain⟨p,ns,rfl,hq,hne,q⟩:=h;obtain⟨u,rfl,rx⟩:=lZ r;cases rx;obtain⟨its,rv,pl,hz⟩:=I.list hq;have hi:=uD rv;obtain⟨zs,e⟩:=hi.allInts.items;have hns:ns=zs.toList.map (·.1):=by rw [<-hi.numsOf,<-nums_intItems,<-e]
 have h0:0 < zs.size:=by
  rcases NF zs.size with z | z
  ·exact absurd (by rw [hns];simp [M5.mp z]) hne
  ·exact z
 have hl:=pl.isList;rw [e] at hl;refine min_intList (I.ok.hd hc) hl h0 λv h' tk hv hk=>?_;obtain⟨t,rfl⟩:=intItems_at hv;obtain⟨h1,h2⟩:=argBest_lt (numAt zs) (zs.size - 1);refine⟨.int _,H,I.kept (t':=tk) hk,⟨t,rfl⟩,q _ ?_ λa ha=>?_⟩
 ·rw [hns,numAt_eq];exact getD_mem (by rw [Iw,Jc];omega)
 ·rw [hns] at ha;obtain⟨j,hj,rfl⟩:=mem_getD ha;rw [Iw,Jc] at hj;rw [<-numAt_eq];exact h2 j OH
def gI:List OM->(OM->Prop)->Prop:=λds Q=>∃ns:List Int,ds=[.list (ns.map .int)]/\ns≠[]/\∀M,M∈ns->(∀a∈ns,M<=a)->Q (.int M)
theorem FP{K:Iq}:l8 K (λxs H Q=>∃(p:OO)(ns:List Int),xs=[.ref p]/\aV K H p (ns.map V.int)/\ns≠[]/\∀M,M∈ns->(∀a∈ns,M<=a)->Q (.int M) H) gI:=λH O xs ds Qd R tr hs uu10 k=>by
 obtain⟨ns,e,hne,q⟩:=uu10;subst e;cases hs with
 | cons h r=>
  cases r;obtain⟨a,vs,rfl,h1,d1⟩:=h.lst;cases d1.intsL;exact⟨a,ns,rfl,h1,hne,λM m1 m2=>k _ _ H (q M m1 m2) (ah.refl _) (.int _)⟩
def lr(c:Int->Int->Prop):OM->OM->(OM->Prop)->Prop:=λx y Q=>∃i j:Int,x= .int i/\y= .int j/\c i j/\∀r:Int,Q (.int r)
section
variable {X:Cx} {H0:Hp} {O0:Ex}
def lu(n:Nat)(t:DA):DA:=λδ Q=>t δ λds=>ds.length<=1000/\Q (IJ n ds).flatten
def lx(i:Nat)(t:DT):DS:=λE δ=>∃ds,δ[i]?=some (some (.o ds))/\t δ λd=>∃es,d= .list es/\ds.length+es.length<=OS/\E.nx (δ.set i (some (.o (ds++es))))
end
end L2
namespace Day
def lz(y:Int):Bool:=decide (y % 400=0) || (decide (y % 4=0) && !decide (y % 100=0))
def ld(y:Int):Int:=if lz y=true then 1 else 0
def uJ:List Int:=[31,28,31,30,31,30,31,31,30,31,30,31]
def aM(y m:Int):Int:=if m=2/\lz y=true then 29 else uJ.getD (m - 1).toNat 0
def lb(y:Int):Int:=(y - 1)/ 4 - (y - 1)/ 100+(y - 1)/ 400
def aY(y:Int):Int:=365*(y - 2000)+lb y - lb 2000
def ar(y m:Int):Int:=((JP (m - 1).toNat).map λ(i:Nat)=>aM y (1+(i:Int))).sum
def mX(y m n:Int):Int:=aY y+ar y m+n - 1
structure mY (d y m n:Int):Prop where
 m1:1<=m
 m12:m<=12
 n1:1<=n
 nl:n<=aM y m
 eq:mX y m n=d
theorem Aa(y:Int):0<=ld y/\ld y<=1:=by unfold ld;split <;> omega
theorem qr(y:Int):lz y=true↔(y % 400=0\/(y % 4=0/\y % 100≠0)):=by
 unfold lz;simp
theorem uK(y:Int):aY (y+1)=aY y+365+ld y:=by
 unfold aY lb ld;by_cases h:lz y=true
 ·rw [OJ h];have:=(qr y).mp h;omega
 ·rw [OI h];have:=mt (qr y).mpr h;omega
theorem uL{a b:Int}(h:a+1<=b):aY (a+1)<=aY b:=by
 unfold aY lb;omega
theorem rL(y:Int):aM y 2=28+ld y:=by
 unfold aM ld;by_cases h:lz y=true
 ·rw [OJ ⟨rfl,h⟩,OJ h];rfl
 ·rw [OI (λz=>h z.2),OI h];rfl
theorem uM{y m:Int}(h:m≠2):aM y m=uJ.getD (m - 1).toNat 0:=by
 unfold aM;rw [OI (λz=>h z.1)]
theorem rM(y:Int):aM y 1=31/\aM y 3=31/\aM y 4=30/\aM y 5=31/\aM y 6=30/\aM y 7=31/\aM y 8=31/\aM y 9=30/\aM y 10=31/\aM y 11=30/\aM y 12=31:=by
 refine⟨?_,?_,?_,?_,?_,?_,?_,?_,?_,?_,?_⟩ <;> (rw [uM OG];rfl)
theorem uN{m:Int}(h1:1<=m)(h2:m<=12):m=1\/m=2\/m=3\/m=4\/m=5\/m=6\/m=7\/m=8\/m=9\/m=10\/m=11\/m=12:=by
 obtain⟨k,e⟩:=Jp (show 0<=m - 1 by omega);have e:m=(k:Int)+1:=OH
 have hk:k < 12:=OH
 have key:∀k:Fin 12,((k.1:Nat):Int)+1=1\/((k.1:Nat):Int)+1=2\/((k.1:Nat):Int)+1=3\/((k.1:Nat):Int)+1=4\/((k.1:Nat):Int)+1=5\/((k.1:Nat):Int)+1=6\/((k.1:Nat):Int)+1=7\/((k.1:Nat):Int)+1=8\/((k.1:Nat):Int)+1=9\/((k.1:Nat):Int)+1=10\/((k.1:Nat):Int)+1=11\/((k.1:Nat):Int)+1=12:=OF
 rw [e];exact key ⟨k,hk⟩
theorem FQ{y m:Int}(h1:1<=m)(h2:m<=12):28<=aM y m/\aM y m<=31:=by
 obtain⟨m1,m3,m4,m5,m6,m7,m8,m9,m10,m11,m12⟩:=rM y;have m2:28<=aM y 2/\aM y 2<=31:=by
  have:=Aa y;rw [rL];clear m1 m3 m4 m5 m6 m7 m8 m9 m10 m11 m12 h1 h2;omega
 have k:∀{z:Int},z=31\/z=30->28<=z/\z<=31:=λh=>by rcases h with h | h <;> rw [h] <;> decide
 rcases uN h1 h2 with h | h | h | h | h | h | h | h | h | h | h | h <;> subst h
 ·exact k (.inl m1)
 ·exact m2
 ·exact k (.inl m3)
 ·exact k (.inr m4)
 ·exact k (.inl m5)
 ·exact k (.inr m6)
 ·exact k (.inl m7)
 ·exact k (.inl m8)
 ·exact k (.inr m9)
 ·exact k (.inl m10)
 ·exact k (.inr m11)
 ·exact k (.inl m12)
theorem qt(y:Int):ar y 1=0:=rfl
theorem cN{y m:Int}(h:1<=m):ar y (m+1)=ar y m+aM y m:=by
 unfold ar;have e:(m+1 - 1).toNat=(m - 1).toNat+1:=OH
 rw [e,MY,J3,List.sum_append];have e2:(1:Int)+(((m - 1).toNat:Nat):Int)=m:=OH
 simp only [IA,Jg,List.sum_cons,List.sum_nil,e2];omega
theorem FT{a b c:Int}(l:Int)(h:a+b=c):a+(b+l)=c+l:=OH
theorem mI{a b c:Int}(l:Int)(h:a+b=c):a+l+b=c+l:=OH
theorem nB(y:Int):ar y 1=0/\ar y 2=31/\ar y 3=59+ld y/\ar y 4=90+ld y/\ar y 5=120+ld y/\ar y 6=151+ld y/\ar y 7=181+ld y/\ar y 8=212+ld y/\ar y 9=243+ld y/\ar y 10=273+ld y/\ar y 11=304+ld y/\ar y 12=334+ld y/\ar y 13=365+ld y:=by
 obtain⟨m1,m3,m4,m5,m6,m7,m8,m9,m10,m11,m12⟩:=rM y;have e2:ar y 2=31:=by rw [show ar y 2=ar y 1+aM y 1 from cN (m:=1) OG,m1];rfl
 have e3:ar y 3=59+ld y:=by rw [show ar y 3=ar y 2+aM y 2 from cN (m:=2) OG,e2,rL];exact FT _ rfl
 have e4:ar y 4=90+ld y:=by rw [show ar y 4=ar y 3+aM y 3 from cN (m:=3) OG,e3,m3];exact mI _ rfl
 have e5:ar y 5=120+ld y:=by rw [show ar y 5=ar y 4+aM y 4 from cN (m:=4) OG,e4,m4];exact mI _ rfl
 have e6:ar y 6=151+ld y:=by rw [show ar y 6=ar y 5+aM y 5 from cN (m:=5) OG,e5,m5];exact mI _ rfl
 have e7:ar y 7=181+ld y:=by rw [show ar y 7=ar y 6+aM y 6 from cN (m:=6) OG,e6,m6];exact mI _ rfl
 have e8:ar y 8=212+ld y:=by rw [show ar y 8=ar y 7+aM y 7 from cN (m:=7) OG,e7,m7];exact mI _ rfl
 have e9:ar y 9=243+ld y:=by rw [show ar y 9=ar y 8+aM y 8 from cN (m:=8) OG,e8,m8];exact mI _ rfl
 have e10:ar y 10=273+ld y:=by rw [show ar y 10=ar y 9+aM y 9 from cN (m:=9) OG,e9,m9];exact mI _ rfl
 have e11:ar y 11=304+ld y:=by rw [show ar y 11=ar y 10+aM y 10 from cN (m:=10) OG,e10,m10];exact mI _ rfl
 have e12:ar y 12=334+ld y:=by rw [show ar y 12=ar y 11+aM y 11 from cN (m:=11) OG,e11,m11];exact mI _ rfl
 have e13:ar y 13=365+ld y:=by rw [show ar y 13=ar y 12+aM y 12 from cN (m:=12) OG,e12,m12];exact mI _ rfl
 exact⟨qt y,e2,e3,e4,e5,e6,e7,e8,e9,e10,e11,e12,e13⟩
theorem Ab{y m:Int}(h1:1<=m):∀k:Nat,m+k<=13->ar y m<=ar y (m+k)
 | 0,_=>by simp
 | k+1,h=>by
  have ih:=Ab (y:=y) h1 k OH;have e:m+((k+1:Nat):Int)=(m+k)+1:=OH
  rw [e,cN OH];have:=FQ (y:=y) (m:=m+k) OH OH;omega
theorem oW{y m m':Int}(h1:1<=m)(h2:m<=m')(h3:m'<=13):ar y m<=ar y m':=by
 have:=Ab (y:=y) h1 (m' - m).toNat OH;rw [show m+(((m' - m).toNat:Nat):Int)=m' by omega] at this;exact this
theorem Ac{y m:Int}(h1:1<=m)(h2:m<=12):0<=ar y m/\ar y m+aM y m<=365+ld y:=by
 have a:=oW (y:=y) (m:=1) (m':=m) OG h1 OH;have b:=oW (y:=y) (m:=m+1) (m':=13) OH OH OG;rw [cN h1] at b;have c:=(nB y).1;have e:=(nB y).2.2.2.2.2.2.2.2.2.2.2.2;omega
theorem Ad{y m m':Int}(h1:1<=m)(h2:m < m')(h3:m'<=12):ar y m+aM y m<=ar y m':=by
 have b:=oW (y:=y) (m:=m+1) (m':=m') OH OH OH;rw [cN h1] at b;exact b
theorem mY.in{d y m n:Int}(h:mY d y m n):aY y<=d/\d < aY (y+1):=by
 have:=Ac (y:=y) h.m1 h.m12;have:=h.n1;have:=h.nl;have e:=h.eq;have:=uK y;unfold mX at e;omega
theorem mY.uniq{d y m n y' m' n':Int}(h:mY d y m n)(h':mY d y' m' n'):y=y'/\m=m'/\n=n':=by
 have a:=h.in;have b:=h'.in;have ey:y=y':=by
  rcases NS y y' with z | z | z
  ·have:=uL (a:=y) (b:=y') OH;omega
  ·exact z
  ·have:=uL (a:=y') (b:=y) OH;omega
 subst ey;have e:=h.eq;have e':=h'.eq;unfold mX at e e';have em:m=m':=by
  rcases NS m m' with z | z | z
  ·have:=Ad (y:=y) h.m1 z h'.m12;have:=h.nl;have:=h'.n1;omega
  ·exact z
  ·have:=Ad (y:=y) h'.m1 z h.m12;have:=h'.nl;have:=h.n1;omega
 subst em;exact⟨rfl,rfl,OH⟩
def mj(d:Int):Int:=
 if d < aY (2000+d*400 / 146097) then 2000+d*400 / 146097 - 1
 else if aY (2000+d*400 / 146097+1)<=d then 2000+d*400 / 146097+1
 else 2000+d*400 / 146097
theorem Ae(d:Int):aY (mj d)<=d/\d < aY (mj d+1):=by
 unfold mj;have e:2000+d*400 / 146097 - 1+1=2000+d*400 / 146097:=OH
 by_cases h:d < aY (2000+d*400 / 146097)
 ·rw [OJ h,e];refine⟨?_,h⟩;unfold aY lb at*;omega
 ·rw [OI h];by_cases h2:aY (2000+d*400 / 146097+1)<=d
  ·rw [OJ h2];refine⟨h2,?_⟩;unfold aY lb at*;omega
  ·rw [OI h2];omega
def om(y m n k:Int):Int:=mX ((y*12+m - 1+k)/ 12) ((y*12+m - 1+k)% 12+1) (min n (aM ((y*12+m - 1+k)/ 12) ((y*12+m - 1+k)% 12+1)))
theorem FU(y:Int):365*(y - 2000)+(y - 2000+3)/ 4 - (y - 2000+99)/ 100+(y - 2000+399)/ 400=aY y:=by
 unfold aY lb;omega
theorem FV{d:Int}(h:0<=d):aY (2000+d / 366)<=d:=by
 unfold aY lb;omega
theorem length_eq(y m:Int)(h1:1<=m)(h2:m<=12):(if m=2/\(y % 4≠0\/(y % 100=0/\y % 400≠0)) then(28:Int) else [31,29,31,30,31,30,31,31,30,31,30,31].getD (m - 1).toNat 0)=aM y m:=by
 by_cases h:m=2
 ·subst h;rw [rL];unfold ld;by_cases l:lz y=true
  ·rw [OJ l,OI (by have:=(qr y).mp l;omega)];rfl
  ·rw [OI l,OJ (by have:=mt (qr y).mpr l;omega)];rfl
 ·rw [uM h,OI (λz=>h z.1)];rcases uN h1 h2 with z | z | z | z | z | z | z | z | z | z | z | z <;> subst z <;> first | rfl | exact absurd rfl h
def fst(M:Int):Int:=mX (M / 12) (M % 12+1) 1
def Dn(M n:Int):Int:=fst M+n - 1
end Day
namespace L2
open PySem PySem.Spec PyProof.Rows PySem.W
def d2(m:Nat):List Nat:=[48+m / 10,48+m % 10]
section
variable {X:Cx} {H0:Hp} {O0:Ex}
def lA(to:DT)(t:DT):DT:=λδ Q=>to δ λx=>∃z:Str,x= .str z/\t δ λy=>∃(ys:List Str),y= .tuple (ys.map .str)/\(ys.map (·.length)).sum+ys.length*z.length<=16777216/\Q (.str (Txt.join z ys))
def lB(t:DA)(u:DT):DA:=λδ Q=>t δ λds=>ds.length<=1000/\u δ λy=>∃i:Int,y= .int i/\0<=i/\i<=1000/\Q (IJ i.toNat ds).flatten
end
open PySem PySem.Spec PyProof.Rows PySem.W PySem.Calls
def FW(xs ys:List OM):List OM:=List.zipWith (λx y=>.tuple [x,y]) xs ys
def lC(ta:DA)(g:DG)(tc:DB)(te:DT)(k:Nat)(fr:List Nat):DA:=λδ Q=>ta δ λds=>∃xs ys,ds=[.tuple xs,.tuple ys]/\xs.length=ys.length/\xs.length<=OS/\ma g tc te (bH k fr δ) (FW xs ys) Q
def FX{α:Type}(xs:List α)(n:Nat)(y:α):List α:=xs.take n++y::xs.drop n
section
variable {X:Cx} {H0:Hp} {O0:Ex}
def lE(i:Nat)(t1 t2:DT):DS:=λE δ=>∃ds,δ[i]?=some (some (.o ds))/\t1 δ λa=>t2 δ λd=>∃n:Nat,a= .int (n:Int)/\n<=ds.length/\ds.length < 1000000/\E.nx (δ.set i (some (.o (FX ds n d))))
def gJ(t:DT):DB:=λδ Q=>t δ λd=>∃ds,d= .list ds/\Q (!ds.isEmpty)
theorem FY{e:OR}{t:DT}(h:DE X H0 O0 e t)(he:∀whole,isTrue e X.env whole=(do let v<-whole;standAt e.pos;holding [v] (truthy v)):=by intro _;rfl):PT X e (bK X.K H0 O0 (gJ t)):=
 (B9 h he).imp λσ H Q ⟨O,δ,Qd,w,q,k⟩=>⟨O,δ,_,w,q,λd v H' uu12 s r=>by
  obtain⟨ds,e,qb⟩:=uu12;subst e;obtain⟨a,vs,rfl,hs,r⟩:=(Sh.dt r).lst;refine⟨_,.inl ⟨vs,hs,rfl⟩,?_⟩;have:(!vs.isEmpty)=!ds.isEmpty:=by cases r <;> rfl
  rw [this];exact k _ H' qb s⟩
def lF(to tk:DT):DT:=λδ Q=>to δ λx=>∃ks ds,x=k6 ks ds/\tk δ λy=>∃z,y= .str z/\Q ((eF ks ds z).getD .none)
def lG(to tk tx:DT):DT:=λδ Q=>to δ λx=>∃ks ds,x=k6 ks ds/\tk δ λy=>tx δ λu=>∃z,y= .str z/\Q ((eF ks ds z).getD u)
end
section
variable {X:Cx} {H0:Hp} {O0:Ex}
def lH(t:DA):oj:=λδ Q=>t δ λds=>∃kd:List (ag×OM),ds=[.list (kd.map λp=>.tuple [dR p.1,p.2])]/\Q (kd.foldl (λa p=>mW a p.1 p.2) [])
def lI(t:DT):DA:=λδ Q=>t δ λd=>∃ks ds,d=k6 ks ds/\ks.length < 64/\Q ((rD ks).map .str)
def lJ(neg:Bool)(tk to:DT):DT:=λδ Q=>tk δ λy=>to δ λx=>∃z ks ds,y= .str z/\x=k6 ks ds/\Q (.bool (if neg then !(eF ks ds z).isSome else(eF ks ds z).isSome))
def FZ(tl:TE):TI:=λσ H R=>tl σ H λx H1=>∃a o kv,x= .ref a/\H1 a=some (.frz o (.dK kv))/\R (uE o a kv) H1
theorem F0{X:Cx}{tg l:OR}{tl:TE}(hl:PE X l tl):PI X tg l (FZ tl):=by
 intro Qm s σ H R I h;refine au (hl Qm s σ H _ I h) λv s1 ⟨x,H1,I1,r1,q1⟩=>?_;obtain⟨a,o,kv,e,ha,q⟩:=q1;subst e;cases r1;obtain⟨g,z,hd,vs,rel,o',es,ep,g',r1,r2,r3⟩:=I1.hok a _ ha;rw [g] at g';cases g';have hlen:=rel.len;have hd':(a==Po)=false:=hd;refine wpAny_pyIter_dict hd' (knd:=cH X.prog X.w) (kvs:=vs) (ep:=ep) ⟨o,es,g,r1,r2,r3⟩ ?_;rw [hlen];refine⟨s1.heap.objs.size,[s1.heap.objs.size],_,_,_,rfl,I1.kept (t':=s1.toks) λb o e=>Iz _ e,E8 _ a o es ep kv r2,⟨_,Jh _ rfl,rfl,rfl⟩,λb hb=>?_,q⟩;have e:b=s1.heap.objs.size:=by simpa using hb
 subst e;exact I1.fpOk (IB _) (I1.hok.fresh (IB _))
def lK(t:DT)(dg:DG)(tb:DS):DS:=λE δ=>t δ λd=>∃ks ds,d=k6 ks ds/\fv dg tb E (ks.map .str) δ
def lL:List OM->(OM->Prop)->Prop:=λds Q=>∃ks xs,ds=[k6 ks xs]/\Q (k6 ks xs)
def lM:DT:=λ_ Q=>Q (k6 [] [])
def lN:OM->OM->(OM->Prop)->Prop:=λx y Q=>∃(ks:List Str)(ns:List Int),x=k6 ks (ns.map .int)/\y=k6 ks (ns.map .int)/\Q (.bool false)
def lO(i j:Nat):DS:=λE δ=>E.nx ((δ.set i (some (.o []))).set j (some (.o [])))
end
section
variable {P:OZ} {w:O4} {K:Iq} {mg:Str->Option ON} {base:O3}
inductive oX (K:Iq) (C:OO) (F:List OM->List OM->(List (Str×OM)->List (ag×OM)->List (ag×OM)->Prop)->Prop) (vs:List V) (H:Hp) (Q:VK) (E:XK):Prop
 | mk (x dx:OO) (vs':List V) (l:OO) (ws:List V) (H1:Hp) (O:Ex) (ds es:List OM) (Qd:List (Str×OM)->List (ag×OM)->List (ag×OM)->Prop):vs= .ref x::(vs'++[.ref l])->H=ak (ak H1 dx (.own x)) x (.ins C dx [])->H1 x=none->H1 dx=none->dx≠x->
 (∀a,O a->H1 a≠none)->aj K H1 O vs' ds->O l->H1 l=some (.lst ws)->aj K H1 O ws es->F ds es Qd->
 (∀fd gd ud g u O' H',Qd fd gd ud->ah H1 H'->(∀a,O a->O' a)->(∀a,O' a->O a\/H1 a=none)->(∀a,O' a->H' a≠none)->O' x->¬O x->xh K H' O O' x C g u fd gd ud->Q .non H')->oX K C F vs H Q E
end
section
variable {x y z w:Option Sl} {l:Dl} {i j k m:Nat} {P:OM->Prop}
theorem lP:bW j ((x::l).set 0 y) P=bW j (y::l) P:=rfl
theorem lQ:bW j ((x::l).set (i+1) y) P=bW j (x::l.set i y) P:=rfl
theorem lR:bW j (((x::l).set 0 y).set k z) P=bW j ((y::l).set k z) P:=rfl
theorem lS:bW j (((x::l).set (i+1) y).set k z) P=bW j ((x::l.set i y).set k z) P:=rfl
theorem lT:bW j ((((x::l).set 0 y).set k z).set m w) P=bW j (((y::l).set k z).set m w) P:=rfl
theorem lU:bW j ((((x::l).set (i+1) y).set k z).set m w) P=bW j (((x::l.set i y).set k z).set m w) P:=rfl
end
section
variable {K:Iq} {mg:Str->Option ON} {h:O3} {x q:Str} {st:O6} {f C:OO} {fd:OX} {ps:List Str}
structure Fn (K:Iq) (mg:Str->Option ON) (x:Str) (st:O6) (f:OO) (fd:OX) (ps:List Str):Prop where
 F:cm K x x st f fd
 m:mg x=some (.ref f)
 b:cB K fd ps []
structure Mn (K:Iq) (x q:Str) (st:O6) (f:OO) (fd:OX) (ps:List Str):Prop where
 F:cm K x q st f fd
 b:cB K fd ps []
structure DfT (K:Iq) (x:Str) (st:O6) (f:OO) (fd:OX):Prop where
 a:IU K OY x=some (some (.ref f))
 F:cm K x x st f fd
structure DmT (K:Iq) (C:OO) (x q:Str) (st:O6) (f:OO) (fd:OX):Prop where
 a:JT K (.ref C) x=some (some (.ref f))
 i:Ny K (.ref f)=true
 F:cm K x q st f fd
structure Af (K:Iq) (C:OO):Prop where
 c:my K C
 m:MW K C=true
 k:KQ K (.ref C)=true
theorem DfT.of{oc:ON}{od an:Option OO}{osl:Array (Option ON)}{kV doc pm cdv ct:ON}(a:IU K OY x=some (some (.ref f)))(l:K.lookup f=some ⟨oc,od,.func (KJ x x (mB st) (cT st) (aw st) .none kV doc pm an cdv ct),osl⟩)
 (c:LU K cdv x=true)(k:KQ K (.ref f)=true):DfT K x st f (KJ x x (mB st) (cT st) (aw st) .none kV doc pm an cdv ct):=⟨a,wF l c k⟩
theorem DmT.of{oc:ON}{od an:Option OO}{osl:Array (Option ON)}{kV doc pm cdv ct:ON}(a:JT K (.ref C) x=some (some (.ref f)))(i:Ny K (.ref f)=true)(l:K.lookup f=some ⟨oc,od,.func (KJ x q (mB st) (cT st) (aw st) .none kV doc pm an cdv ct),osl⟩)
 (c:LU K cdv q=true)(k:KQ K (.ref f)=true):DmT K C x q st f (KJ x q (mB st) (cT st) (aw st) .none kV doc pm an cdv ct):=⟨a,i,wF l c k⟩
theorem DfT.fn(D:DfT K x st f fd)(X:K.In h)(G:h.Ns OY mg)(hb:∀(kV doc pm:ON) (an:Option OO) (cdv ct:ON) (us:List ON),us.length=ps.length->bindArgs (KJ x x (mB st) (cT st) (aw st) .none kV doc pm an cdv ct) ⟨us,[]⟩=pure (ps.zip us):=by walk_at "b"):Fn K mg x st f fd ps:=⟨D.F,JJ X G D.a,D.F.binds hb⟩
theorem DmT.fn(D:DmT K C x q st f fd)(hb:∀(kV doc pm:ON) (an:Option OO) (cdv ct:ON) (us:List ON),us.length=ps.length->bindArgs (KJ x q (mB st) (cT st) (aw st) .none kV doc pm an cdv ct) ⟨us,[]⟩=pure (ps.zip us):=by walk_at "b"):Mn K x q st f fd ps:=⟨D.F,D.F.binds hb⟩
theorem DmT.mkk(D:DmT K C "__init__" q st f fd)(c:Af K C):Mk K C f:=⟨c.m,D.a,D.i,c.k⟩
theorem Fn.kp(N:Fn K mg x st f fd ps):KQ K (.ref f)=true:=N.F.kp
end
section
variable {X:Cx} {k:Nat} {f:OO} {fd:OX} {ps:List Str} {sp:Sp} {st:O6} {x:Str} {p pos:Pos} {e:OR} {es:List OR} {t:TA}
theorem dF(F:az X.prog X.w X.K X.mg X.base aJ k f fd ps sp)(hr:aK k X.A)(hg:Gl X x)(N:Fn X.K X.mg x st f fd ps)
 (ha:PA X (e::es) t)(hdb:(x==("__debug__":Str))=false:=by decide)(he:OW (e::es) X.env=(false,eval e X.env)::OW es X.env:=by rfl)(hpl:(Pd pos (OW es X.env)).any (·.1)=false:=by rfl):
 PE X (.Call (.Name x p) (e::es) [] pos) (pP sp [] E0 t):=tP F hr hg N.m N.kp N.b .nil wD ha hdb he hpl
end
theorem bz.of{sc:Pc}{N N':List Str}{k:Nat}{fr:List Nat}{scope:Pc}(a:scope.kind= .function:=by rfl)(b:∀y∈scope.names,y.2= .cell->scope.names.lookup y.1=some .cell:=by decide+kernel)(c:∀y∈scope.names,y.2= .local->scope.names.lookup y.1=some .local:=by decide+kernel)(d:N'.Nodup:=by decide+kernel)(e:fr.map (λj=>N[j]?)=(N'.drop k).map some:=by rfl)(f:∀x∈N'.drop k,scope.names.lookup x=some .free:=by decide+kernel)(g:∀y∈scope.names,y.2= .free->sc.names.lookup y.1=some .cell\/sc.names.lookup y.1=some .free:=by decide+kernel)(h:∀x∈N'.drop k,sc.names.lookup x=some .cell\/sc.names.lookup x=some .free:=by decide+kernel)(i:N'.length=k+fr.length:=by rfl):bz sc N N' k fr scope:=⟨a,b,c,d,e,f,g,h,i⟩
theorem bb.of{N P:List Str}{sc:Pc}(a:sc.kind= .function:=by rfl)(b:sc.isCoroutine=false:=by rfl)(c:sc.isGenerator=false:=by rfl)(d:N.Nodup:=by decide+kernel)(e:N.take P.length=P:=by rfl)(f:∀x∈P,sc.names.lookup x=some .local\/sc.names.lookup x=some .cell:=by decide+kernel)(g:∀y∈sc.names,y.2≠ .free:=by decide+kernel):bb N P sc:=⟨a,b,c,d,e,f,g⟩
section
variable {X:Cx} {H0:Hp} {O0:Ex} {pos:Pos} {a b e:OR} {es:List OR} {ta tb t:DT} {u:DA} {r:R2} {rd:OM->OM->(OM->Prop)->Prop}
theorem ai{op:Operator}(ho:bx X (Pu op) r)(hd:bU X.K r rd)(ha:DE X H0 O0 a ta)(hb:DE X H0 O0 b tb):DE X H0 O0 (.BinOp a op b pos) (bM rd ta tb):=DQ ho hd (df ha) (df hb)
theorem ao(ho:oJ X r)(hd:bU X.K r rd)(ha:DE X H0 O0 a ta)(hb:DE X H0 O0 b tb)(hs:∀v u,subscripted b false v u=operate [v,u] (PM v u):=by intro _ _;rfl):DE X H0 O0 (.Subscript a b pos) (bM rd ta tb):=ij ho hd (df ha) (df hb) hs
theorem br{op:CmpOp}(ho:bx X (Pa op) r)(hd:bU X.K r rd)(ha:DE X H0 O0 a ta)(hb:DE X H0 O0 b tb)(hm:Pm op b=false):PT X (.Compare a [op] [b] pos) (bK X.K H0 O0 (cz (bM rd ta tb))):=xj ho hd (df ha) (df hb) hm
theorem bN(h:DE X H0 O0 e t)(hs:PA X es (mE X.K H0 O0 u))(he:OW (e::es) X.env=(false,eval e X.env)::OW es X.env:=by rfl):PA X (e::es) (mE X.K H0 O0 (dM t u)):=xn (df h) hs he
theorem bo{k j:Nat}{f:OO}{fd:OX}{ps:List Str}{F:List OM->(OM->Prop)->Prop}{st:O6}{x:Str}{p:Pos}(G:az X.prog X.w X.K X.mg X.base aJ k f fd ps (bA X.K F))(hr:aK j X.A)(N:Fn X.K X.mg x st f fd ps)
 (ha:PA X (e::es) (cU X.K H0 O0 u))(hk:k<=j:=by decide)(hg:Gl X x:=by exact rfl)(hdb:(x==("__debug__":Str))=false:=by decide)(he:OW (e::es) X.env=(false,eval e X.env)::OW es X.env:=by rfl)(hpl:(Pd pos (OW es X.env)).any (·.1)=false:=by rfl):
 DE X H0 O0 (.Call (.Name x p) (e::es) [] pos) (dz F u):=PE.imp (dF G (hr.mono hk) hg N ha hdb he hpl) xk
end
def Ag(p:Str×List OM):OM:= .tuple (.str p.1::p.2)
end L2
namespace PySem
open Sem (wp)
open AutoSeq1 (wpAny_loadPart')
end PySem
namespace L2
open PySem PySem.Spec PyProof.Rows PySem.W PySem.Calls
structure oo (base:O3) (mg:Str->Option ON) (c P:OO):Prop where
 cd:CodeHd base c P
 gP:OY≠P
 bl:base.BuiltinsAt mg P
theorem F1{pos p:Pos}{v cv:ON}(l:List ON)(h:TriplesOk l)(e:codeAmong pos (l++[rawInt p.line,rawInt p.col,v])=some cv):codeAmong pos l=some cv\/cv=v:=by
 fun_induction TriplesOk l with
 | case1=>
  simp only [Ju,codeAmong,rawInt] at e;split at e
  ·cases e;exact .inr rfl
  ·cases e
 | case2 a t b u x rest ih=>
  simp only [Jq,codeAmong] at e⊢;split at e
  ·rename_i hc;rw [OJ hc];exact .inl e
  ·rename_i hc;rw [OI hc];exact ih h e
 | case3 l h1 h2=>exact h.elim
abbrev lV(q:Str):HO:= .tbl #[.str q 0]
section
variable {X:Cx} {Qm:List (OO×Obj)} {σ:St} {H:Hp} {s:OP}
theorem F2{h h':O3}{mg:Str->Option ON}{P:OO}(b:h.BuiltinsAt mg P)(k:∀b o,h.get? b=some o->h'.get? b=some o):h'.BuiltinsAt mg P:=
 let ⟨bm,o,a1,a2,a3,a4,a5,r⟩:=b;⟨bm,o,a1,a2,a3,a4,k _ _ a5,r⟩
theorem F3{E:ON->OP->Prop}{Q:ON->OP->Prop}{c P:OO}{qual:Str}{body:OR}{scope:Pc}{params:Qb}{pos:Pos}{clos:List (Str×OO)}(I:aa X Qm σ H s)(L:oo X.base X.mg c P)(hcode:X.env.code= .ref c)
 (hP:H P=some (lV qual))(hq:X.env.qual++"<lambda>"=qual)(hcl:closureFor scope X.env=pure clos)(hdef:defaultsOf params X.env=([],[]))
 (h:∀f c' pm ctv h' tk H',aa X Qm σ H' {s with heap:=h',toks:=tk}->h'.get? f=some (kla_obj "<lambda>" qual params body scope clos pm c' ctv)->s.heap.objs.size<=f->H' f=none->H' c'=some (.cod qual)->ah H H'->
  Q (.ref f) {s with heap:=h',toks:=tk}):OV (OU X.prog X.w) X.A (eval (.Lambda params body scope pos) X.env) Q E s:=by
 refine kla_eval hdef ?_;rw [hq];obtain⟨q,t,z,ps,eP,tr,ent⟩:=id (I.hok P _ hP);have z:some (La qual 0)=some (.str q t):=z;cases z;have hg:s.heap.Ns OY X.mg:=I.ok.mod.glob.keeps I.bk;have C:=L.cd.keeps I.bk;have hb:=F2 L.bl I.bk;cases hf:codeAmong pos ps.toList with
 | some cv=>
  obtain⟨c',rfl,hc'⟩:=ent pos cv hf;refine kla_makeFunctionHit hcl I.ok.glob hg hcode C eP tr hf hb λctv h' tk hk hsz=>?_;have k2:∀b o,s.heap.get? b=some o->(h'.push (kla_obj "<lambda>" qual params body scope clos ((X.mg "__name__").getD .none) c' ctv)).get? b=some o:=λb o e=>Iz _ (hk b o e);exact h h'.objs.size c' _ ctv _ tk H (I.kept k2) (Jh _ rfl) hsz (I.hok.fresh hsz) hc' (ah.refl _)
 | none=>
  refine kla_makeFunction hcl I.ok.glob hg hcode C eP tr hf L.gP hb λc' ctv h' tk hx hge hlt hrec htb=>?_;have hn:H c'=none:=I.hok.fresh hge;have nP:∀b,H b=none->b≠P:=λb n e=>by rw [e,hP] at n;cases n
  have pk:∀{b o},h'.get? b=some o->(h'.push (kla_obj "<lambda>" qual params body scope clos ((X.mg "__name__").getD .none) c' ctv)).get? b=some o:=λe=>Iz _ e;have sm:ah H (ak H c' (.cod qual)):=λb o e=>by rw [ay (cw e hn)];exact e
  have hlt':s.heap.objs.size<=h'.objs.size:=Jx hge (LO hlt);refine h h'.objs.size c' _ ctv _ tk (ak H c' (.cod qual)) (I.un ⟨λb o e n _ _=>pk (hx b o (nP b n) e),λb o e n _ _=>⟨o.slots,pk (hx b o (nP b n) e)⟩,λb o e n _=>by rw [ay (IZ (IM (IC e) hge))];exact n,λb o e _=>?_,
   λb xs e=>sm b _ e,λb o u e=>sm b _ e,λb qs e=>⟨#[],by rw [Array.append_empty];exact sm b _ e⟩⟩ λb u e=>?_) (Jh _ rfl) hlt' (by rw [ay (ML hlt)];exact I.hok.fresh hlt') bg sm
  ·by_cases hb':b=P
   ·exact⟨_,pk (by rw [hb'];exact htb)⟩
   ·exact⟨o,pk (hx b o hb' e)⟩
  ·by_cases hbc:b=c'
   ·subst hbc;rw [bg] at e;cases e;obtain⟨c₂,oc,vs,t',e2,hoc,hd,hv⟩:=hrec;cases e2;exact⟨oc,vs,t',pk hoc,hd,hv⟩
   ·rw [ay hbc] at e;by_cases hbP:b=P
    ·subst hbP;rw [hP] at e;cases e;refine⟨qual,0,rfl,_,pk htb,?_,λp cv e=>?_⟩
     ·rw [Lj];exact TriplesOk_snoc _ _ _ _ tr
     ·rw [Lj] at e;rcases F1 _ tr e with e | e
      ·obtain⟨c2,e1,e2⟩:=ent p cv e;exact⟨c2,e1,sm _ _ e2⟩
      ·exact⟨c',e,bg⟩
    ·refine(I.hok b u e).stay (λc2 v hc r=>pk (hx c2 v (λw=>?_) r)) (λc2 r=>sm _ _ r) (λc2 xs r=>sm _ _ r) λc2 xs r=>sm _ _ r;rcases hc with hc | hc
     ·exact hbP (hc.symm.trans w)
     ·rw [w,hP] at hc;cases hc
def mJ(X:Cx)(s:OP)(H:Hp):O3:=hideAll s.heap (aI X.stack++trk s.heap H)
theorem qu{b:OO}{o:Obj}(e:s.heap.get? b=some o)(n:H b=none)(nf:b ∉ aI X.stack):(mJ X s H).get? b=some o:=
 P2 _ e λhm=>by
  rcases Jf.mp hm with h | h
  ·exact nf h
  ·have q:(H b).isSome=true:=(JS.mp h).2;rw [n] at q;simp at q
theorem F4{b:OO}{o:Obj}(e:(mJ X s H).get? b=some o):s.heap.get? b=some o/\H b=none:=by
 have e':s.heap.get? b=some o:=of_hideAll _ e;refine⟨e',?_⟩;cases q:H b with
 | none=>rfl
 | some x=>
  have hm:b∈aI X.stack++trk s.heap H:=Jo _ (JS.mpr ⟨Ly.mpr (IC e'),by simp [q]⟩);have z:(mJ X s H).get? b=none:=hideAll_none _ hm;rw [z] at e;cases e
theorem aa.lamK(I:aa X Qm σ H s){b:OO}{o:Obj}(e:X.base.get? b=some o):(mJ X s H).get? b=some o:=
 qu (I.bs b o e).1 (I.bs b o e).2 λhb=>by have:=(I.stack.mem hb).1;rw [e] at this;cases this
theorem aa.lamM(I:aa X Qm σ H s):Mod X.K X.mg (mJ X s H):=
 ⟨I.mod.kin.keeps λ_ _ e=>I.lamK e,I.mod.glob.keeps λ_ _ e=>I.lamK e,let ⟨mb,h1,h2⟩:=I.mod.blt;⟨mb,h1.keeps λ_ _ e=>I.lamK e,h2⟩,I.mod.nolimit.keeps λ_ _ e=>I.lamK e⟩
theorem aa.env0L(I:aa X Qm σ H s):l3 X.prog X.w X.K X.mg (mJ X s H) X.A X.stack s H:=
 ⟨I.ok.frames,I.lamM,λ_ _ e=>F4 e,Nu (hideAll_size _ _),funFrames_hide I.stack λenv he a hf=>Mi _ (Lo.mpr ⟨env,he,hf⟩),I.stkFree,I.hok,I.bare⟩
abbrev oq(scope:Pc)(qual:Str)(L f:OO)(c':OO)(cl:List (Str×OO)):Env:=envX qual scope L f (.ref c') cl
def mZ(X:Cx)(base:O3)(scope:Pc)(N':List Str)(cl:List (Str×OO))(qual:Str)(f c':OO)(A:O5)(outer:List Env)(s:OP)(H:Hp)(E:XK):Cx where
 prog:=X.prog
 w:=X.w
 K:=X.K
 mg:=X.mg
 base:=base
 A:=A.deeper (oq scope qual s.heap.objs.size f c' cl)
 N:=N'
 s₀:=s
 H₀:=H
 env:=oq scope qual s.heap.objs.size f c' cl
 outer:=outer
 stack:=oq scope qual s.heap.objs.size f c' cl::outer
 ex:=[]
 calm:=true
 fn:=λ_=>false
 pn:=[]
 xe:=λe s'=>OV (OU X.prog X.w) (A.deeper (oq scope qual s.heap.objs.size f c' cl)) (leaving (oq scope qual s.heap.objs.size f c' cl) e) (λ_ s''=>aL X.prog X.w outer H s E e s'') (λe' s''=>aL X.prog X.w outer H s E e' s'') s'
def Ah(X:Cx)(base:O3)(σ:St)(scope:Pc)(N':List Str)(fr:List Nat)(cl:List (Str×OO))(qual:Str)(f c' k:Nat)(body:OR):Sp:=λvs H2 Q E=>vs=[]/\H2 c'=some (.cod qual)/\
 ∀(A:O5)(outer:List Env)(s2:OP),aK k (A.deeper (oq scope qual s2.heap.objs.size f c' cl))->∃t,PE (mZ X base scope N' cl qual f c' A outer s2 H2 E) body t/\t (aS 0 fr σ) H2 Q
theorem F5{f c' k:Nat}{pm ctv:ON}{qual:Str}{body:OR}{scope:Pc}{N':List Str}{fr:List Nat}{params:Qb}(S:bz X.env.scope X.N N' 0 fr scope)(I:aa X Qm σ H s)
 (ho:s.heap.get? f=some (kla_obj "<lambda>" qual params body scope (cC X.env scope.names []) pm c' ctv))(hf:H f=none)(hfs:f ∉ aI X.stack)(hfn:∀x,X.fn x=true)
 (hco:scope.isCoroutine=false)(hgen:scope.isGenerator=false)(hcell:∀x∈scope.names,x.2≠ .cell):
 az X.prog X.w X.K X.mg (mJ X s H) (aL X.prog X.w) (k+1) f (kla_fn "<lambda>" qual params body scope (cC X.env scope.names []) pm (.ref c') ctv) [] (Ah X (mJ X s H) σ scope N' fr (cC X.env scope.names []) qual f c' k body):=by
 have hcl:=qS S I;refine⟨λvs H2 Q E h=>by rw [h.1];rfl,λA outer s2 H2 args us vs Q E hr e0 hb rv hsp=>?_⟩;obtain⟨rfl,hc,hbody⟩:=hsp;cases rv;have fo:=(e0.bs f _ (qu ho hf hfs)).1;obtain⟨oc,vs,t,g1,g2,g3⟩:=id (e0.hok c' _ hc);have lim:s2.heap.NoLimit:=e0.mod.nolimit.keeps λb o e=>(e0.bs b o e).1;refine kla_callFunE hr.depth fo rfl hco hgen rfl ⟨c',oc,vs,t,rfl,g1,g2,g3⟩ (hb _ _ _ _ ?_);refine wpAny_newFunctionEnv hcell (λx hx=>absurd (show x∈([]:List (Str×ON)) from hx) OL) (λh₁ hns hsb=>⟨lim.fresh _ hsb,?_⟩) S.kind;obtain⟨t,ht,hq⟩:=hbody A outer s2 (hr.deeper _);have hk₁:∀b o,s2.heap.get? b=some o->h₁.get? b=some o:=λb o e=>hsb.extBut b o (IZ (IC e)) (Iz _ e);have hcb:∀x c,(cC X.env scope.names []).lookup x=some c->∀u,s.heap.IsCell c u->s2.heap.IsCell c u:=λx c e u uu14=>by
  obtain⟨o,eo,d⟩:=uu14;have ex:=hcl x c e;refine⟨o,(e0.bs c o (qu eo (I.freeC x c ex) λhm=>?_)).1,d⟩;rcases IP.mp (I.stkSub c hm) with z | z
  ·exact I.cne x c ex z
  ·have h1:=I.ok.cab x c (hfn x) ex;obtain⟨_,o',ho',_⟩:=I.ok.funs.mem z;exact absurd (IM (IC ho') h1) (Kb _)
 have J:aa (mZ X (mJ X s H) scope N' (cC X.env scope.names []) qual f c' A outer s2 H2 E) [] (aS 0 fr σ) H2 {s2 with heap:=h₁,toks:=s2.toks+([]:List (Str×ON)).length}:=by
  refine⟨⟨e0.mod,S.kind,rfl,rfl,IB _,λx y c h1 h2=>I.ok.inj x y c (hcl x c h1) (hcl y c h2),λx hx=>?_,λx c h=>absurd h (by simp [mZ]),λ_=>hr.hd,Nc e0.frames,.inr ⟨rfl,rfl⟩,λb z=>absurd (show b∈([]:List OO) from z) OL,e0.bs,e0.bsz,λb _ _ z=>absurd (show b∈([]:List OO) from z) OL,λb z=>absurd (show b∈([]:List OO) from z) OL,e0.funs,e0.frf⟩,
   rfl,e0.bare,Un.kept hk₁,⟨_,hns,λi x v h1 h2 h3=>?_⟩,λx c e=>?_,e0.hok.fresh (IB _),λx c e=>?_,λp hp=>absurd (show p∈([]:List (OO×Obj)) from hp) OL,e0.hok.kept hk₁,?_⟩
  ·have hx:scope.names.lookup x=some .cell\/scope.names.lookup x=some .free:=hx;rcases hx with z | z
   ·exact absurd rfl (hcell _ (J6 z))
   ·exact pU _ _ (J6 z)
  ·have h2':(fr.map λj=>(σ[j]?).join)[i]?=some (some v):=by
    unfold aS at h2;simpa using h2
   have h1':(N'.drop 0)[i]?=some x:=by simpa using(show N'[i]?=some x from h1)
   have hmem:x∈N'.drop 0:=Jj h1';have e2:(fr.map λj=>X.N[j]?)[i]?=some (some x):=by
    rw [S.slot,IS,h1'];rfl
   obtain⟨j,hj,ej⟩:∃j,fr[i]?=some j/\X.N[j]?=some x:=by
    rw [IS] at e2;cases e:fr[i]? with
    | none=>rw [e] at e2;cases e2
    | some j=>rw [e] at e2;exact⟨j,rfl,Jr e2⟩
   have hv:σ[j]?=some (some v):=by
    rw [IS,hj] at h2';have h3':(σ[j]?).join=some v:=Jr h2';cases e:σ[j]? with
    | none=>rw [e] at h3';cases h3'
    | some o=>rw [e] at h3';rw [show o=some v from h3']
   obtain⟨m,hn0,hl⟩:=I.loc;have ho:=S.outer' x hmem;obtain⟨u,ru,lk⟩:=hl j x v ej hv (.inr ho);refine⟨u,ru,.inr ⟨.inr (S.frees x hmem),?_⟩⟩;rcases lk with⟨z,_⟩ | ⟨_,c,hc,hx⟩
   ·exfalso;rcases ho with ho | ho
    ·exact absurd (z.symm.trans ho) OL
    ·exact absurd (z.symm.trans ho) OL
   ·obtain⟨c2,hc2⟩:=pU (env:=X.env) scope.names [] (J6 (S.frees x hmem));have:=hcl x c2 hc2;rw [hc] at this;cases this;exact⟨c,hc2,(hcb x c hc2 _ hx).keeps hk₁⟩
  ·obtain⟨v,q⟩:=I.cell x c (hcl x c e);exact⟨v,(hcb x c e v q).keeps hk₁⟩
  ·cases q:H2 c with
   | none=>rfl
   | some u=>
    obtain⟨v,o,eo,d⟩:=I.cell x c (hcl x c e);have ex:=hcl x c e;have:=(e0.bs c o (qu eo (I.freeC x c ex) λhm=>?_)).2
    ·rw [q] at this;cases this
    ·rcases IP.mp (I.stkSub c hm) with z | z
     ·exact I.cne x c ex z
     ·have h1:=I.ok.cab x c (hfn x) ex;obtain⟨_,o',ho',_⟩:=I.ok.funs.mem z;exact absurd (IM (IC ho') h1) (Kb _)
  ·unfold aS;show _=N'.length;rw [Js,Lc,Iw,S.len]
 refine kla_codeExpr (Pe (ht [] _ (aS 0 fr σ) H2 Q J hq) (λv s' hl=>?_) λ_ _ y=>y);obtain⟨v',H',J',rv,q⟩:=hl;exact⟨v',H',J'.os,J'.bare,J'.base,J'.hok,rv,q⟩
theorem F6{base:O3}{scope:Pc}{N':List Str}{cl:List (Str×OO)}{qual:Str}{f c':OO}{A:O5}{outer:List Env}{s:OP}{H:Hp}{E E':XK}(hE:∀cls d H',E' cls d H'->E cls d H'):nR (aL X.prog X.w) (mZ X base scope N' cl qual f c' A outer s H E) E':=by
 intro Qm σ H1 s1 ev s2 I h;obtain⟨e,cls,a0,B,H2,rfl,ho,hg,fl,hb,un,kb,th,q⟩:=h;have ub:Un (aI outer) [] H H1 s.heap s1.heap:=I.base;have stk:(mZ X base scope N' cl qual f c' A outer s H E).stack=oq scope qual s.heap.objs.size f c' cl::outer:=rfl;show OV (OU X.prog X.w) _ (leaving _ (.ref e)) _ _ _;refine wpAny_leaves_onW I.ok.frames rfl fl λh2 x1 x2=>?_;have nst:∀b o,s.heap.get? b=some o->b ∉ aI outer->b ∉ aI (mZ X base scope N' cl qual f c' A outer s H E).stack:=λb o eb hb hm=>by
  rcases IP.mp (I.stkSub b hm) with z | z
  ·have h1:=IC eb;have h2:=I.ok.above;rw [<-z] at h2;exact absurd (IM h1 h2) (Kb _)
  ·exact hb z
 have sub:∀b∈aI outer,b∈aI (mZ X base scope N' cl qual f c' A outer s H E).stack:=λb hb=>by
  rw [stk];unfold aI;rw [K5];exact Jm _ hb
 have up:∀b∈aI outer,∀o,s2.heap.get? b=some o->∃sl,h2.get? b=some {o with slots:=sl}:=λb hb o eo=>by
  obtain⟨_,o',ho',hd⟩:=fl.2.2.1.mem (sub b hb);rw [eo] at ho';cases ho';exact x2 b o eo hd
 have kB:∀b o,s.heap.get? b=some o->H b=none->b ∉ aI outer->B.get? b=some o:=λb o eb n hb=>kb b o (ub.keep b o eb n hb OL) (ub.free b o eb n OL) (nst b o eb hb);have tB:∀b o,s.heap.get? b=some o->b ∉ aI outer->∃o',B.get? b=some o':=λb o eb hb=>by
  obtain⟨o',eo'⟩:=ub.there b o eb OL;exact th b o' eo' (nst b o eb hb)
 refine⟨e,cls,a0,B,H2,rfl,ho.trans I.os,hg,x1,hb,⟨λb o eb n hb' hx'=>x1.1 b o (kB b o eb n hb'),λb o eb n hb' hx'=>?_,λb o eb n hx'=>?_,λb o eb hx'=>?_,λb xs z=>un.tups b xs (ub.tups b xs z),λb o u z=>un.frzs b o u (ub.frzs b o u z),λb ps z=>?_⟩,kB,tB,hE _ _ _ q⟩
 ·obtain⟨sl,es⟩:=ub.slot b o eb n hb' hx';obtain⟨sl1,es1⟩:=un.slot b _ es (ub.free b o eb n hx') (sub b hb') OL;obtain⟨sl2,es2⟩:=up b hb' _ es1;exact⟨sl2,es2⟩
 ·obtain⟨o',eo'⟩:=ub.there b o eb hx';exact un.free b o' eo' (ub.free b o eb n hx') OL
 ·by_cases hb':b∈aI outer
  ·obtain⟨o',eo'⟩:=ub.there b o eb hx';obtain⟨o2,eo2⟩:=un.there b o' eo' OL;obtain⟨sl',es'⟩:=up b hb' _ eo2;exact⟨_,es'⟩
  ·obtain⟨o',eo'⟩:=tB b o eb hb';exact⟨o',x1.1 b o' eo'⟩
 ·obtain⟨m1,e1⟩:=ub.tbls b ps z;obtain⟨m2,e2⟩:=un.tbls b _ e1;exact⟨m1++m2,by rw [e2,Mr]⟩
def F7(X:Cx)(d:Nat)(C:OO)(i:Nat)(ts:TS):TS:=λD σ H=>∃(f:OO)(k:Nat)(fd:OX)(sp:Sp)(o:ON×Option OO×Array (Option ON)),σ[d]?=some (some (.ref f))/\X.base.get? f=some ⟨o.1,o.2.1,.func fd,o.2.2⟩/\aK k X.A/\
 az X.prog X.w X.K X.mg X.base (aL X.prog X.w) k f fd [] sp/\cB X.K fd [] []/\sp [] H (λ_ H2=>D.nx σ H2) (λcls _ H2=>cls= .ref C/\∀e,H2 e=none->
 ts {nx:=λσ' H'=>D.nx (σ'.set i none) H',rt:=D.rt} (σ.set i (some (.ref e))) (ak H2 e (.ext (bQ e (.ref C)))))
theorem F8{C C':OO}{x c n:Str}{p cp ep np hp tp:Pos}{b₀:O6}{suite:List O6}{i d:Nat}{ts:TS}{bmB bmB':List ON}{newId newId':String}(hd:X.N[d]?=some x)(hv:oB X.env.scope x)
 (hst:X.stack=X.env::X.outer)(hfr:X.env.frame=some X.env.locals)
 (hmc:X.mg c=some (.ref C'))(hgc:Gl X c)(q:KS X.K C bmB newId=true)(q':KS X.K C' bmB' newId'=true)(hB:bmB'.contains (.type "BaseException")=true)
 (hin:Lg X.K C (.ref C')=some true)
 (hN:X.N.Nodup)(hi:X.N[i]?=some n)(hn:X.env.scope.names.lookup n=some .local)(hs:∀e,bu (X.inEx e) (b₀::suite) ts)
 (hdb:(x==("__debug__":Str))=false:=by decide)(hdc2:(x==("__classdict__":Str))=false:=by decide)(hdc:(c==("__debug__":Str))=false:=by decide)(hsw:Pg (.Call (.Name x p) [] [] cp) none ep.line X.env=pure false:=by rfl):
 PS X (.Try [.Expr (.Call (.Name x p) [] [] cp) ep] [.ExceptHandler (some (.Name c np)) (some n) (b₀::suite) hp] [] [] tp) (F7 X d C i ts):=by
 intro Qm s σ H D I h;refine wpAny_Try_except ?_;generalize hEh:(λ(e:ON) (s₁:OP)=>OV (OU X.prog X.w) X.A (noteFrame e X.env) (λ_ s₂=>OV (OU X.prog X.w) X.A (setFlight e none) (λ_ s₃=>OV (OU X.prog X.w) X.A (handleBy e X.env [.ExceptHandler (some (.Name c np)) (some n) (b₀::suite) hp]) (SP X Qm D) X.xe s₃) X.xe s₂) X.xe s₁)=Eh;have I':aa (X.wish Eh) Qm σ H s:=I.wish Eh;have out:OV (OU X.prog X.w) X.A (eval (.Call (.Name x p) [] [] cp) X.env) (λ_ s₁=>∃H',aa X Qm σ H' s₁/\D.nx σ H') Eh s:=by
  obtain⟨f,k,fd,sp,⟨oc,od,osl⟩,ef,ho,hr,F,hb,q1⟩:=h;refine Pn (au (qB (X:=X.wish Eh) hd hv hdb hdc2 Qm s σ H (λv H'=>v=V.ref f/\H'=H) I' ⟨_,ef,rfl,rfl⟩) λu s1 ⟨x',H1,I1w,r,e1,e2⟩=>?_);subst e1;subst e2;cases r;have I1:aa X Qm σ H1 s1:=I1w.unwish;have X1:Iq.In [(f,⟨oc,od,.func fd,osl⟩)] s1.heap:=λa o e=>by
   rw [Je] at e;split at e
   ·rename_i hh;cases e;have:a=f:=by simpa using hh
    rw [this];exact I1.bk _ _ ho
   ·cases e
  refine PySem.W.callWith_K0 (K:=[(f,⟨oc,od,.func fd,osl⟩)]) X1 (by simp [KQ]) ?_;refine wpAny_call (PF (F.run X.A X.stack s1 H1 ⟨[],[]⟩ [] [] _ _ hr I1.env0 (hb s1 [] I1.kIn rfl) .nil q1) λr2 s2 hq=>?_);cases r2 with
  | ok fl=>
   cases fl with
   | ret u=>
    obtain⟨v,H2,I2,_,q2⟩:=I1.after hq;exact⟨H2,I2,q2⟩
   | next=>exact JQ hq
   | brk=>exact JQ hq
   | cont=>exact JQ hq
  | error ev=>
   obtain⟨e,cls,a0,B,H2,rfl,ho,hgn,fl,hB2,un,kb,th,rfl,hsu⟩:=hq;rw [<-hEh];have fl':NB B (X.env::X.outer) e (.ref C) a0 s2.heap:=by rw [<-hst];exact fl
   refine wpAny_looks_onW (by rw [I.ok.frames,hst]) hfr fl' λh4 held4 sm4=>?_;refine wpAny_landsW held4 λh5 fl5 sm5=>?_;have sm25:=sm4.trans sm5;have I5:aa X Qm σ H2 {s2 with heap:=h5}:=aa.call' (ch:=[]) (s':={s2 with heap:=h5}) I1 ho (xb (X:=X) un fl fl5.1 sm25 kb th) (hB2.kept fl5.1) hgn (λ_ z=>nomatch z);have I5e:=I5.inEx e;obtain⟨ob,hob,hobc⟩:=fl5.there;have O:=(uc (x:=c) (mg:=X.mg) (C:=C') I.ok.mod.kin hmc q').obj;obtain⟨tl',N',nm',qn',bs',hd',sn',sub',ab',col',dd',k0',k1',k2',k3',k5',mN',hC',_,_,T'⟩:=O;have O2:=(uc (x:=c) (mg:=λ_=>some (.ref C)) (C:=C) I.ok.mod.kin rfl q).obj;obtain⟨tl,N,nm,qn,bs,hd,sn,sub,ab,col,dd,k0,k1,k2,k3,k5,mN,hC,_,_,T⟩:=O2;refine wpAny_handleBy_cons (codeAny_handlers_test (nN I5e hgc hmc ?_ hdc)) (by intro z;cases z);have hbase':tl'.contains (.type "BaseException")=true:=by rw [T'.hasType hB]
   refine Dg (I5.bk _ _ hC) (I5.bk _ _ hC') hob hobc hbase' (Dh I.ok.mod.kin hin hC) ?_;refine codeAny_handlers_suite_as ?_;refine lands_againW fl5 λh6 fl6 sm6=>?_;have eB:B.get? e=none:=fl.2.1;have nH2:H2 e=none:=by
    cases z:H2 e with
    | none=>rfl
    | some u=>
     obtain⟨ob',z'⟩:=(hB2 e u z).there;rw [eB] at z';cases z'
   have u6:=xb (X:=X) un fl fl6.1 (sm25.trans sm6) kb th;have n1:∀o,s1.heap.get? e=some o->False:=λo z=>by
    by_cases hbf:e∈aI X.stack
    ·obtain⟨_,o',ho',hd'⟩:=fl.2.2.1.mem hbf;obtain⟨oe,ws,hoe,_,hoed,_⟩:=fl.first;rw [hoe] at ho';cases ho';exact hd' _ hoed
    ·obtain⟨o',z'⟩:=th e o z hbf;rw [eB] at z';cases z'
   have ne2:∀b u,H2 b=some u->b≠e:=λb u z w'=>by rw [w',nH2] at z;cases z
   have un6:Un (aI X.stack) [] H1 (ak H2 e (.ext (bQ e (.ref C)))) s1.heap h6:=
    ⟨u6.keep,u6.slot,λb o z nn hx=>by rw [ay (λw'=>n1 o (by rw [<-w'];exact z))];exact u6.free b o z nn hx,u6.there,
     λb xs z=>by rw [ay (ne2 b _ (u6.tups b xs z))];exact u6.tups b xs z,λb o xs z=>by rw [ay (ne2 b _ (u6.frzs b o xs z))];exact u6.frzs b o xs z,
     λb pss z=>by obtain⟨mo,z'⟩:=u6.tbls b pss z;exact⟨mo,by rw [ay (ne2 b _ z')];exact z'⟩⟩
   have ok6:bf X.prog X.w (ak H2 e (.ext (bQ e (.ref C)))) h6:=λb u z=>by
    by_cases hbe:b=e
    ·subst hbe;rw [bg] at z;cases z;obtain⟨o6,ho6,hc6⟩:=fl6.there;exact⟨⟨o6,ho6,hc6⟩,⟨o6,ho6⟩,λh1 h2 uu16 kk=>by obtain⟨o,z1,z2⟩:=uu16;exact⟨o,kk o z1,z2⟩⟩
    ·rw [ay hbe] at z;exact(hB2 b u z).stay (λcc v _ z'=>fl6.1 cc v z') (λcc z'=>by rw [ay (ne2 cc _ z')];exact z') (λcc xs z'=>by rw [ay (ne2 cc _ z')];exact z') λcc xs z'=>by rw [ay (ne2 cc _ z')];exact z'
   have I6:aa X Qm σ (ak H2 e (.ext (bQ e (.ref C)))) {s2 with heap:=h6}:=aa.call' (ch:=[]) (s':={s2 with heap:=h6}) I1 ho un6 ok6 hgn (λ_ z=>nomatch z);refine mP (X:=X.inEx e) (I6.inEx e) hN hi (.inl hn) (v:= .ref e) rfl (λs7 I7=>?_) (.inr hn);refine Pe (hs e Qm s7 _ _ _ I7 (hsu e nH2)) (λf s8 q8=>?_) λ_ _ z=>z.elim;cases f with
   | next=>
    obtain⟨σ8,H8,J8,q8⟩:=q8;exact xa (J8.outEx I.ok.hd) hN hi hn λs9 J9=>⟨σ8.set i none,H8,J9,q8⟩
   | ret v=>
    obtain⟨v8,σ8,H8,J8,r8,q8⟩:=q8;exact xa (J8.outEx I.ok.hd) hN hi hn λs9 J9=>⟨v8,σ8.set i none,H8,J9,r8,q8⟩
   | brk=>obtain⟨_,_,_,z⟩:=q8;exact z.elim
   | cont=>obtain⟨_,_,_,z⟩:=q8;exact z.elim
 refine Qi (wpAny_Expr_any (au out λv s1 ⟨H',I1,q1⟩=>?_) I.quiet hsw);exact Pz (Pz ⟨σ,H',I1,q1⟩)
def F9(X:Cx)(P:OO)(qual:Str)(scope:Pc)(N':List Str)(fr:List Nat)(body:OR)(k:Nat)(oX:O3->Sp):TE:=λσ H Q=>H P=some (lV qual)/\∀(base':O3)(f c':OO)(fd:OX)(o:ON×Option OO×Array (Option ON))(cl:List (Str×OO))(H':Hp),
 ah H H'->H' c'=some (.cod qual)->base'.get? f=some ⟨o.1,o.2.1,.func fd,o.2.2⟩->az X.prog X.w X.K X.mg base' (aL X.prog X.w) (k+1) f fd [] (Ah X base' σ scope N' fr cl qual f c' k body)->cB X.K fd [] []->oX base' [.ref f] H' Q E0
theorem Ga{kR k:Nat}{fR c P:OO}{fdR:OX}{pn x:Str}{oX:O3->Sp}{qual:Str}{scope:Pc}{N':List Str}{fr:List Nat}{params:Qb}{body:OR}{p lpos pos:Pos}(G:∀base':O3,az X.prog X.w X.K X.mg base' aJ kR fR fdR [pn] (oX base'))(hr:aK kR X.A)
 (hg:Gl X x)(hm:X.mg x=some (.ref fR))(hk:KQ X.K (.ref fR)=true)(hb:cB X.K fdR [pn] [])(L:oo X.base X.mg c P)(hcode:X.env.code= .ref c)(hq:X.env.qual++"<lambda>"=qual)(S:bz X.env.scope X.N N' 0 fr scope)(hfn:∀x,X.fn x=true)
 (hco:scope.isCoroutine=false)(hgen:scope.isGenerator=false)(hcell:∀x∈scope.names,x.2≠ .cell)(hdef:defaultsOf params X.env=([],[]))(hbp:∀(pm cv ctv:ON) (cl:List (Str×OO)),bindArgs (kla_fn "<lambda>" qual params body scope cl pm cv ctv) ⟨[],[]⟩=pure [])
 (hdb:(x==("__debug__":Str))=false:=by decide)(he:OW [.Lambda params body scope lpos] X.env=(false,eval (.Lambda params body scope lpos) X.env)::OW [] X.env:=by rfl)(hpl:(Pd pos (OW [] X.env)).any (·.1)=false:=by rfl):
 PE X (.Call (.Name x p) [.Lambda params body scope lpos] [] pos) (F9 X P qual scope N' fr body k oX):=by
 intro Qm s σ H Q I ⟨hP,h⟩;refine Pn (nN I hg hm ?_ hdb);refine Ms (h₀:=X.base) I.ok.mod.kin hk ?_ he hpl;rw [he];show OV _ _ (spliced ((false,eval (.Lambda params body scope lpos) X.env)::Pd pos (OW [] X.env))) _ _ s;refine Nx (F3 I L hcode hP hq (tW λy hy e=>I.ok.has y.1 (S.outer y hy e)) hdef λf c' pm ctv h' tk H' I1 ho hsz hf hc' sm=>?_);refine NO ⟨I1.kIn,?_⟩;have hfs:f ∉ aI X.stack:=λhb'=>by
  obtain⟨_,o,ho',_⟩:=I.stack.mem hb';exact absurd (IM (IC ho') hsz) (Kb _)
 have h2:=h (mJ X {s with heap:=h',toks:=tk} H') f c' _ (_,_,_) _ H' sm hc' (qu ho hf hfs) (F5 (k:=k) S I1 ho hf hfs hfn hco hgen hcell) (λs2 us _ hl=>by
  cases us with
  | nil=>exact .of_eq (hbp _ _ _ _)
  | cons a l=>simp at hl)
 refine wpAny_call (PF ((G _).run X.A X.stack _ H' ⟨[.ref f],[]⟩ [.ref f] [.ref f] Q E0 hr I1.env0L (hb _ [.ref f] I1.kIn rfl) (.cons rfl .nil) h2) λr s' hq=>?_);cases r with
 | error e=>exact hq.elim
 | ok fl=>
  cases fl with
  | ret u=>exact I1.after hq
  | next=>exact JQ hq
  | brk=>exact JQ hq
  | cont=>exact JQ hq
end
abbrev DX:=List OM->(OM->Prop)->Prop->Prop
inductive oY (K:Iq) (C:OO) (F:DX) (vs:List V) (H:Hp) (Q:VK) (E:XK):Prop
 | mk (O:Ex) (ds:List OM) (Qd:OM->Prop) (R:Prop):(∀l,O l->H l≠none)->aj K H O vs ds->F ds Qd R->(∀d v H',Qd d->ah H H'->Dt K H' O v d->Q v H')->(R->∀H',ah H H'->E (.ref C) none H')->oY K C F vs H Q E
section
variable {P:OZ} {w:O4} {K:Iq} {mg:Str->Option ON} {base:O3}
theorem cm.okDX{C:OO}{x qual:Str}{st:O6}{f:OO}{fd:OX}{N ps:List Str}{k:Nat}{F:DX}(Fu:cm K x qual st f fd)(S:bb N ps (aw st))(len:∀ds Q R,F ds Q R->ds.length=ps.length)
 (hbody:∀(cdv:ON) (A:O5) (outer:List Env) (s:OP) (H:Hp) (O:Ex) (ds:List OM) (Q:OM->Prop) (R:Prop) (E:XK),aK k (A.deeper (Pw qual (aw st) s.heap.objs.size f cdv))->F ds Q R->(R->∀H',ah H H'->E (.ref C) none H')->
  ∃t,bu (aX (aL P w) P w K mg base N qual (aw st) f cdv A outer s H E) (cT st) (aT K H O t)/\t {nx:=λ_=>Q .none,rt:=Q} (cf N ds)):az P w K mg base (aL P w) (k+1) f fd ps (oY K C F):=by
 refine Fu.okR S (λvs H Q E h=>?_) (λcdv A outer s H vs Q E hr h=>?_)
 ·obtain⟨O,ds,Qd,R,_,r,q,_⟩:=h;rw [r.length];exact len _ _ _ q
 ·obtain⟨O,ds,Qd,R,tr,r,q,k,kx⟩:=h;obtain⟨t,ht,q'⟩:=hbody cdv A outer s H O ds Qd R E hr q kx;refine⟨_,ht,O,_,_,rl tr r,q',λO' δ' σ' H' z w' S'=>?_,λd v H' z s' r'=>k d v H' z s' r',λ_ _ _ _ z=>z.elim,λ_ _ _ _ z=>z.elim⟩;exact k _ _ _ z w'.same .non
def gK(R:Prop)(u:DA):DS:=λ_ δ=>u δ λds=>ds.length<=OS/\R
section
variable {N:List Str} {qual:Str} {scope:Pc} {f0:OO} {cd:ON} {A:O5} {outer:List Env} {s:OP} {H:Hp} {O:Ex} {E:XK} {R:Prop} {C:OO}
theorem Gb{x:Str}{bm:List ON}{B newId initId:String}{e:OR}{es:List OR}{np cpos pos:Pos}{u:DA}(hx:R->∀H',ah H H'->E (.ref C) none H')(hm:mg x=some (.ref C))(q:KS K C bm newId=true)(FB:ExcBaseFacts B newId initId bm)
 (ha:PA (aX (aL P w) P w K mg base N qual scope f0 cd A outer s H E) (e::es) (cU K H O u))(hg:Gl (aX (aL P w) P w K mg base N qual scope f0 cd A outer s H E) x:=by exact rfl)(hd:(x==("__debug__":Str))=false:=by decide)
 (he:OW (e::es) (aX (aL P w) P w K mg base N qual scope f0 cd A outer s H E).env=(false,eval e (aX (aL P w) P w K mg base N qual scope f0 cd A outer s H E).env)::OW es (aX (aL P w) P w K mg base N qual scope f0 cd A outer s H E).env:=by rfl)
 (hpl:(Pd cpos (OW es (aX (aL P w) P w K mg base N qual scope f0 cd A outer s H E).env)).any (·.1)=false:=by rfl):
 PS (aX (aL P w) P w K mg base N qual scope f0 cd A outer s H E) (.Raise (some (.Call (.Name x np) (e::es) [] cpos)) none pos) (aT K H O (gK R u)):=
 λQm s1 σ H1 D I ⟨O1,δ,EE,w1,q1,_,_,_,_⟩=>Df (Ex:=λH2=>R/\ah H H2) hm q FB rfl hg ha (λQm σ H2 s2 h' e args I2 hM uu19=>by obtain⟨r,sm⟩:=uu19;exact Dd I2 hM (hx r H2 sm)) hd he hpl Qm s1 σ H1 D I
  ⟨O1,δ,_,w1,q1,λds vs H2 uu20 s2 r2=>by obtain⟨hl,r⟩:=uu20;exact⟨by rw [r2.length];exact hl,r,w1.same.trans s2⟩⟩
def gL(F:DX)(R:Prop)(t:DA):DT:=λδ Q=>t δ λds=>F ds Q R
end
def Ai(P:OZ)(w:O4)(K:Iq)(mg:Str->Option ON)(C:OO)(k0:Nat)(base:O3):Sp:=λvs H Q _=>∃(f k:Nat)(fd:OX)(sp:Sp)(o:ON×Option OO×Array (Option ON)),vs=[.ref f]/\base.get? f=some ⟨o.1,o.2.1,.func fd,o.2.2⟩/\k<=k0/\
 az P w K mg base (aL P w) k f fd [] sp/\cB K fd [] []/\∀(Qn:VK)(En:XK),(∀v H2,Q (.bl false) H2->Qn v H2)->(∀d H2,(∀H3,ah H2 H3->Q (.bl true) H3)->En (.ref C) d H2)->sp [] H Qn En
end
section
variable {X:Cx} {H0:Hp} {O0:Ex}
def gM(F:DX)(fr:List Nat)(u:DA):DT:=λδ Q=>u (bH 0 fr δ) λds=>F ds (λ_=>Q (.bool false)) (Q (.bool true))
theorem Gd{C c PT:OO}{kR k0 kg:Nat}{fR fg:OO}{fdR fdg:OX}{pn x xg qual:Str}{psg:List Str}{stR stg:O6}{F:DX}{scope:Pc}{N':List Str}{fr:List Nat}{params:Qb}{a:OR}{as:List OR}{p gp gpos lpos pos:Pos}{u:DA}
 (G:∀base':O3,az X.prog X.w X.K X.mg base' aJ kR fR fdR [pn] (Ai X.prog X.w X.K X.mg C k0 base'))(Gg:∀base':O3,az X.prog X.w X.K X.mg base' (aL X.prog X.w) kg fg fdg psg (oY X.K C F))
 (hr:aK kR X.A)(NR:Fn X.K X.mg x stR fR fdR [pn])(Ng:Fn X.K X.mg xg stg fg fdg psg)(hP0:H0 PT=some (lV qual))(L:oo X.base X.mg c PT)(hcode:X.env.code= .ref c)(hq:X.env.qual++"<lambda>"=qual)
 (S:bz X.env.scope X.N N' 0 fr scope)(hfr:fr.Nodup)(hfn:∀x,X.fn x=true)
 (ha:∀base' cl f c' A outer s2 H2 E,PA (mZ X base' scope N' cl qual f c' A outer s2 H2 E) (a::as) (cU X.K H0 O0 u))(hk:kg+1<=k0:=by decide)
 (hg:Gl X x:=by exact rfl)(hgl:∀base' cl f c' A outer s2 H2 E,Gl (mZ X base' scope N' cl qual f c' A outer s2 H2 E) xg:=by intros;exact rfl)
 (hco:scope.isCoroutine=false:=by rfl)(hgen:scope.isGenerator=false:=by rfl)(hcell:∀x∈scope.names,x.2≠ .cell:=by decide+kernel)(hdef:defaultsOf params X.env=([],[]):=by rfl)
 (hbp:∀(pm cv ctv:ON) (cl:List (Str×OO)),bindArgs (kla_fn "<lambda>" qual params (.Call (.Name xg gp) (a::as) [] gpos) scope cl pm cv ctv) ⟨[],[]⟩=pure []:=by intros;rfl)
 (hdb:(x==("__debug__":Str))=false:=by decide)(hdg:(xg==("__debug__":Str))=false:=by decide)(he:OW [.Lambda params (.Call (.Name xg gp) (a::as) [] gpos) scope lpos] X.env=(false,eval (.Lambda params (.Call (.Name xg gp) (a::as) [] gpos) scope lpos) X.env)::OW [] X.env:=by rfl)(hpl:(Pd pos (OW [] X.env)).any (·.1)=false:=by rfl)
 (heg:∀env:Env,OW (a::as) env=(false,eval a env)::OW as env:=by intro;rfl)(hplg:∀env:Env,(Pd gpos (OW as env)).any (·.1)=false:=by intro;rfl):
 DE X H0 O0 (.Call (.Name x p) [.Lambda params (.Call (.Name xg gp) (a::as) [] gpos) scope lpos] [] pos) (gM F fr u):=
 PE.imp (Ga (k:=kg) G hr hg NR.m NR.kp NR.b L hcode hq S hfn hco hgen hcell hdef hbp hdb he hpl) λσ H Q ⟨O,δ,Qd,w,q,kk⟩=>⟨w.same _ _ hP0,λbase' f c' fd o cl H' sm hc' hbf Ff hb'=>
  ⟨f,kg+1,fd,_,o,rfl,hbf,hk,Ff,hb',λQn En kQ kE=>⟨rfl,hc',λA outer s2 hr2=>⟨_,tP (E:=λcls _ H4=>cls= .ref C/\Qd (.bool true)/\ah H' H4) (Gg base') hr2 (hgl _ _ _ _ _ _ _ _ _) Ng.m Ng.kp Ng.b .nil
   (F6 λcls d H4 uu22=>by obtain⟨e,r,s4⟩:=uu22;exact e▸kE d H4 λH5 s5=>kk (.bool true) (.bl true) H5 r (sm.trans (s4.trans s5)) (.bl true)) (ha _ _ _ _ _ _ _ _ _) hdg (heg _) (hplg _),
   O,bH 0 fr δ,_,(w.mono sm).comp hfr,q,λds vs H3 q1 s1 r1=>⟨O,ds,_,_,((w.mono sm).mono s1).trk,by rw [IW];exact r1,q1,λd v H4 q2 s2 r2=>kQ v H4 (kk (.bool false) (.bl false) H4 q2 (sm.trans (s1.trans s2)) (.bl false)),λr H4 s2=>⟨rfl,r,s1.trans s2⟩⟩⟩⟩⟩⟩
end
section
variable {P:OZ} {w:O4} {K:Iq} {mg:Str->Option ON} {base:O3}
def Aj(PT:OO)(q:Str)(K:Iq)(F:List OM->(OM->Prop)->Prop):Sp:=λvs H Q E=>H PT=some (lV q)/\bA K F vs H Q E
theorem cm.okDL{x qual q:Str}{st:O6}{f c PT:OO}{fd:OX}{N ps:List Str}{k:Nat}{F:List OM->(OM->Prop)->Prop}(Fu:cm K x qual st f fd)(hco:fd.code= .ref c)(S:bb N ps (aw st))(len:∀ds Q,F ds Q->ds.length=ps.length)
 (hbody:∀(cdv:ON) (A:O5) (outer:List Env) (s:OP) (H:Hp) (O:Ex) (ds:List OM) (Q:OM->Prop) (E:XK),cdv= .ref c->H PT=some (lV q)->aK k (A.deeper (Pw qual (aw st) s.heap.objs.size f cdv))->F ds Q->
  ∃t,bu (aX aJ P w K mg base N qual (aw st) f cdv A outer s H E).nox (cT st) (aT K H O t)/\t {nx:=λ_=>Q .none,rt:=Q} (cf N ds)):az P w K mg base aJ (k+1) f fd ps (Aj PT q K F):=by
 obtain⟨oc,od,kV,doc,pm,an,cdv,ct,osl,rfl,lk,hcd⟩:=Fu.ex;refine tQ lk hcd S (λvs H Q E h=>?_) λA outer s H vs Q E hr hsp=>?_
 ·obtain⟨_,O,ds,Qd,_,r,q,_⟩:=h;rw [r.length];exact len _ _ q
 ·obtain⟨hP,O,ds,Qd,tr,r,q,k⟩:=hsp;obtain⟨t,ht,q'⟩:=hbody cdv A outer s H O ds Qd E hco hP hr q;refine⟨_,ht.nox,O,_,_,rl tr r,q',λO' δ' σ' H' z w' S'=>?_,λd v H' z s' r'=>k d v H' z s' r',λ_ _ _ _ z=>z.elim,λ_ _ _ _ z=>z.elim⟩;exact k _ _ _ z w'.same .non
end
section
variable {X:Cx} {Qm:List (OO×Obj)} {σ:St} {H:Hp} {s:OP}
theorem Ge(I:aa X Qm σ H s){O:Ex}{v:V}{d:OM}{u:ON}(h:Dt X.K H O v d)(ht:cg d=true)(r:ax v u)(y:Str)(t:Tok)(hu:X.A.units < PZ):SeqAt.RcAt X.A s (.str y t) u (IL (.str y) d):=by
 cases h with
 | non=>cases (show u=Ln from r);simpa [IL] using SeqAt.RcAt.str_none y t
 | bl b=>cases (show u=Lh b from r);simpa [IL] using SeqAt.RcAt.str_bool y t b
 | int i=>obtain⟨k,e⟩:=(show ∃t,u=Lm i t from r);cases e;simpa [IL] using SeqAt.RcAt.str_int y t i k
 | str x=>obtain⟨k,e⟩:=(show ∃t,u=La x t from r);cases e;simpa [IL] using ND y t x k
 | @tup a xs ds h n rr=>
  cases (show u=Jb a from r);obtain⟨its,rv,p,_⟩:=I.tuple (.inl h);simpa [IL] using Ni y t (show s.heap.IsTuple a its.toArray from p) hu
 | @tupK a xs ds h rr=>
  cases (show u=Jb a from r);obtain⟨its,rv,p,_⟩:=I.tuple h.of0;simpa [IL] using Ni y t (show s.heap.IsTuple a its.toArray from p) hu
 | @lst a xs ds h n rr=>
  cases (show u=Jb a from r);obtain⟨its,rv,p,_⟩:=I.list (.inl h);simpa [IL] using SeqAt.RcAt.str_list y t p.isList hu
 | pack h n=>exact absurd ht (by simp [cg])
 | purse h n=>exact absurd ht (by simp [cg])
 | scr h r=>exact absurd ht (by simp [cg])
 | obj h e n r=>exact absurd ht (by simp [cg])
 | @dct0 a h n=>
  cases (show u=Jb a from r);obtain⟨_,_,_,_,o,es,ep,e,c,dd,_⟩:=(show bF X.prog X.w H s.heap a (.dK []) from I.hok a _ h);simpa [IL] using SeqAt.RcAt.str_dict y t e c.1 dd hu
 | @dic a ob kv ks kp ds h e1 e2 n rr=>
  cases (show u=Jb a from r);obtain⟨_,_,_,_,o,es,ep,e,c,dd,_⟩:=(show bF X.prog X.w H s.heap a (.dK kv) from(I.hok a _ h).2);simpa [IL] using SeqAt.RcAt.str_dict y t e c.1 dd hu
end
section
variable {X:Cx}
def Ak(K:Iq):R2:=λx y H Q=>∃O dy z,Dt K H O y dy/\cg dy=true/\x= .str z/\Q (.bl (IL (.str z) dy)) H
theorem Gf{k:Nat}(hr:aK k X.A):bx X (Pa .Eq) (Ak X.K):=by
 intro Qm s σ H x y v u Q I rx ry h;obtain⟨O,dy,z,hy,ht,rfl,q⟩:=h;obtain⟨t,rfl⟩:=rx;exact Ge I hy ht ry z t hr.units0 X.prog X.w X.xe _ (bh I q rfl)
def gN:OM->OM->(OM->Prop)->Prop:=λx y Q=>∃z,x= .str z/\cg y=true/\Q (.bool (IL (.str z) y))
theorem Gh{K:Iq}:bU K (Ak K) gN:=λH O x y dx dy Qd R _ hx hy uu23 k=>by
 obtain⟨z,e,ht,q⟩:=uu23;subst e;cases hx.str;exact⟨_,dy,z,hy.all,ht,rfl,k _ _ H q (ah.refl _) (.bl _)⟩
end
theorem Al{X:Cx}{K':Iq}(h:X.K=K'):cI X (.builtin "isinstance") (λxs H Q=>∃(e C:OO)(c:V)(cv:ON)(b:Bool),xs=[.ref e,c]/\H e=some (.ext (bQ e (.ref C)))/\l5 K' C/\(∀u,ax c u->u=cv)/\LV K' (.ref C) cv=some b/\Q (.bl b) H):=by
 subst h;exact Dx
theorem Gi{X:Cx}{K':Iq}(h:X.K=K'):cI X (.builtin "isinstance") (λxs H Q=>∃(e C q:OO)(cs:List OO)(b:Bool),xs=[.ref e,.ref q]/\H e=some (.ext (bQ e (.ref C)))/\H q=some (.tup (cs.map V.ref))/\l5 K' C/\Mp K' (.ref C) (cs.map Jb)=some b/\Q (.bl b) H):=by
 subst h;exact Dz
def Gj(P:OO)(q:Str)(H:Hp):Prop:=∀b,H b=none\/(∃o xs,H b=some (.frz o (.lst xs)))\/(b=P/\H b=some (lV q))
theorem Gk{P:OZ}{w:O4}{K:Iq}{mg mb:Str->Option ON}{CX:dJ}{k:Nat}{fa a c PT:OO}{fd:OX}{x q:Str}{sp:Sp}{s₁:OP}{vs:List ON}{ns:List Int}
 (KX:K.In s₁.heap)(hnt:noTabs K=true)(hns:s₁.heap.Ns OY mg)(hb:s₁.heap.Ns PV mb)(hbb:∀x:Str,x≠"__name__"->mb x=Pb x)(hlim:s₁.heap.NoLimit)(hg:s₁.gens=#[])
 (hC:CodeHd s₁.heap c PT)(hPT:s₁.heap.get? PT=some (tabObj #[]))(hbm:∃bm ob,mg "__builtins__"=some (.ref bm)/\bm≠PV/\s₁.heap.get? bm=some ob/\ob.cls= .type "module"/\ob.dict=some PV/\ob.data= .plain)
 (ha:s₁.heap.get? a=some {cls:= .type "list",data:= .seq vs.toArray})(hi:IntsAre vs ns)(hl:ns.length<=OS)(hr:aK k callerA)
 (F:∀base:O3,K.In base->base.Ns OY mg->oo base mg c PT->az P w K mg base CX k fa fd [x] sp)(hbind:∀(s:OP) (u:ON),BindsTo s fd ⟨[u],[]⟩ [(x,u)])
 (hsp:∀H:Hp,H PT=some (lV q)->aV K H a (ns.map V.int)->sp [.ref a] H (λv _=>v= .bl true) λ_ _ _=>False)
 (hCX:∀H e s',CX [] H s₁ (λ_ _ _=>False) e s'->False):
 PL (OU P w) callerA (.call (.ref fa) ⟨[.ref a],[]⟩) (λr s'=>r= .ok (.ret (.bool true))/\OldK s₁.heap s'.heap/\s'.os=s₁.os/\PX s'.gens) s₁:=by
 have rv:=wC hi;have lenV:=hi.length;have naP:a≠PT:=λe=>by rw [e,hPT] at ha;cases ha
 have KP:K.lookup PT=none:=by
  cases q:K.lookup PT with
  | none=>rfl
  | some o=>
   have e:=KX PT o q;rw [hPT] at e;cases e;have h2:=K7.mp hnt (PT,tabObj #[]) (mem_of_lookupK q);exact absurd (show false=true from h2) IF
 have core:∀H:Hp,Gj PT q H->H PT=some (lV q)->aV K H a (ns.map V.int)->bf P w H s₁.heap->(∀b,H b≠none->b=a\/b=PT)->(H a≠none->K.lookup a=none)->
  PL (OU P w) callerA (.call (.ref fa) ⟨[.ref a],[]⟩) (λr s'=>r= .ok (.ret (.bool true))/\OldK s₁.heap s'.heap/\s'.os=s₁.os/\PX s'.gens) s₁:=by
  intro H hO hHP hS hok hA hK;have base_of:∀{b:OO}{o:Obj},s₁.heap.get? b=some o->H b=none->(mr s₁.heap H).get? b=some o:=λe n=>BH e n;have noA:∀{b:OO}{o:Obj},s₁.heap.get? b=some o->(∀xs,o.data≠ .seq xs 0)->(∀xs,o.data≠ .fields xs)->H b=none:=λ{b o} e d d2=>by
   cases q:H b with
   | none=>rfl
   | some u=>
    rcases hA b (by rw [q];simp) with e' | e' <;> subst e'
    ·rw [ha] at e;cases e;exact absurd rfl (d _)
    ·rw [hPT] at e;cases e;exact absurd rfl (d2 _)
  have nsK:∀{b:OO}{m:Str->Option ON},s₁.heap.Ns b m->(mr s₁.heap H).Ns b m:=λ{b m} ⟨o,es,ep,e,d,r⟩=>⟨o,es,ep,base_of e (noA e (λ_ z=>by rw [d] at z;cases z) λ_ z=>by rw [d] at z;cases z),d,r⟩;have hKb:K.In (mr s₁.heap H):=λb o e=>base_of (KX b o e) (by
   cases q:H b with
   | none=>rfl
   | some u=>
    rcases hA b (by rw [q];simp) with e' | e' <;> subst e'
    ·rw [hK (by rw [q];simp)] at e;cases e
    ·rw [KP] at e;cases e)
  have hM:Mod K mg (mr s₁.heap H):=⟨hKb,nsK hns,⟨mb,nsK hb,hbb⟩,let ⟨mc,h1,h2⟩:=hlim;⟨mc,nsK h1,h2⟩⟩;have e0:l3 P w K mg (mr s₁.heap H) callerA [] s₁ H:=⟨rfl,hM,λb o e=>BI e,Nu (BG _ _),trivial,λb hb=>absurd (show b∈([]:List OO) from hb) OL,hok,.of_eq hg⟩;have hL:oo (mr s₁.heap H) mg c PT:=by
   refine⟨?_,λe=>?_,?_⟩
   ·obtain⟨o,vs,file,tf,flags,tg,inF,text,tt,g1,g2,r1,r2,r3,r4,r5,r6,r7,ne⟩:=hC;refine⟨o,vs,file,tf,flags,tg,inF,text,tt,base_of g1 ?_,g2,r1,r2,r3,r4,r5,r6,r7,ne⟩;cases q:H c with
    | none=>rfl
    | some u=>
     rcases hA c (by rw [q];simp) with e' | e'
     ·rw [e',ha] at g1;cases g1;exact absurd (show("list":String)="code" from by injection g2) OG
     ·exact absurd e' ne
   ·obtain⟨o,es,ep,g1,g2,_⟩:=hns;rw [e,hPT] at g1;cases g1;cases g2
   ·obtain⟨bm,ob,b1,b2,b3,b4,b5,b6⟩:=hbm;refine⟨bm,ob,b1,b2,λe=>?_,λe=>?_,base_of b3 (noA b3 (λ_ z=>by rw [b6] at z;cases z) λ_ z=>by rw [b6] at z;cases z),b4,b5,b6⟩
    ·obtain⟨o,es,ep,g1,g2,_⟩:=hns;rw [<-e,b3] at g1;cases g1;rw [b6] at g2;cases g2
    ·rw [e,hPT] at b3;cases b3;cases b4
  refine PF ((F _ hKb (nsK hns) hL).run callerA [] s₁ H ⟨[.ref a],[]⟩ [.ref a] [.ref a] _ _ hr e0 (hbind s₁ (.ref a)) (.cons rfl .nil) (hsp H hHP hS)) λr s' h=>?_;cases r with
  | error e=>exact(hCX H e s' h).elim
  | ok fl=>
   cases fl with
   | next=>exact JQ h
   | brk=>exact JQ h
   | cont=>exact JQ h
   | ret u=>
    obtain⟨v,H',os,bare,un,hok',r',q⟩:=h;have q':v= .bl true:=q;subst q';obtain rfl:u=Lh true:=r';refine⟨rfl,⟨λb o e=>?_,λb o e=>un.there b o e OL⟩,os,bare⟩;cases q:H b with
    | none=>exact .inl (un.keep b o e q (by intro z;exact absurd (show b∈([]:List OO) from z) OL) OL)
    | some u=>
     rcases hO b with z | ⟨ob,xs,z⟩ | ⟨rfl,z⟩
     ·rw [q] at z;cases z
     ·have z2:=un.frzs b ob _ z;obtain⟨e1,_⟩:=hok b _ z;obtain⟨e2,_⟩:=hok' b _ z2;rw [e] at e1;cases e1;exact .inl e2
     ·obtain⟨more,z2⟩:=un.tbls b _ z;obtain⟨_,_,_,ps,e2,_⟩:=hok' b _ z2;rw [hPT] at e;cases e;exact .inr (.inl ⟨(hC.tab hPT).isCodeTable,rfl,#[],ps,rfl,by rw [Array.empty_append];exact e2⟩)
 cases hk:K.lookup a with
 | some o=>
  have e:=KX a o hk;rw [ha] at e;cases e;refine core (λb=>if b=PT then some (lV q) else none) (λb=>?_) (OJ rfl) (.inr ⟨_,vs.toArray,_,hk,rfl,rfl,rfl,by rw [II,lenV];exact hl,by simpa using rv⟩) (λb u z=>?_) (λb z=>?_) λz=>absurd (OI naP) z
  ·by_cases hb:b=PT
   ·exact .inr (.inr ⟨hb,OJ hb⟩)
   ·exact .inl (OI hb)
  ·by_cases hb:b=PT
   ·have z':=(OJ hb).symm.trans z;cases z';subst hb;exact⟨q,0,rfl,#[],hPT,trivial,λ_ _ e=>nomatch e⟩
   ·have z':=(OI hb).symm.trans z;cases z'
  ·by_cases hb:b=PT
   ·exact .inr hb
   ·exact absurd (OI hb) z
 | none=>
  refine core (λb=>if b=PT then some (lV q) else if b=a then some (.frz {cls:= .type "list",data:= .seq vs.toArray} (.lst (ns.map V.int))) else none) (λb=>?_) (OJ rfl) (.inl (.inr ⟨{cls:= .type "list",data:= .seq vs.toArray},(OI naP).trans (OJ rfl)⟩)) (λb u z=>?_) (λb z=>?_) λ_=>hk
  ·by_cases hb:b=PT
   ·exact .inr (.inr ⟨hb,OJ hb⟩)
   ·by_cases hb2:b=a
    ·exact .inr (.inl ⟨_,_,(OI hb).trans (OJ hb2)⟩)
    ·exact .inl ((OI hb).trans (OI hb2))
  ·by_cases hb:b=PT
   ·have z':=(OJ hb).symm.trans z;cases z';subst hb;exact⟨q,0,rfl,#[],hPT,trivial,λ_ _ e=>nomatch e⟩
   ·have z:=(OI hb).symm.trans z;by_cases hb2:b=a
    ·have z':=(OJ hb2).symm.trans z;cases z';subst hb2;exact⟨ha,by rw [Iw];exact hl,vs,_,rv,ha⟩
    ·have z':=(OI hb2).symm.trans z;cases z'
  ·by_cases hb:b=PT
   ·exact .inr hb
   ·by_cases hb2:b=a
    ·exact .inl hb2
    ·exact absurd ((OI hb).trans (OI hb2)) z
theorem tabIn_of{K:Iq}{x:Str}{f c P:OO}{oc o2:ON}{od d2:Option OO}{osl s2:Array (Option ON)}{fd:OX}{vs:Array ON}(a:nsIn K OY x=some (some (.ref f)))(b:K.lookup f=some ⟨oc,od,.func fd,osl⟩)(e:fd.code= .ref c)
 (g:K.lookup c=some ⟨o2,d2,.fields vs,s2⟩)(j:(vs[11]?:Option ON)=some (.ref P)):tabIn K x=some (c,P):=by
 unfold tabIn;simp only [a,b,e,g,j]
theorem walk_ofTK{l:PySem.W.OpenLaw}{n k:Nat}{q:OZ}{loose:List Str}{XP:(Str->Option ON)->O3->Prop}{YP:O4->O3->Prop}{d dl:DefRec}{K:Params->Iq}{sp:Iq->OO->Sp}{x qn:Str}{c PT:OO}
 (hn:l.most=some n)(hn2:n<=OS)(hdf:d.params.defaults=[])(hr:aK k callerA)
 (hY:∀(w:O4) (h:O3),YP w h->(K w.params).In h)(hrec:(recsOf q).find? (λe=>e.name==d.name)=some dl)
 (F:∀(w:O4) (mg:Str->Option ON) (fa:OO) (h:O3),(K w.params).In h->h.Ns OY mg->mg d.name=some (.ref fa)->
  ∃fd:OX,noTabs (K w.params)=true/\tabIn (K w.params) d.name=some (c,PT)/\(∀(s:OP) (u:ON),BindsTo s fd ⟨[u],[]⟩ [(x,u)])/\(∃oc od osl,(K w.params).lookup fa=some ⟨oc,od,.func fd,osl⟩)/\
   ∀base:O3,(K w.params).In base->base.Ns OY mg->oo base mg c PT->fd.code= .ref c->az l.prog w (K w.params) mg base aJ k fa fd [x] (sp (K w.params) PT))
 (hsp:∀(K:Iq) (H:Hp) (a:OO) (ns:List Int),ns.length<=n->(∀z∈ns,KD z<=1048576)->H PT=some (lV qn)->aV K H a (ns.map V.int)->sp K PT [.ref a] H (λv _=>v= .bl true) λ_ _ _=>False):
 PySem.W.WalkO q loose XP YP l.row.toRowW d [] (λf vs=>OD f vs):=by
 refine Att.attach_callB hn hdf λw s₀ s₁ mg mb fa o pm cd doc a vs ns G Y ho hd hcd hmg hobj hints hlen hb hg=>?_;have KX:=hY w _ Y;obtain⟨fd,hnt,hti,hbi,⟨oc,od,osl,hl⟩,hF⟩:=F w mg fa _ KX G.T.g hmg;obtain⟨hC,hPT⟩:=tab_of G.T KX hrec hti;have hco:fd.code= .ref c:=law_code KX G.T.g hti hmg (KX _ _ hl) rfl;exact Gk (q:=qn) KX hnt G.T.g G.T.b G.T.builtins G.T.nolimit hg hC hPT G.T.bmain hobj hints (Jx hlen hn2) hr (λbase h1 h2 h3=>hF base h1 h2 h3 hco) hbi (λH hO hS=>hsp _ H a ns hlen hb hO hS) λH e s' h=>h.elim
inductive rN (K:Iq) (C Ce:OO) (F:DX) (vs:List V) (H:Hp) (Q:VK) (E:XK):Prop
 | mk (x dx:OO) (vs':List V) (H1:Hp) (O:Ex) (ds:List OM) (R:Prop):vs= .ref x::vs'->H=ak (ak H1 dx (.own x)) x (.ins C dx [])->H1 x=none->H1 dx=none->dx≠x->(∀l,O l->H1 l≠none)->aj K H1 O vs' ds->F ds (λ_=>False) R->
 (R->∀H',ah H1 H'->E (.ref Ce) none H')->rN K C Ce F vs H Q E
section
variable {P:OZ} {w:O4} {K:Iq} {mg:Str->Option ON} {base:O3}
theorem cm.okIX{x qual:Str}{st:O6}{f C Ce:OO}{fd:OX}{N ps:List Str}{k:Nat}{F:DX}(Fu:cm K x qual st f fd)(S:bb N ps (aw st))(len:∀ds Q R,F ds Q R->ds.length+1=ps.length)
 (hbody:∀(cdv:ON) (A:O5) (outer:List Env) (s:OP) (H H1:Hp) (O:Ex) (ds:List OM) (R:Prop) (E:XK) (l:OO),aK k (A.deeper (Pw qual (aw st) s.heap.objs.size f cdv))->F ds (λ_=>False) R->(R->∀H',ah H1 H'->E (.ref Ce) none H')->
  ∃t,bu (aX (aL P w) P w K mg base N qual (aw st) f cdv A outer s H E) (cT st) (aT K H1 O t)/\t {nx:=λ_=>False,rt:=λ_=>False} (qq N l C ds)):az P w K mg base (aL P w) (k+1) f fd ps (rN K C Ce F):=by
 refine Fu.okR S (λvs H Q E h=>?_) (λcdv A outer s H vs Q E hr h=>?_)
 ·obtain⟨x,dx,vs',H1,O,ds,R,rfl,_,_,_,_,_,r,q,_⟩:=h;rw [IE,r.length];exact len _ _ _ q
 ·obtain⟨x,dx,vs',H1,O,ds,R,rfl,rfl,hx,hdx,ne,tr,r,q,kx⟩:=h;obtain⟨t,ht,q'⟩:=hbody cdv A outer s _ H1 O ds R E x hr q kx;exact⟨_,ht,_,_,_,yZ tr r hx hdx ne,q',λO' δ' σ' H' z w' S'=>z.elim,λd v H' z s' r'=>z.elim,λ_ _ _ _ z=>z.elim,λ_ _ _ _ z=>z.elim⟩
section
variable {N:List Str} {qual:Str} {scope:Pc} {f0:OO} {cd:ON} {A:O5} {outer:List Env} {s:OP} {H H0:Hp} {O:Ex} {E:XK} {R:Prop} {C Ce:OO}
theorem Gm{k j:Nat}{f:OO}{fd:OX}{ps:List Str}{F:DX}{st:O6}{x:Str}{p pos:Pos}{e:OR}{es:List OR}{u:DA}(hx:R->∀H',ah H0 H'->E (.ref C) none H')(G:az P w K mg base (aL P w) k f fd ps (oY K C F))
 (hr:aK j (aX (aL P w) P w K mg base N qual scope f0 cd A outer s H E).A)(Nf:Fn K mg x st f fd ps)(ha:PA (aX (aL P w) P w K mg base N qual scope f0 cd A outer s H E) (e::es) (cU K H0 O u))(hk:k<=j:=by decide)
 (hg:Gl (aX (aL P w) P w K mg base N qual scope f0 cd A outer s H E) x:=by exact rfl)(hdb:(x==("__debug__":Str))=false:=by decide)
 (he:OW (e::es) (aX (aL P w) P w K mg base N qual scope f0 cd A outer s H E).env=(false,eval e (aX (aL P w) P w K mg base N qual scope f0 cd A outer s H E).env)::OW es (aX (aL P w) P w K mg base N qual scope f0 cd A outer s H E).env:=by rfl)
 (hpl:(Pd pos (OW es (aX (aL P w) P w K mg base N qual scope f0 cd A outer s H E).env)).any (·.1)=false:=by rfl):
 DE (aX (aL P w) P w K mg base N qual scope f0 cd A outer s H E) H0 O (.Call (.Name x p) (e::es) [] pos) (gL F R u):=
 PE.imp (tP (E:=λcls d H1=>cls= .ref C/\d=none/\R/\ah H0 H1) G (hr.mono hk) hg Nf.m Nf.kp Nf.b .nil (wY λcls d H' uu24=>by obtain⟨e,e2,r,sm⟩:=uu24;exact e▸e2▸hx r H' sm) ha hdb he hpl)
  λσ H1 Q uu25=>by obtain⟨O1,δ,Qd,w1,q,k1⟩:=uu25;exact⟨O1,δ,_,w1,q,λds vs H2 q1 s1 r1=>⟨O1,ds,Qd,R,(w1.mono s1).trk,by rw [IW];exact r1,q1,λd v H3 q2 s2 r2=>k1 d v H3 q2 (s1.trans s2) r2,λr H3 s2=>⟨rfl,rfl,r,w1.same.trans (s1.trans s2)⟩⟩⟩
def gO(F:DX)(R:Prop)(t:DA):DT:=λδ _=>t δ λds=>F ds (λ_=>False) R
theorem Gn{k j:Nat}{f:OO}{fd:OX}{ps:List Str}{F:DX}{x:Str}{p pos:Pos}{e:OR}{es:List OR}{u:DA}(hx:R->∀H',ah H0 H'->E (.ref Ce) none H')(M:Mk K C f)(G:az P w K mg base (aL P w) k f fd ps (rN K C Ce F))
 (hr:aK j (aX (aL P w) P w K mg base N qual scope f0 cd A outer s H E).A)(hm:mg x=some (.ref C))(hb:cB K fd ps [])(ha:PA (aX (aL P w) P w K mg base N qual scope f0 cd A outer s H E) (e::es) (cU K H0 O u))(hk:k+1<=j:=by decide)
 (hg:Gl (aX (aL P w) P w K mg base N qual scope f0 cd A outer s H E) x:=by exact rfl)(hdb:(x==("__debug__":Str))=false:=by decide)
 (he:OW (e::es) (aX (aL P w) P w K mg base N qual scope f0 cd A outer s H E).env=(false,eval e (aX (aL P w) P w K mg base N qual scope f0 cd A outer s H E).env)::OW es (aX (aL P w) P w K mg base N qual scope f0 cd A outer s H E).env:=by rfl)
 (hpl:(Pd pos (OW es (aX (aL P w) P w K mg base N qual scope f0 cd A outer s H E).env)).any (·.1)=false:=by rfl):
 DE (aX (aL P w) P w K mg base N qual scope f0 cd A outer s H E) H0 O (.Call (.Name x p) (e::es) [] pos) (gO F R u):=
 PE.imp (wc (E:=λcls d H1=>cls= .ref Ce/\d=none/\R/\ah H0 H1) M G (hr.mono hk) hg hm hb .nil (wY λcls d H' uu26=>by obtain⟨e,e2,r,sm⟩:=uu26;exact e▸e2▸hx r H' sm) ha hdb he hpl)
  λσ H1 Q uu27=>by obtain⟨O1,δ,Qd,w1,q,k1⟩:=uu27;exact⟨O1,δ,_,w1,q,λds vs H2 q1 s1 r1 x dx hx hdx ne=>⟨x,dx,vs,H2,O1,ds,R,by rw [IW],rfl,hx,hdx,ne,(w1.mono s1).trk,r1,q1,λr H3 s2=>⟨rfl,rfl,r,w1.same.trans (s1.trans s2)⟩⟩⟩
end
end
section
variable {X:Cx} {H0:Hp} {O0:Ex}
def lW(i:Nat):DT:=λδ Q=>∃kd,δ[i]?=some (some (.k kd))/\Q (.int kd.length)
end
theorem Wd.tellF{K:Iq}{H0 H:Hp}{O0 O:Ex}{σ:St}{δ:Dl}(w:Wd K H0 O0 H O σ δ){i:Nat}{l:OO}{o:Obj}{kv:List (ag×V)}{kd:List (ag×OM)}(h:σ[i]?=some (some (.ref l)))(n:¬O l)(e:H l=some (.frz o (.dK kv)))(r:bj K H O kv kd):Wd K H0 O0 H O σ (δ.set i (some (.f kd))):=by
 have li:i < δ.length:=by rw [<-w.len];exact(IG.mp h).1
 have ne:∀{j:Nat}{y:Sl},(δ.set i (some (.f kd)))[j]?=some (some y)->y.own->j≠i:=λ{j y} q hy z=>by
  subst z;rw [IT li] at q;cases q;exact hy
 refine⟨w.same,w.sub,w.new,w.trk,by simp [w.len],λj y q=>?_,λj k y z l' e1 y1 e2 z2 e3 e4=>?_⟩
 ·by_cases hj:j=i
  ·subst hj;rw [IT li] at q;cases q;exact⟨l,o,kv,by rw [h];rfl,n,e,r⟩
  ·rw [IH (Ne.symm hj)] at q;exact w.sl j y q
 ·have n1:=ne e1 y1;have n2:=ne e2 z2;rw [IH (Ne.symm n1)] at e1;rw [IH (Ne.symm n2)] at e2;exact w.dis j k _ _ l' e1 y1 e2 z2 e3 e4
theorem Wd.fast{K:Iq}{H0 H:Hp}{O0 O:Ex}{σ:St}{δ:Dl}(w:Wd K H0 O0 H O σ δ){i:Nat}{kd:List (ag×OM)}(e:δ[i]?=some (some (.f kd))):∃l o kv,σ[i]?=some (some (.ref l))/\¬O l/\H l=some (.frz o (.dK kv))/\bj K H O kv kd:=by
 obtain⟨l,o,kv,h,r⟩:=w.sl i _ e;exact⟨l,o,kv,mD h,r⟩
section
variable {X:Cx} {H0:Hp} {O0:Ex}
def gQ(i:Nat)(t:DS):DS:=λE δ=>∃kd,δ[i]?=some (some (.k kd))/\t E (δ.set i (some (.f kd)))
theorem Gp(i:Nat){st:O6}{t:DS}(h:PS X st (aT X.K H0 O0 t)):PS X st (aT X.K H0 O0 (gQ i t)):=
 (FA h i).imp λD σ H uu28=>by
  obtain⟨O,δ,E,w,⟨kd,e,q⟩,k1,k2,k3,k4⟩:=uu28;obtain⟨l,kv,h,a,b,c,r⟩:=w.ownK e;refine⟨l,kv,h,c,λo=>?_⟩;obtain⟨O',w',S,n⟩:=w.frzK (y0:= .k kd) e trivial h (.frz o (.dK kv));have w2:=w'.tellF h n bg (r.step S);rw [List.set_set] at w2;exact⟨O',_,E,w2,q,λO2 δ2 σ2 H2 z2 w2 S2=>k1 O2 δ2 σ2 H2 z2 w2 (S.trans S2),k2,λO2 δ2 σ2 H2 z2 w2 S2=>k3 O2 δ2 σ2 H2 z2 w2 (S.trans S2),λO2 δ2 σ2 H2 z2 w2 S2=>k4 O2 δ2 σ2 H2 z2 w2 (S.trans S2)⟩
def gR(i:Nat)(dg:DG)(tb:DS):DS:=λE δ=>∃kd,δ[i]?=some (some (.f kd))/\fv dg tb E (kd.map λp=>dR p.1) δ
theorem Gq{i:Nat}{tg iter:OR}{g:TG}{dg:DG}{tb:DS}{body:List O6}{pos:Pos}(hp:PR (OU X.prog X.w) X.A X.env X.xe)(hc:X.calm=true)(hi:PE X iter (mR i))(hg:PG X tg g)(gd:GD X.K g dg)(hb:bu X body (aT X.K H0 O0 tb))(hs:∀x,O7 iter X.env x=pure x:=by intro _;rfl):
 PS X (.For tg iter body [] pos) (aT X.K H0 O0 (gR i dg tb)):=
 (pJ hp hc (F0 hi) hg hb hs).imp λD σ H uu29=>by
  obtain⟨O,δ,E,w,⟨kd,e,q⟩,k1,k2,k3,k4⟩:=uu29;obtain⟨l,o,kv,h,n,c,r⟩:=w.fast e;exact⟨.ref l,h,l,o,kv,rfl,c,p5 cb.dk gd (λH' O2 S2=>S2.keep _ _ c n) (aj.keysK r) w q k1 k2⟩
end
end L2
namespace K13
open PySem L2
def bJ(i:Nat):O6:=PySem.Challenge.pw_goneday_k13_reckonings.main.body.getD i (.Pass ⟨0,0,0,0⟩)
abbrev uO:O6:=bJ 18
abbrev uP:O6:=bJ 19
abbrev uQ:O6:=bJ 20
abbrev uR:O6:=bJ 21
abbrev uS:O6:=bJ 22
abbrev uT:O6:=bJ 23
abbrev rO:O6:=bJ 24
abbrev uU:O6:=bJ 25
abbrev rP:O6:=L2.inClass (bJ 27) 0
abbrev uV:O6:=bJ 28
abbrev rQ:O6:=bJ 29
abbrev uW:O6:=bJ 30
abbrev qv:O6:=bJ 31
abbrev rR:O6:=bJ 32
abbrev rS:O6:=bJ 34
abbrev rT:O6:=bJ 35
abbrev uX:O6:=bJ 36
abbrev uY:O6:=bJ 37
abbrev uZ:O6:=bJ 39
abbrev u5:O6:=bJ 40
abbrev rV:O6:=bJ 41
abbrev u7:O6:=bJ 42
abbrev u9:O6:=bJ 43
abbrev va:O6:=bJ 44
abbrev vb:O6:=bJ 45
abbrev vc:O6:=bJ 46
abbrev vd:O6:=bJ 47
abbrev qw:O6:=bJ 48
abbrev rW:O6:=bJ 49
abbrev ve:O6:=bJ 50
abbrev oZ:O6:=bJ 51
set_option genInjectivity false in
set_option genSizeOfSpec false in
structure dU where
 a_A:OO
 d_A:OX
 a_B:OO
 d_B:OX
 a_C:OO
 d_C:OX
 a_D:OO
 d_D:OX
 a_E:OO
 d_E:OX
 a_F:OO
 d_F:OX
 a_G:OO
 d_G:OX
 a_H:OO
 d_H:OX
 a_I:OO
 d_I:OX
 a_J:OO
 d_J:OX
 a_K:OO
 d_K:OX
 a_L:OO
 d_L:OX
 a_M:OO
 d_M:OX
 a_N:OO
 d_N:OX
 a_O:OO
 d_O:OX
 a_P:OO
 d_P:OX
 a_Q:OO
 d_Q:OX
 a_R:OO
 d_R:OX
 a_S:OO
 d_S:OX
 a_T:OO
 d_T:OX
 a_U:OO
 d_U:OX
 a_V:OO
 d_V:OX
 a_W:OO
 d_W:OX
 a_X:OO
 d_X:OX
 a_Y:OO
 d_Y:OX
 a_Z:OO
 d_Z:OX
 a_a:OO
 d_a:OX
 a_b:OO
 d_b:OX
 a_c:OO
 d_c:OX
 a_d:OO
 d_d:OX
 a_e:OO
 d_e:OX
 u_MONTH_DAYS:ON
 u_FIRST_YEAR:ON
 u_ROUND_DAYS:ON
 u_ROUND_YEARS:ON
 u_NoPaper:OO
 u_Paper:OO
 u_ArchiveError:OO
 u_GoneMaker:OO
 u_Held:OO
 u_MustStay:OO
 u_NoCall:OO
 u_NoDay:OO
 u_NoDeed:OO
 u_NoLeave:OO
 u_NoNumber:OO
 u_NoText:OO
 u_Twice:OO
structure Txt (K:Iq) (mg:Str->Option ON) (t:dU):Prop where
 F_A:Fn K mg "is_leap" uO t.a_A t.d_A ["year"]
 F_B:Fn K mg "month_length" uP t.a_B t.d_B ["year","month"]
 F_C:Fn K mg "leaps_before" uQ t.a_C t.d_C ["year"]
 F_D:Fn K mg "year_start" uR t.a_D t.d_D ["year"]
 F_E:Fn K mg "year_of" uS t.a_E t.d_E ["day"]
 F_F:Fn K mg "parts_of" uT t.a_F t.d_F ["day"]
 F_G:Fn K mg "number_of" rO t.a_G t.d_G ["year","month","day"]
 F_H:Fn K mg "later" uU t.a_H t.d_H ["day","many","unit"]
 F_I:Mn K "__init__" "Paper.__init__" rP t.a_I t.d_I ["self","deeds","name"]
 F_J:Fn K mg "place_of" uV t.a_J t.d_J ["deed"]
 F_K:Fn K mg "comings" rQ t.a_K t.d_K ["deeds"]
 F_L:Fn K mg "coming_of" uW t.a_L t.d_L ["deeds","paper"]
 F_M:Fn K mg "maker_comings" qv t.a_M t.d_M ["deeds","coming"]
 F_N:Fn K mg "makers" rR t.a_N t.d_N ["deeds","paper"]
 F_O:Fn K mg "happened" rS t.a_O t.d_O ["paper","happening"]
 F_P:Fn K mg "base_of" rT t.a_P t.d_P ["paper","since","day"]
 F_Q:Fn K mg "reckoned" uX t.a_Q t.d_Q ["paper","parts","day"]
 F_R:Fn K mg "reckoning" uY t.a_R t.d_R ["deeds","parts","paper","day"]
 F_S:Fn K mg "_law_cell" uZ t.a_S t.d_S ["_law_script","_law_k"]
 F_T:Fn K mg "_law_numbers" u5 t.a_T t.d_T ["_law_cell_here","_law_many"]
 F_U:Fn K mg "_law_names" rV t.a_U t.d_U ["_law_xs","_law_many"]
 F_V:Fn K mg "_law_ahead" u7 t.a_V t.d_V ["_law_year"]
 F_W:Fn K mg "_law_lengths" u9 t.a_W t.d_W ["_law_year"]
 F_X:Fn K mg "_law_later" va t.a_X t.d_X ["_law_day_here","_law_many","_law_unit"]
 F_Y:Fn K mg "_law_day" vb t.a_Y t.d_Y ["_law_x","_law_far"]
 F_Z:Fn K mg "_law_parts" vc t.a_Z t.d_Z ["_law_xs","_law_kinds","_law_words"]
 F_a:Fn K mg "_law_drawn" vd t.a_a t.d_a ["_law_script"]
 F_b:Fn K mg "_law_due" qw t.a_b t.d_b ["_law_deeds","_law_part","_law_paper","_law_day_here"]
 F_c:Fn K mg "_law_is" rW t.a_c t.d_c ["_law_told","_law_due_here"]
 F_d:Fn K mg "_law_refused" ve t.a_d t.d_d ["_law_deed"]
 F_e:Fn K mg "law" oZ t.a_e t.d_e ["_law_script"]
 bt_e:∀(s:OP)(u:ON),BindsTo s t.d_e ⟨[u],[]⟩ [("_law_script",u)]
 c_MONTH_DAYS:mg "MONTH_DAYS"=some t.u_MONTH_DAYS
 e_MONTH_DAYS:∃a,t.u_MONTH_DAYS= .ref a/\∀H,aZ K H a [V.int 31,V.int 28,V.int 31,V.int 30,V.int 31,V.int 30,V.int 31,V.int 31,V.int 30,V.int 31,V.int 30,V.int 31]
 c_FIRST_YEAR:mg "FIRST_YEAR"=some t.u_FIRST_YEAR
 r_FIRST_YEAR:ax (.int 2000) t.u_FIRST_YEAR
 c_ROUND_DAYS:mg "ROUND_DAYS"=some t.u_ROUND_DAYS
 r_ROUND_DAYS:ax (.int 146097) t.u_ROUND_DAYS
 c_ROUND_YEARS:mg "ROUND_YEARS"=some t.u_ROUND_YEARS
 r_ROUND_YEARS:ax (.int 400) t.u_ROUND_YEARS
 c_NoPaper:mg "NoPaper"=some (.ref t.u_NoPaper)
 c_Paper:mg "Paper"=some (.ref t.u_Paper)
 c_ArchiveError:mg "ArchiveError"=some (.ref t.u_ArchiveError)
 c_GoneMaker:mg "GoneMaker"=some (.ref t.u_GoneMaker)
 c_Held:mg "Held"=some (.ref t.u_Held)
 c_MustStay:mg "MustStay"=some (.ref t.u_MustStay)
 c_NoCall:mg "NoCall"=some (.ref t.u_NoCall)
 c_NoDay:mg "NoDay"=some (.ref t.u_NoDay)
 c_NoDeed:mg "NoDeed"=some (.ref t.u_NoDeed)
 c_NoLeave:mg "NoLeave"=some (.ref t.u_NoLeave)
 c_NoNumber:mg "NoNumber"=some (.ref t.u_NoNumber)
 c_NoText:mg "NoText"=some (.ref t.u_NoText)
 c_Twice:mg "Twice"=some (.ref t.u_Twice)
 cl_Paper:my K t.u_Paper
 mk_Paper:Mk K t.u_Paper t.a_I
 na_Paper_name:NoAttr K t.u_Paper "name"
 na_Paper_coming:NoAttr K t.u_Paper "coming"
 na_Paper_kind:NoAttr K t.u_Paper "kind"
 na_Paper_makers:NoAttr K t.u_Paper "makers"
 na_Paper_happenings:NoAttr K t.u_Paper "happenings"
 q_NoPaper:KS K t.u_NoPaper [.type "ValueError",.type "Exception",.type "BaseException",.type "object"] "ValueError.__new__"=true
 q_ArchiveError:KS K t.u_ArchiveError [.type "ValueError",.type "Exception",.type "BaseException",.type "object"] "ValueError.__new__"=true
 z1:JT K (.ref t.u_NoPaper) "__getattribute__"=some (some (.builtin "BaseException.__getattribute__"))
 z2:JT K (.ref t.u_NoPaper) "__getattr__"=some none
 z3:JT K (.ref t.u_NoPaper) "__class__"=some (some (.builtin "object.__class__"))
 z4:NT K (.builtin "object.__class__") "__get__"=some (some (.builtin "getset_descriptor.__get__"))
 z5:N6 K (.builtin "object.__class__")=some true
 z6:Lg K t.u_NoPaper (.type "object")=some true
 z7:Lg K t.u_NoPaper (.type "BaseException")=some true
 z8:N7 K t.u_NoPaper=true
 i_NoPaper_ArchiveError:Lg K t.u_NoPaper (.ref t.u_ArchiveError)=some true
 ka:Mp K (.ref t.u_NoPaper) [.ref t.u_GoneMaker,.ref t.u_Held,.ref t.u_MustStay,.ref t.u_NoCall,.ref t.u_NoDay,.ref t.u_NoDeed,.ref t.u_NoLeave,.ref t.u_NoNumber,.ref t.u_NoText,.ref t.u_Twice]=some false
 kv:LV K (.ref t.u_NoPaper) (.type "ValueError")=some true
 n_ValueError:mg "ValueError"=none
 n_abs:mg "abs"=none
 n_all:mg "all"=none
 n_bool:mg "bool"=none
 n_int:mg "int"=none
 n_isinstance:mg "isinstance"=none
 n_len:mg "len"=none
 n_max:mg "max"=none
 n_min:mg "min"=none
 n_range:mg "range"=none
 n_sorted:mg "sorted"=none
 n_str:mg "str"=none
 n_sum:mg "sum"=none
 n_tuple:mg "tuple"=none
theorem Gr:bb ["year"] ["year"] (aw uO):= .of
theorem Gs:bb ["year","month"] ["year","month"] (aw uP):= .of
theorem Am:bb ["year","past"] ["year"] (aw uQ):= .of
theorem Gu:bb ["year"] ["year"] (aw uR):= .of
theorem An:bb ["day","year"] ["day"] (aw uS):= .of
theorem o3:bb ["day","year","left","month"] ["day"] (aw uT):= .of
theorem Ao:bb ["year","month","day","before"] ["year","month","day"] (aw rO):= .of
theorem o4:bb ["day","many","unit","months","parts","place","year","month"] ["day","many","unit"] (aw uU):= .of
theorem rX:bb ["self","deeds","name","coming"] ["self","deeds","name"] (aw rP):= .of
theorem Gv:bb ["deed"] ["deed"] (aw uV):= .of
theorem Gw:bb ["deeds"] ["deeds"] (aw rQ):= .of
theorem rY:bb ["deeds","paper","deed"] ["deeds","paper"] (aw uW):= .of
theorem Ap:bb ["deeds","coming","named"] ["deeds","coming"] (aw qv):= .of
theorem Gx:bb ["deeds","paper"] ["deeds","paper"] (aw rR):= .of
theorem Gy:bb ["paper","happening"] ["paper","happening"] (aw rS):= .of
theorem Aq:bb ["paper","since","day","days"] ["paper","since","day"] (aw rT):= .of
theorem Ar:bb ["paper","parts","day","base"] ["paper","parts","day"] (aw uX):= .of
theorem As:bb ["deeds","parts","paper","day"] ["deeds","parts","paper","day"] (aw uY):= .of
theorem rZ:bb ["_law_script","_law_k","_law_state","_law_cell_here"] ["_law_script","_law_k"] (aw uZ):= .of
theorem nE:bb ["_law_cell_here","_law_many","_law_some","_law_state","_law_digits","_law_k"] ["_law_cell_here","_law_many"] (aw u5):= .of
theorem nF:bb ["_law_xs","_law_many","_law_letters","_law_stem","_law_size","_law_at","_law_some","_law_k","_law_two"] ["_law_xs","_law_many"] (aw rV):= .of
theorem Au:bb ["_law_year","_law_past"] ["_law_year"] (aw u7):= .of
theorem Av:bb ["_law_year","_law_long"] ["_law_year"] (aw u9):= .of
theorem nG:bb ["_law_day_here","_law_many","_law_unit","_law_year","_law_rest","_law_month","_law_months","_law_lengths_here"] ["_law_day_here","_law_many","_law_unit"] (aw va):= .of
theorem vf:bb ["_law_x","_law_far","_law_month","_law_end"] ["_law_x","_law_far"] (aw vb):= .of
theorem vg:bb ["_law_xs","_law_kinds","_law_words","_law_since","_law_many"] ["_law_xs","_law_kinds","_law_words"] (aw vc):= .of
theorem gS:bb ["_law_script","_law_xs","_law_many","_law_far","_law_names_here","_law_kinds","_law_words","_law_some","_law_k","_law_ys","_law_deed","_law_parts_here","_law_turn"] ["_law_script"] (aw vd):= .of
theorem sd:bb ["_law_deeds","_law_part","_law_paper","_law_day_here","_law_some","_law_told"] ["_law_deeds","_law_part","_law_paper","_law_day_here"] (aw qw):= .of
theorem Gz:bb ["_law_told","_law_due_here"] ["_law_told","_law_due_here"] (aw rW):= .of
theorem Aw:bb ["_law_deed","e"] ["_law_deed"] (aw ve):= .of
theorem eI:bb ["_law_script","_law_names_here","_law_parts_here","_law_deeds","_law_days","_law_deed","_law_day_here","_law_paper","_law_part","_law_due_here","_law_few","_law_some","_law_thing"] ["_law_script"] (aw oZ):= .of
theorem Ax{α:Type}{us:List α}(h:us.length=1):∃a,us=[a]:=List.length_eq_one_iff.mp h
theorem Ay{α:Type}{us:List α}(h0:us.length=2):∃a b,us=[a,b]:=by
 cases us with
 | nil=>cases h0
 | cons a us=>
  obtain⟨b,z0⟩:=Ax (us:=us) (NI h0);exact⟨a,b,by rw [z0]⟩
theorem Az{α:Type}{us:List α}(h0:us.length=3):∃a b c,us=[a,b,c]:=by
 cases us with
 | nil=>cases h0
 | cons a us=>
  obtain⟨b,c,z0⟩:=Ay (us:=us) (NI h0);exact⟨a,b,c,by rw [z0]⟩
theorem GA{α:Type}{us:List α}(h0:us.length=4):∃a b c d,us=[a,b,c,d]:=by
 cases us with
 | nil=>cases h0
 | cons a us=>
  obtain⟨b,c,d,z0⟩:=Az (us:=us) (NI h0);exact⟨a,b,c,d,by rw [z0]⟩
local macro_rules | `(tactic| walk_at "b")=>`(tactic| (intro _ _ _ _ _ _ us hl;first | (cases ls0 (us:=us) hl;rfl) | (obtain⟨a,e⟩:=Ax (us:=us) hl;subst e;rfl) | (obtain⟨a,b,e⟩:=Ay (us:=us) hl;subst e;rfl) | (obtain⟨a,b,c,e⟩:=Az (us:=us) hl;subst e;rfl) | (obtain⟨a,b,c,d,e⟩:=GA (us:=us) hl;subst e;rfl)))
theorem txt_mk{K:Iq}{h:O3}{mg:Str->Option ON}(X:K.In h)(G:h.Ns OY mg)
 {f0 f1 f2 f3 f4 f5 f6 f7 f8 f9 f10 f11 f12 f13 f14 f15 f16 f17 f18 f19 f20 f21 f22 f23 f24 f25 f26 f27 f28 f29 f30:OO}{e0 e1 e2 e3 e4 e5 e6 e7 e8 e9 e10 e11 e12 e13 e14 e15 e16 e17 e18 e19 e20 e21 e22 e23 e24 e25 e26 e27 e28 e29 e30:OX}
 {u_NoPaper u_Paper u_ArchiveError u_GoneMaker u_Held u_MustStay u_NoCall u_NoDay u_NoDeed u_NoLeave u_NoNumber u_NoText u_Twice:OO}
 {u_FIRST_YEAR u_ROUND_DAYS u_ROUND_YEARS:ON}
 {A_MONTH_DAYS:OO}{dd_MONTH_DAYS:Option OO}{its_MONTH_DAYS:Array ON}{n_MONTH_DAYS:Nat}{sl_MONTH_DAYS:Array (Option ON)}
 (a0:DfT K "is_leap" uO f0 e0)
 (a1:DfT K "month_length" uP f1 e1)
 (a2:DfT K "leaps_before" uQ f2 e2)
 (a3:DfT K "year_start" uR f3 e3)
 (a4:DfT K "year_of" uS f4 e4)
 (a5:DfT K "parts_of" uT f5 e5)
 (a6:DfT K "number_of" rO f6 e6)
 (a7:DfT K "later" uU f7 e7)
 (a8:DmT K u_Paper "__init__" "Paper.__init__" rP f8 e8)
 (a9:DfT K "place_of" uV f9 e9)
 (a10:DfT K "comings" rQ f10 e10)
 (a11:DfT K "coming_of" uW f11 e11)
 (a12:DfT K "maker_comings" qv f12 e12)
 (a13:DfT K "makers" rR f13 e13)
 (a14:DfT K "happened" rS f14 e14)
 (a15:DfT K "base_of" rT f15 e15)
 (a16:DfT K "reckoned" uX f16 e16)
 (a17:DfT K "reckoning" uY f17 e17)
 (a18:DfT K "_law_cell" uZ f18 e18)
 (a19:DfT K "_law_numbers" u5 f19 e19)
 (a20:DfT K "_law_names" rV f20 e20)
 (a21:DfT K "_law_ahead" u7 f21 e21)
 (a22:DfT K "_law_lengths" u9 f22 e22)
 (a23:DfT K "_law_later" va f23 e23)
 (a24:DfT K "_law_day" vb f24 e24)
 (a25:DfT K "_law_parts" vc f25 e25)
 (a26:DfT K "_law_drawn" vd f26 e26)
 (a27:DfT K "_law_due" qw f27 e27)
 (a28:DfT K "_law_is" rW f28 e28)
 (a29:DfT K "_law_refused" ve f29 e29)
 (a30:DfT K "law" oZ f30 e30)
 (x_MONTH_DAYS:IU K OY "MONTH_DAYS"=some (some (.ref A_MONTH_DAYS)))(y_MONTH_DAYS:K.lookup A_MONTH_DAYS=some ⟨.type "tuple",dd_MONTH_DAYS,.seq its_MONTH_DAYS n_MONTH_DAYS,sl_MONTH_DAYS⟩)(z_MONTH_DAYS:aB [V.int 31,V.int 28,V.int 31,V.int 30,V.int 31,V.int 30,V.int 31,V.int 31,V.int 30,V.int 31,V.int 30,V.int 31] its_MONTH_DAYS.toList)(w_MONTH_DAYS:its_MONTH_DAYS.size<=OS)
 (x_FIRST_YEAR:IU K OY "FIRST_YEAR"=some (some u_FIRST_YEAR))(r_FIRST_YEAR:ax (.int 2000) u_FIRST_YEAR)
 (x_ROUND_DAYS:IU K OY "ROUND_DAYS"=some (some u_ROUND_DAYS))(r_ROUND_DAYS:ax (.int 146097) u_ROUND_DAYS)
 (x_ROUND_YEARS:IU K OY "ROUND_YEARS"=some (some u_ROUND_YEARS))(r_ROUND_YEARS:ax (.int 400) u_ROUND_YEARS)
 (x_NoPaper:IU K OY "NoPaper"=some (some (.ref u_NoPaper)))
 (x_Paper:IU K OY "Paper"=some (some (.ref u_Paper)))
 (x_ArchiveError:IU K OY "ArchiveError"=some (some (.ref u_ArchiveError)))
 (x_GoneMaker:IU K OY "GoneMaker"=some (some (.ref u_GoneMaker)))
 (x_Held:IU K OY "Held"=some (some (.ref u_Held)))
 (x_MustStay:IU K OY "MustStay"=some (some (.ref u_MustStay)))
 (x_NoCall:IU K OY "NoCall"=some (some (.ref u_NoCall)))
 (x_NoDay:IU K OY "NoDay"=some (some (.ref u_NoDay)))
 (x_NoDeed:IU K OY "NoDeed"=some (some (.ref u_NoDeed)))
 (x_NoLeave:IU K OY "NoLeave"=some (some (.ref u_NoLeave)))
 (x_NoNumber:IU K OY "NoNumber"=some (some (.ref u_NoNumber)))
 (x_NoText:IU K OY "NoText"=some (some (.ref u_NoText)))
 (x_Twice:IU K OY "Twice"=some (some (.ref u_Twice)))
 (cl_Paper:Af K u_Paper)
 (na_Paper_name:NoAttr K u_Paper "name")
 (na_Paper_coming:NoAttr K u_Paper "coming")
 (na_Paper_kind:NoAttr K u_Paper "kind")
 (na_Paper_makers:NoAttr K u_Paper "makers")
 (na_Paper_happenings:NoAttr K u_Paper "happenings")
 (f_q_NoPaper:KS K u_NoPaper [.type "ValueError",.type "Exception",.type "BaseException",.type "object"] "ValueError.__new__"=true)
 (f_q_ArchiveError:KS K u_ArchiveError [.type "ValueError",.type "Exception",.type "BaseException",.type "object"] "ValueError.__new__"=true)
 (f_z1:JT K (.ref u_NoPaper) "__getattribute__"=some (some (.builtin "BaseException.__getattribute__")))
 (f_z2:JT K (.ref u_NoPaper) "__getattr__"=some none)
 (f_z3:JT K (.ref u_NoPaper) "__class__"=some (some (.builtin "object.__class__")))
 (f_z4:NT K (.builtin "object.__class__") "__get__"=some (some (.builtin "getset_descriptor.__get__")))
 (f_z5:N6 K (.builtin "object.__class__")=some true)
 (f_z6:Lg K u_NoPaper (.type "object")=some true)
 (f_z7:Lg K u_NoPaper (.type "BaseException")=some true)
 (f_z8:N7 K u_NoPaper=true)
 (f_i_NoPaper_ArchiveError:Lg K u_NoPaper (.ref u_ArchiveError)=some true)
 (f_ka:Mp K (.ref u_NoPaper) [.ref u_GoneMaker,.ref u_Held,.ref u_MustStay,.ref u_NoCall,.ref u_NoDay,.ref u_NoDeed,.ref u_NoLeave,.ref u_NoNumber,.ref u_NoText,.ref u_Twice]=some false)
 (f_kv:LV K (.ref u_NoPaper) (.type "ValueError")=some true)
 (n_ValueError:IU K OY "ValueError"=some none)
 (n_abs:IU K OY "abs"=some none)
 (n_all:IU K OY "all"=some none)
 (n_bool:IU K OY "bool"=some none)
 (n_int:IU K OY "int"=some none)
 (n_isinstance:IU K OY "isinstance"=some none)
 (n_len:IU K OY "len"=some none)
 (n_max:IU K OY "max"=some none)
 (n_min:IU K OY "min"=some none)
 (n_range:IU K OY "range"=some none)
 (n_sorted:IU K OY "sorted"=some none)
 (n_str:IU K OY "str"=some none)
 (n_sum:IU K OY "sum"=some none)
 (n_tuple:IU K OY "tuple"=some none):∃t:dU,Txt K mg t:=by
 refine⟨⟨f0,e0,f1,e1,f2,e2,f3,e3,f4,e4,f5,e5,f6,e6,f7,e7,f8,e8,f9,e9,f10,e10,f11,e11,f12,e12,f13,e13,f14,e14,f15,e15,f16,e16,f17,e17,f18,e18,f19,e19,f20,e20,f21,e21,f22,e22,f23,e23,f24,e24,f25,e25,f26,e26,f27,e27,f28,e28,f29,e29,f30,e30,.ref A_MONTH_DAYS,u_FIRST_YEAR,u_ROUND_DAYS,u_ROUND_YEARS,u_NoPaper,u_Paper,u_ArchiveError,u_GoneMaker,u_Held,u_MustStay,u_NoCall,u_NoDay,u_NoDeed,u_NoLeave,u_NoNumber,u_NoText,u_Twice⟩,?_⟩;have bl:∀(s:OP)(u:ON),BindsTo s e30 ⟨[u],[]⟩ [("_law_script",u)]:=λs v=>by
  obtain⟨oc,od,kV,doc,pm,an,cdv,ct,osl,rfl,_⟩:=a30.F.ex;exact .of_eq rfl
 exact⟨a0.fn X G,a1.fn X G,a2.fn X G,a3.fn X G,a4.fn X G,a5.fn X G,a6.fn X G,a7.fn X G,a8.fn,a9.fn X G,a10.fn X G,a11.fn X G,a12.fn X G,a13.fn X G,a14.fn X G,a15.fn X G,a16.fn X G,a17.fn X G,a18.fn X G,a19.fn X G,a20.fn X G,a21.fn X G,a22.fn X G,a23.fn X G,a24.fn X G,a25.fn X G,a26.fn X G,a27.fn X G,a28.fn X G,a29.fn X G,a30.fn X G,bl,JJ X G x_MONTH_DAYS,⟨A_MONTH_DAYS,rfl,λH=>.inr ⟨_,_,_,y_MONTH_DAYS,rfl,rfl,w_MONTH_DAYS,z_MONTH_DAYS⟩⟩,JJ X G x_FIRST_YEAR,r_FIRST_YEAR,JJ X G x_ROUND_DAYS,r_ROUND_DAYS,JJ X G x_ROUND_YEARS,r_ROUND_YEARS,JJ X G x_NoPaper,JJ X G x_Paper,JJ X G x_ArchiveError,JJ X G x_GoneMaker,JJ X G x_Held,JJ X G x_MustStay,JJ X G x_NoCall,JJ X G x_NoDay,JJ X G x_NoDeed,JJ X G x_NoLeave,JJ X G x_NoNumber,JJ X G x_NoText,JJ X G x_Twice,cl_Paper.c,a8.mkk cl_Paper,na_Paper_name,na_Paper_coming,na_Paper_kind,na_Paper_makers,na_Paper_happenings,f_q_NoPaper,f_q_ArchiveError,f_z1,f_z2,f_z3,f_z4,f_z5,f_z6,f_z7,f_z8,f_i_NoPaper_ArchiveError,f_ka,f_kv,JD X G n_ValueError,JD X G n_abs,JD X G n_all,JD X G n_bool,JD X G n_int,JD X G n_isinstance,JD X G n_len,JD X G n_max,JD X G n_min,JD X G n_range,JD X G n_sorted,JD X G n_str,JD X G n_sum,JD X G n_tuple⟩
local macro_rules | `(tactic| walk_at "o")=>`(tactic| first | exact MP rfl | exact Mj rfl)
theorem OK{p:Prop}(h:p:=by walk_at "o"):p:=h
local macro_rules | `(tactic| walk_at "a") =>rzT "sS sR sV sU sT oH lX mR tC nO tq rI gW rU tw tD FG FH FI FJ FK tH tB sI sJ sL sM sN sO sQ pP tL tK pQ tM tN pC oG pA sW wK wL wM wN wO wQ wR wU dn dG cS L2.start IA Jg IE Jt IJ Jq Ju IW JW JX Kp Kq Kr Ji Ja JE JF JB exists_eq_left' exists_eq_left exists_and_left exists_and_right V.int.injEq V.bl.injEq V.str.injEq V.ref.injEq Jn and_true true_and Ks exists_const decide_eq_true_eq Kt Ku Kf Kg JA decide_eq_false_iff_not and_assoc aS JL JH JM L2.cxK L2.cmK or_true true_or"
open Day
theorem AA:bz (aw rO) ["year","month","day","before"] ["other","year"] 1 [0] ⟨IX,[ (Iu ".0",Ql),(Iu "other",Ql),(Iu "month_length",K4),(Iu "year",Jd)],false,false,[]⟩:= .of
section
variable {P:OZ} {w:O4} {K:Iq} {mg:Str->Option ON} {base:O3} {t:dU}
def AB:Sp:=λvs H Q _=>∃(y:Int),vs=[.int y]/\Q (.bl (lz y)) H
theorem GB(T:Txt K mg t):az P w K mg base aJ 1 t.a_A t.d_A ["year"] AB:=by
 refine T.F_A.F.ok Gr (λvs H Q E h=>?_) (λcdv A outer s H vs Q E hr h=>?_)
 ·obtain⟨y,rfl,_⟩:=h;rfl
 ·obtain⟨y,rfl,k⟩:=h;refine⟨_,(cQ (cR (vJ (qK pK (bp aR (pv 0) bB) bB (aG _)) (qC (sP (qK pK (bp aR (pv 0) bB) bB (aG _)) (qC (qK B6 (bp aR (pv 0) bB) bB (aG _)))))))),?_⟩;walk_at "a";have e:lz y=(decide (y % 400=0) || (decide (y % 4=0) && !decide (y % 100=0))):=rfl;rw [e] at k;by_cases h1:y % 400=0
  ·simpa [h1] using k
  ·by_cases h2:y % 4=0
   ·simpa [h1,h2] using k
   ·simpa [h1,h2] using k
def AD:Sp:=λvs H Q _=>∃(y m:Int),vs=[.int y,.int m]/\1<=m/\m<=12/\Q (.int (aM y m)) H
theorem vh(T:Txt K mg t):az P w K mg base aJ 2 t.a_B t.d_B ["year","month"] AD:=by
 have G_A:=@GB P w _ _ base _ T;refine T.F_B.F.ok Gs (λvs H Q E h=>?_) (λcdv A outer s H vs Q E hr h=>?_)
 ·obtain⟨y,m,rfl,_⟩:=h;rfl
 ·obtain⟨y,m,rfl,h1,h2,k⟩:=h;obtain⟨a,ea,hM⟩:=T.e_MONTH_DAYS;have T_r:ax (.ref a) t.u_MONTH_DAYS:=ea;refine⟨_,(cx (oF (PW.pt (vI (nQ pK (pv 1) bB (aG _)) (vH (sH (dF G_A (hr.mono OG) rfl T.F_A (aP (pv 0) bP)))))) (cQ (cR bB)) oE)
   (cQ (cR (pR aO (cP rfl T.c_MONTH_DAYS T_r) (bp cj (pv 1) bB) (λ_ _=>rfl))))),?_⟩
  walk_at "a";simp only [AB];walk_at "a";have fin:∀{v:Int},v=aM y m->Q (.int v) H:=λe=>by rw [e];exact k
  have tail:aM y m=uJ.getD (m - 1).toNat 0->qO K (.ref a) (.int (m - 1)) H Q:=λe=>by
   refine⟨a,_,m - 1,.int (aM y m),rfl,rfl,hM H,?_,k⟩;rw [e];rcases uN h1 h2 with z | z | z | z | z | z | z | z | z | z | z | z <;> subst z <;> rfl
  by_cases hm:m=2
  ·rw [OJ hm];by_cases hl:lz y=true
   ·rw [OJ hl];exact fin (by unfold aM;rw [OJ ⟨hm,hl⟩])
   ·rw [OI hl];exact tail (by unfold aM;rw [OI (λz=>hl z.2)])
  ·rw [OI hm];exact tail (uM hm)
def AE:Sp:=λvs H Q _=>∃(y:Int),vs=[.int y]/\Q (.int (lb y)) H
theorem GC(T:Txt K mg t):az P w K mg base aJ 1 t.a_C t.d_C ["year"] AE:=by
 refine T.F_C.F.ok Am (λvs H Q E h=>?_) (λcdv A outer s H vs Q E hr h=>?_)
 ·obtain⟨y,rfl,_⟩:=h;rfl
 ·obtain⟨y,rfl,k⟩:=h;refine⟨_,(cx (dj (i:=1) Am.nd rfl OK (bp cj (pv 0) bB))
   (cQ (cR (bp aN (bp cj (bp cy (pv 1) bB) (bp cy (pv 1) bB)) (bp cy (pv 1) bB))))),?_⟩
  walk_at "a";exact k
def se:Sp:=λvs H Q _=>∃(y:Int),vs=[.int y]/\Q (.int (aY y)) H
theorem vi(T:Txt K mg t):az P w K mg base aJ 2 t.a_D t.d_D ["year"] se:=by
 have G_C:=@GC P w _ _ base _ T;refine T.F_D.F.ok Gu (λvs H Q E h=>?_) (λcdv A outer s H vs Q E hr h=>?_)
 ·obtain⟨y,rfl,_⟩:=h;rfl
 ·obtain⟨y,rfl,k⟩:=h;refine⟨_,(cQ (cR (bp cj (bp aN (bp dH bB (bp cj (pv 0) (cP rfl T.c_FIRST_YEAR T.r_FIRST_YEAR))) (dF G_C (hr.mono OG) rfl T.F_C (aP (pv 0) bP))) (dF G_C (hr.mono OG) rfl T.F_C (aP (cP rfl T.c_FIRST_YEAR T.r_FIRST_YEAR) bP))))),?_⟩;walk_at "a";simp only [AE];walk_at "a";exact k
def AF:Sp:=λvs H Q _=>∃(d:Int),vs=[.int d]/\Q (.int (mj d)) H
theorem GF(T:Txt K mg t):az P w K mg base aJ 3 t.a_E t.d_E ["day"] AF:=by
 have G_D:=@vi P w _ _ base _ T;refine T.F_E.F.ok An (λvs H Q E h=>?_) (λcdv A outer s H vs Q E hr h=>?_)
 ·obtain⟨d,rfl,_⟩:=h;rfl
 ·obtain⟨d,rfl,k⟩:=h;refine⟨_,(cx (dj (i:=1) An.nd rfl OK (bp aN (cP rfl T.c_FIRST_YEAR T.r_FIRST_YEAR) (bp cy (bp dH (pv 0) (cP rfl T.c_ROUND_YEARS T.r_ROUND_YEARS)) (cP rfl T.c_ROUND_DAYS T.r_ROUND_DAYS))))
   (cx (oF (nQ tE (dF G_D (hr.mono OG) rfl T.F_D (aP (pv 1) bP)) (pv 0) (aG _)) (cQ (cR (bp cj (pv 1) bB))) oE)
   (cx (oF (nQ pL (dF G_D (hr.mono OG) rfl T.F_D (aP (bp aN (pv 1) bB) bP)) (pv 0) (aG _)) (cQ (cR (bp aN (pv 1) bB))) oE)
   (cQ (cR (pv 1)))))),?_⟩
  walk_at "a";simp only [se];walk_at "a";unfold mj at k;split
  ·rename_i h;rw [OJ h] at k;exact k
  ·rename_i h;rw [OI h] at k;split
   ·rename_i h;rw [OJ h] at k;exact k
   ·rename_i h;rw [OI h] at k;exact k
def GG:Sp:=λvs H Q _=>∃(d:Int),vs=[.int d]/\∀(p:OO)(H':Hp)(y m n:Int),mY d y m n->ah H H'->H p=none->H' p=some (.tup [.int y,.int m,.int n])->Q (.ref p) H'
theorem GH(T:Txt K mg t):az P w K mg base aJ 4 t.a_F t.d_F ["day"] GG:=by
 have G_E:=@GF P w _ _ base _ T;have G_D:=@vi P w _ _ base _ T;have G_B:=@vh P w _ _ base _ T;refine T.F_F.F.ok o3 (λvs H Q E h=>?_) (λcdv A outer s H vs Q E hr h=>?_)
 ·obtain⟨d,rfl,_⟩:=h;rfl
 ·obtain⟨d,rfl,k⟩:=h;refine⟨_,(cx (dj (i:=1) o3.nd rfl OK (dF G_E (hr.mono OG) rfl T.F_E (aP (pv 0) bP)))
   (cx (dj (i:=2) o3.nd rfl OK (bp cj (pv 0) (dF G_D (hr.mono OG) rfl T.F_D (aP (pv 1) bP))))
   (cx (dj (i:=3) o3.nd rfl OK bB)
   (cx (vN JC (nQ tF (pv 2) (dF G_B (hr.mono OG) rfl T.F_B (aP (pv 1) (aP (pv 3) bP))) (aG _)) (cx (dj (i:=2) o3.nd rfl OK (bp cj (pv 2) (dF G_B (hr.mono OG) rfl T.F_B (aP (pv 1) (aP (pv 3) bP)))))
   (cQ (dj (i:=3) o3.nd rfl OK (bp aN (pv 3) bB)))))
   (cQ (cR (tO (aP (pv 1) (aP (pv 3) (aP (bp aN (pv 2) bB) bP)))))))))),?_⟩
  walk_at "a";simp only [AF];walk_at "a";simp only [se];walk_at "a";have yo:=Ae d;generalize mj d=y at*;refine⟨λm σ H'=>H'=H/\∃mo:Int,1<=mo/\mo<=12/\ar y mo<=d - aY y/\m=(12 - mo).toNat/\σ=[some (.int d),some (.int y),some (.int (d - aY y - ar y mo)),some (.int mo)],⟨11,rfl,1,OG,OG,?_,rfl,?_⟩,?_⟩
  ·rw [qt];omega
  ·rw [qt];simp
  ·rintro m σ H' ⟨rfl,mo,h1,h2,hb,rfl,rfl⟩;walk_at "a";simp only [AD];walk_at "a";refine⟨h1,h2,?_⟩;have ys:=uK y;have ba:=Ac (y:=y) h1 h2;split
   ·rename_i hge;have lt12:mo < 12:=by
     by_cases z:mo < 12
     ·exact z
     ·have e:mo=12:=OH
      subst e;have:=(nB y);have:=rM y;omega
    refine⟨_,λ_ _ h=>h,h1,h2,(12 - (mo+1)).toNat,OH,rfl,mo+1,OH,OH,?_,rfl,?_⟩
    ·rw [cN h1];omega
    ·rw [cN h1,show d - aY y - (ar y mo+aM y mo)=d - aY y - ar y mo - aM y mo by omega]
   ·rename_i hlt;refine⟨by show 3<=OS;decide,λp hp=>?_⟩;refine k p _ y mo (d - aY y - ar y mo+1) ⟨h1,h2,OH,OH,by unfold mX;omega⟩ (ah.new hp) hp bg
def GI:Sp:=λvs H Q _=>∃(y m n:Int),vs=[.int y,.int m,.int n]/\1<=m/\m<=12/\∀H',ah H H'->Q (.int (mX y m n)) H'
theorem GJ(T:Txt K mg t):az P w K mg base aJ 3 t.a_G t.d_G ["year","month","day"] GI:=by
 have G_D:=@vi P w _ _ base _ T;have G_B:=@vh P w _ _ base _ T;refine T.F_G.F.ok Ao (λvs H Q E h=>?_) (λcdv A outer s H vs Q E hr h=>?_)
 ·obtain⟨y,m,n,rfl,_⟩:=h;rfl
 ·obtain⟨y,m,n,rfl,h1,h2,k⟩:=h;refine⟨_,(cx (dj (i:=3) Ao.nd rfl OK (ck (t8 rfl) rfl T.n_sum Me (aP (qT rfl AA (B2 rfl T.n_range (aP bB (aP (pv 1) bP))) (λ_ _ _ _=>(bC (i:=0) AA.nd rfl OK)) (λ_ _ _ _=>wI) (λ_ _ _ _=>(dF G_B (hr.mono OG) rfl T.F_B (aP (pv 1) (aP (pv 0) bP))))) bP)))
   (cQ (cR (bp cj (bp aN (bp aN (dF G_D (hr.mono OG) rfl T.F_D (aP (pv 0) bP)) (pv 3)) (pv 2)) bB)))),?_⟩
  walk_at "a";refine⟨OH,OH,?_⟩;refine C9 (λi=>.int (aM y (1+(i:Int)))) OH (λi H' R hi s1 hR=>?_) (λD H' hD s1 e1=>?_)
  ·walk_at "a";exact⟨_,_,rfl,OH,OH,hR H' (ah.refl _)⟩
  ·refine⟨D,rfl,(JP (m - 1).toNat).map λ(i:Nat)=>aM y (1+(i:Int)),aV.of (by rw [e1,Kx];rfl),?_⟩;simp only [se];walk_at "a";exact k H' s1
def nH(u:Str):Prop:=u="days"\/u="months"\/u="years"
def nc(d k:Int)(u:Str)(r:Int):Prop:=(u="days"/\r=d+k)\/(u="months"/\∃y m n,mY d y m n/\r=om y m n k)\/(u="years"/\∃y m n,mY d y m n/\r=om y m n (k*12))
theorem AG:¬(("months":Str)="days"):=OF
theorem AH:¬(("years":Str)="days"):=OF
theorem AI:¬(("months":Str)="years"):=OF
def GK:Sp:=λvs H Q _=>∃(d k:Int)(u:Str),vs=[.int d,.int k,.str u]/\nH u/\∀r H',nc d k u r->ah H H'->Q (.int r) H'
theorem GL(T:Txt K mg t):az P w K mg base aJ 5 t.a_H t.d_H ["day","many","unit"] GK:=by
 have G_F:=@GH P w _ _ base _ T;have G_B:=@vh P w _ _ base _ T;have G_G:=@GJ P w _ _ base _ T;refine T.F_H.F.ok o4 (λvs H Q E h=>?_) (λcdv A outer s H vs Q E hr h=>?_)
 ·obtain⟨d,k,u,rfl,_⟩:=h;rfl
 ·obtain⟨d,mk,u,rfl,hu,k⟩:=h;refine⟨_,(cx (oF (nQ pK (pv 2) sG (aG _)) (cQ (cR (bp aN (pv 0) (pv 1)))) oE)
   (cx (dj (i:=3) o4.nd rfl OK (vK (nQ pK (pv 2) sG (aG _)) (bp dH (pv 1) bB) (pv 1)))
   (cx (dj (i:=4) o4.nd rfl OK (dF G_F (hr.mono OG) rfl T.F_F (aP (pv 0) bP)))
   (cx (dj (i:=5) o4.nd rfl OK (bp aN (bp cj (bp aN (bp dH (pR aO (pv 4) bB (λ_ _=>rfl)) bB) (pR aO (pv 4) bB (λ_ _=>rfl))) bB) (pv 3)))
   (cx (dj (i:=6) o4.nd rfl OK (bp cy (pv 5) bB))
   (cx (dj (i:=7) o4.nd rfl OK (bp aN (bp aR (pv 5) bB) bB))
   (cQ (cR (dF G_G (hr.mono OG) rfl T.F_G (aP (pv 6) (aP (pv 7) (aP (ck (tI rfl) rfl T.n_min Lz (aP (pR aO (pv 4) bB (λ_ _=>rfl)) (aP (dF G_B (hr.mono OG) rfl T.F_B (aP (pv 6) (aP (pv 7) bP))) bP))) bP)))))))))))),?_⟩
  walk_at "a";by_cases hd:u="days"
  ·rw [OJ hd];exact k _ H (.inl ⟨hd,rfl⟩) (ah.refl _)
  ·rw [OI hd];by_cases hy:u="years"
   ·rw [OJ hy];refine⟨d,rfl,λp H' y m n D s1 _ e1=>?_⟩;refine oM (aZ.of e1) rfl ⟨y,rfl,oM (aZ.of e1) rfl ⟨m,rfl,oM (aZ.of e1) rfl ?_⟩⟩;refine⟨_,_,rfl,OH,OH,n,rfl,_,rfl,_,_,_,rfl,OH,OH,λH2 s2=>?_⟩;exact k _ H2 (.inr (.inr ⟨hy,y,m,n,D,by unfold om;rw [wX]⟩)) (s1.trans s2)
   ·rw [OI hy];have hm:u="months":=by rcases hu with z | z | z;exact absurd z hd;exact z;exact absurd z hy
    refine⟨d,rfl,λp H' y m n D s1 _ e1=>?_⟩;refine oM (aZ.of e1) rfl ⟨y,rfl,oM (aZ.of e1) rfl ⟨m,rfl,oM (aZ.of e1) rfl ?_⟩⟩;refine⟨_,_,rfl,OH,OH,n,rfl,_,rfl,_,_,_,rfl,OH,OH,λH2 s2=>?_⟩;exact k _ H2 (.inr (.inl ⟨hm,y,m,n,D,by unfold om;rw [wX]⟩)) (s1.trans s2)
def F_H:List OM->(OM->Prop)->Prop:=λds Q=>∃(d i:Int)(u:Str),ds=[.int d,.int i,.str u]/\nH u/\∀r,nc d i u r->Q (.int r)
theorem GN(T:Txt K mg t):az P w K mg base aJ 5 t.a_H t.d_H ["day","many","unit"] (bA K F_H):=
 (GL T).imp λvs H Q E uu30=>by
  obtain⟨O,ds,Qd,tr,hs,⟨d,i,u,e,hu,q⟩,k⟩:=uu30;subst e;cases hs with
  | cons a r=>cases r with
   | cons b r=>cases r with
    | cons c r=>cases r;cases a;cases b;cases c;exact⟨d,i,u,rfl,hu,λz H' L s1=>k _ _ H' (q z L) s1 (.int _)⟩
theorem GO{d k:Int}{u:Str}{r r':Int}(h:nc d k u r)(h':nc d k u r'):r=r':=by
 rcases h with⟨e,h⟩ | ⟨e,y,m,n,D,h⟩ | ⟨e,y,m,n,D,h⟩ <;> rcases h' with⟨e',h'⟩ | ⟨e',y',m',n',D',h'⟩ | ⟨e',y',m',n',D',h'⟩
 ·rw [h,h']
 ·exact absurd (e'.symm.trans e) AG
 ·exact absurd (e'.symm.trans e) AH
 ·exact absurd (e.symm.trans e') AG
 ·obtain⟨rfl,rfl,rfl⟩:=D.uniq D';rw [h,h']
 ·exact absurd (e.symm.trans e') AI
 ·exact absurd (e.symm.trans e') AH
 ·exact absurd (e'.symm.trans e) AI
 ·obtain⟨rfl,rfl,rfl⟩:=D.uniq D';rw [h,h']
local macro_rules | `(tactic| walk_at "d") =>do let a <- rzT "cf IA Jg IE Jt JW JX IJ Jq Ju"; let b <- rzT rzS; `(tactic| ((try $a:tactic); $b:tactic))
def GP:List OM->(OM->Prop)->Prop:=λds Q=>∃y:Int,ds=[.int y]/\Q (.int (aY y))
theorem AJ(T:Txt K mg t):az P w K mg base aJ 1 t.a_V t.d_V ["_law_year"] (bA K GP):=by
 refine T.F_V.F.okD Au (λds Q h=>?_) (λ_ _ _ _ H O ds Q E hr h=>?_)
 ·obtain⟨y,rfl,_⟩:=h;rfl
 ·obtain⟨y,rfl,q⟩:=h;refine'⟨_,?A,?B⟩
  case A=>
   refine' av ?C ?D
   case C=>exact(bw (i:=1) Au.nd rfl OK (ai cj aQ (dv 0) ae))
   case' D=>refine' aC ?E
   case' E=>generalize hG4:Nj _ _ _ _=eg4
   refine' bq ?F
   case' F=>subst hG4
   exact(ai aN aQ (ai cj aQ (ai aN aQ (ai dH aA (dv 1) ae) (ai cy aA (ai aN aQ (dv 1) ae) ae)) (ai cy aA (ai aN aQ (dv 1) ae) ae)) (ai cy aA (ai aN aQ (dv 1) ae) ae))
  case B=>
  clear hr T;walk_at "d";have e:(y - 2000)*365+(y - 2000+3)/ 4 - (y - 2000+99)/ 100+(y - 2000+399)/ 400=aY y:=by
   have:=FU y;omega
  rw [e];exact q
def cF(y:Int):List Int:=[31,28+ld y,31,30,31,30,31,31,30,31,30,31]
def GQ:List OM->(OM->Prop)->Prop:=λds Q=>∃y:Int,ds=[.int y]/\Q (.list ((cF y).map .int))
theorem AK(T:Txt K mg t):az P w K mg base aJ 1 t.a_W t.d_W ["_law_year"] (bA K GQ):=by
 refine T.F_W.F.okD Av (λds Q h=>?_) (λ_ _ _ _ H O ds Q E hr h=>?_)
 ·obtain⟨y,rfl,_⟩:=h;rfl
 ·obtain⟨y,rfl,q⟩:=h;refine'⟨_,?A,?B⟩
  case A=>
   refine' av ?C ?D
   case C=>
    refine' bw (i:=1) Av.nd rfl OK ?E (hs:=EX)
    case E=>exact(DR (l7 (dD hr.units) dE (df (ai aR aA (dv 0) ae)) (df ae) (aG _)) (pW (pX (l7 (dD hr.units) dE (df (ai aR aA (dv 0) ae)) (df ae) (aG _)) (pW (l7 tE ic (df (ai aR aA (dv 0) ae)) (df ae) (aG _))))))
   case' D=>refine' aC ?F
   case' F=>generalize hG5:NJ _ _=eg5
   refine' bq ?G
   case' G=>subst hG5
   refine' fe ?H
   case' H=>refine' cn ?I
   case' I=>refine' af ae ?J
   case' J=>refine' af ?K ?L
   case K=>exact(ao aE aF (fe (cn (af ae (af ae aq)))) (PE.imp (nh pO rfl T.n_int nU (bN (dv 1) bR)) (bX p9)))
   case L=>refine' qg (ds:=[.int 31,.int 30,.int 31,.int 30,.int 31,.int 31,.int 30,.int 31,.int 30,.int 31]) (by rfl)
  case B=>
  clear hr T;walk_at "d";have hl:∀v:Int,v=28+ld y->Q (IY [Iy 31,Iy v,Iy 31,Iy 30,Iy 31,Iy 30,Iy 31,Iy 31,Iy 30,Iy 31,Iy 30,Iy 31]):=λv e=>by
   subst e;exact q
  have l1:lz y=true->ld y=1:=λh=>by unfold ld;rw [OJ h]
  have l0:¬lz y=true->ld y=0:=λh=>by unfold ld;rw [OI h]
  have hi:=qr y;split
  ·rename_i h;refine hl 29 ?_;rw [l1 (hi.mpr (.inl (eq_of_beq h)))];rfl
  ·rename_i h;have h:¬y % 400=0:=λz=>h (by rw [z];rfl);split
   ·rename_i h2;have h2:y % 4=0:=eq_of_beq h2;split
    ·refine⟨_,bS,hl 29 ?_⟩;rw [l1 (hi.mpr (.inr ⟨h2,OH⟩))];rfl
    ·refine⟨_,bO,hl 28 ?_⟩;rw [l0 (λz=>by have:=hi.mp z;omega)];rfl
   ·rename_i h2;have h2:¬y % 4=0:=λz=>h2 (by rw [z];rfl);refine hl 28 ?_;rw [l0 (λz=>by have:=hi.mp z;omega)];rfl
theorem vj(y:Int):∀j:Nat,j < 12->atI ((cF y).map Iy) (j:Int)=some (Iy (aM y ((j:Int)+1))):=by
 intro j hj;have h2:=rL y;obtain⟨a1,a3,a4,a5,a6,a7,a8,a9,a10,a11,a12⟩:=rM y;have c:∀{a b:Int},a=b->some (Iy b)=some (Iy a):=λe=>by rw [e]
 have:j=0\/j=1\/j=2\/j=3\/j=4\/j=5\/j=6\/j=7\/j=8\/j=9\/j=10\/j=11:=OH
 rcases this with e | e | e | e | e | e | e | e | e | e | e | e <;> subst e
 ·exact c a1
 ·exact c h2
 ·exact c a3
 ·exact c a4
 ·exact c a5
 ·exact c a6
 ·exact c a7
 ·exact c a8
 ·exact c a9
 ·exact c a10
 ·exact c a11
 ·exact c a12
theorem AL(y:Int):∀j:Nat,j<=12->((cF y).take j).sum=ar y ((j:Int)+1):=by
 intro j hj;obtain⟨a1,a2,a3,a4,a5,a6,a7,a8,a9,a10,a11,a12,a13⟩:=nB y;have:j=0\/j=1\/j=2\/j=3\/j=4\/j=5\/j=6\/j=7\/j=8\/j=9\/j=10\/j=11\/j=12:=OH
 rcases this with e | e | e | e | e | e | e | e | e | e | e | e | e <;> subst e
 ·exact a1.symm
 ·exact a2.symm
 ·refine Eq.trans ?_ a3.symm;simp [cF];omega
 ·refine Eq.trans ?_ a4.symm;simp [cF];omega
 ·refine Eq.trans ?_ a5.symm;simp [cF];omega
 ·refine Eq.trans ?_ a6.symm;simp [cF];omega
 ·refine Eq.trans ?_ a7.symm;simp [cF];omega
 ·refine Eq.trans ?_ a8.symm;simp [cF];omega
 ·refine Eq.trans ?_ a9.symm;simp [cF];omega
 ·refine Eq.trans ?_ a10.symm;simp [cF];omega
 ·refine Eq.trans ?_ a11.symm;simp [cF];omega
 ·refine Eq.trans ?_ a12.symm;simp [cF];omega
 ·refine Eq.trans ?_ a13.symm;simp [cF];omega
def AM:List OM->(OM->Prop)->Prop:=λds Q=>∃(d i:Int)(u:Str),ds=[.int d,.int i,.str u]/\nH u/\0<=d/\0<=i/\i < 1000/\∀r,nc d i u r->Q (.int r)
theorem GR(T:Txt K mg t):az P w K mg base aJ 2 t.a_X t.d_X ["_law_day_here","_law_many","_law_unit"] (bA K AM):=by
 have G_V:=@AJ P w _ _ base _ T;have G_W:=@AK P w _ _ base _ T;refine T.F_X.F.okD nG (λds Q h=>?_) (λ_ _ _ _ H O ds Q E hr h=>?_)
 ·obtain⟨d,i,u,rfl,_⟩:=h;rfl
 ·obtain⟨d,i,u,rfl,hu,d0,i0,i1,q⟩:=h;refine'⟨_,?A,?B⟩
  case A=>
   refine' av ?C ?D
   case C=>
    refine' bZ ?E ?F bY
    case E=>exact(br (fU hr) fV (dv 2) bD (aG _))
    case' F=>refine' aC ?G
    case G=>exact(bq (ai aN aQ (dv 0) (dv 1)))
   case' D=>refine' av ?H ?I
   case H=>exact(bw (i:=3) nG.nd rfl OK (ai aN aQ ae (ai cy aA (dv 0) ae)))
   case' I=>refine' av ?J ?K
   case J=>
    refine' yX JC ?L ?M
    case L=>exact(br pL ic (bo G_V hr T.F_V (af (ai aN aQ (dv 3) ae) aq)) (dv 0) (aG _))
    case' M=>refine' aC ?N
    case N=>exact(bw (i:=3) nG.nd rfl OK (ai aN aQ (dv 3) ae))
   case' K=>refine' av ?O ?P
   case O=>exact(xt (i:=4) (j:=5) rfl nG.nd rfl rfl OG rfl rfl (af (ai cj aQ (dv 0) (bo G_V hr T.F_V (af (dv 3) aq))) (af ae aq)) (by rfl))
   case' P=>refine' av ?Q ?R
   case Q=>
    refine' yX JC ?S ?T
    case S=>exact(br tF ic (dv 4) (ao aE aF (bo G_W hr T.F_W (af (dv 3) aq)) (dv 5)) (aG _))
    case' T=>refine' av ?U ?V
    case U=>
     refine' bw (i:=4) nG.nd rfl OK ?W (hs:=mf)
     case W=>exact(ai cj aQ (dv 4) (ao aE aF (bo G_W hr T.F_W (af (dv 3) aq)) (dv 5)))
    case' V=>refine' aC ?X
    case X=>exact(bw (i:=5) nG.nd rfl OK (ai aN aQ (dv 5) ae))
   case' R=>refine' av ?Y ?Z
   case Y=>
    refine' bw (i:=6) nG.nd rfl OK ?a (hs:=mf)
    case a=>exact(ai aN aQ (ai aN aQ (ai dH aA ae (dv 3)) (dv 5)) (ai dH aA (dv 1) (ao aE aF (fe (cn (af ae (af ae aq)))) (PE.imp (nh pO rfl T.n_int nU (bN (l7 (fU hr) fV (df (dv 2)) (df bD) (aG _)) bR)) (bX p9)))))
   case' Z=>refine' av ?b ?c
   case b=>exact(bw (i:=7) nG.nd rfl OK (bo G_W hr T.F_W (af (ai cy aA (dv 6) ae) aq)))
   case' c=>refine' aC ?d
   case' d=>refine' bq ?e
   case e=>exact(ai aN aQ (ai aN aQ (bo G_V hr T.F_V (af (ai cy aA (dv 6) ae) aq)) (PE.imp (ck (t8 rfl) rfl T.n_sum Me (bN (fe (nr (df (dv 7)) mF (mG (ai aR aA (dv 6) ae)))) bR)) (bX z9))) (PE.imp (ck (tI rfl) rfl T.n_min Lz (bN (dv 4) (bN (ai cj aQ (ao aE aF (dv 7) (ai aR aA (dv 6) ae)) ae) bR))) (bX uk)))
  case B=>
  clear hr T G_V G_W;generalize hB:cV (d8 4 5 _) _=TB;walk_at "d";have yo:=Ae d;have up:∀y:Int,aY y<=d->y<=mj d:=λy h=>by
   rcases Int.lt_or_le (mj d) y with z | z
   ·have:=uL (a:=mj d) (b:=y) OH;omega
   ·exact z
  have ud:(u==Ip "days")=true->u="days":=λh=>eq_of_beq h;split
  ·rename_i h;exact q _ (.inl ⟨ud h,rfl⟩)
  ·rename_i h;have hu:u="months"\/u="years":=by
    rcases hu with e | e | e
    ·exact absurd (by rw [e];exact beq_self_eq_true _) h
    ·exact .inl e
    ·exact .inr e
   refine⟨λm δ=>∃y:Int,aY y<=d/\m=(mj d - y).toNat/\δ=[some (Sl.v (.int d)),some (Sl.v (.int i)),some (Sl.v (.str u)),some (Sl.v (.int y)),none,none,none,none],⟨_,2000+d / 366,FV d0,rfl,rfl⟩,?_⟩;rintro m δ ⟨y,y0,rfl,rfl⟩;walk_at "d";refine⟨y+1,rfl,_,rfl,?_⟩;split
   ·rename_i hy;have:=up (y+1) hy;exact⟨(mj d - (y+1)).toNat,OH,y+1,hy,rfl,rfl⟩
   ·rename_i hy;have hs:=uK y;subst hB;walk_at "d";refine⟨y,rfl,_,rfl,?_⟩;refine⟨λm δ=>∃j:Nat,j<=11/\ar y ((j:Int)+1)<=d - aY y/\m=12 - j/\δ=[some (Sl.v (.int d)),some (Sl.v (.int i)),some (Sl.v (.str u)),some (Sl.v (.int y)),some (Sl.v (.int (d - aY y - ar y ((j:Int)+1)))),some (Sl.v (.int (j:Int))),none,none],⟨_,0,OG,by rw [show((0:Nat):Int)+1=1 from rfl,qt];omega,rfl,by rw [show((0:Nat):Int)+1=1 from rfl,qt,Int.sub_zero];rfl⟩,?_⟩;rintro m δ ⟨j,j11,jb,rfl,rfl⟩;walk_at "d";have bs:=cN (y:=y) (m:=(j:Int)+1) OH;have b13:ar y 13=365+ld y:=(nB y).2.2.2.2.2.2.2.2.2.2.2.2;refine⟨y,rfl,_,rfl,_,vj y j OH,_,rfl,?_⟩;split
    ·rename_i hr;have j10:j<=10:=by
      rcases Li j 11 with z | z
      ·omega
      ·obtain rfl:j=11:=OH
       have bs:ar y 13=ar y 12+aM y 12:=bs;have hr:aM y 12<=d - aY y - ar y 12:=hr;omega
     have e1:((j+1:Nat):Int)+1=(j:Int)+1+1:=OH
     refine⟨y,rfl,_,rfl,_,vj y j OH,_,rfl,12 - (j+1),OH,j+1,OH,by rw [e1,bs];omega,rfl,by rw [e1,bs];omega,OH⟩
    ·rename_i hr;have D:mY d y ((j:Int)+1) (d - aY y - ar y ((j:Int)+1)+1):=⟨OH,OH,OH,OH,by unfold mX;omega⟩;have key:∀x:Int,∀Y r:Int,Y=(12*y+(j:Int)+i*x)/ 12->r=(12*y+(j:Int)+i*x)% 12->nc d i u (om y ((j:Int)+1) (d - aY y - ar y ((j:Int)+1)+1) (i*x))->
      ∃y1,[Iy Y]=[Iy y1]/\∃y2,[Iy Y]=[Iy y2]/\∃xs,IY ((cF y1).map Iy)=IY xs/\∃ns:List Int,bI xs none (some r)=JG Iy ns/\∃i1,Iy (aY y2)=Iy i1/\∃ds,IY ((cF y1).map Iy)=IY ds/\∃x3,atI ds r=some x3/\∃l,x3=Iy l/\
       Q (Iy (i1+ns.sum+if l - 1 < d - aY y - ar y ((j:Int)+1) then l - 1 else d - aY y - ar y ((j:Int)+1))):=λx Y r eY er hL=>by
      have r0:0<=r:=by rw [er];exact KI _ OG
      have r1:r < 12:=by rw [er];exact KO _ OG
      obtain⟨k,rfl⟩:=Jp r0;refine⟨Y,rfl,Y,rfl,_,rfl,(cF Y).take k,?_,_,rfl,_,rfl,_,vj Y k OH,_,rfl,?_⟩
      ·rw [nt OH (by simp [cF];omega),My];rfl
      ·rw [AL Y k OH];have e:om y ((j:Int)+1) (d - aY y - ar y ((j:Int)+1)+1) (i*x)=aY Y+ar Y ((k:Int)+1)+if aM Y ((k:Int)+1) - 1 < d - aY y - ar y ((j:Int)+1) then aM Y ((k:Int)+1) - 1 else d - aY y - ar y ((j:Int)+1):=by
        unfold om mX;rw [show y*12+((j:Int)+1) - 1+i*x=12*y+(j:Int)+i*x by omega,<-eY,<-er];split <;> omega
       rw [<-e];exact q _ hL
     rcases hu with e | e
     ·refine⟨_,by rw [e,OI OF];exact bO,_,rfl,.inl ⟨OH,OH⟩,?_⟩;exact key 1 _ _ rfl rfl (.inr (.inl ⟨e,_,_,_,D,by rw [Ox]⟩))
     ·refine⟨_,by rw [e,OJ OF];exact bS,_,rfl,.inl ⟨OH,OH⟩,?_⟩;exact key 12 _ _ rfl rfl (.inr (.inr ⟨e,_,_,_,D,rfl⟩))
theorem GS{g:DG}{tb:DS}{E:nX}{xs:List OM}{δf:Int->Dl}{C D p q X:Prop} [Decidable C] [Decidable D]{d1 d2 d3:Int}(hp:p)(hq:q)(hX:X)(key:∀dg,fv g tb E xs (δf dg)):
 if C then p/\q/\fv g tb E xs (δf d1) else X/\if D then p/\q/\fv g tb E xs (δf d2) else p/\q/\fv g tb E xs (δf d3):=by
 split
 ·exact⟨hp,hq,key _⟩
 ·refine⟨hX,?_⟩;split
  ·exact⟨hp,hq,key _⟩
  ·exact⟨hp,hq,key _⟩
def AN:List OM->(OM->Prop)->Prop:=λds Q=>∃(ns:List Int)(k:Int),ds=[cD (ns.map .int),.int k]/\0<=k/\k<=1000/\∀c:Int,Q (.int c)
theorem GU(T:Txt K mg t):az P w K mg base aJ 1 t.a_S t.d_S ["_law_script","_law_k"] (bA K AN):=by
 refine T.F_S.F.okD rZ (λds Q h=>?_) (λ_ _ _ _ H O ds Q E hr h=>?_)
 ·obtain⟨ns,k,rfl,_⟩:=h;rfl
 ·obtain⟨ns,k,rfl,k0,k1,q⟩:=h;refine'⟨_,?A,?B⟩
  case A=>
   refine' av ?C ?D
   case C=>
    refine' bZ ?E ?F bY
    case E=>exact(br qJ ic (dv 1) (PE.imp (ck pT rfl T.n_len LY (bN (dv 0) bR)) (bX D4)) (aG _))
    case' F=>refine' aC ?G
    case G=>exact(bq (ao aE E3 (dv 0) (dv 1)))
   case' D=>refine' av ?H ?I
   case H=>
    refine' bw (i:=2) rZ.nd rfl OK ?J (hs:=mf)
    case J=>exact(ai aR aA (ai dH aA ae (ai aN aQ (ai aN aQ (ai dH aA (dv 1) (dv 1)) (ai dH aA ae (dv 1))) ae)) ae)
   case' I=>refine' av ?K ?L
   case K=>
    refine' rg JC rfl (fe (E4 (df (dv 0)) mF (mG ae))) ?M bG ?N
    case M=>exact(bC (i:=3) rZ.nd rfl OK)
    case' N=>refine' aC ?O
    case' O=>refine' bw (i:=2) rZ.nd rfl OK ?P (hs:=mf)
    case P=>exact(ai aR aA (ai aN aQ (ai dH aA (dv 2) ae) (dv 3)) ae)
   case' L=>refine' aC ?Q
   case Q=>exact(bq (dv 2))
  case B=>
  clear hr T;walk_at "d";refine⟨_,rfl,?_⟩;rw [Iw];split
  ·rename_i hlt;obtain⟨j,rfl⟩:=Jp k0;have hj:j < ns.length:=OH
   exact⟨_,rfl,.int ns[j],gX (by simp [hj]),q _⟩
  ·refine⟨.inl ⟨OH,OH⟩,_,rfl,λi δ=>∃(st:Int)(o:Option Sl),δ=[some (Sl.v (cD (ns.map .int))),some (Sl.v (.int k)),some (Sl.v (.int st)),o],⟨_,_,rfl⟩,?_,?_⟩
   ·rintro i x δ hx ⟨st,o,rfl⟩;have hm:=Jj hx;unfold bI at hm;have hm2:=List.mem_of_mem_drop (Mm hm);obtain⟨c,_,rfl⟩:=Jy.mp hm2;walk_at "d"
    first | exact⟨_,_,rfl,rfl⟩ | exact⟨⟨_,rfl⟩,⟨_,rfl⟩⟩ | exact⟨_,_,rfl⟩ | exact⟨_,rfl⟩
   ·rintro δ ⟨st,o,rfl⟩;walk_at "d";exact q _
def AO:List OM->(OM->Prop)->Prop:=λds Q=>∃c m:Int,ds=[.int c,.int m]/\0<=m/\m<=64/\∀ns:List Int,(ns.length:Int)=m->(∀z∈ns,0<=z/\z < 2000000000)->Q (.list (ns.map .int))
theorem GV(T:Txt K mg t):az P w K mg base aJ 1 t.a_T t.d_T ["_law_cell_here","_law_many"] (bA K AO):=by
 refine T.F_T.F.okD nE (λds Q h=>?_) (λ_ _ _ _ H O ds Q E hr h=>?_)
 ·obtain⟨c,m,rfl,_⟩:=h;rfl
 ·obtain⟨c,m,rfl,m0,m1,q⟩:=h;refine'⟨_,?A,?B⟩
  case A=>
   refine' av ?C ?D
   case C=>exact(qZ (i:=2) nE.nd rfl OK (cn aq))
   case' D=>refine' av ?E ?F
   case E=>
    refine' bw (i:=3) nE.nd rfl OK ?G (hs:=mf)
    case G=>exact(ai aR aA (ai dH aA (ai aN aQ (ai aR aA (dv 0) ae) ae) ae) ae)
   case' F=>refine' av ?H ?I
   case H=>exact(bw (i:=4) nE.nd rfl OK ae)
   case' I=>refine' av ?J ?K
   case J=>
    refine' bZ ?L ?M bY
    case L=>exact(PW.pt (uh (br qJ ic (dv 0) ae (aG _)) (ug (br tF ic (dv 0) (ai vT aA ae ae) (aG _)))))
    case' M=>refine' aC ?N
    case N=>exact(bw (i:=4) nE.nd rfl OK (PE.imp (ck Ca rfl T.n_abs PyProof.Rows.boot_abs (bN (dv 0) bR)) (bX E2)))
   case' K=>refine' av ?O ?P
   case O=>
    refine' p7 JC rfl rfl T.n_range (af (dv 1) aq) ?Q bG ?R
    case Q=>exact(bC (i:=5) nE.nd rfl OK)
    case' R=>refine' av ?S ?T
    case S=>
     generalize hG15:Nj _ _ _ _=eg15;refine' bw (i:=3) nE.nd rfl OK ?U (hs:=by subst hG15;exact mf)
     case' U=>subst hG15
     exact(ai aR aA (ai aN aQ (ai aN aQ (ai dH aA (dv 3) (ai aN aQ (ai aR aA (dv 3) ae) ae)) (ai dH aA ae (dv 5))) ae) ae)
    case' T=>refine' av ?V ?W
    case V=>
     refine' n4 (i:=2) (pv 2) ?X
     case' X=>refine' ij aE aF (df ?Y) ?Z
     case Y=>exact(fe (cn (af (dv 3) (af (ai aR aA (dv 4) ae) aq))))
     case Z=>exact(df (PE.imp (nh pO rfl T.n_int nU (bN (l7 tE ic (df (dv 4)) (df ae) (aG _)) bR)) (bX p9)))
    case' W=>refine' aC ?a
    case a=>exact(bw (i:=4) nE.nd rfl OK (ai cy aA (dv 4) ae))
   case' P=>refine' aC ?b
   case b=>exact(xo (pv 2))
  case B=>
  clear hr T;walk_at "d";have aS:0<=(c % 1999999871+53)*598371041 % 1999999871/\(c % 1999999871+53)*598371041 % 1999999871 < 1999999871:=⟨KI _ OG,KO _ OG⟩;generalize (c % 1999999871+53)*598371041 % 1999999871=st at*;have b1:-4611686018427387904<=m:=OH
  have b2:m < 4611686018427387904:=OH
  refine GS (δf:=λdg=>[some (Sl.v (.int c)),some (Sl.v (.int m)),some (Sl.o []),some (Sl.v (.int st)),some (Sl.v (.int dg)),none]) b1 b2 OG ?c
  case c=>
   intro dg;refine⟨λi δ=>∃(ns:List Int)(st dg:Int)(o:Option Sl),ns.length=i/\(∀z∈ns,0<=z/\z < 2000000000)/\0<=st/\st < 1999999871/\δ=[some (Sl.v (.int c)),some (Sl.v (.int m)),some (Sl.o (ns.map .int)),some (Sl.v (.int st)),some (Sl.v (.int dg)),o],⟨[],st,dg,none,rfl,OL,aS.1,aS.2,rfl⟩,?_,?_⟩
   ·rintro i x δ hx ⟨ns,st,dg,o,hl,hn,s0,s1,rfl⟩;obtain⟨hi,rfl⟩:=n9 hx;clear aS;walk_at "d";have n0:0<=(st*(st % 63443+41201)+13*(0+(i:Int))+7)% 1999999871:=KI _ OG;have n1:(st*(st % 63443+41201)+13*(0+(i:Int))+7)% 1999999871 < 1999999871:=KO _ OG;generalize (st*(st % 63443+41201)+13*(0+(i:Int))+7)% 1999999871=nx at*;have d0:0<=dg % 1000000:=KI _ OG;have d1:dg % 1000000 < 1000000:=KO _ OG;obtain⟨z,hz,z0,z1⟩:∃z:Int,atI [Iy nx,Iy (dg % 1000000)] (if 0 < dg then 1 else 0)=some (.int z)/\0<=z/\z < 2000000000:=by
     split
     ·exact⟨_,bS,d0,OH⟩
     ·exact⟨_,bO,n0,OH⟩
    refine⟨.inl ⟨OH,OH⟩,.int z,hz,by rw [Iw];omega,ns++[z],by simp [hl],λy hy=>?_,nx,n0,n1,OL,rfl,_,rfl⟩;rcases Jf.mp hy with h | h
    ·exact hn y h
    ·rw [Jv] at h;rw [h];exact⟨z0,z1⟩
   ·rintro δ ⟨ns,st,dg,o,hl,hn,s0,s1,rfl⟩;walk_at "d";have hm:(ns.length:Int)=m:=by rw [hl];unfold g9;simp;omega
    exact q ns hm hn
end
local macro_rules | `(tactic| walk_at "d") =>do let a <- rzT "cf IA Jg IE Jt JW JX IJ Jq Ju"; let b <- rzT rzS; `(tactic| ((try $a:tactic); $b:tactic))
structure Pp where
 d:Int
 nm:Str
 kd:Str
 ms:List Str
def Pp.enc(p:Pp):OM:= .tuple [.str (Ip "paper"),.int p.d,.str p.nm,.str p.kd,.tuple (p.ms.map .str)]
def Pp.key(p:Pp):Int×Str:=(p.d,p.nm)
def nI:OM->Int×Str
 | .tuple (_:: .int d:: .str n::_)=>(d,n)
 | _=>(0,Ip "")
def Pp.lt(a b:Pp):Prop:=aD a.key b.key=true
instance (a b:Pp):Decidable (a.lt b):=by unfold Pp.lt;infer_instance
theorem GW(p:Int×Str):aD p p=false:=by unfold aD;simp [List.lt_irrefl]
theorem vn{a b c:Int×Str}(h1:aD a b=true)(h2:aD b c=true):aD a c=true:=by
 unfold aD at h1 h2⊢;simp only [MZ,Kk,decide_eq_true_eq] at h1 h2⊢;rcases h1 with h1 | ⟨h1,h1'⟩ <;> rcases h2 with h2 | ⟨h2,h2'⟩
 ·left;omega
 ·left;omega
 ·left;omega
 ·right;exact⟨h1.trans h2,Og h1' h2'⟩
theorem vo{a b:Int×Str}(h:aD a b=true):¬aD b a=true:=λz=>by
 have:=vn h z;rw [GW] at this;cases this
theorem AQ{a b:Int×Str}(h:a≠b):aD a b=true\/aD b a=true:=by
 have T:=yQ (n:=2) (kp:=λi=>if i=0 then a else b) (λi j hi hj e=>by
  have:i=0\/i=1:=OH
  have:j=0\/j=1:=OH
  rcases ‹i=0\/i=1› with rfl | rfl <;> rcases ‹j=0\/j=1› with rfl | rfl
  ·rfl
  ·exact absurd e h
  ·exact absurd e.symm h
  ·rfl)
 have:=T.tot 0 1 OH OH OH;simp at this;cases hb:aD b a with
 | true=>exact .inr rfl
 | false=>rw [hb] at this;exact .inl (by simpa using this)
theorem Pp.lt_tr{a b c:Pp}(h1:a.lt b)(h2:b.lt c):a.lt c:=vn h1 h2
theorem sh{α:Type}{r:α->α->Prop}(as:∀a b,r a b->¬r b a):∀{l1 l2:List α},l1.Perm l2->l1.Pairwise r->l2.Pairwise r->l1=l2
 | [],l2,p,_,_=>by rw [p.nil_eq]
 | a::l1,[],p,_,_=>by have:=p.length_eq;simp at this
 | a::l1,b::l2,p,h1,h2=>by
  have e:a=b:=by
   have m1:a∈b::l2:=p.mem_iff.mp OL;have m2:b∈a::l1:=p.mem_iff.mpr OL;rcases IP.mp m1 with e | m1
   ·exact e
   ·rcases IP.mp m2 with e | m2
    ·exact e.symm
    ·exact absurd ((Jw.mp h1).1 b m2) (as _ _ ((Jw.mp h2).1 a m1))
  subst e;rw [sh as ((Ob a).mp p) (Jw.mp h1).2 (Jw.mp h2).2]
def pb(x:Pp):List Pp->List Pp
 | []=>[x]
 | y::l=>if x.lt y then x::y::l else y::pb x l
def gT(ps:List Pp):List Pp:=ps.foldr pb []
theorem vp(x:Pp):∀l,(pb x l).Perm (x::l)
 | []=>.refl _
 | y::l=>by
  unfold pb;split
  ·exact .refl _
  ·exact((vp x l).cons y).trans (.swap x y l)
theorem ot:∀ps:List Pp,(gT ps).Perm ps
 | []=>.refl _
 | x::ps=>(vp x (gT ps)).trans ((ot ps).cons x)
theorem AR{x:Pp}:∀{l:List Pp},(∀y∈l,y.nm≠x.nm)->l.Pairwise Pp.lt->(pb x l).Pairwise Pp.lt
 | [],_,_=>MT _ _
 | y::l,hn,h=>by
  have hp:=Jw.mp h;unfold pb;split
  ·rename_i hl;refine Jw.mpr ⟨λz hz=>?_,h⟩;rcases IP.mp hz with e | e
   ·subst e;exact hl
   ·exact Pp.lt_tr hl (hp.1 z e)
  ·rename_i hl;refine Jw.mpr ⟨λz hz=>?_,AR (λz hz=>hn z (by simp [hz])) hp.2⟩;rcases IP.mp ((vp x l).mem_iff.mp hz) with e | e
   ·subst e;rcases AQ (a:=y.key) (b:=z.key) (λz=>hn y OL (congrArg Prod.snd z)) with w | w
    ·exact w
    ·exact absurd w hl
   ·exact hp.1 z e
theorem sj:∀{ps:List Pp},(ps.map (·.nm)).Nodup->(gT ps).Pairwise Pp.lt
 | [],_=>.nil
 | x::ps,h=>by
  rw [IA,K2] at h;exact AR (λy hy e=>h.1 (by rw [<-e];exact Jy.mpr ⟨y,(ot ps).mem_iff.mp hy,rfl⟩)) (sj h.2)
theorem GX{ps:List Pp}{x:Pp}:x∈gT ps↔x∈ps:=(ot ps).mem_iff
theorem GY{ps:List Pp}:(gT ps).length=ps.length:=(ot ps).length_eq
theorem Pp.asym(a b:Pp)(h:a.lt b):¬b.lt a:=vo h
theorem GZ{ps os:List Pp}(nd:(ps.map (·.nm)).Nodup)(hp:os.Perm ps)(hs:os.Pairwise Pp.lt):os=gT ps:=
 sh Pp.asym (hp.trans (ot ps).symm) hs (sj nd)
theorem vq{ps:List Pp}{f:Pp->Bool}(nd:(ps.map (·.nm)).Nodup):((ps.filter f).map (·.nm)).Nodup:=nd.sublist (Lk.map _)
theorem AS{ps:List Pp}{f:Pp->Bool}(nd:(ps.map (·.nm)).Nodup):gT (ps.filter f)=(gT ps).filter f:=
 (GZ (vq nd) ((ot ps).filter f) ((sj nd).sublist Lk)).symm
theorem G0{ps:List Pp}{ds:List OM}(nd:(ps.map (·.nm)).Nodup)(hp:ds.Perm (ps.map Pp.enc))(hs:ds.Pairwise λa b=>aD (nI a) (nI b)=true):ds=(gT ps).map Pp.enc:=by
 refine sh (λa b h=>vo h) (hp.trans ((ot ps).symm.map _)) hs ?_;rw [KC];exact sj nd
theorem G1{ps:List Pp}(nd:(ps.map (·.nm)).Nodup){a b:Pp}(ha:a∈ps)(hb:b∈ps)(e:a.nm=b.nm):a=b:=by
 induction ps with
 | nil=>cases ha
 | cons x ps ih=>
  rw [IA,K2] at nd;rcases IP.mp ha with ea | ha1 <;> rcases IP.mp hb with eb | hb1
  ·rw [ea,eb]
  ·subst ea;exact absurd (Jy.mpr ⟨b,hb1,e.symm⟩) nd.1
  ·subst eb;exact absurd (Jy.mpr ⟨a,ha1,e⟩) nd.1
  ·exact ih nd.2 ha1 hb1
structure mm (ps:List Pp):Prop where
 ln:ps.length<=41
 nd:(ps.map (·.nm)).Nodup
 nm:∀p∈ps,IV p.nm=true
 kd:∀p∈ps,IV p.kd=true
 ms:∀p∈ps,(∀m∈p.ms,IV m=true)/\p.ms.length<=50
theorem mm.perm{ps qs:List Pp}(g:mm ps)(h:qs.Perm ps):mm qs:=
 ⟨by rw [h.length_eq];exact g.ln,(h.map _).nodup_iff.mpr g.nd,λp hp=>g.nm p (h.mem_iff.mp hp),λp hp=>g.kd p (h.mem_iff.mp hp),λp hp=>g.ms p (h.mem_iff.mp hp)⟩
theorem mm.filter{ps:List Pp}(g:mm ps)(f:Pp->Bool):mm (ps.filter f):=
 ⟨Jx (Kv _ _) g.ln,vq g.nd,λp hp=>g.nm p (JS.mp hp).1,λp hp=>g.kd p (JS.mp hp).1,λp hp=>g.ms p (JS.mp hp).1⟩
def vt(c p:Pp):Bool:=c.ms.contains p.nm && aD p.key c.key
def nJ(ps:List Pp)(c:Pp):List Pp:=(gT ps).filter (vt c)
inductive De where
 | pap (p:Pp)
 | oth (w:Str) (d:Int) (nm:Str) (r:List OM)
def De.enc:De->OM
 | .pap p=>p.enc
 | .oth w d nm r=>.tuple (.str w:: .int d:: .str nm::r)
def De.w:De->Str
 | .pap _=>Ip "paper"
 | .oth w _ _ _=>w
def De.d:De->Int
 | .pap p=>p.d
 | .oth _ d _ _=>d
def De.nm:De->Str
 | .pap p=>p.nm
 | .oth _ _ nm _=>nm
def De.pp:De->Option Pp
 | .pap p=>some p
 | _=>none
def aU(xs:List De):List Pp:=xs.filterMap De.pp
structure eJ (xs:List De):Prop where
 gp:mm (aU xs)
 np:∀w d nm r,De.oth w d nm r∈xs->w≠Ip "paper"
 ln:xs.length<=41
 w:∀x∈xs,IV x.w=true
 nm:∀x∈xs,IV x.nm=true
theorem vv{xs:List De}{p:Pp}:p∈aU xs↔De.pap p∈xs:=by
 unfold aU;rw [Lo];constructor
 ·rintro⟨x,hx,e⟩;cases x with
  | pap q=>cases e;exact hx
  | oth w d nm r=>cases e
 ·intro h;exact⟨_,h,rfl⟩
theorem eJ.perm{xs ys:List De}(g:eJ xs)(h:ys.Perm xs):eJ ys:=
 ⟨g.gp.perm (h.filterMap _),λw d nm r z=>g.np w d nm r (h.mem_iff.mp z),by rw [h.length_eq];exact g.ln,λx hx=>g.w x (h.mem_iff.mp hx),λx hx=>g.nm x (h.mem_iff.mp hx)⟩
theorem AU(ps:List Pp):aU (ps.map De.pap)=ps:=by
 unfold aU;rw [LQ];exact List.filterMap_some
theorem AV(ps:List Pp):ps.map Pp.enc=(ps.map De.pap).map De.enc:=by rw [Kx];rfl
theorem vw:IV (Ip "paper")=true:=OF
theorem eJ.of{ps:List Pp}(g:mm ps):eJ (ps.map De.pap):=by
 refine⟨by rw [AU];exact g,λw d nm r h=>?_,by rw [Iw];exact g.ln,λx hx=>?_,λx hx=>?_⟩
 ·obtain⟨p,_,e⟩:=Jy.mp h;cases e
 ·obtain⟨p,_,rfl⟩:=Jy.mp hx;exact vw
 ·obtain⟨p,hp,rfl⟩:=Jy.mp hx;exact g.nm p hp
theorem AW:bz (aw rQ) ["deeds"] ["deed"] 1 [] ⟨IX,[(Iu ".0",Ql),(Iu "deed",Ql)],false,false,[]⟩:= .of
theorem AX:bz (aw qv) ["deeds","coming","named"] ["deed","coming"] 1 [1] ⟨IX,[ (Iu ".0",Ql),(Iu "deed",Ql),(Iu "coming",Jd)],false,false,[]⟩:= .of
theorem AY:bz (aw qv) ["deeds","coming","named"] ["deed","coming"] 1 [1] ⟨IX,[ (Iu ".0",Ql),(Iu "deed",Ql),(Iu "place_of",K4),(Iu "coming",Jd)],false,false,[]⟩:= .of
theorem AZ:bz (aw rR) ["deeds","paper"] ["deed"] 1 [] ⟨IX,[(Iu ".0",Ql),(Iu "deed",Ql)],false,false,[]⟩:= .of
section
variable {P:OZ} {w:O4} {K:Iq} {mg:Str->Option ON} {base:O3} {t:dU}
theorem dW{α:Type}{enc:α->OM}{g:DG}{tc:DB}{te:DT}{δ0:Dl}{xs:List α}{Q:List OM->Prop}(p:α->Bool)(f:α->OM)
 (h:∀x∈xs,∀(R:OM->Prop) (S:Prop),(if p x=true then R (f x) else S)->g (enc x) δ0 λδ2=>tc δ2 λok=>if ok=true then te δ2 R else S)(q:Q ((xs.filter p).map f)):ma g tc te δ0 (xs.map enc) Q:=by
 refine⟨λi acc=>acc=((xs.take i).filter p).map f,rfl,?_,?_⟩
 ·rintro i z acc hz rfl;rw [IS] at hz;cases hz':xs[i]? with
  | none=>rw [hz'] at hz;cases hz
  | some x=>
   rw [hz'] at hz;cases hz;refine h x (Jj hz') (λy=>((xs.take i).filter p).map f++[y]=((xs.take (i+1)).filter p).map f) (((xs.take i).filter p).map f=((xs.take (i+1)).filter p).map f) ?_;rw [LW,hz'];by_cases e:p x=true
   ·rw [OJ e];simp [e]
   ·rw [OI e];simp [e]
 ·rintro acc rfl;rw [Iw,Kl (IB _)];exact q
theorem G2{α:Type}{enc:α->OM}{g:DG}{tc:DB}{te:DT}{δ0:Dl}{xs:List α}{Q:List OM->Prop}(p:α->Bool)(f:α->OM)
 (h:∀x∈xs,∀(R:OM->Prop) (S:Prop),(p x=true->R (f x))->(p x=false->S)->g (enc x) δ0 λδ2=>tc δ2 λok=>if ok=true then te δ2 R else S)(q:Q ((xs.filter p).map f)):ma g tc te δ0 (xs.map enc) Q:=
 dW p f (λx hx R S z=>h x hx R S (λe=>by rw [OJ e] at z;exact z) (λe=>by rw [OI (by rw [e];exact IF)] at z;exact z)) q
theorem vx{α:Type}(l:List α):l.filter (λ_=>true)=l:=List.filter_eq_self.mpr λ_ _=>rfl
theorem eL{a b:Str}(h:a≠b):(a==b)=false:=by simpa using h
theorem G3{ws:List Str}{w:Str}:((ws.map ID).any λd=>IL d (.str w))=ws.contains w:=by
 induction ws with
 | nil=>rfl
 | cons a ws ih=>
  rw [IA,JN,ih,cM,NC];congr 1;by_cases h:a=w
  ·simp [h]
  ·rw [eL h,eL (Ne.symm h)]
theorem G4{ms:List Str}(h:∀m∈ms,IV m=true):KR (ms.map .str)=true:=(rA (n:=1) (xZ h)).1
def cZ(f:Pp->Bool):De->Bool
 | .pap p=>f p
 | _=>false
theorem qx{f:Pp->Bool}:∀xs:List De,(xs.filter (cZ f)).map De.enc=((aU xs).filter f).map Pp.enc
 | []=>rfl
 | .pap p::xs=>by
  have ih:=qx (f:=f) xs;show _=(OB f (p::aU xs)).map Pp.enc;rw [K9,K9];by_cases h:f p=true
  ·rw [OJ h,OJ (show cZ f (.pap p)=true from h),IA,IA,ih];rfl
  ·rw [OI h,OI (show ¬cZ f (.pap p)=true from h),ih]
 | .oth w d nm r::xs=>by
  have ih:=qx (f:=f) xs;show _=(OB f (aU xs)).map Pp.enc;rw [K9,OI (show ¬cZ f (.oth w d nm r)=true from IF),ih]
def vy:List OM->(OM->Prop)->Prop:=λds Q=>∃p:De,ds=[p.enc]/\Q (bT (p.d,p.nm))
theorem A0(T:Txt K mg t):az P w K mg base aJ 1 t.a_J t.d_J ["deed"] (bA K vy):=by
 refine T.F_J.F.okD Gv (λds Q h=>?_) (λ_ _ _ _ H O ds Q E hr h=>?_)
 ·obtain⟨p,rfl,_⟩:=h;rfl
 ·obtain⟨p,rfl,q⟩:=h;refine'⟨_,?A,?B⟩
  case A=>
   refine' aC ?C
   case' C=>refine' bq ?D
   case' D=>refine' cE ?E
   case' E=>refine' af ?F ?G
   case F=>exact(ao aO aW (dv 0) ae)
   case' G=>refine' af ?H aq
   case H=>exact(ao aO aW (dv 0) ae)
  case B=>
  clear hr T;cases p <;> simp only [De.enc,Pp.enc] <;> walk_at "d" <;> exact q
theorem G5{d:OM}{ps:List Pp}(h:d∈ps.map Pp.enc)(R:OM->Prop)(q:R (bT (nI d))):vy [d] R:=by
 obtain⟨p,hp,rfl⟩:=Jy.mp h;exact⟨.pap p,rfl,q⟩
theorem G6{ps:List Pp}(nd:(ps.map (·.nm)).Nodup):(ps.map Pp.key).Nodup:=by
 rw [MJ,KC] at nd⊢;exact nd.imp λh e=>h (congrArg Prod.snd e)
def F_K:List OM->(OM->Prop)->Prop:=λds Q=>∃xs:List De,(ds=[.list (xs.map De.enc)]\/ds=[.tuple (xs.map De.enc)])/\eJ xs/\Q (.list ((gT (aU xs)).map Pp.enc))
theorem G7(T:Txt K mg t):az P w K mg base aJ 4 t.a_K t.d_K ["deeds"] (bA K F_K):=by
 have G_J:=@A0 P w _ _ base _ T;refine T.F_K.F.okD Gw (λds Q h=>?_) (λ_ _ _ _ H O ds Q E hr h=>?_)
 ·obtain⟨ps,h | h,_⟩:=h <;> subst h <;> rfl
 ·obtain⟨xs,e,gd,q⟩:=h;refine'⟨_,?A,?B⟩
  case A=>
   refine' aC ?C
   case' C=>refine' bq ?D
   case D=>exact(fe (Fv nI rfl G_J (aK.in1 (aK.in1 (hr.mono OG))) T.F_J.b rfl T.F_J.m rfl T.n_sorted MQ (bN (fe (FC rfl AW (df (dv 0)) bG ib OG (λ_ _ _ _=>(bC (i:=0) AW.nd rfl OK)) (λ_ _ _ _=>(mC (br (fU hr) fV (ao aO aW (dv 0) ae) bD (aG _)))) (λ_ _ _ _=>(dv 0)))) bR)))
  case B=>
  clear hr T G_J;have ln:=gd.ln;have pl:=gd.gp.ln;have step:∀x∈xs,∀(R:OM->Prop)(S:Prop),(if cZ (λ_=>true) x=true then R x.enc else S)->(if (x.w==Ip "paper")=true then R x.enc else S):=λx hx R S h=>by
   cases x with
   | pap p=>exact h
   | oth w d nm r=>
    rw [show((De.oth w d nm r).w==Ip "paper")=false from eL (gd.np w d nm r hx),OI IF];rw [OI (show ¬cZ (λ_=>true) (.oth w d nm r)=true from IF)] at h;exact h
  have fin:∀ds':List OM,ds'.Perm ((aU xs).map Pp.enc)->ds'.Pairwise (λa b=>aD (nI a) (nI b)=true)->Q (.list ds'):=λds' h1 h2=>by
   rw [G0 gd.gp.nd h1 h2];exact q
  have tail:(∀d∈(aU xs).map Pp.enc,∀R:OM->Prop,R (bT (nI d))->vy [d] R)/\((aU xs).map Pp.enc).length < 64/\(((aU xs).map Pp.enc).map nI).Nodup:=by
   refine⟨λd hd R z=>G5 hd R z,by rw [Iw];omega,?_⟩;rw [Kx];exact G6 gd.gp.nd
  rcases e with e | e <;> subst e <;> walk_at "d"
  ·refine⟨by rw [Iw];omega,dW (cZ λ_=>true) De.enc (λx hx R S h=>?_) ?_⟩
   ·have h:=step x hx R S h;cases x <;> simp only [De.enc,De.w,Pp.enc] at h⊢<;> walk_at "d" <;> exact h
   ·rw [qx,vx];exact⟨tail.1,tail.2.1,tail.2.2,fin⟩
  ·refine⟨by rw [Iw];omega,dW (cZ λ_=>true) De.enc (λx hx R S h=>?_) ?_⟩
   ·have h:=step x hx R S h;cases x <;> simp only [De.enc,De.w,Pp.enc] at h⊢<;> walk_at "d" <;> exact h
   ·rw [qx,vx];exact⟨tail.1,tail.2.1,tail.2.2,fin⟩
def G8:List OM->(OM->Prop)->Prop:=λds Q=>∃(xs:List De)(c:Pp),ds=[.tuple (xs.map De.enc),.str c.nm]/\eJ xs/\c∈aU xs/\Q c.enc
theorem A1(T:Txt K mg t):az P w K mg base aJ 1 t.a_L t.d_L ["deeds","paper"] (bA K G8):=by
 refine T.F_L.F.okD rY (λds Q h=>?_) (λ_ _ _ _ H O ds Q E hr h=>?_)
 ·obtain⟨ps,c,rfl,_⟩:=h;rfl
 ·obtain⟨xs,c,rfl,gd,hc,q⟩:=h;refine'⟨_,?A,?B⟩
  case A=>
   refine' av ?C ?D
   case C=>
    refine' ui JC rfl (dv 0) ?E bG ?F
    case E=>exact(bC (i:=2) rY.nd rfl OK)
    case' F=>refine' aC ?G
    case' G=>refine' bZ ?H ?I bY
    case H=>exact(PW.pt (nk (br (fU hr) fV (ao aO aW (dv 2) ae) bD (aG _)) (nZ (br (dD hr.units) dE (ao aO aW (dv 2) ae) (dv 1) (aG _)))))
    case' I=>refine' aC ?J
    case J=>exact(bq (dv 2))
   case D=>refine' aC oU
  case B=>
  clear hr T;walk_at "d";refine⟨λi δ=>(∀x∈aU (xs.take i),x.nm≠c.nm)/\∃o2,δ=[some (Sl.v (.tuple (xs.map De.enc))),some (Sl.v (.str c.nm)),o2],⟨by simp [aU],_,rfl⟩,?_,?_⟩
  ·rintro i z δ hz ⟨hn,o2,rfl⟩;rw [IS] at hz;cases hz':xs[i]? with
   | none=>rw [hz'] at hz;cases hz
   | some x=>
    rw [hz'] at hz;cases hz;have hx:=Jj hz';cases x with
    | pap p=>
     simp only [De.enc,Pp.enc];walk_at "d";refine⟨me.mpr (gd.nm _ hx),me.mpr (gd.gp.nm c hc),?_⟩;split
     ·rename_i h;have e:=G1 gd.gp.nd (vv.mpr hx) hc (eq_of_beq h);subst e;exact q
     ·rename_i h;refine⟨λy hy=>?_,_,rfl⟩;rw [LW,hz'] at hy;unfold aU at hy;rw [LA] at hy;rcases Jf.mp hy with z | z
      ·exact hn y z
      ·have:y=p:=by simpa [De.pp] using z
       rw [this];exact λe=>h (by rw [e];exact beq_self_eq_true _)
    | oth w d nm r=>
     simp only [De.enc];walk_at "d";rw [eL (gd.np w d nm r hx),OI IF];refine⟨λy hy=>?_,_,rfl⟩;rw [LW,hz'] at hy;unfold aU at hy;rw [LA] at hy;rcases Jf.mp hy with z | z
     ·exact hn y z
     ·simp [De.pp] at z
  ·rintro δ ⟨hn,o2,rfl⟩;rw [Iw,Kl (IB _)] at hn;exact absurd rfl (hn c hc)
def G9:List OM->(OM->Prop)->Prop:=λds Q=>∃(xs:List De)(c:Pp),ds=[.tuple (xs.map De.enc),c.enc]/\eJ xs/\c∈aU xs/\Q (.list ((nJ (aU xs) c).map Pp.enc))
theorem Ha(T:Txt K mg t):az P w K mg base aJ 5 t.a_M t.d_M ["deeds","coming"] (bA K G9):=by
 have G_K:=@G7 P w _ _ base _ T;have G_J:=@A0 P w _ _ base _ T;refine T.F_M.F.okD Ap (λds Q h=>?_) (λ_ _ _ _ H O ds Q E hr h=>?_)
 ·obtain⟨ps,c,rfl,_⟩:=h;rfl
 ·obtain⟨xs,c,rfl,gd,hc,q⟩:=h;refine'⟨_,?A,?B⟩
  case A=>
   refine' av ?C ?D
   case C=>exact(rB (i:=2) Ap.nd rfl OK (yL rfl AX (df (dv 0)) bG ib OG (λ_ _ _ _=>(bC (i:=0) AX.nd rfl OK)) (λ_ _ _ _=>(mC (PW.pt (nk (br (fU hr) fV (ao aO aW (dv 0) ae) bD (aG _)) (nZ (br (Et hr) xU (ao aO aW (dv 0) ae) (ao aO aW (dv 1) ae) rfl)))))) (λ_ _ _ _=>(dv 0))))
   case' D=>refine' aC ?E
   case' E=>refine' bq ?F
   case F=>exact(bo G_K hr T.F_K (af (fe (rh rfl AY (df (dv 2)) bG ib OG (λ_ _ _ _=>(bC (i:=0) AY.nd rfl OK)) (λ_ _ _ _=>(mC (br (Fx hr.units0) Fy (bo G_J hr T.F_J (af (dv 0) aq)) (bo G_J hr T.F_J (af (dv 1) aq)) (aG _)))) (λ_ _ _ _=>(dv 0)))) aq))
  case B=>
  clear hr T G_K G_J;have ln:=gd.ln;have pl:=gd.gp.ln;obtain⟨hm1,hm2⟩:=gd.gp.ms c hc;walk_at "d";refine⟨by rw [Iw];omega,dW (cZ λp=>c.ms.contains p.nm) De.enc (λx hx R S h=>?_) ?_⟩
  ·cases x with
   | pap p=>
    simp only [De.enc,Pp.enc];walk_at "d";refine⟨me.mpr (gd.nm _ hx),G4 hm1,?_⟩;rw [G3];exact h
   | oth w d nm r=>
    simp only [De.enc];walk_at "d";rw [eL (gd.np w d nm r hx),OI IF];rw [OI (show ¬cZ _ (.oth w d nm r)=true from IF)] at h;exact h
  ·rw [qx];have fl:=Kv (λp:Pp=>c.ms.contains p.nm) (aU xs);refine⟨by rw [Iw];omega,dW (λp=>aD p.key c.key) Pp.enc (λx hx R S h=>?_) ?_⟩
   ·walk_at "d";exact⟨.pap x,rfl,.pap c,rfl,x.key,rfl,c.key,rfl,h⟩
   ·rw [AV];refine⟨_,.inl rfl,eJ.of ((gd.gp.filter _).filter _),?_⟩;rw [AU,AS (vq gd.gp.nd),AS gd.gp.nd,Lu];have e:(gT (aU xs)).filter (λa=>aD a.key c.key && c.ms.contains a.nm)=nJ (aU xs) c:=by
     unfold nJ vt;congr 1;funext a;rw [Oi]
    rw [e];exact q
theorem A2{ps:List Pp}{c:Pp}(g:mm ps):(nJ ps c).length<=41:=by
 unfold nJ;have h1:=Kv (vt c) (gT ps);have h2:=GY (ps:=ps);have h3:=g.ln;omega
def F_N:List OM->(OM->Prop)->Prop:=λds Q=>∃(xs:List De)(c:Pp),ds=[.tuple (xs.map De.enc),.str c.nm]/\eJ xs/\c∈aU xs/\Q (.tuple (((nJ (aU xs) c).map (·.nm)).map .str))
theorem Hb(T:Txt K mg t):az P w K mg base aJ 6 t.a_N t.d_N ["deeds","paper"] (bA K F_N):=by
 have G_M:=@Ha P w _ _ base _ T;have G_L:=@A1 P w _ _ base _ T;refine T.F_N.F.okD Gx (λds Q h=>?_) (λ_ _ _ _ H O ds Q E hr h=>?_)
 ·obtain⟨ps,c,rfl,_⟩:=h;rfl
 ·obtain⟨xs,c,rfl,gd,hc,q⟩:=h;refine'⟨_,?A,?B⟩
  case A=>
   refine' aC ?C
   case' C=>refine' bq ?D
   case D=>exact(PE.imp (nh tV rfl T.n_tuple pV (bN (fe (rh rfl AZ (df (bo G_M hr T.F_M (af (dv 0) (af (bo G_L hr T.F_L (af (dv 0) (af (dv 1) aq))) aq)))) bG ib OG (λ_ _ _ _=>(bC (i:=0) AZ.nd rfl OK)) (λ_ _ _ _=>um) (λ_ _ _ _=>(ao aO aW (dv 0) ae)))) bR)) (bX uj))
  case B=>
  clear hr T G_M G_L;walk_at "d";refine⟨xs,c,rfl,gd,hc,xs,c,rfl,gd,hc,⟨_,rfl,by rw [Iw];have:=A2 (c:=c) gd.gp;omega,dW (λ_=>true) (λp:Pp=>.str p.nm) (λx hx R S h=>?_) ?_⟩⟩
  ·simp only [Pp.enc];walk_at "d";rw [OJ rfl] at h;exact h
  ·rw [vx];rw [Kx] at q;exact q
end
theorem A3:bz (aw rV) ["_law_xs","_law_many","_law_letters","_law_stem","_law_size","_law_at","_law_some","_law_k","_law_two"] ["_law_k","_law_letters","_law_stem","_law_xs"] 1 [2,3,0] ⟨IX,[ (Iu ".0",Ql),(Iu "_law_k",Ql),(Iu "_law_letters",Jd),(Iu "_law_stem",Jd),(Iu "_law_xs",Jd)],false,false,[]⟩:= .of
section
variable {P:OZ} {w:O4} {K:Iq} {mg:Str->Option ON} {base:O3} {t:dU}
def Hc:List OM->(OM->Prop)->Prop:=λds Q=>∃(a b c d e:Int)(r:List OM)(m:Int),ds=[.list (.int a:: .int b:: .int c:: .int d:: .int e::r),.int m]/\0<=m/\m<=50/\∀ss:List Str,(ss.length:Int)=m->(∀z∈ss,Nm z)->ss.Nodup->Q (.list (ss.map .str))
theorem qy{c:Nat}{n:Int}(h0:0<=n):(KU ⟨#[c]⟩ n).cps.toList=IJ n.toNat c:=by
 have key:∀(k:Nat)(a:Array Nat),((IJ k #[c]).foldl (·++·) a).toList=a.toList++IJ k c:=by
  intro k
  induction k with
  | zero=>intro a;simp
  | succ k ih=>intro a;rw [Nq,Lr,ih];simp [Nq]
 unfold KU;split
 ·rw [show n.toNat=0 by omega];rfl
 ·split
  ·rename_i h;have:n=1:=by
    rw [show(⟨#[c]⟩:Str).length=1 from rfl] at h;simpa using h
   subst this;rfl
  ·show((IJ n.toNat #[c]).foldl (·++·) #[]).toList=_;rw [key];rfl
theorem mul_one{c:Nat}(hc:c < 0x110000){n:Int}(h0:0<=n)(h1:n<=50):PySem.MulOk ⟨#[c]⟩ n/\Ep n.toNat (KU ⟨#[c]⟩ n):=by
 have lc:(⟨#[c]⟩:Str).length=1:=rfl;constructor
 ·refine⟨by simp;omega,λa b=>?_,λa b=>?_⟩
  ·rw [lc];have:(2 ^ 63 - 1:Int)/ n >= 1:=by rw [ge_iff_le,Int.le_ediv_iff_mul_le OH];omega
   omega
  ·rw [lc];obtain⟨k,rfl⟩:=Jp h0;rw [Nat.one_mul];unfold PySem.Builtin.Str.tooLong;simp;have:OS=16777216:=by first | rfl | decide | exact O8
   omega
 ·have l:=qy (c:=c) h0;refine⟨xN.mpr λd hd=>?_,?_⟩
  ·rw [l] at hd;rw [(Mt.mp hd).2];exact hc
  ·show(KU ⟨#[c]⟩ n).cps.size<=_;rw [<-Jc,l,Lc];exact IB _
theorem Hd{p x y A B C:Prop}{_:Decidable p}{_:Decidable x}{_:Decidable y}(hA:p->A)(hB:p->B)(hC:C):if p then(if x then A else if p then(if y then B else C) else C) else(if p then(if y then B else C) else C):=by
 by_cases hp:p
 ·rw [OJ hp,OJ hp];split
  ·exact hA hp
  ·split
   ·exact hB hp
   ·exact hC
 ·rw [OI hp,OI hp];exact hC
def pd:List Str:=["coming","paper","kind","first","rule","last","hold","end"]
theorem He:∀z∈pd,Nm z:=by
 intro z hz;have a:pd.all (λz=>decide (1<=z.length) && decide (z.length<=8) && z.cps.toList.all λc=>decide (c∈dQ.cps.toList))=true:=OF
 have:=K7.mp a z hz;simp only [Kk,decide_eq_true_eq,K7] at this;exact⟨this.1.1,this.1.2,this.2⟩
theorem Hf:pd.Nodup:=OF
theorem A4{c:Nat}{n:Int}(h0:0<=n):(KU ⟨#[c]⟩ n).length=n.toNat:=by
 show(KU ⟨#[c]⟩ n).cps.size=_;rw [<-Jc,qy h0,Lc]
theorem sk{j:Int}(h0:0<=j)(h1:j < 26):(iC j:Int)=97+j:=by
 have:∀k:Nat,k < 26->iC (k:Int)=97+k:=OF
 obtain⟨k,rfl⟩:=Jp h0;rw [this k OH];omega
theorem A5{j:Int}(h0:0<=j)(h1:j < 26):iC j∈dQ.cps.toList:=by
 obtain⟨c,_,hc,_⟩:=rz h0 h1;unfold iC;rw [hc];exact Jj hc
def ow(x:Nat)(a r d e k:Int):Str:=KU ⟨#[x]⟩ a++(⟨#[iC ((d+3*(0+k))% 26)]⟩++⟨#[iC ((e+(0+k)/ 26)% 26)]⟩)++KU ⟨#[x]⟩ r
theorem Hg{x:Nat}{a r d e k k':Int}(h0:0<=k)(h1:k < 50)(h2:0<=k')(h3:k' < 50)(h:ow x a r d e k=ow x a r d e k'):k=k':=by
 have h:=congrArg (λz:Str=>z.cps.toList) h;unfold ow at h;simp only [uu,Lj] at h;have h:=List.append_cancel_left (List.append_cancel_right h);simp at h;have e1:=sk (j:=(d+3*(0+k))% 26) OH OH;have e2:=sk (j:=(d+3*(0+k'))% 26) OH OH;have e3:=sk (j:=(e+(0+k)/ 26)% 26) OH OH;have e4:=sk (j:=(e+(0+k')/ 26)% 26) OH OH;simp only [NK] at e1 e2 e3 e4;rw [h.1] at e1;rw [h.2] at e3;have f1:(d+3*k)% 26=(d+3*k')% 26:=OH
 have f2:(e+k / 26)% 26=(e+k' / 26)% 26:=OH
 clear e1 e2 e3 e4 h;omega
theorem Hh{x:Nat}{a r d e k:Int}(hx:x∈dQ.cps.toList)(ha:0<=a)(hr:0<=r)(h8:a+r+2<=8):Nm (ow x a r d e k):=by
 refine Nm.of (l:=IJ a.toNat x++([iC ((d+3*(0+k))% 26)]++[iC ((e+(0+k)/ 26)% 26)])++IJ r.toNat x) ?_ ?_ ?_ λc hc=>?_
 ·unfold ow;simp only [uu,Lj,qy ha,qy hr]
 ·simp;omega
 ·simp;omega
 ·simp only [Jf,Mt,Jv] at hc;rcases hc with(⟨_,h⟩ | h | h) | ⟨_,h⟩
  ·rw [h];exact hx
  ·rw [h];exact A5 OH OH
  ·rw [h];exact A5 OH OH
  ·rw [h];exact hx
theorem Hi{x y:Nat}{i:Int}(hx:x∈dQ.cps.toList)(hy:y∈dQ.cps.toList)(h0:0<=i)(h7:i<=7):Nm (⟨#[y]⟩++KU ⟨#[x]⟩ i):=by
 refine Nm.of (l:=y::IJ i.toNat x) (by rw [uu,Lj,qy h0];rfl) OL (by simp;omega) λc hc=>?_;rcases IP.mp hc with e | e
 ·rw [e];exact hy
 ·rw [(Mt.mp e).2];exact hx
def mK(x:Nat)(a r d e:Int)(i:Nat):List Str:=(JP i).map λk:Nat=>ow x a r d e (k:Int)
theorem Hj{x:Nat}{a r d e:Int}{i:Nat}(hi:i<=50):(mK x a r d e i).Nodup:=by
 unfold mK;rw [MJ,KC];refine MR (λ{k k'} hk hk' h z=>?_) NZ;rw [Ly] at hk hk';have:=Hg OH OH OH OH z;exact h OH
theorem A6{x:Nat}{a r d e:Int}{i:Nat}:mK x a r d e (i+1)=mK x a r d e i++[ow x a r d e i]:=by
 unfold mK;rw [MY,J3];rfl
theorem Hk(T:Txt K mg t):az P w K mg base aJ 1 t.a_U t.d_U ["_law_xs","_law_many"] (bA K Hc):=by
 refine T.F_U.F.okD nF (λds Q h=>?_) (λ_ _ _ _ H O ds Q E hr h=>?_)
 ·obtain⟨a,b,c,d,e,r,m,rfl,_⟩:=h;rfl
 ·obtain⟨a,b,c,d,e,r,m,rfl,m0,m1,q⟩:=h;refine'⟨_,?A,?B⟩
  case A=>
   refine' av ?C ?D
   case C=>exact(bw (i:=2) nF.nd rfl OK bD)
   case' D=>refine' av ?E ?F
   case E=>
    refine' bw (i:=3) nF.nd rfl OK ?G (hs:=uz)
    case G=>exact(ao qP rn (dv 2) (ai aR aA (ao aE aF (dv 0) ae) ae))
   case' F=>refine' av ?H ?I
   case H=>
    refine' bZ ?J ?K bY
    case J=>exact(PW.pt (nk (br qJ ic (dv 1) ae (aG _)) (nZ (br (dD hr.units) dE (ai aR aA (ao aE aF (dv 0) ae) ae) ae (aG _)))))
    case' K=>refine' aC ?L
    case' L=>refine' bq ?M
    case' M=>refine' fe ?N
    case N=>exact(xv rfl A3 rfl T.n_range (bN (dv 1) bR) bG ib OG (λ_ _ _ _=>(bC (i:=0) A3.nd rfl OK)) (λ_ _ _ _=>um) (λ_ _ _ _=>(ai qL rm (ao qP rn (dv 1) (ai aR aA (ao aE aF (dv 3) ae) ae)) (ai uB uC (dv 2) (dv 0)))))
   case' I=>refine' av ?O ?P
   case O=>
    refine' bZ ?Q ?R bY
    case Q=>exact(PW.pt (nk (br qJ ic (dv 1) ae (aG _)) (nZ (br (dD hr.units) dE (ai aR aA (ao aE aF (dv 0) ae) ae) ae (aG _)))))
    case' R=>refine' aC ?S
    case' S=>generalize hE15_0:NJ _ _=ee15_0
    exact(bq (fe (nr (df (fe (Eo (ds:=[.str "coming",.str "paper",.str "kind",.str "first",.str "rule",.str "last",.str "hold",.str "end"]) (by first | (subst hE15_0;rfl))))) mF (mG (dv 1)))))
   case' P=>refine' av ?T ?U
   case T=>
    refine' bw (i:=4) nF.nd rfl OK ?V (hs:=mf)
    case V=>exact(ai aN aQ ae (ai aR aA (ai cy aA (ao aE aF (dv 0) ae) ae) ae))
   case' U=>refine' av ?W ?X
   case W=>
    refine' bw (i:=5) nF.nd rfl OK ?Y (hs:=mf)
    case Y=>exact(ai aR aA (ao aE aF (dv 0) ae) (ai cj aQ (dv 4) ae))
   case' X=>refine' av ?Z ?a
   case Z=>exact(qZ (i:=6) nF.nd rfl OK (cn aq))
   case' a=>refine' av ?b ?c
   case b=>
    refine' p7 JC rfl rfl T.n_range (af (dv 1) aq) ?d bG ?e
    case d=>exact(bC (i:=7) nF.nd rfl OK)
    case' e=>refine' av ?f ?g
    case f=>
     generalize hG27:Nj _ _ _ _=eg27;refine' bw (i:=8) nF.nd rfl OK ?h (hs:=by subst hG27;exact mf)
     case' h=>subst hG27
     exact(ai qL rm (ao qP rn (dv 2) (ai aR aA (ai aN aQ (ao aE aF (dv 0) ae) (ai dH aA ae (dv 7))) ae)) (ao qP rn (dv 2) (ai aR aA (ai aN aQ (ao aE aF (dv 0) ae) (ai cy aA (dv 7) ae)) ae)))
    case' g=>refine' aC ?i
    case' i=>refine' n4 (i:=6) (pv 6) ?j
    case j=>exact(ai qL rm (ai qL rm (ai uB uC (dv 3) (dv 5)) (dv 8)) (ai uB uC (dv 3) (ai cj aQ (ai cj aQ (dv 4) ae) (dv 5))))
   case' c=>refine' aC ?k
   case k=>exact(xo (pv 6))
  case B=>
  clear hr T;simp only [bO,bS,cA,cL,dP,↓kF,↓kM,↓kN,↓kO,↓kP,↓kT,↓kU,↓kG,↓gf,↓j0,↓lP,↓lQ,↓lR,↓lS,↓lT,↓lU,↓j1,↓j2,↓j3,↓j4,↓j5,↓j6,↓j7,↓j8,↓j9,↓kc,↓ke,↓kh,↓ki,↓kj,↓km,↓ko,↓kq,↓kr,↓ku,↓ky,↓kz,↓kA,↓kC,↓kD,cV,fb,fi,fc,fh,g8,d4,d6,fj,fu,d8,fy,eO,dC,bM,dI,fA,fB,fC,il,fD,cW,fO,fN,ie,fE,dL,d5,eQ,gY,dZ,dM,cz,eR,eS,eT,eU,eV,eX,eZ,gZ,dz,g6,ja,jd,je,jf,jg,jh,ji,jj,jk,jl,jm,jn,jo,jq,jr,jt,ju,jv,jw,jx,jy,jz,jA,jB,jC,jD,jE,jF,jG,jH,jI,jJ,jK,jL,jM,jN,jO,jP,jQ,jR,jS,jT,jU,jc,fH,ig,ip,eD,iB,iw,fF,fG,fI,fJ,fK,fL,fM,eh,iq,fP,iu,dA,hW,hZ,ia,d9,hG,hJ,hU,eg,fw,fx,hV,fT,fX,fY,i6,fZ,i5,i9,fS,iF,iG,iH,cX,iJ,iI,iD,iE,jV,jW,jX,jY,gb,gc,jZ,gh,kH,gi,kI,kJ,kK,kL,gj,kW,gs,gq,gr,gm,gz,kY,gu,kZ,gy,dS,kX,k7,k8,gA,gB,gC,k9,la,gE,lg,gF,gG,lp,lq,gH,gI,lr,lu,lh,lx,lA,lB,lC,gN,gK,gL,gM,lW,gO,gQ,gR,lE,lF,lG,gJ,lI,lJ,lK,lL,lM,lN,lH,lO,iK,iT,iU,iV,iW,iX,iY,iZ,i3,i4,ne_eq,iO,iP,iQ,iR,iS,iL,iM,iN,dO,dB,fz,dN,fq,fm,fk,cq,cf,bH,dn,dG,cS,IA,Jg,IE,Jt,IJ,Jq,Ju,IW,JW,JX,Kp,Kq,Kr,Ji,Ja,JH,JE,JF,JB,exists_eq_left',exists_eq_left,exists_and_left,exists_and_right,JL,JM,Sl.v.injEq,Sl.o.injEq,Sl.k.injEq,Jz,JY,JV,JI,JO,Jn,and_true,true_and,Ks,J5,exists_const,decide_eq_true_eq,Kt,Ku,Kf,Kg,JA,decide_eq_false_iff_not,and_assoc,or_true,true_or,↓reduceIte,if_true,if_false,Jl,JK,not_true_eq_false,not_false_eq_true,Kn,Kh,ite_true,ite_false,eq_self,exists_eq,reduceCtorEq,false_and,and_false,or_false,false_or,exists_false,Ki,Kj,cK,Ky,KL,JN,KN,Kz,Kc,JU,Ke,bO,bS,cA,cL,dP,cM,el,fQ,beq_self_eq_true,iy,iz,iA,bL,O8];obtain⟨x,e1,xm,x1⟩:=rz (j:=a % 26) OH OH
  refine⟨OF,x,e1,?_⟩;refine Hd (λhm=>?_) (λhm=>?_) ?_
  ·refine⟨OH,by have:(16777216:Nat)=(16777216:Int):=rfl;omega,?_⟩;refine⟨λi acc=>∃ys:List Str,acc=ys.map .str/\ys.length=i/\(∀y∈ys,Nm y)/\(∀y∈ys,y.length<=i)/\ys.Nodup,⟨[],rfl,rfl,OL,OL,OL⟩,?_,?_⟩
   ·rintro i z acc hz ⟨ys,rfl,hl,hg,hs,hnd⟩;obtain⟨hi,rfl⟩:=n9 hz;simp only [bO,bS,cA,cL,dP,↓kF,↓kM,↓kN,↓kO,↓kP,↓kT,↓kU,↓kG,↓gf,↓j0,↓lP,↓lQ,↓lR,↓lS,↓lT,↓lU,↓j1,↓j2,↓j3,↓j4,↓j5,↓j6,↓j7,↓j8,↓j9,↓kc,↓ke,↓kh,↓ki,↓kj,↓km,↓ko,↓kq,↓kr,↓ku,↓ky,↓kz,↓kA,↓kC,↓kD,cV,fb,fi,fc,fh,g8,d4,d6,fj,fu,d8,fy,eO,dC,bM,dI,fA,fB,fC,il,fD,cW,fO,fN,ie,fE,dL,d5,eQ,gY,dZ,dM,cz,eR,eS,eT,eU,eV,eX,eZ,gZ,dz,g6,ja,jd,je,jf,jg,jh,ji,jj,jk,jl,jm,jn,jo,jq,jr,jt,ju,jv,jw,jx,jy,jz,jA,jB,jC,jD,jE,jF,jG,jH,jI,jJ,jK,jL,jM,jN,jO,jP,jQ,jR,jS,jT,jU,jc,fH,ig,ip,eD,iB,iw,fF,fG,fI,fJ,fK,fL,fM,eh,iq,fP,iu,dA,hW,hZ,ia,d9,hG,hJ,hU,eg,fw,fx,hV,fT,fX,fY,i6,fZ,i5,i9,fS,iF,iG,iH,cX,iJ,iI,iD,iE,jV,jW,jX,jY,gb,gc,jZ,gh,kH,gi,kI,kJ,kK,kL,gj,kW,gs,gq,gr,gm,gz,kY,gu,kZ,gy,dS,kX,k7,k8,gA,gB,gC,k9,la,gE,lg,gF,gG,lp,lq,gH,gI,lr,lu,lh,lx,lA,lB,lC,gN,gK,gL,gM,lW,gO,gQ,gR,lE,lF,lG,gJ,lI,lJ,lK,lL,lM,lN,lH,lO,iK,iT,iU,iV,iW,iX,iY,iZ,i3,i4,ne_eq,iO,iP,iQ,iR,iS,iL,iM,iN,dO,dB,fz,dN,fq,fm,fk,cq,cf,bH,dn,dG,cS,IA,Jg,IE,Jt,IJ,Jq,Ju,IW,JW,JX,Kp,Kq,Kr,Ji,Ja,JH,JE,JF,JB,exists_eq_left',exists_eq_left,exists_and_left,exists_and_right,JL,JM,Sl.v.injEq,Sl.o.injEq,Sl.k.injEq,Jz,JY,JV,JI,JO,Jn,and_true,true_and,Ks,J5,exists_const,decide_eq_true_eq,Kt,Ku,Kf,Kg,JA,decide_eq_false_iff_not,and_assoc,or_true,true_or,↓reduceIte,if_true,if_false,Jl,JK,not_true_eq_false,not_false_eq_true,Kn,Kh,ite_true,ite_false,eq_self,exists_eq,reduceCtorEq,false_and,and_false,or_false,false_or,exists_false,Ki,Kj,cK,Ky,KL,JN,KN,Kz,Kc,JU,Ke,bO,bS,cA,cL,dP,cM,el,fQ,beq_self_eq_true,iy,iz,iA,bL,O8]
    obtain⟨y,g1,ym,y1⟩:=rz (j:=c % 26) OH OH;obtain⟨mo,mg⟩:=mul_one x1 (n:=0+(i:Int)) OH OH;have ml:=mg.le;have lc:(⟨#[y]⟩:Str).length=1:=rfl;have lm:m.toNat < 9:=OH
    refine⟨OF,y,g1,mo,by rw [lc];omega,ys++[⟨#[y]⟩++KU ⟨#[x]⟩ (0+(i:Int))],by rw [J3];rfl,by simp [hl],λz hz=>?_,λz hz=>?_,?_⟩
    ·rcases Jf.mp hz with h | h
     ·exact hg z h
     ·rw [Jv] at h;rw [h];exact Hi (Jj xm) (Jj ym) OH OH
    ·rcases Jf.mp hz with h | h
     ·exact NU (hs z h)
     ·rw [Jv] at h;rw [h,qh,lc,A4 OH];omega
    ·rw [Lx];refine⟨hnd,OL,λa ha b hb e=>?_⟩;rw [Jv] at hb;have l1:=hs a ha;rw [e,hb,qh,lc,A4 OH] at l1;omega
   ·rintro acc ⟨ys,rfl,hl,hg,hs,hnd⟩;rw [qa] at hl;exact q ys OH hg hnd
  ·obtain⟨k,rfl⟩:=Jp m0;rw [nt OH (by simp;omega)];rw [show ∀l:List OM,l.take ((k:Int)).toNat=l.take k from λl=>by simp];have ew:=(My (f:=ID) (l:=pd) (i:=k)).symm;refine Eq.mp (congrArg (λz=>Q (IY z)) ew.symm) ?_;refine q (pd.take k) ?_ (λz hz=>He z (Mm hz)) (Hf.sublist (MB _ _));rw [KW,show pd.length=8 from rfl];omega
  ·refine⟨OH,OH,OH,?_⟩;generalize hsz:2+b / 4 % 7=sz;have s0:2<=sz:=OH
   have s1:sz<=8:=OH
   generalize hat:c % (sz - 1)=at0;have a0:0<=at0:=by rw [<-hat];exact KI _ OH
   have a1:at0 < sz - 1:=by rw [<-hat];exact KO _ OH
   obtain⟨mo,gg⟩:=mul_one x1 a0 OH;obtain⟨mo2,gg2⟩:=mul_one x1 (n:=sz - 2 - at0) OH OH;clear hsz hat;refine⟨λi δ=>∃(o7 o8:Option Sl),(∀z∈mK x at0 (sz - 2 - at0) d e i,Nm z)/\δ=[some (Sl.v (IY (Iy a::Iy b::Iy c::Iy d::Iy e::r))),
    some (Sl.v (Iy m)),some (Sl.v (ID (Ip "abcdefghijklmnopqrstuvwxyz"))),some (Sl.v (ID {cps:=#[x]})),some (Sl.v (Iy sz)),
    some (Sl.v (Iy at0)),some (Sl.o ((mK x at0 (sz - 2 - at0) d e i).map .str)),o7,o8],⟨_,_,by simp [mK],rfl⟩,?_,?_⟩
   ·rintro i z δ hz ⟨o7,o8,hg,rfl⟩;obtain⟨hi,rfl⟩:=n9 hz;simp only [bO,bS,cA,cL,dP,↓kF,↓kM,↓kN,↓kO,↓kP,↓kT,↓kU,↓kG,↓gf,↓j0,↓lP,↓lQ,↓lR,↓lS,↓lT,↓lU,↓j1,↓j2,↓j3,↓j4,↓j5,↓j6,↓j7,↓j8,↓j9,↓kc,↓ke,↓kh,↓ki,↓kj,↓km,↓ko,↓kq,↓kr,↓ku,↓ky,↓kz,↓kA,↓kC,↓kD,cV,fb,fi,fc,fh,g8,d4,d6,fj,fu,d8,fy,eO,dC,bM,dI,fA,fB,fC,il,fD,cW,fO,fN,ie,fE,dL,d5,eQ,gY,dZ,dM,cz,eR,eS,eT,eU,eV,eX,eZ,gZ,dz,g6,ja,jd,je,jf,jg,jh,ji,jj,jk,jl,jm,jn,jo,jq,jr,jt,ju,jv,jw,jx,jy,jz,jA,jB,jC,jD,jE,jF,jG,jH,jI,jJ,jK,jL,jM,jN,jO,jP,jQ,jR,jS,jT,jU,jc,fH,ig,ip,eD,iB,iw,fF,fG,fI,fJ,fK,fL,fM,eh,iq,fP,iu,dA,hW,hZ,ia,d9,hG,hJ,hU,eg,fw,fx,hV,fT,fX,fY,i6,fZ,i5,i9,fS,iF,iG,iH,cX,iJ,iI,iD,iE,jV,jW,jX,jY,gb,gc,jZ,gh,kH,gi,kI,kJ,kK,kL,gj,kW,gs,gq,gr,gm,gz,kY,gu,kZ,gy,dS,kX,k7,k8,gA,gB,gC,k9,la,gE,lg,gF,gG,lp,lq,gH,gI,lr,lu,lh,lx,lA,lB,lC,gN,gK,gL,gM,lW,gO,gQ,gR,lE,lF,lG,gJ,lI,lJ,lK,lL,lM,lN,lH,lO,iK,iT,iU,iV,iW,iX,iY,iZ,i3,i4,ne_eq,iO,iP,iQ,iR,iS,iL,iM,iN,dO,dB,fz,dN,fq,fm,fk,cq,cf,bH,dn,dG,cS,IA,Jg,IE,Jt,IJ,Jq,Ju,IW,JW,JX,Kp,Kq,Kr,Ji,Ja,JH,JE,JF,JB,exists_eq_left',exists_eq_left,exists_and_left,exists_and_right,JL,JM,Sl.v.injEq,Sl.o.injEq,Sl.k.injEq,Jz,JY,JV,JI,JO,Jn,and_true,true_and,Ks,J5,exists_const,decide_eq_true_eq,Kt,Ku,Kf,Kg,JA,decide_eq_false_iff_not,and_assoc,or_true,true_or,↓reduceIte,if_true,if_false,Jl,JK,not_true_eq_false,not_false_eq_true,Kn,Kh,ite_true,ite_false,eq_self,exists_eq,reduceCtorEq,false_and,and_false,or_false,false_or,exists_false,Ki,Kj,cK,Ky,KL,JN,KN,Kz,Kc,JU,Ke,bO,bS,cA,cL,dP,cM,el,fQ,beq_self_eq_true,iy,iz,iA,bL,O8]
    obtain⟨g1,y1⟩:=xP (j:=(d+3*(0+(i:Int)))% 26) OH OH;obtain⟨g2,v1⟩:=xP (j:=(e+(0+(i:Int))/ 26)% 26) OH OH;have ly:∀y:Nat,(⟨#[y]⟩:Str).length=1:=λ_=>rfl;have l1:=gg.le;have l2:=gg2.le;refine⟨OF,_,g1,OF,_,g2,by rw [ly,ly];decide,mo,by rw [qh,ly,ly];omega,mo2,by rw [qh,qh,ly,ly];omega,by rw [Iw,mK,Iw,Lw];omega,λz hz=>?_,by rw [A6,J3];rfl,_,rfl⟩;rw [A6] at hz;rcases Jf.mp hz with h | h
    ·exact hg z h
    ·rw [Jv] at h;rw [h];exact Hh (Jj xm) a0 OH OH
   ·rintro δ ⟨o7,o8,hg,rfl⟩;walk_at "d";rw [qa] at hg⊢;exact q _ (by rw [mK,Iw,Lw];omega) hg (Hj OH)
end
local macro_rules | `(tactic| walk_at "e") =>rzT (rzS++" Sl.i.injEq exists_and_left")
theorem A7:bz (aw rP) ["self","deeds","name","coming"] ["deed","name"] 1 [2] ⟨IX,[ (Iu ".0",Ql),(Iu "deed",Ql),(Iu "name",Jd)],false,false,[]⟩:= .of
theorem vz:bz (aw rS) ["paper","happening"] ["day","other","happening"] 2 [1] ⟨IX,[ (Iu ".0",Ql),(Iu "day",Ql),(Iu "other",Ql),(Iu "happening",Jd)],false,false,[]⟩:= .of
section
variable {P:OZ} {w:O4} {K:Iq} {mg:Str->Option ON} {base:O3} {t:dU}
inductive cO where
 | com
 | fst (wd:Str)
 | lst (wd:Str)
def cO.enc:cO->OM
 | .com=>.tuple [.str (Ip "coming")]
 | .fst wd=>.tuple [.str (Ip "first"),.str wd]
 | .lst wd=>.tuple [.str (Ip "last"),.str wd]
def cO.Ok:cO->Prop
 | .com=>True
 | .fst wd=>IV wd=true
 | .lst wd=>IV wd=true
inductive Pt where
 | two (w kd:Str)
 | five (w kd:Str) (s:cO) (k:Int) (u:Str)
def Pt.enc:Pt->OM
 | .two w kd=>.tuple [.str w,.str kd]
 | .five w kd s k u=>.tuple [.str w,.str kd,s.enc,.int k,.str u]
def KG(w:Str):Prop:=w=Ip "keep"\/w=Ip "gone"
def Pt.Ok:Pt->Prop
 | .two w kd=>¬KG w/\IV w=true/\IV kd=true
 | .five w kd s k u=>KG w/\IV kd=true/\s.Ok/\0<=k/\k < 1000/\nH u
def De.isR:De->Bool
 | .oth w _ _ _=>w==Ip "rule"
 | _=>false
def De.isE:De->Bool
 | .oth w _ _ _=>w==Ip "rule" || w==Ip "end"
 | _=>false
structure cG (xs:List De):Prop where
 gx:eJ xs
 hp:∀d nm r,De.oth (Ip "happens") d nm r∈xs->∃wd,r=[.str wd]/\IV wd=true
 ru:∀d nm r,De.oth (Ip "rule") d nm r∈xs->∃pt:Pt,r=[pt.enc]/\pt.Ok
 nd:xs.Nodup
 d0:∀x∈xs,0<=x.d/\x.d < 100000
 re:∀x∈xs,∀y∈xs,x.isE=true->y.isE=true->x.d=y.d->x.nm=y.nm->x=y
def eM(nm:Str):De->Bool
 | .oth w _ n _=>w==Ip "happens" && n==nm
 | _=>false
def nK:De->Int×Str
 | .oth _ d _ [.str wd]=>(d,wd)
 | x=>(x.d,Ip "")
def dh(xs:List De)(nm:Str):List (Int×Str):=(xs.filter (eM nm)).map nK
theorem vA{xs:List De}(g:cG xs)(nm:Str):(dh xs nm).Nodup:=by
 unfold dh;rw [MJ,KC];refine MR (λ{a b} ha hb h e=>?_) (g.nd.sublist Lk);obtain⟨a1,a2⟩:=JS.mp ha;obtain⟨b1,b2⟩:=JS.mp hb;cases a with
 | pap p=>cases a2
 | oth w d n r=>
  cases b with
  | pap p=>cases b2
  | oth w' d' n' r'=>
   simp only [eM,Kk,beq_iff_eq] at a2 b2;obtain⟨rfl,rfl⟩:=a2;obtain⟨rfl,rfl⟩:=b2;obtain⟨wd,rfl,_⟩:=g.hp _ _ _ a1;obtain⟨wd',rfl,_⟩:=g.hp _ _ _ b1;simp only [nK,Oh] at e;exact h (by rw [e.1,e.2])
structure Rp where
 c:Pp
 ts:List Str
 hs:List (Int×Str)
def Rp.enc(C:OO)(r:Rp):OM:=yY C [(Ip "name",.str r.c.nm),(Ip "coming",.int r.c.d),(Ip "kind",.str r.c.kd),(Ip "makers",.tuple (r.ts.map .str)),(Ip "happenings",.list (r.hs.map bT))]
open Classical in
def mL(l:List (Int×Str)):List (Int×Str):=if h:∃s:List (Int×Str),s.Perm l/\s.Pairwise (λa b=>aD a b=true) then h.choose else []
theorem A8{s l:List (Int×Str)}(h1:s.Perm l)(h2:s.Pairwise λa b=>aD a b=true):s=mL l:=by
 unfold mL;have h:∃s:List (Int×Str),s.Perm l/\s.Pairwise (λa b=>aD a b=true):=⟨s,h1,h2⟩;rw [dif_pos h];exact sh (λa b z=>vo z) (h1.trans h.choose_spec.1.symm) h2 h.choose_spec.2
def eN(xs:List De)(c:Pp):Rp:=⟨c,(nJ (aU xs) c).map (·.nm),mL (dh xs c.nm)⟩
theorem mM{f g:Str}{d x:OM}{r:List (Str×OM)}(h:g≠f):eG f d ((g,x)::r)=(g,x)::eG f d r:=by rw [eG,OI h]
theorem Hl{a b:OM}:eG (Ip "coming") b (eG (Ip "name") a [])=[(Ip "name",a),(Ip "coming",b)]:=by
 rw [show eG (Ip "name") a []=[(Ip "name",a)] from rfl,mM OF];rfl
theorem Hm{a b c:OM}:eG (Ip "kind") c [(Ip "name",a),(Ip "coming",b)]=[(Ip "name",a),(Ip "coming",b),(Ip "kind",c)]:=by
 rw [mM OF,mM OF];rfl
theorem Hn{a b c d:OM}:eG (Ip "makers") d [(Ip "name",a),(Ip "coming",b),(Ip "kind",c)]=[(Ip "name",a),(Ip "coming",b),(Ip "kind",c),(Ip "makers",d)]:=by
 rw [mM OF,mM OF,mM OF];rfl
theorem Ho{a b c d e:OM}:eG (Ip "happenings") e [(Ip "name",a),(Ip "coming",b),(Ip "kind",c),(Ip "makers",d)]=[(Ip "name",a),(Ip "coming",b),(Ip "kind",c),(Ip "makers",d),(Ip "happenings",e)]:=by
 rw [mM OF,mM OF,mM OF,mM OF];rfl
def Hq(C:OO):List OM->(OM->Prop)->Prop:=λds Q=>∃(xs:List De)(c:Pp),ds=[.tuple (xs.map De.enc),.str c.nm]/\cG xs/\c∈aU xs/\((∀z,z∈mL (dh xs c.nm)↔z∈dh xs c.nm)->(mL (dh xs c.nm)).Pairwise (λa b=>aD a b=true)->(mL (dh xs c.nm)).length<=41->Q ((eN xs c).enc C))
theorem Hr(T:Txt K mg t):az P w K mg base aJ 7 t.a_I t.d_I ["self","deeds","name"] (rK K t.u_Paper (Hq t.u_Paper)):=by
 have G_L:=@A1 P w _ _ base _ T;have G_N:=@Hb P w _ _ base _ T;refine T.F_I.F.okI rX (λds Q h=>?_) (λcdv A outer s H H1 O ds Q E l hr h=>?_)
 ·obtain⟨xs,c,rfl,_⟩:=h;rfl
 ·obtain⟨xs,c,rfl,gd,hc,q⟩:=h;refine'⟨_,?A,?B⟩
  case A=>
   refine' av ?C ?D
   case C=>exact(bw (i:=3) rX.nd rfl OK (bo G_L hr T.F_L (af (dv 1) (af (dv 2) aq))))
   case' D=>refine' av ?E ?F
   case E=>exact(qp (C:=t.u_Paper) (i:=0) T.cl_Paper T.na_Paper_name (pv 0) (ao aO aW (dv 3) ae))
   case' F=>refine' av ?G ?H
   case G=>exact(qp (C:=t.u_Paper) (i:=0) T.cl_Paper T.na_Paper_coming (pv 0) (ao aO aW (dv 3) ae))
   case' H=>refine' av ?I ?J
   case I=>exact(qp (C:=t.u_Paper) (i:=0) T.cl_Paper T.na_Paper_kind (pv 0) (ao aO aW (dv 3) ae))
   case' J=>refine' av ?K ?L
   case K=>exact(qp (C:=t.u_Paper) (i:=0) T.cl_Paper T.na_Paper_makers (pv 0) (bo G_N hr T.F_N (af (dv 1) (af (dv 2) aq))))
   case' L=>refine' aC ?M
   case M=>exact(qp (C:=t.u_Paper) (i:=0) T.cl_Paper T.na_Paper_happenings (pv 0) (fe (Ft rfl T.n_sorted MQ (bN (fe (ri rfl A7 (df (dv 1)) bG ib OG (λ_ _ _ _=>(bC (i:=0) A7.nd rfl OK)) (λ_ _ _ _=>(mC (PW.pt (nk (br (fU hr) fV (ao aO aW (dv 0) ae) bD (aG _)) (nZ (br (dD hr.units) dE (ao aO aW (dv 0) ae) (dv 1) (aG _))))))) (λ_ _ _ _=>(cE (af (ao aO aW (dv 0) ae) (af (ao aO aW (dv 0) ae) aq)))))) bR))))
  case B=>
  clear hr T G_L G_N;simp only [qq,cf,IA,Jg,Jq,Ju,Oc,IE,Jt,JW,JX,IJ];walk_at "e";refine⟨xs,c,rfl,gd.gx,hc,?_⟩;simp only [Pp.enc];walk_at "e";simp only [Hl,Hm,Hn,Ho];have ln:=gd.gx.ln;have lt:∀n:Nat,n < 10->n < 1000:=λn h=>by omega
  refine⟨lt 1 OG,lt 2 OG,xs,c,rfl,gd.gx,hc,⟨lt 3 OG,by rw [Iw];omega,G2 (eM c.nm) (λx=>bT (nK x)) (λx hx R S h1 h0=>?_) ?_⟩⟩
  ·cases x with
   | pap p=>
    simp only [De.enc,Pp.enc];walk_at "d";exact h0 rfl
   | oth w d nm r=>
    simp only [De.enc];walk_at "d";by_cases e:w=Ip "happens"
    ·subst e;obtain⟨wd,rfl,_⟩:=gd.hp _ _ _ hx;rw [OJ (beq_self_eq_true _)];refine⟨me.mpr (gd.gx.nm _ hx),me.mpr (gd.gx.gp.nm c hc),?_⟩;split
     ·rename_i h2;exact⟨_,cL,h1 (by simp only [eM,beq_self_eq_true,JU];exact h2)⟩
     ·rename_i h2;exact h0 (by simp only [eM,beq_self_eq_true,JU];simpa using h2)
    ·rw [eL e,OI IF];exact h0 (by simp only [eM,eL e,M7])
  ·have hl:(dh xs c.nm).length<=41:=by
    unfold dh;rw [Iw];have:=Kv (eM c.nm) xs;omega
   refine⟨dh xs c.nm,by unfold dh;rw [Kx];rfl,OH,vA gd c.nm,λhs h1 h2=>⟨lt 4 OG,?_⟩⟩;have e:=A8 h1 h2;have q:=q (λz=>by rw [<-e];exact h1.mem_iff) (by rw [<-e];exact h2) (by rw [<-e,h1.length_eq];exact hl);rw [e];exact q
def A9(hs:List (Int×Str)):Prop:=hs.length<=41/\∀z∈hs,IV z.2=true
def pf(hs:List (Int×Str))(wd:Str):List Int:=(hs.filter λz=>z.2==wd).map (·.1)
def F_O(C:OO):List OM->(OM->Prop)->Prop:=λds Q=>∃(r:Rp)(wd:Str),ds=[r.enc C,.str wd]/\A9 r.hs/\IV wd=true/\Q (.list ((pf r.hs wd).map .int))
theorem Hs{a b c d e:OM}:eF [Ip "name",Ip "coming",Ip "kind",Ip "makers",Ip "happenings"] [a,b,c,d,e] (Ip "happenings")=some e:=by
 simp only [eF];rw [OI OF,OI OF,OI OF,OI OF,OJ trivial]
theorem Ht{a b c d e:OM}:eF [Ip "name",Ip "coming",Ip "kind",Ip "makers",Ip "happenings"] [a,b,c,d,e] (Ip "coming")=some b:=by
 simp only [eF];rw [OI OF,OJ trivial]
theorem Hu(T:Txt K mg t):az P w K mg base aJ 1 t.a_O t.d_O ["paper","happening"] (bA K (F_O t.u_Paper)):=by
 refine T.F_O.F.okD Gy (λds Q h=>?_) (λ_ _ _ _ H O ds Q E hr h=>?_)
 ·obtain⟨r,wd,rfl,_⟩:=h;rfl
 ·obtain⟨r,wd,rfl,⟨hl,hok⟩,wok,q⟩:=h;refine'⟨_,?A,?B⟩
  case A=>
   refine' aC ?C
   case' C=>refine' bq ?D
   case' D=>refine' fe ?E
   case E=>exact(rh rfl vz (df (y8 (C:=t.u_Paper) T.cl_Paper T.na_Paper_happenings (dv 0))) (xq (pZ bG (pZ bG xp))) FF OG (λ_ _ _ _=>(vM (n:=2) rfl (pB (bC (i:=0) vz.nd rfl OK) (pB (bC (i:=1) vz.nd rfl OK) vL)))) (λ_ _ _ _=>(mC (br (dD hr.units) dE (dv 1) (dv 2) (aG _)))) (λ_ _ _ _=>(dv 0)))
  case B=>
  clear hr T;walk_at "d";refine⟨[Ip "name",Ip "coming",Ip "kind",Ip "makers",Ip "happenings"],_,rfl,_,Hs,_,rfl,by rw [Iw];omega,dW (λz:Int×Str=>z.2==wd) (λz=>.int z.1) (λx hx R S h=>?_) ?_⟩
  ·simp only [bT];walk_at "d";exact⟨me.mpr (hok x hx),me.mpr wok,h⟩
  ·unfold pf at q;rw [Kx] at q;exact q
end
theorem Ba:bz (aw rT) ["paper","since","day","days"] ["other","day"] 1 [2] ⟨IX,[ (Iu ".0",Ql),(Iu "other",Ql),(Iu "day",Jd)],false,false,[]⟩:= .of
section
variable {P:OZ} {w:O4} {K:Iq} {mg:Str->Option ON} {base:O3} {t:dU}
open Classical in
def qz(d k:Int)(u:Str):Int:=if h:∃r,nc d k u r then h.choose else 0
theorem Bb{d k:Int}{u:Str}{r:Int}(h:nc d k u r):r=qz d k u:=by
 unfold qz;rw [dif_pos ⟨r,h⟩];exact GO h (Exists.choose_spec (⟨r,h⟩:∃r,nc d k u r))
def gU:Option Int->OM
 | none=>.none
 | some i=>.int i
def vB(r:Rp):Prop:=A9 r.hs/\IV r.c.kd=true/\r.ts.length<=41/\∀m∈r.ts,IV m=true
def di(r:Rp)(wd:Str)(n:Int):List Int:=(pf r.hs wd).filter λz=>decide (z<=n)
def ph(r:Rp)(n:Int):cO->Option Int
 | .com=>some r.c.d
 | .fst wd=>(di r wd n).head?
 | .lst wd=>(di r wd n).getLast?
theorem Hv{l:List Int}{Q:OM->Prop}(q:Q (gU l.head?)):if (!(l.map λz=>Iy z).isEmpty)=false then Q .none else ∃d,atI (l.map λz=>Iy z) 0=some d/\Q d:=by
 cases l with
 | nil=>rw [OJ (by rfl)];exact q
 | cons a l=>rw [OI OL];exact⟨.int a,bO,q⟩
theorem tT{l:List OM}{a:OM}:atI (l++[a]) (-1)=some a:=by
 unfold atI mz;rw [OI OH,OJ (by rw [Js,Md];omega)];rw [show((-1:Int)+((l++[a]).length:Nat)).toNat=l.length by rw [Js,Md];omega];simp
theorem Hw{l:List Int}{Q:OM->Prop}(q:Q (gU l.getLast?)):if (!(l.map λz=>Iy z).isEmpty)=false then Q .none else ∃d,atI (l.map λz=>Iy z) (-1)=some d/\Q d:=by
 rcases Mf l with e | ⟨l',a,e⟩
 ·subst e;rw [OJ (by rfl)];exact q
 ·rw [Mg] at e;subst e;rw [OI OL];refine⟨.int a,?_,?_⟩
  ·rw [J3];exact tT
  ·rw [Nk] at q;exact q
def Hx(C:OO):List OM->(OM->Prop)->Prop:=λds Q=>∃(r:Rp)(s:cO)(n:Int),ds=[r.enc C,s.enc,.int n]/\s.Ok/\vB r/\Q (gU (ph r n s))
theorem Hy(T:Txt K mg t):az P w K mg base aJ 2 t.a_P t.d_P ["paper","since","day"] (bA K (Hx t.u_Paper)):=by
 have G_O:=@Hu P w _ _ base _ T;refine T.F_P.F.okD Aq (λds Q h=>?_) (λ_ _ _ _ H O ds Q E hr h=>?_)
 ·obtain⟨r,s,n,rfl,_⟩:=h;rfl
 ·obtain⟨r,si,n,rfl,hsi,hh,q⟩:=h;refine'⟨_,?A,?B⟩
  case A=>
   refine' av ?C ?D
   case C=>
    refine' bZ ?E ?F bY
    case E=>exact(br (fU hr) fV (ao aO aW (dv 1) ae) bD (aG _))
    case' F=>refine' aC ?G
    case G=>exact(bq (y8 (C:=t.u_Paper) T.cl_Paper T.na_Paper_coming (dv 0)))
   case' D=>refine' av ?H ?I
   case H=>exact(rB (i:=3) Aq.nd rfl OK (xT rfl Ba (df (bo G_O hr T.F_O (af (dv 0) (af (ao aO aW (dv 1) ae) aq)))) bG ib OG (λ_ _ _ _=>(bC (i:=0) Ba.nd rfl OK)) (λ_ _ _ _=>(mC (br pL ic (dv 0) (dv 1) (aG _)))) (λ_ _ _ _=>(dv 0))))
   case' I=>refine' av ?J ?K
   case J=>
    refine' bZ ?L ?M bY
    case L=>exact(qY (FY (dv 3)))
    case M=>refine' aC (bq nY)
   case' K=>refine' aC ?N
   case' N=>refine' bq ?O
   case O=>exact(DV (br (fU hr) fV (ao aO aW (dv 1) ae) bD (aG _)) (ao aE aF (dv 3) ae) (ao aE aF (dv 3) (x5 ae)))
  case B=>
  clear hr T G_O;have dl:∀wd,(pf r.hs wd).length<=41:=λwd=>by
   unfold pf;rw [Iw];exact Jx (Kv _ _) hh.1.1
  cases si with
  | com=>
   simp only [cO.enc];walk_at "d";exact⟨[Ip "name",Ip "coming",Ip "kind",Ip "makers",Ip "happenings"],_,rfl,_,Ht,q⟩
  | fst wd=>
   simp only [cO.enc];walk_at "d";rw [eL (show Ip "first"≠Ip "coming" by decide+kernel),OI IF];have dl:=dl wd;refine⟨r,wd,rfl,hh.1,hsi,_,rfl,by rw [Iw];omega,dW (λz=>decide (z<=n)) (λz=>.int z) (λx hx R S h=>?_) ?_⟩
   ·walk_at "d";simpa using h
   ·have q:Q (gU (di r wd n).head?):=q;unfold di at q;exact Hv q
  | lst wd=>
   simp only [cO.enc];walk_at "d";rw [eL (show Ip "last"≠Ip "coming" by decide+kernel),OI IF];have dl:=dl wd;refine⟨r,wd,rfl,hh.1,hsi,_,rfl,by rw [Iw];omega,dW (λz=>decide (z<=n)) (λz=>.int z) (λx hx R S h=>?_) ?_⟩
   ·walk_at "d";simpa using h
   ·have q:Q (gU (di r wd n).getLast?):=q;unfold di at q;exact Hw q
def pj(r:Rp)(n:Int):Pt->Option Int
 | .five _ _ s k u=>(ph r n s).map λb=>qz b k u
 | .two _ _=>none
def Hz(C:OO):List OM->(OM->Prop)->Prop:=λds Q=>∃(r:Rp)(w kd:Str)(s:cO)(k:Int)(u:Str)(n:Int),ds=[r.enc C,(Pt.five w kd s k u).enc,.int n]/\s.Ok/\nH u/\vB r/\Q (gU (pj r n (.five w kd s k u)))
theorem Bc(T:Txt K mg t):az P w K mg base aJ 6 t.a_Q t.d_Q ["paper","parts","day"] (bA K (Hz t.u_Paper)):=by
 have G_P:=@Hy P w _ _ base _ T;have G_H:=@GN P w _ _ base _ T;refine T.F_Q.F.okD Ar (λds Q h=>?_) (λ_ _ _ _ H O ds Q E hr h=>?_)
 ·obtain⟨r,w,kd,s,k,u,n,rfl,_⟩:=h;rfl
 ·obtain⟨r,wo,kd,si,k,u,n,rfl,hsi,hu,hh,q⟩:=h;refine'⟨_,?A,?B⟩
  case A=>
   refine' av ?C ?D
   case C=>
    refine' bw (i:=3) Ar.nd rfl OK ?E (hs:=rF)
    case E=>exact(bo G_P hr T.F_P (af (dv 0) (af (ao aO aW (dv 1) ae) (af (dv 2) aq))))
   case' D=>refine' av ?F ?G
   case F=>
    refine' bZ ?H ?I bY
    case H=>exact(br tG uA (dv 3) nY (aG _))
    case I=>refine' aC (bq nY)
   case' G=>refine' aC ?J
   case' J=>refine' bq ?K
   case K=>exact(bo G_H hr T.F_H (af (dv 3) (af (ao aO aW (dv 1) ae) (af (ao aO aW (dv 1) ae) aq))))
  case B=>
  clear hr T G_P G_H;simp only [Pt.enc];walk_at "d";refine⟨r,si,n,rfl,hsi,hh,?_⟩;have q:Q (gU ((ph r n si).map λb=>qz b k u)):=q;cases hb:ph r n si with
  | none=>
   rw [hb] at q;simp only [gU,mh];walk_at "d";exact q
  | some b=>
   rw [hb] at q;simp only [gU,mh];walk_at "d";exact⟨b,k,u,rfl,hu,λx hx=>by rw [Bb hx];exact q⟩
theorem HA{xs:List De}{c:Pp}(g:cG xs)(hc:c∈aU xs)(h1:∀z,z∈mL (dh xs c.nm)↔z∈dh xs c.nm)(h3:(mL (dh xs c.nm)).length<=41):vB (eN xs c):=by
 refine⟨⟨h3,λz hz=>?_⟩,g.gx.gp.kd c hc,?_,λm hm=>?_⟩
 ·have hz:=(h1 z).mp hz;unfold dh at hz;obtain⟨x,hx,e⟩:=Jy.mp hz;obtain⟨hx1,hx2⟩:=JS.mp hx;cases x with
  | pap p=>cases hx2
  | oth w d nm r=>
   simp only [eM,Kk,beq_iff_eq] at hx2;obtain⟨rfl,rfl⟩:=hx2;obtain⟨wd,rfl,hw⟩:=g.hp _ _ _ hx1;rw [<-e];exact hw
 ·show((nJ (aU xs) c).map (·.nm)).length<=41;rw [Iw];exact A2 g.gx.gp
 ·obtain⟨p,hp,rfl⟩:=Jy.mp hm;exact g.gx.gp.nm p (GX.mp (JS.mp hp).1)
def HB:List OM->(OM->Prop)->Prop:=λds Q=>∃(xs:List De)(c:Pp)(w kd:Str)(s:cO)(k:Int)(u:Str)(n:Int),ds=[.tuple (xs.map De.enc),(Pt.five w kd s k u).enc,.str c.nm,.int n]/\cG xs/\c∈aU xs/\s.Ok/\nH u/\Q (gU (pj (eN xs c) n (.five w kd s k u)))
theorem HC(T:Txt K mg t):az P w K mg base aJ 9 t.a_R t.d_R ["deeds","parts","paper","day"] (bA K HB):=by
 have G_Q:=@Bc P w _ _ base _ T;have G_I:=@Hr P w _ _ base _ T;refine T.F_R.F.okD As (λds Q h=>?_) (λ_ _ _ _ H O ds Q E hr h=>?_)
 ·obtain⟨xs,c,w,kd,s,k,u,n,rfl,_⟩:=h;rfl
 ·obtain⟨xs,c,wo,kd,si,k,u,n,rfl,gd,hc,hsi,hu,q⟩:=h;refine'⟨_,?A,?B⟩
  case A=>
   refine' aC ?C
   case' C=>refine' bq ?D
   case D=>exact(bo G_Q hr T.F_Q (af (PE.imp (wc T.mk_Paper G_I (hr.mono OG) rfl T.c_Paper T.F_I.b .nil wD (af (dv 0) (af (dv 2) aq))) FL) (af (dv 1) (af (dv 3) aq))))
  case B=>
  clear hr T G_Q G_I;walk_at "d";exact⟨xs,c,rfl,gd,hc,λh1 h2 h3=>⟨eN xs c,wo,kd,si,k,u,n,rfl,hsi,hu,HA gd hc h1 h3,q⟩⟩
local macro_rules | `(tactic| walk_at "g") =>rzT "sS sR sV sU sT oH lX mR tC nO tq rI gW rU tw tD ng tH tB sI sJ sL sM sN sO sQ pP tL tK pQ tM tN pC oG pA sW wK wL wM wN wO wQ wR wU dn dG cS L2.start IA Jg IE Jt IJ Jq Ju IW JW JX Kp Kq Kr Ji Ja JE JF JB exists_eq_left' exists_eq_left exists_and_left exists_and_right V.int.injEq V.bl.injEq V.str.injEq V.ref.injEq Jn and_true true_and Ks exists_const decide_eq_true_eq Kt Ku Kf Kg JA decide_eq_false_iff_not and_assoc aS JL JH JM L2.cxK L2.cmK or_true true_or if_true if_false Jl JK not_true_eq_false not_false_eq_true Kn Kh ite_true ite_false eq_self wZ L2.E0 exists_eq forall_eq'"
def so(xs:List De)(d:OM):Prop:=cg d=true/\∀p∈aU xs,(ID p.nm).eqv d=false
def HD:DX:=λds _ R=>∃(xs:List De)(d:OM),ds=[.tuple (xs.map De.enc),d]/\eJ xs/\so xs d/\R
theorem HE(T:Txt K mg t):az P w K mg base (aL P w) 1 t.a_L t.d_L ["deeds","paper"] (oY K t.u_NoPaper HD):=by
 refine T.F_L.F.okDX rY (λds Q R h=>?_) (λcdv A outer s H O ds Q R E hr h hx=>?_)
 ·obtain⟨xs,d,rfl,_⟩:=h;rfl
 ·obtain⟨xs,d,rfl,g,⟨ht,hn⟩,r⟩:=h;refine'⟨_,?A,?B⟩
  case A=>
   refine' av ?C ?D
   case C=>
    refine' ui PassesOwn.leaving rfl (dv 0) ?E bG ?F
    case E=>exact(bC (i:=2) rY.nd rfl OK)
    case' F=>refine' aC ?G
    case' G=>refine' bZ ?H ?I bY
    case H=>exact(PW.pt (nk (br (fU hr) fV (ao aO aW (dv 2) ae) bD (aG _)) (nZ (br (Gf hr) Gh (ao aO aW (dv 2) ae) (dv 1) (aG _)))))
    case' I=>refine' aC ?J
    case J=>exact(bq (dv 2))
   case' D=>refine' aC ?K
   case K=>exact(Gb hx T.c_NoPaper T.q_NoPaper PySem.F.excBase_ValueError (af bD aq))
  case B=>
  clear hr T hx;walk_at "d";refine⟨λi δ=>∃o2,δ=[some (Sl.v (I0 (JG De.enc xs))),some (Sl.v d),o2],⟨_,rfl⟩,?_,?_⟩
  ·rintro i z δ hz ⟨o2,rfl⟩;rw [IS] at hz;cases hz':xs[i]? with
   | none=>rw [hz'] at hz;cases hz
   | some x=>
    rw [hz'] at hz;cases hz;have hx:=Jj hz';cases x with
    | pap p=>
     simp only [De.enc,Pp.enc];walk_at "d";rw [hn p (vv.mpr hx)];exact⟨ht,_,rfl⟩
    | oth wo n nm l=>
     simp only [De.enc];walk_at "d";rw [eL (g.np _ _ _ _ hx),OI IF];exact⟨_,rfl⟩
  ·rintro δ ⟨o2,rfl⟩;walk_at "d";exact r
def HF:DX:=λds _ R=>∃(xs:List De)(d:OM),ds=[.tuple (xs.map De.enc),d]/\eJ xs/\so xs d/\R
theorem HG(T:Txt K mg t):az P w K mg base (aL P w) 7 t.a_I t.d_I ["self","deeds","name"] (rN K t.u_Paper t.u_NoPaper HF):=by
 have G_L:=@HE P w _ _ base _ T;refine T.F_I.F.okIX rX (λds Q R h=>?_) (λcdv A outer s H H1 O ds R E l hr h hx=>?_)
 ·obtain⟨xs,d,rfl,_⟩:=h;rfl
 ·obtain⟨xs,d,rfl,h⟩:=h;refine'⟨_,?A,?B⟩
  case A=>
   refine' av ?C ?D
   case C=>exact(bw (i:=3) rX.nd rfl OK (Gm hx G_L hr T.F_L (af (dv 1) (af (dv 2) aq))))
   case' D=>refine' av oU ?E
   case' E=>refine' av oU ?F
   case' F=>refine' av oU ?G
   case' G=>refine' av oU ?H
   case H=>refine' aC oU
  case B=>
  clear hr T hx G_L;simp only [qq,Oc];walk_at "d";exact⟨xs,d,rfl,h⟩
def HH:DX:=λds _ R=>∃(xs:List De)(p:OM)(d:OM)(n:Int),ds=[.tuple (xs.map De.enc),p,d,.int n]/\eJ xs/\so xs d/\R
theorem HI(T:Txt K mg t):az P w K mg base (aL P w) 9 t.a_R t.d_R ["deeds","parts","paper","day"] (oY K t.u_NoPaper HH):=by
 have G_I:=@HG P w _ _ base _ T;have G_Q:=@Bc P w _ _ base _ T;refine T.F_R.F.okDX As (λds Q R h=>?_) (λcdv A outer s H O ds Q R E hr h hx=>?_)
 ·obtain⟨xs,p,d,n,rfl,_⟩:=h;rfl
 ·obtain⟨xs,p,d,n,rfl,h⟩:=h;refine'⟨_,?A,?B⟩
  case A=>
   refine' aC ?C
   case' C=>refine' bq ?D
   case D=>exact(bo G_Q hr T.F_Q (af (Gn hx T.mk_Paper G_I hr T.c_Paper T.F_I.b (af (dv 0) (af (dv 2) aq))) (af (dv 1) (af (dv 3) aq))))
  case B=>
  clear hr T hx G_I G_Q;walk_at "d";exact⟨xs,d,rfl,h⟩
theorem HJ(T:Txt K mg t):az P w K mg base aJ 14 t.a_d t.d_d ["_law_deed"] (Ai P w K mg t.u_NoPaper 13 base):=by
 refine T.F_d.F.ok Aw (λvs H Q E h=>?_) (λcdv A outer s H vs Q E hr h=>?_)
 ·obtain⟨f,k,fd,sp,o,rfl,_⟩:=h;rfl
 ·obtain⟨f,k,fd,sp,o,rfl,hbf,hk,Ff,hb,hsp⟩:=h;refine'⟨_,?A,?B⟩
  case A=>
   refine' cx ?C ?D
   case C=>
    exact(F8 (C:=t.u_NoPaper) (i:=1) (d:=0) rfl (MP rfl) rfl rfl T.c_ArchiveError rfl T.q_NoPaper T.q_ArchiveError OG T.i_NoPaper_ArchiveError Aw.nd rfl rfl (λe=>(cx (oF (sH (ck (Gi (K':=K) rfl) rfl T.n_isinstance l4 (aP (pv 1) (aP (tO (aP (cP (v:= .ref t.u_GoneMaker) rfl T.c_GoneMaker rfl) (aP (cP (v:= .ref t.u_Held) rfl T.c_Held rfl) (aP (cP (v:= .ref t.u_MustStay) rfl T.c_MustStay rfl) (aP (cP (v:= .ref t.u_NoCall) rfl T.c_NoCall rfl) (aP (cP (v:= .ref t.u_NoDay) rfl T.c_NoDay rfl) (aP (cP (v:= .ref t.u_NoDeed) rfl T.c_NoDeed rfl) (aP (cP (v:= .ref t.u_NoLeave) rfl T.c_NoLeave rfl) (aP (cP (v:= .ref t.u_NoNumber) rfl T.c_NoNumber rfl) (aP (cP (v:= .ref t.u_NoText) rfl T.c_NoText rfl) (aP (cP (v:= .ref t.u_Twice) rfl T.c_Twice rfl) bP))))))))))) bP)))) (cQ (cR sF)) oE)
   (cQ (cR (sP (ck (Al (K':=K) rfl) rfl T.n_isinstance l4 (aP (pv 1) (aP (cP (v:= .ref t.u_NoPaper) rfl T.c_NoPaper rfl) bP))) (qC (ck (Al (K':=K) rfl) rfl T.n_isinstance l4 (aP (pv 1) (aP (mS (v:= .ty "ValueError") rfl T.n_ValueError DD rfl) bP))))))))))
   case D=>
    refine' cQ ?E
    case E=>refine' cR sF
  case B=>
  walk_at "g";refine⟨f,k,fd,sp,o,rfl,hbf,hr.mono hk,Ff,hb,hsp _ _ (λv H2 q=>?_) (λd H2 q=>⟨rfl,λe he=>?_⟩)⟩
  ·walk_at "g";exact q
  ·walk_at "g";refine⟨OG,λq' hq=>?_⟩;have ne:e≠q':=cw bg hq;have Z:l5 K t.u_NoPaper:=⟨T.z1,T.z2,T.z3,T.z4,T.z5,T.z6,T.z7,T.z8⟩;refine⟨t.u_NoPaper,(ay ne).trans bg,[t.u_GoneMaker,t.u_Held,t.u_MustStay,t.u_NoCall,t.u_NoDay,t.u_NoDeed,t.u_NoLeave,t.u_NoNumber,t.u_NoText,t.u_Twice],bg,Z,false,T.ka,?_⟩;rw [OI OG];refine⟨t.u_NoPaper,(ay ne).trans bg,Z,.ref t.u_NoPaper,λu h=>h,true,by unfold LV;rw [OJ OL],?_⟩;rw [OJ rfl];refine⟨t.u_NoPaper,(ay ne).trans bg,Z,.type "ValueError",λu h=>h,true,T.kv,?_⟩;exact q _ ((ah.new he).trans (ah.new hq))
def sq(ss:List Str):Prop:=∀z∈ss,Nm z
theorem mO{ss:List Str}{i:Int}(h:sq ss)(h0:0<=i)(h1:i < ss.length):∃s∈ss,atI (ss.map ID) i=some (.str s)/\Nm s:=by
 obtain⟨k,rfl⟩:=Jp h0;have hk:k < ss.length:=OH
 exact⟨ss[k],KY hk,gX (by simp [hk]),h _ (KY hk)⟩
theorem ox{ns:List Int}{k:Int}{Q:OM->Prop}:AN [cD (ns.map .int),.int k] Q↔(0<=k/\k<=1000/\∀c:Int,Q (.int c)):=by
 constructor
 ·rintro⟨ns',k',e,a,b,q⟩;simp only [Jn,Jz,and_true] at e;rw [e.2];exact⟨a,b,q⟩
 ·rintro⟨a,b,q⟩;exact⟨ns,k,rfl,a,b,q⟩
theorem oy{c m:Int}{Q:OM->Prop}:AO [.int c,.int m] Q↔(0<=m/\m<=64/\∀ns:List Int,(ns.length:Int)=m->(∀z∈ns,0<=z/\z < 2000000000)->Q (.list (ns.map .int))):=by
 constructor
 ·rintro⟨c',m',e,a,b,q⟩;simp only [Jn,Jz,and_true] at e;obtain⟨rfl,rfl⟩:=e;exact⟨a,b,q⟩
 ·rintro⟨a,b,q⟩;exact⟨c,m,rfl,a,b,q⟩
theorem HK(xs:List OM)(k:Nat)(h:k<=xs.length):bI xs none (some (k:Int))=xs.take k:=by rw [nt OH OH];rfl
theorem Bd(xs:List OM){k:Nat}:bI xs none (some (k:Int))=xs.take k:=by
 by_cases h:k<=xs.length
 ·exact HK xs k h
 ·have h0:HT.sIx xs.length 0 none=0:=rfl;have h1:HT.sIx xs.length xs.length (some (k:Int))=xs.length:=by unfold HT.sIx;simp only [];split <;> omega
  unfold bI;rw [h0,h1,Oa,Oq,Kl (IB _),Kl OH]
def Be:List OM->(OM->Prop)->Prop:=λds Q=>∃(x far:Int),ds=[.int x,.int far]/\∀d:Int,0<=d->d < 100000->Q (.int d)
theorem HL(T:Txt K mg t):az P w K mg base aJ 2 t.a_Y t.d_Y ["_law_x","_law_far"] (bA K Be):=by
 have G_V:=@AJ P w _ _ base _ T;have G_W:=@AK P w _ _ base _ T;refine T.F_Y.F.okD vf (λds Q h=>?_) (λ_ _ _ _ H O ds Q E hr h=>?_)
 ·obtain⟨x,far,rfl,_⟩:=h;rfl
 ·obtain⟨x,far,rfl,q⟩:=h;refine'⟨_,?A,?B⟩
  case A=>
   refine' av ?C ?D
   case C=>
    refine' bZ ?E ?F bY
    case E=>exact(br (dD hr.units) dE (dv 1) ae (aG _))
    case' F=>refine' aC ?G
    case G=>exact(bq (ai aR aA (dv 0) ae))
   case' D=>refine' av ?H ?I
   case H=>
    refine' bZ ?J ?K bY
    case J=>exact(br (dD hr.units) dE (dv 1) ae (aG _))
    case' K=>refine' aC ?L
    case L=>exact(bq (ai aR aA (dv 0) ae))
   case' I=>refine' av ?M ?N
   case M=>exact(bw (i:=2) vf.nd rfl OK (ai aR aA (ai cy aA (dv 0) ae) ae))
   case' N=>refine' av ?O ?P
   case O=>
    generalize hG12:Nj _ _ _ _=eg12;refine' bw (i:=3) vf.nd rfl OK ?Q (hs:=by subst hG12;exact mf)
    case' Q=>subst hG12
    exact(ai aN aQ (bo G_V hr T.F_V (af (ai aN aQ ae (ai cy aA (dv 2) ae)) aq)) (PE.imp (ck (t8 rfl) rfl T.n_sum Me (bN (fe (nr (df (bo G_W hr T.F_W (af (ai aN aQ ae (ai cy aA (dv 2) ae)) aq))) mF (mG (ai aN aQ (ai aR aA (dv 2) ae) ae)))) bR)) (bX z9)))
   case' P=>refine' aC ?R
   case' R=>refine' bq ?S
   case S=>exact(ai cj aQ (ai cj aQ (dv 3) ae) (ai aR aA (dv 0) ae))
  case B=>
  clear hr T G_V G_W;walk_at "d";split
  ·exact q _ (KI _ OG) OH
  ·split
   ·exact q _ (KI _ OG) OH
   ·have m0:0<=x / 4 % 3284:=KI _ OG;have m1:x / 4 % 3284 < 3284:=KO _ OG;generalize x / 4 % 3284=M at m0 m1⊢;obtain⟨k,hk⟩:=Jp (show 0<=M % 12+1 by omega);refine⟨_,rfl,_,rfl,_,rfl,(cF (2000+M / 12)).take k,by rw [hk,Bd,My],_,rfl,?_⟩;rw [AL _ k OH];have b1:ar (2000+M / 12) 2<=ar (2000+M / 12) ((k:Int)+1):=oW OG OH OH;have b2:ar (2000+M / 12) 2=31:=(nB _).2.1;have b13:ar (2000+M / 12) 13=365+ld (2000+M / 12):=(nB _).2.2.2.2.2.2.2.2.2.2.2.2;have b9:ar (2000+M / 12) 9=243+ld (2000+M / 12):=(nB _).2.2.2.2.2.2.2.2.1;have b3:ar (2000+M / 12) ((k:Int)+1)<=ar (2000+M / 12) 13:=oW OH OH OG;have l1:=Aa (2000+M / 12);have y0:aY (2000+M / 12)=365*(2000+M / 12 - 2000)+((2000+M / 12 - 1)/ 4 - (2000+M / 12 - 1)/ 100+(2000+M / 12 - 1)/ 400) - 484:=by unfold aY;rw [show lb 2000=484 from rfl];unfold lb;rfl
    have hY:M / 12<=273:=OH
    refine q _ OH ?_;by_cases h:M / 12=273
    ·have b4:ar (2000+M / 12) ((k:Int)+1)<=ar (2000+M / 12) 9:=oW OH OH OG;omega
    ·omega
def HM:List OM->(OM->Prop)->Prop:=λds Q=>∃(ys:List Int)(ks ws:List Str),ds=[.list (ys.map .int),.list (ks.map .str),.list (ws.map .str)]/\ys.length=5/\(∀z∈ys,0<=z/\z < 2000000000)/\sq ks/\ks.length=3/\sq ws/\ws.length=2/\
 ∀(wo kd:Str)(s:cO)(k:Int)(u:Str),(Pt.five wo kd s k u).Ok->Q (Pt.five wo kd s k u).enc
theorem HN(T:Txt K mg t):az P w K mg base aJ 1 t.a_Z t.d_Z ["_law_xs","_law_kinds","_law_words"] (bA K HM):=by
 refine T.F_Z.F.okD vg (λds Q h=>?_) (λ_ _ _ _ H O ds Q E hr h=>?_)
 ·obtain⟨ys,ks,ws,rfl,_⟩:=h;rfl
 ·obtain⟨ys,ks,ws,rfl,yl,yn,kn,kl,wn,wl,q⟩:=h;refine'⟨_,?A,?B⟩
  case A=>
   refine' av ?C ?D
   case C=>
    generalize hG2:Od _ _ _=eg2;refine' bw (i:=3) vg.nd rfl OK ?E (hs:=by subst hG2;exact uz)
    case' E=>subst hG2
    refine' ij aE aF (df ?F) ?G
    case F=>
     refine' fe ?H
     case' H=>refine' cn ?I
     case' I=>refine' af ?J ?K
     case J=>exact(cE (af bD aq))
     case' K=>refine' af ?L ?M
     case L=>
      refine' cE ?N
      case' N=>refine' af bD ?O
      case' O=>refine' af ?P aq
      case' P=>refine' ij aE aF (df (dv 2)) ?Q
      case Q=>exact(df (ai aR aA (ai cy aA (ao aE aF (dv 0) ae) ae) ae))
     case' M=>refine' af ?R aq
     case' R=>refine' cE ?S
     case' S=>refine' af bD ?T
     case' T=>refine' af ?U aq
     case' U=>refine' ij aE aF (df (dv 2)) ?V
     case V=>exact(df (ai aR aA (ai cy aA (ao aE aF (dv 0) ae) ae) ae))
    case G=>exact(df (ai aR aA (ao aE aF (dv 0) ae) ae))
   case' D=>refine' av ?W ?X
   case W=>
    generalize hG26:Od _ _ _=eg26;refine' bw (i:=4) vg.nd rfl OK ?Y (hs:=by subst hG26;exact uz)
    case' Y=>subst hG26
    refine' ij aE aF (df ?Z) ?a
    case Z=>
     refine' fe ?b
     case' b=>refine' cn ?c
     case' c=>refine' af ?d ?e
     case d=>exact(ai aR aA (ao aE aF (dv 0) ae) ae)
     case' e=>refine' af ?f aq
     case f=>exact(ai aR aA (ao aE aF (dv 0) ae) ae)
    case a=>exact(df (PE.imp (nh pO rfl T.n_int nU (bN (l7 (dD hr.units) dE (df (ai aR aA (ao aE aF (dv 0) ae) ae)) (df ae) (aG _)) bR)) (bX p9)))
   case' X=>refine' aC ?g
   case' g=>generalize hG36:Expr.Tuple _ _ _=eg36
   refine' bq ?h
   case' h=>subst hG36
   refine' cE ?i
   case' i=>refine' af ?j ?k
   case j=>
    refine' ij aE aF (df ?l) ?m
    case l=>exact(fe (cn (af bD (af bD aq))))
    case m=>exact(df (ai aR aA (ao aE aF (dv 0) ae) ae))
   case' k=>refine' af ?n ?o
   case n=>
    refine' ij aE aF (df (dv 1)) ?p
    case p=>exact(df (ai aR aA (ai cy aA (ao aE aF (dv 0) ae) ae) ae))
   case' o=>refine' af (dv 3) ?q
   case' q=>refine' af (dv 4) ?r
   case' r=>refine' af ?s aq
   case' s=>refine' ij aE aF (df ?t) ?u
   case t=>exact(fe (cn (qg (ds:=[.str "days",.str "months",.str "years"]) (by rfl))))
   case u=>exact(df (ai aR aA (ao aE aF (dv 0) ae) ae))
  case B=>
  clear hr T
  match ys,yl with
  | [y0,y1,y2,y3,y4],_=>
  clear yl;walk_at "d";have a0:=yn y0 OL;have a1:=yn y1 OL;have a2:=yn y2 OL;have a4:=yn y4 OL;clear yn;obtain⟨wd,_,ew,gw⟩:=mO wn (i:=y1 / 3 % 2) OH OH;obtain⟨kd,_,ek,gk⟩:=mO kn (i:=y0 / 2 % 3) OH OH;have hs:∃s:cO,atI [I0 [ID (Ip "coming")],I0 [ID (Ip "first"),.str wd],I0 [ID (Ip "last"),.str wd]] (y1 % 3)=some s.enc/\s.Ok:=by
   have:y1 % 3=0\/y1 % 3=1\/y1 % 3=2:=OH
   rcases this with h | h | h <;> rw [h]
   ·exact⟨.com,rfl,trivial⟩
   ·exact⟨.fst wd,rfl,gw.ok⟩
   ·exact⟨.lst wd,rfl,gw.ok⟩
  have hm:∃k:Int,atI [Iy (y2 % 40),Iy (y2 % 1000)] (if (y3 % 3==0)=true then 1 else 0)=some (.int k)/\0<=k/\k < 1000:=by
   split
   ·exact⟨_,bS,OH,OH⟩
   ·exact⟨_,bO,OH,OH⟩
  have hw:∃wo:Str,atI [ID (Ip "keep"),ID (Ip "gone")] (y0 % 2)=some (.str wo)/\KG wo:=by
   have:y0 % 2=0\/y0 % 2=1:=OH
   rcases this with h | h <;> rw [h]
   ·exact⟨_,rfl,.inl rfl⟩
   ·exact⟨_,rfl,.inr rfl⟩
  have hu:∃u:Str,atI [ID (Ip "days"),ID (Ip "months"),ID (Ip "years")] (y4 % 3)=some (.str u)/\nH u:=by
   have:y4 % 3=0\/y4 % 3=1\/y4 % 3=2:=OH
   rcases this with h | h | h <;> rw [h]
   ·exact⟨_,rfl,.inl rfl⟩
   ·exact⟨_,rfl,.inr (.inl rfl)⟩
   ·exact⟨_,rfl,.inr (.inr rfl)⟩
  obtain⟨s,e1,s1⟩:=hs;obtain⟨k,e2,k0,k1⟩:=hm;obtain⟨wo,e3,w1⟩:=hw;obtain⟨u,e4,u1⟩:=hu;exact⟨_,ew,_,ew,_,e1,_,e2,_,e3,_,ek,_,e4,q wo kd s k u ⟨w1,gk.ok,s1,k0,k1,u1⟩⟩
def Bf(ps:List Pt):Prop:=∀p∈ps,p.Ok/\∃wo kd s k u,p= .five wo kd s k u
def HP:List OM->(OM->Prop)->Prop:=λds Q=>∃cs:List Int,ds=[cD (cs.map .int)]/\∀(ns:List Str)(pts:List Pt)(xs:List De),cG xs->sq ns->2<=ns.length->ns.length<=5->(∀p∈aU xs,p.nm∈ns)->(∃nl∈ns,atI (ns.map ID) (-1)=some (.str nl)/\∀p∈aU xs,p.nm≠nl)->Bf pts->0 < pts.length->pts.length<=6->
 Q (.tuple [.list (ns.map .str),.list (pts.map Pt.enc),.tuple (xs.map De.enc)])
def nL(n k:Str)(a:Int):De:= .oth (Ip "rule") 0 n [(Pt.five (Ip "keep") k .com a (Ip "days")).enc]
def nM(b:Int)(n k w:Str):De:= .oth (Ip "rule") b n [(Pt.five (Ip "gone") k (.lst w) 3 (Ip "months")).enc]
theorem oz{ps:List Pp}{os:List De}{R S x:De}:x∈ps.map De.pap++os++[R,S]↔(∃p∈ps,x=De.pap p)\/x∈os\/x=R\/x=S:=by
 simp only [Jf,Jy,IP,K8,or_false,or_assoc];constructor
 ·rintro(⟨p,hp,rfl⟩ | h)
  ·exact .inl ⟨p,hp,rfl⟩
  ·exact .inr h
 ·rintro(⟨p,hp,rfl⟩ | h)
  ·exact .inl ⟨p,hp,rfl⟩
  ·exact .inr h
theorem Bg:∀ps:List Pp,ps.filterMap (De.pp ∘ De.pap)=ps
 | []=>rfl
 | a::l=>by
  rw [K5];show a::_=_;rw [Bg l]
def HQ(os:List De):Prop:=∀x∈os,∃dy nm wd,x= .oth (Ip "happens") dy nm [.str wd]/\0<=dy/\dy < 100000/\Nm nm/\Nm wd
theorem sr:Ip "happens"≠Ip "rule":=OF
theorem HR{ps:List Pp}{os:List De}(gp:mm ps)(hd:∀p∈ps,0<=p.d/\p.d < 100000)(ho:HQ os)(nd:os.Nodup)(ll:ps.length+os.length<=39){n1 k0 k1 w0:Str}{a b:Int}(g1:Nm n1)(h0:Nm k0)(h1:Nm k1)(hw:Nm w0)(a0:0<=a)(a1:a < 1000)(b0:0 < b)(b1:b<=20):
 cG (ps.map De.pap++os++[nL n1 k0 a,nM b k1 k0 w0])/\aU (ps.map De.pap++os++[nL n1 k0 a,nM b k1 k0 w0])=ps:=by
 have pe:aU (ps.map De.pap++os++[nL n1 k0 a,nM b k1 k0 w0])=ps:=by
  unfold aU;rw [LA,LA,LQ,Bg,List.filterMap_eq_nil_iff.mpr λx hx=>by
   obtain⟨_,_,_,rfl,_⟩:=ho x hx;rfl]
  show ps++[]++[]=ps;rw [IW,IW]
 refine⟨⟨⟨by rw [pe];exact gp,λw d nm r h=>?_,by rw [Js,Js,Iw];simp;omega,λx hx=>?_,λx hx=>?_⟩,λd nm r h=>?_,λd nm r h=>?_,?_,λx hx=>?_,λx hx y hy ex ey e1 e2=>?_⟩,pe⟩
 ·rcases oz.mp h with⟨p,_,e⟩ | h | e | e
  ·cases e
  ·obtain⟨_,_,_,e,_⟩:=ho _ h;cases e;decide+kernel
  ·cases e;decide+kernel
  ·cases e;decide+kernel
 ·rcases oz.mp hx with⟨p,_,rfl⟩ | h | rfl | rfl
  ·exact vw
  ·obtain⟨_,_,_,rfl,_⟩:=ho _ h;show IV (Ip "happens")=true;decide+kernel
  ·show IV (Ip "rule")=true;decide+kernel
  ·show IV (Ip "rule")=true;decide+kernel
 ·rcases oz.mp hx with⟨p,hp,rfl⟩ | h | rfl | rfl
  ·exact gp.nm p hp
  ·obtain⟨_,_,_,rfl,_,_,z,_⟩:=ho _ h;exact z.ok
  ·exact g1.ok
  ·exact h1.ok
 ·rcases oz.mp h with⟨p,_,e⟩ | h | e | e
  ·cases e
  ·obtain⟨_,_,wd,e,_,_,_,z⟩:=ho _ h;cases e;exact⟨wd,rfl,z.ok⟩
  ·exact absurd (De.oth.inj e).1 sr
  ·exact absurd (De.oth.inj e).1 sr
 ·rcases oz.mp h with⟨p,_,e⟩ | h | e | e
  ·cases e
  ·obtain⟨_,_,wd,e,_,_,_,z⟩:=ho _ h;exact absurd (De.oth.inj e).1.symm sr
  ·cases e;exact⟨_,rfl,.inl rfl,h0.ok,trivial,a0,a1,.inl rfl⟩
  ·cases e;exact⟨_,rfl,.inr rfl,h0.ok,hw.ok,OG,OG,.inr (.inl rfl)⟩
 ·refine Lx.mpr ⟨Lx.mpr ⟨?_,nd,λx hx y hy e=>?_⟩,?_,λx hx y hy e=>?_⟩
  ·rw [MJ,KC];have:=gp.nd;rw [MJ,KC] at this;exact this.imp λ{a b} z e=>z (by cases e;rfl)
  ·obtain⟨p,_,rfl⟩:=Jy.mp hx;obtain⟨_,_,_,e2,_⟩:=ho _ hy;rw [<-e] at e2;cases e2
  ·refine K2.mpr ⟨λh=>?_,OL⟩;rw [Jv] at h;have:=(De.oth.inj h).2.1;omega
  ·have hy:y=nL n1 k0 a\/y=nM b k1 k0 w0:=by simpa using hy
   rcases Jf.mp hx with h | h
   ·obtain⟨p,_,rfl⟩:=Jy.mp h;rcases hy with z | z <;> rw [z] at e <;> cases e
   ·obtain⟨_,_,_,rfl,_⟩:=ho _ h;rcases hy with z | z <;> rw [z] at e <;> exact absurd (De.oth.inj e).1 sr
 ·rcases oz.mp hx with⟨p,hp,rfl⟩ | h | rfl | rfl
  ·exact hd p hp
  ·obtain⟨_,_,_,rfl,z0,z1,_⟩:=ho _ h;exact⟨z0,z1⟩
  ·exact⟨by show(0:Int)<=0;decide,by show(0:Int) < 100000;decide⟩
  ·exact⟨by show 0<=b;omega,by show b < 100000;omega⟩
 ·have key:∀x,x∈ps.map De.pap++os++[nL n1 k0 a,nM b k1 k0 w0]->x.isE=true->x=nL n1 k0 a\/x=nM b k1 k0 w0:=λx hx ex=>by
   rcases oz.mp hx with⟨p,hp,rfl⟩ | h | rfl | rfl
   ·cases ex
   ·obtain⟨_,_,_,rfl,_⟩:=ho _ h;have:(Ip "happens"==Ip "rule" || Ip "happens"==Ip "end")=true:=ex;exact absurd this OF
   ·exact .inl rfl
   ·exact .inr rfl
  rcases key x hx ex with rfl | rfl <;> rcases key y hy ey with rfl | rfl
  ·rfl
  ·have e1:(0:Int)=b:=e1;omega
  ·have e1:b=(0:Int):=e1;omega
  ·rfl
theorem cG.perm{xs ys:List De}(g:cG xs)(h:ys.Perm xs):cG ys:=
 ⟨g.gx.perm h,λd nm r z=>g.hp d nm r (h.mem_iff.mp z),λd nm r z=>g.ru d nm r (h.mem_iff.mp z),h.nodup_iff.mpr g.nd,λx z=>g.d0 x (h.mem_iff.mp z),λx a y b=>g.re x (h.mem_iff.mp a) y (h.mem_iff.mp b)⟩
theorem Bh{x far:Int}{Q:OM->Prop}:Be [.int x,.int far] Q↔∀d:Int,0<=d->d < 100000->Q (.int d):=by
 constructor
 ·rintro⟨x',far',e,q⟩;exact q
 ·intro q;exact⟨x,far,rfl,q⟩
theorem HS(T:Txt K mg t):az P w K mg base aJ 3 t.a_a t.d_a ["_law_script"] (bA K HP):=by
 have G_S:=@GU P w _ _ base _ T;have G_T:=@GV P w _ _ base _ T;have G_U:=@Hk P w _ _ base _ T;have G_Y:=@HL P w _ _ base _ T;have G_Z:=@HN P w _ _ base _ T;refine T.F_a.F.okD gS (λds Q h=>?_) (λ_ _ _ _ H O ds Q E hr h=>?_)
 ·obtain⟨cs,rfl,_⟩:=h;rfl
 ·obtain⟨cs,rfl,q⟩:=h;refine'⟨_,?A,?B⟩
  case A=>
   refine' av ?C ?D
   case C=>exact(bw (i:=1) gS.nd rfl OK (bo G_T hr T.F_T (af (bo G_S hr T.F_S (af (dv 0) (af ae aq))) (af ae aq))))
   case' D=>refine' av ?E ?F
   case E=>exact(xt (i:=2) (j:=3) rfl gS.nd rfl rfl OG rfl rfl (af (ai aN aQ ae (ai aR aA (ao aE aF (dv 1) ae) ae)) (af (ai aR aA (ao aE aF (dv 1) ae) ae) aq)) (by rfl))
   case' F=>refine' av ?G ?H
   case G=>exact(Fe (i:=4) (j:=5) (k:=6) rfl gS.nd rfl rfl rfl OG OG OG rfl rfl rfl (af (bo G_U hr T.F_U (af (fe (nr (df (dv 1)) (mG ae) mF)) (af (ai aN aQ (dv 2) ae) aq))) (af (bo G_U hr T.F_U (af (fe (nr (df (dv 1)) (mG ae) mF)) (af ae aq))) (af (bo G_U hr T.F_U (af (fe (nr (df (dv 1)) (mG ae) mF)) (af ae aq))) aq))) (by rfl))
   case' H=>refine' av ?I ?J
   case I=>exact(qZ (i:=7) gS.nd rfl OK (cn aq))
   case' J=>refine' av ?K ?L
   case K=>
    refine' p7 JC rfl rfl T.n_range (af (dv 2) aq) ?M bG ?N
    case M=>exact(bC (i:=8) gS.nd rfl OK)
    case' N=>refine' av ?O ?P
    case O=>
     refine' bw (i:=9) gS.nd rfl OK ?Q (hs:=rF)
     case Q=>exact(bo G_T hr T.F_T (af (bo G_S hr T.F_S (af (dv 0) (af (ai aN aQ ae (dv 8)) aq))) (af ae aq)))
    case' P=>refine' aC ?R
    case' R=>refine' n4 (i:=7) (pv 7) ?S
    case' S=>refine' cE ?T
    case' T=>refine' af bD ?U
    case' U=>refine' af ?V ?W
    case V=>exact(bo G_Y hr T.F_Y (af (ao aE aF (dv 9) ae) (af (dv 3) aq)))
    case' W=>refine' af ?X ?Y
    case X=>exact(ao aE aF (dv 4) (dv 8))
    case' Y=>refine' af ?Z ?a
    case Z=>
     refine' ij aE aF (df (dv 5)) ?b
     case b=>exact(df (ai aR aA (ao aE aF (dv 9) ae) ae))
    case a=>refine' af (cE aq) aq
   case' L=>refine' av ?c ?d
   case c=>
    refine' p7 JC rfl rfl T.n_range (af (ai aR aA (ao aE aF (dv 1) ae) ae) aq) ?e bG ?f
    case e=>exact(bC (i:=8) gS.nd rfl OK)
    case' f=>refine' av ?g ?h
    case g=>
     refine' bw (i:=9) gS.nd rfl OK ?i (hs:=rF)
     case i=>exact(bo G_T hr T.F_T (af (bo G_S hr T.F_S (af (dv 0) (af (ai aN aQ ae (dv 8)) aq))) (af ae aq)))
    case' h=>refine' av ?j ?k
    case j=>
     generalize hG35:Expr.Tuple _ _ _=eg35;refine' bw (i:=10) gS.nd rfl OK ?l (hs:=by subst hG35;exact EW)
     case' l=>subst hG35
     refine' cE ?m
     case' m=>refine' af bD ?n
     case' n=>refine' af ?o ?p
     case o=>exact(bo G_Y hr T.F_Y (af (ao aE aF (dv 9) ae) (af (dv 3) aq)))
     case' p=>refine' af ?q ?r
     case q=>
      refine' ij aE aF (df (dv 4)) ?s
      case s=>exact(df (ai aR aA (ao aE aF (dv 9) ae) (ai aN aQ (dv 2) ae)))
     case' r=>refine' af ?t aq
     case' t=>refine' ij aE aF (df (dv 6)) ?u
     case u=>exact(df (ai aR aA (ao aE aF (dv 9) ae) ae))
    case' k=>refine' aC ?v
    case' v=>refine' bZ ?w ?x bY
    case w=>exact(xj (Eu hr) xU (df (dv 10)) (dw 7) rfl)
    case' x=>refine' aC ?y
    case y=>exact(n4 (i:=7) (pv 7) (dv 10))
   case' d=>refine' av ?z ?A0
   case z=>exact(qZ (i:=11) gS.nd rfl OK (cn aq))
   case' A0=>refine' av ?A1 ?A2
   case A1=>
    refine' p7 JC rfl rfl T.n_range (af (ai aN aQ ae (ai aR aA (ao aE aF (dv 1) ae) ae)) aq) ?A3 bG ?A4
    case A3=>exact(bC (i:=8) gS.nd rfl OK)
    case' A4=>refine' aC ?A5
    case' A5=>refine' n4 (i:=11) (pv 11) ?A6
    case A6=>exact(bo G_Z hr T.F_Z (af (bo G_T hr T.F_T (af (bo G_S hr T.F_S (af (dv 0) (af (ai aN aQ ae (dv 8)) aq))) (af ae aq))) (af (dv 5) (af (dv 6) aq))))
   case' A2=>refine' av ?A7 ?A8
   case A7=>
    refine' n4 (i:=7) (pv 7) ?A9
    case' A9=>refine' cE ?AA
    case' AA=>refine' af bD ?AB
    case' AB=>refine' af ae ?AC
    case' AC=>refine' af ?AD ?AE
    case AD=>exact(ao aE aF (dv 4) ae)
    case' AE=>refine' af ?AF aq
    case' AF=>refine' cE ?AG
    case' AG=>refine' af bD ?AH
    case' AH=>refine' af ?AI ?AJ
    case AI=>exact(ao aE aF (dv 5) ae)
    case' AJ=>refine' af ?AK ?AL
    case AK=>exact(cE (af bD aq))
    case' AL=>refine' af ?AM ?AN
    case AM=>exact(ai aR aA (ao aE aF (dv 1) ae) ae)
    case AN=>refine' af bD aq
   case' A8=>refine' av ?AO ?AP
   case AO=>
    refine' n4 (i:=7) (pv 7) ?AQ
    case' AQ=>refine' cE ?AR
    case' AR=>refine' af bD ?AS
    case' AS=>refine' af ?AT ?AU
    case AT=>exact(ai aN aQ ae (ai aR aA (ao aE aF (dv 1) ae) ae))
    case' AU=>refine' af ?AV ?AW
    case AV=>exact(ao aE aF (dv 5) ae)
    case' AW=>refine' af ?AX aq
    case' AX=>refine' cE ?AY
    case' AY=>refine' af bD ?AZ
    case' AZ=>refine' af ?Aa ?Ab
    case Aa=>exact(ao aE aF (dv 5) ae)
    case' Ab=>refine' af ?Ac ?Ad
    case Ac=>exact(cE (af bD (af (ao aE aF (dv 6) ae) aq)))
    case' Ad=>refine' af ae ?Ae
    case Ae=>refine' af bD aq
   case' AP=>refine' av ?Af ?Ag
   case Af=>
    refine' bw (i:=12) gS.nd rfl OK ?Ah (hs:=mf)
    case Ah=>exact(ai aR aA (ao aE aF (dv 1) ae) (ai aN aQ (PE.imp (ck pT rfl T.n_len LY (xn (dw 7) bR)) (bX rj)) ae))
   case' Ag=>refine' aC ?Ai
   case' Ai=>refine' DZ 11 ?Aj
   case' Aj=>refine' bq ?Ak
   case' Ak=>refine' cE ?Al
   case' Al=>refine' af (dv 4) ?Am
   case' Am=>refine' af (dv 11) ?An
   case' An=>refine' af ?Ao aq
   case Ao=>exact(PE.imp (nh tV rfl T.n_tuple pV (bN (fe (D3 (df (fe (nr (dw 7) (mG (dv 12)) mF))) (df (fe (nr (dw 7) mF (mG (dv 12))))))) bR)) (bX uj))
  case B=>
  clear hr T G_S G_T G_U G_Y G_Z;simp only [ox,oy,↓kF,↓kM,↓kN,↓kO,↓kP,↓kT,↓kU,↓kG,↓gf,↓j0,↓lP,↓lQ,↓lR,↓lS,↓lT,↓lU,↓j1,↓j2,↓j3,↓j4,↓j5,↓j6,↓j7,↓j8,↓j9,↓kc,↓ke,↓kh,↓ki,↓kj,↓km,↓ko,↓kq,↓kr,↓ku,↓ky,↓kz,↓kA,↓kC,↓kD,cV,fb,fi,fc,fh,g8,d4,d6,fj,fu,d8,fy,eO,dC,bM,dI,fA,fB,fC,il,fD,cW,fO,fN,ie,fE,dL,d5,eQ,gY,dZ,dM,cz,eR,eS,eT,eU,eV,eX,eZ,gZ,dz,g6,ja,jd,je,jf,jg,jh,ji,jj,jk,jl,jm,jn,jo,jq,jr,jt,ju,jv,jw,jx,jy,jz,jA,jB,jC,jD,jE,jF,jG,jH,jI,jJ,jK,jL,jM,jN,jO,jP,jQ,jR,jS,jT,jU,jc,fH,ig,ip,eD,iB,iw,fF,fG,fI,fJ,fK,fL,fM,eh,iq,fP,iu,dA,hW,hZ,ia,d9,hG,hJ,hU,eg,fw,fx,hV,fT,fX,fY,i6,fZ,i5,i9,fS,iF,iG,iH,cX,iJ,iI,iD,iE,jV,jW,jX,jY,gb,gc,jZ,gh,kH,gi,kI,kJ,kK,kL,gj,kW,gs,gq,gr,gm,gz,kY,gu,kZ,gy,dS,kX,k7,k8,gA,gB,gC,k9,la,gE,lg,gF,gG,lp,lq,gH,gI,lr,lu,lh,lx,lA,lB,lC,gN,gK,gL,gM,lW,gO,gQ,gR,lE,lF,lG,gJ,lI,lJ,lK,lL,lM,lN,lH,lO,iK,iT,iU,iV,iW,iX,iY,iZ,i3,i4,ne_eq,iO,iP,iQ,iR,iS,iL,iM,iN,dO,dB,fz,dN,fq,fm,fk,cq,cf,bH,dn,dG,cS,IA,Jg,IE,Jt,IJ,Jq,Ju,IW,JW,JX,Kp,Kq,Kr,Ji,Ja,JH,JE,JF,JB,exists_eq_left',exists_eq_left,exists_and_left,exists_and_right,JL,JM,Sl.v.injEq,Sl.o.injEq,Sl.k.injEq,Jz,JY,JV,JI,JO,Jn,and_true,true_and,Ks,J5,exists_const,decide_eq_true_eq,Kt,Ku,Kf,Kg,JA,decide_eq_false_iff_not,and_assoc,or_true,true_or,↓reduceIte,if_true,if_false,Jl,JK,not_true_eq_false,not_false_eq_true,Kn,Kh,ite_true,ite_false,eq_self,exists_eq,reduceCtorEq,false_and,and_false,or_false,false_or,exists_false,Ki,Kj,cK,Ky,KL,JN,KN,Kz,Kc,JU,Ke,bO,bS,cA,cL,dP,cM,el,fQ,beq_self_eq_true,iy,iz,iA,bL,O8];intro c0 ys yl yn
  have ix:∀i:Int,0<=i->i < 22->∃v:Int,atI (ys.map Iy) i=some (.int v)/\0<=v:=λi h0 h1=>by
   obtain⟨k,rfl⟩:=Jp h0;have hk:k < ys.length:=OH
   exact⟨ys[k],gX (by simp [hk]),(yn _ (KY hk)).1⟩
  have cut:∀k:Int,0<=k->k<=17->∃(a b c d e:Int)(r:List OM),bI (ys.map Iy) (some k) none= .int a:: .int b:: .int c:: .int d:: .int e::r:=λk h0 h1=>by
   obtain⟨k,rfl⟩:=Jp h0;rw [oR OH (by rw [Iw];omega),<-Oj];have hl:5<=(ys.drop k).length:=by rw [LC];omega
   show ∃a b c d e r,(ys.drop k).map Iy=_
   match ys.drop k,hl with
   | a::b::c::d::e::r,_=>exact⟨a,b,c,d,e,r.map .int,rfl⟩
  obtain⟨x0,e0,p0⟩:=ix 0 OG OG;obtain⟨x1,e1,p1⟩:=ix 1 OG OG;obtain⟨x17,e17,p17⟩:=ix 17 OG OG;obtain⟨x18,e18,p18⟩:=ix 18 OG OG;obtain⟨x19,e19,p19⟩:=ix 19 OG OG;obtain⟨x20,e20,p20⟩:=ix 20 OG OG;obtain⟨x21,e21,p21⟩:=ix 21 OG OG;obtain⟨a2,b2,c2,d2,f2,r2,g2⟩:=cut 2 OG OG;obtain⟨a7,b7,c7,d7,f7,r7,g7⟩:=cut 7 OG OG;obtain⟨a12,b12,c12,d12,f12,r12,g12⟩:=cut 12 OG OG;refine⟨_,e0,_,rfl,_,e1,_,rfl,a2,b2,c2,d2,f2,r2,1+x0 % 4+1,by rw [g2],OH,OH,λss sl sg snd=>⟨a7,b7,c7,d7,f7,r7,3,by rw [g7],OG,OG,λks kl kg _=>⟨a12,b12,c12,d12,f12,r12,2,by rw [g12],OG,OG,λws wl wg _=>⟨OH,OH,?_⟩⟩⟩⟩;clear ix cut g2 g7 g12 yn;refine⟨λi δ=>∃(ps:List Pp)(o8 o9:Option Sl),ps.map (·.nm)=ss.take i/\(∀p∈ps,IV p.kd=true/\p.ms=[]/\0<=p.d/\p.d < 100000)/\δ=[some (Sl.v (cD (cs.map .int))),some (Sl.v (.list (ys.map .int))),some (Sl.v (.int (1+x0 % 4))),some (Sl.v (.int (x1 % 3))),some (Sl.v (.list (ss.map .str))),some (Sl.v (.list (ks.map .str))),some (Sl.v (.list (ws.map .str))),some (Sl.o (ps.map Pp.enc)),o8,o9,none,none,none],⟨[],_,_,rfl,OL,rfl⟩,?_,?_⟩
  ·rintro i z δ hz ⟨ps,o8,o9,hn,hg,rfl⟩;obtain⟨hi,rfl⟩:=n9 hz;simp only [ox,oy,↓kF,↓kM,↓kN,↓kO,↓kP,↓kT,↓kU,↓kG,↓gf,↓j0,↓lP,↓lQ,↓lR,↓lS,↓lT,↓lU,↓j1,↓j2,↓j3,↓j4,↓j5,↓j6,↓j7,↓j8,↓j9,↓kc,↓ke,↓kh,↓ki,↓kj,↓km,↓ko,↓kq,↓kr,↓ku,↓ky,↓kz,↓kA,↓kC,↓kD,cV,fb,fi,fc,fh,g8,d4,d6,fj,fu,d8,fy,eO,dC,bM,dI,fA,fB,fC,il,fD,cW,fO,fN,ie,fE,dL,d5,eQ,gY,dZ,dM,cz,eR,eS,eT,eU,eV,eX,eZ,gZ,dz,g6,ja,jd,je,jf,jg,jh,ji,jj,jk,jl,jm,jn,jo,jq,jr,jt,ju,jv,jw,jx,jy,jz,jA,jB,jC,jD,jE,jF,jG,jH,jI,jJ,jK,jL,jM,jN,jO,jP,jQ,jR,jS,jT,jU,jc,fH,ig,ip,eD,iB,iw,fF,fG,fI,fJ,fK,fL,fM,eh,iq,fP,iu,dA,hW,hZ,ia,d9,hG,hJ,hU,eg,fw,fx,hV,fT,fX,fY,i6,fZ,i5,i9,fS,iF,iG,iH,cX,iJ,iI,iD,iE,jV,jW,jX,jY,gb,gc,jZ,gh,kH,gi,kI,kJ,kK,kL,gj,kW,gs,gq,gr,gm,gz,kY,gu,kZ,gy,dS,kX,k7,k8,gA,gB,gC,k9,la,gE,lg,gF,gG,lp,lq,gH,gI,lr,lu,lh,lx,lA,lB,lC,gN,gK,gL,gM,lW,gO,gQ,gR,lE,lF,lG,gJ,lI,lJ,lK,lL,lM,lN,lH,lO,iK,iT,iU,iV,iW,iX,iY,iZ,i3,i4,ne_eq,iO,iP,iQ,iR,iS,iL,iM,iN,dO,dB,fz,dN,fq,fm,fk,cq,cf,bH,dn,dG,cS,IA,Jg,IE,Jt,IJ,Jq,Ju,IW,JW,JX,Kp,Kq,Kr,Ji,Ja,JH,JE,JF,JB,exists_eq_left',exists_eq_left,exists_and_left,exists_and_right,JL,JM,Sl.v.injEq,Sl.o.injEq,Sl.k.injEq,Jz,JY,JV,JI,JO,Jn,and_true,true_and,Ks,J5,exists_const,decide_eq_true_eq,Kt,Ku,Kf,Kg,JA,decide_eq_false_iff_not,and_assoc,or_true,true_or,↓reduceIte,if_true,if_false,Jl,JK,not_true_eq_false,not_false_eq_true,Kn,Kh,ite_true,ite_false,eq_self,exists_eq,reduceCtorEq,false_and,and_false,or_false,false_or,exists_false,Ki,Kj,cK,Ky,KL,JN,KN,Kz,Kc,JU,Ke,bO,bS,cA,cL,dP,cM,el,fQ,beq_self_eq_true,iy,iz,iA,bL,O8]
   refine⟨OH,OH,λc1 zs zl zn=>?_⟩
   match zs,(show zs.length=2 by omega) with
   | [z0,z1],_=>
   clear zl;have his:i < ss.length:=OH
   have e3:atI (ss.map ID) (0+(i:Int))=some (.str ss[i]):=by
    rw [NK];exact gX (by rw [IS,IQ his];rfl)
   obtain⟨kd,_,e4,gk⟩:=mO kg (i:=z1 % 2) OH OH;refine⟨_,bO,Bh.mpr λdy dy0 dy1=>⟨_,e3,_,bS,_,rfl,_,e4,by rw [Iw];have:=congrArg L6 hn;rw [Iw,KW] at this;omega,ps++[⟨dy,ss[i],kd,[]⟩],?_,λp hp=>?_,by rw [J3];rfl,_,rfl⟩⟩
   ·rw [J3,hn,LW,IQ his];rfl
   ·rcases Jf.mp hp with h | h
    ·exact hg p h
    ·rw [Jv.mp h];exact⟨gk.ok,rfl,dy0,dy1⟩
  ·rintro δ ⟨ps,o8,o9,hn,hg,rfl⟩;rw [qa] at hn;generalize hB:cV (d6 11 _) _=TB;simp only [ox,oy,↓kF,↓kM,↓kN,↓kO,↓kP,↓kT,↓kU,↓kG,↓gf,↓j0,↓lP,↓lQ,↓lR,↓lS,↓lT,↓lU,↓j1,↓j2,↓j3,↓j4,↓j5,↓j6,↓j7,↓j8,↓j9,↓kc,↓ke,↓kh,↓ki,↓kj,↓km,↓ko,↓kq,↓kr,↓ku,↓ky,↓kz,↓kA,↓kC,↓kD,cV,fb,fi,fc,fh,g8,d4,d6,fj,fu,d8,fy,eO,dC,bM,dI,fA,fB,fC,il,fD,cW,fO,fN,ie,fE,dL,d5,eQ,gY,dZ,dM,cz,eR,eS,eT,eU,eV,eX,eZ,gZ,dz,g6,ja,jd,je,jf,jg,jh,ji,jj,jk,jl,jm,jn,jo,jq,jr,jt,ju,jv,jw,jx,jy,jz,jA,jB,jC,jD,jE,jF,jG,jH,jI,jJ,jK,jL,jM,jN,jO,jP,jQ,jR,jS,jT,jU,jc,fH,ig,ip,eD,iB,iw,fF,fG,fI,fJ,fK,fL,fM,eh,iq,fP,iu,dA,hW,hZ,ia,d9,hG,hJ,hU,eg,fw,fx,hV,fT,fX,fY,i6,fZ,i5,i9,fS,iF,iG,iH,cX,iJ,iI,iD,iE,jV,jW,jX,jY,gb,gc,jZ,gh,kH,gi,kI,kJ,kK,kL,gj,kW,gs,gq,gr,gm,gz,kY,gu,kZ,gy,dS,kX,k7,k8,gA,gB,gC,k9,la,gE,lg,gF,gG,lp,lq,gH,gI,lr,lu,lh,lx,lA,lB,lC,gN,gK,gL,gM,lW,gO,gQ,gR,lE,lF,lG,gJ,lI,lJ,lK,lL,lM,lN,lH,lO,iK,iT,iU,iV,iW,iX,iY,iZ,i3,i4,ne_eq,iO,iP,iQ,iR,iS,iL,iM,iN,dO,dB,fz,dN,fq,fm,fk,cq,cf,bH,dn,dG,cS,IA,Jg,IE,Jt,IJ,Jq,Ju,IW,JW,JX,Kp,Kq,Kr,Ji,Ja,JH,JE,JF,JB,exists_eq_left',exists_eq_left,exists_and_left,exists_and_right,JL,JM,Sl.v.injEq,Sl.o.injEq,Sl.k.injEq,Jz,JY,JV,JI,JO,Jn,and_true,true_and,Ks,J5,exists_const,decide_eq_true_eq,Kt,Ku,Kf,Kg,JA,decide_eq_false_iff_not,and_assoc,or_true,true_or,↓reduceIte,if_true,if_false,Jl,JK,not_true_eq_false,not_false_eq_true,Kn,Kh,ite_true,ite_false,eq_self,exists_eq,reduceCtorEq,false_and,and_false,or_false,false_or,exists_false,Ki,Kj,cK,Ky,KL,JN,KN,Kz,Kc,JU,Ke,bO,bS,cA,cL,dP,cM,el,fQ,beq_self_eq_true,iy,iz,iA,bL,O8]
   have hpl:ps.length=(1+x0 % 4).toNat:=by
    have:=congrArg L6 hn;rw [Iw,KW] at this;omega
   have pin:∀p∈ps,p.nm∈ss:=λp hp=>Mm (by rw [<-hn];exact Jy.mpr ⟨p,hp,rfl⟩);have gp:mm ps:=⟨OH,by rw [hn];exact snd.sublist (MB _ _),λp hp=>(sg _ (pin p hp)).ok,λp hp=>(hg p hp).1,λp hp=>by rw [(hg p hp).2.1];exact⟨OL,OL⟩⟩;refine⟨_,e17,_,rfl,OH,OH,?_⟩;refine⟨λi δ=>∃(os:List De)(o8 o9 o10:Option Sl),(∀x∈os,∃dy nm wd,x= .oth (Ip "happens") dy nm [.str wd]/\0<=dy/\dy < 100000/\Nm nm/\Nm wd)/\os.Nodup/\os.length<=i/\δ=[some (Sl.v (cD (cs.map .int))),some (Sl.v (.list (ys.map .int))),some (Sl.v (.int (1+x0 % 4))),some (Sl.v (.int (x1 % 3))),some (Sl.v (.list (ss.map .str))),some (Sl.v (.list (ks.map .str))),some (Sl.v (.list (ws.map .str))),some (Sl.o ((ps.map De.pap++os).map De.enc)),o8,o9,o10,none,none],⟨[],_,_,_,OL,.nil,J1 _,by rw [IW,<-AV]⟩,?_,?_⟩
   ·rintro i z δ hz ⟨os,o8,o9,o10,ho,nd,ol,rfl⟩;obtain⟨hi,rfl⟩:=n9 hz;simp only [ox,oy,↓kF,↓kM,↓kN,↓kO,↓kP,↓kT,↓kU,↓kG,↓gf,↓j0,↓lP,↓lQ,↓lR,↓lS,↓lT,↓lU,↓j1,↓j2,↓j3,↓j4,↓j5,↓j6,↓j7,↓j8,↓j9,↓kc,↓ke,↓kh,↓ki,↓kj,↓km,↓ko,↓kq,↓kr,↓ku,↓ky,↓kz,↓kA,↓kC,↓kD,cV,fb,fi,fc,fh,g8,d4,d6,fj,fu,d8,fy,eO,dC,bM,dI,fA,fB,fC,il,fD,cW,fO,fN,ie,fE,dL,d5,eQ,gY,dZ,dM,cz,eR,eS,eT,eU,eV,eX,eZ,gZ,dz,g6,ja,jd,je,jf,jg,jh,ji,jj,jk,jl,jm,jn,jo,jq,jr,jt,ju,jv,jw,jx,jy,jz,jA,jB,jC,jD,jE,jF,jG,jH,jI,jJ,jK,jL,jM,jN,jO,jP,jQ,jR,jS,jT,jU,jc,fH,ig,ip,eD,iB,iw,fF,fG,fI,fJ,fK,fL,fM,eh,iq,fP,iu,dA,hW,hZ,ia,d9,hG,hJ,hU,eg,fw,fx,hV,fT,fX,fY,i6,fZ,i5,i9,fS,iF,iG,iH,cX,iJ,iI,iD,iE,jV,jW,jX,jY,gb,gc,jZ,gh,kH,gi,kI,kJ,kK,kL,gj,kW,gs,gq,gr,gm,gz,kY,gu,kZ,gy,dS,kX,k7,k8,gA,gB,gC,k9,la,gE,lg,gF,gG,lp,lq,gH,gI,lr,lu,lh,lx,lA,lB,lC,gN,gK,gL,gM,lW,gO,gQ,gR,lE,lF,lG,gJ,lI,lJ,lK,lL,lM,lN,lH,lO,iK,iT,iU,iV,iW,iX,iY,iZ,i3,i4,ne_eq,iO,iP,iQ,iR,iS,iL,iM,iN,dO,dB,fz,dN,fq,fm,fk,cq,cf,bH,dn,dG,cS,IA,Jg,IE,Jt,IJ,Jq,Ju,IW,JW,JX,Kp,Kq,Kr,Ji,Ja,JH,JE,JF,JB,exists_eq_left',exists_eq_left,exists_and_left,exists_and_right,JL,JM,Sl.v.injEq,Sl.o.injEq,Sl.k.injEq,Jz,JY,JV,JI,JO,Jn,and_true,true_and,Ks,J5,exists_const,decide_eq_true_eq,Kt,Ku,Kf,Kg,JA,decide_eq_false_iff_not,and_assoc,or_true,true_or,↓reduceIte,if_true,if_false,Jl,JK,not_true_eq_false,not_false_eq_true,Kn,Kh,ite_true,ite_false,eq_self,exists_eq,reduceCtorEq,false_and,and_false,or_false,false_or,exists_false,Ki,Kj,cK,Ky,KL,JN,KN,Kz,Kc,JU,Ke,bO,bS,cA,cL,dP,cM,el,fQ,beq_self_eq_true,iy,iz,iA,bL,O8]
    refine⟨OH,OH,λc1 zs zl zn=>?_⟩
    match zs,(show zs.length=3 by omega) with
    | [z0,z1,z2],_=>
    clear zl;obtain⟨nm,_,en,gn⟩:=mO sg (i:=z1 % (1+x0 % 4+1)) (KI _ OH) (by have:=KO z1 (show 0 < 1+x0 % 4+1 by omega);omega);obtain⟨wd,_,ew,gw⟩:=mO wg (i:=z2 % 2) OH OH;have okh:IV (Ip "happens")=true:=OF
    have ll:(ps.map De.pap++os).length<=17:=by rw [Js,Iw];omega
    have ly:∀y∈(ps.map De.pap++os).map De.enc,cu 3 y:=λy hy=>by
     obtain⟨x,hx,rfl⟩:=Jy.mp hy;rcases Jf.mp hx with h | h
     ·obtain⟨p,hp,rfl⟩:=Jy.mp h;exact oi (cY (fW vw) (cY ux (cY (fW (gp.nm p hp)) (cY (fW (gp.kd p hp)) (cY (oi (n:=1) (xZ (gp.ms p hp).1)) qm)))))
     ·obtain⟨dy,nm,wd,rfl,_,_,a,b⟩:=ho x h;exact oi (cY (fW okh) (cY ux (cY (fW a.ok) (cY (fW b.ok) qm))))
    refine⟨_,bO,Bh.mpr λdy dy0 dy1=>⟨_,bS,_,rfl,OH,_,en,_,cA,_,rfl,_,ew,(oi (n:=1) (cY (fW okh) (cY ux (cY (fW gn.ok) (cY (fW gw.ok) qm))))).shp OG,(rA ly).1,?_⟩⟩;split
    ·rename_i hne;refine⟨by rw [Iw];omega,os++[.oth (Ip "happens") dy nm [.str wd]],λx hx=>?_,?_,by simp;omega,by simp only [J3,MD,IA,Jg];rfl,_,rfl⟩
     ·rcases Jf.mp hx with h | h
      ·exact ho x h
      ·exact⟨dy,nm,wd,Jv.mp h,dy0,dy1,gn,gw⟩
     ·refine Lx.mpr ⟨nd,OL,λa ha b hb e=>?_⟩;rw [Jv] at hb;rw [e,hb] at ha;have:=NM.mp hne _ (Jy.mpr ⟨_,Jo _ ha,rfl⟩);exact this (by simp [De.enc,IL,L9])
    ·exact⟨os,ho,nd,OH,rfl,_,rfl⟩
   ·rintro δ ⟨os,o8,o9,o10,ho,nd,ol,rfl⟩;rw [qa] at ol;subst hB;simp only [ox,oy,↓kF,↓kM,↓kN,↓kO,↓kP,↓kT,↓kU,↓kG,↓gf,↓j0,↓lP,↓lQ,↓lR,↓lS,↓lT,↓lU,↓j1,↓j2,↓j3,↓j4,↓j5,↓j6,↓j7,↓j8,↓j9,↓kc,↓ke,↓kh,↓ki,↓kj,↓km,↓ko,↓kq,↓kr,↓ku,↓ky,↓kz,↓kA,↓kC,↓kD,cV,fb,fi,fc,fh,g8,d4,d6,fj,fu,d8,fy,eO,dC,bM,dI,fA,fB,fC,il,fD,cW,fO,fN,ie,fE,dL,d5,eQ,gY,dZ,dM,cz,eR,eS,eT,eU,eV,eX,eZ,gZ,dz,g6,ja,jd,je,jf,jg,jh,ji,jj,jk,jl,jm,jn,jo,jq,jr,jt,ju,jv,jw,jx,jy,jz,jA,jB,jC,jD,jE,jF,jG,jH,jI,jJ,jK,jL,jM,jN,jO,jP,jQ,jR,jS,jT,jU,jc,fH,ig,ip,eD,iB,iw,fF,fG,fI,fJ,fK,fL,fM,eh,iq,fP,iu,dA,hW,hZ,ia,d9,hG,hJ,hU,eg,fw,fx,hV,fT,fX,fY,i6,fZ,i5,i9,fS,iF,iG,iH,cX,iJ,iI,iD,iE,jV,jW,jX,jY,gb,gc,jZ,gh,kH,gi,kI,kJ,kK,kL,gj,kW,gs,gq,gr,gm,gz,kY,gu,kZ,gy,dS,kX,k7,k8,gA,gB,gC,k9,la,gE,lg,gF,gG,lp,lq,gH,gI,lr,lu,lh,lx,lA,lB,lC,gN,gK,gL,gM,lW,gO,gQ,gR,lE,lF,lG,gJ,lI,lJ,lK,lL,lM,lN,lH,lO,iK,iT,iU,iV,iW,iX,iY,iZ,i3,i4,ne_eq,iO,iP,iQ,iR,iS,iL,iM,iN,dO,dB,fz,dN,fq,fm,fk,cq,cf,bH,dn,dG,cS,IA,Jg,IE,Jt,IJ,Jq,Ju,IW,JW,JX,Kp,Kq,Kr,Ji,Ja,JH,JE,JF,JB,exists_eq_left',exists_eq_left,exists_and_left,exists_and_right,JL,JM,Sl.v.injEq,Sl.o.injEq,Sl.k.injEq,Jz,JY,JV,JI,JO,Jn,and_true,true_and,Ks,J5,exists_const,decide_eq_true_eq,Kt,Ku,Kf,Kg,JA,decide_eq_false_iff_not,and_assoc,or_true,true_or,↓reduceIte,if_true,if_false,Jl,JK,not_true_eq_false,not_false_eq_true,Kn,Kh,ite_true,ite_false,eq_self,exists_eq,reduceCtorEq,false_and,and_false,or_false,false_or,exists_false,Ki,Kj,cK,Ky,KL,JN,KN,Kz,Kc,JU,Ke,bO,bS,cA,cL,dP,cM,el,fQ,beq_self_eq_true,iy,iz,iA,bL,O8]
    refine⟨_,e18,_,rfl,OH,OH,?_⟩;refine⟨λi δ=>∃(pts:List Pt)(o8:Option Sl),Bf pts/\pts.length=i/\δ=[some (Sl.v (cD (cs.map .int))),some (Sl.v (.list (ys.map .int))),some (Sl.v (.int (1+x0 % 4))),some (Sl.v (.int (x1 % 3))),some (Sl.v (.list (ss.map .str))),some (Sl.v (.list (ks.map .str))),some (Sl.v (.list (ws.map .str))),some (Sl.o ((ps.map De.pap++os).map De.enc)),o8,o9,o10,some (Sl.o (pts.map Pt.enc)),none],⟨[],_,λp hp=>(by cases hp),rfl,rfl⟩,?_,?_⟩
    ·rintro i z δ hz ⟨pts,o8,hp,hpl2,rfl⟩;obtain⟨hi,rfl⟩:=n9 hz;simp only [ox,oy,↓kF,↓kM,↓kN,↓kO,↓kP,↓kT,↓kU,↓kG,↓gf,↓j0,↓lP,↓lQ,↓lR,↓lS,↓lT,↓lU,↓j1,↓j2,↓j3,↓j4,↓j5,↓j6,↓j7,↓j8,↓j9,↓kc,↓ke,↓kh,↓ki,↓kj,↓km,↓ko,↓kq,↓kr,↓ku,↓ky,↓kz,↓kA,↓kC,↓kD,cV,fb,fi,fc,fh,g8,d4,d6,fj,fu,d8,fy,eO,dC,bM,dI,fA,fB,fC,il,fD,cW,fO,fN,ie,fE,dL,d5,eQ,gY,dZ,dM,cz,eR,eS,eT,eU,eV,eX,eZ,gZ,dz,g6,ja,jd,je,jf,jg,jh,ji,jj,jk,jl,jm,jn,jo,jq,jr,jt,ju,jv,jw,jx,jy,jz,jA,jB,jC,jD,jE,jF,jG,jH,jI,jJ,jK,jL,jM,jN,jO,jP,jQ,jR,jS,jT,jU,jc,fH,ig,ip,eD,iB,iw,fF,fG,fI,fJ,fK,fL,fM,eh,iq,fP,iu,dA,hW,hZ,ia,d9,hG,hJ,hU,eg,fw,fx,hV,fT,fX,fY,i6,fZ,i5,i9,fS,iF,iG,iH,cX,iJ,iI,iD,iE,jV,jW,jX,jY,gb,gc,jZ,gh,kH,gi,kI,kJ,kK,kL,gj,kW,gs,gq,gr,gm,gz,kY,gu,kZ,gy,dS,kX,k7,k8,gA,gB,gC,k9,la,gE,lg,gF,gG,lp,lq,gH,gI,lr,lu,lh,lx,lA,lB,lC,gN,gK,gL,gM,lW,gO,gQ,gR,lE,lF,lG,gJ,lI,lJ,lK,lL,lM,lN,lH,lO,iK,iT,iU,iV,iW,iX,iY,iZ,i3,i4,ne_eq,iO,iP,iQ,iR,iS,iL,iM,iN,dO,dB,fz,dN,fq,fm,fk,cq,cf,bH,dn,dG,cS,IA,Jg,IE,Jt,IJ,Jq,Ju,IW,JW,JX,Kp,Kq,Kr,Ji,Ja,JH,JE,JF,JB,exists_eq_left',exists_eq_left,exists_and_left,exists_and_right,JL,JM,Sl.v.injEq,Sl.o.injEq,Sl.k.injEq,Jz,JY,JV,JI,JO,Jn,and_true,true_and,Ks,J5,exists_const,decide_eq_true_eq,Kt,Ku,Kf,Kg,JA,decide_eq_false_iff_not,and_assoc,or_true,true_or,↓reduceIte,if_true,if_false,Jl,JK,not_true_eq_false,not_false_eq_true,Kn,Kh,ite_true,ite_false,eq_self,exists_eq,reduceCtorEq,false_and,and_false,or_false,false_or,exists_false,Ki,Kj,cK,Ky,KL,JN,KN,Kz,Kc,JU,Ke,bO,bS,cA,cL,dP,cM,el,fQ,beq_self_eq_true,iy,iz,iA,bL,O8]
     refine⟨OH,OH,λc1 zs zl zn=>⟨zs,ks,ws,rfl,OH,zn,kg,OH,wg,OH,λwo kd s k u ok=>⟨by rw [Iw];omega,pts++[.five wo kd s k u],λp hp'=>?_,by simp;omega,by rw [J3];rfl⟩⟩⟩;rcases Jf.mp hp' with h | h
     ·exact hp p h
     ·rw [Jv.mp h];exact⟨ok,_,_,_,_,_,rfl⟩
    ·rintro δ ⟨pts,o8,hp,hpl2,rfl⟩;rw [qa] at hpl2;simp only [ox,oy,↓kF,↓kM,↓kN,↓kO,↓kP,↓kT,↓kU,↓kG,↓gf,↓j0,↓lP,↓lQ,↓lR,↓lS,↓lT,↓lU,↓j1,↓j2,↓j3,↓j4,↓j5,↓j6,↓j7,↓j8,↓j9,↓kc,↓ke,↓kh,↓ki,↓kj,↓km,↓ko,↓kq,↓kr,↓ku,↓ky,↓kz,↓kA,↓kC,↓kD,cV,fb,fi,fc,fh,g8,d4,d6,fj,fu,d8,fy,eO,dC,bM,dI,fA,fB,fC,il,fD,cW,fO,fN,ie,fE,dL,d5,eQ,gY,dZ,dM,cz,eR,eS,eT,eU,eV,eX,eZ,gZ,dz,g6,ja,jd,je,jf,jg,jh,ji,jj,jk,jl,jm,jn,jo,jq,jr,jt,ju,jv,jw,jx,jy,jz,jA,jB,jC,jD,jE,jF,jG,jH,jI,jJ,jK,jL,jM,jN,jO,jP,jQ,jR,jS,jT,jU,jc,fH,ig,ip,eD,iB,iw,fF,fG,fI,fJ,fK,fL,fM,eh,iq,fP,iu,dA,hW,hZ,ia,d9,hG,hJ,hU,eg,fw,fx,hV,fT,fX,fY,i6,fZ,i5,i9,fS,iF,iG,iH,cX,iJ,iI,iD,iE,jV,jW,jX,jY,gb,gc,jZ,gh,kH,gi,kI,kJ,kK,kL,gj,kW,gs,gq,gr,gm,gz,kY,gu,kZ,gy,dS,kX,k7,k8,gA,gB,gC,k9,la,gE,lg,gF,gG,lp,lq,gH,gI,lr,lu,lh,lx,lA,lB,lC,gN,gK,gL,gM,lW,gO,gQ,gR,lE,lF,lG,gJ,lI,lJ,lK,lL,lM,lN,lH,lO,iK,iT,iU,iV,iW,iX,iY,iZ,i3,i4,ne_eq,iO,iP,iQ,iR,iS,iL,iM,iN,dO,dB,fz,dN,fq,fm,fk,cq,cf,bH,dn,dG,cS,IA,Jg,IE,Jt,IJ,Jq,Ju,IW,JW,JX,Kp,Kq,Kr,Ji,Ja,JH,JE,JF,JB,exists_eq_left',exists_eq_left,exists_and_left,exists_and_right,JL,JM,Sl.v.injEq,Sl.o.injEq,Sl.k.injEq,Jz,JY,JV,JI,JO,Jn,and_true,true_and,Ks,J5,exists_const,decide_eq_true_eq,Kt,Ku,Kf,Kg,JA,decide_eq_false_iff_not,and_assoc,or_true,true_or,↓reduceIte,if_true,if_false,Jl,JK,not_true_eq_false,not_false_eq_true,Kn,Kh,ite_true,ite_false,eq_self,exists_eq,reduceCtorEq,false_and,and_false,or_false,false_or,exists_false,Ki,Kj,cK,Ky,KL,JN,KN,Kz,Kc,JU,Ke,bO,bS,cA,cL,dP,cM,el,fQ,beq_self_eq_true,iy,iz,iA,bL,O8]
     have n3:2<=ss.length:=OH
     obtain⟨n1,_,en1,gn1⟩:=mO sg (i:=0) OG OH;obtain⟨k0,_,ek0,gk0⟩:=mO kg (i:=0) OG OH;obtain⟨k1,_,ek1,gk1⟩:=mO kg (i:=1) OG OH;obtain⟨w0,_,ew0,gw0⟩:=mO wg (i:=0) OG OH;refine⟨_,en1,_,ek0,_,e20,_,rfl,by rw [Iw,Js,Iw];omega,_,e21,_,rfl,_,ek1,_,ek0,_,ew0,by rw [Js,Iw,Js,Iw];simp;omega,_,e19,_,rfl,?_⟩;obtain⟨gd,pe⟩:=HR gp (λp hp=>(hg p hp).2.2) ho nd OH gn1 gk0 gk1 gw0 (a:=x20 % 1000) (b:=1+x21 % 20) OH OH OH OH;have hz:JG De.enc (JG De.pap ps++os)++[I0 [ID (Ip "rule"),Iy 0,.str n1,I0 [ID (Ip "keep"),.str k0,I0 [ID (Ip "coming")],Iy (x20 % 1000),ID (Ip "days")]]]++[I0 [ID (Ip "rule"),Iy (1+x21 % 20),.str k1,I0 [ID (Ip "gone"),.str k0,I0 [ID (Ip "last"),.str w0],Iy 3,ID (Ip "months")]]]=
      (ps.map De.pap++os++[nL n1 k0 (x20 % 1000),nM (1+x21 % 20) k1 k0 w0]).map De.enc:=by
      simp only [J3,MD,IA,Jg];rfl
     rw [hz];clear hz;generalize ps.map De.pap++os++[nL n1 k0 (x20 % 1000),nM (1+x21 % 20) k1 k0 w0]=zs at gd pe⊢;have ll:(zs.map De.enc).length=zs.length:=Iw _;have yl:=gd.gx.ln;generalize htn:x19 % (((zs.map De.enc).length:Int)+1)=tn;have t0:0<=tn:=by rw [<-htn];exact KI _ OH
     have t1:tn < ((zs.map De.enc).length:Int)+1:=by rw [<-htn];exact KO _ OH
     refine⟨OH,?_⟩;rw [oR t0 OH,nt t0 OH];refine⟨by rw [LC,KW];omega,?_⟩;rw [<-Oj,<-My,<-J3];have hpm:(zs.drop tn.toNat++zs.take tn.toNat).Perm zs:=by
      refine List.perm_append_comm.trans ?_;rw [List.take_append_drop]
     have ppm:∀p,p∈aU (zs.drop tn.toNat++zs.take tn.toNat)↔p∈ps:=λp=>by
      rw [<-pe];unfold aU;exact(hpm.filterMap _).mem_iff
     obtain⟨si,sl,es⟩:∃(si:List Str)(sl:Str),ss=si++[sl]:=by
      rcases Mf ss with e | ⟨l',a,e⟩
      ·rw [e] at n3;simp at n3
      ·exact⟨l',a,by rw [e,Mg]⟩
     have hsi:ps.map (·.nm)=si:=by
      rw [hn,es,List.take_append_of_le_length,Kl]
      ·have:=congrArg L6 es;simp at this;omega
      ·have:=congrArg L6 es;simp at this;omega
     refine q ss pts _ (gd.perm hpm) sg n3 OH (λp h=>pin p ((ppm p).mp h)) ⟨sl,by rw [es];simp,by rw [es,J3];exact tT,λp h e=>?_⟩ hp OH OH;rw [es] at snd;exact(Lx.mp snd).2.2 _ (by rw [<-hsi];exact Jy.mpr ⟨p,(ppm p).mp h,rfl⟩) sl OL e
end
theorem Bi:bz (aw rW) ["_law_told","_law_due_here"] ["_law_k","_law_told","_law_due_here"] 1 [0,1] ⟨IX,[ (Iu ".0",Ql),(Iu "_law_k",Ql),(Iu "_law_is",K4),(Iu "_law_due_here",Jd),(Iu "_law_told",Jd)],false,false,[]⟩:= .of
section
variable {P:OZ} {w:O4} {K:Iq} {mg:Str->Option ON} {base:O3} {t:dU}
theorem HU{k:Nat}{f:OO}{fd:OX}{ps:List Str}:az P w K mg base aJ k f fd ps (bA K λ_ _=>False):=⟨λvs H Q E uu31=>by obtain⟨_,_,_,_,_,h,_⟩:=uu31;exact h.elim,λ_ _ _ _ _ _ _ _ _ _ _ _ _ uu32=>by obtain⟨_,_,_,_,_,h,_⟩:=uu32;exact h.elim⟩
def HV(x:OM):Prop:=x= .none\/(∃i,x= .int i)\/(∃s,x= .str s/\IV s=true)\/∃b,x= .bool b
def vC:Nat->OM->Prop
 | 0,_=>False
 | n+1,d=>HV d\/∃ds,d= .tuple ds/\ds.length<=1000/\∀x∈ds,vC n x
def su(n:Nat):List OM->(OM->Prop)->Prop:=λds Q=>∃x,ds=[x,x]/\vC n x/\Q (.bool true)
theorem sv{d n:Nat}(T:Txt K mg t)(G_c:az P w K mg base aJ d t.a_c t.d_c ["_law_told","_law_due_here"] (bA K (su n))):
 az P w K mg base aJ (d+1) t.a_c t.d_c ["_law_told","_law_due_here"] (bA K (su (n+1))):=by
 refine T.F_c.F.okD Gz (λds Q h=>?_) (λ_ _ _ _ H O ds Q E hr h=>?_)
 ·obtain⟨x,rfl,_⟩:=h;rfl
 ·obtain⟨x,rfl,hx,q⟩:=h;refine'⟨_,?A,?B⟩
  case A=>
   refine' av ?C ?D
   case C=>
    refine' bZ ?E ?F bY
    case E=>exact(oO (nA (K':=K) (T:="tuple") rfl rfl T.n_isinstance l4 (df (dv 1)) (mS (v:= .ty "tuple") rfl T.n_tuple pV rfl)))
    case' F=>refine' av ?G ?H
    case G=>
     refine' bZ ?I ?J bY
     case I=>exact(PW.pt (uh (qY (oO (nA (K':=K) (T:="tuple") rfl rfl T.n_isinstance l4 (df (dv 0)) (mS (v:= .ty "tuple") rfl T.n_tuple pV rfl)))) (ug (br (xy hr.units) xA (PE.imp (ck pT rfl T.n_len LY (bN (dv 0) bR)) (bX rj)) (PE.imp (ck pT rfl T.n_len LY (bN (dv 1) bR)) (bX rj)) (aG _)))))
     case J=>refine' aC (bq nj)
    case' H=>refine' aC ?K
    case' K=>refine' bq ?L
    case L=>exact(PE.imp (ck (Dp rfl) rfl T.n_all DC (bN (fe (xv rfl Bi rfl T.n_range (bN (PE.imp (ck pT rfl T.n_len LY (bN (dv 1) bR)) (bX rj)) bR) bG ib OG (λ_ _ _ _=>(bC (i:=0) Bi.nd rfl OK)) (λ_ _ _ _=>um) (λ_ _ _ _=>(PE.imp (dF G_c (hr.mono (IB _)) rfl T.F_c (af (ao aO aW (dv 1) (dv 0)) (af (ao aO aW (dv 2) (dv 0)) aq))) xk)))) bR)) (bX D5))
   case' D=>refine' av ?M ?N
   case M=>
    refine' bZ ?O ?P bY
    case O=>exact(br tG uA (dv 1) nY (aG _))
    case' P=>refine' aC ?Q
    case Q=>exact(bq (l7 tG uA (df (dv 0)) (df nY) (aG _)))
   case' N=>refine' av ?R ?S
   case R=>
    refine' bZ ?T ?U bY
    case T=>exact(oO (nA (K':=K) (T:="bool") rfl rfl T.n_isinstance l4 (df (dv 1)) (mS (v:= .ty "bool") rfl T.n_bool ua rfl)))
    case' U=>refine' aC ?V
    case' V=>refine' bq ?W
    case W=>exact(pX (nA (K':=K) (T:="bool") rfl rfl T.n_isinstance l4 (df (dv 0)) (mS (v:= .ty "bool") rfl T.n_bool ua rfl)) (pW (l7 (dD hr.units) dE (df (dv 0)) (df (dv 1)) (aG _))))
   case' S=>refine' av ?X ?Y
   case X=>
    refine' bZ ?Z ?a bY
    case Z=>exact(oO (nA (K':=K) (T:="int") rfl rfl T.n_isinstance l4 (df (dv 1)) (mS (v:= .ty "int") rfl T.n_int nU rfl)))
    case' a=>refine' aC ?b
    case' b=>refine' bq ?c
    case c=>exact(pX (nA (K':=K) (T:="int") rfl rfl T.n_isinstance l4 (df (dv 0)) (mS (v:= .ty "int") rfl T.n_int nU rfl)) (pX (DU (nA (K':=K) (T:="bool") rfl rfl T.n_isinstance l4 (df (dv 0)) (mS (v:= .ty "bool") rfl T.n_bool ua rfl))) (pW (l7 (dD hr.units) dE (df (dv 0)) (df (dv 1)) (aG _)))))
   case' Y=>refine' aC ?d
   case' d=>refine' bq ?e
   case e=>exact(pX (nA (K':=K) (T:="str") rfl rfl T.n_isinstance l4 (df (dv 0)) (mS (v:= .ty "str") rfl T.n_str Dc rfl)) (pW (l7 (dD hr.units) dE (df (dv 0)) (df (dv 1)) (aG _))))
  case B=>
  clear hr T G_c;rcases hx with(rfl | ⟨i,rfl⟩ | ⟨s,rfl,hs⟩ | ⟨b,rfl⟩) | ⟨xs,rfl,hl,hF⟩ <;> walk_at "d" <;> simp only [EJ,EI,EH,EG]
  ·simpa [oT,mh,qj,qi,el,Ko,Jk,Lb] using q
  ·simpa [oT,rE,mh,qj,qi,el,Ko,Jk,Lb] using q
  ·simpa [oT,rE,mh,qj,qi,cM,hs,Ko,Jk,Lb] using q
  ·simpa [oT,rE,mh,qj,qi,fQ,Ko,Jk,Lb] using q
  ·simp only [oT];walk_at "d";refine⟨OL,OL,OH,OH,EL (p:=λb=>Q (.bool b)) (λ_=>true) (λx hx R hR=>?_) ?_⟩
   ·obtain⟨i,hi⟩:=List.getElem?_of_mem hx;obtain⟨hlt,rfl⟩:=n9 hi;have hj:i < xs.length:=OH
    have ha:atI xs (0+(i:Int))=some xs[i]:=by rw [NK];exact gX (by simp [hj])
    walk_at "d";exact⟨xs[i],ha,xs[i],ha,_,rfl,hF _ (KY hj),hR⟩
   ·have e:∀l:List OM,((l.map λ_=>true).all id)=true:=λl=>by rw [List.all_map];exact K7.mpr λ_ _=>rfl
    rw [e];exact q
theorem HW(T:Txt K mg t):az P w K mg base aJ 5 t.a_c t.d_c ["_law_told","_law_due_here"] (bA K (su 0)):=az.imp HU λvs H Q E uu33=>by obtain⟨O,ds,Qd,a,b,⟨x,_,h,_⟩,_⟩:=uu33;exact h.elim
theorem HX(T:Txt K mg t):az P w K mg base aJ 9 t.a_c t.d_c ["_law_told","_law_due_here"] (bA K (su 4)):=sv T (sv T (sv T (sv T (HW T))))
end
theorem Bj:bz (aw qw) ["_law_deeds","_law_part","_law_paper","_law_day_here","_law_some","_law_told"] ["_law_deed","_law_paper","_law_part"] 1 [2,1] ⟨IX,[ (Iu ".0",Ql),(Iu "_law_deed",Ql),(Iu "_law_paper",Jd),(Iu "_law_part",Jd)],false,false,[]⟩:= .of
theorem Bk:bz (aw qw) ["_law_deeds","_law_part","_law_paper","_law_day_here","_law_some","_law_told"] ["_law_deed","_law_day_here"] 1 [3] ⟨IX,[ (Iu ".0",Ql),(Iu "_law_deed",Ql),(Iu "_law_day_here",Jd)],false,false,[]⟩:= .of
section
def pq(x:Int×Str):List (Int×Str)->List (Int×Str)
 | []=>[x]
 | y::l=>if aD x y=true then x::y::l else y::pq x l
theorem vD(x:Int×Str):∀l,(pq x l).Perm (x::l)
 | []=>.refl _
 | y::l=>by
  unfold pq;split
  ·exact .refl _
  ·exact((vD x l).cons y).trans (.swap x y l)
theorem Bl{x:Int×Str}:∀{l:List (Int×Str)},(∀y∈l,y≠x)->l.Pairwise (λa b=>aD a b=true)->(pq x l).Pairwise λa b=>aD a b=true
 | [],_,_=>MT _ _
 | y::l,hn,h=>by
  have hp:=Jw.mp h;unfold pq;split
  ·rename_i hl;refine Jw.mpr ⟨λz hz=>?_,h⟩;rcases IP.mp hz with e | e
   ·subst e;exact hl
   ·exact vn hl (hp.1 z e)
  ·rename_i hl;refine Jw.mpr ⟨λz hz=>?_,Bl (λz hz=>hn z (by simp [hz])) hp.2⟩;rcases IP.mp ((vD x l).mem_iff.mp hz) with e | e
   ·subst e;rcases AQ (a:=y) (b:=z) (hn y OL) with w | w
    ·exact w
    ·exact absurd w hl
   ·exact hp.1 z e
theorem Bm:∀{l:List (Int×Str)},l.Nodup->∃s:List (Int×Str),s.Perm l/\s.Pairwise λa b=>aD a b=true
 | [],_=>⟨[],.refl _,.nil⟩
 | x::l,nd=>by
  rw [K2] at nd;obtain⟨s,h1,h2⟩:=Bm nd.2;exact⟨pq x s,(vD x s).trans (h1.cons x),Bl (λy hy e=>nd.1 (by rw [<-e];exact h1.mem_iff.mp hy)) h2⟩
theorem Bn{l:List (Int×Str)}(nd:l.Nodup):(mL l).Perm l/\(mL l).Pairwise λa b=>aD a b=true:=by
 obtain⟨s,h1,h2⟩:=Bm nd;rw [<-A8 h1 h2];exact⟨h1,h2⟩
def bV(nm wd:Str)(x:De):Bool:=eM nm x && (nK x).2==wd
theorem sA{xs:List De}(g:cG xs)(c:Pp)(wd:Str)(n:Int):(di (eN xs c) wd n).Perm (((xs.filter (bV c.nm wd)).map λx=>x.d).filter λz=>decide (z<=n)):=by
 have e:((dh xs c.nm).filter λz=>z.2==wd).map (·.1)=(xs.filter (bV c.nm wd)).map λx=>x.d:=by
  unfold dh;rw [LN,Kx,Lu];have e1:xs.filter (λa=>((λz:Int×Str=>z.2==wd)∘ nK) a && eM c.nm a)=xs.filter (bV c.nm wd):=by
   congr 1;funext a;unfold bV;rw [Oi];rfl
  rw [e1];refine Nl λx hx=>?_;cases x with
  | pap p=>rfl
  | oth w d nm r=>
   show(nK (De.oth w d nm r)).1=d;unfold nK;split
   ·rename_i h;cases h;rfl
   ·rfl
 have p:=(Bn (vA g c.nm)).1;have p2:=((p.filter λz=>z.2==wd).map (·.1)).filter λz=>decide (z<=n);rw [e] at p2;exact p2
theorem sC{xs:List De}(g:cG xs)(c:Pp)(wd:Str)(n:Int):(di (eN xs c) wd n).Pairwise (·<=·):=by
 unfold di pf;refine M9 Lk ?_;rw [KC];refine M9 Lk ((Bn (vA g c.nm)).2.imp λ{a b} h=>?_);unfold aD at h;simp only [MZ,Kk,decide_eq_true_eq] at h;rcases h with h | h <;> omega
theorem HY{l m:List Int}{M:Int}(up:l.Pairwise (·<=·))(p:l.Perm m)(h1:M∈m)(h2:∀a∈m,M<=a):l.head?=some M:=by
 cases l with
 | nil=>rw [<-p.nil_eq] at h1;cases h1
 | cons a l=>
  have ha:M<=a:=h2 a (p.mem_iff.mp OL);have hm:M∈a::l:=p.mem_iff.mpr h1;rcases IP.mp hm with e | e
  ·rw [e];rfl
  ·have:=(Jw.mp up).1 M e;show some a=some M;rw [M3 this ha]
theorem HZ{l m:List Int}{M:Int}(up:l.Pairwise (·<=·))(p:l.Perm m)(h1:M∈m)(h2:∀a∈m,a<=M):l.getLast?=some M:=by
 rcases Mf l with e | ⟨l',a,e⟩
 ·subst e;rw [<-p.nil_eq] at h1;cases h1
 ·rw [Mg] at e;subst e;rw [Nk];have ha:a<=M:=h2 a (p.mem_iff.mp OL);have hm:M∈l'++[a]:=p.mem_iff.mpr h1;rcases Jf.mp hm with e | e
  ·have:=(List.pairwise_append.mp up).2.2 M e a OL;rw [M3 ha this]
  ·rw [Jv.mp e]
theorem Bo{xs:List De}(g:cG xs){nm wd:Str}{n M:Int}(h:M∈((xs.filter (bV nm wd)).map λx=>x.d).filter λz=>decide (z<=n)):0<=M:=by
 obtain⟨x,hx,rfl⟩:=Jy.mp (JS.mp h).1;exact(g.d0 x (JS.mp hx).1).1
end
section
variable {P:OZ} {w:O4} {K:Iq} {mg:Str->Option ON} {base:O3} {t:dU}
theorem Ia{n:Nat}{ds:List OM}(h:∀d∈ds,cu n d):cu (n+1) (.list ds):=by
 have:=oi h;exact⟨by have:=this.can;simpa [Jk] using this,by have:=this.dep;simpa [Lb] using this⟩
theorem Ib(ns:List Int):cu 2 (.list (ns.map Iy)):=Ia λd hd=>by
 obtain⟨i,_,rfl⟩:=Jy.mp hd;exact xR
theorem vE{Q:OM->Prop}{k:Int}{u:Str}(hu:nH u)(k0:0<=k)(k1:k < 1000){ns:List Int}{j:Int}{ob:Option Int}(h:∀M M1:Int,M∈ns->(∀a∈ns,M<=a)->M1∈ns->(∀a∈ns,a<=M1)->∃b:Int,atI [Iy M,Iy M1] j=some (.int b)/\ob=some b/\0<=b)(h0:ns=[]->ob=none)(q:Q (gU (ob.map λb=>qz b k u))):
 Ko (IY (ns.map Iy))=true/\Ko (IY [])=true/\if (IY (ns.map Iy)).eqv (IY [])=true then Q M6 else ∃ns_1,ns.map Iy=JG Iy ns_1/\¬ns_1=[]/\∀(M:Int),M∈ns_1->(∀(a:Int),a∈ns_1->M<=a)->∃ns_2,ns.map Iy=JG Iy ns_2/\¬ns_2=[]/\∀(M_1:Int),M_1∈ns_2->(∀(a:Int),a∈ns_2->a<=M_1)->∃d,atI [Iy M,Iy M_1] j=some d/\AM [d,Iy k,ID u] Q:=by
 refine⟨(Ib ns).shp OG,OF,?_⟩;cases ns with
 | nil=>
  rw [OJ (by simp [IL,L9])];rw [h0 rfl] at q;exact q
 | cons a l=>
  rw [OI (by simp [IL,L9])];refine⟨a::l,rfl,OL,λM h1 h2=>⟨a::l,rfl,OL,λM1 h3 h4=>?_⟩⟩;obtain⟨b,e1,e2,e3⟩:=h M M1 h1 h2 h3 h4;rw [e2] at q;exact⟨_,e1,b,k,u,rfl,hu,e3,k0,k1,λr hr=>by rw [Bb hr];exact q⟩
theorem Bp{xs:List De}(g:cG xs){c:Pp}(hc:c∈aU xs){wd w nm:Str}(sok:IV wd=true){d:Int}{r:List OM}(hx:De.oth w d nm r∈xs){R:OM->Prop}{S X:Prop}(h:if bV c.nm wd (.oth w d nm r)=true then R (De.oth w d nm r).enc else S)
 (q:(if (w==Ip "happens")=true then Ko (ID nm)=true/\Ko (ID c.nm)=true/\if (nm==c.nm)=true then ∃d_1,atI (ID w::Iy d::ID nm::r) 3=some d_1/\Ko d_1=true/\Ko (ID wd)=true/\if d_1.eqv (ID wd)=true then R (I0 (ID w::Iy d::ID nm::r)) else S else S else S)->X):X:=by
 refine q ?_;by_cases e:w=Ip "happens"
 ·subst e;obtain⟨wd',rfl,wok⟩:=g.hp _ _ _ hx;rw [OJ (beq_self_eq_true _)];refine⟨me.mpr (g.gx.nm _ hx),me.mpr (g.gx.gp.nm c hc),?_⟩;have e2:bV c.nm wd (.oth (Ip "happens") d nm [.str wd'])=((nm==c.nm) && (wd'==wd)):=by
   unfold bV eM nK;simp
  rw [e2] at h;by_cases h1:(nm==c.nm)=true
  ·rw [OJ h1];refine⟨_,cL,me.mpr wok,me.mpr sok,?_⟩;rw [h1,JU] at h;rw [cM];exact h
  ·rw [OI h1];rw [OI (by intro z;exact h1 (Bool.and_eq_true_iff.mp z).1)] at h;exact h
 ·rw [OI (by simpa using e)];rw [OI (by simp [bV,eM,e])] at h;exact h
def Ic:List OM->(OM->Prop)->Prop:=λds Q=>∃(xs:List De)(c:Pp)(wo kd:Str)(si:cO)(k:Int)(u:Str)(n:Int),ds=[.tuple (xs.map De.enc),(Pt.five wo kd si k u).enc,c.enc,.int n]/\cG xs/\c∈aU xs/\(Pt.five wo kd si k u).Ok/\Q (gU (pj (eN xs c) n (.five wo kd si k u)))
theorem Ie(T:Txt K mg t):az P w K mg base aJ 3 t.a_b t.d_b ["_law_deeds","_law_part","_law_paper","_law_day_here"] (bA K Ic):=by
 have G_X:=@GR P w _ _ base _ T;refine T.F_b.F.okD sd (λds Q h=>?_) (λ_ _ _ _ H O ds Q E hr h=>?_)
 ·obtain⟨xs,c,wo,kd,si,k,u,n,rfl,_⟩:=h;rfl
 ·obtain⟨xs,c,wo,kd,si,k,u,n,rfl,g,hc,pok,q⟩:=h;refine'⟨_,?A,?B⟩
  case A=>
   refine' av ?C ?D
   case C=>exact(bw (i:=4) sd.nd rfl OK (fe (cn (af (ao aO aW (dv 2) ae) aq))))
   case' D=>refine' av ?E ?F
   case E=>
    refine' bZ ?G ?H bY
    case G=>exact(br (xy hr.units) xA (ao aO aW (dv 1) ae) (cE (af bD aq)) (aG _))
    case' H=>refine' av ?I ?J
    case I=>exact(rB (i:=5) sd.nd rfl OK (yL rfl Bj (df (dv 0)) bG ib OG (λ_ _ _ _=>(bC (i:=0) Bj.nd rfl OK)) (λ_ _ _ _=>(mC (PW.pt (nk (br (fU hr) fV (ao aO aW (dv 0) ae) bD (aG _)) (nk (br (dD hr.units) dE (ao aO aW (dv 0) ae) (ao aO aW (dv 1) ae) (aG _)) (nZ (br (dD hr.units) dE (ao aO aW (dv 0) ae) (ao aO aW (ao aO aW (dv 2) ae) ae) (aG _)))))))) (λ_ _ _ _=>(dv 0))))
    case' J=>refine' aC ?K
    case K=>exact(rB (i:=4) sd.nd rfl OK (xT rfl Bk (df (dv 5)) bG ib OG (λ_ _ _ _=>(bC (i:=0) Bk.nd rfl OK)) (λ_ _ _ _=>(mC (br pL ic (ao aO aW (dv 0) ae) (dv 1) (aG _)))) (λ_ _ _ _=>(ao aO aW (dv 0) ae))))
   case' F=>refine' av ?L ?M
   case L=>
    refine' bZ ?N ?O bY
    case N=>exact(br (dD hr.units) dE (dv 4) (fe (cn aq)) (aG _))
    case O=>refine' aC (bq nY)
   case' M=>refine' aC ?P
   case' P=>generalize hG14:Expr.Call _ _ _ _=eg14
   refine' bq ?Q
   case' Q=>subst hG14
   exact(bo G_X hr T.F_X (af (ao aE aF (fe (cn (af (PE.imp (ck (FO rfl) rfl T.n_min Lz (bN (dv 4) bR)) (bX FP)) (af (PE.imp (ck (E6 rfl) rfl T.n_max Na (bN (dv 4) bR)) (bX E7)) aq)))) (PE.imp (nh pO rfl T.n_int nU (bN (l7 (fU hr) fV (df (ao aO aW (ao aO aW (dv 1) ae) ae)) (df bD) (aG _)) bR)) (bX p9))) (af (ao aO aW (dv 1) ae) (af (ao aO aW (dv 1) ae) aq))))
  case B=>
  clear hr T G_X;obtain⟨_,kdok,sok,k0,k1,hu⟩:=pok;have xl:=g.gx.ln;have two:∀{a b c:Str},(I0 [.str a,.str b]).eqv (.tuple [.str c])=false:=λ{a b c}=>by simp [IL,L9]
  cases si with
  | com=>
   simp only [cO.enc,Pt.enc,Pp.enc];walk_at "d";refine⟨OF,OF,?_⟩;rw [OI (by simp [IL,L9])];refine vE (ns:=[c.d]) (ob:=some c.d) hu k0 k1 (λM M1 h1 _ h2 _=>?_) (λz=>by cases z) q;rw [Jv] at h1 h2;subst h1 h2;exact⟨_,by rw [OI OF];exact bO,rfl,(g.d0 _ (vv.mp hc)).1⟩
  | fst wd=>
   simp only [cO.enc,Pt.enc,Pp.enc];walk_at "d";refine⟨(oi (n:=2) (cY (fW OF) (cY (fW sok) qm))).shp OG,OF,?_⟩;rw [OJ two];refine⟨by rw [Iw];omega,dW (bV c.nm wd) De.enc (λx hx R S h=>?_) ?_⟩
   ·cases x with
    | pap p=>
     simp only [De.enc,Pp.enc] at h⊢;walk_at "d";rw [OI (by simp [bV,eM])] at h;exact h
    | oth w d nm r=>
     exact Bp g hc sok hx h (by simp only [De.enc];walk_at "d";exact id)
   ·have fl:=Kv (bV c.nm wd) xs;refine⟨by rw [Iw];omega,dW (λx=>decide (x.d<=n)) (λx=>.int x.d) (λx hx R S h=>?_) ?_⟩
    ·obtain⟨rx,ex⟩:∃r,x.enc= .tuple (.str x.w:: .int x.d:: .str x.nm::r):=by cases x <;> exact⟨_,rfl⟩
     rw [ex];walk_at "d";simpa using h
    ·have e:((xs.filter (bV c.nm wd)).filter λx=>decide (x.d<=n)).map (λx=>Iy x.d)=((((xs.filter (bV c.nm wd)).map λx=>x.d).filter λz=>decide (z<=n))).map Iy:=by
      rw [LN,Kx];rfl
     rw [e];have pm:=sA g c wd n;have up:=sC g c wd n;refine vE hu k0 k1 (λM M1 h1 h2 h3 h4=>?_) (λz=>?_) q
     ·exact⟨M,by rw [OI OF];exact bO,HY up pm h1 h2,Bo g h1⟩
     ·rw [z] at pm;show(di (eN xs c) wd n).head?=none;rw [pm.eq_nil];rfl
  | lst wd=>
   simp only [cO.enc,Pt.enc,Pp.enc];walk_at "d";refine⟨(oi (n:=2) (cY (fW OF) (cY (fW sok) qm))).shp OG,OF,?_⟩;rw [OJ two];refine⟨by rw [Iw];omega,dW (bV c.nm wd) De.enc (λx hx R S h=>?_) ?_⟩
   ·cases x with
    | pap p=>
     simp only [De.enc,Pp.enc] at h⊢;walk_at "d";rw [OI (by simp [bV,eM])] at h;exact h
    | oth w d nm r=>
     exact Bp g hc sok hx h (by simp only [De.enc];walk_at "d";exact id)
   ·have fl:=Kv (bV c.nm wd) xs;refine⟨by rw [Iw];omega,dW (λx=>decide (x.d<=n)) (λx=>.int x.d) (λx hx R S h=>?_) ?_⟩
    ·obtain⟨rx,ex⟩:∃r,x.enc= .tuple (.str x.w:: .int x.d:: .str x.nm::r):=by cases x <;> exact⟨_,rfl⟩
     rw [ex];walk_at "d";simpa using h
    ·have e:((xs.filter (bV c.nm wd)).filter λx=>decide (x.d<=n)).map (λx=>Iy x.d)=((((xs.filter (bV c.nm wd)).map λx=>x.d).filter λz=>decide (z<=n))).map Iy:=by
      rw [LN,Kx];rfl
     rw [e];have pm:=sA g c wd n;have up:=sC g c wd n;have z:=vE (j:=1) hu k0 k1 (ob:=(di (eN xs c) wd n).getLast?) (λM M1 h1 h2 h3 h4=>⟨M1,bS,HZ up pm h3 h4,Bo g h3⟩) (λz=>by
      rw [z] at pm;rw [pm.eq_nil];rfl) q
     simpa only [bS,JB,exists_eq_left'] using z
end
theorem Bq:bz (aw oZ) ["_law_script","_law_names_here","_law_parts_here","_law_deeds","_law_days","_law_deed","_law_day_here","_law_paper","_law_part","_law_due_here","_law_few","_law_some","_law_thing"] ["_law_deed"] 1 [] ⟨IX,[(Iu ".0",Ql),(Iu "_law_deed",Ql)],false,false,[]⟩:= .of
theorem Br:bz (aw oZ) ["_law_script","_law_names_here","_law_parts_here","_law_deeds","_law_days","_law_deed","_law_day_here","_law_paper","_law_part","_law_due_here","_law_few","_law_some","_law_thing"] ["_law_deed","_law_day_here"] 1 [6] ⟨IX,[ (Iu ".0",Ql),(Iu "_law_deed",Ql),(Iu "_law_day_here",Jd)],false,false,[]⟩:= .of
theorem Ig:bz (aw oZ) ["_law_script","_law_names_here","_law_parts_here","_law_deeds","_law_days","_law_deed","_law_day_here","_law_paper","_law_part","_law_due_here","_law_few","_law_some","_law_thing"] ["_law_deeds","_law_thing","_law_parts_here"] 0 [3,12,2] ⟨IX,[ (Iu "_law_deeds",Jd),(Iu "_law_parts_here",Jd),(Iu "_law_thing",Jd),(Iu "reckoning",K4)],false,false,[]⟩:= .of
section
variable {P:OZ} {w:O4} {K:Iq} {mg:Str->Option ON} {base:O3} {t:dU}
def F_e:List OM->(OM->Prop)->Prop:=λds Q=>∃ns:List Int,ds=[cD (ns.map .int)]/\ns.length<=63/\(∀z∈ns,KD z<=1048576)/\Q (.bool true)
def lamQ:Str:="law.<locals>.<lambda>"
theorem Ih:(Ip "law"++Ip ".<locals>.")++Ip "<lambda>"=lamQ:=OF
def sp_law(K:Iq)(PT:OO):Sp:=Aj PT lamQ K F_e
theorem start_law{K:Iq}{H:Hp}{a PT:OO}{ns:List Int}(hl:ns.length<=63)(hb:∀z∈ns,KD z<=1048576)(hP:H PT=some (lV lamQ))(hS:aV K H a (ns.map V.int)):sp_law K PT [.ref a] H (λv _=>v= .bl true) λ_ _ _=>False:=
 ⟨hP,λ_=>False,[cD (ns.map .int)],λd=>d= .bool true,λ_ z=>z.elim,.cons (.scr (by
  rcases hS with h | h
  ·exact .inl ⟨h,λz=>z⟩
  ·exact .inr (.inr h)) (aj.ints ns)) .nil,⟨ns,rfl,hl,hb,rfl⟩,λd v H' e _ r=>by subst e;cases r;rfl⟩
theorem vF(f:De->OM):∀xs:List De,(xs.filter (cZ λ_=>true)).map f=(aU xs).map λp=>f (.pap p)
 | []=>rfl
 | .pap p::xs=>by
  rw [K9,OJ (show cZ (λ_=>true) (De.pap p)=true from rfl),IA,vF f xs];rfl
 | .oth w d nm r::xs=>by
  rw [K9,OI (by simp [cZ])];exact vF f xs
def dX(n:Int)(x:De):Bool:=cZ (λ_=>true) x || decide (x.d<=n)
theorem qA(n:Int):∀xs:List De,aU (xs.filter (dX n))=aU xs
 | []=>rfl
 | .pap p::xs=>by
  rw [K9,OJ (show dX n (De.pap p)=true from rfl)];show p::aU _=p::aU xs;rw [qA n xs]
 | .oth w d nm r::xs=>by
  rw [K9];split
  ·exact qA n xs
  ·exact qA n xs
theorem cG.few{xs:List De}(g:cG xs)(n:Int):cG (xs.filter (dX n)):=by
 have s:∀{x},x∈xs.filter (dX n)->x∈xs:=λh=>(JS.mp h).1;exact⟨⟨by rw [qA];exact g.gx.gp,λw d nm r z=>g.gx.np w d nm r (s z),Jx (Kv _ _) g.gx.ln,λx z=>g.gx.w x (s z),λx z=>g.gx.nm x (s z)⟩,λd nm r z=>g.hp d nm r (s z),λd nm r z=>g.ru d nm r (s z),g.nd.sublist Lk,λx z=>g.d0 x (s z),λx a y b=>g.re x (s a) y (s b)⟩
theorem Bs:∀{l1 l2:List Int},l1.Perm l2->l1.Pairwise (·<=·)->l2.Pairwise (·<=·)->l1=l2
 | [],l2,p,_,_=>by rw [p.nil_eq]
 | a::l1,[],p,_,_=>by have:=p.length_eq;simp at this
 | a::l1,b::l2,p,h1,h2=>by
  have e:a=b:=by
   have m1:a∈b::l2:=p.mem_iff.mp OL;have m2:b∈a::l1:=p.mem_iff.mpr OL;rcases IP.mp m1 with e | m1
   ·exact e
   ·rcases IP.mp m2 with e | m2
    ·exact e.symm
    ·exact M3 ((Jw.mp h1).1 b m2) ((Jw.mp h2).1 a m1)
  subst e;rw [Bs ((Ob a).mp p) (Jw.mp h1).2 (Jw.mp h2).2]
theorem Bt{xs:List De}(g:cG xs)(c:Pp)(wd:Str)(n:Int):di (eN (xs.filter (dX n)).reverse c) wd n=di (eN xs c) wd n:=by
 have rp:=ME (xs.filter (dX n));have g2:=(g.few n).perm rp;refine Bs ?_ (sC g2 c wd n) (sC g c wd n);refine(sA g2 c wd n).trans ((((rp.filter (bV c.nm wd)).map λx=>x.d).filter λz=>decide (z<=n)).trans ?_);refine List.Perm.trans (.of_eq ?_) (sA g c wd n).symm;rw [LN,LN,Lu,Lu,Lu];congr 1;refine List.filter_congr λx _=>?_;show(decide (x.d<=n) && bV c.nm wd x && dX n x)=(decide (x.d<=n) && bV c.nm wd x);unfold dX;cases decide (x.d<=n) <;> cases bV c.nm wd x <;> simp
theorem Ii{xs:List De}(g:cG xs)(c:Pp)(n:Int)(p:Pt):pj (eN (xs.filter (dX n)).reverse c) n p=pj (eN xs c) n p:=by
 cases p with
 | two w kd=>rfl
 | five w kd s k u=>
  show(ph _ n s).map _=(ph _ n s).map _;congr 1;cases s with
  | com=>rfl
  | fst wd=>show(di _ wd n).head?=(di _ wd n).head?;rw [Bt g]
  | lst wd=>show(di _ wd n).getLast?=(di _ wd n).getLast?;rw [Bt g]
theorem Ij(o:Option Int):vC 4 (gU o):=by
 cases o with
 | none=>exact .inl (.inl rfl)
 | some i=>exact .inl (.inr (.inl ⟨i,rfl⟩))
def IK(kd:List (ag×OM))(m:Nat):Prop:=(∀p∈kd,∃z:Int,p.1= .inl z)/\kd.length<=m
theorem IK.put{kd:List (ag×OM)}{m:Nat}(z:Int)(h:IK kd m):IK (mW kd (.inl z) (.bool true)) (m+1):=by
 unfold mW;split
 ·refine⟨λp hp=>?_,by rw [Iw];exact NU h.2⟩;obtain⟨q,hq,rfl⟩:=Jy.mp hp;split
  ·exact h.1 q hq
  ·exact h.1 q hq
 ·refine⟨λp hp=>?_,by rw [Js];have:=h.2;simp;omega⟩;rcases Jf.mp hp with h' | h'
  ·exact h.1 p h'
  ·rw [Jv.mp h'];exact⟨z,rfl⟩
theorem ok_law{c PT:OO}(T:Txt K mg t)(LF:oo base mg c PT)(hco:t.d_e.code= .ref c):az P w K mg base aJ 15 t.a_e t.d_e ["_law_script"] (sp_law K PT):=by
 have G_a:=@HS P w _ _ base _ T;have G_b:=@Ie P w _ _ base _ T;have G_c:=@HX P w _ _ base _ T;have G_R:=@HC P w _ _ base _ T;have G_d:=λbase':O3=>HJ (P:=P) (w:=w) (base:=base') T;have X_reckoning:=λbase':O3=>HI (P:=P) (w:=w) (base:=base') T;refine T.F_e.F.okDL hco eI (λds Q h=>?_) (λcdv A outer s H O ds Q E hcode hP0 hr h=>?_)
 ·obtain⟨ns,rfl,_⟩:=h;rfl
 ·obtain⟨cs,rfl,hl,hb,q⟩:=h;refine'⟨_,?A,?B⟩
  case A=>
   refine' av ?C ?D
   case C=>exact(DW (bo G_a hr T.F_a (af (dv 0) aq)) (vM (n:=3) rfl (pB (bC (i:=1) eI.nd rfl OK) (pB (bC (i:=2) eI.nd rfl OK) (pB (bC (i:=3) eI.nd rfl OK) vL)))) (xq (pZ bG (pZ bG (pZ bG xp)))))
   case' D=>refine' av ?E ?F
   case E=>
    generalize hD4:Expr.Dict _ _ _=ed4;refine' EZ (i:=4) eI.nd rfl OK ?G (hs:=by subst hD4;first | rfl | exact EY)
    case' G=>subst hD4
    refine' Fb ?p4_0
    case p4_0=>
     refine' yK ae nj ?p4_1
     case p4_1=>
      refine' yK ?H nj ?p4_2
      case H=>exact(ai vT aA ae ae)
      case p4_2=>exact E9
   case' F=>refine' av ?I ?J
   case I=>
    refine' ui JC rfl (EB (df (dv 3)) mF (mG ae)) ?K bG ?L
    case K=>exact(bC (i:=5) eI.nd rfl OK)
    case' L=>refine' aC ?M
    case' M=>generalize hG8:NJ _ _=eg8
    refine' xu JC rfl ?N ?O bG ?P (hs:=by subst hG8;intro _;rfl)
    case N=>
     subst hG8;refine' fe ?Q
     case' Q=>refine' cn ?R
     case' R=>refine' af ?S ?T
     case S=>exact(ai cj aQ (ao aO aW (dv 5) ae) ae)
     case' T=>refine' af ?U ?V
     case U=>exact(ao aO aW (dv 5) ae)
     case' V=>refine' af ?W aq
     case W=>exact(ai aN aQ (ao aO aW (dv 5) ae) ae)
    case O=>exact(bC (i:=6) eI.nd rfl OK)
    case' P=>refine' aC ?X
    case X=>exact(E1 (i:=4) hr.units (pv 4) (PE.imp (ck (Cb rfl) rfl T.n_max Na (bN ae (bN (PE.imp (ck (tI rfl) rfl T.n_min Lz (bN ae (bN (dv 6) bR))) (bX uk)) bR))) (bX uk)) nj)
   case' J=>refine' av ?Y ?Z
   case Y=>
    refine' Gp 4 ?a
    case' a=>refine' rg JC rfl (fe (ri rfl Bq (df (dv 3)) bG ib OG (λ_ _ _ _=>(bC (i:=0) Bq.nd rfl OK)) (λ_ _ _ _=>(mC (br (fU hr) fV (ao aO aW (dv 0) ae) bD (aG _)))) (λ_ _ _ _=>(dv 0)))) ?b bG ?c
    case b=>exact(bC (i:=7) eI.nd rfl OK)
    case' c=>refine' aC ?d
    case' d=>refine' rg JC rfl (dv 2) ?e bG ?f
    case e=>exact(bC (i:=8) eI.nd rfl OK)
    case' f=>refine' aC ?g
    case' g=>refine' Gq (i:=4) JC rfl (pv 4) ?h bG ?i
    case h=>exact(bC (i:=6) eI.nd rfl OK)
    case' i=>refine' av ?j ?k
    case j=>exact(bw (i:=9) eI.nd rfl OK (bo G_b hr T.F_b (af (dv 3) (af (dv 8) (af (dv 7) (af (dv 6) aq))))))
    case' k=>refine' av ?l ?m
    case l=>
     refine' bw (i:=10) eI.nd rfl OK ?n (hs:=rF)
     case n=>exact(PE.imp (nh tV rfl T.n_tuple pV (bN (fe (ri rfl Br (df (dv 3)) bG ib OG (λ_ _ _ _=>(bC (i:=0) Br.nd rfl OK)) (λ_ _ _ _=>(mC (PW.pt (uh (br (fU hr) fV (ao aO aW (dv 0) ae) bD (aG _)) (ug (br pL ic (ao aO aW (dv 0) ae) (dv 1) (aG _))))))) (λ_ _ _ _=>(dv 0)))) bR)) (bX uj))
    case' m=>refine' aC ?o
    case' o=>refine' xu JC rfl (fe (cn (af (dv 3) (af (EV (df (dv 10))) aq)))) ?p bG ?q
    case p=>exact(bC (i:=11) eI.nd rfl OK)
    case' q=>refine' aC ?r
    case' r=>refine' bZ ?s ?t bY
    case s=>exact(qY (oO (bo G_c hr T.F_c (af (bo G_R hr T.F_R (af (dv 11) (af (dv 8) (af (ao aO aW (dv 7) ae) (af (dv 6) aq))))) (af (dv 9) aq)))))
    case t=>refine' aC (bq nj)
   case' Z=>refine' av ?u ?v
   case u=>
    generalize hG39:NJ _ _=eg39;refine' rg JC rfl ?w ?x bG ?y (hs:=by subst hG39;intro _;rfl)
    case w=>
     subst hG39;refine' fe ?z
     case' z=>refine' cn ?A0
     case' A0=>refine' af ?A1 ?A2
     case A1=>exact(ao aE aF (dv 1) (x5 ae))
     case' A2=>refine' af bD ?A3
     case' A3=>refine' af nY ?A4
     case' A4=>refine' af ae ?A5
     case' A5=>refine' af nj ?A6
     case' A6=>refine' af ?A7 ?A8
     case A7=>exact(fe (cn (af (ao aE aF (dv 1) ae) aq)))
     case' A8=>refine' af ?A9 ?AA
     case A9=>exact(cE (af (ao aE aF (dv 1) ae) aq))
     case' AA=>refine' af EM ?AB
     case' AB=>refine' af ?AC aq
     case AC=>exact(cE (af (fe (cn aq)) aq))
    case x=>exact(bC (i:=12) eI.nd rfl OK)
    case' y=>refine' aC ?AD
    case' AD=>refine' bZ ?AE ?AF bY
    case AE=>exact(qY (oO (Gd (C:=t.u_NoPaper) (k0:=13) G_d X_reckoning (hr.mono OG) T.F_d T.F_R hP0 LF hcode Ih Ig OG (λ_=>rfl) (λ_ _ _ _ _ _ _ _ _=>(af (dv 0) (af (ao aE aF (dv 2) ae) (af (dv 1) (af ae aq))))))))
    case AF=>refine' aC (bq nj)
   case v=>refine' aC (bq nj)
  case B=>
  clear G_a G_b G_c G_R G_d X_reckoning hr T LF hcode hP0;walk_at "d";refine⟨cs,rfl,λns pts xs g nn n2 n5 hin hnl hp p0 p6=>?_⟩;obtain⟨nl,_,enl,nlp⟩:=hnl;have xl:=g.gx.ln;have c7:bI (xs.map De.enc) none (some 7)=(xs.map De.enc).take 7:=Bd (k:=7) _;generalize hA:cV (eg (dL (dB _ _ _ _ _ _)) _ _) _=TA;walk_at "d";refine⟨OG,[(.inl 99999,.bool true),(.inl (10 ^ Oe 9),.bool true)],rfl,OG,?_,?_⟩
  ·intro p hp;simp only [IP,K8,or_false] at hp;rcases hp with e | e <;> rw [e]
  refine⟨λi δ=>∃(kd:List (ag×OM))(o6 o7:Option Sl),IK kd (2+3*i)/\δ=[some (Sl.v (cD (JG Iy cs))),some (Sl.v (IY (JG ID ns))),some (Sl.v (IY (JG Pt.enc pts))),some (Sl.v (I0 (JG De.enc xs))),some (Sl.k kd),o6,o7,none,none,none,none,none,none],⟨_,_,_,⟨?_,?_⟩,rfl⟩,?_,?_⟩
  ·intro p hp;have e:List.foldl (λ(a:List (ag×OM)) p=>mW a p.fst p.snd) [] [(.inl 99999,.bool true),(.inl (10 ^ Oe 9),.bool true)]=[(.inl 99999,.bool true),(.inl (10 ^ Oe 9),.bool true)]:=rfl;rw [e] at hp;simp only [IP,K8,or_false] at hp;rcases hp with e | e <;> rw [e] <;> exact⟨_,rfl⟩
  ·decide+kernel
  ·rintro i z δ hz ⟨kd,o6,o7,ik,rfl⟩;rw [c7,List.getElem?_take] at hz;split at hz
   ·rename_i i7;rw [IS] at hz;cases hz':xs[i]? with
    | none=>rw [hz'] at hz;cases hz
    | some x=>
     rw [hz'] at hz;cases hz;obtain⟨rx,ex⟩:∃r,x.enc= .tuple (.str x.w:: .int x.d:: .str x.nm::r):=by cases x <;> exact⟨_,rfl⟩
     rw [ex];walk_at "d";have l1:=ik.2;refine⟨OH,NL (ik.put _).2 OH,NL ((ik.put _).put _).2 OH,?_⟩;exact⟨_,⟨(((ik.put _).put _).put _).1,Jx (((ik.put _).put _).put _).2 OH⟩,rfl,_,rfl⟩
   ·cases hz
  ·rintro δ ⟨kd,o6,o7,ik,rfl⟩;have ik:IK kd 23:=⟨ik.1,Jx ik.2 (by rw [c7,KW];omega)⟩;subst hA;generalize hB:cV (d9 _ (dN 12) _) _=TB;walk_at "d";refine⟨by rw [Iw];omega,dW (cZ λ_=>true) De.enc (λx hx R S h=>?_) ?_⟩
   ·cases x with
    | pap p=>
     simp only [De.enc,Pp.enc] at h⊢;walk_at "d";rw [OJ (show cZ (λ_=>true) (De.pap p)=true from rfl)] at h;exact h
    | oth wo n nm l=>
     simp only [De.enc] at h⊢;walk_at "d";rw [eL (g.gx.np _ _ _ _ hx),OI IF];rw [OI (by simp [cZ])] at h;exact h
   rw [vF];refine⟨λi δ=>∃o5 o6 o7 o8 o9 o10 o11,δ=[some (Sl.v (cD (JG Iy cs))),some (Sl.v (IY (JG ID ns))),some (Sl.v (IY (JG Pt.enc pts))),some (Sl.v (I0 (JG De.enc xs))),some (Sl.f kd),o5,o6,o7,o8,o9,o10,o11,none],⟨_,_,_,_,_,_,_,rfl⟩,?_,?_⟩
   ·rintro i z δ hz ⟨o5,o6,o7,o8,o9,o10,o11,rfl⟩;rw [IS] at hz;cases hz':(aU xs)[i]? with
    | none=>rw [hz'] at hz;cases hz
    | some c=>
     rw [hz'] at hz;cases hz;have hc:c∈aU xs:=Jj hz';walk_at "d";refine⟨λi δ=>∃o5 o6 o8 o9 o10 o11,δ=[some (Sl.v (cD (JG Iy cs))),some (Sl.v (IY (JG ID ns))),some (Sl.v (IY (JG Pt.enc pts))),some (Sl.v (I0 (JG De.enc xs))),some (Sl.f kd),o5,o6,some (Sl.v c.enc),o8,o9,o10,o11,none],⟨_,_,_,_,_,_,rfl⟩,?_,?_⟩
     ·rintro j z δ hz ⟨o5,o6,o8,o9,o10,o11,rfl⟩;rw [IS] at hz;cases hj:pts[j]? with
      | none=>rw [hj] at hz;cases hz
      | some p=>
       rw [hj] at hz;cases hz;have hpm:=Jj hj;obtain⟨pok,wo,kdn,si,k,u,rfl⟩:=hp p hpm;walk_at "d";refine⟨kd,rfl,λi δ=>∃o5 o6 o9 o10 o11,δ=[some (Sl.v (cD (JG Iy cs))),some (Sl.v (IY (JG ID ns))),some (Sl.v (IY (JG Pt.enc pts))),some (Sl.v (I0 (JG De.enc xs))),some (Sl.f kd),o5,o6,some (Sl.v c.enc),some (Sl.v (Pt.five wo kdn si k u).enc),o9,o10,o11,none],⟨_,_,_,_,_,rfl⟩,?_,?_⟩
       ·rintro m z δ hz ⟨o5,o6,o9,o10,o11,rfl⟩;rw [IS] at hz;cases hm:kd[m]? with
        | none=>rw [hm] at hz;cases hz
        | some q0=>
         rw [hm] at hz;cases hz;obtain⟨z,ez⟩:=ik.1 q0 (Jj hm);show dN 6 (dR q0.fst) _ _;rw [ez];simp only [dR];walk_at "d";refine⟨xs,c,wo,kdn,si,k,u,z,rfl,g,hc,pok,?_⟩;show _<=_/\_;obtain⟨_,_,sok,_,_,hu⟩:=id pok;refine⟨by rw [Iw];omega,dW (dX z) De.enc (λx hx R S h=>?_) ?_⟩
         ·cases x with
          | pap p=>
           simp only [De.enc,Pp.enc] at h⊢;walk_at "d";rw [OJ (show dX z (De.pap p)=true from rfl)] at h;exact h
          | oth wo n nm l=>
           simp only [De.enc] at h⊢;walk_at "d";rw [eL (g.gx.np _ _ _ _ hx),OI IF];have e:dX z (De.oth wo n nm l)=decide (n<=z):=rfl;rw [e] at h;simpa using h
         ·have ft:=Ij (pj (eN xs c) z (Pt.five wo kdn si k u));refine⟨_,rfl,_,cA,xs,c,wo,kdn,si,k,u,z,rfl,g,hc,sok,hu,_,rfl,ft,true,rfl,?_⟩;rw [OI OL];refine⟨_,rfl,_,cA,(xs.filter (dX z)).reverse,c,wo,kdn,si,k,u,z,by rw [List.map_reverse],(g.few z).perm (ME _),?_,sok,hu,?_⟩
          ·have:c∈aU (xs.filter (dX z)):=by rw [qA];exact hc
           exact((ME (xs.filter (dX z))).filterMap De.pp).mem_iff.mpr this
          rw [Ii g];refine⟨_,rfl,ft,true,rfl,?_⟩;rw [OI OL];exact⟨_,rfl⟩
       ·rintro δ ⟨o5,o6,o9,o10,o11,rfl⟩;exact⟨_,_,_,_,_,_,rfl⟩
     ·rintro δ ⟨o5,o6,o8,o9,o10,o11,rfl⟩;exact⟨_,_,_,_,_,_,_,rfl⟩
   ·rintro δ ⟨o5,o6,o7,o8,o9,o10,o11,rfl⟩;subst hB;walk_at "d";obtain⟨n0,hn0,e0,g0⟩:=mO nn (i:=0) OG OH;refine⟨_,enl,_,e0,_,e0,?_⟩;have odd:∀z∈[ID nl,ID (Ip ""),M6,Iy 0,Mq true,IY [.str n0],I0 [.str n0],OC [],I0 [IY []]],so xs z:=λz hz=>by
     simp only [IP,K8,or_false] at hz;rcases hz with h | h | h | h | h | h | h | h | h
     ·rw [h];exact⟨rfl,λp hp=>by rw [cM];exact eL (nlp p hp)⟩
     ·rw [h];refine⟨rfl,λp hp=>?_⟩;rw [cM];refine eL λe=>?_;have:=(nn _ (hin p hp)).lo;rw [e] at this
      revert this;decide+kernel
     all_goals (rw [h];exact⟨rfl,λp hp=>by simp [IL]⟩)
    generalize [ID nl,ID (Ip ""),M6,Iy 0,Mq true,IY [.str n0],I0 [.str n0],OC [],I0 [IY []]]=L at odd⊢;refine⟨λi δ=>∃o12,δ=[some (Sl.v (cD (JG Iy cs))),some (Sl.v (IY (JG ID ns))),some (Sl.v (IY (JG Pt.enc pts))),some (Sl.v (I0 (JG De.enc xs))),some (Sl.f kd),o5,o6,o7,o8,o9,o10,o11,o12],⟨_,rfl⟩,?_,?_⟩
    ·rintro i z δ hz ⟨o12,rfl⟩;have np:=odd z (Jj hz);walk_at "d";exact⟨_,gX (j:=0) (by rw [IS,IQ p0];rfl),xs,_,z,99999,rfl,g.gx,np,_,rfl⟩
    ·rintro δ ⟨o12,rfl⟩;walk_at "d";exact q
end
end K13
namespace PySem.W.Fast
def tw15814787845177173868:=0
def tw15885689328765329726:=0
def tw16435470430684645022:=0
def tw1170046532835536538:=0
def tw16677836001278970307:=0
def tw11916485624904182700:=0
def tw7565903029282418292:=0
def tw3125098644824020356:=0
def tw1792610376952976182:=0
def tw1228749501659451719:=0
def tw17356647673447633937:=0
def tw9535569956585163425:=0
def tw9158702252962230885:=0
def tw14654342953274566397:=0
def tw7899875216507503708:=0
def tw17832168948651598766:=0
def tw14917814054454321414:=0
def tw643302851445307040:=0
def tw4829904813768804251:=0
def tw4700767693706807990:=0
def tw11579494287823815615:=0
def tw4324373028324292702:=0
def tw13315942112921308893:=0
def tw14101155330927246276:=0
def tw10526636008000063526:=0
def tw11847826066629985950:=0
def tw408971943839726994:=0
def tw12328032340464334007:=0
def tw14553194175810598488:=0
def tw2289708863906477326:=0
def tw14595490179591531715:=0
def tw2979851329272611649:=0
def tw16084120386977110596:=0
def tw12130090990824319005:=0
def tw1634797310996322678:=0
def tw8359290146067442461:=0
def tw14529993120161383580:=0
def tw12544264800116398645:=0
def tw150812135692788272:=0
def tw6466239668715635775:=0
def tw15155295180064697772:=0
def tw14258458728288234174:=0
def tw14224367067215462935:=0
def tw4944991851835058889:=0
def tw8044064752490810029:=0
def tw6047958511184944837:=0
def tw6479646091072931897:=0
def tw8130262693511968284:=0
def tw6016430974437616631:=0
def tw12627185940835114921:=0
def tw13835733043626464778:=0
def tw16853431225202606487:=0
def tw244858022931817474:=0
def tw17172297874185111159:=0
def tw14735162482295548256:=0
def tw6178887713134460099:=0
def tw16964429203452269411:=0
def tw14833251258906637165:=0
def tw433901945787925179:=0
def tw4543363151294284588:=0
def tw8467008240398898807:=0
def tw17150918838711078172:=0
def tw17319367661514779521:=0
def tw11286367202954935681:=0
def tw6880922585414141247:=0
def tw4248977767269617357:=0
def tw10422803912347082123:=0
def tw14343398800561868283:=0
def tw16471115053437835579:=0
def tw18040760339563348836:=0
def tw16931656870781896549:=0
def tw14665158681301145402:=0
def tw11327616988075818442:=0
def tw11564295780747486733:=0
def tw8653888650246985183:=0
def tw17196811197707950053:=0
def tw6190171187224382646:=0
def tw457154807511398643:=0
def tw8858408594529291875:=0
def tw12787919248363292883:=0
def tw17895954120142862668:=0
def tw17417344851637718855:=0
def tw1866465211727497111:=0
def tw4784503520710386362:=0
def tw5214599235908558498:=0
def tw4807837546143624913:=0
def tw3841438543148663182:=0
def tw1094090990548044799:=0
def tw9018251349771127111:=0
def tw15164770846110955432:=0
def tw1286057512455606789:=0
def tw1983642142657407059:=0
def tw13263732292826784664:=0
def tw7512185991258631607:=0
def tw2059602103788689352:=0
def tw7299425955819501293:=0
def tw7390834629624216542:=0
def tw11834510176833198362:=0
def tw17085690013789339516:=0
def tw1363133532681045136:=0
def tw15869071835647032563:=0
def tw4043509920438999475:=0
def tw5274082079340658946:=0
def tw5010318755553725644:=0
def tw16822400193193574419:=0
def tw14016605154789043281:=0
def tw4917078734077880921:=0
def tw2605727364614578996:=0
def tw15418681465192626597:=0
def tw13509231599436564457:=0
def tw14586591060452681346:=0
def tw6362975430068550861:=0
def tw6495328295947454042:=0
def tw4310120831657568115:=0
def tw6762697842198692026:=0
def tw17842728840919933773:=0
def tw2950101340864584326:=0
def tw9125489236749875721:=0
def tw3531926444991908430:=0
def tw10655162827672818926:=0
def tw9564827250702641235:=0
def tw189874700511206700:=0
def tw9148847575722536473:=0
def tw8384927595223706474:=0
def tw13119221990789444283:=0
def tw1628463266559389693:=0
def tw1726696116088419728:=0
def tw8114233434349936605:=0
def tw6289572711913902587:=0
def tw4794378192057307988:=0
def tw2656631505937730305:=0
def tw1637555534862951741:=0
def tw13111679339324097186:=0
def tw5909469672946092838:=0
def tw3811375619765734361:=0
def tw11936384850790752632:=0
def tw10234933837250546778:=0
def tw616685991396893819:=0
def tw18323103752803116290:=0
def tw3749574876607657008:=0
def tw9430006778830408526:=0
def tw10059789108182273205:=0
def tw1581556786680856064:=0
def tw4536495399779015852:=0
def tw9623160932245085797:=0
def tw8771233422153702162:=0
def tw6864977346426778980:=0
def tw4553532562354878311:=0
def tw2594727942824565878:=0
def tw7126805283149900096:=0
def tw15012110000526744128:=0
def tw15991165418916289627:=0
def tw11159002095337887654:=0
def tw6175146484485665447:=0
def tw7974642612815668279:=0
def tw15804205112332719139:=0
def tw6089054998668186158:=0
def tw15562508117710536469:=0
def tw2270809241097377343:=0
def tw17099322076020926003:=0
def tw17558959874257756164:=0
def tw8566574686936018890:=0
def tw18277196584729607026:=0
def tw423779310160894418:=0
def tw13731158831703164644:=0
def tw18279018486614925519:=0
def tw10976557168312160490:=0
def tw17341316993127572410:=0
def tw5790860519941749425:=0
def tw9413934921337504132:=0
def tw15248129375836022143:=0
def tw8227796248688064689:=0
def tw8507245199052564259:=0
def tw15252609922145694177:=0
def tw86160536405255791:=0
def tw10497158947116113956:=0
def tw15297600077154963617:=0
def tw17030336483674265632:=0
def tw4840707795391861502:=0
def tw537870286344730187:=0
def tw4117836849845100197:=0
def tw3817361856092331703:=0
def tw3188956783768439559:=0
def tw11042832995029488587:=0
def tw7613312199796896025:=0
def tw12643532799330001178:=0
def tw12725147025684078586:=0
def tw15784856281206213314:=0
def tw6229730895223674366:=0
def tw5231394480768141411:=0
def tw11526604727910994584:=0
def tw17018903324103136597:=0
def tw681491877425420851:=0
def tw2493853472975819588:=0
def tw6669746363066997506:=0
def tw5896971996436689476:=0
def tw5341134327418381649:=0
def tw17025519196811621022:=0
def tw16712066959193069342:=0
def tw16279028115849655774:=0
def tw11930274552013305522:=0
def tw9835186415233991810:=0
def tw2625045297470510195:=0
def tw12420545995999479701:=0
def tw8078441831281220073:=0
def tw10574523297862485441:=0
def tw6641795299246310575:=0
def tw12078386020929338985:=0
def tw2485491894454130552:=0
def tw8646921429988143647:=0
def tw7080331370205825995:=0
def tw2638630751637038486:=0
def tw6490040488629795994:=0
def tw3730426530072610489:=0
def tw7680313972386311302:=0
def tw6601421281954935233:=0
def tw16714836030254506337:=0
def tw7114079760504387794:=0
def tw2545939859166212825:=0
def tw14549084791084519403:=0
def tw14191428751995858661:=0
def tw6692178473442397299:=0
def tw14735418333280652197:=0
def tw14219255599646691215:=0
def tw9005713419909162527:=0
def tw2271698227119861682:=0
def tw13907753771097641162:=0
def tw5938046378226103117:=0
def tw15098755044837365041:=0
def tw7596116427483154817:=0
def tw234419813741737261:=0
def tw12626420709676352770:=0
def tw18149680425832697064:=0
def tw7620238939413454397:=0
def tw14678809663789814474:=0
def tw15349767544546319982:=0
def tw11720057401566918646:=0
def tw9437310425546237467:=0
def tw15239647847026188956:=0
def tw5391066120092627664:=0
def tw4061556595222919438:=0
def tw15777301292483257358:=0
def tw9638336958404781230:=0
def tw7182289516296934547:=0
def tw697582692286973014:=0
def tw6868137354655548028:=0
def tw5674184366983565645:=0
def tw2490532392331528640:=0
def tw16508934710710308051:=0
def tw1644905319647725126:=0
def tw1538136188226694901:=0
def tw1519933833416866752:=0
def tw1443080900444416342:=0
def tw13300690422502541579:=0
def tw12987388609426334340:=0
def tw14897406767154819356:=0
def tw18177526706526030462:=0
def tw12353816785458272165:=0
def tw3577538416963384671:=0
def tw1464697974524509930:=0
def tw11716875622646101843:=0
def tw5957585456346988595:=0
def tw4686905011173452531:=0
def tw7219769857137622252:=0
def tw8919690158717791425:=0
def tw13090816150298339464:=0
def tw1058049716398413630:=0
def tw15594027182817277172:=0
def tw1084603418645479774:=0
def tw13767671810507022816:=0
def tw2439482196061851496:=0
def tw16704082367437677792:=0
def tw15818045588832757985:=0
def tw14424669308442859756:=0
def tw1082316099723474306:=0
def tw7538119375200721674:=0
def tw4298272771910286376:=0
def tw4720491064980969701:=0
def tw9845310424829801200:=0
def tw7803180428611516835:=0
def tw6834869391858812416:=0
def tw3360022353949043422:=0
def tw16717102338883546342:=0
def tw15904095731292032551:=0
def tw15490851691428023114:=0
def tw13929096654366806072:=0
def tw13921952443919977426:=0
def tw12380142254633776212:=0
def tw11046970367184389608:=0
def tw10678922572928182816:=0
def tw10647837629459551592:=0
def tw8680660922994820616:=0
def tw9973937436411292278:=0
def tw8729719965596731967:=0
def tw7603404362827329726:=0
def tw6501619381039445949:=0
def tw4943856974034913866:=0
def tw3079175620025866206:=0
def tw2737730743910398714:=0
def tw2518527699471293395:=0
def tw2391889596197061898:=0
def tw17942408930217148032:=0
def tw15717801137992406702:=0
def tw11618241990078592373:=0
def tw11561030407408870820:=0
def tw9350386834296912518:=0
def tw868606917359506425:=0
def tw8606592559422043576:=0
def tw8253553576787561134:=0
def tw775986644583164661:=0
def tw7418918850607535805:=0
def tw7039869797208098187:=0
def tw648174155301526379:=0
def tw3482276405605564556:=0
def tw2375083817977817883:=0
def tw14449489735813915338:=0
def tw13300702219797754581:=0
def tw9829529373380304691:=0
def tw9742360283633339610:=0
def tw9420669219888727586:=0
def tw9377146823445016795:=0
def tw7335914770601452084:=0
def tw7265931068304041411:=0
def tw7062050682067461778:=0
def tw6469321230274485744:=0
def tw3834951268684269984:=0
def tw16206976693735256114:=0
def tw14771822924989501187:=0
def tw13879657697114581020:=0
def tw12805818868959182572:=0
def tw9414157416422260766:=0
def tw9393478741600426331:=0
def tw9319034547972332998:=0
def tw924792848059911010:=0
def tw8937448527402443143:=0
def tw8761158212653689381:=0
def tw8679224878281791132:=0
def tw8408550155761856216:=0
def tw8325839200338199468:=0
def tw8153959607766094799:=0
def tw7578452928311023214:=0
def tw7360267587603029634:=0
def tw7318125218906144336:=0
def tw7243799319404052480:=0
def tw717703305760001509:=0
def tw6999469068172998834:=0
def tw6968996528865434881:=0
def tw6790355107209919765:=0
def tw6702717453075147253:=0
def tw6649645398208482091:=0
def tw6623555021773332499:=0
def tw6370848763074270545:=0
def tw6012713211829473643:=0
def tw6008624161721913044:=0
def tw5651652390289228971:=0
def tw553173674842696418:=0
def tw5502655130164821664:=0
def tw5387868877040852927:=0
def tw5332864527535742419:=0
def tw5093203669702995541:=0
def tw4690208879803987465:=0
def tw4408893180698584127:=0
def tw4076117756203532013:=0
def tw3978815495580459365:=0
def tw3726461677596574891:=0
def tw3622160167690140076:=0
def tw3592262842408319082:=0
def tw3341308432737162810:=0
def tw3239980116344098445:=0
def tw3208499839868348969:=0
def tw312003470626163663:=0
def tw2840185971354270773:=0
def tw2686480603777167502:=0
def tw2465943972090370147:=0
def tw18243159830963779096:=0
def tw18137613784037397913:=0
def tw18112668224094566304:=0
def tw17977226738761695588:=0
def tw17916398129426058876:=0
def tw1758266913883477357:=0
def tw17489775455405821064:=0
def tw17308101965130266627:=0
def tw17217290128216502095:=0
def tw17081915294899555450:=0
def tw17013249903737301072:=0
def tw1623509230650959323:=0
def tw16194725387699809320:=0
def tw15877697398383356941:=0
def tw15760099692512110036:=0
def tw15387111932507707431:=0
def tw1520494416808972857:=0
def tw15150825793307124067:=0
def tw14627260116268708507:=0
def tw14603694393265236575:=0
def tw14526884308887216898:=0
def tw14315181028264768447:=0
def tw13994527263052575315:=0
def tw13900756177704631382:=0
def tw13469727350083039876:=0
def tw13242298673475817692:=0
def tw13156655645989774085:=0
def tw13125295357055935525:=0
def tw12975213614280086547:=0
def tw1274304672362655183:=0
def tw12544786999451157532:=0
def tw12177200279525433913:=0
def tw11734861860262725491:=0
def tw11655880022028109763:=0
def tw11319478978791876030:=0
def tw113035951300463709:=0
def tw11286260721703576671:=0
def tw10841593301156397631:=0
def tw10644500961098909478:=0
def tw10408262695102255038:=0
end PySem.W.Fast
open PySem PySem.W PyProof.Rows
local macro_rules | `(tactic| walk_at "f")=>`(tactic| (refine' L2.DfT.of ?a ?l ?c ?k;(case a=>k_is);(case l=>k_is);(case c=>k_is);(case k=>k_is)))
local macro_rules | `(tactic| walk_at "m")=>`(tactic| (refine' L2.DmT.of ?a ?i ?l ?c ?k;(case a=>k_is);(case i=>k_is);(case l=>k_is);(case c=>k_is);(case k=>k_is)))
local macro_rules | `(tactic| walk_at "c")=>`(tactic| (refine'⟨⟨?a,?i,?l,?c⟩,?m,?k⟩;(case a=>k_is);(case i=>k_is);(case l=>k_is);(case c=>k_is);(case m=>k_is);(case k=>k_is)))
set_option maxRecDepth 100000 in
theorem PySem.Challenge.cw_goneday_k13_reckonings_holds : PySem.Challenge.rw_goneday_k13_reckonings.Holds := by
 w_on;o_law;k_head;(case hw=>w_witness2)
 k_fill
 refine' L2.walk_ofTK (l:=PySem.Challenge.rw_goneday_k13_reckonings) (n:=63) (k:=15) (x:="_law_script") (qn:=K13.lamQ) (c:=?cc) (PT:=?pp) (sp:=K13.sp_law) rfl OG rfl ⟨rfl,OG,OG⟩ (λw h Y=>PySem.W.km_in_of Y) rfl ?F ?S
 case F=>
  intro w mg fa h KX G hmg;have hnt:PySem.W.noTabs (L2.KOf KX)=true:=by
   dsimp only [L2.KOf]
   kernel_rfl
  have hti:PySem.W.tabIn (L2.KOf KX) "law"=some (?cc,?pp):=by
   dsimp only [L2.KOf];refine' L2.tabIn_of ?a ?b ?c ?d ?e
   (case a | b=>k_is)
   (case c=>rfl)
   (case d=>k_is)
   (case e=>rfl)
  have T:∃t,K13.Txt (L2.KOf KX) mg t:=by
   dsimp only [L2.KOf];refine' K13.txt_mk KX G ?za ?zb ?zc ?zd ?ze ?zf ?zg ?zh ?zi ?zj ?zk ?zl ?zm ?zn ?zo ?zp ?zq ?zr ?zs ?zt ?zu ?zv ?zw ?zx ?zy ?zz ?zA ?zB ?zC ?zD ?zE ?zF ?zG ?zH ?zI ?zJ ?zK ?zL ?zM ?zN ?zO ?zP ?zQ ?zR ?zS ?zT ?zU ?zV ?zW ?zX ?zY ?zZ ?ya ?yb ?yc ?yd ?ye ?yf ?yg ?yh ?yi ?yj ?yk ?yl ?ym ?yn ?yo ?yp ?yq ?yr ?ys ?yt ?yu ?yv ?yw ?yx ?yy ?yz ?yA ?yB ?yC ?yD ?yE ?yF ?yG ?yH ?yI
   (case za | zb | zc | zd | ze | zf | zg | zh | zj | zk | zl | zm | zn | zo | zp | zq | zr | zs | zt | zu | zv | zw | zx | zy | zz | zA | zB | zC | zD | zE=>walk_at "f")
   (case zF | zG=>k_is)
   (case zH=>first | (repeat (first | exact .nil | refine .cons ⟨_,rfl⟩ ?_)))
   (case zI=>decide)
   (case zJ=>k_is)
   (case zK=>exact⟨_,rfl⟩)
   (case zL=>k_is)
   (case zM=>exact⟨_,rfl⟩)
   (case zN=>k_is)
   (case zO=>exact⟨_,rfl⟩)
   (case zP | zQ | zR | zS | zT | zU | zV | zW | zX | zY | zZ | ya | yb=>k_is)
   (case yc=>walk_at "c")
   (case yd | ye | yf | yg | yh=>unfold L2.NoAttr;k_is)
   (case yi | yj | yk | yl | ym | yn | yo | yp | yq | yr | ys | yt | yu=>first | k_is | k_exc | kit_is)
   (case yv | yw | yx | yy | yz | yA | yB | yC | yD | yE | yF | yG | yH | yI=>k_is)
   (case zi=>walk_at "m")
  obtain⟨t,T⟩:=T;have e0:=hmg.symm.trans T.F_e.m;cases e0;have hF:∃oc od osl,(L2.KOf KX).lookup t.a_e=some ⟨oc,od,.func t.d_e,osl⟩:=by
   obtain⟨oc,od,kV,doc,pm,an,cdv,ct,osl,e,lk,_⟩:=T.F_e.F.ex;exact⟨oc,od,osl,lk⟩
  exact⟨t.d_e,hnt,hti,T.bt_e,hF,λbase kb nb LF hco=>K13.ok_law T LF hco⟩
 case S=>exact λK H a ns hl hb hP hS=>K13.start_law hl hb hP hS
